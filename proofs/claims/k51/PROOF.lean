import PyProof.Rows.All
import Wide.All
import KE.KSortKey
import KE.KIsAll
import Wide.FinOn
import Lean
import PyProof.EqAt
import PyProof.EqKinds
import PyProof.TupleCall
import PyProof.Rows.SortPure
import KE.KLcPair
import PySem.Builtin.Int.W1All
import PySem.Sem
import PyProof.StrBlockL
import PyProof.SliceStr2
import PyProof.StrCalls2
import PyProof.WalkInts
import PyProof.Rows.StrStep
import PyProof.FactsAll.tuple_0
import PyProof.FactsAll.tuple_2
import PyProof.FactsAll.tuple_3
import PyProof.EnumStmt
import PyProof.EnumMake
import PyProof.EnumFor
import PyProof.Rows.EnumRows
import PyProof.FactsAll.list_3
import PyProof.Rows.SetFrom
import PyProof.SetRoads
import PySem.Challenge.RW_signright_k51_weights_or_a_trade
set_option Elab.async false
set_option linter.all false
set_option maxRecDepth 100000
set_option maxHeartbeats 0
set_option genSizeOf false
set_option genSizeOfSpec false
local macro_rules | `(tactic| omega) => `(tactic| lia)
namespace L2
open PySem PySem.Spec PyProof.Rows
noncomputable abbrev Key:=Sum Int Str
noncomputable def Iv:Key->Value->Bool
 |.inl k,v=>Value.isInt k v
 |.inr x,v=>Value.isStrOf x v
noncomputable def OW(w:World):Key->Int
 |.inl k=>hashInt k
 |.inr x=>hashStr w x
theorem de:∀{k:Key} {v:Value},Iv k v=true->(∃i t,k=Sum.inl i/\v=Value.int i t)\/(∃x t,k=Sum.inr x/\v=Value.str x t)
 |.inl i,v,h=>by
  obtain⟨t,e⟩:=Value.isInt_shape (k:=i) (v:=v) h
  exact .inl ⟨i,t,rfl,e⟩
 |.inr x,v,h=>by
  obtain⟨t,e⟩:=Value.isStrOf_shape (x:=x) (v:=v) h
  exact .inr ⟨x,t,rfl,e⟩
theorem JA(a b:Int):decide ((Sum.inl a:Key)=Sum.inl b)=(a==b):=by
 by_cases e:a=b
 ·subst e;simp
 ·have h:¬(Sum.inl a:Key)=Sum.inl b:=λq=>e (Sum.inl.inj q)
  rw[decide_eq_false h]
  exact(beq_eq_false_iff_ne.mpr e).symm
theorem JB(a b:Str):decide ((Sum.inr a:Key)=Sum.inr b)=decide (a=b):=by
 by_cases e:a=b
 ·subst e;simp
 ·have h:¬(Sum.inr a:Key)=Sum.inr b:=λq=>e (Sum.inr.inj q)
  rw[decide_eq_false h,decide_eq_false e]
theorem JC(a:Int)(b:Str):decide ((Sum.inl a:Key)=Sum.inr b)=false:=decide_eq_false (λq=>nomatch q)
theorem JD(a:Str)(b:Int):decide ((Sum.inr a:Key)=Sum.inl b)=false:=decide_eq_false (λq=>nomatch q)
noncomputable def zj(prog:Program)(w:World):PySem.KeyKind prog w Key where
 is:=Iv
 hash:=OW w
 inj:=λv a b ha hb=>by
  rcases de ha with⟨i,t,rfl,rfl⟩|⟨x,t,rfl,rfl⟩
  ·rcases de hb with⟨j,u,rfl,e⟩|⟨y,u,rfl,e⟩
   ·injection e with e1 _;rw[e1]
   ·exact nomatch e
  ·rcases de hb with⟨j,u,rfl,e⟩|⟨y,u,rfl,e⟩
   ·exact nomatch e
   ·injection e with e1 _;rw[e1]
 byValue:=λk v h=>by
  rcases de h with⟨i,t,rfl,rfl⟩|⟨x,t,rfl,rfl⟩<;>rfl
 pyHash:=λhv h=>by
  rcases de hv with⟨i,t,rfl,rfl⟩|⟨x,t,rfl,rfl⟩
  ·exact wpAny_pyHash_int h
  ·exact wpAny_pyHash_str h
 eqBool:=λhu hv h=>by
  rcases de hu with⟨i,t,rfl,rfl⟩|⟨x,t,rfl,rfl⟩
  ·rcases de hv with⟨j,u,rfl,rfl⟩|⟨y,u,rfl,rfl⟩
   ·rw[JA]at h;exact wpAny_eqBool_int h
   ·rw[JC]at h;exact SeqAt.EqAt.int_str i t y u _ _ _ _ h
  ·rcases de hv with⟨j,u,rfl,rfl⟩|⟨y,u,rfl,rfl⟩
   ·rw[JD]at h;exact SeqAt.EqAt.str_int x t j u _ _ _ _ h
   ·rw[JB]at h;exact wpAny_eqBool_str h
 «strs»:=λk x t v h=>by
  rcases de h with⟨i,u,rfl,e⟩|⟨y,u,rfl,e⟩
  ·exact nomatch e
  ·injection e with e1 _
   subst e1
   cases v<;>rfl
inductive V where
 |non|bl(b:Bool)|int(i:Int)|str(x:Str)|byt(b:Array UInt8)|flt(b:UInt64)|ref(a:Addr)|ty(n:String)
 deriving DecidableEq
noncomputable def RelV:V->Value->Prop
 |.non,u=>u=Value.none
 |.bl b,u=>u=Value.bool b
 |.int i,u=>∃t,u=Value.int i t
 |.str x,u=>∃t,u=Value.str x t
 |.byt b,u=>∃t,u=Value.bytes b t
 |.flt b,u=>∃t,u=Value.float b t
 |.ref a,u=>u=Value.ref a
 |.ty n,u=>u=Value.type n
noncomputable abbrev Vals:List V->List Value->Prop:=Paired RelV
theorem Vals.length{xs:List V}{us:List Value}(r:Vals xs us):xs.length=us.length:=Paired.length r
theorem Vals.get:∀{xs:List V} {us:List Value} {i:Nat} {x:V},Vals xs us->xs[i]?=some x->∃u,us[i]?=some u/\RelV x u
 |_,_,_,_,.nil,e=>by simp at e
 |_,_,0,_,.cons r _,e=>by simp at e;subst e;exact⟨_,rfl,r⟩
 |_,_,i+1,x,.cons _ t,e=>by
  obtain⟨u,h1,h2⟩:=Vals.get (i:=i) (x:=x) t (by simpa using e)
  exact⟨u,by simpa using h1,h2⟩
theorem Vals.set{x:V}{u:Value}(r:RelV x u):∀{xs:List V} {us:List Value} (i:Nat),Vals xs us->Vals (xs.set i x) (us.set i u)
 |_,_,_,.nil=>.nil
 |_,_,0,.cons _ t=>.cons r t
 |_,_,i+1,.cons q t=>.cons q (Vals.set r i t)
theorem Vals.append:∀{xs ys:List V} {us ws:List Value},Vals xs us->Vals ys ws->Vals (xs++ys) (us++ws)
 |_,_,_,_,.nil,s=>s
 |_,_,_,_,.cons r t,s=>.cons r (Vals.append t s)
theorem Vals.take:∀{xs:List V} {us:List Value} (n:Nat),Vals xs us->Vals (xs.take n) (us.take n)
 |_,_,0,_=>.nil
 |_,_,_+1,.nil=>.nil
 |_,_,n+1,.cons r t=>.cons r (Vals.take n t)
theorem Vals.drop:∀{xs:List V} {us:List Value} (n:Nat),Vals xs us->Vals (xs.drop n) (us.drop n)
 |_,_,0,r=>r
 |_,_,_+1,.nil=>.nil
 |_,_,n+1,.cons _ t=>Vals.drop n t
noncomputable def rC:Option V->Option Value->Prop
 |some v,some u=>RelV v u
 |none,none=>True
 |_,_=>False
noncomputable def KV{κ:Type}:List (κ×V)->List (κ×Value)->Prop:=Paired λ(p:κ×V) (q:κ×Value)=>p.1=q.1/\RelV p.2 q.2
noncomputable def kV:Key->V
 |.inl i=>.int i
 |.inr x=>.str x
inductive HO where
 |lst(xs:List V)
 |tup(xs:List V)
 |dK(vw:List (Key×V))|dT(vw:List (List Key×V))
 |set(S:Int->Bool)(n:Nat)
 |ins(C dx:Addr)(fs:List (Str×V))
 |own(x:Addr)
 |xd(fs:List (Str×V))
 |met(f x:Addr)
 |rng(lo hi:Int)
 |frz(o:Obj)(u:HO)
 |tbl(ps:Array Value)
 |ext(φ:Heap->Prop)
noncomputable abbrev Hp:=Addr->Option HO
noncomputable def upd(H:Hp)(a:Addr)(o:HO):Hp:=λb=>if b=a then some o else H b
theorem aU{H:Hp}{a:Addr}{o:HO}:upd H a o a=some o:=by unfold upd;rw[if_pos rfl]
theorem aC{H:Hp}{a b:Addr}{o:HO}(h:b≠a):upd H a o b=H b:=by unfold upd;rw[if_neg h]
theorem ba{H:Hp}{a b:Addr}{o:HO}(h:H a=some o)(h':H b=none):a≠b:=by
 intro e;subst e;rw[h]at h';cases h'
section
variable(P:Program)(w:World)
noncomputable def Oe(h:Heap)(a:Addr):Prop:=∃o,h.get? a=some o/\o.dict=none
noncomputable def il(H:Hp)(h:Heap)(a:Addr):HO->Prop
 |.lst xs=>xs.length<=sizeLine/\∃(its:List Value) (n:Nat),Vals xs its/\h.get? a=some {cls:=.type "list",data:=.seq its.toArray n}
 |.tup xs=>(xs.length<=sizeLine/\Oe h a)/\∃its:List Value,Vals xs its/\IsTup h a its.toArray
 |.dK vw=>vw.length<=sizeLine/\(a==sysModules)=false/\∃vs,KV vw vs/\h.DictOf (zj P w) a vs
 |.dT vw=>vw.length<=sizeLine/\(a==sysModules)=false/\∃xs:List (List Key×Addr×Value),
   Paired (λ(p:List Key×V) (q:List Key×Addr×Value)=>p.1=q.1/\H q.2.1=some (.tup (p.1.map kV))/\RelV p.2 q.2.2) vw xs/\
   ∃o es ep,h.get? a=some o/\o.ExactDict/\o.data=.dict es ep/\es.toList=xs.map (entryOfKey (tupleKind (zj P w)))/\(xs.map (·.1)).Nodup
 |.set S n=>h.SetOf (intKind P w) a S n
 |.ins C dx fs=>H dx=some (.own a)/\fs.length<=1000/\dx≠a/\h.get? a=some (PySem.W.instObj C dx)/\
   ∃mA,h.Ns1 dx mA/\(∀f,rC (fs.lookup f) (mA f))/\PySem.Within mA (fs.map (·.1))
 |.own _=>∃o,h.get? a=some o
 |.xd fs=>∃mA,h.Ns1 a mA/\∀f,rC (fs.lookup f) (mA f)
 |.rng lo hi=>∃t u v,h.get? a=some {cls:=.type "range",data:=.fields #[.int lo t,.int hi u,.int 1 v]}
 |.frz o u=>h.get? a=some o/\il H h a u
 |.tbl ps=>h.get? a=some {cls:=.none,data:=.fields ps}
 |.met f x=>h.get? a=some (PySem.W.methodObj (.ref f) (.ref x))
 |.ext φ=>φ h/\(∃o,h.get? a=some o)/\∀h1 h2:Heap,φ h1->(∀o,h1.get? a=some o->h2.get? a=some o)->φ h2
noncomputable def o7(H:Hp)(h:Heap):Prop:=∀a o,H a=some o->il P w H h a o
end
section
variable{P:Program}{w:World}{H H':Hp}{h h':Heap}{a:Addr}{o:HO}
theorem il.lt(x:il P w H h a o):a<h.objs.size:=by
 cases o with
 |lst xs=>obtain⟨_,_,_,_,e⟩:=x;exact Heap.lt_size e
 |tup xs=>obtain⟨_,_,_,p⟩:=x;exact p.lt
 |dK vw=>obtain⟨_,_,_,_,o,_,_,e,_⟩:=x;exact Heap.lt_size e
 |dT vw=>obtain⟨_,_,_,_,o,_,_,e,_⟩:=x;exact Heap.lt_size e
 |set S n=>obtain⟨o,_,_,_,e,_⟩:=x;exact Heap.lt_size e
 |ins C dx fs=>obtain⟨_,_,_,e,_⟩:=x;exact Heap.lt_size e
 |own y=>obtain⟨_,e⟩:=x;exact Heap.lt_size e
 |xd fs=>obtain⟨_,⟨_,_,_,e,_⟩,_⟩:=x;exact Heap.lt_size e
 |rng lo hi=>obtain⟨_,_,_,e⟩:=x;exact Heap.lt_size e
 |frz ob u=>obtain⟨e,_⟩:=x;exact Heap.lt_size e
 |tbl ps=>exact Heap.lt_size (show h.get? a=some _ from x)
 |met f y=>exact Heap.lt_size (show h.get? a=some _ from x)
 |ext φ=>obtain⟨_,⟨_,e⟩,_⟩:=x;exact Heap.lt_size e
theorem Paired.Mj{α β:Type}{F G:α->β->Prop}:∀{l₁:List α} {l₂:List β},Paired F l₁ l₂->(∀a b,F a b->G a b)->Paired G l₁ l₂
 |_,_,.nil,_=>.nil
 |_,_,.cons r t,f=>.cons (f _ _ r) (Paired.Mj t f)
theorem il.rD(x:il P w H h a o)(k:∀b u,(b=a\/H b=some (.own a))->h.get? b=some u->h'.get? b=some u)
  (ho:∀b,H b=some (.own a)->H' b=some (.own a))(ht:∀b xs,H b=some (.tup xs)->H' b=some (.tup xs)):il P w H' h' a o:=by
 induction o with
 |lst xs=>obtain⟨z,its,n,r,e⟩:=x;exact⟨z,its,n,r,k _ _ (.inl rfl) e⟩
 |tup xs=>obtain⟨⟨z,od,ed,hd⟩,its,r,ob,e,c⟩:=x;exact⟨⟨z,od,k _ _ (.inl rfl) ed,hd⟩,its,r,ob,k _ _ (.inl rfl) e,c⟩
 |dK vw=>obtain⟨z,y,vs,r,ob,es,ep,e,c⟩:=x;exact⟨z,y,vs,r,ob,es,ep,k _ _ (.inl rfl) e,c⟩
 |dT vw=>
  obtain⟨z,y,xs,r,ob,es,ep,e,c⟩:=x
  exact⟨z,y,xs,Paired.Mj r λp q z=>⟨z.1,ht _ _ z.2.1,z.2.2⟩,ob,es,ep,k _ _ (.inl rfl) e,c⟩
 |set S n=>obtain⟨ob,es,ep,t,e,c⟩:=x;exact⟨ob,es,ep,t,k _ _ (.inl rfl) e,c⟩
 |ins C dx fs=>
  obtain⟨d,z,ne,e,mA,⟨od,es,ep,e2,c⟩,r⟩:=x
  exact⟨ho _ d,z,ne,k _ _ (.inl rfl) e,mA,⟨od,es,ep,k _ _ (.inr d) e2,c⟩,r⟩
 |own y=>obtain⟨ob,e⟩:=x;exact⟨ob,k _ _ (.inl rfl) e⟩
 |xd fs=>obtain⟨mA,⟨od,es,ep,e,c⟩,r⟩:=x;exact⟨mA,⟨od,es,ep,k _ _ (.inl rfl) e,c⟩,r⟩
 |rng lo hi=>obtain⟨t,u,v,e⟩:=x;exact⟨t,u,v,k _ _ (.inl rfl) e⟩
 |frz ob u ih=>obtain⟨e,q⟩:=x;exact⟨k _ _ (.inl rfl) e,ih q⟩
 |tbl ps=>
  have e:h.get? a=some {cls:=.none,data:=.fields ps}:=x
  show h'.get? a=some {cls:=.none,data:=.fields ps}
  exact k a _ (.inl rfl) e
 |met f y=>
  have e:h.get? a=some (PySem.W.methodObj (.ref f) (.ref y)):=x
  show h'.get? a=some (PySem.W.methodObj (.ref f) (.ref y))
  exact k a _ (.inl rfl) e
 |ext φ=>obtain⟨p,⟨o,e⟩,st⟩:=x;exact⟨st _ _ p λo q=>k _ _ (.inl rfl) q,⟨o,k _ _ (.inl rfl) e⟩,st⟩
theorem o7.lt(x:o7 P w H h)(e:H a=some o):a<h.objs.size:=(x a o e).lt
theorem o7.fresh(x:o7 P w H h)(e:h.objs.size<=a):H a=none:=by
 cases q:H a with
 |none=>rfl
 |some u=>exact absurd (Nat.lt_of_lt_of_le (x.lt q) e) (Nat.lt_irrefl _)
theorem o7.kept(x:o7 P w H h)(k:∀b u,h.get? b=some u->h'.get? b=some u):o7 P w H h':=λa o e=>
 (x a o e).rD (λb u _ q=>k b u q) (λ_ q=>q) λ_ _ q=>q
theorem o7.laid(x:o7 P w H h)(k:∀b u,h.get? b=some u->h'.get? b=some u)(hp:h.objs.size<=a)(new:il P w (upd H a o) h' a o):o7 P w (upd H a o) h':=λb u e=>by
 have hn:=x.fresh hp
 by_cases hb:b=a
 ·subst hb;rw[aU]at e;cases e;exact new
 ·rw[aC hb]at e
  exact(x b u e).rD (λc v _ q=>k c v q) (λc q=>by rw[aC (ba q hn)];exact q) λc xs q=>by rw[aC (ba q hn)];exact q
end
noncomputable def Rd(H:Hp)(a:Addr)(u:HO):Prop:=H a=some u\/∃o,H a=some (.frz o u)
theorem Rd.ok{P:Program}{w:World}{H:Hp}{h:Heap}{a:Addr}{u:HO}(r:Rd H a u)(x:o7 P w H h):il P w H h a u:=by
 rcases r with r|⟨o,r⟩
 ·exact x a u r
 ·obtain⟨_,q⟩:=x a _ r
  exact q
noncomputable def Of:Option HO->Prop
 |some (.lst _)=>True
 |some (.dK _)=>True
 |some (.dT _)=>True
 |some (.set _ _)=>True
 |some (.ins _ _ _)=>True
 |some (.ext _)=>True
 |_=>False
section
variable{P:Program}{w:World}{H:Hp}{h h':Heap}{x e:Addr}{o':HO}
theorem o7.write(ok:o7 P w H h)(mu:Of (H x))(he:e=x\/H e=some (.own x))(k:∀b u,b≠e->h.get? b=some u->h'.get? b=some u)(LX:∃u,h'.get? e=some u)
  (new:il P w (upd H x o') h' x o'):o7 P w (upd H x o') h':=λb u q=>by
 have rE:∀c y,H c=some (.own y)->c≠x:=λc y r z=>by subst z;rw[r]at mu;exact mu
 have OX:∀c xs,H c=some (.tup xs)->c≠x:=λc xs r z=>by subst z;rw[r]at mu;exact mu
 by_cases hb:b=x
 ·subst hb;rw[aU]at q;cases q;exact new
 ·rw[aC hb]at q
  by_cases JE:b=e
  ·have q':H b=some (.own x):=by
     rcases he with z|z
     ·exact absurd (JE.trans z) hb
     ·rw[JE];exact z
   rw[q]at q';cases q'
   obtain⟨v,hv⟩:=LX
   exact⟨v,by rw[JE];exact hv⟩
  ·refine(ok b u q).rD (λc v hc r=>k c v ?_ r) (λc r=>by rw[aC (rE c b r)];exact r) λc xs r=>by rw[aC (OX c xs r)];exact r
   rcases hc with rfl|hc
   ·exact JE
   ·rintro rfl
    rcases he with z|z
    ·exact rE c b hc z
    ·rw[hc]at z;cases z;exact hb rfl
end
structure Un(fs ex:List Addr)(H H':Hp)(h h':Heap):Prop where
 keep:∀b o,h.get? b=some o->H b=none->b∉fs->b∉ex->h'.get? b=some o
 slot:∀b o,h.get? b=some o->H b=none->b∈fs->b∉ex->∃sl,h'.get? b=some {o with slots:=sl}
 free:∀b o,h.get? b=some o->H b=none->b∉ex->H' b=none
 there:∀b o,h.get? b=some o->b∉ex->∃o',h'.get? b=some o'
 oV:∀b xs,H b=some (.tup xs)->H' b=some (.tup xs)
 nM:∀b o u,H b=some (.frz o u)->H' b=some (.frz o u)
 rF:∀b ps,H b=some (.tbl ps)->∃more,H' b=some (.tbl (ps++more))
section
variable{fs R3 ex OY:List Addr}{H H1 H2:Hp}{h h1 h2 h':Heap}{a x e:Addr}{o:HO}
theorem Un.any(u:Un fs ex H H1 h h1){b:Addr}{ob:Obj}(q:h.get? b=some ob)(n:H b=none)(hx:b∉ex):∃sl,h1.get? b=some {ob with slots:=sl}:=by
 by_cases hb:b∈fs
 ·exact u.slot b ob q n hb hx
 ·exact⟨ob.slots,u.keep b ob q n hb hx⟩
theorem Un.kept(k:∀b u,h.get? b=some u->h'.get? b=some u):Un fs ex H H h h':=
 ⟨λb ob q _ _ _=>k b ob q,λb ob q _ _ _=>⟨ob.slots,k b ob q⟩,λ_ _ _ n _=>n,λb ob q _=>⟨ob,k b ob q⟩,λ_ _ q=>q,λ_ _ _ q=>q,λ_ ps q=>⟨#[],by rw[q];simp⟩⟩
theorem Un.refl:Un fs ex H H h h:=Un.kept λ_ _ q=>q
theorem Un.laid(k:∀b u,h.get? b=some u->h'.get? b=some u)(hp:h.objs.size<=a)(hn:H a=none):Un fs ex H (upd H a o) h h' where
 keep:=λb u q _ _ _=>k b u q
 slot:=λb u q _ _ _=>⟨u.slots,k b u q⟩
 free:=λb u q n _=>by rw[aC (Nat.ne_of_lt (Nat.lt_of_lt_of_le (Heap.lt_size q) hp))];exact n
 there:=λb u q _=>⟨u,k b u q⟩
 oV:=λb xs q=>by rw[aC (ba q hn)];exact q
 nM:=λb u xs q=>by rw[aC (ba q hn)];exact q
 rF:=λb ps q=>⟨#[],by rw[aC (ba q hn),q];simp⟩
theorem Un.write(mu:Of (H x))(he:e=x\/H e=some (.own x))(k:∀b u,b≠e->h.get? b=some u->h'.get? b=some u)(LX:∃u,h'.get? e=some u):Un fs ex H (upd H x o) h h':=by
 have hx:∀b,H b=none->b≠x:=λb n z=>by subst z;rw[n]at mu;exact mu
 have hb:∀b,H b=none->b≠e:=λb n z=>by
  subst z
  rcases he with r|r
  ·exact hx b n r
  ·rw[n]at r;cases r
 have hm:∀b u,H b=some u->¬Of (some u)->b≠x:=λb u q nm z=>by subst z;rw[q]at mu;exact nm mu
 refine⟨λb u q n _ _=>k b u (hb b n) q,λb u q n _ _=>⟨u.slots,k b u (hb b n) q⟩,λb u q n _=>by rw[aC (hx b n)];exact n,λb u q _=>?_,
  λb xs q=>by rw[aC (hm b _ q λz=>z)];exact q,λb u xs q=>by rw[aC (hm b _ q λz=>z)];exact q,λb ps q=>⟨#[],by rw[aC (hm b _ q λz=>z),q];simp⟩⟩
 by_cases JE:b=e
 ·subst JE;exact LX
 ·exact⟨u,k b u JE q⟩
end
noncomputable def Og(h:Heap)(H:Hp):List Addr:=(List.range h.objs.size).filter λa=>(H a).isSome
noncomputable def tx(h:Heap)(H:Hp):Heap:=PySem.W.hideAll h (Og h H)
theorem AZ(h:Heap)(H:Hp):(tx h H).objs.size=h.objs.size:=PySem.W.hideAll_size _ _
theorem CS{h:Heap}{H:Hp}{b:Addr}{o:Obj}(e:h.get? b=some o)(n:H b=none):(tx h H).get? b=some o:=
 PySem.W.hideAll_get _ e λhm=>by
  have q:(H b).isSome=true:=(List.mem_filter.mp hm).2
  rw[n]at q;simp at q
theorem Gm{h:Heap}{H:Hp}{b:Addr}{o:Obj}(e:(tx h H).get? b=some o):h.get? b=some o/\H b=none:=by
 have e':h.get? b=some o:=PySem.W.of_hideAll (Og h H) e
 refine⟨e',?_⟩
 cases q:H b with
 |none=>rfl
 |some x=>
  have hm:b∈Og h H:=List.mem_filter.mpr ⟨List.mem_range.mpr (Heap.lt_size e'),by simp[q]⟩
  have z:(tx h H).get? b=none:=PySem.W.hideAll_none (Og h H) hm
  rw[z]at e;cases e
structure Mod(K:PySem.W.Frag)(mg:Str->Option Value)(base:Heap):Prop where
 kin:K.In base
 glob:base.Ns mainGlobals mg
 blt:∃mb,base.Ns builtinsNs mb/\∀x:Str,x≠ "__name__" ->mb x=bootBuiltins x
 nolimit:base.NoLimit
structure Cx where
 prog:Program
 w:World
 K:PySem.W.Frag
 mg:Str->Option Value
 base:Heap
 A:Around
 N:List Str
 s₀:Shared
 H₀:Hp
 env:Env
 outer:List Env
 stack:List Env
 ex:List Addr
 fn:Str->Bool
 calm:Bool
 pn:List (Addr×Obj)
 xe:Value->Shared->Prop
noncomputable def xE(l:List Env):List Addr:=l.filterMap (·.frame)
noncomputable abbrev Cx.fs(X:Cx):List Addr:=xE X.outer
noncomputable def tD(sc:Scope)(x:Str):Prop:=sc.names.lookup x=some .local\/sc.names.lookup x=some .cell\/sc.names.lookup x=some .free
noncomputable def Loc(sc:Scope)(x:Str):Prop:=sc.names.lookup x=some .local\/sc.names.lookup x=some .cell
noncomputable def Look(env:Env)(h:Heap)(m:Str->Option Value)(x:Str)(u:Value):Prop:=
 (env.kindOf x=some .local/\m x=some u)\/((env.kindOf x=some .cell\/env.kindOf x=some .free)/\∃c,env.cells.lookup x=some c/\h.IsCell c (some u))
structure Cx.Ok(X:Cx):Prop where
 mod:Mod X.K X.mg X.base
 kind:X.env.scope.kind=.function
 glob:X.env.globals=mainGlobals
 blt:X.env.builtins=builtinsNs
 above:X.s₀.heap.objs.size<=X.env.locals
 inj:∀x y c,X.env.cells.lookup x=some c->X.env.cells.lookup y=some c->x=y
 has:∀x,(X.env.kindOf x=some .cell\/X.env.kindOf x=some .free)->∃c,X.env.cells.lookup x=some c
 cab:∀x c,X.fn x=true->X.env.cells.lookup x=some c->X.s₀.heap.objs.size<=c
 hd:X.calm=true->X.A.handled=none
 frames:X.A.frames=some X.stack
 stk:X.stack=X.outer\/(X.stack=X.env::X.outer/\X.env.frame=some X.env.locals)
 exf:∀b∈X.ex,b≠X.env.locals/\∀x c,X.env.cells.lookup x=some c->c≠b
 bs:∀b o,X.base.get? b=some o->X.s₀.heap.get? b=some o/\X.H₀ b=none
 bsz:X.base.objs.size<=X.s₀.heap.objs.size
 noex:∀b o,X.base.get? b=some o->b∉X.ex
 exfs:∀b∈X.ex,b∉X.fs
 funs:X.s₀.heap.FunFrames X.base X.outer
 frf:∀b∈X.fs,X.H₀ b=none
structure Inv(X:Cx)(pins:List (Addr×Obj))(σ:List (Option V))(H:Hp)(s:Shared):Prop where
 ok:X.Ok
 os:s.os=X.s₀.os
 bare:AllBare s.gens
 base:Un X.fs X.ex X.H₀ H X.s₀.heap s.heap
 loc:∃m,s.heap.Ns X.env.locals m/\∀(i:Nat) (x:Str) (v:V),X.N[i]?=some x->σ[i]?=some (some v)->tD X.env.scope x->∃u,RelV v u/\Look X.env s.heap m x u
 cell:∀x c,X.env.cells.lookup x=some c->∃v,s.heap.IsCell c v
 free:H X.env.locals=none
 freeC:∀x c,X.env.cells.lookup x=some c->H c=none
 pin:∀p∈X.pn++pins,s.heap.get? p.1=some p.2/\H p.1=none/\p.1≠X.env.locals/\p.1∉X.fs/\∀v,p.2.data≠.cell v
 d8:o7 X.prog X.w H s.heap
 len:σ.length=X.N.length
section
variable{X:Cx}{pins:List (Addr×Obj)}{σ:List (Option V)}{H H':Hp}{s:Shared}{h':Heap}
theorem Cx.Ok.OZ(ok:X.Ok){b:Addr}{o:Obj}(e:X.base.get? b=some o):b∉X.fs:=λhb=>by
 have:=(ok.funs.mem hb).1
 rw[e]at this;cases this
theorem Inv.bs(I:Inv X pins σ H s):∀b o,X.base.get? b=some o->s.heap.get? b=some o/\H b=none:=λb o e=>
 ⟨I.base.keep b o (I.ok.bs b o e).1 (I.ok.bs b o e).2 (I.ok.OZ e) (I.ok.noex b o e),I.base.free b o (I.ok.bs b o e).1 (I.ok.bs b o e).2 (I.ok.noex b o e)⟩
theorem Inv.bk(I:Inv X pins σ H s):∀b o,X.base.get? b=some o->s.heap.get? b=some o:=λb o e=>(I.bs b o e).1
theorem Inv.mod(I:Inv X pins σ H s):Mod X.K X.mg X.base:=I.ok.mod
theorem Inv.pG(I:Inv X pins σ H s):X.K.In s.heap:=I.ok.mod.kin.keeps I.bk
theorem Inv.lt(I:Inv X pins σ H s):X.env.locals<s.heap.objs.size:=let⟨_,hn,_⟩:=I.loc;hn.lt
theorem Inv.sz(I:Inv X pins σ H s):X.s₀.heap.objs.size<=s.heap.objs.size:=Nat.le_trans I.ok.above (Nat.le_of_lt I.lt)
theorem Inv.A0(I:Inv X pins σ H s){a:Addr}(h:s.heap.objs.size<=a):a∉X.fs:=λhb=>by
 obtain⟨_,o,ho,_⟩:=I.ok.funs.mem hb
 exact absurd (Nat.lt_of_lt_of_le (Heap.lt_size ho) (Nat.le_trans I.sz h)) (Nat.lt_irrefl _)
theorem Inv.JF(I:Inv X pins σ H s):∀x c,X.env.cells.lookup x=some c->c≠X.env.locals:=λx c e z=>by
 obtain⟨v,o,ho,hd⟩:=I.cell x c e
 obtain⟨m,⟨o',es,ep,JG,Ml,_⟩,_⟩:=I.loc
 rw[z,JG]at ho;cases ho;rw[Ml]at hd;cases hd
theorem Inv.funs(I:Inv X pins σ H s):s.heap.FunFrames X.base X.outer:=by
 have all:∀(l:List Env),(∀b∈xE l,b∈X.fs)->X.s₀.heap.FunFrames X.base l->s.heap.FunFrames X.base l:=by
  intro l
  induction l with
  |nil=>intro _ _;trivial
  |cons env r ih=>
   intro hs hl
   obtain⟨hk,⟨L,o,hf,hn,ho,hd⟩,hr⟩:=hl
   have hL:L∈X.fs:=hs L (by unfold xE;rw[List.filterMap_cons,hf];exact List.mem_cons_self)
   obtain⟨sl,e⟩:=I.base.slot L o ho (I.ok.frf L hL) hL λz=>I.ok.exfs L z hL
   exact⟨hk,⟨L,_,hf,hn,e,hd⟩,ih (λb hb=>hs b (by unfold xE;rw[List.filterMap_cons,hf];exact List.mem_cons_of_mem _ hb)) hr⟩
 exact all X.outer (λ_ hb=>hb) I.ok.funs
theorem Inv.stack(I:Inv X pins σ H s):s.heap.FunFrames X.base X.stack:=by
 rcases I.ok.stk with e|⟨e,hf⟩
 ·rw[e];exact I.funs
 ·rw[e]
  obtain⟨m,hn,_⟩:=I.loc
  refine .cons (by rw[I.ok.kind];decide) hf hn ?_ I.funs
  exact Heap.get?_none_of_le (Nat.le_trans I.ok.bsz I.ok.above)
theorem Inv.tE(I:Inv X pins σ H s):∀b∈xE X.stack,b∈X.env.locals::X.fs:=λb hb=>by
 rcases I.ok.stk with e|⟨e,hf⟩
 ·rw[e]at hb;exact List.mem_cons_of_mem _ hb
 ·rw[e]at hb
  unfold xE at hb
  rw[List.filterMap_cons,hf]at hb
  exact hb
theorem Inv.tF(I:Inv X pins σ H s):∀b∈xE X.stack,H b=none:=λb hb=>by
 rcases List.mem_cons.mp (I.tE b hb)with e|hb
 ·rw[e];exact I.free
 ·obtain⟨_,o,ho,_⟩:=I.ok.funs.mem hb
  exact I.base.free b o ho (I.ok.frf b hb) λz=>I.ok.exfs b z hb
theorem Inv.step{g':Array GenState}{t':Nat}{d':Drawn}{ch:List Addr}(I:Inv X pins σ H s)
  (F5:∀b∈ch,(b∈X.ex\/X.s₀.heap.objs.size<=b)/\b≠X.env.locals/\(∀x c,X.env.cells.lookup x=some c->c≠b)/\∀p∈X.pn++pins,p.1≠b)
  (keep:∀b o,b≠X.env.locals->b∉X.fs->b∉ch->s.heap.get? b=some o->H b=none->h'.get? b=some o)
  (slot:∀b o,b≠X.env.locals->b∈X.fs->b∉ch->s.heap.get? b=some o->H b=none->∃sl,h'.get? b=some {o with slots:=sl})(free:∀b o,b∉ch->s.heap.get? b=some o->H b=none->H' b=none)
  (there:∀b o,b∉ch->s.heap.get? b=some o->∃o',h'.get? b=some o')
  (oV:∀b xs,H b=some (.tup xs)->H' b=some (.tup xs))(nM:∀b o u,H b=some (.frz o u)->H' b=some (.frz o u))(rF:∀b ps,H b=some (.tbl ps)->∃more,H' b=some (.tbl (ps++more)))
  (ns:∀m,s.heap.Ns X.env.locals m->h'.Ns X.env.locals m)(d8:o7 X.prog X.w H' h')(hg:AllBare g'):
  Inv X pins σ H' {s with heap:=h',gens:=g',drawn:=d',toks:=t'}:=by
 have QX:∀b o,X.s₀.heap.get? b=some o->b≠X.env.locals:=λb o e=>Nat.ne_of_lt (Nat.lt_of_lt_of_le (Heap.lt_size e) I.ok.above)
 have Oh:∀b o,X.s₀.heap.get? b=some o->b∉X.ex->b∉ch:=λb o e hx hb=>by
  rcases(F5 b hb).1 with z|z
  ·exact hx z
  ·exact absurd (Nat.lt_of_lt_of_le (Heap.lt_size e) z) (Nat.lt_irrefl _)
 have cellK:∀x c,X.env.cells.lookup x=some c->∀v,s.heap.IsCell c v->h'.IsCell c v:=λx c e v ⟨o,ho,hd⟩=>by
  have Mm:c∉ch:=λz=>(F5 c z).2.2.1 x c e rfl
  by_cases hc:c∈X.fs
  ·obtain⟨sl,q⟩:=slot c o (I.JF x c e) hc Mm ho (I.freeC x c e)
   exact⟨_,q,hd⟩
  ·exact⟨o,keep c o (I.JF x c e) hc Mm ho (I.freeC x c e),hd⟩
 refine⟨I.ok,I.os,hg,⟨λb o e n hb hx=>?_,λb o e n hb hx=>?_,λb o e n hx=>?_,λb o e hx=>?_,λb xs e=>oV b xs (I.base.oV b xs e),λb o xs e=>nM b o xs (I.base.nM b o xs e),λb ps e=>?_⟩,?_,λx c e=>?_,?_,λx c e=>?_,λp hp=>?_,d8,I.len⟩
 ·exact keep b o (QX b o e) hb (Oh b o e hx) (I.base.keep b o e n hb hx) (I.base.free b o e n hx)
 ·obtain⟨sl,e1⟩:=I.base.slot b o e n hb hx
  obtain⟨R4,e2⟩:=slot b _ (QX b o e) hb (Oh b o e hx) e1 (I.base.free b o e n hx)
  exact⟨R4,e2⟩
 ·obtain⟨o',e1⟩:=I.base.there b o e hx
  exact free b o' (Oh b o e hx) e1 (I.base.free b o e n hx)
 ·obtain⟨o',e1⟩:=I.base.there b o e hx
  exact there b o' (Oh b o e hx) e1
 ·obtain⟨m1,e1⟩:=I.base.rF b ps e
  obtain⟨m2,e2⟩:=rF b _ e1
  exact⟨m1++m2,by rw[e2,Array.append_assoc]⟩
 ·obtain⟨m,hn,hl⟩:=I.loc
  refine⟨m,ns m hn,λi x v e1 e2 e3=>?_⟩
  obtain⟨u,r,l⟩:=hl i x v e1 e2 e3
  refine⟨u,r,?_⟩
  rcases l with l|⟨k,c,e,z⟩
  ·exact .inl l
  ·exact .inr ⟨k,c,e,cellK x c e _ z⟩
 ·obtain⟨v,z⟩:=I.cell x c e
  exact⟨v,cellK x c e v z⟩
 ·obtain⟨m,⟨o,_,_,ho,_⟩,_⟩:=I.loc
  exact free _ o (λz=>(F5 _ z).2.1 rfl) ho I.free
 ·obtain⟨v,o,ho,hd⟩:=I.cell x c e
  exact free c o (λz=>(F5 c z).2.2.1 x c e rfl) ho (I.freeC x c e)
 ·obtain⟨e,n,ne,nf,d⟩:=I.pin p hp
  have Mm:p.1∉ch:=λz=>(F5 p.1 z).2.2.2 p hp rfl
  exact⟨keep p.1 p.2 ne nf Mm e n,free p.1 p.2 Mm e n,ne,nf,d⟩
theorem Inv.un{t':Nat}(I:Inv X pins σ H s)(u:Un X.fs [] H H' s.heap h')(d8:o7 X.prog X.w H' h'):Inv X pins σ H' {s with heap:=h',toks:=t'}:=by
 obtain⟨m,⟨o,es,ep,ho,r⟩,_⟩:=id I.loc
 obtain⟨sl,hL⟩:=u.any ho I.free (by simp)
 exact I.step (g':=s.gens) (d':=s.drawn) (ch:=[]) (λ_ z=>nomatch z) (λb o _ hb _ e n=>u.keep b o e n hb (by simp)) (λb o _ hb _ e n=>u.slot b o e n hb (by simp)) (λb o _ e n=>u.free b o e n (by simp)) (λb o _ e=>u.there b o e (by simp)) u.oV u.nM u.rF (λm' hm=>by
  obtain⟨o',O0,O1,JG,r'⟩:=hm
  rw[ho]at JG;cases JG
  exact⟨_,O0,O1,hL,r'⟩) d8 I.bare
theorem Inv.call{g':Array GenState}{t':Nat}{d':Drawn}{ch:List Addr}(I:Inv X pins σ H s)(u:Un (xE X.stack) ch H H' s.heap h')(d8:o7 X.prog X.w H' h')(hg:AllBare g')
  (F5:∀b∈ch,(b∈X.ex\/X.s₀.heap.objs.size<=b)/\b≠X.env.locals/\(∀x c,X.env.cells.lookup x=some c->c≠b)/\∀p∈X.pn++pins,p.1≠b):
  Inv X pins σ H' {s with heap:=h',gens:=g',drawn:=d',toks:=t'}:=by
 obtain⟨m,⟨o,es,ep,ho,r⟩,_⟩:=id I.loc
 obtain⟨sl,hL⟩:=u.any ho I.free λz=>(F5 _ z).2.1 rfl
 exact I.step (ch:=ch) F5 (λb o hL hb hc e n=>u.keep b o e n (λz=>(List.mem_cons.mp (I.tE b z)).elim hL hb) hc) (λb o _ _ hc e n=>u.any e n hc) (λb o hc e n=>u.free b o e n hc) (λb o hc e=>u.there b o e hc) u.oV u.nM u.rF (λm' hm=>by
  obtain⟨o',O0,O1,JG,r'⟩:=hm
  rw[ho]at JG;cases JG
  exact⟨_,O0,O1,hL,r'⟩) d8 hg
theorem Inv.turned{t':Nat}{it:Addr}(I:Inv X pins σ H s)(k:∀b o,b≠it->s.heap.get? b=some o->h'.get? b=some o)(hn:H it=none)(hL:it≠X.env.locals)
  (h1:it∈X.ex\/X.s₀.heap.objs.size<=it)(h2:∀x c,X.env.cells.lookup x=some c->c≠it)(h3:∀p∈X.pn++pins,p.1≠it):Inv X pins σ H {s with heap:=h',toks:=t'}:=by
 have Iw:∀b u,H b=some u->b≠it:=λb u e z=>by rw[z,hn]at e;cases e
 refine I.step (g':=s.gens) (d':=s.drawn) (ch:=[it]) (λb hb=>?_) (λb o _ _ hc e _=>k b o (λz=>hc (by simp[z])) e) (λb o _ _ hc e _=>⟨o.slots,k b o (λz=>hc (by simp[z])) e⟩) (λ_ _ _ _ n=>n)
  (λb o hc e=>⟨o,k b o (λz=>hc (by simp[z])) e⟩) (λ_ _ e=>e) (λ_ _ _ e=>e) (λb ps e=>⟨#[],by rw[e];simp⟩) (λm hm=>?_) (λb u e=>?_) I.bare
 ·have e:b=it:=by simpa using hb
  subst e
  exact⟨h1,hL,h2,h3⟩
 ·obtain⟨o,es,ep,ho,r⟩:=hm
  exact⟨o,es,ep,k _ o (Ne.symm hL) ho,r⟩
 ·refine(I.d8 b u e).rD (λc v hc q=>k c v ?_ q) (λ_ q=>q) λ_ _ q=>q
  rcases hc with z|z
  ·rw[z];exact Iw b u e
  ·exact Iw c _ z
theorem Inv.tok(I:Inv X pins σ H s)(t:Nat):Inv X pins σ H {s with toks:=t}:=I.un (h':=s.heap) (t':=t) Un.refl I.d8
theorem Inv.kept{t':Nat}(I:Inv X pins σ H s)(k:∀b u,s.heap.get? b=some u->h'.get? b=some u):Inv X pins σ H {s with heap:=h',toks:=t'}:=I.un (Un.kept k) (I.d8.kept k)
theorem Inv.laid{a:Addr}{o:HO}{t':Nat}(I:Inv X pins σ H s)(k:∀b u,s.heap.get? b=some u->h'.get? b=some u)(hp:s.heap.objs.size<=a)(new:il X.prog X.w (upd H a o) h' a o):
 Inv X pins σ (upd H a o) {s with heap:=h',toks:=t'}:=I.un (Un.laid k hp (I.d8.fresh hp)) (I.d8.laid k hp new)
theorem Inv.write{x e:Addr}{o:HO}{t':Nat}(I:Inv X pins σ H s)(mu:Of (H x))(he:e=x\/H e=some (.own x))(k:∀b u,b≠e->s.heap.get? b=some u->h'.get? b=some u)(LX:∃u,h'.get? e=some u)
 (new:il X.prog X.w (upd H x o) h' x o):Inv X pins σ (upd H x o) {s with heap:=h',toks:=t'}:=I.un (Un.write mu he k LX) (I.d8.write mu he k LX new)
theorem Inv.weak{σ':List (Option V)}(I:Inv X pins σ H s)(hl:σ'.length=σ.length)(w:∀(i:Nat) v,σ'[i]?=some (some v)->σ[i]?=some (some v)):Inv X pins σ' H s:=
 ⟨I.ok,I.os,I.bare,I.base,let⟨m,hn,A1⟩:=I.loc;⟨m,hn,λi x v e1 e2 e3=>A1 i x v e1 (w i v e2) e3⟩,I.cell,I.free,I.freeC,I.pin,I.d8,hl.trans I.len⟩
theorem Inv.eH{gW:List (Addr×Obj)}(I:Inv X pins σ H s)(h:∀p∈gW,s.heap.get? p.1=some p.2/\H p.1=none/\p.1≠X.env.locals/\p.1∉X.fs/\∀v,p.2.data≠.cell v):Inv X gW σ H s:=
 ⟨I.ok,I.os,I.bare,I.base,I.loc,I.cell,I.free,I.freeC,λp hp=>(List.mem_append.mp hp).elim (λz=>I.pin p (List.mem_append_left _ z)) (h p),I.d8,I.len⟩
theorem vy{N:List Str}(hN:N.Nodup){i j:Nat}{x:Str}(a:N[i]?=some x)(b:N[j]?=some x):i=j:=by
 obtain⟨h1,e1⟩:=List.getElem?_eq_some_iff.mp a
 obtain⟨h2,e2⟩:=List.getElem?_eq_some_iff.mp b
 exact(List.getElem_inj hN).mp (e1.trans e2.symm)
theorem nN{M:Model}{A:Around}{E:Value->Shared->Prop}{i:Nat}{x:Str}{v:V}{u:Value}{Q:Unit->Shared->Prop}(I:Inv X pins σ H s)(hN:X.N.Nodup)(hi:X.N[i]?=some x)(hx:Loc X.env.scope x)(r:RelV v u)
  (h:∀s',Inv X pins (σ.set i (some v)) H s'->(∃a,Heap.SameBut a s.heap s'.heap/\(a=X.env.locals\/X.env.cells.lookup x=some a))->Q () s')(hf:X.fn x=true\/X.env.scope.names.lookup x=some .local:=by first|exact .inl rfl|exact .inr rfl|assumption):wpAny M A (storeName X.env x u) Q E s:=by
 obtain⟨m,hn,hl⟩:=id I.loc
 have O2:(X.env.scope.kind==.class||(X.env.scope.kind==.module&&X.env.locals !=X.env.globals))=false:=by rw[I.ok.kind];rfl
 have QY:i<σ.length:=by rw[I.len];exact(List.getElem?_eq_some_iff.mp hi).1
 have JF:=I.JF
 have tracked:∀{a:Addr} {h':Heap},(∃o,s.heap.get? a=some o/\H a=none)->Heap.SameBut a s.heap h'->o7 X.prog X.w H h':=λ{a h'} ha hs b ob e=>by
  obtain⟨_,_,gX⟩:=ha
  refine(I.d8 b ob e).rD (λc w' hc q=>(hs.2 c ?_).trans q) (λ_ q=>q) λ_ _ q=>q
  rintro rfl
  rcases hc with rfl|hc
  ·rw[gX]at e;cases e
  ·rw[gX]at hc;cases hc
 rcases hx with hk|hk
 ·refine wpAny_storeName_local hk hn (λh' Mn hs=>?_) O2
  obtain⟨oL,_,_,O3,_⟩:=id hn
  refine h _ ⟨I.ok,I.os,I.bare,⟨λb o e n hb hx=>?_,λb o e n hb hx=>?_,I.base.free,λb o e hx=>?_,I.base.oV,I.base.nM,I.base.rF⟩,⟨_,Mn,λj y v' e1 e2 e3=>?_⟩,λy c e=>?_,I.free,I.freeC,λp hp=>?_,tracked ⟨oL,O3,I.free⟩ hs,by simpa using I.len⟩ ⟨_,hs,.inl rfl⟩
  ·exact(hs.2 b (Nat.ne_of_lt (Nat.lt_of_lt_of_le (Heap.lt_size e) I.ok.above))).trans (I.base.keep b o e n hb hx)
  ·obtain⟨sl,e1⟩:=I.base.slot b o e n hb hx
   exact⟨sl,(hs.2 b (Nat.ne_of_lt (Nat.lt_of_lt_of_le (Heap.lt_size e) I.ok.above))).trans e1⟩
  ·obtain⟨o',e1⟩:=I.base.there b o e hx
   exact⟨o',(hs.2 b (Nat.ne_of_lt (Nat.lt_of_lt_of_le (Heap.lt_size e) I.ok.above))).trans e1⟩
  ·by_cases hj:j=i
   ·subst hj
    rw[hi]at e1;cases e1
    rw[List.getElem?_set_self QY]at e2
    cases e2
    exact⟨u,r,.inl ⟨hk,by simp⟩⟩
   ·rw[List.getElem?_set_ne (Ne.symm hj)]at e2
    obtain⟨u',r',q⟩:=hl j y v' e1 e2 e3
    refine⟨u',r',?_⟩
    rcases q with⟨k,e⟩|⟨k,c,e,z⟩
    ·refine .inl ⟨k,?_⟩
     have:y≠x:=λe=>hj (vy hN e1 (e▸hi))
     simp[this,e]
    ·exact .inr ⟨k,c,e,z.sameBut hs (JF y c e)⟩
  ·obtain⟨w',z⟩:=I.cell y c e
   exact⟨w',z.sameBut hs (JF y c e)⟩
  ·obtain⟨e,n,ne,nf,d⟩:=I.pin p hp
   exact⟨(hs.2 p.1 ne).trans e,n,ne,nf,d⟩
 ·have O4:X.fn x=true:=by
    rcases hf with z|z
    ·exact z
    ·rw[z]at hk;cases hk
  obtain⟨c,hc⟩:=I.ok.has x (.inl hk)
  obtain⟨w',z⟩:=I.cell x c hc
  refine wpAny_storeName_cell I.ok.kind hk hc z (λh' Iy hs=>?_)
  obtain⟨oc,QZ,O5⟩:=id z
  refine h {s with heap:=h'} ⟨I.ok,I.os,I.bare,⟨λb o e n hb hx=>?_,λb o e n hb hx=>?_,I.base.free,λb o e hx=>?_,I.base.oV,I.base.nM,I.base.rF⟩,⟨m,hn.sameBut hs (Ne.symm (JF x c hc)),λj y v' e1 e2 e3=>?_⟩,λy c' e=>?_,I.free,I.freeC,λp hp=>?_,tracked ⟨oc,QZ,I.freeC x c hc⟩ hs,by simpa using I.len⟩ ⟨c,hs,.inr hc⟩
  ·exact(hs.2 b (Nat.ne_of_lt (Nat.lt_of_lt_of_le (Heap.lt_size e) (I.ok.cab x c O4 hc)))).trans (I.base.keep b o e n hb hx)
  ·obtain⟨sl,e1⟩:=I.base.slot b o e n hb hx
   exact⟨sl,(hs.2 b (Nat.ne_of_lt (Nat.lt_of_lt_of_le (Heap.lt_size e) (I.ok.cab x c O4 hc)))).trans e1⟩
  ·obtain⟨o',e1⟩:=I.base.there b o e hx
   exact⟨o',(hs.2 b (Nat.ne_of_lt (Nat.lt_of_lt_of_le (Heap.lt_size e) (I.ok.cab x c O4 hc)))).trans e1⟩
  ·by_cases hj:j=i
   ·subst hj
    rw[hi]at e1;cases e1
    rw[List.getElem?_set_self QY]at e2
    cases e2
    exact⟨u,r,.inr ⟨.inl hk,c,hc,Iy⟩⟩
   ·rw[List.getElem?_set_ne (Ne.symm hj)]at e2
    obtain⟨u',r',q⟩:=hl j y v' e1 e2 e3
    refine⟨u',r',?_⟩
    rcases q with q|⟨k,c',e,z'⟩
    ·exact .inl q
    ·refine .inr ⟨k,c',e,z'.sameBut hs ?_⟩
     rintro rfl
     exact hj (vy hN e1 (I.ok.inj _ _ _ e hc▸hi))
  ·by_cases Q0:c'=c
   ·subst Q0;exact⟨_,Iy⟩
   ·obtain⟨w2,z2⟩:=I.cell y c' e
    exact⟨w2,z2.sameBut hs Q0⟩
  ·obtain⟨e,n,ne,nf,d⟩:=I.pin p hp
   refine⟨(hs.2 p.1 ?_).trans e,n,ne,nf,d⟩
   intro q
   rw[q,QZ]at e
   have q':oc=p.2:=Option.some.inj e
   exact d w' (by rw[<-q'];exact O5)
theorem pH{M:Model}{A:Around}{E:Value->Shared->Prop}{i:Nat}{x:Str}{v:V}{u:Value}{Q:Unit->Shared->Prop}(I:Inv X pins σ H s)(hN:X.N.Nodup)(hi:X.N[i]?=some x)(hx:Loc X.env.scope x)(r:RelV v u)
  (h:∀s',Inv X pins (σ.set i (some v)) H s'->Q () s')(hf:X.fn x=true\/X.env.scope.names.lookup x=some .local:=by first|exact .inl rfl|exact .inr rfl|assumption):wpAny M A (storeName X.env x u) Q E s:=
 nN I hN hi hx r (λs' I' _=>h s' I') hf
theorem Inv.Iz{s':Shared}{ch:List Addr}(I:Inv X pins σ H s)(ho:s'.os=s.os)(u:Un (xE X.stack) ch H H' s.heap s'.heap)(d8:o7 X.prog X.w H' s'.heap)(hg:AllBare s'.gens)
  (F5:∀b∈ch,(b∈X.ex\/X.s₀.heap.objs.size<=b)/\b≠X.env.locals/\(∀x c,X.env.cells.lookup x=some c->c≠b)/\∀p∈X.pn++pins,p.1≠b):Inv X pins σ H' s':=by
 obtain⟨h',g',d',t',o'⟩:=s'
 have e:o'=s.os:=ho
 subst e
 exact I.call (g':=g') (t':=t') (d':=d') u d8 hg F5
end
noncomputable abbrev XK:=Value->Option Addr->Hp->Prop
noncomputable abbrev St:=List (Option V)
noncomputable abbrev VK:=V->Hp->Prop
noncomputable abbrev TE:=St->Hp->VK->Prop
noncomputable abbrev TT:=St->Hp->(Bool->Hp->Prop)->Prop
noncomputable abbrev TA:=St->Hp->(List V->Hp->Prop)->Prop
structure Ends where
 nx:St->Hp->Prop
 rt:VK
 bk:St->Hp->Prop:=λ_ _=>False
 ct:St->Hp->Prop:=λ_ _=>False
noncomputable abbrev TS:=Ends->St->Hp->Prop
noncomputable def EP(X:Cx)(pins:List (Addr×Obj))(σ:St)(Q:VK)(u:Value)(s':Shared):Prop:=∃v H',Inv X pins σ H' s'/\RelV v u/\Q v H'
noncomputable def TP(X:Cx)(pins:List (Addr×Obj))(σ:St)(Q:Bool->Hp->Prop)(b:Bool)(s':Shared):Prop:=∃H',Inv X pins σ H' s'/\Q b H'
noncomputable def AP(X:Cx)(pins:List (Addr×Obj))(σ:St)(Q:List V->Hp->Prop)(us:List Value)(s':Shared):Prop:=∃vs H',Inv X pins σ H' s'/\Vals vs us/\Q vs H'
noncomputable def SP(X:Cx)(pins:List (Addr×Obj))(D:Ends)(f:Flow)(s':Shared):Prop:=
 match f with
 |.next=>∃σ' H',Inv X pins σ' H' s'/\D.nx σ' H'
 |.brk=>∃σ' H',Inv X pins σ' H' s'/\D.bk σ' H'
 |.cont=>∃σ' H',Inv X pins σ' H' s'/\D.ct σ' H'
 |.ret u=>∃v σ' H',Inv X pins σ' H' s'/\RelV v u/\D.rt v H'
noncomputable def PE(X:Cx)(e:Expr)(t:TE):Prop:=
 ∀(pins:List (Addr×Obj)) (s:Shared) (σ:St) (H:Hp) (Q:VK),Inv X pins σ H s->t σ H Q->wpAny (model X.prog X.w) X.A (eval e X.env) (EP X pins σ Q) X.xe s
noncomputable def PT(X:Cx)(e:Expr)(t:TT):Prop:=
 ∀(pins:List (Addr×Obj)) (s:Shared) (σ:St) (H:Hp) (Q:Bool->Hp->Prop),Inv X pins σ H s->t σ H Q->wpAny (model X.prog X.w) X.A (isTrue e X.env (eval e X.env)) (TP X pins σ Q) X.xe s
noncomputable def PW(X:Cx)(e:Expr)(t:TT):Prop:=
 ∀(whole:Sem Value) (pins:List (Addr×Obj)) (s:Shared) (σ:St) (H:Hp) (Q:Bool->Hp->Prop),Inv X pins σ H s->t σ H Q->wpAny (model X.prog X.w) X.A (isTrue e X.env whole) (TP X pins σ Q) X.xe s
theorem PW.pt{X:Cx}{e:Expr}{t:TT}(h:PW X e t):PT X e t:=h _
noncomputable def PA(X:Cx)(es:List Expr)(t:TA):Prop:=
 ∀(pos:Pos) (pins:List (Addr×Obj)) (s:Shared) (σ:St) (H:Hp) (Q:List V->Hp->Prop),Inv X pins σ H s->t σ H Q->wpAny (model X.prog X.w) X.A (spliced (backTo pos (starEach es X.env))) (AP X pins σ Q) X.xe s
noncomputable def PS(X:Cx)(st:Stmt)(t:TS):Prop:=
 ∀(pins:List (Addr×Obj)) (s:Shared) (σ:St) (H:Hp) (D:Ends),Inv X pins σ H s->t D σ H->wpAny (model X.prog X.w) X.A (exec st X.env) (SP X pins D) X.xe s
noncomputable def tG(X:Cx)(st:List Stmt)(t:TS):Prop:=
 ∀(pins:List (Addr×Obj)) (s:Shared) (σ:St) (H:Hp) (D:Ends),Inv X pins σ H s->t D σ H->wpAny (model X.prog X.w) X.A (execs st X.env) (SP X pins D) X.xe s
theorem dS{α:Type}{t:Sem α}{Q Q':α->Shared->Prop}{M:Model}{A:Around}{E:Value->Shared->Prop}{s:Shared}(h:wpAny M A t Q E s)(hQ:∀a s,Q a s->Q' a s):wpAny M A t Q' E s:=wpAny_mono h hQ λ_ _ x=>x
section
variable{X:Cx}
noncomputable def Mo(i:Nat):TE:=λσ H Q=>∃v,σ[i]?=some (some v)/\Q v H
noncomputable def tC(v:V):TE:=λ_ H Q=>Q v H
theorem dD{i:Nat}{x:Str}{pos:Pos}(hN:X.N[i]?=some x)(hv:tD X.env.scope x)(hd:(x==("__debug__" :Str))=false:=by decide)(oW:(x==("__classdict__" :Str))=false:=by decide):PE X (.Name x pos) (Mo i):=by
 intro pins s σ H Q I h
 obtain⟨v,e,h⟩:=h
 obtain⟨m,hn,hl⟩:=I.loc
 obtain⟨u,r,l⟩:=hl i x v hN e hv
 have fin:EP X pins σ Q u s:=⟨v,H,I,r,h⟩
 rcases l with⟨hk,hm⟩|⟨hk,c,hc,IA⟩
 ·exact wpAny_Name (wpAny_loadName_local I.ok.kind hk hn hm fin) hd
 ·rcases hk with hk|hk
  ·exact wpAny_Name (wpAny_loadName_cell I.ok.kind hk hc IA fin) hd
  ·exact wpAny_Name (wpAny_loadName_free I.ok.kind hk hc IA fin oW) hd
theorem xF{i j pos}:PE X (.Constant (.int i) j pos) (tC (.int i)):=λ_ _ _ H _ I h=>wpAny_Constant_int ⟨.int i,H,I.tok _,⟨_,rfl⟩,h⟩
theorem CT{b j pos}:PE X (.Constant (.bool b) j pos) (tC (.bl b)):=λ_ _ _ H _ I h=>Constant_bool ⟨.bl b,H,I,rfl,h⟩
theorem xG{j pos}:PE X (.Constant .none j pos) (tC .non):=λ_ _ _ H _ I h=>Constant_none ⟨.non,H,I,rfl,h⟩
noncomputable def Gl(X:Cx)(x:Str):Prop:=X.env.kindOf x=some .globalImplicit
theorem tH{E:Value->Shared->Prop}{pins:List (Addr×Obj)}{s:Shared}{σ:St}{H:Hp}{x:Str}{u:Value}{pos:Pos}{Q:Value->Shared->Prop}(I:Inv X pins σ H s)(hg:Gl X x)(hm:X.mg x=some u)(h:Q u s)
  (hd:(x==("__debug__" :Str))=false:=by decide):wpAny (model X.prog X.w) X.A (eval (.Name x pos) X.env) Q E s:=
 Calls.Name_function_global I.ok.kind hg (Calls.loadGlobal_global (by rw[I.ok.glob];exact I.mod.glob.keeps I.bk) hm h) hd
theorem j7{E:Value->Shared->Prop}{pins:List (Addr×Obj)}{s:Shared}{σ:St}{H:Hp}{x:Str}{u:Value}{pos:Pos}{Q:Value->Shared->Prop}(I:Inv X pins σ H s)(hg:Gl X x)(hm:X.mg x=none)(hv:bootBuiltins x=some u)(h:Q u s)
  (hn:x≠ "__name__" :=by decide)(hd:(x==("__debug__" :Str))=false:=by decide):wpAny (model X.prog X.w) X.A (eval (.Name x pos) X.env) Q E s:=by
 obtain⟨mb,h1,h2⟩:=I.mod.blt
 exact Calls.Name_function_global I.ok.kind hg (Calls.loadGlobal_builtin (by rw[I.ok.glob];exact I.mod.glob.keeps I.bk) hm (by rw[I.ok.blt];exact h1.keeps I.bk) ((h2 x hn).trans hv) h) hd
theorem Gn{x:Str}{v:V}{u:Value}{pos:Pos}(hg:Gl X x)(hm:X.mg x=some u)(r:RelV v u)(hd:(x==("__debug__" :Str))=false:=by decide):PE X (.Name x pos) (tC v):=
 λ_ _ _ H _ I h=>tH I hg hm ⟨v,H,I,r,h⟩ hd
theorem Gp{x:Str}{v:V}{u:Value}{pos:Pos}(hg:Gl X x)(hm:X.mg x=none)(hv:bootBuiltins x=some u)(r:RelV v u)(hn:x≠ "__name__" :=by decide)(hd:(x==("__debug__" :Str))=false:=by decide):PE X (.Name x pos) (tC v):=
 λ_ _ _ H _ I h=>j7 I hg hm hv ⟨v,H,I,r,h⟩ hn hd
variable{a b:Expr}{ta tb:TE}{pos:Pos}
noncomputable def tB(t:TE):TT:=λσ H Q=>t σ H λx H1=>∃c,x=.bl c/\Q c H1
theorem JH{e:Expr}{t:TE}(h:PE X e t)(he:∀whole,isTrue e X.env whole=(do let v<-whole;standAt e.pos;holding [v] (truthy v)):=by intro _;rfl):PT X e (tB t):=by
 intro pins s σ H Q I hw
 refine isTrue_plain (dS (h pins s σ H _ I hw) λv s1 cy=>?_) (he _)
 obtain⟨x,H1,I1,r1,q1⟩:=cy
 obtain⟨d,rfl,q⟩:=q1
 cases r1
 exact wpAny_truthy_bool ⟨H1,I1,q⟩
variable{tA Oi:TT}{rest:List Expr}
noncomputable def jd(t u:TT):TT:=λσ H Q=>t σ H λc H1=>if c=true then u σ H1 Q else Q false H1
noncomputable def jy(t u:TT):TT:=λσ H Q=>t σ H λc H1=>if c=true then Q true H1 else u σ H1 Q
noncomputable def eV(t:TT):TT:=λσ H Q=>t σ H λc H1=>Q (!c) H1
theorem pw_and1(ha:PT X a tA):PW X (.BoolOp .And [a] pos) tA:=by
 intro wh pins s σ H Q I h
 refine isTrue_and (dS (ha pins s σ H Q I h) λc s1 e=>?_)
 cases c with
 |true=>exact isTrue_and_nil e
 |false=>exact e
theorem pw_or1(ha:PT X a tA):PW X (.BoolOp .Or [a] pos) tA:=by
 intro wh pins s σ H Q I h
 refine isTrue_or (dS (ha pins s σ H Q I h) λc s1 e=>?_)
 cases c with
 |false=>exact isTrue_or_nil e
 |true=>exact e
theorem pw_and(ha:PT X a tA)(hb:PW X (.BoolOp .And (b::rest) pos) Oi):PW X (.BoolOp .And (a::b::rest) pos) (jd tA Oi):=by
 intro wh pins s σ H Q I h
 refine isTrue_and (dS (ha pins s σ H _ I h) λc s1 ⟨H1,I1,q1⟩=>?_)
 cases c with
 |true=>exact hb wh pins s1 σ H1 Q I1 q1
 |false=>exact⟨H1,I1,q1⟩
theorem pw_or(ha:PT X a tA)(hb:PW X (.BoolOp .Or (b::rest) pos) Oi):PW X (.BoolOp .Or (a::b::rest) pos) (jy tA Oi):=by
 intro wh pins s σ H Q I h
 refine isTrue_or (dS (ha pins s σ H _ I h) λc s1 ⟨H1,I1,q1⟩=>?_)
 cases c with
 |true=>exact⟨H1,I1,q1⟩
 |false=>exact hb wh pins s1 σ H1 Q I1 q1
theorem JI(ha:PT X a tA):PT X (.UnaryOp .Not a pos) (eV tA):=by
 intro pins s σ H Q I h
 exact isTrue_not (ha pins s σ H (λc H1=>Q (!c) H1) I h)
noncomputable def Mp(ta tb:TE):TE:=λσ H Q=>ta σ H λx H1=>∃c,x=.bl c/\if c=true then tb σ H1 Q else Q (.bl false) H1
noncomputable def O6(ta tb:TE):TE:=λσ H Q=>ta σ H λx H1=>∃c,x=.bl c/\if c=true then Q (.bl true) H1 else tb σ H1 Q
noncomputable def Mq(ta:TE):TE:=λσ H Q=>ta σ H λx H1=>∃c,x=.bl c/\Q (.bl (!c)) H1
theorem JJ{op}{t:TE}(h:PE X a t):PE X (.BoolOp op [a] pos) t:=λpins s σ H Q I hw=>BoolOp_one (h pins s σ H Q I hw)
theorem JK(ha:PE X a ta)(hb:PE X (.BoolOp .And (b::rest) pos) tb):PE X (.BoolOp .And (a::b::rest) pos) (Mp ta tb):=by
 intro pins s σ H Q I h
 refine BoolOp_and (dS (ha pins s σ H _ I h) λv s1 cy=>?_)
 obtain⟨x,H1,I1,r1,q1⟩:=cy
 obtain⟨c,rfl,q1⟩:=q1
 cases r1
 refine wpAny_truthy_bool ?_
 cases c with
 |true=>exact hb pins s1 σ H1 Q I1 q1
 |false=>exact⟨.bl false,H1,I1,rfl,q1⟩
theorem Mr(ha:PE X a ta)(hb:PE X (.BoolOp .Or (b::rest) pos) tb):PE X (.BoolOp .Or (a::b::rest) pos) (O6 ta tb):=by
 intro pins s σ H Q I h
 refine BoolOp_or (dS (ha pins s σ H _ I h) λv s1 cy=>?_)
 obtain⟨x,H1,I1,r1,q1⟩:=cy
 obtain⟨c,rfl,q1⟩:=q1
 cases r1
 refine wpAny_truthy_bool ?_
 cases c with
 |false=>exact hb pins s1 σ H1 Q I1 q1
 |true=>exact⟨.bl true,H1,I1,rfl,q1⟩
theorem JM(ha:PE X a ta):PE X (.UnaryOp .Not a pos) (Mq ta):=by
 intro pins s σ H Q I h
 refine UnaryOp_ (dS (ha pins s σ H _ I h) λv s1 cy=>?_)
 obtain⟨x,H1,I1,r1,q1⟩:=cy
 obtain⟨c,rfl,q1⟩:=q1
 cases r1
 exact not_of (wpAny_truthy_bool ⟨.bl (!c),H1,I1,rfl,q1⟩)
end
noncomputable def gc(K:PySem.W.Frag)(H:Hp)(a:Addr)(xs:List V):Prop:=
 Rd H a (.lst xs)\/
  ∃(o:Obj) (its:Array Value) (n:Nat),K.lookup a=some o/\o.cls=.type "list" /\o.dict=none/\o.data=.seq its n/\its.size<=sizeLine/\Vals xs its.toList
noncomputable def lM(K:PySem.W.Frag)(H:Hp)(a:Addr)(xs:List V):Prop:=
 Rd H a (.tup xs)\/
  ∃(o:Obj) (its:Array Value) (n:Nat),K.lookup a=some o/\o.cls=.type "tuple" /\o.data=.seq its n/\(its.size<=sizeLine/\o.dict=none)/\Vals xs its.toList
noncomputable def O7:Value->Option V
 |.none=>some .non
 |.bool b=>some (.bl b)
 |.int i _=>some (.int i)
 |.str x _=>some (.str x)
 |.bytes b _=>some (.byt b)
 |.float b _=>some (.flt b)
 |.ref a=>some (.ref a)
 |.type n=>some (.ty n)
 |_=>none
theorem RelV.abs{x:V}{u:Value}(r:RelV x u):O7 u=some x:=by
 cases x with
 |non=>cases r;rfl
 |bl _=>cases r;rfl
 |int _=>obtain⟨t,rfl⟩:=r;rfl
 |str _=>obtain⟨t,rfl⟩:=r;rfl
 |byt _=>obtain⟨t,rfl⟩:=r;rfl
 |flt _=>obtain⟨t,rfl⟩:=r;rfl
 |ref _=>cases r;rfl
 |ty _=>cases r;rfl
theorem RelV.inj{x y:V}{u:Value}(r:RelV x u)(q:RelV y u):x=y:=Option.some.inj (r.abs.symm.trans q.abs)
theorem Vals.inj:∀{xs ys:List V} {us:List Value},Vals xs us->Vals ys us->xs=ys
 |_,_,_,.nil,.nil=>rfl
 |_,_,_,.cons r t,.cons r' t'=>by rw[r.inj r',Vals.inj t t']
section
variable{X:Cx}{pins:List (Addr×Obj)}{σ:St}{H:Hp}{s:Shared}{a:Addr}{xs ys:List V}
theorem gc.of{K:PySem.W.Frag}(h:H a=some (.lst xs)):gc K H a xs:=.inl (.inl h)
theorem lM.of{K:PySem.W.Frag}(h:H a=some (.tup xs)):lM K H a xs:=.inl (.inl h)
theorem Inv.list(I:Inv X pins σ H s)(h:gc X.K H a xs):∃its:List Value,Vals xs its/\PlainL s.heap a its.toArray/\xs.length<=sizeLine:=by
 rcases h with h|⟨o,its,n,hk,hc,hd,hs,hz,r⟩
 ·obtain⟨z,its,n,r,e⟩:=h.ok I.d8
  exact⟨its,r,⟨_,n,e,rfl,rfl,rfl⟩,z⟩
 ·refine⟨its.toList,r,⟨o,n,I.pG a o hk,hc,hd,by simpa using hs⟩,?_⟩
  have e:=r.length
  simp only[Array.length_toList]at e
  omega
theorem Inv.tuple(I:Inv X pins σ H s)(h:lM X.K H a xs):∃its:List Value,Vals xs its/\IsTup s.heap a its.toArray/\xs.length<=sizeLine:=by
 rcases h with h|⟨o,its,n,hk,hc,hs,hz,r⟩
 ·obtain⟨z,its,r,p⟩:=h.ok I.d8
  exact⟨its,r,p,z.1⟩
 ·refine⟨its.toList,r,⟨o,I.pG a o hk,hc,n,by simpa using hs⟩,?_⟩
  have e:=r.length
  simp only[Array.length_toList]at e
  omega
theorem Oe.new{h:Heap}{its:Array Value}{n:Nat}:Oe (h.push {cls:=.type "tuple",data:=.seq its n}) h.objs.size:=⟨_,Heap.get?_push_size _ rfl,rfl⟩
theorem Inv.je(I:Inv X pins σ H s)(h:gc X.K H a xs)(h':gc X.K H a ys):xs=ys:=by
 obtain⟨its,r,⟨o,n,e,_,_,d⟩,_⟩:=I.list h
 obtain⟨its',r',⟨o',n',e',_,_,d'⟩,_⟩:=I.list h'
 rw[e]at e';cases e'
 rw[d]at d'
 injection d' with d1 _
 have:its=its':=by simpa using congrArg Array.toList d1
 subst this
 exact r.inj r'
theorem Inv.A2(I:Inv X pins σ H s)(h:lM X.K H a xs)(h':lM X.K H a ys):xs=ys:=by
 obtain⟨its,r,⟨o,e,_,n,d⟩,_⟩:=I.tuple h
 obtain⟨its',r',⟨o',e',_,n',d'⟩,_⟩:=I.tuple h'
 rw[e]at e';cases e'
 rw[d]at d'
 injection d' with d1 _
 have:its=its':=by simpa using congrArg Array.toList d1
 subst this
 exact r.inj r'
end
noncomputable abbrev Cx.oX(X:Cx)(E:Value->Shared->Prop):Cx:={X with xe:=E}
noncomputable abbrev Cx.zm(X:Cx):Cx:=X.oX λ_ _=>False
theorem Cx.Ok.oX{X:Cx}(ok:X.Ok)(E:Value->Shared->Prop):(X.oX E).Ok:=
 ⟨ok.mod,ok.kind,ok.glob,ok.blt,ok.above,ok.inj,ok.has,ok.cab,ok.hd,ok.frames,ok.stk,ok.exf,ok.bs,ok.bsz,ok.noex,ok.exfs,ok.funs,ok.frf⟩
theorem Cx.Ok.j8{X:Cx}{E:Value->Shared->Prop}(ok:(X.oX E).Ok):X.Ok:=
 ⟨ok.mod,ok.kind,ok.glob,ok.blt,ok.above,ok.inj,ok.has,ok.cab,ok.hd,ok.frames,ok.stk,ok.exf,ok.bs,ok.bsz,ok.noex,ok.exfs,ok.funs,ok.frf⟩
section
variable{X:Cx}{pins:List (Addr×Obj)}{σ:St}{H:Hp}{s:Shared}{E:Value->Shared->Prop}
theorem Inv.oX(I:Inv X pins σ H s)(E:Value->Shared->Prop):Inv (X.oX E) pins σ H s:=⟨I.ok.oX E,I.os,I.bare,I.base,I.loc,I.cell,I.free,I.freeC,I.pin,I.d8,I.len⟩
theorem Inv.j8(I:Inv (X.oX E) pins σ H s):Inv X pins σ H s:=⟨I.ok.j8,I.os,I.bare,I.base,I.loc,I.cell,I.free,I.freeC,I.pin,I.d8,I.len⟩
theorem SP.j8{D:Ends}{f:Flow}{s':Shared}(h:SP (X.oX E) pins D f s'):SP X pins D f s':=by
 cases f with
 |next=>obtain⟨σ',H',I,q⟩:=h;exact⟨σ',H',I.j8,q⟩
 |brk=>obtain⟨σ',H',I,q⟩:=h;exact⟨σ',H',I.j8,q⟩
 |cont=>obtain⟨σ',H',I,q⟩:=h;exact⟨σ',H',I.j8,q⟩
 |ret u=>obtain⟨v,σ',H',I,r,q⟩:=h;exact⟨v,σ',H',I.j8,r,q⟩
theorem tG.zm{st:List Stmt}{t:TS}(h:tG X.zm st t):tG X st t:=λpins s σ H D I hw=>
 wpAny_mono (h pins s σ H D (I.oX _) hw) (λ_ _ q=>q.j8) λ_ _ z=>False.elim z
end
section
variable{X:Cx}{st:Stmt}{rest:List Stmt}{t u:TS}{e:Expr}{te:TE}{pos:Pos}
noncomputable def IC:TS:=λD σ H=>D.nx σ H
noncomputable def Ms(t u:TS):TS:=λD σ H=>t {D with nx:=u D} σ H
theorem o8:tG X [] IC:=λ_ _ σ H _ I h=>wpAny_execs_nil ⟨σ,H,I,h⟩
theorem cX(h1:PS X st t)(h2:tG X rest u):tG X (st::rest) (Ms t u):=by
 intro pins s σ H D I h
 refine wpAny_execs_cons (dS (h1 pins s σ H {D with nx:=u D} I h) λf s1 q=>?_)
 cases f with
 |next=>
  obtain⟨σ',H',I',q⟩:=q
  exact h2 pins s1 σ' H' D I' q
 |ret v=>exact q
 |brk=>exact q
 |cont=>exact q
theorem jA(h1:PS X st t):tG X [st] t:=by
 intro pins s σ H D I h
 refine wpAny_execs_cons (dS (h1 pins s σ H D I h) λf s1 q=>?_)
 cases f with
 |next=>exact wpAny_execs_nil q
 |ret v=>exact q
 |brk=>exact q
 |cont=>exact q
theorem Inv.quiet{pins:List (Addr×Obj)}{σ:St}{H:Hp}{s:Shared}(I:Inv X pins σ H s):interactive X.env=false:=by simp[interactive,I.ok.kind]
noncomputable def ID(te:TE):TS:=λD σ H=>te σ H λ_ H1=>D.nx σ H1
theorem jB(he:PE X e te)(hs:swapsWith e none pos.line X.env=pure false:=by rfl):PS X (.Expr e pos) (ID te):=by
 intro pins s σ H D I h
 exact wpAny_Expr_any (dS (he pins s σ H _ I h) λv s1 ⟨x,H1,I1,r1,q1⟩=>⟨σ,H1,I1,q1⟩) I.quiet hs
noncomputable def O8(te:TE):TS:=λD σ H=>te σ H D.rt
theorem nO(he:PE X e te):PS X (.Return (some e) pos) (O8 te):=by
 intro pins s σ H D I h
 exact wpAny_Return_some (dS (he pins s σ H _ I h) λv s1 ⟨x,H1,I1,r1,q1⟩=>⟨x,σ,H1,I1,r1,q1⟩)
noncomputable def O9(c:TT)(t u:TS):TS:=λD σ H=>c σ H λb H1=>if b=true then t D σ H1 else u D σ H1
theorem zo{c:Expr}{a b:List Stmt}{tc:TT}(hc:PT X c tc)(ha:tG X a t)(hb:tG X b u):PS X (.If c a b pos) (O9 tc t u):=by
 intro pins s σ H D I h
 refine wpAny_If (dS (hc pins s σ H _ I h) λd s1 ⟨H1,I1,q1⟩=>?_)
 cases d with
 |true=>exact ha pins s1 σ H1 D I1 q1
 |false=>exact hb pins s1 σ H1 D I1 q1
end
noncomputable abbrev TG:=V->St->Hp->(St->Hp->Prop)->Prop
noncomputable abbrev JN:=List V->St->Hp->(St->Hp->Prop)->Prop
noncomputable def PG(X:Cx)(target:Expr)(t:TG):Prop:=
 ∀(pins:List (Addr×Obj)) (s:Shared) (σ:St) (H:Hp) (v:V) (u:Value) (Q:St->Hp->Prop),Inv X pins σ H s->RelV v u->t v σ H Q->
  wpAny (model X.prog X.w) X.A (assign target X.env u) (λ_ s'=>∃σ' H',Inv X pins σ' H' s'/\Q σ' H') X.xe s
noncomputable def Oj(X:Cx)(ts:List Expr)(t:JN):Prop:=
 ∀(pins:List (Addr×Obj)) (s:Shared) (σ:St) (H:Hp) (vs:List V) (us:List Value) (Q:St->Hp->Prop),Inv X pins σ H s->Vals vs us->t vs σ H Q->
  wpAny (model X.prog X.w) X.A (assignInOrder ((assignEach ts X.env).map (·.2)) us) (λ_ s'=>∃σ' H',Inv X pins σ' H' s'/\Q σ' H') X.xe s
noncomputable abbrev JO:=V->V->V->Hp->(Hp->Prop)->Prop
noncomputable def Mu(X:Cx)(t:JO):Prop:=
 ∀(pins:List (Addr×Obj)) (s:Shared) (σ:St) (H:Hp) (o i v:V) (ov iv u:Value) (Q:Hp->Prop),Inv X pins σ H s->RelV o ov->RelV i iv->RelV v u->t o i v H Q->
  wpAny (model X.prog X.w) X.A (setItem ov iv u) (λ_ s'=>∃H',Inv X pins σ H' s'/\Q H') X.xe s
section
variable{X:Cx}{pos:Pos}
noncomputable def IE(i:Nat):TG:=λv σ H Q=>Q (σ.set i (some v)) H
theorem lr{i:Nat}{x:Str}(hN:X.N.Nodup)(hi:X.N[i]?=some x)(hx:Loc X.env.scope x)(hf:X.fn x=true\/X.env.scope.names.lookup x=some .local:=by first|exact .inl rfl|exact .inr rfl|assumption):PG X (.Name x pos) (IE i):=by
 intro pins s σ H v u Q I r h
 exact wpAny_assign_Name (pH I hN hi hx r (λs' I'=>⟨_,H,I',h⟩) hf)
noncomputable def Pa:JN:=λvs σ H Q=>vs=[]/\Q σ H
noncomputable def Mv(t:TG)(u:JN):JN:=λvs σ H Q=>∃v r,vs=v::r/\t v σ H λσ' H'=>u r σ' H' Q
theorem tI:Oj X [] Pa:=by
 intro pins s σ H vs us Q I r h
 obtain⟨e,h⟩:=h
 subst e
 cases r
 exact assignInOrder_nil ⟨σ,H,I,h⟩
theorem jf{e:Expr}{es:List Expr}{t:TG}{u:JN}(h1:PG X e t)(h2:Oj X es u)
  (hs:(assignEach (e::es) X.env).map (·.2)=assign e X.env::(assignEach es X.env).map (·.2):=by rfl):Oj X (e::es) (Mv t u):=by
 intro pins s σ H vs us Q I r h
 obtain⟨v,vr,e1,h⟩:=h
 subst e1
 cases r with
 |cons r rr=>
  rw[hs]
  refine assignInOrder_cons (dS (h1 pins s σ H _ _ _ I r h) λ_ s1 cy=>?_)
  obtain⟨σ1,H1,I1,q1⟩:=cy
  exact h2 pins s1 σ1 H1 _ _ Q I1 rr q1
noncomputable def Pb(K:PySem.W.Frag)(n:Nat)(t:JN):TG:=λv σ H Q=>∃a xs,v=.ref a/\lM K H a xs/\xs.length=n/\t xs σ H Q
theorem xH{es:List Expr}{k:Nat}{t:JN}{n:Nat}(hc:X.calm=true)(h:Oj X es t)
  (hn:(assignEach es X.env).length=n:=by rfl)(oY:(assignEach es X.env).findIdx? (·.1)=none:=by rfl):PG X (.Tuple es k pos) (Pb X.K n t):=by
 intro pins s σ H v u Q I r hw
 obtain⟨a,xs,e1,hq,hl,hw⟩:=hw
 subst e1
 cases r
 obtain⟨its,rv,ht,hz⟩:=I.tuple hq
 refine assign_Tuple_tuple (I.ok.hd hc) ht (by simp[hn,<-hl,rv.length]) oY λh' hx=>?_
 have I1:Inv X pins σ H {s with heap:=h'}:=I.kept (t':=s.toks) λb o e=>hx b o (Nat.ne_of_lt (Heap.lt_size e)) e
 exact h pins _ σ H xs _ Q I1 (by simpa using rv) hw
noncomputable def tJ(to ti:TE)(t:JO):TG:=λv σ H Q=>to σ H λo H1=>ti σ H1 λi H2=>t o i v H2 λH3=>Q σ H3
theorem CU{o i:Expr}{to ti:TE}{t:JO}(ho:PE X o to)(hi:PE X i ti)(hs:Mu X t)
  (ha:∀v,assign (.Subscript o i pos) X.env v=(do
    let ov<-holding [v] (eval o X.env)
    let iv<-holding [v,ov] (eval i X.env)
    standAt pos
    holding [v,ov,iv] (setItem ov iv v)
    release [v,ov,iv] []):=by intro _;rfl):PG X (.Subscript o i pos) (tJ to ti t):=by
 intro pins s σ H v u Q I r h
 rw[ha]
 refine wpAny_bind (wpAny_holding (dS (ho pins s σ H _ I h) λov s1 cy=>?_))
 obtain⟨x,H1,I1,r1,q1⟩:=cy
 refine wpAny_bind (wpAny_holding (dS (hi pins s1 σ H1 _ I1 q1) λiv s2 cy=>?_))
 obtain⟨y,H2,I2,r2,q2⟩:=cy
 refine wpAny_bind (wpAny_standAt (wpAny_bind (wpAny_holding (dS (hs pins s2 σ H2 x y v ov iv u _ I2 r1 r2 r q2) λ_ s3 cy=>?_))))
 obtain⟨H3,I3,q3⟩:=cy
 exact wpAny_release ⟨σ,H3,I3,q3⟩
noncomputable def Mw(te:TE)(g:TG):TS:=λD σ H=>te σ H λx H1=>g x σ H1 D.nx
theorem xI{tg e:Expr}{te:TE}{g:TG}(he:PE X e te)(hg:PG X tg g)(hs:swapsWithSole [tg] e pos.line X.env=pure false:=by rfl)(hw:swappedStores [tg] e X.env=pure none:=by rfl)
  (h1:(assignEach [tg] X.env).map (·.2)=[assign tg X.env]:=by rfl):PS X (.Assign [tg] e pos) (Mw te g):=by
 intro pins s σ H D I h
 refine wpAny_Assign_stores (dS (he pins s σ H _ I h) λv s1 cy=>?_) hs hw
 obtain⟨x,H1,I1,r1,q1⟩:=cy
 rw[h1]
 exact dS (hg pins s1 σ H1 x v _ I1 r1 q1) λ_ s2 q=>q
theorem nP{i:Nat}{x:Str}{e:Expr}{te:TE}{pos':Pos}(hN:X.N.Nodup)(hi:X.N[i]?=some x)(hx:Loc X.env.scope x)(he:PE X e te)(hs:swapsWith e (some (.Name x pos')) pos.line X.env=pure false:=by rfl)(hf:X.fn x=true\/X.env.scope.names.lookup x=some .local:=by first|exact .inl rfl|exact .inr rfl|assumption):
  PS X (.Assign [.Name x pos'] e pos) (Mw te (IE i)):=by
 intro pins s σ H D I h
 refine wpAny_Assign_Name (dS (he pins s σ H _ I h) λv s1 cy=>?_) hs
 obtain⟨y,H1,I1,r1,q1⟩:=cy
 exact pH I1 hN hi hx r1 (λs2 I2=>⟨_,H1,I2,q1⟩) hf
end
section
variable{X:Cx}{pos:Pos}
noncomputable def JP(c:TT)(tb:TS):TS:=λD σ H=>∃W:Nat->St->Hp->Prop,(∃m,W m σ H)/\∀m σ H,W m σ H->
 c σ H λb H1=>if b=true then∃N:St->Hp->Prop,(∀σ' H',N σ' H'->∃m',m'<m/\W m' σ' H')/\tb {D with nx:=N,ct:=N,bk:=D.nx} σ H1 else D.nx σ H1
theorem vz{c:Expr}{body:List Stmt}{tc:TT}{tb:TS}(hp:PassesOwn (model X.prog X.w) X.A X.env X.xe)(hc:PT X c tc)(hb:tG X body tb):PS X (.While c body [] pos) (JP tc tb):=by
 intro pins s σ H D I h
 obtain⟨W,⟨m0,w0⟩,turn⟩:=h
 refine wpAny_While (codeAny_whileLoop (λn s'=>∃σ' H',Inv X pins σ' H' s'/\W n σ' H') ?_ m0 ⟨σ,H,I,w0⟩)
 rintro n s1 ⟨σ1,H1,I1,w1⟩
 refine wpAny_passesOwn hp (dS (hc pins s1 σ1 H1 _ I1 (turn n σ1 H1 w1)) λb s2 ⟨H2,I2,q2⟩=>?_)
 cases b with
 |true=>
  obtain⟨N,hN,q2⟩:=q2
  rw[if_pos rfl]
  refine wpAny_passesOwn hp (dS (hb pins s2 σ1 H2 _ I2 q2) λf s3 q3=>?_)
  cases f with
  |next=>
   obtain⟨σ3,H3,I3,n3⟩:=q3
   obtain⟨m',hm,w3⟩:=hN σ3 H3 n3
   exact⟨m',hm,σ3,H3,I3,w3⟩
  |cont=>
   obtain⟨σ3,H3,I3,n3⟩:=q3
   obtain⟨m',hm,w3⟩:=hN σ3 H3 n3
   exact⟨m',hm,σ3,H3,I3,w3⟩
  |brk=>exact q3
  |ret v=>exact q3
 |false=>
  rw[if_neg Bool.false_ne_true]
  exact wpAny_execs_nil ⟨σ1,H2,I2,q2⟩
end
structure It where
 go:Nat->Hp->Prop
 yld:Nat->Hp->V->Hp->Prop
 stop:Nat->Hp->Prop
noncomputable def j9(X:Cx)(pins:List (Addr×Obj))(H:Hp)(b:Addr):Prop:=
 H b=none/\b≠X.env.locals/\b∉X.fs/\(b∈X.ex\/X.s₀.heap.objs.size<=b)/\(∀x c,X.env.cells.lookup x=some c->c≠b)/\∀p∈X.pn++pins,p.1≠b
theorem Inv.Gq{X:Cx}{pins:List (Addr×Obj)}{σ:St}{H H':Hp}{s:Shared}{b:Addr}(I:Inv X pins σ H s)(hb:s.heap.objs.size<=b)(hn:H' b=none):j9 X pins H' b:=by
 refine⟨hn,Nat.ne_of_gt (Nat.lt_of_lt_of_le I.lt hb),I.A0 hb,.inr (Nat.le_trans I.sz hb),λx c e z=>?_,λp hp z=>?_⟩
 ·obtain⟨v,q⟩:=I.cell x c e
  exact absurd (Nat.lt_of_lt_of_le q.lt (by rw[z];exact hb)) (Nat.lt_irrefl _)
 ·exact absurd (Nat.lt_of_lt_of_le (Heap.lt_size (I.pin p hp).1) (by rw[z];exact hb)) (Nat.lt_irrefl _)
structure Turn(P:Program)(w:World)(K:PySem.W.Frag)(tg:Expr)(J:It)(fp:List Addr)(it:Addr)(tn:Nat->Heap->Prop):Prop where
 mem:it∈fp
 obj:∀i h,tn i h->∀b∈fp,∃o,h.get? b=some o/\∀v,o.data≠.cell v
 keep:∀i h h',tn i h->(∀b∈fp,∀o,h.get? b=some o->h'.get? b=some o)->tn i h'
 item:∀(X:Cx),X.prog=P->X.w=w->X.K=K->X.calm=true->∀(i:Nat) (pins:List (Addr×Obj)) (s:Shared) (σ:St) (H:Hp) (E:Value->Shared->Prop),Inv X pins σ H s->(∀b∈fp,j9 X pins H b)->tn i s.heap->J.go i H->
  wpAny (model P w) X.A (pyNext (.ref it)) (λr s1=>∃u,r=some u/\
   wpAny (model P w) X.A (letOwnedTupleGo tg (.ref it) u) (λ_ s2=>∃x H',Inv X pins σ H' s2/\RelV x u/\J.yld i H x H'/\tn (i+1) s2.heap/\∀b∈fp,H' b=none) E s1) E s
 done:∀(X:Cx),X.prog=P->X.w=w->X.K=K->X.calm=true->∀(i:Nat) (pins:List (Addr×Obj)) (s:Shared) (σ:St) (H:Hp) (E:Value->Shared->Prop),Inv X pins σ H s->(∀b∈fp,j9 X pins H b)->tn i s.heap->J.stop i H->
  wpAny (model P w) X.A (pyNext (.ref it)) (λr s1=>r=none/\Inv X pins σ H s1) E s
 self:∀(A:Around) (i:Nat) (s:Shared) (Q:Value->Shared->Prop) (E:Value->Shared->Prop),tn i s.heap->Q (.ref it) s->wpAny (model P w) A (pyIter (.ref it)) Q E s
noncomputable abbrev TI:=St->Hp->(It->Hp->Prop)->Prop
noncomputable def Q1(X:Cx)(pins:List (Addr×Obj))(σ:St)(tg:Expr)(R:It->Hp->Prop)(LY:Value)(s2:Shared):Prop:=
 ∃(it:Addr) (fp:List Addr) (tn:Nat->Heap->Prop) (J:It) (H':Hp),LY=.ref it/\Inv X pins σ H' s2/\Turn X.prog X.w X.K tg J fp it tn/\tn 0 s2.heap/\(∀b∈fp,j9 X pins H' b)/\R J H'
noncomputable def PI(X:Cx)(tg iter:Expr)(wi:TI):Prop:=
 ∀(pins:List (Addr×Obj)) (s:Shared) (σ:St) (H:Hp) (R:It->Hp->Prop),Inv X pins σ H s->wi σ H R->
  wpAny (model X.prog X.w) X.A (eval iter X.env) (λv s1=>wpAny (model X.prog X.w) X.A (pyIter v) (Q1 X pins σ tg R) X.xe s1) X.xe s
theorem IF{M:Model}{A:Around}{E:Value->Shared->Prop}{s:Shared}{tg:Expr}{it:Addr}{u:Value}{o:Obj}{n:String}{vs:Array Value}{Q:Unit->Shared->Prop}(ho:s.heap.get? it=some o)(hc:o.cls=.type n)(hd:o.data=.fields vs)
  (hn:["enumerate","zip","dict_itemiterator","dict_reverseitemiterator","odict_iterator","itertools.zip_longest","itertools.pairwise"].contains n=false)(hQ:Q () s):wpAny M A (letOwnedTupleGo tg (.ref it) u) Q E s:=by
 unfold letOwnedTupleGo
 cases tg<;>first
  |exact wpAny_pure hQ
  |(cases u<;>first
     |exact wpAny_pure hQ
     |(refine wpAny_bind (wpAny_load ho ?_)
       rw[hc,hd]
       show wpAny M A (if(["enumerate","zip","dict_itemiterator","dict_reverseitemiterator","odict_iterator","itertools.zip_longest","itertools.pairwise"].contains n&&vs[0]?==some (rawInt _))=true then _ else _) Q E s
       rw[if_neg (by intro h;rw[hn,Bool.false_and]at h;cases h)]
       exact wpAny_pure hQ))
noncomputable def Pc(K:PySem.W.Frag)(a:Addr):It:=
 ⟨λi H=>∃xs x,gc K H a xs/\xs[i]?=some x,λi H x H'=>H'=H/\∀xs,gc K H a xs->xs[i]?=some x,λi H=>∃xs,gc K H a xs/\xs.length<=i⟩
noncomputable def IG(lo:Int)(n:Nat):It:=⟨λi _=>i<n,λi H x H'=>H'=H/\x=.int (lo+i),λi _=>n<=i⟩
theorem A3{P:Program}{w:World}{K:PySem.W.Frag}{tg:Expr}(a it:Addr):Turn P w K tg (Pc K a) [it] it (λi h=>h.IsListIter it a i) where
 mem:=by simp
 obj:=λi h st b hb=>by
  have e:b=it:=by simpa using hb
  subst e
  obtain⟨o,e,c,d⟩:=st
  exact⟨o,e,λv z=>by rw[d]at z;cases z⟩
 keep:=λi h h' st k=>st.at λo e=>k it (by simp) o e
 item:=by
  intro X hP hw hK hc i pins s σ H E I hf st hg
  subst hP hw hK
  obtain⟨xs,x,hq,hx⟩:=hg
  obtain⟨its,rv,p,hz⟩:=I.list hq
  obtain⟨u,hu,ru⟩:=rv.get hx
  obtain⟨f0,f1,f2,f3,f4,f5⟩:=hf it (by simp)
  refine wpAny_pyNext_list_item st p.isList (x:=u) (by simpa using hu) λh' a9 sb=>?_
  have I1:Inv X pins σ H {s with heap:=h'}:=I.turned (t':=s.toks) (λb o hb e=>(sb.2 b hb).trans e) f0 f1 f3 f4 f5
  obtain⟨o,e,c,d⟩:=id a9
  exact⟨u,rfl,IF (s:={s with heap:=h'}) e c d (by decide) ⟨x,H,I1,ru,⟨rfl,λys hy=>by rw[I.je hy hq];exact hx⟩,a9,λb hb=>(hf b hb).1⟩⟩
 done:=by
  intro X hP hw hK hc i pins s σ H E I hf st hg
  subst hP hw hK
  obtain⟨xs,hq,hx⟩:=hg
  obtain⟨its,rv,p,hz⟩:=I.list hq
  obtain⟨f0,f1,f2,f3,f4,f5⟩:=hf it (by simp)
  have hl:=rv.length
  exact wpAny_pyNext_list_end (I.ok.hd hc) st p.isList (by simp;omega) λh' eb=>⟨rfl,I.turned (t':=s.toks) (λb o hb e=>eb b o hb e) f0 f1 f3 f4 f5⟩
 self:=λ_ _ _ _ _ st h=>wpAny_pyIter_listiter st h
theorem xJ{P:Program}{w:World}{K:PySem.W.Frag}{tg:Expr}(it:Addr)(lo:Int)(n:Nat):Turn P w K tg (IG lo n) [it] it (λi h=>IsRangeIter h it (lo+(i:Nat)*1) ((n:Int)-(i:Nat)) 1) where
 mem:=by simp
 obj:=λi h st b hb=>by
  have e:b=it:=by simpa using hb
  subst e
  exact⟨_,st,λv z=>by
   have z':Data.fields _=Data.cell v:=z
   cases z'⟩
 keep:=λi h h' st k=>k it (by simp) _ st
 item:=by
  intro X hP hw hK hc i pins s σ H E I hf st hg
  subst hP hw hK
  obtain⟨f0,f1,f2,f3,f4,f5⟩:=hf it (by simp)
  have W:=Walks.range (prog:=X.prog) (w:=X.w) (I.ok.hd hc) it lo 1 n
  refine W.item i s _ _ hg st λv h' tk hv a9 kk=>?_
  obtain⟨t,rfl⟩:=hv
  have I1:Inv X pins σ H {s with heap:=h',toks:=tk}:=I.turned (λb o hb e=>kk b o (by simpa using hb) e) f0 f1 f3 f4 f5
  refine⟨_,rfl,IF (s:={s with heap:=h',toks:=tk}) (n:= "range_iterator") a9 rfl rfl (by decide) ⟨.int (lo+i),H,I1,⟨t,?_⟩,⟨rfl,rfl⟩,a9,λb hb=>(hf b hb).1⟩⟩
  rw[Int.mul_one]
 done:=by
  intro X hP hw hK hc i pins s σ H E I hf st hg
  subst hP hw hK
  obtain⟨f0,f1,f2,f3,f4,f5⟩:=hf it (by simp)
  exact wpAny_pyNext_range_end (I.ok.hd hc) st (by have:n<=i:=hg;omega) λh' eb=>⟨rfl,I.turned (t':=s.toks) (λb o hb e=>eb b o hb e) f0 f1 f3 f4 f5⟩
 self:=λ_ _ _ _ _ st h=>wpAny_pyIter_rangeiter st h
section
variable{X:Cx}{tg:Expr}
noncomputable def Mx(K:PySem.W.Frag)(tl:TE):TI:=λσ H R=>tl σ H λx H1=>∃a,x=.ref a/\(∃xs,gc K H1 a xs)/\R (Pc K a) H1
theorem zp{l:Expr}{tl:TE}(hl:PE X l tl):PI X tg l (Mx X.K tl):=by
 intro pins s σ H R I h
 refine dS (hl pins s σ H _ I h) λv s1 cy=>?_
 obtain⟨x,H1,I1,r1,q1⟩:=cy
 obtain⟨a,e,⟨xs,hq⟩,q⟩:=q1
 subst e
 cases r1
 obtain⟨its,rv,p,hz⟩:=I1.list hq
 refine wpAny_pyIter_list p.isList ?_
 refine⟨s1.heap.objs.size,[s1.heap.objs.size],_,_,H1,rfl,I1.kept (t':=s1.toks) λb o e=>Heap.get?_push_of_some _ e,A3 a _,⟨_,Heap.get?_push_size _ rfl,rfl,rfl⟩,λb hb=>?_,q⟩
 have e:b=s1.heap.objs.size:=by simpa using hb
 subst e
 exact I1.Gq (Nat.le_refl _) (I1.d8.fresh (Nat.le_refl _))
theorem CV{pins:List (Addr×Obj)}{σ:St}{H:Hp}{s:Shared}{R:It->Hp->Prop}{E:Value->Shared->Prop}{lo hi:Int}{t u v:Tok}{tk:Nat}(I:Inv X pins σ H s)(h1:-(2^62)<=lo)(h2:lo<2^62)(h3:-(2^62)<=hi)(h4:hi<2^62)
  (q:R (IG lo (hi-lo).toNat) H):wpAny (model X.prog X.w) X.A (pyIter (.ref s.heap.objs.size)) (Q1 X pins σ tg R) E {s with heap:=s.heap.push {cls:=.type "range",data:=.fields #[.int lo t,.int hi u,.int 1 v]},toks:=tk}:=by
 refine wpAny_pyIter_range (IsRange.new ..) (small_one h1 h2 h3 h4) ?_
 have I1:Inv X pins σ H {s with heap:=s.heap.push {cls:=.type "range",data:=.fields #[.int lo t,.int hi u,.int 1 v]},toks:=tk}:=I.kept λb o e=>Heap.get?_push_of_some _ e
 refine⟨(s.heap.push {cls:=.type "range",data:=.fields #[.int lo t,.int hi u,.int 1 v]}).objs.size,[(s.heap.push {cls:=.type "range",data:=.fields #[.int lo t,.int hi u,.int 1 v]}).objs.size],_,_,H,rfl,
  I1.kept (t':=tk) λb o e=>Heap.get?_push_of_some _ e,xJ _ lo (hi-lo).toNat,?_,λb hb=>?_,q⟩
 ·have e1:lo+((0:Nat):Int)*1=lo:=by simp
  have e2:(((hi-lo).toNat:Nat):Int)-((0:Nat):Int)=Builtin.Range.rangeSize lo hi 1:=by rw[rangeSize_one];split<;>omega
  show IsRangeIter _ _ (lo+((0:Nat):Int)*1) ((((hi-lo).toNat:Nat):Int)-((0:Nat):Int)) 1
  rw[e1,e2]
  exact Heap.get?_push_size _ rfl
 ·have e:b=(s.heap.push {cls:=.type "range",data:=.fields #[.int lo t,.int hi u,.int 1 v]}).objs.size:=by simpa using hb
  subst e
  exact I1.Gq (Nat.le_refl _) (I1.d8.fresh (Nat.le_refl _))
noncomputable def IH(ta:TA):TI:=λσ H R=>ta σ H λvs H1=>∃j:Int,vs=[.int j]/\-(2^62)<=j/\j<2^62/\R (IG 0 j.toNat) H1
theorem nQ{a:Expr}{ta:TA}{p pos:Pos}(hg:Gl X "range")(hm:X.mg "range" =none)(ha:PA X [a] ta)(hs:starEach [a] X.env=[(false,eval a X.env)]:=by rfl):PI X tg (.Call (.Name "range" p) [a] [] pos) (IH ta):=by
 intro pins s σ H R I h
 refine Call_ (j7 I hg hm boot_range (PyProof.Rows.callWith_type1 (dS (ha pos pins s σ H _ I h) λus s1 cy=>?_) hs rfl))
 obtain⟨vs,H1,I1,r1,q1⟩:=cy
 obtain⟨j,e,q1,q2,q⟩:=q1
 subst e
 cases r1 with
 |cons r rr=>
  cases rr
  obtain⟨t,rfl⟩:=r
  exact call_range_1 (CV I1 (by omega) (by omega) q1 q2 (by simpa using q))
noncomputable def Pd(wi:TI)(g:TG)(tb:TS):TS:=λD σ H=>wi σ H λJ H1=>∃W:Nat->Nat->St->Hp->Prop,(∃m,W 0 m σ H1)/\∀i m σ H,W i m σ H->
 (J.stop i H/\D.nx σ H)\/(J.go i H/\∃N:St->Hp->Prop,(∀σ' H',N σ' H'->∃m',m'<m/\W (i+1) m' σ' H')/\∀x H',J.yld i H x H'->g x σ H' λσ2 H2=>tb {D with nx:=N,ct:=N,bk:=D.nx} σ2 H2)
noncomputable def fE(fp:List Addr)(h:Heap):List (Addr×Obj):=fp.filterMap λb=>(h.get? b).map λo=>(b,o)
theorem gp{fp:List Addr}{h:Heap}{b:Addr}{o:Obj}(hb:b∈fp)(e:h.get? b=some o):(b,o)∈fE fp h:=List.mem_filterMap.mpr ⟨b,hb,by rw[e];rfl⟩
theorem nR{fp:List Addr}{h:Heap}{p:Addr×Obj}(hp:p∈fE fp h):p.1∈fp/\h.get? p.1=some p.2:=by
 obtain⟨b,hb,e⟩:=List.mem_filterMap.mp hp
 cases q:h.get? b with
 |none=>rw[q]at e;cases e
 |some o=>
  rw[q]at e
  have e':(b,o)=p:=Option.some.inj e
  subst e'
  exact⟨hb,q⟩
theorem Inv.pinned{pins:List (Addr×Obj)}{σ:St}{H:Hp}{s:Shared}{fp:List Addr}(I:Inv X pins σ H s)(hf:∀b∈fp,j9 X pins H b)(ho:∀b∈fp,∃o,s.heap.get? b=some o/\∀v,o.data≠.cell v):Inv X (pins++fE fp s.heap) σ H s:=
 I.eH λp hp=>(List.mem_append.mp hp).elim (λz=>I.pin p (List.mem_append_right _ z)) λz=>by
  obtain⟨hb,e⟩:=nR z
  obtain⟨f0,f1,f2,_⟩:=hf p.1 hb
  obtain⟨o,e',d⟩:=ho p.1 hb
  rw[e]at e';cases e'
  exact⟨e,f0,f1,f2,d⟩
theorem Inv.mL{pins pl:List (Addr×Obj)}{σ:St}{H:Hp}{s:Shared}(I:Inv X (pins++pl) σ H s):Inv X pins σ H s:=I.eH λp hp=>I.pin p (List.mem_append_right _ (List.mem_append_left _ hp))
theorem xK{iter:Expr}{body:List Stmt}{wi:TI}{g:TG}{tb:TS}{pos:Pos}(hp:PassesOwn (model X.prog X.w) X.A X.env X.xe)(hc:X.calm=true)(hi:PI X tg iter wi)(hg:PG X tg g)(hb:tG X body tb)
  (hs:∀x,foldedSetIterable iter X.env x=pure x:=by intro _;rfl):PS X (.For tg iter body [] pos) (Pd wi g tb):=by
 intro pins s σ H D I h
 refine wpAny_For (dS (hi pins s σ H _ I h) λv s1 h1=>dS h1 λLY s2 h2=>?_) hs
 obtain⟨it,fp,tn,J,H2,e,I2,T,b9,f2,W,⟨m0,w0⟩,turn⟩:=h2
 subst e
 have JQ:∀{H':Hp},(∀b∈fp,H' b=none)->∀b∈fp,j9 X pins H' b:=λhn b hb=>⟨hn b hb,(f2 b hb).2⟩
 refine codeAny_forLoop_any (λn s'=>∃i σ' H',Inv X pins σ' H' s'/\tn i s'.heap/\(∀b∈fp,H' b=none)/\W i n σ' H') ?_ m0 ⟨0,σ,H2,I2,b9,λb hb=>(f2 b hb).1,w0⟩
 rintro n s3 ⟨i,σ3,H3,I3,rA,Q2,w3⟩
 rcases turn i n σ3 H3 w3 with⟨stop,qn⟩|⟨go,N,hN,step⟩
 ·refine wpAny_passesOwn hp (dS (T.done X rfl rfl rfl hc i pins s3 σ3 H3 X.xe I3 (JQ Q2) rA stop) λr s4 ⟨hr,I4⟩=>?_)
  subst hr
  exact wpAny_execs_nil ⟨σ3,H3,I4,qn⟩
 ·refine wpAny_passesOwn hp (dS (T.item X rfl rfl rfl hc i pins s3 σ3 H3 X.xe I3 (JQ Q2) rA go) λr s4 cy=>?_)
  obtain⟨u,hr,h4⟩:=cy
  subst hr
  refine wpAny_passesOwn hp (dS h4 λ_ s5 cy=>?_)
  obtain⟨x,H5,I5,r5,y5,i6,Mz⟩:=cy
  have MA:=I5.pinned (JQ Mz) (T.obj _ _ i6)
  refine wpAny_passesOwn hp (dS (hg _ s5 σ3 H5 x u _ MA r5 (step x H5 y5)) λ_ s6 cy=>?_)
  obtain⟨σ6,H6,I6,q6⟩:=cy
  refine wpAny_passesOwn hp (dS (hb _ s6 σ6 H6 _ I6 q6) λf s7 q7=>?_)
  have again:∀{σ7:St} {H7:Hp},Inv X (pins++fE fp s5.heap) σ7 H7 s7->N σ7 H7->∃m,m<n/\∃i σ' H',Inv X pins σ' H' s7/\tn i s7.heap/\(∀b∈fp,H' b=none)/\W i m σ' H':=λ{σ7 H7} I7 n7=>by
   obtain⟨m',hm,w7⟩:=hN σ7 H7 n7
   refine⟨m',hm,i+1,σ7,H7,I7.mL,T.keep _ _ _ i6 λb hb o e=>(I7.pin (b,o) (List.mem_append_right _ (List.mem_append_right _ (gp hb e)))).1,λb hb=>?_,w7⟩
   obtain⟨o,e,d⟩:=T.obj _ _ i6 b hb
   exact(I7.pin (b,o) (List.mem_append_right _ (List.mem_append_right _ (gp hb e)))).2.1
  cases f with
  |next=>obtain⟨σ7,H7,I7,n7⟩:=q7;exact again I7 n7
  |cont=>obtain⟨σ7,H7,I7,n7⟩:=q7;exact again I7 n7
  |brk=>obtain⟨σ7,H7,I7,q7⟩:=q7;exact⟨σ7,H7,I7.mL,q7⟩
  |ret v=>obtain⟨x7,σ7,H7,I7,r7,q7⟩:=q7;exact⟨x7,σ7,H7,I7.mL,r7,q7⟩
end
theorem A4{lo:Int}{n:Nat}{g:TG}{tb:TS}{D:Ends}{σ:St}{H:Hp}(Pv:Nat->St->Hp->Prop)(h0:Pv 0 σ H)
  (hs:∀i σ H,i<n->Pv i σ H->g (.int (lo+i)) σ H λσ2 H2=>tb {D with nx:=Pv (i+1),ct:=Pv (i+1),bk:=D.nx} σ2 H2)(hd:∀σ H,Pv n σ H->D.nx σ H):
  ∃W:Nat->Nat->St->Hp->Prop,(∃m,W 0 m σ H)/\∀i m σ H,W i m σ H->
   ((IG lo n).stop i H/\D.nx σ H)\/((IG lo n).go i H/\∃N:St->Hp->Prop,(∀σ' H',N σ' H'->∃m',m'<m/\W (i+1) m' σ' H')/\∀x H',(IG lo n).yld i H x H'->g x σ H' λσ2 H2=>tb {D with nx:=N,ct:=N,bk:=D.nx} σ2 H2):=by
 refine⟨λi m σ H=>m=n-i/\i<=n/\Pv i σ H,⟨n,by simp,Nat.zero_le _,h0⟩,?_⟩
 rintro i m σ H ⟨rfl,hi,p⟩
 by_cases fF:i<n
 ·refine .inr ⟨fF,Pv (i+1),λσ' H' p'=>⟨n-(i+1),by omega,rfl,fF,p'⟩,λx H' y=>?_⟩
  obtain⟨e,y⟩:=y
  subst e y
  exact hs i σ _ fF p
 ·have e:i=n:=by omega
  subst e
  exact .inl ⟨Nat.le_refl _,hd σ H p⟩
noncomputable abbrev R2:=V->V->Hp->VK->Prop
noncomputable def j6(X:Cx)(f:Value->Value->Sem Value)(r:R2):Prop:=
 ∀(pins:List (Addr×Obj)) (s:Shared) (σ:St) (H:Hp) (x y:V) (v u:Value) (Q:VK),Inv X pins σ H s->RelV x v->RelV y u->r x y H Q->
  wpAny (model X.prog X.w) X.A (f v u) (EP X pins σ Q) X.xe s
noncomputable def Pe(X:Cx)(f:Value->Sem Value)(r:V->Hp->VK->Prop):Prop:=
 ∀(pins:List (Addr×Obj)) (s:Shared) (σ:St) (H:Hp) (x:V) (v:Value) (Q:VK),Inv X pins σ H s->RelV x v->r x H Q->
  wpAny (model X.prog X.w) X.A (f v) (EP X pins σ Q) X.xe s
noncomputable def gY(X:Cx)(f:Value)(r:List V->Hp->VK->Prop):Prop:=
 ∀(pins:List (Addr×Obj)) (s:Shared) (σ:St) (H:Hp) (xs:List V) (us:List Value) (Q:VK),Inv X pins σ H s->Vals xs us->r xs H Q->
  wpAny (model X.prog X.w) X.A (call f us) (EP X pins σ Q) X.xe s
noncomputable def MB(r:R2)(ta tb:TE):TE:=λσ H Q=>ta σ H λx H1=>tb σ H1 λy H2=>r x y H2 Q
noncomputable def R5(r:V->Hp->VK->Prop)(ta:TE):TE:=λσ H Q=>ta σ H λx H1=>r x H1 Q
noncomputable def rI(C:Int->Int->Prop)(g:Int->Int->V):R2:=λx y H Q=>∃i j,x=.int i/\y=.int j/\C i j/\Q (g i j) H
noncomputable def CW(g:Int->Int->V):R2:=λx y H Q=>∃i j,x=.int i/\y=.int j/\Q (g i j) H
noncomputable def rU(g:Int->V):V->Hp->VK->Prop:=λx H Q=>∃i,x=.int i/\Q (g i) H
section
variable{X:Cx}{a b c:Expr}{ta tb tc:TE}{pos:Pos}
theorem JR(ha:PE X a ta)(hb:PE X b tb){pins:List (Addr×Obj)}{s:Shared}{σ:St}{H:Hp}{R:V->V->Hp->Prop}(I:Inv X pins σ H s)
  (h:ta σ H λx H1=>tb σ H1 λy H2=>R x y H2){Q:Value->Shared->Prop}{f:Value->Value->Sem Value}
  (hf:∀v u s2 x y H2,Inv X pins σ H2 s2->RelV x v->RelV y u->R x y H2->wpAny (model X.prog X.w) X.A (f v u) Q X.xe s2):
  wpAny (model X.prog X.w) X.A (eval a X.env) (λv s₁=>wpAny (model X.prog X.w) X.A (eval b X.env) (λu s₂=>wpAny (model X.prog X.w) X.A (f v u) Q X.xe s₂) X.xe s₁) X.xe s:=by
 refine dS (ha pins s σ H _ I h) λv s1 cy=>?_
 obtain⟨x,H1,I1,r1,q1⟩:=cy
 refine dS (hb pins s1 σ H1 _ I1 q1) λu s2 cy=>?_
 obtain⟨y,H2,I2,r2,q2⟩:=cy
 exact hf v u s2 x y H2 I2 r1 r2 q2
theorem CY{op:Operator}{r:R2}(ho:j6 X (binaryOp op) r)(ha:PE X a ta)(hb:PE X b tb):PE X (.BinOp a op b pos) (MB r ta tb):=by
 intro pins s σ H Q I h
 exact wpAny_BinOp (JR ha hb I h λv u s2 x y H2 I2 rx ry q=>ho pins s2 σ H2 x y v u Q I2 rx ry q)
theorem MC{op:UnaryOp}{r:V->Hp->VK->Prop}(ho:Pe X (unaryOp op) r)(ha:PE X a ta):PE X (.UnaryOp op a pos) (R5 r ta):=by
 intro pins s σ H Q I h
 exact UnaryOp_ (dS (ha pins s σ H _ I h) λv s1 ⟨x,H1,I1,r1,q1⟩=>ho pins s1 σ H1 x v Q I1 r1 q1)
theorem LZ{f:Value->Value->Sem Value}{C:Int->Int->Prop}{g:Int->Int->Int}
  (rule:∀(i j:Int) (t u:Tok) (s:Shared) (Q:Value->Shared->Prop) (E:Value->Shared->Prop),C i j->Q (.int (g i j) s.toks) {s with toks:=s.toks+1}->wpAny (model X.prog X.w) X.A (f (.int i t) (.int j u)) Q E s):
  j6 X f (rI C λi j=>.int (g i j)):=by
 intro pins s σ H x y v u Q I rx ry h
 obtain⟨i,j,rfl,rfl,hc,q⟩:=h
 obtain⟨t,rfl⟩:=rx
 obtain⟨t',rfl⟩:=ry
 exact rule i j t t' s _ _ hc ⟨.int (g i j),H,I.tok _,⟨_,rfl⟩,q⟩
theorem Gr{f:Value->Value->Sem Value}{g:Int->Int->Int}
  (rule:∀(i j:Int) (t u:Tok) (s:Shared) (Q:Value->Shared->Prop) (E:Value->Shared->Prop),Q (.int (g i j) s.toks) {s with toks:=s.toks+1}->wpAny (model X.prog X.w) X.A (f (.int i t) (.int j u)) Q E s):
  j6 X f (CW λi j=>.int (g i j)):=by
 intro pins s σ H x y v u Q I rx ry h
 obtain⟨i,j,rfl,rfl,q⟩:=h
 obtain⟨t,rfl⟩:=rx
 obtain⟨t',rfl⟩:=ry
 exact rule i j t t' s _ _ ⟨.int (g i j),H,I.tok _,⟨_,rfl⟩,q⟩
theorem JS{f:Value->Value->Sem Value}{g:Int->Int->Bool}
  (rule:∀(i j:Int) (t u:Tok) (s:Shared) (Q:Value->Shared->Prop) (E:Value->Shared->Prop),Q (.bool (g i j)) s->wpAny (model X.prog X.w) X.A (f (.int i t) (.int j u)) Q E s):
  j6 X f (CW λi j=>.bl (g i j)):=by
 intro pins s σ H x y v u Q I rx ry h
 obtain⟨i,j,rfl,rfl,q⟩:=h
 obtain⟨t,rfl⟩:=rx
 obtain⟨t',rfl⟩:=ry
 exact rule i j t t' s _ _ ⟨.bl (g i j),H,I,rfl,q⟩
noncomputable def Pf(i j:Int):Prop:=0<j/\j<1073741824
noncomputable def MD(i j:Int):Prop:=0<=j/\j<=1000000/\i.natAbs<2^64
noncomputable def JT(i j:Int):Prop:=(-(2^64)<i/\i<2^64)\/(-(2^64)<j/\j<2^64)
theorem JT.ok{i j:Int}(h:JT i j):IntMulOk i j:=by
 rcases h with⟨h1,h2⟩|⟨h1,h2⟩
 ·exact .of_left (intBits_le_64 h1 h2)
 ·exact .of_right (intBits_le_64 h1 h2)
theorem xM(k:Nat):(0:Int)<=2^k:=by
 rw[two_pow_cast]
 exact Int.natCast_nonneg _
theorem JU:j6 X (binaryOp .Add) (CW λi j=>.int (i+j)):=Gr λ_ _ _ _ _ _ _ q=>add_int q
theorem JV:j6 X (binaryOp .Sub) (CW λi j=>.int (i-j)):=Gr λ_ _ _ _ _ _ _ q=>sub_int q
theorem JW:j6 X (binaryOp .Mult) (rI JT λi j=>.int (i*j)):=LZ λ_ _ _ _ _ _ _ hc q=>mul_int q hc.ok
theorem Gu:j6 X (binaryOp .FloorDiv) (rI Pf λi j=>.int (i/j)):=LZ λi j _ _ _ _ _ hc q=>by
 have h1:(0:Int)<j:=hc.1
 have h2:j<1073741824:=hc.2
 exact floordiv_int (by omega) (by rw[Int.fdiv_eq_ediv_of_nonneg i (by omega)];exact q) (.inl (PyProof.noPylong_small (by omega)))
theorem JX:j6 X (binaryOp .Mod) (rI (λ_ j=>0<j) λi j=>.int (i % j)):=LZ λi j _ _ _ _ _ hc q=>by
 have h1:(0:Int)<j:=hc
 exact mod_int' (by omega) (by rw[Int.fmod_eq_emod_of_nonneg i (by omega)];exact q)
theorem JY:j6 X (binaryOp .Pow) (rI MD λi j=>.int (i^j.toNat)):=LZ λ_ _ _ _ _ _ _ hc q=>pow_int_small hc.1 hc.2.1 hc.2.2 q
theorem JZ:j6 X (binaryOp .LShift) (rI MD λi j=>.int (i*2^j.toNat)):=LZ λ_ _ _ _ _ _ _ hc q=>lshift_int_small hc.1 hc.2.1 hc.2.2 q
theorem J0:j6 X (binaryOp .RShift) (rI (λ_ j=>0<=j) λi j=>.int (i/2^j.toNat)):=LZ λi j _ _ _ _ _ hc q=>
 rshift_int hc (by rw[Int.fdiv_eq_ediv_of_nonneg i (xM _)];exact q)
theorem J1:j6 X (binaryOp .BitAnd) (CW λi j=>.int (Builtin.bitAnd i j)):=Gr λ_ _ _ _ _ _ _ q=>and_int q
theorem ME:j6 X (binaryOp .BitOr) (CW λi j=>.int (Builtin.bitOr i j)):=Gr λ_ _ _ _ _ _ _ q=>or_int q
theorem R6{f:Value->Sem Value}{g:Int->Int}
  (rule:∀(i:Int) (t:Tok) (s:Shared) (Q:Value->Shared->Prop) (E:Value->Shared->Prop),Q (.int (g i) s.toks) {s with toks:=s.toks+1}->wpAny (model X.prog X.w) X.A (f (.int i t)) Q E s):
  Pe X f (rU λi=>.int (g i)):=by
 intro pins s σ H x v Q I rx h
 obtain⟨i,rfl,q⟩:=h
 obtain⟨t,rfl⟩:=rx
 exact rule i t s _ _ ⟨.int (g i),H,I.tok _,⟨_,rfl⟩,q⟩
theorem J2:Pe X (unaryOp .USub) (rU λi=>.int (-i)):=R6 λ_ _ _ _ _ q=>neg_int q
end
noncomputable def MF:V->V->Bool
 |.non,.non=>true|.non,.int _=>true|.int _,.non=>true|.non,.bl _=>true|.bl _,.non=>true|.non,.str _=>true|.str _,.non=>true
 |.int _,.int _=>true|.bl _,.bl _=>true|.str _,.str _=>true|.byt _,.byt _=>true
 |.int _,.str _=>true|.str _,.int _=>true|.bl _,.str _=>true|.str _,.bl _=>true
 |_,_=>false
noncomputable def R7:R2:=λx y H Q=>MF x y=true/\Q (.bl (decide (x=y))) H
noncomputable def R8:R2:=λx y H Q=>MF x y=true/\Q (.bl (!decide (x=y))) H
theorem zq{i j:Int}:decide (V.int i=V.int j)=(i==j):=by
 rw[Bool.eq_iff_iff]
 simp
theorem CZ{i j:Bool}:decide (V.bl i=V.bl j)=(i==j):=by
 rw[Bool.eq_iff_iff]
 simp
theorem zr{i j:Str}:decide (V.str i=V.str j)=(i==j):=by
 rw[Bool.eq_iff_iff]
 simp
theorem zu{i j:Array UInt8}:decide (V.byt i=V.byt j)=(i.toList==j.toList):=by
 rw[Bool.eq_iff_iff]
 cases i
 cases j
 simp
section
variable{X:Cx}{a b c:Expr}{ta tb tc:TE}{pos:Pos}
theorem bR{pins:List (Addr×Obj)}{σ:St}{H:Hp}{s:Shared}{Q:VK}{k k':Bool}(I:Inv X pins σ H s)(q:Q (.bl k) H)(e:k=k'):EP X pins σ Q (.bool k') s:=by
 subst e
 exact⟨.bl k,H,I,rfl,q⟩
theorem MG:j6 X (compareOp .Eq) R7:=by
 intro pins s σ H x y v u Q I rx ry h
 obtain⟨hs,q⟩:=h
 cases x with
 |non=>
  cases rx
  cases y with
  |non=>cases ry;exact PySem.EqNone.eq_none_none (bR I q (by simp))
  |bl j=>cases ry;exact PySem.EqNone.eq_none_bool (bR I q (by simp))
  |int j=>obtain⟨t',rfl⟩:=ry;exact PySem.EqNone.eq_none_int (bR I q (by simp))
  |str j=>obtain⟨t',rfl⟩:=ry;exact PySem.EqNone.eq_none_str (bR I q (by simp))
  |_=>exact absurd (show false=true from hs) Bool.false_ne_true
 |bl i=>
  cases rx
  cases y with
  |non=>cases ry;exact PySem.EqNone.eq_bool_none (bR I q (by simp))
  |bl j=>cases ry;exact eq_bool (bR I q CZ)
  |str j=>obtain⟨t',rfl⟩:=ry;exact PySem.EqMixed.eq_bool_str (bR I q (by simp))
  |_=>exact absurd (show false=true from hs) Bool.false_ne_true
 |int i=>
  obtain⟨t,rfl⟩:=rx
  cases y with
  |non=>cases ry;exact PySem.EqNone.eq_int_none (bR I q (by simp))
  |int j=>obtain⟨t',rfl⟩:=ry;exact eq_int (bR I q zq)
  |str j=>obtain⟨t',rfl⟩:=ry;exact PySem.EqMixed.eq_int_str (bR I q (by simp))
  |_=>exact absurd (show false=true from hs) Bool.false_ne_true
 |str i=>
  obtain⟨t,rfl⟩:=rx
  cases y with
  |non=>cases ry;exact PySem.EqNone.eq_str_none (bR I q (by simp))
  |bl j=>cases ry;exact PySem.EqMixed.eq_str_bool (bR I q (by simp))
  |int j=>obtain⟨t',rfl⟩:=ry;exact PySem.EqMixed.eq_str_int (bR I q (by simp))
  |str j=>obtain⟨t',rfl⟩:=ry;exact eq_str (bR I q zr)
  |_=>exact absurd (show false=true from hs) Bool.false_ne_true
 |byt i=>
  obtain⟨t,rfl⟩:=rx
  cases y with
  |byt j=>obtain⟨t',rfl⟩:=ry;exact PySem.W.eq_bytes (bR I q zu)
  |_=>exact absurd (show false=true from hs) Bool.false_ne_true
 |_=>cases y<;>exact absurd (show false=true from hs) Bool.false_ne_true
theorem MI:j6 X (compareOp .NotEq) R8:=by
 intro pins s σ H x y v u Q I rx ry h
 obtain⟨hs,q⟩:=h
 cases x with
 |non=>
  cases rx
  cases y with
  |non=>cases ry;exact PySem.EqNone.ne_none_none (bR I q (by simp))
  |bl j=>cases ry;exact PySem.EqNone.ne_none_bool (bR I q (by simp))
  |int j=>obtain⟨t',rfl⟩:=ry;exact PySem.EqNone.ne_none_int (bR I q (by simp))
  |str j=>obtain⟨t',rfl⟩:=ry;exact PySem.EqNone.ne_none_str (bR I q (by simp))
  |_=>exact absurd (show false=true from hs) Bool.false_ne_true
 |bl i=>
  cases rx
  cases y with
  |non=>cases ry;exact PySem.EqNone.ne_bool_none (bR I q (by simp))
  |bl j=>cases ry;exact ne_bool (bR I q (congrArg not CZ))
  |str j=>obtain⟨t',rfl⟩:=ry;exact PySem.EqMixed.ne_bool_str (bR I q (by simp))
  |_=>exact absurd (show false=true from hs) Bool.false_ne_true
 |int i=>
  obtain⟨t,rfl⟩:=rx
  cases y with
  |non=>cases ry;exact PySem.EqNone.ne_int_none (bR I q (by simp))
  |int j=>obtain⟨t',rfl⟩:=ry;exact ne_int (bR I q (congrArg not zq))
  |str j=>obtain⟨t',rfl⟩:=ry;exact PySem.EqMixed.ne_int_str (bR I q (by simp))
  |_=>exact absurd (show false=true from hs) Bool.false_ne_true
 |str i=>
  obtain⟨t,rfl⟩:=rx
  cases y with
  |non=>cases ry;exact PySem.EqNone.ne_str_none (bR I q (by simp))
  |bl j=>cases ry;exact PySem.EqMixed.ne_str_bool (bR I q (by simp))
  |int j=>obtain⟨t',rfl⟩:=ry;exact PySem.EqMixed.ne_str_int (bR I q (by simp))
  |str j=>obtain⟨t',rfl⟩:=ry;exact ne_str (bR I q (congrArg not zr))
  |_=>exact absurd (show false=true from hs) Bool.false_ne_true
 |byt i=>
  obtain⟨t,rfl⟩:=rx
  cases y with
  |byt j=>obtain⟨t',rfl⟩:=ry;exact PySem.W.ne_bytes (bR I q (congrArg not zu))
  |_=>exact absurd (show false=true from hs) Bool.false_ne_true
 |_=>cases y<;>exact absurd (show false=true from hs) Bool.false_ne_true
theorem MJ:j6 X (compareOp .Lt) (CW λi j=>.bl (decide (i<j))):=JS λ_ _ _ _ _ _ _ q=>lt_int q
theorem MK:j6 X (compareOp .Gt) (CW λi j=>.bl (decide (j<i))):=JS λ_ _ _ _ _ _ _ q=>gt_int q
theorem MM:j6 X (compareOp .GtE) (CW λi j=>.bl (decide (j<=i))):=JS λ_ _ _ _ _ _ _ q=>ge_int q
theorem J3:j6 X (compareOp .Is) (λx y H Q=>y=.non/\Q (.bl (decide (x=.non))) H):=by
 intro pins s σ H x y v u Q I rx ry h
 obtain⟨rfl,q⟩:=h
 cases ry
 refine is_none_gen (bR I q ?_)
 cases x<;>first
  |(cases rx;rfl)
  |(obtain⟨t,rfl⟩:=rx;rfl)
theorem Gv:j6 X (compareOp .IsNot) (λx y H Q=>y=.non/\Q (.bl (!decide (x=.non))) H):=by
 intro pins s σ H x y v u Q I rx ry h
 obtain⟨rfl,q⟩:=h
 cases ry
 refine isnot_none_gen (bR I q ?_)
 cases x<;>first
  |(cases rx;rfl)
  |(obtain⟨t,rfl⟩:=rx;rfl)
theorem j6.or{f:Value->Value->Sem Value}{r r':R2}(h:j6 X f r)(h':j6 X f r'):j6 X f (λx y H Q=>r x y H Q\/r' x y H Q):=by
 intro pins s σ H x y v u Q I rx ry q
 rcases q with q|q
 ·exact h pins s σ H x y v u Q I rx ry q
 ·exact h' pins s σ H x y v u Q I rx ry q
theorem C0(b:Expr){op:CmpOp}(h:op≠.In:=by decide)(h2:op≠.NotIn:=by decide):behindInMarks op b=false:=by
 have e1:(op==CmpOp.In)=false:=by cases op<;>first|rfl|exact absurd rfl h
 have e2:(op==CmpOp.NotIn)=false:=by cases op<;>first|rfl|exact absurd rfl h2
 cases b<;>simp[behindInMarks,e1,e2]
theorem Gw{op:CmpOp}{r:R2}(ho:j6 X (compareOp op) r)(ha:PE X a ta)(hb:PE X b tb)(hm:behindInMarks op b=false):PE X (.Compare a [op] [b] pos) (MB r ta tb):=by
 intro pins s σ H Q I h
 exact wpAny_Compare1 (JR ha hb I h λv u s2 x y H2 I2 rx ry q=>ho pins s2 σ H2 x y v u Q I2 rx ry q) hm
noncomputable def II(t:TE):TT:=λσ H Q=>t σ H λx H'=>∃k,x=.bl k/\Q k H'
theorem Gx{op:CmpOp}{r:R2}(ho:j6 X (compareOp op) r)(ha:PE X a ta)(hb:PE X b tb)(hm:behindInMarks op b=false):PT X (.Compare a [op] [b] pos) (II (MB r ta tb)):=by
 intro pins s σ H Q I h
 refine wpAny_isTrue_Compare1 (dS (ha pins s σ H _ I h) λv s1 ⟨x,H1,I1,r1,q1⟩=>dS (hb pins s1 σ H1 _ I1 q1) λu s2 ⟨y,H2,I2,r2,q2⟩=>
  dS (ho pins s2 σ H2 x y v u _ I2 r1 r2 q2) λc s3 ⟨z,H3,I3,r3,k,e,q3⟩=>?_) hm
 subst e
 cases r3
 exact wpAny_truthy_bool ⟨H3,I3,q3⟩
theorem l0:(sizeLine:Nat)<2^63:=by rw[sizeLine_eq];decide
theorem xN:j6 X (binaryOp .Add) (λx y H Q=>∃i j,x=.str i/\y=.str j/\i.length+j.length<=sizeLine/\Q (.str (i++j)) H):=by
 intro pins s σ H x y v u Q I rx ry h
 obtain⟨i,j,rfl,rfl,hz,q⟩:=h
 obtain⟨t,rfl⟩:=rx
 obtain⟨t',rfl⟩:=ry
 exact add_str (λt' tk=>⟨.str (i++j),H,I.tok _,⟨_,rfl⟩,q⟩) hz
theorem vals1{x:V}{us:List Value}(r:Vals [x] us):∃u,us=[u]/\RelV x u:=by
 cases r with
 |cons r1 r2=>cases r2;exact⟨_,rfl,r1⟩
theorem vals2{x y:V}{us:List Value}(r:Vals [x,y] us):∃u w',us=[u,w']/\RelV x u/\RelV y w':=by
 cases r with
 |cons r1 r2=>
  cases r2 with
  |cons r3 r4=>cases r4;exact⟨_,_,rfl,r1,r3⟩
theorem A5:gY X (.type "int") (λxs H Q=>(∃i,xs=[.int i]/\Q (.int i) H)\/∃k,xs=[.bl k]/\Q (.int (if k then 1 else 0)) H):=by
 intro pins s σ H xs us Q I r h
 rcases h with⟨i,rfl,q⟩|⟨k,rfl,q⟩
 ·obtain⟨u,rfl,t,rfl⟩:=vals1 r
  exact call_int_int ⟨.int i,H,I,⟨_,rfl⟩,q⟩
 ·obtain⟨u,rfl,r1⟩:=vals1 r
  cases r1
  exact call_int_bool ⟨.int (if k then 1 else 0),H,I.tok _,⟨_,rfl⟩,q⟩
end
structure xO(h:Heap)(x dx C:Addr)(mA:Str->Option Value):Prop where
 obj:h.get? x=some (PySem.W.instObj C dx)
 ns:h.Ns1 dx mA
 ne:dx≠x
theorem A6{h:Heap}{dx:Addr}{mA:Str->Option Value}(n:h.Ns1 dx mA):∃od,h.get? dx=some od/\∀name,PySem.W.lookIn name od=some (mA name):=by
 obtain⟨o,es,ep,ho,hd,hk,_,hm⟩:=n
 refine⟨o,ho,λname=>?_⟩
 have e:=hm name
 unfold nsFind findBy at e
 rw[<-Array.find?_toList]at e
 unfold PySem.W.lookIn
 rw[hd]
 dsimp only
 split
 ·rename_i y q
  rw[q]at e
  exact congrArg some e
 ·rename_i q
  rw[q]at e
  have a:es.toList.any (·.refKey)=false:=by
   rw[List.any_eq_false]
   intro y hy
   obtain⟨z,t,rG⟩:=hk y (Array.mem_toList_iff.mp hy)
   simp[DictEntry.refKey,rG]
  have a':¬es.toList.any (·.refKey)=true:=by rw[a];exact Bool.false_ne_true
  rw[if_neg a']
  exact congrArg some e
theorem xO.look{h:Heap}{x dx C:Addr}{mA:Str->Option Value}(I:xO h x dx C mA):∃od,PySem.W.InstAt h x (PySem.W.instObj C dx) C (some od)/\∀name,PySem.W.lookIn name od=some (mA name):=
 let⟨od,ho,hl⟩:=A6 I.ns
 ⟨od,⟨I.obj,rfl,rfl,ho⟩,hl⟩
section
variable{prog:Program}{w:World}{A:Around}{E:Value->Shared->Prop}{s:Shared}{K:PySem.W.Frag}{x dx C f:Addr}{mA:Str->Option Value}{name:Str}{v:Value}
theorem get_map{expr:Bool}{Q:Value->Shared->Prop}(X:K.In s.heap)(I:xO s.heap x dx C mA)(hg:PySem.W.plainGet K C name=true)(hh:PySem.W.hasDictIn K C=true)
  (ha:PySem.W.findIn K (.ref C) name=some none)(hv:mA name=some v)(Ol:PySem.W.handedIn v=true)(h:Q v {s with toks:=s.toks+1}):
  wpAny (model prog w) A (getAttr (.ref x) name expr) Q E s:=by
 obtain⟨od,J,hl⟩:=I.look
 exact PySem.W.get_value X J (PySem.W.plainGet_of hg).1 (PySem.W.findObj_own hh ha rfl (by rw[hl,hv])) Ol h
theorem C1{pl:Sem Bool}{Q:Value×List Value->Shared->Prop}(X:K.In s.heap)(I:xO s.heap x dx C mA)(hg:PySem.W.plainGet K C name=true)
  (hf:PySem.W.findIn K (.ref C) name=some (some (.ref f)))(ht:PySem.W.isFn K (.ref f)=true)(hv:mA name=none)(h:Q (.ref f,[.ref x]) s):
  wpAny (model prog w) A (getMethod (.ref x) name pl) Q E s:=by
 obtain⟨od,J,hl⟩:=I.look
 exact PySem.W.method_fn X J (PySem.W.plainGet_of hg).1 (PySem.W.plainGet_of hg).2 hf (beq_iff_eq.mp ht) (by show(PySem.W.lookIn name od).map (·.isSome)=some false;rw[hl,hv];rfl) h
theorem o9{ns:List Str}{Q:Unit->Shared->Prop}(X:K.In s.heap)(I:xO s.heap x dx C mA)
  (hs:PySem.W.findIn K (.ref C) "__setattr__" =some (some (.builtin "object.__setattr__")))(hp:PySem.W.plainOver K C=true)(ht:PySem.W.takerIn K C name=some none)(hh:PySem.W.hasDictIn K C=true)
  (hw:PySem.Within mA ns)(mK:ns.length<=sizeLine)
  (h:∀h',xO h' x dx C (λy=>if y=name then some v else mA y)->Heap.SameBut dx s.heap h'->Q () {s with heap:=h',toks:=s.toks+2}):
  wpAny (model prog w) A (setAttr (.ref x) name v) Q E s:=by
 obtain⟨od,J,hl⟩:=I.look
 refine PySem.W.set_plain X J hs (PySem.W.osa_open (s:={s with toks:=s.toks+1}) (r:=none) X J hp ht λb=>?_)
 obtain⟨cd,hc,Ml⟩:=PySem.W.any_some hh
 have hx:s.heap.get? x=some ⟨.ref C,some dx,.plain,#[]⟩:=I.obj
 refine wpAny_bind (wpAny_pure (wpAny_bind (wpAny_bind (wpAny_loadPart hx (wpAny_bind (PySem.W.Looks.here (s:={s with toks:=s.toks+1}) (PySem.W.looks_clsIn X hc) ?_))))))
 rw[Ml]
 refine wpAny_pure (a:=some dx) (wpAny_bind (wpAny_pure (wpAny_bind ?_)))
 refine wpAny_nsSet1 (s:={s with toks:=s.toks+1}) I.ns λh' J4 jC=>?_
 obtain⟨oD,T1,T4,R9,Sa,Sb⟩:=J4.count (PySem.Within.cons name v hw)
 refine wpAny_bind (wpAny_lookBehind R9 (by rw[Sa];exact pastItsLine_dict (Nat.le_trans Sb (by rw[List.length_cons];omega))) ?_)
 exact wpAny_pure (h _ ⟨(jC.2 _ (Ne.symm I.ne)).trans I.obj,J4,I.ne⟩ jC)
theorem C2{R:Result->Shared->Prop}{vs:List Value}{kw:List (Str×Value)}(X:K.In s.heap)(hm:PySem.W.makesIn K C=true)
  (hi:PySem.W.findIn K (.ref C) "__init__" =some (some (.ref f)))(hf:PySem.W.typeIn K (.ref f)=some (.type "function"))
  (h:codeAny (model prog w) (A.under (.builtin "type.__call__" ⟨.ref C::vs,kw⟩)) (.call (.ref f) ⟨.ref (s.heap.objs.size+1)::vs,kw⟩) (PySem.W.InitBack (s.heap.objs.size+1) R)
    {s with heap:=(s.heap.push PySem.W.emptyDict).push (PySem.W.instObj C s.heap.objs.size)}):
  codeAny (model prog w) A (.call (.ref C) ⟨vs,kw⟩) R s:=by
 obtain⟨hh,g,d,t,os⟩:=s
 exact PySem.W.make_core (PySem.W.makes_of X hm) (PySem.W.looks_findIn X hi) (λself=>PySem.W.bind_fn X self hf) (.inl rfl) h
end
noncomputable def jg(f:Str)(v:V):List (Str×V)->List (Str×V)
 |[]=>[(f,v)]
 |(g,x)::r=>if g=f then(g,v)::r else(g,x)::jg f v r
theorem oE(f g:Str)(v:V):∀fs:List (Str×V),(jg f v fs).lookup g=if g=f then some v else fs.lookup g
 |[]=>by
  show List.lookup g [(f,v)]=_
  by_cases h:g=f
  ·have hb:(g==f)=true:=beq_iff_eq.mpr h
   simp only[List.lookup,hb,if_pos h]
  ·have hb:(g==f)=false:=beq_eq_false_iff_ne.mpr h
   simp only[List.lookup,hb,if_neg h]
 |(k,x)::r=>by
  have ih:=oE f g v r
  rw[show jg f v ((k,x)::r)=(if k=f then(k,v)::r else(k,x)::jg f v r)from rfl]
  by_cases hk:k=f
  ·rw[if_pos hk]
   by_cases h:g=k
   ·have hb:(g==k)=true:=beq_iff_eq.mpr h
    simp only[List.lookup,hb,if_pos (h.trans hk)]
   ·have hb:(g==k)=false:=beq_eq_false_iff_ne.mpr h
    simp only[List.lookup,hb,if_neg (λe:g=f=>h (e.trans hk.symm))]
  ·rw[if_neg hk]
   by_cases h:g=k
   ·have hb:(g==k)=true:=beq_iff_eq.mpr h
    simp only[List.lookup,hb,if_neg (λe:g=f=>hk (h.symm.trans e))]
   ·have hb:(g==k)=false:=beq_eq_false_iff_ne.mpr h
    simp only[List.lookup,hb]
    exact ih
theorem nS(f:Str)(v:V):∀fs:List (Str×V),f∈(jg f v fs).map (·.1)/\∀g,g∈fs.map (·.1)->g∈(jg f v fs).map (·.1)
 |[]=>⟨by simp[jg],λg h=>by simp at h⟩
 |(k,x)::r=>by
  obtain⟨i1,i2⟩:=nS f v r
  rw[show jg f v ((k,x)::r)=(if k=f then(k,v)::r else(k,x)::jg f v r)from rfl]
  by_cases hk:k=f
  ·rw[if_pos hk]
   subst hk
   exact⟨by simp,λg h=>by simpa using h⟩
  ·rw[if_neg hk]
   refine⟨?_,λg h=>?_⟩
   ·rw[List.map_cons]
    exact List.mem_cons_of_mem _ i1
   ·rw[List.map_cons]at h⊢
    rcases List.mem_cons.mp h with e|e
    ·exact List.mem_cons.mpr (.inl e)
    ·exact List.mem_cons_of_mem _ (i2 g e)
theorem oF(f:Str)(v:V):∀fs:List (Str×V),(jg f v fs).length<=fs.length+1
 |[]=>by simp[jg]
 |(k,x)::r=>by
  have ih:=oF f v r
  rw[show jg f v ((k,x)::r)=(if k=f then(k,v)::r else(k,x)::jg f v r)from rfl]
  by_cases hk:k=f
  ·rw[if_pos hk,List.length_cons,List.length_cons];omega
  ·rw[if_neg hk,List.length_cons,List.length_cons];omega
theorem rC.some_of{v:V}{o:Option Value}(r:rC (some v) o):∃u,o=some u/\RelV v u:=by
 cases o with
 |none=>exact(show False from r).elim
 |some u=>exact⟨u,rfl,r⟩
theorem rC.none_of{o:Option Value}(r:rC none o):o=none:=by
 cases o with
 |none=>rfl
 |some u=>exact(show False from r).elim
theorem A7{v:V}{u:Value}(r:RelV v u):PySem.W.handedIn u=true:=by
 cases v with
 |non=>cases(show u=Value.none from r);rfl
 |bl b=>cases(show u=Value.bool b from r);rfl
 |int i=>obtain⟨t,e⟩:=(show∃t,u=Value.int i t from r);cases e;rfl
 |str x=>obtain⟨t,e⟩:=(show∃t,u=Value.str x t from r);cases e;rfl
 |byt b=>obtain⟨t,e⟩:=(show∃t,u=Value.bytes b t from r);cases e;rfl
 |flt b=>obtain⟨t,e⟩:=(show∃t,u=Value.float b t from r);cases e;rfl
 |ref a=>cases(show u=Value.ref a from r);rfl
 |ty n=>cases(show u=Value.type n from r);rfl
section
variable{P:Program}{w:World}{H H':Hp}{h h':Heap}{a C dx:Addr}{fs R3:List (Str×V)}
theorem tK(d8:o7 P w H h)(e:H a=some (.ins C dx fs)):∃mA,xO h a dx C mA/\(∀f,rC (fs.lookup f) (mA f))/\PySem.Within mA (fs.map (·.1))/\fs.length<=1000/\H dx=some (.own a):=by
 obtain⟨d,z,ne,ob,mA,n,r,q⟩:=(show il P w H h a (.ins C dx fs)from d8 a _ e)
 exact⟨mA,⟨ob,n,ne⟩,r,q,z,d⟩
end
structure zv(K:PySem.W.Frag)(C:Addr):Prop where
 pg:PySem.W.plainGet K C Str.empty=true
 hd:PySem.W.hasDictIn K C=true
 po:PySem.W.plainOver K C=true
 sa:PySem.W.findIn K (.ref C) "__setattr__" =some (some (.builtin "object.__setattr__"))
theorem zv.get{K:PySem.W.Frag}{C:Addr}(c:zv K C)(f:Str):PySem.W.plainGet K C f=true:=c.pg
noncomputable def fj(K:PySem.W.Frag)(C:Addr)(f:Str):Prop:=PySem.W.findIn K (.ref C) f=some none
theorem fj.MN{K:PySem.W.Frag}{C:Addr}{f:Str}(n:fj K C f):PySem.W.takerIn K C f=some none:=by
 unfold PySem.W.takerIn
 rw[show PySem.W.findIn K (.ref C) f=some none from n]
 rfl
structure Meth(K:PySem.W.Frag)(C:Addr)(m:Str)(f:Addr):Prop where
 at_:PySem.W.findIn K (.ref C) m=some (some (.ref f))
 fn:PySem.W.isFn K (.ref f)=true
 kp:PySem.W.keepIn K (.ref f)=true
section
variable{X:Cx}{pins:List (Addr×Obj)}{σ:St}{H:Hp}{s:Shared}{a C dx:Addr}{fs:List (Str×V)}{f:Str}{v:V}{A:Around}{E:Value->Shared->Prop}
theorem xP{b:Bool}{Q:Value->Shared->Prop}(I:Inv X pins σ H s)(e:H a=some (.ins C dx fs))(c:zv X.K C)(n:fj X.K C f)(l:fs.lookup f=some v)
  (h:∀u s',Inv X pins σ H s'->RelV v u->Q u s'):wpAny (model X.prog X.w) A (getAttr (.ref a) f b) Q E s:=by
 obtain⟨mA,O,r,_,_,_⟩:=tK I.d8 e
 obtain⟨u,hu,ru⟩:=rC.some_of (v:=v) (o:=mA f) (by rw[<-l];exact r f)
 exact get_map I.pG O (c.get f) c.hd n hu (A7 ru) (h u _ (I.tok _) ru)
theorem jD{m:Str}{g:Addr}{pl:Sem Bool}{Q:Value×List Value->Shared->Prop}(I:Inv X pins σ H s)(e:H a=some (.ins C dx fs))(c:zv X.K C)(k:Meth X.K C m g)(l:fs.lookup m=none)
  (h:Q (.ref g,[.ref a]) s):wpAny (model X.prog X.w) A (getMethod (.ref a) m pl) Q E s:=by
 obtain⟨mA,O,r,_,_,_⟩:=tK I.d8 e
 have hn:mA m=none:=rC.none_of (by rw[<-l];exact r m)
 exact C1 I.pG O (c.get m) k.at_ k.fn hn h
theorem xQ{y:V}{u:Value}{Q:Unit->Shared->Prop}(I:Inv X pins σ H s)(e:H a=some (.ins C dx fs))(c:zv X.K C)(n:fj X.K C f)(hl:fs.length<1000)(ry:RelV y u)
  (h:∀s',Inv X pins σ (upd H a (.ins C dx (jg f y fs))) s'->Q () s'):wpAny (model X.prog X.w) A (setAttr (.ref a) f u) Q E s:=by
 obtain⟨mA,O,r,wi,_,ho⟩:=tK I.d8 e
 have hz:(fs.map (·.1)).length<=sizeLine:=by rw[List.length_map,sizeLine_eq];omega
 refine o9 I.pG O c.sa c.po n.MN c.hd wi hz λh' O' sb=>h _ ?_
 have hd:∃o,h'.get? dx=some o:=let⟨o,_,_,e',_⟩:=O'.ns;⟨o,e'⟩
 refine I.write (x:=a) (e:=dx) (by rw[e];exact True.intro) (.inr ho) (λb q hb z=>(sb.2 b hb).trans z) hd ?_
 refine⟨by rw[aC O.ne];exact ho,?_,O.ne,O'.obj,_,O'.ns,λg=>?_,λg hg=>?_⟩
 ·have:=oF f y fs;omega
 ·show rC ((jg f y fs).lookup g) (if g=f then some u else mA g)
  rw[oE]
  by_cases q:g=f
  ·rw[if_pos q,if_pos q];exact ry
  ·rw[if_neg q,if_neg q];exact r g
 ·by_cases q:g=f
  ·rw[q];exact(nS f y fs).1
  ·refine(nS f y fs).2 g (wi g λz=>hg ?_)
   show(if g=f then some u else mA g)=none
   rw[if_neg q];exact z
theorem Inv.made(I:Inv X pins σ H s):Inv X pins σ (upd (upd H s.heap.objs.size (.own (s.heap.objs.size+1))) (s.heap.objs.size+1) (.ins C s.heap.objs.size []))
  {s with heap:=(s.heap.push PySem.W.emptyDict).push (PySem.W.instObj C s.heap.objs.size)}:=by
 have e1:(s.heap.push PySem.W.emptyDict).get? s.heap.objs.size=some PySem.W.emptyDict:=Heap.get?_push_size s.heap rfl
 have e2:((s.heap.push PySem.W.emptyDict).push (PySem.W.instObj C s.heap.objs.size)).get? (s.heap.objs.size+1)=some (PySem.W.instObj C s.heap.objs.size):=by
  have:=Heap.get?_push_size (s.heap.push PySem.W.emptyDict) (o:=PySem.W.instObj C s.heap.objs.size) rfl
  rwa[Heap.size_push]at this
 have e3:(s.heap.push PySem.W.emptyDict).Ns s.heap.objs.size (λ_=>none):=⟨PySem.W.emptyDict,#[],_,e1,rfl,(λe he=>absurd he (by simp)),λ_=>rfl⟩
 have I1:=I.laid (a:=s.heap.objs.size) (o:=.own (s.heap.objs.size+1)) (h':=s.heap.push PySem.W.emptyDict) (t':=s.toks) (λb u q=>Heap.get?_push_of_some _ q) (Nat.le_refl _) ⟨_,e1⟩
 refine I1.laid (a:=s.heap.objs.size+1) (o:=.ins C s.heap.objs.size []) (t':=s.toks) (λb u q=>Heap.get?_push_of_some _ q) (Nat.le_of_eq (Heap.size_push _ _)) ?_
 have ne:s.heap.objs.size≠s.heap.objs.size+1:=Nat.ne_of_lt (Nat.lt_succ_self _)
 refine⟨by rw[aC ne,aU],Nat.zero_le _,ne,e2,λ_=>none,(Heap.Ns1.of_empty e3).at λo q=>Heap.get?_push_of_some _ q,λ_=>True.intro,λy hy=>absurd rfl hy⟩
theorem Gy{prog:Program}{w:World}{env:Env}{e:Expr}{f:Str}{pos:Pos}{s:Shared}{Q:Value->Shared->Prop}(hb:attributeBase e f env (eval e env)=eval e env)
  (h:wpAny (model prog w) A (eval e env) (λo s₁=>wpAny (model prog w) A (getAttr o f true) Q E s₁) E s):wpAny (model prog w) A (eval (.Attribute e f pos) env) Q E s:=
 Attribute_any_ h (by rw[arm_eval_Attribute,hb])
end
noncomputable def Pg(K:PySem.W.Frag)(ta:TE)(f:Str):TE:=λσ H Q=>ta σ H λx H1=>∃a C dx fs v,x=.ref a/\H1 a=some (.ins C dx fs)/\zv K C/\fj K C f/\fs.lookup f=some v/\Q v H1
noncomputable def Ph(K:PySem.W.Frag)(ta tv:TE)(f:Str):TS:=λD σ H=>tv σ H λy H1=>ta σ H1 λx H2=>∃a C dx fs,x=.ref a/\H2 a=some (.ins C dx fs)/\zv K C/\fj K C f/\fs.length<1000/\
 D.nx σ (upd H2 a (.ins C dx (jg f y fs)))
section
variable{X:Cx}{o e value:Expr}{f:Str}{pos pos' Se:Pos}{ta tv:TE}
theorem nT(he:PE X e ta)(hb:attributeBase e f X.env (eval e X.env)=eval e X.env):PE X (.Attribute e f pos) (Pg X.K ta f):=by
 intro pins s σ H Q I h
 refine Gy hb (dS (he pins s σ H _ I h) λu s1 cy=>?_)
 obtain⟨x,H1,I1,rx,a,C,dx,fs,v,ex,ea,c,n,l,q⟩:=cy
 subst ex
 obtain rfl:u=Value.ref a:=rx
 exact xP I1 ea c n l λu' s2 I2 ru=>⟨v,H1,I2,ru,q⟩
theorem nU(ha:PE X o ta)(hv:PE X value tv)(hs:swapsWith value (some (.Attribute o f pos')) pos.line X.env=pure false):PS X (.Assign [.Attribute o f pos'] value pos) (Ph X.K ta tv f):=by
 intro pins s σ H D I h
 refine plainObj_wpAny_Assign_Attribute (dS (hv pins s σ H _ I h) λu s1 ⟨y,H1,I1,ry,q⟩=>dS (ha pins s1 σ H1 _ I1 q) λov s2 cy=>?_) hs
 obtain⟨x,H2,I2,rx,a,C,dx,fs,ex,ea,c,n,l,q2⟩:=cy
 subst ex
 obtain rfl:ov=Value.ref a:=rx
 exact xQ I2 ea c n l ry λs3 I3=>⟨σ,_,I3,q2⟩
end
structure ck(k:Nat)(A:Around):Prop where
 hd:A.handled=none
 dp:A.depth+3*k+5<recursionLimit
 un:A.units+16*k+200<cLine
theorem ck.mono{j k:Nat}{A:Around}(r:ck k A)(h:j<=k):ck j A:=⟨r.hd,by have:=r.dp;omega,by have:=r.un;omega⟩
theorem ck.deeper{k:Nat}{A:Around}(r:ck (k+1) A)(env:Env):ck k (A.deeper env):=
 ⟨r.hd,by have:=r.dp;show A.depth+1+3*k+5<_;omega,by have:=r.un;show A.units+3+16*k+200<_;omega⟩
theorem ck.in1{k:Nat}{A:Around}(r:ck (k+1) A):ck k A.in1:=
 ⟨r.hd,by have:=r.dp;show A.depth+3*k+5<_;omega,by have:=r.un;show A.units+1+16*k+200<_;omega⟩
theorem xR{A:Around}{C:Addr}{us:List Value}{kw:List (Str×Value)}:(A.under (.builtin "type.__call__" ⟨.ref C::us,kw⟩)).depth=A.depth+1:=by
 first|rfl|simp[Around.under,Code.weight,Code.isCreation,Code.isGuard,Code.isCaller,Code.frames,Code.isFrame,guardIds]
theorem xS{A:Around}{C:Addr}{us:List Value}{kw:List (Str×Value)}:(A.under (.builtin "type.__call__" ⟨.ref C::us,kw⟩)).units=A.units+1:=by
 first|rfl|simp[Around.under,Code.cUnits,Code.frames,Code.isFrame]
theorem ck.make{k:Nat}{A:Around}(r:ck (k+1) A)(C:Addr)(us:List Value)(kw:List (Str×Value)):ck k (A.under (.builtin "type.__call__" ⟨.ref C::us,kw⟩)):=
 ⟨r.hd,by have:=r.dp;rw[xR];omega,by have:=r.un;rw[xS];omega⟩
theorem ck.depth{k:Nat}{A:Around}(r:ck k A):A.depth<recursionLimit:=by have:=r.dp;omega
theorem ck.units{k:Nat}{A:Around}(r:ck k A):A.units+64<cLine:=by have:=r.un;omega
noncomputable def C3:TA:=λ_ H Q=>Q [] H
noncomputable def C4(ta:TE)(tr:TA):TA:=λσ H Q=>ta σ H λx H1=>tr σ H1 λxs H2=>Q (x::xs) H2
section
variable{X:Cx}{e:Expr}{es:List Expr}{te:TE}{t:TA}{pos:Pos}
theorem cq:PA X [] C3:=λ_ _ _ _ H Q I h=>Calls.spliced_nil ⟨[],H,I,.nil,h⟩
theorem bG(ha:PE X e te)(hr:PA X es t)(hs:starEach (e::es) X.env=(false,eval e X.env)::starEach es X.env:=by rfl):PA X (e::es) (C4 te t):=by
 intro pos pins s σ H Q I h
 rw[hs]
 show wpAny _ _ (spliced ((false,eval e X.env)::backTo pos (starEach es X.env))) _ _ s
 refine Calls.spliced_cons (dS (ha pins s σ H _ I h) λu s1 cy=>?_)
 obtain⟨x,H1,I1,r1,q1⟩:=cy
 exact dS (hr pos pins s1 σ H1 _ I1 q1) λus s2 ⟨xs,H2,I2,r2,q2⟩=>⟨x::xs,H2,I2,.cons r1 r2,q2⟩
noncomputable def Pj(t:TA):TE:=λσ H Q=>t σ H λxs H1=>xs.length<=sizeLine/\∀p,H1 p=none->Q (.ref p) (upd H1 p (.tup xs))
noncomputable def Pk(t:TA):TE:=λσ H Q=>t σ H λxs H1=>xs.length<=sizeLine/\∀p,H1 p=none->Q (.ref p) (upd H1 p (.lst xs))
theorem xT{x1}(h:PA X es t):PE X (.Tuple es x1 pos) (Pj t):=by
 intro pins s σ H Q I hq
 refine wpAny_Tuple_spliced (dS (h pos pins s σ H _ I hq) λus s1 ⟨xs,H1,I1,r,z,q⟩=>⟨by rw[<-r.length];exact z,?_⟩)
 have hf:H1 s1.heap.objs.size=none:=I1.d8.fresh (Nat.le_refl _)
 refine⟨.ref s1.heap.objs.size,upd H1 s1.heap.objs.size (.tup xs),I1.laid (t':=s1.toks) (λb u e=>Heap.get?_push_of_some _ e) (Nat.le_refl _) ?_,rfl,q _ hf⟩
 exact⟨⟨z,Oe.new⟩,us,r,⟨_,Heap.get?_push_size _ rfl,rfl,_,rfl⟩⟩
theorem xU(h:PA X es t):PE X (.List es pos) (Pk t):=by
 intro pins s σ H Q I hq
 refine wpAny_List_spliced (dS (h pos pins s σ H _ I hq) λus s1 ⟨xs,H1,I1,r,z,q⟩=>⟨by rw[<-r.length];exact z,?_⟩)
 have hf:H1 s1.heap.objs.size=none:=I1.d8.fresh (Nat.le_refl _)
 refine⟨.ref s1.heap.objs.size,upd H1 s1.heap.objs.size (.lst xs),I1.laid (t':=s1.toks) (λb u e=>Heap.get?_push_of_some _ e) (Nat.le_refl _) ?_,rfl,q _ hf⟩
 exact⟨z,us,0,r,Heap.get?_push_size _ rfl⟩
end
noncomputable abbrev Sp:=List V->Hp->VK->XK->Prop
noncomputable abbrev CI:=List Env->Hp->Shared->XK->Value->Shared->Prop
structure xV(P:Program)(w:World)(K:PySem.W.Frag)(mg:Str->Option Value)(base:Heap)(A:Around)(outer:List Env)(s:Shared)(H:Hp):Prop where
 frames:A.frames=some outer
 mod:Mod K mg base
 bs:∀b o,base.get? b=some o->s.heap.get? b=some o/\H b=none
 bsz:base.objs.size<=s.heap.objs.size
 funs:s.heap.FunFrames base outer
 frf:∀b∈xE outer,H b=none
 d8:o7 P w H s.heap
 bare:AllBare s.gens
noncomputable def CE(outer:List Env)(P:Program)(w:World)(H:Hp)(s:Shared)(Q:VK)(u:Value)(s':Shared):Prop:=
 ∃v H',s'.os=s.os/\AllBare s'.gens/\Un (xE outer) [] H H' s.heap s'.heap/\o7 P w H' s'.heap/\RelV v u/\Q v H'
noncomputable def CR(CX:CI)(outer:List Env)(P:Program)(w:World)(H:Hp)(s:Shared)(Q:VK)(E:XK)(r:Result)(s':Shared):Prop:=
 match r with
 |.ok (.ret u)=>CE outer P w H s Q u s'
 |.ok _=>False
 |.error e=>CX outer H s E e s'
structure cM(P:Program)(w:World)(K:PySem.W.Frag)(mg:Str->Option Value)(base:Heap)(CX:CI)(k:Nat)(f:Addr)(fd:FuncData)(ps:List Str)(sp:Sp):Prop where
 len:∀vs H Q E,sp vs H Q E->vs.length=ps.length
 run:∀(A:Around) (outer:List Env) (s:Shared) (H:Hp) (args:Args) (us:List Value) (vs:List V) (Q:VK) (E:XK),ck k A->xV P w K mg base A outer s H->BindsTo s fd args (ps.zip us)->Vals vs us->sp vs H Q E->
  codeAny (model P w) A (.call (.ref f) args) (CR CX outer P w H s Q E) s
theorem cM.mono{P:Program}{w:World}{K:PySem.W.Frag}{mg:Str->Option Value}{base:Heap}{CX:CI}{j k:Nat}{f:Addr}{fd:FuncData}{ps:List Str}{sp:Sp}(F:cM P w K mg base CX j f fd ps sp)(h:j<=k):
 cM P w K mg base CX k f fd ps sp:=⟨F.len,λA outer s H args us vs Q E hr=>F.run A outer s H args us vs Q E (hr.mono h)⟩
theorem cM.imp{P:Program}{w:World}{K:PySem.W.Frag}{mg:Str->Option Value}{base:Heap}{CX:CI}{k:Nat}{f:Addr}{fd:FuncData}{ps:List Str}{sp Q3:Sp}(F:cM P w K mg base CX k f fd ps sp)
  (h:∀vs H Q E,Q3 vs H Q E->sp vs H Q E):cM P w K mg base CX k f fd ps Q3:=
 ⟨λvs H Q E q=>F.len vs H Q E (h _ _ _ _ q),λA outer s H args us vs Q E hr he hb hv hs=>F.run A outer s H args us vs Q E hr he hb hv (h _ _ _ _ hs)⟩
theorem xV.make{P:Program}{w:World}{K:PySem.W.Frag}{mg:Str->Option Value}{base:Heap}{A:Around}{outer:List Env}{s:Shared}{H:Hp}(e:xV P w K mg base A outer s H)(C:Addr)(us:List Value)(kw:List (Str×Value)):
 xV P w K mg base (A.under (.builtin "type.__call__" ⟨.ref C::us,kw⟩)) outer s H:=⟨by first|exact e.frames|(simpa[Around.under,Code.envs,Code.isFrame,pushEnvs]using e.frames),e.mod,e.bs,e.bsz,e.funs,e.frf,e.d8,e.bare⟩
section
variable{X:Cx}{pins:List (Addr×Obj)}{σ:St}{H:Hp}{s s':Shared}
theorem Inv.MO(I:Inv X pins σ H s):xV X.prog X.w X.K X.mg X.base X.A X.stack s H:=
 ⟨I.ok.frames,I.ok.mod,I.bs,Nat.le_trans I.ok.bsz I.sz,I.stack,I.tF,I.d8,I.bare⟩
theorem Inv.after{Q:VK}{u:Value}(I:Inv X pins σ H s)(h:CE X.stack X.prog X.w H s Q u s'):EP X pins σ Q u s':=by
 obtain⟨v,H',os,bare,un,d8,r,q⟩:=h
 obtain⟨hh,g,d,t,Sf⟩:=s'
 obtain rfl:Sf=s.os:=os
 exact⟨v,H',I.call (h':=hh) (g':=g) (d':=d) (t':=t) (ch:=[]) un d8 bare (λb z=>absurd z (by simp)),r,q⟩
end
noncomputable def MP(sp:Sp)(dvs:List V)(E:XK)(t:TA):TE:=λσ H Q=>t σ H λvs H1=>sp (vs++dvs) H1 Q E
noncomputable def IJ(C:Addr)(m:Str)(sp:Sp)(dvs:List V)(E:XK)(ta:TE)(t:TA):TE:=λσ H Q=>ta σ H λx H1=>∃a dx fs,x=.ref a/\H1 a=some (.ins C dx fs)/\fs.lookup m=none/\
 t σ H1 λvs H2=>sp (x::(vs++dvs)) H2 Q E
noncomputable def MQ(C:Addr)(sp:Sp)(dvs:List V)(E:XK)(t:TA):TE:=λσ H Q=>t σ H λvs H1=>∀x dx,H1 x=none->H1 dx=none->dx≠x->
 sp (.ref x::(vs++dvs)) (upd (upd H1 dx (.own x)) x (.ins C dx [])) (λv H2=>v=.non/\Q (.ref x) H2) E
noncomputable def Binds(K:PySem.W.Frag)(fd:FuncData)(ps:List Str)(ds:List Value):Prop:=
 ∀(s:Shared) (us:List Value),K.In s.heap->(us++ds).length=ps.length->BindsTo s fd ⟨us,[]⟩ (ps.zip (us++ds))
theorem Binds.all{K:PySem.W.Frag}{fd:FuncData}{ps:List Str}(h:∀us:List Value,us.length=ps.length->bindArgs fd ⟨us,[]⟩=pure (ps.zip us)):Binds K fd ps []:=λs us _ hl=>by
 rw[List.append_nil]at hl⊢
 exact .of_eq (h us hl)
noncomputable def Passes(CX:CI)(X:Cx)(E:XK):Prop:=∀(pins:List (Addr×Obj)) (σ:St) (H:Hp) (s:Shared) (e:Value) (s':Shared),Inv X pins σ H s->CX X.stack H s E e s'->X.xe e s'
section
variable{X:Cx}{CX:CI}{k:Nat}{f C:Addr}{fd:FuncData}{ps:List Str}{sp:Sp}{dvs:List V}{ds:List Value}{E:XK}{x m:Str}{p pos apos:Pos}{e o:Expr}{es:List Expr}{ta:TE}{t:TA}
theorem nV{pins:List (Addr×Obj)}{σ:St}{H:Hp}{s:Shared}{Q:VK}{us:List Value}{vs:List V}(F:cM X.prog X.w X.K X.mg X.base CX k f fd ps sp)(hr:ck k X.A)(hb:Binds X.K fd ps ds)(hd:Vals dvs ds)(hx:Passes CX X E)
  (I:Inv X pins σ H s)(r:Vals vs us)(h:sp (vs++dvs) H Q E):wpAny (model X.prog X.w) X.A (call (.ref f) us) (EP X pins σ Q) X.xe s:=by
 have r2:Vals (vs++dvs) (us++ds):=r.append hd
 have hl:(us++ds).length=ps.length:=by rw[<-r2.length];exact F.len _ _ _ _ h
 refine wpAny_call (codeAny_mono (F.run X.A X.stack s H ⟨us,[]⟩ (us++ds) (vs++dvs) Q E hr I.MO (hb s us I.pG hl) r2 h) λr s' hq=>?_)
 cases r with
 |error e=>exact hx pins σ H s e s' I hq
 |ok fl=>
  cases fl with
  |ret u=>exact I.after hq
  |next=>exact False.elim hq
  |brk=>exact False.elim hq
  |cont=>exact False.elim hq
theorem mM(F:cM X.prog X.w X.K X.mg X.base CX k f fd ps sp)(hr:ck k X.A)(hg:Gl X x)(hm:X.mg x=some (.ref f))(hk:PySem.W.keepIn X.K (.ref f)=true)(hb:Binds X.K fd ps ds)(hd:Vals dvs ds)(hx:Passes CX X E)
  (ha:PA X (e::es) t)(tL:(x==("__debug__" :Str))=false:=by decide)(he:starEach (e::es) X.env=(false,eval e X.env)::starEach es X.env:=by rfl)(hpl:(backTo pos (starEach es X.env)).any (·.1)=false:=by rfl):
  PE X (.Call (.Name x p) (e::es) [] pos) (MP sp dvs E t):=by
 intro pins s σ H Q I h
 refine wpAny_Call_Name_kw (tH I hg hm ?_ tL)
 refine PySem.W.callWith_K (h₀:=X.base) I.ok.mod.kin hk (dS (ha pos pins s σ H _ I h) λus s1 ⟨vs,H1,I1,r,q⟩=>⟨I1.pG,?_⟩) he hpl
 exact nV F hr hb hd hx I1 r q
theorem Gz{pl:Sem Bool}(he:PE X o ta)(c:zv X.K C)(hm:Meth X.K C m f)(F:cM X.prog X.w X.K X.mg X.base CX k f fd ps sp)(hr:ck k X.A)(hb:Binds X.K fd ps ds)(hd:Vals dvs ds)(hx:Passes CX X E)(ha:PA X (e::es) t)
  (oY:starEach (e::es) X.env=(false,eval e X.env)::starEach es X.env:=by rfl)(hpl:(backTo pos (starEach es X.env)).any (·.1)=false:=by rfl)
  (ht:eval (.Call (.Attribute o m apos) (e::es) [] pos) X.env=(do
    let ov<-eval o X.env
    standAt apos.atName
    let(f,first)<-holding [ov] (getMethod ov m pl)
    callWith pos f first (backTo pos (starEach (e::es) X.env)) (backToKw pos (keywordEach [] X.env))):=by rfl):
  PE X (.Call (.Attribute o m apos) (e::es) [] pos) (IJ C m sp dvs E ta t):=by
 intro pins s σ H Q I h
 refine PySem.W.methodCall_KW (pl:=pl) (dS (he pins s σ H _ I h) λu s1 cy=>?_) ht
 obtain⟨x,H1,I1,rx,a,dx,fs,ex,ea,l,q⟩:=cy
 subst ex
 obtain rfl:u=Value.ref a:=rx
 refine jD I1 ea c hm l ?_
 refine PySem.W.callWith_K (first:=[.ref a]) (h₀:=X.base) I.ok.mod.kin hm.kp (dS (ha pos pins s1 σ H1 _ I1 q) λus s2 ⟨vs,H2,I2,r,q2⟩=>⟨I2.pG,?_⟩) oY hpl
 exact nV (us:=.ref a::us) (vs:=.ref a::vs) F hr hb hd hx I2 (.cons rfl r) q2
theorem C5{pl:Sem Bool}(he:PE X o ta)(c:zv X.K C)(hm:Meth X.K C m f)(F:cM X.prog X.w X.K X.mg X.base CX k f fd ps sp)(hr:ck k X.A)(hb:Binds X.K fd ps ds)(hd:Vals dvs ds)(hx:Passes CX X E)
  (ht:eval (.Call (.Attribute o m apos) [] [] pos) X.env=(do
    let ov<-eval o X.env
    standAt apos.atName
    let(f,first)<-holding [ov] (getMethod ov m pl)
    callWith pos f first (backTo pos (starEach [] X.env)) (backToKw pos (keywordEach [] X.env))):=by rfl):
  PE X (.Call (.Attribute o m apos) [] [] pos) (IJ C m sp dvs E ta C3):=by
 intro pins s σ H Q I h
 refine PySem.W.methodCall_KW (pl:=pl) (dS (he pins s σ H _ I h) λu s1 cy=>?_) ht
 obtain⟨x,H1,I1,rx,a,dx,fs,ex,ea,l,q⟩:=cy
 subst ex
 obtain rfl:u=Value.ref a:=rx
 refine jD I1 ea c hm l ?_
 exact PySem.W.callWith_K0 (first:=[.ref a]) I1.pG hm.kp (nV (us:=[.ref a]) (vs:=[.ref a]) F hr hb hd hx I1 (.cons rfl .nil) q)
structure Mk(K:PySem.W.Frag)(C f:Addr):Prop where
 makes:PySem.W.makesIn K C=true
 init:PySem.W.findIn K (.ref C) "__init__" =some (some (.ref f))
 fn:PySem.W.isFn K (.ref f)=true
 kp:PySem.W.keepIn K (.ref C)=true
theorem C6{pins:List (Addr×Obj)}{σ:St}{H:Hp}{s:Shared}{Q:VK}{us:List Value}{vs:List V}(M:Mk X.K C f)(F:cM X.prog X.w X.K X.mg X.base CX k f fd ps sp)(hr:ck (k+1) X.A)(hb:Binds X.K fd ps ds)(hd:Vals dvs ds)
  (hx:Passes CX X E)(I:Inv X pins σ H s)(r:Vals vs us)
  (h:∀x dx,H x=none->H dx=none->dx≠x->sp (.ref x::(vs++dvs)) (upd (upd H dx (.own x)) x (.ins C dx [])) (λv H2=>v=.non/\Q (.ref x) H2) E):
  wpAny (model X.prog X.w) X.A (call (.ref C) us) (EP X pins σ Q) X.xe s:=by
 have hq:=h (s.heap.objs.size+1) s.heap.objs.size (I.d8.fresh (Nat.le_succ _)) (I.d8.fresh (Nat.le_refl _)) (Nat.ne_of_lt (Nat.lt_succ_self _))
 have I2:=Inv.made (C:=C) I
 have r2:Vals (V.ref (s.heap.objs.size+1)::(vs++dvs)) (Value.ref (s.heap.objs.size+1)::(us++ds)):=.cons rfl (r.append hd)
 have hl:(Value.ref (s.heap.objs.size+1)::us++ds).length=ps.length:=by
  have e:=r2.length
  rw[F.len _ _ _ _ hq]at e
  exact e.symm
 refine wpAny_call (C2 (f:=f) I.pG M.makes M.init (beq_iff_eq.mp M.fn) (codeAny_mono (F.run _ X.stack _ _ ⟨Value.ref (s.heap.objs.size+1)::us,[]⟩ (Value.ref (s.heap.objs.size+1)::(us++ds)) _ _ E (hr.make C us [])
  (I2.MO.make C us []) (hb _ (Value.ref (s.heap.objs.size+1)::us) I2.pG hl) r2 hq) λr s' MR=>?_))
 cases r with
 |error e=>exact hx pins σ _ _ e s' I2 MR
 |ok fl=>
  cases fl with
  |ret u=>
   obtain⟨v,H',I3,rv,ev,q3⟩:=I2.after MR
   subst ev
   exact⟨rv,⟨V.ref (s.heap.objs.size+1),H',I3,rfl,q3⟩⟩
  |next=>exact False.elim MR
  |brk=>exact False.elim MR
  |cont=>exact False.elim MR
theorem GA(M:Mk X.K C f)(F:cM X.prog X.w X.K X.mg X.base CX k f fd ps sp)(hr:ck (k+1) X.A)(hg:Gl X x)(hm:X.mg x=some (.ref C))(hb:Binds X.K fd ps ds)(hd:Vals dvs ds)(hx:Passes CX X E)
  (ha:PA X (e::es) t)(tL:(x==("__debug__" :Str))=false:=by decide)(he:starEach (e::es) X.env=(false,eval e X.env)::starEach es X.env:=by rfl)(hpl:(backTo pos (starEach es X.env)).any (·.1)=false:=by rfl):
  PE X (.Call (.Name x p) (e::es) [] pos) (MQ C sp dvs E t):=by
 intro pins s σ H Q I h
 refine wpAny_Call_Name_kw (tH I hg hm ?_ tL)
 refine PySem.W.callWith_K (h₀:=X.base) I.ok.mod.kin M.kp (dS (ha pos pins s σ H _ I h) λus s1 ⟨vs,H1,I1,r,q⟩=>⟨I1.pG,?_⟩) he hpl
 exact C6 M F hr hb hd hx I1 r q
end
noncomputable def PK(X:Cx)(MT:List Keyword)(t:TA):Prop:=
 ∀(pos:Pos) (pins:List (Addr×Obj)) (s:Shared) (σ:St) (H:Hp) (Q:List V->Hp->Prop),Inv X pins σ H s->t σ H Q->wpAny (model X.prog X.w) X.A (evalAll ((backToKw pos (keywordEach MT X.env)).map (·.2))) (AP X pins σ Q) X.xe s
section
variable{X:Cx}{CX:CI}{k:Nat}{f C:Addr}{fd:FuncData}{ps ks:List Str}{sp:Sp}{E:XK}{x m:Str}{p pos apos kpos:Pos}{e o:Expr}{es:List Expr}{MT:List Keyword}{te ta:TE}{t tk:TA}{nm:Option Str}
theorem J5:PK X [] C3:=λ_ _ _ _ H Q I h=>wpAny_evalAll_nil ⟨[],H,I,.nil,h⟩
theorem GB(ha:PE X e te)(hr:PK X MT t):PK X (⟨nm,e,kpos⟩::MT) (C4 te t):=by
 intro pos pins s σ H Q I h
 show wpAny _ _ (evalAll ((do let v<-eval e X.env;standAt pos;pure v)::(backToKw pos (keywordEach MT X.env)).map (·.2))) _ _ s
 refine wpAny_evalAll_cons (wpAny_bind (dS (ha pins s σ H _ I h) λu s1 ⟨x,H1,I1,r1,q1⟩=>wpAny_bind (wpAny_standAt (wpAny_pure ?_))))
 exact dS (hr pos pins s1 σ H1 _ I1 q1) λus s2 ⟨xs,H2,I2,r2,q2⟩=>⟨x::xs,H2,I2,.cons r1 r2,q2⟩
variable{g:List Value->List Value->List Value}{gV:List V->List V->List V}
end
structure eI(N P:List Str)(sc:Scope):Prop where
 kind:sc.kind=.function
 co:sc.isCoroutine=false
 gen:sc.isGenerator=false
 nd:N.Nodup
 pre:N.take P.length=P
 par:∀x∈P,sc.names.lookup x=some .local\/sc.names.lookup x=some .cell
 nofree:∀y∈sc.names,y.2≠.free
theorem r9{kindOf:Str->Option NameKind}{x:Str}:∀{binds:List (Str×Value)} {m:Str->Option Value},(∀v,(x,v)∉binds)->bindL kindOf binds m x=m x
 |[],_,_=>rfl
 |(n,v)::r,m,h=>by
  unfold bindL
  rw[r9 λw hw=>h w (List.mem_cons_of_mem _ hw)]
  split
  ·have:x≠n:=by rintro rfl;exact h v List.mem_cons_self
   simp[this]
  ·rfl
theorem si{kindOf:Str->Option NameKind}{x:Str}:∀{binds:List (Str×Value)} {m:Str->Option Value},(∀v,(x,v)∉binds)->bindC kindOf binds m x=m x
 |[],_,_=>rfl
 |(n,v)::r,m,h=>by
  unfold bindC
  rw[si λw hw=>h w (List.mem_cons_of_mem _ hw)]
  split
  ·rfl
  ·have:x≠n:=by rintro rfl;exact h v List.mem_cons_self
   simp[this]
theorem sj{kindOf:Str->Option NameKind}{x:Str}{v:Value}:∀{P:List Str} {vs:List Value} {i:Nat} {m:Str->Option Value},P.Nodup->P[i]?=some x->vs[i]?=some v->kindOf x=some .local->
  bindL kindOf (P.zip vs) m x=some v
 |[],_,_,_,_,h,_,_=>by simp at h
 |_::_,[],_,_,_,_,h,_=>by simp at h
 |p::P,w::vs,0,m,nd,h1,h2,hk=>by
  simp at h1 h2;subst h1;subst h2
  show bindL kindOf ((p,w)::P.zip vs) m p=_
  unfold bindL
  rw[r9 λv hv=>(List.nodup_cons.mp nd).1 (List.of_mem_zip hv).1,if_pos hk]
  simp
 |p::P,w::vs,i+1,m,nd,h1,h2,hk=>by
  show bindL kindOf ((p,w)::P.zip vs) m x=_
  unfold bindL
  exact sj (i:=i) (List.nodup_cons.mp nd).2 (by simpa using h1) (by simpa using h2) hk
theorem sk{kindOf:Str->Option NameKind}{x:Str}{v:Value}:∀{P:List Str} {vs:List Value} {i:Nat} {m:Str->Option Value},P.Nodup->P[i]?=some x->vs[i]?=some v->kindOf x≠some .local->
  bindC kindOf (P.zip vs) m x=some v
 |[],_,_,_,_,h,_,_=>by simp at h
 |_::_,[],_,_,_,_,h,_=>by simp at h
 |p::P,w::vs,0,m,nd,h1,h2,hk=>by
  simp at h1 h2;subst h1;subst h2
  show bindC kindOf ((p,w)::P.zip vs) m p=_
  unfold bindC
  rw[si λv hv=>(List.nodup_cons.mp nd).1 (List.of_mem_zip hv).1,if_neg hk]
  simp
 |p::P,w::vs,i+1,m,nd,h1,h2,hk=>by
  show bindC kindOf ((p,w)::P.zip vs) m x=_
  unfold bindC
  exact sk (i:=i) (List.nodup_cons.mp nd).2 (by simpa using h1) (by simpa using h2) hk
noncomputable def start(N:List Str)(vs:List V):St:=vs.map some++List.replicate (N.length-vs.length) none
noncomputable def lN(CX:CI)(P:Program)(w:World)(K:PySem.W.Frag)(mg:Str->Option Value)(base:Heap)(N:List Str)(qual:Str)(scope:Scope)(f:Addr)(cd:Value)(A:Around)(outer:List Env)(s:Shared)(H:Hp)(E:XK):Cx where
 prog:=P
 w:=w
 K:=K
 mg:=mg
 base:=base
 A:=A.deeper (envOfC qual scope s.heap.objs.size f cd)
 N:=N
 s₀:=s
 H₀:=H
 env:=envOfC qual scope s.heap.objs.size f cd
 outer:=outer
 stack:=envOfC qual scope s.heap.objs.size f cd::outer
 ex:=[]
 calm:=true
 fn:=λ_=>true
 pn:=[]
 xe:=λe s'=>wpAny (model P w) (A.deeper (envOfC qual scope s.heap.objs.size f cd)) (leaving (envOfC qual scope s.heap.objs.size f cd) e) (λ_ J6=>CX outer H s E e J6) (λe' J6=>CX outer H s E e' J6) s'
theorem vA{sc:Scope}{n:Nat}{x:Str}(h:sc.names.lookup x=some .cell):∃c,(cellsFrom n sc.names []).lookup x=some c:=by
 have q:=PySem.W.cellsFrom_some sc.names n [] (.inl h)
 exact Option.isSome_iff_exists.mp q
theorem A8{CX:CI}{P:Program}{w:World}{K:PySem.W.Frag}{mg:Str->Option Value}{base:Heap}{N ps:List Str}{qual:Str}{scope:Scope}{f:Addr}{cd:Value}{A:Around}{outer:List Env}{s s1:Shared}{H:Hp}{E:XK}{us:List Value}{vs:List V}
  (S:eI N ps scope)(hd:A.handled=none)(e0:xV P w K mg base A outer s H)(hl:vs.length=ps.length)(r:Vals vs us)
  (x:InCallC s s.heap.objs.size (bindL (envOfC qual scope s.heap.objs.size f cd).kindOf (ps.zip us) λ_=>none) (cellsFrom (s.heap.objs.size+1) scope.names []) (bindC (envOfC qual scope s.heap.objs.size f cd).kindOf (ps.zip us) λ_=>none) s1):
  Inv (lN CX P w K mg base N qual scope f cd A outer s H E) [] (start N vs) H s1:=by
 have hpl:ps.length<=N.length:=by have:=congrArg List.length S.pre;rw[List.length_take]at this;omega
 obtain⟨h1,tk,rfl,hk⟩:=x.done
 have MU:∀b:Addr,b∉(lN CX P w K mg base N qual scope f cd A outer s H E).ex:=λb z=>absurd (show b∈([]:List Addr)from z) (by simp)
 refine⟨⟨e0.mod,S.kind,rfl,rfl,Nat.le_refl _,λy z c h1 h2=>?_,λy hy=>?_,λy c _ h=>?_,λ_=>hd,Around.frames_deeper e0.frames,.inr ⟨rfl,rfl⟩,λb z=>absurd z (MU b),e0.bs,e0.bsz,λb _ _=>MU b,λb z=>absurd z (MU b),e0.funs,e0.frf⟩,
  rfl,e0.bare,Un.kept hk,⟨_,x.toInCall.ns,λi y v h1 h2 h3=>?_⟩,λy c h=>⟨_,x.cell y c h⟩,e0.d8.fresh (Nat.le_refl _),λy c h=>?_,λp hp=>absurd (show p∈([]:List (Addr×Obj))from hp) (by simp),e0.d8.kept hk,?_⟩
 ·exact name_of_addr x.apart (PySem.mem_of_lookup h1) (PySem.mem_of_lookup h2)
 ·have hy:scope.names.lookup y=some .cell\/scope.names.lookup y=some .free:=hy
  rcases hy with hy|hy
  ·exact vA hy
  ·exact absurd rfl (S.nofree _ (PySem.mem_of_lookup hy))
 ·exact Nat.le_of_lt (x.above y c (PySem.mem_of_lookup h))
 ·have hi:i<vs.length:=by
    unfold start at h2
    by_cases hi:i<vs.length
    ·exact hi
    ·rw[List.getElem?_append_right (by simpa using hi)]at h2
     rw[List.getElem?_replicate]at h2
     split at h2<;>cases h2
  have ha:vs[i]?=some v:=by
   unfold start at h2
   rw[List.getElem?_append_left (by simpa using hi),List.getElem?_map]at h2
   cases e:vs[i]? with
   |none=>rw[e]at h2;cases h2
   |some a=>rw[e]at h2;cases h2;rfl
  obtain⟨u,hu,rv⟩:=r.get ha
  have hp:ps[i]?=some y:=by
   rw[<-S.pre,List.getElem?_take_of_lt (by omega)];exact h1
  have Q4:ps.Nodup:=by rw[<-S.pre];exact S.nd.sublist (List.take_sublist _ _)
  refine⟨u,rv,?_⟩
  rcases S.par y (List.mem_of_getElem? hp)with k|k
  ·exact .inl ⟨k,sj Q4 hp hu k⟩
  ·obtain⟨c,e⟩:=vA (n:=s.heap.objs.size+1) k
   refine .inr ⟨.inl k,c,e,?_⟩
   have q:=x.cell y c e
   rw[sk Q4 hp hu (by show scope.names.lookup y≠_;rw[k];decide)]at q
   exact q
 ·exact e0.d8.fresh (Nat.le_of_lt (x.above y c (PySem.mem_of_lookup h)))
 ·unfold start
  show _=N.length
  rw[List.length_append,List.length_map,List.length_replicate]
  omega
theorem MV{CX:CI}{P:Program}{w:World}{K:PySem.W.Frag}{mg:Str->Option Value}{base:Heap}{k:Nat}{f:Addr}{name qual:Str}{params:Arguments}{body:List Stmt}{scope:Scope}{dV kV doc pm eU ct oc:Value}{an od:Option Addr}
  {IK:Array (Option Value)}{N ps:List Str}{sp:Sp}(lk:K.lookup f=some ⟨oc,od,.func (PySem.W.fnOf name qual params body scope dV kV doc pm an eU ct),IK⟩)(oW:PySem.W.codeIn K eU qual=true)(S:eI N ps scope)
  (len:∀vs H Q E,sp vs H Q E->vs.length=ps.length)
  (C7:∀(A:Around) (outer:List Env) (s:Shared) (H:Hp) (vs:List V) (Q:VK) (E:XK),ck k (A.deeper (envOfC qual scope s.heap.objs.size f eU))->sp vs H Q E->
    ∃t,tG (lN CX P w K mg base N qual scope f eU A outer s H E) body t/\t {nx:=λ_ H'=>Q .non H',rt:=Q} (start N vs) H):
  cM P w K mg base CX (k+1) f (PySem.W.fnOf name qual params body scope dV kV doc pm an eU ct) ps sp:=by
 refine⟨len,λA outer s H args us vs Q E hr e0 hb r IL=>?_⟩
 have hl:=len _ _ _ _ IL
 have KX:K.In s.heap:=e0.mod.kin.keeps λb o e=>(e0.bs b o e).1
 have lim:s.heap.NoLimit:=e0.mod.nolimit.keeps λb o e=>(e0.bs b o e).1
 have MW:∀y∈ps.zip us,scope.names.lookup y.1=some .local\/(scope.names.lookup y.1=some .cell/\((cellsFrom (s.heap.objs.size+1) scope.names []).lookup y.1).isSome=true):=λ⟨n,v⟩ hy=>by
  rcases S.par n (List.of_mem_zip hy).1 with q|q
  ·exact .inl q
  ·exact .inr ⟨q,PySem.W.cellsFrom_some _ _ _ (.inl q)⟩
 refine codeAny_call_function hr.depth (KX _ _ lk) rfl S.co S.gen rfl (PySem.W.codeRec_of KX oW) (hb _ _ _ _ ?_)
 refine wpAny_newFunctionEnv_cells S.kind MW λenv he s1 x=>?_
 subst he
 refine⟨lim.keeps x.toInCall.keep,codeAny_func ?_⟩
 obtain⟨t,ht,hq⟩:=C7 A outer s H vs Q E (hr.deeper _) IL
 have I:Inv (lN CX P w K mg base N qual scope f eU A outer s H E) [] (start N vs) H s1:=A8 S hr.hd e0 hl r x
 refine wpAny_mono (ht [] s1 (start N vs) H _ I hq) (λfl s' hs=>?_) λe s' hs=>hs
 have fin:∀{σ':St} {H':Hp} {v:V} {u:Value},Inv (lN CX P w K mg base N qual scope f eU A outer s H E) [] σ' H' s'->RelV v u->Q v H'->CE outer P w H s Q u s':=
  λ{σ' H' v u} J rv q=>⟨v,H',J.os,J.bare,J.base,J.d8,rv,q⟩
 cases fl with
 |ret u=>
  obtain⟨v,σ',H',J,rv,q⟩:=hs
  exact fin J rv q
 |next=>
  obtain⟨σ',H',J,q⟩:=hs
  exact fin (v:=V.non) (u:=Value.none) J rfl q
 |brk=>
  obtain⟨_,_,_,q⟩:=hs
  exact False.elim q
 |cont=>
  obtain⟨_,_,_,q⟩:=hs
  exact False.elim q
section
variable{X:Cx}{x:Str}{p pos:Pos}{e:Expr}{es:List Expr}{t:TA}{id T:String}{r:List V->Hp->VK->Prop}
noncomputable def Q5(r:List V->Hp->VK->Prop)(t:TA):TE:=λσ H Q=>t σ H λvs H1=>r vs H1 Q
theorem jh(hc:gY X (.builtin id) r)(hg:Gl X x)(hm:X.mg x=none)(hv:bootBuiltins x=some (.builtin id))(ha:PA X (e::es) t)(hn:x≠ "__name__" :=by decide)(tL:(x==("__debug__" :Str))=false:=by decide)
  (he:starEach (e::es) X.env=(false,eval e X.env)::starEach es X.env:=by rfl)(hpl:(backTo pos (starEach es X.env)).any (·.1)=false:=by rfl):PE X (.Call (.Name x p) (e::es) [] pos) (Q5 r t):=by
 intro pins s σ H Q I h
 refine wpAny_Call_Name_kw (j7 I hg hm hv ?_ hn tL)
 exact PyProof.Rows.callWith_builtin1 (dS (ha pos pins s σ H _ I h) λus s1 ⟨vs,H1,I1,r1,q1⟩=>hc pins s1 σ H1 vs us Q I1 r1 q1) he hpl
theorem nW(hc:gY X (.type T) r)(hg:Gl X x)(hm:X.mg x=none)(hv:bootBuiltins x=some (.type T))(ha:PA X (e::es) t)(hn:x≠ "__name__" :=by decide)(tL:(x==("__debug__" :Str))=false:=by decide)
  (he:starEach (e::es) X.env=(false,eval e X.env)::starEach es X.env:=by rfl)(hpl:(backTo pos (starEach es X.env)).any (·.1)=false:=by rfl):PE X (.Call (.Name x p) (e::es) [] pos) (Q5 r t):=by
 intro pins s σ H Q I h
 refine wpAny_Call_Name_kw (j7 I hg hm hv ?_ hn tL)
 exact PyProof.Rows.callWith_type1 (dS (ha pos pins s σ H _ I h) λus s1 ⟨vs,H1,I1,r1,q1⟩=>hc pins s1 σ H1 vs us Q I1 r1 q1) he hpl
end
end L2
namespace HT
open PySem PyProof.Rows
noncomputable def lexLt:List Int->List Int->Bool
 |[],[]=>false
 |[],_::_=>true
 |_::_,[]=>false
 |x::xs,y::ys=>if x=y then lexLt xs ys else decide (x<y)
theorem l5(x y:Int)(xs ys:List Int):lexLt (x::xs) (y::ys)=if x=y then lexLt xs ys else decide (x<y):=rfl
theorem rH:lexLt [] []=false:=rfl
theorem pI(y:Int)(ys:List Int):lexLt [] (y::ys)=true:=rfl
theorem pJ(x:Int)(xs:List Int):lexLt (x::xs) []=false:=rfl
theorem C8(A:Around)(s:Shared)(a:Int)(t:Tok)(c:Int)(u:Tok):∃e,SeqAt.EqAt A s (.int a t) (.int c u) e/\(e=true↔a=c):=
 ⟨(a==c),SeqAt.EqAt.int_int a t c u,by simp⟩
theorem C9(A:Around)(s:Shared)(a:Int)(t:Tok)(c:Int)(u:Tok)(prog:Program)(w:World)(E:Value->Shared->Prop)(Q:Value->Shared->Prop)(h:Q (.bool (decide (a<c))) s):
  wpAny (model prog w) A (richCompare .Lt (.int a t) (.int c u)) Q E s:=
 (PyProof.Rows.lt_int h:wpAny (model prog w) A (compareOp .Lt (.int a t) (.int c u)) Q E s)
section
variable{prog:Program}{w:World}{A:Around}{E:Value->Shared->Prop}{s:Shared}
noncomputable def xA(n d:Nat):Option Int->Nat
 |none=>d
 |some v=>if v<0 then(v+(n:Int)).toNat else min v.toNat n
end
end HT
namespace L2
open PySem PySem.Spec PyProof.Rows
noncomputable abbrev TO:=St->Hp->(Option Int->Hp->Prop)->Prop
noncomputable def PO(X:Cx)(e:Option Expr)(t:TO):Prop:=
 ∀(pins:List (Addr×Obj)) (s:Shared) (σ:St) (H:Hp) (Q:Option Int->Hp->Prop),Inv X pins σ H s->t σ H Q->
  wpAny (model X.prog X.w) X.A (evalPart e X.env) (λu s'=>∃o H',Inv X pins σ H' s'/\IsPart u o/\Q o H') X.xe s
noncomputable def GC:TO:=λ_ H Q=>Q none H
noncomputable def MX(t:TE):TO:=λσ H Q=>t σ H λx H1=>∃i,x=.int i/\Q (some i) H1
theorem intsAre_of{ns:List Int}:∀{us:List Value},Vals (ns.map V.int) us->IntsAre us ns:=by
 induction ns with
 |nil=>intro us r;rw[List.map_nil]at r;cases r;exact .nil
 |cons n ns ih=>
  intro us r
  rw[List.map_cons]at r
  cases r with
  |cons r1 r2=>
   obtain⟨t,e⟩:=r1
   subst e
   exact .cons n t (ih r2)
section
variable{X:Cx}{e:Expr}{te:TE}{lo hi:Option Expr}{tl th:TO}{pos p2:Pos}
theorem GD:PO X none GC:=by
 intro pins s σ H Q I h
 rw[evalPart_none]
 exact wpAny_pure ⟨none,H,I,.none,h⟩
theorem GF(h:PE X e te):PO X (some e) (MX te):=by
 intro pins s σ H Q I hw
 rw[evalPart_some]
 refine dS (h pins s σ H _ I hw) λu s1 cy=>?_
 obtain⟨x,H1,I1,r1,q1⟩:=cy
 obtain⟨i,rfl,q⟩:=q1
 obtain⟨t,rfl⟩:=r1
 exact⟨some i,H1,I1,.int i t,q⟩
noncomputable def Q6(X:Cx)(r:V->Option Int->Option Int->Hp->VK->Prop):Prop:=
 ∀(pins:List (Addr×Obj)) (s:Shared) (σ:St) (H:Hp) (x:V) (v vl vu:Value) (lo hi:Option Int) (sl:Addr) (Q:VK),Inv X pins σ H s->RelV x v->s.heap.IsSliceOf sl vl vu .none->IsPart vl lo->IsPart vu hi->r x lo hi H Q->
  ∃T id,typeLookup (.type T) "__getitem__" =pure (some (.builtin id))/\s.TypeIs v T/\wpAny (model X.prog X.w) X.A (getItem v (.ref sl)) (EP X pins σ Q) X.xe s
noncomputable def Sg(r:V->Option Int->Option Int->Hp->VK->Prop)(te:TE)(tl th:TO):TE:=λσ H Q=>te σ H λx H1=>tl σ H1 λl H2=>th σ H2 λu H3=>r x l u H3 Q
theorem Dc{r:V->Option Int->Option Int->Hp->VK->Prop}(hr:Q6 X r)(he:PE X e te)(hl:PO X lo tl)(hu:PO X hi th):PE X (.Subscript e (.Slice lo hi none p2) pos) (Sg r te tl th):=by
 intro pins s σ H Q I h
 refine Subscript_ (dS (he pins s σ H _ I h) λv s1 cy=>?_)
 obtain⟨x,H1,I1,r1,q1⟩:=cy
 refine wpAny_Slice (dS (hl pins s1 σ H1 _ I1 q1) λvl s2 ⟨l,H2,I2,pl,q2⟩=>dS (hu pins s2 σ H2 _ I2 q2) λvu s3 cy=>?_)
 obtain⟨u,H3,I3,pu,q3⟩:=cy
 rw[evalPart_none]
 refine wpAny_pure ?_
 have I4:Inv X pins σ H3 {s3 with heap:=s3.heap.push {cls:=.type "slice",data:=.fields #[vl,vu,.none]}}:=I3.kept (t':=s3.toks) λb ob q=>Heap.get?_push_of_some _ q
 obtain⟨T,id,hT,ht,hg⟩:=hr pins {s3 with heap:=s3.heap.push {cls:=.type "slice",data:=.fields #[vl,vu,.none]}} σ H3 x v vl vu l u s3.heap.objs.size Q I4 r1 (Heap.IsSliceOf.new ..) pl pu q3
 show wpAny (model X.prog X.w) X.A (subscriptTail e (.Slice lo hi none p2) v (.ref s3.heap.objs.size)) (EP X pins σ Q) X.xe {s3 with heap:=s3.heap.push {cls:=.type "slice",data:=.fields #[vl,vu,.none]}}
 exact tail_any (ops:=[.ref s3.heap.objs.size,v]) ht hT hg (by with_unfolding_all rfl)
noncomputable def A9(xs:List V)(lo hi:Option Int):List V:=(xs.drop (HT.xA xs.length 0 lo)).take (HT.xA xs.length xs.length hi-HT.xA xs.length 0 lo)
theorem vB(xs:List V)(lo hi:Option Int):(A9 xs lo hi).length<=xs.length:=by
 unfold A9
 rw[List.length_take,List.length_drop]
 omega
end
noncomputable def L3(n:Nat)(i:Int):Option Nat:=if 0<=i then(if i<n then some i.toNat else none)else if-(n:Int)<=i then some (i+n).toNat else none
noncomputable def IM{α:Type}(xs:List α)(i:Int):Option α:=(L3 xs.length i).bind λj=>xs[j]?
theorem zw{n:Nat}{i:Int}{j:Nat}(h:L3 n i=some j):seqIndex? i n=some j/\j<n/\-(n:Int)<=i/\i<n:=by
 unfold L3 at h
 by_cases h0:0<=i
 ·rw[if_pos h0]at h
  by_cases h1:i<n
  ·rw[if_pos h1]at h
   have e:i.toNat=j:=Option.some.inj h
   exact⟨by rw[seqIndex_of h0 h1,e],by omega,by omega,h1⟩
  ·rw[if_neg h1]at h;cases h
 ·rw[if_neg h0]at h
  by_cases h1:-(n:Int)<=i
  ·rw[if_pos h1]at h
   have e:(i+n).toNat=j:=Option.some.inj h
   exact⟨by rw[seqIndex_neg (by omega) h1,e],by omega,h1,by omega⟩
  ·rw[if_neg h1]at h;cases h
theorem tM{α:Type}{xs:List α}{i:Int}{v:α}(h:IM xs i=some v):∃j,seqIndex? i xs.length=some j/\xs[j]?=some v/\j<xs.length/\-(xs.length:Int)<=i/\i<xs.length:=by
 unfold IM at h
 cases e:L3 xs.length i with
 |none=>rw[e]at h;cases h
 |some j=>
  rw[e]at h
  obtain⟨h1,h2,h3,h4⟩:=zw e
  exact⟨j,h1,h,h2,h3,h4⟩
noncomputable def tN(b:Expr):Prop:=∀o i,subscripted b false o i=operate [o,i] (getItem o i)
noncomputable def GG(X:Cx)(r:R2):Prop:=
 ∀(value slice:Expr) (pins:List (Addr×Obj)) (s:Shared) (σ:St) (H:Hp) (x y:V) (v u:Value) (Q:VK),Inv X pins σ H s->RelV x v->RelV y u->r x y H Q->
  subscripted slice false v u=operate [v,u] (getItem v u)->wpAny (model X.prog X.w) X.A (subscriptTail value slice v u) (EP X pins σ Q) X.xe s
noncomputable def Om(X:Cx)(id:String)(r:V->List V->Hp->VK->Prop):Prop:=
 ∀(pins:List (Addr×Obj)) (s:Shared) (σ:St) (H:Hp) (x:V) (xs:List V) (v:Value) (us:List Value) (Q:VK),Inv X pins σ H s->RelV x v->Vals xs us->r x xs H Q->
  wpAny (model X.prog X.w) X.A (call (.builtin id) (v::us)) (EP X pins σ Q) X.xe s
section
variable{X:Cx}{a b:Expr}{ta tb:TE}{pos:Pos}
theorem GG.or{r r':R2}(h:GG X r)(h':GG X r'):GG X (λx y H Q=>r x y H Q\/r' x y H Q):=by
 intro value slice pins s σ H x y v u Q I rx ry q hs
 rcases q with q|q
 ·exact h value slice pins s σ H x y v u Q I rx ry q hs
 ·exact h' value slice pins s σ H x y v u Q I rx ry q hs
theorem zx{r:R2}(hr:GG X r)(ha:PE X a ta)(hb:PE X b tb)(hs:tN b):PE X (.Subscript a b pos) (MB r ta tb):=by
 intro pins s σ H Q I h
 exact Subscript_ (JR ha hb I h λv u s2 x y H2 I2 rx ry q=>hr a b pins s2 σ H2 x y v u Q I2 rx ry q (hs _ _))
noncomputable def MY(K:PySem.W.Frag):R2:=λx y H Q=>∃p xs i v,x=.ref p/\y=.int i/\gc K H p xs/\IM xs i=some v/\Q v H
noncomputable def MZ(K:PySem.W.Frag):R2:=λx y H Q=>∃p xs i v,x=.ref p/\y=.int i/\lM K H p xs/\IM xs i=some v/\Q v H
noncomputable def M0:R2:=λx y H Q=>∃z i c,x=.str z/\y=.int i/\z.length<=sizeLine/\IM z.cps.toList i=some c/\Q (.str ⟨#[c]⟩) H
theorem zy:GG X (MY X.K):=by
 intro value slice pins s σ H x y v u Q I rx ry h hs
 obtain⟨p,xs,i,z,rfl,rfl,hq,he,q⟩:=h
 cases rx
 obtain⟨t,rfl⟩:=ry
 obtain⟨its,r,pl,hz⟩:=I.list hq
 obtain⟨j,h1,h2,h3,h4,h5⟩:=tM he
 obtain⟨w,ew,Pl⟩:=r.get h2
 have hl:=r.length
 have hn:=l0
 have fin:EP X pins σ Q w s:=⟨z,H,I,Pl,q⟩
 by_cases h0:0<=i
 ·have hj:i.toNat=j:=by
    rw[seqIndex_of h0 h5]at h1
    exact Option.some.inj h1
  exact item_listR pl.isList h0 (by omega) (by rw[hj];simpa using ew) fin hs
 ·have hj:(i+(its.toArray.size:Int)).toNat=j:=by
    rw[seqIndex_neg (by omega) h4]at h1
    rw[List.size_toArray,<-hl]
    exact Option.some.inj h1
  exact subscriptTail_builtinR (x:=w) pl.isList.typeIs slot_list_getitem.lookup
   (wpAny_getItem_list_neg (Q:=λr s'=>r=w/\EP X pins σ Q r s') pl.isList (by omega) (by rw[List.size_toArray]<;>omega) (by omega) (by rw[hj];simpa using ew) ⟨rfl,fin⟩) hs
theorem xW:GG X (MZ X.K):=by
 intro value slice pins s σ H x y v u Q I rx ry h hs
 obtain⟨p,xs,i,z,rfl,rfl,hq,he,q⟩:=h
 cases rx
 obtain⟨t,rfl⟩:=ry
 obtain⟨its,r,pl,hz⟩:=I.tuple hq
 obtain⟨j,h1,h2,h3,h4,h5⟩:=tM he
 obtain⟨w,ew,Pl⟩:=r.get h2
 have hl:=r.length
 have hn:=l0
 have fin:EP X pins σ Q w s:=⟨z,H,I,Pl,q⟩
 exact subscriptTail_builtinR (x:=w) pl.typeIs slot_tuple_getitem.lookup
  (getItem_tuple (j:=j) (Q:=λr s'=>r=w/\EP X pins σ Q r s') pl (by omega) (by omega) (by rw[List.size_toArray,<-hl];exact h1) (by simpa using ew) ⟨rfl,fin⟩) hs
theorem J7:GG X M0:=by
 intro value slice pins s σ H x y v u Q I rx ry h hs
 obtain⟨z,i,c,rfl,rfl,hz,he,q⟩:=h
 obtain⟨t,rfl⟩:=rx
 obtain⟨t',rfl⟩:=ry
 obtain⟨j,h1,h2,h3,h4,h5⟩:=tM he
 have hl:z.cps.toList.length=z.length:=by simp[Str.length]
 rw[hl]at h1 h4 h5
 have hn:=l0
 exact tail_any (typeIs_str s z t) slot_str_getitem.lookup (getItem_str (c:=c) (by
  have e1:decide (i< -(2^63:Int))=false:=decide_eq_false (by omega)
  have e2:decide (i≥2^63)=false:=decide_eq_false (by omega)
  rw[e1,e2,Bool.or_false]) (by rw[h1];simpa using h2) ⟨.str ⟨#[c]⟩,H,I.tok _,⟨_,rfl⟩,q⟩) hs
noncomputable def Si(K:PySem.W.Frag):R2:=λx y H Q=>MY K x y H Q\/MZ K x y H Q\/M0 x y H Q
theorem J8:GG X (Si X.K):=zy.or (xW.or J7)
theorem xX(its:List Value)(n j:Nat)(u:Value):Obj.mapSeq (·.setIfInBounds j u) {cls:=.type "list",data:=.seq its.toArray n}={cls:=.type "list",data:=.seq (its.set j u).toArray n}:=by
 simp[Obj.mapSeq]
theorem Inv.lst{pins:List (Addr×Obj)}{σ:St}{H:Hp}{s:Shared}{p:Addr}{xs:List V}(I:Inv X pins σ H s)(h:H p=some (.lst xs)):
  ∃(its:List Value) (n:Nat),Vals xs its/\s.heap.get? p=some {cls:=.type "list",data:=.seq its.toArray n}/\xs.length<=sizeLine:=by
 obtain⟨z,its,n,r,e⟩:=I.d8 p _ h
 exact⟨its,n,r,e,z⟩
theorem Inv.J9{pins:List (Addr×Obj)}{σ:St}{H:Hp}{s:Shared}{p:Addr}{xs ys:List V}{its its':List Value}{n n':Nat}{f:Obj->Obj}(I:Inv X pins σ H s)(h:H p=some (.lst xs))
  (ho:s.heap.get? p=some {cls:=.type "list",data:=.seq its.toArray n})(hf:f {cls:=.type "list",data:=.seq its.toArray n}={cls:=.type "list",data:=.seq its'.toArray n'})(r:Vals ys its')(hz:ys.length<=sizeLine)(t:Nat):
  Inv X pins σ (upd H p (.lst ys)) {s with heap:=s.heap.update p f,toks:=t}:=by
 have e:(s.heap.update p f).get? p=some {cls:=.type "list",data:=.seq its'.toArray n'}:=by
  rw[Heap.get?_update_self f ho (by rw[hf]<;>rfl),hf]
 refine I.write (x:=p) (e:=p) (by rw[h];trivial) (.inl rfl) (λb u hb q=>(Heap.get?_update_other _ _ (Ne.symm hb)).trans q) ⟨_,e⟩ ?_
 exact⟨hz,its',n',r,e⟩
noncomputable def M1:V->V->V->Hp->(Hp->Prop)->Prop:=λo i v H Q=>∃p xs k j,o=.ref p/\i=.int k/\H p=some (.lst xs)/\L3 xs.length k=some j/\Q (upd H p (.lst (xs.set j v)))
theorem set_list:Mu X M1:=by
 intro pins s σ H o i v ov iv u Q I ro ri rv h
 obtain⟨p,xs,k,j,rfl,rfl,hp,hj,q⟩:=h
 cases ro
 obtain⟨t,rfl⟩:=ri
 obtain⟨its,n,r,ho,hz⟩:=I.lst hp
 obtain⟨h1,h2,h3,h4⟩:=zw hj
 have hl:=r.length
 have hn:=l0
 have I':Inv X pins σ (upd H p (.lst (xs.set j v))) {s with heap:=s.heap.update p (Obj.mapSeq (·.setIfInBounds j u))}:=
  I.J9 hp ho (xX its n j u) (r.set rv j) (by rw[List.length_set];exact hz) s.toks
 by_cases h0:0<=k
 ·have hk:k.toNat=j:=by
    rw[seqIndex_of h0 h4]at h1
    exact Option.some.inj h1
  exact PySem.W.ki_setAt ho h0 (by omega) (by rw[List.size_toArray,<-hl];exact h4) (by rw[hk];exact⟨_,I',q⟩)
 ·have hk:(k+(its.toArray.size:Int)).toNat=j:=by
    rw[seqIndex_neg (by omega) h3]at h1
    rw[List.size_toArray,<-hl]
    exact Option.some.inj h1
  exact PySem.W.ki_setBack ho (by omega) (by rw[List.size_toArray,<-hl];exact h3) (by omega) (by rw[hk];exact⟨_,I',q⟩)
theorem tO(lo hi:Option Int)(n:Nat):(sliceBounds lo hi none n).1=((HT.xA n 0 lo:Nat):Int)/\(sliceBounds lo hi none n).2.1=((HT.xA n n hi:Nat):Int)/\(sliceBounds lo hi none n).2.2=1:=by
 refine⟨?_,?_,rfl⟩
 ·cases lo with
  |none=>simp[sliceBounds,HT.xA]
  |some i=>
   simp only[sliceBounds,HT.xA,Option.getD_none,show(1:Int)>0 by decide,if_true]
   by_cases h:i<0
   ·simp only[h,if_true]<;>omega
   ·simp only[h,if_false]<;>omega
 ·cases hi with
  |none=>simp[sliceBounds,HT.xA]
  |some i=>
   simp only[sliceBounds,HT.xA,Option.getD_none,show(1:Int)>0 by decide,if_true]
   by_cases h:i<0
   ·simp only[h,if_true]<;>omega
   ·simp only[h,if_false]<;>omega
theorem rJ(its:List Value)(lo hi:Option Int):slicePick its.toArray lo hi none=((its.drop (HT.xA its.length 0 lo)).take (HT.xA its.length its.length hi-HT.xA its.length 0 lo)).toArray:=by
 obtain⟨h1,h2,h3⟩:=tO lo hi its.toArray.size
 unfold slicePick
 rw[h1,h2,h3]
 simp only[sliceRange_one,pick_run,List.size_toArray]<;>rfl
noncomputable def Pm(K:PySem.W.Frag):V->Option Int->Option Int->Hp->VK->Prop:=λx lo hi H Q=>∃a xs,x=.ref a/\gc K H a xs/\∀p,H p=none->Q (.ref p) (upd H p (.lst (A9 xs lo hi)))
theorem GH:Q6 X (Pm X.K):=by
 intro pins s σ H x v vl vu lo hi sl Q I rx hs pl pu h
 obtain⟨a,xs,rfl,hx,q⟩:=h
 cases rx
 obtain⟨its,r,ht,hz⟩:=I.list hx
 have hlen:=r.length
 refine⟨"list",_,slot_list_getitem.lookup,ht.isList.typeIs,?_⟩
 refine wpAny_getItem_list_slice ht.isList hs pl pu .none (by simp) ?_ (by rw[List.size_toArray]<;>omega)
 rw[rJ,<-hlen]
 refine⟨.ref s.heap.objs.size,_,I.laid (t':=s.toks) (o:=.lst (A9 xs lo hi)) (λb ob q=>Heap.get?_push_of_some _ q) (Nat.le_refl _) ?_,rfl,q _ (I.d8.fresh (Nat.le_refl _))⟩
 exact⟨Nat.le_trans (vB xs lo hi) hz,_,0,(r.drop (HT.xA xs.length 0 lo)).take (HT.xA xs.length xs.length hi-HT.xA xs.length 0 lo),Heap.get?_push_size _ rfl⟩
noncomputable def ip:V->Bool
 |.non=>true
 |.bl _=>true
 |.int _=>true
 |.str _=>true
 |_=>false
noncomputable def CJ:V->V->Bool
 |.non,.non=>true
 |.bl a,.bl b=>a==b
 |.bl a,.int b=>(if a then 1 else 0)==b
 |.int a,.bl b=>a==(if b then 1 else 0)
 |.int a,.int b=>a==b
 |.str a,.str b=>a==b
 |_,_=>false
theorem Dd{A:Around}{s:Shared}{y x:V}{u v:Value}(ry:RelV y u)(rx:RelV x v)(fy:ip y=true)(fx:ip x=true):SeqAt.EqAt A s u v (CJ y x):=by
 cases y with
 |non=>
  cases ry
  cases x with
  |non=>cases rx;exact SeqAt.EqAt.same _
  |bl b=>cases rx;exact SeqAt.EqAt.none_bool b
  |int b=>obtain⟨t,rfl⟩:=rx;exact SeqAt.EqAt.none_int b t
  |str b=>obtain⟨t,rfl⟩:=rx;exact SeqAt.EqAt.none_str b t
  |_=>exact absurd (show false=true from fx) Bool.false_ne_true
 |bl a=>
  cases ry
  cases x with
  |non=>cases rx;exact SeqAt.EqAt.bool_none a
  |bl b=>cases rx;exact SeqAt.EqAt.bool_bool a b
  |int b=>obtain⟨t,rfl⟩:=rx;exact SeqAt.EqAt.bool_int a b t
  |str b=>obtain⟨t,rfl⟩:=rx;exact SeqAt.EqAt.bool_str a b t
  |_=>exact absurd (show false=true from fx) Bool.false_ne_true
 |int a=>
  obtain⟨t',rfl⟩:=ry
  cases x with
  |non=>cases rx;exact SeqAt.EqAt.int_none a t'
  |bl b=>cases rx;exact SeqAt.EqAt.int_bool a t' b
  |int b=>obtain⟨t,rfl⟩:=rx;exact SeqAt.EqAt.int_int a t' b t
  |str b=>obtain⟨t,rfl⟩:=rx;exact SeqAt.EqAt.int_str a t' b t
  |_=>exact absurd (show false=true from fx) Bool.false_ne_true
 |str a=>
  obtain⟨t',rfl⟩:=ry
  cases x with
  |non=>cases rx;exact SeqAt.EqAt.str_none a t'
  |bl b=>cases rx;exact SeqAt.EqAt.str_bool a t' b
  |int b=>obtain⟨t,rfl⟩:=rx;exact SeqAt.EqAt.str_int a t' b t
  |str b=>obtain⟨t,rfl⟩:=rx;exact SeqAt.EqAt.str_str a t' b t
  |_=>exact absurd (show false=true from fx) Bool.false_ne_true
 |_=>exact absurd (show false=true from fy) Bool.false_ne_true
noncomputable def GI(x:V)(u:Value):Bool:=match u with
 |.none=>CJ .non x
 |.bool b=>CJ (.bl b) x
 |.int i _=>CJ (.int i) x
 |.str z _=>CJ (.str z) x
 |_=>false
theorem De{x y:V}{u:Value}(r:RelV y u)(f:ip y=true):GI x u=CJ y x:=by
 cases y with
 |non=>cases r;rfl
 |bl b=>cases r;rfl
 |int i=>obtain⟨t,rfl⟩:=r;rfl
 |str z=>obtain⟨t,rfl⟩:=r;rfl
 |_=>exact absurd (show false=true from f) Bool.false_ne_true
theorem tP{x:V}:∀{xs:List V} {us:List Value},Vals xs us->xs.all ip=true->us.any (GI x)=xs.any λy=>CJ y x
 |_,_,.nil,_=>rfl
 |y::xs,u::us,.cons r t,f=>by
  rw[List.all_cons,Bool.and_eq_true]at f
  rw[List.any_cons,List.any_cons,De r f.1,tP t f.2]
theorem pK{A:Around}{s:Shared}{x:V}{v:Value}(rx:RelV x v)(fx:ip x=true):∀{xs:List V} {us:List Value},Vals xs us->xs.all ip=true->∀u∈us,SeqAt.EqAt A s u v (GI x u)
 |_,_,.nil,_=>λu hu=>by cases hu
 |y::xs,u::us,.cons r t,f=>λu' hu=>by
  rw[List.all_cons,Bool.and_eq_true]at f
  rcases List.mem_cons.mp hu with rfl|hu
  ·rw[De r f.1];exact Dd r rx f.1 fx
  ·exact pK rx fx t f.2 u' hu
noncomputable def Oo(x:V)(xs:List V):Bool:=xs.any λy=>CJ y x
noncomputable def Pn(K:PySem.W.Frag)(neg:Bool):R2:=λx y H Q=>∃p xs,y=.ref p/\(gc K H p xs\/lM K H p xs)/\ip x=true/\xs.all ip=true/\Q (.bl (if neg then !Oo x xs else Oo x xs)) H
theorem tQ:j6 X (compareOp .NotIn) (Pn X.K true):=by
 intro pins s σ H x y v u Q I rx ry h
 obtain⟨p,xs,rfl,hq,fx,fs,q⟩:=h
 cases ry
 rcases hq with hq|hq
 ·obtain⟨its,r,pl,hz⟩:=I.list hq
  refine SeqAt.notIn_listAt (GI x) pl.isList (λw hw=>pK rx fx r fs w (by simpa using hw)) ⟨.bl _,H,I,rfl,?_⟩
  rw[show its.toArray.any (GI x)=its.any (GI x) by simp,tP r fs]
  exact q
 ·obtain⟨its,r,pl,hz⟩:=I.tuple hq
  refine SeqAt.notIn_tupleAt (GI x) pl (λw hw=>pK rx fx r fs w (by simpa using hw)) ⟨.bl _,H,I,rfl,?_⟩
  rw[show its.toArray.any (GI x)=its.any (GI x) by simp,tP r fs]
  exact q
theorem tR:gY X (.builtin "len") (λxs H Q=>∃p ys,xs=[.ref p]/\(gc X.K H p ys\/lM X.K H p ys)/\Q (.int ys.length) H):=by
 intro pins s σ H xs us Q I r h
 obtain⟨p,ys,rfl,hq,q⟩:=h
 obtain⟨u,rfl,rx⟩:=vals1 r
 cases rx
 have hn:=l0
 rcases hq with hq|hq
 ·obtain⟨its,r',pl,hz⟩:=I.list hq
  have hlen:=r'.length
  exact Calls.call_len_list pl.isList (by simp only[List.size_toArray]<;>omega) ⟨.int ys.length,H,I.tok _,⟨s.toks+1,by rw[List.size_toArray,hlen]⟩,q⟩
 ·obtain⟨its,r',pl,hz⟩:=I.tuple hq
  have hlen:=r'.length
  exact len_tuple pl (by simp only[List.size_toArray]<;>omega) ⟨.int ys.length,H,I.tok _,⟨s.toks+1,by rw[List.size_toArray,hlen]⟩,q⟩
theorem tS:gY X (.builtin "len") (λxs H Q=>∃z,xs=[.str z]/\z.length<=sizeLine/\Q (.int z.length) H):=by
 intro pins s σ H xs us Q I r h
 obtain⟨z,rfl,hz,q⟩:=h
 obtain⟨u,rfl,t,rfl⟩:=vals1 r
 have hn:=l0
 exact len_str (by omega) ⟨.int z.length,H,I.tok _,⟨_,rfl⟩,q⟩
theorem gY.or{f:Value}{r r':List V->Hp->VK->Prop}(h:gY X f r)(h':gY X f r'):gY X f (λxs H Q=>r xs H Q\/r' xs H Q):=by
 intro pins s σ H xs us Q I rs q
 rcases q with q|q
 ·exact h pins s σ H xs us Q I rs q
 ·exact h' pins s σ H xs us Q I rs q
theorem tT:gY X (.type "list") (λxs H Q=>∃p ys,xs=[.ref p]/\(gc X.K H p ys\/lM X.K H p ys)/\∀l,H l=none->Q (.ref l) (upd H l (.lst ys))):=by
 intro pins s σ H xs us Q I r h
 obtain⟨p,ys,rfl,hq,q⟩:=h
 obtain⟨u,rfl,rx⟩:=vals1 r
 cases rx
 have fin:∀(its:List Value),Vals ys its->ys.length<=sizeLine->∀(h':Heap) (c':Nat),(∀b o',s.heap.get? b=some o'->h'.get? b=some o')->
   h'.get? s.heap.objs.size=some {cls:=.type "list",dict:=none,data:=.seq its.toArray c',slots:=#[]}->EP X pins σ Q (.ref s.heap.objs.size) {s with heap:=h'}:=λits r' hz h' c' kp e=>
  ⟨.ref s.heap.objs.size,_,I.laid (t':=s.toks) kp (Nat.le_refl _) (show il X.prog X.w _ h' _ (.lst ys)from⟨hz,its,c',r',e⟩),rfl,q _ (I.d8.fresh (Nat.le_refl _))⟩
 rcases hq with hq|hq
 ·obtain⟨its,r',pl,hz⟩:=I.list hq
  have hlen:=r'.length
  obtain⟨o,ho,hc,n,hd⟩:=pl.isList
  exact call_list_seq p (.inl rfl) ho hc hd (λh' c' kp e=>fin its r' hz h' c' kp e) (by simp only[List.size_toArray]<;>omega)
 ·obtain⟨its,r',pl,hz⟩:=I.tuple hq
  have hlen:=r'.length
  obtain⟨o,ho,hc,n,hd⟩:=pl
  exact call_list_seq p (.inr rfl) ho hc hd (λh' c' kp e=>fin its r' hz h' c' kp e) (by simp only[List.size_toArray]<;>omega)
noncomputable def Po(K:PySem.W.Frag)(T:String)(x:V)(H:Hp):Prop:=match x with
 |.str _=>T= "str"
 |.int _=>T= "int"
 |.ref p=>(T= "list" /\∃xs,gc K H p xs)\/(T= "tuple" /\∃o,K.lookup p=some o/\o.cls=.type "tuple" /\o.dict=none)\/
   (T= "dict" /\((∃vw,H p=some (.dK vw))\/∃vw,H p=some (.dT vw)))\/(T= "set" /\∃S n,H p=some (.set S n))
 |_=>False
theorem Df{pins:List (Addr×Obj)}{σ:St}{H:Hp}{s:Shared}{T:String}{x:V}{v:Value}(I:Inv X pins σ H s)(r:RelV x v)(ty:Po X.K T x H):
  s.TypeIs v T/\∀a,v=.ref a->∃ob,s.heap.get? a=some ob/\ob.dict=none:=by
 cases x with
 |str z=>
  obtain⟨t,rfl⟩:=r
  cases(show T= "str" from ty)
  exact⟨typeIs_str s z t,λ_ e=>nomatch e⟩
 |int i=>
  obtain⟨t,rfl⟩:=r
  cases(show T= "int" from ty)
  exact⟨typeIs_int s i t,λ_ e=>nomatch e⟩
 |ref p=>
  cases r
  rcases ty with⟨rfl,xs,hq⟩|⟨rfl,o,hk,hc,hd⟩|⟨rfl,hk⟩|⟨rfl,S,n,hk⟩
  ·obtain⟨its,_,pl,_⟩:=I.list hq
   refine⟨pl.isList.typeIs,λa e=>?_⟩
   cases e
   obtain⟨o,n,e,c,hd,_⟩:=pl
   exact⟨o,e,hd⟩
  ·refine⟨⟨o,I.pG p o hk,hc⟩,λa e=>?_⟩
   cases e
   exact⟨o,I.pG _ o hk,hd⟩
  ·have z:∃o,s.heap.get? p=some o/\o.ExactDict:=by
     rcases hk with⟨vw,hk⟩|⟨vw,hk⟩
     ·obtain⟨_,_,_,_,o,_,_,e,ex,_⟩:=I.d8 p _ hk
      exact⟨o,e,ex⟩
     ·obtain⟨_,_,_,_,o,_,_,e,ex,_⟩:=I.d8 p _ hk
      exact⟨o,e,ex⟩
   obtain⟨o,e,ex⟩:=z
   refine⟨⟨o,e,ex.1⟩,λa e2=>?_⟩
   cases e2
   exact⟨o,e,ex.2.1⟩
  ·obtain⟨o,_,_,_,e,ex,_⟩:=I.d8 p _ hk
   refine⟨⟨o,e,ex.1⟩,λa e2=>?_⟩
   cases e2
   exact⟨o,e,ex.2.1⟩
 |_=>exact False.elim ty
noncomputable def Pp(K:PySem.W.Frag)(T:String)(r:V->List V->Hp->VK->Prop)(to:TE):TE:=λσ H Q=>to σ H λx H1=>Po K T x H1/\r x [] H1 Q
noncomputable def Q7(K:PySem.W.Frag)(T:String)(r:V->List V->Hp->VK->Prop)(to:TE)(t:TA):TE:=λσ H Q=>to σ H λx H1=>Po K T x H1/\t σ H1 λxs H2=>r x xs H2 Q
variable{o e:Expr}{es:List Expr}{to:TE}{t:TA}{name:Str}{apos df:Pos}{T id:String}{r:V->List V->Hp->VK->Prop}
theorem Dg(pa:PlainAttrs T)(slot:Slot T name id)(Pq:typeOf (.builtin id)=pure (.type "method_descriptor"))(hm:Om X id r)(ho:PE X o to)
  (fG:attributeBase o name X.env (eval o X.env)=eval o X.env:=by rfl)(fH:(apos.endLine==df.line)=true:=by rfl):PE X (.Call (.Attribute o name apos) [] [] df) (Pp X.K T r to):=by
 intro pins s σ H Q I h
 refine wpAny_Call_method0_late fG fH (dS (ho pins s σ H _ I h) λv s1 cy=>?_)
 obtain⟨x,H1,I1,r1,ty,q1⟩:=cy
 obtain⟨h1,h2⟩:=Df I1 r1 ty
 exact⟨T,id,pa,slot,Pq,h1,h2,Calls.callWith_builtin rfl (PySem.evalArgs_none (hm pins s1 σ H1 x [] v [] Q I1 r1 .nil q1))⟩
theorem zA(pa:PlainAttrs T)(slot:Slot T name id)(Pq:typeOf (.builtin id)=pure (.type "method_descriptor"))(hm:Om X id r)(ho:PE X o to)(ha:PA X (e::es) t)
  (fG:attributeBase o name X.env (eval o X.env)=eval o X.env:=by rfl)
  (nX:((backTo df (starEach (e::es) X.env)).all (λx=>!x.1)&&(backToKw df (keywordEach [] X.env)).all (λx=>x.1.isSome)
    &&decide ((e::es).length+([]:List Keyword).length+(if([]:List Keyword).isEmpty then 0 else 1)<30))=true:=by rfl)
  (fH:(apos.endLine==df.line)=true:=by rfl)(hs:starEach (e::es) X.env=(false,eval e X.env)::starEach es X.env:=by rfl)(Ka:(backTo df (starEach es X.env)).any (·.1)=false:=by rfl):
  PE X (.Call (.Attribute o name apos) (e::es) [] df) (Q7 X.K T r to t):=by
 intro pins s σ H Q I h
 refine wpAny_Call_method_late fG nX fH rfl (dS (ho pins s σ H _ I h) λv s1 cy=>?_)
 obtain⟨x,H1,I1,r1,ty,q1⟩:=cy
 obtain⟨h1,h2⟩:=Df I1 r1 ty
 refine⟨T,id,pa,slot,Pq,h1,h2,?_⟩
 have hA:=ha df pins s1 σ H1 _ I1 q1
 rw[hs]at hA⊢
 refine Calls.callWith_builtin (by show(false||(backTo df (starEach es X.env)).any (·.1))=false;rw[Ka]<;>rfl) (Calls.evalArgs_plain ?_)
 exact dS hA λus s2 ⟨vs,H2,I2,r2,q2⟩=>hm pins s2 σ H2 x vs v us Q I2 r1 r2 q2
end
noncomputable def Pr(X:Cx)(id:String)(r:V->List V->Hp->VK->Prop):Prop:=
 ∀(pins:List (Addr×Obj)) (s:Shared) (σ:St) (H:Hp) (x:V) (xs:List V) (v:Value) (us:List Value) (Q:VK),Inv X pins σ H s->RelV x v->Vals xs us->r x xs H Q->
  wpAny (model X.prog X.w) X.A (call (.builtin id) (v::us)) (EP X pins σ Q) X.xe s
theorem Vals.one{x:V}{us:List Value}(h:Vals [x] us):∃u,us=[u]/\RelV x u:=by
 cases h with
 |cons r t=>
  cases t
  exact⟨_,rfl,r⟩
theorem Vals.two{x y:V}{us:List Value}(h:Vals [x,y] us):∃u v,us=[u,v]/\RelV x u/\RelV y v:=by
 cases h with
 |cons r t=>
  cases t with
  |cons q t=>
   cases t
   exact⟨_,_,rfl,r,q⟩
theorem Vals.zero:∀{us:List Value},Vals [] us->us=[]
 |_,.nil=>rfl
section
variable{X:Cx}{pins:List (Addr×Obj)}{σ:St}{H:Hp}{s:Shared}{l b:Addr}{xs ys zs:List V}
theorem Inv.Kb{its its':List Value}{n:Nat}{f:Array Value->Array Value}{t':Nat}(I:Inv X pins σ H s)(hH:H l=some (.lst xs))
  (e:s.heap.get? l=some {cls:=.type "list",data:=.seq its.toArray n})(hf:f its.toArray=its'.toArray)(hv:Vals ys its')(hz:ys.length<=sizeLine):
  Inv X pins σ (upd H l (.lst ys)) {s with heap:=s.heap.update l (Obj.mapSeq f),toks:=t'}:=by
 have q:=PySem.IsL.update e f
 rw[hf]at q
 refine I.write (x:=l) (e:=l) (by rw[hH];exact trivial) (.inl rfl) (λb' u hb hu=>(Heap.get?_update_other s.heap (Obj.mapSeq f) (Ne.symm hb)).trans hu) ⟨_,q⟩ ?_
 exact⟨hz,its',_,hv,q⟩
theorem Inv.Pt{its:List Value}{t':Nat}(I:Inv X pins σ H s)(hv:Vals ys its)(hz:ys.length<=sizeLine):
  Inv X pins σ (upd H s.heap.objs.size (.lst ys)) {s with heap:=s.heap.push {cls:=.type "list",data:=.seq its.toArray},toks:=t'}:=
 I.laid (λ_ _ q=>Heap.get?_push_of_some _ q) (Nat.le_refl _) ⟨hz,its,0,hv,Heap.get?_push_size _ rfl⟩
theorem Inv.fresh(I:Inv X pins σ H s):H s.heap.objs.size=none:=I.d8.fresh (Nat.le_refl _)
theorem Inv.Kc(I:Inv X pins σ H s)(hH:H l=some (.lst xs)):xs.length<=sizeLine/\∃(its:List Value) (n:Nat),Vals xs its/\xs.length=its.length/\s.heap.get? l=some {cls:=.type "list",data:=.seq its.toArray n}:=by
 obtain⟨z,its,n,r,e⟩:=I.d8 l _ hH
 exact⟨z,its,n,r,r.length,e⟩
end
section
variable{X:Cx}
noncomputable def GJ:V->List V->Hp->VK->Prop:=λx vs H Q=>∃l xs y,x=.ref l/\vs=[y]/\H l=some (.lst xs)/\xs.length<sizeLine/\Q .non (upd H l (.lst (xs++[y])))
theorem nY:Pr X "list.append" GJ:=by
 intro pins s σ H x vs v us Q I rx rv h
 obtain⟨l,xs,y,rfl,rfl,hH,hz,q⟩:=h
 cases rx
 obtain⟨u,rfl,ru⟩:=rv.one
 obtain⟨z,its,n,r,hl,e⟩:=I.Kc hH
 refine call_meets F.slot_list_append ⟨_,e,rfl⟩ F.entry_list_append (F.args_list_append_2 _ _) (PySem.list_append l its.toArray n u (by rw[List.size_toArray];omega)) ⟨e,?_⟩
 refine⟨.non,_,I.Kb (its':=its++[u]) hH e (by simp) (r.append (.cons ru .nil)) ?_,rfl,q⟩
 rw[List.length_append,List.length_singleton]
 omega
noncomputable def Kd:V->List V->Hp->VK->Prop:=λx vs H Q=>∃l xs,x=.ref l/\vs=[]/\H l=some (.lst xs)/\Q .non (upd H l (.lst []))
theorem Dh:Pr X "list.clear" Kd:=by
 intro pins s σ H x vs v us Q I rx rv h
 obtain⟨l,xs,rfl,rfl,hH,q⟩:=h
 cases rx
 have Sj:=rv.zero
 subst Sj
 obtain⟨z,its,n,r,hl,e⟩:=I.Kc hH
 refine call_meets F.slot_list_clear ⟨_,e,rfl⟩ F.entry_list_clear (F.args_list_clear_1 _) (AutoSeq1.list_clear_list_0 l its.toArray n (by rw[List.size_toArray];omega)) ⟨e,?_⟩
 exact⟨.non,_,I.Kb (its':=[]) (ys:=[]) hH e rfl .nil (Nat.zero_le _),rfl,q⟩
end
end L2
namespace Att
open PySem PySem.W PySem.Calls PyProof.Rows
theorem oZ{P:Params}{h:Heap}:∀(ns:List Int) (vs:List Value),WellAll P h vs (ns.map WData.int)->IntsAre vs ns:=by
 intro ns
 induction ns with
 |nil=>
  intro vs w
  rw[List.map_nil]at w
  cases w
  exact .nil
 |cons n ns ih=>
  intro vs w
  rw[List.map_cons]at w
  cases w with
  |cons a b=>
   cases a
   exact .cons _ _ (ih _ b)
theorem Ba{l:OpenLaw}{n:Nat}(hn:l.most=some n){P:Params}{h:Heap}{args:List WData}{vals:List Value}
  (GK:l.row.toRowW.claim.pre args=true)(Pu:WellAll P h vals args):
  ∃a vs ns,vals=[Value.ref a]/\args=[WData.list (ns.map WData.int)]/\h.get? a=some {cls:=.type "list",data:=.seq vs.toArray}/\IntsAre vs ns/\ns.length<=n:=by
 have Pw:WShape.hasAll [] args [.list .int]=true:=(pre_splitW GK).1
 have hc:l.pre.holds [] {args:=args}=true:=(pre_splitW GK).2
 obtain⟨d,r,rfl,h1,h2⟩:=hasAllW_cons Pw
 obtain rfl:=hasAllW_nil h2
 obtain⟨xs,rfl,h3⟩:=hasW_list h1
 obtain⟨ns,rfl⟩:=items_int h3
 have hlen:ns.length<=n:=by
  unfold OpenLaw.pre at hc
  have h4:(WTm.not (.lt (.lit (.int (n:Int))) (.len (.arg 0)))).holds [] {args:=[.list (ns.map .int)]}=true:=by
   have h4:=(holds_andW hc).1
   rw[hn]at h4
   exact h4
  have h5:=condW_of h4 (w_not (w_lt w_lit (w_len_list (w_arg rfl))))
  rw[List.length_map]at h5
  refine Nat.le_of_not_lt λq=>?_
  have q':(n:Int)<((ns.length:Nat):Int):=by omega
  first
   |(rw[decide_eq_true q']at h5;exact absurd h5 (by decide))
   |(simp at h5;omega)
 cases Pu with
 |cons w1 w2=>
  cases w2
  cases w1 with
  |list ho tU=>exact⟨_,_,ns,rfl,rfl,ho,oZ ns _ tU,hlen⟩
theorem Bb(l:OpenLaw)(args:List WData):l.row.toRowW.claim.post args (.bool true) args=true:=
 postW_of (r:=l.row.toRowW) (X:=(true==true))
  (show WShape.has [] (.bool true) .bool=true by first|rfl|decide|simp[WShape.has,WShape.arms,WShape.armsAll])
  (show(WTm.eq .res (.lit (.bool true))).value [] {args:=args,res:=some (.bool true),after:=args}=some (.bool (true==true))from w_eq_bool (w_res rfl) w_lit) rfl
theorem vC{l:OpenLaw}{n:Nat}{q:Program}{loose:List Str}{XP:(Str->Option Value)->Heap->Prop}{YP:World->Heap->Prop}{d:DefRec}
  (hn:l.most=some n)(Px:d.params.defaults=[])
  (call:∀(w:World) (s₀ s₁:Shared) (mg mb:Str->Option Value) (fa:Addr) (o:Obj) (pm cd doc:Value) (a:Addr) (vs:List Value) (ns:List Int),
    Ground q loose [] XP w s₀ mg mb s₁.heap->YP w s₁.heap->
    s₁.heap.get? fa=some o->o.data=.func (docDef d.name d.params d.body d.scope pm cd doc)->s₁.heap.CodeRec cd d.name->mg d.name=some (.ref fa)->
    s₁.heap.get? a=some {cls:=.type "list",data:=.seq vs.toArray}->IntsAre vs ns->ns.length<=n->s₁.gens=#[]->
    codeAny (model l.prog w) callerA (.call (.ref fa) ⟨[.ref a],[]⟩) (λr s'=>r=.ok (.ret (.bool true))/\OldK s₁.heap s'.heap/\s'.os=s₁.os/\AllBare s'.gens) s₁):
  WalkO q loose XP YP l.row.toRowW d [] (λf vs=>PySem.call f vs):=by
 intro w s₀ s₁ mg mb G Y fa o pm cd doc dV kV ho hd oW hD M4 hg args vals as GK Sk T5 Pu T6
 obtain rfl:dV=.none:=Dflts.none hD Px
 obtain rfl:kV=.none:=Dflts.noKw hD
 obtain⟨a,vs,ns,rfl,rfl,Ke,hints,hlen⟩:=Ba hn GK Pu
 refine enter_call (codeAny_mono (call w s₀ s₁ mg mb fa o pm cd doc a vs ns G Y ho (fd_plain hd) oW M4 Ke hints hlen hg) λr s' hq=>?_)
 obtain⟨rfl,h2,h3,h4⟩:=hq
 exact⟨.inl ⟨.bool true,.bool true,[],rfl,λ_=>rfl,.bool true,Bb l _,λ_=>⟨List.Pairwise.nil,λ_ hm=>(nomatch hm)⟩⟩,h2,h3,h4⟩
end Att
namespace L2
open PySem PySem.Spec PyProof.Rows
theorem nZ:∀{vs:List Value} {ns:List Int},IntsAre vs ns->Vals (ns.map V.int) vs
 |_,_,.nil=>.nil
 |_,_,.cons n t h=>.cons ⟨t,rfl⟩ (nZ h)
noncomputable def M5(H:Hp):Prop:=∀b,H b=none\/∃o xs,H b=some (.frz o (.lst xs))
noncomputable def gD(s:Stmt):Arguments:=match s with
 |.FunctionDef _ a _ _ _ _ _ _ _ _=>a
 |_=>{posonlyargs:=[],args:=[],vararg:=none,kwonlyargs:=[],kw_defaults:=[],kwarg:=none,defaults:=[]}
noncomputable def cz(s:Stmt):List Stmt:=match s with
 |.FunctionDef _ _ b _ _ _ _ _ _ _=>b
 |_=>[]
noncomputable def aj(s:Stmt):Scope:=match s with
 |.FunctionDef _ _ _ _ _ _ sc _ _ _=>sc
 |_=>{kind:=.function,names:=[],isGenerator:=false,isCoroutine:=false}
noncomputable abbrev iK:CI:=λ_ _ _ _ _ _=>False
noncomputable abbrev E0:XK:=λ_ _ _=>False
theorem kc{X:Cx}:Passes iK X E0:=λ_ _ _ _ _ _ _ h=>h.elim
structure vD(K:PySem.W.Frag)(x qual:Str)(st:Stmt)(f:Addr)(fd:FuncData):Prop where
 ex:∃(oc:Value) (od:Option Addr) (kV doc pm:Value) (an:Option Addr) (eU ct:Value) (IK:Array (Option Value)),
  fd=PySem.W.fnOf x qual (gD st) (cz st) (aj st) .none kV doc pm an eU ct/\K.lookup f=some ⟨oc,od,.func fd,IK⟩/\PySem.W.codeIn K eU qual=true
 kp:PySem.W.keepIn K (.ref f)=true
section
variable{P:Program}{w:World}{K:PySem.W.Frag}{mg:Str->Option Value}{base:Heap}
theorem vD.ok{x qual:Str}{st:Stmt}{f:Addr}{fd:FuncData}{N ps:List Str}{k:Nat}{sp:Sp}(F:vD K x qual st f fd)(S:eI N ps (aj st))(len:∀vs H Q E,sp vs H Q E->vs.length=ps.length)
  (C7:∀(eU:Value) (A:Around) (outer:List Env) (s:Shared) (H:Hp) (vs:List V) (Q:VK) (E:XK),ck k (A.deeper (envOfC qual (aj st) s.heap.objs.size f eU))->sp vs H Q E->
    ∃t,tG (lN iK P w K mg base N qual (aj st) f eU A outer s H E).zm (cz st) t/\t {nx:=λ_ H'=>Q .non H',rt:=Q} (start N vs) H):cM P w K mg base iK (k+1) f fd ps sp:=by
 obtain⟨oc,od,kV,doc,pm,an,eU,ct,IK,rfl,lk,oW⟩:=F.ex
 refine MV lk oW S len λA outer s H vs Q E hr IL=>?_
 obtain⟨t,h,q⟩:=C7 eU A outer s H vs Q E hr IL
 exact⟨t,h.zm,q⟩
theorem vD.binds{x qual:Str}{st:Stmt}{f:Addr}{fd:FuncData}{ps:List Str}(F:vD K x qual st f fd)
  (h:∀(kV doc pm:Value) (an:Option Addr) (eU ct:Value) (us:List Value),us.length=ps.length->bindArgs (PySem.W.fnOf x qual (gD st) (cz st) (aj st) .none kV doc pm an eU ct) ⟨us,[]⟩=pure (ps.zip us)):Binds K fd ps []:=by
 obtain⟨oc,od,kV,doc,pm,an,eU,ct,IK,rfl,lk,oW⟩:=F.ex
 exact .all (h kV doc pm an eU ct)
theorem Di{x qual:Str}{st:Stmt}{f:Addr}{oc:Value}{od an:Option Addr}{IK:Array (Option Value)}{kV doc pm eU ct:Value}(l:K.lookup f=some ⟨oc,od,.func (PySem.W.fnOf x qual (gD st) (cz st) (aj st) .none kV doc pm an eU ct),IK⟩)
 (c:PySem.W.codeIn K eU qual=true)(k:PySem.W.keepIn K (.ref f)=true):vD K x qual st f (PySem.W.fnOf x qual (gD st) (cz st) (aj st) .none kV doc pm an eU ct):=⟨⟨oc,od,kV,doc,pm,an,eU,ct,IK,rfl,l,c⟩,k⟩
end
noncomputable def aH(H H':Hp):Prop:=∀b o,H b=some o->H' b=some o
theorem aH.refl(H:Hp):aH H H:=λ_ _ h=>h
theorem aH.trans{H H1 H2:Hp}(a:aH H H1)(b:aH H1 H2):aH H H2:=λc o h=>b c o (a c o h)
theorem aH.free{H H':Hp}(e:aH H H'){l:Addr}(h:H' l=Option.none):H l=Option.none:=by
 cases q:H l with
 |none=>rfl
 |some o=>
  rw[e l o q]at h
  cases h
end L2
namespace TS
open PySem PyProof.Rows
noncomputable def vE(prog:Program)(w:World)(A:Around)(E:Value->Shared->Prop)(s:Shared)(kd:SortKind)(G:Keyed->Prop)(rk:Keyed->Nat):Prop:=
 ∀(p q:Keyed) (st:SortSt) (Q:Option Bool->SortSt->Prop),kindOf st=kd->G p->G q->Q (some (decide (rk p<rk q))) st->wpS (model prog w) A E s (lt' p q) Q st
noncomputable def R(rk:Keyed->Nat)(xs:Array Keyed)(i:Nat):Nat:=match xs[i]? with
 |some p=>rk p
 |none=>0
noncomputable def Gd(G:Keyed->Prop)(xs:Array Keyed):Prop:=∀p∈xs.toList,G p
theorem Gd.at{G:Keyed->Prop}{rk:Keyed->Nat}{xs:Array Keyed}(h:Gd G xs){i:Nat}(hi:i<xs.size):∃p,xs[i]?=some p/\G p/\R rk xs i=rk p:=by
 refine⟨xs[i],getElem?_pos xs i hi,h _ (by simp),?_⟩
 unfold R
 rw[getElem?_pos xs i hi]
theorem xY{rk:Keyed->Nat}{xs:Array Keyed}{i:Nat}{p:Keyed}(h:xs[i]?=some p):R rk xs i=rk p:=by
 unfold R
 rw[h]
noncomputable def jE(rk:Keyed->Nat)(left:Bool)(key:Keyed)(xs:Array Keyed)(base i:Nat):Bool:=
 if left then decide (R rk xs (base+i)<rk key)else !decide (rk key<R rk xs (base+i))
noncomputable def mN:Bool->Keyed->Array Keyed->Nat->Nat->Nat->StateT SortSt Sem (Option Nat):=sortPriv% PySem.Builtin.gallop
noncomputable def Dj:Array Keyed->Array Keyed->StateT SortSt Sem (Array Keyed):=sortPriv% PySem.Builtin.mergeLo
noncomputable def Dk:Array Keyed->Array Keyed->StateT SortSt Sem (Array Keyed):=sortPriv% PySem.Builtin.mergeHi
noncomputable def mO:Nat->StateT SortSt Sem Unit:=sortPriv% PySem.Builtin.setMinGallop
section
variable{prog:Program}{w:World}{A:Around}{E:Value->Shared->Prop}{s:Shared}{kd:SortKind}{G:Keyed->Prop}{rk:Keyed->Nat}
theorem cm{xs:Array Keyed}{i:Nat}{p:Keyed}{Q:Keyed->SortSt->Prop}{st:SortSt}{M:Model}(h:xs[i]?=some p)(q:Q p st):wpS M A E s (elem' xs i) Q st:=by
 rw[elem'_eq,h]
 exact wpS_pure q
theorem pL(C:vE prog w A E s kd G rk){left:Bool}{key:Keyed}{xs:Array Keyed}{base i:Nat}{st:SortSt}{Q:Option Bool->SortSt->Prop}(hk:kindOf st=kd)(hG:Gd G xs)(rG:G key)(hi:base+i<xs.size)
  (q:Q (some (jE rk left key xs base i)) st):wpS (model prog w) A E s (elem' xs (base+i)>>=λx=>if left=true then lt' x key else lt' key x>>=λr=>pure (Option.map (λb=>!b) r)) Q st:=by
 obtain⟨p,e,g,r⟩:=hG.at (rk:=rk) hi
 refine wpS_bind (cm e ?_)
 unfold jE at q
 rw[r]at q
 cases left with
 |true=>
  rw[if_pos rfl]at q⊢
  exact C p key st Q hk g rG q
 |false=>
  rw[if_neg (by decide)]at q⊢
  exact wpS_bind (C key p st _ hk rG g (wpS_pure q))
theorem vF{M:Model}{n:Nat}{f:Nat->Option (Option Nat)×Nat×Nat->StateT SortSt Sem (ForInStep (Option (Option Nat)×Nat×Nat))}{p:Nat->Bool}{st:SortSt}{Q:Option (Option Nat)×Nat×Nat->SortSt->Prop}
  (hs:∀(x lo hi:Nat) Q',lo<hi->hi<=n->Q' (ForInStep.yield (none,if p (lo+(hi-lo)/2)=true then lo+(hi-lo)/2+1 else lo,if p (lo+(hi-lo)/2)=true then hi else lo+(hi-lo)/2)) st->wpS M A E s (f x (none,lo,hi)) Q' st)
  (hd:∀(x lo hi:Nat) Q',hi<=lo->Q' (ForInStep.done (none,lo,hi)) st->wpS M A E s (f x (none,lo,hi)) Q' st)
  (mono:∀i j,i<=j->j<n->p j=true->p i=true){lo hi:Nat}(h1:lo<=hi)(h2:hi<=n)(h3:∀i,i<lo->p i=true)(h4:∀i,hi<=i->i<n->p i=false)
  (q:∀k,k<=n->(∀i,i<k->p i=true)->(∀i,k<=i->i<n->p i=false)->Q (none,k,k) st):wpS M A E s (forIn [:n] (none,lo,hi) f) Q st:=by
 refine wpS_forRange (I:=λx c a9=>a9=st/\∃l h,c=(none,l,h)/\l<=h/\h<=n/\h-l<=n-x/\(∀i,i<l->p i=true)/\∀i,h<=i->i<n->p i=false) ?_ ?_ ⟨rfl,lo,hi,rfl,h1,h2,by omega,h3,h4⟩
 ·rintro x c a9-hx ⟨rfl,l,h,rfl,a1,a2,a3,a4,a5⟩
  by_cases fF:l<h
  ·refine hs x l h _ fF a2 ?_
   have hm:l+(h-l)/2<h:=by omega
   cases e:p (l+(h-l)/2)with
   |true=>
    refine⟨rfl,l+(h-l)/2+1,h,by simp,by omega,a2,by omega,λi hi=>?_,a5⟩
    exact mono i (l+(h-l)/2) (by omega) (by omega) e
   |false=>
    refine⟨rfl,l,l+(h-l)/2,by simp,by omega,by omega,by omega,a4,λi b1 b2=>?_⟩
    cases e2:p i with
    |false=>rfl
    |true=>
     rw[mono _ i b1 b2 e2]at e
     cases e
  ·refine hd x l h _ (by omega) ?_
   obtain rfl:l=h:=by omega
   exact q l a2 a4 a5
 ·rintro c a9 ⟨rfl,l,h,rfl,a1,a2,a3,a4,a5⟩
  obtain rfl:l=h:=by omega
  exact q l a2 a4 a5
theorem vG{M:Model}{n mx:Nat}{f:Nat->Option (Option Nat)×Nat×Nat->StateT SortSt Sem (ForInStep (Option (Option Nat)×Nat×Nat))}{g:Nat->Bool}{st:SortSt}{Q:Option (Option Nat)×Nat×Nat->SortSt->Prop}(h1:1<=mx)(hn:mx<=n)
  (hd:∀(x l o:Nat) Q',mx<=o->Q' (ForInStep.done (none,l,o)) st->wpS M A E s (f x (none,l,o)) Q' st)
  (hs:∀(x l o:Nat) Q',o<mx->Q' (if g o=true then ForInStep.yield (none,o,2*o+1)else ForInStep.done (none,l,o)) st->wpS M A E s (f x (none,l,o)) Q' st)
  (q:∀l o,l<o->l<mx->(l=0\/g l=true)->(mx<=o\/(o<mx/\g o=false))->Q (none,l,o) st):wpS M A E s (forIn [:n] (none,0,1) f) Q st:=by
 refine wpS_forRange (I:=λx c a9=>a9=st/\∃l o,c=(none,l,o)/\l<o/\l<mx/\x+1<=o/\(l=0\/g l=true)) ?_ ?_ ⟨rfl,0,1,rfl,by omega,by omega,by omega,.inl rfl⟩
 ·rintro x c a9-hx ⟨rfl,l,o,rfl,a1,a2,a3,a4⟩
  by_cases fF:o<mx
  ·refine hs x l o _ fF ?_
   cases e:g o with
   |true=>exact⟨rfl,o,2*o+1,rfl,by omega,fF,by omega,.inr e⟩
   |false=>exact q l o a1 a2 a4 (.inr ⟨fF,e⟩)
  ·exact hd x l o _ (by omega) (q l o a1 a2 a4 (.inl (by omega)))
 ·rintro c a9 ⟨rfl,l,o,rfl,a1,a2,a3,a4⟩
  exact q l o a1 a2 a4 (.inl (by omega))
theorem ie(C:vE prog w A E s kd G rk){left:Bool}{key:Keyed}{xs:Array Keyed}{base n hint:Nat}{st:SortSt}{Q:Option Nat->SortSt->Prop}(hk:kindOf st=kd)(hG:Gd G xs)(rG:G key)(hb:base+n<=xs.size)(hh:hint<n)
  (mono:∀i j,i<=j->j<n->jE rk left key xs base j=true->jE rk left key xs base i=true)
  (q:∀k,k<=n->(∀i,i<k->jE rk left key xs base i=true)->(∀i,k<=i->i<n->jE rk left key xs base i=false)->Q (some k) st):wpS (model prog w) A E s (mN left key xs base n hint) Q st:=by
 have Dl:∀i j,i<=j->j<n->jE rk left key xs base i=false->jE rk left key xs base j=false:=λi j h1 h2 h3=>by
  cases e:jE rk left key xs base j with
  |false=>rfl
  |true=>
   rw[mono i j h1 h2 e]at h3
   cases h3
 refine wpS_bind (pL C hk hG rG (by omega) ?_)
 cases e0:jE rk left key xs base hint with
 |true=>
  refine wpS_bind (vG (n:=n) (mx:=n-hint) (g:=λo=>jE rk left key xs base (hint+o)) (by omega) (by omega) (λx l o Q' ho q'=>?_) (λx l o Q' ho q'=>?_) λl o a1 a2 a3 a4=>?_)
  ·dsimp only
   rw[if_pos ho]
   exact wpS_pure q'
  ·dsimp only
   rw[if_neg (by omega)]
   refine wpS_bind (pL C hk hG rG (by omega) ?_)
   cases e:jE rk left key xs base (hint+o)with
   |true=>
    rw[e]at q'
    exact wpS_pure q'
   |false=>
    rw[e]at q'
    exact wpS_pure q'
  ·refine wpS_bind (vF (p:=λi=>jE rk left key xs base i) (λx lo hi Q' b1 b2 q'=>?_) (λx lo hi Q' b1 q'=>?_) mono (lo:=hint+l+1) (hi:=hint+min o (n-hint)) (by omega) (by omega) (λi hi=>?_) (λi b1 b2=>?_) λk c1 c2 c3=>?_)
   ·dsimp only
    rw[if_neg (by omega)]
    refine wpS_bind (pL C hk hG rG (by omega) ?_)
    cases e:jE rk left key xs base (lo+(hi-lo)/2)with
    |true=>
     rw[e]at q'
     exact wpS_pure q'
    |false=>
     rw[e]at q'
     exact wpS_pure q'
   ·dsimp only
    rw[if_pos b1]
    exact wpS_pure q'
   ·rcases a3 with a3|a3
    ·exact mono i hint (by omega) hh e0
    ·exact mono i (hint+l) (by omega) (by omega) a3
   ·rcases a4 with a4|⟨a4,a5⟩
    ·omega
    ·exact Dl (hint+o) i (by omega) b2 a5
   ·exact wpS_pure (q k c1 c2 c3)
 |false=>
  refine wpS_bind (vG (n:=n) (mx:=hint+1) (g:=λo=>!jE rk left key xs base (hint-o)) (by omega) (by omega) (λx l o Q' ho q'=>?_) (λx l o Q' ho q'=>?_) λl o a1 a2 a3 a4=>?_)
  ·dsimp only
   rw[if_pos ho]
   exact wpS_pure q'
  ·dsimp only
   rw[if_neg (by omega)]
   refine wpS_bind (pL C hk hG rG (by omega) ?_)
   cases e:jE rk left key xs base (hint-o)with
   |true=>
    rw[e]at q'
    exact wpS_pure q'
   |false=>
    rw[e]at q'
    exact wpS_pure q'
  ·refine wpS_bind (vF (p:=λi=>jE rk left key xs base i) (λx lo hi Q' b1 b2 q'=>?_) (λx lo hi Q' b1 q'=>?_) mono (lo:=hint+1-min o (hint+1)) (hi:=hint-l) (by omega) (by omega) (λi hi=>?_) (λi b1 b2=>?_) λk c1 c2 c3=>?_)
   ·dsimp only
    rw[if_neg (by omega)]
    refine wpS_bind (pL C hk hG rG (by omega) ?_)
    cases e:jE rk left key xs base (lo+(hi-lo)/2)with
    |true=>
     rw[e]at q'
     exact wpS_pure q'
    |false=>
     rw[e]at q'
     exact wpS_pure q'
   ·dsimp only
    rw[if_pos b1]
    exact wpS_pure q'
   ·rcases a4 with a4|⟨a4,a5⟩
    ·omega
    ·refine mono i (hint-o) (by omega) (by omega) ?_
     simpa using a5
   ·rcases a3 with a3|a3
    ·exact Dl hint i (by omega) b2 e0
    ·exact Dl (hint-l) i (by omega) b2 (by simpa using a3)
   ·exact wpS_pure (q k c1 c2 c3)
end
noncomputable def Sd(rk:Keyed->Nat)(l:List Keyed):Prop:=l.Pairwise λp q=>rk p<=rk q
theorem Sd.sub{rk:Keyed->Nat}{l m:List Keyed}(h:Sd rk m)(hs:l.Sublist m):Sd rk l:=List.Pairwise.sublist hs h
theorem Sd.left{rk:Keyed->Nat}{l m:List Keyed}(h:Sd rk (l++m)):Sd rk l:=h.sub (List.sublist_append_left _ _)
theorem Sd.right{rk:Keyed->Nat}{l m:List Keyed}(h:Sd rk (l++m)):Sd rk m:=h.sub (List.sublist_append_right _ _)
theorem Sd.sr{rk:Keyed->Nat}{l m:List Keyed}(h:Sd rk (l++m)):∀x∈l,∀y∈m,rk x<=rk y:=(List.pairwise_append.mp h).2.2
theorem Sd.app{rk:Keyed->Nat}{l m:List Keyed}(h1:Sd rk l)(h2:Sd rk m)(h3:∀x∈l,∀y∈m,rk x<=rk y):Sd rk (l++m):=List.pairwise_append.mpr ⟨h1,h2,h3⟩
theorem Sd.nil{rk:Keyed->Nat}:Sd rk []:=List.Pairwise.nil
theorem Sd.one{rk:Keyed->Nat}(p:Keyed):Sd rk [p]:=List.pairwise_singleton _ _
theorem tW{rk:Keyed->Nat}{xs:Array Keyed}{i:Nat}{p:Keyed}(h:xs.toList[i]?=some p):R rk xs i=rk p:=xY (by simpa using h)
theorem dg{xs:Array Keyed}{i:Nat}(h:i<xs.size):∃p,xs.toList[i]?=some p/\xs[i]?=some p/\p∈xs.toList:=⟨xs[i],by simp[h],by simp[h],by simp⟩
theorem eJ{l:List Keyed}{x:Keyed}{i k:Nat}(h:x∈(l.drop i).take k):∃j,j<k/\l[i+j]?=some x:=by
 obtain⟨j,hj,e⟩:=List.mem_iff_getElem.mp h
 rw[List.getElem_take,List.getElem_drop]at e
 rw[List.length_take,List.length_drop]at hj
 exact⟨j,by omega,List.getElem?_eq_some_iff.mpr ⟨by omega,e⟩⟩
theorem ji{l:List Keyed}{x:Keyed}{i:Nat}(h:x∈l.drop i):∃j,l[i+j]?=some x:=by
 obtain⟨j,hj,e⟩:=List.mem_iff_getElem.mp h
 rw[List.getElem_drop]at e
 rw[List.length_drop]at hj
 exact⟨j,List.getElem?_eq_some_iff.mpr ⟨by omega,e⟩⟩
theorem pM{l:List Keyed}{x:Keyed}{i:Nat}(h:x∈l.take i):∃j,j<i/\l[j]?=some x:=by
 have h':x∈(l.drop 0).take i:=by simpa using h
 simpa using eJ h'
theorem pN{rk:Keyed->Nat}{l:List Keyed}(h:Sd rk l){i j:Nat}{p q:Keyed}(CK:i<=j)(hp:l[i]?=some p)(hq:l[j]?=some q):rk p<=rk q:=by
 obtain⟨h1,e1⟩:=List.getElem?_eq_some_iff.mp hp
 obtain⟨h2,e2⟩:=List.getElem?_eq_some_iff.mp hq
 rcases Nat.lt_or_ge i j with hl|hl
 ·have:=List.pairwise_iff_getElem.mp h i j h1 h2 hl
  rw[e1,e2]at this
  exact this
 ·obtain rfl:i=j:=by omega
  rw[hp]at hq
  cases hq
  exact Nat.le_refl _
theorem pd{rk:Keyed->Nat}{l:List Keyed}{b:Nat}(h:Sd rk (l.drop b)){i j:Nat}{p q:Keyed}(CK:i<=j)(hp:l[b+i]?=some p)(hq:l[b+j]?=some q):rk p<=rk q:=
 pN h CK (by simpa using hp) (by simpa using hq)
theorem zB{rk:Keyed->Nat}{l:List Keyed}{b:Nat}(h:Sd rk (l.take b)){i j:Nat}{p q:Keyed}(CK:i<=j)(hj:j<b)(hp:l[i]?=some p)(hq:l[j]?=some q):rk p<=rk q:=
 pN h CK (by rw[List.getElem?_take,if_pos (by omega)];exact hp) (by rw[List.getElem?_take,if_pos (by omega)];exact hq)
structure ML(rk:Keyed->Nat)(la lb o:List Keyed)(ia ib:Nat):Prop where
 pm:o.Perm (la.take ia++lb.take ib)
 sa:Sd rk (o++la.drop ia)
 sb:Sd rk (o++lb.drop ib)
theorem ML.ga{rk:Keyed->Nat}{la lb o:List Keyed}{ia ib:Nat}(m:ML rk la lb o ia ib)(k:Nat)(h:∀x∈(la.drop ia).take k,∀y∈lb.drop ib,rk x<=rk y):ML rk la lb (o++(la.drop ia).take k) (ia+k) ib:=by
 have e:(la.drop ia).take k++la.drop (ia+k)=la.drop ia:=by rw[<-List.drop_drop,List.take_append_drop]
 refine⟨?_,?_,?_⟩
 ·rw[List.take_add]
  refine(m.pm.append_right _).trans ?_
  rw[List.append_assoc,List.append_assoc]
  exact List.Perm.append_left _ List.perm_append_comm
 ·rw[List.append_assoc,e]
  exact m.sa
 ·refine Sd.app ?_ m.sb.right λx hx y hy=>?_
  ·have:=m.sa
   rw[<-e,<-List.append_assoc]at this
   exact this.left
  ·rcases List.mem_append.mp hx with hx|hx
   ·exact m.sb.sr x hx y hy
   ·exact h x hx y hy
theorem ML.swap{rk:Keyed->Nat}{la lb o:List Keyed}{ia ib:Nat}(m:ML rk la lb o ia ib):ML rk lb la o ib ia:=⟨m.pm.trans List.perm_append_comm,m.sb,m.sa⟩
theorem ML.gb{rk:Keyed->Nat}{la lb o:List Keyed}{ia ib:Nat}(m:ML rk la lb o ia ib)(k:Nat)(h:∀x∈(lb.drop ib).take k,∀y∈la.drop ia,rk x<=rk y):ML rk la lb (o++(lb.drop ib).take k) ia (ib+k):=(m.swap.ga k h).swap
theorem iQ{l:List Keyed}{i:Nat}{p:Keyed}(h:l[i]?=some p):(l.drop i).take 1=[p]:=by
 obtain⟨h1,e1⟩:=List.getElem?_eq_some_iff.mp h
 rw[List.drop_eq_getElem_cons h1,e1]
 rfl
theorem ML.pa{rk:Keyed->Nat}{la lb o:List Keyed}{ia ib:Nat}(m:ML rk la lb o ia ib){p q:Keyed}(hp:la[ia]?=some p)(hq:lb[ib]?=some q)(h:rk p<=rk q):ML rk la lb (o++[p]) (ia+1) ib:=by
 have:=m.ga 1 (λx hx y hy=>by
  rw[iQ hp]at hx
  obtain rfl:x=p:=by simpa using hx
  obtain⟨j,e⟩:=ji hy
  exact Nat.le_trans h (pd m.sb.right (Nat.zero_le j) hq e))
 rw[iQ hp]at this
 exact this
theorem ML.pb{rk:Keyed->Nat}{la lb o:List Keyed}{ia ib:Nat}(m:ML rk la lb o ia ib){p q:Keyed}(hp:la[ia]?=some p)(hq:lb[ib]?=some q)(h:rk q<=rk p):ML rk la lb (o++[q]) ia (ib+1):=(m.swap.pa hq hp h).swap
noncomputable def Mg(rk:Keyed->Nat)(la lb:List Keyed)(o:Array Keyed):Prop:=o.toList.Perm (la++lb)/\Sd rk o.toList
theorem lu{xs:Array Keyed}{i:Nat}:(xs.extract i xs.size).toList=xs.toList.drop i:=by
 rw[Array.toList_extract]
 unfold List.extract
 rw[List.take_of_length_le]
 rw[List.length_drop,Array.length_toList]
 exact Nat.le_refl _
theorem jj{xs:Array Keyed}{i k:Nat}:(xs.extract i (i+k)).toList=(xs.toList.drop i).take k:=by
 rw[Array.toList_extract]
 unfold List.extract
 congr 1
 omega
theorem ML.su{rk:Keyed->Nat}{a b o:Array Keyed}{ia ib:Nat}(m:ML rk a.toList b.toList o.toList ia ib)(h:ib=b.size):Mg rk a.toList b.toList (o++a.extract ia a.size++b.extract ib b.size):=by
 unfold Mg
 rw[Array.toList_append,Array.toList_append,lu,lu]
 have e:b.toList.drop ib=[]:=List.drop_eq_nil_of_le (by simp[h])
 have e2:b.toList.take ib=b.toList:=List.take_of_length_le (by simp[h])
 have q:=m.pm
 rw[e2]at q
 rw[e,List.append_nil]
 refine⟨?_,m.sa⟩
 refine(q.append_right _).trans ?_
 refine(List.perm_append_comm.append_right _).trans ?_
 rw[List.append_assoc,List.take_append_drop]
 exact List.perm_append_comm
theorem ML.sx{rk:Keyed->Nat}{a b o:Array Keyed}{ia ib:Nat}(m:ML rk a.toList b.toList o.toList ia ib)(h:ia=a.size):Mg rk a.toList b.toList (o++a.extract ia a.size++b.extract ib b.size):=by
 unfold Mg
 rw[Array.toList_append,Array.toList_append,lu,lu]
 have e:a.toList.drop ia=[]:=List.drop_eq_nil_of_le (by simp[h])
 have e2:a.toList.take ia=a.toList:=List.take_of_length_le (by simp[h])
 have q:=m.pm
 rw[e2]at q
 rw[e,List.append_nil]
 refine⟨?_,m.sb⟩
 refine(q.append_right _).trans ?_
 rw[List.append_assoc,List.take_append_drop]
theorem ML.last{rk:Keyed->Nat}{a b o:Array Keyed}{ia ib:Nat}(m:ML rk a.toList b.toList o.toList ia ib)(h:ia+1=a.size){z:Keyed}(hz:a.toList[ia]?=some z)(hb:∀y∈b.toList,rk y<=rk z):
  Mg rk a.toList b.toList (o++b.extract ib b.size++a.extract ia a.size):=by
 unfold Mg
 rw[Array.toList_append,Array.toList_append,lu,lu]
 have e:a.toList.drop ia=[z]:=by
  rw[<-iQ hz,List.take_of_length_le]
  simp
  omega
 refine⟨?_,?_⟩
 ·refine((m.pm.append_right _).append_right _).trans ?_
  rw[List.append_assoc,List.append_assoc]
  have e1:a.toList++b.toList=a.toList.take ia++(a.toList.drop ia++b.toList):=by rw[<-List.append_assoc,List.take_append_drop]
  rw[e1]
  refine List.Perm.append_left _ ?_
  rw[<-List.append_assoc,List.take_append_drop]
  exact List.perm_append_comm
 ·refine Sd.app m.sb m.sa.right λx hx y hy=>?_
  rcases List.mem_append.mp hx with hx|hx
  ·exact m.sa.sr x hx y hy
  ·rw[e]at hy
   obtain rfl:y=z:=by simpa using hy
   exact hb x (List.mem_of_mem_drop hx)
structure Sm(st a9:SortSt):Prop where
 k:kindOf a9=kindOf st
 a:arrOf a9=arrOf st
 p:pendingOf a9=pendingOf st
 f:failedOf a9=failedOf st
theorem Sm.refl(st:SortSt):Sm st st:=⟨rfl,rfl,rfl,rfl⟩
theorem Sm.trans{st a9 Dm:SortSt}(x:Sm st a9)(y:Sm a9 Dm):Sm st Dm:=⟨y.k.trans x.k,y.a.trans x.a,y.p.trans x.p,y.f.trans x.f⟩
section
variable{prog:Program}{w:World}{A:Around}{E:Value->Shared->Prop}{s:Shared}{kd:SortKind}{G:Keyed->Prop}{rk:Keyed->Nat}
theorem n5{M:Model}{g:Nat}{st:SortSt}{Q:Unit->SortSt->Prop}(q:∀a9,Sm st a9->Q () a9):wpS M A E s (mO g) Q st:=wpS_modify (q _ ⟨rfl,rfl,rfl,rfl⟩)
theorem pO{key:Keyed}{xs:Array Keyed}{b n:Nat}(h:Sd rk (xs.toList.drop b))(hn:b+n<=xs.size)(left:Bool):∀i j,i<=j->j<n->jE rk left key xs b j=true->jE rk left key xs b i=true:=by
 intro i j CK hj
 obtain⟨p,p1,p2,p3⟩:=dg (xs:=xs) (i:=b+i) (by omega)
 obtain⟨q,q1,q2,q3⟩:=dg (xs:=xs) (i:=b+j) (by omega)
 have:=pd h CK p1 q1
 unfold jE
 rw[xY p2,xY q2]
 cases left<;>simp<;>omega
theorem pP{key:Keyed}{xs:Array Keyed}{n:Nat}(h:Sd rk (xs.toList.take n))(hn:n<=xs.size)(left:Bool):∀i j,i<=j->j<n->jE rk left key xs 0 j=true->jE rk left key xs 0 i=true:=by
 intro i j CK hj
 obtain⟨p,p1,p2,p3⟩:=dg (xs:=xs) (i:=0+i) (by omega)
 obtain⟨q,q1,q2,q3⟩:=dg (xs:=xs) (i:=0+j) (by omega)
 have:=zB h (i:=0+i) (j:=0+j) (by omega) (by omega) p1 q1
 unfold jE
 rw[xY p2,xY q2]
 cases left<;>simp<;>omega
theorem sy{key p:Keyed}{xs:Array Keyed}{b i:Nat}(hp:xs.toList[b+i]?=some p):jE rk true key xs b i=decide (rk p<rk key):=by
 unfold jE
 rw[tW hp]
 rfl
theorem sA{key p:Keyed}{xs:Array Keyed}{b i:Nat}(hp:xs.toList[b+i]?=some p):jE rk false key xs b i=decide (rk p<=rk key):=by
 unfold jE
 rw[tW hp,if_neg (by decide)]
 by_cases h:rk p<=rk key
 ·rw[decide_eq_true h,decide_eq_false (by omega)]
  rfl
 ·rw[decide_eq_false h,decide_eq_true (by omega)]
  rfl
end
section
variable{prog:Program}{w:World}{A:Around}{E:Value->Shared->Prop}{s:Shared}{kd:SortKind}{G:Keyed->Prop}{rk:Keyed->Nat}
theorem bB{M:Model}{α:Type}{c:Prop}[Decidable c]{x y:StateT SortSt Sem α}{st:SortSt}{Q:α->SortSt->Prop}(h1:c->wpS M A E s x Q st)(h2:¬c->wpS M A E s y Q st):wpS M A E s (if c then x else y) Q st:=by
 by_cases h:c
 ·rw[if_pos h]
  exact h1 h
 ·rw[if_neg h]
  exact h2 h
theorem ML.pQ{a b o:Array Keyed}{ia ib:Nat}(m:ML rk a.toList b.toList o.toList ia ib){p:Keyed}(hp:a.toList[ia]?=some p)(h:∀y∈b.toList.drop ib,rk p<=rk y):ML rk a.toList b.toList (o.push p).toList (ia+1) ib:=by
 have:=m.ga 1 (λx hx y hy=>by
  rw[iQ hp]at hx
  obtain rfl:x=p:=by simpa using hx
  exact h y hy)
 rw[iQ hp]at this
 rw[Array.toList_push]
 exact this
theorem ML.zC{a b o:Array Keyed}{ia ib:Nat}(m:ML rk a.toList b.toList o.toList ia ib){p:Keyed}(hp:b.toList[ib]?=some p)(h:∀y∈a.toList.drop ia,rk p<=rk y):ML rk a.toList b.toList (o.push p).toList ia (ib+1):=(m.swap.pQ hp h).swap
theorem ML.Kf{a b o:Array Keyed}{ia ib:Nat}(m:ML rk a.toList b.toList o.toList ia ib)(k:Nat){p:Keyed}(hp:b.toList[ib]?=some p)(h:∀i,i<k->jE rk false p a ia i=true):ML rk a.toList b.toList (o++a.extract ia (ia+k)).toList (ia+k) ib:=by
 rw[Array.toList_append,jj]
 refine m.ga k λx hx y hy=>?_
 obtain⟨j,hj,ej⟩:=eJ hx
 obtain⟨i,ei⟩:=ji hy
 have q1:=h j hj
 rw[sA ej]at q1
 exact Nat.le_trans (of_decide_eq_true q1) (pd m.sb.right (Nat.zero_le i) hp ei)
theorem ML.Kg{a b o:Array Keyed}{ia ib:Nat}(m:ML rk a.toList b.toList o.toList ia ib)(k:Nat){p:Keyed}(hp:a.toList[ia]?=some p)(h:∀i,i<k->jE rk true p b ib i=true):ML rk a.toList b.toList (o++b.extract ib (ib+k)).toList ia (ib+k):=by
 rw[Array.toList_append,jj]
 refine m.gb k λx hx y hy=>?_
 obtain⟨j,hj,ej⟩:=eJ hx
 obtain⟨i,ei⟩:=ji hy
 have q1:=h j hj
 rw[sy ej]at q1
 exact Nat.le_trans (Nat.le_of_lt (of_decide_eq_true q1)) (pd m.sa.right (Nat.zero_le i) hp ei)
theorem Kh{a:Array Keyed}{ia k n:Nat}{p:Keyed}(h:∀i,k<=i->i<n->jE rk false p a ia i=false)(hn:ia+n=a.size):∀y∈a.toList.drop (ia+k),rk p<=rk y:=λy hy=>by
 obtain⟨j,e⟩:=ji hy
 have hj:=(List.getElem?_eq_some_iff.mp e).1
 rw[Array.length_toList]at hj
 have e':a.toList[ia+(k+j)]?=some y:=by rw[<-Nat.add_assoc];exact e
 have q:=h (k+j) (by omega) (by omega)
 rw[sA e']at q
 have:=of_decide_eq_false q
 omega
theorem Ki{a:Array Keyed}{ia k n:Nat}{p:Keyed}(h:∀i,k<=i->i<n->jE rk true p a ia i=false)(hn:ia+n=a.size):∀y∈a.toList.drop (ia+k),rk p<=rk y:=λy hy=>by
 obtain⟨j,e⟩:=ji hy
 have hj:=(List.getElem?_eq_some_iff.mp e).1
 rw[Array.length_toList]at hj
 have e':a.toList[ia+(k+j)]?=some y:=by rw[<-Nat.add_assoc];exact e
 have q:=h (k+j) (by omega) (by omega)
 rw[sy e']at q
 have:=of_decide_eq_false q
 omega
noncomputable abbrev LT:=Option (Array Keyed)×Array Keyed×Nat×Nat×Nat×Nat×Nat
noncomputable abbrev LM:=StateT SortSt Sem (ForInStep LT)
noncomputable abbrev Pz(a b o:Array Keyed)(i j g ac bc:Nat):LM:=elem' a i>>=λz=>if(i+1+1==a.size)=true then pure (.done (some (o.push z++b.extract j b.size++a.extract (i+1) a.size),o.push z,i+1,j,g,ac,bc))else if(decide (ac<7)&&decide (bc<7))=true then pure (.done (none,o.push z,i+1,j,g,ac,bc))else pure (.yield (none,o.push z,i+1,j,g,ac,bc))
noncomputable abbrev Kj(a b o:Array Keyed)(i kb g ac:Nat)(x:Keyed)(j:Nat):LM:=if j>0 then(if(kb+1+j==b.size)=true then pure (.done (some (o.push x++b.extract (kb+1) (kb+1+j)++a.extract i a.size++b.extract (kb+1+j) b.size),o.push x++b.extract (kb+1) (kb+1+j),i,kb+1+j,g,ac,j))else Pz a b (o.push x++b.extract (kb+1) (kb+1+j)) i (kb+1+j) g ac j)else Pz a b (o.push x) i (kb+1) g ac j
noncomputable abbrev PB(a b o:Array Keyed)(i kb g ac bc:Nat)(K:Keyed->Keyed->Option Nat->LM):LM:=elem' b kb>>=λx=>if(kb+1==b.size)=true then pure (.done (some (o.push x++a.extract i a.size++b.extract (kb+1) b.size),o.push x,i,kb+1,g,ac,bc))else elem' a i>>=λy=>mN true y b (kb+1) (b.size-(kb+1)) 0>>=K x y
noncomputable abbrev PC(a b o:Array Keyed)(ka kb g bc k:Nat)(K1 K2:Keyed->Keyed->Option Nat->LM):LM:=if k>0 then(if(ka+k+1==a.size)=true then pure (.done (some (o++a.extract ka (ka+k)++b.extract kb b.size++a.extract (ka+k) a.size),o++a.extract ka (ka+k),ka+k,kb,g,k,bc))else if(ka+k==a.size)=true then pure (.done (some (o++a.extract ka (ka+k)++a.extract (ka+k) a.size++b.extract kb b.size),o++a.extract ka (ka+k),ka+k,kb,g,k,bc))else PB a b (o++a.extract ka (ka+k)) (ka+k) kb g k bc K1)else PB a b o ka kb g k bc K2
noncomputable abbrev PD(a b:Array Keyed)(ka kb:Nat)(K:Keyed->Option Nat->LM):LM:=elem' b kb>>=λx=>mN false x a ka (a.size-ka) 0>>=K x
noncomputable def M6(rk:Keyed->Nat)(a b:Array Keyed)(st:SortSt)(n:Nat)(c:LT)(rA:SortSt):Prop:=Sm st rA/\∃o ka kb g ac bc,c=(none,o,ka,kb,g,ac,bc)/\ML rk a.toList b.toList o.toList ka kb/\ka+1<a.size/\kb<b.size/\n<=ka+kb
noncomputable def M7(rk:Keyed->Nat)(a b:Array Keyed)(st:SortSt)(n:Nat)(c:LT)(rA:SortSt):Prop:=Sm st rA/\((∃r rest,c=(some r,rest)/\Mg rk a.toList b.toList r)\/∃o ka kb g ac bc,c=(none,o,ka,kb,g,ac,bc)/\ML rk a.toList b.toList o.toList ka kb/\ka+1<a.size/\kb<b.size/\n<=ka+kb)
theorem IP{a b o:Array Keyed}{st lx:SortSt}{i j g ac bc n:Nat}{pa:Keyed}{M:Model}{R:ForInStep LT->SortSt->Prop}(hD:∀c a9,M7 rk a b st n c a9->R (.done c) a9)(hY:∀c a9,M6 rk a b st n c a9->R (.yield c) a9)(iq:∀{o:Array Keyed} {ia ib:Nat},ML rk a.toList b.toList o.toList ia ib->ia+1=a.size->Mg rk a.toList b.toList (o++b.extract ib b.size++a.extract ia a.size))(n6:Sm st lx)
  (m:ML rk a.toList b.toList o.toList i j)(hl:i+1<a.size)(hj:j<b.size)(hn:n<=i+1+j)(vH:a.toList[i]?=some pa)(vI:a[i]?=some pa)(rn:∀y∈b.toList.drop j,rk pa<=rk y):
  wpS M A E s (Pz a b o i j g ac bc) R lx:=by
 have m7:=m.pQ vH rn
 refine wpS_bind (cm vI ?_)
 refine bB (λe4=>wpS_pure (hD _ _ ⟨n6,.inl ⟨_,_,rfl,iq m7 (by simpa using e4)⟩⟩)) (λe4=>?_)
 have A1:=hl
 refine bB (λe5=>wpS_pure (hD _ _ ⟨n6,.inr ⟨_,_,_,_,_,_,rfl,m7,?_,hj,?_⟩⟩)) (λe5=>wpS_pure (hY _ _ ⟨n6,_,_,_,_,_,_,rfl,m7,?_,hj,?_⟩))
 all_goals
  simp at e4
  omega
theorem IQ(C:vE prog w A E s kd G rk){a b o:Array Keyed}{st lx:SortSt}{i kb g ac bc n:Nat}{pb:Keyed}{R:ForInStep LT->SortSt->Prop}{K:Keyed->Keyed->Option Nat->LM}(hK:∀x y j,K x y (some j)=Kj a b o i kb g ac x j)(hD:∀c a9,M7 rk a b st n c a9->R (.done c) a9)(hY:∀c a9,M6 rk a b st n c a9->R (.yield c) a9)(Dp:kindOf lx=kd)(ga:Gd G a)(gb:Gd G b)(iq:∀{o:Array Keyed} {ia ib:Nat},ML rk a.toList b.toList o.toList ia ib->ia+1=a.size->Mg rk a.toList b.toList (o++b.extract ib b.size++a.extract ia a.size))(n6:Sm st lx)
  (mm:ML rk a.toList b.toList o.toList i kb)(hl:i+1<a.size)(f2:kb<b.size)(hn:n<=i+kb)(sC:b.toList[kb]?=some pb)(tX:b[kb]?=some pb)(rr:∀y∈a.toList.drop i,rk pb<=rk y):
  wpS (model prog w) A E s (PB a b o i kb g ac bc K) R lx:=by
 have m5:=mm.zC sC rr
 refine wpS_bind (cm tX ?_)
 refine bB (λd1=>wpS_pure (hD _ _ ⟨n6,.inl ⟨_,_,rfl,m5.su (by simpa using d1)⟩⟩)) (λd1=>?_)
 have Ot:kb+1<b.size:=by
  simp at d1
  omega
 obtain⟨pa,vH,vI,Kk⟩:=dg (xs:=a) (Nat.lt_of_succ_lt hl)
 refine wpS_bind (cm vI (wpS_bind (ie C (left:=true) (key:=pa) (xs:=b) (base:=kb+1) (n:=b.size-(kb+1)) (hint:=0) Dp gb (ga _ Kk) (by omega) (by omega) (pO m5.sb.right (by omega) true) λj j1 j2 j3=>?_)))
 rw[hK]
 have m6:=m5.Kg j vH j2
 have r6:∀y∈b.toList.drop (kb+1+j),rk pa<=rk y:=Ki j3 (by omega)
 refine bB (λjp=>bB (λe3=>wpS_pure (hD _ _ ⟨n6,.inl ⟨_,_,rfl,m6.su (by simpa using e3)⟩⟩)) λe3=>?_) (λjp=>?_)
 ·have hn:kb+1+j<b.size:=by
    simp at e3
    omega
  exact IP hD hY iq n6 m6 hl hn (by omega) vH vI r6
 ·obtain rfl:j=0:=by omega
  exact IP hD hY iq n6 m5 hl Ot (by omega) vH vI r6
theorem IT(C:vE prog w A E s kd G rk){a b o:Array Keyed}{st lx:SortSt}{ka kb g bc n:Nat}{R:ForInStep LT->SortSt->Prop}{K0:Keyed->Option Nat->LM}{K1 K2:Nat->Keyed->Keyed->Option Nat->LM}(Km:∀x k,K0 x (some k)=PC a b o ka kb g bc k (K1 k) (K2 k))
  (Kn:∀k x y j,K1 k x y (some j)=Kj a b (o++a.extract ka (ka+k)) (ka+k) kb g k x j)(Ko:∀k x y j,K2 k x y (some j)=Kj a b o ka kb g k x j)(hD:∀c a9,M7 rk a b st n c a9->R (.done c) a9)(hY:∀c a9,M6 rk a b st n c a9->R (.yield c) a9)(Dp:kindOf lx=kd)(ga:Gd G a)(gb:Gd G b)(iq:∀{o:Array Keyed} {ia ib:Nat},ML rk a.toList b.toList o.toList ia ib->ia+1=a.size->Mg rk a.toList b.toList (o++b.extract ib b.size++a.extract ia a.size))(n6:Sm st lx)
  (m3:ML rk a.toList b.toList o.toList ka kb)(f1:ka+1<a.size)(f2:kb<b.size)(f3:n<=ka+kb):
  wpS (model prog w) A E s (PD a b ka kb K0) R lx:=by
 obtain⟨pb,sC,tX,GL⟩:=dg (xs:=b) (i:=kb) (by omega)
 refine wpS_bind (cm tX (wpS_bind (ie C (left:=false) (key:=pb) (xs:=a) (base:=ka) (n:=a.size-ka) (hint:=0) Dp ga (gb _ GL) (by omega) (by omega) (pO m3.sa.right (by omega) false) λk k1 k2 k3=>?_)))
 rw[Km]
 have m4:=m3.Kf k sC k2
 have r4:∀y∈a.toList.drop (ka+k),rk pb<=rk y:=Kh k3 (by omega)
 refine bB (λkp=>bB (λe1=>wpS_pure (hD _ _ ⟨n6,.inl ⟨_,_,rfl,iq m4 (by simpa using e1)⟩⟩)) λe1=>bB (λe2=>wpS_pure (hD _ _ ⟨n6,.inl ⟨_,_,rfl,m4.sx (by simpa using e2)⟩⟩)) λe2=>?_) (λkp=>?_)
 ·have hl:ka+k+1<a.size:=by
    simp at e1 e2
    omega
  exact IQ C (Kn k) hD hY Dp ga gb iq n6 m4 hl f2 (by omega) sC tX r4
 ·obtain rfl:k=0:=by omega
  exact IQ C (Ko 0) hD hY Dp ga gb iq n6 m3 f1 f2 f3 sC tX r4
theorem GN(C:vE prog w A E s kd G rk){a b:Array Keyed}{st b9:SortSt}{lo hi n:Nat}{c0:LT}{f:Nat->LT->LM}{K0 L0:Array Keyed->Nat->Nat->Nat->Nat->Nat->Keyed->Option Nat->LM}{K1 K2 L1 L2:Array Keyed->Nat->Nat->Nat->Nat->Nat->Nat->Keyed->Keyed->Option Nat->LM}
  (hf:∀y o ka kb g ac bc,f y (none,o,ka,kb,g,ac,bc)=(if g>1 then mO (g-1)>>=λ_=>PD a b ka kb (K0 o ka kb g ac bc)else mO g>>=λ_=>PD a b ka kb (L0 o ka kb g ac bc)))
  (Km:∀o ka kb g ac bc x k,K0 o ka kb g ac bc x (some k)=PC a b o ka kb (g-1) bc k (K1 o ka kb g ac bc k) (K2 o ka kb g ac bc k))(Kn:∀o ka kb g ac bc k x y j,K1 o ka kb g ac bc k x y (some j)=Kj a b (o++a.extract ka (ka+k)) (ka+k) kb (g-1) k x j)(Ko:∀o ka kb g ac bc k x y j,K2 o ka kb g ac bc k x y (some j)=Kj a b o ka kb (g-1) k x j)
  (PF:∀o ka kb g ac bc x k,L0 o ka kb g ac bc x (some k)=PC a b o ka kb g bc k (L1 o ka kb g ac bc k) (L2 o ka kb g ac bc k))(PH:∀o ka kb g ac bc k x y j,L1 o ka kb g ac bc k x y (some j)=Kj a b (o++a.extract ka (ka+k)) (ka+k) kb g k x j)(PJ:∀o ka kb g ac bc k x y j,L2 o ka kb g ac bc k x y (some j)=Kj a b o ka kb g k x j)
  (hk:kindOf st=kd)(ga:Gd G a)(gb:Gd G b)(iq:∀{o:Array Keyed} {ia ib:Nat},ML rk a.toList b.toList o.toList ia ib->ia+1=a.size->Mg rk a.toList b.toList (o++b.extract ib b.size++a.extract ia a.size))(h:M6 rk a b st n c0 b9):
  wpS (model prog w) A E s (forIn [lo:hi] c0 f) (M7 rk a b st n) b9:=by
 refine wpS_forRange (I:=λ_=>M6 rk a b st n) (Q:=M7 rk a b st n) ?gstep ?gfin h
 case gfin=>
  rintro c rA ⟨tY,r⟩
  exact⟨tY,.inr r⟩
 case gstep=>
  rintro y c rA-hy ⟨tY,o3,ka,kb,g,ac,bc,rfl,m3,f1,f2,f3⟩
  rw[hf]
  refine bB (λ_=>wpS_bind (n5 λlx xZ=>?_)) (λ_=>wpS_bind (n5 λlx xZ=>?_))
  ·exact IT C (n:=n) (λx k=>Km o3 ka kb g ac bc x k) (λk x y j=>Kn o3 ka kb g ac bc k x y j) (λk x y j=>Ko o3 ka kb g ac bc k x y j) (λ_ _ h=>h) (λ_ _ h=>h) ((tY.trans xZ).k.trans hk) ga gb iq (tY.trans xZ) m3 f1 f2 f3
  ·exact IT C (n:=n) (λx k=>PF o3 ka kb g ac bc x k) (λk x y j=>PH o3 ka kb g ac bc k x y j) (λk x y j=>PJ o3 ka kb g ac bc k x y j) (λ_ _ h=>h) (λ_ _ h=>h) ((tY.trans xZ).k.trans hk) ga gb iq (tY.trans xZ) m3 f1 f2 f3
theorem x4(C:vE prog w A E s kd G rk){a b:Array Keyed}{st:SortSt}{Q:Array Keyed->SortSt->Prop}(hk:kindOf st=kd)(ga:Gd G a)(gb:Gd G b)(sa:Sd rk a.toList)(sb:Sd rk b.toList)(na:1<=a.size)(nb:1<=b.size)
  {p0 q0 z:Keyed}(Sq:a.toList[0]?=some p0)(cy:b.toList[0]?=some q0)(h0:rk q0<=rk p0)(hz:a.toList[a.size-1]?=some z)(PL:∀y∈b.toList,rk y<=rk z)
  (q:∀o a9,Sm st a9->Mg rk a.toList b.toList o->Q o a9):wpS (model prog w) A E s (Dj a b) Q st:=by
 refine wpS_bind (wpS_lift (wpAny_rule ⟨rfl,?_⟩))
 refine wpS_bind (cm (p:=q0) (by simpa using cy) ?_)
 have m0:ML rk a.toList b.toList (#[q0]:Array Keyed).toList 0 1:=by
  refine⟨?_,?_,?_⟩
  ·have:=iQ cy
   simp at this
   simp[this]
  ·refine Sd.app (Sd.one q0) (by simpa using sa) λx hx y hy=>?_
   obtain rfl:x=q0:=by simpa using hx
   obtain⟨j,e⟩:=ji hy
   exact Nat.le_trans h0 (pN sa (Nat.zero_le _) Sq e)
  ·have e:[q0]++b.toList.drop 1=b.toList:=by
     obtain⟨h1,e1⟩:=List.getElem?_eq_some_iff.mp cy
     have:=List.drop_eq_getElem_cons h1
     rw[e1]at this
     simpa using this.symm
   show Sd rk ([q0]++b.toList.drop 1)
   rw[e]
   exact sb
 by_cases c1:1=b.size
 ·rw[if_pos (by simpa using c1)]
  exact wpS_pure (q _ _ (Sm.refl _) (m0.su c1))
 rw[if_neg (by simpa using c1)]
 have iq:∀{o:Array Keyed} {ia ib:Nat},ML rk a.toList b.toList o.toList ia ib->ia+1=a.size->Mg rk a.toList b.toList (o++b.extract ib b.size++a.extract ia a.size):=λ{o ia ib} m e=>m.last e (by rw[show ia=a.size-1 by omega];exact hz) PL
 by_cases c2:0+1=a.size
 ·rw[if_pos (by simpa using c2)]
  exact wpS_pure (q _ _ (Sm.refl _) (iq m0 c2))
 rw[if_neg (by simpa using c2)]
 refine wpS_bind (wpS_get ?_)
 dsimp only
 refine wpS_bind (wpS_mono (wpS_forRange (I:=λx c a9=>Sm st a9/\∃o ia ib g,c=(none,o,ia,ib,g)/\ML rk a.toList b.toList o.toList ia ib/\ia+1<a.size/\ib<b.size/\x+1<=ia+ib)
  (Q:=λc a9=>Sm st a9/\∃r rest,c=(some r,rest)/\Mg rk a.toList b.toList r) ?step ?fin ⟨Sm.refl _,_,0,1,_,rfl,m0,by omega,by omega,by omega⟩) ?post)
 case post=>
  rintro c a9 ⟨sm,r,rest,rfl,mg⟩
  exact wpS_pure (q r a9 sm mg)
 case fin=>
  rintro c a9 ⟨-,o,ia,ib,g,-,-,h1,h2,h3⟩
  omega
 case step=>
  rintro x c a9-hx ⟨sm,o,ia,ib,g,rfl,m,h1,h2,h3⟩
  dsimp only
  refine wpS_bind (wpS_mono (wpS_forRange (I:=λy c b9=>Sm st b9/\∃o ja jb ac bc,c=(none,o,ja,jb,ac,bc)/\ML rk a.toList b.toList o.toList ja jb/\ja+1<a.size/\jb<b.size/\ia+ib+y<=ja+jb)
   (Q:=λc b9=>Sm st b9/\((∃r rest,c=(some r,rest)/\Mg rk a.toList b.toList r)\/∃o ja jb ac bc,c=(none,o,ja,jb,ac,bc)/\ML rk a.toList b.toList o.toList ja jb/\ja+1<a.size/\jb<b.size/\ia+ib+1<=ja+jb))
   ?istep ?ifin ⟨sm,_,ia,ib,0,0,rfl,m,h1,h2,by omega⟩) ?ipost)
  case ifin=>
   rintro c b9 ⟨-,o,ja,jb,ac,bc,-,-,g1,g2,g3⟩
   omega
  case istep=>
   rintro y c b9-hy ⟨nH,o2,ja,jb,ac,bc,rfl,m2,g1,g2,g3⟩
   dsimp only
   obtain⟨pa,vH,vI,Kk⟩:=dg (xs:=a) (i:=ja) (by omega)
   obtain⟨pb,sC,tX,GL⟩:=dg (xs:=b) (i:=jb) (by omega)
   refine wpS_bind (cm tX (wpS_bind (cm vI (wpS_bind (C pb pa b9 _ (nH.k.trans hk) (gb _ GL) (ga _ Kk) ?_)))))
   by_cases hw:rk pb<rk pa
   ·rw[decide_eq_true hw]
    refine wpS_bind (cm tX ?_)
    have m3:ML rk a.toList b.toList (o2.push pb).toList ja (jb+1):=by
     rw[Array.toList_push]
     exact m2.pb vH sC (Nat.le_of_lt hw)
    by_cases d1:jb+1=b.size
    ·rw[if_pos (by simpa using d1)]
     exact wpS_pure ⟨nH,.inl ⟨_,_,rfl,m3.su d1⟩⟩
    rw[if_neg (by simpa using d1)]
    by_cases d2:bc+1≥g
    ·rw[if_pos d2]
     exact wpS_pure ⟨nH,.inr ⟨_,ja,jb+1,_,_,rfl,m3,g1,by omega,by omega⟩⟩
    ·rw[if_neg d2]
     exact wpS_pure ⟨nH,_,ja,jb+1,_,_,rfl,m3,g1,by omega,by omega⟩
   ·rw[decide_eq_false hw]
    refine wpS_bind (cm vI ?_)
    have m3:ML rk a.toList b.toList (o2.push pa).toList (ja+1) jb:=by
     rw[Array.toList_push]
     exact m2.pa vH sC (by omega)
    by_cases d1:ja+1+1=a.size
    ·rw[if_pos (by simpa using d1)]
     exact wpS_pure ⟨nH,.inl ⟨_,_,rfl,iq m3 d1⟩⟩
    rw[if_neg (by simpa using d1)]
    by_cases d2:ac+1≥g
    ·rw[if_pos d2]
     exact wpS_pure ⟨nH,.inr ⟨_,ja+1,jb,_,_,rfl,m3,by omega,g2,by omega⟩⟩
    ·rw[if_neg d2]
     exact wpS_pure ⟨nH,_,ja+1,jb,_,_,rfl,m3,by omega,g2,by omega⟩
  case ipost=>
   rintro c b9 ⟨nH,⟨r,rest,rfl,mg⟩|⟨o2,ja,jb,ac,bc,rfl,m2,g1,g2,g3⟩⟩
   ·exact wpS_pure ⟨nH,_,_,rfl,mg⟩
   dsimp only
   refine wpS_bind (wpS_lift (wpAny_rule ⟨rfl,?_⟩))
   refine wpS_bind (wpS_mono (GN C (n:=ja+jb) (λ_ _ _ _ _ _ _=>rfl) (λ_ _ _ _ _ _ _ _=>rfl) (λ_ _ _ _ _ _ _ _ _ _=>rfl) (λ_ _ _ _ _ _ _ _ _ _=>rfl) (λ_ _ _ _ _ _ _ _=>rfl) (λ_ _ _ _ _ _ _ _ _ _=>rfl) (λ_ _ _ _ _ _ _ _ _ _=>rfl) hk ga gb iq ⟨nH,_,ja,jb,_,_,_,rfl,m2,g1,g2,by omega⟩) ?gpost)
   case gpost=>
    rintro c rA ⟨tY,⟨r,rest,rfl,mg⟩|⟨o3,ka,kb,g,ac,bc,rfl,m3,f1,f2,f3⟩⟩
    ·exact wpS_pure ⟨tY,_,_,rfl,mg⟩
    dsimp only
    refine wpS_bind (n5 λlx xZ=>wpS_pure ⟨tY.trans xZ,_,ka,kb,_,rfl,m3,f1,f2,by omega⟩)
end
structure MH(rk:Keyed->Nat)(la lb o:List Keyed)(na nb:Nat):Prop where
 pm:o.Perm (la.drop na++lb.drop nb)
 sa:Sd rk (la.take na++o)
 sb:Sd rk (lb.take nb++o)
theorem GO(l:List Keyed){i n:Nat}(h:i<=n):l.take n=l.take i++(l.drop i).take (n-i):=by
 rw[<-List.take_add]
 congr 1
 omega
theorem zD(l:List Keyed){i n:Nat}(h:i<=n):l.drop i=(l.drop i).take (n-i)++l.drop n:=by
 have:l.drop n=(l.drop i).drop (n-i):=by
  rw[List.drop_drop]
  congr 1
  omega
 rw[this,List.take_append_drop]
theorem MH.ga{rk:Keyed->Nat}{la lb o:List Keyed}{na nb:Nat}(m:MH rk la lb o na nb)(i:Nat)(hi:i<=na)(h:∀x∈(la.drop i).take (na-i),∀y∈lb.take nb,rk y<=rk x):MH rk la lb ((la.drop i).take (na-i)++o) i nb:=by
 have e:=GO la hi
 refine⟨?_,?_,?_⟩
 ·refine(m.pm.append_left _).trans ?_
  rw[<-List.append_assoc,<-zD la hi]
 ·rw[<-List.append_assoc,<-e]
  exact m.sa
 ·have s1:=m.sa
  rw[e,List.append_assoc]at s1
  refine Sd.app m.sb.left s1.right λx hx y hy=>?_
  rcases List.mem_append.mp hy with hy|hy
  ·exact h y hy x hx
  ·exact m.sb.sr x hx y hy
theorem MH.swap{rk:Keyed->Nat}{la lb o:List Keyed}{na nb:Nat}(m:MH rk la lb o na nb):MH rk lb la o nb na:=⟨m.pm.trans List.perm_append_comm,m.sb,m.sa⟩
theorem vJ{l:List Keyed}{n:Nat}{p:Keyed}(hn:1<=n)(h:l[n-1]?=some p):(l.drop (n-1)).take (n-(n-1))=[p]:=by
 rw[show n-(n-1)=1 by omega]
 exact iQ h
section
variable{prog:Program}{w:World}{A:Around}{E:Value->Shared->Prop}{s:Shared}{kd:SortKind}{G:Keyed->Prop}{rk:Keyed->Nat}
theorem MH.pQ{a b o:Array Keyed}{na nb:Nat}(m:MH rk a.toList b.toList o.toList.reverse na nb)(hn:1<=na){p:Keyed}(hp:a.toList[na-1]?=some p)(h:∀y∈b.toList.take nb,rk y<=rk p):MH rk a.toList b.toList (o.push p).toList.reverse (na-1) nb:=by
 have:=m.ga (na-1) (by omega) (λx hx y hy=>by
  rw[vJ hn hp]at hx
  obtain rfl:x=p:=by simpa using hx
  exact h y hy)
 rw[vJ hn hp]at this
 rw[Array.toList_push,List.reverse_append]
 exact this
theorem MH.zC{a b o:Array Keyed}{na nb:Nat}(m:MH rk a.toList b.toList o.toList.reverse na nb)(hn:1<=nb){p:Keyed}(hp:b.toList[nb-1]?=some p)(h:∀y∈a.toList.take na,rk y<=rk p):MH rk a.toList b.toList (o.push p).toList.reverse na (nb-1):=(m.swap.pQ hn hp h).swap
theorem vK{xs o:Array Keyed}{i n:Nat}(h:i<=n):(o++(xs.extract i n).reverse).toList.reverse=(xs.toList.drop i).take (n-i)++o.toList.reverse:=by
 rw[Array.toList_append,List.reverse_append,Array.toList_reverse,List.reverse_reverse]
 congr 1
 have:=jj (xs:=xs) (i:=i) (k:=n-i)
 rw[show i+(n-i)=n by omega]at this
 exact this
theorem le_last{l:List Keyed}{n:Nat}{p y:Keyed}(h:Sd rk (l.take n))(hn:1<=n)(hp:l[n-1]?=some p)(hy:y∈l.take n):rk y<=rk p:=by
 obtain⟨j,hj,e⟩:=pM hy
 exact zB h (by omega) (by omega) e hp
theorem MH.Kf{a b o:Array Keyed}{na nb i:Nat}(m:MH rk a.toList b.toList o.toList.reverse na nb)(hi:i<=na){p:Keyed}(hn:1<=nb)(hp:b.toList[nb-1]?=some p)(h:∀j,i<=j->j<na->jE rk false p a 0 j=false):MH rk a.toList b.toList (o++(a.extract i na).reverse).toList.reverse i nb:=by
 rw[vK hi]
 refine m.ga i hi λx hx y hy=>?_
 obtain⟨j,hj,ej⟩:=eJ hx
 have q1:=h (i+j) (by omega) (by omega)
 rw[sA (by rw[Nat.zero_add];exact ej)]at q1
 have q2:=of_decide_eq_false q1
 have q3:=le_last m.sb.left hn hp hy
 omega
theorem MH.Kg{a b o:Array Keyed}{na nb i:Nat}(m:MH rk a.toList b.toList o.toList.reverse na nb)(hi:i<=nb){p:Keyed}(hn:1<=na)(hp:a.toList[na-1]?=some p)(h:∀j,i<=j->j<nb->jE rk true p b 0 j=false):MH rk a.toList b.toList (o++(b.extract i nb).reverse).toList.reverse na i:=by
 rw[vK hi]
 refine(m.swap.ga i hi λx hx y hy=>?_).swap
 obtain⟨j,hj,ej⟩:=eJ hx
 have q1:=h (i+j) (by omega) (by omega)
 rw[sy (by rw[Nat.zero_add];exact ej)]at q1
 have q2:=of_decide_eq_false q1
 have q3:=le_last m.sa.left hn hp hy
 omega
theorem Kq{a:Array Keyed}{k:Nat}{p:Keyed}(h:∀i,i<k->jE rk false p a 0 i=true):∀y∈a.toList.take k,rk y<=rk p:=λy hy=>by
 obtain⟨j,hj,e⟩:=pM hy
 have q:=h j hj
 rw[sA (by rw[Nat.zero_add];exact e)]at q
 exact of_decide_eq_true q
theorem Kr{a:Array Keyed}{k:Nat}{p:Keyed}(h:∀i,i<k->jE rk true p a 0 i=true):∀y∈a.toList.take k,rk y<=rk p:=λy hy=>by
 obtain⟨j,hj,e⟩:=pM hy
 have q:=h j hj
 rw[sy (by rw[Nat.zero_add];exact e)]at q
 exact Nat.le_of_lt (of_decide_eq_true q)
theorem jk{xs:Array Keyed}{n:Nat}:(xs.extract 0 n).toList=xs.toList.take n:=by
 have:=jj (xs:=xs) (i:=0) (k:=n)
 simpa using this
theorem MH.sx{a b o:Array Keyed}{na nb:Nat}(m:MH rk a.toList b.toList o.toList.reverse na nb)(h:na=0):Mg rk a.toList b.toList (a.extract 0 na++b.extract 0 nb++o.reverse):=by
 unfold Mg
 rw[Array.toList_append,Array.toList_append,jk,jk,Array.toList_reverse]
 have q:=m.pm
 subst h
 rw[List.drop_zero]at q
 rw[List.take_zero,List.nil_append]
 refine⟨?_,m.sb⟩
 refine(q.append_left _).trans ?_
 refine List.perm_append_comm.trans ?_
 rw[List.append_assoc]
 refine List.Perm.append_left _ (List.perm_append_comm.trans ?_)
 rw[List.take_append_drop]
theorem MH.su{a b o:Array Keyed}{na nb:Nat}(m:MH rk a.toList b.toList o.toList.reverse na nb)(h:nb=0):Mg rk a.toList b.toList (a.extract 0 na++b.extract 0 nb++o.reverse):=by
 unfold Mg
 rw[Array.toList_append,Array.toList_append,jk,jk,Array.toList_reverse]
 have q:=m.pm
 subst h
 rw[List.drop_zero]at q
 rw[List.take_zero,List.append_nil]
 refine⟨?_,m.sa⟩
 refine(q.append_left _).trans ?_
 rw[<-List.append_assoc,List.take_append_drop]
theorem MH.first{a b o:Array Keyed}{na nb:Nat}(m:MH rk a.toList b.toList o.toList.reverse na nb)(h:nb=1){z:Keyed}(hz:b.toList[0]?=some z)(ha:∀y∈a.toList,rk z<=rk y):Mg rk a.toList b.toList (b.extract 0 nb++a.extract 0 na++o.reverse):=by
 unfold Mg
 rw[Array.toList_append,Array.toList_append,jk,jk,Array.toList_reverse]
 subst h
 have e:b.toList.take 1=[z]:=by
  have:=iQ hz
  simpa using this
 refine⟨?_,?_⟩
 ·refine(m.pm.append_left _).trans ?_
  have e1:a.toList++b.toList=a.toList++(b.toList.take 1++b.toList.drop 1):=by rw[List.take_append_drop]
  have e2:(b.toList.take 1++a.toList.take na)++(a.toList.drop na++b.toList.drop 1)=b.toList.take 1++(a.toList++b.toList.drop 1):=by
   rw[List.append_assoc,<-List.append_assoc (a.toList.take na),List.take_append_drop]
  rw[e1,e2,<-List.append_assoc,<-List.append_assoc]
  exact List.perm_append_comm.append_right _
 ·rw[List.append_assoc]
  refine Sd.app m.sb.left m.sa λx hx y hy=>?_
  rw[e]at hx
  obtain rfl:x=z:=by simpa using hx
  rcases List.mem_append.mp hy with hy|hy
  ·exact ha y (List.mem_of_mem_take hy)
  ·exact m.sb.sr x (by rw[e];simp) y hy
noncomputable abbrev HT:=Option (Array Keyed)×Nat×Nat×Array Keyed×Nat×Nat×Nat
noncomputable abbrev HM:=StateT SortSt Sem (ForInStep HT)
noncomputable abbrev M8(a b o:Array Keyed)(i j g ac bc:Nat):HM:=elem' a (i-1)>>=λz=>if(i-1==0)=true then pure (.done (some (a.extract 0 (i-1)++b.extract 0 j++(o.push z).reverse),i-1,j,o.push z,g,ac,bc))else if(decide (ac<7)&&decide (bc<7))=true then pure (.done (none,i-1,j,o.push z,g,ac,bc))else pure (.yield (none,i-1,j,o.push z,g,ac,bc))
noncomputable abbrev Ks(a b o:Array Keyed)(k kb g ac:Nat)(x:Keyed)(j:Nat):HM:=if kb-1-j>0 then(if(j==1)=true then pure (.done (some (b.extract 0 j++a.extract 0 k++(o.push x++(b.extract j (kb-1)).reverse).reverse),k,j,o.push x++(b.extract j (kb-1)).reverse,g,ac,kb-1-j))else if(j==0)=true then pure (.done (some (a.extract 0 k++b.extract 0 j++(o.push x++(b.extract j (kb-1)).reverse).reverse),k,j,o.push x++(b.extract j (kb-1)).reverse,g,ac,kb-1-j))else M8 a b (o.push x++(b.extract j (kb-1)).reverse) k j g ac (kb-1-j))else M8 a b (o.push x) k (kb-1) g ac (kb-1-j)
noncomputable abbrev M9(a b o:Array Keyed)(k kb g ac bc:Nat)(K:Keyed->Keyed->Option Nat->HM):HM:=elem' b (kb-1)>>=λx=>if(kb-1==1)=true then pure (.done (some (b.extract 0 (kb-1)++a.extract 0 k++(o.push x).reverse),k,kb-1,o.push x,g,ac,bc))else elem' a (k-1)>>=λy=>mN true y b 0 (kb-1) (kb-1-1)>>=K x y
noncomputable abbrev PM(a b o:Array Keyed)(ka kb g bc k:Nat)(K1 K2:Keyed->Keyed->Option Nat->HM):HM:=if ka-k>0 then(if(k==0)=true then pure (.done (some (a.extract 0 k++b.extract 0 kb++(o++(a.extract k ka).reverse).reverse),k,kb,o++(a.extract k ka).reverse,g,ka-k,bc))else M9 a b (o++(a.extract k ka).reverse) k kb g (ka-k) bc K1)else M9 a b o ka kb g (ka-k) bc K2
noncomputable abbrev PN(a b:Array Keyed)(ka kb:Nat)(K:Keyed->Option Nat->HM):HM:=elem' b (kb-1)>>=λx=>mN false x a 0 ka (ka-1)>>=K x
noncomputable def Na(rk:Keyed->Nat)(a b:Array Keyed)(st:SortSt)(n:Nat)(c:HT)(rA:SortSt):Prop:=
 Sm st rA/\∃ka kb o g ac bc,c=(none,ka,kb,o,g,ac,bc)/\MH rk a.toList b.toList o.toList.reverse ka kb/\1<=ka/\2<=kb/\ka<=a.size/\kb<=b.size/\ka+kb<=n
noncomputable def Nb(rk:Keyed->Nat)(a b:Array Keyed)(st:SortSt)(n:Nat)(c:HT)(rA:SortSt):Prop:=
 Sm st rA/\((∃r rest,c=(some r,rest)/\Mg rk a.toList b.toList r)\/∃ka kb o g ac bc,c=(none,ka,kb,o,g,ac,bc)/\MH rk a.toList b.toList o.toList.reverse ka kb/\1<=ka/\2<=kb/\ka<=a.size/\kb<=b.size/\ka+kb<=n)
theorem IU{a b o:Array Keyed}{st lx:SortSt}{i j g ac bc n:Nat}{pa:Keyed}{M:Model}{R:ForInStep HT->SortSt->Prop}(hD:∀c a9,Nb rk a b st n c a9->R (.done c) a9)(hY:∀c a9,Na rk a b st n c a9->R (.yield c) a9)(n6:Sm st lx)(m:MH rk a.toList b.toList o.toList.reverse i j)(hi:1<=i)(ia:i<=a.size)(hj:2<=j)(jb:j<=b.size)(hn:i-1+j<=n)
  (vH:a.toList[i-1]?=some pa)(vI:a[i-1]?=some pa)(rn:∀y∈b.toList.take j,rk y<=rk pa):
  wpS M A E s (M8 a b o i j g ac bc) R lx:=by
 have m7:=m.pQ hi vH rn
 refine wpS_bind (cm vI ?_)
 refine bB (λe4=>wpS_pure (hD _ _ ⟨n6,.inl ⟨_,_,rfl,m7.sx (by simpa using e4)⟩⟩)) (λe4=>?_)
 have Rb:¬i-1=0:=by simpa using e4
 refine bB (λe5=>wpS_pure (hD _ _ ⟨n6,.inr ⟨_,_,_,_,_,_,rfl,m7,?_,hj,?_,?_,?_⟩⟩)) (λe5=>wpS_pure (hY _ _ ⟨n6,_,_,_,_,_,_,rfl,m7,?_,hj,?_,?_,?_⟩))
 all_goals omega
theorem IV(C:vE prog w A E s kd G rk){a b o:Array Keyed}{st lx:SortSt}{k kb g ac bc n:Nat}{pb q0:Keyed}{R:ForInStep HT->SortSt->Prop}{K:Keyed->Keyed->Option Nat->HM}(hK:∀x y j,K x y (some j)=Ks a b o k kb g ac x j)(hD:∀c a9,Nb rk a b st n c a9->R (.done c) a9)(hY:∀c a9,Na rk a b st n c a9->R (.yield c) a9)(Dp:kindOf lx=kd)(ga:Gd G a)(gb:Gd G b)(cy:b.toList[0]?=some q0)(h0:∀y∈a.toList,rk q0<=rk y)(n6:Sm st lx)
  (mm:MH rk a.toList b.toList o.toList.reverse k kb)(hl:1<=k)(ha:k<=a.size)(f2:2<=kb)(f4:kb<=b.size)(hn:k+kb<=n)(sC:b.toList[kb-1]?=some pb)(tX:b[kb-1]?=some pb)(rr:∀y∈a.toList.take k,rk y<=rk pb):
  wpS (model prog w) A E s (M9 a b o k kb g ac bc K) R lx:=by
 have m5:=mm.zC (by omega) sC rr
 refine wpS_bind (cm tX ?_)
 refine bB (λd1=>wpS_pure (hD _ _ ⟨n6,.inl ⟨_,_,rfl,m5.first (by simpa using d1) cy h0⟩⟩)) (λd1=>?_)
 have Ot:¬kb-1=1:=by simpa using d1
 obtain⟨pa,vH,vI,Kk⟩:=dg (xs:=a) (i:=k-1) (by omega)
 refine wpS_bind (cm vI (wpS_bind (ie C (left:=true) (key:=pa) (xs:=b) (base:=0) (n:=kb-1) (hint:=kb-1-1) Dp gb (ga _ Kk) (by omega) (by omega) (pP m5.sb.left (by omega) true) λj j1 j2 j3=>?_)))
 rw[hK]
 have m6:=m5.Kg j1 hl vH j3
 have r6:∀y∈b.toList.take j,rk y<=rk pa:=Kr j2
 refine bB (λjp=>bB (λe3=>wpS_pure (hD _ _ ⟨n6,.inl ⟨_,_,rfl,m6.first (by simpa using e3) cy h0⟩⟩)) λe3=>bB (λe4=>wpS_pure (hD _ _ ⟨n6,.inl ⟨_,_,rfl,m6.su (by simpa using e4)⟩⟩)) λe4=>?_) (λjp=>?_)
 ·have hn:2<=j:=by
    have:¬j=1:=by simpa using e3
    have:¬j=0:=by simpa using e4
    omega
  exact IU (o:=o.push pb++(b.extract j (kb-1)).reverse) (i:=k) (j:=j) (g:=g) (ac:=ac) (bc:=kb-1-j) (n:=n) (pa:=pa) hD hY n6 m6 hl ha hn (by omega) (by omega) vH vI r6
 ·obtain rfl:j=kb-1:=by omega
  exact IU (o:=o.push pb) (i:=k) (j:=kb-1) (g:=g) (ac:=ac) (bc:=kb-1-(kb-1)) (n:=n) (pa:=pa) hD hY n6 m5 hl ha (by omega) (by omega) (by omega) vH vI r6
theorem IW(C:vE prog w A E s kd G rk){a b o:Array Keyed}{st lx:SortSt}{ka kb g bc n:Nat}{q0:Keyed}{R:ForInStep HT->SortSt->Prop}{K0:Keyed->Option Nat->HM}{K1 K2:Nat->Keyed->Keyed->Option Nat->HM}(Km:∀x k,K0 x (some k)=PM a b o ka kb g bc k (K1 k) (K2 k))
  (Kn:∀k x y j,K1 k x y (some j)=Ks a b (o++(a.extract k ka).reverse) k kb g (ka-k) x j)(Ko:∀k x y j,K2 k x y (some j)=Ks a b o ka kb g (ka-k) x j)(hD:∀c a9,Nb rk a b st n c a9->R (.done c) a9)(hY:∀c a9,Na rk a b st n c a9->R (.yield c) a9)(Dp:kindOf lx=kd)(ga:Gd G a)(gb:Gd G b)(cy:b.toList[0]?=some q0)(h0:∀y∈a.toList,rk q0<=rk y)(n6:Sm st lx)
  (m3:MH rk a.toList b.toList o.toList.reverse ka kb)(f1:1<=ka)(f2:2<=kb)(f3:ka<=a.size)(f4:kb<=b.size)(f5:ka+kb<=n):
  wpS (model prog w) A E s (PN a b ka kb K0) R lx:=by
 obtain⟨pb,sC,tX,GL⟩:=dg (xs:=b) (i:=kb-1) (by omega)
 refine wpS_bind (cm tX (wpS_bind (ie C (left:=false) (key:=pb) (xs:=a) (base:=0) (n:=ka) (hint:=ka-1) Dp ga (gb _ GL) (by omega) (by omega) (pP m3.sa.left (by omega) false) λk k1 k2 k3=>?_)))
 rw[Km]
 have m4:=m3.Kf k1 (by omega) sC k3
 have r4:∀y∈a.toList.take k,rk y<=rk pb:=Kq k2
 refine bB (λkp=>bB (λe1=>wpS_pure (hD _ _ ⟨n6,.inl ⟨_,_,rfl,m4.sx (by simpa using e1)⟩⟩)) λe1=>?_) (λkp=>?_)
 ·have hl:1<=k:=by
    have:¬k=0:=by simpa using e1
    omega
  exact IV C (Kn k) hD hY Dp ga gb cy h0 n6 m4 hl (by omega) f2 f4 (by omega) sC tX r4
 ·obtain rfl:k=ka:=by omega
  exact IV C (Ko k) hD hY Dp ga gb cy h0 n6 m3 f1 f3 f2 f4 f5 sC tX r4
theorem GP(C:vE prog w A E s kd G rk){a b:Array Keyed}{st b9:SortSt}{lo hi n:Nat}{c0:HT}{q0:Keyed}{f:Nat->HT->HM}{K0 L0:Nat->Nat->Array Keyed->Nat->Nat->Nat->Keyed->Option Nat->HM}{K1 K2 L1 L2:Nat->Nat->Array Keyed->Nat->Nat->Nat->Nat->Keyed->Keyed->Option Nat->HM}
  (hf:∀y ka kb o g ac bc,f y (none,ka,kb,o,g,ac,bc)=(if g>1 then mO (g-1)>>=λ_=>PN a b ka kb (K0 ka kb o g ac bc)else mO g>>=λ_=>PN a b ka kb (L0 ka kb o g ac bc)))
  (Km:∀ka kb o g ac bc x k,K0 ka kb o g ac bc x (some k)=PM a b o ka kb (g-1) bc k (K1 ka kb o g ac bc k) (K2 ka kb o g ac bc k))(Kn:∀ka kb o g ac bc k x y j,K1 ka kb o g ac bc k x y (some j)=Ks a b (o++(a.extract k ka).reverse) k kb (g-1) (ka-k) x j)(Ko:∀ka kb o g ac bc k x y j,K2 ka kb o g ac bc k x y (some j)=Ks a b o ka kb (g-1) (ka-k) x j)
  (PF:∀ka kb o g ac bc x k,L0 ka kb o g ac bc x (some k)=PM a b o ka kb g bc k (L1 ka kb o g ac bc k) (L2 ka kb o g ac bc k))(PH:∀ka kb o g ac bc k x y j,L1 ka kb o g ac bc k x y (some j)=Ks a b (o++(a.extract k ka).reverse) k kb g (ka-k) x j)(PJ:∀ka kb o g ac bc k x y j,L2 ka kb o g ac bc k x y (some j)=Ks a b o ka kb g (ka-k) x j)
  (hk:kindOf st=kd)(ga:Gd G a)(gb:Gd G b)(cy:b.toList[0]?=some q0)(h0:∀y∈a.toList,rk q0<=rk y)(h:Na rk a b st n c0 b9):
  wpS (model prog w) A E s (forIn [lo:hi] c0 f) (Nb rk a b st n) b9:=by
 refine wpS_forRange (I:=λ_=>Na rk a b st n) (Q:=Nb rk a b st n) ?gstep ?gfin h
 case gfin=>
  rintro c rA ⟨tY,r⟩
  exact⟨tY,.inr r⟩
 case gstep=>
  rintro y c rA-hy ⟨tY,ka,kb,o3,g,ac,bc,rfl,m3,f1,f2,f3,f4,f5⟩
  rw[hf]
  refine bB (λ_=>wpS_bind (n5 λlx xZ=>?_)) (λ_=>wpS_bind (n5 λlx xZ=>?_))
  ·exact IW C (n:=n) (λx k=>Km ka kb o3 g ac bc x k) (λk x y j=>Kn ka kb o3 g ac bc k x y j) (λk x y j=>Ko ka kb o3 g ac bc k x y j) (λ_ _ h=>h) (λ_ _ h=>h) ((tY.trans xZ).k.trans hk) ga gb cy h0 (tY.trans xZ) m3 f1 f2 f3 f4 f5
  ·exact IW C (n:=n) (λx k=>PF ka kb o3 g ac bc x k) (λk x y j=>PH ka kb o3 g ac bc k x y j) (λk x y j=>PJ ka kb o3 g ac bc k x y j) (λ_ _ h=>h) (λ_ _ h=>h) ((tY.trans xZ).k.trans hk) ga gb cy h0 (tY.trans xZ) m3 f1 f2 f3 f4 f5
theorem x5(C:vE prog w A E s kd G rk){a b:Array Keyed}{st:SortSt}{Q:Array Keyed->SortSt->Prop}(hk:kindOf st=kd)(ga:Gd G a)(gb:Gd G b)(sa:Sd rk a.toList)(sb:Sd rk b.toList)(na:1<=a.size)(nb:1<=b.size)
  {q0 z:Keyed}(cy:b.toList[0]?=some q0)(h0:∀y∈a.toList,rk q0<=rk y)(hz:a.toList[a.size-1]?=some z)(PL:∀y∈b.toList,rk y<=rk z)
  (q:∀o a9,Sm st a9->Mg rk a.toList b.toList o->Q o a9):wpS (model prog w) A E s (Dk a b) Q st:=by
 refine wpS_bind (wpS_lift (wpAny_rule ⟨rfl,?_⟩))
 refine wpS_bind (cm (p:=z) (by simpa using hz) ?_)
 have fa:a.toList.take a.size=a.toList:=List.take_of_length_le (by simp)
 have fb:b.toList.take b.size=b.toList:=List.take_of_length_le (by simp)
 have Sr:MH rk a.toList b.toList (#[]:Array Keyed).toList.reverse a.size b.size:=by
  refine⟨?_,?_,?_⟩
  ·rw[List.drop_eq_nil_of_le (by simp),List.drop_eq_nil_of_le (by simp)]
   exact List.Perm.refl _
  ·rw[fa]
   simpa using sa
  ·rw[fb]
   simpa using sb
 have m0:MH rk a.toList b.toList (#[z]:Array Keyed).toList.reverse (a.size-1) b.size:=Sr.pQ na hz (by rw[fb];exact PL)
 have Dq:∀{o:Array Keyed} {ia ib:Nat},MH rk a.toList b.toList o.toList.reverse ia ib->ib=1->Mg rk a.toList b.toList (b.extract 0 ib++a.extract 0 ia++o.reverse):=λ{o ia ib} m e=>m.first e cy h0
 refine bB (λc1=>wpS_pure (q _ _ (Sm.refl _) (m0.sx (by simpa using c1)))) (λc1=>?_)
 refine bB (λc2=>wpS_pure (q _ _ (Sm.refl _) (Dq m0 (by simpa using c2)))) (λc2=>?_)
 have T9:¬a.size-1=0:=by simpa using c1
 have Ua:¬b.size=1:=by simpa using c2
 refine wpS_bind (wpS_get ?_)
 dsimp only
 refine wpS_bind (wpS_mono (wpS_forRange (I:=λx c a9=>Sm st a9/\∃ia ib o g,c=(none,ia,ib,o,g)/\MH rk a.toList b.toList o.toList.reverse ia ib/\1<=ia/\2<=ib/\ia<=a.size/\ib<=b.size/\ia+ib+x+1<=a.size+b.size)
  (Q:=λc a9=>Sm st a9/\∃r rest,c=(some r,rest)/\Mg rk a.toList b.toList r) ?step ?fin ⟨Sm.refl _,a.size-1,b.size,_,_,rfl,m0,by omega,by omega,by omega,by omega,by omega⟩) ?post)
 case post=>
  rintro c a9 ⟨sm,r,rest,rfl,mg⟩
  exact wpS_pure (q r a9 sm mg)
 case fin=>
  rintro c a9 ⟨-,ia,ib,o,g,-,-,h1,h2,h3,h4,h5⟩
  omega
 case step=>
  rintro x c a9-hx ⟨sm,ia,ib,o,g,rfl,m,h1,h2,h3,h4,h5⟩
  dsimp only
  refine wpS_bind (wpS_mono (wpS_forRange (I:=λy c b9=>Sm st b9/\∃ja jb o ac bc,c=(none,ja,jb,o,ac,bc)/\MH rk a.toList b.toList o.toList.reverse ja jb/\1<=ja/\2<=jb/\ja<=a.size/\jb<=b.size/\ja+jb+y<=ia+ib)
   (Q:=λc b9=>Sm st b9/\((∃r rest,c=(some r,rest)/\Mg rk a.toList b.toList r)\/∃ja jb o ac bc,c=(none,ja,jb,o,ac,bc)/\MH rk a.toList b.toList o.toList.reverse ja jb/\1<=ja/\2<=jb/\ja<=a.size/\jb<=b.size/\ja+jb+1<=ia+ib))
   ?istep ?ifin ⟨sm,ia,ib,_,0,0,rfl,m,h1,h2,h3,h4,by omega⟩) ?ipost)
  case ifin=>
   rintro c b9 ⟨-,ja,jb,o,ac,bc,-,-,g1,g2,g3,g4,g5⟩
   omega
  case istep=>
   rintro y c b9-hy ⟨nH,ja,jb,o2,ac,bc,rfl,m2,g1,g2,g3,g4,g5⟩
   dsimp only
   obtain⟨pa,vH,vI,Kk⟩:=dg (xs:=a) (i:=ja-1) (by omega)
   obtain⟨pb,sC,tX,GL⟩:=dg (xs:=b) (i:=jb-1) (by omega)
   refine wpS_bind (cm tX (wpS_bind (cm vI (wpS_bind (C pb pa b9 _ (nH.k.trans hk) (gb _ GL) (ga _ Kk) ?_)))))
   by_cases hw:rk pb<rk pa
   ·rw[decide_eq_true hw]
    refine wpS_bind (cm vI ?_)
    have m3:=m2.pQ g1 vH λy hy=>Nat.le_trans (le_last m2.sb.left (by omega) sC hy) (Nat.le_of_lt hw)
    refine bB (λd1=>wpS_pure ⟨nH,.inl ⟨_,_,rfl,m3.sx (by simpa using d1)⟩⟩) (λd1=>?_)
    have Ot:¬ja-1=0:=by simpa using d1
    refine bB (λd2=>wpS_pure ⟨nH,.inr ⟨ja-1,jb,_,_,_,rfl,m3,by omega,by omega,by omega,by omega,by omega⟩⟩) (λd2=>wpS_pure ⟨nH,ja-1,jb,_,_,_,rfl,m3,by omega,by omega,by omega,by omega,by omega⟩)
   ·rw[decide_eq_false hw]
    refine wpS_bind (cm tX ?_)
    have m3:=m2.zC (by omega) sC λy hy=>Nat.le_trans (le_last m2.sa.left g1 vH hy) (by omega)
    refine bB (λd1=>wpS_pure ⟨nH,.inl ⟨_,_,rfl,Dq m3 (by simpa using d1)⟩⟩) (λd1=>?_)
    have Ot:¬jb-1=1:=by simpa using d1
    refine bB (λd2=>wpS_pure ⟨nH,.inr ⟨ja,jb-1,_,_,_,rfl,m3,by omega,by omega,by omega,by omega,by omega⟩⟩) (λd2=>wpS_pure ⟨nH,ja,jb-1,_,_,_,rfl,m3,by omega,by omega,by omega,by omega,by omega⟩)
  case ipost=>
   rintro c b9 ⟨nH,⟨r,rest,rfl,mg⟩|⟨ja,jb,o2,ac,bc,rfl,m2,g1,g2,g3,g4,g5⟩⟩
   ·exact wpS_pure ⟨nH,_,_,rfl,mg⟩
   dsimp only
   refine wpS_bind (wpS_lift (wpAny_rule ⟨rfl,?_⟩))
   refine wpS_bind (wpS_mono (GP C (n:=ja+jb) (λ_ _ _ _ _ _ _=>rfl) (λ_ _ _ _ _ _ _ _=>rfl) (λ_ _ _ _ _ _ _ _ _ _=>rfl) (λ_ _ _ _ _ _ _ _ _ _=>rfl) (λ_ _ _ _ _ _ _ _=>rfl) (λ_ _ _ _ _ _ _ _ _ _=>rfl) (λ_ _ _ _ _ _ _ _ _ _=>rfl) hk ga gb cy h0 ⟨nH,ja,jb,_,_,_,_,rfl,m2,g1,g2,g3,g4,by omega⟩) ?gpost)
   case gpost=>
    rintro c rA ⟨tY,⟨r,rest,rfl,mg⟩|⟨ka,kb,o3,g,ac,bc,rfl,m3,f1,f2,f3,f4,f5⟩⟩
    ·exact wpS_pure ⟨tY,_,_,rfl,mg⟩
    dsimp only
    refine wpS_bind (n5 λlx xZ=>wpS_pure ⟨tY.trans xZ,ka,kb,_,_,rfl,m3,f1,f2,f3,f4,by omega⟩)
end
theorem d9{l:List Keyed}{b n i:Nat}(h:i<n):((l.drop b).take n)[i]?=l[b+i]?:=by
 rw[List.getElem?_take,if_pos h,List.getElem?_drop]
theorem vL{l m:List Keyed}{b n:Nat}(h:∀i,b<=i->i<b+n->l[i]?=m[i]?):(l.drop b).take n=(m.drop b).take n:=by
 apply List.ext_getElem?
 intro i
 rw[List.getElem?_take,List.getElem?_take]
 split
 ·rw[List.getElem?_drop,List.getElem?_drop]
  exact h _ (by omega) (by omega)
 ·rfl
theorem iR{l:List Keyed}{b n:Nat}(h:b+n<=l.length):((l.drop b).take n).length=n:=by
 rw[List.length_take,List.length_drop]
 omega
theorem zE(p:Nat):∀(m:List Keyed) (xs:Array Keyed) (c:Nat),p+c+m.length<=xs.size->
  ((m.zipIdx c).foldl (λa x=>a.setIfInBounds (p+x.2) x.1) xs).toList=xs.toList.take (p+c)++m++xs.toList.drop (p+c+m.length)
 |[],xs,c,h=>by simp
 |y::m,xs,c,h=>by
  rw[List.zipIdx_cons,List.foldl_cons]
  rw[List.length_cons]at h
  have ih:=zE p m (xs.setIfInBounds (p+c) y) (c+1) (by rw[Array.size_setIfInBounds];omega)
  dsimp only
  rw[ih,Array.toList_setIfInBounds,show p+(c+1)=p+c+1 by omega]
  have h1:(xs.toList.set (p+c) y).take (p+c+1)=xs.toList.take (p+c)++[y]:=by
   rw[List.take_add_one,List.take_set_of_le (Nat.le_refl _),List.getElem?_set_self (by rw[Array.length_toList];omega)]
   rfl
  have h2:(xs.toList.set (p+c) y).drop (p+c+1+m.length)=xs.toList.drop (p+c+(y::m).length):=by
   rw[List.drop_set_of_lt (by omega),List.length_cons]
   congr 1
   omega
  rw[h1,h2,List.append_assoc,List.append_assoc,List.append_assoc]
  rfl
theorem gq(l:List Keyed)(b n m:Nat):(l.drop b).take (n+m)=(l.drop b).take n++(l.drop (b+n)).take m:=by rw[List.take_add,List.drop_drop]
theorem n8(l:List Keyed)(b n:Nat):l=l.take b++(l.drop b).take n++l.drop (b+n):=by
 rw[List.append_assoc,<-List.drop_drop,List.take_append_drop,List.take_append_drop]
theorem tZ{l:List Keyed}{b n i:Nat}{p:Keyed}(h:l[b+i]?=some p)(hi:i<n):p∈(l.drop b).take n:=List.mem_of_getElem? (by rw[d9 hi];exact h)
theorem Kt{M:Model}{A:Around}{E:Value->Shared->Prop}{s:Shared}{st a9:SortSt}{Q:PUnit->SortSt->Prop}(h:Q ⟨⟩ a9):wpS M A E s (set a9:StateT SortSt Sem PUnit) Q st:=by
 unfold wpS
 rw[StateT.run_set]
 exact wpAny_pure ⟨rfl,h⟩
section
variable{prog:Program}{w:World}{A:Around}{E:Value->Shared->Prop}{s:Shared}{kd:SortKind}{G:Keyed->Prop}{rk:Keyed->Nat}
theorem pR{key:Keyed}{xs:Array Keyed}{b n:Nat}(h:Sd rk ((xs.toList.drop b).take n))(hn:b+n<=xs.size)(left:Bool):∀i j,i<=j->j<n->jE rk left key xs b j=true->jE rk left key xs b i=true:=by
 intro i j CK hj
 obtain⟨p,p1,p2,p3⟩:=dg (xs:=xs) (i:=b+i) (by omega)
 obtain⟨q,q1,q2,q3⟩:=dg (xs:=xs) (i:=b+j) (by omega)
 have:=pN h CK (by rw[d9 (by omega)];exact p1) (by rw[d9 hj];exact q1)
 unfold jE
 rw[xY p2,xY q2]
 cases left<;>simp<;>omega
theorem x6(C:vE prog w A E s kd G rk){i sa na pw nb Ou:Nat}{st:SortSt}{Q:Bool->SortSt->Prop}(hk:kindOf st=kd)(gG:Gd G (arrOf st))(hf:failedOf st=none)
  (h1:(pendingOf st)[i]?=some (sa,na,pw))(h2:(pendingOf st)[i+1]?=some (sa+na,nb,Ou))(h3:1<=na)(h4:1<=nb)(h5:sa+na+nb<=(arrOf st).size)
  (s1:Sd rk (((arrOf st).toList.drop sa).take na))(s2:Sd rk (((arrOf st).toList.drop (sa+na)).take nb))
  (q:∀a9 m,kindOf a9=kd->failedOf a9=none->pendingOf a9=((pendingOf st).setIfInBounds i (sa,na+nb,pw)).eraseIdxIfInBounds (i+1)->
    (arrOf a9).toList=(arrOf st).toList.take sa++m++(arrOf st).toList.drop (sa+na+nb)->m.Perm (((arrOf st).toList.drop sa).take (na+nb))->Sd rk m->Q true a9):wpS (model prog w) A E s (mergeAt' i) Q st:=by
 refine wpS_bind (wpS_get ?_)
 rw[show(sortPriv% PySem.Builtin.SortState.pending) st=pendingOf st from rfl]
 rw[h1,h2]
 dsimp only
 refine wpS_bind (Kt ?_)
 obtain⟨pb,sC,tX,GL⟩:=dg (xs:=arrOf st) (i:=sa+na) (by omega)
 refine wpS_bind (cm tX (wpS_bind (ie C (left:=false) (key:=pb) (xs:=arrOf st) (base:=sa) (n:=na) (hint:=0) hk gG (gG _ GL) (by omega) (by omega) (pR s1 (by omega) false) λk k1 k2 k3=>?_)))
 dsimp only
 have b0:∀y∈((arrOf st).toList.drop (sa+na)).take nb,rk pb<=rk y:=λy hy=>by
  obtain⟨j,hj,e⟩:=eJ hy
  exact pN s2 (Nat.zero_le j) (by rw[d9 (by omega)];exact sC) (by rw[d9 hj];exact e)
 have a1:∀x∈((arrOf st).toList.drop sa).take k,rk x<=rk pb:=λx hx=>by
  obtain⟨j,hj,e⟩:=eJ hx
  have q1:=k2 j hj
  rw[sA e]at q1
  exact of_decide_eq_true q1
 refine bB (λe1=>?_) (λe1=>?_)
 ·obtain rfl:k=na:=by
    have:na-k=0:=by simpa using e1
    omega
  refine wpS_pure (q _ (((arrOf st).toList.drop sa).take (k+nb)) hk hf rfl ?_ (List.Perm.refl _) ?_)
  ·rw[Nat.add_assoc]
   exact n8 _ _ _
  ·rw[gq]
   exact Sd.app s1 s2 λx hx y hy=>Nat.le_trans (a1 x hx) (b0 y hy)
 have IX:¬na-k=0:=by simpa using e1
 have gk:=k3 k (Nat.le_refl _) (by omega)
 obtain⟨pz,Rc,Ss,Su⟩:=dg (xs:=arrOf st) (i:=sa+k+(na-k)-1) (by omega)
 refine wpS_bind (cm Ss (wpS_bind (ie C (left:=true) (key:=pz) (xs:=arrOf st) (base:=sa+na) (n:=nb) (hint:=nb-1) hk gG (gG _ Su) (by omega) (by omega) (pR s2 (by omega) true) λj j1 j2 j3=>?_)))
 have PQ:(arrOf st).toList[sa+(na-1)]?=some pz:=by rw[<-Rc];congr 1;omega
 have az:∀x∈((arrOf st).toList.drop sa).take na,rk x<=rk pz:=λx hx=>by
  obtain⟨i,hi,e⟩:=eJ hx
  exact pN s1 (show i<=na-1 by omega) (by rw[d9 hi];exact e) (by rw[d9 (by omega)];exact PQ)
 have b2:∀y∈((arrOf st).toList.drop (sa+na+j)).take (nb-j),rk pz<=rk y:=λy hy=>by
  obtain⟨i,hi,e⟩:=eJ hy
  have q1:=j3 (j+i) (by omega) (by omega)
  rw[sy (by rw[<-Nat.add_assoc];exact e)]at q1
  have:=of_decide_eq_false q1
  omega
 refine bB (λe2=>?_) (λe2=>?_)
 ·obtain rfl:j=0:=by simpa using e2
  refine wpS_pure (q _ (((arrOf st).toList.drop sa).take (na+nb)) hk hf rfl ?_ (List.Perm.refl _) ?_)
  ·rw[Nat.add_assoc]
   exact n8 _ _ _
  ·rw[gq]
   exact Sd.app s1 s2 λx hx y hy=>Nat.le_trans (az x hx) (b2 y hy)
 have Ov:¬j=0:=by simpa using e2
 have ex:((arrOf st).extract (sa+k) (sa+na)).toList=((arrOf st).toList.drop (sa+k)).take (na-k):=by
  rw[show sa+na=sa+k+(na-k) by omega]
  exact jj
 have ey:((arrOf st).extract (sa+na) (sa+na+j)).toList=((arrOf st).toList.drop (sa+na)).take j:=jj
 have L5:=s1
 have Nc:=s2
 rw[show na=k+(na-k) by omega,gq]at L5
 rw[show nb=j+(nb-j) by omega,gq]at Nc
 have xl:((arrOf st).extract (sa+k) (sa+na)).size=na-k:=by
  rw[<-Array.length_toList,ex,iR (by rw[Array.length_toList];omega)]
 have yl:((arrOf st).extract (sa+na) (sa+na+j)).size=j:=by
  rw[<-Array.length_toList,ey,iR (by rw[Array.length_toList];omega)]
 have gx:Gd G ((arrOf st).extract (sa+k) (sa+na)):=λp hp=>gG p (by
  rw[ex]at hp
  exact List.mem_of_mem_drop (List.mem_of_mem_take hp))
 have gy:Gd G ((arrOf st).extract (sa+na) (sa+na+j)):=λp hp=>gG p (by
  rw[ey]at hp
  exact List.mem_of_mem_drop (List.mem_of_mem_take hp))
 obtain⟨pk,Ow,Ub,Uc⟩:=dg (xs:=arrOf st) (i:=sa+k) (by omega)
 rw[sA Ow]at gk
 have Ud:=of_decide_eq_false gk
 have Rf:((arrOf st).extract (sa+na) (sa+na+j)).toList[0]?=some pb:=by
  rw[ey,d9 (by omega)]
  exact sC
 have Rg:((arrOf st).extract (sa+k) (sa+na)).toList[0]?=some pk:=by
  rw[ex,d9 (by omega)]
  exact Ow
 have Rh:((arrOf st).extract (sa+k) (sa+na)).toList[((arrOf st).extract (sa+k) (sa+na)).size-1]?=some pz:=by
  rw[xl,ex,d9 (by omega),<-Rc]
  congr 1
  omega
 have Ri:∀y∈((arrOf st).extract (sa+na) (sa+na+j)).toList,rk y<=rk pz:=λy hy=>by
  rw[ey]at hy
  obtain⟨i,hi,e⟩:=eJ hy
  have q1:=j2 i hi
  rw[sy e]at q1
  exact Nat.le_of_lt (of_decide_eq_true q1)
 have Rj:∀x∈((arrOf st).extract (sa+k) (sa+na)).toList,rk pb<=rk x:=λx hx=>by
  rw[ex]at hx
  obtain⟨i,hi,e⟩:=eJ hx
  have:=pN L5.right (Nat.zero_le i) (by rw[d9 (by omega)];exact Ow) (by rw[d9 hi];exact e)
  omega
 have fin:∀(o:Array Keyed) (b9:SortSt),kindOf b9=kd->arrOf b9=arrOf st->failedOf b9=none->pendingOf b9=((pendingOf st).setIfInBounds i (sa,na+nb,pw)).eraseIdxIfInBounds (i+1)->
   Mg rk ((arrOf st).extract (sa+k) (sa+na)).toList ((arrOf st).extract (sa+na) (sa+na+j)).toList o->
   Q true (SortSt.mk' (kindOf b9) (o.toList.zipIdx.foldl (λa x=>a.setIfInBounds (sa+k+x.2) x.1) (arrOf b9)) (pendingOf b9) (gallopOf b9) (failedOf b9)):=by
  intro o b9 t1 t2 t3 t4 mg
  obtain⟨pm,so⟩:=mg
  rw[ex,ey]at pm
  have ol:o.toList.length=na-k+j:=by
   rw[pm.length_eq,List.length_append,iR (by rw[Array.length_toList];omega),iR (by rw[Array.length_toList];omega)]
  refine q _ (((arrOf st).toList.drop sa).take k++o.toList++((arrOf st).toList.drop (sa+na+j)).take (nb-j)) t1 t3 t4 ?_ ?_ ?_
  ·show(o.toList.zipIdx.foldl (λa x=>a.setIfInBounds (sa+k+x.2) x.1) (arrOf b9)).toList=_
   rw[zE (sa+k) o.toList (arrOf b9) 0 (by rw[t2,ol];omega),t2,ol]
   have f1:(arrOf st).toList.take (sa+k+0)=(arrOf st).toList.take sa++((arrOf st).toList.drop sa).take k:=by rw[Nat.add_zero,List.take_add]
   have f2:(arrOf st).toList.drop (sa+k+0+(na-k+j))=((arrOf st).toList.drop (sa+na+j)).take (nb-j)++(arrOf st).toList.drop (sa+na+nb):=by
    rw[show sa+k+0+(na-k+j)=sa+na+j by omega]
    have:=zD (arrOf st).toList (show sa+na+j<=sa+na+nb by omega)
    rw[show sa+na+nb-(sa+na+j)=nb-j by omega]at this
    exact this
   rw[f1,f2]
   simp only[List.append_assoc]
  ·have g1:((arrOf st).toList.drop sa).take (na+nb)=((arrOf st).toList.drop sa).take k++(((arrOf st).toList.drop (sa+k)).take (na-k)++((arrOf st).toList.drop (sa+na)).take j)++((arrOf st).toList.drop (sa+na+j)).take (nb-j):=by
     rw[gq _ sa na nb]
     have u1:=gq (arrOf st).toList sa k (na-k)
     have u2:=gq (arrOf st).toList (sa+na) j (nb-j)
     rw[show k+(na-k)=na by omega]at u1
     rw[show j+(nb-j)=nb by omega]at u2
     rw[u1,u2]
     simp only[List.append_assoc]
   rw[g1]
   exact(pm.append_left _).append_right _
  ·have hA:∀x∈((arrOf st).toList.drop sa).take k,∀y∈o.toList,rk x<=rk y:=λx hx y hy=>by
     rcases List.mem_append.mp (pm.mem_iff.mp hy)with hy|hy
     ·exact L5.sr x hx y hy
     ·refine Nat.le_trans (a1 x hx) (b0 y ?_)
      obtain⟨i,hi,e⟩:=eJ hy
      exact tZ e (by omega)
   have hB:∀x∈o.toList,∀y∈((arrOf st).toList.drop (sa+na+j)).take (nb-j),rk x<=rk y:=λx hx y hy=>by
    rcases List.mem_append.mp (pm.mem_iff.mp hx)with hx|hx
    ·refine Nat.le_trans (az x ?_) (b2 y hy)
     obtain⟨i,hi,e⟩:=eJ hx
     exact tZ (i:=k+i) (by rw[<-Nat.add_assoc];exact e) (by omega)
    ·exact Nc.sr x hx y hy
   refine Sd.app (Sd.app L5.left so hA) Nc.right λx hx y hy=>?_
   rcases List.mem_append.mp hx with hx|hx
   ·exact Nat.le_trans (a1 x hx) (Nat.le_trans (Rj pk (List.mem_of_getElem? Rg)) (Nat.le_trans (az pk (tZ Ow (by omega))) (b2 y hy)))
   ·exact hB x hx y hy
 refine bB (λe3=>?_) (λe3=>?_)
 ·refine wpS_bind (x4 C hk gx gy (by rw[ex];exact L5.right) (by rw[ey];exact Nc.left) (by rw[xl];omega) (by rw[yl];omega) Rg Rf (by omega) Rh Ri λo b9 sm mg=>?_)
  refine wpS_bind (wpS_modify (wpS_bind (wpS_get (wpS_pure ?_))))
  have ff:failedOf b9=none:=sm.f.trans hf
  have:=fin o b9 (sm.k.trans hk) sm.a ff sm.p mg
  show Q (Option.isNone (failedOf b9)) _
  rw[ff]
  exact this
 ·refine wpS_bind (x5 C hk gx gy (by rw[ex];exact L5.right) (by rw[ey];exact Nc.left) (by rw[xl];omega) (by rw[yl];omega) Rf Rj Rh Ri λo b9 sm mg=>?_)
  refine wpS_bind (wpS_modify (wpS_bind (wpS_get (wpS_pure ?_))))
  have ff:failedOf b9=none:=sm.f.trans hf
  have:=fin o b9 (sm.k.trans hk) sm.a ff sm.p mg
  show Q (Option.isNone (failedOf b9)) _
  rw[ff]
  exact this
end
structure Bs(kd:SortKind)(a₀:Array Keyed)(st:SortSt):Prop where
 pm:(arrOf st).Perm a₀
 k:kindOf st=kd
 f:failedOf st=none
theorem Bs.size{kd:SortKind}{a₀:Array Keyed}{st:SortSt}(B:Bs kd a₀ st):(arrOf st).size=a₀.size:=B.pm.size_eq
theorem Bs.gd{kd:SortKind}{a₀:Array Keyed}{st:SortSt}{G:Keyed->Prop}(B:Bs kd a₀ st)(g:Gd G a₀):Gd G (arrOf st):=λp hp=>g p ((Array.perm_iff_toList_perm.mp B.pm).mem_iff.mp hp)
theorem Bs.arr{kd:SortKind}{a₀:Array Keyed}{st:SortSt}(B:Bs kd a₀ st){xs:Array Keyed}(h:xs.Perm (arrOf st)):Bs kd a₀ (setArr st xs):=⟨h.trans B.pm,B.k,B.f⟩
noncomputable def Up(rk:Keyed->Nat)(xs:Array Keyed)(lo hi:Nat):Prop:=∀i j,lo<=i->i<=j->j<hi->R rk xs i<=R rk xs j
noncomputable def Dn(rk:Keyed->Nat)(xs:Array Keyed)(lo hi:Nat):Prop:=∀i j,lo<=i->i<=j->j<hi->R rk xs j<=R rk xs i
noncomputable def Kp(lo:Nat)(st a9:SortSt):Prop:=(∀k,k<lo->(arrOf a9)[k]?=(arrOf st)[k]?)/\pendingOf a9=pendingOf st
theorem Kp.refl(lo:Nat)(st:SortSt):Kp lo st st:=⟨λ_ _=>rfl,rfl⟩
theorem Kp.trans{lo:Nat}{st a9 Dm:SortSt}(x:Kp lo st a9)(y:Kp lo a9 Dm):Kp lo st Dm:=⟨λk h=>(y.1 k h).trans (x.1 k h),y.2.trans x.2⟩
theorem mP{rk:Keyed->Nat}{xs ys:Array Keyed}{i j:Nat}(h:xs[i]?=ys[j]?):R rk xs i=R rk ys j:=by
 unfold R
 rw[h]
theorem Up.sd{rk:Keyed->Nat}{xs:Array Keyed}{lo n:Nat}(h:Up rk xs lo (lo+n))(hn:lo+n<=xs.size):Sd rk ((xs.toList.drop lo).take n):=by
 refine List.pairwise_iff_getElem.mpr λi j hi hj CK=>?_
 have hl:((xs.toList.drop lo).take n).length=n:=iR (by rw[Array.length_toList];exact hn)
 have q:=h (lo+i) (lo+j) (by omega) (by omega) (by omega)
 rw[tW (p:=((xs.toList.drop lo).take n)[i]) (by rw[<-d9 (n:=n) (by omega)];exact List.getElem?_eq_getElem hi),tW (p:=((xs.toList.drop lo).take n)[j]) (by rw[<-d9 (n:=n) (by omega)];exact List.getElem?_eq_getElem hj)]at q
 exact q
theorem Dr{rk:Keyed->Nat}{xs:Array Keyed}{i j:Nat}(hj:j<=xs.size)(k:Nat):R rk (mirror xs i j ((j-i)/2)) k=if i<=k/\k<j then R rk xs (i+j-1-k)else R rk xs k:=by
 have e:=getElem?_mirror_all (i:=i) hj k
 split
 ·rename_i h
  rw[if_pos h]at e
  exact mP e
 ·rename_i h
  rw[if_neg h]at e
  exact mP e
theorem ke{rk:Keyed->Nat}{xs:Array Keyed}{i j:Nat}(hj:j<=xs.size)(h:∀k,i<=k->k<j->R rk xs k=R rk xs (j-1))(k:Nat):R rk (mirror xs i j ((j-i)/2)) k=R rk xs k:=by
 rw[Dr hj]
 split
 ·rw[h _ (by omega) (by omega),h k (by omega) (by omega)]
 ·rfl
theorem IY{rk:Keyed->Nat}{xs:Array Keyed}{src d:Nat}(hs:src<xs.size)(hd:d<=src)(k:Nat):R rk (bubble xs src d) k=if k=src-d then R rk xs src else if src-d<k/\k<=src then R rk xs (k-1)else R rk xs k:=by
 have e:=getElem?_bubble hs d hd k
 by_cases h1:k=src-d
 ·rw[if_pos h1]at e
  rw[if_pos h1]
  exact mP e
 ·rw[if_neg h1]at e
  rw[if_neg h1]
  by_cases h2:src-d<k/\k<=src
  ·rw[if_pos h2]at e
   rw[if_pos h2]
   exact mP e
  ·rw[if_neg h2]at e
   rw[if_neg h2]
   exact mP e
section
variable{prog:Program}{w:World}{A:Around}{E:Value->Shared->Prop}{s:Shared}{kd:SortKind}{G:Keyed->Prop}{rk:Keyed->Nat}{a₀:Array Keyed}
theorem sD(C:vE prog w A E s kd G rk)(g:Gd G a₀){st:SortSt}(B:Bs kd a₀ st){i j:Nat}{Q:Option Bool->SortSt->Prop}(hi:i<a₀.size)(hj:j<a₀.size)(q:Q (some (decide (R rk (arrOf st) i<R rk (arrOf st) j))) st):wpS (model prog w) A E s (ltAt' i j) Q st:=by
 obtain⟨p,p1,p2,p3⟩:=(B.gd g).at (rk:=rk) (i:=i) (by rw[B.size];exact hi)
 obtain⟨r,r1,r2,r3⟩:=(B.gd g).at (rk:=rk) (i:=j) (by rw[B.size];exact hj)
 rw[p3,r3]at q
 rw[ltAt'_eq]
 exact wpS_bind (wpS_get (wpS_bind (cm p1 (wpS_bind (cm r1 (C p r st Q B.k p2 r2 q))))))
theorem ua{M:Model}{i j:Nat}{st:SortSt}{Q:Unit->SortSt->Prop}(q:Q () (setArr st (mirror (arrOf st) i j ((j-i)/2)))):wpS M A E s (reverseSlice' i j) Q st:=by
 rw[reverseSlice'_eq]
 exact wpS_modify q
theorem rK(C:vE prog w A E s kd G rk)(g:Gd G a₀){lo n ok:Nat}{st:SortSt}{Q:Bool->SortSt->Prop}(B:Bs kd a₀ st)(hn:lo+n<=a₀.size)(d8:ok<=n)(h1:1<=ok)(u:Up rk (arrOf st) lo (lo+ok))
  (q:∀a9,Bs kd a₀ a9->Kp lo st a9->Up rk (arrOf a9) lo (lo+n)->Q true a9):wpS (model prog w) A E s (binarySort' lo n ok) Q st:=by
 rw[binarySort'_eq]
 refine wpS_bind (wpS_mono (wpS_forRange (I:=λk c a9=>c=(none,())/\k<=n/\Bs kd a₀ a9/\Kp lo st a9/\Up rk (arrOf a9) lo (lo+k))
  (Q:=λc a9=>c=(none,())/\Bs kd a₀ a9/\Kp lo st a9/\Up rk (arrOf a9) lo (lo+n)) ?step ?fin ⟨rfl,by omega,B,Kp.refl _ _,by rw[show max ok 1=ok by omega];exact u⟩) ?post)
 case post=>
  rintro c a9 ⟨rfl,x1,x2,x3⟩
  exact wpS_pure (q a9 x1 x2 x3)
 case fin=>
  rintro c a9 ⟨rfl,h2,x1,x2,x3⟩
  rw[show max (max ok 1) n=n by omega]at x3
  exact⟨rfl,x1,x2,x3⟩
 case step=>
  rintro k c a9 Ox PR ⟨rfl,-,B1,K1,u1⟩
  have F6:lo+k<a₀.size:=by omega
  refine wpS_bind (wpS_mono (wpS_forRange (I:=λx c b9=>b9=a9/\∃l r,c=(none,l,r)/\l<=r/\r<=k/\r-l<=k-x/\(∀i,i<l->R rk (arrOf a9) (lo+i)<=R rk (arrOf a9) (lo+k))/\∀i,r<=i->i<k->R rk (arrOf a9) (lo+k)<R rk (arrOf a9) (lo+i))
   (Q:=λc b9=>b9=a9/\∃l r,c=(none,l,r)/\l<=k/\(∀i,i<l->R rk (arrOf a9) (lo+i)<=R rk (arrOf a9) (lo+k))/\∀i,l<=i->i<k->R rk (arrOf a9) (lo+k)<R rk (arrOf a9) (lo+i)) ?istep ?ifin
   ⟨rfl,0,k,rfl,by omega,by omega,by omega,λi hi=>by omega,λi h1 h2=>by omega⟩) ?ipost)
  case ifin=>
   rintro c b9 ⟨rfl,l,r,rfl,a1,a2,a3,a4,a5⟩
   obtain rfl:l=r:=by omega
   exact⟨rfl,l,l,rfl,a2,a4,a5⟩
  case istep=>
   rintro x c b9-hx ⟨rfl,l,r,rfl,a1,a2,a3,a4,a5⟩
   dsimp only
   refine bB (λd=>?_) (λd=>?_)
   ·obtain rfl:l=r:=by omega
    exact wpS_pure ⟨rfl,l,l,rfl,a2,a4,a5⟩
   ·refine wpS_bind (sD C g B1 F6 (by omega) ?_)
    by_cases hl:R rk (arrOf b9) (lo+k)<R rk (arrOf b9) (lo+(l+r)/2)
    ·rw[decide_eq_true hl]
     refine wpS_pure ⟨rfl,l,(l+r)/2,rfl,by omega,by omega,by omega,a4,λi b1 b2=>?_⟩
     exact Nat.lt_of_lt_of_le hl (u1 _ _ (by omega) (by omega) (by omega))
    ·rw[decide_eq_false hl]
     refine wpS_pure ⟨rfl,(l+r)/2+1,r,rfl,by omega,by omega,by omega,λi b1=>?_,a5⟩
     exact Nat.le_trans (u1 (lo+i) (lo+(l+r)/2) (by omega) (by omega) (by omega)) (by omega)
  case ipost=>
   rintro c b9 ⟨rfl,l,r,rfl,a1,a2,a3⟩
   dsimp only
   rw[moveDown'_eq]
   have mK:lo+k<(arrOf b9).size:=by rw[B1.size];exact F6
   refine wpS_bind (wpS_modify (wpS_pure ⟨rfl,by omega,B1.arr (bubble_perm _ _ _),K1.trans ⟨λi hi=>?_,rfl⟩,?_⟩))
   ·show(bubble (arrOf b9) (lo+k) (lo+k-(lo+l)))[i]?=_
    rw[getElem?_bubble mK _ (by omega),if_neg (by omega),if_neg (by omega)]
   ·intro i j h1 h2 h3
    show R rk (bubble (arrOf b9) (lo+k) (lo+k-(lo+l))) i<=R rk (bubble (arrOf b9) (lo+k) (lo+k-(lo+l))) j
    rw[IY mK (by omega),IY mK (by omega),show lo+k-(lo+k-(lo+l))=lo+l by omega]
    have v1:∀i,lo<=i->i<lo+l->R rk (arrOf b9) i<=R rk (arrOf b9) (lo+k):=λi b1 b2=>by
     have:=a2 (i-lo) (by omega)
     rw[show lo+(i-lo)=i by omega]at this
     exact this
    have v2:∀i,lo+l<=i->i<lo+k->R rk (arrOf b9) (lo+k)<=R rk (arrOf b9) i:=λi b1 b2=>by
     have:=a3 (i-lo) (by omega) (by omega)
     rw[show lo+(i-lo)=i by omega]at this
     exact Nat.le_of_lt this
    repeat' split
    all_goals first
     |(exfalso;omega)
     |exact Nat.le_refl _
     |exact v1 _ (by omega) (by omega)
     |exact v2 _ (by omega) (by omega)
     |exact u1 _ _ (by omega) (by omega) (by omega)
end
section
variable{prog:Program}{w:World}{A:Around}{E:Value->Shared->Prop}{s:Shared}{kd:SortKind}{G:Keyed->Prop}{rk:Keyed->Nat}{a₀:Array Keyed}
theorem Up.more{xs:Array Keyed}{lo x:Nat}(u:Up rk xs lo (lo+x))(h1:1<=x)(h:¬R rk xs (lo+x)<R rk xs (lo+x-1)):Up rk xs lo (lo+(x+1)):=λi j a b c=>by
 by_cases hj:j<lo+x
 ·exact u i j a b hj
 ·obtain rfl:j=lo+x:=by omega
  by_cases hi:i=lo+x
  ·subst hi
   exact Nat.le_refl _
  ·exact Nat.le_trans (u i (lo+x-1) a (by omega) (by omega)) (by omega)
theorem Up.one{xs:Array Keyed}(lo:Nat):Up rk xs lo (lo+1):=λi j a b c=>by
 obtain rfl:i=j:=by omega
 exact Nat.le_refl _
theorem Ku{xs:Array Keyed}{lo x:Nat}(d:Dn rk xs lo (lo+x))(h:lo+x<=xs.size):Up rk (mirror xs lo (lo+x) ((lo+x-lo)/2)) lo (lo+x):=λi j a b c=>by
 rw[Dr h,Dr h,if_pos (by omega),if_pos (by omega)]
 exact d _ _ (by omega) (by omega) (by omega)
theorem vM(C:vE prog w A E s kd G rk)(g:Gd G a₀){lo l6:Nat}{st:SortSt}{Q:Option Nat->SortSt->Prop}(B:Bs kd a₀ st)(hn:lo+l6<=a₀.size)(h1:1<=l6)
  (q:∀m a9,Bs kd a₀ a9->Kp lo st a9->1<=m->m<=l6->Up rk (arrOf a9) lo (lo+m)->Q (some m) a9):wpS (model prog w) A E s (countRun' lo l6) Q st:=by
 rw[countRun'_eq]
 refine wpS_bind (wpS_mono (wpS_forRange (I:=λx c a9=>a9=st/\c=(none,x)/\x<=l6/\Up rk (arrOf st) lo (lo+x))
  (Q:=λc a9=>a9=st/\∃n,c=(none,n)/\1<=n/\n<=l6/\Up rk (arrOf st) lo (lo+n)/\(n=l6\/R rk (arrOf st) (lo+n)<R rk (arrOf st) (lo+n-1))) ?step ?fin ⟨rfl,rfl,h1,Up.one lo⟩) ?post)
 case fin=>
  rintro c a9 ⟨rfl,rfl,h2,u⟩
  rw[show max 1 l6=l6 by omega]at u h2⊢
  exact⟨rfl,l6,rfl,h1,Nat.le_refl _,u,.inl rfl⟩
 case step=>
  rintro x c a9 PU Sv ⟨rfl,rfl,h2,u⟩
  dsimp only
  refine wpS_bind (sD C g B (by omega) (by omega) ?_)
  by_cases hl:R rk (arrOf a9) (lo+x)<R rk (arrOf a9) (lo+x-1)
  ·rw[decide_eq_true hl]
   exact wpS_pure ⟨rfl,x,rfl,PU,by omega,u,.inr hl⟩
  ·rw[decide_eq_false hl]
   exact wpS_pure ⟨rfl,rfl,by omega,u.more PU hl⟩
 case post=>
  rintro c a9 ⟨rfl,n,rfl,n1,n2,u,Sw⟩
  dsimp only
  refine bB (λe=>wpS_pure (q n a9 B (Kp.refl _ _) n1 n2 u)) (λe=>?_)
  have e':¬n=l6:=by simpa using e
  have fF:=Sw.resolve_left e'
  have mK:lo+n<=(arrOf a9).size:=by rw[B.size];omega
  refine bB (λgt=>wpS_bind (sD C g B (by omega) (by omega) ?_)) (λgt=>?_)
  by_cases hr:R rk (arrOf a9) lo<R rk (arrOf a9) (lo+n-1)
  ·rw[decide_eq_true hr]
   exact wpS_pure (q n a9 B (Kp.refl _ _) n1 n2 u)
  rw[decide_eq_false hr]
  refine wpS_bind (ua ?_)
  have all:∀k,lo<=k->k<lo+n->R rk (arrOf a9) k=R rk (arrOf a9) (lo+n-1):=λk k1 k2=>by
   have x1:=u lo k (Nat.le_refl _) k1 k2
   have x2:=u k (lo+n-1) k1 (by omega) (by omega)
   omega
  have B2:=B.arr (mirror_perm (arrOf a9) lo (lo+n) ((lo+n-lo)/2))
  have K2:Kp lo a9 (setArr a9 (mirror (arrOf a9) lo (lo+n) ((lo+n-lo)/2))):=⟨λk hk=>by
   show(mirror (arrOf a9) lo (lo+n) ((lo+n-lo)/2))[k]?=_
   rw[getElem?_mirror_all mK,if_neg (by omega)],rfl⟩
  have d2:Dn rk (arrOf (setArr a9 (mirror (arrOf a9) lo (lo+n) ((lo+n-lo)/2)))) lo (lo+(n+1)):=λi j a b c=>by
   show R rk (mirror (arrOf a9) lo (lo+n) ((lo+n-lo)/2)) j<=R rk (mirror (arrOf a9) lo (lo+n) ((lo+n-lo)/2)) i
   rw[ke mK all,ke mK all]
   by_cases hj:j<lo+n
   ·rw[all i (by omega) (by omega),all j (by omega) hj]
    exact Nat.le_refl _
   ·obtain rfl:j=lo+n:=by omega
    by_cases hi:i=lo+n
    ·subst hi
     exact Nat.le_refl _
    ·rw[all i a (by omega)]
     omega
  rotate_left
  obtain rfl:n=1:=by omega
  have B2:=B
  have K2:=Kp.refl lo a9
  have d2:Dn rk (arrOf a9) lo (lo+(1+1)):=λi j a b c=>by
   by_cases hi:i=j
   ·subst hi
    exact Nat.le_refl _
   ·obtain rfl:i=lo:=by omega
    obtain rfl:j=i+1:=by omega
    rw[show i+1-1=i by omega]at fF
    exact Nat.le_of_lt fF
  all_goals
   refine wpS_bind (wpS_lift (wpAny_rule ⟨rfl,?_⟩))
   refine wpS_bind (wpS_mono (wpS_forRange (I:=λx c b9=>∃ub,c=(none,x,ub)/\x<=l6/\Bs kd a₀ b9/\Kp lo a9 b9/\Dn rk (arrOf b9) lo (lo+x)/\ub+1<=x/\∀i,lo+x-(ub+1)<=i->i<lo+x->R rk (arrOf b9) i=R rk (arrOf b9) (lo+x-1))
    (Q:=λc b9=>∃x ub,c=(none,x,ub)/\1<=x/\x<=l6/\Bs kd a₀ b9/\Kp lo a9 b9/\Dn rk (arrOf b9) lo (lo+x)/\ub+1<=x/\∀i,lo+x-(ub+1)<=i->i<lo+x->R rk (arrOf b9) i=R rk (arrOf b9) (lo+x-1))
    (λx c b9 PU Sv hI=>?_) (λc b9 hI=>?_) ⟨0,rfl,by omega,B2,K2,d2,by omega,λi a b=>by congr 1;omega⟩) (λc b9 hI=>?_))
   ·obtain⟨ub,rfl,y1,B3,K3,d3,y2,y3⟩:=hI
    dsimp only
    have Bc:lo+x<=(arrOf b9).size:=by rw[B3.size];omega
    refine wpS_bind (sD C g B3 (by omega) (by omega) ?_)
    by_cases hl:R rk (arrOf b9) (lo+x)<R rk (arrOf b9) (lo+x-1)
    ·rw[decide_eq_true hl]
     have ext:∀xs:Array Keyed,(∀k,R rk xs k=R rk (arrOf b9) k)->Dn rk xs lo (lo+(x+1)):=λxs hk i j a b c=>by
      rw[hk,hk]
      by_cases hj:j<lo+x
      ·exact d3 i j a b hj
      ·obtain rfl:j=lo+x:=by omega
       by_cases hi:i=lo+x
       ·subst hi
        exact Nat.le_refl _
       ·exact Nat.le_trans (Nat.le_of_lt hl) (d3 i (lo+x-1) a (by omega) (by omega))
     refine bB (λ_=>?_) (λz=>absurd rfl z)
     refine bB (λz=>wpS_bind (ua (wpS_pure ?_))) (λz=>wpS_pure ?_)
     ·refine⟨0,rfl,by omega,B3.arr (mirror_perm _ _ _ _),K3.trans ⟨λk hk=>?_,rfl⟩,ext _ (ke Bc y3),by omega,λi a b=>by congr 1;omega⟩
      show(mirror (arrOf b9) _ _ _)[k]?=_
      rw[getElem?_mirror_all Bc,if_neg (by omega)]
     ·exact⟨0,rfl,by omega,B3,K3,ext _ (λ_=>rfl),by omega,λi a b=>by congr 1;omega⟩
    ·rw[decide_eq_false hl]
     refine wpS_bind (sD C g B3 (by omega) (by omega) ?_)
     by_cases PX:R rk (arrOf b9) (lo+x-1)<R rk (arrOf b9) (lo+x)
     ·rw[decide_eq_true PX]
      exact wpS_pure ⟨x,ub,rfl,by omega,by omega,B3,K3,d3,y2,y3⟩
     ·rw[decide_eq_false PX]
      have ee:R rk (arrOf b9) (lo+x)=R rk (arrOf b9) (lo+x-1):=by omega
      refine wpS_pure ⟨ub+1,rfl,by omega,B3,K3,λi j a b c=>?_,by omega,λi a b=>?_⟩
      ·by_cases hj:j<lo+x
       ·exact d3 i j a b hj
       ·obtain rfl:j=lo+x:=by omega
        by_cases hi:i=lo+x
        ·subst hi
         exact Nat.le_refl _
        ·rw[ee]
         exact d3 i (lo+x-1) a (by omega) (by omega)
      ·rw[show lo+(x+1)-1=lo+x by omega]
       by_cases hi:i=lo+x
       ·rw[hi]
       ·rw[ee]
        exact y3 i (by omega) (by omega)
   ·obtain⟨ub,rfl,y1,B3,K3,d3,y2,y3⟩:=hI
    exact⟨_,ub,rfl,by omega,y1,B3,K3,d3,y2,y3⟩
   ·obtain⟨x,ub,rfl,y0,y1,B3,K3,d3,y2,y3⟩:=hI
    dsimp only
    have Bc:lo+x<=(arrOf b9).size:=by rw[B3.size];omega
    refine bB (λz=>wpS_bind (ua ?_)) (λz=>?_)
    have B4:=B3.arr (mirror_perm (arrOf b9) (lo+x-(ub+1)) (lo+x) ((lo+x-(lo+x-(ub+1)))/2))
    have K4:Kp lo a9 (setArr b9 (mirror (arrOf b9) (lo+x-(ub+1)) (lo+x) ((lo+x-(lo+x-(ub+1)))/2))):=K3.trans ⟨λk hk=>by
     show(mirror (arrOf b9) _ _ _)[k]?=_
     rw[getElem?_mirror_all Bc,if_neg (by omega)],rfl⟩
    have d4:Dn rk (arrOf (setArr b9 (mirror (arrOf b9) (lo+x-(ub+1)) (lo+x) ((lo+x-(lo+x-(ub+1)))/2)))) lo (lo+x):=λi j a b c=>by
     show R rk (mirror (arrOf b9) _ _ _) j<=R rk (mirror (arrOf b9) _ _ _) i
     rw[ke Bc y3,ke Bc y3]
     exact d3 i j a b c
    rotate_left
    have B4:=B3
    have K4:=K3
    have d4:=d3
    all_goals
     refine wpS_bind (ua ?_)
     have Rk:=B4.size
     have Sy:lo+x<=a₀.size:=by omega
     have B5:=B4.arr (mirror_perm _ lo (lo+x) ((lo+x-lo)/2))
     refine wpS_bind (wpS_mono (wpS_forRange (I:=λy c i6=>c=(none,y)/\y<=l6/\Bs kd a₀ i6/\Kp lo a9 i6/\Up rk (arrOf i6) lo (lo+y))
      (Q:=λc i6=>∃y,c=(none,y)/\1<=y/\y<=l6/\Bs kd a₀ i6/\Kp lo a9 i6/\Up rk (arrOf i6) lo (lo+y))
      (λy c i6 Ue Ug hI=>?_) (λc i6 hI=>?_) ⟨rfl,y1,B5,K4.trans ⟨λk hk=>?_,rfl⟩,λi j a b c=>?_⟩) (λc i6 hI=>?_))
     ·obtain⟨rfl,z1,B6,K6,u6⟩:=hI
      dsimp only
      refine wpS_bind (sD C g B6 (by omega) (by omega) ?_)
      by_cases hl:R rk (arrOf i6) (lo+y)<R rk (arrOf i6) (lo+y-1)
      ·rw[decide_eq_true hl]
       exact wpS_pure ⟨y,rfl,by omega,by omega,B6,K6,u6⟩
      ·rw[decide_eq_false hl]
       exact wpS_pure ⟨rfl,by omega,B6,K6,u6.more (by omega) hl⟩
     ·obtain⟨rfl,z1,B6,K6,u6⟩:=hI
      exact⟨_,rfl,by omega,z1,B6,K6,u6⟩
     ·show(mirror _ lo (lo+x) _)[k]?=_
      rw[getElem?_mirror_all (by omega),if_neg (by omega)]
     ·exact Ku d4 (by omega) i j a b c
     ·obtain⟨y,rfl,z0,z1,B6,K6,u6⟩:=hI
      exact wpS_pure (q y i6 B6 K6 z0 z1 u6)
end
noncomputable def Rn(rk:Keyed->Nat)(l:List Keyed):Nat->List (Nat×Nat×Nat)->Nat->Prop
 |b,[],e=>b=e
 |b,r::rs,e=>r.1=b/\1<=r.2.1/\Sd rk ((l.drop b).take r.2.1)/\Rn rk l (b+r.2.1) rs e
theorem Rn.le{rk:Keyed->Nat}{l:List Keyed}:∀{rs:List (Nat×Nat×Nat)} {b e:Nat},Rn rk l b rs e->b+rs.length<=e
 |[],b,e,h=>by
  have h':b=e:=h
  simp[h']
 |r::rs,b,e,h=>by
  obtain⟨h1,h2,h3,h4⟩:=h
  have:=h4.le
  rw[List.length_cons]
  omega
theorem Rn.app{rk:Keyed->Nat}{l:List Keyed}:∀{us vs:List (Nat×Nat×Nat)} {b e:Nat},Rn rk l b (us++vs) e↔∃m,Rn rk l b us m/\Rn rk l m vs e
 |[],vs,b,e=>⟨λh=>⟨b,rfl,h⟩,λ⟨m,h1,h2⟩=>by
  have Kv:b=m:=h1
  subst Kv
  exact h2⟩
 |r::us,vs,b,e=>by
  constructor
  ·rintro⟨h1,h2,h3,h4⟩
   obtain⟨m,h5,h6⟩:=Rn.app.mp h4
   exact⟨m,⟨h1,h2,h3,h5⟩,h6⟩
  ·rintro⟨m,⟨h1,h2,h3,h5⟩,h6⟩
   exact⟨h1,h2,h3,Rn.app.mpr ⟨m,h5,h6⟩⟩
theorem Rn.same{rk:Keyed->Nat}{l l':List Keyed}:∀{rs:List (Nat×Nat×Nat)} {b e:Nat},Rn rk l b rs e->(∀i,b<=i->i<e->l[i]?=l'[i]?)->Rn rk l' b rs e
 |[],b,e,h,_=>h
 |r::rs,b,e,h,s=>by
  obtain⟨h1,h2,h3,h4⟩:=h
  have hl:=h4.le
  refine⟨h1,h2,?_,h4.same λi a c=>s i (by omega) c⟩
  rw[<-vL λi a c=>s i a (by omega)]
  exact h3
theorem Rn.mod{rk:Keyed->Nat}{l:List Keyed}(f:Nat×Nat×Nat->Nat×Nat×Nat)(hf:∀r,(f r).1=r.1/\(f r).2.1=r.2.1):∀{rs:List (Nat×Nat×Nat)} {b e:Nat} (i:Nat),Rn rk l b rs e->Rn rk l b (rs.modify i f) e
 |[],b,e,i,h=>by
  rw[List.modify_nil]
  exact h
 |r::rs,b,e,0,h=>by
  rw[List.modify_zero_cons]
  obtain⟨h1,h2,h3,h4⟩:=h
  refine⟨(hf r).1.trans h1,?_,?_,?_⟩
  ·rw[(hf r).2]
   exact h2
  ·rw[(hf r).2]
   exact h3
  ·rw[(hf r).2]
   exact h4
 |r::rs,b,e,i+1,h=>by
  rw[List.modify_succ_cons]
  obtain⟨h1,h2,h3,h4⟩:=h
  exact⟨h1,h2,h3,h4.mod f hf i⟩
theorem Rn.join{rk:Keyed->Nat}{l l' m:List Keyed}{us vs:List (Nat×Nat×Nat)}{e sa na pw nb Ou:Nat}(h:Rn rk l 0 (us++(sa,na,pw)::(sa+na,nb,Ou)::vs) e)(hl:sa+na+nb<=l.length)
  (e':l'=l.take sa++m++l.drop (sa+na+nb))(pm:m.Perm ((l.drop sa).take (na+nb)))(sm:Sd rk m):Rn rk l' 0 (us++(sa,na+nb,pw)::vs) e:=by
 obtain⟨b,h1,h2⟩:=Rn.app.mp h
 obtain⟨h3,h4,h5,h6⟩:=h2
 obtain⟨h7,h8,h9,Sz⟩:=h6
 have SA:sa=b:=h3
 subst SA
 have ml:m.length=na+nb:=by rw[pm.length_eq,iR (by omega)]
 have tl:(l.take sa).length=sa:=by rw[List.length_take];omega
 have lo:∀i,i<sa->l[i]?=l'[i]?:=λi hi=>by
  rw[e',List.append_assoc,List.getElem?_append_left (by omega),List.getElem?_take,if_pos hi]
 have hi:∀i,sa+na+nb<=i->l[i]?=l'[i]?:=λi hi=>by
  rw[e',List.getElem?_append_right (by rw[List.length_append];omega),List.length_append,List.getElem?_drop]
  congr 1
  omega
 refine Rn.app.mpr ⟨sa,h1.same λi _ c=>lo i c,rfl,Nat.le_trans h4 (Nat.le_add_right _ _),?_,?_⟩
 ·have:(l'.drop sa).take (na+nb)=m:=by
    rw[e',List.append_assoc,List.drop_append_of_le_length (by omega),List.drop_eq_nil_of_le (by omega),List.nil_append,List.take_append_of_le_length (by omega),List.take_of_length_le (by omega)]
  show Sd rk ((l'.drop sa).take (na+nb))
  rw[this]
  exact sm
 ·show Rn rk l' (sa+(na+nb)) vs e
  rw[<-Nat.add_assoc]
  exact Sz.same λi a _=>hi i a
theorem Bd{α:Type}{p:Array α}{i:Nat}{x y:α}(h1:p[i]?=some x)(h2:p[i+1]?=some y)(z:α):∃us vs,p.toList=us++x::y::vs/\((p.setIfInBounds i z).eraseIdxIfInBounds (i+1)).toList=us++z::vs/\us.length=i:=by
 have k1:p.toList[i]?=some x:=by simpa using h1
 have k2:p.toList[i+1]?=some y:=by simpa using h2
 obtain⟨l1,e1⟩:=List.getElem?_eq_some_iff.mp k1
 obtain⟨l2,e2⟩:=List.getElem?_eq_some_iff.mp k2
 have d:p.toList.drop i=x::y::p.toList.drop (i+1+1):=by rw[List.drop_eq_getElem_cons l1,List.drop_eq_getElem_cons l2,e1,e2]
 have e:p.toList=p.toList.take i++x::y::p.toList.drop (i+1+1):=by rw[<-d,List.take_append_drop]
 have tl:(p.toList.take i).length=i:=by rw[List.length_take];omega
 refine⟨p.toList.take i,p.toList.drop (i+1+1),e,?_,tl⟩
 rw[Array.toList_eraseIdxIfInBounds,Array.toList_setIfInBounds]
 have:p.toList.set i z=p.toList.take i++z::y::p.toList.drop (i+1+1):=by
  rw[e]
  rw[List.set_append_right _ _ (by omega),tl,Nat.sub_self]
  simp[tl]
  exact congrArg (List.drop (i+1+1)) e
 rw[this,List.eraseIdx_append_of_length_le (by omega),tl,show i+1-i=1 by omega]
 rfl
section
variable{prog:Program}{w:World}{A:Around}{E:Value->Shared->Prop}{s:Shared}{kd:SortKind}{G:Keyed->Prop}{rk:Keyed->Nat}{a₀:Array Keyed}
theorem zF(C:vE prog w A E s kd G rk)(g:Gd G a₀){st:SortSt}{Q:Bool->SortSt->Prop}{i e:Nat}(B:Bs kd a₀ st)(r:Rn rk (arrOf st).toList 0 (pendingOf st).toList e)(he:e<=a₀.size)(hi:i+1<(pendingOf st).size)
  (q:∀a9,Bs kd a₀ a9->Rn rk (arrOf a9).toList 0 (pendingOf a9).toList e->(pendingOf a9).size+1=(pendingOf st).size->(∀k,e<=k->(arrOf a9).toList[k]?=(arrOf st).toList[k]?)->Q true a9):wpS (model prog w) A E s (mergeAt' i) Q st:=by
 obtain⟨⟨sa,na,pw⟩,e1⟩:∃x,(pendingOf st)[i]?=some x:=⟨_,getElem?_pos _ i (by omega)⟩
 obtain⟨⟨sb,nb,Ou⟩,e2⟩:∃x,(pendingOf st)[i+1]?=some x:=⟨_,getElem?_pos _ (i+1) hi⟩
 obtain⟨us,vs,p1,p2,p3⟩:=Bd e1 e2 (sa,na+nb,pw)
 have r':=r
 rw[p1]at r'
 obtain⟨b,h1,h2,h3,h4,h5,h6,h7,h8⟩:=Rn.app.mp r'
 have hb:sa=b:=h2
 subst hb
 have PY:sb=sa+na:=h5
 subst PY
 have hle:=h8.le
 have mK:=B.size
 dsimp only at h3 h4 h6 h7 hle
 refine x6 C B.k (B.gd g) B.f e1 e2 h3 h6 (by omega) h4 h7 λa9 m k1 k2 k3 k4 k5 k6=>?_
 have SD:(arrOf a9).toList.Perm (arrOf st).toList:=by
  rw[k4]
  have:=n8 (arrOf st).toList sa (na+nb)
  rw[<-Nat.add_assoc]at this
  conv=>rhs;rw[this]
  exact(k5.append_left _).append_right _
 refine q a9 ⟨(Array.perm_iff_toList_perm.mpr SD).trans B.pm,k1,k2⟩ ?_ ?_ λk hk=>?_
 ·rw[k3,p2]
  exact Rn.join r' (by rw[Array.length_toList];omega) k4 k5 k6
 ·rw[k3,<-Array.length_toList,p2,<-Array.length_toList,p1]
  simp only[List.length_append,List.length_cons]
  omega
 ·rw[k4,List.getElem?_append_right (by rw[List.length_append,List.length_take,k5.length_eq,iR (by rw[Array.length_toList];omega)];omega),List.getElem?_drop]
  congr 1
  rw[List.length_append,List.length_take,k5.length_eq,iR (by rw[Array.length_toList];omega),Array.length_toList]
  omega
theorem Kw{c:Prop}[Decidable c]{a b n:Nat}(h1:a+1<n)(h2:b+1<n):(if c then a else b)+1<n:=by
 split
 ·exact h1
 ·exact h2
theorem zG{st:SortSt}{lo n x:Nat}(B:Bs kd a₀ st)(r:Rn rk (arrOf st).toList 0 (pendingOf st).toList lo)(sd:Sd rk (((arrOf st).toList.drop lo).take n))(h1:1<=n)(hn:lo+n<=a₀.size)(hx:x<=lo\/lo=a₀.size):
  ∃Nd,((none:Option Unit),lo+n)=(none,Nd)/\Bs kd a₀ (setPending st ((pendingOf st).push (lo,n,0)))/\Nd<=a₀.size/\(x+1<=Nd\/Nd=a₀.size)/\Rn rk (arrOf (setPending st ((pendingOf st).push (lo,n,0)))).toList 0 (pendingOf (setPending st ((pendingOf st).push (lo,n,0)))).toList Nd:=by
 refine⟨lo+n,rfl,⟨B.pm,B.k,B.f⟩,hn,by omega,?_⟩
 show Rn rk (arrOf st).toList 0 ((pendingOf st).push (lo,n,0)).toList (lo+n)
 rw[Array.toList_push]
 exact Rn.app.mpr ⟨lo,r,rfl,h1,sd,rfl⟩
theorem vN(C:vE prog w A E s kd G rk)(g:Gd G a₀){st:SortSt}{Q:Unit->SortSt->Prop}(B:Bs kd a₀ st)(hp:pendingOf st=#[])
  (q:∀a9,Bs kd a₀ a9->Sd rk (arrOf a9).toList->Q () a9):wpS (model prog w) A E s sortRuns' Q st:=by
 rw[sortRuns'_eq]
 refine wpS_bind (wpS_get ?_)
 dsimp only
 rw[B.size]
 refine wpS_bind (wpS_mono (wpS_forRange (I:=λx c a9=>∃lo,c=(none,lo)/\Bs kd a₀ a9/\lo<=a₀.size/\(x<=lo\/lo=a₀.size)/\Rn rk (arrOf a9).toList 0 (pendingOf a9).toList lo)
  (Q:=λc a9=>∃lo,c=(none,lo)/\lo=a₀.size/\Bs kd a₀ a9/\Rn rk (arrOf a9).toList 0 (pendingOf a9).toList lo) ?step ?fin ⟨0,rfl,B,Nat.zero_le _,.inl (Nat.le_refl _),by rw[hp];rfl⟩) ?post)
 case fin=>
  rintro c a9 ⟨lo,rfl,B1,h1,h2,r1⟩
  exact⟨lo,rfl,by omega,B1,r1⟩
 case step=>
  rintro x c a9-hx ⟨lo,rfl,B1,h1,h2,r1⟩
  dsimp only
  refine bB (λd=>wpS_pure ⟨lo,rfl,by omega,B1,r1⟩) (λd=>?_)
  have d':lo<a₀.size:=by omega
  refine wpS_bind (vM C g B1 (by omega) (by omega) λm b9 B2 K2 m1 m2 u2=>?_)
  dsimp only
  have keepR:∀{rA:SortSt},Kp lo a9 rA->Rn rk (arrOf rA).toList 0 (pendingOf rA).toList lo:=λ{rA} K=>by
   rw[K.2]
   refine r1.same λi _ hi=>?_
   rw[Array.getElem?_toList,Array.getElem?_toList]
   exact(K.1 i hi).symm
  refine bB (λz=>wpS_bind (wpS_lift (wpAny_rule ⟨rfl,wpS_bind (rK C g (n:=min (a₀.size-lo) (minRun' a₀.size a₀.size 0)) B2 (by omega) (by omega) m1 u2 λlx B4 K3 u4=>bB (λy=>absurd y (by decide)) λy=>?_)⟩))) (λz=>?_)
  have hn:lo+min (a₀.size-lo) (minRun' a₀.size a₀.size 0)<=a₀.size:=by omega
  have Oy:1<=min (a₀.size-lo) (minRun' a₀.size a₀.size 0):=by omega
  have K4:=K2.trans K3
  generalize min (a₀.size-lo) (minRun' a₀.size a₀.size 0)=nn at hn Oy u4⊢
  rotate_left
  have hn:lo+m<=a₀.size:=by omega
  have Oy:1<=m:=m1
  obtain⟨lx,rfl⟩:∃lx,lx=b9:=⟨_,rfl⟩
  obtain⟨nn,rfl⟩:∃nn,nn=m:=⟨_,rfl⟩
  have K4:=K2
  have B4:=B2
  have u4:=u2
  all_goals
   refine wpS_bind (wpS_get ?_)
   have r4:=keepR K4
   have s4:=u4.sd (by rw[B4.size];exact hn)
   cases eb:(pendingOf lx).back? with
   |none=>exact wpS_bind (wpS_modify (wpS_pure (zG B4 r4 s4 Oy hn h2)))
   |some top=>
    obtain⟨s1,n1,p1⟩:=top
    dsimp only
    refine wpS_bind (wpS_mono (wpS_forRange (I:=λ_ c i6=>c=(none,())/\Bs kd a₀ i6/\Rn rk (arrOf i6).toList 0 (pendingOf i6).toList lo/\∀k,lo<=k->(arrOf i6).toList[k]?=(arrOf lx).toList[k]?)
     (Q:=λc i6=>c=(none,())/\Bs kd a₀ i6/\Rn rk (arrOf i6).toList 0 (pendingOf i6).toList lo/\∀k,lo<=k->(arrOf i6).toList[k]?=(arrOf lx).toList[k]?) (λy c i6 _ hy hI=>?_) (λ_ _ hI=>hI) ⟨rfl,B4,r4,λ_ _=>rfl⟩) (λc i6 hI=>?_))
    ·obtain⟨rfl,B5,r5,k5⟩:=hI
     refine wpS_bind (wpS_get ?_)
     by_cases hs:(pendingOf i6).size>1
     ·rw[if_pos hs]
      obtain⟨⟨f1,f2,Rl⟩,e5⟩:∃z,(pendingOf i6)[(pendingOf i6).size-2]?=some z:=⟨_,getElem?_pos _ _ (by omega)⟩
      rw[e5]
      dsimp only
      refine bB (λ_=>wpS_pure ⟨rfl,B5,r5,k5⟩) (λ_=>?_)
      exact wpS_bind (zF C g B5 r5 h1 (by omega) λUh B6 r6 _ k6=>bB (λy=>absurd y (by decide)) λ_=>wpS_pure ⟨rfl,B6,r6,λk hk=>(k6 k hk).trans (k5 k hk)⟩)
     ·rw[if_neg hs]
      exact wpS_pure ⟨rfl,B5,r5,k5⟩
    ·obtain⟨rfl,B5,r5,k5⟩:=hI
     dsimp only
     refine wpS_bind (wpS_modify (wpS_bind (wpS_modify (wpS_pure ?_))))
     refine zG (st:=setPending i6 _) ⟨B5.pm,B5.k,B5.f⟩ ?_ ?_ Oy hn h2
     ·show Rn rk (arrOf i6).toList 0 ((pendingOf i6).modify _ _).toList lo
      rw[Array.toList_modify]
      refine Rn.mod _ ?_ _ r5
      exact λ_=>⟨rfl,rfl⟩
     ·have:=s4
      rw[vL λi a _=>(k5 i a).symm]at this
      exact this
 case post=>
  rintro c a9 ⟨lo,rfl,rfl,B1,r1⟩
  dsimp only
  refine wpS_bind (wpS_mono (wpS_forRange (I:=λx c b9=>c=(none,())/\Bs kd a₀ b9/\Rn rk (arrOf b9).toList 0 (pendingOf b9).toList a₀.size/\((pendingOf b9).size+x<=a₀.size\/(pendingOf b9).size<=1))
   (Q:=λc b9=>c=(none,())/\Bs kd a₀ b9/\Rn rk (arrOf b9).toList 0 (pendingOf b9).toList a₀.size/\(pendingOf b9).size<=1) (λx c b9 _ hx hI=>?_) (λc b9 hI=>?_) ⟨rfl,B1,r1,?_⟩) (λc b9 hI=>?_))
  ·obtain⟨rfl,B2,r2,h2⟩:=hI
   refine wpS_bind (wpS_get ?_)
   refine bB (λd=>wpS_pure ⟨rfl,B2,r2,d⟩) (λd=>?_)
   refine wpS_bind (zF C g B2 r2 (Nat.le_refl _) ?_ λrA B3 r3 h3 _=>bB (λy=>absurd y (by decide)) λ_=>wpS_pure ⟨rfl,B3,r3,by omega⟩)
   exact Kw (by omega) (by omega)
  ·obtain⟨rfl,B2,r2,h2⟩:=hI
   exact⟨rfl,B2,r2,by omega⟩
  ·have:=r1.le
   rw[Array.length_toList]at this
   exact .inl (by omega)
  ·obtain⟨rfl,B2,r2,h2⟩:=hI
   dsimp only
   refine wpS_pure (q b9 B2 ?_)
   have hl:(pendingOf b9).toList.length<=1:=by rw[Array.length_toList];exact h2
   have mK:(arrOf b9).toList.length=a₀.size:=by rw[Array.length_toList,B2.size]
   cases e:(pendingOf b9).toList with
   |nil=>
    rw[e]at r2
    have z:0=a₀.size:=r2
    have:(arrOf b9).toList=[]:=List.eq_nil_of_length_eq_zero (by omega)
    rw[this]
    exact Sd.nil
   |cons r rs=>
    cases rs with
    |cons _ _=>
     rw[e]at hl
     simp at hl
    |nil=>
     rw[e]at r2
     obtain⟨y1,y2,y3,y4⟩:=r2
     have Ui:0+r.2.1=a₀.size:=y4
     rw[List.drop_zero,List.take_of_length_le (by omega)]at y3
     exact y3
end
end TS
namespace L2
open PySem PySem.Spec PyProof.Rows
noncomputable def l7(sc:Scope)(env:Env):List (Str×Addr):=sc.names.foldl (λcs p=>if p.2=.free then(p.1,(env.cells.lookup p.1).getD 0)::cs else cs) []
theorem uc(env:Env):∀(ns:List (Str×NameKind)) (acc:List (Str×Addr)),(∀p∈ns,p.2=.free->∃c,env.cells.lookup p.1=some c)->
  (forIn ns acc (λ(x:Str×NameKind) (r:List (Str×Addr))=>match x with|(name,kind)=>if(kind==.free)=true then(do let c<-cellOf env name;pure (ForInStep.yield ((name,c)::r)))else pure (ForInStep.yield r)):Sem _)=
    pure (ns.foldl (λcs p=>if p.2=.free then(p.1,(env.cells.lookup p.1).getD 0)::cs else cs) acc)
 |[],acc,_=>rfl
 |(n,k)::ns,acc,h=>by
  rw[List.forIn_cons]
  by_cases hk:k=.free
  ·subst hk
   obtain⟨c,hc⟩:=h (n,.free) (List.mem_cons_self ..) rfl
   have e1:cellOf env n=pure c:=by
    unfold cellOf
    rw[hc]
   dsimp only
   rw[if_pos (by rfl),e1,pure_bind,pure_bind,List.foldl_cons,if_pos rfl,hc]
   exact uc env ns _ λp hp=>h p (List.mem_cons_of_mem _ hp)
  ·dsimp only
   rw[if_neg (by simpa using hk),pure_bind,List.foldl_cons,if_neg hk]
   exact uc env ns _ λp hp=>h p (List.mem_cons_of_mem _ hp)
theorem pf{sc:Scope}{env:Env}(h:∀p∈sc.names,p.2=.free->∃c,env.cells.lookup p.1=some c):closureFor sc env=pure (l7 sc env):=by
 unfold closureFor l7
 have:=uc env sc.names [] h
 exact(congrArg (λm:Sem (List (Str×Addr))=>m>>=λr=>pure r) this).trans rfl
theorem ud(env:Env):∀(ns:List (Str×NameKind)) (acc:List (Str×Addr)) (y:Str) (c:Addr),(ns.foldl (λcs p=>if p.2=.free then(p.1,(env.cells.lookup p.1).getD 0)::cs else cs) acc).lookup y=some c->
  acc.lookup y=some c\/((y,NameKind.free)∈ns/\c=(env.cells.lookup y).getD 0)
 |[],acc,y,c,h=>.inl h
 |(n,k)::ns,acc,y,c,h=>by
  rw[List.foldl_cons]at h
  rcases ud env ns _ y c h with h1|⟨h1,h2⟩
  ·by_cases hk:k=.free
   ·rw[if_pos hk,List.lookup_cons]at h1
    by_cases hy:(y==n)=true
    ·rw[hy]at h1
     have e:y=n:=eq_of_beq hy
     subst e
     exact .inr ⟨by rw[hk];exact List.mem_cons_self ..,(Option.some.inj h1).symm⟩
    ·rw[Bool.not_eq_true]at hy
     rw[hy]at h1
     exact .inl h1
   ·rw[if_neg hk]at h1
    exact .inl h1
  ·exact .inr ⟨List.mem_cons_of_mem _ h1,h2⟩
theorem pS(env:Env):∀(ns:List (Str×NameKind)) (acc:List (Str×Addr)) (y:Str),((y,NameKind.free)∈ns\/∃c,acc.lookup y=some c)->∃c,(ns.foldl (λcs p=>if p.2=.free then(p.1,(env.cells.lookup p.1).getD 0)::cs else cs) acc).lookup y=some c
 |[],acc,y,h=>by
  rcases h with h|h
  ·cases h
  ·exact h
 |(n,k)::ns,acc,y,h=>by
  rw[List.foldl_cons]
  refine pS env ns _ y ?_
  rcases h with h|⟨c,h⟩
  ·rcases List.mem_cons.mp h with e|h
   ·injection e with e1 e2
    subst e1 e2
    rw[if_pos rfl,List.lookup_cons]
    exact .inr ⟨_,by rw[beq_self_eq_true]⟩
   ·exact .inl h
  ·refine .inr ?_
   split
   ·rw[List.lookup_cons]
    cases y==n with
    |true=>exact⟨_,rfl⟩
    |false=>exact⟨c,h⟩
   ·exact⟨c,h⟩
structure ir(kf:Scope)(N:List Str)(sc:Scope)(x:Str)(ys:List Str):Prop where
 kind:sc.kind=.function
 xloc:sc.names.lookup x=some .local
 nocell:∀p∈sc.names,p.2≠.cell
 locs:∀p∈sc.names,p.2=.local->sc.names.lookup p.1=some .local
 free:∀p∈sc.names,p.2=.free->kf.names.lookup p.1=some .cell\/kf.names.lookup p.1=some .free
 nd:(x::ys).Nodup
 len:ys.length=N.length
 pl:∀p∈ys.zip N,sc.names.lookup p.1=some .free->p.1=p.2
 nl:∀y∈ys,sc.names.lookup y≠some .local
noncomputable def kg(kf:Scope)(N:List Str)(sc:Scope)(x:Str)(ys:List Str):Bool:=
 decide (sc.kind=.function)&&decide (sc.names.lookup x=some .local)&&decide (∀p∈sc.names,p.2≠.cell)&&decide (∀p∈sc.names,p.2=.local->sc.names.lookup p.1=some .local)&&
 decide (∀p∈sc.names,p.2=.free->kf.names.lookup p.1=some .cell\/kf.names.lookup p.1=some .free)&&decide ((x::ys).Nodup)&&decide (ys.length=N.length)&&
 decide (∀p∈ys.zip N,sc.names.lookup p.1=some .free->p.1=p.2)&&decide (∀y∈ys,sc.names.lookup y≠some .local)
theorem ir.of{kf:Scope}{N:List Str}{sc:Scope}{x:Str}{ys:List Str}(h:kg kf N sc x ys=true):ir kf N sc x ys:=by
 unfold kg at h
 simp only[Bool.and_eq_true,decide_eq_true_eq]at h
 obtain⟨⟨⟨⟨⟨⟨⟨⟨h1,h2⟩,h3⟩,h4⟩,h5⟩,h6⟩,h7⟩,h8⟩,h9⟩:=h
 exact⟨h1,h2,h3,h4,h5,h6,h7,h8,h9⟩
noncomputable def Cx.nI(X:Cx)(sc:Scope)(x:Str)(ys:List Str)(ex:List Addr)(C:Addr)(s:Shared)(H:Hp):Cx where
 prog:=X.prog
 w:=X.w
 K:=X.K
 mg:=X.mg
 base:=X.base
 A:=X.A
 N:=x::ys
 s₀:=s
 H₀:=H
 env:=compEnvC sc (l7 sc X.env) C X.env
 outer:=X.stack
 stack:=X.stack
 ex:=ex
 fn:=λ_=>false
 calm:=X.calm
 pn:=[]
 xe:=λ_ _=>False
theorem bx{env:Env}:∀{ns:List (Str×NameKind)} {y:Str} {k:NameKind},(ns.map λ(n,k)=>if(k==NameKind.free&&env.scope.kind==.function&&env.kindOf n==some .cell)then(n,NameKind.cell)else(n,k)).lookup y=some k->
  ns.lookup y=some k\/(ns.lookup y=some .free/\k=.cell)
 |[],y,k,h=>by cases h
 |(n,j)::ns,y,k,h=>by
  rw[List.map_cons]at h
  dsimp only at h
  cases hy:y==n with
  |true=>
   by_cases hc:(j==NameKind.free&&env.scope.kind==.function&&env.kindOf n==some .cell)=true
   ·rw[if_pos hc,List.lookup_cons,hy]at h
    have hj:j=.free:=by
     simp only[Bool.and_eq_true]at hc
     exact eq_of_beq hc.1.1
    refine .inr ⟨?_,(Option.some.inj h).symm⟩
    rw[List.lookup_cons,hy,hj]
   ·rw[if_neg hc,List.lookup_cons,hy]at h
    refine .inl ?_
    rw[List.lookup_cons,hy]
    exact h
  |false=>
   have h':(ns.map λ(n,k)=>if(k==NameKind.free&&env.scope.kind==.function&&env.kindOf n==some .cell)then(n,NameKind.cell)else(n,k)).lookup y=some k:=by
    by_cases hc:(j==NameKind.free&&env.scope.kind==.function&&env.kindOf n==some .cell)=true
    ·rw[if_pos hc,List.lookup_cons,hy]at h
     exact h
    ·rw[if_neg hc,List.lookup_cons,hy]at h
     exact h
   rw[List.lookup_cons,hy]
   exact bx h'
section
variable{X:Cx}{pins:List (Addr×Obj)}{σ:St}{H:Hp}{s:Shared}{sc:Scope}{x:Str}{ys:List Str}
theorem ir.cell(cs:ir X.env.scope X.N sc x ys)(I:Inv X pins σ H s){y:Str}(h:(y,NameKind.free)∈sc.names):∃c,X.env.cells.lookup y=some c:=I.ok.has y (cs.free _ h rfl)
theorem ir.cl(cs:ir X.env.scope X.N sc x ys)(I:Inv X pins σ H s){y:Str}{c:Addr}(h:(l7 sc X.env).lookup y=some c):X.env.cells.lookup y=some c/\(y,NameKind.free)∈sc.names:=by
 rcases ud X.env sc.names [] y c h with h1|⟨h1,h2⟩
 ·cases h1
 ·obtain⟨d,hd⟩:=cs.cell I h1
  rw[hd]at h2
  rw[h2]
  exact⟨hd,h1⟩
theorem Kx(cs:ir X.env.scope X.N sc x ys)(I:Inv X pins σ H s){fp:List Addr}(hf:∀b∈fp,j9 X pins H b)(fF:∀b∈fp,b<s.heap.objs.size){C:Addr}(hC:s.heap.objs.size<=C):(X.nI sc x ys fp C s H).Ok where
 mod:=I.ok.mod
 kind:=cs.kind
 glob:=I.ok.glob
 blt:=I.ok.blt
 above:=hC
 inj:=λy z c h1 h2=>I.ok.inj y z c (cs.cl I h1).1 (cs.cl I h2).1
 has:=λy hy=>by
  have PZ:(relabel sc X.env).names.lookup y=some .cell\/(relabel sc X.env).names.lookup y=some .free:=hy
  have hf:(y,NameKind.free)∈sc.names:=by
   rcases PZ with h|h
   ·rcases bx h with h1|⟨h1,_⟩
    ·exact absurd rfl (cs.nocell _ (PySem.mem_of_lookup h1))
    ·exact PySem.mem_of_lookup h1
   ·rcases bx h with h1|⟨h1,_⟩
    ·exact PySem.mem_of_lookup h1
    ·exact PySem.mem_of_lookup h1
  exact pS X.env sc.names [] y (.inl hf)
 cab:=λy c h=>by cases h
 hd:=I.ok.hd
 frames:=I.ok.frames
 stk:=.inl rfl
 exf:=λb hb=>⟨λe=>by
  have:=fF b hb
  rw[e]at this
  exact absurd (Nat.lt_of_lt_of_le this hC) (Nat.lt_irrefl _),λy c h=>(hf b hb).2.2.2.2.1 y c (cs.cl I h).1⟩
 bs:=I.bs
 bsz:=Nat.le_trans I.ok.bsz I.sz
 noex:=λb o e hb=>by
  rcases(hf b hb).2.2.2.1 with h|h
  ·exact I.ok.noex b o e h
  ·exact absurd (Nat.lt_of_lt_of_le (Heap.lt_size e) (Nat.le_trans I.ok.bsz h)) (Nat.lt_irrefl _)
 exfs:=λb hb h=>(List.mem_cons.mp (I.tE b h)).elim (hf b hb).2.1 (hf b hb).2.2.1
 funs:=I.stack
 frf:=I.tF
end
noncomputable def Ds(X:Cx)(ifs:List Expr)(t:TT):Prop:=
 ∀(pins:List (Addr×Obj)) (s:Shared) (σ:St) (H:Hp) (Q:Bool->Hp->Prop),Inv X pins σ H s->t σ H Q->
  wpAny (model X.prog X.w) X.A (forIn ifs true λc r=>if r=true then do let ok<-isTrue c X.env (eval c X.env);pure (ForInStep.yield ok)else pure (ForInStep.yield r)) (TP X pins σ Q) X.xe s
theorem vO{X:Cx}:Ds X [] (λ_ H Q=>Q true H):=λpins s σ H Q I h=>wpAny_tests_nil ⟨H,I,h⟩
theorem vP{X:Cx}{c:Expr}{t:TT}(h:PT X c t):Ds X [c] t:=λpins s σ H Q I q=>wpAny_tests_one (h pins s σ H Q I q)
noncomputable def Dt(wi:TI)(tt:TT)(te:TE):TE:=λσ H Q=>wi σ H λJ H1=>∃W:Nat->Nat->List V->Hp->Prop,(∃m,W 0 m [] H1)/\∀i m acc H,W i m acc H->
 (J.stop i H/\∀p,H p=none->Q (.ref p) (upd H p (.lst acc)))\/(J.go i H/\acc.length<sizeLine/\∀y H',J.yld i H y H'->tt (some y::σ) H' λb H2=>
   if b=true then te (some y::σ) H2 λz H3=>∃m',m'<m/\W (i+1) m' (acc++[z]) H3 else∃m',m'<m/\W (i+1) m' acc H2)
section
variable{X:Cx}{sc:Scope}{x:Str}{ys:List Str}{px:Pos}{elt iter:Expr}{ifs:List Expr}{pos:Pos}{wi:TI}{tt:TT}{te:TE}
noncomputable def lobj(its:List Value)(n:Nat):Obj:={cls:=.type "list",data:=.seq its.toArray n}
theorem vQ{M:Value->Env->Result->Shared->Prop}{pins:List (Addr×Obj)}{σ:St}{H:Hp}{s:Shared}{E:Value->Shared->Prop}(hc:X.calm=true)(cs:ir X.env.scope X.N sc x ys)(I:Inv X pins σ H s)
  (ht:∀ex C s H,Ds (X.nI sc x ys ex C s H) ifs tt)(he:∀ex C s H,PE (X.nI sc x ys ex C s H) elt te)
  {it:Addr}{fp:List Addr}{tn:Nat->Heap->Prop}{J:It}(T:Turn X.prog X.w X.K (.Name x px) J fp it tn)(st:tn 0 s.heap)(hf:∀b∈fp,j9 X pins H b)
  {W:Nat->Nat->List V->Hp->Prop}{m0:Nat}(w0:W 0 m0 [] H){F:List V->Hp->Prop}
  (turn:∀i m acc H,W i m acc H->(J.stop i H/\F acc H)\/(J.go i H/\acc.length<sizeLine/\∀y H',J.yld i H y H'->tt (some y::σ) H' λb H2=>
    if b=true then te (some y::σ) H2 λz H3=>∃m',m'<m/\W (i+1) m' (acc++[z]) H3 else∃m',m'<m/\W (i+1) m' acc H2))
  (hM:∀(D C:Addr) (eR:Env) (s':Shared) (acc:List V) (H':Hp) (its:List Value) (n:Nat),eR.locals=C->D≠C->s.heap.objs.size<=D->s.heap.objs.size<=C->Inv (X.nI sc x ys fp C s H) [(D,lobj its n)] (none::σ) H' s'->Vals acc its->acc.length<=sizeLine->F acc H'->
    M (.ref D) eR (.ok .next) s'):
  wpAny (model X.prog X.w) X.A (newList []) (λacc s₃=>wpAny (model X.prog X.w) X.A (newFunctionEnv sc X.env.globals (l7 sc X.env) [] X.env.qual none .none (some X.env)) (λeR s₄=>
   codeAny (model X.prog X.w) X.A (.compStart (.ListComp elt [⟨.Name x px,iter,ifs,0⟩] sc pos) 0 (.ref it) acc {eR with scope:=relabel sc X.env}) (M acc eR) s₄) E s₃) E s:=by
 have fF:∀b∈fp,b<s.heap.objs.size:=λb hb=>by
  obtain⟨o,e,_⟩:=T.obj 0 _ st b hb
  exact Heap.lt_size e
 refine wpAny_newObj_type (wpAny_newFunctionEnv cs.nocell (by intro y hy;simp at hy) (λh1 F7 GQ=>?_) cs.kind)
 dsimp only at F7 GQ⊢
 generalize x8:s.heap.push {cls:=.type "list",dict:=none,data:=.seq ([]:List Value).toArray}=h2 at F7 GQ⊢
 have hC:h2.objs.size=s.heap.objs.size+1:=by rw[<-x8,Heap.size_push]
 have rL:s.heap.objs.size≠h2.objs.size:=by omega
 have old:∀b o,s.heap.get? b=some o->h1.get? b=some o:=λb o e=>by
  have hb:=Heap.lt_size e
  rw[GQ.2 b (by rw[hC];exact Nat.ne_of_lt (Nat.lt_succ_of_lt hb))]
  exact Heap.get?_push_of_some _ (x8▸Heap.get?_push_of_some _ e)
 have hD:h1.get? s.heap.objs.size=some (lobj [] 0):=by
  rw[GQ.2 _ rL]
  exact Heap.get?_push_of_some _ (x8▸Heap.get?_push_size _ rfl)
 generalize SE:h2.objs.size=C at*
 have x9:s.heap.objs.size<=C:=by omega
 have pT:∀b,s.heap.objs.size<=b->H b=none:=λb hb=>I.d8.fresh hb
 have A0:∀b,s.heap.objs.size<=b->b∉xE X.stack:=λb hb z=>by
  obtain⟨_,o,ho,_⟩:=(I.stack).mem z
  exact absurd (Nat.lt_of_lt_of_le (Heap.lt_size ho) hb) (Nat.lt_irrefl _)
 have I0:Inv (X.nI sc x ys fp C s H) [(s.heap.objs.size,lobj [] 0)] (none::σ) H {s with heap:=h1,toks:=s.toks+([]:List (Str×Value)).length}:=by
  refine⟨Kx cs I hf fF x9,rfl,I.bare,Un.kept old,⟨_,F7,λi y v e1 e2 e3=>?_⟩,λy c e=>?_,pT _ x9,λy c e=>I.freeC y c (cs.cl I e).1,λp hp=>?_,I.d8.kept old,?_⟩
  ·cases i with
   |zero=>cases e2
   |succ i=>
    have IX:ys[i]?=some y:=e1
    have Ov:σ[i]?=some (some v):=e2
    have IZ:(relabel sc X.env).names.lookup y=some .local\/(relabel sc X.env).names.lookup y=some .cell\/(relabel sc X.env).names.lookup y=some .free:=e3
    have Ky:sc.names.lookup y=some .free:=by
     rcases IZ with h|h|h
     ·rcases bx h with h1|⟨_,h1⟩
      ·exact absurd h1 (cs.nl y (List.mem_of_getElem? IX))
      ·cases h1
     ·rcases bx h with h1|⟨h1,_⟩
      ·exact absurd rfl (cs.nocell _ (PySem.mem_of_lookup h1))
      ·exact h1
     ·rcases bx h with h1|⟨h1,_⟩
      ·exact h1
      ·exact h1
    have hi:i<X.N.length:=by
     rw[<-cs.len]
     exact(List.getElem?_eq_some_iff.mp IX).1
    have hN:X.N[i]?=some y:=by
     have hz:(ys.zip X.N)[i]?=some (y,X.N[i]):=by
      rw[List.getElem?_zip_eq_some]
      exact⟨IX,List.getElem?_eq_getElem hi⟩
     have:=cs.pl _ (List.mem_of_getElem? hz) Ky
     dsimp only at this
     rw[this]
     exact List.getElem?_eq_getElem hi
    have ya:(y,NameKind.free)∈sc.names:=PySem.mem_of_lookup Ky
    obtain⟨m,hn,hl⟩:=I.loc
    obtain⟨u,r,lk⟩:=hl i y v hN Ov (.inr (cs.free _ ya rfl))
    refine⟨u,r,.inr ⟨?_,?_⟩⟩
    ·rcases IZ with h|h
     ·rcases bx h with h1|⟨_,h1⟩
      ·rw[Ky]at h1
       cases h1
      ·cases h1
     ·exact h
    ·rcases lk with⟨k,_⟩|⟨_,c,e,z⟩
     ·rcases cs.free _ ya rfl with h|h
      ·have k':X.env.scope.names.lookup y=some .local:=k
       rw[h]at k'
       cases k'
      ·have k':X.env.scope.names.lookup y=some .local:=k
       rw[h]at k'
       cases k'
     ·obtain⟨c',Iy⟩:=pS X.env sc.names [] y (.inl ya)
      have:c'=c:=by
       have:=(cs.cl I (show(l7 sc X.env).lookup y=some c' from Iy)).1
       rw[e]at this
       exact(Option.some.inj this).symm
      subst this
      obtain⟨o,ho,hd⟩:=z
      exact⟨c',Iy,o,old _ _ ho,hd⟩
  ·obtain⟨v,o,ho,hd⟩:=I.cell y c (cs.cl I e).1
   exact⟨v,o,old _ _ ho,hd⟩
  ·obtain rfl:p=(s.heap.objs.size,lobj [] 0):=by simpa using(show p∈([]:List (Addr×Obj))++[(s.heap.objs.size,lobj [] 0)]from hp)
   exact⟨hD,pT _ (Nat.le_refl _),rL,A0 _ (Nat.le_refl _),λv z=>by cases z⟩
  ·show(none::σ).length=(x::ys).length
   rw[List.length_cons,List.length_cons,I.len,cs.len]
 have Kz:s.heap.objs.size∉fp:=λz=>Nat.lt_irrefl _ (fF _ z)
 have KA:∀{gW:List (Addr×Obj)} {H':Hp} {s':Shared} {σ':St},Inv (X.nI sc x ys fp C s H) gW σ' H' s'->(∀b∈fp,H' b=none)->(∀p∈gW,p.1∉fp)->∀b∈fp,j9 (X.nI sc x ys fp C s H) gW H' b:=λ{gW H' s' σ'} I' hn hp b hb=>
  ⟨hn b hb,(I'.ok.exf b hb).1,I'.ok.exfs b hb,.inl hb,(I'.ok.exf b hb).2,λp KC z=>by
    have KD:p∈gW:=by simpa using(show p∈([]:List (Addr×Obj))++gW from KC)
    exact hp p KD (z▸hb)⟩
 have loop:∀s3:Shared,s3={s with heap:=h1,toks:=s.toks+([]:List (Str×Value)).length}->∀eR:Env,eR.locals=C->
   codeAny (model X.prog X.w) X.A (.compLoop (.ListComp elt [⟨.Name x px,iter,ifs,0⟩] sc pos) 0 (.ref it) (.ref s.heap.objs.size) (compEnvC sc (l7 sc X.env) C X.env)) (M (.ref s.heap.objs.size) eR) s3:=by
  rintro s3 rfl eR yb
  refine codeAny_compLoop_tests (λm s'=>∃i acc H' its n,Inv (X.nI sc x ys fp C s H) [(s.heap.objs.size,lobj its n)] (none::σ) H' s'/\Vals acc its/\acc.length<=sizeLine/\tn i s'.heap/\(∀b∈fp,H' b=none)/\W i m acc H') ?_ m0
   ⟨0,[],H,[],0,I0,.nil,Nat.zero_le _,T.keep 0 _ _ st λb hb o e=>old b o e,λb hb=>(hf b hb).1,w0⟩
  rintro m s' ⟨i,acc,H',its,n,I1,rv,hz,Nf,Ng,w1⟩
  have KG:∀p∈[(s.heap.objs.size,lobj its n)],p.1∉fp:=λp hp=>by
   obtain rfl:p=(s.heap.objs.size,lobj its n):=by simpa using hp
   exact Kz
  rcases turn i m acc H' w1 with⟨stop,fin⟩|⟨go,SF,step⟩
  ·refine wpAny_mono (T.done (X.nI sc x ys fp C s H) rfl rfl rfl hc i _ s' _ H' (λ_ _=>False) I1 (KA I1 Ng KG) Nf stop) (λr s4 ⟨hr,I4⟩=>?_) (λ_ _ z=>z.elim)
   subst hr
   exact hM _ C eR s4 acc H' its n yb rL (Nat.le_refl _) x9 I4 rv hz fin
  ·refine wpAny_mono (T.item (X.nI sc x ys fp C s H) rfl rfl rfl hc i _ s' _ H' (λ_ _=>False) I1 (KA I1 Ng KG) Nf go) (λr s4 cy=>?_) (λ_ _ z=>z.elim)
   obtain⟨u,hr,h4⟩:=cy
   subst hr
   dsimp only
   have e0:∀env:Env,(letOwnedTupleGo (.Name x px) (.ref it) u>>=λ_=>assign (.Name x px) env u)=assign (.Name x px) env u:=λenv=>by
    rw[show letOwnedTupleGo (.Name x px) (.ref it) u=pure ()from rfl,pure_bind]
   rw[<-e0]
   refine wpAny_bind (wpAny_mono h4 (λ_ s5 cy=>?_) (λ_ _ z=>z.elim))
   obtain⟨y,H5,I5,r5,y5,i6,Mz⟩:=cy
   have MA:=I5.pinned (KA I5 Mz KG) (T.obj _ _ i6)
   have xl:(X.nI sc x ys fp C s H).env.scope.names.lookup x=some .local:=lookup_relabel_local cs.xloc
   refine wpAny_assign_Name (pH MA cs.nd (i:=0) rfl (.inl xl) r5 (λs6 I6=>?_) (.inr xl))
   refine wpAny_mono (ht fp C s H _ s6 (some y::σ) H5 _ I6 (step y H5 y5)) (λb s7 cy=>?_) (λ_ _ z=>z.elim)
   obtain⟨H7,I7,q7⟩:=cy
   have zH:∀{H':Hp} {s':Shared} {σ':St} {pl:List (Addr×Obj)},Inv (X.nI sc x ys fp C s H) (pl++fE fp s5.heap) σ' H' s'->tn (i+1) s'.heap/\∀b∈fp,H' b=none:=λ{H' s' σ' pl} I'=>by
    refine⟨T.keep _ _ _ i6 λb hb o e=>(I'.pin (b,o) (List.mem_append_right _ (List.mem_append_right _ (gp hb e)))).1,λb hb=>?_⟩
    obtain⟨o,e,d⟩:=T.obj _ _ i6 b hb
    exact(I'.pin (b,o) (List.mem_append_right _ (List.mem_append_right _ (gp hb e)))).2.1
   have wk:∀{H':Hp} {s':Shared} {pl:List (Addr×Obj)},Inv (X.nI sc x ys fp C s H) pl (some y::σ) H' s'->Inv (X.nI sc x ys fp C s H) pl (none::σ) H' s':=λ{H' s' pl} I'=>I'.weak (by simp) λj v e=>by
    cases j with
    |zero=>cases e
    |succ j=>exact e
   cases b with
   |false=>
    rw[if_neg Bool.false_ne_true]at q7
    obtain⟨m',hm,w7⟩:=q7
    obtain⟨t7,f7⟩:=zH I7
    exact⟨m',hm,i+1,acc,H7,its,n,wk I7.mL,rv,hz,t7,f7,w7⟩
   |true=>
    rw[if_pos rfl]at q7
    refine wpAny_mono (he fp C s H _ s7 (some y::σ) H7 _ I7 q7) (λu8 s8 ⟨z,H8,I8,r8,m',hm,w8⟩=>?_) (λ_ _ z=>z.elim)
    obtain⟨t8,f8⟩:=zH I8
    obtain⟨p1,p2,p3,p4,p5⟩:=I8.pin (s.heap.objs.size,lobj its n) (List.mem_append_right _ (List.mem_append_left _ (List.mem_singleton.mpr rfl)))
    have hl:=rv.length
    refine wpAny_list_append_plain (items:=its.toArray) ⟨n,p1⟩ (λh9 P0 sb9=>?_) (by rw[List.size_toArray];omega)
    obtain⟨n9,e9⟩:=P0
    have P1:h9.get? s.heap.objs.size=some (lobj (its++[u8]) n9):=by
     rw[e9]
     unfold lobj
     simp
    have Ia:Inv (X.nI sc x ys fp C s H) (fE fp s5.heap) (none::σ) H8 s8:=(wk I8).eH λp hp=>I8.pin p (List.mem_append_right _ (List.mem_append_right _ hp))
    have Ib:Inv (X.nI sc x ys fp C s H) (fE fp s5.heap) (none::σ) H8 {s8 with heap:=h9,toks:=s8.toks}:=Ia.turned (it:=s.heap.objs.size) (λb o hb e=>(sb9.2 b hb).trans e) p2 p3 (.inr (Nat.le_refl _))
     (λy c e z=>by
       obtain⟨v,o,ho,_⟩:=I.cell y c (cs.cl I e).1
       exact absurd (Heap.lt_size ho) (by rw[z];exact Nat.lt_irrefl _))
     (λp hp z=>by
       have KC:p∈fE fp s5.heap:=by simpa using(show p∈([]:List (Addr×Obj))++fE fp s5.heap from hp)
       exact Kz (z▸(nR KC).1))
    refine⟨m',hm,i+1,acc++[z],H8,its++[u8],n9,Ib.eH λp hp=>?_,rv.append (.cons r8 .nil),?_,T.keep _ _ _ t8 λb hb o e=>?_,f8,w8⟩
    ·obtain rfl:p=(s.heap.objs.size,lobj (its++[u8]) n9):=by simpa using hp
     exact⟨P1,p2,p3,p4,λv z=>by cases z⟩
    ·rw[List.length_append,List.length_singleton]
     omega
    ·exact(sb9.2 b (λz=>Kz (z▸hb))).trans e
 exact codeAny_compStart_list (loop _ rfl _ rfl) (T.self _ 0 _ _ _ (T.keep 0 _ _ st λb hb o e=>old b o e) (loop _ rfl _ rfl))
end
section
variable{X:Cx}{sc:Scope}{x:Str}{ys:List Str}{px:Pos}{elt iter:Expr}{ifs:List Expr}{pos:Pos}{wi:TI}{tt:TT}{te:TE}
theorem comp_back{pins:List (Addr×Obj)}{σ σ':St}{H H':Hp}{s s':Shared}(cs:ir X.env.scope X.N sc x ys)(I:Inv X pins σ H s){fp:List Addr}(hf:∀b∈fp,j9 X pins H b){D C:Addr}{its:List Value}{n:Nat}{acc:List V}
  (I':Inv (X.nI sc x ys fp C s H) [(D,lobj its n)] σ' H' s')(rL:D≠C)(hD:s.heap.objs.size<=D)(hC:s.heap.objs.size<=C)(rv:Vals acc its)(hz:acc.length<=sizeLine){h':Heap}(sb:Heap.SameBut C s'.heap h'):
  Inv X pins σ (upd H' D (.lst acc)) {s' with heap:=h'}:=by
 obtain⟨p1,p2,p3,p4,p5⟩:=I'.pin (D,lobj its n) (List.mem_append_right _ (List.mem_singleton.mpr rfl))
 have below:∀b o,s.heap.get? b=some o->b≠D/\b≠C:=λb o e=>⟨Nat.ne_of_lt (Nat.lt_of_lt_of_le (Heap.lt_size e) hD),Nat.ne_of_lt (Nat.lt_of_lt_of_le (Heap.lt_size e) hC)⟩
 have U:Un (xE X.stack) fp H H' s.heap s'.heap:=I'.base
 have gX:H' C=none:=I'.free
 refine I.Iz (ch:=fp) I'.os ⟨λb o e n hb hx=>?_,λb o e n hb hx=>?_,λb o e n hx=>?_,λb o e hx=>?_,λb xs e=>?_,λb o u e=>?_,λb ps e=>?_⟩ (λb o e=>?_) I'.bare λb hb=>⟨(hf b hb).2.2.2.1,(hf b hb).2.1,(hf b hb).2.2.2.2.1,(hf b hb).2.2.2.2.2⟩
 ·exact(sb.2 b (below b o e).2).trans (U.keep b o e n hb hx)
 ·obtain⟨sl,q⟩:=U.slot b o e n hb hx
  exact⟨sl,(sb.2 b (below b o e).2).trans q⟩
 ·rw[aC (below b o e).1]
  exact U.free b o e n hx
 ·obtain⟨o',q⟩:=U.there b o e hx
  exact⟨o',(sb.2 b (below b o e).2).trans q⟩
 ·rw[aC (ba (U.oV b xs e) p2)]
  exact U.oV b xs e
 ·rw[aC (ba (U.nM b o u e) p2)]
  exact U.nM b o u e
 ·obtain⟨more,q⟩:=U.rF b ps e
  exact⟨more,by rw[aC (ba q p2)];exact q⟩
 ·by_cases hb:b=D
  ·subst hb
   rw[aU]at e
   cases e
   exact⟨hz,its,n,rv,(sb.2 b rL).trans p1⟩
  ·rw[aC hb]at e
   refine(I'.d8 b o e).rD (λc v hc q=>(sb.2 c ?_).trans q) (λc q=>?_) λc xs q=>?_
   ·rintro rfl
    rcases hc with hc|hc
    ·rw[hc,e]at gX
     cases gX
    ·rw[hc]at gX
     cases gX
   ·rw[aC (ba q p2)]
    exact q
   ·rw[aC (ba q p2)]
    exact q
theorem SameBut.Nh(a:Addr)(h:Heap):Heap.SameBut a h h:=⟨rfl,λ_ _=>rfl⟩
theorem zI(hi:PI X (.Name x px) iter wi)(ys:List Str)(ht:∀ex C s H,Ds (X.nI sc x ys ex C s H) ifs tt)(he:∀ex C s H,PE (X.nI sc x ys ex C s H) elt te)(ue:kg X.env.scope X.N sc x ys=true)(hc:X.calm=true:=by rfl)
  (hs:∀x,foldedSetIterable iter X.env x=pure x:=by intro _;rfl):PE X (.ListComp elt [⟨.Name x px,iter,ifs,0⟩] sc pos) (Dt wi tt te):=by
 have cs:=ir.of ue
 intro pins s σ H Q I h
 rw[eval_ListComp]
 refine wpAny_comprehension_free (use:=none) (cl:=l7 sc X.env) rfl hs (pf λp hp hk=>cs.cell I (by rw[<-hk];exact hp)) cs.kind cs.locs ?_
 refine dS (hi pins s σ H _ I h) λv s1 h1=>dS h1 λLY s2 h2=>?_
 obtain⟨it,fp,tn,J,H2,rfl,I2,T,b9,f2,W,⟨m0,w0⟩,turn⟩:=h2
 refine vQ (M:=λacc eR=>compPost (model X.prog X.w) X.A X.xe none (EP X pins σ Q) acc eR.locals) hc cs I2 ht he T b9 f2 w0 (F:=λacc H=>∀p,H p=none->Q (.ref p) (upd H p (.lst acc))) turn λD C eR s' acc H' its n yb rL hD hC I' rv hz q=>?_
 obtain⟨m,hn,_⟩:=I'.loc
 refine⟨m,by rw[yb];exact hn,λh' sb=>?_⟩
 rw[yb]at sb
 exact⟨.ref D,_,comp_back cs I2 f2 I' rL hD hC rv hz sb,rfl,q D (I'.pin (D,lobj its n) (List.mem_append_right _ (List.mem_singleton.mpr rfl))).2.1⟩
theorem zJ{i:Nat}{y:Str}{py mQ:Pos}(hN:X.N.Nodup)(GR:X.N[i]?=some y)(hy:X.env.scope.names.lookup y=some .local)(hi:PI X (.Name x px) iter wi)(ys:List Str)(ht:∀ex C s H,Ds (X.nI sc x ys ex C s H) ifs tt)(he:∀ex C s H,PE (X.nI sc x ys ex C s H) elt te)
  (ue:kg X.env.scope X.N sc x ys=true)(hc:X.calm=true:=by rfl)(hs:∀x,foldedSetIterable iter X.env x=pure x:=by intro _;rfl)
  (GS:swapsWith (.ListComp elt [⟨.Name x px,iter,ifs,0⟩] sc pos) (some (.Name y py)) mQ.line X.env=pure true:=by rfl):
  PS X (.Assign [.Name y py] (.ListComp elt [⟨.Name x px,iter,ifs,0⟩] sc pos) mQ) (λD σ H=>Dt wi tt te σ H λv H1=>D.nx (σ.set i (some v)) H1):=by
 have cs:=ir.of ue
 intro pins s σ H D I h
 rw[exec_Assign_Name_used _ _ _ _ GS]
 refine wpAny_bind (wpAny_standAt (wpAny_bind ?_))
 show wpAny _ X.A (do let _<-comprehension (.ListComp elt [⟨.Name x px,iter,ifs,0⟩] sc pos) sc X.env _ (newList []) false (eval iter X.env) (some (assign (.Name y py) X.env))) _ _ s
 refine wpAny_bind (wpAny_mono (wpAny_comprehension_free (use:=some (assign (.Name y py) X.env)) (cl:=l7 sc X.env) (Q:=λ_ s'=>SP X pins D .next s') rfl hs (pf λp hp hk=>cs.cell I (by rw[<-hk];exact hp)) cs.kind cs.locs ?_) (λ_ s' hq=>wpAny_pure (wpAny_pure hq)) λ_ _ e=>e)
 refine dS (hi pins s σ H _ I h) λv s1 h1=>dS h1 λLY s2 h2=>?_
 obtain⟨it,fp,tn,J,H2,rfl,I2,T,b9,f2,W,⟨m0,w0⟩,turn⟩:=h2
 refine vQ (M:=λacc eR=>compPost (model X.prog X.w) X.A X.xe (some (assign (.Name y py) X.env)) (λ_ s'=>SP X pins D .next s') acc eR.locals) hc cs I2 ht he T b9 f2 w0
  (F:=λacc H=>∀p,H p=none->D.nx (σ.set i (some (.ref p))) (upd H p (.lst acc))) turn λDa C eR s' acc H' its n yb rL hD hC I' rv hz q=>?_
 obtain⟨m,hn,_⟩:=I'.loc
 have Io:=comp_back cs I2 f2 I' rL hD hC rv hz (SameBut.Nh C s'.heap)
 have Ni:C≠X.env.locals:=λe=>absurd (Nat.lt_of_lt_of_le I2.lt hC) (by rw[e];exact Nat.lt_irrefl _)
 have Nj:∀z c,X.env.cells.lookup z=some c->c≠C:=λz c e e'=>by
  obtain⟨v,o,ho,_⟩:=I2.cell z c e
  exact absurd (Nat.lt_of_lt_of_le (Heap.lt_size ho) hC) (by rw[e'];exact Nat.lt_irrefl _)
 refine wpAny_assign_Name (nN (v:=.ref Da) Io hN GR (.inl hy) rfl (λJ6 P2 cy=>?_) (.inr hy))
 obtain⟨a,sb,ha⟩:=cy
 have P4:C≠a:=by
  rcases ha with e|e
  ·rw[e]
   exact Ni
  ·exact(Nj y a e).symm
 refine⟨m,by rw[yb];exact hn.sameBut sb P4,λh' Nk=>?_⟩
 rw[yb]at Nk
 have gX:(upd H' Da (.lst acc)) C=none:=by
  rw[aC rL.symm]
  exact I'.free
 refine⟨_,_,P2.turned (t':=J6.toks) (it:=C) (λb o hb e=>(Nk.2 b hb).trans e) gX Ni (.inr (Nat.le_trans I2.sz hC)) Nj (λp hp e=>?_),q Da (I'.pin (Da,lobj its n) (List.mem_append_right _ (List.mem_singleton.mpr rfl))).2.1⟩
 exact absurd (Nat.lt_of_lt_of_le (Heap.lt_size (I2.pin p hp).1) hC) (by rw[e];exact Nat.lt_irrefl _)
end
end L2
namespace L2
open PySem PySem.Spec PyProof.Rows PySem.SeqAt
section
variable{X:Cx}{pins:List (Addr×Obj)}{σ:St}{H:Hp}{s:Shared}{a b:Addr}{xs ys:List V}{A:Around}
theorem pU(I:Inv X pins σ H s)(ha:gc X.K H a xs)(hb:gc X.K H b ys)(hu:A.units<cLine)(q:Nat->Bool)
  (hq:∀(j:Nat) x y u v,xs[j]?=some x->ys[j]?=some y->RelV x u->RelV y v->EqAt A.in1 s u v (q j)):RcAt A s (.ref a) (.ref b) (decide (xs.length=ys.length)&&(List.range xs.length).all q):=by
 obtain⟨its,r1,p1,z1⟩:=I.list ha
 obtain⟨lO,r2,p2,z2⟩:=I.list hb
 have l1:=r1.length
 have l2:=r2.length
 by_cases hl:xs.length=ys.length
 ·rw[decide_eq_true hl,Bool.true_and]
  have:=RcAt.lists (A:=A) (s:=s) (e:=q) p1.isList p2.isList (by rw[List.size_toArray,List.size_toArray];omega) hu λj h1 h2=>?_
  ·rw[List.size_toArray,<-l1]at this
   exact this
  ·rw[List.size_toArray]at h1 h2
   obtain⟨x,hx⟩:∃x,xs[j]?=some x:=⟨xs[j],List.getElem?_eq_getElem (by omega)⟩
   obtain⟨y,hy⟩:∃y,ys[j]?=some y:=⟨ys[j],List.getElem?_eq_getElem (by omega)⟩
   obtain⟨u,e1,ru⟩:=r1.get hx
   obtain⟨v,e2,rv⟩:=r2.get hy
   have f1:its.toArray[j]=u:=by
    have:=(List.getElem?_eq_some_iff.mp e1).2
    simpa using this
   have f2:lO.toArray[j]=v:=by
    have:=(List.getElem?_eq_some_iff.mp e2).2
    simpa using this
   rw[f1,f2]
   exact hq j x y u v hx hy ru rv
 ·rw[decide_eq_false hl,Bool.false_and]
  exact RcAt.lists_lengths p1.isList p2.isList (by rw[List.size_toArray,List.size_toArray];simp;omega) hu
theorem yc(I:Inv X pins σ H s)(ha:gc X.K H a xs)(hb:gc X.K H b ys)(hu:A.units<cLine)(q:Nat->Bool)
  (hq:∀(j:Nat) x y u v,xs[j]?=some x->ys[j]?=some y->RelV x u->RelV y v->EqAt A.in1 s u v (q j)):RcNeAt A s (.ref a) (.ref b) (!(decide (xs.length=ys.length)&&(List.range xs.length).all q)):=by
 obtain⟨its,r1,p1,z1⟩:=I.list ha
 obtain⟨lO,r2,p2,z2⟩:=I.list hb
 have l1:=r1.length
 have l2:=r2.length
 by_cases hl:xs.length=ys.length
 ·rw[decide_eq_true hl,Bool.true_and]
  have:=RcNeAt.lists (A:=A) (s:=s) (e:=q) p1.isList p2.isList (by rw[List.size_toArray,List.size_toArray];omega) hu λj h1 h2=>?_
  ·rw[List.size_toArray,<-l1]at this
   exact this
  ·rw[List.size_toArray]at h1 h2
   obtain⟨x,hx⟩:∃x,xs[j]?=some x:=⟨xs[j],List.getElem?_eq_getElem (by omega)⟩
   obtain⟨y,hy⟩:∃y,ys[j]?=some y:=⟨ys[j],List.getElem?_eq_getElem (by omega)⟩
   obtain⟨u,e1,ru⟩:=r1.get hx
   obtain⟨v,e2,rv⟩:=r2.get hy
   have f1:its.toArray[j]=u:=by
    have:=(List.getElem?_eq_some_iff.mp e1).2
    simpa using this
   have f2:lO.toArray[j]=v:=by
    have:=(List.getElem?_eq_some_iff.mp e2).2
    simpa using this
   rw[f1,f2]
   exact hq j x y u v hx hy ru rv
 ·rw[decide_eq_false hl,Bool.false_and]
  exact RcNeAt.lists_lengths p1.isList p2.isList (by rw[List.size_toArray,List.size_toArray];simp;omega) hu
theorem Du{α:Type}[DecidableEq α]{ns ms:List α}:(decide (ns.length=ms.length)&&(List.range ns.length).all λj=>decide (ns[j]?=ms[j]?))=decide (ns=ms):=by
 by_cases e:ns=ms
 ·subst e
  simp
 ·rw[decide_eq_false e]
  by_cases hl:ns.length=ms.length
  ·rw[decide_eq_true hl,Bool.true_and]
   rw[<-Bool.not_eq_true,List.all_eq_true]
   intro h
   apply e
   apply List.ext_getElem?
   intro i
   by_cases hi:i<ns.length
   ·exact of_decide_eq_true (h i (List.mem_range.mpr hi))
   ·rw[List.getElem?_eq_none (by omega),List.getElem?_eq_none (by omega)]
  ·rw[decide_eq_false hl]
   rfl
theorem Be{α:Type}[DecidableEq α]{ns ms:List α}{f:α->V}:(decide ((ns.map f).length=(ms.map f).length)&&(List.range (ns.map f).length).all λj=>decide (ns[j]?=ms[j]?))=decide (ns=ms):=by
 rw[List.length_map,List.length_map]
 exact Du
theorem vR{ns:List Int}{j:Nat}{x:V}(h:(ns.map V.int)[j]?=some x):∃n,ns[j]?=some n/\x=.int n:=by
 rw[List.getElem?_map]at h
 cases e:ns[j]? with
 |none=>
  rw[e]at h
  cases h
 |some n=>
  rw[e]at h
  exact⟨n,rfl,(Option.some.inj h).symm⟩
theorem Bf{ns ms:List Int}(A:Around):∀(j:Nat) x y u v,(ns.map V.int)[j]?=some x->(ms.map V.int)[j]?=some y->RelV x u->RelV y v->EqAt A s u v (decide (ns[j]?=ms[j]?)):=by
 intro j x y u v hx hy ru rv
 obtain⟨n,e1,rfl⟩:=vR hx
 obtain⟨m,e2,rfl⟩:=vR hy
 obtain⟨t,rfl⟩:=ru
 obtain⟨t',rfl⟩:=rv
 have:decide (ns[j]?=ms[j]?)=(n==m):=by
  rw[e1,e2]
  by_cases h:n=m
  ·subst h
   simp
  ·rw[decide_eq_false (by simpa using h)]
   exact(beq_eq_false_iff_ne.mpr h).symm
 rw[this]
 exact EqAt.int_int n t m t'
theorem Bg{ns ms:List Int}(I:Inv X pins σ H s)(ha:gc X.K H a (ns.map V.int))(hb:gc X.K H b (ms.map V.int))(hu:A.units<cLine):RcAt A s (.ref a) (.ref b) (decide (ns=ms)):=by
 have:=pU I ha hb hu (λj=>decide (ns[j]?=ms[j]?)) (Bf A.in1)
 rw[Be]at this
 exact this
theorem zK:∀{ns ms:List Int},ns.map V.int=ms.map V.int->ns=ms
 |[],[],_=>rfl
 |[],_::_,h=>by cases h
 |_::_,[],h=>by cases h
 |n::ns,m::ms,h=>by
  rw[List.map_cons,List.map_cons]at h
  injection h with h1 h2
  injection h1 with h1
  rw[h1,zK h2]
theorem Bh{ns ms:List Int}(I:Inv X pins σ H s)(ha:gc X.K H a (ns.map V.int))(hb:gc X.K H b (ms.map V.int))(hu:A.units<cLine):EqAt A s (.ref a) (.ref b) (decide (ns=ms)):=by
 by_cases e:a=b
 ·subst e
  rw[decide_eq_true (zK (I.je ha hb))]
  exact EqAt.same _
 ·exact EqAt.of_refs e (Bg I ha hb hu)
theorem GU{bs:List Bool}{j:Nat}{x:V}(h:(bs.map V.bl)[j]?=some x):∃n,bs[j]?=some n/\x=.bl n:=by
 rw[List.getElem?_map]at h
 cases e:bs[j]? with
 |none=>
  rw[e]at h
  cases h
 |some n=>
  rw[e]at h
  exact⟨n,rfl,(Option.some.inj h).symm⟩
theorem range_any(bs:List Bool):(List.range bs.length).any (λi=>bs.getD i false)=bs.any id:=by
 rw[Bool.eq_iff_iff,List.any_eq_true,List.any_eq_true]
 constructor
 ·rintro⟨i,h1,h2⟩
  have hi:=List.mem_range.mp h1
  refine⟨bs[i],List.getElem_mem hi,?_⟩
  rw[List.getD_eq_getElem?_getD,List.getElem?_eq_getElem hi]at h2
  exact h2
 ·rintro⟨b,h1,h2⟩
  obtain⟨i,hi,e⟩:=List.mem_iff_getElem.mp h1
  refine⟨i,List.mem_range.mpr hi,?_⟩
  rw[List.getD_eq_getElem?_getD,List.getElem?_eq_getElem hi,e]
  exact h2
theorem range_all(bs:List Bool):(List.range bs.length).all (λi=>bs.getD i false)=bs.all id:=by
 rw[Bool.eq_iff_iff,List.all_eq_true,List.all_eq_true]
 constructor
 ·intro h b h1
  obtain⟨i,hi,e⟩:=List.mem_iff_getElem.mp h1
  have:=h i (List.mem_range.mpr hi)
  rw[List.getD_eq_getElem?_getD,List.getElem?_eq_getElem hi,e]at this
  exact this
 ·intro h i h1
  have hi:=List.mem_range.mp h1
  rw[List.getD_eq_getElem?_getD,List.getElem?_eq_getElem hi]
  exact h bs[i] (List.getElem_mem hi)
theorem vS{bs:List Bool}{its:List Value}(r:Vals (bs.map V.bl) its){prog:Program}{w:World}{A:Around}:TruthOf prog w A (λi v=>its.toArray[i]?=some v) (λi=>bs.getD i false):=by
 intro i v s Q E hv h
 have Ol:its[i]?=some v:=by simpa using hv
 have hl:=r.length
 have hi:=(List.getElem?_eq_some_iff.mp Ol).1
 rw[List.length_map]at hl
 obtain⟨x,hx⟩:∃x,(bs.map V.bl)[i]?=some x:=⟨(bs.map V.bl)[i]'(by rw[List.length_map];omega),List.getElem?_eq_getElem _⟩
 obtain⟨u,e,ru⟩:=r.get hx
 rw[Ol]at e
 cases e
 obtain⟨n,e2,rfl⟩:=GU hx
 cases ru
 have h':Q (bs.getD i false) s:=h
 rw[List.getD_eq_getElem?_getD,e2]at h'
 exact wpAny_truthy_bool h'
theorem vT(hc:X.calm=true):gY X (.builtin "any") (λxs H Q=>∃(p:Addr) (bs:List Bool),xs=[.ref p]/\gc X.K H p (bs.map V.bl)/\Q (.bl (bs.any id)) H):=by
 intro pins s σ H xs us Q I r h
 obtain⟨p,bs,rfl,hq,q⟩:=h
 obtain⟨u,rfl,ru⟩:=vals1 r
 cases ru
 obtain⟨its,rv,pl,hz⟩:=I.list hq
 have vx:p≠s.heap.objs.size:=by
  obtain⟨o,ho,_⟩:=pl.isList
  exact Nat.ne_of_lt (Heap.lt_size ho)
 have hh:X.A.in1.handled=none:=I.ok.hd hc
 refine call_any_walk (wpAny_pyIter_list pl.isList ⟨s.heap.objs.size,_,_,_,_,_,(λi=>bs.getD i false),rfl,Walks.list hh s.heap.objs.size p vx its.toArray,?_,vS rv,λh' tk k=>?_⟩)
 ·exact⟨⟨_,Heap.get?_push_size _ rfl,rfl,rfl⟩,pl.isList.at λo e=>Heap.get?_push_of_some _ e⟩
 ·have hl:=rv.length
  rw[List.length_map]at hl
  rw[List.size_toArray,<-hl,range_any]
  refine⟨.bl _,H,I.kept (t':=tk) λb o e=>k b o (λz=>?_) (Heap.get?_push_of_some _ e),rfl,q⟩
  obtain rfl:b=s.heap.objs.size:=by simpa using z
  exact Nat.lt_irrefl _ (Heap.lt_size e)
theorem vU(hc:X.calm=true):gY X (.builtin "all") (λxs H Q=>∃(p:Addr) (bs:List Bool),xs=[.ref p]/\gc X.K H p (bs.map V.bl)/\Q (.bl (bs.all id)) H):=by
 intro pins s σ H xs us Q I r h
 obtain⟨p,bs,rfl,hq,q⟩:=h
 obtain⟨u,rfl,ru⟩:=vals1 r
 cases ru
 obtain⟨its,rv,pl,hz⟩:=I.list hq
 have vx:p≠s.heap.objs.size:=by
  obtain⟨o,ho,_⟩:=pl.isList
  exact Nat.ne_of_lt (Heap.lt_size ho)
 have hh:X.A.in1.handled=none:=I.ok.hd hc
 refine call_all_walk (wpAny_pyIter_list pl.isList ⟨s.heap.objs.size,_,_,_,_,_,(λi=>bs.getD i false),rfl,Walks.list hh s.heap.objs.size p vx its.toArray,?_,vS rv,λh' tk k=>?_⟩)
 ·exact⟨⟨_,Heap.get?_push_size _ rfl,rfl,rfl⟩,pl.isList.at λo e=>Heap.get?_push_of_some _ e⟩
 ·have hl:=rv.length
  rw[List.length_map]at hl
  rw[List.size_toArray,<-hl,range_all]
  refine⟨.bl _,H,I.kept (t':=tk) λb o e=>k b o (λz=>?_) (Heap.get?_push_of_some _ e),rfl,q⟩
  obtain rfl:b=s.heap.objs.size:=by simpa using z
  exact Nat.lt_irrefl _ (Heap.lt_size e)
theorem GV:Om X "int.bit_length" (λx vs H Q=>∃i,x=.int i/\vs=[]/\Q (.int (Builtin.Int.intBits i:Nat)) H):=by
 intro pins s σ H x vs v us Q I rx rv h
 obtain⟨i,rfl,rfl,q⟩:=h
 obtain⟨t,rfl⟩:=rx
 cases rv
 exact call_gives F.slot_int_bit_length (typeIs_int s i t) F.entry_int_bit_length (F.args_int_bit_length_1 _) (AutoIntG2.int_bit_length_int_0 i t) ⟨.int _,H,I.tok _,⟨_,rfl⟩,q⟩
theorem KH{prog:Program}{w:World}{A:Around}{E:Value->Shared->Prop}{s:Shared}{Q:Value->Shared->Prop}(l:Addr)(items:Array Value)(n:Nat)(x:Int)(u:Tok)(y:Value)(P5:¬(!Builtin.List.listFitsIndex x)=true)(mK:items.size<=sizeLine)
  (f:Array Value->Array Value)(hf:f=λxs=>(xs.extract 0 (if x<0 then(x+((xs.size:Nat):Int)).toNat else min x.toNat xs.size)).push y++xs.extract (if x<0 then(x+((xs.size:Nat):Int)).toNat else min x.toNat xs.size))
  (e:s.heap.get? l=some {cls:=.type "list",data:=.seq items n})(h:Q .none {s with heap:=s.heap.update l (Obj.mapSeq f),toks:=s.toks}):wpAny (model prog w) A (call (.builtin "list.insert") [.ref l,.int x u,y]) Q E s:=by
 subst hf
 exact call_meets F.slot_list_insert ⟨_,e,rfl⟩ F.entry_list_insert (F.args_list_insert_3 _ _ _) (AutoListH.list_insert_list_int_val_1 l items n x u y P5 mK) ⟨e,h⟩
theorem Bi:Pr X "list.insert" (λx vs H Q=>∃(l:Addr) (xs:List V) (k:Nat) (y:V),x=.ref l/\vs=[.int k,y]/\H l=some (.lst xs)/\k<=xs.length/\xs.length<sizeLine/\Q .non (upd H l (.lst (xs.take k++y::xs.drop k)))):=by
 intro pins s σ H x vs v us Q I rx rv h
 obtain⟨l,xs,k,y,rfl,rfl,hH,hk,hz,q⟩:=h
 cases rx
 obtain⟨u1,u2,rfl,r1,r2⟩:=rv.two
 obtain⟨t,rfl⟩:=r1
 obtain⟨z,its,n,r,hl,e⟩:=I.Kc hH
 have Uj:(sizeLine:Nat)<2^63:=l0
 have P6:¬(!Builtin.List.listFitsIndex (k:Int))=true:=by
  have:Builtin.List.listFitsIndex (k:Int)=true:=by
   unfold Builtin.List.listFitsIndex
   simp only[Bool.and_eq_true,decide_eq_true_eq]
   omega
  rw[this]
  decide
 refine KH l its.toArray n (k:Int) t u2 P6 (by rw[List.size_toArray];omega) _ rfl e ⟨.non,_,I.Kb (its':=its.take k++u2::its.drop k) hH e ?_ (Vals.append (r.take k) (.cons r2 (r.drop k))) ?_,rfl,q⟩
 ·rw[if_neg (by omega),List.size_toArray,show min (Int.toNat (k:Int)) its.length=k by omega]
  apply Array.ext'
  simp
  exact List.take_of_length_le (by rw[List.length_drop];exact Nat.le_refl _)
 ·rw[List.length_append,List.length_cons,List.length_take,List.length_drop]
  omega
end
section
open PySem.AutoSeq1 (wpAny_loadPart')
open PySem.MeetsSeq PySem.MeetsSeq2 PySem.MeetsSeq3
theorem GW(l b:Addr)(items dN:Array Value)(n n2:Nat)(dd L6:Option Addr)(sl L7:Array (Option Value))(ns ms:List Int)(hi:IntsAre items.toList ns)(hj:IntsAre dN.toList ms)(k:Nat):
  ∀i:Nat,items.size-i=k->i<=items.size->i<=dN.size->Meets (Builtin.«list.__eq__.loop» ⟨[.ref l,.ref b,rawInt i,rawInt 0],[]⟩)
   (λA R s=>s.heap.get? l=some {cls:=.type "list",dict:=dd,data:=.seq items n,slots:=sl}/\s.heap.get? b=some {cls:=.type "list",dict:=L6,data:=.seq dN n2,slots:=L7}/\
     R (.ok (.ret (.bool (HT.lexLt (ns.drop i) (ms.drop i))))) s):=by
 have z1:items.size=ns.length:=by rw[<-hi.length];simp
 have z2:dN.size=ms.length:=by rw[<-hj.length];simp
 induction k with
 |zero=>
  intro i hk h1 h2 prog w A R s h
  obtain⟨hp,g,d,tk,os⟩:=s;obtain⟨hl,hb,h⟩:=h
  wp_walk using wpAny_loadPart' hl,wpAny_loadPart' hb
  have e1:items[((i:Nat):Int).toNat]?=none:=by simp;omega
  have d1:ns.drop i=[]:=List.drop_eq_nil_of_le (by omega)
  rw[d1]at h
  have hv:HT.lexLt [] (ms.drop i)=decide (items.size<dN.size):=by
   by_cases hm:i<ms.length
   ·rw[List.drop_eq_getElem_cons hm,HT.pI]
    exact(decide_eq_true (by omega)).symm
   ·rw[List.drop_eq_nil_of_le (by omega),HT.rH]
    exact(decide_eq_false (by omega)).symm
  rw[hv]at h
  rw[e1]
  wp_walk using wpAny_loadPart' hl,wpAny_loadPart' hb
  exact h
 |succ k ih=>
  intro i hk h1 h2 prog w A R s h
  obtain⟨hp,g,d,tk,os⟩:=s;obtain⟨hl,hb,h⟩:=h
  wp_walk using wpAny_loadPart' hl,wpAny_loadPart' hb
  have fF:i<items.size:=by omega
  have e1:items[((i:Nat):Int).toNat]?=some items[i]:=by simp[fF]
  have dn:ns.drop i=ns[i]::ns.drop (i+1):=List.drop_eq_getElem_cons (by omega)
  by_cases hm:i<dN.size
  ·have e2:dN[((i:Nat):Int).toNat]?=some dN[i]:=by simp[hm]
   have dm:ms.drop i=ms[i]::ms.drop (i+1):=List.drop_eq_getElem_cons (by omega)
   rw[dn,dm,HT.l5]at h
   rw[e1,e2]
   obtain⟨t,f1⟩:=hi.get i ns[i] (List.getElem?_eq_getElem (by omega))
   obtain⟨u,f2⟩:=hj.get i ms[i] (List.getElem?_eq_getElem (by omega))
   have Rm:items[i]=.int ns[i] t:=by
    have:=(List.getElem?_eq_some_iff.mp f1).2
    simpa using this
   have Ro:dN[i]=.int ms[i] u:=by
    have:=(List.getElem?_eq_some_iff.mp f2).2
    simpa using this
   have hc:((i:Int)+1)=((i+1:Nat):Int):=by push_cast;rfl
   rw[Rm,Ro]
   obtain⟨e,he,Nl⟩:=HT.C8 A.in1 ⟨hp,g,d,tk,os⟩ ns[i] t ms[i] u
   refine wpAny_bind (he prog w _ _ ?_)
   cases e with
   |true=>
    rw[if_pos (Nl.mp rfl)]at h
    wp_walk
    rw[hc]
    exact⟨plainId_quiet plain_eq_loop _,codeAny_builtin entry_eq_loop (by
     rw[Around.under_plainId plain_eq_loop _]
     exact ih (i+1) (by omega) (by omega) (by omega) prog w A R _ ⟨hl,hb,h⟩)⟩
   |false=>
    rw[if_neg (λq=>absurd (Nl.mpr q) Bool.false_ne_true)]at h
    wp_walk using wpAny_loadPart' hl,wpAny_loadPart' hb
    rw[e1,e2]
    rw[Rm,Ro]
    have SG:=HT.C9 A.in1 ⟨hp,g,d,tk,os⟩ ns[i] t ms[i] u prog w
    wp_walk using SG
    exact h
  ·have e2:dN[((i:Nat):Int).toNat]?=none:=by simp;omega
   have dm:ms.drop i=[]:=List.drop_eq_nil_of_le (by omega)
   rw[dn,dm,HT.pJ]at h
   have hv:false=decide (items.size<dN.size):=(decide_eq_false (by omega)).symm
   rw[hv]at h
   rw[e1,e2]
   wp_walk using wpAny_loadPart' hl,wpAny_loadPart' hb
   exact h
theorem uf(l b:Addr)(items dN:Array Value)(n n2:Nat)(dd L6:Option Addr)(sl L7:Array (Option Value))(ns ms:List Int)(hi:IntsAre items.toList ns)(hj:IntsAre dN.toList ms):
  Meets (Builtin.«list.__lt__» ⟨[.ref l,.ref b],[]⟩)
   (λA R s=>s.heap.get? l=some {cls:=.type "list",dict:=dd,data:=.seq items n,slots:=sl}/\s.heap.get? b=some {cls:=.type "list",dict:=L6,data:=.seq dN n2,slots:=L7}/\
     R (.ok (.ret (.bool (HT.lexLt ns ms)))) s):=by
 intro prog w A R s h
 obtain⟨hp,g,d,tk,os⟩:=s;obtain⟨hl,hb,h⟩:=h
 have f3:=AutoSeq1.sub_list_list
 wp_walk using wpAny_loadPart' hl,wpAny_loadPart' hb
 exact⟨plainId_quiet plain_eq_loop _,codeAny_builtin entry_eq_loop (by
  rw[Around.under_plainId plain_eq_loop _]
  exact GW l b items dN n n2 dd L6 sl L7 ns ms hi hj _ 0 rfl (Nat.zero_le _) (Nat.zero_le _) prog w A R _ ⟨hl,hb,by simpa using h⟩)⟩
noncomputable def Nm(A:Around)(s:Shared)(y x:Value)(r:Bool):Prop:=
 ∀(prog:Program) (w:World) (E:Value->Shared->Prop) (Q:Value->Shared->Prop),Q (.bool r) s->wpAny (model prog w) A (richCompare .Lt y x) Q E s
theorem yd{A:Around}{s:Shared}{l b:Addr}{items dN:Array Value}{ns ms:List Int}(hl:s.heap.IsList l items)(hb:s.heap.IsList b dN)(hi:IntsAre items.toList ns)(hj:IntsAre dN.toList ms)(hu:A.units<cLine):Nm A s (.ref l) (.ref b) (HT.lexLt ns ms):=λprog w E Q h=>by
 obtain⟨⟨cls,dd,data,sl⟩,ho,hc,n,hd⟩:=id hl
 obtain⟨⟨SH,L6,data2,L7⟩,Oz,OA,n2,hd2⟩:=id hb
 simp only at hc hd OA hd2
 subst hc hd OA hd2
 exact richCompare_meets_room (op:=.Lt) ⟨_,ho,rfl⟩ ⟨_,Oz,rfl⟩ PySem.F.slot_list_lt PySem.F.entry_list_lt (PySem.F.args_list_lt_2 _ _) (uf l b items dN n n2 dd L6 sl L7 ns ms hi hj)
  ⟨ho,Oz,⟨(λx=>nomatch x),h⟩⟩ hu
end
end L2
namespace L2
open PySem PySem.Spec PyProof.Rows
structure fI(kf:Scope)(N:List Str)(sc:Scope)(x z:Str)(ys:List Str):Prop where
 kind:sc.kind=.function
 xloc:sc.names.lookup x=some .local
 zloc:sc.names.lookup z=some .local
 nocell:∀p∈sc.names,p.2≠.cell
 locs:∀p∈sc.names,p.2=.local->sc.names.lookup p.1=some .local
 free:∀p∈sc.names,p.2=.free->kf.names.lookup p.1=some .cell\/kf.names.lookup p.1=some .free
 nd:(x::z::ys).Nodup
 len:ys.length=N.length
 pl:∀p∈ys.zip N,sc.names.lookup p.1=some .free->p.1=p.2
 nl:∀y∈ys,sc.names.lookup y≠some .local
noncomputable def ly(kf:Scope)(N:List Str)(sc:Scope)(x z:Str)(ys:List Str):Bool:=
 decide (sc.kind=.function)&&decide (sc.names.lookup x=some .local)&&decide (sc.names.lookup z=some .local)&&decide (∀p∈sc.names,p.2≠.cell)&&decide (∀p∈sc.names,p.2=.local->sc.names.lookup p.1=some .local)&&
 decide (∀p∈sc.names,p.2=.free->kf.names.lookup p.1=some .cell\/kf.names.lookup p.1=some .free)&&decide ((x::z::ys).Nodup)&&decide (ys.length=N.length)&&
 decide (∀p∈ys.zip N,sc.names.lookup p.1=some .free->p.1=p.2)&&decide (∀y∈ys,sc.names.lookup y≠some .local)
theorem fI.of{kf:Scope}{N:List Str}{sc:Scope}{x z:Str}{ys:List Str}(h:ly kf N sc x z ys=true):fI kf N sc x z ys:=by
 unfold ly at h
 simp only[Bool.and_eq_true,decide_eq_true_eq]at h
 obtain⟨⟨⟨⟨⟨⟨⟨⟨⟨h1,h2⟩,SI⟩,h3⟩,h4⟩,h5⟩,h6⟩,h7⟩,h8⟩,h9⟩:=h
 exact⟨h1,h2,SI,h3,h4,h5,h6,h7,h8,h9⟩
noncomputable def Cx.iM(X:Cx)(sc:Scope)(x z:Str)(ys:List Str)(ex:List Addr)(C:Addr)(s:Shared)(H:Hp):Cx:={X.nI sc x ys ex C s H with N:=x::z::ys}
section
variable{X:Cx}{pins:List (Addr×Obj)}{σ:St}{H:Hp}{s:Shared}{sc:Scope}{x z:Str}{ys:List Str}
theorem fI.cell(cs:fI X.env.scope X.N sc x z ys)(I:Inv X pins σ H s){y:Str}(h:(y,NameKind.free)∈sc.names):∃c,X.env.cells.lookup y=some c:=I.ok.has y (cs.free _ h rfl)
theorem fI.cl(cs:fI X.env.scope X.N sc x z ys)(I:Inv X pins σ H s){y:Str}{c:Addr}(h:(l7 sc X.env).lookup y=some c):X.env.cells.lookup y=some c/\(y,NameKind.free)∈sc.names:=by
 rcases ud X.env sc.names [] y c h with h1|⟨h1,h2⟩
 ·cases h1
 ·obtain⟨d,hd⟩:=cs.cell I h1
  rw[hd]at h2
  rw[h2]
  exact⟨hd,h1⟩
theorem GX(cs:fI X.env.scope X.N sc x z ys)(I:Inv X pins σ H s){fp:List Addr}(hf:∀b∈fp,j9 X pins H b)(fF:∀b∈fp,b<s.heap.objs.size){C:Addr}(hC:s.heap.objs.size<=C):(X.iM sc x z ys fp C s H).Ok where
 mod:=I.ok.mod
 kind:=cs.kind
 glob:=I.ok.glob
 blt:=I.ok.blt
 above:=hC
 inj:=λy y' c h1 h2=>I.ok.inj y y' c (cs.cl I h1).1 (cs.cl I h2).1
 has:=λy hy=>by
  have PZ:(relabel sc X.env).names.lookup y=some .cell\/(relabel sc X.env).names.lookup y=some .free:=hy
  have hf:(y,NameKind.free)∈sc.names:=by
   rcases PZ with h|h
   ·rcases bx h with h1|⟨h1,_⟩
    ·exact absurd rfl (cs.nocell _ (PySem.mem_of_lookup h1))
    ·exact PySem.mem_of_lookup h1
   ·rcases bx h with h1|⟨h1,_⟩
    ·exact PySem.mem_of_lookup h1
    ·exact PySem.mem_of_lookup h1
  exact pS X.env sc.names [] y (.inl hf)
 cab:=λy c h=>by cases h
 hd:=I.ok.hd
 frames:=I.ok.frames
 stk:=.inl rfl
 exf:=λb hb=>⟨λe=>by
  have:=fF b hb
  rw[e]at this
  exact absurd (Nat.lt_of_lt_of_le this hC) (Nat.lt_irrefl _),λy c h=>(hf b hb).2.2.2.2.1 y c (cs.cl I h).1⟩
 bs:=I.bs
 bsz:=Nat.le_trans I.ok.bsz I.sz
 noex:=λb o e hb=>by
  rcases(hf b hb).2.2.2.1 with h|h
  ·exact I.ok.noex b o e h
  ·exact absurd (Nat.lt_of_lt_of_le (Heap.lt_size e) (Nat.le_trans I.ok.bsz h)) (Nat.lt_irrefl _)
 exfs:=λb hb h=>(List.mem_cons.mp (I.tE b h)).elim (hf b hb).2.1 (hf b hb).2.2.1
 funs:=I.stack
 frf:=I.tF
end
section
variable{X:Cx}{sc:Scope}{x zz:Str}{ys:List Str}{px pz tp:Pos}{x1:Nat}{elt iter:Expr}{pos:Pos}{wi:TI}{te:TE}
theorem sE{M:Value->Env->Result->Shared->Prop}{pins:List (Addr×Obj)}{σ:St}{H:Hp}{s:Shared}{E:Value->Shared->Prop}(hc:X.calm=true)(cs:fI X.env.scope X.N sc x zz ys)(I:Inv X pins σ H s)
  (he:∀ex C s H,PE (X.iM sc x zz ys ex C s H) elt te)
  {it:Addr}{fp:List Addr}{tn:Nat->Heap->Prop}{J:It}(T:Turn X.prog X.w X.K (.Tuple [.Name x px,.Name zz pz] x1 tp) J fp it tn)(st:tn 0 s.heap)(hf:∀b∈fp,j9 X pins H b)
  {W:Nat->Nat->List V->Hp->Prop}{m0:Nat}(w0:W 0 m0 [] H){F:List V->Hp->Prop}
  (turn:∀i m acc H,W i m acc H->(J.stop i H/\F acc H)\/(J.go i H/\acc.length<sizeLine/\∀y H',J.yld i H y H'->∃p u v,y=.ref p/\lM X.K H' p [u,v]/\te (some u::some v::σ) H' λz H3=>∃m',m'<m/\W (i+1) m' (acc++[z]) H3))
  (hM:∀(D C:Addr) (eR:Env) (s':Shared) (acc:List V) (H':Hp) (its:List Value) (n:Nat),eR.locals=C->D≠C->s.heap.objs.size<=D->s.heap.objs.size<=C->Inv (X.iM sc x zz ys fp C s H) [(D,lobj its n)] (none::none::σ) H' s'->Vals acc its->acc.length<=sizeLine->F acc H'->
    M (.ref D) eR (.ok .next) s'):
  wpAny (model X.prog X.w) X.A (newList []) (λacc s₃=>wpAny (model X.prog X.w) X.A (newFunctionEnv sc X.env.globals (l7 sc X.env) [] X.env.qual none .none (some X.env)) (λeR s₄=>
   codeAny (model X.prog X.w) X.A (.compStart (.ListComp elt [⟨.Tuple [.Name x px,.Name zz pz] x1 tp,iter,[],0⟩] sc pos) 0 (.ref it) acc {eR with scope:=relabel sc X.env}) (M acc eR) s₄) E s₃) E s:=by
 have fF:∀b∈fp,b<s.heap.objs.size:=λb hb=>by
  obtain⟨o,e,_⟩:=T.obj 0 _ st b hb
  exact Heap.lt_size e
 refine wpAny_newObj_type (wpAny_newFunctionEnv cs.nocell (by intro y hy;simp at hy) (λh1 F7 GQ=>?_) cs.kind)
 dsimp only at F7 GQ⊢
 generalize x8:s.heap.push {cls:=.type "list",dict:=none,data:=.seq ([]:List Value).toArray}=h2 at F7 GQ⊢
 have hC:h2.objs.size=s.heap.objs.size+1:=by rw[<-x8,Heap.size_push]
 have rL:s.heap.objs.size≠h2.objs.size:=by omega
 have old:∀b o,s.heap.get? b=some o->h1.get? b=some o:=λb o e=>by
  have hb:=Heap.lt_size e
  rw[GQ.2 b (by rw[hC];exact Nat.ne_of_lt (Nat.lt_succ_of_lt hb))]
  exact Heap.get?_push_of_some _ (x8▸Heap.get?_push_of_some _ e)
 have hD:h1.get? s.heap.objs.size=some (lobj [] 0):=by
  rw[GQ.2 _ rL]
  exact Heap.get?_push_of_some _ (x8▸Heap.get?_push_size _ rfl)
 generalize SE:h2.objs.size=C at*
 have x9:s.heap.objs.size<=C:=by omega
 have pT:∀b,s.heap.objs.size<=b->H b=none:=λb hb=>I.d8.fresh hb
 have A0:∀b,s.heap.objs.size<=b->b∉xE X.stack:=λb hb z=>by
  obtain⟨_,o,ho,_⟩:=(I.stack).mem z
  exact absurd (Nat.lt_of_lt_of_le (Heap.lt_size ho) hb) (Nat.lt_irrefl _)
 have I0:Inv (X.iM sc x zz ys fp C s H) [(s.heap.objs.size,lobj [] 0)] (none::none::σ) H {s with heap:=h1,toks:=s.toks+([]:List (Str×Value)).length}:=by
  refine⟨GX cs I hf fF x9,rfl,I.bare,Un.kept old,⟨_,F7,λi y v e1 e2 e3=>?_⟩,λy c e=>?_,pT _ x9,λy c e=>I.freeC y c (cs.cl I e).1,λp hp=>?_,I.d8.kept old,?_⟩
  ·cases i with
   |zero=>cases e2
   |succ i=>
   cases i with
   |zero=>cases e2
   |succ i=>
    have IX:ys[i]?=some y:=e1
    have Ov:σ[i]?=some (some v):=e2
    have IZ:(relabel sc X.env).names.lookup y=some .local\/(relabel sc X.env).names.lookup y=some .cell\/(relabel sc X.env).names.lookup y=some .free:=e3
    have Ky:sc.names.lookup y=some .free:=by
     rcases IZ with h|h|h
     ·rcases bx h with h1|⟨_,h1⟩
      ·exact absurd h1 (cs.nl y (List.mem_of_getElem? IX))
      ·cases h1
     ·rcases bx h with h1|⟨h1,_⟩
      ·exact absurd rfl (cs.nocell _ (PySem.mem_of_lookup h1))
      ·exact h1
     ·rcases bx h with h1|⟨h1,_⟩
      ·exact h1
      ·exact h1
    have hi:i<X.N.length:=by
     rw[<-cs.len]
     exact(List.getElem?_eq_some_iff.mp IX).1
    have hN:X.N[i]?=some y:=by
     have hz:(ys.zip X.N)[i]?=some (y,X.N[i]):=by
      rw[List.getElem?_zip_eq_some]
      exact⟨IX,List.getElem?_eq_getElem hi⟩
     have:=cs.pl _ (List.mem_of_getElem? hz) Ky
     dsimp only at this
     rw[this]
     exact List.getElem?_eq_getElem hi
    have ya:(y,NameKind.free)∈sc.names:=PySem.mem_of_lookup Ky
    obtain⟨m,hn,hl⟩:=I.loc
    obtain⟨u,r,lk⟩:=hl i y v hN Ov (.inr (cs.free _ ya rfl))
    refine⟨u,r,.inr ⟨?_,?_⟩⟩
    ·rcases IZ with h|h
     ·rcases bx h with h1|⟨_,h1⟩
      ·rw[Ky]at h1
       cases h1
      ·cases h1
     ·exact h
    ·rcases lk with⟨k,_⟩|⟨_,c,e,z⟩
     ·rcases cs.free _ ya rfl with h|h
      ·have k':X.env.scope.names.lookup y=some .local:=k
       rw[h]at k'
       cases k'
      ·have k':X.env.scope.names.lookup y=some .local:=k
       rw[h]at k'
       cases k'
     ·obtain⟨c',Iy⟩:=pS X.env sc.names [] y (.inl ya)
      have:c'=c:=by
       have:=(cs.cl I (show(l7 sc X.env).lookup y=some c' from Iy)).1
       rw[e]at this
       exact(Option.some.inj this).symm
      subst this
      obtain⟨o,ho,hd⟩:=z
      exact⟨c',Iy,o,old _ _ ho,hd⟩
  ·obtain⟨v,o,ho,hd⟩:=I.cell y c (cs.cl I e).1
   exact⟨v,o,old _ _ ho,hd⟩
  ·obtain rfl:p=(s.heap.objs.size,lobj [] 0):=by simpa using(show p∈([]:List (Addr×Obj))++[(s.heap.objs.size,lobj [] 0)]from hp)
   exact⟨hD,pT _ (Nat.le_refl _),rL,A0 _ (Nat.le_refl _),λv z=>by cases z⟩
  ·show(none::none::σ).length=(x::zz::ys).length
   rw[List.length_cons,List.length_cons,List.length_cons,List.length_cons,I.len,cs.len]
 have Kz:s.heap.objs.size∉fp:=λz=>Nat.lt_irrefl _ (fF _ z)
 have KA:∀{gW:List (Addr×Obj)} {H':Hp} {s':Shared} {σ':St},Inv (X.iM sc x zz ys fp C s H) gW σ' H' s'->(∀b∈fp,H' b=none)->(∀p∈gW,p.1∉fp)->∀b∈fp,j9 (X.iM sc x zz ys fp C s H) gW H' b:=λ{gW H' s' σ'} I' hn hp b hb=>
  ⟨hn b hb,(I'.ok.exf b hb).1,I'.ok.exfs b hb,.inl hb,(I'.ok.exf b hb).2,λp KC z=>by
    have KD:p∈gW:=by simpa using(show p∈([]:List (Addr×Obj))++gW from KC)
    exact hp p KD (z▸hb)⟩
 have loop:∀s3:Shared,s3={s with heap:=h1,toks:=s.toks+([]:List (Str×Value)).length}->∀eR:Env,eR.locals=C->
   codeAny (model X.prog X.w) X.A (.compLoop (.ListComp elt [⟨.Tuple [.Name x px,.Name zz pz] x1 tp,iter,[],0⟩] sc pos) 0 (.ref it) (.ref s.heap.objs.size) (compEnvC sc (l7 sc X.env) C X.env)) (M (.ref s.heap.objs.size) eR) s3:=by
  rintro s3 rfl eR yb
  refine PyProof.Rows.LCp.codeAny_compLoop_pair (λm s'=>∃i acc H' its n,Inv (X.iM sc x zz ys fp C s H) [(s.heap.objs.size,lobj its n)] (none::none::σ) H' s'/\Vals acc its/\acc.length<=sizeLine/\tn i s'.heap/\(∀b∈fp,H' b=none)/\W i m acc H') ?_ m0
   ⟨0,[],H,[],0,I0,.nil,Nat.zero_le _,T.keep 0 _ _ st λb hb o e=>old b o e,λb hb=>(hf b hb).1,w0⟩
  rintro m s' ⟨i,acc,H',its,n,I1,rv,hz,Nf,Ng,w1⟩
  have KG:∀p∈[(s.heap.objs.size,lobj its n)],p.1∉fp:=λp hp=>by
   obtain rfl:p=(s.heap.objs.size,lobj its n):=by simpa using hp
   exact Kz
  rcases turn i m acc H' w1 with⟨stop,fin⟩|⟨go,SF,step⟩
  ·refine wpAny_mono (T.done (X.iM sc x zz ys fp C s H) rfl rfl rfl hc i _ s' _ H' (λ_ _=>False) I1 (KA I1 Ng KG) Nf stop) (λr s4 ⟨hr,I4⟩=>?_) (λ_ _ z=>z.elim)
   subst hr
   exact hM _ C eR s4 acc H' its n yb rL (Nat.le_refl _) x9 I4 rv hz fin
  ·refine wpAny_mono (T.item (X.iM sc x zz ys fp C s H) rfl rfl rfl hc i _ s' _ H' (λ_ _=>False) I1 (KA I1 Ng KG) Nf go) (λr s4 cy=>?_) (λ_ _ z=>z.elim)
   obtain⟨u,hr,h4⟩:=cy
   subst hr
   dsimp only
   refine wpAny_mono h4 (λ_ s5 cy=>?_) (λ_ _ z=>z.elim)
   obtain⟨y,H5,I5,r5,y5,i6,Mz⟩:=cy
   have MA:=I5.pinned (KA I5 Mz KG) (T.obj _ _ i6)
   have xl:(X.iM sc x zz ys fp C s H).env.scope.names.lookup x=some .local:=lookup_relabel_local cs.xloc
   have zl:(X.iM sc x zz ys fp C s H).env.scope.names.lookup zz=some .local:=lookup_relabel_local cs.zloc
   obtain⟨pp,uu,vv,rfl,SJ,q6⟩:=step y H5 y5
   have pg:PG (X.iM sc x zz ys fp C s H) (.Tuple [.Name x px,.Name zz pz] x1 tp) _:=xH (n:=2) hc (jf (lr cs.nd (i:=0) rfl (.inl xl) (.inr xl)) (jf (lr cs.nd (i:=1) rfl (.inl zl) (.inr zl)) tI))
   refine wpAny_mono (pg _ s5 (none::none::σ) H5 (.ref pp) u (λσ' H'=>σ'=some uu::some vv::σ/\H'=H5) MA r5 ⟨pp,[uu,vv],rfl,SJ,rfl,uu,[vv],rfl,vv,[],rfl,rfl,rfl,rfl⟩) (λ_ s7 cy=>?_) (λ_ _ z=>z.elim)
   obtain⟨σ7,H7,I7,e7,SK⟩:=cy
   subst e7 SK
   have zH:∀{H':Hp} {s':Shared} {σ':St} {pl:List (Addr×Obj)},Inv (X.iM sc x zz ys fp C s H) (pl++fE fp s5.heap) σ' H' s'->tn (i+1) s'.heap/\∀b∈fp,H' b=none:=λ{H' s' σ' pl} I'=>by
    refine⟨T.keep _ _ _ i6 λb hb o e=>(I'.pin (b,o) (List.mem_append_right _ (List.mem_append_right _ (gp hb e)))).1,λb hb=>?_⟩
    obtain⟨o,e,d⟩:=T.obj _ _ i6 b hb
    exact(I'.pin (b,o) (List.mem_append_right _ (List.mem_append_right _ (gp hb e)))).2.1
   have wk:∀{H':Hp} {s':Shared} {pl:List (Addr×Obj)},Inv (X.iM sc x zz ys fp C s H) pl (some uu::some vv::σ) H' s'->Inv (X.iM sc x zz ys fp C s H) pl (none::none::σ) H' s':=λ{H' s' pl} I'=>I'.weak (by simp) λj v e=>by
    cases j with
    |zero=>cases e
    |succ j=>
     cases j with
     |zero=>cases e
     |succ j=>exact e
   refine wpAny_mono (he fp C s H _ s7 (some uu::some vv::σ) _ _ I7 q6) (λu8 s8 ⟨z,H8,I8,r8,m',hm,w8⟩=>?_) (λ_ _ z=>z.elim)
   obtain⟨t8,f8⟩:=zH I8
   obtain⟨p1,p2,p3,p4,p5⟩:=I8.pin (s.heap.objs.size,lobj its n) (List.mem_append_right _ (List.mem_append_left _ (List.mem_singleton.mpr rfl)))
   have hl:=rv.length
   refine wpAny_list_append_plain (items:=its.toArray) ⟨n,p1⟩ (λh9 P0 sb9=>?_) (by rw[List.size_toArray];omega)
   obtain⟨n9,e9⟩:=P0
   have P1:h9.get? s.heap.objs.size=some (lobj (its++[u8]) n9):=by
    rw[e9]
    unfold lobj
    simp
   have Ia:Inv (X.iM sc x zz ys fp C s H) (fE fp s5.heap) (none::none::σ) H8 s8:=(wk I8).eH λp hp=>I8.pin p (List.mem_append_right _ (List.mem_append_right _ hp))
   have Ib:Inv (X.iM sc x zz ys fp C s H) (fE fp s5.heap) (none::none::σ) H8 {s8 with heap:=h9,toks:=s8.toks}:=Ia.turned (it:=s.heap.objs.size) (λb o hb e=>(sb9.2 b hb).trans e) p2 p3 (.inr (Nat.le_refl _))
    (λy c e z=>by
      obtain⟨v,o,ho,_⟩:=I.cell y c (cs.cl I e).1
      exact absurd (Heap.lt_size ho) (by rw[z];exact Nat.lt_irrefl _))
    (λp hp z=>by
      have KC:p∈fE fp s5.heap:=by simpa using(show p∈([]:List (Addr×Obj))++fE fp s5.heap from hp)
      exact Kz (z▸(nR KC).1))
   refine⟨m',hm,i+1,acc++[z],H8,its++[u8],n9,Ib.eH λp hp=>?_,rv.append (.cons r8 .nil),?_,T.keep _ _ _ t8 λb hb o e=>?_,f8,w8⟩
   ·obtain rfl:p=(s.heap.objs.size,lobj (its++[u8]) n9):=by simpa using hp
    exact⟨P1,p2,p3,p4,λv z=>by cases z⟩
   ·rw[List.length_append,List.length_singleton]
    omega
   ·exact(sb9.2 b (λz=>Kz (z▸hb))).trans e
 exact codeAny_compStart_list (loop _ rfl _ rfl) (T.self _ 0 _ _ _ (T.keep 0 _ _ st λb hb o e=>old b o e) (loop _ rfl _ rfl))
end
noncomputable def ye(K:PySem.W.Frag)(wi:TI)(te:TE):TE:=λσ H Q=>wi σ H λJ H1=>∃W:Nat->Nat->List V->Hp->Prop,(∃m,W 0 m [] H1)/\∀i m acc H,W i m acc H->
 (J.stop i H/\∀p,H p=none->Q (.ref p) (upd H p (.lst acc)))\/(J.go i H/\acc.length<sizeLine/\∀y H',J.yld i H y H'->∃p u v,y=.ref p/\lM K H' p [u,v]/\te (some u::some v::σ) H' λz H3=>∃m',m'<m/\W (i+1) m' (acc++[z]) H3)
section
variable{X:Cx}{sc:Scope}{x zz:Str}{ys:List Str}{px pz tp:Pos}{x1:Nat}{elt iter:Expr}{pos:Pos}{wi:TI}{te:TE}
theorem pV{pins:List (Addr×Obj)}{σ σ':St}{H H':Hp}{s s':Shared}(cs:fI X.env.scope X.N sc x zz ys)(I:Inv X pins σ H s){fp:List Addr}(hf:∀b∈fp,j9 X pins H b){D C:Addr}{its:List Value}{n:Nat}{acc:List V}
  (I':Inv (X.iM sc x zz ys fp C s H) [(D,lobj its n)] σ' H' s')(rL:D≠C)(hD:s.heap.objs.size<=D)(hC:s.heap.objs.size<=C)(rv:Vals acc its)(hz:acc.length<=sizeLine){h':Heap}(sb:Heap.SameBut C s'.heap h'):
  Inv X pins σ (upd H' D (.lst acc)) {s' with heap:=h'}:=by
 obtain⟨p1,p2,p3,p4,p5⟩:=I'.pin (D,lobj its n) (List.mem_append_right _ (List.mem_singleton.mpr rfl))
 have below:∀b o,s.heap.get? b=some o->b≠D/\b≠C:=λb o e=>⟨Nat.ne_of_lt (Nat.lt_of_lt_of_le (Heap.lt_size e) hD),Nat.ne_of_lt (Nat.lt_of_lt_of_le (Heap.lt_size e) hC)⟩
 have U:Un (xE X.stack) fp H H' s.heap s'.heap:=I'.base
 have gX:H' C=none:=I'.free
 refine I.Iz (ch:=fp) I'.os ⟨λb o e n hb hx=>?_,λb o e n hb hx=>?_,λb o e n hx=>?_,λb o e hx=>?_,λb xs e=>?_,λb o u e=>?_,λb ps e=>?_⟩ (λb o e=>?_) I'.bare λb hb=>⟨(hf b hb).2.2.2.1,(hf b hb).2.1,(hf b hb).2.2.2.2.1,(hf b hb).2.2.2.2.2⟩
 ·exact(sb.2 b (below b o e).2).trans (U.keep b o e n hb hx)
 ·obtain⟨sl,q⟩:=U.slot b o e n hb hx
  exact⟨sl,(sb.2 b (below b o e).2).trans q⟩
 ·rw[aC (below b o e).1]
  exact U.free b o e n hx
 ·obtain⟨o',q⟩:=U.there b o e hx
  exact⟨o',(sb.2 b (below b o e).2).trans q⟩
 ·rw[aC (ba (U.oV b xs e) p2)]
  exact U.oV b xs e
 ·rw[aC (ba (U.nM b o u e) p2)]
  exact U.nM b o u e
 ·obtain⟨more,q⟩:=U.rF b ps e
  exact⟨more,by rw[aC (ba q p2)];exact q⟩
 ·by_cases hb:b=D
  ·subst hb
   rw[aU]at e
   cases e
   exact⟨hz,its,n,rv,(sb.2 b rL).trans p1⟩
  ·rw[aC hb]at e
   refine(I'.d8 b o e).rD (λc v hc q=>(sb.2 c ?_).trans q) (λc q=>?_) λc xs q=>?_
   ·rintro rfl
    rcases hc with hc|hc
    ·rw[hc,e]at gX
     cases gX
    ·rw[hc]at gX
     cases gX
   ·rw[aC (ba q p2)]
    exact q
   ·rw[aC (ba q p2)]
    exact q
theorem Dv(hi:PI X (.Tuple [.Name x px,.Name zz pz] x1 tp) iter wi)(ys:List Str)(he:∀ex C s H,PE (X.iM sc x zz ys ex C s H) elt te)(ue:ly X.env.scope X.N sc x zz ys=true)(hc:X.calm=true:=by rfl)
  (hs:∀x,foldedSetIterable iter X.env x=pure x:=by intro _;rfl):PE X (.ListComp elt [⟨.Tuple [.Name x px,.Name zz pz] x1 tp,iter,[],0⟩] sc pos) (ye X.K wi te):=by
 have cs:=fI.of ue
 intro pins s σ H Q I h
 rw[eval_ListComp]
 refine wpAny_comprehension_free (use:=none) (cl:=l7 sc X.env) rfl hs (pf λp hp hk=>cs.cell I (by rw[<-hk];exact hp)) cs.kind cs.locs ?_
 refine dS (hi pins s σ H _ I h) λv s1 h1=>dS h1 λLY s2 h2=>?_
 obtain⟨it,fp,tn,J,H2,rfl,I2,T,b9,f2,W,⟨m0,w0⟩,turn⟩:=h2
 refine sE (M:=λacc eR=>compPost (model X.prog X.w) X.A X.xe none (EP X pins σ Q) acc eR.locals) hc cs I2 he T b9 f2 w0 (F:=λacc H=>∀p,H p=none->Q (.ref p) (upd H p (.lst acc))) turn λD C eR s' acc H' its n yb rL hD hC I' rv hz q=>?_
 obtain⟨m,hn,_⟩:=I'.loc
 refine⟨m,by rw[yb];exact hn,λh' sb=>?_⟩
 rw[yb]at sb
 exact⟨.ref D,_,pV cs I2 f2 I' rL hD hC rv hz sb,rfl,q D (I'.pin (D,lobj its n) (List.mem_append_right _ (List.mem_singleton.mpr rfl))).2.1⟩
theorem Dw{i:Nat}{y:Str}{py mQ:Pos}(hN:X.N.Nodup)(GR:X.N[i]?=some y)(hy:X.env.scope.names.lookup y=some .local)(hi:PI X (.Tuple [.Name x px,.Name zz pz] x1 tp) iter wi)(ys:List Str)(he:∀ex C s H,PE (X.iM sc x zz ys ex C s H) elt te)
  (ue:ly X.env.scope X.N sc x zz ys=true)(hc:X.calm=true:=by rfl)(hs:∀x,foldedSetIterable iter X.env x=pure x:=by intro _;rfl)
  (GS:swapsWith (.ListComp elt [⟨.Tuple [.Name x px,.Name zz pz] x1 tp,iter,[],0⟩] sc pos) (some (.Name y py)) mQ.line X.env=pure true:=by rfl):
  PS X (.Assign [.Name y py] (.ListComp elt [⟨.Tuple [.Name x px,.Name zz pz] x1 tp,iter,[],0⟩] sc pos) mQ) (λD σ H=>ye X.K wi te σ H λv H1=>D.nx (σ.set i (some v)) H1):=by
 have cs:=fI.of ue
 intro pins s σ H D I h
 rw[exec_Assign_Name_used _ _ _ _ GS]
 refine wpAny_bind (wpAny_standAt (wpAny_bind ?_))
 show wpAny _ X.A (do let _<-comprehension (.ListComp elt [⟨.Tuple [.Name x px,.Name zz pz] x1 tp,iter,[],0⟩] sc pos) sc X.env _ (newList []) false (eval iter X.env) (some (assign (.Name y py) X.env))) _ _ s
 refine wpAny_bind (wpAny_mono (wpAny_comprehension_free (use:=some (assign (.Name y py) X.env)) (cl:=l7 sc X.env) (Q:=λ_ s'=>SP X pins D .next s') rfl hs (pf λp hp hk=>cs.cell I (by rw[<-hk];exact hp)) cs.kind cs.locs ?_) (λ_ s' hq=>wpAny_pure (wpAny_pure hq)) λ_ _ e=>e)
 refine dS (hi pins s σ H _ I h) λv s1 h1=>dS h1 λLY s2 h2=>?_
 obtain⟨it,fp,tn,J,H2,rfl,I2,T,b9,f2,W,⟨m0,w0⟩,turn⟩:=h2
 refine sE (M:=λacc eR=>compPost (model X.prog X.w) X.A X.xe (some (assign (.Name y py) X.env)) (λ_ s'=>SP X pins D .next s') acc eR.locals) hc cs I2 he T b9 f2 w0
  (F:=λacc H=>∀p,H p=none->D.nx (σ.set i (some (.ref p))) (upd H p (.lst acc))) turn λDa C eR s' acc H' its n yb rL hD hC I' rv hz q=>?_
 obtain⟨m,hn,_⟩:=I'.loc
 have Io:=pV cs I2 f2 I' rL hD hC rv hz (SameBut.Nh C s'.heap)
 have Ni:C≠X.env.locals:=λe=>absurd (Nat.lt_of_lt_of_le I2.lt hC) (by rw[e];exact Nat.lt_irrefl _)
 have Nj:∀z c,X.env.cells.lookup z=some c->c≠C:=λz c e e'=>by
  obtain⟨v,o,ho,_⟩:=I2.cell z c e
  exact absurd (Nat.lt_of_lt_of_le (Heap.lt_size ho) hC) (by rw[e'];exact Nat.lt_irrefl _)
 refine wpAny_assign_Name (nN (v:=.ref Da) Io hN GR (.inl hy) rfl (λJ6 P2 cy=>?_) (.inr hy))
 obtain⟨a,sb,ha⟩:=cy
 have P4:C≠a:=by
  rcases ha with e|e
  ·rw[e]
   exact Ni
  ·exact(Nj y a e).symm
 refine⟨m,by rw[yb];exact hn.sameBut sb P4,λh' Nk=>?_⟩
 rw[yb]at Nk
 have gX:(upd H' Da (.lst acc)) C=none:=by
  rw[aC rL.symm]
  exact I'.free
 refine⟨_,_,P2.turned (t':=J6.toks) (it:=C) (λb o hb e=>(Nk.2 b hb).trans e) gX Ni (.inr (Nat.le_trans I2.sz hC)) Nj (λp hp e=>?_),q Da (I'.pin (Da,lobj its n) (List.mem_append_right _ (List.mem_singleton.mpr rfl))).2.1⟩
 exact absurd (Nat.lt_of_lt_of_le (Heap.lt_size (I2.pin p hp).1) hC) (by rw[e];exact Nat.lt_irrefl _)
end
end L2
namespace Mt
noncomputable def sub(a b:Nat):Bool:=(a&&&b)==a
noncomputable def bW(g:Nat):List Nat:=(List.range 6).filter λh=>g.testBit h
noncomputable def P7(g:Nat):Nat:=(bW g).foldl (λn h=>n+2^(5-h)) 0
noncomputable def rank(g:Nat):Nat:=(bW g).length*64+(63-P7 g)
noncomputable def zL(p:Nat->Nat->Bool):Bool:=(List.range 64).all λa=>(List.range 64).all λb=>p a b
theorem pW{p:Nat->Nat->Bool}(h:zL p=true){a b:Nat}(ha:a<64)(hb:b<64):p a b=true:=by
 have h1:=List.all_eq_true.mp h a (List.mem_range.mpr ha)
 exact List.all_eq_true.mp h1 b (List.mem_range.mpr hb)
theorem pX{a b:Nat}(ha:a<64)(hb:b<64)(e:rank a=rank b):a=b:=by
 have h:zL (λa b=>!(rank a==rank b)||a==b)=true:=by decide+kernel
 have:=pW h ha hb
 rw[e]at this
 simpa using this
theorem Dx{a b:Nat}(ha:a<64)(hb:b<64)(s:sub a b=true):rank a<=rank b:=by
 have h:zL (λa b=>!(sub a b)||decide (rank a<=rank b))=true:=by decide+kernel
 have:=pW h ha hb
 rw[s]at this
 simpa using this
theorem pY(a:Nat):sub a a=true:=by simp[sub]
theorem zM{a b:Nat}:sub a b=true↔a&&&b=a:=by simp[sub]
theorem Bj{a b c:Nat}(h1:sub a b=true)(h2:sub b c=true):sub a c=true:=by
 rw[zM]at*
 rw[<-h1,Nat.and_assoc,h2]
noncomputable def lets(l:List Nat)(g:Nat):Bool:=l.any λr=>sub r g
theorem fJ{l:List Nat}{g:Nat}:lets l g=true↔∃r∈l,sub r g=true:=List.any_eq_true
structure KI(l:List Nat):Prop where
 ord:l.Pairwise λa b=>rank a<rank b
 anti:∀a∈l,∀b∈l,sub a b=true->a=b
 small:∀a∈l,a<64
noncomputable def jF(acc:List Nat)(g:Nat):List Nat:=if lets acc g then acc else acc++[g]
noncomputable def pZ(ss:List Nat):List Nat:=ss.foldl jF []
structure Cl(pre acc:List Nat):Prop where
 lad:KI acc
 mem:∀r∈acc,r∈pre
 cov:∀g∈pre,lets acc g=true
theorem Cl.nil:Cl [] []:=⟨⟨List.Pairwise.nil,by simp,by simp⟩,by simp,by simp⟩
theorem Dy(l m:List Nat)(g:Nat):lets (l++m) g=(lets l g||lets m g):=by simp[lets]
theorem Cl.step{pre acc:List Nat}{g:Nat}(h:Cl pre acc)(hg:g<64)(hs:∀r∈pre,rank r<=rank g):Cl (pre++[g]) (jF acc g):=by
 unfold jF
 by_cases hl:lets acc g=true
 ·rw[if_pos hl]
  refine⟨h.lad,λr hr=>List.mem_append_left _ (h.mem r hr),λx hx=>?_⟩
  rcases List.mem_append.mp hx with hx|hx
  ·exact h.cov x hx
  ·obtain rfl:x=g:=by simpa using hx
   exact hl
 ·rw[if_neg hl]
  have hn:∀r∈acc,¬sub r g=true:=λr hr z=>hl (fJ.mpr ⟨r,hr,z⟩)
  have fF:∀r∈acc,rank r<rank g:=λr hr=>by
   have h1:=hs r (h.mem r hr)
   rcases Nat.lt_or_ge (rank r) (rank g)with h2|h2
   ·exact h2
   ·have:=pX (h.lad.small r hr) hg (by omega)
    subst this
    exact absurd (pY r) (hn r hr)
  refine⟨⟨?_,?_,?_⟩,?_,?_⟩
  ·refine List.pairwise_append.mpr ⟨h.lad.ord,List.pairwise_singleton _ _,λa ha b hb=>?_⟩
   obtain rfl:b=g:=by simpa using hb
   exact fF a ha
  ·intro a ha b hb s
   rcases List.mem_append.mp ha with OB|OB
   ·rcases List.mem_append.mp hb with CL|CL
    ·exact h.lad.anti a OB b CL s
    ·have e:b=g:=by simpa using CL
     rw[e]at s
     exact absurd s (hn a OB)
   ·have e:a=g:=by simpa using OB
    rcases List.mem_append.mp hb with CL|CL
    ·rw[e]at s
     have h1:=Dx hg (h.lad.small b CL) s
     have h2:=fF b CL
     omega
    ·have e2:b=g:=by simpa using CL
     rw[e,e2]
  ·intro a ha
   rcases List.mem_append.mp ha with ha|ha
   ·exact h.lad.small a ha
   ·obtain rfl:a=g:=by simpa using ha
    exact hg
  ·intro r hr
   rcases List.mem_append.mp hr with hr|hr
   ·exact List.mem_append_left _ (h.mem r hr)
   ·exact List.mem_append_right _ hr
  ·intro x hx
   rw[Dy]
   rcases List.mem_append.mp hx with hx|hx
   ·rw[h.cov x hx]
    rfl
   ·obtain rfl:x=g:=by simpa using hx
    simp[lets,pY]
theorem Dz{ss:List Nat}(lT:∀g∈ss,g<64)(hs:ss.Pairwise λa b=>rank a<=rank b):Cl ss (pZ ss):=by
 have go:∀(post pre:List Nat) (acc:List Nat),pre++post=ss->Cl pre acc->Cl ss (post.foldl jF acc):=by
  intro post
  induction post with
  |nil=>
   intro pre acc e h
   rw[List.append_nil]at e
   rw[<-e]
   exact h
  |cons g post ih=>
   intro pre acc e h
   rw[List.foldl_cons]
   refine ih (pre++[g]) _ (by rw[List.append_assoc];exact e) (h.step (lT g ?_) λr hr=>?_)
   ·rw[<-e]
    simp
   ·rw[<-e]at hs
    exact(List.pairwise_append.mp hs).2.2 r hr g (by simp)
 exact go ss [] [] rfl Cl.nil
theorem Cl.lets{pre acc:List Nat}(h:Cl pre acc)(g:Nat):Mt.lets acc g=Mt.lets pre g:=by
 rw[Bool.eq_iff_iff,fJ,fJ]
 constructor
 ·rintro⟨r,h1,h2⟩
  exact⟨r,h.mem r h1,h2⟩
 ·rintro⟨r,h1,h2⟩
  obtain⟨q,h3,h4⟩:=fJ.mp (h.cov r h1)
  exact⟨q,h3,Bj h4 h2⟩
end Mt
namespace L2.D
open PySem
inductive PV where
 |non|bl(b:Bool)|int(i:Int)|str(x:Str)|lst(l:List PV)|tup(l:List PV)|ins(c:Nat)(l:List PV)
 deriving Inhabited
noncomputable def flat:PV->Bool
 |.non=>true
 |.bl _=>true
 |.int _=>true
 |.str _=>true
 |_=>false
noncomputable def DD:PV->PV->Bool
 |.non,.non=>true
 |.bl a,.bl b=>a==b
 |.bl a,.int b=>(if a then 1 else 0)==b
 |.int a,.bl b=>a==(if b then 1 else 0)
 |.int a,.int b=>a==b
 |.str a,.str b=>a==b
 |_,_=>false
noncomputable def l8(f:PV->PV->Option Bool):List PV->List PV->Option (List Bool)
 |a::l,b::m=>(f a b).bind λe=>(l8 f l m).map (e::·)
 |_,_=>some []
noncomputable def CM(f:PV->PV->Option Bool)(l m:List PV):Option Bool:=if l.length=m.length then(l8 f l m).map λes=>es.all id else some false
noncomputable def jl:Nat->PV->PV->Option Bool
 |n+1,.lst l,.lst m=>CM (jl n) l m
 |n+1,.tup l,.tup m=>if l.length=m.length then CM (jl n) l m else none
 |_,p,q=>if flat p&&flat q then some (DD p q)else none
inductive Cn where
 |l(xs:List PV)|d(vw:List (Int×PV))
 deriving Inhabited
inductive Slot where
 |un|sh(p:PV)|own(c:Cn)|bw(l:List PV)
 deriving Inhabited
noncomputable abbrev Slot.ow(l:List PV):Slot:=.own (.l l)
noncomputable abbrev cg:=List Slot
noncomputable abbrev Den:=cg->Option PV
noncomputable def Slot.val:Slot->Option PV
 |.un=>none
 |.sh p=>some p
 |.own (.l l)=>some (.lst l)
 |.own (.d _)=>none
 |.bw l=>some (.lst l)
noncomputable def Slot.Bk:Slot->Option PV
 |.sh p=>some p
 |_=>none
inductive Fl where
 |nx(ρ:cg)|rt(p:PV)|bk(ρ:cg)|ct(ρ:cg)
noncomputable abbrev aP:=cg->Option Fl
noncomputable abbrev cN:=cg->Option Bool
noncomputable abbrev cu:=cg->Option (List PV)
noncomputable def dC(p:PV):Den:=λ_=>some p
noncomputable def dV(i:Nat):Den:=λρ=>(ρ[i]?).bind Slot.val
noncomputable def aO(i:Nat):Den:=λρ=>(ρ[i]?).bind Slot.Bk
noncomputable def aZ(g:PV->Option PV)(a:Den):Den:=λρ=>(a ρ).bind g
noncomputable def aa(g:PV->PV->Option PV)(a b:Den):Den:=λρ=>(a ρ).bind λx=>(b ρ).bind λy=>g x y
noncomputable def aA:cu:=λ_=>some []
noncomputable def ah(a:Den)(as:cu):cu:=λρ=>(a ρ).bind λx=>(as ρ).bind λxs=>some (x::xs)
noncomputable def aG(F:List PV->Option PV)(as:cu):Den:=λρ=>(as ρ).bind F
noncomputable def ug(F:List PV->Option PV)(as:cu):Den:=λρ=>(as ρ).bind λxs=>(F xs).bind λp=>if flat p then some p else none
noncomputable def jG(as:cu):Den:=λρ=>(as ρ).bind λxs=>if xs.length<=sizeLine then some (.lst xs)else none
noncomputable def Bm(as:cu):Den:=λρ=>(as ρ).bind λxs=>if xs.length<=sizeLine then some (.tup xs)else none
noncomputable def xB:PV->Option Bool
 |.bl b=>some b
 |_=>none
noncomputable def tV(a:Den):cN:=λρ=>(a ρ).bind xB
noncomputable def jd(a b:cN):cN:=λρ=>(a ρ).bind λc=>if c then b ρ else some false
noncomputable def jy(a b:cN):cN:=λρ=>(a ρ).bind λc=>if c then some true else b ρ
noncomputable def eV(a:cN):cN:=λρ=>(a ρ).map (!·)
noncomputable def bQ:PV->PV->Option PV
 |.int i,.int j=>some (.int (i+j))
 |.str x,.str y=>if x.length+y.length<=sizeLine then some (.str (x++y))else none
 |.lst l,.lst m=>if l.length+m.length<=sizeLine then some (.lst (l++m))else none
 |_,_=>none
noncomputable def tJ:PV->PV->Option PV
 |.int i,.int j=>some (.int (i-j))
 |_,_=>none
noncomputable def oG(i j:Int):Bool:=(decide (-(2^64)<i)&&decide (i<2^64))||(decide (-(2^64)<j)&&decide (j<2^64))
noncomputable def mR:PV->PV->Option PV
 |.int i,.int j=>if oG i j then some (.int (i*j))else none
 |_,_=>none
noncomputable def l9:PV->PV->Option PV
 |.int i,.int j=>if decide (0<j)&&decide (j<1073741824)then some (.int (i/j))else none
 |_,_=>none
noncomputable def gO:PV->PV->Option PV
 |.int i,.int j=>if decide (0<j)then some (.int (i % j))else none
 |_,_=>none
noncomputable def p6(i j:Int):Bool:=decide (0<=j)&&decide (j<=1000000)&&decide (i.natAbs<2^64)
noncomputable def Bn:PV->PV->Option PV
 |.int i,.int j=>if p6 i j then some (.int (i^j.toNat))else none
 |_,_=>none
noncomputable def iN:PV->PV->Option PV
 |.int i,.int j=>if p6 i j then some (.int (i*2^j.toNat))else none
 |_,_=>none
noncomputable def p7:PV->PV->Option PV
 |.int i,.int j=>if decide (0<=j)then some (.int (i/2^j.toNat))else none
 |_,_=>none
noncomputable def gP:PV->PV->Option PV
 |.int i,.int j=>some (.int (Builtin.bitAnd i j))
 |_,_=>none
noncomputable def L8:PV->PV->Option PV
 |.int i,.int j=>some (.int (Builtin.bitOr i j))
 |_,_=>none
noncomputable def jH:PV->Option PV
 |.int i=>some (.int (-i))
 |_=>none
noncomputable def eqT:PV->PV->Option Bool
 |.non,.non=>some true
 |.non,.int _=>some false
 |.non,.bl _=>some false
 |.non,.str _=>some false
 |.int _,.non=>some false
 |.bl _,.non=>some false
 |.str _,.non=>some false
 |.int a,.int b=>some (decide (a=b))
 |.bl a,.bl b=>some (decide (a=b))
 |.str a,.str b=>some (decide (a=b))
 |.int _,.str _=>some false
 |.str _,.int _=>some false
 |.bl _,.str _=>some false
 |.str _,.bl _=>some false
 |.lst l,.lst m=>jl 20 (.lst l) (.lst m)
 |.tup l,.tup m=>jl 20 (.tup l) (.tup m)
 |_,_=>none
noncomputable def iu(a b:PV):Option PV:=(eqT a b).map PV.bl
noncomputable def L9(a b:PV):Option PV:=(eqT a b).map λe=>PV.bl !e
noncomputable def ma:PV->PV->Option PV
 |.int i,.int j=>some (.bl (decide (i<j)))
 |_,_=>none
noncomputable def Bo:PV->PV->Option PV
 |.int i,.int j=>some (.bl (decide (j<i)))
 |_,_=>none
noncomputable def GY:PV->PV->Option PV
 |.int i,.int j=>some (.bl (decide (j<=i)))
 |_,_=>none
noncomputable def vV:PV->Option PV
 |.non=>some (.bl true)
 |_=>some (.bl false)
noncomputable def zN(x:PV)(l:List PV):Bool:=l.any λy=>DD y x
noncomputable def SM:PV->PV->Option PV
 |x,.lst l=>if flat x&&l.all flat then some (.bl (zN x l))else none
 |x,.tup l=>if flat x&&l.all flat then some (.bl (zN x l))else none
 |_,_=>none
noncomputable def kh:PV->PV->Option PV
 |x,.lst l=>if flat x&&l.all flat then some (.bl (!zN x l))else none
 |x,.tup l=>if flat x&&l.all flat then some (.bl (!zN x l))else none
 |_,_=>none
noncomputable def CN(n:Nat)(i:Int):Option Nat:=if 0<=i then(if i<n then some i.toNat else none)else if-(n:Int)<=i then some (i+n).toNat else none
noncomputable def itemAt{α:Type}(l:List α)(i:Int):Option α:=(CN l.length i).bind λj=>l[j]?
noncomputable def cn:PV->PV->Option PV
 |.lst l,.int i=>itemAt l i
 |.tup l,.int i=>itemAt l i
 |.str x,.int i=>if x.length<=sizeLine then(itemAt x.cps.toList i).map λc=>.str ⟨#[c]⟩else none
 |_,_=>none
noncomputable def bM:PV->Option PV
 |.lst l=>some (.int l.length)
 |.tup l=>some (.int l.length)
 |.str x=>if x.length<=sizeLine then some (.int x.length)else none
 |_=>none
noncomputable def DF:PV->Option PV
 |.lst l=>some (.lst l)
 |.tup l=>some (.lst l)
 |_=>none
noncomputable def bools:List PV->Option (List Bool)
 |[]=>some []
 |.bl b::l=>(bools l).map (b::·)
 |_::_=>none
noncomputable def GZ:PV->Option PV
 |.lst l=>(bools l).map λbs=>.bl (bs.any id)
 |_=>none
noncomputable def G0:PV->Option PV
 |.lst l=>(bools l).map λbs=>.bl (bs.all id)
 |_=>none
noncomputable def DH:PV->Option PV
 |.int i=>some (.int (Builtin.Int.intBits i:Nat))
 |_=>none
noncomputable def zO:PV->Nat
 |.int _=>0
 |.bl _=>1
 |.str _=>2
 |.lst _=>3
 |.tup _=>4
 |.non=>5
 |.ins _ _=>6
noncomputable def yf(k:Nat)(p:PV):Bool:=zO p==k||(k==0&&zO p==1)
noncomputable def rB(k:Nat)(p:PV):Option PV:=if zO p=6 then none else some (.bl (yf k p))
noncomputable def G1(n d:Nat):Option Int->Nat
 |none=>d
 |some i=>if i<0 then(i+n).toNat else min i.toNat n
noncomputable def uh{α:Type}(l:List α)(lo hi:Option Int):List α:=(l.drop (G1 l.length 0 lo)).take (G1 l.length l.length hi-G1 l.length 0 lo)
noncomputable abbrev Bp:=cg->Option (Option Int)
noncomputable def p8:Bp:=λ_=>some none
noncomputable def G2:PV->Option Int
 |.int i=>some i
 |_=>none
noncomputable def oH(a:Den):Bp:=λρ=>(a ρ).bind λp=>(G2 p).map some
noncomputable def I9(a:Den)(lo hi:Bp):Den:=λρ=>(a ρ).bind λx=>(lo ρ).bind λl=>(hi ρ).bind λh=>match x with
 |.lst xs=>some (.lst (uh xs l h))
 |_=>none
noncomputable def ki:PV->Option (List PV)
 |.lst l=>some l
 |_=>none
noncomputable def nList(a:Den):cu:=λρ=>(a ρ).bind ki
noncomputable def cR(lo:Int)(n:Nat):List PV:=(List.range n).map λk=>.int (lo+(k:Nat))
noncomputable def lU(j:Int):Bool:=decide (-(2^62)<=j)&&decide (j<2^62)
noncomputable def cO(a:Den):cu:=λρ=>(a ρ).bind λp=>(G2 p).bind λj=>if lU j then some (cR 0 j.toNat)else none
noncomputable def p9(a b:Den):cu:=λρ=>(a ρ).bind λp=>(b ρ).bind λq=>(ki p).bind λl=>(ki q).bind λm=>some (List.zipWith (λx y=>PV.tup [x,y]) l m)
noncomputable def eW(c:cN)(e:Den)(ρ:cg):List PV->Option (List PV)
 |[]=>some []
 |x::xs=>(c (.sh x::ρ)).bind λb=>if b then(e (.sh x::ρ)).bind λz=>(eW c e ρ xs).map (z::·)else eW c e ρ xs
noncomputable def bt:cN:=λ_=>some true
noncomputable def aT(it:cu)(c:cN)(e:Den):Den:=λρ=>(it ρ).bind λxs=>if xs.length<=sizeLine then(eW c e ρ xs).map PV.lst else none
noncomputable def bX:aP:=λρ=>some (.nx ρ)
noncomputable def aY(a b:aP):aP:=λρ=>(a ρ).bind λf=>match f with
 |.nx ρ'=>b ρ'
 |f=>some f
noncomputable def cA(i:Nat)(a:Den):aP:=λρ=>(a ρ).map λp=>.nx (ρ.set i (.sh p))
noncomputable def lV(i:Nat)(a:Den):aP:=λρ=>(a ρ).bind λp=>(ki p).map λl=>.nx (ρ.set i (.ow l))
noncomputable def br(a:Den):aP:=λρ=>(a ρ).map Fl.rt
noncomputable def iL(t:cN)(a b:aP):aP:=λρ=>(t ρ).bind λc=>if c then a ρ else b ρ
noncomputable def ui(i:Nat):aP:=λρ=>match ρ[i]? with
 |some (.own (.l l))=>some (.nx (ρ.set i (.sh (.lst l))))
 |_=>some (.nx ρ)
noncomputable def yg(ρ:cg)(i:Nat):Option (List PV):=match ρ[i]? with
 |some (.own (.l l))=>some l
 |_=>none
noncomputable def lP(i:Nat)(g:List PV->List PV->Option (List PV))(as:cu):aP:=λρ=>(as ρ).bind λxs=>(yg ρ i).bind λl=>(g l xs).map λl'=>.nx (ρ.set i (.ow l'))
noncomputable def ef(l xs:List PV):Option (List PV):=match xs with
 |[x]=>if l.length<sizeLine then some (l++[x])else none
 |_=>none
noncomputable def lz(l xs:List PV):Option (List PV):=match xs with
 |[.int k,x]=>if decide (0<=k)&&decide (k.toNat<=l.length)&&decide (l.length<sizeLine)then some (l.take k.toNat++x::l.drop k.toNat)else none
 |_=>none
noncomputable abbrev xC:=PV->cg->Option cg
noncomputable def bh(i:Nat):xC:=λp ρ=>some (ρ.set i (.sh p))
noncomputable def jI(a b:xC):xC:=λp ρ=>match p with
 |.tup [x,y]=>(a x ρ).bind (b y)
 |_=>none
noncomputable def forL(g:xC)(body:aP):List PV->aP
 |[]=>λρ=>some (.nx ρ)
 |x::xs=>λρ=>(g x ρ).bind λρ1=>(body ρ1).bind λf=>match f with
  |.nx ρ'=>forL g body xs ρ'
  |.ct ρ'=>forL g body xs ρ'
  |.bk ρ'=>some (.nx ρ')
  |.rt p=>some (.rt p)
noncomputable def hU(it:cu)(g:xC)(body:aP):aP:=λρ=>(it ρ).bind λxs=>forL g body xs ρ
noncomputable def fK(t:cN)(body:aP):Nat->aP
 |0=>λ_=>none
 |n+1=>λρ=>(t ρ).bind λc=>if c then(body ρ).bind λf=>match f with
   |.nx ρ'=>fK t body n ρ'
   |.ct ρ'=>fK t body n ρ'
   |.bk ρ'=>some (.nx ρ')
   |.rt p=>some (.rt p)
  else some (.nx ρ)
noncomputable def og:List Int->List Int->Bool
 |[],[]=>false
 |[],_::_=>true
 |_::_,[]=>false
 |x::xs,y::ys=>if x=y then og xs ys else decide (x<y)
noncomputable def sF(a b:Den):Den:=λρ=>(a ρ).bind λx=>(xB x).bind λc=>if c then b ρ else some (.bl false)
noncomputable def G3(a b:Den):Den:=λρ=>(a ρ).bind λx=>(xB x).bind λc=>if c then some (.bl true)else b ρ
noncomputable def Ja(a:Den):Den:=λρ=>(a ρ).bind λx=>(xB x).map λc=>.bl !c
noncomputable def vW(i:Nat):aP:=λρ=>(yg ρ i).map λl=>.rt (.lst l)
noncomputable def vX(p:PV):Option PV:=(vV p).bind λx=>(xB x).map λc=>.bl !c
noncomputable def dE(a b:PV):Option PV:=match a with
 |.tup _=>none
 |_=>L9 a b
noncomputable def eA:List PV->Option (List Int)
 |[]=>some []
 |.int i::l=>(eA l).map (i::·)
 |_::_=>none
noncomputable def Bq(rk:Int->Nat)(x:Int):List Int->List Int
 |[]=>[x]
 |y::l=>if rk x<=rk y then x::y::l else y::Bq rk x l
noncomputable def fL(rk:Int->Nat):List Int->List Int
 |[]=>[]
 |x::l=>Bq rk x (fL rk l)
noncomputable def iO(n:Int):Nat:=Mt.rank n.toNat
noncomputable def nJ(n:Int):Bool:=decide (0<=n)&&decide (n<64)
noncomputable def kj(ns:List Int):Bool:=ns.all nJ&&decide (ns.length<=5000)
noncomputable def oI(it:cu):Den:=λρ=>(it ρ).bind λl=>(eA l).bind λns=>if kj ns then some (.lst ((fL iO ns).map PV.int))else none
noncomputable def hV(F:List PV->Option PV):Prop:=∃(kI:Int->Int) (kL:Int->List Int),(∀n,nJ n=true->F [.int n]=some (.tup [.int (kI n),.lst ((kL n).map PV.int)]))/\
 ∀n m,nJ n=true->nJ m=true->(if kI n=kI m then og (kL n) (kL m)else decide (kI n<kI m))=decide (iO n<iO m)
noncomputable def dZ(n:Nat)(ps:List PV):cg:=ps.map Slot.sh++List.replicate (n-ps.length) .un
noncomputable def uj(fr:Bool):Fl->Option PV
 |.rt p=>some p
 |.nx _=>if fr then none else some .non
 |_=>none
noncomputable def fn(fr:Bool)(n k:Nat)(body:aP)(ps:List PV):Option PV:=if ps.length=k then(body (dZ n ps)).bind (uj fr)else none
noncomputable def qa(ns:List Int):Bool:=ns.all (λn=>decide (0<=n)&&decide (n<1000000))&&decide (ns.length<=1000)
noncomputable def kl:PV->Option PV
 |.lst l=>(eA l).bind λns=>if qa ns then some (.int ns.sum)else none
 |_=>none
noncomputable def Nn(g:xC)(a:Den):aP:=λρ=>(a ρ).bind λp=>(g p ρ).map Fl.nx
noncomputable def cB(ft:Nat->List Str)(f:Str):PV->Option PV
 |.ins c l=>((ft c).zip l).lookup f
 |_=>none
noncomputable def dU(Fs:Nat->List PV->Option PV)(o:Den)(as:cu):Den:=λρ=>(o ρ).bind λp=>match p with
 |.ins c l=>(as ρ).bind λxs=>Fs c (.ins c l::xs)
 |_=>none
noncomputable def km(i:Nat):List PV->List PV
 |[]=>[]
 |x::l=>.tup [.int (i:Nat),x]::km (i+1) l
noncomputable def zP(a:Den):cu:=λρ=>(a ρ).bind λp=>(ki p).map (km 0)
noncomputable def md(e:Den)(ρ:cg):List PV->Option (List PV)
 |[]=>some []
 |.tup [x,y]::xs=>(e (.sh x::.sh y::ρ)).bind λz=>(md e ρ xs).map (z::·)
 |_::_=>none
noncomputable def kn(it:cu)(e:Den):Den:=λρ=>(it ρ).bind λxs=>if xs.length<=sizeLine then(md e ρ xs).map PV.lst else none
noncomputable def Br:PV->Option PV
 |.int i=>some (.int i)
 |.bl b=>some (.int (if b then 1 else 0))
 |_=>none
noncomputable def ko(x:Int):List Int->Nat
 |[]=>0
 |y::l=>if y=x then 0 else ko x l+1
noncomputable def uk:PV->PV->Option PV
 |.lst l,.int x=>(eA l).bind λns=>if x∈ns then some (.int (ko x ns:Nat))else none
 |_,_=>none
noncomputable def oJ(ns:List Int):List Int:=ns.foldl (λacc k=>if acc.any (·==k)then acc else acc++[k]) []
noncomputable def um:PV->Option PV
 |.lst l=>(eA l).bind λns=>if ns.length<4000 then some (.int ((oJ ns).length:Nat))else none
 |_=>none
structure Tb where
 rows:List PV
 sol:List PV
 cs:PV
 dd:PV
 deriving Inhabited
noncomputable def dz(t:Tb):PV:=.ins 0 [.lst t.rows,.lst t.sol,t.cs,t.dd]
noncomputable abbrev eS:=Tb->cg->Option (Tb×cg)
noncomputable def cI(t:Tb)(ρ:cg):cg:=ρ.set 0 (.sh (dz t))
noncomputable def allFlat:PV->Bool
 |.lst l=>l.all flat
 |_=>false
noncomputable def Jb:eS:=λt ρ=>some (t,ρ)
noncomputable def uo(a b:eS):eS:=λt ρ=>(a t ρ).bind λq=>b q.1 q.2
noncomputable def vY(i:Nat)(f:Den):eS:=λt ρ=>(f (cI t ρ)).bind λp=>if flat p then some (t,ρ.set i (.sh p))else none
noncomputable def DJ(i:Nat)(k:Den):eS:=λt ρ=>(k (cI t ρ)).bind λp=>(G2 p).bind λj=>(itemAt t.rows j).map λq=>(t,ρ.set i (.sh q))
noncomputable def G4(k f:Den):eS:=λt ρ=>(f (cI t ρ)).bind λy=>if allFlat y then(k (cI t ρ)).bind λp=>(G2 p).bind λj=>(CN t.rows.length j).map λn=>({t with rows:=t.rows.set n y},ρ)else none
noncomputable def KJ(k f:Den):eS:=λt ρ=>(f (cI t ρ)).bind λy=>if flat y then(k (cI t ρ)).bind λp=>(G2 p).bind λj=>(CN t.sol.length j).map λn=>({t with sol:=t.sol.set n y},ρ)else none
noncomputable def uq(f:Den):eS:=λt ρ=>(f (cI t ρ)).bind λy=>if allFlat y then some ({t with cs:=y},ρ)else none
noncomputable def ur(f:Den):eS:=λt ρ=>(f (cI t ρ)).bind λy=>if flat y then some ({t with dd:=y},ρ)else none
noncomputable def P8(c:cN)(a b:eS):eS:=λt ρ=>(c (cI t ρ)).bind λk=>if k then a t ρ else b t ρ
noncomputable def zQ(i:Nat)(body:eS):List PV->eS
 |[]=>λt ρ=>some (t,ρ)
 |x::xs=>λt ρ=>(body t (ρ.set i (.sh x))).bind λq=>zQ i body xs q.1 q.2
noncomputable def G5(i:Nat)(a:Den)(body:eS):eS:=λt ρ=>(cO a (cI t ρ)).bind λxs=>zQ i body xs t ρ
noncomputable def fM(c:cN)(body:eS):Nat->eS
 |0=>λ_ _=>none
 |n+1=>λt ρ=>(c (cI t ρ)).bind λk=>if k then(body t ρ).bind λq=>fM c body n q.1 q.2 else some (t,ρ)
noncomputable def zR(F:Tb->List PV->Option Tb)(as:cu):eS:=λt ρ=>(as (cI t ρ)).bind λps=>if ps.all flat then(F t ps).map λt'=>(t',ρ)else none
noncomputable def Jc(n k:Nat)(body:eS)(t:Tb)(ps:List PV):Option Tb:=if ps.length+1=k then(body t (.un::(ps.map Slot.sh++List.replicate (n-k) .un))).map Prod.fst else none
noncomputable def f6(c:Nat):List Str:=if c=0 then["rows","solved","costs","parts_of_one"]else[]
noncomputable def iP(F:List PV->Option PV):Nat->List PV->Option PV
 |0=>F
 |_+1=>λ_=>none
noncomputable abbrev jm:=cg->Option PV
noncomputable def vZ(g:aP)(g':jm):jm:=λρ=>(g ρ).bind λfl=>match fl with
 |.nx ρ'=>g' ρ'
 |_=>none
noncomputable def KL(t:cN)(a b:jm):jm:=λρ=>(t ρ).bind λc=>if c then a ρ else b ρ
noncomputable def Bt(b:Bool)(f g:Den):jm:=λρ=>(f ρ).bind λx=>(g ρ).bind λy=>some (.tup [.bl b,.tup [x,y]])
noncomputable def Ma(n k:Nat)(body:jm)(ps:List PV):Option PV:=if ps.length=k then body (dZ n ps)else none
noncomputable def qb(i:Nat)(FT:List PV->Option Tb)(FS:Tb->List PV->Option Tb)(as:cu)(rest:jm):jm:=λρ=>(as ρ).bind λps=>(FT ps).bind λt=>(FS t []).bind λt'=>if i<ρ.length then rest (ρ.set i (.sh (dz t')))else none
noncomputable def qc(i:Nat)(FW:List PV->Option PV)(as:cu)(t:cN)(rest:aP):aP:=λρ=>(as ρ).bind λps=>(FW ps).bind λp=>match p with
 |.tup [.bl b,.tup [.lst l,q]]=>if i<ρ.length then(t (ρ.set i (.sh (.tup [.bl b,.tup [.lst l,q]])))).bind λc=>if c then some (.rt (.bl false))else rest (ρ.set i (.sh (.tup [.bl b,.tup [.lst [],q]])))else none
 |_=>none
noncomputable abbrev jZ:=List PV->List PV->cg->Option (List PV×List PV×cg)
noncomputable def DK(a b:jZ):jZ:=λrows sol ρ=>(a rows sol ρ).bind λq=>b q.1 q.2.1 q.2.2
noncomputable def G6(i:Nat)(f:Den):jZ:=λrows sol ρ=>(f ρ).map λp=>(rows,sol,ρ.set i (.sh p))
noncomputable def G7(f:Den):jZ:=λrows sol ρ=>(f ρ).bind λp=>if rows.length<sizeLine then some (rows++[p],sol,ρ)else none
noncomputable def G8(f:Den):jZ:=λrows sol ρ=>(f ρ).bind λp=>if sol.length<sizeLine then some (rows,sol++[p],ρ)else none
noncomputable def oK(i j:Nat)(body:jZ):List PV->Nat->jZ
 |[],_=>λrows sol ρ=>some (rows,sol,ρ)
 |x::xs,n=>λrows sol ρ=>(body rows sol ((ρ.set i (.sh (.int (n:Nat)))).set j (.sh x))).bind λq=>oK i j body xs (n+1) q.1 q.2.1 q.2.2
noncomputable def uv(k i j:Nat)(body:jZ):jZ:=λrows sol ρ=>match ρ[k]? with
 |some (.sh (.lst l))=>oK i j body l 0 rows sol ρ
 |_=>none
noncomputable def KN(g:jZ)(f4 f5:Den):cg->Option Tb:=λρ=>(g [] [] ρ).bind λq=>(f4 q.2.2).bind λc=>(f5 q.2.2).map λd=>⟨q.1,q.2.1,c,d⟩
noncomputable def fN(g:aP)(g':cg->Option Tb):cg->Option Tb:=λρ=>(g ρ).bind λfl=>match fl with
 |.nx ρ'=>g' ρ'
 |_=>none
noncomputable def DL(F:List PV->Option Tb)(as:cu):cg->Option Tb:=λρ=>(as ρ).bind F
noncomputable def Mb(n k:Nat)(body:cg->Option Tb)(ps:List PV):Option Tb:=if ps.length=k then body (dZ n ps)else none
noncomputable def Mc(n k:Nat)(body:cg->Option Tb)(ps:List PV):Option Tb:=if ps.length+1=k then body (.un::(ps.map Slot.sh++List.replicate (n-k) .un))else none
theorem qd(rk:Int->Nat)(x:Int):∀l:List Int,(Bq rk x l).Perm (x::l)
 |[]=>List.Perm.refl _
 |y::l=>by
  unfold Bq
  split
  ·exact List.Perm.refl _
  ·exact((qd rk x l).cons y).trans (List.Perm.swap x y l)
theorem ig(rk:Int->Nat):∀l:List Int,(fL rk l).Perm l
 |[]=>List.Perm.refl _
 |x::l=>(qd rk x (fL rk l)).trans ((ig rk l).cons x)
theorem qe(rk:Int->Nat)(x:Int):∀l:List Int,l.Pairwise (λa b=>rk a<=rk b)->(Bq rk x l).Pairwise (λa b=>rk a<=rk b)
 |[],_=>List.pairwise_singleton _ _
 |y::l,h=>by
  unfold Bq
  obtain⟨h1,h2⟩:=List.pairwise_cons.mp h
  split
  ·rename_i KO
   refine List.pairwise_cons.mpr ⟨λz hz=>?_,h⟩
   rcases List.mem_cons.mp hz with rfl|hz
   ·exact KO
   ·exact Nat.le_trans KO (h1 z hz)
  ·rename_i KO
   refine List.pairwise_cons.mpr ⟨λz hz=>?_,qe rk x l h2⟩
   rcases List.mem_cons.mp ((qd rk x l).mem_iff.mp hz)with rfl|hz
   ·omega
   ·exact h1 z hz
theorem kq(rk:Int->Nat):∀l:List Int,(fL rk l).Pairwise (λa b=>rk a<=rk b)
 |[]=>List.Pairwise.nil
 |x::l=>qe rk x _ (kq rk l)
theorem G9{n m:Int}(h1:nJ n=true)(h2:nJ m=true)(e:iO n=iO m):n=m:=by
 unfold nJ at h1 h2
 simp only[Bool.and_eq_true,decide_eq_true_eq]at h1 h2
 have:=Mt.pX (a:=n.toNat) (b:=m.toNat) (by omega) (by omega) e
 omega
theorem oM:∀{l m:List Int},l.Perm m->l.Pairwise (λa b=>iO a<=iO b)->m.Pairwise (λa b=>iO a<=iO b)->(∀n∈m,nJ n=true)->l=m
 |[],[],_,_,_,_=>rfl
 |[],_::_,p,_,_,_=>by have:=p.length_eq;simp at this
 |_::_,[],p,_,_,_=>by have:=p.length_eq;simp at this
 |x::l,y::m,p,h1,h2,ok=>by
  obtain⟨a1,a2⟩:=List.pairwise_cons.mp h1
  obtain⟨b1,b2⟩:=List.pairwise_cons.mp h2
  have hx:x∈y::m:=p.mem_iff.mp (List.mem_cons_self ..)
  have hy:y∈x::l:=p.mem_iff.mpr (List.mem_cons_self ..)
  have e:x=y:=by
   refine G9 (ok x hx) (ok y (List.mem_cons_self ..)) (Nat.le_antisymm ?_ ?_)
   ·rcases List.mem_cons.mp hy with e|e
    ·rw[e];exact Nat.le_refl _
    ·exact a1 y e
   ·rcases List.mem_cons.mp hx with e|e
    ·rw[e];exact Nat.le_refl _
    ·exact b1 x e
  subst e
  rw[oM (List.Perm.cons_inv p) a2 b2 λn hn=>ok n (List.mem_cons_of_mem _ hn)]
end L2.D
namespace L2.D
open PySem PySem.Spec PyProof.Rows
open Classical
structure Kl where
 adr:Nat->Addr
 fld:Nat->List Str
noncomputable def SL(K:PySem.W.Frag)(H:Hp)(a:Addr)(xs:List V):Prop:=
 Rd H a (.lst xs)\/∃(its:List Value) (n:Nat),K.lookup a=some {cls:=.type "list",data:=.seq its.toArray n}/\its.length<=sizeLine/\Vals xs its
theorem SL.of{K:PySem.W.Frag}{H:Hp}{a:Addr}{xs:List V}(h:H a=some (.lst xs)):SL K H a xs:=.inl (.inl h)
theorem SL.sq{K:PySem.W.Frag}{H:Hp}{a:Addr}{xs:List V}(h:SL K H a xs):gc K H a xs:=by
 rcases h with h|⟨its,n,h1,h2,h3⟩
 ·exact .inl h
 ·exact .inr ⟨_,its.toArray,n,h1,rfl,rfl,rfl,by simpa using h2,by simpa using h3⟩
theorem _root_.L2.aH.sl{K:PySem.W.Frag}{H H':Hp}{a:Addr}{xs:List V}(e:aH H H')(h:SL K H a xs):SL K H' a xs:=by
 rcases h with(h|⟨o,h⟩)|h
 ·exact .inl (.inl (e _ _ h))
 ·exact .inl (.inr ⟨o,e _ _ h⟩)
 ·exact .inr h
theorem _root_.L2.Inv.sl{X:Cx}{pins:List (Addr×Obj)}{σ:St}{H:Hp}{s:Shared}{a:Addr}{xs:List V}(I:Inv X pins σ H s)(h:SL X.K H a xs):∃(its:List Value) (n:Nat),Vals xs its/\s.heap.get? a=some {cls:=.type "list",data:=.seq its.toArray n}/\xs.length<=sizeLine:=by
 rcases h with h|⟨its,n,h1,h2,h3⟩
 ·obtain⟨z,its,n,r,e⟩:=h.ok I.d8
  exact⟨its,n,r,e,z⟩
 ·exact⟨its,n,h3,I.pG a _ h1,by rw[h3.length];exact h2⟩
mutual
inductive Rep(K:PySem.W.Frag)(κ:Kl)(H:Hp):V->PV->Prop
 |non:Rep K κ H .non .non
 |bl (b:Bool):Rep K κ H (.bl b) (.bl b)
 |int (i:Int):Rep K κ H (.int i) (.int i)
 |str (x:Str):Rep K κ H (.str x) (.str x)
 |lst {a:Addr} {vs:List V} {l:List PV}:SL K H a vs->aQ K κ H vs l->Rep K κ H (.ref a) (.lst l)
 |tup {a:Addr} {vs:List V} {l:List PV}:lM K H a vs->aQ K κ H vs l->Rep K κ H (.ref a) (.tup l)
 |ins {a dx:Addr} {c:Nat} {vs:List V} {l:List PV}:H a=some (.ins (κ.adr c) dx ((κ.fld c).zip vs))->vs.length=(κ.fld c).length->aQ K κ H vs l->Rep K κ H (.ref a) (.ins c l)
inductive aQ(K:PySem.W.Frag)(κ:Kl)(H:Hp):List V->List PV->Prop
 |nil:aQ K κ H [] []
 |cons {v:V} {p:PV} {vs:List V} {l:List PV}:Rep K κ H v p->aQ K κ H vs l->aQ K κ H (v::vs) (p::l)
end
section
variable{K:PySem.W.Frag}{κ:Kl}{H H' H1:Hp}
theorem zS{a:Addr}{xs:List V}(e:aH H H')(h:lM K H a xs):lM K H' a xs:=by
 rcases h with(h|⟨o,h⟩)|h
 ·exact .inl (.inl (e _ _ h))
 ·exact .inl (.inr ⟨o,e _ _ h⟩)
 ·exact .inr h
mutual
theorem Rep.mono(e:aH H H'):∀{v:V} {p:PV},Rep K κ H v p->Rep K κ H' v p
 |_,_,.non=>.non
 |_,_,.bl b=>.bl b
 |_,_,.int i=>.int i
 |_,_,.str x=>.str x
 |_,_,.lst h r=>.lst (e.sl h) (aQ.mono e r)
 |_,_,.tup h r=>.tup (zS e h) (aQ.mono e r)
 |_,_,.ins h z r=>.ins (e _ _ h) z (aQ.mono e r)
theorem aQ.mono(e:aH H H'):∀{vs:List V} {l:List PV},aQ K κ H vs l->aQ K κ H' vs l
 |_,_,.nil=>.nil
 |_,_,.cons r t=>.cons (Rep.mono e r) (aQ.mono e t)
end
theorem aQ.length:∀{vs:List V} {l:List PV},aQ K κ H vs l->vs.length=l.length
 |_,_,.nil=>rfl
 |_,_,.cons _ t=>by rw[List.length_cons,List.length_cons,t.length]
theorem aQ.append:∀{vs ws:List V} {l m:List PV},aQ K κ H vs l->aQ K κ H ws m->aQ K κ H (vs++ws) (l++m)
 |_,_,_,_,.nil,s=>s
 |_,_,_,_,.cons r t,s=>.cons r (t.append s)
theorem aQ.get:∀{vs:List V} {l:List PV} {i:Nat} {p:PV},aQ K κ H vs l->l[i]?=some p->∃v,vs[i]?=some v/\Rep K κ H v p
 |_,_,_,_,.nil,e=>by simp at e
 |_,_,0,_,.cons r _,e=>by simp at e;subst e;exact⟨_,rfl,r⟩
 |_,_,i+1,p,.cons _ t,e=>by
  obtain⟨v,h1,h2⟩:=aQ.get (i:=i) (p:=p) t (by simpa using e)
  exact⟨v,by simpa using h1,h2⟩
theorem aQ.yh:∀{vs:List V} {l:List PV} {i:Nat} {v:V},aQ K κ H vs l->vs[i]?=some v->∃p,l[i]?=some p/\Rep K κ H v p
 |_,_,_,_,.nil,e=>by simp at e
 |_,_,0,_,.cons r _,e=>by simp at e;subst e;exact⟨_,rfl,r⟩
 |_,_,i+1,v,.cons _ t,e=>by
  obtain⟨p,h1,h2⟩:=aQ.yh (i:=i) (v:=v) t (by simpa using e)
  exact⟨p,by simpa using h1,h2⟩
theorem aQ.take:∀{vs:List V} {l:List PV} (n:Nat),aQ K κ H vs l->aQ K κ H (vs.take n) (l.take n)
 |_,_,0,_=>.nil
 |_,_,_+1,.nil=>.nil
 |_,_,n+1,.cons r t=>.cons r (t.take n)
theorem aQ.drop:∀{vs:List V} {l:List PV} (n:Nat),aQ K κ H vs l->aQ K κ H (vs.drop n) (l.drop n)
 |_,_,0,r=>r
 |_,_,_+1,.nil=>.nil
 |_,_,n+1,.cons _ t=>t.drop n
theorem aQ.set{v:V}{p:PV}(r:Rep K κ H v p):∀{vs:List V} {l:List PV} (i:Nat),aQ K κ H vs l->aQ K κ H (vs.set i v) (l.set i p)
 |_,_,_,.nil=>.nil
 |_,_,0,.cons _ t=>.cons r t
 |_,_,i+1,.cons q t=>.cons q (aQ.set r i t)
theorem Rep.flat{v:V}{p:PV}(f:flat p=true)(r:Rep K κ H v p):Rep K κ H' v p:=by
 cases r with
 |non=>exact .non
 |bl b=>exact .bl b
 |int i=>exact .int i
 |str x=>exact .str x
 |lst _ _=>simp[D.flat]at f
 |tup _ _=>simp[D.flat]at f
 |ins _ _ _=>simp[D.flat]at f
end
noncomputable def hide(A:Addr->Prop)(H:Hp):Hp:=λb=>if A b then none else H b
theorem bq{A:Addr->Prop}{H:Hp}{b:Addr}(h:¬A b):hide A H b=H b:=if_neg h
theorem cw{A:Addr->Prop}{H:Hp}{b:Addr}{o:HO}(h:hide A H b=some o):¬A b/\H b=some o:=by
 unfold hide at h
 by_cases e:A b
 ·rw[if_pos e]at h
  cases h
 ·rw[if_neg e]at h
  exact⟨e,h⟩
theorem aM{A:Addr->Prop}{H H':Hp}(h:aH H H'):aH (hide A H) (hide A H'):=λb o e=>by
 obtain⟨h1,h2⟩:=cw e
 rw[bq h1]
 exact h b o h2
theorem dh{A B:Addr->Prop}{H H':Hp}(h:aH H H')(s:∀b,B b->H b≠none->A b):aH (hide A H) (hide B H'):=λb o e=>by
 obtain⟨h1,h2⟩:=cw e
 rw[bq λz=>h1 (s b z (by rw[h2];simp))]
 exact h b o h2
theorem aB{A:Addr->Prop}{H:Hp}:aH (hide A H) H:=λb o e=>(cw e).2
theorem mS{A:Addr->Prop}{H:Hp}{a:Addr}{o:HO}(h:A a):hide A (upd H a o)=hide A H:=by
 funext b
 unfold hide
 by_cases e:A b
 ·rw[if_pos e,if_pos e]
 ·rw[if_neg e,if_neg e]
  exact aC λz=>e (z▸h)
theorem bN{H:Hp}{a:Addr}{o:HO}(h:H a=none):aH H (upd H a o):=λb u q=>by rw[aC (ba q h)];exact q
noncomputable def DM:Cn->List V->HO
 |.l _,vs=>.lst vs
 |.d d,vs=>.dK (List.zipWith (λ(p:Int×PV) (v:V)=>((Sum.inl p.1:Key),v)) d vs)
noncomputable def KP:Cn->List PV
 |.l l=>l
 |.d d=>d.map (·.2)
noncomputable def yi(own:Nat->Addr)(ρ:cg):Addr->Prop:=λb=>∃i l,ρ[i]?=some (.own l)/\own i=b
noncomputable def cP(A:Addr->Prop)(own:Nat->Addr)(ρ:cg):Addr->Prop:=λb=>A b\/yi own ρ b
noncomputable abbrev d5(A:Addr->Prop)(own:Nat->Addr)(ρ:cg)(H:Hp):Hp:=hide (cP A own ρ) H
structure R(K:PySem.W.Frag)(κ:Kl)(G:Hp)(A:Addr->Prop)(bo:Nat->Option (Addr×List V))(own:Nat->Addr)(ρ:cg)(σ:St)(H:Hp):Prop where
 al:∀b,A b->G b≠none
 bg:∀i a vs,bo i=some (a,vs)->G a=some (.lst vs)
 same:aH G H
 sh:∀(i:Nat) p,ρ[i]?=some (.sh p)->∃v,σ[i]?=some (some v)/\Rep K κ (d5 A own ρ H) v p
 ow:∀(i:Nat) l,ρ[i]?=some (.own l)->σ[i]?=some (some (.ref (own i)))/\G (own i)=none/\∃vs,H (own i)=some (DM l vs)/\aQ K κ (d5 A own ρ H) vs (KP l)
 inj:∀(i j:Nat) l m,ρ[i]?=some (.own l)->ρ[j]?=some (.own m)->own i=own j->i=j
 bw:∀(i:Nat) l,ρ[i]?=some (.bw l)->∃a vs,bo i=some (a,vs)/\σ[i]?=some (some (.ref a))/\aQ K κ (d5 A own ρ H) vs l
 len:σ.length=ρ.length
section
variable{K:PySem.W.Frag}{κ:Kl}{G G' H H' H1:Hp}{A:Addr->Prop}{bo:Nat->Option (Addr×List V)}{own dH:Nat->Addr}{ρ ρ':cg}{σ σ':St}
theorem R.mono(r:R K κ G A bo own ρ σ H)(s:aH H H1):R K κ G A bo own ρ σ H1 where
 al:=r.al
 bg:=r.bg
 same:=r.same.trans s
 sh:=λi p e=>let⟨v,h1,h2⟩:=r.sh i p e;⟨v,h1,h2.mono (aM s)⟩
 ow:=λi l e=>let⟨h1,h2,vs,h3,h4⟩:=r.ow i l e;⟨h1,h2,vs,s _ _ h3,h4.mono (aM s)⟩
 inj:=r.inj
 bw:=λi l e=>let⟨a,vs,h1,h2,h3⟩:=r.bw i l e;⟨a,vs,h1,h2,h3.mono (aM s)⟩
 len:=r.len
theorem R.new(r:R K κ G A bo own ρ σ H){a:Addr}(h:H a=none):¬cP A own ρ a:=by
 rintro(z|⟨i,l,h1,rfl⟩)
 ·cases e:G a with
  |none=>exact r.al a z e
  |some o=>
   rw[r.same _ _ e]at h
   cases h
 ·obtain⟨_,_,vs,h3,_⟩:=r.ow i l h1
  rw[h3]at h
  cases h
theorem R.yj(r:R K κ G A bo own ρ σ H){b:Addr}(h:cP A own ρ b):H b≠none:=λz=>r.new z h
noncomputable def CO(own:Nat->Addr)(ρ:cg)(H:Hp):Hp:=hide (yi own ρ) H
theorem mT:hide A (CO own ρ H)=d5 A own ρ H:=by
 funext b
 unfold CO d5 hide cP
 by_cases h1:A b<;>by_cases h2:yi own ρ b<;>simp[h1,h2]
theorem R.gv(r:R K κ G A bo own ρ σ H):aH G (CO own ρ H):=λb o e=>by
 unfold CO
 rw[bq]
 ·exact r.same _ _ e
 ·rintro⟨i,l,h1,rfl⟩
  rw[(r.ow i l h1).2.1]at e
  cases e
theorem R.big(r:R K κ G A bo own ρ σ H):R K κ (CO own ρ H) A bo own ρ σ H where
 al:=λb h z=>by
  cases e:G b with
  |none=>exact r.al b h e
  |some o=>
   rw[r.gv _ _ e]at z
   cases z
 bg:=λi a vs h=>r.gv _ _ (r.bg i a vs h)
 same:=aB
 sh:=r.sh
 ow:=λi l e=>let⟨h1,h2,h3⟩:=r.ow i l e;⟨h1,by unfold CO hide;rw[if_pos ⟨i,l,e,rfl⟩],h3⟩
 inj:=r.inj
 bw:=r.bw
 len:=r.len
theorem R.small(r:R K κ G' A bo own ρ σ H)(s:aH G G')(al:∀b,A b->G b≠none)(bg:∀i a vs,bo i=some (a,vs)->G a=some (.lst vs)):R K κ G A bo own ρ σ H where
 al:=al
 bg:=bg
 same:=s.trans r.same
 sh:=r.sh
 ow:=λi l e=>let⟨h1,h2,h3⟩:=r.ow i l e;⟨h1,s.free h2,h3⟩
 inj:=r.inj
 bw:=r.bw
 len:=r.len
theorem R.Ha(r:R K κ G A bo own ρ σ H):aH (hide A G) (d5 A own ρ H):=λb o e=>by
 obtain⟨h1,h2⟩:=cw e
 rw[d5,bq]
 ·exact r.same _ _ h2
 ·rintro(z|⟨i,l,h3,rfl⟩)
  ·exact h1 z
  ·rw[(r.ow i l h3).2.1]at h2
   cases h2
theorem DN{i:Nat}{p:PV}{b:Addr}(h:yi own (ρ.set i (.sh p)) b):yi own ρ b:=by
 obtain⟨j,l,h1,h2⟩:=h
 rw[List.getElem?_set]at h1
 split at h1
 ·split at h1<;>cases h1
 ·exact⟨j,l,h1,h2⟩
theorem lA{i:Nat}{p:PV}:aH (d5 A own ρ H) (d5 A own (ρ.set i (.sh p)) H):=dh (λ_ _ h=>h) λb h _=>by
 rcases h with h|h
 ·exact .inl h
 ·exact .inr (DN h)
theorem R.set(r:R K κ G A bo own ρ σ H){i:Nat}{v:V}{p:PV}(h:Rep K κ (d5 A own ρ H) v p):R K κ G A bo own (ρ.set i (.sh p)) (σ.set i (some v)) H:=by
 have ne:∀{j:Nat} {x:Slot},(ρ.set i (.sh p))[j]?=some x->x≠.sh p->i≠j/\ρ[j]?=some x:=λ{j x} e nx=>by
  rw[List.getElem?_set]at e
  split at e
  ·split at e
   ·exact absurd (Option.some.inj e).symm nx
   ·cases e
  ·exact⟨by assumption,e⟩
 refine⟨r.al,r.bg,r.same,λj q e=>?_,λj l e=>?_,λj k l m e f=>?_,λj l e=>?_,by rw[List.length_set,List.length_set];exact r.len⟩
 ·by_cases hj:i=j
  ·subst hj
   rw[List.getElem?_set]at e
   rw[if_pos rfl]at e
   split at e
   ·injection e with e
    injection e with e
    subst e
    exact⟨v,by rw[List.getElem?_set,if_pos rfl,if_pos (by rw[r.len];assumption)],h.mono lA⟩
   ·cases e
  ·rw[List.getElem?_set,if_neg hj]at e
   obtain⟨u,h1,h2⟩:=r.sh j q e
   exact⟨u,by rw[List.getElem?_set,if_neg hj];exact h1,h2.mono lA⟩
 ·obtain⟨hj,e⟩:=ne e (by simp)
  obtain⟨h1,h2,vs,h3,h4⟩:=r.ow j l e
  exact⟨by rw[List.getElem?_set,if_neg hj];exact h1,h2,vs,h3,h4.mono lA⟩
 ·exact r.inj j k l m (ne e (by simp)).2 (ne f (by simp)).2
 ·obtain⟨hj,e⟩:=ne e (by simp)
  obtain⟨a,vs,h1,h2,h3⟩:=r.bw j l e
  exact⟨a,vs,h1,by rw[List.getElem?_set,if_neg hj];exact h2,h3.mono lA⟩
theorem R.Np(r:R K κ G A bo own ρ σ H){i:Nat}{a:Addr}{vs:List V}{l:Cn}(hG:G a=none)(hA:¬A a)(hj:∀(j:Nat) m,ρ[j]?=some (.own m)->j≠i->own j≠a)(s:aH (d5 A own ρ H) (hide (λb=>cP A own ρ b\/b=a) H1))(hk:∀b o,H b=some o->b≠a->H1 b=some o)
  (h1:H1 a=some (DM l vs))(h2:aQ K κ (hide (λb=>cP A own ρ b\/b=a) H1) vs (KP l)):R K κ G A bo (λj=>if j=i then a else own j) (ρ.set i (.own l)) (σ.set i (some (.ref a))) H1:=by
 by_cases hi:i<ρ.length
 rotate_left
 ·rw[List.set_eq_of_length_le (by omega),List.set_eq_of_length_le (by rw[r.len];omega)]
  have oe:∀(j:Nat) x,ρ[j]?=some x->(if j=i then a else own j)=own j:=λj x e=>if_neg λz=>by
   have:=(List.getElem?_eq_some_iff.mp e).1
   omega
  have se:cP A (λj=>if j=i then a else own j) ρ=cP A own ρ:=by
   funext b
   unfold cP yi
   refine propext (or_congr Iff.rfl ⟨?_,?_⟩)
   ·rintro⟨j,m,e,z⟩
    exact⟨j,m,e,by rw[<-oe j _ e];exact z⟩
   ·rintro⟨j,m,e,z⟩
    exact⟨j,m,e,by show(if j=i then a else own j)=b;rw[oe j _ e];exact z⟩
  have sm:aH (d5 A own ρ H) (d5 A own ρ H1):=s.trans (dh (λ_ _ h=>h) λb h _=>.inl h)
  refine⟨r.al,r.bg,λb o e=>hk b o (r.same _ _ e) (λz=>by rw[z,hG]at e;cases e),λj q e=>?_,λj m e=>?_,λj k m n e f z=>?_,λj m e=>?_,r.len⟩
  ·obtain⟨u,z1,z2⟩:=r.sh j q e
   exact⟨u,z1,by rw[d5,se];exact z2.mono sm⟩
  ·rw[oe j _ e]
   obtain⟨z1,z2,ws,z3,z4⟩:=r.ow j m e
   have vx:j≠i:=λz=>by
    have:=(List.getElem?_eq_some_iff.mp e).1
    omega
   exact⟨z1,z2,ws,hk _ _ z3 (hj j m e vx),by rw[d5,se];exact z4.mono sm⟩
  ·skip
   rw[oe j _ e,oe k _ f]at z
   exact r.inj j k m n e f z
  ·obtain⟨b,ws,z1,z2,z3⟩:=r.bw j m e
   exact⟨b,ws,z1,z2,by rw[d5,se];exact z3.mono sm⟩
 have Nq:∀b,cP A (λj=>if j=i then a else own j) (ρ.set i (.own l)) b->cP A own ρ b\/b=a:=λb h=>by
  rcases h with h|⟨j,m,e,z⟩
  ·exact .inl (.inl h)
  ·by_cases P9:j=i
   ·subst P9
    try dsimp only at z
    rw[if_pos rfl]at z
    exact .inr z.symm
   ·dsimp only at z
    rw[if_neg P9]at z
    rw[List.getElem?_set,if_neg (Ne.symm P9)]at e
    exact .inl (.inr ⟨j,m,e,z⟩)
 have sm:aH (hide (λb=>cP A own ρ b\/b=a) H1) (d5 A (λj=>if j=i then a else own j) (ρ.set i (.own l)) H1):=dh (λ_ _ h=>h) λb h _=>Nq b h
 have nH:aH (d5 A own ρ H) (d5 A (λj=>if j=i then a else own j) (ρ.set i (.own l)) H1):=s.trans sm
 refine⟨r.al,r.bg,λb o e=>hk b o (r.same _ _ e) (λz=>by rw[z,hG]at e;cases e),λj q e=>?_,λj m e=>?_,λj k m n e f z=>?_,λj m e=>?_,by rw[List.length_set,List.length_set];exact r.len⟩
 ·by_cases jX:i=j
  ·subst jX
   rw[List.getElem?_set,if_pos rfl,if_pos hi]at e
   cases e
  ·rw[List.getElem?_set,if_neg jX]at e
   obtain⟨u,z1,z2⟩:=r.sh j q e
   exact⟨u,by rw[List.getElem?_set,if_neg jX];exact z1,z2.mono nH⟩
 ·by_cases jX:i=j
  ·subst jX
   rw[List.getElem?_set,if_pos rfl,if_pos hi]at e
   injection e with e
   injection e with e
   subst e
   try dsimp only
   rw[if_pos rfl]
   exact⟨by rw[List.getElem?_set,if_pos rfl,if_pos (by rw[r.len];exact hi)],hG,vs,h1,h2.mono sm⟩
  ·rw[List.getElem?_set,if_neg jX]at e
   obtain⟨z1,z2,ws,z3,z4⟩:=r.ow j m e
   try dsimp only
   rw[if_neg (Ne.symm jX)]
   exact⟨by rw[List.getElem?_set,if_neg jX];exact z1,z2,ws,hk _ _ z3 (hj j m e (Ne.symm jX)),z4.mono nH⟩
 ·skip
  by_cases jX:i=j<;>by_cases KQ:i=k
  ·rw[<-jX,<-KQ]
  ·subst jX
   rw[List.getElem?_set,if_neg KQ]at f
   rw[if_pos rfl,if_neg (Ne.symm KQ)]at z
   exact absurd z.symm (hj k n f (Ne.symm KQ))
  ·subst KQ
   rw[List.getElem?_set,if_neg jX]at e
   rw[if_pos rfl,if_neg (Ne.symm jX)]at z
   exact absurd z (hj j m e (Ne.symm jX))
  ·rw[List.getElem?_set,if_neg jX]at e
   rw[List.getElem?_set,if_neg KQ]at f
   rw[if_neg (Ne.symm jX),if_neg (Ne.symm KQ)]at z
   exact r.inj j k m n e f z
 ·by_cases jX:i=j
  ·subst jX
   rw[List.getElem?_set,if_pos rfl,if_pos hi]at e
   cases e
  ·rw[List.getElem?_set,if_neg jX]at e
   obtain⟨b,ws,z1,z2,z3⟩:=r.bw j m e
   exact⟨b,ws,z1,by rw[List.getElem?_set,if_neg jX];exact z2,z3.mono nH⟩
end
end L2.D
namespace L2.D
open PySem PySem.Spec PyProof.Rows
open Classical
noncomputable def BR(K:PySem.W.Frag)(κ:Kl)(hH H:Hp)(v:V)(p:PV):Prop:=Rep K κ hH v p\/∃a vs l,v=.ref a/\p=.lst l/\SL K H a vs/\aQ K κ hH vs l
noncomputable def OR(K:PySem.W.Frag)(κ:Kl)(A:Addr->Prop)(H H':Hp)(v:V)(p:PV):Prop:=∃a vs l,v=.ref a/\p=.lst l/\H a=none/\H' a=some (.lst vs)/\aQ K κ (hide (λb=>A b\/b=a) H') vs l
noncomputable def OC(K:PySem.W.Frag)(κ:Kl)(te:TE)(f:Den):Prop:=
 ∀{G A bo own ρ σ H p Q},R K κ G A bo own ρ σ H->f ρ=some p->(∀v H',aH H H'->Rep K κ (d5 A own ρ H') v p->Q v H')->te σ H Q
noncomputable def OD(K:PySem.W.Frag)(κ:Kl)(te:TE)(f:Den):Prop:=
 ∀{G A bo own ρ σ H p Q},R K κ G A bo own ρ σ H->f ρ=some p->(∀v H',aH H H'->BR K κ (d5 A own ρ H') H' v p->Q v H')->te σ H Q
noncomputable def Qa(K:PySem.W.Frag)(κ:Kl)(te:TE)(f:Den):Prop:=
 ∀{G A bo own ρ σ H p Q},R K κ G A bo own ρ σ H->f ρ=some p->(∀v H',aH H H'->OR K κ (cP A own ρ) H H' v p->Q v H')->te σ H Q
noncomputable def Qb(K:PySem.W.Frag)(κ:Kl)(tt:TT)(f:cN):Prop:=
 ∀{G A bo own ρ σ H b Q},R K κ G A bo own ρ σ H->f ρ=some b->(∀H',aH H H'->Q b H')->tt σ H Q
noncomputable def DE(X:Cx)(κ:Kl)(e:Expr)(f:Den):Prop:=∃te,PE X e te/\OC X.K κ te f
noncomputable def DB(X:Cx)(κ:Kl)(e:Expr)(f:Den):Prop:=∃te,PE X e te/\OD X.K κ te f
noncomputable def DO(X:Cx)(κ:Kl)(e:Expr)(f:Den):Prop:=∃te,PE X e te/\Qa X.K κ te f
noncomputable def DT(X:Cx)(κ:Kl)(e:Expr)(f:cN):Prop:=∃tt,PT X e tt/\Qb X.K κ tt f
noncomputable def DW(X:Cx)(κ:Kl)(e:Expr)(f:cN):Prop:=∃tt,PW X e tt/\Qb X.K κ tt f
section
variable{K:PySem.W.Frag}{κ:Kl}{G hH Rp H H' H1:Hp}{A:Addr->Prop}{bo:Nat->Option (Addr×List V)}{own:Nat->Addr}{ρ:cg}{σ:St}{v:V}{p:PV}
theorem BR.mono(h:BR K κ hH H v p)(s1:aH hH Rp)(s2:aH H H'):BR K κ Rp H' v p:=by
 rcases h with h|⟨a,vs,l,h1,h2,h3,h4⟩
 ·exact .inl (h.mono s1)
 ·exact .inr ⟨a,vs,l,h1,h2,s2.sl h3,h4.mono s1⟩
theorem BR.DQ(h:BR K κ (hide A H) H v p)(s2:aH H H'):BR K κ (hide A H') H' v p:=h.mono (aM s2) s2
theorem BR.full(h:BR K κ hH H v p)(s:aH hH H):Rep K κ H v p:=by
 rcases h with h|⟨a,vs,l,rfl,rfl,h3,h4⟩
 ·exact h.mono s
 ·exact .lst h3 (h4.mono s)
theorem BR.lst{l:List PV}(h:BR K κ hH H v (.lst l))(s:aH hH H):∃a vs,v=.ref a/\SL K H a vs/\aQ K κ hH vs l:=by
 rcases h with h|⟨a,vs,l',h1,h2,h3,h4⟩
 ·cases h with
  |lst h1 h2=>exact⟨_,_,rfl,s.sl h1,h2⟩
 ·cases h2
  exact⟨a,vs,h1,h3,h4⟩
theorem BR.tup{l:List PV}(h:BR K κ hH H v (.tup l))(s:aH hH H):∃a vs,v=.ref a/\lM K H a vs/\aQ K κ hH vs l:=by
 rcases h with h|⟨a,vs,l',h1,h2,h3,h4⟩
 ·cases h with
  |tup h1 h2=>exact⟨_,_,rfl,zS s h1,h2⟩
 ·cases h2
theorem BR.int{i:Int}(h:BR K κ hH H v (.int i)):v=.int i:=by
 rcases h with h|⟨a,vs,l',h1,h2,h3,h4⟩
 ·cases h;rfl
 ·cases h2
theorem BR.bl{i:Bool}(h:BR K κ hH H v (.bl i)):v=.bl i:=by
 rcases h with h|⟨a,vs,l',h1,h2,h3,h4⟩
 ·cases h;rfl
 ·cases h2
theorem BR.str{i:Str}(h:BR K κ hH H v (.str i)):v=.str i:=by
 rcases h with h|⟨a,vs,l',h1,h2,h3,h4⟩
 ·cases h;rfl
 ·cases h2
theorem Rep.xB{i:Bool}(h:Rep K κ hH v (.bl i)):v=.bl i:=by cases h;rfl
theorem Rep.G2{i:Int}(h:Rep K κ hH v (.int i)):v=.int i:=by cases h;rfl
theorem R.v3(r:R K κ G A bo own ρ σ H){a:Addr}{vs:List V}{l:List PV}(h:H a=none)(q:aQ K κ (d5 A own ρ H) vs l):OR K κ (cP A own ρ) H (upd H a (.lst vs)) (.ref a) (.lst l):=
 ⟨a,vs,l,rfl,rfl,h,aU,by
   rw[mS (.inr rfl)]
   exact q.mono (dh (λ_ _ z=>z) λb z nz=>by
    rcases z with z|z
    ·exact z
    ·rw[z]at nz
     exact absurd h nz)⟩
theorem OR.rep(r:R K κ G A bo own ρ σ H)(h:OR K κ (cP A own ρ) H H' v p):Rep K κ (d5 A own ρ H') v p:=by
 obtain⟨a,vs,l,rfl,rfl,h1,h2,h3⟩:=h
 refine .lst (SL.of ?_) (h3.mono (dh (λ_ _ z=>z) λb z _=>.inl z))
 rw[d5,bq (r.new h1)]
 exact h2
theorem R.Qc(r:R K κ G A bo own ρ σ H){a:Addr}{vs:List V}{l:List PV}(h:H a=none)(q:aQ K κ (d5 A own ρ H) vs l):Rep K κ (d5 A own ρ (upd H a (.tup vs))) (.ref a) (.tup l):=by
 refine .tup (lM.of ?_) (q.mono (aM (bN h)))
 rw[d5,bq (r.new h)]
 exact aU
theorem v5{ta tb:TE}{fa fb:Den}{α:Type}{g:PV->PV->Option α}{z:α}{Rr:V->V->Hp->Prop}(ha:OD K κ ta fa)(hb:OD K κ tb fb)(r:R K κ G A bo own ρ σ H)
  (e:((fa ρ).bind λx=>(fb ρ).bind λy=>g x y)=some z)(q:∀x y p q H',aH H H'->R K κ G A bo own ρ σ H'->BR K κ (d5 A own ρ H') H' x p->BR K κ (d5 A own ρ H') H' y q->g p q=some z->Rr x y H'):ta σ H λx H1=>tb σ H1 λy H2=>Rr x y H2:=by
 obtain⟨p1,e1,e⟩:=Option.bind_eq_some_iff.mp e
 obtain⟨p2,e2,e⟩:=Option.bind_eq_some_iff.mp e
 refine ha r e1 λx H1 s1 b1=>?_
 refine hb (r.mono s1) e2 λy H2 s2 b2=>?_
 exact q x y p1 p2 H2 (s1.trans s2) (r.mono (s1.trans s2)) (b1.DQ s2) b2 e
end
theorem DE.b{X:Cx}{κ:Kl}{ex:Expr}{f:Den}(h:DE X κ ex f):DB X κ ex f:=let⟨te,h1,h2⟩:=h;⟨te,h1,λr e q=>h2 r e λv H' s z=>q v H' s (.inl z)⟩
theorem DO.e{X:Cx}{κ:Kl}{ex:Expr}{f:Den}(h:DO X κ ex f):DE X κ ex f:=let⟨te,h1,h2⟩:=h;⟨te,h1,λr e q=>h2 r e λv H' s z=>q v H' s (z.rep r)⟩
theorem DO.b{X:Cx}{κ:Kl}{ex:Expr}{f:Den}(h:DO X κ ex f):DB X κ ex f:=h.e.b
section
variable{X:Cx}{κ:Kl}{e a b c:Expr}{f fa fb fc:Den}{pos:Pos}
theorem ao{i:Int}{j pos}:DE X κ (.Constant (.int i) j pos) (dC (.int i)):=⟨_,xF,λ{_ _ _ _ _ _ H _ _} r e q=>by cases e;exact q _ H (aH.refl _) (.int i)⟩
theorem fO{i:Bool}{j pos}:DE X κ (.Constant (.bool i) j pos) (dC (.bl i)):=⟨_,CT,λ{_ _ _ _ _ _ H _ _} r e q=>by cases e;exact q _ H (aH.refl _) (.bl i)⟩
theorem DR{j pos}:DE X κ (.Constant .none j pos) (dC .non):=⟨_,xG,λ{_ _ _ _ _ _ H _ _} r e q=>by cases e;exact q _ H (aH.refl _) .non⟩
theorem ae(i:Nat){x:Str}{pos:Pos}(hN:X.N[i]?=some x:=by rfl)(hv:tD X.env.scope x:=by first|exact Or.inl rfl|exact Or.inr (Or.inl rfl)|exact Or.inr (Or.inr rfl))(hd:(x==("__debug__" :Str))=false:=by decide)
  (oW:(x==("__classdict__" :Str))=false:=by decide):DB X κ (.Name x pos) (dV i):=⟨_,dD hN hv hd oW,λ{G A bo own ρ σ H p Q} r e q=>by
 unfold dV at e
 obtain⟨s,e1,e2⟩:=Option.bind_eq_some_iff.mp e
 cases s with
 |un=>cases e2
 |sh p'=>
  cases e2
  obtain⟨v,h1,h2⟩:=r.sh i _ e1
  exact⟨v,h1,q v H (aH.refl _) (.inl h2)⟩
 |own c=>
  cases c with
  |d _=>cases e2
  |l l=>
  cases e2
  obtain⟨h1,_,vs,h3,h4⟩:=r.ow i _ e1
  exact⟨_,h1,q _ H (aH.refl _) (.inr ⟨_,vs,l,rfl,rfl,SL.of h3,h4⟩)⟩
 |bw l=>
  cases e2
  obtain⟨a,vs,h0,h1,h4⟩:=r.bw i _ e1
  exact⟨_,h1,q _ H (aH.refl _) (.inr ⟨_,vs,l,rfl,rfl,SL.of (r.same _ _ (r.bg _ _ _ h0)),h4⟩)⟩⟩
theorem ak(i:Nat){x:Str}{pos:Pos}(hN:X.N[i]?=some x:=by rfl)(hv:tD X.env.scope x:=by first|exact Or.inl rfl|exact Or.inr (Or.inl rfl)|exact Or.inr (Or.inr rfl))(hd:(x==("__debug__" :Str))=false:=by decide)
  (oW:(x==("__classdict__" :Str))=false:=by decide):DE X κ (.Name x pos) (aO i):=⟨_,dD hN hv hd oW,λ{G A bo own ρ σ H p Q} r e q=>by
 unfold aO at e
 obtain⟨s,e1,e2⟩:=Option.bind_eq_some_iff.mp e
 cases s with
 |un=>cases e2
 |sh p'=>
  cases e2
  obtain⟨v,h1,h2⟩:=r.sh i _ e1
  exact⟨v,h1,q v H (aH.refl _) h2⟩
 |own l=>cases e2
 |bw l=>cases e2⟩
theorem sH{op:Operator}{C:Int->Int->Prop}{F:Int->Int->Int}{g:PV->PV->Option PV}(ho:j6 X (binaryOp op) (rI C λi j=>.int (F i j)))(hg:∀p q z,g p q=some z->∃i j,p=.int i/\q=.int j/\C i j/\z=.int (F i j))
  (ha:DB X κ a fa)(hb:DB X κ b fb):DE X κ (.BinOp a op b pos) (aa g fa fb):=by
 obtain⟨ta,h1,h2⟩:=ha
 obtain⟨tb,h3,h4⟩:=hb
 refine⟨_,CY ho h1 h3,λ{G A bo own ρ σ H p Q} r e q=>?_⟩
 refine v5 h2 h4 r e λx y p1 p2 H' s r' b1 b2 e'=>?_
 obtain⟨i,j,rfl,rfl,hC,rfl⟩:=hg _ _ _ e'
 exact⟨i,j,b1.int,b2.int,hC,q _ H' s (.int _)⟩
theorem yk{op:Operator}{F:Int->Int->Int}{g:PV->PV->Option PV}(ho:j6 X (binaryOp op) (CW λi j=>.int (F i j)))(hg:∀p q z,g p q=some z->∃i j,p=.int i/\q=.int j/\z=.int (F i j))
  (ha:DB X κ a fa)(hb:DB X κ b fb):DE X κ (.BinOp a op b pos) (aa g fa fb):=by
 obtain⟨ta,h1,h2⟩:=ha
 obtain⟨tb,h3,h4⟩:=hb
 refine⟨_,CY ho h1 h3,λ{G A bo own ρ σ H p Q} r e q=>?_⟩
 refine v5 h2 h4 r e λx y p1 p2 H' s r' b1 b2 e'=>?_
 obtain⟨i,j,rfl,rfl,rfl⟩:=hg _ _ _ e'
 exact⟨i,j,b1.int,b2.int,q _ H' s (.int _)⟩
theorem uw(ha:DB X κ a fa)(hb:DB X κ b fb):DE X κ (.BinOp a .Sub b pos) (aa tJ fa fb):=yk JV (λp q z h=>by
 (cases p<;>first|(cases h;done)|skip)<;>cases q<;>first|(cases h;exact⟨_,_,rfl,rfl,rfl⟩)|cases h) ha hb
theorem kr(ha:DB X κ a fa)(hb:DB X κ b fb):DE X κ (.BinOp a .BitAnd b pos) (aa gP fa fb):=yk J1 (λp q z h=>by
 (cases p<;>first|(cases h;done)|skip)<;>cases q<;>first|(cases h;exact⟨_,_,rfl,rfl,rfl⟩)|cases h) ha hb
theorem Jd(ha:DB X κ a fa)(hb:DB X κ b fb):DE X κ (.BinOp a .BitOr b pos) (aa L8 fa fb):=yk ME (λp q z h=>by
 (cases p<;>first|(cases h;done)|skip)<;>cases q<;>first|(cases h;exact⟨_,_,rfl,rfl,rfl⟩)|cases h) ha hb
theorem bC{α:Type}{c:Prop}[Decidable c]{x z:α}(h:(if c then some x else none)=some z):c/\x=z:=by
 split at h
 ·exact⟨by assumption,Option.some.inj h⟩
 ·cases h
theorem qf(ha:DB X κ a fa)(hb:DB X κ b fb):DE X κ (.BinOp a .FloorDiv b pos) (aa l9 fa fb):=sH Gu (λp q z h=>by
 (cases p<;>first|(cases h;done)|skip)<;>cases q<;>first|(cases h;done)|skip
 obtain⟨h1,h2⟩:=bC h
 simp only[Bool.and_eq_true,decide_eq_true_eq]at h1
 exact⟨_,_,rfl,rfl,h1,h2.symm⟩) ha hb
theorem ku(ha:DB X κ a fa)(hb:DB X κ b fb):DE X κ (.BinOp a .Mod b pos) (aa gO fa fb):=sH JX (λp q z h=>by
 (cases p<;>first|(cases h;done)|skip)<;>cases q<;>first|(cases h;done)|skip
 obtain⟨h1,h2⟩:=bC h
 simp only[Bool.and_eq_true,decide_eq_true_eq]at h1
 exact⟨_,_,rfl,rfl,h1,h2.symm⟩) ha hb
theorem DU(ha:DB X κ a fa)(hb:DB X κ b fb):DE X κ (.BinOp a .Pow b pos) (aa Bn fa fb):=sH JY (λp q z h=>by
 (cases p<;>first|(cases h;done)|skip)<;>cases q<;>first|(cases h;done)|skip
 obtain⟨h1,h2⟩:=bC h
 simp only[p6,Bool.and_eq_true,decide_eq_true_eq]at h1
 exact⟨_,_,rfl,rfl,⟨h1.1.1,h1.1.2,h1.2⟩,h2.symm⟩) ha hb
theorem kx(ha:DB X κ a fa)(hb:DB X κ b fb):DE X κ (.BinOp a .LShift b pos) (aa iN fa fb):=sH JZ (λp q z h=>by
 (cases p<;>first|(cases h;done)|skip)<;>cases q<;>first|(cases h;done)|skip
 obtain⟨h1,h2⟩:=bC h
 simp only[p6,Bool.and_eq_true,decide_eq_true_eq]at h1
 exact⟨_,_,rfl,rfl,⟨h1.1.1,h1.1.2,h1.2⟩,h2.symm⟩) ha hb
theorem ux(ha:DB X κ a fa)(hb:DB X κ b fb):DE X κ (.BinOp a .RShift b pos) (aa p7 fa fb):=sH J0 (λp q z h=>by
 (cases p<;>first|(cases h;done)|skip)<;>cases q<;>first|(cases h;done)|skip
 obtain⟨h1,h2⟩:=bC h
 simp only[Bool.and_eq_true,decide_eq_true_eq]at h1
 exact⟨_,_,rfl,rfl,h1,h2.symm⟩) ha hb
theorem qg(ha:DB X κ a fa)(hb:DB X κ b fb):DE X κ (.BinOp a .Mult b pos) (aa mR fa fb):=sH JW (λp q z h=>by
 (cases p<;>first|(cases h;done)|skip)<;>cases q<;>first|(cases h;done)|skip
 obtain⟨h1,h2⟩:=bC h
 simp only[oG,Bool.or_eq_true,Bool.and_eq_true,decide_eq_true_eq]at h1
 exact⟨_,_,rfl,rfl,h1,h2.symm⟩) ha hb
theorem ky(ha:DB X κ a fa):DE X κ (.UnaryOp .USub a pos) (aZ jH fa):=by
 obtain⟨ta,h1,h2⟩:=ha
 refine⟨_,MC J2 h1,λ{G A bo own ρ σ H p Q} r e q=>?_⟩
 obtain⟨p1,e1,e⟩:=Option.bind_eq_some_iff.mp e
 refine h2 r e1 λx H1 s1 b1=>?_
 cases p1<;>first|(cases e;done)|skip
 cases e
 exact⟨_,b1.int,q _ H1 s1 (.int _)⟩
theorem KR{K:PySem.W.Frag}:j6 X (binaryOp .Add) (λx y H Q=>∃l b xs zs,x=.ref l/\y=.ref b/\SL X.K H l xs/\SL X.K H b zs/\xs.length+zs.length<=sizeLine/\∀p,H p=none->Q (.ref p) (upd H p (.lst (xs++zs)))):=by
 intro pins s σ H x y v u Q I rx ry h
 obtain⟨l,b,xs,zs,rfl,rfl,hH,hB,hz,q⟩:=h
 cases rx
 cases ry
 obtain⟨its,n,r,ho,z⟩:=I.sl hH
 obtain⟨lO,n2,r2,Oz,z2⟩:=I.sl hB
 have l1:=r.length
 have l2:=r2.length
 refine PySem.P.add_list ho Oz ?_ (by rw[List.size_toArray,List.size_toArray];omega)
 have ea:its.toArray++lO.toArray=(its++lO).toArray:=by simp
 rw[ea]
 exact⟨.ref _,_,I.Pt (t':=s.toks) (r.append r2) (by rw[List.length_append];omega),rfl,q _ I.fresh⟩
theorem c8(ha:DB X κ a fa)(hb:DB X κ b fb):DE X κ (.BinOp a .Add b pos) (aa bQ fa fb):=by
 obtain⟨ta,h1,h2⟩:=ha
 obtain⟨tb,h3,h4⟩:=hb
 refine⟨_,CY (JU.or (xN.or (KR (K:=X.K)))) h1 h3,λ{G A bo own ρ σ H p Q} r e q=>?_⟩
 refine v5 h2 h4 r e λx y p1 p2 H' s r' b1 b2 e'=>?_
 (cases p1<;>first|(cases e';done)|skip)<;>cases p2<;>first|(cases e';done)|skip
 ·cases e'
  exact .inl ⟨_,_,b1.int,b2.int,q _ H' s (.int _)⟩
 ·obtain⟨h1,rfl⟩:=bC e'
  exact .inr (.inl ⟨_,_,b1.str,b2.str,h1,q _ H' s (.str _)⟩)
 ·obtain⟨h1,rfl⟩:=bC e'
  obtain⟨a1,SN,rfl,q1,w1⟩:=b1.lst aB
  obtain⟨a2,SO,rfl,q2,w2⟩:=b2.lst aB
  refine .inr (.inr ⟨a1,a2,SN,SO,rfl,rfl,q1,q2,by rw[w1.length,w2.length];exact h1,λp hp=>?_⟩)
  exact q _ _ (s.trans (bN hp)) ((r'.v3 hp (w1.append w2)).rep r')
noncomputable def DC(X:Cx)(κ:Kl)(op:CmpOp)(a b:Expr)(f:Den):Prop:=∃r ta tb,j6 X (compareOp op) r/\PE X a ta/\PE X b tb/\OC X.K κ (MB r ta tb) f
theorem gQ{op:CmpOp}(h:DC X κ op a b f)(hm:behindInMarks op b=false:=by first|exact C0 _|with_unfolding_all rfl):DE X κ (.Compare a [op] [b] pos) f:=
 let⟨_,_,_,h1,h2,h3,h4⟩:=h;⟨_,Gw h1 h2 h3 hm,h4⟩
theorem zT{K:PySem.W.Frag}{te:TE}(h:OC K κ te f):Qb K κ (II te) (tV f):=λ{G A bo own ρ σ H b Q} r e q=>by
 obtain⟨p,e1,e2⟩:=Option.bind_eq_some_iff.mp e
 refine h r e1 λv H' s z=>?_
 cases p<;>first|(cases e2;done)|skip
 cases e2
 exact⟨_,z.xB,q H' s⟩
theorem bz{op:CmpOp}(h:DC X κ op a b f)(hm:behindInMarks op b=false:=by first|exact C0 _|with_unfolding_all rfl):DT X κ (.Compare a [op] [b] pos) (tV f):=
 let⟨_,_,_,h1,h2,h3,h4⟩:=h;⟨_,Gx h1 h2 h3 hm,zT h4⟩
theorem dO(h:DE X κ e f)(he:∀whole,isTrue e X.env whole=(do let v<-whole;standAt e.pos;holding [v] (truthy v)):=by intro _;rfl):DT X κ e (tV f):=
 let⟨_,h1,h2⟩:=h;⟨_,JH h1 he,zT h2⟩
theorem KS{op:CmpOp}{F:Int->Int->Bool}{g:PV->PV->Option PV}(ho:j6 X (compareOp op) (CW λi j=>.bl (F i j)))(hg:∀p q z,g p q=some z->∃i j,p=.int i/\q=.int j/\z=.bl (F i j))
  (ha:DB X κ a fa)(hb:DB X κ b fb):DC X κ op a b (aa g fa fb):=by
 obtain⟨ta,h1,h2⟩:=ha
 obtain⟨tb,h3,h4⟩:=hb
 refine⟨_,_,_,ho,h1,h3,λ{G A bo own ρ σ H p Q} r e q=>?_⟩
 refine v5 h2 h4 r e λx y p1 p2 H' s r' b1 b2 e'=>?_
 obtain⟨i,j,rfl,rfl,rfl⟩:=hg _ _ _ e'
 exact⟨i,j,b1.int,b2.int,q _ H' s (.bl _)⟩
theorem lW(ha:DB X κ a fa)(hb:DB X κ b fb):DC X κ .Lt a b (aa ma fa fb):=KS MJ (λp q z h=>by
 (cases p<;>first|(cases h;done)|skip)<;>cases q<;>first|(cases h;exact⟨_,_,rfl,rfl,rfl⟩)|cases h) ha hb
theorem v7(ha:DB X κ a fa)(hb:DB X κ b fb):DC X κ .Gt a b (aa Bo fa fb):=KS MK (λp q z h=>by
 (cases p<;>first|(cases h;done)|skip)<;>cases q<;>first|(cases h;exact⟨_,_,rfl,rfl,rfl⟩)|cases h) ha hb
theorem zU(ha:DB X κ a fa)(hb:DB X κ b fb):DC X κ .GtE a b (aa GY fa fb):=KS MM (λp q z h=>by
 (cases p<;>first|(cases h;done)|skip)<;>cases q<;>first|(cases h;exact⟨_,_,rfl,rfl,rfl⟩)|cases h) ha hb
variable{ft fu:cN}{rest:List Expr}
theorem fP(ha:DT X κ a ft):DT X κ (.UnaryOp .Not a pos) (eV ft):=by
 obtain⟨ta,h1,h2⟩:=ha
 refine⟨_,JI h1,λ{G A bo own ρ σ H p Q} r e q=>?_⟩
 obtain⟨c,e1,rfl⟩:=Option.map_eq_some_iff.mp e
 exact h2 r e1 λH' s=>q H' s
theorem mU(ha:DT X κ a ft):DW X κ (.BoolOp .And [a] pos) ft:=let⟨_,h1,h2⟩:=ha;⟨_,pw_and1 h1,h2⟩
theorem i7(ha:DT X κ a ft):DW X κ (.BoolOp .Or [a] pos) ft:=let⟨_,h1,h2⟩:=ha;⟨_,pw_or1 h1,h2⟩
theorem qh(ha:DT X κ a ft)(hb:DW X κ (.BoolOp .And (b::rest) pos) fu):DW X κ (.BoolOp .And (a::b::rest) pos) (jd ft fu):=by
 obtain⟨ta,h1,h2⟩:=ha
 obtain⟨tb,h3,h4⟩:=hb
 refine⟨_,pw_and h1 h3,λ{G A bo own ρ σ H p Q} r e q=>?_⟩
 obtain⟨c,e1,e2⟩:=Option.bind_eq_some_iff.mp e
 refine h2 r e1 λH1 s1=>?_
 cases c with
 |true=>exact h4 (r.mono s1) e2 λH2 s2=>q H2 (s1.trans s2)
 |false=>cases e2;exact q H1 s1
theorem gg(ha:DT X κ a ft)(hb:DW X κ (.BoolOp .Or (b::rest) pos) fu):DW X κ (.BoolOp .Or (a::b::rest) pos) (jy ft fu):=by
 obtain⟨ta,h1,h2⟩:=ha
 obtain⟨tb,h3,h4⟩:=hb
 refine⟨_,pw_or h1 h3,λ{G A bo own ρ σ H p Q} r e q=>?_⟩
 obtain⟨c,e1,e2⟩:=Option.bind_eq_some_iff.mp e
 refine h2 r e1 λH1 s1=>?_
 cases c with
 |false=>exact h4 (r.mono s1) e2 λH2 s2=>q H2 (s1.trans s2)
 |true=>cases e2;exact q H1 s1
theorem DW.t(h:DW X κ e ft):DT X κ e ft:=let⟨_,h1,h2⟩:=h;⟨_,h1.pt,h2⟩
theorem uy{op}(h:DE X κ a f):DE X κ (.BoolOp op [a] pos) f:=let⟨_,h1,h2⟩:=h;⟨_,JJ h1,h2⟩
theorem uz(ha:DE X κ a fa)(hb:DE X κ (.BoolOp .And (b::rest) pos) fb):DE X κ (.BoolOp .And (a::b::rest) pos) (sF fa fb):=by
 obtain⟨ta,h1,h2⟩:=ha
 obtain⟨tb,h3,h4⟩:=hb
 refine⟨_,JK h1 h3,λ{G A bo own ρ σ H p Q} r e q=>?_⟩
 obtain⟨x,e1,e2⟩:=Option.bind_eq_some_iff.mp e
 obtain⟨c,e3,e4⟩:=Option.bind_eq_some_iff.mp e2
 refine h2 r e1 λv H1 s1 z=>?_
 cases x<;>first|(cases e3;done)|skip
 cases e3
 refine⟨_,z.xB,?_⟩
 cases c with
 |true=>exact h4 (r.mono s1) e4 λv H2 s2 z=>q v H2 (s1.trans s2) z
 |false=>cases e4;exact q _ H1 s1 (.bl _)
theorem KU(ha:DE X κ a fa)(hb:DE X κ (.BoolOp .Or (b::rest) pos) fb):DE X κ (.BoolOp .Or (a::b::rest) pos) (G3 fa fb):=by
 obtain⟨ta,h1,h2⟩:=ha
 obtain⟨tb,h3,h4⟩:=hb
 refine⟨_,Mr h1 h3,λ{G A bo own ρ σ H p Q} r e q=>?_⟩
 obtain⟨x,e1,e2⟩:=Option.bind_eq_some_iff.mp e
 obtain⟨c,e3,e4⟩:=Option.bind_eq_some_iff.mp e2
 refine h2 r e1 λv H1 s1 z=>?_
 cases x<;>first|(cases e3;done)|skip
 cases e3
 refine⟨_,z.xB,?_⟩
 cases c with
 |false=>exact h4 (r.mono s1) e4 λv H2 s2 z=>q v H2 (s1.trans s2) z
 |true=>cases e4;exact q _ H1 s1 (.bl _)
theorem Hb(ha:DE X κ a fa):DE X κ (.UnaryOp .Not a pos) (Ja fa):=by
 obtain⟨ta,h1,h2⟩:=ha
 refine⟨_,JM h1,λ{G A bo own ρ σ H p Q} r e q=>?_⟩
 obtain⟨x,e1,e2⟩:=Option.bind_eq_some_iff.mp e
 obtain⟨c,e3,rfl⟩:=Option.map_eq_some_iff.mp e2
 refine h2 r e1 λv H1 s1 z=>?_
 cases x<;>first|(cases e3;done)|skip
 cases e3
 exact⟨_,z.xB,q _ H1 s1 (.bl _)⟩
noncomputable def DA(X:Cx)(κ:Kl)(es:List Expr)(f:cu):Prop:=∃ta,PA X es ta/\∀{G A bo own ρ σ H ps Q},R X.K κ G A bo own ρ σ H->f ρ=some ps->(∀vs H',aH H H'->aQ X.K κ (d5 A own ρ H') vs ps->Q vs H')->ta σ H Q
inductive KW(K:PySem.W.Frag)(κ:Kl)(hH H:Hp):List V->List PV->Prop
 |nil:KW K κ hH H [] []
 |cons {v:V} {p:PV} {vs:List V} {l:List PV}:BR K κ hH H v p->KW K κ hH H vs l->KW K κ hH H (v::vs) (p::l)
theorem KW.full{K:PySem.W.Frag}{hH H:Hp}(s:aH hH H):∀{vs:List V} {ps:List PV},KW K κ hH H vs ps->aQ K κ H vs ps
 |_,_,.nil=>.nil
 |_,_,.cons r t=>.cons (r.full s) (KW.full s t)
noncomputable def OE(X:Cx)(κ:Kl)(es:List Expr)(f:cu):Prop:=∃ta,PA X es ta/\∀{G A bo own ρ σ H ps Q},R X.K κ G A bo own ρ σ H->f ρ=some ps->(∀vs H',aH H H'->KW X.K κ (d5 A own ρ H') H' vs ps->Q vs H')->ta σ H Q
variable{es:List Expr}{fs:cu}
theorem aK:DA X κ [] aA:=⟨_,cq,λ{G A bo own ρ σ H ps Q} r e q=>by cases e;exact q [] H (aH.refl _) .nil⟩
theorem Hc:OE X κ [] aA:=⟨_,cq,λ{G A bo own ρ σ H ps Q} r e q=>by cases e;exact q [] H (aH.refl _) .nil⟩
theorem ai(ha:DE X κ a fa)(hr:DA X κ es fs)(hs:starEach (a::es) X.env=(false,eval a X.env)::starEach es X.env:=by rfl):DA X κ (a::es) (ah fa fs):=by
 obtain⟨ta,h1,h2⟩:=ha
 obtain⟨tb,h3,h4⟩:=hr
 refine⟨_,bG h1 h3 hs,λ{G A bo own ρ σ H ps Q} r e q=>?_⟩
 obtain⟨x,e1,e2⟩:=Option.bind_eq_some_iff.mp e
 obtain⟨xs,e3,e4⟩:=Option.bind_eq_some_iff.mp e2
 cases e4
 refine h2 r e1 λv H1 s1 z1=>h4 (r.mono s1) e3 λvs H2 s2 z2=>q _ H2 (s1.trans s2) (.cons (z1.mono (aM s2)) z2)
theorem v8(ha:DB X κ a fa)(hr:OE X κ es fs)(hs:starEach (a::es) X.env=(false,eval a X.env)::starEach es X.env:=by rfl):OE X κ (a::es) (ah fa fs):=by
 obtain⟨ta,h1,h2⟩:=ha
 obtain⟨tb,h3,h4⟩:=hr
 refine⟨_,bG h1 h3 hs,λ{G A bo own ρ σ H ps Q} r e q=>?_⟩
 obtain⟨x,e1,e2⟩:=Option.bind_eq_some_iff.mp e
 obtain⟨xs,e3,e4⟩:=Option.bind_eq_some_iff.mp e2
 cases e4
 refine h2 r e1 λv H1 s1 z1=>h4 (r.mono s1) e3 λvs H2 s2 z2=>q _ H2 (s1.trans s2) (.cons (z1.DQ s2) z2)
theorem kz(h:DA X κ es fs):DO X κ (.List es pos) (jG fs):=by
 obtain⟨ta,h1,h2⟩:=h
 refine⟨_,xU h1,λ{G A bo own ρ σ H ps Q} r e q=>?_⟩
 obtain⟨x,e1,e2⟩:=Option.bind_eq_some_iff.mp e
 obtain⟨h3,rfl⟩:=bC e2
 refine h2 r e1 λvs H1 s1 z1=>⟨by rw[z1.length];exact h3,λp hp=>q _ _ (s1.trans (bN hp)) ?_⟩
 obtain⟨a,ws,l,w1,w2,w3,w4⟩:=(r.mono s1).v3 hp z1
 refine⟨a,ws,l,w1,w2,?_,w4⟩
 cases w1
 exact s1.free hp
theorem DV{x1}(h:DA X κ es fs):DE X κ (.Tuple es x1 pos) (Bm fs):=by
 obtain⟨ta,h1,h2⟩:=h
 refine⟨_,xT h1,λ{G A bo own ρ σ H ps Q} r e q=>?_⟩
 obtain⟨x,e1,e2⟩:=Option.bind_eq_some_iff.mp e
 obtain⟨h3,rfl⟩:=bC e2
 exact h2 r e1 λvs H1 s1 z1=>⟨by rw[z1.length];exact h3,λp hp=>q _ _ (s1.trans (bN hp)) ((r.mono s1).Qc hp z1)⟩
end
noncomputable def RR(fr:Bool)(K:PySem.W.Frag)(κ:Kl)(A:Addr->Prop)(G H':Hp)(v:V)(p:PV):Prop:=if fr=true then OR K κ A G H' v p else Rep K κ (hide A H') v p
noncomputable def DX(K:PySem.W.Frag)(κ:Kl)(fr:Bool)(G:Hp)(A:Addr->Prop)(bo:Nat->Option (Addr×List V))(D:Ends):Fl->Prop
 |.nx ρ'=>∀dH σ' H',R K κ G A bo dH ρ' σ' H'->D.nx σ' H'
 |.bk ρ'=>∀dH σ' H',R K κ G A bo dH ρ' σ' H'->D.bk σ' H'
 |.ct ρ'=>∀dH σ' H',R K κ G A bo dH ρ' σ' H'->D.ct σ' H'
 |.rt p=>∀v H',aH G H'->RR fr K κ A G H' v p->D.rt v H'
noncomputable def F8(K:PySem.W.Frag)(κ:Kl)(fr:Bool)(ts:TS)(g:aP):Prop:=
 ∀{G A bo own ρ σ H fl D},R K κ G A bo own ρ σ H->g ρ=some fl->DX K κ fr G A bo D fl->ts D σ H
noncomputable def DS(X:Cx)(κ:Kl)(fr:Bool)(st:Stmt)(g:aP):Prop:=∃ts,PS X st ts/\F8 X.K κ fr ts g
noncomputable def zV(X:Cx)(κ:Kl)(fr:Bool)(st:List Stmt)(g:aP):Prop:=∃ts,tG X st ts/\F8 X.K κ fr ts g
theorem OF{K:PySem.W.Frag}{κ:Kl}{G H H':Hp}{A B:Addr->Prop}{v:V}{p:PV}(h:OR K κ B H H' v p)(s:aH G H)(SQ:∀b,A b->B b):OR K κ A G H' v p:=by
 obtain⟨a,vs,l,h1,h2,h3,h4,h5⟩:=h
 exact⟨a,vs,l,h1,h2,s.free h3,h4,h5.mono (dh (λ_ _ z=>z) λb z _=>z.imp (SQ b) id)⟩
section
variable{X:Cx}{κ:Kl}{fr:Bool}{st:Stmt}{rest:List Stmt}{g g':aP}{e a b c:Expr}{f:Den}{ft:cN}{pos:Pos}
theorem bZ:zV X κ fr [] bX:=⟨_,o8,λ{G A bo own ρ σ H fl D} r e k=>by cases e;exact k own σ H r⟩
theorem Hd{K:PySem.W.Frag}{t u:TS}(h1:F8 K κ fr t g)(h2:F8 K κ fr u g'):F8 K κ fr (Ms t u) (aY g g'):=λ{G A bo own ρ σ H fl D} r e k=>by
 obtain⟨f1,e1,e2⟩:=Option.bind_eq_some_iff.mp e
 refine h1 r e1 ?_
 cases f1 with
 |nx ρ'=>exact λdH σ' H' r'=>h2 r' e2 k
 |rt p=>cases e2;exact k
 |bk ρ'=>cases e2;exact k
 |ct ρ'=>cases e2;exact k
theorem ax(h1:DS X κ fr st g)(h2:zV X κ fr rest g'):zV X κ fr (st::rest) (aY g g'):=
 let⟨_,a1,a2⟩:=h1;let⟨_,b1,b2⟩:=h2;⟨_,cX a1 b1,Hd a2 b2⟩
theorem av(h1:DS X κ fr st g):zV X κ fr [st] g:=let⟨_,a1,a2⟩:=h1;⟨_,jA a1,a2⟩
theorem zW{K:PySem.W.Frag}{u:TS}(i:Nat)(h2:F8 K κ fr u g):F8 K κ fr u (aY (ui i) g):=λ{G A bo own ρ σ H fl D} r e k=>by
 obtain⟨f1,e1,e2⟩:=Option.bind_eq_some_iff.mp e
 unfold ui at e1
 split at e1
 ·rename_i l h
  cases e1
  obtain⟨h1,h3,vs,h4,h5⟩:=r.ow i (.l l) h
  change H (own i)=some (.lst vs)at h4
  change aQ _ _ _ vs l at h5
  refine h2 (own:=own) (σ:=σ) (H:=H) ?_ e2 k
  have hi:i<ρ.length:=(List.getElem?_eq_some_iff.mp h).1
  have s1:aH (d5 A own ρ H) (d5 A own (ρ.set i (.sh (.lst l))) H):=lA
  have CO:d5 A own (ρ.set i (.sh (.lst l))) H (own i)=some (.lst vs):=by
   rw[d5,bq]
   ·exact h4
   ·rintro(z|⟨j,m,z1,z2⟩)
    ·exact r.al _ z h3
    ·by_cases hj:i=j
     ·subst hj
      rw[List.getElem?_set,if_pos rfl,if_pos hi]at z1
      cases z1
     ·rw[List.getElem?_set,if_neg hj]at z1
      exact hj (r.inj j i _ _ z1 h z2).symm
  refine⟨r.al,r.bg,r.same,λj q e=>?_,λj m e=>?_,λj k m n e f=>?_,λj m e=>?_,by rw[List.length_set];exact r.len⟩
  ·by_cases hj:i=j
   ·subst hj
    rw[List.getElem?_set,if_pos rfl,if_pos hi]at e
    cases e
    exact⟨_,h1,.lst (SL.of CO) (h5.mono s1)⟩
   ·rw[List.getElem?_set,if_neg hj]at e
    obtain⟨v,z1,z2⟩:=r.sh j q e
    exact⟨v,z1,z2.mono s1⟩
  ·by_cases hj:i=j
   ·subst hj
    rw[List.getElem?_set,if_pos rfl,if_pos hi]at e
    cases e
   ·rw[List.getElem?_set,if_neg hj]at e
    obtain⟨z1,z2,ws,z3,z4⟩:=r.ow j m e
    exact⟨z1,z2,ws,z3,z4.mono s1⟩
  ·have ne:∀{j:Nat} {m:Cn},(ρ.set i (.sh (.lst l)))[j]?=some (.own m)->ρ[j]?=some (.own m):=λ{j m} z=>by
     rw[List.getElem?_set]at z
     split at z
     ·first|cases z|(split at z<;>cases z)
     ·exact z
   exact r.inj j k m n (ne e) (ne f)
  ·by_cases hj:i=j
   ·subst hj
    rw[List.getElem?_set,if_pos rfl,if_pos hi]at e
    cases e
   ·rw[List.getElem?_set,if_neg hj]at e
    obtain⟨b,ws,z1,z2,z3⟩:=r.bw j m e
    exact⟨b,ws,z1,z2,z3.mono s1⟩
 ·cases e1
  exact h2 r e2 k
theorem He(i:Nat)(h:zV X κ fr rest g):zV X κ fr rest (aY (ui i) g):=let⟨_,a1,a2⟩:=h;⟨_,a1,zW i a2⟩
theorem bI(h:DE X κ e f):DS X κ false (.Return (some e) pos) (br f):=by
 obtain⟨te,h1,h2⟩:=h
 refine⟨_,nO h1,λ{G A bo own ρ σ H fl D} r e k=>?_⟩
 obtain⟨p,e1,rfl⟩:=Option.map_eq_some_iff.mp e
 refine h2 r e1 λv H' s z=>k v H' (r.same.trans s) ?_
 exact z.mono (dh (λ_ _ q=>q) λb q _=>.inl q)
theorem gE(h:DO X κ e f):DS X κ true (.Return (some e) pos) (br f):=by
 obtain⟨te,h1,h2⟩:=h
 refine⟨_,nO h1,λ{G A bo own ρ σ H fl D} r e k=>?_⟩
 obtain⟨p,e1,rfl⟩:=Option.map_eq_some_iff.mp e
 refine h2 r e1 λv H' s z=>k v H' (r.same.trans s) ?_
 exact OF z r.same λb q=>.inl q
theorem oh{ρ:cg}{i:Nat}{l:List PV}(h:yg ρ i=some l):ρ[i]?=some (.ow l):=by
 unfold yg at h
 split at h
 ·rename_i l' e
  cases h
  exact e
 ·cases h
theorem zX(i:Nat){x:Str}{p':Pos}(hN:X.N[i]?=some x:=by rfl)(hv:tD X.env.scope x:=by first|exact Or.inl rfl|exact Or.inr (Or.inl rfl)|exact Or.inr (Or.inr rfl))(hd:(x==("__debug__" :Str))=false:=by decide)
  (oW:(x==("__classdict__" :Str))=false:=by decide):DS X κ true (.Return (some (.Name x p')) pos) (vW i):=by
 refine⟨_,nO (dD hN hv hd oW),λ{G A bo own ρ σ H fl D} r e k=>?_⟩
 obtain⟨l,e1,rfl⟩:=Option.map_eq_some_iff.mp e
 obtain⟨h1,h3,vs,h4,h5⟩:=r.ow i (.l l) (oh e1)
 change H (own i)=some (.lst vs)at h4
 change aQ _ _ _ vs l at h5
 refine⟨_,h1,k _ H r.same ?_⟩
 exact⟨own i,vs,l,rfl,rfl,h3,h4,h5.mono (dh (λ_ _ z=>z) λb z _=>by
  rcases z with z|z
  ·exact .inl z
  ·exact .inr ⟨i,.l l,oh e1,z.symm⟩)⟩
theorem eg{sa sb:List Stmt}(hc:DT X κ c ft)(ha:zV X κ fr sa g)(hb:zV X κ fr sb g'):DS X κ fr (.If c sa sb pos) (iL ft g g'):=by
 obtain⟨tc,h5,h6⟩:=hc
 obtain⟨ta,h1,h2⟩:=ha
 obtain⟨tb,h3,h4⟩:=hb
 refine⟨_,zo h5 h1 h3,λ{G A bo own ρ σ H fl D} r e k=>?_⟩
 obtain⟨c,e1,e2⟩:=Option.bind_eq_some_iff.mp e
 refine h6 r e1 λH1 s1=>?_
 cases c with
 |true=>exact h2 (r.mono s1) e2 k
 |false=>exact h4 (r.mono s1) e2 k
theorem cx(i:Nat){x:Str}{p':Pos}(hN:X.N.Nodup)(h:DE X κ e f)(hi:X.N[i]?=some x:=by rfl)(hx:Loc X.env.scope x:=by first|exact Or.inl rfl|exact Or.inr rfl)(hs:swapsWith e (some (.Name x p')) pos.line X.env=pure false:=by rfl)
  (hf:X.fn x=true\/X.env.scope.names.lookup x=some .local:=by first|exact .inl rfl|exact .inr rfl):DS X κ fr (.Assign [.Name x p'] e pos) (cA i f):=by
 obtain⟨te,h1,h2⟩:=h
 refine⟨_,nP hN hi hx h1 hs hf,λ{G A bo own ρ σ H fl D} r e k=>?_⟩
 obtain⟨p,e1,rfl⟩:=Option.map_eq_some_iff.mp e
 exact h2 r e1 λv H' s z=>k _ _ _ ((r.mono s).set z)
theorem R.Qe{K:PySem.W.Frag}{G H H':Hp}{A:Addr->Prop}{bo:Nat->Option (Addr×List V)}{own:Nat->Addr}{ρ:cg}{σ:St}(r:R K κ G A bo own ρ σ H)(s:aH H H'){i:Nat}{v:V}{l:List PV}(z:OR K κ (cP A own ρ) H H' v (.lst l)):
  ∃dH,R K κ G A bo dH (ρ.set i (.ow l)) (σ.set i (some v)) H':=by
 obtain⟨a,vs,l',rfl,z2,h3,h4,h5⟩:=z
 cases z2
 refine⟨_,r.Np (r.same.free h3) (λq=>r.new h3 (.inl q)) (λj m e _ q=>r.new h3 (.inr ⟨j,m,e,q⟩)) ?_ (λb o q _=>s b o q) h4 h5⟩
 exact dh s λb w nz=>by
  rcases w with w|w
  ·exact w
  ·rw[w]at nz
   exact absurd h3 nz
theorem ph(i:Nat){x:Str}{p':Pos}(hN:X.N.Nodup)(h:DO X κ e f)(hi:X.N[i]?=some x:=by rfl)(hx:Loc X.env.scope x:=by first|exact Or.inl rfl|exact Or.inr rfl)(hs:swapsWith e (some (.Name x p')) pos.line X.env=pure false:=by rfl)
  (hf:X.fn x=true\/X.env.scope.names.lookup x=some .local:=by first|exact .inl rfl|exact .inr rfl):DS X κ fr (.Assign [.Name x p'] e pos) (lV i f):=by
 obtain⟨te,h1,h2⟩:=h
 refine⟨_,nP hN hi hx h1 hs hf,λ{G A bo own ρ σ H fl D} r e k=>?_⟩
 obtain⟨p,e1,e2⟩:=Option.bind_eq_some_iff.mp e
 obtain⟨l,e3,rfl⟩:=Option.map_eq_some_iff.mp e2
 refine h2 r e1 λv H' s z=>?_
 cases p<;>first|(cases e3;done)|skip
 cases e3
 obtain⟨dH,r'⟩:=r.Qe s (i:=i) z
 exact k _ _ _ r'
theorem R.Qf{K:PySem.W.Frag}{G H:Hp}{A:Addr->Prop}{bo:Nat->Option (Addr×List V)}{own:Nat->Addr}{ρ:cg}{σ:St}(r:R K κ G A bo own ρ σ H){i:Nat}{l l':Cn}{ws:List V}(h:ρ[i]?=some (.own l))(q:aQ K κ (d5 A own ρ H) ws (KP l')):
  ∃dH,R K κ G A bo dH (ρ.set i (.own l')) σ (upd H (own i) (DM l' ws)):=by
 obtain⟨h1,h3,vs,h4,h5⟩:=r.ow i l h
 have e:σ.set i (some (.ref (own i)))=σ:=by
  obtain⟨hl,hx⟩:=List.getElem?_eq_some_iff.mp h1
  rw[<-hx]
  exact List.set_getElem_self hl
 have hs:cP A own ρ (own i):=.inr ⟨i,l,h,rfl⟩
 have he:hide (λb=>cP A own ρ b\/b=own i) (upd H (own i) (DM l' ws))=d5 A own ρ H:=by
  rw[mS (.inr rfl)]
  congr 1
  funext b
  refine propext ⟨λz=>?_,.inl⟩
  rcases z with z|z
  ·exact z
  ·rw[z]
   exact hs
 have:=r.Np (i:=i) (a:=own i) (vs:=ws) (l:=l') (H1:=upd H (own i) (DM l' ws)) h3 (λz=>r.al _ z h3) (λj m e' hj z=>hj (r.inj j i _ _ e' h z)) (by rw[he];exact λ_ _ z=>z) (λb o z hb=>by rw[aC hb];exact z) aU (by rw[he];exact q)
 rw[e]at this
 exact⟨_,this⟩
noncomputable def Nr(K:PySem.W.Frag)(κ:Kl)(rm:V->List V->Hp->VK->Prop)(gm:List PV->List PV->Option (List PV)):Prop:=
 ∀{hH H:Hp} {a:Addr} {vs ws:List V} {l xs l':List PV} {Q:VK},aH hH H->H a=some (.lst vs)->aQ K κ hH vs l->aQ K κ hH ws xs->gm l xs=some l'->(∀us,aQ K κ hH us l'->Q .non (upd H a (.lst us)))->rm (.ref a) ws H Q
theorem R.mut{K:PySem.W.Frag}{G H:Hp}{A:Addr->Prop}{bo:Nat->Option (Addr×List V)}{own:Nat->Addr}{ρ:cg}{σ:St}(r:R K κ G A bo own ρ σ H){i:Nat}{l l':List PV}{ws:List V}(h:ρ[i]?=some (.ow l))(q:aQ K κ (d5 A own ρ H) ws l'):
 ∃dH,R K κ G A bo dH (ρ.set i (.ow l')) σ (upd H (own i) (.lst ws)):=r.Qf (l:=.l l) (l':=.l l') h q
theorem zY{K:PySem.W.Frag}{rm:V->List V->Hp->VK->Prop}{gm:List PV->List PV->Option (List PV)}{fs:cu}{ta:TA}(i:Nat)(hg:Nr K κ rm gm)
  (ha:∀{G A bo own ρ σ H ps Q},R K κ G A bo own ρ σ H->fs ρ=some ps->(∀vs H',aH H H'->aQ K κ (d5 A own ρ H') vs ps->Q vs H')->ta σ H Q):F8 K κ fr (ID (Q7 K "list" rm (Mo i) ta)) (lP i gm fs):=λ{G A bo own ρ σ H fl D} r e k=>by
 obtain⟨xs,e1,e2⟩:=Option.bind_eq_some_iff.mp e
 obtain⟨l,e3,e4⟩:=Option.bind_eq_some_iff.mp e2
 obtain⟨l',e5,rfl⟩:=Option.map_eq_some_iff.mp e4
 have IZ:=oh e3
 obtain⟨h1,h3,vs,h4,h5⟩:=r.ow i (.l l) IZ
 change H (own i)=some (.lst vs)at h4
 change aQ _ _ _ vs l at h5
 refine⟨_,h1,.inl ⟨rfl,vs,gc.of h4⟩,ha r e1 λws H2 s2 z2=>?_⟩
 refine hg aB (s2 _ _ h4) (h5.mono (aM s2)) z2 e5 λus z=>?_
 obtain⟨dH,r'⟩:=(r.mono s2).mut IZ z
 exact k _ _ _ r'
theorem jn{x:Str}{p' apos df:Pos}{ee:Expr}{fs:cu}(i:Nat)(ha:DA X κ [ee] fs)(hN:X.N[i]?=some x:=by rfl)(hv:tD X.env.scope x:=by first|exact Or.inl rfl|exact Or.inr (Or.inl rfl)|exact Or.inr (Or.inr rfl))(hd:(x==("__debug__" :Str))=false:=by decide)
  (oW:(x==("__classdict__" :Str))=false:=by decide)(fG:attributeBase (.Name x p') "append" X.env (eval (.Name x p') X.env)=eval (.Name x p') X.env:=by rfl)
  (nX:((backTo df (starEach [ee] X.env)).all (λx=>!x.1)&&(backToKw df (keywordEach [] X.env)).all (λx=>x.1.isSome)
    &&decide ([ee].length+([]:List Keyword).length+(if([]:List Keyword).isEmpty then 0 else 1)<30))=true:=by rfl)
  (hs:swapsWith (.Call (.Attribute (.Name x p') "append" apos) [ee] [] df) none pos.line X.env=pure false:=by rfl)(fH:(apos.endLine==df.line)=true:=by rfl)(oY:starEach [ee] X.env=(false,eval ee X.env)::starEach [] X.env:=by rfl):
  DS X κ fr (.Expr (.Call (.Attribute (.Name x p') "append" apos) [ee] [] df) pos) (lP i ef fs):=by
 obtain⟨ta,h1,h2⟩:=ha
 refine⟨_,jB (zA PySem.F.plainAttrs_list PySem.F.slot_list_append PySem.F.type_list_append nY (dD hN hv hd oW) h1 fG nX fH oY rfl) hs,zY i ?_ h2⟩
 intro hH H a vs ws l xs l' Q s h3 h4 h5 h6 q
 unfold ef at h6
 split at h6
 ·obtain⟨h7,rfl⟩:=bC h6
  cases h5 with
  |cons z t=>
   cases t
   exact⟨a,vs,_,rfl,rfl,h3,by rw[h4.length];exact h7,q _ (h4.append (.cons z .nil))⟩
 ·cases h6
end
noncomputable def uA(K:PySem.W.Frag)(κ:Kl)(Gs:Hp)(A:Addr->Prop)(J:It)(ps:List PV):Prop:=
 ∀(i:Nat) (H2:Hp),aH Gs H2->(∀p,ps[i]?=some p->J.go i H2/\∀x H3,J.yld i H2 x H3->aH H2 H3/\∀B:Addr->Prop,(∀b,B b->H2 b≠none)->aH (hide A Gs) (hide B H2)->Rep K κ (hide B H3) x p)/\(ps.length<=i->J.stop i H2)
noncomputable def DI(X:Cx)(κ:Kl)(tg iter:Expr)(f:cu):Prop:=∃wi,PI X tg iter wi/\∀{G A bo own ρ σ H ps Q},R X.K κ G A bo own ρ σ H->f ρ=some ps->(∀J H',aH H H'->uA X.K κ (CO own ρ H') A J ps->Q J H')->wi σ H Q
noncomputable def F9(X:Cx)(κ:Kl)(tg iter:Expr)(f:cu):Prop:=∃wi,PI X tg iter wi/\∀{G A bo own ρ σ H ps Q},R X.K κ G A bo own ρ σ H->f ρ=some ps->(∀J H',aH H H'->uA X.K κ H' (cP A own ρ) J ps->Q J H')->wi σ H Q
noncomputable def DG(X:Cx)(κ:Kl)(tg:Expr)(g:xC):Prop:=∃tt,PG X tg tt/\∀{G A bo own ρ σ H p v ρ' Q},R X.K κ G A bo own ρ σ H->Rep X.K κ (d5 A own ρ H) v p->g p ρ=some ρ'->(∀dH σ',R X.K κ G A bo dH ρ' σ' H->aH (d5 A own ρ H) (d5 A dH ρ' H)->Q σ' H)->tt v σ H Q
section
variable{K:PySem.W.Frag}{κ:Kl}{Gs:Hp}{A:Addr->Prop}{a:Addr}{vs:List V}{l:List PV}
theorem sI(h:SL K Gs a vs)(q:aQ K κ (hide A Gs) vs l):uA K κ Gs A (Pc K a) l:=λi H2 s=>by
 have h2:gc K H2 a vs:=(s.sl h).sq
 refine⟨λp e=>?_,λhl=>⟨vs,h2,by rw[q.length];exact hl⟩⟩
 obtain⟨v,e1,r1⟩:=q.get e
 refine⟨⟨vs,v,h2,e1⟩,λx H3 ⟨y1,y2⟩=>?_⟩
 subst y1
 have:=y2 vs h2
 rw[e1]at this
 cases this
 exact⟨aH.refl _,λB _ sb=>r1.mono sb⟩
theorem ym{lo:Int}{n i:Nat}{p:PV}(h:(cR lo n)[i]?=some p):i<n/\p=.int (lo+(i:Nat)):=by
 unfold cR at h
 rw[List.getElem?_map]at h
 obtain⟨k,h1,rfl⟩:=Option.map_eq_some_iff.mp h
 obtain⟨h2,h3⟩:=List.getElem?_eq_some_iff.mp h1
 rw[List.getElem_range]at h3
 subst h3
 exact⟨by simpa using h2,rfl⟩
theorem qi{lo:Int}{n:Nat}:uA K κ Gs A (IG lo n) (cR lo n):=λi H2 s=>by
 refine⟨λp e=>?_,λhl=>show n<=i by simpa[cR]using hl⟩
 obtain⟨h1,rfl⟩:=ym e
 refine⟨h1,λx H3 ⟨y1,y2⟩=>?_⟩
 subst y1 y2
 exact⟨aH.refl _,λB _ _=>.int _⟩
end
section
variable{X:Cx}{κ:Kl}{fr:Bool}{g:aP}{e a b c tg iter:Expr}{f fa fb:Den}{ft:cN}{pos:Pos}{fi:cu}{gt gu:xC}{body:List Stmt}
theorem uB{A:Addr->Prop}{own:Nat->Addr}{ρ:cg}{H:Hp}:aH (d5 A own ρ H) (CO own ρ H):=by
 rw[<-mT]
 exact aB
theorem mV(h:DE X κ e f):DI X κ tg e (nList f):=by
 obtain⟨te,h1,h2⟩:=h
 refine⟨_,zp h1,λ{G A bo own ρ σ H ps Q} r e q=>?_⟩
 obtain⟨p,e1,e2⟩:=Option.bind_eq_some_iff.mp e
 refine h2 r e1 λv H' s z=>?_
 cases p<;>first|(cases e2;done)|skip
 cases e2
 cases z with
 |lst q1 q2=>exact⟨_,rfl,⟨_,((aB (A:=cP A own ρ)).sl q1).sq⟩,q _ H' s (sI (uB.sl q1) (by rw[mT];exact q2))⟩
theorem bL(h:DB X κ e f):F9 X κ tg e (nList f):=by
 obtain⟨te,h1,h2⟩:=h
 refine⟨_,zp h1,λ{G A bo own ρ σ H ps Q} r e q=>?_⟩
 obtain⟨p,e1,e2⟩:=Option.bind_eq_some_iff.mp e
 refine h2 r e1 λv H' s z=>?_
 cases p<;>first|(cases e2;done)|skip
 cases e2
 obtain⟨a,vs,rfl,q1,q2⟩:=z.lst aB
 exact⟨_,rfl,⟨_,q1.sq⟩,q _ H' s (sI q1 q2)⟩
theorem KY{K:PySem.W.Frag}{te:TE}(h2:OD K κ te f){G A bo own ρ σ H ps}{Q:It->Hp->Prop}(r:R K κ G A bo own ρ σ H)(e:cO f ρ=some ps)(q:∀n H',aH H H'->ps=cR 0 n->Q (IG 0 n) H'):IH (C4 te C3) σ H Q:=by
 obtain⟨p,e1,e2⟩:=Option.bind_eq_some_iff.mp e
 obtain⟨j,e3,e4⟩:=Option.bind_eq_some_iff.mp e2
 obtain⟨h3,h4⟩:=bC e4
 simp only[lU,Bool.and_eq_true,decide_eq_true_eq]at h3
 refine h2 r e1 λv H' s z=>?_
 cases p<;>first|(cases e3;done)|skip
 cases e3
 exact⟨_,by rw[z.int],h3.1,h3.2,q _ H' s h4.symm⟩
theorem lB{p pos:Pos}(h:DB X κ a f)(hm:X.mg "range" =none)(hg:Gl X "range" :=by rfl)(hs:starEach [a] X.env=[(false,eval a X.env)]:=by rfl):DI X κ tg (.Call (.Name "range" p) [a] [] pos) (cO f):=by
 obtain⟨te,h1,h2⟩:=h
 exact⟨_,nQ hg hm (bG h1 cq hs) hs,λ{G A bo own ρ σ H ps Q} r e q=>KY h2 r e λn H' s e'=>q _ H' s (by rw[e'];exact qi)⟩
theorem mW{p pos:Pos}(h:DB X κ a f)(hm:X.mg "range" =none)(hg:Gl X "range" :=by rfl)(hs:starEach [a] X.env=[(false,eval a X.env)]:=by rfl):F9 X κ tg (.Call (.Name "range" p) [a] [] pos) (cO f):=by
 obtain⟨te,h1,h2⟩:=h
 exact⟨_,nQ hg hm (bG h1 cq hs) hs,λ{G A bo own ρ σ H ps Q} r e q=>KY h2 r e λn H' s e'=>q _ H' s (by rw[e'];exact qi)⟩
theorem dP(i:Nat){x:Str}(hN:X.N.Nodup)(hi:X.N[i]?=some x:=by rfl)(hx:Loc X.env.scope x:=by first|exact Or.inl rfl|exact Or.inr rfl)(hf:X.fn x=true\/X.env.scope.names.lookup x=some .local:=by first|exact .inl rfl|exact .inr rfl):DG X κ (.Name x pos) (bh i):=
 ⟨_,lr hN hi hx hf,λ{G A bo own ρ σ H p v ρ' Q} r z e q=>by cases e;exact q _ _ (r.set z) lA⟩
theorem zZ{k:Nat}(ha:DG X κ a gt)(hb:DG X κ b gu)(hc:X.calm=true:=by rfl)(hs:(assignEach [a,b] X.env).map (·.2)=assign a X.env::(assignEach [b] X.env).map (·.2):=by rfl)(jC:(assignEach [b] X.env).map (·.2)=assign b X.env::(assignEach [] X.env).map (·.2):=by rfl)
  (hn:(assignEach [a,b] X.env).length=2:=by rfl)(oY:(assignEach [a,b] X.env).findIdx? (·.1)=none:=by rfl):DG X κ (.Tuple [a,b] k pos) (jI gt gu):=by
 obtain⟨ta,h1,h2⟩:=ha
 obtain⟨tb,h3,h4⟩:=hb
 refine⟨_,xH hc (jf h1 (jf h3 tI jC) hs) hn oY,λ{G A bo own ρ σ H p v ρ' Q} r z e q=>?_⟩
 unfold jI at e
 split at e
 ·rename_i x y
  obtain⟨ρ1,e1,e2⟩:=Option.bind_eq_some_iff.mp e
  cases z with
  |tup q1 q2=>
   cases q2 with
   |cons r1 q2=>
    cases q2 with
    |cons r2 q2=>
     cases q2
     refine⟨_,_,rfl,zS (aB (A:=cP A own ρ)) q1,rfl,_,_,rfl,h2 r r1 e1 λdH σ' r' s'=>?_⟩
     exact⟨_,_,rfl,h4 r' (r2.mono s') e2 λuC σ2 r3 s3=>⟨rfl,q uC σ2 r3 (s'.trans s3)⟩⟩
 ·cases e
end
section
variable{K:PySem.W.Frag}{κ:Kl}{fr:Bool}{gb:aP}{ft:cN}{gt:xC}{fi:cu}
theorem Bu{g:xC}{body:aP}{x:PV}{xs:List PV}{ρ:cg}{fl:Fl}(h:forL g body (x::xs) ρ=some fl):∃ρ1 f,g x ρ=some ρ1/\body ρ1=some f/\(match f with
  |.nx ρ'=>forL g body xs ρ'
  |.ct ρ'=>forL g body xs ρ'
  |.bk ρ'=>some (.nx ρ')
  |.rt p=>some (.rt p))=some fl:=by
 unfold forL at h
 obtain⟨ρ1,e1,e2⟩:=Option.bind_eq_some_iff.mp h
 obtain⟨f,e3,e4⟩:=Option.bind_eq_some_iff.mp e2
 exact⟨ρ1,f,e1,e3,e4⟩
theorem Bv{J:It}{ps:List PV}{G:Hp}{A:Addr->Prop}{bo:Nat->Option (Addr×List V)}{tg:TG}{tb:TS}{D:Ends}{own:Nat->Addr}{ρ:cg}{σ:St}{H:Hp}{fl:Fl}
  (hI:uA K κ G A J ps)(hg:∀{own ρ σ H p v ρ' Q},R K κ G A bo own ρ σ H->Rep K κ (d5 A own ρ H) v p->gt p ρ=some ρ'->(∀dH σ',R K κ G A bo dH ρ' σ' H->aH (d5 A own ρ H) (d5 A dH ρ' H)->Q σ' H)->tg v σ H Q)
  (hb:F8 K κ fr tb gb)(r:R K κ G A bo own ρ σ H)(e:forL gt gb ps ρ=some fl)(k:DX K κ fr G A bo D fl):
  ∃W:Nat->Nat->St->Hp->Prop,(∃m,W 0 m σ H)/\∀i m σ H,W i m σ H->
   (J.stop i H/\D.nx σ H)\/(J.go i H/\∃N:St->Hp->Prop,(∀σ' H',N σ' H'->∃m',m'<m/\W (i+1) m' σ' H')/\∀x H',J.yld i H x H'->tg x σ H' λσ2 H2=>tb {D with nx:=N,ct:=N,bk:=D.nx} σ2 H2):=by
 refine⟨λi m σ H=>m=ps.length-i/\i<=ps.length/\∃own ρ,R K κ G A bo own ρ σ H/\forL gt gb (ps.drop i) ρ=some fl,⟨ps.length,by simp,Nat.zero_le _,own,ρ,r,by simpa using e⟩,?_⟩
 rintro i m σ H ⟨rfl,hi,own,ρ,r,e⟩
 obtain⟨h1,h2⟩:=hI i H r.same
 by_cases fF:i<ps.length
 ·rw[List.drop_eq_getElem_cons fF]at e
  obtain⟨ρ1,f,e1,e3,e4⟩:=Bu e
  obtain⟨h3,h4⟩:=h1 ps[i] (List.getElem?_eq_getElem fF)
  refine .inr ⟨h3,λσ' H'=>i+1<=ps.length/\∃own ρ,R K κ G A bo own ρ σ' H'/\forL gt gb (ps.drop (i+1)) ρ=some fl,λσ' H' ⟨q0,q⟩=>⟨ps.length-(i+1),by omega,rfl,q0,q⟩,λx H' y=>?_⟩
  obtain⟨s,q⟩:=h4 x H' y
  have r1:=r.mono s
  refine hg r1 (q (cP A own ρ) (λb hb=>r.yj hb) r.Ha) e1 λdH σ' r2 _=>?_
  refine hb r2 e3 ?_
  cases f with
  |nx ρ'=>exact λuC σ2 H2 r3=>⟨fF,uC,ρ',r3,e4⟩
  |ct ρ'=>exact λuC σ2 H2 r3=>⟨fF,uC,ρ',r3,e4⟩
  |bk ρ'=>cases e4;exact k
  |rt p=>cases e4;exact k
 ·have hn:ps.drop i=[]:=List.drop_eq_nil_of_le (by omega)
  rw[hn]at e
  cases e
  exact .inl ⟨h2 (by omega),k own σ H r⟩
theorem DX.small{G G':Hp}{A:Addr->Prop}{bo:Nat->Option (Addr×List V)}{D:Ends}{fl:Fl}(k:DX K κ fr G A bo D fl)(s:aH G G')(al:∀b,A b->G b≠none)(bg:∀i a vs,bo i=some (a,vs)->G a=some (.lst vs)):DX K κ fr G' A bo D fl:=by
 cases fl with
 |nx ρ'=>exact λdH σ' H' r=>k dH σ' H' (r.small s al bg)
 |bk ρ'=>exact λdH σ' H' r=>k dH σ' H' (r.small s al bg)
 |ct ρ'=>exact λdH σ' H' r=>k dH σ' H' (r.small s al bg)
 |rt p=>
  intro v H' s' q
  refine k v H' (s.trans s') ?_
  unfold RR at q⊢
  split
  ·rename_i h
   rw[if_pos h]at q
   exact OF q s λb z=>z
  ·rename_i h
   rw[if_neg h]at q
   exact q
end
section
variable{X:Cx}{κ:Kl}{fr:Bool}{g:aP}{e a b c tg iter:Expr}{f fa fb:Den}{ft:cN}{pos:Pos}{fi:cu}{gt gu:xC}{body:List Stmt}
theorem gR(hi:DI X κ tg iter fi)(hg:DG X κ tg gt)(hb:zV X κ fr body g)(hp:PassesOwn (model X.prog X.w) X.A X.env X.xe:=by exact PassesOwn.never)(hc:X.calm=true:=by rfl)(hs:∀x,foldedSetIterable iter X.env x=pure x:=by intro _;rfl):DS X κ fr (.For tg iter body [] pos) (hU fi gt g):=by
 obtain⟨wi,h1,h2⟩:=hi
 obtain⟨tt,h3,h4⟩:=hg
 obtain⟨tb,h5,h6⟩:=hb
 refine⟨_,xK hp hc h1 h3 h5 hs,λ{G A bo own ρ σ H fl D} r e k=>?_⟩
 obtain⟨ps,e1,e2⟩:=Option.bind_eq_some_iff.mp e
 refine h2 r e1 λJ H' s hI=>?_
 have r1:=r.mono s
 exact Bv hI h4 h6 r1.big e2 (k.small r1.gv r1.al r1.bg)
theorem DY(n:Nat)(hc:DT X κ c ft)(hb:zV X κ fr body g)(hp:PassesOwn (model X.prog X.w) X.A X.env X.xe:=by exact PassesOwn.never):DS X κ fr (.While c body [] pos) (fK ft g n):=by
 obtain⟨tc,h1,h2⟩:=hc
 obtain⟨tb,h3,h4⟩:=hb
 refine⟨_,vz hp h1 h3,λ{G A bo own ρ σ H fl D} r e k=>?_⟩
 refine⟨λm σ H=>∃own ρ,R X.K κ G A bo own ρ σ H/\fK ft g m ρ=some fl,⟨n,own,ρ,r,e⟩,?_⟩
 rintro m σ H ⟨own,ρ,r,e⟩
 cases m with
 |zero=>cases e
 |succ m=>
  unfold fK at e
  obtain⟨c,e1,e2⟩:=Option.bind_eq_some_iff.mp e
  refine h2 r e1 λH1 s1=>?_
  cases c with
  |false=>
   cases e2
   exact k own σ H1 (r.mono s1)
  |true=>
   obtain⟨f,e3,e4⟩:=Option.bind_eq_some_iff.mp e2
   refine⟨λσ' H'=>∃own ρ,R X.K κ G A bo own ρ σ' H'/\fK ft g m ρ=some fl,λσ' H' q=>⟨m,Nat.lt_succ_self m,q⟩,?_⟩
   refine h4 (r.mono s1) e3 ?_
   cases f with
   |nx ρ'=>exact λuC σ2 H2 r3=>⟨uC,ρ',r3,e4⟩
   |ct ρ'=>exact λuC σ2 H2 r3=>⟨uC,ρ',r3,e4⟩
   |bk ρ'=>cases e4;exact k
   |rt p=>cases e4;exact k
end
noncomputable def Hf(K:PySem.W.Frag)(κ:Kl)(f:Den):TE:=λσ H Q=>∃G A bo own ρ p,R K κ G A bo own ρ σ H/\f ρ=some p/\∀v H',aH H H'->Rep K κ (d5 A own ρ H') v p->Q v H'
noncomputable def Md(K:PySem.W.Frag)(κ:Kl)(f:cN):TT:=λσ H Q=>∃G A bo own ρ b,R K κ G A bo own ρ σ H/\f ρ=some b/\∀H',aH H H'->Q b H'
theorem DE.pe{X:Cx}{κ:Kl}{e:Expr}{f:Den}(h:DE X κ e f):PE X e (Hf X.K κ f):=λpins s σ H Q I ⟨_,_,_,_,_,_,r,e,q⟩=>let⟨_,h1,h2⟩:=h;h1 pins s σ H Q I (h2 r e q)
theorem DT.pt{X:Cx}{κ:Kl}{e:Expr}{f:cN}(h:DT X κ e f):PT X e (Md X.K κ f):=λpins s σ H Q I ⟨_,_,_,_,_,_,r,e,q⟩=>let⟨_,h1,h2⟩:=h;h1 pins s σ H Q I (h2 r e q)
noncomputable def Qg{α:Type}(f:Nat->α)(d:α):Nat->α
 |0=>d
 |i+1=>f i
section
variable{K:PySem.W.Frag}{κ:Kl}{G H:Hp}{A:Addr->Prop}{bo:Nat->Option (Addr×List V)}{own:Nat->Addr}{ρ:cg}{σ:St}{v:V}{p:PV}
theorem gw:cP A (Qg own 0) (.sh p::ρ)=cP A own ρ:=by
 funext b
 refine propext ⟨λz=>?_,λz=>?_⟩
 ·rcases z with z|⟨j,m,z1,z2⟩
  ·exact .inl z
  ·cases j with
   |zero=>simp at z1
   |succ j=>exact .inr ⟨j,m,by simpa using z1,z2⟩
 ·rcases z with z|⟨j,m,z1,z2⟩
  ·exact .inl z
  ·exact .inr ⟨j+1,m,by simpa using z1,z2⟩
theorem R.cons(r:R K κ G A bo own ρ σ H)(z:Rep K κ (d5 A own ρ H) v p):R K κ G A (Qg bo none) (Qg own 0) (.sh p::ρ) (some v::σ) H where
 al:=r.al
 bg:=λi a vs e=>by
  cases i with
  |zero=>cases e
  |succ i=>exact r.bg i a vs e
 same:=r.same
 sh:=λi q e=>by
  rw[d5,gw]
  cases i with
  |zero=>
   simp at e
   subst e
   exact⟨v,rfl,z⟩
  |succ i=>exact r.sh i q (by simpa using e)
 ow:=λi l e=>by
  rw[d5,gw]
  cases i with
  |zero=>simp at e
  |succ i=>exact r.ow i l (by simpa using e)
 inj:=λi j l m e f q=>by
  cases i with
  |zero=>simp at e
  |succ i=>
   cases j with
   |zero=>simp at f
   |succ j=>rw[r.inj i j l m (by simpa using e) (by simpa using f) q]
 bw:=λi l e=>by
  rw[d5,gw]
  cases i with
  |zero=>simp at e
  |succ i=>exact r.bw i l (by simpa using e)
 len:=by rw[List.length_cons,List.length_cons,r.len]
theorem mX{wi:TI}{fi:cu}{c:cN}{e:Den}(hi:∀{G A bo own ρ σ H ps Q},R K κ G A bo own ρ σ H->fi ρ=some ps->(∀J H',aH H H'->uA K κ H' (cP A own ρ) J ps->Q J H')->wi σ H Q):
  Qa K κ (Dt wi (Md K κ c) (Hf K κ e)) (aT fi c e):=λ{G A bo own ρ σ H p Q} r e0 q=>by
 obtain⟨ps,e1,e2⟩:=Option.bind_eq_some_iff.mp e0
 have h0:ps.length<=sizeLine/\(eW c e ρ ps).map PV.lst=some p:=by
  split at e2
  ·exact⟨by assumption,e2⟩
  ·cases e2
 obtain⟨zs,e3,rfl⟩:=Option.map_eq_some_iff.mp h0.2
 refine hi r e1 λJ H1 s1 hI=>?_
 refine⟨λi m acc H2=>m=ps.length-i/\i<=ps.length/\aH H1 H2/\acc.length<=i/\∃out rest,aQ K κ (d5 A own ρ H2) acc out/\eW c e ρ (ps.drop i)=some rest/\out++rest=zs,
  ⟨ps.length,by simp,Nat.zero_le _,aH.refl _,Nat.zero_le _,[],zs,.nil,by simpa using e3,rfl⟩,?_⟩
 rintro i m acc H2 ⟨rfl,Nt,s2,ha,out,rest,q1,q2,q3⟩
 obtain⟨h1,h2⟩:=hI i H2 s2
 have yn:=s1.trans s2
 have r2:=r.mono yn
 by_cases fF:i<ps.length
 ·rw[List.drop_eq_getElem_cons fF]at q2
  obtain⟨h3,h4⟩:=h1 ps[i] (List.getElem?_eq_getElem fF)
  refine .inr ⟨h3,by omega,λy H3 hy=>?_⟩
  obtain⟨s3,q4⟩:=h4 y H3 hy
  have rep:=q4 (cP A own ρ) (λb hb=>r2.yj hb) (aM s2)
  have r3:=(r2.mono s3).cons rep
  unfold eW at q2
  obtain⟨b,e4,e5⟩:=Option.bind_eq_some_iff.mp q2
  refine⟨_,_,_,_,_,_,r3,e4,λH4 s4=>?_⟩
  have r4:=r3.mono s4
  cases b with
  |true=>
   dsimp only
   rw[if_pos rfl]at e5⊢
   obtain⟨z,e6,e7⟩:=Option.bind_eq_some_iff.mp e5
   obtain⟨ws,e8,rfl⟩:=Option.map_eq_some_iff.mp e7
   refine⟨_,_,_,_,_,_,r4,e6,λv H5 s5 q5=>?_⟩
   rw[d5,gw]at q5
   refine⟨ps.length-(i+1),by omega,rfl,fF,((s2.trans s3).trans s4).trans s5,by simp;omega,out++[z],ws,?_,e8,by rw[<-q3];simp⟩
   exact(q1.mono (aM ((s3.trans s4).trans s5))).append (.cons q5 .nil)
  |false=>
   dsimp only
   rw[if_neg Bool.false_ne_true]at e5⊢
   exact⟨ps.length-(i+1),by omega,rfl,fF,(s2.trans s3).trans s4,by omega,out,rest,q1.mono (aM (s3.trans s4)),e5,q3⟩
 ·have hn:ps.drop i=[]:=List.drop_eq_nil_of_le (by omega)
  rw[hn]at q2
  cases q2
  rw[List.append_nil]at q3
  subst q3
  refine .inl ⟨h2 (by omega),λp hp=>q _ _ (yn.trans (bN hp)) ?_⟩
  obtain⟨a,ws,l,w1,w2,w3,w4⟩:=r2.v3 hp q1
  refine⟨a,ws,l,w1,w2,?_,w4⟩
  cases w1
  exact yn.free hp
end
section
variable{X:Cx}{κ:Kl}{fr:Bool}{sc:Scope}{x:Str}{px pos:Pos}{elt iter c:Expr}{fi:cu}{ft:cN}{f:Den}
theorem c5(hi:F9 X κ (.Name x px) iter fi)(kf:Scope)(N0 ys:List Str)(he:∀ex C s H,DE (X.nI sc x ys ex C s H) κ elt f)(qj:X.env.scope=kf:=by rfl)(DZ:X.N=N0:=by rfl)(ue:kg kf N0 sc x ys=true:=by decide+kernel)(hc:X.calm=true:=by rfl)
  (hs:∀x,foldedSetIterable iter X.env x=pure x:=by intro _;rfl):DO X κ (.ListComp elt [⟨.Name x px,iter,[],0⟩] sc pos) (aT fi bt f):=by
 obtain⟨wi,h1,h2⟩:=hi
 refine⟨_,zI h1 ys (tt:=Md X.K κ bt) (te:=Hf X.K κ f) (λex C s H=>?_) (λex C s H=>(he ex C s H).pe) (by rw[qj,DZ];exact ue) hc hs,mX h2⟩
 intro pins s σ H Q I ⟨_,_,_,_,_,_,r,e,q⟩
 cases e
 exact vO pins s σ H Q I (q _ (aH.refl _))
theorem gz(hi:F9 X κ (.Name x px) iter fi)(kf:Scope)(N0 ys:List Str)(ht:∀ex C s H,DT (X.nI sc x ys ex C s H) κ c ft)(he:∀ex C s H,DE (X.nI sc x ys ex C s H) κ elt f)(qj:X.env.scope=kf:=by rfl)(DZ:X.N=N0:=by rfl)(ue:kg kf N0 sc x ys=true:=by decide+kernel)(hc:X.calm=true:=by rfl)
  (hs:∀x,foldedSetIterable iter X.env x=pure x:=by intro _;rfl):DO X κ (.ListComp elt [⟨.Name x px,iter,[c],0⟩] sc pos) (aT fi ft f):=by
 obtain⟨wi,h1,h2⟩:=hi
 exact⟨_,zI h1 ys (tt:=Md X.K κ ft) (te:=Hf X.K κ f) (λex C s H=>vP (ht ex C s H).pt) (λex C s H=>(he ex C s H).pe) (by rw[qj,DZ];exact ue) hc hs,mX h2⟩
theorem Bw(i:Nat){y:Str}{py mQ:Pos}(hN:X.N.Nodup)(hi:F9 X κ (.Name x px) iter fi)(kf:Scope)(N0 ys:List Str)(ht:∀ex C s H,DT (X.nI sc x ys ex C s H) κ c ft)(he:∀ex C s H,DE (X.nI sc x ys ex C s H) κ elt f)(GR:X.N[i]?=some y:=by rfl)(hy:X.env.scope.names.lookup y=some .local:=by rfl)(qj:X.env.scope=kf:=by rfl)(DZ:X.N=N0:=by rfl)(ue:kg kf N0 sc x ys=true:=by decide+kernel)(hc:X.calm=true:=by rfl)
  (hs:∀x,foldedSetIterable iter X.env x=pure x:=by intro _;rfl)(GS:swapsWith (.ListComp elt [⟨.Name x px,iter,[c],0⟩] sc pos) (some (.Name y py)) mQ.line X.env=pure true:=by rfl):
  DS X κ fr (.Assign [.Name y py] (.ListComp elt [⟨.Name x px,iter,[c],0⟩] sc pos) mQ) (cA i (aT fi ft f)):=by
 obtain⟨wi,h1,h2⟩:=hi
 refine⟨_,zJ hN GR hy h1 ys (tt:=Md X.K κ ft) (te:=Hf X.K κ f) (λex C s H=>vP (ht ex C s H).pt) (λex C s H=>(he ex C s H).pe) (by rw[qj,DZ];exact ue) hc hs GS,λ{G A bo own ρ σ H fl D} r e k=>?_⟩
 obtain⟨p,e1,rfl⟩:=Option.map_eq_some_iff.mp e
 exact mX h2 r e1 λv H' s z=>k _ _ _ ((r.mono s).set (z.rep r))
end
noncomputable def uD(K:PySem.W.Frag)(κ:Kl)(fr:Bool)(F:List PV->Option PV):Sp:=λvs H Q _=>∃(A:Addr->Prop) (ps:List PV) (p:PV),(∀b,A b->H b≠none)/\aQ K κ (hide A H) vs ps/\F ps=some p/\∀v H',aH H H'->RR fr K κ A H H' v p->Q v H'
section
variable{X:Cx}{κ:Kl}{fr:Bool}{k:Nat}{f:Addr}{fd:FuncData}{ps:List Str}{F:List PV->Option PV}{x:Str}{p pos:Pos}{e:Expr}{es:List Expr}{fs:cu}
theorem cC(FO:cM X.prog X.w X.K X.mg X.base iK k f fd ps (uD X.K κ false F))(hr:ck k X.A)(hm:X.mg x=some (.ref f))(hk:PySem.W.keepIn X.K (.ref f)=true)(hb:Binds X.K fd ps [])(ha:DA X κ (e::es) fs)(hg:Gl X x:=by rfl)(tL:(x==("__debug__" :Str))=false:=by decide)
  (he:starEach (e::es) X.env=(false,eval e X.env)::starEach es X.env:=by rfl)(hpl:(backTo pos (starEach es X.env)).any (·.1)=false:=by rfl):DE X κ (.Call (.Name x p) (e::es) [] pos) (aG F fs):=by
 obtain⟨ta,h1,h2⟩:=ha
 refine⟨_,mM FO hr hg hm hk hb .nil kc h1 tL he hpl,λ{G A bo own ρ σ H p Q} r e q=>?_⟩
 obtain⟨xs,e1,e2⟩:=Option.bind_eq_some_iff.mp e
 refine h2 r e1 λvs H1 s1 z1=>?_
 rw[List.append_nil]
 exact⟨cP A own ρ,xs,p,λb hb=>(r.mono s1).yj hb,z1,e2,λv H' s z=>q v H' (s1.trans s) z⟩
theorem dA(FO:cM X.prog X.w X.K X.mg X.base iK k f fd ps (uD X.K κ true F))(hr:ck k X.A)(hm:X.mg x=some (.ref f))(hk:PySem.W.keepIn X.K (.ref f)=true)(hb:Binds X.K fd ps [])(ha:DA X κ (e::es) fs)(hg:Gl X x:=by rfl)(tL:(x==("__debug__" :Str))=false:=by decide)
  (he:starEach (e::es) X.env=(false,eval e X.env)::starEach es X.env:=by rfl)(hpl:(backTo pos (starEach es X.env)).any (·.1)=false:=by rfl):DO X κ (.Call (.Name x p) (e::es) [] pos) (aG F fs):=by
 obtain⟨ta,h1,h2⟩:=ha
 refine⟨_,mM FO hr hg hm hk hb .nil kc h1 tL he hpl,λ{G A bo own ρ σ H p Q} r e q=>?_⟩
 obtain⟨xs,e1,e2⟩:=Option.bind_eq_some_iff.mp e
 refine h2 r e1 λvs H1 s1 z1=>?_
 rw[List.append_nil]
 exact⟨cP A own ρ,xs,p,λb hb=>(r.mono s1).yj hb,z1,e2,λv H' s z=>q v H' (s1.trans s) (OF z s1 λb w=>w)⟩
theorem D0(FO:cM X.prog X.w X.K X.mg X.base iK k f fd ps (uD X.K κ false F))(hr:ck k X.A)(hm:X.mg x=some (.ref f))(hk:PySem.W.keepIn X.K (.ref f)=true)(hb:Binds X.K fd ps [])(ha:OE X κ (e::es) fs)(hg:Gl X x:=by rfl)(tL:(x==("__debug__" :Str))=false:=by decide)
  (he:starEach (e::es) X.env=(false,eval e X.env)::starEach es X.env:=by rfl)(hpl:(backTo pos (starEach es X.env)).any (·.1)=false:=by rfl):DE X κ (.Call (.Name x p) (e::es) [] pos) (ug F fs):=by
 obtain⟨ta,h1,h2⟩:=ha
 refine⟨_,mM FO hr hg hm hk hb .nil kc h1 tL he hpl,λ{G A bo own ρ σ H p Q} r e q=>?_⟩
 obtain⟨xs,e1,e2⟩:=Option.bind_eq_some_iff.mp e
 obtain⟨p',e3,e4⟩:=Option.bind_eq_some_iff.mp e2
 obtain⟨h3,rfl⟩:=bC e4
 refine h2 r e1 λvs H1 s1 z1=>?_
 rw[List.append_nil]
 have z2:aQ X.K κ (hide (λ_=>False) H1) vs xs:=(z1.full aB).mono λb o w=>by rw[bq (λz=>z)];exact w
 exact⟨λ_=>False,xs,p',λb hb=>hb.elim,z2,e3,λv H' s z=>q v H' (s1.trans s) (Rep.flat h3 z)⟩
end
section
variable{P:Program}{w:World}{K:PySem.W.Frag}{mg:Str->Option Value}{base:Heap}{κ:Kl}{fr:Bool}
theorem me{n:Nat}{ps:List PV}{i:Nat}{s:Slot}(h:(dZ n ps)[i]?=some s):(∃p,ps[i]?=some p/\s=.sh p)\/s=.un:=by
 unfold dZ at h
 rw[List.getElem?_append]at h
 split at h
 ·rw[List.getElem?_map]at h
  obtain⟨p,h1,h2⟩:=Option.map_eq_some_iff.mp h
  exact .inl ⟨p,h1,h2.symm⟩
 ·rw[List.getElem?_replicate]at h
  split at h
  ·exact .inr (Option.some.inj h).symm
  ·cases h
theorem R.entry{A:Addr->Prop}{H:Hp}{N:List Str}{vs:List V}{ps:List PV}(al:∀b,A b->H b≠none)(h:aQ K κ (hide A H) vs ps):R K κ H A (λ_=>none) (λ_=>0) (dZ N.length ps) (start N vs) H:=by
 have no:∀{i:Nat} {l:Cn},(dZ N.length ps)[i]?≠some (.own l):=λ{i l} e=>by
  rcases me e with⟨p,_,z⟩|z<;>cases z
 have he:cP A (λ_=>0) (dZ N.length ps)=A:=by
  funext b
  refine propext ⟨λz=>?_,.inl⟩
  rcases z with z|⟨j,m,z1,z2⟩
  ·exact z
  ·exact absurd z1 no
 refine⟨al,λi a vs e=>(by cases e),λ_ _ z=>z,λi p e=>?_,λi l e=>absurd e no,λi j l m e=>absurd e no,λi l e=>?_,?_⟩
 ·rcases me e with⟨p',h1,z⟩|z
  ·cases z
   obtain⟨v,h2,h3⟩:=h.get h1
   refine⟨v,?_,by rw[d5,he];exact h3⟩
   unfold start
   rw[List.getElem?_append_left (by rw[List.length_map];exact(List.getElem?_eq_some_iff.mp h2).1),List.getElem?_map,h2]
   rfl
  ·cases z
 ·rcases me e with⟨p,_,z⟩|z<;>cases z
 ·unfold start dZ
  simp[h.length]
theorem Hg{x qual:Str}{st:Stmt}{f:Addr}{fd:FuncData}{N ps:List Str}{k:Nat}{g:aP}(F:vD K x qual st f fd)(S:eI N ps (aj st))
  (hb:∀(eU:Value) (A:Around) (outer:List Env) (s:Shared) (H:Hp) (E:XK),ck k (A.deeper (envOfC qual (aj st) s.heap.objs.size f eU))->zV (lN iK P w K mg base N qual (aj st) f eU A outer s H E).zm κ fr (cz st) g):
  cM P w K mg base iK (k+1) f fd ps (uD K κ fr (fn fr N.length ps.length g)):=by
 refine F.ok S (λvs H Q E h=>?_) (λeU A outer s H vs Q E hr h=>?_)
 ·obtain⟨A,qs,p,_,h1,h2,_⟩:=h
  unfold fn at h2
  split at h2
  ·rw[h1.length]
   assumption
  ·cases h2
 ·obtain⟨A',qs,p,al,h1,h2,q⟩:=h
  obtain⟨ts,a1,a2⟩:=hb eU A outer s H E hr
  refine⟨ts,a1,?_⟩
  have h3:(g (dZ N.length qs)).bind (uj fr)=some p:=by
   unfold fn at h2
   split at h2
   ·exact h2
   ·cases h2
  obtain⟨fl,e1,e2⟩:=Option.bind_eq_some_iff.mp h3
  refine a2 (R.entry al h1) e1 ?_
  cases fl with
  |rt p'=>cases e2;exact q
  |nx ρ'=>
   cases fr with
   |true=>cases e2
   |false=>
    cases e2
    exact λdH σ' H' r'=>q _ _ r'.same .non
  |bk ρ'=>cases e2
  |ct ρ'=>cases e2
end
end L2.D
namespace L2.D
open PySem PySem.Spec PyProof.Rows PySem.SeqAt
open Classical
section
variable{X:Cx}{pins:List (Addr×Obj)}{σ:St}{H:Hp}{s:Shared}{κ:Kl}
theorem kB{f:PV->PV->Option Bool}:∀{l m:List PV} {es:List Bool},l8 f l m=some es->l.length=m.length->es.length=l.length
 |[],[],_,h,_=>by cases h;rfl
 |a::l,b::m,es,h,e=>by
  unfold l8 at h
  obtain⟨c,h1,h2⟩:=Option.bind_eq_some_iff.mp h
  obtain⟨cs,h3,rfl⟩:=Option.map_eq_some_iff.mp h2
  simp[kB h3 (by simpa using e)]
theorem mY{f:PV->PV->Option Bool}:∀{l m:List PV} {es:List Bool} {j:Nat} {p q:PV},l8 f l m=some es->l[j]?=some p->m[j]?=some q->∃e,es[j]?=some e/\f p q=some e
 |[],_,_,_,_,_,_,hp,_=>by simp at hp
 |_::_,[],_,_,_,_,_,_,hq=>by simp at hq
 |a::l,b::m,es,0,p,q,h,hp,hq=>by
  unfold l8 at h
  obtain⟨c,h1,h2⟩:=Option.bind_eq_some_iff.mp h
  obtain⟨cs,h3,rfl⟩:=Option.map_eq_some_iff.mp h2
  simp at hp hq
  subst hp hq
  exact⟨c,rfl,h1⟩
 |a::l,b::m,es,j+1,p,q,h,hp,hq=>by
  unfold l8 at h
  obtain⟨c,h1,h2⟩:=Option.bind_eq_some_iff.mp h
  obtain⟨cs,h3,rfl⟩:=Option.map_eq_some_iff.mp h2
  obtain⟨e,h4,h5⟩:=mY (j:=j) h3 (by simpa using hp) (by simpa using hq)
  exact⟨e,by simpa using h4,h5⟩
theorem D1:∀(n:Nat) (p:PV) (b:Bool),jl n p p=some b->b=true:=by
 intro n
 induction n with
 |zero=>
  intro p b h
  unfold jl at h
  cases p<;>simp[flat,DD]at h<;>exact h
 |succ n ih=>
  have key:∀(l:List PV) (es:List Bool),l8 (jl n) l l=some es->es.all id=true:=by
   intro l
   induction l with
   |nil=>intro es h;cases h;rfl
   |cons a l SR=>
    intro es h
    unfold l8 at h
    obtain⟨c,h1,h2⟩:=Option.bind_eq_some_iff.mp h
    obtain⟨cs,h3,rfl⟩:=Option.map_eq_some_iff.mp h2
    simp[ih _ _ h1,SR _ h3]
  intro p b h
  cases p with
  |lst l=>
   unfold jl CM at h
   rw[if_pos rfl]at h
   obtain⟨es,h1,rfl⟩:=Option.map_eq_some_iff.mp h
   exact key l es h1
  |tup l=>
   unfold jl CM at h
   rw[if_pos rfl,if_pos rfl]at h
   obtain⟨es,h1,rfl⟩:=Option.map_eq_some_iff.mp h
   exact key l es h1
  |_=>simp[jl,flat,DD]at h<;>exact h
theorem v9(I:Inv X pins σ H s){a:Addr}{xs ys:List V}(h:gc X.K H a xs)(h':lM X.K H a ys):False:=by
 obtain⟨_,_,p1,_⟩:=I.list h
 obtain⟨_,_,p2,_⟩:=I.tuple h'
 obtain⟨o,e1,c1,_⟩:=p1.isList
 obtain⟨o2,e2,c2,_⟩:=p2
 rw[e1]at e2
 cases e2
 rw[c1]at c2
 injection c2 with z
 exact absurd z (by decide)
mutual
theorem Rep.inj(I:Inv X pins σ H s):∀{v:V} {p q:PV},Rep X.K κ H v p->Rep X.K κ H v q->(∀n b,jl n p q=some b->p=q)
 |_,_,_,.non,.non=>λ_ _ _=>rfl
 |_,_,_,.bl _,.bl _=>λ_ _ _=>rfl
 |_,_,_,.int _,.int _=>λ_ _ _=>rfl
 |_,_,_,.str _,.str _=>λ_ _ _=>rfl
 |_,_,_,.lst h r,q=>λn b e=>by
  cases q with
  |lst h' r'=>
   have:=I.je h.sq h'.sq
   subst this
   cases n with
   |zero=>simp[jl,flat]at e
   |succ n=>
    unfold jl CM at e
    split at e
    ·obtain⟨es,e1,_⟩:=Option.map_eq_some_iff.mp e
     rw[aQ.inj I r r' n es e1]
    ·rename_i hl
     exact absurd (r.length.symm.trans r'.length) hl
  |tup h' _=>exact(v9 I h.sq h').elim
  |ins _ _ _=>cases n<;>simp[jl,flat]at e
 |_,_,_,.tup h r,q=>λn b e=>by
  cases q with
  |lst h' _=>exact(v9 I h'.sq h).elim
  |tup h' r'=>
   have:=I.A2 h h'
   subst this
   cases n with
   |zero=>simp[jl,flat]at e
   |succ n=>
    unfold jl CM at e
    have hl:=r.length.symm.trans r'.length
    rw[if_pos hl,if_pos hl]at e
    obtain⟨es,e1,_⟩:=Option.map_eq_some_iff.mp e
    rw[aQ.inj I r r' n es e1]
  |ins _ _ _=>cases n<;>simp[jl,flat]at e
 |_,_,_,.ins _ _ _,q=>λn b e=>by
  cases n<;>cases q<;>simp[jl,flat]at e
theorem aQ.inj(I:Inv X pins σ H s):∀{vs:List V} {l m:List PV},aQ X.K κ H vs l->aQ X.K κ H vs m->∀n es,l8 (jl n) l m=some es->l=m
 |_,_,_,.nil,.nil=>λ_ _ _=>rfl
 |_,_,_,.cons r t,.cons r' t'=>λn es e=>by
  unfold l8 at e
  obtain⟨c,h1,h2⟩:=Option.bind_eq_some_iff.mp e
  obtain⟨cs,h3,rfl⟩:=Option.map_eq_some_iff.mp h2
  rw[Rep.inj I r r' n c h1,aQ.inj I t t' n cs h3]
end
theorem mZ{es:List Bool}{n:Nat}(h:es.length=n):((List.range n).all λj=>es.getD j false)=es.all id:=by
 subst h
 exact range_all es
theorem wa{A:Around}{a b:Addr}{xs ys:List V}(I:Inv X pins σ H s)(ha:lM X.K H a xs)(hb:lM X.K H b ys)(hl:xs.length=ys.length)(hu:A.units<cLine)(q:Nat->Bool)
  (hq:∀(j:Nat) x y u v,xs[j]?=some x->ys[j]?=some y->RelV x u->RelV y v->EqAt A.in1 s u v (q j)):RcAt A s (.ref a) (.ref b) ((List.range xs.length).all q):=by
 obtain⟨its,r1,p1,z1⟩:=I.tuple ha
 obtain⟨lO,r2,p2,z2⟩:=I.tuple hb
 have l1:=r1.length
 have l2:=r2.length
 have:=RcAt.tuples (A:=A) (s:=s) (e:=q) (l:=a) (b:=b) p1 p2 hu λj h1 h2=>?_
 ·rw[List.size_toArray,List.size_toArray,<-l1,<-l2,<-hl,Nat.min_self,beq_self_eq_true,Bool.and_true]at this
  exact this
 ·rw[List.size_toArray]at h1 h2
  obtain⟨x,hx⟩:∃x,xs[j]?=some x:=⟨xs[j],List.getElem?_eq_getElem (by omega)⟩
  obtain⟨y,hy⟩:∃y,ys[j]?=some y:=⟨ys[j],List.getElem?_eq_getElem (by omega)⟩
  obtain⟨u,e1,ru⟩:=r1.get hx
  obtain⟨v,e2,rv⟩:=r2.get hy
  have f1:its.toArray[j]=u:=by
   have:=(List.getElem?_eq_some_iff.mp e1).2
   simpa using this
  have f2:lO.toArray[j]=v:=by
   have:=(List.getElem?_eq_some_iff.mp e2).2
   simpa using this
  rw[f1,f2]
  exact hq j x y u v hx hy ru rv
theorem z7{A:Around}{v w:V}{u u':Value}{p q:PV}(f:(flat p&&flat q)=true)(r1:Rep X.K κ H v p)(r2:Rep X.K κ H w q)(e1:RelV v u)(e2:RelV w u'):EqAt A s u u' (DD p q):=by
 rw[Bool.and_eq_true]at f
 have hv:ip v=true:=by cases r1<;>simp_all[flat,ip]
 have hw:ip w=true:=by cases r2<;>simp_all[flat,ip]
 have:DD p q=CJ v w:=by cases r1<;>cases r2<;>simp_all[flat,DD,CJ]
 rw[this]
 exact Dd e1 e2 hv hw
theorem wb(I:Inv X pins σ H s):∀(n:Nat) {p q:PV} {v w:V} {u u':Value} {A:Around} {b:Bool},A.units+n<cLine->Rep X.K κ H v p->Rep X.K κ H w q->RelV v u->RelV w u'->jl n p q=some b->EqAt A s u u' b:=by
 intro n
 induction n with
 |zero=>
  intro p q v w u u' A b hu r1 r2 e1 e2 h
  unfold jl at h
  obtain⟨h1,rfl⟩:=bC h
  exact z7 h1 r1 r2 e1 e2
 |succ n ih=>
  intro p q v w u u' A b hu r1 r2 e1 e2 h
  have Je:A.in1.units+n<cLine:=by
   have:A.in1.units=A.units+1:=rfl
   omega
  by_cases hf:(flat p&&flat q)=true
  ·have:jl (n+1) p q=some (DD p q):=by
     cases p<;>cases q<;>simp_all[jl,flat]
   rw[this]at h
   cases h
   exact z7 hf r1 r2 e1 e2
  ·by_cases hvw:v=w
   ·subst hvw
    have SS:=Rep.inj I r1 r2 _ _ h
    subst SS
    have hb:=D1 _ _ _ h
    subst hb
    cases r1 with
    |lst _ _=>cases e1;cases e2;exact EqAt.same _
    |tup _ _=>cases e1;cases e2;exact EqAt.same _
    |ins _ _ _=>cases e1;cases e2;exact EqAt.same _
    |_=>simp[flat]at hf
   ·have hr:∀{xs ys:List V} {l m:List PV} {es:List Bool},aQ X.K κ H xs l->aQ X.K κ H ys m->l8 (jl n) l m=some es->∀(j:Nat) x y u v,xs[j]?=some x->ys[j]?=some y->RelV x u->RelV y v->EqAt A.in1 s u v (es.getD j false):=by
      intro xs ys l m es w1 w2 he j x y u v hx hy ru rv
      obtain⟨p1,g1,g2⟩:=w1.yh hx
      obtain⟨p2,g3,g4⟩:=w2.yh hy
      obtain⟨e,g5,g6⟩:=mY he g1 g3
      rw[List.getD_eq_getElem?_getD,g5]
      exact ih Je g2 g4 ru rv g6
    cases r1 with
    |@lst a vs l h1 w1=>
     cases q with
     |lst m=>
      cases r2 with
      |@lst b' Qh _ h2 w2=>
       cases e1
       cases e2
       refine EqAt.of_refs (λz=>hvw (by rw[z])) ?_
       unfold jl CM at h
       split at h
       ·rename_i hl
        obtain⟨es,g1,rfl⟩:=Option.map_eq_some_iff.mp h
        have g2:=kB g1 hl
        have:=pU I h1.sq h2.sq (A:=A) (by omega) (λj=>es.getD j false) (hr w1 w2 g1)
        rw[decide_eq_true (by rw[w1.length,w2.length];exact hl),Bool.true_and,mZ (by rw[w1.length];exact g2)]at this
        exact this
       ·rename_i hl
        cases h
        obtain⟨its,k1,p1,z1⟩:=I.list h1.sq
        obtain⟨lO,k2,p2,z2⟩:=I.list h2.sq
        have l1:=k1.length
        have l2:=k2.length
        have l3:=w1.length
        have l4:=w2.length
        exact RcAt.lists_lengths p1.isList p2.isList (by rw[List.size_toArray,List.size_toArray];simp;omega) (by omega)
     |_=>cases r2<;>simp[jl,flat]at h
    |@tup a vs l h1 w1=>
     cases q with
     |tup m=>
      cases r2 with
      |@tup b' Qh _ h2 w2=>
       cases e1
       cases e2
       refine EqAt.of_refs (λz=>hvw (by rw[z])) ?_
       unfold jl CM at h
       split at h
       ·rename_i hl
        try rw[if_pos hl]at h
        obtain⟨es,g1,rfl⟩:=Option.map_eq_some_iff.mp h
        have g2:=kB g1 hl
        have:=wa I h1 h2 (A:=A) (by rw[w1.length,w2.length];exact hl) (by omega) (λj=>es.getD j false) (hr w1 w2 g1)
        rw[mZ (by rw[w1.length];exact g2)]at this
        exact this
       ·cases h
     |_=>cases r2<;>simp[jl,flat]at h
    |ins _ _ _=>cases q<;>simp[jl,flat]at h
    |_=>cases r2<;>simp[jl,flat]at h hf
end
end L2.D
namespace L2.D
open PySem PySem.Spec PyProof.Rows PySem.SeqAt
open Classical
section
variable{X:Cx}{κ:Kl}{fr:Bool}{e a b c:Expr}{f fa fb fc:Den}{p pos:Pos}
noncomputable def Qi(K:PySem.W.Frag)(κ:Kl)(neg:Bool):R2:=λx y H Q=>∃p q b,Rep K κ H x p/\Rep K κ H y q/\eqT p q=some b/\Q (.bl (if neg then !b else b)) H
theorem wc{pins:List (Addr×Obj)}{σ:St}{H:Hp}{s:Shared}{A:Around}{a b:Addr}{vs ws:List V}{l m:List PV}{r:Bool}(I:Inv X pins σ H s)(hu:A.units+20<cLine)(h1:SL X.K H a vs)(w1:aQ X.K κ H vs l)(h2:SL X.K H b ws)(w2:aQ X.K κ H ws m)
  (h:jl 20 (.lst l) (.lst m)=some r):RcAt A s (.ref a) (.ref b) r/\RcNeAt A s (.ref a) (.ref b) (!r):=by
 unfold jl CM at h
 have Je:A.in1.units+19<cLine:=by
  have:A.in1.units=A.units+1:=rfl
  omega
 split at h
 ·rename_i hl
  obtain⟨es,g1,rfl⟩:=Option.map_eq_some_iff.mp h
  have g2:=kB g1 hl
  have hr:∀(j:Nat) x y u v,vs[j]?=some x->ws[j]?=some y->RelV x u->RelV y v->EqAt A.in1 s u v (es.getD j false):=by
   intro j x y u v hx hy ru rv
   obtain⟨p1,k1,k2⟩:=w1.yh hx
   obtain⟨p2,k3,k4⟩:=w2.yh hy
   obtain⟨e,k5,k6⟩:=mY g1 k1 k3
   rw[List.getD_eq_getElem?_getD,k5]
   exact wb I 19 Je k2 k4 ru rv k6
  have z1:=pU I h1.sq h2.sq (A:=A) (by omega) (λj=>es.getD j false) hr
  have z2:=yc I h1.sq h2.sq (A:=A) (by omega) (λj=>es.getD j false) hr
  rw[decide_eq_true (by rw[w1.length,w2.length];exact hl),Bool.true_and,mZ (by rw[w1.length];exact g2)]at z1 z2
  exact⟨z1,z2⟩
 ·rename_i hl
  cases h
  obtain⟨its,k1,p1,z1⟩:=I.list h1.sq
  obtain⟨lO,k2,p2,z2⟩:=I.list h2.sq
  have l1:=k1.length
  have l2:=k2.length
  have l3:=w1.length
  have l4:=w2.length
  exact⟨RcAt.lists_lengths p1.isList p2.isList (by rw[List.size_toArray,List.size_toArray];simp;omega) (by omega),RcNeAt.lists_lengths p1.isList p2.isList (by rw[List.size_toArray,List.size_toArray];simp;omega) (by omega)⟩
theorem Hh{pins:List (Addr×Obj)}{σ:St}{H:Hp}{s:Shared}{A:Around}{a b:Addr}{vs ws:List V}{l m:List PV}{r:Bool}(I:Inv X pins σ H s)(hu:A.units+20<cLine)(h1:lM X.K H a vs)(w1:aQ X.K κ H vs l)(h2:lM X.K H b ws)(w2:aQ X.K κ H ws m)
  (h:jl 20 (.tup l) (.tup m)=some r):RcAt A s (.ref a) (.ref b) r:=by
 unfold jl CM at h
 have Je:A.in1.units+19<cLine:=by
  have:A.in1.units=A.units+1:=rfl
  omega
 split at h
 ·rename_i hl
  try rw[if_pos hl]at h
  obtain⟨es,g1,rfl⟩:=Option.map_eq_some_iff.mp h
  have g2:=kB g1 hl
  have hr:∀(j:Nat) x y u v,vs[j]?=some x->ws[j]?=some y->RelV x u->RelV y v->EqAt A.in1 s u v (es.getD j false):=by
   intro j x y u v hx hy ru rv
   obtain⟨p1,k1,k2⟩:=w1.yh hx
   obtain⟨p2,k3,k4⟩:=w2.yh hy
   obtain⟨e,k5,k6⟩:=mY g1 k1 k3
   rw[List.getD_eq_getElem?_getD,k5]
   exact wb I 19 Je k2 k4 ru rv k6
  have z1:=wa I h1 h2 (A:=A) (by rw[w1.length,w2.length];exact hl) (by omega) (λj=>es.getD j false) hr
  rw[mZ (by rw[w1.length];exact g2)]at z1
  exact z1
 ·cases h
theorem KZ(hu:X.A.units+20<cLine):j6 X (compareOp .Eq) (Qi X.K κ false):=by
 intro pins s σ H x y v u Q I rx ry h
 obtain⟨p,q,r,r1,r2,e,k⟩:=h
 cases p<;>cases q<;>first|cases e|skip
 all_goals first
  |(cases r1 with
   |lst h1 w1=>cases r2 with
    |lst h2 w2=>
     cases rx;cases ry
     exact(wc I hu h1 w1 h2 w2 e).1 _ _ _ _ ⟨.bl r,H,I,rfl,k⟩)
  |(cases r1 with
   |tup h1 w1=>cases r2 with
    |tup h2 w2=>
     cases rx;cases ry
     exact Hh I hu h1 w1 h2 w2 e _ _ _ _ ⟨.bl r,H,I,rfl,k⟩)
  |(cases r1;cases r2;exact MG pins s σ H _ _ v u Q I rx ry ⟨rfl,by simpa using k⟩)
theorem K5(hu:X.A.units+20<cLine):j6 X (compareOp .NotEq) (λx y H Q=>∃p q b,Rep X.K κ H x p/\Rep X.K κ H y q/\(∀l,p≠.tup l)/\eqT p q=some b/\Q (.bl (!b)) H):=by
 intro pins s σ H x y v u Q I rx ry h
 obtain⟨p,q,r,r1,r2,nt,e,k⟩:=h
 cases p<;>cases q<;>first|cases e|skip
 all_goals first
  |exact absurd rfl (nt _)
  |(cases r1 with
   |lst h1 w1=>cases r2 with
    |lst h2 w2=>
     cases rx;cases ry
     exact(wc I hu h1 w1 h2 w2 e).2 _ _ _ _ ⟨.bl (!r),H,I,rfl,k⟩)
  |(cases r1;cases r2;exact MI pins s σ H _ _ v u Q I rx ry ⟨rfl,by simpa using k⟩)
theorem Nu{A:Around}(h:A.units+64<cLine):A.units+20<cLine:=by omega
theorem gZ{k:Nat}(hr:ck k X.A)(ha:DB X κ a fa)(hb:DB X κ b fb):DC X κ .Eq a b (aa iu fa fb):=by
 obtain⟨ta,h1,h2⟩:=ha
 obtain⟨tb,h3,h4⟩:=hb
 refine⟨_,_,_,KZ (κ:=κ) (Nu hr.units),h1,h3,λ{G A bo own ρ σ H p Q} r e q=>?_⟩
 refine v5 h2 h4 r e λx y p1 p2 H' s r' b1 b2 e'=>?_
 obtain⟨b,e1,rfl⟩:=Option.map_eq_some_iff.mp e'
 exact⟨p1,p2,b,b1.full aB,b2.full aB,e1,q _ H' s (.bl _)⟩
theorem iS{k:Nat}(hr:ck k X.A)(ha:DB X κ a fa)(hb:DB X κ b fb):DC X κ .NotEq a b (aa dE fa fb):=by
 obtain⟨ta,h1,h2⟩:=ha
 obtain⟨tb,h3,h4⟩:=hb
 refine⟨_,_,_,K5 (κ:=κ) (Nu hr.units),h1,h3,λ{G A bo own ρ σ H p Q} r e q=>?_⟩
 refine v5 h2 h4 r e λx y p1 p2 H' s r' b1 b2 e'=>?_
 have nt:∀l,p1≠.tup l:=λl z=>by rw[z]at e';cases e'
 have e2:L9 p1 p2=some p:=by cases p1<;>first|exact e'|exact absurd rfl (nt _)
 obtain⟨b,e1,rfl⟩:=Option.map_eq_some_iff.mp e2
 exact⟨p1,p2,b,b1.full aB,b2.full aB,nt,e1,q _ H' s (.bl _)⟩
theorem z8{K:PySem.W.Frag}{hH H:Hp}{x:V}{p:PV}(h:BR K κ hH H x p):vV p=some (.bl (decide (x=.non))):=by
 rcases h with h|⟨a,vs,l,rfl,rfl,_⟩
 ·cases h<;>simp[vV]
 ·simp[vV]
theorem K7{j pos'}(ha:DB X κ a fa):DC X κ .Is a (.Constant .none j pos') (aZ vV fa):=by
 obtain⟨ta,h1,h2⟩:=ha
 refine⟨_,_,_,J3,h1,xG,λ{G A bo own ρ σ H p Q} r e q=>?_⟩
 obtain⟨p1,e1,e2⟩:=Option.bind_eq_some_iff.mp e
 refine h2 r e1 λx H1 s1 b1=>?_
 rw[z8 b1]at e2
 cases e2
 exact⟨rfl,q _ H1 s1 (.bl _)⟩
theorem Hi{j pos'}(ha:DB X κ a fa):DC X κ .IsNot a (.Constant .none j pos') (aZ vX fa):=by
 obtain⟨ta,h1,h2⟩:=ha
 refine⟨_,_,_,Gv,h1,xG,λ{G A bo own ρ σ H p Q} r e q=>?_⟩
 obtain⟨p1,e1,e2⟩:=Option.bind_eq_some_iff.mp e
 refine h2 r e1 λx H1 s1 b1=>?_
 unfold vX at e2
 rw[z8 b1]at e2
 cases e2
 exact⟨rfl,q _ H1 s1 (.bl _)⟩
theorem Jf{K:PySem.W.Frag}{H:Hp}:∀{vs:List V} {l:List PV},aQ K κ H vs l->l.all flat=true->vs.all ip=true
 |_,_,.nil,_=>rfl
 |_,_,.cons r t,h=>by
  rw[List.all_cons,Bool.and_eq_true]at h⊢
  refine⟨?_,Jf t h.2⟩
  cases r<;>simp_all[flat,ip]
theorem Nv{K:PySem.W.Frag}{H H':Hp}{v w:V}{p q:PV}(r1:Rep K κ H v p)(r2:Rep K κ H' w q)(f1:flat p=true)(f2:flat q=true):DD p q=CJ v w:=by
 cases r1<;>cases r2<;>simp_all[flat,DD,CJ]
theorem Jg{K:PySem.W.Frag}{H H':Hp}{v:V}{p:PV}(r:Rep K κ H v p)(f:flat p=true):∀{vs:List V} {l:List PV},aQ K κ H' vs l->l.all flat=true->zN p l=Oo v vs
 |_,_,.nil,_=>rfl
 |_,_,.cons r1 t,h=>by
  rw[List.all_cons,Bool.and_eq_true]at h
  have ih:=Jg r f t h.2
  unfold zN Oo at ih⊢
  rw[List.any_cons,List.any_cons,ih,Nv r1 r h.1 f]
theorem Hj{neg:Bool}{K:PySem.W.Frag}{hH H':Hp}{x y:V}{p1 p2 p:PV}{Q:VK}(b1:BR K κ hH H' x p1)(b2:BR K κ hH H' y p2)(s:aH hH H')(e:(if neg then kh p1 p2 else SM p1 p2)=some p)(q:∀b,p=.bl b->Q (.bl b) H'):Pn K neg x y H' Q:=by
 have go:∀(l:List PV) (vs:List V) (a:Addr),y=.ref a->(gc K H' a vs\/lM K H' a vs)->aQ K κ hH vs l->(if(flat p1&&l.all flat)=true then some (PV.bl (if neg then !zN p1 l else zN p1 l))else none)=some p->Pn K neg x y H' Q:=by
  intro l vs a hy hs w e
  obtain⟨h1,h2⟩:=bC e
  rw[Bool.and_eq_true]at h1
  have rx:=b1.full s
  refine⟨a,vs,hy,hs,?_,Jf w h1.2,?_⟩
  ·cases rx<;>simp_all[flat,ip]
  ·rw[Jg rx h1.1 w h1.2]at h2
   exact q _ h2.symm
 cases p2 with
 |lst l=>
  obtain⟨a,vs,rfl,q1,q2⟩:=b2.lst s
  exact go l vs a rfl (.inl q1.sq) q2 (by cases neg<;>exact e)
 |tup l=>
  obtain⟨a,vs,rfl,q1,q2⟩:=b2.tup s
  exact go l vs a rfl (.inr q1) q2 (by cases neg<;>exact e)
 |_=>cases neg<;>cases e
theorem wd(ha:DB X κ a fa)(hb:DB X κ b fb):DC X κ .NotIn a b (aa kh fa fb):=by
 obtain⟨ta,h1,h2⟩:=ha
 obtain⟨tb,h3,h4⟩:=hb
 refine⟨_,_,_,tQ,h1,h3,λ{G A bo own ρ σ H p Q} r e q=>?_⟩
 refine v5 h2 h4 r e λx y p1 p2 H' s r' b1 b2 e'=>?_
 exact Hj (neg:=true) b1 b2 aB e' λb z=>q _ H' s (by rw[z];exact .bl _)
theorem cY(ha:DB X κ a fa)(hm:X.mg "len" =none)(hg:Gl X "len" :=by rfl)(hs:starEach [a] X.env=(false,eval a X.env)::starEach [] X.env:=by rfl):DE X κ (.Call (.Name "len" p) [a] [] pos) (aZ bM fa):=by
 obtain⟨ta,h1,h2⟩:=ha
 refine⟨_,jh (tR.or tS) hg hm PySem.boot_len (bG h1 cq hs) (he:=hs),λ{G A bo own ρ σ H p Q} r e q=>?_⟩
 obtain⟨p1,e1,e2⟩:=Option.bind_eq_some_iff.mp e
 refine h2 r e1 λx H1 s1 b1=>?_
 cases p1<;>first|(cases e2;done)|skip
 ·obtain⟨z1,rfl⟩:=bC e2
  exact .inr ⟨_,by rw[b1.str],z1,q _ H1 s1 (.int _)⟩
 ·cases e2
  obtain⟨a,vs,rfl,q1,q2⟩:=b1.lst aB
  exact .inl ⟨a,vs,rfl,.inl q1.sq,q _ H1 s1 (by rw[q2.length];exact .int _)⟩
 ·cases e2
  obtain⟨a,vs,rfl,q1,q2⟩:=b1.tup aB
  exact .inl ⟨a,vs,rfl,.inr q1,q _ H1 s1 (by rw[q2.length];exact .int _)⟩
theorem Hk(ha:DB X κ a fa)(hm:X.mg "list" =none)(hg:Gl X "list" :=by rfl)(hs:starEach [a] X.env=(false,eval a X.env)::starEach [] X.env:=by rfl):DO X κ (.Call (.Name "list" p) [a] [] pos) (aZ DF fa):=by
 obtain⟨ta,h1,h2⟩:=ha
 refine⟨_,nW tT hg hm PyProof.Rows.boot_list (bG h1 cq hs) (he:=hs),λ{G A bo own ρ σ H p Q} r e q=>?_⟩
 obtain⟨p1,e1,e2⟩:=Option.bind_eq_some_iff.mp e
 refine h2 r e1 λx H1 s1 b1=>?_
 have fin:∀{vs l n},H1 n=none->aQ X.K κ (d5 A own ρ H1) vs l->p=.lst l->Q (.ref n) (upd H1 n (.lst vs)):=λ{vs l n} hn w z=>by
  subst z
  refine q _ _ (s1.trans (bN hn)) ?_
  obtain⟨a,ws,l,w1,w2,w3,w4⟩:=(r.mono s1).v3 hn w
  refine⟨a,ws,l,w1,w2,?_,w4⟩
  cases w1
  exact s1.free hn
 cases p1<;>first|(cases e2;done)|skip
 ·obtain⟨a,vs,rfl,q1,q2⟩:=b1.lst aB
  exact⟨a,vs,rfl,.inl q1.sq,λn hn=>fin hn q2 (Option.some.inj e2).symm⟩
 ·obtain⟨a,vs,rfl,q1,q2⟩:=b1.tup aB
  exact⟨a,vs,rfl,.inr q1,λn hn=>fin hn q2 (Option.some.inj e2).symm⟩
theorem uE{K:PySem.W.Frag}{H:Hp}:∀{vs:List V} {l:List PV} {bs:List Bool},aQ K κ H vs l->bools l=some bs->vs=bs.map V.bl
 |_,_,_,.nil,h=>by cases h;rfl
 |_,p::_,_,.cons r t,h=>by
  cases p<;>first|(cases h;done)|skip
  obtain⟨cs,h1,rfl⟩:=Option.map_eq_some_iff.mp h
  rw[List.map_cons,<-uE t h1,r.xB]
theorem K8(ha:DB X κ a fa)(hm:X.mg "any" =none)(hg:Gl X "any" :=by rfl)(hc:X.calm=true:=by rfl)(hs:starEach [a] X.env=(false,eval a X.env)::starEach [] X.env:=by rfl):DE X κ (.Call (.Name "any" p) [a] [] pos) (aZ GZ fa):=by
 obtain⟨ta,h1,h2⟩:=ha
 refine⟨_,jh (vT hc) hg hm PyProof.Rows.boot_any (bG h1 cq hs) (he:=hs),λ{G A bo own ρ σ H p Q} r e q=>?_⟩
 obtain⟨p1,e1,e2⟩:=Option.bind_eq_some_iff.mp e
 refine h2 r e1 λx H1 s1 b1=>?_
 cases p1<;>first|(cases e2;done)|skip
 obtain⟨bs,e3,rfl⟩:=Option.map_eq_some_iff.mp e2
 obtain⟨a,vs,rfl,q1,q2⟩:=b1.lst aB
 rw[uE q2 e3]at q1
 exact⟨a,bs,rfl,q1.sq,q _ H1 s1 (.bl _)⟩
theorem K9(ha:DB X κ a fa)(hm:X.mg "all" =none)(hg:Gl X "all" :=by rfl)(hc:X.calm=true:=by rfl)(hs:starEach [a] X.env=(false,eval a X.env)::starEach [] X.env:=by rfl):DE X κ (.Call (.Name "all" p) [a] [] pos) (aZ G0 fa):=by
 obtain⟨ta,h1,h2⟩:=ha
 refine⟨_,jh (vU hc) hg hm PyProof.Rows.boot_all (bG h1 cq hs) (he:=hs),λ{G A bo own ρ σ H p Q} r e q=>?_⟩
 obtain⟨p1,e1,e2⟩:=Option.bind_eq_some_iff.mp e
 refine h2 r e1 λx H1 s1 b1=>?_
 cases p1<;>first|(cases e2;done)|skip
 obtain⟨bs,e3,rfl⟩:=Option.map_eq_some_iff.mp e2
 obtain⟨a,vs,rfl,q1,q2⟩:=b1.lst aB
 rw[uE q2 e3]at q1
 exact⟨a,bs,rfl,q1.sq,q _ H1 s1 (.bl _)⟩
theorem Hl{apos df:Pos}(ha:DB X κ a fa)(fG:attributeBase a "bit_length" X.env (eval a X.env)=eval a X.env:=by rfl)(fH:(apos.endLine==df.line)=true:=by rfl):DE X κ (.Call (.Attribute a "bit_length" apos) [] [] df) (aZ DH fa):=by
 obtain⟨ta,h1,h2⟩:=ha
 refine⟨_,Dg PySem.F.plainAttrs_int PySem.F.slot_int_bit_length PySem.F.type_int_bit_length GV h1 fG fH,λ{G A bo own ρ σ H p Q} r e q=>?_⟩
 obtain⟨p1,e1,e2⟩:=Option.bind_eq_some_iff.mp e
 refine h2 r e1 λx H1 s1 b1=>?_
 cases p1<;>first|(cases e2;done)|skip
 cases e2
 have:=b1.int
 subst this
 exact⟨rfl,_,rfl,rfl,q _ H1 s1 (.int _)⟩
theorem aQ.at{K:PySem.W.Frag}{H:Hp}{vs:List V}{l:List PV}{i:Int}{p:PV}(h:aQ K κ H vs l)(e:itemAt l i=some p):∃v,IM vs i=some v/\Rep K κ H v p:=by
 obtain⟨j,e1,e2⟩:=Option.bind_eq_some_iff.mp e
 obtain⟨v,h1,h2⟩:=h.get e2
 refine⟨v,?_,h2⟩
 unfold IM
 rw[h.length]
 exact Option.bind_eq_some_iff.mpr ⟨j,e1,h1⟩
theorem bE(ha:DB X κ a fa)(hb:DB X κ b fb)(hs:tN b:=by intro _ _;rfl):DE X κ (.Subscript a b pos) (aa cn fa fb):=by
 obtain⟨ta,h1,h2⟩:=ha
 obtain⟨tb,h3,h4⟩:=hb
 refine⟨_,zx J8 h1 h3 hs,λ{G A bo own ρ σ H p Q} r e q=>?_⟩
 refine v5 h2 h4 r e λx y p1 p2 H' s r' b1 b2 e'=>?_
 (cases p1<;>first|(cases e';done)|skip)<;>cases p2<;>first|(cases e';done)|skip
 ·rename_i x' i'
  have e3:(if x'.length<=sizeLine then(itemAt x'.cps.toList i').map λc=>PV.str ⟨#[c]⟩else none)=some p:=e'
  have z1:x'.length<=sizeLine:=by
   by_cases z:x'.length<=sizeLine
   ·exact z
   ·rw[if_neg z]at e3
    cases e3
  have z2:((itemAt x'.cps.toList i').map λc=>PV.str ⟨#[c]⟩)=some p:=by
   rw[if_pos z1]at e3
   exact e3
  obtain⟨c,e2,rfl⟩:=Option.map_eq_some_iff.mp z2
  exact .inr (.inr ⟨_,_,c,b1.str,b2.int,z1,e2,q _ H' s (.str _)⟩)
 ·obtain⟨a,vs,rfl,q1,q2⟩:=b1.lst aB
  obtain⟨v,z1,z2⟩:=q2.at e'
  exact .inl ⟨a,vs,_,v,rfl,b2.int,q1.sq,z1,q _ H' s z2⟩
 ·obtain⟨a,vs,rfl,q1,q2⟩:=b1.tup aB
  obtain⟨v,z1,z2⟩:=q2.at e'
  exact .inr (.inl ⟨a,vs,_,v,rfl,b2.int,q1,z1,q _ H' s z2⟩)
noncomputable def DP(X:Cx)(κ:Kl)(e:Option Expr)(f:Bp):Prop:=∃to,PO X e to/\∀{G A bo own ρ σ H o Q},R X.K κ G A bo own ρ σ H->f ρ=some o->(∀H',aH H H'->Q o H')->to σ H Q
theorem uF:DP X κ none p8:=⟨_,GD,λ{G A bo own ρ σ H o Q} r e q=>by cases e;exact q H (aH.refl _)⟩
theorem uG(ha:DB X κ a fa):DP X κ (some a) (oH fa):=by
 obtain⟨ta,h1,h2⟩:=ha
 refine⟨_,GF h1,λ{G A bo own ρ σ H o Q} r e q=>?_⟩
 obtain⟨p,e1,e2⟩:=Option.bind_eq_some_iff.mp e
 obtain⟨i,e3,rfl⟩:=Option.map_eq_some_iff.mp e2
 refine h2 r e1 λx H1 s1 b1=>?_
 cases p<;>first|(cases e3;done)|skip
 cases e3
 exact⟨_,b1.int,q H1 s1⟩
theorem aQ.cut{K:PySem.W.Frag}{H:Hp}{vs:List V}{l:List PV}(h:aQ K κ H vs l)(lo hi:Option Int):aQ K κ H (A9 vs lo hi) (uh l lo hi):=by
 have e:∀n d o,HT.xA n d o=G1 n d o:=λn d o=>by cases o<;>rfl
 unfold A9 uh
 rw[h.length,e,e]
 exact(h.drop _).take _
theorem qk{p2:Pos}{lo hi:Option Expr}{fl fh:Bp}(ha:DB X κ a fa)(hl:DP X κ lo fl)(hh:DP X κ hi fh):DO X κ (.Subscript a (.Slice lo hi none p2) pos) (I9 fa fl fh):=by
 obtain⟨ta,h1,h2⟩:=ha
 obtain⟨tl,h3,h4⟩:=hl
 obtain⟨th,h5,h6⟩:=hh
 refine⟨_,Dc GH h1 h3 h5,λ{G A bo own ρ σ H p Q} r e q=>?_⟩
 obtain⟨p1,e1,e2⟩:=Option.bind_eq_some_iff.mp e
 obtain⟨o1,e3,e4⟩:=Option.bind_eq_some_iff.mp e2
 obtain⟨o2,e5,e6⟩:=Option.bind_eq_some_iff.mp e4
 refine h2 r e1 λx H1 s1 b1=>h4 (r.mono s1) e3 λH2 s2=>h6 ((r.mono s1).mono s2) e5 λH3 s3=>?_
 cases p1<;>first|(cases e6;done)|skip
 cases e6
 have Nw:=(s1.trans s2).trans s3
 obtain⟨a,vs,rfl,q1,q2⟩:=(b1.DQ (s2.trans s3)).lst aB
 refine⟨a,vs,rfl,q1.sq,λn hn=>q _ _ (Nw.trans (bN hn)) ?_⟩
 obtain⟨a,ws,l,w1,w2,w3,w4⟩:=(r.mono Nw).v3 hn (q2.cut o1 o2)
 refine⟨a,ws,l,w1,w2,?_,w4⟩
 cases w1
 exact Nw.free hn
noncomputable def Nx:Nat->String
 |0=> "int"
 |1=> "bool"
 |2=> "str"
 |3=> "list"
 |4=> "tuple"
 |_=> "NoneType"
theorem La(K:PySem.W.Frag):∀j,j<6->∀k,k<5->PySem.W.kitOne K (.type (Nx j)) (.type (Nx k))=some (j==k||(k==0&&j==1)):=by
 intro j hj k hk
 rcases j with _|_|_|_|_|_|j<;>first|omega|(rcases k with _|_|_|_|_|k<;>first|omega|rfl)
theorem we(k:Nat)(hk:k<5):gY X (.builtin "isinstance") (λxs H Q=>∃x p,xs=[x,.ty (Nx k)]/\Rep X.K κ H x p/\zO p≠6/\Q (.bl (yf k p)) H):=by
 intro pins s σ H xs us Q I r h
 obtain⟨x,p,rfl,rp,h6,q⟩:=h
 obtain⟨u,c,rfl,ru,rc⟩:=vals2 r
 cases rc
 have fin:∀tk:Nat,EP X pins σ Q (.bool (yf k p)) {s with toks:=tk}:=λtk=>⟨.bl _,H,I.tok _,rfl,q⟩
 have Me:=λj hj=>La X.K j hj k hk
 cases rp with
 |non=>cases ru;exact PySem.W.kia_one PySem.W.kitx_none I.pG True.intro (Me 5 (by decide)) (λz=>nomatch z) fin
 |bl b=>cases ru;exact PySem.W.kia_one PySem.W.kitx_bool I.pG True.intro (Me 1 (by decide)) (λz=>nomatch z) fin
 |int i=>obtain⟨t,rfl⟩:=ru;exact PySem.W.kia_one PySem.W.kitx_int I.pG True.intro (Me 0 (by decide)) (λz=>nomatch z) fin
 |str i=>obtain⟨t,rfl⟩:=ru;exact PySem.W.kia_one PySem.W.kitx_str I.pG True.intro (Me 2 (by decide)) (λz=>nomatch z) fin
 |lst h1 _=>
  cases ru
  obtain⟨_,_,pl,_⟩:=I.list h1.sq
  obtain⟨o,ho,hc,_⟩:=pl.isList
  exact PySem.W.kia_one PySem.W.kitx_list I.pG ⟨o,ho,hc⟩ (Me 3 (by decide)) (λz=>nomatch z) fin
 |tup h1 _=>
  cases ru
  obtain⟨_,_,pl,_⟩:=I.tuple h1
  obtain⟨o,ho,hc,_⟩:=pl
  exact PySem.W.kia_one PySem.W.kitx_tuple I.pG ⟨o,ho,hc⟩ (Me 4 (by decide)) (λz=>nomatch z) fin
 |ins _ _ _=>exact absurd rfl h6
theorem lC{x:Str}{p2:Pos}(k:Nat)(hk:k<5)(hv:bootBuiltins x=some (.type (Nx k)))(ha:DB X κ a fa)(hm:X.mg "isinstance" =none)(D2:X.mg x=none)(hg:Gl X "isinstance")(D3:Gl X x)(hn:x≠ "__name__")(hd:(x==("__debug__" :Str))=false)
  (hs:starEach [a,.Name x p2] X.env=(false,eval a X.env)::starEach [.Name x p2] X.env)(jC:starEach [.Name x p2] X.env=(false,eval (.Name x p2) X.env)::starEach [] X.env)(hpl:(backTo pos (starEach [.Name x p2] X.env)).any (·.1)=false):DE X κ (.Call (.Name "isinstance" p) [a,.Name x p2] [] pos) (aZ (rB k) fa):=by
 obtain⟨ta,h1,h2⟩:=ha
 refine⟨_,jh (we (κ:=κ) k hk) hg hm PyProof.Rows.boot_isinstance (bG h1 (bG (Gp D3 D2 hv (v:=.ty (Nx k)) rfl hn hd) cq jC) hs) (he:=hs) (hpl:=hpl),λ{G A bo own ρ σ H p Q} r e q=>?_⟩
 obtain⟨p1,e1,e2⟩:=Option.bind_eq_some_iff.mp e
 refine h2 r e1 λx H1 s1 b1=>?_
 unfold rB at e2
 split at e2
 ·cases e2
 ·cases e2
  exact⟨_,p1,rfl,b1.full aB,by assumption,q _ H1 s1 (.bl _)⟩
end
noncomputable def Uk:Kl:=⟨λ_=>0,λ_=>[]⟩
theorem Bx{P:Program}{w:World}{K:PySem.W.Frag}{mg mb:Str->Option Value}{CX:CI}{k:Nat}{fa a:Addr}{fd:FuncData}{x:Str}{sp:Sp}{s₁:Shared}{vs:List Value}{ns:List Int}
  (KX:K.In s₁.heap)(F7:s₁.heap.Ns mainGlobals mg)(hb:s₁.heap.Ns builtinsNs mb)(SU:∀x:Str,x≠ "__name__" ->mb x=bootBuiltins x)(Qj:s₁.heap.NoLimit)(hg:s₁.gens=#[])
  (ha:s₁.heap.get? a=some {cls:=.type "list",data:=.seq vs.toArray})(hi:IntsAre vs ns)(hl:ns.length<=sizeLine)(hr:ck k callerA)
  (F:∀base:Heap,K.In base->base.Ns mainGlobals mg->cM P w K mg base CX k fa fd [x] sp)(Ny:∀(s:Shared) (u:Value),BindsTo s fd ⟨[u],[]⟩ [(x,u)])
  (IL:∀H:Hp,M5 H->SL K H a (ns.map V.int)->sp [.ref a] H (λv _=>v=.bl true) λ_ _ _=>False)
  (SV:∀H e s',CX [] H s₁ (λ_ _ _=>False) e s'->False):
  codeAny (model P w) callerA (.call (.ref fa) ⟨[.ref a],[]⟩) (λr s'=>r=.ok (.ret (.bool true))/\OldK s₁.heap s'.heap/\s'.os=s₁.os/\AllBare s'.gens) s₁:=by
 have rv:=nZ hi
 have Qk:=hi.length
 have core:∀H:Hp,M5 H->SL K H a (ns.map V.int)->o7 P w H s₁.heap->(∀b,H b≠none->b=a)->(H a≠none->K.lookup a=none)->
   codeAny (model P w) callerA (.call (.ref fa) ⟨[.ref a],[]⟩) (λr s'=>r=.ok (.ret (.bool true))/\OldK s₁.heap s'.heap/\s'.os=s₁.os/\AllBare s'.gens) s₁:=by
  intro H hO hS d8 hA hK
  have Aa:∀{b:Addr} {o:Obj},s₁.heap.get? b=some o->H b=none->(tx s₁.heap H).get? b=some o:=λe n=>CS e n
  have MU:∀{b:Addr} {o:Obj} {es:Array DictEntry} {ep:Nat},s₁.heap.get? b=some o->o.data=.dict es ep->H b=none:=λ{b o es ep} e d=>by
   cases q:H b with
   |none=>rfl
   |some u=>
    have e':b=a:=hA b (by rw[q];simp)
    subst e'
    rw[ha]at e;cases e
    have d':Data.seq vs.toArray _=Data.dict es ep:=d
    cases d'
  have OG:∀{b:Addr} {m:Str->Option Value},s₁.heap.Ns b m->(tx s₁.heap H).Ns b m:=λ{b m} ⟨o,es,ep,e,d,r⟩=>⟨o,es,ep,Aa e (MU e d),d,r⟩
  have Rq:K.In (tx s₁.heap H):=λb o e=>Aa (KX b o e) (by
   cases q:H b with
   |none=>rfl
   |some u=>
    have e':b=a:=hA b (by rw[q];simp)
    subst e'
    rw[hK (by rw[q];simp)]at e;cases e)
  have hM:Mod K mg (tx s₁.heap H):=⟨Rq,OG F7,⟨mb,OG hb,SU⟩,let⟨mc,h1,h2⟩:=Qj;⟨mc,OG h1,h2⟩⟩
  have e0:xV P w K mg (tx s₁.heap H) callerA [] s₁ H:=⟨rfl,hM,λb o e=>Gm e,Nat.le_of_eq (AZ _ _),trivial,λb hb=>absurd (show b∈([]:List Addr)from hb) (by simp),d8,.of_eq hg⟩
  refine codeAny_mono ((F _ Rq (OG F7)).run callerA [] s₁ H ⟨[.ref a],[]⟩ [.ref a] [.ref a] _ _ hr e0 (Ny s₁ (.ref a)) (.cons rfl .nil) (IL H hO hS)) λr s' h=>?_
  cases r with
  |error e=>exact(SV H e s' h).elim
  |ok fl=>
   cases fl with
   |next=>exact False.elim h
   |brk=>exact False.elim h
   |cont=>exact False.elim h
   |ret u=>
    obtain⟨v,H',os,bare,un,Ql,r',q⟩:=h
    have q':v=.bl true:=q
    subst q'
    obtain rfl:u=Value.bool true:=r'
    refine⟨rfl,OldK.of_keep λb o e=>?_,os,bare⟩
    cases q:H b with
    |none=>exact un.keep b o e q (by intro z;exact absurd (show b∈([]:List Addr)from z) (by simp)) (by simp)
    |some u=>
     rcases hO b with z|⟨ob,xs,z⟩
     ·rw[q]at z;cases z
     ·have z2:=un.nM b ob _ z
      obtain⟨e1,_⟩:=d8 b _ z
      obtain⟨e2,_⟩:=Ql b _ z2
      rw[e]at e1;cases e1
      exact e2
 cases hk:K.lookup a with
 |some o=>
  have e:=KX a o hk
  rw[ha]at e
  cases e
  refine core (λ_=>none) (λ_=>.inl rfl) (.inr ⟨vs,_,hk,by rw[Qk];exact hl,rv⟩) (λb u z=>by have z':(none:Option HO)=some u:=z;cases z') (λb z=>absurd rfl z) λz=>absurd rfl z
 |none=>
  refine core (λb=>if b=a then some (.frz {cls:=.type "list",data:=.seq vs.toArray} (.lst (ns.map V.int)))else none) (λb=>?_) (.inl (.inr ⟨{cls:=.type "list",data:=.seq vs.toArray},if_pos rfl⟩)) (λb u z=>?_) (λb z=>?_) λ_=>hk
  ·by_cases hb:b=a
   ·exact .inr ⟨_,_,if_pos hb⟩
   ·exact .inl (if_neg hb)
  ·by_cases hb:b=a
   ·have z':=(if_pos hb).symm.trans z
    cases z'
    subst hb
    exact⟨ha,by rw[List.length_map];exact hl,vs,_,rv,ha⟩
   ·have z':=(if_neg hb).symm.trans z
    cases z'
  ·by_cases hb:b=a
   ·exact hb
   ·exact absurd (if_neg hb) z
theorem ints_rep{K:PySem.W.Frag}{κ:Kl}{H:Hp}:∀ns:List Int,aQ K κ H (ns.map V.int) (ns.map PV.int)
 |[]=>.nil
 |n::ns=>.cons (.int n) (ints_rep ns)
section
variable{X:Cx}{κ:Kl}{fr:Bool}{e a b c:Expr}{f fa fb fc:Den}{p pos:Pos}
theorem rM{p2:Pos}(ha:DB X κ a fa)(hm:X.mg "isinstance" =none)(D2:X.mg "int" =none)(hg:Gl X "isinstance" :=by rfl)(D3:Gl X "int" :=by rfl)(hs:starEach [a,.Name "int" p2] X.env=(false,eval a X.env)::starEach [.Name "int" p2] X.env:=by rfl)(jC:starEach [.Name "int" p2] X.env=(false,eval (.Name "int" p2) X.env)::starEach [] X.env:=by rfl)
 (hpl:(backTo pos (starEach [.Name "int" p2] X.env)).any (·.1)=false:=by rfl):DE X κ (.Call (.Name "isinstance" p) [a,.Name "int" p2] [] pos) (aZ (rB 0) fa):=lC 0 (by decide) PyProof.Rows.boot_int ha hm D2 hg D3 (by decide) (by decide) hs jC hpl
theorem kC{p2:Pos}(ha:DB X κ a fa)(hm:X.mg "isinstance" =none)(D2:X.mg "bool" =none)(hg:Gl X "isinstance" :=by rfl)(D3:Gl X "bool" :=by rfl)(hs:starEach [a,.Name "bool" p2] X.env=(false,eval a X.env)::starEach [.Name "bool" p2] X.env:=by rfl)(jC:starEach [.Name "bool" p2] X.env=(false,eval (.Name "bool" p2) X.env)::starEach [] X.env:=by rfl)
 (hpl:(backTo pos (starEach [.Name "bool" p2] X.env)).any (·.1)=false:=by rfl):DE X κ (.Call (.Name "isinstance" p) [a,.Name "bool" p2] [] pos) (aZ (rB 1) fa):=lC 1 (by decide) PyProof.Rows.boot_bool ha hm D2 hg D3 (by decide) (by decide) hs jC hpl
theorem kD{p2:Pos}(ha:DB X κ a fa)(hm:X.mg "isinstance" =none)(D2:X.mg "list" =none)(hg:Gl X "isinstance" :=by rfl)(D3:Gl X "list" :=by rfl)(hs:starEach [a,.Name "list" p2] X.env=(false,eval a X.env)::starEach [.Name "list" p2] X.env:=by rfl)(jC:starEach [.Name "list" p2] X.env=(false,eval (.Name "list" p2) X.env)::starEach [] X.env:=by rfl)
 (hpl:(backTo pos (starEach [.Name "list" p2] X.env)).any (·.1)=false:=by rfl):DE X κ (.Call (.Name "isinstance" p) [a,.Name "list" p2] [] pos) (aZ (rB 3) fa):=lC 3 (by decide) PyProof.Rows.boot_list ha hm D2 hg D3 (by decide) (by decide) hs jC hpl
theorem eZ{p2:Pos}(ha:DB X κ a fa)(hm:X.mg "isinstance" =none)(D2:X.mg "tuple" =none)(hg:Gl X "isinstance" :=by rfl)(D3:Gl X "tuple" :=by rfl)(hs:starEach [a,.Name "tuple" p2] X.env=(false,eval a X.env)::starEach [.Name "tuple" p2] X.env:=by rfl)(jC:starEach [.Name "tuple" p2] X.env=(false,eval (.Name "tuple" p2) X.env)::starEach [] X.env:=by rfl)
 (hpl:(backTo pos (starEach [.Name "tuple" p2] X.env)).any (·.1)=false:=by rfl):DE X κ (.Call (.Name "isinstance" p) [a,.Name "tuple" p2] [] pos) (aZ (rB 4) fa):=lC 4 (by decide) PyProof.Rows.boot_tuple ha hm D2 hg D3 (by decide) (by decide) hs jC hpl
end
end L2.D
namespace L2.D
open PySem PySem.Spec PyProof.Rows
open Classical
theorem By{n l1 l2:Nat}(h1:l1<n)(h2:l2<n):ZipApart (n+4) (n+2) (n+3) n (n+1) l1 l2:=by
 refine⟨?_,?_,?_,?_,?_,?_,?_,?_,?_,?_,?_,?_,?_,?_,?_,?_,?_,?_⟩<;>(intro(e:(_:Nat)=_);revert e h1 h2;simp only[imp_false];intros;omega)
section
variable{X:Cx}{pins:List (Addr×Obj)}{σ:St}{H:Hp}{s:Shared}{h':Heap}
theorem Jh{ch:List Addr}(hf:∀b∈ch,j9 X pins H b):∀b∈ch,(b∈X.ex\/X.s₀.heap.objs.size<=b)/\b≠X.env.locals/\(∀x c,X.env.cells.lookup x=some c->c≠b)/\∀p∈X.pn++pins,p.1≠b:=λb hb=>by
 obtain⟨f0,f1,f2,f3,f4,f5⟩:=hf b hb
 exact⟨f3,f1,f4,f5⟩
theorem _root_.L2.Inv.Ab{t':Nat}{ch:List Addr}(I:Inv X pins σ H s)(k:∀b o,b∉ch->s.heap.get? b=some o->h'.get? b=some o)(hf:∀b∈ch,j9 X pins H b):Inv X pins σ H {s with heap:=h',toks:=t'}:=by
 have Iw:∀b u,H b=some u->b∉ch:=λb u e z=>by rw[(hf b z).1]at e;cases e
 refine I.step (g':=s.gens) (d':=s.drawn) (ch:=ch) (Jh hf) (λb o _ _ hc e _=>k b o hc e) (λb o _ _ hc e _=>⟨o.slots,k b o hc e⟩) (λ_ _ _ _ n=>n)
  (λb o hc e=>⟨o,k b o hc e⟩) (λ_ _ e=>e) (λ_ _ _ e=>e) (λb ps e=>⟨#[],by rw[e];simp⟩) (λm hm=>?_) (λb u e=>?_) I.bare
 ·obtain⟨o,es,ep,ho,r⟩:=hm
  exact⟨o,es,ep,k _ o (λz=>(hf _ z).2.1 rfl) ho,r⟩
 ·refine(I.d8 b u e).rD (λc v hc q=>k c v ?_ q) (λ_ q=>q) λ_ _ q=>q
  rcases hc with z|z
  ·rw[z];exact Iw b u e
  ·exact Iw c _ z
theorem _root_.L2.Inv.sJ{t':Nat}{ch:List Addr}{u:HO}(I:Inv X pins σ H s)(k:∀b o,b∉ch->s.heap.get? b=some o->h'.get? b=some o)(hf:∀b∈ch,j9 X pins H b)
  (new:il X.prog X.w (upd H s.heap.objs.size u) h' s.heap.objs.size u):Inv X pins σ (upd H s.heap.objs.size u) {s with heap:=h',toks:=t'}:=by
 have fr:H s.heap.objs.size=none:=I.d8.fresh (Nat.le_refl _)
 have Iw:∀b u,H b=some u->b∉ch:=λb u e z=>by rw[(hf b z).1]at e;cases e
 have sm:aH H (upd H s.heap.objs.size u):=bN fr
 refine I.step (g':=s.gens) (d':=s.drawn) (ch:=ch) (Jh hf) (λb o _ _ hc e _=>k b o hc e) (λb o _ _ hc e _=>⟨o.slots,k b o hc e⟩) (λb o _ e n=>?_)
  (λb o hc e=>⟨o,k b o hc e⟩) (λ_ _ e=>sm _ _ e) (λ_ _ _ e=>sm _ _ e) (λb ps e=>⟨#[],by rw[sm _ _ e];simp⟩) (λm hm=>?_) (λb v e=>?_) I.bare
 ·rw[aC (Nat.ne_of_lt (Heap.lt_size e))]
  exact n
 ·obtain⟨o,es,ep,ho,r⟩:=hm
  exact⟨o,es,ep,k _ o (λz=>(hf _ z).2.1 rfl) ho,r⟩
 ·by_cases hb:b=s.heap.objs.size
  ·subst hb
   rw[aU]at e
   cases e
   exact new
  ·rw[aC hb]at e
   refine(I.d8 b v e).rD (λc v hc q=>k c v ?_ q) (λc q=>sm _ _ q) λc xs q=>sm _ _ q
   rcases hc with z|z
   ·rw[z];exact Iw b _ e
   ·exact Iw c _ z
end
noncomputable def Qm(K:PySem.W.Frag)(l1 l2:Addr):It:=
 ⟨λi H=>∃xs ys x y,gc K H l1 xs/\gc K H l2 ys/\xs[i]?=some x/\ys[i]?=some y,
  λi H v H'=>∃p x y,H p=none/\v=.ref p/\H'=upd H p (.tup [x,y])/\(∀xs,gc K H l1 xs->xs[i]?=some x)/\∀ys,gc K H l2 ys->ys[i]?=some y,
  λi H=>∃xs ys,gc K H l1 xs/\gc K H l2 ys/\(xs.length<=i\/ys.length<=i)⟩
noncomputable def SW(z TI TO i1 i2 l1 l2:Addr)(i:Nat)(h:Heap):Prop:=IsZip h z TI TO .none/\IsPair h TI (.ref i1) (.ref i2)/\(∃a b,IsPair h TO a b)/\h.IsListIter i1 l1 i/\h.IsListIter i2 l2 i
theorem D4{P:Program}{w:World}{K:PySem.W.Frag}{elts:List Expr}{x1:Nat}{pos:Pos}{z TI TO i1 i2 l1 l2:Addr}(D:ZipApart z TI TO i1 i2 l1 l2):
  Turn P w K (.Tuple elts x1 pos) (Qm K l1 l2) [z,TI,TO,i1,i2] z (SW z TI TO i1 i2 l1 l2) where
 mem:=by simp
 obj:=λi h st b hb=>by
  obtain⟨hz,D5,⟨a,c,Ga⟩,⟨o1,e1,c1,d1⟩,⟨o2,e2,c2,d2⟩⟩:=st
  have lX:b=z\/b=TI\/b=TO\/b=i1\/b=i2:=by simpa using hb
  rcases lX with rfl|rfl|rfl|rfl|rfl
  ·exact⟨_,hz,λv q=>by cases q⟩
  ·exact⟨_,D5,λv q=>by cases q⟩
  ·exact⟨_,Ga,λv q=>by cases q⟩
  ·exact⟨_,e1,λv q=>by rw[d1]at q;cases q⟩
  ·exact⟨_,e2,λv q=>by rw[d2]at q;cases q⟩
 keep:=λi h h' st k=>by
  obtain⟨hz,D5,⟨a,c,Ga⟩,h1,h2⟩:=st
  exact⟨k _ (by simp) _ hz,k _ (by simp) _ D5,⟨a,c,k _ (by simp) _ Ga⟩,h1.at λo e=>k _ (by simp) o e,h2.at λo e=>k _ (by simp) o e⟩
 item:=by
  intro X hP hw hK hc i pins s σ H E I hf st hg
  subst hP hw hK
  obtain⟨xs,ys,x,y,Bz,Ji,hx,hy⟩:=hg
  obtain⟨its,rv,p,Qn⟩:=I.list Bz
  obtain⟨lO,Gb,p2,Rt⟩:=I.list Ji
  obtain⟨u,hu,ru⟩:=rv.get hx
  obtain⟨u2,OH,Qo⟩:=Gb.get hy
  obtain⟨hz,D5,⟨a,c,Ga⟩,h1,h2⟩:=st
  refine wpAny_pyNext_zip_item D hz D5 Ga h1 h2 p.isList p2.isList (x:=u) (y:=u2) (by simpa using hu) (by simpa using OH) λh' a1 a2 a3 a4 a5 a6 a7=>?_
  refine⟨.ref s.heap.objs.size,rfl,wpAny_letOwnedTupleGo_zip (s:={s with heap:=h'}) a1 λHm b1 b2=>?_⟩
  have Qp:z<s.heap.objs.size:=Heap.lt_size hz
  have up:∀b o,b≠z->h'.get? b=some o->Hm.get? b=some o:=λb o hb e=>(b2.2 b hb).trans e
  have kp:∀b o,b∉[z,TO,i1,i2]->s.heap.get? b=some o->Hm.get? b=some o:=λb o hb e=>by
   have lX:b≠z/\b≠TO/\b≠i1/\b≠i2:=by simpa using hb
   exact up b o lX.1 (a7 b o lX.1 lX.2.1 lX.2.2.1 lX.2.2.2 e)
  have D6:IsPair Hm s.heap.objs.size u u2:=up _ _ (Nat.ne_of_gt Qp) a5
  have fr:H s.heap.objs.size=none:=I.d8.fresh (Nat.le_refl _)
  refine⟨.ref s.heap.objs.size,upd H s.heap.objs.size (.tup [x,y]),?_,rfl,?_,?_,?_⟩
  ·refine I.sJ (t':=s.toks) (ch:=[z,TO,i1,i2]) kp (λb hb=>hf b ?_) ?_
   ·have lX:b=z\/b=TO\/b=i1\/b=i2:=by simpa using hb
    rcases lX with rfl|rfl|rfl|rfl<;>simp
   ·exact⟨⟨by show 2<=sizeLine;decide,⟨_,D6,rfl⟩⟩,[u,u2],.cons ru (.cons Qo .nil),⟨_,D6,rfl,_,rfl⟩⟩
  ·exact⟨_,x,y,fr,rfl,rfl,λRu h=>by rw[I.je h Bz];exact hx,λUl h=>by rw[I.je h Ji];exact hy⟩
  ·exact⟨b1,up _ _ D.TIz (a7 _ _ D.TIz D.TITO D.TIi1 D.TIi2 D5),⟨_,_,up _ _ D.TOz a2⟩,a3.at λo e=>up _ _ D.i1z e,a4.at λo e=>up _ _ D.i2z e⟩
  ·intro b hb
   have:b<s.heap.objs.size:=by
    have lX:b=z\/b=TI\/b=TO\/b=i1\/b=i2:=by simpa using hb
    obtain⟨o1,e1,_⟩:=h1
    obtain⟨o2,e2,_⟩:=h2
    rcases lX with rfl|rfl|rfl|rfl|rfl
    ·exact Heap.lt_size hz
    ·exact Heap.lt_size D5
    ·exact Heap.lt_size Ga
    ·exact Heap.lt_size e1
    ·exact Heap.lt_size e2
   rw[aC (Nat.ne_of_lt this)]
   exact(hf b hb).1
 done:=by
  intro X hP hw hK hc i pins s σ H E I hf st hg
  subst hP hw hK
  obtain⟨xs,ys,Bz,Ji,Nz⟩:=hg
  obtain⟨its,rv,p,Qn⟩:=I.list Bz
  obtain⟨lO,Gb,p2,Rt⟩:=I.list Ji
  have l1:=rv.length
  have l2:=Gb.length
  obtain⟨hz,D5,⟨a,c,Ga⟩,h1,h2⟩:=st
  refine wpAny_pyNext_zip_end (I.ok.hd hc) D hz D5 Ga h1 h2 p.isList p2.isList (by
   rcases Nz with q|q
   ·exact .inl (by simp;omega)
   ·exact .inr (by simp;omega)) λh' k=>⟨rfl,I.Ab (t':=s.toks) (ch:=[z,TO,i1,i2]) (λb o hb e=>?_) λb hb=>hf b ?_⟩
  ·have lX:b≠z/\b≠TO/\b≠i1/\b≠i2:=by simpa using hb
   exact k b o lX.1 lX.2.1 lX.2.2.1 lX.2.2.2 e
  ·have lX:b=z\/b=TO\/b=i1\/b=i2:=by simpa using hb
   rcases lX with rfl|rfl|rfl|rfl<;>simp
 self:=λ_ _ _ _ _ st h=>wpAny_pyIter_zip st.1 h
section
variable{X:Cx}{κ:Kl}{a b:Expr}{fa fb:Den}{elts:List Expr}{x1:Nat}{tp:Pos}
noncomputable def Qq(K:PySem.W.Frag)(ta:TA):TI:=λσ H R=>ta σ H λvs H1=>∃l1 l2 xs ys,vs=[.ref l1,.ref l2]/\gc K H1 l1 xs/\gc K H1 l2 ys/\R (Qm K l1 l2) H1
theorem D7{ta:TA}{p pos:Pos}(hg:Gl X "zip")(hm:X.mg "zip" =none)(ha:PA X [a,b] ta)(hs:starEach [a,b] X.env=[(false,eval a X.env),(false,eval b X.env)]:=by rfl)(jC:starEach [b] X.env=[(false,eval b X.env)]:=by rfl):
  PI X (.Tuple elts x1 tp) (.Call (.Name "zip" p) [a,b] [] pos) (Qq X.K ta):=by
 intro pins s σ H R I h
 refine Call_ (j7 I hg hm PyProof.Rows.boot_zip (PyProof.Rows.callWith_type1 (dS (ha pos pins s σ H _ I h) λus s1 cy=>?_) (by rw[hs,jC]) (by rw[jC];rfl)))
 obtain⟨vs,H1,I1,r1,q1⟩:=cy
 obtain⟨l1,l2,xs,ys,rfl,Bz,Ji,q⟩:=q1
 obtain⟨u1,u2,rfl,r1,r2⟩:=vals2 r1
 cases r1
 cases r2
 obtain⟨its,rv,p1,z1⟩:=I1.list Bz
 obtain⟨lO,Gb,p2,z2⟩:=I1.list Ji
 have SX:l1<s1.heap.objs.size:=by
  obtain⟨o,ho,_⟩:=p1.isList
  exact Heap.lt_size ho
 have OI:l2<s1.heap.objs.size:=by
  obtain⟨o,ho,_⟩:=p2.isList
  exact Heap.lt_size ho
 have D:=By SX OI
 refine call_zip_2 p1.isList p2.isList λh' hz D5 Ga SY Qr mK hk=>?_
 refine wpAny_pyIter_zip (s:={s1 with heap:=h'}) hz ?_
 refine⟨s1.heap.objs.size+4,[s1.heap.objs.size+4,s1.heap.objs.size+2,s1.heap.objs.size+3,s1.heap.objs.size,s1.heap.objs.size+1],_,_,H1,rfl,I1.kept (t':=s1.toks) hk,D4 D,⟨hz,D5,⟨_,_,Ga⟩,SY,Qr⟩,λb hb=>?_,q⟩
 have lX:b=s1.heap.objs.size+4\/b=s1.heap.objs.size+2\/b=s1.heap.objs.size+3\/b=s1.heap.objs.size\/b=s1.heap.objs.size+1:=by simpa using hb
 have hle:s1.heap.objs.size<=b:=by rcases lX with rfl|rfl|rfl|rfl|rfl<;>omega
 exact I1.Gq hle (I1.d8.fresh hle)
theorem wg{K:PySem.W.Frag}{Gs:Hp}{A:Addr->Prop}{l1 l2:Addr}{vs ws:List V}{l m:List PV}(h1:SL K Gs l1 vs)(q1:aQ K κ (hide A Gs) vs l)(h2:SL K Gs l2 ws)(q2:aQ K κ (hide A Gs) ws m):uA K κ Gs A (Qm K l1 l2) (List.zipWith (λx y=>PV.tup [x,y]) l m):=λi H2 s=>by
 have z1:gc K H2 l1 vs:=(s.sl h1).sq
 have z2:gc K H2 l2 ws:=(s.sl h2).sq
 refine⟨λp e=>?_,λhl=>⟨vs,ws,z1,z2,?_⟩⟩
 ·rw[List.getElem?_zipWith]at e
  cases e1:l[i]? with
  |none=>rw[e1]at e;cases e
  |some x=>
   cases e2:m[i]? with
   |none=>rw[e1,e2]at e;cases e
   |some y=>
    rw[e1,e2]at e
    cases e
    obtain⟨v,g1,r1⟩:=q1.get e1
    obtain⟨w,g2,r2⟩:=q2.get e2
    refine⟨⟨vs,ws,v,w,z1,z2,g1,g2⟩,λz H3 cy=>?_⟩
    obtain⟨p',x',y',y0,y1,y2,y3,y4⟩:=cy
    subst y1 y2
    have k1:=y3 vs z1
    have k2:=y4 ws z2
    rw[g1]at k1
    rw[g2]at k2
    cases k1
    cases k2
    refine⟨bN y0,λB hB sb=>.tup (lM.of ?_) (.cons (r1.mono (sb.trans (aM (bN y0)))) (.cons (r2.mono (sb.trans (aM (bN y0)))) .nil))⟩
    rw[bq λz=>hB _ z y0]
    exact aU
 ·rw[List.length_zipWith]at hl
  rw[q1.length,q2.length]
  omega
theorem Lb{p pos:Pos}(ha:DE X κ a fa)(hb:DE X κ b fb)(hm:X.mg "zip" =none)(hg:Gl X "zip" :=by rfl)(hs:starEach [a,b] X.env=[(false,eval a X.env),(false,eval b X.env)]:=by rfl)(jC:starEach [b] X.env=[(false,eval b X.env)]:=by rfl):
  DI X κ (.Tuple elts x1 tp) (.Call (.Name "zip" p) [a,b] [] pos) (p9 fa fb):=by
 obtain⟨ta,h1,h2⟩:=ha
 obtain⟨tb,h3,h4⟩:=hb
 refine⟨_,D7 hg hm (bG h1 (bG h3 cq jC) (by rw[hs,jC])) hs jC,λ{G A bo own ρ σ H ps Q} r e q=>?_⟩
 obtain⟨p1,e1,e2⟩:=Option.bind_eq_some_iff.mp e
 obtain⟨p2,e3,e4⟩:=Option.bind_eq_some_iff.mp e2
 obtain⟨l,e5,e6⟩:=Option.bind_eq_some_iff.mp e4
 obtain⟨m,e7,e8⟩:=Option.bind_eq_some_iff.mp e6
 cases e8
 refine h2 r e1 λv H1 s1 z1=>h4 (r.mono s1) e3 λw H2 s2 z2=>?_
 cases p1<;>first|(cases e5;done)|skip
 cases e5
 cases p2<;>first|(cases e7;done)|skip
 cases e7
 have Qs:=z1.mono (aM s2)
 cases Qs with
 |lst y1 y2=>
  cases z2 with
  |lst y3 y4=>
   exact⟨_,_,_,_,rfl,((aB (A:=cP A own ρ)).sl y1).sq,((aB (A:=cP A own ρ)).sl y3).sq,q _ H2 (s1.trans s2) (wg (uB.sl y1) (by rw[mT];exact y2) (uB.sl y3) (by rw[mT];exact y4))⟩
end
end L2.D
namespace L2.D
open PySem PySem.Spec PyProof.Rows PySem.SeqAt
open Classical
theorem uH:∀xs ys:List Int,og xs ys=HT.lexLt xs ys
 |[],[]=>rfl
 |[],_::_=>rfl
 |_::_,[]=>rfl
 |x::xs,y::ys=>by
  rw[HT.l5,<-uH xs ys]
  rfl
theorem uI{K:PySem.W.Frag}{κ:Kl}{H:Hp}:∀{vs:List V} {l:List PV} {ns:List Int},aQ K κ H vs l->eA l=some ns->vs=ns.map V.int
 |_,_,_,.nil,h=>by cases h;rfl
 |_,p::_,_,.cons r t,h=>by
  cases p<;>first|(cases h;done)|skip
  obtain⟨cs,h1,rfl⟩:=Option.map_eq_some_iff.mp h
  rw[List.map_cons,<-uI t h1,r.G2]
theorem qm:∀xs:List Int,HT.lexLt xs xs=false
 |[]=>rfl
 |x::xs=>by rw[HT.l5,if_pos rfl,qm xs]
theorem uJ{K:PySem.W.Frag}{κ:Kl}{H:Hp}{x:V}{i:Int}{l:List PV}{ns:List Int}(r:Rep K κ H x (.tup [.int i,.lst l]))(h:eA l=some ns):∃a la,x=.ref a/\lM K H a [.int i,.ref la]/\SL K H la (ns.map V.int):=by
 cases r with
 |tup q1 w=>
  cases w with
  |cons r1 w=>
   cases w with
   |cons r2 w=>
    cases w
    cases r1
    cases r2 with
    |lst q2 w2=>
     rw[uI w2 h]at q2
     exact⟨_,_,rfl,q1,q2⟩
section
variable{prog:Program}{w:World}{A:Around}{E:Value->Shared->Prop}{s:Shared}
theorem BA(x y:Value)(b:Bool):keyLt' (tuples' b) x y=(do
 let xs<-Builtin.List.listItems x;let ys<-Builtin.List.listItems y
 for ((p,q),i)in(xs.toList.zip ys.toList).zipIdx do
  if !(<-eqBool p q)then return<-oneLt' (b&&i==0) p q
 return decide (xs.size<ys.size)):=rfl
theorem yo{a b:Addr}{u1 u2 w1 w2:Value}{e1 e2 r1 r2:Bool}{oa ob:Obj}{na nb:Nat}{Q:Bool->Shared->Prop}(ha:s.heap.get? a=some oa)(da:oa.data=.seq #[u1,u2] na)(hb:s.heap.get? b=some ob)(db:ob.data=.seq #[w1,w2] nb)
  (q1:EqAt A s u1 w1 e1)(q2:EqAt A s u2 w2 e2)(l1:e1=false->∀Q',Q' r1 s->wpAny (model prog w) A (oneLt' true u1 w1) Q' E s)(l2:e2=false->∀Q',Q' r2 s->wpAny (model prog w) A (oneLt' false u2 w2) Q' E s)
  (h:Q (if e1 then(if e2 then false else r2)else r1) s):wpAny (model prog w) A (keyLt' (tuples' true) (.ref a) (.ref b)) Q E s:=by
 rw[BA]
 refine wpAny_bind (listItems_at ha da ?_)
 refine wpAny_bind (listItems_at hb db ?_)
 simp only[List.zip_cons_cons,List.zip_nil_right,List.zipIdx_cons,List.zipIdx_nil,List.forIn_cons,List.forIn_nil]
 cases e1 with
 |false=>
  refine wpAny_bind (wpAny_bind (wpAny_bind (q1 prog w E _ ?_)))
  refine wpAny_bind (l1 rfl _ ?_)
  exact wpAny_pure (wpAny_pure (wpAny_pure h))
 |true=>
  refine wpAny_bind (wpAny_bind (wpAny_bind (q1 prog w E _ ?_)))
  refine wpAny_pure ?_
  cases e2 with
  |false=>
   refine wpAny_bind (wpAny_bind (q2 prog w E _ ?_))
   refine wpAny_bind (l2 rfl _ ?_)
   exact wpAny_pure (wpAny_pure (wpAny_pure h))
  |true=>
   refine wpAny_bind (wpAny_bind (q2 prog w E _ ?_))
   refine wpAny_pure (wpAny_pure (wpAny_pure ?_))
   exact h
theorem wj{l m:Addr}{r:Bool}(h:Nm A s (.ref l) (.ref m) r){Q:Bool->Shared->Prop}(q:Q r s):wpAny (model prog w) A (oneLt' false (.ref l) (.ref m)) Q E s:=by
 rw[oneLt'_eq]
 simp only[Bool.false_eq_true,if_false]
 exact wpAny_bind (h prog w E _ (wpAny_truthy_bool q))
theorem yp{a:Addr}{o:Obj}{u1 u2:Value}{n:Nat}{Q:Option Value->Shared->Prop}(ho:s.heap.get? a=some o)(hc:o.cls=.type "tuple")(hd:o.data=.seq #[u1,u2] n)(h:Q (some u1) s):wpAny (model prog w) A (firstOfTuple' (.ref a)) Q E s:=by
 show wpAny (model prog w) A (do
  if(<-typeOf (.ref a)) !=.type "tuple" then return none
  return(<-Builtin.List.listItems (.ref a))[0]?) Q E s
 refine wpAny_bind (wpAny_typeOf (T:= "tuple") ⟨o,ho,hc⟩ ?_)
 have ht:(Value.type "tuple" !=Value.type "tuple")=false:=by decide
 rw[ht]
 simp only[Bool.false_eq_true,if_false]
 exact wpAny_bind (listItems_at ho hd (wpAny_pure h))
noncomputable def uK(h:Heap)(v:Value)(i:Int):Prop:=∃a o t u2 n,v=.ref a/\h.get? a=some o/\o.cls=.type "tuple" /\o.data=.seq #[.int i t,u2] n
theorem qo:∀(ks:List Value),(∀v∈ks,∃i,uK s.heap v i)->∀(Q:List (Option Value)->Shared->Prop),(∀fs,(∀f∈fs,∃i t,f=some (Value.int i t))->fs.length=ks.length->Q fs s)->wpAny (model prog w) A (ks.mapM firstOfTuple') Q E s
 |[],_,Q,h=>by
  rw[List.mapM_nil]
  exact wpAny_pure (h [] (by simp) rfl)
 |k::ks,hk,Q,h=>by
  obtain⟨i,a,o,t,u2,n,rfl,ho,hc,hd⟩:=hk k (List.mem_cons_self ..)
  rw[List.mapM_cons]
  refine wpAny_bind (yp ho hc hd ?_)
  refine wpAny_bind (qo ks (λv hv=>hk v (List.mem_cons_of_mem _ hv)) _ λfs h1 h2=>wpAny_pure (h _ (λf hf=>?_) (by simp[h2])))
  rcases List.mem_cons.mp hf with rfl|hf
  ·exact⟨i,t,rfl⟩
  ·exact h1 f hf
theorem rN{ks:List Value}(hk:∀v∈ks,∃i,uK s.heap v i)(vx:ks≠[]){Q:SortKind->Shared->Prop}(h:Q (tuples' true) s):wpAny (model prog w) A (keyKind' ks.toArray) Q E s:=by
 rw[keyKind'_eq,List.mapM_toArray]
 refine wpAny_bind ?_
 rw[map_eq_pure_bind]
 refine wpAny_bind (qo ks hk _ λfs h1 h2=>wpAny_pure ?_)
 have ha:(fs.toArray.all λx=>x.isSome)=true:=by
  rw[List.all_toArray,List.all_eq_true]
  intro x hx
  obtain⟨i,t,rfl⟩:=h1 x hx
  rfl
 rw[if_pos ha]
 refine wpAny_bind (wpAny_rule ?_)
 obtain⟨vs,ns,ev,hi⟩:∃vs ns,fs.filterMap id=vs/\IntsAre vs ns/\vs.length=fs.length:=by
  clear ha h2
  induction fs with
  |nil=>exact⟨[],[],rfl,.nil,rfl⟩
  |cons f fs ih=>
   obtain⟨i,t,rfl⟩:=h1 f (List.mem_cons_self ..)
   obtain⟨vs,ns,e,q,ql⟩:=ih λg hg=>h1 g (List.mem_cons_of_mem _ hg)
   exact⟨.int i t::vs,i::ns,by rw[List.filterMap_cons,id,e],.cons i t q,by simp[ql]⟩
 obtain⟨hi,hl⟩:=hi
 have e1:fs.toArray.filterMap id=vs.toArray:=by
  rw[<-ev]
  simp
 rw[e1,oneTypeOnly'_eq,List.mapM_toArray,mapM_typeOf_ints hi]
 simp only[map_pure,pure_bind]
 cases vs with
 |nil=>
  exfalso
  rw[h2]at hl
  simp at hl
  exact vx (List.eq_nil_of_length_eq_zero hl.symm)
 |cons v vs=>
  have tU:((List.map (λ_=>Value.type "int") (v::vs)).toArray.all λx=>x==Value.type "int")=true:=by
   simp only[List.all_toArray,List.all_map,List.all_eq_true]
   intro _ _
   rfl
  have h0:(List.map (λ_=>Value.type "int") (v::vs)).toArray[0]?=some (Value.type "int"):=by simp
  rw[h0]
  simp only[tU,if_true,pure_bind]
  exact wpAny_pure h
end
noncomputable def BB(K:PySem.W.Frag)(κ:Kl)(H:Hp)(kI:Int->Int)(kL:Int->List Int)(p:Value×Value):Prop:=∃n t a,nJ n=true/\p.2=.int n t/\p.1=.ref a/\Rep K κ H (.ref a) (.tup [.int (kI n),.lst ((kL n).map PV.int)])
noncomputable def Jj(p:Value×Value):Nat:=iO (numOf p.2)
theorem iw:∀xs:List Int,eA (xs.map PV.int)=some xs
 |[]=>rfl
 |x::xs=>by
  rw[List.map_cons]
  unfold eA
  rw[iw xs]
  rfl
theorem BB.pair{X:Cx}{pins:List (Addr×Obj)}{σ:St}{H:Hp}{s:Shared}{κ:Kl}{kI:Int->Int}{kL:Int->List Int}{p:Value×Value}(I:Inv X pins σ H s)(h:BB X.K κ H kI kL p):∃i,uK s.heap p.1 i:=by
 obtain⟨n,t,a,_,_,e,r⟩:=h
 obtain⟨a',la,z,q1,q2⟩:=uJ r (iw _)
 cases z
 obtain⟨its,rv,p1,_⟩:=I.tuple q1
 obtain⟨u1,u2,rfl,g1,g2⟩:=rv.two
 obtain⟨t1,rfl⟩:=g1
 obtain⟨o,ho,hc,n',hd⟩:=p1
 exact⟨kI n,a,o,t1,u2,n',e,ho,hc,hd⟩
theorem BC{X:Cx}{pins:List (Addr×Obj)}{σ:St}{H:Hp}{s:Shared}{κ:Kl}{A:Around}{E:Value->Shared->Prop}{kI:Int->Int}{kL:Int->List Int}(I:Inv X pins σ H s)(hu:A.units+5<cLine)
  (ho:∀n m,nJ n=true->nJ m=true->(if kI n=kI m then og (kL n) (kL m)else decide (kI n<kI m))=decide (iO n<iO m)):TS.vE X.prog X.w A E s (tuples' true) (BB X.K κ H kI kL) Jj:=by
 intro p q st Q hk ⟨n,t,a,OJ,e1,e2,r1⟩ ⟨m,t',b,Rv,e3,e4,r2⟩ h
 rw[lt'_eq]
 refine wpS_bind (wpS_get ?_)
 rw[hk,e2,e4]
 obtain⟨a',la,z,q1,q2⟩:=uJ r1 (iw _)
 cases z
 obtain⟨b',lb,z,q3,q4⟩:=uJ r2 (iw _)
 cases z
 obtain⟨its,rv,p1,_⟩:=I.tuple q1
 obtain⟨lO,Gb,p2,_⟩:=I.tuple q3
 obtain⟨u1,u2,rfl,g1,g2⟩:=rv.two
 obtain⟨w1,w2,rfl,g3,g4⟩:=Gb.two
 obtain⟨t1,rfl⟩:=g1
 obtain⟨t2,rfl⟩:=g3
 cases g2
 cases g4
 obtain⟨oa,ha,ca,na,da⟩:=p1
 obtain⟨ob,hb,cb,nb,db⟩:=p2
 have Rw:A.units<cLine:=by omega
 obtain⟨l1,v1,S0,_⟩:=I.list q2.sq
 obtain⟨l2,v2,Qt,_⟩:=I.list q4.sq
 refine wpS_bind (wpS_lift (wpAny_attempt (yo ha da hb db (e1:=decide (kI n=kI m)) (e2:=decide (kL n=kL m)) (r1:=decide (kI n<kI m)) (r2:=HT.lexLt (kL n) (kL m)) ?_ (Bh I q2.sq q4.sq Rw) (λ_ Q' hq=>oneLt_int hq)
  (λ_ Q' hq=>wj (yd S0.isList Qt.isList (by simpa using intsAre_of v1) (by simpa using intsAre_of v2) Rw) hq) ⟨rfl,?_⟩)))
 ·rw[<-Bool.beq_eq_decide_eq]
  exact EqAt.int_int (kI n) t1 (kI m) t2
 ·refine wpS_pure ?_
  have z:=ho n m OJ Rv
  have e:(if decide (kI n=kI m)=true then(if decide (kL n=kL m)=true then false else HT.lexLt (kL n) (kL m))else decide (kI n<kI m))=decide (Jj p<Jj q):=by
   unfold Jj
   rw[e1,e3]
   show _=decide (iO n<iO m)
   rw[<-z]
   by_cases h1:kI n=kI m
   ·rw[decide_eq_true h1,if_pos rfl,if_pos h1]
    by_cases h2:kL n=kL m
    ·rw[h2,decide_eq_true rfl,if_pos rfl,uH,qm]
    ·rw[decide_eq_false h2,if_neg (by decide),uH]
   ·rw[decide_eq_false h1,if_neg (by decide),if_neg h1]
  rw[e]
  exact h
noncomputable abbrev OK(X:Cx):Cx:={X with A:=X.A.in1.in1,xe:=λ_ _=>False}
section
variable{X:Cx}{pins rest:List (Addr×Obj)}{σ:St}{H:Hp}{s:Shared}{h':Heap}
theorem Lc(ok:X.Ok):(OK X).Ok:=⟨ok.mod,ok.kind,ok.glob,ok.blt,ok.above,ok.inj,ok.has,ok.cab,ok.hd,ok.frames,ok.stk,ok.exf,ok.bs,ok.bsz,ok.noex,ok.exfs,ok.funs,ok.frf⟩
theorem Hn(I:Inv X pins σ H s):Inv (OK X) pins σ H s:=⟨Lc I.ok,I.os,I.bare,I.base,I.loc,I.cell,I.free,I.freeC,I.pin,I.d8,I.len⟩
theorem D8(ok:X.Ok)(I:Inv (OK X) pins σ H s):Inv X pins σ H s:=⟨ok,I.os,I.bare,I.base,I.loc,I.cell,I.free,I.freeC,I.pin,I.d8,I.len⟩
theorem D9{a:Addr}{o:Obj}(I:Inv X (pins++(a,o)::rest) σ H s)(vx:∀p∈X.pn++(pins++rest),p.1≠a)(ha:X.s₀.heap.objs.size<=a):
  s.heap.get? a=some o/\H a=none/\a≠X.env.locals/\a∉X.fs/\(∀v,o.data≠.cell v)/\(∀x c,X.env.cells.lookup x=some c->c≠a):=by
 obtain⟨h1,h2,h3,h4,h5⟩:=I.pin (a,o) (List.mem_append_right _ (List.mem_append_right _ (List.mem_cons_self ..)))
 refine⟨h1,h2,h3,h4,h5,λx c e z=>?_⟩
 obtain⟨v,o',ho,hd⟩:=I.cell x c e
 rw[z,h1]at ho
 cases ho
 exact h5 v hd
theorem m8{a:Addr}{o o':Obj}{t':Nat}(I:Inv X (pins++(a,o)::rest) σ H s)(vx:∀p∈X.pn++(pins++rest),p.1≠a)(ha:X.s₀.heap.objs.size<=a)(hk:∀b u,b≠a->s.heap.get? b=some u->h'.get? b=some u)(hn:h'.get? a=some o')(hc:∀v,o'.data≠.cell v):
  Inv X (pins++(a,o')::rest) σ H {s with heap:=h',toks:=t'}:=by
 obtain⟨h1,h2,h3,h4,h5,h6⟩:=D9 I vx ha
 have I1:Inv X (pins++rest) σ H s:=I.eH λp hp=>I.pin p (List.mem_append_right _ (by
  rcases List.mem_append.mp hp with z|z
  ·exact List.mem_append_left _ z
  ·exact List.mem_append_right _ (List.mem_cons_of_mem _ z)))
 have I2:Inv X (pins++rest) σ H {s with heap:=h',toks:=t'}:=I1.turned (it:=a) hk h2 h3 (.inr ha) h6 vx
 refine I2.eH λp hp=>?_
 rcases List.mem_append.mp hp with z|z
 ·exact I2.pin p (List.mem_append_right _ (List.mem_append_left _ z))
 ·rcases List.mem_cons.mp z with rfl|z
  ·exact⟨hn,h2,h3,h4,hc⟩
  ·exact I2.pin p (List.mem_append_right _ (List.mem_append_right _ z))
theorem Ac{o:Obj}{t':Nat}(I:Inv X pins σ H s)(hc:∀v,o.data≠.cell v)(hk:∀b u,s.heap.get? b=some u->h'.get? b=some u){a:Addr}(ha:s.heap.objs.size<=a)(hn:h'.get? a=some o):Inv X (pins++[(a,o)]) σ H {s with heap:=h',toks:=t'}:=by
 have I1:Inv X pins σ H {s with heap:=h',toks:=t'}:=I.kept hk
 refine I1.eH λp hp=>?_
 rcases List.mem_append.mp hp with z|z
 ·exact I1.pin p (List.mem_append_right _ z)
 ·have e:p=(a,o):=by simpa using z
  subst e
  exact⟨hn,I.d8.fresh ha,Nat.ne_of_gt (Nat.lt_of_lt_of_le I.lt ha),I.A0 ha,hc⟩
theorem Ad(I:Inv X pins σ H s):∀p∈X.pn++pins,p.1<s.heap.objs.size:=λp hp=>Heap.lt_size (I.pin p hp).1
theorem BD{a:Addr}{its:List Value}{n:Nat}{xs:List V}(I:Inv X pins σ H s)(ho:s.heap.get? a=some {cls:=.type "list",data:=.seq its.toArray n})(hn:H a=none)(hL:a≠X.env.locals)(h1:X.s₀.heap.objs.size<=a)(h2:∀x c,X.env.cells.lookup x=some c->c≠a)
  (h3:∀p∈X.pn++pins,p.1≠a)(hv:Vals xs its)(hz:xs.length<=sizeLine):Inv X pins σ (upd H a (.lst xs)) s:=by
 have sm:aH H (upd H a (.lst xs)):=bN hn
 have:=I.step (h':=s.heap) (H':=upd H a (.lst xs)) (g':=s.gens) (d':=s.drawn) (t':=s.toks) (ch:=[a]) (λb hb=>?_) (λb o _ _ _ e _=>e) (λb o _ _ _ e _=>⟨o.slots,e⟩) (λb o hb e n=>?_) (λb o _ e=>⟨o,e⟩)
  (λb xs e=>sm _ _ e) (λb o u e=>sm _ _ e) (λb ps e=>⟨#[],by rw[sm _ _ e];simp⟩) (λm hm=>hm) (λb u e=>?_) I.bare
 ·exact this
 ·have e:b=a:=by simpa using hb
  subst e
  exact⟨.inr h1,hL,h2,h3⟩
 ·rw[aC (by simpa using hb)]
  exact n
 ·by_cases hb:b=a
  ·subst hb
   rw[aU]at e
   cases e
   exact⟨hz,its,n,hv,ho⟩
  ·rw[aC hb]at e
   exact(I.d8 b u e).rD (λc v _ q=>q) (λc q=>sm _ _ q) λc ys q=>sm _ _ q
end
section
variable{X:Cx}{pins:List (Addr×Obj)}{σ:St}{H:Hp}{s:Shared}{κ:Kl}{D kS:Addr}{e1:Nat}{vs:List Value}{ns:List Int}{kI:Int->Int}{kL:Int->List Int}
noncomputable def pj(X:Cx)(pins:List (Addr×Obj))(σ:St)(H:Hp)(D:Addr)(ns:List Int)(s':Shared):Prop:=
 ∃H' out c,aH H H'/\Inv X (pins++[(D,seqObj "list" out c)]) σ H' s'/\Vals ((fL iO ns).map V.int) out.toList
theorem Ea{xs:List (Value×Value)}(hi:IntsAre vs ns)(ok:∀n∈ns,nJ n=true)(keys:List Value)(hl:keys.length=vs.length)(hp:xs.Perm (keys.zip vs))(hs:TS.Sd Jj xs):Vals ((fL iO ns).map V.int) (xs.map (·.2)):=by
 have p1:(xs.map (·.2)).Perm vs:=by
  have:=hp.map (·.2)
  rwa[List.map_snd_zip (by omega)]at this
 have allI:∀v∈xs.map (·.2),∃n t,v=Value.int n t:=λv hv=>by
  obtain⟨n,t,e⟩:=hi.all v (p1.mem_iff.mp hv)
  exact⟨n,t,e⟩
 have i1:=intsAre_map (xs.map (·.2)) allI
 have p2:((xs.map (·.2)).map numOf).Perm ns:=by
  have:=p1.map numOf
  rwa[hi.nums]at this
 have s1:((xs.map (·.2)).map numOf).Pairwise (λa b=>iO a<=iO b):=by
  rw[List.map_map,List.pairwise_map]
  exact hs
 have e:(xs.map (·.2)).map numOf=fL iO ns:=oM (p2.trans (ig iO ns).symm) s1 (kq iO ns) λn hn=>ok n ((ig iO ns).mem_iff.mp hn)
 rw[<-e]
 exact nZ i1
theorem sL{E:Value->Shared->Prop}{st:SortSt}{keys:Array Value}{e:Nat}(I:Inv X (pins++[(kS,seqObj "list" keys e),(D,seqObj "list" #[] e1)]) σ H s)(Jk:kS≠D)(np:∀p∈X.pn++pins,p.1≠kS/\p.1≠D)(aS:X.s₀.heap.objs.size<=kS)(aD:X.s₀.heap.objs.size<=D)
  (hi:IntsAre vs ns)(ok:∀n∈ns,nJ n=true)(mK:keys.size=vs.length)(qp:vs.length<=5000)(hp:(arrOf st).Perm (keys.zip vs.toArray))(hs:TS.Sd Jj (arrOf st).toList)(hf:failedOf st=none){P:PySem.Fin->Shared->Prop}
  {H0:Hp}(sm:aH H0 H)(q:∀s',pj X pins σ H0 D ns s'->P (.done (.ret .none)) s'):wpAny (model X.prog X.w) X.A (ksk_tail D false e1 (.ref kS) st) P E s:=by
 have hk:=(I.pin (kS,seqObj "list" keys e) (List.mem_append_right _ (List.mem_append_right _ (List.mem_cons_self ..)))).1
 have hd:=(I.pin (D,seqObj "list" #[] e1) (List.mem_append_right _ (List.mem_append_right _ (List.mem_cons_of_mem _ (List.mem_cons_self ..))))).1
 have s1:=Heap.SameBut.update s.heap kS (Obj.mapSeq λ_=>(#[]:Array Value))
 have nk:=get?_update_seq hk λ_=>(#[]:Array Value)
 have Mf:(s.heap.update kS (Obj.mapSeq λ_=>(#[]:Array Value))).get? D=some (seqObj "list" #[] e1):=(s1.2 D Jk.symm).trans hd
 have Um:(arrOf st).size=vs.length:=by rw[hp.size_eq,Array.size_zip,mK,List.size_toArray,Nat.min_self]
 have zl:(5000:Nat)<=sizeLine:=by decide
 unfold ksk_tail
 refine wpAny_bind (listUpdate_at hk rfl ?_ (by omega) (Nat.zero_le _))
 refine wpAny_bind (wpAny_letGo ?_)
 refine wpAny_bind (seqEpoch_at Mf rfl ?_)
 refine wpAny_bind (listUpdate_at Mf rfl ?_ (Nat.zero_le _) (by
  simp only[Bool.false_eq_true,if_false,Array.size_map]
  omega))
 rw[hf]
 simp only[bne_self_eq_false,Bool.false_eq_true,if_false]
 refine wpAny_pure (q _ ?_)
 have I1:=m8 (t':=s.toks) I (λp hp=>by
  rcases List.mem_append.mp hp with z|z
  ·exact(np p (List.mem_append_left _ z)).1
  ·rcases List.mem_append.mp z with z|z
   ·exact(np p (List.mem_append_right _ z)).1
   ·have:p=(D,seqObj "list" #[] e1):=by simpa using z
    rw[this]
    exact Jk.symm) aS (λb u hb e=>(s1.2 b hb).trans e) nk (λv z=>by cases z)
 have I2:Inv X ([]++(D,seqObj "list" #[] e1)::pins) σ H {s with heap:=s.heap.update kS (Obj.mapSeq λ_=>(#[]:Array Value)),toks:=s.toks}:=I1.eH λp hp=>by
  rcases List.mem_cons.mp hp with rfl|hp
  ·exact I1.pin _ (List.mem_append_right _ (List.mem_append_right _ (List.mem_cons_of_mem _ (List.mem_cons_self ..))))
  ·exact I1.pin _ (List.mem_append_right _ (List.mem_append_left _ hp))
 have s2:=Heap.SameBut.update (s.heap.update kS (Obj.mapSeq λ_=>(#[]:Array Value))) D (Obj.mapSeq λ_=>(arrOf st).map (·.2))
 obtain⟨c2,nd⟩:∃c2,((s.heap.update kS (Obj.mapSeq λ_=>(#[]:Array Value))).update D (Obj.mapSeq λ_=>(arrOf st).map (·.2))).get? D=some (seqObj "list" ((arrOf st).map (·.2)) c2):=⟨_,get?_update_seq Mf λ_=>(arrOf st).map (·.2)⟩
 have I3:=m8 (t':=s.toks) I2 (λp hp=>(np p (by simpa using hp)).2) aD (λb u hb e=>(s2.2 b hb).trans e) nd (λv z=>by cases z)
 refine⟨H,(arrOf st).map (·.2),c2,sm,I3.eH λp hp=>?_,?_⟩
 ·rcases List.mem_append.mp hp with z|z
  ·exact I3.pin p (List.mem_append_right _ (List.mem_append_right _ (List.mem_cons_of_mem _ z)))
  ·have:p=(D,seqObj "list" ((arrOf st).map (·.2)) c2):=List.mem_singleton.mp z
   rw[this]
   exact I3.pin _ (List.mem_append_right _ (List.mem_append_right _ (List.mem_cons_self ..)))
 ·have:=Ea (xs:=(arrOf st).toList) hi ok keys.toList (by simpa using mK) (by
    have:=Array.perm_iff_toList_perm.mp hp
    rwa[ksk_zip]at this) hs
  simpa using this
theorem Eb{E:Value->Shared->Prop}{keys:Array Value}{e:Nat}(I:Inv X (pins++[(kS,seqObj "list" keys e),(D,seqObj "list" #[] e1)]) σ H s)(Jk:kS≠D)(np:∀p∈X.pn++pins,p.1≠kS/\p.1≠D)(aS:X.s₀.heap.objs.size<=kS)(aD:X.s₀.heap.objs.size<=D)(hu:X.A.units+5<cLine)
  (ho:∀n m,nJ n=true->nJ m=true->(if kI n=kI m then og (kL n) (kL m)else decide (kI n<kI m))=decide (iO n<iO m))
  (hi:IntsAre vs ns)(ok:∀n∈ns,nJ n=true)(mK:keys.size=vs.length)(qp:vs.length<=5000)(hg:∀p∈keys.toList.zip vs,BB X.K κ H kI kL p){P:PySem.Fin->Shared->Prop}
  {H0:Hp}(sm:aH H0 H)(q:∀s',pj X pins σ H0 D ns s'->P (.done (.ret .none)) s'):wpAny (model X.prog X.w) X.A (ksk_end D false vs.toArray e1 (.ref kS) keys) P E s:=by
 have gd:TS.Gd (BB X.K κ H kI kL) (keys.zip vs.toArray):=λp hp=>hg p (by rwa[ksk_zip]at hp)
 unfold ksk_end
 simp only[Bool.false_eq_true,if_false]
 by_cases h2:vs.toArray.size<2
 ·rw[if_pos h2,if_pos h2]
  refine wpAny_bind (wpAny_pure ?_)
  rw[StateT.run_pure]
  refine wpAny_bind (wpAny_pure ?_)
  try dsimp only
  refine sL (st:=SortSt.mk' general' (keys.zip vs.toArray) #[] 7 none) I Jk np aS aD hi ok mK qp (Array.Perm.refl _) ?_ rfl sm q
  show TS.Sd Jj (keys.zip vs.toArray).toList
  rw[List.size_toArray]at h2
  have hl:(keys.zip vs.toArray).toList.length<=1:=by
   rw[Array.length_toList,Array.size_zip,mK,List.size_toArray]
   omega
  generalize(keys.zip vs.toArray).toList=l at hl
  match l,hl with
  |[],_=>exact List.Pairwise.nil
  |[x],_=>exact List.pairwise_singleton _ _
  |_::_::_,hl=>simp at hl
 ·rw[if_neg h2,if_neg h2]
  have vx:keys.toList≠[]:=λz=>by
   have:keys.size=0:=by rw[<-Array.length_toList,z];rfl
   rw[List.size_toArray]at h2
   omega
  have ek:keys=keys.toList.toArray:=by simp
  have Ld:∀v∈keys.toList,∃i,uK s.heap v i:=λv hv=>by
   obtain⟨j,hj,e⟩:=List.getElem_of_mem hv
   have NA:j<vs.length:=by rw[<-mK,<-Array.length_toList];exact hj
   have hm:(v,vs[j])∈keys.toList.zip vs:=by
    rw[List.mem_iff_getElem?]
    exact⟨j,by rw[List.getElem?_zip_eq_some];exact⟨by rw[<-e];exact List.getElem?_eq_getElem hj,List.getElem?_eq_getElem NA⟩⟩
   exact(hg _ hm).pair I
  have S1:∀(Q:SortKind->Shared->Prop),Q (tuples' true) s->wpAny (model X.prog X.w) X.A (keyKind' keys) Q E s:=λQ hq=>by
   rw[ek]
   exact rN Ld vx hq
  refine wpAny_bind (S1 _ ?_)
  refine wpAny_bind (wpAny_mono (TS.vN (BC I hu ho) gd (st:=SortSt.mk' (tuples' true) (keys.zip vs.toArray) #[] 7 none)
   (Q:=λ_ a9=>TS.Bs (tuples' true) (keys.zip vs.toArray) a9/\TS.Sd Jj (arrOf a9).toList) ⟨Array.Perm.refl _,rfl,rfl⟩ rfl λa9 B sd=>⟨B,sd⟩) ?_ λ_ _ e=>e)
  rintro⟨⟨⟩,a9⟩ s' ⟨rfl,B,sd⟩
  try dsimp only
  exact sL I Jk np aS aD hi ok mK qp B.pm sd B.f sm q
theorem BE{E:Value->Shared->Prop}{k:Nat}{f:Addr}{fd:FuncData}{x:Str}{F:List PV->Option PV}(FO:cM X.prog X.w X.K X.mg X.base iK k f fd [x] (uD X.K κ false F))(hr:ck k X.A)(hb:Binds X.K fd [x] [])(hx:∀e s',¬X.xe e s')
  (hF:∀n,nJ n=true->F [.int n]=some (.tup [.int (kI n),.lst ((kL n).map PV.int)]))
  (I:Inv X (pins++[(kS,seqObj "list" #[] 0),(D,seqObj "list" #[] e1)]) σ H s)(Jk:kS≠D)(np:∀p∈X.pn++pins,p.1≠kS/\p.1≠D)(aS:X.s₀.heap.objs.size<=kS)(aD:X.s₀.heap.objs.size<=D)
  (ho:∀n m,nJ n=true->nJ m=true->(if kI n=kI m then og (kL n) (kL m)else decide (kI n<kI m))=decide (iO n<iO m))
  (hi:IntsAre vs ns)(ok:∀n∈ns,nJ n=true)(qp:vs.length<=5000){P:PySem.Fin->Shared->Prop}
  (q:∀s',pj X pins σ H D ns s'->P (.done (.ret .none)) s'):wpAny (model X.prog X.w) X.A (ksk_rest D (.ref f) false vs.toArray e1 (.ref kS)) P E s:=by
 have zl:(5000:Nat)<=sizeLine:=by decide
 unfold ksk_rest
 refine wpAny_bind (wpAny_rule ?_)
 rw[List.forIn_toArray]
 refine wpAny_bind (ksk_fold (λi s'=>∃H' kA e,kA.size=i/\Inv X (pins++[(kS,seqObj "list" kA e),(D,seqObj "list" #[] e1)]) σ H' s'/\aH H H'/\∀p∈kA.toList.zip vs,BB X.K κ H' kI kL p) vs 0 s
  ⟨H,#[],0,rfl,I,aH.refl _,by simp⟩ ?step ?done)
 case step=>
  rintro j v s' hv ⟨H',kA,e,mK,I',sm,hk⟩
  rw[Nat.zero_add]at mK⊢
  have hj:j<vs.length:=(List.getElem?_eq_some_iff.mp hv).1
  obtain⟨n,t,rfl⟩:=hi.all v (List.mem_of_getElem? hv)
  have hn:nJ n=true:=by
   have h1:=hi.nums
   have h2:(vs.map numOf)[j]?=some n:=by rw[List.getElem?_map,hv];rfl
   rw[h1]at h2
   exact ok n (List.mem_of_getElem? h2)
  have IL:uD X.K κ false F [.int n] H' (λv H2=>aH H' H2/\Rep X.K κ H2 v (.tup [.int (kI n),.lst ((kL n).map PV.int)])) E0:=
   ⟨λ_=>False,[.int n],_,λ_ z=>z.elim,.cons (.int n) .nil,hF n hn,λv H2 s z=>⟨s,Rep.mono aB z⟩⟩
  refine wpAny_bind (wpAny_attempt (wpAny_mono (nV FO hr hb .nil kc I' (.cons ⟨t,rfl⟩ .nil:Vals [.int n] [.int n t]) IL) (λu s2 hu=>?_) λe' s2 Qu=>(hx _ _ Qu).elim))
  obtain⟨v',H2,I2,rv,nH,rp⟩:=hu
  try dsimp only
  have nk:=(I2.pin (kS,seqObj "list" kA e) (List.mem_append_right _ (List.mem_append_right _ (List.mem_cons_self ..)))).1
  have s1:=Heap.SameBut.update s2.heap kS (Obj.mapSeq (·.push u))
  obtain⟨c2,OA⟩:∃c2,(s2.heap.update kS (Obj.mapSeq (·.push u))).get? kS=some (seqObj "list" (kA.push u) c2):=⟨_,get?_update_seq nk (·.push u)⟩
  refine wpAny_bind (listUpdate_at nk rfl ?_ (by omega) (Nat.le_trans (Nat.le_of_eq (Array.size_push ..)) (by omega)))
  refine wpAny_pure ⟨rfl,H2,kA.push u,c2,by rw[Array.size_push,mK],?_,sm.trans nH,λp hp=>?_⟩
  ·exact m8 (t':=s2.toks) I2 (λp hp=>by
    rcases List.mem_append.mp hp with z|z
    ·exact(np p (List.mem_append_left _ z)).1
    ·rcases List.mem_append.mp z with z|z
     ·exact(np p (List.mem_append_right _ z)).1
     ·have:p=(D,seqObj "list" #[] e1):=List.mem_singleton.mp z
      rw[this]
      exact Jk.symm) aS (λb o hb e=>(s1.2 b hb).trans e) OA (λv z=>by cases z)
  ·obtain⟨i,hp⟩:=List.mem_iff_getElem?.mp hp
   obtain⟨g1,g2⟩:=List.getElem?_zip_eq_some.mp hp
   rw[Array.toList_push,List.getElem?_append]at g1
   split at g1
   ·obtain⟨n',t',a,z1,z2,z3,z4⟩:=hk p (List.mem_iff_getElem?.mpr ⟨i,List.getElem?_zip_eq_some.mpr ⟨g1,g2⟩⟩)
    exact⟨n',t',a,z1,z2,z3,z4.mono nH⟩
   ·rename_i fF
    have Qr:i=j:=by
     have:=(List.getElem?_eq_some_iff.mp g1).1
     rw[Array.length_toList,mK]at this fF
     simp at this
     omega
    subst Qr
    rw[Array.length_toList,mK,Nat.sub_self]at g1
    simp at g1
    rw[hv]at g2
    cases rp with
    |tup q1 w=>
     cases rv
     exact⟨n,t,_,hn,(Option.some.inj g2).symm,g1.symm,.tup q1 w⟩
 case done=>
  rintro s' ⟨H',kA,e,mK,I',sm,hk⟩
  rw[Nat.zero_add]at mK
  have nk:=(I'.pin (kS,seqObj "list" kA e) (List.mem_append_right _ (List.mem_append_right _ (List.mem_cons_self ..)))).1
  try dsimp only
  refine wpAny_bind (listItems_at nk rfl ?_)
  exact Eb I' Jk np aS aD (by have:=hr.units;omega) ho hi ok mK qp hk sm q
theorem BF{E:Value->Shared->Prop}{k n:Nat}{f:Addr}{fd:FuncData}{x:Str}{F:List PV->Option PV}(FO:cM X.prog X.w X.K X.mg X.base iK k f fd [x] (uD X.K κ false F))(hr:ck k X.A)(hb:Binds X.K fd [x] [])(hx:∀e s',¬X.xe e s')
  (hF:∀n,nJ n=true->F [.int n]=some (.tup [.int (kI n),.lst ((kL n).map PV.int)]))
  (I:Inv X (pins++[(D,seqObj "list" vs.toArray n)]) σ H s)(np:∀p∈X.pn++pins,p.1≠D)(aD:X.s₀.heap.objs.size<=D)
  (ho:∀n m,nJ n=true->nJ m=true->(if kI n=kI m then og (kL n) (kL m)else decide (kI n<kI m))=decide (iO n<iO m))
  (hi:IntsAre vs ns)(ok:∀n∈ns,nJ n=true)(qp:vs.length<=5000){P:PySem.Fin->Shared->Prop}
  (q:∀s',pj X pins σ H D ns s'->P (.done (.ret .none)) s'):wpAny (model X.prog X.w) X.A (ksk_tree D (.ref f) false) P E s:=by
 have zl:(5000:Nat)<=sizeLine:=by decide
 have hd:=(I.pin (D,seqObj "list" vs.toArray n) (List.mem_append_right _ (List.mem_append_right _ (List.mem_cons_self ..)))).1
 have s1:=Heap.SameBut.update s.heap D (Obj.mapSeq λ_=>(#[]:Array Value))
 obtain⟨e1,Mf⟩:∃e1,(s.heap.update D (Obj.mapSeq λ_=>(#[]:Array Value))).get? D=some (seqObj "list" #[] e1):=⟨_,get?_update_seq hd λ_=>#[]⟩
 unfold ksk_tree
 refine wpAny_bind (listItems_at hd rfl ?_)
 refine wpAny_bind (listUpdate_at hd rfl ?_ (by rw[List.size_toArray];omega) (Nat.zero_le _))
 refine wpAny_bind (seqEpoch_at Mf rfl ?_)
 refine wpAny_bind (wpAny_newTuple ?_ (by show vs.length<=_;omega))
 refine wpAny_bind (wpAny_newList ?_ (Nat.zero_le _))
 refine wpAny_holding ?_
 have I1:=m8 (t':=s.toks) I (λp hp=>np p (by simpa using hp)) aD (λb u hb e=>(s1.2 b hb).trans e) Mf (λv z=>by cases z)
 have I2:Inv X (pins++[(D,seqObj "list" #[] e1)]) σ H {s with heap:=(s.heap.update D (Obj.mapSeq λ_=>(#[]:Array Value))).push (seqObj "tuple" vs.toArray 0),toks:=s.toks}:=I1.kept (t':=s.toks) λb o e=>Heap.get?_push_of_some _ e
 have I3:=Ac (o:=seqObj "list" #[] 0) (t':=s.toks) I2 (λv z=>by cases z) (λb o e=>Heap.get?_push_of_some _ e) (Nat.le_refl _) (Heap.get?_push_size _ rfl)
 have OI:=Ad I2
 have hD:D<((s.heap.update D (Obj.mapSeq λ_=>(#[]:Array Value))).push (seqObj "tuple" vs.toArray 0)).objs.size:=OI (D,seqObj "list" #[] e1) (List.mem_append_right _ (List.mem_append_right _ (List.mem_cons_self ..)))
 refine BE FO hr hb hx hF (kS:=((s.heap.update D (Obj.mapSeq λ_=>(#[]:Array Value))).push (seqObj "tuple" vs.toArray 0)).objs.size) (I3.eH λp hp=>?_) (Nat.ne_of_gt hD) (λp hp=>⟨Nat.ne_of_lt (OI p ?_),np p hp⟩) (Nat.le_trans aD (Nat.le_of_lt hD)) aD ho hi ok qp q
 ·refine I3.pin p (List.mem_append_right _ ?_)
  rcases List.mem_append.mp hp with z|z
  ·exact List.mem_append_left _ (List.mem_append_left _ z)
  ·rcases List.mem_cons.mp z with rfl|z
   ·exact List.mem_append_right _ (List.mem_cons_self ..)
   ·exact List.mem_append_left _ (List.mem_append_right _ z)
 ·rcases List.mem_append.mp hp with z|z
  ·exact List.mem_append_left _ z
  ·exact List.mem_append_right _ (List.mem_append_left _ z)
end
section
variable{X:Cx}{pins:List (Addr×Obj)}{σ:St}{H:Hp}{s:Shared}{κ:Kl}{vs:List Value}{ns:List Int}
theorem m9{k:Nat}{f:Addr}{fd:FuncData}{x:Str}{F:List PV->Option PV}{Q:VK}(FO:cM X.prog X.w X.K X.mg X.base iK k f fd [x] (uD X.K κ false F))(hr:ck k X.A.in1.in1)(hb:Binds X.K fd [x] [])(hK:hV F)
  (I:Inv X pins σ H s)(hi:IntsAre vs ns)(ok:kj ns=true)(q:∀D H',aH H H'->H' D=none->Q (.ref D) (upd H' D (.lst ((fL iO ns).map V.int)))):
  wpAny (model X.prog X.w) X.A.in1 (do let l<-newList vs;let _<-holding [l] (call (.builtin "list.sort") [l] [(Str.ofString "key",.ref f)]);ret l) (λfin s'=>∃v,fin=.done (.ret v)/\EP X pins σ Q v s') X.xe s:=by
 have zl:(5000:Nat)<=sizeLine:=by decide
 obtain⟨kI,kL,hF,ho⟩:=hK
 unfold kj at ok
 simp only[Bool.and_eq_true,decide_eq_true_eq,List.all_eq_true]at ok
 have hlen:=hi.length
 refine wpAny_bind (wpAny_newList ?_ (by omega))
 have I1:=Ac (o:=seqObj "list" vs.toArray 0) (t':=s.toks) I (λv z=>by cases z) (λb o e=>Heap.get?_push_of_some _ e) (Nat.le_refl _) (Heap.get?_push_size _ rfl)
 have O3:(s.heap.push (seqObj "list" vs.toArray 0)).get? s.heap.objs.size=some (seqObj "list" vs.toArray 0):=Heap.get?_push_size _ rfl
 have np:∀p∈X.pn++pins,p.1≠s.heap.objs.size:=λp hp=>Nat.ne_of_lt (Ad I p hp)
 refine wpAny_bind (wpAny_holding (wpAny_call_entry_kw slot_list_sort ⟨_,O3,rfl⟩ entry_list_sort ?body (ksk_l1 _ _)))
 case body=>
  rw[ksk_t1]
  refine BF (X:=OK X) (pins:=pins) (σ:=σ) (H:=H) (D:=s.heap.objs.size) (n:=0) FO hr hb (λ_ _ z=>z) hF (Hn I1) np I.sz ho hi ok.1 (by omega) λs' NB=>⟨_,rfl,?_⟩
  obtain⟨H',out,c,sm,I2,hv⟩:=NB
  have I3:=D8 I.ok I2
  have S2:=D9 (rest:=[]) I3 (λp hp=>np p (by simpa using hp)) I.sz
  obtain⟨h1,h2,h3,h4,h5,h6⟩:=S2
  have I4:Inv X pins σ H' s':=I3.eH λp hp=>I3.pin p (List.mem_append_right _ (List.mem_append_left _ hp))
  have hz:((fL iO ns).map V.int).length<=sizeLine:=by
   rw[List.length_map,(ig iO ns).length_eq]
   omega
  refine wpAny_pure ⟨_,rfl,.ref _,_,BD (its:=out.toList) (n:=c) I4 (by simpa using h1) h2 h3 I.sz h6 np hv hz,rfl,q _ H' sm h2⟩
theorem oi{k:Nat}{f l:Addr}{fd:FuncData}{x:Str}{F:List PV->Option PV}{Q:VK}(FO:cM X.prog X.w X.K X.mg X.base iK k f fd [x] (uD X.K κ false F))(hr:ck k X.A.in1.in1)(hb:Binds X.K fd [x] [])(hK:hV F)
  (I:Inv X pins σ H s)(hq:gc X.K H l (ns.map V.int))(ok:kj ns=true)(q:∀D H',aH H H'->H' D=none->Q (.ref D) (upd H' D (.lst ((fL iO ns).map V.int)))):
  wpAny (model X.prog X.w) X.A (call (.builtin "sorted") [.ref l] [(Str.ofString "key",.ref f)]) (EP X pins σ Q) X.xe s:=by
 obtain⟨its,rv,pl,hz⟩:=I.list hq
 have hi:=intsAre_of rv
 refine call_function_entry_kw kind_sorted plain_sorted entry_sorted (ksk_s1 _ _) ?_
 unfold Builtin.«sorted»
 refine wpAny_bind (m:=checkCount "sorted" 1 1 _) (wpAny_pure ?_)
 refine wpAny_bind (collect_list pl.isList ?_ (by rw[<-rv.length];exact hz))
 have I1:Inv X pins σ H {s with heap:=(s.heap.push (seqObj "list" #[] 0)).update s.heap.objs.size (Obj.mapSeq (·++its.toArray)),toks:=s.toks}:=I.kept λb o e=>by
  have fF:b<s.heap.objs.size:=Heap.lt_size e
  rw[Heap.get?_update_ne _ _ _ _ (Nat.ne_of_lt fF)]
  exact Heap.get?_push_of_some _ e
 exact m9 FO hr hb hK I1 hi ok q
end
section
variable{prog:Program}{w:World}{A:Around}{E:Value->Shared->Prop}{s:Shared}
theorem rO:∀(n:Nat) (acc:List Value),acc.length=n->(∀j v,acc[j]?=some v->∃t,v=Value.int ((j:Nat):Int) t)->∃ns,ns=(List.range n).map (λ(k:Nat)=>(k:Int))/\IntsAre acc ns:=by
 have go:∀(acc:List Value) (i:Nat),(∀j v,acc[j]?=some v->∃t,v=Value.int ((i+j:Nat):Int) t)->IntsAre acc ((List.range' i acc.length).map (λ(k:Nat)=>(k:Int))):=by
  intro acc
  induction acc with
  |nil=>intro i _;exact .nil
  |cons v acc ih=>
   intro i h
   obtain⟨t,rfl⟩:=h 0 v rfl
   rw[List.length_cons,List.range'_succ,List.map_cons]
   refine .cons _ t (ih (i+1) λj v e=>?_)
   obtain⟨t,e⟩:=h (j+1) v (by simpa using e)
   exact⟨t,by rw[e];congr 2;omega⟩
 intro n acc hl h
 refine⟨_,rfl,?_⟩
 have:=go acc 0 (λj v e=>by simpa using h j v e)
 rwa[hl,<-List.range_eq_range']at this
theorem rP{r:Addr}{n:Nat}{j:Int}{t u v:Tok}{Q:List Value->Shared->Prop}(hh:A.handled=none)(hr:IsRange s.heap r 0 j 1 t u v)(hj:j.toNat=n)(hn:n<=100000)(h0:-(2^62)<=j)
  (h:∀h' tk vs,(∀b o,s.heap.get? b=some o->h'.get? b=some o)->IntsAre vs ((List.range n).map (λ(k:Nat)=>(k:Int)))->Q vs {s with heap:=h',toks:=tk}):wpAny (model prog w) A (collect (.ref r)) Q E s:=by
 have NA:j<2^62:=by omega
 unfold collect
 refine wpAny_bind (wpAny_runValue (codeAny_builtin entry_proto_collect' ?_))
 show wpAny _ _ (do again (.builtin "list.__iadd__" ⟨[<-newList [],.ref r],[]⟩)) _ _ s
 refine wpAny_bind (wpAny_newList (wpAny_pure ⟨Code.quiet_builtin _ (by decide+kernel),codeAny_builtin entry_list_iadd' ?_⟩))
 show wpAny _ _ (Builtin.List.listExtendWith (.ref s.heap.objs.size) (.ref r) (.ref s.heap.objs.size)) _ _ {s with heap:=s.heap.push (seqObj "list" #[] 0)}
 rw[Around.under_plainId (show plainId "list.__iadd__" =true by decide+kernel) _]
 refine wpAny_extend_range (R:=λr s'=>match r with|.ok (.ret v)=>wpAny (model prog w) A (match v with|.ref a=>(do let o<-load a;match o.data with|.seq xs _=>pure xs.toList|_=>unsupported "internal:collect")|_=>unsupported "internal:collect") Q E s'|.ok _=>False|.error e=>E e s') (s:={s with heap:=s.heap.push (seqObj "list" #[] 0)}) (n:=n) (c₀:=0) hh (Heap.get?_push_of_some _ hr) (a:=0) (b:=j) (c:=1) (small_one (by decide) (by decide) h0 NA) (by rw[rangeSize_one];split<;>omega) (by omega) s.heap.objs.size _ (Heap.get?_push_size _ rfl) λh' tk acc c hk hS hI=>?_
 refine wpAny_bind (wpAny_load hS ?_)
 obtain⟨ns,rfl,hi⟩:=rO n acc.toList (by rw[Array.length_toList];exact hI.1) (λj v e=>by
  obtain⟨t,e'⟩:=hI.2 j v (by simpa using e)
  exact⟨t,by rw[e'];simp⟩)
 exact wpAny_pure (h h' tk acc.toList (λb o e=>hk b o (Nat.ne_of_lt (Heap.lt_size e)) (Heap.get?_push_of_some _ e)) hi)
end
section
variable{X:Cx}{κ:Kl}{k:Nat}{f:Addr}{fd:FuncData}{x:Str}{F:List PV->Option PV}
noncomputable def Qv(K:PySem.W.Frag)(v:V)(H:Hp)(ns:List Int):Prop:=∃l,v=.ref l/\(gc K H l (ns.map V.int)\/∃j:Int,H l=some (.rng 0 j)/\-(2^62)<=j/\j.toNat<=100000/\ns=(List.range j.toNat).map (λ(k:Nat)=>(k:Int)))
theorem wm{pins:List (Addr×Obj)}{σ:St}{H:Hp}{s:Shared}{ns:List Int}{v:V}{u:Value}{Q:VK}(hc:X.calm=true)(FO:cM X.prog X.w X.K X.mg X.base iK k f fd [x] (uD X.K κ false F))(hr:ck k X.A.in1.in1)(hb:Binds X.K fd [x] [])(hK:hV F)
  (I:Inv X pins σ H s)(rv:RelV v u)(hq:Qv X.K v H ns)(ok:kj ns=true)(q:∀D H',aH H H'->H' D=none->Q (.ref D) (upd H' D (.lst ((fL iO ns).map V.int)))):
  wpAny (model X.prog X.w) X.A (call (.builtin "sorted") [u] [(Str.ofString "key",.ref f)]) (EP X pins σ Q) X.xe s:=by
 obtain⟨l,rfl,hq⟩:=hq
 cases rv
 rcases hq with hq|⟨j,hq,h1,h2,rfl⟩
 ·exact oi FO hr hb hK I hq ok q
 ·obtain⟨t,u,v,Qw⟩:=I.d8 l _ hq
  refine call_function_entry_kw kind_sorted plain_sorted entry_sorted (ksk_s1 _ _) ?_
  unfold Builtin.«sorted»
  refine wpAny_bind (m:=checkCount "sorted" 1 1 _) (wpAny_pure ?_)
  refine wpAny_bind (rP (A:=X.A.in1) (I.ok.hd hc) Qw rfl h2 h1 λh' tk vs hk hi=>?_)
  exact m9 FO hr hb hK (I.kept (t':=tk) hk) hi ok q
noncomputable def NC(K:PySem.W.Frag)(te:TE):TE:=λσ H Q=>te σ H λv H1=>∃ns,Qv K v H1 ns/\kj ns=true/\∀D H',aH H1 H'->H' D=none->Q (.ref D) (upd H' D (.lst ((fL iO ns).map V.int)))
theorem sM{p px pos kp:Pos}{a:Expr}{y:Str}{te:TE}(FO:cM X.prog X.w X.K X.mg X.base iK k f fd [x] (uD X.K κ false F))(hr:ck (k+2) X.A)(hb:Binds X.K fd [x] [])(hK:hV F)(hm:X.mg "sorted" =none)(hy:X.mg y=some (.ref f))(ha:PE X a te)
  (hg:Gl X "sorted" :=by rfl)(ND:Gl X y:=by rfl)(hc:X.calm=true:=by rfl)(NF:(y==("__debug__" :Str))=false:=by decide)(hs:starEach [a] X.env=(false,eval a X.env)::starEach [] X.env:=by rfl)(NG:backTo pos (starEach [a] X.env)=(false,eval a X.env)::backTo pos (starEach [] X.env):=by rfl)
  (F6:(backToKw pos (keywordEach [⟨some "key",.Name y px,kp⟩] X.env)).filterMap (·.1)=[Str.ofString "key"]:=by rfl)(tU:(backToKw pos (keywordEach [⟨some "key",.Name y px,kp⟩] X.env)).all (·.1.isSome)=true:=by rfl)(NH:(backToKw pos (keywordEach [⟨some "key",.Name y px,kp⟩] X.env)).any (·.1.isNone)=false:=by rfl)
  (hpl:(backTo pos (starEach [a] X.env)).any (·.1)=false:=by rfl):PE X (.Call (.Name "sorted" p) [a] [⟨some "key",.Name y px,kp⟩] pos) (NC X.K te):=by
 intro pins s σ H Q I h
 refine wpAny_Call_Name_kw (j7 I hg hm PyProof.Rows.boot_sorted ?_)
 have hA:=(bG ha cq hs) pos pins s σ H (λvs H1=>match vs with|[v]=>(∃ns,Qv X.K v H1 ns/\kj ns=true/\∀D H',aH H1 H'->H' D=none->Q (.ref D) (upd H' D (.lst ((fL iO ns).map V.int))))|_=>False) I h
 refine PyProof.Rows.callWith_kw (dS hA λus s1 cy=>?_) NG hpl tU NH
 obtain⟨vs,H1,I1,r1,q1⟩:=cy
 try dsimp only at q1
 split at q1
 ·rename_i v
  obtain⟨ns,S5,ok,q⟩:=q1
  obtain⟨u,rfl,ru⟩:=r1.one
  have S6:=(GB (nm:=some "key") (kpos:=kp) (Gn (pos:=px) (v:=.ref f) ND hy rfl NF) J5:PK X [⟨some "key",.Name y px,kp⟩] _) pos pins s1 σ H1 (λzs H2=>zs=[.ref f]/\H2=H1) I1 ⟨rfl,rfl⟩
  refine dS S6 λws s2 cy=>?_
  obtain⟨zs,H2,I2,rz,e1,e2⟩:=cy
  subst e1 e2
  obtain⟨u2,rfl,Qo⟩:=rz.one
  cases Qo
  rw[F6]
  exact wm hc FO (hr.in1).in1 hb hK I2 ru S5 ok q
 ·exact q1.elim
theorem BG{p pos:Pos}{a:Expr}{te:TE}(hm:X.mg "range" =none)(ha:PE X a te)(hg:Gl X "range" :=by rfl)(hs:starEach [a] X.env=[(false,eval a X.env)]:=by rfl):
  PE X (.Call (.Name "range" p) [a] [] pos) (λσ H Q=>te σ H λv H1=>∃j:Int,v=.int j/\∀l,H1 l=none->Q (.ref l) (upd H1 l (.rng 0 j))):=by
 intro pins s σ H Q I h
 have hA:=(bG ha cq hs) pos pins s σ H (λvs H1=>match vs with|[v]=>(∃j:Int,v=.int j/\∀l,H1 l=none->Q (.ref l) (upd H1 l (.rng 0 j)))|_=>False) I h
 refine Call_ (j7 I hg hm boot_range (PyProof.Rows.callWith_type1 (dS hA λus s1 cy=>?_) hs rfl))
 obtain⟨vs,H1,I1,r1,q1⟩:=cy
 try dsimp only at q1
 split at q1
 ·obtain⟨j,rfl,q⟩:=q1
  obtain⟨u,rfl,t,rfl⟩:=r1.one
  refine call_range_1 ⟨.ref s1.heap.objs.size,_,I1.laid (a:=s1.heap.objs.size) (o:=.rng 0 j) (t':=s1.toks+1+1) (λb o e=>Heap.get?_push_of_some _ e) (Nat.le_refl _) ?_,rfl,q _ I1.fresh⟩
  exact⟨_,_,_,Heap.get?_push_size _ rfl⟩
 ·exact q1.elim
theorem yq{p px pos kp:Pos}{a:Expr}{y:Str}{fa:Den}(FO:cM X.prog X.w X.K X.mg X.base iK k f fd [x] (uD X.K κ false F))(hr:ck (k+2) X.A)(hb:Binds X.K fd [x] [])(hK:hV F)(hm:X.mg "sorted" =none)(hy:X.mg y=some (.ref f))(ha:DB X κ a fa)
  (hg:Gl X "sorted" :=by rfl)(ND:Gl X y:=by rfl)(hc:X.calm=true:=by rfl)(NF:(y==("__debug__" :Str))=false:=by decide)(hs:starEach [a] X.env=(false,eval a X.env)::starEach [] X.env:=by rfl)(NG:backTo pos (starEach [a] X.env)=(false,eval a X.env)::backTo pos (starEach [] X.env):=by rfl)
  (F6:(backToKw pos (keywordEach [⟨some "key",.Name y px,kp⟩] X.env)).filterMap (·.1)=[Str.ofString "key"]:=by rfl)(tU:(backToKw pos (keywordEach [⟨some "key",.Name y px,kp⟩] X.env)).all (·.1.isSome)=true:=by rfl)(NH:(backToKw pos (keywordEach [⟨some "key",.Name y px,kp⟩] X.env)).any (·.1.isNone)=false:=by rfl)
  (hpl:(backTo pos (starEach [a] X.env)).any (·.1)=false:=by rfl):DO X κ (.Call (.Name "sorted" p) [a] [⟨some "key",.Name y px,kp⟩] pos) (oI (nList fa)):=by
 obtain⟨ta,h1,h2⟩:=ha
 refine⟨_,sM FO hr hb hK hm hy h1 hg ND hc NF hs NG F6 tU NH hpl,λ{G A bo own ρ σ H p Q} r e q=>?_⟩
 obtain⟨l,e1,e2⟩:=Option.bind_eq_some_iff.mp e
 obtain⟨p1,e3,e4⟩:=Option.bind_eq_some_iff.mp e1
 obtain⟨ns,e5,e6⟩:=Option.bind_eq_some_iff.mp e2
 obtain⟨ok,rfl⟩:=bC e6
 refine h2 r e3 λv H1 s1 b1=>?_
 cases p1<;>first|(cases e4;done)|skip
 cases e4
 obtain⟨a,vs,rfl,q1,q2⟩:=b1.lst aB
 rw[uI q2 e5]at q1
 refine⟨ns,⟨a,rfl,.inl q1.sq⟩,ok,λD H2 s2 hD=>?_⟩
 have yn:=s1.trans s2
 refine q _ _ (yn.trans (bN hD)) ?_
 obtain⟨a,ws,l,w1,w2,w3,w4⟩:=(r.mono yn).v3 hD (ints_rep (κ:=κ) (fL iO ns))
 refine⟨a,ws,l,w1,w2,?_,w4⟩
 cases w1
 exact yn.free hD
theorem wo:∀n:Nat,eA (cR 0 n)=some ((List.range n).map (λ(k:Nat)=>(k:Int))):=λn=>by
 have:cR 0 n=((List.range n).map (λ(k:Nat)=>(k:Int))).map PV.int:=by
  unfold cR
  rw[List.map_map]
  congr 1
  funext k
  simp
 rw[this,iw]
theorem yr{p px pos kp p2 BH:Pos}{a:Expr}{y:Str}{fa:Den}(FO:cM X.prog X.w X.K X.mg X.base iK k f fd [x] (uD X.K κ false F))(hr:ck (k+2) X.A)(hb:Binds X.K fd [x] [])(hK:hV F)(hm:X.mg "sorted" =none)(S7:X.mg "range" =none)(hy:X.mg y=some (.ref f))(ha:DB X κ a fa)
  (hg:Gl X "sorted" :=by rfl)(S8:Gl X "range" :=by rfl)(S9:starEach [a] X.env=[(false,eval a X.env)]:=by rfl)(ND:Gl X y:=by rfl)(hc:X.calm=true:=by rfl)(NF:(y==("__debug__" :Str))=false:=by decide)(hs:starEach [.Call (.Name "range" p2) [a] [] BH] X.env=(false,eval (.Call (.Name "range" p2) [a] [] BH) X.env)::starEach [] X.env:=by rfl)
  (NG:backTo pos (starEach [.Call (.Name "range" p2) [a] [] BH] X.env)=(false,eval (.Call (.Name "range" p2) [a] [] BH) X.env)::backTo pos (starEach [] X.env):=by rfl)
  (F6:(backToKw pos (keywordEach [⟨some "key",.Name y px,kp⟩] X.env)).filterMap (·.1)=[Str.ofString "key"]:=by rfl)(tU:(backToKw pos (keywordEach [⟨some "key",.Name y px,kp⟩] X.env)).all (·.1.isSome)=true:=by rfl)(NH:(backToKw pos (keywordEach [⟨some "key",.Name y px,kp⟩] X.env)).any (·.1.isNone)=false:=by rfl)
  (hpl:(backTo pos (starEach [.Call (.Name "range" p2) [a] [] BH] X.env)).any (·.1)=false:=by rfl):DO X κ (.Call (.Name "sorted" p) [.Call (.Name "range" p2) [a] [] BH] [⟨some "key",.Name y px,kp⟩] pos) (oI (cO fa)):=by
 obtain⟨ta,h1,h2⟩:=ha
 refine⟨_,sM FO hr hb hK hm hy (BG S7 h1 S8 S9) hg ND hc NF hs NG F6 tU NH hpl,λ{G A bo own ρ σ H p Q} r e q=>?_⟩
 obtain⟨l,e1,e2⟩:=Option.bind_eq_some_iff.mp e
 obtain⟨p1,e3,e4⟩:=Option.bind_eq_some_iff.mp e1
 obtain⟨j,e7,e8⟩:=Option.bind_eq_some_iff.mp e4
 obtain⟨hj,e9⟩:=bC e8
 obtain⟨ns,e5,e6⟩:=Option.bind_eq_some_iff.mp e2
 obtain⟨ok,rfl⟩:=bC e6
 subst e9
 rw[wo]at e5
 cases e5
 simp only[lU,Bool.and_eq_true,decide_eq_true_eq]at hj
 have hlen:j.toNat<=100000:=by
  have:=ok
  unfold kj at this
  simp only[Bool.and_eq_true,decide_eq_true_eq,List.length_map,List.length_range]at this
  omega
 refine h2 r e3 λv H1 s1 b1=>?_
 cases p1<;>first|(cases e7;done)|skip
 cases e7
 refine⟨_,b1.int,λl hl=>⟨_,⟨l,rfl,.inr ⟨_,aU,hj.1,hlen,rfl⟩⟩,ok,λD H2 s2 hD=>?_⟩⟩
 have yn:=(s1.trans (bN hl)).trans s2
 refine q _ _ (yn.trans (bN hD)) ?_
 obtain⟨a,ws,l,w1,w2,w3,w4⟩:=(r.mono yn).v3 hD (ints_rep (κ:=κ) (fL iO ((List.range j.toNat).map (λ(k:Nat)=>(k:Int)))))
 refine⟨a,ws,l,w1,w2,?_,w4⟩
 cases w1
 exact yn.free hD
end
section
variable{X:Cx}{κ:Kl}{fr:Bool}{pos:Pos}
theorem BI{x:Str}{p' apos df:Pos}{e1 e2:Expr}{fs:cu}(i:Nat)(ha:DA X κ [e1,e2] fs)(hN:X.N[i]?=some x:=by rfl)(hv:tD X.env.scope x:=by first|exact Or.inl rfl|exact Or.inr (Or.inl rfl)|exact Or.inr (Or.inr rfl))(hd:(x==("__debug__" :Str))=false:=by decide)
  (oW:(x==("__classdict__" :Str))=false:=by decide)(fG:attributeBase (.Name x p') "insert" X.env (eval (.Name x p') X.env)=eval (.Name x p') X.env:=by rfl)
  (nX:((backTo df (starEach [e1,e2] X.env)).all (λx=>!x.1)&&(backToKw df (keywordEach [] X.env)).all (λx=>x.1.isSome)
    &&decide ([e1,e2].length+([]:List Keyword).length+(if([]:List Keyword).isEmpty then 0 else 1)<30))=true:=by rfl)
  (hs:swapsWith (.Call (.Attribute (.Name x p') "insert" apos) [e1,e2] [] df) none pos.line X.env=pure false:=by rfl)(fH:(apos.endLine==df.line)=true:=by rfl)(oY:starEach [e1,e2] X.env=(false,eval e1 X.env)::starEach [e2] X.env:=by rfl)
  (hpl:(backTo df (starEach [e2] X.env)).any (·.1)=false:=by rfl):DS X κ fr (.Expr (.Call (.Attribute (.Name x p') "insert" apos) [e1,e2] [] df) pos) (lP i lz fs):=by
 obtain⟨ta,h1,h2⟩:=ha
 refine⟨_,jB (zA PySem.F.plainAttrs_list PySem.F.slot_list_insert PySem.F.type_list_insert Bi (dD hN hv hd oW) h1 fG nX fH oY hpl) hs,zY i ?_ h2⟩
 intro hH H a vs ws l xs l' Q s h3 h4 h5 h6 q
 unfold lz at h6
 split at h6
 ·rename_i k y
  obtain⟨h7,rfl⟩:=bC h6
  simp only[Bool.and_eq_true,decide_eq_true_eq]at h7
  cases h5 with
  |cons z1 t=>
   cases t with
   |cons z2 t=>
    cases t
    cases z1
    refine⟨a,vs,k.toNat,_,rfl,by rw[Int.toNat_of_nonneg h7.1.1],h3,by rw[h4.length];exact h7.1.2,by rw[h4.length];exact h7.2,q _ ?_⟩
    exact(h4.take _).append (.cons z2 (h4.drop _))
 ·cases h6
end
end L2.D
namespace L2.D
open PySem PySem.Spec PyProof.Rows PySem.SeqAt
section
variable{X:Cx}{κ:Kl}{fr:Bool}{pos:Pos}{a e:Expr}{fa f:Den}
theorem ix(ns:List Int):∀j,j<=ns.length->preSum (λi=>ns.getD i 0) j=(ns.take j).sum
 |0,_=>rfl
 |j+1,h=>by
  show preSum (λi=>ns.getD i 0) j+ns.getD j 0=_
  rw[ix ns j (by omega),List.take_add_one,List.sum_append,List.getD_eq_getElem?_getD,List.getElem?_eq_getElem (by omega)]
  simp
theorem sum_bound:∀(ns:List Int),(∀n∈ns,0<=n/\n<1000000)->0<=ns.sum/\ns.sum<=1000000*ns.length
 |[],_=>by simp
 |n::ns,h=>by
  have h1:=h n (List.mem_cons_self ..)
  have h2:=sum_bound ns λx hx=>h x (List.mem_cons_of_mem _ hx)
  rw[List.sum_cons,List.length_cons]
  omega
theorem BJ{ns:List Int}{its:List Value}(r:Vals (ns.map V.int) its)(i:Nat)(v:Value)(hv:its[i]?=some v):∃t,v=.int (ns.getD i 0) t:=by
 have hl:=r.length
 have hi:=(List.getElem?_eq_some_iff.mp hv).1
 rw[List.length_map]at hl
 have hx:(ns.map V.int)[i]?=some (.int ns[i]):=by rw[List.getElem?_map,List.getElem?_eq_getElem (by omega)];rfl
 obtain⟨u,e,ru⟩:=r.get hx
 rw[hv]at e
 cases e
 obtain⟨t,rfl⟩:=ru
 exact⟨t,by rw[List.getD_eq_getElem?_getD,List.getElem?_eq_getElem (by omega)];rfl⟩
theorem rQ(hc:X.calm=true):gY X (.builtin "sum") (λxs H Q=>∃(p:Addr) (ns:List Int),xs=[.ref p]/\gc X.K H p (ns.map V.int)/\qa ns=true/\Q (.int ns.sum) H):=by
 intro pins s σ H xs us Q I r h
 obtain⟨p,ns,rfl,hq,ok,q⟩:=h
 unfold qa at ok
 simp only[Bool.and_eq_true,List.all_eq_true,decide_eq_true_eq]at ok
 obtain⟨OJ,Rv⟩:=ok
 obtain⟨u,rfl,ru⟩:=vals1 r
 cases ru
 obtain⟨its,rv,pl,hz⟩:=I.list hq
 have fF:p<s.heap.objs.size:=by
  obtain⟨o,ho,_⟩:=pl.isList
  exact Heap.lt_size ho
 have vx:p≠s.heap.objs.size:=Nat.ne_of_lt fF
 have hh:X.A.in1.handled=none:=I.ok.hd hc
 have hl:=rv.length
 rw[List.length_map]at hl
 refine call_sum_walk (wpAny_pyIter_list pl.isList ⟨s.heap.objs.size,_,_,_,_,_,(λi=>ns.getD i 0),rfl,Walks.list hh s.heap.objs.size p vx its.toArray,?_,?_,λi v hv=>BJ rv i v (by simpa using hv),λj hj=>?_,λh' tk t' k=>?_⟩)
 ·exact⟨⟨_,Heap.get?_push_size _ rfl,rfl,rfl⟩,pl.isList.at λo e=>Heap.get?_push_of_some _ e⟩
 ·intro b hb
  have:b=s.heap.objs.size\/b=p:=by simpa using hb
  show b<(s.heap.push _).objs.size
  rw[show∀o,(s.heap.push o).objs.size=s.heap.objs.size+1 from λo=>Array.size_push ..]
  rcases this with rfl|rfl
  ·exact Nat.lt_succ_self _
  ·exact Nat.lt_succ_of_lt fF
 ·rw[List.size_toArray,<-hl]at hj
  have jX:j<ns.length:=hj
  have b1:=OJ ns[j] (List.getElem_mem jX)
  have b2:=sum_bound (ns.take (j+1)) λx hx=>OJ x (List.mem_of_mem_take hx)
  rw[ix ns (j+1) (by omega)]
  have b3:ns.getD j 0=ns[j]:=by rw[List.getD_eq_getElem?_getD,List.getElem?_eq_getElem jX];rfl
  have b4:(ns.take (j+1)).length<=1000:=by rw[List.length_take];omega
  show InLong (ns.getD j 0)/\InLong _
  rw[b3]
  generalize ns[j]=u at b1
  generalize(ns.take (j+1)).sum=w at b2
  generalize(ns.take (j+1)).length=m at b2 b4
  obtain⟨b5,b6⟩:=b1
  obtain⟨b7,b8⟩:=b2
  exact⟨⟨by omega,by omega⟩,⟨by omega,by omega⟩⟩
 ·rw[List.size_toArray,<-hl,ix ns ns.length (Nat.le_refl _),List.take_length]
  refine⟨.int _,H,I.kept (t':=tk) λb o e=>k b o (λz=>?_) (Heap.get?_push_of_some _ e),⟨_,rfl⟩,q⟩
  obtain rfl:b=s.heap.objs.size:=by simpa using z
  exact Nat.lt_irrefl _ (Heap.lt_size e)
theorem uL{K:PySem.W.Frag}{H:Hp}:∀{vs:List V} {l:List PV} {ns:List Int},aQ K κ H vs l->eA l=some ns->vs=ns.map V.int
 |_,_,_,.nil,h=>by cases h;rfl
 |_,p::_,_,.cons r t,h=>by
  cases p<;>first|(cases h;done)|skip
  obtain⟨cs,h1,rfl⟩:=Option.map_eq_some_iff.mp h
  cases r
  rw[List.map_cons,<-uL t h1]
theorem qr{p:Pos}(ha:DB X κ a fa)(hm:X.mg "sum" =none)(hg:Gl X "sum" :=by rfl)(hc:X.calm=true:=by rfl)(hs:starEach [a] X.env=(false,eval a X.env)::starEach [] X.env:=by rfl):DE X κ (.Call (.Name "sum" p) [a] [] pos) (aZ kl fa):=by
 obtain⟨ta,h1,h2⟩:=ha
 refine⟨_,jh (rQ hc) hg hm PyProof.Rows.boot_sum (bG h1 cq hs) (he:=hs),λ{G A bo own ρ σ H p Q} r e q=>?_⟩
 obtain⟨p1,e1,e2⟩:=Option.bind_eq_some_iff.mp e
 refine h2 r e1 λx H1 s1 b1=>?_
 cases p1<;>first|(cases e2;done)|skip
 obtain⟨ns,e3,e4⟩:=Option.bind_eq_some_iff.mp e2
 obtain⟨ok,rfl⟩:=bC e4
 obtain⟨a,vs,rfl,q1,q2⟩:=b1.lst aB
 rw[uL q2 e3]at q1
 exact⟨a,ns,rfl,q1.sq,ok,q _ H1 s1 (.int _)⟩
end
section
variable{X:Cx}{κ:Kl}{fr:Bool}{pos:Pos}{a b e k:Expr}{fa fb f fk:Den}
theorem Le{tg:Expr}{gt:xC}(hg:DG X κ tg gt)(he:DE X κ e f)(hs:swapsWithSole [tg] e pos.line X.env=pure false:=by rfl)(hw:swappedStores [tg] e X.env=pure none:=by rfl)
  (Kv:(assignEach [tg] X.env).map (·.2)=[assign tg X.env]:=by rfl):DS X κ fr (.Assign [tg] e pos) (Nn gt f):=by
 obtain⟨te,h1,h2⟩:=he
 obtain⟨tt,h3,h4⟩:=hg
 refine⟨_,xI h1 h3 hs hw Kv,λ{G A bo own ρ σ H fl D} r e k=>?_⟩
 obtain⟨p,e1,e2⟩:=Option.bind_eq_some_iff.mp e
 obtain⟨ρ',e3,rfl⟩:=Option.map_eq_some_iff.mp e2
 refine h2 r e1 λv H1 s1 z1=>?_
 exact h4 (r.mono s1) z1 e3 λdH σ' r' _=>k _ _ _ r'
end
section
variable{K:PySem.W.Frag}{κ:Kl}{H:Hp}
theorem Ae{f:Str}{p:PV}:∀{ns:List Str} {vs:List V} {l:List PV},aQ K κ H vs l->(ns.zip l).lookup f=some p->f∈ns/\∃v,(ns.zip vs).lookup f=some v/\Rep K κ H v p
 |[],_,_,_,h=>by cases h
 |n::ns,_,_,.nil,h=>by cases h
 |n::ns,_,_,.cons (v:=v) (p:=q) r t,h=>by
  rw[List.zip_cons_cons,List.lookup_cons]at h
  rw[List.zip_cons_cons,List.lookup_cons]
  by_cases e:f==n
  ·rw[e]at h⊢
   cases h
   exact⟨by rw[eq_of_beq e];exact List.mem_cons_self ..,v,rfl,r⟩
  ·have e':(f==n)=false:=by simpa using e
   rw[e']at h⊢
   obtain⟨h1,h2⟩:=Ae t h
   exact⟨List.mem_cons_of_mem _ h1,h2⟩
end
theorem BR.rep{K:PySem.W.Frag}{κ:Kl}{hH H:Hp}{v:V}{c:Nat}{l:List PV}(h:BR K κ hH H v (.ins c l)):Rep K κ hH v (.ins c l):=by
 rcases h with h|⟨a,vs,l',h1,h2,h3,h4⟩
 ·exact h
 ·cases h2
noncomputable def Jl(K:PySem.W.Frag)(κ:Kl)(f:Str):Prop:=∀c,f∈κ.fld c->zv K (κ.adr c)/\fj K (κ.adr c) f
section
variable{X:Cx}{κ:Kl}{pos apos:Pos}{a b e o:Expr}{es:List Expr}{fa fb fo:Den}{fs:cu}{m:Str}
theorem Lf{f:Str}(ha:DB X κ a fa)(hf:Jl X.K κ f)(hb:attributeBase a f X.env (eval a X.env)=eval a X.env:=by rfl):DE X κ (.Attribute a f pos) (aZ (cB κ.fld f) fa):=by
 obtain⟨ta,h1,h2⟩:=ha
 refine⟨_,nT h1 hb,λ{G A bo own ρ σ H p Q} r e q=>?_⟩
 obtain⟨p1,e1,e2⟩:=Option.bind_eq_some_iff.mp e
 refine h2 r e1 λx H1 s1 b1=>?_
 cases p1<;>first|(cases e2;done)|skip
 rename_i c l
 cases b1.rep with
 |ins h3 h4 h5=>
  obtain⟨h6,v,h7,h8⟩:=Ae h5 e2
  obtain⟨k1,k2⟩:=hf c h6
  exact⟨_,_,_,_,v,rfl,aB _ _ h3,k1,k2,h7,q v H1 s1 h8⟩
noncomputable def yt(X:Cx)(m:Str)(ta:TE)(t:TA):TE:=λσ H Q=>ta σ H λx H1=>∃(a C dx:Addr) (fs:List (Str×V)) (f:Addr) (fd:FuncData) (ps:List Str) (sp:Sp) (k:Nat),x=.ref a/\H1 a=some (.ins C dx fs)/\zv X.K C/\Meth X.K C m f/\fs.lookup m=none/\
 cM X.prog X.w X.K X.mg X.base iK k f fd ps sp/\ck k X.A/\Binds X.K fd ps []/\t σ H1 λvs H2=>sp (x::vs) H2 Q E0
theorem BK{pl:Sem Bool}{ta:TE}(he:PE X o ta)
  (ht:eval (.Call (.Attribute o m apos) [] [] pos) X.env=(do
    let ov<-eval o X.env
    standAt apos.atName
    let(f,first)<-holding [ov] (getMethod ov m pl)
    callWith pos f first (backTo pos (starEach [] X.env)) (backToKw pos (keywordEach [] X.env))):=by rfl):PE X (.Call (.Attribute o m apos) [] [] pos) (yt X m ta C3):=by
 intro pins s σ H Q I h
 refine PySem.W.methodCall_KW (pl:=pl) (dS (he pins s σ H _ I h) λu s1 cy=>?_) ht
 obtain⟨x,H1,I1,rx,a,C,dx,fs,f,fd,ps,sp,k,ex,ea,c,hm,l,F,hr,hb,q⟩:=cy
 subst ex
 obtain rfl:u=Value.ref a:=rx
 refine jD I1 ea c hm l ?_
 exact PySem.W.callWith_K0 (first:=[.ref a]) I1.pG hm.kp (nV (us:=[.ref a]) (vs:=[.ref a]) (ds:=[]) (dvs:=[]) F hr hb .nil kc I1 (.cons rfl .nil) q)
theorem wq{pl:Sem Bool}{ta:TE}{t:TA}(he:PE X o ta)(ha:PA X (e::es) t)
  (oY:starEach (e::es) X.env=(false,eval e X.env)::starEach es X.env:=by rfl)(hpl:(backTo pos (starEach es X.env)).any (·.1)=false:=by rfl)
  (ht:eval (.Call (.Attribute o m apos) (e::es) [] pos) X.env=(do
    let ov<-eval o X.env
    standAt apos.atName
    let(f,first)<-holding [ov] (getMethod ov m pl)
    callWith pos f first (backTo pos (starEach (e::es) X.env)) (backToKw pos (keywordEach [] X.env))):=by rfl):PE X (.Call (.Attribute o m apos) (e::es) [] pos) (yt X m ta t):=by
 intro pins s σ H Q I h
 refine PySem.W.methodCall_KW (pl:=pl) (dS (he pins s σ H _ I h) λu s1 cy=>?_) ht
 obtain⟨x,H1,I1,rx,a,C,dx,fs,f,fd,ps,sp,k,ex,ea,c,hm,l,F,hr,hb,q⟩:=cy
 subst ex
 obtain rfl:u=Value.ref a:=rx
 refine jD I1 ea c hm l ?_
 refine PySem.W.callWith_K (first:=[.ref a]) (h₀:=X.base) I.ok.mod.kin hm.kp (dS (ha pos pins s1 σ H1 _ I1 q) λus s2 ⟨vs,H2,I2,r,q2⟩=>⟨I2.pG,?_⟩) oY hpl
 refine nV (us:=.ref a::us) (vs:=.ref a::vs) (ds:=[]) (dvs:=[]) F hr hb .nil kc I2 (.cons rfl r) ?_
 rw[List.append_nil]
 exact q2
noncomputable def qt(P:Program)(w:World)(K:PySem.W.Frag)(mg:Str->Option Value)(base:Heap)(κ:Kl)(fr:Bool)(m:Str)(k:Nat)(ps:List Str)(Fs:Nat->List PV->Option PV):Prop:=
 ∀c xs p,Fs c xs=some p->∃(f:Addr) (fd:FuncData),zv K (κ.adr c)/\Meth K (κ.adr c) m f/\m∉κ.fld c/\cM P w K mg base iK k f fd ps (uD K κ fr (Fs c))/\Binds K fd ps []
theorem qu{α:Type}{f:Str}:∀{ns:List Str} {vs:List α},f∉ns->(ns.zip vs).lookup f=none
 |[],_,_=>rfl
 |n::ns,[],_=>rfl
 |n::ns,v::vs,h=>by
  rw[List.zip_cons_cons,List.lookup_cons]
  have e:(f==n)=false:=by
   rw[beq_eq_false_iff_ne]
   exact λz=>h (z▸List.mem_cons_self ..)
  rw[e]
  exact qu λz=>h (List.mem_cons_of_mem _ z)
theorem qv{fr:Bool}{k:Nat}{ps:List Str}{Fs:Nat->List PV->Option PV}{ta:TE}{t:TA}(M:qt X.prog X.w X.K X.mg X.base κ fr m k ps Fs)(hr:ck k X.A)(h2:OC X.K κ ta fo)
  (h4:∀{G A bo own ρ σ H ps Q},R X.K κ G A bo own ρ σ H->fs ρ=some ps->(∀vs H',aH H H'->aQ X.K κ (d5 A own ρ H') vs ps->Q vs H')->t σ H Q)
  {G A bo own ρ σ H p}{Q:VK}(r:R X.K κ G A bo own ρ σ H)(e:dU Fs fo fs ρ=some p)(q:∀v H',aH H H'->RR fr X.K κ (cP A own ρ) H H' v p->Q v H'):yt X m ta t σ H Q:=by
 obtain⟨p1,e1,e2⟩:=Option.bind_eq_some_iff.mp e
 refine h2 r e1 λx H1 s1 z1=>?_
 cases p1<;>first|(cases e2;done)|skip
 rename_i c l
 obtain⟨xs,e3,e4⟩:=Option.bind_eq_some_iff.mp e2
 obtain⟨f,fd,k1,k2,k3,k4,k5⟩:=M c _ _ e4
 cases z1 with
 |ins h3 h5 h6=>
  refine⟨_,_,_,_,f,fd,ps,_,k,rfl,aB _ _ h3,k1,k2,qu k3,k4,hr,k5,h4 (r.mono s1) e3 λvs H2 s2 z2=>?_⟩
  refine⟨cP A own ρ,_,p,λb hb=>((r.mono s1).mono s2).yj hb,.cons ((Rep.ins h3 h5 h6).mono (aM s2)) z2,e4,λv H' s z=>q v H' ((s1.trans s2).trans s) ?_⟩
  unfold RR at z⊢
  split
  ·rename_i hh
   rw[if_pos hh]at z
   exact OF z (s1.trans s2) λb w=>w
  ·rename_i hh
   rw[if_neg hh]at z
   exact z
theorem wt{k:Nat}{ps:List Str}{Fs:Nat->List PV->Option PV}{pl:Sem Bool}(M:qt X.prog X.w X.K X.mg X.base κ false m k ps Fs)(hr:ck k X.A)(ho:DE X κ o fo)
  (ht:eval (.Call (.Attribute o m apos) [] [] pos) X.env=(do
    let ov<-eval o X.env
    standAt apos.atName
    let(f,first)<-holding [ov] (getMethod ov m pl)
    callWith pos f first (backTo pos (starEach [] X.env)) (backToKw pos (keywordEach [] X.env))):=by rfl):DE X κ (.Call (.Attribute o m apos) [] [] pos) (dU Fs fo aA):=by
 obtain⟨ta,h1,h2⟩:=ho
 refine⟨_,BK h1 ht,λ{G A bo own ρ σ H p Q} r e q=>?_⟩
 exact qv M hr h2 (λ{G A bo own ρ σ H ps Q} r e q=>by cases e;exact q [] H (aH.refl _) .nil) r e λv H' s z=>q v H' s z
theorem uM{k:Nat}{ps:List Str}{Fs:Nat->List PV->Option PV}{pl:Sem Bool}(M:qt X.prog X.w X.K X.mg X.base κ false m k ps Fs)(hr:ck k X.A)(ho:DE X κ o fo)(ha:DA X κ (e::es) fs)
  (oY:starEach (e::es) X.env=(false,eval e X.env)::starEach es X.env:=by rfl)(hpl:(backTo pos (starEach es X.env)).any (·.1)=false:=by rfl)
  (ht:eval (.Call (.Attribute o m apos) (e::es) [] pos) X.env=(do
    let ov<-eval o X.env
    standAt apos.atName
    let(f,first)<-holding [ov] (getMethod ov m pl)
    callWith pos f first (backTo pos (starEach (e::es) X.env)) (backToKw pos (keywordEach [] X.env))):=by rfl):DE X κ (.Call (.Attribute o m apos) (e::es) [] pos) (dU Fs fo fs):=by
 obtain⟨ta,h1,h2⟩:=ho
 obtain⟨t,h3,h4⟩:=ha
 refine⟨_,wq h1 h3 oY hpl ht,λ{G A bo own ρ σ H p Q} r e q=>?_⟩
 exact qv M hr h2 h4 r e λv H' s z=>q v H' s z
theorem Af{k:Nat}{ps:List Str}{Fs:Nat->List PV->Option PV}{pl:Sem Bool}(M:qt X.prog X.w X.K X.mg X.base κ true m k ps Fs)(hr:ck k X.A)(ho:DE X κ o fo)(ha:DA X κ (e::es) fs)
  (oY:starEach (e::es) X.env=(false,eval e X.env)::starEach es X.env:=by rfl)(hpl:(backTo pos (starEach es X.env)).any (·.1)=false:=by rfl)
  (ht:eval (.Call (.Attribute o m apos) (e::es) [] pos) X.env=(do
    let ov<-eval o X.env
    standAt apos.atName
    let(f,first)<-holding [ov] (getMethod ov m pl)
    callWith pos f first (backTo pos (starEach (e::es) X.env)) (backToKw pos (keywordEach [] X.env))):=by rfl):DO X κ (.Call (.Attribute o m apos) (e::es) [] pos) (dU Fs fo fs):=by
 obtain⟨ta,h1,h2⟩:=ho
 obtain⟨t,h3,h4⟩:=ha
 refine⟨_,wq h1 h3 oY hpl ht,λ{G A bo own ρ σ H p Q} r e q=>?_⟩
 exact qv M hr h2 h4 r e λv H' s z=>q v H' s z
end
theorem walkD2{l:PySem.W.OpenLaw}{n k:Nat}{q:Program}{loose:List Str}{XP:(Str->Option Value)->Heap->Prop}{YP:World->Heap->Prop}{d:DefRec}{K:Params->PySem.W.Frag}{x:Str}{F:List PV->Option PV}
  (hn:l.most=some n)(J4:n<=sizeLine)(Px:d.params.defaults=[])(hr:ck k callerA)
  (hY:∀(w:World) (h:Heap),YP w h->(K w.params).In h)
  (FF:∀(w:World) (mg:Str->Option Value) (fa:Addr) (h:Heap),(K w.params).In h->h.Ns mainGlobals mg->mg d.name=some (.ref fa)->
    ∃(κ:Kl) (fd:FuncData),(∀(s:Shared) (u:Value),BindsTo s fd ⟨[u],[]⟩ [(x,u)])/\
     ∀base:Heap,(K w.params).In base->base.Ns mainGlobals mg->cM l.prog w (K w.params) mg base iK k fa fd [x] (uD (K w.params) κ false F))
  (hF:∀ns:List Int,ns.length<=n->F [.lst (ns.map .int)]=some (.bl true)):
  PySem.W.WalkO q loose XP YP l.row.toRowW d [] (λf vs=>PySem.call f vs):=by
 refine Att.vC hn Px λw s₀ s₁ mg mb fa o pm cd doc a vs ns G Y ho hd oW M4 Ke hints hlen hg=>?_
 have KX:=hY w _ Y
 obtain⟨κ,fd,hb,Qu⟩:=FF w mg fa _ KX G.T.g M4
 refine Bx KX G.T.g G.T.b G.T.builtins G.T.nolimit hg Ke hints (Nat.le_trans hlen J4) hr Qu hb (λH hO hS=>?_) λH e s' z=>z
 have e:hide (λ_=>False) H=H:=by
  funext b
  exact bq λz=>z
 refine⟨λ_=>False,[.lst (ns.map .int)],.bl true,λb z=>z.elim,.cons ?_ .nil,hF ns hlen,λv H' s z=>?_⟩
 ·rw[e]
  exact .lst hS (ints_rep ns)
 ·cases(show Rep (K w.params) κ _ v (.bl true)from z)
  rfl
structure Em(K:PySem.W.Frag)(x q:Str)(st:Stmt)(ps:List Str)(f:Addr)(fd:FuncData):Prop where
 F:L2.vD K x q st f fd
 b:L2.Binds K fd ps []
noncomputable def Ho(s:Stmt)(j:Nat):Stmt:=match s with
 |.ClassDef _ _ _ b _ _ _ _ _ _ _=>b.getD j (.Pass ⟨0,0,0,0⟩)
 |_=>.Pass ⟨0,0,0,0⟩
theorem Lg{α:Type}{us:List α}(h:us.length=1):∃a,us=[a]:=List.length_eq_one_iff.mp h
theorem NI{α:Type}{us:List α}(h:us.length=2):∃a b,us=[a,b]:=match us,h with|[a,b],_=>⟨a,b,rfl⟩
theorem NJ{α:Type}{us:List α}(h:us.length=3):∃a b c,us=[a,b,c]:=match us,h with|[a,b,c],_=>⟨a,b,c,rfl⟩
theorem NK{α:Type}{us:List α}(h:us.length=4):∃a b c d,us=[a,b,c,d]:=match us,h with|[a,b,c,d],_=>⟨a,b,c,d,rfl⟩
end L2.D
namespace L2.D
open PySem PySem.Spec PyProof.Rows
open Classical
noncomputable def Qx(K:PySem.W.Frag)(l:Addr):It:=
 ⟨λi H=>∃xs x,gc K H l xs/\xs[i]?=some x,
  λi H v H'=>∃p x,H p=none/\v=.ref p/\H'=upd H p (.tup [.int (i:Nat),x])/\∀xs,gc K H l xs->xs[i]?=some x,
  λi H=>∃xs,gc K H l xs/\xs.length<=i⟩
noncomputable def Ta(e it l:Addr)(i:Nat)(h:Heap):Prop:=(∃old,IsEnum h e it (i:Nat) old)/\h.IsListIter it l i
theorem BL{P:Program}{w:World}{K:PySem.W.Frag}{elts:List Expr}{x1:Nat}{pos:Pos}{e it l:Addr}(ne:e≠it):
  Turn P w K (.Tuple elts x1 pos) (Qx K l) [e,it] e (Ta e it l) where
 mem:=by simp
 obj:=λi h st b hb=>by
  obtain⟨⟨old,he⟩,⟨o1,e1,c1,d1⟩⟩:=st
  have lX:b=e\/b=it:=by simpa using hb
  rcases lX with rfl|rfl
  ·exact⟨_,he,λv q=>by cases q⟩
  ·exact⟨_,e1,λv q=>by rw[d1]at q;cases q⟩
 keep:=λi h h' st k=>by
  obtain⟨⟨old,he⟩,h1⟩:=st
  exact⟨⟨old,k _ (by simp) _ he⟩,h1.at λo e=>k _ (by simp) o e⟩
 item:=by
  intro X hP hw hK hc i pins s σ H E I hf st hg
  subst hP hw hK
  obtain⟨xs,x,Bz,hx⟩:=hg
  obtain⟨its,rv,p,Qn⟩:=I.list Bz
  obtain⟨u,hu,ru⟩:=rv.get hx
  obtain⟨⟨old,he⟩,h1⟩:=st
  refine wpAny_pyNext_enum_item he h1 p.isList (x:=u) (by simpa using hu) ne λh' a1 a2 a3 a4 a5=>?_
  refine⟨.ref s.heap.objs.size,rfl,wpAny_letOwnedTupleGo_enum (s:={s with heap:=h',toks:=s.toks+1}) a1 λHm b1 b2=>?_⟩
  have Qp:e<s.heap.objs.size:=Heap.lt_size he
  have up:∀b o,b≠e->h'.get? b=some o->Hm.get? b=some o:=λb o hb q=>(b2.2 b hb).trans q
  have kp:∀b o,b∉[e,it]->s.heap.get? b=some o->Hm.get? b=some o:=λb o hb q=>by
   have lX:b≠e/\b≠it:=by simpa using hb
   exact up b o lX.1 (a5 b o lX.1 lX.2 q)
  have D6:=up _ _ (Nat.ne_of_gt Qp) a3
  have fr:H s.heap.objs.size=none:=I.d8.fresh (Nat.le_refl _)
  refine⟨.ref s.heap.objs.size,upd H s.heap.objs.size (.tup [.int (i:Nat),x]),?_,rfl,?_,?_,?_⟩
  ·refine I.sJ (t':=s.toks+1) (ch:=[e,it]) kp (λb hb=>hf b hb) ?_
   exact⟨⟨by show 2<=sizeLine;decide,⟨_,D6,rfl⟩⟩,[.int (i:Nat) s.toks,u],.cons ⟨_,rfl⟩ (.cons ru .nil),⟨_,D6,rfl,_,rfl⟩⟩
  ·exact⟨_,x,fr,rfl,rfl,λRu h=>by rw[I.je h Bz];exact hx⟩
  ·refine⟨⟨u,?_⟩,a2.at λo q=>up _ _ (Ne.symm ne) q⟩
   have:(((i+1:Nat):Int))=(i:Int)+1:=by omega
   show IsEnum Hm e it ((i+1:Nat):Int) u
   rw[this]
   exact b1
  ·intro b hb
   have:b<s.heap.objs.size:=by
    have lX:b=e\/b=it:=by simpa using hb
    obtain⟨o1,e1,_⟩:=h1
    rcases lX with rfl|rfl
    ·exact Heap.lt_size he
    ·exact Heap.lt_size e1
   rw[aC (Nat.ne_of_lt this)]
   exact(hf b hb).1
 done:=by
  intro X hP hw hK hc i pins s σ H E I hf st hg
  subst hP hw hK
  obtain⟨xs,Bz,Nz⟩:=hg
  obtain⟨its,rv,p,Qn⟩:=I.list Bz
  have l1:=rv.length
  obtain⟨⟨old,he⟩,h1⟩:=st
  refine wpAny_pyNext_enum_end (I.ok.hd hc) he h1 p.isList (by simp;omega) λh' k=>⟨rfl,I.Ab (t':=s.toks) (ch:=[e,it]) (λb o hb q=>?_) λb hb=>hf b hb⟩
  have lX:b≠e/\b≠it:=by simpa using hb
  exact k b o lX.2 q
 self:=λ_ _ _ _ _ st h=>by
  obtain⟨⟨old,he⟩,_⟩:=st
  exact wpAny_pyIter_enum he h
section
variable{X:Cx}{κ:Kl}{a b:Expr}{fa fb:Den}{elts:List Expr}{x1:Nat}{tp:Pos}
noncomputable def NL(K:PySem.W.Frag)(ta:TA):TI:=λσ H R=>ta σ H λvs H1=>∃l xs,vs=[.ref l]/\gc K H1 l xs/\R (Qx K l) H1
theorem Ag{ta:TA}{p pos:Pos}(hg:Gl X "enumerate")(hm:X.mg "enumerate" =none)(ha:PA X [a] ta)(hs:starEach [a] X.env=[(false,eval a X.env)]:=by rfl):
  PI X (.Tuple elts x1 tp) (.Call (.Name "enumerate" p) [a] [] pos) (NL X.K ta):=by
 intro pins s σ H R I h
 refine Call_ (j7 I hg hm PyProof.Rows.boot_enumerate (PyProof.Rows.callWith_type1 (dS (ha pos pins s σ H _ I h) λus s1 cy=>?_) (by rw[hs];rfl) (by rfl)))
 obtain⟨vs,H1,I1,r1,q1⟩:=cy
 obtain⟨l1,xs,rfl,Bz,q⟩:=q1
 obtain⟨u1,rfl,ru⟩:=vals1 r1
 obtain rfl:u1=Value.ref l1:=ru
 obtain⟨its,rv,p1,z1⟩:=I1.list Bz
 refine call_enumerate_list p1.isList λh' he hi mK hk=>?_
 refine wpAny_pyIter_enum (s:={s1 with heap:=h'}) he ?_
 refine⟨s1.heap.objs.size+1,[s1.heap.objs.size+1,s1.heap.objs.size],_,_,H1,rfl,I1.kept (t':=s1.toks) hk,BL (Nat.succ_ne_self _),⟨⟨_,he⟩,hi⟩,λb hb=>?_,q⟩
 have lX:b=s1.heap.objs.size+1\/b=s1.heap.objs.size:=by simpa using hb
 have hle:s1.heap.objs.size<=b:=by rcases lX with rfl|rfl<;>omega
 exact I1.Gq hle (I1.d8.fresh hle)
theorem sN:∀{l:List PV} {k i:Nat},(km k l)[i]?=(l[i]?).map λx=>PV.tup [.int ((k+i:Nat):Int),x]
 |[],_,_=>by simp[km]
 |x::l,k,0=>rfl
 |x::l,k,i+1=>by
  show(km (k+1) l)[i]?=(l[i]?).map _
  rw[sN,show k+1+i=k+(i+1) by omega]
theorem sO:∀{l:List PV} {k:Nat},(km k l).length=l.length
 |[],_=>rfl
 |x::l,k=>by show(km (k+1) l).length+1=_;rw[sO];rfl
theorem BM{K:PySem.W.Frag}{Gs:Hp}{A:Addr->Prop}{l1:Addr}{vs:List V}{l:List PV}(h1:SL K Gs l1 vs)(q1:aQ K κ (hide A Gs) vs l):uA K κ Gs A (Qx K l1) (km 0 l):=λi H2 s=>by
 have z1:gc K H2 l1 vs:=(s.sl h1).sq
 refine⟨λp e=>?_,λhl=>⟨vs,z1,?_⟩⟩
 ·rw[sN]at e
  obtain⟨x,e1,rfl⟩:=Option.map_eq_some_iff.mp e
  obtain⟨v,g1,r1⟩:=q1.get e1
  refine⟨⟨vs,v,z1,g1⟩,λz H3 cy=>?_⟩
  obtain⟨p',x',y0,y1,y2,y3⟩:=cy
  subst y1 y2
  have k1:=y3 vs z1
  rw[g1]at k1
  cases k1
  refine⟨bN y0,λB hB sb=>.tup (lM.of ?_) (.cons (by rw[Nat.zero_add];exact .int _) (.cons (r1.mono (sb.trans (aM (bN y0)))) .nil))⟩
  rw[bq λz=>hB _ z y0]
  exact aU
 ·rw[sO]at hl
  rw[q1.length]
  exact hl
theorem Ec{p pos:Pos}(ha:DB X κ a fa)(hm:X.mg "enumerate" =none)(hg:Gl X "enumerate" :=by rfl)(hs:starEach [a] X.env=[(false,eval a X.env)]:=by rfl):
  F9 X κ (.Tuple elts x1 tp) (.Call (.Name "enumerate" p) [a] [] pos) (zP fa):=by
 obtain⟨ta,h1,h2⟩:=ha
 refine⟨_,Ag hg hm (bG h1 cq (by rw[hs];rfl)) hs,λ{G A bo own ρ σ H ps Q} r e q=>?_⟩
 obtain⟨p1,e1,e2⟩:=Option.bind_eq_some_iff.mp e
 obtain⟨l,e5,rfl⟩:=Option.map_eq_some_iff.mp e2
 refine h2 r e1 λv H1 s1 z1=>?_
 cases p1<;>first|(cases e5;done)|skip
 cases e5
 obtain⟨a,vs,rfl,q1,q2⟩:=z1.lst aB
 exact⟨_,_,rfl,q1.sq,q _ H1 s1 (BM q1 q2)⟩
end
end L2.D
namespace L2.D
open PySem PySem.Spec PyProof.Rows PySem.SeqAt
open Classical
section
variable{K:PySem.W.Frag}{κ:Kl}{G H:Hp}{A:Addr->Prop}{bo:Nat->Option (Addr×List V)}{own:Nat->Addr}{ρ:cg}{σ:St}{v:V}{p:PV}
theorem sP{wi:TI}{fi:cu}{e:Den}(hi:∀{G A bo own ρ σ H ps Q},R K κ G A bo own ρ σ H->fi ρ=some ps->(∀J H',aH H H'->uA K κ H' (cP A own ρ) J ps->Q J H')->wi σ H Q):
  Qa K κ (ye K wi (Hf K κ e)) (kn fi e):=λ{G A bo own ρ σ H p Q} r e0 q=>by
 obtain⟨ps,e1,e2⟩:=Option.bind_eq_some_iff.mp e0
 have h0:ps.length<=sizeLine/\(md e ρ ps).map PV.lst=some p:=by
  split at e2
  ·exact⟨by assumption,e2⟩
  ·cases e2
 obtain⟨zs,e3,rfl⟩:=Option.map_eq_some_iff.mp h0.2
 refine hi r e1 λJ H1 s1 hI=>?_
 refine⟨λi m acc H2=>m=ps.length-i/\i<=ps.length/\aH H1 H2/\acc.length<=i/\∃out rest,aQ K κ (d5 A own ρ H2) acc out/\md e ρ (ps.drop i)=some rest/\out++rest=zs,
  ⟨ps.length,by simp,Nat.zero_le _,aH.refl _,Nat.zero_le _,[],zs,.nil,by simpa using e3,rfl⟩,?_⟩
 rintro i m acc H2 ⟨rfl,Nt,s2,ha,out,rest,q1,q2,q3⟩
 obtain⟨h1,h2⟩:=hI i H2 s2
 have yn:=s1.trans s2
 have r2:=r.mono yn
 by_cases fF:i<ps.length
 ·rw[List.drop_eq_getElem_cons fF]at q2
  obtain⟨h3,h4⟩:=h1 ps[i] (List.getElem?_eq_getElem fF)
  refine .inr ⟨h3,by omega,λy H3 hy=>?_⟩
  obtain⟨s3,q4⟩:=h4 y H3 hy
  have rep:=q4 (cP A own ρ) (λb hb=>r2.yj hb) (aM s2)
  have Tc:=r2.mono s3
  unfold md at q2
  split at q2
  ·rename_i heq
   cases heq
  ·rename_i x' y' Ru heq
   injection heq with M9 M8
   rw[M9]at rep
   subst M8
   cases rep with
   |tup z1 z2=>
    cases z2 with
    |cons ra z2=>
     cases z2 with
     |cons rb z2=>
      cases z2
      have Td:=Tc.cons rb
      have r3:=Td.cons (by rw[d5,gw];exact ra)
      obtain⟨z,e6,e7⟩:=Option.bind_eq_some_iff.mp q2
      obtain⟨ws,e8,rfl⟩:=Option.map_eq_some_iff.mp e7
      refine⟨_,_,_,rfl,zS (aB (A:=cP A own ρ)) z1,_,_,_,_,_,_,r3,e6,λv H5 s5 q5=>?_⟩
      rw[d5,gw,gw]at q5
      refine⟨ps.length-(i+1),by omega,rfl,fF,(s2.trans s3).trans s5,by simp;omega,out++[z],ws,?_,e8,by rw[<-q3];simp⟩
      exact(q1.mono (aM (s3.trans s5))).append (.cons q5 .nil)
  ·cases q2
 ·have hn:ps.drop i=[]:=List.drop_eq_nil_of_le (by omega)
  rw[hn]at q2
  cases q2
  rw[List.append_nil]at q3
  subst q3
  refine .inl ⟨h2 (by omega),λp hp=>q _ _ (yn.trans (bN hp)) ?_⟩
  obtain⟨a,ws,l,w1,w2,w3,w4⟩:=r2.v3 hp q1
  refine⟨a,ws,l,w1,w2,?_,w4⟩
  cases w1
  exact yn.free hp
end
section
variable{X:Cx}{κ:Kl}{fr:Bool}{sc:Scope}{x z:Str}{px pz tp pos:Pos}{x1:Nat}{elt iter:Expr}{fi:cu}{f:Den}
theorem Ee(hi:F9 X κ (.Tuple [.Name x px,.Name z pz] x1 tp) iter fi)(kf:Scope)(N0 ys:List Str)(he:∀ex C s H,DE (X.iM sc x z ys ex C s H) κ elt f)(qj:X.env.scope=kf:=by rfl)(DZ:X.N=N0:=by rfl)(ue:ly kf N0 sc x z ys=true:=by decide+kernel)(hc:X.calm=true:=by rfl)
  (hs:∀x,foldedSetIterable iter X.env x=pure x:=by intro _;rfl):DO X κ (.ListComp elt [⟨.Tuple [.Name x px,.Name z pz] x1 tp,iter,[],0⟩] sc pos) (kn fi f):=by
 obtain⟨wi,h1,h2⟩:=hi
 exact⟨_,Dv h1 ys (te:=Hf X.K κ f) (λex C s H=>(he ex C s H).pe) (by rw[qj,DZ];exact ue) hc hs,sP h2⟩
theorem Ef(i:Nat){y:Str}{py mQ:Pos}(hN:X.N.Nodup)(hi:F9 X κ (.Tuple [.Name x px,.Name z pz] x1 tp) iter fi)(kf:Scope)(N0 ys:List Str)(he:∀ex C s H,DE (X.iM sc x z ys ex C s H) κ elt f)(GR:X.N[i]?=some y:=by rfl)(hy:X.env.scope.names.lookup y=some .local:=by rfl)(qj:X.env.scope=kf:=by rfl)(DZ:X.N=N0:=by rfl)(ue:ly kf N0 sc x z ys=true:=by decide+kernel)(hc:X.calm=true:=by rfl)
  (hs:∀x,foldedSetIterable iter X.env x=pure x:=by intro _;rfl)(GS:swapsWith (.ListComp elt [⟨.Tuple [.Name x px,.Name z pz] x1 tp,iter,[],0⟩] sc pos) (some (.Name y py)) mQ.line X.env=pure true:=by rfl):
  DS X κ fr (.Assign [.Name y py] (.ListComp elt [⟨.Tuple [.Name x px,.Name z pz] x1 tp,iter,[],0⟩] sc pos) mQ) (cA i (kn fi f)):=by
 obtain⟨wi,h1,h2⟩:=hi
 refine⟨_,Dw hN GR hy h1 ys (te:=Hf X.K κ f) (λex C s H=>(he ex C s H).pe) (by rw[qj,DZ];exact ue) hc hs GS,λ{G A bo own ρ σ H fl D} r e k=>?_⟩
 obtain⟨p,e1,rfl⟩:=Option.map_eq_some_iff.mp e
 exact sP h2 r e1 λv H' s z=>k _ _ _ ((r.mono s).set (z.rep r))
end
section
variable{X:Cx}{κ:Kl}{fr:Bool}{pos p:Pos}{a b e tg:Expr}{fa fb:Den}{gt:xC}
theorem Ah(ha:DB X κ a fa)(hm:X.mg "int" =none)(hg:Gl X "int" :=by rfl)(hs:starEach [a] X.env=(false,eval a X.env)::starEach [] X.env:=by rfl):DE X κ (.Call (.Name "int" p) [a] [] pos) (aZ Br fa):=by
 obtain⟨ta,h1,h2⟩:=ha
 refine⟨_,nW A5 hg hm (by decide+kernel) (bG h1 cq hs) (he:=hs),λ{G A bo own ρ σ H p Q} r e q=>?_⟩
 obtain⟨p1,e1,e2⟩:=Option.bind_eq_some_iff.mp e
 refine h2 r e1 λx H1 s1 b1=>?_
 cases p1<;>first|(cases e2;done)|skip
 ·rename_i k
  cases e2
  rw[b1.bl]
  exact .inr ⟨k,rfl,q _ H1 s1 (.int _)⟩
 ·rename_i k
  cases e2
  rw[b1.int]
  exact .inl ⟨k,rfl,q _ H1 s1 (.int _)⟩
end
end L2.D
namespace L2.D
open PySem PySem.Spec PyProof.Rows PySem.SeqAt
section
variable{X:Cx}{κ:Kl}{fr:Bool}{pos p p2 p3 apos:Pos}{a b e tg:Expr}{fa fb:Den}{gt:xC}
noncomputable def Eg(x:Int):Value->Bool
 |.int y _=>y==x
 |_=>false
theorem wu{x:Int}:∀{ns:List Int} {us:List Value},Vals (ns.map V.int) us->x∈ns->∃h:ko x ns<us.length,Eg x us[ko x ns]=true/\∀j (hj:j<ko x ns),Eg x (us[j]'(Nat.lt_trans hj h))=false
 |[],_,_,h=>nomatch h
 |y::ts,_,.cons ⟨t,ht⟩ r,h=>by
  subst ht
  by_cases e:y=x
  ·subst e
   have z:ko y (y::ts)=0:=by unfold ko;rw[if_pos rfl]
   refine⟨by rw[z];simp,?_,λj hj=>by rw[z]at hj;omega⟩
   simp only[z]
   show(y==y)=true
   simp
  ·have hx:x∈ts:=(List.mem_cons.mp h).resolve_left λz=>e z.symm
   obtain⟨h1,h2,h3⟩:=wu r hx
   have z:ko x (y::ts)=ko x ts+1:=by
    show(if y=x then 0 else ko x ts+1)=_
    rw[if_neg e]
   refine⟨by rw[z];simpa using h1,?_,λj hj=>?_⟩
   ·simp only[z]
    exact h2
   ·cases j with
    |zero=>
     show(y==x)=false
     simpa using e
    |succ j=>
     rw[z]at hj
     exact h3 j (by omega)
theorem Eh{A:Around}{s:Shared}{y x:Int}{t u:Tok}:EqAt A s (.int y t) (.int x u) (y==x):=λprog w E Q h=>wpAny_eqBool_int h
theorem wx:∀{ts:List Int} {us:List Value},Vals (ts.map V.int) us->∀v∈us,∃y t,v=.int y t
 |[],_,.nil,v,h=>nomatch h
 |y::ts,_,.cons ⟨t,ht⟩ r,v,h=>by
  rcases List.mem_cons.mp h with rfl|h
  ·exact⟨y,t,ht⟩
  ·exact wx r v h
theorem BN{ta:TE}{tb:TE}(ha:PE X a ta)(hb:PE X b tb)(fG:attributeBase a "index" X.env (eval a X.env)=eval a X.env:=by rfl)
  (nX:((backTo pos (starEach [b] X.env)).all (λx=>!x.1)&&(backToKw pos (keywordEach [] X.env)).all (λx=>x.1.isSome)
    &&decide ([b].length+([]:List Keyword).length+(if([]:List Keyword).isEmpty then 0 else 1)<30))=true:=by rfl)
  (fH:(apos.endLine==pos.line)=true:=by rfl)(hs:starEach [b] X.env=(false,eval b X.env)::starEach [] X.env:=by rfl):
  PE X (.Call (.Attribute a "index" apos) [b] [] pos) (λσ H Q=>ta σ H λx H1=>∃p ts,x=.ref p/\gc X.K H1 p (ts.map V.int)/\tb σ H1 λy H2=>∃z,[y]=[V.int z]/\gc X.K H2 p (ts.map V.int)/\z∈ts/\Q (.int (ko z ts:Nat)) H2):=by
 intro pins s σ H Q I h
 refine wpAny_Call_method_late fG nX fH rfl (dS (ha pins s σ H _ I h) λv s1 cy=>?_)
 obtain⟨x,H1,I1,r1,p,ts,ex,hq,q1⟩:=cy
 subst ex
 cases r1
 obtain⟨its,rv,pl,hz⟩:=I1.list hq
 refine⟨"list","list.index",PySem.F.plainAttrs_list,PySem.F.slot_list_index,PySem.F.type_list_index,pl.isList.typeIs,λa e=>by
  cases e
  obtain⟨o,n,h1,h2,h3,h4⟩:=pl
  exact⟨o,h1,h3⟩,?_⟩
 have hA:=bG hb cq hs pos pins s1 σ H1 (λvs H2=>∃z,vs=[.int z]/\gc X.K H2 p (ts.map V.int)/\z∈ts/\Q (.int (ko z ts:Nat)) H2) I1 q1
 rw[hs]at hA⊢
 refine Calls.callWith_builtin (by rfl) (Calls.evalArgs_plain ?_)
 refine dS hA λus s2 cy=>?_
 obtain⟨vs,H2,I2,r2,z,ez,Ji,hm,q2⟩:=cy
 subst ez
 obtain⟨u,rfl,t,rfl⟩:=vals1 r2
 obtain⟨lO,Gb,Qt,Rt⟩:=I2.list Ji
 obtain⟨⟨cls,dd,data,sl⟩,ho,hc,n,hd⟩:=Qt.isList
 simp only at hc hd
 subst hc hd
 obtain⟨h1,h2,h3⟩:=wu Gb hm
 have PX:=Gb.length
 have Uo:sizeLine=16777216:=sizeLine_eq
 refine call_meets PySem.F.slot_list_index ⟨_,ho,rfl⟩ PySem.F.entry_list_index (PySem.F.args_list_index_2 _ _) (list_indexAt p lO.toArray n dd sl (.int z t) (Eg z) (ko z ts) (by simpa using h1) (by omega) (by simpa using h2) (λj hj NA=>by simpa using h3 j NA)) ⟨ho,λy hy=>?_,?_⟩
 ·obtain⟨y',t',rfl⟩:=wx Gb y (by simpa using hy)
  exact Eh
 ·exact⟨.int _,H2,I2.tok _,⟨_,rfl⟩,q2⟩
theorem BO(ha:DB X κ a fa)(hb:DB X κ b fb)(fG:attributeBase a "index" X.env (eval a X.env)=eval a X.env:=by rfl)
  (nX:((backTo pos (starEach [b] X.env)).all (λx=>!x.1)&&(backToKw pos (keywordEach [] X.env)).all (λx=>x.1.isSome)
    &&decide ([b].length+([]:List Keyword).length+(if([]:List Keyword).isEmpty then 0 else 1)<30))=true:=by rfl)
  (fH:(apos.endLine==pos.line)=true:=by rfl)(hs:starEach [b] X.env=(false,eval b X.env)::starEach [] X.env:=by rfl):DE X κ (.Call (.Attribute a "index" apos) [b] [] pos) (aa uk fa fb):=by
 obtain⟨ta,h1,h2⟩:=ha
 obtain⟨tb,h3,h4⟩:=hb
 refine⟨_,BN h1 h3 fG nX fH hs,λ{G A bo own ρ σ H p Q} r e q=>?_⟩
 obtain⟨p1,e1,e2⟩:=Option.bind_eq_some_iff.mp e
 obtain⟨p2,e3,e4⟩:=Option.bind_eq_some_iff.mp e2
 (cases p1<;>first|(cases e4;done)|skip)<;>cases p2<;>first|(cases e4;done)|skip
 obtain⟨ts,e5,e6⟩:=Option.bind_eq_some_iff.mp e4
 obtain⟨ok,rfl⟩:=bC e6
 refine h2 r e1 λx H1 s1 b1=>?_
 obtain⟨a,vs,rfl,q1,q2⟩:=b1.lst aB
 have ev:=uL q2 e5
 subst ev
 refine⟨a,ts,rfl,q1.sq,h4 (r.mono s1) e3 λy H2 s2 b2=>?_⟩
 rw[b2.int]
 exact⟨_,rfl,(s2.sl q1).sq,ok,q _ H2 (s1.trans s2) (.int _)⟩
theorem range_getD(ns:List Int):(List.range ns.length).map (λi=>ns.getD i 0)=ns:=by
 apply List.ext_getElem?
 intro i
 rw[List.getElem?_map]
 by_cases h:i<ns.length
 ·rw[List.getElem?_range h,List.getElem?_eq_getElem h]
  simp[List.getD_eq_getElem?_getD,h]
 ·rw[List.getElem?_eq_none (by simpa using h),List.getElem?_eq_none (by omega)]
  rfl
theorem rR(ns:List Int):firstMet (λi=>ns.getD i 0) ns.length=oJ ns:=by
 unfold firstMet oJ
 rw[range_getD]
 rfl
theorem wy:∀{ns:List Int} {us:List Value},Vals (ns.map V.int) us->IntsAre us ns
 |[],_,.nil=>.nil
 |_::_,_,.cons ⟨t,ht⟩ r=>by
  subst ht
  exact .cons _ _ (wy r)
theorem rS(hc:X.calm=true):gY X (.type "set") (λxs H Q=>∃(p:Addr) (ns:List Int),xs=[.ref p]/\gc X.K H p (ns.map V.int)/\ns.length<4000/\∀l S,H l=none->Q (.ref l) (upd H l (.set S (oJ ns).length))):=by
 intro pins s σ H xs us Q I r h
 obtain⟨p,ns,rfl,hq,ok,q⟩:=h
 obtain⟨u,rfl,ru⟩:=vals1 r
 cases ru
 obtain⟨its,rv,pl,hz⟩:=I.list hq
 have hl:=rv.length
 rw[List.length_map]at hl
 have hh:X.A.handled=none:=I.ok.hd hc
 refine PySem.call_set_list hh pl.isList (ns:=ns) ?_ (by rw[List.size_toArray,<-hl];show _<4096;omega) λh' tk hS hk=>?_
 ·exact wy rv
 ·have hn:its.toArray.size=ns.length:=by rw[List.size_toArray,hl]
  rw[hn,rR]at hS
  exact⟨.ref s.heap.objs.size,_,I.laid (t':=tk) (o:=.set _ (oJ ns).length) (λb u e=>hk b u (Heap.lt_size e) e) (Nat.le_refl _) hS,rfl,q _ _ (I.d8.fresh (Nat.le_refl _))⟩
theorem rT:gY X (.builtin "len") (λxs H Q=>∃p S n,xs=[.ref p]/\H p=some (.set S n)/\Q (.int (n:Nat)) H):=by
 intro pins s σ H xs us Q I r h
 obtain⟨p,S,n,rfl,hp,q⟩:=h
 obtain⟨u,rfl,ru⟩:=vals1 r
 cases ru
 obtain⟨o,es,ep,t,ho,hex,hd,_,_,hb,hf,hn⟩:=I.d8 p _ hp
 have hb:es.size<4096:=hb
 refine call_len_set ho hex hd hf (by omega) ⟨.int _,H,I.tok _,⟨_,by rw[hn]⟩,q⟩
theorem BP(ha:DB X κ a fa)(hm:X.mg "len" =none)(D2:X.mg "set" =none)(hg:Gl X "len" :=by rfl)(D3:Gl X "set" :=by rfl)(hc:X.calm=true:=by rfl)(hs:starEach [a] X.env=(false,eval a X.env)::starEach [] X.env:=by rfl)
  (jC:starEach [.Call (.Name "set" p2) [a] [] p3] X.env=(false,eval (.Call (.Name "set" p2) [a] [] p3) X.env)::starEach [] X.env:=by rfl):DE X κ (.Call (.Name "len" p) [.Call (.Name "set" p2) [a] [] p3] [] pos) (aZ um fa):=by
 obtain⟨ta,h1,h2⟩:=ha
 refine⟨_,jh rT hg hm PySem.boot_len (bG (nW (rS hc) D3 D2 (by decide+kernel) (bG h1 cq hs) (he:=hs)) cq jC) (he:=jC),λ{G A bo own ρ σ H p Q} r e q=>?_⟩
 obtain⟨p1,e1,e2⟩:=Option.bind_eq_some_iff.mp e
 refine h2 r e1 λx H1 s1 b1=>?_
 cases p1<;>first|(cases e2;done)|skip
 obtain⟨ns,e3,e4⟩:=Option.bind_eq_some_iff.mp e2
 obtain⟨ok,rfl⟩:=bC e4
 obtain⟨a,vs,rfl,q1,q2⟩:=b1.lst aB
 rw[uL q2 e3]at q1
 refine⟨a,ns,rfl,q1.sq,by simpa using ok,λl S hl=>⟨l,S,_,rfl,aU,q _ _ (s1.trans (bN hl)) (.int _)⟩⟩
end
end L2.D
namespace L2.D
open PySem PySem.Spec PyProof.Rows PySem.SeqAt
open Classical
noncomputable def S3(x ra sa:Addr):Addr->Prop:=λb=>b=x\/b=ra\/b=sa
noncomputable def S4(A:Addr->Prop)(x ra sa:Addr):Addr->Prop:=λb=>A b\/S3 x ra sa b
theorem Ai{A:Addr->Prop}{x ra sa:Addr}{H H':Hp}(s:aH (hide (S3 x ra sa) H) (hide (S3 x ra sa) H')):aH (hide (S4 A x ra sa) H) (hide (S4 A x ra sa) H'):=λb o e=>by
 obtain⟨h1,h2⟩:=cw e
 have h3:=s b o (by rw[bq λz=>h1 (.inr z)];exact h2)
 rw[bq h1]
 exact(cw h3).2
structure lD(K:PySem.W.Frag)(κ:Kl)(A:Addr->Prop)(x dx ra sa:Addr)(t:Tb)(H:Hp):Prop where
 ne:ra≠sa
 ob:∃cv dv,H x=some (.ins (κ.adr 0) dx [(("rows" :Str),.ref ra),(("solved" :Str),.ref sa),(("costs" :Str),cv),(("parts_of_one" :Str),dv)])/\Rep K κ (hide (S4 A x ra sa) H) cv t.cs/\Rep K κ (hide (S4 A x ra sa) H) dv t.dd
 rw:∃lQ,H ra=some (.lst lQ)/\aQ K κ (hide (S4 A x ra sa) H) lQ t.rows
 so:∃oj,H sa=some (.lst oj)/\aQ K κ (hide (S4 A x ra sa) H) oj t.sol
structure uN(K:PySem.W.Frag)(κ:Kl):Prop where
 fld:κ.fld 0=[("rows" :Str),("solved" :Str),("costs" :Str),("parts_of_one" :Str)]
 cls:zv K (κ.adr 0)
 n1:fj K (κ.adr 0) "rows"
 n2:fj K (κ.adr 0) "solved"
 n3:fj K (κ.adr 0) "costs"
 n4:fj K (κ.adr 0) "parts_of_one"
section
variable{K:PySem.W.Frag}{κ:Kl}{A:Addr->Prop}{x dx ra sa:Addr}{t t':Tb}{G H H':Hp}{ρ:cg}{σ:St}
theorem lD.xr(h:lD K κ A x dx ra sa t H):x≠ra:=by
 rintro rfl
 obtain⟨cv,dv,h1,_⟩:=h.ob
 obtain⟨lQ,h2,_⟩:=h.rw
 rw[h1]at h2
 cases h2
theorem lD.xs(h:lD K κ A x dx ra sa t H):x≠sa:=by
 rintro rfl
 obtain⟨cv,dv,h1,_⟩:=h.ob
 obtain⟨lQ,h2,_⟩:=h.so
 rw[h1]at h2
 cases h2
theorem lD.mono(h:lD K κ A x dx ra sa t H)(s:aH H H'):lD K κ A x dx ra sa t H' where
 ne:=h.ne
 ob:=let⟨cv,dv,h1,h2,h3⟩:=h.ob;⟨cv,dv,s _ _ h1,h2.mono (aM s),h3.mono (aM s)⟩
 rw:=let⟨lQ,h1,h2⟩:=h.rw;⟨lQ,s _ _ h1,h2.mono (aM s)⟩
 so:=let⟨oj,h1,h2⟩:=h.so;⟨oj,s _ _ h1,h2.mono (aM s)⟩
theorem lD.rep(C:uN K κ)(h:lD K κ A x dx ra sa t H):Rep K κ H (.ref x) (dz t):=by
 obtain⟨cv,dv,h1,h2,h3⟩:=h.ob
 obtain⟨lQ,h4,h5⟩:=h.rw
 obtain⟨oj,h6,h7⟩:=h.so
 refine .ins (c:=0) (dx:=dx) (vs:=[.ref ra,.ref sa,cv,dv]) ?_ (by rw[C.fld];rfl) ?_
 ·rw[C.fld]
  exact h1
 ·exact .cons (.lst (SL.of h4) (h5.mono aB)) (.cons (.lst (SL.of h6) (h7.mono aB)) (.cons (h2.mono aB) (.cons (h3.mono aB) .nil)))
theorem lD.Qy(C:uN K κ)(h:lD K κ A x dx ra sa t H)(nx:¬A x)(nr:¬A ra)(ns:¬A sa):Rep K κ (hide A H) (.ref x) (dz t):=by
 obtain⟨cv,dv,h1,h2,h3⟩:=h.ob
 obtain⟨lQ,h4,h5⟩:=h.rw
 obtain⟨oj,h6,h7⟩:=h.so
 have s:aH (hide (S4 A x ra sa) H) (hide A H):=dh (λ_ _ z=>z) λb z _=>.inl z
 refine .ins (c:=0) (dx:=dx) (vs:=[.ref ra,.ref sa,cv,dv]) ?_ (by rw[C.fld];rfl) ?_
 ·rw[C.fld,bq nx]
  exact h1
 ·exact .cons (.lst (SL.of (by rw[bq nr];exact h4)) (h5.mono s)) (.cons (.lst (SL.of (by rw[bq ns];exact h6)) (h7.mono s)) (.cons (h2.mono s) (.cons (h3.mono s) .nil)))
theorem lD.al(h:lD K κ A x dx ra sa t H){b:Addr}(hb:S3 x ra sa b):H b≠none:=by
 rcases hb with rfl|rfl|rfl
 ·obtain⟨cv,dv,h1,_⟩:=h.ob
  rw[h1]
  simp
 ·obtain⟨lQ,h1,_⟩:=h.rw
  rw[h1]
  simp
 ·obtain⟨lQ,h1,_⟩:=h.so
  rw[h1]
  simp
structure RT(K:PySem.W.Frag)(κ:Kl)(G:Hp)(A:Addr->Prop)(x dx ra sa:Addr)(t:Tb)(ρ:cg)(σ:St)(H:Hp):Prop where
 tab:lD K κ A x dx ra sa t H
 self:σ[0]?=some (some (.ref x))
 zero:ρ[0]?=some .un
 sh:∀(i:Nat) p,ρ[i]?=some (.sh p)->∃v,σ[i]?=some (some v)/\Rep K κ (hide (S4 A x ra sa) H) v p
 pl:∀(i:Nat) s,ρ[i]?=some s->s=.un\/∃p,s=.sh p
 len:σ.length=ρ.length
 al:∀b,A b->H b≠none
 fr:aH (hide (S3 x ra sa) G) (hide (S3 x ra sa) H)
theorem RT.mono(r:RT K κ G A x dx ra sa t ρ σ H)(s:aH H H'):RT K κ G A x dx ra sa t ρ σ H' where
 tab:=r.tab.mono s
 self:=r.self
 zero:=r.zero
 sh:=λi p e=>let⟨v,h1,h2⟩:=r.sh i p e;⟨v,h1,h2.mono (aM s)⟩
 pl:=r.pl
 len:=r.len
 al:=λb h z=>by
  cases e:H b with
  |none=>exact r.al b h e
  |some o=>rw[s _ _ e]at z;cases z
 fr:=r.fr.trans (aM s)
theorem RT.set(r:RT K κ G A x dx ra sa t ρ σ H){i:Nat}(hi:i≠0){v:V}{p:PV}(z:Rep K κ (hide (S4 A x ra sa) H) v p):RT K κ G A x dx ra sa t (ρ.set i (.sh p)) (σ.set i (some v)) H where
 tab:=r.tab
 self:=by rw[List.getElem?_set_ne hi];exact r.self
 zero:=by rw[List.getElem?_set_ne hi];exact r.zero
 sh:=λj q e=>by
  by_cases hj:i=j
  ·subst hj
   rw[List.getElem?_set]at e
   rw[if_pos rfl]at e
   split at e
   ·rename_i hl
    cases e
    refine⟨v,?_,z⟩
    rw[List.getElem?_set,if_pos rfl,if_pos (by rw[r.len];exact hl)]
   ·cases e
  ·rw[List.getElem?_set_ne hj]at e
   obtain⟨w,h1,h2⟩:=r.sh j q e
   exact⟨w,by rw[List.getElem?_set_ne hj];exact h1,h2⟩
 pl:=λj s e=>by
  by_cases hj:i=j
  ·subst hj
   rw[List.getElem?_set,if_pos rfl]at e
   split at e
   ·cases e
    exact .inr ⟨_,rfl⟩
   ·cases e
  ·rw[List.getElem?_set_ne hj]at e
   exact r.pl j s e
 len:=by rw[List.length_set,List.length_set,r.len]
 al:=r.al
 fr:=r.fr
theorem Hq:hide (λ_=>False) H=H:=by
 funext b
 exact bq λz=>z
theorem RT.r(C:uN K κ)(r:RT K κ G A x dx ra sa t ρ σ H):R K κ H (λ_=>False) (λ_=>none) (λ_=>0) (cI t ρ) σ H/\cP (λ_=>False) (λ_=>0) (cI t ρ)=λ_=>False:=by
 have h0:0<ρ.length:=(List.getElem?_eq_some_iff.mp r.zero).1
 have no:∀{i:Nat} {s:Slot},(cI t ρ)[i]?=some s->(i=0/\s=.sh (dz t))\/(i≠0/\ρ[i]?=some s/\(s=.un\/∃p,s=.sh p)):=λ{i s} e=>by
  unfold cI at e
  by_cases hi:0=i
  ·subst hi
   rw[List.getElem?_set,if_pos rfl,if_pos h0]at e
   exact .inl ⟨rfl,(Option.some.inj e).symm⟩
  ·rw[List.getElem?_set_ne hi]at e
   exact .inr ⟨Ne.symm hi,e,r.pl i s e⟩
 have rE:∀{i:Nat} {l:Cn},(cI t ρ)[i]?≠some (.own l):=λ{i l} e=>by
  rcases no e with⟨_,z⟩|⟨_,_,z|⟨p,z⟩⟩<;>cases z
 have hh:cP (λ_=>False) (λ_=>0) (cI t ρ)=λ_=>False:=by
  funext b
  refine propext ⟨λz=>?_,λz=>z.elim⟩
  rcases z with z|⟨j,m,z1,z2⟩
  ·exact z
  ·exact rE z1
 refine⟨⟨λb h=>h.elim,λi a vs e=>(by cases e),λ_ _ z=>z,λi p e=>?_,λi l e=>absurd e rE,λi j l m e=>absurd e rE,λi l e=>?_,?_⟩,hh⟩
 ·rw[d5,hh,Hq]
  rcases no e with⟨h1,h2⟩|⟨h1,h2,_⟩
  ·subst h1
   cases h2
   exact⟨_,r.self,r.tab.rep C⟩
  ·obtain⟨v,h3,h4⟩:=r.sh i p h2
   exact⟨v,h3,h4.mono aB⟩
 ·rcases no e with⟨_,z⟩|⟨_,_,z|⟨p,z⟩⟩<;>cases z
 ·unfold cI
  rw[List.length_set,r.len]
theorem dX{b:Addr}{o:HO}(h:S3 x ra sa b):hide (S4 A x ra sa) (upd H b o)=hide (S4 A x ra sa) H:=mS (.inr h)
theorem jJ{b:Addr}{o:HO}(h:S3 x ra sa b):hide (S3 x ra sa) (upd H b o)=hide (S3 x ra sa) H:=mS h
theorem lD.uO(h:lD K κ A x dx ra sa t H){vs:List V}{l:List PV}(z:aQ K κ (hide (S4 A x ra sa) H) vs l):lD K κ A x dx ra sa {t with rows:=l} (upd H ra (.lst vs)):=by
 have e:hide (S4 A x ra sa) (upd H ra (.lst vs))=hide (S4 A x ra sa) H:=dX (.inr (.inl rfl))
 refine⟨h.ne,?_,⟨vs,aU,by rw[e];exact z⟩,?_⟩
 ·obtain⟨cv,dv,h1,h2,h3⟩:=h.ob
  exact⟨cv,dv,by rw[aC h.xr];exact h1,by rw[e];exact h2,by rw[e];exact h3⟩
 ·obtain⟨oj,h1,h2⟩:=h.so
  exact⟨oj,by rw[aC (Ne.symm h.ne)];exact h1,by rw[e];exact h2⟩
theorem lD.yu(h:lD K κ A x dx ra sa t H){vs:List V}{l:List PV}(z:aQ K κ (hide (S4 A x ra sa) H) vs l):lD K κ A x dx ra sa {t with sol:=l} (upd H sa (.lst vs)):=by
 have e:hide (S4 A x ra sa) (upd H sa (.lst vs))=hide (S4 A x ra sa) H:=dX (.inr (.inr rfl))
 refine⟨h.ne,?_,?_,⟨vs,aU,by rw[e];exact z⟩⟩
 ·obtain⟨cv,dv,h1,h2,h3⟩:=h.ob
  exact⟨cv,dv,by rw[aC h.xs];exact h1,by rw[e];exact h2,by rw[e];exact h3⟩
 ·obtain⟨oj,h1,h2⟩:=h.rw
  exact⟨oj,by rw[aC h.ne];exact h1,by rw[e];exact h2⟩
theorem lD.wz(h:lD K κ A x dx ra sa t H){cv dv:V}{cs dd:PV}(z1:Rep K κ (hide (S4 A x ra sa) H) cv cs)(z2:Rep K κ (hide (S4 A x ra sa) H) dv dd):lD K κ A x dx ra sa {t with cs:=cs,dd:=dd} (upd H x (.ins (κ.adr 0) dx [(("rows" :Str),.ref ra),(("solved" :Str),.ref sa),(("costs" :Str),cv),(("parts_of_one" :Str),dv)])):=by
 have e:∀o,hide (S4 A x ra sa) (upd H x o)=hide (S4 A x ra sa) H:=λo=>dX (.inl rfl)
 refine⟨h.ne,⟨cv,dv,aU,by rw[e];exact z1,by rw[e];exact z2⟩,?_,?_⟩
 ·obtain⟨oj,h1,h2⟩:=h.rw
  exact⟨oj,by rw[aC (Ne.symm h.xr)];exact h1,by rw[e];exact h2⟩
 ·obtain⟨oj,h1,h2⟩:=h.so
  exact⟨oj,by rw[aC (Ne.symm h.xs)];exact h1,by rw[e];exact h2⟩
theorem RT.put(r:RT K κ G A x dx ra sa t ρ σ H){b:Addr}{o:HO}(hb:S3 x ra sa b)(T:lD K κ A x dx ra sa t' (upd H b o)):RT K κ G A x dx ra sa t' ρ σ (upd H b o) where
 tab:=T
 self:=r.self
 zero:=r.zero
 sh:=λi p e=>by rw[dX hb];exact r.sh i p e
 pl:=r.pl
 len:=r.len
 al:=λc h=>by
  by_cases e:c=b
  ·rw[e,aU]
   simp
  ·rw[aC e]
   exact r.al c h
 fr:=by rw[jJ hb];exact r.fr
theorem RT.new(C:uN K κ)(r:RT K κ G A x dx ra sa t ρ σ H){v:V}{p:PV}(f:allFlat p=true)(z:OR K κ (cP (λ_=>False) (λ_=>0) (cI t ρ)) H H' v p):Rep K κ (hide (S4 A x ra sa) H') v p:=by
 obtain⟨a,vs,l,rfl,rfl,h1,h2,h3⟩:=z
 have ha:¬S4 A x ra sa a:=λw=>w.elim (λw=>r.al a w h1) λw=>r.tab.al w h1
 refine .lst (SL.of (by rw[bq ha];exact h2)) ?_
 have g:∀{H1 H2:Hp} {vs:List V} {l:List PV},l.all flat=true->aQ K κ H1 vs l->aQ K κ H2 vs l:=by
  intro H1 H2 vs l hl q
  induction vs generalizing l with
  |nil=>cases q;exact .nil
  |cons v vs ih=>
   cases q with
   |cons q1 q2=>
    rw[List.all_cons,Bool.and_eq_true]at hl
    exact .cons (Rep.flat hl.1 q1) (ih hl.2 q2)
 exact g f h3
end
theorem eh{α:Type}{c:Prop}[Decidable c]{o:Option α}{z:α}(h:(if c then o else none)=some z):c/\o=some z:=by
 by_cases hc:c
 ·rw[if_pos hc]at h
  exact⟨hc,h⟩
 ·rw[if_neg hc]at h
  cases h
theorem sQ{K:PySem.W.Frag}{κ:Kl}{H1 H2:Hp}:∀{vs:List V} {l:List PV},l.all flat=true->aQ K κ H1 vs l->aQ K κ H2 vs l
 |[],_,_,.nil=>.nil
 |_::_,_,h,.cons q1 q2=>by
  rw[List.all_cons,Bool.and_eq_true]at h
  exact .cons (Rep.flat h.1 q1) (sQ h.2 q2)
noncomputable def Rx(K:PySem.W.Frag)(κ:Kl)(ts:TS)(g:eS):Prop:=
 ∀{G A x dx ra sa t ρ σ H t' ρ' D},RT K κ G A x dx ra sa t ρ σ H->g t ρ=some (t',ρ')->(∀σ' H',RT K κ G A x dx ra sa t' ρ' σ' H'->D.nx σ' H')->ts D σ H
noncomputable def MS(X:Cx)(κ:Kl)(st:Stmt)(g:eS):Prop:=∃ts,PS X st ts/\Rx X.K κ ts g
noncomputable def Ge(X:Cx)(κ:Kl)(st:List Stmt)(g:eS):Prop:=∃ts,tG X st ts/\Rx X.K κ ts g
section
variable{X:Cx}{κ:Kl}{st:Stmt}{rest body Qz:List Stmt}{g g':eS}{a b c e kk:Expr}{es:List Expr}{f fk fa:Den}{fs:cu}{ft:cN}{pos p1 p2 p3 sp:Pos}{y:Str}{py:Pos}
theorem Hr:Ge X κ [] Jb:=⟨_,o8,λ{G A x dx ra sa t ρ σ H t' ρ' D} r e k=>by cases e;exact k σ H r⟩
theorem jo(h1:MS X κ st g)(h2:Ge X κ rest g'):Ge X κ (st::rest) (uo g g'):=by
 obtain⟨t1,a1,a2⟩:=h1
 obtain⟨t2,b1,b2⟩:=h2
 refine⟨_,cX a1 b1,λ{G A x dx ra sa t ρ σ H t' ρ' D} r e k=>?_⟩
 obtain⟨⟨t1,ρ1⟩,e1,e2⟩:=Option.bind_eq_some_iff.mp e
 exact a2 r e1 λσ' H' r'=>b2 r' e2 k
theorem nc(h1:MS X κ st g):Ge X κ [st] g:=let⟨_,a1,a2⟩:=h1;⟨_,jA a1,a2⟩
theorem Aj(C:uN X.K κ)(i:Nat)(hN:X.N.Nodup)(he:DE X κ e f)(hi:X.N[i]?=some y:=by rfl)(Hs:i≠0:=by decide)(hx:Loc X.env.scope y:=by first|exact Or.inl rfl|exact Or.inr rfl)(hs:swapsWith e (some (.Name y py)) pos.line X.env=pure false:=by rfl)
  (hf:X.fn y=true\/X.env.scope.names.lookup y=some .local:=by first|exact .inl rfl|exact .inr rfl):MS X κ (.Assign [.Name y py] e pos) (vY i f):=by
 obtain⟨te,h1,h2⟩:=he
 refine⟨_,nP hN hi hx h1 hs hf,λ{G A x dx ra sa t ρ σ H t' ρ' D} r e k=>?_⟩
 obtain⟨p,e1,e2⟩:=Option.bind_eq_some_iff.mp e
 obtain⟨Ei,e3⟩:=bC e2
 cases e3
 refine h2 (r.r C).1 e1 λv H' s z=>?_
 exact k _ _ ((r.mono s).set Hs (Rep.flat Ei z))
theorem Ht(C:uN X.K κ)(i:Nat)(hN:X.N.Nodup)(hk:DB X κ kk fk)(hi:X.N[i]?=some y:=by rfl)(h0:X.N[0]?=some ("self" :Str):=by rfl)(Hs:i≠0:=by decide)(hx:Loc X.env.scope y:=by first|exact Or.inl rfl|exact Or.inr rfl)(hv:tD X.env.scope "self" :=by first|exact Or.inl rfl|exact Or.inr (Or.inl rfl)|exact Or.inr (Or.inr rfl))
  (hs:swapsWith (.Subscript (.Attribute (.Name "self" p1) "rows" p2) kk p3) (some (.Name y py)) pos.line X.env=pure false:=by rfl)
  (hf:X.fn y=true\/X.env.scope.names.lookup y=some .local:=by first|exact .inl rfl|exact .inr rfl)
  (hb:attributeBase (.Name "self" p1) "rows" X.env (eval (.Name "self" p1) X.env)=eval (.Name "self" p1) X.env:=by rfl)(hp:tN kk:=by intro _ _;rfl):MS X κ (.Assign [.Name y py] (.Subscript (.Attribute (.Name "self" p1) "rows" p2) kk p3) pos) (DJ i fk):=by
 obtain⟨tk,h1,h2⟩:=hk
 refine⟨_,nP hN hi hx (zx zy (nT (dD h0 hv) hb) h1 hp) hs hf,λ{G A x dx ra sa t ρ σ H t' ρ' D} r e k=>?_⟩
 obtain⟨p,e1,e2⟩:=Option.bind_eq_some_iff.mp e
 obtain⟨j,e3,e4⟩:=Option.bind_eq_some_iff.mp e2
 obtain⟨q,e5,e6⟩:=Option.map_eq_some_iff.mp e4
 cases e6
 cases p<;>first|(cases e3;done)|skip
 cases e3
 obtain⟨cv,dv,o1,_,_⟩:=r.tab.ob
 refine⟨_,r.self,x,_,dx,_,.ref ra,rfl,o1,C.cls,C.n1,rfl,h2 (r.r C).1 e1 λv H' s z=>?_⟩
 obtain⟨lQ,w1,w2⟩:=(r.mono s).tab.rw
 obtain⟨n,e7,e8⟩:=Option.bind_eq_some_iff.mp e5
 obtain⟨v',e9,z9⟩:=w2.get e8
 refine⟨ra,lQ,j,v',rfl,z.int,gc.of w1,?_,k _ _ ((r.mono s).set Hs z9)⟩
 unfold IM
 rw[w2.length,show L3 t.rows.length j=some n from e7]
 exact e9
theorem Lh(C:uN X.K κ)(hk:DB X κ kk fk)(he:DO X κ e f)(h0:X.N[0]?=some ("self" :Str):=by rfl)(hv:tD X.env.scope "self" :=by first|exact Or.inl rfl|exact Or.inr (Or.inl rfl)|exact Or.inr (Or.inr rfl))
  (hb:attributeBase (.Name "self" p1) "rows" X.env (eval (.Name "self" p1) X.env)=eval (.Name "self" p1) X.env:=by rfl)
  (ha:∀v,assign (.Subscript (.Attribute (.Name "self" p1) "rows" p2) kk sp) X.env v=(do
    let ov<-holding [v] (eval (.Attribute (.Name "self" p1) "rows" p2) X.env)
    let iv<-holding [v,ov] (eval kk X.env)
    standAt sp
    holding [v,ov,iv] (setItem ov iv v)
    release [v,ov,iv] []):=by intro _;rfl)
  (hs:swapsWithSole [.Subscript (.Attribute (.Name "self" p1) "rows" p2) kk sp] e pos.line X.env=pure false:=by rfl)(hw:swappedStores [.Subscript (.Attribute (.Name "self" p1) "rows" p2) kk sp] e X.env=pure none:=by rfl)
  (Kv:(assignEach [.Subscript (.Attribute (.Name "self" p1) "rows" p2) kk sp] X.env).map (·.2)=[assign (.Subscript (.Attribute (.Name "self" p1) "rows" p2) kk sp) X.env]:=by rfl):MS X κ (.Assign [.Subscript (.Attribute (.Name "self" p1) "rows" p2) kk sp] e pos) (G4 fk f):=by
 obtain⟨te,h1,h2⟩:=he
 obtain⟨tk,h3,h4⟩:=hk
 refine⟨_,xI h1 (CU (nT (dD h0 hv) hb) h3 set_list ha) hs hw Kv,λ{G A x dx ra sa t ρ σ H t' ρ' D} r e k=>?_⟩
 obtain⟨q,e1,e2⟩:=Option.bind_eq_some_iff.mp e
 obtain⟨Ei,e2⟩:=eh e2
 obtain⟨p,e3,e4⟩:=Option.bind_eq_some_iff.mp e2
 obtain⟨j,e5,e6⟩:=Option.bind_eq_some_iff.mp e4
 obtain⟨n,e7,e8⟩:=Option.map_eq_some_iff.mp e6
 cases e8
 cases p<;>first|(cases e5;done)|skip
 cases e5
 refine h2 (r.r C).1 e1 λv H1 s1 z1=>?_
 have zn:=r.new C Ei z1
 have r1:=r.mono s1
 obtain⟨cv,dv,o1,_,_⟩:=r1.tab.ob
 refine⟨_,r1.self,x,_,dx,_,.ref ra,rfl,o1,C.cls,C.n1,rfl,h4 (r1.r C).1 e3 λkv H2 s2 b2=>?_⟩
 have r2:=r1.mono s2
 obtain⟨lQ,w1,w2⟩:=r2.tab.rw
 refine⟨ra,lQ,j,n,rfl,b2.int,w1,?_,k _ _ (r2.put (.inr (.inl rfl)) (r2.tab.uO (w2.set (zn.mono (aM s2)) n)))⟩
 rw[w2.length]
 exact e7
theorem Li(C:uN X.K κ)(hk:DB X κ kk fk)(he:DE X κ e f)(h0:X.N[0]?=some ("self" :Str):=by rfl)(hv:tD X.env.scope "self" :=by first|exact Or.inl rfl|exact Or.inr (Or.inl rfl)|exact Or.inr (Or.inr rfl))
  (hb:attributeBase (.Name "self" p1) "solved" X.env (eval (.Name "self" p1) X.env)=eval (.Name "self" p1) X.env:=by rfl)
  (ha:∀v,assign (.Subscript (.Attribute (.Name "self" p1) "solved" p2) kk sp) X.env v=(do
    let ov<-holding [v] (eval (.Attribute (.Name "self" p1) "solved" p2) X.env)
    let iv<-holding [v,ov] (eval kk X.env)
    standAt sp
    holding [v,ov,iv] (setItem ov iv v)
    release [v,ov,iv] []):=by intro _;rfl)
  (hs:swapsWithSole [.Subscript (.Attribute (.Name "self" p1) "solved" p2) kk sp] e pos.line X.env=pure false:=by rfl)(hw:swappedStores [.Subscript (.Attribute (.Name "self" p1) "solved" p2) kk sp] e X.env=pure none:=by rfl)
  (Kv:(assignEach [.Subscript (.Attribute (.Name "self" p1) "solved" p2) kk sp] X.env).map (·.2)=[assign (.Subscript (.Attribute (.Name "self" p1) "solved" p2) kk sp) X.env]:=by rfl):MS X κ (.Assign [.Subscript (.Attribute (.Name "self" p1) "solved" p2) kk sp] e pos) (KJ fk f):=by
 obtain⟨te,h1,h2⟩:=he
 obtain⟨tk,h3,h4⟩:=hk
 refine⟨_,xI h1 (CU (nT (dD h0 hv) hb) h3 set_list ha) hs hw Kv,λ{G A x dx ra sa t ρ σ H t' ρ' D} r e k=>?_⟩
 obtain⟨q,e1,e2⟩:=Option.bind_eq_some_iff.mp e
 obtain⟨Ei,e2⟩:=eh e2
 obtain⟨p,e3,e4⟩:=Option.bind_eq_some_iff.mp e2
 obtain⟨j,e5,e6⟩:=Option.bind_eq_some_iff.mp e4
 obtain⟨n,e7,e8⟩:=Option.map_eq_some_iff.mp e6
 cases e8
 cases p<;>first|(cases e5;done)|skip
 cases e5
 refine h2 (r.r C).1 e1 λv H1 s1 z1=>?_
 have r1:=r.mono s1
 obtain⟨cv,dv,o1,_,_⟩:=r1.tab.ob
 refine⟨_,r1.self,x,_,dx,_,.ref sa,rfl,o1,C.cls,C.n2,rfl,h4 (r1.r C).1 e3 λkv H2 s2 b2=>?_⟩
 have r2:=r1.mono s2
 obtain⟨lQ,w1,w2⟩:=r2.tab.so
 refine⟨sa,lQ,j,n,rfl,b2.int,w1,?_,k _ _ (r2.put (.inr (.inr rfl)) (r2.tab.yu (w2.set (Rep.flat Ei z1) n)))⟩
 rw[w2.length]
 exact e7
theorem Ej(C:uN X.K κ)(he:DO X κ e f)(h0:X.N[0]?=some ("self" :Str):=by rfl)(hv:tD X.env.scope "self" :=by first|exact Or.inl rfl|exact Or.inr (Or.inl rfl)|exact Or.inr (Or.inr rfl))
  (hs:swapsWith e (some (.Attribute (.Name "self" p1) "costs" p2)) pos.line X.env=pure false:=by rfl):MS X κ (.Assign [.Attribute (.Name "self" p1) "costs" p2] e pos) (uq f):=by
 obtain⟨te,h1,h2⟩:=he
 refine⟨_,nU (dD h0 hv) h1 hs,λ{G A x dx ra sa t ρ σ H t' ρ' D} r e k=>?_⟩
 obtain⟨q,e1,e2⟩:=Option.bind_eq_some_iff.mp e
 obtain⟨Ei,e2⟩:=bC e2
 cases e2
 refine h2 (r.r C).1 e1 λv H1 s1 z1=>?_
 have zn:=r.new C Ei z1
 have r1:=r.mono s1
 obtain⟨cv,dv,o1,o2,o3⟩:=r1.tab.ob
 exact⟨_,r1.self,x,_,dx,_,rfl,o1,C.cls,C.n3,(show(4:Nat)<1000 by decide),k _ _ (r1.put (.inl rfl) (r1.tab.wz zn o3))⟩
theorem Ek(C:uN X.K κ)(he:DE X κ e f)(h0:X.N[0]?=some ("self" :Str):=by rfl)(hv:tD X.env.scope "self" :=by first|exact Or.inl rfl|exact Or.inr (Or.inl rfl)|exact Or.inr (Or.inr rfl))
  (hs:swapsWith e (some (.Attribute (.Name "self" p1) "parts_of_one" p2)) pos.line X.env=pure false:=by rfl):MS X κ (.Assign [.Attribute (.Name "self" p1) "parts_of_one" p2] e pos) (ur f):=by
 obtain⟨te,h1,h2⟩:=he
 refine⟨_,nU (dD h0 hv) h1 hs,λ{G A x dx ra sa t ρ σ H t' ρ' D} r e k=>?_⟩
 obtain⟨q,e1,e2⟩:=Option.bind_eq_some_iff.mp e
 obtain⟨Ei,e2⟩:=bC e2
 cases e2
 refine h2 (r.r C).1 e1 λv H1 s1 z1=>?_
 have r1:=r.mono s1
 obtain⟨cv,dv,o1,o2,o3⟩:=r1.tab.ob
 exact⟨_,r1.self,x,_,dx,_,rfl,o1,C.cls,C.n4,(show(4:Nat)<1000 by decide),k _ _ (r1.put (.inl rfl) (r1.tab.wz o2 (Rep.flat Ei z1)))⟩
theorem NM(C:uN X.K κ)(hc:DT X κ c ft)(ha:Ge X κ body g)(hb:Ge X κ Qz g'):MS X κ (.If c body Qz pos) (P8 ft g g'):=by
 obtain⟨tc,h1,h2⟩:=hc
 obtain⟨t1,a1,a2⟩:=ha
 obtain⟨t2,b1,b2⟩:=hb
 refine⟨_,zo h1 a1 b1,λ{G A x dx ra sa t ρ σ H t' ρ' D} r e k=>?_⟩
 obtain⟨q,e1,e2⟩:=Option.bind_eq_some_iff.mp e
 refine h2 (r.r C).1 e1 λH' s=>?_
 cases q with
 |true=>
  rw[if_pos rfl]at e2⊢
  exact a2 (r.mono s) e2 k
 |false=>
  rw[if_neg Bool.false_ne_true]at e2⊢
  exact b2 (r.mono s) e2 k
end
theorem wA{n i:Nat}(h:i<n):(cR 0 n).drop i=.int (0+(i:Nat))::(cR 0 n).drop (i+1):=by
 have hl:i<(cR 0 n).length:=by unfold cR;simpa using h
 rw[List.drop_eq_getElem_cons hl]
 congr 1
 unfold cR
 simp
theorem yv{n:Nat}:(cR 0 n).drop n=[]:=List.drop_eq_nil_of_le (by unfold cR;simp)
noncomputable def OL(K:PySem.W.Frag)(κ:Kl)(F:Tb->List PV->Option Tb):Sp:=λvs H Q _=>∃(A:Addr->Prop) (x dx ra sa:Addr) (t t':Tb) (ws:List V) (ps:List PV),vs=.ref x::ws/\(∀b,A b->H b≠none)/\lD K κ A x dx ra sa t H/\aQ K κ (hide (S4 A x ra sa) H) ws ps/\F t ps=some t'/\
 ∀H',aH (hide (S3 x ra sa) H) (hide (S3 x ra sa) H')->lD K κ A x dx ra sa t' H'->Q .non H'
theorem Hu{K:PySem.W.Frag}{κ:Kl}{A:Addr->Prop}{x dx ra sa:Addr}{t:Tb}{H H':Hp}(s:aH (hide (S3 x ra sa) H) (hide (S3 x ra sa) H'))(T:lD K κ A x dx ra sa t H')(al:∀b,A b->H b≠none){b:Addr}(hb:A b):H' b≠none:=by
 by_cases h:S3 x ra sa b
 ·exact T.al h
 ·cases e:H b with
  |none=>exact absurd e (al b hb)
  |some o=>
   have:=s b o (by rw[bq h];exact e)
   rw[(cw this).2]
   simp
section
variable{X:Cx}{κ:Kl}{st:Stmt}{rest body Qz:List Stmt}{g g':eS}{a b c e kk:Expr}{es:List Expr}{f fk fa:Den}{fs:cu}{ft:cN}{pos p1 p2 p3 apos df:Pos}{y m:Str}{py:Pos}
theorem Lj(C:uN X.K κ)(i:Nat)(hN:X.N.Nodup)(ha:DB X κ a fa)(hm:X.mg "range" =none)(hb:Ge X κ body g)(hi:X.N[i]?=some y:=by rfl)(Hs:i≠0:=by decide)(hx:Loc X.env.scope y:=by first|exact Or.inl rfl|exact Or.inr rfl)
  (hf:X.fn y=true\/X.env.scope.names.lookup y=some .local:=by first|exact .inl rfl|exact .inr rfl)
  (hg:Gl X "range" :=by rfl)(hs:starEach [a] X.env=[(false,eval a X.env)]:=by rfl)(hp:PassesOwn (model X.prog X.w) X.A X.env X.xe:=by exact PassesOwn.never)(hc:X.calm=true:=by rfl)
  (QA:∀x,foldedSetIterable (.Call (.Name "range" p1) [a] [] p2) X.env x=pure x:=by intro _;rfl):MS X κ (.For (.Name y py) (.Call (.Name "range" p1) [a] [] p2) body [] pos) (G5 i fa g):=by
 obtain⟨te,h1,h2⟩:=ha
 obtain⟨tb,h3,h4⟩:=hb
 refine⟨_,xK hp hc (nQ hg hm (bG h1 cq hs) hs) (lr hN hi hx hf) h3 QA,λ{G A x dx ra sa t ρ σ H t' ρ' D} r e k=>?_⟩
 obtain⟨ps,e1,e2⟩:=Option.bind_eq_some_iff.mp e
 refine KY h2 (r.r C).1 e1 λn H' s e'=>?_
 subst e'
 refine A4 (n:=n) (λj σ H=>j<=n/\∃t ρ,RT X.K κ G A x dx ra sa t ρ σ H/\zQ i g ((cR 0 n).drop j) t ρ=some (t',ρ')) ⟨Nat.zero_le _,t,ρ,r.mono s,by simpa using e2⟩ (λj σ H hj ⟨_,t,ρ,r,e⟩=>?_) (λσ H ⟨_,t,ρ,r,e⟩=>?_)
 ·rw[wA hj]at e
  obtain⟨⟨t1,ρ1⟩,e3,e4⟩:=Option.bind_eq_some_iff.mp e
  exact h4 (r.set Hs (.int _)) e3 λσ' H' r'=>⟨hj,t1,ρ1,r',e4⟩
 ·rw[yv]at e
  cases e
  exact k _ _ r
theorem El(C:uN X.K κ)(n:Nat)(hc:DT X κ c ft)(hb:Ge X κ body g)(hp:PassesOwn (model X.prog X.w) X.A X.env X.xe:=by exact PassesOwn.never):MS X κ (.While c body [] pos) (fM ft g n):=by
 obtain⟨tc,h1,h2⟩:=hc
 obtain⟨tb,h3,h4⟩:=hb
 refine⟨_,vz hp h1 h3,λ{G A x dx ra sa t ρ σ H t' ρ' D} r e k=>?_⟩
 refine⟨λm σ H=>∃t ρ,RT X.K κ G A x dx ra sa t ρ σ H/\fM ft g m t ρ=some (t',ρ'),⟨n,t,ρ,r,e⟩,?_⟩
 rintro m σ H ⟨t,ρ,r,e⟩
 cases m with
 |zero=>cases e
 |succ m=>
  unfold fM at e
  obtain⟨c,e1,e2⟩:=Option.bind_eq_some_iff.mp e
  refine h2 (r.r C).1 e1 λH1 s1=>?_
  cases c with
  |false=>
   cases e2
   exact k σ H1 (r.mono s1)
  |true=>
   obtain⟨⟨t1,ρ1⟩,e3,e4⟩:=Option.bind_eq_some_iff.mp e2
   refine⟨λσ' H'=>∃t ρ,RT X.K κ G A x dx ra sa t ρ σ' H'/\fM ft g m t ρ=some (t',ρ'),λσ' H' q=>⟨m,Nat.lt_succ_self m,q⟩,?_⟩
   exact h4 (r.mono s1) e3 λσ' H' r'=>⟨t1,ρ1,r',e4⟩
theorem Hv{F:Tb->List PV->Option Tb}{k:Nat}{fo:Addr}{fd:FuncData}{ps:List Str}{pl:Sem Bool}(C:uN X.K κ)(hm:Meth X.K (κ.adr 0) m fo)(FO:cM X.prog X.w X.K X.mg X.base iK k fo fd ps (OL X.K κ F))(hr:ck k X.A)(hb:Binds X.K fd ps [])(ha:DA X κ (e::es) fs)
  (h0:X.N[0]?=some ("self" :Str):=by rfl)(hv:tD X.env.scope "self" :=by first|exact Or.inl rfl|exact Or.inr (Or.inl rfl)|exact Or.inr (Or.inr rfl))
  (hn:∀u1 u2 u3 u4:V,List.lookup m [(("rows" :Str),u1),(("solved" :Str),u2),(("costs" :Str),u3),(("parts_of_one" :Str),u4)]=none:=by intros;rfl)
  (oY:starEach (e::es) X.env=(false,eval e X.env)::starEach es X.env:=by rfl)(hpl:(backTo df (starEach es X.env)).any (·.1)=false:=by rfl)
  (ht:eval (.Call (.Attribute (.Name "self" p1) m apos) (e::es) [] df) X.env=(do
    let ov<-eval (.Name "self" p1) X.env
    standAt apos.atName
    let(f,first)<-holding [ov] (getMethod ov m pl)
    callWith df f first (backTo df (starEach (e::es) X.env)) (backToKw df (keywordEach [] X.env))):=by rfl)
  (hs:swapsWith (.Call (.Attribute (.Name "self" p1) m apos) (e::es) [] df) none pos.line X.env=pure false:=by rfl):MS X κ (.Expr (.Call (.Attribute (.Name "self" p1) m apos) (e::es) [] df) pos) (zR F fs):=by
 obtain⟨ta,h1,h2⟩:=ha
 refine⟨_,jB (Gz (pl:=pl) (dD h0 hv) C.cls hm FO hr hb .nil kc h1 oY hpl ht) hs,λ{G A x dx ra sa t ρ σ H t' ρ' D} r e k=>?_⟩
 obtain⟨ps,e1,e2⟩:=Option.bind_eq_some_iff.mp e
 obtain⟨Ei,e3⟩:=eh e2
 obtain⟨t1,e4,e5⟩:=Option.map_eq_some_iff.mp e3
 cases e5
 obtain⟨cv,dv,o1,_,_⟩:=r.tab.ob
 refine⟨_,r.self,x,dx,_,rfl,o1,hn _ _ _ _,h2 (r.r C).1 e1 λvs H' s z=>?_⟩
 have r1:=r.mono s
 refine⟨A,x,dx,ra,sa,t,t',vs,ps,by rw[List.append_nil],r1.al,r1.tab,sQ Ei z,e4,λH2 s2 T2=>k _ _ ?_⟩
 exact⟨T2,r1.self,r1.zero,λi p e=>let⟨v,g1,g2⟩:=r1.sh i p e;⟨v,g1,g2.mono (Ai s2)⟩,r1.pl,r1.len,λb hb=>Hu s2 T2 r1.al hb,r1.fr.trans s2⟩
end
section
variable{P:Program}{w:World}{K:PySem.W.Frag}{mg:Str->Option Value}{base:Heap}{κ:Kl}
theorem RT.entry{H:Hp}{N:List Str}{k:Nat}{A:Addr->Prop}{x dx ra sa:Addr}{t:Tb}{ws:List V}{ps:List PV}(hk:ps.length+1=k)(al:∀b,A b->H b≠none)(T:lD K κ A x dx ra sa t H)(h:aQ K κ (hide (S4 A x ra sa) H) ws ps):RT K κ H A x dx ra sa t (.un::(ps.map Slot.sh++List.replicate (N.length-k) .un)) (start N (.ref x::ws)) H:=by
 have hl:=h.length
 refine⟨T,rfl,rfl,λi p e=>?_,λi s e=>?_,?_,al,λ_ _ z=>z⟩
 ·cases i with
  |zero=>cases e
  |succ i=>
   rw[List.getElem?_cons_succ,List.getElem?_append]at e
   split at e
   ·rename_i hi
    rw[List.getElem?_map]at e
    obtain⟨q,e1,e2⟩:=Option.map_eq_some_iff.mp e
    cases e2
    obtain⟨v,h1,h2⟩:=h.get e1
    refine⟨v,?_,h2⟩
    unfold start
    rw[List.map_cons,List.cons_append,List.getElem?_cons_succ,List.getElem?_append_left (by rw[List.length_map];exact(List.getElem?_eq_some_iff.mp h1).1),List.getElem?_map,h1]
    rfl
   ·rw[List.getElem?_replicate]at e
    split at e<;>cases e
 ·cases i with
  |zero=>cases e;exact .inl rfl
  |succ i=>
   rw[List.getElem?_cons_succ,List.getElem?_append]at e
   split at e
   ·rw[List.getElem?_map]at e
    obtain⟨q,e1,e2⟩:=Option.map_eq_some_iff.mp e
    exact .inr ⟨q,e2.symm⟩
   ·rw[List.getElem?_replicate]at e
    split at e
    ·cases e;exact .inl rfl
    ·cases e
 ·unfold start
  simp only[List.length_append,List.length_map,List.length_cons,List.length_replicate,hl]
  rw[hk]
  omega
theorem Hw{x qual:Str}{st:Stmt}{f:Addr}{fd:FuncData}{N ps:List Str}{k:Nat}{g:eS}(F:vD K x qual st f fd)(S:eI N ps (aj st))
  (hb:∀(eU:Value) (A:Around) (outer:List Env) (s:Shared) (H:Hp) (E:XK),ck k (A.deeper (envOfC qual (aj st) s.heap.objs.size f eU))->Ge (lN iK P w K mg base N qual (aj st) f eU A outer s H E).zm κ (cz st) g):
  cM P w K mg base iK (k+1) f fd ps (OL K κ (Jc N.length ps.length g)):=by
 refine F.ok S (λvs H Q E h=>?_) (λeU A outer s H vs Q E hr h=>?_)
 ·obtain⟨A',x,dx,ra,sa,t,t',ws,qs,rfl,_,_,h1,h2,_⟩:=h
  unfold Jc at h2
  split at h2
  ·rw[List.length_cons,h1.length]
   assumption
  ·cases h2
 ·obtain⟨A',x,dx,ra,sa,t,t',ws,qs,rfl,al,T,h1,h2,q⟩:=h
  obtain⟨ts,a1,a2⟩:=hb eU A outer s H E hr
  refine⟨ts,a1,?_⟩
  unfold Jc at h2
  obtain⟨hk,h3⟩:=eh h2
  obtain⟨⟨t1,ρ1⟩,e1,e2⟩:=Option.map_eq_some_iff.mp h3
  cases e2
  exact a2 (RT.entry hk al T h1) e1 λσ' H' r'=>q H' r'.fr r'.tab
end
structure RI(K:PySem.W.Frag)(κ:Kl)(G:Hp)(A:Addr->Prop)(x dx ra sa:Addr)(ex:List (Str×V))(rows sol:List PV)(ρ:cg)(σ:St)(H:Hp):Prop where
 ne:ra≠sa
 ob:H x=some (.ins (κ.adr 0) dx ((("rows" :Str),.ref ra)::(("solved" :Str),.ref sa)::ex))
 rw:∃lQ,H ra=some (.lst lQ)/\aQ K κ (hide (S4 A x ra sa) H) lQ rows
 so:∃oj,H sa=some (.lst oj)/\aQ K κ (hide (S4 A x ra sa) H) oj sol
 self:σ[0]?=some (some (.ref x))
 zero:ρ[0]?=some .un
 sh:∀(i:Nat) p,ρ[i]?=some (.sh p)->∃v,σ[i]?=some (some v)/\Rep K κ (hide (S4 A x ra sa) H) v p
 pl:∀(i:Nat) s,ρ[i]?=some s->s=.un\/∃p,s=.sh p
 len:σ.length=ρ.length
 al':∀b,A b->H b≠none
 fr:aH (hide (S3 x ra sa) G) (hide (S3 x ra sa) H)
section
variable{K:PySem.W.Frag}{κ:Kl}{A:Addr->Prop}{x dx ra sa:Addr}{ex:List (Str×V)}{rows sol:List PV}{G H H':Hp}{ρ:cg}{σ:St}
theorem RI.xr(h:RI K κ G A x dx ra sa ex rows sol ρ σ H):x≠ra:=by
 rintro rfl
 obtain⟨lQ,h2,_⟩:=h.rw
 rw[h.ob]at h2
 cases h2
theorem RI.xs(h:RI K κ G A x dx ra sa ex rows sol ρ σ H):x≠sa:=by
 rintro rfl
 obtain⟨lQ,h2,_⟩:=h.so
 rw[h.ob]at h2
 cases h2
theorem RI.al(h:RI K κ G A x dx ra sa ex rows sol ρ σ H){b:Addr}(hb:S3 x ra sa b):H b≠none:=by
 rcases hb with rfl|rfl|rfl
 ·rw[h.ob]
  simp
 ·obtain⟨lQ,h1,_⟩:=h.rw
  rw[h1]
  simp
 ·obtain⟨lQ,h1,_⟩:=h.so
  rw[h1]
  simp
theorem RI.mono(r:RI K κ G A x dx ra sa ex rows sol ρ σ H)(s:aH H H'):RI K κ G A x dx ra sa ex rows sol ρ σ H' where
 ne:=r.ne
 ob:=s _ _ r.ob
 rw:=let⟨lQ,h1,h2⟩:=r.rw;⟨lQ,s _ _ h1,h2.mono (aM s)⟩
 so:=let⟨oj,h1,h2⟩:=r.so;⟨oj,s _ _ h1,h2.mono (aM s)⟩
 self:=r.self
 zero:=r.zero
 sh:=λi p e=>let⟨v,h1,h2⟩:=r.sh i p e;⟨v,h1,h2.mono (aM s)⟩
 pl:=r.pl
 len:=r.len
 al':=λb h z=>by
  cases e:H b with
  |none=>exact r.al' b h e
  |some o=>rw[s _ _ e]at z;cases z
 fr:=r.fr.trans (aM s)
theorem RI.set(r:RI K κ G A x dx ra sa ex rows sol ρ σ H){i:Nat}(hi:i≠0){v:V}{p:PV}(z:Rep K κ (hide (S4 A x ra sa) H) v p):RI K κ G A x dx ra sa ex rows sol (ρ.set i (.sh p)) (σ.set i (some v)) H where
 ne:=r.ne
 ob:=r.ob
 rw:=r.rw
 so:=r.so
 self:=by rw[List.getElem?_set_ne hi];exact r.self
 zero:=by rw[List.getElem?_set_ne hi];exact r.zero
 sh:=λj q e=>by
  by_cases hj:i=j
  ·subst hj
   rw[List.getElem?_set]at e
   rw[if_pos rfl]at e
   split at e
   ·rename_i hl
    cases e
    refine⟨v,?_,z⟩
    rw[List.getElem?_set,if_pos rfl,if_pos (by rw[r.len];exact hl)]
   ·cases e
  ·rw[List.getElem?_set_ne hj]at e
   obtain⟨w,h1,h2⟩:=r.sh j q e
   exact⟨w,by rw[List.getElem?_set_ne hj];exact h1,h2⟩
 pl:=λj s e=>by
  by_cases hj:i=j
  ·subst hj
   rw[List.getElem?_set,if_pos rfl]at e
   split at e
   ·cases e
    exact .inr ⟨_,rfl⟩
   ·cases e
  ·rw[List.getElem?_set_ne hj]at e
   exact r.pl j s e
 len:=by rw[List.length_set,List.length_set,r.len]
 al':=r.al'
 fr:=r.fr
theorem RI.r(r:RI K κ G A x dx ra sa ex rows sol ρ σ H):R K κ H (S4 A x ra sa) (λ_=>none) (λ_=>0) ρ σ H/\cP (S4 A x ra sa) (λ_=>0) ρ=S4 A x ra sa:=by
 have rE:∀{i:Nat} {l:Cn},ρ[i]?≠some (.own l):=λ{i l} e=>by
  rcases r.pl _ _ e with z|⟨p,z⟩<;>cases z
 have hh:cP (S4 A x ra sa) (λ_=>0) ρ=S4 A x ra sa:=by
  funext b
  refine propext ⟨λz=>?_,λz=>.inl z⟩
  rcases z with z|⟨j,m,z1,z2⟩
  ·exact z
  ·exact absurd z1 rE
 refine⟨⟨λb h=>h.elim (r.al' b) λh=>r.al h,λi a vs e=>(by cases e),λ_ _ z=>z,λi p e=>?_,λi l e=>absurd e rE,λi j l m e=>absurd e rE,λi l e=>?_,r.len⟩,hh⟩
 ·rw[d5,hh]
  exact r.sh i p e
 ·rcases r.pl _ _ e with z|⟨p,z⟩<;>cases z
theorem yw{b:Addr}{o:HO}(al:∀c,A c->H c≠none):∀c,A c->upd H b o c≠none:=λc h=>by
 by_cases e:c=b
 ·rw[e,aU]
  simp
 ·rw[aC e]
  exact al c h
theorem RI.uO(h:RI K κ G A x dx ra sa ex rows sol ρ σ H){vs:List V}{l:List PV}(z:aQ K κ (hide (S4 A x ra sa) H) vs l):RI K κ G A x dx ra sa ex l sol ρ σ (upd H ra (.lst vs)):=by
 have e:hide (S4 A x ra sa) (upd H ra (.lst vs))=hide (S4 A x ra sa) H:=dX (.inr (.inl rfl))
 refine⟨h.ne,by rw[aC h.xr];exact h.ob,⟨vs,aU,by rw[e];exact z⟩,?_,h.self,h.zero,λi p q=>by rw[e];exact h.sh i p q,h.pl,h.len,yw h.al',by rw[jJ (.inr (.inl rfl))];exact h.fr⟩
 obtain⟨oj,h1,h2⟩:=h.so
 exact⟨oj,by rw[aC (Ne.symm h.ne)];exact h1,by rw[e];exact h2⟩
theorem RI.yu(h:RI K κ G A x dx ra sa ex rows sol ρ σ H){vs:List V}{l:List PV}(z:aQ K κ (hide (S4 A x ra sa) H) vs l):RI K κ G A x dx ra sa ex rows l ρ σ (upd H sa (.lst vs)):=by
 have e:hide (S4 A x ra sa) (upd H sa (.lst vs))=hide (S4 A x ra sa) H:=dX (.inr (.inr rfl))
 refine⟨h.ne,by rw[aC h.xs];exact h.ob,?_,⟨vs,aU,by rw[e];exact z⟩,h.self,h.zero,λi p q=>by rw[e];exact h.sh i p q,h.pl,h.len,yw h.al',by rw[jJ (.inr (.inr rfl))];exact h.fr⟩
 obtain⟨oj,h1,h2⟩:=h.rw
 exact⟨oj,by rw[aC h.ne];exact h1,by rw[e];exact h2⟩
theorem RI.wz(h:RI K κ G A x dx ra sa ex rows sol ρ σ H){OY:List (Str×V)}:RI K κ G A x dx ra sa OY rows sol ρ σ (upd H x (.ins (κ.adr 0) dx ((("rows" :Str),.ref ra)::(("solved" :Str),.ref sa)::OY))):=by
 have e:∀o,hide (S4 A x ra sa) (upd H x o)=hide (S4 A x ra sa) H:=λo=>dX (.inl rfl)
 refine⟨h.ne,aU,?_,?_,h.self,h.zero,λi p q=>by rw[e];exact h.sh i p q,h.pl,h.len,yw h.al',by rw[jJ (.inl rfl)];exact h.fr⟩
 ·obtain⟨oj,h1,h2⟩:=h.rw
  exact⟨oj,by rw[aC (Ne.symm h.xr)];exact h1,by rw[e];exact h2⟩
 ·obtain⟨oj,h1,h2⟩:=h.so
  exact⟨oj,by rw[aC (Ne.symm h.xs)];exact h1,by rw[e];exact h2⟩
end
noncomputable def Ry(K:PySem.W.Frag)(κ:Kl)(ts:TS)(g:jZ):Prop:=
 ∀{G A x dx ra sa ex rows sol ρ σ H ng sol' ρ' D},RI K κ G A x dx ra sa ex rows sol ρ σ H->g rows sol ρ=some (ng,sol',ρ')->(∀σ' H',RI K κ G A x dx ra sa ex ng sol' ρ' σ' H'->D.nx σ' H')->ts D σ H
noncomputable def IS(X:Cx)(κ:Kl)(st:Stmt)(g:jZ):Prop:=∃ts,PS X st ts/\Ry X.K κ ts g
noncomputable def OM(X:Cx)(κ:Kl)(st:List Stmt)(g:jZ):Prop:=∃ts,tG X st ts/\Ry X.K κ ts g
section
variable{X:Cx}{κ:Kl}{st:Stmt}{rest body:List Stmt}{g g':jZ}{a b c e elt iter:Expr}{f fa:Den}{fi:cu}{pos p1 p2 p3 apos df px pz tp mQ:Pos}{x y z:Str}{py:Pos}{sc:Scope}{x1:Nat}
theorem wB(h1:IS X κ st g)(h2:OM X κ rest g'):OM X κ (st::rest) (DK g g'):=by
 obtain⟨t1,a1,a2⟩:=h1
 obtain⟨t2,b1,b2⟩:=h2
 refine⟨_,cX a1 b1,λ{G A x dx ra sa ex rows sol ρ σ H ng sol' ρ' D} r e k=>?_⟩
 obtain⟨⟨r1,s1,ρ1⟩,e1,e2⟩:=Option.bind_eq_some_iff.mp e
 exact a2 r e1 λσ' H' r'=>b2 r' e2 k
theorem Hx(h1:IS X κ st g):OM X κ [st] g:=let⟨_,a1,a2⟩:=h1;⟨_,jA a1,a2⟩
theorem Hy(i:Nat)(hN:X.N.Nodup)(hi:F9 X κ (.Name x px) iter fi)(kf:Scope)(N0 ys:List Str)(he:∀ex C s H,DE (X.nI sc x ys ex C s H) κ elt f)(GR:X.N[i]?=some y:=by rfl)(Hs:i≠0:=by decide)(hy:X.env.scope.names.lookup y=some .local:=by rfl)(qj:X.env.scope=kf:=by rfl)(DZ:X.N=N0:=by rfl)(ue:kg kf N0 sc x ys=true:=by decide+kernel)(hc:X.calm=true:=by rfl)
  (hs:∀x,foldedSetIterable iter X.env x=pure x:=by intro _;rfl)(GS:swapsWith (.ListComp elt [⟨.Name x px,iter,[],0⟩] sc pos) (some (.Name y py)) mQ.line X.env=pure true:=by rfl):
  IS X κ (.Assign [.Name y py] (.ListComp elt [⟨.Name x px,iter,[],0⟩] sc pos) mQ) (G6 i (aT fi bt f)):=by
 obtain⟨wi,h1,h2⟩:=hi
 refine⟨_,zJ hN GR hy h1 ys (tt:=Md X.K κ bt) (te:=Hf X.K κ f) (λex C s H=>?_) (λex C s H=>(he ex C s H).pe) (by rw[qj,DZ];exact ue) hc hs GS,λ{G A x dx ra sa ex rows sol ρ σ H ng sol' ρ' D} r e k=>?_⟩
 ·intro pins s σ H Q I ⟨_,_,_,_,_,_,r,e,q⟩
  cases e
  exact vO pins s σ H Q I (q _ (aH.refl _))
 ·obtain⟨p,e1,e2⟩:=Option.map_eq_some_iff.mp e
  cases e2
  obtain⟨rr,hh⟩:=r.r
  refine mX h2 rr e1 λv H' s zz=>?_
  have rep:=zz.rep rr
  rw[d5,hh]at rep
  exact k _ _ ((r.mono s).set Hs rep)
theorem Lk(C:uN X.K κ)(he:DE X κ e f)(h0:X.N[0]?=some ("self" :Str):=by rfl)(hv:tD X.env.scope "self" :=by first|exact Or.inl rfl|exact Or.inr (Or.inl rfl)|exact Or.inr (Or.inr rfl))
  (hb:attributeBase (.Name "self" p1) "rows" X.env (eval (.Name "self" p1) X.env)=eval (.Name "self" p1) X.env:=by rfl)
  (fG:attributeBase (.Attribute (.Name "self" p1) "rows" p2) "append" X.env (eval (.Attribute (.Name "self" p1) "rows" p2) X.env)=eval (.Attribute (.Name "self" p1) "rows" p2) X.env:=by rfl)
  (nX:((backTo df (starEach [e] X.env)).all (λx=>!x.1)&&(backToKw df (keywordEach [] X.env)).all (λx=>x.1.isSome)
    &&decide ([e].length+([]:List Keyword).length+(if([]:List Keyword).isEmpty then 0 else 1)<30))=true:=by rfl)
  (fH:(apos.endLine==df.line)=true:=by rfl)(oY:starEach [e] X.env=(false,eval e X.env)::starEach [] X.env:=by rfl)
  (hs:swapsWith (.Call (.Attribute (.Attribute (.Name "self" p1) "rows" p2) "append" apos) [e] [] df) none pos.line X.env=pure false:=by rfl):
  IS X κ (.Expr (.Call (.Attribute (.Attribute (.Name "self" p1) "rows" p2) "append" apos) [e] [] df) pos) (G7 f):=by
 obtain⟨te,h1,h2⟩:=he
 refine⟨_,jB (zA PySem.F.plainAttrs_list PySem.F.slot_list_append PySem.F.type_list_append nY (nT (dD h0 hv) hb) (bG h1 cq oY) fG nX fH oY rfl) hs,λ{G A x dx ra sa ex rows sol ρ σ H ng sol' ρ' D} r e k=>?_⟩
 obtain⟨p,e1,e2⟩:=Option.bind_eq_some_iff.mp e
 obtain⟨hl,e3⟩:=eh e2
 cases e3
 obtain⟨rr,hh⟩:=r.r
 obtain⟨lQ,w1,w2⟩:=r.rw
 refine⟨_,r.self,x,_,dx,_,.ref ra,rfl,r.ob,C.cls,C.n1,rfl,.inl ⟨rfl,_,gc.of w1⟩,h2 rr e1 λv H' s zz=>?_⟩
 rw[d5,hh]at zz
 have w3:=w2.mono (aM (A:=S4 A x ra sa) s)
 exact⟨ra,lQ,v,rfl,rfl,s _ _ w1,by rw[w2.length];exact hl,k _ _ ((r.mono s).uO (w3.append (.cons zz .nil)))⟩
theorem Ll(C:uN X.K κ)(he:DE X κ e f)(h0:X.N[0]?=some ("self" :Str):=by rfl)(hv:tD X.env.scope "self" :=by first|exact Or.inl rfl|exact Or.inr (Or.inl rfl)|exact Or.inr (Or.inr rfl))
  (hb:attributeBase (.Name "self" p1) "solved" X.env (eval (.Name "self" p1) X.env)=eval (.Name "self" p1) X.env:=by rfl)
  (fG:attributeBase (.Attribute (.Name "self" p1) "solved" p2) "append" X.env (eval (.Attribute (.Name "self" p1) "solved" p2) X.env)=eval (.Attribute (.Name "self" p1) "solved" p2) X.env:=by rfl)
  (nX:((backTo df (starEach [e] X.env)).all (λx=>!x.1)&&(backToKw df (keywordEach [] X.env)).all (λx=>x.1.isSome)
    &&decide ([e].length+([]:List Keyword).length+(if([]:List Keyword).isEmpty then 0 else 1)<30))=true:=by rfl)
  (fH:(apos.endLine==df.line)=true:=by rfl)(oY:starEach [e] X.env=(false,eval e X.env)::starEach [] X.env:=by rfl)
  (hs:swapsWith (.Call (.Attribute (.Attribute (.Name "self" p1) "solved" p2) "append" apos) [e] [] df) none pos.line X.env=pure false:=by rfl):
  IS X κ (.Expr (.Call (.Attribute (.Attribute (.Name "self" p1) "solved" p2) "append" apos) [e] [] df) pos) (G8 f):=by
 obtain⟨te,h1,h2⟩:=he
 refine⟨_,jB (zA PySem.F.plainAttrs_list PySem.F.slot_list_append PySem.F.type_list_append nY (nT (dD h0 hv) hb) (bG h1 cq oY) fG nX fH oY rfl) hs,λ{G A x dx ra sa ex rows sol ρ σ H ng sol' ρ' D} r e k=>?_⟩
 obtain⟨p,e1,e2⟩:=Option.bind_eq_some_iff.mp e
 obtain⟨hl,e3⟩:=eh e2
 cases e3
 obtain⟨rr,hh⟩:=r.r
 obtain⟨lQ,w1,w2⟩:=r.so
 refine⟨_,r.self,x,_,dx,_,.ref sa,rfl,r.ob,C.cls,C.n2,rfl,.inl ⟨rfl,_,gc.of w1⟩,h2 rr e1 λv H' s zz=>?_⟩
 rw[d5,hh]at zz
 have w3:=w2.mono (aM (A:=S4 A x ra sa) s)
 exact⟨sa,lQ,v,rfl,rfl,s _ _ w1,by rw[w2.length];exact hl,k _ _ ((r.mono s).yu (w3.append (.cons zz .nil)))⟩
theorem Hz(k i j:Nat)(hN:X.N.Nodup)(hm:X.mg "enumerate" =none)(hb:OM X κ body g)(hk:X.N[k]?=some x:=by rfl)(hi:X.N[i]?=some y:=by rfl)(hj:X.N[j]?=some z:=by rfl)(Hs:i≠0:=by decide)(Te:j≠0:=by decide)(Uq:k≠i:=by decide)(QB:k≠j:=by decide)
  (hv:tD X.env.scope x:=by first|exact Or.inl rfl|exact Or.inr (Or.inl rfl)|exact Or.inr (Or.inr rfl))(hd:(x==("__debug__" :Str))=false:=by decide)(oW:(x==("__classdict__" :Str))=false:=by decide)
  (hy:Loc X.env.scope y:=by first|exact Or.inl rfl|exact Or.inr rfl)(hz:Loc X.env.scope z:=by first|exact Or.inl rfl|exact Or.inr rfl)
  (Tf:X.fn y=true\/X.env.scope.names.lookup y=some .local:=by first|exact .inl rfl|exact .inr rfl)(Tg:X.fn z=true\/X.env.scope.names.lookup z=some .local:=by first|exact .inl rfl|exact .inr rfl)
  (hg:Gl X "enumerate" :=by rfl)(hs:starEach [.Name x p1] X.env=[(false,eval (.Name x p1) X.env)]:=by rfl)(hp:PassesOwn (model X.prog X.w) X.A X.env X.xe:=by exact PassesOwn.never)(hc:X.calm=true:=by rfl)
  (QA:∀u,foldedSetIterable (.Call (.Name "enumerate" p2) [.Name x p1] [] p3) X.env u=pure u:=by intro _;rfl)
  (ht:(assignEach [.Name y py,.Name z pz] X.env).map (·.2)=assign (.Name y py) X.env::(assignEach [.Name z pz] X.env).map (·.2):=by rfl)(QC:(assignEach [.Name z pz] X.env).map (·.2)=assign (.Name z pz) X.env::(assignEach [] X.env).map (·.2):=by rfl)
  (Th:(assignEach [.Name y py,.Name z pz] X.env).length=2:=by rfl)(oY:(assignEach [.Name y py,.Name z pz] X.env).findIdx? (·.1)=none:=by rfl):
  IS X κ (.For (.Tuple [.Name y py,.Name z pz] x1 tp) (.Call (.Name "enumerate" p2) [.Name x p1] [] p3) body [] pos) (uv k i j g):=by
 obtain⟨tb,h3,h4⟩:=hb
 refine⟨_,xK hp hc (Ag hg hm (bG (dD hk hv hd oW) cq (by rw[hs];rfl)) hs) (xH (n:=2) hc (jf (lr hN hi hy Tf) (jf (lr hN hj hz Tg) tI QC) ht) Th oY) h3 QA,λ{G A x dx ra sa ex rows sol ρ σ H ng sol' ρ' D} r e kk=>?_⟩
 unfold uv at e
 split at e
 ·rename_i l hl
  obtain⟨v,w1,w2⟩:=r.sh k _ hl
  cases w2 with
  |lst q1 q2=>
   rename_i al vs
   have sf:aH (hide (S4 A x ra sa) H) H:=aB
   refine⟨_,w1,al,vs,rfl,(sf.sl q1).sq,?_⟩
   refine⟨λn m σ' H'=>m=l.length-n/\n<=l.length/\∃sR BQ ρ1,RI X.K κ G A x dx ra sa ex sR BQ ρ1 σ' H'/\aH (hide (S4 A x ra sa) H) (hide (S4 A x ra sa) H')/\oK i j g (l.drop n) n sR BQ ρ1=some (ng,sol',ρ'),⟨l.length,by simp,Nat.zero_le _,rows,sol,ρ,r,λ_ _ z=>z,by simpa using e⟩,?_⟩
   rintro n m σ1 H1 ⟨rfl,hn,sR,BQ,ρ1,r1,s1,e1⟩
   have hq:gc X.K H1 al vs:=((s1.trans aB).sl q1).sq
   by_cases fF:n<l.length
   ·obtain⟨u,u1,u2⟩:=q2.get (List.getElem?_eq_getElem fF)
    rw[List.drop_eq_getElem_cons fF]at e1
    obtain⟨⟨r3,s3,ρ3⟩,e3,e4⟩:=Option.bind_eq_some_iff.mp e1
    refine .inr ⟨⟨vs,u,hq,u1⟩,λσ' H'=>n+1<=l.length/\∃sR BQ ρ1,RI X.K κ G A x dx ra sa ex sR BQ ρ1 σ' H'/\aH (hide (S4 A x ra sa) H) (hide (S4 A x ra sa) H')/\oK i j g (l.drop (n+1)) (n+1) sR BQ ρ1=some (ng,sol',ρ'),λσ' H' ⟨Mn,q⟩=>⟨l.length-(n+1),by omega,rfl,Mn,q⟩,λw H2 cy=>?_⟩
    obtain⟨pp,xx,y0,y1,y2,y3⟩:=cy
    subst y1 y2
    have Rz:=y3 vs hq
    rw[u1]at Rz
    cases Rz
    have s2:aH H1 (upd H1 pp (.tup [.int (n:Nat),u])):=bN y0
    refine⟨pp,[.int (n:Nat),u],rfl,lM.of aU,rfl,_,_,rfl,_,_,rfl,rfl,?_⟩
    have r2:=((r1.mono s2).set Hs (p:=.int (n:Nat)) (v:=.int (n:Nat)) (.int _)).set Te (p:=l[n]) (v:=u) (u2.mono (s1.trans (aM s2)))
    refine h4 (G:=upd H1 pp (.tup [.int (n:Nat),u])) ⟨r2.ne,r2.ob,r2.rw,r2.so,r2.self,r2.zero,r2.sh,r2.pl,r2.len,r2.al',λ_ _ z=>z⟩ e3 λσ' H' r'=>⟨fF,r3,s3,ρ3,⟨r'.ne,r'.ob,r'.rw,r'.so,r'.self,r'.zero,r'.sh,r'.pl,r'.len,r'.al',r2.fr.trans r'.fr⟩,(s1.trans (aM s2)).trans (Ai r'.fr),e4⟩
   ·have Ml:l.drop n=[]:=List.drop_eq_nil_of_le (by omega)
    rw[Ml]at e1
    cases e1
    exact .inl ⟨⟨vs,hq,by rw[q2.length];omega⟩,kk _ _ r1⟩
 ·cases e
end
noncomputable def QD(K:PySem.W.Frag)(κ:Kl)(F:List PV->Option Tb):Sp:=λvs H Q _=>∃(A:Addr->Prop) (x dx:Addr) (ws:List V) (ps:List PV) (t:Tb),vs=.ref x::ws/\(∀b,A b->H b≠none)/\H x=some (.ins (κ.adr 0) dx [])/\aQ K κ (hide (λb=>A b\/b=x) H) ws ps/\F ps=some t/\
 ∀ra sa H',H ra=none->H sa=none->aH (hide (λb=>b=x) H) H'->lD K κ A x dx ra sa t H'->Q .non H'
noncomputable def Ti(K:PySem.W.Frag)(κ:Kl)(ts:TS)(g:cg->Option Tb):Prop:=
 ∀{A:Addr->Prop} {x dx:Addr} {ρ:cg} {σ:St} {H:Hp} {t:Tb} {D:Ends},(∀b,A b->H b≠none)->H x=some (.ins (κ.adr 0) dx [])->σ[0]?=some (some (.ref x))->ρ[0]?=some .un->
  (∀(i:Nat) p,ρ[i]?=some (.sh p)->∃v,σ[i]?=some (some v)/\Rep K κ (hide (λb=>A b\/b=x) H) v p)->(∀(i:Nat) s,ρ[i]?=some s->s=.un\/∃p,s=.sh p)->σ.length=ρ.length->g ρ=some t->
  (∀ra sa σ' H',H ra=none->H sa=none->aH (hide (λb=>b=x) H) H'->lD K κ A x dx ra sa t H'->D.nx σ' H')->ts D σ H
noncomputable def IB(X:Cx)(κ:Kl)(st:List Stmt)(g:cg->Option Tb):Prop:=∃ts,tG X st ts/\Ti X.K κ ts g
section
variable{X:Cx}{κ:Kl}{s3:Stmt}{g3:jZ}{e4 e5:Expr}{f4 f5:Den}{a1 a2 a3 a4 b1 b2 b3 b4 c1 c2 c4 d1 d2 d4:Pos}
theorem NN(C:uN X.K κ)(h3:IS X κ s3 g3)(h4:DE X κ e4 f4)(h5:DE X κ e5 f5)(h0:X.N[0]?=some ("self" :Str):=by rfl)(hv:tD X.env.scope "self" :=by first|exact Or.inl rfl|exact Or.inr (Or.inl rfl)|exact Or.inr (Or.inr rfl))
  (w1:swapsWith (.List [] a3) (some (.Attribute (.Name "self" a1) "rows" a2)) a4.line X.env=pure false:=by rfl)(w2:swapsWith (.List [] b3) (some (.Attribute (.Name "self" b1) "solved" b2)) b4.line X.env=pure false:=by rfl)
  (w4:swapsWith e4 (some (.Attribute (.Name "self" c1) "costs" c2)) c4.line X.env=pure false:=by rfl)(w5:swapsWith e5 (some (.Attribute (.Name "self" d1) "parts_of_one" d2)) d4.line X.env=pure false:=by rfl):
  IB X κ [.Assign [.Attribute (.Name "self" a1) "rows" a2] (.List [] a3) a4,.Assign [.Attribute (.Name "self" b1) "solved" b2] (.List [] b3) b4,s3,.Assign [.Attribute (.Name "self" c1) "costs" c2] e4 c4,.Assign [.Attribute (.Name "self" d1) "parts_of_one" d2] e5 d4] (KN g3 f4 f5):=by
 obtain⟨t3,p3,q3⟩:=h3
 obtain⟨t4,p4,q4⟩:=h4
 obtain⟨t5,p5,q5⟩:=h5
 refine⟨_,cX (nU (dD h0 hv) (xU cq) w1) (cX (nU (dD h0 hv) (xU cq) w2) (cX p3 (cX (nU (dD h0 hv) p4 w4) (jA (nU (dD h0 hv) p5 w5))))),?_⟩
 intro A x dx ρ σ H t D al hx En hzero Pw hpl hlen e k
 obtain⟨⟨rows,sol,ρ1⟩,e1,e2⟩:=Option.bind_eq_some_iff.mp e
 obtain⟨c,e3,Rb⟩:=Option.bind_eq_some_iff.mp e2
 obtain⟨d,Tj,e6⟩:=Option.map_eq_some_iff.mp Rb
 cases e6
 refine⟨Nat.zero_le _,λra NO=>⟨_,En,x,_,dx,[],rfl,?_,C.cls,C.n1,(by decide),?_⟩⟩
 ·rw[aC (ba hx NO)]
  exact hx
 refine⟨Nat.zero_le _,λsa Eo=>⟨_,En,x,_,dx,jg "rows" (.ref ra) [],rfl,?_,C.cls,C.n2,(show(1:Nat)<1000 by decide),?_⟩⟩
 ·have nx:x≠sa:=by
    rintro rfl
    rw[aU]at Eo
    cases Eo
  rw[aC nx]
  exact aU
 have RA:x≠sa:=by
  rintro rfl
  rw[aU]at Eo
  cases Eo
 have RB:x≠ra:=ba hx NO
 rw[aC (Ne.symm RA)]at Eo
 have QE:ra≠sa:=by
  rintro rfl
  rw[aU]at Eo
  cases Eo
 rw[aC (Ne.symm QE)]at Eo
 generalize x8:upd (upd (upd (upd H ra (.lst [])) x (.ins (κ.adr 0) dx (jg "rows" (.ref ra) []))) sa (.lst [])) x (.ins (κ.adr 0) dx (jg "solved" (.ref sa) (jg "rows" (.ref ra) [])))=H2
 have g1:H2 x=some (.ins (κ.adr 0) dx [(("rows" :Str),.ref ra),(("solved" :Str),.ref sa)]):=by rw[<-x8];exact aU
 have g2:H2 ra=some (.lst []):=by rw[<-x8,aC (Ne.symm RB),aC QE,aC (Ne.symm RB)];exact aU
 have RC:H2 sa=some (.lst []):=by rw[<-x8,aC (Ne.symm RA)];exact aU
 have g4:∀b,b≠x->b≠ra->b≠sa->H2 b=H b:=λb n1 n2 n3=>by rw[<-x8,aC n1,aC n3,aC n1,aC n2]
 have s1:aH (hide (λb=>A b\/b=x) H) (hide (S4 A x ra sa) H2):=λb o q=>by
  obtain⟨q1,q2⟩:=cw q
  have n1:b≠x:=λz=>q1 (.inr z)
  have n2:b≠ra:=ba q2 NO
  have n3:b≠sa:=ba q2 Eo
  rw[bq,g4 b n1 n2 n3]
  ·exact q2
  ·rintro(z|z|z|z)
   ·exact q1 (.inl z)
   ·exact n1 z
   ·exact n2 z
   ·exact n3 z
 have s2:aH (hide (S3 x ra sa) H) (hide (S3 x ra sa) H2):=λb o q=>by
  obtain⟨q1,q2⟩:=cw q
  rw[bq q1,g4 b (λz=>q1 (.inl z)) (λz=>q1 (.inr (.inl z))) (λz=>q1 (.inr (.inr z)))]
  exact q2
 have r0:RI X.K κ H A x dx ra sa [] [] [] ρ σ H2:=by
  refine⟨QE,g1,⟨[],g2,.nil⟩,⟨[],RC,.nil⟩,En,hzero,λi p q=>?_,hpl,hlen,λb hb=>?_,s2⟩
  ·obtain⟨v,y1,y2⟩:=Pw i p q
   exact⟨v,y1,y2.mono s1⟩
  ·by_cases n1:b=x
   ·rw[n1,g1];simp
   ·by_cases n2:b=ra
    ·rw[n2,g2];simp
    ·by_cases n3:b=sa
     ·rw[n3,RC];simp
     ·rw[g4 b n1 n2 n3]
      exact al b hb
 refine q3 r0 e1 λσ1 H3 r1=>?_
 obtain⟨rr,hh⟩:=r1.r
 refine q4 rr e3 λv H4 s4 RD=>?_
 rw[d5,hh]at RD
 have r2:=r1.mono s4
 refine⟨_,r2.self,x,_,dx,_,rfl,r2.ob,C.cls,C.n3,(show(2:Nat)<1000 by decide),?_⟩
 have r3:RI X.K κ H A x dx ra sa [(("costs" :Str),v)] rows sol ρ1 σ1 (upd H4 x (.ins (κ.adr 0) dx ((("rows" :Str),.ref ra)::(("solved" :Str),.ref sa)::[(("costs" :Str),v)]))):=r2.wz
 obtain⟨Tn,To⟩:=r3.r
 refine q5 Tn Tj λu H5 s5 z5=>?_
 rw[d5,To]at z5
 have r4:=r3.mono s5
 refine⟨_,r4.self,x,_,dx,_,rfl,r4.ob,C.cls,C.n4,(show(3:Nat)<1000 by decide),?_⟩
 have r5:RI X.K κ H A x dx ra sa [(("costs" :Str),v),(("parts_of_one" :Str),u)] rows sol ρ1 σ1 (upd H5 x (.ins (κ.adr 0) dx ((("rows" :Str),.ref ra)::(("solved" :Str),.ref sa)::[(("costs" :Str),v),(("parts_of_one" :Str),u)]))):=r4.wz
 refine k ra sa _ _ NO Eo (λb o q=>?_) ⟨r5.ne,⟨v,u,r5.ob,?_,?_⟩,r5.rw,r5.so⟩
 ·obtain⟨q1,q2⟩:=cw q
  have:=r5.fr b o (by
   rw[bq]
   ·exact q2
   ·rintro(z|z|z)
    ·exact q1 z
    ·rw[z,NO]at q2;cases q2
    ·rw[z,Eo]at q2;cases q2)
  exact(cw this).2
 ·rw[dX (.inl rfl)]
  have z6:Rep X.K κ (hide (S4 A x ra sa) (upd H4 x (.ins (κ.adr 0) dx ((("rows" :Str),.ref ra)::(("solved" :Str),.ref sa)::[(("costs" :Str),v)])))) v c:=by
   rw[dX (.inl rfl)]
   exact RD
  exact z6.mono (aM s5)
 ·rw[dX (.inl rfl)]
  exact z5
end
section
variable{P:Program}{w:World}{K:PySem.W.Frag}{mg:Str->Option Value}{base:Heap}{κ:Kl}
theorem Ep{x qual:Str}{st:Stmt}{f:Addr}{fd:FuncData}{N ps:List Str}{k:Nat}{g:cg->Option Tb}(F:vD K x qual st f fd)(S:eI N ps (aj st))
  (hb:∀(eU:Value) (A:Around) (outer:List Env) (s:Shared) (H:Hp) (E:XK),ck k (A.deeper (envOfC qual (aj st) s.heap.objs.size f eU))->IB (lN iK P w K mg base N qual (aj st) f eU A outer s H E).zm κ (cz st) g):
  cM P w K mg base iK (k+1) f fd ps (QD K κ (Mc N.length ps.length g)):=by
 refine F.ok S (λvs H Q E h=>?_) (λeU A outer s H vs Q E hr h=>?_)
 ·obtain⟨A',x,dx,ws,qs,t,rfl,_,_,h1,h2,_⟩:=h
  unfold Mc at h2
  obtain⟨hk,_⟩:=eh h2
  rw[List.length_cons,h1.length]
  exact hk
 ·obtain⟨A',x,dx,ws,qs,t,rfl,al,hx,h1,h2,q⟩:=h
  obtain⟨ts,a1,a2⟩:=hb eU A outer s H E hr
  refine⟨ts,a1,?_⟩
  unfold Mc at h2
  obtain⟨hk,h3⟩:=eh h2
  have hl:=h1.length
  refine a2 al hx rfl rfl (λi p e=>?_) (λi s e=>?_) ?_ h3 λra sa σ' H' n1 n2 s' T=>q ra sa H' n1 n2 s' T
  ·cases i with
   |zero=>cases e
   |succ i=>
    rw[List.getElem?_cons_succ,List.getElem?_append]at e
    split at e
    ·rw[List.getElem?_map]at e
     obtain⟨q,e1,e2⟩:=Option.map_eq_some_iff.mp e
     cases e2
     obtain⟨v,y1,y2⟩:=h1.get e1
     refine⟨v,?_,y2⟩
     unfold start
     rw[List.map_cons,List.cons_append,List.getElem?_cons_succ,List.getElem?_append_left (by rw[List.length_map];exact(List.getElem?_eq_some_iff.mp y1).1),List.getElem?_map,y1]
     rfl
    ·rw[List.getElem?_replicate]at e
     split at e<;>cases e
  ·cases i with
   |zero=>cases e;exact .inl rfl
   |succ i=>
    rw[List.getElem?_cons_succ,List.getElem?_append]at e
    split at e
    ·rw[List.getElem?_map]at e
     obtain⟨q,e1,e2⟩:=Option.map_eq_some_iff.mp e
     exact .inr ⟨q,e2.symm⟩
    ·rw[List.getElem?_replicate]at e
     split at e
     ·cases e;exact .inl rfl
     ·cases e
  ·unfold start
   simp only[List.length_append,List.length_map,List.length_cons,List.length_replicate,hl]
   rw[hk]
   omega
end
noncomputable def NT(K:PySem.W.Frag)(κ:Kl)(A:Addr->Prop)(H H':Hp)(v:V)(t:Tb):Prop:=∃x dx ra sa,v=.ref x/\H x=none/\H ra=none/\H sa=none/\lD K κ A x dx ra sa t H'
noncomputable def spT(K:PySem.W.Frag)(κ:Kl)(F:List PV->Option Tb):Sp:=λvs H Q _=>∃(A:Addr->Prop) (ps:List PV) (t:Tb),(∀b,A b->H b≠none)/\aQ K κ (hide A H) vs ps/\F ps=some t/\∀v H',aH H H'->NT K κ A H H' v t->Q v H'
theorem lD.weak{K:PySem.W.Frag}{κ:Kl}{A B:Addr->Prop}{x dx ra sa:Addr}{t:Tb}{H:Hp}(h:lD K κ B x dx ra sa t H)(s:∀b,A b->B b):lD K κ A x dx ra sa t H:=by
 have m:aH (hide (S4 B x ra sa) H) (hide (S4 A x ra sa) H):=dh (λ_ _ z=>z) λb z _=>z.imp (s b) id
 refine⟨h.ne,?_,?_,?_⟩
 ·obtain⟨cv,dv,h1,h2,h3⟩:=h.ob
  exact⟨cv,dv,h1,h2.mono m,h3.mono m⟩
 ·obtain⟨lQ,h1,h2⟩:=h.rw
  exact⟨lQ,h1,h2.mono m⟩
 ·obtain⟨lQ,h1,h2⟩:=h.so
  exact⟨lQ,h1,h2.mono m⟩
noncomputable def Tp(K:PySem.W.Frag)(κ:Kl)(ts:TS)(g:cg->Option Tb):Prop:=
 ∀{G A bo own ρ σ H t D},R K κ G A bo own ρ σ H->g ρ=some t->(∀v H',aH G H'->NT K κ A G H' v t->D.rt v H')->ts D σ H
noncomputable def Ln(X:Cx)(κ:Kl)(st:List Stmt)(g:cg->Option Tb):Prop:=∃ts,tG X st ts/\Tp X.K κ ts g
section
variable{X:Cx}{κ:Kl}{st:Stmt}{rest:List Stmt}{g:aP}{g':cg->Option Tb}{e a:Expr}{es:List Expr}{fs:cu}{pos p p1 p2 p3 p4 apos:Pos}{x y m:Str}
theorem jq(h1:DS X κ false st g)(h2:Ln X κ rest g'):Ln X κ (st::rest) (fN g g'):=by
 obtain⟨t1,a1,a2⟩:=h1
 obtain⟨t2,b1,b2⟩:=h2
 refine⟨_,cX a1 b1,λ{G A bo own ρ σ H t D} r e k=>?_⟩
 obtain⟨fl,e1,e2⟩:=Option.bind_eq_some_iff.mp e
 cases fl with
 |nx ρ'=>exact a2 r e1 λdH σ' H' r'=>b2 r' e2 k
 |rt p=>cases e2
 |bk ρ'=>cases e2
 |ct ρ'=>cases e2
theorem HA(i:Nat)(h2:Ln X κ rest g'):Ln X κ rest (fN (ui i) g'):=by
 obtain⟨ts,h1,h3⟩:=h2
 refine⟨ts,h1,λ{G A bo own ρ σ H t D} r e k=>?_⟩
 obtain⟨fl,e1,e2⟩:=Option.bind_eq_some_iff.mp e
 have sn:F8 X.K κ false IC bX:=λ{G A bo own ρ σ H fl D} r e k=>by cases e;exact k own σ H r
 cases fl with
 |nx ρ'=>
  have e3:aY (ui i) bX ρ=some (.nx ρ'):=by
   show(ui i ρ).bind _=_
   rw[e1]
   rfl
  obtain⟨dH,r'⟩:∃dH,R X.K κ G A bo dH ρ' σ H:=zW i sn (D:={nx:=λσ' H'=>∃dH,R X.K κ G A bo dH ρ' σ' H',rt:=λ_ _=>True}) r e3 λdH σ' H' r'=>⟨dH,r'⟩
  exact h3 r' e2 k
 |rt p=>cases e2
 |bk ρ'=>cases e2
 |ct ρ'=>cases e2
theorem Er{F:List PV->Option Tb}{k:Nat}{f:Addr}{fd:FuncData}{ps:List Str}(M:Mk X.K (κ.adr 0) f)(FO:cM X.prog X.w X.K X.mg X.base iK k f fd ps (QD X.K κ F))(hr:ck (k+1) X.A)(hm:X.mg x=some (.ref (κ.adr 0)))(hb:Binds X.K fd ps [])(ha:DA X κ (e::es) fs)(hg:Gl X x:=by rfl)(tL:(x==("__debug__" :Str))=false:=by decide)
  (he:starEach (e::es) X.env=(false,eval e X.env)::starEach es X.env:=by rfl)(hpl:(backTo pos (starEach es X.env)).any (·.1)=false:=by rfl):Ln X κ [.Return (some (.Call (.Name x p) (e::es) [] pos)) p1] (DL F fs):=by
 obtain⟨ta,h1,h2⟩:=ha
 refine⟨_,jA (nO (GA M FO hr hg hm hb .nil kc h1 tL he hpl)),λ{G A bo own ρ σ H t D} r e' q=>?_⟩
 obtain⟨qs,e1,e2⟩:=Option.bind_eq_some_iff.mp e'
 refine h2 r e1 λvs H1 s1 z1=>?_
 intro x dx hx Tq vx
 have r1:=r.mono s1
 rw[List.append_nil]
 generalize x8:upd (upd H1 dx (.own x)) x (.ins (κ.adr 0) dx [])=H2
 have g1:H2 x=some (.ins (κ.adr 0) dx []):=by rw[<-x8];exact aU
 have g2:∀b o,H1 b=some o->b≠x/\H2 b=some o:=λb o q=>by
  have n1:b≠x:=ba q hx
  rw[<-x8,aC n1,aC (ba q Tq)]
  exact⟨n1,q⟩
 have g3:∀b,H2 b=none->H1 b=none:=λb q=>by
  cases z:H1 b with
  |none=>rfl
  |some o=>rw[(g2 b o z).2]at q;cases q
 refine⟨cP A own ρ,x,dx,vs,qs,t,rfl,λb hb z=>r1.yj hb (g3 b z),g1,z1.mono λb o w=>?_,e2,λra sa H' n1 n2 s' T=>⟨rfl,?_⟩⟩
 ·obtain⟨w1,w2⟩:=cw w
  obtain⟨w3,w4⟩:=g2 b o w2
  rw[bq λz=>z.elim w1 w3]
  exact w4
 ·have sG:aH G H1:=r1.same
  refine q _ _ (λb o w=>?_) ⟨x,dx,ra,sa,rfl,sG.free hx,sG.free (g3 _ n1),sG.free (g3 _ n2),T.weak λb hb=>.inl hb⟩
  obtain⟨w1,w2⟩:=g2 b o (sG b o w)
  exact s' b o ((bq (A:=λb=>b=x) (H:=H2) w1).trans w2)
end
section
variable{P:Program}{w:World}{K:PySem.W.Frag}{mg:Str->Option Value}{base:Heap}{κ:Kl}
theorem HB{x qual:Str}{st:Stmt}{f:Addr}{fd:FuncData}{N ps:List Str}{k:Nat}{g:cg->Option Tb}(F:vD K x qual st f fd)(S:eI N ps (aj st))
  (hb:∀(eU:Value) (A:Around) (outer:List Env) (s:Shared) (H:Hp) (E:XK),ck k (A.deeper (envOfC qual (aj st) s.heap.objs.size f eU))->Ln (lN iK P w K mg base N qual (aj st) f eU A outer s H E).zm κ (cz st) g):
  cM P w K mg base iK (k+1) f fd ps (spT K κ (Mb N.length ps.length g)):=by
 refine F.ok S (λvs H Q E h=>?_) (λeU A outer s H vs Q E hr h=>?_)
 ·obtain⟨A,qs,t,_,h1,h2,_⟩:=h
  unfold Mb at h2
  obtain⟨hk,_⟩:=eh h2
  rw[h1.length]
  exact hk
 ·obtain⟨A',qs,t,al,h1,h2,q⟩:=h
  obtain⟨ts,a1,a2⟩:=hb eU A outer s H E hr
  refine⟨ts,a1,?_⟩
  unfold Mb at h2
  obtain⟨hk,h3⟩:=eh h2
  exact a2 (R.entry al h1) h3 q
end
section
variable{X:Cx}{κ:Kl}{a b:Expr}{fa fb:Den}{elts:List Expr}{x1:Nat}{tp:Pos}
theorem HC{p pos:Pos}(ha:DE X κ a fa)(hb:DE X κ b fb)(hm:X.mg "zip" =none)(hg:Gl X "zip" :=by rfl)(hs:starEach [a,b] X.env=[(false,eval a X.env),(false,eval b X.env)]:=by rfl)(jC:starEach [b] X.env=[(false,eval b X.env)]:=by rfl):
  F9 X κ (.Tuple elts x1 tp) (.Call (.Name "zip" p) [a,b] [] pos) (p9 fa fb):=by
 obtain⟨ta,h1,h2⟩:=ha
 obtain⟨tb,h3,h4⟩:=hb
 refine⟨_,D7 hg hm (bG h1 (bG h3 cq jC) (by rw[hs,jC])) hs jC,λ{G A bo own ρ σ H ps Q} r e q=>?_⟩
 obtain⟨p1,e1,e2⟩:=Option.bind_eq_some_iff.mp e
 obtain⟨p2,e3,e4⟩:=Option.bind_eq_some_iff.mp e2
 obtain⟨l,e5,e6⟩:=Option.bind_eq_some_iff.mp e4
 obtain⟨m,e7,e8⟩:=Option.bind_eq_some_iff.mp e6
 cases e8
 refine h2 r e1 λv H1 s1 z1=>h4 (r.mono s1) e3 λw H2 s2 z2=>?_
 cases p1<;>first|(cases e5;done)|skip
 cases e5
 cases p2<;>first|(cases e7;done)|skip
 cases e7
 have Qs:=z1.mono (aM s2)
 cases Qs with
 |lst y1 y2=>
  cases z2 with
  |lst y3 y4=>
   have f:aH (d5 A own ρ H2) H2:=aB
   exact⟨_,_,_,_,rfl,(f.sl y1).sq,(f.sl y3).sq,q _ H2 (s1.trans s2) (wg (f.sl y1) y2 (f.sl y3) y4)⟩
end
structure Lo(K:PySem.W.Frag)(κ:Kl):Prop where
 fld:κ.fld=f6
 cls:zv K (κ.adr 0)
 n1:fj K (κ.adr 0) "rows"
 n2:fj K (κ.adr 0) "solved"
 n3:fj K (κ.adr 0) "costs"
 n4:fj K (κ.adr 0) "parts_of_one"
theorem Lo.yx{K:PySem.W.Frag}{κ:Kl}(C:Lo K κ):uN K κ:=⟨by rw[C.fld];rfl,C.cls,C.n1,C.n2,C.n3,C.n4⟩
theorem Lo.NP{K:PySem.W.Frag}{κ:Kl}(C:Lo K κ)(f:Str):Jl K κ f:=λc h=>by
 rw[C.fld]at h
 unfold f6 at h
 split at h
 ·rename_i hc
  subst hc
  refine⟨C.cls,?_⟩
  have h':f= "rows" \/f= "solved" \/f= "costs" \/f= "parts_of_one" :=by simpa using h
  rcases h' with rfl|rfl|rfl|rfl
  ·exact C.n1
  ·exact C.n2
  ·exact C.n3
  ·exact C.n4
 ·cases h
theorem cS{X:Cx}{κ:Kl}{pos:Pos}{a:Expr}{fa:Den}{f:Str}(C:Lo X.K κ)(ha:DB X κ a fa)(hb:attributeBase a f X.env (eval a X.env)=eval a X.env:=by rfl):DE X κ (.Attribute a f pos) (aZ (cB f6 f) fa):=by
 rw[<-C.fld]
 exact Lf ha (C.NP f) hb
theorem fm{P:Program}{w:World}{K:PySem.W.Frag}{mg:Str->Option Value}{base:Heap}{κ:Kl}{fr:Bool}{m:Str}{k:Nat}{ps:List Str}{f:Addr}{fd:FuncData}{F:List PV->Option PV}(C:Lo K κ)(hm:Meth K (κ.adr 0) m f)(FO:cM P w K mg base iK k f fd ps (uD K κ fr F))(hb:Binds K fd ps [])(hn:m∉f6 0:=by decide):qt P w K mg base κ fr m k ps (iP F):=λc xs p e=>by
 cases c with
 |zero=>exact⟨f,fd,C.cls,hm,by rw[C.fld];exact hn,FO,hb⟩
 |succ c=>cases e
noncomputable def RW(K:PySem.W.Frag)(κ:Kl)(A:Addr->Prop)(G H':Hp)(v:V)(p:PV):Prop:=∃(t1 t2 L:Addr) (b:Bool) (vs:List V) (l:List PV) (w:V) (q:PV),v=.ref t1/\p=.tup [.bl b,.tup [.lst l,q]]/\G L=none/\G t1=none/\G t2=none/\H' L=some (.lst vs)/\H' t1=some (.tup [.bl b,.ref t2])/\H' t2=some (.tup [.ref L,w])/\
 aQ K κ (hide (λc=>A c\/c=L) H') vs l/\Rep K κ (hide (λc=>A c\/c=L) H') w q
noncomputable def ON(K:PySem.W.Frag)(κ:Kl)(F:List PV->Option PV):Sp:=λvs H Q _=>∃(A:Addr->Prop) (ps:List PV) (p:PV),(∀b,A b->H b≠none)/\aQ K κ (hide A H) vs ps/\F ps=some p/\∀v H',aH H H'->RW K κ A H H' v p->Q v H'
noncomputable def Tr(K:PySem.W.Frag)(κ:Kl)(ts:TS)(g:jm):Prop:=
 ∀{G A bo own ρ σ H p D},R K κ G A bo own ρ σ H->g ρ=some p->(∀v H',aH G H'->RW K κ A G H' v p->D.rt v H')->ts D σ H
noncomputable def Gf(X:Cx)(κ:Kl)(st:List Stmt)(g:jm):Prop:=∃ts,tG X st ts/\Tr X.K κ ts g
section
variable{X:Cx}{κ:Kl}{st:Stmt}{rest body:List Stmt}{g:aP}{g' ga:jm}{e a c:Expr}{es:List Expr}{fs:cu}{f fa:Den}{ft:cN}{pos p p1 p2 p3 p4 apos:Pos}{x y m:Str}{bb:Bool}
theorem wC(h1:DS X κ false st g)(h2:Gf X κ rest g'):Gf X κ (st::rest) (vZ g g'):=by
 obtain⟨t1,a1,a2⟩:=h1
 obtain⟨t2,b1,b2⟩:=h2
 refine⟨_,cX a1 b1,λ{G A bo own ρ σ H t D} r e k=>?_⟩
 obtain⟨fl,e1,e2⟩:=Option.bind_eq_some_iff.mp e
 cases fl with
 |nx ρ'=>exact a2 r e1 λdH σ' H' r'=>b2 r' e2 k
 |rt p=>cases e2
 |bk ρ'=>cases e2
 |ct ρ'=>cases e2
theorem Lp(hc:DT X κ c ft)(h1:Gf X κ body ga)(h2:Gf X κ rest g'):Gf X κ (.If c body [] pos::rest) (KL ft ga g'):=by
 obtain⟨tc,c1,c2⟩:=hc
 obtain⟨t1,a1,a2⟩:=h1
 obtain⟨t2,b1,b2⟩:=h2
 refine⟨_,cX (zo c1 a1 o8) b1,λ{G A bo own ρ σ H t D} r e k=>?_⟩
 obtain⟨q,e1,e2⟩:=Option.bind_eq_some_iff.mp e
 refine c2 r e1 λH' s=>?_
 cases q with
 |true=>
  rw[if_pos rfl]at e2⊢
  exact a2 (r.mono s) e2 k
 |false=>
  rw[if_neg Bool.false_ne_true]at e2⊢
  exact b2 (r.mono s) e2 k
theorem Ak{x1 x2:Nat}{j:Nat}(h1:DO X κ e f)(h2:DE X κ a fa)
  (Gg:starEach [e,a] X.env=(false,eval e X.env)::starEach [a] X.env:=by rfl)(jC:starEach [a] X.env=(false,eval a X.env)::starEach [] X.env:=by rfl)
  (Bc:starEach [.Constant (.bool bb) j p1,.Tuple [e,a] x1 p2] X.env=(false,eval (.Constant (.bool bb) j p1) X.env)::starEach [.Tuple [e,a] x1 p2] X.env:=by rfl)(Rk:starEach [.Tuple [e,a] x1 p2] X.env=(false,eval (.Tuple [e,a] x1 p2) X.env)::starEach [] X.env:=by rfl):
  Gf X κ [.Return (some (.Tuple [.Constant (.bool bb) j p1,.Tuple [e,a] x1 p2] x2 p3)) p4] (Bt bb f fa):=by
 obtain⟨t1,a1,a2⟩:=h1
 obtain⟨t2,b1,b2⟩:=h2
 refine⟨_,jA (nO (xT (bG CT (bG (xT (bG a1 (bG b1 cq jC) Gg)) cq Rk) Bc))),λ{G A bo own ρ σ H p D} r e k=>?_⟩
 obtain⟨x,e1,e2⟩:=Option.bind_eq_some_iff.mp e
 obtain⟨y,e3,e4⟩:=Option.bind_eq_some_iff.mp e2
 cases e4
 refine a2 r e1 λv H1 s1 z1=>?_
 obtain⟨L,vs,l,rfl,rfl,l1,l2,l3⟩:=z1
 have r1:=r.mono s1
 have m:aH (d5 A own ρ H) (d5 (λb=>A b\/b=L) own ρ H1):=λb o q=>by
  obtain⟨q1,q2⟩:=cw q
  rw[d5,bq λz=>?_]
  ·exact s1 _ _ q2
  ·rcases z with(z|z)|z
   ·exact q1 (.inl z)
   ·rw[z,l1]at q2;cases q2
   ·exact q1 (.inr z)
 have big:=r1.big
 have nL:¬yi own ρ L:=λz=>r.new l1 (.inr z)
 have r2:R X.K κ (CO own ρ H1) (λb=>A b\/b=L) bo own ρ σ H1:=by
  refine⟨λb hb=>?_,big.bg,big.same,λi p e=>?_,λi c e=>?_,r.inj,λi l e=>?_,r.len⟩
  ·rcases hb with hb|hb
   ·exact big.al b hb
   ·subst hb
    unfold CO
    rw[bq nL,l2]
    simp
  ·obtain⟨v,y1,y2⟩:=r.sh i p e
   exact⟨v,y1,y2.mono m⟩
  ·obtain⟨y1,y2,vs,y3,y4⟩:=r.ow i c e
   exact⟨y1,(big.ow i c e).2.1,vs,s1 _ _ y3,y4.mono m⟩
  ·obtain⟨a,vs,y1,y2,y3⟩:=r.bw i l e
   exact⟨a,vs,y1,y2,y3.mono m⟩
 refine b2 r2 e3 λw H2 s2 z2=>?_
 refine⟨by show 2<=sizeLine;decide,λt2 n2=>⟨by show 2<=sizeLine;decide,λt1 n1=>?_⟩⟩
 have s3:aH H2 (upd H2 t2 (.tup [.ref L,w])):=bN n2
 have s4:aH (upd H2 t2 (.tup [.ref L,w])) (upd (upd H2 t2 (.tup [.ref L,w])) t1 (.tup [.bl bb,.ref t2])):=bN n1
 have RE:=s3.trans s4
 have NQ:=s2.trans RE
 have g2:G t2=none:=r.same.free (s1.free (s2.free n2))
 have g1:G t1=none:=r.same.free (s1.free (s2.free (s3.free n1)))
 refine k _ _ ((r.same.trans s1).trans NQ) ⟨t1,t2,L,bb,vs,l,w,y,rfl,rfl,r.same.free l1,g1,g2,NQ _ _ l2,aU,s4 _ _ aU,l3.mono (dh NQ λb z _=>?_),z2.mono (dh RE λb z _=>.inl z)⟩
 rcases z with z|z
 ·exact .inl (.inl z)
 ·exact .inr z
end
section
variable{X:Cx}{κ:Kl}{st:Stmt}{rest body:List Stmt}{g:aP}{g' ga:jm}{e a c:Expr}{es:List Expr}{fs:cu}{f fa:Den}{ft:cN}{pos p p1 p2 p3 p4 apos:Pos}{x y m:Str}{bb:Bool}
theorem BS{gr:jm}{FT:List PV->Option Tb}{FS:Tb->List PV->Option Tb}{k1 k2:Nat}{f1 f2:Addr}{NR RF:FuncData}{NS RG:List Str}{pl:Sem Bool}{py:Pos}(C:uN X.K κ)(i:Nat)(hN:X.N.Nodup)
  (QF:cM X.prog X.w X.K X.mg X.base iK k1 f1 NR NS (spT X.K κ FT))(QG:ck k1 X.A)(QH:X.mg x=some (.ref f1))(Ox:PySem.W.keepIn X.K (.ref f1)=true)(CL:Binds X.K NR NS [])
  (hm:Meth X.K (κ.adr 0) m f2)(Ts:cM X.prog X.w X.K X.mg X.base iK k2 f2 RF RG (OL X.K κ FS))(Tt:ck k2 X.A)(PY:Binds X.K RF RG [])(ha:DA X κ (e::es) fs)(Es:Gf X κ rest gr)
  (hi:X.N[i]?=some y:=by rfl)(hx:Loc X.env.scope y:=by first|exact Or.inl rfl|exact Or.inr rfl)(hv:tD X.env.scope y:=by first|exact Or.inl rfl|exact Or.inr (Or.inl rfl)|exact Or.inr (Or.inr rfl))(hd:(y==("__debug__" :Str))=false:=by decide)(oW:(y==("__classdict__" :Str))=false:=by decide)
  (hf:X.fn y=true\/X.env.scope.names.lookup y=some .local:=by first|exact .inl rfl|exact .inr rfl)
  (hg:Gl X x:=by rfl)(tL:(x==("__debug__" :Str))=false:=by decide)
  (he:starEach (e::es) X.env=(false,eval e X.env)::starEach es X.env:=by rfl)(hpl:(backTo pos (starEach es X.env)).any (·.1)=false:=by rfl)
  (Gg:swapsWith (.Call (.Name x p) (e::es) [] pos) (some (.Name y py)) p1.line X.env=pure false:=by rfl)
  (hn:∀u1 u2 u3 u4:V,List.lookup m [(("rows" :Str),u1),(("solved" :Str),u2),(("costs" :Str),u3),(("parts_of_one" :Str),u4)]=none:=by intros;rfl)
  (ht:eval (.Call (.Attribute (.Name y p2) m apos) [] [] p3) X.env=(do
    let ov<-eval (.Name y p2) X.env
    standAt apos.atName
    let(f,first)<-holding [ov] (getMethod ov m pl)
    callWith p3 f first (backTo p3 (starEach [] X.env)) (backToKw p3 (keywordEach [] X.env))):=by rfl)
  (jC:swapsWith (.Call (.Attribute (.Name y p2) m apos) [] [] p3) none p4.line X.env=pure false:=by rfl):
  Gf X κ (.Assign [.Name y py] (.Call (.Name x p) (e::es) [] pos) p1::.Expr (.Call (.Attribute (.Name y p2) m apos) [] [] p3) p4::rest) (qb i FT FS fs gr):=by
 obtain⟨ta,h1,h2⟩:=ha
 obtain⟨tr,h3,h4⟩:=Es
 refine⟨_,cX (nP hN hi hx (mM QF QG hg QH Ox CL .nil kc h1 tL he hpl) Gg hf) (cX (jB (C5 (pl:=pl) (dD hi hv hd oW) C.cls hm Ts Tt PY .nil kc ht) jC) h3),λ{G A bo own ρ σ H fl D} r e' q=>?_⟩
 obtain⟨qs,e1,e2⟩:=Option.bind_eq_some_iff.mp e'
 obtain⟨t,e3,e4⟩:=Option.bind_eq_some_iff.mp e2
 obtain⟨t',e5,e6⟩:=Option.bind_eq_some_iff.mp e4
 obtain⟨hl,e7⟩:=eh e6
 refine h2 r e1 λvs H1 s1 z1=>?_
 have r1:=r.mono s1
 rw[List.append_nil]
 refine⟨cP A own ρ,qs,t,λb hb=>r1.yj hb,z1,e3,λv H2 s2 nt=>?_⟩
 obtain⟨x,dx,ra,sa,rfl,n1,n2,n3,T⟩:=nt
 obtain⟨cv,dv,o1,_,_⟩:=T.ob
 have r2:=r1.mono s2
 refine⟨.ref x,?_,x,dx,_,rfl,o1,hn _ _ _ _,?_⟩
 ·rw[List.getElem?_set,if_pos rfl,if_pos (by rw[r.len];exact hl)]
 ·refine⟨cP A own ρ,x,dx,ra,sa,t,t',[],[],rfl,λb hb=>r2.yj hb,T,.nil,e5,λH3 s3 T3=>?_⟩
  have Nw:aH H1 H3:=λb o w=>by
   have w1:=s3 b o (by
    rw[bq]
    ·exact s2 b o w
    ·rintro(z|z|z)
     ·rw[z,n1]at w;cases w
     ·rw[z,n2]at w;cases w
     ·rw[z,n3]at w;cases w)
   exact(cw w1).2
  have nx:¬cP A own ρ x:=λz=>r1.yj z n1
  have nr:¬cP A own ρ ra:=λz=>r1.yj z n2
  have ns:¬cP A own ρ sa:=λz=>r1.yj z n3
  exact h4 ((r1.mono Nw).set (T3.Qy C nx nr ns)) e7 q
theorem RW.rep{K:PySem.W.Frag}{A:Addr->Prop}{G H':Hp}{v:V}{p:PV}(al:∀b,A b->G b≠none)(h:RW K κ A G H' v p):Rep K κ (hide A H') v p:=by
 obtain⟨t1,t2,L,b,vs,l,w,q,rfl,rfl,n0,n1,n2,h0,h1,h2,h3,h4⟩:=h
 have m:aH (hide (λc=>A c\/c=L) H') (hide A H'):=dh (λ_ _ z=>z) λb z _=>.inl z
 have v0:hide A H' L=some (.lst vs):=by rw[bq λz=>al _ z n0];exact h0
 have v1:hide A H' t1=some (.tup [.bl b,.ref t2]):=by rw[bq λz=>al _ z n1];exact h1
 have v2:hide A H' t2=some (.tup [.ref L,w]):=by rw[bq λz=>al _ z n2];exact h2
 exact .tup (lM.of v1) (.cons (.bl b) (.cons (.tup (lM.of v2) (.cons (.lst (SL.of v0) (h3.mono m)) (.cons (h4.mono m) .nil))) .nil))
theorem BU{gr:aP}{FW:List PV->Option PV}{k1:Nat}{f1:Addr}{NR:FuncData}{NS:List Str}{py q1 q2 q3 q4 q5 q6 q7 q8:Pos}{j1 j2 j3:Nat}(i:Nat)(hN:X.N.Nodup)
  (QF:cM X.prog X.w X.K X.mg X.base iK k1 f1 NR NS (ON X.K κ FW))(QG:ck k1 X.A)(QH:X.mg x=some (.ref f1))(Ox:PySem.W.keepIn X.K (.ref f1)=true)(CL:Binds X.K NR NS [])
  (ha:DA X κ (e::es) fs)(hc:DT X κ c ft)(Es:zV X κ false rest gr)
  (hi:X.N[i]?=some y:=by rfl)(hx:Loc X.env.scope y:=by first|exact Or.inl rfl|exact Or.inr rfl)(hv:tD X.env.scope y:=by first|exact Or.inl rfl|exact Or.inr (Or.inl rfl)|exact Or.inr (Or.inr rfl))(hd:(y==("__debug__" :Str))=false:=by decide)(oW:(y==("__classdict__" :Str))=false:=by decide)
  (hf:X.fn y=true\/X.env.scope.names.lookup y=some .local:=by first|exact .inl rfl|exact .inr rfl)
  (hg:Gl X x:=by rfl)(tL:(x==("__debug__" :Str))=false:=by decide)
  (he:starEach (e::es) X.env=(false,eval e X.env)::starEach es X.env:=by rfl)(hpl:(backTo pos (starEach es X.env)).any (·.1)=false:=by rfl)
  (Gg:swapsWith (.Call (.Name x p) (e::es) [] pos) (some (.Name y py)) p1.line X.env=pure false:=by rfl)
  (fG:attributeBase (.Subscript (.Subscript (.Name y q1) (.Constant (.int 1) j1 q2) q3) (.Constant (.int 0) j2 q4) q5) "clear" X.env (eval (.Subscript (.Subscript (.Name y q1) (.Constant (.int 1) j1 q2) q3) (.Constant (.int 0) j2 q4) q5) X.env)=eval (.Subscript (.Subscript (.Name y q1) (.Constant (.int 1) j1 q2) q3) (.Constant (.int 0) j2 q4) q5) X.env:=by rfl)
  (fH:(q6.endLine==q7.line)=true:=by rfl)
  (jC:swapsWith (.Call (.Attribute (.Subscript (.Subscript (.Name y q1) (.Constant (.int 1) j1 q2) q3) (.Constant (.int 0) j2 q4) q5) "clear" q6) [] [] q7) none q8.line X.env=pure false:=by rfl):
  zV X κ false (.Assign [.Name y py] (.Call (.Name x p) (e::es) [] pos) p1::.If c [.Return (some (.Constant (.bool false) j3 p2)) p3] [] p4::.Expr (.Call (.Attribute (.Subscript (.Subscript (.Name y q1) (.Constant (.int 1) j1 q2) q3) (.Constant (.int 0) j2 q4) q5) "clear" q6) [] [] q7) q8::rest) (qc i FW fs ft gr):=by
 obtain⟨ta,h1,h2⟩:=ha
 obtain⟨tc,c1,c2⟩:=hc
 obtain⟨tr,h3,h4⟩:=Es
 refine⟨_,cX (nP hN hi hx (mM QF QG hg QH Ox CL .nil kc h1 tL he hpl) Gg hf) (cX (zo c1 (jA (nO CT)) o8) (cX (jB (Dg PySem.F.plainAttrs_list PySem.F.slot_list_clear PySem.F.type_list_clear Dh (zx xW (zx xW (dD hi hv hd oW) xF (by intro _ _;rfl)) xF (by intro _ _;rfl)) fG fH) jC) h3)),λ{G A bo own ρ σ H fl D} r e' q=>?_⟩
 obtain⟨qs,e1,e2⟩:=Option.bind_eq_some_iff.mp e'
 obtain⟨pp,e3,e4⟩:=Option.bind_eq_some_iff.mp e2
 split at e4
 ·rename_i b l qq
  obtain⟨hl,e5⟩:=eh e4
  obtain⟨cc,e6,e7⟩:=Option.bind_eq_some_iff.mp e5
  refine h2 r e1 λvs H1 s1 z1=>?_
  have r1:=r.mono s1
  rw[List.append_nil]
  refine⟨cP A own ρ,qs,_,λb hb=>r1.yj hb,z1,e3,λv H2 s2 RH=>?_⟩
  have rep2:=RH.rep λb hb=>r1.yj hb
  obtain⟨t1,t2,L,b',Qh,l',w,q',rfl,ep,n0,n1,n2,g0,g1,g2,g3,g4⟩:=RH
  cases ep
  have r2:=(r1.mono s2).set (i:=i) rep2
  refine c2 r2 e6 λH3 s3=>?_
  cases cc with
  |true=>
   rw[if_pos rfl]at e7⊢
   cases e7
   exact q _ _ ((r1.mono s2).mono s3).same (.bl _)
  |false=>
   rw[if_neg Bool.false_ne_true]at e7⊢
   have k0:=s3 _ _ g0
   have k1:=s3 _ _ g1
   have k2:=s3 _ _ g2
   refine⟨.ref t1,?_,t1,_,1,.ref t2,rfl,rfl,lM.of k1,rfl,t2,_,0,.ref L,rfl,rfl,lM.of k2,rfl,.inl ⟨rfl,_,gc.of k0⟩,L,Qh,rfl,rfl,k0,?_⟩
   ·rw[List.getElem?_set,if_pos rfl,if_pos (by rw[r.len];exact hl)]
   ·have nL:∀{b o},H1 b=some o->b≠L:=λ{b o} w=>ba w n0
    have NQ:aH H1 (upd H3 L (.lst [])):=λb o w=>by
     rw[aC (nL w)]
     exact s3 _ _ (s2 _ _ w)
    have Tu:t1≠L:=by rintro rfl;rw[g0]at g1;cases g1
    have Tv:t2≠L:=by rintro rfl;rw[g0]at g2;cases g2
    have nh:∀{b},H1 b=none->¬cP A own ρ b:=λ{b} w z=>r1.yj z w
    have m:aH (hide (λc=>cP A own ρ c\/c=L) H2) (d5 A own ρ (upd H3 L (.lst []))):=λb o w=>by
     obtain⟨w1,w2⟩:=cw w
     rw[d5,bq λz=>w1 (.inl z),aC λz=>w1 (.inr z)]
     exact s3 _ _ w2
    refine h4 ((r1.mono NQ).set (i:=i) (v:=.ref t1) ?_) e7 q
    refine .tup (lM.of (xs:=[.bl b,.ref t2]) ?_) (.cons (.bl b) (.cons (.tup (lM.of (xs:=[.ref L,w]) ?_) (.cons (.lst (SL.of (xs:=[]) ?_) .nil) (.cons (g4.mono m) .nil))) .nil))
    ·rw[d5,bq (nh n1),aC Tu]
     exact k1
    ·rw[d5,bq (nh n2),aC Tv]
     exact k2
    ·rw[d5,bq (nh n0)]
     exact aU
 ·cases e4
end
section
variable{P:Program}{w:World}{K:PySem.W.Frag}{mg:Str->Option Value}{base:Heap}{κ:Kl}
theorem NU{x qual:Str}{st:Stmt}{f:Addr}{fd:FuncData}{N ps:List Str}{k:Nat}{g:jm}(F:vD K x qual st f fd)(S:eI N ps (aj st))
  (hb:∀(eU:Value) (A:Around) (outer:List Env) (s:Shared) (H:Hp) (E:XK),ck k (A.deeper (envOfC qual (aj st) s.heap.objs.size f eU))->Gf (lN iK P w K mg base N qual (aj st) f eU A outer s H E).zm κ (cz st) g):
  cM P w K mg base iK (k+1) f fd ps (ON K κ (Ma N.length ps.length g)):=by
 refine F.ok S (λvs H Q E h=>?_) (λeU A outer s H vs Q E hr h=>?_)
 ·obtain⟨A,qs,t,_,h1,h2,_⟩:=h
  unfold Ma at h2
  obtain⟨hk,_⟩:=eh h2
  rw[h1.length]
  exact hk
 ·obtain⟨A',qs,t,al,h1,h2,q⟩:=h
  obtain⟨ts,a1,a2⟩:=hb eU A outer s H E hr
  refine⟨ts,a1,?_⟩
  unfold Ma at h2
  obtain⟨hk,h3⟩:=eh h2
  exact a2 (R.entry al h1) h3 q
theorem cM.Tw{k:Nat}{f:Addr}{fd:FuncData}{ps:List Str}{F:List PV->Option PV}(h:cM P w K mg base iK k f fd ps (ON K κ F)):cM P w K mg base iK k f fd ps (uD K κ false F):=h.imp λvs H Q E ⟨A,qs,p,al,h1,h2,q⟩=>⟨A,qs,p,al,h1,h2,λv H' s z=>q v H' s (by
 unfold RR
 rw[if_neg Bool.false_ne_true]
 exact RW.rep al z)⟩
end
end L2.D
namespace L2.D.My
open PySem PySem.Spec PyProof.Rows PySem.SeqAt
structure Ed(K:PySem.W.Frag)(mg:Str->Option Value)(x:Str)(st:Stmt)(ps:List Str)(f:Addr)(fd:FuncData):Prop where
 F:L2.vD K x x st f fd
 b:L2.Binds K fd ps []
 m:mg x=some (.ref f)
inductive FA(K:PySem.W.Frag)(x q:Str)(st:Stmt)(f:Addr):Prop where
 |mk {od an:Option Addr} {sl:Array (Option Value)} {oc kV dc pm cd ct:Value}
  (l:K.lookup f=some ⟨oc,od,.func (PySem.W.fnOf x q (gD st) (cz st) (aj st) .none kV dc pm an cd ct),sl⟩)
  (c:PySem.W.codeIn K cd q=true) (k:PySem.W.keepIn K (.ref f)=true):FA K x q st f
theorem FA.kp{K:PySem.W.Frag}{x q:Str}{st:Stmt}{f:Addr}:FA K x q st f->PySem.W.keepIn K (.ref f)=true
 |.mk _ _ k=>k
theorem FA.em{K:PySem.W.Frag}{x q:Str}{st:Stmt}{f:Addr}(ps:List Str)(h:FA K x q st f)
  (b:∀(kV dc pm:Value) (an:Option Addr) (cd ct:Value) (us:List Value),us.length=ps.length->bindArgs (PySem.W.fnOf x q (gD st) (cz st) (aj st) .none kV dc pm an cd ct) ⟨us,[]⟩=pure (ps.zip us):=by
    intro _ _ _ _ _ _ us hl
    first
     |(obtain⟨a,rfl⟩:=Lg hl;rfl)
     |(obtain⟨a,b,rfl⟩:=NI hl;rfl)
     |(obtain⟨a,b,c,rfl⟩:=NJ hl;rfl)
     |(obtain⟨a,b,c,d,rfl⟩:=NK hl;rfl)):∃fd,Em K x q st ps f fd:=by
 obtain⟨l,c,k⟩:=h
 have F:=Di l c k
 exact⟨_,F,F.binds b⟩
inductive FG(K:PySem.W.Frag)(x:Str)(st:Stmt)(f:Addr):Prop where
 |mk (a:PySem.W.nsIn K mainGlobals x=some (some (.ref f))) (e:FA K x x st f):FG K x st f
inductive FC(K:PySem.W.Frag)(C:Addr)(x q:Str)(st:Stmt)(f:Addr):Prop where
 |mk (a:PySem.W.findIn K (.ref C) x=some (some (.ref f))) (n:PySem.W.isFn K (.ref f)=true) (e:FA K x q st f):FC K C x q st f
theorem FC.e{K:PySem.W.Frag}{C:Addr}{x q:Str}{st:Stmt}{f:Addr}:FC K C x q st f->FA K x q st f
 |.mk _ _ e=>e
theorem FC.m{K:PySem.W.Frag}{C:Addr}{x q:Str}{st:Stmt}{f:Addr}:FC K C x q st f->Meth K C x f
 |.mk a n e=>⟨a,n,e.kp⟩
theorem FG.ed{h:Heap}{K:PySem.W.Frag}{mg:Str->Option Value}{x:Str}{st:Stmt}{f:Addr}(ps:List Str)(X:K.In h)(G:h.Ns mainGlobals mg)(e:FG K x st f)
  (b:∀(kV dc pm:Value) (an:Option Addr) (cd ct:Value) (us:List Value),us.length=ps.length->bindArgs (PySem.W.fnOf x x (gD st) (cz st) (aj st) .none kV dc pm an cd ct) ⟨us,[]⟩=pure (ps.zip us):=by
    intro _ _ _ _ _ _ us hl
    first
     |(obtain⟨a,rfl⟩:=Lg hl;rfl)
     |(obtain⟨a,b,rfl⟩:=NI hl;rfl)
     |(obtain⟨a,b,c,rfl⟩:=NJ hl;rfl)
     |(obtain⟨a,b,c,d,rfl⟩:=NK hl;rfl)):∃fd,Ed K mg x st ps f fd:=by
 obtain⟨a,e⟩:=e
 obtain⟨fd,e⟩:=e.em ps b
 exact⟨fd,e.F,e.b,PySem.W.mg_of X G a⟩
structure Qd(P:Program)(w:World)(mg:Str->Option Value)(base:Heap)(κ:Kl):Prop
section
variable{P:Program}{w:World}{K:PySem.W.Frag}{mg:Str->Option Value}{base:Heap}{κ:Kl}{x q:Str}{st:Stmt}{ps:List Str}{f:Addr}{fd:FuncData}
theorem FD{fr:Bool}{g:aP}(_:Qd P w mg base κ)(d:L2.vD K x q st f fd)(_:L2.Binds K fd ps [])(F:List PV->Option PV)(N:List Str)(k:Nat)(e:F=fn fr N.length ps.length g)
 (hb:∀(eU:Value) (A:Around) (outer:List Env) (s:Shared) (H:Hp) (E:XK),ck k (A.deeper (envOfC q (aj st) s.heap.objs.size f eU))->N.Nodup->zV (lN iK P w K mg base N q (aj st) f eU A outer s H E).zm κ fr (cz st) g)
 (S:eI N ps (aj st):=by exact⟨rfl,rfl,rfl,by decide+kernel,rfl,by decide+kernel,by decide+kernel⟩):
 cM P w K mg base iK (k+1) f fd ps (uD K κ fr F):=e▸Hg d S λc A o s H E hr=>hb c A o s H E hr S.nd
theorem FM{g:eS}(_:Qd P w mg base κ)(d:L2.vD K x q st f fd)(_:L2.Binds K fd ps [])(F:Tb->List PV->Option Tb)(N:List Str)(k:Nat)(e:F=Jc N.length ps.length g)
 (hb:∀(eU:Value) (A:Around) (outer:List Env) (s:Shared) (H:Hp) (E:XK),ck k (A.deeper (envOfC q (aj st) s.heap.objs.size f eU))->N.Nodup->Ge (lN iK P w K mg base N q (aj st) f eU A outer s H E).zm κ (cz st) g)
 (S:eI N ps (aj st):=by exact⟨rfl,rfl,rfl,by decide+kernel,rfl,by decide+kernel,by decide+kernel⟩):
 cM P w K mg base iK (k+1) f fd ps (OL K κ F):=e▸Hw d S λc A o s H E hr=>hb c A o s H E hr S.nd
theorem FI{g:cg->Option Tb}(_:Qd P w mg base κ)(d:L2.vD K x q st f fd)(_:L2.Binds K fd ps [])(F:List PV->Option Tb)(N:List Str)(k:Nat)(e:F=Mc N.length ps.length g)
 (hb:∀(eU:Value) (A:Around) (outer:List Env) (s:Shared) (H:Hp) (E:XK),ck k (A.deeper (envOfC q (aj st) s.heap.objs.size f eU))->N.Nodup->IB (lN iK P w K mg base N q (aj st) f eU A outer s H E).zm κ (cz st) g)
 (S:eI N ps (aj st):=by exact⟨rfl,rfl,rfl,by decide+kernel,rfl,by decide+kernel,by decide+kernel⟩):
 cM P w K mg base iK (k+1) f fd ps (QD K κ F):=e▸Ep d S λc A o s H E hr=>hb c A o s H E hr S.nd
theorem FT{g:cg->Option Tb}(_:Qd P w mg base κ)(d:L2.vD K x q st f fd)(_:L2.Binds K fd ps [])(F:List PV->Option Tb)(N:List Str)(k:Nat)(e:F=Mb N.length ps.length g)
 (hb:∀(eU:Value) (A:Around) (outer:List Env) (s:Shared) (H:Hp) (E:XK),ck k (A.deeper (envOfC q (aj st) s.heap.objs.size f eU))->N.Nodup->Ln (lN iK P w K mg base N q (aj st) f eU A outer s H E).zm κ (cz st) g)
 (S:eI N ps (aj st):=by exact⟨rfl,rfl,rfl,by decide+kernel,rfl,by decide+kernel,by decide+kernel⟩):
 cM P w K mg base iK (k+1) f fd ps (spT K κ F):=e▸HB d S λc A o s H E hr=>hb c A o s H E hr S.nd
theorem FW{g:jm}(_:Qd P w mg base κ)(d:L2.vD K x q st f fd)(_:L2.Binds K fd ps [])(F:List PV->Option PV)(N:List Str)(k:Nat)(e:F=Ma N.length ps.length g)
 (hb:∀(eU:Value) (A:Around) (outer:List Env) (s:Shared) (H:Hp) (E:XK),ck k (A.deeper (envOfC q (aj st) s.heap.objs.size f eU))->N.Nodup->Gf (lN iK P w K mg base N q (aj st) f eU A outer s H E).zm κ (cz st) g)
 (S:eI N ps (aj st):=by exact⟨rfl,rfl,rfl,by decide+kernel,rfl,by decide+kernel,by decide+kernel⟩):
 cM P w K mg base iK (k+1) f fd ps (ON K κ F):=e▸NU d S λc A o s H E hr=>hb c A o s H E hr S.nd
end
end L2.D.My
namespace L2.D
open PySem
theorem qw(a b:Nat):Builtin.bitAnd (a:Int) (b:Int)=((a&&&b:Nat):Int):=by
 unfold Builtin.bitAnd
 rw[decide_eq_true (by omega),decide_eq_true (by omega)]
 simp
theorem BV(a b:Nat):Builtin.bitOr (a:Int) (b:Int)=((a|||b:Nat):Int):=by
 unfold Builtin.bitOr Builtin.bitAnd
 rw[decide_eq_false (by unfold Builtin.bitNot;omega),decide_eq_false (by unfold Builtin.bitNot;omega)]
 simp only[Builtin.bitNot]
 have e1:(-(-(a:Int)-1)-1).toNat=a:=by omega
 have e2:(-(-(b:Int)-1)-1).toNat=b:=by omega
 rw[e1,e2]
 omega
theorem HD(k:Nat):(1:Int)*2^((k:Int).toNat)=((2^k:Nat):Int):=by
 rw[Int.toNat_natCast]
 simp
noncomputable def RJ(p:Nat->Nat->Bool):Bool:=(List.range 64).all λa=>(List.range 64).all λb=>p a b
theorem Lq{p:Nat->Nat->Bool}(h:RJ p=true){a b:Nat}(ha:a<64)(hb:b<64):p a b=true:=
 List.all_eq_true.mp (List.all_eq_true.mp h a (List.mem_range.mpr ha)) b (List.mem_range.mpr hb)
noncomputable def NV(p:Nat->Bool):Bool:=(List.range 64).all p
theorem Al{p:Nat->Bool}(h:NV p=true){a:Nat}(ha:a<64):p a=true:=List.all_eq_true.mp h a (List.mem_range.mpr ha)
end L2.D
namespace L2.D
theorem QI{n:Nat}(h:n<=100000):lU (n:Int)=true:=by
 unfold lU
 simp
 omega
theorem QJ{k n:Nat}(h:k<n)(hn:n<=1000:=by decide):p6 1 (k:Int)=true:=by
 unfold p6
 simp
 omega
end L2.D
namespace L2.D
open PySem
theorem om(x y:Int)(xs ys:List Int):og (x::xs) (y::ys)=if x=y then og xs ys else decide (x<y):=rfl
theorem sS:∀xs:List Int,og xs xs=false
 |[]=>rfl
 |x::xs=>by rw[om,if_pos rfl,sS xs]
noncomputable def OO(o:Option PV)(l:List Nat):Bool:=match o with
 |some (.lst ps)=>match eA ps with
  |some xs=>xs==l.map (λ(n:Nat)=>(n:Int))
  |none=>false
 |_=>false
theorem fz:∀xs:List Int,eA (xs.map PV.int)=some xs
 |[]=>rfl
 |x::xs=>by
  rw[List.map_cons]
  unfold eA
  rw[fz xs]
  rfl
theorem wD:∀{ps:List PV} {xs:List Int},eA ps=some xs->ps=xs.map PV.int
 |[],xs,h=>by cases h;rfl
 |p::ps,xs,h=>by
  cases p<;>first|(cases h;done)|skip
  obtain⟨cs,h1,rfl⟩:=Option.map_eq_some_iff.mp h
  rw[List.map_cons,<-wD h1]
noncomputable abbrev ag(l:List Nat):PV:=.lst (l.map λ(n:Nat)=>PV.int (n:Int))
theorem Et{o:Option PV}{l:List Nat}(h:OO o l=true):o=some (ag l):=by
 unfold OO at h
 split at h
 ·split at h
  ·rename_i ps xs e
   have:=eq_of_beq h
   subst this
   rw[wD e,List.map_map]
   rfl
  ·cases h
 ·cases h
noncomputable abbrev ih(g:Nat):List Int:=(Mt.bW g).map λ(n:Nat)=>(n:Int)
noncomputable def BW(a b:Nat):Bool:=if(ih a).length=(ih b).length then og (ih a) (ih b)else decide ((ih a).length<(ih b).length)
noncomputable def ni:aP:=iL (tV (aa dE (dV 4) (dV 5))) (br (aa ma (dV 4) (dV 5))) bX
theorem lE(g:xC)(body:aP)(x:PV)(xs:List PV)(ρ:cg):forL g body (x::xs) ρ=(g x ρ).bind λρ1=>(body ρ1).bind λf=>match f with
 |.nx ρ'=>forL g body xs ρ'
 |.ct ρ'=>forL g body xs ρ'
 |.bk ρ'=>some (.nx ρ')
 |.rt p=>some (.rt p):=rfl
theorem Eu(s0 s1 s2 s3:Slot)(x y:Int):ni [s0,s1,s2,s3,.sh (.int x),.sh (.int y)]=if x=y then some (.nx [s0,s1,s2,s3,.sh (.int x),.sh (.int y)])else some (.rt (.bl (decide (x<y)))):=by
 by_cases h:x=y<;>simp[ni,iL,tV,aa,dV,dE,L9,ma,br,bX,xB,Slot.val,eqT,h]
theorem Am(s0 s1 s2 s3:Slot):∀(xs ys:List Int) (s4 s5:Slot),xs.length=ys.length->
  (xs=ys/\∃t4 t5,forL (jI (bh 4) (bh 5)) ni (List.zipWith (λx y=>PV.tup [x,y]) (xs.map PV.int) (ys.map PV.int)) [s0,s1,s2,s3,s4,s5]=some (.nx [s0,s1,s2,s3,t4,t5]))\/
  forL (jI (bh 4) (bh 5)) ni (List.zipWith (λx y=>PV.tup [x,y]) (xs.map PV.int) (ys.map PV.int)) [s0,s1,s2,s3,s4,s5]=some (.rt (.bl (og xs ys)))
 |[],[],s4,s5,_=>.inl ⟨rfl,s4,s5,rfl⟩
 |x::xs,y::ys,s4,s5,h=>by
  simp only[List.map_cons,List.zipWith_cons_cons,lE]
  have g1:jI (bh 4) (bh 5) (.tup [.int x,.int y]) [s0,s1,s2,s3,s4,s5]=some [s0,s1,s2,s3,.sh (.int x),.sh (.int y)]:=rfl
  rw[g1]
  simp only[Option.bind_some,Eu]
  by_cases KO:x=y
  ·subst KO
   rcases Am s0 s1 s2 s3 xs ys (.sh (.int x)) (.sh (.int x)) (by simpa using h)with⟨h1,t4,t5,e⟩|e
   ·subst h1
    refine .inl ⟨rfl,t4,t5,?_⟩
    rw[if_pos rfl]
    exact e
   ·refine .inr ?_
    rw[if_pos rfl,om,if_pos rfl]
    exact e
  ·refine .inr ?_
   rw[if_neg KO,om,if_neg KO]
   rfl
 |[],_::_,_,_,h=>by simp at h
 |_::_,[],_,_,h=>by simp at h
noncomputable def uP(F:List PV->Option PV):aP:=aY (cA 2 (aG F (ah (aO 0) aA))) (aY (cA 3 (aG F (ah (aO 1) aA))) (aY (iL (tV (aa dE (aZ bM (dV 2)) (aZ bM (dV 3)))) (br (aa ma (aZ bM (dV 2)) (aZ bM (dV 3)))) bX)
 (aY (hU (p9 (aO 2) (aO 3)) (jI (bh 4) (bh 5)) ni) (br (dC (.bl false))))))
theorem HE{F:List PV->Option PV}{a b:PV}{l m:List PV}{xs ys:List Int}(h1:F [a]=some (.lst l))(h2:F [b]=some (.lst m))(e1:l=xs.map PV.int)(e2:m=ys.map PV.int):
  fn false 6 2 (uP F) [a,b]=some (.bl (if xs.length=ys.length then og xs ys else decide (xs.length<ys.length))):=by
 have l1:l.length=xs.length:=by rw[e1,List.length_map]
 have l2:m.length=ys.length:=by rw[e2,List.length_map]
 simp only[fn,dZ,uP]
 simp-implicitDefEqProofs [h1,h2,aY,cA,iL,tV,aa,aZ,dV,aO,dC,ah,aA,aG,dE,L9,ma,bM,br,bX,hU,p9,uj,xB,ki,Slot.val,Slot.Bk,eqT]
 rw[l1,l2]
 by_cases hl:xs.length=ys.length
 ·simp[hl,aY,cA,iL,tV,aa,aZ,dV,aO,dC,ah,aA,aG,dE,L9,ma,bM,br,bX,hU,p9,uj,xB,ki,Slot.val,Slot.Bk,eqT]
  have z:=Am (.sh a) (.sh b) (.sh (.lst l)) (.sh (.lst m)) xs ys .un .un hl
  rw[<-e1,<-e2]at z
  rcases z with⟨h3,t4,t5,e⟩|e
  ·rw[e]
   subst h3
   simp-implicitDefEqProofs [sS,br,dC,uj]
  ·rw[e]
   simp[uj]
 ·have A1:¬(xs.length:Int)=(ys.length:Int):=by omega
  simp-implicitDefEqProofs [hl,A1,aY,cA,iL,tV,aa,aZ,dV,aO,dC,ah,aA,aG,dE,L9,ma,bM,br,bX,hU,p9,uj,xB,ki,Slot.val,Slot.Bk,eqT]
theorem Lr{F:List PV->Option PV}(hF:∀g:Nat,g<64->F [.int g]=some (ag (Mt.bW g))){a b:Nat}(ha:a<64)(hb:b<64):fn false 6 2 (uP F) [.int a,.int b]=some (.bl (BW a b)):=
 HE (hF a ha) (hF b hb) (by simp[ih]) (by simp[ih])
end L2.D
namespace L2.D.Sh
open PySem
noncomputable def mf:aP:=(br (aa iu (aa gP (aa p7 (dV 0) (dV 1)) (dC (.int 1))) (dC (.int 1))))
noncomputable def mh(dw:List PV->Option PV):aP:=(br (aT (cO (aZ DH (dV 0))) (tV (aG dw (ah (aO 1) (ah (aO 0) aA)))) (aO 0)))
noncomputable def nj(gA:List PV->Option PV):aP:=(aY (cA 1 (aG gA (ah (aO 0) aA))) (br (Bm (ah (aZ bM (dV 1)) (ah (aO 1) aA)))))
noncomputable def kE:aP:=(br (aT (cO (dC (.int 6))) (tV (aa iu (aa gP (aa p7 (dV 1) (dV 0)) (dC (.int 1))) (dC (.int 1)))) (aO 0)))
noncomputable def i8:aP:=(aY (iL (tV (aa ma (dV 1) (aZ bM (dV 0)))) (br (aa cn (dV 0) (dV 1))) bX) (br (dC (.int 0))))
noncomputable def nu:aP:=(br (aa iu (aa gP (dV 0) (dV 1)) (dV 0)))
noncomputable def uQ(jr:List PV->Option PV):aP:=(br (aZ GZ (aT (nList (dV 0)) bt (aG jr (ah (aO 0) (ah (aO 2) aA))))))
noncomputable def fA(F_place dQ:List PV->Option PV):aP:=(iL (eV (tV (ug dQ (ah (dV 1) (ah (dV 2) aA))))) (lP 1 ef (ah (aO 2) aA)) bX)
noncomputable def pq(F_place dQ:List PV->Option PV):aP:=(aY (lV 1 (jG aA)) (aY (hU (nList (oI (nList (dV 0)))) (bh 2) (fA F_place dQ)) (vW 1)))
noncomputable def iy(aq:List PV->Option PV):aP:=(iL (tV (aa dE (dV 4) (dV 5))) (br (aa ma (dV 4) (dV 5))) bX)
noncomputable def jK(aq:List PV->Option PV):aP:=(aY (cA 2 (aG aq (ah (aO 0) aA))) (aY (cA 3 (aG aq (ah (aO 1) aA))) (aY (iL (tV (aa dE (aZ bM (dV 2)) (aZ bM (dV 3)))) (br (aa ma (aZ bM (dV 2)) (aZ bM (dV 3)))) bX) (aY (hU (p9 (aO 2) (aO 3)) (jI (bh 4) (bh 5)) (iy aq)) (br (dC (.bl false)))))))
noncomputable def gF(bJ:List PV->Option PV):aP:=(cA 4 (aa bQ (dV 4) (dC (.int 1))))
noncomputable def dY(bJ:List PV->Option PV):aP:=(aY (cA 3 (aT (nList (dV 0)) (jd (tV (aa iu (aa gP (dV 0) (dV 3)) (dV 0))) (tV (aa dE (dV 0) (dV 3)))) (aO 0))) (iL (jd (tV (aa iu (aZ bM (dV 3)) (dC (.int 0)))) (tV (aa kh (dV 2) (dV 1)))) (aY (cA 4 (dC (.int 0))) (aY (fK (jd (tV (aa ma (dV 4) (aZ bM (dV 1)))) (tV (aG bJ (ah (aa cn (dV 1) (dV 4)) (ah (aO 2) aA))))) (gF bJ) 1000) (lP 1 lz (ah (aO 4) (ah (aO 2) aA))))) bX))
noncomputable def iT(bJ:List PV->Option PV):aP:=(aY (lV 1 (jG aA)) (aY (hU (nList (aO 0)) (bh 2) (dY bJ)) (vW 1)))
noncomputable def dF(aw bu aq:List PV->Option PV):aP:=(aY (cA 8 (aG aw (ah (aO 0) (ah (aa bQ (aa bQ (dV 1) (dC (.int 1))) (dV 7)) aA)))) (aY (cA 9 (aa gO (dV 8) (aa iN (dC (.int 1)) (dV 3)))) (aY (iL (tV (aa iu (aa gO (aa l9 (dV 4) (aa bQ (dV 2) (dC (.int 1)))) (dC (.int 3))) (dC (.int 1)))) (cA 9 (aa L8 (aa L8 (dV 9) (aa iN (dC (.int 1)) (aa gO (aa l9 (dV 8) (dC (.int 64))) (dV 3)))) (aa iN (dC (.int 1)) (aa gO (aa l9 (dV 8) (dC (.int 384))) (dV 3))))) bX) (lP 6 ef (ah (aO 9) aA)))))
noncomputable def hW(aw bu aq:List PV->Option PV):aP:=(aY (cA 4 (aG aw (ah (aO 0) (ah (aO 1) aA)))) (aY (cA 5 (aa gO (aG aw (ah (aO 0) (ah (aa bQ (dV 1) (dC (.int 1))) aA))) (aa bQ (dV 3) (dC (.int 1))))) (aY (iL (jd (tV (aa Bo (dV 2) (dC (.int 7)))) (tV (aa iu (aa gO (aa l9 (dV 4) (aa bQ (aa mR (dC (.int 3)) (dV 2)) (dC (.int 3)))) (dC (.int 6))) (dC (.int 1))))) (br (aG bu (ah (aT (cO (aa iN (dC (.int 1)) (dV 3))) (tV (aa iu (aZ bM (aG aq (ah (aO 0) aA))) (dV 6))) (aO 0)) aA))) bX) (aY (lV 6 (jG aA)) (aY (hU (cO (aa gO (dV 4) (aa bQ (dV 2) (dC (.int 1))))) (bh 7) (dF aw bu aq)) (aY (ui 6) (br (aG bu (ah (aO 6) aA)))))))))
noncomputable def cT:aP:=(iL (tV (aa iu (aa gP (dV 2) (dV 1)) (dV 2))) (br (dC (.bl true))) bX)
noncomputable def mi:aP:=(aY (hU (nList (aO 0)) (bh 2) cT) (br (dC (.bl false))))
noncomputable def iU(F_place:List PV->Option PV):aP:=(br (oI (cO (aa iN (dC (.int 1)) (dV 0)))))
noncomputable def hX:aP:=(br (aZ G0 (aT (nList (dV 1)) bt (aa dE (aa gP (dV 1) (dV 0)) (dC (.int 0))))))
noncomputable def jL(hZ cV cD:List PV->Option PV):aP:=(br (aG hZ (ah (aT (nList (aG cV (ah (aO 0) aA))) (tV (aG cD (ah (aO 0) (ah (aO 2) aA)))) (aO 0)) aA)))
end L2.D.Sh
namespace L2.D
open PySem
noncomputable abbrev RK:=fn false 2 2 Sh.mf
noncomputable abbrev QK:=fn true 1 1 (Sh.mh RK)
noncomputable abbrev OP:=fn false 2 1 (Sh.nj QK)
noncomputable abbrev OQ:=fn true 1 1 Sh.kE
noncomputable abbrev RL:=fn false 6 2 (Sh.jK OQ)
noncomputable abbrev RM:=fn false 2 2 Sh.i8
noncomputable abbrev RN:=fn false 2 2 Sh.nu
noncomputable abbrev Flt:=fn false 2 2 (Sh.uQ RN)
noncomputable abbrev RO:=fn true 3 1 (Sh.pq OP Flt)
theorem sT:NV (λg=>OO (QK [.int g]) (Mt.bW g)&&OO (OQ [.int g]) (Mt.bW g))=true:=by decide+kernel
theorem Ew(g:Nat)(h:g<64):QK [.int g]=some (ag (Mt.bW g)):=Et (by have:=Al sT h;rw[Bool.and_eq_true]at this;exact this.1)
theorem oo(g:Nat)(h:g<64):OQ [.int g]=some (ag (Mt.bW g)):=Et (by have:=Al sT h;rw[Bool.and_eq_true]at this;exact this.2)
theorem BX{a b:Nat}(ha:a<64)(hb:b<64):RL [.int a,.int b]=some (.bl (BW a b)):=Lr oo ha hb
theorem BY{F:List PV->Option PV}{g:PV}{l:List PV}(h:F [g]=some (.lst l)):fn false 2 1 (Sh.nj F) [g]=some (.tup [.int l.length,.lst l]):=by
 have sz:(2:Nat)<=sizeLine:=by decide
 simp-implicitDefEqProofs [fn,dZ,Sh.nj,h,sz,aY,cA,aG,ah,aA,aO,Slot.Bk,br,Bm,aZ,bM,dV,Slot.val,uj]
theorem Ex{g:Nat}(h:g<64):OP [.int g]=some (.tup [.int (ih g).length,.lst ((ih g).map PV.int)]):=by
 have e:(ag (Mt.bW g))=.lst ((ih g).map PV.int):=by simp[ag,ih]
 have:=Ew g h
 rw[e]at this
 refine(BY this).trans ?_
 rw[List.length_map]
theorem uR:RJ (λa b=>BW a b==decide (Mt.rank a<Mt.rank b))=true:=by decide+kernel
theorem sU{a b:Nat}(ha:a<64)(hb:b<64):BW a b=decide (Mt.rank a<Mt.rank b):=eq_of_beq (Lq uR ha hb)
theorem uS{n:Int}(h:nJ n=true):n.toNat<64/\n=((n.toNat:Nat):Int):=by
 unfold nJ at h
 simp only[Bool.and_eq_true,decide_eq_true_eq]at h
 omega
theorem yy:hV OP:=by
 refine⟨λn=>(ih n.toNat).length,λn=>ih n.toNat,λn hn=>?_,λn m hn hm=>?_⟩
 ·obtain⟨h1,h2⟩:=uS hn
  have:=Ex h1
  rw[<-h2]at this
  exact this
 ·obtain⟨h1,h2⟩:=uS hn
  obtain⟨h3,h4⟩:=uS hm
  have:=sU h1 h3
  unfold BW at this
  unfold iO
  rw[<-this]
  by_cases h:(ih n.toNat).length=(ih m.toNat).length
  ·rw[if_pos h,if_pos (show(((ih n.toNat).length:Nat):Int)=((ih m.toNat).length:Nat) by rw[h])]
  ·rw[if_neg h,if_neg (show¬(((ih n.toNat).length:Nat):Int)=((ih m.toNat).length:Nat) by omega)]
   simp
theorem BZ(a b:Nat):RN [.int a,.int b]=some (.bl (Mt.sub a b)):=by
 have:(((a&&&b:Nat):Int)=(a:Int))↔(a&&&b)=a:=by omega
 simp-implicitDefEqProofs [fn,dZ,Sh.nu,qw,Mt.sub,this,br,aa,dV,Slot.val,gP,iu,eqT,uj]
 rfl
theorem oq:∀bs:List Bool,bools (bs.map PV.bl)=some bs
 |[]=>rfl
 |b::bs=>by
  rw[List.map_cons]
  unfold bools
  rw[oq bs]
  rfl
theorem ot{c:cN}{e:Den}{ρ:cg}{f:PV->PV}{p:PV->Bool}:∀xs:List PV,(∀x∈xs,c (.sh x::ρ)=some (p x))->(∀x∈xs,p x=true->e (.sh x::ρ)=some (f x))->eW c e ρ xs=some ((xs.filter p).map f)
 |[],_,_=>rfl
 |x::xs,h1,h2=>by
  have ih:=ot xs (λy hy=>h1 y (List.mem_cons_of_mem _ hy)) λy hy=>h2 y (List.mem_cons_of_mem _ hy)
  unfold eW
  rw[h1 x (List.mem_cons_self ..),ih]
  by_cases hp:p x=true
  ·rw[List.filter_cons_of_pos hp,List.map_cons]
   simp[hp,h2 x (List.mem_cons_self ..) hp]
  ·rw[List.filter_cons_of_neg hp]
   simp at hp
   simp[hp]
theorem sV{e:Den}{ρ:cg}{f:PV->PV}(xs:List PV)(h:∀x∈xs,e (.sh x::ρ)=some (f x)):eW bt e ρ xs=some (xs.map f):=by
 have:=ot (c:=bt) (e:=e) (ρ:=ρ) (f:=f) (p:=λ_=>true) xs (λ_ _=>rfl) λx hx _=>h x hx
 rwa[List.filter_eq_self.mpr (λ_ _=>rfl)]at this
theorem gK{it:cu}{c:cN}{e:Den}{ρ:cg}{xs zs:List PV}(h1:it ρ=some xs)(h2:xs.length<=sizeLine)(h3:eW c e ρ xs=some zs):aT it c e ρ=some (.lst zs):=by
 unfold aT
 rw[h1]
 show(if xs.length<=sizeLine then _ else none)=_
 rw[if_pos h2,h3]
 rfl
theorem eK{it:cu}{g:xC}{body:aP}{ρ:cg}{xs:List PV}(h:it ρ=some xs):hU it g body ρ=forL g body xs ρ:=by
 unfold hU
 rw[h]
 rfl
theorem cQ{a:Den}{ρ:cg}{l:List PV}(h:a ρ=some (.lst l)):nList a ρ=some l:=by
 unfold nList
 rw[h]
 rfl
theorem aE{a b:aP}{ρ ρ':cg}(h:a ρ=some (.nx ρ')):aY a b ρ=b ρ':=by
 unfold aY
 rw[h]
 rfl
theorem lF{a b:aP}{ρ:cg}{p:PV}(h:a ρ=some (.rt p)):aY a b ρ=some (.rt p):=by
 unfold aY
 rw[h]
 rfl
theorem lY{t:cN}{a b:aP}{ρ:cg}(h:t ρ=some true):iL t a b ρ=a ρ:=by
 unfold iL
 rw[h]
 rfl
theorem eB{t:cN}{a b:aP}{ρ:cg}(h:t ρ=some false):iL t a b ρ=b ρ:=by
 unfold iL
 rw[h]
 rfl
theorem bH{i:Nat}{a:Den}{ρ:cg}{p:PV}(h:a ρ=some p):cA i a ρ=some (.nx (ρ.set i (.sh p))):=by
 unfold cA
 rw[h]
 rfl
theorem qx{i:Nat}{a:Den}{ρ:cg}{l:List PV}(h:a ρ=some (.lst l)):lV i a ρ=some (.nx (ρ.set i (.ow l))):=by
 unfold lV
 rw[h]
 rfl
theorem eL{a:Den}{ρ:cg}{p:PV}(h:a ρ=some p):br a ρ=some (.rt p):=by
 unfold br
 rw[h]
 rfl
theorem bj{F:List PV->Option PV}{as:cu}{ρ:cg}{ps:List PV}(h:as ρ=some ps):aG F as ρ=F ps:=by
 unfold aG
 rw[h]
 rfl
theorem cj{a:Den}{ρ:cg}{b:Bool}(h:a ρ=some (.bl b)):tV a ρ=some b:=by
 unfold tV
 rw[h]
 rfl
theorem pA{t:cN}{ρ:cg}{b:Bool}(h:t ρ=some b):eV t ρ=some (!b):=by
 unfold eV
 rw[h]
 rfl
theorem gh{a b:cN}{ρ:cg}(h:a ρ=some false):jy a b ρ=b ρ:=by
 unfold jy
 rw[h]
 rfl
theorem NW{a b:cN}{ρ:cg}(h:a ρ=some true):jy a b ρ=some true:=by
 unfold jy
 rw[h]
 rfl
theorem kF{a b:cN}{ρ:cg}(h:a ρ=some true):jd a b ρ=b ρ:=by
 unfold jd
 rw[h]
 rfl
theorem qy{a b:cN}{ρ:cg}(h:a ρ=some false):jd a b ρ=some false:=by
 unfold jd
 rw[h]
 rfl
theorem au{g:PV->PV->Option PV}{a b:Den}{ρ:cg}{x y:PV}(h1:a ρ=some x)(h2:b ρ=some y):aa g a b ρ=g x y:=by
 unfold aa
 rw[h1]
 show(b ρ).bind _=_
 rw[h2]
 rfl
theorem d6{g:PV->Option PV}{a:Den}{ρ:cg}{x:PV}(h1:a ρ=some x):aZ g a ρ=g x:=by
 unfold aZ
 rw[h1]
 rfl
theorem kG{a:Den}{ρ:cg}{j:Int}(h1:a ρ=some (.int j))(h2:lU j=true):cO a ρ=some (cR 0 j.toNat):=by
 unfold cO
 rw[h1]
 simp only[Option.bind_some,G2]
 rw[if_pos h2]
theorem pB(i j:Int):iu (.int i) (.int j)=some (.bl (decide (i=j))):=rfl
theorem uT(i j:Int):dE (.int i) (.int j)=some (.bl (!decide (i=j))):=rfl
theorem Ls(i j:Bool):iu (.bl i) (.bl j)=some (.bl (decide (i=j))):=rfl
theorem Ey(i j:Bool):dE (.bl i) (.bl j)=some (.bl (!decide (i=j))):=rfl
theorem fB{fr:Bool}{n k:Nat}{body:aP}{ps:List PV}{p:PV}(h:ps.length=k)(e:body (dZ n ps)=some (.rt p)):fn fr n k body ps=some p:=by
 unfold fn
 rw[if_pos h,e]
 rfl
theorem An(ns:List Int)(k:Nat):RM [.lst (ns.map PV.int),.int k]=some (.int (ns.getD k 0)):=by
 have t:tV (aa ma (dV 1) (aZ bM (dV 0))) [.sh (.lst (ns.map PV.int)),.sh (.int k)]=some (decide (k<ns.length)):=by
  refine cj ((au (x:=.int k) (y:=.int ((ns.map PV.int).length:Nat)) rfl rfl).trans ?_)
  show some (PV.bl (decide ((k:Int)<(((ns.map PV.int).length:Nat):Int))))=_
  rw[List.length_map]
  congr 2
  rw[decide_eq_decide]
  omega
 by_cases h:k<ns.length
 ·rw[decide_eq_true h]at t
  have e:itemAt (ns.map PV.int) (k:Int)=some (.int (ns.getD k 0)):=by simp[itemAt,CN,h]
  exact fB rfl (lF ((lY t).trans (eL ((au (x:=.lst (ns.map PV.int)) (y:=.int k) rfl rfl).trans e))))
 ·rw[decide_eq_false h]at t
  have h2:ns.getD k 0=0:=by
   rw[List.getD_eq_getElem?_getD,List.getElem?_eq_none (by omega)]
   rfl
  rw[h2]
  exact fB rfl ((aE ((eB t).trans rfl)).trans (eL rfl))
theorem ou{fr:Bool}{n k:Nat}{f:Den}{ps:List PV}{p:PV}(h:ps.length=k)(e:f (dZ n ps)=some p):fn fr n k (br f) ps=some p:=by
 unfold fn
 rw[if_pos h]
 unfold br
 rw[e]
 rfl
noncomputable abbrev pl(l:List Nat):List PV:=l.map λ(n:Nat)=>PV.int (n:Int)
theorem c9(l:List Nat):(pl l).length=l.length:=List.length_map _
theorem Ez{F:List PV->Option PV}(hF:∀a b:Nat,F [.int a,.int b]=some (.bl (Mt.sub a b)))(l:List Nat)(g:Nat)(hl:l.length<=sizeLine):fn false 2 2 (Sh.uQ F) [ag l,.int g]=some (.bl (Mt.lets l g)):=by
 refine ou rfl ?_
 have e:=sV (e:=aG F (ah (aO 0) (ah (aO 2) aA))) (ρ:=[.sh (ag l),.sh (.int g)]) (f:=λx=>.bl (match x with|.int n=>Mt.sub n.toNat g|_=>false)) (pl l) (by
  intro x hx
  obtain⟨n,_,rfl⟩:=List.mem_map.mp hx
  simp-implicitDefEqProofs [hF,aG,ah,aA,aO,Slot.Bk])
 have d:=gK (it:=nList (dV 0)) (ρ:=[.sh (ag l),.sh (.int g)]) (xs:=pl l) rfl (by rw[c9];exact hl) e
 show(aT (nList (dV 0)) bt (aG F (ah (aO 0) (ah (aO 2) aA))) [.sh (ag l),.sh (.int g)]).bind GZ=_
 rw[d]
 have e2:(pl l).map (λx=>PV.bl (match x with|.int n=>Mt.sub n.toNat g|_=>false))=(l.map λr=>Mt.sub r g).map PV.bl:=by
  rw[List.map_map,List.map_map]
  rfl
 show(bools ((pl l).map (λx=>PV.bl (match x with|.int n=>Mt.sub n.toNat g|_=>false)))).map _=_
 rw[e2,oq]
 unfold Mt.lets
 rw[Option.map_some,List.any_map]
 rfl
theorem HF(l:List Nat)(g:Nat)(hl:l.length<=sizeLine):Flt [ag l,.int g]=some (.bl (Mt.lets l g)):=Ez BZ l g hl
noncomputable def Ao(l:List Nat):List Nat:=(fL iO (l.map λ(n:Nat)=>(n:Int))).map Int.toNat
theorem wF(l:List Nat):fL iO (l.map λ(n:Nat)=>(n:Int))=(Ao l).map λ(n:Nat)=>(n:Int):=by
 unfold Ao
 rw[List.map_map]
 have:∀x∈fL iO (l.map λ(n:Nat)=>(n:Int)),((λ(n:Nat)=>(n:Int))∘Int.toNat) x=id x:=λx hx=>by
  obtain⟨n,_,rfl⟩:=List.mem_map.mp ((ig iO _).mem_iff.mp hx)
  simp
 rw[List.map_congr_left this,List.map_id]
theorem iz(l:List Nat):(Ao l).Perm l:=by
 have h:=(ig iO (l.map λ(n:Nat)=>(n:Int))).map Int.toNat
 rw[List.map_map]at h
 have e:(Int.toNat∘λ(n:Nat)=>(n:Int))=id:=by
  funext n
  simp
 rw[e,List.map_id]at h
 exact h
theorem yz(l:List Nat):(Ao l).Pairwise λa b=>Mt.rank a<=Mt.rank b:=by
 have h:=kq iO (l.map λ(n:Nat)=>(n:Int))
 rw[wF,List.pairwise_map]at h
 exact h.imp λ{a b} q=>by simpa[iO]using q
theorem EA(l:List Nat):eA (pl l)=some (l.map λ(n:Nat)=>(n:Int)):=by
 have:pl l=(l.map λ(n:Nat)=>(n:Int)).map PV.int:=by
  rw[List.map_map]
  rfl
 rw[this,fz]
theorem B0{l:List Nat}(h:∀g∈l,g<64)(hl:l.length<=5000):kj (l.map λ(n:Nat)=>(n:Int))=true:=by
 unfold kj
 simp only[Bool.and_eq_true,List.all_eq_true,decide_eq_true_eq,List.length_map]
 refine⟨λx hx=>?_,hl⟩
 obtain⟨n,hn,rfl⟩:=List.mem_map.mp hx
 have:=h n hn
 unfold nJ
 simp
 omega
theorem wG{it:cu}{ρ:cg}{l:List Nat}(h:it ρ=some (pl l))(lT:∀g∈l,g<64)(hl:l.length<=5000):oI it ρ=some (ag (Ao l)):=by
 unfold oI
 rw[h]
 show(eA (pl l)).bind _=_
 rw[EA]
 show(if kj _ then _ else none)=_
 rw[if_pos (B0 lT hl),wF,List.map_map]
 rfl
theorem sW{F_place dQ:List PV->Option PV}(hL:∀(l:List Nat) (g:Nat),l.length<=sizeLine->dQ [ag l,.int g]=some (.bl (Mt.lets l g)))(s0:Slot):∀(ss acc:List Nat) (s2:Slot),acc.length+ss.length<=5000->
  ∃t2,forL (bh 2) (Sh.fA F_place dQ) (pl ss) [s0,.ow (pl acc),s2]=some (.nx [s0,.ow (pl (ss.foldl Mt.jF acc)),t2])
 |[],acc,s2,_=>⟨s2,rfl⟩
 |g::ss,acc,s2,h=>by
  have zl:(5000:Nat)<=sizeLine:=by decide
  rw[List.length_cons]at h
  have b:Sh.fA F_place dQ [s0,.ow (pl acc),.sh (.int g)]=some (.nx [s0,.ow (pl (Mt.jF acc g)),.sh (.int g)]):=by
   have h1:=hL acc g (by omega)
   have h2:(pl acc).length<sizeLine:=by rw[c9];omega
   have h3:(Sh.fA F_place dQ [s0,.ow (pl acc),.sh (.int g)])=(if(!Mt.lets acc g)=true then some (.nx [s0,.ow (pl acc++[.int g]),.sh (.int g)])else some (.nx [s0,.ow (pl acc),.sh (.int g)])):=by
    unfold Sh.fA iL eV tV ug
    have e0:(ah (dV 1) (ah (dV 2) aA)) [s0,.ow (pl acc),.sh (.int g)]=some [ag acc,.int g]:=rfl
    rw[e0]
    simp-implicitDefEqProofs only[Option.bind_some,h1,flat,if_true,xB,Option.map_some]
    split
    ·have:(lP 1 ef (ah (aO 2) aA)) [s0,.ow (pl acc),.sh (.int g)]=((if(pl acc).length<sizeLine then some (pl acc++[.int g])else none).map λl'=>Fl.nx [s0,.ow l',.sh (.int g)]):=rfl
     rw[this,if_pos h2]
     rfl
    ·rfl
   rw[h3]
   unfold Mt.jF
   cases Mt.lets acc g<;>simp[pl]
  obtain⟨t2,e⟩:=sW hL s0 ss (Mt.jF acc g) (.sh (.int g)) (by
   unfold Mt.jF
   split
   ·omega
   ·rw[List.length_append,List.length_singleton]
    omega)
  refine⟨t2,?_⟩
  rw[show pl (g::ss)=.int g::pl ss from rfl,lE]
  show((Sh.fA F_place dQ [s0,.ow (pl acc),.sh (.int g)]).bind _)=_
  rw[b]
  exact e
theorem B7{F_place dQ:List PV->Option PV}(hL:∀(l:List Nat) (g:Nat),l.length<=sizeLine->dQ [ag l,.int g]=some (.bl (Mt.lets l g))){l:List Nat}(lT:∀g∈l,g<64)(hl:l.length<=5000):
  fn true 3 1 (Sh.pq F_place dQ) [ag l]=some (ag (Mt.pZ (Ao l))):=by
 obtain⟨t2,e⟩:=sW (F_place:=F_place) hL (.sh (ag l)) (Ao l) [] .un (by rw[(iz l).length_eq];simpa using hl)
 have d:=wG (it:=nList (dV 0)) (ρ:=[.sh (ag l),.ow [],.un]) (l:=l) rfl lT hl
 refine fB rfl ?_
 refine(aE (qx (l:=[]) rfl)).trans ?_
 refine(aE ((eK (cQ d)).trans e)).trans ?_
 rfl
theorem EB{l:List Nat}(lT:∀g∈l,g<64)(hl:l.length<=5000):RO [ag l]=some (ag (Mt.pZ (Ao l))):=B7 HF lT hl
theorem EC{l:List Nat}(lT:∀g∈l,g<64):Mt.Cl (Ao l) (Mt.pZ (Ao l)):=Mt.Dz (λg hg=>lT g ((iz l).mem_iff.mp hg)) (yz l)
theorem yA{l:List Nat}{x:PV}(h:x∈pl l):∃n∈l,x=.int (n:Nat):=by
 obtain⟨n,hn,rfl⟩:=List.mem_map.mp h
 exact⟨n,hn,rfl⟩
theorem B8{l:List Nat}{k:Nat}(h:k<l.length):itemAt (pl l) (k:Int)=some (.int (l[k]:Nat)):=by
 have h':(k:Int)<(l.length:Int):=by omega
 simp[itemAt,CN,h',h]
theorem ox{i:Nat}{body:aP}:∀(xs:List PV) (ρ:cg),(∀x∈xs,body (ρ.set i (.sh x))=some (.nx (ρ.set i (.sh x))))->∃s,forL (bh i) body xs ρ=some (.nx (ρ.set i s))
 |[],ρ,_=>by
  by_cases h:i<ρ.length
  ·exact⟨ρ[i],by rw[List.set_getElem_self];rfl⟩
  ·exact⟨.un,by rw[List.set_eq_of_length_le (by omega)];rfl⟩
 |x::xs,ρ,h=>by
  obtain⟨s,e⟩:=ox xs (ρ.set i (.sh x)) (λy hy=>by
   rw[List.set_set]
   exact h y (List.mem_cons_of_mem _ hy))
  refine⟨s,?_⟩
  rw[lE]
  show((body (ρ.set i (.sh x))).bind _)=_
  rw[h x (List.mem_cons_self ..)]
  show forL (bh i) body xs (ρ.set i (.sh x))=_
  rw[e,List.set_set]
theorem jM(c:Nat)(h:c<=6):iN (.int 1) (.int c)=some (.int ((2^c:Nat):Int)):=by
 have:=QJ (k:=c) (n:=7) (by omega)
 unfold iN
 dsimp only
 rw[if_pos this,HD]
theorem Ap(n:Nat):∀l m:List Nat,l.length=m.length->(l8 (jl n) (pl l) (pl m)).map (λes=>es.all id)=some (decide (l=m))
 |[],[],_=>rfl
 |a::l,b::m,h=>by
  have ih:=Ap n l m (by simpa using h)
  obtain⟨es,e1,e2⟩:=Option.map_eq_some_iff.mp ih
  have h1:jl n (.int a) (.int b)=some (decide (a=b)):=by
   have:jl n (.int a) (.int b)=some (((a:Int))==(b:Int)):=by cases n<;>rfl
   rw[this]
   congr 1
   by_cases h:a=b
   ·subst h;simp
   ·have:¬((a:Int)=(b:Int)):=by omega
    rw[decide_eq_false h]
    simp[this]
  show((l8 (jl n) (.int a::pl l) (.int b::pl m)).map _)=_
  unfold l8
  rw[h1,e1]
  show some ((decide (a=b)::es).all id)=_
  rw[List.all_cons,e2]
  congr 1
  by_cases h2:a=b<;>by_cases h3:l=m<;>simp[h2,h3]
 |[],_::_,h=>by simp at h
 |_::_,[],h=>by simp at h
theorem Lu(n:Nat)(l m:List Nat):jl (n+1) (ag l) (ag m)=some (decide (l=m)):=by
 show CM (jl n) (pl l) (pl m)=_
 unfold CM
 rw[c9,c9]
 by_cases h:l.length=m.length
 ·rw[if_pos h]
  exact Ap n l m h
 ·rw[if_neg h]
  congr 1
  exact(decide_eq_false λz=>h (by rw[z])).symm
theorem Lv(l m:List Nat):dE (ag l) (ag m)=some (.bl (!decide (l=m))):=by
 show(jl 20 (ag l) (ag m)).map (λe=>PV.bl !e)=_
 rw[Lu]
 rfl
theorem HG(l:List Nat):(pl l).all flat=true:=by
 rw[List.all_eq_true]
 intro x hx
 obtain⟨n,_,rfl⟩:=yA hx
 rfl
theorem ED(g:Nat):∀l:List Nat,zN (.int g) (pl l)=decide (g∈l)
 |[]=>rfl
 |a::l=>by
  show(((a:Int)==(g:Int))||zN (.int g) (pl l))=_
  rw[ED g l]
  by_cases h:a=g
  ·subst h
   simp
  ·have h':¬((a:Int)=(g:Int)):=by omega
   have Hm:¬g=a:=λz=>h z.symm
   simp[h',Hm]
theorem B9(g:Nat)(l:List Nat):kh (.int g) (ag l)=some (.bl (!decide (g∈l))):=by
 show(if(flat (.int g)&&(pl l).all flat)then some (PV.bl (!zN (.int g) (pl l)))else none)=_
 rw[HG,ED]
 rfl
theorem Ca(l:List Nat)(p:PV->Bool):(pl l).filter p=pl (l.filter λn=>p (.int (n:Nat))):=by
 unfold pl
 rw[List.filter_map]
 rfl
theorem ij{c:Nat}(h:c<=6):2^c<=64:=Nat.pow_le_pow_right (by decide) h
noncomputable abbrev oN(ns:List Int):PV:=.lst (ns.map PV.int)
end L2.D
namespace Mt
theorem EE:∀(n:Nat) (l:List Nat),l.Nodup->(∀x∈l,x<n)->l.length<=n
 |0,[],_,_=>Nat.le_refl _
 |0,x::l,_,h=>absurd (h x (List.mem_cons_self ..)) (by omega)
 |n+1,l,hd,h=>by
  have:=EE n (l.erase n) (hd.erase n) (λx hx=>by
   obtain⟨h1,h2⟩:=hd.mem_erase_iff.mp hx
   have:=h x h2
   omega)
  rw[List.length_erase]at this
  split at this<;>omega
theorem KI.nodup{l:List Nat}(h:KI l):l.Nodup:=h.ord.imp λ{a b} q z=>by
 subst z
 omega
theorem KI.len{l:List Nat}(h:KI l):l.length<=64:=EE 64 l h.nodup h.small
noncomputable def uU(g:Nat):List Nat->List Nat
 |[]=>[g]
 |x::l=>if rank x<rank g then x::uU g l else g::x::l
noncomputable def gB(g:Nat):List Nat->Nat
 |[]=>0
 |x::l=>if rank x<rank g then gB g l+1 else 0
theorem yB(g:Nat):∀l,gB g l<=l.length
 |[]=>Nat.le_refl _
 |x::l=>by
  have:=yB g l
  unfold gB
  rw[List.length_cons]
  split<;>omega
theorem EF{g:Nat}:∀{l:List Nat} {j:Nat} (h:j<l.length),j<gB g l->rank l[j]<rank g
 |[],j,h,_=>by simp at h
 |x::l,j,h,hj=>by
  unfold gB at hj
  split at hj
  ·rename_i hx
   cases j with
   |zero=>exact hx
   |succ j=>
    rw[List.getElem_cons_succ]
    exact EF (by simpa using h) (by omega)
  ·omega
theorem pos_at{g:Nat}:∀{l:List Nat} (h:gB g l<l.length),¬rank (l[gB g l]'h)<rank g
 |[],h=>by simp[gB]at h
 |x::l,h=>by
  by_cases hx:rank x<rank g
  ·have e:gB g (x::l)=gB g l+1:=by
     show(if _ then _ else _)=_
     rw[if_pos hx]
   have h2:gB g l<l.length:=by
    rw[e,List.length_cons]at h
    omega
   have:=pos_at h2
   simp only[e,List.getElem_cons_succ]
   exact this
  ·have e:gB g (x::l)=0:=by
     show(if _ then _ else _)=_
     rw[if_neg hx]
   simp only[e,List.getElem_cons_zero]
   exact hx
theorem EG(g:Nat):∀l,uU g l=l.take (gB g l)++g::l.drop (gB g l)
 |[]=>rfl
 |x::l=>by
  unfold uU gB
  split
  ·rw[EG g l,List.take_succ_cons,List.drop_succ_cons]
   rfl
  ·rfl
theorem js(g:Nat):∀l,(uU g l).Perm (g::l)
 |[]=>List.Perm.refl _
 |x::l=>by
  unfold uU
  split
  ·exact((js g l).cons x).trans (List.Perm.swap g x l)
  ·exact List.Perm.refl _
theorem Aq{g:Nat}:∀{l:List Nat},l.Pairwise (λa b=>rank a<rank b)->(∀x∈l,rank x≠rank g)->(uU g l).Pairwise (λa b=>rank a<rank b)
 |[],_,_=>List.pairwise_singleton _ _
 |x::l,h,hn=>by
  obtain⟨h1,h2⟩:=List.pairwise_cons.mp h
  have hx:=hn x (List.mem_cons_self ..)
  unfold uU
  split
  ·rename_i fF
   refine List.pairwise_cons.mpr ⟨λz hz=>?_,Aq h2 λz hz=>hn z (List.mem_cons_of_mem _ hz)⟩
   rcases List.mem_cons.mp ((js g l).mem_iff.mp hz)with rfl|hz
   ·exact fF
   ·exact h1 z hz
  ·rename_i fF
   refine List.pairwise_cons.mpr ⟨λz hz=>?_,h⟩
   rcases List.mem_cons.mp hz with rfl|hz
   ·omega
   ·have:=h1 z hz
    omega
noncomputable def inner(l:List Nat)(g:Nat):List Nat:=l.filter λo=>sub o g&&!decide (o=g)
noncomputable def qz(l:List Nat)(g:Nat):Bool:=decide ((inner l g).length=0)
theorem Cb{l:List Nat}{g:Nat}:qz l g=true↔∀o∈l,sub o g=true->o=g:=by
 unfold qz
 rw[decide_eq_true_eq,List.length_eq_zero_iff]
 unfold inner
 rw[List.filter_eq_nil_iff]
 constructor
 ·intro h o ho hs
  have:=h o ho
  rw[hs]at this
  simpa using this
 ·intro h o ho hc
  rw[Bool.and_eq_true]at hc
  have:=h o ho hc.1
  simp[this]at hc
noncomputable def kH(l acc:List Nat)(g:Nat):List Nat:=if qz l g&&!decide (g∈acc)then uU g acc else acc
noncomputable def wH(l:List Nat):List Nat:=l.foldl (kH l) []
structure Lm(l pre acc:List Nat):Prop where
 ord:acc.Pairwise λa b=>rank a<rank b
 mem:∀r∈acc,r∈l/\qz l r=true
 cov:∀g∈pre,qz l g=true->g∈acc
theorem Lm.step{l pre acc:List Nat}{g:Nat}(h:Lm l pre acc)(lT:∀x∈l,x<64)(hg:g∈l):Lm l (pre++[g]) (kH l acc g):=by
 unfold kH
 split
 ·rename_i hc
  rw[Bool.and_eq_true]at hc
  obtain⟨hm,hn⟩:=hc
  have Mn:g∉acc:=by simpa using hn
  refine⟨Aq h.ord λx hx e=>Mn ?_,λr hr=>?_,λx hx OS=>?_⟩
  ·have:=pX (lT x (h.mem x hx).1) (lT g hg) e
   rw[<-this]
   exact hx
  ·rcases List.mem_cons.mp ((js g acc).mem_iff.mp hr)with rfl|hr
   ·exact⟨hg,hm⟩
   ·exact h.mem r hr
  ·refine(js g acc).mem_iff.mpr ?_
   rcases List.mem_append.mp hx with hx|hx
   ·exact List.mem_cons_of_mem _ (h.cov x hx OS)
   ·obtain rfl:x=g:=by simpa using hx
    exact List.mem_cons_self ..
 ·rename_i hc
  refine⟨h.ord,h.mem,λx hx OS=>?_⟩
  rcases List.mem_append.mp hx with hx|hx
  ·exact h.cov x hx OS
  ·obtain rfl:x=g:=by simpa using hx
   rw[OS]at hc
   simpa using hc
theorem Ar{l:List Nat}(lT:∀x∈l,x<64):Lm l l (wH l):=by
 have go:∀(post pre acc:List Nat),pre++post=l->Lm l pre acc->Lm l l (post.foldl (kH l) acc):=by
  intro post
  induction post with
  |nil=>
   intro pre acc e h
   rw[List.append_nil]at e
   rw[<-e]at h⊢
   exact h
  |cons g post ih=>
   intro pre acc e h
   rw[List.foldl_cons]
   exact ih (pre++[g]) _ (by rw[List.append_assoc];exact e) (h.step lT (by rw[<-e];simp))
 exact go l [] [] rfl ⟨List.Pairwise.nil,by simp,by simp⟩
theorem EH{l:List Nat}(lT:∀x∈l,x<64):KI (wH l):=by
 have h:=Ar lT
 exact⟨h.ord,λa ha b hb s=>Cb.mp (h.mem b hb).2 a (h.mem a ha).1 s,λa ha=>lT a (h.mem a ha).1⟩
theorem EI{l:List Nat}(lT:∀x∈l,x<64){g:Nat}(h:g∈wH l):g∈l:=((Ar lT).mem g h).1
theorem Cc(l acc:List Nat)(g:Nat):(kH l acc g).length<=acc.length+1:=by
 unfold kH
 split
 ·rw[(js g acc).length_eq]
  simp
 ·omega
end Mt
namespace L2.D
open PySem
theorem qA(a b:Nat):gP (.int a) (.int b)=some (.int ((a&&&b:Nat):Int)):=by
 show some (PV.int (Builtin.bitAnd (a:Int) (b:Int)))=_
 rw[qw]
theorem As(a b:Nat):L8 (.int a) (.int b)=some (.int ((a|||b:Nat):Int)):=by
 show some (PV.int (Builtin.bitOr (a:Int) (b:Int)))=_
 rw[BV]
theorem pC(a b:Nat):iu (.int a) (.int b)=some (.bl (decide (a=b))):=by
 rw[pB]
 congr 2
 rw[decide_eq_decide]
 omega
theorem Au(a b:Nat):dE (.int a) (.int b)=some (.bl (!decide (a=b))):=by
 rw[uT]
 congr 3
 rw[decide_eq_decide]
 omega
theorem HH(a b:Nat):ma (.int a) (.int b)=some (.bl (decide (a<b))):=by
 show some (PV.bl (decide ((a:Int)<(b:Int))))=_
 congr 2
 rw[decide_eq_decide]
 omega
theorem nv(x:Int){n:Nat}(h:0<n):gO (.int x) (.int n)=some (.int (((x %(n:Int)).toNat:Nat):Int)):=by
 show(if decide (0<(n:Int))then some (PV.int (x %(n:Int)))else none)=_
 rw[if_pos (decide_eq_true (by omega))]
 have:=Int.emod_nonneg x (show(n:Int)≠0 by omega)
 congr 2
 omega
theorem mod_lt(x:Int){n:Nat}(h:0<n):(x %(n:Int)).toNat<n:=by
 have:=Int.emod_lt_of_pos x (show(0:Int)<n by omega)
 omega
theorem sub_eq{A B:Den}{ρ:cg}{a b:Nat}(hA:A ρ=some (.int a))(hB:B ρ=some (.int b)):aa iu (aa gP A B) A ρ=some (.bl (Mt.sub a b)):=by
 refine(au ((au hA hB).trans (qA a b)) hA).trans ?_
 rw[pC]
 rfl
theorem yC(n:Nat):cR 0 n=pl (List.range n):=by
 unfold cR
 refine List.map_congr_left λk _=>?_
 rw[Int.zero_add]
theorem kJ{a:Den}{ρ:cg}{n:Nat}(h:a ρ=some (.int n))(hn:n<=100000):cO a ρ=some (pl (List.range n)):=by
 rw[kG h (QI hn),Int.toNat_natCast,yC]
theorem oy{it:cu}{c:cN}{ρ:cg}{l:List Nat}{p:Nat->Bool}(h1:it ρ=some (pl l))(h2:l.length<=sizeLine)(h3:∀n∈l,c (.sh (.int (n:Nat))::ρ)=some (p n)):aT it c (aO 0) ρ=some (ag (l.filter p)):=by
 have cp:=ot (c:=c) (e:=aO 0) (ρ:=ρ) (f:=id) (p:=λx=>match x with|.int r=>p r.toNat|_=>false) (pl l) (by
  intro x hx
  obtain⟨n,hn,rfl⟩:=yA hx
  exact h3 n hn) (λx hx _=>rfl)
 refine(gK h1 (by rw[c9];exact h2) cp).trans ?_
 rw[Ca,List.map_id]
 rfl
theorem mj{it:cu}{e:Den}{ρ:cg}{l:List Nat}{f:Nat->PV}(h1:it ρ=some (pl l))(h2:l.length<=sizeLine)(h3:∀n∈l,e (.sh (.int (n:Nat))::ρ)=some (f n)):aT it bt e ρ=some (.lst (l.map f)):=by
 have cp:=sV (e:=e) (ρ:=ρ) (f:=λx=>match x with|.int r=>f r.toNat|_=>.non) (pl l) (by
  intro x hx
  obtain⟨n,hn,rfl⟩:=yA hx
  exact h3 n hn)
 refine(gK h1 (by rw[c9];exact h2) cp).trans ?_
 unfold pl
 rw[List.map_map]
 rfl
theorem EJ{t:cN}{body:aP}{n:Nat}{ρ:cg}(h:t ρ=some false):fK t body (n+1) ρ=some (.nx ρ):=by
 unfold fK
 rw[h]
 rfl
theorem EK{t:cN}{body:aP}{n:Nat}{ρ ρ':cg}(h:t ρ=some true)(hb:body ρ=some (.nx ρ')):fK t body (n+1) ρ=fK t body n ρ':=by
 conv=>lhs;unfold fK
 rw[h]
 show(body ρ).bind _=_
 rw[hb]
 rfl
section
variable{F:List PV->Option PV}(hB:∀{a b:Nat},a<64->b<64->F [.int a,.int b]=some (.bl (BW a b)))
include hB
theorem wI(s0 s3:Slot){acc:List Nat}{g:Nat}(lT:∀x∈acc,x<64)(hg:g<64):∀(d j n:Nat),j+d=Mt.gB g acc->d<n->
  fK (jd (tV (aa ma (dV 4) (aZ bM (dV 1)))) (tV (aG F (ah (aa cn (dV 1) (dV 4)) (ah (aO 2) aA))))) (Sh.gF F) n [s0,.ow (pl acc),.sh (.int g),s3,.sh (.int j)]=some (.nx [s0,.ow (pl acc),.sh (.int g),s3,.sh (.int (Mt.gB g acc:Nat))])
 |d,j,0,_,hn=>by omega
 |d,j,n+1,hj,hn=>by
  have hp:=Mt.yB g acc
  have t1:tV (aa ma (dV 4) (aZ bM (dV 1))) [s0,.ow (pl acc),.sh (.int g),s3,.sh (.int j)]=some (decide (j<acc.length)):=by
   refine cj ((au (x:=.int j) (y:=.int (acc.length:Nat)) rfl ?_).trans (HH _ _))
   show some (PV.int ((pl acc).length:Nat))=_
   rw[c9]
  have t2:∀(h:j<acc.length),tV (aG F (ah (aa cn (dV 1) (dV 4)) (ah (aO 2) aA))) [s0,.ow (pl acc),.sh (.int g),s3,.sh (.int j)]=some (decide (Mt.rank acc[j]<Mt.rank g)):=by
   intro h
   have as:(ah (aa cn (dV 1) (dV 4)) (ah (aO 2) aA)) [s0,.ow (pl acc),.sh (.int g),s3,.sh (.int j)]=some [.int (acc[j]:Nat),.int g]:=by
    show((itemAt (pl acc) (j:Int)).bind λx=>some [x,PV.int g])=_
    rw[B8 h]
    rfl
   have g1:=lT acc[j] (List.getElem_mem h)
   refine cj ?_
   rw[bj as,hB g1 hg,sU g1 hg]
  by_cases hd:d=0
  ·subst hd
   have jX:j=Mt.gB g acc:=by omega
   refine(EJ ?_).trans (by rw[jX])
   by_cases h:j<acc.length
   ·refine(kF (by rw[t1,decide_eq_true h])).trans ?_
    rw[t2 h]
    have:=Mt.pos_at (g:=g) (l:=acc) (by omega)
    subst jX
    rw[decide_eq_false this]
   ·exact qy (by rw[t1,decide_eq_false h])
  ·have h:j<acc.length:=by omega
   refine(EK (ρ':=[s0,.ow (pl acc),.sh (.int g),s3,.sh (.int (j+1:Nat))]) ?_ rfl).trans (wI s0 s3 lT hg (d-1) (j+1) n (by omega) (by omega))
   refine(kF (by rw[t1,decide_eq_true h])).trans ?_
   rw[t2 h,decide_eq_true (Mt.EF h (by omega))]
theorem HI{l acc:List Nat}{g:Nat}(s3 s4:Slot)(hl:∀x∈l,x<64)(hlen:l.length<=900)(lT:∀x∈acc,x<64)(RP:acc.length<=900)(hg:g<64):∃t3 t4,Sh.dY F [.sh (ag l),.ow (pl acc),.sh (.int g),s3,s4]=some (.nx [.sh (ag l),.ow (pl (Mt.kH l acc g)),.sh (.int g),t3,t4]):=by
 have zl:(5000:Nat)<=sizeLine:=by decide
 have dc:aT (nList (dV 0)) (jd (tV (aa iu (aa gP (dV 0) (dV 3)) (dV 0))) (tV (aa dE (dV 0) (dV 3)))) (aO 0) [.sh (ag l),.ow (pl acc),.sh (.int g),s3,s4]=some (ag (Mt.inner l g)):=by
  refine oy (l:=l) rfl (by omega) λn hn=>?_
  have e1:tV (aa iu (aa gP (dV 0) (dV 3)) (dV 0)) [.sh (.int n),.sh (ag l),.ow (pl acc),.sh (.int g),s3,s4]=some (Mt.sub n g):=cj (sub_eq (A:=dV 0) (B:=dV 3) rfl rfl)
  have e2:tV (aa dE (dV 0) (dV 3)) [.sh (.int n),.sh (ag l),.ow (pl acc),.sh (.int g),s3,s4]=some (!decide (n=g)):=cj ((au (x:=.int n) (y:=.int g) rfl rfl).trans (Au _ _))
  cases hs:Mt.sub n g
  ·rw[hs]at e1
   rw[qy e1]
   rfl
  ·rw[hs]at e1
   rw[kF e1,e2]
   rfl
 have t1:tV (aa iu (aZ bM (dV 3)) (dC (.int 0))) [.sh (ag l),.ow (pl acc),.sh (.int g),.sh (ag (Mt.inner l g)),s4]=some (Mt.qz l g):=by
  refine cj ((au (x:=.int ((Mt.inner l g).length:Nat)) (y:=.int (0:Nat)) ?_ rfl).trans (pC _ _))
  show some (PV.int ((pl _).length:Nat))=_
  rw[c9]
 have t2:tV (aa kh (dV 2) (dV 1)) [.sh (ag l),.ow (pl acc),.sh (.int g),.sh (ag (Mt.inner l g)),s4]=some (!decide (g∈acc)):=cj ((au (x:=.int g) (y:=ag acc) rfl rfl).trans (B9 _ _))
 unfold Mt.kH
 cases hm:Mt.qz l g
 ·rw[hm]at t1
  exact⟨_,_,(aE (bH dc)).trans ((eB (qy t1)).trans rfl)⟩
 ·rw[hm]at t1
  by_cases hi:g∈acc
  ·refine⟨.sh (ag (Mt.inner l g)),s4,(aE (bH dc)).trans ((eB ((kF t1).trans (t2.trans (by rw[decide_eq_true hi];rfl)))).trans ?_)⟩
   rw[decide_eq_true hi]
   rfl
  ·refine⟨.sh (ag (Mt.inner l g)),.sh (.int (Mt.gB g acc:Nat)),(aE (bH dc)).trans ((lY ((kF t1).trans (t2.trans (by rw[decide_eq_false hi];rfl)))).trans ?_)⟩
   rw[decide_eq_false hi]
   have hp:=Mt.yB g acc
   refine(aE (bH (p:=.int (0:Nat)) rfl)).trans ?_
   refine(aE (wI hB (.sh (ag l)) (.sh (ag (Mt.inner l g))) lT hg (Mt.gB g acc) 0 1000 (by omega) (by omega))).trans ?_
   have hm:lz (pl acc) [.int (Mt.gB g acc:Nat),.int g]=some (pl (Mt.uU g acc)):=by
    show(if decide (0<=(Mt.gB g acc:Int))&&decide ((Mt.gB g acc:Int).toNat<=(pl acc).length)&&decide ((pl acc).length<sizeLine)then some ((pl acc).take (Mt.gB g acc:Int).toNat++PV.int g::(pl acc).drop (Mt.gB g acc:Int).toNat)else none)=_
    rw[Int.toNat_natCast,c9,decide_eq_true (by omega),decide_eq_true hp,decide_eq_true (by omega),Mt.EG]
    show some _=_
    unfold pl
    rw[List.map_append,List.map_cons,List.map_take,List.map_drop]
   show((lz (pl acc) [.int (Mt.gB g acc:Nat),.int g]).map λl'=>Fl.nx [.sh (ag l),.ow l',.sh (.int g),.sh (ag (Mt.inner l g)),.sh (.int (Mt.gB g acc:Nat))])=_
   rw[hm]
   rfl
theorem yD{l:List Nat}(hl:∀x∈l,x<64)(hlen:l.length<=400):fn true 5 1 (Sh.iT F) [ag l]=some (ag (Mt.wH l)):=by
 have key:∀(post acc:List Nat) (s2 s3 s4:Slot),(∀x∈post,x<64)->(∀x∈acc,x<64)->acc.length+post.length<=900->∃t2 t3 t4,forL (bh 2) (Sh.dY F) (pl post) [.sh (ag l),.ow (pl acc),s2,s3,s4]=some (.nx [.sh (ag l),.ow (pl (post.foldl (Mt.kH l) acc)),t2,t3,t4]):=by
  intro post
  induction post with
  |nil=>exact λacc s2 s3 s4 _ _ _=>⟨s2,s3,s4,rfl⟩
  |cons g post ih=>
   intro acc s2 s3 s4 h1 h2 h3
   rw[List.length_cons]at h3
   have hg:=h1 g (List.mem_cons_self ..)
   obtain⟨t3,t4,e⟩:=HI hB s3 s4 hl (by omega) h2 (by omega) hg
   have RQ:=Mt.Cc l acc g
   obtain⟨u2,u3,u4,e2⟩:=ih (Mt.kH l acc g) (.sh (.int g)) t3 t4 (λx hx=>h1 x (List.mem_cons_of_mem _ hx)) (by
    intro x hx
    unfold Mt.kH at hx
    split at hx
    ·rcases List.mem_cons.mp ((Mt.js g acc).mem_iff.mp hx)with rfl|hx
     ·exact hg
     ·exact h2 x hx
    ·exact h2 x hx) (by omega)
   refine⟨u2,u3,u4,?_⟩
   rw[show pl (g::post)=.int g::pl post from rfl,lE]
   show((Sh.dY F [.sh (ag l),.ow (pl acc),.sh (.int g),s3,s4]).bind _)=_
   rw[e]
   exact e2
 obtain⟨t2,t3,t4,e⟩:=key l [] .un .un .un hl (by simp) (by simp;omega)
 refine fB rfl ?_
 refine(aE (qx (l:=[]) rfl)).trans ?_
 refine(aE ((eK (xs:=pl l) rfl).trans e)).trans ?_
 rfl
end
theorem sX(s0:Slot)(g:Nat):∀(l:List Nat) (s2:Slot),(∃t,forL (bh 2) Sh.cT (pl l) [s0,.sh (.int g),s2]=some (.nx [s0,.sh (.int g),t])/\Mt.lets l g=false)\/(forL (bh 2) Sh.cT (pl l) [s0,.sh (.int g),s2]=some (.rt (.bl true))/\Mt.lets l g=true)
 |[],s2=>.inl ⟨s2,rfl,rfl⟩
 |r::l,s2=>by
  have t1:tV (aa iu (aa gP (dV 2) (dV 1)) (dV 2)) [s0,.sh (.int g),.sh (.int r)]=some (Mt.sub r g):=cj (sub_eq (A:=dV 2) (B:=dV 1) rfl rfl)
  have el:Mt.lets (r::l) g=(Mt.sub r g||Mt.lets l g):=rfl
  rw[el,show pl (r::l)=.int r::pl l from rfl,lE]
  show(∃t,((Sh.cT [s0,.sh (.int g),.sh (.int r)]).bind _)=_/\_)\/(((Sh.cT [s0,.sh (.int g),.sh (.int r)]).bind _)=_/\_)
  cases hs:Mt.sub r g
  ·rw[hs]at t1
   have e:Sh.cT [s0,.sh (.int g),.sh (.int r)]=some (.nx [s0,.sh (.int g),.sh (.int r)]):=(eB t1).trans rfl
   rw[e]
   exact sX s0 g l (.sh (.int r))
  ·rw[hs]at t1
   have e:Sh.cT [s0,.sh (.int g),.sh (.int r)]=some (.rt (.bl true)):=(lY t1).trans rfl
   rw[e]
   exact .inr ⟨rfl,rfl⟩
noncomputable abbrev Tx:=fn false 3 2 Sh.mi
theorem EL(l:List Nat)(g:Nat):Tx [ag l,.int g]=some (.bl (Mt.lets l g)):=by
 refine fB rfl ?_
 rcases sX (.sh (ag l)) g l .un with⟨t,e,h⟩|⟨e,h⟩
 ·rw[h]
  exact(aE ((eK (xs:=pl l) rfl).trans e)).trans rfl
 ·rw[h]
  exact lF ((eK (xs:=pl l) rfl).trans e)
noncomputable abbrev RS:=fn true 5 1 (Sh.iT RL)
theorem Cd{l:List Nat}(hl:∀x∈l,x<64)(hlen:l.length<=400):RS [ag l]=some (ag (Mt.wH l)):=yD BX hl hlen
theorem qB(x:Int){n:Nat}(h:0<n)(h2:n<=1000):l9 (.int x) (.int n)=some (.int (x/(n:Int))):=by
 show(if decide (0<(n:Int))&&decide ((n:Int)<1073741824)then some (PV.int (x/(n:Int)))else none)=_
 rw[decide_eq_true (by omega),decide_eq_true (by omega)]
 rfl
theorem Ce(x:Int){n:Nat}(h2:n<=1000):oG x (n:Int)=true:=by
 unfold oG
 rw[decide_eq_true (show-(2^64)<(n:Int) by omega),decide_eq_true (show(n:Int)<2^64 by omega)]
 simp
section
variable{aw bu aq:List PV->Option PV}(hC:∀(ns:List Int) (k:Nat),aw [oN ns,.int k]=some (.int (ns.getD k 0)))
 (hM:∀{l:List Nat},(∀g∈l,g<64)->l.length<=400->bu [ag l]=some (ag (Mt.wH l)))(hH:∀g:Nat,g<64->aq [.int g]=some (ag (Mt.bW g)))
include hC hM hH
theorem EM(ns:List Int)(a most c:Nat)(num:Int)(s5:Slot)(hm:most<=100)(c0:1<=c)(c6:c<=6)(acc:List Nat)(hlen:acc.length<=1000)(k:Nat)(s8 s9:Slot):
  ∃g t8 t9,g<2^c/\Sh.dF aw bu aq [.sh (oN ns),.sh (.int a),.sh (.int most),.sh (.int c),.sh (.int num),s5,.ow (pl acc),.sh (.int k),s8,s9]=some (.nx [.sh (oN ns),.sh (.int a),.sh (.int most),.sh (.int c),.sh (.int num),s5,.ow (pl (acc++[g])),.sh (.int k),t8,t9]):=by
 have zl:(5000:Nat)<=sizeLine:=by decide
 have hp:0<2^c:=Nat.two_pow_pos c
 have fin:∀(g:Nat) (s8:Slot),lP 6 ef (ah (aO 9) aA) [.sh (oN ns),.sh (.int a),.sh (.int most),.sh (.int c),.sh (.int num),s5,.ow (pl acc),.sh (.int k),s8,.sh (.int g)]=some (.nx [.sh (oN ns),.sh (.int a),.sh (.int most),.sh (.int c),.sh (.int num),s5,.ow (pl (acc++[g])),.sh (.int k),s8,.sh (.int g)]):=by
  intro g s8
  show((if(pl acc).length<sizeLine then some (pl acc++[PV.int g])else none).map λl'=>Fl.nx [.sh (oN ns),.sh (.int a),.sh (.int most),.sh (.int c),.sh (.int num),s5,.ow l',.sh (.int k),s8,.sh (.int g)])=_
  rw[if_pos (by rw[c9];omega)]
  unfold pl
  rw[List.map_append]
  rfl
 have e1:aG aw (ah (aO 0) (ah (aa bQ (aa bQ (dV 1) (dC (.int 1))) (dV 7)) aA)) [.sh (oN ns),.sh (.int a),.sh (.int most),.sh (.int c),.sh (.int num),s5,.ow (pl acc),.sh (.int k),s8,s9]=some (.int (ns.getD (a+1+k) 0)):=(bj (ps:=[oN ns,.int ((a+1+k:Nat):Int)]) rfl).trans (hC ns (a+1+k))
 generalize ns.getD (a+1+k) 0=x at e1
 have e2:aa gO (dV 8) (aa iN (dC (.int 1)) (dV 3)) [.sh (oN ns),.sh (.int a),.sh (.int most),.sh (.int c),.sh (.int num),s5,.ow (pl acc),.sh (.int k),.sh (.int x),s9]=some (.int (((x %((2^c:Nat):Int)).toNat:Nat):Int)):=
  (au (x:=.int x) (y:=.int ((2^c:Nat):Int)) rfl ((au (x:=.int 1) (y:=.int c) rfl rfl).trans (jM c c6))).trans (nv x hp)
 have hg:=mod_lt x hp
 generalize(x %((2^c:Nat):Int)).toNat=g at e2 hg
 have e3:aa iu (aa gO (aa l9 (dV 4) (aa bQ (dV 2) (dC (.int 1)))) (dC (.int 3))) (dC (.int 1)) [.sh (oN ns),.sh (.int a),.sh (.int most),.sh (.int c),.sh (.int num),s5,.ow (pl acc),.sh (.int k),.sh (.int x),.sh (.int g)]=some (.bl (decide (num/((most+1:Nat):Int) % 3=1))):=by
  refine(au (x:=.int (num/((most+1:Nat):Int) % 3)) (y:=.int 1) ?_ rfl).trans (pB _ _)
  refine(au (x:=.int (num/((most+1:Nat):Int))) (y:=.int 3) ?_ rfl).trans rfl
  exact(au (x:=.int num) (y:=.int ((most+1:Nat):Int)) rfl rfl).trans (qB num (by omega) (by omega))
 by_cases hd:num/((most+1:Nat):Int) % 3=1
 ·rw[decide_eq_true hd]at e3
  have sh:∀(n:Nat) (hn:0<n) (J4:n<=1000),aa iN (dC (.int 1)) (aa gO (aa l9 (dV 8) (dC (.int n))) (dV 3)) [.sh (oN ns),.sh (.int a),.sh (.int most),.sh (.int c),.sh (.int num),s5,.ow (pl acc),.sh (.int k),.sh (.int x),.sh (.int g)]=some (.int ((2^(x/(n:Int) %(c:Int)).toNat:Nat):Int)):=by
   intro n hn J4
   have fF:=mod_lt (x/(n:Int)) (n:=c) (by omega)
   refine(au (x:=.int 1) (y:=.int (((x/(n:Int) %(c:Int)).toNat:Nat):Int)) rfl ?_).trans (jM _ (by omega))
   refine(au (x:=.int (x/(n:Int))) (y:=.int c) ?_ rfl).trans (nv _ (by omega))
   exact(au (x:=.int x) (y:=.int n) rfl rfl).trans (qB x hn J4)
  have l1:=mod_lt (x/((64:Nat):Int)) (n:=c) (by omega)
  have l2:=mod_lt (x/((384:Nat):Int)) (n:=c) (by omega)
  have p1:=Nat.pow_lt_pow_right (show 1<2 by decide) l1
  have p2:=Nat.pow_lt_pow_right (show 1<2 by decide) l2
  refine⟨g|||2^(x/((64:Nat):Int) %(c:Int)).toNat|||2^(x/((384:Nat):Int) %(c:Int)).toNat,.sh (.int x),.sh (.int ((g|||2^(x/((64:Nat):Int) %(c:Int)).toNat|||2^(x/((384:Nat):Int) %(c:Int)).toNat:Nat):Int)),Nat.or_lt_two_pow (Nat.or_lt_two_pow hg p1) p2,?_⟩
  refine(aE (bH e1)).trans ((aE (bH e2)).trans ((aE ((lY (cj e3)).trans (bH ?_))).trans (fin _ _)))
  refine(au (x:=.int ((g|||2^(x/((64:Nat):Int) %(c:Int)).toNat:Nat):Int)) ?_ (sh 384 (by decide) (by decide))).trans (As _ _)
  exact(au (x:=.int g) rfl (sh 64 (by decide) (by decide))).trans (As _ _)
 ·rw[decide_eq_false hd]at e3
  exact⟨g,.sh (.int x),.sh (.int g),hg,(aE (bH e1)).trans ((aE (bH e2)).trans ((aE ((eB (cj e3)).trans rfl)).trans (fin _ _)))⟩
theorem EN(ns:List Int)(a most c:Nat)(hm:most<=100)(c0:1<=c)(c6:c<=6):
  ∃l,(∀g∈l,g<2^c)/\fn true 10 4 (Sh.hW aw bu aq) [oN ns,.int a,.int most,.int c]=some (ag (Mt.wH l)):=by
 have zl:(5000:Nat)<=sizeLine:=by decide
 have Mh:=ij c6
 have e1:aG aw (ah (aO 0) (ah (aO 1) aA)) [.sh (oN ns),.sh (.int a),.sh (.int most),.sh (.int c),.un,.un,.un,.un,.un,.un]=some (.int (ns.getD a 0)):=(bj (ps:=[oN ns,.int (a:Nat)]) rfl).trans (hC ns a)
 generalize ns.getD a 0=num at e1
 have e2:aa gO (aG aw (ah (aO 0) (ah (aa bQ (dV 1) (dC (.int 1))) aA))) (aa bQ (dV 3) (dC (.int 1))) [.sh (oN ns),.sh (.int a),.sh (.int most),.sh (.int c),.sh (.int num),.un,.un,.un,.un,.un]=some (.int (((ns.getD (a+1) 0 %((c+1:Nat):Int)).toNat:Nat):Int)):=
  (au (y:=.int ((c+1:Nat):Int)) ((bj (ps:=[oN ns,.int ((a+1:Nat):Int)]) rfl).trans (hC ns (a+1))) rfl).trans (nv _ (by omega))
 generalize(ns.getD (a+1) 0 %((c+1:Nat):Int)).toNat=sz at e2
 have t1:tV (aa Bo (dV 2) (dC (.int 7))) [.sh (oN ns),.sh (.int a),.sh (.int most),.sh (.int c),.sh (.int num),.sh (.int sz),.un,.un,.un,.un]=some (decide ((7:Int)<most)):=rfl
 have t2:tV (aa iu (aa gO (aa l9 (dV 4) (aa bQ (aa mR (dC (.int 3)) (dV 2)) (dC (.int 3)))) (dC (.int 6))) (dC (.int 1))) [.sh (oN ns),.sh (.int a),.sh (.int most),.sh (.int c),.sh (.int num),.sh (.int sz),.un,.un,.un,.un]=some (decide (num/((3*most+3:Nat):Int) % 6=1)):=by
  refine cj ((au (x:=.int (num/((3*most+3:Nat):Int) % 6)) (y:=.int 1) ?_ rfl).trans (pB _ _))
  refine(au (x:=.int (num/((3*most+3:Nat):Int))) (y:=.int 6) ?_ rfl).trans rfl
  refine(au (x:=.int num) (y:=.int ((3*most+3:Nat):Int)) rfl ?_).trans (qB num (by omega) (by omega))
  refine(au (x:=.int (3*(most:Int))) (y:=.int 3) ?_ rfl).trans rfl
  refine(au (x:=.int 3) (y:=.int most) rfl rfl).trans ?_
  show(if oG 3 (most:Int)then some (PV.int (3*(most:Int)))else none)=_
  rw[if_pos (Ce 3 (by omega))]
 have t:∃b,jd (tV (aa Bo (dV 2) (dC (.int 7)))) (tV (aa iu (aa gO (aa l9 (dV 4) (aa bQ (aa mR (dC (.int 3)) (dV 2)) (dC (.int 3)))) (dC (.int 6))) (dC (.int 1)))) [.sh (oN ns),.sh (.int a),.sh (.int most),.sh (.int c),.sh (.int num),.sh (.int sz),.un,.un,.un,.un]=some b:=by
  by_cases h7:(7:Int)<most
  ·rw[decide_eq_true h7]at t1
   exact⟨_,(kF t1).trans t2⟩
  ·rw[decide_eq_false h7]at t1
   exact⟨_,qy t1⟩
 obtain⟨b,t⟩:=t
 cases b
 ·
  have hk:=mod_lt num (n:=most+1) (by omega)
  have er:aa gO (dV 4) (aa bQ (dV 2) (dC (.int 1))) [.sh (oN ns),.sh (.int a),.sh (.int most),.sh (.int c),.sh (.int num),.sh (.int sz),.ow [],.un,.un,.un]=some (.int (((num %((most+1:Nat):Int)).toNat:Nat):Int)):=(au (x:=.int num) (y:=.int ((most+1:Nat):Int)) rfl rfl).trans (nv num (by omega))
  generalize(num %((most+1:Nat):Int)).toNat=n at er hk
  have key:∀(ks acc:List Nat) (s7 s8 s9:Slot),(∀g∈acc,g<2^c)->acc.length+ks.length<=200->∃l t7 t8 t9,(∀g∈l,g<2^c)/\l.length<=200/\forL (bh 7) (Sh.dF aw bu aq) (pl ks) [.sh (oN ns),.sh (.int a),.sh (.int most),.sh (.int c),.sh (.int num),.sh (.int sz),.ow (pl acc),s7,s8,s9]=some (.nx [.sh (oN ns),.sh (.int a),.sh (.int most),.sh (.int c),.sh (.int num),.sh (.int sz),.ow (pl l),t7,t8,t9]):=by
   intro ks
   induction ks with
   |nil=>exact λacc s7 s8 s9 h1 h2=>⟨acc,s7,s8,s9,h1,by simpa using h2,rfl⟩
   |cons k ks ih=>
    intro acc s7 s8 s9 h1 h2
    rw[List.length_cons]at h2
    obtain⟨g,t8,t9,hg,e⟩:=EM hC hM hH ns a most c num (.sh (.int sz)) hm c0 c6 acc (by omega) k s8 s9
    obtain⟨l,u7,u8,u9,h3,h4,e2⟩:=ih (acc++[g]) (.sh (.int k)) t8 t9 (λx hx=>by
     rcases List.mem_append.mp hx with hx|hx
     ·exact h1 x hx
     ·obtain rfl:x=g:=by simpa using hx
      exact hg) (by rw[List.length_append,List.length_singleton];omega)
    refine⟨l,u7,u8,u9,h3,h4,?_⟩
    rw[show pl (k::ks)=.int k::pl ks from rfl,lE]
    show((Sh.dF aw bu aq [.sh (oN ns),.sh (.int a),.sh (.int most),.sh (.int c),.sh (.int num),.sh (.int sz),.ow (pl acc),.sh (.int k),s8,s9]).bind _)=_
    rw[e]
    exact e2
  obtain⟨l,t7,t8,t9,h1,h2,e⟩:=key (List.range n) [] .un .un .un (by simp) (by rw[List.length_range];simp;omega)
  refine⟨l,h1,fB rfl ?_⟩
  refine(aE (bH e1)).trans ((aE (bH e2)).trans ((aE ((eB t).trans rfl)).trans ((aE (qx (l:=[]) rfl)).trans ?_)))
  refine(aE ((eK (kJ er (by omega))).trans e)).trans ?_
  refine(aE (ρ':=[.sh (oN ns),.sh (.int a),.sh (.int most),.sh (.int c),.sh (.int num),.sh (.int sz),.sh (ag l),t7,t8,t9]) rfl).trans ?_
  exact eL ((bj (ps:=[ag l]) rfl).trans (hM (λg hg=>Nat.lt_of_lt_of_le (h1 g hg) Mh) (by omega)))
 ·
  refine⟨(List.range (2^c)).filter λg=>decide ((Mt.bW g).length=sz),λg hg=>List.mem_range.mp (List.mem_filter.mp hg).1,fB rfl ?_⟩
  refine(aE (bH e1)).trans ((aE (bH e2)).trans (lF ((lY t).trans (eL ?_))))
  have dc:aT (cO (aa iN (dC (.int 1)) (dV 3))) (tV (aa iu (aZ bM (aG aq (ah (aO 0) aA))) (dV 6))) (aO 0) [.sh (oN ns),.sh (.int a),.sh (.int most),.sh (.int c),.sh (.int num),.sh (.int sz),.un,.un,.un,.un]=some (ag ((List.range (2^c)).filter λg=>decide ((Mt.bW g).length=sz))):=by
   refine oy (kJ (n:=2^c) ((au (x:=.int 1) (y:=.int c) rfl rfl).trans (jM c c6)) (by omega)) (by rw[List.length_range];omega) λg hg=>?_
   have RU:=List.mem_range.mp hg
   refine cj ((au (x:=.int ((Mt.bW g).length:Nat)) (y:=.int sz) ?_ rfl).trans (pC _ _))
   refine(d6 ((bj (ps:=[.int g]) rfl).trans (hH g (by omega)))).trans ?_
   show some (PV.int ((pl _).length:Nat))=_
   rw[c9]
  refine(bj (ps:=[ag ((List.range (2^c)).filter λg=>decide ((Mt.bW g).length=sz))]) ?_).trans (hM (λg hg=>?_) ?_)
  ·show((aT _ _ _ _).bind λx=>some [x])=_
   rw[dc]
   rfl
  ·exact Nat.lt_of_lt_of_le (List.mem_range.mp (List.mem_filter.mp hg).1) Mh
  ·have:=List.length_filter_le (λg=>decide ((Mt.bW g).length=sz)) (List.range (2^c))
   rw[List.length_range]at this
   omega
end
structure jN(c:Nat)(l:List Nat):Prop where
 lad:Mt.KI l
 lt:∀g∈l,g<2^c
theorem jN.len{c:Nat}{l:List Nat}(h:jN c l):l.length<=64:=h.lad.len
noncomputable abbrev Tz:=fn true 10 4 (Sh.hW RM RS OQ)
theorem Cf{c:Nat}(c6:c<=6){l:List Nat}(h:∀g∈l,g<2^c):jN c (Mt.wH l):=
 have lT:∀g∈l,g<64:=λg hg=>Nat.lt_of_lt_of_le (h g hg) (ij c6)
 ⟨Mt.EH lT,λg hg=>h g (Mt.EI lT hg)⟩
theorem HJ(ns:List Int)(a most c:Nat)(hm:most<=100)(c0:1<=c)(c6:c<=6):∃l,jN c l/\Tz [oN ns,.int a,.int most,.int c]=some (ag l):=by
 obtain⟨l,h,e⟩:=EN An Cd oo ns a most c hm c0 c6
 exact⟨_,Cf c6 h,e⟩
theorem yE{c:Nat}(c6:c<=6){l:List Nat}(h:∀g∈l,g<2^c):jN c (Mt.pZ (Ao l))/\∀g,Mt.lets (Mt.pZ (Ao l)) g=Mt.lets l g:=by
 have lT:∀g∈l,g<64:=λg hg=>Nat.lt_of_lt_of_le (h g hg) (ij c6)
 have cl:=EC lT
 refine⟨⟨cl.lad,λg hg=>h g ((iz l).mem_iff.mp (cl.mem g hg))⟩,λg=>?_⟩
 rw[cl.lets g]
 unfold Mt.lets
 rw[Bool.eq_iff_iff,List.any_eq_true,List.any_eq_true]
 exact⟨λ⟨r,h1,h2⟩=>⟨r,(iz l).mem_iff.mp h1,h2⟩,λ⟨r,h1,h2⟩=>⟨r,(iz l).mem_iff.mpr h1,h2⟩⟩
theorem jt{a:Den}{as:cu}{ρ:cg}{x:PV}{xs:List PV}(h1:a ρ=some x)(h2:as ρ=some xs):ah a as ρ=some (x::xs):=by
 unfold ah
 rw[h1,h2]
 rfl
noncomputable def rV(c:Nat):List Nat:=Ao (List.range (2^c))
theorem wJ{c g:Nat}:g∈rV c↔g<2^c:=by
 unfold rV
 rw[(iz _).mem_iff,List.mem_range]
theorem EO(c:Nat):(rV c).length=2^c:=by
 unfold rV
 rw[(iz _).length_eq,List.length_range]
noncomputable abbrev RV:=fn true 1 1 (Sh.iU OP)
theorem yF{F:List PV->Option PV}{c:Nat}(c6:c<=6):fn true 1 1 (Sh.iU F) [.int c]=some (ag (rV c)):=by
 have Mh:=ij c6
 refine ou rfl ?_
 refine wG (kJ (n:=2^c) ((au (x:=.int 1) (y:=.int c) rfl rfl).trans (jM c c6)) (by omega)) (λg hg=>?_) (by rw[List.length_range];omega)
 have:=List.mem_range.mp hg
 omega
theorem Cg{c:Nat}(c6:c<=6):RV [.int c]=some (ag (rV c)):=yF c6
noncomputable def meets(l:List Nat)(g:Nat):Bool:=l.all λr=>!decide ((g&&&r)=0)
theorem yG{l:List Nat}{x g:Nat}(s:Mt.sub x g=true)(h:meets l x=true):meets l g=true:=by
 unfold meets at h⊢
 rw[List.all_eq_true]at h⊢
 intro r hr
 have h1:=h r hr
 rw[Mt.zM]at s
 simp only[Bool.not_eq_true',decide_eq_false_iff_not]at h1⊢
 intro z
 apply h1
 rw[<-s,Nat.and_assoc,z,Nat.and_zero]
theorem Ci(bs:List Bool):G0 (.lst (bs.map PV.bl))=some (.bl (bs.all id)):=by
 show(bools (bs.map PV.bl)).map _=_
 rw[oq]
 rfl
theorem ER(l:List Nat)(g:Nat)(hl:l.length<=5000):fn false 2 2 Sh.hX [.int g,ag l]=some (.bl (meets l g)):=by
 have zl:(5000:Nat)<=sizeLine:=by decide
 refine ou rfl ?_
 have dc:=mj (it:=nList (dV 1)) (e:=aa dE (aa gP (dV 1) (dV 0)) (dC (.int 0))) (ρ:=[.sh (.int g),.sh (ag l)]) (l:=l) (f:=λr=>.bl (!decide ((g&&&r)=0))) rfl (by omega) (λr _=>
  (au (y:=.int (0:Nat)) ((au (x:=.int g) (y:=.int r) rfl rfl).trans (qA g r)) rfl).trans (Au _ _))
 refine(d6 dc).trans ?_
 have e:l.map (λr=>PV.bl (!decide ((g&&&r)=0)))=(l.map λr=>!decide ((g&&&r)=0)).map PV.bl:=by
  rw[List.map_map]
  rfl
 rw[e,Ci]
 unfold meets
 rw[List.all_map]
 rfl
section
variable{hZ cV cD:List PV->Option PV}(hL:∀{l:List Nat},(∀g∈l,g<64)->l.length<=5000->hZ [ag l]=some (ag (Mt.pZ (Ao l))))
 (hG:∀{c:Nat},c<=6->cV [.int c]=some (ag (rV c)))(hE:∀(l:List Nat) (g:Nat),l.length<=5000->cD [.int g,ag l]=some (.bl (meets l g)))
include hL hG hE
theorem uV{c:Nat}(c6:c<=6){l:List Nat}(n:l.length<=64):∃r,jN c r/\(∀g,g<2^c->Mt.lets r g=meets l g)/\fn true 2 2 (Sh.jL hZ cV cD) [.int c,ag l]=some (ag r):=by
 have zl:(5000:Nat)<=sizeLine:=by decide
 have Mh:=ij c6
 have gl:=EO c
 have fF:∀g∈(rV c).filter (meets l),g<2^c:=λg hg=>wJ.mp (List.mem_filter.mp hg).1
 obtain⟨q1,q2⟩:=yE c6 fF
 refine⟨_,q1,λg hg=>?_,ou rfl ?_⟩
 ·rw[q2,Bool.eq_iff_iff,Mt.fJ]
  constructor
  ·rintro⟨x,hx,s⟩
   exact yG s (List.mem_filter.mp hx).2
  ·intro h
   exact⟨g,List.mem_filter.mpr ⟨wJ.mpr hg,h⟩,Mt.pY g⟩
 ·have dc:aT (nList (aG cV (ah (aO 0) aA))) (tV (aG cD (ah (aO 0) (ah (aO 2) aA)))) (aO 0) [.sh (.int c),.sh (ag l)]=some (ag ((rV c).filter (meets l))):=
    oy (cQ ((bj (ps:=[.int c]) rfl).trans (hG c6))) (by omega) λg hg=>cj ((bj (ps:=[.int g,ag l]) rfl).trans (hE l g (by omega)))
  refine(bj (jt dc rfl)).trans (hL (λg hg=>Nat.lt_of_lt_of_le (fF g hg) Mh) ?_)
  have:=List.length_filter_le (meets l) (rV c)
  omega
end
noncomputable abbrev TB:=fn false 2 2 Sh.hX
noncomputable abbrev TC:=fn true 2 2 (Sh.jL RO RV TB)
theorem wK{c:Nat}(c6:c<=6){l:List Nat}(n:l.length<=64):∃r,jN c r/\(∀g,g<2^c->Mt.lets r g=meets l g)/\TC [.int c,ag l]=some (ag r):=uV EB Cg ER c6 n
theorem ES:Mt.zL (λr g=>(List.range 7).all λc=>!(decide (r<2^c)&&decide (g<2^c))||(decide (((2^c-1-g)&&&r)=0)==Mt.sub r g))=true:=by decide+kernel
theorem qC{c r g:Nat}(c6:c<=6)(hr:r<2^c)(hg:g<2^c):decide (((2^c-1-g)&&&r)=0)=Mt.sub r g:=by
 have Mh:=ij c6
 have:=Mt.pW ES (a:=r) (b:=g) (by omega) (by omega)
 have:=List.all_eq_true.mp this c (List.mem_range.mpr (by omega))
 rw[decide_eq_true hr,decide_eq_true hg]at this
 simpa using this
theorem qD{c:Nat}(c6:c<=6){l:List Nat}(h:jN c l){g:Nat}(hg:g<2^c):meets l (2^c-1-g)=!Mt.lets l g:=by
 have key:∀m:List Nat,(∀r∈m,r<2^c)->(m.all λr=>!decide (((2^c-1-g)&&&r)=0))=!(m.any λr=>Mt.sub r g):=by
  intro m
  induction m with
  |nil=>exact λ_=>rfl
  |cons r m ih=>
   intro hm
   rw[List.all_cons,List.any_cons,ih λx hx=>hm x (List.mem_cons_of_mem _ hx),qC c6 (hm r (List.mem_cons_self ..)) hg,Bool.not_or]
 exact key l h.lt
noncomputable def bit(g h:Nat):Nat:=(g/2^h)&&&1
theorem ET(g h:Nat):p7 (.int g) (.int h)=some (.int ((g/2^h:Nat):Int)):=by
 show(if decide (0<=(h:Int))then some (PV.int ((g:Int)/2^(h:Int).toNat))else none)=_
 rw[if_pos (decide_eq_true (by omega)),Int.toNat_natCast]
 congr 2
theorem Av{A B:Den}{ρ:cg}{g h:Nat}(hA:A ρ=some (.int g))(hB:B ρ=some (.int h))(k:Nat):aa iu (aa gP (aa p7 A B) (dC (.int 1))) (dC (.int k)) ρ=some (.bl (decide (bit g h=k))):=by
 refine(au (y:=.int k) ((au (y:=.int (1:Nat)) ((au hA hB).trans (ET g h)) rfl).trans (qA _ _)) rfl).trans (pC _ _)
theorem yH(g h:Nat):RK [.int g,.int h]=some (.bl (decide (bit g h=1))):=ou rfl (Av (A:=dV 0) (B:=dV 1) rfl rfl 1)
theorem Cj(f:Nat->Nat)(l:List Nat):PV.lst (l.map λn=>PV.int (f n:Nat))=ag (l.map f):=by
 unfold ag
 rw[List.map_map]
 rfl
end L2.D
namespace Sx
noncomputable def sm:Nat->(Nat->Int)->Int
 |0,_=>0
 |n+1,f=>sm n f+f n
theorem a8{f g:Nat->Int}:∀{n:Nat},(∀i,i<n->f i=g i)->sm n f=sm n g
 |0,_=>rfl
 |n+1,h=>by
  show sm n f+f n=sm n g+g n
  rw[a8 λi hi=>h i (by omega),h n (by omega)]
theorem iV{f:Nat->Int}{n:Nat}(h:∀i,i<n->f i=0):sm n f=0:=by
 induction n with
 |zero=>rfl
 |succ n ih=>
  show sm n f+f n=0
  rw[ih λi hi=>h i (by omega),h n (by omega)]
  rfl
theorem oz(a b:Int)(f g:Nat->Int):∀n:Nat,sm n (λi=>a*f i+b*g i)=a*sm n f+b*sm n g
 |0=>by show(0:Int)=a*0+b*0;rw[Int.mul_zero,Int.mul_zero];rfl
 |n+1=>by
  show sm n (λi=>a*f i+b*g i)+(a*f n+b*g n)=a*(sm n f+f n)+b*(sm n g+g n)
  rw[oz a b f g n,Int.mul_add,Int.mul_add]
  omega
theorem kK(a:Int)(f:Nat->Int)(n:Nat):sm n (λi=>a*f i)=a*sm n f:=by
 have:=oz a 0 f f n
 simp only[Int.zero_mul,Int.add_zero]at this
 exact this
theorem uW(f g:Nat->Int)(n:Nat):sm n (λi=>f i+g i)=sm n f+sm n g:=by
 have:=oz 1 1 f g n
 simp only[Int.one_mul]at this
 exact this
theorem qE(f:Nat->Int)(n:Nat):sm n (λi=>-f i)=-sm n f:=by
 have:=kK (-1) f n
 simp only[Int.neg_mul,Int.one_mul]at this
 exact this
theorem gC{f:Nat->Int}{n k:Nat}(hk:k<n)(h:∀i,i<n->i≠k->f i=0):sm n f=f k:=by
 induction n with
 |zero=>omega
 |succ n ih=>
  show sm n f+f n=f k
  by_cases PR:k=n
  ·subst PR
   rw[iV λi hi=>h i (by omega) (by omega),Int.zero_add]
  ·rw[ih (by omega) λi hi=>h i (by omega),h n (by omega) (Ne.symm PR),Int.add_zero]
theorem oA{f:Nat->Int}:∀{n:Nat},(∀i,i<n->0<=f i)->0<=sm n f
 |0,_=>Int.le_refl _
 |n+1,h=>Int.add_nonneg (oA λi hi=>h i (by omega)) (h n (by omega))
theorem yI{f:Nat->Int}:∀{n:Nat},0<sm n f->∃i,i<n/\0<f i
 |0,h=>absurd h (by show¬(0:Int)<0;decide)
 |n+1,h=>by
  by_cases hn:0<f n
  ·exact⟨n,by omega,hn⟩
  ·have h':0<sm n f+f n:=h
   obtain⟨i,h1,h2⟩:=yI (n:=n) (f:=f) (by omega)
   exact⟨i,by omega,h2⟩
theorem uX(f:Nat->Nat->Int)(m:Nat):∀n:Nat,sm n (λi=>sm m λj=>f i j)=sm m λj=>sm n λi=>f i j
 |0=>by
  show(0:Int)=_
  rw[iV]
  intro i _
  rfl
 |n+1=>by
  show sm n (λi=>sm m λj=>f i j)+sm m (λj=>f n j)=sm m λj=>(sm n λi=>f i j)+f n j
  rw[uX f m n,uW]
noncomputable def skip(t s:Nat):Nat:=if s<t then s else s+1
noncomputable def sg(t:Nat):Int:=if t % 2=0 then 1 else-1
theorem HK(t:Nat):sg (t+1)=-sg t:=by
 unfold sg
 by_cases h:t % 2=0
 ·rw[if_pos h,if_neg (by omega)]
 ·rw[if_neg h,if_pos (by omega)]
  rfl
noncomputable def D:Nat->(Nat->Nat->Int)->Int
 |0,_=>1
 |M+1,c=>sm (M+1) λt=>sg t*(c 0 t*D M λk s=>c (k+1) (skip t s))
noncomputable abbrev dk:=Nat->Nat->Int
noncomputable def up(c:dk)(k:Nat)(v:Nat->Int):dk:=λj=>if j=k then v else c j
theorem fe(c:dk)(k:Nat)(v:Nat->Int):up c k v k=v:=if_pos rfl
theorem iW(c:dk){k j:Nat}(v:Nat->Int)(h:j≠k):up c k v j=c j:=if_neg h
theorem iX(c:dk)(k:Nat):up c k (c k)=c:=by
 funext j
 unfold up
 split
 ·rename_i h;rw[h]
 ·rfl
theorem NX(c:dk)(k:Nat)(v w:Nat->Int):up (up c k v) k w=up c k w:=by
 funext j
 unfold up
 split<;>rfl
theorem eM(c:dk){k j:Nat}(v w:Nat->Int)(h:k≠j):up (up c k v) j w=up (up c j w) k v:=by
 funext i
 unfold up
 by_cases h1:i=j
 ·rw[if_pos h1,if_neg (by omega),if_pos h1]
 ·rw[if_neg h1]
  by_cases h2:i=k
  ·rw[if_pos h2,if_pos h2]
  ·rw[if_neg h2,if_neg h2,if_neg h1]
theorem ny:∀{M:Nat} {c c':dk},(∀k s,k<M->s<M->c k s=c' k s)->D M c=D M c'
 |0,_,_,_=>rfl
 |M+1,c,c',h=>by
  refine a8 λt ht=>?_
  rw[h 0 t (by omega) ht,ny (M:=M) λk s hk hs=>h (k+1) (skip t s) (by omega) (by unfold skip;split<;>omega)]
theorem qF(c:dk)(k t:Nat)(v:Nat->Int):(λj s=>up c (k+1) v (j+1) (skip t s))=up (λj s=>c (j+1) (skip t s)) k (λs=>v (skip t s)):=by
 funext j s
 unfold up
 by_cases h:j=k
 ·rw[if_pos (by omega),if_pos h]
 ·rw[if_neg (by omega),if_neg h]
theorem lZ(a b:Int)(u w:Nat->Int):∀{M k:Nat} (c:dk),k<M->D M (up c k λs=>a*u s+b*w s)=a*D M (up c k u)+b*D M (up c k w)
 |0,k,c,h=>by omega
 |M+1,0,c,h=>by
  show sm (M+1) _=a*sm (M+1) _+b*sm (M+1) _
  rw[<-oz]
  refine a8 λt ht=>?_
  have e:∀v:Nat->Int,(λk s=>up c 0 v (k+1) (skip t s))=λk s=>c (k+1) (skip t s):=λv=>by
   funext k s
   rw[iW _ _ (by omega)]
  rw[fe,fe,fe,e,e,e]
  generalize D M (λk s=>c (k+1) (skip t s))=x
  rw[Int.add_mul,Int.mul_add,Int.mul_assoc,Int.mul_assoc,Int.mul_left_comm,Int.mul_left_comm (sg t) b]
 |M+1,k+1,c,h=>by
  show sm (M+1) _=a*sm (M+1) _+b*sm (M+1) _
  rw[<-oz]
  refine a8 λt ht=>?_
  rw[qF,qF,qF,lZ a b (λs=>u (skip t s)) (λs=>w (skip t s)) _ (by omega),iW _ _ (by omega),iW _ _ (by omega),iW _ _ (by omega)]
  generalize c 0 t=y
  generalize D M (up (λj s=>c (j+1) (skip t s)) k λs=>u (skip t s))=p
  generalize D M (up (λj s=>c (j+1) (skip t s)) k λs=>w (skip t s))=q
  rw[Int.mul_add,Int.mul_add,Int.mul_left_comm y a p,Int.mul_left_comm (sg t) a,Int.mul_left_comm y b q,Int.mul_left_comm (sg t) b]
theorem RX:∀(N:Nat) (g:Nat->Nat->Int),(∀t s,t<=s->g t s=-g (s+1) t)->sm (N+1) (λt=>sm N λs=>g t s)=0
 |0,g,h=>rfl
 |N+1,g,h=>by
  show sm (N+1) (λt=>sm N (λs=>g t s)+g t N)+sm (N+1) (λs=>g (N+1) s)=0
  rw[uW,RX N g h,Int.zero_add]
  have:sm (N+1) (λt=>g t N)=-sm (N+1) (λs=>g (N+1) s):=by
   rw[<-qE]
   exact a8 λt ht=>h t N (by omega)
  omega
theorem Ck{t s:Nat}(h:t<=s)(u:Nat):skip t (skip s u)=skip (s+1) (skip t u):=by
 unfold skip
 by_cases h1:u<t
 ·rw[if_pos (show u<s by omega),if_pos h1,if_pos (by omega)]
 ·rw[if_neg h1]
  by_cases h2:u<s
  ·rw[if_pos h2,if_neg h1,if_pos (by omega)]
  ·rw[if_neg h2,if_neg (by omega),if_neg (by omega)]
theorem EU:∀{M k:Nat} {c:dk},k+1<M->c k=c (k+1)->D M c=0
 |0,_,_,h,_=>by omega
 |1,_,_,h,_=>by omega
 |N+2,0,c,h,e=>by
  show sm (N+2) (λt=>sg t*(c 0 t*sm (N+1) λs=>sg s*(c 1 (skip t s)*D N λk u=>c (k+2) (skip t (skip s u)))))=0
  have:=RX (N+1) (λt s=>sg t*(c 0 t*(sg s*(c 1 (skip t s)*D N λk u=>c (k+2) (skip t (skip s u)))))) (λt s TF=>by
   have e1:skip t s=s+1:=if_neg (by omega)
   have e2:skip (s+1) t=t:=if_pos (by omega)
   have e3:(λk u=>c (k+2) (skip t (skip s u)))=λk u=>c (k+2) (skip (s+1) (skip t u)):=by
    funext k u
    rw[Ck TF]
   show sg t*(c 0 t*(sg s*(c 1 (skip t s)*_)))=-(sg (s+1)*(c 0 (s+1)*(sg t*(c 1 (skip (s+1) t)*_))))
   rw[e1,e2,e3,HK,<-e]
   generalize D N (λk u=>c (k+2) (skip (s+1) (skip t u)))=x
   generalize c 0 t=y
   generalize c 0 (s+1)=z
   rw[Int.neg_mul,Int.neg_neg,Int.mul_left_comm z,Int.mul_left_comm (sg s) (sg t),Int.mul_left_comm y (sg s),Int.mul_left_comm z y,Int.mul_left_comm y z])
  rw[<-this]
  refine a8 λt ht=>?_
  rw[<-kK,<-kK]
 |N+2,k+1,c,h,e=>by
  show sm (N+2) _=0
  refine iV λt ht=>?_
  rw[EU (M:=N+1) (k:=k) (by omega),Int.mul_zero,Int.mul_zero]
  funext s
  show c (k+1) (skip t s)=c (k+1+1) (skip t s)
  rw[e]
theorem Lw{M k:Nat}(c:dk)(u w:Nat->Int)(h:k+1<M):D M (up (up c k u) (k+1) w)=-D M (up (up c k w) (k+1) u):=by
 have z:∀x:Nat->Int,D M (up (up c k x) (k+1) x)=0:=λx=>EU h (by rw[iW _ _ (by omega),fe,fe])
 have hs:=z λs=>1*u s+1*w s
 rw[lZ 1 1 u w _ h]at hs
 rw[eM _ _ _ (by omega),eM c (k:=k) (j:=k+1) _ w (by omega),lZ 1 1 u w _ (by omega),lZ 1 1 u w _ (by omega)]at hs
 rw[eM c (k:=k+1) (j:=k) u u (by omega),eM c (k:=k+1) (j:=k) u w (by omega),eM c (k:=k+1) (j:=k) w u (by omega),eM c (k:=k+1) (j:=k) w w (by omega),z u,z w]at hs
 omega
theorem yJ{M:Nat}:∀(n:Nat) {i:Nat} {c:dk},i+n+1<M->c i=c (i+n+1)->D M c=0
 |0,i,c,h,e=>EU h e
 |n+1,i,c,h,e=>by
  have e2:c=up (up c (i+n+1) (c (i+n+1))) (i+n+1+1) (c (i+n+1+1)):=by
   rw[iX,iX]
  rw[e2,Lw c _ _ (by omega),yJ n (i:=i) (by omega),Int.neg_zero]
  rw[iW _ _ (by omega),iW _ _ (by omega),iW _ _ (by omega),fe]
  exact e
theorem HL{M i j:Nat}{c:dk}(hi:i<M)(hj:j<M)(h:i≠j)(e:c i=c j):D M c=0:=by
 by_cases CK:i<j
 ·exact yJ (j-i-1) (i:=i) (by omega) (by rw[show i+(j-i-1)+1=j by omega];exact e)
 ·exact yJ (i-j-1) (i:=j) (by omega) (by rw[show j+(i-j-1)+1=i by omega];exact e.symm)
theorem Lx{M i j:Nat}(c:dk)(u w:Nat->Int)(hi:i<M)(hj:j<M)(h:i≠j):D M (up (up c i u) j w)=-D M (up (up c i w) j u):=by
 have z:∀x:Nat->Int,D M (up (up c i x) j x)=0:=λx=>HL hi hj h (by rw[iW _ _ h,fe,fe])
 have hs:=z λs=>1*u s+1*w s
 rw[lZ 1 1 u w _ hj]at hs
 rw[eM _ _ _ h,eM c (k:=i) (j:=j) _ w h,lZ 1 1 u w _ hi,lZ 1 1 u w _ hi]at hs
 rw[eM c (k:=j) (j:=i) u u (Ne.symm h),eM c (k:=j) (j:=i) u w (Ne.symm h),eM c (k:=j) (j:=i) w u (Ne.symm h),eM c (k:=j) (j:=i) w w (Ne.symm h),z u,z w]at hs
 omega
theorem Ly:∀M:Nat,D M (λk s=>if k=s then 1 else 0)=1
 |0=>rfl
 |M+1=>by
  show sm (M+1) _=1
  rw[gC (k:=0) (by omega) λt ht h0=>?_]
  ·have:(λk s=>if k+1=skip 0 s then(1:Int)else 0)=λk s=>if k=s then 1 else 0:=by
     funext k s
     have:skip 0 s=s+1:=if_neg (by omega)
     rw[this]
     by_cases h:k=s
     ·rw[if_pos h,if_pos (by omega)]
     ·rw[if_neg h,if_neg (by omega)]
   show sg 0*((if 0=0 then 1 else 0)*D M (λk s=>if k+1=skip 0 s then(1:Int)else 0))=1
   rw[this,Ly M]
   rfl
  ·show sg t*((if 0=t then 1 else 0)*_)=0
   rw[if_neg (Ne.symm h0),Int.zero_mul,Int.mul_zero]
noncomputable def fact:Nat->Nat
 |0=>1
 |n+1=>(n+1)*fact n
theorem EV{f:Nat->Int}{b:Nat}:∀{n:Nat},(∀i,i<n->(f i).natAbs<=b)->(sm n f).natAbs<=n*b
 |0,_=>by show(0:Int).natAbs<=_;simp
 |n+1,h=>by
  have h1:=EV (n:=n) λi hi=>h i (by omega)
  have h2:=h n (by omega)
  show(sm n f+f n).natAbs<=(n+1)*b
  have:=Int.natAbs_add_le (sm n f) (f n)
  rw[Nat.succ_mul]
  omega
theorem EW:∀{M:Nat} {c:dk},(∀k s,k<M->s<M->(c k s).natAbs<=1)->(D M c).natAbs<=fact M
 |0,_,_=>by show(1:Int).natAbs<=1;decide
 |M+1,c,h=>by
  refine EV λt ht=>?_
  rw[Int.natAbs_mul,Int.natAbs_mul]
  have h1:(sg t).natAbs=1:=by unfold sg;split<;>rfl
  have h2:=h 0 t (by omega) ht
  have h3:=EW (M:=M) (c:=λk s=>c (k+1) (skip t s)) λk s hk hs=>h (k+1) (skip t s) (by omega) (by unfold skip;split<;>omega)
  rw[h1,Nat.one_mul]
  calc(c 0 t).natAbs*_<=1*fact M:=Nat.mul_le_mul h2 h3
   _=fact M:=Nat.one_mul _
theorem Lz{f:Nat->Int}{n i j:Nat}(hi:i<n)(hj:j<n)(CK:i≠j)(h:∀k,k<n->k≠i->k≠j->f k=0):sm n f=f i+f j:=by
 have e:sm n f=sm n (λk=>(if k=i then f i else 0)+(if k=j then f j else 0)):=a8 λk hk=>by
  by_cases h1:k=i
  ·rw[if_pos h1,if_neg (by omega),h1,Int.add_zero]
  ·rw[if_neg h1]
   by_cases h2:k=j
   ·rw[if_pos h2,h2,Int.zero_add]
   ·rw[if_neg h2,h k hk h1 h2]
    rfl
 rw[e,uW,gC (k:=i) hi (λk _ hk=>if_neg hk),gC (k:=j) hj (λk _ hk=>if_neg hk),if_pos rfl,if_pos rfl]
theorem Jm{M k:Nat}(c:dk)(hk:k<M)(a:Nat->Int)(u:Nat->Nat->Int):∀n:Nat,D M (up c k λs=>sm n λt=>a t*u t s)=sm n λt=>a t*D M (up c k (u t))
 |0=>by
  show D M (up c k λs=>0)=0
  have:=lZ (M:=M) 0 0 (λ_=>0) (λ_=>0) c hk
  have z:(λ_:Nat=>(0:Int)*0+0*0)=λ_=>0:=rfl
  rw[z]at this
  rw[this]
  generalize D M (up c k λ_=>0)=x
  omega
 |n+1=>by
  show D M (up c k λs=>(sm n λt=>a t*u t s)+a n*u n s)=(sm n λt=>a t*D M (up c k (u t)))+a n*D M (up c k (u n))
  have:=lZ 1 (a n) (λs=>sm n λt=>a t*u t s) (u n) c hk
  rw[Int.one_mul,Jm c hk a u n]at this
  rw[<-this]
  refine ny λj s _ _=>?_
  unfold up
  split
  ·show _=1*_+_
   rw[Int.one_mul]
  ·rfl
theorem HN{M k:Nat}(c:dk)(hk:k<M){d:Int}{x:Nat->Int}{n:Nat}(a:Nat->Int)(u:Nat->Nat->Int)(h:∀s,s<M->(sm n λt=>a t*u t s)=d*x s):d*D M (up c k x)=sm n λt=>a t*D M (up c k (u t)):=by
 rw[<-Jm c hk]
 have:=lZ d 0 x x c hk
 rw[Int.zero_mul,Int.add_zero]at this
 rw[<-this]
 refine ny λj s _ hs=>?_
 unfold up
 split
 ·show d*x s+0*x s=sm n λt=>a t*u t s
  rw[h s hs,Int.zero_mul,Int.add_zero]
 ·rfl
section
variable(A:dk)(m:Nat)
noncomputable def cE:Nat->Int:=λs=>if s=m then 1 else 0
noncomputable def eG(sol:Nat->Nat):dk:=λk=>if k<m then A (sol k)else cE m
noncomputable def dt(sol:Nat->Nat):Int:=D (m+1) (eG A m sol)
noncomputable def T(sol:Nat->Nat)(i j:Nat):Int:=D (m+1) (up (eG A m sol) i (A j))
structure Tab(sol:Nat->Nat):Prop where
 pos:0<dt A m sol
 eqs:∀j s,s<=m->(sm (m+1) λk=>T A m sol k j*eG A m sol k s)=dt A m sol*A j s
noncomputable def jz(sol:Nat->Nat)(r c:Nat):Nat->Nat:=λk=>if k=r then c else sol k
end
section
variable{A:dk}{m:Nat}{sol:Nat->Nat}{r c:Nat}
theorem nA(hr:r<m):eG A m (jz sol r c)=up (eG A m sol) r (A c):=by
 funext k
 unfold eG jz up
 by_cases h:k=r
 ·rw[if_pos (by omega),if_pos h,if_pos h]
 ·rw[if_neg h,if_neg h]
theorem uY(hr:r<m):dt A m (jz sol r c)=T A m sol r c:=by
 unfold dt
 rw[nA hr]
 rfl
theorem Aw(hr:r<m)(j:Nat):T A m (jz sol r c) r j=T A m sol r j:=by
 unfold T
 rw[nA hr,NX]
theorem nB(X:Tab A m sol)(hr:r<m){i:Nat}(hi:i<=m)(NY:i≠r)(j:Nat):dt A m sol*T A m (jz sol r c) i j=T A m sol i j*T A m sol r c-T A m sol i c*T A m sol r j:=by
 have e:=HN (M:=m+1) (k:=i) (up (eG A m sol) r (A c)) (by omega) (d:=dt A m sol) (x:=A j) (n:=m+1) (λk=>T A m sol k j) (λk=>eG A m sol k) (λs hs=>X.eqs j s (by omega))
 unfold T at e⊢
 rw[nA hr,e,Lz (i:=i) (j:=r) (by omega) (by omega) NY]
 ·have e1:up (up (eG A m sol) r (A c)) i (eG A m sol i)=up (eG A m sol) r (A c):=by
    rw[eM _ _ _ (Ne.symm NY),iX]
  have e2:D (m+1) (up (up (eG A m sol) r (A c)) i (eG A m sol r))=-D (m+1) (up (eG A m sol) i (A c)):=by
   rw[Lx (eG A m sol) (A c) (eG A m sol r) (by omega) (by omega) (Ne.symm NY),iX]
  show D (m+1) (up (eG A m sol) i (A j))*D (m+1) (up (up (eG A m sol) r (A c)) i (eG A m sol i))+D (m+1) (up (eG A m sol) r (A j))*D (m+1) (up (up (eG A m sol) r (A c)) i (eG A m sol r))=_
  rw[e1,e2,Int.mul_neg,Int.mul_comm (D (m+1) (up (eG A m sol) r (A j)))]
  rfl
 ·intro k hk h1 h2
  have z:D (m+1) (up (up (eG A m sol) r (A c)) i (eG A m sol k))=0:=HL (i:=i) (j:=k) (by omega) hk (Ne.symm h1) (by rw[fe,iW _ _ h1,iW _ _ h2])
  show _*D (m+1) (up (up (eG A m sol) r (A c)) i (eG A m sol k))=0
  rw[z,Int.mul_zero]
theorem HP(X:Tab A m sol)(hr:r<m)(hp:0<T A m sol r c):Tab A m (jz sol r c):=by
 refine⟨by rw[uY hr];exact hp,λj s hs=>?_⟩
 have hd:dt A m sol≠0:=by have:=X.pos;omega
 refine Int.eq_of_mul_eq_mul_left hd ?_
 rw[uY hr,<-kK]
 have f:∀k,k<m+1->dt A m sol*(T A m (jz sol r c) k j*eG A m (jz sol r c) k s)=(T A m sol r c*(T A m sol k j*eG A m sol k s)+-T A m sol r j*(T A m sol k c*eG A m sol k s))+(if k=r then T A m sol r j*(dt A m sol*A c s)else 0):=λk hk=>by
  by_cases h:k=r
  ·subst h
   rw[Aw hr,if_pos rfl,nA hr,fe]
   generalize T A m sol k c=x
   generalize T A m sol k j=y
   generalize eG A m sol k s=z
   generalize A c s=w
   generalize dt A m sol=d
   rw[Int.neg_mul,Int.mul_left_comm x y z,Int.add_right_neg,Int.zero_add,Int.mul_left_comm]
  ·rw[if_neg h,Int.add_zero,nA hr,iW _ _ h,<-Int.mul_assoc,nB X hr (by omega) h,Int.sub_mul,Int.neg_mul]
   generalize T A m sol k j=x
   generalize T A m sol r c=y
   generalize T A m sol k c=z
   generalize T A m sol r j=w
   generalize eG A m sol k s=v
   rw[Int.mul_comm x y,Int.mul_assoc,Int.mul_comm z w,Int.mul_assoc]
   omega
 rw[a8 f,uW,oz,X.eqs j s hs,X.eqs c s hs,gC (k:=r) (by omega) (λk _ hk=>if_neg hk),if_pos rfl]
 generalize T A m sol r c=x
 generalize T A m sol r j=y
 generalize dt A m sol=d
 generalize A j s=u
 generalize A c s=w
 rw[Int.neg_mul,Int.mul_left_comm x d u]
 omega
theorem Ax{i k:Nat}(hi:i<=m)(hk:k<m)(h:i≠k):T A m sol i (sol k)=0:=by
 unfold T
 refine HL (i:=i) (j:=k) (by omega) (by omega) h ?_
 rw[fe,iW _ _ (Ne.symm h)]
 unfold eG
 rw[if_pos hk]
theorem LA{k:Nat}(hk:k<m):T A m sol k (sol k)=dt A m sol:=by
 unfold T dt
 have:A (sol k)=eG A m sol k:=by unfold eG;rw[if_pos hk]
 rw[this,iX]
theorem oX(X:Tab A m sol)(y:Nat->Int)(j:Nat):dt A m sol*(sm (m+1) λs=>y s*A j s)=(sm m λk=>T A m sol k j*sm (m+1) λs=>y s*A (sol k) s)+T A m sol m j*y m:=by
 have e:dt A m sol*(sm (m+1) λs=>y s*A j s)=sm (m+1) λk=>T A m sol k j*sm (m+1) λs=>y s*eG A m sol k s:=by
  rw[<-kK]
  have:sm (m+1) (λs=>dt A m sol*(y s*A j s))=sm (m+1) λs=>sm (m+1) λk=>y s*(T A m sol k j*eG A m sol k s):=a8 λs hs=>by
   rw[Int.mul_left_comm,<-X.eqs j s (by omega),<-kK]
  rw[this,uX]
  refine a8 λk hk=>?_
  rw[<-kK]
  exact a8 λs hs=>Int.mul_left_comm _ _ _
 rw[e]
 show sm m _+T A m sol m j*_=_
 congr 1
 ·refine a8 λk hk=>?_
  congr 1
  refine a8 λs hs=>?_
  unfold eG
  rw[if_pos hk]
 ·congr 1
  rw[gC (k:=m) (by omega)]
  ·unfold eG cE
   rw[if_neg (by omega),if_pos rfl,Int.mul_one]
  ·intro s hs h
   unfold eG cE
   rw[if_neg (by omega),if_neg h,Int.mul_zero]
theorem NZ(X:Tab A m sol){sol':Nat->Nat}(j:Nat):dt A m sol*T A m sol' m j=(sm m λk=>T A m sol k j*T A m sol' m (sol k))+T A m sol m j*dt A m sol':=by
 have e:=HN (M:=m+1) (k:=m) (eG A m sol') (by omega) (d:=dt A m sol) (x:=A j) (n:=m+1) (λk=>T A m sol k j) (λk=>eG A m sol k) (λs hs=>X.eqs j s (by omega))
 unfold T at e⊢
 rw[e]
 show sm m _+_*D (m+1) (up (eG A m sol') m (eG A m sol m))=_
 congr 1
 ·refine a8 λk hk=>?_
  have:eG A m sol k=A (sol k):=by unfold eG;rw[if_pos hk]
  rw[this]
 ·have:eG A m sol m=eG A m sol' m:=by unfold eG;rw[if_neg (by omega),if_neg (by omega)]
  rw[this,iX]
  rfl
end
theorem LB{M k:Nat}(hk:k<M)(v:Nat->Int):D M (up (λk s=>if k=s then 1 else 0) k v)=v k:=by
 have e:=HN (M:=M) (k:=k) (λk s=>if k=s then 1 else 0) hk (d:=1) (x:=v) (n:=M) v (λt s=>if t=s then 1 else 0) (λs hs=>by
  rw[gC (k:=s) hs λt _ ht=>by rw[if_neg ht,Int.mul_zero],if_pos rfl,Int.mul_one,Int.one_mul])
 rw[Int.one_mul]at e
 rw[e,gC (k:=k) hk]
 ·have:=iX (λk s=>if k=s then(1:Int)else 0) k
  rw[this,Ly,Int.mul_one]
 ·intro t ht h
  rw[HL (i:=k) (j:=t) hk ht (Ne.symm h) (by rw[fe,iW _ _ h]),Int.mul_zero]
theorem Cm{A:dk}{m N:Nat}(h:∀k s,k<m->s<=m->A (N+k) s=if k=s then 1 else 0):Tab A m (λk=>N+k)/\dt A m (λk=>N+k)=1/\∀i j,i<=m->T A m (λk=>N+k) i j=A j i:=by
 have hb:∀k s,k<m+1->s<m+1->eG A m (λk=>N+k) k s=if k=s then 1 else 0:=λk s hk hs=>by
  unfold eG
  by_cases QL:k<m
  ·rw[if_pos QL]
   exact h k s QL (by omega)
  ·rw[if_neg QL]
   unfold cE
   by_cases e:s=m
   ·rw[if_pos e,if_pos (by omega)]
   ·rw[if_neg e,if_neg (by omega)]
 have hd:dt A m (λk=>N+k)=1:=by
  unfold dt
  rw[ny hb,Ly]
 have hT:∀i j,i<=m->T A m (λk=>N+k) i j=A j i:=λi j hi=>by
  unfold T
  rw[ny (c':=up (λk s=>if k=s then 1 else 0) i (A j)) λk s hk hs=>?_,LB (by omega)]
  unfold up
  split
  ·rfl
  ·exact hb k s hk hs
 refine⟨⟨by rw[hd];decide,λj s hs=>?_⟩,hd,hT⟩
 rw[hd,Int.one_mul,gC (k:=s) (by omega)]
 ·rw[hT s j hs,hb s s (by omega) (by omega),if_pos rfl,Int.mul_one]
 ·intro k hk F6
  rw[hb k s hk (by omega),if_neg F6,Int.mul_zero]
theorem qG{a b:Int}(ha:0<a)(h:0<a*b):0<b:=by
 rcases Int.lt_or_le 0 b with hb|hb
 ·exact hb
 ·have:=Int.mul_le_mul_of_nonneg_left hb (Int.le_of_lt ha)
  rw[Int.mul_zero]at this
  omega
theorem rW{a b:Int}(ha:0<a)(h:0<=a*b):0<=b:=by
 rcases Int.lt_or_le b 0 with hb|hb
 ·have:=Int.mul_lt_mul_of_pos_left hb ha
  rw[Int.mul_zero]at this
  omega
 ·exact hb
theorem oO{a b:Int}(ha:0<a)(h:a*b=0):b=0:=by
 rcases Int.mul_eq_zero.mp h with h|h
 ·omega
 ·exact h
theorem N1{za da zt d zn dn:Int}(h1:za*d<=zt*da)(h2:zt*dn<d*zn)(h3:zn*da<=za*dn)(hd:0<d)(ha:0<da)(hn:0<dn):False:=by
 have e1:=Int.mul_le_mul_of_nonneg_right h1 (Int.le_of_lt hn)
 have e2:=Int.mul_lt_mul_of_pos_right h2 ha
 have e3:=Int.mul_le_mul_of_nonneg_left h3 (Int.le_of_lt hd)
 have r1:zt*da*dn=zt*dn*da:=Int.mul_right_comm _ _ _
 have r2:d*zn*da=d*(zn*da):=Int.mul_assoc _ _ _
 have r3:d*(za*dn)=za*d*dn:=by rw[Int.mul_left_comm,Int.mul_assoc]
 omega
section
variable(A:dk)(m J:Nat)
structure Turn(sol:Nat->Nat)(r c:Nat):Prop where
 cJ:c<J
 neg:T A m sol m c<0
 fst:∀j,j<c->0<=T A m sol m j
 rm:r<m
 pos:0<T A m sol r c
 gi:∀i,i<m->0<T A m sol i c->T A m sol r J*T A m sol i c<T A m sol i J*T A m sol r c\/(T A m sol r J*T A m sol i c=T A m sol i J*T A m sol r c/\sol r<=sol i)
noncomputable def nC(sol:Nat->Nat):Prop:=∀i,i<m->0<=T A m sol i J
end
section
variable{A:dk}{m J:Nat}{sol:Nat->Nat}{r c:Nat}
theorem Turn.QM(X:Tab A m sol)(F:nC A m J sol)(t:Turn A m J sol r c):nC A m J (jz sol r c):=by
 intro i hi
 by_cases h:i=r
 ·rw[h,Aw t.rm]
  exact F r t.rm
 ·refine rW X.pos ?_
  rw[nB X t.rm (by omega) h]
  rcases Int.lt_or_le 0 (T A m sol i c)with hp|hp
  ·rcases t.gi i hi hp with e|⟨e,_⟩
   ·rw[Int.mul_comm (T A m sol r J)]at e
    omega
   ·rw[Int.mul_comm (T A m sol r J)]at e
    omega
  ·have e1:=Int.mul_nonneg (F i hi) (Int.le_of_lt t.pos)
   have e2:=Int.mul_le_mul_of_nonneg_right hp (F r t.rm)
   rw[Int.zero_mul]at e2
   omega
theorem Turn.tab(X:Tab A m sol)(t:Turn A m J sol r c):Tab A m (jz sol r c):=HP X t.rm t.pos
theorem Turn.worth(X:Tab A m sol)(t:Turn A m J sol r c):dt A m sol*T A m (jz sol r c) m J=T A m sol m J*dt A m (jz sol r c)+(-T A m sol m c)*T A m sol r J:=by
 rw[nB X t.rm (by omega) (by have:=t.rm;omega),uY t.rm,Int.neg_mul]
 omega
theorem inj(X:Tab A m sol){i k:Nat}(hi:i<m)(hk:k<m)(h:sol i=sol k):i=k:=by
 by_cases e:i=k
 ·exact e
 ·have e1:=Ax (A:=A) (sol:=sol) (Nat.le_of_lt hi) hk e
  rw[<-h,LA hi]at e1
  have:=X.pos
  omega
theorem pD{k j:Nat}(hk:k<m)(h:T A m sol m j≠0):sol k≠j:=λe=>h (e▸Ax (Nat.le_refl m) hk (by omega))
end
section
variable{A:dk}{m J K:Nat}{sol:Nat->Nat->Nat}{lG ent:Nat->Nat}
structure Run(A:dk)(m J K:Nat)(sol:Nat->Nat->Nat)(lG ent:Nat->Nat):Prop where
 tab0:Tab A m (sol 0)
 feas0:nC A m J (sol 0)
 turn:∀t,t<K->Turn A m J (sol t) (lG t) (ent t)
 jz:∀t,t<K->sol (t+1)=jz (sol t) (lG t) (ent t)
theorem Run.tf(R:Run A m J K sol lG ent):∀t,t<=K->Tab A m (sol t)/\nC A m J (sol t)
 |0,_=>⟨R.tab0,R.feas0⟩
 |t+1,h=>by
  have⟨X,F⟩:=R.tf t (by omega)
  rw[R.jz t (by omega)]
  exact⟨(R.turn t (by omega)).tab X,(R.turn t (by omega)).QM X F⟩
theorem Run.worth(R:Run A m J K sol lG ent){a:Nat}:∀n,a+n<=K->T A m (sol a) m J*dt A m (sol (a+n))<=T A m (sol (a+n)) m J*dt A m (sol a)
 |0,_=>Int.le_refl _
 |n+1,h=>by
  have ih:=R.worth (a:=a) n (by omega)
  have⟨X,F⟩:=R.tf (a+n) (by omega)
  have tn:=R.turn (a+n) (by omega)
  have w:=tn.worth X
  rw[<-R.jz (a+n) (by omega)]at w
  have Xa:=(R.tf a (by omega)).1
  have Xn:=(R.tf (a+n+1) (by omega)).1
  have g:=Int.mul_nonneg (show 0<=-T A m (sol (a+n)) m (ent (a+n)) by have:=tn.neg;omega) (F (lG (a+n)) tn.rm)
  show T A m (sol a) m J*dt A m (sol (a+n+1))<=T A m (sol (a+n+1)) m J*dt A m (sol a)
  refine Int.le_of_mul_le_mul_left ?_ X.pos
  have e1:=Int.mul_le_mul_of_nonneg_right ih (Int.le_of_lt Xn.pos)
  have e2:=Int.mul_le_mul_of_nonneg_right (show T A m (sol (a+n)) m J*dt A m (sol (a+n+1))<=dt A m (sol (a+n))*T A m (sol (a+n+1)) m J by omega) (Int.le_of_lt Xa.pos)
  have r1:dt A m (sol (a+n))*(T A m (sol a) m J*dt A m (sol (a+n+1)))=T A m (sol a) m J*dt A m (sol (a+n))*dt A m (sol (a+n+1)):=by
   rw[Int.mul_left_comm,Int.mul_assoc]
  have r2:T A m (sol (a+n)) m J*dt A m (sol a)*dt A m (sol (a+n+1))=T A m (sol (a+n)) m J*dt A m (sol (a+n+1))*dt A m (sol a):=Int.mul_right_comm _ _ _
  have r3:dt A m (sol (a+n))*(T A m (sol (a+n+1)) m J*dt A m (sol a))=dt A m (sol (a+n))*T A m (sol (a+n+1)) m J*dt A m (sol a):=(Int.mul_assoc _ _ _).symm
  rw[r1,r3]
  exact Int.le_trans e1 (r2▸e2)
theorem LC{sol sol':Nat->Nat}(h:∀k,k<m->sol k=sol' k):(∀i j,T A m sol i j=T A m sol' i j)/\dt A m sol=dt A m sol':=by
 have e:eG A m sol=eG A m sol':=by
  funext k
  unfold eG
  by_cases hk:k<m
  ·rw[if_pos hk,if_pos hk,h k hk]
  ·rw[if_neg hk,if_neg hk]
 unfold T dt
 rw[e]
 exact⟨λ_ _=>rfl,rfl⟩
theorem Run.flat(R:Run A m J K sol lG ent){a b:Nat}(hb:b<=K)(e:∀k,k<m->sol a k=sol b k){t:Nat}(h1:a<=t)(h2:t<b):T A m (sol t) (lG t) J=0:=by
 have⟨X,F⟩:=R.tf t (by omega)
 have tn:=R.turn t (by omega)
 have w:=tn.worth X
 rw[<-R.jz t (by omega)]at w
 have Xa:=(R.tf a (by omega)).1
 have Xn:=(R.tf (t+1) (by omega)).1
 have⟨s1,s2⟩:=LC (A:=A) e
 have w1:=R.worth (a:=a) (t-a) (by omega)
 have w2:=R.worth (a:=t+1) (b-(t+1)) (by omega)
 rw[show a+(t-a)=t by omega]at w1
 rw[show t+1+(b-(t+1))=b by omega,<-s1,<-s2]at w2
 have p:=F (lG t) tn.rm
 by_cases z:T A m (sol t) (lG t) J=0
 ·exact z
 ·exfalso
  have g:=Int.mul_pos (show 0< -T A m (sol t) m (ent t) by have:=tn.neg;omega) (show 0<T A m (sol t) (lG t) J by omega)
  exact N1 w1 (by omega) w2 X.pos Xa.pos Xn.pos
theorem Run.keep(R:Run A m J K sol lG ent){a b:Nat}(hb:b<=K)(e:∀k,k<m->sol a k=sol b k){i t:Nat}(hi:i<m)(h1:a<=t)(h2:t<b):T A m (sol (t+1)) i J=0↔T A m (sol t) i J=0:=by
 have X:=(R.tf t (by omega)).1
 have tn:=R.turn t (by omega)
 have z:=R.flat hb e h1 h2
 rw[R.jz t (by omega)]
 by_cases h:i=lG t
 ·rw[h,Aw tn.rm]
 ·have c:=nB (c:=ent t) X tn.rm (Nat.le_of_lt hi) h J
  rw[z,Int.mul_zero,Int.sub_zero]at c
  constructor
  ·intro q
   rw[q,Int.mul_zero]at c
   rw[Int.mul_comm]at c
   exact oO tn.pos c.symm
  ·intro q
   rw[q,Int.zero_mul]at c
   exact oO X.pos c
theorem Run.keeps(R:Run A m J K sol lG ent){a b:Nat}(hb:b<=K)(e:∀k,k<m->sol a k=sol b k){i:Nat}(hi:i<m){t:Nat}(h1:a<=t):∀n,t+n<=b->(T A m (sol (t+n)) i J=0↔T A m (sol t) i J=0)
 |0,_=>Iff.rfl
 |n+1,h=>(R.keep hb e hi (t:=t+n) (by omega) (by omega)).trans (R.keeps hb e hi h1 n (by omega))
theorem Run.zero(R:Run A m J K sol lG ent){a b:Nat}(hb:b<=K)(e:∀k,k<m->sol a k=sol b k){u s:Nat}(h1:a<=u)(h2:u<b)(h3:a<=s)(h4:s<=b):T A m (sol s) (lG u) J=0:=by
 have z:=R.flat hb e h1 h2
 have hi:=(R.turn u (by omega)).rm
 rcases Nat.le_total u s with h|h
 ·have:=R.keeps hb e hi h1 (s-u) (by omega)
  rw[show u+(s-u)=s by omega]at this
  exact this.mpr z
 ·have:=R.keeps hb e hi h3 (u-s) (by omega)
  rw[show s+(u-s)=u by omega]at this
  exact this.mp z
theorem Run.yK(R:Run A m J K sol lG ent){x k v:Nat}(h:sol x k≠v):∀n,x+n<=K->sol (x+n) k=v->∃u,x<=u/\u<x+n/\ent u=v/\lG u=k
 |0,_,q=>absurd q h
 |n+1,hk,q=>by
  by_cases c:sol (x+n) k=v
  ·have⟨u,a,b,d⟩:=R.yK h n (by omega) c
   exact⟨u,a,by omega,d⟩
  ·refine⟨x+n,by omega,by omega,?_⟩
   have q':sol (x+n+1) k=v:=q
   rw[R.jz (x+n) (by omega)]at q'
   unfold Sx.jz at q'
   by_cases w:k=lG (x+n)
   ·rw[if_pos w]at q'
    exact⟨q',w.symm⟩
   ·rw[if_neg w]at q'
    exact absurd q' c
theorem Run.yL(R:Run A m J K sol lG ent){x k v:Nat}(h:sol x k=v):∀n,x+n<=K->sol (x+n) k≠v->∃u,x<=u/\u<x+n/\sol u k=v/\lG u=k
 |0,_,q=>absurd h q
 |n+1,hk,q=>by
  by_cases c:sol (x+n) k=v
  ·refine⟨x+n,by omega,by omega,c,?_⟩
   have q':sol (x+n+1) k≠v:=q
   rw[R.jz (x+n) (by omega)]at q'
   unfold Sx.jz at q'
   by_cases w:k=lG (x+n)
   ·exact w.symm
   ·rw[if_neg w]at q'
    exact absurd c q'
  ·have⟨u,a,b,d⟩:=R.yL h n (by omega) c
   exact⟨u,a,by omega,d⟩
theorem most(f:Nat->Nat)(a:Nat):∀n,∃t,a<=t/\t<a+n+1/\∀u,a<=u->u<a+n+1->f u<=f t
 |0=>⟨a,by omega,by omega,λu h1 h2=>by rw[show u=a by omega];exact Nat.le_refl _⟩
 |n+1=>by
  have⟨t,h1,h2,h3⟩:=most f a n
  by_cases c:f t<=f (a+n+1)
  ·refine⟨a+n+1,by omega,by omega,λu q1 q2=>?_⟩
   by_cases e:u=a+n+1
   ·rw[e];exact Nat.le_refl _
   ·exact Nat.le_trans (h3 u q1 (by omega)) c
  ·refine⟨t,h1,by omega,λu q1 q2=>?_⟩
   by_cases e:u=a+n+1
   ·rw[e];omega
   ·exact h3 u q1 (by omega)
theorem Run.once(R:Run A m J K sol lG ent){a b:Nat}(OT:a<b)(hb:b<=K)(e:∀k,k<m->sol a k=sol b k):False:=by
 have⟨t,TH,QC,QN⟩:=most ent a (b-a-1)
 rw[show a+(b-a-1)+1=b by omega]at QC QN
 have tt:=R.turn t (by omega)
 have Xt:=(R.tf t (by omega)).1
 have hs:∃s,a<=s/\s<b/\sol s (lG s)=ent t:=by
  have q1:sol (t+1) (lG t)=ent t:=by rw[R.jz t (by omega)];exact if_pos rfl
  have q0:sol t (lG t)≠ent t:=pD (A:=A) tt.rm (by have:=tt.neg;omega)
  by_cases c:sol b (lG t)=ent t
  ·have⟨u,g1,g2,g3,g4⟩:=R.yL (x:=a) (k:=lG t) (v:=ent t) (by rw[e _ tt.rm];exact c) (t-a) (by omega) (by rw[show a+(t-a)=t by omega];exact q0)
   exact⟨u,g1,by omega,by rw[g4];exact g3⟩
  ·have⟨u,g1,g2,g3,g4⟩:=R.yL q1 (b-(t+1)) (by omega) (by rw[show t+1+(b-(t+1))=b by omega];exact c)
   exact⟨u,by omega,by omega,by rw[g4];exact g3⟩
 have⟨s,Gg,jC,Bc⟩:=hs
 have ts:=R.turn s (by omega)
 have Xs:=(R.tf s (by omega)).1
 have lt:ent s<ent t:=by
  have l:=QN s Gg jC
  have n:=pD (A:=A) (sol:=sol s) (j:=ent s) ts.rm (by have:=ts.neg;omega)
  rw[Bc]at n
  omega
 have c:=NZ Xs (sol':=sol t) (ent s)
 have c1:=Int.mul_nonneg (Int.le_of_lt Xs.pos) (tt.fst (ent s) lt)
 have c2:=Int.mul_neg_of_neg_of_pos ts.neg Xt.pos
 have⟨k,hk,hp⟩:=yI (n:=m) (f:=λk=>T A m (sol s) k (ent s)*T A m (sol t) m (sol s k)) (by omega)
 have hp:0<T A m (sol s) k (ent s)*T A m (sol t) m (sol s k):=hp
 have nz:T A m (sol t) m (sol s k)≠0:=λz=>by rw[z,Int.mul_zero]at hp;omega
 have nk:k≠lG s:=λw=>by
  rw[w,Bc]at hp
  have:=Int.mul_neg_of_pos_of_neg ts.pos tt.neg
  omega
 have nq:sol s k≠ent t:=λw=>nk (inj Xs hk ts.rm (w.trans Bc.symm))
 have nt:sol t k≠sol s k:=pD (A:=A) hk nz
 have hv:∃u,a<=u/\u<b/\ent u=sol s k/\lG u=k:=by
  by_cases w:sol a k=sol s k
  ·have⟨u,g1,g2,g3⟩:=R.yK nt (b-t) (by omega) (by rw[show t+(b-t)=b by omega,<-e k hk];exact w)
   exact⟨u,by omega,by omega,g3⟩
  ·have⟨u,g1,g2,g3⟩:=R.yK w (s-a) (by omega) (by rw[show a+(s-a)=s by omega])
   exact⟨u,by omega,by omega,g3⟩
 have⟨u,Je,OH,Ur,TJ⟩:=hv
 have lv:sol s k<ent t:=by
  have l:=QN u Je OH
  omega
 have pv:0<T A m (sol t) m (sol s k):=by
  have:=tt.fst (sol s k) lv
  omega
 have pk:0<T A m (sol s) k (ent s):=by
  rw[Int.mul_comm]at hp
  exact qG pv hp
 have zk:=R.zero hb e Je OH Gg (Nat.le_of_lt jC)
 rw[TJ]at zk
 have zl:=R.zero hb e Gg jC Gg (Nat.le_of_lt jC)
 rcases ts.gi k hk pk with f|⟨_,f⟩
 ·rw[zk,zl,Int.zero_mul,Int.zero_mul]at f
  omega
 ·rw[Bc]at f
  omega
end
theorem Ay:∀(N:Nat) (f:Nat->Nat),(∀i,i<=N->f i<N)->∃i j,i<j/\j<=N/\f i=f j
 |0,f,h=>absurd (h 0 (Nat.le_refl _)) (by omega)
 |N+1,f,h=>by
  by_cases c:∃i,i<=N/\f i=f (N+1)
  ·have⟨i,h1,h2⟩:=c
   exact⟨i,N+1,by omega,by omega,h2⟩
  ·have⟨i,j,h1,h2,h3⟩:=Ay N (λi=>if f i=N then f (N+1)else f i) (λi hi=>by
     have a:=h i (by omega)
     have b:=h (N+1) (by omega)
     have d:f i≠f (N+1):=λw=>c ⟨i,hi,w⟩
     by_cases e:f i=N
     ·show(if f i=N then f (N+1)else f i)<N
      rw[if_pos e]
      omega
     ·show(if f i=N then f (N+1)else f i)<N
      rw[if_neg e]
      omega)
   have h3:(if f i=N then f (N+1)else f i)=(if f j=N then f (N+1)else f j):=h3
   refine⟨i,j,h1,by omega,?_⟩
   have di:f i≠f (N+1):=λw=>c ⟨i,by omega,w⟩
   have dj:f j≠f (N+1):=λw=>c ⟨j,by omega,w⟩
   by_cases e1:f i=N
   ·by_cases e2:f j=N
    ·omega
    ·rw[if_pos e1,if_neg e2]at h3
     exact absurd h3.symm dj
   ·by_cases e2:f j=N
    ·rw[if_neg e1,if_pos e2]at h3
     exact absurd h3 di
    ·rw[if_neg e1,if_neg e2]at h3
     exact h3
noncomputable def code(J:Nat)(g:Nat->Nat):Nat->Nat
 |0=>0
 |m+1=>code J g m*J+g m
theorem Az{J:Nat}{g:Nat->Nat}:∀{m:Nat},(∀k,k<m->g k<J)->code J g m<J^m
 |0,_=>by show 0<1;omega
 |m+1,h=>by
  have a:=Az (m:=m) λk hk=>h k (by omega)
  have b:=h m (by omega)
  have e:(code J g m+1)*J<=J^m*J:=Nat.mul_le_mul_right J a
  rw[Nat.add_mul,Nat.one_mul]at e
  show code J g m*J+g m<J^m*J
  omega
theorem code_inj{J:Nat}{g h:Nat->Nat}:∀{m:Nat},(∀k,k<m->g k<J)->(∀k,k<m->h k<J)->code J g m=code J h m->∀k,k<m->g k=h k
 |0,_,_,_,k,hk=>absurd hk (by omega)
 |m+1,hg,hh,e,k,hk=>by
  have e:code J g m*J+g m=code J h m*J+h m:=e
  have a:=hg m (by omega)
  have b:=hh m (by omega)
  have e1:g m=h m:=by
   have:=congrArg (·% J) e
   simp only[Nat.mul_add_mod,Nat.mod_eq_of_lt a,Nat.mod_eq_of_lt b,Nat.mul_comm _ J]at this
   exact this
  have e2:code J g m=code J h m:=Nat.eq_of_mul_eq_mul_right (show 0<J by omega) (by omega)
  by_cases w:k=m
  ·rw[w];exact e1
  ·exact code_inj (λk hk=>hg k (by omega)) (λk hk=>hh k (by omega)) e2 k (by omega)
theorem Run.Co{A:dk}{m J K:Nat}{sol:Nat->Nat->Nat}{lG ent:Nat->Nat}(R:Run A m J K sol lG ent)(h0:∀k,k<m->sol 0 k<J):∀t,t<=K->∀k,k<m->sol t k<J
 |0,_,k,hk=>h0 k hk
 |t+1,ht,k,hk=>by
  rw[R.jz t (by omega)]
  unfold Sx.jz
  split
  ·exact(R.turn t (by omega)).cJ
  ·exact R.Co h0 t (by omega) k hk
theorem Run.ends{A:dk}{m J K:Nat}{sol:Nat->Nat->Nat}{lG ent:Nat->Nat}(R:Run A m J K sol lG ent)(h0:∀k,k<m->sol 0 k<J):K<J^m:=by
 rcases Nat.lt_or_ge K (J^m)with h|h
 ·exact h
 ·exfalso
  have⟨i,j,h1,h2,h3⟩:=Ay (J^m) (λt=>code J (sol t) m) λt ht=>Az (R.Co h0 t (by omega))
  exact R.once h1 (by omega) (code_inj (R.Co h0 i (by omega)) (R.Co h0 j (by omega)) h3)
theorem Jn{f g:Nat->Int}:∀{n:Nat},(∀i,i<n->f i<=g i)->sm n f<=sm n g
 |0,_=>Int.le_refl _
 |n+1,h=>Int.add_le_add (Jn λi hi=>h i (by omega)) (h n (by omega))
section
variable{A:dk}{m J:Nat}{sol:Nat->Nat}{r c:Nat}
theorem row(X:Tab A m sol)(hs:∀k,k<m->sol k<J)(y:Nat->Int)(hy:0<y m)(hA:∀j,j<J->0<=sm (m+1) λs=>y s*A j s)(hc:c<J)(neg:T A m sol m c<0):∃r,r<m/\0<T A m sol r c:=by
 by_cases h:∃r,r<m/\0<T A m sol r c
 ·exact h
 ·exfalso
  have e:=oX X y c
  have e1:=Int.mul_nonneg (Int.le_of_lt X.pos) (hA c hc)
  have e2:=Int.mul_neg_of_neg_of_pos neg hy
  have⟨k,hk,hp⟩:=yI (n:=m) (f:=λk=>T A m sol k c*sm (m+1) λs=>y s*A (sol k) s) (by omega)
  have hp:0<T A m sol k c*(sm (m+1) λs=>y s*A (sol k) s):=hp
  refine h ⟨k,hk,?_⟩
  rcases Int.lt_or_le 0 (T A m sol k c)with q|q
  ·exact q
  ·have:=Int.mul_le_mul_of_nonneg_right q (hA (sol k) (hs k hk))
   rw[Int.zero_mul]at this
   omega
noncomputable def j0(A:dk)(m J:Nat)(sol:Nat->Nat)(j:Nat):Int:=sm m λk=>if sol k=j then T A m sol k J else 0
theorem qH(F:nC A m J sol)(j:Nat):0<=j0 A m J sol j:=oA λk hk=>by
 split
 ·exact F k hk
 ·exact Int.le_refl _
theorem EX(X:Tab A m sol){k:Nat}(hk:k<m):j0 A m J sol (sol k)=T A m sol k J:=by
 unfold j0
 rw[gC (k:=k) hk λi hi h=>if_neg λe=>h (inj X hi hk e),if_pos rfl]
theorem qI{j:Nat}(h:∀k,k<m->sol k≠j):j0 A m J sol j=0:=iV λk hk=>if_neg (h k hk)
theorem AA(hs:∀k,k<m->sol k<J)(f:Nat->Int):(sm m λk=>T A m sol k J*f (sol k))=sm J λj=>j0 A m J sol j*f j:=by
 have e:∀k,k<m->T A m sol k J*f (sol k)=sm J λj=>(if sol k=j then T A m sol k J else 0)*f j:=λk hk=>by
  rw[gC (k:=sol k) (hs k hk) λj _ h=>by rw[if_neg (Ne.symm h),Int.zero_mul],if_pos rfl]
 rw[a8 e,uX]
 refine a8 λj _=>?_
 unfold j0
 rw[Int.mul_comm,<-kK]
 exact a8 λk _=>Int.mul_comm _ _
theorem AB(X:Tab A m sol)(hs:∀k,k<m->sol k<J){s:Nat}(h:s<m):(sm J λj=>j0 A m J sol j*A j s)=dt A m sol*A J s:=by
 rw[<-AA hs λj=>A j s,<-X.eqs J s (by omega)]
 show _=sm m _+T A m sol m J*eG A m sol m s
 have z:eG A m sol m s=0:=by unfold eG cE;rw[if_neg (by omega),if_neg (by omega)]
 rw[z,Int.mul_zero,Int.add_zero]
 refine a8 λk hk=>?_
 unfold eG
 rw[if_pos hk]
theorem Cp(X:Tab A m sol)(hs:∀k,k<m->sol k<J):(sm J λj=>j0 A m J sol j*A j m)+T A m sol m J=dt A m sol*A J m:=by
 rw[<-AA hs λj=>A j m,<-X.eqs J m (by omega)]
 show _=sm m _+T A m sol m J*eG A m sol m m
 have z:eG A m sol m m=1:=by unfold eG cE;rw[if_neg (by omega),if_pos rfl]
 rw[z,Int.mul_one]
 congr 1
 refine a8 λk hk=>?_
 unfold eG
 rw[if_pos hk]
theorem Cq(h:T A m sol m c≠0):j0 A m J sol c=0:=qI λk hk=>pD hk h
theorem EY{N:Nat}(hN:∀k s,k<m->s<=m->A (N+k) s=if k=s then 1 else 0)(j:Nat):T A m sol m j=(sm m λs=>A j s*T A m sol m (N+s))+A j m*dt A m sol:=by
 have e:=HN (M:=m+1) (k:=m) (eG A m sol) (by omega) (d:=1) (x:=A j) (n:=m+1) (λs=>A j s) (λk=>if k<m then A (N+k)else cE m) (λs hs=>by
  rw[gC (k:=s) hs]
  ·by_cases h:s<m
   ·show A j s*(if s<m then A (N+s)else cE m) s=_
    rw[if_pos h,hN s s h (by omega),if_pos rfl,Int.mul_one,Int.one_mul]
   ·show A j s*(if s<m then A (N+s)else cE m) s=_
    rw[if_neg h]
    unfold cE
    rw[if_pos (by omega),Int.mul_one,Int.one_mul]
  ·intro k hk h
   show A j k*(if k<m then A (N+k)else cE m) s=_
   by_cases q:k<m
   ·rw[if_pos q,hN k s q (by omega),if_neg h,Int.mul_zero]
   ·rw[if_neg q]
    unfold cE
    rw[if_neg (by omega),Int.mul_zero])
 rw[Int.one_mul]at e
 show D (m+1) (up (eG A m sol) m (A j))=_
 rw[e]
 show sm m _+_=_
 congr 1
 ·refine a8 λs hs=>?_
  show A j s*D (m+1) (up (eG A m sol) m (if s<m then A (N+s)else cE m))=_
  rw[if_pos hs]
  rfl
 ·show A j m*D (m+1) (up (eG A m sol) m (if m<m then A (N+m)else cE m))=_
  rw[if_neg (by omega)]
  have:cE m=eG A m sol m:=by unfold eG;rw[if_neg (by omega)]
  rw[this,iX]
  rfl
theorem Jo(h:∀j s,s<=m->(A j s).natAbs<=1)(i j:Nat):(T A m sol i j).natAbs<=fact (m+1)/\(dt A m sol).natAbs<=fact (m+1):=by
 have hb:∀k s,k<m+1->s<m+1->(eG A m sol k s).natAbs<=1:=λk s hk hs=>by
  unfold eG cE
  split
  ·exact h _ s (by omega)
  ·show(if s=m then(1:Int)else 0).natAbs<=1
   split<;>decide
 refine⟨EW λk s hk hs=>?_,EW hb⟩
 unfold up
 split
 ·exact h j s (by omega)
 ·exact hb k s hk hs
end
section
variable(h a b:Nat)(one oth:Nat->Nat->Int)
noncomputable def tr:dk:=λj s=>
 if j<a then(if s<h then one j s else if s=h then-1 else if s=h+1 then 1 else 0)
 else if j<a+b then(if s<h then-oth (j-a) s else if s=h then 1 else if s=h+1 then 0 else if s=h+2 then-1 else 0)
 else if j<a+b+(h+2)then(if j-(a+b)=s then 1 else 0)
 else(if s=h+1 then 1 else 0)
end
section
variable{h a b:Nat}{one oth:Nat->Nat->Int}{sol:Nat->Nat}
theorem iA{j s:Nat}(hj:j<a):tr h a b one oth j s=if s<h then one j s else if s=h then-1 else if s=h+1 then 1 else 0:=if_pos hj
theorem iB{j s:Nat}(hj:j<b):tr h a b one oth (a+j) s=if s<h then-oth j s else if s=h then 1 else if s=h+1 then 0 else if s=h+2 then-1 else 0:=by
 unfold tr
 rw[if_neg (by omega),if_pos (by omega),show a+j-a=j by omega]
theorem fQ{k s:Nat}(hk:k<h+2):tr h a b one oth (a+b+k) s=if k=s then 1 else 0:=by
 unfold tr
 rw[if_neg (by omega),if_neg (by omega),if_pos (by omega),show a+b+k-(a+b)=k by omega]
theorem iY{s:Nat}:tr h a b one oth (a+b+(h+2)) s=if s=h+1 then 1 else 0:=by
 unfold tr
 rw[if_neg (by omega),if_neg (by omega),if_neg (by omega)]
theorem uZ(f:Nat->Int)(n:Nat):∀k,sm (n+k) f=sm n f+sm k λi=>f (n+i)
 |0=>(Int.add_zero _).symm
 |k+1=>by
  show sm (n+k) f+f (n+k)=sm n f+((sm k λi=>f (n+i))+f (n+k))
  rw[uZ f n k]
  omega
noncomputable def oP(h a b:Nat)(one oth:Nat->Nat->Int)(sol:Nat->Nat)(s:Nat):Int:=T (tr h a b one oth) (h+2) sol (h+2) (a+b+s)
noncomputable def kM(h a b:Nat)(one oth:Nat->Nat->Int)(sol:Nat->Nat)(j:Nat):Int:=j0 (tr h a b one oth) (h+2) (a+b+(h+2)) sol j
theorem Cr{j:Nat}(hj:j<a):T (tr h a b one oth) (h+2) sol (h+2) j=(sm h λs=>one j s*oP h a b one oth sol s)-oP h a b one oth sol h+oP h a b one oth sol (h+1):=by
 rw[EY (N:=a+b) (λk s hk hs=>fQ hk)]
 show(sm h _+tr h a b one oth j h*oP h a b one oth sol h)+tr h a b one oth j (h+1)*oP h a b one oth sol (h+1)+tr h a b one oth j (h+2)*_=_
 have e:(sm h λs=>tr h a b one oth j s*T (tr h a b one oth) (h+2) sol (h+2) (a+b+s))=sm h λs=>one j s*oP h a b one oth sol s:=a8 λs hs=>by
  rw[iA hj,if_pos hs]
  rfl
 rw[e,iA hj,iA hj,iA hj,if_neg (by omega),if_pos rfl,if_neg (by omega),if_neg (by omega),if_pos rfl,if_neg (by omega),if_neg (by omega),if_neg (by omega)]
 generalize oP h a b one oth sol h=p
 generalize oP h a b one oth sol (h+1)=q
 omega
theorem sY{j:Nat}(hj:j<b):T (tr h a b one oth) (h+2) sol (h+2) (a+j)=-(sm h λs=>oth j s*oP h a b one oth sol s)+oP h a b one oth sol h-dt (tr h a b one oth) (h+2) sol:=by
 rw[EY (N:=a+b) (λk s hk hs=>fQ hk)]
 show(sm h _+tr h a b one oth (a+j) h*oP h a b one oth sol h)+tr h a b one oth (a+j) (h+1)*oP h a b one oth sol (h+1)+tr h a b one oth (a+j) (h+2)*_=_
 have e:(sm h λs=>tr h a b one oth (a+j) s*T (tr h a b one oth) (h+2) sol (h+2) (a+b+s))=-sm h λs=>oth j s*oP h a b one oth sol s:=by
  rw[<-qE]
  refine a8 λs hs=>?_
  rw[iB hj,if_pos hs,Int.neg_mul]
  rfl
 rw[e,iB hj,iB hj,iB hj,if_neg (by omega),if_pos rfl,if_neg (by omega),if_neg (by omega),if_pos rfl,if_neg (by omega),if_neg (by omega),if_neg (by omega),if_pos rfl]
 generalize oP h a b one oth sol h=p
 generalize oP h a b one oth sol (h+1)=q
 generalize dt (tr h a b one oth) (h+2) sol=d
 omega
theorem qJ:T (tr h a b one oth) (h+2) sol (h+2) (a+b+(h+2))=oP h a b one oth sol (h+1):=by
 rw[EY (N:=a+b) (λk s hk hs=>fQ hk),gC (k:=h+1) (by omega),iY,iY,if_pos rfl,if_neg (by omega),Int.one_mul,Int.zero_mul,Int.add_zero]
 ·rfl
 ·intro s _ hs
  rw[iY,if_neg hs,Int.zero_mul]
theorem u0(f:Nat->Int)(h a b s:Nat)(hs:s<=h+2):(sm (a+b+(h+2)) λj=>f j*tr h a b one oth j s)=(sm a λj=>f j*tr h a b one oth j s)+(sm b λj=>f (a+j)*tr h a b one oth (a+j) s)+(if s<h+2 then f (a+b+s)else 0):=by
 rw[uZ,uZ]
 congr 1
 by_cases c:s<h+2
 ·rw[if_pos c,gC (k:=s) c λk hk e=>by rw[fQ hk,if_neg e,Int.mul_zero],fQ c,if_pos rfl,Int.mul_one]
 ·rw[if_neg c]
  exact iV λk hk=>by rw[fQ hk,if_neg (by omega),Int.mul_zero]
theorem Cs(X:Tab (tr h a b one oth) (h+2) sol)(hs:∀k,k<h+2->sol k<a+b+(h+2)){s:Nat}(hh:s<h):(sm a λj=>kM h a b one oth sol j*one j s)-(sm b λj=>kM h a b one oth sol (a+j)*oth j s)+kM h a b one oth sol (a+b+s)=0:=by
 have e:=AB X hs (s:=s) (by omega)
 rw[u0 _ h a b s (by omega),iY,if_pos (show s<h+2 by omega),if_neg (show¬s=h+1 by omega),Int.mul_zero]at e
 rw[<-e,Int.sub_eq_add_neg,<-qE]
 congr 1
 congr 1
 ·exact a8 λj hj=>by rw[iA hj,if_pos hh];rfl
 ·exact a8 λj hj=>by rw[iB hj,if_pos hh,Int.mul_neg];rfl
theorem yM(X:Tab (tr h a b one oth) (h+2) sol)(hs:∀k,k<h+2->sol k<a+b+(h+2)):-(sm a λj=>kM h a b one oth sol j)+(sm b λj=>kM h a b one oth sol (a+j))+kM h a b one oth sol (a+b+h)=0:=by
 have e:=AB X hs (s:=h) (by omega)
 rw[u0 _ h a b h (by omega),iY,if_pos (show h<h+2 by omega),if_neg (show¬h=h+1 by omega),Int.mul_zero]at e
 rw[<-e,<-qE]
 congr 1
 congr 1
 ·exact a8 λj hj=>by
   rw[iA hj,if_neg (by omega),if_pos rfl,Int.mul_neg,Int.mul_one];rfl
 ·exact a8 λj hj=>by rw[iB hj,if_neg (by omega),if_pos rfl,Int.mul_one];rfl
theorem yN(X:Tab (tr h a b one oth) (h+2) sol)(hs:∀k,k<h+2->sol k<a+b+(h+2)):(sm b λj=>kM h a b one oth sol (a+j))=T (tr h a b one oth) (h+2) sol (h+2) (a+b+(h+2)):=by
 have e:=Cp X hs
 rw[u0 _ h a b (h+2) (by omega),iY,if_neg (by omega),if_neg (by omega),Int.mul_zero,Int.add_zero]at e
 have z1:(sm a λj=>j0 (tr h a b one oth) (h+2) (a+b+(h+2)) sol j*tr h a b one oth j (h+2))=0:=iV λj hj=>by rw[iA hj,if_neg (by omega),if_neg (by omega),if_neg (by omega),Int.mul_zero]
 have z2:(sm b λj=>j0 (tr h a b one oth) (h+2) (a+b+(h+2)) sol (a+j)*tr h a b one oth (a+j) (h+2))=-sm b λj=>kM h a b one oth sol (a+j):=by
  rw[<-qE]
  exact a8 λj hj=>by rw[iB hj,if_neg (by omega),if_neg (by omega),if_neg (by omega),if_pos rfl,Int.mul_neg,Int.mul_one];rfl
 rw[z1,z2]at e
 omega
section
variable(X:Tab (tr h a b one oth) (h+2) sol)(hs:∀k,k<h+2->sol k<a+b+(h+2))(F:nC (tr h a b one oth) (h+2) (a+b+(h+2)) sol)(fin:∀j,j<a+b+(h+2)->0<=T (tr h a b one oth) (h+2) sol (h+2) j)
include X hs F fin
theorem qK{s:Nat}(h1:s<h+2):0<=oP h a b one oth sol s:=fin _ (by omega)
theorem HQ(z:¬0<T (tr h a b one oth) (h+2) sol (h+2) (a+b+(h+2))):(∀j,j<a->oP h a b one oth sol h<=sm h λs=>one j s*oP h a b one oth sol s)/\∀j,j<b->(sm h λs=>oth j s*oP h a b one oth sol s)<oP h a b one oth sol h:=by
 rw[qJ]at z
 have z1:=qK X hs F fin (s:=h+1) (by omega)
 constructor
 ·intro j hj
  have:=fin j (by omega)
  rw[Cr hj]at this
  omega
 ·intro j hj
  have:=fin (a+j) (by omega)
  rw[sY hj]at this
  have:=X.pos
  omega
theorem N2(ho:∀j s,j<b->s<h->0<=oth j s)(z:0<T (tr h a b one oth) (h+2) sol (h+2) (a+b+(h+2))):0<(sm a λj=>kM h a b one oth sol j)/\(sm a λj=>kM h a b one oth sol j)=(sm b λj=>kM h a b one oth sol (a+j))/\∀s,s<h->(sm a λj=>kM h a b one oth sol j*one j s)<=sm b λj=>kM h a b one oth sol (a+j)*oth j s:=by
 have w:=yN X hs
 have c:=yM X hs
 have z1:0<oP h a b one oth sol (h+1):=by rw[<-qJ];exact z
 have hb:0<b:=by
  rcases Nat.eq_zero_or_pos b with e|e
  ·subst e
   have:(0:Int)=T (tr h a 0 one oth) (h+2) sol (h+2) (a+0+(h+2)):=w
   omega
  ·exact e
 have c0:kM h a b one oth sol (a+b+h)=0:=by
  refine Cq ?_
  intro e
  have:=fin (a+0) (by omega)
  rw[sY hb]at this
  have e:oP h a b one oth sol h=0:=e
  have p:=oA (n:=h) (f:=λs=>oth 0 s*oP h a b one oth sol s) λs NB=>Int.mul_nonneg (ho 0 s hb NB) (qK X hs F fin (by omega))
  have:=X.pos
  omega
 have eq:(sm a λj=>kM h a b one oth sol j)=(sm b λj=>kM h a b one oth sol (a+j)):=by omega
 refine⟨by omega,eq,λs hh=>?_⟩
 have e:=Cs X hs hh
 have p:0<=kM h a b one oth sol (a+b+s):=qH F _
 omega
end
theorem qL:Tab (tr h a b one oth) (h+2) (λk=>a+b+k)/\dt (tr h a b one oth) (h+2) (λk=>a+b+k)=1/\∀i j,i<=h+2->T (tr h a b one oth) (h+2) (λk=>a+b+k) i j=tr h a b one oth j i:=Cm λk s hk hs=>fQ hk
theorem HR:nC (tr h a b one oth) (h+2) (a+b+(h+2)) (λk=>a+b+k):=λi hi=>by
 rw[qL.2.2 i _ (by omega),iY]
 split<;>decide
theorem LD(X:Tab (tr h a b one oth) (h+2) sol)(hs:∀k,k<h+2->sol k<a+b+(h+2)){c:Nat}(hc:c<a+b+(h+2))(neg:T (tr h a b one oth) (h+2) sol (h+2) c<0):∃r,r<h+2/\0<T (tr h a b one oth) (h+2) sol r c:=by
 refine row X hs (λs=>if s<h then 0 else 1) (by rw[if_neg (by omega)];decide) (λj hj=>?_) hc neg
 have e:(sm (h+2+1) λs=>(if s<h then 0 else 1)*tr h a b one oth j s)=tr h a b one oth j h+tr h a b one oth j (h+1)+tr h a b one oth j (h+2):=by
  show((sm h _+(if h<h then 0 else 1)*tr h a b one oth j h)+(if h+1<h then 0 else 1)*tr h a b one oth j (h+1))+(if h+2<h then 0 else 1)*tr h a b one oth j (h+2)=_
  rw[if_neg (by omega),if_neg (by omega),if_neg (by omega),iV λs hs=>by rw[if_pos hs,Int.zero_mul]]
  omega
 rw[e]
 by_cases h1:j<a
 ·rw[iA h1,iA h1,iA h1,if_neg (by omega),if_pos rfl,if_neg (by omega),if_neg (by omega),if_pos rfl,if_neg (by omega),if_neg (by omega),if_neg (by omega)]
  decide
 ·by_cases h2:j<a+b
  ·have e:j=a+(j-a):=by omega
   rw[e,iB (by omega),iB (by omega),iB (by omega),if_neg (by omega),if_pos rfl,if_neg (by omega),if_neg (by omega),if_pos rfl,if_neg (by omega),if_neg (by omega),if_neg (by omega),if_pos rfl]
   decide
  ·have e:j=a+b+(j-(a+b)):=by omega
   rw[e,fQ (by omega),fQ (by omega),fQ (by omega)]
   have g:∀p q:Nat,(0:Int)<=if p=q then 1 else 0:=λp q=>by split<;>decide
   have g1:=g (j-(a+b)) h
   have g2:=g (j-(a+b)) (h+1)
   have g3:=g (j-(a+b)) (h+2)
   omega
theorem LF(h1:∀j s,j<a->s<h->0<=one j s/\one j s<=1)(h2:∀j s,j<b->s<h->0<=oth j s/\oth j s<=1)(j s:Nat):(tr h a b one oth j s).natAbs<=1:=by
 unfold tr
 by_cases c1:j<a
 ·rw[if_pos c1]
  by_cases c2:s<h
  ·rw[if_pos c2]
   have:=h1 j s c1 c2
   omega
  ·rw[if_neg c2]
   repeat' split
   all_goals decide
 ·rw[if_neg c1]
  by_cases c3:j<a+b
  ·rw[if_pos c3]
   by_cases c2:s<h
   ·rw[if_pos c2]
    have:=h2 (j-a) s (by omega) c2
    omega
   ·rw[if_neg c2]
    repeat' split
    all_goals decide
  ·rw[if_neg c3]
   repeat' split
   all_goals decide
end
end Sx
namespace L2.D.My
open PySem
noncomputable def i8:aP:=(aY (iL (tV (aa ma (dV 1) (aZ bM (dV 0)))) (br (aa cn (dV 0) (dV 1))) bX) (br (dC (.int 0))))
noncomputable def aw:List PV->Option PV:=fn false 2 2 (i8)
noncomputable def kE:aP:=(br (aT (cO (dC (.int 6))) (tV (aa iu (aa gP (aa p7 (dV 1) (dV 0)) (dC (.int 1))) (dC (.int 1)))) (aO 0)))
noncomputable def aq:List PV->Option PV:=fn true 1 1 (kE)
noncomputable def iy(aq:List PV->Option PV):aP:=(iL (tV (aa dE (dV 4) (dV 5))) (br (aa ma (dV 4) (dV 5))) bX)
noncomputable def jK(aq:List PV->Option PV):aP:=(aY (cA 2 (aG aq (ah (aO 0) aA))) (aY (cA 3 (aG aq (ah (aO 1) aA))) (aY (iL (tV (aa dE (aZ bM (dV 2)) (aZ bM (dV 3)))) (br (aa ma (aZ bM (dV 2)) (aZ bM (dV 3)))) bX) (aY (hU (p9 (aO 2) (aO 3)) (jI (bh 4) (bh 5)) (iy aq)) (br (dC (.bl false)))))))
noncomputable def bJ:List PV->Option PV:=fn false 6 2 (jK aq)
noncomputable def gF(bJ:List PV->Option PV):aP:=(cA 4 (aa bQ (dV 4) (dC (.int 1))))
noncomputable def dY(bJ:List PV->Option PV):aP:=(aY (cA 3 (aT (nList (dV 0)) (jd (tV (aa iu (aa gP (dV 0) (dV 3)) (dV 0))) (tV (aa dE (dV 0) (dV 3)))) (aO 0))) (iL (jd (tV (aa iu (aZ bM (dV 3)) (dC (.int 0)))) (tV (aa kh (dV 2) (dV 1)))) (aY (cA 4 (dC (.int 0))) (aY (fK (jd (tV (aa ma (dV 4) (aZ bM (dV 1)))) (tV (aG bJ (ah (aa cn (dV 1) (dV 4)) (ah (aO 2) aA))))) (gF bJ) 1000) (lP 1 lz (ah (aO 4) (ah (aO 2) aA))))) bX))
noncomputable def iT(bJ:List PV->Option PV):aP:=(aY (lV 1 (jG aA)) (aY (hU (nList (aO 0)) (bh 2) (dY bJ)) (vW 1)))
noncomputable def bu:List PV->Option PV:=fn true 5 1 (iT bJ)
noncomputable def dF(aw:List PV->Option PV)(bu:List PV->Option PV)(aq:List PV->Option PV):aP:=(aY (cA 8 (aG aw (ah (aO 0) (ah (aa bQ (aa bQ (dV 1) (dC (.int 1))) (dV 7)) aA)))) (aY (cA 9 (aa gO (dV 8) (aa iN (dC (.int 1)) (dV 3)))) (aY (iL (tV (aa iu (aa gO (aa l9 (dV 4) (aa bQ (dV 2) (dC (.int 1)))) (dC (.int 3))) (dC (.int 1)))) (cA 9 (aa L8 (aa L8 (dV 9) (aa iN (dC (.int 1)) (aa gO (aa l9 (dV 8) (dC (.int 64))) (dV 3)))) (aa iN (dC (.int 1)) (aa gO (aa l9 (dV 8) (dC (.int 384))) (dV 3))))) bX) (lP 6 ef (ah (aO 9) aA)))))
noncomputable def hW(aw:List PV->Option PV)(bu:List PV->Option PV)(aq:List PV->Option PV):aP:=(aY (cA 4 (aG aw (ah (aO 0) (ah (aO 1) aA)))) (aY (cA 5 (aa gO (aG aw (ah (aO 0) (ah (aa bQ (dV 1) (dC (.int 1))) aA))) (aa bQ (dV 3) (dC (.int 1))))) (aY (iL (jd (tV (aa Bo (dV 2) (dC (.int 7)))) (tV (aa iu (aa gO (aa l9 (dV 4) (aa bQ (aa mR (dC (.int 3)) (dV 2)) (dC (.int 3)))) (dC (.int 6))) (dC (.int 1))))) (br (aG bu (ah (aT (cO (aa iN (dC (.int 1)) (dV 3))) (tV (aa iu (aZ bM (aG aq (ah (aO 0) aA))) (dV 6))) (aO 0)) aA))) bX) (aY (lV 6 (jG aA)) (aY (hU (cO (aa gO (dV 4) (aa bQ (dV 2) (dC (.int 1))))) (bh 7) (dF aw bu aq)) (aY (ui 6) (br (aG bu (ah (aO 6) aA)))))))))
noncomputable def eN:List PV->Option PV:=fn true 10 4 (hW aw bu aq)
noncomputable def mf:aP:=(br (aa iu (aa gP (aa p7 (dV 0) (dV 1)) (dC (.int 1))) (dC (.int 1))))
noncomputable def dw:List PV->Option PV:=fn false 2 2 (mf)
noncomputable def mh(dw:List PV->Option PV):aP:=(br (aT (cO (aZ DH (dV 0))) (tV (aG dw (ah (aO 1) (ah (aO 0) aA)))) (aO 0)))
noncomputable def gA:List PV->Option PV:=fn true 1 1 (mh dw)
noncomputable def nj(gA:List PV->Option PV):aP:=(aY (cA 1 (aG gA (ah (aO 0) aA))) (br (Bm (ah (aZ bM (dV 1)) (ah (aO 1) aA)))))
noncomputable def F_place:List PV->Option PV:=fn false 2 1 (nj gA)
noncomputable def nu:aP:=(br (aa iu (aa gP (dV 0) (dV 1)) (dV 0)))
noncomputable def jr:List PV->Option PV:=fn false 2 2 (nu)
noncomputable def uQ(jr:List PV->Option PV):aP:=(br (aZ GZ (aT (nList (dV 0)) bt (aG jr (ah (aO 0) (ah (aO 2) aA))))))
noncomputable def dQ:List PV->Option PV:=fn false 2 2 (uQ jr)
noncomputable def fA(F_place:List PV->Option PV)(dQ:List PV->Option PV):aP:=(iL (eV (tV (ug dQ (ah (dV 1) (ah (dV 2) aA))))) (lP 1 ef (ah (aO 2) aA)) bX)
noncomputable def pq(F_place:List PV->Option PV)(dQ:List PV->Option PV):aP:=(aY (lV 1 (jG aA)) (aY (hU (nList (oI (nList (dV 0)))) (bh 2) (fA F_place dQ)) (vW 1)))
noncomputable def hZ:List PV->Option PV:=fn true 3 1 (pq F_place dQ)
noncomputable def iU(F_place:List PV->Option PV):aP:=(br (oI (cO (aa iN (dC (.int 1)) (dV 0)))))
noncomputable def cV:List PV->Option PV:=fn true 1 1 (iU F_place)
noncomputable def hX:aP:=(br (aZ G0 (aT (nList (dV 1)) bt (aa dE (aa gP (dV 1) (dV 0)) (dC (.int 0))))))
noncomputable def cD:List PV->Option PV:=fn false 2 2 (hX)
noncomputable def jL(hZ:List PV->Option PV)(cV:List PV->Option PV)(cD:List PV->Option PV):aP:=(br (aG hZ (ah (aT (nList (aG cV (ah (aO 0) aA))) (tV (aG cD (ah (aO 0) (ah (aO 2) aA)))) (aO 0)) aA)))
noncomputable def fq:List PV->Option PV:=fn true 2 2 (jL hZ cV cD)
noncomputable def fv(fq:List PV->Option PV):aP:=(aY (cA 2 (aa tJ (aa iN (dC (.int 1)) (dV 0)) (dC (.int 1)))) (br (aT (nList (aG fq (ah (aO 0) (ah (aO 1) aA)))) bt (aa tJ (dV 3) (dV 0)))))
noncomputable def bU:List PV->Option PV:=fn true 3 2 (fv fq)
noncomputable def bO:jZ:=(DK (G6 6 (aT (cO (aZ bM (dV 1))) bt (aZ Br (aa iu (dV 0) (dV 5))))) (DK (G7 (aa bQ (aa bQ (dV 5) (dV 6)) (jG (ah (aa cn (dV 2) (dV 4)) aA)))) (G8 (aa bQ (aZ bM (dV 3)) (dV 4)))))
noncomputable def fR:cg->Option Tb:=(KN (uv 1 4 5 bO) (aa bQ (aa bQ (aT (nList (dV 3)) bt (aZ jH (dV 0))) (aT (nList (dV 1)) bt (dC (.int 0)))) (jG (ah (dC (.int 0)) aA))) (dC (.int 1)))
noncomputable def aV:List PV->Option Tb:=Mc 7 4 (fR)
noncomputable def wL(dw:List PV->Option PV):aP:=(br (aT (nList (dV 0)) bt (aZ Br (aG dw (ah (aO 0) (ah (aO 2) aA))))))
noncomputable def bD:List PV->Option PV:=fn true 2 2 (wL dw)
noncomputable def fS(aV:List PV->Option Tb)(bD:List PV->Option PV):aP:=(lP 3 ef (ah (aa bQ (aG bD (ah (aO 1) (ah (aO 4) aA))) (aT (nList (aG bD (ah (aO 2) (ah (aO 4) aA)))) bt (aZ jH (dV 0)))) aA))
noncomputable def mn(aV:List PV->Option Tb)(bD:List PV->Option PV):cg->Option Tb:=(fN (lV 3 (jG aA)) (fN (hU (cO (dV 0)) (bh 4) (fS aV bD)) (fN (lP 3 ef (ah (aa bQ (aT (nList (dV 1)) bt (aZ jH (dC (.int 1)))) (aT (nList (dV 2)) bt (dC (.int 1)))) aA)) (fN (lP 3 ef (ah (aa bQ (aT (nList (dV 1)) bt (dC (.int 1))) (aT (nList (dV 2)) bt (dC (.int 0)))) aA)) (fN (cA 5 (aa bQ (aT (nList (I9 (dV 3) p8 (oH (aZ jH (dC (.int 1)))))) bt (dC (.int 0))) (jG (ah (dC (.int 1)) aA)))) (fN (cA 6 (aa bQ (aT (nList (dV 1)) bt (dC (.int 0))) (aT (nList (dV 2)) bt (dC (.int 1))))) (fN (ui 3) (DL aV (ah (aO 3) (ah (aO 5) (ah (aO 6) aA)))))))))))
noncomputable def dR:List PV->Option Tb:=Mb 7 3 (mn aV bD)
noncomputable def aF:aP:=(iL (tV (aa ma (aa cn (aZ (cB f6 "costs") (dV 0)) (dV 1)) (dC (.int 0)))) (br (aO 1)) bX)
noncomputable def dG:aP:=(aY (hU (cO (aa tJ (aZ bM (aZ (cB f6 "costs") (dV 0))) (dC (.int 1)))) (bh 1) aF) (br (dC .non)))
noncomputable def ay:List PV->Option PV:=fn false 2 1 (dG)
noncomputable def ju:aP:=(br (kn (p9 (aO 1) (aO 2)) (aa l9 (aa tJ (aa mR (dV 0) (aa cn (dV 4) (dV 5))) (aa mR (aa cn (dV 3) (dV 5)) (dV 1))) (aZ (cB f6 "parts_of_one") (dV 2)))))
noncomputable def aI:List PV->Option PV:=fn true 4 4 (ju)
noncomputable def cW(aI:List PV->Option PV):eS:=(P8 (tV (aa dE (dV 4) (dV 1))) (G4 (dV 4) (dU (iP aI) (aO 0) (ah (aa cn (aZ (cB f6 "rows") (dV 0)) (dV 4)) (ah (aO 3) (ah (aO 2) aA))))) Jb)
noncomputable def iC(aI:List PV->Option PV):eS:=(uo (DJ 3 (dV 1)) (uo (G5 4 (aZ bM (aZ (cB f6 "rows") (dV 0))) (cW aI)) (uo (uq (dU (iP aI) (aO 0) (ah (aZ (cB f6 "costs") (dV 0)) (ah (aO 3) (ah (aO 2) aA))))) (uo (KJ (dV 1) (aO 2)) (ur (aa cn (dV 3) (dV 2)))))))
noncomputable def bF:Tb->List PV->Option Tb:=Jc 5 3 (iC aI)
noncomputable def g7:aP:=(aY (cA 4 (aa mR (aa cn (aa cn (aZ (cB f6 "rows") (dV 0)) (dV 1)) (aZ jH (dC (.int 1)))) (aa cn (aa cn (aZ (cB f6 "rows") (dV 0)) (dV 2)) (dV 3)))) (aY (cA 5 (aa mR (aa cn (aa cn (aZ (cB f6 "rows") (dV 0)) (dV 2)) (aZ jH (dC (.int 1)))) (aa cn (aa cn (aZ (cB f6 "rows") (dV 0)) (dV 1)) (dV 3)))) (br (G3 (aa ma (dV 4) (dV 5)) (sF (aa iu (dV 4) (dV 5)) (aa ma (aa cn (aZ (cB f6 "solved") (dV 0)) (dV 1)) (aa cn (aZ (cB f6 "solved") (dV 0)) (dV 2))))))))
noncomputable def aN:List PV->Option PV:=fn false 6 4 (g7)
noncomputable def bY(aN:List PV->Option PV):aP:=(iL (jd (tV (aa Bo (aa cn (aa cn (aZ (cB f6 "rows") (dV 0)) (dV 3)) (dV 1)) (dC (.int 0)))) (jy (tV (aZ vV (dV 2))) (tV (dU (iP aN) (aO 0) (ah (aO 3) (ah (aO 2) (ah (aO 1) aA))))))) (cA 2 (aO 3)) bX)
noncomputable def gj(aN:List PV->Option PV):aP:=(aY (cA 2 (dC .non)) (aY (hU (cO (aZ bM (aZ (cB f6 "rows") (dV 0)))) (bh 3) (bY aN)) (br (aO 2))))
noncomputable def aJ:List PV->Option PV:=fn false 4 2 (gj aN)
noncomputable def eo(ay:List PV->Option PV)(bF:Tb->List PV->Option Tb)(aJ:List PV->Option PV):eS:=(uo (zR bF (ah (dU (iP aJ) (aO 0) (ah (aO 1) aA)) (ah (aO 1) aA))) (vY 1 (dU (iP ay) (aO 0) aA)))
noncomputable def gS(ay:List PV->Option PV)(bF:Tb->List PV->Option Tb)(aJ:List PV->Option PV):eS:=(uo (vY 1 (dU (iP ay) (aO 0) aA)) (fM (tV (aZ vX (dV 1))) (eo ay bF aJ) 1000000000000000000))
noncomputable def bT:Tb->List PV->Option Tb:=Jc 2 1 (gS ay bF aJ)
noncomputable def iD:aP:=(aY (iL (tV (aa kh (dV 1) (aZ (cB f6 "solved") (dV 0)))) (br (dC (.int 0))) bX) (br (aa cn (aa cn (aZ (cB f6 "rows") (dV 0)) (aa uk (aZ (cB f6 "solved") (dV 0)) (dV 1))) (aZ jH (dC (.int 1))))))
noncomputable def bS:List PV->Option PV:=fn false 2 2 (iD)
noncomputable def mq(bS:List PV->Option PV):aP:=(aY (cA 3 (kn (zP (dV 1)) (Bm (ah (aO 1) (ah (dU (iP bS) (aO 2) (ah (aa bQ (dV 4) (dV 0)) aA)) aA))))) (br (aT (nList (dV 3)) (tV (aa Bo (aa cn (dV 0) (dC (.int 1))) (dC (.int 0)))) (aO 0))))
noncomputable def dy:List PV->Option PV:=fn true 4 3 (mq bS)
noncomputable def u5(bU:List PV->Option PV)(dR:List PV->Option Tb)(bT:Tb->List PV->Option Tb)(dy:List PV->Option PV):jm:=(vZ (cA 2 (aG bU (ah (aO 0) (ah (aO 1) aA)))) (qb 3 dR bT (ah (aO 0) (ah (aO 1) (ah (aO 2) aA))) (KL (tV (aa Bo (aa cn (aZ (cB f6 "costs") (dV 3)) (aZ jH (dC (.int 1)))) (dC (.int 0)))) (Bt false (aG dy (ah (aO 3) (ah (aO 1) (ah (dC (.int 0)) aA)))) (aG dy (ah (aO 3) (ah (aO 2) (ah (aZ bM (dV 1)) aA))))) (vZ (cA 4 (I9 (aZ (cB f6 "costs") (dV 3)) (oH (aa bQ (aZ bM (dV 1)) (aZ bM (dV 2)))) p8)) (Bt true (I9 (dV 4) p8 (oH (dV 0))) (aa cn (dV 4) (dV 0)))))))
noncomputable def fT:List PV->Option PV:=Ma 5 2 (u5 bU dR bT dy)
noncomputable def cT:aP:=(iL (tV (aa iu (aa gP (dV 2) (dV 1)) (dV 2))) (br (dC (.bl true))) bX)
noncomputable def mi:aP:=(aY (hU (nList (aO 0)) (bh 2) cT) (br (dC (.bl false))))
noncomputable def aX:List PV->Option PV:=fn false 3 2 (mi)
noncomputable def wM:aP:=(br (sF (aZ (rB 0) (dV 0)) (Ja (aZ (rB 1) (dV 0)))))
noncomputable def aL:List PV->Option PV:=fn false 1 1 (wM)
noncomputable def ic(aX:List PV->Option PV)(aL:List PV->Option PV):aP:=(aY (iL (jy (eV (tV (aZ (rB 4) (dV 4)))) (jy (tV (aa dE (aZ bM (dV 4)) (dC (.int 2)))) (jy (eV (tV (aG aL (ah (aa cn (dV 4) (dC (.int 0))) aA)))) (eV (tV (aG aL (ah (aa cn (dV 4) (dC (.int 1))) aA))))))) (br (dC (.bl false))) bX) (aY (iL (jy (tV (aa ma (aa cn (dV 4) (dC (.int 0))) (dC (.int 0)))) (jy (tV (aa GY (aa cn (dV 4) (dC (.int 0))) (aa iN (dC (.int 1)) (dV 0)))) (jy (tV (aa ma (aa cn (dV 4) (dC (.int 1))) (dC (.int 1)))) (tV (aa GY (aa cn (dV 4) (dC (.int 1))) (aa Bn (dC (.int 10)) (dC (.int 60)))))))) (br (dC (.bl false))) bX) (iL (tV (aa dE (aG aX (ah (aO 1) (ah (aa cn (dV 4) (dC (.int 0))) aA))) (dV 3))) (br (dC (.bl false))) bX)))
noncomputable def mr(aX:List PV->Option PV)(aL:List PV->Option PV):aP:=(aY (iL (eV (tV (aZ (rB 3) (dV 2)))) (br (dC (.bl false))) bX) (aY (hU (nList (aO 2)) (bh 4) (ic aX aL)) (br (aa iu (aZ um (aT (nList (dV 2)) bt (aa cn (dV 0) (dC (.int 0))))) (aZ bM (dV 2))))))
noncomputable def bV:List PV->Option PV:=fn false 5 4 (mr aX aL)
noncomputable def eX(bV:List PV->Option PV):aP:=(aY (cA 7 (aZ kl (aT (nList (dV 3)) (tV (aa iu (aa gP (aa p7 (aa cn (dV 0) (dC (.int 0))) (dV 7)) (dC (.int 1))) (dC (.int 1)))) (aa cn (dV 0) (dC (.int 1)))))) (iL (tV (aa Bo (dV 7) (aZ kl (aT (nList (dV 4)) (tV (aa iu (aa gP (aa p7 (aa cn (dV 0) (dC (.int 0))) (dV 7)) (dC (.int 1))) (dC (.int 1)))) (aa cn (dV 0) (dC (.int 1))))))) (br (dC (.bl false))) bX))
noncomputable def kN(bV:List PV->Option PV):aP:=(aY (iL (jy (eV (tV (aZ (rB 4) (dV 2)))) (tV (aa dE (aZ bM (dV 2)) (dC (.int 2))))) (br (dC (.bl false))) bX) (aY (Nn (jI (bh 3) (bh 4)) (aO 2)) (aY (iL (jy (eV (tV (aG bV (ah (aO 0) (ah (aO 1) (ah (aO 3) (ah (dC (.bl true)) aA))))))) (eV (tV (aG bV (ah (aO 0) (ah (aO 1) (ah (aO 4) (ah (dC (.bl false)) aA)))))))) (br (dC (.bl false))) bX) (aY (cA 5 (aZ kl (aT (nList (dV 3)) bt (aa cn (dV 0) (dC (.int 1)))))) (aY (iL (jy (tV (aa iu (dV 5) (dC (.int 0)))) (tV (aa dE (dV 5) (aZ kl (aT (nList (dV 4)) bt (aa cn (dV 0) (dC (.int 1)))))))) (br (dC (.bl false))) bX) (aY (hU (cO (dV 0)) (bh 6) (eX bV)) (br (dC (.bl true)))))))))
noncomputable def dq:List PV->Option PV:=fn false 8 3 (kN bV)
noncomputable def eY(aX:List PV->Option PV)(aL:List PV->Option PV)(aq:List PV->Option PV):aP:=(aY (cA 5 (aZ kl (aT (nList (aG aq (ah (aO 4) aA))) bt (aa cn (aa cn (dV 3) (dC (.int 0))) (dV 0))))) (iL (tV (aa dE (aa GY (dV 5) (aa cn (dV 2) (dC (.int 1)))) (aG aX (ah (aO 1) (ah (aO 4) aA))))) (br (dC (.bl false))) bX))
noncomputable def gH(aX:List PV->Option PV)(aL:List PV->Option PV)(aq:List PV->Option PV):aP:=(iL (jy (eV (tV (aG aL (ah (aO 3) aA)))) (jy (tV (aa ma (dV 3) (dC (.int 0)))) (tV (aa GY (dV 3) (aa Bn (dC (.int 10)) (dC (.int 60))))))) (br (dC (.bl false))) bX)
noncomputable def kO(aX:List PV->Option PV)(aL:List PV->Option PV)(aq:List PV->Option PV):aP:=(aY (iL (jy (eV (tV (aZ (rB 4) (dV 2)))) (jy (tV (aa dE (aZ bM (dV 2)) (dC (.int 2)))) (jy (eV (tV (aZ (rB 3) (aa cn (dV 2) (dC (.int 0)))))) (tV (aa dE (aZ bM (aa cn (dV 2) (dC (.int 0)))) (dV 0)))))) (br (dC (.bl false))) bX) (aY (hU (nList (aa bQ (aa cn (dV 2) (dC (.int 0))) (jG (ah (aa cn (dV 2) (dC (.int 1))) aA)))) (bh 3) (gH aX aL aq)) (aY (hU (cO (aa iN (dC (.int 1)) (dV 0))) (bh 4) (eY aX aL aq)) (br (dC (.bl true))))))
noncomputable def dr:List PV->Option PV:=fn false 6 3 (kO aX aL aq)
noncomputable def kP(dq:List PV->Option PV)(dr:List PV->Option PV):aP:=(aY (iL (jy (eV (tV (aZ (rB 4) (dV 2)))) (jy (tV (aa dE (aZ bM (dV 2)) (dC (.int 2)))) (eV (tV (aZ (rB 1) (aa cn (dV 2) (dC (.int 0)))))))) (br (dC (.bl false))) bX) (aY (iL (tV (aa cn (dV 2) (dC (.int 0)))) (br (aG dr (ah (aO 0) (ah (aO 1) (ah (aa cn (dV 2) (dC (.int 1))) aA))))) bX) (br (aG dq (ah (aO 0) (ah (aO 1) (ah (aa cn (dV 2) (dC (.int 1))) aA)))))))
noncomputable def du:List PV->Option PV:=fn false 3 3 (kP dq dr)
noncomputable def EZ(aw:List PV->Option PV)(eN:List PV->Option PV)(fT:List PV->Option PV)(du:List PV->Option PV):aP:=(aY (cA 1 (aG aw (ah (aO 0) (ah (dC (.int 0)) aA)))) (aY (cA 2 (aa bQ (dC (.int 1)) (aa gO (dV 1) (dC (.int 6))))) (aY (cA 3 (aG eN (ah (aO 0) (ah (dC (.int 1)) (ah (dC (.int 16)) (ah (aO 2) aA)))))) (aY (cA 4 (aZ DF (dV 3))) (qc 5 fT (ah (aO 2) (ah (aO 4) aA)) (jy (eV (tV (aG du (ah (aO 2) (ah (aO 3) (ah (aO 5) aA)))))) (tV (aa dE (dV 4) (dV 3)))) (aY (cA 6 (aG fT (ah (aO 2) (ah (aO 4) aA)))) (br (sF (aG du (ah (aO 2) (ah (aO 3) (ah (aO 6) aA)))) (aa iu (aa cn (dV 6) (dC (.int 0))) (aa cn (dV 5) (dC (.int 0))))))))))))
noncomputable def wN:List PV->Option PV:=fn false 7 1 (EZ aw eN fT du)
noncomputable def top(i:Nat):Stmt:=PySem.Challenge.pw_signright_k51_weights_or_a_trade.main.body.getD i (.Pass ⟨0,0,0,0⟩)
noncomputable def jv(i j:Nat):Stmt:=Ho (top i) j
structure Bl(mg:Str->Option Value):Prop where
 all:mg "all" =none
 any:mg "any" =none
 bool:mg "bool" =none
 enumerate:mg "enumerate" =none
 int:mg "int" =none
 isinstance:mg "isinstance" =none
 len:mg "len" =none
 list:mg "list" =none
 range:mg "range" =none
 set:mg "set" =none
 sorted:mg "sorted" =none
 sum:mg "sum" =none
 tuple:mg "tuple" =none
 zip:mg "zip" =none
section
variable{l:PySem.W.OpenLaw}{w:World}{K:PySem.W.Frag}{h:Heap}{mg:Str->Option Value}
theorem all_mk{fa:Addr}(hK:hV F_place)(X:K.In h)(G:h.Ns mainGlobals mg)(TK:mg "law" =some (.ref fa))
  {rX wO va wQ vb yO yP HS E1 LG HU wR vc yQ mv iZ wU yR fC jw kQ g8 gn jY kR yS HV yT wV yU wW wX wY:Addr}
  {cF:Addr}
  {LH E2:Option Addr}{LI:Array (Option Value)}{LJ E3 E4 E5 yV E6:Value}{E7:Addr}
  (vd:PySem.W.nsIn K mainGlobals "Table" =some (some (.ref cF)))
  (qM:PySem.W.plainGet K cF Str.empty=true)
  (qN:PySem.W.hasDictIn K cF=true)
  (qO:PySem.W.plainOver K cF=true)
  (qP:PySem.W.findIn K (.ref cF) "__setattr__" =some (some (.builtin "object.__setattr__")))
  (kT:PySem.W.makesIn K cF=true)
  (qQ:PySem.W.keepIn K (.ref cF)=true)
  (QO:PySem.W.findIn K (.ref cF) "rows" =some none)
  (QP:PySem.W.findIn K (.ref cF) "solved" =some none)
  (QQ:PySem.W.findIn K (.ref cF) "costs" =some none)
  (QR:PySem.W.findIn K (.ref cF) "parts_of_one" =some none)
  (i9:FG K "_law_cell_at" (top 19) rX)
  (kU:FG K "_law_hands" (top 20) wO)
  (jO:FG K "_law_before" (top 21) va)
  (kW:FG K "_law_least" (top 23) wQ)
  (jP:FG K "_law_ladder" (top 24) vb)
  (mw:FG K "has_hand" (top 1) yO)
  (my:FG K "hands_of" (top 2) yP)
  (ve:FG K "place" (top 3) HS)
  (qR:FG K "within" (top 4) E1)
  (yW:FG K "lets" (top 7) LG)
  (vf:FG K "least" (top 8) HU)
  (kX:FG K "groups_of" (top 5) wR)
  (jQ:FG K "meets_each" (top 9) vc)
  (mz:FG K "stopping" (top 10) yQ)
  (fw:FG K "greatest_refused" (top 13) mv)
  (eu:FC K cF "__init__" "Table.__init__" (jv 12 0) iZ)
  (kY:FG K "standings" (top 14) wU)
  (mB:FG K "table_of" (top 15) yR)
  (cK:FC K cF "gainful_column" "Table.gainful_column" (jv 12 1) fC)
  (eO:FC K cF "cleared" "Table.cleared" (jv 12 4) jw)
  (fU:FC K cF "solve" "Table.solve" (jv 12 5) kQ)
  (dB:FC K cF "is_tighter" "Table.is_tighter" (jv 12 2) g8)
  (c7:FC K cF "tightest_row" "Table.tightest_row" (jv 12 3) gn)
  (fg:FC K cF "settle" "Table.settle" (jv 12 6) jY)
  (fV:FC K cF "taken" "Table.taken" (jv 12 7) kR)
  (mC:FG K "times_of" (top 16) yS)
  (vg:FG K "weigh" (top 17) HV)
  (mD:FG K "_law_lets" (top 22) yT)
  (kZ:FG K "_law_whole" (top 25) wV)
  (mE:FG K "_law_side" (top 27) yU)
  (k7:FG K "_law_trade" (top 28) wW)
  (k8:FG K "_law_paper" (top 26) wX)
  (k9:FG K "_law_right" (top 29) wY)
  (AD:PySem.W.nsIn K mainGlobals "law" =some (some (.ref E7)))
  (E8:K.lookup E7=some ⟨LJ,LH,.func (PySem.W.fnOf "law" "law" (gD (top 30)) (cz (top 30)) (aj (top 30)) .none E3 E4 E5 E2 yV E6),LI⟩)
  (vh:PySem.W.codeIn K yV "law" =true)
  (E9:PySem.W.keepIn K (.ref E7)=true)
  (Fb:PySem.W.nsIn K mainGlobals "all" =some none)
  (Fc:PySem.W.nsIn K mainGlobals "any" =some none)
  (yX:PySem.W.nsIn K mainGlobals "bool" =some none)
  (lg:PySem.W.nsIn K mainGlobals "enumerate" =some none)
  (Fd:PySem.W.nsIn K mainGlobals "int" =some none)
  (jR:PySem.W.nsIn K mainGlobals "isinstance" =some none)
  (Fe:PySem.W.nsIn K mainGlobals "len" =some none)
  (yY:PySem.W.nsIn K mainGlobals "list" =some none)
  (vi:PySem.W.nsIn K mainGlobals "range" =some none)
  (Ff:PySem.W.nsIn K mainGlobals "set" =some none)
  (qS:PySem.W.nsIn K mainGlobals "sorted" =some none)
  (Fg:PySem.W.nsIn K mainGlobals "sum" =some none)
  (vj:PySem.W.nsIn K mainGlobals "tuple" =some none)
  (Fh:PySem.W.nsIn K mainGlobals "zip" =some none)
  :∃(κ:Kl) (fd:FuncData),(∀(s:Shared) (v:Value),BindsTo s fd ⟨[v],[]⟩ [("_law_script",v)])/\∀base:Heap,K.In base->base.Ns mainGlobals mg->cM l.prog w K mg base iK 10 fa fd ["_law_script"] (uD K κ false wN):=by
 have e:=TK.symm.trans (PySem.W.mg_of X G AD)
 cases e
 obtain⟨Fi,bA⟩:=i9.ed ["_law_script","_law_k"] X G
 obtain⟨HW,bP⟩:=kU.ed ["_law_group"] X G
 obtain⟨Gh,fW⟩:=jO.ed ["_law_one","_law_two"] X G
 obtain⟨HX,dI⟩:=kW.ed ["_law_groups"] X G
 obtain⟨Gi,fX⟩:=jP.ed ["_law_script","_law_at","_law_most","_law_count"] X G
 obtain⟨Jp,eC⟩:=mw.ed ["group","hand"] X G
 obtain⟨Jq,iE⟩:=my.ed ["group"] X G
 obtain⟨N3,lH⟩:=ve.ed ["group"] X G
 obtain⟨Mi,lh⟩:=qR.ed ["one","two"] X G
 obtain⟨OU,qT⟩:=yW.ed ["ladder","group"] X G
 obtain⟨N4,nD⟩:=vf.ed ["groups"] X G
 obtain⟨HY,gL⟩:=kX.ed ["count"] X G
 obtain⟨Gj,fY⟩:=jQ.ed ["group","ladder"] X G
 obtain⟨Jr,iF⟩:=mz.ed ["count","ladder"] X G
 obtain⟨xD,cZ⟩:=fw.ed ["count","ladder"] X G
 obtain⟨yZ,fZ⟩:=eu.e.em ["self","bounds","rooms","worths"]
 obtain⟨HZ,dJ⟩:=kY.ed ["groups","hand"] X G
 obtain⟨Js,iG⟩:=mB.ed ["count","ones","others"] X G
 obtain⟨rY,cL⟩:=cK.e.em ["self"]
 obtain⟨AE,eP⟩:=eO.e.em ["self","numbers","pivot","column"]
 obtain⟨CP,iH⟩:=fU.e.em ["self","row","column"]
 obtain⟨wZ,eT⟩:=dB.e.em ["self","row","other","column"]
 obtain⟨vk,d7⟩:=c7.e.em ["self","column"]
 obtain⟨Ct,gT⟩:=fg.e.em ["self"]
 obtain⟨CQ,iI⟩:=fV.e.em ["self","column"]
 obtain⟨Jt,eD⟩:=mC.ed ["table","groups","start"] X G
 obtain⟨N5,i0⟩:=vg.ed ["count","ladder"] X G
 obtain⟨Ju,eE⟩:=mD.ed ["_law_ladder_here","_law_group"] X G
 obtain⟨H9,cH⟩:=kZ.ed ["_law_found"] X G
 obtain⟨Jv,eF⟩:=mE.ed ["_law_count","_law_ladder_here","_law_rows","_law_let"] X G
 obtain⟨Ic,gM⟩:=k7.ed ["_law_count","_law_ladder_here","_law_trade_here"] X G
 obtain⟨Ie,gN⟩:=k8.ed ["_law_count","_law_ladder_here","_law_paper_here"] X G
 obtain⟨Ig,dM⟩:=k9.ed ["_law_count","_law_ladder_here","_law_found"] X G
 have Fj:=Di (st:=(top 30)) E8 vh E9
 have Jw:Ed K mg "law" (top 30) ["_law_script"] _ _:=⟨Fj,Fj.binds (ps:=["_law_script"]) λ_ _ _ _ _ _ us hl=>by obtain⟨a0,rfl⟩:=Lg hl;rfl,PySem.W.mg_of X G AD⟩
 have B:Bl mg:=⟨PySem.W.mg_none_of X G Fb,PySem.W.mg_none_of X G Fc,PySem.W.mg_none_of X G yX,PySem.W.mg_none_of X G lg,PySem.W.mg_none_of X G Fd,PySem.W.mg_none_of X G jR,PySem.W.mg_none_of X G Fe,PySem.W.mg_none_of X G yY,PySem.W.mg_none_of X G vi,PySem.W.mg_none_of X G Ff,PySem.W.mg_none_of X G qS,PySem.W.mg_none_of X G Fg,PySem.W.mg_none_of X G vj,PySem.W.mg_none_of X G Fh⟩
 obtain⟨κ,rfl,hf⟩:∃κ:Kl,κ.adr 0=cF/\κ.fld=f6:=⟨⟨λ_=>cF,f6⟩,rfl,rfl⟩
 have C:Lo K κ:=⟨hf,⟨qM,qN,qO,qP⟩,QO,QP,QQ,QR⟩
 have w6:=eu.m
 have kT:Mk K (κ.adr 0) iZ:=⟨kT,w6.at_,w6.fn,qQ⟩
 have Ih:mg "Table" =some (.ref (κ.adr 0)):=PySem.W.mg_of X G vd
 have i4:Meth K (κ.adr 0) "gainful_column" fC:=cK.m
 have qU:Meth K (κ.adr 0) "cleared" jw:=eO.m
 have Fm:Meth K (κ.adr 0) "solve" kQ:=fU.m
 have rZ:Meth K (κ.adr 0) "is_tighter" g8:=dB.m
 have o4:Meth K (κ.adr 0) "tightest_row" gn:=c7.m
 have Cu:Meth K (κ.adr 0) "settle" jY:=fg.m
 have Fn:Meth K (κ.adr 0) "taken" kR:=fV.m
 refine⟨κ,PySem.W.fnOf "law" "law" (gD (top 30)) (cz (top 30)) (aj (top 30)) .none E3 E4 E5 E2 yV E6,λs v=>.of_eq rfl,λbase _ _=>?_⟩
 have q:Qd l.prog w mg base κ:=⟨⟩
 have gI:=FD q bA.F bA.b aw ["_law_script","_law_k"] 0 rfl λ_ _ _ _ _ _ hr nd=>(ax (eg (bz (lW (ae 1) (DE.b (cY (ae 0) B.len)))) (av (bI (bE (ae 0) (ae 1)))) bZ) (av (bI ao)))
 have i5:=FD q bP.F bP.b aq ["_law_group"] 0 rfl λ_ _ _ _ _ _ hr nd=>(av (gE (gz (mW (DE.b ao) B.range) (aj (top 20)) ["_law_group"] ["_law_group"] (λex C' s H=>(bz (gZ hr (DE.b (kr (DE.b (ux (ae 1) (ae 0))) (DE.b ao))) (DE.b ao)))) (λex C' s H=>(ak 0)))))
 have vm:=FD q fW.F fW.b bJ ["_law_one","_law_two","_law_here","_law_there","_law_left","_law_right_here"] 1 rfl λ_ _ _ _ _ _ hr nd=>(ax (cx 2 nd (DO.e (dA (i5.mono (by decide)) hr bP.m bP.F.kp bP.b (ai (ak 0) aK)))) (ax (cx 3 nd (DO.e (dA (i5.mono (by decide)) hr bP.m bP.F.kp bP.b (ai (ak 1) aK)))) (ax (eg (bz (iS hr (DE.b (cY (ae 2) B.len)) (DE.b (cY (ae 3) B.len)))) (av (bI (gQ (lW (DE.b (cY (ae 2) B.len)) (DE.b (cY (ae 3) B.len)))))) bZ) (ax (gR (Lb (ak 2) (ak 3) B.zip) (zZ (dP 4 nd) (dP 5 nd)) (av (eg (bz (iS hr (ae 4) (ae 5))) (av (bI (gQ (lW (ae 4) (ae 5))))) bZ))) (av (bI fO))))))
 have oQ:=FD q dI.F dI.b bu ["_law_groups","_law_found","_law_group","_law_inner","_law_at"] 2 rfl λ_ _ _ _ _ _ hr nd=>(ax (ph 1 nd (kz aK)) (ax (gR (mV (ak 0)) (dP 2 nd) (ax (Bw 3 nd (bL (ae 0)) (aj (top 23)) ["_law_groups","_law_found","_law_group","_law_inner","_law_at"] ["_law_groups","_law_found","_law_group","_law_inner","_law_at"] (λex C' s H=>(DW.t (qh (bz (gZ hr (DE.b (kr (ae 0) (ae 3))) (ae 0))) (mU (bz (iS hr (ae 0) (ae 3))))))) (λex C' s H=>(ak 0))) (av (eg (DW.t (qh (bz (gZ hr (DE.b (cY (ae 3) B.len)) (DE.b ao))) (mU (bz (wd (ae 2) (ae 1)))))) (ax (cx 4 nd ao) (ax (DY 1000 (DW.t (qh (bz (lW (ae 4) (DE.b (cY (ae 1) B.len)))) (mU (dO (cC (vm.mono (by decide)) hr fW.m fW.F.kp fW.b (ai (bE (ae 1) (ae 4)) (ai (ak 2) aK))))))) (av (cx 4 nd (c8 (ae 4) (DE.b ao))))) (av (BI 1 (ai (ak 4) (ai (ak 2) aK)))))) bZ)))) (av (zX 1))))
 have vn:=FD q fX.F fX.b eN ["_law_script","_law_at","_law_most","_law_count","_law_number","_law_size","_law_groups","_law_k","_law_cell","_law_group"] 3 rfl λ_ _ _ _ _ _ hr nd=>(ax (cx 4 nd (cC (gI.mono (by decide)) hr bA.m bA.F.kp bA.b (ai (ak 0) (ai (ak 1) aK)))) (ax (cx 5 nd (ku (DE.b (cC (gI.mono (by decide)) hr bA.m bA.F.kp bA.b (ai (ak 0) (ai (c8 (ae 1) (DE.b ao)) aK)))) (DE.b (c8 (ae 3) (DE.b ao))))) (ax (eg (DW.t (qh (bz (v7 (ae 2) (DE.b ao))) (mU (bz (gZ hr (DE.b (ku (DE.b (qf (ae 4) (DE.b (c8 (DE.b (qg (DE.b ao) (ae 2))) (DE.b ao))))) (DE.b ao))) (DE.b ao)))))) (av (gE (dA (oQ.mono (by decide)) hr dI.m dI.F.kp dI.b (ai (DO.e (gz (mW (DE.b (kx (DE.b ao) (ae 3))) B.range) (aj (top 24)) ["_law_script","_law_at","_law_most","_law_count","_law_number","_law_size","_law_groups","_law_k","_law_cell","_law_group"] ["_law_script","_law_at","_law_most","_law_count","_law_number","_law_size","_law_groups","_law_k","_law_cell","·9"] (λex C' s H=>(bz (gZ hr (DE.b (cY (DO.b (dA (i5.mono (by decide)) hr bP.m bP.F.kp bP.b (ai (ak 0) aK))) B.len)) (ae 6)))) (λex C' s H=>(ak 0)))) aK)))) bZ) (ax (ph 6 nd (kz aK)) (ax (gR (lB (DE.b (ku (ae 4) (DE.b (c8 (ae 2) (DE.b ao))))) B.range) (dP 7 nd) (ax (cx 8 nd (cC (gI.mono (by decide)) hr bA.m bA.F.kp bA.b (ai (ak 0) (ai (c8 (DE.b (c8 (ae 1) (DE.b ao))) (ae 7)) aK)))) (ax (cx 9 nd (ku (ae 8) (DE.b (kx (DE.b ao) (ae 3))))) (ax (eg (bz (gZ hr (DE.b (ku (DE.b (qf (ae 4) (DE.b (c8 (ae 2) (DE.b ao))))) (DE.b ao))) (DE.b ao))) (av (cx 9 nd (Jd (DE.b (Jd (ae 9) (DE.b (kx (DE.b ao) (DE.b (ku (DE.b (qf (ae 8) (DE.b ao))) (ae 3))))))) (DE.b (kx (DE.b ao) (DE.b (ku (DE.b (qf (ae 8) (DE.b ao))) (ae 3)))))))) bZ) (av (jn 6 (ai (ak 9) aK))))))) (He 6 (av (gE (dA (oQ.mono (by decide)) hr dI.m dI.F.kp dI.b (ai (ak 6) aK))))))))))
 have qV:=FD q eC.F eC.b dw ["group","hand"] 0 rfl λ_ _ _ _ _ _ hr nd=>(av (bI (gQ (gZ hr (DE.b (kr (DE.b (ux (ae 0) (ae 1))) (DE.b ao))) (DE.b ao)))))
 have y6:=FD q iE.F iE.b gA ["group"] 1 rfl λ_ _ _ _ _ _ hr nd=>(av (gE (gz (mW (DE.b (Hl (ae 0))) B.range) (aj (top 2)) ["group"] ["group"] (λex C' s H=>(dO (cC (qV.mono (by decide)) hr eC.m eC.F.kp eC.b (ai (ak 1) (ai (ak 0) aK))))) (λex C' s H=>(ak 0)))))
 have AF:=FD q lH.F lH.b F_place ["group","hands"] 2 rfl λ_ _ _ _ _ _ hr nd=>(ax (cx 1 nd (DO.e (dA (y6.mono (by decide)) hr iE.m iE.F.kp iE.b (ai (ak 0) aK)))) (av (bI (DV (ai (cY (ae 1) B.len) (ai (ak 1) aK))))))
 have Fo:=FD q lh.F lh.b jr ["one","two"] 0 rfl λ_ _ _ _ _ _ hr nd=>(av (bI (gQ (gZ hr (DE.b (kr (ae 0) (ae 1))) (ae 0)))))
 have LK:=FD q qT.F qT.b dQ ["ladder","group"] 1 rfl λ_ _ _ _ _ _ hr nd=>(av (bI (K8 (DO.b (c5 (bL (ae 0)) (aj (top 7)) ["ladder","group"] ["ladder","group"] (λex C' s H=>(cC (Fo.mono (by decide)) hr lh.m lh.F.kp lh.b (ai (ak 0) (ai (ak 2) aK)))))) B.any)))
 have Ii:=FD q nD.F nD.b hZ ["groups","ladder","group"] 5 rfl λ_ _ _ _ _ _ hr nd=>(ax (ph 1 nd (kz aK)) (ax (gR (mV (DO.e (yq AF (hr.mono (by decide)) lH.b hK B.sorted lH.m (ae 0)))) (dP 2 nd) (av (eg (fP (dO (D0 (LK.mono (by decide)) hr qT.m qT.F.kp qT.b (v8 (ae 1) (v8 (ae 2) Hc))))) (av (jn 1 (ai (ak 2) aK))) bZ))) (av (zX 1))))
 have w9:=FD q gL.F gL.b cV ["count"] 5 rfl λ_ _ _ _ _ _ hr nd=>(av (gE (yr AF (hr.mono (by decide)) lH.b hK B.sorted B.range lH.m (DE.b (kx (DE.b ao) (ae 0))))))
 have vo:=FD q fY.F fY.b cD ["group","ladder"] 0 rfl λ_ _ _ _ _ _ hr nd=>(av (bI (K9 (DO.b (c5 (bL (ae 1)) (aj (top 9)) ["group","ladder"] ["group","ladder"] (λex C' s H=>(gQ (iS hr (DE.b (kr (ae 1) (ae 0))) (DE.b ao)))))) B.all)))
 have y7:=FD q iF.F iF.b fq ["count","ladder"] 6 rfl λ_ _ _ _ _ _ hr nd=>(av (gE (dA (Ii.mono (by decide)) hr nD.m nD.F.kp nD.b (ai (DO.e (gz (bL (DO.b (dA (w9.mono (by decide)) hr gL.m gL.F.kp gL.b (ai (ak 0) aK)))) (aj (top 10)) ["count","ladder"] ["count","ladder"] (λex C' s H=>(dO (cC (vo.mono (by decide)) hr fY.m fY.F.kp fY.b (ai (ak 0) (ai (ak 2) aK))))) (λex C' s H=>(ak 0)))) aK))))
 have mF:=FD q cZ.F cZ.b bU ["count","ladder","everyone"] 7 rfl λ_ _ _ _ _ _ hr nd=>(ax (cx 2 nd (uw (DE.b (kx (DE.b ao) (ae 0))) (DE.b ao))) (av (gE (c5 (bL (DO.b (dA (y7.mono (by decide)) hr iF.m iF.F.kp iF.b (ai (ak 0) (ai (ak 1) aK))))) (aj (top 13)) ["count","ladder","everyone"] ["count","ladder","everyone"] (λex C' s H=>(uw (ae 3) (ae 0)))))))
 have nE:=FI q fZ.F fZ.b aV ["self","bounds","rooms","worths","place","bound","left_over"] 0 rfl λ_ _ _ _ _ _ hr nd=>(NN C.yx (Hz 1 4 5 nd B.enumerate (wB (Hy 6 nd (mW (DE.b (cY (ae 1) B.len)) B.range) (aj (jv 12 0)) ["self","bounds","rooms","worths","place","bound","left_over"] ["self","bounds","rooms","worths","place","bound","left_over"] (λex C' s H=>(Ah (DE.b (gQ (gZ hr (ae 0) (ae 5)))) B.int))) (wB (Lk C.yx (c8 (DE.b (c8 (ae 5) (ae 6))) (DO.b (kz (ai (bE (ae 2) (ae 4)) aK))))) (Hx (Ll C.yx (c8 (DE.b (cY (ae 3) B.len)) (ae 4))))))) (c8 (DE.b (c8 (DO.b (c5 (bL (ae 3)) (aj (jv 12 0)) ["self","bounds","rooms","worths","place","bound","left_over"] ["self","bounds","rooms","worths","place","bound","left_over"] (λex C' s H=>(ky (ae 0))))) (DO.b (c5 (bL (ae 1)) (aj (jv 12 0)) ["self","bounds","rooms","worths","place","bound","left_over"] ["self","bounds","rooms","worths","place","·5","left_over"] (λex C' s H=>ao))))) (DO.b (kz (ai ao aK)))) ao)
 have oR:=FD q dJ.F dJ.b bD ["groups","hand"] 1 rfl λ_ _ _ _ _ _ hr nd=>(av (gE (c5 (bL (ae 0)) (aj (top 14)) ["groups","hand"] ["groups","hand"] (λex C' s H=>(Ah (DE.b (cC (qV.mono (by decide)) hr eC.m eC.F.kp eC.b (ai (ak 0) (ai (ak 2) aK)))) B.int)))))
 have y8:=FT q iG.F iG.b dR ["count","ones","others","bounds","hand","rooms","worths"] 2 rfl λ_ _ _ _ _ _ hr nd=>(jq (ph 3 nd (kz aK)) (jq (gR (lB (ae 0) B.range) (dP 4 nd) (av (jn 3 (ai (c8 (DO.b (dA (oR.mono (by decide)) hr dJ.m dJ.F.kp dJ.b (ai (ak 1) (ai (ak 4) aK)))) (DO.b (c5 (bL (DO.b (dA (oR.mono (by decide)) hr dJ.m dJ.F.kp dJ.b (ai (ak 2) (ai (ak 4) aK))))) (aj (top 15)) ["count","ones","others","bounds","hand","rooms","worths"] ["count","ones","others","bounds","hand","rooms","worths"] (λex C' s H=>(ky (ae 0)))))) aK)))) (jq (jn 3 (ai (c8 (DO.b (c5 (bL (ae 1)) (aj (top 15)) ["count","ones","others","bounds","hand","rooms","worths"] ["count","ones","others","bounds","hand","rooms","worths"] (λex C' s H=>(ky (DE.b ao))))) (DO.b (c5 (bL (ae 2)) (aj (top 15)) ["count","ones","others","bounds","hand","rooms","worths"] ["count","ones","others","bounds","hand","rooms","worths"] (λex C' s H=>ao)))) aK)) (jq (jn 3 (ai (c8 (DO.b (c5 (bL (ae 1)) (aj (top 15)) ["count","ones","others","bounds","hand","rooms","worths"] ["count","ones","others","bounds","hand","rooms","worths"] (λex C' s H=>ao))) (DO.b (c5 (bL (ae 2)) (aj (top 15)) ["count","ones","others","bounds","hand","rooms","worths"] ["count","ones","others","bounds","hand","rooms","worths"] (λex C' s H=>ao)))) aK)) (jq (cx 5 nd (c8 (DO.b (c5 (bL (DO.b (qk (ae 3) uF (uG (DE.b (ky (DE.b ao))))))) (aj (top 15)) ["count","ones","others","bounds","hand","rooms","worths"] ["count","ones","others","bounds","hand","rooms","worths"] (λex C' s H=>ao))) (DO.b (kz (ai ao aK))))) (jq (cx 6 nd (c8 (DO.b (c5 (bL (ae 1)) (aj (top 15)) ["count","ones","others","bounds","hand","rooms","worths"] ["count","ones","others","bounds","hand","rooms","worths"] (λex C' s H=>ao))) (DO.b (c5 (bL (ae 2)) (aj (top 15)) ["count","ones","others","bounds","hand","rooms","worths"] ["count","ones","others","bounds","hand","rooms","worths"] (λex C' s H=>ao))))) (HA 3 (Er kT nE (hr.mono (by decide)) Ih fZ.b (ai (ak 3) (ai (ak 5) (ai (ak 6) aK)))))))))))
 have fD:=FD q cL.F cL.b ay ["self","column"] 0 rfl λ_ _ _ _ _ _ hr nd=>(ax (gR (lB (DE.b (uw (DE.b (cY (DE.b (cS C (ae 0))) B.len)) (DE.b ao))) B.range) (dP 1 nd) (av (eg (bz (lW (DE.b (bE (DE.b (cS C (ae 0))) (ae 1))) (DE.b ao))) (av (bI (ak 1))) bZ))) (av (bI DR)))
 have jx:=FD q eP.F eP.b aI ["self","numbers","pivot","column"] 0 rfl λ_ _ _ _ _ _ hr nd=>(av (gE (Ee (HC (ak 1) (ak 2) B.zip) (aj (jv 12 4)) ["self","numbers","pivot","column"] ["self","numbers","pivot","column"] (λex C' s H=>(qf (DE.b (uw (DE.b (qg (ae 0) (DE.b (bE (ae 4) (ae 5))))) (DE.b (qg (DE.b (bE (ae 3) (ae 5))) (ae 1))))) (DE.b (cS C (ae 2))))))))
 have qW:=FM q iH.F iH.b bF ["self","row","column","pivot","other"] 1 rfl λ_ _ _ _ _ _ hr nd=>(jo (Ht C.yx 3 nd (ae 1)) (jo (Lj C.yx 4 nd (DE.b (cY (DE.b (cS C (ae 0))) B.len)) B.range (nc (NM C.yx (bz (iS hr (ae 4) (ae 1))) (nc (Lh C.yx (ae 4) (Af (fm C qU (jx.mono (by decide)) eP.b) hr (ak 0) (ai (bE (DE.b (cS C (ae 0))) (ae 4)) (ai (ak 3) (ai (ak 2) aK)))))) Hr))) (jo (Ej C.yx (Af (fm C qU (jx.mono (by decide)) eP.b) hr (ak 0) (ai (cS C (ae 0)) (ai (ak 3) (ai (ak 2) aK))))) (jo (Li C.yx (ae 1) (ak 2)) (nc (Ek C.yx (bE (ae 3) (ae 2))))))))
 have lR:=FD q eT.F eT.b aN ["self","row","other","column","here","there"] 0 rfl λ_ _ _ _ _ _ hr nd=>(ax (cx 4 nd (qg (DE.b (bE (DE.b (bE (DE.b (cS C (ae 0))) (ae 1))) (DE.b (ky (DE.b ao))))) (DE.b (bE (DE.b (bE (DE.b (cS C (ae 0))) (ae 2))) (ae 3))))) (ax (cx 5 nd (qg (DE.b (bE (DE.b (bE (DE.b (cS C (ae 0))) (ae 2))) (DE.b (ky (DE.b ao))))) (DE.b (bE (DE.b (bE (DE.b (cS C (ae 0))) (ae 1))) (ae 3))))) (av (bI (KU (gQ (lW (ae 4) (ae 5))) (uy (uz (gQ (gZ hr (ae 4) (ae 5))) (uy (gQ (lW (DE.b (bE (DE.b (cS C (ae 0))) (ae 1))) (DE.b (bE (DE.b (cS C (ae 0))) (ae 2)))))))))))))
 have j4:=FD q d7.F d7.b aJ ["self","column","tightest","row"] 1 rfl λ_ _ _ _ _ _ hr nd=>(ax (cx 2 nd DR) (ax (gR (lB (DE.b (cY (DE.b (cS C (ae 0))) B.len)) B.range) (dP 3 nd) (av (eg (DW.t (qh (bz (v7 (DE.b (bE (DE.b (bE (DE.b (cS C (ae 0))) (ae 3))) (ae 1))) (DE.b ao))) (mU (DW.t (gg (bz (K7 (ae 2))) (i7 (dO (uM (fm C rZ (lR.mono (by decide)) eT.b) hr (ak 0) (ai (ak 3) (ai (ak 2) (ai (ak 1) aK))))))))))) (av (cx 2 nd (ak 3))) bZ))) (av (bI (ak 2)))))
 have o5:=FM q gT.F gT.b bT ["self","column"] 2 rfl λ_ _ _ _ _ _ hr nd=>(jo (Aj C.yx 1 nd (wt (fm C i4 (fD.mono (by decide)) cL.b) hr (ak 0))) (nc (El C.yx 1000000000000000000 (bz (Hi (ae 1))) (jo (Hv C.yx Fm (qW.mono (by decide)) hr iH.b (ai (uM (fm C o4 (j4.mono (by decide)) d7.b) hr (ak 0) (ai (ak 1) aK)) (ai (ak 1) aK))) (nc (Aj C.yx 1 nd (wt (fm C i4 (fD.mono (by decide)) cL.b) hr (ak 0))))))))
 have qX:=FD q iI.F iI.b bS ["self","column"] 0 rfl λ_ _ _ _ _ _ hr nd=>(ax (eg (bz (wd (ae 1) (DE.b (cS C (ae 0))))) (av (bI ao)) bZ) (av (bI (bE (DE.b (bE (DE.b (cS C (ae 0))) (DE.b (BO (DE.b (cS C (ae 0))) (ae 1))))) (DE.b (ky (DE.b ao)))))))
 have qY:=FD q eD.F eD.b dy ["table","groups","start","times"] 1 rfl λ_ _ _ _ _ _ hr nd=>(ax (Ef 3 nd (Ec (ae 1) B.enumerate) (aj (top 16)) ["table","groups","start","times"] ["table","groups","start","times"] (λex C' s H=>(DV (ai (ak 1) (ai (uM (fm C Fn (qX.mono (by decide)) iI.b) hr (ak 2) (ai (c8 (ae 4) (ae 0)) aK)) aK))))) (av (gE (gz (bL (ae 3)) (aj (top 16)) ["table","groups","start","times"] ["table","groups","start","times"] (λex C' s H=>(bz (v7 (DE.b (bE (ae 0) (DE.b ao))) (DE.b ao)))) (λex C' s H=>(ak 0))))))
 have AG:=FW q i0.F i0.b fT ["count","ladder","others","table","worths"] 8 rfl λ_ _ _ _ _ _ hr nd=>(wC (cx 2 nd (DO.e (dA (mF.mono (by decide)) hr cZ.m cZ.F.kp cZ.b (ai (ak 0) (ai (ak 1) aK))))) (BS C.yx 3 nd (y8.mono (by decide)) hr iG.m iG.F.kp iG.b Cu (o5.mono (by decide)) hr gT.b (ai (ak 0) (ai (ak 1) (ai (ak 2) aK))) (Lp (bz (v7 (DE.b (bE (DE.b (cS C (ae 3))) (DE.b (ky (DE.b ao))))) (DE.b ao))) (Ak (dA (qY.mono (by decide)) hr eD.m eD.F.kp eD.b (ai (ak 3) (ai (ak 1) (ai ao aK)))) (DO.e (dA (qY.mono (by decide)) hr eD.m eD.F.kp eD.b (ai (ak 3) (ai (ak 2) (ai (cY (ae 1) B.len) aK)))))) (wC (cx 4 nd (DO.e (qk (DE.b (cS C (ae 3))) (uG (DE.b (c8 (DE.b (cY (ae 1) B.len)) (DE.b (cY (ae 2) B.len))))) uF))) (Ak (qk (ae 4) uF (uG (ae 0))) (bE (ae 4) (ae 0)))))))
 have qZ:=FD q eE.F eE.b aX ["_law_ladder_here","_law_group","_law_rung"] 0 rfl λ_ _ _ _ _ _ hr nd=>(ax (gR (mV (ak 0)) (dP 2 nd) (av (eg (bz (gZ hr (DE.b (kr (ae 2) (ae 1))) (ae 2))) (av (bI fO)) bZ))) (av (bI fO)))
 have lj:=FD q cH.F cH.b aL ["_law_found"] 0 rfl λ_ _ _ _ _ _ hr nd=>(av (bI (uz (rM (ae 0) B.isinstance B.int) (uy (Hb (kC (ae 0) B.isinstance B.bool))))))
 have q9:=FD q eF.F eF.b bV ["_law_count","_law_ladder_here","_law_rows","_law_let","_law_row"] 1 rfl λ_ _ _ _ _ _ hr nd=>(ax (eg (fP (dO (kD (ae 2) B.isinstance B.list))) (av (bI fO)) bZ) (ax (gR (mV (ak 2)) (dP 4 nd) (ax (eg (DW.t (gg (fP (dO (eZ (ae 4) B.isinstance B.tuple))) (gg (bz (iS hr (DE.b (cY (ae 4) B.len)) (DE.b ao))) (gg (fP (dO (cC (lj.mono (by decide)) hr cH.m cH.F.kp cH.b (ai (bE (ae 4) (DE.b ao)) aK)))) (i7 (fP (dO (cC (lj.mono (by decide)) hr cH.m cH.F.kp cH.b (ai (bE (ae 4) (DE.b ao)) aK))))))))) (av (bI fO)) bZ) (ax (eg (DW.t (gg (bz (lW (DE.b (bE (ae 4) (DE.b ao))) (DE.b ao))) (gg (bz (zU (DE.b (bE (ae 4) (DE.b ao))) (DE.b (kx (DE.b ao) (ae 0))))) (gg (bz (lW (DE.b (bE (ae 4) (DE.b ao))) (DE.b ao))) (i7 (bz (zU (DE.b (bE (ae 4) (DE.b ao))) (DE.b (DU (DE.b ao) (DE.b ao)))))))))) (av (bI fO)) bZ) (av (eg (bz (iS hr (DE.b (cC (qZ.mono (by decide)) hr eE.m eE.F.kp eE.b (ai (ak 1) (ai (bE (ae 4) (DE.b ao)) aK)))) (ae 3))) (av (bI fO)) bZ))))) (av (bI (gQ (gZ hr (DE.b (BP (DO.b (c5 (bL (ae 2)) (aj (top 27)) ["_law_count","_law_ladder_here","_law_rows","_law_let","_law_row"] ["_law_count","_law_ladder_here","_law_rows","_law_let","·4"] (λex C' s H=>(bE (ae 0) (DE.b ao))))) B.len B.set)) (DE.b (cY (ae 2) B.len))))))))
 have xa:=FD q gM.F gM.b dq ["_law_count","_law_ladder_here","_law_trade_here","_law_ones","_law_others","_law_many","_law_hand","_law_here"] 2 rfl λ_ _ _ _ _ _ hr nd=>(ax (eg (DW.t (gg (fP (dO (eZ (ae 2) B.isinstance B.tuple))) (i7 (bz (iS hr (DE.b (cY (ae 2) B.len)) (DE.b ao)))))) (av (bI fO)) bZ) (ax (Le (zZ (dP 3 nd) (dP 4 nd)) (ak 2)) (ax (eg (DW.t (gg (fP (dO (cC (q9.mono (by decide)) hr eF.m eF.F.kp eF.b (ai (ak 0) (ai (ak 1) (ai (ak 3) (ai fO aK))))))) (i7 (fP (dO (cC (q9.mono (by decide)) hr eF.m eF.F.kp eF.b (ai (ak 0) (ai (ak 1) (ai (ak 4) (ai fO aK)))))))))) (av (bI fO)) bZ) (ax (cx 5 nd (qr (DO.b (c5 (bL (ae 3)) (aj (top 28)) ["_law_count","_law_ladder_here","_law_trade_here","_law_ones","_law_others","_law_many","_law_hand","_law_here"] ["_law_count","_law_ladder_here","_law_trade_here","_law_ones","_law_others","_law_many","_law_hand","_law_here"] (λex C' s H=>(bE (ae 0) (DE.b ao))))) B.sum)) (ax (eg (DW.t (gg (bz (gZ hr (ae 5) (DE.b ao))) (i7 (bz (iS hr (ae 5) (DE.b (qr (DO.b (c5 (bL (ae 4)) (aj (top 28)) ["_law_count","_law_ladder_here","_law_trade_here","_law_ones","_law_others","_law_many","_law_hand","_law_here"] ["_law_count","_law_ladder_here","_law_trade_here","_law_ones","_law_others","_law_many","_law_hand","_law_here"] (λex C' s H=>(bE (ae 0) (DE.b ao))))) B.sum))))))) (av (bI fO)) bZ) (ax (gR (lB (ae 0) B.range) (dP 6 nd) (ax (cx 7 nd (qr (DO.b (gz (bL (ae 3)) (aj (top 28)) ["_law_count","_law_ladder_here","_law_trade_here","_law_ones","_law_others","_law_many","_law_hand","_law_here"] ["_law_count","_law_ladder_here","_law_trade_here","_law_ones","_law_others","_law_many","_law_hand","_law_here"] (λex C' s H=>(bz (gZ hr (DE.b (kr (DE.b (ux (DE.b (bE (ae 0) (DE.b ao))) (ae 7))) (DE.b ao))) (DE.b ao)))) (λex C' s H=>(bE (ae 0) (DE.b ao))))) B.sum)) (av (eg (bz (v7 (ae 7) (DE.b (qr (DO.b (gz (bL (ae 4)) (aj (top 28)) ["_law_count","_law_ladder_here","_law_trade_here","_law_ones","_law_others","_law_many","_law_hand","_law_here"] ["_law_count","_law_ladder_here","_law_trade_here","_law_ones","_law_others","_law_many","_law_hand","_law_here"] (λex C' s H=>(bz (gZ hr (DE.b (kr (DE.b (ux (DE.b (bE (ae 0) (DE.b ao))) (ae 7))) (DE.b ao))) (DE.b ao)))) (λex C' s H=>(bE (ae 0) (DE.b ao))))) B.sum)))) (av (bI fO)) bZ)))) (av (bI fO))))))))
 have xb:=FD q gN.F gN.b dr ["_law_count","_law_ladder_here","_law_paper_here","_law_number","_law_group","_law_heavy"] 1 rfl λ_ _ _ _ _ _ hr nd=>(ax (eg (DW.t (gg (fP (dO (eZ (ae 2) B.isinstance B.tuple))) (gg (bz (iS hr (DE.b (cY (ae 2) B.len)) (DE.b ao))) (gg (fP (dO (kD (DE.b (bE (ae 2) (DE.b ao))) B.isinstance B.list))) (i7 (bz (iS hr (DE.b (cY (DE.b (bE (ae 2) (DE.b ao))) B.len)) (ae 0)))))))) (av (bI fO)) bZ) (ax (gR (mV (c8 (DE.b (bE (ae 2) (DE.b ao))) (DO.b (kz (ai (bE (ae 2) (DE.b ao)) aK))))) (dP 3 nd) (av (eg (DW.t (gg (fP (dO (cC (lj.mono (by decide)) hr cH.m cH.F.kp cH.b (ai (ak 3) aK)))) (gg (bz (lW (ae 3) (DE.b ao))) (i7 (bz (zU (ae 3) (DE.b (DU (DE.b ao) (DE.b ao))))))))) (av (bI fO)) bZ))) (ax (gR (lB (DE.b (kx (DE.b ao) (ae 0))) B.range) (dP 4 nd) (ax (cx 5 nd (qr (DO.b (c5 (bL (DO.b (dA (i5.mono (by decide)) hr bP.m bP.F.kp bP.b (ai (ak 4) aK)))) (aj (top 26)) ["_law_count","_law_ladder_here","_law_paper_here","_law_number","_law_group","_law_heavy"] ["_law_count","_law_ladder_here","_law_paper_here","_law_number","_law_group","_law_heavy"] (λex C' s H=>(bE (DE.b (bE (ae 3) (DE.b ao))) (ae 0))))) B.sum)) (av (eg (bz (iS hr (DE.b (gQ (zU (ae 5) (DE.b (bE (ae 2) (DE.b ao)))))) (DE.b (cC (qZ.mono (by decide)) hr eE.m eE.F.kp eE.b (ai (ak 1) (ai (ak 4) aK)))))) (av (bI fO)) bZ)))) (av (bI fO)))))
 have oS:=FD q dM.F dM.b du ["_law_count","_law_ladder_here","_law_found"] 3 rfl λ_ _ _ _ _ _ hr nd=>(ax (eg (DW.t (gg (fP (dO (eZ (ae 2) B.isinstance B.tuple))) (gg (bz (iS hr (DE.b (cY (ae 2) B.len)) (DE.b ao))) (i7 (fP (dO (kC (DE.b (bE (ae 2) (DE.b ao))) B.isinstance B.bool))))))) (av (bI fO)) bZ) (ax (eg (dO (bE (ae 2) (DE.b ao))) (av (bI (cC (xb.mono (by decide)) hr gN.m gN.F.kp gN.b (ai (ak 0) (ai (ak 1) (ai (bE (ae 2) (DE.b ao)) aK)))))) bZ) (av (bI (cC (xa.mono (by decide)) hr gM.m gM.F.kp gM.b (ai (ak 0) (ai (ak 1) (ai (bE (ae 2) (DE.b ao)) aK))))))))
 have N6:=FD q Jw.F Jw.b wN ["_law_script","_law_first","_law_count","_law_ladder_here","_law_handed","_law_found","_law_again"] 9 rfl λ_ _ _ _ _ _ hr nd=>(ax (cx 1 nd (cC (gI.mono (by decide)) hr bA.m bA.F.kp bA.b (ai (ak 0) (ai ao aK)))) (ax (cx 2 nd (c8 (DE.b ao) (DE.b (ku (ae 1) (DE.b ao))))) (ax (cx 3 nd (DO.e (dA (vn.mono (by decide)) hr fX.m fX.F.kp fX.b (ai (ak 0) (ai ao (ai ao (ai (ak 2) aK))))))) (ax (cx 4 nd (DO.e (Hk (ae 3) B.list))) (BU 5 nd (AG.mono (by decide)) hr i0.m i0.F.kp i0.b (ai (ak 2) (ai (ak 4) aK)) (DW.t (gg (fP (dO (cC (oS.mono (by decide)) hr dM.m dM.F.kp dM.b (ai (ak 2) (ai (ak 3) (ai (ak 5) aK)))))) (i7 (bz (iS hr (ae 4) (ae 3)))))) (ax (cx 6 nd (cC (cM.Tw (AG.mono (by decide))) hr i0.m i0.F.kp i0.b (ai (ak 2) (ai (ak 4) aK)))) (av (bI (uz (cC (oS.mono (by decide)) hr dM.m dM.F.kp dM.b (ai (ak 2) (ai (ak 3) (ai (ak 6) aK)))) (uy (gQ (gZ hr (DE.b (bE (ae 6) (DE.b ao))) (DE.b (bE (ae 5) (DE.b ao)))))))))))))))
 exact N6
end
noncomputable def ar(f:Nat->Int)(n:Nat):PV:=.lst ((List.range n).map λj=>.int (f j))
noncomputable def eQ(m n:Nat)(tf:Nat->Nat->Int)(sf:Nat->Nat)(cf:Nat->Int)(d:Int):Tb:=⟨(List.range m).map λi=>ar (tf i) n,(List.range m).map λk=>.int (sf k:Nat),ar cf n,.int d⟩
theorem jS{f:Nat->PV}{n k:Nat}(h:k<n):itemAt ((List.range n).map f) (k:Int)=some (f k):=by
 unfold itemAt CN
 rw[List.length_map,List.length_range,if_pos (by omega),if_pos (by omega)]
 show((List.range n).map f)[((k:Int)).toNat]?=_
 rw[Int.toNat_natCast,List.getElem?_map,List.getElem?_range h]
 rfl
theorem xc{f:Nat->PV}{n:Nat}(h:0<n):itemAt ((List.range n).map f) (-1)=some (f (n-1)):=by
 unfold itemAt CN
 rw[List.length_map,List.length_range,if_neg (by decide),if_pos (by omega)]
 show((List.range n).map f)[((-1:Int)+n).toNat]?=_
 rw[show((-1:Int)+n).toNat=n-1 by omega,List.getElem?_map,List.getElem?_range (by omega)]
 rfl
section
variable{m n:Nat}{tf:Nat->Nat->Int}{sf:Nat->Nat}{cf:Nat->Int}{d:Int}{ρ:cg}{a b c:Den}
theorem xf{t:Tb}(h:a ρ=some (dz t)):aZ (cB f6 "rows") a ρ=some (.lst t.rows):=by
 rw[d6 h]
 rfl
theorem AH{t:Tb}(h:a ρ=some (dz t)):aZ (cB f6 "solved") a ρ=some (.lst t.sol):=by
 rw[d6 h]
 rfl
theorem oB{t:Tb}(h:a ρ=some (dz t)):aZ (cB f6 "costs") a ρ=some t.cs:=by
 rw[d6 h]
 rfl
theorem Cv{t:Tb}(h:a ρ=some (dz t)):aZ (cB f6 "parts_of_one") a ρ=some t.dd:=by
 rw[d6 h]
 rfl
theorem jc{f:Nat->Int}{k:Nat}(ha:a ρ=some (ar f n))(hb:b ρ=some (.int (k:Nat)))(h:k<n):aa cn a b ρ=some (.int (f k)):=by
 rw[au ha hb]
 exact jS (f:=λj=>PV.int (f j)) h
theorem vp{f:Nat->Int}(ha:a ρ=some (ar f n))(h:0<n):aa cn a (aZ jH (dC (.int 1))) ρ=some (.int (f (n-1))):=by
 rw[au (y:=.int (-1)) ha rfl]
 exact xc (f:=λj=>PV.int (f j)) h
theorem jT{k:Nat}(ha:a ρ=some (dz (eQ m n tf sf cf d)))(hb:b ρ=some (.int (k:Nat)))(h:k<m):aa cn (aZ (cB f6 "rows") a) b ρ=some (ar (tf k) n):=by
 rw[au (xf ha) hb]
 exact jS (f:=λi=>ar (tf i) n) h
theorem Fp{k:Nat}(ha:a ρ=some (dz (eQ m n tf sf cf d)))(hb:b ρ=some (.int (k:Nat)))(h:k<m):aa cn (aZ (cB f6 "solved") a) b ρ=some (.int (sf k:Nat)):=by
 rw[au (AH ha) hb]
 exact jS (f:=λi=>PV.int (sf i:Nat)) h
theorem rd{f:Nat->Int}(ha:a ρ=some (ar f n)):aZ bM a ρ=some (.int (n:Nat)):=by
 rw[d6 ha]
 show some (PV.int ((List.range n).map λj=>PV.int (f j)).length)=_
 rw[List.length_map,List.length_range]
theorem xg(ha:a ρ=some (dz (eQ m n tf sf cf d))):aZ bM (aZ (cB f6 "rows") a) ρ=some (.int (m:Nat)):=by
 rw[d6 (xf ha)]
 show some (PV.int ((List.range m).map λi=>ar (tf i) n).length)=_
 rw[List.length_map,List.length_range]
noncomputable def o6(cf:Nat->Int):Nat->Nat->Option Nat
 |_,0=>none
 |k,n+1=>if cf k<0 then some k else o6 cf (k+1) n
theorem oC{cf:Nat->Int}:∀{n k j:Nat},o6 cf k n=some j->k<=j/\j<k+n/\cf j<0/\∀i,k<=i->i<j->0<=cf i
 |0,_,_,h=>by cases h
 |n+1,k,j,h=>by
  unfold o6 at h
  split at h
  ·rename_i hc
   cases h
   exact⟨Nat.le_refl _,by omega,hc,λi h1 h2=>absurd h1 (by omega)⟩
  ·rename_i hc
   obtain⟨h1,h2,h3,h4⟩:=oC h
   refine⟨by omega,by omega,h3,λi g1 g2=>?_⟩
   by_cases e:i=k
   ·subst e;omega
   ·exact h4 i (by omega) g2
theorem sZ{cf:Nat->Int}:∀{n k:Nat},o6 cf k n=none->∀i,k<=i->i<k+n->0<=cf i
 |0,_,_,i,h1,h2=>absurd h1 (by omega)
 |n+1,k,h,i,h1,h2=>by
  unfold o6 at h
  split at h
  ·cases h
  ·rename_i hc
   by_cases e:i=k
   ·subst e;omega
   ·exact sZ h i (by omega) (by omega)
noncomputable def AI(cf:Nat->Int)(k n:Nat):PV:=match o6 cf k n with
 |some j=>.int (j:Nat)
 |none=>.non
theorem rg(hn:n<=1000):ay [dz (eQ m (n+1) tf sf cf d)]=some (AI cf 0 n):=by
 have loop:∀(r k:Nat) (s:Slot),k+r=n->(∃s',forL (bh 1) aF ((List.range' k r).map λj=>PV.int (j:Nat)) [.sh (dz (eQ m (n+1) tf sf cf d)),s]=some (.nx [.sh (dz (eQ m (n+1) tf sf cf d)),s'])/\o6 cf k r=none)\/∃j,forL (bh 1) aF ((List.range' k r).map λj=>PV.int (j:Nat)) [.sh (dz (eQ m (n+1) tf sf cf d)),s]=some (.rt (.int (j:Nat)))/\o6 cf k r=some j:=by
  intro r
  induction r with
  |zero=>exact λk s h=>.inl ⟨s,rfl,rfl⟩
  |succ r ih=>
   intro k s h
   rw[List.range'_succ,List.map_cons]
   have hk:aa cn (aZ (cB f6 "costs") (dV 0)) (dV 1) [.sh (dz (eQ m (n+1) tf sf cf d)),.sh (.int (k:Nat))]=some (.int (cf k)):=jc (n:=n+1) (oB (t:=eQ m (n+1) tf sf cf d) rfl) rfl (by omega)
   have ht:tV (aa ma (aa cn (aZ (cB f6 "costs") (dV 0)) (dV 1)) (dC (.int 0))) [.sh (dz (eQ m (n+1) tf sf cf d)),.sh (.int (k:Nat))]=some (decide (cf k<0)):=cj (by rw[au hk rfl];rfl)
   unfold o6
   by_cases c:cf k<0
   ·refine .inr ⟨k,?_,if_pos c⟩
    rw[decide_eq_true c]at ht
    have hb:aF [.sh (dz (eQ m (n+1) tf sf cf d)),.sh (.int (k:Nat))]=some (.rt (.int (k:Nat))):=by
     unfold aF
     rw[lY ht]
     rfl
    show(aF [.sh (dz (eQ m (n+1) tf sf cf d)),.sh (.int (k:Nat))]).bind _=_
    rw[hb]
    rfl
   ·rw[if_neg c]
    rw[decide_eq_false c]at ht
    have hb:aF [.sh (dz (eQ m (n+1) tf sf cf d)),.sh (.int (k:Nat))]=some (.nx [.sh (dz (eQ m (n+1) tf sf cf d)),.sh (.int (k:Nat))]):=by
     unfold aF
     rw[eB ht]
     rfl
    have e:forL (bh 1) aF (PV.int (k:Nat)::(List.range' (k+1) r).map λj=>PV.int (j:Nat)) [.sh (dz (eQ m (n+1) tf sf cf d)),s]=forL (bh 1) aF ((List.range' (k+1) r).map λj=>PV.int (j:Nat)) [.sh (dz (eQ m (n+1) tf sf cf d)),.sh (.int (k:Nat))]:=by
     show(aF [.sh (dz (eQ m (n+1) tf sf cf d)),.sh (.int (k:Nat))]).bind _=_
     rw[hb]
     rfl
    rw[e]
    exact ih (k+1) _ (by omega)
 have hr:cO (aa tJ (aZ bM (aZ (cB f6 "costs") (dV 0))) (dC (.int 1))) (dZ 2 [dz (eQ m (n+1) tf sf cf d)])=some ((List.range' 0 n).map λj=>PV.int (j:Nat)):=by
  rw[kG (j:=(n:Nat)) (by
   rw[au (rd (n:=n+1) (oB (t:=eQ m (n+1) tf sf cf d) rfl)) rfl]
   show some (PV.int (((n+1:Nat):Int)-1))=_
   congr 2
   omega) (by unfold lU;simp;omega)]
  unfold cR
  rw[Int.toNat_natCast,List.range_eq_range']
  congr 1
  refine List.map_congr_left λk _=>?_
  rw[Int.zero_add]
 unfold ay
 unfold AI
 rcases loop n 0 .un (by omega)with⟨s',e1,e2⟩|⟨j,e1,e2⟩
 ·rw[e2]
  refine fB rfl ?_
  unfold dG
  rw[aE (by rw[eK hr];exact e1)]
  rfl
 ·rw[e2]
  refine fB rfl ?_
  unfold dG
  rw[lF (by rw[eK hr];exact e1)]
end
section
variable{m n:Nat}{tf:Nat->Nat->Int}{sf:Nat->Nat}{cf:Nat->Int}{d:Int}{ρ:cg}{a b c:Den}
noncomputable def Sm(x:Int):Prop:=-(2^64)<x/\x<2^64
theorem LL{x y:Int}(h:Sm x):oG x y=true:=by
 unfold oG
 rw[Bool.or_eq_true,Bool.and_eq_true]
 exact .inl ⟨decide_eq_true h.1,decide_eq_true h.2⟩
theorem pE{x y:Int}(h:Sm x):mR (.int x) (.int y)=some (.int (x*y)):=by
 show(if oG x y then some (PV.int (x*y))else none)=_
 rw[if_pos (LL h)]
theorem N7(h:a ρ=some (.bl true)):G3 a b ρ=some (.bl true):=by
 show(a ρ).bind _=_
 rw[h]
 rfl
theorem N8(h:a ρ=some (.bl false)):G3 a b ρ=b ρ:=by
 show(a ρ).bind _=_
 rw[h]
 rfl
theorem Fq(h:a ρ=some (.bl true)):sF a b ρ=b ρ:=by
 show(a ρ).bind _=_
 rw[h]
 rfl
theorem LN(h:a ρ=some (.bl false)):sF a b ρ=some (.bl false):=by
 show(a ρ).bind _=_
 rw[h]
 rfl
noncomputable def gi(tf:Nat->Nat->Int)(sf:Nat->Nat)(n c r o:Nat):Bool:=decide (tf r n*tf o c<tf o n*tf r c)||(decide (tf r n*tf o c=tf o n*tf r c)&&decide (sf r<sf o))
theorem y9{r o k:Nat}(hr:r<m)(ho:o<m)(hk:k<n+1)(hs:∀i j,i<m->Sm (tf i j)):aN [dz (eQ m (n+1) tf sf cf d),.int (r:Nat),.int (o:Nat),.int (k:Nat)]=some (.bl (gi tf sf n k r o)):=by
 unfold aN
 refine fB rfl ?_
 unfold g7
 generalize hT:dz (eQ m (n+1) tf sf cf d)=TT
 have q0:∀(s4 s5:Slot),dV 0 [.sh TT,.sh (.int (r:Nat)),.sh (.int (o:Nat)),.sh (.int (k:Nat)),s4,s5]=some (dz (eQ m (n+1) tf sf cf d)):=λs4 s5=>by rw[hT];rfl
 have e1:∀(s4 s5:Slot),aa mR (aa cn (aa cn (aZ (cB f6 "rows") (dV 0)) (dV 1)) (aZ jH (dC (.int 1)))) (aa cn (aa cn (aZ (cB f6 "rows") (dV 0)) (dV 2)) (dV 3)) [.sh TT,.sh (.int (r:Nat)),.sh (.int (o:Nat)),.sh (.int (k:Nat)),s4,s5]=some (.int (tf r n*tf o k)):=λs4 s5=>by
  rw[au (vp (n:=n+1) (jT (q0 s4 s5) rfl hr) (by omega)) (jc (n:=n+1) (jT (q0 s4 s5) rfl ho) rfl hk)]
  exact pE (hs _ _ hr)
 have e2:∀(s4 s5:Slot),aa mR (aa cn (aa cn (aZ (cB f6 "rows") (dV 0)) (dV 2)) (aZ jH (dC (.int 1)))) (aa cn (aa cn (aZ (cB f6 "rows") (dV 0)) (dV 1)) (dV 3)) [.sh TT,.sh (.int (r:Nat)),.sh (.int (o:Nat)),.sh (.int (k:Nat)),s4,s5]=some (.int (tf o n*tf r k)):=λs4 s5=>by
  rw[au (vp (n:=n+1) (jT (q0 s4 s5) rfl ho) (by omega)) (jc (n:=n+1) (jT (q0 s4 s5) rfl hr) rfl hk)]
  exact pE (hs _ _ ho)
 show aY _ _ [.sh TT,.sh (.int (r:Nat)),.sh (.int (o:Nat)),.sh (.int (k:Nat)),.un,.un]=_
 rw[aE (bH (e1 .un .un))]
 show aY _ _ [.sh TT,.sh (.int (r:Nat)),.sh (.int (o:Nat)),.sh (.int (k:Nat)),.sh (.int (tf r n*tf o k)),.un]=_
 rw[aE (bH (e2 _ .un))]
 show br _ [.sh TT,.sh (.int (r:Nat)),.sh (.int (o:Nat)),.sh (.int (k:Nat)),.sh (.int (tf r n*tf o k)),.sh (.int (tf o n*tf r k))]=_
 refine eL ?_
 have e3:aa ma (aa cn (aZ (cB f6 "solved") (dV 0)) (dV 1)) (aa cn (aZ (cB f6 "solved") (dV 0)) (dV 2)) [.sh TT,.sh (.int (r:Nat)),.sh (.int (o:Nat)),.sh (.int (k:Nat)),.sh (.int (tf r n*tf o k)),.sh (.int (tf o n*tf r k))]=some (.bl (decide (sf r<sf o))):=by
  rw[au (Fp (q0 _ _) rfl hr) (Fp (q0 _ _) rfl ho)]
  show some (PV.bl (decide (((sf r:Nat):Int)<((sf o:Nat):Int))))=_
  congr 2
  exact decide_eq_decide.mpr (by omega)
 unfold gi
 generalize tf r n*tf o k=x at*
 generalize tf o n*tf r k=y at*
 have f1:aa ma (dV 4) (dV 5) [.sh TT,.sh (.int (r:Nat)),.sh (.int (o:Nat)),.sh (.int (k:Nat)),.sh (.int x),.sh (.int y)]=some (.bl (decide (x<y))):=rfl
 have f2:aa iu (dV 4) (dV 5) [.sh TT,.sh (.int (r:Nat)),.sh (.int (o:Nat)),.sh (.int (k:Nat)),.sh (.int x),.sh (.int y)]=some (.bl (decide (x=y))):=rfl
 by_cases c1:x<y
 ·rw[decide_eq_true c1]at f1⊢
  exact N7 f1
 ·rw[decide_eq_false c1]at f1⊢
  rw[N8 f1]
  by_cases c2:x=y
  ·rw[decide_eq_true c2]at f2⊢
   rw[Fq f2,e3]
   rfl
  ·rw[decide_eq_false c2]at f2⊢
   rw[LN f2]
   rfl
noncomputable def iJ(tf:Nat->Nat->Int)(sf:Nat->Nat)(n c:Nat)(acc:Option Nat)(r:Nat):Option Nat:=if 0<tf r c then(match acc with
 |none=>some r
 |some o=>if gi tf sf n c r o then some r else some o)else acc
noncomputable def jU:Option Nat->PV
 |none=>.non
 |some r=>.int (r:Nat)
noncomputable def nF(tf:Nat->Nat->Int)(sf:Nat->Nat)(n c m:Nat):Option Nat:=(List.range m).foldl (iJ tf sf n c) none
theorem Ft{r k:Nat}{acc:Option Nat}(hr:r<m)(hk:k<n+1)(ha:∀o,acc=some o->o<m)(hs:∀i j,i<m->Sm (tf i j)):bY aN [.sh (dz (eQ m (n+1) tf sf cf d)),.sh (.int (k:Nat)),.sh (jU acc),.sh (.int (r:Nat))]=some (.nx [.sh (dz (eQ m (n+1) tf sf cf d)),.sh (.int (k:Nat)),.sh (jU (iJ tf sf n k acc r)),.sh (.int (r:Nat))]):=by
 unfold bY
 have e1:tV (aa Bo (aa cn (aa cn (aZ (cB f6 "rows") (dV 0)) (dV 3)) (dV 1)) (dC (.int 0))) [.sh (dz (eQ m (n+1) tf sf cf d)),.sh (.int (k:Nat)),.sh (jU acc),.sh (.int (r:Nat))]=some (decide (0<tf r k)):=cj (by
  rw[au (jc (n:=n+1) (jT rfl rfl hr) rfl hk) rfl]
  rfl)
 unfold iJ
 by_cases c1:0<tf r k
 ·rw[decide_eq_true c1]at e1
  rw[if_pos c1]
  cases acc with
  |none=>
   rw[lY (by rw[kF e1];exact NW (cj rfl))]
   rfl
  |some o=>
   have ho:=ha o rfl
   have e2:tV (aZ vV (dV 2)) [.sh (dz (eQ m (n+1) tf sf cf d)),.sh (.int (k:Nat)),.sh (jU (some o)),.sh (.int (r:Nat))]=some false:=cj rfl
   have e3:tV (dU (iP aN) (aO 0) (ah (aO 3) (ah (aO 2) (ah (aO 1) aA)))) [.sh (dz (eQ m (n+1) tf sf cf d)),.sh (.int (k:Nat)),.sh (jU (some o)),.sh (.int (r:Nat))]=some (gi tf sf n k r o):=cj (y9 hr ho hk hs)
   have e4:jd (tV (aa Bo (aa cn (aa cn (aZ (cB f6 "rows") (dV 0)) (dV 3)) (dV 1)) (dC (.int 0)))) (jy (tV (aZ vV (dV 2))) (tV (dU (iP aN) (aO 0) (ah (aO 3) (ah (aO 2) (ah (aO 1) aA)))))) [.sh (dz (eQ m (n+1) tf sf cf d)),.sh (.int (k:Nat)),.sh (jU (some o)),.sh (.int (r:Nat))]=some (gi tf sf n k r o):=by
    rw[kF e1,gh e2,e3]
   cases c2:gi tf sf n k r o with
   |true=>
    rw[c2]at e4
    rw[lY e4]
    show _=some (Fl.nx [.sh (dz (eQ m (n+1) tf sf cf d)),.sh (.int (k:Nat)),.sh (jU (if gi tf sf n k r o=true then some r else some o)),.sh (.int (r:Nat))])
    rw[c2]
    rfl
   |false=>
    rw[c2]at e4
    rw[eB e4]
    show _=some (Fl.nx [.sh (dz (eQ m (n+1) tf sf cf d)),.sh (.int (k:Nat)),.sh (jU (if gi tf sf n k r o=true then some r else some o)),.sh (.int (r:Nat))])
    rw[c2]
    rfl
 ·rw[decide_eq_false c1]at e1
  rw[eB (qy e1),if_neg c1]
  rfl
theorem Fu{r k:Nat}{acc:Option Nat}(hr:r<m)(ha:∀o,acc=some o->o<m):∀o,iJ tf sf n k acc r=some o->o<m:=λo h=>by
 unfold iJ at h
 split at h
 ·cases acc with
  |none=>cases h;exact hr
  |some q=>
   have h:(if gi tf sf n k r q then some r else some q)=some o:=h
   split at h
   ·cases h;exact hr
   ·cases h;exact ha _ rfl
 ·exact ha o h
theorem xh{k:Nat}(hk:k<n+1)(hm:m<=1000)(hs:∀i j,i<m->Sm (tf i j)):aJ [dz (eQ m (n+1) tf sf cf d),.int (k:Nat)]=some (jU (nF tf sf n k m)):=by
 have loop:∀(l:List Nat) (acc:Option Nat) (s:Slot),(∀r∈l,r<m)->(∀o,acc=some o->o<m)->∃s',forL (bh 3) (bY aN) (l.map λj=>PV.int (j:Nat)) [.sh (dz (eQ m (n+1) tf sf cf d)),.sh (.int (k:Nat)),.sh (jU acc),s]=some (.nx [.sh (dz (eQ m (n+1) tf sf cf d)),.sh (.int (k:Nat)),.sh (jU (l.foldl (iJ tf sf n k) acc)),s']):=by
  intro l
  induction l with
  |nil=>exact λacc s _ _=>⟨s,rfl⟩
  |cons r l ih=>
   intro acc s hl ha
   have hr:=hl r (List.mem_cons_self ..)
   obtain⟨s',e⟩:=ih (iJ tf sf n k acc r) (.sh (.int (r:Nat))) (λx hx=>hl x (List.mem_cons_of_mem _ hx)) (Fu hr ha)
   refine⟨s',?_⟩
   rw[List.foldl_cons,<-e]
   show(bY aN [.sh (dz (eQ m (n+1) tf sf cf d)),.sh (.int (k:Nat)),.sh (jU acc),.sh (.int (r:Nat))]).bind _=_
   rw[Ft hr hk ha hs]
   rfl
 have hr:∀s2 s3:Slot,cO (aZ bM (aZ (cB f6 "rows") (dV 0))) [.sh (dz (eQ m (n+1) tf sf cf d)),.sh (.int (k:Nat)),s2,s3]=some ((List.range m).map λj=>PV.int (j:Nat)):=λs2 s3=>by
  rw[kG (j:=(m:Nat)) (xg rfl) (by unfold lU;simp;omega)]
  unfold cR
  rw[Int.toNat_natCast]
  congr 1
  refine List.map_congr_left λk _=>?_
  rw[Int.zero_add]
 unfold aJ
 refine fB rfl ?_
 unfold gj
 obtain⟨s',e⟩:=loop (List.range m) none .un (λr hr=>List.mem_range.mp hr) (λo h=>by cases h)
 show aY (cA 2 (dC .non)) _ [.sh (dz (eQ m (n+1) tf sf cf d)),.sh (.int (k:Nat)),.un,.un]=_
 rw[aE (bH rfl)]
 show aY _ _ [.sh (dz (eQ m (n+1) tf sf cf d)),.sh (.int (k:Nat)),.sh (jU none),.un]=_
 rw[aE (by rw[eK (hr _ _)];exact e)]
 rfl
end
section
variable{m n:Nat}{tf:Nat->Nat->Int}{sf:Nat->Nat}{cf:Nat->Int}{d:Int}{ρ:cg}{a b c:Den}
theorem mG{e:Den}{ρ:cg}{f:Nat->PV}{u v:Nat->PV}:∀(l:List Nat),(∀j∈l,e (.sh (u j)::.sh (v j)::ρ)=some (f j))->md e ρ (l.map λj=>PV.tup [u j,v j])=some (l.map f)
 |[],_=>rfl
 |j::l,h=>by
  rw[List.map_cons,List.map_cons]
  show(e (.sh (u j)::.sh (v j)::ρ)).bind _=_
  rw[h j (List.mem_cons_self ..)]
  show(md e ρ (l.map λj=>PV.tup [u j,v j])).map _=_
  rw[mG l λi hi=>h i (List.mem_cons_of_mem _ hi)]
  rfl
theorem zip_rows{f g:Nat->Int}(ha:a ρ=some (ar f n))(hb:b ρ=some (ar g n)):p9 a b ρ=some ((List.range n).map λj=>PV.tup [.int (f j),.int (g j)]):=by
 show(a ρ).bind _=_
 rw[ha]
 show(b ρ).bind _=_
 rw[hb]
 show some (List.zipWith _ ((List.range n).map _) ((List.range n).map _))=_
 rw[List.zipWith_map,List.zipWith_self]
theorem rh{t:Tb}{f g:Nat->Int}{k:Nat}(hd:t.dd=.int d)(d0:0<d)(d1:d<1073741824)(hk:k<n)(hn:n<=1000)(hf:∀j,j<n->Sm (f j)):aI [dz t,ar f n,ar g n,.int (k:Nat)]=some (ar (λj=>(f j*g k-f k*g j)/d) n):=by
 unfold aI
 refine fB rfl ?_
 unfold ju
 refine eL ?_
 have hz:p9 (aO 1) (aO 2) (dZ 4 [dz t,ar f n,ar g n,.int (k:Nat)])=some ((List.range n).map λj=>PV.tup [.int (f j),.int (g j)]):=zip_rows rfl rfl
 unfold kn
 rw[hz]
 show(if((List.range n).map λj=>PV.tup [.int (f j),.int (g j)]).length<=sizeLine then _ else _)=_
 rw[if_pos (by rw[List.length_map,List.length_range];have:sizeLine=16777216:=rfl;omega)]
 rw[mG (u:=λj=>.int (f j)) (v:=λj=>.int (g j)) (f:=λj=>.int ((f j*g k-f k*g j)/d)) (List.range n) λj hj=>?_]
 ·rfl
 ·have jX:=List.mem_range.mp hj
  generalize hR:dZ 4 [dz t,ar f n,ar g n,.int (k:Nat)]=R0
  have TL:R0=[.sh (dz t),.sh (ar f n),.sh (ar g n),.sh (.int (k:Nat))]:=by rw[<-hR];rfl
  subst TL
  have e1:aa mR (dV 0) (aa cn (dV 4) (dV 5)) (.sh (.int (f j))::.sh (.int (g j))::[.sh (dz t),.sh (ar f n),.sh (ar g n),.sh (.int (k:Nat))])=some (.int (f j*g k)):=by
   rw[au rfl (jc (n:=n) rfl rfl hk)]
   exact pE (hf j jX)
  have e2:aa mR (aa cn (dV 3) (dV 5)) (dV 1) (.sh (.int (f j))::.sh (.int (g j))::[.sh (dz t),.sh (ar f n),.sh (ar g n),.sh (.int (k:Nat))])=some (.int (f k*g j)):=by
   rw[au (jc (n:=n) rfl rfl hk) rfl]
   exact pE (hf k hk)
  have e3:aZ (cB f6 "parts_of_one") (dV 2) (.sh (.int (f j))::.sh (.int (g j))::[.sh (dz t),.sh (ar f n),.sh (ar g n),.sh (.int (k:Nat))])=some (.int d):=by
   rw[Cv (t:=t) rfl,hd]
  rw[au (by rw[au e1 e2];rfl) e3]
  show(if decide (0<d)&&decide (d<1073741824)then some (PV.int ((f j*g k-f k*g j)/d))else none)=_
  rw[decide_eq_true d0,decide_eq_true d1]
  rfl
end
section
variable{m n:Nat}{tf:Nat->Nat->Int}{sf:Nat->Nat}{cf:Nat->Int}{d:Int}{ρ:cg}{a b c:Den}
theorem lI{a b:eS}{t t':Tb}{ρ ρ':cg}(h:a t ρ=some (t',ρ')):uo a b t ρ=b t' ρ':=by
 unfold uo
 rw[h]
 rfl
theorem o9{F:Nat->PV}{i:Nat}{x:PV}(hi:i<m):((List.range m).map F).set i x=(List.range m).map λk=>if k=i then x else F k:=by
 apply List.ext_getElem?
 intro k
 rw[List.getElem?_set,List.getElem?_map,List.getElem?_map]
 by_cases hk:i=k
 ·subst hk
  rw[if_pos rfl,if_pos (by rw[List.length_map,List.length_range];exact hi),List.getElem?_range hi]
  show some x=some (if i=i then x else F i)
  rw[if_pos rfl]
 ·rw[if_neg hk]
  cases h:(List.range m)[k]? with
  |none=>rfl
  |some q=>
   have hq:q=k:=by
    obtain⟨h1,h2⟩:=List.getElem?_eq_some_iff.mp h
    rw[List.getElem_range]at h2
    exact h2.symm
   show some (F q)=some (if q=i then x else F q)
   rw[if_neg (by rw[hq];exact λz=>hk z.symm)]
noncomputable def N9(tf:Nat->Nat->Int)(d:Int)(r c i:Nat):Nat->Int:=λj=>(tf i j*tf r c-tf i c*tf r j)/d
noncomputable def lS(tf:Nat->Nat->Int)(d:Int)(r c i:Nat):Nat->Nat->Int:=λk=>if k<i/\k≠r then N9 tf d r c k else tf k
theorem oT(f:Nat->Int)(n:Nat):allFlat (ar f n)=true:=by
 show((List.range n).map λj=>PV.int (f j)).all flat=true
 rw[List.all_eq_true]
 intro x hx
 obtain⟨j,_,rfl⟩:=List.mem_map.mp hx
 rfl
theorem AJ{i:Nat}(h:i<m):CN m (i:Nat)=some i:=by
 unfold CN
 rw[if_pos (by omega),if_pos (by omega),Int.toNat_natCast]
theorem rj{r k:Nat}(hr:r<m)(hk:k<n+1)(hn:n<=900)(d0:0<d)(d1:d<1073741824)(hs:∀i j,i<m->Sm (tf i j)):∀(q i:Nat) (s:Slot),i+q=m->
  ∃s',zQ 4 (cW aI) ((List.range' i q).map λj=>PV.int (j:Nat)) (eQ m (n+1) (lS tf d r k i) sf cf d) [.un,.sh (.int (r:Nat)),.sh (.int (k:Nat)),.sh (ar (tf r) (n+1)),s]=some (eQ m (n+1) (lS tf d r k m) sf cf d,[.un,.sh (.int (r:Nat)),.sh (.int (k:Nat)),.sh (ar (tf r) (n+1)),s'])
 |0,i,s,h=>⟨s,by rw[show i=m by omega];rfl⟩
 |q+1,i,s,h=>by
  have hi:i<m:=by omega
  obtain⟨s',e⟩:=rj hr hk hn d0 d1 hs q (i+1) (.sh (.int (i:Nat))) (by omega)
  refine⟨s',?_⟩
  rw[List.range'_succ,List.map_cons,<-e]
  show(cW aI (eQ m (n+1) (lS tf d r k i) sf cf d) [.un,.sh (.int (r:Nat)),.sh (.int (k:Nat)),.sh (ar (tf r) (n+1)),.sh (.int (i:Nat))]).bind _=_
  have hb:cW aI (eQ m (n+1) (lS tf d r k i) sf cf d) [.un,.sh (.int (r:Nat)),.sh (.int (k:Nat)),.sh (ar (tf r) (n+1)),.sh (.int (i:Nat))]=some (eQ m (n+1) (lS tf d r k (i+1)) sf cf d,[.un,.sh (.int (r:Nat)),.sh (.int (k:Nat)),.sh (ar (tf r) (n+1)),.sh (.int (i:Nat))]):=by
   generalize hR:([.un,.sh (.int (r:Nat)),.sh (.int (k:Nat)),.sh (ar (tf r) (n+1)),.sh (.int (i:Nat))]:cg)=R0
   have hw:∀t:Tb,cI t R0=[.sh (dz t),.sh (.int (r:Nat)),.sh (.int (k:Nat)),.sh (ar (tf r) (n+1)),.sh (.int (i:Nat))]:=λt=>by rw[<-hR];rfl
   unfold cW P8
   rw[hw]
   have ht:tV (aa dE (dV 4) (dV 1)) [.sh (dz (eQ m (n+1) (lS tf d r k i) sf cf d)),.sh (.int (r:Nat)),.sh (.int (k:Nat)),.sh (ar (tf r) (n+1)),.sh (.int (i:Nat))]=some (!decide (i=r)):=cj (by
    show some (PV.bl (!decide (((i:Nat):Int)=((r:Nat):Int))))=_
    congr 3
    exact decide_eq_decide.mpr (by omega))
   rw[ht]
   by_cases c:i=r
   ·have e1:lS tf d r k (i+1)=lS tf d r k i:=by
      funext z
      unfold lS
      by_cases h1:z<i/\z≠r
      ·rw[if_pos h1,if_pos ⟨by omega,h1.2⟩]
      ·rw[if_neg h1,if_neg (by omega)]
    rw[decide_eq_true c,e1]
    rfl
   ·rw[decide_eq_false c]
    show G4 _ _ _ _=_
    unfold G4
    rw[hw]
    have e0:lS tf d r k i i=tf i:=if_neg (by omega)
    have e1:aa cn (aZ (cB f6 "rows") (dV 0)) (dV 4) [.sh (dz (eQ m (n+1) (lS tf d r k i) sf cf d)),.sh (.int (r:Nat)),.sh (.int (k:Nat)),.sh (ar (tf r) (n+1)),.sh (.int (i:Nat))]=some (ar (tf i) (n+1)):=by
     rw[jT (k:=i) rfl rfl hi,e0]
    have e2:dU (iP aI) (aO 0) (ah (aa cn (aZ (cB f6 "rows") (dV 0)) (dV 4)) (ah (aO 3) (ah (aO 2) aA))) [.sh (dz (eQ m (n+1) (lS tf d r k i) sf cf d)),.sh (.int (r:Nat)),.sh (.int (k:Nat)),.sh (ar (tf r) (n+1)),.sh (.int (i:Nat))]=some (ar (N9 tf d r k i) (n+1)):=by
     show(ah _ _ _).bind (λxs=>iP aI 0 (dz (eQ m (n+1) (lS tf d r k i) sf cf d)::xs))=_
     have e3:ah (aa cn (aZ (cB f6 "rows") (dV 0)) (dV 4)) (ah (aO 3) (ah (aO 2) aA)) [.sh (dz (eQ m (n+1) (lS tf d r k i) sf cf d)),.sh (.int (r:Nat)),.sh (.int (k:Nat)),.sh (ar (tf r) (n+1)),.sh (.int (i:Nat))]=some [ar (tf i) (n+1),ar (tf r) (n+1),.int (k:Nat)]:=by
      show(aa _ _ _ _).bind _=_
      rw[e1]
      rfl
     rw[e3]
     exact rh (t:=eQ m (n+1) (lS tf d r k i) sf cf d) rfl d0 d1 hk (by omega) (λj _=>hs i j hi)
    rw[e2]
    show(if allFlat (ar (N9 tf d r k i) (n+1))=true then _ else _)=_
    rw[if_pos (oT _ _)]
    show((some (PV.int (i:Nat))).bind λp=>(G2 p).bind λj=>(CN (eQ m (n+1) (lS tf d r k i) sf cf d).rows.length j).map _)=_
    have hlen:(eQ m (n+1) (lS tf d r k i) sf cf d).rows.length=m:=by
     show((List.range m).map _).length=m
     rw[List.length_map,List.length_range]
    rw[hlen]
    show(CN m (i:Nat)).map _=_
    rw[AJ hi]
    show some (_,R0)=some (_,R0)
    congr 2
    show Tb.mk (((List.range m).map λz=>ar (lS tf d r k i z) (n+1)).set i (ar (N9 tf d r k i) (n+1))) _ _ _=Tb.mk ((List.range m).map λz=>ar (lS tf d r k (i+1) z) (n+1)) _ _ _
    rw[o9 hi]
    congr 1
    refine List.map_congr_left λz hz=>?_
    by_cases RY:z=i
    ·subst RY
     rw[if_pos rfl]
     unfold lS
     rw[if_pos ⟨by omega,c⟩]
    ·rw[if_neg RY]
     unfold lS
     by_cases h1:z<i/\z≠r
     ·rw[if_pos h1,if_pos ⟨by omega,h1.2⟩]
     ·rw[if_neg h1,if_neg (by omega)]
  rw[hb]
  rfl
theorem Fv{r k:Nat}(hr:r<m)(hk:k<n+1)(hn:n<=900)(hm:m<=1000)(d0:0<d)(d1:d<1073741824)(hs:∀i j,i<m->Sm (tf i j))(hc:∀j,Sm (cf j)):
  bF (eQ m (n+1) tf sf cf d) [.int (r:Nat),.int (k:Nat)]=some (eQ m (n+1) (lS tf d r k m) (Sx.jz sf r k) (λj=>(cf j*tf r k-cf k*tf r j)/d) (tf r k)):=by
 unfold bF Jc
 rw[if_pos (show[PV.int (r:Nat),PV.int (k:Nat)].length+1=3 from rfl)]
 show(iC aI (eQ m (n+1) tf sf cf d) [.un,.sh (.int (r:Nat)),.sh (.int (k:Nat)),.un,.un]).map Prod.fst=_
 have h0:lS tf d r k 0=tf:=by
  funext z
  exact if_neg (by omega)
 obtain⟨s',e⟩:=rj (sf:=sf) (cf:=cf) hr hk hn d0 d1 hs m 0 .un (by omega)
 rw[h0]at e
 have e1:DJ 3 (dV 1) (eQ m (n+1) tf sf cf d) [.un,.sh (.int (r:Nat)),.sh (.int (k:Nat)),.un,.un]=some (eQ m (n+1) tf sf cf d,[.un,.sh (.int (r:Nat)),.sh (.int (k:Nat)),.sh (ar (tf r) (n+1)),.un]):=by
  show(itemAt ((List.range m).map λi=>ar (tf i) (n+1)) (r:Nat)).map _=_
  rw[jS hr]
  rfl
 have e2:G5 4 (aZ bM (aZ (cB f6 "rows") (dV 0))) (cW aI) (eQ m (n+1) tf sf cf d) [.un,.sh (.int (r:Nat)),.sh (.int (k:Nat)),.sh (ar (tf r) (n+1)),.un]=some (eQ m (n+1) (lS tf d r k m) sf cf d,[.un,.sh (.int (r:Nat)),.sh (.int (k:Nat)),.sh (ar (tf r) (n+1)),s']):=by
  unfold G5
  have Qw:cO (aZ bM (aZ (cB f6 "rows") (dV 0))) (cI (eQ m (n+1) tf sf cf d) [.un,.sh (.int (r:Nat)),.sh (.int (k:Nat)),.sh (ar (tf r) (n+1)),.un])=some ((List.range' 0 m).map λj=>PV.int (j:Nat)):=by
   rw[kG (j:=(m:Nat)) (xg rfl) (by unfold lU;simp;omega)]
   unfold cR
   rw[Int.toNat_natCast,List.range_eq_range']
   congr 1
   refine List.map_congr_left λk _=>?_
   rw[Int.zero_add]
  rw[Qw]
  exact e
 have e3:uq (dU (iP aI) (aO 0) (ah (aZ (cB f6 "costs") (dV 0)) (ah (aO 3) (ah (aO 2) aA)))) (eQ m (n+1) (lS tf d r k m) sf cf d) [.un,.sh (.int (r:Nat)),.sh (.int (k:Nat)),.sh (ar (tf r) (n+1)),s']=some (eQ m (n+1) (lS tf d r k m) sf (λj=>(cf j*tf r k-cf k*tf r j)/d) d,[.un,.sh (.int (r:Nat)),.sh (.int (k:Nat)),.sh (ar (tf r) (n+1)),s']):=by
  unfold uq
  have e4:dU (iP aI) (aO 0) (ah (aZ (cB f6 "costs") (dV 0)) (ah (aO 3) (ah (aO 2) aA))) (cI (eQ m (n+1) (lS tf d r k m) sf cf d) [.un,.sh (.int (r:Nat)),.sh (.int (k:Nat)),.sh (ar (tf r) (n+1)),s'])=some (ar (λj=>(cf j*tf r k-cf k*tf r j)/d) (n+1)):=
   rh (t:=eQ m (n+1) (lS tf d r k m) sf cf d) (f:=cf) (g:=tf r) rfl d0 d1 hk (by omega) (λj _=>hc j)
  rw[e4]
  show(if allFlat (ar _ (n+1))=true then _ else _)=_
  rw[if_pos (oT _ _)]
  rfl
 have e5:KJ (dV 1) (aO 2) (eQ m (n+1) (lS tf d r k m) sf (λj=>(cf j*tf r k-cf k*tf r j)/d) d) [.un,.sh (.int (r:Nat)),.sh (.int (k:Nat)),.sh (ar (tf r) (n+1)),s']=some (eQ m (n+1) (lS tf d r k m) (Sx.jz sf r k) (λj=>(cf j*tf r k-cf k*tf r j)/d) d,[.un,.sh (.int (r:Nat)),.sh (.int (k:Nat)),.sh (ar (tf r) (n+1)),s']):=by
  show(CN ((List.range m).map λz=>PV.int (sf z:Nat)).length (r:Nat)).map _=_
  rw[List.length_map,List.length_range,AJ hr]
  show some (Tb.mk _ (((List.range m).map λz=>PV.int (sf z:Nat)).set r (.int (k:Nat))) _ _,_)=some (Tb.mk _ ((List.range m).map λz=>PV.int (Sx.jz sf r k z:Nat)) _ _,_)
  have hl:(((List.range m).map λz=>PV.int (sf z:Nat)).set r (.int (k:Nat)))=(List.range m).map λz=>PV.int (Sx.jz sf r k z:Nat):=by
   rw[o9 hr]
   refine List.map_congr_left λz hz=>?_
   unfold Sx.jz
   by_cases h:z=r
   ·rw[if_pos h,if_pos h]
   ·rw[if_neg h,if_neg h]
  rw[hl]
  rfl
 have e6:ur (aa cn (dV 3) (dV 2)) (eQ m (n+1) (lS tf d r k m) (Sx.jz sf r k) (λj=>(cf j*tf r k-cf k*tf r j)/d) d) [.un,.sh (.int (r:Nat)),.sh (.int (k:Nat)),.sh (ar (tf r) (n+1)),s']=some (eQ m (n+1) (lS tf d r k m) (Sx.jz sf r k) (λj=>(cf j*tf r k-cf k*tf r j)/d) (tf r k),[.un,.sh (.int (r:Nat)),.sh (.int (k:Nat)),.sh (ar (tf r) (n+1)),s']):=by
  unfold ur
  rw[jc (n:=n+1) (f:=tf r) (k:=k) rfl rfl hk]
  rfl
 unfold iC
 rw[lI e1,lI e2,lI e3,lI e5,e6]
 rfl
end
end L2.D.My
namespace L2.D.My
open PySem Sx
noncomputable def Gk(tf:Nat->Nat->Int)(sf:Nat->Nat)(n c r o:Nat):Prop:=tf r n*tf o c<tf o n*tf r c\/(tf r n*tf o c=tf o n*tf r c/\sf r<=sf o)
theorem Gk.trans{tf:Nat->Nat->Int}{sf:Nat->Nat}{n c x y z:Nat}(hx:0<tf x c)(hy:0<tf y c)(hz:0<tf z c)(h1:Gk tf sf n c x y)(h2:Gk tf sf n c y z):Gk tf sf n c x z:=by
 unfold Gk at*
 generalize tf x n=a at*
 generalize tf y n=b at*
 generalize tf z n=d at*
 generalize tf x c=p at*
 generalize tf y c=q at*
 generalize tf z c=r at*
 have r1:a*q*r=a*r*q:=Int.mul_right_comm _ _ _
 have r2:b*p*r=b*r*p:=Int.mul_right_comm _ _ _
 have r3:d*q*p=d*p*q:=Int.mul_right_comm _ _ _
 rcases h1 with h1|⟨h1,s1⟩
 ·have e1:=Int.mul_lt_mul_of_pos_right h1 hz
  have e2:b*r*p<=d*q*p:=by
   rcases h2 with h2|⟨h2,_⟩
   ·exact Int.le_of_lt (Int.mul_lt_mul_of_pos_right h2 hx)
   ·rw[h2];exact Int.le_refl _
  exact .inl (Int.lt_of_mul_lt_mul_right (show a*r*q<d*p*q by omega) (Int.le_of_lt hy))
 ·rcases h2 with h2|⟨h2,s2⟩
  ·have e2:=Int.mul_lt_mul_of_pos_right h2 hx
   have e1:a*q*r=b*p*r:=by rw[h1]
   exact .inl (Int.lt_of_mul_lt_mul_right (show a*r*q<d*p*q by omega) (Int.le_of_lt hy))
  ·refine .inr ⟨?_,Nat.le_trans s1 s2⟩
   have e1:a*q*r=b*p*r:=by rw[h1]
   have e2:b*r*p=d*q*p:=by rw[h2]
   exact Int.eq_of_mul_eq_mul_right (show q≠0 by omega) (show a*r*q=d*p*q by omega)
theorem Ij{tf:Nat->Nat->Int}{sf:Nat->Nat}{n c r o:Nat}(h:gi tf sf n c r o=true):Gk tf sf n c r o:=by
 unfold gi at h
 rw[Bool.or_eq_true,Bool.and_eq_true]at h
 rcases h with h|⟨h1,h2⟩
 ·exact .inl (of_decide_eq_true h)
 ·have:=of_decide_eq_true h2
  exact .inr ⟨of_decide_eq_true h1,by omega⟩
theorem Ik{tf:Nat->Nat->Int}{sf:Nat->Nat}{n c r o:Nat}(h:gi tf sf n c r o=false):Gk tf sf n c o r:=by
 unfold gi at h
 rw[Bool.or_eq_false_iff]at h
 obtain⟨h1,h2⟩:=h
 have h1:=of_decide_eq_false h1
 unfold Gk
 by_cases e:tf r n*tf o c=tf o n*tf r c
 ·rw[decide_eq_true e,Bool.true_and]at h2
  have h2:=of_decide_eq_false h2
  exact .inr ⟨e.symm,by omega⟩
 ·exact .inl (by omega)
theorem oU{tf:Nat->Nat->Int}{sf:Nat->Nat}{n c:Nat}:∀m:Nat,match(List.range m).foldl (iJ tf sf n c) none with
  |none=>∀k,k<m->¬0<tf k c
  |some r=>r<m/\0<tf r c/\∀k,k<m->0<tf k c->Gk tf sf n c r k
 |0=>λk hk=>absurd hk (by omega)
 |m+1=>by
  have ih:=oU (tf:=tf) (sf:=sf) (n:=n) (c:=c) m
  rw[List.range_succ,List.foldl_append]
  show match iJ tf sf n c ((List.range m).foldl (iJ tf sf n c) none) m with
   |none=>∀k,k<m+1->¬0<tf k c
   |some r=>r<m+1/\0<tf r c/\∀k,k<m+1->0<tf k c->Gk tf sf n c r k
  cases h:(List.range m).foldl (iJ tf sf n c) none with
  |none=>
   rw[h]at ih
   by_cases q:0<tf m c
   ·have e:iJ tf sf n c none m=some m:=if_pos q
    rw[e]
    refine⟨by omega,q,λk hk hp=>?_⟩
    by_cases z:k=m
    ·subst z
     exact .inr ⟨rfl,Nat.le_refl _⟩
    ·exact absurd hp (ih k (by omega))
   ·have e:iJ tf sf n c none m=none:=if_neg q
    rw[e]
    intro k hk
    by_cases z:k=m
    ·rw[z];exact q
    ·exact ih k (by omega)
  |some o=>
   rw[h]at ih
   obtain⟨i1,i2,i3⟩:=ih
   by_cases q:0<tf m c
   ·have e:iJ tf sf n c (some o) m=if gi tf sf n c m o then some m else some o:=if_pos q
    rw[e]
    cases t:gi tf sf n c m o with
    |true=>
     rw[if_pos rfl]
     refine⟨by omega,q,λk hk hp=>?_⟩
     by_cases z:k=m
     ·subst z
      exact .inr ⟨rfl,Nat.le_refl _⟩
     ·exact(Ij t).trans q i2 hp (i3 k (by omega) hp)
    |false=>
     rw[if_neg Bool.false_ne_true]
     refine⟨by omega,i2,λk hk hp=>?_⟩
     by_cases z:k=m
     ·subst z
      exact Ik t
     ·exact i3 k (by omega) hp
   ·have e:iJ tf sf n c (some o) m=some o:=if_neg q
    rw[e]
    refine⟨by omega,i2,λk hk hp=>?_⟩
    by_cases z:k=m
    ·subst z
     exact absurd hp q
    ·exact i3 k (by omega) hp
section
variable{A:dk}{m J:Nat}{sol:Nat->Nat}
noncomputable def gU(A:dk)(m J:Nat)(sol:Nat->Nat):Tb:=eQ m (J+1) (T A m sol) sol (T A m sol m) (dt A m sol)
theorem Il{r c:Nat}(X:Tab A m sol)(t:Sx.Turn A m J sol r c)(hJ:J<=900)(hm:m<=1000)(hb:∀(sol:Nat->Nat) i j,Sm (T A m sol i j))(hd:∀sol:Nat->Nat,dt A m sol<1073741824):
  bF (gU A m J sol) [.int (r:Nat),.int (c:Nat)]=some (gU A m J (jz sol r c)):=by
 have cJ:=t.cJ
 have rm:=t.rm
 unfold gU
 rw[Fv t.rm (by omega) hJ hm X.pos (hd sol) (λi j _=>hb sol i j) (λj=>hb sol m j)]
 have ex:∀i,i<=m->i≠r->∀j,(T A m sol i j*T A m sol r c-T A m sol i c*T A m sol r j)/dt A m sol=T A m (jz sol r c) i j:=λi hi NY j=>by
  rw[<-nB X t.rm hi NY]
  exact Int.mul_ediv_cancel_left _ (by have:=X.pos;omega)
 unfold eQ
 congr 2
 ·refine List.map_congr_left λi hi=>?_
  have Nt:=List.mem_range.mp hi
  congr 1
  funext j
  unfold lS N9
  by_cases h:i=r
  ·rw[if_neg (by omega),h,Aw t.rm]
  ·rw[if_pos ⟨Nt,h⟩]
   exact ex i (by omega) h j
 ·congr 1
  funext j
  exact ex m (Nat.le_refl _) (by omega) j
 ·rw[uY t.rm]
noncomputable def j5(A:dk)(m J:Nat)(sol:Nat->Nat):Option Nat:=o6 (T A m sol m) 0 J
noncomputable def vq(A:dk)(m J:Nat)(sol:Nat->Nat)(c:Nat):Option Nat:=nF (T A m sol) sol J c m
theorem Fw{c:Nat}(hc:j5 A m J sol=some c)(ex:∃r,r<m/\0<T A m sol r c):∃r,vq A m J sol c=some r/\Sx.Turn A m J sol r c:=by
 obtain⟨_,h2,h3,h4⟩:=oC hc
 have ok:=oU (tf:=T A m sol) (sf:=sol) (n:=J) (c:=c) m
 cases h:vq A m J sol c with
 |none=>
  unfold vq nF at h
  rw[h]at ok
  obtain⟨r,g1,g2⟩:=ex
  exact absurd g2 (ok r g1)
 |some r=>
  unfold vq nF at h
  rw[h]at ok
  obtain⟨g1,g2,g3⟩:=ok
  exact⟨r,rfl,by omega,h3,λj hj=>h4 j (Nat.zero_le _) hj,g1,g2,g3⟩
noncomputable def cU(A:dk)(m J:Nat)(s0:Nat->Nat):Nat->Nat->Nat
 |0=>s0
 |t+1=>match j5 A m J (cU A m J s0 t)with
  |none=>cU A m J s0 t
  |some c=>jz (cU A m J s0 t) ((vq A m J (cU A m J s0 t) c).getD 0) c
end
section
variable{A:dk}{m J:Nat}{s0:Nat->Nat}
theorem Fx{P:Nat->Prop}:∀{n:Nat},P n->∃t,t<=n/\P t/\∀u,u<t->¬P u
 |n,h=>by
  induction n using Nat.strongRecOn with
  |_ n ih=>
   by_cases c:∃u,u<n/\P u
   ·obtain⟨u,h1,h2⟩:=c
    obtain⟨t,g1,g2⟩:=ih u h1 h2
    exact⟨t,by omega,g2⟩
   ·exact⟨n,Nat.le_refl _,h,λu hu hp=>c ⟨u,hu,hp⟩⟩
noncomputable def zb(A:dk)(m J:Nat)(s0:Nat->Nat)(t:Nat):Nat:=(j5 A m J (cU A m J s0 t)).getD 0
noncomputable def zc(A:dk)(m J:Nat)(s0:Nat->Nat)(t:Nat):Nat:=(vq A m J (cU A m J s0 t) (zb A m J s0 t)).getD 0
theorem zd(X0:Tab A m s0)(F0:nC A m J s0)(h0:∀k,k<m->s0 k<J)(Fy:∀sol:Nat->Nat,Tab A m sol->(∀k,k<m->sol k<J)->∀c,c<J->T A m sol m c<0->∃r,r<m/\0<T A m sol r c):
  ∀t,(∀u,u<t->j5 A m J (cU A m J s0 u)≠none)->Run A m J t (cU A m J s0) (zc A m J s0) (zb A m J s0)
 |0,_=>⟨X0,F0,λt h=>absurd h (by omega),λt h=>absurd h (by omega)⟩
 |t+1,hg=>by
  have R:=zd X0 F0 h0 Fy t λu hu=>hg u (by omega)
  have X:=(R.tf t (Nat.le_refl _)).1
  have hs:=R.Co h0 t (Nat.le_refl _)
  obtain⟨c,hc⟩:∃c,j5 A m J (cU A m J s0 t)=some c:=by
   cases h:j5 A m J (cU A m J s0 t)with
   |none=>exact absurd h (hg t (by omega))
   |some c=>exact⟨c,rfl⟩
  obtain⟨_,g2,g3,_⟩:=oC hc
  obtain⟨r,hr,tn⟩:=Fw hc (Fy _ X hs c (by omega) g3)
  have ee:zb A m J s0 t=c:=by unfold zb;rw[hc];rfl
  have el:zc A m J s0 t=r:=by unfold zc;rw[ee,hr];rfl
  have en:cU A m J s0 (t+1)=jz (cU A m J s0 t) r c:=by
   show(match j5 A m J (cU A m J s0 t)with
    |none=>cU A m J s0 t
    |some c=>jz (cU A m J s0 t) ((vq A m J (cU A m J s0 t) c).getD 0) c)=_
   rw[hc]
   show jz (cU A m J s0 t) ((vq A m J (cU A m J s0 t) c).getD 0) c=_
   rw[hr]
   rfl
  refine⟨X0,F0,λu hu=>?_,λu hu=>?_⟩
  ·by_cases h:u=t
   ·rw[h,ee,el];exact tn
   ·exact R.turn u (by omega)
  ·by_cases h:u=t
   ·rw[h,ee,el];exact en
   ·exact R.jz u (by omega)
theorem lJ{F:List PV->Option PV}{o:Den}{as:cu}{ρ:cg}{t:Tb}{xs:List PV}(ho:o ρ=some (dz t))(ha:as ρ=some xs):dU (iP F) o as ρ=F (dz t::xs):=by
 show(o ρ).bind _=_
 rw[ho]
 show(as ρ).bind _=_
 rw[ha]
 rfl
theorem Fz{c:cN}{body:eS}{n:Nat}{t t':Tb}{ρ ρ':cg}(h:c (cI t ρ)=some true)(hb:body t ρ=some (t',ρ')):fM c body (n+1) t ρ=fM c body n t' ρ':=by
 show(c (cI t ρ)).bind (λk=>if k then(body t ρ).bind λq=>fM c body n q.1 q.2 else some (t,ρ))=_
 rw[h]
 show((body t ρ).bind λq=>fM c body n q.1 q.2)=_
 rw[hb]
 rfl
theorem FE{c:cN}{body:eS}{n:Nat}{t:Tb}{ρ:cg}(h:c (cI t ρ)=some false):fM c body (n+1) t ρ=some (t,ρ):=by
 show(c (cI t ρ)).bind (λk=>if k then(body t ρ).bind λq=>fM c body n q.1 q.2 else some (t,ρ))=_
 rw[h]
 rfl
theorem xi{i:Nat}{f:Den}{t:Tb}{ρ:cg}{p:PV}(h:f (cI t ρ)=some p)(hp:flat p=true):vY i f t ρ=some (t,ρ.set i (.sh p)):=by
 unfold vY
 rw[h]
 show(if flat p=true then _ else _)=_
 rw[if_pos hp]
theorem td(o:Option Nat):flat (jU o)=true:=by cases o<;>rfl
theorem FH{F:Tb->List PV->Option Tb}{as:cu}{t t':Tb}{ρ:cg}{ps:List PV}(h:as (cI t ρ)=some ps)(hp:ps.all flat=true)(hF:F t ps=some t'):zR F as t ρ=some (t',ρ):=by
 unfold zR
 rw[h]
 show(if ps.all flat=true then _ else _)=_
 rw[if_pos hp,hF]
 rfl
theorem tj(cf:Nat->Int)(k n:Nat):AI cf k n=jU (o6 cf k n):=by
 unfold AI
 cases o6 cf k n<;>rfl
theorem AK(hJ:J<=900)(hm:m<=1000)(hb:∀(sol:Nat->Nat) i j,Sm (T A m sol i j))(hd:∀sol:Nat->Nat,dt A m sol<1073741824){t0:Nat}(R:Run A m J t0 (cU A m J s0) (zc A m J s0) (zb A m J s0))(hg:∀u,u<t0->j5 A m J (cU A m J s0 u)≠none)(he:j5 A m J (cU A m J s0 t0)=none):
  ∀(q u n:Nat),u+q=t0->q<n->fM (tV (aZ vX (dV 1))) (eo ay bF aJ) n (gU A m J (cU A m J s0 u)) [.un,.sh (jU (j5 A m J (cU A m J s0 u)))]=some (gU A m J (cU A m J s0 t0),[.un,.sh .non])
 |q,u,0,h,hn=>absurd hn (by omega)
 |0,u,n+1,h,hn=>by
  have hu:u=t0:=by omega
  subst hu
  rw[he]
  exact FE rfl
 |q+1,u,n+1,h,hn=>by
  have hu:u<t0:=by omega
  have tn:=R.turn u hu
  have X:=(R.tf u (by omega)).1
  obtain⟨c,hc⟩:∃c,j5 A m J (cU A m J s0 u)=some c:=by
   cases h:j5 A m J (cU A m J s0 u)with
   |none=>exact absurd h (hg u hu)
   |some c=>exact⟨c,rfl⟩
  have ee:zb A m J s0 u=c:=by unfold zb;rw[hc];rfl
  obtain⟨r,hr,RZ⟩:=Fw hc ⟨zc A m J s0 u,tn.rm,by have:=tn.pos;rw[ee]at this;exact this⟩
  have el:zc A m J s0 u=r:=by unfold zc;rw[ee,hr];rfl
  have en:=R.jz u hu
  rw[ee,el]at en
  have cJ:=RZ.cJ
  have a1:dU (iP aJ) (aO 0) (ah (aO 1) aA) (cI (gU A m J (cU A m J s0 u)) [.un,.sh (.int (c:Nat))])=some (.int (r:Nat)):=by
   rw[lJ (t:=gU A m J (cU A m J s0 u)) (xs:=[.int (c:Nat)]) rfl rfl]
   have:=xh (m:=m) (n:=J) (tf:=T A m (cU A m J s0 u)) (sf:=cU A m J s0 u) (cf:=T A m (cU A m J s0 u) m) (d:=dt A m (cU A m J s0 u)) (k:=c) (by omega) hm λi j _=>hb _ i j
   unfold vq at hr
   rw[hr]at this
   exact this
  have a2:ah (dU (iP aJ) (aO 0) (ah (aO 1) aA)) (ah (aO 1) aA) (cI (gU A m J (cU A m J s0 u)) [.un,.sh (.int (c:Nat))])=some [.int (r:Nat),.int (c:Nat)]:=by
   show(dU _ _ _ _).bind _=_
   rw[a1]
   rfl
  have sv:=Il X RZ hJ hm hb hd
  rw[<-en]at sv
  have e1:=FH (ρ:=[.un,.sh (.int (c:Nat))]) a2 rfl sv
  have b1:dU (iP ay) (aO 0) aA (cI (gU A m J (cU A m J s0 (u+1))) [.un,.sh (.int (c:Nat))])=some (jU (j5 A m J (cU A m J s0 (u+1)))):=by
   rw[lJ (t:=gU A m J (cU A m J s0 (u+1))) (xs:=[]) rfl rfl]
   have:=rg (m:=m) (n:=J) (tf:=T A m (cU A m J s0 (u+1))) (sf:=cU A m J s0 (u+1)) (cf:=T A m (cU A m J s0 (u+1)) m) (d:=dt A m (cU A m J s0 (u+1))) (by omega)
   rw[tj]at this
   exact this
  have e2:=xi (i:=1) b1 (td _)
  have ht:tV (aZ vX (dV 1)) (cI (gU A m J (cU A m J s0 u)) [.un,.sh (.int (c:Nat))])=some true:=rfl
  have TM:eo ay bF aJ (gU A m J (cU A m J s0 u)) [.un,.sh (.int (c:Nat))]=some (gU A m J (cU A m J s0 (u+1)),[.un,.sh (jU (j5 A m J (cU A m J s0 (u+1))))]):=by
   unfold eo
   rw[lI e1]
   exact e2
  rw[hc]
  show fM _ _ (n+1) (gU A m J (cU A m J s0 u)) [.un,.sh (.int (c:Nat))]=_
  rw[Fz ht TM]
  exact AK hJ hm hb hd R hg he q (u+1) n (by omega) (by omega)
theorem FJ(X0:Tab A m s0)(F0:nC A m J s0)(h0:∀k,k<m->s0 k<J)(Fy:∀sol:Nat->Nat,Tab A m sol->(∀k,k<m->sol k<J)->∀c,c<J->T A m sol m c<0->∃r,r<m/\0<T A m sol r c)
  (hJ:J<=900)(hm:m<=1000)(hb:∀(sol:Nat->Nat) i j,Sm (T A m sol i j))(hd:∀sol:Nat->Nat,dt A m sol<1073741824)(hf:J^m<1000000000000000000):
  ∃sol,Tab A m sol/\nC A m J sol/\(∀k,k<m->sol k<J)/\(∀j,j<J->0<=T A m sol m j)/\bT (gU A m J s0) []=some (gU A m J sol):=by
 have ex:∃t,t<=J^m/\j5 A m J (cU A m J s0 t)=none:=by
  by_cases c:∃t,t<=J^m/\j5 A m J (cU A m J s0 t)=none
  ·exact c
  ·exfalso
   have R:=zd X0 F0 h0 Fy (J^m) λu hu z=>c ⟨u,by omega,z⟩
   exact Nat.lt_irrefl _ (R.ends h0)
 obtain⟨t1,TH,QS⟩:=ex
 obtain⟨t0,Us,he,hg⟩:=Fx (P:=λt=>j5 A m J (cU A m J s0 t)=none) QS
 have R:=zd X0 F0 h0 Fy t0 hg
 obtain⟨X,F⟩:=R.tf t0 (Nat.le_refl _)
 refine⟨cU A m J s0 t0,X,F,R.Co h0 t0 (Nat.le_refl _),λj hj=>sZ he j (Nat.zero_le _) (by omega),?_⟩
 have w:=AK hJ hm hb hd R hg he t0 0 1000000000000000000 (by omega) (by omega)
 have b1:dU (iP ay) (aO 0) aA (cI (gU A m J s0) [.un,.un])=some (jU (j5 A m J s0)):=by
  rw[lJ (t:=gU A m J s0) (xs:=[]) rfl rfl]
  have:=rg (m:=m) (n:=J) (tf:=T A m s0) (sf:=s0) (cf:=T A m s0 m) (d:=dt A m s0) (by omega)
  rw[tj]at this
  exact this
 have e2:=xi (i:=1) b1 (td _)
 unfold bT Jc
 rw[if_pos (show([]:List PV).length+1=1 from rfl)]
 show(gS ay bF aJ (gU A m J s0) [.un,.un]).map Prod.fst=_
 unfold gS
 rw[lI e2]
 have w':=congrArg (Option.map Prod.fst) w
 exact w'
end
noncomputable def cat(f:Nat->Int)(n:Nat)(g:Nat->Int):Nat->Int:=λj=>if j<n then f j else g (j-n)
theorem Im(f g:Nat->Int)(n k:Nat):((List.range n).map λj=>PV.int (f j))++((List.range k).map λj=>PV.int (g j))=(List.range (n+k)).map λj=>PV.int (cat f n g j):=by
 apply List.ext_getElem?
 intro i
 rw[List.getElem?_append,List.length_map,List.length_range]
 by_cases h:i<n
 ·rw[if_pos h,List.getElem?_map,List.getElem?_map,List.getElem?_range h,List.getElem?_range (by omega)]
  unfold cat
  show some (PV.int (f i))=some (PV.int (if i<n then f i else g (i-n)))
  rw[if_pos h]
 ·rw[if_neg h,List.getElem?_map,List.getElem?_map]
  by_cases h2:i<n+k
  ·rw[List.getElem?_range (by omega),List.getElem?_range h2]
   unfold cat
   show some (PV.int (g (i-n)))=some (PV.int (if i<n then f i else g (i-n)))
   rw[if_neg h]
  ·rw[List.getElem?_eq_none (by rw[List.length_range];omega),List.getElem?_eq_none (by rw[List.length_range];omega)]
   rfl
theorem FK{f g:Nat->Int}{n k:Nat}(h:n+k<=5000):bQ (ar f n) (ar g k)=some (ar (cat f n g) (n+k)):=by
 show(if((List.range n).map λj=>PV.int (f j)).length+((List.range k).map λj=>PV.int (g j)).length<=sizeLine then some (PV.lst (((List.range n).map λj=>PV.int (f j))++((List.range k).map λj=>PV.int (g j))))else none)=_
 rw[List.length_map,List.length_map,List.length_range,List.length_range,if_pos (by have:sizeLine=16777216:=rfl;omega),Im]
 rfl
section
variable{ρ:cg}{a b:Den}
theorem gJ{f g:Nat->Int}{n k:Nat}(ha:a ρ=some (ar f n))(hb:b ρ=some (ar g k))(h:n+k<=5000):aa bQ a b ρ=some (ar (cat f n g) (n+k)):=by
 rw[au ha hb]
 exact FK h
theorem dW{it:cu}{e:Den}{F:Nat->PV}{g:Nat->Int}{n:Nat}(hi:it ρ=some ((List.range n).map F))(hn:n<=5000)(he:∀j,j<n->e (.sh (F j)::ρ)=some (.int (g j))):aT it bt e ρ=some (ar g n):=by
 have hc:eW bt e ρ ((List.range n).map F)=some ((List.range n).map λj=>PV.int (g j)):=by
  have:∀l:List Nat,(∀j∈l,j<n)->eW bt e ρ (l.map F)=some (l.map λj=>PV.int (g j)):=by
   intro l
   induction l with
   |nil=>exact λ_=>rfl
   |cons j l ih=>
    intro hl
    rw[List.map_cons,List.map_cons]
    show(e (.sh (F j)::ρ)).bind (λz=>(eW bt e ρ (l.map F)).map (z::·))=_
    rw[he j (hl j (List.mem_cons_self ..)),ih λx hx=>hl x (List.mem_cons_of_mem _ hx)]
    rfl
  exact this _ λj hj=>List.mem_range.mp hj
 exact gK hi (by rw[List.length_map,List.length_range];have:sizeLine=16777216:=rfl;omega) hc
theorem xj{f:Nat->Int}{n:Nat}(ha:a ρ=some (ar f n)):nList a ρ=some ((List.range n).map λj=>PV.int (f j)):=cQ ha
theorem AL{n:Nat}(ha:a ρ=some (.int (n:Nat)))(hn:n<=5000):cO a ρ=some ((List.range n).map λj=>PV.int (j:Nat)):=by
 rw[kG (j:=(n:Nat)) ha (by unfold lU;simp;omega)]
 unfold cR
 rw[Int.toNat_natCast]
 congr 1
 refine List.map_congr_left λk _=>?_
 rw[Int.zero_add]
theorem pF{x:Int}(ha:a ρ=some (.int x)):jG (ah a aA) ρ=some (ar (λ_=>x) 1):=by
 show((a ρ).bind _).bind _=_
 rw[ha]
 rfl
end
section
variable{m N:Nat}{bf:Nat->Nat->Int}{rf wf:Nat->Int}
noncomputable def lq(m N:Nat)(bf:Nat->Nat->Int):PV:=.lst ((List.range m).map λi=>ar (bf i) N)
noncomputable def mH(m N:Nat)(bf:Nat->Nat->Int)(rf:Nat->Int)(i:Nat):Nat->Int:=cat (cat (bf i) N (λz=>if z=i then 1 else 0)) (N+m) (λ_=>rf i)
theorem Cw(hN:N+m<=900){i:Nat}(hi:i<m)(rows sol:List PV)(hr:rows.length<=1000)(hs:sol.length<=1000)(s6:Slot):bO rows sol [.un,.sh (lq m N bf),.sh (ar rf m),.sh (ar wf N),.sh (.int (i:Nat)),.sh (ar (bf i) N),s6]=
  some (rows++[ar (mH m N bf rf i) (N+m+1)],sol++[.int ((N+i:Nat):Int)],[.un,.sh (lq m N bf),.sh (ar rf m),.sh (ar wf N),.sh (.int (i:Nat)),.sh (ar (bf i) N),.sh (ar (λz=>if z=i then 1 else 0) m)]):=by
 have hz:sizeLine=16777216:=rfl
 have e1:aT (cO (aZ bM (dV 1))) bt (aZ Br (aa iu (dV 0) (dV 5))) [.un,.sh (lq m N bf),.sh (ar rf m),.sh (ar wf N),.sh (.int (i:Nat)),.sh (ar (bf i) N),s6]=some (ar (λz=>if z=i then 1 else 0) m):=by
  refine dW (F:=λj=>.int (j:Nat)) (AL ?_ (by omega)) (by omega) λj hj=>?_
  ·rw[d6 (x:=lq m N bf) rfl]
   show some (PV.int ((List.range m).map λi=>ar (bf i) N).length)=_
   rw[List.length_map,List.length_range]
  ·show(aZ Br (aa iu (dV 0) (dV 5)) _)=_
   rw[d6 (x:=.bl (decide (j=i))) (by
    show some (PV.bl (decide (((j:Nat):Int)=((i:Nat):Int))))=_
    congr 2
    exact decide_eq_decide.mpr (by omega))]
   show some (PV.int (if decide (j=i)then 1 else 0))=_
   by_cases h:j=i
   ·rw[decide_eq_true h,if_pos h];rfl
   ·rw[decide_eq_false h,if_neg h];rfl
 generalize hR:([.un,.sh (lq m N bf),.sh (ar rf m),.sh (ar wf N),.sh (.int (i:Nat)),.sh (ar (bf i) N),.sh (ar (λz=>if z=i then 1 else 0) m)]:cg)=R0
 have e2:aa bQ (aa bQ (dV 5) (dV 6)) (jG (ah (aa cn (dV 2) (dV 4)) aA)) R0=some (ar (mH m N bf rf i) (N+m+1)):=by
  subst hR
  exact gJ (gJ rfl rfl (by omega)) (pF (jc (n:=m) (k:=i) rfl rfl hi)) (by omega)
 have e3:aa bQ (aZ bM (dV 3)) (dV 4) R0=some (.int ((N+i:Nat):Int)):=by
  subst hR
  rw[au (rd (n:=N) rfl) rfl]
  show some (PV.int ((N:Int)+(i:Int)))=_
  congr 2
 have f1:G6 6 (aT (cO (aZ bM (dV 1))) bt (aZ Br (aa iu (dV 0) (dV 5)))) rows sol [.un,.sh (lq m N bf),.sh (ar rf m),.sh (ar wf N),.sh (.int (i:Nat)),.sh (ar (bf i) N),s6]=some (rows,sol,R0):=by
  unfold G6
  rw[e1,<-hR]
  rfl
 have f2:G7 (aa bQ (aa bQ (dV 5) (dV 6)) (jG (ah (aa cn (dV 2) (dV 4)) aA))) rows sol R0=some (rows++[ar (mH m N bf rf i) (N+m+1)],sol,R0):=by
  unfold G7
  rw[e2]
  show(if rows.length<sizeLine then _ else _)=_
  rw[if_pos (by omega)]
 have f3:G8 (aa bQ (aZ bM (dV 3)) (dV 4)) (rows++[ar (mH m N bf rf i) (N+m+1)]) sol R0=some (rows++[ar (mH m N bf rf i) (N+m+1)],sol++[.int ((N+i:Nat):Int)],R0):=by
  unfold G8
  rw[e3]
  show(if sol.length<sizeLine then _ else _)=_
  rw[if_pos (by omega)]
 have sq:∀{a b:jZ} {r s:List PV} {ρ:cg} {r' s':List PV} {ρ':cg},a r s ρ=some (r',s',ρ')->DK a b r s ρ=b r' s' ρ':=λ{a b r s ρ r' s' ρ'} h=>by
  unfold DK
  rw[h]
  rfl
 unfold bO
 rw[sq f1,sq f2,f3]
theorem ze{i j:Nat}{body:jZ}{x:PV}{xs:List PV}{n:Nat}{r s:List PV}{ρ:cg}{r' s':List PV}{ρ':cg}(h:body r s ((ρ.set i (.sh (.int (n:Nat)))).set j (.sh x))=some (r',s',ρ')):oK i j body (x::xs) n r s ρ=oK i j body xs (n+1) r' s' ρ':=by
 show(body r s ((ρ.set i (.sh (.int (n:Nat)))).set j (.sh x))).bind _=_
 rw[h]
 rfl
theorem tm(hN:N+m<=900):∀(q i:Nat) (s4 s5 s6:Slot),i+q=m->∃t4 t5 t6,oK 4 5 bO ((List.range' i q).map λi=>ar (bf i) N) i ((List.range i).map λi=>ar (mH m N bf rf i) (N+m+1)) ((List.range i).map λi=>PV.int ((N+i:Nat):Int)) [.un,.sh (lq m N bf),.sh (ar rf m),.sh (ar wf N),s4,s5,s6]=
  some ((List.range m).map λi=>ar (mH m N bf rf i) (N+m+1),(List.range m).map λi=>PV.int ((N+i:Nat):Int),[.un,.sh (lq m N bf),.sh (ar rf m),.sh (ar wf N),t4,t5,t6])
 |0,i,s4,s5,s6,h=>⟨s4,s5,s6,by rw[show i=m by omega];rfl⟩
 |q+1,i,s4,s5,s6,h=>by
  obtain⟨t4,t5,t6,e⟩:=tm hN q (i+1) (.sh (.int (i:Nat))) (.sh (ar (bf i) N)) (.sh (ar (λz=>if z=i then 1 else 0) m)) (by omega)
  refine⟨t4,t5,t6,?_⟩
  rw[List.range'_succ,List.map_cons,<-e]
  have hb:=Cw (m:=m) (N:=N) (bf:=bf) (rf:=rf) (wf:=wf) hN (i:=i) (by omega) ((List.range i).map λi=>ar (mH m N bf rf i) (N+m+1)) ((List.range i).map λi=>PV.int ((N+i:Nat):Int)) (by rw[List.length_map,List.length_range];omega) (by rw[List.length_map,List.length_range];omega) s6
  have hc:=ze (i:=4) (j:=5) (body:=bO) (x:=ar (bf i) N) (xs:=(List.range' (i+1) q).map λi=>ar (bf i) N) (n:=i) (ρ:=[.un,.sh (lq m N bf),.sh (ar rf m),.sh (ar wf N),s4,s5,s6]) hb
  refine hc.trans ?_
  have e1:((List.range (i+1)).map λi=>ar (mH m N bf rf i) (N+m+1))=((List.range i).map λi=>ar (mH m N bf rf i) (N+m+1))++[ar (mH m N bf rf i) (N+m+1)]:=by rw[List.range_succ,List.map_append];rfl
  have e2:((List.range (i+1)).map λi=>PV.int ((N+i:Nat):Int))=((List.range i).map λi=>PV.int ((N+i:Nat):Int))++[.int ((N+i:Nat):Int)]:=by rw[List.range_succ,List.map_append];rfl
  rw[e1,e2]
theorem Ip(hN:N+m<=900):aV [lq m N bf,ar rf m,ar wf N]=some ⟨(List.range m).map λi=>ar (mH m N bf rf i) (N+m+1),(List.range m).map λi=>PV.int ((N+i:Nat):Int),ar (cat (cat (λj=>-wf j) N (λ_=>0)) (N+m) (λ_=>0)) (N+m+1),.int 1⟩:=by
 unfold aV Mc
 rw[if_pos (show[lq m N bf,ar rf m,ar wf N].length+1=4 from rfl)]
 show fR [.un,.sh (lq m N bf),.sh (ar rf m),.sh (ar wf N),.un,.un,.un]=_
 obtain⟨t4,t5,t6,e⟩:=tm (m:=m) (N:=N) (bf:=bf) (rf:=rf) (wf:=wf) hN m 0 .un .un .un (by omega)
 have e0:uv 1 4 5 bO [] [] [.un,.sh (lq m N bf),.sh (ar rf m),.sh (ar wf N),.un,.un,.un]=some ((List.range m).map λi=>ar (mH m N bf rf i) (N+m+1),(List.range m).map λi=>PV.int ((N+i:Nat):Int),[.un,.sh (lq m N bf),.sh (ar rf m),.sh (ar wf N),t4,t5,t6]):=by
  show oK 4 5 bO ((List.range m).map λi=>ar (bf i) N) 0 [] [] _=_
  rw[<-List.range_eq_range']at e
  exact e
 unfold fR KN
 rw[e0]
 have e1:aa bQ (aa bQ (aT (nList (dV 3)) bt (aZ jH (dV 0))) (aT (nList (dV 1)) bt (dC (.int 0)))) (jG (ah (dC (.int 0)) aA)) [.un,.sh (lq m N bf),.sh (ar rf m),.sh (ar wf N),t4,t5,t6]=some (ar (cat (cat (λj=>-wf j) N (λ_=>0)) (N+m) (λ_=>0)) (N+m+1)):=
  gJ (gJ (dW (xj (n:=N) rfl) (by omega) λj _=>rfl) (dW (F:=λi=>ar (bf i) N) (cQ rfl) (by omega) λj _=>rfl) (by omega)) (pF rfl) (by omega)
 show((aa bQ (aa bQ (aT (nList (dV 3)) bt (aZ jH (dV 0))) (aT (nList (dV 1)) bt (dC (.int 0)))) (jG (ah (dC (.int 0)) aA)) [.un,.sh (lq m N bf),.sh (ar rf m),.sh (ar wf N),t4,t5,t6]).bind _)=_
 rw[e1]
 rfl
end
theorem rl{f g:Nat->Int}{n:Nat}(h:∀j,j<n->f j=g j):ar f n=ar g n:=by
 unfold ar
 congr 1
 exact List.map_congr_left λj hj=>by rw[h j (List.mem_range.mp hj)]
theorem vt(l:List Nat):pl l=(List.range l.length).map λj=>PV.int (l.getD j 0:Nat):=by
 apply List.ext_getElem?
 intro i
 unfold pl
 rw[List.getElem?_map,List.getElem?_map]
 by_cases h:i<l.length
 ·rw[List.getElem?_range h,List.getElem?_eq_getElem h]
  show some (PV.int (l[i]:Nat))=some (PV.int (l.getD i 0:Nat))
  rw[List.getD_eq_getElem?_getD,List.getElem?_eq_getElem h]
  rfl
 ·rw[List.getElem?_eq_none (by omega),List.getElem?_eq_none (by rw[List.length_range];omega)]
  rfl
theorem Cy(l:List Nat):ag l=ar (λj=>(l.getD j 0:Nat)) l.length:=by
 show PV.lst (pl l)=PV.lst _
 rw[vt]
noncomputable def nK(l:List Nat)(j s:Nat):Int:=if bit (l.getD j 0) s=1 then 1 else 0
theorem hash_eq(g h:Nat):dw [.int (g:Nat),.int (h:Nat)]=some (.bl (decide (bit g h=1))):=yH g h
theorem nG{l:List Nat}{s:Nat}(hl:l.length<=100):bD [ag l,.int (s:Nat)]=some (ar (λj=>nK l j s) l.length):=by
 unfold bD
 refine ou rfl ?_
 refine dW (F:=λj=>.int (l.getD j 0:Nat)) ?_ (by omega) λj hj=>?_
 ·rw[Cy]
  exact cQ rfl
 ·rw[d6 (x:=.bl (decide (bit (l.getD j 0) s=1))) (by
    rw[bj (ps:=[.int (l.getD j 0:Nat),.int (s:Nat)]) rfl]
    exact hash_eq _ _)]
  show some (PV.int (if decide (bit (l.getD j 0) s=1)then 1 else 0))=_
  unfold nK
  by_cases h:bit (l.getD j 0) s=1
  ·rw[decide_eq_true h,if_pos h];rfl
  ·rw[decide_eq_false h,if_neg h];rfl
section
variable{h:Nat}{l o:List Nat}
noncomputable def jV(h:Nat)(l o:List Nat)(i:Nat):Nat->Int:=if i<h then cat (λj=>nK l j i) l.length (λj=>-nK o j i)else if i=h then cat (λ_=>-1) l.length (λ_=>1)else cat (λ_=>1) l.length (λ_=>0)
theorem xk(hl:l.length<=100)(ho:o.length<=100):∀(q i:Nat) (s4:Slot),i+q<=100->(∀k,k<i+q->k<h)->∃t4,forL (bh 4) (fS aV bD) ((List.range' i q).map λj=>PV.int (j:Nat)) [.sh (.int (h:Nat)),.sh (ag l),.sh (ag o),.ow ((List.range i).map λi=>ar (jV h l o i) (l.length+o.length)),s4,.un,.un]=
  some (.nx [.sh (.int (h:Nat)),.sh (ag l),.sh (ag o),.ow ((List.range (i+q)).map λi=>ar (jV h l o i) (l.length+o.length)),t4,.un,.un])
 |0,i,s4,_,_=>⟨s4,rfl⟩
 |q+1,i,s4,hq,hh=>by
  have hi:i<h:=hh i (by omega)
  obtain⟨t4,e⟩:=xk hl ho q (i+1) (.sh (.int (i:Nat))) (by omega) (λk hk=>hh k (by omega))
  refine⟨t4,?_⟩
  rw[show i+(q+1)=i+1+q by omega,<-e,List.range'_succ,List.map_cons]
  have e1:aa bQ (aG bD (ah (aO 1) (ah (aO 4) aA))) (aT (nList (aG bD (ah (aO 2) (ah (aO 4) aA)))) bt (aZ jH (dV 0))) [.sh (.int (h:Nat)),.sh (ag l),.sh (ag o),.ow ((List.range i).map λi=>ar (jV h l o i) (l.length+o.length)),.sh (.int (i:Nat)),.un,.un]=some (ar (jV h l o i) (l.length+o.length)):=by
   unfold jV
   rw[if_pos hi]
   refine gJ ?_ (dW (F:=λj=>.int (nK o j i)) ?_ (by omega) λj _=>rfl) (by omega)
   ·rw[bj (ps:=[ag l,.int (i:Nat)]) rfl]
    exact nG hl
   ·refine cQ ?_
    rw[bj (ps:=[ag o,.int (i:Nat)]) rfl]
    exact nG ho
  have hb:fS aV bD [.sh (.int (h:Nat)),.sh (ag l),.sh (ag o),.ow ((List.range i).map λi=>ar (jV h l o i) (l.length+o.length)),.sh (.int (i:Nat)),.un,.un]=some (.nx [.sh (.int (h:Nat)),.sh (ag l),.sh (ag o),.ow ((List.range (i+1)).map λi=>ar (jV h l o i) (l.length+o.length)),.sh (.int (i:Nat)),.un,.un]):=by
   unfold fS
   have e2:((List.range (i+1)).map λi=>ar (jV h l o i) (l.length+o.length))=((List.range i).map λi=>ar (jV h l o i) (l.length+o.length))++[ar (jV h l o i) (l.length+o.length)]:=by rw[List.range_succ,List.map_append];rfl
   rw[e2]
   have e3:ah (aa bQ (aG bD (ah (aO 1) (ah (aO 4) aA))) (aT (nList (aG bD (ah (aO 2) (ah (aO 4) aA)))) bt (aZ jH (dV 0)))) aA [.sh (.int (h:Nat)),.sh (ag l),.sh (ag o),.ow ((List.range i).map λi=>ar (jV h l o i) (l.length+o.length)),.sh (.int (i:Nat)),.un,.un]=some [ar (jV h l o i) (l.length+o.length)]:=by
    show(aa _ _ _ _).bind _=_
    rw[e1]
    rfl
   show(ah _ _ _).bind _=_
   rw[e3]
   show(ef ((List.range i).map λi=>ar (jV h l o i) (l.length+o.length)) [ar (jV h l o i) (l.length+o.length)]).map _=_
   show(if((List.range i).map λi=>ar (jV h l o i) (l.length+o.length)).length<sizeLine then _ else _:Option (List PV)).map _=_
   rw[if_pos (by rw[List.length_map,List.length_range];have:sizeLine=16777216:=rfl;omega)]
   rfl
  show(fS aV bD [.sh (.int (h:Nat)),.sh (ag l),.sh (ag o),.ow ((List.range i).map λi=>ar (jV h l o i) (l.length+o.length)),.sh (.int (i:Nat)),.un,.un]).bind _=_
  rw[hb]
  rfl
theorem FL{F:Nat->PV}{n:Nat}:uh ((List.range (n+1)).map F) none (some (-1))=(List.range n).map F:=by
 show(List.drop 0 ((List.range (n+1)).map F)).take ((if(-1:Int)<0 then((-1:Int)+(((List.range (n+1)).map F).length:Nat)).toNat else min (-1:Int).toNat ((List.range (n+1)).map F).length)-0)=_
 rw[List.drop_zero,if_pos (by decide),List.length_map,List.length_range]
 have:((-1:Int)+((n+1:Nat):Int)).toNat-0=n:=by omega
 rw[this,<-List.map_take,List.take_range]
 congr 2
 omega
theorem ik{g:aP}{g':cg->Option Tb}{ρ ρ':cg}(h:g ρ=some (.nx ρ')):fN g g' ρ=g' ρ':=by
 unfold fN
 rw[h]
 rfl
theorem FN{ρ:cg}{i:Nat}{f:Den}{l:List PV}{x:PV}(hf:f ρ=some x)(ho:ρ[i]?=some (.ow l))(hl:l.length<=1000):lP i ef (ah f aA) ρ=some (.nx (ρ.set i (.ow (l++[x])))):=by
 show(ah f aA ρ).bind _=_
 have e1:ah f aA ρ=some [x]:=by
  show(f ρ).bind _=_
  rw[hf]
  rfl
 rw[e1]
 have e2:yg ρ i=some l:=by
  unfold yg
  rw[ho]
 show(yg ρ i).bind _=_
 rw[e2]
 show(if l.length<sizeLine then some (l++[x])else none:Option (List PV)).map _=_
 rw[if_pos (by have:sizeLine=16777216:=rfl;omega)]
 rfl
theorem Cz(hh:h<=50)(hl:l.length<=100)(ho:o.length<=100):dR [.int (h:Nat),ag l,ag o]=aV [lq (h+2) (l.length+o.length) (jV h l o),ar (cat (λ_=>0) (h+1) (λ_=>1)) (h+2),ar (cat (λ_=>0) l.length (λ_=>1)) (l.length+o.length)]:=by
 unfold dR Mb
 rw[if_pos (show[PV.int (h:Nat),ag l,ag o].length=3 from rfl)]
 show mn aV bD [.sh (.int (h:Nat)),.sh (ag l),.sh (ag o),.un,.un,.un,.un]=_
 unfold mn
 rw[ik (ρ':=[.sh (.int (h:Nat)),.sh (ag l),.sh (ag o),.ow [],.un,.un,.un]) rfl]
 obtain⟨t4,e⟩:=xk (h:=h) hl ho h 0 .un (by omega) (λk hk=>by omega)
 rw[Nat.zero_add,<-List.range_eq_range']at e
 have r1:cO (dV 0) [.sh (.int (h:Nat)),.sh (ag l),.sh (ag o),.ow [],.un,.un,.un]=some ((List.range h).map λj=>PV.int (j:Nat)):=AL rfl (by omega)
 rw[ik (by rw[eK r1];exact e)]
 have lp:∀(s3 s4 s5 s6:Slot),nList (dV 1) [.sh (.int (h:Nat)),.sh (ag l),.sh (ag o),s3,s4,s5,s6]=some ((List.range l.length).map λj=>PV.int (l.getD j 0:Nat)):=λ_ _ _ _=>by
  refine(cQ (l:=pl l) rfl).trans ?_
  rw[vt]
 have op:∀(s3 s4 s5 s6:Slot),nList (dV 2) [.sh (.int (h:Nat)),.sh (ag l),.sh (ag o),s3,s4,s5,s6]=some ((List.range o.length).map λj=>PV.int (o.getD j 0:Nat)):=λ_ _ _ _=>by
  refine(cQ (l:=pl o) rfl).trans ?_
  rw[vt]
 have a1:∀s3:Slot,aa bQ (aT (nList (dV 1)) bt (aZ jH (dC (.int 1)))) (aT (nList (dV 2)) bt (dC (.int 1))) [.sh (.int (h:Nat)),.sh (ag l),.sh (ag o),s3,t4,.un,.un]=some (ar (jV h l o h) (l.length+o.length)):=λs3=>by
  unfold jV
  rw[if_neg (by omega),if_pos rfl]
  exact gJ (dW (lp _ _ _ _) (by omega) λj _=>rfl) (dW (op _ _ _ _) (by omega) λj _=>rfl) (by omega)
 have a2:∀s3:Slot,aa bQ (aT (nList (dV 1)) bt (dC (.int 1))) (aT (nList (dV 2)) bt (dC (.int 0))) [.sh (.int (h:Nat)),.sh (ag l),.sh (ag o),s3,t4,.un,.un]=some (ar (jV h l o (h+1)) (l.length+o.length)):=λs3=>by
  unfold jV
  rw[if_neg (by omega),if_neg (by omega)]
  exact gJ (dW (lp _ _ _ _) (by omega) λj _=>rfl) (dW (op _ _ _ _) (by omega) λj _=>rfl) (by omega)
 rw[ik (FN (a1 _) rfl (by rw[List.length_map,List.length_range];omega))]
 have m1:((List.range h).map λi=>ar (jV h l o i) (l.length+o.length))++[ar (jV h l o h) (l.length+o.length)]=(List.range (h+1)).map λi=>ar (jV h l o i) (l.length+o.length):=by rw[List.range_succ,List.map_append];rfl
 have m2:((List.range (h+1)).map λi=>ar (jV h l o i) (l.length+o.length))++[ar (jV h l o (h+1)) (l.length+o.length)]=(List.range (h+2)).map λi=>ar (jV h l o i) (l.length+o.length):=by rw[List.range_succ (n:=h+1),List.map_append];rfl
 rw[m1]
 show fN (lP 3 ef _) _ [.sh (.int (h:Nat)),.sh (ag l),.sh (ag o),.ow ((List.range (h+1)).map λi=>ar (jV h l o i) (l.length+o.length)),t4,.un,.un]=_
 rw[ik (FN (a2 _) rfl (by rw[List.length_map,List.length_range];omega)),m2]
 show fN (cA 5 _) _ [.sh (.int (h:Nat)),.sh (ag l),.sh (ag o),.ow ((List.range (h+2)).map λi=>ar (jV h l o i) (l.length+o.length)),t4,.un,.un]=_
 have a3:aa bQ (aT (nList (I9 (dV 3) p8 (oH (aZ jH (dC (.int 1)))))) bt (dC (.int 0))) (jG (ah (dC (.int 1)) aA)) [.sh (.int (h:Nat)),.sh (ag l),.sh (ag o),.ow ((List.range (h+2)).map λi=>ar (jV h l o i) (l.length+o.length)),t4,.un,.un]=some (ar (cat (λ_=>0) (h+1) (λ_=>1)) (h+2)):=by
  refine gJ (dW (F:=λi=>ar (jV h l o i) (l.length+o.length)) ?_ (by omega) λj _=>rfl) (pF rfl) (by omega)
  refine cQ ?_
  show some (PV.lst (uh ((List.range (h+1+1)).map λi=>ar (jV h l o i) (l.length+o.length)) none (some (-1))))=_
  rw[FL]
 rw[ik (bH a3)]
 show fN (cA 6 _) _ [.sh (.int (h:Nat)),.sh (ag l),.sh (ag o),.ow ((List.range (h+2)).map λi=>ar (jV h l o i) (l.length+o.length)),t4,.sh (ar (cat (λ_=>0) (h+1) (λ_=>1)) (h+2)),.un]=_
 have a4:aa bQ (aT (nList (dV 1)) bt (dC (.int 0))) (aT (nList (dV 2)) bt (dC (.int 1))) [.sh (.int (h:Nat)),.sh (ag l),.sh (ag o),.ow ((List.range (h+2)).map λi=>ar (jV h l o i) (l.length+o.length)),t4,.sh (ar (cat (λ_=>0) (h+1) (λ_=>1)) (h+2)),.un]=some (ar (cat (λ_=>0) l.length (λ_=>1)) (l.length+o.length)):=
  gJ (dW (lp _ _ _ _) (by omega) λj _=>rfl) (dW (op _ _ _ _) (by omega) λj _=>rfl) (by omega)
 rw[ik (bH a4)]
 rfl
end
section
variable{h:Nat}{l o:List Nat}
noncomputable abbrev cG(h:Nat)(l o:List Nat):dk:=tr h l.length o.length (nK l) (nK o)
noncomputable abbrev JL(h:Nat)(l o:List Nat):Nat:=l.length+o.length+(h+2)
noncomputable abbrev QT(l o:List Nat):Nat->Nat:=λk=>l.length+o.length+k
theorem AM{j s:Nat}(hj:j<l.length):cG h l o j s=if s<h then nK l j s else if s=h then-1 else if s=h+1 then 1 else 0:=iA hj
theorem AN{j s:Nat}(hj:j<o.length):cG h l o (l.length+j) s=if s<h then-nK o j s else if s=h then 1 else if s=h+1 then 0 else if s=h+2 then-1 else 0:=iB hj
theorem xm{k s:Nat}(hk:k<h+2):cG h l o (l.length+o.length+k) s=if k=s then 1 else 0:=fQ hk
theorem xn{s:Nat}:cG h l o (l.length+o.length+(h+2)) s=if s=h+1 then 1 else 0:=iY
theorem Iq{i j:Nat}(hi:i<h+2)(hj:j<JL h l o+1):mH (h+2) (l.length+o.length) (jV h l o) (cat (λ_=>0) (h+1) (λ_=>1)) i j=cG h l o j i:=by
 unfold mH
 by_cases c1:j<l.length+o.length+(h+2)
 ·show(if j<l.length+o.length+(h+2)then cat (jV h l o i) (l.length+o.length) (λz=>if z=i then 1 else 0) j else _)=_
  rw[if_pos c1]
  by_cases c2:j<l.length+o.length
  ·show(if j<l.length+o.length then jV h l o i j else _)=_
   rw[if_pos c2]
   unfold jV
   by_cases c3:j<l.length
   ·rw[AM c3]
    by_cases d1:i<h
    ·rw[if_pos d1,if_pos d1]
     exact if_pos c3
    ·rw[if_neg d1,if_neg d1]
     by_cases d2:i=h
     ·rw[if_pos d2,if_pos d2]
      exact if_pos c3
     ·rw[if_neg d2,if_neg d2,if_pos (by omega)]
      exact if_pos c3
   ·have ej:j=l.length+(j-l.length):=by omega
    have et:cG h l o j i=cG h l o (l.length+(j-l.length)) i:=by rw[<-ej]
    rw[et,AN (by omega)]
    by_cases d1:i<h
    ·rw[if_pos d1,if_pos d1]
     exact if_neg c3
    ·rw[if_neg d1,if_neg d1]
     by_cases d2:i=h
     ·rw[if_pos d2,if_pos d2]
      exact if_neg c3
     ·rw[if_neg d2,if_neg d2,if_pos (by omega)]
      exact if_neg c3
  ·show(if j<l.length+o.length then jV h l o i j else if j-(l.length+o.length)=i then 1 else 0)=_
   rw[if_neg c2]
   have ej:j=l.length+o.length+(j-(l.length+o.length)):=by omega
   have et:cG h l o j i=cG h l o (l.length+o.length+(j-(l.length+o.length))) i:=by rw[<-ej]
   rw[et,xm (by omega)]
 ·show(if j<l.length+o.length+(h+2)then _ else cat (λ_=>0) (h+1) (λ_=>1) i)=_
  rw[if_neg c1]
  have jX:j<l.length+o.length+(h+2)+1:=hj
  have ej:j=l.length+o.length+(h+2):=by omega
  rw[ej,xn]
  show(if i<h+1 then(0:Int)else 1)=_
  by_cases d1:i=h+1
  ·rw[if_neg (by omega),if_pos d1]
  ·rw[if_pos (by omega),if_neg d1]
theorem FP{j:Nat}(hj:j<JL h l o+1):cat (cat (λj=>-cat (λ_=>0) l.length (λ_=>1) j) (l.length+o.length) (λ_=>0)) (l.length+o.length+(h+2)) (λ_=>0) j=cG h l o j (h+2):=by
 by_cases c1:j<l.length+o.length+(h+2)
 ·show(if j<l.length+o.length+(h+2)then cat (λj=>-cat (λ_=>0) l.length (λ_=>1) j) (l.length+o.length) (λ_=>0) j else 0)=_
  rw[if_pos c1]
  by_cases c2:j<l.length+o.length
  ·show(if j<l.length+o.length then-cat (λ_=>0) l.length (λ_=>1) j else 0)=_
   rw[if_pos c2]
   by_cases c3:j<l.length
   ·rw[AM c3,if_neg (by omega),if_neg (by omega),if_neg (by omega)]
    show-(if j<l.length then(0:Int)else 1)=0
    rw[if_pos c3]
    rfl
   ·have ej:j=l.length+(j-l.length):=by omega
    have et:cG h l o j (h+2)=cG h l o (l.length+(j-l.length)) (h+2):=by rw[<-ej]
    rw[et,AN (by omega),if_neg (by omega),if_neg (by omega),if_neg (by omega),if_pos rfl]
    show-(if j<l.length then(0:Int)else 1)=-1
    rw[if_neg c3]
  ·show(if j<l.length+o.length then-cat (λ_=>0) l.length (λ_=>1) j else 0)=_
   rw[if_neg c2]
   have ej:j=l.length+o.length+(j-(l.length+o.length)):=by omega
   have et:cG h l o j (h+2)=cG h l o (l.length+o.length+(j-(l.length+o.length))) (h+2):=by rw[<-ej]
   rw[et,xm (by omega),if_neg (by omega)]
 ·show(if j<l.length+o.length+(h+2)then _ else(0:Int))=_
  rw[if_neg c1]
  have jX:j<l.length+o.length+(h+2)+1:=hj
  have ej:j=l.length+o.length+(h+2):=by omega
  rw[ej,xn,if_neg (by omega)]
theorem FQ(hh:h<=50)(hl:l.length<=100)(ho:o.length<=100):dR [.int (h:Nat),ag l,ag o]=some (gU (cG h l o) (h+2) (JL h l o) (QT l o)):=by
 rw[Cz hh hl ho,Ip (by omega)]
 obtain⟨_,hd,hT⟩:=qL (h:=h) (a:=l.length) (b:=o.length) (one:=nK l) (oth:=nK o)
 unfold gU eQ
 congr 2
 ·refine List.map_congr_left λi hi=>?_
  have Nt:=List.mem_range.mp hi
  exact rl λj hj=>by rw[Iq Nt hj,hT i j (by omega)]
 ·exact rl λj hj=>by rw[FP hj,hT (h+2) j (by omega)]
 ·rw[hd]
theorem settled(hh:h<=6)(hl:l.length<=64)(ho:o.length<=64):∃sol,Tab (cG h l o) (h+2) sol/\nC (cG h l o) (h+2) (JL h l o) sol/\(∀k,k<h+2->sol k<JL h l o)/\(∀j,j<JL h l o->0<=T (cG h l o) (h+2) sol (h+2) j)/\(∀(sol:Nat->Nat) i j,(T (cG h l o) (h+2) sol i j).natAbs<=362880)/\
  bT (gU (cG h l o) (h+2) (JL h l o) (QT l o)) []=some (gU (cG h l o) (h+2) (JL h l o) sol):=by
 have b1:∀(l:List Nat) j s,0<=nK l j s/\nK l j s<=1:=λl j s=>by unfold nK;split<;>decide
 have ab:∀j s,(cG h l o j s).natAbs<=1:=λj s=>LF (λj s _ _=>b1 l j s) (λj s _ _=>b1 o j s) j s
 have f9:fact (h+2+1)<=362880:=by
  have:∀k,k<=6->fact (k+2+1)<=362880:=by decide
  exact this h hh
 have hb:∀(sol:Nat->Nat) i j,(T (cG h l o) (h+2) sol i j).natAbs<=362880:=λsol i j=>Nat.le_trans (Jo (λj s _=>ab j s) i j).1 f9
 have hd:∀sol:Nat->Nat,(dt (cG h l o) (h+2) sol).natAbs<=362880:=λsol=>Nat.le_trans (Jo (sol:=sol) (λj s _=>ab j s) 0 0).2 f9
 have hp:JL h l o^(h+2)<1000000000000000000:=by
  have h1:JL h l o^(h+2)<=136^(h+2):=Nat.pow_le_pow_left (by show l.length+o.length+(h+2)<=136;omega) _
  have h2:136^(h+2)<=136^8:=Nat.pow_le_pow_right (by decide) (by omega)
  have h3:136^8<1000000000000000000:=by decide
  omega
 obtain⟨sol,g1,g2,g3,g4,g5⟩:=FJ (A:=cG h l o) (m:=h+2) (J:=JL h l o) (s0:=QT l o) qL.1 HR (λk hk=>by show l.length+o.length+k<l.length+o.length+(h+2);omega) (λsol X hs c hc neg=>LD X hs hc neg) (by show l.length+o.length+(h+2)<=900;omega) (by omega)
  (λsol i j=>by have:=hb sol i j;exact⟨by omega,by omega⟩) (λsol=>by have:=hd sol;omega) hp
 exact⟨sol,g1,g2,g3,g4,hb,g5⟩
end
section
variable{A:dk}{m J:Nat}{sol:Nat->Nat}
theorem fz{F:Nat->Int}:∀l:List Nat,eA (l.map λj=>PV.int (F j))=some (l.map F)
 |[]=>rfl
 |x::l=>by
  show(eA (l.map λj=>PV.int (F j))).map _=_
  rw[fz l]
  rfl
theorem AO{F:Nat->Int}{x:Int}:∀l:List Nat,zN (.int x) (l.map λj=>PV.int (F j))=l.any λj=>F j==x
 |[]=>rfl
 |y::l=>by
  show(DD (.int (F y)) (.int x)||zN (.int x) (l.map λj=>PV.int (F j)))=_
  rw[AO l]
  rfl
theorem AQ{F:Nat->Int}{x:Int}:∀(m i:Nat),(∃k,i<=k/\k<i+m/\F k=x)->∃k,i<=k/\k<i+m/\F k=x/\ko x ((List.range' i m).map F)=k-i
 |0,i,h=>by obtain⟨k,h1,h2,_⟩:=h;omega
 |m+1,i,h=>by
  rw[List.range'_succ,List.map_cons]
  by_cases c:F i=x
  ·exact⟨i,Nat.le_refl _,by omega,c,by unfold ko;rw[if_pos c];omega⟩
  ·obtain⟨k,h1,h2,h3⟩:=h
   have hk:k≠i:=λz=>c (z▸h3)
   obtain⟨q,g1,g2,g3,g4⟩:=AQ (F:=F) (x:=x) m (i+1) ⟨k,by omega,by omega,h3⟩
   refine⟨q,by omega,by omega,g3,?_⟩
   unfold ko
   rw[if_neg c,g4]
   omega
theorem FR(X:Tab A m sol)(hm:m<=1000)(j:Nat):bS [dz (gU A m J sol),.int (j:Nat)]=some (.int (j0 A m J sol j)):=by
 unfold bS
 refine fB rfl ?_
 show iD [.sh (dz (gU A m J sol)),.sh (.int (j:Nat))]=_
 unfold iD
 have es:aZ (cB f6 "solved") (dV 0) [.sh (dz (gU A m J sol)),.sh (.int (j:Nat))]=some (.lst ((List.range m).map λk=>PV.int (sol k:Nat))):=AH (t:=gU A m J sol) rfl
 have af:((List.range m).map λk=>PV.int (sol k:Nat)).all flat=true:=by
  rw[List.all_eq_true]
  intro x hx
  obtain⟨k,_,rfl⟩:=List.mem_map.mp hx
  rfl
 have e1:tV (aa kh (dV 1) (aZ (cB f6 "solved") (dV 0))) [.sh (dz (gU A m J sol)),.sh (.int (j:Nat))]=some (!((List.range m).any λk=>((sol k:Nat):Int)==((j:Nat):Int))):=cj (by
  rw[au (x:=.int (j:Nat)) rfl es]
  show(if(flat (.int (j:Nat))&&((List.range m).map λk=>PV.int (sol k:Nat)).all flat)=true then some (PV.bl (!zN (.int (j:Nat)) ((List.range m).map λk=>PV.int (sol k:Nat))))else none)=_
  rw[af,if_pos (show(flat (PV.int (j:Nat))&&true)=true from rfl),AO (F:=λk=>((sol k:Nat):Int))])
 by_cases c:∃k,k<m/\sol k=j
 ·obtain⟨k,hk,QB⟩:=c
  have ha:((List.range m).any λk=>((sol k:Nat):Int)==((j:Nat):Int))=true:=by
   rw[List.any_eq_true]
   exact⟨k,List.mem_range.mpr hk,by rw[QB];simp⟩
  rw[ha]at e1
  rw[aE (by rw[eB e1];rfl)]
  refine eL ?_
  obtain⟨q,g1,g2,g3,g4⟩:=AQ (F:=λk=>((sol k:Nat):Int)) (x:=((j:Nat):Int)) m 0 ⟨k,by omega,by omega,by show((sol k:Nat):Int)=_;rw[QB]⟩
  have hq:sol q=j:=by
   have:((sol q:Nat):Int)=((j:Nat):Int):=g3
   omega
  have e2:aa uk (aZ (cB f6 "solved") (dV 0)) (dV 1) [.sh (dz (gU A m J sol)),.sh (.int (j:Nat))]=some (.int (q:Nat)):=by
   rw[au (y:=.int (j:Nat)) es rfl]
   show(eA ((List.range m).map λk=>PV.int (sol k:Nat))).bind _=_
   rw[fz (F:=λk=>((sol k:Nat):Int))]
   show(if((j:Nat):Int)∈(List.range m).map (λk=>((sol k:Nat):Int))then some (PV.int (ko ((j:Nat):Int) ((List.range m).map λk=>((sol k:Nat):Int)):Nat))else none)=_
   rw[if_pos (List.mem_map.mpr ⟨q,List.mem_range.mpr (by omega),by show((sol q:Nat):Int)=_;rw[hq]⟩),List.range_eq_range',g4]
   rfl
  rw[<-hq,EX X (by omega),hq]
  exact vp (n:=J+1) (jT (tf:=T A m sol) rfl e2 (by omega)) (by omega)
 ·have ha:((List.range m).any λk=>((sol k:Nat):Int)==((j:Nat):Int))=false:=by
    rw[List.any_eq_false]
    intro k hk
    have:sol k≠j:=λz=>c ⟨k,List.mem_range.mp hk,z⟩
    simp
    omega
  rw[ha]at e1
  rw[lF (by rw[lY e1];rfl),qI λk hk z=>c ⟨k,hk,z⟩]
noncomputable def jW(A:dk)(m J:Nat)(sol:Nat->Nat)(l:List Nat)(st:Nat):List Nat:=(List.range l.length).filter λj=>decide (0<j0 A m J sol (st+j))
noncomputable def mI(A:dk)(m J:Nat)(sol:Nat->Nat)(l:List Nat)(st j:Nat):PV:=.tup [.int (l.getD j 0:Nat),.int (j0 A m J sol (st+j))]
theorem xo{F:Nat->PV}:∀(n i:Nat),km i ((List.range' i n).map F)=(List.range' i n).map λj=>PV.tup [.int (j:Nat),F j]
 |0,_=>rfl
 |n+1,i=>by
  rw[List.range'_succ,List.map_cons,List.map_cons]
  show PV.tup [.int (i:Nat),F i]::km (i+1) _=_
  rw[xo n (i+1)]
theorem xp(X:Tab A m sol)(hm:m<=1000){l:List Nat}(hl:l.length<=100)(st:Nat):dy [dz (gU A m J sol),ag l,.int (st:Nat)]=some (.lst ((jW A m J sol l st).map (mI A m J sol l st))):=by
 unfold dy
 refine fB rfl ?_
 show mq bS [.sh (dz (gU A m J sol)),.sh (ag l),.sh (.int (st:Nat)),.un]=_
 unfold mq
 have e0:zP (dV 1) [.sh (dz (gU A m J sol)),.sh (ag l),.sh (.int (st:Nat)),.un]=some ((List.range l.length).map λj=>PV.tup [.int (j:Nat),.int (l.getD j 0:Nat)]):=by
  show some (km 0 (pl l))=_
  rw[vt,List.range_eq_range',xo]
 have e1:kn (zP (dV 1)) (Bm (ah (aO 1) (ah (dU (iP bS) (aO 2) (ah (aa bQ (dV 4) (dV 0)) aA)) aA))) [.sh (dz (gU A m J sol)),.sh (ag l),.sh (.int (st:Nat)),.un]=some (.lst ((List.range l.length).map (mI A m J sol l st))):=by
  unfold kn
  rw[e0]
  show(if((List.range l.length).map λj=>PV.tup [.int (j:Nat),.int (l.getD j 0:Nat)]).length<=sizeLine then _ else _)=_
  rw[if_pos (by rw[List.length_map,List.length_range];have:sizeLine=16777216:=rfl;omega),mG (u:=λj=>.int (j:Nat)) (v:=λj=>.int (l.getD j 0:Nat)) (f:=mI A m J sol l st) (List.range l.length) λj hj=>?_]
  ·rfl
  ·have a1:dU (iP bS) (aO 2) (ah (aa bQ (dV 4) (dV 0)) aA) (.sh (.int (j:Nat))::.sh (.int (l.getD j 0:Nat))::[.sh (dz (gU A m J sol)),.sh (ag l),.sh (.int (st:Nat)),.un])=some (.int (j0 A m J sol (st+j))):=by
     rw[lJ (t:=gU A m J sol) (xs:=[.int ((st+j:Nat):Int)]) rfl rfl]
     exact FR X hm (st+j)
   show((ah _ _ _).bind _)=_
   have a2:ah (aO 1) (ah (dU (iP bS) (aO 2) (ah (aa bQ (dV 4) (dV 0)) aA)) aA) (.sh (.int (j:Nat))::.sh (.int (l.getD j 0:Nat))::[.sh (dz (gU A m J sol)),.sh (ag l),.sh (.int (st:Nat)),.un])=some [.int (l.getD j 0:Nat),.int (j0 A m J sol (st+j))]:=by
    refine jt rfl ?_
    exact jt a1 rfl
   rw[a2]
   rfl
 rw[aE (bH e1)]
 show br _ [.sh (dz (gU A m J sol)),.sh (ag l),.sh (.int (st:Nat)),.sh (.lst ((List.range l.length).map (mI A m J sol l st)))]=_
 refine eL (gK (cQ rfl) (by rw[List.length_map,List.length_range];have:sizeLine=16777216:=rfl;omega) ?_)
 have:∀(ρ:cg) (q:List Nat),eW (tV (aa Bo (aa cn (dV 0) (dC (.int 1))) (dC (.int 0)))) (aO 0) ρ (q.map (mI A m J sol l st))=some ((q.filter λj=>decide (0<j0 A m J sol (st+j))).map (mI A m J sol l st)):=by
  intro ρ q
  induction q with
  |nil=>rfl
  |cons j q ih=>
   rw[List.map_cons]
   show((some (decide (0<j0 A m J sol (st+j)))).bind λb=>if b then(some (mI A m J sol l st j)).bind λz=>(eW _ _ ρ (q.map (mI A m J sol l st))).map (z::·)else eW _ _ ρ (q.map (mI A m J sol l st)))=_
   rw[ih]
   by_cases c:0<j0 A m J sol (st+j)
   ·rw[List.filter_cons_of_pos (by rw[decide_eq_true c]),decide_eq_true c]
    rfl
   ·rw[List.filter_cons_of_neg (by rw[decide_eq_false c];simp),decide_eq_false c]
    rfl
 exact this _ _
end
section
variable{c:Nat}{l:List Nat}
theorem Ir{c:Nat}(c6:c<=6){l:List Nat}(n:l.length<=64):∃r,jN c r/\(∀g,g<2^c->Mt.lets r g=meets l g)/\fq [.int c,ag l]=some (ag r):=wK c6 n
theorem zf(c6:c<=6)(n:l.length<=64):∃r,jN c r/\(∀g,g<2^c->Mt.lets r g=meets l g)/\bU [.int (c:Nat),ag l]=some (ag (r.map λg=>2^c-1-g)):=by
 obtain⟨r,h1,h2,h3⟩:=Ir c6 n
 refine⟨r,h1,h2,?_⟩
 unfold bU
 refine fB rfl ?_
 show fv fq [.sh (.int (c:Nat)),.sh (ag l),.un]=_
 unfold fv
 have e1:aa tJ (aa iN (dC (.int 1)) (dV 0)) (dC (.int 1)) [.sh (.int (c:Nat)),.sh (ag l),.un]=some (.int (((2^c-1:Nat):Nat):Int)):=by
  rw[au (by rw[au (x:=.int 1) (y:=.int (c:Nat)) rfl rfl];exact jM c c6) rfl]
  show some (PV.int (((2^c:Nat):Int)-1))=_
  have:0<2^c:=Nat.pow_pos (by decide)
  congr 2
  omega
 rw[aE (bH e1)]
 show br _ [.sh (.int (c:Nat)),.sh (ag l),.sh (.int (((2^c-1:Nat):Nat):Int))]=_
 refine eL ?_
 have e2:nList (aG fq (ah (aO 0) (ah (aO 1) aA))) [.sh (.int (c:Nat)),.sh (ag l),.sh (.int (((2^c-1:Nat):Nat):Int))]=some (pl r):=cQ (by
  rw[bj (ps:=[.int (c:Nat),ag l]) rfl]
  exact h3)
 have hlen:=h1.len
 rw[mj (l:=r) (f:=λn=>.int ((2^c-1-n:Nat):Int)) e2 (by have:sizeLine=16777216:=rfl;omega) λg hg=>?_]
 ·exact congrArg some (Cj (λn=>2^c-1-n) r)
 ·rw[au (x:=.int (((2^c-1:Nat):Nat):Int)) (y:=.int (g:Nat)) rfl rfl]
  have hs:g<2^c:=h1.lt g hg
  show some (PV.int ((((2^c-1:Nat):Nat):Int)-((g:Nat):Int)))=_
  congr 2
  omega
theorem LO{F:Nat->PV}{n k:Nat}(h:k<=n):uh ((List.range n).map F) (some (k:Nat)) none=(List.range (n-k)).map λj=>F (k+j):=by
 show(List.drop (if((k:Nat):Int)<0 then(((k:Nat):Int)+(((List.range n).map F).length:Nat)).toNat else min ((k:Nat):Int).toNat ((List.range n).map F).length) ((List.range n).map F)).take (((List.range n).map F).length-(if((k:Nat):Int)<0 then(((k:Nat):Int)+(((List.range n).map F).length:Nat)).toNat else min ((k:Nat):Int).toNat ((List.range n).map F).length))=_
 rw[if_neg (by omega),List.length_map,List.length_range,Int.toNat_natCast,Nat.min_eq_left h]
 apply List.ext_getElem?
 intro i
 rw[List.getElem?_take,List.getElem?_drop,List.getElem?_map,List.getElem?_map]
 by_cases hi:i<n-k
 ·rw[if_pos hi,List.getElem?_range (by omega),List.getElem?_range hi]
  rfl
 ·rw[if_neg hi,List.getElem?_eq_none (by rw[List.length_range];omega)]
  rfl
theorem LP{F:Nat->PV}{n k:Nat}(h:k<=n):uh ((List.range n).map F) none (some (k:Nat))=(List.range k).map F:=by
 show(List.drop 0 ((List.range n).map F)).take ((if((k:Nat):Int)<0 then(((k:Nat):Int)+(((List.range n).map F).length:Nat)).toNat else min ((k:Nat):Int).toNat ((List.range n).map F).length)-0)=_
 rw[if_neg (by omega),List.length_map,List.length_range,Int.toNat_natCast,Nat.min_eq_left h,Nat.sub_zero,List.drop_zero,<-List.map_take,List.take_range,Nat.min_eq_left h]
theorem xq{g:aP}{g':jm}{ρ ρ':cg}(h:g ρ=some (.nx ρ')):vZ g g' ρ=g' ρ':=by
 unfold vZ
 rw[h]
 rfl
theorem LQ{a:Den}{lo hi:Bp}{ρ:cg}{xs:List PV}{l h:Option Int}(ha:a ρ=some (.lst xs))(hl:lo ρ=some l)(hh:hi ρ=some h):I9 a lo hi ρ=some (.lst (uh xs l h)):=by
 show(a ρ).bind _=_
 rw[ha]
 show(lo ρ).bind _=_
 rw[hl]
 show(hi ρ).bind _=_
 rw[hh]
 rfl
theorem Oa{t:cN}{a b:jm}{ρ:cg}(h:t ρ=some true):KL t a b ρ=a ρ:=by
 unfold KL
 rw[h]
 rfl
theorem Ob{t:cN}{a b:jm}{ρ:cg}(h:t ρ=some false):KL t a b ρ=b ρ:=by
 unfold KL
 rw[h]
 rfl
theorem CA{i:Nat}{FT:List PV->Option Tb}{FS:Tb->List PV->Option Tb}{as:cu}{rest:jm}{ρ:cg}{ps:List PV}{t t':Tb}(h1:as ρ=some ps)(h2:FT ps=some t)(h3:FS t []=some t')(hi:i<ρ.length):qb i FT FS as rest ρ=rest (ρ.set i (.sh (dz t'))):=by
 unfold qb
 rw[h1]
 show(FT ps).bind _=_
 rw[h2]
 show(FS t []).bind _=_
 rw[h3]
 show(if i<ρ.length then _ else _)=_
 rw[if_pos hi]
noncomputable def zg(c:Nat)(l o:List Nat)(sol:Nat->Nat):PV:=
 if 0<T (cG c l o) (c+2) sol (c+2) (JL c l o)then .tup [.bl false,.tup [.lst ((jW (cG c l o) (c+2) (JL c l o) sol l 0).map (mI (cG c l o) (c+2) (JL c l o) sol l 0)),.lst ((jW (cG c l o) (c+2) (JL c l o) sol o l.length).map (mI (cG c l o) (c+2) (JL c l o) sol o l.length))]]
 else .tup [.bl true,.tup [ar (λs=>T (cG c l o) (c+2) sol (c+2) (l.length+o.length+s)) c,.int (T (cG c l o) (c+2) sol (c+2) (l.length+o.length+c))]]
theorem FU(c6:c<=6)(n:l.length<=64):∃r sol,jN c r/\(∀g,g<2^c->Mt.lets r g=meets l g)/\Tab (cG c l (r.map λg=>2^c-1-g)) (c+2) sol/\nC (cG c l (r.map λg=>2^c-1-g)) (c+2) (JL c l (r.map λg=>2^c-1-g)) sol/\
  (∀k,k<c+2->sol k<JL c l (r.map λg=>2^c-1-g))/\(∀j,j<JL c l (r.map λg=>2^c-1-g)->0<=T (cG c l (r.map λg=>2^c-1-g)) (c+2) sol (c+2) j)/\(∀(sol:Nat->Nat) i j,(T (cG c l (r.map λg=>2^c-1-g)) (c+2) sol i j).natAbs<=362880)/\
  fT [.int (c:Nat),ag l]=some (zg c l (r.map λg=>2^c-1-g) sol):=by
 obtain⟨r,h1,h2,h3⟩:=zf c6 n
 have hr:=h1.len
 generalize ho:r.map (λg=>2^c-1-g)=o at h3
 have TN:o.length<=64:=by rw[<-ho,List.length_map];exact hr
 obtain⟨sol,X,F,hs,fin,hb,e⟩:=settled (h:=c) (l:=l) (o:=o) c6 n TN
 refine⟨r,sol,h1,h2,?_⟩
 rw[ho]
 refine⟨X,F,hs,fin,hb,?_⟩
 unfold fT Ma
 rw[if_pos (show[PV.int (c:Nat),ag l].length=2 from rfl)]
 show u5 bU dR bT dy [.sh (.int (c:Nat)),.sh (ag l),.un,.un,.un]=_
 unfold u5
 rw[xq (bH (by rw[bj (ps:=[.int (c:Nat),ag l]) rfl];exact h3))]
 show qb 3 dR bT _ _ [.sh (.int (c:Nat)),.sh (ag l),.sh (ag o),.un,.un]=_
 rw[CA (ρ:=[.sh (.int (c:Nat)),.sh (ag l),.sh (ag o),.un,.un]) (ps:=[.int (c:Nat),ag l,ag o]) rfl (FQ (by omega) (by omega) (by omega)) e (show(3:Nat)<5 by decide)]
 show KL _ _ _ [.sh (.int (c:Nat)),.sh (ag l),.sh (ag o),.sh (dz (gU (cG c l o) (c+2) (JL c l o) sol)),.un]=_
 have ec:aZ (cB f6 "costs") (dV 3) [.sh (.int (c:Nat)),.sh (ag l),.sh (ag o),.sh (dz (gU (cG c l o) (c+2) (JL c l o) sol)),.un]=some (ar (T (cG c l o) (c+2) sol (c+2)) (JL c l o+1)):=oB (t:=gU (cG c l o) (c+2) (JL c l o) sol) rfl
 have e1:tV (aa Bo (aa cn (aZ (cB f6 "costs") (dV 3)) (aZ jH (dC (.int 1)))) (dC (.int 0))) [.sh (.int (c:Nat)),.sh (ag l),.sh (ag o),.sh (dz (gU (cG c l o) (c+2) (JL c l o) sol)),.un]=some (decide (0<T (cG c l o) (c+2) sol (c+2) (JL c l o))):=cj (by
  rw[au (vp ec (by omega)) rfl]
  rfl)
 have ll:∀(l:List Nat),bM (ag l)=some (.int (l.length:Nat)):=λl=>by
  show some (PV.int ((pl l).length:Nat))=_
  rw[c9]
 unfold zg
 by_cases q:0<T (cG c l o) (c+2) sol (c+2) (JL c l o)
 ·rw[decide_eq_true q]at e1
  rw[Oa e1,if_pos q]
  unfold Bt
  have t1:aG dy (ah (aO 3) (ah (aO 1) (ah (dC (.int 0)) aA))) [.sh (.int (c:Nat)),.sh (ag l),.sh (ag o),.sh (dz (gU (cG c l o) (c+2) (JL c l o) sol)),.un]=some (.lst ((jW (cG c l o) (c+2) (JL c l o) sol l 0).map (mI (cG c l o) (c+2) (JL c l o) sol l 0))):=by
   rw[bj (ps:=[dz (gU (cG c l o) (c+2) (JL c l o) sol),ag l,.int ((0:Nat):Int)]) rfl]
   exact xp X (by omega) (by omega) 0
  have t2:aG dy (ah (aO 3) (ah (aO 2) (ah (aZ bM (dV 1)) aA))) [.sh (.int (c:Nat)),.sh (ag l),.sh (ag o),.sh (dz (gU (cG c l o) (c+2) (JL c l o) sol)),.un]=some (.lst ((jW (cG c l o) (c+2) (JL c l o) sol o l.length).map (mI (cG c l o) (c+2) (JL c l o) sol o l.length))):=by
   rw[bj (ps:=[dz (gU (cG c l o) (c+2) (JL c l o) sol),ag o,.int (l.length:Nat)]) (jt rfl (jt rfl (jt (by rw[d6 (x:=ag l) rfl];exact ll l) rfl)))]
   exact xp X (by omega) (by omega) l.length
  rw[t1,t2]
  rfl
 ·rw[decide_eq_false q]at e1
  rw[Ob e1,if_neg q]
  have s1:I9 (aZ (cB f6 "costs") (dV 3)) (oH (aa bQ (aZ bM (dV 1)) (aZ bM (dV 2)))) p8 [.sh (.int (c:Nat)),.sh (ag l),.sh (ag o),.sh (dz (gU (cG c l o) (c+2) (JL c l o) sol)),.un]=some (.lst ((List.range (c+3)).map λs=>PV.int (T (cG c l o) (c+2) sol (c+2) (l.length+o.length+s)))):=by
   have e2:aa bQ (aZ bM (dV 1)) (aZ bM (dV 2)) [.sh (.int (c:Nat)),.sh (ag l),.sh (ag o),.sh (dz (gU (cG c l o) (c+2) (JL c l o) sol)),.un]=some (.int ((l.length+o.length:Nat):Int)):=by
    rw[au (by rw[d6 (x:=ag l) rfl];exact ll l) (by rw[d6 (x:=ag o) rfl];exact ll o)]
    rfl
   have e3:oH (aa bQ (aZ bM (dV 1)) (aZ bM (dV 2))) [.sh (.int (c:Nat)),.sh (ag l),.sh (ag o),.sh (dz (gU (cG c l o) (c+2) (JL c l o) sol)),.un]=some (some ((l.length+o.length:Nat):Int)):=by
    show(aa bQ _ _ _).bind _=_
    rw[e2]
    rfl
   rw[LQ (h:=none) ec e3 rfl]
   rw[LO (by show l.length+o.length<=l.length+o.length+(c+2)+1;omega),show JL c l o+1-(l.length+o.length)=c+3 by show l.length+o.length+(c+2)+1-(l.length+o.length)=c+3;omega]
  rw[xq (bH s1)]
  show Bt true _ _ [.sh (.int (c:Nat)),.sh (ag l),.sh (ag o),.sh (dz (gU (cG c l o) (c+2) (JL c l o) sol)),.sh (.lst ((List.range (c+3)).map λs=>PV.int (T (cG c l o) (c+2) sol (c+2) (l.length+o.length+s))))]=_
  unfold Bt
  have s2:I9 (dV 4) p8 (oH (dV 0)) [.sh (.int (c:Nat)),.sh (ag l),.sh (ag o),.sh (dz (gU (cG c l o) (c+2) (JL c l o) sol)),.sh (.lst ((List.range (c+3)).map λs=>PV.int (T (cG c l o) (c+2) sol (c+2) (l.length+o.length+s))))]=some (ar (λs=>T (cG c l o) (c+2) sol (c+2) (l.length+o.length+s)) c):=by
   show some (PV.lst (uh ((List.range (c+3)).map λs=>PV.int (T (cG c l o) (c+2) sol (c+2) (l.length+o.length+s))) none (some (c:Nat))))=_
   rw[LP (by omega)]
   rfl
  have s3:aa cn (dV 4) (dV 0) [.sh (.int (c:Nat)),.sh (ag l),.sh (ag o),.sh (dz (gU (cG c l o) (c+2) (JL c l o) sol)),.sh (.lst ((List.range (c+3)).map λs=>PV.int (T (cG c l o) (c+2) sol (c+2) (l.length+o.length+s))))]=some (.int (T (cG c l o) (c+2) sol (c+2) (l.length+o.length+c))):=jc (n:=c+3) (f:=λs=>T (cG c l o) (c+2) sol (c+2) (l.length+o.length+s)) (k:=c) rfl rfl (by omega)
  rw[s2,s3]
  rfl
end
theorem CB(i:Int):aL [.int i]=some (.bl true):=rfl
theorem Jx:Bn (.int 10) (.int 60)=some (.int (10^60)):=by
 show(if p6 10 60 then some (PV.int ((10:Int)^(60:Int).toNat))else none)=_
 rw[if_pos (by decide)]
 rfl
section
variable{c:Nat}{l:List Nat}{w:Nat->Int}{mk:Int}
theorem CC{x:Int}(s0 s1 s2 s4 s5:Slot)(h0:0<=x)(h1:x<1000000):gH aX aL aq [s0,s1,s2,.sh (.int x),s4,s5]=some (.nx [s0,s1,s2,.sh (.int x),s4,s5]):=by
 unfold gH
 have e1:tV (aG aL (ah (aO 3) aA)) [s0,s1,s2,.sh (.int x),s4,s5]=some true:=cj (CB x)
 have e2:tV (aa ma (dV 3) (dC (.int 0))) [s0,s1,s2,.sh (.int x),s4,s5]=some false:=cj (by
  show some (PV.bl (decide (x<0)))=_
  rw[decide_eq_false (by omega)])
 have e3:tV (aa GY (dV 3) (aa Bn (dC (.int 10)) (dC (.int 60)))) [s0,s1,s2,.sh (.int x),s4,s5]=some false:=cj (by
  rw[au (x:=.int x) rfl Jx]
  show some (PV.bl (decide ((10:Int)^60<=x)))=_
  rw[decide_eq_false (by omega)])
 rw[eB (by rw[gh (by rw[pA e1];rfl),gh e2,e3])]
 rfl
theorem Iu{g:Nat}(h:g<64):aq [.int (g:Nat)]=some (ag (Mt.bW g)):=oo g h
theorem FV(l:List Nat)(g:Nat):aX [ag l,.int (g:Nat)]=some (.bl (Mt.lets l g)):=EL l g
theorem CD{g:Nat}(hg:g<64)(hc:∀s∈Mt.bW g,s<c)(hw:∀s,s<c->0<=w s/\w s<1000000)(s0 s1 s3 s5:Slot):aZ kl (aT (nList (aG aq (ah (aO 4) aA))) bt (aa cn (aa cn (dV 3) (dC (.int 0))) (dV 0))) [s0,s1,.sh (.tup [ar w c,.int mk]),s3,.sh (.int (g:Nat)),s5]=some (.int ((Mt.bW g).map w).sum):=by
 have e1:nList (aG aq (ah (aO 4) aA)) [s0,s1,.sh (.tup [ar w c,.int mk]),s3,.sh (.int (g:Nat)),s5]=some (pl (Mt.bW g)):=cQ (by
  rw[bj (ps:=[.int (g:Nat)]) rfl]
  exact Iu hg)
 have hl:(Mt.bW g).length<=6:=by
  unfold Mt.bW
  exact Nat.le_trans (List.length_filter_le _ _) (by decide)
 rw[d6 (x:=.lst ((Mt.bW g).map λs=>PV.int (w s))) (mj (l:=Mt.bW g) (f:=λs=>.int (w s)) e1 (by have:sizeLine=16777216:=rfl;omega) λs hs=>?_)]
 ·show(eA ((Mt.bW g).map λs=>PV.int (w s))).bind _=_
  rw[fz (F:=w)]
  show(if qa ((Mt.bW g).map w)then some (PV.int ((Mt.bW g).map w).sum)else none)=_
  rw[if_pos]
  unfold qa
  rw[Bool.and_eq_true,List.all_eq_true,List.length_map]
  refine⟨λx hx=>?_,decide_eq_true (by omega)⟩
  obtain⟨s,hs,rfl⟩:=List.mem_map.mp hx
  have:=hw s (hc s hs)
  rw[decide_eq_true this.1,decide_eq_true this.2]
  rfl
 ·exact jc (n:=c) (f:=w) (k:=s) rfl rfl (hc s hs)
theorem CF{g:Nat}(hg:g<64)(hc:∀s∈Mt.bW g,s<c)(hw:∀s,s<c->0<=w s/\w s<1000000)(h:decide (mk<=((Mt.bW g).map w).sum)=Mt.lets l g)(s0 s3 s5:Slot):eY aX aL aq [s0,.sh (ag l),.sh (.tup [ar w c,.int mk]),s3,.sh (.int (g:Nat)),s5]=some (.nx [s0,.sh (ag l),.sh (.tup [ar w c,.int mk]),s3,.sh (.int (g:Nat)),.sh (.int ((Mt.bW g).map w).sum)]):=by
 unfold eY
 rw[aE (bH (CD hg hc hw s0 _ s3 s5))]
 show iL _ _ _ [s0,.sh (ag l),.sh (.tup [ar w c,.int mk]),s3,.sh (.int (g:Nat)),.sh (.int ((Mt.bW g).map w).sum)]=_
 have e1:tV (aa dE (aa GY (dV 5) (aa cn (dV 2) (dC (.int 1)))) (aG aX (ah (aO 1) (ah (aO 4) aA)))) [s0,.sh (ag l),.sh (.tup [ar w c,.int mk]),s3,.sh (.int (g:Nat)),.sh (.int ((Mt.bW g).map w).sum)]=some false:=cj (by
  rw[au (x:=.bl (decide (mk<=((Mt.bW g).map w).sum))) (y:=.bl (Mt.lets l g)) rfl (by rw[bj (ps:=[ag l,.int (g:Nat)]) rfl];exact FV l g),h,Ey]
  simp)
 rw[eB e1]
 rfl
theorem tq(hw:∀s,s<c->0<=w s/\w s<1000000)(s0 s3:Slot):∀(gs:List Nat) (s4 s5:Slot),(∀g∈gs,g<64/\(∀s∈Mt.bW g,s<c)/\decide (mk<=((Mt.bW g).map w).sum)=Mt.lets l g)->∃t4 t5,forL (bh 4) (eY aX aL aq) (pl gs) [s0,.sh (ag l),.sh (.tup [ar w c,.int mk]),s3,s4,s5]=some (.nx [s0,.sh (ag l),.sh (.tup [ar w c,.int mk]),s3,t4,t5])
 |[],s4,s5,_=>⟨s4,s5,rfl⟩
 |g::gs,s4,s5,h=>by
  obtain⟨h1,h2,h3⟩:=h g (List.mem_cons_self ..)
  obtain⟨t4,t5,e⟩:=tq hw s0 s3 gs (.sh (.int (g:Nat))) (.sh (.int ((Mt.bW g).map w).sum)) λx hx=>h x (List.mem_cons_of_mem _ hx)
  refine⟨t4,t5,?_⟩
  rw[<-e]
  show(eY aX aL aq [s0,.sh (ag l),.sh (.tup [ar w c,.int mk]),s3,.sh (.int (g:Nat)),s5]).bind _=_
  rw[CF h1 h2 hw h3]
  rfl
theorem FX(c6:c<=6)(hw:∀s,s<c->0<=w s/\w s<1000000)(hm:0<=mk/\mk<1000000)(H:∀g,g<2^c->(∀s∈Mt.bW g,s<c)/\decide (mk<=((Mt.bW g).map w).sum)=Mt.lets l g):dr [.int (c:Nat),ag l,.tup [ar w c,.int mk]]=some (.bl true):=by
 unfold dr
 refine fB rfl ?_
 show kO aX aL aq [.sh (.int (c:Nat)),.sh (ag l),.sh (.tup [ar w c,.int mk]),.un,.un,.un]=_
 unfold kO
 have e1:jy (eV (tV (aZ (rB 4) (dV 2)))) (jy (tV (aa dE (aZ bM (dV 2)) (dC (.int 2)))) (jy (eV (tV (aZ (rB 3) (aa cn (dV 2) (dC (.int 0)))))) (tV (aa dE (aZ bM (aa cn (dV 2) (dC (.int 0)))) (dV 0))))) [.sh (.int (c:Nat)),.sh (ag l),.sh (.tup [ar w c,.int mk]),.un,.un,.un]=some false:=by
  rw[gh rfl,gh rfl,gh rfl]
  refine cj ?_
  rw[au (y:=.int (c:Nat)) (rd (n:=c) (f:=w) rfl) rfl,uT]
  simp
 rw[aE (by rw[eB e1];rfl)]
 have e2:nList (aa bQ (aa cn (dV 2) (dC (.int 0))) (jG (ah (aa cn (dV 2) (dC (.int 1))) aA))) [.sh (.int (c:Nat)),.sh (ag l),.sh (.tup [ar w c,.int mk]),.un,.un,.un]=some ((List.range (c+1)).map λj=>PV.int (cat w c (λ_=>mk) j)):=
  xj (gJ (n:=c) (f:=w) rfl (pF (x:=mk) rfl) (by omega))
 obtain⟨t3,e3⟩:=ox (i:=3) (body:=gH aX aL aq) ((List.range (c+1)).map λj=>PV.int (cat w c (λ_=>mk) j)) [.sh (.int (c:Nat)),.sh (ag l),.sh (.tup [ar w c,.int mk]),.un,.un,.un] λx hx=>by
  obtain⟨j,hj,rfl⟩:=List.mem_map.mp hx
  have jX:=List.mem_range.mp hj
  have hb:0<=cat w c (λ_=>mk) j/\cat w c (λ_=>mk) j<1000000:=by
   unfold cat
   split
   ·exact hw j (by assumption)
   ·exact hm
  exact CC _ _ _ _ _ hb.1 hb.2
 rw[aE (by rw[eK e2];exact e3)]
 show aY _ _ [.sh (.int (c:Nat)),.sh (ag l),.sh (.tup [ar w c,.int mk]),t3,.un,.un]=_
 have e4:cO (aa iN (dC (.int 1)) (dV 0)) [.sh (.int (c:Nat)),.sh (ag l),.sh (.tup [ar w c,.int mk]),t3,.un,.un]=some (pl (List.range (2^c))):=by
  have lT:2^c<=64:=Nat.le_trans (Nat.pow_le_pow_right (by decide) c6) (by decide)
  exact kJ (by rw[au (x:=.int 1) (y:=.int (c:Nat)) rfl rfl];exact jM c c6) (by omega)
 obtain⟨t4,t5,e5⟩:=tq (c:=c) (l:=l) (w:=w) (mk:=mk) hw (.sh (.int (c:Nat))) t3 (List.range (2^c)) .un .un λg hg=>by
  have RU:=List.mem_range.mp hg
  have lT:2^c<=64:=Nat.le_trans (Nat.pow_le_pow_right (by decide) c6) (by decide)
  exact⟨by omega,H g RU⟩
 rw[aE (by rw[eK e4];exact e5)]
 rfl
end
theorem xt(g s:Nat):(bit g s=1)↔g.testBit s=true:=by
 unfold bit
 rw[Nat.and_one_is_mod,Nat.testBit_eq_decide_div_mod_eq,decide_eq_true_eq]
noncomputable def ind(g s:Nat):Int:=if bit g s=1 then 1 else 0
theorem AR{g s:Nat}(h:g.testBit s=true):ind g s=1:=if_pos ((xt g s).mpr h)
theorem AS{g s:Nat}(h:g.testBit s=false):ind g s=0:=if_neg λz=>by
 rw[(xt g s).mp z]at h
 cases h
theorem sum_filter(g:Nat)(w:Nat->Int):∀n:Nat,(((List.range n).filter λs=>g.testBit s).map w).sum=sm n λs=>ind g s*w s
 |0=>rfl
 |n+1=>by
  rw[List.range_succ,List.filter_append,List.map_append,List.sum_append,sum_filter g w n]
  show _+_=sm n _+ind g n*w n
  congr 1
  cases h:g.testBit n with
  |true=>
   rw[AR h,List.filter_cons_of_pos h]
   simp
  |false=>
   rw[AS h,List.filter_cons_of_neg (by rw[h];simp)]
   simp
theorem AU{g c s:Nat}(hg:g<2^c)(h:g.testBit s=true):s<c:=by
 rcases Nat.lt_or_ge s c with q|q
 ·exact q
 ·rw[Nat.testBit_lt_two_pow (Nat.lt_of_lt_of_le hg (Nat.pow_le_pow_right (by decide) q))]at h
  cases h
theorem FY{g c s:Nat}(hg:g<2^c)(h:s∈Mt.bW g):s<c:=by
 unfold Mt.bW at h
 exact AU hg (List.mem_filter.mp h).2
theorem CG{g c:Nat}(c6:c<=6)(hg:g<2^c)(w:Nat->Int):((Mt.bW g).map w).sum=sm c λs=>ind g s*w s:=by
 unfold Mt.bW
 rw[sum_filter]
 have e:=uZ (λs=>ind g s*w s) c (6-c)
 rw[show c+(6-c)=6 by omega]at e
 have z:sm (6-c) (λi=>ind g (c+i)*w (c+i))=0:=iV λi _=>by
  have:g.testBit (c+i)=false:=by
   cases h:g.testBit (c+i)with
   |false=>rfl
   |true=>have:=AU hg h;omega
  rw[AS this,Int.zero_mul]
 rw[e,z,Int.add_zero]
theorem FZ{a b s:Nat}(h:Mt.sub a b=true)(q:a.testBit s=true):b.testBit s=true:=by
 unfold Mt.sub at h
 have e:a&&&b=a:=eq_of_beq h
 rw[<-e,Nat.testBit_and,Bool.and_eq_true]at q
 exact q.2
theorem F1{a b c:Nat}(h:Mt.sub a b=true){w:Nat->Int}(hw:∀s,s<c->0<=w s):sm c (λs=>ind a s*w s)<=sm c λs=>ind b s*w s:=Jn λs hs=>by
 cases q:a.testBit s with
 |true=>rw[AR q,AR (FZ h q)];exact Int.le_refl _
 |false=>
  rw[AS q,Int.zero_mul]
  cases q2:b.testBit s with
  |true=>rw[AR q2,Int.one_mul];exact hw s hs
  |false=>rw[AS q2,Int.zero_mul];exact Int.le_refl _
theorem mem_getD{l:List Nat}{x:Nat}(h:x∈l):∃j,j<l.length/\l.getD j 0=x:=by
 obtain⟨j,hj,e⟩:=List.getElem_of_mem h
 exact⟨j,hj,by rw[List.getD_eq_getElem?_getD,List.getElem?_eq_getElem hj];exact e⟩
theorem xu{c:Nat}(c6:c<=6){l r:List Nat}(hl:jN c l)(hr:jN c r)(h:∀g,g<2^c->Mt.lets r g=meets l g):(∀x∈r.map (λg=>2^c-1-g),x<2^c/\Mt.lets l x=false)/\∀g,g<2^c->Mt.lets l g=false->∃x∈r.map (λg=>2^c-1-g),Mt.sub g x=true:=by
 have hp:0<2^c:=Nat.pow_pos (by decide)
 have lT:2^c<=64:=Nat.le_trans (Nat.pow_le_pow_right (by decide) c6) (by decide)
 constructor
 ·intro x hx
  obtain⟨y,hy,rfl⟩:=List.mem_map.mp hx
  have y2:=hr.lt y hy
  refine⟨by omega,?_⟩
  have e1:Mt.lets r y=true:=Mt.fJ.mpr ⟨y,hy,by unfold Mt.sub;rw[Nat.and_self];simp⟩
  rw[h y y2]at e1
  have e2:=qD c6 hl (g:=2^c-1-y) (by omega)
  rw[show 2^c-1-(2^c-1-y)=y by omega,e1]at e2
  cases q:Mt.lets l (2^c-1-y)with
  |false=>rfl
  |true=>rw[q]at e2;cases e2
 ·intro g hg hn
  have e2:=qD c6 hl hg
  rw[hn]at e2
  have e3:Mt.lets r (2^c-1-g)=true:=by rw[h _ (by omega),e2];rfl
  obtain⟨y,hy,hs⟩:=Mt.fJ.mp e3
  have y2:=hr.lt y hy
  refine⟨2^c-1-y,List.mem_map.mpr ⟨y,hy,rfl⟩,?_⟩
  have c1:=qC c6 (r:=g) (g:=2^c-1-y) hg (by omega)
  have c2:=qC c6 (r:=y) (g:=2^c-1-g) y2 (by omega)
  rw[show 2^c-1-(2^c-1-y)=y by omega]at c1
  rw[show 2^c-1-(2^c-1-g)=g by omega,hs]at c2
  rw[<-c1,Nat.and_comm]
  exact c2
theorem xv{c:Nat}(c6:c<=6){l r:List Nat}{sol:Nat->Nat}(hl:jN c l)(hr:jN c r)(h:∀g,g<2^c->Mt.lets r g=meets l g){o:List Nat}(ho:r.map (λg=>2^c-1-g)=o)(X:Tab (cG c l o) (c+2) sol)(hs:∀k,k<c+2->sol k<JL c l o)(F:nC (cG c l o) (c+2) (JL c l o) sol)
  (fin:∀j,j<JL c l o->0<=T (cG c l o) (c+2) sol (c+2) j)(hb:∀(sol:Nat->Nat) i j,(T (cG c l o) (c+2) sol i j).natAbs<=362880)(z:¬0<T (cG c l o) (c+2) sol (c+2) (JL c l o)):
  dr [.int (c:Nat),ag l,.tup [ar (λs=>T (cG c l o) (c+2) sol (c+2) (l.length+o.length+s)) c,.int (T (cG c l o) (c+2) sol (c+2) (l.length+o.length+c))]]=some (.bl true):=by
 obtain⟨w1,w2⟩:=HQ X hs F fin z
 obtain⟨o1,o2⟩:=xu c6 hl hr h
 rw[ho]at o1 o2
 have nn:∀s,s<c+2->0<=T (cG c l o) (c+2) sol (c+2) (l.length+o.length+s):=λs q=>fin _ (by show _<l.length+o.length+(c+2);omega)
 refine FX c6 (λs q=>⟨nn s (by omega),by have:=hb sol (c+2) (l.length+o.length+s);omega⟩) ⟨nn c (by omega),by have:=hb sol (c+2) (l.length+o.length+c);omega⟩ λg hg=>⟨λs q=>FY hg q,?_⟩
 rw[CG c6 hg]
 cases q:Mt.lets l g with
 |true=>
  obtain⟨x,hx,QU⟩:=Mt.fJ.mp q
  obtain⟨j,hj,ej⟩:=mem_getD hx
  have a1:=w1 j hj
  have a2:=F1 (c:=c) (a:=x) (b:=g) QU (w:=λs=>T (cG c l o) (c+2) sol (c+2) (l.length+o.length+s)) λs q=>nn s (by omega)
  have a3:(sm c λs=>nK l j s*oP c l.length o.length (nK l) (nK o) sol s)=sm c λs=>ind x s*T (cG c l o) (c+2) sol (c+2) (l.length+o.length+s):=a8 λs _=>by
   unfold nK ind
   rw[ej]
   rfl
  rw[a3]at a1
  exact decide_eq_true (Int.le_trans a1 a2)
 |false=>
  obtain⟨x,hx,QU⟩:=o2 g hg q
  obtain⟨j,hj,ej⟩:=mem_getD hx
  have a1:=w2 j hj
  have a2:=F1 (c:=c) (a:=g) (b:=x) QU (w:=λs=>T (cG c l o) (c+2) sol (c+2) (l.length+o.length+s)) λs q=>nn s (by omega)
  have a3:(sm c λs=>nK o j s*oP c l.length o.length (nK l) (nK o) sol s)=sm c λs=>ind x s*T (cG c l o) (c+2) sol (c+2) (l.length+o.length+s):=a8 λs _=>by
   unfold nK ind
   rw[ej]
   rfl
  rw[a3]at a1
  refine decide_eq_false λk=>?_
  have a4:=Int.lt_of_le_of_lt a2 a1
  exact absurd (Int.lt_of_lt_of_le a4 k) (Int.lt_irrefl _)
noncomputable def bK(L:List Nat)(gf:Nat->Nat)(tf:Nat->Int):PV:=.lst (L.map λj=>PV.tup [.int (gf j:Nat),.int (tf j)])
theorem AV:∀(ns acc:List Int),(acc++ns).Nodup->ns.foldl (λacc k=>if acc.any (·==k)then acc else acc++[k]) acc=acc++ns
 |[],acc,_=>by simp
 |n::ns,acc,h=>by
  have hn:acc.any (·==n)=false:=by
   rw[List.any_eq_false]
   intro x hx
   have:=(List.nodup_append.mp h).2.2 x hx n (List.mem_cons_self ..)
   simpa using this
  rw[List.foldl_cons,hn]
  show ns.foldl _ (acc++[n])=_
  rw[AV ns (acc++[n]) (by rw[List.append_assoc];exact h),List.append_assoc]
  rfl
theorem zh{ns:List Int}(h:ns.Nodup):oJ ns=ns:=by
 unfold oJ
 rw[AV ns [] (by simpa using h)]
 rfl
section
variable{c:Nat}{l L:List Nat}{gf:Nat->Nat}{tf:Nat->Int}{b:Bool}
theorem CH{g:Nat}{t:Int}(c6:c<=6)(hg:g<2^c)(t0:1<=t)(t1:t<1000000)(hl:Mt.lets l g=b)(s2:Slot):ic aX aL [.sh (.int (c:Nat)),.sh (ag l),s2,.sh (.bl b),.sh (.tup [.int (g:Nat),.int t])]=some (.nx [.sh (.int (c:Nat)),.sh (ag l),s2,.sh (.bl b),.sh (.tup [.int (g:Nat),.int t])]):=by
 unfold ic
 have e1:jy (eV (tV (aZ (rB 4) (dV 4)))) (jy (tV (aa dE (aZ bM (dV 4)) (dC (.int 2)))) (jy (eV (tV (aG aL (ah (aa cn (dV 4) (dC (.int 0))) aA)))) (eV (tV (aG aL (ah (aa cn (dV 4) (dC (.int 1))) aA)))))) [.sh (.int (c:Nat)),.sh (ag l),s2,.sh (.bl b),.sh (.tup [.int (g:Nat),.int t])]=some false:=by
  rw[gh rfl,gh rfl,gh rfl]
  rfl
 rw[aE (by rw[eB e1];rfl)]
 have e2:jy (tV (aa ma (aa cn (dV 4) (dC (.int 0))) (dC (.int 0)))) (jy (tV (aa GY (aa cn (dV 4) (dC (.int 0))) (aa iN (dC (.int 1)) (dV 0)))) (jy (tV (aa ma (aa cn (dV 4) (dC (.int 1))) (dC (.int 1)))) (tV (aa GY (aa cn (dV 4) (dC (.int 1))) (aa Bn (dC (.int 10)) (dC (.int 60))))))) [.sh (.int (c:Nat)),.sh (ag l),s2,.sh (.bl b),.sh (.tup [.int (g:Nat),.int t])]=some false:=by
  rw[gh (cj (by
   show some (PV.bl (decide (((g:Nat):Int)<0)))=_
   rw[decide_eq_false (by omega)])),gh (cj (by
   rw[au (x:=.int (g:Nat)) rfl (by rw[au (x:=.int 1) (y:=.int (c:Nat)) rfl rfl];exact jM c c6)]
   show some (PV.bl (decide (((2^c:Nat):Int)<=((g:Nat):Int))))=_
   rw[decide_eq_false (by omega)])),gh (cj (by
   show some (PV.bl (decide (t<1)))=_
   rw[decide_eq_false (by omega)]))]
  refine cj ?_
  rw[au (x:=.int t) rfl Jx]
  show some (PV.bl (decide ((10:Int)^60<=t)))=_
  rw[decide_eq_false (by omega)]
 rw[aE (by rw[eB e2];rfl)]
 have e3:tV (aa dE (aG aX (ah (aO 1) (ah (aa cn (dV 4) (dC (.int 0))) aA))) (dV 3)) [.sh (.int (c:Nat)),.sh (ag l),s2,.sh (.bl b),.sh (.tup [.int (g:Nat),.int t])]=some false:=cj (by
  rw[au (x:=.bl b) (y:=.bl b) (by rw[bj (ps:=[ag l,.int (g:Nat)]) rfl,<-hl];exact FV l g) rfl,Ey]
  simp)
 rw[eB e3]
 rfl
theorem AW(c6:c<=6)(hL:L.length<=100)(hj:∀j∈L,gf j<2^c/\1<=tf j/\tf j<1000000/\Mt.lets l (gf j)=b)(nd:(L.map gf).Nodup):bV [.int (c:Nat),ag l,bK L gf tf,.bl b]=some (.bl true):=by
 unfold bV
 refine fB rfl ?_
 show mr aX aL [.sh (.int (c:Nat)),.sh (ag l),.sh (bK L gf tf),.sh (.bl b),.un]=_
 unfold mr
 rw[aE (by rw[eB (show eV (tV (aZ (rB 3) (dV 2))) [.sh (.int (c:Nat)),.sh (ag l),.sh (bK L gf tf),.sh (.bl b),.un]=some false from rfl)];rfl)]
 obtain⟨t4,e3⟩:=ox (i:=4) (body:=ic aX aL) (L.map λj=>PV.tup [.int (gf j:Nat),.int (tf j)]) [.sh (.int (c:Nat)),.sh (ag l),.sh (bK L gf tf),.sh (.bl b),.un] λx hx=>by
  obtain⟨j,jX,rfl⟩:=List.mem_map.mp hx
  obtain⟨h1,h2,h3,h4⟩:=hj j jX
  exact CH c6 h1 h2 h3 h4 _
 rw[aE (by rw[eK (cQ rfl)];exact e3)]
 show br _ [.sh (.int (c:Nat)),.sh (ag l),.sh (bK L gf tf),.sh (.bl b),t4]=_
 refine eL ?_
 have hz:sizeLine=16777216:=rfl
 have e4:aT (nList (dV 2)) bt (aa cn (dV 0) (dC (.int 0))) [.sh (.int (c:Nat)),.sh (ag l),.sh (bK L gf tf),.sh (.bl b),t4]=some (.lst (L.map λj=>PV.int (gf j:Nat))):=by
  refine gK (cQ rfl) (by rw[List.length_map];omega) ?_
  have:∀(ρ:cg) (q:List Nat),eW bt (aa cn (dV 0) (dC (.int 0))) ρ (q.map λj=>PV.tup [.int (gf j:Nat),.int (tf j)])=some (q.map λj=>PV.int (gf j:Nat)):=by
   intro ρ q
   induction q with
   |nil=>rfl
   |cons j q ih=>
    rw[List.map_cons,List.map_cons]
    show(eW bt (aa cn (dV 0) (dC (.int 0))) ρ (q.map λj=>PV.tup [.int (gf j:Nat),.int (tf j)])).map (PV.int (gf j:Nat)::·)=_
    rw[ih]
    rfl
  exact this _ _
 have QV:(L.map λj=>((gf j:Nat):Int)).Nodup:=by
  have TQ:L.Pairwise λa b=>gf a≠gf b:=List.pairwise_map.mp nd
  exact List.pairwise_map.mpr (TQ.imp λ{a b} q z=>q (by omega))
 have e5:aZ um (aT (nList (dV 2)) bt (aa cn (dV 0) (dC (.int 0)))) [.sh (.int (c:Nat)),.sh (ag l),.sh (bK L gf tf),.sh (.bl b),t4]=some (.int (L.length:Nat)):=by
  rw[d6 e4]
  show(eA (L.map λj=>PV.int (gf j:Nat))).bind _=_
  rw[fz (F:=λj=>((gf j:Nat):Int))]
  show(if(L.map λj=>((gf j:Nat):Int)).length<4000 then some (PV.int ((oJ (L.map λj=>((gf j:Nat):Int))).length:Nat))else none)=_
  rw[if_pos (by rw[List.length_map];omega),zh QV,List.length_map]
 have e6:aZ bM (dV 2) [.sh (.int (c:Nat)),.sh (ag l),.sh (bK L gf tf),.sh (.bl b),t4]=some (.int (L.length:Nat)):=by
  show some (PV.int ((L.map λj=>PV.tup [.int (gf j:Nat),.int (tf j)]).length:Nat))=_
  rw[List.length_map]
 rw[au e5 e6,pB]
 simp
end
theorem mJ{ρ:cg}{cc:cN}{e:Den}{R:Nat->PV}{p:Nat->Bool}{f:Nat->PV}:∀q:List Nat,(∀j∈q,cc (.sh (R j)::ρ)=some (p j))->(∀j∈q,e (.sh (R j)::ρ)=some (f j))->eW cc e ρ (q.map R)=some ((q.filter p).map f)
 |[],_,_=>rfl
 |j::q,h1,h2=>by
  have ih:=mJ (ρ:=ρ) (cc:=cc) (e:=e) (R:=R) (p:=p) (f:=f) q (λx hx=>h1 x (List.mem_cons_of_mem _ hx)) (λx hx=>h2 x (List.mem_cons_of_mem _ hx))
  rw[List.map_cons]
  show(cc (.sh (R j)::ρ)).bind (λb=>if b then(e (.sh (R j)::ρ)).bind λz=>(eW cc e ρ (q.map R)).map (z::·)else eW cc e ρ (q.map R))=_
  rw[h1 j (List.mem_cons_self ..),h2 j (List.mem_cons_self ..),ih]
  cases h:p j with
  |true=>rw[List.filter_cons_of_pos h];rfl
  |false=>rw[List.filter_cons_of_neg (by rw[h];simp)];rfl
theorem F2{q:List Nat}{tf:Nat->Int}(hl:q.length<=100)(ht:∀j∈q,0<=tf j/\tf j<1000000):kl (.lst (q.map λj=>PV.int (tf j)))=some (.int (q.map tf).sum):=by
 show(eA (q.map λj=>PV.int (tf j))).bind _=_
 rw[fz (F:=tf)]
 show(if qa (q.map tf)then some (PV.int (q.map tf).sum)else none)=_
 rw[if_pos]
 unfold qa
 rw[Bool.and_eq_true,List.all_eq_true,List.length_map]
 refine⟨λx hx=>?_,decide_eq_true (by omega)⟩
 obtain⟨j,hj,rfl⟩:=List.mem_map.mp hx
 have:=ht j hj
 rw[decide_eq_true this.1,decide_eq_true this.2]
 rfl
section
variable{c:Nat}{l L L':List Nat}{gf gf':Nat->Nat}{tf tf':Nat->Int}{a:Den}{ρ:cg}
theorem AX(ha:a ρ=some (bK L gf tf))(hl:L.length<=100)(ht:∀j∈L,0<=tf j/\tf j<1000000):aZ kl (aT (nList a) bt (aa cn (dV 0) (dC (.int 1)))) ρ=some (.int (L.map tf).sum):=by
 have hz:sizeLine=16777216:=rfl
 have e:=mJ (ρ:=ρ) (cc:=bt) (e:=aa cn (dV 0) (dC (.int 1))) (R:=λj=>PV.tup [.int (gf j:Nat),.int (tf j)]) (p:=λ_=>true) (f:=λj=>.int (tf j)) L (λ_ _=>rfl) (λ_ _=>rfl)
 rw[List.filter_eq_self.mpr λ_ _=>rfl]at e
 rw[d6 (gK (cQ ha) (by rw[List.length_map];omega) e)]
 exact F2 hl ht
theorem AY(s:Nat){b:Den}(ha:a ρ=some (bK L gf tf))(hb:∀x,b (x::ρ)=some (.int (s:Nat)))(hl:L.length<=100)(ht:∀j∈L,0<=tf j/\tf j<1000000):
  aZ kl (aT (nList a) (tV (aa iu (aa gP (aa p7 (aa cn (dV 0) (dC (.int 0))) b) (dC (.int 1))) (dC (.int 1)))) (aa cn (dV 0) (dC (.int 1)))) ρ=some (.int ((L.filter λj=>decide (bit (gf j) s=1)).map tf).sum):=by
 have hz:sizeLine=16777216:=rfl
 have e:=mJ (ρ:=ρ) (cc:=tV (aa iu (aa gP (aa p7 (aa cn (dV 0) (dC (.int 0))) b) (dC (.int 1))) (dC (.int 1)))) (e:=aa cn (dV 0) (dC (.int 1))) (R:=λj=>PV.tup [.int (gf j:Nat),.int (tf j)]) (p:=λj=>decide (bit (gf j) s=1)) (f:=λj=>.int (tf j)) L (λj _=>cj (Av (g:=gf j) (h:=s) rfl (hb _) 1)) (λ_ _=>rfl)
 rw[d6 (gK (cQ ha) (by rw[List.length_map];omega) e)]
 exact F2 (Nat.le_trans (List.length_filter_le _ _) hl) λj hj=>ht j (List.mem_filter.mp hj).1
theorem zi{s:Nat}{s0 s1 s2 s5 s7:Slot}(hl:L.length<=100)(A1:L'.length<=100)(ht:∀j∈L,0<=tf j/\tf j<1000000)(LR:∀j∈L',0<=tf' j/\tf' j<1000000)(h:((L.filter λj=>decide (bit (gf j) s=1)).map tf).sum<=((L'.filter λj=>decide (bit (gf' j) s=1)).map tf').sum):
  eX bV [s0,s1,s2,.sh (bK L gf tf),.sh (bK L' gf' tf'),s5,.sh (.int (s:Nat)),s7]=some (.nx [s0,s1,s2,.sh (bK L gf tf),.sh (bK L' gf' tf'),s5,.sh (.int (s:Nat)),.sh (.int ((L.filter λj=>decide (bit (gf j) s=1)).map tf).sum)]):=by
 unfold eX
 rw[aE (bH (AY (gf:=gf) s rfl (λ_=>rfl) hl ht))]
 show iL _ _ _ [s0,s1,s2,.sh (bK L gf tf),.sh (bK L' gf' tf'),s5,.sh (.int (s:Nat)),.sh (.int ((L.filter λj=>decide (bit (gf j) s=1)).map tf).sum)]=_
 rw[eB (cj (by
  rw[au (x:=.int ((L.filter λj=>decide (bit (gf j) s=1)).map tf).sum) rfl (AY (gf:=gf') s rfl (λ_=>rfl) A1 LR)]
  show some (PV.bl (decide (((L'.filter λj=>decide (bit (gf' j) s=1)).map tf').sum<((L.filter λj=>decide (bit (gf j) s=1)).map tf).sum)))=_
  rw[decide_eq_false (by omega)]))]
 rfl
theorem tu{s0 s1 s2 s5:Slot}(hl:L.length<=100)(A1:L'.length<=100)(ht:∀j∈L,0<=tf j/\tf j<1000000)(LR:∀j∈L',0<=tf' j/\tf' j<1000000):∀(ss:List Nat) (s6 s7:Slot),(∀s∈ss,((L.filter λj=>decide (bit (gf j) s=1)).map tf).sum<=((L'.filter λj=>decide (bit (gf' j) s=1)).map tf').sum)->
  ∃t6 t7,forL (bh 6) (eX bV) (pl ss) [s0,s1,s2,.sh (bK L gf tf),.sh (bK L' gf' tf'),s5,s6,s7]=some (.nx [s0,s1,s2,.sh (bK L gf tf),.sh (bK L' gf' tf'),s5,t6,t7])
 |[],s6,s7,_=>⟨s6,s7,rfl⟩
 |s::ss,s6,s7,h=>by
  obtain⟨t6,t7,e⟩:=tu (s0:=s0) (s1:=s1) (s2:=s2) (s5:=s5) hl A1 ht LR ss (.sh (.int (s:Nat))) (.sh (.int ((L.filter λj=>decide (bit (gf j) s=1)).map tf).sum)) λx hx=>h x (List.mem_cons_of_mem _ hx)
  refine⟨t6,t7,?_⟩
  rw[<-e]
  show(eX bV [s0,s1,s2,.sh (bK L gf tf),.sh (bK L' gf' tf'),s5,.sh (.int (s:Nat)),s7]).bind _=_
  rw[zi hl A1 ht LR (h s (List.mem_cons_self ..))]
  rfl
theorem F3(c6:c<=6)(hl:L.length<=100)(A1:L'.length<=100)(hj:∀j∈L,gf j<2^c/\1<=tf j/\tf j<1000000/\Mt.lets l (gf j)=true)(nd:(L.map gf).Nodup)(jX:∀j∈L',gf' j<2^c/\1<=tf' j/\tf' j<1000000/\Mt.lets l (gf' j)=false)(QV:(L'.map gf').Nodup)
  (h0:0<(L.map tf).sum)(he:(L.map tf).sum=(L'.map tf').sum)(hh:∀s,s<c->((L.filter λj=>decide (bit (gf j) s=1)).map tf).sum<=((L'.filter λj=>decide (bit (gf' j) s=1)).map tf').sum):
  dq [.int (c:Nat),ag l,.tup [bK L gf tf,bK L' gf' tf']]=some (.bl true):=by
 have ht:∀j∈L,0<=tf j/\tf j<1000000:=λj q=>⟨by have:=(hj j q).2.1;omega,(hj j q).2.2.1⟩
 have LR:∀j∈L',0<=tf' j/\tf' j<1000000:=λj q=>⟨by have:=(jX j q).2.1;omega,(jX j q).2.2.1⟩
 unfold dq
 refine fB rfl ?_
 show kN bV [.sh (.int (c:Nat)),.sh (ag l),.sh (.tup [bK L gf tf,bK L' gf' tf']),.un,.un,.un,.un,.un]=_
 unfold kN
 rw[aE (by rw[eB (show jy (eV (tV (aZ (rB 4) (dV 2)))) (tV (aa dE (aZ bM (dV 2)) (dC (.int 2)))) [.sh (.int (c:Nat)),.sh (ag l),.sh (.tup [bK L gf tf,bK L' gf' tf']),.un,.un,.un,.un,.un]=some false by rw[gh rfl];rfl)];rfl)]
 rw[aE (ρ':=[.sh (.int (c:Nat)),.sh (ag l),.sh (.tup [bK L gf tf,bK L' gf' tf']),.sh (bK L gf tf),.sh (bK L' gf' tf'),.un,.un,.un]) rfl]
 have e1:jy (eV (tV (aG bV (ah (aO 0) (ah (aO 1) (ah (aO 3) (ah (dC (.bl true)) aA))))))) (eV (tV (aG bV (ah (aO 0) (ah (aO 1) (ah (aO 4) (ah (dC (.bl false)) aA))))))) [.sh (.int (c:Nat)),.sh (ag l),.sh (.tup [bK L gf tf,bK L' gf' tf']),.sh (bK L gf tf),.sh (bK L' gf' tf'),.un,.un,.un]=some false:=by
  rw[gh (by rw[pA (cj (by rw[bj (ps:=[.int (c:Nat),ag l,bK L gf tf,.bl true]) rfl];exact AW c6 hl hj nd))];rfl)]
  rw[pA (cj (by rw[bj (ps:=[.int (c:Nat),ag l,bK L' gf' tf',.bl false]) rfl];exact AW c6 A1 jX QV))]
  rfl
 rw[aE (by rw[eB e1];rfl)]
 rw[aE (bH (AX (a:=dV 3) rfl hl ht))]
 show aY _ _ [.sh (.int (c:Nat)),.sh (ag l),.sh (.tup [bK L gf tf,bK L' gf' tf']),.sh (bK L gf tf),.sh (bK L' gf' tf'),.sh (.int (L.map tf).sum),.un,.un]=_
 have e2:jy (tV (aa iu (dV 5) (dC (.int 0)))) (tV (aa dE (dV 5) (aZ kl (aT (nList (dV 4)) bt (aa cn (dV 0) (dC (.int 1))))))) [.sh (.int (c:Nat)),.sh (ag l),.sh (.tup [bK L gf tf,bK L' gf' tf']),.sh (bK L gf tf),.sh (bK L' gf' tf'),.sh (.int (L.map tf).sum),.un,.un]=some false:=by
  rw[gh (cj (by
   show some (PV.bl (decide ((L.map tf).sum=0)))=_
   rw[decide_eq_false (by omega)]))]
  refine cj ?_
  rw[au (x:=.int (L.map tf).sum) rfl (AX (a:=dV 4) rfl A1 LR),uT,decide_eq_true he]
  rfl
 rw[aE (by rw[eB e2];rfl)]
 obtain⟨t6,t7,e3⟩:=tu (s0:=.sh (.int (c:Nat))) (s1:=.sh (ag l)) (s2:=.sh (.tup [bK L gf tf,bK L' gf' tf'])) (s5:=.sh (.int (L.map tf).sum)) (gf:=gf) (gf':=gf') hl A1 ht LR (List.range c) .un .un λs hs=>hh s (List.mem_range.mp hs)
 rw[aE (by rw[eK (kJ (n:=c) rfl (by omega))];exact e3)]
 rfl
end
theorem ix{t:Nat->Int}{p:Nat->Bool}(ht:∀j,0<=t j):∀n:Nat,((((List.range n).filter λj=>decide (0<t j)).filter p).map t).sum=sm n λj=>t j*(if p j then 1 else 0)
 |0=>rfl
 |n+1=>by
  rw[List.range_succ,List.filter_append,List.filter_append,List.map_append,List.sum_append,ix ht n]
  show _+_=sm n _+t n*(if p n then 1 else 0)
  congr 1
  by_cases h:0<t n
  ·rw[List.filter_cons_of_pos (by rw[decide_eq_true h])]
   cases q:p n with
   |true=>simp[q]
   |false=>simp[q]
  ·have:t n=0:=by have:=ht n;omega
   rw[List.filter_cons_of_neg (by rw[decide_eq_false h];simp),this]
   simp
theorem rq(l:List Nat):(List.range l.length).map (λj=>l.getD j 0)=l:=by
 apply List.ext_getElem?
 intro i
 rw[List.getElem?_map]
 by_cases h:i<l.length
 ·rw[List.getElem?_range h,List.getElem?_eq_getElem h]
  show some (l.getD i 0)=_
  rw[List.getD_eq_getElem?_getD,List.getElem?_eq_getElem h]
  rfl
 ·rw[List.getElem?_eq_none (by rw[List.length_range];omega),List.getElem?_eq_none (by omega)]
  rfl
theorem getD_mem{l:List Nat}{j:Nat}(h:j<l.length):l.getD j 0∈l:=by
 rw[List.getD_eq_getElem?_getD,List.getElem?_eq_getElem h]
 exact List.getElem_mem h
section
variable{A:dk}{m J:Nat}{sol:Nat->Nat}
theorem LS(X:Tab A m sol)(hb:∀i j,(T A m sol i j).natAbs<=362880)(j:Nat):j0 A m J sol j<=362880:=by
 by_cases c:∃k,k<m/\sol k=j
 ·obtain⟨k,h1,rfl⟩:=c
  rw[EX X h1]
  have:=hb k J
  omega
 ·rw[qI λk hk z=>c ⟨k,hk,z⟩]
  decide
theorem tw{l:List Nat}(nd:l.Nodup)(st:Nat):((jW A m J sol l st).map λj=>l.getD j 0).Nodup:=by
 have s:((jW A m J sol l st).map λj=>l.getD j 0).Sublist l:=by
  have:=(List.filter_sublist (l:=List.range l.length) (p:=λj=>decide (0<j0 A m J sol (st+j)))).map (λj=>l.getD j 0)
  rw[rq]at this
  exact this
 exact nd.sublist s
end
theorem xw{c:Nat}(c6:c<=6){l r:List Nat}{sol:Nat->Nat}(hl:jN c l)(hr:jN c r)(h:∀g,g<2^c->Mt.lets r g=meets l g){o:List Nat}(ho:r.map (λg=>2^c-1-g)=o)(X:Tab (cG c l o) (c+2) sol)(hs:∀k,k<c+2->sol k<JL c l o)(F:nC (cG c l o) (c+2) (JL c l o) sol)
  (fin:∀j,j<JL c l o->0<=T (cG c l o) (c+2) sol (c+2) j)(hb:∀(sol:Nat->Nat) i j,(T (cG c l o) (c+2) sol i j).natAbs<=362880)(z:0<T (cG c l o) (c+2) sol (c+2) (JL c l o)):
  dq [.int (c:Nat),ag l,.tup [.lst ((jW (cG c l o) (c+2) (JL c l o) sol l 0).map (mI (cG c l o) (c+2) (JL c l o) sol l 0)),.lst ((jW (cG c l o) (c+2) (JL c l o) sol o l.length).map (mI (cG c l o) (c+2) (JL c l o) sol o l.length))]]=some (.bl true):=by
 obtain⟨o1,_⟩:=xu c6 hl hr h
 rw[ho]at o1
 have TR:∀(l:List Nat) j s,0<=nK l j s:=λl j s=>by unfold nK;split<;>decide
 obtain⟨t1,t2,t3⟩:=N2 X hs F fin (λj s _ _=>TR o j s) z
 have nn:∀j,0<=j0 (cG c l o) (c+2) (JL c l o) sol j:=λj=>qH F j
 have le:∀j,j0 (cG c l o) (c+2) (JL c l o) sol j<=362880:=λj=>LS X (hb sol) j
 have hp:0<2^c:=Nat.pow_pos (by decide)
 have TU:o.Nodup:=by
  rw[<-ho]
  refine List.pairwise_map.mpr ?_
  have nr:r.Pairwise λa b=>a≠b:=hr.lad.nodup
  refine(List.pairwise_iff_forall_sublist.mpr λ{a b} OT=>?_)
  have ha:a∈r:=OT.subset (by simp)
  have TV:b∈r:=OT.subset (by simp)
  have vx:=List.pairwise_iff_forall_sublist.mp nr OT
  have h1:=hr.lt a ha
  have h2:=hr.lt b TV
  intro q
  exact vx (by omega)
 have Ut:o.length<=64:=by rw[<-ho,List.length_map];exact hr.len
 have mem:∀{q:List Nat} {st j:Nat},j∈jW (cG c l o) (c+2) (JL c l o) sol q st->j<q.length/\0<j0 (cG c l o) (c+2) (JL c l o) sol (st+j):=λ{q st j} hj=>by
  unfold jW at hj
  obtain⟨g1,g2⟩:=List.mem_filter.mp hj
  exact⟨List.mem_range.mp g1,of_decide_eq_true g2⟩
 have len:∀(q:List Nat) (st:Nat),(jW (cG c l o) (c+2) (JL c l o) sol q st).length<=q.length:=λq st=>by
  unfold jW
  exact Nat.le_trans (List.length_filter_le _ _) (by rw[List.length_range];exact Nat.le_refl _)
 have LU:∀(q:List Nat) (st:Nat),((jW (cG c l o) (c+2) (JL c l o) sol q st).map λj=>j0 (cG c l o) (c+2) (JL c l o) sol (st+j)).sum=sm q.length λj=>j0 (cG c l o) (c+2) (JL c l o) sol (st+j):=λq st=>by
  have:=ix (t:=λj=>j0 (cG c l o) (c+2) (JL c l o) sol (st+j)) (p:=λ_=>true) (λj=>nn _) q.length
  rw[List.filter_eq_self.mpr λ_ _=>rfl]at this
  unfold jW
  rw[this]
  exact a8 λj _=>Int.mul_one _
 have Oc:∀(q:List Nat) (st s:Nat),(((jW (cG c l o) (c+2) (JL c l o) sol q st).filter λj=>decide (bit (q.getD j 0) s=1)).map λj=>j0 (cG c l o) (c+2) (JL c l o) sol (st+j)).sum=sm q.length λj=>j0 (cG c l o) (c+2) (JL c l o) sol (st+j)*nK q j s:=λq st s=>by
  have:=ix (t:=λj=>j0 (cG c l o) (c+2) (JL c l o) sol (st+j)) (p:=λj=>decide (bit (q.getD j 0) s=1)) (λj=>nn _) q.length
  unfold jW
  rw[this]
  refine a8 λj _=>?_
  unfold nK
  by_cases e:bit (q.getD j 0) s=1
  ·rw[decide_eq_true e,if_pos e];rfl
  ·rw[decide_eq_false e,if_neg e];rfl
 have z0:∀f:Nat->Int,(sm l.length λj=>f (0+j))=sm l.length f:=λf=>a8 λj _=>by rw[Nat.zero_add]
 refine F3 (L:=jW (cG c l o) (c+2) (JL c l o) sol l 0) (L':=jW (cG c l o) (c+2) (JL c l o) sol o l.length) (gf:=λj=>l.getD j 0) (gf':=λj=>o.getD j 0) (tf:=λj=>j0 (cG c l o) (c+2) (JL c l o) sol (0+j)) (tf':=λj=>j0 (cG c l o) (c+2) (JL c l o) sol (l.length+j)) c6 (Nat.le_trans (len _ _) (by have:=hl.len;omega)) (Nat.le_trans (len _ _) (by omega))
  (λj hj=>?_) (tw hl.lad.nodup 0) (λj hj=>?_) (tw TU l.length) ?_ ?_ (λs NB=>?_)
 ·obtain⟨g1,g2⟩:=mem hj
  have gm:=getD_mem g1
  have:=le (0+j)
  exact⟨hl.lt _ gm,by omega,by omega,Mt.fJ.mpr ⟨_,gm,by unfold Mt.sub;rw[Nat.and_self];simp⟩⟩
 ·obtain⟨g1,g2⟩:=mem hj
  have gm:=getD_mem g1
  have:=le (l.length+j)
  exact⟨(o1 _ gm).1,by omega,by omega,(o1 _ gm).2⟩
 ·rw[LU,z0 λj=>j0 (cG c l o) (c+2) (JL c l o) sol j]
  exact t1
 ·rw[LU,LU,z0 λj=>j0 (cG c l o) (c+2) (JL c l o) sol j]
  exact t2
 ·rw[Oc,Oc]
  have e1:(sm l.length λj=>j0 (cG c l o) (c+2) (JL c l o) sol (0+j)*nK l j s)=sm l.length λj=>j0 (cG c l o) (c+2) (JL c l o) sol j*nK l j s:=a8 λj _=>by rw[Nat.zero_add]
  rw[e1]
  exact t3 s NB
theorem place_key:hV F_place:=yy
theorem right_of{c:Nat}{l:List Nat}{b:Bool}{p:PV}(h:if b then dr [.int (c:Nat),ag l,p]=some (.bl true)else dq [.int (c:Nat),ag l,p]=some (.bl true)):du [.int (c:Nat),ag l,.tup [.bl b,p]]=some (.bl true):=by
 unfold du
 refine fB rfl ?_
 show kP dq dr [.sh (.int (c:Nat)),.sh (ag l),.sh (.tup [.bl b,p])]=_
 unfold kP
 have e1:jy (eV (tV (aZ (rB 4) (dV 2)))) (jy (tV (aa dE (aZ bM (dV 2)) (dC (.int 2)))) (eV (tV (aZ (rB 1) (aa cn (dV 2) (dC (.int 0))))))) [.sh (.int (c:Nat)),.sh (ag l),.sh (.tup [.bl b,p])]=some false:=by
  rw[gh rfl,gh rfl]
  rfl
 rw[aE (by rw[eB e1];rfl)]
 have e2:tV (aa cn (dV 2) (dC (.int 0))) [.sh (.int (c:Nat)),.sh (ag l),.sh (.tup [.bl b,p])]=some b:=cj rfl
 cases b with
 |true=>
  rw[if_pos rfl]at h
  rw[lF (by rw[lY e2];exact eL ((bj (ps:=[.int (c:Nat),ag l,p]) rfl).trans h))]
 |false=>
  rw[if_neg Bool.false_ne_true]at h
  rw[aE (by rw[eB e2];rfl)]
  exact eL ((bj (ps:=[.int (c:Nat),ag l,p]) rfl).trans h)
theorem xy{c:Nat}(c6:c<=6){l:List Nat}(hl:jN c l):∃(b:Bool) (u:List PV) (q:PV),fT [.int (c:Nat),ag l]=some (.tup [.bl b,.tup [.lst u,q]])/\du [.int (c:Nat),ag l,.tup [.bl b,.tup [.lst u,q]]]=some (.bl true):=by
 obtain⟨r,sol,hr,h,X,F,hs,fin,hb,e⟩:=FU c6 hl.len
 generalize ho:r.map (λg=>2^c-1-g)=o at X F hs fin hb e
 unfold zg at e
 by_cases z:0<T (cG c l o) (c+2) sol (c+2) (JL c l o)
 ·rw[if_pos z]at e
  exact⟨false,_,_,e,right_of (xw c6 hl hr h ho X hs F fin hb z)⟩
 ·rw[if_neg z]at e
  exact⟨true,_,_,e,right_of (xv c6 hl hr h ho X hs F fin hb z)⟩
theorem F4(ns:List Int){c:Nat}(c0:1<=c)(c6:c<=6):∃l,jN c l/\eN [.lst (ns.map PV.int),.int (1:Nat),.int (16:Nat),.int (c:Nat)]=some (ag l):=HJ ns 1 16 c (by decide) c0 c6
theorem LV(ns:List Int)(k:Nat):aw [.lst (ns.map PV.int),.int (k:Nat)]=some (.int (ns.getD k 0)):=An ns k
theorem law_true(ns:List Int)(hn:ns.length<=63):wN [.lst (ns.map .int)]=some (.bl true):=by
 unfold wN
 refine fB rfl ?_
 show EZ aw eN fT du [.sh (.lst (ns.map .int)),.un,.un,.un,.un,.un,.un]=_
 unfold EZ
 rw[aE (bH ((bj (ps:=[.lst (ns.map .int),.int ((0:Nat):Int)]) rfl).trans (LV ns 0)))]
 show aY _ _ [.sh (.lst (ns.map .int)),.sh (.int (ns.getD 0 0)),.un,.un,.un,.un,.un]=_
 obtain⟨c,P5,R1,hc⟩:∃c:Nat,1<=c/\c<=6/\(1:Int)+ns.getD 0 0 % 6=(c:Nat):=⟨(1+ns.getD 0 0 % 6).toNat,by omega,by omega,by omega⟩
 have e1:aa bQ (dC (.int 1)) (aa gO (dV 1) (dC (.int 6))) [.sh (.lst (ns.map .int)),.sh (.int (ns.getD 0 0)),.un,.un,.un,.un,.un]=some (.int (c:Nat)):=by
  show some (PV.int (1+ns.getD 0 0 % 6))=_
  rw[hc]
 rw[aE (bH e1)]
 show aY _ _ [.sh (.lst (ns.map .int)),.sh (.int (ns.getD 0 0)),.sh (.int (c:Nat)),.un,.un,.un,.un]=_
 obtain⟨l,hl,e2⟩:=F4 ns P5 R1
 rw[aE (bH ((bj (ps:=[.lst (ns.map .int),.int ((1:Nat):Int),.int ((16:Nat):Int),.int (c:Nat)]) rfl).trans e2))]
 show aY _ _ [.sh (.lst (ns.map .int)),.sh (.int (ns.getD 0 0)),.sh (.int (c:Nat)),.sh (ag l),.un,.un,.un]=_
 rw[aE (bH (show aZ DF (dV 3) [.sh (.lst (ns.map .int)),.sh (.int (ns.getD 0 0)),.sh (.int (c:Nat)),.sh (ag l),.un,.un,.un]=some (ag l)from rfl))]
 show qc 5 _ _ _ _ [.sh (.lst (ns.map .int)),.sh (.int (ns.getD 0 0)),.sh (.int (c:Nat)),.sh (ag l),.sh (ag l),.un,.un]=_
 obtain⟨b,u,q,w1,w2⟩:=xy R1 hl
 have TX:∀{t:cN} {rest:aP},t [.sh (.lst (ns.map .int)),.sh (.int (ns.getD 0 0)),.sh (.int (c:Nat)),.sh (ag l),.sh (ag l),.sh (.tup [.bl b,.tup [.lst u,q]]),.un]=some false->qc 5 fT (ah (aO 2) (ah (aO 4) aA)) t rest [.sh (.lst (ns.map .int)),.sh (.int (ns.getD 0 0)),.sh (.int (c:Nat)),.sh (ag l),.sh (ag l),.un,.un]=rest [.sh (.lst (ns.map .int)),.sh (.int (ns.getD 0 0)),.sh (.int (c:Nat)),.sh (ag l),.sh (ag l),.sh (.tup [.bl b,.tup [.lst [],q]]),.un]:=λ{t rest} ht=>by
  unfold qc
  show(fT [.int (c:Nat),ag l]).bind _=_
  rw[w1]
  show(t [.sh (.lst (ns.map .int)),.sh (.int (ns.getD 0 0)),.sh (.int (c:Nat)),.sh (ag l),.sh (ag l),.sh (.tup [.bl b,.tup [.lst u,q]]),.un]).bind _=_
  rw[ht]
  rfl
 rw[TX (by
  rw[gh (by rw[pA (cj ((bj (ps:=[.int (c:Nat),ag l,.tup [.bl b,.tup [.lst u,q]]]) rfl).trans w2))];rfl)]
  refine cj ?_
  rw[au (x:=ag l) (y:=ag l) rfl rfl,Lv]
  simp)]
 rw[aE (bH ((bj (ps:=[.int (c:Nat),ag l]) rfl).trans w1))]
 show br _ [.sh (.lst (ns.map .int)),.sh (.int (ns.getD 0 0)),.sh (.int (c:Nat)),.sh (ag l),.sh (ag l),.sh (.tup [.bl b,.tup [.lst [],q]]),.sh (.tup [.bl b,.tup [.lst u,q]])]=_
 refine eL ?_
 rw[Fq ((bj (ps:=[.int (c:Nat),ag l,.tup [.bl b,.tup [.lst u,q]]]) rfl).trans w2),au (x:=.bl b) (y:=.bl b) rfl rfl,Ls]
 simp
end L2.D.My
namespace L2.D.My
open PySem
noncomputable abbrev OV:=PySem.Challenge.pw_signright_k51_weights_or_a_trade
noncomputable abbrev aW:Value:=.none
noncomputable abbrev bp(s:Str)(t:Tok):Value:=.str s t
noncomputable abbrev aR(a:Addr):Value:=.ref a
noncomputable abbrev g9(P:Params)(s:Str)(t:Tok)(v:Value):DictEntry:=⟨PyData.keyHash P s,.str s t,v⟩
noncomputable abbrev lK(l:List Value):Obj:=⟨.type "code",none,.fields l.toArray,#[]⟩
noncomputable abbrev lL(n q:Str)(st:Stmt)(dV kV doc pm:Value)(an:Option Addr)(cd ct:Value):Obj:=⟨.type "function",none,.func (PySem.W.fnOf n q (gD st) (cz st) (aj st) dV kV doc pm an cd ct),#[]⟩
noncomputable def QW(l:List Stmt):List Nat->List Stmt
 |[]=>[]
 |i::r=>match l[i]? with
  |some s=>s::QW l r
  |none=>QW l r
noncomputable def Od:Program:={OV with main:={OV.main with body:=QW OV.main.body [1,2,3,4,5,7,8,9,10,12,13,14,15,16,17,19,20,21,22,23,24,25,26,27,28,29,30]}}
noncomputable def Jy(P:Params):PySem.W.Frag:=
 (nat_lit 3,⟨(.type "dict"),none,.dict (List.toArray [g9 P "__name__" 165 (bp "law_signright_k51_weights_or_a_trade" 385),g9 P "__doc__" 166 aW,g9 P "__package__" 167 aW,g9 P "__loader__" 168 (.builtin "__main__.__loader__#opaque"),g9 P "__spec__" 169 aW,g9 P "__annotations__" 170 (aR 6),g9 P "__builtins__" 171 (aR 4),g9 P "__file__" 173 (bp "/claim/cut.py" 172),g9 P "__cached__" 174 aW,g9 P "has_hand" 196 (aR 21),g9 P "hands_of" 202 (aR 26),g9 P "place" 210 (aR 33),g9 P "within" 218 (aR 40),g9 P "groups_of" 225 (aR 47),g9 P "lets" 233 (aR 52),g9 P "least" 242 (aR 59),g9 P "meets_each" 248 (aR 64),g9 P "stopping" 254 (aR 69),g9 P "Table" 349 (aR 131),g9 P "greatest_refused" 355 (aR 140),g9 P "standings" 361 (aR 145),g9 P "table_of" 367 (aR 150),g9 P "times_of" 373 (aR 155),g9 P "weigh" 384 (aR 162),g9 P "_law_cell_at" 394 (aR 169),g9 P "_law_hands" 400 (aR 174),g9 P "_law_before" 412 (aR 181),g9 P "_law_lets" 421 (aR 188),g9 P "_law_least" 427 (aR 193),g9 P "_law_ladder" 433 (aR 198),g9 P "_law_whole" 440 (aR 205),g9 P "_law_paper" 446 (aR 210),g9 P "_law_side" 452 (aR 215),g9 P "_law_trade" 458 (aR 220),g9 P "_law_right" 467 (aR 227),g9 P "law" 480 (aR 234)]) 36,#[]⟩)::
 (nat_lit 20,lK [(bp "has_hand" 189),(bp "has_hand" 190),(bp "/claim/cut.py" 191),(.int 2 0),(.int 2 0),(.int 0 0),(.int 0 0),(.int 3 0),(aR 15),(.bool true),(.int 181 0),(aR 16),aW,(aR 17),(aR 18),(aR 19),(.int 194 0),(.int 2 0),(bp "/claim/cut.py" 195)])::
 (nat_lit 21,lL "has_hand" "has_hand" (top 1) aW aW aW (bp "signright.hands" 187) none (aR 20) aW)::
 (nat_lit 25,lK [(bp "hands_of" 197),(bp "hands_of" 198),(bp "/claim/cut.py" 199),(.int 4 0),(.int 1 0),(.int 0 0),(.int 0 0),(.int 3 0),(aR 22),(.bool true),(.int 181 0),(aR 23),aW,aW,aW,(aR 24),(.int 200 0),(.int 4 0),(bp "/claim/cut.py" 201)])::
 (nat_lit 26,lL "hands_of" "hands_of" (top 2) aW aW aW (bp "signright.hands" 187) none (aR 25) aW)::
 (nat_lit 32,lK [(bp "place" 203),(bp "place" 204),(bp "/claim/cut.py" 205),(.int 6 0),(.int 1 0),(.int 0 0),(.int 0 0),(.int 3 0),(aR 27),(.bool true),(.int 181 0),(aR 28),aW,(aR 29),(aR 30),(aR 31),(.int 208 0),(.int 6 0),(bp "/claim/cut.py" 209)])::
 (nat_lit 33,lL "place" "place" (top 3) aW aW aW (bp "signright.hands" 187) none (aR 32) aW)::
 (nat_lit 39,lK [(bp "within" 211),(bp "within" 212),(bp "/claim/cut.py" 213),(.int 9 0),(.int 2 0),(.int 0 0),(.int 0 0),(.int 3 0),(aR 34),(.bool true),(.int 181 0),(aR 35),aW,(aR 36),(aR 37),(aR 38),(.int 216 0),(.int 9 0),(bp "/claim/cut.py" 217)])::
 (nat_lit 40,lL "within" "within" (top 4) aW aW aW (bp "signright.hands" 187) none (aR 39) aW)::
 (nat_lit 46,lK [(bp "groups_of" 219),(bp "groups_of" 220),(bp "/claim/cut.py" 221),(.int 11 0),(.int 1 0),(.int 0 0),(.int 0 0),(.int 3 0),(aR 41),(.bool true),(.int 181 0),(aR 42),aW,(aR 43),(aR 44),(aR 45),(.int 223 0),(.int 11 0),(bp "/claim/cut.py" 224)])::
 (nat_lit 47,lL "groups_of" "groups_of" (top 5) aW aW aW (bp "signright.hands" 187) none (aR 46) aW)::
 (nat_lit 51,lK [(bp "lets" 228),(bp "lets" 229),(bp "/claim/cut.py" 230),(.int 14 0),(.int 2 0),(.int 0 0),(.int 0 0),(.int 3 0),(aR 48),(.bool true),(.int 181 0),(aR 49),aW,aW,aW,(aR 50),(.int 231 0),(.int 14 0),(bp "/claim/cut.py" 232)])::
 (nat_lit 52,lL "lets" "lets" (top 7) aW aW aW (bp "signright.ladders" 226) none (aR 51) aW)::
 (nat_lit 58,lK [(bp "least" 234),(bp "least" 235),(bp "/claim/cut.py" 236),(.int 16 0),(.int 1 0),(.int 0 0),(.int 0 0),(.int 3 0),(aR 53),(.bool true),(.int 181 0),(aR 54),aW,(aR 55),(aR 56),(aR 57),(.int 240 0),(.int 16 0),(bp "/claim/cut.py" 241)])::
 (nat_lit 59,lL "least" "least" (top 8) aW aW aW (bp "signright.ladders" 226) none (aR 58) aW)::
 (nat_lit 63,lK [(bp "meets_each" 243),(bp "meets_each" 244),(bp "/claim/cut.py" 245),(.int 22 0),(.int 2 0),(.int 0 0),(.int 0 0),(.int 3 0),(aR 60),(.bool true),(.int 181 0),(aR 61),aW,aW,aW,(aR 62),(.int 246 0),(.int 22 0),(bp "/claim/cut.py" 247)])::
 (nat_lit 64,lL "meets_each" "meets_each" (top 9) aW aW aW (bp "signright.ladders" 226) none (aR 63) aW)::
 (nat_lit 68,lK [(bp "stopping" 249),(bp "stopping" 250),(bp "/claim/cut.py" 251),(.int 24 0),(.int 2 0),(.int 0 0),(.int 0 0),(.int 3 0),(aR 65),(.bool true),(.int 181 0),(aR 66),aW,aW,aW,(aR 67),(.int 252 0),(.int 24 0),(bp "/claim/cut.py" 253)])::
 (nat_lit 69,lL "stopping" "stopping" (top 10) aW aW aW (bp "signright.ladders" 226) none (aR 68) aW)::
 (nat_lit 80,lK [(bp "__init__" 269),(bp "Table.__init__" 270),(bp "/claim/cut.py" 271),(.int 29 0),(.int 4 0),(.int 0 0),(.int 0 0),(.int 3 0),(aR 77),(.bool true),(.int 181 0),(aR 78),aW,aW,aW,(aR 79),(.int 272 0),(.int 29 0),(bp "/claim/cut.py" 273)])::
 (nat_lit 81,lL "__init__" "Table.__init__" (jv 12 0) aW aW aW (bp "signright.weights" 255) none (aR 80) aW)::
 (nat_lit 87,lK [(bp "gainful_column" 275),(bp "Table.gainful_column" 276),(bp "/claim/cut.py" 277),(.int 39 0),(.int 1 0),(.int 0 0),(.int 0 0),(.int 3 0),(aR 82),(.bool true),(.int 181 0),(aR 83),aW,(aR 84),(aR 85),(aR 86),(.int 280 0),(.int 39 0),(bp "/claim/cut.py" 281)])::
 (nat_lit 88,lL "gainful_column" "Table.gainful_column" (jv 12 1) aW aW aW (bp "signright.weights" 255) none (aR 87) aW)::
 (nat_lit 94,lK [(bp "is_tighter" 283),(bp "Table.is_tighter" 284),(bp "/claim/cut.py" 285),(.int 45 0),(.int 4 0),(.int 0 0),(.int 0 0),(.int 3 0),(aR 89),(.bool true),(.int 181 0),(aR 90),aW,(aR 91),(aR 92),(aR 93),(.int 292 0),(.int 45 0),(bp "/claim/cut.py" 293)])::
 (nat_lit 95,lL "is_tighter" "Table.is_tighter" (jv 12 2) aW aW aW (bp "signright.weights" 255) none (aR 94) aW)::
 (nat_lit 101,lK [(bp "tightest_row" 295),(bp "Table.tightest_row" 296),(bp "/claim/cut.py" 297),(.int 50 0),(.int 2 0),(.int 0 0),(.int 0 0),(.int 3 0),(aR 96),(.bool true),(.int 181 0),(aR 97),aW,(aR 98),(aR 99),(aR 100),(.int 302 0),(.int 50 0),(bp "/claim/cut.py" 303)])::
 (nat_lit 102,lL "tightest_row" "Table.tightest_row" (jv 12 3) aW aW aW (bp "signright.weights" 255) none (aR 101) aW)::
 (nat_lit 106,lK [(bp "cleared" 305),(bp "Table.cleared" 306),(bp "/claim/cut.py" 307),(.int 57 0),(.int 4 0),(.int 0 0),(.int 0 0),(.int 3 0),(aR 103),(.bool true),(.int 181 0),(aR 104),aW,aW,aW,(aR 105),(.int 308 0),(.int 57 0),(bp "/claim/cut.py" 309)])::
 (nat_lit 107,lL "cleared" "Table.cleared" (jv 12 4) aW aW aW (bp "signright.weights" 255) none (aR 106) aW)::
 (nat_lit 113,lK [(bp "solve" 311),(bp "Table.solve" 312),(bp "/claim/cut.py" 313),(.int 60 0),(.int 3 0),(.int 0 0),(.int 0 0),(.int 3 0),(aR 108),(.bool true),(.int 181 0),(aR 109),aW,(aR 110),(aR 111),(aR 112),(.int 319 0),(.int 60 0),(bp "/claim/cut.py" 320)])::
 (nat_lit 114,lL "solve" "Table.solve" (jv 12 5) aW aW aW (bp "signright.weights" 255) none (aR 113) aW)::
 (nat_lit 120,lK [(bp "settle" 322),(bp "Table.settle" 323),(bp "/claim/cut.py" 324),(.int 69 0),(.int 1 0),(.int 0 0),(.int 0 0),(.int 3 0),(aR 115),(.bool true),(.int 181 0),(aR 116),aW,(aR 117),(aR 118),(aR 119),(.int 327 0),(.int 69 0),(bp "/claim/cut.py" 328)])::
 (nat_lit 121,lL "settle" "Table.settle" (jv 12 6) aW aW aW (bp "signright.weights" 255) none (aR 120) aW)::
 (nat_lit 127,lK [(bp "taken" 330),(bp "Table.taken" 331),(bp "/claim/cut.py" 332),(.int 75 0),(.int 2 0),(.int 0 0),(.int 0 0),(.int 3 0),(aR 122),(.bool true),(.int 181 0),(aR 123),aW,(aR 124),(aR 125),(aR 126),(.int 335 0),(.int 75 0),(bp "/claim/cut.py" 336)])::
 (nat_lit 128,lL "taken" "Table.taken" (jv 12 7) aW aW aW (bp "signright.weights" 255) none (aR 127) aW)::
 (nat_lit 130,⟨(.type "dict"),none,.dict (List.toArray [g9 P "__module__" 264 (bp "signright.weights" 255),g9 P "__firstlineno__" 268 (.int 27 267),g9 P "__init__" 274 (aR 81),g9 P "gainful_column" 282 (aR 88),g9 P "is_tighter" 294 (aR 95),g9 P "tightest_row" 304 (aR 102),g9 P "cleared" 310 (aR 107),g9 P "solve" 321 (aR 114),g9 P "settle" 329 (aR 121),g9 P "taken" 337 (aR 128),g9 P "__static_attributes__" 342 (aR 129),g9 P "__dict__" 344 (aR 132),g9 P "__weakref__" 346 (aR 133),g9 P "__doc__" 347 aW]) 4,#[]⟩)::
 (nat_lit 131,⟨(.type "type"),none,.cls ⟨"Table",[(.type "object")],[(aR 131),(.type "object")],130,"Table",true,[],[],false,none,false⟩,#[none,none,some (bp "Table" 257),some (bp "Table" 265),some (.builtin "object.__new__"),some (.bool true)]⟩)::
 (nat_lit 132,⟨(.type "getset_descriptor"),none,.fields (List.toArray [(bp "__dict__" 343),(aR 131),(.builtin "function.__dict__"),(.builtin "function.__dict__#set")]),#[]⟩)::
 (nat_lit 133,⟨(.type "getset_descriptor"),none,.fields (List.toArray [(bp "__weakref__" 345),(aR 131),(.builtin "ExceptionGroup.__weakref__"),aW]),#[]⟩)::
 (nat_lit 139,lK [(bp "greatest_refused" 350),(bp "greatest_refused" 351),(bp "/claim/cut.py" 352),(.int 79 0),(.int 2 0),(.int 0 0),(.int 0 0),(.int 3 0),(aR 136),(.bool true),(.int 181 0),(aR 137),aW,aW,aW,(aR 138),(.int 353 0),(.int 79 0),(bp "/claim/cut.py" 354)])::
 (nat_lit 140,lL "greatest_refused" "greatest_refused" (top 13) aW aW aW (bp "signright.weights" 255) none (aR 139) aW)::
 (nat_lit 144,lK [(bp "standings" 356),(bp "standings" 357),(bp "/claim/cut.py" 358),(.int 82 0),(.int 2 0),(.int 0 0),(.int 0 0),(.int 3 0),(aR 141),(.bool true),(.int 181 0),(aR 142),aW,aW,aW,(aR 143),(.int 359 0),(.int 82 0),(bp "/claim/cut.py" 360)])::
 (nat_lit 145,lL "standings" "standings" (top 14) aW aW aW (bp "signright.weights" 255) none (aR 144) aW)::
 (nat_lit 149,lK [(bp "table_of" 362),(bp "table_of" 363),(bp "/claim/cut.py" 364),(.int 84 0),(.int 3 0),(.int 0 0),(.int 0 0),(.int 3 0),(aR 146),(.bool true),(.int 181 0),(aR 147),aW,aW,aW,(aR 148),(.int 365 0),(.int 84 0),(bp "/claim/cut.py" 366)])::
 (nat_lit 150,lL "table_of" "table_of" (top 15) aW aW aW (bp "signright.weights" 255) none (aR 149) aW)::
 (nat_lit 154,lK [(bp "times_of" 368),(bp "times_of" 369),(bp "/claim/cut.py" 370),(.int 93 0),(.int 3 0),(.int 0 0),(.int 0 0),(.int 3 0),(aR 151),(.bool true),(.int 181 0),(aR 152),aW,aW,aW,(aR 153),(.int 371 0),(.int 93 0),(bp "/claim/cut.py" 372)])::
 (nat_lit 155,lL "times_of" "times_of" (top 16) aW aW aW (bp "signright.weights" 255) none (aR 154) aW)::
 (nat_lit 161,lK [(bp "weigh" 374),(bp "weigh" 375),(bp "/claim/cut.py" 376),(.int 96 0),(.int 2 0),(.int 0 0),(.int 0 0),(.int 3 0),(aR 156),(.bool true),(.int 181 0),(aR 157),aW,(aR 158),(aR 159),(aR 160),(.int 382 0),(.int 96 0),(bp "/claim/cut.py" 383)])::
 (nat_lit 162,lL "weigh" "weigh" (top 17) aW aW aW (bp "signright.weights" 255) none (aR 161) aW)::
 (nat_lit 168,lK [(bp "_law_cell_at" 387),(bp "_law_cell_at" 388),(bp "/claim/cut.py" 389),(.int 105 0),(.int 2 0),(.int 0 0),(.int 0 0),(.int 3 0),(aR 163),(.bool true),(.int 181 0),(aR 164),aW,(aR 165),(aR 166),(aR 167),(.int 392 0),(.int 105 0),(bp "/claim/cut.py" 393)])::
 (nat_lit 169,lL "_law_cell_at" "_law_cell_at" (top 19) aW aW aW (bp "law_signright_k51_weights_or_a_trade" 385) none (aR 168) aW)::
 (nat_lit 173,lK [(bp "_law_hands" 395),(bp "_law_hands" 396),(bp "/claim/cut.py" 397),(.int 109 0),(.int 1 0),(.int 0 0),(.int 0 0),(.int 3 0),(aR 170),(.bool true),(.int 181 0),(aR 171),aW,aW,aW,(aR 172),(.int 398 0),(.int 109 0),(bp "/claim/cut.py" 399)])::
 (nat_lit 174,lL "_law_hands" "_law_hands" (top 20) aW aW aW (bp "law_signright_k51_weights_or_a_trade" 385) none (aR 173) aW)::
 (nat_lit 180,lK [(bp "_law_before" 401),(bp "_law_before" 402),(bp "/claim/cut.py" 403),(.int 111 0),(.int 2 0),(.int 0 0),(.int 0 0),(.int 3 0),(aR 175),(.bool true),(.int 181 0),(aR 176),aW,(aR 177),(aR 178),(aR 179),(.int 410 0),(.int 111 0),(bp "/claim/cut.py" 411)])::
 (nat_lit 181,lL "_law_before" "_law_before" (top 21) aW aW aW (bp "law_signright_k51_weights_or_a_trade" 385) none (aR 180) aW)::
 (nat_lit 187,lK [(bp "_law_lets" 413),(bp "_law_lets" 414),(bp "/claim/cut.py" 415),(.int 120 0),(.int 2 0),(.int 0 0),(.int 0 0),(.int 3 0),(aR 182),(.bool true),(.int 181 0),(aR 183),aW,(aR 184),(aR 185),(aR 186),(.int 419 0),(.int 120 0),(bp "/claim/cut.py" 420)])::
 (nat_lit 188,lL "_law_lets" "_law_lets" (top 22) aW aW aW (bp "law_signright_k51_weights_or_a_trade" 385) none (aR 187) aW)::
 (nat_lit 192,lK [(bp "_law_least" 422),(bp "_law_least" 423),(bp "/claim/cut.py" 424),(.int 125 0),(.int 1 0),(.int 0 0),(.int 0 0),(.int 3 0),(aR 189),(.bool true),(.int 181 0),(aR 190),aW,aW,aW,(aR 191),(.int 425 0),(.int 125 0),(bp "/claim/cut.py" 426)])::
 (nat_lit 193,lL "_law_least" "_law_least" (top 23) aW aW aW (bp "law_signright_k51_weights_or_a_trade" 385) none (aR 192) aW)::
 (nat_lit 197,lK [(bp "_law_ladder" 428),(bp "_law_ladder" 429),(bp "/claim/cut.py" 430),(.int 135 0),(.int 4 0),(.int 0 0),(.int 0 0),(.int 3 0),(aR 194),(.bool true),(.int 181 0),(aR 195),aW,aW,aW,(aR 196),(.int 431 0),(.int 135 0),(bp "/claim/cut.py" 432)])::
 (nat_lit 198,lL "_law_ladder" "_law_ladder" (top 24) aW aW aW (bp "law_signright_k51_weights_or_a_trade" 385) none (aR 197) aW)::
 (nat_lit 204,lK [(bp "_law_whole" 434),(bp "_law_whole" 435),(bp "/claim/cut.py" 436),(.int 148 0),(.int 1 0),(.int 0 0),(.int 0 0),(.int 3 0),(aR 199),(.bool true),(.int 181 0),(aR 200),aW,(aR 201),(aR 202),(aR 203),(.int 438 0),(.int 148 0),(bp "/claim/cut.py" 439)])::
 (nat_lit 205,lL "_law_whole" "_law_whole" (top 25) aW aW aW (bp "law_signright_k51_weights_or_a_trade" 385) none (aR 204) aW)::
 (nat_lit 209,lK [(bp "_law_paper" 441),(bp "_law_paper" 442),(bp "/claim/cut.py" 443),(.int 150 0),(.int 3 0),(.int 0 0),(.int 0 0),(.int 3 0),(aR 206),(.bool true),(.int 181 0),(aR 207),aW,aW,aW,(aR 208),(.int 444 0),(.int 150 0),(bp "/claim/cut.py" 445)])::
 (nat_lit 210,lL "_law_paper" "_law_paper" (top 26) aW aW aW (bp "law_signright_k51_weights_or_a_trade" 385) none (aR 209) aW)::
 (nat_lit 214,lK [(bp "_law_side" 447),(bp "_law_side" 448),(bp "/claim/cut.py" 449),(.int 161 0),(.int 4 0),(.int 0 0),(.int 0 0),(.int 3 0),(aR 211),(.bool true),(.int 181 0),(aR 212),aW,aW,aW,(aR 213),(.int 450 0),(.int 161 0),(bp "/claim/cut.py" 451)])::
 (nat_lit 215,lL "_law_side" "_law_side" (top 27) aW aW aW (bp "law_signright_k51_weights_or_a_trade" 385) none (aR 214) aW)::
 (nat_lit 219,lK [(bp "_law_trade" 453),(bp "_law_trade" 454),(bp "/claim/cut.py" 455),(.int 172 0),(.int 3 0),(.int 0 0),(.int 0 0),(.int 3 0),(aR 216),(.bool true),(.int 181 0),(aR 217),aW,aW,aW,(aR 218),(.int 456 0),(.int 172 0),(bp "/claim/cut.py" 457)])::
 (nat_lit 220,lL "_law_trade" "_law_trade" (top 28) aW aW aW (bp "law_signright_k51_weights_or_a_trade" 385) none (aR 219) aW)::
 (nat_lit 226,lK [(bp "_law_right" 459),(bp "_law_right" 460),(bp "/claim/cut.py" 461),(.int 186 0),(.int 3 0),(.int 0 0),(.int 0 0),(.int 3 0),(aR 221),(.bool true),(.int 181 0),(aR 222),aW,(aR 223),(aR 224),(aR 225),(.int 465 0),(.int 186 0),(bp "/claim/cut.py" 466)])::
 (nat_lit 227,lL "_law_right" "_law_right" (top 29) aW aW aW (bp "law_signright_k51_weights_or_a_trade" 385) none (aR 226) aW)::
 (nat_lit 233,lK [(bp "law" 468),(bp "law" 469),(bp "/claim/cut.py" 470),(.int 192 0),(.int 1 0),(.int 0 0),(.int 0 0),(.int 3 0),(aR 228),(.bool true),(.int 181 0),(aR 229),aW,(aR 230),(aR 231),(aR 232),(.int 478 0),(.int 192 0),(bp "/claim/cut.py" 479)])::
 (nat_lit 234,lL "law" "law" (top 30) aW aW aW (bp "law_signright_k51_weights_or_a_trade" 385) none (aR 233) aW)::[]
noncomputable abbrev Jz:List Addr:=[3,20,21,25,26,32,33,39,40,46,47,51,52,58,59,63,64,68,69,80,81,87,88,94,95,101,102,106,107,113,114,120,121,127,128,130,131,132,133,139,140,144,145,149,150,154,155,161,162,168,169,173,174,180,181,187,188,192,193,197,198,204,205,209,210,214,215,219,220,226,227,233,234]
theorem LW:∀P,Jz=(Jy P).map (·.1):=λ_=>by kernel_rfl
theorem TY:PySem.W.LeftO OV Od [] (λs=>PySem.W.xlAt Od [] s&&PySem.W.recOk (PySem.W.RowW.records (PySem.W.OpenRow.toRowW (PySem.Challenge.rw_signright_k51_weights_or_a_trade).row)) s) (PySem.W.kHook Jy Jz LW).obs (PySem.W.kHook Jy Jz LW).val 2700:=by intro w;kernel_rfl
end L2.D.My
open PySem PySem.W PyProof.Rows
theorem PySem.Challenge.cw_signright_k51_weights_or_a_trade_holds : PySem.Challenge.rw_signright_k51_weights_or_a_trade.Holds := by
  w_on
  refine PySem.W.holds_law (by kernel_rfl) fun TZ => ?_
  refine PySem.W.holds_open (q := L2.D.My.Od) (loose := []) (Xt := fun s => xlAt L2.D.My.Od [] s && recOk (RowW.records (OpenRow.toRowW (PySem.Challenge.rw_signright_k51_weights_or_a_trade).row)) s) (XP := XL L2.D.My.Od []) (Yf := Hook.obs (kHook L2.D.My.Jy L2.D.My.Jz L2.D.My.LW)) (Ya := Hook.val (kHook L2.D.My.Jy L2.D.My.Jz L2.D.My.LW)) (YP := Hook.says (kHook L2.D.My.Jy L2.D.My.Jz L2.D.My.LW)) (N := 2700) L2.D.My.TY (Hook.of (kHook L2.D.My.Jy L2.D.My.Jz L2.D.My.LW)) (Hook.keeps (kHook L2.D.My.Jy L2.D.My.Jz L2.D.My.LW)) (fun s e => xl_of s (Bool.and_eq_true_iff.mp e).1) XL.keeps (by rfl) (by rfl) (by rfl) (fun s e => recFacts_of (Bool.and_eq_true_iff.mp e).2) (by rfl) (by first | assumption | decide +kernel) (by decide +kernel) ⟨rfl, rfl, rfl, rfl, rfl, by decide +kernel⟩ ?hw ?hc
  (case hw => w_witness2)
  k_fill
  refine L2.D.walkD2 (l := PySem.Challenge.rw_signright_k51_weights_or_a_trade) (k := 10) (x := "_law_script") (F := L2.D.My.wN) rfl (by decide) rfl ⟨rfl, by decide, by decide⟩ (fun w h Y => PySem.W.kIn_of Y) ?F L2.D.My.law_true
  case F =>
    intro w mg fa h KX G M4
    refine' L2.D.My.all_mk L2.D.My.place_key KX G M4 ?vd ?qM ?qN ?qO ?qP ?kT ?qQ ?QO ?QP ?QQ ?QR ?i9 ?kU ?jO ?kW ?jP ?mw ?my ?ve ?qR ?yW ?vf ?kX ?jQ ?mz ?fw ?eu ?kY ?mB ?cK ?eO ?fU ?dB ?c7 ?fg ?fV ?mC ?vg ?mD ?kZ ?mE ?k7 ?k8 ?k9 ?AD ?E8 ?vh ?E9 ?Fb ?Fc ?yX ?lg ?Fd ?jR ?Fe ?yY ?vi ?Ff ?qS ?Fg ?vj ?Fh
    (case vd | qM | qN | qO | qP | kT | qQ | QO | QP | QQ | QR => k_is)
    (case i9 | kU | jO | kW | jP | mw | my | ve | qR | yW | vf | kX | jQ | mz | fw => refine' L2.D.My.FG.mk ?a (L2.D.My.FA.mk ?l ?c ?k); (case a | l | c | k => k_is))
    (case eu => refine' L2.D.My.FC.mk ?a ?n (L2.D.My.FA.mk ?l ?c ?k); (case a | n | l | c | k => k_is))
    (case kY | mB => refine' L2.D.My.FG.mk ?a (L2.D.My.FA.mk ?l ?c ?k); (case a | l | c | k => k_is))
    (case cK | eO | fU | dB | c7 | fg | fV => refine' L2.D.My.FC.mk ?a ?n (L2.D.My.FA.mk ?l ?c ?k); (case a | n | l | c | k => k_is))
    (case mC | vg | mD | kZ | mE | k7 | k8 | k9 => refine' L2.D.My.FG.mk ?a (L2.D.My.FA.mk ?l ?c ?k); (case a | l | c | k => k_is))
    (case AD | E8 | vh | E9 | Fb | Fc | yX | lg | Fd | jR | Fe | yY | vi | Ff | qS | Fg | vj | Fh => k_is)
