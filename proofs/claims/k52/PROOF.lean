import PyProof.Rows.All
import Wide.All
import OpenK.AllK
import Wide.FinOn
import Lean
import PyProof.EqAt
import PyProof.EqKinds
import PyProof.TupleCall
import PyProof.Rows.SortPure
import KE.KLcPair
import PySem.Builtin.Int.W1All
import PySem.Sem
import PyProof.StrBlockL
import PyProof.SliceStr2
import PyProof.StrCalls2
import PyProof.WalkInts
import PyProof.Rows.StrStep
import PyProof.FactsAll.tuple_0
import PyProof.FactsAll.tuple_2
import PyProof.FactsAll.tuple_3
import PyProof.EnumStmt
import PyProof.EnumMake
import PyProof.EnumFor
import PyProof.Rows.EnumRows
import PyProof.FactsAll.list_3
import PyProof.Rows.SetFrom
import PyProof.SetRoads
import PyProof.Rows.SumAny
import PySem.Challenge.RW_signright_k52_what_weights_tell_has_weig
set_option Elab.async false
set_option linter.all false
set_option maxRecDepth 100000
set_option maxHeartbeats 0
set_option genSizeOf false
set_option genSizeOfSpec false
local macro_rules | `(tactic| omega) => `(tactic| lia)
theorem zR(h:True:=by rfl):True:=h
theorem zD(h:True:=by decide):True:=h
theorem zV(h:True:=by first|exact Or.inl rfl|exact Or.inr (Or.inl rfl)|exact Or.inr (Or.inr rfl)):True:=h
theorem zL(h:True:=by first|exact Or.inl rfl|exact Or.inr rfl):True:=h
theorem zF(h:True:=by first|exact .inl rfl|exact .inr rfl):True:=h
theorem zI(h:True:=by intro _;rfl):True:=h
namespace L2
open PySem PySem.Spec PyProof.Rows
noncomputable abbrev Key:=Sum Int Str
noncomputable def G0:Key->Value->Bool
 |.inl k,v=>Value.isInt k v
 |.inr x,v=>Value.isStrOf x v
noncomputable def Nq(w:World):Key->Int
 |.inl k=>hashInt k
 |.inr x=>hashStr w x
theorem cN:∀{k:Key} {v:Value},G0 k v=true->(∃i t,k=Sum.inl i/\v=Value.int i t)\/(∃x t,k=Sum.inr x/\v=Value.str x t)
 |.inl i,v,h=>by
  obtain⟨t,e⟩:=Value.isInt_shape (k:=i) (v:=v) h
  exact .inl ⟨i,t,rfl,e⟩
 |.inr x,v,h=>by
  obtain⟨t,e⟩:=Value.isStrOf_shape (x:=x) (v:=v) h
  exact .inr ⟨x,t,rfl,e⟩
theorem HQ(a b:Int):decide ((Sum.inl a:Key)=Sum.inl b)=(a==b):=by
 by_cases e:a=b
 ·subst e;simp
 ·have h:¬(Sum.inl a:Key)=Sum.inl b:=λq=>e (Sum.inl.inj q)
  rw[decide_eq_false h]
  exact(beq_eq_false_iff_ne.mpr e).symm
theorem HR(a b:Str):decide ((Sum.inr a:Key)=Sum.inr b)=decide (a=b):=by
 by_cases e:a=b
 ·subst e;simp
 ·have h:¬(Sum.inr a:Key)=Sum.inr b:=λq=>e (Sum.inr.inj q)
  rw[decide_eq_false h,decide_eq_false e]
theorem HS(a:Int)(b:Str):decide ((Sum.inl a:Key)=Sum.inr b)=false:=decide_eq_false (λq=>nomatch q)
theorem HU(a:Str)(b:Int):decide ((Sum.inr a:Key)=Sum.inl b)=false:=decide_eq_false (λq=>nomatch q)
noncomputable def yi(prog:Program)(w:World):PySem.KeyKind prog w Key where
 is:=G0
 hash:=Nq w
 inj:=λv a b ha hb=>by
  rcases cN ha with⟨i,t,rfl,rfl⟩|⟨x,t,rfl,rfl⟩
  ·rcases cN hb with⟨j,u,rfl,e⟩|⟨y,u,rfl,e⟩
   ·injection e with e1 _;rw[e1]
   ·exact nomatch e
  ·rcases cN hb with⟨j,u,rfl,e⟩|⟨y,u,rfl,e⟩
   ·exact nomatch e
   ·injection e with e1 _;rw[e1]
 byValue:=λk v h=>by
  rcases cN h with⟨i,t,rfl,rfl⟩|⟨x,t,rfl,rfl⟩<;>rfl
 pyHash:=λhv h=>by
  rcases cN hv with⟨i,t,rfl,rfl⟩|⟨x,t,rfl,rfl⟩
  ·exact wpAny_pyHash_int h
  ·exact wpAny_pyHash_str h
 eqBool:=λhu hv h=>by
  rcases cN hu with⟨i,t,rfl,rfl⟩|⟨x,t,rfl,rfl⟩
  ·rcases cN hv with⟨j,u,rfl,rfl⟩|⟨y,u,rfl,rfl⟩
   ·rw[HQ]at h;exact wpAny_eqBool_int h
   ·rw[HS]at h;exact SeqAt.EqAt.int_str i t y u _ _ _ _ h
  ·rcases cN hv with⟨j,u,rfl,rfl⟩|⟨y,u,rfl,rfl⟩
   ·rw[HU]at h;exact SeqAt.EqAt.str_int x t j u _ _ _ _ h
   ·rw[HR]at h;exact wpAny_eqBool_str h
 «strs»:=λk x t v h=>by
  rcases cN h with⟨i,u,rfl,e⟩|⟨y,u,rfl,e⟩
  ·exact nomatch e
  ·injection e with e1 _
   subst e1
   cases v<;>rfl
inductive V where
 |non|bl(b:Bool)|int(i:Int)|str(x:Str)|byt(b:Array UInt8)|flt(b:UInt64)|ref(a:Addr)|ty(n:String)
 deriving DecidableEq
noncomputable def RelV:V->Value->Prop
 |.non,u=>u=Value.none
 |.bl b,u=>u=Value.bool b
 |.int i,u=>∃t,u=Value.int i t
 |.str x,u=>∃t,u=Value.str x t
 |.byt b,u=>∃t,u=Value.bytes b t
 |.flt b,u=>∃t,u=Value.float b t
 |.ref a,u=>u=Value.ref a
 |.ty n,u=>u=Value.type n
noncomputable abbrev Vals:List V->List Value->Prop:=Paired RelV
theorem Vals.length{xs:List V}{us:List Value}(r:Vals xs us):xs.length=us.length:=Paired.length r
theorem Vals.get:∀{xs:List V} {us:List Value} {i:Nat} {x:V},Vals xs us->xs[i]?=some x->∃u,us[i]?=some u/\RelV x u
 |_,_,_,_,.nil,e=>by simp at e
 |_,_,0,_,.cons r _,e=>by simp at e;subst e;exact⟨_,rfl,r⟩
 |_,_,i+1,x,.cons _ t,e=>by
  obtain⟨u,h1,h2⟩:=Vals.get (i:=i) (x:=x) t (by simpa using e)
  exact⟨u,by simpa using h1,h2⟩
theorem Vals.set{x:V}{u:Value}(r:RelV x u):∀{xs:List V} {us:List Value} (i:Nat),Vals xs us->Vals (xs.set i x) (us.set i u)
 |_,_,_,.nil=>.nil
 |_,_,0,.cons _ t=>.cons r t
 |_,_,i+1,.cons q t=>.cons q (Vals.set r i t)
theorem Vals.append:∀{xs ys:List V} {us ws:List Value},Vals xs us->Vals ys ws->Vals (xs++ys) (us++ws)
 |_,_,_,_,.nil,s=>s
 |_,_,_,_,.cons r t,s=>.cons r (Vals.append t s)
theorem Vals.take:∀{xs:List V} {us:List Value} (n:Nat),Vals xs us->Vals (xs.take n) (us.take n)
 |_,_,0,_=>.nil
 |_,_,_+1,.nil=>.nil
 |_,_,n+1,.cons r t=>.cons r (Vals.take n t)
theorem Vals.drop:∀{xs:List V} {us:List Value} (n:Nat),Vals xs us->Vals (xs.drop n) (us.drop n)
 |_,_,0,r=>r
 |_,_,_+1,.nil=>.nil
 |_,_,n+1,.cons _ t=>Vals.drop n t
noncomputable def p6:Option V->Option Value->Prop
 |some v,some u=>RelV v u
 |none,none=>True
 |_,_=>False
noncomputable def KV{κ:Type}:List (κ×V)->List (κ×Value)->Prop:=Paired λ(p:κ×V) (q:κ×Value)=>p.1=q.1/\RelV p.2 q.2
noncomputable def kV:Key->V
 |.inl i=>.int i
 |.inr x=>.str x
inductive HO where
 |lst(xs:List V)
 |tup(xs:List V)
 |dK(uz:List (Key×V))|dT(uz:List (List Key×V))
 |set(S:Int->Bool)(n:Nat)
 |ins(C dx:Addr)(fs:List (Str×V))
 |own(x:Addr)
 |xd(fs:List (Str×V))
 |met(f x:Addr)
 |rng(lo hi:Int)
 |frz(o:Obj)(u:HO)
 |tbl(ps:Array Value)
 |ext(φ:Heap->Prop)
noncomputable abbrev Hp:=Addr->Option HO
noncomputable def upd(H:Hp)(a:Addr)(o:HO):Hp:=λb=>if b=a then some o else H b
theorem aO{H:Hp}{a:Addr}{o:HO}:upd H a o a=some o:=by unfold upd;rw[if_pos rfl]
theorem au{H:Hp}{a b:Addr}{o:HO}(h:b≠a):upd H a o b=H b:=by unfold upd;rw[if_neg h]
theorem aW{H:Hp}{a b:Addr}{o:HO}(h:H a=some o)(h':H b=none):a≠b:=by
 intro e;subst e;rw[h]at h';cases h'
section
variable(P:Program)(w:World)
noncomputable def MN(h:Heap)(a:Addr):Prop:=∃o,h.get? a=some o/\o.dict=none
noncomputable def gF(H:Hp)(h:Heap)(a:Addr):HO->Prop
 |.lst xs=>xs.length<=sizeLine/\∃(its:List Value) (n:Nat),Vals xs its/\h.get? a=some {cls:=.type "list",data:=.seq its.toArray n}
 |.tup xs=>(xs.length<=sizeLine/\MN h a)/\∃its:List Value,Vals xs its/\IsTup h a its.toArray
 |.dK uz=>uz.length<=sizeLine/\(a==sysModules)=false/\∃vs,KV uz vs/\h.DictOf (yi P w) a vs
 |.dT uz=>uz.length<=sizeLine/\(a==sysModules)=false/\∃xs:List (List Key×Addr×Value),
   Paired (λ(p:List Key×V) (q:List Key×Addr×Value)=>p.1=q.1/\H q.2.1=some (.tup (p.1.map kV))/\RelV p.2 q.2.2) uz xs/\
   ∃o es ep,h.get? a=some o/\o.ExactDict/\o.data=.dict es ep/\es.toList=xs.map (entryOfKey (tupleKind (yi P w)))/\(xs.map (·.1)).Nodup
 |.set S n=>h.SetOf (intKind P w) a S n
 |.ins C dx fs=>H dx=some (.own a)/\fs.length<=1000/\dx≠a/\h.get? a=some (PySem.W.instObj C dx)/\
   ∃mA,h.Ns1 dx mA/\(∀f,p6 (fs.lookup f) (mA f))/\PySem.Within mA (fs.map (·.1))
 |.own _=>∃o,h.get? a=some o
 |.xd fs=>∃mA,h.Ns1 a mA/\∀f,p6 (fs.lookup f) (mA f)
 |.rng lo hi=>∃t u v,h.get? a=some {cls:=.type "range",data:=.fields #[.int lo t,.int hi u,.int 1 v]}
 |.frz o u=>h.get? a=some o/\gF H h a u
 |.tbl ps=>h.get? a=some {cls:=.none,data:=.fields ps}
 |.met f x=>h.get? a=some (PySem.W.methodObj (.ref f) (.ref x))
 |.ext φ=>φ h/\(∃o,h.get? a=some o)/\∀h1 h2:Heap,φ h1->(∀o,h1.get? a=some o->h2.get? a=some o)->φ h2
noncomputable def nP(H:Hp)(h:Heap):Prop:=∀a o,H a=some o->gF P w H h a o
end
section
variable{P:Program}{w:World}{H H':Hp}{h h':Heap}{a:Addr}{o:HO}
theorem gF.lt(x:gF P w H h a o):a<h.objs.size:=by
 cases o with
 |lst xs=>obtain⟨_,_,_,_,e⟩:=x;exact Heap.lt_size e
 |tup xs=>obtain⟨_,_,_,p⟩:=x;exact p.lt
 |dK uz=>obtain⟨_,_,_,_,o,_,_,e,_⟩:=x;exact Heap.lt_size e
 |dT uz=>obtain⟨_,_,_,_,o,_,_,e,_⟩:=x;exact Heap.lt_size e
 |set S n=>obtain⟨o,_,_,_,e,_⟩:=x;exact Heap.lt_size e
 |ins C dx fs=>obtain⟨_,_,_,e,_⟩:=x;exact Heap.lt_size e
 |own y=>obtain⟨_,e⟩:=x;exact Heap.lt_size e
 |xd fs=>obtain⟨_,⟨_,_,_,e,_⟩,_⟩:=x;exact Heap.lt_size e
 |rng lo hi=>obtain⟨_,_,_,e⟩:=x;exact Heap.lt_size e
 |frz ob u=>obtain⟨e,_⟩:=x;exact Heap.lt_size e
 |tbl ps=>exact Heap.lt_size (show h.get? a=some _ from x)
 |met f y=>exact Heap.lt_size (show h.get? a=some _ from x)
 |ext φ=>obtain⟨_,⟨_,e⟩,_⟩:=x;exact Heap.lt_size e
theorem Paired.KG{α β:Type}{F G:α->β->Prop}:∀{l₁:List α} {l₂:List β},Paired F l₁ l₂->(∀a b,F a b->G a b)->Paired G l₁ l₂
 |_,_,.nil,_=>.nil
 |_,_,.cons r t,f=>.cons (f _ _ r) (Paired.KG t f)
theorem gF.p7(x:gF P w H h a o)(k:∀b u,(b=a\/H b=some (.own a))->h.get? b=some u->h'.get? b=some u)
  (ho:∀b,H b=some (.own a)->H' b=some (.own a))(ht:∀b xs,H b=some (.tup xs)->H' b=some (.tup xs)):gF P w H' h' a o:=by
 induction o with
 |lst xs=>obtain⟨z,its,n,r,e⟩:=x;exact⟨z,its,n,r,k _ _ (.inl rfl) e⟩
 |tup xs=>obtain⟨⟨z,od,ed,hd⟩,its,r,ob,e,c⟩:=x;exact⟨⟨z,od,k _ _ (.inl rfl) ed,hd⟩,its,r,ob,k _ _ (.inl rfl) e,c⟩
 |dK uz=>obtain⟨z,y,vs,r,ob,es,ep,e,c⟩:=x;exact⟨z,y,vs,r,ob,es,ep,k _ _ (.inl rfl) e,c⟩
 |dT uz=>
  obtain⟨z,y,xs,r,ob,es,ep,e,c⟩:=x
  exact⟨z,y,xs,Paired.KG r λp q z=>⟨z.1,ht _ _ z.2.1,z.2.2⟩,ob,es,ep,k _ _ (.inl rfl) e,c⟩
 |set S n=>obtain⟨ob,es,ep,t,e,c⟩:=x;exact⟨ob,es,ep,t,k _ _ (.inl rfl) e,c⟩
 |ins C dx fs=>
  obtain⟨d,z,ne,e,mA,⟨od,es,ep,e2,c⟩,r⟩:=x
  exact⟨ho _ d,z,ne,k _ _ (.inl rfl) e,mA,⟨od,es,ep,k _ _ (.inr d) e2,c⟩,r⟩
 |own y=>obtain⟨ob,e⟩:=x;exact⟨ob,k _ _ (.inl rfl) e⟩
 |xd fs=>obtain⟨mA,⟨od,es,ep,e,c⟩,r⟩:=x;exact⟨mA,⟨od,es,ep,k _ _ (.inl rfl) e,c⟩,r⟩
 |rng lo hi=>obtain⟨t,u,v,e⟩:=x;exact⟨t,u,v,k _ _ (.inl rfl) e⟩
 |frz ob u ih=>obtain⟨e,q⟩:=x;exact⟨k _ _ (.inl rfl) e,ih q⟩
 |tbl ps=>
  have e:h.get? a=some {cls:=.none,data:=.fields ps}:=x
  show h'.get? a=some {cls:=.none,data:=.fields ps}
  exact k a _ (.inl rfl) e
 |met f y=>
  have e:h.get? a=some (PySem.W.methodObj (.ref f) (.ref y)):=x
  show h'.get? a=some (PySem.W.methodObj (.ref f) (.ref y))
  exact k a _ (.inl rfl) e
 |ext φ=>obtain⟨p,⟨o,e⟩,st⟩:=x;exact⟨st _ _ p λo q=>k _ _ (.inl rfl) q,⟨o,k _ _ (.inl rfl) e⟩,st⟩
theorem nP.lt(x:nP P w H h)(e:H a=some o):a<h.objs.size:=(x a o e).lt
theorem nP.fresh(x:nP P w H h)(e:h.objs.size<=a):H a=none:=by
 cases q:H a with
 |none=>rfl
 |some u=>exact absurd (Nat.lt_of_lt_of_le (x.lt q) e) (Nat.lt_irrefl _)
theorem nP.kept(x:nP P w H h)(k:∀b u,h.get? b=some u->h'.get? b=some u):nP P w H h':=λa o e=>
 (x a o e).p7 (λb u _ q=>k b u q) (λ_ q=>q) λ_ _ q=>q
theorem nP.laid(x:nP P w H h)(k:∀b u,h.get? b=some u->h'.get? b=some u)(hp:h.objs.size<=a)(new:gF P w (upd H a o) h' a o):nP P w (upd H a o) h':=λb u e=>by
 have hn:=x.fresh hp
 by_cases hb:b=a
 ·subst hb;rw[aO]at e;cases e;exact new
 ·rw[au hb]at e
  exact(x b u e).p7 (λc v _ q=>k c v q) (λc q=>by rw[au (aW q hn)];exact q) λc xs q=>by rw[au (aW q hn)];exact q
end
noncomputable def Rd(H:Hp)(a:Addr)(u:HO):Prop:=H a=some u\/∃o,H a=some (.frz o u)
theorem Rd.ok{P:Program}{w:World}{H:Hp}{h:Heap}{a:Addr}{u:HO}(r:Rd H a u)(x:nP P w H h):gF P w H h a u:=by
 rcases r with r|⟨o,r⟩
 ·exact x a u r
 ·obtain⟨_,q⟩:=x a _ r
  exact q
noncomputable def MO:Option HO->Prop
 |some (.lst _)=>True
 |some (.dK _)=>True
 |some (.dT _)=>True
 |some (.set _ _)=>True
 |some (.ins _ _ _)=>True
 |some (.ext _)=>True
 |_=>False
section
variable{P:Program}{w:World}{H:Hp}{h h':Heap}{x e:Addr}{o':HO}
theorem nP.write(ok:nP P w H h)(mu:MO (H x))(he:e=x\/H e=some (.own x))(k:∀b u,b≠e->h.get? b=some u->h'.get? b=some u)(Kn:∃u,h'.get? e=some u)
  (new:gF P w (upd H x o') h' x o'):nP P w (upd H x o') h':=λb u q=>by
 have p8:∀c y,H c=some (.own y)->c≠x:=λc y r z=>by subst z;rw[r]at mu;exact mu
 have Nr:∀c xs,H c=some (.tup xs)->c≠x:=λc xs r z=>by subst z;rw[r]at mu;exact mu
 by_cases hb:b=x
 ·subst hb;rw[aO]at q;cases q;exact new
 ·rw[au hb]at q
  by_cases HV:b=e
  ·have q':H b=some (.own x):=by
     rcases he with z|z
     ·exact absurd (HV.trans z) hb
     ·rw[HV];exact z
   rw[q]at q';cases q'
   obtain⟨v,hv⟩:=Kn
   exact⟨v,by rw[HV];exact hv⟩
  ·refine(ok b u q).p7 (λc v hc r=>k c v ?_ r) (λc r=>by rw[au (p8 c b r)];exact r) λc xs r=>by rw[au (Nr c xs r)];exact r
   rcases hc with rfl|hc
   ·exact HV
   ·rintro rfl
    rcases he with z|z
    ·exact p8 c b hc z
    ·rw[hc]at z;cases z;exact hb rfl
end
structure Un(fs ex:List Addr)(H H':Hp)(h h':Heap):Prop where
 keep:∀b o,h.get? b=some o->H b=none->b∉fs->b∉ex->h'.get? b=some o
 slot:∀b o,h.get? b=some o->H b=none->b∈fs->b∉ex->∃sl,h'.get? b=some {o with slots:=sl}
 free:∀b o,h.get? b=some o->H b=none->b∉ex->H' b=none
 there:∀b o,h.get? b=some o->b∉ex->∃o',h'.get? b=some o'
 nG:∀b xs,H b=some (.tup xs)->H' b=some (.tup xs)
 mh:∀b o u,H b=some (.frz o u)->H' b=some (.frz o u)
 p9:∀b ps,H b=some (.tbl ps)->∃more,H' b=some (.tbl (ps++more))
section
variable{fs Qx ex Nt:List Addr}{H H1 H2:Hp}{h h1 h2 h':Heap}{a x e:Addr}{o:HO}
theorem Un.any(u:Un fs ex H H1 h h1){b:Addr}{ob:Obj}(q:h.get? b=some ob)(n:H b=none)(hx:b∉ex):∃sl,h1.get? b=some {ob with slots:=sl}:=by
 by_cases hb:b∈fs
 ·exact u.slot b ob q n hb hx
 ·exact⟨ob.slots,u.keep b ob q n hb hx⟩
theorem Un.kept(k:∀b u,h.get? b=some u->h'.get? b=some u):Un fs ex H H h h':=
 ⟨λb ob q _ _ _=>k b ob q,λb ob q _ _ _=>⟨ob.slots,k b ob q⟩,λ_ _ _ n _=>n,λb ob q _=>⟨ob,k b ob q⟩,λ_ _ q=>q,λ_ _ _ q=>q,λ_ ps q=>⟨#[],by rw[q];simp⟩⟩
theorem Un.refl:Un fs ex H H h h:=Un.kept λ_ _ q=>q
theorem Un.laid(k:∀b u,h.get? b=some u->h'.get? b=some u)(hp:h.objs.size<=a)(hn:H a=none):Un fs ex H (upd H a o) h h' where
 keep:=λb u q _ _ _=>k b u q
 slot:=λb u q _ _ _=>⟨u.slots,k b u q⟩
 free:=λb u q n _=>by rw[au (Nat.ne_of_lt (Nat.lt_of_lt_of_le (Heap.lt_size q) hp))];exact n
 there:=λb u q _=>⟨u,k b u q⟩
 nG:=λb xs q=>by rw[au (aW q hn)];exact q
 mh:=λb u xs q=>by rw[au (aW q hn)];exact q
 p9:=λb ps q=>⟨#[],by rw[au (aW q hn),q];simp⟩
theorem Un.write(mu:MO (H x))(he:e=x\/H e=some (.own x))(k:∀b u,b≠e->h.get? b=some u->h'.get? b=some u)(Kn:∃u,h'.get? e=some u):Un fs ex H (upd H x o) h h':=by
 have hx:∀b,H b=none->b≠x:=λb n z=>by subst z;rw[n]at mu;exact mu
 have hb:∀b,H b=none->b≠e:=λb n z=>by
  subst z
  rcases he with r|r
  ·exact hx b n r
  ·rw[n]at r;cases r
 have hm:∀b u,H b=some u->¬MO (some u)->b≠x:=λb u q nm z=>by subst z;rw[q]at mu;exact nm mu
 refine⟨λb u q n _ _=>k b u (hb b n) q,λb u q n _ _=>⟨u.slots,k b u (hb b n) q⟩,λb u q n _=>by rw[au (hx b n)];exact n,λb u q _=>?_,
  λb xs q=>by rw[au (hm b _ q λz=>z)];exact q,λb u xs q=>by rw[au (hm b _ q λz=>z)];exact q,λb ps q=>⟨#[],by rw[au (hm b _ q λz=>z),q];simp⟩⟩
 by_cases HV:b=e
 ·subst HV;exact Kn
 ·exact⟨u,k b u HV q⟩
end
noncomputable def MP(h:Heap)(H:Hp):List Addr:=(List.range h.objs.size).filter λa=>(H a).isSome
noncomputable def rP(h:Heap)(H:Hp):Heap:=PySem.W.hideAll h (MP h H)
theorem zT(h:Heap)(H:Hp):(rP h H).objs.size=h.objs.size:=PySem.W.hideAll_size _ _
theorem By{h:Heap}{H:Hp}{b:Addr}{o:Obj}(e:h.get? b=some o)(n:H b=none):(rP h H).get? b=some o:=
 PySem.W.hideAll_get _ e λhm=>by
  have q:(H b).isSome=true:=(List.mem_filter.mp hm).2
  rw[n]at q;simp at q
theorem EO{h:Heap}{H:Hp}{b:Addr}{o:Obj}(e:(rP h H).get? b=some o):h.get? b=some o/\H b=none:=by
 have e':h.get? b=some o:=PySem.W.of_hideAll (MP h H) e
 refine⟨e',?_⟩
 cases q:H b with
 |none=>rfl
 |some x=>
  have hm:b∈MP h H:=List.mem_filter.mpr ⟨List.mem_range.mpr (Heap.lt_size e'),by simp[q]⟩
  have z:(rP h H).get? b=none:=PySem.W.hideAll_none (MP h H) hm
  rw[z]at e;cases e
structure Mod(K:PySem.W.Frag)(mg:Str->Option Value)(base:Heap):Prop where
 kin:K.In base
 glob:base.Ns mainGlobals mg
 blt:∃mb,base.Ns builtinsNs mb/\∀x:Str,x≠ "__name__" ->mb x=bootBuiltins x
 nolimit:base.NoLimit
structure Cx where
 prog:Program
 w:World
 K:PySem.W.Frag
 mg:Str->Option Value
 base:Heap
 A:Around
 N:List Str
 s₀:Shared
 H₀:Hp
 env:Env
 outer:List Env
 stack:List Env
 ex:List Addr
 fn:Str->Bool
 calm:Bool
 pn:List (Addr×Obj)
 xe:Value->Shared->Prop
noncomputable def wu(l:List Env):List Addr:=l.filterMap (·.frame)
noncomputable abbrev Cx.fs(X:Cx):List Addr:=wu X.outer
noncomputable def uA(sc:Scope)(x:Str):Prop:=sc.names.lookup x=some .local\/sc.names.lookup x=some .cell\/sc.names.lookup x=some .free
noncomputable def Loc(sc:Scope)(x:Str):Prop:=sc.names.lookup x=some .local\/sc.names.lookup x=some .cell
noncomputable def Look(env:Env)(h:Heap)(m:Str->Option Value)(x:Str)(u:Value):Prop:=
 (env.kindOf x=some .local/\m x=some u)\/((env.kindOf x=some .cell\/env.kindOf x=some .free)/\∃c,env.cells.lookup x=some c/\h.IsCell c (some u))
structure Cx.Ok(X:Cx):Prop where
 mod:Mod X.K X.mg X.base
 kind:X.env.scope.kind=.function
 glob:X.env.globals=mainGlobals
 blt:X.env.builtins=builtinsNs
 above:X.s₀.heap.objs.size<=X.env.locals
 inj:∀x y c,X.env.cells.lookup x=some c->X.env.cells.lookup y=some c->x=y
 has:∀x,(X.env.kindOf x=some .cell\/X.env.kindOf x=some .free)->∃c,X.env.cells.lookup x=some c
 cab:∀x c,X.fn x=true->X.env.cells.lookup x=some c->X.s₀.heap.objs.size<=c
 hd:X.calm=true->X.A.handled=none
 frames:X.A.frames=some X.stack
 stk:X.stack=X.outer\/(X.stack=X.env::X.outer/\X.env.frame=some X.env.locals)
 exf:∀b∈X.ex,b≠X.env.locals/\∀x c,X.env.cells.lookup x=some c->c≠b
 bs:∀b o,X.base.get? b=some o->X.s₀.heap.get? b=some o/\X.H₀ b=none
 bsz:X.base.objs.size<=X.s₀.heap.objs.size
 noex:∀b o,X.base.get? b=some o->b∉X.ex
 exfs:∀b∈X.ex,b∉X.fs
 funs:X.s₀.heap.FunFrames X.base X.outer
 frf:∀b∈X.fs,X.H₀ b=none
structure Inv(X:Cx)(pins:List (Addr×Obj))(σ:List (Option V))(H:Hp)(s:Shared):Prop where
 ok:X.Ok
 os:s.os=X.s₀.os
 bare:AllBare s.gens
 base:Un X.fs X.ex X.H₀ H X.s₀.heap s.heap
 loc:∃m,s.heap.Ns X.env.locals m/\∀(i:Nat) (x:Str) (v:V),X.N[i]?=some x->σ[i]?=some (some v)->uA X.env.scope x->∃u,RelV v u/\Look X.env s.heap m x u
 cell:∀x c,X.env.cells.lookup x=some c->∃v,s.heap.IsCell c v
 free:H X.env.locals=none
 freeC:∀x c,X.env.cells.lookup x=some c->H c=none
 pin:∀p∈X.pn++pins,s.heap.get? p.1=some p.2/\H p.1=none/\p.1≠X.env.locals/\p.1∉X.fs/\∀v,p.2.data≠.cell v
 dR:nP X.prog X.w H s.heap
 len:σ.length=X.N.length
section
variable{X:Cx}{pins:List (Addr×Obj)}{σ:List (Option V)}{H H':Hp}{s:Shared}{h':Heap}
theorem Cx.Ok.Nu(ok:X.Ok){b:Addr}{o:Obj}(e:X.base.get? b=some o):b∉X.fs:=λhb=>by
 have:=(ok.funs.mem hb).1
 rw[e]at this;cases this
theorem Inv.bs(I:Inv X pins σ H s):∀b o,X.base.get? b=some o->s.heap.get? b=some o/\H b=none:=λb o e=>
 ⟨I.base.keep b o (I.ok.bs b o e).1 (I.ok.bs b o e).2 (I.ok.Nu e) (I.ok.noex b o e),I.base.free b o (I.ok.bs b o e).1 (I.ok.bs b o e).2 (I.ok.noex b o e)⟩
theorem Inv.bk(I:Inv X pins σ H s):∀b o,X.base.get? b=some o->s.heap.get? b=some o:=λb o e=>(I.bs b o e).1
theorem Inv.mod(I:Inv X pins σ H s):Mod X.K X.mg X.base:=I.ok.mod
theorem Inv.oi(I:Inv X pins σ H s):X.K.In s.heap:=I.ok.mod.kin.keeps I.bk
theorem Inv.lt(I:Inv X pins σ H s):X.env.locals<s.heap.objs.size:=let⟨_,hn,_⟩:=I.loc;hn.lt
theorem Inv.sz(I:Inv X pins σ H s):X.s₀.heap.objs.size<=s.heap.objs.size:=Nat.le_trans I.ok.above (Nat.le_of_lt I.lt)
theorem Inv.zU(I:Inv X pins σ H s){a:Addr}(h:s.heap.objs.size<=a):a∉X.fs:=λhb=>by
 obtain⟨_,o,ho,_⟩:=I.ok.funs.mem hb
 exact absurd (Nat.lt_of_lt_of_le (Heap.lt_size ho) (Nat.le_trans I.sz h)) (Nat.lt_irrefl _)
theorem Inv.HW(I:Inv X pins σ H s):∀x c,X.env.cells.lookup x=some c->c≠X.env.locals:=λx c e z=>by
 obtain⟨v,o,ho,hd⟩:=I.cell x c e
 obtain⟨m,⟨o',es,ep,HX,KH,_⟩,_⟩:=I.loc
 rw[z,HX]at ho;cases ho;rw[KH]at hd;cases hd
theorem Inv.funs(I:Inv X pins σ H s):s.heap.FunFrames X.base X.outer:=by
 have all:∀(l:List Env),(∀b∈wu l,b∈X.fs)->X.s₀.heap.FunFrames X.base l->s.heap.FunFrames X.base l:=by
  intro l
  induction l with
  |nil=>intro _ _;trivial
  |cons env r ih=>
   intro hs hl
   obtain⟨hk,⟨L,o,hf,hn,ho,hd⟩,hr⟩:=hl
   have hL:L∈X.fs:=hs L (by unfold wu;rw[List.filterMap_cons,hf];exact List.mem_cons_self)
   obtain⟨sl,e⟩:=I.base.slot L o ho (I.ok.frf L hL) hL λz=>I.ok.exfs L z hL
   exact⟨hk,⟨L,_,hf,hn,e,hd⟩,ih (λb hb=>hs b (by unfold wu;rw[List.filterMap_cons,hf];exact List.mem_cons_of_mem _ hb)) hr⟩
 exact all X.outer (λ_ hb=>hb) I.ok.funs
theorem Inv.stack(I:Inv X pins σ H s):s.heap.FunFrames X.base X.stack:=by
 rcases I.ok.stk with e|⟨e,hf⟩
 ·rw[e];exact I.funs
 ·rw[e]
  obtain⟨m,hn,_⟩:=I.loc
  refine .cons (by rw[I.ok.kind];decide) hf hn ?_ I.funs
  exact Heap.get?_none_of_le (Nat.le_trans I.ok.bsz I.ok.above)
theorem Inv.rQ(I:Inv X pins σ H s):∀b∈wu X.stack,b∈X.env.locals::X.fs:=λb hb=>by
 rcases I.ok.stk with e|⟨e,hf⟩
 ·rw[e]at hb;exact List.mem_cons_of_mem _ hb
 ·rw[e]at hb
  unfold wu at hb
  rw[List.filterMap_cons,hf]at hb
  exact hb
theorem Inv.rR(I:Inv X pins σ H s):∀b∈wu X.stack,H b=none:=λb hb=>by
 rcases List.mem_cons.mp (I.rQ b hb)with e|hb
 ·rw[e];exact I.free
 ·obtain⟨_,o,ho,_⟩:=I.ok.funs.mem hb
  exact I.base.free b o ho (I.ok.frf b hb) λz=>I.ok.exfs b z hb
theorem Inv.step{g':Array GenState}{t':Nat}{d':Drawn}{ch:List Addr}(I:Inv X pins σ H s)
  (Ez:∀b∈ch,(b∈X.ex\/X.s₀.heap.objs.size<=b)/\b≠X.env.locals/\(∀x c,X.env.cells.lookup x=some c->c≠b)/\∀p∈X.pn++pins,p.1≠b)
  (keep:∀b o,b≠X.env.locals->b∉X.fs->b∉ch->s.heap.get? b=some o->H b=none->h'.get? b=some o)
  (slot:∀b o,b≠X.env.locals->b∈X.fs->b∉ch->s.heap.get? b=some o->H b=none->∃sl,h'.get? b=some {o with slots:=sl})(free:∀b o,b∉ch->s.heap.get? b=some o->H b=none->H' b=none)
  (there:∀b o,b∉ch->s.heap.get? b=some o->∃o',h'.get? b=some o')
  (nG:∀b xs,H b=some (.tup xs)->H' b=some (.tup xs))(mh:∀b o u,H b=some (.frz o u)->H' b=some (.frz o u))(p9:∀b ps,H b=some (.tbl ps)->∃more,H' b=some (.tbl (ps++more)))
  (ns:∀m,s.heap.Ns X.env.locals m->h'.Ns X.env.locals m)(dR:nP X.prog X.w H' h')(hg:AllBare g'):
  Inv X pins σ H' {s with heap:=h',gens:=g',drawn:=d',toks:=t'}:=by
 have Pg:∀b o,X.s₀.heap.get? b=some o->b≠X.env.locals:=λb o e=>Nat.ne_of_lt (Nat.lt_of_lt_of_le (Heap.lt_size e) I.ok.above)
 have MQ:∀b o,X.s₀.heap.get? b=some o->b∉X.ex->b∉ch:=λb o e hx hb=>by
  rcases(Ez b hb).1 with z|z
  ·exact hx z
  ·exact absurd (Nat.lt_of_lt_of_le (Heap.lt_size e) z) (Nat.lt_irrefl _)
 have cellK:∀x c,X.env.cells.lookup x=some c->∀v,s.heap.IsCell c v->h'.IsCell c v:=λx c e v ⟨o,ho,hd⟩=>by
  have KI:c∉ch:=λz=>(Ez c z).2.2.1 x c e rfl
  by_cases hc:c∈X.fs
  ·obtain⟨sl,q⟩:=slot c o (I.HW x c e) hc KI ho (I.freeC x c e)
   exact⟨_,q,hd⟩
  ·exact⟨o,keep c o (I.HW x c e) hc KI ho (I.freeC x c e),hd⟩
 refine⟨I.ok,I.os,hg,⟨λb o e n hb hx=>?_,λb o e n hb hx=>?_,λb o e n hx=>?_,λb o e hx=>?_,λb xs e=>nG b xs (I.base.nG b xs e),λb o xs e=>mh b o xs (I.base.mh b o xs e),λb ps e=>?_⟩,?_,λx c e=>?_,?_,λx c e=>?_,λp hp=>?_,dR,I.len⟩
 ·exact keep b o (Pg b o e) hb (MQ b o e hx) (I.base.keep b o e n hb hx) (I.base.free b o e n hx)
 ·obtain⟨sl,e1⟩:=I.base.slot b o e n hb hx
  obtain⟨Qy,e2⟩:=slot b _ (Pg b o e) hb (MQ b o e hx) e1 (I.base.free b o e n hx)
  exact⟨Qy,e2⟩
 ·obtain⟨o',e1⟩:=I.base.there b o e hx
  exact free b o' (MQ b o e hx) e1 (I.base.free b o e n hx)
 ·obtain⟨o',e1⟩:=I.base.there b o e hx
  exact there b o' (MQ b o e hx) e1
 ·obtain⟨m1,e1⟩:=I.base.p9 b ps e
  obtain⟨m2,e2⟩:=p9 b _ e1
  exact⟨m1++m2,by rw[e2,Array.append_assoc]⟩
 ·obtain⟨m,hn,hl⟩:=I.loc
  refine⟨m,ns m hn,λi x v e1 e2 e3=>?_⟩
  obtain⟨u,r,l⟩:=hl i x v e1 e2 e3
  refine⟨u,r,?_⟩
  rcases l with l|⟨k,c,e,z⟩
  ·exact .inl l
  ·exact .inr ⟨k,c,e,cellK x c e _ z⟩
 ·obtain⟨v,z⟩:=I.cell x c e
  exact⟨v,cellK x c e v z⟩
 ·obtain⟨m,⟨o,_,_,ho,_⟩,_⟩:=I.loc
  exact free _ o (λz=>(Ez _ z).2.1 rfl) ho I.free
 ·obtain⟨v,o,ho,hd⟩:=I.cell x c e
  exact free c o (λz=>(Ez c z).2.2.1 x c e rfl) ho (I.freeC x c e)
 ·obtain⟨e,n,ne,nf,d⟩:=I.pin p hp
  have KI:p.1∉ch:=λz=>(Ez p.1 z).2.2.2 p hp rfl
  exact⟨keep p.1 p.2 ne nf KI e n,free p.1 p.2 KI e n,ne,nf,d⟩
theorem Inv.un{t':Nat}(I:Inv X pins σ H s)(u:Un X.fs [] H H' s.heap h')(dR:nP X.prog X.w H' h'):Inv X pins σ H' {s with heap:=h',toks:=t'}:=by
 obtain⟨m,⟨o,es,ep,ho,r⟩,_⟩:=id I.loc
 obtain⟨sl,hL⟩:=u.any ho I.free (by simp)
 exact I.step (g':=s.gens) (d':=s.drawn) (ch:=[]) (λ_ z=>nomatch z) (λb o _ hb _ e n=>u.keep b o e n hb (by simp)) (λb o _ hb _ e n=>u.slot b o e n hb (by simp)) (λb o _ e n=>u.free b o e n (by simp)) (λb o _ e=>u.there b o e (by simp)) u.nG u.mh u.p9 (λm' hm=>by
  obtain⟨o',Nv,Nw,HX,r'⟩:=hm
  rw[ho]at HX;cases HX
  exact⟨_,Nv,Nw,hL,r'⟩) dR I.bare
theorem Inv.call{g':Array GenState}{t':Nat}{d':Drawn}{ch:List Addr}(I:Inv X pins σ H s)(u:Un (wu X.stack) ch H H' s.heap h')(dR:nP X.prog X.w H' h')(hg:AllBare g')
  (Ez:∀b∈ch,(b∈X.ex\/X.s₀.heap.objs.size<=b)/\b≠X.env.locals/\(∀x c,X.env.cells.lookup x=some c->c≠b)/\∀p∈X.pn++pins,p.1≠b):
  Inv X pins σ H' {s with heap:=h',gens:=g',drawn:=d',toks:=t'}:=by
 obtain⟨m,⟨o,es,ep,ho,r⟩,_⟩:=id I.loc
 obtain⟨sl,hL⟩:=u.any ho I.free λz=>(Ez _ z).2.1 rfl
 exact I.step (ch:=ch) Ez (λb o hL hb hc e n=>u.keep b o e n (λz=>(List.mem_cons.mp (I.rQ b z)).elim hL hb) hc) (λb o _ _ hc e n=>u.any e n hc) (λb o hc e n=>u.free b o e n hc) (λb o hc e=>u.there b o e hc) u.nG u.mh u.p9 (λm' hm=>by
  obtain⟨o',Nv,Nw,HX,r'⟩:=hm
  rw[ho]at HX;cases HX
  exact⟨_,Nv,Nw,hL,r'⟩) dR hg
theorem Inv.turned{t':Nat}{it:Addr}(I:Inv X pins σ H s)(k:∀b o,b≠it->s.heap.get? b=some o->h'.get? b=some o)(hn:H it=none)(hL:it≠X.env.locals)
  (h1:it∈X.ex\/X.s₀.heap.objs.size<=it)(h2:∀x c,X.env.cells.lookup x=some c->c≠it)(h3:∀p∈X.pn++pins,p.1≠it):Inv X pins σ H {s with heap:=h',toks:=t'}:=by
 have G1:∀b u,H b=some u->b≠it:=λb u e z=>by rw[z,hn]at e;cases e
 refine I.step (g':=s.gens) (d':=s.drawn) (ch:=[it]) (λb hb=>?_) (λb o _ _ hc e _=>k b o (λz=>hc (by simp[z])) e) (λb o _ _ hc e _=>⟨o.slots,k b o (λz=>hc (by simp[z])) e⟩) (λ_ _ _ _ n=>n)
  (λb o hc e=>⟨o,k b o (λz=>hc (by simp[z])) e⟩) (λ_ _ e=>e) (λ_ _ _ e=>e) (λb ps e=>⟨#[],by rw[e];simp⟩) (λm hm=>?_) (λb u e=>?_) I.bare
 ·have e:b=it:=by simpa using hb
  subst e
  exact⟨h1,hL,h2,h3⟩
 ·obtain⟨o,es,ep,ho,r⟩:=hm
  exact⟨o,es,ep,k _ o (Ne.symm hL) ho,r⟩
 ·refine(I.dR b u e).p7 (λc v hc q=>k c v ?_ q) (λ_ q=>q) λ_ _ q=>q
  rcases hc with z|z
  ·rw[z];exact G1 b u e
  ·exact G1 c _ z
theorem Inv.tok(I:Inv X pins σ H s)(t:Nat):Inv X pins σ H {s with toks:=t}:=I.un (h':=s.heap) (t':=t) Un.refl I.dR
theorem Inv.kept{t':Nat}(I:Inv X pins σ H s)(k:∀b u,s.heap.get? b=some u->h'.get? b=some u):Inv X pins σ H {s with heap:=h',toks:=t'}:=I.un (Un.kept k) (I.dR.kept k)
theorem Inv.laid{a:Addr}{o:HO}{t':Nat}(I:Inv X pins σ H s)(k:∀b u,s.heap.get? b=some u->h'.get? b=some u)(hp:s.heap.objs.size<=a)(new:gF X.prog X.w (upd H a o) h' a o):
 Inv X pins σ (upd H a o) {s with heap:=h',toks:=t'}:=I.un (Un.laid k hp (I.dR.fresh hp)) (I.dR.laid k hp new)
theorem Inv.write{x e:Addr}{o:HO}{t':Nat}(I:Inv X pins σ H s)(mu:MO (H x))(he:e=x\/H e=some (.own x))(k:∀b u,b≠e->s.heap.get? b=some u->h'.get? b=some u)(Kn:∃u,h'.get? e=some u)
 (new:gF X.prog X.w (upd H x o) h' x o):Inv X pins σ (upd H x o) {s with heap:=h',toks:=t'}:=I.un (Un.write mu he k Kn) (I.dR.write mu he k Kn new)
theorem Inv.weak{σ':List (Option V)}(I:Inv X pins σ H s)(hl:σ'.length=σ.length)(w:∀(i:Nat) v,σ'[i]?=some (some v)->σ[i]?=some (some v)):Inv X pins σ' H s:=
 ⟨I.ok,I.os,I.bare,I.base,let⟨m,hn,MR⟩:=I.loc;⟨m,hn,λi x v e1 e2 e3=>MR i x v e1 (w i v e2) e3⟩,I.cell,I.free,I.freeC,I.pin,I.dR,hl.trans I.len⟩
theorem Inv.dZ{f6:List (Addr×Obj)}(I:Inv X pins σ H s)(h:∀p∈f6,s.heap.get? p.1=some p.2/\H p.1=none/\p.1≠X.env.locals/\p.1∉X.fs/\∀v,p.2.data≠.cell v):Inv X f6 σ H s:=
 ⟨I.ok,I.os,I.bare,I.base,I.loc,I.cell,I.free,I.freeC,λp hp=>(List.mem_append.mp hp).elim (λz=>I.pin p (List.mem_append_left _ z)) (h p),I.dR,I.len⟩
theorem uB{N:List Str}(hN:N.Nodup){i j:Nat}{x:Str}(a:N[i]?=some x)(b:N[j]?=some x):i=j:=by
 obtain⟨h1,e1⟩:=List.getElem?_eq_some_iff.mp a
 obtain⟨h2,e2⟩:=List.getElem?_eq_some_iff.mp b
 exact(List.getElem_inj hN).mp (e1.trans e2.symm)
theorem mi{M:Model}{A:Around}{E:Value->Shared->Prop}{i:Nat}{x:Str}{v:V}{u:Value}{Q:Unit->Shared->Prop}(I:Inv X pins σ H s)(hN:X.N.Nodup)(hi:X.N[i]?=some x)(hx:Loc X.env.scope x)(r:RelV v u)
  (h:∀s',Inv X pins (σ.set i (some v)) H s'->(∃a,Heap.SameBut a s.heap s'.heap/\(a=X.env.locals\/X.env.cells.lookup x=some a))->Q () s')(hf:X.fn x=true\/X.env.scope.names.lookup x=some .local:=by first|exact .inl rfl|exact .inr rfl|assumption):wpAny M A (storeName X.env x u) Q E s:=by
 obtain⟨m,hn,hl⟩:=id I.loc
 have Nx:(X.env.scope.kind==.class||(X.env.scope.kind==.module&&X.env.locals !=X.env.globals))=false:=by rw[I.ok.kind];rfl
 have Ph:i<σ.length:=by rw[I.len];exact(List.getElem?_eq_some_iff.mp hi).1
 have HW:=I.HW
 have tracked:∀{a:Addr} {h':Heap},(∃o,s.heap.get? a=some o/\H a=none)->Heap.SameBut a s.heap h'->nP X.prog X.w H h':=λ{a h'} ha hs b ob e=>by
  obtain⟨_,_,gc⟩:=ha
  refine(I.dR b ob e).p7 (λc w' hc q=>(hs.2 c ?_).trans q) (λ_ q=>q) λ_ _ q=>q
  rintro rfl
  rcases hc with rfl|hc
  ·rw[gc]at e;cases e
  ·rw[gc]at hc;cases hc
 rcases hx with hk|hk
 ·refine wpAny_storeName_local hk hn (λh' KJ hs=>?_) Nx
  obtain⟨oL,_,_,Ny,_⟩:=id hn
  refine h _ ⟨I.ok,I.os,I.bare,⟨λb o e n hb hx=>?_,λb o e n hb hx=>?_,I.base.free,λb o e hx=>?_,I.base.nG,I.base.mh,I.base.p9⟩,⟨_,KJ,λj y v' e1 e2 e3=>?_⟩,λy c e=>?_,I.free,I.freeC,λp hp=>?_,tracked ⟨oL,Ny,I.free⟩ hs,by simpa using I.len⟩ ⟨_,hs,.inl rfl⟩
  ·exact(hs.2 b (Nat.ne_of_lt (Nat.lt_of_lt_of_le (Heap.lt_size e) I.ok.above))).trans (I.base.keep b o e n hb hx)
  ·obtain⟨sl,e1⟩:=I.base.slot b o e n hb hx
   exact⟨sl,(hs.2 b (Nat.ne_of_lt (Nat.lt_of_lt_of_le (Heap.lt_size e) I.ok.above))).trans e1⟩
  ·obtain⟨o',e1⟩:=I.base.there b o e hx
   exact⟨o',(hs.2 b (Nat.ne_of_lt (Nat.lt_of_lt_of_le (Heap.lt_size e) I.ok.above))).trans e1⟩
  ·by_cases hj:j=i
   ·subst hj
    rw[hi]at e1;cases e1
    rw[List.getElem?_set_self Ph]at e2
    cases e2
    exact⟨u,r,.inl ⟨hk,by simp⟩⟩
   ·rw[List.getElem?_set_ne (Ne.symm hj)]at e2
    obtain⟨u',r',q⟩:=hl j y v' e1 e2 e3
    refine⟨u',r',?_⟩
    rcases q with⟨k,e⟩|⟨k,c,e,z⟩
    ·refine .inl ⟨k,?_⟩
     have:y≠x:=λe=>hj (uB hN e1 (e▸hi))
     simp[this,e]
    ·exact .inr ⟨k,c,e,z.sameBut hs (HW y c e)⟩
  ·obtain⟨w',z⟩:=I.cell y c e
   exact⟨w',z.sameBut hs (HW y c e)⟩
  ·obtain⟨e,n,ne,nf,d⟩:=I.pin p hp
   exact⟨(hs.2 p.1 ne).trans e,n,ne,nf,d⟩
 ·have Nz:X.fn x=true:=by
    rcases hf with z|z
    ·exact z
    ·rw[z]at hk;cases hk
  obtain⟨c,hc⟩:=I.ok.has x (.inl hk)
  obtain⟨w',z⟩:=I.cell x c hc
  refine wpAny_storeName_cell I.ok.kind hk hc z (λh' G2 hs=>?_)
  obtain⟨oc,Pj,NA⟩:=id z
  refine h {s with heap:=h'} ⟨I.ok,I.os,I.bare,⟨λb o e n hb hx=>?_,λb o e n hb hx=>?_,I.base.free,λb o e hx=>?_,I.base.nG,I.base.mh,I.base.p9⟩,⟨m,hn.sameBut hs (Ne.symm (HW x c hc)),λj y v' e1 e2 e3=>?_⟩,λy c' e=>?_,I.free,I.freeC,λp hp=>?_,tracked ⟨oc,Pj,I.freeC x c hc⟩ hs,by simpa using I.len⟩ ⟨c,hs,.inr hc⟩
  ·exact(hs.2 b (Nat.ne_of_lt (Nat.lt_of_lt_of_le (Heap.lt_size e) (I.ok.cab x c Nz hc)))).trans (I.base.keep b o e n hb hx)
  ·obtain⟨sl,e1⟩:=I.base.slot b o e n hb hx
   exact⟨sl,(hs.2 b (Nat.ne_of_lt (Nat.lt_of_lt_of_le (Heap.lt_size e) (I.ok.cab x c Nz hc)))).trans e1⟩
  ·obtain⟨o',e1⟩:=I.base.there b o e hx
   exact⟨o',(hs.2 b (Nat.ne_of_lt (Nat.lt_of_lt_of_le (Heap.lt_size e) (I.ok.cab x c Nz hc)))).trans e1⟩
  ·by_cases hj:j=i
   ·subst hj
    rw[hi]at e1;cases e1
    rw[List.getElem?_set_self Ph]at e2
    cases e2
    exact⟨u,r,.inr ⟨.inl hk,c,hc,G2⟩⟩
   ·rw[List.getElem?_set_ne (Ne.symm hj)]at e2
    obtain⟨u',r',q⟩:=hl j y v' e1 e2 e3
    refine⟨u',r',?_⟩
    rcases q with q|⟨k,c',e,z'⟩
    ·exact .inl q
    ·refine .inr ⟨k,c',e,z'.sameBut hs ?_⟩
     rintro rfl
     exact hj (uB hN e1 (I.ok.inj _ _ _ e hc▸hi))
  ·by_cases Pk:c'=c
   ·subst Pk;exact⟨_,G2⟩
   ·obtain⟨w2,z2⟩:=I.cell y c' e
    exact⟨w2,z2.sameBut hs Pk⟩
  ·obtain⟨e,n,ne,nf,d⟩:=I.pin p hp
   refine⟨(hs.2 p.1 ?_).trans e,n,ne,nf,d⟩
   intro q
   rw[q,Pj]at e
   have q':oc=p.2:=Option.some.inj e
   exact d w' (by rw[<-q'];exact NA)
theorem oj{M:Model}{A:Around}{E:Value->Shared->Prop}{i:Nat}{x:Str}{v:V}{u:Value}{Q:Unit->Shared->Prop}(I:Inv X pins σ H s)(hN:X.N.Nodup)(hi:X.N[i]?=some x)(hx:Loc X.env.scope x)(r:RelV v u)
  (h:∀s',Inv X pins (σ.set i (some v)) H s'->Q () s')(hf:X.fn x=true\/X.env.scope.names.lookup x=some .local:=by first|exact .inl rfl|exact .inr rfl|assumption):wpAny M A (storeName X.env x u) Q E s:=
 mi I hN hi hx r (λs' I' _=>h s' I') hf
theorem Inv.G3{s':Shared}{ch:List Addr}(I:Inv X pins σ H s)(ho:s'.os=s.os)(u:Un (wu X.stack) ch H H' s.heap s'.heap)(dR:nP X.prog X.w H' s'.heap)(hg:AllBare s'.gens)
  (Ez:∀b∈ch,(b∈X.ex\/X.s₀.heap.objs.size<=b)/\b≠X.env.locals/\(∀x c,X.env.cells.lookup x=some c->c≠b)/\∀p∈X.pn++pins,p.1≠b):Inv X pins σ H' s':=by
 obtain⟨h',g',d',t',o'⟩:=s'
 have e:o'=s.os:=ho
 subst e
 exact I.call (g':=g') (t':=t') (d':=d') u dR hg Ez
end
noncomputable abbrev XK:=Value->Option Addr->Hp->Prop
noncomputable abbrev St:=List (Option V)
noncomputable abbrev VK:=V->Hp->Prop
noncomputable abbrev TE:=St->Hp->VK->Prop
noncomputable abbrev TT:=St->Hp->(Bool->Hp->Prop)->Prop
noncomputable abbrev TA:=St->Hp->(List V->Hp->Prop)->Prop
structure Ends where
 nx:St->Hp->Prop
 rt:VK
 bk:St->Hp->Prop:=λ_ _=>False
 ct:St->Hp->Prop:=λ_ _=>False
noncomputable abbrev TS:=Ends->St->Hp->Prop
noncomputable def EP(X:Cx)(pins:List (Addr×Obj))(σ:St)(Q:VK)(u:Value)(s':Shared):Prop:=∃v H',Inv X pins σ H' s'/\RelV v u/\Q v H'
noncomputable def TP(X:Cx)(pins:List (Addr×Obj))(σ:St)(Q:Bool->Hp->Prop)(b:Bool)(s':Shared):Prop:=∃H',Inv X pins σ H' s'/\Q b H'
noncomputable def AP(X:Cx)(pins:List (Addr×Obj))(σ:St)(Q:List V->Hp->Prop)(us:List Value)(s':Shared):Prop:=∃vs H',Inv X pins σ H' s'/\Vals vs us/\Q vs H'
noncomputable def SP(X:Cx)(pins:List (Addr×Obj))(D:Ends)(f:Flow)(s':Shared):Prop:=
 match f with
 |.next=>∃σ' H',Inv X pins σ' H' s'/\D.nx σ' H'
 |.brk=>∃σ' H',Inv X pins σ' H' s'/\D.bk σ' H'
 |.cont=>∃σ' H',Inv X pins σ' H' s'/\D.ct σ' H'
 |.ret u=>∃v σ' H',Inv X pins σ' H' s'/\RelV v u/\D.rt v H'
noncomputable def PE(X:Cx)(e:Expr)(t:TE):Prop:=
 ∀(pins:List (Addr×Obj)) (s:Shared) (σ:St) (H:Hp) (Q:VK),Inv X pins σ H s->t σ H Q->wpAny (model X.prog X.w) X.A (eval e X.env) (EP X pins σ Q) X.xe s
noncomputable def PT(X:Cx)(e:Expr)(t:TT):Prop:=
 ∀(pins:List (Addr×Obj)) (s:Shared) (σ:St) (H:Hp) (Q:Bool->Hp->Prop),Inv X pins σ H s->t σ H Q->wpAny (model X.prog X.w) X.A (isTrue e X.env (eval e X.env)) (TP X pins σ Q) X.xe s
noncomputable def PW(X:Cx)(e:Expr)(t:TT):Prop:=
 ∀(whole:Sem Value) (pins:List (Addr×Obj)) (s:Shared) (σ:St) (H:Hp) (Q:Bool->Hp->Prop),Inv X pins σ H s->t σ H Q->wpAny (model X.prog X.w) X.A (isTrue e X.env whole) (TP X pins σ Q) X.xe s
theorem PW.pt{X:Cx}{e:Expr}{t:TT}(h:PW X e t):PT X e t:=h _
noncomputable def PA(X:Cx)(es:List Expr)(t:TA):Prop:=
 ∀(pos:Pos) (pins:List (Addr×Obj)) (s:Shared) (σ:St) (H:Hp) (Q:List V->Hp->Prop),Inv X pins σ H s->t σ H Q->wpAny (model X.prog X.w) X.A (spliced (backTo pos (starEach es X.env))) (AP X pins σ Q) X.xe s
noncomputable def PS(X:Cx)(st:Stmt)(t:TS):Prop:=
 ∀(pins:List (Addr×Obj)) (s:Shared) (σ:St) (H:Hp) (D:Ends),Inv X pins σ H s->t D σ H->wpAny (model X.prog X.w) X.A (exec st X.env) (SP X pins D) X.xe s
noncomputable def rS(X:Cx)(st:List Stmt)(t:TS):Prop:=
 ∀(pins:List (Addr×Obj)) (s:Shared) (σ:St) (H:Hp) (D:Ends),Inv X pins σ H s->t D σ H->wpAny (model X.prog X.w) X.A (execs st X.env) (SP X pins D) X.xe s
theorem dz{α:Type}{t:Sem α}{Q Q':α->Shared->Prop}{M:Model}{A:Around}{E:Value->Shared->Prop}{s:Shared}(h:wpAny M A t Q E s)(hQ:∀a s,Q a s->Q' a s):wpAny M A t Q' E s:=wpAny_mono h hQ λ_ _ x=>x
section
variable{X:Cx}
noncomputable def KL(i:Nat):TE:=λσ H Q=>∃v,σ[i]?=some (some v)/\Q v H
noncomputable def tC(v:V):TE:=λ_ H Q=>Q v H
theorem dh{i:Nat}{x:Str}{pos:Pos}(hN:X.N[i]?=some x)(hv:uA X.env.scope x)(hd:autoParam ((x==("__debug__" :Str))=false) zD._auto_1)(om:autoParam ((x==("__classdict__" :Str))=false) zD._auto_1):PE X (.Name x pos) (KL i):=by
 intro pins s σ H Q I h
 obtain⟨v,e,h⟩:=h
 obtain⟨m,hn,hl⟩:=I.loc
 obtain⟨u,r,l⟩:=hl i x v hN e hv
 have fin:EP X pins σ Q u s:=⟨v,H,I,r,h⟩
 rcases l with⟨hk,hm⟩|⟨hk,c,hc,G4⟩
 ·exact wpAny_Name (wpAny_loadName_local I.ok.kind hk hn hm fin) hd
 ·rcases hk with hk|hk
  ·exact wpAny_Name (wpAny_loadName_cell I.ok.kind hk hc G4 fin) hd
  ·exact wpAny_Name (wpAny_loadName_free I.ok.kind hk hc G4 fin om) hd
theorem HY{i j pos}:PE X (.Constant (.int i) j pos) (tC (.int i)):=λ_ _ _ H _ I h=>wpAny_Constant_int ⟨.int i,H,I.tok _,⟨_,rfl⟩,h⟩
theorem yj{b j pos}:PE X (.Constant (.bool b) j pos) (tC (.bl b)):=λ_ _ _ H _ I h=>Constant_bool ⟨.bl b,H,I,rfl,h⟩
theorem wx{j pos}:PE X (.Constant .none j pos) (tC .non):=λ_ _ _ H _ I h=>Constant_none ⟨.non,H,I,rfl,h⟩
noncomputable def Gl(X:Cx)(x:Str):Prop:=X.env.kindOf x=some .globalImplicit
theorem rT{E:Value->Shared->Prop}{pins:List (Addr×Obj)}{s:Shared}{σ:St}{H:Hp}{x:Str}{u:Value}{pos:Pos}{Q:Value->Shared->Prop}(I:Inv X pins σ H s)(hg:Gl X x)(hm:X.mg x=some u)(h:Q u s)
  (hd:autoParam ((x==("__debug__" :Str))=false) zD._auto_1):wpAny (model X.prog X.w) X.A (eval (.Name x pos) X.env) Q E s:=
 Calls.Name_function_global I.ok.kind hg (Calls.loadGlobal_global (by rw[I.ok.glob];exact I.mod.glob.keeps I.bk) hm h) hd
theorem jq{E:Value->Shared->Prop}{pins:List (Addr×Obj)}{s:Shared}{σ:St}{H:Hp}{x:Str}{u:Value}{pos:Pos}{Q:Value->Shared->Prop}(I:Inv X pins σ H s)(hg:Gl X x)(hm:X.mg x=none)(hv:bootBuiltins x=some u)(h:Q u s)
  (hn:autoParam (x≠ "__name__") zD._auto_1)(hd:autoParam ((x==("__debug__" :Str))=false) zD._auto_1):wpAny (model X.prog X.w) X.A (eval (.Name x pos) X.env) Q E s:=by
 obtain⟨mb,h1,h2⟩:=I.mod.blt
 exact Calls.Name_function_global I.ok.kind hg (Calls.loadGlobal_builtin (by rw[I.ok.glob];exact I.mod.glob.keeps I.bk) hm (by rw[I.ok.blt];exact h1.keeps I.bk) ((h2 x hn).trans hv) h) hd
theorem ER{x:Str}{v:V}{u:Value}{pos:Pos}(hg:Gl X x)(hm:X.mg x=some u)(r:RelV v u)(hd:autoParam ((x==("__debug__" :Str))=false) zD._auto_1):PE X (.Name x pos) (tC v):=
 λ_ _ _ H _ I h=>rT I hg hm ⟨v,H,I,r,h⟩ hd
theorem ES{x:Str}{v:V}{u:Value}{pos:Pos}(hg:Gl X x)(hm:X.mg x=none)(hv:bootBuiltins x=some u)(r:RelV v u)(hn:autoParam (x≠ "__name__") zD._auto_1)(hd:autoParam ((x==("__debug__" :Str))=false) zD._auto_1):PE X (.Name x pos) (tC v):=
 λ_ _ _ H _ I h=>jq I hg hm hv ⟨v,H,I,r,h⟩ hn hd
variable{a b:Expr}{ta tb:TE}{pos:Pos}
noncomputable def tB(t:TE):TT:=λσ H Q=>t σ H λx H1=>∃c,x=.bl c/\Q c H1
theorem HZ{e:Expr}{t:TE}(h:PE X e t)(he:autoParam (∀whole,isTrue e X.env whole=(do let v<-whole;standAt e.pos;holding [v] (truthy v))) zI._auto_1):PT X e (tB t):=by
 intro pins s σ H Q I hw
 refine isTrue_plain (dz (h pins s σ H _ I hw) λv s1 bW=>?_) (he _)
 obtain⟨x,H1,I1,r1,q1⟩:=bW
 obtain⟨d,rfl,q⟩:=q1
 cases r1
 exact wpAny_truthy_bool ⟨H1,I1,q⟩
variable{tA MT:TT}{rest:List Expr}
noncomputable def jr(t u:TT):TT:=λσ H Q=>t σ H λc H1=>if c=true then u σ H1 Q else Q false H1
noncomputable def qa(t u:TT):TT:=λσ H Q=>t σ H λc H1=>if c=true then Q true H1 else u σ H1 Q
noncomputable def js(t:TT):TT:=λσ H Q=>t σ H λc H1=>Q (!c) H1
theorem pw_and1(ha:PT X a tA):PW X (.BoolOp .And [a] pos) tA:=by
 intro wh pins s σ H Q I h
 refine isTrue_and (dz (ha pins s σ H Q I h) λc s1 e=>?_)
 cases c with
 |true=>exact isTrue_and_nil e
 |false=>exact e
theorem pw_or1(ha:PT X a tA):PW X (.BoolOp .Or [a] pos) tA:=by
 intro wh pins s σ H Q I h
 refine isTrue_or (dz (ha pins s σ H Q I h) λc s1 e=>?_)
 cases c with
 |false=>exact isTrue_or_nil e
 |true=>exact e
theorem pw_and(ha:PT X a tA)(hb:PW X (.BoolOp .And (b::rest) pos) MT):PW X (.BoolOp .And (a::b::rest) pos) (jr tA MT):=by
 intro wh pins s σ H Q I h
 refine isTrue_and (dz (ha pins s σ H _ I h) λc s1 ⟨H1,I1,q1⟩=>?_)
 cases c with
 |true=>exact hb wh pins s1 σ H1 Q I1 q1
 |false=>exact⟨H1,I1,q1⟩
theorem pw_or(ha:PT X a tA)(hb:PW X (.BoolOp .Or (b::rest) pos) MT):PW X (.BoolOp .Or (a::b::rest) pos) (qa tA MT):=by
 intro wh pins s σ H Q I h
 refine isTrue_or (dz (ha pins s σ H _ I h) λc s1 ⟨H1,I1,q1⟩=>?_)
 cases c with
 |true=>exact⟨H1,I1,q1⟩
 |false=>exact hb wh pins s1 σ H1 Q I1 q1
theorem H9(ha:PT X a tA):PT X (.UnaryOp .Not a pos) (js tA):=by
 intro pins s σ H Q I h
 exact isTrue_not (ha pins s σ H (λc H1=>Q (!c) H1) I h)
noncomputable def KN(ta tb:TE):TE:=λσ H Q=>ta σ H λx H1=>∃c,x=.bl c/\if c=true then tb σ H1 Q else Q (.bl false) H1
noncomputable def NB(ta tb:TE):TE:=λσ H Q=>ta σ H λx H1=>∃c,x=.bl c/\if c=true then Q (.bl true) H1 else tb σ H1 Q
noncomputable def KO(ta:TE):TE:=λσ H Q=>ta σ H λx H1=>∃c,x=.bl c/\Q (.bl (!c)) H1
theorem Ic{op}{t:TE}(h:PE X a t):PE X (.BoolOp op [a] pos) t:=λpins s σ H Q I hw=>BoolOp_one (h pins s σ H Q I hw)
theorem Ie(ha:PE X a ta)(hb:PE X (.BoolOp .And (b::rest) pos) tb):PE X (.BoolOp .And (a::b::rest) pos) (KN ta tb):=by
 intro pins s σ H Q I h
 refine BoolOp_and (dz (ha pins s σ H _ I h) λv s1 bW=>?_)
 obtain⟨x,H1,I1,r1,q1⟩:=bW
 obtain⟨c,rfl,q1⟩:=q1
 cases r1
 refine wpAny_truthy_bool ?_
 cases c with
 |true=>exact hb pins s1 σ H1 Q I1 q1
 |false=>exact⟨.bl false,H1,I1,rfl,q1⟩
theorem KP(ha:PE X a ta)(hb:PE X (.BoolOp .Or (b::rest) pos) tb):PE X (.BoolOp .Or (a::b::rest) pos) (NB ta tb):=by
 intro pins s σ H Q I h
 refine BoolOp_or (dz (ha pins s σ H _ I h) λv s1 bW=>?_)
 obtain⟨x,H1,I1,r1,q1⟩:=bW
 obtain⟨c,rfl,q1⟩:=q1
 cases r1
 refine wpAny_truthy_bool ?_
 cases c with
 |false=>exact hb pins s1 σ H1 Q I1 q1
 |true=>exact⟨.bl true,H1,I1,rfl,q1⟩
theorem Ig(ha:PE X a ta):PE X (.UnaryOp .Not a pos) (KO ta):=by
 intro pins s σ H Q I h
 refine UnaryOp_ (dz (ha pins s σ H _ I h) λv s1 bW=>?_)
 obtain⟨x,H1,I1,r1,q1⟩:=bW
 obtain⟨c,rfl,q1⟩:=q1
 cases r1
 exact not_of (wpAny_truthy_bool ⟨.bl (!c),H1,I1,rfl,q1⟩)
end
noncomputable def fQ(K:PySem.W.Frag)(H:Hp)(a:Addr)(xs:List V):Prop:=
 Rd H a (.lst xs)\/
  ∃(o:Obj) (its:Array Value) (n:Nat),K.lookup a=some o/\o.cls=.type "list" /\o.dict=none/\o.data=.seq its n/\its.size<=sizeLine/\Vals xs its.toList
noncomputable def pY(K:PySem.W.Frag)(H:Hp)(a:Addr)(xs:List V):Prop:=
 Rd H a (.tup xs)\/
  ∃(o:Obj) (its:Array Value) (n:Nat),K.lookup a=some o/\o.cls=.type "tuple" /\o.data=.seq its n/\(its.size<=sizeLine/\o.dict=none)/\Vals xs its.toList
noncomputable def NC:Value->Option V
 |.none=>some .non
 |.bool b=>some (.bl b)
 |.int i _=>some (.int i)
 |.str x _=>some (.str x)
 |.bytes b _=>some (.byt b)
 |.float b _=>some (.flt b)
 |.ref a=>some (.ref a)
 |.type n=>some (.ty n)
 |_=>none
theorem RelV.abs{x:V}{u:Value}(r:RelV x u):NC u=some x:=by
 cases x with
 |non=>cases r;rfl
 |bl _=>cases r;rfl
 |int _=>obtain⟨t,rfl⟩:=r;rfl
 |str _=>obtain⟨t,rfl⟩:=r;rfl
 |byt _=>obtain⟨t,rfl⟩:=r;rfl
 |flt _=>obtain⟨t,rfl⟩:=r;rfl
 |ref _=>cases r;rfl
 |ty _=>cases r;rfl
theorem RelV.inj{x y:V}{u:Value}(r:RelV x u)(q:RelV y u):x=y:=Option.some.inj (r.abs.symm.trans q.abs)
theorem Vals.inj:∀{xs ys:List V} {us:List Value},Vals xs us->Vals ys us->xs=ys
 |_,_,_,.nil,.nil=>rfl
 |_,_,_,.cons r t,.cons r' t'=>by rw[r.inj r',Vals.inj t t']
section
variable{X:Cx}{pins:List (Addr×Obj)}{σ:St}{H:Hp}{s:Shared}{a:Addr}{xs ys:List V}
theorem fQ.of{K:PySem.W.Frag}(h:H a=some (.lst xs)):fQ K H a xs:=.inl (.inl h)
theorem pY.of{K:PySem.W.Frag}(h:H a=some (.tup xs)):pY K H a xs:=.inl (.inl h)
theorem Inv.list(I:Inv X pins σ H s)(h:fQ X.K H a xs):∃its:List Value,Vals xs its/\PlainL s.heap a its.toArray/\xs.length<=sizeLine:=by
 rcases h with h|⟨o,its,n,hk,hc,hd,hs,hz,r⟩
 ·obtain⟨z,its,n,r,e⟩:=h.ok I.dR
  exact⟨its,r,⟨_,n,e,rfl,rfl,rfl⟩,z⟩
 ·refine⟨its.toList,r,⟨o,n,I.oi a o hk,hc,hd,by simpa using hs⟩,?_⟩
  have e:=r.length
  simp only[Array.length_toList]at e
  omega
theorem Inv.tuple(I:Inv X pins σ H s)(h:pY X.K H a xs):∃its:List Value,Vals xs its/\IsTup s.heap a its.toArray/\xs.length<=sizeLine:=by
 rcases h with h|⟨o,its,n,hk,hc,hs,hz,r⟩
 ·obtain⟨z,its,r,p⟩:=h.ok I.dR
  exact⟨its,r,p,z.1⟩
 ·refine⟨its.toList,r,⟨o,I.oi a o hk,hc,n,by simpa using hs⟩,?_⟩
  have e:=r.length
  simp only[Array.length_toList]at e
  omega
theorem MN.new{h:Heap}{its:Array Value}{n:Nat}:MN (h.push {cls:=.type "tuple",data:=.seq its n}) h.objs.size:=⟨_,Heap.get?_push_size _ rfl,rfl⟩
theorem Inv.jt(I:Inv X pins σ H s)(h:fQ X.K H a xs)(h':fQ X.K H a ys):xs=ys:=by
 obtain⟨its,r,⟨o,n,e,_,_,d⟩,_⟩:=I.list h
 obtain⟨its',r',⟨o',n',e',_,_,d'⟩,_⟩:=I.list h'
 rw[e]at e';cases e'
 rw[d]at d'
 injection d' with d1 _
 have:its=its':=by simpa using congrArg Array.toList d1
 subst this
 exact r.inj r'
end
noncomputable abbrev Cx.nH(X:Cx)(E:Value->Shared->Prop):Cx:={X with xe:=E}
noncomputable abbrev Cx.yk(X:Cx):Cx:=X.nH λ_ _=>False
theorem Cx.Ok.nH{X:Cx}(ok:X.Ok)(E:Value->Shared->Prop):(X.nH E).Ok:=
 ⟨ok.mod,ok.kind,ok.glob,ok.blt,ok.above,ok.inj,ok.has,ok.cab,ok.hd,ok.frames,ok.stk,ok.exf,ok.bs,ok.bsz,ok.noex,ok.exfs,ok.funs,ok.frf⟩
theorem Cx.Ok.ju{X:Cx}{E:Value->Shared->Prop}(ok:(X.nH E).Ok):X.Ok:=
 ⟨ok.mod,ok.kind,ok.glob,ok.blt,ok.above,ok.inj,ok.has,ok.cab,ok.hd,ok.frames,ok.stk,ok.exf,ok.bs,ok.bsz,ok.noex,ok.exfs,ok.funs,ok.frf⟩
section
variable{X:Cx}{pins:List (Addr×Obj)}{σ:St}{H:Hp}{s:Shared}{E:Value->Shared->Prop}
theorem Inv.nH(I:Inv X pins σ H s)(E:Value->Shared->Prop):Inv (X.nH E) pins σ H s:=⟨I.ok.nH E,I.os,I.bare,I.base,I.loc,I.cell,I.free,I.freeC,I.pin,I.dR,I.len⟩
theorem Inv.ju(I:Inv (X.nH E) pins σ H s):Inv X pins σ H s:=⟨I.ok.ju,I.os,I.bare,I.base,I.loc,I.cell,I.free,I.freeC,I.pin,I.dR,I.len⟩
theorem SP.ju{D:Ends}{f:Flow}{s':Shared}(h:SP (X.nH E) pins D f s'):SP X pins D f s':=by
 cases f with
 |next=>obtain⟨σ',H',I,q⟩:=h;exact⟨σ',H',I.ju,q⟩
 |brk=>obtain⟨σ',H',I,q⟩:=h;exact⟨σ',H',I.ju,q⟩
 |cont=>obtain⟨σ',H',I,q⟩:=h;exact⟨σ',H',I.ju,q⟩
 |ret u=>obtain⟨v,σ',H',I,r,q⟩:=h;exact⟨v,σ',H',I.ju,r,q⟩
theorem rS.yk{st:List Stmt}{t:TS}(h:rS X.yk st t):rS X st t:=λpins s σ H D I hw=>
 wpAny_mono (h pins s σ H D (I.nH _) hw) (λ_ _ q=>q.ju) λ_ _ z=>False.elim z
end
section
variable{X:Cx}{st:Stmt}{rest:List Stmt}{t u:TS}{e:Expr}{te:TE}{pos:Pos}
noncomputable def G5:TS:=λD σ H=>D.nx σ H
noncomputable def KQ(t u:TS):TS:=λD σ H=>t {D with nx:=u D} σ H
theorem rV:rS X [] G5:=λ_ _ σ H _ I h=>wpAny_execs_nil ⟨σ,H,I,h⟩
theorem dA(h1:PS X st t)(h2:rS X rest u):rS X (st::rest) (KQ t u):=by
 intro pins s σ H D I h
 refine wpAny_execs_cons (dz (h1 pins s σ H {D with nx:=u D} I h) λf s1 q=>?_)
 cases f with
 |next=>
  obtain⟨σ',H',I',q⟩:=q
  exact h2 pins s1 σ' H' D I' q
 |ret v=>exact q
 |brk=>exact q
 |cont=>exact q
theorem j6(h1:PS X st t):rS X [st] t:=by
 intro pins s σ H D I h
 refine wpAny_execs_cons (dz (h1 pins s σ H D I h) λf s1 q=>?_)
 cases f with
 |next=>exact wpAny_execs_nil q
 |ret v=>exact q
 |brk=>exact q
 |cont=>exact q
theorem Inv.quiet{pins:List (Addr×Obj)}{σ:St}{H:Hp}{s:Shared}(I:Inv X pins σ H s):interactive X.env=false:=by simp[interactive,I.ok.kind]
noncomputable def G6(te:TE):TS:=λD σ H=>te σ H λ_ H1=>D.nx σ H1
theorem j7(he:PE X e te)(hs:autoParam (swapsWith e none pos.line X.env=pure false) zR._auto_1):PS X (.Expr e pos) (G6 te):=by
 intro pins s σ H D I h
 exact wpAny_Expr_any (dz (he pins s σ H _ I h) λv s1 ⟨x,H1,I1,r1,q1⟩=>⟨σ,H1,I1,q1⟩) I.quiet hs
noncomputable def ND(te:TE):TS:=λD σ H=>te σ H D.rt
theorem oo(he:PE X e te):PS X (.Return (some e) pos) (ND te):=by
 intro pins s σ H D I h
 exact wpAny_Return_some (dz (he pins s σ H _ I h) λv s1 ⟨x,H1,I1,r1,q1⟩=>⟨x,σ,H1,I1,r1,q1⟩)
noncomputable def NF(c:TT)(t u:TS):TS:=λD σ H=>c σ H λb H1=>if b=true then t D σ H1 else u D σ H1
theorem Bz{c:Expr}{a b:List Stmt}{tc:TT}(hc:PT X c tc)(ha:rS X a t)(hb:rS X b u):PS X (.If c a b pos) (NF tc t u):=by
 intro pins s σ H D I h
 refine wpAny_If (dz (hc pins s σ H _ I h) λd s1 ⟨H1,I1,q1⟩=>?_)
 cases d with
 |true=>exact ha pins s1 σ H1 D I1 q1
 |false=>exact hb pins s1 σ H1 D I1 q1
end
noncomputable abbrev TG:=V->St->Hp->(St->Hp->Prop)->Prop
noncomputable abbrev Ih:=List V->St->Hp->(St->Hp->Prop)->Prop
noncomputable def PG(X:Cx)(target:Expr)(t:TG):Prop:=
 ∀(pins:List (Addr×Obj)) (s:Shared) (σ:St) (H:Hp) (v:V) (u:Value) (Q:St->Hp->Prop),Inv X pins σ H s->RelV v u->t v σ H Q->
  wpAny (model X.prog X.w) X.A (assign target X.env u) (λ_ s'=>∃σ' H',Inv X pins σ' H' s'/\Q σ' H') X.xe s
noncomputable def MU(X:Cx)(ts:List Expr)(t:Ih):Prop:=
 ∀(pins:List (Addr×Obj)) (s:Shared) (σ:St) (H:Hp) (vs:List V) (us:List Value) (Q:St->Hp->Prop),Inv X pins σ H s->Vals vs us->t vs σ H Q->
  wpAny (model X.prog X.w) X.A (assignInOrder ((assignEach ts X.env).map (·.2)) us) (λ_ s'=>∃σ' H',Inv X pins σ' H' s'/\Q σ' H') X.xe s
noncomputable abbrev Ii:=V->V->V->Hp->(Hp->Prop)->Prop
noncomputable def KR(X:Cx)(t:Ii):Prop:=
 ∀(pins:List (Addr×Obj)) (s:Shared) (σ:St) (H:Hp) (o i v:V) (ov iv u:Value) (Q:Hp->Prop),Inv X pins σ H s->RelV o ov->RelV i iv->RelV v u->t o i v H Q->
  wpAny (model X.prog X.w) X.A (setItem ov iv u) (λ_ s'=>∃H',Inv X pins σ H' s'/\Q H') X.xe s
section
variable{X:Cx}{pos:Pos}
noncomputable def G7(i:Nat):TG:=λv σ H Q=>Q (σ.set i (some v)) H
theorem j8{i:Nat}{x:Str}(hN:X.N.Nodup)(hi:X.N[i]?=some x)(hx:Loc X.env.scope x)(hf:X.fn x=true\/X.env.scope.names.lookup x=some .local:=by first|exact .inl rfl|exact .inr rfl|assumption):PG X (.Name x pos) (G7 i):=by
 intro pins s σ H v u Q I r h
 exact wpAny_assign_Name (oj I hN hi hx r (λs' I'=>⟨_,H,I',h⟩) hf)
noncomputable def NG:Ih:=λvs σ H Q=>vs=[]/\Q σ H
noncomputable def KS(t:TG)(u:Ih):Ih:=λvs σ H Q=>∃v r,vs=v::r/\t v σ H λσ' H'=>u r σ' H' Q
theorem rW:MU X [] NG:=by
 intro pins s σ H vs us Q I r h
 obtain⟨e,h⟩:=h
 subst e
 cases r
 exact assignInOrder_nil ⟨σ,H,I,h⟩
theorem iH{e:Expr}{es:List Expr}{t:TG}{u:Ih}(h1:PG X e t)(h2:MU X es u)
  (hs:autoParam ((assignEach (e::es) X.env).map (·.2)=assign e X.env::(assignEach es X.env).map (·.2)) zR._auto_1):MU X (e::es) (KS t u):=by
 intro pins s σ H vs us Q I r h
 obtain⟨v,vr,e1,h⟩:=h
 subst e1
 cases r with
 |cons r rr=>
  rw[hs]
  refine assignInOrder_cons (dz (h1 pins s σ H _ _ _ I r h) λ_ s1 bW=>?_)
  obtain⟨σ1,H1,I1,q1⟩:=bW
  exact h2 pins s1 σ1 H1 _ _ Q I1 rr q1
noncomputable def NH(K:PySem.W.Frag)(n:Nat)(t:Ih):TG:=λv σ H Q=>∃a xs,v=.ref a/\pY K H a xs/\xs.length=n/\t xs σ H Q
theorem wy{es:List Expr}{k:Nat}{t:Ih}{n:Nat}(hc:X.calm=true)(h:MU X es t)
  (hn:autoParam ((assignEach es X.env).length=n) zR._auto_1)(nI:autoParam ((assignEach es X.env).findIdx? (·.1)=none) zR._auto_1):PG X (.Tuple es k pos) (NH X.K n t):=by
 intro pins s σ H v u Q I r hw
 obtain⟨a,xs,e1,hq,hl,hw⟩:=hw
 subst e1
 cases r
 obtain⟨its,rv,ht,hz⟩:=I.tuple hq
 refine assign_Tuple_tuple (I.ok.hd hc) ht (by simp[hn,<-hl,rv.length]) nI λh' hx=>?_
 have I1:Inv X pins σ H {s with heap:=h'}:=I.kept (t':=s.toks) λb o e=>hx b o (Nat.ne_of_lt (Heap.lt_size e)) e
 exact h pins _ σ H xs _ Q I1 (by simpa using rv) hw
noncomputable def rX(to ti:TE)(t:Ii):TG:=λv σ H Q=>to σ H λo H1=>ti σ H1 λi H2=>t o i v H2 λH3=>Q σ H3
theorem BA{o i:Expr}{to ti:TE}{t:Ii}(ho:PE X o to)(hi:PE X i ti)(hs:KR X t)
  (ha:autoParam (∀v,assign (.Subscript o i pos) X.env v=(do
    let ov<-holding [v] (eval o X.env)
    let iv<-holding [v,ov] (eval i X.env)
    standAt pos
    holding [v,ov,iv] (setItem ov iv v)
    release [v,ov,iv] [])) zI._auto_1):PG X (.Subscript o i pos) (rX to ti t):=by
 intro pins s σ H v u Q I r h
 rw[ha]
 refine wpAny_bind (wpAny_holding (dz (ho pins s σ H _ I h) λov s1 bW=>?_))
 obtain⟨x,H1,I1,r1,q1⟩:=bW
 refine wpAny_bind (wpAny_holding (dz (hi pins s1 σ H1 _ I1 q1) λiv s2 bW=>?_))
 obtain⟨y,H2,I2,r2,q2⟩:=bW
 refine wpAny_bind (wpAny_standAt (wpAny_bind (wpAny_holding (dz (hs pins s2 σ H2 x y v ov iv u _ I2 r1 r2 r q2) λ_ s3 bW=>?_))))
 obtain⟨H3,I3,q3⟩:=bW
 exact wpAny_release ⟨σ,H3,I3,q3⟩
noncomputable def KU(te:TE)(g:TG):TS:=λD σ H=>te σ H λx H1=>g x σ H1 D.nx
theorem BB{tg e:Expr}{te:TE}{g:TG}(he:PE X e te)(hg:PG X tg g)(hs:autoParam (swapsWithSole [tg] e pos.line X.env=pure false) zR._auto_1)(hw:autoParam (swappedStores [tg] e X.env=pure none) zR._auto_1)
  (h1:autoParam ((assignEach [tg] X.env).map (·.2)=[assign tg X.env]) zR._auto_1):PS X (.Assign [tg] e pos) (KU te g):=by
 intro pins s σ H D I h
 refine wpAny_Assign_stores (dz (he pins s σ H _ I h) λv s1 bW=>?_) hs hw
 obtain⟨x,H1,I1,r1,q1⟩:=bW
 rw[h1]
 exact dz (hg pins s1 σ H1 x v _ I1 r1 q1) λ_ s2 q=>q
theorem oq{i:Nat}{x:Str}{e:Expr}{te:TE}{pos':Pos}(hN:X.N.Nodup)(hi:X.N[i]?=some x)(hx:Loc X.env.scope x)(he:PE X e te)(hs:autoParam (swapsWith e (some (.Name x pos')) pos.line X.env=pure false) zR._auto_1)(hf:X.fn x=true\/X.env.scope.names.lookup x=some .local:=by first|exact .inl rfl|exact .inr rfl|assumption):
  PS X (.Assign [.Name x pos'] e pos) (KU te (G7 i)):=by
 intro pins s σ H D I h
 refine wpAny_Assign_Name (dz (he pins s σ H _ I h) λv s1 bW=>?_) hs
 obtain⟨y,H1,I1,r1,q1⟩:=bW
 exact oj I1 hN hi hx r1 (λs2 I2=>⟨_,H1,I2,q1⟩) hf
end
section
variable{X:Cx}{pos:Pos}
noncomputable def Ij(c:TT)(tb:TS):TS:=λD σ H=>∃W:Nat->St->Hp->Prop,(∃m,W m σ H)/\∀m σ H,W m σ H->
 c σ H λb H1=>if b=true then∃N:St->Hp->Prop,(∀σ' H',N σ' H'->∃m',m'<m/\W m' σ' H')/\tb {D with nx:=N,ct:=N,bk:=D.nx} σ H1 else D.nx σ H1
theorem uC{c:Expr}{body:List Stmt}{tc:TT}{tb:TS}(hp:PassesOwn (model X.prog X.w) X.A X.env X.xe)(hc:PT X c tc)(hb:rS X body tb):PS X (.While c body [] pos) (Ij tc tb):=by
 intro pins s σ H D I h
 obtain⟨W,⟨m0,w0⟩,turn⟩:=h
 refine wpAny_While (codeAny_whileLoop (λn s'=>∃σ' H',Inv X pins σ' H' s'/\W n σ' H') ?_ m0 ⟨σ,H,I,w0⟩)
 rintro n s1 ⟨σ1,H1,I1,w1⟩
 refine wpAny_passesOwn hp (dz (hc pins s1 σ1 H1 _ I1 (turn n σ1 H1 w1)) λb s2 ⟨H2,I2,q2⟩=>?_)
 cases b with
 |true=>
  obtain⟨N,hN,q2⟩:=q2
  rw[if_pos rfl]
  refine wpAny_passesOwn hp (dz (hb pins s2 σ1 H2 _ I2 q2) λf s3 q3=>?_)
  cases f with
  |next=>
   obtain⟨σ3,H3,I3,n3⟩:=q3
   obtain⟨m',hm,w3⟩:=hN σ3 H3 n3
   exact⟨m',hm,σ3,H3,I3,w3⟩
  |cont=>
   obtain⟨σ3,H3,I3,n3⟩:=q3
   obtain⟨m',hm,w3⟩:=hN σ3 H3 n3
   exact⟨m',hm,σ3,H3,I3,w3⟩
  |brk=>exact q3
  |ret v=>exact q3
 |false=>
  rw[if_neg Bool.false_ne_true]
  exact wpAny_execs_nil ⟨σ1,H2,I2,q2⟩
end
structure It where
 go:Nat->Hp->Prop
 yld:Nat->Hp->V->Hp->Prop
 stop:Nat->Hp->Prop
noncomputable def jv(X:Cx)(pins:List (Addr×Obj))(H:Hp)(b:Addr):Prop:=
 H b=none/\b≠X.env.locals/\b∉X.fs/\(b∈X.ex\/X.s₀.heap.objs.size<=b)/\(∀x c,X.env.cells.lookup x=some c->c≠b)/\∀p∈X.pn++pins,p.1≠b
theorem Inv.ET{X:Cx}{pins:List (Addr×Obj)}{σ:St}{H H':Hp}{s:Shared}{b:Addr}(I:Inv X pins σ H s)(hb:s.heap.objs.size<=b)(hn:H' b=none):jv X pins H' b:=by
 refine⟨hn,Nat.ne_of_gt (Nat.lt_of_lt_of_le I.lt hb),I.zU hb,.inr (Nat.le_trans I.sz hb),λx c e z=>?_,λp hp z=>?_⟩
 ·obtain⟨v,q⟩:=I.cell x c e
  exact absurd (Nat.lt_of_lt_of_le q.lt (by rw[z];exact hb)) (Nat.lt_irrefl _)
 ·exact absurd (Nat.lt_of_lt_of_le (Heap.lt_size (I.pin p hp).1) (by rw[z];exact hb)) (Nat.lt_irrefl _)
structure Turn(P:Program)(w:World)(K:PySem.W.Frag)(tg:Expr)(J:It)(fp:List Addr)(it:Addr)(tn:Nat->Heap->Prop):Prop where
 mem:it∈fp
 obj:∀i h,tn i h->∀b∈fp,∃o,h.get? b=some o/\∀v,o.data≠.cell v
 keep:∀i h h',tn i h->(∀b∈fp,∀o,h.get? b=some o->h'.get? b=some o)->tn i h'
 item:∀(X:Cx),X.prog=P->X.w=w->X.K=K->X.calm=true->∀(i:Nat) (pins:List (Addr×Obj)) (s:Shared) (σ:St) (H:Hp) (E:Value->Shared->Prop),Inv X pins σ H s->(∀b∈fp,jv X pins H b)->tn i s.heap->J.go i H->
  wpAny (model P w) X.A (pyNext (.ref it)) (λr s1=>∃u,r=some u/\
   wpAny (model P w) X.A (letOwnedTupleGo tg (.ref it) u) (λ_ s2=>∃x H',Inv X pins σ H' s2/\RelV x u/\J.yld i H x H'/\tn (i+1) s2.heap/\∀b∈fp,H' b=none) E s1) E s
 done:∀(X:Cx),X.prog=P->X.w=w->X.K=K->X.calm=true->∀(i:Nat) (pins:List (Addr×Obj)) (s:Shared) (σ:St) (H:Hp) (E:Value->Shared->Prop),Inv X pins σ H s->(∀b∈fp,jv X pins H b)->tn i s.heap->J.stop i H->
  wpAny (model P w) X.A (pyNext (.ref it)) (λr s1=>r=none/\Inv X pins σ H s1) E s
 self:∀(A:Around) (i:Nat) (s:Shared) (Q:Value->Shared->Prop) (E:Value->Shared->Prop),tn i s.heap->Q (.ref it) s->wpAny (model P w) A (pyIter (.ref it)) Q E s
noncomputable abbrev TI:=St->Hp->(It->Hp->Prop)->Prop
noncomputable def Pl(X:Cx)(pins:List (Addr×Obj))(σ:St)(tg:Expr)(R:It->Hp->Prop)(Ko:Value)(s2:Shared):Prop:=
 ∃(it:Addr) (fp:List Addr) (tn:Nat->Heap->Prop) (J:It) (H':Hp),Ko=.ref it/\Inv X pins σ H' s2/\Turn X.prog X.w X.K tg J fp it tn/\tn 0 s2.heap/\(∀b∈fp,jv X pins H' b)/\R J H'
noncomputable def PI(X:Cx)(tg iter:Expr)(wi:TI):Prop:=
 ∀(pins:List (Addr×Obj)) (s:Shared) (σ:St) (H:Hp) (R:It->Hp->Prop),Inv X pins σ H s->wi σ H R->
  wpAny (model X.prog X.w) X.A (eval iter X.env) (λv s1=>wpAny (model X.prog X.w) X.A (pyIter v) (Pl X pins σ tg R) X.xe s1) X.xe s
theorem G8{M:Model}{A:Around}{E:Value->Shared->Prop}{s:Shared}{tg:Expr}{it:Addr}{u:Value}{o:Obj}{n:String}{vs:Array Value}{Q:Unit->Shared->Prop}(ho:s.heap.get? it=some o)(hc:o.cls=.type n)(hd:o.data=.fields vs)
  (hn:["enumerate","zip","dict_itemiterator","dict_reverseitemiterator","odict_iterator","itertools.zip_longest","itertools.pairwise"].contains n=false)(hQ:Q () s):wpAny M A (letOwnedTupleGo tg (.ref it) u) Q E s:=by
 unfold letOwnedTupleGo
 cases tg<;>first
  |exact wpAny_pure hQ
  |(cases u<;>first
     |exact wpAny_pure hQ
     |(refine wpAny_bind (wpAny_load ho ?_)
       rw[hc,hd]
       show wpAny M A (if(["enumerate","zip","dict_itemiterator","dict_reverseitemiterator","odict_iterator","itertools.zip_longest","itertools.pairwise"].contains n&&vs[0]?==some (rawInt _))=true then _ else _) Q E s
       rw[if_neg (by intro h;rw[hn,Bool.false_and]at h;cases h)]
       exact wpAny_pure hQ))
noncomputable def NI(K:PySem.W.Frag)(a:Addr):It:=
 ⟨λi H=>∃xs x,fQ K H a xs/\xs[i]?=some x,λi H x H'=>H'=H/\∀xs,fQ K H a xs->xs[i]?=some x,λi H=>∃xs,fQ K H a xs/\xs.length<=i⟩
noncomputable def G9(lo:Int)(n:Nat):It:=⟨λi _=>i<n,λi H x H'=>H'=H/\x=.int (lo+i),λi _=>n<=i⟩
theorem zW{P:Program}{w:World}{K:PySem.W.Frag}{tg:Expr}(a it:Addr):Turn P w K tg (NI K a) [it] it (λi h=>h.IsListIter it a i) where
 mem:=by simp
 obj:=λi h st b hb=>by
  have e:b=it:=by simpa using hb
  subst e
  obtain⟨o,e,c,d⟩:=st
  exact⟨o,e,λv z=>by rw[d]at z;cases z⟩
 keep:=λi h h' st k=>st.at λo e=>k it (by simp) o e
 item:=by
  intro X hP hw hK hc i pins s σ H E I hf st hg
  subst hP hw hK
  obtain⟨xs,x,hq,hx⟩:=hg
  obtain⟨its,rv,p,hz⟩:=I.list hq
  obtain⟨u,hu,ru⟩:=rv.get hx
  obtain⟨f0,f1,f2,f3,f4,f5⟩:=hf it (by simp)
  refine wpAny_pyNext_list_item st p.isList (x:=u) (by simpa using hu) λh' aP sb=>?_
  have I1:Inv X pins σ H {s with heap:=h'}:=I.turned (t':=s.toks) (λb o hb e=>(sb.2 b hb).trans e) f0 f1 f3 f4 f5
  obtain⟨o,e,c,d⟩:=id aP
  exact⟨u,rfl,G8 (s:={s with heap:=h'}) e c d (by decide) ⟨x,H,I1,ru,⟨rfl,λys hy=>by rw[I.jt hy hq];exact hx⟩,aP,λb hb=>(hf b hb).1⟩⟩
 done:=by
  intro X hP hw hK hc i pins s σ H E I hf st hg
  subst hP hw hK
  obtain⟨xs,hq,hx⟩:=hg
  obtain⟨its,rv,p,hz⟩:=I.list hq
  obtain⟨f0,f1,f2,f3,f4,f5⟩:=hf it (by simp)
  have hl:=rv.length
  exact wpAny_pyNext_list_end (I.ok.hd hc) st p.isList (by simp;omega) λh' eb=>⟨rfl,I.turned (t':=s.toks) (λb o hb e=>eb b o hb e) f0 f1 f3 f4 f5⟩
 self:=λ_ _ _ _ _ st h=>wpAny_pyIter_listiter st h
theorem wz{P:Program}{w:World}{K:PySem.W.Frag}{tg:Expr}(it:Addr)(lo:Int)(n:Nat):Turn P w K tg (G9 lo n) [it] it (λi h=>IsRangeIter h it (lo+(i:Nat)*1) ((n:Int)-(i:Nat)) 1) where
 mem:=by simp
 obj:=λi h st b hb=>by
  have e:b=it:=by simpa using hb
  subst e
  exact⟨_,st,λv z=>by
   have z':Data.fields _=Data.cell v:=z
   cases z'⟩
 keep:=λi h h' st k=>k it (by simp) _ st
 item:=by
  intro X hP hw hK hc i pins s σ H E I hf st hg
  subst hP hw hK
  obtain⟨f0,f1,f2,f3,f4,f5⟩:=hf it (by simp)
  have W:=Walks.range (prog:=X.prog) (w:=X.w) (I.ok.hd hc) it lo 1 n
  refine W.item i s _ _ hg st λv h' tk hv aP kk=>?_
  obtain⟨t,rfl⟩:=hv
  have I1:Inv X pins σ H {s with heap:=h',toks:=tk}:=I.turned (λb o hb e=>kk b o (by simpa using hb) e) f0 f1 f3 f4 f5
  refine⟨_,rfl,G8 (s:={s with heap:=h',toks:=tk}) (n:= "range_iterator") aP rfl rfl (by decide) ⟨.int (lo+i),H,I1,⟨t,?_⟩,⟨rfl,rfl⟩,aP,λb hb=>(hf b hb).1⟩⟩
  rw[Int.mul_one]
 done:=by
  intro X hP hw hK hc i pins s σ H E I hf st hg
  subst hP hw hK
  obtain⟨f0,f1,f2,f3,f4,f5⟩:=hf it (by simp)
  exact wpAny_pyNext_range_end (I.ok.hd hc) st (by have:n<=i:=hg;omega) λh' eb=>⟨rfl,I.turned (t':=s.toks) (λb o hb e=>eb b o hb e) f0 f1 f3 f4 f5⟩
 self:=λ_ _ _ _ _ st h=>wpAny_pyIter_rangeiter st h
section
variable{X:Cx}{tg:Expr}
noncomputable def KW(K:PySem.W.Frag)(tl:TE):TI:=λσ H R=>tl σ H λx H1=>∃a,x=.ref a/\(∃xs,fQ K H1 a xs)/\R (NI K a) H1
theorem ym{l:Expr}{tl:TE}(hl:PE X l tl):PI X tg l (KW X.K tl):=by
 intro pins s σ H R I h
 refine dz (hl pins s σ H _ I h) λv s1 bW=>?_
 obtain⟨x,H1,I1,r1,q1⟩:=bW
 obtain⟨a,e,⟨xs,hq⟩,q⟩:=q1
 subst e
 cases r1
 obtain⟨its,rv,p,hz⟩:=I1.list hq
 refine wpAny_pyIter_list p.isList ?_
 refine⟨s1.heap.objs.size,[s1.heap.objs.size],_,_,H1,rfl,I1.kept (t':=s1.toks) λb o e=>Heap.get?_push_of_some _ e,zW a _,⟨_,Heap.get?_push_size _ rfl,rfl,rfl⟩,λb hb=>?_,q⟩
 have e:b=s1.heap.objs.size:=by simpa using hb
 subst e
 exact I1.ET (Nat.le_refl _) (I1.dR.fresh (Nat.le_refl _))
theorem BC{pins:List (Addr×Obj)}{σ:St}{H:Hp}{s:Shared}{R:It->Hp->Prop}{E:Value->Shared->Prop}{lo hi:Int}{t u v:Tok}{tk:Nat}(I:Inv X pins σ H s)(h1:-(2^62)<=lo)(h2:lo<2^62)(h3:-(2^62)<=hi)(h4:hi<2^62)
  (q:R (G9 lo (hi-lo).toNat) H):wpAny (model X.prog X.w) X.A (pyIter (.ref s.heap.objs.size)) (Pl X pins σ tg R) E {s with heap:=s.heap.push {cls:=.type "range",data:=.fields #[.int lo t,.int hi u,.int 1 v]},toks:=tk}:=by
 refine wpAny_pyIter_range (IsRange.new ..) (small_one h1 h2 h3 h4) ?_
 have I1:Inv X pins σ H {s with heap:=s.heap.push {cls:=.type "range",data:=.fields #[.int lo t,.int hi u,.int 1 v]},toks:=tk}:=I.kept λb o e=>Heap.get?_push_of_some _ e
 refine⟨(s.heap.push {cls:=.type "range",data:=.fields #[.int lo t,.int hi u,.int 1 v]}).objs.size,[(s.heap.push {cls:=.type "range",data:=.fields #[.int lo t,.int hi u,.int 1 v]}).objs.size],_,_,H,rfl,
  I1.kept (t':=tk) λb o e=>Heap.get?_push_of_some _ e,wz _ lo (hi-lo).toNat,?_,λb hb=>?_,q⟩
 ·have e1:lo+((0:Nat):Int)*1=lo:=by simp
  have e2:(((hi-lo).toNat:Nat):Int)-((0:Nat):Int)=Builtin.Range.rangeSize lo hi 1:=by rw[rangeSize_one];split<;>omega
  show IsRangeIter _ _ (lo+((0:Nat):Int)*1) ((((hi-lo).toNat:Nat):Int)-((0:Nat):Int)) 1
  rw[e1,e2]
  exact Heap.get?_push_size _ rfl
 ·have e:b=(s.heap.push {cls:=.type "range",data:=.fields #[.int lo t,.int hi u,.int 1 v]}).objs.size:=by simpa using hb
  subst e
  exact I1.ET (Nat.le_refl _) (I1.dR.fresh (Nat.le_refl _))
noncomputable def Ha(ta:TA):TI:=λσ H R=>ta σ H λvs H1=>∃j:Int,vs=[.int j]/\-(2^62)<=j/\j<2^62/\R (G9 0 j.toNat) H1
theorem mj{a:Expr}{ta:TA}{p pos:Pos}(hg:Gl X "range")(hm:X.mg "range" =none)(ha:PA X [a] ta)(hs:autoParam (starEach [a] X.env=[(false,eval a X.env)]) zR._auto_1):PI X tg (.Call (.Name "range" p) [a] [] pos) (Ha ta):=by
 intro pins s σ H R I h
 refine Call_ (jq I hg hm boot_range (PyProof.Rows.callWith_type1 (dz (ha pos pins s σ H _ I h) λus s1 bW=>?_) hs rfl))
 obtain⟨vs,H1,I1,r1,q1⟩:=bW
 obtain⟨j,e,q1,q2,q⟩:=q1
 subst e
 cases r1 with
 |cons r rr=>
  cases rr
  obtain⟨t,rfl⟩:=r
  exact call_range_1 (BC I1 (by omega) (by omega) q1 q2 (by simpa using q))
noncomputable def NJ(wi:TI)(g:TG)(tb:TS):TS:=λD σ H=>wi σ H λJ H1=>∃W:Nat->Nat->St->Hp->Prop,(∃m,W 0 m σ H1)/\∀i m σ H,W i m σ H->
 (J.stop i H/\D.nx σ H)\/(J.go i H/\∃N:St->Hp->Prop,(∀σ' H',N σ' H'->∃m',m'<m/\W (i+1) m' σ' H')/\∀x H',J.yld i H x H'->g x σ H' λσ2 H2=>tb {D with nx:=N,ct:=N,bk:=D.nx} σ2 H2)
noncomputable def eT(fp:List Addr)(h:Heap):List (Addr×Obj):=fp.filterMap λb=>(h.get? b).map λo=>(b,o)
theorem fG{fp:List Addr}{h:Heap}{b:Addr}{o:Obj}(hb:b∈fp)(e:h.get? b=some o):(b,o)∈eT fp h:=List.mem_filterMap.mpr ⟨b,hb,by rw[e];rfl⟩
theorem mn{fp:List Addr}{h:Heap}{p:Addr×Obj}(hp:p∈eT fp h):p.1∈fp/\h.get? p.1=some p.2:=by
 obtain⟨b,hb,e⟩:=List.mem_filterMap.mp hp
 cases q:h.get? b with
 |none=>rw[q]at e;cases e
 |some o=>
  rw[q]at e
  have e':(b,o)=p:=Option.some.inj e
  subst e'
  exact⟨hb,q⟩
theorem Inv.pinned{pins:List (Addr×Obj)}{σ:St}{H:Hp}{s:Shared}{fp:List Addr}(I:Inv X pins σ H s)(hf:∀b∈fp,jv X pins H b)(ho:∀b∈fp,∃o,s.heap.get? b=some o/\∀v,o.data≠.cell v):Inv X (pins++eT fp s.heap) σ H s:=
 I.dZ λp hp=>(List.mem_append.mp hp).elim (λz=>I.pin p (List.mem_append_right _ z)) λz=>by
  obtain⟨hb,e⟩:=mn z
  obtain⟨f0,f1,f2,_⟩:=hf p.1 hb
  obtain⟨o,e',d⟩:=ho p.1 hb
  rw[e]at e';cases e'
  exact⟨e,f0,f1,f2,d⟩
theorem Inv.lB{pins pl:List (Addr×Obj)}{σ:St}{H:Hp}{s:Shared}(I:Inv X (pins++pl) σ H s):Inv X pins σ H s:=I.dZ λp hp=>I.pin p (List.mem_append_right _ (List.mem_append_left _ hp))
theorem wA{iter:Expr}{body:List Stmt}{wi:TI}{g:TG}{tb:TS}{pos:Pos}(hp:PassesOwn (model X.prog X.w) X.A X.env X.xe)(hc:X.calm=true)(hi:PI X tg iter wi)(hg:PG X tg g)(hb:rS X body tb)
  (hs:autoParam (∀x,foldedSetIterable iter X.env x=pure x) zI._auto_1):PS X (.For tg iter body [] pos) (NJ wi g tb):=by
 intro pins s σ H D I h
 refine wpAny_For (dz (hi pins s σ H _ I h) λv s1 h1=>dz h1 λKo s2 h2=>?_) hs
 obtain⟨it,fp,tn,J,H2,e,I2,T,bL,f2,W,⟨m0,w0⟩,turn⟩:=h2
 subst e
 have Ik:∀{H':Hp},(∀b∈fp,H' b=none)->∀b∈fp,jv X pins H' b:=λhn b hb=>⟨hn b hb,(f2 b hb).2⟩
 refine codeAny_forLoop_any (λn s'=>∃i σ' H',Inv X pins σ' H' s'/\tn i s'.heap/\(∀b∈fp,H' b=none)/\W i n σ' H') ?_ m0 ⟨0,σ,H2,I2,bL,λb hb=>(f2 b hb).1,w0⟩
 rintro n s3 ⟨i,σ3,H3,I3,pZ,Pm,w3⟩
 rcases turn i n σ3 H3 w3 with⟨stop,qn⟩|⟨go,N,hN,step⟩
 ·refine wpAny_passesOwn hp (dz (T.done X rfl rfl rfl hc i pins s3 σ3 H3 X.xe I3 (Ik Pm) pZ stop) λr s4 ⟨hr,I4⟩=>?_)
  subst hr
  exact wpAny_execs_nil ⟨σ3,H3,I4,qn⟩
 ·refine wpAny_passesOwn hp (dz (T.item X rfl rfl rfl hc i pins s3 σ3 H3 X.xe I3 (Ik Pm) pZ go) λr s4 bW=>?_)
  obtain⟨u,hr,h4⟩:=bW
  subst hr
  refine wpAny_passesOwn hp (dz h4 λ_ s5 bW=>?_)
  obtain⟨x,H5,I5,r5,y5,iu,KY⟩:=bW
  have KZ:=I5.pinned (Ik KY) (T.obj _ _ iu)
  refine wpAny_passesOwn hp (dz (hg _ s5 σ3 H5 x u _ KZ r5 (step x H5 y5)) λ_ s6 bW=>?_)
  obtain⟨σ6,H6,I6,q6⟩:=bW
  refine wpAny_passesOwn hp (dz (hb _ s6 σ6 H6 _ I6 q6) λf s7 q7=>?_)
  have again:∀{σ7:St} {H7:Hp},Inv X (pins++eT fp s5.heap) σ7 H7 s7->N σ7 H7->∃m,m<n/\∃i σ' H',Inv X pins σ' H' s7/\tn i s7.heap/\(∀b∈fp,H' b=none)/\W i m σ' H':=λ{σ7 H7} I7 n7=>by
   obtain⟨m',hm,w7⟩:=hN σ7 H7 n7
   refine⟨m',hm,i+1,σ7,H7,I7.lB,T.keep _ _ _ iu λb hb o e=>(I7.pin (b,o) (List.mem_append_right _ (List.mem_append_right _ (fG hb e)))).1,λb hb=>?_,w7⟩
   obtain⟨o,e,d⟩:=T.obj _ _ iu b hb
   exact(I7.pin (b,o) (List.mem_append_right _ (List.mem_append_right _ (fG hb e)))).2.1
  cases f with
  |next=>obtain⟨σ7,H7,I7,n7⟩:=q7;exact again I7 n7
  |cont=>obtain⟨σ7,H7,I7,n7⟩:=q7;exact again I7 n7
  |brk=>obtain⟨σ7,H7,I7,q7⟩:=q7;exact⟨σ7,H7,I7.lB,q7⟩
  |ret v=>obtain⟨x7,σ7,H7,I7,r7,q7⟩:=q7;exact⟨x7,σ7,H7,I7.lB,r7,q7⟩
end
theorem zX{lo:Int}{n:Nat}{g:TG}{tb:TS}{D:Ends}{σ:St}{H:Hp}(Pv:Nat->St->Hp->Prop)(h0:Pv 0 σ H)
  (hs:∀i σ H,i<n->Pv i σ H->g (.int (lo+i)) σ H λσ2 H2=>tb {D with nx:=Pv (i+1),ct:=Pv (i+1),bk:=D.nx} σ2 H2)(hd:∀σ H,Pv n σ H->D.nx σ H):
  ∃W:Nat->Nat->St->Hp->Prop,(∃m,W 0 m σ H)/\∀i m σ H,W i m σ H->
   ((G9 lo n).stop i H/\D.nx σ H)\/((G9 lo n).go i H/\∃N:St->Hp->Prop,(∀σ' H',N σ' H'->∃m',m'<m/\W (i+1) m' σ' H')/\∀x H',(G9 lo n).yld i H x H'->g x σ H' λσ2 H2=>tb {D with nx:=N,ct:=N,bk:=D.nx} σ2 H2):=by
 refine⟨λi m σ H=>m=n-i/\i<=n/\Pv i σ H,⟨n,by simp,Nat.zero_le _,h0⟩,?_⟩
 rintro i m σ H ⟨rfl,hi,p⟩
 by_cases eS:i<n
 ·refine .inr ⟨eS,Pv (i+1),λσ' H' p'=>⟨n-(i+1),by omega,rfl,eS,p'⟩,λx H' y=>?_⟩
  obtain⟨e,y⟩:=y
  subst e y
  exact hs i σ _ eS p
 ·have e:i=n:=by omega
  subst e
  exact .inl ⟨Nat.le_refl _,hd σ H p⟩
noncomputable abbrev R2:=V->V->Hp->VK->Prop
noncomputable def jw(X:Cx)(f:Value->Value->Sem Value)(r:R2):Prop:=
 ∀(pins:List (Addr×Obj)) (s:Shared) (σ:St) (H:Hp) (x y:V) (v u:Value) (Q:VK),Inv X pins σ H s->RelV x v->RelV y u->r x y H Q->
  wpAny (model X.prog X.w) X.A (f v u) (EP X pins σ Q) X.xe s
noncomputable def NK(X:Cx)(f:Value->Sem Value)(r:V->Hp->VK->Prop):Prop:=
 ∀(pins:List (Addr×Obj)) (s:Shared) (σ:St) (H:Hp) (x:V) (v:Value) (Q:VK),Inv X pins σ H s->RelV x v->r x H Q->
  wpAny (model X.prog X.w) X.A (f v) (EP X pins σ Q) X.xe s
noncomputable def gH(X:Cx)(f:Value)(r:List V->Hp->VK->Prop):Prop:=
 ∀(pins:List (Addr×Obj)) (s:Shared) (σ:St) (H:Hp) (xs:List V) (us:List Value) (Q:VK),Inv X pins σ H s->Vals xs us->r xs H Q->
  wpAny (model X.prog X.w) X.A (call f us) (EP X pins σ Q) X.xe s
noncomputable def K5(r:R2)(ta tb:TE):TE:=λσ H Q=>ta σ H λx H1=>tb σ H1 λy H2=>r x y H2 Q
noncomputable def Qz(r:V->Hp->VK->Prop)(ta:TE):TE:=λσ H Q=>ta σ H λx H1=>r x H1 Q
noncomputable def rI(C:Int->Int->Prop)(g:Int->Int->V):R2:=λx y H Q=>∃i j,x=.int i/\y=.int j/\C i j/\Q (g i j) H
noncomputable def EA(g:Int->Int->V):R2:=λx y H Q=>∃i j,x=.int i/\y=.int j/\Q (g i j) H
noncomputable def rU(g:Int->V):V->Hp->VK->Prop:=λx H Q=>∃i,x=.int i/\Q (g i) H
section
variable{X:Cx}{a b c:Expr}{ta tb tc:TE}{pos:Pos}
theorem Il(ha:PE X a ta)(hb:PE X b tb){pins:List (Addr×Obj)}{s:Shared}{σ:St}{H:Hp}{R:V->V->Hp->Prop}(I:Inv X pins σ H s)
  (h:ta σ H λx H1=>tb σ H1 λy H2=>R x y H2){Q:Value->Shared->Prop}{f:Value->Value->Sem Value}
  (hf:∀v u s2 x y H2,Inv X pins σ H2 s2->RelV x v->RelV y u->R x y H2->wpAny (model X.prog X.w) X.A (f v u) Q X.xe s2):
  wpAny (model X.prog X.w) X.A (eval a X.env) (λv s₁=>wpAny (model X.prog X.w) X.A (eval b X.env) (λu s₂=>wpAny (model X.prog X.w) X.A (f v u) Q X.xe s₂) X.xe s₁) X.xe s:=by
 refine dz (ha pins s σ H _ I h) λv s1 bW=>?_
 obtain⟨x,H1,I1,r1,q1⟩:=bW
 refine dz (hb pins s1 σ H1 _ I1 q1) λu s2 bW=>?_
 obtain⟨y,H2,I2,r2,q2⟩:=bW
 exact hf v u s2 x y H2 I2 r1 r2 q2
theorem BD{op:Operator}{r:R2}(ho:jw X (binaryOp op) r)(ha:PE X a ta)(hb:PE X b tb):PE X (.BinOp a op b pos) (K5 r ta tb):=by
 intro pins s σ H Q I h
 exact wpAny_BinOp (Il ha hb I h λv u s2 x y H2 I2 rx ry q=>ho pins s2 σ H2 x y v u Q I2 rx ry q)
theorem K7{op:UnaryOp}{r:V->Hp->VK->Prop}(ho:NK X (unaryOp op) r)(ha:PE X a ta):PE X (.UnaryOp op a pos) (Qz r ta):=by
 intro pins s σ H Q I h
 exact UnaryOp_ (dz (ha pins s σ H _ I h) λv s1 ⟨x,H1,I1,r1,q1⟩=>ho pins s1 σ H1 x v Q I1 r1 q1)
theorem Kq{f:Value->Value->Sem Value}{C:Int->Int->Prop}{g:Int->Int->Int}
  (rule:∀(i j:Int) (t u:Tok) (s:Shared) (Q:Value->Shared->Prop) (E:Value->Shared->Prop),C i j->Q (.int (g i j) s.toks) {s with toks:=s.toks+1}->wpAny (model X.prog X.w) X.A (f (.int i t) (.int j u)) Q E s):
  jw X f (rI C λi j=>.int (g i j)):=by
 intro pins s σ H x y v u Q I rx ry h
 obtain⟨i,j,rfl,rfl,hc,q⟩:=h
 obtain⟨t,rfl⟩:=rx
 obtain⟨t',rfl⟩:=ry
 exact rule i j t t' s _ _ hc ⟨.int (g i j),H,I.tok _,⟨_,rfl⟩,q⟩
theorem Im{f:Value->Value->Sem Value}{g:Int->Int->Int}
  (rule:∀(i j:Int) (t u:Tok) (s:Shared) (Q:Value->Shared->Prop) (E:Value->Shared->Prop),Q (.int (g i j) s.toks) {s with toks:=s.toks+1}->wpAny (model X.prog X.w) X.A (f (.int i t) (.int j u)) Q E s):
  jw X f (EA λi j=>.int (g i j)):=by
 intro pins s σ H x y v u Q I rx ry h
 obtain⟨i,j,rfl,rfl,q⟩:=h
 obtain⟨t,rfl⟩:=rx
 obtain⟨t',rfl⟩:=ry
 exact rule i j t t' s _ _ ⟨.int (g i j),H,I.tok _,⟨_,rfl⟩,q⟩
theorem Ip{f:Value->Value->Sem Value}{g:Int->Int->Bool}
  (rule:∀(i j:Int) (t u:Tok) (s:Shared) (Q:Value->Shared->Prop) (E:Value->Shared->Prop),Q (.bool (g i j)) s->wpAny (model X.prog X.w) X.A (f (.int i t) (.int j u)) Q E s):
  jw X f (EA λi j=>.bl (g i j)):=by
 intro pins s σ H x y v u Q I rx ry h
 obtain⟨i,j,rfl,rfl,q⟩:=h
 obtain⟨t,rfl⟩:=rx
 obtain⟨t',rfl⟩:=ry
 exact rule i j t t' s _ _ ⟨.bl (g i j),H,I,rfl,q⟩
noncomputable def NL(i j:Int):Prop:=0<j/\j<1073741824
noncomputable def K8(i j:Int):Prop:=0<=j/\j<=1000000/\i.natAbs<2^64
noncomputable def Iq(i j:Int):Prop:=(-(2^64)<i/\i<2^64)\/(-(2^64)<j/\j<2^64)
theorem Iq.ok{i j:Int}(h:Iq i j):IntMulOk i j:=by
 rcases h with⟨h1,h2⟩|⟨h1,h2⟩
 ·exact .of_left (intBits_le_64 h1 h2)
 ·exact .of_right (intBits_le_64 h1 h2)
theorem wB(k:Nat):(0:Int)<=2^k:=by
 rw[two_pow_cast]
 exact Int.natCast_nonneg _
theorem Ir:jw X (binaryOp .Add) (EA λi j=>.int (i+j)):=Im λ_ _ _ _ _ _ _ q=>add_int q
theorem Iu:jw X (binaryOp .Sub) (EA λi j=>.int (i-j)):=Im λ_ _ _ _ _ _ _ q=>sub_int q
theorem Iv:jw X (binaryOp .Mult) (rI Iq λi j=>.int (i*j)):=Kq λ_ _ _ _ _ _ _ hc q=>mul_int q hc.ok
theorem EU:jw X (binaryOp .FloorDiv) (rI NL λi j=>.int (i/j)):=Kq λi j _ _ _ _ _ hc q=>by
 have h1:(0:Int)<j:=hc.1
 have h2:j<1073741824:=hc.2
 exact floordiv_int (by omega) (by rw[Int.fdiv_eq_ediv_of_nonneg i (by omega)];exact q) (.inl (PyProof.noPylong_small (by omega)))
theorem Iw:jw X (binaryOp .Mod) (rI (λ_ j=>0<j) λi j=>.int (i % j)):=Kq λi j _ _ _ _ _ hc q=>by
 have h1:(0:Int)<j:=hc
 exact mod_int' (by omega) (by rw[Int.fmod_eq_emod_of_nonneg i (by omega)];exact q)
theorem Iy:jw X (binaryOp .Pow) (rI K8 λi j=>.int (i^j.toNat)):=Kq λ_ _ _ _ _ _ _ hc q=>pow_int_small hc.1 hc.2.1 hc.2.2 q
theorem Iz:jw X (binaryOp .LShift) (rI K8 λi j=>.int (i*2^j.toNat)):=Kq λ_ _ _ _ _ _ _ hc q=>lshift_int_small hc.1 hc.2.1 hc.2.2 q
theorem IA:jw X (binaryOp .RShift) (rI (λ_ j=>0<=j) λi j=>.int (i/2^j.toNat)):=Kq λi j _ _ _ _ _ hc q=>
 rshift_int hc (by rw[Int.fdiv_eq_ediv_of_nonneg i (wB _)];exact q)
theorem IC:jw X (binaryOp .BitAnd) (EA λi j=>.int (Builtin.bitAnd i j)):=Im λ_ _ _ _ _ _ _ q=>and_int q
theorem QA{f:Value->Sem Value}{g:Int->Int}
  (rule:∀(i:Int) (t:Tok) (s:Shared) (Q:Value->Shared->Prop) (E:Value->Shared->Prop),Q (.int (g i) s.toks) {s with toks:=s.toks+1}->wpAny (model X.prog X.w) X.A (f (.int i t)) Q E s):
  NK X f (rU λi=>.int (g i)):=by
 intro pins s σ H x v Q I rx h
 obtain⟨i,rfl,q⟩:=h
 obtain⟨t,rfl⟩:=rx
 exact rule i t s _ _ ⟨.int (g i),H,I.tok _,⟨_,rfl⟩,q⟩
theorem ID:NK X (unaryOp .USub) (rU λi=>.int (-i)):=QA λ_ _ _ _ _ q=>neg_int q
end
noncomputable def K9:V->V->Bool
 |.non,.non=>true|.non,.int _=>true|.int _,.non=>true|.non,.bl _=>true|.bl _,.non=>true|.non,.str _=>true|.str _,.non=>true
 |.int _,.int _=>true|.bl _,.bl _=>true|.str _,.str _=>true|.byt _,.byt _=>true
 |.int _,.str _=>true|.str _,.int _=>true|.bl _,.str _=>true|.str _,.bl _=>true
 |_,_=>false
noncomputable def QB:R2:=λx y H Q=>K9 x y=true/\Q (.bl (decide (x=y))) H
noncomputable def QC:R2:=λx y H Q=>K9 x y=true/\Q (.bl (!decide (x=y))) H
theorem yn{i j:Int}:decide (V.int i=V.int j)=(i==j):=by
 rw[Bool.eq_iff_iff]
 simp
theorem BE{i j:Bool}:decide (V.bl i=V.bl j)=(i==j):=by
 rw[Bool.eq_iff_iff]
 simp
theorem yo{i j:Str}:decide (V.str i=V.str j)=(i==j):=by
 rw[Bool.eq_iff_iff]
 simp
theorem yp{i j:Array UInt8}:decide (V.byt i=V.byt j)=(i.toList==j.toList):=by
 rw[Bool.eq_iff_iff]
 cases i
 cases j
 simp
section
variable{X:Cx}{a b c:Expr}{ta tb tc:TE}{pos:Pos}
theorem bz{pins:List (Addr×Obj)}{σ:St}{H:Hp}{s:Shared}{Q:VK}{k k':Bool}(I:Inv X pins σ H s)(q:Q (.bl k) H)(e:k=k'):EP X pins σ Q (.bool k') s:=by
 subst e
 exact⟨.bl k,H,I,rfl,q⟩
theorem La:jw X (compareOp .Eq) QB:=by
 intro pins s σ H x y v u Q I rx ry h
 obtain⟨hs,q⟩:=h
 cases x with
 |non=>
  cases rx
  cases y with
  |non=>cases ry;exact PySem.EqNone.eq_none_none (bz I q (by simp))
  |bl j=>cases ry;exact PySem.EqNone.eq_none_bool (bz I q (by simp))
  |int j=>obtain⟨t',rfl⟩:=ry;exact PySem.EqNone.eq_none_int (bz I q (by simp))
  |str j=>obtain⟨t',rfl⟩:=ry;exact PySem.EqNone.eq_none_str (bz I q (by simp))
  |_=>exact absurd (show false=true from hs) Bool.false_ne_true
 |bl i=>
  cases rx
  cases y with
  |non=>cases ry;exact PySem.EqNone.eq_bool_none (bz I q (by simp))
  |bl j=>cases ry;exact eq_bool (bz I q BE)
  |str j=>obtain⟨t',rfl⟩:=ry;exact PySem.EqMixed.eq_bool_str (bz I q (by simp))
  |_=>exact absurd (show false=true from hs) Bool.false_ne_true
 |int i=>
  obtain⟨t,rfl⟩:=rx
  cases y with
  |non=>cases ry;exact PySem.EqNone.eq_int_none (bz I q (by simp))
  |int j=>obtain⟨t',rfl⟩:=ry;exact eq_int (bz I q yn)
  |str j=>obtain⟨t',rfl⟩:=ry;exact PySem.EqMixed.eq_int_str (bz I q (by simp))
  |_=>exact absurd (show false=true from hs) Bool.false_ne_true
 |str i=>
  obtain⟨t,rfl⟩:=rx
  cases y with
  |non=>cases ry;exact PySem.EqNone.eq_str_none (bz I q (by simp))
  |bl j=>cases ry;exact PySem.EqMixed.eq_str_bool (bz I q (by simp))
  |int j=>obtain⟨t',rfl⟩:=ry;exact PySem.EqMixed.eq_str_int (bz I q (by simp))
  |str j=>obtain⟨t',rfl⟩:=ry;exact eq_str (bz I q yo)
  |_=>exact absurd (show false=true from hs) Bool.false_ne_true
 |byt i=>
  obtain⟨t,rfl⟩:=rx
  cases y with
  |byt j=>obtain⟨t',rfl⟩:=ry;exact PySem.W.eq_bytes (bz I q yp)
  |_=>exact absurd (show false=true from hs) Bool.false_ne_true
 |_=>cases y<;>exact absurd (show false=true from hs) Bool.false_ne_true
theorem Lb:jw X (compareOp .NotEq) QC:=by
 intro pins s σ H x y v u Q I rx ry h
 obtain⟨hs,q⟩:=h
 cases x with
 |non=>
  cases rx
  cases y with
  |non=>cases ry;exact PySem.EqNone.ne_none_none (bz I q (by simp))
  |bl j=>cases ry;exact PySem.EqNone.ne_none_bool (bz I q (by simp))
  |int j=>obtain⟨t',rfl⟩:=ry;exact PySem.EqNone.ne_none_int (bz I q (by simp))
  |str j=>obtain⟨t',rfl⟩:=ry;exact PySem.EqNone.ne_none_str (bz I q (by simp))
  |_=>exact absurd (show false=true from hs) Bool.false_ne_true
 |bl i=>
  cases rx
  cases y with
  |non=>cases ry;exact PySem.EqNone.ne_bool_none (bz I q (by simp))
  |bl j=>cases ry;exact ne_bool (bz I q (congrArg not BE))
  |str j=>obtain⟨t',rfl⟩:=ry;exact PySem.EqMixed.ne_bool_str (bz I q (by simp))
  |_=>exact absurd (show false=true from hs) Bool.false_ne_true
 |int i=>
  obtain⟨t,rfl⟩:=rx
  cases y with
  |non=>cases ry;exact PySem.EqNone.ne_int_none (bz I q (by simp))
  |int j=>obtain⟨t',rfl⟩:=ry;exact ne_int (bz I q (congrArg not yn))
  |str j=>obtain⟨t',rfl⟩:=ry;exact PySem.EqMixed.ne_int_str (bz I q (by simp))
  |_=>exact absurd (show false=true from hs) Bool.false_ne_true
 |str i=>
  obtain⟨t,rfl⟩:=rx
  cases y with
  |non=>cases ry;exact PySem.EqNone.ne_str_none (bz I q (by simp))
  |bl j=>cases ry;exact PySem.EqMixed.ne_str_bool (bz I q (by simp))
  |int j=>obtain⟨t',rfl⟩:=ry;exact PySem.EqMixed.ne_str_int (bz I q (by simp))
  |str j=>obtain⟨t',rfl⟩:=ry;exact ne_str (bz I q (congrArg not yo))
  |_=>exact absurd (show false=true from hs) Bool.false_ne_true
 |byt i=>
  obtain⟨t,rfl⟩:=rx
  cases y with
  |byt j=>obtain⟨t',rfl⟩:=ry;exact PySem.W.ne_bytes (bz I q (congrArg not yp))
  |_=>exact absurd (show false=true from hs) Bool.false_ne_true
 |_=>cases y<;>exact absurd (show false=true from hs) Bool.false_ne_true
theorem Lc:jw X (compareOp .Lt) (EA λi j=>.bl (decide (i<j))):=Ip λ_ _ _ _ _ _ _ q=>lt_int q
theorem Ld:jw X (compareOp .Gt) (EA λi j=>.bl (decide (j<i))):=Ip λ_ _ _ _ _ _ _ q=>gt_int q
theorem Le:jw X (compareOp .GtE) (EA λi j=>.bl (decide (j<=i))):=Ip λ_ _ _ _ _ _ _ q=>ge_int q
theorem IE:jw X (compareOp .Is) (λx y H Q=>y=.non/\Q (.bl (decide (x=.non))) H):=by
 intro pins s σ H x y v u Q I rx ry h
 obtain⟨rfl,q⟩:=h
 cases ry
 refine is_none_gen (bz I q ?_)
 cases x<;>first
  |(cases rx;rfl)
  |(obtain⟨t,rfl⟩:=rx;rfl)
theorem EV:jw X (compareOp .IsNot) (λx y H Q=>y=.non/\Q (.bl (!decide (x=.non))) H):=by
 intro pins s σ H x y v u Q I rx ry h
 obtain⟨rfl,q⟩:=h
 cases ry
 refine isnot_none_gen (bz I q ?_)
 cases x<;>first
  |(cases rx;rfl)
  |(obtain⟨t,rfl⟩:=rx;rfl)
theorem jw.or{f:Value->Value->Sem Value}{r r':R2}(h:jw X f r)(h':jw X f r'):jw X f (λx y H Q=>r x y H Q\/r' x y H Q):=by
 intro pins s σ H x y v u Q I rx ry q
 rcases q with q|q
 ·exact h pins s σ H x y v u Q I rx ry q
 ·exact h' pins s σ H x y v u Q I rx ry q
theorem BF(b:Expr){op:CmpOp}(h:autoParam (op≠.In) zD._auto_1)(h2:autoParam (op≠.NotIn) zD._auto_1):behindInMarks op b=false:=by
 have e1:(op==CmpOp.In)=false:=by cases op<;>first|rfl|exact absurd rfl h
 have e2:(op==CmpOp.NotIn)=false:=by cases op<;>first|rfl|exact absurd rfl h2
 cases b<;>simp[behindInMarks,e1,e2]
theorem EW{op:CmpOp}{r:R2}(ho:jw X (compareOp op) r)(ha:PE X a ta)(hb:PE X b tb)(hm:behindInMarks op b=false):PE X (.Compare a [op] [b] pos) (K5 r ta tb):=by
 intro pins s σ H Q I h
 exact wpAny_Compare1 (Il ha hb I h λv u s2 x y H2 I2 rx ry q=>ho pins s2 σ H2 x y v u Q I2 rx ry q) hm
noncomputable def Hb(t:TE):TT:=λσ H Q=>t σ H λx H'=>∃k,x=.bl k/\Q k H'
theorem EX{op:CmpOp}{r:R2}(ho:jw X (compareOp op) r)(ha:PE X a ta)(hb:PE X b tb)(hm:behindInMarks op b=false):PT X (.Compare a [op] [b] pos) (Hb (K5 r ta tb)):=by
 intro pins s σ H Q I h
 refine wpAny_isTrue_Compare1 (dz (ha pins s σ H _ I h) λv s1 ⟨x,H1,I1,r1,q1⟩=>dz (hb pins s1 σ H1 _ I1 q1) λu s2 ⟨y,H2,I2,r2,q2⟩=>
  dz (ho pins s2 σ H2 x y v u _ I2 r1 r2 q2) λc s3 ⟨z,H3,I3,r3,k,e,q3⟩=>?_) hm
 subst e
 cases r3
 exact wpAny_truthy_bool ⟨H3,I3,q3⟩
theorem kK:(sizeLine:Nat)<2^63:=by rw[sizeLine_eq];decide
theorem wC:jw X (binaryOp .Add) (λx y H Q=>∃i j,x=.str i/\y=.str j/\i.length+j.length<=sizeLine/\Q (.str (i++j)) H):=by
 intro pins s σ H x y v u Q I rx ry h
 obtain⟨i,j,rfl,rfl,hz,q⟩:=h
 obtain⟨t,rfl⟩:=rx
 obtain⟨t',rfl⟩:=ry
 exact add_str (λt' tk=>⟨.str (i++j),H,I.tok _,⟨_,rfl⟩,q⟩) hz
theorem vals1{x:V}{us:List Value}(r:Vals [x] us):∃u,us=[u]/\RelV x u:=by
 cases r with
 |cons r1 r2=>cases r2;exact⟨_,rfl,r1⟩
theorem vals2{x y:V}{us:List Value}(r:Vals [x,y] us):∃u w',us=[u,w']/\RelV x u/\RelV y w':=by
 cases r with
 |cons r1 r2=>
  cases r2 with
  |cons r3 r4=>cases r4;exact⟨_,_,rfl,r1,r3⟩
theorem zY:gH X (.type "int") (λxs H Q=>(∃i,xs=[.int i]/\Q (.int i) H)\/∃k,xs=[.bl k]/\Q (.int (if k then 1 else 0)) H):=by
 intro pins s σ H xs us Q I r h
 rcases h with⟨i,rfl,q⟩|⟨k,rfl,q⟩
 ·obtain⟨u,rfl,t,rfl⟩:=vals1 r
  exact call_int_int ⟨.int i,H,I,⟨_,rfl⟩,q⟩
 ·obtain⟨u,rfl,r1⟩:=vals1 r
  cases r1
  exact call_int_bool ⟨.int (if k then 1 else 0),H,I.tok _,⟨_,rfl⟩,q⟩
end
structure wD(h:Heap)(x dx C:Addr)(mA:Str->Option Value):Prop where
 obj:h.get? x=some (PySem.W.instObj C dx)
 ns:h.Ns1 dx mA
 ne:dx≠x
theorem zZ{h:Heap}{dx:Addr}{mA:Str->Option Value}(n:h.Ns1 dx mA):∃od,h.get? dx=some od/\∀name,PySem.W.lookIn name od=some (mA name):=by
 obtain⟨o,es,ep,ho,hd,hk,_,hm⟩:=n
 refine⟨o,ho,λname=>?_⟩
 have e:=hm name
 unfold nsFind findBy at e
 rw[<-Array.find?_toList]at e
 unfold PySem.W.lookIn
 rw[hd]
 dsimp only
 split
 ·rename_i y q
  rw[q]at e
  exact congrArg some e
 ·rename_i q
  rw[q]at e
  have a:es.toList.any (·.refKey)=false:=by
   rw[List.any_eq_false]
   intro y hy
   obtain⟨z,t,qb⟩:=hk y (Array.mem_toList_iff.mp hy)
   simp[DictEntry.refKey,qb]
  have a':¬es.toList.any (·.refKey)=true:=by rw[a];exact Bool.false_ne_true
  rw[if_neg a']
  exact congrArg some e
theorem wD.look{h:Heap}{x dx C:Addr}{mA:Str->Option Value}(I:wD h x dx C mA):∃od,PySem.W.InstAt h x (PySem.W.instObj C dx) C (some od)/\∀name,PySem.W.lookIn name od=some (mA name):=
 let⟨od,ho,hl⟩:=zZ I.ns
 ⟨od,⟨I.obj,rfl,rfl,ho⟩,hl⟩
section
variable{prog:Program}{w:World}{A:Around}{E:Value->Shared->Prop}{s:Shared}{K:PySem.W.Frag}{x dx C f:Addr}{mA:Str->Option Value}{name:Str}{v:Value}
theorem get_map{expr:Bool}{Q:Value->Shared->Prop}(X:K.In s.heap)(I:wD s.heap x dx C mA)(hg:PySem.W.plainGet K C name=true)(hh:PySem.W.hasDictIn K C=true)
  (ha:PySem.W.findIn K (.ref C) name=some none)(hv:mA name=some v)(MV:PySem.W.handedIn v=true)(h:Q v {s with toks:=s.toks+1}):
  wpAny (model prog w) A (getAttr (.ref x) name expr) Q E s:=by
 obtain⟨od,J,hl⟩:=I.look
 exact PySem.W.get_value X J (PySem.W.plainGet_of hg).1 (PySem.W.findObj_own hh ha rfl (by rw[hl,hv])) MV h
theorem BG{pl:Sem Bool}{Q:Value×List Value->Shared->Prop}(X:K.In s.heap)(I:wD s.heap x dx C mA)(hg:PySem.W.plainGet K C name=true)
  (hf:PySem.W.findIn K (.ref C) name=some (some (.ref f)))(ht:PySem.W.isFn K (.ref f)=true)(hv:mA name=none)(h:Q (.ref f,[.ref x]) s):
  wpAny (model prog w) A (getMethod (.ref x) name pl) Q E s:=by
 obtain⟨od,J,hl⟩:=I.look
 exact PySem.W.method_fn X J (PySem.W.plainGet_of hg).1 (PySem.W.plainGet_of hg).2 hf (beq_iff_eq.mp ht) (by show(PySem.W.lookIn name od).map (·.isSome)=some false;rw[hl,hv];rfl) h
theorem nQ{ns:List Str}{Q:Unit->Shared->Prop}(X:K.In s.heap)(I:wD s.heap x dx C mA)
  (hs:PySem.W.findIn K (.ref C) "__setattr__" =some (some (.builtin "object.__setattr__")))(hp:PySem.W.plainOver K C=true)(ht:PySem.W.takerIn K C name=some none)(hh:PySem.W.hasDictIn K C=true)
  (hw:PySem.Within mA ns)(lz:ns.length<=sizeLine)
  (h:∀h',wD h' x dx C (λy=>if y=name then some v else mA y)->Heap.SameBut dx s.heap h'->Q () {s with heap:=h',toks:=s.toks+2}):
  wpAny (model prog w) A (setAttr (.ref x) name v) Q E s:=by
 obtain⟨od,J,hl⟩:=I.look
 refine PySem.W.set_plain X J hs (PySem.W.osa_open (s:={s with toks:=s.toks+1}) (r:=none) X J hp ht λb=>?_)
 obtain⟨cd,hc,KH⟩:=PySem.W.any_some hh
 have hx:s.heap.get? x=some ⟨.ref C,some dx,.plain,#[]⟩:=I.obj
 refine wpAny_bind (wpAny_pure (wpAny_bind (wpAny_bind (wpAny_loadPart hx (wpAny_bind (PySem.W.Looks.here (s:={s with toks:=s.toks+1}) (PySem.W.looks_clsIn X hc) ?_))))))
 rw[KH]
 refine wpAny_pure (a:=some dx) (wpAny_bind (wpAny_pure (wpAny_bind ?_)))
 refine wpAny_nsSet1 (s:={s with toks:=s.toks+1}) I.ns λh' MW j9=>?_
 obtain⟨oD,R7,R8,QD,QE,QF⟩:=MW.count (PySem.Within.cons name v hw)
 refine wpAny_bind (wpAny_lookBehind QD (by rw[QE];exact pastItsLine_dict (Nat.le_trans QF (by rw[List.length_cons];omega))) ?_)
 exact wpAny_pure (h _ ⟨(j9.2 _ (Ne.symm I.ne)).trans I.obj,MW,I.ne⟩ j9)
theorem BH{R:Result->Shared->Prop}{vs:List Value}{kw:List (Str×Value)}(X:K.In s.heap)(hm:PySem.W.makesIn K C=true)
  (hi:PySem.W.findIn K (.ref C) "__init__" =some (some (.ref f)))(hf:PySem.W.typeIn K (.ref f)=some (.type "function"))
  (h:codeAny (model prog w) (A.under (.builtin "type.__call__" ⟨.ref C::vs,kw⟩)) (.call (.ref f) ⟨.ref (s.heap.objs.size+1)::vs,kw⟩) (PySem.W.InitBack (s.heap.objs.size+1) R)
    {s with heap:=(s.heap.push PySem.W.emptyDict).push (PySem.W.instObj C s.heap.objs.size)}):
  codeAny (model prog w) A (.call (.ref C) ⟨vs,kw⟩) R s:=by
 obtain⟨hh,g,d,t,os⟩:=s
 exact PySem.W.make_core (PySem.W.makes_of X hm) (PySem.W.looks_findIn X hi) (λself=>PySem.W.bind_fn X self hf) (.inl rfl) h
end
noncomputable def iI(f:Str)(v:V):List (Str×V)->List (Str×V)
 |[]=>[(f,v)]
 |(g,x)::r=>if g=f then(g,v)::r else(g,x)::iI f v r
theorem mZ(f g:Str)(v:V):∀fs:List (Str×V),(iI f v fs).lookup g=if g=f then some v else fs.lookup g
 |[]=>by
  show List.lookup g [(f,v)]=_
  by_cases h:g=f
  ·have hb:(g==f)=true:=beq_iff_eq.mpr h
   simp only[List.lookup,hb,if_pos h]
  ·have hb:(g==f)=false:=beq_eq_false_iff_ne.mpr h
   simp only[List.lookup,hb,if_neg h]
 |(k,x)::r=>by
  have ih:=mZ f g v r
  rw[show iI f v ((k,x)::r)=(if k=f then(k,v)::r else(k,x)::iI f v r)from rfl]
  by_cases hk:k=f
  ·rw[if_pos hk]
   by_cases h:g=k
   ·have hb:(g==k)=true:=beq_iff_eq.mpr h
    simp only[List.lookup,hb,if_pos (h.trans hk)]
   ·have hb:(g==k)=false:=beq_eq_false_iff_ne.mpr h
    simp only[List.lookup,hb,if_neg (λe:g=f=>h (e.trans hk.symm))]
  ·rw[if_neg hk]
   by_cases h:g=k
   ·have hb:(g==k)=true:=beq_iff_eq.mpr h
    simp only[List.lookup,hb,if_neg (λe:g=f=>hk (h.symm.trans e))]
   ·have hb:(g==k)=false:=beq_eq_false_iff_ne.mpr h
    simp only[List.lookup,hb]
    exact ih
theorem mq(f:Str)(v:V):∀fs:List (Str×V),f∈(iI f v fs).map (·.1)/\∀g,g∈fs.map (·.1)->g∈(iI f v fs).map (·.1)
 |[]=>⟨by simp[iI],λg h=>by simp at h⟩
 |(k,x)::r=>by
  obtain⟨i1,i2⟩:=mq f v r
  rw[show iI f v ((k,x)::r)=(if k=f then(k,v)::r else(k,x)::iI f v r)from rfl]
  by_cases hk:k=f
  ·rw[if_pos hk]
   subst hk
   exact⟨by simp,λg h=>by simpa using h⟩
  ·rw[if_neg hk]
   refine⟨?_,λg h=>?_⟩
   ·rw[List.map_cons]
    exact List.mem_cons_of_mem _ i1
   ·rw[List.map_cons]at h⊢
    rcases List.mem_cons.mp h with e|e
    ·exact List.mem_cons.mpr (.inl e)
    ·exact List.mem_cons_of_mem _ (i2 g e)
theorem m8(f:Str)(v:V):∀fs:List (Str×V),(iI f v fs).length<=fs.length+1
 |[]=>by simp[iI]
 |(k,x)::r=>by
  have ih:=m8 f v r
  rw[show iI f v ((k,x)::r)=(if k=f then(k,v)::r else(k,x)::iI f v r)from rfl]
  by_cases hk:k=f
  ·rw[if_pos hk,List.length_cons,List.length_cons];omega
  ·rw[if_neg hk,List.length_cons,List.length_cons];omega
theorem p6.some_of{v:V}{o:Option Value}(r:p6 (some v) o):∃u,o=some u/\RelV v u:=by
 cases o with
 |none=>exact(show False from r).elim
 |some u=>exact⟨u,rfl,r⟩
theorem p6.none_of{o:Option Value}(r:p6 none o):o=none:=by
 cases o with
 |none=>rfl
 |some u=>exact(show False from r).elim
theorem z7{v:V}{u:Value}(r:RelV v u):PySem.W.handedIn u=true:=by
 cases v with
 |non=>cases(show u=Value.none from r);rfl
 |bl b=>cases(show u=Value.bool b from r);rfl
 |int i=>obtain⟨t,e⟩:=(show∃t,u=Value.int i t from r);cases e;rfl
 |str x=>obtain⟨t,e⟩:=(show∃t,u=Value.str x t from r);cases e;rfl
 |byt b=>obtain⟨t,e⟩:=(show∃t,u=Value.bytes b t from r);cases e;rfl
 |flt b=>obtain⟨t,e⟩:=(show∃t,u=Value.float b t from r);cases e;rfl
 |ref a=>cases(show u=Value.ref a from r);rfl
 |ty n=>cases(show u=Value.type n from r);rfl
section
variable{P:Program}{w:World}{H H':Hp}{h h':Heap}{a C dx:Addr}{fs Qx:List (Str×V)}
theorem rY(dR:nP P w H h)(e:H a=some (.ins C dx fs)):∃mA,wD h a dx C mA/\(∀f,p6 (fs.lookup f) (mA f))/\PySem.Within mA (fs.map (·.1))/\fs.length<=1000/\H dx=some (.own a):=by
 obtain⟨d,z,ne,ob,mA,n,r,q⟩:=(show gF P w H h a (.ins C dx fs)from dR a _ e)
 exact⟨mA,⟨ob,n,ne⟩,r,q,z,d⟩
end
structure yq(K:PySem.W.Frag)(C:Addr):Prop where
 pg:PySem.W.plainGet K C Str.empty=true
 hd:PySem.W.hasDictIn K C=true
 po:PySem.W.plainOver K C=true
 sa:PySem.W.findIn K (.ref C) "__setattr__" =some (some (.builtin "object.__setattr__"))
theorem yq.get{K:PySem.W.Frag}{C:Addr}(c:yq K C)(f:Str):PySem.W.plainGet K C f=true:=c.pg
noncomputable def eI(K:PySem.W.Frag)(C:Addr)(f:Str):Prop:=PySem.W.findIn K (.ref C) f=some none
theorem eI.Lf{K:PySem.W.Frag}{C:Addr}{f:Str}(n:eI K C f):PySem.W.takerIn K C f=some none:=by
 unfold PySem.W.takerIn
 rw[show PySem.W.findIn K (.ref C) f=some none from n]
 rfl
structure Meth(K:PySem.W.Frag)(C:Addr)(m:Str)(f:Addr):Prop where
 at_:PySem.W.findIn K (.ref C) m=some (some (.ref f))
 fn:PySem.W.isFn K (.ref f)=true
 kp:PySem.W.keepIn K (.ref f)=true
section
variable{X:Cx}{pins:List (Addr×Obj)}{σ:St}{H:Hp}{s:Shared}{a C dx:Addr}{fs:List (Str×V)}{f:Str}{v:V}{A:Around}{E:Value->Shared->Prop}
theorem wF{b:Bool}{Q:Value->Shared->Prop}(I:Inv X pins σ H s)(e:H a=some (.ins C dx fs))(c:yq X.K C)(n:eI X.K C f)(l:fs.lookup f=some v)
  (h:∀u s',Inv X pins σ H s'->RelV v u->Q u s'):wpAny (model X.prog X.w) A (getAttr (.ref a) f b) Q E s:=by
 obtain⟨mA,O,r,_,_,_⟩:=rY I.dR e
 obtain⟨u,hu,ru⟩:=p6.some_of (v:=v) (o:=mA f) (by rw[<-l];exact r f)
 exact get_map I.oi O (c.get f) c.hd n hu (z7 ru) (h u _ (I.tok _) ru)
theorem iX{m:Str}{g:Addr}{pl:Sem Bool}{Q:Value×List Value->Shared->Prop}(I:Inv X pins σ H s)(e:H a=some (.ins C dx fs))(c:yq X.K C)(k:Meth X.K C m g)(l:fs.lookup m=none)
  (h:Q (.ref g,[.ref a]) s):wpAny (model X.prog X.w) A (getMethod (.ref a) m pl) Q E s:=by
 obtain⟨mA,O,r,_,_,_⟩:=rY I.dR e
 have hn:mA m=none:=p6.none_of (by rw[<-l];exact r m)
 exact BG I.oi O (c.get m) k.at_ k.fn hn h
theorem wG{y:V}{u:Value}{Q:Unit->Shared->Prop}(I:Inv X pins σ H s)(e:H a=some (.ins C dx fs))(c:yq X.K C)(n:eI X.K C f)(hl:fs.length<1000)(ry:RelV y u)
  (h:∀s',Inv X pins σ (upd H a (.ins C dx (iI f y fs))) s'->Q () s'):wpAny (model X.prog X.w) A (setAttr (.ref a) f u) Q E s:=by
 obtain⟨mA,O,r,wi,_,ho⟩:=rY I.dR e
 have hz:(fs.map (·.1)).length<=sizeLine:=by rw[List.length_map,sizeLine_eq];omega
 refine nQ I.oi O c.sa c.po n.Lf c.hd wi hz λh' O' sb=>h _ ?_
 have hd:∃o,h'.get? dx=some o:=let⟨o,_,_,e',_⟩:=O'.ns;⟨o,e'⟩
 refine I.write (x:=a) (e:=dx) (by rw[e];exact True.intro) (.inr ho) (λb q hb z=>(sb.2 b hb).trans z) hd ?_
 refine⟨by rw[au O.ne];exact ho,?_,O.ne,O'.obj,_,O'.ns,λg=>?_,λg hg=>?_⟩
 ·have:=m8 f y fs;omega
 ·show p6 ((iI f y fs).lookup g) (if g=f then some u else mA g)
  rw[mZ]
  by_cases q:g=f
  ·rw[if_pos q,if_pos q];exact ry
  ·rw[if_neg q,if_neg q];exact r g
 ·by_cases q:g=f
  ·rw[q];exact(mq f y fs).1
  ·refine(mq f y fs).2 g (wi g λz=>hg ?_)
   show(if g=f then some u else mA g)=none
   rw[if_neg q];exact z
theorem Inv.made(I:Inv X pins σ H s):Inv X pins σ (upd (upd H s.heap.objs.size (.own (s.heap.objs.size+1))) (s.heap.objs.size+1) (.ins C s.heap.objs.size []))
  {s with heap:=(s.heap.push PySem.W.emptyDict).push (PySem.W.instObj C s.heap.objs.size)}:=by
 have e1:(s.heap.push PySem.W.emptyDict).get? s.heap.objs.size=some PySem.W.emptyDict:=Heap.get?_push_size s.heap rfl
 have e2:((s.heap.push PySem.W.emptyDict).push (PySem.W.instObj C s.heap.objs.size)).get? (s.heap.objs.size+1)=some (PySem.W.instObj C s.heap.objs.size):=by
  have:=Heap.get?_push_size (s.heap.push PySem.W.emptyDict) (o:=PySem.W.instObj C s.heap.objs.size) rfl
  rwa[Heap.size_push]at this
 have e3:(s.heap.push PySem.W.emptyDict).Ns s.heap.objs.size (λ_=>none):=⟨PySem.W.emptyDict,#[],_,e1,rfl,(λe he=>absurd he (by simp)),λ_=>rfl⟩
 have I1:=I.laid (a:=s.heap.objs.size) (o:=.own (s.heap.objs.size+1)) (h':=s.heap.push PySem.W.emptyDict) (t':=s.toks) (λb u q=>Heap.get?_push_of_some _ q) (Nat.le_refl _) ⟨_,e1⟩
 refine I1.laid (a:=s.heap.objs.size+1) (o:=.ins C s.heap.objs.size []) (t':=s.toks) (λb u q=>Heap.get?_push_of_some _ q) (Nat.le_of_eq (Heap.size_push _ _)) ?_
 have ne:s.heap.objs.size≠s.heap.objs.size+1:=Nat.ne_of_lt (Nat.lt_succ_self _)
 refine⟨by rw[au ne,aO],Nat.zero_le _,ne,e2,λ_=>none,(Heap.Ns1.of_empty e3).at λo q=>Heap.get?_push_of_some _ q,λ_=>True.intro,λy hy=>absurd rfl hy⟩
theorem EY{prog:Program}{w:World}{env:Env}{e:Expr}{f:Str}{pos:Pos}{s:Shared}{Q:Value->Shared->Prop}(hb:attributeBase e f env (eval e env)=eval e env)
  (h:wpAny (model prog w) A (eval e env) (λo s₁=>wpAny (model prog w) A (getAttr o f true) Q E s₁) E s):wpAny (model prog w) A (eval (.Attribute e f pos) env) Q E s:=
 Attribute_any_ h (by rw[arm_eval_Attribute,hb])
end
noncomputable def NM(K:PySem.W.Frag)(ta:TE)(f:Str):TE:=λσ H Q=>ta σ H λx H1=>∃a C dx fs v,x=.ref a/\H1 a=some (.ins C dx fs)/\yq K C/\eI K C f/\fs.lookup f=some v/\Q v H1
noncomputable def NN(K:PySem.W.Frag)(ta tv:TE)(f:Str):TS:=λD σ H=>tv σ H λy H1=>ta σ H1 λx H2=>∃a C dx fs,x=.ref a/\H2 a=some (.ins C dx fs)/\yq K C/\eI K C f/\fs.length<1000/\
 D.nx σ (upd H2 a (.ins C dx (iI f y fs)))
section
variable{X:Cx}{o e value:Expr}{f:Str}{pos pos' QG:Pos}{ta tv:TE}
theorem mr(he:PE X e ta)(hb:attributeBase e f X.env (eval e X.env)=eval e X.env):PE X (.Attribute e f pos) (NM X.K ta f):=by
 intro pins s σ H Q I h
 refine EY hb (dz (he pins s σ H _ I h) λu s1 bW=>?_)
 obtain⟨x,H1,I1,rx,a,C,dx,fs,v,ex,ea,c,n,l,q⟩:=bW
 subst ex
 obtain rfl:u=Value.ref a:=rx
 exact wF I1 ea c n l λu' s2 I2 ru=>⟨v,H1,I2,ru,q⟩
theorem mv(ha:PE X o ta)(hv:PE X value tv)(hs:swapsWith value (some (.Attribute o f pos')) pos.line X.env=pure false):PS X (.Assign [.Attribute o f pos'] value pos) (NN X.K ta tv f):=by
 intro pins s σ H D I h
 refine plainObj_wpAny_Assign_Attribute (dz (hv pins s σ H _ I h) λu s1 ⟨y,H1,I1,ry,q⟩=>dz (ha pins s1 σ H1 _ I1 q) λov s2 bW=>?_) hs
 obtain⟨x,H2,I2,rx,a,C,dx,fs,ex,ea,c,n,l,q2⟩:=bW
 subst ex
 obtain rfl:ov=Value.ref a:=rx
 exact wG I2 ea c n l ry λs3 I3=>⟨σ,_,I3,q2⟩
end
structure bO(k:Nat)(A:Around):Prop where
 hd:A.handled=none
 dp:A.depth+3*k+5<recursionLimit
 un:A.units+16*k+200<cLine
theorem bO.mono{j k:Nat}{A:Around}(r:bO k A)(h:j<=k):bO j A:=⟨r.hd,by have:=r.dp;omega,by have:=r.un;omega⟩
theorem bO.deeper{k:Nat}{A:Around}(r:bO (k+1) A)(env:Env):bO k (A.deeper env):=
 ⟨r.hd,by have:=r.dp;show A.depth+1+3*k+5<_;omega,by have:=r.un;show A.units+3+16*k+200<_;omega⟩
theorem bO.in1{k:Nat}{A:Around}(r:bO (k+1) A):bO k A.in1:=
 ⟨r.hd,by have:=r.dp;show A.depth+3*k+5<_;omega,by have:=r.un;show A.units+1+16*k+200<_;omega⟩
theorem wH{A:Around}{C:Addr}{us:List Value}{kw:List (Str×Value)}:(A.under (.builtin "type.__call__" ⟨.ref C::us,kw⟩)).depth=A.depth+1:=by
 first|rfl|simp[Around.under,Code.weight,Code.isCreation,Code.isGuard,Code.isCaller,Code.frames,Code.isFrame,guardIds]
theorem wI{A:Around}{C:Addr}{us:List Value}{kw:List (Str×Value)}:(A.under (.builtin "type.__call__" ⟨.ref C::us,kw⟩)).units=A.units+1:=by
 first|rfl|simp[Around.under,Code.cUnits,Code.frames,Code.isFrame]
theorem bO.make{k:Nat}{A:Around}(r:bO (k+1) A)(C:Addr)(us:List Value)(kw:List (Str×Value)):bO k (A.under (.builtin "type.__call__" ⟨.ref C::us,kw⟩)):=
 ⟨r.hd,by have:=r.dp;rw[wH];omega,by have:=r.un;rw[wI];omega⟩
theorem bO.depth{k:Nat}{A:Around}(r:bO k A):A.depth<recursionLimit:=by have:=r.dp;omega
theorem bO.units{k:Nat}{A:Around}(r:bO k A):A.units+64<cLine:=by have:=r.un;omega
noncomputable def BI:TA:=λ_ H Q=>Q [] H
noncomputable def BJ(ta:TE)(tr:TA):TA:=λσ H Q=>ta σ H λx H1=>tr σ H1 λxs H2=>Q (x::xs) H2
section
variable{X:Cx}{e:Expr}{es:List Expr}{te:TE}{t:TA}{pos:Pos}
theorem cc:PA X [] BI:=λ_ _ _ _ H Q I h=>Calls.spliced_nil ⟨[],H,I,.nil,h⟩
theorem bq(ha:PE X e te)(hr:PA X es t)(hs:autoParam (starEach (e::es) X.env=(false,eval e X.env)::starEach es X.env) zR._auto_1):PA X (e::es) (BJ te t):=by
 intro pos pins s σ H Q I h
 rw[hs]
 show wpAny _ _ (spliced ((false,eval e X.env)::backTo pos (starEach es X.env))) _ _ s
 refine Calls.spliced_cons (dz (ha pins s σ H _ I h) λu s1 bW=>?_)
 obtain⟨x,H1,I1,r1,q1⟩:=bW
 exact dz (hr pos pins s1 σ H1 _ I1 q1) λus s2 ⟨xs,H2,I2,r2,q2⟩=>⟨x::xs,H2,I2,.cons r1 r2,q2⟩
noncomputable def NO(t:TA):TE:=λσ H Q=>t σ H λxs H1=>xs.length<=sizeLine/\∀p,H1 p=none->Q (.ref p) (upd H1 p (.tup xs))
noncomputable def NP(t:TA):TE:=λσ H Q=>t σ H λxs H1=>xs.length<=sizeLine/\∀p,H1 p=none->Q (.ref p) (upd H1 p (.lst xs))
theorem wJ{x1}(h:PA X es t):PE X (.Tuple es x1 pos) (NO t):=by
 intro pins s σ H Q I hq
 refine wpAny_Tuple_spliced (dz (h pos pins s σ H _ I hq) λus s1 ⟨xs,H1,I1,r,z,q⟩=>⟨by rw[<-r.length];exact z,?_⟩)
 have hf:H1 s1.heap.objs.size=none:=I1.dR.fresh (Nat.le_refl _)
 refine⟨.ref s1.heap.objs.size,upd H1 s1.heap.objs.size (.tup xs),I1.laid (t':=s1.toks) (λb u e=>Heap.get?_push_of_some _ e) (Nat.le_refl _) ?_,rfl,q _ hf⟩
 exact⟨⟨z,MN.new⟩,us,r,⟨_,Heap.get?_push_size _ rfl,rfl,_,rfl⟩⟩
theorem wK(h:PA X es t):PE X (.List es pos) (NP t):=by
 intro pins s σ H Q I hq
 refine wpAny_List_spliced (dz (h pos pins s σ H _ I hq) λus s1 ⟨xs,H1,I1,r,z,q⟩=>⟨by rw[<-r.length];exact z,?_⟩)
 have hf:H1 s1.heap.objs.size=none:=I1.dR.fresh (Nat.le_refl _)
 refine⟨.ref s1.heap.objs.size,upd H1 s1.heap.objs.size (.lst xs),I1.laid (t':=s1.toks) (λb u e=>Heap.get?_push_of_some _ e) (Nat.le_refl _) ?_,rfl,q _ hf⟩
 exact⟨z,us,0,r,Heap.get?_push_size _ rfl⟩
end
noncomputable abbrev Sp:=List V->Hp->VK->XK->Prop
noncomputable abbrev Bp:=List Env->Hp->Shared->XK->Value->Shared->Prop
structure wL(P:Program)(w:World)(K:PySem.W.Frag)(mg:Str->Option Value)(base:Heap)(A:Around)(outer:List Env)(s:Shared)(H:Hp):Prop where
 frames:A.frames=some outer
 mod:Mod K mg base
 bs:∀b o,base.get? b=some o->s.heap.get? b=some o/\H b=none
 bsz:base.objs.size<=s.heap.objs.size
 funs:s.heap.FunFrames base outer
 frf:∀b∈wu outer,H b=none
 dR:nP P w H s.heap
 bare:AllBare s.gens
noncomputable def CE(outer:List Env)(P:Program)(w:World)(H:Hp)(s:Shared)(Q:VK)(u:Value)(s':Shared):Prop:=
 ∃v H',s'.os=s.os/\AllBare s'.gens/\Un (wu outer) [] H H' s.heap s'.heap/\nP P w H' s'.heap/\RelV v u/\Q v H'
noncomputable def CR(CX:Bp)(outer:List Env)(P:Program)(w:World)(H:Hp)(s:Shared)(Q:VK)(E:XK)(r:Result)(s':Shared):Prop:=
 match r with
 |.ok (.ret u)=>CE outer P w H s Q u s'
 |.ok _=>False
 |.error e=>CX outer H s E e s'
structure cw(P:Program)(w:World)(K:PySem.W.Frag)(mg:Str->Option Value)(base:Heap)(CX:Bp)(k:Nat)(f:Addr)(fd:FuncData)(ps:List Str)(sp:Sp):Prop where
 len:∀vs H Q E,sp vs H Q E->vs.length=ps.length
 run:∀(A:Around) (outer:List Env) (s:Shared) (H:Hp) (args:Args) (us:List Value) (vs:List V) (Q:VK) (E:XK),bO k A->wL P w K mg base A outer s H->BindsTo s fd args (ps.zip us)->Vals vs us->sp vs H Q E->
  codeAny (model P w) A (.call (.ref f) args) (CR CX outer P w H s Q E) s
theorem cw.mono{P:Program}{w:World}{K:PySem.W.Frag}{mg:Str->Option Value}{base:Heap}{CX:Bp}{j k:Nat}{f:Addr}{fd:FuncData}{ps:List Str}{sp:Sp}(F:cw P w K mg base CX j f fd ps sp)(h:j<=k):
 cw P w K mg base CX k f fd ps sp:=⟨F.len,λA outer s H args us vs Q E hr=>F.run A outer s H args us vs Q E (hr.mono h)⟩
theorem cw.imp{P:Program}{w:World}{K:PySem.W.Frag}{mg:Str->Option Value}{base:Heap}{CX:Bp}{k:Nat}{f:Addr}{fd:FuncData}{ps:List Str}{sp Pn:Sp}(F:cw P w K mg base CX k f fd ps sp)
  (h:∀vs H Q E,Pn vs H Q E->sp vs H Q E):cw P w K mg base CX k f fd ps Pn:=
 ⟨λvs H Q E q=>F.len vs H Q E (h _ _ _ _ q),λA outer s H args us vs Q E hr he hb hv hs=>F.run A outer s H args us vs Q E hr he hb hv (h _ _ _ _ hs)⟩
theorem wL.make{P:Program}{w:World}{K:PySem.W.Frag}{mg:Str->Option Value}{base:Heap}{A:Around}{outer:List Env}{s:Shared}{H:Hp}(e:wL P w K mg base A outer s H)(C:Addr)(us:List Value)(kw:List (Str×Value)):
 wL P w K mg base (A.under (.builtin "type.__call__" ⟨.ref C::us,kw⟩)) outer s H:=⟨by first|exact e.frames|(simpa[Around.under,Code.envs,Code.isFrame,pushEnvs]using e.frames),e.mod,e.bs,e.bsz,e.funs,e.frf,e.dR,e.bare⟩
section
variable{X:Cx}{pins:List (Addr×Obj)}{σ:St}{H:Hp}{s s':Shared}
theorem Inv.Lg(I:Inv X pins σ H s):wL X.prog X.w X.K X.mg X.base X.A X.stack s H:=
 ⟨I.ok.frames,I.ok.mod,I.bs,Nat.le_trans I.ok.bsz I.sz,I.stack,I.rR,I.dR,I.bare⟩
theorem Inv.after{Q:VK}{u:Value}(I:Inv X pins σ H s)(h:CE X.stack X.prog X.w H s Q u s'):EP X pins σ Q u s':=by
 obtain⟨v,H',os,bare,un,dR,r,q⟩:=h
 obtain⟨hh,g,d,t,QH⟩:=s'
 obtain rfl:QH=s.os:=os
 exact⟨v,H',I.call (h':=hh) (g':=g) (d':=d) (t':=t) (ch:=[]) un dR bare (λb z=>absurd z (by simp)),r,q⟩
end
noncomputable def Lh(sp:Sp)(dvs:List V)(E:XK)(t:TA):TE:=λσ H Q=>t σ H λvs H1=>sp (vs++dvs) H1 Q E
noncomputable def Hc(C:Addr)(m:Str)(sp:Sp)(dvs:List V)(E:XK)(ta:TE)(t:TA):TE:=λσ H Q=>ta σ H λx H1=>∃a dx fs,x=.ref a/\H1 a=some (.ins C dx fs)/\fs.lookup m=none/\
 t σ H1 λvs H2=>sp (x::(vs++dvs)) H2 Q E
noncomputable def Li(C:Addr)(sp:Sp)(dvs:List V)(E:XK)(t:TA):TE:=λσ H Q=>t σ H λvs H1=>∀x dx,H1 x=none->H1 dx=none->dx≠x->
 sp (.ref x::(vs++dvs)) (upd (upd H1 dx (.own x)) x (.ins C dx [])) (λv H2=>v=.non/\Q (.ref x) H2) E
noncomputable def Binds(K:PySem.W.Frag)(fd:FuncData)(ps:List Str)(ds:List Value):Prop:=
 ∀(s:Shared) (us:List Value),K.In s.heap->(us++ds).length=ps.length->BindsTo s fd ⟨us,[]⟩ (ps.zip (us++ds))
theorem Binds.all{K:PySem.W.Frag}{fd:FuncData}{ps:List Str}(h:∀us:List Value,us.length=ps.length->bindArgs fd ⟨us,[]⟩=pure (ps.zip us)):Binds K fd ps []:=λs us _ hl=>by
 rw[List.append_nil]at hl⊢
 exact .of_eq (h us hl)
noncomputable def Passes(CX:Bp)(X:Cx)(E:XK):Prop:=∀(pins:List (Addr×Obj)) (σ:St) (H:Hp) (s:Shared) (e:Value) (s':Shared),Inv X pins σ H s->CX X.stack H s E e s'->X.xe e s'
section
variable{X:Cx}{CX:Bp}{k:Nat}{f C:Addr}{fd:FuncData}{ps:List Str}{sp:Sp}{dvs:List V}{ds:List Value}{E:XK}{x m:Str}{p pos apos:Pos}{e o:Expr}{es:List Expr}{ta:TE}{t:TA}
theorem mw{pins:List (Addr×Obj)}{σ:St}{H:Hp}{s:Shared}{Q:VK}{us:List Value}{vs:List V}(F:cw X.prog X.w X.K X.mg X.base CX k f fd ps sp)(hr:bO k X.A)(hb:Binds X.K fd ps ds)(hd:Vals dvs ds)(hx:Passes CX X E)
  (I:Inv X pins σ H s)(r:Vals vs us)(h:sp (vs++dvs) H Q E):wpAny (model X.prog X.w) X.A (call (.ref f) us) (EP X pins σ Q) X.xe s:=by
 have r2:Vals (vs++dvs) (us++ds):=r.append hd
 have hl:(us++ds).length=ps.length:=by rw[<-r2.length];exact F.len _ _ _ _ h
 refine wpAny_call (codeAny_mono (F.run X.A X.stack s H ⟨us,[]⟩ (us++ds) (vs++dvs) Q E hr I.Lg (hb s us I.oi hl) r2 h) λr s' hq=>?_)
 cases r with
 |error e=>exact hx pins σ H s e s' I hq
 |ok fl=>
  cases fl with
  |ret u=>exact I.after hq
  |next=>exact False.elim hq
  |brk=>exact False.elim hq
  |cont=>exact False.elim hq
theorem nR(F:cw X.prog X.w X.K X.mg X.base CX k f fd ps sp)(hr:bO k X.A)(hg:Gl X x)(hm:X.mg x=some (.ref f))(hk:PySem.W.keepIn X.K (.ref f)=true)(hb:Binds X.K fd ps ds)(hd:Vals dvs ds)(hx:Passes CX X E)
  (ha:PA X (e::es) t)(uD:autoParam ((x==("__debug__" :Str))=false) zD._auto_1)(he:autoParam (starEach (e::es) X.env=(false,eval e X.env)::starEach es X.env) zR._auto_1)(hpl:autoParam ((backTo pos (starEach es X.env)).any (·.1)=false) zR._auto_1):
  PE X (.Call (.Name x p) (e::es) [] pos) (Lh sp dvs E t):=by
 intro pins s σ H Q I h
 refine wpAny_Call_Name_kw (rT I hg hm ?_ uD)
 refine PySem.W.callWith_K (h₀:=X.base) I.ok.mod.kin hk (dz (ha pos pins s σ H _ I h) λus s1 ⟨vs,H1,I1,r,q⟩=>⟨I1.oi,?_⟩) he hpl
 exact mw F hr hb hd hx I1 r q
theorem EZ{pl:Sem Bool}(he:PE X o ta)(c:yq X.K C)(hm:Meth X.K C m f)(F:cw X.prog X.w X.K X.mg X.base CX k f fd ps sp)(hr:bO k X.A)(hb:Binds X.K fd ps ds)(hd:Vals dvs ds)(hx:Passes CX X E)(ha:PA X (e::es) t)
  (nI:autoParam (starEach (e::es) X.env=(false,eval e X.env)::starEach es X.env) zR._auto_1)(hpl:autoParam ((backTo pos (starEach es X.env)).any (·.1)=false) zR._auto_1)
  (ht:autoParam (eval (.Call (.Attribute o m apos) (e::es) [] pos) X.env=(do
    let ov<-eval o X.env
    standAt apos.atName
    let(f,first)<-holding [ov] (getMethod ov m pl)
    callWith pos f first (backTo pos (starEach (e::es) X.env)) (backToKw pos (keywordEach [] X.env)))) zR._auto_1):
  PE X (.Call (.Attribute o m apos) (e::es) [] pos) (Hc C m sp dvs E ta t):=by
 intro pins s σ H Q I h
 refine PySem.W.methodCall_KW (pl:=pl) (dz (he pins s σ H _ I h) λu s1 bW=>?_) ht
 obtain⟨x,H1,I1,rx,a,dx,fs,ex,ea,l,q⟩:=bW
 subst ex
 obtain rfl:u=Value.ref a:=rx
 refine iX I1 ea c hm l ?_
 refine PySem.W.callWith_K (first:=[.ref a]) (h₀:=X.base) I.ok.mod.kin hm.kp (dz (ha pos pins s1 σ H1 _ I1 q) λus s2 ⟨vs,H2,I2,r,q2⟩=>⟨I2.oi,?_⟩) nI hpl
 exact mw (us:=.ref a::us) (vs:=.ref a::vs) F hr hb hd hx I2 (.cons rfl r) q2
theorem BK{pl:Sem Bool}(he:PE X o ta)(c:yq X.K C)(hm:Meth X.K C m f)(F:cw X.prog X.w X.K X.mg X.base CX k f fd ps sp)(hr:bO k X.A)(hb:Binds X.K fd ps ds)(hd:Vals dvs ds)(hx:Passes CX X E)
  (ht:autoParam (eval (.Call (.Attribute o m apos) [] [] pos) X.env=(do
    let ov<-eval o X.env
    standAt apos.atName
    let(f,first)<-holding [ov] (getMethod ov m pl)
    callWith pos f first (backTo pos (starEach [] X.env)) (backToKw pos (keywordEach [] X.env)))) zR._auto_1):
  PE X (.Call (.Attribute o m apos) [] [] pos) (Hc C m sp dvs E ta BI):=by
 intro pins s σ H Q I h
 refine PySem.W.methodCall_KW (pl:=pl) (dz (he pins s σ H _ I h) λu s1 bW=>?_) ht
 obtain⟨x,H1,I1,rx,a,dx,fs,ex,ea,l,q⟩:=bW
 subst ex
 obtain rfl:u=Value.ref a:=rx
 refine iX I1 ea c hm l ?_
 exact PySem.W.callWith_K0 (first:=[.ref a]) I1.oi hm.kp (mw (us:=[.ref a]) (vs:=[.ref a]) F hr hb hd hx I1 (.cons rfl .nil) q)
structure Mk(K:PySem.W.Frag)(C f:Addr):Prop where
 makes:PySem.W.makesIn K C=true
 init:PySem.W.findIn K (.ref C) "__init__" =some (some (.ref f))
 fn:PySem.W.isFn K (.ref f)=true
 kp:PySem.W.keepIn K (.ref C)=true
theorem BL{pins:List (Addr×Obj)}{σ:St}{H:Hp}{s:Shared}{Q:VK}{us:List Value}{vs:List V}(M:Mk X.K C f)(F:cw X.prog X.w X.K X.mg X.base CX k f fd ps sp)(hr:bO (k+1) X.A)(hb:Binds X.K fd ps ds)(hd:Vals dvs ds)
  (hx:Passes CX X E)(I:Inv X pins σ H s)(r:Vals vs us)
  (h:∀x dx,H x=none->H dx=none->dx≠x->sp (.ref x::(vs++dvs)) (upd (upd H dx (.own x)) x (.ins C dx [])) (λv H2=>v=.non/\Q (.ref x) H2) E):
  wpAny (model X.prog X.w) X.A (call (.ref C) us) (EP X pins σ Q) X.xe s:=by
 have hq:=h (s.heap.objs.size+1) s.heap.objs.size (I.dR.fresh (Nat.le_succ _)) (I.dR.fresh (Nat.le_refl _)) (Nat.ne_of_lt (Nat.lt_succ_self _))
 have I2:=Inv.made (C:=C) I
 have r2:Vals (V.ref (s.heap.objs.size+1)::(vs++dvs)) (Value.ref (s.heap.objs.size+1)::(us++ds)):=.cons rfl (r.append hd)
 have hl:(Value.ref (s.heap.objs.size+1)::us++ds).length=ps.length:=by
  have e:=r2.length
  rw[F.len _ _ _ _ hq]at e
  exact e.symm
 refine wpAny_call (BH (f:=f) I.oi M.makes M.init (beq_iff_eq.mp M.fn) (codeAny_mono (F.run _ X.stack _ _ ⟨Value.ref (s.heap.objs.size+1)::us,[]⟩ (Value.ref (s.heap.objs.size+1)::(us++ds)) _ _ E (hr.make C us [])
  (I2.Lg.make C us []) (hb _ (Value.ref (s.heap.objs.size+1)::us) I2.oi hl) r2 hq) λr s' Lj=>?_))
 cases r with
 |error e=>exact hx pins σ _ _ e s' I2 Lj
 |ok fl=>
  cases fl with
  |ret u=>
   obtain⟨v,H',I3,rv,ev,q3⟩:=I2.after Lj
   subst ev
   exact⟨rv,⟨V.ref (s.heap.objs.size+1),H',I3,rfl,q3⟩⟩
  |next=>exact False.elim Lj
  |brk=>exact False.elim Lj
  |cont=>exact False.elim Lj
theorem E1(M:Mk X.K C f)(F:cw X.prog X.w X.K X.mg X.base CX k f fd ps sp)(hr:bO (k+1) X.A)(hg:Gl X x)(hm:X.mg x=some (.ref C))(hb:Binds X.K fd ps ds)(hd:Vals dvs ds)(hx:Passes CX X E)
  (ha:PA X (e::es) t)(uD:autoParam ((x==("__debug__" :Str))=false) zD._auto_1)(he:autoParam (starEach (e::es) X.env=(false,eval e X.env)::starEach es X.env) zR._auto_1)(hpl:autoParam ((backTo pos (starEach es X.env)).any (·.1)=false) zR._auto_1):
  PE X (.Call (.Name x p) (e::es) [] pos) (Li C sp dvs E t):=by
 intro pins s σ H Q I h
 refine wpAny_Call_Name_kw (rT I hg hm ?_ uD)
 refine PySem.W.callWith_K (h₀:=X.base) I.ok.mod.kin M.kp (dz (ha pos pins s σ H _ I h) λus s1 ⟨vs,H1,I1,r,q⟩=>⟨I1.oi,?_⟩) he hpl
 exact BL M F hr hb hd hx I1 r q
end
noncomputable def PK(X:Cx)(Lk:List Keyword)(t:TA):Prop:=
 ∀(pos:Pos) (pins:List (Addr×Obj)) (s:Shared) (σ:St) (H:Hp) (Q:List V->Hp->Prop),Inv X pins σ H s->t σ H Q->wpAny (model X.prog X.w) X.A (evalAll ((backToKw pos (keywordEach Lk X.env)).map (·.2))) (AP X pins σ Q) X.xe s
section
variable{X:Cx}{CX:Bp}{k:Nat}{f C:Addr}{fd:FuncData}{ps ks:List Str}{sp:Sp}{E:XK}{x m:Str}{p pos apos kpos:Pos}{e o:Expr}{es:List Expr}{Lk:List Keyword}{te ta:TE}{t tk:TA}{nm:Option Str}
theorem IF:PK X [] BI:=λ_ _ _ _ H Q I h=>wpAny_evalAll_nil ⟨[],H,I,.nil,h⟩
theorem E2(ha:PE X e te)(hr:PK X Lk t):PK X (⟨nm,e,kpos⟩::Lk) (BJ te t):=by
 intro pos pins s σ H Q I h
 show wpAny _ _ (evalAll ((do let v<-eval e X.env;standAt pos;pure v)::(backToKw pos (keywordEach Lk X.env)).map (·.2))) _ _ s
 refine wpAny_evalAll_cons (wpAny_bind (dz (ha pins s σ H _ I h) λu s1 ⟨x,H1,I1,r1,q1⟩=>wpAny_bind (wpAny_standAt (wpAny_pure ?_))))
 exact dz (hr pos pins s1 σ H1 _ I1 q1) λus s2 ⟨xs,H2,I2,r2,q2⟩=>⟨x::xs,H2,I2,.cons r1 r2,q2⟩
variable{g:List Value->List Value->List Value}{gV:List V->List V->List V}
end
structure d5(N P:List Str)(sc:Scope):Prop where
 kind:sc.kind=.function
 co:sc.isCoroutine=false
 gen:sc.isGenerator=false
 nd:N.Nodup
 pre:N.take P.length=P
 par:∀x∈P,sc.names.lookup x=some .local\/sc.names.lookup x=some .cell
 nofree:∀y∈sc.names,y.2≠.free
theorem qC{kindOf:Str->Option NameKind}{x:Str}:∀{binds:List (Str×Value)} {m:Str->Option Value},(∀v,(x,v)∉binds)->bindL kindOf binds m x=m x
 |[],_,_=>rfl
 |(n,v)::r,m,h=>by
  unfold bindL
  rw[qC λw hw=>h w (List.mem_cons_of_mem _ hw)]
  split
  ·have:x≠n:=by rintro rfl;exact h v List.mem_cons_self
   simp[this]
  ·rfl
theorem qD{kindOf:Str->Option NameKind}{x:Str}:∀{binds:List (Str×Value)} {m:Str->Option Value},(∀v,(x,v)∉binds)->bindC kindOf binds m x=m x
 |[],_,_=>rfl
 |(n,v)::r,m,h=>by
  unfold bindC
  rw[qD λw hw=>h w (List.mem_cons_of_mem _ hw)]
  split
  ·rfl
  ·have:x≠n:=by rintro rfl;exact h v List.mem_cons_self
   simp[this]
theorem qE{kindOf:Str->Option NameKind}{x:Str}{v:Value}:∀{P:List Str} {vs:List Value} {i:Nat} {m:Str->Option Value},P.Nodup->P[i]?=some x->vs[i]?=some v->kindOf x=some .local->
  bindL kindOf (P.zip vs) m x=some v
 |[],_,_,_,_,h,_,_=>by simp at h
 |_::_,[],_,_,_,_,h,_=>by simp at h
 |p::P,w::vs,0,m,nd,h1,h2,hk=>by
  simp at h1 h2;subst h1;subst h2
  show bindL kindOf ((p,w)::P.zip vs) m p=_
  unfold bindL
  rw[qC λv hv=>(List.nodup_cons.mp nd).1 (List.of_mem_zip hv).1,if_pos hk]
  simp
 |p::P,w::vs,i+1,m,nd,h1,h2,hk=>by
  show bindL kindOf ((p,w)::P.zip vs) m x=_
  unfold bindL
  exact qE (i:=i) (List.nodup_cons.mp nd).2 (by simpa using h1) (by simpa using h2) hk
theorem qF{kindOf:Str->Option NameKind}{x:Str}{v:Value}:∀{P:List Str} {vs:List Value} {i:Nat} {m:Str->Option Value},P.Nodup->P[i]?=some x->vs[i]?=some v->kindOf x≠some .local->
  bindC kindOf (P.zip vs) m x=some v
 |[],_,_,_,_,h,_,_=>by simp at h
 |_::_,[],_,_,_,_,h,_=>by simp at h
 |p::P,w::vs,0,m,nd,h1,h2,hk=>by
  simp at h1 h2;subst h1;subst h2
  show bindC kindOf ((p,w)::P.zip vs) m p=_
  unfold bindC
  rw[qD λv hv=>(List.nodup_cons.mp nd).1 (List.of_mem_zip hv).1,if_neg hk]
  simp
 |p::P,w::vs,i+1,m,nd,h1,h2,hk=>by
  show bindC kindOf ((p,w)::P.zip vs) m x=_
  unfold bindC
  exact qF (i:=i) (List.nodup_cons.mp nd).2 (by simpa using h1) (by simpa using h2) hk
noncomputable def start(N:List Str)(vs:List V):St:=vs.map some++List.replicate (N.length-vs.length) none
noncomputable def ky(CX:Bp)(P:Program)(w:World)(K:PySem.W.Frag)(mg:Str->Option Value)(base:Heap)(N:List Str)(qual:Str)(scope:Scope)(f:Addr)(cd:Value)(A:Around)(outer:List Env)(s:Shared)(H:Hp)(E:XK):Cx where
 prog:=P
 w:=w
 K:=K
 mg:=mg
 base:=base
 A:=A.deeper (envOfC qual scope s.heap.objs.size f cd)
 N:=N
 s₀:=s
 H₀:=H
 env:=envOfC qual scope s.heap.objs.size f cd
 outer:=outer
 stack:=envOfC qual scope s.heap.objs.size f cd::outer
 ex:=[]
 calm:=true
 fn:=λ_=>true
 pn:=[]
 xe:=λe s'=>wpAny (model P w) (A.deeper (envOfC qual scope s.heap.objs.size f cd)) (leaving (envOfC qual scope s.heap.objs.size f cd) e) (λ_ IG=>CX outer H s E e IG) (λe' IG=>CX outer H s E e' IG) s'
theorem uE{sc:Scope}{n:Nat}{x:Str}(h:sc.names.lookup x=some .cell):∃c,(cellsFrom n sc.names []).lookup x=some c:=by
 have q:=PySem.W.cellsFrom_some sc.names n [] (.inl h)
 exact Option.isSome_iff_exists.mp q
theorem z8{CX:Bp}{P:Program}{w:World}{K:PySem.W.Frag}{mg:Str->Option Value}{base:Heap}{N ps:List Str}{qual:Str}{scope:Scope}{f:Addr}{cd:Value}{A:Around}{outer:List Env}{s s1:Shared}{H:Hp}{E:XK}{us:List Value}{vs:List V}
  (S:d5 N ps scope)(hd:A.handled=none)(e0:wL P w K mg base A outer s H)(hl:vs.length=ps.length)(r:Vals vs us)
  (x:InCallC s s.heap.objs.size (bindL (envOfC qual scope s.heap.objs.size f cd).kindOf (ps.zip us) λ_=>none) (cellsFrom (s.heap.objs.size+1) scope.names []) (bindC (envOfC qual scope s.heap.objs.size f cd).kindOf (ps.zip us) λ_=>none) s1):
  Inv (ky CX P w K mg base N qual scope f cd A outer s H E) [] (start N vs) H s1:=by
 have hpl:ps.length<=N.length:=by have:=congrArg List.length S.pre;rw[List.length_take]at this;omega
 obtain⟨h1,tk,rfl,hk⟩:=x.done
 have Ll:∀b:Addr,b∉(ky CX P w K mg base N qual scope f cd A outer s H E).ex:=λb z=>absurd (show b∈([]:List Addr)from z) (by simp)
 refine⟨⟨e0.mod,S.kind,rfl,rfl,Nat.le_refl _,λy z c h1 h2=>?_,λy hy=>?_,λy c _ h=>?_,λ_=>hd,Around.frames_deeper e0.frames,.inr ⟨rfl,rfl⟩,λb z=>absurd z (Ll b),e0.bs,e0.bsz,λb _ _=>Ll b,λb z=>absurd z (Ll b),e0.funs,e0.frf⟩,
  rfl,e0.bare,Un.kept hk,⟨_,x.toInCall.ns,λi y v h1 h2 h3=>?_⟩,λy c h=>⟨_,x.cell y c h⟩,e0.dR.fresh (Nat.le_refl _),λy c h=>?_,λp hp=>absurd (show p∈([]:List (Addr×Obj))from hp) (by simp),e0.dR.kept hk,?_⟩
 ·exact name_of_addr x.apart (PySem.mem_of_lookup h1) (PySem.mem_of_lookup h2)
 ·have hy:scope.names.lookup y=some .cell\/scope.names.lookup y=some .free:=hy
  rcases hy with hy|hy
  ·exact uE hy
  ·exact absurd rfl (S.nofree _ (PySem.mem_of_lookup hy))
 ·exact Nat.le_of_lt (x.above y c (PySem.mem_of_lookup h))
 ·have hi:i<vs.length:=by
    unfold start at h2
    by_cases hi:i<vs.length
    ·exact hi
    ·rw[List.getElem?_append_right (by simpa using hi)]at h2
     rw[List.getElem?_replicate]at h2
     split at h2<;>cases h2
  have ha:vs[i]?=some v:=by
   unfold start at h2
   rw[List.getElem?_append_left (by simpa using hi),List.getElem?_map]at h2
   cases e:vs[i]? with
   |none=>rw[e]at h2;cases h2
   |some a=>rw[e]at h2;cases h2;rfl
  obtain⟨u,hu,rv⟩:=r.get ha
  have hp:ps[i]?=some y:=by
   rw[<-S.pre,List.getElem?_take_of_lt (by omega)];exact h1
  have Po:ps.Nodup:=by rw[<-S.pre];exact S.nd.sublist (List.take_sublist _ _)
  refine⟨u,rv,?_⟩
  rcases S.par y (List.mem_of_getElem? hp)with k|k
  ·exact .inl ⟨k,qE Po hp hu k⟩
  ·obtain⟨c,e⟩:=uE (n:=s.heap.objs.size+1) k
   refine .inr ⟨.inl k,c,e,?_⟩
   have q:=x.cell y c e
   rw[qF Po hp hu (by show scope.names.lookup y≠_;rw[k];decide)]at q
   exact q
 ·exact e0.dR.fresh (Nat.le_of_lt (x.above y c (PySem.mem_of_lookup h)))
 ·unfold start
  show _=N.length
  rw[List.length_append,List.length_map,List.length_replicate]
  omega
theorem Ln{CX:Bp}{P:Program}{w:World}{K:PySem.W.Frag}{mg:Str->Option Value}{base:Heap}{k:Nat}{f:Addr}{name qual:Str}{params:Arguments}{body:List Stmt}{scope:Scope}{dV kV doc pm eC ct oc:Value}{an od:Option Addr}
  {Hd:Array (Option Value)}{N ps:List Str}{sp:Sp}(lk:K.lookup f=some ⟨oc,od,.func (PySem.W.fnOf name qual params body scope dV kV doc pm an eC ct),Hd⟩)(om:PySem.W.codeIn K eC qual=true)(S:d5 N ps scope)
  (len:∀vs H Q E,sp vs H Q E->vs.length=ps.length)
  (BM:∀(A:Around) (outer:List Env) (s:Shared) (H:Hp) (vs:List V) (Q:VK) (E:XK),bO k (A.deeper (envOfC qual scope s.heap.objs.size f eC))->sp vs H Q E->
    ∃t,rS (ky CX P w K mg base N qual scope f eC A outer s H E) body t/\t {nx:=λ_ H'=>Q .non H',rt:=Q} (start N vs) H):
  cw P w K mg base CX (k+1) f (PySem.W.fnOf name qual params body scope dV kV doc pm an eC ct) ps sp:=by
 refine⟨len,λA outer s H args us vs Q E hr e0 hb r He=>?_⟩
 have hl:=len _ _ _ _ He
 have KX:K.In s.heap:=e0.mod.kin.keeps λb o e=>(e0.bs b o e).1
 have lim:s.heap.NoLimit:=e0.mod.nolimit.keeps λb o e=>(e0.bs b o e).1
 have Lo:∀y∈ps.zip us,scope.names.lookup y.1=some .local\/(scope.names.lookup y.1=some .cell/\((cellsFrom (s.heap.objs.size+1) scope.names []).lookup y.1).isSome=true):=λ⟨n,v⟩ hy=>by
  rcases S.par n (List.of_mem_zip hy).1 with q|q
  ·exact .inl q
  ·exact .inr ⟨q,PySem.W.cellsFrom_some _ _ _ (.inl q)⟩
 refine codeAny_call_function hr.depth (KX _ _ lk) rfl S.co S.gen rfl (PySem.W.codeRec_of KX om) (hb _ _ _ _ ?_)
 refine wpAny_newFunctionEnv_cells S.kind Lo λenv he s1 x=>?_
 subst he
 refine⟨lim.keeps x.toInCall.keep,codeAny_func ?_⟩
 obtain⟨t,ht,hq⟩:=BM A outer s H vs Q E (hr.deeper _) He
 have I:Inv (ky CX P w K mg base N qual scope f eC A outer s H E) [] (start N vs) H s1:=z8 S hr.hd e0 hl r x
 refine wpAny_mono (ht [] s1 (start N vs) H _ I hq) (λfl s' hs=>?_) λe s' hs=>hs
 have fin:∀{σ':St} {H':Hp} {v:V} {u:Value},Inv (ky CX P w K mg base N qual scope f eC A outer s H E) [] σ' H' s'->RelV v u->Q v H'->CE outer P w H s Q u s':=
  λ{σ' H' v u} J rv q=>⟨v,H',J.os,J.bare,J.base,J.dR,rv,q⟩
 cases fl with
 |ret u=>
  obtain⟨v,σ',H',J,rv,q⟩:=hs
  exact fin J rv q
 |next=>
  obtain⟨σ',H',J,q⟩:=hs
  exact fin (v:=V.non) (u:=Value.none) J rfl q
 |brk=>
  obtain⟨_,_,_,q⟩:=hs
  exact False.elim q
 |cont=>
  obtain⟨_,_,_,q⟩:=hs
  exact False.elim q
section
variable{X:Cx}{x:Str}{p pos:Pos}{e:Expr}{es:List Expr}{t:TA}{id T:String}{r:List V->Hp->VK->Prop}
noncomputable def Pp(r:List V->Hp->VK->Prop)(t:TA):TE:=λσ H Q=>t σ H λvs H1=>r vs H1 Q
theorem iJ(hc:gH X (.builtin id) r)(hg:Gl X x)(hm:X.mg x=none)(hv:bootBuiltins x=some (.builtin id))(ha:PA X (e::es) t)(hn:autoParam (x≠ "__name__") zD._auto_1)(uD:autoParam ((x==("__debug__" :Str))=false) zD._auto_1)
  (he:autoParam (starEach (e::es) X.env=(false,eval e X.env)::starEach es X.env) zR._auto_1)(hpl:autoParam ((backTo pos (starEach es X.env)).any (·.1)=false) zR._auto_1):PE X (.Call (.Name x p) (e::es) [] pos) (Pp r t):=by
 intro pins s σ H Q I h
 refine wpAny_Call_Name_kw (jq I hg hm hv ?_ hn uD)
 exact PyProof.Rows.callWith_builtin1 (dz (ha pos pins s σ H _ I h) λus s1 ⟨vs,H1,I1,r1,q1⟩=>hc pins s1 σ H1 vs us Q I1 r1 q1) he hpl
theorem qG(hc:gH X (.type T) r)(hg:Gl X x)(hm:X.mg x=none)(hv:bootBuiltins x=some (.type T))(ha:PA X (e::es) t)(hn:autoParam (x≠ "__name__") zD._auto_1)(uD:autoParam ((x==("__debug__" :Str))=false) zD._auto_1)
  (he:autoParam (starEach (e::es) X.env=(false,eval e X.env)::starEach es X.env) zR._auto_1)(hpl:autoParam ((backTo pos (starEach es X.env)).any (·.1)=false) zR._auto_1):PE X (.Call (.Name x p) (e::es) [] pos) (Pp r t):=by
 intro pins s σ H Q I h
 refine wpAny_Call_Name_kw (jq I hg hm hv ?_ hn uD)
 exact PyProof.Rows.callWith_type1 (dz (ha pos pins s σ H _ I h) λus s1 ⟨vs,H1,I1,r1,q1⟩=>hc pins s1 σ H1 vs us Q I1 r1 q1) he hpl
end
end L2
namespace HT
open PySem PyProof.Rows
noncomputable def lexLt:List Int->List Int->Bool
 |[],[]=>false
 |[],_::_=>true
 |_::_,[]=>false
 |x::xs,y::ys=>if x=y then lexLt xs ys else decide (x<y)
theorem kM(x y:Int)(xs ys:List Int):lexLt (x::xs) (y::ys)=if x=y then lexLt xs ys else decide (x<y):=rfl
theorem qc:lexLt [] []=false:=rfl
theorem ot(y:Int)(ys:List Int):lexLt [] (y::ys)=true:=rfl
theorem ou(x:Int)(xs:List Int):lexLt (x::xs) []=false:=rfl
theorem BN(A:Around)(s:Shared)(a:Int)(t:Tok)(c:Int)(u:Tok):∃e,SeqAt.EqAt A s (.int a t) (.int c u) e/\(e=true↔a=c):=
 ⟨(a==c),SeqAt.EqAt.int_int a t c u,by simp⟩
theorem BO(A:Around)(s:Shared)(a:Int)(t:Tok)(c:Int)(u:Tok)(prog:Program)(w:World)(E:Value->Shared->Prop)(Q:Value->Shared->Prop)(h:Q (.bool (decide (a<c))) s):
  wpAny (model prog w) A (richCompare .Lt (.int a t) (.int c u)) Q E s:=
 (PyProof.Rows.lt_int h:wpAny (model prog w) A (compareOp .Lt (.int a t) (.int c u)) Q E s)
section
variable{prog:Program}{w:World}{A:Around}{E:Value->Shared->Prop}{s:Shared}
noncomputable def wo(n d:Nat):Option Int->Nat
 |none=>d
 |some v=>if v<0 then(v+(n:Int)).toNat else min v.toNat n
end
end HT
namespace L2
open PySem PySem.Spec PyProof.Rows
noncomputable abbrev TO:=St->Hp->(Option Int->Hp->Prop)->Prop
noncomputable def PO(X:Cx)(e:Option Expr)(t:TO):Prop:=
 ∀(pins:List (Addr×Obj)) (s:Shared) (σ:St) (H:Hp) (Q:Option Int->Hp->Prop),Inv X pins σ H s->t σ H Q->
  wpAny (model X.prog X.w) X.A (evalPart e X.env) (λu s'=>∃o H',Inv X pins σ H' s'/\IsPart u o/\Q o H') X.xe s
noncomputable def E3:TO:=λ_ H Q=>Q none H
noncomputable def Lp(t:TE):TO:=λσ H Q=>t σ H λx H1=>∃i,x=.int i/\Q (some i) H1
theorem intsAre_of{ns:List Int}:∀{us:List Value},Vals (ns.map V.int) us->IntsAre us ns:=by
 induction ns with
 |nil=>intro us r;rw[List.map_nil]at r;cases r;exact .nil
 |cons n ns ih=>
  intro us r
  rw[List.map_cons]at r
  cases r with
  |cons r1 r2=>
   obtain⟨t,e⟩:=r1
   subst e
   exact .cons n t (ih r2)
section
variable{X:Cx}{e:Expr}{te:TE}{lo hi:Option Expr}{tl th:TO}{pos p2:Pos}
theorem E4:PO X none E3:=by
 intro pins s σ H Q I h
 rw[evalPart_none]
 exact wpAny_pure ⟨none,H,I,.none,h⟩
theorem E5(h:PE X e te):PO X (some e) (Lp te):=by
 intro pins s σ H Q I hw
 rw[evalPart_some]
 refine dz (h pins s σ H _ I hw) λu s1 bW=>?_
 obtain⟨x,H1,I1,r1,q1⟩:=bW
 obtain⟨i,rfl,q⟩:=q1
 obtain⟨t,rfl⟩:=r1
 exact⟨some i,H1,I1,.int i t,q⟩
noncomputable def Pq(X:Cx)(r:V->Option Int->Option Int->Hp->VK->Prop):Prop:=
 ∀(pins:List (Addr×Obj)) (s:Shared) (σ:St) (H:Hp) (x:V) (v vl vu:Value) (lo hi:Option Int) (sl:Addr) (Q:VK),Inv X pins σ H s->RelV x v->s.heap.IsSliceOf sl vl vu .none->IsPart vl lo->IsPart vu hi->r x lo hi H Q->
  ∃T id,typeLookup (.type T) "__getitem__" =pure (some (.builtin id))/\s.TypeIs v T/\wpAny (model X.prog X.w) X.A (getItem v (.ref sl)) (EP X pins σ Q) X.xe s
noncomputable def QI(r:V->Option Int->Option Int->Hp->VK->Prop)(te:TE)(tl th:TO):TE:=λσ H Q=>te σ H λx H1=>tl σ H1 λl H2=>th σ H2 λu H3=>r x l u H3 Q
theorem BP{r:V->Option Int->Option Int->Hp->VK->Prop}(hr:Pq X r)(he:PE X e te)(hl:PO X lo tl)(hu:PO X hi th):PE X (.Subscript e (.Slice lo hi none p2) pos) (QI r te tl th):=by
 intro pins s σ H Q I h
 refine Subscript_ (dz (he pins s σ H _ I h) λv s1 bW=>?_)
 obtain⟨x,H1,I1,r1,q1⟩:=bW
 refine wpAny_Slice (dz (hl pins s1 σ H1 _ I1 q1) λvl s2 ⟨l,H2,I2,pl,q2⟩=>dz (hu pins s2 σ H2 _ I2 q2) λvu s3 bW=>?_)
 obtain⟨u,H3,I3,pu,q3⟩:=bW
 rw[evalPart_none]
 refine wpAny_pure ?_
 have I4:Inv X pins σ H3 {s3 with heap:=s3.heap.push {cls:=.type "slice",data:=.fields #[vl,vu,.none]}}:=I3.kept (t':=s3.toks) λb ob q=>Heap.get?_push_of_some _ q
 obtain⟨T,id,hT,ht,hg⟩:=hr pins {s3 with heap:=s3.heap.push {cls:=.type "slice",data:=.fields #[vl,vu,.none]}} σ H3 x v vl vu l u s3.heap.objs.size Q I4 r1 (Heap.IsSliceOf.new ..) pl pu q3
 show wpAny (model X.prog X.w) X.A (subscriptTail e (.Slice lo hi none p2) v (.ref s3.heap.objs.size)) (EP X pins σ Q) X.xe {s3 with heap:=s3.heap.push {cls:=.type "slice",data:=.fields #[vl,vu,.none]}}
 exact tail_any (ops:=[.ref s3.heap.objs.size,v]) ht hT hg (by with_unfolding_all rfl)
noncomputable def Aa(xs:List V)(lo hi:Option Int):List V:=(xs.drop (HT.wo xs.length 0 lo)).take (HT.wo xs.length xs.length hi-HT.wo xs.length 0 lo)
theorem uF(xs:List V)(lo hi:Option Int):(Aa xs lo hi).length<=xs.length:=by
 unfold Aa
 rw[List.length_take,List.length_drop]
 omega
end
noncomputable def Kr(n:Nat)(i:Int):Option Nat:=if 0<=i then(if i<n then some i.toNat else none)else if-(n:Int)<=i then some (i+n).toNat else none
noncomputable def Hf{α:Type}(xs:List α)(i:Int):Option α:=(Kr xs.length i).bind λj=>xs[j]?
theorem yr{n:Nat}{i:Int}{j:Nat}(h:Kr n i=some j):seqIndex? i n=some j/\j<n/\-(n:Int)<=i/\i<n:=by
 unfold Kr at h
 by_cases h0:0<=i
 ·rw[if_pos h0]at h
  by_cases h1:i<n
  ·rw[if_pos h1]at h
   have e:i.toNat=j:=Option.some.inj h
   exact⟨by rw[seqIndex_of h0 h1,e],by omega,by omega,h1⟩
  ·rw[if_neg h1]at h;cases h
 ·rw[if_neg h0]at h
  by_cases h1:-(n:Int)<=i
  ·rw[if_pos h1]at h
   have e:(i+n).toNat=j:=Option.some.inj h
   exact⟨by rw[seqIndex_neg (by omega) h1,e],by omega,h1,by omega⟩
  ·rw[if_neg h1]at h;cases h
theorem rZ{α:Type}{xs:List α}{i:Int}{v:α}(h:Hf xs i=some v):∃j,seqIndex? i xs.length=some j/\xs[j]?=some v/\j<xs.length/\-(xs.length:Int)<=i/\i<xs.length:=by
 unfold Hf at h
 cases e:Kr xs.length i with
 |none=>rw[e]at h;cases h
 |some j=>
  rw[e]at h
  obtain⟨h1,h2,h3,h4⟩:=yr e
  exact⟨j,h1,h,h2,h3,h4⟩
noncomputable def r9(b:Expr):Prop:=∀o i,subscripted b false o i=operate [o,i] (getItem o i)
noncomputable def E6(X:Cx)(r:R2):Prop:=
 ∀(value slice:Expr) (pins:List (Addr×Obj)) (s:Shared) (σ:St) (H:Hp) (x y:V) (v u:Value) (Q:VK),Inv X pins σ H s->RelV x v->RelV y u->r x y H Q->
  subscripted slice false v u=operate [v,u] (getItem v u)->wpAny (model X.prog X.w) X.A (subscriptTail value slice v u) (EP X pins σ Q) X.xe s
noncomputable def MX(X:Cx)(id:String)(r:V->List V->Hp->VK->Prop):Prop:=
 ∀(pins:List (Addr×Obj)) (s:Shared) (σ:St) (H:Hp) (x:V) (xs:List V) (v:Value) (us:List Value) (Q:VK),Inv X pins σ H s->RelV x v->Vals xs us->r x xs H Q->
  wpAny (model X.prog X.w) X.A (call (.builtin id) (v::us)) (EP X pins σ Q) X.xe s
section
variable{X:Cx}{a b:Expr}{ta tb:TE}{pos:Pos}
theorem E6.or{r r':R2}(h:E6 X r)(h':E6 X r'):E6 X (λx y H Q=>r x y H Q\/r' x y H Q):=by
 intro value slice pins s σ H x y v u Q I rx ry q hs
 rcases q with q|q
 ·exact h value slice pins s σ H x y v u Q I rx ry q hs
 ·exact h' value slice pins s σ H x y v u Q I rx ry q hs
theorem Hg{r:R2}(hr:E6 X r)(ha:PE X a ta)(hb:PE X b tb)(hs:r9 b):PE X (.Subscript a b pos) (K5 r ta tb):=by
 intro pins s σ H Q I h
 exact Subscript_ (Il ha hb I h λv u s2 x y H2 I2 rx ry q=>hr a b pins s2 σ H2 x y v u Q I2 rx ry q (hs _ _))
noncomputable def Lq(K:PySem.W.Frag):R2:=λx y H Q=>∃p xs i v,x=.ref p/\y=.int i/\fQ K H p xs/\Hf xs i=some v/\Q v H
noncomputable def Lr(K:PySem.W.Frag):R2:=λx y H Q=>∃p xs i v,x=.ref p/\y=.int i/\pY K H p xs/\Hf xs i=some v/\Q v H
noncomputable def Ls:R2:=λx y H Q=>∃z i c,x=.str z/\y=.int i/\z.length<=sizeLine/\Hf z.cps.toList i=some c/\Q (.str ⟨#[c]⟩) H
theorem yt:E6 X (Lq X.K):=by
 intro value slice pins s σ H x y v u Q I rx ry h hs
 obtain⟨p,xs,i,z,rfl,rfl,hq,he,q⟩:=h
 cases rx
 obtain⟨t,rfl⟩:=ry
 obtain⟨its,r,pl,hz⟩:=I.list hq
 obtain⟨j,h1,h2,h3,h4,h5⟩:=rZ he
 obtain⟨w,ew,NQ⟩:=r.get h2
 have hl:=r.length
 have hn:=kK
 have fin:EP X pins σ Q w s:=⟨z,H,I,NQ,q⟩
 by_cases h0:0<=i
 ·have hj:i.toNat=j:=by
    rw[seqIndex_of h0 h5]at h1
    exact Option.some.inj h1
  exact item_listR pl.isList h0 (by omega) (by rw[hj];simpa using ew) fin hs
 ·have hj:(i+(its.toArray.size:Int)).toNat=j:=by
    rw[seqIndex_neg (by omega) h4]at h1
    rw[List.size_toArray,<-hl]
    exact Option.some.inj h1
  exact subscriptTail_builtinR (x:=w) pl.isList.typeIs slot_list_getitem.lookup
   (wpAny_getItem_list_neg (Q:=λr s'=>r=w/\EP X pins σ Q r s') pl.isList (by omega) (by rw[List.size_toArray]<;>omega) (by omega) (by rw[hj];simpa using ew) ⟨rfl,fin⟩) hs
theorem IH:E6 X (Lr X.K):=by
 intro value slice pins s σ H x y v u Q I rx ry h hs
 obtain⟨p,xs,i,z,rfl,rfl,hq,he,q⟩:=h
 cases rx
 obtain⟨t,rfl⟩:=ry
 obtain⟨its,r,pl,hz⟩:=I.tuple hq
 obtain⟨j,h1,h2,h3,h4,h5⟩:=rZ he
 obtain⟨w,ew,NQ⟩:=r.get h2
 have hl:=r.length
 have hn:=kK
 have fin:EP X pins σ Q w s:=⟨z,H,I,NQ,q⟩
 exact subscriptTail_builtinR (x:=w) pl.typeIs slot_tuple_getitem.lookup
  (getItem_tuple (j:=j) (Q:=λr s'=>r=w/\EP X pins σ Q r s') pl (by omega) (by omega) (by rw[List.size_toArray,<-hl];exact h1) (by simpa using ew) ⟨rfl,fin⟩) hs
theorem II:E6 X Ls:=by
 intro value slice pins s σ H x y v u Q I rx ry h hs
 obtain⟨z,i,c,rfl,rfl,hz,he,q⟩:=h
 obtain⟨t,rfl⟩:=rx
 obtain⟨t',rfl⟩:=ry
 obtain⟨j,h1,h2,h3,h4,h5⟩:=rZ he
 have hl:z.cps.toList.length=z.length:=by simp[Str.length]
 rw[hl]at h1 h4 h5
 have hn:=kK
 exact tail_any (typeIs_str s z t) slot_str_getitem.lookup (getItem_str (c:=c) (by
  have e1:decide (i< -(2^63:Int))=false:=decide_eq_false (by omega)
  have e2:decide (i≥2^63)=false:=decide_eq_false (by omega)
  rw[e1,e2,Bool.or_false]) (by rw[h1];simpa using h2) ⟨.str ⟨#[c]⟩,H,I.tok _,⟨_,rfl⟩,q⟩) hs
noncomputable def QJ(K:PySem.W.Frag):R2:=λx y H Q=>Lq K x y H Q\/Lr K x y H Q\/Ls x y H Q
theorem IJ:E6 X (QJ X.K):=yt.or (IH.or II)
theorem wM(its:List Value)(n j:Nat)(u:Value):Obj.mapSeq (·.setIfInBounds j u) {cls:=.type "list",data:=.seq its.toArray n}={cls:=.type "list",data:=.seq (its.set j u).toArray n}:=by
 simp[Obj.mapSeq]
theorem Inv.lst{pins:List (Addr×Obj)}{σ:St}{H:Hp}{s:Shared}{p:Addr}{xs:List V}(I:Inv X pins σ H s)(h:H p=some (.lst xs)):
  ∃(its:List Value) (n:Nat),Vals xs its/\s.heap.get? p=some {cls:=.type "list",data:=.seq its.toArray n}/\xs.length<=sizeLine:=by
 obtain⟨z,its,n,r,e⟩:=I.dR p _ h
 exact⟨its,n,r,e,z⟩
theorem Inv.IK{pins:List (Addr×Obj)}{σ:St}{H:Hp}{s:Shared}{p:Addr}{xs ys:List V}{its its':List Value}{n n':Nat}{f:Obj->Obj}(I:Inv X pins σ H s)(h:H p=some (.lst xs))
  (ho:s.heap.get? p=some {cls:=.type "list",data:=.seq its.toArray n})(hf:f {cls:=.type "list",data:=.seq its.toArray n}={cls:=.type "list",data:=.seq its'.toArray n'})(r:Vals ys its')(hz:ys.length<=sizeLine)(t:Nat):
  Inv X pins σ (upd H p (.lst ys)) {s with heap:=s.heap.update p f,toks:=t}:=by
 have e:(s.heap.update p f).get? p=some {cls:=.type "list",data:=.seq its'.toArray n'}:=by
  rw[Heap.get?_update_self f ho (by rw[hf]<;>rfl),hf]
 refine I.write (x:=p) (e:=p) (by rw[h];trivial) (.inl rfl) (λb u hb q=>(Heap.get?_update_other _ _ (Ne.symm hb)).trans q) ⟨_,e⟩ ?_
 exact⟨hz,its',n',r,e⟩
noncomputable def Lu:V->V->V->Hp->(Hp->Prop)->Prop:=λo i v H Q=>∃p xs k j,o=.ref p/\i=.int k/\H p=some (.lst xs)/\Kr xs.length k=some j/\Q (upd H p (.lst (xs.set j v)))
theorem set_list:KR X Lu:=by
 intro pins s σ H o i v ov iv u Q I ro ri rv h
 obtain⟨p,xs,k,j,rfl,rfl,hp,hj,q⟩:=h
 cases ro
 obtain⟨t,rfl⟩:=ri
 obtain⟨its,n,r,ho,hz⟩:=I.lst hp
 obtain⟨h1,h2,h3,h4⟩:=yr hj
 have hl:=r.length
 have hn:=kK
 have I':Inv X pins σ (upd H p (.lst (xs.set j v))) {s with heap:=s.heap.update p (Obj.mapSeq (·.setIfInBounds j u))}:=
  I.IK hp ho (wM its n j u) (r.set rv j) (by rw[List.length_set];exact hz) s.toks
 by_cases h0:0<=k
 ·have hk:k.toNat=j:=by
    rw[seqIndex_of h0 h4]at h1
    exact Option.some.inj h1
  exact PySem.W.ki_setAt ho h0 (by omega) (by rw[List.size_toArray,<-hl];exact h4) (by rw[hk];exact⟨_,I',q⟩)
 ·have hk:(k+(its.toArray.size:Int)).toNat=j:=by
    rw[seqIndex_neg (by omega) h3]at h1
    rw[List.size_toArray,<-hl]
    exact Option.some.inj h1
  exact PySem.W.ki_setBack ho (by omega) (by rw[List.size_toArray,<-hl];exact h3) (by omega) (by rw[hk];exact⟨_,I',q⟩)
theorem si(lo hi:Option Int)(n:Nat):(sliceBounds lo hi none n).1=((HT.wo n 0 lo:Nat):Int)/\(sliceBounds lo hi none n).2.1=((HT.wo n n hi:Nat):Int)/\(sliceBounds lo hi none n).2.2=1:=by
 refine⟨?_,?_,rfl⟩
 ·cases lo with
  |none=>simp[sliceBounds,HT.wo]
  |some i=>
   simp only[sliceBounds,HT.wo,Option.getD_none,show(1:Int)>0 by decide,if_true]
   by_cases h:i<0
   ·simp only[h,if_true]<;>omega
   ·simp only[h,if_false]<;>omega
 ·cases hi with
  |none=>simp[sliceBounds,HT.wo]
  |some i=>
   simp only[sliceBounds,HT.wo,Option.getD_none,show(1:Int)>0 by decide,if_true]
   by_cases h:i<0
   ·simp only[h,if_true]<;>omega
   ·simp only[h,if_false]<;>omega
theorem qd(its:List Value)(lo hi:Option Int):slicePick its.toArray lo hi none=((its.drop (HT.wo its.length 0 lo)).take (HT.wo its.length its.length hi-HT.wo its.length 0 lo)).toArray:=by
 obtain⟨h1,h2,h3⟩:=si lo hi its.toArray.size
 unfold slicePick
 rw[h1,h2,h3]
 simp only[sliceRange_one,pick_run,List.size_toArray]<;>rfl
noncomputable def NR(K:PySem.W.Frag):V->Option Int->Option Int->Hp->VK->Prop:=λx lo hi H Q=>∃a xs,x=.ref a/\fQ K H a xs/\∀p,H p=none->Q (.ref p) (upd H p (.lst (Aa xs lo hi)))
theorem E7:Pq X (NR X.K):=by
 intro pins s σ H x v vl vu lo hi sl Q I rx hs pl pu h
 obtain⟨a,xs,rfl,hx,q⟩:=h
 cases rx
 obtain⟨its,r,ht,hz⟩:=I.list hx
 have hlen:=r.length
 refine⟨"list",_,slot_list_getitem.lookup,ht.isList.typeIs,?_⟩
 refine wpAny_getItem_list_slice ht.isList hs pl pu .none (by simp) ?_ (by rw[List.size_toArray]<;>omega)
 rw[qd,<-hlen]
 refine⟨.ref s.heap.objs.size,_,I.laid (t':=s.toks) (o:=.lst (Aa xs lo hi)) (λb ob q=>Heap.get?_push_of_some _ q) (Nat.le_refl _) ?_,rfl,q _ (I.dR.fresh (Nat.le_refl _))⟩
 exact⟨Nat.le_trans (uF xs lo hi) hz,_,0,(r.drop (HT.wo xs.length 0 lo)).take (HT.wo xs.length xs.length hi-HT.wo xs.length 0 lo),Heap.get?_push_size _ rfl⟩
noncomputable def jx:V->Bool
 |.non=>true
 |.bl _=>true
 |.int _=>true
 |.str _=>true
 |_=>false
noncomputable def EB:V->V->Bool
 |.non,.non=>true
 |.bl a,.bl b=>a==b
 |.bl a,.int b=>(if a then 1 else 0)==b
 |.int a,.bl b=>a==(if b then 1 else 0)
 |.int a,.int b=>a==b
 |.str a,.str b=>a==b
 |_,_=>false
theorem IL{A:Around}{s:Shared}{y x:V}{u v:Value}(ry:RelV y u)(rx:RelV x v)(fy:jx y=true)(fx:jx x=true):SeqAt.EqAt A s u v (EB y x):=by
 cases y with
 |non=>
  cases ry
  cases x with
  |non=>cases rx;exact SeqAt.EqAt.same _
  |bl b=>cases rx;exact SeqAt.EqAt.none_bool b
  |int b=>obtain⟨t,rfl⟩:=rx;exact SeqAt.EqAt.none_int b t
  |str b=>obtain⟨t,rfl⟩:=rx;exact SeqAt.EqAt.none_str b t
  |_=>exact absurd (show false=true from fx) Bool.false_ne_true
 |bl a=>
  cases ry
  cases x with
  |non=>cases rx;exact SeqAt.EqAt.bool_none a
  |bl b=>cases rx;exact SeqAt.EqAt.bool_bool a b
  |int b=>obtain⟨t,rfl⟩:=rx;exact SeqAt.EqAt.bool_int a b t
  |str b=>obtain⟨t,rfl⟩:=rx;exact SeqAt.EqAt.bool_str a b t
  |_=>exact absurd (show false=true from fx) Bool.false_ne_true
 |int a=>
  obtain⟨t',rfl⟩:=ry
  cases x with
  |non=>cases rx;exact SeqAt.EqAt.int_none a t'
  |bl b=>cases rx;exact SeqAt.EqAt.int_bool a t' b
  |int b=>obtain⟨t,rfl⟩:=rx;exact SeqAt.EqAt.int_int a t' b t
  |str b=>obtain⟨t,rfl⟩:=rx;exact SeqAt.EqAt.int_str a t' b t
  |_=>exact absurd (show false=true from fx) Bool.false_ne_true
 |str a=>
  obtain⟨t',rfl⟩:=ry
  cases x with
  |non=>cases rx;exact SeqAt.EqAt.str_none a t'
  |bl b=>cases rx;exact SeqAt.EqAt.str_bool a t' b
  |int b=>obtain⟨t,rfl⟩:=rx;exact SeqAt.EqAt.str_int a t' b t
  |str b=>obtain⟨t,rfl⟩:=rx;exact SeqAt.EqAt.str_str a t' b t
  |_=>exact absurd (show false=true from fx) Bool.false_ne_true
 |_=>exact absurd (show false=true from fy) Bool.false_ne_true
noncomputable def E8(x:V)(u:Value):Bool:=match u with
 |.none=>EB .non x
 |.bool b=>EB (.bl b) x
 |.int i _=>EB (.int i) x
 |.str z _=>EB (.str z) x
 |_=>false
theorem BQ{x y:V}{u:Value}(r:RelV y u)(f:jx y=true):E8 x u=EB y x:=by
 cases y with
 |non=>cases r;rfl
 |bl b=>cases r;rfl
 |int i=>obtain⟨t,rfl⟩:=r;rfl
 |str z=>obtain⟨t,rfl⟩:=r;rfl
 |_=>exact absurd (show false=true from f) Bool.false_ne_true
theorem sj{x:V}:∀{xs:List V} {us:List Value},Vals xs us->xs.all jx=true->us.any (E8 x)=xs.any λy=>EB y x
 |_,_,.nil,_=>rfl
 |y::xs,u::us,.cons r t,f=>by
  rw[List.all_cons,Bool.and_eq_true]at f
  rw[List.any_cons,List.any_cons,BQ r f.1,sj t f.2]
theorem ox{A:Around}{s:Shared}{x:V}{v:Value}(rx:RelV x v)(fx:jx x=true):∀{xs:List V} {us:List Value},Vals xs us->xs.all jx=true->∀u∈us,SeqAt.EqAt A s u v (E8 x u)
 |_,_,.nil,_=>λu hu=>by cases hu
 |y::xs,u::us,.cons r t,f=>λu' hu=>by
  rw[List.all_cons,Bool.and_eq_true]at f
  rcases List.mem_cons.mp hu with rfl|hu
  ·rw[BQ r f.1];exact IL r rx f.1 fx
  ·exact ox rx fx t f.2 u' hu
noncomputable def MY(x:V)(xs:List V):Bool:=xs.any λy=>EB y x
noncomputable def NS(K:PySem.W.Frag)(neg:Bool):R2:=λx y H Q=>∃p xs,y=.ref p/\(fQ K H p xs\/pY K H p xs)/\jx x=true/\xs.all jx=true/\Q (.bl (if neg then !MY x xs else MY x xs)) H
theorem sk:jw X (compareOp .NotIn) (NS X.K true):=by
 intro pins s σ H x y v u Q I rx ry h
 obtain⟨p,xs,rfl,hq,fx,fs,q⟩:=h
 cases ry
 rcases hq with hq|hq
 ·obtain⟨its,r,pl,hz⟩:=I.list hq
  refine SeqAt.notIn_listAt (E8 x) pl.isList (λw hw=>ox rx fx r fs w (by simpa using hw)) ⟨.bl _,H,I,rfl,?_⟩
  rw[show its.toArray.any (E8 x)=its.any (E8 x) by simp,sj r fs]
  exact q
 ·obtain⟨its,r,pl,hz⟩:=I.tuple hq
  refine SeqAt.notIn_tupleAt (E8 x) pl (λw hw=>ox rx fx r fs w (by simpa using hw)) ⟨.bl _,H,I,rfl,?_⟩
  rw[show its.toArray.any (E8 x)=its.any (E8 x) by simp,sj r fs]
  exact q
theorem sr:gH X (.builtin "len") (λxs H Q=>∃p ys,xs=[.ref p]/\(fQ X.K H p ys\/pY X.K H p ys)/\Q (.int ys.length) H):=by
 intro pins s σ H xs us Q I r h
 obtain⟨p,ys,rfl,hq,q⟩:=h
 obtain⟨u,rfl,rx⟩:=vals1 r
 cases rx
 have hn:=kK
 rcases hq with hq|hq
 ·obtain⟨its,r',pl,hz⟩:=I.list hq
  have hlen:=r'.length
  exact Calls.call_len_list pl.isList (by simp only[List.size_toArray]<;>omega) ⟨.int ys.length,H,I.tok _,⟨s.toks+1,by rw[List.size_toArray,hlen]⟩,q⟩
 ·obtain⟨its,r',pl,hz⟩:=I.tuple hq
  have hlen:=r'.length
  exact len_tuple pl (by simp only[List.size_toArray]<;>omega) ⟨.int ys.length,H,I.tok _,⟨s.toks+1,by rw[List.size_toArray,hlen]⟩,q⟩
theorem su:gH X (.builtin "len") (λxs H Q=>∃z,xs=[.str z]/\z.length<=sizeLine/\Q (.int z.length) H):=by
 intro pins s σ H xs us Q I r h
 obtain⟨z,rfl,hz,q⟩:=h
 obtain⟨u,rfl,t,rfl⟩:=vals1 r
 have hn:=kK
 exact len_str (by omega) ⟨.int z.length,H,I.tok _,⟨_,rfl⟩,q⟩
theorem gH.or{f:Value}{r r':List V->Hp->VK->Prop}(h:gH X f r)(h':gH X f r'):gH X f (λxs H Q=>r xs H Q\/r' xs H Q):=by
 intro pins s σ H xs us Q I rs q
 rcases q with q|q
 ·exact h pins s σ H xs us Q I rs q
 ·exact h' pins s σ H xs us Q I rs q
theorem sy:gH X (.type "list") (λxs H Q=>∃p ys,xs=[.ref p]/\(fQ X.K H p ys\/pY X.K H p ys)/\∀l,H l=none->Q (.ref l) (upd H l (.lst ys))):=by
 intro pins s σ H xs us Q I r h
 obtain⟨p,ys,rfl,hq,q⟩:=h
 obtain⟨u,rfl,rx⟩:=vals1 r
 cases rx
 have fin:∀(its:List Value),Vals ys its->ys.length<=sizeLine->∀(h':Heap) (c':Nat),(∀b o',s.heap.get? b=some o'->h'.get? b=some o')->
   h'.get? s.heap.objs.size=some {cls:=.type "list",dict:=none,data:=.seq its.toArray c',slots:=#[]}->EP X pins σ Q (.ref s.heap.objs.size) {s with heap:=h'}:=λits r' hz h' c' kp e=>
  ⟨.ref s.heap.objs.size,_,I.laid (t':=s.toks) kp (Nat.le_refl _) (show gF X.prog X.w _ h' _ (.lst ys)from⟨hz,its,c',r',e⟩),rfl,q _ (I.dR.fresh (Nat.le_refl _))⟩
 rcases hq with hq|hq
 ·obtain⟨its,r',pl,hz⟩:=I.list hq
  have hlen:=r'.length
  obtain⟨o,ho,hc,n,hd⟩:=pl.isList
  exact call_list_seq p (.inl rfl) ho hc hd (λh' c' kp e=>fin its r' hz h' c' kp e) (by simp only[List.size_toArray]<;>omega)
 ·obtain⟨its,r',pl,hz⟩:=I.tuple hq
  have hlen:=r'.length
  obtain⟨o,ho,hc,n,hd⟩:=pl
  exact call_list_seq p (.inr rfl) ho hc hd (λh' c' kp e=>fin its r' hz h' c' kp e) (by simp only[List.size_toArray]<;>omega)
noncomputable def NU(K:PySem.W.Frag)(T:String)(x:V)(H:Hp):Prop:=match x with
 |.str _=>T= "str"
 |.int _=>T= "int"
 |.ref p=>(T= "list" /\∃xs,fQ K H p xs)\/(T= "tuple" /\∃o,K.lookup p=some o/\o.cls=.type "tuple" /\o.dict=none)\/
   (T= "dict" /\((∃uz,H p=some (.dK uz))\/∃uz,H p=some (.dT uz)))\/(T= "set" /\∃S n,H p=some (.set S n))
 |_=>False
theorem BS{pins:List (Addr×Obj)}{σ:St}{H:Hp}{s:Shared}{T:String}{x:V}{v:Value}(I:Inv X pins σ H s)(r:RelV x v)(ty:NU X.K T x H):
  s.TypeIs v T/\∀a,v=.ref a->∃ob,s.heap.get? a=some ob/\ob.dict=none:=by
 cases x with
 |str z=>
  obtain⟨t,rfl⟩:=r
  cases(show T= "str" from ty)
  exact⟨typeIs_str s z t,λ_ e=>nomatch e⟩
 |int i=>
  obtain⟨t,rfl⟩:=r
  cases(show T= "int" from ty)
  exact⟨typeIs_int s i t,λ_ e=>nomatch e⟩
 |ref p=>
  cases r
  rcases ty with⟨rfl,xs,hq⟩|⟨rfl,o,hk,hc,hd⟩|⟨rfl,hk⟩|⟨rfl,S,n,hk⟩
  ·obtain⟨its,_,pl,_⟩:=I.list hq
   refine⟨pl.isList.typeIs,λa e=>?_⟩
   cases e
   obtain⟨o,n,e,c,hd,_⟩:=pl
   exact⟨o,e,hd⟩
  ·refine⟨⟨o,I.oi p o hk,hc⟩,λa e=>?_⟩
   cases e
   exact⟨o,I.oi _ o hk,hd⟩
  ·have z:∃o,s.heap.get? p=some o/\o.ExactDict:=by
     rcases hk with⟨uz,hk⟩|⟨uz,hk⟩
     ·obtain⟨_,_,_,_,o,_,_,e,ex,_⟩:=I.dR p _ hk
      exact⟨o,e,ex⟩
     ·obtain⟨_,_,_,_,o,_,_,e,ex,_⟩:=I.dR p _ hk
      exact⟨o,e,ex⟩
   obtain⟨o,e,ex⟩:=z
   refine⟨⟨o,e,ex.1⟩,λa e2=>?_⟩
   cases e2
   exact⟨o,e,ex.2.1⟩
  ·obtain⟨o,_,_,_,e,ex,_⟩:=I.dR p _ hk
   refine⟨⟨o,e,ex.1⟩,λa e2=>?_⟩
   cases e2
   exact⟨o,e,ex.2.1⟩
 |_=>exact False.elim ty
noncomputable def NV(K:PySem.W.Frag)(T:String)(r:V->List V->Hp->VK->Prop)(to:TE):TE:=λσ H Q=>to σ H λx H1=>NU K T x H1/\r x [] H1 Q
noncomputable def Pr(K:PySem.W.Frag)(T:String)(r:V->List V->Hp->VK->Prop)(to:TE)(t:TA):TE:=λσ H Q=>to σ H λx H1=>NU K T x H1/\t σ H1 λxs H2=>r x xs H2 Q
variable{o e:Expr}{es:List Expr}{to:TE}{t:TA}{name:Str}{apos cO:Pos}{T id:String}{r:V->List V->Hp->VK->Prop}
theorem IM(pa:PlainAttrs T)(slot:Slot T name id)(NW:typeOf (.builtin id)=pure (.type "method_descriptor"))(hm:MX X id r)(ho:PE X o to)
  (fR:autoParam (attributeBase o name X.env (eval o X.env)=eval o X.env) zR._auto_1)(fS:autoParam ((apos.endLine==cO.line)=true) zR._auto_1):PE X (.Call (.Attribute o name apos) [] [] cO) (NV X.K T r to):=by
 intro pins s σ H Q I h
 refine wpAny_Call_method0_late fR fS (dz (ho pins s σ H _ I h) λv s1 bW=>?_)
 obtain⟨x,H1,I1,r1,ty,q1⟩:=bW
 obtain⟨h1,h2⟩:=BS I1 r1 ty
 exact⟨T,id,pa,slot,NW,h1,h2,Calls.callWith_builtin rfl (PySem.evalArgs_none (hm pins s1 σ H1 x [] v [] Q I1 r1 .nil q1))⟩
theorem yu(pa:PlainAttrs T)(slot:Slot T name id)(NW:typeOf (.builtin id)=pure (.type "method_descriptor"))(hm:MX X id r)(ho:PE X o to)(ha:PA X (e::es) t)
  (fR:autoParam (attributeBase o name X.env (eval o X.env)=eval o X.env) zR._auto_1)
  (my:autoParam (((backTo cO (starEach (e::es) X.env)).all (λx=>!x.1)&&(backToKw cO (keywordEach [] X.env)).all (λx=>x.1.isSome)
    &&decide ((e::es).length+([]:List Keyword).length+(if([]:List Keyword).isEmpty then 0 else 1)<30))=true) zR._auto_1)
  (fS:autoParam ((apos.endLine==cO.line)=true) zR._auto_1)(hs:autoParam (starEach (e::es) X.env=(false,eval e X.env)::starEach es X.env) zR._auto_1)(IP:autoParam ((backTo cO (starEach es X.env)).any (·.1)=false) zR._auto_1):
  PE X (.Call (.Attribute o name apos) (e::es) [] cO) (Pr X.K T r to t):=by
 intro pins s σ H Q I h
 refine wpAny_Call_method_late fR my fS rfl (dz (ho pins s σ H _ I h) λv s1 bW=>?_)
 obtain⟨x,H1,I1,r1,ty,q1⟩:=bW
 obtain⟨h1,h2⟩:=BS I1 r1 ty
 refine⟨T,id,pa,slot,NW,h1,h2,?_⟩
 have hA:=ha cO pins s1 σ H1 _ I1 q1
 rw[hs]at hA⊢
 refine Calls.callWith_builtin (by show(false||(backTo cO (starEach es X.env)).any (·.1))=false;rw[IP]<;>rfl) (Calls.evalArgs_plain ?_)
 exact dz hA λus s2 ⟨vs,H2,I2,r2,q2⟩=>hm pins s2 σ H2 x vs v us Q I2 r1 r2 q2
end
noncomputable def Pt(X:Cx)(id:String)(r:V->List V->Hp->VK->Prop):Prop:=
 ∀(pins:List (Addr×Obj)) (s:Shared) (σ:St) (H:Hp) (x:V) (xs:List V) (v:Value) (us:List Value) (Q:VK),Inv X pins σ H s->RelV x v->Vals xs us->r x xs H Q->
  wpAny (model X.prog X.w) X.A (call (.builtin id) (v::us)) (EP X pins σ Q) X.xe s
theorem Vals.one{x:V}{us:List Value}(h:Vals [x] us):∃u,us=[u]/\RelV x u:=by
 cases h with
 |cons r t=>
  cases t
  exact⟨_,rfl,r⟩
theorem Vals.two{x y:V}{us:List Value}(h:Vals [x,y] us):∃u v,us=[u,v]/\RelV x u/\RelV y v:=by
 cases h with
 |cons r t=>
  cases t with
  |cons q t=>
   cases t
   exact⟨_,_,rfl,r,q⟩
section
variable{X:Cx}{pins:List (Addr×Obj)}{σ:St}{H:Hp}{s:Shared}{l b:Addr}{xs ys zs:List V}
theorem Inv.Lw{its its':List Value}{n:Nat}{f:Array Value->Array Value}{t':Nat}(I:Inv X pins σ H s)(hH:H l=some (.lst xs))
  (e:s.heap.get? l=some {cls:=.type "list",data:=.seq its.toArray n})(hf:f its.toArray=its'.toArray)(hv:Vals ys its')(hz:ys.length<=sizeLine):
  Inv X pins σ (upd H l (.lst ys)) {s with heap:=s.heap.update l (Obj.mapSeq f),toks:=t'}:=by
 have q:=PySem.IsL.update e f
 rw[hf]at q
 refine I.write (x:=l) (e:=l) (by rw[hH];exact trivial) (.inl rfl) (λb' u hb hu=>(Heap.get?_update_other s.heap (Obj.mapSeq f) (Ne.symm hb)).trans hu) ⟨_,q⟩ ?_
 exact⟨hz,its',_,hv,q⟩
theorem Inv.NX{its:List Value}{t':Nat}(I:Inv X pins σ H s)(hv:Vals ys its)(hz:ys.length<=sizeLine):
  Inv X pins σ (upd H s.heap.objs.size (.lst ys)) {s with heap:=s.heap.push {cls:=.type "list",data:=.seq its.toArray},toks:=t'}:=
 I.laid (λ_ _ q=>Heap.get?_push_of_some _ q) (Nat.le_refl _) ⟨hz,its,0,hv,Heap.get?_push_size _ rfl⟩
theorem Inv.fresh(I:Inv X pins σ H s):H s.heap.objs.size=none:=I.dR.fresh (Nat.le_refl _)
theorem Inv.Lx(I:Inv X pins σ H s)(hH:H l=some (.lst xs)):xs.length<=sizeLine/\∃(its:List Value) (n:Nat),Vals xs its/\xs.length=its.length/\s.heap.get? l=some {cls:=.type "list",data:=.seq its.toArray n}:=by
 obtain⟨z,its,n,r,e⟩:=I.dR l _ hH
 exact⟨z,its,n,r,r.length,e⟩
end
section
variable{X:Cx}
noncomputable def E9:V->List V->Hp->VK->Prop:=λx vs H Q=>∃l xs y,x=.ref l/\vs=[y]/\H l=some (.lst xs)/\xs.length<sizeLine/\Q .non (upd H l (.lst (xs++[y])))
theorem mz:Pt X "list.append" E9:=by
 intro pins s σ H x vs v us Q I rx rv h
 obtain⟨l,xs,y,rfl,rfl,hH,hz,q⟩:=h
 cases rx
 obtain⟨u,rfl,ru⟩:=rv.one
 obtain⟨z,its,n,r,hl,e⟩:=I.Lx hH
 refine call_meets F.slot_list_append ⟨_,e,rfl⟩ F.entry_list_append (F.args_list_append_2 _ _) (PySem.list_append l its.toArray n u (by rw[List.size_toArray];omega)) ⟨e,?_⟩
 refine⟨.non,_,I.Lw (its':=its++[u]) hH e (by simp) (r.append (.cons ru .nil)) ?_,rfl,q⟩
 rw[List.length_append,List.length_singleton]
 omega
end
end L2
namespace Att
open PySem PySem.W PySem.Calls PyProof.Rows
theorem nJ{P:Params}{h:Heap}:∀(ns:List Int) (vs:List Value),WellAll P h vs (ns.map WData.int)->IntsAre vs ns:=by
 intro ns
 induction ns with
 |nil=>
  intro vs w
  rw[List.map_nil]at w
  cases w
  exact .nil
 |cons n ns ih=>
  intro vs w
  rw[List.map_cons]at w
  cases w with
  |cons a b=>
   cases a
   exact .cons _ _ (ih _ b)
theorem Ab{l:OpenLaw}{n:Nat}(hn:l.most=some n){P:Params}{h:Heap}{args:List WData}{vals:List Value}
  (Fb:l.row.toRowW.claim.pre args=true)(NY:WellAll P h vals args):
  ∃a vs ns,vals=[Value.ref a]/\args=[WData.list (ns.map WData.int)]/\h.get? a=some {cls:=.type "list",data:=.seq vs.toArray}/\IntsAre vs ns/\ns.length<=n:=by
 have NZ:WShape.hasAll [] args [.list .int]=true:=(pre_splitW Fb).1
 have hc:l.pre.holds [] {args:=args}=true:=(pre_splitW Fb).2
 obtain⟨d,r,rfl,h1,h2⟩:=hasAllW_cons NZ
 obtain rfl:=hasAllW_nil h2
 obtain⟨xs,rfl,h3⟩:=hasW_list h1
 obtain⟨ns,rfl⟩:=items_int h3
 have hlen:ns.length<=n:=by
  unfold OpenLaw.pre at hc
  have h4:(WTm.not (.lt (.lit (.int (n:Int))) (.len (.arg 0)))).holds [] {args:=[.list (ns.map .int)]}=true:=by
   have h4:=(holds_andW hc).1
   rw[hn]at h4
   exact h4
  have h5:=condW_of h4 (w_not (w_lt w_lit (w_len_list (w_arg rfl))))
  rw[List.length_map]at h5
  refine Nat.le_of_not_lt λq=>?_
  have q':(n:Int)<((ns.length:Nat):Int):=by omega
  first
   |(rw[decide_eq_true q']at h5;exact absurd h5 (by decide))
   |(simp at h5;omega)
 cases NY with
 |cons w1 w2=>
  cases w2
  cases w1 with
  |list ho sA=>exact⟨_,_,ns,rfl,rfl,ho,nJ ns _ sA,hlen⟩
theorem Ac(l:OpenLaw)(args:List WData):l.row.toRowW.claim.post args (.bool true) args=true:=
 postW_of (r:=l.row.toRowW) (X:=(true==true))
  (show WShape.has [] (.bool true) .bool=true by first|rfl|decide|simp[WShape.has,WShape.arms,WShape.armsAll])
  (show(WTm.eq .res (.lit (.bool true))).value [] {args:=args,res:=some (.bool true),after:=args}=some (.bool (true==true))from w_eq_bool (w_res rfl) w_lit) rfl
theorem uG{l:OpenLaw}{n:Nat}{q:Program}{loose:List Str}{XP:(Str->Option Value)->Heap->Prop}{YP:World->Heap->Prop}{d:DefRec}
  (hn:l.most=some n)(N1:d.params.defaults=[])
  (call:∀(w:World) (s₀ s₁:Shared) (mg mb:Str->Option Value) (fa:Addr) (o:Obj) (pm cd doc:Value) (a:Addr) (vs:List Value) (ns:List Int),
    Ground q loose [] XP w s₀ mg mb s₁.heap->YP w s₁.heap->
    s₁.heap.get? fa=some o->o.data=.func (docDef d.name d.params d.body d.scope pm cd doc)->s₁.heap.CodeRec cd d.name->mg d.name=some (.ref fa)->
    s₁.heap.get? a=some {cls:=.type "list",data:=.seq vs.toArray}->IntsAre vs ns->ns.length<=n->s₁.gens=#[]->
    codeAny (model l.prog w) callerA (.call (.ref fa) ⟨[.ref a],[]⟩) (λr s'=>r=.ok (.ret (.bool true))/\OldK s₁.heap s'.heap/\s'.os=s₁.os/\AllBare s'.gens) s₁):
  WalkO q loose XP YP l.row.toRowW d [] (λf vs=>PySem.call f vs):=by
 intro w s₀ s₁ mg mb G Y fa o pm cd doc dV kV ho hd om hD Ly hg args vals as Fb QK R9 NY Sa
 obtain rfl:dV=.none:=Dflts.none hD N1
 obtain rfl:kV=.none:=Dflts.noKw hD
 obtain⟨a,vs,ns,rfl,rfl,IQ,hints,hlen⟩:=Ab hn Fb NY
 refine enter_call (codeAny_mono (call w s₀ s₁ mg mb fa o pm cd doc a vs ns G Y ho (fd_plain hd) om Ly IQ hints hlen hg) λr s' hq=>?_)
 obtain⟨rfl,h2,h3,h4⟩:=hq
 exact⟨.inl ⟨.bool true,.bool true,[],rfl,λ_=>rfl,.bool true,Ac l _,λ_=>⟨List.Pairwise.nil,λ_ hm=>(nomatch hm)⟩⟩,h2,h3,h4⟩
end Att
namespace L2
open PySem PySem.Spec PyProof.Rows
theorem mB:∀{vs:List Value} {ns:List Int},IntsAre vs ns->Vals (ns.map V.int) vs
 |_,_,.nil=>.nil
 |_,_,.cons n t h=>.cons ⟨t,rfl⟩ (mB h)
noncomputable def Lz(H:Hp):Prop:=∀b,H b=none\/∃o xs,H b=some (.frz o (.lst xs))
noncomputable def gn(s:Stmt):Arguments:=match s with
 |.FunctionDef _ a _ _ _ _ _ _ _ _=>a
 |_=>{posonlyargs:=[],args:=[],vararg:=none,kwonlyargs:=[],kw_defaults:=[],kwarg:=none,defaults:=[]}
noncomputable def cj(s:Stmt):List Stmt:=match s with
 |.FunctionDef _ _ b _ _ _ _ _ _ _=>b
 |_=>[]
noncomputable def aj(s:Stmt):Scope:=match s with
 |.FunctionDef _ _ _ _ _ _ sc _ _ _=>sc
 |_=>{kind:=.function,names:=[],isGenerator:=false,isCoroutine:=false}
noncomputable abbrev g7:Bp:=λ_ _ _ _ _ _=>False
noncomputable abbrev E0:XK:=λ_ _ _=>False
theorem kD{X:Cx}:Passes g7 X E0:=λ_ _ _ _ _ _ _ h=>h.elim
structure uH(K:PySem.W.Frag)(x qual:Str)(st:Stmt)(f:Addr)(fd:FuncData):Prop where
 ex:∃(oc:Value) (od:Option Addr) (kV doc pm:Value) (an:Option Addr) (eC ct:Value) (Hd:Array (Option Value)),
  fd=PySem.W.fnOf x qual (gn st) (cj st) (aj st) .none kV doc pm an eC ct/\K.lookup f=some ⟨oc,od,.func fd,Hd⟩/\PySem.W.codeIn K eC qual=true
 kp:PySem.W.keepIn K (.ref f)=true
section
variable{P:Program}{w:World}{K:PySem.W.Frag}{mg:Str->Option Value}{base:Heap}
theorem uH.ok{x qual:Str}{st:Stmt}{f:Addr}{fd:FuncData}{N ps:List Str}{k:Nat}{sp:Sp}(F:uH K x qual st f fd)(S:d5 N ps (aj st))(len:∀vs H Q E,sp vs H Q E->vs.length=ps.length)
  (BM:∀(eC:Value) (A:Around) (outer:List Env) (s:Shared) (H:Hp) (vs:List V) (Q:VK) (E:XK),bO k (A.deeper (envOfC qual (aj st) s.heap.objs.size f eC))->sp vs H Q E->
    ∃t,rS (ky g7 P w K mg base N qual (aj st) f eC A outer s H E).yk (cj st) t/\t {nx:=λ_ H'=>Q .non H',rt:=Q} (start N vs) H):cw P w K mg base g7 (k+1) f fd ps sp:=by
 obtain⟨oc,od,kV,doc,pm,an,eC,ct,Hd,rfl,lk,om⟩:=F.ex
 refine Ln lk om S len λA outer s H vs Q E hr He=>?_
 obtain⟨t,h,q⟩:=BM eC A outer s H vs Q E hr He
 exact⟨t,h.yk,q⟩
theorem uH.binds{x qual:Str}{st:Stmt}{f:Addr}{fd:FuncData}{ps:List Str}(F:uH K x qual st f fd)
  (h:∀(kV doc pm:Value) (an:Option Addr) (eC ct:Value) (us:List Value),us.length=ps.length->bindArgs (PySem.W.fnOf x qual (gn st) (cj st) (aj st) .none kV doc pm an eC ct) ⟨us,[]⟩=pure (ps.zip us)):Binds K fd ps []:=by
 obtain⟨oc,od,kV,doc,pm,an,eC,ct,Hd,rfl,lk,om⟩:=F.ex
 exact .all (h kV doc pm an eC ct)
theorem BU{x qual:Str}{st:Stmt}{f:Addr}{oc:Value}{od an:Option Addr}{Hd:Array (Option Value)}{kV doc pm eC ct:Value}(l:K.lookup f=some ⟨oc,od,.func (PySem.W.fnOf x qual (gn st) (cj st) (aj st) .none kV doc pm an eC ct),Hd⟩)
 (c:PySem.W.codeIn K eC qual=true)(k:PySem.W.keepIn K (.ref f)=true):uH K x qual st f (PySem.W.fnOf x qual (gn st) (cj st) (aj st) .none kV doc pm an eC ct):=⟨⟨oc,od,kV,doc,pm,an,eC,ct,Hd,rfl,l,c⟩,k⟩
end
noncomputable def aE(H H':Hp):Prop:=∀b o,H b=some o->H' b=some o
theorem aE.refl(H:Hp):aE H H:=λ_ _ h=>h
theorem aE.trans{H H1 H2:Hp}(a:aE H H1)(b:aE H1 H2):aE H H2:=λc o h=>b c o (a c o h)
theorem aE.free{H H':Hp}(e:aE H H'){l:Addr}(h:H' l=Option.none):H l=Option.none:=by
 cases q:H l with
 |none=>rfl
 |some o=>
  rw[e l o q]at h
  cases h
end L2
namespace TS
open PySem PyProof.Rows
noncomputable def uI(prog:Program)(w:World)(A:Around)(E:Value->Shared->Prop)(s:Shared)(kd:SortKind)(G:Keyed->Prop)(rk:Keyed->Nat):Prop:=
 ∀(p q:Keyed) (st:SortSt) (Q:Option Bool->SortSt->Prop),kindOf st=kd->G p->G q->Q (some (decide (rk p<rk q))) st->wpS (model prog w) A E s (lt' p q) Q st
noncomputable def R(rk:Keyed->Nat)(xs:Array Keyed)(i:Nat):Nat:=match xs[i]? with
 |some p=>rk p
 |none=>0
noncomputable def Gd(G:Keyed->Prop)(xs:Array Keyed):Prop:=∀p∈xs.toList,G p
theorem Gd.at{G:Keyed->Prop}{rk:Keyed->Nat}{xs:Array Keyed}(h:Gd G xs){i:Nat}(hi:i<xs.size):∃p,xs[i]?=some p/\G p/\R rk xs i=rk p:=by
 refine⟨xs[i],getElem?_pos xs i hi,h _ (by simp),?_⟩
 unfold R
 rw[getElem?_pos xs i hi]
theorem wN{rk:Keyed->Nat}{xs:Array Keyed}{i:Nat}{p:Keyed}(h:xs[i]?=some p):R rk xs i=rk p:=by
 unfold R
 rw[h]
noncomputable def iY(rk:Keyed->Nat)(left:Bool)(key:Keyed)(xs:Array Keyed)(base i:Nat):Bool:=
 if left then decide (R rk xs (base+i)<rk key)else !decide (rk key<R rk xs (base+i))
noncomputable def lC:Bool->Keyed->Array Keyed->Nat->Nat->Nat->StateT SortSt Sem (Option Nat):=sortPriv% PySem.Builtin.gallop
noncomputable def BV:Array Keyed->Array Keyed->StateT SortSt Sem (Array Keyed):=sortPriv% PySem.Builtin.mergeLo
noncomputable def BW:Array Keyed->Array Keyed->StateT SortSt Sem (Array Keyed):=sortPriv% PySem.Builtin.mergeHi
noncomputable def lD:Nat->StateT SortSt Sem Unit:=sortPriv% PySem.Builtin.setMinGallop
section
variable{prog:Program}{w:World}{A:Around}{E:Value->Shared->Prop}{s:Shared}{kd:SortKind}{G:Keyed->Prop}{rk:Keyed->Nat}
theorem bP{xs:Array Keyed}{i:Nat}{p:Keyed}{Q:Keyed->SortSt->Prop}{st:SortSt}{M:Model}(h:xs[i]?=some p)(q:Q p st):wpS M A E s (elem' xs i) Q st:=by
 rw[elem'_eq,h]
 exact wpS_pure q
theorem oy(C:uI prog w A E s kd G rk){left:Bool}{key:Keyed}{xs:Array Keyed}{base i:Nat}{st:SortSt}{Q:Option Bool->SortSt->Prop}(hk:kindOf st=kd)(hG:Gd G xs)(qb:G key)(hi:base+i<xs.size)
  (q:Q (some (iY rk left key xs base i)) st):wpS (model prog w) A E s (elem' xs (base+i)>>=λx=>if left=true then lt' x key else lt' key x>>=λr=>pure (Option.map (λb=>!b) r)) Q st:=by
 obtain⟨p,e,g,r⟩:=hG.at (rk:=rk) hi
 refine wpS_bind (bP e ?_)
 unfold iY at q
 rw[r]at q
 cases left with
 |true=>
  rw[if_pos rfl]at q⊢
  exact C p key st Q hk g qb q
 |false=>
  rw[if_neg (by decide)]at q⊢
  exact wpS_bind (C key p st _ hk qb g (wpS_pure q))
theorem uJ{M:Model}{n:Nat}{f:Nat->Option (Option Nat)×Nat×Nat->StateT SortSt Sem (ForInStep (Option (Option Nat)×Nat×Nat))}{p:Nat->Bool}{st:SortSt}{Q:Option (Option Nat)×Nat×Nat->SortSt->Prop}
  (hs:∀(x lo hi:Nat) Q',lo<hi->hi<=n->Q' (ForInStep.yield (none,if p (lo+(hi-lo)/2)=true then lo+(hi-lo)/2+1 else lo,if p (lo+(hi-lo)/2)=true then hi else lo+(hi-lo)/2)) st->wpS M A E s (f x (none,lo,hi)) Q' st)
  (hd:∀(x lo hi:Nat) Q',hi<=lo->Q' (ForInStep.done (none,lo,hi)) st->wpS M A E s (f x (none,lo,hi)) Q' st)
  (mono:∀i j,i<=j->j<n->p j=true->p i=true){lo hi:Nat}(h1:lo<=hi)(h2:hi<=n)(h3:∀i,i<lo->p i=true)(h4:∀i,hi<=i->i<n->p i=false)
  (q:∀k,k<=n->(∀i,i<k->p i=true)->(∀i,k<=i->i<n->p i=false)->Q (none,k,k) st):wpS M A E s (forIn [:n] (none,lo,hi) f) Q st:=by
 refine wpS_forRange (I:=λx c aP=>aP=st/\∃l h,c=(none,l,h)/\l<=h/\h<=n/\h-l<=n-x/\(∀i,i<l->p i=true)/\∀i,h<=i->i<n->p i=false) ?_ ?_ ⟨rfl,lo,hi,rfl,h1,h2,by omega,h3,h4⟩
 ·rintro x c aP-hx ⟨rfl,l,h,rfl,a1,a2,a3,a4,a5⟩
  by_cases eS:l<h
  ·refine hs x l h _ eS a2 ?_
   have hm:l+(h-l)/2<h:=by omega
   cases e:p (l+(h-l)/2)with
   |true=>
    refine⟨rfl,l+(h-l)/2+1,h,by simp,by omega,a2,by omega,λi hi=>?_,a5⟩
    exact mono i (l+(h-l)/2) (by omega) (by omega) e
   |false=>
    refine⟨rfl,l,l+(h-l)/2,by simp,by omega,by omega,by omega,a4,λi b1 b2=>?_⟩
    cases e2:p i with
    |false=>rfl
    |true=>
     rw[mono _ i b1 b2 e2]at e
     cases e
  ·refine hd x l h _ (by omega) ?_
   obtain rfl:l=h:=by omega
   exact q l a2 a4 a5
 ·rintro c aP ⟨rfl,l,h,rfl,a1,a2,a3,a4,a5⟩
  obtain rfl:l=h:=by omega
  exact q l a2 a4 a5
theorem uK{M:Model}{n mx:Nat}{f:Nat->Option (Option Nat)×Nat×Nat->StateT SortSt Sem (ForInStep (Option (Option Nat)×Nat×Nat))}{g:Nat->Bool}{st:SortSt}{Q:Option (Option Nat)×Nat×Nat->SortSt->Prop}(h1:1<=mx)(hn:mx<=n)
  (hd:∀(x l o:Nat) Q',mx<=o->Q' (ForInStep.done (none,l,o)) st->wpS M A E s (f x (none,l,o)) Q' st)
  (hs:∀(x l o:Nat) Q',o<mx->Q' (if g o=true then ForInStep.yield (none,o,2*o+1)else ForInStep.done (none,l,o)) st->wpS M A E s (f x (none,l,o)) Q' st)
  (q:∀l o,l<o->l<mx->(l=0\/g l=true)->(mx<=o\/(o<mx/\g o=false))->Q (none,l,o) st):wpS M A E s (forIn [:n] (none,0,1) f) Q st:=by
 refine wpS_forRange (I:=λx c aP=>aP=st/\∃l o,c=(none,l,o)/\l<o/\l<mx/\x+1<=o/\(l=0\/g l=true)) ?_ ?_ ⟨rfl,0,1,rfl,by omega,by omega,by omega,.inl rfl⟩
 ·rintro x c aP-hx ⟨rfl,l,o,rfl,a1,a2,a3,a4⟩
  by_cases eS:o<mx
  ·refine hs x l o _ eS ?_
   cases e:g o with
   |true=>exact⟨rfl,o,2*o+1,rfl,by omega,eS,by omega,.inr e⟩
   |false=>exact q l o a1 a2 a4 (.inr ⟨eS,e⟩)
  ·exact hd x l o _ (by omega) (q l o a1 a2 a4 (.inl (by omega)))
 ·rintro c aP ⟨rfl,l,o,rfl,a1,a2,a3,a4⟩
  exact q l o a1 a2 a4 (.inl (by omega))
theorem gB(C:uI prog w A E s kd G rk){left:Bool}{key:Keyed}{xs:Array Keyed}{base n hint:Nat}{st:SortSt}{Q:Option Nat->SortSt->Prop}(hk:kindOf st=kd)(hG:Gd G xs)(qb:G key)(hb:base+n<=xs.size)(hh:hint<n)
  (mono:∀i j,i<=j->j<n->iY rk left key xs base j=true->iY rk left key xs base i=true)
  (q:∀k,k<=n->(∀i,i<k->iY rk left key xs base i=true)->(∀i,k<=i->i<n->iY rk left key xs base i=false)->Q (some k) st):wpS (model prog w) A E s (lC left key xs base n hint) Q st:=by
 have BX:∀i j,i<=j->j<n->iY rk left key xs base i=false->iY rk left key xs base j=false:=λi j h1 h2 h3=>by
  cases e:iY rk left key xs base j with
  |false=>rfl
  |true=>
   rw[mono i j h1 h2 e]at h3
   cases h3
 refine wpS_bind (oy C hk hG qb (by omega) ?_)
 cases e0:iY rk left key xs base hint with
 |true=>
  refine wpS_bind (uK (n:=n) (mx:=n-hint) (g:=λo=>iY rk left key xs base (hint+o)) (by omega) (by omega) (λx l o Q' ho q'=>?_) (λx l o Q' ho q'=>?_) λl o a1 a2 a3 a4=>?_)
  ·dsimp only
   rw[if_pos ho]
   exact wpS_pure q'
  ·dsimp only
   rw[if_neg (by omega)]
   refine wpS_bind (oy C hk hG qb (by omega) ?_)
   cases e:iY rk left key xs base (hint+o)with
   |true=>
    rw[e]at q'
    exact wpS_pure q'
   |false=>
    rw[e]at q'
    exact wpS_pure q'
  ·refine wpS_bind (uJ (p:=λi=>iY rk left key xs base i) (λx lo hi Q' b1 b2 q'=>?_) (λx lo hi Q' b1 q'=>?_) mono (lo:=hint+l+1) (hi:=hint+min o (n-hint)) (by omega) (by omega) (λi hi=>?_) (λi b1 b2=>?_) λk c1 c2 c3=>?_)
   ·dsimp only
    rw[if_neg (by omega)]
    refine wpS_bind (oy C hk hG qb (by omega) ?_)
    cases e:iY rk left key xs base (lo+(hi-lo)/2)with
    |true=>
     rw[e]at q'
     exact wpS_pure q'
    |false=>
     rw[e]at q'
     exact wpS_pure q'
   ·dsimp only
    rw[if_pos b1]
    exact wpS_pure q'
   ·rcases a3 with a3|a3
    ·exact mono i hint (by omega) hh e0
    ·exact mono i (hint+l) (by omega) (by omega) a3
   ·rcases a4 with a4|⟨a4,a5⟩
    ·omega
    ·exact BX (hint+o) i (by omega) b2 a5
   ·exact wpS_pure (q k c1 c2 c3)
 |false=>
  refine wpS_bind (uK (n:=n) (mx:=hint+1) (g:=λo=>!iY rk left key xs base (hint-o)) (by omega) (by omega) (λx l o Q' ho q'=>?_) (λx l o Q' ho q'=>?_) λl o a1 a2 a3 a4=>?_)
  ·dsimp only
   rw[if_pos ho]
   exact wpS_pure q'
  ·dsimp only
   rw[if_neg (by omega)]
   refine wpS_bind (oy C hk hG qb (by omega) ?_)
   cases e:iY rk left key xs base (hint-o)with
   |true=>
    rw[e]at q'
    exact wpS_pure q'
   |false=>
    rw[e]at q'
    exact wpS_pure q'
  ·refine wpS_bind (uJ (p:=λi=>iY rk left key xs base i) (λx lo hi Q' b1 b2 q'=>?_) (λx lo hi Q' b1 q'=>?_) mono (lo:=hint+1-min o (hint+1)) (hi:=hint-l) (by omega) (by omega) (λi hi=>?_) (λi b1 b2=>?_) λk c1 c2 c3=>?_)
   ·dsimp only
    rw[if_neg (by omega)]
    refine wpS_bind (oy C hk hG qb (by omega) ?_)
    cases e:iY rk left key xs base (lo+(hi-lo)/2)with
    |true=>
     rw[e]at q'
     exact wpS_pure q'
    |false=>
     rw[e]at q'
     exact wpS_pure q'
   ·dsimp only
    rw[if_pos b1]
    exact wpS_pure q'
   ·rcases a4 with a4|⟨a4,a5⟩
    ·omega
    ·refine mono i (hint-o) (by omega) (by omega) ?_
     simpa using a5
   ·rcases a3 with a3|a3
    ·exact BX hint i (by omega) b2 e0
    ·exact BX (hint-l) i (by omega) b2 (by simpa using a3)
   ·exact wpS_pure (q k c1 c2 c3)
end
noncomputable def Sd(rk:Keyed->Nat)(l:List Keyed):Prop:=l.Pairwise λp q=>rk p<=rk q
theorem Sd.sub{rk:Keyed->Nat}{l m:List Keyed}(h:Sd rk m)(hs:l.Sublist m):Sd rk l:=List.Pairwise.sublist hs h
theorem Sd.left{rk:Keyed->Nat}{l m:List Keyed}(h:Sd rk (l++m)):Sd rk l:=h.sub (List.sublist_append_left _ _)
theorem Sd.right{rk:Keyed->Nat}{l m:List Keyed}(h:Sd rk (l++m)):Sd rk m:=h.sub (List.sublist_append_right _ _)
theorem Sd.qH{rk:Keyed->Nat}{l m:List Keyed}(h:Sd rk (l++m)):∀x∈l,∀y∈m,rk x<=rk y:=(List.pairwise_append.mp h).2.2
theorem Sd.app{rk:Keyed->Nat}{l m:List Keyed}(h1:Sd rk l)(h2:Sd rk m)(h3:∀x∈l,∀y∈m,rk x<=rk y):Sd rk (l++m):=List.pairwise_append.mpr ⟨h1,h2,h3⟩
theorem Sd.nil{rk:Keyed->Nat}:Sd rk []:=List.Pairwise.nil
theorem Sd.one{rk:Keyed->Nat}(p:Keyed):Sd rk [p]:=List.pairwise_singleton _ _
theorem sC{rk:Keyed->Nat}{xs:Array Keyed}{i:Nat}{p:Keyed}(h:xs.toList[i]?=some p):R rk xs i=rk p:=wN (by simpa using h)
theorem cP{xs:Array Keyed}{i:Nat}(h:i<xs.size):∃p,xs.toList[i]?=some p/\xs[i]?=some p/\p∈xs.toList:=⟨xs[i],by simp[h],by simp[h],by simp⟩
theorem d7{l:List Keyed}{x:Keyed}{i k:Nat}(h:x∈(l.drop i).take k):∃j,j<k/\l[i+j]?=some x:=by
 obtain⟨j,hj,e⟩:=List.mem_iff_getElem.mp h
 rw[List.getElem_take,List.getElem_drop]at e
 rw[List.length_take,List.length_drop]at hj
 exact⟨j,by omega,List.getElem?_eq_some_iff.mpr ⟨by omega,e⟩⟩
theorem iK{l:List Keyed}{x:Keyed}{i:Nat}(h:x∈l.drop i):∃j,l[i+j]?=some x:=by
 obtain⟨j,hj,e⟩:=List.mem_iff_getElem.mp h
 rw[List.getElem_drop]at e
 rw[List.length_drop]at hj
 exact⟨j,List.getElem?_eq_some_iff.mpr ⟨by omega,e⟩⟩
theorem oz{l:List Keyed}{x:Keyed}{i:Nat}(h:x∈l.take i):∃j,j<i/\l[j]?=some x:=by
 have h':x∈(l.drop 0).take i:=by simpa using h
 simpa using d7 h'
theorem oA{rk:Keyed->Nat}{l:List Keyed}(h:Sd rk l){i j:Nat}{p q:Keyed}(Bq:i<=j)(hp:l[i]?=some p)(hq:l[j]?=some q):rk p<=rk q:=by
 obtain⟨h1,e1⟩:=List.getElem?_eq_some_iff.mp hp
 obtain⟨h2,e2⟩:=List.getElem?_eq_some_iff.mp hq
 rcases Nat.lt_or_ge i j with hl|hl
 ·have:=List.pairwise_iff_getElem.mp h i j h1 h2 hl
  rw[e1,e2]at this
  exact this
 ·obtain rfl:i=j:=by omega
  rw[hp]at hq
  cases hq
  exact Nat.le_refl _
theorem nS{rk:Keyed->Nat}{l:List Keyed}{b:Nat}(h:Sd rk (l.drop b)){i j:Nat}{p q:Keyed}(Bq:i<=j)(hp:l[b+i]?=some p)(hq:l[b+j]?=some q):rk p<=rk q:=
 oA h Bq (by simpa using hp) (by simpa using hq)
theorem yv{rk:Keyed->Nat}{l:List Keyed}{b:Nat}(h:Sd rk (l.take b)){i j:Nat}{p q:Keyed}(Bq:i<=j)(hj:j<b)(hp:l[i]?=some p)(hq:l[j]?=some q):rk p<=rk q:=
 oA h Bq (by rw[List.getElem?_take,if_pos (by omega)];exact hp) (by rw[List.getElem?_take,if_pos (by omega)];exact hq)
structure ML(rk:Keyed->Nat)(la lb o:List Keyed)(ia ib:Nat):Prop where
 pm:o.Perm (la.take ia++lb.take ib)
 sa:Sd rk (o++la.drop ia)
 sb:Sd rk (o++lb.drop ib)
theorem ML.ga{rk:Keyed->Nat}{la lb o:List Keyed}{ia ib:Nat}(m:ML rk la lb o ia ib)(k:Nat)(h:∀x∈(la.drop ia).take k,∀y∈lb.drop ib,rk x<=rk y):ML rk la lb (o++(la.drop ia).take k) (ia+k) ib:=by
 have e:(la.drop ia).take k++la.drop (ia+k)=la.drop ia:=by rw[<-List.drop_drop,List.take_append_drop]
 refine⟨?_,?_,?_⟩
 ·rw[List.take_add]
  refine(m.pm.append_right _).trans ?_
  rw[List.append_assoc,List.append_assoc]
  exact List.Perm.append_left _ List.perm_append_comm
 ·rw[List.append_assoc,e]
  exact m.sa
 ·refine Sd.app ?_ m.sb.right λx hx y hy=>?_
  ·have:=m.sa
   rw[<-e,<-List.append_assoc]at this
   exact this.left
  ·rcases List.mem_append.mp hx with hx|hx
   ·exact m.sb.qH x hx y hy
   ·exact h x hx y hy
theorem ML.swap{rk:Keyed->Nat}{la lb o:List Keyed}{ia ib:Nat}(m:ML rk la lb o ia ib):ML rk lb la o ib ia:=⟨m.pm.trans List.perm_append_comm,m.sb,m.sa⟩
theorem ML.gb{rk:Keyed->Nat}{la lb o:List Keyed}{ia ib:Nat}(m:ML rk la lb o ia ib)(k:Nat)(h:∀x∈(lb.drop ib).take k,∀y∈la.drop ia,rk x<=rk y):ML rk la lb (o++(lb.drop ib).take k) ia (ib+k):=(m.swap.ga k h).swap
theorem hW{l:List Keyed}{i:Nat}{p:Keyed}(h:l[i]?=some p):(l.drop i).take 1=[p]:=by
 obtain⟨h1,e1⟩:=List.getElem?_eq_some_iff.mp h
 rw[List.drop_eq_getElem_cons h1,e1]
 rfl
theorem ML.pa{rk:Keyed->Nat}{la lb o:List Keyed}{ia ib:Nat}(m:ML rk la lb o ia ib){p q:Keyed}(hp:la[ia]?=some p)(hq:lb[ib]?=some q)(h:rk p<=rk q):ML rk la lb (o++[p]) (ia+1) ib:=by
 have:=m.ga 1 (λx hx y hy=>by
  rw[hW hp]at hx
  obtain rfl:x=p:=by simpa using hx
  obtain⟨j,e⟩:=iK hy
  exact Nat.le_trans h (nS m.sb.right (Nat.zero_le j) hq e))
 rw[hW hp]at this
 exact this
theorem ML.pb{rk:Keyed->Nat}{la lb o:List Keyed}{ia ib:Nat}(m:ML rk la lb o ia ib){p q:Keyed}(hp:la[ia]?=some p)(hq:lb[ib]?=some q)(h:rk q<=rk p):ML rk la lb (o++[q]) ia (ib+1):=(m.swap.pa hq hp h).swap
noncomputable def Mg(rk:Keyed->Nat)(la lb:List Keyed)(o:Array Keyed):Prop:=o.toList.Perm (la++lb)/\Sd rk o.toList
theorem kc{xs:Array Keyed}{i:Nat}:(xs.extract i xs.size).toList=xs.toList.drop i:=by
 rw[Array.toList_extract]
 unfold List.extract
 rw[List.take_of_length_le]
 rw[List.length_drop,Array.length_toList]
 exact Nat.le_refl _
theorem iL{xs:Array Keyed}{i k:Nat}:(xs.extract i (i+k)).toList=(xs.toList.drop i).take k:=by
 rw[Array.toList_extract]
 unfold List.extract
 congr 1
 omega
theorem ML.qI{rk:Keyed->Nat}{a b o:Array Keyed}{ia ib:Nat}(m:ML rk a.toList b.toList o.toList ia ib)(h:ib=b.size):Mg rk a.toList b.toList (o++a.extract ia a.size++b.extract ib b.size):=by
 unfold Mg
 rw[Array.toList_append,Array.toList_append,kc,kc]
 have e:b.toList.drop ib=[]:=List.drop_eq_nil_of_le (by simp[h])
 have e2:b.toList.take ib=b.toList:=List.take_of_length_le (by simp[h])
 have q:=m.pm
 rw[e2]at q
 rw[e,List.append_nil]
 refine⟨?_,m.sa⟩
 refine(q.append_right _).trans ?_
 refine(List.perm_append_comm.append_right _).trans ?_
 rw[List.append_assoc,List.take_append_drop]
 exact List.perm_append_comm
theorem ML.qJ{rk:Keyed->Nat}{a b o:Array Keyed}{ia ib:Nat}(m:ML rk a.toList b.toList o.toList ia ib)(h:ia=a.size):Mg rk a.toList b.toList (o++a.extract ia a.size++b.extract ib b.size):=by
 unfold Mg
 rw[Array.toList_append,Array.toList_append,kc,kc]
 have e:a.toList.drop ia=[]:=List.drop_eq_nil_of_le (by simp[h])
 have e2:a.toList.take ia=a.toList:=List.take_of_length_le (by simp[h])
 have q:=m.pm
 rw[e2]at q
 rw[e,List.append_nil]
 refine⟨?_,m.sb⟩
 refine(q.append_right _).trans ?_
 rw[List.append_assoc,List.take_append_drop]
theorem ML.last{rk:Keyed->Nat}{a b o:Array Keyed}{ia ib:Nat}(m:ML rk a.toList b.toList o.toList ia ib)(h:ia+1=a.size){z:Keyed}(hz:a.toList[ia]?=some z)(hb:∀y∈b.toList,rk y<=rk z):
  Mg rk a.toList b.toList (o++b.extract ib b.size++a.extract ia a.size):=by
 unfold Mg
 rw[Array.toList_append,Array.toList_append,kc,kc]
 have e:a.toList.drop ia=[z]:=by
  rw[<-hW hz,List.take_of_length_le]
  simp
  omega
 refine⟨?_,?_⟩
 ·refine((m.pm.append_right _).append_right _).trans ?_
  rw[List.append_assoc,List.append_assoc]
  have e1:a.toList++b.toList=a.toList.take ia++(a.toList.drop ia++b.toList):=by rw[<-List.append_assoc,List.take_append_drop]
  rw[e1]
  refine List.Perm.append_left _ ?_
  rw[<-List.append_assoc,List.take_append_drop]
  exact List.perm_append_comm
 ·refine Sd.app m.sb m.sa.right λx hx y hy=>?_
  rcases List.mem_append.mp hx with hx|hx
  ·exact m.sa.qH x hx y hy
  ·rw[e]at hy
   obtain rfl:y=z:=by simpa using hy
   exact hb x (List.mem_of_mem_drop hx)
structure Sm(st aP:SortSt):Prop where
 k:kindOf aP=kindOf st
 a:arrOf aP=arrOf st
 p:pendingOf aP=pendingOf st
 f:failedOf aP=failedOf st
theorem Sm.refl(st:SortSt):Sm st st:=⟨rfl,rfl,rfl,rfl⟩
theorem Sm.trans{st aP BY:SortSt}(x:Sm st aP)(y:Sm aP BY):Sm st BY:=⟨y.k.trans x.k,y.a.trans x.a,y.p.trans x.p,y.f.trans x.f⟩
section
variable{prog:Program}{w:World}{A:Around}{E:Value->Shared->Prop}{s:Shared}{kd:SortKind}{G:Keyed->Prop}{rk:Keyed->Nat}
theorem mC{M:Model}{g:Nat}{st:SortSt}{Q:Unit->SortSt->Prop}(q:∀aP,Sm st aP->Q () aP):wpS M A E s (lD g) Q st:=wpS_modify (q _ ⟨rfl,rfl,rfl,rfl⟩)
theorem oB{key:Keyed}{xs:Array Keyed}{b n:Nat}(h:Sd rk (xs.toList.drop b))(hn:b+n<=xs.size)(left:Bool):∀i j,i<=j->j<n->iY rk left key xs b j=true->iY rk left key xs b i=true:=by
 intro i j Bq hj
 obtain⟨p,p1,p2,p3⟩:=cP (xs:=xs) (i:=b+i) (by omega)
 obtain⟨q,q1,q2,q3⟩:=cP (xs:=xs) (i:=b+j) (by omega)
 have:=nS h Bq p1 q1
 unfold iY
 rw[wN p2,wN q2]
 cases left<;>simp<;>omega
theorem oC{key:Keyed}{xs:Array Keyed}{n:Nat}(h:Sd rk (xs.toList.take n))(hn:n<=xs.size)(left:Bool):∀i j,i<=j->j<n->iY rk left key xs 0 j=true->iY rk left key xs 0 i=true:=by
 intro i j Bq hj
 obtain⟨p,p1,p2,p3⟩:=cP (xs:=xs) (i:=0+i) (by omega)
 obtain⟨q,q1,q2,q3⟩:=cP (xs:=xs) (i:=0+j) (by omega)
 have:=yv h (i:=0+i) (j:=0+j) (by omega) (by omega) p1 q1
 unfold iY
 rw[wN p2,wN q2]
 cases left<;>simp<;>omega
theorem qK{key p:Keyed}{xs:Array Keyed}{b i:Nat}(hp:xs.toList[b+i]?=some p):iY rk true key xs b i=decide (rk p<rk key):=by
 unfold iY
 rw[sC hp]
 rfl
theorem qL{key p:Keyed}{xs:Array Keyed}{b i:Nat}(hp:xs.toList[b+i]?=some p):iY rk false key xs b i=decide (rk p<=rk key):=by
 unfold iY
 rw[sC hp,if_neg (by decide)]
 by_cases h:rk p<=rk key
 ·rw[decide_eq_true h,decide_eq_false (by omega)]
  rfl
 ·rw[decide_eq_false h,decide_eq_true (by omega)]
  rfl
end
section
variable{prog:Program}{w:World}{A:Around}{E:Value->Shared->Prop}{s:Shared}{kd:SortKind}{G:Keyed->Prop}{rk:Keyed->Nat}
theorem a8{M:Model}{α:Type}{c:Prop}[Decidable c]{x y:StateT SortSt Sem α}{st:SortSt}{Q:α->SortSt->Prop}(h1:c->wpS M A E s x Q st)(h2:¬c->wpS M A E s y Q st):wpS M A E s (if c then x else y) Q st:=by
 by_cases h:c
 ·rw[if_pos h]
  exact h1 h
 ·rw[if_neg h]
  exact h2 h
theorem ML.oE{a b o:Array Keyed}{ia ib:Nat}(m:ML rk a.toList b.toList o.toList ia ib){p:Keyed}(hp:a.toList[ia]?=some p)(h:∀y∈b.toList.drop ib,rk p<=rk y):ML rk a.toList b.toList (o.push p).toList (ia+1) ib:=by
 have:=m.ga 1 (λx hx y hy=>by
  rw[hW hp]at hx
  obtain rfl:x=p:=by simpa using hx
  exact h y hy)
 rw[hW hp]at this
 rw[Array.toList_push]
 exact this
theorem ML.yw{a b o:Array Keyed}{ia ib:Nat}(m:ML rk a.toList b.toList o.toList ia ib){p:Keyed}(hp:b.toList[ib]?=some p)(h:∀y∈a.toList.drop ia,rk p<=rk y):ML rk a.toList b.toList (o.push p).toList ia (ib+1):=(m.swap.oE hp h).swap
theorem ML.IT{a b o:Array Keyed}{ia ib:Nat}(m:ML rk a.toList b.toList o.toList ia ib)(k:Nat){p:Keyed}(hp:b.toList[ib]?=some p)(h:∀i,i<k->iY rk false p a ia i=true):ML rk a.toList b.toList (o++a.extract ia (ia+k)).toList (ia+k) ib:=by
 rw[Array.toList_append,iL]
 refine m.ga k λx hx y hy=>?_
 obtain⟨j,hj,ej⟩:=d7 hx
 obtain⟨i,ei⟩:=iK hy
 have q1:=h j hj
 rw[qL ej]at q1
 exact Nat.le_trans (of_decide_eq_true q1) (nS m.sb.right (Nat.zero_le i) hp ei)
theorem ML.IU{a b o:Array Keyed}{ia ib:Nat}(m:ML rk a.toList b.toList o.toList ia ib)(k:Nat){p:Keyed}(hp:a.toList[ia]?=some p)(h:∀i,i<k->iY rk true p b ib i=true):ML rk a.toList b.toList (o++b.extract ib (ib+k)).toList ia (ib+k):=by
 rw[Array.toList_append,iL]
 refine m.gb k λx hx y hy=>?_
 obtain⟨j,hj,ej⟩:=d7 hx
 obtain⟨i,ei⟩:=iK hy
 have q1:=h j hj
 rw[qK ej]at q1
 exact Nat.le_trans (Nat.le_of_lt (of_decide_eq_true q1)) (nS m.sa.right (Nat.zero_le i) hp ei)
theorem IV{a:Array Keyed}{ia k n:Nat}{p:Keyed}(h:∀i,k<=i->i<n->iY rk false p a ia i=false)(hn:ia+n=a.size):∀y∈a.toList.drop (ia+k),rk p<=rk y:=λy hy=>by
 obtain⟨j,e⟩:=iK hy
 have hj:=(List.getElem?_eq_some_iff.mp e).1
 rw[Array.length_toList]at hj
 have e':a.toList[ia+(k+j)]?=some y:=by rw[<-Nat.add_assoc];exact e
 have q:=h (k+j) (by omega) (by omega)
 rw[qL e']at q
 have:=of_decide_eq_false q
 omega
theorem IW{a:Array Keyed}{ia k n:Nat}{p:Keyed}(h:∀i,k<=i->i<n->iY rk true p a ia i=false)(hn:ia+n=a.size):∀y∈a.toList.drop (ia+k),rk p<=rk y:=λy hy=>by
 obtain⟨j,e⟩:=iK hy
 have hj:=(List.getElem?_eq_some_iff.mp e).1
 rw[Array.length_toList]at hj
 have e':a.toList[ia+(k+j)]?=some y:=by rw[<-Nat.add_assoc];exact e
 have q:=h (k+j) (by omega) (by omega)
 rw[qK e']at q
 have:=of_decide_eq_false q
 omega
noncomputable abbrev LT:=Option (Array Keyed)×Array Keyed×Nat×Nat×Nat×Nat×Nat
noncomputable abbrev LM:=StateT SortSt Sem (ForInStep LT)
noncomputable abbrev N3(a b o:Array Keyed)(i j g ac bc:Nat):LM:=elem' a i>>=λz=>if(i+1+1==a.size)=true then pure (.done (some (o.push z++b.extract j b.size++a.extract (i+1) a.size),o.push z,i+1,j,g,ac,bc))else if(decide (ac<7)&&decide (bc<7))=true then pure (.done (none,o.push z,i+1,j,g,ac,bc))else pure (.yield (none,o.push z,i+1,j,g,ac,bc))
noncomputable abbrev IX(a b o:Array Keyed)(i kb g ac:Nat)(x:Keyed)(j:Nat):LM:=if j>0 then(if(kb+1+j==b.size)=true then pure (.done (some (o.push x++b.extract (kb+1) (kb+1+j)++a.extract i a.size++b.extract (kb+1+j) b.size),o.push x++b.extract (kb+1) (kb+1+j),i,kb+1+j,g,ac,j))else N3 a b (o.push x++b.extract (kb+1) (kb+1+j)) i (kb+1+j) g ac j)else N3 a b (o.push x) i (kb+1) g ac j
noncomputable abbrev N4(a b o:Array Keyed)(i kb g ac bc:Nat)(K:Keyed->Keyed->Option Nat->LM):LM:=elem' b kb>>=λx=>if(kb+1==b.size)=true then pure (.done (some (o.push x++a.extract i a.size++b.extract (kb+1) b.size),o.push x,i,kb+1,g,ac,bc))else elem' a i>>=λy=>lC true y b (kb+1) (b.size-(kb+1)) 0>>=K x y
noncomputable abbrev N5(a b o:Array Keyed)(ka kb g bc k:Nat)(K1 K2:Keyed->Keyed->Option Nat->LM):LM:=if k>0 then(if(ka+k+1==a.size)=true then pure (.done (some (o++a.extract ka (ka+k)++b.extract kb b.size++a.extract (ka+k) a.size),o++a.extract ka (ka+k),ka+k,kb,g,k,bc))else if(ka+k==a.size)=true then pure (.done (some (o++a.extract ka (ka+k)++a.extract (ka+k) a.size++b.extract kb b.size),o++a.extract ka (ka+k),ka+k,kb,g,k,bc))else N4 a b (o++a.extract ka (ka+k)) (ka+k) kb g k bc K1)else N4 a b o ka kb g k bc K2
noncomputable abbrev N6(a b:Array Keyed)(ka kb:Nat)(K:Keyed->Option Nat->LM):LM:=elem' b kb>>=λx=>lC false x a ka (a.size-ka) 0>>=K x
noncomputable def LA(rk:Keyed->Nat)(a b:Array Keyed)(st:SortSt)(n:Nat)(c:LT)(pZ:SortSt):Prop:=Sm st pZ/\∃o ka kb g ac bc,c=(none,o,ka,kb,g,ac,bc)/\ML rk a.toList b.toList o.toList ka kb/\ka+1<a.size/\kb<b.size/\n<=ka+kb
noncomputable def LB(rk:Keyed->Nat)(a b:Array Keyed)(st:SortSt)(n:Nat)(c:LT)(pZ:SortSt):Prop:=Sm st pZ/\((∃r rest,c=(some r,rest)/\Mg rk a.toList b.toList r)\/∃o ka kb g ac bc,c=(none,o,ka,kb,g,ac,bc)/\ML rk a.toList b.toList o.toList ka kb/\ka+1<a.size/\kb<b.size/\n<=ka+kb)
theorem Hh{a b o:Array Keyed}{st ke:SortSt}{i j g ac bc n:Nat}{pa:Keyed}{M:Model}{R:ForInStep LT->SortSt->Prop}(hD:∀c aP,LB rk a b st n c aP->R (.done c) aP)(hY:∀c aP,LA rk a b st n c aP->R (.yield c) aP)(gI:∀{o:Array Keyed} {ia ib:Nat},ML rk a.toList b.toList o.toList ia ib->ia+1=a.size->Mg rk a.toList b.toList (o++b.extract ib b.size++a.extract ia a.size))(mD:Sm st ke)
  (m:ML rk a.toList b.toList o.toList i j)(hl:i+1<a.size)(hj:j<b.size)(hn:n<=i+1+j)(uL:a.toList[i]?=some pa)(uM:a[i]?=some pa)(rn:∀y∈b.toList.drop j,rk pa<=rk y):
  wpS M A E s (N3 a b o i j g ac bc) R ke:=by
 have m7:=m.oE uL rn
 refine wpS_bind (bP uM ?_)
 refine a8 (λe4=>wpS_pure (hD _ _ ⟨mD,.inl ⟨_,_,rfl,gI m7 (by simpa using e4)⟩⟩)) (λe4=>?_)
 have MR:=hl
 refine a8 (λe5=>wpS_pure (hD _ _ ⟨mD,.inr ⟨_,_,_,_,_,_,rfl,m7,?_,hj,?_⟩⟩)) (λe5=>wpS_pure (hY _ _ ⟨mD,_,_,_,_,_,_,rfl,m7,?_,hj,?_⟩))
 all_goals
  simp at e4
  omega
theorem Hi(C:uI prog w A E s kd G rk){a b o:Array Keyed}{st ke:SortSt}{i kb g ac bc n:Nat}{pb:Keyed}{R:ForInStep LT->SortSt->Prop}{K:Keyed->Keyed->Option Nat->LM}(hK:∀x y j,K x y (some j)=IX a b o i kb g ac x j)(hD:∀c aP,LB rk a b st n c aP->R (.done c) aP)(hY:∀c aP,LA rk a b st n c aP->R (.yield c) aP)(BZ:kindOf ke=kd)(ga:Gd G a)(gb:Gd G b)(gI:∀{o:Array Keyed} {ia ib:Nat},ML rk a.toList b.toList o.toList ia ib->ia+1=a.size->Mg rk a.toList b.toList (o++b.extract ib b.size++a.extract ia a.size))(mD:Sm st ke)
  (mm:ML rk a.toList b.toList o.toList i kb)(hl:i+1<a.size)(f2:kb<b.size)(hn:n<=i+kb)(qM:b.toList[kb]?=some pb)(sD:b[kb]?=some pb)(rr:∀y∈a.toList.drop i,rk pb<=rk y):
  wpS (model prog w) A E s (N4 a b o i kb g ac bc K) R ke:=by
 have m5:=mm.yw qM rr
 refine wpS_bind (bP sD ?_)
 refine a8 (λd1=>wpS_pure (hD _ _ ⟨mD,.inl ⟨_,_,rfl,m5.qI (by simpa using d1)⟩⟩)) (λd1=>?_)
 have M0:kb+1<b.size:=by
  simp at d1
  omega
 obtain⟨pa,uL,uM,IY⟩:=cP (xs:=a) (Nat.lt_of_succ_lt hl)
 refine wpS_bind (bP uM (wpS_bind (gB C (left:=true) (key:=pa) (xs:=b) (base:=kb+1) (n:=b.size-(kb+1)) (hint:=0) BZ gb (ga _ IY) (by omega) (by omega) (oB m5.sb.right (by omega) true) λj j1 j2 j3=>?_)))
 rw[hK]
 have m6:=m5.IU j uL j2
 have r6:∀y∈b.toList.drop (kb+1+j),rk pa<=rk y:=IW j3 (by omega)
 refine a8 (λjp=>a8 (λe3=>wpS_pure (hD _ _ ⟨mD,.inl ⟨_,_,rfl,m6.qI (by simpa using e3)⟩⟩)) λe3=>?_) (λjp=>?_)
 ·have hn:kb+1+j<b.size:=by
    simp at e3
    omega
  exact Hh hD hY gI mD m6 hl hn (by omega) uL uM r6
 ·obtain rfl:j=0:=by omega
  exact Hh hD hY gI mD m5 hl M0 (by omega) uL uM r6
theorem Hj(C:uI prog w A E s kd G rk){a b o:Array Keyed}{st ke:SortSt}{ka kb g bc n:Nat}{R:ForInStep LT->SortSt->Prop}{K0:Keyed->Option Nat->LM}{K1 K2:Nat->Keyed->Keyed->Option Nat->LM}(IZ:∀x k,K0 x (some k)=N5 a b o ka kb g bc k (K1 k) (K2 k))
  (I9:∀k x y j,K1 k x y (some j)=IX a b (o++a.extract ka (ka+k)) (ka+k) kb g k x j)(Ja:∀k x y j,K2 k x y (some j)=IX a b o ka kb g k x j)(hD:∀c aP,LB rk a b st n c aP->R (.done c) aP)(hY:∀c aP,LA rk a b st n c aP->R (.yield c) aP)(BZ:kindOf ke=kd)(ga:Gd G a)(gb:Gd G b)(gI:∀{o:Array Keyed} {ia ib:Nat},ML rk a.toList b.toList o.toList ia ib->ia+1=a.size->Mg rk a.toList b.toList (o++b.extract ib b.size++a.extract ia a.size))(mD:Sm st ke)
  (m3:ML rk a.toList b.toList o.toList ka kb)(f1:ka+1<a.size)(f2:kb<b.size)(f3:n<=ka+kb):
  wpS (model prog w) A E s (N6 a b ka kb K0) R ke:=by
 obtain⟨pb,qM,sD,Fc⟩:=cP (xs:=b) (i:=kb) (by omega)
 refine wpS_bind (bP sD (wpS_bind (gB C (left:=false) (key:=pb) (xs:=a) (base:=ka) (n:=a.size-ka) (hint:=0) BZ ga (gb _ Fc) (by omega) (by omega) (oB m3.sa.right (by omega) false) λk k1 k2 k3=>?_)))
 rw[IZ]
 have m4:=m3.IT k qM k2
 have r4:∀y∈a.toList.drop (ka+k),rk pb<=rk y:=IV k3 (by omega)
 refine a8 (λkp=>a8 (λe1=>wpS_pure (hD _ _ ⟨mD,.inl ⟨_,_,rfl,gI m4 (by simpa using e1)⟩⟩)) λe1=>a8 (λe2=>wpS_pure (hD _ _ ⟨mD,.inl ⟨_,_,rfl,m4.qJ (by simpa using e2)⟩⟩)) λe2=>?_) (λkp=>?_)
 ·have hl:ka+k+1<a.size:=by
    simp at e1 e2
    omega
  exact Hi C (I9 k) hD hY BZ ga gb gI mD m4 hl f2 (by omega) qM sD r4
 ·obtain rfl:k=0:=by omega
  exact Hi C (Ja 0) hD hY BZ ga gb gI mD m3 f1 f2 f3 qM sD r4
theorem Fd(C:uI prog w A E s kd G rk){a b:Array Keyed}{st bL:SortSt}{lo hi n:Nat}{c0:LT}{f:Nat->LT->LM}{K0 L0:Array Keyed->Nat->Nat->Nat->Nat->Nat->Keyed->Option Nat->LM}{K1 K2 L1 L2:Array Keyed->Nat->Nat->Nat->Nat->Nat->Nat->Keyed->Keyed->Option Nat->LM}
  (hf:∀y o ka kb g ac bc,f y (none,o,ka,kb,g,ac,bc)=(if g>1 then lD (g-1)>>=λ_=>N6 a b ka kb (K0 o ka kb g ac bc)else lD g>>=λ_=>N6 a b ka kb (L0 o ka kb g ac bc)))
  (IZ:∀o ka kb g ac bc x k,K0 o ka kb g ac bc x (some k)=N5 a b o ka kb (g-1) bc k (K1 o ka kb g ac bc k) (K2 o ka kb g ac bc k))(I9:∀o ka kb g ac bc k x y j,K1 o ka kb g ac bc k x y (some j)=IX a b (o++a.extract ka (ka+k)) (ka+k) kb (g-1) k x j)(Ja:∀o ka kb g ac bc k x y j,K2 o ka kb g ac bc k x y (some j)=IX a b o ka kb (g-1) k x j)
  (N7:∀o ka kb g ac bc x k,L0 o ka kb g ac bc x (some k)=N5 a b o ka kb g bc k (L1 o ka kb g ac bc k) (L2 o ka kb g ac bc k))(N8:∀o ka kb g ac bc k x y j,L1 o ka kb g ac bc k x y (some j)=IX a b (o++a.extract ka (ka+k)) (ka+k) kb g k x j)(N9:∀o ka kb g ac bc k x y j,L2 o ka kb g ac bc k x y (some j)=IX a b o ka kb g k x j)
  (hk:kindOf st=kd)(ga:Gd G a)(gb:Gd G b)(gI:∀{o:Array Keyed} {ia ib:Nat},ML rk a.toList b.toList o.toList ia ib->ia+1=a.size->Mg rk a.toList b.toList (o++b.extract ib b.size++a.extract ia a.size))(h:LA rk a b st n c0 bL):
  wpS (model prog w) A E s (forIn [lo:hi] c0 f) (LB rk a b st n) bL:=by
 refine wpS_forRange (I:=λ_=>LA rk a b st n) (Q:=LB rk a b st n) ?gstep ?gfin h
 case gfin=>
  rintro c pZ ⟨sE,r⟩
  exact⟨sE,.inr r⟩
 case gstep=>
  rintro y c pZ-hy ⟨sE,o3,ka,kb,g,ac,bc,rfl,m3,f1,f2,f3⟩
  rw[hf]
  refine a8 (λ_=>wpS_bind (mC λke wO=>?_)) (λ_=>wpS_bind (mC λke wO=>?_))
  ·exact Hj C (n:=n) (λx k=>IZ o3 ka kb g ac bc x k) (λk x y j=>I9 o3 ka kb g ac bc k x y j) (λk x y j=>Ja o3 ka kb g ac bc k x y j) (λ_ _ h=>h) (λ_ _ h=>h) ((sE.trans wO).k.trans hk) ga gb gI (sE.trans wO) m3 f1 f2 f3
  ·exact Hj C (n:=n) (λx k=>N7 o3 ka kb g ac bc x k) (λk x y j=>N8 o3 ka kb g ac bc k x y j) (λk x y j=>N9 o3 ka kb g ac bc k x y j) (λ_ _ h=>h) (λ_ _ h=>h) ((sE.trans wO).k.trans hk) ga gb gI (sE.trans wO) m3 f1 f2 f3
theorem wQ(C:uI prog w A E s kd G rk){a b:Array Keyed}{st:SortSt}{Q:Array Keyed->SortSt->Prop}(hk:kindOf st=kd)(ga:Gd G a)(gb:Gd G b)(sa:Sd rk a.toList)(sb:Sd rk b.toList)(na:1<=a.size)(nb:1<=b.size)
  {p0 q0 z:Keyed}(QO:a.toList[0]?=some p0)(bW:b.toList[0]?=some q0)(h0:rk q0<=rk p0)(hz:a.toList[a.size-1]?=some z)(Oa:∀y∈b.toList,rk y<=rk z)
  (q:∀o aP,Sm st aP->Mg rk a.toList b.toList o->Q o aP):wpS (model prog w) A E s (BV a b) Q st:=by
 refine wpS_bind (wpS_lift (wpAny_rule ⟨rfl,?_⟩))
 refine wpS_bind (bP (p:=q0) (by simpa using bW) ?_)
 have m0:ML rk a.toList b.toList (#[q0]:Array Keyed).toList 0 1:=by
  refine⟨?_,?_,?_⟩
  ·have:=hW bW
   simp at this
   simp[this]
  ·refine Sd.app (Sd.one q0) (by simpa using sa) λx hx y hy=>?_
   obtain rfl:x=q0:=by simpa using hx
   obtain⟨j,e⟩:=iK hy
   exact Nat.le_trans h0 (oA sa (Nat.zero_le _) QO e)
  ·have e:[q0]++b.toList.drop 1=b.toList:=by
     obtain⟨h1,e1⟩:=List.getElem?_eq_some_iff.mp bW
     have:=List.drop_eq_getElem_cons h1
     rw[e1]at this
     simpa using this.symm
   show Sd rk ([q0]++b.toList.drop 1)
   rw[e]
   exact sb
 by_cases c1:1=b.size
 ·rw[if_pos (by simpa using c1)]
  exact wpS_pure (q _ _ (Sm.refl _) (m0.qI c1))
 rw[if_neg (by simpa using c1)]
 have gI:∀{o:Array Keyed} {ia ib:Nat},ML rk a.toList b.toList o.toList ia ib->ia+1=a.size->Mg rk a.toList b.toList (o++b.extract ib b.size++a.extract ia a.size):=λ{o ia ib} m e=>m.last e (by rw[show ia=a.size-1 by omega];exact hz) Oa
 by_cases c2:0+1=a.size
 ·rw[if_pos (by simpa using c2)]
  exact wpS_pure (q _ _ (Sm.refl _) (gI m0 c2))
 rw[if_neg (by simpa using c2)]
 refine wpS_bind (wpS_get ?_)
 dsimp only
 refine wpS_bind (wpS_mono (wpS_forRange (I:=λx c aP=>Sm st aP/\∃o ia ib g,c=(none,o,ia,ib,g)/\ML rk a.toList b.toList o.toList ia ib/\ia+1<a.size/\ib<b.size/\x+1<=ia+ib)
  (Q:=λc aP=>Sm st aP/\∃r rest,c=(some r,rest)/\Mg rk a.toList b.toList r) ?step ?fin ⟨Sm.refl _,_,0,1,_,rfl,m0,by omega,by omega,by omega⟩) ?post)
 case post=>
  rintro c aP ⟨sm,r,rest,rfl,mg⟩
  exact wpS_pure (q r aP sm mg)
 case fin=>
  rintro c aP ⟨-,o,ia,ib,g,-,-,h1,h2,h3⟩
  omega
 case step=>
  rintro x c aP-hx ⟨sm,o,ia,ib,g,rfl,m,h1,h2,h3⟩
  dsimp only
  refine wpS_bind (wpS_mono (wpS_forRange (I:=λy c bL=>Sm st bL/\∃o ja jb ac bc,c=(none,o,ja,jb,ac,bc)/\ML rk a.toList b.toList o.toList ja jb/\ja+1<a.size/\jb<b.size/\ia+ib+y<=ja+jb)
   (Q:=λc bL=>Sm st bL/\((∃r rest,c=(some r,rest)/\Mg rk a.toList b.toList r)\/∃o ja jb ac bc,c=(none,o,ja,jb,ac,bc)/\ML rk a.toList b.toList o.toList ja jb/\ja+1<a.size/\jb<b.size/\ia+ib+1<=ja+jb))
   ?istep ?ifin ⟨sm,_,ia,ib,0,0,rfl,m,h1,h2,by omega⟩) ?ipost)
  case ifin=>
   rintro c bL ⟨-,o,ja,jb,ac,bc,-,-,g1,g2,g3⟩
   omega
  case istep=>
   rintro y c bL-hy ⟨me,o2,ja,jb,ac,bc,rfl,m2,g1,g2,g3⟩
   dsimp only
   obtain⟨pa,uL,uM,IY⟩:=cP (xs:=a) (i:=ja) (by omega)
   obtain⟨pb,qM,sD,Fc⟩:=cP (xs:=b) (i:=jb) (by omega)
   refine wpS_bind (bP sD (wpS_bind (bP uM (wpS_bind (C pb pa bL _ (me.k.trans hk) (gb _ Fc) (ga _ IY) ?_)))))
   by_cases hw:rk pb<rk pa
   ·rw[decide_eq_true hw]
    refine wpS_bind (bP sD ?_)
    have m3:ML rk a.toList b.toList (o2.push pb).toList ja (jb+1):=by
     rw[Array.toList_push]
     exact m2.pb uL qM (Nat.le_of_lt hw)
    by_cases d1:jb+1=b.size
    ·rw[if_pos (by simpa using d1)]
     exact wpS_pure ⟨me,.inl ⟨_,_,rfl,m3.qI d1⟩⟩
    rw[if_neg (by simpa using d1)]
    by_cases d2:bc+1≥g
    ·rw[if_pos d2]
     exact wpS_pure ⟨me,.inr ⟨_,ja,jb+1,_,_,rfl,m3,g1,by omega,by omega⟩⟩
    ·rw[if_neg d2]
     exact wpS_pure ⟨me,_,ja,jb+1,_,_,rfl,m3,g1,by omega,by omega⟩
   ·rw[decide_eq_false hw]
    refine wpS_bind (bP uM ?_)
    have m3:ML rk a.toList b.toList (o2.push pa).toList (ja+1) jb:=by
     rw[Array.toList_push]
     exact m2.pa uL qM (by omega)
    by_cases d1:ja+1+1=a.size
    ·rw[if_pos (by simpa using d1)]
     exact wpS_pure ⟨me,.inl ⟨_,_,rfl,gI m3 d1⟩⟩
    rw[if_neg (by simpa using d1)]
    by_cases d2:ac+1≥g
    ·rw[if_pos d2]
     exact wpS_pure ⟨me,.inr ⟨_,ja+1,jb,_,_,rfl,m3,by omega,g2,by omega⟩⟩
    ·rw[if_neg d2]
     exact wpS_pure ⟨me,_,ja+1,jb,_,_,rfl,m3,by omega,g2,by omega⟩
  case ipost=>
   rintro c bL ⟨me,⟨r,rest,rfl,mg⟩|⟨o2,ja,jb,ac,bc,rfl,m2,g1,g2,g3⟩⟩
   ·exact wpS_pure ⟨me,_,_,rfl,mg⟩
   dsimp only
   refine wpS_bind (wpS_lift (wpAny_rule ⟨rfl,?_⟩))
   refine wpS_bind (wpS_mono (Fd C (n:=ja+jb) (λ_ _ _ _ _ _ _=>rfl) (λ_ _ _ _ _ _ _ _=>rfl) (λ_ _ _ _ _ _ _ _ _ _=>rfl) (λ_ _ _ _ _ _ _ _ _ _=>rfl) (λ_ _ _ _ _ _ _ _=>rfl) (λ_ _ _ _ _ _ _ _ _ _=>rfl) (λ_ _ _ _ _ _ _ _ _ _=>rfl) hk ga gb gI ⟨me,_,ja,jb,_,_,_,rfl,m2,g1,g2,by omega⟩) ?gpost)
   case gpost=>
    rintro c pZ ⟨sE,⟨r,rest,rfl,mg⟩|⟨o3,ka,kb,g,ac,bc,rfl,m3,f1,f2,f3⟩⟩
    ·exact wpS_pure ⟨sE,_,_,rfl,mg⟩
    dsimp only
    refine wpS_bind (mC λke wO=>wpS_pure ⟨sE.trans wO,_,ka,kb,_,rfl,m3,f1,f2,by omega⟩)
end
structure MH(rk:Keyed->Nat)(la lb o:List Keyed)(na nb:Nat):Prop where
 pm:o.Perm (la.drop na++lb.drop nb)
 sa:Sd rk (la.take na++o)
 sb:Sd rk (lb.take nb++o)
theorem Fe(l:List Keyed){i n:Nat}(h:i<=n):l.take n=l.take i++(l.drop i).take (n-i):=by
 rw[<-List.take_add]
 congr 1
 omega
theorem yx(l:List Keyed){i n:Nat}(h:i<=n):l.drop i=(l.drop i).take (n-i)++l.drop n:=by
 have:l.drop n=(l.drop i).drop (n-i):=by
  rw[List.drop_drop]
  congr 1
  omega
 rw[this,List.take_append_drop]
theorem MH.ga{rk:Keyed->Nat}{la lb o:List Keyed}{na nb:Nat}(m:MH rk la lb o na nb)(i:Nat)(hi:i<=na)(h:∀x∈(la.drop i).take (na-i),∀y∈lb.take nb,rk y<=rk x):MH rk la lb ((la.drop i).take (na-i)++o) i nb:=by
 have e:=Fe la hi
 refine⟨?_,?_,?_⟩
 ·refine(m.pm.append_left _).trans ?_
  rw[<-List.append_assoc,<-yx la hi]
 ·rw[<-List.append_assoc,<-e]
  exact m.sa
 ·have s1:=m.sa
  rw[e,List.append_assoc]at s1
  refine Sd.app m.sb.left s1.right λx hx y hy=>?_
  rcases List.mem_append.mp hy with hy|hy
  ·exact h y hy x hx
  ·exact m.sb.qH x hx y hy
theorem MH.swap{rk:Keyed->Nat}{la lb o:List Keyed}{na nb:Nat}(m:MH rk la lb o na nb):MH rk lb la o nb na:=⟨m.pm.trans List.perm_append_comm,m.sb,m.sa⟩
theorem uN{l:List Keyed}{n:Nat}{p:Keyed}(hn:1<=n)(h:l[n-1]?=some p):(l.drop (n-1)).take (n-(n-1))=[p]:=by
 rw[show n-(n-1)=1 by omega]
 exact hW h
section
variable{prog:Program}{w:World}{A:Around}{E:Value->Shared->Prop}{s:Shared}{kd:SortKind}{G:Keyed->Prop}{rk:Keyed->Nat}
theorem MH.oE{a b o:Array Keyed}{na nb:Nat}(m:MH rk a.toList b.toList o.toList.reverse na nb)(hn:1<=na){p:Keyed}(hp:a.toList[na-1]?=some p)(h:∀y∈b.toList.take nb,rk y<=rk p):MH rk a.toList b.toList (o.push p).toList.reverse (na-1) nb:=by
 have:=m.ga (na-1) (by omega) (λx hx y hy=>by
  rw[uN hn hp]at hx
  obtain rfl:x=p:=by simpa using hx
  exact h y hy)
 rw[uN hn hp]at this
 rw[Array.toList_push,List.reverse_append]
 exact this
theorem MH.yw{a b o:Array Keyed}{na nb:Nat}(m:MH rk a.toList b.toList o.toList.reverse na nb)(hn:1<=nb){p:Keyed}(hp:b.toList[nb-1]?=some p)(h:∀y∈a.toList.take na,rk y<=rk p):MH rk a.toList b.toList (o.push p).toList.reverse na (nb-1):=(m.swap.oE hn hp h).swap
theorem uO{xs o:Array Keyed}{i n:Nat}(h:i<=n):(o++(xs.extract i n).reverse).toList.reverse=(xs.toList.drop i).take (n-i)++o.toList.reverse:=by
 rw[Array.toList_append,List.reverse_append,Array.toList_reverse,List.reverse_reverse]
 congr 1
 have:=iL (xs:=xs) (i:=i) (k:=n-i)
 rw[show i+(n-i)=n by omega]at this
 exact this
theorem le_last{l:List Keyed}{n:Nat}{p y:Keyed}(h:Sd rk (l.take n))(hn:1<=n)(hp:l[n-1]?=some p)(hy:y∈l.take n):rk y<=rk p:=by
 obtain⟨j,hj,e⟩:=oz hy
 exact yv h (by omega) (by omega) e hp
theorem MH.IT{a b o:Array Keyed}{na nb i:Nat}(m:MH rk a.toList b.toList o.toList.reverse na nb)(hi:i<=na){p:Keyed}(hn:1<=nb)(hp:b.toList[nb-1]?=some p)(h:∀j,i<=j->j<na->iY rk false p a 0 j=false):MH rk a.toList b.toList (o++(a.extract i na).reverse).toList.reverse i nb:=by
 rw[uO hi]
 refine m.ga i hi λx hx y hy=>?_
 obtain⟨j,hj,ej⟩:=d7 hx
 have q1:=h (i+j) (by omega) (by omega)
 rw[qL (by rw[Nat.zero_add];exact ej)]at q1
 have q2:=of_decide_eq_false q1
 have q3:=le_last m.sb.left hn hp hy
 omega
theorem MH.IU{a b o:Array Keyed}{na nb i:Nat}(m:MH rk a.toList b.toList o.toList.reverse na nb)(hi:i<=nb){p:Keyed}(hn:1<=na)(hp:a.toList[na-1]?=some p)(h:∀j,i<=j->j<nb->iY rk true p b 0 j=false):MH rk a.toList b.toList (o++(b.extract i nb).reverse).toList.reverse na i:=by
 rw[uO hi]
 refine(m.swap.ga i hi λx hx y hy=>?_).swap
 obtain⟨j,hj,ej⟩:=d7 hx
 have q1:=h (i+j) (by omega) (by omega)
 rw[qK (by rw[Nat.zero_add];exact ej)]at q1
 have q2:=of_decide_eq_false q1
 have q3:=le_last m.sa.left hn hp hy
 omega
theorem Jb{a:Array Keyed}{k:Nat}{p:Keyed}(h:∀i,i<k->iY rk false p a 0 i=true):∀y∈a.toList.take k,rk y<=rk p:=λy hy=>by
 obtain⟨j,hj,e⟩:=oz hy
 have q:=h j hj
 rw[qL (by rw[Nat.zero_add];exact e)]at q
 exact of_decide_eq_true q
theorem Jc{a:Array Keyed}{k:Nat}{p:Keyed}(h:∀i,i<k->iY rk true p a 0 i=true):∀y∈a.toList.take k,rk y<=rk p:=λy hy=>by
 obtain⟨j,hj,e⟩:=oz hy
 have q:=h j hj
 rw[qK (by rw[Nat.zero_add];exact e)]at q
 exact Nat.le_of_lt (of_decide_eq_true q)
theorem iM{xs:Array Keyed}{n:Nat}:(xs.extract 0 n).toList=xs.toList.take n:=by
 have:=iL (xs:=xs) (i:=0) (k:=n)
 simpa using this
theorem MH.qJ{a b o:Array Keyed}{na nb:Nat}(m:MH rk a.toList b.toList o.toList.reverse na nb)(h:na=0):Mg rk a.toList b.toList (a.extract 0 na++b.extract 0 nb++o.reverse):=by
 unfold Mg
 rw[Array.toList_append,Array.toList_append,iM,iM,Array.toList_reverse]
 have q:=m.pm
 subst h
 rw[List.drop_zero]at q
 rw[List.take_zero,List.nil_append]
 refine⟨?_,m.sb⟩
 refine(q.append_left _).trans ?_
 refine List.perm_append_comm.trans ?_
 rw[List.append_assoc]
 refine List.Perm.append_left _ (List.perm_append_comm.trans ?_)
 rw[List.take_append_drop]
theorem MH.qI{a b o:Array Keyed}{na nb:Nat}(m:MH rk a.toList b.toList o.toList.reverse na nb)(h:nb=0):Mg rk a.toList b.toList (a.extract 0 na++b.extract 0 nb++o.reverse):=by
 unfold Mg
 rw[Array.toList_append,Array.toList_append,iM,iM,Array.toList_reverse]
 have q:=m.pm
 subst h
 rw[List.drop_zero]at q
 rw[List.take_zero,List.append_nil]
 refine⟨?_,m.sa⟩
 refine(q.append_left _).trans ?_
 rw[<-List.append_assoc,List.take_append_drop]
theorem MH.first{a b o:Array Keyed}{na nb:Nat}(m:MH rk a.toList b.toList o.toList.reverse na nb)(h:nb=1){z:Keyed}(hz:b.toList[0]?=some z)(ha:∀y∈a.toList,rk z<=rk y):Mg rk a.toList b.toList (b.extract 0 nb++a.extract 0 na++o.reverse):=by
 unfold Mg
 rw[Array.toList_append,Array.toList_append,iM,iM,Array.toList_reverse]
 subst h
 have e:b.toList.take 1=[z]:=by
  have:=hW hz
  simpa using this
 refine⟨?_,?_⟩
 ·refine(m.pm.append_left _).trans ?_
  have e1:a.toList++b.toList=a.toList++(b.toList.take 1++b.toList.drop 1):=by rw[List.take_append_drop]
  have e2:(b.toList.take 1++a.toList.take na)++(a.toList.drop na++b.toList.drop 1)=b.toList.take 1++(a.toList++b.toList.drop 1):=by
   rw[List.append_assoc,<-List.append_assoc (a.toList.take na),List.take_append_drop]
  rw[e1,e2,<-List.append_assoc,<-List.append_assoc]
  exact List.perm_append_comm.append_right _
 ·rw[List.append_assoc]
  refine Sd.app m.sb.left m.sa λx hx y hy=>?_
  rw[e]at hx
  obtain rfl:x=z:=by simpa using hx
  rcases List.mem_append.mp hy with hy|hy
  ·exact ha y (List.mem_of_mem_take hy)
  ·exact m.sb.qH x (by rw[e];simp) y hy
noncomputable abbrev HT:=Option (Array Keyed)×Nat×Nat×Array Keyed×Nat×Nat×Nat
noncomputable abbrev HM:=StateT SortSt Sem (ForInStep HT)
noncomputable abbrev LC(a b o:Array Keyed)(i j g ac bc:Nat):HM:=elem' a (i-1)>>=λz=>if(i-1==0)=true then pure (.done (some (a.extract 0 (i-1)++b.extract 0 j++(o.push z).reverse),i-1,j,o.push z,g,ac,bc))else if(decide (ac<7)&&decide (bc<7))=true then pure (.done (none,i-1,j,o.push z,g,ac,bc))else pure (.yield (none,i-1,j,o.push z,g,ac,bc))
noncomputable abbrev Jd(a b o:Array Keyed)(k kb g ac:Nat)(x:Keyed)(j:Nat):HM:=if kb-1-j>0 then(if(j==1)=true then pure (.done (some (b.extract 0 j++a.extract 0 k++(o.push x++(b.extract j (kb-1)).reverse).reverse),k,j,o.push x++(b.extract j (kb-1)).reverse,g,ac,kb-1-j))else if(j==0)=true then pure (.done (some (a.extract 0 k++b.extract 0 j++(o.push x++(b.extract j (kb-1)).reverse).reverse),k,j,o.push x++(b.extract j (kb-1)).reverse,g,ac,kb-1-j))else LC a b (o.push x++(b.extract j (kb-1)).reverse) k j g ac (kb-1-j))else LC a b (o.push x) k (kb-1) g ac (kb-1-j)
noncomputable abbrev LD(a b o:Array Keyed)(k kb g ac bc:Nat)(K:Keyed->Keyed->Option Nat->HM):HM:=elem' b (kb-1)>>=λx=>if(kb-1==1)=true then pure (.done (some (b.extract 0 (kb-1)++a.extract 0 k++(o.push x).reverse),k,kb-1,o.push x,g,ac,bc))else elem' a (k-1)>>=λy=>lC true y b 0 (kb-1) (kb-1-1)>>=K x y
noncomputable abbrev Ob(a b o:Array Keyed)(ka kb g bc k:Nat)(K1 K2:Keyed->Keyed->Option Nat->HM):HM:=if ka-k>0 then(if(k==0)=true then pure (.done (some (a.extract 0 k++b.extract 0 kb++(o++(a.extract k ka).reverse).reverse),k,kb,o++(a.extract k ka).reverse,g,ka-k,bc))else LD a b (o++(a.extract k ka).reverse) k kb g (ka-k) bc K1)else LD a b o ka kb g (ka-k) bc K2
noncomputable abbrev Oc(a b:Array Keyed)(ka kb:Nat)(K:Keyed->Option Nat->HM):HM:=elem' b (kb-1)>>=λx=>lC false x a 0 ka (ka-1)>>=K x
noncomputable def LF(rk:Keyed->Nat)(a b:Array Keyed)(st:SortSt)(n:Nat)(c:HT)(pZ:SortSt):Prop:=
 Sm st pZ/\∃ka kb o g ac bc,c=(none,ka,kb,o,g,ac,bc)/\MH rk a.toList b.toList o.toList.reverse ka kb/\1<=ka/\2<=kb/\ka<=a.size/\kb<=b.size/\ka+kb<=n
noncomputable def LG(rk:Keyed->Nat)(a b:Array Keyed)(st:SortSt)(n:Nat)(c:HT)(pZ:SortSt):Prop:=
 Sm st pZ/\((∃r rest,c=(some r,rest)/\Mg rk a.toList b.toList r)\/∃ka kb o g ac bc,c=(none,ka,kb,o,g,ac,bc)/\MH rk a.toList b.toList o.toList.reverse ka kb/\1<=ka/\2<=kb/\ka<=a.size/\kb<=b.size/\ka+kb<=n)
theorem Hk{a b o:Array Keyed}{st ke:SortSt}{i j g ac bc n:Nat}{pa:Keyed}{M:Model}{R:ForInStep HT->SortSt->Prop}(hD:∀c aP,LG rk a b st n c aP->R (.done c) aP)(hY:∀c aP,LF rk a b st n c aP->R (.yield c) aP)(mD:Sm st ke)(m:MH rk a.toList b.toList o.toList.reverse i j)(hi:1<=i)(ia:i<=a.size)(hj:2<=j)(jb:j<=b.size)(hn:i-1+j<=n)
  (uL:a.toList[i-1]?=some pa)(uM:a[i-1]?=some pa)(rn:∀y∈b.toList.take j,rk y<=rk pa):
  wpS M A E s (LC a b o i j g ac bc) R ke:=by
 have m7:=m.oE hi uL rn
 refine wpS_bind (bP uM ?_)
 refine a8 (λe4=>wpS_pure (hD _ _ ⟨mD,.inl ⟨_,_,rfl,m7.qJ (by simpa using e4)⟩⟩)) (λe4=>?_)
 have Py:¬i-1=0:=by simpa using e4
 refine a8 (λe5=>wpS_pure (hD _ _ ⟨mD,.inr ⟨_,_,_,_,_,_,rfl,m7,?_,hj,?_,?_,?_⟩⟩)) (λe5=>wpS_pure (hY _ _ ⟨mD,_,_,_,_,_,_,rfl,m7,?_,hj,?_,?_,?_⟩))
 all_goals omega
theorem Hl(C:uI prog w A E s kd G rk){a b o:Array Keyed}{st ke:SortSt}{k kb g ac bc n:Nat}{pb q0:Keyed}{R:ForInStep HT->SortSt->Prop}{K:Keyed->Keyed->Option Nat->HM}(hK:∀x y j,K x y (some j)=Jd a b o k kb g ac x j)(hD:∀c aP,LG rk a b st n c aP->R (.done c) aP)(hY:∀c aP,LF rk a b st n c aP->R (.yield c) aP)(BZ:kindOf ke=kd)(ga:Gd G a)(gb:Gd G b)(bW:b.toList[0]?=some q0)(h0:∀y∈a.toList,rk q0<=rk y)(mD:Sm st ke)
  (mm:MH rk a.toList b.toList o.toList.reverse k kb)(hl:1<=k)(ha:k<=a.size)(f2:2<=kb)(f4:kb<=b.size)(hn:k+kb<=n)(qM:b.toList[kb-1]?=some pb)(sD:b[kb-1]?=some pb)(rr:∀y∈a.toList.take k,rk y<=rk pb):
  wpS (model prog w) A E s (LD a b o k kb g ac bc K) R ke:=by
 have m5:=mm.yw (by omega) qM rr
 refine wpS_bind (bP sD ?_)
 refine a8 (λd1=>wpS_pure (hD _ _ ⟨mD,.inl ⟨_,_,rfl,m5.first (by simpa using d1) bW h0⟩⟩)) (λd1=>?_)
 have M0:¬kb-1=1:=by simpa using d1
 obtain⟨pa,uL,uM,IY⟩:=cP (xs:=a) (i:=k-1) (by omega)
 refine wpS_bind (bP uM (wpS_bind (gB C (left:=true) (key:=pa) (xs:=b) (base:=0) (n:=kb-1) (hint:=kb-1-1) BZ gb (ga _ IY) (by omega) (by omega) (oC m5.sb.left (by omega) true) λj j1 j2 j3=>?_)))
 rw[hK]
 have m6:=m5.IU j1 hl uL j3
 have r6:∀y∈b.toList.take j,rk y<=rk pa:=Jc j2
 refine a8 (λjp=>a8 (λe3=>wpS_pure (hD _ _ ⟨mD,.inl ⟨_,_,rfl,m6.first (by simpa using e3) bW h0⟩⟩)) λe3=>a8 (λe4=>wpS_pure (hD _ _ ⟨mD,.inl ⟨_,_,rfl,m6.qI (by simpa using e4)⟩⟩)) λe4=>?_) (λjp=>?_)
 ·have hn:2<=j:=by
    have:¬j=1:=by simpa using e3
    have:¬j=0:=by simpa using e4
    omega
  exact Hk (o:=o.push pb++(b.extract j (kb-1)).reverse) (i:=k) (j:=j) (g:=g) (ac:=ac) (bc:=kb-1-j) (n:=n) (pa:=pa) hD hY mD m6 hl ha hn (by omega) (by omega) uL uM r6
 ·obtain rfl:j=kb-1:=by omega
  exact Hk (o:=o.push pb) (i:=k) (j:=kb-1) (g:=g) (ac:=ac) (bc:=kb-1-(kb-1)) (n:=n) (pa:=pa) hD hY mD m5 hl ha (by omega) (by omega) (by omega) uL uM r6
theorem Hm(C:uI prog w A E s kd G rk){a b o:Array Keyed}{st ke:SortSt}{ka kb g bc n:Nat}{q0:Keyed}{R:ForInStep HT->SortSt->Prop}{K0:Keyed->Option Nat->HM}{K1 K2:Nat->Keyed->Keyed->Option Nat->HM}(IZ:∀x k,K0 x (some k)=Ob a b o ka kb g bc k (K1 k) (K2 k))
  (I9:∀k x y j,K1 k x y (some j)=Jd a b (o++(a.extract k ka).reverse) k kb g (ka-k) x j)(Ja:∀k x y j,K2 k x y (some j)=Jd a b o ka kb g (ka-k) x j)(hD:∀c aP,LG rk a b st n c aP->R (.done c) aP)(hY:∀c aP,LF rk a b st n c aP->R (.yield c) aP)(BZ:kindOf ke=kd)(ga:Gd G a)(gb:Gd G b)(bW:b.toList[0]?=some q0)(h0:∀y∈a.toList,rk q0<=rk y)(mD:Sm st ke)
  (m3:MH rk a.toList b.toList o.toList.reverse ka kb)(f1:1<=ka)(f2:2<=kb)(f3:ka<=a.size)(f4:kb<=b.size)(f5:ka+kb<=n):
  wpS (model prog w) A E s (Oc a b ka kb K0) R ke:=by
 obtain⟨pb,qM,sD,Fc⟩:=cP (xs:=b) (i:=kb-1) (by omega)
 refine wpS_bind (bP sD (wpS_bind (gB C (left:=false) (key:=pb) (xs:=a) (base:=0) (n:=ka) (hint:=ka-1) BZ ga (gb _ Fc) (by omega) (by omega) (oC m3.sa.left (by omega) false) λk k1 k2 k3=>?_)))
 rw[IZ]
 have m4:=m3.IT k1 (by omega) qM k3
 have r4:∀y∈a.toList.take k,rk y<=rk pb:=Jb k2
 refine a8 (λkp=>a8 (λe1=>wpS_pure (hD _ _ ⟨mD,.inl ⟨_,_,rfl,m4.qJ (by simpa using e1)⟩⟩)) λe1=>?_) (λkp=>?_)
 ·have hl:1<=k:=by
    have:¬k=0:=by simpa using e1
    omega
  exact Hl C (I9 k) hD hY BZ ga gb bW h0 mD m4 hl (by omega) f2 f4 (by omega) qM sD r4
 ·obtain rfl:k=ka:=by omega
  exact Hl C (Ja k) hD hY BZ ga gb bW h0 mD m3 f1 f3 f2 f4 f5 qM sD r4
theorem Ff(C:uI prog w A E s kd G rk){a b:Array Keyed}{st bL:SortSt}{lo hi n:Nat}{c0:HT}{q0:Keyed}{f:Nat->HT->HM}{K0 L0:Nat->Nat->Array Keyed->Nat->Nat->Nat->Keyed->Option Nat->HM}{K1 K2 L1 L2:Nat->Nat->Array Keyed->Nat->Nat->Nat->Nat->Keyed->Keyed->Option Nat->HM}
  (hf:∀y ka kb o g ac bc,f y (none,ka,kb,o,g,ac,bc)=(if g>1 then lD (g-1)>>=λ_=>Oc a b ka kb (K0 ka kb o g ac bc)else lD g>>=λ_=>Oc a b ka kb (L0 ka kb o g ac bc)))
  (IZ:∀ka kb o g ac bc x k,K0 ka kb o g ac bc x (some k)=Ob a b o ka kb (g-1) bc k (K1 ka kb o g ac bc k) (K2 ka kb o g ac bc k))(I9:∀ka kb o g ac bc k x y j,K1 ka kb o g ac bc k x y (some j)=Jd a b (o++(a.extract k ka).reverse) k kb (g-1) (ka-k) x j)(Ja:∀ka kb o g ac bc k x y j,K2 ka kb o g ac bc k x y (some j)=Jd a b o ka kb (g-1) (ka-k) x j)
  (N7:∀ka kb o g ac bc x k,L0 ka kb o g ac bc x (some k)=Ob a b o ka kb g bc k (L1 ka kb o g ac bc k) (L2 ka kb o g ac bc k))(N8:∀ka kb o g ac bc k x y j,L1 ka kb o g ac bc k x y (some j)=Jd a b (o++(a.extract k ka).reverse) k kb g (ka-k) x j)(N9:∀ka kb o g ac bc k x y j,L2 ka kb o g ac bc k x y (some j)=Jd a b o ka kb g (ka-k) x j)
  (hk:kindOf st=kd)(ga:Gd G a)(gb:Gd G b)(bW:b.toList[0]?=some q0)(h0:∀y∈a.toList,rk q0<=rk y)(h:LF rk a b st n c0 bL):
  wpS (model prog w) A E s (forIn [lo:hi] c0 f) (LG rk a b st n) bL:=by
 refine wpS_forRange (I:=λ_=>LF rk a b st n) (Q:=LG rk a b st n) ?gstep ?gfin h
 case gfin=>
  rintro c pZ ⟨sE,r⟩
  exact⟨sE,.inr r⟩
 case gstep=>
  rintro y c pZ-hy ⟨sE,ka,kb,o3,g,ac,bc,rfl,m3,f1,f2,f3,f4,f5⟩
  rw[hf]
  refine a8 (λ_=>wpS_bind (mC λke wO=>?_)) (λ_=>wpS_bind (mC λke wO=>?_))
  ·exact Hm C (n:=n) (λx k=>IZ ka kb o3 g ac bc x k) (λk x y j=>I9 ka kb o3 g ac bc k x y j) (λk x y j=>Ja ka kb o3 g ac bc k x y j) (λ_ _ h=>h) (λ_ _ h=>h) ((sE.trans wO).k.trans hk) ga gb bW h0 (sE.trans wO) m3 f1 f2 f3 f4 f5
  ·exact Hm C (n:=n) (λx k=>N7 ka kb o3 g ac bc x k) (λk x y j=>N8 ka kb o3 g ac bc k x y j) (λk x y j=>N9 ka kb o3 g ac bc k x y j) (λ_ _ h=>h) (λ_ _ h=>h) ((sE.trans wO).k.trans hk) ga gb bW h0 (sE.trans wO) m3 f1 f2 f3 f4 f5
theorem wR(C:uI prog w A E s kd G rk){a b:Array Keyed}{st:SortSt}{Q:Array Keyed->SortSt->Prop}(hk:kindOf st=kd)(ga:Gd G a)(gb:Gd G b)(sa:Sd rk a.toList)(sb:Sd rk b.toList)(na:1<=a.size)(nb:1<=b.size)
  {q0 z:Keyed}(bW:b.toList[0]?=some q0)(h0:∀y∈a.toList,rk q0<=rk y)(hz:a.toList[a.size-1]?=some z)(Oa:∀y∈b.toList,rk y<=rk z)
  (q:∀o aP,Sm st aP->Mg rk a.toList b.toList o->Q o aP):wpS (model prog w) A E s (BW a b) Q st:=by
 refine wpS_bind (wpS_lift (wpAny_rule ⟨rfl,?_⟩))
 refine wpS_bind (bP (p:=z) (by simpa using hz) ?_)
 have fa:a.toList.take a.size=a.toList:=List.take_of_length_le (by simp)
 have fb:b.toList.take b.size=b.toList:=List.take_of_length_le (by simp)
 have QP:MH rk a.toList b.toList (#[]:Array Keyed).toList.reverse a.size b.size:=by
  refine⟨?_,?_,?_⟩
  ·rw[List.drop_eq_nil_of_le (by simp),List.drop_eq_nil_of_le (by simp)]
   exact List.Perm.refl _
  ·rw[fa]
   simpa using sa
  ·rw[fb]
   simpa using sb
 have m0:MH rk a.toList b.toList (#[z]:Array Keyed).toList.reverse (a.size-1) b.size:=QP.oE na hz (by rw[fb];exact Oa)
 have B0:∀{o:Array Keyed} {ia ib:Nat},MH rk a.toList b.toList o.toList.reverse ia ib->ib=1->Mg rk a.toList b.toList (b.extract 0 ib++a.extract 0 ia++o.reverse):=λ{o ia ib} m e=>m.first e bW h0
 refine a8 (λc1=>wpS_pure (q _ _ (Sm.refl _) (m0.qJ (by simpa using c1)))) (λc1=>?_)
 refine a8 (λc2=>wpS_pure (q _ _ (Sm.refl _) (B0 m0 (by simpa using c2)))) (λc2=>?_)
 have Sf:¬a.size-1=0:=by simpa using c1
 have Sg:¬b.size=1:=by simpa using c2
 refine wpS_bind (wpS_get ?_)
 dsimp only
 refine wpS_bind (wpS_mono (wpS_forRange (I:=λx c aP=>Sm st aP/\∃ia ib o g,c=(none,ia,ib,o,g)/\MH rk a.toList b.toList o.toList.reverse ia ib/\1<=ia/\2<=ib/\ia<=a.size/\ib<=b.size/\ia+ib+x+1<=a.size+b.size)
  (Q:=λc aP=>Sm st aP/\∃r rest,c=(some r,rest)/\Mg rk a.toList b.toList r) ?step ?fin ⟨Sm.refl _,a.size-1,b.size,_,_,rfl,m0,by omega,by omega,by omega,by omega,by omega⟩) ?post)
 case post=>
  rintro c aP ⟨sm,r,rest,rfl,mg⟩
  exact wpS_pure (q r aP sm mg)
 case fin=>
  rintro c aP ⟨-,ia,ib,o,g,-,-,h1,h2,h3,h4,h5⟩
  omega
 case step=>
  rintro x c aP-hx ⟨sm,ia,ib,o,g,rfl,m,h1,h2,h3,h4,h5⟩
  dsimp only
  refine wpS_bind (wpS_mono (wpS_forRange (I:=λy c bL=>Sm st bL/\∃ja jb o ac bc,c=(none,ja,jb,o,ac,bc)/\MH rk a.toList b.toList o.toList.reverse ja jb/\1<=ja/\2<=jb/\ja<=a.size/\jb<=b.size/\ja+jb+y<=ia+ib)
   (Q:=λc bL=>Sm st bL/\((∃r rest,c=(some r,rest)/\Mg rk a.toList b.toList r)\/∃ja jb o ac bc,c=(none,ja,jb,o,ac,bc)/\MH rk a.toList b.toList o.toList.reverse ja jb/\1<=ja/\2<=jb/\ja<=a.size/\jb<=b.size/\ja+jb+1<=ia+ib))
   ?istep ?ifin ⟨sm,ia,ib,_,0,0,rfl,m,h1,h2,h3,h4,by omega⟩) ?ipost)
  case ifin=>
   rintro c bL ⟨-,ja,jb,o,ac,bc,-,-,g1,g2,g3,g4,g5⟩
   omega
  case istep=>
   rintro y c bL-hy ⟨me,ja,jb,o2,ac,bc,rfl,m2,g1,g2,g3,g4,g5⟩
   dsimp only
   obtain⟨pa,uL,uM,IY⟩:=cP (xs:=a) (i:=ja-1) (by omega)
   obtain⟨pb,qM,sD,Fc⟩:=cP (xs:=b) (i:=jb-1) (by omega)
   refine wpS_bind (bP sD (wpS_bind (bP uM (wpS_bind (C pb pa bL _ (me.k.trans hk) (gb _ Fc) (ga _ IY) ?_)))))
   by_cases hw:rk pb<rk pa
   ·rw[decide_eq_true hw]
    refine wpS_bind (bP uM ?_)
    have m3:=m2.oE g1 uL λy hy=>Nat.le_trans (le_last m2.sb.left (by omega) qM hy) (Nat.le_of_lt hw)
    refine a8 (λd1=>wpS_pure ⟨me,.inl ⟨_,_,rfl,m3.qJ (by simpa using d1)⟩⟩) (λd1=>?_)
    have M0:¬ja-1=0:=by simpa using d1
    refine a8 (λd2=>wpS_pure ⟨me,.inr ⟨ja-1,jb,_,_,_,rfl,m3,by omega,by omega,by omega,by omega,by omega⟩⟩) (λd2=>wpS_pure ⟨me,ja-1,jb,_,_,_,rfl,m3,by omega,by omega,by omega,by omega,by omega⟩)
   ·rw[decide_eq_false hw]
    refine wpS_bind (bP sD ?_)
    have m3:=m2.yw (by omega) qM λy hy=>Nat.le_trans (le_last m2.sa.left g1 uL hy) (by omega)
    refine a8 (λd1=>wpS_pure ⟨me,.inl ⟨_,_,rfl,B0 m3 (by simpa using d1)⟩⟩) (λd1=>?_)
    have M0:¬jb-1=1:=by simpa using d1
    refine a8 (λd2=>wpS_pure ⟨me,.inr ⟨ja,jb-1,_,_,_,rfl,m3,by omega,by omega,by omega,by omega,by omega⟩⟩) (λd2=>wpS_pure ⟨me,ja,jb-1,_,_,_,rfl,m3,by omega,by omega,by omega,by omega,by omega⟩)
  case ipost=>
   rintro c bL ⟨me,⟨r,rest,rfl,mg⟩|⟨ja,jb,o2,ac,bc,rfl,m2,g1,g2,g3,g4,g5⟩⟩
   ·exact wpS_pure ⟨me,_,_,rfl,mg⟩
   dsimp only
   refine wpS_bind (wpS_lift (wpAny_rule ⟨rfl,?_⟩))
   refine wpS_bind (wpS_mono (Ff C (n:=ja+jb) (λ_ _ _ _ _ _ _=>rfl) (λ_ _ _ _ _ _ _ _=>rfl) (λ_ _ _ _ _ _ _ _ _ _=>rfl) (λ_ _ _ _ _ _ _ _ _ _=>rfl) (λ_ _ _ _ _ _ _ _=>rfl) (λ_ _ _ _ _ _ _ _ _ _=>rfl) (λ_ _ _ _ _ _ _ _ _ _=>rfl) hk ga gb bW h0 ⟨me,ja,jb,_,_,_,_,rfl,m2,g1,g2,g3,g4,by omega⟩) ?gpost)
   case gpost=>
    rintro c pZ ⟨sE,⟨r,rest,rfl,mg⟩|⟨ka,kb,o3,g,ac,bc,rfl,m3,f1,f2,f3,f4,f5⟩⟩
    ·exact wpS_pure ⟨sE,_,_,rfl,mg⟩
    dsimp only
    refine wpS_bind (mC λke wO=>wpS_pure ⟨sE.trans wO,ka,kb,_,_,rfl,m3,f1,f2,f3,f4,by omega⟩)
end
theorem dN{l:List Keyed}{b n i:Nat}(h:i<n):((l.drop b).take n)[i]?=l[b+i]?:=by
 rw[List.getElem?_take,if_pos h,List.getElem?_drop]
theorem uP{l m:List Keyed}{b n:Nat}(h:∀i,b<=i->i<b+n->l[i]?=m[i]?):(l.drop b).take n=(m.drop b).take n:=by
 apply List.ext_getElem?
 intro i
 rw[List.getElem?_take,List.getElem?_take]
 split
 ·rw[List.getElem?_drop,List.getElem?_drop]
  exact h _ (by omega) (by omega)
 ·rfl
theorem hX{l:List Keyed}{b n:Nat}(h:b+n<=l.length):((l.drop b).take n).length=n:=by
 rw[List.length_take,List.length_drop]
 omega
theorem yy(p:Nat):∀(m:List Keyed) (xs:Array Keyed) (c:Nat),p+c+m.length<=xs.size->
  ((m.zipIdx c).foldl (λa x=>a.setIfInBounds (p+x.2) x.1) xs).toList=xs.toList.take (p+c)++m++xs.toList.drop (p+c+m.length)
 |[],xs,c,h=>by simp
 |y::m,xs,c,h=>by
  rw[List.zipIdx_cons,List.foldl_cons]
  rw[List.length_cons]at h
  have ih:=yy p m (xs.setIfInBounds (p+c) y) (c+1) (by rw[Array.size_setIfInBounds];omega)
  dsimp only
  rw[ih,Array.toList_setIfInBounds,show p+(c+1)=p+c+1 by omega]
  have h1:(xs.toList.set (p+c) y).take (p+c+1)=xs.toList.take (p+c)++[y]:=by
   rw[List.take_add_one,List.take_set_of_le (Nat.le_refl _),List.getElem?_set_self (by rw[Array.length_toList];omega)]
   rfl
  have h2:(xs.toList.set (p+c) y).drop (p+c+1+m.length)=xs.toList.drop (p+c+(y::m).length):=by
   rw[List.drop_set_of_lt (by omega),List.length_cons]
   congr 1
   omega
  rw[h1,h2,List.append_assoc,List.append_assoc,List.append_assoc]
  rfl
theorem fH(l:List Keyed)(b n m:Nat):(l.drop b).take (n+m)=(l.drop b).take n++(l.drop (b+n)).take m:=by rw[List.take_add,List.drop_drop]
theorem mE(l:List Keyed)(b n:Nat):l=l.take b++(l.drop b).take n++l.drop (b+n):=by
 rw[List.append_assoc,<-List.drop_drop,List.take_append_drop,List.take_append_drop]
theorem sF{l:List Keyed}{b n i:Nat}{p:Keyed}(h:l[b+i]?=some p)(hi:i<n):p∈(l.drop b).take n:=List.mem_of_getElem? (by rw[dN hi];exact h)
theorem Je{M:Model}{A:Around}{E:Value->Shared->Prop}{s:Shared}{st aP:SortSt}{Q:PUnit->SortSt->Prop}(h:Q ⟨⟩ aP):wpS M A E s (set aP:StateT SortSt Sem PUnit) Q st:=by
 unfold wpS
 rw[StateT.run_set]
 exact wpAny_pure ⟨rfl,h⟩
section
variable{prog:Program}{w:World}{A:Around}{E:Value->Shared->Prop}{s:Shared}{kd:SortKind}{G:Keyed->Prop}{rk:Keyed->Nat}
theorem oF{key:Keyed}{xs:Array Keyed}{b n:Nat}(h:Sd rk ((xs.toList.drop b).take n))(hn:b+n<=xs.size)(left:Bool):∀i j,i<=j->j<n->iY rk left key xs b j=true->iY rk left key xs b i=true:=by
 intro i j Bq hj
 obtain⟨p,p1,p2,p3⟩:=cP (xs:=xs) (i:=b+i) (by omega)
 obtain⟨q,q1,q2,q3⟩:=cP (xs:=xs) (i:=b+j) (by omega)
 have:=oA h Bq (by rw[dN (by omega)];exact p1) (by rw[dN hj];exact q1)
 unfold iY
 rw[wN p2,wN q2]
 cases left<;>simp<;>omega
theorem wU(C:uI prog w A E s kd G rk){i sa na pw nb M1:Nat}{st:SortSt}{Q:Bool->SortSt->Prop}(hk:kindOf st=kd)(gG:Gd G (arrOf st))(hf:failedOf st=none)
  (h1:(pendingOf st)[i]?=some (sa,na,pw))(h2:(pendingOf st)[i+1]?=some (sa+na,nb,M1))(h3:1<=na)(h4:1<=nb)(h5:sa+na+nb<=(arrOf st).size)
  (s1:Sd rk (((arrOf st).toList.drop sa).take na))(s2:Sd rk (((arrOf st).toList.drop (sa+na)).take nb))
  (q:∀aP m,kindOf aP=kd->failedOf aP=none->pendingOf aP=((pendingOf st).setIfInBounds i (sa,na+nb,pw)).eraseIdxIfInBounds (i+1)->
    (arrOf aP).toList=(arrOf st).toList.take sa++m++(arrOf st).toList.drop (sa+na+nb)->m.Perm (((arrOf st).toList.drop sa).take (na+nb))->Sd rk m->Q true aP):wpS (model prog w) A E s (mergeAt' i) Q st:=by
 refine wpS_bind (wpS_get ?_)
 rw[show(sortPriv% PySem.Builtin.SortState.pending) st=pendingOf st from rfl]
 rw[h1,h2]
 dsimp only
 refine wpS_bind (Je ?_)
 obtain⟨pb,qM,sD,Fc⟩:=cP (xs:=arrOf st) (i:=sa+na) (by omega)
 refine wpS_bind (bP sD (wpS_bind (gB C (left:=false) (key:=pb) (xs:=arrOf st) (base:=sa) (n:=na) (hint:=0) hk gG (gG _ Fc) (by omega) (by omega) (oF s1 (by omega) false) λk k1 k2 k3=>?_)))
 dsimp only
 have b0:∀y∈((arrOf st).toList.drop (sa+na)).take nb,rk pb<=rk y:=λy hy=>by
  obtain⟨j,hj,e⟩:=d7 hy
  exact oA s2 (Nat.zero_le j) (by rw[dN (by omega)];exact qM) (by rw[dN hj];exact e)
 have a1:∀x∈((arrOf st).toList.drop sa).take k,rk x<=rk pb:=λx hx=>by
  obtain⟨j,hj,e⟩:=d7 hx
  have q1:=k2 j hj
  rw[qL e]at q1
  exact of_decide_eq_true q1
 refine a8 (λe1=>?_) (λe1=>?_)
 ·obtain rfl:k=na:=by
    have:na-k=0:=by simpa using e1
    omega
  refine wpS_pure (q _ (((arrOf st).toList.drop sa).take (k+nb)) hk hf rfl ?_ (List.Perm.refl _) ?_)
  ·rw[Nat.add_assoc]
   exact mE _ _ _
  ·rw[fH]
   exact Sd.app s1 s2 λx hx y hy=>Nat.le_trans (a1 x hx) (b0 y hy)
 have Hn:¬na-k=0:=by simpa using e1
 have gk:=k3 k (Nat.le_refl _) (by omega)
 obtain⟨pz,Pz,QQ,QR⟩:=cP (xs:=arrOf st) (i:=sa+k+(na-k)-1) (by omega)
 refine wpS_bind (bP QQ (wpS_bind (gB C (left:=true) (key:=pz) (xs:=arrOf st) (base:=sa+na) (n:=nb) (hint:=nb-1) hk gG (gG _ QR) (by omega) (by omega) (oF s2 (by omega) true) λj j1 j2 j3=>?_)))
 have Od:(arrOf st).toList[sa+(na-1)]?=some pz:=by rw[<-Pz];congr 1;omega
 have az:∀x∈((arrOf st).toList.drop sa).take na,rk x<=rk pz:=λx hx=>by
  obtain⟨i,hi,e⟩:=d7 hx
  exact oA s1 (show i<=na-1 by omega) (by rw[dN hi];exact e) (by rw[dN (by omega)];exact Od)
 have b2:∀y∈((arrOf st).toList.drop (sa+na+j)).take (nb-j),rk pz<=rk y:=λy hy=>by
  obtain⟨i,hi,e⟩:=d7 hy
  have q1:=j3 (j+i) (by omega) (by omega)
  rw[qK (by rw[<-Nat.add_assoc];exact e)]at q1
  have:=of_decide_eq_false q1
  omega
 refine a8 (λe2=>?_) (λe2=>?_)
 ·obtain rfl:j=0:=by simpa using e2
  refine wpS_pure (q _ (((arrOf st).toList.drop sa).take (na+nb)) hk hf rfl ?_ (List.Perm.refl _) ?_)
  ·rw[Nat.add_assoc]
   exact mE _ _ _
  ·rw[fH]
   exact Sd.app s1 s2 λx hx y hy=>Nat.le_trans (az x hx) (b2 y hy)
 have M3:¬j=0:=by simpa using e2
 have ex:((arrOf st).extract (sa+k) (sa+na)).toList=((arrOf st).toList.drop (sa+k)).take (na-k):=by
  rw[show sa+na=sa+k+(na-k) by omega]
  exact iL
 have ey:((arrOf st).extract (sa+na) (sa+na+j)).toList=((arrOf st).toList.drop (sa+na)).take j:=iL
 have Kt:=s1
 have LH:=s2
 rw[show na=k+(na-k) by omega,fH]at Kt
 rw[show nb=j+(nb-j) by omega,fH]at LH
 have xl:((arrOf st).extract (sa+k) (sa+na)).size=na-k:=by
  rw[<-Array.length_toList,ex,hX (by rw[Array.length_toList];omega)]
 have yl:((arrOf st).extract (sa+na) (sa+na+j)).size=j:=by
  rw[<-Array.length_toList,ey,hX (by rw[Array.length_toList];omega)]
 have gx:Gd G ((arrOf st).extract (sa+k) (sa+na)):=λp hp=>gG p (by
  rw[ex]at hp
  exact List.mem_of_mem_drop (List.mem_of_mem_take hp))
 have gy:Gd G ((arrOf st).extract (sa+na) (sa+na+j)):=λp hp=>gG p (by
  rw[ey]at hp
  exact List.mem_of_mem_drop (List.mem_of_mem_take hp))
 obtain⟨pk,M4,Si,Sj⟩:=cP (xs:=arrOf st) (i:=sa+k) (by omega)
 rw[qL M4]at gk
 have Sk:=of_decide_eq_false gk
 have PB:((arrOf st).extract (sa+na) (sa+na+j)).toList[0]?=some pb:=by
  rw[ey,dN (by omega)]
  exact qM
 have PC:((arrOf st).extract (sa+k) (sa+na)).toList[0]?=some pk:=by
  rw[ex,dN (by omega)]
  exact M4
 have PD:((arrOf st).extract (sa+k) (sa+na)).toList[((arrOf st).extract (sa+k) (sa+na)).size-1]?=some pz:=by
  rw[xl,ex,dN (by omega),<-Pz]
  congr 1
  omega
 have PF:∀y∈((arrOf st).extract (sa+na) (sa+na+j)).toList,rk y<=rk pz:=λy hy=>by
  rw[ey]at hy
  obtain⟨i,hi,e⟩:=d7 hy
  have q1:=j2 i hi
  rw[qK e]at q1
  exact Nat.le_of_lt (of_decide_eq_true q1)
 have PH:∀x∈((arrOf st).extract (sa+k) (sa+na)).toList,rk pb<=rk x:=λx hx=>by
  rw[ex]at hx
  obtain⟨i,hi,e⟩:=d7 hx
  have:=oA Kt.right (Nat.zero_le i) (by rw[dN (by omega)];exact M4) (by rw[dN hi];exact e)
  omega
 have fin:∀(o:Array Keyed) (bL:SortSt),kindOf bL=kd->arrOf bL=arrOf st->failedOf bL=none->pendingOf bL=((pendingOf st).setIfInBounds i (sa,na+nb,pw)).eraseIdxIfInBounds (i+1)->
   Mg rk ((arrOf st).extract (sa+k) (sa+na)).toList ((arrOf st).extract (sa+na) (sa+na+j)).toList o->
   Q true (SortSt.mk' (kindOf bL) (o.toList.zipIdx.foldl (λa x=>a.setIfInBounds (sa+k+x.2) x.1) (arrOf bL)) (pendingOf bL) (gallopOf bL) (failedOf bL)):=by
  intro o bL t1 t2 t3 t4 mg
  obtain⟨pm,so⟩:=mg
  rw[ex,ey]at pm
  have ol:o.toList.length=na-k+j:=by
   rw[pm.length_eq,List.length_append,hX (by rw[Array.length_toList];omega),hX (by rw[Array.length_toList];omega)]
  refine q _ (((arrOf st).toList.drop sa).take k++o.toList++((arrOf st).toList.drop (sa+na+j)).take (nb-j)) t1 t3 t4 ?_ ?_ ?_
  ·show(o.toList.zipIdx.foldl (λa x=>a.setIfInBounds (sa+k+x.2) x.1) (arrOf bL)).toList=_
   rw[yy (sa+k) o.toList (arrOf bL) 0 (by rw[t2,ol];omega),t2,ol]
   have f1:(arrOf st).toList.take (sa+k+0)=(arrOf st).toList.take sa++((arrOf st).toList.drop sa).take k:=by rw[Nat.add_zero,List.take_add]
   have f2:(arrOf st).toList.drop (sa+k+0+(na-k+j))=((arrOf st).toList.drop (sa+na+j)).take (nb-j)++(arrOf st).toList.drop (sa+na+nb):=by
    rw[show sa+k+0+(na-k+j)=sa+na+j by omega]
    have:=yx (arrOf st).toList (show sa+na+j<=sa+na+nb by omega)
    rw[show sa+na+nb-(sa+na+j)=nb-j by omega]at this
    exact this
   rw[f1,f2]
   simp only[List.append_assoc]
  ·have g1:((arrOf st).toList.drop sa).take (na+nb)=((arrOf st).toList.drop sa).take k++(((arrOf st).toList.drop (sa+k)).take (na-k)++((arrOf st).toList.drop (sa+na)).take j)++((arrOf st).toList.drop (sa+na+j)).take (nb-j):=by
     rw[fH _ sa na nb]
     have u1:=fH (arrOf st).toList sa k (na-k)
     have u2:=fH (arrOf st).toList (sa+na) j (nb-j)
     rw[show k+(na-k)=na by omega]at u1
     rw[show j+(nb-j)=nb by omega]at u2
     rw[u1,u2]
     simp only[List.append_assoc]
   rw[g1]
   exact(pm.append_left _).append_right _
  ·have hA:∀x∈((arrOf st).toList.drop sa).take k,∀y∈o.toList,rk x<=rk y:=λx hx y hy=>by
     rcases List.mem_append.mp (pm.mem_iff.mp hy)with hy|hy
     ·exact Kt.qH x hx y hy
     ·refine Nat.le_trans (a1 x hx) (b0 y ?_)
      obtain⟨i,hi,e⟩:=d7 hy
      exact sF e (by omega)
   have hB:∀x∈o.toList,∀y∈((arrOf st).toList.drop (sa+na+j)).take (nb-j),rk x<=rk y:=λx hx y hy=>by
    rcases List.mem_append.mp (pm.mem_iff.mp hx)with hx|hx
    ·refine Nat.le_trans (az x ?_) (b2 y hy)
     obtain⟨i,hi,e⟩:=d7 hx
     exact sF (i:=k+i) (by rw[<-Nat.add_assoc];exact e) (by omega)
    ·exact LH.qH x hx y hy
   refine Sd.app (Sd.app Kt.left so hA) LH.right λx hx y hy=>?_
   rcases List.mem_append.mp hx with hx|hx
   ·exact Nat.le_trans (a1 x hx) (Nat.le_trans (PH pk (List.mem_of_getElem? PC)) (Nat.le_trans (az pk (sF M4 (by omega))) (b2 y hy)))
   ·exact hB x hx y hy
 refine a8 (λe3=>?_) (λe3=>?_)
 ·refine wpS_bind (wQ C hk gx gy (by rw[ex];exact Kt.right) (by rw[ey];exact LH.left) (by rw[xl];omega) (by rw[yl];omega) PC PB (by omega) PD PF λo bL sm mg=>?_)
  refine wpS_bind (wpS_modify (wpS_bind (wpS_get (wpS_pure ?_))))
  have ff:failedOf bL=none:=sm.f.trans hf
  have:=fin o bL (sm.k.trans hk) sm.a ff sm.p mg
  show Q (Option.isNone (failedOf bL)) _
  rw[ff]
  exact this
 ·refine wpS_bind (wR C hk gx gy (by rw[ex];exact Kt.right) (by rw[ey];exact LH.left) (by rw[xl];omega) (by rw[yl];omega) PB PH PD PF λo bL sm mg=>?_)
  refine wpS_bind (wpS_modify (wpS_bind (wpS_get (wpS_pure ?_))))
  have ff:failedOf bL=none:=sm.f.trans hf
  have:=fin o bL (sm.k.trans hk) sm.a ff sm.p mg
  show Q (Option.isNone (failedOf bL)) _
  rw[ff]
  exact this
end
structure Bs(kd:SortKind)(a₀:Array Keyed)(st:SortSt):Prop where
 pm:(arrOf st).Perm a₀
 k:kindOf st=kd
 f:failedOf st=none
theorem Bs.size{kd:SortKind}{a₀:Array Keyed}{st:SortSt}(B:Bs kd a₀ st):(arrOf st).size=a₀.size:=B.pm.size_eq
theorem Bs.gd{kd:SortKind}{a₀:Array Keyed}{st:SortSt}{G:Keyed->Prop}(B:Bs kd a₀ st)(g:Gd G a₀):Gd G (arrOf st):=λp hp=>g p ((Array.perm_iff_toList_perm.mp B.pm).mem_iff.mp hp)
theorem Bs.arr{kd:SortKind}{a₀:Array Keyed}{st:SortSt}(B:Bs kd a₀ st){xs:Array Keyed}(h:xs.Perm (arrOf st)):Bs kd a₀ (setArr st xs):=⟨h.trans B.pm,B.k,B.f⟩
noncomputable def Up(rk:Keyed->Nat)(xs:Array Keyed)(lo hi:Nat):Prop:=∀i j,lo<=i->i<=j->j<hi->R rk xs i<=R rk xs j
noncomputable def Dn(rk:Keyed->Nat)(xs:Array Keyed)(lo hi:Nat):Prop:=∀i j,lo<=i->i<=j->j<hi->R rk xs j<=R rk xs i
noncomputable def Kp(lo:Nat)(st aP:SortSt):Prop:=(∀k,k<lo->(arrOf aP)[k]?=(arrOf st)[k]?)/\pendingOf aP=pendingOf st
theorem Kp.refl(lo:Nat)(st:SortSt):Kp lo st st:=⟨λ_ _=>rfl,rfl⟩
theorem Kp.trans{lo:Nat}{st aP BY:SortSt}(x:Kp lo st aP)(y:Kp lo aP BY):Kp lo st BY:=⟨λk h=>(y.1 k h).trans (x.1 k h),y.2.trans x.2⟩
theorem lE{rk:Keyed->Nat}{xs ys:Array Keyed}{i j:Nat}(h:xs[i]?=ys[j]?):R rk xs i=R rk ys j:=by
 unfold R
 rw[h]
theorem Up.sd{rk:Keyed->Nat}{xs:Array Keyed}{lo n:Nat}(h:Up rk xs lo (lo+n))(hn:lo+n<=xs.size):Sd rk ((xs.toList.drop lo).take n):=by
 refine List.pairwise_iff_getElem.mpr λi j hi hj Bq=>?_
 have hl:((xs.toList.drop lo).take n).length=n:=hX (by rw[Array.length_toList];exact hn)
 have q:=h (lo+i) (lo+j) (by omega) (by omega) (by omega)
 rw[sC (p:=((xs.toList.drop lo).take n)[i]) (by rw[<-dN (n:=n) (by omega)];exact List.getElem?_eq_getElem hi),sC (p:=((xs.toList.drop lo).take n)[j]) (by rw[<-dN (n:=n) (by omega)];exact List.getElem?_eq_getElem hj)]at q
 exact q
theorem B7{rk:Keyed->Nat}{xs:Array Keyed}{i j:Nat}(hj:j<=xs.size)(k:Nat):R rk (mirror xs i j ((j-i)/2)) k=if i<=k/\k<j then R rk xs (i+j-1-k)else R rk xs k:=by
 have e:=getElem?_mirror_all (i:=i) hj k
 split
 ·rename_i h
  rw[if_pos h]at e
  exact lE e
 ·rename_i h
  rw[if_neg h]at e
  exact lE e
theorem jy{rk:Keyed->Nat}{xs:Array Keyed}{i j:Nat}(hj:j<=xs.size)(h:∀k,i<=k->k<j->R rk xs k=R rk xs (j-1))(k:Nat):R rk (mirror xs i j ((j-i)/2)) k=R rk xs k:=by
 rw[B7 hj]
 split
 ·rw[h _ (by omega) (by omega),h k (by omega) (by omega)]
 ·rfl
theorem Ho{rk:Keyed->Nat}{xs:Array Keyed}{src d:Nat}(hs:src<xs.size)(hd:d<=src)(k:Nat):R rk (bubble xs src d) k=if k=src-d then R rk xs src else if src-d<k/\k<=src then R rk xs (k-1)else R rk xs k:=by
 have e:=getElem?_bubble hs d hd k
 by_cases h1:k=src-d
 ·rw[if_pos h1]at e
  rw[if_pos h1]
  exact lE e
 ·rw[if_neg h1]at e
  rw[if_neg h1]
  by_cases h2:src-d<k/\k<=src
  ·rw[if_pos h2]at e
   rw[if_pos h2]
   exact lE e
  ·rw[if_neg h2]at e
   rw[if_neg h2]
   exact lE e
section
variable{prog:Program}{w:World}{A:Around}{E:Value->Shared->Prop}{s:Shared}{kd:SortKind}{G:Keyed->Prop}{rk:Keyed->Nat}{a₀:Array Keyed}
theorem qN(C:uI prog w A E s kd G rk)(g:Gd G a₀){st:SortSt}(B:Bs kd a₀ st){i j:Nat}{Q:Option Bool->SortSt->Prop}(hi:i<a₀.size)(hj:j<a₀.size)(q:Q (some (decide (R rk (arrOf st) i<R rk (arrOf st) j))) st):wpS (model prog w) A E s (ltAt' i j) Q st:=by
 obtain⟨p,p1,p2,p3⟩:=(B.gd g).at (rk:=rk) (i:=i) (by rw[B.size];exact hi)
 obtain⟨r,r1,r2,r3⟩:=(B.gd g).at (rk:=rk) (i:=j) (by rw[B.size];exact hj)
 rw[p3,r3]at q
 rw[ltAt'_eq]
 exact wpS_bind (wpS_get (wpS_bind (bP p1 (wpS_bind (bP r1 (C p r st Q B.k p2 r2 q))))))
theorem sH{M:Model}{i j:Nat}{st:SortSt}{Q:Unit->SortSt->Prop}(q:Q () (setArr st (mirror (arrOf st) i j ((j-i)/2)))):wpS M A E s (reverseSlice' i j) Q st:=by
 rw[reverseSlice'_eq]
 exact wpS_modify q
theorem qe(C:uI prog w A E s kd G rk)(g:Gd G a₀){lo n ok:Nat}{st:SortSt}{Q:Bool->SortSt->Prop}(B:Bs kd a₀ st)(hn:lo+n<=a₀.size)(dR:ok<=n)(h1:1<=ok)(u:Up rk (arrOf st) lo (lo+ok))
  (q:∀aP,Bs kd a₀ aP->Kp lo st aP->Up rk (arrOf aP) lo (lo+n)->Q true aP):wpS (model prog w) A E s (binarySort' lo n ok) Q st:=by
 rw[binarySort'_eq]
 refine wpS_bind (wpS_mono (wpS_forRange (I:=λk c aP=>c=(none,())/\k<=n/\Bs kd a₀ aP/\Kp lo st aP/\Up rk (arrOf aP) lo (lo+k))
  (Q:=λc aP=>c=(none,())/\Bs kd a₀ aP/\Kp lo st aP/\Up rk (arrOf aP) lo (lo+n)) ?step ?fin ⟨rfl,by omega,B,Kp.refl _ _,by rw[show max ok 1=ok by omega];exact u⟩) ?post)
 case post=>
  rintro c aP ⟨rfl,x1,x2,x3⟩
  exact wpS_pure (q aP x1 x2 x3)
 case fin=>
  rintro c aP ⟨rfl,h2,x1,x2,x3⟩
  rw[show max (max ok 1) n=n by omega]at x3
  exact⟨rfl,x1,x2,x3⟩
 case step=>
  rintro k c aP PJ Oe ⟨rfl,-,B1,K1,u1⟩
  have EC:lo+k<a₀.size:=by omega
  refine wpS_bind (wpS_mono (wpS_forRange (I:=λx c bL=>bL=aP/\∃l r,c=(none,l,r)/\l<=r/\r<=k/\r-l<=k-x/\(∀i,i<l->R rk (arrOf aP) (lo+i)<=R rk (arrOf aP) (lo+k))/\∀i,r<=i->i<k->R rk (arrOf aP) (lo+k)<R rk (arrOf aP) (lo+i))
   (Q:=λc bL=>bL=aP/\∃l r,c=(none,l,r)/\l<=k/\(∀i,i<l->R rk (arrOf aP) (lo+i)<=R rk (arrOf aP) (lo+k))/\∀i,l<=i->i<k->R rk (arrOf aP) (lo+k)<R rk (arrOf aP) (lo+i)) ?istep ?ifin
   ⟨rfl,0,k,rfl,by omega,by omega,by omega,λi hi=>by omega,λi h1 h2=>by omega⟩) ?ipost)
  case ifin=>
   rintro c bL ⟨rfl,l,r,rfl,a1,a2,a3,a4,a5⟩
   obtain rfl:l=r:=by omega
   exact⟨rfl,l,l,rfl,a2,a4,a5⟩
  case istep=>
   rintro x c bL-hx ⟨rfl,l,r,rfl,a1,a2,a3,a4,a5⟩
   dsimp only
   refine a8 (λd=>?_) (λd=>?_)
   ·obtain rfl:l=r:=by omega
    exact wpS_pure ⟨rfl,l,l,rfl,a2,a4,a5⟩
   ·refine wpS_bind (qN C g B1 EC (by omega) ?_)
    by_cases hl:R rk (arrOf bL) (lo+k)<R rk (arrOf bL) (lo+(l+r)/2)
    ·rw[decide_eq_true hl]
     refine wpS_pure ⟨rfl,l,(l+r)/2,rfl,by omega,by omega,by omega,a4,λi b1 b2=>?_⟩
     exact Nat.lt_of_lt_of_le hl (u1 _ _ (by omega) (by omega) (by omega))
    ·rw[decide_eq_false hl]
     refine wpS_pure ⟨rfl,(l+r)/2+1,r,rfl,by omega,by omega,by omega,λi b1=>?_,a5⟩
     exact Nat.le_trans (u1 (lo+i) (lo+(l+r)/2) (by omega) (by omega) (by omega)) (by omega)
  case ipost=>
   rintro c bL ⟨rfl,l,r,rfl,a1,a2,a3⟩
   dsimp only
   rw[moveDown'_eq]
   have lz:lo+k<(arrOf bL).size:=by rw[B1.size];exact EC
   refine wpS_bind (wpS_modify (wpS_pure ⟨rfl,by omega,B1.arr (bubble_perm _ _ _),K1.trans ⟨λi hi=>?_,rfl⟩,?_⟩))
   ·show(bubble (arrOf bL) (lo+k) (lo+k-(lo+l)))[i]?=_
    rw[getElem?_bubble lz _ (by omega),if_neg (by omega),if_neg (by omega)]
   ·intro i j h1 h2 h3
    show R rk (bubble (arrOf bL) (lo+k) (lo+k-(lo+l))) i<=R rk (bubble (arrOf bL) (lo+k) (lo+k-(lo+l))) j
    rw[Ho lz (by omega),Ho lz (by omega),show lo+k-(lo+k-(lo+l))=lo+l by omega]
    have v1:∀i,lo<=i->i<lo+l->R rk (arrOf bL) i<=R rk (arrOf bL) (lo+k):=λi b1 b2=>by
     have:=a2 (i-lo) (by omega)
     rw[show lo+(i-lo)=i by omega]at this
     exact this
    have v2:∀i,lo+l<=i->i<lo+k->R rk (arrOf bL) (lo+k)<=R rk (arrOf bL) i:=λi b1 b2=>by
     have:=a3 (i-lo) (by omega) (by omega)
     rw[show lo+(i-lo)=i by omega]at this
     exact Nat.le_of_lt this
    repeat' split
    all_goals first
     |(exfalso;omega)
     |exact Nat.le_refl _
     |exact v1 _ (by omega) (by omega)
     |exact v2 _ (by omega) (by omega)
     |exact u1 _ _ (by omega) (by omega) (by omega)
end
section
variable{prog:Program}{w:World}{A:Around}{E:Value->Shared->Prop}{s:Shared}{kd:SortKind}{G:Keyed->Prop}{rk:Keyed->Nat}{a₀:Array Keyed}
theorem Up.more{xs:Array Keyed}{lo x:Nat}(u:Up rk xs lo (lo+x))(h1:1<=x)(h:¬R rk xs (lo+x)<R rk xs (lo+x-1)):Up rk xs lo (lo+(x+1)):=λi j a b c=>by
 by_cases hj:j<lo+x
 ·exact u i j a b hj
 ·obtain rfl:j=lo+x:=by omega
  by_cases hi:i=lo+x
  ·subst hi
   exact Nat.le_refl _
  ·exact Nat.le_trans (u i (lo+x-1) a (by omega) (by omega)) (by omega)
theorem Up.one{xs:Array Keyed}(lo:Nat):Up rk xs lo (lo+1):=λi j a b c=>by
 obtain rfl:i=j:=by omega
 exact Nat.le_refl _
theorem Jf{xs:Array Keyed}{lo x:Nat}(d:Dn rk xs lo (lo+x))(h:lo+x<=xs.size):Up rk (mirror xs lo (lo+x) ((lo+x-lo)/2)) lo (lo+x):=λi j a b c=>by
 rw[B7 h,B7 h,if_pos (by omega),if_pos (by omega)]
 exact d _ _ (by omega) (by omega) (by omega)
theorem uQ(C:uI prog w A E s kd G rk)(g:Gd G a₀){lo kN:Nat}{st:SortSt}{Q:Option Nat->SortSt->Prop}(B:Bs kd a₀ st)(hn:lo+kN<=a₀.size)(h1:1<=kN)
  (q:∀m aP,Bs kd a₀ aP->Kp lo st aP->1<=m->m<=kN->Up rk (arrOf aP) lo (lo+m)->Q (some m) aP):wpS (model prog w) A E s (countRun' lo kN) Q st:=by
 rw[countRun'_eq]
 refine wpS_bind (wpS_mono (wpS_forRange (I:=λx c aP=>aP=st/\c=(none,x)/\x<=kN/\Up rk (arrOf st) lo (lo+x))
  (Q:=λc aP=>aP=st/\∃n,c=(none,n)/\1<=n/\n<=kN/\Up rk (arrOf st) lo (lo+n)/\(n=kN\/R rk (arrOf st) (lo+n)<R rk (arrOf st) (lo+n-1))) ?step ?fin ⟨rfl,rfl,h1,Up.one lo⟩) ?post)
 case fin=>
  rintro c aP ⟨rfl,rfl,h2,u⟩
  rw[show max 1 kN=kN by omega]at u h2⊢
  exact⟨rfl,kN,rfl,h1,Nat.le_refl _,u,.inl rfl⟩
 case step=>
  rintro x c aP Of QS ⟨rfl,rfl,h2,u⟩
  dsimp only
  refine wpS_bind (qN C g B (by omega) (by omega) ?_)
  by_cases hl:R rk (arrOf aP) (lo+x)<R rk (arrOf aP) (lo+x-1)
  ·rw[decide_eq_true hl]
   exact wpS_pure ⟨rfl,x,rfl,Of,by omega,u,.inr hl⟩
  ·rw[decide_eq_false hl]
   exact wpS_pure ⟨rfl,rfl,by omega,u.more Of hl⟩
 case post=>
  rintro c aP ⟨rfl,n,rfl,n1,n2,u,QT⟩
  dsimp only
  refine a8 (λe=>wpS_pure (q n aP B (Kp.refl _ _) n1 n2 u)) (λe=>?_)
  have e':¬n=kN:=by simpa using e
  have eS:=QT.resolve_left e'
  have lz:lo+n<=(arrOf aP).size:=by rw[B.size];omega
  refine a8 (λgt=>wpS_bind (qN C g B (by omega) (by omega) ?_)) (λgt=>?_)
  by_cases hr:R rk (arrOf aP) lo<R rk (arrOf aP) (lo+n-1)
  ·rw[decide_eq_true hr]
   exact wpS_pure (q n aP B (Kp.refl _ _) n1 n2 u)
  rw[decide_eq_false hr]
  refine wpS_bind (sH ?_)
  have all:∀k,lo<=k->k<lo+n->R rk (arrOf aP) k=R rk (arrOf aP) (lo+n-1):=λk k1 k2=>by
   have x1:=u lo k (Nat.le_refl _) k1 k2
   have x2:=u k (lo+n-1) k1 (by omega) (by omega)
   omega
  have B2:=B.arr (mirror_perm (arrOf aP) lo (lo+n) ((lo+n-lo)/2))
  have K2:Kp lo aP (setArr aP (mirror (arrOf aP) lo (lo+n) ((lo+n-lo)/2))):=⟨λk hk=>by
   show(mirror (arrOf aP) lo (lo+n) ((lo+n-lo)/2))[k]?=_
   rw[getElem?_mirror_all lz,if_neg (by omega)],rfl⟩
  have d2:Dn rk (arrOf (setArr aP (mirror (arrOf aP) lo (lo+n) ((lo+n-lo)/2)))) lo (lo+(n+1)):=λi j a b c=>by
   show R rk (mirror (arrOf aP) lo (lo+n) ((lo+n-lo)/2)) j<=R rk (mirror (arrOf aP) lo (lo+n) ((lo+n-lo)/2)) i
   rw[jy lz all,jy lz all]
   by_cases hj:j<lo+n
   ·rw[all i (by omega) (by omega),all j (by omega) hj]
    exact Nat.le_refl _
   ·obtain rfl:j=lo+n:=by omega
    by_cases hi:i=lo+n
    ·subst hi
     exact Nat.le_refl _
    ·rw[all i a (by omega)]
     omega
  rotate_left
  obtain rfl:n=1:=by omega
  have B2:=B
  have K2:=Kp.refl lo aP
  have d2:Dn rk (arrOf aP) lo (lo+(1+1)):=λi j a b c=>by
   by_cases hi:i=j
   ·subst hi
    exact Nat.le_refl _
   ·obtain rfl:i=lo:=by omega
    obtain rfl:j=i+1:=by omega
    rw[show i+1-1=i by omega]at eS
    exact Nat.le_of_lt eS
  all_goals
   refine wpS_bind (wpS_lift (wpAny_rule ⟨rfl,?_⟩))
   refine wpS_bind (wpS_mono (wpS_forRange (I:=λx c bL=>∃sI,c=(none,x,sI)/\x<=kN/\Bs kd a₀ bL/\Kp lo aP bL/\Dn rk (arrOf bL) lo (lo+x)/\sI+1<=x/\∀i,lo+x-(sI+1)<=i->i<lo+x->R rk (arrOf bL) i=R rk (arrOf bL) (lo+x-1))
    (Q:=λc bL=>∃x sI,c=(none,x,sI)/\1<=x/\x<=kN/\Bs kd a₀ bL/\Kp lo aP bL/\Dn rk (arrOf bL) lo (lo+x)/\sI+1<=x/\∀i,lo+x-(sI+1)<=i->i<lo+x->R rk (arrOf bL) i=R rk (arrOf bL) (lo+x-1))
    (λx c bL Of QS hI=>?_) (λc bL hI=>?_) ⟨0,rfl,by omega,B2,K2,d2,by omega,λi a b=>by congr 1;omega⟩) (λc bL hI=>?_))
   ·obtain⟨sI,rfl,y1,B3,K3,d3,y2,y3⟩:=hI
    dsimp only
    have Ad:lo+x<=(arrOf bL).size:=by rw[B3.size];omega
    refine wpS_bind (qN C g B3 (by omega) (by omega) ?_)
    by_cases hl:R rk (arrOf bL) (lo+x)<R rk (arrOf bL) (lo+x-1)
    ·rw[decide_eq_true hl]
     have ext:∀xs:Array Keyed,(∀k,R rk xs k=R rk (arrOf bL) k)->Dn rk xs lo (lo+(x+1)):=λxs hk i j a b c=>by
      rw[hk,hk]
      by_cases hj:j<lo+x
      ·exact d3 i j a b hj
      ·obtain rfl:j=lo+x:=by omega
       by_cases hi:i=lo+x
       ·subst hi
        exact Nat.le_refl _
       ·exact Nat.le_trans (Nat.le_of_lt hl) (d3 i (lo+x-1) a (by omega) (by omega))
     refine a8 (λ_=>?_) (λz=>absurd rfl z)
     refine a8 (λz=>wpS_bind (sH (wpS_pure ?_))) (λz=>wpS_pure ?_)
     ·refine⟨0,rfl,by omega,B3.arr (mirror_perm _ _ _ _),K3.trans ⟨λk hk=>?_,rfl⟩,ext _ (jy Ad y3),by omega,λi a b=>by congr 1;omega⟩
      show(mirror (arrOf bL) _ _ _)[k]?=_
      rw[getElem?_mirror_all Ad,if_neg (by omega)]
     ·exact⟨0,rfl,by omega,B3,K3,ext _ (λ_=>rfl),by omega,λi a b=>by congr 1;omega⟩
    ·rw[decide_eq_false hl]
     refine wpS_bind (qN C g B3 (by omega) (by omega) ?_)
     by_cases Og:R rk (arrOf bL) (lo+x-1)<R rk (arrOf bL) (lo+x)
     ·rw[decide_eq_true Og]
      exact wpS_pure ⟨x,sI,rfl,by omega,by omega,B3,K3,d3,y2,y3⟩
     ·rw[decide_eq_false Og]
      have ee:R rk (arrOf bL) (lo+x)=R rk (arrOf bL) (lo+x-1):=by omega
      refine wpS_pure ⟨sI+1,rfl,by omega,B3,K3,λi j a b c=>?_,by omega,λi a b=>?_⟩
      ·by_cases hj:j<lo+x
       ·exact d3 i j a b hj
       ·obtain rfl:j=lo+x:=by omega
        by_cases hi:i=lo+x
        ·subst hi
         exact Nat.le_refl _
        ·rw[ee]
         exact d3 i (lo+x-1) a (by omega) (by omega)
      ·rw[show lo+(x+1)-1=lo+x by omega]
       by_cases hi:i=lo+x
       ·rw[hi]
       ·rw[ee]
        exact y3 i (by omega) (by omega)
   ·obtain⟨sI,rfl,y1,B3,K3,d3,y2,y3⟩:=hI
    exact⟨_,sI,rfl,by omega,y1,B3,K3,d3,y2,y3⟩
   ·obtain⟨x,sI,rfl,y0,y1,B3,K3,d3,y2,y3⟩:=hI
    dsimp only
    have Ad:lo+x<=(arrOf bL).size:=by rw[B3.size];omega
    refine a8 (λz=>wpS_bind (sH ?_)) (λz=>?_)
    have B4:=B3.arr (mirror_perm (arrOf bL) (lo+x-(sI+1)) (lo+x) ((lo+x-(lo+x-(sI+1)))/2))
    have K4:Kp lo aP (setArr bL (mirror (arrOf bL) (lo+x-(sI+1)) (lo+x) ((lo+x-(lo+x-(sI+1)))/2))):=K3.trans ⟨λk hk=>by
     show(mirror (arrOf bL) _ _ _)[k]?=_
     rw[getElem?_mirror_all Ad,if_neg (by omega)],rfl⟩
    have d4:Dn rk (arrOf (setArr bL (mirror (arrOf bL) (lo+x-(sI+1)) (lo+x) ((lo+x-(lo+x-(sI+1)))/2)))) lo (lo+x):=λi j a b c=>by
     show R rk (mirror (arrOf bL) _ _ _) j<=R rk (mirror (arrOf bL) _ _ _) i
     rw[jy Ad y3,jy Ad y3]
     exact d3 i j a b c
    rotate_left
    have B4:=B3
    have K4:=K3
    have d4:=d3
    all_goals
     refine wpS_bind (sH ?_)
     have PL:=B4.size
     have QU:lo+x<=a₀.size:=by omega
     have B5:=B4.arr (mirror_perm _ lo (lo+x) ((lo+x-lo)/2))
     refine wpS_bind (wpS_mono (wpS_forRange (I:=λy c iu=>c=(none,y)/\y<=kN/\Bs kd a₀ iu/\Kp lo aP iu/\Up rk (arrOf iu) lo (lo+y))
      (Q:=λc iu=>∃y,c=(none,y)/\1<=y/\y<=kN/\Bs kd a₀ iu/\Kp lo aP iu/\Up rk (arrOf iu) lo (lo+y))
      (λy c iu Sl Sn hI=>?_) (λc iu hI=>?_) ⟨rfl,y1,B5,K4.trans ⟨λk hk=>?_,rfl⟩,λi j a b c=>?_⟩) (λc iu hI=>?_))
     ·obtain⟨rfl,z1,B6,K6,u6⟩:=hI
      dsimp only
      refine wpS_bind (qN C g B6 (by omega) (by omega) ?_)
      by_cases hl:R rk (arrOf iu) (lo+y)<R rk (arrOf iu) (lo+y-1)
      ·rw[decide_eq_true hl]
       exact wpS_pure ⟨y,rfl,by omega,by omega,B6,K6,u6⟩
      ·rw[decide_eq_false hl]
       exact wpS_pure ⟨rfl,by omega,B6,K6,u6.more (by omega) hl⟩
     ·obtain⟨rfl,z1,B6,K6,u6⟩:=hI
      exact⟨_,rfl,by omega,z1,B6,K6,u6⟩
     ·show(mirror _ lo (lo+x) _)[k]?=_
      rw[getElem?_mirror_all (by omega),if_neg (by omega)]
     ·exact Jf d4 (by omega) i j a b c
     ·obtain⟨y,rfl,z0,z1,B6,K6,u6⟩:=hI
      exact wpS_pure (q y iu B6 K6 z0 z1 u6)
end
noncomputable def Rn(rk:Keyed->Nat)(l:List Keyed):Nat->List (Nat×Nat×Nat)->Nat->Prop
 |b,[],e=>b=e
 |b,r::rs,e=>r.1=b/\1<=r.2.1/\Sd rk ((l.drop b).take r.2.1)/\Rn rk l (b+r.2.1) rs e
theorem Rn.le{rk:Keyed->Nat}{l:List Keyed}:∀{rs:List (Nat×Nat×Nat)} {b e:Nat},Rn rk l b rs e->b+rs.length<=e
 |[],b,e,h=>by
  have h':b=e:=h
  simp[h']
 |r::rs,b,e,h=>by
  obtain⟨h1,h2,h3,h4⟩:=h
  have:=h4.le
  rw[List.length_cons]
  omega
theorem Rn.app{rk:Keyed->Nat}{l:List Keyed}:∀{us vs:List (Nat×Nat×Nat)} {b e:Nat},Rn rk l b (us++vs) e↔∃m,Rn rk l b us m/\Rn rk l m vs e
 |[],vs,b,e=>⟨λh=>⟨b,rfl,h⟩,λ⟨m,h1,h2⟩=>by
  have LI:b=m:=h1
  subst LI
  exact h2⟩
 |r::us,vs,b,e=>by
  constructor
  ·rintro⟨h1,h2,h3,h4⟩
   obtain⟨m,h5,h6⟩:=Rn.app.mp h4
   exact⟨m,⟨h1,h2,h3,h5⟩,h6⟩
  ·rintro⟨m,⟨h1,h2,h3,h5⟩,h6⟩
   exact⟨h1,h2,h3,Rn.app.mpr ⟨m,h5,h6⟩⟩
theorem Rn.same{rk:Keyed->Nat}{l l':List Keyed}:∀{rs:List (Nat×Nat×Nat)} {b e:Nat},Rn rk l b rs e->(∀i,b<=i->i<e->l[i]?=l'[i]?)->Rn rk l' b rs e
 |[],b,e,h,_=>h
 |r::rs,b,e,h,s=>by
  obtain⟨h1,h2,h3,h4⟩:=h
  have hl:=h4.le
  refine⟨h1,h2,?_,h4.same λi a c=>s i (by omega) c⟩
  rw[<-uP λi a c=>s i a (by omega)]
  exact h3
theorem Rn.mod{rk:Keyed->Nat}{l:List Keyed}(f:Nat×Nat×Nat->Nat×Nat×Nat)(hf:∀r,(f r).1=r.1/\(f r).2.1=r.2.1):∀{rs:List (Nat×Nat×Nat)} {b e:Nat} (i:Nat),Rn rk l b rs e->Rn rk l b (rs.modify i f) e
 |[],b,e,i,h=>by
  rw[List.modify_nil]
  exact h
 |r::rs,b,e,0,h=>by
  rw[List.modify_zero_cons]
  obtain⟨h1,h2,h3,h4⟩:=h
  refine⟨(hf r).1.trans h1,?_,?_,?_⟩
  ·rw[(hf r).2]
   exact h2
  ·rw[(hf r).2]
   exact h3
  ·rw[(hf r).2]
   exact h4
 |r::rs,b,e,i+1,h=>by
  rw[List.modify_succ_cons]
  obtain⟨h1,h2,h3,h4⟩:=h
  exact⟨h1,h2,h3,h4.mod f hf i⟩
theorem Rn.join{rk:Keyed->Nat}{l l' m:List Keyed}{us vs:List (Nat×Nat×Nat)}{e sa na pw nb M1:Nat}(h:Rn rk l 0 (us++(sa,na,pw)::(sa+na,nb,M1)::vs) e)(hl:sa+na+nb<=l.length)
  (e':l'=l.take sa++m++l.drop (sa+na+nb))(pm:m.Perm ((l.drop sa).take (na+nb)))(sm:Sd rk m):Rn rk l' 0 (us++(sa,na+nb,pw)::vs) e:=by
 obtain⟨b,h1,h2⟩:=Rn.app.mp h
 obtain⟨h3,h4,h5,h6⟩:=h2
 obtain⟨h7,h8,h9,QV⟩:=h6
 have QW:sa=b:=h3
 subst QW
 have ml:m.length=na+nb:=by rw[pm.length_eq,hX (by omega)]
 have tl:(l.take sa).length=sa:=by rw[List.length_take];omega
 have lo:∀i,i<sa->l[i]?=l'[i]?:=λi hi=>by
  rw[e',List.append_assoc,List.getElem?_append_left (by omega),List.getElem?_take,if_pos hi]
 have hi:∀i,sa+na+nb<=i->l[i]?=l'[i]?:=λi hi=>by
  rw[e',List.getElem?_append_right (by rw[List.length_append];omega),List.length_append,List.getElem?_drop]
  congr 1
  omega
 refine Rn.app.mpr ⟨sa,h1.same λi _ c=>lo i c,rfl,Nat.le_trans h4 (Nat.le_add_right _ _),?_,?_⟩
 ·have:(l'.drop sa).take (na+nb)=m:=by
    rw[e',List.append_assoc,List.drop_append_of_le_length (by omega),List.drop_eq_nil_of_le (by omega),List.nil_append,List.take_append_of_le_length (by omega),List.take_of_length_le (by omega)]
  show Sd rk ((l'.drop sa).take (na+nb))
  rw[this]
  exact sm
 ·show Rn rk l' (sa+(na+nb)) vs e
  rw[<-Nat.add_assoc]
  exact QV.same λi a _=>hi i a
theorem Ae{α:Type}{p:Array α}{i:Nat}{x y:α}(h1:p[i]?=some x)(h2:p[i+1]?=some y)(z:α):∃us vs,p.toList=us++x::y::vs/\((p.setIfInBounds i z).eraseIdxIfInBounds (i+1)).toList=us++z::vs/\us.length=i:=by
 have k1:p.toList[i]?=some x:=by simpa using h1
 have k2:p.toList[i+1]?=some y:=by simpa using h2
 obtain⟨l1,e1⟩:=List.getElem?_eq_some_iff.mp k1
 obtain⟨l2,e2⟩:=List.getElem?_eq_some_iff.mp k2
 have d:p.toList.drop i=x::y::p.toList.drop (i+1+1):=by rw[List.drop_eq_getElem_cons l1,List.drop_eq_getElem_cons l2,e1,e2]
 have e:p.toList=p.toList.take i++x::y::p.toList.drop (i+1+1):=by rw[<-d,List.take_append_drop]
 have tl:(p.toList.take i).length=i:=by rw[List.length_take];omega
 refine⟨p.toList.take i,p.toList.drop (i+1+1),e,?_,tl⟩
 rw[Array.toList_eraseIdxIfInBounds,Array.toList_setIfInBounds]
 have:p.toList.set i z=p.toList.take i++z::y::p.toList.drop (i+1+1):=by
  rw[e]
  rw[List.set_append_right _ _ (by omega),tl,Nat.sub_self]
  simp[tl]
  exact congrArg (List.drop (i+1+1)) e
 rw[this,List.eraseIdx_append_of_length_le (by omega),tl,show i+1-i=1 by omega]
 rfl
section
variable{prog:Program}{w:World}{A:Around}{E:Value->Shared->Prop}{s:Shared}{kd:SortKind}{G:Keyed->Prop}{rk:Keyed->Nat}{a₀:Array Keyed}
theorem yz(C:uI prog w A E s kd G rk)(g:Gd G a₀){st:SortSt}{Q:Bool->SortSt->Prop}{i e:Nat}(B:Bs kd a₀ st)(r:Rn rk (arrOf st).toList 0 (pendingOf st).toList e)(he:e<=a₀.size)(hi:i+1<(pendingOf st).size)
  (q:∀aP,Bs kd a₀ aP->Rn rk (arrOf aP).toList 0 (pendingOf aP).toList e->(pendingOf aP).size+1=(pendingOf st).size->(∀k,e<=k->(arrOf aP).toList[k]?=(arrOf st).toList[k]?)->Q true aP):wpS (model prog w) A E s (mergeAt' i) Q st:=by
 obtain⟨⟨sa,na,pw⟩,e1⟩:∃x,(pendingOf st)[i]?=some x:=⟨_,getElem?_pos _ i (by omega)⟩
 obtain⟨⟨sb,nb,M1⟩,e2⟩:∃x,(pendingOf st)[i+1]?=some x:=⟨_,getElem?_pos _ (i+1) hi⟩
 obtain⟨us,vs,p1,p2,p3⟩:=Ae e1 e2 (sa,na+nb,pw)
 have r':=r
 rw[p1]at r'
 obtain⟨b,h1,h2,h3,h4,h5,h6,h7,h8⟩:=Rn.app.mp r'
 have hb:sa=b:=h2
 subst hb
 have Oh:sb=sa+na:=h5
 subst Oh
 have hle:=h8.le
 have lz:=B.size
 dsimp only at h3 h4 h6 h7 hle
 refine wU C B.k (B.gd g) B.f e1 e2 h3 h6 (by omega) h4 h7 λaP m k1 k2 k3 k4 k5 k6=>?_
 have QX:(arrOf aP).toList.Perm (arrOf st).toList:=by
  rw[k4]
  have:=mE (arrOf st).toList sa (na+nb)
  rw[<-Nat.add_assoc]at this
  conv=>rhs;rw[this]
  exact(k5.append_left _).append_right _
 refine q aP ⟨(Array.perm_iff_toList_perm.mpr QX).trans B.pm,k1,k2⟩ ?_ ?_ λk hk=>?_
 ·rw[k3,p2]
  exact Rn.join r' (by rw[Array.length_toList];omega) k4 k5 k6
 ·rw[k3,<-Array.length_toList,p2,<-Array.length_toList,p1]
  simp only[List.length_append,List.length_cons]
  omega
 ·rw[k4,List.getElem?_append_right (by rw[List.length_append,List.length_take,k5.length_eq,hX (by rw[Array.length_toList];omega)];omega),List.getElem?_drop]
  congr 1
  rw[List.length_append,List.length_take,k5.length_eq,hX (by rw[Array.length_toList];omega),Array.length_toList]
  omega
theorem Jg{c:Prop}[Decidable c]{a b n:Nat}(h1:a+1<n)(h2:b+1<n):(if c then a else b)+1<n:=by
 split
 ·exact h1
 ·exact h2
theorem yA{st:SortSt}{lo n x:Nat}(B:Bs kd a₀ st)(r:Rn rk (arrOf st).toList 0 (pendingOf st).toList lo)(sd:Sd rk (((arrOf st).toList.drop lo).take n))(h1:1<=n)(hn:lo+n<=a₀.size)(hx:x<=lo\/lo=a₀.size):
  ∃LJ,((none:Option Unit),lo+n)=(none,LJ)/\Bs kd a₀ (setPending st ((pendingOf st).push (lo,n,0)))/\LJ<=a₀.size/\(x+1<=LJ\/LJ=a₀.size)/\Rn rk (arrOf (setPending st ((pendingOf st).push (lo,n,0)))).toList 0 (pendingOf (setPending st ((pendingOf st).push (lo,n,0)))).toList LJ:=by
 refine⟨lo+n,rfl,⟨B.pm,B.k,B.f⟩,hn,by omega,?_⟩
 show Rn rk (arrOf st).toList 0 ((pendingOf st).push (lo,n,0)).toList (lo+n)
 rw[Array.toList_push]
 exact Rn.app.mpr ⟨lo,r,rfl,h1,sd,rfl⟩
theorem uR(C:uI prog w A E s kd G rk)(g:Gd G a₀){st:SortSt}{Q:Unit->SortSt->Prop}(B:Bs kd a₀ st)(hp:pendingOf st=#[])
  (q:∀aP,Bs kd a₀ aP->Sd rk (arrOf aP).toList->Q () aP):wpS (model prog w) A E s sortRuns' Q st:=by
 rw[sortRuns'_eq]
 refine wpS_bind (wpS_get ?_)
 dsimp only
 rw[B.size]
 refine wpS_bind (wpS_mono (wpS_forRange (I:=λx c aP=>∃lo,c=(none,lo)/\Bs kd a₀ aP/\lo<=a₀.size/\(x<=lo\/lo=a₀.size)/\Rn rk (arrOf aP).toList 0 (pendingOf aP).toList lo)
  (Q:=λc aP=>∃lo,c=(none,lo)/\lo=a₀.size/\Bs kd a₀ aP/\Rn rk (arrOf aP).toList 0 (pendingOf aP).toList lo) ?step ?fin ⟨0,rfl,B,Nat.zero_le _,.inl (Nat.le_refl _),by rw[hp];rfl⟩) ?post)
 case fin=>
  rintro c aP ⟨lo,rfl,B1,h1,h2,r1⟩
  exact⟨lo,rfl,by omega,B1,r1⟩
 case step=>
  rintro x c aP-hx ⟨lo,rfl,B1,h1,h2,r1⟩
  dsimp only
  refine a8 (λd=>wpS_pure ⟨lo,rfl,by omega,B1,r1⟩) (λd=>?_)
  have d':lo<a₀.size:=by omega
  refine wpS_bind (uQ C g B1 (by omega) (by omega) λm bL B2 K2 m1 m2 u2=>?_)
  dsimp only
  have keepR:∀{pZ:SortSt},Kp lo aP pZ->Rn rk (arrOf pZ).toList 0 (pendingOf pZ).toList lo:=λ{pZ} K=>by
   rw[K.2]
   refine r1.same λi _ hi=>?_
   rw[Array.getElem?_toList,Array.getElem?_toList]
   exact(K.1 i hi).symm
  refine a8 (λz=>wpS_bind (wpS_lift (wpAny_rule ⟨rfl,wpS_bind (qe C g (n:=min (a₀.size-lo) (minRun' a₀.size a₀.size 0)) B2 (by omega) (by omega) m1 u2 λke B4 K3 u4=>a8 (λy=>absurd y (by decide)) λy=>?_)⟩))) (λz=>?_)
  have hn:lo+min (a₀.size-lo) (minRun' a₀.size a₀.size 0)<=a₀.size:=by omega
  have M5:1<=min (a₀.size-lo) (minRun' a₀.size a₀.size 0):=by omega
  have K4:=K2.trans K3
  generalize min (a₀.size-lo) (minRun' a₀.size a₀.size 0)=nn at hn M5 u4⊢
  rotate_left
  have hn:lo+m<=a₀.size:=by omega
  have M5:1<=m:=m1
  obtain⟨ke,rfl⟩:∃ke,ke=bL:=⟨_,rfl⟩
  obtain⟨nn,rfl⟩:∃nn,nn=m:=⟨_,rfl⟩
  have K4:=K2
  have B4:=B2
  have u4:=u2
  all_goals
   refine wpS_bind (wpS_get ?_)
   have r4:=keepR K4
   have s4:=u4.sd (by rw[B4.size];exact hn)
   cases eb:(pendingOf ke).back? with
   |none=>exact wpS_bind (wpS_modify (wpS_pure (yA B4 r4 s4 M5 hn h2)))
   |some top=>
    obtain⟨s1,n1,p1⟩:=top
    dsimp only
    refine wpS_bind (wpS_mono (wpS_forRange (I:=λ_ c iu=>c=(none,())/\Bs kd a₀ iu/\Rn rk (arrOf iu).toList 0 (pendingOf iu).toList lo/\∀k,lo<=k->(arrOf iu).toList[k]?=(arrOf ke).toList[k]?)
     (Q:=λc iu=>c=(none,())/\Bs kd a₀ iu/\Rn rk (arrOf iu).toList 0 (pendingOf iu).toList lo/\∀k,lo<=k->(arrOf iu).toList[k]?=(arrOf ke).toList[k]?) (λy c iu _ hy hI=>?_) (λ_ _ hI=>hI) ⟨rfl,B4,r4,λ_ _=>rfl⟩) (λc iu hI=>?_))
    ·obtain⟨rfl,B5,r5,k5⟩:=hI
     refine wpS_bind (wpS_get ?_)
     by_cases hs:(pendingOf iu).size>1
     ·rw[if_pos hs]
      obtain⟨⟨f1,f2,PM⟩,e5⟩:∃z,(pendingOf iu)[(pendingOf iu).size-2]?=some z:=⟨_,getElem?_pos _ _ (by omega)⟩
      rw[e5]
      dsimp only
      refine a8 (λ_=>wpS_pure ⟨rfl,B5,r5,k5⟩) (λ_=>?_)
      exact wpS_bind (yz C g B5 r5 h1 (by omega) λSo B6 r6 _ k6=>a8 (λy=>absurd y (by decide)) λ_=>wpS_pure ⟨rfl,B6,r6,λk hk=>(k6 k hk).trans (k5 k hk)⟩)
     ·rw[if_neg hs]
      exact wpS_pure ⟨rfl,B5,r5,k5⟩
    ·obtain⟨rfl,B5,r5,k5⟩:=hI
     dsimp only
     refine wpS_bind (wpS_modify (wpS_bind (wpS_modify (wpS_pure ?_))))
     refine yA (st:=setPending iu _) ⟨B5.pm,B5.k,B5.f⟩ ?_ ?_ M5 hn h2
     ·show Rn rk (arrOf iu).toList 0 ((pendingOf iu).modify _ _).toList lo
      rw[Array.toList_modify]
      refine Rn.mod _ ?_ _ r5
      exact λ_=>⟨rfl,rfl⟩
     ·have:=s4
      rw[uP λi a _=>(k5 i a).symm]at this
      exact this
 case post=>
  rintro c aP ⟨lo,rfl,rfl,B1,r1⟩
  dsimp only
  refine wpS_bind (wpS_mono (wpS_forRange (I:=λx c bL=>c=(none,())/\Bs kd a₀ bL/\Rn rk (arrOf bL).toList 0 (pendingOf bL).toList a₀.size/\((pendingOf bL).size+x<=a₀.size\/(pendingOf bL).size<=1))
   (Q:=λc bL=>c=(none,())/\Bs kd a₀ bL/\Rn rk (arrOf bL).toList 0 (pendingOf bL).toList a₀.size/\(pendingOf bL).size<=1) (λx c bL _ hx hI=>?_) (λc bL hI=>?_) ⟨rfl,B1,r1,?_⟩) (λc bL hI=>?_))
  ·obtain⟨rfl,B2,r2,h2⟩:=hI
   refine wpS_bind (wpS_get ?_)
   refine a8 (λd=>wpS_pure ⟨rfl,B2,r2,d⟩) (λd=>?_)
   refine wpS_bind (yz C g B2 r2 (Nat.le_refl _) ?_ λpZ B3 r3 h3 _=>a8 (λy=>absurd y (by decide)) λ_=>wpS_pure ⟨rfl,B3,r3,by omega⟩)
   exact Jg (by omega) (by omega)
  ·obtain⟨rfl,B2,r2,h2⟩:=hI
   exact⟨rfl,B2,r2,by omega⟩
  ·have:=r1.le
   rw[Array.length_toList]at this
   exact .inl (by omega)
  ·obtain⟨rfl,B2,r2,h2⟩:=hI
   dsimp only
   refine wpS_pure (q bL B2 ?_)
   have hl:(pendingOf bL).toList.length<=1:=by rw[Array.length_toList];exact h2
   have lz:(arrOf bL).toList.length=a₀.size:=by rw[Array.length_toList,B2.size]
   cases e:(pendingOf bL).toList with
   |nil=>
    rw[e]at r2
    have z:0=a₀.size:=r2
    have:(arrOf bL).toList=[]:=List.eq_nil_of_length_eq_zero (by omega)
    rw[this]
    exact Sd.nil
   |cons r rs=>
    cases rs with
    |cons _ _=>
     rw[e]at hl
     simp at hl
    |nil=>
     rw[e]at r2
     obtain⟨y1,y2,y3,y4⟩:=r2
     have Sq:0+r.2.1=a₀.size:=y4
     rw[List.drop_zero,List.take_of_length_le (by omega)]at y3
     exact y3
end
end TS
namespace L2
open PySem PySem.Spec PyProof.Rows
noncomputable def kO(sc:Scope)(env:Env):List (Str×Addr):=sc.names.foldl (λcs p=>if p.2=.free then(p.1,(env.cells.lookup p.1).getD 0)::cs else cs) []
theorem sJ(env:Env):∀(ns:List (Str×NameKind)) (acc:List (Str×Addr)),(∀p∈ns,p.2=.free->∃c,env.cells.lookup p.1=some c)->
  (forIn ns acc (λ(x:Str×NameKind) (r:List (Str×Addr))=>match x with|(name,kind)=>if(kind==.free)=true then(do let c<-cellOf env name;pure (ForInStep.yield ((name,c)::r)))else pure (ForInStep.yield r)):Sem _)=
    pure (ns.foldl (λcs p=>if p.2=.free then(p.1,(env.cells.lookup p.1).getD 0)::cs else cs) acc)
 |[],acc,_=>rfl
 |(n,k)::ns,acc,h=>by
  rw[List.forIn_cons]
  by_cases hk:k=.free
  ·subst hk
   obtain⟨c,hc⟩:=h (n,.free) (List.mem_cons_self ..) rfl
   have e1:cellOf env n=pure c:=by
    unfold cellOf
    rw[hc]
   dsimp only
   rw[if_pos (by rfl),e1,pure_bind,pure_bind,List.foldl_cons,if_pos rfl,hc]
   exact sJ env ns _ λp hp=>h p (List.mem_cons_of_mem _ hp)
  ·dsimp only
   rw[if_neg (by simpa using hk),pure_bind,List.foldl_cons,if_neg hk]
   exact sJ env ns _ λp hp=>h p (List.mem_cons_of_mem _ hp)
theorem nT{sc:Scope}{env:Env}(h:∀p∈sc.names,p.2=.free->∃c,env.cells.lookup p.1=some c):closureFor sc env=pure (kO sc env):=by
 unfold closureFor kO
 have:=sJ env sc.names [] h
 exact(congrArg (λm:Sem (List (Str×Addr))=>m>>=λr=>pure r) this).trans rfl
theorem sL(env:Env):∀(ns:List (Str×NameKind)) (acc:List (Str×Addr)) (y:Str) (c:Addr),(ns.foldl (λcs p=>if p.2=.free then(p.1,(env.cells.lookup p.1).getD 0)::cs else cs) acc).lookup y=some c->
  acc.lookup y=some c\/((y,NameKind.free)∈ns/\c=(env.cells.lookup y).getD 0)
 |[],acc,y,c,h=>.inl h
 |(n,k)::ns,acc,y,c,h=>by
  rw[List.foldl_cons]at h
  rcases sL env ns _ y c h with h1|⟨h1,h2⟩
  ·by_cases hk:k=.free
   ·rw[if_pos hk,List.lookup_cons]at h1
    by_cases hy:(y==n)=true
    ·rw[hy]at h1
     have e:y=n:=eq_of_beq hy
     subst e
     exact .inr ⟨by rw[hk];exact List.mem_cons_self ..,(Option.some.inj h1).symm⟩
    ·rw[Bool.not_eq_true]at hy
     rw[hy]at h1
     exact .inl h1
   ·rw[if_neg hk]at h1
    exact .inl h1
  ·exact .inr ⟨List.mem_cons_of_mem _ h1,h2⟩
theorem oG(env:Env):∀(ns:List (Str×NameKind)) (acc:List (Str×Addr)) (y:Str),((y,NameKind.free)∈ns\/∃c,acc.lookup y=some c)->∃c,(ns.foldl (λcs p=>if p.2=.free then(p.1,(env.cells.lookup p.1).getD 0)::cs else cs) acc).lookup y=some c
 |[],acc,y,h=>by
  rcases h with h|h
  ·cases h
  ·exact h
 |(n,k)::ns,acc,y,h=>by
  rw[List.foldl_cons]
  refine oG env ns _ y ?_
  rcases h with h|⟨c,h⟩
  ·rcases List.mem_cons.mp h with e|h
   ·injection e with e1 e2
    subst e1 e2
    rw[if_pos rfl,List.lookup_cons]
    exact .inr ⟨_,by rw[beq_self_eq_true]⟩
   ·exact .inl h
  ·refine .inr ?_
   split
   ·rw[List.lookup_cons]
    cases y==n with
    |true=>exact⟨_,rfl⟩
    |false=>exact⟨c,h⟩
   ·exact⟨c,h⟩
structure gJ(ji:Scope)(N:List Str)(sc:Scope)(x:Str)(ys:List Str):Prop where
 kind:sc.kind=.function
 xloc:sc.names.lookup x=some .local
 nocell:∀p∈sc.names,p.2≠.cell
 locs:∀p∈sc.names,p.2=.local->sc.names.lookup p.1=some .local
 free:∀p∈sc.names,p.2=.free->ji.names.lookup p.1=some .cell\/ji.names.lookup p.1=some .free
 nd:(x::ys).Nodup
 len:ys.length=N.length
 pl:∀p∈ys.zip N,sc.names.lookup p.1=some .free->p.1=p.2
 nl:∀y∈ys,sc.names.lookup y≠some .local
noncomputable def iZ(ji:Scope)(N:List Str)(sc:Scope)(x:Str)(ys:List Str):Bool:=
 decide (sc.kind=.function)&&decide (sc.names.lookup x=some .local)&&decide (∀p∈sc.names,p.2≠.cell)&&decide (∀p∈sc.names,p.2=.local->sc.names.lookup p.1=some .local)&&
 decide (∀p∈sc.names,p.2=.free->ji.names.lookup p.1=some .cell\/ji.names.lookup p.1=some .free)&&decide ((x::ys).Nodup)&&decide (ys.length=N.length)&&
 decide (∀p∈ys.zip N,sc.names.lookup p.1=some .free->p.1=p.2)&&decide (∀y∈ys,sc.names.lookup y≠some .local)
theorem gJ.of{ji:Scope}{N:List Str}{sc:Scope}{x:Str}{ys:List Str}(h:iZ ji N sc x ys=true):gJ ji N sc x ys:=by
 unfold iZ at h
 simp only[Bool.and_eq_true,decide_eq_true_eq]at h
 obtain⟨⟨⟨⟨⟨⟨⟨⟨h1,h2⟩,h3⟩,h4⟩,h5⟩,h6⟩,h7⟩,h8⟩,h9⟩:=h
 exact⟨h1,h2,h3,h4,h5,h6,h7,h8,h9⟩
noncomputable def Cx.lF(X:Cx)(sc:Scope)(x:Str)(ys:List Str)(ex:List Addr)(C:Addr)(s:Shared)(H:Hp):Cx where
 prog:=X.prog
 w:=X.w
 K:=X.K
 mg:=X.mg
 base:=X.base
 A:=X.A
 N:=x::ys
 s₀:=s
 H₀:=H
 env:=compEnvC sc (kO sc X.env) C X.env
 outer:=X.stack
 stack:=X.stack
 ex:=ex
 fn:=λ_=>false
 calm:=X.calm
 pn:=[]
 xe:=λ_ _=>False
theorem aY{env:Env}:∀{ns:List (Str×NameKind)} {y:Str} {k:NameKind},(ns.map λ(n,k)=>if(k==NameKind.free&&env.scope.kind==.function&&env.kindOf n==some .cell)then(n,NameKind.cell)else(n,k)).lookup y=some k->
  ns.lookup y=some k\/(ns.lookup y=some .free/\k=.cell)
 |[],y,k,h=>by cases h
 |(n,j)::ns,y,k,h=>by
  rw[List.map_cons]at h
  dsimp only at h
  cases hy:y==n with
  |true=>
   by_cases hc:(j==NameKind.free&&env.scope.kind==.function&&env.kindOf n==some .cell)=true
   ·rw[if_pos hc,List.lookup_cons,hy]at h
    have hj:j=.free:=by
     simp only[Bool.and_eq_true]at hc
     exact eq_of_beq hc.1.1
    refine .inr ⟨?_,(Option.some.inj h).symm⟩
    rw[List.lookup_cons,hy,hj]
   ·rw[if_neg hc,List.lookup_cons,hy]at h
    refine .inl ?_
    rw[List.lookup_cons,hy]
    exact h
  |false=>
   have h':(ns.map λ(n,k)=>if(k==NameKind.free&&env.scope.kind==.function&&env.kindOf n==some .cell)then(n,NameKind.cell)else(n,k)).lookup y=some k:=by
    by_cases hc:(j==NameKind.free&&env.scope.kind==.function&&env.kindOf n==some .cell)=true
    ·rw[if_pos hc,List.lookup_cons,hy]at h
     exact h
    ·rw[if_neg hc,List.lookup_cons,hy]at h
     exact h
   rw[List.lookup_cons,hy]
   exact aY h'
section
variable{X:Cx}{pins:List (Addr×Obj)}{σ:St}{H:Hp}{s:Shared}{sc:Scope}{x:Str}{ys:List Str}
theorem gJ.cell(cs:gJ X.env.scope X.N sc x ys)(I:Inv X pins σ H s){y:Str}(h:(y,NameKind.free)∈sc.names):∃c,X.env.cells.lookup y=some c:=I.ok.has y (cs.free _ h rfl)
theorem gJ.cl(cs:gJ X.env.scope X.N sc x ys)(I:Inv X pins σ H s){y:Str}{c:Addr}(h:(kO sc X.env).lookup y=some c):X.env.cells.lookup y=some c/\(y,NameKind.free)∈sc.names:=by
 rcases sL X.env sc.names [] y c h with h1|⟨h1,h2⟩
 ·cases h1
 ·obtain⟨d,hd⟩:=cs.cell I h1
  rw[hd]at h2
  rw[h2]
  exact⟨hd,h1⟩
theorem Jh(cs:gJ X.env.scope X.N sc x ys)(I:Inv X pins σ H s){fp:List Addr}(hf:∀b∈fp,jv X pins H b)(eS:∀b∈fp,b<s.heap.objs.size){C:Addr}(hC:s.heap.objs.size<=C):(X.lF sc x ys fp C s H).Ok where
 mod:=I.ok.mod
 kind:=cs.kind
 glob:=I.ok.glob
 blt:=I.ok.blt
 above:=hC
 inj:=λy z c h1 h2=>I.ok.inj y z c (cs.cl I h1).1 (cs.cl I h2).1
 has:=λy hy=>by
  have Oi:(relabel sc X.env).names.lookup y=some .cell\/(relabel sc X.env).names.lookup y=some .free:=hy
  have hf:(y,NameKind.free)∈sc.names:=by
   rcases Oi with h|h
   ·rcases aY h with h1|⟨h1,_⟩
    ·exact absurd rfl (cs.nocell _ (PySem.mem_of_lookup h1))
    ·exact PySem.mem_of_lookup h1
   ·rcases aY h with h1|⟨h1,_⟩
    ·exact PySem.mem_of_lookup h1
    ·exact PySem.mem_of_lookup h1
  exact oG X.env sc.names [] y (.inl hf)
 cab:=λy c h=>by cases h
 hd:=I.ok.hd
 frames:=I.ok.frames
 stk:=.inl rfl
 exf:=λb hb=>⟨λe=>by
  have:=eS b hb
  rw[e]at this
  exact absurd (Nat.lt_of_lt_of_le this hC) (Nat.lt_irrefl _),λy c h=>(hf b hb).2.2.2.2.1 y c (cs.cl I h).1⟩
 bs:=I.bs
 bsz:=Nat.le_trans I.ok.bsz I.sz
 noex:=λb o e hb=>by
  rcases(hf b hb).2.2.2.1 with h|h
  ·exact I.ok.noex b o e h
  ·exact absurd (Nat.lt_of_lt_of_le (Heap.lt_size e) (Nat.le_trans I.ok.bsz h)) (Nat.lt_irrefl _)
 exfs:=λb hb h=>(List.mem_cons.mp (I.rQ b h)).elim (hf b hb).2.1 (hf b hb).2.2.1
 funs:=I.stack
 frf:=I.rR
end
noncomputable def B8(X:Cx)(ifs:List Expr)(t:TT):Prop:=
 ∀(pins:List (Addr×Obj)) (s:Shared) (σ:St) (H:Hp) (Q:Bool->Hp->Prop),Inv X pins σ H s->t σ H Q->
  wpAny (model X.prog X.w) X.A (forIn ifs true λc r=>if r=true then do let ok<-isTrue c X.env (eval c X.env);pure (ForInStep.yield ok)else pure (ForInStep.yield r)) (TP X pins σ Q) X.xe s
theorem oH{X:Cx}:B8 X [] (λ_ H Q=>Q true H):=λpins s σ H Q I h=>wpAny_tests_nil ⟨H,I,h⟩
theorem uS{X:Cx}{c:Expr}{t:TT}(h:PT X c t):B8 X [c] t:=λpins s σ H Q I q=>wpAny_tests_one (h pins s σ H Q I q)
noncomputable def B9(wi:TI)(tt:TT)(te:TE):TE:=λσ H Q=>wi σ H λJ H1=>∃W:Nat->Nat->List V->Hp->Prop,(∃m,W 0 m [] H1)/\∀i m acc H,W i m acc H->
 (J.stop i H/\∀p,H p=none->Q (.ref p) (upd H p (.lst acc)))\/(J.go i H/\acc.length<sizeLine/\∀y H',J.yld i H y H'->tt (some y::σ) H' λb H2=>
   if b=true then te (some y::σ) H2 λz H3=>∃m',m'<m/\W (i+1) m' (acc++[z]) H3 else∃m',m'<m/\W (i+1) m' acc H2)
section
variable{X:Cx}{sc:Scope}{x:Str}{ys:List Str}{px:Pos}{elt iter:Expr}{ifs:List Expr}{pos:Pos}{wi:TI}{tt:TT}{te:TE}
noncomputable def lobj(its:List Value)(n:Nat):Obj:={cls:=.type "list",data:=.seq its.toArray n}
theorem uT{M:Value->Env->Result->Shared->Prop}{pins:List (Addr×Obj)}{σ:St}{H:Hp}{s:Shared}{E:Value->Shared->Prop}(hc:X.calm=true)(cs:gJ X.env.scope X.N sc x ys)(I:Inv X pins σ H s)
  (ht:∀ex C s H,B8 (X.lF sc x ys ex C s H) ifs tt)(he:∀ex C s H,PE (X.lF sc x ys ex C s H) elt te)
  {it:Addr}{fp:List Addr}{tn:Nat->Heap->Prop}{J:It}(T:Turn X.prog X.w X.K (.Name x px) J fp it tn)(st:tn 0 s.heap)(hf:∀b∈fp,jv X pins H b)
  {W:Nat->Nat->List V->Hp->Prop}{m0:Nat}(w0:W 0 m0 [] H){F:List V->Hp->Prop}
  (turn:∀i m acc H,W i m acc H->(J.stop i H/\F acc H)\/(J.go i H/\acc.length<sizeLine/\∀y H',J.yld i H y H'->tt (some y::σ) H' λb H2=>
    if b=true then te (some y::σ) H2 λz H3=>∃m',m'<m/\W (i+1) m' (acc++[z]) H3 else∃m',m'<m/\W (i+1) m' acc H2))
  (hM:∀(D C:Addr) (er:Env) (s':Shared) (acc:List V) (H':Hp) (its:List Value) (n:Nat),er.locals=C->D≠C->s.heap.objs.size<=D->s.heap.objs.size<=C->Inv (X.lF sc x ys fp C s H) [(D,lobj its n)] (none::σ) H' s'->Vals acc its->acc.length<=sizeLine->F acc H'->
    M (.ref D) er (.ok .next) s'):
  wpAny (model X.prog X.w) X.A (newList []) (λacc s₃=>wpAny (model X.prog X.w) X.A (newFunctionEnv sc X.env.globals (kO sc X.env) [] X.env.qual none .none (some X.env)) (λer s₄=>
   codeAny (model X.prog X.w) X.A (.compStart (.ListComp elt [⟨.Name x px,iter,ifs,0⟩] sc pos) 0 (.ref it) acc {er with scope:=relabel sc X.env}) (M acc er) s₄) E s₃) E s:=by
 have eS:∀b∈fp,b<s.heap.objs.size:=λb hb=>by
  obtain⟨o,e,_⟩:=T.obj 0 _ st b hb
  exact Heap.lt_size e
 refine wpAny_newObj_type (wpAny_newFunctionEnv cs.nocell (by intro y hy;simp at hy) (λh1 ED Fg=>?_) cs.kind)
 dsimp only at ED Fg⊢
 generalize wV:s.heap.push {cls:=.type "list",dict:=none,data:=.seq ([]:List Value).toArray}=h2 at ED Fg⊢
 have hC:h2.objs.size=s.heap.objs.size+1:=by rw[<-wV,Heap.size_push]
 have qf:s.heap.objs.size≠h2.objs.size:=by omega
 have old:∀b o,s.heap.get? b=some o->h1.get? b=some o:=λb o e=>by
  have hb:=Heap.lt_size e
  rw[Fg.2 b (by rw[hC];exact Nat.ne_of_lt (Nat.lt_succ_of_lt hb))]
  exact Heap.get?_push_of_some _ (wV▸Heap.get?_push_of_some _ e)
 have hD:h1.get? s.heap.objs.size=some (lobj [] 0):=by
  rw[Fg.2 _ qf]
  exact Heap.get?_push_of_some _ (wV▸Heap.get?_push_size _ rfl)
 generalize QY:h2.objs.size=C at*
 have wW:s.heap.objs.size<=C:=by omega
 have oI:∀b,s.heap.objs.size<=b->H b=none:=λb hb=>I.dR.fresh hb
 have zU:∀b,s.heap.objs.size<=b->b∉wu X.stack:=λb hb z=>by
  obtain⟨_,o,ho,_⟩:=(I.stack).mem z
  exact absurd (Nat.lt_of_lt_of_le (Heap.lt_size ho) hb) (Nat.lt_irrefl _)
 have I0:Inv (X.lF sc x ys fp C s H) [(s.heap.objs.size,lobj [] 0)] (none::σ) H {s with heap:=h1,toks:=s.toks+([]:List (Str×Value)).length}:=by
  refine⟨Jh cs I hf eS wW,rfl,I.bare,Un.kept old,⟨_,ED,λi y v e1 e2 e3=>?_⟩,λy c e=>?_,oI _ wW,λy c e=>I.freeC y c (cs.cl I e).1,λp hp=>?_,I.dR.kept old,?_⟩
  ·cases i with
   |zero=>cases e2
   |succ i=>
    have Hn:ys[i]?=some y:=e1
    have M3:σ[i]?=some (some v):=e2
    have Hq:(relabel sc X.env).names.lookup y=some .local\/(relabel sc X.env).names.lookup y=some .cell\/(relabel sc X.env).names.lookup y=some .free:=e3
    have Ji:sc.names.lookup y=some .free:=by
     rcases Hq with h|h|h
     ·rcases aY h with h1|⟨_,h1⟩
      ·exact absurd h1 (cs.nl y (List.mem_of_getElem? Hn))
      ·cases h1
     ·rcases aY h with h1|⟨h1,_⟩
      ·exact absurd rfl (cs.nocell _ (PySem.mem_of_lookup h1))
      ·exact h1
     ·rcases aY h with h1|⟨h1,_⟩
      ·exact h1
      ·exact h1
    have hi:i<X.N.length:=by
     rw[<-cs.len]
     exact(List.getElem?_eq_some_iff.mp Hn).1
    have hN:X.N[i]?=some y:=by
     have hz:(ys.zip X.N)[i]?=some (y,X.N[i]):=by
      rw[List.getElem?_zip_eq_some]
      exact⟨Hn,List.getElem?_eq_getElem hi⟩
     have:=cs.pl _ (List.mem_of_getElem? hz) Ji
     dsimp only at this
     rw[this]
     exact List.getElem?_eq_getElem hi
    have wX:(y,NameKind.free)∈sc.names:=PySem.mem_of_lookup Ji
    obtain⟨m,hn,hl⟩:=I.loc
    obtain⟨u,r,lk⟩:=hl i y v hN M3 (.inr (cs.free _ wX rfl))
    refine⟨u,r,.inr ⟨?_,?_⟩⟩
    ·rcases Hq with h|h
     ·rcases aY h with h1|⟨_,h1⟩
      ·rw[Ji]at h1
       cases h1
      ·cases h1
     ·exact h
    ·rcases lk with⟨k,_⟩|⟨_,c,e,z⟩
     ·rcases cs.free _ wX rfl with h|h
      ·have k':X.env.scope.names.lookup y=some .local:=k
       rw[h]at k'
       cases k'
      ·have k':X.env.scope.names.lookup y=some .local:=k
       rw[h]at k'
       cases k'
     ·obtain⟨c',G2⟩:=oG X.env sc.names [] y (.inl wX)
      have:c'=c:=by
       have:=(cs.cl I (show(kO sc X.env).lookup y=some c' from G2)).1
       rw[e]at this
       exact(Option.some.inj this).symm
      subst this
      obtain⟨o,ho,hd⟩:=z
      exact⟨c',G2,o,old _ _ ho,hd⟩
  ·obtain⟨v,o,ho,hd⟩:=I.cell y c (cs.cl I e).1
   exact⟨v,o,old _ _ ho,hd⟩
  ·obtain rfl:p=(s.heap.objs.size,lobj [] 0):=by simpa using(show p∈([]:List (Addr×Obj))++[(s.heap.objs.size,lobj [] 0)]from hp)
   exact⟨hD,oI _ (Nat.le_refl _),qf,zU _ (Nat.le_refl _),λv z=>by cases z⟩
  ·show(none::σ).length=(x::ys).length
   rw[List.length_cons,List.length_cons,I.len,cs.len]
 have Jj:s.heap.objs.size∉fp:=λz=>Nat.lt_irrefl _ (eS _ z)
 have Jk:∀{f6:List (Addr×Obj)} {H':Hp} {s':Shared} {σ':St},Inv (X.lF sc x ys fp C s H) f6 σ' H' s'->(∀b∈fp,H' b=none)->(∀p∈f6,p.1∉fp)->∀b∈fp,jv (X.lF sc x ys fp C s H) f6 H' b:=λ{f6 H' s' σ'} I' hn hp b hb=>
  ⟨hn b hb,(I'.ok.exf b hb).1,I'.ok.exfs b hb,.inl hb,(I'.ok.exf b hb).2,λp Jl z=>by
    have Jm:p∈f6:=by simpa using(show p∈([]:List (Addr×Obj))++f6 from Jl)
    exact hp p Jm (z▸hb)⟩
 have loop:∀s3:Shared,s3={s with heap:=h1,toks:=s.toks+([]:List (Str×Value)).length}->∀er:Env,er.locals=C->
   codeAny (model X.prog X.w) X.A (.compLoop (.ListComp elt [⟨.Name x px,iter,ifs,0⟩] sc pos) 0 (.ref it) (.ref s.heap.objs.size) (compEnvC sc (kO sc X.env) C X.env)) (M (.ref s.heap.objs.size) er) s3:=by
  rintro s3 rfl er wY
  refine codeAny_compLoop_tests (λm s'=>∃i acc H' its n,Inv (X.lF sc x ys fp C s H) [(s.heap.objs.size,lobj its n)] (none::σ) H' s'/\Vals acc its/\acc.length<=sizeLine/\tn i s'.heap/\(∀b∈fp,H' b=none)/\W i m acc H') ?_ m0
   ⟨0,[],H,[],0,I0,.nil,Nat.zero_le _,T.keep 0 _ _ st λb hb o e=>old b o e,λb hb=>(hf b hb).1,w0⟩
  rintro m s' ⟨i,acc,H',its,n,I1,rv,hz,LK,LL,w1⟩
  have Jn:∀p∈[(s.heap.objs.size,lobj its n)],p.1∉fp:=λp hp=>by
   obtain rfl:p=(s.heap.objs.size,lobj its n):=by simpa using hp
   exact Jj
  rcases turn i m acc H' w1 with⟨stop,fin⟩|⟨go,QZ,step⟩
  ·refine wpAny_mono (T.done (X.lF sc x ys fp C s H) rfl rfl rfl hc i _ s' _ H' (λ_ _=>False) I1 (Jk I1 LL Jn) LK stop) (λr s4 ⟨hr,I4⟩=>?_) (λ_ _ z=>z.elim)
   subst hr
   exact hM _ C er s4 acc H' its n wY qf (Nat.le_refl _) wW I4 rv hz fin
  ·refine wpAny_mono (T.item (X.lF sc x ys fp C s H) rfl rfl rfl hc i _ s' _ H' (λ_ _=>False) I1 (Jk I1 LL Jn) LK go) (λr s4 bW=>?_) (λ_ _ z=>z.elim)
   obtain⟨u,hr,h4⟩:=bW
   subst hr
   dsimp only
   have e0:∀env:Env,(letOwnedTupleGo (.Name x px) (.ref it) u>>=λ_=>assign (.Name x px) env u)=assign (.Name x px) env u:=λenv=>by
    rw[show letOwnedTupleGo (.Name x px) (.ref it) u=pure ()from rfl,pure_bind]
   rw[<-e0]
   refine wpAny_bind (wpAny_mono h4 (λ_ s5 bW=>?_) (λ_ _ z=>z.elim))
   obtain⟨y,H5,I5,r5,y5,iu,KY⟩:=bW
   have KZ:=I5.pinned (Jk I5 KY Jn) (T.obj _ _ iu)
   have xl:(X.lF sc x ys fp C s H).env.scope.names.lookup x=some .local:=lookup_relabel_local cs.xloc
   refine wpAny_assign_Name (oj KZ cs.nd (i:=0) rfl (.inl xl) r5 (λs6 I6=>?_) (.inr xl))
   refine wpAny_mono (ht fp C s H _ s6 (some y::σ) H5 _ I6 (step y H5 y5)) (λb s7 bW=>?_) (λ_ _ z=>z.elim)
   obtain⟨H7,I7,q7⟩:=bW
   have yB:∀{H':Hp} {s':Shared} {σ':St} {pl:List (Addr×Obj)},Inv (X.lF sc x ys fp C s H) (pl++eT fp s5.heap) σ' H' s'->tn (i+1) s'.heap/\∀b∈fp,H' b=none:=λ{H' s' σ' pl} I'=>by
    refine⟨T.keep _ _ _ iu λb hb o e=>(I'.pin (b,o) (List.mem_append_right _ (List.mem_append_right _ (fG hb e)))).1,λb hb=>?_⟩
    obtain⟨o,e,d⟩:=T.obj _ _ iu b hb
    exact(I'.pin (b,o) (List.mem_append_right _ (List.mem_append_right _ (fG hb e)))).2.1
   have wk:∀{H':Hp} {s':Shared} {pl:List (Addr×Obj)},Inv (X.lF sc x ys fp C s H) pl (some y::σ) H' s'->Inv (X.lF sc x ys fp C s H) pl (none::σ) H' s':=λ{H' s' pl} I'=>I'.weak (by simp) λj v e=>by
    cases j with
    |zero=>cases e
    |succ j=>exact e
   cases b with
   |false=>
    rw[if_neg Bool.false_ne_true]at q7
    obtain⟨m',hm,w7⟩:=q7
    obtain⟨t7,f7⟩:=yB I7
    exact⟨m',hm,i+1,acc,H7,its,n,wk I7.lB,rv,hz,t7,f7,w7⟩
   |true=>
    rw[if_pos rfl]at q7
    refine wpAny_mono (he fp C s H _ s7 (some y::σ) H7 _ I7 q7) (λu8 s8 ⟨z,H8,I8,r8,m',hm,w8⟩=>?_) (λ_ _ z=>z.elim)
    obtain⟨t8,f8⟩:=yB I8
    obtain⟨p1,p2,p3,p4,p5⟩:=I8.pin (s.heap.objs.size,lobj its n) (List.mem_append_right _ (List.mem_append_left _ (List.mem_singleton.mpr rfl)))
    have hl:=rv.length
    refine wpAny_list_append_plain (items:=its.toArray) ⟨n,p1⟩ (λh9 Oj sb9=>?_) (by rw[List.size_toArray];omega)
    obtain⟨n9,e9⟩:=Oj
    have Ol:h9.get? s.heap.objs.size=some (lobj (its++[u8]) n9):=by
     rw[e9]
     unfold lobj
     simp
    have Ia:Inv (X.lF sc x ys fp C s H) (eT fp s5.heap) (none::σ) H8 s8:=(wk I8).dZ λp hp=>I8.pin p (List.mem_append_right _ (List.mem_append_right _ hp))
    have Ib:Inv (X.lF sc x ys fp C s H) (eT fp s5.heap) (none::σ) H8 {s8 with heap:=h9,toks:=s8.toks}:=Ia.turned (it:=s.heap.objs.size) (λb o hb e=>(sb9.2 b hb).trans e) p2 p3 (.inr (Nat.le_refl _))
     (λy c e z=>by
       obtain⟨v,o,ho,_⟩:=I.cell y c (cs.cl I e).1
       exact absurd (Heap.lt_size ho) (by rw[z];exact Nat.lt_irrefl _))
     (λp hp z=>by
       have Jl:p∈eT fp s5.heap:=by simpa using(show p∈([]:List (Addr×Obj))++eT fp s5.heap from hp)
       exact Jj (z▸(mn Jl).1))
    refine⟨m',hm,i+1,acc++[z],H8,its++[u8],n9,Ib.dZ λp hp=>?_,rv.append (.cons r8 .nil),?_,T.keep _ _ _ t8 λb hb o e=>?_,f8,w8⟩
    ·obtain rfl:p=(s.heap.objs.size,lobj (its++[u8]) n9):=by simpa using hp
     exact⟨Ol,p2,p3,p4,λv z=>by cases z⟩
    ·rw[List.length_append,List.length_singleton]
     omega
    ·exact(sb9.2 b (λz=>Jj (z▸hb))).trans e
 exact codeAny_compStart_list (loop _ rfl _ rfl) (T.self _ 0 _ _ _ (T.keep 0 _ _ st λb hb o e=>old b o e) (loop _ rfl _ rfl))
end
section
variable{X:Cx}{sc:Scope}{x:Str}{ys:List Str}{px:Pos}{elt iter:Expr}{ifs:List Expr}{pos:Pos}{wi:TI}{tt:TT}{te:TE}
theorem comp_back{pins:List (Addr×Obj)}{σ σ':St}{H H':Hp}{s s':Shared}(cs:gJ X.env.scope X.N sc x ys)(I:Inv X pins σ H s){fp:List Addr}(hf:∀b∈fp,jv X pins H b){D C:Addr}{its:List Value}{n:Nat}{acc:List V}
  (I':Inv (X.lF sc x ys fp C s H) [(D,lobj its n)] σ' H' s')(qf:D≠C)(hD:s.heap.objs.size<=D)(hC:s.heap.objs.size<=C)(rv:Vals acc its)(hz:acc.length<=sizeLine){h':Heap}(sb:Heap.SameBut C s'.heap h'):
  Inv X pins σ (upd H' D (.lst acc)) {s' with heap:=h'}:=by
 obtain⟨p1,p2,p3,p4,p5⟩:=I'.pin (D,lobj its n) (List.mem_append_right _ (List.mem_singleton.mpr rfl))
 have below:∀b o,s.heap.get? b=some o->b≠D/\b≠C:=λb o e=>⟨Nat.ne_of_lt (Nat.lt_of_lt_of_le (Heap.lt_size e) hD),Nat.ne_of_lt (Nat.lt_of_lt_of_le (Heap.lt_size e) hC)⟩
 have U:Un (wu X.stack) fp H H' s.heap s'.heap:=I'.base
 have gc:H' C=none:=I'.free
 refine I.G3 (ch:=fp) I'.os ⟨λb o e n hb hx=>?_,λb o e n hb hx=>?_,λb o e n hx=>?_,λb o e hx=>?_,λb xs e=>?_,λb o u e=>?_,λb ps e=>?_⟩ (λb o e=>?_) I'.bare λb hb=>⟨(hf b hb).2.2.2.1,(hf b hb).2.1,(hf b hb).2.2.2.2.1,(hf b hb).2.2.2.2.2⟩
 ·exact(sb.2 b (below b o e).2).trans (U.keep b o e n hb hx)
 ·obtain⟨sl,q⟩:=U.slot b o e n hb hx
  exact⟨sl,(sb.2 b (below b o e).2).trans q⟩
 ·rw[au (below b o e).1]
  exact U.free b o e n hx
 ·obtain⟨o',q⟩:=U.there b o e hx
  exact⟨o',(sb.2 b (below b o e).2).trans q⟩
 ·rw[au (aW (U.nG b xs e) p2)]
  exact U.nG b xs e
 ·rw[au (aW (U.mh b o u e) p2)]
  exact U.mh b o u e
 ·obtain⟨more,q⟩:=U.p9 b ps e
  exact⟨more,by rw[au (aW q p2)];exact q⟩
 ·by_cases hb:b=D
  ·subst hb
   rw[aO]at e
   cases e
   exact⟨hz,its,n,rv,(sb.2 b qf).trans p1⟩
  ·rw[au hb]at e
   refine(I'.dR b o e).p7 (λc v hc q=>(sb.2 c ?_).trans q) (λc q=>?_) λc xs q=>?_
   ·rintro rfl
    rcases hc with hc|hc
    ·rw[hc,e]at gc
     cases gc
    ·rw[hc]at gc
     cases gc
   ·rw[au (aW q p2)]
    exact q
   ·rw[au (aW q p2)]
    exact q
theorem SameBut.LN(a:Addr)(h:Heap):Heap.SameBut a h h:=⟨rfl,λ_ _=>rfl⟩
theorem yC(hi:PI X (.Name x px) iter wi)(ys:List Str)(ht:∀ex C s H,B8 (X.lF sc x ys ex C s H) ifs tt)(he:∀ex C s H,PE (X.lF sc x ys ex C s H) elt te)(qg:iZ X.env.scope X.N sc x ys=true)(hc:autoParam (X.calm=true) zR._auto_1)
  (hs:autoParam (∀x,foldedSetIterable iter X.env x=pure x) zI._auto_1):PE X (.ListComp elt [⟨.Name x px,iter,ifs,0⟩] sc pos) (B9 wi tt te):=by
 have cs:=gJ.of qg
 intro pins s σ H Q I h
 rw[eval_ListComp]
 refine wpAny_comprehension_free (use:=none) (cl:=kO sc X.env) rfl hs (nT λp hp hk=>cs.cell I (by rw[<-hk];exact hp)) cs.kind cs.locs ?_
 refine dz (hi pins s σ H _ I h) λv s1 h1=>dz h1 λKo s2 h2=>?_
 obtain⟨it,fp,tn,J,H2,rfl,I2,T,bL,f2,W,⟨m0,w0⟩,turn⟩:=h2
 refine uT (M:=λacc er=>compPost (model X.prog X.w) X.A X.xe none (EP X pins σ Q) acc er.locals) hc cs I2 ht he T bL f2 w0 (F:=λacc H=>∀p,H p=none->Q (.ref p) (upd H p (.lst acc))) turn λD C er s' acc H' its n wY qf hD hC I' rv hz q=>?_
 obtain⟨m,hn,_⟩:=I'.loc
 refine⟨m,by rw[wY];exact hn,λh' sb=>?_⟩
 rw[wY]at sb
 exact⟨.ref D,_,comp_back cs I2 f2 I' qf hD hC rv hz sb,rfl,q D (I'.pin (D,lobj its n) (List.mem_append_right _ (List.mem_singleton.mpr rfl))).2.1⟩
theorem sM{i:Nat}{y:Str}{py jz:Pos}(hN:X.N.Nodup)(Ca:X.N[i]?=some y)(hy:X.env.scope.names.lookup y=some .local)(hi:PI X (.Name x px) iter wi)(ys:List Str)(ht:∀ex C s H,B8 (X.lF sc x ys ex C s H) ifs tt)(he:∀ex C s H,PE (X.lF sc x ys ex C s H) elt te)
  (qg:iZ X.env.scope X.N sc x ys=true)(hc:autoParam (X.calm=true) zR._auto_1)(hs:autoParam (∀x,foldedSetIterable iter X.env x=pure x) zI._auto_1)
  (Cb:autoParam (swapsWith (.ListComp elt [⟨.Name x px,iter,ifs,0⟩] sc pos) (some (.Name y py)) jz.line X.env=pure true) zR._auto_1):
  PS X (.Assign [.Name y py] (.ListComp elt [⟨.Name x px,iter,ifs,0⟩] sc pos) jz) (λD σ H=>B9 wi tt te σ H λv H1=>D.nx (σ.set i (some v)) H1):=by
 have cs:=gJ.of qg
 intro pins s σ H D I h
 rw[exec_Assign_Name_used _ _ _ _ Cb]
 refine wpAny_bind (wpAny_standAt (wpAny_bind ?_))
 show wpAny _ X.A (do let _<-comprehension (.ListComp elt [⟨.Name x px,iter,ifs,0⟩] sc pos) sc X.env _ (newList []) false (eval iter X.env) (some (assign (.Name y py) X.env))) _ _ s
 refine wpAny_bind (wpAny_mono (wpAny_comprehension_free (use:=some (assign (.Name y py) X.env)) (cl:=kO sc X.env) (Q:=λ_ s'=>SP X pins D .next s') rfl hs (nT λp hp hk=>cs.cell I (by rw[<-hk];exact hp)) cs.kind cs.locs ?_) (λ_ s' hq=>wpAny_pure (wpAny_pure hq)) λ_ _ e=>e)
 refine dz (hi pins s σ H _ I h) λv s1 h1=>dz h1 λKo s2 h2=>?_
 obtain⟨it,fp,tn,J,H2,rfl,I2,T,bL,f2,W,⟨m0,w0⟩,turn⟩:=h2
 refine uT (M:=λacc er=>compPost (model X.prog X.w) X.A X.xe (some (assign (.Name y py) X.env)) (λ_ s'=>SP X pins D .next s') acc er.locals) hc cs I2 ht he T bL f2 w0
  (F:=λacc H=>∀p,H p=none->D.nx (σ.set i (some (.ref p))) (upd H p (.lst acc))) turn λDa C er s' acc H' its n wY qf hD hC I' rv hz q=>?_
 obtain⟨m,hn,_⟩:=I'.loc
 have Io:=comp_back cs I2 f2 I' qf hD hC rv hz (SameBut.LN C s'.heap)
 have LO:C≠X.env.locals:=λe=>absurd (Nat.lt_of_lt_of_le I2.lt hC) (by rw[e];exact Nat.lt_irrefl _)
 have LP:∀z c,X.env.cells.lookup z=some c->c≠C:=λz c e e'=>by
  obtain⟨v,o,ho,_⟩:=I2.cell z c e
  exact absurd (Nat.lt_of_lt_of_le (Heap.lt_size ho) hC) (by rw[e'];exact Nat.lt_irrefl _)
 refine wpAny_assign_Name (mi (v:=.ref Da) Io hN Ca (.inl hy) rfl (λIG Om bW=>?_) (.inr hy))
 obtain⟨a,sb,ha⟩:=bW
 have Oo:C≠a:=by
  rcases ha with e|e
  ·rw[e]
   exact LO
  ·exact(LP y a e).symm
 refine⟨m,by rw[wY];exact hn.sameBut sb Oo,λh' LQ=>?_⟩
 rw[wY]at LQ
 have gc:(upd H' Da (.lst acc)) C=none:=by
  rw[au qf.symm]
  exact I'.free
 refine⟨_,_,Om.turned (t':=IG.toks) (it:=C) (λb o hb e=>(LQ.2 b hb).trans e) gc LO (.inr (Nat.le_trans I2.sz hC)) LP (λp hp e=>?_),q Da (I'.pin (Da,lobj its n) (List.mem_append_right _ (List.mem_singleton.mpr rfl))).2.1⟩
 exact absurd (Nat.lt_of_lt_of_le (Heap.lt_size (I2.pin p hp).1) hC) (by rw[e];exact Nat.lt_irrefl _)
end
end L2
namespace L2
open PySem PySem.Spec PyProof.Rows PySem.SeqAt
section
variable{X:Cx}{pins:List (Addr×Obj)}{σ:St}{H:Hp}{s:Shared}{a b:Addr}{xs ys:List V}{A:Around}
theorem Cc(I:Inv X pins σ H s)(ha:fQ X.K H a xs)(hb:fQ X.K H b ys)(hu:A.units<cLine)(q:Nat->Bool)
  (hq:∀(j:Nat) x y u v,xs[j]?=some x->ys[j]?=some y->RelV x u->RelV y v->EqAt A.in1 s u v (q j)):RcAt A s (.ref a) (.ref b) (decide (xs.length=ys.length)&&(List.range xs.length).all q):=by
 obtain⟨its,r1,p1,z1⟩:=I.list ha
 obtain⟨qh,r2,p2,z2⟩:=I.list hb
 have l1:=r1.length
 have l2:=r2.length
 by_cases hl:xs.length=ys.length
 ·rw[decide_eq_true hl,Bool.true_and]
  have:=RcAt.lists (A:=A) (s:=s) (e:=q) p1.isList p2.isList (by rw[List.size_toArray,List.size_toArray];omega) hu λj h1 h2=>?_
  ·rw[List.size_toArray,<-l1]at this
   exact this
  ·rw[List.size_toArray]at h1 h2
   obtain⟨x,hx⟩:∃x,xs[j]?=some x:=⟨xs[j],List.getElem?_eq_getElem (by omega)⟩
   obtain⟨y,hy⟩:∃y,ys[j]?=some y:=⟨ys[j],List.getElem?_eq_getElem (by omega)⟩
   obtain⟨u,e1,ru⟩:=r1.get hx
   obtain⟨v,e2,rv⟩:=r2.get hy
   have f1:its.toArray[j]=u:=by
    have:=(List.getElem?_eq_some_iff.mp e1).2
    simpa using this
   have f2:qh.toArray[j]=v:=by
    have:=(List.getElem?_eq_some_iff.mp e2).2
    simpa using this
   rw[f1,f2]
   exact hq j x y u v hx hy ru rv
 ·rw[decide_eq_false hl,Bool.false_and]
  exact RcAt.lists_lengths p1.isList p2.isList (by rw[List.size_toArray,List.size_toArray];simp;omega) hu
theorem Cd{α:Type}[DecidableEq α]{ns ms:List α}:(decide (ns.length=ms.length)&&(List.range ns.length).all λj=>decide (ns[j]?=ms[j]?))=decide (ns=ms):=by
 by_cases e:ns=ms
 ·subst e
  simp
 ·rw[decide_eq_false e]
  by_cases hl:ns.length=ms.length
  ·rw[decide_eq_true hl,Bool.true_and]
   rw[<-Bool.not_eq_true,List.all_eq_true]
   intro h
   apply e
   apply List.ext_getElem?
   intro i
   by_cases hi:i<ns.length
   ·exact of_decide_eq_true (h i (List.mem_range.mpr hi))
   ·rw[List.getElem?_eq_none (by omega),List.getElem?_eq_none (by omega)]
  ·rw[decide_eq_false hl]
   rfl
theorem Af{α:Type}[DecidableEq α]{ns ms:List α}{f:α->V}:(decide ((ns.map f).length=(ms.map f).length)&&(List.range (ns.map f).length).all λj=>decide (ns[j]?=ms[j]?))=decide (ns=ms):=by
 rw[List.length_map,List.length_map]
 exact Cd
theorem uU{ns:List Int}{j:Nat}{x:V}(h:(ns.map V.int)[j]?=some x):∃n,ns[j]?=some n/\x=.int n:=by
 rw[List.getElem?_map]at h
 cases e:ns[j]? with
 |none=>
  rw[e]at h
  cases h
 |some n=>
  rw[e]at h
  exact⟨n,rfl,(Option.some.inj h).symm⟩
theorem Ag{ns ms:List Int}(A:Around):∀(j:Nat) x y u v,(ns.map V.int)[j]?=some x->(ms.map V.int)[j]?=some y->RelV x u->RelV y v->EqAt A s u v (decide (ns[j]?=ms[j]?)):=by
 intro j x y u v hx hy ru rv
 obtain⟨n,e1,rfl⟩:=uU hx
 obtain⟨m,e2,rfl⟩:=uU hy
 obtain⟨t,rfl⟩:=ru
 obtain⟨t',rfl⟩:=rv
 have:decide (ns[j]?=ms[j]?)=(n==m):=by
  rw[e1,e2]
  by_cases h:n=m
  ·subst h
   simp
  ·rw[decide_eq_false (by simpa using h)]
   exact(beq_eq_false_iff_ne.mpr h).symm
 rw[this]
 exact EqAt.int_int n t m t'
theorem Ah{ns ms:List Int}(I:Inv X pins σ H s)(ha:fQ X.K H a (ns.map V.int))(hb:fQ X.K H b (ms.map V.int))(hu:A.units<cLine):RcAt A s (.ref a) (.ref b) (decide (ns=ms)):=by
 have:=Cc I ha hb hu (λj=>decide (ns[j]?=ms[j]?)) (Ag A.in1)
 rw[Af]at this
 exact this
theorem yD:∀{ns ms:List Int},ns.map V.int=ms.map V.int->ns=ms
 |[],[],_=>rfl
 |[],_::_,h=>by cases h
 |_::_,[],h=>by cases h
 |n::ns,m::ms,h=>by
  rw[List.map_cons,List.map_cons]at h
  injection h with h1 h2
  injection h1 with h1
  rw[h1,yD h2]
theorem Ai{ns ms:List Int}(I:Inv X pins σ H s)(ha:fQ X.K H a (ns.map V.int))(hb:fQ X.K H b (ms.map V.int))(hu:A.units<cLine):EqAt A s (.ref a) (.ref b) (decide (ns=ms)):=by
 by_cases e:a=b
 ·subst e
  rw[decide_eq_true (yD (I.jt ha hb))]
  exact EqAt.same _
 ·exact EqAt.of_refs e (Ah I ha hb hu)
theorem Fh{bs:List Bool}{j:Nat}{x:V}(h:(bs.map V.bl)[j]?=some x):∃n,bs[j]?=some n/\x=.bl n:=by
 rw[List.getElem?_map]at h
 cases e:bs[j]? with
 |none=>
  rw[e]at h
  cases h
 |some n=>
  rw[e]at h
  exact⟨n,rfl,(Option.some.inj h).symm⟩
theorem range_any(bs:List Bool):(List.range bs.length).any (λi=>bs.getD i false)=bs.any id:=by
 rw[Bool.eq_iff_iff,List.any_eq_true,List.any_eq_true]
 constructor
 ·rintro⟨i,h1,h2⟩
  have hi:=List.mem_range.mp h1
  refine⟨bs[i],List.getElem_mem hi,?_⟩
  rw[List.getD_eq_getElem?_getD,List.getElem?_eq_getElem hi]at h2
  exact h2
 ·rintro⟨b,h1,h2⟩
  obtain⟨i,hi,e⟩:=List.mem_iff_getElem.mp h1
  refine⟨i,List.mem_range.mpr hi,?_⟩
  rw[List.getD_eq_getElem?_getD,List.getElem?_eq_getElem hi,e]
  exact h2
theorem range_all(bs:List Bool):(List.range bs.length).all (λi=>bs.getD i false)=bs.all id:=by
 rw[Bool.eq_iff_iff,List.all_eq_true,List.all_eq_true]
 constructor
 ·intro h b h1
  obtain⟨i,hi,e⟩:=List.mem_iff_getElem.mp h1
  have:=h i (List.mem_range.mpr hi)
  rw[List.getD_eq_getElem?_getD,List.getElem?_eq_getElem hi,e]at this
  exact this
 ·intro h i h1
  have hi:=List.mem_range.mp h1
  rw[List.getD_eq_getElem?_getD,List.getElem?_eq_getElem hi]
  exact h bs[i] (List.getElem_mem hi)
theorem uV{bs:List Bool}{its:List Value}(r:Vals (bs.map V.bl) its){prog:Program}{w:World}{A:Around}:TruthOf prog w A (λi v=>its.toArray[i]?=some v) (λi=>bs.getD i false):=by
 intro i v s Q E hv h
 have MV:its[i]?=some v:=by simpa using hv
 have hl:=r.length
 have hi:=(List.getElem?_eq_some_iff.mp MV).1
 rw[List.length_map]at hl
 obtain⟨x,hx⟩:∃x,(bs.map V.bl)[i]?=some x:=⟨(bs.map V.bl)[i]'(by rw[List.length_map];omega),List.getElem?_eq_getElem _⟩
 obtain⟨u,e,ru⟩:=r.get hx
 rw[MV]at e
 cases e
 obtain⟨n,e2,rfl⟩:=Fh hx
 cases ru
 have h':Q (bs.getD i false) s:=h
 rw[List.getD_eq_getElem?_getD,e2]at h'
 exact wpAny_truthy_bool h'
theorem uW(hc:X.calm=true):gH X (.builtin "any") (λxs H Q=>∃(p:Addr) (bs:List Bool),xs=[.ref p]/\fQ X.K H p (bs.map V.bl)/\Q (.bl (bs.any id)) H):=by
 intro pins s σ H xs us Q I r h
 obtain⟨p,bs,rfl,hq,q⟩:=h
 obtain⟨u,rfl,ru⟩:=vals1 r
 cases ru
 obtain⟨its,rv,pl,hz⟩:=I.list hq
 have qi:p≠s.heap.objs.size:=by
  obtain⟨o,ho,_⟩:=pl.isList
  exact Nat.ne_of_lt (Heap.lt_size ho)
 have hh:X.A.in1.handled=none:=I.ok.hd hc
 refine call_any_walk (wpAny_pyIter_list pl.isList ⟨s.heap.objs.size,_,_,_,_,_,(λi=>bs.getD i false),rfl,Walks.list hh s.heap.objs.size p qi its.toArray,?_,uV rv,λh' tk k=>?_⟩)
 ·exact⟨⟨_,Heap.get?_push_size _ rfl,rfl,rfl⟩,pl.isList.at λo e=>Heap.get?_push_of_some _ e⟩
 ·have hl:=rv.length
  rw[List.length_map]at hl
  rw[List.size_toArray,<-hl,range_any]
  refine⟨.bl _,H,I.kept (t':=tk) λb o e=>k b o (λz=>?_) (Heap.get?_push_of_some _ e),rfl,q⟩
  obtain rfl:b=s.heap.objs.size:=by simpa using z
  exact Nat.lt_irrefl _ (Heap.lt_size e)
theorem uX(hc:X.calm=true):gH X (.builtin "all") (λxs H Q=>∃(p:Addr) (bs:List Bool),xs=[.ref p]/\fQ X.K H p (bs.map V.bl)/\Q (.bl (bs.all id)) H):=by
 intro pins s σ H xs us Q I r h
 obtain⟨p,bs,rfl,hq,q⟩:=h
 obtain⟨u,rfl,ru⟩:=vals1 r
 cases ru
 obtain⟨its,rv,pl,hz⟩:=I.list hq
 have qi:p≠s.heap.objs.size:=by
  obtain⟨o,ho,_⟩:=pl.isList
  exact Nat.ne_of_lt (Heap.lt_size ho)
 have hh:X.A.in1.handled=none:=I.ok.hd hc
 refine call_all_walk (wpAny_pyIter_list pl.isList ⟨s.heap.objs.size,_,_,_,_,_,(λi=>bs.getD i false),rfl,Walks.list hh s.heap.objs.size p qi its.toArray,?_,uV rv,λh' tk k=>?_⟩)
 ·exact⟨⟨_,Heap.get?_push_size _ rfl,rfl,rfl⟩,pl.isList.at λo e=>Heap.get?_push_of_some _ e⟩
 ·have hl:=rv.length
  rw[List.length_map]at hl
  rw[List.size_toArray,<-hl,range_all]
  refine⟨.bl _,H,I.kept (t':=tk) λb o e=>k b o (λz=>?_) (Heap.get?_push_of_some _ e),rfl,q⟩
  obtain rfl:b=s.heap.objs.size:=by simpa using z
  exact Nat.lt_irrefl _ (Heap.lt_size e)
theorem Fi:MX X "int.bit_length" (λx vs H Q=>∃i,x=.int i/\vs=[]/\Q (.int (Builtin.Int.intBits i:Nat)) H):=by
 intro pins s σ H x vs v us Q I rx rv h
 obtain⟨i,rfl,rfl,q⟩:=h
 obtain⟨t,rfl⟩:=rx
 cases rv
 exact call_gives F.slot_int_bit_length (typeIs_int s i t) F.entry_int_bit_length (F.args_int_bit_length_1 _) (AutoIntG2.int_bit_length_int_0 i t) ⟨.int _,H,I.tok _,⟨_,rfl⟩,q⟩
theorem Jo{prog:Program}{w:World}{A:Around}{E:Value->Shared->Prop}{s:Shared}{Q:Value->Shared->Prop}(l:Addr)(items:Array Value)(n:Nat)(x:Int)(u:Tok)(y:Value)(Q0:¬(!Builtin.List.listFitsIndex x)=true)(lz:items.size<=sizeLine)
  (f:Array Value->Array Value)(hf:f=λxs=>(xs.extract 0 (if x<0 then(x+((xs.size:Nat):Int)).toNat else min x.toNat xs.size)).push y++xs.extract (if x<0 then(x+((xs.size:Nat):Int)).toNat else min x.toNat xs.size))
  (e:s.heap.get? l=some {cls:=.type "list",data:=.seq items n})(h:Q .none {s with heap:=s.heap.update l (Obj.mapSeq f),toks:=s.toks}):wpAny (model prog w) A (call (.builtin "list.insert") [.ref l,.int x u,y]) Q E s:=by
 subst hf
 exact call_meets F.slot_list_insert ⟨_,e,rfl⟩ F.entry_list_insert (F.args_list_insert_3 _ _ _) (AutoListH.list_insert_list_int_val_1 l items n x u y Q0 lz) ⟨e,h⟩
theorem Aj:Pt X "list.insert" (λx vs H Q=>∃(l:Addr) (xs:List V) (k:Nat) (y:V),x=.ref l/\vs=[.int k,y]/\H l=some (.lst xs)/\k<=xs.length/\xs.length<sizeLine/\Q .non (upd H l (.lst (xs.take k++y::xs.drop k)))):=by
 intro pins s σ H x vs v us Q I rx rv h
 obtain⟨l,xs,k,y,rfl,rfl,hH,hk,hz,q⟩:=h
 cases rx
 obtain⟨u1,u2,rfl,r1,r2⟩:=rv.two
 obtain⟨t,rfl⟩:=r1
 obtain⟨z,its,n,r,hl,e⟩:=I.Lx hH
 have Sr:(sizeLine:Nat)<2^63:=kK
 have Oq:¬(!Builtin.List.listFitsIndex (k:Int))=true:=by
  have:Builtin.List.listFitsIndex (k:Int)=true:=by
   unfold Builtin.List.listFitsIndex
   simp only[Bool.and_eq_true,decide_eq_true_eq]
   omega
  rw[this]
  decide
 refine Jo l its.toArray n (k:Int) t u2 Oq (by rw[List.size_toArray];omega) _ rfl e ⟨.non,_,I.Lw (its':=its.take k++u2::its.drop k) hH e ?_ (Vals.append (r.take k) (.cons r2 (r.drop k))) ?_,rfl,q⟩
 ·rw[if_neg (by omega),List.size_toArray,show min (Int.toNat (k:Int)) its.length=k by omega]
  apply Array.ext'
  simp
  exact List.take_of_length_le (by rw[List.length_drop];exact Nat.le_refl _)
 ·rw[List.length_append,List.length_cons,List.length_take,List.length_drop]
  omega
end
section
open PySem.AutoSeq1 (wpAny_loadPart')
open PySem.MeetsSeq PySem.MeetsSeq2 PySem.MeetsSeq3
theorem Fj(l b:Addr)(items dk:Array Value)(n n2:Nat)(dd Ku:Option Addr)(sl Kv:Array (Option Value))(ns ms:List Int)(hi:IntsAre items.toList ns)(hj:IntsAre dk.toList ms)(k:Nat):
  ∀i:Nat,items.size-i=k->i<=items.size->i<=dk.size->Meets (Builtin.«list.__eq__.loop» ⟨[.ref l,.ref b,rawInt i,rawInt 0],[]⟩)
   (λA R s=>s.heap.get? l=some {cls:=.type "list",dict:=dd,data:=.seq items n,slots:=sl}/\s.heap.get? b=some {cls:=.type "list",dict:=Ku,data:=.seq dk n2,slots:=Kv}/\
     R (.ok (.ret (.bool (HT.lexLt (ns.drop i) (ms.drop i))))) s):=by
 have z1:items.size=ns.length:=by rw[<-hi.length];simp
 have z2:dk.size=ms.length:=by rw[<-hj.length];simp
 induction k with
 |zero=>
  intro i hk h1 h2 prog w A R s h
  obtain⟨hp,g,d,tk,os⟩:=s;obtain⟨hl,hb,h⟩:=h
  wp_walk using wpAny_loadPart' hl,wpAny_loadPart' hb
  have e1:items[((i:Nat):Int).toNat]?=none:=by simp;omega
  have d1:ns.drop i=[]:=List.drop_eq_nil_of_le (by omega)
  rw[d1]at h
  have hv:HT.lexLt [] (ms.drop i)=decide (items.size<dk.size):=by
   by_cases hm:i<ms.length
   ·rw[List.drop_eq_getElem_cons hm,HT.ot]
    exact(decide_eq_true (by omega)).symm
   ·rw[List.drop_eq_nil_of_le (by omega),HT.qc]
    exact(decide_eq_false (by omega)).symm
  rw[hv]at h
  rw[e1]
  wp_walk using wpAny_loadPart' hl,wpAny_loadPart' hb
  exact h
 |succ k ih=>
  intro i hk h1 h2 prog w A R s h
  obtain⟨hp,g,d,tk,os⟩:=s;obtain⟨hl,hb,h⟩:=h
  wp_walk using wpAny_loadPart' hl,wpAny_loadPart' hb
  have eS:i<items.size:=by omega
  have e1:items[((i:Nat):Int).toNat]?=some items[i]:=by simp[eS]
  have dn:ns.drop i=ns[i]::ns.drop (i+1):=List.drop_eq_getElem_cons (by omega)
  by_cases hm:i<dk.size
  ·have e2:dk[((i:Nat):Int).toNat]?=some dk[i]:=by simp[hm]
   have dm:ms.drop i=ms[i]::ms.drop (i+1):=List.drop_eq_getElem_cons (by omega)
   rw[dn,dm,HT.kM]at h
   rw[e1,e2]
   obtain⟨t,f1⟩:=hi.get i ns[i] (List.getElem?_eq_getElem (by omega))
   obtain⟨u,f2⟩:=hj.get i ms[i] (List.getElem?_eq_getElem (by omega))
   have PN:items[i]=.int ns[i] t:=by
    have:=(List.getElem?_eq_some_iff.mp f1).2
    simpa using this
   have PQ:dk[i]=.int ms[i] u:=by
    have:=(List.getElem?_eq_some_iff.mp f2).2
    simpa using this
   have hc:((i:Int)+1)=((i+1:Nat):Int):=by push_cast;rfl
   rw[PN,PQ]
   obtain⟨e,he,LR⟩:=HT.BN A.in1 ⟨hp,g,d,tk,os⟩ ns[i] t ms[i] u
   refine wpAny_bind (he prog w _ _ ?_)
   cases e with
   |true=>
    rw[if_pos (LR.mp rfl)]at h
    wp_walk
    rw[hc]
    exact⟨plainId_quiet plain_eq_loop _,codeAny_builtin entry_eq_loop (by
     rw[Around.under_plainId plain_eq_loop _]
     exact ih (i+1) (by omega) (by omega) (by omega) prog w A R _ ⟨hl,hb,h⟩)⟩
   |false=>
    rw[if_neg (λq=>absurd (LR.mpr q) Bool.false_ne_true)]at h
    wp_walk using wpAny_loadPart' hl,wpAny_loadPart' hb
    rw[e1,e2]
    rw[PN,PQ]
    have Q1:=HT.BO A.in1 ⟨hp,g,d,tk,os⟩ ns[i] t ms[i] u prog w
    wp_walk using Q1
    exact h
  ·have e2:dk[((i:Nat):Int).toNat]?=none:=by simp;omega
   have dm:ms.drop i=[]:=List.drop_eq_nil_of_le (by omega)
   rw[dn,dm,HT.ou]at h
   have hv:false=decide (items.size<dk.size):=(decide_eq_false (by omega)).symm
   rw[hv]at h
   rw[e1,e2]
   wp_walk using wpAny_loadPart' hl,wpAny_loadPart' hb
   exact h
theorem sN(l b:Addr)(items dk:Array Value)(n n2:Nat)(dd Ku:Option Addr)(sl Kv:Array (Option Value))(ns ms:List Int)(hi:IntsAre items.toList ns)(hj:IntsAre dk.toList ms):
  Meets (Builtin.«list.__lt__» ⟨[.ref l,.ref b],[]⟩)
   (λA R s=>s.heap.get? l=some {cls:=.type "list",dict:=dd,data:=.seq items n,slots:=sl}/\s.heap.get? b=some {cls:=.type "list",dict:=Ku,data:=.seq dk n2,slots:=Kv}/\
     R (.ok (.ret (.bool (HT.lexLt ns ms)))) s):=by
 intro prog w A R s h
 obtain⟨hp,g,d,tk,os⟩:=s;obtain⟨hl,hb,h⟩:=h
 have f3:=AutoSeq1.sub_list_list
 wp_walk using wpAny_loadPart' hl,wpAny_loadPart' hb
 exact⟨plainId_quiet plain_eq_loop _,codeAny_builtin entry_eq_loop (by
  rw[Around.under_plainId plain_eq_loop _]
  exact Fj l b items dk n n2 dd Ku sl Kv ns ms hi hj _ 0 rfl (Nat.zero_le _) (Nat.zero_le _) prog w A R _ ⟨hl,hb,by simpa using h⟩)⟩
noncomputable def LS(A:Around)(s:Shared)(y x:Value)(r:Bool):Prop:=
 ∀(prog:Program) (w:World) (E:Value->Shared->Prop) (Q:Value->Shared->Prop),Q (.bool r) s->wpAny (model prog w) A (richCompare .Lt y x) Q E s
theorem wZ{A:Around}{s:Shared}{l b:Addr}{items dk:Array Value}{ns ms:List Int}(hl:s.heap.IsList l items)(hb:s.heap.IsList b dk)(hi:IntsAre items.toList ns)(hj:IntsAre dk.toList ms)(hu:A.units<cLine):LS A s (.ref l) (.ref b) (HT.lexLt ns ms):=λprog w E Q h=>by
 obtain⟨⟨cls,dd,data,sl⟩,ho,hc,n,hd⟩:=id hl
 obtain⟨⟨Q2,Ku,data2,Kv⟩,M6,M7,n2,hd2⟩:=id hb
 simp only at hc hd M7 hd2
 subst hc hd M7 hd2
 exact richCompare_meets_room (op:=.Lt) ⟨_,ho,rfl⟩ ⟨_,M6,rfl⟩ PySem.F.slot_list_lt PySem.F.entry_list_lt (PySem.F.args_list_lt_2 _ _) (sN l b items dk n n2 dd Ku sl Kv ns ms hi hj)
  ⟨ho,M6,⟨(λx=>nomatch x),h⟩⟩ hu
end
end L2
namespace L2
open PySem PySem.Spec PyProof.Rows
structure eU(ji:Scope)(N:List Str)(sc:Scope)(x z:Str)(ys:List Str):Prop where
 kind:sc.kind=.function
 xloc:sc.names.lookup x=some .local
 zloc:sc.names.lookup z=some .local
 nocell:∀p∈sc.names,p.2≠.cell
 locs:∀p∈sc.names,p.2=.local->sc.names.lookup p.1=some .local
 free:∀p∈sc.names,p.2=.free->ji.names.lookup p.1=some .cell\/ji.names.lookup p.1=some .free
 nd:(x::z::ys).Nodup
 len:ys.length=N.length
 pl:∀p∈ys.zip N,sc.names.lookup p.1=some .free->p.1=p.2
 nl:∀y∈ys,sc.names.lookup y≠some .local
noncomputable def kf(ji:Scope)(N:List Str)(sc:Scope)(x z:Str)(ys:List Str):Bool:=
 decide (sc.kind=.function)&&decide (sc.names.lookup x=some .local)&&decide (sc.names.lookup z=some .local)&&decide (∀p∈sc.names,p.2≠.cell)&&decide (∀p∈sc.names,p.2=.local->sc.names.lookup p.1=some .local)&&
 decide (∀p∈sc.names,p.2=.free->ji.names.lookup p.1=some .cell\/ji.names.lookup p.1=some .free)&&decide ((x::z::ys).Nodup)&&decide (ys.length=N.length)&&
 decide (∀p∈ys.zip N,sc.names.lookup p.1=some .free->p.1=p.2)&&decide (∀y∈ys,sc.names.lookup y≠some .local)
theorem eU.of{ji:Scope}{N:List Str}{sc:Scope}{x z:Str}{ys:List Str}(h:kf ji N sc x z ys=true):eU ji N sc x z ys:=by
 unfold kf at h
 simp only[Bool.and_eq_true,decide_eq_true_eq]at h
 obtain⟨⟨⟨⟨⟨⟨⟨⟨⟨h1,h2⟩,Q3⟩,h3⟩,h4⟩,h5⟩,h6⟩,h7⟩,h8⟩,h9⟩:=h
 exact⟨h1,h2,Q3,h3,h4,h5,h6,h7,h8,h9⟩
noncomputable def Cx.g8(X:Cx)(sc:Scope)(x z:Str)(ys:List Str)(ex:List Addr)(C:Addr)(s:Shared)(H:Hp):Cx:={X.lF sc x ys ex C s H with N:=x::z::ys}
section
variable{X:Cx}{pins:List (Addr×Obj)}{σ:St}{H:Hp}{s:Shared}{sc:Scope}{x z:Str}{ys:List Str}
theorem eU.cell(cs:eU X.env.scope X.N sc x z ys)(I:Inv X pins σ H s){y:Str}(h:(y,NameKind.free)∈sc.names):∃c,X.env.cells.lookup y=some c:=I.ok.has y (cs.free _ h rfl)
theorem eU.cl(cs:eU X.env.scope X.N sc x z ys)(I:Inv X pins σ H s){y:Str}{c:Addr}(h:(kO sc X.env).lookup y=some c):X.env.cells.lookup y=some c/\(y,NameKind.free)∈sc.names:=by
 rcases sL X.env sc.names [] y c h with h1|⟨h1,h2⟩
 ·cases h1
 ·obtain⟨d,hd⟩:=cs.cell I h1
  rw[hd]at h2
  rw[h2]
  exact⟨hd,h1⟩
theorem Fm(cs:eU X.env.scope X.N sc x z ys)(I:Inv X pins σ H s){fp:List Addr}(hf:∀b∈fp,jv X pins H b)(eS:∀b∈fp,b<s.heap.objs.size){C:Addr}(hC:s.heap.objs.size<=C):(X.g8 sc x z ys fp C s H).Ok where
 mod:=I.ok.mod
 kind:=cs.kind
 glob:=I.ok.glob
 blt:=I.ok.blt
 above:=hC
 inj:=λy y' c h1 h2=>I.ok.inj y y' c (cs.cl I h1).1 (cs.cl I h2).1
 has:=λy hy=>by
  have Oi:(relabel sc X.env).names.lookup y=some .cell\/(relabel sc X.env).names.lookup y=some .free:=hy
  have hf:(y,NameKind.free)∈sc.names:=by
   rcases Oi with h|h
   ·rcases aY h with h1|⟨h1,_⟩
    ·exact absurd rfl (cs.nocell _ (PySem.mem_of_lookup h1))
    ·exact PySem.mem_of_lookup h1
   ·rcases aY h with h1|⟨h1,_⟩
    ·exact PySem.mem_of_lookup h1
    ·exact PySem.mem_of_lookup h1
  exact oG X.env sc.names [] y (.inl hf)
 cab:=λy c h=>by cases h
 hd:=I.ok.hd
 frames:=I.ok.frames
 stk:=.inl rfl
 exf:=λb hb=>⟨λe=>by
  have:=eS b hb
  rw[e]at this
  exact absurd (Nat.lt_of_lt_of_le this hC) (Nat.lt_irrefl _),λy c h=>(hf b hb).2.2.2.2.1 y c (cs.cl I h).1⟩
 bs:=I.bs
 bsz:=Nat.le_trans I.ok.bsz I.sz
 noex:=λb o e hb=>by
  rcases(hf b hb).2.2.2.1 with h|h
  ·exact I.ok.noex b o e h
  ·exact absurd (Nat.lt_of_lt_of_le (Heap.lt_size e) (Nat.le_trans I.ok.bsz h)) (Nat.lt_irrefl _)
 exfs:=λb hb h=>(List.mem_cons.mp (I.rQ b h)).elim (hf b hb).2.1 (hf b hb).2.2.1
 funs:=I.stack
 frf:=I.rR
end
section
variable{X:Cx}{sc:Scope}{x zz:Str}{ys:List Str}{px pz tp:Pos}{x1:Nat}{elt iter:Expr}{pos:Pos}{wi:TI}{te:TE}
theorem qO{M:Value->Env->Result->Shared->Prop}{pins:List (Addr×Obj)}{σ:St}{H:Hp}{s:Shared}{E:Value->Shared->Prop}(hc:X.calm=true)(cs:eU X.env.scope X.N sc x zz ys)(I:Inv X pins σ H s)
  (he:∀ex C s H,PE (X.g8 sc x zz ys ex C s H) elt te)
  {it:Addr}{fp:List Addr}{tn:Nat->Heap->Prop}{J:It}(T:Turn X.prog X.w X.K (.Tuple [.Name x px,.Name zz pz] x1 tp) J fp it tn)(st:tn 0 s.heap)(hf:∀b∈fp,jv X pins H b)
  {W:Nat->Nat->List V->Hp->Prop}{m0:Nat}(w0:W 0 m0 [] H){F:List V->Hp->Prop}
  (turn:∀i m acc H,W i m acc H->(J.stop i H/\F acc H)\/(J.go i H/\acc.length<sizeLine/\∀y H',J.yld i H y H'->∃p u v,y=.ref p/\pY X.K H' p [u,v]/\te (some u::some v::σ) H' λz H3=>∃m',m'<m/\W (i+1) m' (acc++[z]) H3))
  (hM:∀(D C:Addr) (er:Env) (s':Shared) (acc:List V) (H':Hp) (its:List Value) (n:Nat),er.locals=C->D≠C->s.heap.objs.size<=D->s.heap.objs.size<=C->Inv (X.g8 sc x zz ys fp C s H) [(D,lobj its n)] (none::none::σ) H' s'->Vals acc its->acc.length<=sizeLine->F acc H'->
    M (.ref D) er (.ok .next) s'):
  wpAny (model X.prog X.w) X.A (newList []) (λacc s₃=>wpAny (model X.prog X.w) X.A (newFunctionEnv sc X.env.globals (kO sc X.env) [] X.env.qual none .none (some X.env)) (λer s₄=>
   codeAny (model X.prog X.w) X.A (.compStart (.ListComp elt [⟨.Tuple [.Name x px,.Name zz pz] x1 tp,iter,[],0⟩] sc pos) 0 (.ref it) acc {er with scope:=relabel sc X.env}) (M acc er) s₄) E s₃) E s:=by
 have eS:∀b∈fp,b<s.heap.objs.size:=λb hb=>by
  obtain⟨o,e,_⟩:=T.obj 0 _ st b hb
  exact Heap.lt_size e
 refine wpAny_newObj_type (wpAny_newFunctionEnv cs.nocell (by intro y hy;simp at hy) (λh1 ED Fg=>?_) cs.kind)
 dsimp only at ED Fg⊢
 generalize wV:s.heap.push {cls:=.type "list",dict:=none,data:=.seq ([]:List Value).toArray}=h2 at ED Fg⊢
 have hC:h2.objs.size=s.heap.objs.size+1:=by rw[<-wV,Heap.size_push]
 have qf:s.heap.objs.size≠h2.objs.size:=by omega
 have old:∀b o,s.heap.get? b=some o->h1.get? b=some o:=λb o e=>by
  have hb:=Heap.lt_size e
  rw[Fg.2 b (by rw[hC];exact Nat.ne_of_lt (Nat.lt_succ_of_lt hb))]
  exact Heap.get?_push_of_some _ (wV▸Heap.get?_push_of_some _ e)
 have hD:h1.get? s.heap.objs.size=some (lobj [] 0):=by
  rw[Fg.2 _ qf]
  exact Heap.get?_push_of_some _ (wV▸Heap.get?_push_size _ rfl)
 generalize QY:h2.objs.size=C at*
 have wW:s.heap.objs.size<=C:=by omega
 have oI:∀b,s.heap.objs.size<=b->H b=none:=λb hb=>I.dR.fresh hb
 have zU:∀b,s.heap.objs.size<=b->b∉wu X.stack:=λb hb z=>by
  obtain⟨_,o,ho,_⟩:=(I.stack).mem z
  exact absurd (Nat.lt_of_lt_of_le (Heap.lt_size ho) hb) (Nat.lt_irrefl _)
 have I0:Inv (X.g8 sc x zz ys fp C s H) [(s.heap.objs.size,lobj [] 0)] (none::none::σ) H {s with heap:=h1,toks:=s.toks+([]:List (Str×Value)).length}:=by
  refine⟨Fm cs I hf eS wW,rfl,I.bare,Un.kept old,⟨_,ED,λi y v e1 e2 e3=>?_⟩,λy c e=>?_,oI _ wW,λy c e=>I.freeC y c (cs.cl I e).1,λp hp=>?_,I.dR.kept old,?_⟩
  ·cases i with
   |zero=>cases e2
   |succ i=>
   cases i with
   |zero=>cases e2
   |succ i=>
    have Hn:ys[i]?=some y:=e1
    have M3:σ[i]?=some (some v):=e2
    have Hq:(relabel sc X.env).names.lookup y=some .local\/(relabel sc X.env).names.lookup y=some .cell\/(relabel sc X.env).names.lookup y=some .free:=e3
    have Ji:sc.names.lookup y=some .free:=by
     rcases Hq with h|h|h
     ·rcases aY h with h1|⟨_,h1⟩
      ·exact absurd h1 (cs.nl y (List.mem_of_getElem? Hn))
      ·cases h1
     ·rcases aY h with h1|⟨h1,_⟩
      ·exact absurd rfl (cs.nocell _ (PySem.mem_of_lookup h1))
      ·exact h1
     ·rcases aY h with h1|⟨h1,_⟩
      ·exact h1
      ·exact h1
    have hi:i<X.N.length:=by
     rw[<-cs.len]
     exact(List.getElem?_eq_some_iff.mp Hn).1
    have hN:X.N[i]?=some y:=by
     have hz:(ys.zip X.N)[i]?=some (y,X.N[i]):=by
      rw[List.getElem?_zip_eq_some]
      exact⟨Hn,List.getElem?_eq_getElem hi⟩
     have:=cs.pl _ (List.mem_of_getElem? hz) Ji
     dsimp only at this
     rw[this]
     exact List.getElem?_eq_getElem hi
    have wX:(y,NameKind.free)∈sc.names:=PySem.mem_of_lookup Ji
    obtain⟨m,hn,hl⟩:=I.loc
    obtain⟨u,r,lk⟩:=hl i y v hN M3 (.inr (cs.free _ wX rfl))
    refine⟨u,r,.inr ⟨?_,?_⟩⟩
    ·rcases Hq with h|h
     ·rcases aY h with h1|⟨_,h1⟩
      ·rw[Ji]at h1
       cases h1
      ·cases h1
     ·exact h
    ·rcases lk with⟨k,_⟩|⟨_,c,e,z⟩
     ·rcases cs.free _ wX rfl with h|h
      ·have k':X.env.scope.names.lookup y=some .local:=k
       rw[h]at k'
       cases k'
      ·have k':X.env.scope.names.lookup y=some .local:=k
       rw[h]at k'
       cases k'
     ·obtain⟨c',G2⟩:=oG X.env sc.names [] y (.inl wX)
      have:c'=c:=by
       have:=(cs.cl I (show(kO sc X.env).lookup y=some c' from G2)).1
       rw[e]at this
       exact(Option.some.inj this).symm
      subst this
      obtain⟨o,ho,hd⟩:=z
      exact⟨c',G2,o,old _ _ ho,hd⟩
  ·obtain⟨v,o,ho,hd⟩:=I.cell y c (cs.cl I e).1
   exact⟨v,o,old _ _ ho,hd⟩
  ·obtain rfl:p=(s.heap.objs.size,lobj [] 0):=by simpa using(show p∈([]:List (Addr×Obj))++[(s.heap.objs.size,lobj [] 0)]from hp)
   exact⟨hD,oI _ (Nat.le_refl _),qf,zU _ (Nat.le_refl _),λv z=>by cases z⟩
  ·show(none::none::σ).length=(x::zz::ys).length
   rw[List.length_cons,List.length_cons,List.length_cons,List.length_cons,I.len,cs.len]
 have Jj:s.heap.objs.size∉fp:=λz=>Nat.lt_irrefl _ (eS _ z)
 have Jk:∀{f6:List (Addr×Obj)} {H':Hp} {s':Shared} {σ':St},Inv (X.g8 sc x zz ys fp C s H) f6 σ' H' s'->(∀b∈fp,H' b=none)->(∀p∈f6,p.1∉fp)->∀b∈fp,jv (X.g8 sc x zz ys fp C s H) f6 H' b:=λ{f6 H' s' σ'} I' hn hp b hb=>
  ⟨hn b hb,(I'.ok.exf b hb).1,I'.ok.exfs b hb,.inl hb,(I'.ok.exf b hb).2,λp Jl z=>by
    have Jm:p∈f6:=by simpa using(show p∈([]:List (Addr×Obj))++f6 from Jl)
    exact hp p Jm (z▸hb)⟩
 have loop:∀s3:Shared,s3={s with heap:=h1,toks:=s.toks+([]:List (Str×Value)).length}->∀er:Env,er.locals=C->
   codeAny (model X.prog X.w) X.A (.compLoop (.ListComp elt [⟨.Tuple [.Name x px,.Name zz pz] x1 tp,iter,[],0⟩] sc pos) 0 (.ref it) (.ref s.heap.objs.size) (compEnvC sc (kO sc X.env) C X.env)) (M (.ref s.heap.objs.size) er) s3:=by
  rintro s3 rfl er wY
  refine PyProof.Rows.LCp.codeAny_compLoop_pair (λm s'=>∃i acc H' its n,Inv (X.g8 sc x zz ys fp C s H) [(s.heap.objs.size,lobj its n)] (none::none::σ) H' s'/\Vals acc its/\acc.length<=sizeLine/\tn i s'.heap/\(∀b∈fp,H' b=none)/\W i m acc H') ?_ m0
   ⟨0,[],H,[],0,I0,.nil,Nat.zero_le _,T.keep 0 _ _ st λb hb o e=>old b o e,λb hb=>(hf b hb).1,w0⟩
  rintro m s' ⟨i,acc,H',its,n,I1,rv,hz,LK,LL,w1⟩
  have Jn:∀p∈[(s.heap.objs.size,lobj its n)],p.1∉fp:=λp hp=>by
   obtain rfl:p=(s.heap.objs.size,lobj its n):=by simpa using hp
   exact Jj
  rcases turn i m acc H' w1 with⟨stop,fin⟩|⟨go,QZ,step⟩
  ·refine wpAny_mono (T.done (X.g8 sc x zz ys fp C s H) rfl rfl rfl hc i _ s' _ H' (λ_ _=>False) I1 (Jk I1 LL Jn) LK stop) (λr s4 ⟨hr,I4⟩=>?_) (λ_ _ z=>z.elim)
   subst hr
   exact hM _ C er s4 acc H' its n wY qf (Nat.le_refl _) wW I4 rv hz fin
  ·refine wpAny_mono (T.item (X.g8 sc x zz ys fp C s H) rfl rfl rfl hc i _ s' _ H' (λ_ _=>False) I1 (Jk I1 LL Jn) LK go) (λr s4 bW=>?_) (λ_ _ z=>z.elim)
   obtain⟨u,hr,h4⟩:=bW
   subst hr
   dsimp only
   refine wpAny_mono h4 (λ_ s5 bW=>?_) (λ_ _ z=>z.elim)
   obtain⟨y,H5,I5,r5,y5,iu,KY⟩:=bW
   have KZ:=I5.pinned (Jk I5 KY Jn) (T.obj _ _ iu)
   have xl:(X.g8 sc x zz ys fp C s H).env.scope.names.lookup x=some .local:=lookup_relabel_local cs.xloc
   have zl:(X.g8 sc x zz ys fp C s H).env.scope.names.lookup zz=some .local:=lookup_relabel_local cs.zloc
   obtain⟨pp,uu,vv,rfl,Q4,q6⟩:=step y H5 y5
   have pg:PG (X.g8 sc x zz ys fp C s H) (.Tuple [.Name x px,.Name zz pz] x1 tp) _:=wy (n:=2) hc (iH (j8 cs.nd (i:=0) rfl (.inl xl) (.inr xl)) (iH (j8 cs.nd (i:=1) rfl (.inl zl) (.inr zl)) rW))
   refine wpAny_mono (pg _ s5 (none::none::σ) H5 (.ref pp) u (λσ' H'=>σ'=some uu::some vv::σ/\H'=H5) KZ r5 ⟨pp,[uu,vv],rfl,Q4,rfl,uu,[vv],rfl,vv,[],rfl,rfl,rfl,rfl⟩) (λ_ s7 bW=>?_) (λ_ _ z=>z.elim)
   obtain⟨σ7,H7,I7,e7,Q5⟩:=bW
   subst e7 Q5
   have yB:∀{H':Hp} {s':Shared} {σ':St} {pl:List (Addr×Obj)},Inv (X.g8 sc x zz ys fp C s H) (pl++eT fp s5.heap) σ' H' s'->tn (i+1) s'.heap/\∀b∈fp,H' b=none:=λ{H' s' σ' pl} I'=>by
    refine⟨T.keep _ _ _ iu λb hb o e=>(I'.pin (b,o) (List.mem_append_right _ (List.mem_append_right _ (fG hb e)))).1,λb hb=>?_⟩
    obtain⟨o,e,d⟩:=T.obj _ _ iu b hb
    exact(I'.pin (b,o) (List.mem_append_right _ (List.mem_append_right _ (fG hb e)))).2.1
   have wk:∀{H':Hp} {s':Shared} {pl:List (Addr×Obj)},Inv (X.g8 sc x zz ys fp C s H) pl (some uu::some vv::σ) H' s'->Inv (X.g8 sc x zz ys fp C s H) pl (none::none::σ) H' s':=λ{H' s' pl} I'=>I'.weak (by simp) λj v e=>by
    cases j with
    |zero=>cases e
    |succ j=>
     cases j with
     |zero=>cases e
     |succ j=>exact e
   refine wpAny_mono (he fp C s H _ s7 (some uu::some vv::σ) _ _ I7 q6) (λu8 s8 ⟨z,H8,I8,r8,m',hm,w8⟩=>?_) (λ_ _ z=>z.elim)
   obtain⟨t8,f8⟩:=yB I8
   obtain⟨p1,p2,p3,p4,p5⟩:=I8.pin (s.heap.objs.size,lobj its n) (List.mem_append_right _ (List.mem_append_left _ (List.mem_singleton.mpr rfl)))
   have hl:=rv.length
   refine wpAny_list_append_plain (items:=its.toArray) ⟨n,p1⟩ (λh9 Oj sb9=>?_) (by rw[List.size_toArray];omega)
   obtain⟨n9,e9⟩:=Oj
   have Ol:h9.get? s.heap.objs.size=some (lobj (its++[u8]) n9):=by
    rw[e9]
    unfold lobj
    simp
   have Ia:Inv (X.g8 sc x zz ys fp C s H) (eT fp s5.heap) (none::none::σ) H8 s8:=(wk I8).dZ λp hp=>I8.pin p (List.mem_append_right _ (List.mem_append_right _ hp))
   have Ib:Inv (X.g8 sc x zz ys fp C s H) (eT fp s5.heap) (none::none::σ) H8 {s8 with heap:=h9,toks:=s8.toks}:=Ia.turned (it:=s.heap.objs.size) (λb o hb e=>(sb9.2 b hb).trans e) p2 p3 (.inr (Nat.le_refl _))
    (λy c e z=>by
      obtain⟨v,o,ho,_⟩:=I.cell y c (cs.cl I e).1
      exact absurd (Heap.lt_size ho) (by rw[z];exact Nat.lt_irrefl _))
    (λp hp z=>by
      have Jl:p∈eT fp s5.heap:=by simpa using(show p∈([]:List (Addr×Obj))++eT fp s5.heap from hp)
      exact Jj (z▸(mn Jl).1))
   refine⟨m',hm,i+1,acc++[z],H8,its++[u8],n9,Ib.dZ λp hp=>?_,rv.append (.cons r8 .nil),?_,T.keep _ _ _ t8 λb hb o e=>?_,f8,w8⟩
   ·obtain rfl:p=(s.heap.objs.size,lobj (its++[u8]) n9):=by simpa using hp
    exact⟨Ol,p2,p3,p4,λv z=>by cases z⟩
   ·rw[List.length_append,List.length_singleton]
    omega
   ·exact(sb9.2 b (λz=>Jj (z▸hb))).trans e
 exact codeAny_compStart_list (loop _ rfl _ rfl) (T.self _ 0 _ _ _ (T.keep 0 _ _ st λb hb o e=>old b o e) (loop _ rfl _ rfl))
end
noncomputable def w6(K:PySem.W.Frag)(wi:TI)(te:TE):TE:=λσ H Q=>wi σ H λJ H1=>∃W:Nat->Nat->List V->Hp->Prop,(∃m,W 0 m [] H1)/\∀i m acc H,W i m acc H->
 (J.stop i H/\∀p,H p=none->Q (.ref p) (upd H p (.lst acc)))\/(J.go i H/\acc.length<sizeLine/\∀y H',J.yld i H y H'->∃p u v,y=.ref p/\pY K H' p [u,v]/\te (some u::some v::σ) H' λz H3=>∃m',m'<m/\W (i+1) m' (acc++[z]) H3)
section
variable{X:Cx}{sc:Scope}{x zz:Str}{ys:List Str}{px pz tp:Pos}{x1:Nat}{elt iter:Expr}{pos:Pos}{wi:TI}{te:TE}
theorem oJ{pins:List (Addr×Obj)}{σ σ':St}{H H':Hp}{s s':Shared}(cs:eU X.env.scope X.N sc x zz ys)(I:Inv X pins σ H s){fp:List Addr}(hf:∀b∈fp,jv X pins H b){D C:Addr}{its:List Value}{n:Nat}{acc:List V}
  (I':Inv (X.g8 sc x zz ys fp C s H) [(D,lobj its n)] σ' H' s')(qf:D≠C)(hD:s.heap.objs.size<=D)(hC:s.heap.objs.size<=C)(rv:Vals acc its)(hz:acc.length<=sizeLine){h':Heap}(sb:Heap.SameBut C s'.heap h'):
  Inv X pins σ (upd H' D (.lst acc)) {s' with heap:=h'}:=by
 obtain⟨p1,p2,p3,p4,p5⟩:=I'.pin (D,lobj its n) (List.mem_append_right _ (List.mem_singleton.mpr rfl))
 have below:∀b o,s.heap.get? b=some o->b≠D/\b≠C:=λb o e=>⟨Nat.ne_of_lt (Nat.lt_of_lt_of_le (Heap.lt_size e) hD),Nat.ne_of_lt (Nat.lt_of_lt_of_le (Heap.lt_size e) hC)⟩
 have U:Un (wu X.stack) fp H H' s.heap s'.heap:=I'.base
 have gc:H' C=none:=I'.free
 refine I.G3 (ch:=fp) I'.os ⟨λb o e n hb hx=>?_,λb o e n hb hx=>?_,λb o e n hx=>?_,λb o e hx=>?_,λb xs e=>?_,λb o u e=>?_,λb ps e=>?_⟩ (λb o e=>?_) I'.bare λb hb=>⟨(hf b hb).2.2.2.1,(hf b hb).2.1,(hf b hb).2.2.2.2.1,(hf b hb).2.2.2.2.2⟩
 ·exact(sb.2 b (below b o e).2).trans (U.keep b o e n hb hx)
 ·obtain⟨sl,q⟩:=U.slot b o e n hb hx
  exact⟨sl,(sb.2 b (below b o e).2).trans q⟩
 ·rw[au (below b o e).1]
  exact U.free b o e n hx
 ·obtain⟨o',q⟩:=U.there b o e hx
  exact⟨o',(sb.2 b (below b o e).2).trans q⟩
 ·rw[au (aW (U.nG b xs e) p2)]
  exact U.nG b xs e
 ·rw[au (aW (U.mh b o u e) p2)]
  exact U.mh b o u e
 ·obtain⟨more,q⟩:=U.p9 b ps e
  exact⟨more,by rw[au (aW q p2)];exact q⟩
 ·by_cases hb:b=D
  ·subst hb
   rw[aO]at e
   cases e
   exact⟨hz,its,n,rv,(sb.2 b qf).trans p1⟩
  ·rw[au hb]at e
   refine(I'.dR b o e).p7 (λc v hc q=>(sb.2 c ?_).trans q) (λc q=>?_) λc xs q=>?_
   ·rintro rfl
    rcases hc with hc|hc
    ·rw[hc,e]at gc
     cases gc
    ·rw[hc]at gc
     cases gc
   ·rw[au (aW q p2)]
    exact q
   ·rw[au (aW q p2)]
    exact q
theorem Ce(hi:PI X (.Tuple [.Name x px,.Name zz pz] x1 tp) iter wi)(ys:List Str)(he:∀ex C s H,PE (X.g8 sc x zz ys ex C s H) elt te)(qg:kf X.env.scope X.N sc x zz ys=true)(hc:autoParam (X.calm=true) zR._auto_1)
  (hs:autoParam (∀x,foldedSetIterable iter X.env x=pure x) zI._auto_1):PE X (.ListComp elt [⟨.Tuple [.Name x px,.Name zz pz] x1 tp,iter,[],0⟩] sc pos) (w6 X.K wi te):=by
 have cs:=eU.of qg
 intro pins s σ H Q I h
 rw[eval_ListComp]
 refine wpAny_comprehension_free (use:=none) (cl:=kO sc X.env) rfl hs (nT λp hp hk=>cs.cell I (by rw[<-hk];exact hp)) cs.kind cs.locs ?_
 refine dz (hi pins s σ H _ I h) λv s1 h1=>dz h1 λKo s2 h2=>?_
 obtain⟨it,fp,tn,J,H2,rfl,I2,T,bL,f2,W,⟨m0,w0⟩,turn⟩:=h2
 refine qO (M:=λacc er=>compPost (model X.prog X.w) X.A X.xe none (EP X pins σ Q) acc er.locals) hc cs I2 he T bL f2 w0 (F:=λacc H=>∀p,H p=none->Q (.ref p) (upd H p (.lst acc))) turn λD C er s' acc H' its n wY qf hD hC I' rv hz q=>?_
 obtain⟨m,hn,_⟩:=I'.loc
 refine⟨m,by rw[wY];exact hn,λh' sb=>?_⟩
 rw[wY]at sb
 exact⟨.ref D,_,oJ cs I2 f2 I' qf hD hC rv hz sb,rfl,q D (I'.pin (D,lobj its n) (List.mem_append_right _ (List.mem_singleton.mpr rfl))).2.1⟩
theorem Cf{i:Nat}{y:Str}{py jz:Pos}(hN:X.N.Nodup)(Ca:X.N[i]?=some y)(hy:X.env.scope.names.lookup y=some .local)(hi:PI X (.Tuple [.Name x px,.Name zz pz] x1 tp) iter wi)(ys:List Str)(he:∀ex C s H,PE (X.g8 sc x zz ys ex C s H) elt te)
  (qg:kf X.env.scope X.N sc x zz ys=true)(hc:autoParam (X.calm=true) zR._auto_1)(hs:autoParam (∀x,foldedSetIterable iter X.env x=pure x) zI._auto_1)
  (Cb:autoParam (swapsWith (.ListComp elt [⟨.Tuple [.Name x px,.Name zz pz] x1 tp,iter,[],0⟩] sc pos) (some (.Name y py)) jz.line X.env=pure true) zR._auto_1):
  PS X (.Assign [.Name y py] (.ListComp elt [⟨.Tuple [.Name x px,.Name zz pz] x1 tp,iter,[],0⟩] sc pos) jz) (λD σ H=>w6 X.K wi te σ H λv H1=>D.nx (σ.set i (some v)) H1):=by
 have cs:=eU.of qg
 intro pins s σ H D I h
 rw[exec_Assign_Name_used _ _ _ _ Cb]
 refine wpAny_bind (wpAny_standAt (wpAny_bind ?_))
 show wpAny _ X.A (do let _<-comprehension (.ListComp elt [⟨.Tuple [.Name x px,.Name zz pz] x1 tp,iter,[],0⟩] sc pos) sc X.env _ (newList []) false (eval iter X.env) (some (assign (.Name y py) X.env))) _ _ s
 refine wpAny_bind (wpAny_mono (wpAny_comprehension_free (use:=some (assign (.Name y py) X.env)) (cl:=kO sc X.env) (Q:=λ_ s'=>SP X pins D .next s') rfl hs (nT λp hp hk=>cs.cell I (by rw[<-hk];exact hp)) cs.kind cs.locs ?_) (λ_ s' hq=>wpAny_pure (wpAny_pure hq)) λ_ _ e=>e)
 refine dz (hi pins s σ H _ I h) λv s1 h1=>dz h1 λKo s2 h2=>?_
 obtain⟨it,fp,tn,J,H2,rfl,I2,T,bL,f2,W,⟨m0,w0⟩,turn⟩:=h2
 refine qO (M:=λacc er=>compPost (model X.prog X.w) X.A X.xe (some (assign (.Name y py) X.env)) (λ_ s'=>SP X pins D .next s') acc er.locals) hc cs I2 he T bL f2 w0
  (F:=λacc H=>∀p,H p=none->D.nx (σ.set i (some (.ref p))) (upd H p (.lst acc))) turn λDa C er s' acc H' its n wY qf hD hC I' rv hz q=>?_
 obtain⟨m,hn,_⟩:=I'.loc
 have Io:=oJ cs I2 f2 I' qf hD hC rv hz (SameBut.LN C s'.heap)
 have LO:C≠X.env.locals:=λe=>absurd (Nat.lt_of_lt_of_le I2.lt hC) (by rw[e];exact Nat.lt_irrefl _)
 have LP:∀z c,X.env.cells.lookup z=some c->c≠C:=λz c e e'=>by
  obtain⟨v,o,ho,_⟩:=I2.cell z c e
  exact absurd (Nat.lt_of_lt_of_le (Heap.lt_size ho) hC) (by rw[e'];exact Nat.lt_irrefl _)
 refine wpAny_assign_Name (mi (v:=.ref Da) Io hN Ca (.inl hy) rfl (λIG Om bW=>?_) (.inr hy))
 obtain⟨a,sb,ha⟩:=bW
 have Oo:C≠a:=by
  rcases ha with e|e
  ·rw[e]
   exact LO
  ·exact(LP y a e).symm
 refine⟨m,by rw[wY];exact hn.sameBut sb Oo,λh' LQ=>?_⟩
 rw[wY]at LQ
 have gc:(upd H' Da (.lst acc)) C=none:=by
  rw[au qf.symm]
  exact I'.free
 refine⟨_,_,Om.turned (t':=IG.toks) (it:=C) (λb o hb e=>(LQ.2 b hb).trans e) gc LO (.inr (Nat.le_trans I2.sz hC)) LP (λp hp e=>?_),q Da (I'.pin (Da,lobj its n) (List.mem_append_right _ (List.mem_singleton.mpr rfl))).2.1⟩
 exact absurd (Nat.lt_of_lt_of_le (Heap.lt_size (I2.pin p hp).1) hC) (by rw[e];exact Nat.lt_irrefl _)
end
end L2
namespace Mt
noncomputable def sub(a b:Nat):Bool:=(a&&&b)==a
noncomputable def bR(g:Nat):List Nat:=(List.range 6).filter λh=>g.testBit h
noncomputable def Ot(g:Nat):Nat:=(bR g).foldl (λn h=>n+2^(5-h)) 0
noncomputable def rank(g:Nat):Nat:=(bR g).length*64+(63-Ot g)
noncomputable def yE(p:Nat->Nat->Bool):Bool:=(List.range 64).all λa=>(List.range 64).all λb=>p a b
theorem oK{p:Nat->Nat->Bool}(h:yE p=true){a b:Nat}(ha:a<64)(hb:b<64):p a b=true:=by
 have h1:=List.all_eq_true.mp h a (List.mem_range.mpr ha)
 exact List.all_eq_true.mp h1 b (List.mem_range.mpr hb)
theorem oM{a b:Nat}(ha:a<64)(hb:b<64)(e:rank a=rank b):a=b:=by
 have h:yE (λa b=>!(rank a==rank b)||a==b)=true:=by decide+kernel
 have:=oK h ha hb
 rw[e]at this
 simpa using this
theorem Cg{a b:Nat}(ha:a<64)(hb:b<64)(s:sub a b=true):rank a<=rank b:=by
 have h:yE (λa b=>!(sub a b)||decide (rank a<=rank b))=true:=by decide+kernel
 have:=oK h ha hb
 rw[s]at this
 simpa using this
theorem lG(a:Nat):sub a a=true:=by simp[sub]
theorem sO{a b:Nat}:sub a b=true↔a&&&b=a:=by simp[sub]
theorem mF{a b c:Nat}(h1:sub a b=true)(h2:sub b c=true):sub a c=true:=by
 rw[sO]at*
 rw[<-h1,Nat.and_assoc,h2]
noncomputable def lets(l:List Nat)(g:Nat):Bool:=l.any λr=>sub r g
theorem dB{l:List Nat}{g:Nat}:lets l g=true↔∃r∈l,sub r g=true:=List.any_eq_true
structure Jp(l:List Nat):Prop where
 ord:l.Pairwise λa b=>rank a<rank b
 anti:∀a∈l,∀b∈l,sub a b=true->a=b
 small:∀a∈l,a<64
noncomputable def i0(acc:List Nat)(g:Nat):List Nat:=if lets acc g then acc else acc++[g]
noncomputable def oN(ss:List Nat):List Nat:=ss.foldl i0 []
structure Cl(pre acc:List Nat):Prop where
 lad:Jp acc
 mem:∀r∈acc,r∈pre
 cov:∀g∈pre,lets acc g=true
theorem Cl.nil:Cl [] []:=⟨⟨List.Pairwise.nil,by simp,by simp⟩,by simp,by simp⟩
theorem Ci(l m:List Nat)(g:Nat):lets (l++m) g=(lets l g||lets m g):=by simp[lets]
theorem Cl.step{pre acc:List Nat}{g:Nat}(h:Cl pre acc)(hg:g<64)(hs:∀r∈pre,rank r<=rank g):Cl (pre++[g]) (i0 acc g):=by
 unfold i0
 by_cases hl:lets acc g=true
 ·rw[if_pos hl]
  refine⟨h.lad,λr hr=>List.mem_append_left _ (h.mem r hr),λx hx=>?_⟩
  rcases List.mem_append.mp hx with hx|hx
  ·exact h.cov x hx
  ·obtain rfl:x=g:=by simpa using hx
   exact hl
 ·rw[if_neg hl]
  have hn:∀r∈acc,¬sub r g=true:=λr hr z=>hl (dB.mpr ⟨r,hr,z⟩)
  have eS:∀r∈acc,rank r<rank g:=λr hr=>by
   have h1:=hs r (h.mem r hr)
   rcases Nat.lt_or_ge (rank r) (rank g)with h2|h2
   ·exact h2
   ·have:=oM (h.lad.small r hr) hg (by omega)
    subst this
    exact absurd (lG r) (hn r hr)
  refine⟨⟨?_,?_,?_⟩,?_,?_⟩
  ·refine List.pairwise_append.mpr ⟨h.lad.ord,List.pairwise_singleton _ _,λa ha b hb=>?_⟩
   obtain rfl:b=g:=by simpa using hb
   exact eS a ha
  ·intro a ha b hb s
   rcases List.mem_append.mp ha with M8|M8
   ·rcases List.mem_append.mp hb with EE|EE
    ·exact h.lad.anti a M8 b EE s
    ·have e:b=g:=by simpa using EE
     rw[e]at s
     exact absurd s (hn a M8)
   ·have e:a=g:=by simpa using M8
    rcases List.mem_append.mp hb with EE|EE
    ·rw[e]at s
     have h1:=Cg hg (h.lad.small b EE) s
     have h2:=eS b EE
     omega
    ·have e2:b=g:=by simpa using EE
     rw[e,e2]
  ·intro a ha
   rcases List.mem_append.mp ha with ha|ha
   ·exact h.lad.small a ha
   ·obtain rfl:a=g:=by simpa using ha
    exact hg
  ·intro r hr
   rcases List.mem_append.mp hr with hr|hr
   ·exact List.mem_append_left _ (h.mem r hr)
   ·exact List.mem_append_right _ hr
  ·intro x hx
   rw[Ci]
   rcases List.mem_append.mp hx with hx|hx
   ·rw[h.cov x hx]
    rfl
   ·obtain rfl:x=g:=by simpa using hx
    simp[lets,lG]
theorem Cj{ss:List Nat}(kg:∀g∈ss,g<64)(hs:ss.Pairwise λa b=>rank a<=rank b):Cl ss (oN ss):=by
 have go:∀(post pre:List Nat) (acc:List Nat),pre++post=ss->Cl pre acc->Cl ss (post.foldl i0 acc):=by
  intro post
  induction post with
  |nil=>
   intro pre acc e h
   rw[List.append_nil]at e
   rw[<-e]
   exact h
  |cons g post ih=>
   intro pre acc e h
   rw[List.foldl_cons]
   refine ih (pre++[g]) _ (by rw[List.append_assoc];exact e) (h.step (kg g ?_) λr hr=>?_)
   ·rw[<-e]
    simp
   ·rw[<-e]at hs
    exact(List.pairwise_append.mp hs).2.2 r hr g (by simp)
 exact go ss [] [] rfl Cl.nil
theorem Cl.lets{pre acc:List Nat}(h:Cl pre acc)(g:Nat):Mt.lets acc g=Mt.lets pre g:=by
 rw[Bool.eq_iff_iff,dB,dB]
 constructor
 ·rintro⟨r,h1,h2⟩
  exact⟨r,h.mem r h1,h2⟩
 ·rintro⟨r,h1,h2⟩
  obtain⟨q,h3,h4⟩:=dB.mp (h.cov r h1)
  exact⟨q,h3,mF h4 h2⟩
end Mt
namespace L2.D
open PySem
inductive PV where
 |non|bl(b:Bool)|int(i:Int)|str(x:Str)|lst(l:List PV)|tup(l:List PV)|ins(c:Nat)(l:List PV)
 deriving Inhabited
noncomputable def flat:PV->Bool
 |.non=>true
 |.bl _=>true
 |.int _=>true
 |.str _=>true
 |_=>false
noncomputable def LU:PV->PV->Bool
 |.non,.non=>true
 |.bl a,.bl b=>a==b
 |.bl a,.int b=>(if a then 1 else 0)==b
 |.int a,.bl b=>a==(if b then 1 else 0)
 |.int a,.int b=>a==b
 |.str a,.str b=>a==b
 |_,_=>false
noncomputable def LV(f:PV->PV->Option Bool):List PV->List PV->Option (List Bool)
 |a::l,b::m=>(f a b).bind λe=>(LV f l m).map (e::·)
 |_,_=>some []
noncomputable def PR(f:PV->PV->Option Bool)(l m:List PV):Option Bool:=if l.length=m.length then(LV f l m).map λes=>es.all id else some false
noncomputable def PU:Nat->PV->PV->Option Bool
 |n+1,.lst l,.lst m=>PR (PU n) l m
 |n+1,.tup l,.tup m=>if l.length=m.length then PR (PU n) l m else none
 |_,p,q=>if flat p&&flat q then some (LU p q)else none
inductive Cn where
 |l(xs:List PV)|d(uz:List (Int×PV))
 deriving Inhabited
inductive Slot where
 |un|sh(p:PV)|own(c:Cn)|bw(l:List PV)
 deriving Inhabited
noncomputable abbrev Slot.ow(l:List PV):Slot:=.own (.l l)
noncomputable abbrev bM:=List Slot
noncomputable abbrev Den:=bM->Option PV
noncomputable def Slot.val:Slot->Option PV
 |.un=>none
 |.sh p=>some p
 |.own (.l l)=>some (.lst l)
 |.own (.d _)=>none
 |.bw l=>some (.lst l)
noncomputable def Slot.Ak:Slot->Option PV
 |.sh p=>some p
 |_=>none
inductive Fl where
 |nx(ρ:bM)|rt(p:PV)|bk(ρ:bM)|ct(ρ:bM)
noncomputable abbrev aL:=bM->Option Fl
noncomputable abbrev cD:=bM->Option Bool
noncomputable abbrev bX:=bM->Option (List PV)
noncomputable def dC(p:PV):Den:=λ_=>some p
noncomputable def dV(i:Nat):Den:=λρ=>(ρ[i]?).bind Slot.val
noncomputable def aQ(i:Nat):Den:=λρ=>(ρ[i]?).bind Slot.Ak
noncomputable def aR(g:PV->Option PV)(a:Den):Den:=λρ=>(a ρ).bind g
noncomputable def ah(g:PV->PV->Option PV)(a b:Den):Den:=λρ=>(a ρ).bind λx=>(b ρ).bind λy=>g x y
noncomputable def ax:bX:=λ_=>some []
noncomputable def ag(a:Den)(as:bX):bX:=λρ=>(a ρ).bind λx=>(as ρ).bind λxs=>some (x::xs)
noncomputable def aK(F:List PV->Option PV)(as:bX):Den:=λρ=>(as ρ).bind F
noncomputable def sP(F:List PV->Option PV)(as:bX):Den:=λρ=>(as ρ).bind λxs=>(F xs).bind λp=>if flat p then some p else none
noncomputable def g9(as:bX):Den:=λρ=>(as ρ).bind λxs=>if xs.length<=sizeLine then some (.lst xs)else none
noncomputable def Al(as:bX):Den:=λρ=>(as ρ).bind λxs=>if xs.length<=sizeLine then some (.tup xs)else none
noncomputable def wq:PV->Option Bool
 |.bl b=>some b
 |_=>none
noncomputable def tV(a:Den):cD:=λρ=>(a ρ).bind wq
noncomputable def jr(a b:cD):cD:=λρ=>(a ρ).bind λc=>if c then b ρ else some false
noncomputable def qa(a b:cD):cD:=λρ=>(a ρ).bind λc=>if c then some true else b ρ
noncomputable def js(a:cD):cD:=λρ=>(a ρ).map (!·)
noncomputable def cg:PV->PV->Option PV
 |.int i,.int j=>some (.int (i+j))
 |.str x,.str y=>if x.length+y.length<=sizeLine then some (.str (x++y))else none
 |.lst l,.lst m=>if l.length+m.length<=sizeLine then some (.lst (l++m))else none
 |_,_=>none
noncomputable def rX:PV->PV->Option PV
 |.int i,.int j=>some (.int (i-j))
 |_,_=>none
noncomputable def uY(i j:Int):Bool:=(decide (-(2^64)<i)&&decide (i<2^64))||(decide (-(2^64)<j)&&decide (j<2^64))
noncomputable def qj:PV->PV->Option PV
 |.int i,.int j=>if uY i j then some (.int (i*j))else none
 |_,_=>none
noncomputable def Ck:PV->PV->Option PV
 |.int i,.int j=>if decide (0<j)&&decide (j<1073741824)then some (.int (i/j))else none
 |_,_=>none
noncomputable def oO:PV->PV->Option PV
 |.int i,.int j=>if decide (0<j)then some (.int (i % j))else none
 |_,_=>none
noncomputable def m9(i j:Int):Bool:=decide (0<=j)&&decide (j<=1000000)&&decide (i.natAbs<2^64)
noncomputable def sQ:PV->PV->Option PV
 |.int i,.int j=>if m9 i j then some (.int (i^j.toNat))else none
 |_,_=>none
noncomputable def qk:PV->PV->Option PV
 |.int i,.int j=>if m9 i j then some (.int (i*2^j.toNat))else none
 |_,_=>none
noncomputable def w9:PV->PV->Option PV
 |.int i,.int j=>if decide (0<=j)then some (.int (i/2^j.toNat))else none
 |_,_=>none
noncomputable def iw:PV->PV->Option PV
 |.int i,.int j=>some (.int (Builtin.bitAnd i j))
 |_,_=>none
noncomputable def i4:PV->Option PV
 |.int i=>some (.int (-i))
 |_=>none
noncomputable def eqT:PV->PV->Option Bool
 |.int a,.int b=>some (decide (a=b))
 |.str a,.str b=>some (decide (a=b))
 |.bl a,.bl b=>some (decide (a=b))
 |_,_=>none
noncomputable def lA(a b:PV):Option PV:=(eqT a b).map PV.bl
noncomputable def Kw(a b:PV):Option PV:=(eqT a b).map λe=>PV.bl !e
noncomputable def mG:PV->PV->Option PV
 |.int i,.int j=>some (.bl (decide (i<j)))
 |_,_=>none
noncomputable def Hr:PV->PV->Option PV
 |.int i,.int j=>some (.bl (decide (j<i)))
 |_,_=>none
noncomputable def Jq:PV->PV->Option PV
 |.int i,.int j=>some (.bl (decide (j<=i)))
 |_,_=>none
noncomputable def uZ:PV->Option PV
 |.non=>some (.bl true)
 |_=>some (.bl false)
noncomputable def yF(x:PV)(l:List PV):Bool:=l.any λy=>LU y x
noncomputable def Q6:PV->PV->Option PV
 |x,.lst l=>if flat x&&l.all flat then some (.bl (yF x l))else none
 |x,.tup l=>if flat x&&l.all flat then some (.bl (yF x l))else none
 |_,_=>none
noncomputable def jA:PV->PV->Option PV
 |x,.lst l=>if flat x&&l.all flat then some (.bl (!yF x l))else none
 |x,.tup l=>if flat x&&l.all flat then some (.bl (!yF x l))else none
 |_,_=>none
noncomputable def Br(n:Nat)(i:Int):Option Nat:=if 0<=i then(if i<n then some i.toNat else none)else if-(n:Int)<=i then some (i+n).toNat else none
noncomputable def itemAt{α:Type}(l:List α)(i:Int):Option α:=(Br l.length i).bind λj=>l[j]?
noncomputable def cS:PV->PV->Option PV
 |.lst l,.int i=>itemAt l i
 |.tup l,.int i=>itemAt l i
 |.str x,.int i=>if x.length<=sizeLine then(itemAt x.cps.toList i).map λc=>.str ⟨#[c]⟩else none
 |_,_=>none
noncomputable def bH:PV->Option PV
 |.lst l=>some (.int l.length)
 |.tup l=>some (.int l.length)
 |.str x=>if x.length<=sizeLine then some (.int x.length)else none
 |_=>none
noncomputable def Cm:PV->Option PV
 |.lst l=>some (.lst l)
 |.tup l=>some (.lst l)
 |_=>none
noncomputable def bools:List PV->Option (List Bool)
 |[]=>some []
 |.bl b::l=>(bools l).map (b::·)
 |_::_=>none
noncomputable def Fn:PV->Option PV
 |.lst l=>(bools l).map λbs=>.bl (bs.any id)
 |_=>none
noncomputable def Fo:PV->Option PV
 |.lst l=>(bools l).map λbs=>.bl (bs.all id)
 |_=>none
noncomputable def Co:PV->Option PV
 |.int i=>some (.int (Builtin.Int.intBits i:Nat))
 |_=>none
noncomputable def yG:PV->Nat
 |.int _=>0
 |.bl _=>1
 |.str _=>2
 |.lst _=>3
 |.tup _=>4
 |.non=>5
 |.ins _ _=>6
noncomputable def xa(k:Nat)(p:PV):Bool:=yG p==k||(k==0&&yG p==1)
noncomputable def yH(k:Nat)(p:PV):Option PV:=if yG p=6 then none else some (.bl (xa k p))
noncomputable def Fp(n d:Nat):Option Int->Nat
 |none=>d
 |some i=>if i<0 then(i+n).toNat else min i.toNat n
noncomputable def sR{α:Type}(l:List α)(lo hi:Option Int):List α:=(l.drop (Fp l.length 0 lo)).take (Fp l.length l.length hi-Fp l.length 0 lo)
noncomputable abbrev Am:=bM->Option (Option Int)
noncomputable def oP:Am:=λ_=>some none
noncomputable def Fq:PV->Option Int
 |.int i=>some i
 |_=>none
noncomputable def nc(a:Den):Am:=λρ=>(a ρ).bind λp=>(Fq p).map some
noncomputable def Hs(a:Den)(lo hi:Am):Den:=λρ=>(a ρ).bind λx=>(lo ρ).bind λl=>(hi ρ).bind λh=>match x with
 |.lst xs=>some (.lst (sR xs l h))
 |_=>none
noncomputable def jB:PV->Option (List PV)
 |.lst l=>some l
 |_=>none
noncomputable def nList(a:Den):bX:=λρ=>(a ρ).bind jB
noncomputable def cx(lo:Int)(n:Nat):List PV:=(List.range n).map λk=>.int (lo+(k:Nat))
noncomputable def kE(j:Int):Bool:=decide (-(2^62)<=j)&&decide (j<2^62)
noncomputable def cL(a:Den):bX:=λρ=>(a ρ).bind λp=>(Fq p).bind λj=>if kE j then some (cx 0 j.toNat)else none
noncomputable def oQ(a b:Den):bX:=λρ=>(a ρ).bind λp=>(b ρ).bind λq=>(jB p).bind λl=>(jB q).bind λm=>some (List.zipWith (λx y=>PV.tup [x,y]) l m)
noncomputable def gf(c:cD)(e:Den)(ρ:bM):List PV->Option (List PV)
 |[]=>some []
 |x::xs=>(c (.sh x::ρ)).bind λb=>if b then(e (.sh x::ρ)).bind λz=>(gf c e ρ xs).map (z::·)else gf c e ρ xs
noncomputable def a9:cD:=λ_=>some true
noncomputable def aV(it:bX)(c:cD)(e:Den):Den:=λρ=>(it ρ).bind λxs=>if xs.length<=sizeLine then(gf c e ρ xs).map PV.lst else none
noncomputable def cF:aL:=λρ=>some (.nx ρ)
noncomputable def aX(a b:aL):aL:=λρ=>(a ρ).bind λf=>match f with
 |.nx ρ'=>b ρ'
 |f=>some f
noncomputable def cK(i:Nat)(a:Den):aL:=λρ=>(a ρ).map λp=>.nx (ρ.set i (.sh p))
noncomputable def lH(i:Nat)(a:Den):aL:=λρ=>(a ρ).bind λp=>(jB p).map λl=>.nx (ρ.set i (.ow l))
noncomputable def bu(a:Den):aL:=λρ=>(a ρ).map Fl.rt
noncomputable def jC(t:cD)(a b:aL):aL:=λρ=>(t ρ).bind λc=>if c then a ρ else b ρ
noncomputable def u0(i:Nat):aL:=λρ=>match ρ[i]? with
 |some (.own (.l l))=>some (.nx (ρ.set i (.sh (.lst l))))
 |_=>some (.nx ρ)
noncomputable def xb(ρ:bM)(i:Nat):Option (List PV):=match ρ[i]? with
 |some (.own (.l l))=>some l
 |_=>none
noncomputable def lI(i:Nat)(g:List PV->List PV->Option (List PV))(as:bX):aL:=λρ=>(as ρ).bind λxs=>(xb ρ i).bind λl=>(g l xs).map λl'=>.nx (ρ.set i (.ow l'))
noncomputable def eF(l xs:List PV):Option (List PV):=match xs with
 |[x]=>if l.length<sizeLine then some (l++[x])else none
 |_=>none
noncomputable def kh(l xs:List PV):Option (List PV):=match xs with
 |[.int k,x]=>if decide (0<=k)&&decide (k.toNat<=l.length)&&decide (l.length<sizeLine)then some (l.take k.toNat++x::l.drop k.toNat)else none
 |_=>none
noncomputable abbrev yI:=PV->bM->Option bM
noncomputable def aZ(i:Nat):yI:=λp ρ=>some (ρ.set i (.sh p))
noncomputable def jD(a b:yI):yI:=λp ρ=>match p with
 |.tup [x,y]=>(a x ρ).bind (b y)
 |_=>none
noncomputable def forL(g:yI)(body:aL):List PV->aL
 |[]=>λρ=>some (.nx ρ)
 |x::xs=>λρ=>(g x ρ).bind λρ1=>(body ρ1).bind λf=>match f with
  |.nx ρ'=>forL g body xs ρ'
  |.ct ρ'=>forL g body xs ρ'
  |.bk ρ'=>some (.nx ρ')
  |.rt p=>some (.rt p)
noncomputable def ix(it:bX)(g:yI)(body:aL):aL:=λρ=>(it ρ).bind λxs=>forL g body xs ρ
noncomputable def eV(t:cD)(body:aL):Nat->aL
 |0=>λ_=>none
 |n+1=>λρ=>(t ρ).bind λc=>if c then(body ρ).bind λf=>match f with
   |.nx ρ'=>eV t body n ρ'
   |.ct ρ'=>eV t body n ρ'
   |.bk ρ'=>some (.nx ρ')
   |.rt p=>some (.rt p)
  else some (.nx ρ)
noncomputable def mH:List Int->List Int->Bool
 |[],[]=>false
 |[],_::_=>true
 |_::_,[]=>false
 |x::xs,y::ys=>if x=y then mH xs ys else decide (x<y)
noncomputable def qP(a b:Den):Den:=λρ=>(a ρ).bind λx=>(wq x).bind λc=>if c then b ρ else some (.bl false)
noncomputable def Ft(a b:Den):Den:=λρ=>(a ρ).bind λx=>(wq x).bind λc=>if c then some (.bl true)else b ρ
noncomputable def Ht(a:Den):Den:=λρ=>(a ρ).bind λx=>(wq x).map λc=>.bl !c
noncomputable def u5(i:Nat):aL:=λρ=>(xb ρ i).map λl=>.rt (.lst l)
noncomputable def u7(p:PV):Option PV:=(uZ p).bind λx=>(wq x).map λc=>.bl !c
noncomputable def eJ(a b:PV):Option PV:=match a with
 |.tup _=>none
 |_=>Kw a b
noncomputable def eo:List PV->Option (List Int)
 |[]=>some []
 |.int i::l=>(eo l).map (i::·)
 |_::_=>none
noncomputable def An(rk:Int->Nat)(x:Int):List Int->List Int
 |[]=>[x]
 |y::l=>if rk x<=rk y then x::y::l else y::An rk x l
noncomputable def eW(rk:Int->Nat):List Int->List Int
 |[]=>[]
 |x::l=>An rk x (eW rk l)
noncomputable def hU(n:Int):Nat:=Mt.rank n.toNat
noncomputable def mf(n:Int):Bool:=decide (0<=n)&&decide (n<64)
noncomputable def jE(ns:List Int):Bool:=ns.all mf&&decide (ns.length<=5000)
noncomputable def ng(it:bX):Den:=λρ=>(it ρ).bind λl=>(eo l).bind λns=>if jE ns then some (.lst ((eW hU ns).map PV.int))else none
noncomputable def gp(F:List PV->Option PV):Prop:=∃(kI:Int->Int) (kL:Int->List Int),(∀n,mf n=true->F [.int n]=some (.tup [.int (kI n),.lst ((kL n).map PV.int)]))/\
 ∀n m,mf n=true->mf m=true->(if kI n=kI m then mH (kL n) (kL m)else decide (kI n<kI m))=decide (hU n<hU m)
noncomputable def dJ(n:Nat)(ps:List PV):bM:=ps.map Slot.sh++List.replicate (n-ps.length) .un
noncomputable def sS(fr:Bool):Fl->Option PV
 |.rt p=>some p
 |.nx _=>if fr then none else some .non
 |_=>none
noncomputable def fn(fr:Bool)(n k:Nat)(body:aL)(ps:List PV):Option PV:=if ps.length=k then(body (dJ n ps)).bind (sS fr)else none
noncomputable def u9(ns:List Int):Bool:=ns.all (λn=>decide (0<=n)&&decide (n<1000000))&&decide (ns.length<=1000)
noncomputable def Cp:PV->Option PV
 |.lst l=>(eo l).bind λns=>if u9 ns then some (.int ns.sum)else none
 |_=>none
noncomputable def bY(ft:Nat->List Str)(f:Str):PV->Option PV
 |.ins c l=>((ft c).zip l).lookup f
 |_=>none
noncomputable def dD(Fs:Nat->List PV->Option PV)(o:Den)(as:bX):Den:=λρ=>(o ρ).bind λp=>match p with
 |.ins c l=>(as ρ).bind λxs=>Fs c (.ins c l::xs)
 |_=>none
noncomputable def jF(i:Nat):List PV->List PV
 |[]=>[]
 |x::l=>.tup [.int (i:Nat),x]::jF (i+1) l
noncomputable def yJ(a:Den):bX:=λρ=>(a ρ).bind λp=>(jB p).map (jF 0)
noncomputable def kP(e:Den)(ρ:bM):List PV->Option (List PV)
 |[]=>some []
 |.tup [x,y]::xs=>(e (.sh x::.sh y::ρ)).bind λz=>(kP e ρ xs).map (z::·)
 |_::_=>none
noncomputable def jG(it:bX)(e:Den):Den:=λρ=>(it ρ).bind λxs=>if xs.length<=sizeLine then(kP e ρ xs).map PV.lst else none
noncomputable def Ao:PV->Option PV
 |.int i=>some (.int i)
 |.bl b=>some (.int (if b then 1 else 0))
 |_=>none
noncomputable def jH(x:Int):List Int->Nat
 |[]=>0
 |y::l=>if y=x then 0 else jH x l+1
noncomputable def sT:PV->PV->Option PV
 |.lst l,.int x=>(eo l).bind λns=>if x∈ns then some (.int (jH x ns:Nat))else none
 |_,_=>none
noncomputable def LW(b:Bool):PV->Option PV
 |.bl c=>some (.bl (c==b))
 |_=>none
structure Tb where
 rows:List PV
 sol:List PV
 cs:PV
 dd:PV
 deriving Inhabited
noncomputable def cX(t:Tb):PV:=.ins 0 [.lst t.rows,.lst t.sol,t.cs,t.dd]
noncomputable abbrev eu:=Tb->bM->Option (Tb×bM)
noncomputable def ck(t:Tb)(ρ:bM):bM:=ρ.set 0 (.sh (cX t))
noncomputable def allFlat:PV->Bool
 |.lst l=>l.all flat
 |_=>false
noncomputable def Hu:eu:=λt ρ=>some (t,ρ)
noncomputable def sU(a b:eu):eu:=λt ρ=>(a t ρ).bind λq=>b q.1 q.2
noncomputable def va(i:Nat)(f:Den):eu:=λt ρ=>(f (ck t ρ)).bind λp=>if flat p then some (t,ρ.set i (.sh p))else none
noncomputable def Cq(i:Nat)(k:Den):eu:=λt ρ=>(k (ck t ρ)).bind λp=>(Fq p).bind λj=>(itemAt t.rows j).map λq=>(t,ρ.set i (.sh q))
noncomputable def Fu(k f:Den):eu:=λt ρ=>(f (ck t ρ)).bind λy=>if allFlat y then(k (ck t ρ)).bind λp=>(Fq p).bind λj=>(Br t.rows.length j).map λn=>({t with rows:=t.rows.set n y},ρ)else none
noncomputable def Jr(k f:Den):eu:=λt ρ=>(f (ck t ρ)).bind λy=>if flat y then(k (ck t ρ)).bind λp=>(Fq p).bind λj=>(Br t.sol.length j).map λn=>({t with sol:=t.sol.set n y},ρ)else none
noncomputable def sV(f:Den):eu:=λt ρ=>(f (ck t ρ)).bind λy=>if allFlat y then some ({t with cs:=y},ρ)else none
noncomputable def sW(f:Den):eu:=λt ρ=>(f (ck t ρ)).bind λy=>if flat y then some ({t with dd:=y},ρ)else none
noncomputable def Ou(c:cD)(a b:eu):eu:=λt ρ=>(c (ck t ρ)).bind λk=>if k then a t ρ else b t ρ
noncomputable def yK(i:Nat)(body:eu):List PV->eu
 |[]=>λt ρ=>some (t,ρ)
 |x::xs=>λt ρ=>(body t (ρ.set i (.sh x))).bind λq=>yK i body xs q.1 q.2
noncomputable def Fv(i:Nat)(a:Den)(body:eu):eu:=λt ρ=>(cL a (ck t ρ)).bind λxs=>yK i body xs t ρ
noncomputable def eX(c:cD)(body:eu):Nat->eu
 |0=>λ_ _=>none
 |n+1=>λt ρ=>(c (ck t ρ)).bind λk=>if k then(body t ρ).bind λq=>eX c body n q.1 q.2 else some (t,ρ)
noncomputable def yL(F:Tb->List PV->Option Tb)(as:bX):eu:=λt ρ=>(as (ck t ρ)).bind λps=>if ps.all flat then(F t ps).map λt'=>(t',ρ)else none
noncomputable def Hv(n k:Nat)(body:eu)(t:Tb)(ps:List PV):Option Tb:=if ps.length+1=k then(body t (.un::(ps.map Slot.sh++List.replicate (n-k) .un))).map Prod.fst else none
noncomputable def fC(c:Nat):List Str:=if c=0 then["rows","solved","costs","parts_of_one"]else[]
noncomputable def hV(F:List PV->Option PV):Nat->List PV->Option PV
 |0=>F
 |_+1=>λ_=>none
noncomputable abbrev iN:=bM->Option PV
noncomputable def vb(g:aL)(g':iN):iN:=λρ=>(g ρ).bind λfl=>match fl with
 |.nx ρ'=>g' ρ'
 |_=>none
noncomputable def Js(t:cD)(a b:iN):iN:=λρ=>(t ρ).bind λc=>if c then a ρ else b ρ
noncomputable def Ap(b:Bool)(f g:Den):iN:=λρ=>(f ρ).bind λx=>(g ρ).bind λy=>some (.tup [.bl b,.tup [x,y]])
noncomputable def Kx(n k:Nat)(body:iN)(ps:List PV):Option PV:=if ps.length=k then body (dJ n ps)else none
noncomputable def oR(i:Nat)(FT:List PV->Option Tb)(FS:Tb->List PV->Option Tb)(as:bX)(rest:iN):iN:=λρ=>(as ρ).bind λps=>(FT ps).bind λt=>(FS t []).bind λt'=>if i<ρ.length then rest (ρ.set i (.sh (cX t')))else none
noncomputable abbrev jm:=List PV->List PV->bM->Option (List PV×List PV×bM)
noncomputable def Cr(a b:jm):jm:=λrows sol ρ=>(a rows sol ρ).bind λq=>b q.1 q.2.1 q.2.2
noncomputable def Fw(i:Nat)(f:Den):jm:=λrows sol ρ=>(f ρ).map λp=>(rows,sol,ρ.set i (.sh p))
noncomputable def Fx(f:Den):jm:=λrows sol ρ=>(f ρ).bind λp=>if rows.length<sizeLine then some (rows++[p],sol,ρ)else none
noncomputable def Fy(f:Den):jm:=λrows sol ρ=>(f ρ).bind λp=>if sol.length<sizeLine then some (rows,sol++[p],ρ)else none
noncomputable def nh(i j:Nat)(body:jm):List PV->Nat->jm
 |[],_=>λrows sol ρ=>some (rows,sol,ρ)
 |x::xs,n=>λrows sol ρ=>(body rows sol ((ρ.set i (.sh (.int (n:Nat)))).set j (.sh x))).bind λq=>nh i j body xs (n+1) q.1 q.2.1 q.2.2
noncomputable def sX(k i j:Nat)(body:jm):jm:=λrows sol ρ=>match ρ[k]? with
 |some (.sh (.lst l))=>nh i j body l 0 rows sol ρ
 |_=>none
noncomputable def Jt(g:jm)(f4 f5:Den):bM->Option Tb:=λρ=>(g [] [] ρ).bind λq=>(f4 q.2.2).bind λc=>(f5 q.2.2).map λd=>⟨q.1,q.2.1,c,d⟩
noncomputable def eY(g:aL)(g':bM->Option Tb):bM->Option Tb:=λρ=>(g ρ).bind λfl=>match fl with
 |.nx ρ'=>g' ρ'
 |_=>none
noncomputable def Cs(F:List PV->Option Tb)(as:bX):bM->Option Tb:=λρ=>(as ρ).bind F
noncomputable def Ky(n k:Nat)(body:bM->Option Tb)(ps:List PV):Option Tb:=if ps.length=k then body (dJ n ps)else none
noncomputable def Kz(n k:Nat)(body:bM->Option Tb)(ps:List PV):Option Tb:=if ps.length+1=k then body (.un::(ps.map Slot.sh++List.replicate (n-k) .un))else none
noncomputable def oS:PV->Option PV
 |.lst l=>(eo l).map λns=>.int ns.sum
 |_=>none
noncomputable def Ct(b:Bool):PV->Option PV
 |.bl c=>some (.bl !(c==b))
 |_=>none
theorem oT(rk:Int->Nat)(x:Int):∀l:List Int,(An rk x l).Perm (x::l)
 |[]=>List.Perm.refl _
 |y::l=>by
  unfold An
  split
  ·exact List.Perm.refl _
  ·exact((oT rk x l).cons y).trans (List.Perm.swap x y l)
theorem gC(rk:Int->Nat):∀l:List Int,(eW rk l).Perm l
 |[]=>List.Perm.refl _
 |x::l=>(oT rk x (eW rk l)).trans ((gC rk l).cons x)
theorem oU(rk:Int->Nat)(x:Int):∀l:List Int,l.Pairwise (λa b=>rk a<=rk b)->(An rk x l).Pairwise (λa b=>rk a<=rk b)
 |[],_=>List.pairwise_singleton _ _
 |y::l,h=>by
  unfold An
  obtain⟨h1,h2⟩:=List.pairwise_cons.mp h
  split
  ·rename_i Ju
   refine List.pairwise_cons.mpr ⟨λz hz=>?_,h⟩
   rcases List.mem_cons.mp hz with rfl|hz
   ·exact Ju
   ·exact Nat.le_trans Ju (h1 z hz)
  ·rename_i Ju
   refine List.pairwise_cons.mpr ⟨λz hz=>?_,oU rk x l h2⟩
   rcases List.mem_cons.mp ((oT rk x l).mem_iff.mp hz)with rfl|hz
   ·omega
   ·exact h1 z hz
theorem jI(rk:Int->Nat):∀l:List Int,(eW rk l).Pairwise (λa b=>rk a<=rk b)
 |[]=>List.Pairwise.nil
 |x::l=>oU rk x _ (jI rk l)
theorem Fz{n m:Int}(h1:mf n=true)(h2:mf m=true)(e:hU n=hU m):n=m:=by
 unfold mf at h1 h2
 simp only[Bool.and_eq_true,decide_eq_true_eq]at h1 h2
 have:=Mt.oM (a:=n.toNat) (b:=m.toNat) (by omega) (by omega) e
 omega
theorem ni:∀{l m:List Int},l.Perm m->l.Pairwise (λa b=>hU a<=hU b)->m.Pairwise (λa b=>hU a<=hU b)->(∀n∈m,mf n=true)->l=m
 |[],[],_,_,_,_=>rfl
 |[],_::_,p,_,_,_=>by have:=p.length_eq;simp at this
 |_::_,[],p,_,_,_=>by have:=p.length_eq;simp at this
 |x::l,y::m,p,h1,h2,ok=>by
  obtain⟨a1,a2⟩:=List.pairwise_cons.mp h1
  obtain⟨b1,b2⟩:=List.pairwise_cons.mp h2
  have hx:x∈y::m:=p.mem_iff.mp (List.mem_cons_self ..)
  have hy:y∈x::l:=p.mem_iff.mpr (List.mem_cons_self ..)
  have e:x=y:=by
   refine Fz (ok x hx) (ok y (List.mem_cons_self ..)) (Nat.le_antisymm ?_ ?_)
   ·rcases List.mem_cons.mp hy with e|e
    ·rw[e];exact Nat.le_refl _
    ·exact a1 y e
   ·rcases List.mem_cons.mp hx with e|e
    ·rw[e];exact Nat.le_refl _
    ·exact b1 x e
  subst e
  rw[ni (List.Perm.cons_inv p) a2 b2 λn hn=>ok n (List.mem_cons_of_mem _ hn)]
end L2.D
namespace L2.D
open PySem PySem.Spec PyProof.Rows
open Classical
structure Kl where
 adr:Nat->Addr
 fld:Nat->List Str
noncomputable def SL(K:PySem.W.Frag)(H:Hp)(a:Addr)(xs:List V):Prop:=
 Rd H a (.lst xs)\/∃(its:List Value) (n:Nat),K.lookup a=some {cls:=.type "list",data:=.seq its.toArray n}/\its.length<=sizeLine/\Vals xs its
theorem SL.of{K:PySem.W.Frag}{H:Hp}{a:Addr}{xs:List V}(h:H a=some (.lst xs)):SL K H a xs:=.inl (.inl h)
theorem SL.sq{K:PySem.W.Frag}{H:Hp}{a:Addr}{xs:List V}(h:SL K H a xs):fQ K H a xs:=by
 rcases h with h|⟨its,n,h1,h2,h3⟩
 ·exact .inl h
 ·exact .inr ⟨_,its.toArray,n,h1,rfl,rfl,rfl,by simpa using h2,by simpa using h3⟩
theorem _root_.L2.aE.sl{K:PySem.W.Frag}{H H':Hp}{a:Addr}{xs:List V}(e:aE H H')(h:SL K H a xs):SL K H' a xs:=by
 rcases h with(h|⟨o,h⟩)|h
 ·exact .inl (.inl (e _ _ h))
 ·exact .inl (.inr ⟨o,e _ _ h⟩)
 ·exact .inr h
theorem _root_.L2.Inv.sl{X:Cx}{pins:List (Addr×Obj)}{σ:St}{H:Hp}{s:Shared}{a:Addr}{xs:List V}(I:Inv X pins σ H s)(h:SL X.K H a xs):∃(its:List Value) (n:Nat),Vals xs its/\s.heap.get? a=some {cls:=.type "list",data:=.seq its.toArray n}/\xs.length<=sizeLine:=by
 rcases h with h|⟨its,n,h1,h2,h3⟩
 ·obtain⟨z,its,n,r,e⟩:=h.ok I.dR
  exact⟨its,n,r,e,z⟩
 ·exact⟨its,n,h3,I.oi a _ h1,by rw[h3.length];exact h2⟩
mutual
inductive Rep(K:PySem.W.Frag)(κ:Kl)(H:Hp):V->PV->Prop
 |non:Rep K κ H .non .non
 |bl (b:Bool):Rep K κ H (.bl b) (.bl b)
 |int (i:Int):Rep K κ H (.int i) (.int i)
 |str (x:Str):Rep K κ H (.str x) (.str x)
 |lst {a:Addr} {vs:List V} {l:List PV}:SL K H a vs->aT K κ H vs l->Rep K κ H (.ref a) (.lst l)
 |tup {a:Addr} {vs:List V} {l:List PV}:pY K H a vs->aT K κ H vs l->Rep K κ H (.ref a) (.tup l)
 |ins {a dx:Addr} {c:Nat} {vs:List V} {l:List PV}:H a=some (.ins (κ.adr c) dx ((κ.fld c).zip vs))->vs.length=(κ.fld c).length->aT K κ H vs l->Rep K κ H (.ref a) (.ins c l)
inductive aT(K:PySem.W.Frag)(κ:Kl)(H:Hp):List V->List PV->Prop
 |nil:aT K κ H [] []
 |cons {v:V} {p:PV} {vs:List V} {l:List PV}:Rep K κ H v p->aT K κ H vs l->aT K κ H (v::vs) (p::l)
end
section
variable{K:PySem.W.Frag}{κ:Kl}{H H' H1:Hp}
theorem yM{a:Addr}{xs:List V}(e:aE H H')(h:pY K H a xs):pY K H' a xs:=by
 rcases h with(h|⟨o,h⟩)|h
 ·exact .inl (.inl (e _ _ h))
 ·exact .inl (.inr ⟨o,e _ _ h⟩)
 ·exact .inr h
mutual
theorem Rep.mono(e:aE H H'):∀{v:V} {p:PV},Rep K κ H v p->Rep K κ H' v p
 |_,_,.non=>.non
 |_,_,.bl b=>.bl b
 |_,_,.int i=>.int i
 |_,_,.str x=>.str x
 |_,_,.lst h r=>.lst (e.sl h) (aT.mono e r)
 |_,_,.tup h r=>.tup (yM e h) (aT.mono e r)
 |_,_,.ins h z r=>.ins (e _ _ h) z (aT.mono e r)
theorem aT.mono(e:aE H H'):∀{vs:List V} {l:List PV},aT K κ H vs l->aT K κ H' vs l
 |_,_,.nil=>.nil
 |_,_,.cons r t=>.cons (Rep.mono e r) (aT.mono e t)
end
theorem aT.length:∀{vs:List V} {l:List PV},aT K κ H vs l->vs.length=l.length
 |_,_,.nil=>rfl
 |_,_,.cons _ t=>by rw[List.length_cons,List.length_cons,t.length]
theorem aT.append:∀{vs ws:List V} {l m:List PV},aT K κ H vs l->aT K κ H ws m->aT K κ H (vs++ws) (l++m)
 |_,_,_,_,.nil,s=>s
 |_,_,_,_,.cons r t,s=>.cons r (t.append s)
theorem aT.get:∀{vs:List V} {l:List PV} {i:Nat} {p:PV},aT K κ H vs l->l[i]?=some p->∃v,vs[i]?=some v/\Rep K κ H v p
 |_,_,_,_,.nil,e=>by simp at e
 |_,_,0,_,.cons r _,e=>by simp at e;subst e;exact⟨_,rfl,r⟩
 |_,_,i+1,p,.cons _ t,e=>by
  obtain⟨v,h1,h2⟩:=aT.get (i:=i) (p:=p) t (by simpa using e)
  exact⟨v,by simpa using h1,h2⟩
theorem aT.take:∀{vs:List V} {l:List PV} (n:Nat),aT K κ H vs l->aT K κ H (vs.take n) (l.take n)
 |_,_,0,_=>.nil
 |_,_,_+1,.nil=>.nil
 |_,_,n+1,.cons r t=>.cons r (t.take n)
theorem aT.drop:∀{vs:List V} {l:List PV} (n:Nat),aT K κ H vs l->aT K κ H (vs.drop n) (l.drop n)
 |_,_,0,r=>r
 |_,_,_+1,.nil=>.nil
 |_,_,n+1,.cons _ t=>t.drop n
theorem aT.set{v:V}{p:PV}(r:Rep K κ H v p):∀{vs:List V} {l:List PV} (i:Nat),aT K κ H vs l->aT K κ H (vs.set i v) (l.set i p)
 |_,_,_,.nil=>.nil
 |_,_,0,.cons _ t=>.cons r t
 |_,_,i+1,.cons q t=>.cons q (aT.set r i t)
theorem Rep.flat{v:V}{p:PV}(f:flat p=true)(r:Rep K κ H v p):Rep K κ H' v p:=by
 cases r with
 |non=>exact .non
 |bl b=>exact .bl b
 |int i=>exact .int i
 |str x=>exact .str x
 |lst _ _=>simp[D.flat]at f
 |tup _ _=>simp[D.flat]at f
 |ins _ _ _=>simp[D.flat]at f
end
noncomputable def hide(A:Addr->Prop)(H:Hp):Hp:=λb=>if A b then none else H b
theorem bj{A:Addr->Prop}{H:Hp}{b:Addr}(h:¬A b):hide A H b=H b:=if_neg h
theorem cn{A:Addr->Prop}{H:Hp}{b:Addr}{o:HO}(h:hide A H b=some o):¬A b/\H b=some o:=by
 unfold hide at h
 by_cases e:A b
 ·rw[if_pos e]at h
  cases h
 ·rw[if_neg e]at h
  exact⟨e,h⟩
theorem aF{A:Addr->Prop}{H H':Hp}(h:aE H H'):aE (hide A H) (hide A H'):=λb o e=>by
 obtain⟨h1,h2⟩:=cn e
 rw[bj h1]
 exact h b o h2
theorem cQ{A B:Addr->Prop}{H H':Hp}(h:aE H H')(s:∀b,B b->H b≠none->A b):aE (hide A H) (hide B H'):=λb o e=>by
 obtain⟨h1,h2⟩:=cn e
 rw[bj λz=>h1 (s b z (by rw[h2];simp))]
 exact h b o h2
theorem av{A:Addr->Prop}{H:Hp}:aE (hide A H) H:=λb o e=>(cn e).2
theorem lJ{A:Addr->Prop}{H:Hp}{a:Addr}{o:HO}(h:A a):hide A (upd H a o)=hide A H:=by
 funext b
 unfold hide
 by_cases e:A b
 ·rw[if_pos e,if_pos e]
 ·rw[if_neg e,if_neg e]
  exact au λz=>e (z▸h)
theorem bD{H:Hp}{a:Addr}{o:HO}(h:H a=none):aE H (upd H a o):=λb u q=>by rw[au (aW q h)];exact q
noncomputable def Cu:Cn->List V->HO
 |.l _,vs=>.lst vs
 |.d d,vs=>.dK (List.zipWith (λ(p:Int×PV) (v:V)=>((Sum.inl p.1:Key),v)) d vs)
noncomputable def Jv:Cn->List PV
 |.l l=>l
 |.d d=>d.map (·.2)
noncomputable def xc(own:Nat->Addr)(ρ:bM):Addr->Prop:=λb=>∃i l,ρ[i]?=some (.own l)/\own i=b
noncomputable def cG(A:Addr->Prop)(own:Nat->Addr)(ρ:bM):Addr->Prop:=λb=>A b\/xc own ρ b
noncomputable abbrev dX(A:Addr->Prop)(own:Nat->Addr)(ρ:bM)(H:Hp):Hp:=hide (cG A own ρ) H
structure R(K:PySem.W.Frag)(κ:Kl)(G:Hp)(A:Addr->Prop)(bo:Nat->Option (Addr×List V))(own:Nat->Addr)(ρ:bM)(σ:St)(H:Hp):Prop where
 al:∀b,A b->G b≠none
 bg:∀i a vs,bo i=some (a,vs)->G a=some (.lst vs)
 same:aE G H
 sh:∀(i:Nat) p,ρ[i]?=some (.sh p)->∃v,σ[i]?=some (some v)/\Rep K κ (dX A own ρ H) v p
 ow:∀(i:Nat) l,ρ[i]?=some (.own l)->σ[i]?=some (some (.ref (own i)))/\G (own i)=none/\∃vs,H (own i)=some (Cu l vs)/\aT K κ (dX A own ρ H) vs (Jv l)
 inj:∀(i j:Nat) l m,ρ[i]?=some (.own l)->ρ[j]?=some (.own m)->own i=own j->i=j
 bw:∀(i:Nat) l,ρ[i]?=some (.bw l)->∃a vs,bo i=some (a,vs)/\σ[i]?=some (some (.ref a))/\aT K κ (dX A own ρ H) vs l
 len:σ.length=ρ.length
section
variable{K:PySem.W.Frag}{κ:Kl}{G G' H H' H1:Hp}{A:Addr->Prop}{bo:Nat->Option (Addr×List V)}{own dq:Nat->Addr}{ρ ρ':bM}{σ σ':St}
theorem R.mono(r:R K κ G A bo own ρ σ H)(s:aE H H1):R K κ G A bo own ρ σ H1 where
 al:=r.al
 bg:=r.bg
 same:=r.same.trans s
 sh:=λi p e=>let⟨v,h1,h2⟩:=r.sh i p e;⟨v,h1,h2.mono (aF s)⟩
 ow:=λi l e=>let⟨h1,h2,vs,h3,h4⟩:=r.ow i l e;⟨h1,h2,vs,s _ _ h3,h4.mono (aF s)⟩
 inj:=r.inj
 bw:=λi l e=>let⟨a,vs,h1,h2,h3⟩:=r.bw i l e;⟨a,vs,h1,h2,h3.mono (aF s)⟩
 len:=r.len
theorem R.new(r:R K κ G A bo own ρ σ H){a:Addr}(h:H a=none):¬cG A own ρ a:=by
 rintro(z|⟨i,l,h1,rfl⟩)
 ·cases e:G a with
  |none=>exact r.al a z e
  |some o=>
   rw[r.same _ _ e]at h
   cases h
 ·obtain⟨_,_,vs,h3,_⟩:=r.ow i l h1
  rw[h3]at h
  cases h
theorem R.Bt(r:R K κ G A bo own ρ σ H){b:Addr}(h:cG A own ρ b):H b≠none:=λz=>r.new z h
noncomputable def Bu(own:Nat->Addr)(ρ:bM)(H:Hp):Hp:=hide (xc own ρ) H
theorem lK:hide A (Bu own ρ H)=dX A own ρ H:=by
 funext b
 unfold Bu dX hide cG
 by_cases h1:A b<;>by_cases h2:xc own ρ b<;>simp[h1,h2]
theorem R.gv(r:R K κ G A bo own ρ σ H):aE G (Bu own ρ H):=λb o e=>by
 unfold Bu
 rw[bj]
 ·exact r.same _ _ e
 ·rintro⟨i,l,h1,rfl⟩
  rw[(r.ow i l h1).2.1]at e
  cases e
theorem R.big(r:R K κ G A bo own ρ σ H):R K κ (Bu own ρ H) A bo own ρ σ H where
 al:=λb h z=>by
  cases e:G b with
  |none=>exact r.al b h e
  |some o=>
   rw[r.gv _ _ e]at z
   cases z
 bg:=λi a vs h=>r.gv _ _ (r.bg i a vs h)
 same:=av
 sh:=r.sh
 ow:=λi l e=>let⟨h1,h2,h3⟩:=r.ow i l e;⟨h1,by unfold Bu hide;rw[if_pos ⟨i,l,e,rfl⟩],h3⟩
 inj:=r.inj
 bw:=r.bw
 len:=r.len
theorem R.small(r:R K κ G' A bo own ρ σ H)(s:aE G G')(al:∀b,A b->G b≠none)(bg:∀i a vs,bo i=some (a,vs)->G a=some (.lst vs)):R K κ G A bo own ρ σ H where
 al:=al
 bg:=bg
 same:=s.trans r.same
 sh:=r.sh
 ow:=λi l e=>let⟨h1,h2,h3⟩:=r.ow i l e;⟨h1,s.free h2,h3⟩
 inj:=r.inj
 bw:=r.bw
 len:=r.len
theorem R.FE(r:R K κ G A bo own ρ σ H):aE (hide A G) (dX A own ρ H):=λb o e=>by
 obtain⟨h1,h2⟩:=cn e
 rw[dX,bj]
 ·exact r.same _ _ h2
 ·rintro(z|⟨i,l,h3,rfl⟩)
  ·exact h1 z
  ·rw[(r.ow i l h3).2.1]at h2
   cases h2
theorem Cv{i:Nat}{p:PV}{b:Addr}(h:xc own (ρ.set i (.sh p)) b):xc own ρ b:=by
 obtain⟨j,l,h1,h2⟩:=h
 rw[List.getElem?_set]at h1
 split at h1
 ·split at h1<;>cases h1
 ·exact⟨j,l,h1,h2⟩
theorem ki{i:Nat}{p:PV}:aE (dX A own ρ H) (dX A own (ρ.set i (.sh p)) H):=cQ (λ_ _ h=>h) λb h _=>by
 rcases h with h|h
 ·exact .inl h
 ·exact .inr (Cv h)
theorem R.set(r:R K κ G A bo own ρ σ H){i:Nat}{v:V}{p:PV}(h:Rep K κ (dX A own ρ H) v p):R K κ G A bo own (ρ.set i (.sh p)) (σ.set i (some v)) H:=by
 have ne:∀{j:Nat} {x:Slot},(ρ.set i (.sh p))[j]?=some x->x≠.sh p->i≠j/\ρ[j]?=some x:=λ{j x} e nx=>by
  rw[List.getElem?_set]at e
  split at e
  ·split at e
   ·exact absurd (Option.some.inj e).symm nx
   ·cases e
  ·exact⟨by assumption,e⟩
 refine⟨r.al,r.bg,r.same,λj q e=>?_,λj l e=>?_,λj k l m e f=>?_,λj l e=>?_,by rw[List.length_set,List.length_set];exact r.len⟩
 ·by_cases hj:i=j
  ·subst hj
   rw[List.getElem?_set]at e
   rw[if_pos rfl]at e
   split at e
   ·injection e with e
    injection e with e
    subst e
    exact⟨v,by rw[List.getElem?_set,if_pos rfl,if_pos (by rw[r.len];assumption)],h.mono ki⟩
   ·cases e
  ·rw[List.getElem?_set,if_neg hj]at e
   obtain⟨u,h1,h2⟩:=r.sh j q e
   exact⟨u,by rw[List.getElem?_set,if_neg hj];exact h1,h2.mono ki⟩
 ·obtain⟨hj,e⟩:=ne e (by simp)
  obtain⟨h1,h2,vs,h3,h4⟩:=r.ow j l e
  exact⟨by rw[List.getElem?_set,if_neg hj];exact h1,h2,vs,h3,h4.mono ki⟩
 ·exact r.inj j k l m (ne e (by simp)).2 (ne f (by simp)).2
 ·obtain⟨hj,e⟩:=ne e (by simp)
  obtain⟨a,vs,h1,h2,h3⟩:=r.bw j l e
  exact⟨a,vs,h1,by rw[List.getElem?_set,if_neg hj];exact h2,h3.mono ki⟩
theorem R.LX(r:R K κ G A bo own ρ σ H){i:Nat}{a:Addr}{vs:List V}{l:Cn}(hG:G a=none)(hA:¬A a)(hj:∀(j:Nat) m,ρ[j]?=some (.own m)->j≠i->own j≠a)(s:aE (dX A own ρ H) (hide (λb=>cG A own ρ b\/b=a) H1))(hk:∀b o,H b=some o->b≠a->H1 b=some o)
  (h1:H1 a=some (Cu l vs))(h2:aT K κ (hide (λb=>cG A own ρ b\/b=a) H1) vs (Jv l)):R K κ G A bo (λj=>if j=i then a else own j) (ρ.set i (.own l)) (σ.set i (some (.ref a))) H1:=by
 by_cases hi:i<ρ.length
 rotate_left
 ·rw[List.set_eq_of_length_le (by omega),List.set_eq_of_length_le (by rw[r.len];omega)]
  have oe:∀(j:Nat) x,ρ[j]?=some x->(if j=i then a else own j)=own j:=λj x e=>if_neg λz=>by
   have:=(List.getElem?_eq_some_iff.mp e).1
   omega
  have se:cG A (λj=>if j=i then a else own j) ρ=cG A own ρ:=by
   funext b
   unfold cG xc
   refine propext (or_congr Iff.rfl ⟨?_,?_⟩)
   ·rintro⟨j,m,e,z⟩
    exact⟨j,m,e,by rw[<-oe j _ e];exact z⟩
   ·rintro⟨j,m,e,z⟩
    exact⟨j,m,e,by show(if j=i then a else own j)=b;rw[oe j _ e];exact z⟩
  have sm:aE (dX A own ρ H) (dX A own ρ H1):=s.trans (cQ (λ_ _ h=>h) λb h _=>.inl h)
  refine⟨r.al,r.bg,λb o e=>hk b o (r.same _ _ e) (λz=>by rw[z,hG]at e;cases e),λj q e=>?_,λj m e=>?_,λj k m n e f z=>?_,λj m e=>?_,r.len⟩
  ·obtain⟨u,z1,z2⟩:=r.sh j q e
   exact⟨u,z1,by rw[dX,se];exact z2.mono sm⟩
  ·rw[oe j _ e]
   obtain⟨z1,z2,ws,z3,z4⟩:=r.ow j m e
   have qi:j≠i:=λz=>by
    have:=(List.getElem?_eq_some_iff.mp e).1
    omega
   exact⟨z1,z2,ws,hk _ _ z3 (hj j m e qi),by rw[dX,se];exact z4.mono sm⟩
  ·skip
   rw[oe j _ e,oe k _ f]at z
   exact r.inj j k m n e f z
  ·obtain⟨b,ws,z1,z2,z3⟩:=r.bw j m e
   exact⟨b,ws,z1,z2,by rw[dX,se];exact z3.mono sm⟩
 have LY:∀b,cG A (λj=>if j=i then a else own j) (ρ.set i (.own l)) b->cG A own ρ b\/b=a:=λb h=>by
  rcases h with h|⟨j,m,e,z⟩
  ·exact .inl (.inl h)
  ·by_cases Ov:j=i
   ·subst Ov
    try dsimp only at z
    rw[if_pos rfl]at z
    exact .inr z.symm
   ·dsimp only at z
    rw[if_neg Ov]at z
    rw[List.getElem?_set,if_neg (Ne.symm Ov)]at e
    exact .inl (.inr ⟨j,m,e,z⟩)
 have sm:aE (hide (λb=>cG A own ρ b\/b=a) H1) (dX A (λj=>if j=i then a else own j) (ρ.set i (.own l)) H1):=cQ (λ_ _ h=>h) λb h _=>LY b h
 have me:aE (dX A own ρ H) (dX A (λj=>if j=i then a else own j) (ρ.set i (.own l)) H1):=s.trans sm
 refine⟨r.al,r.bg,λb o e=>hk b o (r.same _ _ e) (λz=>by rw[z,hG]at e;cases e),λj q e=>?_,λj m e=>?_,λj k m n e f z=>?_,λj m e=>?_,by rw[List.length_set,List.length_set];exact r.len⟩
 ·by_cases kF:i=j
  ·subst kF
   rw[List.getElem?_set,if_pos rfl,if_pos hi]at e
   cases e
  ·rw[List.getElem?_set,if_neg kF]at e
   obtain⟨u,z1,z2⟩:=r.sh j q e
   exact⟨u,by rw[List.getElem?_set,if_neg kF];exact z1,z2.mono me⟩
 ·by_cases kF:i=j
  ·subst kF
   rw[List.getElem?_set,if_pos rfl,if_pos hi]at e
   injection e with e
   injection e with e
   subst e
   try dsimp only
   rw[if_pos rfl]
   exact⟨by rw[List.getElem?_set,if_pos rfl,if_pos (by rw[r.len];exact hi)],hG,vs,h1,h2.mono sm⟩
  ·rw[List.getElem?_set,if_neg kF]at e
   obtain⟨z1,z2,ws,z3,z4⟩:=r.ow j m e
   try dsimp only
   rw[if_neg (Ne.symm kF)]
   exact⟨by rw[List.getElem?_set,if_neg kF];exact z1,z2,ws,hk _ _ z3 (hj j m e (Ne.symm kF)),z4.mono me⟩
 ·skip
  by_cases kF:i=j<;>by_cases Jw:i=k
  ·rw[<-kF,<-Jw]
  ·subst kF
   rw[List.getElem?_set,if_neg Jw]at f
   rw[if_pos rfl,if_neg (Ne.symm Jw)]at z
   exact absurd z.symm (hj k n f (Ne.symm Jw))
  ·subst Jw
   rw[List.getElem?_set,if_neg kF]at e
   rw[if_pos rfl,if_neg (Ne.symm kF)]at z
   exact absurd z (hj j m e (Ne.symm kF))
  ·rw[List.getElem?_set,if_neg kF]at e
   rw[List.getElem?_set,if_neg Jw]at f
   rw[if_neg (Ne.symm kF),if_neg (Ne.symm Jw)]at z
   exact r.inj j k m n e f z
 ·by_cases kF:i=j
  ·subst kF
   rw[List.getElem?_set,if_pos rfl,if_pos hi]at e
   cases e
  ·rw[List.getElem?_set,if_neg kF]at e
   obtain⟨b,ws,z1,z2,z3⟩:=r.bw j m e
   exact⟨b,ws,z1,by rw[List.getElem?_set,if_neg kF];exact z2,z3.mono me⟩
end
end L2.D
namespace L2.D
open PySem PySem.Spec PyProof.Rows
open Classical
noncomputable def BR(K:PySem.W.Frag)(κ:Kl)(hH H:Hp)(v:V)(p:PV):Prop:=Rep K κ hH v p\/∃a vs l,v=.ref a/\p=.lst l/\SL K H a vs/\aT K κ hH vs l
noncomputable def OR(K:PySem.W.Frag)(κ:Kl)(A:Addr->Prop)(H H':Hp)(v:V)(p:PV):Prop:=∃a vs l,v=.ref a/\p=.lst l/\H a=none/\H' a=some (.lst vs)/\aT K κ (hide (λb=>A b\/b=a) H') vs l
noncomputable def M9(K:PySem.W.Frag)(κ:Kl)(te:TE)(f:Den):Prop:=
 ∀{G A bo own ρ σ H p Q},R K κ G A bo own ρ σ H->f ρ=some p->(∀v H',aE H H'->Rep K κ (dX A own ρ H') v p->Q v H')->te σ H Q
noncomputable def Na(K:PySem.W.Frag)(κ:Kl)(te:TE)(f:Den):Prop:=
 ∀{G A bo own ρ σ H p Q},R K κ G A bo own ρ σ H->f ρ=some p->(∀v H',aE H H'->BR K κ (dX A own ρ H') H' v p->Q v H')->te σ H Q
noncomputable def Ow(K:PySem.W.Frag)(κ:Kl)(te:TE)(f:Den):Prop:=
 ∀{G A bo own ρ σ H p Q},R K κ G A bo own ρ σ H->f ρ=some p->(∀v H',aE H H'->OR K κ (cG A own ρ) H H' v p->Q v H')->te σ H Q
noncomputable def Ox(K:PySem.W.Frag)(κ:Kl)(tt:TT)(f:cD):Prop:=
 ∀{G A bo own ρ σ H b Q},R K κ G A bo own ρ σ H->f ρ=some b->(∀H',aE H H'->Q b H')->tt σ H Q
noncomputable def DE(X:Cx)(κ:Kl)(e:Expr)(f:Den):Prop:=∃te,PE X e te/\M9 X.K κ te f
noncomputable def DB(X:Cx)(κ:Kl)(e:Expr)(f:Den):Prop:=∃te,PE X e te/\Na X.K κ te f
noncomputable def DO(X:Cx)(κ:Kl)(e:Expr)(f:Den):Prop:=∃te,PE X e te/\Ow X.K κ te f
noncomputable def DT(X:Cx)(κ:Kl)(e:Expr)(f:cD):Prop:=∃tt,PT X e tt/\Ox X.K κ tt f
noncomputable def DW(X:Cx)(κ:Kl)(e:Expr)(f:cD):Prop:=∃tt,PW X e tt/\Ox X.K κ tt f
section
variable{K:PySem.W.Frag}{κ:Kl}{G hH PX H H' H1:Hp}{A:Addr->Prop}{bo:Nat->Option (Addr×List V)}{own:Nat->Addr}{ρ:bM}{σ:St}{v:V}{p:PV}
theorem BR.mono(h:BR K κ hH H v p)(s1:aE hH PX)(s2:aE H H'):BR K κ PX H' v p:=by
 rcases h with h|⟨a,vs,l,h1,h2,h3,h4⟩
 ·exact .inl (h.mono s1)
 ·exact .inr ⟨a,vs,l,h1,h2,s2.sl h3,h4.mono s1⟩
theorem BR.Cw(h:BR K κ (hide A H) H v p)(s2:aE H H'):BR K κ (hide A H') H' v p:=h.mono (aF s2) s2
theorem BR.full(h:BR K κ hH H v p)(s:aE hH H):Rep K κ H v p:=by
 rcases h with h|⟨a,vs,l,rfl,rfl,h3,h4⟩
 ·exact h.mono s
 ·exact .lst h3 (h4.mono s)
theorem BR.lst{l:List PV}(h:BR K κ hH H v (.lst l))(s:aE hH H):∃a vs,v=.ref a/\SL K H a vs/\aT K κ hH vs l:=by
 rcases h with h|⟨a,vs,l',h1,h2,h3,h4⟩
 ·cases h with
  |lst h1 h2=>exact⟨_,_,rfl,s.sl h1,h2⟩
 ·cases h2
  exact⟨a,vs,h1,h3,h4⟩
theorem BR.tup{l:List PV}(h:BR K κ hH H v (.tup l))(s:aE hH H):∃a vs,v=.ref a/\pY K H a vs/\aT K κ hH vs l:=by
 rcases h with h|⟨a,vs,l',h1,h2,h3,h4⟩
 ·cases h with
  |tup h1 h2=>exact⟨_,_,rfl,yM s h1,h2⟩
 ·cases h2
theorem BR.int{i:Int}(h:BR K κ hH H v (.int i)):v=.int i:=by
 rcases h with h|⟨a,vs,l',h1,h2,h3,h4⟩
 ·cases h;rfl
 ·cases h2
theorem BR.bl{i:Bool}(h:BR K κ hH H v (.bl i)):v=.bl i:=by
 rcases h with h|⟨a,vs,l',h1,h2,h3,h4⟩
 ·cases h;rfl
 ·cases h2
theorem BR.str{i:Str}(h:BR K κ hH H v (.str i)):v=.str i:=by
 rcases h with h|⟨a,vs,l',h1,h2,h3,h4⟩
 ·cases h;rfl
 ·cases h2
theorem Rep.wq{i:Bool}(h:Rep K κ hH v (.bl i)):v=.bl i:=by cases h;rfl
theorem Rep.Fq{i:Int}(h:Rep K κ hH v (.int i)):v=.int i:=by cases h;rfl
theorem R.vc(r:R K κ G A bo own ρ σ H){a:Addr}{vs:List V}{l:List PV}(h:H a=none)(q:aT K κ (dX A own ρ H) vs l):OR K κ (cG A own ρ) H (upd H a (.lst vs)) (.ref a) (.lst l):=
 ⟨a,vs,l,rfl,rfl,h,aO,by
   rw[lJ (.inr rfl)]
   exact q.mono (cQ (λ_ _ z=>z) λb z nz=>by
    rcases z with z|z
    ·exact z
    ·rw[z]at nz
     exact absurd h nz)⟩
theorem OR.rep(r:R K κ G A bo own ρ σ H)(h:OR K κ (cG A own ρ) H H' v p):Rep K κ (dX A own ρ H') v p:=by
 obtain⟨a,vs,l,rfl,rfl,h1,h2,h3⟩:=h
 refine .lst (SL.of ?_) (h3.mono (cQ (λ_ _ z=>z) λb z _=>.inl z))
 rw[dX,bj (r.new h1)]
 exact h2
theorem R.Oy(r:R K κ G A bo own ρ σ H){a:Addr}{vs:List V}{l:List PV}(h:H a=none)(q:aT K κ (dX A own ρ H) vs l):Rep K κ (dX A own ρ (upd H a (.tup vs))) (.ref a) (.tup l):=by
 refine .tup (pY.of ?_) (q.mono (aF (bD h)))
 rw[dX,bj (r.new h)]
 exact aO
theorem vd{ta tb:TE}{fa fb:Den}{α:Type}{g:PV->PV->Option α}{z:α}{Rr:V->V->Hp->Prop}(ha:Na K κ ta fa)(hb:Na K κ tb fb)(r:R K κ G A bo own ρ σ H)
  (e:((fa ρ).bind λx=>(fb ρ).bind λy=>g x y)=some z)(q:∀x y p q H',aE H H'->R K κ G A bo own ρ σ H'->BR K κ (dX A own ρ H') H' x p->BR K κ (dX A own ρ H') H' y q->g p q=some z->Rr x y H'):ta σ H λx H1=>tb σ H1 λy H2=>Rr x y H2:=by
 obtain⟨p1,e1,e⟩:=Option.bind_eq_some_iff.mp e
 obtain⟨p2,e2,e⟩:=Option.bind_eq_some_iff.mp e
 refine ha r e1 λx H1 s1 b1=>?_
 refine hb (r.mono s1) e2 λy H2 s2 b2=>?_
 exact q x y p1 p2 H2 (s1.trans s2) (r.mono (s1.trans s2)) (b1.Cw s2) b2 e
end
theorem DE.b{X:Cx}{κ:Kl}{ex:Expr}{f:Den}(h:DE X κ ex f):DB X κ ex f:=let⟨te,h1,h2⟩:=h;⟨te,h1,λr e q=>h2 r e λv H' s z=>q v H' s (.inl z)⟩
theorem DO.e{X:Cx}{κ:Kl}{ex:Expr}{f:Den}(h:DO X κ ex f):DE X κ ex f:=let⟨te,h1,h2⟩:=h;⟨te,h1,λr e q=>h2 r e λv H' s z=>q v H' s (z.rep r)⟩
theorem DO.b{X:Cx}{κ:Kl}{ex:Expr}{f:Den}(h:DO X κ ex f):DB X κ ex f:=h.e.b
section
variable{X:Cx}{κ:Kl}{e a b c:Expr}{f fa fb fc:Den}{pos:Pos}
theorem aw{i:Int}{j pos}:DE X κ (.Constant (.int i) j pos) (dC (.int i)):=⟨_,HY,λ{_ _ _ _ _ _ H _ _} r e q=>by cases e;exact q _ H (aE.refl _) (.int i)⟩
theorem kG{i:Bool}{j pos}:DE X κ (.Constant (.bool i) j pos) (dC (.bl i)):=⟨_,yj,λ{_ _ _ _ _ _ H _ _} r e q=>by cases e;exact q _ H (aE.refl _) (.bl i)⟩
theorem Cy{j pos}:DE X κ (.Constant .none j pos) (dC .non):=⟨_,wx,λ{_ _ _ _ _ _ H _ _} r e q=>by cases e;exact q _ H (aE.refl _) .non⟩
theorem ae(i:Nat){x:Str}{pos:Pos}(hN:autoParam (X.N[i]?=some x) zR._auto_1)(hv:autoParam (uA X.env.scope x) zV._auto_1)(hd:autoParam ((x==("__debug__" :Str))=false) zD._auto_1)
  (om:autoParam ((x==("__classdict__" :Str))=false) zD._auto_1):DB X κ (.Name x pos) (dV i):=⟨_,dh hN hv hd om,λ{G A bo own ρ σ H p Q} r e q=>by
 unfold dV at e
 obtain⟨s,e1,e2⟩:=Option.bind_eq_some_iff.mp e
 cases s with
 |un=>cases e2
 |sh p'=>
  cases e2
  obtain⟨v,h1,h2⟩:=r.sh i _ e1
  exact⟨v,h1,q v H (aE.refl _) (.inl h2)⟩
 |own c=>
  cases c with
  |d _=>cases e2
  |l l=>
  cases e2
  obtain⟨h1,_,vs,h3,h4⟩:=r.ow i _ e1
  exact⟨_,h1,q _ H (aE.refl _) (.inr ⟨_,vs,l,rfl,rfl,SL.of h3,h4⟩)⟩
 |bw l=>
  cases e2
  obtain⟨a,vs,h0,h1,h4⟩:=r.bw i _ e1
  exact⟨_,h1,q _ H (aE.refl _) (.inr ⟨_,vs,l,rfl,rfl,SL.of (r.same _ _ (r.bg _ _ _ h0)),h4⟩)⟩⟩
theorem aq(i:Nat){x:Str}{pos:Pos}(hN:autoParam (X.N[i]?=some x) zR._auto_1)(hv:autoParam (uA X.env.scope x) zV._auto_1)(hd:autoParam ((x==("__debug__" :Str))=false) zD._auto_1)
  (om:autoParam ((x==("__classdict__" :Str))=false) zD._auto_1):DE X κ (.Name x pos) (aQ i):=⟨_,dh hN hv hd om,λ{G A bo own ρ σ H p Q} r e q=>by
 unfold aQ at e
 obtain⟨s,e1,e2⟩:=Option.bind_eq_some_iff.mp e
 cases s with
 |un=>cases e2
 |sh p'=>
  cases e2
  obtain⟨v,h1,h2⟩:=r.sh i _ e1
  exact⟨v,h1,q v H (aE.refl _) h2⟩
 |own l=>cases e2
 |bw l=>cases e2⟩
theorem qQ{op:Operator}{C:Int->Int->Prop}{F:Int->Int->Int}{g:PV->PV->Option PV}(ho:jw X (binaryOp op) (rI C λi j=>.int (F i j)))(hg:∀p q z,g p q=some z->∃i j,p=.int i/\q=.int j/\C i j/\z=.int (F i j))
  (ha:DB X κ a fa)(hb:DB X κ b fb):DE X κ (.BinOp a op b pos) (ah g fa fb):=by
 obtain⟨ta,h1,h2⟩:=ha
 obtain⟨tb,h3,h4⟩:=hb
 refine⟨_,BD ho h1 h3,λ{G A bo own ρ σ H p Q} r e q=>?_⟩
 refine vd h2 h4 r e λx y p1 p2 H' s r' b1 b2 e'=>?_
 obtain⟨i,j,rfl,rfl,hC,rfl⟩:=hg _ _ _ e'
 exact⟨i,j,b1.int,b2.int,hC,q _ H' s (.int _)⟩
theorem Cz{op:Operator}{F:Int->Int->Int}{g:PV->PV->Option PV}(ho:jw X (binaryOp op) (EA λi j=>.int (F i j)))(hg:∀p q z,g p q=some z->∃i j,p=.int i/\q=.int j/\z=.int (F i j))
  (ha:DB X κ a fa)(hb:DB X κ b fb):DE X κ (.BinOp a op b pos) (ah g fa fb):=by
 obtain⟨ta,h1,h2⟩:=ha
 obtain⟨tb,h3,h4⟩:=hb
 refine⟨_,BD ho h1 h3,λ{G A bo own ρ σ H p Q} r e q=>?_⟩
 refine vd h2 h4 r e λx y p1 p2 H' s r' b1 b2 e'=>?_
 obtain⟨i,j,rfl,rfl,rfl⟩:=hg _ _ _ e'
 exact⟨i,j,b1.int,b2.int,q _ H' s (.int _)⟩
theorem sY(ha:DB X κ a fa)(hb:DB X κ b fb):DE X κ (.BinOp a .Sub b pos) (ah rX fa fb):=Cz Iu (λp q z h=>by
 (cases p<;>first|(cases h;done)|skip)<;>cases q<;>first|(cases h;exact⟨_,_,rfl,rfl,rfl⟩)|cases h) ha hb
theorem mI(ha:DB X κ a fa)(hb:DB X κ b fb):DE X κ (.BinOp a .BitAnd b pos) (ah iw fa fb):=Cz IC (λp q z h=>by
 (cases p<;>first|(cases h;done)|skip)<;>cases q<;>first|(cases h;exact⟨_,_,rfl,rfl,rfl⟩)|cases h) ha hb
theorem br{α:Type}{c:Prop}[Decidable c]{x z:α}(h:(if c then some x else none)=some z):c/\x=z:=by
 split at h
 ·exact⟨by assumption,Option.some.inj h⟩
 ·cases h
theorem CA(ha:DB X κ a fa)(hb:DB X κ b fb):DE X κ (.BinOp a .FloorDiv b pos) (ah Ck fa fb):=qQ EU (λp q z h=>by
 (cases p<;>first|(cases h;done)|skip)<;>cases q<;>first|(cases h;done)|skip
 obtain⟨h1,h2⟩:=br h
 simp only[Bool.and_eq_true,decide_eq_true_eq]at h1
 exact⟨_,_,rfl,rfl,h1,h2.symm⟩) ha hb
theorem sZ(ha:DB X κ a fa)(hb:DB X κ b fb):DE X κ (.BinOp a .Mod b pos) (ah oO fa fb):=qQ Iw (λp q z h=>by
 (cases p<;>first|(cases h;done)|skip)<;>cases q<;>first|(cases h;done)|skip
 obtain⟨h1,h2⟩:=br h
 simp only[Bool.and_eq_true,decide_eq_true_eq]at h1
 exact⟨_,_,rfl,rfl,h1,h2.symm⟩) ha hb
theorem CB(ha:DB X κ a fa)(hb:DB X κ b fb):DE X κ (.BinOp a .Pow b pos) (ah sQ fa fb):=qQ Iy (λp q z h=>by
 (cases p<;>first|(cases h;done)|skip)<;>cases q<;>first|(cases h;done)|skip
 obtain⟨h1,h2⟩:=br h
 simp only[m9,Bool.and_eq_true,decide_eq_true_eq]at h1
 exact⟨_,_,rfl,rfl,⟨h1.1.1,h1.1.2,h1.2⟩,h2.symm⟩) ha hb
theorem s9(ha:DB X κ a fa)(hb:DB X κ b fb):DE X κ (.BinOp a .LShift b pos) (ah qk fa fb):=qQ Iz (λp q z h=>by
 (cases p<;>first|(cases h;done)|skip)<;>cases q<;>first|(cases h;done)|skip
 obtain⟨h1,h2⟩:=br h
 simp only[m9,Bool.and_eq_true,decide_eq_true_eq]at h1
 exact⟨_,_,rfl,rfl,⟨h1.1.1,h1.1.2,h1.2⟩,h2.symm⟩) ha hb
theorem CC(ha:DB X κ a fa)(hb:DB X κ b fb):DE X κ (.BinOp a .RShift b pos) (ah w9 fa fb):=qQ IA (λp q z h=>by
 (cases p<;>first|(cases h;done)|skip)<;>cases q<;>first|(cases h;done)|skip
 obtain⟨h1,h2⟩:=br h
 simp only[Bool.and_eq_true,decide_eq_true_eq]at h1
 exact⟨_,_,rfl,rfl,h1,h2.symm⟩) ha hb
theorem td(ha:DB X κ a fa)(hb:DB X κ b fb):DE X κ (.BinOp a .Mult b pos) (ah qj fa fb):=qQ Iv (λp q z h=>by
 (cases p<;>first|(cases h;done)|skip)<;>cases q<;>first|(cases h;done)|skip
 obtain⟨h1,h2⟩:=br h
 simp only[uY,Bool.or_eq_true,Bool.and_eq_true,decide_eq_true_eq]at h1
 exact⟨_,_,rfl,rfl,h1,h2.symm⟩) ha hb
theorem jJ(ha:DB X κ a fa):DE X κ (.UnaryOp .USub a pos) (aR i4 fa):=by
 obtain⟨ta,h1,h2⟩:=ha
 refine⟨_,K7 ID h1,λ{G A bo own ρ σ H p Q} r e q=>?_⟩
 obtain⟨p1,e1,e⟩:=Option.bind_eq_some_iff.mp e
 refine h2 r e1 λx H1 s1 b1=>?_
 cases p1<;>first|(cases e;done)|skip
 cases e
 exact⟨_,b1.int,q _ H1 s1 (.int _)⟩
theorem Jx{K:PySem.W.Frag}:jw X (binaryOp .Add) (λx y H Q=>∃l b xs zs,x=.ref l/\y=.ref b/\SL X.K H l xs/\SL X.K H b zs/\xs.length+zs.length<=sizeLine/\∀p,H p=none->Q (.ref p) (upd H p (.lst (xs++zs)))):=by
 intro pins s σ H x y v u Q I rx ry h
 obtain⟨l,b,xs,zs,rfl,rfl,hH,hB,hz,q⟩:=h
 cases rx
 cases ry
 obtain⟨its,n,r,ho,z⟩:=I.sl hH
 obtain⟨qh,n2,r2,M6,z2⟩:=I.sl hB
 have l1:=r.length
 have l2:=r2.length
 refine PySem.P.add_list ho M6 ?_ (by rw[List.size_toArray,List.size_toArray];omega)
 have ea:its.toArray++qh.toArray=(its++qh).toArray:=by simp
 rw[ea]
 exact⟨.ref _,_,I.NX (t':=s.toks) (r.append r2) (by rw[List.length_append];omega),rfl,q _ I.fresh⟩
theorem dr(ha:DB X κ a fa)(hb:DB X κ b fb):DE X κ (.BinOp a .Add b pos) (ah cg fa fb):=by
 obtain⟨ta,h1,h2⟩:=ha
 obtain⟨tb,h3,h4⟩:=hb
 refine⟨_,BD (Ir.or (wC.or (Jx (K:=X.K)))) h1 h3,λ{G A bo own ρ σ H p Q} r e q=>?_⟩
 refine vd h2 h4 r e λx y p1 p2 H' s r' b1 b2 e'=>?_
 (cases p1<;>first|(cases e';done)|skip)<;>cases p2<;>first|(cases e';done)|skip
 ·cases e'
  exact .inl ⟨_,_,b1.int,b2.int,q _ H' s (.int _)⟩
 ·obtain⟨h1,rfl⟩:=br e'
  exact .inr (.inl ⟨_,_,b1.str,b2.str,h1,q _ H' s (.str _)⟩)
 ·obtain⟨h1,rfl⟩:=br e'
  obtain⟨a1,Q7,rfl,q1,w1⟩:=b1.lst av
  obtain⟨a2,Q8,rfl,q2,w2⟩:=b2.lst av
  refine .inr (.inr ⟨a1,a2,Q7,Q8,rfl,rfl,q1,q2,by rw[w1.length,w2.length];exact h1,λp hp=>?_⟩)
  exact q _ _ (s.trans (bD hp)) ((r'.vc hp (w1.append w2)).rep r')
noncomputable def DC(X:Cx)(κ:Kl)(op:CmpOp)(a b:Expr)(f:Den):Prop:=∃r ta tb,jw X (compareOp op) r/\PE X a ta/\PE X b tb/\M9 X.K κ (K5 r ta tb) f
theorem gK{op:CmpOp}(h:DC X κ op a b f)(hm:behindInMarks op b=false:=by first|exact BF _|with_unfolding_all rfl):DE X κ (.Compare a [op] [b] pos) f:=
 let⟨_,_,_,h1,h2,h3,h4⟩:=h;⟨_,EW h1 h2 h3 hm,h4⟩
theorem yN{K:PySem.W.Frag}{te:TE}(h:M9 K κ te f):Ox K κ (Hb te) (tV f):=λ{G A bo own ρ σ H b Q} r e q=>by
 obtain⟨p,e1,e2⟩:=Option.bind_eq_some_iff.mp e
 refine h r e1 λv H' s z=>?_
 cases p<;>first|(cases e2;done)|skip
 cases e2
 exact⟨_,z.wq,q H' s⟩
theorem bU{op:CmpOp}(h:DC X κ op a b f)(hm:behindInMarks op b=false:=by first|exact BF _|with_unfolding_all rfl):DT X κ (.Compare a [op] [b] pos) (tV f):=
 let⟨_,_,_,h1,h2,h3,h4⟩:=h;⟨_,EX h1 h2 h3 hm,yN h4⟩
theorem iy(h:DE X κ e f)(he:autoParam (∀whole,isTrue e X.env whole=(do let v<-whole;standAt e.pos;holding [v] (truthy v))) zI._auto_1):DT X κ e (tV f):=
 let⟨_,h1,h2⟩:=h;⟨_,HZ h1 he,yN h2⟩
theorem Jy{op:CmpOp}{F:Int->Int->Bool}{g:PV->PV->Option PV}(ho:jw X (compareOp op) (EA λi j=>.bl (F i j)))(hg:∀p q z,g p q=some z->∃i j,p=.int i/\q=.int j/\z=.bl (F i j))
  (ha:DB X κ a fa)(hb:DB X κ b fb):DC X κ op a b (ah g fa fb):=by
 obtain⟨ta,h1,h2⟩:=ha
 obtain⟨tb,h3,h4⟩:=hb
 refine⟨_,_,_,ho,h1,h3,λ{G A bo own ρ σ H p Q} r e q=>?_⟩
 refine vd h2 h4 r e λx y p1 p2 H' s r' b1 b2 e'=>?_
 obtain⟨i,j,rfl,rfl,rfl⟩:=hg _ _ _ e'
 exact⟨i,j,b1.int,b2.int,q _ H' s (.bl _)⟩
theorem nj(ha:DB X κ a fa)(hb:DB X κ b fb):DC X κ .Lt a b (ah mG fa fb):=Jy Lc (λp q z h=>by
 (cases p<;>first|(cases h;done)|skip)<;>cases q<;>first|(cases h;exact⟨_,_,rfl,rfl,rfl⟩)|cases h) ha hb
theorem CD(ha:DB X κ a fa)(hb:DB X κ b fb):DC X κ .Gt a b (ah Hr fa fb):=Jy Ld (λp q z h=>by
 (cases p<;>first|(cases h;done)|skip)<;>cases q<;>first|(cases h;exact⟨_,_,rfl,rfl,rfl⟩)|cases h) ha hb
theorem CF(ha:DB X κ a fa)(hb:DB X κ b fb):DC X κ .GtE a b (ah Jq fa fb):=Jy Le (λp q z h=>by
 (cases p<;>first|(cases h;done)|skip)<;>cases q<;>first|(cases h;exact⟨_,_,rfl,rfl,rfl⟩)|cases h) ha hb
variable{ft fu:cD}{rest:List Expr}
theorem mJ(ha:DT X κ a ft):DT X κ (.UnaryOp .Not a pos) (js ft):=by
 obtain⟨ta,h1,h2⟩:=ha
 refine⟨_,H9 h1,λ{G A bo own ρ σ H p Q} r e q=>?_⟩
 obtain⟨c,e1,rfl⟩:=Option.map_eq_some_iff.mp e
 exact h2 r e1 λH' s=>q H' s
theorem nU(ha:DT X κ a ft):DW X κ (.BoolOp .And [a] pos) ft:=let⟨_,h1,h2⟩:=ha;⟨_,pw_and1 h1,h2⟩
theorem tj(ha:DT X κ a ft):DW X κ (.BoolOp .Or [a] pos) ft:=let⟨_,h1,h2⟩:=ha;⟨_,pw_or1 h1,h2⟩
theorem tm(ha:DT X κ a ft)(hb:DW X κ (.BoolOp .And (b::rest) pos) fu):DW X κ (.BoolOp .And (a::b::rest) pos) (jr ft fu):=by
 obtain⟨ta,h1,h2⟩:=ha
 obtain⟨tb,h3,h4⟩:=hb
 refine⟨_,pw_and h1 h3,λ{G A bo own ρ σ H p Q} r e q=>?_⟩
 obtain⟨c,e1,e2⟩:=Option.bind_eq_some_iff.mp e
 refine h2 r e1 λH1 s1=>?_
 cases c with
 |true=>exact h4 (r.mono s1) e2 λH2 s2=>q H2 (s1.trans s2)
 |false=>cases e2;exact q H1 s1
theorem nu(ha:DT X κ a ft)(hb:DW X κ (.BoolOp .Or (b::rest) pos) fu):DW X κ (.BoolOp .Or (a::b::rest) pos) (qa ft fu):=by
 obtain⟨ta,h1,h2⟩:=ha
 obtain⟨tb,h3,h4⟩:=hb
 refine⟨_,pw_or h1 h3,λ{G A bo own ρ σ H p Q} r e q=>?_⟩
 obtain⟨c,e1,e2⟩:=Option.bind_eq_some_iff.mp e
 refine h2 r e1 λH1 s1=>?_
 cases c with
 |false=>exact h4 (r.mono s1) e2 λH2 s2=>q H2 (s1.trans s2)
 |true=>cases e2;exact q H1 s1
theorem DW.t(h:DW X κ e ft):DT X κ e ft:=let⟨_,h1,h2⟩:=h;⟨_,h1.pt,h2⟩
theorem tq{op}(h:DE X κ a f):DE X κ (.BoolOp op [a] pos) f:=let⟨_,h1,h2⟩:=h;⟨_,Ic h1,h2⟩
theorem tu(ha:DE X κ a fa)(hb:DE X κ (.BoolOp .And (b::rest) pos) fb):DE X κ (.BoolOp .And (a::b::rest) pos) (qP fa fb):=by
 obtain⟨ta,h1,h2⟩:=ha
 obtain⟨tb,h3,h4⟩:=hb
 refine⟨_,Ie h1 h3,λ{G A bo own ρ σ H p Q} r e q=>?_⟩
 obtain⟨x,e1,e2⟩:=Option.bind_eq_some_iff.mp e
 obtain⟨c,e3,e4⟩:=Option.bind_eq_some_iff.mp e2
 refine h2 r e1 λv H1 s1 z=>?_
 cases x<;>first|(cases e3;done)|skip
 cases e3
 refine⟨_,z.wq,?_⟩
 cases c with
 |true=>exact h4 (r.mono s1) e4 λv H2 s2 z=>q v H2 (s1.trans s2) z
 |false=>cases e4;exact q _ H1 s1 (.bl _)
theorem Jz(ha:DE X κ a fa)(hb:DE X κ (.BoolOp .Or (b::rest) pos) fb):DE X κ (.BoolOp .Or (a::b::rest) pos) (Ft fa fb):=by
 obtain⟨ta,h1,h2⟩:=ha
 obtain⟨tb,h3,h4⟩:=hb
 refine⟨_,KP h1 h3,λ{G A bo own ρ σ H p Q} r e q=>?_⟩
 obtain⟨x,e1,e2⟩:=Option.bind_eq_some_iff.mp e
 obtain⟨c,e3,e4⟩:=Option.bind_eq_some_iff.mp e2
 refine h2 r e1 λv H1 s1 z=>?_
 cases x<;>first|(cases e3;done)|skip
 cases e3
 refine⟨_,z.wq,?_⟩
 cases c with
 |false=>exact h4 (r.mono s1) e4 λv H2 s2 z=>q v H2 (s1.trans s2) z
 |true=>cases e4;exact q _ H1 s1 (.bl _)
theorem FH(ha:DE X κ a fa):DE X κ (.UnaryOp .Not a pos) (Ht fa):=by
 obtain⟨ta,h1,h2⟩:=ha
 refine⟨_,Ig h1,λ{G A bo own ρ σ H p Q} r e q=>?_⟩
 obtain⟨x,e1,e2⟩:=Option.bind_eq_some_iff.mp e
 obtain⟨c,e3,rfl⟩:=Option.map_eq_some_iff.mp e2
 refine h2 r e1 λv H1 s1 z=>?_
 cases x<;>first|(cases e3;done)|skip
 cases e3
 exact⟨_,z.wq,q _ H1 s1 (.bl _)⟩
noncomputable def DA(X:Cx)(κ:Kl)(es:List Expr)(f:bX):Prop:=∃ta,PA X es ta/\∀{G A bo own ρ σ H ps Q},R X.K κ G A bo own ρ σ H->f ρ=some ps->(∀vs H',aE H H'->aT X.K κ (dX A own ρ H') vs ps->Q vs H')->ta σ H Q
inductive JA(K:PySem.W.Frag)(κ:Kl)(hH H:Hp):List V->List PV->Prop
 |nil:JA K κ hH H [] []
 |cons {v:V} {p:PV} {vs:List V} {l:List PV}:BR K κ hH H v p->JA K κ hH H vs l->JA K κ hH H (v::vs) (p::l)
theorem JA.full{K:PySem.W.Frag}{hH H:Hp}(s:aE hH H):∀{vs:List V} {ps:List PV},JA K κ hH H vs ps->aT K κ H vs ps
 |_,_,.nil=>.nil
 |_,_,.cons r t=>.cons (r.full s) (JA.full s t)
noncomputable def Nb(X:Cx)(κ:Kl)(es:List Expr)(f:bX):Prop:=∃ta,PA X es ta/\∀{G A bo own ρ σ H ps Q},R X.K κ G A bo own ρ σ H->f ρ=some ps->(∀vs H',aE H H'->JA X.K κ (dX A own ρ H') H' vs ps->Q vs H')->ta σ H Q
variable{es:List Expr}{fs:bX}
theorem aJ:DA X κ [] ax:=⟨_,cc,λ{G A bo own ρ σ H ps Q} r e q=>by cases e;exact q [] H (aE.refl _) .nil⟩
theorem FJ:Nb X κ [] ax:=⟨_,cc,λ{G A bo own ρ σ H ps Q} r e q=>by cases e;exact q [] H (aE.refl _) .nil⟩
theorem ai(ha:DE X κ a fa)(hr:DA X κ es fs)(hs:autoParam (starEach (a::es) X.env=(false,eval a X.env)::starEach es X.env) zR._auto_1):DA X κ (a::es) (ag fa fs):=by
 obtain⟨ta,h1,h2⟩:=ha
 obtain⟨tb,h3,h4⟩:=hr
 refine⟨_,bq h1 h3 hs,λ{G A bo own ρ σ H ps Q} r e q=>?_⟩
 obtain⟨x,e1,e2⟩:=Option.bind_eq_some_iff.mp e
 obtain⟨xs,e3,e4⟩:=Option.bind_eq_some_iff.mp e2
 cases e4
 refine h2 r e1 λv H1 s1 z1=>h4 (r.mono s1) e3 λvs H2 s2 z2=>q _ H2 (s1.trans s2) (.cons (z1.mono (aF s2)) z2)
theorem ve(ha:DB X κ a fa)(hr:Nb X κ es fs)(hs:autoParam (starEach (a::es) X.env=(false,eval a X.env)::starEach es X.env) zR._auto_1):Nb X κ (a::es) (ag fa fs):=by
 obtain⟨ta,h1,h2⟩:=ha
 obtain⟨tb,h3,h4⟩:=hr
 refine⟨_,bq h1 h3 hs,λ{G A bo own ρ σ H ps Q} r e q=>?_⟩
 obtain⟨x,e1,e2⟩:=Option.bind_eq_some_iff.mp e
 obtain⟨xs,e3,e4⟩:=Option.bind_eq_some_iff.mp e2
 cases e4
 refine h2 r e1 λv H1 s1 z1=>h4 (r.mono s1) e3 λvs H2 s2 z2=>q _ H2 (s1.trans s2) (.cons (z1.Cw s2) z2)
theorem i5(h:DA X κ es fs):DO X κ (.List es pos) (g9 fs):=by
 obtain⟨ta,h1,h2⟩:=h
 refine⟨_,wK h1,λ{G A bo own ρ σ H ps Q} r e q=>?_⟩
 obtain⟨x,e1,e2⟩:=Option.bind_eq_some_iff.mp e
 obtain⟨h3,rfl⟩:=br e2
 refine h2 r e1 λvs H1 s1 z1=>⟨by rw[z1.length];exact h3,λp hp=>q _ _ (s1.trans (bD hp)) ?_⟩
 obtain⟨a,ws,l,w1,w2,w3,w4⟩:=(r.mono s1).vc hp z1
 refine⟨a,ws,l,w1,w2,?_,w4⟩
 cases w1
 exact s1.free hp
theorem CG{x1}(h:DA X κ es fs):DE X κ (.Tuple es x1 pos) (Al fs):=by
 obtain⟨ta,h1,h2⟩:=h
 refine⟨_,wJ h1,λ{G A bo own ρ σ H ps Q} r e q=>?_⟩
 obtain⟨x,e1,e2⟩:=Option.bind_eq_some_iff.mp e
 obtain⟨h3,rfl⟩:=br e2
 exact h2 r e1 λvs H1 s1 z1=>⟨by rw[z1.length];exact h3,λp hp=>q _ _ (s1.trans (bD hp)) ((r.mono s1).Oy hp z1)⟩
end
noncomputable def RR(fr:Bool)(K:PySem.W.Frag)(κ:Kl)(A:Addr->Prop)(G H':Hp)(v:V)(p:PV):Prop:=if fr=true then OR K κ A G H' v p else Rep K κ (hide A H') v p
noncomputable def CH(K:PySem.W.Frag)(κ:Kl)(fr:Bool)(G:Hp)(A:Addr->Prop)(bo:Nat->Option (Addr×List V))(D:Ends):Fl->Prop
 |.nx ρ'=>∀dq σ' H',R K κ G A bo dq ρ' σ' H'->D.nx σ' H'
 |.bk ρ'=>∀dq σ' H',R K κ G A bo dq ρ' σ' H'->D.bk σ' H'
 |.ct ρ'=>∀dq σ' H',R K κ G A bo dq ρ' σ' H'->D.ct σ' H'
 |.rt p=>∀v H',aE G H'->RR fr K κ A G H' v p->D.rt v H'
noncomputable def EF(K:PySem.W.Frag)(κ:Kl)(fr:Bool)(ts:TS)(g:aL):Prop:=
 ∀{G A bo own ρ σ H fl D},R K κ G A bo own ρ σ H->g ρ=some fl->CH K κ fr G A bo D fl->ts D σ H
noncomputable def DS(X:Cx)(κ:Kl)(fr:Bool)(st:Stmt)(g:aL):Prop:=∃ts,PS X st ts/\EF X.K κ fr ts g
noncomputable def Bv(X:Cx)(κ:Kl)(fr:Bool)(st:List Stmt)(g:aL):Prop:=∃ts,rS X st ts/\EF X.K κ fr ts g
theorem Nc{K:PySem.W.Frag}{κ:Kl}{G H H':Hp}{A B:Addr->Prop}{v:V}{p:PV}(h:OR K κ B H H' v p)(s:aE G H)(Q9:∀b,A b->B b):OR K κ A G H' v p:=by
 obtain⟨a,vs,l,h1,h2,h3,h4,h5⟩:=h
 exact⟨a,vs,l,h1,h2,s.free h3,h4,h5.mono (cQ (λ_ _ z=>z) λb z _=>z.imp (Q9 b) id)⟩
section
variable{X:Cx}{κ:Kl}{fr:Bool}{st:Stmt}{rest:List Stmt}{g g':aL}{e a b c:Expr}{f:Den}{ft:cD}{pos:Pos}
theorem cY:Bv X κ fr [] cF:=⟨_,rV,λ{G A bo own ρ σ H fl D} r e k=>by cases e;exact k own σ H r⟩
theorem FK{K:PySem.W.Frag}{t u:TS}(h1:EF K κ fr t g)(h2:EF K κ fr u g'):EF K κ fr (KQ t u) (aX g g'):=λ{G A bo own ρ σ H fl D} r e k=>by
 obtain⟨f1,e1,e2⟩:=Option.bind_eq_some_iff.mp e
 refine h1 r e1 ?_
 cases f1 with
 |nx ρ'=>exact λdq σ' H' r'=>h2 r' e2 k
 |rt p=>cases e2;exact k
 |bk ρ'=>cases e2;exact k
 |ct ρ'=>cases e2;exact k
theorem aH(h1:DS X κ fr st g)(h2:Bv X κ fr rest g'):Bv X κ fr (st::rest) (aX g g'):=
 let⟨_,a1,a2⟩:=h1;let⟨_,b1,b2⟩:=h2;⟨_,dA a1 b1,FK a2 b2⟩
theorem aA(h1:DS X κ fr st g):Bv X κ fr [st] g:=let⟨_,a1,a2⟩:=h1;⟨_,j6 a1,a2⟩
theorem yO{K:PySem.W.Frag}{u:TS}(i:Nat)(h2:EF K κ fr u g):EF K κ fr u (aX (u0 i) g):=λ{G A bo own ρ σ H fl D} r e k=>by
 obtain⟨f1,e1,e2⟩:=Option.bind_eq_some_iff.mp e
 unfold u0 at e1
 split at e1
 ·rename_i l h
  cases e1
  obtain⟨h1,h3,vs,h4,h5⟩:=r.ow i (.l l) h
  change H (own i)=some (.lst vs)at h4
  change aT _ _ _ vs l at h5
  refine h2 (own:=own) (σ:=σ) (H:=H) ?_ e2 k
  have hi:i<ρ.length:=(List.getElem?_eq_some_iff.mp h).1
  have s1:aE (dX A own ρ H) (dX A own (ρ.set i (.sh (.lst l))) H):=ki
  have Bu:dX A own (ρ.set i (.sh (.lst l))) H (own i)=some (.lst vs):=by
   rw[dX,bj]
   ·exact h4
   ·rintro(z|⟨j,m,z1,z2⟩)
    ·exact r.al _ z h3
    ·by_cases hj:i=j
     ·subst hj
      rw[List.getElem?_set,if_pos rfl,if_pos hi]at z1
      cases z1
     ·rw[List.getElem?_set,if_neg hj]at z1
      exact hj (r.inj j i _ _ z1 h z2).symm
  refine⟨r.al,r.bg,r.same,λj q e=>?_,λj m e=>?_,λj k m n e f=>?_,λj m e=>?_,by rw[List.length_set];exact r.len⟩
  ·by_cases hj:i=j
   ·subst hj
    rw[List.getElem?_set,if_pos rfl,if_pos hi]at e
    cases e
    exact⟨_,h1,.lst (SL.of Bu) (h5.mono s1)⟩
   ·rw[List.getElem?_set,if_neg hj]at e
    obtain⟨v,z1,z2⟩:=r.sh j q e
    exact⟨v,z1,z2.mono s1⟩
  ·by_cases hj:i=j
   ·subst hj
    rw[List.getElem?_set,if_pos rfl,if_pos hi]at e
    cases e
   ·rw[List.getElem?_set,if_neg hj]at e
    obtain⟨z1,z2,ws,z3,z4⟩:=r.ow j m e
    exact⟨z1,z2,ws,z3,z4.mono s1⟩
  ·have ne:∀{j:Nat} {m:Cn},(ρ.set i (.sh (.lst l)))[j]?=some (.own m)->ρ[j]?=some (.own m):=λ{j m} z=>by
     rw[List.getElem?_set]at z
     split at z
     ·first|cases z|(split at z<;>cases z)
     ·exact z
   exact r.inj j k m n (ne e) (ne f)
  ·by_cases hj:i=j
   ·subst hj
    rw[List.getElem?_set,if_pos rfl,if_pos hi]at e
    cases e
   ·rw[List.getElem?_set,if_neg hj]at e
    obtain⟨b,ws,z1,z2,z3⟩:=r.bw j m e
    exact⟨b,ws,z1,z2,z3.mono s1⟩
 ·cases e1
  exact h2 r e2 k
theorem FL(i:Nat)(h:Bv X κ fr rest g):Bv X κ fr rest (aX (u0 i) g):=let⟨_,a1,a2⟩:=h;⟨_,a1,yO i a2⟩
theorem bV(h:DE X κ e f):DS X κ false (.Return (some e) pos) (bu f):=by
 obtain⟨te,h1,h2⟩:=h
 refine⟨_,oo h1,λ{G A bo own ρ σ H fl D} r e k=>?_⟩
 obtain⟨p,e1,rfl⟩:=Option.map_eq_some_iff.mp e
 refine h2 r e1 λv H' s z=>k v H' (r.same.trans s) ?_
 exact z.mono (cQ (λ_ _ q=>q) λb q _=>.inl q)
theorem gq(h:DO X κ e f):DS X κ true (.Return (some e) pos) (bu f):=by
 obtain⟨te,h1,h2⟩:=h
 refine⟨_,oo h1,λ{G A bo own ρ σ H fl D} r e k=>?_⟩
 obtain⟨p,e1,rfl⟩:=Option.map_eq_some_iff.mp e
 refine h2 r e1 λv H' s z=>k v H' (r.same.trans s) ?_
 exact Nc z r.same λb q=>.inl q
theorem mK{ρ:bM}{i:Nat}{l:List PV}(h:xb ρ i=some l):ρ[i]?=some (.ow l):=by
 unfold xb at h
 split at h
 ·rename_i l' e
  cases h
  exact e
 ·cases h
theorem yP(i:Nat){x:Str}{p':Pos}(hN:autoParam (X.N[i]?=some x) zR._auto_1)(hv:autoParam (uA X.env.scope x) zV._auto_1)(hd:autoParam ((x==("__debug__" :Str))=false) zD._auto_1)
  (om:autoParam ((x==("__classdict__" :Str))=false) zD._auto_1):DS X κ true (.Return (some (.Name x p')) pos) (u5 i):=by
 refine⟨_,oo (dh hN hv hd om),λ{G A bo own ρ σ H fl D} r e k=>?_⟩
 obtain⟨l,e1,rfl⟩:=Option.map_eq_some_iff.mp e
 obtain⟨h1,h3,vs,h4,h5⟩:=r.ow i (.l l) (mK e1)
 change H (own i)=some (.lst vs)at h4
 change aT _ _ _ vs l at h5
 refine⟨_,h1,k _ H r.same ?_⟩
 exact⟨own i,vs,l,rfl,rfl,h3,h4,h5.mono (cQ (λ_ _ z=>z) λb z _=>by
  rcases z with z|z
  ·exact .inl z
  ·exact .inr ⟨i,.l l,mK e1,z.symm⟩)⟩
theorem gg{sa sb:List Stmt}(hc:DT X κ c ft)(ha:Bv X κ fr sa g)(hb:Bv X κ fr sb g'):DS X κ fr (.If c sa sb pos) (jC ft g g'):=by
 obtain⟨tc,h5,h6⟩:=hc
 obtain⟨ta,h1,h2⟩:=ha
 obtain⟨tb,h3,h4⟩:=hb
 refine⟨_,Bz h5 h1 h3,λ{G A bo own ρ σ H fl D} r e k=>?_⟩
 obtain⟨c,e1,e2⟩:=Option.bind_eq_some_iff.mp e
 refine h6 r e1 λH1 s1=>?_
 cases c with
 |true=>exact h2 (r.mono s1) e2 k
 |false=>exact h4 (r.mono s1) e2 k
theorem cM(i:Nat){x:Str}{p':Pos}(hN:X.N.Nodup)(h:DE X κ e f)(hi:autoParam (X.N[i]?=some x) zR._auto_1)(hx:autoParam (Loc X.env.scope x) zL._auto_1)(hs:autoParam (swapsWith e (some (.Name x p')) pos.line X.env=pure false) zR._auto_1)
  (hf:autoParam (X.fn x=true\/X.env.scope.names.lookup x=some .local) zF._auto_1):DS X κ fr (.Assign [.Name x p'] e pos) (cK i f):=by
 obtain⟨te,h1,h2⟩:=h
 refine⟨_,oq hN hi hx h1 hs hf,λ{G A bo own ρ σ H fl D} r e k=>?_⟩
 obtain⟨p,e1,rfl⟩:=Option.map_eq_some_iff.mp e
 exact h2 r e1 λv H' s z=>k _ _ _ ((r.mono s).set z)
theorem R.Oz{K:PySem.W.Frag}{G H H':Hp}{A:Addr->Prop}{bo:Nat->Option (Addr×List V)}{own:Nat->Addr}{ρ:bM}{σ:St}(r:R K κ G A bo own ρ σ H)(s:aE H H'){i:Nat}{v:V}{l:List PV}(z:OR K κ (cG A own ρ) H H' v (.lst l)):
  ∃dq,R K κ G A bo dq (ρ.set i (.ow l)) (σ.set i (some v)) H':=by
 obtain⟨a,vs,l',rfl,z2,h3,h4,h5⟩:=z
 cases z2
 refine⟨_,r.LX (r.same.free h3) (λq=>r.new h3 (.inl q)) (λj m e _ q=>r.new h3 (.inr ⟨j,m,e,q⟩)) ?_ (λb o q _=>s b o q) h4 h5⟩
 exact cQ s λb w nz=>by
  rcases w with w|w
  ·exact w
  ·rw[w]at nz
   exact absurd h3 nz
theorem nV(i:Nat){x:Str}{p':Pos}(hN:X.N.Nodup)(h:DO X κ e f)(hi:autoParam (X.N[i]?=some x) zR._auto_1)(hx:autoParam (Loc X.env.scope x) zL._auto_1)(hs:autoParam (swapsWith e (some (.Name x p')) pos.line X.env=pure false) zR._auto_1)
  (hf:autoParam (X.fn x=true\/X.env.scope.names.lookup x=some .local) zF._auto_1):DS X κ fr (.Assign [.Name x p'] e pos) (lH i f):=by
 obtain⟨te,h1,h2⟩:=h
 refine⟨_,oq hN hi hx h1 hs hf,λ{G A bo own ρ σ H fl D} r e k=>?_⟩
 obtain⟨p,e1,e2⟩:=Option.bind_eq_some_iff.mp e
 obtain⟨l,e3,rfl⟩:=Option.map_eq_some_iff.mp e2
 refine h2 r e1 λv H' s z=>?_
 cases p<;>first|(cases e3;done)|skip
 cases e3
 obtain⟨dq,r'⟩:=r.Oz s (i:=i) z
 exact k _ _ _ r'
theorem R.OA{K:PySem.W.Frag}{G H:Hp}{A:Addr->Prop}{bo:Nat->Option (Addr×List V)}{own:Nat->Addr}{ρ:bM}{σ:St}(r:R K κ G A bo own ρ σ H){i:Nat}{l l':Cn}{ws:List V}(h:ρ[i]?=some (.own l))(q:aT K κ (dX A own ρ H) ws (Jv l')):
  ∃dq,R K κ G A bo dq (ρ.set i (.own l')) σ (upd H (own i) (Cu l' ws)):=by
 obtain⟨h1,h3,vs,h4,h5⟩:=r.ow i l h
 have e:σ.set i (some (.ref (own i)))=σ:=by
  obtain⟨hl,hx⟩:=List.getElem?_eq_some_iff.mp h1
  rw[<-hx]
  exact List.set_getElem_self hl
 have hs:cG A own ρ (own i):=.inr ⟨i,l,h,rfl⟩
 have he:hide (λb=>cG A own ρ b\/b=own i) (upd H (own i) (Cu l' ws))=dX A own ρ H:=by
  rw[lJ (.inr rfl)]
  congr 1
  funext b
  refine propext ⟨λz=>?_,.inl⟩
  rcases z with z|z
  ·exact z
  ·rw[z]
   exact hs
 have:=r.LX (i:=i) (a:=own i) (vs:=ws) (l:=l') (H1:=upd H (own i) (Cu l' ws)) h3 (λz=>r.al _ z h3) (λj m e' hj z=>hj (r.inj j i _ _ e' h z)) (by rw[he];exact λ_ _ z=>z) (λb o z hb=>by rw[au hb];exact z) aO (by rw[he];exact q)
 rw[e]at this
 exact⟨_,this⟩
noncomputable def LZ(K:PySem.W.Frag)(κ:Kl)(rm:V->List V->Hp->VK->Prop)(gm:List PV->List PV->Option (List PV)):Prop:=
 ∀{hH H:Hp} {a:Addr} {vs ws:List V} {l xs l':List PV} {Q:VK},aE hH H->H a=some (.lst vs)->aT K κ hH vs l->aT K κ hH ws xs->gm l xs=some l'->(∀us,aT K κ hH us l'->Q .non (upd H a (.lst us)))->rm (.ref a) ws H Q
theorem R.mut{K:PySem.W.Frag}{G H:Hp}{A:Addr->Prop}{bo:Nat->Option (Addr×List V)}{own:Nat->Addr}{ρ:bM}{σ:St}(r:R K κ G A bo own ρ σ H){i:Nat}{l l':List PV}{ws:List V}(h:ρ[i]?=some (.ow l))(q:aT K κ (dX A own ρ H) ws l'):
 ∃dq,R K κ G A bo dq (ρ.set i (.ow l')) σ (upd H (own i) (.lst ws)):=r.OA (l:=.l l) (l':=.l l') h q
theorem yQ{K:PySem.W.Frag}{rm:V->List V->Hp->VK->Prop}{gm:List PV->List PV->Option (List PV)}{fs:bX}{ta:TA}(i:Nat)(hg:LZ K κ rm gm)
  (ha:∀{G A bo own ρ σ H ps Q},R K κ G A bo own ρ σ H->fs ρ=some ps->(∀vs H',aE H H'->aT K κ (dX A own ρ H') vs ps->Q vs H')->ta σ H Q):EF K κ fr (G6 (Pr K "list" rm (KL i) ta)) (lI i gm fs):=λ{G A bo own ρ σ H fl D} r e k=>by
 obtain⟨xs,e1,e2⟩:=Option.bind_eq_some_iff.mp e
 obtain⟨l,e3,e4⟩:=Option.bind_eq_some_iff.mp e2
 obtain⟨l',e5,rfl⟩:=Option.map_eq_some_iff.mp e4
 have Hq:=mK e3
 obtain⟨h1,h3,vs,h4,h5⟩:=r.ow i (.l l) Hq
 change H (own i)=some (.lst vs)at h4
 change aT _ _ _ vs l at h5
 refine⟨_,h1,.inl ⟨rfl,vs,fQ.of h4⟩,ha r e1 λws H2 s2 z2=>?_⟩
 refine hg av (s2 _ _ h4) (h5.mono (aF s2)) z2 e5 λus z=>?_
 obtain⟨dq,r'⟩:=(r.mono s2).mut Hq z
 exact k _ _ _ r'
theorem iO{x:Str}{p' apos cO:Pos}{ee:Expr}{fs:bX}(i:Nat)(ha:DA X κ [ee] fs)(hN:autoParam (X.N[i]?=some x) zR._auto_1)(hv:autoParam (uA X.env.scope x) zV._auto_1)(hd:autoParam ((x==("__debug__" :Str))=false) zD._auto_1)
  (om:autoParam ((x==("__classdict__" :Str))=false) zD._auto_1)(fR:autoParam (attributeBase (.Name x p') "append" X.env (eval (.Name x p') X.env)=eval (.Name x p') X.env) zR._auto_1)
  (my:autoParam (((backTo cO (starEach [ee] X.env)).all (λx=>!x.1)&&(backToKw cO (keywordEach [] X.env)).all (λx=>x.1.isSome)
    &&decide ([ee].length+([]:List Keyword).length+(if([]:List Keyword).isEmpty then 0 else 1)<30))=true) zR._auto_1)
  (hs:autoParam (swapsWith (.Call (.Attribute (.Name x p') "append" apos) [ee] [] cO) none pos.line X.env=pure false) zR._auto_1)(fS:autoParam ((apos.endLine==cO.line)=true) zR._auto_1)(nI:autoParam (starEach [ee] X.env=(false,eval ee X.env)::starEach [] X.env) zR._auto_1):
  DS X κ fr (.Expr (.Call (.Attribute (.Name x p') "append" apos) [ee] [] cO) pos) (lI i eF fs):=by
 obtain⟨ta,h1,h2⟩:=ha
 refine⟨_,j7 (yu PySem.F.plainAttrs_list PySem.F.slot_list_append PySem.F.type_list_append mz (dh hN hv hd om) h1 fR my fS nI rfl) hs,yQ i ?_ h2⟩
 intro hH H a vs ws l xs l' Q s h3 h4 h5 h6 q
 unfold eF at h6
 split at h6
 ·obtain⟨h7,rfl⟩:=br h6
  cases h5 with
  |cons z t=>
   cases t
   exact⟨a,vs,_,rfl,rfl,h3,by rw[h4.length];exact h7,q _ (h4.append (.cons z .nil))⟩
 ·cases h6
end
noncomputable def tw(K:PySem.W.Frag)(κ:Kl)(Gs:Hp)(A:Addr->Prop)(J:It)(ps:List PV):Prop:=
 ∀(i:Nat) (H2:Hp),aE Gs H2->(∀p,ps[i]?=some p->J.go i H2/\∀x H3,J.yld i H2 x H3->aE H2 H3/\∀B:Addr->Prop,(∀b,B b->H2 b≠none)->aE (hide A Gs) (hide B H2)->Rep K κ (hide B H3) x p)/\(ps.length<=i->J.stop i H2)
noncomputable def DI(X:Cx)(κ:Kl)(tg iter:Expr)(f:bX):Prop:=∃wi,PI X tg iter wi/\∀{G A bo own ρ σ H ps Q},R X.K κ G A bo own ρ σ H->f ρ=some ps->(∀J H',aE H H'->tw X.K κ (Bu own ρ H') A J ps->Q J H')->wi σ H Q
noncomputable def CI(X:Cx)(κ:Kl)(tg iter:Expr)(f:bX):Prop:=∃wi,PI X tg iter wi/\∀{G A bo own ρ σ H ps Q},R X.K κ G A bo own ρ σ H->f ρ=some ps->(∀J H',aE H H'->tw X.K κ H' (cG A own ρ) J ps->Q J H')->wi σ H Q
noncomputable def DG(X:Cx)(κ:Kl)(tg:Expr)(g:yI):Prop:=∃tt,PG X tg tt/\∀{G A bo own ρ σ H p v ρ' Q},R X.K κ G A bo own ρ σ H->Rep X.K κ (dX A own ρ H) v p->g p ρ=some ρ'->(∀dq σ',R X.K κ G A bo dq ρ' σ' H->aE (dX A own ρ H) (dX A dq ρ' H)->Q σ' H)->tt v σ H Q
section
variable{K:PySem.W.Frag}{κ:Kl}{Gs:Hp}{A:Addr->Prop}{a:Addr}{vs:List V}{l:List PV}
theorem qR(h:SL K Gs a vs)(q:aT K κ (hide A Gs) vs l):tw K κ Gs A (NI K a) l:=λi H2 s=>by
 have h2:fQ K H2 a vs:=(s.sl h).sq
 refine⟨λp e=>?_,λhl=>⟨vs,h2,by rw[q.length];exact hl⟩⟩
 obtain⟨v,e1,r1⟩:=q.get e
 refine⟨⟨vs,v,h2,e1⟩,λx H3 ⟨y1,y2⟩=>?_⟩
 subst y1
 have:=y2 vs h2
 rw[e1]at this
 cases this
 exact⟨aE.refl _,λB _ sb=>r1.mono sb⟩
theorem xf{lo:Int}{n i:Nat}{p:PV}(h:(cx lo n)[i]?=some p):i<n/\p=.int (lo+(i:Nat)):=by
 unfold cx at h
 rw[List.getElem?_map]at h
 obtain⟨k,h1,rfl⟩:=Option.map_eq_some_iff.mp h
 obtain⟨h2,h3⟩:=List.getElem?_eq_some_iff.mp h1
 rw[List.getElem_range]at h3
 subst h3
 exact⟨by simpa using h2,rfl⟩
theorem oV{lo:Int}{n:Nat}:tw K κ Gs A (G9 lo n) (cx lo n):=λi H2 s=>by
 refine⟨λp e=>?_,λhl=>show n<=i by simpa[cx]using hl⟩
 obtain⟨h1,rfl⟩:=xf e
 refine⟨h1,λx H3 ⟨y1,y2⟩=>?_⟩
 subst y1 y2
 exact⟨aE.refl _,λB _ _=>.int _⟩
end
section
variable{X:Cx}{κ:Kl}{fr:Bool}{g:aL}{e a b c tg iter:Expr}{f fa fb:Den}{ft:cD}{pos:Pos}{fi:bX}{gt gu:yI}{body:List Stmt}
theorem tx{A:Addr->Prop}{own:Nat->Addr}{ρ:bM}{H:Hp}:aE (dX A own ρ H) (Bu own ρ H):=by
 rw[<-lK]
 exact av
theorem nW(h:DE X κ e f):DI X κ tg e (nList f):=by
 obtain⟨te,h1,h2⟩:=h
 refine⟨_,ym h1,λ{G A bo own ρ σ H ps Q} r e q=>?_⟩
 obtain⟨p,e1,e2⟩:=Option.bind_eq_some_iff.mp e
 refine h2 r e1 λv H' s z=>?_
 cases p<;>first|(cases e2;done)|skip
 cases e2
 cases z with
 |lst q1 q2=>exact⟨_,rfl,⟨_,((av (A:=cG A own ρ)).sl q1).sq⟩,q _ H' s (qR (tx.sl q1) (by rw[lK];exact q2))⟩
theorem bQ(h:DB X κ e f):CI X κ tg e (nList f):=by
 obtain⟨te,h1,h2⟩:=h
 refine⟨_,ym h1,λ{G A bo own ρ σ H ps Q} r e q=>?_⟩
 obtain⟨p,e1,e2⟩:=Option.bind_eq_some_iff.mp e
 refine h2 r e1 λv H' s z=>?_
 cases p<;>first|(cases e2;done)|skip
 cases e2
 obtain⟨a,vs,rfl,q1,q2⟩:=z.lst av
 exact⟨_,rfl,⟨_,q1.sq⟩,q _ H' s (qR q1 q2)⟩
theorem JB{K:PySem.W.Frag}{te:TE}(h2:Na K κ te f){G A bo own ρ σ H ps}{Q:It->Hp->Prop}(r:R K κ G A bo own ρ σ H)(e:cL f ρ=some ps)(q:∀n H',aE H H'->ps=cx 0 n->Q (G9 0 n) H'):Ha (BJ te BI) σ H Q:=by
 obtain⟨p,e1,e2⟩:=Option.bind_eq_some_iff.mp e
 obtain⟨j,e3,e4⟩:=Option.bind_eq_some_iff.mp e2
 obtain⟨h3,h4⟩:=br e4
 simp only[kE,Bool.and_eq_true,decide_eq_true_eq]at h3
 refine h2 r e1 λv H' s z=>?_
 cases p<;>first|(cases e3;done)|skip
 cases e3
 exact⟨_,by rw[z.int],h3.1,h3.2,q _ H' s h4.symm⟩
theorem lL{p pos:Pos}(h:DB X κ a f)(hm:X.mg "range" =none)(hg:autoParam (Gl X "range") zR._auto_1)(hs:autoParam (starEach [a] X.env=[(false,eval a X.env)]) zR._auto_1):DI X κ tg (.Call (.Name "range" p) [a] [] pos) (cL f):=by
 obtain⟨te,h1,h2⟩:=h
 exact⟨_,mj hg hm (bq h1 cc hs) hs,λ{G A bo own ρ σ H ps Q} r e q=>JB h2 r e λn H' s e'=>q _ H' s (by rw[e'];exact oV)⟩
theorem lM{p pos:Pos}(h:DB X κ a f)(hm:X.mg "range" =none)(hg:autoParam (Gl X "range") zR._auto_1)(hs:autoParam (starEach [a] X.env=[(false,eval a X.env)]) zR._auto_1):CI X κ tg (.Call (.Name "range" p) [a] [] pos) (cL f):=by
 obtain⟨te,h1,h2⟩:=h
 exact⟨_,mj hg hm (bq h1 cc hs) hs,λ{G A bo own ρ σ H ps Q} r e q=>JB h2 r e λn H' s e'=>q _ H' s (by rw[e'];exact oV)⟩
theorem eZ(i:Nat){x:Str}(hN:X.N.Nodup)(hi:autoParam (X.N[i]?=some x) zR._auto_1)(hx:autoParam (Loc X.env.scope x) zL._auto_1)(hf:autoParam (X.fn x=true\/X.env.scope.names.lookup x=some .local) zF._auto_1):DG X κ (.Name x pos) (aZ i):=
 ⟨_,j8 hN hi hx hf,λ{G A bo own ρ σ H p v ρ' Q} r z e q=>by cases e;exact q _ _ (r.set z) ki⟩
theorem FN{k:Nat}(ha:DG X κ a gt)(hb:DG X κ b gu)(hc:autoParam (X.calm=true) zR._auto_1)(hs:autoParam ((assignEach [a,b] X.env).map (·.2)=assign a X.env::(assignEach [b] X.env).map (·.2)) zR._auto_1)(j9:autoParam ((assignEach [b] X.env).map (·.2)=assign b X.env::(assignEach [] X.env).map (·.2)) zR._auto_1)
  (hn:autoParam ((assignEach [a,b] X.env).length=2) zR._auto_1)(nI:autoParam ((assignEach [a,b] X.env).findIdx? (·.1)=none) zR._auto_1):DG X κ (.Tuple [a,b] k pos) (jD gt gu):=by
 obtain⟨ta,h1,h2⟩:=ha
 obtain⟨tb,h3,h4⟩:=hb
 refine⟨_,wy hc (iH h1 (iH h3 rW j9) hs) hn nI,λ{G A bo own ρ σ H p v ρ' Q} r z e q=>?_⟩
 unfold jD at e
 split at e
 ·rename_i x y
  obtain⟨ρ1,e1,e2⟩:=Option.bind_eq_some_iff.mp e
  cases z with
  |tup q1 q2=>
   cases q2 with
   |cons r1 q2=>
    cases q2 with
    |cons r2 q2=>
     cases q2
     refine⟨_,_,rfl,yM (av (A:=cG A own ρ)) q1,rfl,_,_,rfl,h2 r r1 e1 λdq σ' r' s'=>?_⟩
     exact⟨_,_,rfl,h4 r' (r2.mono s') e2 λtD σ2 r3 s3=>⟨rfl,q tD σ2 r3 (s'.trans s3)⟩⟩
 ·cases e
end
section
variable{K:PySem.W.Frag}{κ:Kl}{fr:Bool}{gb:aL}{ft:cD}{gt:yI}{fi:bX}
theorem Aq{g:yI}{body:aL}{x:PV}{xs:List PV}{ρ:bM}{fl:Fl}(h:forL g body (x::xs) ρ=some fl):∃ρ1 f,g x ρ=some ρ1/\body ρ1=some f/\(match f with
  |.nx ρ'=>forL g body xs ρ'
  |.ct ρ'=>forL g body xs ρ'
  |.bk ρ'=>some (.nx ρ')
  |.rt p=>some (.rt p))=some fl:=by
 unfold forL at h
 obtain⟨ρ1,e1,e2⟩:=Option.bind_eq_some_iff.mp h
 obtain⟨f,e3,e4⟩:=Option.bind_eq_some_iff.mp e2
 exact⟨ρ1,f,e1,e3,e4⟩
theorem Ar{J:It}{ps:List PV}{G:Hp}{A:Addr->Prop}{bo:Nat->Option (Addr×List V)}{tg:TG}{tb:TS}{D:Ends}{own:Nat->Addr}{ρ:bM}{σ:St}{H:Hp}{fl:Fl}
  (hI:tw K κ G A J ps)(hg:∀{own ρ σ H p v ρ' Q},R K κ G A bo own ρ σ H->Rep K κ (dX A own ρ H) v p->gt p ρ=some ρ'->(∀dq σ',R K κ G A bo dq ρ' σ' H->aE (dX A own ρ H) (dX A dq ρ' H)->Q σ' H)->tg v σ H Q)
  (hb:EF K κ fr tb gb)(r:R K κ G A bo own ρ σ H)(e:forL gt gb ps ρ=some fl)(k:CH K κ fr G A bo D fl):
  ∃W:Nat->Nat->St->Hp->Prop,(∃m,W 0 m σ H)/\∀i m σ H,W i m σ H->
   (J.stop i H/\D.nx σ H)\/(J.go i H/\∃N:St->Hp->Prop,(∀σ' H',N σ' H'->∃m',m'<m/\W (i+1) m' σ' H')/\∀x H',J.yld i H x H'->tg x σ H' λσ2 H2=>tb {D with nx:=N,ct:=N,bk:=D.nx} σ2 H2):=by
 refine⟨λi m σ H=>m=ps.length-i/\i<=ps.length/\∃own ρ,R K κ G A bo own ρ σ H/\forL gt gb (ps.drop i) ρ=some fl,⟨ps.length,by simp,Nat.zero_le _,own,ρ,r,by simpa using e⟩,?_⟩
 rintro i m σ H ⟨rfl,hi,own,ρ,r,e⟩
 obtain⟨h1,h2⟩:=hI i H r.same
 by_cases eS:i<ps.length
 ·rw[List.drop_eq_getElem_cons eS]at e
  obtain⟨ρ1,f,e1,e3,e4⟩:=Aq e
  obtain⟨h3,h4⟩:=h1 ps[i] (List.getElem?_eq_getElem eS)
  refine .inr ⟨h3,λσ' H'=>i+1<=ps.length/\∃own ρ,R K κ G A bo own ρ σ' H'/\forL gt gb (ps.drop (i+1)) ρ=some fl,λσ' H' ⟨q0,q⟩=>⟨ps.length-(i+1),by omega,rfl,q0,q⟩,λx H' y=>?_⟩
  obtain⟨s,q⟩:=h4 x H' y
  have r1:=r.mono s
  refine hg r1 (q (cG A own ρ) (λb hb=>r.Bt hb) r.FE) e1 λdq σ' r2 _=>?_
  refine hb r2 e3 ?_
  cases f with
  |nx ρ'=>exact λtD σ2 H2 r3=>⟨eS,tD,ρ',r3,e4⟩
  |ct ρ'=>exact λtD σ2 H2 r3=>⟨eS,tD,ρ',r3,e4⟩
  |bk ρ'=>cases e4;exact k
  |rt p=>cases e4;exact k
 ·have hn:ps.drop i=[]:=List.drop_eq_nil_of_le (by omega)
  rw[hn]at e
  cases e
  exact .inl ⟨h2 (by omega),k own σ H r⟩
theorem CH.small{G G':Hp}{A:Addr->Prop}{bo:Nat->Option (Addr×List V)}{D:Ends}{fl:Fl}(k:CH K κ fr G A bo D fl)(s:aE G G')(al:∀b,A b->G b≠none)(bg:∀i a vs,bo i=some (a,vs)->G a=some (.lst vs)):CH K κ fr G' A bo D fl:=by
 cases fl with
 |nx ρ'=>exact λdq σ' H' r=>k dq σ' H' (r.small s al bg)
 |bk ρ'=>exact λdq σ' H' r=>k dq σ' H' (r.small s al bg)
 |ct ρ'=>exact λdq σ' H' r=>k dq σ' H' (r.small s al bg)
 |rt p=>
  intro v H' s' q
  refine k v H' (s.trans s') ?_
  unfold RR at q⊢
  split
  ·rename_i h
   rw[if_pos h]at q
   exact Nc q s λb z=>z
  ·rename_i h
   rw[if_neg h]at q
   exact q
end
section
variable{X:Cx}{κ:Kl}{fr:Bool}{g:aL}{e a b c tg iter:Expr}{f fa fb:Den}{ft:cD}{pos:Pos}{fi:bX}{gt gu:yI}{body:List Stmt}
theorem iz(hi:DI X κ tg iter fi)(hg:DG X κ tg gt)(hb:Bv X κ fr body g)(hp:PassesOwn (model X.prog X.w) X.A X.env X.xe:=by exact PassesOwn.never)(hc:autoParam (X.calm=true) zR._auto_1)(hs:autoParam (∀x,foldedSetIterable iter X.env x=pure x) zI._auto_1):DS X κ fr (.For tg iter body [] pos) (ix fi gt g):=by
 obtain⟨wi,h1,h2⟩:=hi
 obtain⟨tt,h3,h4⟩:=hg
 obtain⟨tb,h5,h6⟩:=hb
 refine⟨_,wA hp hc h1 h3 h5 hs,λ{G A bo own ρ σ H fl D} r e k=>?_⟩
 obtain⟨ps,e1,e2⟩:=Option.bind_eq_some_iff.mp e
 refine h2 r e1 λJ H' s hI=>?_
 have r1:=r.mono s
 exact Ar hI h4 h6 r1.big e2 (k.small r1.gv r1.al r1.bg)
theorem CJ(n:Nat)(hc:DT X κ c ft)(hb:Bv X κ fr body g)(hp:PassesOwn (model X.prog X.w) X.A X.env X.xe:=by exact PassesOwn.never):DS X κ fr (.While c body [] pos) (eV ft g n):=by
 obtain⟨tc,h1,h2⟩:=hc
 obtain⟨tb,h3,h4⟩:=hb
 refine⟨_,uC hp h1 h3,λ{G A bo own ρ σ H fl D} r e k=>?_⟩
 refine⟨λm σ H=>∃own ρ,R X.K κ G A bo own ρ σ H/\eV ft g m ρ=some fl,⟨n,own,ρ,r,e⟩,?_⟩
 rintro m σ H ⟨own,ρ,r,e⟩
 cases m with
 |zero=>cases e
 |succ m=>
  unfold eV at e
  obtain⟨c,e1,e2⟩:=Option.bind_eq_some_iff.mp e
  refine h2 r e1 λH1 s1=>?_
  cases c with
  |false=>
   cases e2
   exact k own σ H1 (r.mono s1)
  |true=>
   obtain⟨f,e3,e4⟩:=Option.bind_eq_some_iff.mp e2
   refine⟨λσ' H'=>∃own ρ,R X.K κ G A bo own ρ σ' H'/\eV ft g m ρ=some fl,λσ' H' q=>⟨m,Nat.lt_succ_self m,q⟩,?_⟩
   refine h4 (r.mono s1) e3 ?_
   cases f with
   |nx ρ'=>exact λtD σ2 H2 r3=>⟨tD,ρ',r3,e4⟩
   |ct ρ'=>exact λtD σ2 H2 r3=>⟨tD,ρ',r3,e4⟩
   |bk ρ'=>cases e4;exact k
   |rt p=>cases e4;exact k
end
noncomputable def EG(K:PySem.W.Frag)(κ:Kl)(f:Den):TE:=λσ H Q=>∃G A bo own ρ p,R K κ G A bo own ρ σ H/\f ρ=some p/\∀v H',aE H H'->Rep K κ (dX A own ρ H') v p->Q v H'
noncomputable def JC(K:PySem.W.Frag)(κ:Kl)(f:cD):TT:=λσ H Q=>∃G A bo own ρ b,R K κ G A bo own ρ σ H/\f ρ=some b/\∀H',aE H H'->Q b H'
theorem DE.pe{X:Cx}{κ:Kl}{e:Expr}{f:Den}(h:DE X κ e f):PE X e (EG X.K κ f):=λpins s σ H Q I ⟨_,_,_,_,_,_,r,e,q⟩=>let⟨_,h1,h2⟩:=h;h1 pins s σ H Q I (h2 r e q)
theorem DT.pt{X:Cx}{κ:Kl}{e:Expr}{f:cD}(h:DT X κ e f):PT X e (JC X.K κ f):=λpins s σ H Q I ⟨_,_,_,_,_,_,r,e,q⟩=>let⟨_,h1,h2⟩:=h;h1 pins s σ H Q I (h2 r e q)
noncomputable def OB{α:Type}(f:Nat->α)(d:α):Nat->α
 |0=>d
 |i+1=>f i
section
variable{K:PySem.W.Frag}{κ:Kl}{G H:Hp}{A:Addr->Prop}{bo:Nat->Option (Addr×List V)}{own:Nat->Addr}{ρ:bM}{σ:St}{v:V}{p:PV}
theorem fI:cG A (OB own 0) (.sh p::ρ)=cG A own ρ:=by
 funext b
 refine propext ⟨λz=>?_,λz=>?_⟩
 ·rcases z with z|⟨j,m,z1,z2⟩
  ·exact .inl z
  ·cases j with
   |zero=>simp at z1
   |succ j=>exact .inr ⟨j,m,by simpa using z1,z2⟩
 ·rcases z with z|⟨j,m,z1,z2⟩
  ·exact .inl z
  ·exact .inr ⟨j+1,m,by simpa using z1,z2⟩
theorem R.cons(r:R K κ G A bo own ρ σ H)(z:Rep K κ (dX A own ρ H) v p):R K κ G A (OB bo none) (OB own 0) (.sh p::ρ) (some v::σ) H where
 al:=r.al
 bg:=λi a vs e=>by
  cases i with
  |zero=>cases e
  |succ i=>exact r.bg i a vs e
 same:=r.same
 sh:=λi q e=>by
  rw[dX,fI]
  cases i with
  |zero=>
   simp at e
   subst e
   exact⟨v,rfl,z⟩
  |succ i=>exact r.sh i q (by simpa using e)
 ow:=λi l e=>by
  rw[dX,fI]
  cases i with
  |zero=>simp at e
  |succ i=>exact r.ow i l (by simpa using e)
 inj:=λi j l m e f q=>by
  cases i with
  |zero=>simp at e
  |succ i=>
   cases j with
   |zero=>simp at f
   |succ j=>rw[r.inj i j l m (by simpa using e) (by simpa using f) q]
 bw:=λi l e=>by
  rw[dX,fI]
  cases i with
  |zero=>simp at e
  |succ i=>exact r.bw i l (by simpa using e)
 len:=by rw[List.length_cons,List.length_cons,r.len]
theorem jK{wi:TI}{fi:bX}{c:cD}{e:Den}(hi:∀{G A bo own ρ σ H ps Q},R K κ G A bo own ρ σ H->fi ρ=some ps->(∀J H',aE H H'->tw K κ H' (cG A own ρ) J ps->Q J H')->wi σ H Q):
  Ow K κ (B9 wi (JC K κ c) (EG K κ e)) (aV fi c e):=λ{G A bo own ρ σ H p Q} r e0 q=>by
 obtain⟨ps,e1,e2⟩:=Option.bind_eq_some_iff.mp e0
 have h0:ps.length<=sizeLine/\(gf c e ρ ps).map PV.lst=some p:=by
  split at e2
  ·exact⟨by assumption,e2⟩
  ·cases e2
 obtain⟨zs,e3,rfl⟩:=Option.map_eq_some_iff.mp h0.2
 refine hi r e1 λJ H1 s1 hI=>?_
 refine⟨λi m acc H2=>m=ps.length-i/\i<=ps.length/\aE H1 H2/\acc.length<=i/\∃out rest,aT K κ (dX A own ρ H2) acc out/\gf c e ρ (ps.drop i)=some rest/\out++rest=zs,
  ⟨ps.length,by simp,Nat.zero_le _,aE.refl _,Nat.zero_le _,[],zs,.nil,by simpa using e3,rfl⟩,?_⟩
 rintro i m acc H2 ⟨rfl,L3,s2,ha,out,rest,q1,q2,q3⟩
 obtain⟨h1,h2⟩:=hI i H2 s2
 have xg:=s1.trans s2
 have r2:=r.mono xg
 by_cases eS:i<ps.length
 ·rw[List.drop_eq_getElem_cons eS]at q2
  obtain⟨h3,h4⟩:=h1 ps[i] (List.getElem?_eq_getElem eS)
  refine .inr ⟨h3,by omega,λy H3 hy=>?_⟩
  obtain⟨s3,q4⟩:=h4 y H3 hy
  have rep:=q4 (cG A own ρ) (λb hb=>r2.Bt hb) (aF s2)
  have r3:=(r2.mono s3).cons rep
  unfold gf at q2
  obtain⟨b,e4,e5⟩:=Option.bind_eq_some_iff.mp q2
  refine⟨_,_,_,_,_,_,r3,e4,λH4 s4=>?_⟩
  have r4:=r3.mono s4
  cases b with
  |true=>
   dsimp only
   rw[if_pos rfl]at e5⊢
   obtain⟨z,e6,e7⟩:=Option.bind_eq_some_iff.mp e5
   obtain⟨ws,e8,rfl⟩:=Option.map_eq_some_iff.mp e7
   refine⟨_,_,_,_,_,_,r4,e6,λv H5 s5 q5=>?_⟩
   rw[dX,fI]at q5
   refine⟨ps.length-(i+1),by omega,rfl,eS,((s2.trans s3).trans s4).trans s5,by simp;omega,out++[z],ws,?_,e8,by rw[<-q3];simp⟩
   exact(q1.mono (aF ((s3.trans s4).trans s5))).append (.cons q5 .nil)
  |false=>
   dsimp only
   rw[if_neg Bool.false_ne_true]at e5⊢
   exact⟨ps.length-(i+1),by omega,rfl,eS,(s2.trans s3).trans s4,by omega,out,rest,q1.mono (aF (s3.trans s4)),e5,q3⟩
 ·have hn:ps.drop i=[]:=List.drop_eq_nil_of_le (by omega)
  rw[hn]at q2
  cases q2
  rw[List.append_nil]at q3
  subst q3
  refine .inl ⟨h2 (by omega),λp hp=>q _ _ (xg.trans (bD hp)) ?_⟩
  obtain⟨a,ws,l,w1,w2,w3,w4⟩:=r2.vc hp q1
  refine⟨a,ws,l,w1,w2,?_,w4⟩
  cases w1
  exact xg.free hp
end
section
variable{X:Cx}{κ:Kl}{fr:Bool}{sc:Scope}{x:Str}{px pos:Pos}{elt iter c:Expr}{fi:bX}{ft:cD}{f:Den}
theorem cZ(hi:CI X κ (.Name x px) iter fi)(ji:Scope)(N0 ys:List Str)(he:∀ex C s H,DE (X.lF sc x ys ex C s H) κ elt f)(mL:autoParam (X.env.scope=ji) zR._auto_1)(As:autoParam (X.N=N0) zR._auto_1)(qg:iZ ji N0 sc x ys=true:=by decide+kernel)(hc:autoParam (X.calm=true) zR._auto_1)
  (hs:autoParam (∀x,foldedSetIterable iter X.env x=pure x) zI._auto_1):DO X κ (.ListComp elt [⟨.Name x px,iter,[],0⟩] sc pos) (aV fi a9 f):=by
 obtain⟨wi,h1,h2⟩:=hi
 refine⟨_,yC h1 ys (tt:=JC X.K κ a9) (te:=EG X.K κ f) (λex C s H=>?_) (λex C s H=>(he ex C s H).pe) (by rw[mL,As];exact qg) hc hs,jK h2⟩
 intro pins s σ H Q I ⟨_,_,_,_,_,_,r,e,q⟩
 cases e
 exact oH pins s σ H Q I (q _ (aE.refl _))
theorem kj(hi:CI X κ (.Name x px) iter fi)(ji:Scope)(N0 ys:List Str)(ht:∀ex C s H,DT (X.lF sc x ys ex C s H) κ c ft)(he:∀ex C s H,DE (X.lF sc x ys ex C s H) κ elt f)(mL:autoParam (X.env.scope=ji) zR._auto_1)(As:autoParam (X.N=N0) zR._auto_1)(qg:iZ ji N0 sc x ys=true:=by decide+kernel)(hc:autoParam (X.calm=true) zR._auto_1)
  (hs:autoParam (∀x,foldedSetIterable iter X.env x=pure x) zI._auto_1):DO X κ (.ListComp elt [⟨.Name x px,iter,[c],0⟩] sc pos) (aV fi ft f):=by
 obtain⟨wi,h1,h2⟩:=hi
 exact⟨_,yC h1 ys (tt:=JC X.K κ ft) (te:=EG X.K κ f) (λex C s H=>uS (ht ex C s H).pt) (λex C s H=>(he ex C s H).pe) (by rw[mL,As];exact qg) hc hs,jK h2⟩
theorem FP(i:Nat){y:Str}{py jz:Pos}(hN:X.N.Nodup)(hi:CI X κ (.Name x px) iter fi)(ji:Scope)(N0 ys:List Str)(he:∀ex C s H,DE (X.lF sc x ys ex C s H) κ elt f)(Ca:autoParam (X.N[i]?=some y) zR._auto_1)(hy:autoParam (X.env.scope.names.lookup y=some .local) zR._auto_1)(mL:autoParam (X.env.scope=ji) zR._auto_1)(As:autoParam (X.N=N0) zR._auto_1)(qg:iZ ji N0 sc x ys=true:=by decide+kernel)(hc:autoParam (X.calm=true) zR._auto_1)
  (hs:autoParam (∀x,foldedSetIterable iter X.env x=pure x) zI._auto_1)(Cb:autoParam (swapsWith (.ListComp elt [⟨.Name x px,iter,[],0⟩] sc pos) (some (.Name y py)) jz.line X.env=pure true) zR._auto_1):
  DS X κ fr (.Assign [.Name y py] (.ListComp elt [⟨.Name x px,iter,[],0⟩] sc pos) jz) (cK i (aV fi a9 f)):=by
 obtain⟨wi,h1,h2⟩:=hi
 refine⟨_,sM hN Ca hy h1 ys (tt:=JC X.K κ a9) (te:=EG X.K κ f) (λex C s H=>?_) (λex C s H=>(he ex C s H).pe) (by rw[mL,As];exact qg) hc hs Cb,λ{G A bo own ρ σ H fl D} r e k=>?_⟩
 ·intro pins s σ H Q I ⟨_,_,_,_,_,_,r,e,q⟩
  cases e
  exact oH pins s σ H Q I (q _ (aE.refl _))
 ·obtain⟨p,e1,rfl⟩:=Option.map_eq_some_iff.mp e
  exact jK h2 r e1 λv H' s z=>k _ _ _ ((r.mono s).set (z.rep r))
theorem Au(i:Nat){y:Str}{py jz:Pos}(hN:X.N.Nodup)(hi:CI X κ (.Name x px) iter fi)(ji:Scope)(N0 ys:List Str)(ht:∀ex C s H,DT (X.lF sc x ys ex C s H) κ c ft)(he:∀ex C s H,DE (X.lF sc x ys ex C s H) κ elt f)(Ca:autoParam (X.N[i]?=some y) zR._auto_1)(hy:autoParam (X.env.scope.names.lookup y=some .local) zR._auto_1)(mL:autoParam (X.env.scope=ji) zR._auto_1)(As:autoParam (X.N=N0) zR._auto_1)(qg:iZ ji N0 sc x ys=true:=by decide+kernel)(hc:autoParam (X.calm=true) zR._auto_1)
  (hs:autoParam (∀x,foldedSetIterable iter X.env x=pure x) zI._auto_1)(Cb:autoParam (swapsWith (.ListComp elt [⟨.Name x px,iter,[c],0⟩] sc pos) (some (.Name y py)) jz.line X.env=pure true) zR._auto_1):
  DS X κ fr (.Assign [.Name y py] (.ListComp elt [⟨.Name x px,iter,[c],0⟩] sc pos) jz) (cK i (aV fi ft f)):=by
 obtain⟨wi,h1,h2⟩:=hi
 refine⟨_,sM hN Ca hy h1 ys (tt:=JC X.K κ ft) (te:=EG X.K κ f) (λex C s H=>uS (ht ex C s H).pt) (λex C s H=>(he ex C s H).pe) (by rw[mL,As];exact qg) hc hs Cb,λ{G A bo own ρ σ H fl D} r e k=>?_⟩
 obtain⟨p,e1,rfl⟩:=Option.map_eq_some_iff.mp e
 exact jK h2 r e1 λv H' s z=>k _ _ _ ((r.mono s).set (z.rep r))
end
noncomputable def tE(K:PySem.W.Frag)(κ:Kl)(fr:Bool)(F:List PV->Option PV):Sp:=λvs H Q _=>∃(A:Addr->Prop) (ps:List PV) (p:PV),(∀b,A b->H b≠none)/\aT K κ (hide A H) vs ps/\F ps=some p/\∀v H',aE H H'->RR fr K κ A H H' v p->Q v H'
section
variable{X:Cx}{κ:Kl}{fr:Bool}{k:Nat}{f:Addr}{fd:FuncData}{ps:List Str}{F:List PV->Option PV}{x:Str}{p pos:Pos}{e:Expr}{es:List Expr}{fs:bX}
theorem dO(FO:cw X.prog X.w X.K X.mg X.base g7 k f fd ps (tE X.K κ false F))(hr:bO k X.A)(hm:X.mg x=some (.ref f))(hk:PySem.W.keepIn X.K (.ref f)=true)(hb:Binds X.K fd ps [])(ha:DA X κ (e::es) fs)(hg:autoParam (Gl X x) zR._auto_1)(uD:autoParam ((x==("__debug__" :Str))=false) zD._auto_1)
  (he:autoParam (starEach (e::es) X.env=(false,eval e X.env)::starEach es X.env) zR._auto_1)(hpl:autoParam ((backTo pos (starEach es X.env)).any (·.1)=false) zR._auto_1):DE X κ (.Call (.Name x p) (e::es) [] pos) (aK F fs):=by
 obtain⟨ta,h1,h2⟩:=ha
 refine⟨_,nR FO hr hg hm hk hb .nil kD h1 uD he hpl,λ{G A bo own ρ σ H p Q} r e q=>?_⟩
 obtain⟨xs,e1,e2⟩:=Option.bind_eq_some_iff.mp e
 refine h2 r e1 λvs H1 s1 z1=>?_
 rw[List.append_nil]
 exact⟨cG A own ρ,xs,p,λb hb=>(r.mono s1).Bt hb,z1,e2,λv H' s z=>q v H' (s1.trans s) z⟩
theorem du(FO:cw X.prog X.w X.K X.mg X.base g7 k f fd ps (tE X.K κ true F))(hr:bO k X.A)(hm:X.mg x=some (.ref f))(hk:PySem.W.keepIn X.K (.ref f)=true)(hb:Binds X.K fd ps [])(ha:DA X κ (e::es) fs)(hg:autoParam (Gl X x) zR._auto_1)(uD:autoParam ((x==("__debug__" :Str))=false) zD._auto_1)
  (he:autoParam (starEach (e::es) X.env=(false,eval e X.env)::starEach es X.env) zR._auto_1)(hpl:autoParam ((backTo pos (starEach es X.env)).any (·.1)=false) zR._auto_1):DO X κ (.Call (.Name x p) (e::es) [] pos) (aK F fs):=by
 obtain⟨ta,h1,h2⟩:=ha
 refine⟨_,nR FO hr hg hm hk hb .nil kD h1 uD he hpl,λ{G A bo own ρ σ H p Q} r e q=>?_⟩
 obtain⟨xs,e1,e2⟩:=Option.bind_eq_some_iff.mp e
 refine h2 r e1 λvs H1 s1 z1=>?_
 rw[List.append_nil]
 exact⟨cG A own ρ,xs,p,λb hb=>(r.mono s1).Bt hb,z1,e2,λv H' s z=>q v H' (s1.trans s) (Nc z s1 λb w=>w)⟩
theorem CK(FO:cw X.prog X.w X.K X.mg X.base g7 k f fd ps (tE X.K κ false F))(hr:bO k X.A)(hm:X.mg x=some (.ref f))(hk:PySem.W.keepIn X.K (.ref f)=true)(hb:Binds X.K fd ps [])(ha:Nb X κ (e::es) fs)(hg:autoParam (Gl X x) zR._auto_1)(uD:autoParam ((x==("__debug__" :Str))=false) zD._auto_1)
  (he:autoParam (starEach (e::es) X.env=(false,eval e X.env)::starEach es X.env) zR._auto_1)(hpl:autoParam ((backTo pos (starEach es X.env)).any (·.1)=false) zR._auto_1):DE X κ (.Call (.Name x p) (e::es) [] pos) (sP F fs):=by
 obtain⟨ta,h1,h2⟩:=ha
 refine⟨_,nR FO hr hg hm hk hb .nil kD h1 uD he hpl,λ{G A bo own ρ σ H p Q} r e q=>?_⟩
 obtain⟨xs,e1,e2⟩:=Option.bind_eq_some_iff.mp e
 obtain⟨p',e3,e4⟩:=Option.bind_eq_some_iff.mp e2
 obtain⟨h3,rfl⟩:=br e4
 refine h2 r e1 λvs H1 s1 z1=>?_
 rw[List.append_nil]
 have z2:aT X.K κ (hide (λ_=>False) H1) vs xs:=(z1.full av).mono λb o w=>by rw[bj (λz=>z)];exact w
 exact⟨λ_=>False,xs,p',λb hb=>hb.elim,z2,e3,λv H' s z=>q v H' (s1.trans s) (Rep.flat h3 z)⟩
end
section
variable{P:Program}{w:World}{K:PySem.W.Frag}{mg:Str->Option Value}{base:Heap}{κ:Kl}{fr:Bool}
theorem kQ{n:Nat}{ps:List PV}{i:Nat}{s:Slot}(h:(dJ n ps)[i]?=some s):(∃p,ps[i]?=some p/\s=.sh p)\/s=.un:=by
 unfold dJ at h
 rw[List.getElem?_append]at h
 split at h
 ·rw[List.getElem?_map]at h
  obtain⟨p,h1,h2⟩:=Option.map_eq_some_iff.mp h
  exact .inl ⟨p,h1,h2.symm⟩
 ·rw[List.getElem?_replicate]at h
  split at h
  ·exact .inr (Option.some.inj h).symm
  ·cases h
theorem R.entry{A:Addr->Prop}{H:Hp}{N:List Str}{vs:List V}{ps:List PV}(al:∀b,A b->H b≠none)(h:aT K κ (hide A H) vs ps):R K κ H A (λ_=>none) (λ_=>0) (dJ N.length ps) (start N vs) H:=by
 have no:∀{i:Nat} {l:Cn},(dJ N.length ps)[i]?≠some (.own l):=λ{i l} e=>by
  rcases kQ e with⟨p,_,z⟩|z<;>cases z
 have he:cG A (λ_=>0) (dJ N.length ps)=A:=by
  funext b
  refine propext ⟨λz=>?_,.inl⟩
  rcases z with z|⟨j,m,z1,z2⟩
  ·exact z
  ·exact absurd z1 no
 refine⟨al,λi a vs e=>(by cases e),λ_ _ z=>z,λi p e=>?_,λi l e=>absurd e no,λi j l m e=>absurd e no,λi l e=>?_,?_⟩
 ·rcases kQ e with⟨p',h1,z⟩|z
  ·cases z
   obtain⟨v,h2,h3⟩:=h.get h1
   refine⟨v,?_,by rw[dX,he];exact h3⟩
   unfold start
   rw[List.getElem?_append_left (by rw[List.length_map];exact(List.getElem?_eq_some_iff.mp h2).1),List.getElem?_map,h2]
   rfl
  ·cases z
 ·rcases kQ e with⟨p,_,z⟩|z<;>cases z
 ·unfold start dJ
  simp[h.length]
theorem FQ{x qual:Str}{st:Stmt}{f:Addr}{fd:FuncData}{N ps:List Str}{k:Nat}{g:aL}(F:uH K x qual st f fd)(S:d5 N ps (aj st))
  (hb:∀(eC:Value) (A:Around) (outer:List Env) (s:Shared) (H:Hp) (E:XK),bO k (A.deeper (envOfC qual (aj st) s.heap.objs.size f eC))->Bv (ky g7 P w K mg base N qual (aj st) f eC A outer s H E).yk κ fr (cj st) g):
  cw P w K mg base g7 (k+1) f fd ps (tE K κ fr (fn fr N.length ps.length g)):=by
 refine F.ok S (λvs H Q E h=>?_) (λeC A outer s H vs Q E hr h=>?_)
 ·obtain⟨A,qs,p,_,h1,h2,_⟩:=h
  unfold fn at h2
  split at h2
  ·rw[h1.length]
   assumption
  ·cases h2
 ·obtain⟨A',qs,p,al,h1,h2,q⟩:=h
  obtain⟨ts,a1,a2⟩:=hb eC A outer s H E hr
  refine⟨ts,a1,?_⟩
  have h3:(g (dJ N.length qs)).bind (sS fr)=some p:=by
   unfold fn at h2
   split at h2
   ·exact h2
   ·cases h2
  obtain⟨fl,e1,e2⟩:=Option.bind_eq_some_iff.mp h3
  refine a2 (R.entry al h1) e1 ?_
  cases fl with
  |rt p'=>cases e2;exact q
  |nx ρ'=>
   cases fr with
   |true=>cases e2
   |false=>
    cases e2
    exact λdq σ' H' r'=>q _ _ r'.same .non
  |bk ρ'=>cases e2
  |ct ρ'=>cases e2
end
end L2.D
namespace L2.D
open PySem PySem.Spec PyProof.Rows PySem.SeqAt
open Classical
section
variable{X:Cx}{κ:Kl}{fr:Bool}{e a b c:Expr}{f fa fb fc:Den}{p pos:Pos}
theorem yR{K:PySem.W.Frag}{hH H:Hp}{x:V}{p:PV}(h:BR K κ hH H x p):uZ p=some (.bl (decide (x=.non))):=by
 rcases h with h|⟨a,vs,l,rfl,rfl,_⟩
 ·cases h<;>simp[uZ]
 ·simp[uZ]
theorem JD{j pos'}(ha:DB X κ a fa):DC X κ .Is a (.Constant .none j pos') (aR uZ fa):=by
 obtain⟨ta,h1,h2⟩:=ha
 refine⟨_,_,_,IE,h1,wx,λ{G A bo own ρ σ H p Q} r e q=>?_⟩
 obtain⟨p1,e1,e2⟩:=Option.bind_eq_some_iff.mp e
 refine h2 r e1 λx H1 s1 b1=>?_
 rw[yR b1]at e2
 cases e2
 exact⟨rfl,q _ H1 s1 (.bl _)⟩
theorem FR{j pos'}(ha:DB X κ a fa):DC X κ .IsNot a (.Constant .none j pos') (aR u7 fa):=by
 obtain⟨ta,h1,h2⟩:=ha
 refine⟨_,_,_,EV,h1,wx,λ{G A bo own ρ σ H p Q} r e q=>?_⟩
 obtain⟨p1,e1,e2⟩:=Option.bind_eq_some_iff.mp e
 refine h2 r e1 λx H1 s1 b1=>?_
 unfold u7 at e2
 rw[yR b1]at e2
 cases e2
 exact⟨rfl,q _ H1 s1 (.bl _)⟩
theorem Hw{K:PySem.W.Frag}{H:Hp}:∀{vs:List V} {l:List PV},aT K κ H vs l->l.all flat=true->vs.all jx=true
 |_,_,.nil,_=>rfl
 |_,_,.cons r t,h=>by
  rw[List.all_cons,Bool.and_eq_true]at h⊢
  refine⟨?_,Hw t h.2⟩
  cases r<;>simp_all[flat,jx]
theorem L4{K:PySem.W.Frag}{H H':Hp}{v w:V}{p q:PV}(r1:Rep K κ H v p)(r2:Rep K κ H' w q)(f1:flat p=true)(f2:flat q=true):LU p q=EB v w:=by
 cases r1<;>cases r2<;>simp_all[flat,LU,EB]
theorem Hx{K:PySem.W.Frag}{H H':Hp}{v:V}{p:PV}(r:Rep K κ H v p)(f:flat p=true):∀{vs:List V} {l:List PV},aT K κ H' vs l->l.all flat=true->yF p l=MY v vs
 |_,_,.nil,_=>rfl
 |_,_,.cons r1 t,h=>by
  rw[List.all_cons,Bool.and_eq_true]at h
  have ih:=Hx r f t h.2
  unfold yF MY at ih⊢
  rw[List.any_cons,List.any_cons,ih,L4 r1 r h.1 f]
theorem FU{neg:Bool}{K:PySem.W.Frag}{hH H':Hp}{x y:V}{p1 p2 p:PV}{Q:VK}(b1:BR K κ hH H' x p1)(b2:BR K κ hH H' y p2)(s:aE hH H')(e:(if neg then jA p1 p2 else Q6 p1 p2)=some p)(q:∀b,p=.bl b->Q (.bl b) H'):NS K neg x y H' Q:=by
 have go:∀(l:List PV) (vs:List V) (a:Addr),y=.ref a->(fQ K H' a vs\/pY K H' a vs)->aT K κ hH vs l->(if(flat p1&&l.all flat)=true then some (PV.bl (if neg then !yF p1 l else yF p1 l))else none)=some p->NS K neg x y H' Q:=by
  intro l vs a hy hs w e
  obtain⟨h1,h2⟩:=br e
  rw[Bool.and_eq_true]at h1
  have rx:=b1.full s
  refine⟨a,vs,hy,hs,?_,Hw w h1.2,?_⟩
  ·cases rx<;>simp_all[flat,jx]
  ·rw[Hx rx h1.1 w h1.2]at h2
   exact q _ h2.symm
 cases p2 with
 |lst l=>
  obtain⟨a,vs,rfl,q1,q2⟩:=b2.lst s
  exact go l vs a rfl (.inl q1.sq) q2 (by cases neg<;>exact e)
 |tup l=>
  obtain⟨a,vs,rfl,q1,q2⟩:=b2.tup s
  exact go l vs a rfl (.inr q1) q2 (by cases neg<;>exact e)
 |_=>cases neg<;>cases e
theorem vf(ha:DB X κ a fa)(hb:DB X κ b fb):DC X κ .NotIn a b (ah jA fa fb):=by
 obtain⟨ta,h1,h2⟩:=ha
 obtain⟨tb,h3,h4⟩:=hb
 refine⟨_,_,_,sk,h1,h3,λ{G A bo own ρ σ H p Q} r e q=>?_⟩
 refine vd h2 h4 r e λx y p1 p2 H' s r' b1 b2 e'=>?_
 exact FU (neg:=true) b1 b2 av e' λb z=>q _ H' s (by rw[z];exact .bl _)
theorem c7(ha:DB X κ a fa)(hm:X.mg "len" =none)(hg:autoParam (Gl X "len") zR._auto_1)(hs:autoParam (starEach [a] X.env=(false,eval a X.env)::starEach [] X.env) zR._auto_1):DE X κ (.Call (.Name "len" p) [a] [] pos) (aR bH fa):=by
 obtain⟨ta,h1,h2⟩:=ha
 refine⟨_,iJ (sr.or su) hg hm PySem.boot_len (bq h1 cc hs) (he:=hs),λ{G A bo own ρ σ H p Q} r e q=>?_⟩
 obtain⟨p1,e1,e2⟩:=Option.bind_eq_some_iff.mp e
 refine h2 r e1 λx H1 s1 b1=>?_
 cases p1<;>first|(cases e2;done)|skip
 ·obtain⟨z1,rfl⟩:=br e2
  exact .inr ⟨_,by rw[b1.str],z1,q _ H1 s1 (.int _)⟩
 ·cases e2
  obtain⟨a,vs,rfl,q1,q2⟩:=b1.lst av
  exact .inl ⟨a,vs,rfl,.inl q1.sq,q _ H1 s1 (by rw[q2.length];exact .int _)⟩
 ·cases e2
  obtain⟨a,vs,rfl,q1,q2⟩:=b1.tup av
  exact .inl ⟨a,vs,rfl,.inr q1,q _ H1 s1 (by rw[q2.length];exact .int _)⟩
theorem yS(ha:DB X κ a fa)(hm:X.mg "list" =none)(hg:autoParam (Gl X "list") zR._auto_1)(hs:autoParam (starEach [a] X.env=(false,eval a X.env)::starEach [] X.env) zR._auto_1):DO X κ (.Call (.Name "list" p) [a] [] pos) (aR Cm fa):=by
 obtain⟨ta,h1,h2⟩:=ha
 refine⟨_,qG sy hg hm PyProof.Rows.boot_list (bq h1 cc hs) (he:=hs),λ{G A bo own ρ σ H p Q} r e q=>?_⟩
 obtain⟨p1,e1,e2⟩:=Option.bind_eq_some_iff.mp e
 refine h2 r e1 λx H1 s1 b1=>?_
 have fin:∀{vs l n},H1 n=none->aT X.K κ (dX A own ρ H1) vs l->p=.lst l->Q (.ref n) (upd H1 n (.lst vs)):=λ{vs l n} hn w z=>by
  subst z
  refine q _ _ (s1.trans (bD hn)) ?_
  obtain⟨a,ws,l,w1,w2,w3,w4⟩:=(r.mono s1).vc hn w
  refine⟨a,ws,l,w1,w2,?_,w4⟩
  cases w1
  exact s1.free hn
 cases p1<;>first|(cases e2;done)|skip
 ·obtain⟨a,vs,rfl,q1,q2⟩:=b1.lst av
  exact⟨a,vs,rfl,.inl q1.sq,λn hn=>fin hn q2 (Option.some.inj e2).symm⟩
 ·obtain⟨a,vs,rfl,q1,q2⟩:=b1.tup av
  exact⟨a,vs,rfl,.inr q1,λn hn=>fin hn q2 (Option.some.inj e2).symm⟩
theorem tF{K:PySem.W.Frag}{H:Hp}:∀{vs:List V} {l:List PV} {bs:List Bool},aT K κ H vs l->bools l=some bs->vs=bs.map V.bl
 |_,_,_,.nil,h=>by cases h;rfl
 |_,p::_,_,.cons r t,h=>by
  cases p<;>first|(cases h;done)|skip
  obtain⟨cs,h1,rfl⟩:=Option.map_eq_some_iff.mp h
  rw[List.map_cons,<-tF t h1,r.wq]
theorem JE(ha:DB X κ a fa)(hm:X.mg "any" =none)(hg:autoParam (Gl X "any") zR._auto_1)(hc:autoParam (X.calm=true) zR._auto_1)(hs:autoParam (starEach [a] X.env=(false,eval a X.env)::starEach [] X.env) zR._auto_1):DE X κ (.Call (.Name "any" p) [a] [] pos) (aR Fn fa):=by
 obtain⟨ta,h1,h2⟩:=ha
 refine⟨_,iJ (uW hc) hg hm PyProof.Rows.boot_any (bq h1 cc hs) (he:=hs),λ{G A bo own ρ σ H p Q} r e q=>?_⟩
 obtain⟨p1,e1,e2⟩:=Option.bind_eq_some_iff.mp e
 refine h2 r e1 λx H1 s1 b1=>?_
 cases p1<;>first|(cases e2;done)|skip
 obtain⟨bs,e3,rfl⟩:=Option.map_eq_some_iff.mp e2
 obtain⟨a,vs,rfl,q1,q2⟩:=b1.lst av
 rw[tF q2 e3]at q1
 exact⟨a,bs,rfl,q1.sq,q _ H1 s1 (.bl _)⟩
theorem JF(ha:DB X κ a fa)(hm:X.mg "all" =none)(hg:autoParam (Gl X "all") zR._auto_1)(hc:autoParam (X.calm=true) zR._auto_1)(hs:autoParam (starEach [a] X.env=(false,eval a X.env)::starEach [] X.env) zR._auto_1):DE X κ (.Call (.Name "all" p) [a] [] pos) (aR Fo fa):=by
 obtain⟨ta,h1,h2⟩:=ha
 refine⟨_,iJ (uX hc) hg hm PyProof.Rows.boot_all (bq h1 cc hs) (he:=hs),λ{G A bo own ρ σ H p Q} r e q=>?_⟩
 obtain⟨p1,e1,e2⟩:=Option.bind_eq_some_iff.mp e
 refine h2 r e1 λx H1 s1 b1=>?_
 cases p1<;>first|(cases e2;done)|skip
 obtain⟨bs,e3,rfl⟩:=Option.map_eq_some_iff.mp e2
 obtain⟨a,vs,rfl,q1,q2⟩:=b1.lst av
 rw[tF q2 e3]at q1
 exact⟨a,bs,rfl,q1.sq,q _ H1 s1 (.bl _)⟩
theorem FV{apos cO:Pos}(ha:DB X κ a fa)(fR:autoParam (attributeBase a "bit_length" X.env (eval a X.env)=eval a X.env) zR._auto_1)(fS:autoParam ((apos.endLine==cO.line)=true) zR._auto_1):DE X κ (.Call (.Attribute a "bit_length" apos) [] [] cO) (aR Co fa):=by
 obtain⟨ta,h1,h2⟩:=ha
 refine⟨_,IM PySem.F.plainAttrs_int PySem.F.slot_int_bit_length PySem.F.type_int_bit_length Fi h1 fR fS,λ{G A bo own ρ σ H p Q} r e q=>?_⟩
 obtain⟨p1,e1,e2⟩:=Option.bind_eq_some_iff.mp e
 refine h2 r e1 λx H1 s1 b1=>?_
 cases p1<;>first|(cases e2;done)|skip
 cases e2
 have:=b1.int
 subst this
 exact⟨rfl,_,rfl,rfl,q _ H1 s1 (.int _)⟩
theorem aT.at{K:PySem.W.Frag}{H:Hp}{vs:List V}{l:List PV}{i:Int}{p:PV}(h:aT K κ H vs l)(e:itemAt l i=some p):∃v,Hf vs i=some v/\Rep K κ H v p:=by
 obtain⟨j,e1,e2⟩:=Option.bind_eq_some_iff.mp e
 obtain⟨v,h1,h2⟩:=h.get e2
 refine⟨v,?_,h2⟩
 unfold Hf
 rw[h.length]
 exact Option.bind_eq_some_iff.mpr ⟨j,e1,h1⟩
theorem bS(ha:DB X κ a fa)(hb:DB X κ b fb)(hs:r9 b:=by intro _ _;rfl):DE X κ (.Subscript a b pos) (ah cS fa fb):=by
 obtain⟨ta,h1,h2⟩:=ha
 obtain⟨tb,h3,h4⟩:=hb
 refine⟨_,Hg IJ h1 h3 hs,λ{G A bo own ρ σ H p Q} r e q=>?_⟩
 refine vd h2 h4 r e λx y p1 p2 H' s r' b1 b2 e'=>?_
 (cases p1<;>first|(cases e';done)|skip)<;>cases p2<;>first|(cases e';done)|skip
 ·rename_i x' i'
  have e3:(if x'.length<=sizeLine then(itemAt x'.cps.toList i').map λc=>PV.str ⟨#[c]⟩else none)=some p:=e'
  have z1:x'.length<=sizeLine:=by
   by_cases z:x'.length<=sizeLine
   ·exact z
   ·rw[if_neg z]at e3
    cases e3
  have z2:((itemAt x'.cps.toList i').map λc=>PV.str ⟨#[c]⟩)=some p:=by
   rw[if_pos z1]at e3
   exact e3
  obtain⟨c,e2,rfl⟩:=Option.map_eq_some_iff.mp z2
  exact .inr (.inr ⟨_,_,c,b1.str,b2.int,z1,e2,q _ H' s (.str _)⟩)
 ·obtain⟨a,vs,rfl,q1,q2⟩:=b1.lst av
  obtain⟨v,z1,z2⟩:=q2.at e'
  exact .inl ⟨a,vs,_,v,rfl,b2.int,q1.sq,z1,q _ H' s z2⟩
 ·obtain⟨a,vs,rfl,q1,q2⟩:=b1.tup av
  obtain⟨v,z1,z2⟩:=q2.at e'
  exact .inr (.inl ⟨a,vs,_,v,rfl,b2.int,q1,z1,q _ H' s z2⟩)
noncomputable def DP(X:Cx)(κ:Kl)(e:Option Expr)(f:Am):Prop:=∃to,PO X e to/\∀{G A bo own ρ σ H o Q},R X.K κ G A bo own ρ σ H->f ρ=some o->(∀H',aE H H'->Q o H')->to σ H Q
theorem tG:DP X κ none oP:=⟨_,E4,λ{G A bo own ρ σ H o Q} r e q=>by cases e;exact q H (aE.refl _)⟩
theorem tH(ha:DB X κ a fa):DP X κ (some a) (nc fa):=by
 obtain⟨ta,h1,h2⟩:=ha
 refine⟨_,E5 h1,λ{G A bo own ρ σ H o Q} r e q=>?_⟩
 obtain⟨p,e1,e2⟩:=Option.bind_eq_some_iff.mp e
 obtain⟨i,e3,rfl⟩:=Option.map_eq_some_iff.mp e2
 refine h2 r e1 λx H1 s1 b1=>?_
 cases p<;>first|(cases e3;done)|skip
 cases e3
 exact⟨_,b1.int,q H1 s1⟩
theorem aT.cut{K:PySem.W.Frag}{H:Hp}{vs:List V}{l:List PV}(h:aT K κ H vs l)(lo hi:Option Int):aT K κ H (Aa vs lo hi) (sR l lo hi):=by
 have e:∀n d o,HT.wo n d o=Fp n d o:=λn d o=>by cases o<;>rfl
 unfold Aa sR
 rw[h.length,e,e]
 exact(h.drop _).take _
theorem oW{p2:Pos}{lo hi:Option Expr}{fl fh:Am}(ha:DB X κ a fa)(hl:DP X κ lo fl)(hh:DP X κ hi fh):DO X κ (.Subscript a (.Slice lo hi none p2) pos) (Hs fa fl fh):=by
 obtain⟨ta,h1,h2⟩:=ha
 obtain⟨tl,h3,h4⟩:=hl
 obtain⟨th,h5,h6⟩:=hh
 refine⟨_,BP E7 h1 h3 h5,λ{G A bo own ρ σ H p Q} r e q=>?_⟩
 obtain⟨p1,e1,e2⟩:=Option.bind_eq_some_iff.mp e
 obtain⟨o1,e3,e4⟩:=Option.bind_eq_some_iff.mp e2
 obtain⟨o2,e5,e6⟩:=Option.bind_eq_some_iff.mp e4
 refine h2 r e1 λx H1 s1 b1=>h4 (r.mono s1) e3 λH2 s2=>h6 ((r.mono s1).mono s2) e5 λH3 s3=>?_
 cases p1<;>first|(cases e6;done)|skip
 cases e6
 have L5:=(s1.trans s2).trans s3
 obtain⟨a,vs,rfl,q1,q2⟩:=(b1.Cw (s2.trans s3)).lst av
 refine⟨a,vs,rfl,q1.sq,λn hn=>q _ _ (L5.trans (bD hn)) ?_⟩
 obtain⟨a,ws,l,w1,w2,w3,w4⟩:=(r.mono L5).vc hn (q2.cut o1 o2)
 refine⟨a,ws,l,w1,w2,?_,w4⟩
 cases w1
 exact L5.free hn
noncomputable def L6:Nat->String
 |0=> "int"
 |1=> "bool"
 |2=> "str"
 |3=> "list"
 |4=> "tuple"
 |_=> "NoneType"
theorem JG(K:PySem.W.Frag):∀j,j<6->∀k,k<5->PySem.W.kitOne K (.type (L6 j)) (.type (L6 k))=some (j==k||(k==0&&j==1)):=by
 intro j hj k hk
 rcases j with _|_|_|_|_|_|j<;>first|omega|(rcases k with _|_|_|_|_|k<;>first|omega|rfl)
theorem vg(k:Nat)(hk:k<5):gH X (.builtin "isinstance") (λxs H Q=>∃x p,xs=[x,.ty (L6 k)]/\Rep X.K κ H x p/\yG p≠6/\Q (.bl (xa k p)) H):=by
 intro pins s σ H xs us Q I r h
 obtain⟨x,p,rfl,rp,h6,q⟩:=h
 obtain⟨u,c,rfl,ru,rc⟩:=vals2 r
 cases rc
 have fin:∀tk:Nat,EP X pins σ Q (.bool (xa k p)) {s with toks:=tk}:=λtk=>⟨.bl _,H,I.tok _,rfl,q⟩
 have KA:=λj hj=>JG X.K j hj k hk
 cases rp with
 |non=>cases ru;exact PySem.W.kia_one PySem.W.kitx_none I.oi True.intro (KA 5 (by decide)) (λz=>nomatch z) fin
 |bl b=>cases ru;exact PySem.W.kia_one PySem.W.kitx_bool I.oi True.intro (KA 1 (by decide)) (λz=>nomatch z) fin
 |int i=>obtain⟨t,rfl⟩:=ru;exact PySem.W.kia_one PySem.W.kitx_int I.oi True.intro (KA 0 (by decide)) (λz=>nomatch z) fin
 |str i=>obtain⟨t,rfl⟩:=ru;exact PySem.W.kia_one PySem.W.kitx_str I.oi True.intro (KA 2 (by decide)) (λz=>nomatch z) fin
 |lst h1 _=>
  cases ru
  obtain⟨_,_,pl,_⟩:=I.list h1.sq
  obtain⟨o,ho,hc,_⟩:=pl.isList
  exact PySem.W.kia_one PySem.W.kitx_list I.oi ⟨o,ho,hc⟩ (KA 3 (by decide)) (λz=>nomatch z) fin
 |tup h1 _=>
  cases ru
  obtain⟨_,_,pl,_⟩:=I.tuple h1
  obtain⟨o,ho,hc,_⟩:=pl
  exact PySem.W.kia_one PySem.W.kitx_tuple I.oi ⟨o,ho,hc⟩ (KA 4 (by decide)) (λz=>nomatch z) fin
 |ins _ _ _=>exact absurd rfl h6
theorem kl{x:Str}{p2:Pos}(k:Nat)(hk:k<5)(hv:bootBuiltins x=some (.type (L6 k)))(ha:DB X κ a fa)(hm:X.mg "isinstance" =none)(FX:X.mg x=none)(hg:Gl X "isinstance")(FY:Gl X x)(hn:x≠ "__name__")(hd:(x==("__debug__" :Str))=false)
  (hs:starEach [a,.Name x p2] X.env=(false,eval a X.env)::starEach [.Name x p2] X.env)(j9:starEach [.Name x p2] X.env=(false,eval (.Name x p2) X.env)::starEach [] X.env)(hpl:(backTo pos (starEach [.Name x p2] X.env)).any (·.1)=false):DE X κ (.Call (.Name "isinstance" p) [a,.Name x p2] [] pos) (aR (yH k) fa):=by
 obtain⟨ta,h1,h2⟩:=ha
 refine⟨_,iJ (vg (κ:=κ) k hk) hg hm PyProof.Rows.boot_isinstance (bq h1 (bq (ES FY FX hv (v:=.ty (L6 k)) rfl hn hd) cc j9) hs) (he:=hs) (hpl:=hpl),λ{G A bo own ρ σ H p Q} r e q=>?_⟩
 obtain⟨p1,e1,e2⟩:=Option.bind_eq_some_iff.mp e
 refine h2 r e1 λx H1 s1 b1=>?_
 unfold yH at e2
 split at e2
 ·cases e2
 ·cases e2
  exact⟨_,p1,rfl,b1.full av,by assumption,q _ H1 s1 (.bl _)⟩
end
noncomputable def Ss:Kl:=⟨λ_=>0,λ_=>[]⟩
theorem Av{P:Program}{w:World}{K:PySem.W.Frag}{mg mb:Str->Option Value}{CX:Bp}{k:Nat}{fa a:Addr}{fd:FuncData}{x:Str}{sp:Sp}{s₁:Shared}{vs:List Value}{ns:List Int}
  (KX:K.In s₁.heap)(ED:s₁.heap.Ns mainGlobals mg)(hb:s₁.heap.Ns builtinsNs mb)(Ra:∀x:Str,x≠ "__name__" ->mb x=bootBuiltins x)(OC:s₁.heap.NoLimit)(hg:s₁.gens=#[])
  (ha:s₁.heap.get? a=some {cls:=.type "list",data:=.seq vs.toArray})(hi:IntsAre vs ns)(hl:ns.length<=sizeLine)(hr:bO k callerA)
  (F:∀base:Heap,K.In base->base.Ns mainGlobals mg->cw P w K mg base CX k fa fd [x] sp)(L7:∀(s:Shared) (u:Value),BindsTo s fd ⟨[u],[]⟩ [(x,u)])
  (He:∀H:Hp,Lz H->SL K H a (ns.map V.int)->sp [.ref a] H (λv _=>v=.bl true) λ_ _ _=>False)
  (Rb:∀H e s',CX [] H s₁ (λ_ _ _=>False) e s'->False):
  codeAny (model P w) callerA (.call (.ref fa) ⟨[.ref a],[]⟩) (λr s'=>r=.ok (.ret (.bool true))/\OldK s₁.heap s'.heap/\s'.os=s₁.os/\AllBare s'.gens) s₁:=by
 have rv:=mB hi
 have OD:=hi.length
 have core:∀H:Hp,Lz H->SL K H a (ns.map V.int)->nP P w H s₁.heap->(∀b,H b≠none->b=a)->(H a≠none->K.lookup a=none)->
   codeAny (model P w) callerA (.call (.ref fa) ⟨[.ref a],[]⟩) (λr s'=>r=.ok (.ret (.bool true))/\OldK s₁.heap s'.heap/\s'.os=s₁.os/\AllBare s'.gens) s₁:=by
  intro H hO hS dR hA hK
  have yT:∀{b:Addr} {o:Obj},s₁.heap.get? b=some o->H b=none->(rP s₁.heap H).get? b=some o:=λe n=>By e n
  have Ll:∀{b:Addr} {o:Obj} {es:Array DictEntry} {ep:Nat},s₁.heap.get? b=some o->o.data=.dict es ep->H b=none:=λ{b o es ep} e d=>by
   cases q:H b with
   |none=>rfl
   |some u=>
    have e':b=a:=hA b (by rw[q];simp)
    subst e'
    rw[ha]at e;cases e
    have d':Data.seq vs.toArray _=Data.dict es ep:=d
    cases d'
  have Nd:∀{b:Addr} {m:Str->Option Value},s₁.heap.Ns b m->(rP s₁.heap H).Ns b m:=λ{b m} ⟨o,es,ep,e,d,r⟩=>⟨o,es,ep,yT e (Ll e d),d,r⟩
  have PY:K.In (rP s₁.heap H):=λb o e=>yT (KX b o e) (by
   cases q:H b with
   |none=>rfl
   |some u=>
    have e':b=a:=hA b (by rw[q];simp)
    subst e'
    rw[hK (by rw[q];simp)]at e;cases e)
  have hM:Mod K mg (rP s₁.heap H):=⟨PY,Nd ED,⟨mb,Nd hb,Ra⟩,let⟨mc,h1,h2⟩:=OC;⟨mc,Nd h1,h2⟩⟩
  have e0:wL P w K mg (rP s₁.heap H) callerA [] s₁ H:=⟨rfl,hM,λb o e=>EO e,Nat.le_of_eq (zT _ _),trivial,λb hb=>absurd (show b∈([]:List Addr)from hb) (by simp),dR,.of_eq hg⟩
  refine codeAny_mono ((F _ PY (Nd ED)).run callerA [] s₁ H ⟨[.ref a],[]⟩ [.ref a] [.ref a] _ _ hr e0 (L7 s₁ (.ref a)) (.cons rfl .nil) (He H hO hS)) λr s' h=>?_
  cases r with
  |error e=>exact(Rb H e s' h).elim
  |ok fl=>
   cases fl with
   |next=>exact False.elim h
   |brk=>exact False.elim h
   |cont=>exact False.elim h
   |ret u=>
    obtain⟨v,H',os,bare,un,OE,r',q⟩:=h
    have q':v=.bl true:=q
    subst q'
    obtain rfl:u=Value.bool true:=r'
    refine⟨rfl,OldK.of_keep λb o e=>?_,os,bare⟩
    cases q:H b with
    |none=>exact un.keep b o e q (by intro z;exact absurd (show b∈([]:List Addr)from z) (by simp)) (by simp)
    |some u=>
     rcases hO b with z|⟨ob,xs,z⟩
     ·rw[q]at z;cases z
     ·have z2:=un.mh b ob _ z
      obtain⟨e1,_⟩:=dR b _ z
      obtain⟨e2,_⟩:=OE b _ z2
      rw[e]at e1;cases e1
      exact e2
 cases hk:K.lookup a with
 |some o=>
  have e:=KX a o hk
  rw[ha]at e
  cases e
  refine core (λ_=>none) (λ_=>.inl rfl) (.inr ⟨vs,_,hk,by rw[OD];exact hl,rv⟩) (λb u z=>by have z':(none:Option HO)=some u:=z;cases z') (λb z=>absurd rfl z) λz=>absurd rfl z
 |none=>
  refine core (λb=>if b=a then some (.frz {cls:=.type "list",data:=.seq vs.toArray} (.lst (ns.map V.int)))else none) (λb=>?_) (.inl (.inr ⟨{cls:=.type "list",data:=.seq vs.toArray},if_pos rfl⟩)) (λb u z=>?_) (λb z=>?_) λ_=>hk
  ·by_cases hb:b=a
   ·exact .inr ⟨_,_,if_pos hb⟩
   ·exact .inl (if_neg hb)
  ·by_cases hb:b=a
   ·have z':=(if_pos hb).symm.trans z
    cases z'
    subst hb
    exact⟨ha,by rw[List.length_map];exact hl,vs,_,rv,ha⟩
   ·have z':=(if_neg hb).symm.trans z
    cases z'
  ·by_cases hb:b=a
   ·exact hb
   ·exact absurd (if_neg hb) z
theorem ints_rep{K:PySem.W.Frag}{κ:Kl}{H:Hp}:∀ns:List Int,aT K κ H (ns.map V.int) (ns.map PV.int)
 |[]=>.nil
 |n::ns=>.cons (.int n) (ints_rep ns)
section
variable{X:Cx}{κ:Kl}{fr:Bool}{e a b c:Expr}{f fa fb fc:Den}{p pos:Pos}
theorem qm{p2:Pos}(ha:DB X κ a fa)(hm:X.mg "isinstance" =none)(FX:X.mg "int" =none)(hg:autoParam (Gl X "isinstance") zR._auto_1)(FY:autoParam (Gl X "int") zR._auto_1)(hs:autoParam (starEach [a,.Name "int" p2] X.env=(false,eval a X.env)::starEach [.Name "int" p2] X.env) zR._auto_1)(j9:autoParam (starEach [.Name "int" p2] X.env=(false,eval (.Name "int" p2) X.env)::starEach [] X.env) zR._auto_1)
 (hpl:autoParam ((backTo pos (starEach [.Name "int" p2] X.env)).any (·.1)=false) zR._auto_1):DE X κ (.Call (.Name "isinstance" p) [a,.Name "int" p2] [] pos) (aR (yH 0) fa):=kl 0 (by decide) PyProof.Rows.boot_int ha hm FX hg FY (by decide) (by decide) hs j9 hpl
theorem oX{p2:Pos}(ha:DB X κ a fa)(hm:X.mg "isinstance" =none)(FX:X.mg "bool" =none)(hg:autoParam (Gl X "isinstance") zR._auto_1)(FY:autoParam (Gl X "bool") zR._auto_1)(hs:autoParam (starEach [a,.Name "bool" p2] X.env=(false,eval a X.env)::starEach [.Name "bool" p2] X.env) zR._auto_1)(j9:autoParam (starEach [.Name "bool" p2] X.env=(false,eval (.Name "bool" p2) X.env)::starEach [] X.env) zR._auto_1)
 (hpl:autoParam ((backTo pos (starEach [.Name "bool" p2] X.env)).any (·.1)=false) zR._auto_1):DE X κ (.Call (.Name "isinstance" p) [a,.Name "bool" p2] [] pos) (aR (yH 1) fa):=kl 1 (by decide) PyProof.Rows.boot_bool ha hm FX hg FY (by decide) (by decide) hs j9 hpl
theorem oY{p2:Pos}(ha:DB X κ a fa)(hm:X.mg "isinstance" =none)(FX:X.mg "list" =none)(hg:autoParam (Gl X "isinstance") zR._auto_1)(FY:autoParam (Gl X "list") zR._auto_1)(hs:autoParam (starEach [a,.Name "list" p2] X.env=(false,eval a X.env)::starEach [.Name "list" p2] X.env) zR._auto_1)(j9:autoParam (starEach [.Name "list" p2] X.env=(false,eval (.Name "list" p2) X.env)::starEach [] X.env) zR._auto_1)
 (hpl:autoParam ((backTo pos (starEach [.Name "list" p2] X.env)).any (·.1)=false) zR._auto_1):DE X κ (.Call (.Name "isinstance" p) [a,.Name "list" p2] [] pos) (aR (yH 3) fa):=kl 3 (by decide) PyProof.Rows.boot_list ha hm FX hg FY (by decide) (by decide) hs j9 hpl
theorem jj{p2:Pos}(ha:DB X κ a fa)(hm:X.mg "isinstance" =none)(FX:X.mg "tuple" =none)(hg:autoParam (Gl X "isinstance") zR._auto_1)(FY:autoParam (Gl X "tuple") zR._auto_1)(hs:autoParam (starEach [a,.Name "tuple" p2] X.env=(false,eval a X.env)::starEach [.Name "tuple" p2] X.env) zR._auto_1)(j9:autoParam (starEach [.Name "tuple" p2] X.env=(false,eval (.Name "tuple" p2) X.env)::starEach [] X.env) zR._auto_1)
 (hpl:autoParam ((backTo pos (starEach [.Name "tuple" p2] X.env)).any (·.1)=false) zR._auto_1):DE X κ (.Call (.Name "isinstance" p) [a,.Name "tuple" p2] [] pos) (aR (yH 4) fa):=kl 4 (by decide) PyProof.Rows.boot_tuple ha hm FX hg FY (by decide) (by decide) hs j9 hpl
end
end L2.D
namespace L2.D
open PySem PySem.Spec PyProof.Rows
open Classical
theorem Aw{n l1 l2:Nat}(h1:l1<n)(h2:l2<n):ZipApart (n+4) (n+2) (n+3) n (n+1) l1 l2:=by
 refine⟨?_,?_,?_,?_,?_,?_,?_,?_,?_,?_,?_,?_,?_,?_,?_,?_,?_,?_⟩<;>(intro(e:(_:Nat)=_);revert e h1 h2;simp only[imp_false];intros;omega)
section
variable{X:Cx}{pins:List (Addr×Obj)}{σ:St}{H:Hp}{s:Shared}{h':Heap}
theorem Hy{ch:List Addr}(hf:∀b∈ch,jv X pins H b):∀b∈ch,(b∈X.ex\/X.s₀.heap.objs.size<=b)/\b≠X.env.locals/\(∀x c,X.env.cells.lookup x=some c->c≠b)/\∀p∈X.pn++pins,p.1≠b:=λb hb=>by
 obtain⟨f0,f1,f2,f3,f4,f5⟩:=hf b hb
 exact⟨f3,f1,f4,f5⟩
theorem _root_.L2.Inv.yU{t':Nat}{ch:List Addr}(I:Inv X pins σ H s)(k:∀b o,b∉ch->s.heap.get? b=some o->h'.get? b=some o)(hf:∀b∈ch,jv X pins H b):Inv X pins σ H {s with heap:=h',toks:=t'}:=by
 have G1:∀b u,H b=some u->b∉ch:=λb u e z=>by rw[(hf b z).1]at e;cases e
 refine I.step (g':=s.gens) (d':=s.drawn) (ch:=ch) (Hy hf) (λb o _ _ hc e _=>k b o hc e) (λb o _ _ hc e _=>⟨o.slots,k b o hc e⟩) (λ_ _ _ _ n=>n)
  (λb o hc e=>⟨o,k b o hc e⟩) (λ_ _ e=>e) (λ_ _ _ e=>e) (λb ps e=>⟨#[],by rw[e];simp⟩) (λm hm=>?_) (λb u e=>?_) I.bare
 ·obtain⟨o,es,ep,ho,r⟩:=hm
  exact⟨o,es,ep,k _ o (λz=>(hf _ z).2.1 rfl) ho,r⟩
 ·refine(I.dR b u e).p7 (λc v hc q=>k c v ?_ q) (λ_ q=>q) λ_ _ q=>q
  rcases hc with z|z
  ·rw[z];exact G1 b u e
  ·exact G1 c _ z
theorem _root_.L2.Inv.qS{t':Nat}{ch:List Addr}{u:HO}(I:Inv X pins σ H s)(k:∀b o,b∉ch->s.heap.get? b=some o->h'.get? b=some o)(hf:∀b∈ch,jv X pins H b)
  (new:gF X.prog X.w (upd H s.heap.objs.size u) h' s.heap.objs.size u):Inv X pins σ (upd H s.heap.objs.size u) {s with heap:=h',toks:=t'}:=by
 have fr:H s.heap.objs.size=none:=I.dR.fresh (Nat.le_refl _)
 have G1:∀b u,H b=some u->b∉ch:=λb u e z=>by rw[(hf b z).1]at e;cases e
 have sm:aE H (upd H s.heap.objs.size u):=bD fr
 refine I.step (g':=s.gens) (d':=s.drawn) (ch:=ch) (Hy hf) (λb o _ _ hc e _=>k b o hc e) (λb o _ _ hc e _=>⟨o.slots,k b o hc e⟩) (λb o _ e n=>?_)
  (λb o hc e=>⟨o,k b o hc e⟩) (λ_ _ e=>sm _ _ e) (λ_ _ _ e=>sm _ _ e) (λb ps e=>⟨#[],by rw[sm _ _ e];simp⟩) (λm hm=>?_) (λb v e=>?_) I.bare
 ·rw[au (Nat.ne_of_lt (Heap.lt_size e))]
  exact n
 ·obtain⟨o,es,ep,ho,r⟩:=hm
  exact⟨o,es,ep,k _ o (λz=>(hf _ z).2.1 rfl) ho,r⟩
 ·by_cases hb:b=s.heap.objs.size
  ·subst hb
   rw[aO]at e
   cases e
   exact new
  ·rw[au hb]at e
   refine(I.dR b v e).p7 (λc v hc q=>k c v ?_ q) (λc q=>sm _ _ q) λc xs q=>sm _ _ q
   rcases hc with z|z
   ·rw[z];exact G1 b _ e
   ·exact G1 c _ z
end
noncomputable def OF(K:PySem.W.Frag)(l1 l2:Addr):It:=
 ⟨λi H=>∃xs ys x y,fQ K H l1 xs/\fQ K H l2 ys/\xs[i]?=some x/\ys[i]?=some y,
  λi H v H'=>∃p x y,H p=none/\v=.ref p/\H'=upd H p (.tup [x,y])/\(∀xs,fQ K H l1 xs->xs[i]?=some x)/\∀ys,fQ K H l2 ys->ys[i]?=some y,
  λi H=>∃xs ys,fQ K H l1 xs/\fQ K H l2 ys/\(xs.length<=i\/ys.length<=i)⟩
noncomputable def Rc(z TI TO i1 i2 l1 l2:Addr)(i:Nat)(h:Heap):Prop:=IsZip h z TI TO .none/\IsPair h TI (.ref i1) (.ref i2)/\(∃a b,IsPair h TO a b)/\h.IsListIter i1 l1 i/\h.IsListIter i2 l2 i
theorem CL{P:Program}{w:World}{K:PySem.W.Frag}{elts:List Expr}{x1:Nat}{pos:Pos}{z TI TO i1 i2 l1 l2:Addr}(D:ZipApart z TI TO i1 i2 l1 l2):
  Turn P w K (.Tuple elts x1 pos) (OF K l1 l2) [z,TI,TO,i1,i2] z (Rc z TI TO i1 i2 l1 l2) where
 mem:=by simp
 obj:=λi h st b hb=>by
  obtain⟨hz,CM,⟨a,c,EH⟩,⟨o1,e1,c1,d1⟩,⟨o2,e2,c2,d2⟩⟩:=st
  have kH:b=z\/b=TI\/b=TO\/b=i1\/b=i2:=by simpa using hb
  rcases kH with rfl|rfl|rfl|rfl|rfl
  ·exact⟨_,hz,λv q=>by cases q⟩
  ·exact⟨_,CM,λv q=>by cases q⟩
  ·exact⟨_,EH,λv q=>by cases q⟩
  ·exact⟨_,e1,λv q=>by rw[d1]at q;cases q⟩
  ·exact⟨_,e2,λv q=>by rw[d2]at q;cases q⟩
 keep:=λi h h' st k=>by
  obtain⟨hz,CM,⟨a,c,EH⟩,h1,h2⟩:=st
  exact⟨k _ (by simp) _ hz,k _ (by simp) _ CM,⟨a,c,k _ (by simp) _ EH⟩,h1.at λo e=>k _ (by simp) o e,h2.at λo e=>k _ (by simp) o e⟩
 item:=by
  intro X hP hw hK hc i pins s σ H E I hf st hg
  subst hP hw hK
  obtain⟨xs,ys,x,y,Ax,Hz,hx,hy⟩:=hg
  obtain⟨its,rv,p,OG⟩:=I.list Ax
  obtain⟨qh,EI,p2,PZ⟩:=I.list Hz
  obtain⟨u,hu,ru⟩:=rv.get hx
  obtain⟨u2,Nf,OH⟩:=EI.get hy
  obtain⟨hz,CM,⟨a,c,EH⟩,h1,h2⟩:=st
  refine wpAny_pyNext_zip_item D hz CM EH h1 h2 p.isList p2.isList (x:=u) (y:=u2) (by simpa using hu) (by simpa using Nf) λh' a1 a2 a3 a4 a5 a6 a7=>?_
  refine⟨.ref s.heap.objs.size,rfl,wpAny_letOwnedTupleGo_zip (s:={s with heap:=h'}) a1 λFZ b1 b2=>?_⟩
  have OI:z<s.heap.objs.size:=Heap.lt_size hz
  have up:∀b o,b≠z->h'.get? b=some o->FZ.get? b=some o:=λb o hb e=>(b2.2 b hb).trans e
  have kp:∀b o,b∉[z,TO,i1,i2]->s.heap.get? b=some o->FZ.get? b=some o:=λb o hb e=>by
   have kH:b≠z/\b≠TO/\b≠i1/\b≠i2:=by simpa using hb
   exact up b o kH.1 (a7 b o kH.1 kH.2.1 kH.2.2.1 kH.2.2.2 e)
  have CN:IsPair FZ s.heap.objs.size u u2:=up _ _ (Nat.ne_of_gt OI) a5
  have fr:H s.heap.objs.size=none:=I.dR.fresh (Nat.le_refl _)
  refine⟨.ref s.heap.objs.size,upd H s.heap.objs.size (.tup [x,y]),?_,rfl,?_,?_,?_⟩
  ·refine I.qS (t':=s.toks) (ch:=[z,TO,i1,i2]) kp (λb hb=>hf b ?_) ?_
   ·have kH:b=z\/b=TO\/b=i1\/b=i2:=by simpa using hb
    rcases kH with rfl|rfl|rfl|rfl<;>simp
   ·exact⟨⟨by show 2<=sizeLine;decide,⟨_,CN,rfl⟩⟩,[u,u2],.cons ru (.cons OH .nil),⟨_,CN,rfl,_,rfl⟩⟩
  ·exact⟨_,x,y,fr,rfl,rfl,λP0 h=>by rw[I.jt h Ax];exact hx,λSu h=>by rw[I.jt h Hz];exact hy⟩
  ·exact⟨b1,up _ _ D.TIz (a7 _ _ D.TIz D.TITO D.TIi1 D.TIi2 CM),⟨_,_,up _ _ D.TOz a2⟩,a3.at λo e=>up _ _ D.i1z e,a4.at λo e=>up _ _ D.i2z e⟩
  ·intro b hb
   have:b<s.heap.objs.size:=by
    have kH:b=z\/b=TI\/b=TO\/b=i1\/b=i2:=by simpa using hb
    obtain⟨o1,e1,_⟩:=h1
    obtain⟨o2,e2,_⟩:=h2
    rcases kH with rfl|rfl|rfl|rfl|rfl
    ·exact Heap.lt_size hz
    ·exact Heap.lt_size CM
    ·exact Heap.lt_size EH
    ·exact Heap.lt_size e1
    ·exact Heap.lt_size e2
   rw[au (Nat.ne_of_lt this)]
   exact(hf b hb).1
 done:=by
  intro X hP hw hK hc i pins s σ H E I hf st hg
  subst hP hw hK
  obtain⟨xs,ys,Ax,Hz,L8⟩:=hg
  obtain⟨its,rv,p,OG⟩:=I.list Ax
  obtain⟨qh,EI,p2,PZ⟩:=I.list Hz
  have l1:=rv.length
  have l2:=EI.length
  obtain⟨hz,CM,⟨a,c,EH⟩,h1,h2⟩:=st
  refine wpAny_pyNext_zip_end (I.ok.hd hc) D hz CM EH h1 h2 p.isList p2.isList (by
   rcases L8 with q|q
   ·exact .inl (by simp;omega)
   ·exact .inr (by simp;omega)) λh' k=>⟨rfl,I.yU (t':=s.toks) (ch:=[z,TO,i1,i2]) (λb o hb e=>?_) λb hb=>hf b ?_⟩
  ·have kH:b≠z/\b≠TO/\b≠i1/\b≠i2:=by simpa using hb
   exact k b o kH.1 kH.2.1 kH.2.2.1 kH.2.2.2 e
  ·have kH:b=z\/b=TO\/b=i1\/b=i2:=by simpa using hb
   rcases kH with rfl|rfl|rfl|rfl<;>simp
 self:=λ_ _ _ _ _ st h=>wpAny_pyIter_zip st.1 h
section
variable{X:Cx}{κ:Kl}{a b:Expr}{fa fb:Den}{elts:List Expr}{x1:Nat}{tp:Pos}
noncomputable def OJ(K:PySem.W.Frag)(ta:TA):TI:=λσ H R=>ta σ H λvs H1=>∃l1 l2 xs ys,vs=[.ref l1,.ref l2]/\fQ K H1 l1 xs/\fQ K H1 l2 ys/\R (OF K l1 l2) H1
theorem CO{ta:TA}{p pos:Pos}(hg:Gl X "zip")(hm:X.mg "zip" =none)(ha:PA X [a,b] ta)(hs:autoParam (starEach [a,b] X.env=[(false,eval a X.env),(false,eval b X.env)]) zR._auto_1)(j9:autoParam (starEach [b] X.env=[(false,eval b X.env)]) zR._auto_1):
  PI X (.Tuple elts x1 tp) (.Call (.Name "zip" p) [a,b] [] pos) (OJ X.K ta):=by
 intro pins s σ H R I h
 refine Call_ (jq I hg hm PyProof.Rows.boot_zip (PyProof.Rows.callWith_type1 (dz (ha pos pins s σ H _ I h) λus s1 bW=>?_) (by rw[hs,j9]) (by rw[j9];rfl)))
 obtain⟨vs,H1,I1,r1,q1⟩:=bW
 obtain⟨l1,l2,xs,ys,rfl,Ax,Hz,q⟩:=q1
 obtain⟨u1,u2,rfl,r1,r2⟩:=vals2 r1
 cases r1
 cases r2
 obtain⟨its,rv,p1,z1⟩:=I1.list Ax
 obtain⟨qh,EI,p2,z2⟩:=I1.list Hz
 have Rf:l1<s1.heap.objs.size:=by
  obtain⟨o,ho,_⟩:=p1.isList
  exact Heap.lt_size ho
 have Ng:l2<s1.heap.objs.size:=by
  obtain⟨o,ho,_⟩:=p2.isList
  exact Heap.lt_size ho
 have D:=Aw Rf Ng
 refine call_zip_2 p1.isList p2.isList λh' hz CM EH Rg OK lz hk=>?_
 refine wpAny_pyIter_zip (s:={s1 with heap:=h'}) hz ?_
 refine⟨s1.heap.objs.size+4,[s1.heap.objs.size+4,s1.heap.objs.size+2,s1.heap.objs.size+3,s1.heap.objs.size,s1.heap.objs.size+1],_,_,H1,rfl,I1.kept (t':=s1.toks) hk,CL D,⟨hz,CM,⟨_,_,EH⟩,Rg,OK⟩,λb hb=>?_,q⟩
 have kH:b=s1.heap.objs.size+4\/b=s1.heap.objs.size+2\/b=s1.heap.objs.size+3\/b=s1.heap.objs.size\/b=s1.heap.objs.size+1:=by simpa using hb
 have hle:s1.heap.objs.size<=b:=by rcases kH with rfl|rfl|rfl|rfl|rfl<;>omega
 exact I1.ET hle (I1.dR.fresh hle)
theorem vh{K:PySem.W.Frag}{Gs:Hp}{A:Addr->Prop}{l1 l2:Addr}{vs ws:List V}{l m:List PV}(h1:SL K Gs l1 vs)(q1:aT K κ (hide A Gs) vs l)(h2:SL K Gs l2 ws)(q2:aT K κ (hide A Gs) ws m):tw K κ Gs A (OF K l1 l2) (List.zipWith (λx y=>PV.tup [x,y]) l m):=λi H2 s=>by
 have z1:fQ K H2 l1 vs:=(s.sl h1).sq
 have z2:fQ K H2 l2 ws:=(s.sl h2).sq
 refine⟨λp e=>?_,λhl=>⟨vs,ws,z1,z2,?_⟩⟩
 ·rw[List.getElem?_zipWith]at e
  cases e1:l[i]? with
  |none=>rw[e1]at e;cases e
  |some x=>
   cases e2:m[i]? with
   |none=>rw[e1,e2]at e;cases e
   |some y=>
    rw[e1,e2]at e
    cases e
    obtain⟨v,g1,r1⟩:=q1.get e1
    obtain⟨w,g2,r2⟩:=q2.get e2
    refine⟨⟨vs,ws,v,w,z1,z2,g1,g2⟩,λz H3 bW=>?_⟩
    obtain⟨p',x',y',y0,y1,y2,y3,y4⟩:=bW
    subst y1 y2
    have k1:=y3 vs z1
    have k2:=y4 ws z2
    rw[g1]at k1
    rw[g2]at k2
    cases k1
    cases k2
    refine⟨bD y0,λB hB sb=>.tup (pY.of ?_) (.cons (r1.mono (sb.trans (aF (bD y0)))) (.cons (r2.mono (sb.trans (aF (bD y0)))) .nil))⟩
    rw[bj λz=>hB _ z y0]
    exact aO
 ·rw[List.length_zipWith]at hl
  rw[q1.length,q2.length]
  omega
theorem JH{p pos:Pos}(ha:DE X κ a fa)(hb:DE X κ b fb)(hm:X.mg "zip" =none)(hg:autoParam (Gl X "zip") zR._auto_1)(hs:autoParam (starEach [a,b] X.env=[(false,eval a X.env),(false,eval b X.env)]) zR._auto_1)(j9:autoParam (starEach [b] X.env=[(false,eval b X.env)]) zR._auto_1):
  DI X κ (.Tuple elts x1 tp) (.Call (.Name "zip" p) [a,b] [] pos) (oQ fa fb):=by
 obtain⟨ta,h1,h2⟩:=ha
 obtain⟨tb,h3,h4⟩:=hb
 refine⟨_,CO hg hm (bq h1 (bq h3 cc j9) (by rw[hs,j9])) hs j9,λ{G A bo own ρ σ H ps Q} r e q=>?_⟩
 obtain⟨p1,e1,e2⟩:=Option.bind_eq_some_iff.mp e
 obtain⟨p2,e3,e4⟩:=Option.bind_eq_some_iff.mp e2
 obtain⟨l,e5,e6⟩:=Option.bind_eq_some_iff.mp e4
 obtain⟨m,e7,e8⟩:=Option.bind_eq_some_iff.mp e6
 cases e8
 refine h2 r e1 λv H1 s1 z1=>h4 (r.mono s1) e3 λw H2 s2 z2=>?_
 cases p1<;>first|(cases e5;done)|skip
 cases e5
 cases p2<;>first|(cases e7;done)|skip
 cases e7
 have OL:=z1.mono (aF s2)
 cases OL with
 |lst y1 y2=>
  cases z2 with
  |lst y3 y4=>
   exact⟨_,_,_,_,rfl,((av (A:=cG A own ρ)).sl y1).sq,((av (A:=cG A own ρ)).sl y3).sq,q _ H2 (s1.trans s2) (vh (tx.sl y1) (by rw[lK];exact y2) (tx.sl y3) (by rw[lK];exact y4))⟩
end
end L2.D
namespace L2.D
open PySem PySem.Spec PyProof.Rows PySem.SeqAt
open Classical
theorem tI:∀xs ys:List Int,mH xs ys=HT.lexLt xs ys
 |[],[]=>rfl
 |[],_::_=>rfl
 |_::_,[]=>rfl
 |x::xs,y::ys=>by
  rw[HT.kM,<-tI xs ys]
  rfl
theorem tJ{K:PySem.W.Frag}{κ:Kl}{H:Hp}:∀{vs:List V} {l:List PV} {ns:List Int},aT K κ H vs l->eo l=some ns->vs=ns.map V.int
 |_,_,_,.nil,h=>by cases h;rfl
 |_,p::_,_,.cons r t,h=>by
  cases p<;>first|(cases h;done)|skip
  obtain⟨cs,h1,rfl⟩:=Option.map_eq_some_iff.mp h
  rw[List.map_cons,<-tJ t h1,r.Fq]
theorem oZ:∀xs:List Int,HT.lexLt xs xs=false
 |[]=>rfl
 |x::xs=>by rw[HT.kM,if_pos rfl,oZ xs]
theorem tK{K:PySem.W.Frag}{κ:Kl}{H:Hp}{x:V}{i:Int}{l:List PV}{ns:List Int}(r:Rep K κ H x (.tup [.int i,.lst l]))(h:eo l=some ns):∃a la,x=.ref a/\pY K H a [.int i,.ref la]/\SL K H la (ns.map V.int):=by
 cases r with
 |tup q1 w=>
  cases w with
  |cons r1 w=>
   cases w with
   |cons r2 w=>
    cases w
    cases r1
    cases r2 with
    |lst q2 w2=>
     rw[tJ w2 h]at q2
     exact⟨_,_,rfl,q1,q2⟩
section
variable{prog:Program}{w:World}{A:Around}{E:Value->Shared->Prop}{s:Shared}
theorem Ay(x y:Value)(b:Bool):keyLt' (tuples' b) x y=(do
 let xs<-Builtin.List.listItems x;let ys<-Builtin.List.listItems y
 for ((p,q),i)in(xs.toList.zip ys.toList).zipIdx do
  if !(<-eqBool p q)then return<-oneLt' (b&&i==0) p q
 return decide (xs.size<ys.size)):=rfl
theorem xh{a b:Addr}{u1 u2 w1 w2:Value}{e1 e2 r1 r2:Bool}{oa ob:Obj}{na nb:Nat}{Q:Bool->Shared->Prop}(ha:s.heap.get? a=some oa)(da:oa.data=.seq #[u1,u2] na)(hb:s.heap.get? b=some ob)(db:ob.data=.seq #[w1,w2] nb)
  (q1:EqAt A s u1 w1 e1)(q2:EqAt A s u2 w2 e2)(l1:e1=false->∀Q',Q' r1 s->wpAny (model prog w) A (oneLt' true u1 w1) Q' E s)(l2:e2=false->∀Q',Q' r2 s->wpAny (model prog w) A (oneLt' false u2 w2) Q' E s)
  (h:Q (if e1 then(if e2 then false else r2)else r1) s):wpAny (model prog w) A (keyLt' (tuples' true) (.ref a) (.ref b)) Q E s:=by
 rw[Ay]
 refine wpAny_bind (listItems_at ha da ?_)
 refine wpAny_bind (listItems_at hb db ?_)
 simp only[List.zip_cons_cons,List.zip_nil_right,List.zipIdx_cons,List.zipIdx_nil,List.forIn_cons,List.forIn_nil]
 cases e1 with
 |false=>
  refine wpAny_bind (wpAny_bind (wpAny_bind (q1 prog w E _ ?_)))
  refine wpAny_bind (l1 rfl _ ?_)
  exact wpAny_pure (wpAny_pure (wpAny_pure h))
 |true=>
  refine wpAny_bind (wpAny_bind (wpAny_bind (q1 prog w E _ ?_)))
  refine wpAny_pure ?_
  cases e2 with
  |false=>
   refine wpAny_bind (wpAny_bind (q2 prog w E _ ?_))
   refine wpAny_bind (l2 rfl _ ?_)
   exact wpAny_pure (wpAny_pure (wpAny_pure h))
  |true=>
   refine wpAny_bind (wpAny_bind (q2 prog w E _ ?_))
   refine wpAny_pure (wpAny_pure (wpAny_pure ?_))
   exact h
theorem vi{l m:Addr}{r:Bool}(h:LS A s (.ref l) (.ref m) r){Q:Bool->Shared->Prop}(q:Q r s):wpAny (model prog w) A (oneLt' false (.ref l) (.ref m)) Q E s:=by
 rw[oneLt'_eq]
 simp only[Bool.false_eq_true,if_false]
 exact wpAny_bind (h prog w E _ (wpAny_truthy_bool q))
theorem xi{a:Addr}{o:Obj}{u1 u2:Value}{n:Nat}{Q:Option Value->Shared->Prop}(ho:s.heap.get? a=some o)(hc:o.cls=.type "tuple")(hd:o.data=.seq #[u1,u2] n)(h:Q (some u1) s):wpAny (model prog w) A (firstOfTuple' (.ref a)) Q E s:=by
 show wpAny (model prog w) A (do
  if(<-typeOf (.ref a)) !=.type "tuple" then return none
  return(<-Builtin.List.listItems (.ref a))[0]?) Q E s
 refine wpAny_bind (wpAny_typeOf (T:= "tuple") ⟨o,ho,hc⟩ ?_)
 have ht:(Value.type "tuple" !=Value.type "tuple")=false:=by decide
 rw[ht]
 simp only[Bool.false_eq_true,if_false]
 exact wpAny_bind (listItems_at ho hd (wpAny_pure h))
noncomputable def tL(h:Heap)(v:Value)(i:Int):Prop:=∃a o t u2 n,v=.ref a/\h.get? a=some o/\o.cls=.type "tuple" /\o.data=.seq #[.int i t,u2] n
theorem o4:∀(ks:List Value),(∀v∈ks,∃i,tL s.heap v i)->∀(Q:List (Option Value)->Shared->Prop),(∀fs,(∀f∈fs,∃i t,f=some (Value.int i t))->fs.length=ks.length->Q fs s)->wpAny (model prog w) A (ks.mapM firstOfTuple') Q E s
 |[],_,Q,h=>by
  rw[List.mapM_nil]
  exact wpAny_pure (h [] (by simp) rfl)
 |k::ks,hk,Q,h=>by
  obtain⟨i,a,o,t,u2,n,rfl,ho,hc,hd⟩:=hk k (List.mem_cons_self ..)
  rw[List.mapM_cons]
  refine wpAny_bind (xi ho hc hd ?_)
  refine wpAny_bind (o4 ks (λv hv=>hk v (List.mem_cons_of_mem _ hv)) _ λfs h1 h2=>wpAny_pure (h _ (λf hf=>?_) (by simp[h2])))
  rcases List.mem_cons.mp hf with rfl|hf
  ·exact⟨i,t,rfl⟩
  ·exact h1 f hf
theorem qo{ks:List Value}(hk:∀v∈ks,∃i,tL s.heap v i)(qi:ks≠[]){Q:SortKind->Shared->Prop}(h:Q (tuples' true) s):wpAny (model prog w) A (keyKind' ks.toArray) Q E s:=by
 rw[keyKind'_eq,List.mapM_toArray]
 refine wpAny_bind ?_
 rw[map_eq_pure_bind]
 refine wpAny_bind (o4 ks hk _ λfs h1 h2=>wpAny_pure ?_)
 have ha:(fs.toArray.all λx=>x.isSome)=true:=by
  rw[List.all_toArray,List.all_eq_true]
  intro x hx
  obtain⟨i,t,rfl⟩:=h1 x hx
  rfl
 rw[if_pos ha]
 refine wpAny_bind (wpAny_rule ?_)
 obtain⟨vs,ns,ev,hi⟩:∃vs ns,fs.filterMap id=vs/\IntsAre vs ns/\vs.length=fs.length:=by
  clear ha h2
  induction fs with
  |nil=>exact⟨[],[],rfl,.nil,rfl⟩
  |cons f fs ih=>
   obtain⟨i,t,rfl⟩:=h1 f (List.mem_cons_self ..)
   obtain⟨vs,ns,e,q,ql⟩:=ih λg hg=>h1 g (List.mem_cons_of_mem _ hg)
   exact⟨.int i t::vs,i::ns,by rw[List.filterMap_cons,id,e],.cons i t q,by simp[ql]⟩
 obtain⟨hi,hl⟩:=hi
 have e1:fs.toArray.filterMap id=vs.toArray:=by
  rw[<-ev]
  simp
 rw[e1,oneTypeOnly'_eq,List.mapM_toArray,mapM_typeOf_ints hi]
 simp only[map_pure,pure_bind]
 cases vs with
 |nil=>
  exfalso
  rw[h2]at hl
  simp at hl
  exact qi (List.eq_nil_of_length_eq_zero hl.symm)
 |cons v vs=>
  have sA:((List.map (λ_=>Value.type "int") (v::vs)).toArray.all λx=>x==Value.type "int")=true:=by
   simp only[List.all_toArray,List.all_map,List.all_eq_true]
   intro _ _
   rfl
  have h0:(List.map (λ_=>Value.type "int") (v::vs)).toArray[0]?=some (Value.type "int"):=by simp
  rw[h0]
  simp only[sA,if_true,pure_bind]
  exact wpAny_pure h
end
noncomputable def Az(K:PySem.W.Frag)(κ:Kl)(H:Hp)(kI:Int->Int)(kL:Int->List Int)(p:Value×Value):Prop:=∃n t a,mf n=true/\p.2=.int n t/\p.1=.ref a/\Rep K κ H (.ref a) (.tup [.int (kI n),.lst ((kL n).map PV.int)])
noncomputable def HA(p:Value×Value):Nat:=hU (numOf p.2)
theorem gL:∀xs:List Int,eo (xs.map PV.int)=some xs
 |[]=>rfl
 |x::xs=>by
  rw[List.map_cons]
  unfold eo
  rw[gL xs]
  rfl
theorem Az.pair{X:Cx}{pins:List (Addr×Obj)}{σ:St}{H:Hp}{s:Shared}{κ:Kl}{kI:Int->Int}{kL:Int->List Int}{p:Value×Value}(I:Inv X pins σ H s)(h:Az X.K κ H kI kL p):∃i,tL s.heap p.1 i:=by
 obtain⟨n,t,a,_,_,e,r⟩:=h
 obtain⟨a',la,z,q1,q2⟩:=tK r (gL _)
 cases z
 obtain⟨its,rv,p1,_⟩:=I.tuple q1
 obtain⟨u1,u2,rfl,g1,g2⟩:=rv.two
 obtain⟨t1,rfl⟩:=g1
 obtain⟨o,ho,hc,n',hd⟩:=p1
 exact⟨kI n,a,o,t1,u2,n',e,ho,hc,hd⟩
theorem AA{X:Cx}{pins:List (Addr×Obj)}{σ:St}{H:Hp}{s:Shared}{κ:Kl}{A:Around}{E:Value->Shared->Prop}{kI:Int->Int}{kL:Int->List Int}(I:Inv X pins σ H s)(hu:A.units+5<cLine)
  (ho:∀n m,mf n=true->mf m=true->(if kI n=kI m then mH (kL n) (kL m)else decide (kI n<kI m))=decide (hU n<hU m)):TS.uI X.prog X.w A E s (tuples' true) (Az X.K κ H kI kL) HA:=by
 intro p q st Q hk ⟨n,t,a,Nh,e1,e2,r1⟩ ⟨m,t',b,P1,e3,e4,r2⟩ h
 rw[lt'_eq]
 refine wpS_bind (wpS_get ?_)
 rw[hk,e2,e4]
 obtain⟨a',la,z,q1,q2⟩:=tK r1 (gL _)
 cases z
 obtain⟨b',lb,z,q3,q4⟩:=tK r2 (gL _)
 cases z
 obtain⟨its,rv,p1,_⟩:=I.tuple q1
 obtain⟨qh,EI,p2,_⟩:=I.tuple q3
 obtain⟨u1,u2,rfl,g1,g2⟩:=rv.two
 obtain⟨w1,w2,rfl,g3,g4⟩:=EI.two
 obtain⟨t1,rfl⟩:=g1
 obtain⟨t2,rfl⟩:=g3
 cases g2
 cases g4
 obtain⟨oa,ha,ca,na,da⟩:=p1
 obtain⟨ob,hb,cb,nb,db⟩:=p2
 have P2:A.units<cLine:=by omega
 obtain⟨l1,v1,Rh,_⟩:=I.list q2.sq
 obtain⟨l2,v2,OM,_⟩:=I.list q4.sq
 refine wpS_bind (wpS_lift (wpAny_attempt (xh ha da hb db (e1:=decide (kI n=kI m)) (e2:=decide (kL n=kL m)) (r1:=decide (kI n<kI m)) (r2:=HT.lexLt (kL n) (kL m)) ?_ (Ai I q2.sq q4.sq P2) (λ_ Q' hq=>oneLt_int hq)
  (λ_ Q' hq=>vi (wZ Rh.isList OM.isList (by simpa using intsAre_of v1) (by simpa using intsAre_of v2) P2) hq) ⟨rfl,?_⟩)))
 ·rw[<-Bool.beq_eq_decide_eq]
  exact EqAt.int_int (kI n) t1 (kI m) t2
 ·refine wpS_pure ?_
  have z:=ho n m Nh P1
  have e:(if decide (kI n=kI m)=true then(if decide (kL n=kL m)=true then false else HT.lexLt (kL n) (kL m))else decide (kI n<kI m))=decide (HA p<HA q):=by
   unfold HA
   rw[e1,e3]
   show _=decide (hU n<hU m)
   rw[<-z]
   by_cases h1:kI n=kI m
   ·rw[decide_eq_true h1,if_pos rfl,if_pos h1]
    by_cases h2:kL n=kL m
    ·rw[h2,decide_eq_true rfl,if_pos rfl,tI,oZ]
    ·rw[decide_eq_false h2,if_neg (by decide),tI]
   ·rw[decide_eq_false h1,if_neg (by decide),if_neg h1]
  rw[e]
  exact h
noncomputable abbrev Ni(X:Cx):Cx:={X with A:=X.A.in1.in1,xe:=λ_ _=>False}
section
variable{X:Cx}{pins rest:List (Addr×Obj)}{σ:St}{H:Hp}{s:Shared}{h':Heap}
theorem JI(ok:X.Ok):(Ni X).Ok:=⟨ok.mod,ok.kind,ok.glob,ok.blt,ok.above,ok.inj,ok.has,ok.cab,ok.hd,ok.frames,ok.stk,ok.exf,ok.bs,ok.bsz,ok.noex,ok.exfs,ok.funs,ok.frf⟩
theorem F1(I:Inv X pins σ H s):Inv (Ni X) pins σ H s:=⟨JI I.ok,I.os,I.bare,I.base,I.loc,I.cell,I.free,I.freeC,I.pin,I.dR,I.len⟩
theorem CP(ok:X.Ok)(I:Inv (Ni X) pins σ H s):Inv X pins σ H s:=⟨ok,I.os,I.bare,I.base,I.loc,I.cell,I.free,I.freeC,I.pin,I.dR,I.len⟩
theorem CQ{a:Addr}{o:Obj}(I:Inv X (pins++(a,o)::rest) σ H s)(qi:∀p∈X.pn++(pins++rest),p.1≠a)(ha:X.s₀.heap.objs.size<=a):
  s.heap.get? a=some o/\H a=none/\a≠X.env.locals/\a∉X.fs/\(∀v,o.data≠.cell v)/\(∀x c,X.env.cells.lookup x=some c->c≠a):=by
 obtain⟨h1,h2,h3,h4,h5⟩:=I.pin (a,o) (List.mem_append_right _ (List.mem_append_right _ (List.mem_cons_self ..)))
 refine⟨h1,h2,h3,h4,h5,λx c e z=>?_⟩
 obtain⟨v,o',ho,hd⟩:=I.cell x c e
 rw[z,h1]at ho
 cases ho
 exact h5 v hd
theorem lN{a:Addr}{o o':Obj}{t':Nat}(I:Inv X (pins++(a,o)::rest) σ H s)(qi:∀p∈X.pn++(pins++rest),p.1≠a)(ha:X.s₀.heap.objs.size<=a)(hk:∀b u,b≠a->s.heap.get? b=some u->h'.get? b=some u)(hn:h'.get? a=some o')(hc:∀v,o'.data≠.cell v):
  Inv X (pins++(a,o')::rest) σ H {s with heap:=h',toks:=t'}:=by
 obtain⟨h1,h2,h3,h4,h5,h6⟩:=CQ I qi ha
 have I1:Inv X (pins++rest) σ H s:=I.dZ λp hp=>I.pin p (List.mem_append_right _ (by
  rcases List.mem_append.mp hp with z|z
  ·exact List.mem_append_left _ z
  ·exact List.mem_append_right _ (List.mem_cons_of_mem _ z)))
 have I2:Inv X (pins++rest) σ H {s with heap:=h',toks:=t'}:=I1.turned (it:=a) hk h2 h3 (.inr ha) h6 qi
 refine I2.dZ λp hp=>?_
 rcases List.mem_append.mp hp with z|z
 ·exact I2.pin p (List.mem_append_right _ (List.mem_append_left _ z))
 ·rcases List.mem_cons.mp z with rfl|z
  ·exact⟨hn,h2,h3,h4,hc⟩
  ·exact I2.pin p (List.mem_append_right _ (List.mem_append_right _ z))
theorem yV{o:Obj}{t':Nat}(I:Inv X pins σ H s)(hc:∀v,o.data≠.cell v)(hk:∀b u,s.heap.get? b=some u->h'.get? b=some u){a:Addr}(ha:s.heap.objs.size<=a)(hn:h'.get? a=some o):Inv X (pins++[(a,o)]) σ H {s with heap:=h',toks:=t'}:=by
 have I1:Inv X pins σ H {s with heap:=h',toks:=t'}:=I.kept hk
 refine I1.dZ λp hp=>?_
 rcases List.mem_append.mp hp with z|z
 ·exact I1.pin p (List.mem_append_right _ z)
 ·have e:p=(a,o):=by simpa using z
  subst e
  exact⟨hn,I.dR.fresh ha,Nat.ne_of_gt (Nat.lt_of_lt_of_le I.lt ha),I.zU ha,hc⟩
theorem yW(I:Inv X pins σ H s):∀p∈X.pn++pins,p.1<s.heap.objs.size:=λp hp=>Heap.lt_size (I.pin p hp).1
theorem AB{a:Addr}{its:List Value}{n:Nat}{xs:List V}(I:Inv X pins σ H s)(ho:s.heap.get? a=some {cls:=.type "list",data:=.seq its.toArray n})(hn:H a=none)(hL:a≠X.env.locals)(h1:X.s₀.heap.objs.size<=a)(h2:∀x c,X.env.cells.lookup x=some c->c≠a)
  (h3:∀p∈X.pn++pins,p.1≠a)(hv:Vals xs its)(hz:xs.length<=sizeLine):Inv X pins σ (upd H a (.lst xs)) s:=by
 have sm:aE H (upd H a (.lst xs)):=bD hn
 have:=I.step (h':=s.heap) (H':=upd H a (.lst xs)) (g':=s.gens) (d':=s.drawn) (t':=s.toks) (ch:=[a]) (λb hb=>?_) (λb o _ _ _ e _=>e) (λb o _ _ _ e _=>⟨o.slots,e⟩) (λb o hb e n=>?_) (λb o _ e=>⟨o,e⟩)
  (λb xs e=>sm _ _ e) (λb o u e=>sm _ _ e) (λb ps e=>⟨#[],by rw[sm _ _ e];simp⟩) (λm hm=>hm) (λb u e=>?_) I.bare
 ·exact this
 ·have e:b=a:=by simpa using hb
  subst e
  exact⟨.inr h1,hL,h2,h3⟩
 ·rw[au (by simpa using hb)]
  exact n
 ·by_cases hb:b=a
  ·subst hb
   rw[aO]at e
   cases e
   exact⟨hz,its,n,hv,ho⟩
  ·rw[au hb]at e
   exact(I.dR b u e).p7 (λc v _ q=>q) (λc q=>sm _ _ q) λc ys q=>sm _ _ q
end
section
variable{X:Cx}{pins:List (Addr×Obj)}{σ:St}{H:Hp}{s:Shared}{κ:Kl}{D kS:Addr}{e1:Nat}{vs:List Value}{ns:List Int}{kI:Int->Int}{kL:Int->List Int}
noncomputable def nX(X:Cx)(pins:List (Addr×Obj))(σ:St)(H:Hp)(D:Addr)(ns:List Int)(s':Shared):Prop:=
 ∃H' out c,aE H H'/\Inv X (pins++[(D,seqObj "list" out c)]) σ H' s'/\Vals ((eW hU ns).map V.int) out.toList
theorem CS{xs:List (Value×Value)}(hi:IntsAre vs ns)(ok:∀n∈ns,mf n=true)(keys:List Value)(hl:keys.length=vs.length)(hp:xs.Perm (keys.zip vs))(hs:TS.Sd HA xs):Vals ((eW hU ns).map V.int) (xs.map (·.2)):=by
 have p1:(xs.map (·.2)).Perm vs:=by
  have:=hp.map (·.2)
  rwa[List.map_snd_zip (by omega)]at this
 have allI:∀v∈xs.map (·.2),∃n t,v=Value.int n t:=λv hv=>by
  obtain⟨n,t,e⟩:=hi.all v (p1.mem_iff.mp hv)
  exact⟨n,t,e⟩
 have i1:=intsAre_map (xs.map (·.2)) allI
 have p2:((xs.map (·.2)).map numOf).Perm ns:=by
  have:=p1.map numOf
  rwa[hi.nums]at this
 have s1:((xs.map (·.2)).map numOf).Pairwise (λa b=>hU a<=hU b):=by
  rw[List.map_map,List.pairwise_map]
  exact hs
 have e:(xs.map (·.2)).map numOf=eW hU ns:=ni (p2.trans (gC hU ns).symm) s1 (jI hU ns) λn hn=>ok n ((gC hU ns).mem_iff.mp hn)
 rw[<-e]
 exact mB i1
theorem qT{E:Value->Shared->Prop}{st:SortSt}{keys:Array Value}{e:Nat}(I:Inv X (pins++[(kS,seqObj "list" keys e),(D,seqObj "list" #[] e1)]) σ H s)(HB:kS≠D)(np:∀p∈X.pn++pins,p.1≠kS/\p.1≠D)(aS:X.s₀.heap.objs.size<=kS)(aD:X.s₀.heap.objs.size<=D)
  (hi:IntsAre vs ns)(ok:∀n∈ns,mf n=true)(lz:keys.size=vs.length)(o5:vs.length<=5000)(hp:(arrOf st).Perm (keys.zip vs.toArray))(hs:TS.Sd HA (arrOf st).toList)(hf:failedOf st=none){P:PySem.Fin->Shared->Prop}
  {H0:Hp}(sm:aE H0 H)(q:∀s',nX X pins σ H0 D ns s'->P (.done (.ret .none)) s'):wpAny (model X.prog X.w) X.A (ksk_tail D false e1 (.ref kS) st) P E s:=by
 have hk:=(I.pin (kS,seqObj "list" keys e) (List.mem_append_right _ (List.mem_append_right _ (List.mem_cons_self ..)))).1
 have hd:=(I.pin (D,seqObj "list" #[] e1) (List.mem_append_right _ (List.mem_append_right _ (List.mem_cons_of_mem _ (List.mem_cons_self ..))))).1
 have s1:=Heap.SameBut.update s.heap kS (Obj.mapSeq λ_=>(#[]:Array Value))
 have nk:=get?_update_seq hk λ_=>(#[]:Array Value)
 have KC:(s.heap.update kS (Obj.mapSeq λ_=>(#[]:Array Value))).get? D=some (seqObj "list" #[] e1):=(s1.2 D HB.symm).trans hd
 have Sv:(arrOf st).size=vs.length:=by rw[hp.size_eq,Array.size_zip,lz,List.size_toArray,Nat.min_self]
 have zl:(5000:Nat)<=sizeLine:=by decide
 unfold ksk_tail
 refine wpAny_bind (listUpdate_at hk rfl ?_ (by omega) (Nat.zero_le _))
 refine wpAny_bind (wpAny_letGo ?_)
 refine wpAny_bind (seqEpoch_at KC rfl ?_)
 refine wpAny_bind (listUpdate_at KC rfl ?_ (Nat.zero_le _) (by
  simp only[Bool.false_eq_true,if_false,Array.size_map]
  omega))
 rw[hf]
 simp only[bne_self_eq_false,Bool.false_eq_true,if_false]
 refine wpAny_pure (q _ ?_)
 have I1:=lN (t':=s.toks) I (λp hp=>by
  rcases List.mem_append.mp hp with z|z
  ·exact(np p (List.mem_append_left _ z)).1
  ·rcases List.mem_append.mp z with z|z
   ·exact(np p (List.mem_append_right _ z)).1
   ·have:p=(D,seqObj "list" #[] e1):=by simpa using z
    rw[this]
    exact HB.symm) aS (λb u hb e=>(s1.2 b hb).trans e) nk (λv z=>by cases z)
 have I2:Inv X ([]++(D,seqObj "list" #[] e1)::pins) σ H {s with heap:=s.heap.update kS (Obj.mapSeq λ_=>(#[]:Array Value)),toks:=s.toks}:=I1.dZ λp hp=>by
  rcases List.mem_cons.mp hp with rfl|hp
  ·exact I1.pin _ (List.mem_append_right _ (List.mem_append_right _ (List.mem_cons_of_mem _ (List.mem_cons_self ..))))
  ·exact I1.pin _ (List.mem_append_right _ (List.mem_append_left _ hp))
 have s2:=Heap.SameBut.update (s.heap.update kS (Obj.mapSeq λ_=>(#[]:Array Value))) D (Obj.mapSeq λ_=>(arrOf st).map (·.2))
 obtain⟨c2,nd⟩:∃c2,((s.heap.update kS (Obj.mapSeq λ_=>(#[]:Array Value))).update D (Obj.mapSeq λ_=>(arrOf st).map (·.2))).get? D=some (seqObj "list" ((arrOf st).map (·.2)) c2):=⟨_,get?_update_seq KC λ_=>(arrOf st).map (·.2)⟩
 have I3:=lN (t':=s.toks) I2 (λp hp=>(np p (by simpa using hp)).2) aD (λb u hb e=>(s2.2 b hb).trans e) nd (λv z=>by cases z)
 refine⟨H,(arrOf st).map (·.2),c2,sm,I3.dZ λp hp=>?_,?_⟩
 ·rcases List.mem_append.mp hp with z|z
  ·exact I3.pin p (List.mem_append_right _ (List.mem_append_right _ (List.mem_cons_of_mem _ z)))
  ·have:p=(D,seqObj "list" ((arrOf st).map (·.2)) c2):=List.mem_singleton.mp z
   rw[this]
   exact I3.pin _ (List.mem_append_right _ (List.mem_append_right _ (List.mem_cons_self ..)))
 ·have:=CS (xs:=(arrOf st).toList) hi ok keys.toList (by simpa using lz) (by
    have:=Array.perm_iff_toList_perm.mp hp
    rwa[ksk_zip]at this) hs
  simpa using this
theorem CT{E:Value->Shared->Prop}{keys:Array Value}{e:Nat}(I:Inv X (pins++[(kS,seqObj "list" keys e),(D,seqObj "list" #[] e1)]) σ H s)(HB:kS≠D)(np:∀p∈X.pn++pins,p.1≠kS/\p.1≠D)(aS:X.s₀.heap.objs.size<=kS)(aD:X.s₀.heap.objs.size<=D)(hu:X.A.units+5<cLine)
  (ho:∀n m,mf n=true->mf m=true->(if kI n=kI m then mH (kL n) (kL m)else decide (kI n<kI m))=decide (hU n<hU m))
  (hi:IntsAre vs ns)(ok:∀n∈ns,mf n=true)(lz:keys.size=vs.length)(o5:vs.length<=5000)(hg:∀p∈keys.toList.zip vs,Az X.K κ H kI kL p){P:PySem.Fin->Shared->Prop}
  {H0:Hp}(sm:aE H0 H)(q:∀s',nX X pins σ H0 D ns s'->P (.done (.ret .none)) s'):wpAny (model X.prog X.w) X.A (ksk_end D false vs.toArray e1 (.ref kS) keys) P E s:=by
 have gd:TS.Gd (Az X.K κ H kI kL) (keys.zip vs.toArray):=λp hp=>hg p (by rwa[ksk_zip]at hp)
 unfold ksk_end
 simp only[Bool.false_eq_true,if_false]
 by_cases h2:vs.toArray.size<2
 ·rw[if_pos h2,if_pos h2]
  refine wpAny_bind (wpAny_pure ?_)
  rw[StateT.run_pure]
  refine wpAny_bind (wpAny_pure ?_)
  try dsimp only
  refine qT (st:=SortSt.mk' general' (keys.zip vs.toArray) #[] 7 none) I HB np aS aD hi ok lz o5 (Array.Perm.refl _) ?_ rfl sm q
  show TS.Sd HA (keys.zip vs.toArray).toList
  rw[List.size_toArray]at h2
  have hl:(keys.zip vs.toArray).toList.length<=1:=by
   rw[Array.length_toList,Array.size_zip,lz,List.size_toArray]
   omega
  generalize(keys.zip vs.toArray).toList=l at hl
  match l,hl with
  |[],_=>exact List.Pairwise.nil
  |[x],_=>exact List.pairwise_singleton _ _
  |_::_::_,hl=>simp at hl
 ·rw[if_neg h2,if_neg h2]
  have qi:keys.toList≠[]:=λz=>by
   have:keys.size=0:=by rw[<-Array.length_toList,z];rfl
   rw[List.size_toArray]at h2
   omega
  have ek:keys=keys.toList.toArray:=by simp
  have JJ:∀v∈keys.toList,∃i,tL s.heap v i:=λv hv=>by
   obtain⟨j,hj,e⟩:=List.getElem_of_mem hv
   have L9:j<vs.length:=by rw[<-lz,<-Array.length_toList];exact hj
   have hm:(v,vs[j])∈keys.toList.zip vs:=by
    rw[List.mem_iff_getElem?]
    exact⟨j,by rw[List.getElem?_zip_eq_some];exact⟨by rw[<-e];exact List.getElem?_eq_getElem hj,List.getElem?_eq_getElem L9⟩⟩
   exact(hg _ hm).pair I
  have Ri:∀(Q:SortKind->Shared->Prop),Q (tuples' true) s->wpAny (model X.prog X.w) X.A (keyKind' keys) Q E s:=λQ hq=>by
   rw[ek]
   exact qo JJ qi hq
  refine wpAny_bind (Ri _ ?_)
  refine wpAny_bind (wpAny_mono (TS.uR (AA I hu ho) gd (st:=SortSt.mk' (tuples' true) (keys.zip vs.toArray) #[] 7 none)
   (Q:=λ_ aP=>TS.Bs (tuples' true) (keys.zip vs.toArray) aP/\TS.Sd HA (arrOf aP).toList) ⟨Array.Perm.refl _,rfl,rfl⟩ rfl λaP B sd=>⟨B,sd⟩) ?_ λ_ _ e=>e)
  rintro⟨⟨⟩,aP⟩ s' ⟨rfl,B,sd⟩
  try dsimp only
  exact qT I HB np aS aD hi ok lz o5 B.pm sd B.f sm q
theorem AD{E:Value->Shared->Prop}{k:Nat}{f:Addr}{fd:FuncData}{x:Str}{F:List PV->Option PV}(FO:cw X.prog X.w X.K X.mg X.base g7 k f fd [x] (tE X.K κ false F))(hr:bO k X.A)(hb:Binds X.K fd [x] [])(hx:∀e s',¬X.xe e s')
  (hF:∀n,mf n=true->F [.int n]=some (.tup [.int (kI n),.lst ((kL n).map PV.int)]))
  (I:Inv X (pins++[(kS,seqObj "list" #[] 0),(D,seqObj "list" #[] e1)]) σ H s)(HB:kS≠D)(np:∀p∈X.pn++pins,p.1≠kS/\p.1≠D)(aS:X.s₀.heap.objs.size<=kS)(aD:X.s₀.heap.objs.size<=D)
  (ho:∀n m,mf n=true->mf m=true->(if kI n=kI m then mH (kL n) (kL m)else decide (kI n<kI m))=decide (hU n<hU m))
  (hi:IntsAre vs ns)(ok:∀n∈ns,mf n=true)(o5:vs.length<=5000){P:PySem.Fin->Shared->Prop}
  (q:∀s',nX X pins σ H D ns s'->P (.done (.ret .none)) s'):wpAny (model X.prog X.w) X.A (ksk_rest D (.ref f) false vs.toArray e1 (.ref kS)) P E s:=by
 have zl:(5000:Nat)<=sizeLine:=by decide
 unfold ksk_rest
 refine wpAny_bind (wpAny_rule ?_)
 rw[List.forIn_toArray]
 refine wpAny_bind (ksk_fold (λi s'=>∃H' kA e,kA.size=i/\Inv X (pins++[(kS,seqObj "list" kA e),(D,seqObj "list" #[] e1)]) σ H' s'/\aE H H'/\∀p∈kA.toList.zip vs,Az X.K κ H' kI kL p) vs 0 s
  ⟨H,#[],0,rfl,I,aE.refl _,by simp⟩ ?step ?done)
 case step=>
  rintro j v s' hv ⟨H',kA,e,lz,I',sm,hk⟩
  rw[Nat.zero_add]at lz⊢
  have hj:j<vs.length:=(List.getElem?_eq_some_iff.mp hv).1
  obtain⟨n,t,rfl⟩:=hi.all v (List.mem_of_getElem? hv)
  have hn:mf n=true:=by
   have h1:=hi.nums
   have h2:(vs.map numOf)[j]?=some n:=by rw[List.getElem?_map,hv];rfl
   rw[h1]at h2
   exact ok n (List.mem_of_getElem? h2)
  have He:tE X.K κ false F [.int n] H' (λv H2=>aE H' H2/\Rep X.K κ H2 v (.tup [.int (kI n),.lst ((kL n).map PV.int)])) E0:=
   ⟨λ_=>False,[.int n],_,λ_ z=>z.elim,.cons (.int n) .nil,hF n hn,λv H2 s z=>⟨s,Rep.mono av z⟩⟩
  refine wpAny_bind (wpAny_attempt (wpAny_mono (mw FO hr hb .nil kD I' (.cons ⟨t,rfl⟩ .nil:Vals [.int n] [.int n t]) He) (λu s2 hu=>?_) λe' s2 ON=>(hx _ _ ON).elim))
  obtain⟨v',H2,I2,rv,me,rp⟩:=hu
  try dsimp only
  have nk:=(I2.pin (kS,seqObj "list" kA e) (List.mem_append_right _ (List.mem_append_right _ (List.mem_cons_self ..)))).1
  have s1:=Heap.SameBut.update s2.heap kS (Obj.mapSeq (·.push u))
  obtain⟨c2,M7⟩:∃c2,(s2.heap.update kS (Obj.mapSeq (·.push u))).get? kS=some (seqObj "list" (kA.push u) c2):=⟨_,get?_update_seq nk (·.push u)⟩
  refine wpAny_bind (listUpdate_at nk rfl ?_ (by omega) (Nat.le_trans (Nat.le_of_eq (Array.size_push ..)) (by omega)))
  refine wpAny_pure ⟨rfl,H2,kA.push u,c2,by rw[Array.size_push,lz],?_,sm.trans me,λp hp=>?_⟩
  ·exact lN (t':=s2.toks) I2 (λp hp=>by
    rcases List.mem_append.mp hp with z|z
    ·exact(np p (List.mem_append_left _ z)).1
    ·rcases List.mem_append.mp z with z|z
     ·exact(np p (List.mem_append_right _ z)).1
     ·have:p=(D,seqObj "list" #[] e1):=List.mem_singleton.mp z
      rw[this]
      exact HB.symm) aS (λb o hb e=>(s1.2 b hb).trans e) M7 (λv z=>by cases z)
  ·obtain⟨i,hp⟩:=List.mem_iff_getElem?.mp hp
   obtain⟨g1,g2⟩:=List.getElem?_zip_eq_some.mp hp
   rw[Array.toList_push,List.getElem?_append]at g1
   split at g1
   ·obtain⟨n',t',a,z1,z2,z3,z4⟩:=hk p (List.mem_iff_getElem?.mpr ⟨i,List.getElem?_zip_eq_some.mpr ⟨g1,g2⟩⟩)
    exact⟨n',t',a,z1,z2,z3,z4.mono me⟩
   ·rename_i eS
    have OK:i=j:=by
     have:=(List.getElem?_eq_some_iff.mp g1).1
     rw[Array.length_toList,lz]at this eS
     simp at this
     omega
    subst OK
    rw[Array.length_toList,lz,Nat.sub_self]at g1
    simp at g1
    rw[hv]at g2
    cases rp with
    |tup q1 w=>
     cases rv
     exact⟨n,t,_,hn,(Option.some.inj g2).symm,g1.symm,.tup q1 w⟩
 case done=>
  rintro s' ⟨H',kA,e,lz,I',sm,hk⟩
  rw[Nat.zero_add]at lz
  have nk:=(I'.pin (kS,seqObj "list" kA e) (List.mem_append_right _ (List.mem_append_right _ (List.mem_cons_self ..)))).1
  try dsimp only
  refine wpAny_bind (listItems_at nk rfl ?_)
  exact CT I' HB np aS aD (by have:=hr.units;omega) ho hi ok lz o5 hk sm q
theorem AE{E:Value->Shared->Prop}{k n:Nat}{f:Addr}{fd:FuncData}{x:Str}{F:List PV->Option PV}(FO:cw X.prog X.w X.K X.mg X.base g7 k f fd [x] (tE X.K κ false F))(hr:bO k X.A)(hb:Binds X.K fd [x] [])(hx:∀e s',¬X.xe e s')
  (hF:∀n,mf n=true->F [.int n]=some (.tup [.int (kI n),.lst ((kL n).map PV.int)]))
  (I:Inv X (pins++[(D,seqObj "list" vs.toArray n)]) σ H s)(np:∀p∈X.pn++pins,p.1≠D)(aD:X.s₀.heap.objs.size<=D)
  (ho:∀n m,mf n=true->mf m=true->(if kI n=kI m then mH (kL n) (kL m)else decide (kI n<kI m))=decide (hU n<hU m))
  (hi:IntsAre vs ns)(ok:∀n∈ns,mf n=true)(o5:vs.length<=5000){P:PySem.Fin->Shared->Prop}
  (q:∀s',nX X pins σ H D ns s'->P (.done (.ret .none)) s'):wpAny (model X.prog X.w) X.A (ksk_tree D (.ref f) false) P E s:=by
 have zl:(5000:Nat)<=sizeLine:=by decide
 have hd:=(I.pin (D,seqObj "list" vs.toArray n) (List.mem_append_right _ (List.mem_append_right _ (List.mem_cons_self ..)))).1
 have s1:=Heap.SameBut.update s.heap D (Obj.mapSeq λ_=>(#[]:Array Value))
 obtain⟨e1,KC⟩:∃e1,(s.heap.update D (Obj.mapSeq λ_=>(#[]:Array Value))).get? D=some (seqObj "list" #[] e1):=⟨_,get?_update_seq hd λ_=>#[]⟩
 unfold ksk_tree
 refine wpAny_bind (listItems_at hd rfl ?_)
 refine wpAny_bind (listUpdate_at hd rfl ?_ (by rw[List.size_toArray];omega) (Nat.zero_le _))
 refine wpAny_bind (seqEpoch_at KC rfl ?_)
 refine wpAny_bind (wpAny_newTuple ?_ (by show vs.length<=_;omega))
 refine wpAny_bind (wpAny_newList ?_ (Nat.zero_le _))
 refine wpAny_holding ?_
 have I1:=lN (t':=s.toks) I (λp hp=>np p (by simpa using hp)) aD (λb u hb e=>(s1.2 b hb).trans e) KC (λv z=>by cases z)
 have I2:Inv X (pins++[(D,seqObj "list" #[] e1)]) σ H {s with heap:=(s.heap.update D (Obj.mapSeq λ_=>(#[]:Array Value))).push (seqObj "tuple" vs.toArray 0),toks:=s.toks}:=I1.kept (t':=s.toks) λb o e=>Heap.get?_push_of_some _ e
 have I3:=yV (o:=seqObj "list" #[] 0) (t':=s.toks) I2 (λv z=>by cases z) (λb o e=>Heap.get?_push_of_some _ e) (Nat.le_refl _) (Heap.get?_push_size _ rfl)
 have Ng:=yW I2
 have hD:D<((s.heap.update D (Obj.mapSeq λ_=>(#[]:Array Value))).push (seqObj "tuple" vs.toArray 0)).objs.size:=Ng (D,seqObj "list" #[] e1) (List.mem_append_right _ (List.mem_append_right _ (List.mem_cons_self ..)))
 refine AD FO hr hb hx hF (kS:=((s.heap.update D (Obj.mapSeq λ_=>(#[]:Array Value))).push (seqObj "tuple" vs.toArray 0)).objs.size) (I3.dZ λp hp=>?_) (Nat.ne_of_gt hD) (λp hp=>⟨Nat.ne_of_lt (Ng p ?_),np p hp⟩) (Nat.le_trans aD (Nat.le_of_lt hD)) aD ho hi ok o5 q
 ·refine I3.pin p (List.mem_append_right _ ?_)
  rcases List.mem_append.mp hp with z|z
  ·exact List.mem_append_left _ (List.mem_append_left _ z)
  ·rcases List.mem_cons.mp z with rfl|z
   ·exact List.mem_append_right _ (List.mem_cons_self ..)
   ·exact List.mem_append_left _ (List.mem_append_right _ z)
 ·rcases List.mem_append.mp hp with z|z
  ·exact List.mem_append_left _ z
  ·exact List.mem_append_right _ (List.mem_append_left _ z)
end
section
variable{X:Cx}{pins:List (Addr×Obj)}{σ:St}{H:Hp}{s:Shared}{κ:Kl}{vs:List Value}{ns:List Int}
theorem lO{k:Nat}{f:Addr}{fd:FuncData}{x:Str}{F:List PV->Option PV}{Q:VK}(FO:cw X.prog X.w X.K X.mg X.base g7 k f fd [x] (tE X.K κ false F))(hr:bO k X.A.in1.in1)(hb:Binds X.K fd [x] [])(hK:gp F)
  (I:Inv X pins σ H s)(hi:IntsAre vs ns)(ok:jE ns=true)(q:∀D H',aE H H'->H' D=none->Q (.ref D) (upd H' D (.lst ((eW hU ns).map V.int)))):
  wpAny (model X.prog X.w) X.A.in1 (do let l<-newList vs;let _<-holding [l] (call (.builtin "list.sort") [l] [(Str.ofString "key",.ref f)]);ret l) (λfin s'=>∃v,fin=.done (.ret v)/\EP X pins σ Q v s') X.xe s:=by
 have zl:(5000:Nat)<=sizeLine:=by decide
 obtain⟨kI,kL,hF,ho⟩:=hK
 unfold jE at ok
 simp only[Bool.and_eq_true,decide_eq_true_eq,List.all_eq_true]at ok
 have hlen:=hi.length
 refine wpAny_bind (wpAny_newList ?_ (by omega))
 have I1:=yV (o:=seqObj "list" vs.toArray 0) (t':=s.toks) I (λv z=>by cases z) (λb o e=>Heap.get?_push_of_some _ e) (Nat.le_refl _) (Heap.get?_push_size _ rfl)
 have Ny:(s.heap.push (seqObj "list" vs.toArray 0)).get? s.heap.objs.size=some (seqObj "list" vs.toArray 0):=Heap.get?_push_size _ rfl
 have np:∀p∈X.pn++pins,p.1≠s.heap.objs.size:=λp hp=>Nat.ne_of_lt (yW I p hp)
 refine wpAny_bind (wpAny_holding (wpAny_call_entry_kw slot_list_sort ⟨_,Ny,rfl⟩ entry_list_sort ?body (ksk_l1 _ _)))
 case body=>
  rw[ksk_t1]
  refine AE (X:=Ni X) (pins:=pins) (σ:=σ) (H:=H) (D:=s.heap.objs.size) (n:=0) FO hr hb (λ_ _ z=>z) hF (F1 I1) np I.sz ho hi ok.1 (by omega) λs' OO=>⟨_,rfl,?_⟩
  obtain⟨H',out,c,sm,I2,hv⟩:=OO
  have I3:=CP I.ok I2
  have Rj:=CQ (rest:=[]) I3 (λp hp=>np p (by simpa using hp)) I.sz
  obtain⟨h1,h2,h3,h4,h5,h6⟩:=Rj
  have I4:Inv X pins σ H' s':=I3.dZ λp hp=>I3.pin p (List.mem_append_right _ (List.mem_append_left _ hp))
  have hz:((eW hU ns).map V.int).length<=sizeLine:=by
   rw[List.length_map,(gC hU ns).length_eq]
   omega
  refine wpAny_pure ⟨_,rfl,.ref _,_,AB (its:=out.toList) (n:=c) I4 (by simpa using h1) h2 h3 I.sz h6 np hv hz,rfl,q _ H' sm h2⟩
theorem mM{k:Nat}{f l:Addr}{fd:FuncData}{x:Str}{F:List PV->Option PV}{Q:VK}(FO:cw X.prog X.w X.K X.mg X.base g7 k f fd [x] (tE X.K κ false F))(hr:bO k X.A.in1.in1)(hb:Binds X.K fd [x] [])(hK:gp F)
  (I:Inv X pins σ H s)(hq:fQ X.K H l (ns.map V.int))(ok:jE ns=true)(q:∀D H',aE H H'->H' D=none->Q (.ref D) (upd H' D (.lst ((eW hU ns).map V.int)))):
  wpAny (model X.prog X.w) X.A (call (.builtin "sorted") [.ref l] [(Str.ofString "key",.ref f)]) (EP X pins σ Q) X.xe s:=by
 obtain⟨its,rv,pl,hz⟩:=I.list hq
 have hi:=intsAre_of rv
 refine call_function_entry_kw kind_sorted plain_sorted entry_sorted (ksk_s1 _ _) ?_
 unfold Builtin.«sorted»
 refine wpAny_bind (m:=checkCount "sorted" 1 1 _) (wpAny_pure ?_)
 refine wpAny_bind (collect_list pl.isList ?_ (by rw[<-rv.length];exact hz))
 have I1:Inv X pins σ H {s with heap:=(s.heap.push (seqObj "list" #[] 0)).update s.heap.objs.size (Obj.mapSeq (·++its.toArray)),toks:=s.toks}:=I.kept λb o e=>by
  have eS:b<s.heap.objs.size:=Heap.lt_size e
  rw[Heap.get?_update_ne _ _ _ _ (Nat.ne_of_lt eS)]
  exact Heap.get?_push_of_some _ e
 exact lO FO hr hb hK I1 hi ok q
end
section
variable{prog:Program}{w:World}{A:Around}{E:Value->Shared->Prop}{s:Shared}
theorem qp:∀(n:Nat) (acc:List Value),acc.length=n->(∀j v,acc[j]?=some v->∃t,v=Value.int ((j:Nat):Int) t)->∃ns,ns=(List.range n).map (λ(k:Nat)=>(k:Int))/\IntsAre acc ns:=by
 have go:∀(acc:List Value) (i:Nat),(∀j v,acc[j]?=some v->∃t,v=Value.int ((i+j:Nat):Int) t)->IntsAre acc ((List.range' i acc.length).map (λ(k:Nat)=>(k:Int))):=by
  intro acc
  induction acc with
  |nil=>intro i _;exact .nil
  |cons v acc ih=>
   intro i h
   obtain⟨t,rfl⟩:=h 0 v rfl
   rw[List.length_cons,List.range'_succ,List.map_cons]
   refine .cons _ t (ih (i+1) λj v e=>?_)
   obtain⟨t,e⟩:=h (j+1) v (by simpa using e)
   exact⟨t,by rw[e];congr 2;omega⟩
 intro n acc hl h
 refine⟨_,rfl,?_⟩
 have:=go acc 0 (λj v e=>by simpa using h j v e)
 rwa[hl,<-List.range_eq_range']at this
theorem qq{r:Addr}{n:Nat}{j:Int}{t u v:Tok}{Q:List Value->Shared->Prop}(hh:A.handled=none)(hr:IsRange s.heap r 0 j 1 t u v)(hj:j.toNat=n)(hn:n<=100000)(h0:-(2^62)<=j)
  (h:∀h' tk vs,(∀b o,s.heap.get? b=some o->h'.get? b=some o)->IntsAre vs ((List.range n).map (λ(k:Nat)=>(k:Int)))->Q vs {s with heap:=h',toks:=tk}):wpAny (model prog w) A (collect (.ref r)) Q E s:=by
 have L9:j<2^62:=by omega
 unfold collect
 refine wpAny_bind (wpAny_runValue (codeAny_builtin entry_proto_collect' ?_))
 show wpAny _ _ (do again (.builtin "list.__iadd__" ⟨[<-newList [],.ref r],[]⟩)) _ _ s
 refine wpAny_bind (wpAny_newList (wpAny_pure ⟨Code.quiet_builtin _ (by decide+kernel),codeAny_builtin entry_list_iadd' ?_⟩))
 show wpAny _ _ (Builtin.List.listExtendWith (.ref s.heap.objs.size) (.ref r) (.ref s.heap.objs.size)) _ _ {s with heap:=s.heap.push (seqObj "list" #[] 0)}
 rw[Around.under_plainId (show plainId "list.__iadd__" =true by decide+kernel) _]
 refine wpAny_extend_range (R:=λr s'=>match r with|.ok (.ret v)=>wpAny (model prog w) A (match v with|.ref a=>(do let o<-load a;match o.data with|.seq xs _=>pure xs.toList|_=>unsupported "internal:collect")|_=>unsupported "internal:collect") Q E s'|.ok _=>False|.error e=>E e s') (s:={s with heap:=s.heap.push (seqObj "list" #[] 0)}) (n:=n) (c₀:=0) hh (Heap.get?_push_of_some _ hr) (a:=0) (b:=j) (c:=1) (small_one (by decide) (by decide) h0 L9) (by rw[rangeSize_one];split<;>omega) (by omega) s.heap.objs.size _ (Heap.get?_push_size _ rfl) λh' tk acc c hk hS hI=>?_
 refine wpAny_bind (wpAny_load hS ?_)
 obtain⟨ns,rfl,hi⟩:=qp n acc.toList (by rw[Array.length_toList];exact hI.1) (λj v e=>by
  obtain⟨t,e'⟩:=hI.2 j v (by simpa using e)
  exact⟨t,by rw[e'];simp⟩)
 exact wpAny_pure (h h' tk acc.toList (λb o e=>hk b o (Nat.ne_of_lt (Heap.lt_size e)) (Heap.get?_push_of_some _ e)) hi)
end
section
variable{X:Cx}{κ:Kl}{k:Nat}{f:Addr}{fd:FuncData}{x:Str}{F:List PV->Option PV}
noncomputable def OP(K:PySem.W.Frag)(v:V)(H:Hp)(ns:List Int):Prop:=∃l,v=.ref l/\(fQ K H l (ns.map V.int)\/∃j:Int,H l=some (.rng 0 j)/\-(2^62)<=j/\j.toNat<=100000/\ns=(List.range j.toNat).map (λ(k:Nat)=>(k:Int)))
theorem vj{pins:List (Addr×Obj)}{σ:St}{H:Hp}{s:Shared}{ns:List Int}{v:V}{u:Value}{Q:VK}(hc:X.calm=true)(FO:cw X.prog X.w X.K X.mg X.base g7 k f fd [x] (tE X.K κ false F))(hr:bO k X.A.in1.in1)(hb:Binds X.K fd [x] [])(hK:gp F)
  (I:Inv X pins σ H s)(rv:RelV v u)(hq:OP X.K v H ns)(ok:jE ns=true)(q:∀D H',aE H H'->H' D=none->Q (.ref D) (upd H' D (.lst ((eW hU ns).map V.int)))):
  wpAny (model X.prog X.w) X.A (call (.builtin "sorted") [u] [(Str.ofString "key",.ref f)]) (EP X pins σ Q) X.xe s:=by
 obtain⟨l,rfl,hq⟩:=hq
 cases rv
 rcases hq with hq|⟨j,hq,h1,h2,rfl⟩
 ·exact mM FO hr hb hK I hq ok q
 ·obtain⟨t,u,v,OQ⟩:=I.dR l _ hq
  refine call_function_entry_kw kind_sorted plain_sorted entry_sorted (ksk_s1 _ _) ?_
  unfold Builtin.«sorted»
  refine wpAny_bind (m:=checkCount "sorted" 1 1 _) (wpAny_pure ?_)
  refine wpAny_bind (qq (A:=X.A.in1) (I.ok.hd hc) OQ rfl h2 h1 λh' tk vs hk hi=>?_)
  exact lO FO hr hb hK (I.kept (t':=tk) hk) hi ok q
noncomputable def Ma(K:PySem.W.Frag)(te:TE):TE:=λσ H Q=>te σ H λv H1=>∃ns,OP K v H1 ns/\jE ns=true/\∀D H',aE H1 H'->H' D=none->Q (.ref D) (upd H' D (.lst ((eW hU ns).map V.int)))
theorem qU{p px pos kp:Pos}{a:Expr}{y:Str}{te:TE}(FO:cw X.prog X.w X.K X.mg X.base g7 k f fd [x] (tE X.K κ false F))(hr:bO (k+2) X.A)(hb:Binds X.K fd [x] [])(hK:gp F)(hm:X.mg "sorted" =none)(hy:X.mg y=some (.ref f))(ha:PE X a te)
  (hg:autoParam (Gl X "sorted") zR._auto_1)(Mb:autoParam (Gl X y) zR._auto_1)(hc:autoParam (X.calm=true) zR._auto_1)(Mc:autoParam ((y==("__debug__" :Str))=false) zD._auto_1)(hs:autoParam (starEach [a] X.env=(false,eval a X.env)::starEach [] X.env) zR._auto_1)(Md:autoParam (backTo pos (starEach [a] X.env)=(false,eval a X.env)::backTo pos (starEach [] X.env)) zR._auto_1)
  (EC:autoParam ((backToKw pos (keywordEach [⟨some "key",.Name y px,kp⟩] X.env)).filterMap (·.1)=[Str.ofString "key"]) zR._auto_1)(sA:autoParam ((backToKw pos (keywordEach [⟨some "key",.Name y px,kp⟩] X.env)).all (·.1.isSome)=true) zR._auto_1)(Me:autoParam ((backToKw pos (keywordEach [⟨some "key",.Name y px,kp⟩] X.env)).any (·.1.isNone)=false) zR._auto_1)
  (hpl:autoParam ((backTo pos (starEach [a] X.env)).any (·.1)=false) zR._auto_1):PE X (.Call (.Name "sorted" p) [a] [⟨some "key",.Name y px,kp⟩] pos) (Ma X.K te):=by
 intro pins s σ H Q I h
 refine wpAny_Call_Name_kw (jq I hg hm PyProof.Rows.boot_sorted ?_)
 have hA:=(bq ha cc hs) pos pins s σ H (λvs H1=>match vs with|[v]=>(∃ns,OP X.K v H1 ns/\jE ns=true/\∀D H',aE H1 H'->H' D=none->Q (.ref D) (upd H' D (.lst ((eW hU ns).map V.int))))|_=>False) I h
 refine PyProof.Rows.callWith_kw (dz hA λus s1 bW=>?_) Md hpl sA Me
 obtain⟨vs,H1,I1,r1,q1⟩:=bW
 try dsimp only at q1
 split at q1
 ·rename_i v
  obtain⟨ns,Rk,ok,q⟩:=q1
  obtain⟨u,rfl,ru⟩:=r1.one
  have Rl:=(E2 (nm:=some "key") (kpos:=kp) (ER (pos:=px) (v:=.ref f) Mb hy rfl Mc) IF:PK X [⟨some "key",.Name y px,kp⟩] _) pos pins s1 σ H1 (λzs H2=>zs=[.ref f]/\H2=H1) I1 ⟨rfl,rfl⟩
  refine dz Rl λws s2 bW=>?_
  obtain⟨zs,H2,I2,rz,e1,e2⟩:=bW
  subst e1 e2
  obtain⟨u2,rfl,OH⟩:=rz.one
  cases OH
  rw[EC]
  exact vj hc FO (hr.in1).in1 hb hK I2 ru Rk ok q
 ·exact q1.elim
theorem AF{p pos:Pos}{a:Expr}{te:TE}(hm:X.mg "range" =none)(ha:PE X a te)(hg:autoParam (Gl X "range") zR._auto_1)(hs:autoParam (starEach [a] X.env=[(false,eval a X.env)]) zR._auto_1):
  PE X (.Call (.Name "range" p) [a] [] pos) (λσ H Q=>te σ H λv H1=>∃j:Int,v=.int j/\∀l,H1 l=none->Q (.ref l) (upd H1 l (.rng 0 j))):=by
 intro pins s σ H Q I h
 have hA:=(bq ha cc hs) pos pins s σ H (λvs H1=>match vs with|[v]=>(∃j:Int,v=.int j/\∀l,H1 l=none->Q (.ref l) (upd H1 l (.rng 0 j)))|_=>False) I h
 refine Call_ (jq I hg hm boot_range (PyProof.Rows.callWith_type1 (dz hA λus s1 bW=>?_) hs rfl))
 obtain⟨vs,H1,I1,r1,q1⟩:=bW
 try dsimp only at q1
 split at q1
 ·obtain⟨j,rfl,q⟩:=q1
  obtain⟨u,rfl,t,rfl⟩:=r1.one
  refine call_range_1 ⟨.ref s1.heap.objs.size,_,I1.laid (a:=s1.heap.objs.size) (o:=.rng 0 j) (t':=s1.toks+1+1) (λb o e=>Heap.get?_push_of_some _ e) (Nat.le_refl _) ?_,rfl,q _ I1.fresh⟩
  exact⟨_,_,_,Heap.get?_push_size _ rfl⟩
 ·exact q1.elim
theorem xj{p px pos kp:Pos}{a:Expr}{y:Str}{fa:Den}(FO:cw X.prog X.w X.K X.mg X.base g7 k f fd [x] (tE X.K κ false F))(hr:bO (k+2) X.A)(hb:Binds X.K fd [x] [])(hK:gp F)(hm:X.mg "sorted" =none)(hy:X.mg y=some (.ref f))(ha:DB X κ a fa)
  (hg:autoParam (Gl X "sorted") zR._auto_1)(Mb:autoParam (Gl X y) zR._auto_1)(hc:autoParam (X.calm=true) zR._auto_1)(Mc:autoParam ((y==("__debug__" :Str))=false) zD._auto_1)(hs:autoParam (starEach [a] X.env=(false,eval a X.env)::starEach [] X.env) zR._auto_1)(Md:autoParam (backTo pos (starEach [a] X.env)=(false,eval a X.env)::backTo pos (starEach [] X.env)) zR._auto_1)
  (EC:autoParam ((backToKw pos (keywordEach [⟨some "key",.Name y px,kp⟩] X.env)).filterMap (·.1)=[Str.ofString "key"]) zR._auto_1)(sA:autoParam ((backToKw pos (keywordEach [⟨some "key",.Name y px,kp⟩] X.env)).all (·.1.isSome)=true) zR._auto_1)(Me:autoParam ((backToKw pos (keywordEach [⟨some "key",.Name y px,kp⟩] X.env)).any (·.1.isNone)=false) zR._auto_1)
  (hpl:autoParam ((backTo pos (starEach [a] X.env)).any (·.1)=false) zR._auto_1):DO X κ (.Call (.Name "sorted" p) [a] [⟨some "key",.Name y px,kp⟩] pos) (ng (nList fa)):=by
 obtain⟨ta,h1,h2⟩:=ha
 refine⟨_,qU FO hr hb hK hm hy h1 hg Mb hc Mc hs Md EC sA Me hpl,λ{G A bo own ρ σ H p Q} r e q=>?_⟩
 obtain⟨l,e1,e2⟩:=Option.bind_eq_some_iff.mp e
 obtain⟨p1,e3,e4⟩:=Option.bind_eq_some_iff.mp e1
 obtain⟨ns,e5,e6⟩:=Option.bind_eq_some_iff.mp e2
 obtain⟨ok,rfl⟩:=br e6
 refine h2 r e3 λv H1 s1 b1=>?_
 cases p1<;>first|(cases e4;done)|skip
 cases e4
 obtain⟨a,vs,rfl,q1,q2⟩:=b1.lst av
 rw[tJ q2 e5]at q1
 refine⟨ns,⟨a,rfl,.inl q1.sq⟩,ok,λD H2 s2 hD=>?_⟩
 have xg:=s1.trans s2
 refine q _ _ (xg.trans (bD hD)) ?_
 obtain⟨a,ws,l,w1,w2,w3,w4⟩:=(r.mono xg).vc hD (ints_rep (κ:=κ) (eW hU ns))
 refine⟨a,ws,l,w1,w2,?_,w4⟩
 cases w1
 exact xg.free hD
theorem vk:∀n:Nat,eo (cx 0 n)=some ((List.range n).map (λ(k:Nat)=>(k:Int))):=λn=>by
 have:cx 0 n=((List.range n).map (λ(k:Nat)=>(k:Int))).map PV.int:=by
  unfold cx
  rw[List.map_map]
  congr 1
  funext k
  simp
 rw[this,gL]
theorem xk{p px pos kp p2 AG:Pos}{a:Expr}{y:Str}{fa:Den}(FO:cw X.prog X.w X.K X.mg X.base g7 k f fd [x] (tE X.K κ false F))(hr:bO (k+2) X.A)(hb:Binds X.K fd [x] [])(hK:gp F)(hm:X.mg "sorted" =none)(Rm:X.mg "range" =none)(hy:X.mg y=some (.ref f))(ha:DB X κ a fa)
  (hg:autoParam (Gl X "sorted") zR._auto_1)(Ro:autoParam (Gl X "range") zR._auto_1)(Rp:autoParam (starEach [a] X.env=[(false,eval a X.env)]) zR._auto_1)(Mb:autoParam (Gl X y) zR._auto_1)(hc:autoParam (X.calm=true) zR._auto_1)(Mc:autoParam ((y==("__debug__" :Str))=false) zD._auto_1)(hs:autoParam (starEach [.Call (.Name "range" p2) [a] [] AG] X.env=(false,eval (.Call (.Name "range" p2) [a] [] AG) X.env)::starEach [] X.env) zR._auto_1)
  (Md:autoParam (backTo pos (starEach [.Call (.Name "range" p2) [a] [] AG] X.env)=(false,eval (.Call (.Name "range" p2) [a] [] AG) X.env)::backTo pos (starEach [] X.env)) zR._auto_1)
  (EC:autoParam ((backToKw pos (keywordEach [⟨some "key",.Name y px,kp⟩] X.env)).filterMap (·.1)=[Str.ofString "key"]) zR._auto_1)(sA:autoParam ((backToKw pos (keywordEach [⟨some "key",.Name y px,kp⟩] X.env)).all (·.1.isSome)=true) zR._auto_1)(Me:autoParam ((backToKw pos (keywordEach [⟨some "key",.Name y px,kp⟩] X.env)).any (·.1.isNone)=false) zR._auto_1)
  (hpl:autoParam ((backTo pos (starEach [.Call (.Name "range" p2) [a] [] AG] X.env)).any (·.1)=false) zR._auto_1):DO X κ (.Call (.Name "sorted" p) [.Call (.Name "range" p2) [a] [] AG] [⟨some "key",.Name y px,kp⟩] pos) (ng (cL fa)):=by
 obtain⟨ta,h1,h2⟩:=ha
 refine⟨_,qU FO hr hb hK hm hy (AF Rm h1 Ro Rp) hg Mb hc Mc hs Md EC sA Me hpl,λ{G A bo own ρ σ H p Q} r e q=>?_⟩
 obtain⟨l,e1,e2⟩:=Option.bind_eq_some_iff.mp e
 obtain⟨p1,e3,e4⟩:=Option.bind_eq_some_iff.mp e1
 obtain⟨j,e7,e8⟩:=Option.bind_eq_some_iff.mp e4
 obtain⟨hj,e9⟩:=br e8
 obtain⟨ns,e5,e6⟩:=Option.bind_eq_some_iff.mp e2
 obtain⟨ok,rfl⟩:=br e6
 subst e9
 rw[vk]at e5
 cases e5
 simp only[kE,Bool.and_eq_true,decide_eq_true_eq]at hj
 have hlen:j.toNat<=100000:=by
  have:=ok
  unfold jE at this
  simp only[Bool.and_eq_true,decide_eq_true_eq,List.length_map,List.length_range]at this
  omega
 refine h2 r e3 λv H1 s1 b1=>?_
 cases p1<;>first|(cases e7;done)|skip
 cases e7
 refine⟨_,b1.int,λl hl=>⟨_,⟨l,rfl,.inr ⟨_,aO,hj.1,hlen,rfl⟩⟩,ok,λD H2 s2 hD=>?_⟩⟩
 have xg:=(s1.trans (bD hl)).trans s2
 refine q _ _ (xg.trans (bD hD)) ?_
 obtain⟨a,ws,l,w1,w2,w3,w4⟩:=(r.mono xg).vc hD (ints_rep (κ:=κ) (eW hU ((List.range j.toNat).map (λ(k:Nat)=>(k:Int)))))
 refine⟨a,ws,l,w1,w2,?_,w4⟩
 cases w1
 exact xg.free hD
end
section
variable{X:Cx}{κ:Kl}{fr:Bool}{pos:Pos}
theorem AH{x:Str}{p' apos cO:Pos}{e1 e2:Expr}{fs:bX}(i:Nat)(ha:DA X κ [e1,e2] fs)(hN:autoParam (X.N[i]?=some x) zR._auto_1)(hv:autoParam (uA X.env.scope x) zV._auto_1)(hd:autoParam ((x==("__debug__" :Str))=false) zD._auto_1)
  (om:autoParam ((x==("__classdict__" :Str))=false) zD._auto_1)(fR:autoParam (attributeBase (.Name x p') "insert" X.env (eval (.Name x p') X.env)=eval (.Name x p') X.env) zR._auto_1)
  (my:autoParam (((backTo cO (starEach [e1,e2] X.env)).all (λx=>!x.1)&&(backToKw cO (keywordEach [] X.env)).all (λx=>x.1.isSome)
    &&decide ([e1,e2].length+([]:List Keyword).length+(if([]:List Keyword).isEmpty then 0 else 1)<30))=true) zR._auto_1)
  (hs:autoParam (swapsWith (.Call (.Attribute (.Name x p') "insert" apos) [e1,e2] [] cO) none pos.line X.env=pure false) zR._auto_1)(fS:autoParam ((apos.endLine==cO.line)=true) zR._auto_1)(nI:autoParam (starEach [e1,e2] X.env=(false,eval e1 X.env)::starEach [e2] X.env) zR._auto_1)
  (hpl:autoParam ((backTo cO (starEach [e2] X.env)).any (·.1)=false) zR._auto_1):DS X κ fr (.Expr (.Call (.Attribute (.Name x p') "insert" apos) [e1,e2] [] cO) pos) (lI i kh fs):=by
 obtain⟨ta,h1,h2⟩:=ha
 refine⟨_,j7 (yu PySem.F.plainAttrs_list PySem.F.slot_list_insert PySem.F.type_list_insert Aj (dh hN hv hd om) h1 fR my fS nI hpl) hs,yQ i ?_ h2⟩
 intro hH H a vs ws l xs l' Q s h3 h4 h5 h6 q
 unfold kh at h6
 split at h6
 ·rename_i k y
  obtain⟨h7,rfl⟩:=br h6
  simp only[Bool.and_eq_true,decide_eq_true_eq]at h7
  cases h5 with
  |cons z1 t=>
   cases t with
   |cons z2 t=>
    cases t
    cases z1
    refine⟨a,vs,k.toNat,_,rfl,by rw[Int.toNat_of_nonneg h7.1.1],h3,by rw[h4.length];exact h7.1.2,by rw[h4.length];exact h7.2,q _ ?_⟩
    exact(h4.take _).append (.cons z2 (h4.drop _))
 ·cases h6
end
end L2.D
namespace L2.D
open PySem PySem.Spec PyProof.Rows PySem.SeqAt
section
variable{X:Cx}{κ:Kl}{fr:Bool}{pos:Pos}{a e:Expr}{fa f:Den}
theorem lP(ns:List Int):∀j,j<=ns.length->preSum (λi=>ns.getD i 0) j=(ns.take j).sum
 |0,_=>rfl
 |j+1,h=>by
  show preSum (λi=>ns.getD i 0) j+ns.getD j 0=_
  rw[lP ns j (by omega),List.take_add_one,List.sum_append,List.getD_eq_getElem?_getD,List.getElem?_eq_getElem (by omega)]
  simp
theorem sum_bound:∀(ns:List Int),(∀n∈ns,0<=n/\n<1000000)->0<=ns.sum/\ns.sum<=1000000*ns.length
 |[],_=>by simp
 |n::ns,h=>by
  have h1:=h n (List.mem_cons_self ..)
  have h2:=sum_bound ns λx hx=>h x (List.mem_cons_of_mem _ hx)
  rw[List.sum_cons,List.length_cons]
  omega
theorem qV{ns:List Int}{its:List Value}(r:Vals (ns.map V.int) its)(i:Nat)(v:Value)(hv:its[i]?=some v):∃t,v=.int (ns.getD i 0) t:=by
 have hl:=r.length
 have hi:=(List.getElem?_eq_some_iff.mp hv).1
 rw[List.length_map]at hl
 have hx:(ns.map V.int)[i]?=some (.int ns[i]):=by rw[List.getElem?_map,List.getElem?_eq_getElem (by omega)];rfl
 obtain⟨u,e,ru⟩:=r.get hx
 rw[hv]at e
 cases e
 obtain⟨t,rfl⟩:=ru
 exact⟨t,by rw[List.getD_eq_getElem?_getD,List.getElem?_eq_getElem (by omega)];rfl⟩
theorem qr(hc:X.calm=true):gH X (.builtin "sum") (λxs H Q=>∃(p:Addr) (ns:List Int),xs=[.ref p]/\fQ X.K H p (ns.map V.int)/\u9 ns=true/\Q (.int ns.sum) H):=by
 intro pins s σ H xs us Q I r h
 obtain⟨p,ns,rfl,hq,ok,q⟩:=h
 unfold u9 at ok
 simp only[Bool.and_eq_true,List.all_eq_true,decide_eq_true_eq]at ok
 obtain⟨Nh,P1⟩:=ok
 obtain⟨u,rfl,ru⟩:=vals1 r
 cases ru
 obtain⟨its,rv,pl,hz⟩:=I.list hq
 have eS:p<s.heap.objs.size:=by
  obtain⟨o,ho,_⟩:=pl.isList
  exact Heap.lt_size ho
 have qi:p≠s.heap.objs.size:=Nat.ne_of_lt eS
 have hh:X.A.in1.handled=none:=I.ok.hd hc
 have hl:=rv.length
 rw[List.length_map]at hl
 refine call_sum_walk (wpAny_pyIter_list pl.isList ⟨s.heap.objs.size,_,_,_,_,_,(λi=>ns.getD i 0),rfl,Walks.list hh s.heap.objs.size p qi its.toArray,?_,?_,λi v hv=>qV rv i v (by simpa using hv),λj hj=>?_,λh' tk t' k=>?_⟩)
 ·exact⟨⟨_,Heap.get?_push_size _ rfl,rfl,rfl⟩,pl.isList.at λo e=>Heap.get?_push_of_some _ e⟩
 ·intro b hb
  have:b=s.heap.objs.size\/b=p:=by simpa using hb
  show b<(s.heap.push _).objs.size
  rw[show∀o,(s.heap.push o).objs.size=s.heap.objs.size+1 from λo=>Array.size_push ..]
  rcases this with rfl|rfl
  ·exact Nat.lt_succ_self _
  ·exact Nat.lt_succ_of_lt eS
 ·rw[List.size_toArray,<-hl]at hj
  have kF:j<ns.length:=hj
  have b1:=Nh ns[j] (List.getElem_mem kF)
  have b2:=sum_bound (ns.take (j+1)) λx hx=>Nh x (List.mem_of_mem_take hx)
  rw[lP ns (j+1) (by omega)]
  have b3:ns.getD j 0=ns[j]:=by rw[List.getD_eq_getElem?_getD,List.getElem?_eq_getElem kF];rfl
  have b4:(ns.take (j+1)).length<=1000:=by rw[List.length_take];omega
  show InLong (ns.getD j 0)/\InLong _
  rw[b3]
  generalize ns[j]=u at b1
  generalize(ns.take (j+1)).sum=w at b2
  generalize(ns.take (j+1)).length=m at b2 b4
  obtain⟨b5,b6⟩:=b1
  obtain⟨b7,b8⟩:=b2
  exact⟨⟨by omega,by omega⟩,⟨by omega,by omega⟩⟩
 ·rw[List.size_toArray,<-hl,lP ns ns.length (Nat.le_refl _),List.take_length]
  refine⟨.int _,H,I.kept (t':=tk) λb o e=>k b o (λz=>?_) (Heap.get?_push_of_some _ e),⟨_,rfl⟩,q⟩
  obtain rfl:b=s.heap.objs.size:=by simpa using z
  exact Nat.lt_irrefl _ (Heap.lt_size e)
theorem tM{K:PySem.W.Frag}{H:Hp}:∀{vs:List V} {l:List PV} {ns:List Int},aT K κ H vs l->eo l=some ns->vs=ns.map V.int
 |_,_,_,.nil,h=>by cases h;rfl
 |_,p::_,_,.cons r t,h=>by
  cases p<;>first|(cases h;done)|skip
  obtain⟨cs,h1,rfl⟩:=Option.map_eq_some_iff.mp h
  cases r
  rw[List.map_cons,<-tM t h1]
theorem JK{p:Pos}(ha:DB X κ a fa)(hm:X.mg "sum" =none)(hg:autoParam (Gl X "sum") zR._auto_1)(hc:autoParam (X.calm=true) zR._auto_1)(hs:autoParam (starEach [a] X.env=(false,eval a X.env)::starEach [] X.env) zR._auto_1):DE X κ (.Call (.Name "sum" p) [a] [] pos) (aR Cp fa):=by
 obtain⟨ta,h1,h2⟩:=ha
 refine⟨_,iJ (qr hc) hg hm PyProof.Rows.boot_sum (bq h1 cc hs) (he:=hs),λ{G A bo own ρ σ H p Q} r e q=>?_⟩
 obtain⟨p1,e1,e2⟩:=Option.bind_eq_some_iff.mp e
 refine h2 r e1 λx H1 s1 b1=>?_
 cases p1<;>first|(cases e2;done)|skip
 obtain⟨ns,e3,e4⟩:=Option.bind_eq_some_iff.mp e2
 obtain⟨ok,rfl⟩:=br e4
 obtain⟨a,vs,rfl,q1,q2⟩:=b1.lst av
 rw[tM q2 e3]at q1
 exact⟨a,ns,rfl,q1.sq,ok,q _ H1 s1 (.int _)⟩
end
section
variable{K:PySem.W.Frag}{κ:Kl}{H:Hp}
theorem yX{f:Str}{p:PV}:∀{ns:List Str} {vs:List V} {l:List PV},aT K κ H vs l->(ns.zip l).lookup f=some p->f∈ns/\∃v,(ns.zip vs).lookup f=some v/\Rep K κ H v p
 |[],_,_,_,h=>by cases h
 |n::ns,_,_,.nil,h=>by cases h
 |n::ns,_,_,.cons (v:=v) (p:=q) r t,h=>by
  rw[List.zip_cons_cons,List.lookup_cons]at h
  rw[List.zip_cons_cons,List.lookup_cons]
  by_cases e:f==n
  ·rw[e]at h⊢
   cases h
   exact⟨by rw[eq_of_beq e];exact List.mem_cons_self ..,v,rfl,r⟩
  ·have e':(f==n)=false:=by simpa using e
   rw[e']at h⊢
   obtain⟨h1,h2⟩:=yX t h
   exact⟨List.mem_cons_of_mem _ h1,h2⟩
end
theorem BR.rep{K:PySem.W.Frag}{κ:Kl}{hH H:Hp}{v:V}{c:Nat}{l:List PV}(h:BR K κ hH H v (.ins c l)):Rep K κ hH v (.ins c l):=by
 rcases h with h|⟨a,vs,l',h1,h2,h3,h4⟩
 ·exact h
 ·cases h2
noncomputable def HC(K:PySem.W.Frag)(κ:Kl)(f:Str):Prop:=∀c,f∈κ.fld c->yq K (κ.adr c)/\eI K (κ.adr c) f
section
variable{X:Cx}{κ:Kl}{pos apos:Pos}{a b e o:Expr}{es:List Expr}{fa fb fo:Den}{fs:bX}{m:Str}
theorem JM{f:Str}(ha:DB X κ a fa)(hf:HC X.K κ f)(hb:autoParam (attributeBase a f X.env (eval a X.env)=eval a X.env) zR._auto_1):DE X κ (.Attribute a f pos) (aR (bY κ.fld f) fa):=by
 obtain⟨ta,h1,h2⟩:=ha
 refine⟨_,mr h1 hb,λ{G A bo own ρ σ H p Q} r e q=>?_⟩
 obtain⟨p1,e1,e2⟩:=Option.bind_eq_some_iff.mp e
 refine h2 r e1 λx H1 s1 b1=>?_
 cases p1<;>first|(cases e2;done)|skip
 rename_i c l
 cases b1.rep with
 |ins h3 h4 h5=>
  obtain⟨h6,v,h7,h8⟩:=yX h5 e2
  obtain⟨k1,k2⟩:=hf c h6
  exact⟨_,_,_,_,v,rfl,av _ _ h3,k1,k2,h7,q v H1 s1 h8⟩
noncomputable def xm(X:Cx)(m:Str)(ta:TE)(t:TA):TE:=λσ H Q=>ta σ H λx H1=>∃(a C dx:Addr) (fs:List (Str×V)) (f:Addr) (fd:FuncData) (ps:List Str) (sp:Sp) (k:Nat),x=.ref a/\H1 a=some (.ins C dx fs)/\yq X.K C/\Meth X.K C m f/\fs.lookup m=none/\
 cw X.prog X.w X.K X.mg X.base g7 k f fd ps sp/\bO k X.A/\Binds X.K fd ps []/\t σ H1 λvs H2=>sp (x::vs) H2 Q E0
theorem AI{pl:Sem Bool}{ta:TE}(he:PE X o ta)
  (ht:autoParam (eval (.Call (.Attribute o m apos) [] [] pos) X.env=(do
    let ov<-eval o X.env
    standAt apos.atName
    let(f,first)<-holding [ov] (getMethod ov m pl)
    callWith pos f first (backTo pos (starEach [] X.env)) (backToKw pos (keywordEach [] X.env)))) zR._auto_1):PE X (.Call (.Attribute o m apos) [] [] pos) (xm X m ta BI):=by
 intro pins s σ H Q I h
 refine PySem.W.methodCall_KW (pl:=pl) (dz (he pins s σ H _ I h) λu s1 bW=>?_) ht
 obtain⟨x,H1,I1,rx,a,C,dx,fs,f,fd,ps,sp,k,ex,ea,c,hm,l,F,hr,hb,q⟩:=bW
 subst ex
 obtain rfl:u=Value.ref a:=rx
 refine iX I1 ea c hm l ?_
 exact PySem.W.callWith_K0 (first:=[.ref a]) I1.oi hm.kp (mw (us:=[.ref a]) (vs:=[.ref a]) (ds:=[]) (dvs:=[]) F hr hb .nil kD I1 (.cons rfl .nil) q)
theorem vm{pl:Sem Bool}{ta:TE}{t:TA}(he:PE X o ta)(ha:PA X (e::es) t)
  (nI:autoParam (starEach (e::es) X.env=(false,eval e X.env)::starEach es X.env) zR._auto_1)(hpl:autoParam ((backTo pos (starEach es X.env)).any (·.1)=false) zR._auto_1)
  (ht:autoParam (eval (.Call (.Attribute o m apos) (e::es) [] pos) X.env=(do
    let ov<-eval o X.env
    standAt apos.atName
    let(f,first)<-holding [ov] (getMethod ov m pl)
    callWith pos f first (backTo pos (starEach (e::es) X.env)) (backToKw pos (keywordEach [] X.env)))) zR._auto_1):PE X (.Call (.Attribute o m apos) (e::es) [] pos) (xm X m ta t):=by
 intro pins s σ H Q I h
 refine PySem.W.methodCall_KW (pl:=pl) (dz (he pins s σ H _ I h) λu s1 bW=>?_) ht
 obtain⟨x,H1,I1,rx,a,C,dx,fs,f,fd,ps,sp,k,ex,ea,c,hm,l,F,hr,hb,q⟩:=bW
 subst ex
 obtain rfl:u=Value.ref a:=rx
 refine iX I1 ea c hm l ?_
 refine PySem.W.callWith_K (first:=[.ref a]) (h₀:=X.base) I.ok.mod.kin hm.kp (dz (ha pos pins s1 σ H1 _ I1 q) λus s2 ⟨vs,H2,I2,r,q2⟩=>⟨I2.oi,?_⟩) nI hpl
 refine mw (us:=.ref a::us) (vs:=.ref a::vs) (ds:=[]) (dvs:=[]) F hr hb .nil kD I2 (.cons rfl r) ?_
 rw[List.append_nil]
 exact q2
noncomputable def o6(P:Program)(w:World)(K:PySem.W.Frag)(mg:Str->Option Value)(base:Heap)(κ:Kl)(fr:Bool)(m:Str)(k:Nat)(ps:List Str)(Fs:Nat->List PV->Option PV):Prop:=
 ∀c xs p,Fs c xs=some p->∃(f:Addr) (fd:FuncData),yq K (κ.adr c)/\Meth K (κ.adr c) m f/\m∉κ.fld c/\cw P w K mg base g7 k f fd ps (tE K κ fr (Fs c))/\Binds K fd ps []
theorem o7{α:Type}{f:Str}:∀{ns:List Str} {vs:List α},f∉ns->(ns.zip vs).lookup f=none
 |[],_,_=>rfl
 |n::ns,[],_=>rfl
 |n::ns,v::vs,h=>by
  rw[List.zip_cons_cons,List.lookup_cons]
  have e:(f==n)=false:=by
   rw[beq_eq_false_iff_ne]
   exact λz=>h (z▸List.mem_cons_self ..)
  rw[e]
  exact o7 λz=>h (List.mem_cons_of_mem _ z)
theorem o8{fr:Bool}{k:Nat}{ps:List Str}{Fs:Nat->List PV->Option PV}{ta:TE}{t:TA}(M:o6 X.prog X.w X.K X.mg X.base κ fr m k ps Fs)(hr:bO k X.A)(h2:M9 X.K κ ta fo)
  (h4:∀{G A bo own ρ σ H ps Q},R X.K κ G A bo own ρ σ H->fs ρ=some ps->(∀vs H',aE H H'->aT X.K κ (dX A own ρ H') vs ps->Q vs H')->t σ H Q)
  {G A bo own ρ σ H p}{Q:VK}(r:R X.K κ G A bo own ρ σ H)(e:dD Fs fo fs ρ=some p)(q:∀v H',aE H H'->RR fr X.K κ (cG A own ρ) H H' v p->Q v H'):xm X m ta t σ H Q:=by
 obtain⟨p1,e1,e2⟩:=Option.bind_eq_some_iff.mp e
 refine h2 r e1 λx H1 s1 z1=>?_
 cases p1<;>first|(cases e2;done)|skip
 rename_i c l
 obtain⟨xs,e3,e4⟩:=Option.bind_eq_some_iff.mp e2
 obtain⟨f,fd,k1,k2,k3,k4,k5⟩:=M c _ _ e4
 cases z1 with
 |ins h3 h5 h6=>
  refine⟨_,_,_,_,f,fd,ps,_,k,rfl,av _ _ h3,k1,k2,o7 k3,k4,hr,k5,h4 (r.mono s1) e3 λvs H2 s2 z2=>?_⟩
  refine⟨cG A own ρ,_,p,λb hb=>((r.mono s1).mono s2).Bt hb,.cons ((Rep.ins h3 h5 h6).mono (aF s2)) z2,e4,λv H' s z=>q v H' ((s1.trans s2).trans s) ?_⟩
  unfold RR at z⊢
  split
  ·rename_i hh
   rw[if_pos hh]at z
   exact Nc z (s1.trans s2) λb w=>w
  ·rename_i hh
   rw[if_neg hh]at z
   exact z
theorem vn{k:Nat}{ps:List Str}{Fs:Nat->List PV->Option PV}{pl:Sem Bool}(M:o6 X.prog X.w X.K X.mg X.base κ false m k ps Fs)(hr:bO k X.A)(ho:DE X κ o fo)
  (ht:autoParam (eval (.Call (.Attribute o m apos) [] [] pos) X.env=(do
    let ov<-eval o X.env
    standAt apos.atName
    let(f,first)<-holding [ov] (getMethod ov m pl)
    callWith pos f first (backTo pos (starEach [] X.env)) (backToKw pos (keywordEach [] X.env)))) zR._auto_1):DE X κ (.Call (.Attribute o m apos) [] [] pos) (dD Fs fo ax):=by
 obtain⟨ta,h1,h2⟩:=ho
 refine⟨_,AI h1 ht,λ{G A bo own ρ σ H p Q} r e q=>?_⟩
 exact o8 M hr h2 (λ{G A bo own ρ σ H ps Q} r e q=>by cases e;exact q [] H (aE.refl _) .nil) r e λv H' s z=>q v H' s z
theorem tN{k:Nat}{ps:List Str}{Fs:Nat->List PV->Option PV}{pl:Sem Bool}(M:o6 X.prog X.w X.K X.mg X.base κ false m k ps Fs)(hr:bO k X.A)(ho:DE X κ o fo)(ha:DA X κ (e::es) fs)
  (nI:autoParam (starEach (e::es) X.env=(false,eval e X.env)::starEach es X.env) zR._auto_1)(hpl:autoParam ((backTo pos (starEach es X.env)).any (·.1)=false) zR._auto_1)
  (ht:autoParam (eval (.Call (.Attribute o m apos) (e::es) [] pos) X.env=(do
    let ov<-eval o X.env
    standAt apos.atName
    let(f,first)<-holding [ov] (getMethod ov m pl)
    callWith pos f first (backTo pos (starEach (e::es) X.env)) (backToKw pos (keywordEach [] X.env)))) zR._auto_1):DE X κ (.Call (.Attribute o m apos) (e::es) [] pos) (dD Fs fo fs):=by
 obtain⟨ta,h1,h2⟩:=ho
 obtain⟨t,h3,h4⟩:=ha
 refine⟨_,vm h1 h3 nI hpl ht,λ{G A bo own ρ σ H p Q} r e q=>?_⟩
 exact o8 M hr h2 h4 r e λv H' s z=>q v H' s z
theorem yY{k:Nat}{ps:List Str}{Fs:Nat->List PV->Option PV}{pl:Sem Bool}(M:o6 X.prog X.w X.K X.mg X.base κ true m k ps Fs)(hr:bO k X.A)(ho:DE X κ o fo)(ha:DA X κ (e::es) fs)
  (nI:autoParam (starEach (e::es) X.env=(false,eval e X.env)::starEach es X.env) zR._auto_1)(hpl:autoParam ((backTo pos (starEach es X.env)).any (·.1)=false) zR._auto_1)
  (ht:autoParam (eval (.Call (.Attribute o m apos) (e::es) [] pos) X.env=(do
    let ov<-eval o X.env
    standAt apos.atName
    let(f,first)<-holding [ov] (getMethod ov m pl)
    callWith pos f first (backTo pos (starEach (e::es) X.env)) (backToKw pos (keywordEach [] X.env)))) zR._auto_1):DO X κ (.Call (.Attribute o m apos) (e::es) [] pos) (dD Fs fo fs):=by
 obtain⟨ta,h1,h2⟩:=ho
 obtain⟨t,h3,h4⟩:=ha
 refine⟨_,vm h1 h3 nI hpl ht,λ{G A bo own ρ σ H p Q} r e q=>?_⟩
 exact o8 M hr h2 h4 r e λv H' s z=>q v H' s z
end
theorem walkD2{l:PySem.W.OpenLaw}{n k:Nat}{q:Program}{loose:List Str}{XP:(Str->Option Value)->Heap->Prop}{YP:World->Heap->Prop}{d:DefRec}{K:Params->PySem.W.Frag}{x:Str}{F:List PV->Option PV}
  (hn:l.most=some n)(MW:n<=sizeLine)(N1:d.params.defaults=[])(hr:bO k callerA)
  (hY:∀(w:World) (h:Heap),YP w h->(K w.params).In h)
  (FF:∀(w:World) (mg:Str->Option Value) (fa:Addr) (h:Heap),(K w.params).In h->h.Ns mainGlobals mg->mg d.name=some (.ref fa)->
    ∃(κ:Kl) (fd:FuncData),(∀(s:Shared) (u:Value),BindsTo s fd ⟨[u],[]⟩ [(x,u)])/\
     ∀base:Heap,(K w.params).In base->base.Ns mainGlobals mg->cw l.prog w (K w.params) mg base g7 k fa fd [x] (tE (K w.params) κ false F))
  (hF:∀ns:List Int,ns.length<=n->F [.lst (ns.map .int)]=some (.bl true)):
  PySem.W.WalkO q loose XP YP l.row.toRowW d [] (λf vs=>PySem.call f vs):=by
 refine Att.uG hn N1 λw s₀ s₁ mg mb fa o pm cd doc a vs ns G Y ho hd om Ly IQ hints hlen hg=>?_
 have KX:=hY w _ Y
 obtain⟨κ,fd,hb,ON⟩:=FF w mg fa _ KX G.T.g Ly
 refine Av KX G.T.g G.T.b G.T.builtins G.T.nolimit hg IQ hints (Nat.le_trans hlen MW) hr ON hb (λH hO hS=>?_) λH e s' z=>z
 have e:hide (λ_=>False) H=H:=by
  funext b
  exact bj λz=>z
 refine⟨λ_=>False,[.lst (ns.map .int)],.bl true,λb z=>z.elim,.cons ?_ .nil,hF ns hlen,λv H' s z=>?_⟩
 ·rw[e]
  exact .lst hS (ints_rep ns)
 ·cases(show Rep (K w.params) κ _ v (.bl true)from z)
  rfl
structure Em(K:PySem.W.Frag)(x q:Str)(st:Stmt)(ps:List Str)(f:Addr)(fd:FuncData):Prop where
 F:L2.uH K x q st f fd
 b:L2.Binds K fd ps []
noncomputable def F2(s:Stmt)(j:Nat):Stmt:=match s with
 |.ClassDef _ _ _ b _ _ _ _ _ _ _=>b.getD j (.Pass ⟨0,0,0,0⟩)
 |_=>.Pass ⟨0,0,0,0⟩
theorem JN{α:Type}{us:List α}(h:us.length=1):∃a,us=[a]:=List.length_eq_one_iff.mp h
theorem Mf{α:Type}{us:List α}(h:us.length=2):∃a b,us=[a,b]:=match us,h with|[a,b],_=>⟨a,b,rfl⟩
theorem Mh{α:Type}{us:List α}(h:us.length=3):∃a b c,us=[a,b,c]:=match us,h with|[a,b,c],_=>⟨a,b,c,rfl⟩
theorem Mi{α:Type}{us:List α}(h:us.length=4):∃a b c d,us=[a,b,c,d]:=match us,h with|[a,b,c,d],_=>⟨a,b,c,d,rfl⟩
end L2.D
namespace L2.D
open PySem PySem.Spec PyProof.Rows
open Classical
noncomputable def OS(K:PySem.W.Frag)(l:Addr):It:=
 ⟨λi H=>∃xs x,fQ K H l xs/\xs[i]?=some x,
  λi H v H'=>∃p x,H p=none/\v=.ref p/\H'=upd H p (.tup [.int (i:Nat),x])/\∀xs,fQ K H l xs->xs[i]?=some x,
  λi H=>∃xs,fQ K H l xs/\xs.length<=i⟩
noncomputable def Rq(e it l:Addr)(i:Nat)(h:Heap):Prop:=(∃old,IsEnum h e it (i:Nat) old)/\h.IsListIter it l i
theorem AJ{P:Program}{w:World}{K:PySem.W.Frag}{elts:List Expr}{x1:Nat}{pos:Pos}{e it l:Addr}(ne:e≠it):
  Turn P w K (.Tuple elts x1 pos) (OS K l) [e,it] e (Rq e it l) where
 mem:=by simp
 obj:=λi h st b hb=>by
  obtain⟨⟨old,he⟩,⟨o1,e1,c1,d1⟩⟩:=st
  have kH:b=e\/b=it:=by simpa using hb
  rcases kH with rfl|rfl
  ·exact⟨_,he,λv q=>by cases q⟩
  ·exact⟨_,e1,λv q=>by rw[d1]at q;cases q⟩
 keep:=λi h h' st k=>by
  obtain⟨⟨old,he⟩,h1⟩:=st
  exact⟨⟨old,k _ (by simp) _ he⟩,h1.at λo e=>k _ (by simp) o e⟩
 item:=by
  intro X hP hw hK hc i pins s σ H E I hf st hg
  subst hP hw hK
  obtain⟨xs,x,Ax,hx⟩:=hg
  obtain⟨its,rv,p,OG⟩:=I.list Ax
  obtain⟨u,hu,ru⟩:=rv.get hx
  obtain⟨⟨old,he⟩,h1⟩:=st
  refine wpAny_pyNext_enum_item he h1 p.isList (x:=u) (by simpa using hu) ne λh' a1 a2 a3 a4 a5=>?_
  refine⟨.ref s.heap.objs.size,rfl,wpAny_letOwnedTupleGo_enum (s:={s with heap:=h',toks:=s.toks+1}) a1 λFZ b1 b2=>?_⟩
  have OI:e<s.heap.objs.size:=Heap.lt_size he
  have up:∀b o,b≠e->h'.get? b=some o->FZ.get? b=some o:=λb o hb q=>(b2.2 b hb).trans q
  have kp:∀b o,b∉[e,it]->s.heap.get? b=some o->FZ.get? b=some o:=λb o hb q=>by
   have kH:b≠e/\b≠it:=by simpa using hb
   exact up b o kH.1 (a5 b o kH.1 kH.2 q)
  have CN:=up _ _ (Nat.ne_of_gt OI) a3
  have fr:H s.heap.objs.size=none:=I.dR.fresh (Nat.le_refl _)
  refine⟨.ref s.heap.objs.size,upd H s.heap.objs.size (.tup [.int (i:Nat),x]),?_,rfl,?_,?_,?_⟩
  ·refine I.qS (t':=s.toks+1) (ch:=[e,it]) kp (λb hb=>hf b hb) ?_
   exact⟨⟨by show 2<=sizeLine;decide,⟨_,CN,rfl⟩⟩,[.int (i:Nat) s.toks,u],.cons ⟨_,rfl⟩ (.cons ru .nil),⟨_,CN,rfl,_,rfl⟩⟩
  ·exact⟨_,x,fr,rfl,rfl,λP0 h=>by rw[I.jt h Ax];exact hx⟩
  ·refine⟨⟨u,?_⟩,a2.at λo q=>up _ _ (Ne.symm ne) q⟩
   have:(((i+1:Nat):Int))=(i:Int)+1:=by omega
   show IsEnum FZ e it ((i+1:Nat):Int) u
   rw[this]
   exact b1
  ·intro b hb
   have:b<s.heap.objs.size:=by
    have kH:b=e\/b=it:=by simpa using hb
    obtain⟨o1,e1,_⟩:=h1
    rcases kH with rfl|rfl
    ·exact Heap.lt_size he
    ·exact Heap.lt_size e1
   rw[au (Nat.ne_of_lt this)]
   exact(hf b hb).1
 done:=by
  intro X hP hw hK hc i pins s σ H E I hf st hg
  subst hP hw hK
  obtain⟨xs,Ax,L8⟩:=hg
  obtain⟨its,rv,p,OG⟩:=I.list Ax
  have l1:=rv.length
  obtain⟨⟨old,he⟩,h1⟩:=st
  refine wpAny_pyNext_enum_end (I.ok.hd hc) he h1 p.isList (by simp;omega) λh' k=>⟨rfl,I.yU (t':=s.toks) (ch:=[e,it]) (λb o hb q=>?_) λb hb=>hf b hb⟩
  have kH:b≠e/\b≠it:=by simpa using hb
  exact k b o kH.2 q
 self:=λ_ _ _ _ _ st h=>by
  obtain⟨⟨old,he⟩,_⟩:=st
  exact wpAny_pyIter_enum he h
section
variable{X:Cx}{κ:Kl}{a b:Expr}{fa fb:Den}{elts:List Expr}{x1:Nat}{tp:Pos}
noncomputable def Mj(K:PySem.W.Frag)(ta:TA):TI:=λσ H R=>ta σ H λvs H1=>∃l xs,vs=[.ref l]/\fQ K H1 l xs/\R (OS K l) H1
theorem yZ{ta:TA}{p pos:Pos}(hg:Gl X "enumerate")(hm:X.mg "enumerate" =none)(ha:PA X [a] ta)(hs:autoParam (starEach [a] X.env=[(false,eval a X.env)]) zR._auto_1):
  PI X (.Tuple elts x1 tp) (.Call (.Name "enumerate" p) [a] [] pos) (Mj X.K ta):=by
 intro pins s σ H R I h
 refine Call_ (jq I hg hm PyProof.Rows.boot_enumerate (PyProof.Rows.callWith_type1 (dz (ha pos pins s σ H _ I h) λus s1 bW=>?_) (by rw[hs];rfl) (by rfl)))
 obtain⟨vs,H1,I1,r1,q1⟩:=bW
 obtain⟨l1,xs,rfl,Ax,q⟩:=q1
 obtain⟨u1,rfl,ru⟩:=vals1 r1
 obtain rfl:u1=Value.ref l1:=ru
 obtain⟨its,rv,p1,z1⟩:=I1.list Ax
 refine call_enumerate_list p1.isList λh' he hi lz hk=>?_
 refine wpAny_pyIter_enum (s:={s1 with heap:=h'}) he ?_
 refine⟨s1.heap.objs.size+1,[s1.heap.objs.size+1,s1.heap.objs.size],_,_,H1,rfl,I1.kept (t':=s1.toks) hk,AJ (Nat.succ_ne_self _),⟨⟨_,he⟩,hi⟩,λb hb=>?_,q⟩
 have kH:b=s1.heap.objs.size+1\/b=s1.heap.objs.size:=by simpa using hb
 have hle:s1.heap.objs.size<=b:=by rcases kH with rfl|rfl<;>omega
 exact I1.ET hle (I1.dR.fresh hle)
theorem qW:∀{l:List PV} {k i:Nat},(jF k l)[i]?=(l[i]?).map λx=>PV.tup [.int ((k+i:Nat):Int),x]
 |[],_,_=>by simp[jF]
 |x::l,k,0=>rfl
 |x::l,k,i+1=>by
  show(jF (k+1) l)[i]?=(l[i]?).map _
  rw[qW,show k+1+i=k+(i+1) by omega]
theorem qX:∀{l:List PV} {k:Nat},(jF k l).length=l.length
 |[],_=>rfl
 |x::l,k=>by show(jF (k+1) l).length+1=_;rw[qX];rfl
theorem AK{K:PySem.W.Frag}{Gs:Hp}{A:Addr->Prop}{l1:Addr}{vs:List V}{l:List PV}(h1:SL K Gs l1 vs)(q1:aT K κ (hide A Gs) vs l):tw K κ Gs A (OS K l1) (jF 0 l):=λi H2 s=>by
 have z1:fQ K H2 l1 vs:=(s.sl h1).sq
 refine⟨λp e=>?_,λhl=>⟨vs,z1,?_⟩⟩
 ·rw[qW]at e
  obtain⟨x,e1,rfl⟩:=Option.map_eq_some_iff.mp e
  obtain⟨v,g1,r1⟩:=q1.get e1
  refine⟨⟨vs,v,z1,g1⟩,λz H3 bW=>?_⟩
  obtain⟨p',x',y0,y1,y2,y3⟩:=bW
  subst y1 y2
  have k1:=y3 vs z1
  rw[g1]at k1
  cases k1
  refine⟨bD y0,λB hB sb=>.tup (pY.of ?_) (.cons (by rw[Nat.zero_add];exact .int _) (.cons (r1.mono (sb.trans (aF (bD y0)))) .nil))⟩
  rw[bj λz=>hB _ z y0]
  exact aO
 ·rw[qX]at hl
  rw[q1.length]
  exact hl
theorem CU{p pos:Pos}(ha:DB X κ a fa)(hm:X.mg "enumerate" =none)(hg:autoParam (Gl X "enumerate") zR._auto_1)(hs:autoParam (starEach [a] X.env=[(false,eval a X.env)]) zR._auto_1):
  CI X κ (.Tuple elts x1 tp) (.Call (.Name "enumerate" p) [a] [] pos) (yJ fa):=by
 obtain⟨ta,h1,h2⟩:=ha
 refine⟨_,yZ hg hm (bq h1 cc (by rw[hs];rfl)) hs,λ{G A bo own ρ σ H ps Q} r e q=>?_⟩
 obtain⟨p1,e1,e2⟩:=Option.bind_eq_some_iff.mp e
 obtain⟨l,e5,rfl⟩:=Option.map_eq_some_iff.mp e2
 refine h2 r e1 λv H1 s1 z1=>?_
 cases p1<;>first|(cases e5;done)|skip
 cases e5
 obtain⟨a,vs,rfl,q1,q2⟩:=z1.lst av
 exact⟨_,_,rfl,q1.sq,q _ H1 s1 (AK q1 q2)⟩
end
end L2.D
namespace L2.D
open PySem PySem.Spec PyProof.Rows PySem.SeqAt
open Classical
section
variable{K:PySem.W.Frag}{κ:Kl}{G H:Hp}{A:Addr->Prop}{bo:Nat->Option (Addr×List V)}{own:Nat->Addr}{ρ:bM}{σ:St}{v:V}{p:PV}
theorem qY{wi:TI}{fi:bX}{e:Den}(hi:∀{G A bo own ρ σ H ps Q},R K κ G A bo own ρ σ H->fi ρ=some ps->(∀J H',aE H H'->tw K κ H' (cG A own ρ) J ps->Q J H')->wi σ H Q):
  Ow K κ (w6 K wi (EG K κ e)) (jG fi e):=λ{G A bo own ρ σ H p Q} r e0 q=>by
 obtain⟨ps,e1,e2⟩:=Option.bind_eq_some_iff.mp e0
 have h0:ps.length<=sizeLine/\(kP e ρ ps).map PV.lst=some p:=by
  split at e2
  ·exact⟨by assumption,e2⟩
  ·cases e2
 obtain⟨zs,e3,rfl⟩:=Option.map_eq_some_iff.mp h0.2
 refine hi r e1 λJ H1 s1 hI=>?_
 refine⟨λi m acc H2=>m=ps.length-i/\i<=ps.length/\aE H1 H2/\acc.length<=i/\∃out rest,aT K κ (dX A own ρ H2) acc out/\kP e ρ (ps.drop i)=some rest/\out++rest=zs,
  ⟨ps.length,by simp,Nat.zero_le _,aE.refl _,Nat.zero_le _,[],zs,.nil,by simpa using e3,rfl⟩,?_⟩
 rintro i m acc H2 ⟨rfl,L3,s2,ha,out,rest,q1,q2,q3⟩
 obtain⟨h1,h2⟩:=hI i H2 s2
 have xg:=s1.trans s2
 have r2:=r.mono xg
 by_cases eS:i<ps.length
 ·rw[List.drop_eq_getElem_cons eS]at q2
  obtain⟨h3,h4⟩:=h1 ps[i] (List.getElem?_eq_getElem eS)
  refine .inr ⟨h3,by omega,λy H3 hy=>?_⟩
  obtain⟨s3,q4⟩:=h4 y H3 hy
  have rep:=q4 (cG A own ρ) (λb hb=>r2.Bt hb) (aF s2)
  have Rt:=r2.mono s3
  unfold kP at q2
  split at q2
  ·rename_i heq
   cases heq
  ·rename_i x' y' P0 heq
   injection heq with LD LC
   rw[LD]at rep
   subst LC
   cases rep with
   |tup z1 z2=>
    cases z2 with
    |cons ra z2=>
     cases z2 with
     |cons rb z2=>
      cases z2
      have Ru:=Rt.cons rb
      have r3:=Ru.cons (by rw[dX,fI];exact ra)
      obtain⟨z,e6,e7⟩:=Option.bind_eq_some_iff.mp q2
      obtain⟨ws,e8,rfl⟩:=Option.map_eq_some_iff.mp e7
      refine⟨_,_,_,rfl,yM (av (A:=cG A own ρ)) z1,_,_,_,_,_,_,r3,e6,λv H5 s5 q5=>?_⟩
      rw[dX,fI,fI]at q5
      refine⟨ps.length-(i+1),by omega,rfl,eS,(s2.trans s3).trans s5,by simp;omega,out++[z],ws,?_,e8,by rw[<-q3];simp⟩
      exact(q1.mono (aF (s3.trans s5))).append (.cons q5 .nil)
  ·cases q2
 ·have hn:ps.drop i=[]:=List.drop_eq_nil_of_le (by omega)
  rw[hn]at q2
  cases q2
  rw[List.append_nil]at q3
  subst q3
  refine .inl ⟨h2 (by omega),λp hp=>q _ _ (xg.trans (bD hp)) ?_⟩
  obtain⟨a,ws,l,w1,w2,w3,w4⟩:=r2.vc hp q1
  refine⟨a,ws,l,w1,w2,?_,w4⟩
  cases w1
  exact xg.free hp
end
section
variable{X:Cx}{κ:Kl}{fr:Bool}{sc:Scope}{x z:Str}{px pz tp pos:Pos}{x1:Nat}{elt iter:Expr}{fi:bX}{f:Den}
theorem CV(hi:CI X κ (.Tuple [.Name x px,.Name z pz] x1 tp) iter fi)(ji:Scope)(N0 ys:List Str)(he:∀ex C s H,DE (X.g8 sc x z ys ex C s H) κ elt f)(mL:autoParam (X.env.scope=ji) zR._auto_1)(As:autoParam (X.N=N0) zR._auto_1)(qg:kf ji N0 sc x z ys=true:=by decide+kernel)(hc:autoParam (X.calm=true) zR._auto_1)
  (hs:autoParam (∀x,foldedSetIterable iter X.env x=pure x) zI._auto_1):DO X κ (.ListComp elt [⟨.Tuple [.Name x px,.Name z pz] x1 tp,iter,[],0⟩] sc pos) (jG fi f):=by
 obtain⟨wi,h1,h2⟩:=hi
 exact⟨_,Ce h1 ys (te:=EG X.K κ f) (λex C s H=>(he ex C s H).pe) (by rw[mL,As];exact qg) hc hs,qY h2⟩
theorem CW(i:Nat){y:Str}{py jz:Pos}(hN:X.N.Nodup)(hi:CI X κ (.Tuple [.Name x px,.Name z pz] x1 tp) iter fi)(ji:Scope)(N0 ys:List Str)(he:∀ex C s H,DE (X.g8 sc x z ys ex C s H) κ elt f)(Ca:autoParam (X.N[i]?=some y) zR._auto_1)(hy:autoParam (X.env.scope.names.lookup y=some .local) zR._auto_1)(mL:autoParam (X.env.scope=ji) zR._auto_1)(As:autoParam (X.N=N0) zR._auto_1)(qg:kf ji N0 sc x z ys=true:=by decide+kernel)(hc:autoParam (X.calm=true) zR._auto_1)
  (hs:autoParam (∀x,foldedSetIterable iter X.env x=pure x) zI._auto_1)(Cb:autoParam (swapsWith (.ListComp elt [⟨.Tuple [.Name x px,.Name z pz] x1 tp,iter,[],0⟩] sc pos) (some (.Name y py)) jz.line X.env=pure true) zR._auto_1):
  DS X κ fr (.Assign [.Name y py] (.ListComp elt [⟨.Tuple [.Name x px,.Name z pz] x1 tp,iter,[],0⟩] sc pos) jz) (cK i (jG fi f)):=by
 obtain⟨wi,h1,h2⟩:=hi
 refine⟨_,Cf hN Ca hy h1 ys (te:=EG X.K κ f) (λex C s H=>(he ex C s H).pe) (by rw[mL,As];exact qg) hc hs Cb,λ{G A bo own ρ σ H fl D} r e k=>?_⟩
 obtain⟨p,e1,rfl⟩:=Option.map_eq_some_iff.mp e
 exact qY h2 r e1 λv H' s z=>k _ _ _ ((r.mono s).set (z.rep r))
end
section
variable{X:Cx}{κ:Kl}{fr:Bool}{pos p:Pos}{a b e tg:Expr}{fa fb:Den}{gt:yI}
theorem y6(ha:DB X κ a fa)(hm:X.mg "int" =none)(hg:autoParam (Gl X "int") zR._auto_1)(hs:autoParam (starEach [a] X.env=(false,eval a X.env)::starEach [] X.env) zR._auto_1):DE X κ (.Call (.Name "int" p) [a] [] pos) (aR Ao fa):=by
 obtain⟨ta,h1,h2⟩:=ha
 refine⟨_,qG zY hg hm (by decide+kernel) (bq h1 cc hs) (he:=hs),λ{G A bo own ρ σ H p Q} r e q=>?_⟩
 obtain⟨p1,e1,e2⟩:=Option.bind_eq_some_iff.mp e
 refine h2 r e1 λx H1 s1 b1=>?_
 cases p1<;>first|(cases e2;done)|skip
 ·rename_i k
  cases e2
  rw[b1.bl]
  exact .inr ⟨k,rfl,q _ H1 s1 (.int _)⟩
 ·rename_i k
  cases e2
  rw[b1.int]
  exact .inl ⟨k,rfl,q _ H1 s1 (.int _)⟩
end
end L2.D
namespace L2.D
open PySem PySem.Spec PyProof.Rows PySem.SeqAt
section
variable{X:Cx}{κ:Kl}{fr:Bool}{pos p p2 p3 apos:Pos}{a b e tg:Expr}{fa fb:Den}{gt:yI}
noncomputable def CY(x:Int):Value->Bool
 |.int y _=>y==x
 |_=>false
theorem vo{x:Int}:∀{ns:List Int} {us:List Value},Vals (ns.map V.int) us->x∈ns->∃h:jH x ns<us.length,CY x us[jH x ns]=true/\∀j (hj:j<jH x ns),CY x (us[j]'(Nat.lt_trans hj h))=false
 |[],_,_,h=>nomatch h
 |y::ts,_,.cons ⟨t,ht⟩ r,h=>by
  subst ht
  by_cases e:y=x
  ·subst e
   have z:jH y (y::ts)=0:=by unfold jH;rw[if_pos rfl]
   refine⟨by rw[z];simp,?_,λj hj=>by rw[z]at hj;omega⟩
   simp only[z]
   show(y==y)=true
   simp
  ·have hx:x∈ts:=(List.mem_cons.mp h).resolve_left λz=>e z.symm
   obtain⟨h1,h2,h3⟩:=vo r hx
   have z:jH x (y::ts)=jH x ts+1:=by
    show(if y=x then 0 else jH x ts+1)=_
    rw[if_neg e]
   refine⟨by rw[z];simpa using h1,?_,λj hj=>?_⟩
   ·simp only[z]
    exact h2
   ·cases j with
    |zero=>
     show(y==x)=false
     simpa using e
    |succ j=>
     rw[z]at hj
     exact h3 j (by omega)
theorem CZ{A:Around}{s:Shared}{y x:Int}{t u:Tok}:EqAt A s (.int y t) (.int x u) (y==x):=λprog w E Q h=>wpAny_eqBool_int h
theorem vp:∀{ts:List Int} {us:List Value},Vals (ts.map V.int) us->∀v∈us,∃y t,v=.int y t
 |[],_,.nil,v,h=>nomatch h
 |y::ts,_,.cons ⟨t,ht⟩ r,v,h=>by
  rcases List.mem_cons.mp h with rfl|h
  ·exact⟨y,t,ht⟩
  ·exact vp r v h
theorem AL{ta:TE}{tb:TE}(ha:PE X a ta)(hb:PE X b tb)(fR:autoParam (attributeBase a "index" X.env (eval a X.env)=eval a X.env) zR._auto_1)
  (my:autoParam (((backTo pos (starEach [b] X.env)).all (λx=>!x.1)&&(backToKw pos (keywordEach [] X.env)).all (λx=>x.1.isSome)
    &&decide ([b].length+([]:List Keyword).length+(if([]:List Keyword).isEmpty then 0 else 1)<30))=true) zR._auto_1)
  (fS:autoParam ((apos.endLine==pos.line)=true) zR._auto_1)(hs:autoParam (starEach [b] X.env=(false,eval b X.env)::starEach [] X.env) zR._auto_1):
  PE X (.Call (.Attribute a "index" apos) [b] [] pos) (λσ H Q=>ta σ H λx H1=>∃p ts,x=.ref p/\fQ X.K H1 p (ts.map V.int)/\tb σ H1 λy H2=>∃z,[y]=[V.int z]/\fQ X.K H2 p (ts.map V.int)/\z∈ts/\Q (.int (jH z ts:Nat)) H2):=by
 intro pins s σ H Q I h
 refine wpAny_Call_method_late fR my fS rfl (dz (ha pins s σ H _ I h) λv s1 bW=>?_)
 obtain⟨x,H1,I1,r1,p,ts,ex,hq,q1⟩:=bW
 subst ex
 cases r1
 obtain⟨its,rv,pl,hz⟩:=I1.list hq
 refine⟨"list","list.index",PySem.F.plainAttrs_list,PySem.F.slot_list_index,PySem.F.type_list_index,pl.isList.typeIs,λa e=>by
  cases e
  obtain⟨o,n,h1,h2,h3,h4⟩:=pl
  exact⟨o,h1,h3⟩,?_⟩
 have hA:=bq hb cc hs pos pins s1 σ H1 (λvs H2=>∃z,vs=[.int z]/\fQ X.K H2 p (ts.map V.int)/\z∈ts/\Q (.int (jH z ts:Nat)) H2) I1 q1
 rw[hs]at hA⊢
 refine Calls.callWith_builtin (by rfl) (Calls.evalArgs_plain ?_)
 refine dz hA λus s2 bW=>?_
 obtain⟨vs,H2,I2,r2,z,ez,Hz,hm,q2⟩:=bW
 subst ez
 obtain⟨u,rfl,t,rfl⟩:=vals1 r2
 obtain⟨qh,EI,OM,PZ⟩:=I2.list Hz
 obtain⟨⟨cls,dd,data,sl⟩,ho,hc,n,hd⟩:=OM.isList
 simp only at hc hd
 subst hc hd
 obtain⟨h1,h2,h3⟩:=vo EI hm
 have Og:=EI.length
 have Sw:sizeLine=16777216:=sizeLine_eq
 refine call_meets PySem.F.slot_list_index ⟨_,ho,rfl⟩ PySem.F.entry_list_index (PySem.F.args_list_index_2 _ _) (list_indexAt p qh.toArray n dd sl (.int z t) (CY z) (jH z ts) (by simpa using h1) (by omega) (by simpa using h2) (λj hj L9=>by simpa using h3 j L9)) ⟨ho,λy hy=>?_,?_⟩
 ·obtain⟨y',t',rfl⟩:=vp EI y (by simpa using hy)
  exact CZ
 ·exact⟨.int _,H2,I2.tok _,⟨_,rfl⟩,q2⟩
theorem AM(ha:DB X κ a fa)(hb:DB X κ b fb)(fR:autoParam (attributeBase a "index" X.env (eval a X.env)=eval a X.env) zR._auto_1)
  (my:autoParam (((backTo pos (starEach [b] X.env)).all (λx=>!x.1)&&(backToKw pos (keywordEach [] X.env)).all (λx=>x.1.isSome)
    &&decide ([b].length+([]:List Keyword).length+(if([]:List Keyword).isEmpty then 0 else 1)<30))=true) zR._auto_1)
  (fS:autoParam ((apos.endLine==pos.line)=true) zR._auto_1)(hs:autoParam (starEach [b] X.env=(false,eval b X.env)::starEach [] X.env) zR._auto_1):DE X κ (.Call (.Attribute a "index" apos) [b] [] pos) (ah sT fa fb):=by
 obtain⟨ta,h1,h2⟩:=ha
 obtain⟨tb,h3,h4⟩:=hb
 refine⟨_,AL h1 h3 fR my fS hs,λ{G A bo own ρ σ H p Q} r e q=>?_⟩
 obtain⟨p1,e1,e2⟩:=Option.bind_eq_some_iff.mp e
 obtain⟨p2,e3,e4⟩:=Option.bind_eq_some_iff.mp e2
 (cases p1<;>first|(cases e4;done)|skip)<;>cases p2<;>first|(cases e4;done)|skip
 obtain⟨ts,e5,e6⟩:=Option.bind_eq_some_iff.mp e4
 obtain⟨ok,rfl⟩:=br e6
 refine h2 r e1 λx H1 s1 b1=>?_
 obtain⟨a,vs,rfl,q1,q2⟩:=b1.lst av
 have ev:=tM q2 e5
 subst ev
 refine⟨a,ts,rfl,q1.sq,h4 (r.mono s1) e3 λy H2 s2 b2=>?_⟩
 rw[b2.int]
 exact⟨_,rfl,(s2.sl q1).sq,ok,q _ H2 (s1.trans s2) (.int _)⟩
end
end L2.D
namespace L2.D
open PySem PySem.Spec PyProof.Rows PySem.SeqAt
open Classical
noncomputable def S3(x ra sa:Addr):Addr->Prop:=λb=>b=x\/b=ra\/b=sa
noncomputable def S4(A:Addr->Prop)(x ra sa:Addr):Addr->Prop:=λb=>A b\/S3 x ra sa b
theorem y7{A:Addr->Prop}{x ra sa:Addr}{H H':Hp}(s:aE (hide (S3 x ra sa) H) (hide (S3 x ra sa) H')):aE (hide (S4 A x ra sa) H) (hide (S4 A x ra sa) H'):=λb o e=>by
 obtain⟨h1,h2⟩:=cn e
 have h3:=s b o (by rw[bj λz=>h1 (.inr z)];exact h2)
 rw[bj h1]
 exact(cn h3).2
structure km(K:PySem.W.Frag)(κ:Kl)(A:Addr->Prop)(x dx ra sa:Addr)(t:Tb)(H:Hp):Prop where
 ne:ra≠sa
 ob:∃cv dv,H x=some (.ins (κ.adr 0) dx [(("rows" :Str),.ref ra),(("solved" :Str),.ref sa),(("costs" :Str),cv),(("parts_of_one" :Str),dv)])/\Rep K κ (hide (S4 A x ra sa) H) cv t.cs/\Rep K κ (hide (S4 A x ra sa) H) dv t.dd
 rw:∃kz,H ra=some (.lst kz)/\aT K κ (hide (S4 A x ra sa) H) kz t.rows
 so:∃mN,H sa=some (.lst mN)/\aT K κ (hide (S4 A x ra sa) H) mN t.sol
structure tO(K:PySem.W.Frag)(κ:Kl):Prop where
 fld:κ.fld 0=[("rows" :Str),("solved" :Str),("costs" :Str),("parts_of_one" :Str)]
 cls:yq K (κ.adr 0)
 n1:eI K (κ.adr 0) "rows"
 n2:eI K (κ.adr 0) "solved"
 n3:eI K (κ.adr 0) "costs"
 n4:eI K (κ.adr 0) "parts_of_one"
section
variable{K:PySem.W.Frag}{κ:Kl}{A:Addr->Prop}{x dx ra sa:Addr}{t t':Tb}{G H H':Hp}{ρ:bM}{σ:St}
theorem km.xr(h:km K κ A x dx ra sa t H):x≠ra:=by
 rintro rfl
 obtain⟨cv,dv,h1,_⟩:=h.ob
 obtain⟨kz,h2,_⟩:=h.rw
 rw[h1]at h2
 cases h2
theorem km.xs(h:km K κ A x dx ra sa t H):x≠sa:=by
 rintro rfl
 obtain⟨cv,dv,h1,_⟩:=h.ob
 obtain⟨kz,h2,_⟩:=h.so
 rw[h1]at h2
 cases h2
theorem km.mono(h:km K κ A x dx ra sa t H)(s:aE H H'):km K κ A x dx ra sa t H' where
 ne:=h.ne
 ob:=let⟨cv,dv,h1,h2,h3⟩:=h.ob;⟨cv,dv,s _ _ h1,h2.mono (aF s),h3.mono (aF s)⟩
 rw:=let⟨kz,h1,h2⟩:=h.rw;⟨kz,s _ _ h1,h2.mono (aF s)⟩
 so:=let⟨mN,h1,h2⟩:=h.so;⟨mN,s _ _ h1,h2.mono (aF s)⟩
theorem km.rep(C:tO K κ)(h:km K κ A x dx ra sa t H):Rep K κ H (.ref x) (cX t):=by
 obtain⟨cv,dv,h1,h2,h3⟩:=h.ob
 obtain⟨kz,h4,h5⟩:=h.rw
 obtain⟨mN,h6,h7⟩:=h.so
 refine .ins (c:=0) (dx:=dx) (vs:=[.ref ra,.ref sa,cv,dv]) ?_ (by rw[C.fld];rfl) ?_
 ·rw[C.fld]
  exact h1
 ·exact .cons (.lst (SL.of h4) (h5.mono av)) (.cons (.lst (SL.of h6) (h7.mono av)) (.cons (h2.mono av) (.cons (h3.mono av) .nil)))
theorem km.OT(C:tO K κ)(h:km K κ A x dx ra sa t H)(nx:¬A x)(nr:¬A ra)(ns:¬A sa):Rep K κ (hide A H) (.ref x) (cX t):=by
 obtain⟨cv,dv,h1,h2,h3⟩:=h.ob
 obtain⟨kz,h4,h5⟩:=h.rw
 obtain⟨mN,h6,h7⟩:=h.so
 have s:aE (hide (S4 A x ra sa) H) (hide A H):=cQ (λ_ _ z=>z) λb z _=>.inl z
 refine .ins (c:=0) (dx:=dx) (vs:=[.ref ra,.ref sa,cv,dv]) ?_ (by rw[C.fld];rfl) ?_
 ·rw[C.fld,bj nx]
  exact h1
 ·exact .cons (.lst (SL.of (by rw[bj nr];exact h4)) (h5.mono s)) (.cons (.lst (SL.of (by rw[bj ns];exact h6)) (h7.mono s)) (.cons (h2.mono s) (.cons (h3.mono s) .nil)))
theorem km.al(h:km K κ A x dx ra sa t H){b:Addr}(hb:S3 x ra sa b):H b≠none:=by
 rcases hb with rfl|rfl|rfl
 ·obtain⟨cv,dv,h1,_⟩:=h.ob
  rw[h1]
  simp
 ·obtain⟨kz,h1,_⟩:=h.rw
  rw[h1]
  simp
 ·obtain⟨kz,h1,_⟩:=h.so
  rw[h1]
  simp
structure RT(K:PySem.W.Frag)(κ:Kl)(G:Hp)(A:Addr->Prop)(x dx ra sa:Addr)(t:Tb)(ρ:bM)(σ:St)(H:Hp):Prop where
 tab:km K κ A x dx ra sa t H
 self:σ[0]?=some (some (.ref x))
 zero:ρ[0]?=some .un
 sh:∀(i:Nat) p,ρ[i]?=some (.sh p)->∃v,σ[i]?=some (some v)/\Rep K κ (hide (S4 A x ra sa) H) v p
 pl:∀(i:Nat) s,ρ[i]?=some s->s=.un\/∃p,s=.sh p
 len:σ.length=ρ.length
 al:∀b,A b->H b≠none
 fr:aE (hide (S3 x ra sa) G) (hide (S3 x ra sa) H)
theorem RT.mono(r:RT K κ G A x dx ra sa t ρ σ H)(s:aE H H'):RT K κ G A x dx ra sa t ρ σ H' where
 tab:=r.tab.mono s
 self:=r.self
 zero:=r.zero
 sh:=λi p e=>let⟨v,h1,h2⟩:=r.sh i p e;⟨v,h1,h2.mono (aF s)⟩
 pl:=r.pl
 len:=r.len
 al:=λb h z=>by
  cases e:H b with
  |none=>exact r.al b h e
  |some o=>rw[s _ _ e]at z;cases z
 fr:=r.fr.trans (aF s)
theorem RT.set(r:RT K κ G A x dx ra sa t ρ σ H){i:Nat}(hi:i≠0){v:V}{p:PV}(z:Rep K κ (hide (S4 A x ra sa) H) v p):RT K κ G A x dx ra sa t (ρ.set i (.sh p)) (σ.set i (some v)) H where
 tab:=r.tab
 self:=by rw[List.getElem?_set_ne hi];exact r.self
 zero:=by rw[List.getElem?_set_ne hi];exact r.zero
 sh:=λj q e=>by
  by_cases hj:i=j
  ·subst hj
   rw[List.getElem?_set]at e
   rw[if_pos rfl]at e
   split at e
   ·rename_i hl
    cases e
    refine⟨v,?_,z⟩
    rw[List.getElem?_set,if_pos rfl,if_pos (by rw[r.len];exact hl)]
   ·cases e
  ·rw[List.getElem?_set_ne hj]at e
   obtain⟨w,h1,h2⟩:=r.sh j q e
   exact⟨w,by rw[List.getElem?_set_ne hj];exact h1,h2⟩
 pl:=λj s e=>by
  by_cases hj:i=j
  ·subst hj
   rw[List.getElem?_set,if_pos rfl]at e
   split at e
   ·cases e
    exact .inr ⟨_,rfl⟩
   ·cases e
  ·rw[List.getElem?_set_ne hj]at e
   exact r.pl j s e
 len:=by rw[List.length_set,List.length_set,r.len]
 al:=r.al
 fr:=r.fr
theorem F3:hide (λ_=>False) H=H:=by
 funext b
 exact bj λz=>z
theorem RT.r(C:tO K κ)(r:RT K κ G A x dx ra sa t ρ σ H):R K κ H (λ_=>False) (λ_=>none) (λ_=>0) (ck t ρ) σ H/\cG (λ_=>False) (λ_=>0) (ck t ρ)=λ_=>False:=by
 have h0:0<ρ.length:=(List.getElem?_eq_some_iff.mp r.zero).1
 have no:∀{i:Nat} {s:Slot},(ck t ρ)[i]?=some s->(i=0/\s=.sh (cX t))\/(i≠0/\ρ[i]?=some s/\(s=.un\/∃p,s=.sh p)):=λ{i s} e=>by
  unfold ck at e
  by_cases hi:0=i
  ·subst hi
   rw[List.getElem?_set,if_pos rfl,if_pos h0]at e
   exact .inl ⟨rfl,(Option.some.inj e).symm⟩
  ·rw[List.getElem?_set_ne hi]at e
   exact .inr ⟨Ne.symm hi,e,r.pl i s e⟩
 have p8:∀{i:Nat} {l:Cn},(ck t ρ)[i]?≠some (.own l):=λ{i l} e=>by
  rcases no e with⟨_,z⟩|⟨_,_,z|⟨p,z⟩⟩<;>cases z
 have hh:cG (λ_=>False) (λ_=>0) (ck t ρ)=λ_=>False:=by
  funext b
  refine propext ⟨λz=>?_,λz=>z.elim⟩
  rcases z with z|⟨j,m,z1,z2⟩
  ·exact z
  ·exact p8 z1
 refine⟨⟨λb h=>h.elim,λi a vs e=>(by cases e),λ_ _ z=>z,λi p e=>?_,λi l e=>absurd e p8,λi j l m e=>absurd e p8,λi l e=>?_,?_⟩,hh⟩
 ·rw[dX,hh,F3]
  rcases no e with⟨h1,h2⟩|⟨h1,h2,_⟩
  ·subst h1
   cases h2
   exact⟨_,r.self,r.tab.rep C⟩
  ·obtain⟨v,h3,h4⟩:=r.sh i p h2
   exact⟨v,h3,h4.mono av⟩
 ·rcases no e with⟨_,z⟩|⟨_,_,z|⟨p,z⟩⟩<;>cases z
 ·unfold ck
  rw[List.length_set,r.len]
theorem dG{b:Addr}{o:HO}(h:S3 x ra sa b):hide (S4 A x ra sa) (upd H b o)=hide (S4 A x ra sa) H:=lJ (.inr h)
theorem i6{b:Addr}{o:HO}(h:S3 x ra sa b):hide (S3 x ra sa) (upd H b o)=hide (S3 x ra sa) H:=lJ h
theorem km.tP(h:km K κ A x dx ra sa t H){vs:List V}{l:List PV}(z:aT K κ (hide (S4 A x ra sa) H) vs l):km K κ A x dx ra sa {t with rows:=l} (upd H ra (.lst vs)):=by
 have e:hide (S4 A x ra sa) (upd H ra (.lst vs))=hide (S4 A x ra sa) H:=dG (.inr (.inl rfl))
 refine⟨h.ne,?_,⟨vs,aO,by rw[e];exact z⟩,?_⟩
 ·obtain⟨cv,dv,h1,h2,h3⟩:=h.ob
  exact⟨cv,dv,by rw[au h.xr];exact h1,by rw[e];exact h2,by rw[e];exact h3⟩
 ·obtain⟨mN,h1,h2⟩:=h.so
  exact⟨mN,by rw[au (Ne.symm h.ne)];exact h1,by rw[e];exact h2⟩
theorem km.xn(h:km K κ A x dx ra sa t H){vs:List V}{l:List PV}(z:aT K κ (hide (S4 A x ra sa) H) vs l):km K κ A x dx ra sa {t with sol:=l} (upd H sa (.lst vs)):=by
 have e:hide (S4 A x ra sa) (upd H sa (.lst vs))=hide (S4 A x ra sa) H:=dG (.inr (.inr rfl))
 refine⟨h.ne,?_,?_,⟨vs,aO,by rw[e];exact z⟩⟩
 ·obtain⟨cv,dv,h1,h2,h3⟩:=h.ob
  exact⟨cv,dv,by rw[au h.xs];exact h1,by rw[e];exact h2,by rw[e];exact h3⟩
 ·obtain⟨mN,h1,h2⟩:=h.rw
  exact⟨mN,by rw[au h.ne];exact h1,by rw[e];exact h2⟩
theorem km.vq(h:km K κ A x dx ra sa t H){cv dv:V}{cs dd:PV}(z1:Rep K κ (hide (S4 A x ra sa) H) cv cs)(z2:Rep K κ (hide (S4 A x ra sa) H) dv dd):km K κ A x dx ra sa {t with cs:=cs,dd:=dd} (upd H x (.ins (κ.adr 0) dx [(("rows" :Str),.ref ra),(("solved" :Str),.ref sa),(("costs" :Str),cv),(("parts_of_one" :Str),dv)])):=by
 have e:∀o,hide (S4 A x ra sa) (upd H x o)=hide (S4 A x ra sa) H:=λo=>dG (.inl rfl)
 refine⟨h.ne,⟨cv,dv,aO,by rw[e];exact z1,by rw[e];exact z2⟩,?_,?_⟩
 ·obtain⟨mN,h1,h2⟩:=h.rw
  exact⟨mN,by rw[au (Ne.symm h.xr)];exact h1,by rw[e];exact h2⟩
 ·obtain⟨mN,h1,h2⟩:=h.so
  exact⟨mN,by rw[au (Ne.symm h.xs)];exact h1,by rw[e];exact h2⟩
theorem RT.put(r:RT K κ G A x dx ra sa t ρ σ H){b:Addr}{o:HO}(hb:S3 x ra sa b)(T:km K κ A x dx ra sa t' (upd H b o)):RT K κ G A x dx ra sa t' ρ σ (upd H b o) where
 tab:=T
 self:=r.self
 zero:=r.zero
 sh:=λi p e=>by rw[dG hb];exact r.sh i p e
 pl:=r.pl
 len:=r.len
 al:=λc h=>by
  by_cases e:c=b
  ·rw[e,aO]
   simp
  ·rw[au e]
   exact r.al c h
 fr:=by rw[i6 hb];exact r.fr
theorem RT.new(C:tO K κ)(r:RT K κ G A x dx ra sa t ρ σ H){v:V}{p:PV}(f:allFlat p=true)(z:OR K κ (cG (λ_=>False) (λ_=>0) (ck t ρ)) H H' v p):Rep K κ (hide (S4 A x ra sa) H') v p:=by
 obtain⟨a,vs,l,rfl,rfl,h1,h2,h3⟩:=z
 have ha:¬S4 A x ra sa a:=λw=>w.elim (λw=>r.al a w h1) λw=>r.tab.al w h1
 refine .lst (SL.of (by rw[bj ha];exact h2)) ?_
 have g:∀{H1 H2:Hp} {vs:List V} {l:List PV},l.all flat=true->aT K κ H1 vs l->aT K κ H2 vs l:=by
  intro H1 H2 vs l hl q
  induction vs generalizing l with
  |nil=>cases q;exact .nil
  |cons v vs ih=>
   cases q with
   |cons q1 q2=>
    rw[List.all_cons,Bool.and_eq_true]at hl
    exact .cons (Rep.flat hl.1 q1) (ih hl.2 q2)
 exact g f h3
end
theorem d8{α:Type}{c:Prop}[Decidable c]{o:Option α}{z:α}(h:(if c then o else none)=some z):c/\o=some z:=by
 by_cases hc:c
 ·rw[if_pos hc]at h
  exact⟨hc,h⟩
 ·rw[if_neg hc]at h
  cases h
theorem qZ{K:PySem.W.Frag}{κ:Kl}{H1 H2:Hp}:∀{vs:List V} {l:List PV},l.all flat=true->aT K κ H1 vs l->aT K κ H2 vs l
 |[],_,_,.nil=>.nil
 |_::_,_,h,.cons q1 q2=>by
  rw[List.all_cons,Bool.and_eq_true]at h
  exact .cons (Rep.flat h.1 q1) (qZ h.2 q2)
noncomputable def P4(K:PySem.W.Frag)(κ:Kl)(ts:TS)(g:eu):Prop:=
 ∀{G A x dx ra sa t ρ σ H t' ρ' D},RT K κ G A x dx ra sa t ρ σ H->g t ρ=some (t',ρ')->(∀σ' H',RT K κ G A x dx ra sa t' ρ' σ' H'->D.nx σ' H')->ts D σ H
noncomputable def MS(X:Cx)(κ:Kl)(st:Stmt)(g:eu):Prop:=∃ts,PS X st ts/\P4 X.K κ ts g
noncomputable def EJ(X:Cx)(κ:Kl)(st:List Stmt)(g:eu):Prop:=∃ts,rS X st ts/\P4 X.K κ ts g
section
variable{X:Cx}{κ:Kl}{st:Stmt}{rest body OU:List Stmt}{g g':eu}{a b c e kk:Expr}{es:List Expr}{f fk fa:Den}{fs:bX}{ft:cD}{pos p1 p2 p3 sp:Pos}{y:Str}{py:Pos}
theorem F4:EJ X κ [] Hu:=⟨_,rV,λ{G A x dx ra sa t ρ σ H t' ρ' D} r e k=>by cases e;exact k σ H r⟩
theorem iP(h1:MS X κ st g)(h2:EJ X κ rest g'):EJ X κ (st::rest) (sU g g'):=by
 obtain⟨t1,a1,a2⟩:=h1
 obtain⟨t2,b1,b2⟩:=h2
 refine⟨_,dA a1 b1,λ{G A x dx ra sa t ρ σ H t' ρ' D} r e k=>?_⟩
 obtain⟨⟨t1,ρ1⟩,e1,e2⟩:=Option.bind_eq_some_iff.mp e
 exact a2 r e1 λσ' H' r'=>b2 r' e2 k
theorem lQ(h1:MS X κ st g):EJ X κ [st] g:=let⟨_,a1,a2⟩:=h1;⟨_,j6 a1,a2⟩
theorem y8(C:tO X.K κ)(i:Nat)(hN:X.N.Nodup)(he:DE X κ e f)(hi:autoParam (X.N[i]?=some y) zR._auto_1)(F5:autoParam (i≠0) zD._auto_1)(hx:autoParam (Loc X.env.scope y) zL._auto_1)(hs:autoParam (swapsWith e (some (.Name y py)) pos.line X.env=pure false) zR._auto_1)
  (hf:autoParam (X.fn y=true\/X.env.scope.names.lookup y=some .local) zF._auto_1):MS X κ (.Assign [.Name y py] e pos) (va i f):=by
 obtain⟨te,h1,h2⟩:=he
 refine⟨_,oq hN hi hx h1 hs hf,λ{G A x dx ra sa t ρ σ H t' ρ' D} r e k=>?_⟩
 obtain⟨p,e1,e2⟩:=Option.bind_eq_some_iff.mp e
 obtain⟨C0,e3⟩:=br e2
 cases e3
 refine h2 (r.r C).1 e1 λv H' s z=>?_
 exact k _ _ ((r.mono s).set F5 (Rep.flat C0 z))
theorem F6(C:tO X.K κ)(i:Nat)(hN:X.N.Nodup)(hk:DB X κ kk fk)(hi:autoParam (X.N[i]?=some y) zR._auto_1)(h0:autoParam (X.N[0]?=some ("self" :Str)) zR._auto_1)(F5:autoParam (i≠0) zD._auto_1)(hx:autoParam (Loc X.env.scope y) zL._auto_1)(hv:autoParam (uA X.env.scope "self") zV._auto_1)
  (hs:autoParam (swapsWith (.Subscript (.Attribute (.Name "self" p1) "rows" p2) kk p3) (some (.Name y py)) pos.line X.env=pure false) zR._auto_1)
  (hf:autoParam (X.fn y=true\/X.env.scope.names.lookup y=some .local) zF._auto_1)
  (hb:autoParam (attributeBase (.Name "self" p1) "rows" X.env (eval (.Name "self" p1) X.env)=eval (.Name "self" p1) X.env) zR._auto_1)(hp:r9 kk:=by intro _ _;rfl):MS X κ (.Assign [.Name y py] (.Subscript (.Attribute (.Name "self" p1) "rows" p2) kk p3) pos) (Cq i fk):=by
 obtain⟨tk,h1,h2⟩:=hk
 refine⟨_,oq hN hi hx (Hg yt (mr (dh h0 hv) hb) h1 hp) hs hf,λ{G A x dx ra sa t ρ σ H t' ρ' D} r e k=>?_⟩
 obtain⟨p,e1,e2⟩:=Option.bind_eq_some_iff.mp e
 obtain⟨j,e3,e4⟩:=Option.bind_eq_some_iff.mp e2
 obtain⟨q,e5,e6⟩:=Option.map_eq_some_iff.mp e4
 cases e6
 cases p<;>first|(cases e3;done)|skip
 cases e3
 obtain⟨cv,dv,o1,_,_⟩:=r.tab.ob
 refine⟨_,r.self,x,_,dx,_,.ref ra,rfl,o1,C.cls,C.n1,rfl,h2 (r.r C).1 e1 λv H' s z=>?_⟩
 obtain⟨kz,w1,w2⟩:=(r.mono s).tab.rw
 obtain⟨n,e7,e8⟩:=Option.bind_eq_some_iff.mp e5
 obtain⟨v',e9,z9⟩:=w2.get e8
 refine⟨ra,kz,j,v',rfl,z.int,fQ.of w1,?_,k _ _ ((r.mono s).set F5 z9)⟩
 unfold Hf
 rw[w2.length,show Kr t.rows.length j=some n from e7]
 exact e9
theorem JO(C:tO X.K κ)(hk:DB X κ kk fk)(he:DO X κ e f)(h0:autoParam (X.N[0]?=some ("self" :Str)) zR._auto_1)(hv:autoParam (uA X.env.scope "self") zV._auto_1)
  (hb:autoParam (attributeBase (.Name "self" p1) "rows" X.env (eval (.Name "self" p1) X.env)=eval (.Name "self" p1) X.env) zR._auto_1)
  (ha:autoParam (∀v,assign (.Subscript (.Attribute (.Name "self" p1) "rows" p2) kk sp) X.env v=(do
    let ov<-holding [v] (eval (.Attribute (.Name "self" p1) "rows" p2) X.env)
    let iv<-holding [v,ov] (eval kk X.env)
    standAt sp
    holding [v,ov,iv] (setItem ov iv v)
    release [v,ov,iv] [])) zI._auto_1)
  (hs:autoParam (swapsWithSole [.Subscript (.Attribute (.Name "self" p1) "rows" p2) kk sp] e pos.line X.env=pure false) zR._auto_1)(hw:autoParam (swappedStores [.Subscript (.Attribute (.Name "self" p1) "rows" p2) kk sp] e X.env=pure none) zR._auto_1)
  (LI:autoParam ((assignEach [.Subscript (.Attribute (.Name "self" p1) "rows" p2) kk sp] X.env).map (·.2)=[assign (.Subscript (.Attribute (.Name "self" p1) "rows" p2) kk sp) X.env]) zR._auto_1):MS X κ (.Assign [.Subscript (.Attribute (.Name "self" p1) "rows" p2) kk sp] e pos) (Fu fk f):=by
 obtain⟨te,h1,h2⟩:=he
 obtain⟨tk,h3,h4⟩:=hk
 refine⟨_,BB h1 (BA (mr (dh h0 hv) hb) h3 set_list ha) hs hw LI,λ{G A x dx ra sa t ρ σ H t' ρ' D} r e k=>?_⟩
 obtain⟨q,e1,e2⟩:=Option.bind_eq_some_iff.mp e
 obtain⟨C0,e2⟩:=d8 e2
 obtain⟨p,e3,e4⟩:=Option.bind_eq_some_iff.mp e2
 obtain⟨j,e5,e6⟩:=Option.bind_eq_some_iff.mp e4
 obtain⟨n,e7,e8⟩:=Option.map_eq_some_iff.mp e6
 cases e8
 cases p<;>first|(cases e5;done)|skip
 cases e5
 refine h2 (r.r C).1 e1 λv H1 s1 z1=>?_
 have zn:=r.new C C0 z1
 have r1:=r.mono s1
 obtain⟨cv,dv,o1,_,_⟩:=r1.tab.ob
 refine⟨_,r1.self,x,_,dx,_,.ref ra,rfl,o1,C.cls,C.n1,rfl,h4 (r1.r C).1 e3 λkv H2 s2 b2=>?_⟩
 have r2:=r1.mono s2
 obtain⟨kz,w1,w2⟩:=r2.tab.rw
 refine⟨ra,kz,j,n,rfl,b2.int,w1,?_,k _ _ (r2.put (.inr (.inl rfl)) (r2.tab.tP (w2.set (zn.mono (aF s2)) n)))⟩
 rw[w2.length]
 exact e7
theorem JP(C:tO X.K κ)(hk:DB X κ kk fk)(he:DE X κ e f)(h0:autoParam (X.N[0]?=some ("self" :Str)) zR._auto_1)(hv:autoParam (uA X.env.scope "self") zV._auto_1)
  (hb:autoParam (attributeBase (.Name "self" p1) "solved" X.env (eval (.Name "self" p1) X.env)=eval (.Name "self" p1) X.env) zR._auto_1)
  (ha:autoParam (∀v,assign (.Subscript (.Attribute (.Name "self" p1) "solved" p2) kk sp) X.env v=(do
    let ov<-holding [v] (eval (.Attribute (.Name "self" p1) "solved" p2) X.env)
    let iv<-holding [v,ov] (eval kk X.env)
    standAt sp
    holding [v,ov,iv] (setItem ov iv v)
    release [v,ov,iv] [])) zI._auto_1)
  (hs:autoParam (swapsWithSole [.Subscript (.Attribute (.Name "self" p1) "solved" p2) kk sp] e pos.line X.env=pure false) zR._auto_1)(hw:autoParam (swappedStores [.Subscript (.Attribute (.Name "self" p1) "solved" p2) kk sp] e X.env=pure none) zR._auto_1)
  (LI:autoParam ((assignEach [.Subscript (.Attribute (.Name "self" p1) "solved" p2) kk sp] X.env).map (·.2)=[assign (.Subscript (.Attribute (.Name "self" p1) "solved" p2) kk sp) X.env]) zR._auto_1):MS X κ (.Assign [.Subscript (.Attribute (.Name "self" p1) "solved" p2) kk sp] e pos) (Jr fk f):=by
 obtain⟨te,h1,h2⟩:=he
 obtain⟨tk,h3,h4⟩:=hk
 refine⟨_,BB h1 (BA (mr (dh h0 hv) hb) h3 set_list ha) hs hw LI,λ{G A x dx ra sa t ρ σ H t' ρ' D} r e k=>?_⟩
 obtain⟨q,e1,e2⟩:=Option.bind_eq_some_iff.mp e
 obtain⟨C0,e2⟩:=d8 e2
 obtain⟨p,e3,e4⟩:=Option.bind_eq_some_iff.mp e2
 obtain⟨j,e5,e6⟩:=Option.bind_eq_some_iff.mp e4
 obtain⟨n,e7,e8⟩:=Option.map_eq_some_iff.mp e6
 cases e8
 cases p<;>first|(cases e5;done)|skip
 cases e5
 refine h2 (r.r C).1 e1 λv H1 s1 z1=>?_
 have r1:=r.mono s1
 obtain⟨cv,dv,o1,_,_⟩:=r1.tab.ob
 refine⟨_,r1.self,x,_,dx,_,.ref sa,rfl,o1,C.cls,C.n2,rfl,h4 (r1.r C).1 e3 λkv H2 s2 b2=>?_⟩
 have r2:=r1.mono s2
 obtain⟨kz,w1,w2⟩:=r2.tab.so
 refine⟨sa,kz,j,n,rfl,b2.int,w1,?_,k _ _ (r2.put (.inr (.inr rfl)) (r2.tab.xn (w2.set (Rep.flat C0 z1) n)))⟩
 rw[w2.length]
 exact e7
theorem C1(C:tO X.K κ)(he:DO X κ e f)(h0:autoParam (X.N[0]?=some ("self" :Str)) zR._auto_1)(hv:autoParam (uA X.env.scope "self") zV._auto_1)
  (hs:autoParam (swapsWith e (some (.Attribute (.Name "self" p1) "costs" p2)) pos.line X.env=pure false) zR._auto_1):MS X κ (.Assign [.Attribute (.Name "self" p1) "costs" p2] e pos) (sV f):=by
 obtain⟨te,h1,h2⟩:=he
 refine⟨_,mv (dh h0 hv) h1 hs,λ{G A x dx ra sa t ρ σ H t' ρ' D} r e k=>?_⟩
 obtain⟨q,e1,e2⟩:=Option.bind_eq_some_iff.mp e
 obtain⟨C0,e2⟩:=br e2
 cases e2
 refine h2 (r.r C).1 e1 λv H1 s1 z1=>?_
 have zn:=r.new C C0 z1
 have r1:=r.mono s1
 obtain⟨cv,dv,o1,o2,o3⟩:=r1.tab.ob
 exact⟨_,r1.self,x,_,dx,_,rfl,o1,C.cls,C.n3,(show(4:Nat)<1000 by decide),k _ _ (r1.put (.inl rfl) (r1.tab.vq zn o3))⟩
theorem C2(C:tO X.K κ)(he:DE X κ e f)(h0:autoParam (X.N[0]?=some ("self" :Str)) zR._auto_1)(hv:autoParam (uA X.env.scope "self") zV._auto_1)
  (hs:autoParam (swapsWith e (some (.Attribute (.Name "self" p1) "parts_of_one" p2)) pos.line X.env=pure false) zR._auto_1):MS X κ (.Assign [.Attribute (.Name "self" p1) "parts_of_one" p2] e pos) (sW f):=by
 obtain⟨te,h1,h2⟩:=he
 refine⟨_,mv (dh h0 hv) h1 hs,λ{G A x dx ra sa t ρ σ H t' ρ' D} r e k=>?_⟩
 obtain⟨q,e1,e2⟩:=Option.bind_eq_some_iff.mp e
 obtain⟨C0,e2⟩:=br e2
 cases e2
 refine h2 (r.r C).1 e1 λv H1 s1 z1=>?_
 have r1:=r.mono s1
 obtain⟨cv,dv,o1,o2,o3⟩:=r1.tab.ob
 exact⟨_,r1.self,x,_,dx,_,rfl,o1,C.cls,C.n4,(show(4:Nat)<1000 by decide),k _ _ (r1.put (.inl rfl) (r1.tab.vq o2 (Rep.flat C0 z1)))⟩
theorem Ml(C:tO X.K κ)(hc:DT X κ c ft)(ha:EJ X κ body g)(hb:EJ X κ OU g'):MS X κ (.If c body OU pos) (Ou ft g g'):=by
 obtain⟨tc,h1,h2⟩:=hc
 obtain⟨t1,a1,a2⟩:=ha
 obtain⟨t2,b1,b2⟩:=hb
 refine⟨_,Bz h1 a1 b1,λ{G A x dx ra sa t ρ σ H t' ρ' D} r e k=>?_⟩
 obtain⟨q,e1,e2⟩:=Option.bind_eq_some_iff.mp e
 refine h2 (r.r C).1 e1 λH' s=>?_
 cases q with
 |true=>
  rw[if_pos rfl]at e2⊢
  exact a2 (r.mono s) e2 k
 |false=>
  rw[if_neg Bool.false_ne_true]at e2⊢
  exact b2 (r.mono s) e2 k
end
theorem vt{n i:Nat}(h:i<n):(cx 0 n).drop i=.int (0+(i:Nat))::(cx 0 n).drop (i+1):=by
 have hl:i<(cx 0 n).length:=by unfold cx;simpa using h
 rw[List.drop_eq_getElem_cons hl]
 congr 1
 unfold cx
 simp
theorem xo{n:Nat}:(cx 0 n).drop n=[]:=List.drop_eq_nil_of_le (by unfold cx;simp)
noncomputable def Nj(K:PySem.W.Frag)(κ:Kl)(F:Tb->List PV->Option Tb):Sp:=λvs H Q _=>∃(A:Addr->Prop) (x dx ra sa:Addr) (t t':Tb) (ws:List V) (ps:List PV),vs=.ref x::ws/\(∀b,A b->H b≠none)/\km K κ A x dx ra sa t H/\aT K κ (hide (S4 A x ra sa) H) ws ps/\F t ps=some t'/\
 ∀H',aE (hide (S3 x ra sa) H) (hide (S3 x ra sa) H')->km K κ A x dx ra sa t' H'->Q .non H'
theorem F7{K:PySem.W.Frag}{κ:Kl}{A:Addr->Prop}{x dx ra sa:Addr}{t:Tb}{H H':Hp}(s:aE (hide (S3 x ra sa) H) (hide (S3 x ra sa) H'))(T:km K κ A x dx ra sa t H')(al:∀b,A b->H b≠none){b:Addr}(hb:A b):H' b≠none:=by
 by_cases h:S3 x ra sa b
 ·exact T.al h
 ·cases e:H b with
  |none=>exact absurd e (al b hb)
  |some o=>
   have:=s b o (by rw[bj h];exact e)
   rw[(cn this).2]
   simp
section
variable{X:Cx}{κ:Kl}{st:Stmt}{rest body OU:List Stmt}{g g':eu}{a b c e kk:Expr}{es:List Expr}{f fk fa:Den}{fs:bX}{ft:cD}{pos p1 p2 p3 apos cO:Pos}{y m:Str}{py:Pos}
theorem JQ(C:tO X.K κ)(i:Nat)(hN:X.N.Nodup)(ha:DB X κ a fa)(hm:X.mg "range" =none)(hb:EJ X κ body g)(hi:autoParam (X.N[i]?=some y) zR._auto_1)(F5:autoParam (i≠0) zD._auto_1)(hx:autoParam (Loc X.env.scope y) zL._auto_1)
  (hf:autoParam (X.fn y=true\/X.env.scope.names.lookup y=some .local) zF._auto_1)
  (hg:autoParam (Gl X "range") zR._auto_1)(hs:autoParam (starEach [a] X.env=[(false,eval a X.env)]) zR._auto_1)(hp:PassesOwn (model X.prog X.w) X.A X.env X.xe:=by exact PassesOwn.never)(hc:autoParam (X.calm=true) zR._auto_1)
  (OV:autoParam (∀x,foldedSetIterable (.Call (.Name "range" p1) [a] [] p2) X.env x=pure x) zI._auto_1):MS X κ (.For (.Name y py) (.Call (.Name "range" p1) [a] [] p2) body [] pos) (Fv i fa g):=by
 obtain⟨te,h1,h2⟩:=ha
 obtain⟨tb,h3,h4⟩:=hb
 refine⟨_,wA hp hc (mj hg hm (bq h1 cc hs) hs) (j8 hN hi hx hf) h3 OV,λ{G A x dx ra sa t ρ σ H t' ρ' D} r e k=>?_⟩
 obtain⟨ps,e1,e2⟩:=Option.bind_eq_some_iff.mp e
 refine JB h2 (r.r C).1 e1 λn H' s e'=>?_
 subst e'
 refine zX (n:=n) (λj σ H=>j<=n/\∃t ρ,RT X.K κ G A x dx ra sa t ρ σ H/\yK i g ((cx 0 n).drop j) t ρ=some (t',ρ')) ⟨Nat.zero_le _,t,ρ,r.mono s,by simpa using e2⟩ (λj σ H hj ⟨_,t,ρ,r,e⟩=>?_) (λσ H ⟨_,t,ρ,r,e⟩=>?_)
 ·rw[vt hj]at e
  obtain⟨⟨t1,ρ1⟩,e3,e4⟩:=Option.bind_eq_some_iff.mp e
  exact h4 (r.set F5 (.int _)) e3 λσ' H' r'=>⟨hj,t1,ρ1,r',e4⟩
 ·rw[xo]at e
  cases e
  exact k _ _ r
theorem C3(C:tO X.K κ)(n:Nat)(hc:DT X κ c ft)(hb:EJ X κ body g)(hp:PassesOwn (model X.prog X.w) X.A X.env X.xe:=by exact PassesOwn.never):MS X κ (.While c body [] pos) (eX ft g n):=by
 obtain⟨tc,h1,h2⟩:=hc
 obtain⟨tb,h3,h4⟩:=hb
 refine⟨_,uC hp h1 h3,λ{G A x dx ra sa t ρ σ H t' ρ' D} r e k=>?_⟩
 refine⟨λm σ H=>∃t ρ,RT X.K κ G A x dx ra sa t ρ σ H/\eX ft g m t ρ=some (t',ρ'),⟨n,t,ρ,r,e⟩,?_⟩
 rintro m σ H ⟨t,ρ,r,e⟩
 cases m with
 |zero=>cases e
 |succ m=>
  unfold eX at e
  obtain⟨c,e1,e2⟩:=Option.bind_eq_some_iff.mp e
  refine h2 (r.r C).1 e1 λH1 s1=>?_
  cases c with
  |false=>
   cases e2
   exact k σ H1 (r.mono s1)
  |true=>
   obtain⟨⟨t1,ρ1⟩,e3,e4⟩:=Option.bind_eq_some_iff.mp e2
   refine⟨λσ' H'=>∃t ρ,RT X.K κ G A x dx ra sa t ρ σ' H'/\eX ft g m t ρ=some (t',ρ'),λσ' H' q=>⟨m,Nat.lt_succ_self m,q⟩,?_⟩
   exact h4 (r.mono s1) e3 λσ' H' r'=>⟨t1,ρ1,r',e4⟩
theorem F8{F:Tb->List PV->Option Tb}{k:Nat}{fo:Addr}{fd:FuncData}{ps:List Str}{pl:Sem Bool}(C:tO X.K κ)(hm:Meth X.K (κ.adr 0) m fo)(FO:cw X.prog X.w X.K X.mg X.base g7 k fo fd ps (Nj X.K κ F))(hr:bO k X.A)(hb:Binds X.K fd ps [])(ha:DA X κ (e::es) fs)
  (h0:autoParam (X.N[0]?=some ("self" :Str)) zR._auto_1)(hv:autoParam (uA X.env.scope "self") zV._auto_1)
  (hn:∀u1 u2 u3 u4:V,List.lookup m [(("rows" :Str),u1),(("solved" :Str),u2),(("costs" :Str),u3),(("parts_of_one" :Str),u4)]=none:=by intros;rfl)
  (nI:autoParam (starEach (e::es) X.env=(false,eval e X.env)::starEach es X.env) zR._auto_1)(hpl:autoParam ((backTo cO (starEach es X.env)).any (·.1)=false) zR._auto_1)
  (ht:autoParam (eval (.Call (.Attribute (.Name "self" p1) m apos) (e::es) [] cO) X.env=(do
    let ov<-eval (.Name "self" p1) X.env
    standAt apos.atName
    let(f,first)<-holding [ov] (getMethod ov m pl)
    callWith cO f first (backTo cO (starEach (e::es) X.env)) (backToKw cO (keywordEach [] X.env)))) zR._auto_1)
  (hs:autoParam (swapsWith (.Call (.Attribute (.Name "self" p1) m apos) (e::es) [] cO) none pos.line X.env=pure false) zR._auto_1):MS X κ (.Expr (.Call (.Attribute (.Name "self" p1) m apos) (e::es) [] cO) pos) (yL F fs):=by
 obtain⟨ta,h1,h2⟩:=ha
 refine⟨_,j7 (EZ (pl:=pl) (dh h0 hv) C.cls hm FO hr hb .nil kD h1 nI hpl ht) hs,λ{G A x dx ra sa t ρ σ H t' ρ' D} r e k=>?_⟩
 obtain⟨ps,e1,e2⟩:=Option.bind_eq_some_iff.mp e
 obtain⟨C0,e3⟩:=d8 e2
 obtain⟨t1,e4,e5⟩:=Option.map_eq_some_iff.mp e3
 cases e5
 obtain⟨cv,dv,o1,_,_⟩:=r.tab.ob
 refine⟨_,r.self,x,dx,_,rfl,o1,hn _ _ _ _,h2 (r.r C).1 e1 λvs H' s z=>?_⟩
 have r1:=r.mono s
 refine⟨A,x,dx,ra,sa,t,t',vs,ps,by rw[List.append_nil],r1.al,r1.tab,qZ C0 z,e4,λH2 s2 T2=>k _ _ ?_⟩
 exact⟨T2,r1.self,r1.zero,λi p e=>let⟨v,g1,g2⟩:=r1.sh i p e;⟨v,g1,g2.mono (y7 s2)⟩,r1.pl,r1.len,λb hb=>F7 s2 T2 r1.al hb,r1.fr.trans s2⟩
end
section
variable{P:Program}{w:World}{K:PySem.W.Frag}{mg:Str->Option Value}{base:Heap}{κ:Kl}
theorem RT.entry{H:Hp}{N:List Str}{k:Nat}{A:Addr->Prop}{x dx ra sa:Addr}{t:Tb}{ws:List V}{ps:List PV}(hk:ps.length+1=k)(al:∀b,A b->H b≠none)(T:km K κ A x dx ra sa t H)(h:aT K κ (hide (S4 A x ra sa) H) ws ps):RT K κ H A x dx ra sa t (.un::(ps.map Slot.sh++List.replicate (N.length-k) .un)) (start N (.ref x::ws)) H:=by
 have hl:=h.length
 refine⟨T,rfl,rfl,λi p e=>?_,λi s e=>?_,?_,al,λ_ _ z=>z⟩
 ·cases i with
  |zero=>cases e
  |succ i=>
   rw[List.getElem?_cons_succ,List.getElem?_append]at e
   split at e
   ·rename_i hi
    rw[List.getElem?_map]at e
    obtain⟨q,e1,e2⟩:=Option.map_eq_some_iff.mp e
    cases e2
    obtain⟨v,h1,h2⟩:=h.get e1
    refine⟨v,?_,h2⟩
    unfold start
    rw[List.map_cons,List.cons_append,List.getElem?_cons_succ,List.getElem?_append_left (by rw[List.length_map];exact(List.getElem?_eq_some_iff.mp h1).1),List.getElem?_map,h1]
    rfl
   ·rw[List.getElem?_replicate]at e
    split at e<;>cases e
 ·cases i with
  |zero=>cases e;exact .inl rfl
  |succ i=>
   rw[List.getElem?_cons_succ,List.getElem?_append]at e
   split at e
   ·rw[List.getElem?_map]at e
    obtain⟨q,e1,e2⟩:=Option.map_eq_some_iff.mp e
    exact .inr ⟨q,e2.symm⟩
   ·rw[List.getElem?_replicate]at e
    split at e
    ·cases e;exact .inl rfl
    ·cases e
 ·unfold start
  simp only[List.length_append,List.length_map,List.length_cons,List.length_replicate,hl]
  rw[hk]
  omega
theorem F9{x qual:Str}{st:Stmt}{f:Addr}{fd:FuncData}{N ps:List Str}{k:Nat}{g:eu}(F:uH K x qual st f fd)(S:d5 N ps (aj st))
  (hb:∀(eC:Value) (A:Around) (outer:List Env) (s:Shared) (H:Hp) (E:XK),bO k (A.deeper (envOfC qual (aj st) s.heap.objs.size f eC))->EJ (ky g7 P w K mg base N qual (aj st) f eC A outer s H E).yk κ (cj st) g):
  cw P w K mg base g7 (k+1) f fd ps (Nj K κ (Hv N.length ps.length g)):=by
 refine F.ok S (λvs H Q E h=>?_) (λeC A outer s H vs Q E hr h=>?_)
 ·obtain⟨A',x,dx,ra,sa,t,t',ws,qs,rfl,_,_,h1,h2,_⟩:=h
  unfold Hv at h2
  split at h2
  ·rw[List.length_cons,h1.length]
   assumption
  ·cases h2
 ·obtain⟨A',x,dx,ra,sa,t,t',ws,qs,rfl,al,T,h1,h2,q⟩:=h
  obtain⟨ts,a1,a2⟩:=hb eC A outer s H E hr
  refine⟨ts,a1,?_⟩
  unfold Hv at h2
  obtain⟨hk,h3⟩:=d8 h2
  obtain⟨⟨t1,ρ1⟩,e1,e2⟩:=Option.map_eq_some_iff.mp h3
  cases e2
  exact a2 (RT.entry hk al T h1) e1 λσ' H' r'=>q H' r'.fr r'.tab
end
structure RI(K:PySem.W.Frag)(κ:Kl)(G:Hp)(A:Addr->Prop)(x dx ra sa:Addr)(ex:List (Str×V))(rows sol:List PV)(ρ:bM)(σ:St)(H:Hp):Prop where
 ne:ra≠sa
 ob:H x=some (.ins (κ.adr 0) dx ((("rows" :Str),.ref ra)::(("solved" :Str),.ref sa)::ex))
 rw:∃kz,H ra=some (.lst kz)/\aT K κ (hide (S4 A x ra sa) H) kz rows
 so:∃mN,H sa=some (.lst mN)/\aT K κ (hide (S4 A x ra sa) H) mN sol
 self:σ[0]?=some (some (.ref x))
 zero:ρ[0]?=some .un
 sh:∀(i:Nat) p,ρ[i]?=some (.sh p)->∃v,σ[i]?=some (some v)/\Rep K κ (hide (S4 A x ra sa) H) v p
 pl:∀(i:Nat) s,ρ[i]?=some s->s=.un\/∃p,s=.sh p
 len:σ.length=ρ.length
 al':∀b,A b->H b≠none
 fr:aE (hide (S3 x ra sa) G) (hide (S3 x ra sa) H)
section
variable{K:PySem.W.Frag}{κ:Kl}{A:Addr->Prop}{x dx ra sa:Addr}{ex:List (Str×V)}{rows sol:List PV}{G H H':Hp}{ρ:bM}{σ:St}
theorem RI.xr(h:RI K κ G A x dx ra sa ex rows sol ρ σ H):x≠ra:=by
 rintro rfl
 obtain⟨kz,h2,_⟩:=h.rw
 rw[h.ob]at h2
 cases h2
theorem RI.xs(h:RI K κ G A x dx ra sa ex rows sol ρ σ H):x≠sa:=by
 rintro rfl
 obtain⟨kz,h2,_⟩:=h.so
 rw[h.ob]at h2
 cases h2
theorem RI.al(h:RI K κ G A x dx ra sa ex rows sol ρ σ H){b:Addr}(hb:S3 x ra sa b):H b≠none:=by
 rcases hb with rfl|rfl|rfl
 ·rw[h.ob]
  simp
 ·obtain⟨kz,h1,_⟩:=h.rw
  rw[h1]
  simp
 ·obtain⟨kz,h1,_⟩:=h.so
  rw[h1]
  simp
theorem RI.mono(r:RI K κ G A x dx ra sa ex rows sol ρ σ H)(s:aE H H'):RI K κ G A x dx ra sa ex rows sol ρ σ H' where
 ne:=r.ne
 ob:=s _ _ r.ob
 rw:=let⟨kz,h1,h2⟩:=r.rw;⟨kz,s _ _ h1,h2.mono (aF s)⟩
 so:=let⟨mN,h1,h2⟩:=r.so;⟨mN,s _ _ h1,h2.mono (aF s)⟩
 self:=r.self
 zero:=r.zero
 sh:=λi p e=>let⟨v,h1,h2⟩:=r.sh i p e;⟨v,h1,h2.mono (aF s)⟩
 pl:=r.pl
 len:=r.len
 al':=λb h z=>by
  cases e:H b with
  |none=>exact r.al' b h e
  |some o=>rw[s _ _ e]at z;cases z
 fr:=r.fr.trans (aF s)
theorem RI.set(r:RI K κ G A x dx ra sa ex rows sol ρ σ H){i:Nat}(hi:i≠0){v:V}{p:PV}(z:Rep K κ (hide (S4 A x ra sa) H) v p):RI K κ G A x dx ra sa ex rows sol (ρ.set i (.sh p)) (σ.set i (some v)) H where
 ne:=r.ne
 ob:=r.ob
 rw:=r.rw
 so:=r.so
 self:=by rw[List.getElem?_set_ne hi];exact r.self
 zero:=by rw[List.getElem?_set_ne hi];exact r.zero
 sh:=λj q e=>by
  by_cases hj:i=j
  ·subst hj
   rw[List.getElem?_set]at e
   rw[if_pos rfl]at e
   split at e
   ·rename_i hl
    cases e
    refine⟨v,?_,z⟩
    rw[List.getElem?_set,if_pos rfl,if_pos (by rw[r.len];exact hl)]
   ·cases e
  ·rw[List.getElem?_set_ne hj]at e
   obtain⟨w,h1,h2⟩:=r.sh j q e
   exact⟨w,by rw[List.getElem?_set_ne hj];exact h1,h2⟩
 pl:=λj s e=>by
  by_cases hj:i=j
  ·subst hj
   rw[List.getElem?_set,if_pos rfl]at e
   split at e
   ·cases e
    exact .inr ⟨_,rfl⟩
   ·cases e
  ·rw[List.getElem?_set_ne hj]at e
   exact r.pl j s e
 len:=by rw[List.length_set,List.length_set,r.len]
 al':=r.al'
 fr:=r.fr
theorem RI.r(r:RI K κ G A x dx ra sa ex rows sol ρ σ H):R K κ H (S4 A x ra sa) (λ_=>none) (λ_=>0) ρ σ H/\cG (S4 A x ra sa) (λ_=>0) ρ=S4 A x ra sa:=by
 have p8:∀{i:Nat} {l:Cn},ρ[i]?≠some (.own l):=λ{i l} e=>by
  rcases r.pl _ _ e with z|⟨p,z⟩<;>cases z
 have hh:cG (S4 A x ra sa) (λ_=>0) ρ=S4 A x ra sa:=by
  funext b
  refine propext ⟨λz=>?_,λz=>.inl z⟩
  rcases z with z|⟨j,m,z1,z2⟩
  ·exact z
  ·exact absurd z1 p8
 refine⟨⟨λb h=>h.elim (r.al' b) λh=>r.al h,λi a vs e=>(by cases e),λ_ _ z=>z,λi p e=>?_,λi l e=>absurd e p8,λi j l m e=>absurd e p8,λi l e=>?_,r.len⟩,hh⟩
 ·rw[dX,hh]
  exact r.sh i p e
 ·rcases r.pl _ _ e with z|⟨p,z⟩<;>cases z
theorem xp{b:Addr}{o:HO}(al:∀c,A c->H c≠none):∀c,A c->upd H b o c≠none:=λc h=>by
 by_cases e:c=b
 ·rw[e,aO]
  simp
 ·rw[au e]
  exact al c h
theorem RI.tP(h:RI K κ G A x dx ra sa ex rows sol ρ σ H){vs:List V}{l:List PV}(z:aT K κ (hide (S4 A x ra sa) H) vs l):RI K κ G A x dx ra sa ex l sol ρ σ (upd H ra (.lst vs)):=by
 have e:hide (S4 A x ra sa) (upd H ra (.lst vs))=hide (S4 A x ra sa) H:=dG (.inr (.inl rfl))
 refine⟨h.ne,by rw[au h.xr];exact h.ob,⟨vs,aO,by rw[e];exact z⟩,?_,h.self,h.zero,λi p q=>by rw[e];exact h.sh i p q,h.pl,h.len,xp h.al',by rw[i6 (.inr (.inl rfl))];exact h.fr⟩
 obtain⟨mN,h1,h2⟩:=h.so
 exact⟨mN,by rw[au (Ne.symm h.ne)];exact h1,by rw[e];exact h2⟩
theorem RI.xn(h:RI K κ G A x dx ra sa ex rows sol ρ σ H){vs:List V}{l:List PV}(z:aT K κ (hide (S4 A x ra sa) H) vs l):RI K κ G A x dx ra sa ex rows l ρ σ (upd H sa (.lst vs)):=by
 have e:hide (S4 A x ra sa) (upd H sa (.lst vs))=hide (S4 A x ra sa) H:=dG (.inr (.inr rfl))
 refine⟨h.ne,by rw[au h.xs];exact h.ob,?_,⟨vs,aO,by rw[e];exact z⟩,h.self,h.zero,λi p q=>by rw[e];exact h.sh i p q,h.pl,h.len,xp h.al',by rw[i6 (.inr (.inr rfl))];exact h.fr⟩
 obtain⟨mN,h1,h2⟩:=h.rw
 exact⟨mN,by rw[au h.ne];exact h1,by rw[e];exact h2⟩
theorem RI.vq(h:RI K κ G A x dx ra sa ex rows sol ρ σ H){Nt:List (Str×V)}:RI K κ G A x dx ra sa Nt rows sol ρ σ (upd H x (.ins (κ.adr 0) dx ((("rows" :Str),.ref ra)::(("solved" :Str),.ref sa)::Nt))):=by
 have e:∀o,hide (S4 A x ra sa) (upd H x o)=hide (S4 A x ra sa) H:=λo=>dG (.inl rfl)
 refine⟨h.ne,aO,?_,?_,h.self,h.zero,λi p q=>by rw[e];exact h.sh i p q,h.pl,h.len,xp h.al',by rw[i6 (.inl rfl)];exact h.fr⟩
 ·obtain⟨mN,h1,h2⟩:=h.rw
  exact⟨mN,by rw[au (Ne.symm h.xr)];exact h1,by rw[e];exact h2⟩
 ·obtain⟨mN,h1,h2⟩:=h.so
  exact⟨mN,by rw[au (Ne.symm h.xs)];exact h1,by rw[e];exact h2⟩
end
noncomputable def P5(K:PySem.W.Frag)(κ:Kl)(ts:TS)(g:jm):Prop:=
 ∀{G A x dx ra sa ex rows sol ρ σ H lR sol' ρ' D},RI K κ G A x dx ra sa ex rows sol ρ σ H->g rows sol ρ=some (lR,sol',ρ')->(∀σ' H',RI K κ G A x dx ra sa ex lR sol' ρ' σ' H'->D.nx σ' H')->ts D σ H
noncomputable def IS(X:Cx)(κ:Kl)(st:Stmt)(g:jm):Prop:=∃ts,PS X st ts/\P5 X.K κ ts g
noncomputable def Nk(X:Cx)(κ:Kl)(st:List Stmt)(g:jm):Prop:=∃ts,rS X st ts/\P5 X.K κ ts g
section
variable{X:Cx}{κ:Kl}{st:Stmt}{rest body:List Stmt}{g g':jm}{a b c e elt iter:Expr}{f fa:Den}{fi:bX}{pos p1 p2 p3 apos cO px pz tp jz:Pos}{x y z:Str}{py:Pos}{sc:Scope}{x1:Nat}
theorem vw(h1:IS X κ st g)(h2:Nk X κ rest g'):Nk X κ (st::rest) (Cr g g'):=by
 obtain⟨t1,a1,a2⟩:=h1
 obtain⟨t2,b1,b2⟩:=h2
 refine⟨_,dA a1 b1,λ{G A x dx ra sa ex rows sol ρ σ H lR sol' ρ' D} r e k=>?_⟩
 obtain⟨⟨r1,s1,ρ1⟩,e1,e2⟩:=Option.bind_eq_some_iff.mp e
 exact a2 r e1 λσ' H' r'=>b2 r' e2 k
theorem Ga(h1:IS X κ st g):Nk X κ [st] g:=let⟨_,a1,a2⟩:=h1;⟨_,j6 a1,a2⟩
theorem Gb(i:Nat)(hN:X.N.Nodup)(hi:CI X κ (.Name x px) iter fi)(ji:Scope)(N0 ys:List Str)(he:∀ex C s H,DE (X.lF sc x ys ex C s H) κ elt f)(Ca:autoParam (X.N[i]?=some y) zR._auto_1)(F5:autoParam (i≠0) zD._auto_1)(hy:autoParam (X.env.scope.names.lookup y=some .local) zR._auto_1)(mL:autoParam (X.env.scope=ji) zR._auto_1)(As:autoParam (X.N=N0) zR._auto_1)(qg:iZ ji N0 sc x ys=true:=by decide+kernel)(hc:autoParam (X.calm=true) zR._auto_1)
  (hs:autoParam (∀x,foldedSetIterable iter X.env x=pure x) zI._auto_1)(Cb:autoParam (swapsWith (.ListComp elt [⟨.Name x px,iter,[],0⟩] sc pos) (some (.Name y py)) jz.line X.env=pure true) zR._auto_1):
  IS X κ (.Assign [.Name y py] (.ListComp elt [⟨.Name x px,iter,[],0⟩] sc pos) jz) (Fw i (aV fi a9 f)):=by
 obtain⟨wi,h1,h2⟩:=hi
 refine⟨_,sM hN Ca hy h1 ys (tt:=JC X.K κ a9) (te:=EG X.K κ f) (λex C s H=>?_) (λex C s H=>(he ex C s H).pe) (by rw[mL,As];exact qg) hc hs Cb,λ{G A x dx ra sa ex rows sol ρ σ H lR sol' ρ' D} r e k=>?_⟩
 ·intro pins s σ H Q I ⟨_,_,_,_,_,_,r,e,q⟩
  cases e
  exact oH pins s σ H Q I (q _ (aE.refl _))
 ·obtain⟨p,e1,e2⟩:=Option.map_eq_some_iff.mp e
  cases e2
  obtain⟨rr,hh⟩:=r.r
  refine jK h2 rr e1 λv H' s zz=>?_
  have rep:=zz.rep rr
  rw[dX,hh]at rep
  exact k _ _ ((r.mono s).set F5 rep)
theorem JR(C:tO X.K κ)(he:DE X κ e f)(h0:autoParam (X.N[0]?=some ("self" :Str)) zR._auto_1)(hv:autoParam (uA X.env.scope "self") zV._auto_1)
  (hb:autoParam (attributeBase (.Name "self" p1) "rows" X.env (eval (.Name "self" p1) X.env)=eval (.Name "self" p1) X.env) zR._auto_1)
  (fR:autoParam (attributeBase (.Attribute (.Name "self" p1) "rows" p2) "append" X.env (eval (.Attribute (.Name "self" p1) "rows" p2) X.env)=eval (.Attribute (.Name "self" p1) "rows" p2) X.env) zR._auto_1)
  (my:autoParam (((backTo cO (starEach [e] X.env)).all (λx=>!x.1)&&(backToKw cO (keywordEach [] X.env)).all (λx=>x.1.isSome)
    &&decide ([e].length+([]:List Keyword).length+(if([]:List Keyword).isEmpty then 0 else 1)<30))=true) zR._auto_1)
  (fS:autoParam ((apos.endLine==cO.line)=true) zR._auto_1)(nI:autoParam (starEach [e] X.env=(false,eval e X.env)::starEach [] X.env) zR._auto_1)
  (hs:autoParam (swapsWith (.Call (.Attribute (.Attribute (.Name "self" p1) "rows" p2) "append" apos) [e] [] cO) none pos.line X.env=pure false) zR._auto_1):
  IS X κ (.Expr (.Call (.Attribute (.Attribute (.Name "self" p1) "rows" p2) "append" apos) [e] [] cO) pos) (Fx f):=by
 obtain⟨te,h1,h2⟩:=he
 refine⟨_,j7 (yu PySem.F.plainAttrs_list PySem.F.slot_list_append PySem.F.type_list_append mz (mr (dh h0 hv) hb) (bq h1 cc nI) fR my fS nI rfl) hs,λ{G A x dx ra sa ex rows sol ρ σ H lR sol' ρ' D} r e k=>?_⟩
 obtain⟨p,e1,e2⟩:=Option.bind_eq_some_iff.mp e
 obtain⟨hl,e3⟩:=d8 e2
 cases e3
 obtain⟨rr,hh⟩:=r.r
 obtain⟨kz,w1,w2⟩:=r.rw
 refine⟨_,r.self,x,_,dx,_,.ref ra,rfl,r.ob,C.cls,C.n1,rfl,.inl ⟨rfl,_,fQ.of w1⟩,h2 rr e1 λv H' s zz=>?_⟩
 rw[dX,hh]at zz
 have w3:=w2.mono (aF (A:=S4 A x ra sa) s)
 exact⟨ra,kz,v,rfl,rfl,s _ _ w1,by rw[w2.length];exact hl,k _ _ ((r.mono s).tP (w3.append (.cons zz .nil)))⟩
theorem JS(C:tO X.K κ)(he:DE X κ e f)(h0:autoParam (X.N[0]?=some ("self" :Str)) zR._auto_1)(hv:autoParam (uA X.env.scope "self") zV._auto_1)
  (hb:autoParam (attributeBase (.Name "self" p1) "solved" X.env (eval (.Name "self" p1) X.env)=eval (.Name "self" p1) X.env) zR._auto_1)
  (fR:autoParam (attributeBase (.Attribute (.Name "self" p1) "solved" p2) "append" X.env (eval (.Attribute (.Name "self" p1) "solved" p2) X.env)=eval (.Attribute (.Name "self" p1) "solved" p2) X.env) zR._auto_1)
  (my:autoParam (((backTo cO (starEach [e] X.env)).all (λx=>!x.1)&&(backToKw cO (keywordEach [] X.env)).all (λx=>x.1.isSome)
    &&decide ([e].length+([]:List Keyword).length+(if([]:List Keyword).isEmpty then 0 else 1)<30))=true) zR._auto_1)
  (fS:autoParam ((apos.endLine==cO.line)=true) zR._auto_1)(nI:autoParam (starEach [e] X.env=(false,eval e X.env)::starEach [] X.env) zR._auto_1)
  (hs:autoParam (swapsWith (.Call (.Attribute (.Attribute (.Name "self" p1) "solved" p2) "append" apos) [e] [] cO) none pos.line X.env=pure false) zR._auto_1):
  IS X κ (.Expr (.Call (.Attribute (.Attribute (.Name "self" p1) "solved" p2) "append" apos) [e] [] cO) pos) (Fy f):=by
 obtain⟨te,h1,h2⟩:=he
 refine⟨_,j7 (yu PySem.F.plainAttrs_list PySem.F.slot_list_append PySem.F.type_list_append mz (mr (dh h0 hv) hb) (bq h1 cc nI) fR my fS nI rfl) hs,λ{G A x dx ra sa ex rows sol ρ σ H lR sol' ρ' D} r e k=>?_⟩
 obtain⟨p,e1,e2⟩:=Option.bind_eq_some_iff.mp e
 obtain⟨hl,e3⟩:=d8 e2
 cases e3
 obtain⟨rr,hh⟩:=r.r
 obtain⟨kz,w1,w2⟩:=r.so
 refine⟨_,r.self,x,_,dx,_,.ref sa,rfl,r.ob,C.cls,C.n2,rfl,.inl ⟨rfl,_,fQ.of w1⟩,h2 rr e1 λv H' s zz=>?_⟩
 rw[dX,hh]at zz
 have w3:=w2.mono (aF (A:=S4 A x ra sa) s)
 exact⟨sa,kz,v,rfl,rfl,s _ _ w1,by rw[w2.length];exact hl,k _ _ ((r.mono s).xn (w3.append (.cons zz .nil)))⟩
theorem Ge(k i j:Nat)(hN:X.N.Nodup)(hm:X.mg "enumerate" =none)(hb:Nk X κ body g)(hk:autoParam (X.N[k]?=some x) zR._auto_1)(hi:autoParam (X.N[i]?=some y) zR._auto_1)(hj:autoParam (X.N[j]?=some z) zR._auto_1)(F5:autoParam (i≠0) zD._auto_1)(Rv:autoParam (j≠0) zD._auto_1)(Sy:autoParam (k≠i) zD._auto_1)(OW:autoParam (k≠j) zD._auto_1)
  (hv:autoParam (uA X.env.scope x) zV._auto_1)(hd:autoParam ((x==("__debug__" :Str))=false) zD._auto_1)(om:autoParam ((x==("__classdict__" :Str))=false) zD._auto_1)
  (hy:autoParam (Loc X.env.scope y) zL._auto_1)(hz:autoParam (Loc X.env.scope z) zL._auto_1)
  (Rw:autoParam (X.fn y=true\/X.env.scope.names.lookup y=some .local) zF._auto_1)(Rx:autoParam (X.fn z=true\/X.env.scope.names.lookup z=some .local) zF._auto_1)
  (hg:autoParam (Gl X "enumerate") zR._auto_1)(hs:autoParam (starEach [.Name x p1] X.env=[(false,eval (.Name x p1) X.env)]) zR._auto_1)(hp:PassesOwn (model X.prog X.w) X.A X.env X.xe:=by exact PassesOwn.never)(hc:autoParam (X.calm=true) zR._auto_1)
  (OV:autoParam (∀u,foldedSetIterable (.Call (.Name "enumerate" p2) [.Name x p1] [] p3) X.env u=pure u) zI._auto_1)
  (ht:autoParam ((assignEach [.Name y py,.Name z pz] X.env).map (·.2)=assign (.Name y py) X.env::(assignEach [.Name z pz] X.env).map (·.2)) zR._auto_1)(OX:autoParam ((assignEach [.Name z pz] X.env).map (·.2)=assign (.Name z pz) X.env::(assignEach [] X.env).map (·.2)) zR._auto_1)
  (Ry:autoParam ((assignEach [.Name y py,.Name z pz] X.env).length=2) zR._auto_1)(nI:autoParam ((assignEach [.Name y py,.Name z pz] X.env).findIdx? (·.1)=none) zR._auto_1):
  IS X κ (.For (.Tuple [.Name y py,.Name z pz] x1 tp) (.Call (.Name "enumerate" p2) [.Name x p1] [] p3) body [] pos) (sX k i j g):=by
 obtain⟨tb,h3,h4⟩:=hb
 refine⟨_,wA hp hc (yZ hg hm (bq (dh hk hv hd om) cc (by rw[hs];rfl)) hs) (wy (n:=2) hc (iH (j8 hN hi hy Rw) (iH (j8 hN hj hz Rx) rW OX) ht) Ry nI) h3 OV,λ{G A x dx ra sa ex rows sol ρ σ H lR sol' ρ' D} r e kk=>?_⟩
 unfold sX at e
 split at e
 ·rename_i l hl
  obtain⟨v,w1,w2⟩:=r.sh k _ hl
  cases w2 with
  |lst q1 q2=>
   rename_i al vs
   have sf:aE (hide (S4 A x ra sa) H) H:=av
   refine⟨_,w1,al,vs,rfl,(sf.sl q1).sq,?_⟩
   refine⟨λn m σ' H'=>m=l.length-n/\n<=l.length/\∃q8 AN ρ1,RI X.K κ G A x dx ra sa ex q8 AN ρ1 σ' H'/\aE (hide (S4 A x ra sa) H) (hide (S4 A x ra sa) H')/\nh i j g (l.drop n) n q8 AN ρ1=some (lR,sol',ρ'),⟨l.length,by simp,Nat.zero_le _,rows,sol,ρ,r,λ_ _ z=>z,by simpa using e⟩,?_⟩
   rintro n m σ1 H1 ⟨rfl,hn,q8,AN,ρ1,r1,s1,e1⟩
   have hq:fQ X.K H1 al vs:=((s1.trans av).sl q1).sq
   by_cases eS:n<l.length
   ·obtain⟨u,u1,u2⟩:=q2.get (List.getElem?_eq_getElem eS)
    rw[List.drop_eq_getElem_cons eS]at e1
    obtain⟨⟨r3,s3,ρ3⟩,e3,e4⟩:=Option.bind_eq_some_iff.mp e1
    refine .inr ⟨⟨vs,u,hq,u1⟩,λσ' H'=>n+1<=l.length/\∃q8 AN ρ1,RI X.K κ G A x dx ra sa ex q8 AN ρ1 σ' H'/\aE (hide (S4 A x ra sa) H) (hide (S4 A x ra sa) H')/\nh i j g (l.drop (n+1)) (n+1) q8 AN ρ1=some (lR,sol',ρ'),λσ' H' ⟨KJ,q⟩=>⟨l.length-(n+1),by omega,rfl,KJ,q⟩,λw H2 bW=>?_⟩
    obtain⟨pp,xx,y0,y1,y2,y3⟩:=bW
    subst y1 y2
    have P6:=y3 vs hq
    rw[u1]at P6
    cases P6
    have s2:aE H1 (upd H1 pp (.tup [.int (n:Nat),u])):=bD y0
    refine⟨pp,[.int (n:Nat),u],rfl,pY.of aO,rfl,_,_,rfl,_,_,rfl,rfl,?_⟩
    have r2:=((r1.mono s2).set F5 (p:=.int (n:Nat)) (v:=.int (n:Nat)) (.int _)).set Rv (p:=l[n]) (v:=u) (u2.mono (s1.trans (aF s2)))
    refine h4 (G:=upd H1 pp (.tup [.int (n:Nat),u])) ⟨r2.ne,r2.ob,r2.rw,r2.so,r2.self,r2.zero,r2.sh,r2.pl,r2.len,r2.al',λ_ _ z=>z⟩ e3 λσ' H' r'=>⟨eS,r3,s3,ρ3,⟨r'.ne,r'.ob,r'.rw,r'.so,r'.self,r'.zero,r'.sh,r'.pl,r'.len,r'.al',r2.fr.trans r'.fr⟩,(s1.trans (aF s2)).trans (y7 r'.fr),e4⟩
   ·have KH:l.drop n=[]:=List.drop_eq_nil_of_le (by omega)
    rw[KH]at e1
    cases e1
    exact .inl ⟨⟨vs,hq,by rw[q2.length];omega⟩,kk _ _ r1⟩
 ·cases e
end
noncomputable def OY(K:PySem.W.Frag)(κ:Kl)(F:List PV->Option Tb):Sp:=λvs H Q _=>∃(A:Addr->Prop) (x dx:Addr) (ws:List V) (ps:List PV) (t:Tb),vs=.ref x::ws/\(∀b,A b->H b≠none)/\H x=some (.ins (κ.adr 0) dx [])/\aT K κ (hide (λb=>A b\/b=x) H) ws ps/\F ps=some t/\
 ∀ra sa H',H ra=none->H sa=none->aE (hide (λb=>b=x) H) H'->km K κ A x dx ra sa t H'->Q .non H'
noncomputable def Rz(K:PySem.W.Frag)(κ:Kl)(ts:TS)(g:bM->Option Tb):Prop:=
 ∀{A:Addr->Prop} {x dx:Addr} {ρ:bM} {σ:St} {H:Hp} {t:Tb} {D:Ends},(∀b,A b->H b≠none)->H x=some (.ins (κ.adr 0) dx [])->σ[0]?=some (some (.ref x))->ρ[0]?=some .un->
  (∀(i:Nat) p,ρ[i]?=some (.sh p)->∃v,σ[i]?=some (some v)/\Rep K κ (hide (λb=>A b\/b=x) H) v p)->(∀(i:Nat) s,ρ[i]?=some s->s=.un\/∃p,s=.sh p)->σ.length=ρ.length->g ρ=some t->
  (∀ra sa σ' H',H ra=none->H sa=none->aE (hide (λb=>b=x) H) H'->km K κ A x dx ra sa t H'->D.nx σ' H')->ts D σ H
noncomputable def IB(X:Cx)(κ:Kl)(st:List Stmt)(g:bM->Option Tb):Prop:=∃ts,rS X st ts/\Rz X.K κ ts g
section
variable{X:Cx}{κ:Kl}{s3:Stmt}{g3:jm}{e4 e5:Expr}{f4 f5:Den}{a1 a2 a3 a4 b1 b2 b3 b4 c1 c2 c4 d1 d2 d4:Pos}
theorem Mm(C:tO X.K κ)(h3:IS X κ s3 g3)(h4:DE X κ e4 f4)(h5:DE X κ e5 f5)(h0:autoParam (X.N[0]?=some ("self" :Str)) zR._auto_1)(hv:autoParam (uA X.env.scope "self") zV._auto_1)
  (w1:autoParam (swapsWith (.List [] a3) (some (.Attribute (.Name "self" a1) "rows" a2)) a4.line X.env=pure false) zR._auto_1)(w2:autoParam (swapsWith (.List [] b3) (some (.Attribute (.Name "self" b1) "solved" b2)) b4.line X.env=pure false) zR._auto_1)
  (w4:autoParam (swapsWith e4 (some (.Attribute (.Name "self" c1) "costs" c2)) c4.line X.env=pure false) zR._auto_1)(w5:autoParam (swapsWith e5 (some (.Attribute (.Name "self" d1) "parts_of_one" d2)) d4.line X.env=pure false) zR._auto_1):
  IB X κ [.Assign [.Attribute (.Name "self" a1) "rows" a2] (.List [] a3) a4,.Assign [.Attribute (.Name "self" b1) "solved" b2] (.List [] b3) b4,s3,.Assign [.Attribute (.Name "self" c1) "costs" c2] e4 c4,.Assign [.Attribute (.Name "self" d1) "parts_of_one" d2] e5 d4] (Jt g3 f4 f5):=by
 obtain⟨t3,p3,q3⟩:=h3
 obtain⟨t4,p4,q4⟩:=h4
 obtain⟨t5,p5,q5⟩:=h5
 refine⟨_,dA (mv (dh h0 hv) (wK cc) w1) (dA (mv (dh h0 hv) (wK cc) w2) (dA p3 (dA (mv (dh h0 hv) p4 w4) (j6 (mv (dh h0 hv) p5 w5))))),?_⟩
 intro A x dx ρ σ H t D al hx C4 hzero NZ hpl hlen e k
 obtain⟨⟨rows,sol,ρ1⟩,e1,e2⟩:=Option.bind_eq_some_iff.mp e
 obtain⟨c,e3,Py⟩:=Option.bind_eq_some_iff.mp e2
 obtain⟨d,RA,e6⟩:=Option.map_eq_some_iff.mp Py
 cases e6
 refine⟨Nat.zero_le _,λra Mn=>⟨_,C4,x,_,dx,[],rfl,?_,C.cls,C.n1,(by decide),?_⟩⟩
 ·rw[au (aW hx Mn)]
  exact hx
 refine⟨Nat.zero_le _,λsa C5=>⟨_,C4,x,_,dx,iI "rows" (.ref ra) [],rfl,?_,C.cls,C.n2,(show(1:Nat)<1000 by decide),?_⟩⟩
 ·have nx:x≠sa:=by
    rintro rfl
    rw[aO]at C5
    cases C5
  rw[au nx]
  exact aO
 have P7:x≠sa:=by
  rintro rfl
  rw[aO]at C5
  cases C5
 have P8:x≠ra:=aW hx Mn
 rw[au (Ne.symm P7)]at C5
 have OZ:ra≠sa:=by
  rintro rfl
  rw[aO]at C5
  cases C5
 rw[au (Ne.symm OZ)]at C5
 generalize wV:upd (upd (upd (upd H ra (.lst [])) x (.ins (κ.adr 0) dx (iI "rows" (.ref ra) []))) sa (.lst [])) x (.ins (κ.adr 0) dx (iI "solved" (.ref sa) (iI "rows" (.ref ra) [])))=H2
 have g1:H2 x=some (.ins (κ.adr 0) dx [(("rows" :Str),.ref ra),(("solved" :Str),.ref sa)]):=by rw[<-wV];exact aO
 have g2:H2 ra=some (.lst []):=by rw[<-wV,au (Ne.symm P8),au OZ,au (Ne.symm P8)];exact aO
 have P9:H2 sa=some (.lst []):=by rw[<-wV,au (Ne.symm P7)];exact aO
 have g4:∀b,b≠x->b≠ra->b≠sa->H2 b=H b:=λb n1 n2 n3=>by rw[<-wV,au n1,au n3,au n1,au n2]
 have s1:aE (hide (λb=>A b\/b=x) H) (hide (S4 A x ra sa) H2):=λb o q=>by
  obtain⟨q1,q2⟩:=cn q
  have n1:b≠x:=λz=>q1 (.inr z)
  have n2:b≠ra:=aW q2 Mn
  have n3:b≠sa:=aW q2 C5
  rw[bj,g4 b n1 n2 n3]
  ·exact q2
  ·rintro(z|z|z|z)
   ·exact q1 (.inl z)
   ·exact n1 z
   ·exact n2 z
   ·exact n3 z
 have s2:aE (hide (S3 x ra sa) H) (hide (S3 x ra sa) H2):=λb o q=>by
  obtain⟨q1,q2⟩:=cn q
  rw[bj q1,g4 b (λz=>q1 (.inl z)) (λz=>q1 (.inr (.inl z))) (λz=>q1 (.inr (.inr z)))]
  exact q2
 have r0:RI X.K κ H A x dx ra sa [] [] [] ρ σ H2:=by
  refine⟨OZ,g1,⟨[],g2,.nil⟩,⟨[],P9,.nil⟩,C4,hzero,λi p q=>?_,hpl,hlen,λb hb=>?_,s2⟩
  ·obtain⟨v,y1,y2⟩:=NZ i p q
   exact⟨v,y1,y2.mono s1⟩
  ·by_cases n1:b=x
   ·rw[n1,g1];simp
   ·by_cases n2:b=ra
    ·rw[n2,g2];simp
    ·by_cases n3:b=sa
     ·rw[n3,P9];simp
     ·rw[g4 b n1 n2 n3]
      exact al b hb
 refine q3 r0 e1 λσ1 H3 r1=>?_
 obtain⟨rr,hh⟩:=r1.r
 refine q4 rr e3 λv H4 s4 Qa=>?_
 rw[dX,hh]at Qa
 have r2:=r1.mono s4
 refine⟨_,r2.self,x,_,dx,_,rfl,r2.ob,C.cls,C.n3,(show(2:Nat)<1000 by decide),?_⟩
 have r3:RI X.K κ H A x dx ra sa [(("costs" :Str),v)] rows sol ρ1 σ1 (upd H4 x (.ins (κ.adr 0) dx ((("rows" :Str),.ref ra)::(("solved" :Str),.ref sa)::[(("costs" :Str),v)]))):=r2.vq
 obtain⟨RB,RC⟩:=r3.r
 refine q5 RB RA λu H5 s5 z5=>?_
 rw[dX,RC]at z5
 have r4:=r3.mono s5
 refine⟨_,r4.self,x,_,dx,_,rfl,r4.ob,C.cls,C.n4,(show(3:Nat)<1000 by decide),?_⟩
 have r5:RI X.K κ H A x dx ra sa [(("costs" :Str),v),(("parts_of_one" :Str),u)] rows sol ρ1 σ1 (upd H5 x (.ins (κ.adr 0) dx ((("rows" :Str),.ref ra)::(("solved" :Str),.ref sa)::[(("costs" :Str),v),(("parts_of_one" :Str),u)]))):=r4.vq
 refine k ra sa _ _ Mn C5 (λb o q=>?_) ⟨r5.ne,⟨v,u,r5.ob,?_,?_⟩,r5.rw,r5.so⟩
 ·obtain⟨q1,q2⟩:=cn q
  have:=r5.fr b o (by
   rw[bj]
   ·exact q2
   ·rintro(z|z|z)
    ·exact q1 z
    ·rw[z,Mn]at q2;cases q2
    ·rw[z,C5]at q2;cases q2)
  exact(cn this).2
 ·rw[dG (.inl rfl)]
  have z6:Rep X.K κ (hide (S4 A x ra sa) (upd H4 x (.ins (κ.adr 0) dx ((("rows" :Str),.ref ra)::(("solved" :Str),.ref sa)::[(("costs" :Str),v)])))) v c:=by
   rw[dG (.inl rfl)]
   exact Qa
  exact z6.mono (aF s5)
 ·rw[dG (.inl rfl)]
  exact z5
end
section
variable{P:Program}{w:World}{K:PySem.W.Frag}{mg:Str->Option Value}{base:Heap}{κ:Kl}
theorem C6{x qual:Str}{st:Stmt}{f:Addr}{fd:FuncData}{N ps:List Str}{k:Nat}{g:bM->Option Tb}(F:uH K x qual st f fd)(S:d5 N ps (aj st))
  (hb:∀(eC:Value) (A:Around) (outer:List Env) (s:Shared) (H:Hp) (E:XK),bO k (A.deeper (envOfC qual (aj st) s.heap.objs.size f eC))->IB (ky g7 P w K mg base N qual (aj st) f eC A outer s H E).yk κ (cj st) g):
  cw P w K mg base g7 (k+1) f fd ps (OY K κ (Kz N.length ps.length g)):=by
 refine F.ok S (λvs H Q E h=>?_) (λeC A outer s H vs Q E hr h=>?_)
 ·obtain⟨A',x,dx,ws,qs,t,rfl,_,_,h1,h2,_⟩:=h
  unfold Kz at h2
  obtain⟨hk,_⟩:=d8 h2
  rw[List.length_cons,h1.length]
  exact hk
 ·obtain⟨A',x,dx,ws,qs,t,rfl,al,hx,h1,h2,q⟩:=h
  obtain⟨ts,a1,a2⟩:=hb eC A outer s H E hr
  refine⟨ts,a1,?_⟩
  unfold Kz at h2
  obtain⟨hk,h3⟩:=d8 h2
  have hl:=h1.length
  refine a2 al hx rfl rfl (λi p e=>?_) (λi s e=>?_) ?_ h3 λra sa σ' H' n1 n2 s' T=>q ra sa H' n1 n2 s' T
  ·cases i with
   |zero=>cases e
   |succ i=>
    rw[List.getElem?_cons_succ,List.getElem?_append]at e
    split at e
    ·rw[List.getElem?_map]at e
     obtain⟨q,e1,e2⟩:=Option.map_eq_some_iff.mp e
     cases e2
     obtain⟨v,y1,y2⟩:=h1.get e1
     refine⟨v,?_,y2⟩
     unfold start
     rw[List.map_cons,List.cons_append,List.getElem?_cons_succ,List.getElem?_append_left (by rw[List.length_map];exact(List.getElem?_eq_some_iff.mp y1).1),List.getElem?_map,y1]
     rfl
    ·rw[List.getElem?_replicate]at e
     split at e<;>cases e
  ·cases i with
   |zero=>cases e;exact .inl rfl
   |succ i=>
    rw[List.getElem?_cons_succ,List.getElem?_append]at e
    split at e
    ·rw[List.getElem?_map]at e
     obtain⟨q,e1,e2⟩:=Option.map_eq_some_iff.mp e
     exact .inr ⟨q,e2.symm⟩
    ·rw[List.getElem?_replicate]at e
     split at e
     ·cases e;exact .inl rfl
     ·cases e
  ·unfold start
   simp only[List.length_append,List.length_map,List.length_cons,List.length_replicate,hl]
   rw[hk]
   omega
end
noncomputable def NT(K:PySem.W.Frag)(κ:Kl)(A:Addr->Prop)(H H':Hp)(v:V)(t:Tb):Prop:=∃x dx ra sa,v=.ref x/\H x=none/\H ra=none/\H sa=none/\km K κ A x dx ra sa t H'
noncomputable def spT(K:PySem.W.Frag)(κ:Kl)(F:List PV->Option Tb):Sp:=λvs H Q _=>∃(A:Addr->Prop) (ps:List PV) (t:Tb),(∀b,A b->H b≠none)/\aT K κ (hide A H) vs ps/\F ps=some t/\∀v H',aE H H'->NT K κ A H H' v t->Q v H'
theorem km.weak{K:PySem.W.Frag}{κ:Kl}{A B:Addr->Prop}{x dx ra sa:Addr}{t:Tb}{H:Hp}(h:km K κ B x dx ra sa t H)(s:∀b,A b->B b):km K κ A x dx ra sa t H:=by
 have m:aE (hide (S4 B x ra sa) H) (hide (S4 A x ra sa) H):=cQ (λ_ _ z=>z) λb z _=>z.imp (s b) id
 refine⟨h.ne,?_,?_,?_⟩
 ·obtain⟨cv,dv,h1,h2,h3⟩:=h.ob
  exact⟨cv,dv,h1,h2.mono m,h3.mono m⟩
 ·obtain⟨kz,h1,h2⟩:=h.rw
  exact⟨kz,h1,h2.mono m⟩
 ·obtain⟨kz,h1,h2⟩:=h.so
  exact⟨kz,h1,h2.mono m⟩
noncomputable def RD(K:PySem.W.Frag)(κ:Kl)(ts:TS)(g:bM->Option Tb):Prop:=
 ∀{G A bo own ρ σ H t D},R K κ G A bo own ρ σ H->g ρ=some t->(∀v H',aE G H'->NT K κ A G H' v t->D.rt v H')->ts D σ H
noncomputable def JT(X:Cx)(κ:Kl)(st:List Stmt)(g:bM->Option Tb):Prop:=∃ts,rS X st ts/\RD X.K κ ts g
section
variable{X:Cx}{κ:Kl}{st:Stmt}{rest:List Stmt}{g:aL}{g':bM->Option Tb}{e a:Expr}{es:List Expr}{fs:bX}{pos p p1 p2 p3 p4 apos:Pos}{x y m:Str}
theorem iQ(h1:DS X κ false st g)(h2:JT X κ rest g'):JT X κ (st::rest) (eY g g'):=by
 obtain⟨t1,a1,a2⟩:=h1
 obtain⟨t2,b1,b2⟩:=h2
 refine⟨_,dA a1 b1,λ{G A bo own ρ σ H t D} r e k=>?_⟩
 obtain⟨fl,e1,e2⟩:=Option.bind_eq_some_iff.mp e
 cases fl with
 |nx ρ'=>exact a2 r e1 λdq σ' H' r'=>b2 r' e2 k
 |rt p=>cases e2
 |bk ρ'=>cases e2
 |ct ρ'=>cases e2
theorem Gf(i:Nat)(h2:JT X κ rest g'):JT X κ rest (eY (u0 i) g'):=by
 obtain⟨ts,h1,h3⟩:=h2
 refine⟨ts,h1,λ{G A bo own ρ σ H t D} r e k=>?_⟩
 obtain⟨fl,e1,e2⟩:=Option.bind_eq_some_iff.mp e
 have sn:EF X.K κ false G5 cF:=λ{G A bo own ρ σ H fl D} r e k=>by cases e;exact k own σ H r
 cases fl with
 |nx ρ'=>
  have e3:aX (u0 i) cF ρ=some (.nx ρ'):=by
   show(u0 i ρ).bind _=_
   rw[e1]
   rfl
  obtain⟨dq,r'⟩:∃dq,R X.K κ G A bo dq ρ' σ H:=yO i sn (D:={nx:=λσ' H'=>∃dq,R X.K κ G A bo dq ρ' σ' H',rt:=λ_ _=>True}) r e3 λdq σ' H' r'=>⟨dq,r'⟩
  exact h3 r' e2 k
 |rt p=>cases e2
 |bk ρ'=>cases e2
 |ct ρ'=>cases e2
theorem C7{F:List PV->Option Tb}{k:Nat}{f:Addr}{fd:FuncData}{ps:List Str}(M:Mk X.K (κ.adr 0) f)(FO:cw X.prog X.w X.K X.mg X.base g7 k f fd ps (OY X.K κ F))(hr:bO (k+1) X.A)(hm:X.mg x=some (.ref (κ.adr 0)))(hb:Binds X.K fd ps [])(ha:DA X κ (e::es) fs)(hg:autoParam (Gl X x) zR._auto_1)(uD:autoParam ((x==("__debug__" :Str))=false) zD._auto_1)
  (he:autoParam (starEach (e::es) X.env=(false,eval e X.env)::starEach es X.env) zR._auto_1)(hpl:autoParam ((backTo pos (starEach es X.env)).any (·.1)=false) zR._auto_1):JT X κ [.Return (some (.Call (.Name x p) (e::es) [] pos)) p1] (Cs F fs):=by
 obtain⟨ta,h1,h2⟩:=ha
 refine⟨_,j6 (oo (E1 M FO hr hg hm hb .nil kD h1 uD he hpl)),λ{G A bo own ρ σ H t D} r e' q=>?_⟩
 obtain⟨qs,e1,e2⟩:=Option.bind_eq_some_iff.mp e'
 refine h2 r e1 λvs H1 s1 z1=>?_
 intro x dx hx RE qi
 have r1:=r.mono s1
 rw[List.append_nil]
 generalize wV:upd (upd H1 dx (.own x)) x (.ins (κ.adr 0) dx [])=H2
 have g1:H2 x=some (.ins (κ.adr 0) dx []):=by rw[<-wV];exact aO
 have g2:∀b o,H1 b=some o->b≠x/\H2 b=some o:=λb o q=>by
  have n1:b≠x:=aW q hx
  rw[<-wV,au n1,au (aW q RE)]
  exact⟨n1,q⟩
 have g3:∀b,H2 b=none->H1 b=none:=λb q=>by
  cases z:H1 b with
  |none=>rfl
  |some o=>rw[(g2 b o z).2]at q;cases q
 refine⟨cG A own ρ,x,dx,vs,qs,t,rfl,λb hb z=>r1.Bt hb (g3 b z),g1,z1.mono λb o w=>?_,e2,λra sa H' n1 n2 s' T=>⟨rfl,?_⟩⟩
 ·obtain⟨w1,w2⟩:=cn w
  obtain⟨w3,w4⟩:=g2 b o w2
  rw[bj λz=>z.elim w1 w3]
  exact w4
 ·have sG:aE G H1:=r1.same
  refine q _ _ (λb o w=>?_) ⟨x,dx,ra,sa,rfl,sG.free hx,sG.free (g3 _ n1),sG.free (g3 _ n2),T.weak λb hb=>.inl hb⟩
  obtain⟨w1,w2⟩:=g2 b o (sG b o w)
  exact s' b o ((bj (A:=λb=>b=x) (H:=H2) w1).trans w2)
end
section
variable{P:Program}{w:World}{K:PySem.W.Frag}{mg:Str->Option Value}{base:Heap}{κ:Kl}
theorem Gg{x qual:Str}{st:Stmt}{f:Addr}{fd:FuncData}{N ps:List Str}{k:Nat}{g:bM->Option Tb}(F:uH K x qual st f fd)(S:d5 N ps (aj st))
  (hb:∀(eC:Value) (A:Around) (outer:List Env) (s:Shared) (H:Hp) (E:XK),bO k (A.deeper (envOfC qual (aj st) s.heap.objs.size f eC))->JT (ky g7 P w K mg base N qual (aj st) f eC A outer s H E).yk κ (cj st) g):
  cw P w K mg base g7 (k+1) f fd ps (spT K κ (Ky N.length ps.length g)):=by
 refine F.ok S (λvs H Q E h=>?_) (λeC A outer s H vs Q E hr h=>?_)
 ·obtain⟨A,qs,t,_,h1,h2,_⟩:=h
  unfold Ky at h2
  obtain⟨hk,_⟩:=d8 h2
  rw[h1.length]
  exact hk
 ·obtain⟨A',qs,t,al,h1,h2,q⟩:=h
  obtain⟨ts,a1,a2⟩:=hb eC A outer s H E hr
  refine⟨ts,a1,?_⟩
  unfold Ky at h2
  obtain⟨hk,h3⟩:=d8 h2
  exact a2 (R.entry al h1) h3 q
end
section
variable{X:Cx}{κ:Kl}{a b:Expr}{fa fb:Den}{elts:List Expr}{x1:Nat}{tp:Pos}
theorem Gh{p pos:Pos}(ha:DE X κ a fa)(hb:DE X κ b fb)(hm:X.mg "zip" =none)(hg:autoParam (Gl X "zip") zR._auto_1)(hs:autoParam (starEach [a,b] X.env=[(false,eval a X.env),(false,eval b X.env)]) zR._auto_1)(j9:autoParam (starEach [b] X.env=[(false,eval b X.env)]) zR._auto_1):
  CI X κ (.Tuple elts x1 tp) (.Call (.Name "zip" p) [a,b] [] pos) (oQ fa fb):=by
 obtain⟨ta,h1,h2⟩:=ha
 obtain⟨tb,h3,h4⟩:=hb
 refine⟨_,CO hg hm (bq h1 (bq h3 cc j9) (by rw[hs,j9])) hs j9,λ{G A bo own ρ σ H ps Q} r e q=>?_⟩
 obtain⟨p1,e1,e2⟩:=Option.bind_eq_some_iff.mp e
 obtain⟨p2,e3,e4⟩:=Option.bind_eq_some_iff.mp e2
 obtain⟨l,e5,e6⟩:=Option.bind_eq_some_iff.mp e4
 obtain⟨m,e7,e8⟩:=Option.bind_eq_some_iff.mp e6
 cases e8
 refine h2 r e1 λv H1 s1 z1=>h4 (r.mono s1) e3 λw H2 s2 z2=>?_
 cases p1<;>first|(cases e5;done)|skip
 cases e5
 cases p2<;>first|(cases e7;done)|skip
 cases e7
 have OL:=z1.mono (aF s2)
 cases OL with
 |lst y1 y2=>
  cases z2 with
  |lst y3 y4=>
   have f:aE (dX A own ρ H2) H2:=av
   exact⟨_,_,_,_,rfl,(f.sl y1).sq,(f.sl y3).sq,q _ H2 (s1.trans s2) (vh (f.sl y1) y2 (f.sl y3) y4)⟩
end
structure JU(K:PySem.W.Frag)(κ:Kl):Prop where
 fld:κ.fld=fC
 cls:yq K (κ.adr 0)
 n1:eI K (κ.adr 0) "rows"
 n2:eI K (κ.adr 0) "solved"
 n3:eI K (κ.adr 0) "costs"
 n4:eI K (κ.adr 0) "parts_of_one"
theorem JU.xq{K:PySem.W.Frag}{κ:Kl}(C:JU K κ):tO K κ:=⟨by rw[C.fld];rfl,C.cls,C.n1,C.n2,C.n3,C.n4⟩
theorem JU.Mo{K:PySem.W.Frag}{κ:Kl}(C:JU K κ)(f:Str):HC K κ f:=λc h=>by
 rw[C.fld]at h
 unfold fC at h
 split at h
 ·rename_i hc
  subst hc
  refine⟨C.cls,?_⟩
  have h':f= "rows" \/f= "solved" \/f= "costs" \/f= "parts_of_one" :=by simpa using h
  rcases h' with rfl|rfl|rfl|rfl
  ·exact C.n1
  ·exact C.n2
  ·exact C.n3
  ·exact C.n4
 ·cases h
theorem cy{X:Cx}{κ:Kl}{pos:Pos}{a:Expr}{fa:Den}{f:Str}(C:JU X.K κ)(ha:DB X κ a fa)(hb:autoParam (attributeBase a f X.env (eval a X.env)=eval a X.env) zR._auto_1):DE X κ (.Attribute a f pos) (aR (bY fC f) fa):=by
 rw[<-C.fld]
 exact JM ha (C.Mo f) hb
theorem eK{P:Program}{w:World}{K:PySem.W.Frag}{mg:Str->Option Value}{base:Heap}{κ:Kl}{fr:Bool}{m:Str}{k:Nat}{ps:List Str}{f:Addr}{fd:FuncData}{F:List PV->Option PV}(C:JU K κ)(hm:Meth K (κ.adr 0) m f)(FO:cw P w K mg base g7 k f fd ps (tE K κ fr F))(hb:Binds K fd ps [])(hn:autoParam (m∉fC 0) zD._auto_1):o6 P w K mg base κ fr m k ps (hV F):=λc xs p e=>by
 cases c with
 |zero=>exact⟨f,fd,C.cls,hm,by rw[C.fld];exact hn,FO,hb⟩
 |succ c=>cases e
noncomputable def RW(K:PySem.W.Frag)(κ:Kl)(A:Addr->Prop)(G H':Hp)(v:V)(p:PV):Prop:=∃(t1 t2 L:Addr) (b:Bool) (vs:List V) (l:List PV) (w:V) (q:PV),v=.ref t1/\p=.tup [.bl b,.tup [.lst l,q]]/\G L=none/\G t1=none/\G t2=none/\H' L=some (.lst vs)/\H' t1=some (.tup [.bl b,.ref t2])/\H' t2=some (.tup [.ref L,w])/\
 aT K κ (hide (λc=>A c\/c=L) H') vs l/\Rep K κ (hide (λc=>A c\/c=L) H') w q
noncomputable def O0(K:PySem.W.Frag)(κ:Kl)(F:List PV->Option PV):Sp:=λvs H Q _=>∃(A:Addr->Prop) (ps:List PV) (p:PV),(∀b,A b->H b≠none)/\aT K κ (hide A H) vs ps/\F ps=some p/\∀v H',aE H H'->RW K κ A H H' v p->Q v H'
noncomputable def RF(K:PySem.W.Frag)(κ:Kl)(ts:TS)(g:iN):Prop:=
 ∀{G A bo own ρ σ H p D},R K κ G A bo own ρ σ H->g ρ=some p->(∀v H',aE G H'->RW K κ A G H' v p->D.rt v H')->ts D σ H
noncomputable def EK(X:Cx)(κ:Kl)(st:List Stmt)(g:iN):Prop:=∃ts,rS X st ts/\RF X.K κ ts g
section
variable{X:Cx}{κ:Kl}{st:Stmt}{rest body:List Stmt}{g:aL}{g' ga:iN}{e a c:Expr}{es:List Expr}{fs:bX}{f fa:Den}{ft:cD}{pos p p1 p2 p3 p4 apos:Pos}{x y m:Str}{bb:Bool}
theorem vx(h1:DS X κ false st g)(h2:EK X κ rest g'):EK X κ (st::rest) (vb g g'):=by
 obtain⟨t1,a1,a2⟩:=h1
 obtain⟨t2,b1,b2⟩:=h2
 refine⟨_,dA a1 b1,λ{G A bo own ρ σ H t D} r e k=>?_⟩
 obtain⟨fl,e1,e2⟩:=Option.bind_eq_some_iff.mp e
 cases fl with
 |nx ρ'=>exact a2 r e1 λdq σ' H' r'=>b2 r' e2 k
 |rt p=>cases e2
 |bk ρ'=>cases e2
 |ct ρ'=>cases e2
theorem JV(hc:DT X κ c ft)(h1:EK X κ body ga)(h2:EK X κ rest g'):EK X κ (.If c body [] pos::rest) (Js ft ga g'):=by
 obtain⟨tc,c1,c2⟩:=hc
 obtain⟨t1,a1,a2⟩:=h1
 obtain⟨t2,b1,b2⟩:=h2
 refine⟨_,dA (Bz c1 a1 rV) b1,λ{G A bo own ρ σ H t D} r e k=>?_⟩
 obtain⟨q,e1,e2⟩:=Option.bind_eq_some_iff.mp e
 refine c2 r e1 λH' s=>?_
 cases q with
 |true=>
  rw[if_pos rfl]at e2⊢
  exact a2 (r.mono s) e2 k
 |false=>
  rw[if_neg Bool.false_ne_true]at e2⊢
  exact b2 (r.mono s) e2 k
theorem y9{x1 x2:Nat}{j:Nat}(h1:DO X κ e f)(h2:DE X κ a fa)
  (HD:autoParam (starEach [e,a] X.env=(false,eval e X.env)::starEach [a] X.env) zR._auto_1)(j9:autoParam (starEach [a] X.env=(false,eval a X.env)::starEach [] X.env) zR._auto_1)
  (Ad:autoParam (starEach [.Constant (.bool bb) j p1,.Tuple [e,a] x1 p2] X.env=(false,eval (.Constant (.bool bb) j p1) X.env)::starEach [.Tuple [e,a] x1 p2] X.env) zR._auto_1)(PL:autoParam (starEach [.Tuple [e,a] x1 p2] X.env=(false,eval (.Tuple [e,a] x1 p2) X.env)::starEach [] X.env) zR._auto_1):
  EK X κ [.Return (some (.Tuple [.Constant (.bool bb) j p1,.Tuple [e,a] x1 p2] x2 p3)) p4] (Ap bb f fa):=by
 obtain⟨t1,a1,a2⟩:=h1
 obtain⟨t2,b1,b2⟩:=h2
 refine⟨_,j6 (oo (wJ (bq yj (bq (wJ (bq a1 (bq b1 cc j9) HD)) cc PL) Ad))),λ{G A bo own ρ σ H p D} r e k=>?_⟩
 obtain⟨x,e1,e2⟩:=Option.bind_eq_some_iff.mp e
 obtain⟨y,e3,e4⟩:=Option.bind_eq_some_iff.mp e2
 cases e4
 refine a2 r e1 λv H1 s1 z1=>?_
 obtain⟨L,vs,l,rfl,rfl,l1,l2,l3⟩:=z1
 have r1:=r.mono s1
 have m:aE (dX A own ρ H) (dX (λb=>A b\/b=L) own ρ H1):=λb o q=>by
  obtain⟨q1,q2⟩:=cn q
  rw[dX,bj λz=>?_]
  ·exact s1 _ _ q2
  ·rcases z with(z|z)|z
   ·exact q1 (.inl z)
   ·rw[z,l1]at q2;cases q2
   ·exact q1 (.inr z)
 have big:=r1.big
 have nL:¬xc own ρ L:=λz=>r.new l1 (.inr z)
 have r2:R X.K κ (Bu own ρ H1) (λb=>A b\/b=L) bo own ρ σ H1:=by
  refine⟨λb hb=>?_,big.bg,big.same,λi p e=>?_,λi c e=>?_,r.inj,λi l e=>?_,r.len⟩
  ·rcases hb with hb|hb
   ·exact big.al b hb
   ·subst hb
    unfold Bu
    rw[bj nL,l2]
    simp
  ·obtain⟨v,y1,y2⟩:=r.sh i p e
   exact⟨v,y1,y2.mono m⟩
  ·obtain⟨y1,y2,vs,y3,y4⟩:=r.ow i c e
   exact⟨y1,(big.ow i c e).2.1,vs,s1 _ _ y3,y4.mono m⟩
  ·obtain⟨a,vs,y1,y2,y3⟩:=r.bw i l e
   exact⟨a,vs,y1,y2,y3.mono m⟩
 refine b2 r2 e3 λw H2 s2 z2=>?_
 refine⟨by show 2<=sizeLine;decide,λt2 n2=>⟨by show 2<=sizeLine;decide,λt1 n1=>?_⟩⟩
 have s3:aE H2 (upd H2 t2 (.tup [.ref L,w])):=bD n2
 have s4:aE (upd H2 t2 (.tup [.ref L,w])) (upd (upd H2 t2 (.tup [.ref L,w])) t1 (.tup [.bl bb,.ref t2])):=bD n1
 have Qb:=s3.trans s4
 have O1:=s2.trans Qb
 have g2:G t2=none:=r.same.free (s1.free (s2.free n2))
 have g1:G t1=none:=r.same.free (s1.free (s2.free (s3.free n1)))
 refine k _ _ ((r.same.trans s1).trans O1) ⟨t1,t2,L,bb,vs,l,w,y,rfl,rfl,r.same.free l1,g1,g2,O1 _ _ l2,aO,s4 _ _ aO,l3.mono (cQ O1 λb z _=>?_),z2.mono (cQ Qb λb z _=>.inl z)⟩
 rcases z with z|z
 ·exact .inl (.inl z)
 ·exact .inr z
end
section
variable{X:Cx}{κ:Kl}{st:Stmt}{rest body:List Stmt}{g:aL}{g' ga:iN}{e a c:Expr}{es:List Expr}{fs:bX}{f fa:Den}{ft:cD}{pos p p1 p2 p3 p4 apos:Pos}{x y m:Str}{bb:Bool}
theorem AO{gr:iN}{FT:List PV->Option Tb}{FS:Tb->List PV->Option Tb}{k1 k2:Nat}{f1 f2:Addr}{Qc Qe:FuncData}{Qf Qg:List Str}{pl:Sem Bool}{py:Pos}(C:tO X.K κ)(i:Nat)(hN:X.N.Nodup)
  (RG:cw X.prog X.w X.K X.mg X.base g7 k1 f1 Qc Qf (spT X.K κ FT))(RH:bO k1 X.A)(RJ:X.mg x=some (.ref f1))(PJ:PySem.W.keepIn X.K (.ref f1)=true)(EE:Binds X.K Qc Qf [])
  (hm:Meth X.K (κ.adr 0) m f2)(RK:cw X.prog X.w X.K X.mg X.base g7 k2 f2 Qe Qg (Nj X.K κ FS))(RL:bO k2 X.A)(Oh:Binds X.K Qe Qg [])(ha:DA X κ (e::es) fs)(Mp:EK X κ rest gr)
  (hi:autoParam (X.N[i]?=some y) zR._auto_1)(hx:autoParam (Loc X.env.scope y) zL._auto_1)(hv:autoParam (uA X.env.scope y) zV._auto_1)(hd:autoParam ((y==("__debug__" :Str))=false) zD._auto_1)(om:autoParam ((y==("__classdict__" :Str))=false) zD._auto_1)
  (hf:autoParam (X.fn y=true\/X.env.scope.names.lookup y=some .local) zF._auto_1)
  (hg:autoParam (Gl X x) zR._auto_1)(uD:autoParam ((x==("__debug__" :Str))=false) zD._auto_1)
  (he:autoParam (starEach (e::es) X.env=(false,eval e X.env)::starEach es X.env) zR._auto_1)(hpl:autoParam ((backTo pos (starEach es X.env)).any (·.1)=false) zR._auto_1)
  (HD:autoParam (swapsWith (.Call (.Name x p) (e::es) [] pos) (some (.Name y py)) p1.line X.env=pure false) zR._auto_1)
  (hn:∀u1 u2 u3 u4:V,List.lookup m [(("rows" :Str),u1),(("solved" :Str),u2),(("costs" :Str),u3),(("parts_of_one" :Str),u4)]=none:=by intros;rfl)
  (ht:autoParam (eval (.Call (.Attribute (.Name y p2) m apos) [] [] p3) X.env=(do
    let ov<-eval (.Name y p2) X.env
    standAt apos.atName
    let(f,first)<-holding [ov] (getMethod ov m pl)
    callWith p3 f first (backTo p3 (starEach [] X.env)) (backToKw p3 (keywordEach [] X.env)))) zR._auto_1)
  (j9:autoParam (swapsWith (.Call (.Attribute (.Name y p2) m apos) [] [] p3) none p4.line X.env=pure false) zR._auto_1):
  EK X κ (.Assign [.Name y py] (.Call (.Name x p) (e::es) [] pos) p1::.Expr (.Call (.Attribute (.Name y p2) m apos) [] [] p3) p4::rest) (oR i FT FS fs gr):=by
 obtain⟨ta,h1,h2⟩:=ha
 obtain⟨tr,h3,h4⟩:=Mp
 refine⟨_,dA (oq hN hi hx (nR RG RH hg RJ PJ EE .nil kD h1 uD he hpl) HD hf) (dA (j7 (BK (pl:=pl) (dh hi hv hd om) C.cls hm RK RL Oh .nil kD ht) j9) h3),λ{G A bo own ρ σ H fl D} r e' q=>?_⟩
 obtain⟨qs,e1,e2⟩:=Option.bind_eq_some_iff.mp e'
 obtain⟨t,e3,e4⟩:=Option.bind_eq_some_iff.mp e2
 obtain⟨t',e5,e6⟩:=Option.bind_eq_some_iff.mp e4
 obtain⟨hl,e7⟩:=d8 e6
 refine h2 r e1 λvs H1 s1 z1=>?_
 have r1:=r.mono s1
 rw[List.append_nil]
 refine⟨cG A own ρ,qs,t,λb hb=>r1.Bt hb,z1,e3,λv H2 s2 nt=>?_⟩
 obtain⟨x,dx,ra,sa,rfl,n1,n2,n3,T⟩:=nt
 obtain⟨cv,dv,o1,_,_⟩:=T.ob
 have r2:=r1.mono s2
 refine⟨.ref x,?_,x,dx,_,rfl,o1,hn _ _ _ _,?_⟩
 ·rw[List.getElem?_set,if_pos rfl,if_pos (by rw[r.len];exact hl)]
 ·refine⟨cG A own ρ,x,dx,ra,sa,t,t',[],[],rfl,λb hb=>r2.Bt hb,T,.nil,e5,λH3 s3 T3=>?_⟩
  have L5:aE H1 H3:=λb o w=>by
   have w1:=s3 b o (by
    rw[bj]
    ·exact s2 b o w
    ·rintro(z|z|z)
     ·rw[z,n1]at w;cases w
     ·rw[z,n2]at w;cases w
     ·rw[z,n3]at w;cases w)
   exact(cn w1).2
  have nx:¬cG A own ρ x:=λz=>r1.Bt z n1
  have nr:¬cG A own ρ ra:=λz=>r1.Bt z n2
  have ns:¬cG A own ρ sa:=λz=>r1.Bt z n3
  exact h4 ((r1.mono L5).set (T3.OT C nx nr ns)) e7 q
theorem RW.rep{K:PySem.W.Frag}{A:Addr->Prop}{G H':Hp}{v:V}{p:PV}(al:∀b,A b->G b≠none)(h:RW K κ A G H' v p):Rep K κ (hide A H') v p:=by
 obtain⟨t1,t2,L,b,vs,l,w,q,rfl,rfl,n0,n1,n2,h0,h1,h2,h3,h4⟩:=h
 have m:aE (hide (λc=>A c\/c=L) H') (hide A H'):=cQ (λ_ _ z=>z) λb z _=>.inl z
 have v0:hide A H' L=some (.lst vs):=by rw[bj λz=>al _ z n0];exact h0
 have v1:hide A H' t1=some (.tup [.bl b,.ref t2]):=by rw[bj λz=>al _ z n1];exact h1
 have v2:hide A H' t2=some (.tup [.ref L,w]):=by rw[bj λz=>al _ z n2];exact h2
 exact .tup (pY.of v1) (.cons (.bl b) (.cons (.tup (pY.of v2) (.cons (.lst (SL.of v0) (h3.mono m)) (.cons (h4.mono m) .nil))) .nil))
end
section
variable{P:Program}{w:World}{K:PySem.W.Frag}{mg:Str->Option Value}{base:Heap}{κ:Kl}
theorem Mq{x qual:Str}{st:Stmt}{f:Addr}{fd:FuncData}{N ps:List Str}{k:Nat}{g:iN}(F:uH K x qual st f fd)(S:d5 N ps (aj st))
  (hb:∀(eC:Value) (A:Around) (outer:List Env) (s:Shared) (H:Hp) (E:XK),bO k (A.deeper (envOfC qual (aj st) s.heap.objs.size f eC))->EK (ky g7 P w K mg base N qual (aj st) f eC A outer s H E).yk κ (cj st) g):
  cw P w K mg base g7 (k+1) f fd ps (O0 K κ (Kx N.length ps.length g)):=by
 refine F.ok S (λvs H Q E h=>?_) (λeC A outer s H vs Q E hr h=>?_)
 ·obtain⟨A,qs,t,_,h1,h2,_⟩:=h
  unfold Kx at h2
  obtain⟨hk,_⟩:=d8 h2
  rw[h1.length]
  exact hk
 ·obtain⟨A',qs,t,al,h1,h2,q⟩:=h
  obtain⟨ts,a1,a2⟩:=hb eC A outer s H E hr
  refine⟨ts,a1,?_⟩
  unfold Kx at h2
  obtain⟨hk,h3⟩:=d8 h2
  exact a2 (R.entry al h1) h3 q
theorem cw.Qh{k:Nat}{f:Addr}{fd:FuncData}{ps:List Str}{F:List PV->Option PV}(h:cw P w K mg base g7 k f fd ps (O0 K κ F)):cw P w K mg base g7 k f fd ps (tE K κ false F):=h.imp λvs H Q E ⟨A,qs,p,al,h1,h2,q⟩=>⟨A,qs,p,al,h1,h2,λv H' s z=>q v H' s (by
 unfold RR
 rw[if_neg Bool.false_ne_true]
 exact RW.rep al z)⟩
end
end L2.D
namespace L2.D.My
open PySem PySem.Spec PyProof.Rows PySem.SeqAt
section
variable{X:Cx}{κ:Kl}{a b:Expr}{fa fb:Den}
theorem Qi{i j:Int}:decide (V.int i=V.int j)=decide (i=j):=decide_eq_decide.mpr ⟨V.int.inj,congrArg _⟩
theorem Qj{i j:Str}:decide (V.str i=V.str j)=decide (i=j):=decide_eq_decide.mpr ⟨V.str.inj,congrArg _⟩
theorem Qk{i j:Bool}:decide (V.bl i=V.bl j)=decide (i=j):=decide_eq_decide.mpr ⟨V.bl.inj,congrArg _⟩
theorem zb{p q:PV}{r:Bool}(h:eqT p q=some r):(∃i j,p=.int i/\q=.int j/\r=decide (i=j))\/(∃i j,p=.str i/\q=.str j/\r=decide (i=j))\/∃i j,p=.bl i/\q=.bl j/\r=decide (i=j):=by
 unfold eqT at h
 split at h
 ·cases h;exact .inl ⟨_,_,rfl,rfl,rfl⟩
 ·cases h;exact .inr (.inl ⟨_,_,rfl,rfl,rfl⟩)
 ·cases h;exact .inr (.inr ⟨_,_,rfl,rfl,rfl⟩)
 ·cases h
theorem lS{k:Nat}(hr:bO k X.A)(ha:DB X κ a fa)(hb:DB X κ b fb):DC X κ .Eq a b (ah lA fa fb):=by
 obtain⟨ta,h1,h2⟩:=ha
 obtain⟨tb,h3,h4⟩:=hb
 refine⟨_,_,_,La,h1,h3,λ{G A bo own ρ σ H p Q} r e q=>?_⟩
 refine vd h2 h4 r e λx y p1 p2 H' s r' b1 b2 e'=>?_
 obtain⟨c,e1,rfl⟩:=Option.map_eq_some_iff.mp e'
 rcases zb e1 with⟨i,j,rfl,rfl,rfl⟩|⟨i,j,rfl,rfl,rfl⟩|⟨i,j,rfl,rfl,rfl⟩
 ·rw[b1.int,b2.int]
  exact⟨rfl,q _ H' s (by rw[Qi];exact .bl _)⟩
 ·rw[b1.str,b2.str]
  exact⟨rfl,q _ H' s (by rw[Qj];exact .bl _)⟩
 ·rw[b1.bl,b2.bl]
  exact⟨rfl,q _ H' s (by rw[Qk];exact .bl _)⟩
theorem lT{k:Nat}(hr:bO k X.A)(ha:DB X κ a fa)(hb:DB X κ b fb):DC X κ .NotEq a b (ah eJ fa fb):=by
 obtain⟨ta,h1,h2⟩:=ha
 obtain⟨tb,h3,h4⟩:=hb
 refine⟨_,_,_,Lb,h1,h3,λ{G A bo own ρ σ H p Q} r e q=>?_⟩
 refine vd h2 h4 r e λx y p1 p2 H' s r' b1 b2 e'=>?_
 have e2:Kw p1 p2=some p:=by cases p1<;>first|exact e'|(cases e';done)
 obtain⟨c,e1,rfl⟩:=Option.map_eq_some_iff.mp e2
 rcases zb e1 with⟨i,j,rfl,rfl,rfl⟩|⟨i,j,rfl,rfl,rfl⟩|⟨i,j,rfl,rfl,rfl⟩
 ·rw[b1.int,b2.int]
  exact⟨rfl,q _ H' s (by rw[Qi];exact .bl _)⟩
 ·rw[b1.str,b2.str]
  exact⟨rfl,q _ H' s (by rw[Qj];exact .bl _)⟩
 ·rw[b1.bl,b2.bl]
  exact⟨rfl,q _ H' s (by rw[Qk];exact .bl _)⟩
end
structure Ed(K:PySem.W.Frag)(mg:Str->Option Value)(x:Str)(st:Stmt)(ps:List Str)(f:Addr)(fd:FuncData):Prop where
 F:L2.uH K x x st f fd
 b:L2.Binds K fd ps []
 m:mg x=some (.ref f)
inductive FA(K:PySem.W.Frag)(x q:Str)(st:Stmt)(f:Addr):Prop where
 |mk {od an:Option Addr} {sl:Array (Option Value)} {oc kV dc pm cd ct:Value}
  (l:K.lookup f=some ⟨oc,od,.func (PySem.W.fnOf x q (gn st) (cj st) (aj st) .none kV dc pm an cd ct),sl⟩)
  (c:PySem.W.codeIn K cd q=true) (k:PySem.W.keepIn K (.ref f)=true):FA K x q st f
theorem FA.kp{K:PySem.W.Frag}{x q:Str}{st:Stmt}{f:Addr}:FA K x q st f->PySem.W.keepIn K (.ref f)=true
 |.mk _ _ k=>k
theorem FA.em{K:PySem.W.Frag}{x q:Str}{st:Stmt}{f:Addr}(ps:List Str)(h:FA K x q st f)
  (b:∀(kV dc pm:Value) (an:Option Addr) (cd ct:Value) (us:List Value),us.length=ps.length->bindArgs (PySem.W.fnOf x q (gn st) (cj st) (aj st) .none kV dc pm an cd ct) ⟨us,[]⟩=pure (ps.zip us):=by
    intro _ _ _ _ _ _ us hl
    first
     |(obtain⟨a,rfl⟩:=JN hl;rfl)
     |(obtain⟨a,b,rfl⟩:=Mf hl;rfl)
     |(obtain⟨a,b,c,rfl⟩:=Mh hl;rfl)
     |(obtain⟨a,b,c,d,rfl⟩:=Mi hl;rfl)):∃fd,Em K x q st ps f fd:=by
 obtain⟨l,c,k⟩:=h
 have F:=BU l c k
 exact⟨_,F,F.binds b⟩
inductive FG(K:PySem.W.Frag)(x:Str)(st:Stmt)(f:Addr):Prop where
 |mk (a:PySem.W.nsIn K mainGlobals x=some (some (.ref f))) (e:FA K x x st f):FG K x st f
inductive FC(K:PySem.W.Frag)(C:Addr)(x q:Str)(st:Stmt)(f:Addr):Prop where
 |mk (a:PySem.W.findIn K (.ref C) x=some (some (.ref f))) (n:PySem.W.isFn K (.ref f)=true) (e:FA K x q st f):FC K C x q st f
theorem FC.e{K:PySem.W.Frag}{C:Addr}{x q:Str}{st:Stmt}{f:Addr}:FC K C x q st f->FA K x q st f
 |.mk _ _ e=>e
theorem FC.m{K:PySem.W.Frag}{C:Addr}{x q:Str}{st:Stmt}{f:Addr}:FC K C x q st f->Meth K C x f
 |.mk a n e=>⟨a,n,e.kp⟩
theorem FG.ed{h:Heap}{K:PySem.W.Frag}{mg:Str->Option Value}{x:Str}{st:Stmt}{f:Addr}(ps:List Str)(X:K.In h)(G:h.Ns mainGlobals mg)(e:FG K x st f)
  (b:∀(kV dc pm:Value) (an:Option Addr) (cd ct:Value) (us:List Value),us.length=ps.length->bindArgs (PySem.W.fnOf x x (gn st) (cj st) (aj st) .none kV dc pm an cd ct) ⟨us,[]⟩=pure (ps.zip us):=by
    intro _ _ _ _ _ _ us hl
    first
     |(obtain⟨a,rfl⟩:=JN hl;rfl)
     |(obtain⟨a,b,rfl⟩:=Mf hl;rfl)
     |(obtain⟨a,b,c,rfl⟩:=Mh hl;rfl)
     |(obtain⟨a,b,c,d,rfl⟩:=Mi hl;rfl)):∃fd,Ed K mg x st ps f fd:=by
 obtain⟨a,e⟩:=e
 obtain⟨fd,e⟩:=e.em ps b
 exact⟨fd,e.F,e.b,PySem.W.mg_of X G a⟩
structure Qd(P:Program)(w:World)(mg:Str->Option Value)(base:Heap)(κ:Kl):Prop
section
variable{P:Program}{w:World}{K:PySem.W.Frag}{mg:Str->Option Value}{base:Heap}{κ:Kl}{x q:Str}{st:Stmt}{ps:List Str}{f:Addr}{fd:FuncData}
theorem FD{fr:Bool}{g:aL}(_:Qd P w mg base κ)(d:L2.uH K x q st f fd)(_:L2.Binds K fd ps [])(F:List PV->Option PV)(N:List Str)(k:Nat)(e:F=fn fr N.length ps.length g)
 (hb:∀(eC:Value) (A:Around) (outer:List Env) (s:Shared) (H:Hp) (E:XK),bO k (A.deeper (envOfC q (aj st) s.heap.objs.size f eC))->N.Nodup->Bv (ky g7 P w K mg base N q (aj st) f eC A outer s H E).yk κ fr (cj st) g)
 (S:d5 N ps (aj st):=by exact⟨rfl,rfl,rfl,by decide+kernel,rfl,by decide+kernel,by decide+kernel⟩):
 cw P w K mg base g7 (k+1) f fd ps (tE K κ fr F):=e▸FQ d S λc A o s H E hr=>hb c A o s H E hr S.nd
theorem FM{g:eu}(_:Qd P w mg base κ)(d:L2.uH K x q st f fd)(_:L2.Binds K fd ps [])(F:Tb->List PV->Option Tb)(N:List Str)(k:Nat)(e:F=Hv N.length ps.length g)
 (hb:∀(eC:Value) (A:Around) (outer:List Env) (s:Shared) (H:Hp) (E:XK),bO k (A.deeper (envOfC q (aj st) s.heap.objs.size f eC))->N.Nodup->EJ (ky g7 P w K mg base N q (aj st) f eC A outer s H E).yk κ (cj st) g)
 (S:d5 N ps (aj st):=by exact⟨rfl,rfl,rfl,by decide+kernel,rfl,by decide+kernel,by decide+kernel⟩):
 cw P w K mg base g7 (k+1) f fd ps (Nj K κ F):=e▸F9 d S λc A o s H E hr=>hb c A o s H E hr S.nd
theorem FI{g:bM->Option Tb}(_:Qd P w mg base κ)(d:L2.uH K x q st f fd)(_:L2.Binds K fd ps [])(F:List PV->Option Tb)(N:List Str)(k:Nat)(e:F=Kz N.length ps.length g)
 (hb:∀(eC:Value) (A:Around) (outer:List Env) (s:Shared) (H:Hp) (E:XK),bO k (A.deeper (envOfC q (aj st) s.heap.objs.size f eC))->N.Nodup->IB (ky g7 P w K mg base N q (aj st) f eC A outer s H E).yk κ (cj st) g)
 (S:d5 N ps (aj st):=by exact⟨rfl,rfl,rfl,by decide+kernel,rfl,by decide+kernel,by decide+kernel⟩):
 cw P w K mg base g7 (k+1) f fd ps (OY K κ F):=e▸C6 d S λc A o s H E hr=>hb c A o s H E hr S.nd
theorem FT{g:bM->Option Tb}(_:Qd P w mg base κ)(d:L2.uH K x q st f fd)(_:L2.Binds K fd ps [])(F:List PV->Option Tb)(N:List Str)(k:Nat)(e:F=Ky N.length ps.length g)
 (hb:∀(eC:Value) (A:Around) (outer:List Env) (s:Shared) (H:Hp) (E:XK),bO k (A.deeper (envOfC q (aj st) s.heap.objs.size f eC))->N.Nodup->JT (ky g7 P w K mg base N q (aj st) f eC A outer s H E).yk κ (cj st) g)
 (S:d5 N ps (aj st):=by exact⟨rfl,rfl,rfl,by decide+kernel,rfl,by decide+kernel,by decide+kernel⟩):
 cw P w K mg base g7 (k+1) f fd ps (spT K κ F):=e▸Gg d S λc A o s H E hr=>hb c A o s H E hr S.nd
theorem FW{g:iN}(_:Qd P w mg base κ)(d:L2.uH K x q st f fd)(_:L2.Binds K fd ps [])(F:List PV->Option PV)(N:List Str)(k:Nat)(e:F=Kx N.length ps.length g)
 (hb:∀(eC:Value) (A:Around) (outer:List Env) (s:Shared) (H:Hp) (E:XK),bO k (A.deeper (envOfC q (aj st) s.heap.objs.size f eC))->N.Nodup->EK (ky g7 P w K mg base N q (aj st) f eC A outer s H E).yk κ (cj st) g)
 (S:d5 N ps (aj st):=by exact⟨rfl,rfl,rfl,by decide+kernel,rfl,by decide+kernel,by decide+kernel⟩):
 cw P w K mg base g7 (k+1) f fd ps (O0 K κ F):=e▸Mq d S λc A o s H E hr=>hb c A o s H E hr S.nd
end
end L2.D.My
namespace L2.D
open PySem PySem.Spec PyProof.Rows PySem.SeqAt
section
variable{X:Cx}{κ:Kl}{pos:Pos}{a:Expr}{fa:Den}
theorem JW:jw X (compareOp .Is) (λx y H Q=>∃b c,x=.bl b/\y=.bl c/\Q (.bl (b==c)) H):=by
 intro pins s σ H x y v u Q I rx ry h
 obtain⟨b,c,rfl,rfl,q⟩:=h
 cases rx
 cases ry
 exact is_bool (bz I q rfl)
theorem Gi:jw X (compareOp .IsNot) (λx y H Q=>∃b c,x=.bl b/\y=.bl c/\Q (.bl !(b==c)) H):=by
 intro pins s σ H x y v u Q I rx ry h
 obtain⟨b,c,rfl,rfl,q⟩:=h
 cases rx
 cases ry
 exact isnot_bool (bz I q rfl)
theorem JX{c:Bool}{j pos'}(ha:DB X κ a fa):DC X κ .Is a (.Constant (.bool c) j pos') (aR (LW c) fa):=by
 obtain⟨ta,h1,h2⟩:=ha
 refine⟨_,_,_,JW,h1,yj,λ{G A bo own ρ σ H p Q} r e q=>?_⟩
 obtain⟨p1,e1,e2⟩:=Option.bind_eq_some_iff.mp e
 refine h2 r e1 λx H1 s1 b1=>?_
 cases p1<;>first|(cases e2;done)|skip
 cases e2
 exact⟨_,_,b1.bl,rfl,q _ H1 s1 (.bl _)⟩
theorem Gj{c:Bool}{j pos'}(ha:DB X κ a fa):DC X κ .IsNot a (.Constant (.bool c) j pos') (aR (Ct c) fa):=by
 obtain⟨ta,h1,h2⟩:=ha
 refine⟨_,_,_,Gi,h1,yj,λ{G A bo own ρ σ H p Q} r e q=>?_⟩
 obtain⟨p1,e1,e2⟩:=Option.bind_eq_some_iff.mp e
 refine h2 r e1 λx H1 s1 b1=>?_
 cases p1<;>first|(cases e2;done)|skip
 cases e2
 exact⟨_,_,b1.bl,rfl,q _ H1 s1 (.bl _)⟩
theorem AQ(hc:X.calm=true):gH X (.builtin "sum") (λxs H Q=>∃(p:Addr) (ns:List Int),xs=[.ref p]/\fQ X.K H p (ns.map V.int)/\Q (.int ns.sum) H):=by
 intro pins s σ H xs us Q I r h
 obtain⟨p,ns,rfl,hq,q⟩:=h
 obtain⟨u,rfl,ru⟩:=vals1 r
 cases ru
 obtain⟨its,rv,pl,hz⟩:=I.list hq
 have eS:p<s.heap.objs.size:=by
  obtain⟨o,ho,_⟩:=pl.isList
  exact Heap.lt_size ho
 have qi:p≠s.heap.objs.size:=Nat.ne_of_lt eS
 have hh:X.A.in1.handled=none:=I.ok.hd hc
 have hl:=rv.length
 rw[List.length_map]at hl
 refine call_sum_walkG (wpAny_pyIter_list pl.isList ⟨s.heap.objs.size,_,_,_,_,_,(λi=>ns.getD i 0),rfl,Walks.list hh s.heap.objs.size p qi its.toArray,?_,?_,λi v hv=>qV rv i v (by simpa using hv),λh' tk t' k=>?_⟩)
 ·exact⟨⟨_,Heap.get?_push_size _ rfl,rfl,rfl⟩,pl.isList.at λo e=>Heap.get?_push_of_some _ e⟩
 ·intro b hb
  have:b=s.heap.objs.size\/b=p:=by simpa using hb
  show b<(s.heap.push _).objs.size
  rw[show∀o,(s.heap.push o).objs.size=s.heap.objs.size+1 from λo=>Array.size_push ..]
  rcases this with rfl|rfl
  ·exact Nat.lt_succ_self _
  ·exact Nat.lt_succ_of_lt eS
 ·rw[List.size_toArray,<-hl,lP ns ns.length (Nat.le_refl _),List.take_length]
  refine⟨.int _,H,I.kept (t':=tk) λb o e=>k b o (λz=>?_) (Heap.get?_push_of_some _ e),⟨_,rfl⟩,q⟩
  obtain rfl:b=s.heap.objs.size:=by simpa using z
  exact Nat.lt_irrefl _ (Heap.lt_size e)
theorem zc{p:Pos}(ha:DB X κ a fa)(hm:X.mg "sum" =none)(hg:autoParam (Gl X "sum") zR._auto_1)(hc:autoParam (X.calm=true) zR._auto_1)(hs:autoParam (starEach [a] X.env=(false,eval a X.env)::starEach [] X.env) zR._auto_1):DE X κ (.Call (.Name "sum" p) [a] [] pos) (aR oS fa):=by
 obtain⟨ta,h1,h2⟩:=ha
 refine⟨_,iJ (AQ hc) hg hm PyProof.Rows.boot_sum (bq h1 cc hs) (he:=hs),λ{G A bo own ρ σ H p Q} r e q=>?_⟩
 obtain⟨p1,e1,e2⟩:=Option.bind_eq_some_iff.mp e
 refine h2 r e1 λx H1 s1 b1=>?_
 cases p1<;>first|(cases e2;done)|skip
 obtain⟨ns,e3,rfl⟩:=Option.map_eq_some_iff.mp e2
 obtain⟨a,vs,rfl,q1,q2⟩:=b1.lst av
 rw[tM q2 e3]at q1
 exact⟨a,ns,rfl,q1.sq,q _ H1 s1 (.int _)⟩
end
end L2.D
namespace L2.D
open PySem
theorem o9(a b:Nat):Builtin.bitAnd (a:Int) (b:Int)=((a&&&b:Nat):Int):=by
 unfold Builtin.bitAnd
 rw[decide_eq_true (by omega),decide_eq_true (by omega)]
 simp
theorem Gk(k:Nat):(1:Int)*2^((k:Int).toNat)=((2^k:Nat):Int):=by
 rw[Int.toNat_natCast]
 simp
noncomputable def Ql(p:Nat->Nat->Bool):Bool:=(List.range 64).all λa=>(List.range 64).all λb=>p a b
theorem JY{p:Nat->Nat->Bool}(h:Ql p=true){a b:Nat}(ha:a<64)(hb:b<64):p a b=true:=
 List.all_eq_true.mp (List.all_eq_true.mp h a (List.mem_range.mpr ha)) b (List.mem_range.mpr hb)
noncomputable def Mr(p:Nat->Bool):Bool:=(List.range 64).all p
theorem zd{p:Nat->Bool}(h:Mr p=true){a:Nat}(ha:a<64):p a=true:=List.all_eq_true.mp h a (List.mem_range.mpr ha)
end L2.D
namespace L2.D
theorem xt(c:Int)(n:Nat)(h:0<n):∃a:Nat,a<n/\c %(n:Int)=(a:Int):=by
 have h1:=Int.emod_nonneg c (show(n:Int)≠0 by omega)
 have h2:=Int.emod_lt_of_pos c (show(0:Int)<n by omega)
 exact⟨(c %(n:Int)).toNat,by omega,by omega⟩
theorem O2{n:Nat}(h:n<=100000):kE (n:Int)=true:=by
 unfold kE
 simp
 omega
theorem O3{k n:Nat}(h:k<n)(hn:autoParam (n<=1000) zD._auto_1):m9 1 (k:Int)=true:=by
 unfold m9
 simp
 omega
end L2.D
namespace L2.D
open PySem
theorem mO(x y:Int)(xs ys:List Int):mH (x::xs) (y::ys)=if x=y then mH xs ys else decide (x<y):=rfl
theorem q9:∀xs:List Int,mH xs xs=false
 |[]=>rfl
 |x::xs=>by rw[mO,if_pos rfl,q9 xs]
noncomputable def Nl(o:Option PV)(l:List Nat):Bool:=match o with
 |some (.lst ps)=>match eo ps with
  |some xs=>xs==l.map (λ(n:Nat)=>(n:Int))
  |none=>false
 |_=>false
theorem gD:∀xs:List Int,eo (xs.map PV.int)=some xs
 |[]=>rfl
 |x::xs=>by
  rw[List.map_cons]
  unfold eo
  rw[gD xs]
  rfl
theorem vy:∀{ps:List PV} {xs:List Int},eo ps=some xs->ps=xs.map PV.int
 |[],xs,h=>by cases h;rfl
 |p::ps,xs,h=>by
  cases p<;>first|(cases h;done)|skip
  obtain⟨cs,h1,rfl⟩:=Option.map_eq_some_iff.mp h
  rw[List.map_cons,<-vy h1]
noncomputable abbrev aa(l:List Nat):PV:=.lst (l.map λ(n:Nat)=>PV.int (n:Int))
theorem C8{o:Option PV}{l:List Nat}(h:Nl o l=true):o=some (aa l):=by
 unfold Nl at h
 split at h
 ·split at h
  ·rename_i ps xs e
   have:=eq_of_beq h
   subst this
   rw[vy e,List.map_map]
   rfl
  ·cases h
 ·cases h
noncomputable abbrev ih(g:Nat):List Int:=(Mt.bR g).map λ(n:Nat)=>(n:Int)
noncomputable def AR(a b:Nat):Bool:=if(ih a).length=(ih b).length then mH (ih a) (ih b)else decide ((ih a).length<(ih b).length)
noncomputable def lU:aL:=jC (tV (ah eJ (dV 4) (dV 5))) (bu (ah mG (dV 4) (dV 5))) cF
theorem kn(g:yI)(body:aL)(x:PV)(xs:List PV)(ρ:bM):forL g body (x::xs) ρ=(g x ρ).bind λρ1=>(body ρ1).bind λf=>match f with
 |.nx ρ'=>forL g body xs ρ'
 |.ct ρ'=>forL g body xs ρ'
 |.bk ρ'=>some (.nx ρ')
 |.rt p=>some (.rt p):=rfl
theorem C9(s0 s1 s2 s3:Slot)(x y:Int):lU [s0,s1,s2,s3,.sh (.int x),.sh (.int y)]=if x=y then some (.nx [s0,s1,s2,s3,.sh (.int x),.sh (.int y)])else some (.rt (.bl (decide (x<y)))):=by
 by_cases h:x=y<;>simp[lU,jC,tV,ah,dV,eJ,Kw,mG,bu,cF,wq,Slot.val,eqT,h]
theorem ze(s0 s1 s2 s3:Slot):∀(xs ys:List Int) (s4 s5:Slot),xs.length=ys.length->
  (xs=ys/\∃t4 t5,forL (jD (aZ 4) (aZ 5)) lU (List.zipWith (λx y=>PV.tup [x,y]) (xs.map PV.int) (ys.map PV.int)) [s0,s1,s2,s3,s4,s5]=some (.nx [s0,s1,s2,s3,t4,t5]))\/
  forL (jD (aZ 4) (aZ 5)) lU (List.zipWith (λx y=>PV.tup [x,y]) (xs.map PV.int) (ys.map PV.int)) [s0,s1,s2,s3,s4,s5]=some (.rt (.bl (mH xs ys)))
 |[],[],s4,s5,_=>.inl ⟨rfl,s4,s5,rfl⟩
 |x::xs,y::ys,s4,s5,h=>by
  simp only[List.map_cons,List.zipWith_cons_cons,kn]
  have g1:jD (aZ 4) (aZ 5) (.tup [.int x,.int y]) [s0,s1,s2,s3,s4,s5]=some [s0,s1,s2,s3,.sh (.int x),.sh (.int y)]:=rfl
  rw[g1]
  simp only[Option.bind_some,C9]
  by_cases Ju:x=y
  ·subst Ju
   rcases ze s0 s1 s2 s3 xs ys (.sh (.int x)) (.sh (.int x)) (by simpa using h)with⟨h1,t4,t5,e⟩|e
   ·subst h1
    refine .inl ⟨rfl,t4,t5,?_⟩
    rw[if_pos rfl]
    exact e
   ·refine .inr ?_
    rw[if_pos rfl,mO,if_pos rfl]
    exact e
  ·refine .inr ?_
   rw[if_neg Ju,mO,if_neg Ju]
   rfl
 |[],_::_,_,_,h=>by simp at h
 |_::_,[],_,_,h=>by simp at h
noncomputable def tQ(F:List PV->Option PV):aL:=aX (cK 2 (aK F (ag (aQ 0) ax))) (aX (cK 3 (aK F (ag (aQ 1) ax))) (aX (jC (tV (ah eJ (aR bH (dV 2)) (aR bH (dV 3)))) (bu (ah mG (aR bH (dV 2)) (aR bH (dV 3)))) cF)
 (aX (ix (oQ (aQ 2) (aQ 3)) (jD (aZ 4) (aZ 5)) lU) (bu (dC (.bl false))))))
theorem Gm{F:List PV->Option PV}{a b:PV}{l m:List PV}{xs ys:List Int}(h1:F [a]=some (.lst l))(h2:F [b]=some (.lst m))(e1:l=xs.map PV.int)(e2:m=ys.map PV.int):
  fn false 6 2 (tQ F) [a,b]=some (.bl (if xs.length=ys.length then mH xs ys else decide (xs.length<ys.length))):=by
 have l1:l.length=xs.length:=by rw[e1,List.length_map]
 have l2:m.length=ys.length:=by rw[e2,List.length_map]
 simp only[fn,dJ,tQ]
 simp-implicitDefEqProofs [h1,h2,aX,cK,jC,tV,ah,aR,dV,aQ,dC,ag,ax,aK,eJ,Kw,mG,bH,bu,cF,ix,oQ,sS,wq,jB,Slot.val,Slot.Ak,eqT]
 rw[l1,l2]
 by_cases hl:xs.length=ys.length
 ·simp[hl,aX,cK,jC,tV,ah,aR,dV,aQ,dC,ag,ax,aK,eJ,Kw,mG,bH,bu,cF,ix,oQ,sS,wq,jB,Slot.val,Slot.Ak,eqT]
  have z:=ze (.sh a) (.sh b) (.sh (.lst l)) (.sh (.lst m)) xs ys .un .un hl
  rw[<-e1,<-e2]at z
  rcases z with⟨h3,t4,t5,e⟩|e
  ·rw[e]
   subst h3
   simp-implicitDefEqProofs [q9,bu,dC,sS]
  ·rw[e]
   simp[sS]
 ·have MR:¬(xs.length:Int)=(ys.length:Int):=by omega
  simp-implicitDefEqProofs [hl,MR,aX,cK,jC,tV,ah,aR,dV,aQ,dC,ag,ax,aK,eJ,Kw,mG,bH,bu,cF,ix,oQ,sS,wq,jB,Slot.val,Slot.Ak,eqT]
theorem JZ{F:List PV->Option PV}(hF:∀g:Nat,g<64->F [.int g]=some (aa (Mt.bR g))){a b:Nat}(ha:a<64)(hb:b<64):fn false 6 2 (tQ F) [.int a,.int b]=some (.bl (AR a b)):=
 Gm (hF a ha) (hF b hb) (by simp[ih]) (by simp[ih])
end L2.D
namespace L2.D.Sh
open PySem
noncomputable def kR:aL:=(bu (ah lA (ah iw (ah w9 (dV 0) (dV 1)) (dC (.int 1))) (dC (.int 1))))
noncomputable def kT(cT:List PV->Option PV):aL:=(bu (aV (cL (aR Co (dV 0))) (tV (aK cT (ag (aQ 1) (ag (aQ 0) ax)))) (aQ 0)))
noncomputable def lV(fJ:List PV->Option PV):aL:=(aX (cK 1 (aK fJ (ag (aQ 0) ax))) (bu (Al (ag (aR bH (dV 1)) (ag (aQ 1) ax)))))
noncomputable def jL:aL:=(bu (aV (cL (dC (.int 6))) (tV (ah lA (ah iw (ah w9 (dV 1) (dV 0)) (dC (.int 1))) (dC (.int 1)))) (aQ 0)))
noncomputable def iA:aL:=(aX (jC (tV (ah mG (dV 1) (aR bH (dV 0)))) (bu (ah cS (dV 0) (dV 1))) cF) (bu (dC (.int 0))))
noncomputable def lW:aL:=(bu (ah lA (ah iw (dV 0) (dV 1)) (dV 0)))
noncomputable def tR(iR:List PV->Option PV):aL:=(bu (aR Fn (aV (nList (dV 0)) a9 (aK iR (ag (aQ 0) (ag (aQ 2) ax))))))
noncomputable def eO(F_place dw:List PV->Option PV):aL:=(jC (js (tV (sP dw (ag (dV 1) (ag (dV 2) ax))))) (lI 1 eF (ag (aQ 2) ax)) cF)
noncomputable def nY(F_place dw:List PV->Option PV):aL:=(aX (lH 1 (g9 ax)) (aX (ix (nList (ng (nList (dV 0)))) (aZ 2) (eO F_place dw)) (u5 1)))
noncomputable def gM(ao:List PV->Option PV):aL:=(jC (tV (ah eJ (dV 4) (dV 5))) (bu (ah mG (dV 4) (dV 5))) cF)
noncomputable def i7(ao:List PV->Option PV):aL:=(aX (cK 2 (aK ao (ag (aQ 0) ax))) (aX (cK 3 (aK ao (ag (aQ 1) ax))) (aX (jC (tV (ah eJ (aR bH (dV 2)) (aR bH (dV 3)))) (bu (ah mG (aR bH (dV 2)) (aR bH (dV 3)))) cF) (aX (ix (oQ (aQ 2) (aQ 3)) (jD (aZ 4) (aZ 5)) (gM ao)) (bu (dC (.bl false)))))))
noncomputable def fN(bt:List PV->Option PV):aL:=(cK 4 (ah cg (dV 4) (dC (.int 1))))
noncomputable def dH(bt:List PV->Option PV):aL:=(aX (cK 3 (aV (nList (dV 0)) (jr (tV (ah lA (ah iw (dV 0) (dV 3)) (dV 0))) (tV (ah eJ (dV 0) (dV 3)))) (aQ 0))) (jC (jr (tV (ah lA (aR bH (dV 3)) (dC (.int 0)))) (tV (ah jA (dV 2) (dV 1)))) (aX (cK 4 (dC (.int 0))) (aX (eV (jr (tV (ah mG (dV 4) (aR bH (dV 1)))) (tV (aK bt (ag (ah cS (dV 1) (dV 4)) (ag (aQ 2) ax))))) (fN bt) 1000) (lI 1 kh (ag (aQ 4) (ag (aQ 2) ax))))) cF))
noncomputable def hZ(bt:List PV->Option PV):aL:=(aX (lH 1 (g9 ax)) (aX (ix (nList (aQ 0)) (aZ 2) (dH bt)) (u5 1)))
noncomputable def cz:aL:=(jC (tV (ah lA (ah iw (dV 2) (dV 1)) (dV 2))) (bu (dC (.bl true))) cF)
noncomputable def kU:aL:=(aX (ix (nList (aQ 0)) (aZ 2) cz) (bu (dC (.bl false))))
noncomputable def ic(F_place:List PV->Option PV):aL:=(bu (ng (cL (ah qk (dC (.int 1)) (dV 0)))))
noncomputable def gw:aL:=(bu (aR Fo (aV (nList (dV 1)) a9 (ah eJ (ah iw (dV 1) (dV 0)) (dC (.int 0))))))
noncomputable def i8(gz cB bZ:List PV->Option PV):aL:=(bu (aK gz (ag (aV (nList (aK cB (ag (aQ 0) ax))) (tV (aK bZ (ag (aQ 0) (ag (aQ 2) ax)))) (aQ 0)) ax)))
end L2.D.Sh
namespace L2.D
open PySem
noncomputable abbrev Qm:=fn false 2 2 Sh.kR
noncomputable abbrev O4:=fn true 1 1 (Sh.kT Qm)
noncomputable abbrev Nm:=fn false 2 1 (Sh.lV O4)
noncomputable abbrev O5:=fn true 1 1 Sh.jL
noncomputable abbrev Qn:=fn false 6 2 (Sh.i7 O5)
noncomputable abbrev RM:=fn false 2 2 Sh.iA
noncomputable abbrev Qo:=fn false 2 2 Sh.lW
noncomputable abbrev Flt:=fn false 2 2 (Sh.tR Qo)
noncomputable abbrev Qp:=fn true 3 1 (Sh.nY Nm Flt)
theorem rd:Mr (λg=>Nl (O4 [.int g]) (Mt.bR g)&&Nl (O5 [.int g]) (Mt.bR g))=true:=by decide+kernel
theorem Dc(g:Nat)(h:g<64):O4 [.int g]=some (aa (Mt.bR g)):=C8 (by have:=zd rd h;rw[Bool.and_eq_true]at this;exact this.1)
theorem rg(g:Nat)(h:g<64):O5 [.int g]=some (aa (Mt.bR g)):=C8 (by have:=zd rd h;rw[Bool.and_eq_true]at this;exact this.2)
theorem AS{a b:Nat}(ha:a<64)(hb:b<64):Qn [.int a,.int b]=some (.bl (AR a b)):=JZ rg ha hb
theorem AU{F:List PV->Option PV}{g:PV}{l:List PV}(h:F [g]=some (.lst l)):fn false 2 1 (Sh.lV F) [g]=some (.tup [.int l.length,.lst l]):=by
 have sz:(2:Nat)<=sizeLine:=by decide
 simp-implicitDefEqProofs [fn,dJ,Sh.lV,h,sz,aX,cK,aK,ag,ax,aQ,Slot.Ak,bu,Al,aR,bH,dV,Slot.val,sS]
theorem Dd{g:Nat}(h:g<64):Nm [.int g]=some (.tup [.int (ih g).length,.lst ((ih g).map PV.int)]):=by
 have e:(aa (Mt.bR g))=.lst ((ih g).map PV.int):=by simp[aa,ih]
 have:=Dc g h
 rw[e]at this
 refine(AU this).trans ?_
 rw[List.length_map]
theorem tS:Ql (λa b=>AR a b==decide (Mt.rank a<Mt.rank b))=true:=by decide+kernel
theorem rh{a b:Nat}(ha:a<64)(hb:b<64):AR a b=decide (Mt.rank a<Mt.rank b):=eq_of_beq (JY tS ha hb)
theorem tT{n:Int}(h:mf n=true):n.toNat<64/\n=((n.toNat:Nat):Int):=by
 unfold mf at h
 simp only[Bool.and_eq_true,decide_eq_true_eq]at h
 omega
theorem xu:gp Nm:=by
 refine⟨λn=>(ih n.toNat).length,λn=>ih n.toNat,λn hn=>?_,λn m hn hm=>?_⟩
 ·obtain⟨h1,h2⟩:=tT hn
  have:=Dd h1
  rw[<-h2]at this
  exact this
 ·obtain⟨h1,h2⟩:=tT hn
  obtain⟨h3,h4⟩:=tT hm
  have:=rh h1 h3
  unfold AR at this
  unfold hU
  rw[<-this]
  by_cases h:(ih n.toNat).length=(ih m.toNat).length
  ·rw[if_pos h,if_pos (show(((ih n.toNat).length:Nat):Int)=((ih m.toNat).length:Nat) by rw[h])]
  ·rw[if_neg h,if_neg (show¬(((ih n.toNat).length:Nat):Int)=((ih m.toNat).length:Nat) by omega)]
   simp
theorem AV(a b:Nat):Qo [.int a,.int b]=some (.bl (Mt.sub a b)):=by
 have:(((a&&&b:Nat):Int)=(a:Int))↔(a&&&b)=a:=by omega
 simp-implicitDefEqProofs [fn,dJ,Sh.lW,o9,Mt.sub,this,bu,ah,dV,Slot.val,iw,lA,eqT,sS]
 rfl
theorem mP:∀bs:List Bool,bools (bs.map PV.bl)=some bs
 |[]=>rfl
 |b::bs=>by
  rw[List.map_cons]
  unfold bools
  rw[mP bs]
  rfl
theorem mQ{c:cD}{e:Den}{ρ:bM}{f:PV->PV}{p:PV->Bool}:∀xs:List PV,(∀x∈xs,c (.sh x::ρ)=some (p x))->(∀x∈xs,p x=true->e (.sh x::ρ)=some (f x))->gf c e ρ xs=some ((xs.filter p).map f)
 |[],_,_=>rfl
 |x::xs,h1,h2=>by
  have ih:=mQ xs (λy hy=>h1 y (List.mem_cons_of_mem _ hy)) λy hy=>h2 y (List.mem_cons_of_mem _ hy)
  unfold gf
  rw[h1 x (List.mem_cons_self ..),ih]
  by_cases hp:p x=true
  ·rw[List.filter_cons_of_pos hp,List.map_cons]
   simp[hp,h2 x (List.mem_cons_self ..) hp]
  ·rw[List.filter_cons_of_neg hp]
   simp at hp
   simp[hp]
theorem rj{e:Den}{ρ:bM}{f:PV->PV}(xs:List PV)(h:∀x∈xs,e (.sh x::ρ)=some (f x)):gf a9 e ρ xs=some (xs.map f):=by
 have:=mQ (c:=a9) (e:=e) (ρ:=ρ) (f:=f) (p:=λ_=>true) xs (λ_ _=>rfl) λx hx _=>h x hx
 rwa[List.filter_eq_self.mpr (λ_ _=>rfl)]at this
theorem jM{it:bX}{c:cD}{e:Den}{ρ:bM}{xs zs:List PV}(h1:it ρ=some xs)(h2:xs.length<=sizeLine)(h3:gf c e ρ xs=some zs):aV it c e ρ=some (.lst zs):=by
 unfold aV
 rw[h1]
 show(if xs.length<=sizeLine then _ else none)=_
 rw[if_pos h2,h3]
 rfl
theorem fe{it:bX}{g:yI}{body:aL}{ρ:bM}{xs:List PV}(h:it ρ=some xs):ix it g body ρ=forL g body xs ρ:=by
 unfold ix
 rw[h]
 rfl
theorem c8{a:Den}{ρ:bM}{l:List PV}(h:a ρ=some (.lst l)):nList a ρ=some l:=by
 unfold nList
 rw[h]
 rfl
theorem aU{a b:aL}{ρ ρ':bM}(h:a ρ=some (.nx ρ')):aX a b ρ=b ρ':=by
 unfold aX
 rw[h]
 rfl
theorem lX{a b:aL}{ρ:bM}{p:PV}(h:a ρ=some (.rt p)):aX a b ρ=some (.rt p):=by
 unfold aX
 rw[h]
 rfl
theorem lY{t:cD}{a b:aL}{ρ:bM}(h:t ρ=some true):jC t a b ρ=a ρ:=by
 unfold jC
 rw[h]
 rfl
theorem gN{t:cD}{a b:aL}{ρ:bM}(h:t ρ=some false):jC t a b ρ=b ρ:=by
 unfold jC
 rw[h]
 rfl
theorem bT{i:Nat}{a:Den}{ρ:bM}{p:PV}(h:a ρ=some p):cK i a ρ=some (.nx (ρ.set i (.sh p))):=by
 unfold cK
 rw[h]
 rfl
theorem pd{i:Nat}{a:Den}{ρ:bM}{l:List PV}(h:a ρ=some (.lst l)):lH i a ρ=some (.nx (ρ.set i (.ow l))):=by
 unfold lH
 rw[h]
 rfl
theorem gA{a:Den}{ρ:bM}{p:PV}(h:a ρ=some p):bu a ρ=some (.rt p):=by
 unfold bu
 rw[h]
 rfl
theorem bx{F:List PV->Option PV}{as:bX}{ρ:bM}{ps:List PV}(h:as ρ=some ps):aK F as ρ=F ps:=by
 unfold aK
 rw[h]
 rfl
theorem dE{a:Den}{ρ:bM}{b:Bool}(h:a ρ=some (.bl b)):tV a ρ=some b:=by
 unfold tV
 rw[h]
 rfl
theorem zf{t:cD}{ρ:bM}{b:Bool}(h:t ρ=some b):js t ρ=some (!b):=by
 unfold js
 rw[h]
 rfl
theorem nv{a b:cD}{ρ:bM}(h:a ρ=some false):qa a b ρ=b ρ:=by
 unfold qa
 rw[h]
 rfl
theorem Ms{a b:cD}{ρ:bM}(h:a ρ=some true):qa a b ρ=some true:=by
 unfold qa
 rw[h]
 rfl
theorem kW{a b:cD}{ρ:bM}(h:a ρ=some true):jr a b ρ=b ρ:=by
 unfold jr
 rw[h]
 rfl
theorem tU{a b:cD}{ρ:bM}(h:a ρ=some false):jr a b ρ=some false:=by
 unfold jr
 rw[h]
 rfl
theorem aG{g:PV->PV->Option PV}{a b:Den}{ρ:bM}{x y:PV}(h1:a ρ=some x)(h2:b ρ=some y):ah g a b ρ=g x y:=by
 unfold ah
 rw[h1]
 show(b ρ).bind _=_
 rw[h2]
 rfl
theorem eA{g:PV->Option PV}{a:Den}{ρ:bM}{x:PV}(h1:a ρ=some x):aR g a ρ=g x:=by
 unfold aR
 rw[h1]
 rfl
theorem jN{a:Den}{ρ:bM}{j:Int}(h1:a ρ=some (.int j))(h2:kE j=true):cL a ρ=some (cx 0 j.toNat):=by
 unfold cL
 rw[h1]
 simp only[Option.bind_some,Fq]
 rw[if_pos h2]
theorem Gn(i j:Int):lA (.int i) (.int j)=some (.bl (decide (i=j))):=rfl
theorem zg(i j:Int):eJ (.int i) (.int j)=some (.bl (!decide (i=j))):=rfl
theorem J0(i j:Bool):eJ (.bl i) (.bl j)=some (.bl (!decide (i=j))):=rfl
theorem gh{fr:Bool}{n k:Nat}{body:aL}{ps:List PV}{p:PV}(h:ps.length=k)(e:body (dJ n ps)=some (.rt p)):fn fr n k body ps=some p:=by
 unfold fn
 rw[if_pos h,e]
 rfl
theorem Gp(ns:List Int)(k:Nat):RM [.lst (ns.map PV.int),.int k]=some (.int (ns.getD k 0)):=by
 have t:tV (ah mG (dV 1) (aR bH (dV 0))) [.sh (.lst (ns.map PV.int)),.sh (.int k)]=some (decide (k<ns.length)):=by
  refine dE ((aG (x:=.int k) (y:=.int ((ns.map PV.int).length:Nat)) rfl rfl).trans ?_)
  show some (PV.bl (decide ((k:Int)<(((ns.map PV.int).length:Nat):Int))))=_
  rw[List.length_map]
  congr 2
  rw[decide_eq_decide]
  omega
 by_cases h:k<ns.length
 ·rw[decide_eq_true h]at t
  have e:itemAt (ns.map PV.int) (k:Int)=some (.int (ns.getD k 0)):=by simp[itemAt,Br,h]
  exact gh rfl (lX ((lY t).trans (gA ((aG (x:=.lst (ns.map PV.int)) (y:=.int k) rfl rfl).trans e))))
 ·rw[decide_eq_false h]at t
  have h2:ns.getD k 0=0:=by
   rw[List.getD_eq_getElem?_getD,List.getElem?_eq_none (by omega)]
   rfl
  rw[h2]
  exact gh rfl ((aU ((gN t).trans rfl)).trans (gA rfl))
theorem mR{fr:Bool}{n k:Nat}{f:Den}{ps:List PV}{p:PV}(h:ps.length=k)(e:f (dJ n ps)=some p):fn fr n k (bu f) ps=some p:=by
 unfold fn
 rw[if_pos h]
 unfold bu
 rw[e]
 rfl
noncomputable abbrev pl(l:List Nat):List PV:=l.map λ(n:Nat)=>PV.int (n:Int)
theorem dI(l:List Nat):(pl l).length=l.length:=List.length_map _
theorem De{F:List PV->Option PV}(hF:∀a b:Nat,F [.int a,.int b]=some (.bl (Mt.sub a b)))(l:List Nat)(g:Nat)(hl:l.length<=sizeLine):fn false 2 2 (Sh.tR F) [aa l,.int g]=some (.bl (Mt.lets l g)):=by
 refine mR rfl ?_
 have e:=rj (e:=aK F (ag (aQ 0) (ag (aQ 2) ax))) (ρ:=[.sh (aa l),.sh (.int g)]) (f:=λx=>.bl (match x with|.int n=>Mt.sub n.toNat g|_=>false)) (pl l) (by
  intro x hx
  obtain⟨n,_,rfl⟩:=List.mem_map.mp hx
  simp-implicitDefEqProofs [hF,aK,ag,ax,aQ,Slot.Ak])
 have d:=jM (it:=nList (dV 0)) (ρ:=[.sh (aa l),.sh (.int g)]) (xs:=pl l) rfl (by rw[dI];exact hl) e
 show(aV (nList (dV 0)) a9 (aK F (ag (aQ 0) (ag (aQ 2) ax))) [.sh (aa l),.sh (.int g)]).bind Fn=_
 rw[d]
 have e2:(pl l).map (λx=>PV.bl (match x with|.int n=>Mt.sub n.toNat g|_=>false))=(l.map λr=>Mt.sub r g).map PV.bl:=by
  rw[List.map_map,List.map_map]
  rfl
 show(bools ((pl l).map (λx=>PV.bl (match x with|.int n=>Mt.sub n.toNat g|_=>false)))).map _=_
 rw[e2,mP]
 unfold Mt.lets
 rw[Option.map_some,List.any_map]
 rfl
theorem Gq(l:List Nat)(g:Nat)(hl:l.length<=sizeLine):Flt [aa l,.int g]=some (.bl (Mt.lets l g)):=De AV l g hl
noncomputable def zh(l:List Nat):List Nat:=(eW hU (l.map λ(n:Nat)=>(n:Int))).map Int.toNat
theorem vz(l:List Nat):eW hU (l.map λ(n:Nat)=>(n:Int))=(zh l).map λ(n:Nat)=>(n:Int):=by
 unfold zh
 rw[List.map_map]
 have:∀x∈eW hU (l.map λ(n:Nat)=>(n:Int)),((λ(n:Nat)=>(n:Int))∘Int.toNat) x=id x:=λx hx=>by
  obtain⟨n,_,rfl⟩:=List.mem_map.mp ((gC hU _).mem_iff.mp hx)
  simp
 rw[List.map_congr_left this,List.map_id]
theorem gO(l:List Nat):(zh l).Perm l:=by
 have h:=(gC hU (l.map λ(n:Nat)=>(n:Int))).map Int.toNat
 rw[List.map_map]at h
 have e:(Int.toNat∘λ(n:Nat)=>(n:Int))=id:=by
  funext n
  simp
 rw[e,List.map_id]at h
 exact h
theorem xv(l:List Nat):(zh l).Pairwise λa b=>Mt.rank a<=Mt.rank b:=by
 have h:=jI hU (l.map λ(n:Nat)=>(n:Int))
 rw[vz,List.pairwise_map]at h
 exact h.imp λ{a b} q=>by simpa[hU]using q
theorem vA(l:List Nat):eo (pl l)=some (l.map λ(n:Nat)=>(n:Int)):=by
 have:pl l=(l.map λ(n:Nat)=>(n:Int)).map PV.int:=by
  rw[List.map_map]
  rfl
 rw[this,gD]
theorem AW{l:List Nat}(h:∀g∈l,g<64)(hl:l.length<=5000):jE (l.map λ(n:Nat)=>(n:Int))=true:=by
 unfold jE
 simp only[Bool.and_eq_true,List.all_eq_true,decide_eq_true_eq,List.length_map]
 refine⟨λx hx=>?_,hl⟩
 obtain⟨n,hn,rfl⟩:=List.mem_map.mp hx
 have:=h n hn
 unfold mf
 simp
 omega
theorem vB{it:bX}{ρ:bM}{l:List Nat}(h:it ρ=some (pl l))(kg:∀g∈l,g<64)(hl:l.length<=5000):ng it ρ=some (aa (zh l)):=by
 unfold ng
 rw[h]
 show(eo (pl l)).bind _=_
 rw[vA]
 show(if jE _ then _ else none)=_
 rw[if_pos (AW kg hl),vz,List.map_map]
 rfl
theorem rl{F_place dw:List PV->Option PV}(hL:∀(l:List Nat) (g:Nat),l.length<=sizeLine->dw [aa l,.int g]=some (.bl (Mt.lets l g)))(s0:Slot):∀(ss acc:List Nat) (s2:Slot),acc.length+ss.length<=5000->
  ∃t2,forL (aZ 2) (Sh.eO F_place dw) (pl ss) [s0,.ow (pl acc),s2]=some (.nx [s0,.ow (pl (ss.foldl Mt.i0 acc)),t2])
 |[],acc,s2,_=>⟨s2,rfl⟩
 |g::ss,acc,s2,h=>by
  have zl:(5000:Nat)<=sizeLine:=by decide
  rw[List.length_cons]at h
  have b:Sh.eO F_place dw [s0,.ow (pl acc),.sh (.int g)]=some (.nx [s0,.ow (pl (Mt.i0 acc g)),.sh (.int g)]):=by
   have h1:=hL acc g (by omega)
   have h2:(pl acc).length<sizeLine:=by rw[dI];omega
   have h3:(Sh.eO F_place dw [s0,.ow (pl acc),.sh (.int g)])=(if(!Mt.lets acc g)=true then some (.nx [s0,.ow (pl acc++[.int g]),.sh (.int g)])else some (.nx [s0,.ow (pl acc),.sh (.int g)])):=by
    unfold Sh.eO jC js tV sP
    have e0:(ag (dV 1) (ag (dV 2) ax)) [s0,.ow (pl acc),.sh (.int g)]=some [aa acc,.int g]:=rfl
    rw[e0]
    simp-implicitDefEqProofs only[Option.bind_some,h1,flat,if_true,wq,Option.map_some]
    split
    ·have:(lI 1 eF (ag (aQ 2) ax)) [s0,.ow (pl acc),.sh (.int g)]=((if(pl acc).length<sizeLine then some (pl acc++[.int g])else none).map λl'=>Fl.nx [s0,.ow l',.sh (.int g)]):=rfl
     rw[this,if_pos h2]
     rfl
    ·rfl
   rw[h3]
   unfold Mt.i0
   cases Mt.lets acc g<;>simp[pl]
  obtain⟨t2,e⟩:=rl hL s0 ss (Mt.i0 acc g) (.sh (.int g)) (by
   unfold Mt.i0
   split
   ·omega
   ·rw[List.length_append,List.length_singleton]
    omega)
  refine⟨t2,?_⟩
  rw[show pl (g::ss)=.int g::pl ss from rfl,kn]
  show((Sh.eO F_place dw [s0,.ow (pl acc),.sh (.int g)]).bind _)=_
  rw[b]
  exact e
theorem AX{F_place dw:List PV->Option PV}(hL:∀(l:List Nat) (g:Nat),l.length<=sizeLine->dw [aa l,.int g]=some (.bl (Mt.lets l g))){l:List Nat}(kg:∀g∈l,g<64)(hl:l.length<=5000):
  fn true 3 1 (Sh.nY F_place dw) [aa l]=some (aa (Mt.oN (zh l))):=by
 obtain⟨t2,e⟩:=rl (F_place:=F_place) hL (.sh (aa l)) (zh l) [] .un (by rw[(gO l).length_eq];simpa using hl)
 have d:=vB (it:=nList (dV 0)) (ρ:=[.sh (aa l),.ow [],.un]) (l:=l) rfl kg hl
 refine gh rfl ?_
 refine(aU (pd (l:=[]) rfl)).trans ?_
 refine(aU ((fe (c8 d)).trans e)).trans ?_
 rfl
theorem Df{l:List Nat}(kg:∀g∈l,g<64)(hl:l.length<=5000):Qp [aa l]=some (aa (Mt.oN (zh l))):=AX Gq kg hl
theorem Dg{l:List Nat}(kg:∀g∈l,g<64):Mt.Cl (zh l) (Mt.oN (zh l)):=Mt.Cj (λg hg=>kg g ((gO l).mem_iff.mp hg)) (xv l)
theorem xw{l:List Nat}{x:PV}(h:x∈pl l):∃n∈l,x=.int (n:Nat):=by
 obtain⟨n,hn,rfl⟩:=List.mem_map.mp h
 exact⟨n,hn,rfl⟩
theorem mS{l:List Nat}{k:Nat}(h:k<l.length):itemAt (pl l) (k:Int)=some (.int (l[k]:Nat)):=by
 have h':(k:Int)<(l.length:Int):=by omega
 simp[itemAt,Br,h',h]
theorem rq{i:Nat}{body:aL}:∀(xs:List PV) (ρ:bM),(∀x∈xs,body (ρ.set i (.sh x))=some (.nx (ρ.set i (.sh x))))->∃s,forL (aZ i) body xs ρ=some (.nx (ρ.set i s))
 |[],ρ,_=>by
  by_cases h:i<ρ.length
  ·exact⟨ρ[i],by rw[List.set_getElem_self];rfl⟩
  ·exact⟨.un,by rw[List.set_eq_of_length_le (by omega)];rfl⟩
 |x::xs,ρ,h=>by
  obtain⟨s,e⟩:=rq xs (ρ.set i (.sh x)) (λy hy=>by
   rw[List.set_set]
   exact h y (List.mem_cons_of_mem _ hy))
  refine⟨s,?_⟩
  rw[kn]
  show((body (ρ.set i (.sh x))).bind _)=_
  rw[h x (List.mem_cons_self ..)]
  show forL (aZ i) body xs (ρ.set i (.sh x))=_
  rw[e,List.set_set]
theorem nZ(c:Nat)(h:c<=6):qk (.int 1) (.int c)=some (.int ((2^c:Nat):Int)):=by
 have:=O3 (k:=c) (n:=7) (by omega)
 unfold qk
 dsimp only
 rw[if_pos this,Gk]
theorem Gr(l:List Nat):(pl l).all flat=true:=by
 rw[List.all_eq_true]
 intro x hx
 obtain⟨n,_,rfl⟩:=xw hx
 rfl
theorem Dh(g:Nat):∀l:List Nat,yF (.int g) (pl l)=decide (g∈l)
 |[]=>rfl
 |a::l=>by
  show(((a:Int)==(g:Int))||yF (.int g) (pl l))=_
  rw[Dh g l]
  by_cases h:a=g
  ·subst h
   simp
  ·have h':¬((a:Int)=(g:Int)):=by omega
   have FZ:¬g=a:=λz=>h z.symm
   simp[h',FZ]
theorem AY(g:Nat)(l:List Nat):jA (.int g) (aa l)=some (.bl (!decide (g∈l))):=by
 show(if(flat (.int g)&&(pl l).all flat)then some (PV.bl (!yF (.int g) (pl l)))else none)=_
 rw[Gr,Dh]
 rfl
theorem AZ(l:List Nat)(p:PV->Bool):(pl l).filter p=pl (l.filter λn=>p (.int (n:Nat))):=by
 unfold pl
 rw[List.filter_map]
 rfl
theorem eP{c:Nat}(h:c<=6):2^c<=64:=Nat.pow_le_pow_right (by decide) h
noncomputable abbrev qt(ns:List Int):PV:=.lst (ns.map PV.int)
end L2.D
namespace Mt
theorem Di:∀(n:Nat) (l:List Nat),l.Nodup->(∀x∈l,x<n)->l.length<=n
 |0,[],_,_=>Nat.le_refl _
 |0,x::l,_,h=>absurd (h x (List.mem_cons_self ..)) (by omega)
 |n+1,l,hd,h=>by
  have:=Di n (l.erase n) (hd.erase n) (λx hx=>by
   obtain⟨h1,h2⟩:=hd.mem_erase_iff.mp hx
   have:=h x h2
   omega)
  rw[List.length_erase]at this
  split at this<;>omega
theorem Jp.nodup{l:List Nat}(h:Jp l):l.Nodup:=h.ord.imp λ{a b} q z=>by
 subst z
 omega
theorem Jp.len{l:List Nat}(h:Jp l):l.length<=64:=Di 64 l h.nodup h.small
noncomputable def tW(g:Nat):List Nat->List Nat
 |[]=>[g]
 |x::l=>if rank x<rank g then x::tW g l else g::x::l
noncomputable def fK(g:Nat):List Nat->Nat
 |[]=>0
 |x::l=>if rank x<rank g then fK g l+1 else 0
theorem xy(g:Nat):∀l,fK g l<=l.length
 |[]=>Nat.le_refl _
 |x::l=>by
  have:=xy g l
  unfold fK
  rw[List.length_cons]
  split<;>omega
theorem Dj{g:Nat}:∀{l:List Nat} {j:Nat} (h:j<l.length),j<fK g l->rank l[j]<rank g
 |[],j,h,_=>by simp at h
 |x::l,j,h,hj=>by
  unfold fK at hj
  split at hj
  ·rename_i hx
   cases j with
   |zero=>exact hx
   |succ j=>
    rw[List.getElem_cons_succ]
    exact Dj (by simpa using h) (by omega)
  ·omega
theorem pos_at{g:Nat}:∀{l:List Nat} (h:fK g l<l.length),¬rank (l[fK g l]'h)<rank g
 |[],h=>by simp[fK]at h
 |x::l,h=>by
  by_cases hx:rank x<rank g
  ·have e:fK g (x::l)=fK g l+1:=by
     show(if _ then _ else _)=_
     rw[if_pos hx]
   have h2:fK g l<l.length:=by
    rw[e,List.length_cons]at h
    omega
   have:=pos_at h2
   simp only[e,List.getElem_cons_succ]
   exact this
  ·have e:fK g (x::l)=0:=by
     show(if _ then _ else _)=_
     rw[if_neg hx]
   simp only[e,List.getElem_cons_zero]
   exact hx
theorem Dk(g:Nat):∀l,tW g l=l.take (fK g l)++g::l.drop (fK g l)
 |[]=>rfl
 |x::l=>by
  unfold tW fK
  split
  ·rw[Dk g l,List.take_succ_cons,List.drop_succ_cons]
   rfl
  ·rfl
theorem iS(g:Nat):∀l,(tW g l).Perm (g::l)
 |[]=>List.Perm.refl _
 |x::l=>by
  unfold tW
  split
  ·exact((iS g l).cons x).trans (List.Perm.swap g x l)
  ·exact List.Perm.refl _
theorem zi{g:Nat}:∀{l:List Nat},l.Pairwise (λa b=>rank a<rank b)->(∀x∈l,rank x≠rank g)->(tW g l).Pairwise (λa b=>rank a<rank b)
 |[],_,_=>List.pairwise_singleton _ _
 |x::l,h,hn=>by
  obtain⟨h1,h2⟩:=List.pairwise_cons.mp h
  have hx:=hn x (List.mem_cons_self ..)
  unfold tW
  split
  ·rename_i eS
   refine List.pairwise_cons.mpr ⟨λz hz=>?_,zi h2 λz hz=>hn z (List.mem_cons_of_mem _ hz)⟩
   rcases List.mem_cons.mp ((iS g l).mem_iff.mp hz)with rfl|hz
   ·exact eS
   ·exact h1 z hz
  ·rename_i eS
   refine List.pairwise_cons.mpr ⟨λz hz=>?_,h⟩
   rcases List.mem_cons.mp hz with rfl|hz
   ·omega
   ·have:=h1 z hz
    omega
noncomputable def inner(l:List Nat)(g:Nat):List Nat:=l.filter λo=>sub o g&&!decide (o=g)
noncomputable def lZ(l:List Nat)(g:Nat):Bool:=decide ((inner l g).length=0)
theorem rA{l:List Nat}{g:Nat}:lZ l g=true↔∀o∈l,sub o g=true->o=g:=by
 unfold lZ
 rw[decide_eq_true_eq,List.length_eq_zero_iff]
 unfold inner
 rw[List.filter_eq_nil_iff]
 constructor
 ·intro h o ho hs
  have:=h o ho
  rw[hs]at this
  simpa using this
 ·intro h o ho hc
  rw[Bool.and_eq_true]at hc
  have:=h o ho hc.1
  simp[this]at hc
noncomputable def jO(l acc:List Nat)(g:Nat):List Nat:=if lZ l g&&!decide (g∈acc)then tW g acc else acc
noncomputable def kX(l:List Nat):List Nat:=l.foldl (jO l) []
structure Lm(l pre acc:List Nat):Prop where
 ord:acc.Pairwise λa b=>rank a<rank b
 mem:∀r∈acc,r∈l/\lZ l r=true
 cov:∀g∈pre,lZ l g=true->g∈acc
theorem Lm.step{l pre acc:List Nat}{g:Nat}(h:Lm l pre acc)(kg:∀x∈l,x<64)(hg:g∈l):Lm l (pre++[g]) (jO l acc g):=by
 unfold jO
 split
 ·rename_i hc
  rw[Bool.and_eq_true]at hc
  obtain⟨hm,hn⟩:=hc
  have KJ:g∉acc:=by simpa using hn
  refine⟨zi h.ord λx hx e=>KJ ?_,λr hr=>?_,λx hx Nn=>?_⟩
  ·have:=oM (kg x (h.mem x hx).1) (kg g hg) e
   rw[<-this]
   exact hx
  ·rcases List.mem_cons.mp ((iS g acc).mem_iff.mp hr)with rfl|hr
   ·exact⟨hg,hm⟩
   ·exact h.mem r hr
  ·refine(iS g acc).mem_iff.mpr ?_
   rcases List.mem_append.mp hx with hx|hx
   ·exact List.mem_cons_of_mem _ (h.cov x hx Nn)
   ·obtain rfl:x=g:=by simpa using hx
    exact List.mem_cons_self ..
 ·rename_i hc
  refine⟨h.ord,h.mem,λx hx Nn=>?_⟩
  rcases List.mem_append.mp hx with hx|hx
  ·exact h.cov x hx Nn
  ·obtain rfl:x=g:=by simpa using hx
   rw[Nn]at hc
   simpa using hc
theorem tX{l:List Nat}(kg:∀x∈l,x<64):Lm l l (kX l):=by
 have go:∀(post pre acc:List Nat),pre++post=l->Lm l pre acc->Lm l l (post.foldl (jO l) acc):=by
  intro post
  induction post with
  |nil=>
   intro pre acc e h
   rw[List.append_nil]at e
   rw[<-e]at h⊢
   exact h
  |cons g post ih=>
   intro pre acc e h
   rw[List.foldl_cons]
   exact ih (pre++[g]) _ (by rw[List.append_assoc];exact e) (h.step kg (by rw[<-e];simp))
 exact go l [] [] rfl ⟨List.Pairwise.nil,by simp,by simp⟩
theorem sub_le{a b:Nat}(h:sub a b=true):a<=b:=by
 rw[sO]at h
 rw[<-h]
 exact Nat.and_le_right
theorem rB{l:List Nat}:∀(n r:Nat),r<=n->r∈l->∃q∈l,lZ l q=true/\sub q r=true
 |n,r,hn,hr=>by
  by_cases hm:lZ l r=true
  ·exact⟨r,hr,hm,lG r⟩
  ·rw[rA]at hm
   have:∃o∈l,sub o r=true/\o≠r:=by
    refine Classical.byContradiction λhc=>hm λo ho hs=>?_
    exact Classical.byContradiction λqi=>hc ⟨o,ho,hs,qi⟩
   obtain⟨o,ho,hs,qi⟩:=this
   have hle:=sub_le hs
   match n,hn with
   |0,hn=>omega
   |n+1,hn=>
    obtain⟨q,h1,h2,h3⟩:=rB n o (by omega) ho
    exact⟨q,h1,h2,mF h3 hs⟩
theorem Dl{l:List Nat}(kg:∀x∈l,x<64):Jp (kX l):=by
 have h:=tX kg
 exact⟨h.ord,λa ha b hb s=>rA.mp (h.mem b hb).2 a (h.mem a ha).1 s,λa ha=>kg a (h.mem a ha).1⟩
theorem Dm{l:List Nat}(kg:∀x∈l,x<64){g:Nat}(h:g∈kX l):g∈l:=((tX kg).mem g h).1
theorem A0{l:List Nat}(kg:∀x∈l,x<64)(g:Nat):lets (kX l) g=lets l g:=by
 have h:=tX kg
 rw[Bool.eq_iff_iff,dB,dB]
 constructor
 ·rintro⟨r,h1,h2⟩
  exact⟨r,(h.mem r h1).1,h2⟩
 ·rintro⟨r,h1,h2⟩
  obtain⟨q,h3,h4,h5⟩:=rB r r (Nat.le_refl _) h1
  exact⟨q,h.cov q h3 h4,mF h5 h2⟩
theorem A1(l acc:List Nat)(g:Nat):(jO l acc g).length<=acc.length+1:=by
 unfold jO
 split
 ·rw[(iS g acc).length_eq]
  simp
 ·omega
end Mt
namespace L2.D
open PySem
theorem pf(a b:Nat):iw (.int a) (.int b)=some (.int ((a&&&b:Nat):Int)):=by
 show some (PV.int (Builtin.bitAnd (a:Int) (b:Int)))=_
 rw[o9]
theorem tY(a b:Nat):lA (.int a) (.int b)=some (.bl (decide (a=b))):=by
 rw[Gn]
 congr 2
 rw[decide_eq_decide]
 omega
theorem zj(a b:Nat):eJ (.int a) (.int b)=some (.bl (!decide (a=b))):=by
 rw[zg]
 congr 3
 rw[decide_eq_decide]
 omega
theorem Gu(a b:Nat):mG (.int a) (.int b)=some (.bl (decide (a<b))):=by
 show some (PV.bl (decide ((a:Int)<(b:Int))))=_
 congr 2
 rw[decide_eq_decide]
 omega
theorem vC(x:Int){n:Nat}(h:0<n):oO (.int x) (.int n)=some (.int (((x %(n:Int)).toNat:Nat):Int)):=by
 show(if decide (0<(n:Int))then some (PV.int (x %(n:Int)))else none)=_
 rw[if_pos (decide_eq_true (by omega))]
 have:=Int.emod_nonneg x (show(n:Int)≠0 by omega)
 congr 2
 omega
theorem sub_eq{A B:Den}{ρ:bM}{a b:Nat}(hA:A ρ=some (.int a))(hB:B ρ=some (.int b)):ah lA (ah iw A B) A ρ=some (.bl (Mt.sub a b)):=by
 refine(aG ((aG hA hB).trans (pf a b)) hA).trans ?_
 rw[tY]
 rfl
theorem xA(n:Nat):cx 0 n=pl (List.range n):=by
 unfold cx
 refine List.map_congr_left λk _=>?_
 rw[Int.zero_add]
theorem l0{a:Den}{ρ:bM}{n:Nat}(h:a ρ=some (.int n))(hn:n<=100000):cL a ρ=some (pl (List.range n)):=by
 rw[jN h (O2 hn),Int.toNat_natCast,xA]
theorem rC{it:bX}{c:cD}{ρ:bM}{l:List Nat}{p:Nat->Bool}(h1:it ρ=some (pl l))(h2:l.length<=sizeLine)(h3:∀n∈l,c (.sh (.int (n:Nat))::ρ)=some (p n)):aV it c (aQ 0) ρ=some (aa (l.filter p)):=by
 have cp:=mQ (c:=c) (e:=aQ 0) (ρ:=ρ) (f:=id) (p:=λx=>match x with|.int r=>p r.toNat|_=>false) (pl l) (by
  intro x hx
  obtain⟨n,hn,rfl⟩:=xw hx
  exact h3 n hn) (λx hx _=>rfl)
 refine(jM h1 (by rw[dI];exact h2) cp).trans ?_
 rw[AZ,List.map_id]
 rfl
theorem gP{it:bX}{e:Den}{ρ:bM}{l:List Nat}{f:Nat->PV}(h1:it ρ=some (pl l))(h2:l.length<=sizeLine)(h3:∀n∈l,e (.sh (.int (n:Nat))::ρ)=some (f n)):aV it a9 e ρ=some (.lst (l.map f)):=by
 have cp:=rj (e:=e) (ρ:=ρ) (f:=λx=>match x with|.int r=>f r.toNat|_=>.non) (pl l) (by
  intro x hx
  obtain⟨n,hn,rfl⟩:=xw hx
  exact h3 n hn)
 refine(jM h1 (by rw[dI];exact h2) cp).trans ?_
 unfold pl
 rw[List.map_map]
 rfl
theorem Dp{t:cD}{body:aL}{n:Nat}{ρ:bM}(h:t ρ=some false):eV t body (n+1) ρ=some (.nx ρ):=by
 unfold eV
 rw[h]
 rfl
theorem Dq{t:cD}{body:aL}{n:Nat}{ρ ρ':bM}(h:t ρ=some true)(hb:body ρ=some (.nx ρ')):eV t body (n+1) ρ=eV t body n ρ':=by
 conv=>lhs;unfold eV
 rw[h]
 show(body ρ).bind _=_
 rw[hb]
 rfl
section
variable{F:List PV->Option PV}(hB:∀{a b:Nat},a<64->b<64->F [.int a,.int b]=some (.bl (AR a b)))
include hB
theorem vD(s0 s3:Slot){acc:List Nat}{g:Nat}(kg:∀x∈acc,x<64)(hg:g<64):∀(d j n:Nat),j+d=Mt.fK g acc->d<n->
  eV (jr (tV (ah mG (dV 4) (aR bH (dV 1)))) (tV (aK F (ag (ah cS (dV 1) (dV 4)) (ag (aQ 2) ax))))) (Sh.fN F) n [s0,.ow (pl acc),.sh (.int g),s3,.sh (.int j)]=some (.nx [s0,.ow (pl acc),.sh (.int g),s3,.sh (.int (Mt.fK g acc:Nat))])
 |d,j,0,_,hn=>by omega
 |d,j,n+1,hj,hn=>by
  have hp:=Mt.xy g acc
  have t1:tV (ah mG (dV 4) (aR bH (dV 1))) [s0,.ow (pl acc),.sh (.int g),s3,.sh (.int j)]=some (decide (j<acc.length)):=by
   refine dE ((aG (x:=.int j) (y:=.int (acc.length:Nat)) rfl ?_).trans (Gu _ _))
   show some (PV.int ((pl acc).length:Nat))=_
   rw[dI]
  have t2:∀(h:j<acc.length),tV (aK F (ag (ah cS (dV 1) (dV 4)) (ag (aQ 2) ax))) [s0,.ow (pl acc),.sh (.int g),s3,.sh (.int j)]=some (decide (Mt.rank acc[j]<Mt.rank g)):=by
   intro h
   have as:(ag (ah cS (dV 1) (dV 4)) (ag (aQ 2) ax)) [s0,.ow (pl acc),.sh (.int g),s3,.sh (.int j)]=some [.int (acc[j]:Nat),.int g]:=by
    show((itemAt (pl acc) (j:Int)).bind λx=>some [x,PV.int g])=_
    rw[mS h]
    rfl
   have g1:=kg acc[j] (List.getElem_mem h)
   refine dE ?_
   rw[bx as,hB g1 hg,rh g1 hg]
  by_cases hd:d=0
  ·subst hd
   have kF:j=Mt.fK g acc:=by omega
   refine(Dp ?_).trans (by rw[kF])
   by_cases h:j<acc.length
   ·refine(kW (by rw[t1,decide_eq_true h])).trans ?_
    rw[t2 h]
    have:=Mt.pos_at (g:=g) (l:=acc) (by omega)
    subst kF
    rw[decide_eq_false this]
   ·exact tU (by rw[t1,decide_eq_false h])
  ·have h:j<acc.length:=by omega
   refine(Dq (ρ':=[s0,.ow (pl acc),.sh (.int g),s3,.sh (.int (j+1:Nat))]) ?_ rfl).trans (vD s0 s3 kg hg (d-1) (j+1) n (by omega) (by omega))
   refine(kW (by rw[t1,decide_eq_true h])).trans ?_
   rw[t2 h,decide_eq_true (Mt.Dj h (by omega))]
theorem Gv{l acc:List Nat}{g:Nat}(s3 s4:Slot)(hl:∀x∈l,x<64)(hlen:l.length<=900)(kg:∀x∈acc,x<64)(Qq:acc.length<=900)(hg:g<64):∃t3 t4,Sh.dH F [.sh (aa l),.ow (pl acc),.sh (.int g),s3,s4]=some (.nx [.sh (aa l),.ow (pl (Mt.jO l acc g)),.sh (.int g),t3,t4]):=by
 have zl:(5000:Nat)<=sizeLine:=by decide
 have dc:aV (nList (dV 0)) (jr (tV (ah lA (ah iw (dV 0) (dV 3)) (dV 0))) (tV (ah eJ (dV 0) (dV 3)))) (aQ 0) [.sh (aa l),.ow (pl acc),.sh (.int g),s3,s4]=some (aa (Mt.inner l g)):=by
  refine rC (l:=l) rfl (by omega) λn hn=>?_
  have e1:tV (ah lA (ah iw (dV 0) (dV 3)) (dV 0)) [.sh (.int n),.sh (aa l),.ow (pl acc),.sh (.int g),s3,s4]=some (Mt.sub n g):=dE (sub_eq (A:=dV 0) (B:=dV 3) rfl rfl)
  have e2:tV (ah eJ (dV 0) (dV 3)) [.sh (.int n),.sh (aa l),.ow (pl acc),.sh (.int g),s3,s4]=some (!decide (n=g)):=dE ((aG (x:=.int n) (y:=.int g) rfl rfl).trans (zj _ _))
  cases hs:Mt.sub n g
  ·rw[hs]at e1
   rw[tU e1]
   rfl
  ·rw[hs]at e1
   rw[kW e1,e2]
   rfl
 have t1:tV (ah lA (aR bH (dV 3)) (dC (.int 0))) [.sh (aa l),.ow (pl acc),.sh (.int g),.sh (aa (Mt.inner l g)),s4]=some (Mt.lZ l g):=by
  refine dE ((aG (x:=.int ((Mt.inner l g).length:Nat)) (y:=.int (0:Nat)) ?_ rfl).trans (tY _ _))
  show some (PV.int ((pl _).length:Nat))=_
  rw[dI]
 have t2:tV (ah jA (dV 2) (dV 1)) [.sh (aa l),.ow (pl acc),.sh (.int g),.sh (aa (Mt.inner l g)),s4]=some (!decide (g∈acc)):=dE ((aG (x:=.int g) (y:=aa acc) rfl rfl).trans (AY _ _))
 unfold Mt.jO
 cases hm:Mt.lZ l g
 ·rw[hm]at t1
  exact⟨_,_,(aU (bT dc)).trans ((gN (tU t1)).trans rfl)⟩
 ·rw[hm]at t1
  by_cases hi:g∈acc
  ·refine⟨.sh (aa (Mt.inner l g)),s4,(aU (bT dc)).trans ((gN ((kW t1).trans (t2.trans (by rw[decide_eq_true hi];rfl)))).trans ?_)⟩
   rw[decide_eq_true hi]
   rfl
  ·refine⟨.sh (aa (Mt.inner l g)),.sh (.int (Mt.fK g acc:Nat)),(aU (bT dc)).trans ((lY ((kW t1).trans (t2.trans (by rw[decide_eq_false hi];rfl)))).trans ?_)⟩
   rw[decide_eq_false hi]
   have hp:=Mt.xy g acc
   refine(aU (bT (p:=.int (0:Nat)) rfl)).trans ?_
   refine(aU (vD hB (.sh (aa l)) (.sh (aa (Mt.inner l g))) kg hg (Mt.fK g acc) 0 1000 (by omega) (by omega))).trans ?_
   have hm:kh (pl acc) [.int (Mt.fK g acc:Nat),.int g]=some (pl (Mt.tW g acc)):=by
    show(if decide (0<=(Mt.fK g acc:Int))&&decide ((Mt.fK g acc:Int).toNat<=(pl acc).length)&&decide ((pl acc).length<sizeLine)then some ((pl acc).take (Mt.fK g acc:Int).toNat++PV.int g::(pl acc).drop (Mt.fK g acc:Int).toNat)else none)=_
    rw[Int.toNat_natCast,dI,decide_eq_true (by omega),decide_eq_true hp,decide_eq_true (by omega),Mt.Dk]
    show some _=_
    unfold pl
    rw[List.map_append,List.map_cons,List.map_take,List.map_drop]
   show((kh (pl acc) [.int (Mt.fK g acc:Nat),.int g]).map λl'=>Fl.nx [.sh (aa l),.ow l',.sh (.int g),.sh (aa (Mt.inner l g)),.sh (.int (Mt.fK g acc:Nat))])=_
   rw[hm]
   rfl
theorem xB{l:List Nat}(hl:∀x∈l,x<64)(hlen:l.length<=400):fn true 5 1 (Sh.hZ F) [aa l]=some (aa (Mt.kX l)):=by
 have key:∀(post acc:List Nat) (s2 s3 s4:Slot),(∀x∈post,x<64)->(∀x∈acc,x<64)->acc.length+post.length<=900->∃t2 t3 t4,forL (aZ 2) (Sh.dH F) (pl post) [.sh (aa l),.ow (pl acc),s2,s3,s4]=some (.nx [.sh (aa l),.ow (pl (post.foldl (Mt.jO l) acc)),t2,t3,t4]):=by
  intro post
  induction post with
  |nil=>exact λacc s2 s3 s4 _ _ _=>⟨s2,s3,s4,rfl⟩
  |cons g post ih=>
   intro acc s2 s3 s4 h1 h2 h3
   rw[List.length_cons]at h3
   have hg:=h1 g (List.mem_cons_self ..)
   obtain⟨t3,t4,e⟩:=Gv hB s3 s4 hl (by omega) h2 (by omega) hg
   have Qr:=Mt.A1 l acc g
   obtain⟨u2,u3,u4,e2⟩:=ih (Mt.jO l acc g) (.sh (.int g)) t3 t4 (λx hx=>h1 x (List.mem_cons_of_mem _ hx)) (by
    intro x hx
    unfold Mt.jO at hx
    split at hx
    ·rcases List.mem_cons.mp ((Mt.iS g acc).mem_iff.mp hx)with rfl|hx
     ·exact hg
     ·exact h2 x hx
    ·exact h2 x hx) (by omega)
   refine⟨u2,u3,u4,?_⟩
   rw[show pl (g::post)=.int g::pl post from rfl,kn]
   show((Sh.dH F [.sh (aa l),.ow (pl acc),.sh (.int g),s3,s4]).bind _)=_
   rw[e]
   exact e2
 obtain⟨t2,t3,t4,e⟩:=key l [] .un .un .un hl (by simp) (by simp;omega)
 refine gh rfl ?_
 refine(aU (pd (l:=[]) rfl)).trans ?_
 refine(aU ((fe (xs:=pl l) rfl).trans e)).trans ?_
 rfl
end
theorem rD(s0:Slot)(g:Nat):∀(l:List Nat) (s2:Slot),(∃t,forL (aZ 2) Sh.cz (pl l) [s0,.sh (.int g),s2]=some (.nx [s0,.sh (.int g),t])/\Mt.lets l g=false)\/(forL (aZ 2) Sh.cz (pl l) [s0,.sh (.int g),s2]=some (.rt (.bl true))/\Mt.lets l g=true)
 |[],s2=>.inl ⟨s2,rfl,rfl⟩
 |r::l,s2=>by
  have t1:tV (ah lA (ah iw (dV 2) (dV 1)) (dV 2)) [s0,.sh (.int g),.sh (.int r)]=some (Mt.sub r g):=dE (sub_eq (A:=dV 2) (B:=dV 1) rfl rfl)
  have el:Mt.lets (r::l) g=(Mt.sub r g||Mt.lets l g):=rfl
  rw[el,show pl (r::l)=.int r::pl l from rfl,kn]
  show(∃t,((Sh.cz [s0,.sh (.int g),.sh (.int r)]).bind _)=_/\_)\/(((Sh.cz [s0,.sh (.int g),.sh (.int r)]).bind _)=_/\_)
  cases hs:Mt.sub r g
  ·rw[hs]at t1
   have e:Sh.cz [s0,.sh (.int g),.sh (.int r)]=some (.nx [s0,.sh (.int g),.sh (.int r)]):=(gN t1).trans rfl
   rw[e]
   exact rD s0 g l (.sh (.int r))
  ·rw[hs]at t1
   have e:Sh.cz [s0,.sh (.int g),.sh (.int r)]=some (.rt (.bl true)):=(lY t1).trans rfl
   rw[e]
   exact .inr ⟨rfl,rfl⟩
noncomputable abbrev RN:=fn false 3 2 Sh.kU
theorem Dr(l:List Nat)(g:Nat):RN [aa l,.int g]=some (.bl (Mt.lets l g)):=by
 refine gh rfl ?_
 rcases rD (.sh (aa l)) g l .un with⟨t,e,h⟩|⟨e,h⟩
 ·rw[h]
  exact(aU ((fe (xs:=pl l) rfl).trans e)).trans rfl
 ·rw[h]
  exact lX ((fe (xs:=pl l) rfl).trans e)
noncomputable abbrev RO:=fn true 5 1 (Sh.hZ Qn)
theorem A2{l:List Nat}(hl:∀x∈l,x<64)(hlen:l.length<=400):RO [aa l]=some (aa (Mt.kX l)):=xB AS hl hlen
structure iB(c:Nat)(l:List Nat):Prop where
 lad:Mt.Jp l
 lt:∀g∈l,g<2^c
theorem iB.len{c:Nat}{l:List Nat}(h:iB c l):l.length<=64:=h.lad.len
theorem A3{c:Nat}(c6:c<=6){l:List Nat}(h:∀g∈l,g<2^c):iB c (Mt.kX l):=
 have kg:∀g∈l,g<64:=λg hg=>Nat.lt_of_lt_of_le (h g hg) (eP c6)
 ⟨Mt.Dl kg,λg hg=>h g (Mt.Dm kg hg)⟩
theorem xC{c:Nat}(c6:c<=6){l:List Nat}(h:∀g∈l,g<2^c):iB c (Mt.oN (zh l))/\∀g,Mt.lets (Mt.oN (zh l)) g=Mt.lets l g:=by
 have kg:∀g∈l,g<64:=λg hg=>Nat.lt_of_lt_of_le (h g hg) (eP c6)
 have cl:=Dg kg
 refine⟨⟨cl.lad,λg hg=>h g ((gO l).mem_iff.mp (cl.mem g hg))⟩,λg=>?_⟩
 rw[cl.lets g]
 unfold Mt.lets
 rw[Bool.eq_iff_iff,List.any_eq_true,List.any_eq_true]
 exact⟨λ⟨r,h1,h2⟩=>⟨r,(gO l).mem_iff.mp h1,h2⟩,λ⟨r,h1,h2⟩=>⟨r,(gO l).mem_iff.mpr h1,h2⟩⟩
theorem dS{a:Den}{as:bX}{ρ:bM}{x:PV}{xs:List PV}(h1:a ρ=some x)(h2:as ρ=some xs):ag a as ρ=some (x::xs):=by
 unfold ag
 rw[h1,h2]
 rfl
noncomputable def qu(c:Nat):List Nat:=zh (List.range (2^c))
theorem vE{c g:Nat}:g∈qu c↔g<2^c:=by
 unfold qu
 rw[(gO _).mem_iff,List.mem_range]
theorem Ds(c:Nat):(qu c).length=2^c:=by
 unfold qu
 rw[(gO _).length_eq,List.length_range]
noncomputable abbrev Qs:=fn true 1 1 (Sh.ic Nm)
theorem xD{F:List PV->Option PV}{c:Nat}(c6:c<=6):fn true 1 1 (Sh.ic F) [.int c]=some (aa (qu c)):=by
 have HE:=eP c6
 refine mR rfl ?_
 refine vB (l0 (n:=2^c) ((aG (x:=.int 1) (y:=.int c) rfl rfl).trans (nZ c c6)) (by omega)) (λg hg=>?_) (by rw[List.length_range];omega)
 have:=List.mem_range.mp hg
 omega
theorem A4{c:Nat}(c6:c<=6):Qs [.int c]=some (aa (qu c)):=xD c6
noncomputable def meets(l:List Nat)(g:Nat):Bool:=l.all λr=>!decide ((g&&&r)=0)
theorem xE{l:List Nat}{x g:Nat}(s:Mt.sub x g=true)(h:meets l x=true):meets l g=true:=by
 unfold meets at h⊢
 rw[List.all_eq_true]at h⊢
 intro r hr
 have h1:=h r hr
 rw[Mt.sO]at s
 simp only[Bool.not_eq_true',decide_eq_false_iff_not]at h1⊢
 intro z
 apply h1
 rw[<-s,Nat.and_assoc,z,Nat.and_zero]
theorem A5(bs:List Bool):Fo (.lst (bs.map PV.bl))=some (.bl (bs.all id)):=by
 show(bools (bs.map PV.bl)).map _=_
 rw[mP]
 rfl
theorem Dt(l:List Nat)(g:Nat)(hl:l.length<=5000):fn false 2 2 Sh.gw [.int g,aa l]=some (.bl (meets l g)):=by
 have zl:(5000:Nat)<=sizeLine:=by decide
 refine mR rfl ?_
 have dc:=gP (it:=nList (dV 1)) (e:=ah eJ (ah iw (dV 1) (dV 0)) (dC (.int 0))) (ρ:=[.sh (.int g),.sh (aa l)]) (l:=l) (f:=λr=>.bl (!decide ((g&&&r)=0))) rfl (by omega) (λr _=>
  (aG (y:=.int (0:Nat)) ((aG (x:=.int g) (y:=.int r) rfl rfl).trans (pf g r)) rfl).trans (zj _ _))
 refine(eA dc).trans ?_
 have e:l.map (λr=>PV.bl (!decide ((g&&&r)=0)))=(l.map λr=>!decide ((g&&&r)=0)).map PV.bl:=by
  rw[List.map_map]
  rfl
 rw[e,A5]
 unfold meets
 rw[List.all_map]
 rfl
section
variable{gz cB bZ:List PV->Option PV}(hL:∀{l:List Nat},(∀g∈l,g<64)->l.length<=5000->gz [aa l]=some (aa (Mt.oN (zh l))))
 (hG:∀{c:Nat},c<=6->cB [.int c]=some (aa (qu c)))(hE:∀(l:List Nat) (g:Nat),l.length<=5000->bZ [.int g,aa l]=some (.bl (meets l g)))
include hL hG hE
theorem tZ{c:Nat}(c6:c<=6){l:List Nat}(n:l.length<=64):∃r,iB c r/\(∀g,g<2^c->Mt.lets r g=meets l g)/\fn true 2 2 (Sh.i8 gz cB bZ) [.int c,aa l]=some (aa r):=by
 have zl:(5000:Nat)<=sizeLine:=by decide
 have HE:=eP c6
 have gl:=Ds c
 have eS:∀g∈(qu c).filter (meets l),g<2^c:=λg hg=>vE.mp (List.mem_filter.mp hg).1
 obtain⟨q1,q2⟩:=xC c6 eS
 refine⟨_,q1,λg hg=>?_,mR rfl ?_⟩
 ·rw[q2,Bool.eq_iff_iff,Mt.dB]
  constructor
  ·rintro⟨x,hx,s⟩
   exact xE s (List.mem_filter.mp hx).2
  ·intro h
   exact⟨g,List.mem_filter.mpr ⟨vE.mpr hg,h⟩,Mt.lG g⟩
 ·have dc:aV (nList (aK cB (ag (aQ 0) ax))) (tV (aK bZ (ag (aQ 0) (ag (aQ 2) ax)))) (aQ 0) [.sh (.int c),.sh (aa l)]=some (aa ((qu c).filter (meets l))):=
    rC (c8 ((bx (ps:=[.int c]) rfl).trans (hG c6))) (by omega) λg hg=>dE ((bx (ps:=[.int g,aa l]) rfl).trans (hE l g (by omega)))
  refine(bx (dS dc rfl)).trans (hL (λg hg=>Nat.lt_of_lt_of_le (eS g hg) HE) ?_)
  have:=List.length_filter_le (meets l) (qu c)
  omega
end
noncomputable abbrev RP:=fn false 2 2 Sh.gw
noncomputable abbrev RQ:=fn true 2 2 (Sh.i8 Qp Qs RP)
theorem vF{c:Nat}(c6:c<=6){l:List Nat}(n:l.length<=64):∃r,iB c r/\(∀g,g<2^c->Mt.lets r g=meets l g)/\RQ [.int c,aa l]=some (aa r):=tZ Df A4 Dt c6 n
theorem Du:Mt.yE (λr g=>(List.range 7).all λc=>!(decide (r<2^c)&&decide (g<2^c))||(decide (((2^c-1-g)&&&r)=0)==Mt.sub r g))=true:=by decide+kernel
theorem ph{c r g:Nat}(c6:c<=6)(hr:r<2^c)(hg:g<2^c):decide (((2^c-1-g)&&&r)=0)=Mt.sub r g:=by
 have HE:=eP c6
 have:=Mt.oK Du (a:=r) (b:=g) (by omega) (by omega)
 have:=List.all_eq_true.mp this c (List.mem_range.mpr (by omega))
 rw[decide_eq_true hr,decide_eq_true hg]at this
 simpa using this
theorem pj{c:Nat}(c6:c<=6){l:List Nat}(h:iB c l){g:Nat}(hg:g<2^c):meets l (2^c-1-g)=!Mt.lets l g:=by
 have key:∀m:List Nat,(∀r∈m,r<2^c)->(m.all λr=>!decide (((2^c-1-g)&&&r)=0))=!(m.any λr=>Mt.sub r g):=by
  intro m
  induction m with
  |nil=>exact λ_=>rfl
  |cons r m ih=>
   intro hm
   rw[List.all_cons,List.any_cons,ih λx hx=>hm x (List.mem_cons_of_mem _ hx),ph c6 (hm r (List.mem_cons_self ..)) hg,Bool.not_or]
 exact key l h.lt
noncomputable def bit(g h:Nat):Nat:=(g/2^h)&&&1
theorem Dv(g h:Nat):w9 (.int g) (.int h)=some (.int ((g/2^h:Nat):Int)):=by
 show(if decide (0<=(h:Int))then some (PV.int ((g:Int)/2^(h:Int).toNat))else none)=_
 rw[if_pos (decide_eq_true (by omega)),Int.toNat_natCast]
 congr 2
theorem Gw{A B:Den}{ρ:bM}{g h:Nat}(hA:A ρ=some (.int g))(hB:B ρ=some (.int h))(k:Nat):ah lA (ah iw (ah w9 A B) (dC (.int 1))) (dC (.int k)) ρ=some (.bl (decide (bit g h=k))):=by
 refine(aG (y:=.int k) ((aG (y:=.int (1:Nat)) ((aG hA hB).trans (Dv g h)) rfl).trans (pf _ _)) rfl).trans (tY _ _)
theorem xF(g h:Nat):Qm [.int g,.int h]=some (.bl (decide (bit g h=1))):=mR rfl (Gw (A:=dV 0) (B:=dV 1) rfl rfl 1)
theorem mT(f:Nat->Nat)(l:List Nat):PV.lst (l.map λn=>PV.int (f n:Nat))=aa (l.map f):=by
 unfold aa
 rw[List.map_map]
 rfl
end L2.D
namespace Sx
noncomputable def sm:Nat->(Nat->Int)->Int
 |0,_=>0
 |n+1,f=>sm n f+f n
theorem aM{f g:Nat->Int}:∀{n:Nat},(∀i,i<n->f i=g i)->sm n f=sm n g
 |0,_=>rfl
 |n+1,h=>by
  show sm n f+f n=sm n g+g n
  rw[aM λi hi=>h i (by omega),h n (by omega)]
theorem ie{f:Nat->Int}{n:Nat}(h:∀i,i<n->f i=0):sm n f=0:=by
 induction n with
 |zero=>rfl
 |succ n ih=>
  show sm n f+f n=0
  rw[ih λi hi=>h i (by omega),h n (by omega)]
  rfl
theorem mU(a b:Int)(f g:Nat->Int):∀n:Nat,sm n (λi=>a*f i+b*g i)=a*sm n f+b*sm n g
 |0=>by show(0:Int)=a*0+b*0;rw[Int.mul_zero,Int.mul_zero];rfl
 |n+1=>by
  show sm n (λi=>a*f i+b*g i)+(a*f n+b*g n)=a*(sm n f+f n)+b*(sm n g+g n)
  rw[mU a b f g n,Int.mul_add,Int.mul_add]
  omega
theorem fW(a:Int)(f:Nat->Int)(n:Nat):sm n (λi=>a*f i)=a*sm n f:=by
 have:=mU a 0 f f n
 simp only[Int.zero_mul,Int.add_zero]at this
 exact this
theorem t9(f g:Nat->Int)(n:Nat):sm n (λi=>f i+g i)=sm n f+sm n g:=by
 have:=mU 1 1 f g n
 simp only[Int.one_mul]at this
 exact this
theorem pq(f:Nat->Int)(n:Nat):sm n (λi=>-f i)=-sm n f:=by
 have:=fW (-1) f n
 simp only[Int.neg_mul,Int.one_mul]at this
 exact this
theorem fL{f:Nat->Int}{n k:Nat}(hk:k<n)(h:∀i,i<n->i≠k->f i=0):sm n f=f k:=by
 induction n with
 |zero=>omega
 |succ n ih=>
  show sm n f+f n=f k
  by_cases Oe:k=n
  ·subst Oe
   rw[ie λi hi=>h i (by omega) (by omega),Int.zero_add]
  ·rw[ih (by omega) λi hi=>h i (by omega),h n (by omega) (Ne.symm Oe),Int.add_zero]
theorem mV{f:Nat->Int}:∀{n:Nat},(∀i,i<n->0<=f i)->0<=sm n f
 |0,_=>Int.le_refl _
 |n+1,h=>Int.add_nonneg (mV λi hi=>h i (by omega)) (h n (by omega))
theorem xG{f:Nat->Int}:∀{n:Nat},0<sm n f->∃i,i<n/\0<f i
 |0,h=>absurd h (by show¬(0:Int)<0;decide)
 |n+1,h=>by
  by_cases hn:0<f n
  ·exact⟨n,by omega,hn⟩
  ·have h':0<sm n f+f n:=h
   obtain⟨i,h1,h2⟩:=xG (n:=n) (f:=f) (by omega)
   exact⟨i,by omega,h2⟩
theorem n5(f:Nat->Nat->Int)(m:Nat):∀n:Nat,sm n (λi=>sm m λj=>f i j)=sm m λj=>sm n λi=>f i j
 |0=>by
  show(0:Int)=_
  rw[ie]
  intro i _
  rfl
 |n+1=>by
  show sm n (λi=>sm m λj=>f i j)+sm m (λj=>f n j)=sm m λj=>(sm n λi=>f i j)+f n j
  rw[n5 f m n,t9]
noncomputable def skip(t s:Nat):Nat:=if s<t then s else s+1
noncomputable def sg(t:Nat):Int:=if t % 2=0 then 1 else-1
theorem Gx(t:Nat):sg (t+1)=-sg t:=by
 unfold sg
 by_cases h:t % 2=0
 ·rw[if_pos h,if_neg (by omega)]
 ·rw[if_neg h,if_pos (by omega)]
  rfl
noncomputable def D:Nat->(Nat->Nat->Int)->Int
 |0,_=>1
 |M+1,c=>sm (M+1) λt=>sg t*(c 0 t*D M λk s=>c (k+1) (skip t s))
noncomputable abbrev cU:=Nat->Nat->Int
noncomputable def up(c:cU)(k:Nat)(v:Nat->Int):cU:=λj=>if j=k then v else c j
theorem eG(c:cU)(k:Nat)(v:Nat->Int):up c k v k=v:=if_pos rfl
theorem ig(c:cU){k j:Nat}(v:Nat->Int)(h:j≠k):up c k v j=c j:=if_neg h
theorem ij(c:cU)(k:Nat):up c k (c k)=c:=by
 funext j
 unfold up
 split
 ·rename_i h;rw[h]
 ·rfl
theorem Mu(c:cU)(k:Nat)(v w:Nat->Int):up (up c k v) k w=up c k w:=by
 funext j
 unfold up
 split<;>rfl
theorem d9(c:cU){k j:Nat}(v w:Nat->Int)(h:k≠j):up (up c k v) j w=up (up c j w) k v:=by
 funext i
 unfold up
 by_cases h1:i=j
 ·rw[if_pos h1,if_neg (by omega),if_pos h1]
 ·rw[if_neg h1]
  by_cases h2:i=k
  ·rw[if_pos h2,if_pos h2]
  ·rw[if_neg h2,if_neg h2,if_neg h1]
theorem l4:∀{M:Nat} {c c':cU},(∀k s,k<M->s<M->c k s=c' k s)->D M c=D M c'
 |0,_,_,_=>rfl
 |M+1,c,c',h=>by
  refine aM λt ht=>?_
  rw[h 0 t (by omega) ht,l4 (M:=M) λk s hk hs=>h (k+1) (skip t s) (by omega) (by unfold skip;split<;>omega)]
theorem pA(c:cU)(k t:Nat)(v:Nat->Int):(λj s=>up c (k+1) v (j+1) (skip t s))=up (λj s=>c (j+1) (skip t s)) k (λs=>v (skip t s)):=by
 funext j s
 unfold up
 by_cases h:j=k
 ·rw[if_pos (by omega),if_pos h]
 ·rw[if_neg (by omega),if_neg h]
theorem kJ(a b:Int)(u w:Nat->Int):∀{M k:Nat} (c:cU),k<M->D M (up c k λs=>a*u s+b*w s)=a*D M (up c k u)+b*D M (up c k w)
 |0,k,c,h=>by omega
 |M+1,0,c,h=>by
  show sm (M+1) _=a*sm (M+1) _+b*sm (M+1) _
  rw[<-mU]
  refine aM λt ht=>?_
  have e:∀v:Nat->Int,(λk s=>up c 0 v (k+1) (skip t s))=λk s=>c (k+1) (skip t s):=λv=>by
   funext k s
   rw[ig _ _ (by omega)]
  rw[eG,eG,eG,e,e,e]
  generalize D M (λk s=>c (k+1) (skip t s))=x
  rw[Int.add_mul,Int.mul_add,Int.mul_assoc,Int.mul_assoc,Int.mul_left_comm,Int.mul_left_comm (sg t) b]
 |M+1,k+1,c,h=>by
  show sm (M+1) _=a*sm (M+1) _+b*sm (M+1) _
  rw[<-mU]
  refine aM λt ht=>?_
  rw[pA,pA,pA,kJ a b (λs=>u (skip t s)) (λs=>w (skip t s)) _ (by omega),ig _ _ (by omega),ig _ _ (by omega),ig _ _ (by omega)]
  generalize c 0 t=y
  generalize D M (up (λj s=>c (j+1) (skip t s)) k λs=>u (skip t s))=p
  generalize D M (up (λj s=>c (j+1) (skip t s)) k λs=>w (skip t s))=q
  rw[Int.mul_add,Int.mul_add,Int.mul_left_comm y a p,Int.mul_left_comm (sg t) a,Int.mul_left_comm y b q,Int.mul_left_comm (sg t) b]
theorem Qt:∀(N:Nat) (g:Nat->Nat->Int),(∀t s,t<=s->g t s=-g (s+1) t)->sm (N+1) (λt=>sm N λs=>g t s)=0
 |0,g,h=>rfl
 |N+1,g,h=>by
  show sm (N+1) (λt=>sm N (λs=>g t s)+g t N)+sm (N+1) (λs=>g (N+1) s)=0
  rw[t9,Qt N g h,Int.zero_add]
  have:sm (N+1) (λt=>g t N)=-sm (N+1) (λs=>g (N+1) s):=by
   rw[<-pq]
   exact aM λt ht=>h t N (by omega)
  omega
theorem A6{t s:Nat}(h:t<=s)(u:Nat):skip t (skip s u)=skip (s+1) (skip t u):=by
 unfold skip
 by_cases h1:u<t
 ·rw[if_pos (show u<s by omega),if_pos h1,if_pos (by omega)]
 ·rw[if_neg h1]
  by_cases h2:u<s
  ·rw[if_pos h2,if_neg h1,if_pos (by omega)]
  ·rw[if_neg h2,if_neg (by omega),if_neg (by omega)]
theorem Dw:∀{M k:Nat} {c:cU},k+1<M->c k=c (k+1)->D M c=0
 |0,_,_,h,_=>by omega
 |1,_,_,h,_=>by omega
 |N+2,0,c,h,e=>by
  show sm (N+2) (λt=>sg t*(c 0 t*sm (N+1) λs=>sg s*(c 1 (skip t s)*D N λk u=>c (k+2) (skip t (skip s u)))))=0
  have:=Qt (N+1) (λt s=>sg t*(c 0 t*(sg s*(c 1 (skip t s)*D N λk u=>c (k+2) (skip t (skip s u)))))) (λt s RS=>by
   have e1:skip t s=s+1:=if_neg (by omega)
   have e2:skip (s+1) t=t:=if_pos (by omega)
   have e3:(λk u=>c (k+2) (skip t (skip s u)))=λk u=>c (k+2) (skip (s+1) (skip t u)):=by
    funext k u
    rw[A6 RS]
   show sg t*(c 0 t*(sg s*(c 1 (skip t s)*_)))=-(sg (s+1)*(c 0 (s+1)*(sg t*(c 1 (skip (s+1) t)*_))))
   rw[e1,e2,e3,Gx,<-e]
   generalize D N (λk u=>c (k+2) (skip (s+1) (skip t u)))=x
   generalize c 0 t=y
   generalize c 0 (s+1)=z
   rw[Int.neg_mul,Int.neg_neg,Int.mul_left_comm z,Int.mul_left_comm (sg s) (sg t),Int.mul_left_comm y (sg s),Int.mul_left_comm z y,Int.mul_left_comm y z])
  rw[<-this]
  refine aM λt ht=>?_
  rw[<-fW,<-fW]
 |N+2,k+1,c,h,e=>by
  show sm (N+2) _=0
  refine ie λt ht=>?_
  rw[Dw (M:=N+1) (k:=k) (by omega),Int.mul_zero,Int.mul_zero]
  funext s
  show c (k+1) (skip t s)=c (k+1+1) (skip t s)
  rw[e]
theorem J1{M k:Nat}(c:cU)(u w:Nat->Int)(h:k+1<M):D M (up (up c k u) (k+1) w)=-D M (up (up c k w) (k+1) u):=by
 have z:∀x:Nat->Int,D M (up (up c k x) (k+1) x)=0:=λx=>Dw h (by rw[ig _ _ (by omega),eG,eG])
 have hs:=z λs=>1*u s+1*w s
 rw[kJ 1 1 u w _ h]at hs
 rw[d9 _ _ _ (by omega),d9 c (k:=k) (j:=k+1) _ w (by omega),kJ 1 1 u w _ (by omega),kJ 1 1 u w _ (by omega)]at hs
 rw[d9 c (k:=k+1) (j:=k) u u (by omega),d9 c (k:=k+1) (j:=k) u w (by omega),d9 c (k:=k+1) (j:=k) w u (by omega),d9 c (k:=k+1) (j:=k) w w (by omega),z u,z w]at hs
 omega
theorem xH{M:Nat}:∀(n:Nat) {i:Nat} {c:cU},i+n+1<M->c i=c (i+n+1)->D M c=0
 |0,i,c,h,e=>Dw h e
 |n+1,i,c,h,e=>by
  have e2:c=up (up c (i+n+1) (c (i+n+1))) (i+n+1+1) (c (i+n+1+1)):=by
   rw[ij,ij]
  rw[e2,J1 c _ _ (by omega),xH n (i:=i) (by omega),Int.neg_zero]
  rw[ig _ _ (by omega),ig _ _ (by omega),ig _ _ (by omega),eG]
  exact e
theorem Gy{M i j:Nat}{c:cU}(hi:i<M)(hj:j<M)(h:i≠j)(e:c i=c j):D M c=0:=by
 by_cases Bq:i<j
 ·exact xH (j-i-1) (i:=i) (by omega) (by rw[show i+(j-i-1)+1=j by omega];exact e)
 ·exact xH (i-j-1) (i:=j) (by omega) (by rw[show j+(i-j-1)+1=i by omega];exact e.symm)
theorem J2{M i j:Nat}(c:cU)(u w:Nat->Int)(hi:i<M)(hj:j<M)(h:i≠j):D M (up (up c i u) j w)=-D M (up (up c i w) j u):=by
 have z:∀x:Nat->Int,D M (up (up c i x) j x)=0:=λx=>Gy hi hj h (by rw[ig _ _ h,eG,eG])
 have hs:=z λs=>1*u s+1*w s
 rw[kJ 1 1 u w _ hj]at hs
 rw[d9 _ _ _ h,d9 c (k:=i) (j:=j) _ w h,kJ 1 1 u w _ hi,kJ 1 1 u w _ hi]at hs
 rw[d9 c (k:=j) (j:=i) u u (Ne.symm h),d9 c (k:=j) (j:=i) u w (Ne.symm h),d9 c (k:=j) (j:=i) w u (Ne.symm h),d9 c (k:=j) (j:=i) w w (Ne.symm h),z u,z w]at hs
 omega
theorem J3:∀M:Nat,D M (λk s=>if k=s then 1 else 0)=1
 |0=>rfl
 |M+1=>by
  show sm (M+1) _=1
  rw[fL (k:=0) (by omega) λt ht h0=>?_]
  ·have:(λk s=>if k+1=skip 0 s then(1:Int)else 0)=λk s=>if k=s then 1 else 0:=by
     funext k s
     have:skip 0 s=s+1:=if_neg (by omega)
     rw[this]
     by_cases h:k=s
     ·rw[if_pos h,if_pos (by omega)]
     ·rw[if_neg h,if_neg (by omega)]
   show sg 0*((if 0=0 then 1 else 0)*D M (λk s=>if k+1=skip 0 s then(1:Int)else 0))=1
   rw[this,J3 M]
   rfl
  ·show sg t*((if 0=t then 1 else 0)*_)=0
   rw[if_neg (Ne.symm h0),Int.zero_mul,Int.mul_zero]
noncomputable def fact:Nat->Nat
 |0=>1
 |n+1=>(n+1)*fact n
theorem Dx{f:Nat->Int}{b:Nat}:∀{n:Nat},(∀i,i<n->(f i).natAbs<=b)->(sm n f).natAbs<=n*b
 |0,_=>by show(0:Int).natAbs<=_;simp
 |n+1,h=>by
  have h1:=Dx (n:=n) λi hi=>h i (by omega)
  have h2:=h n (by omega)
  show(sm n f+f n).natAbs<=(n+1)*b
  have:=Int.natAbs_add_le (sm n f) (f n)
  rw[Nat.succ_mul]
  omega
theorem Dy:∀{M:Nat} {c:cU},(∀k s,k<M->s<M->(c k s).natAbs<=1)->(D M c).natAbs<=fact M
 |0,_,_=>by show(1:Int).natAbs<=1;decide
 |M+1,c,h=>by
  refine Dx λt ht=>?_
  rw[Int.natAbs_mul,Int.natAbs_mul]
  have h1:(sg t).natAbs=1:=by unfold sg;split<;>rfl
  have h2:=h 0 t (by omega) ht
  have h3:=Dy (M:=M) (c:=λk s=>c (k+1) (skip t s)) λk s hk hs=>h (k+1) (skip t s) (by omega) (by unfold skip;split<;>omega)
  rw[h1,Nat.one_mul]
  calc(c 0 t).natAbs*_<=1*fact M:=Nat.mul_le_mul h2 h3
   _=fact M:=Nat.one_mul _
theorem J4{f:Nat->Int}{n i j:Nat}(hi:i<n)(hj:j<n)(Bq:i≠j)(h:∀k,k<n->k≠i->k≠j->f k=0):sm n f=f i+f j:=by
 have e:sm n f=sm n (λk=>(if k=i then f i else 0)+(if k=j then f j else 0)):=aM λk hk=>by
  by_cases h1:k=i
  ·rw[if_pos h1,if_neg (by omega),h1,Int.add_zero]
  ·rw[if_neg h1]
   by_cases h2:k=j
   ·rw[if_pos h2,h2,Int.zero_add]
   ·rw[if_neg h2,h k hk h1 h2]
    rfl
 rw[e,t9,fL (k:=i) hi (λk _ hk=>if_neg hk),fL (k:=j) hj (λk _ hk=>if_neg hk),if_pos rfl,if_pos rfl]
theorem HF{M k:Nat}(c:cU)(hk:k<M)(a:Nat->Int)(u:Nat->Nat->Int):∀n:Nat,D M (up c k λs=>sm n λt=>a t*u t s)=sm n λt=>a t*D M (up c k (u t))
 |0=>by
  show D M (up c k λs=>0)=0
  have:=kJ (M:=M) 0 0 (λ_=>0) (λ_=>0) c hk
  have z:(λ_:Nat=>(0:Int)*0+0*0)=λ_=>0:=rfl
  rw[z]at this
  rw[this]
  generalize D M (up c k λ_=>0)=x
  omega
 |n+1=>by
  show D M (up c k λs=>(sm n λt=>a t*u t s)+a n*u n s)=(sm n λt=>a t*D M (up c k (u t)))+a n*D M (up c k (u n))
  have:=kJ 1 (a n) (λs=>sm n λt=>a t*u t s) (u n) c hk
  rw[Int.one_mul,HF c hk a u n]at this
  rw[<-this]
  refine l4 λj s _ _=>?_
  unfold up
  split
  ·show _=1*_+_
   rw[Int.one_mul]
  ·rfl
theorem Gz{M k:Nat}(c:cU)(hk:k<M){d:Int}{x:Nat->Int}{n:Nat}(a:Nat->Int)(u:Nat->Nat->Int)(h:∀s,s<M->(sm n λt=>a t*u t s)=d*x s):d*D M (up c k x)=sm n λt=>a t*D M (up c k (u t)):=by
 rw[<-HF c hk]
 have:=kJ d 0 x x c hk
 rw[Int.zero_mul,Int.add_zero]at this
 rw[<-this]
 refine l4 λj s _ hs=>?_
 unfold up
 split
 ·show d*x s+0*x s=sm n λt=>a t*u t s
  rw[h s hs,Int.zero_mul,Int.add_zero]
 ·rfl
section
variable(A:cU)(m:Nat)
noncomputable def cE:Nat->Int:=λs=>if s=m then 1 else 0
noncomputable def dY(sol:Nat->Nat):cU:=λk=>if k<m then A (sol k)else cE m
noncomputable def dt(sol:Nat->Nat):Int:=D (m+1) (dY A m sol)
noncomputable def T(sol:Nat->Nat)(i j:Nat):Int:=D (m+1) (up (dY A m sol) i (A j))
structure Tab(sol:Nat->Nat):Prop where
 pos:0<dt A m sol
 eqs:∀j s,s<=m->(sm (m+1) λk=>T A m sol k j*dY A m sol k s)=dt A m sol*A j s
noncomputable def iW(sol:Nat->Nat)(r c:Nat):Nat->Nat:=λk=>if k=r then c else sol k
end
section
variable{A:cU}{m:Nat}{sol:Nat->Nat}{r c:Nat}
theorem l5(hr:r<m):dY A m (iW sol r c)=up (dY A m sol) r (A c):=by
 funext k
 unfold dY iW up
 by_cases h:k=r
 ·rw[if_pos (by omega),if_pos h,if_pos h]
 ·rw[if_neg h,if_neg h]
theorem ua(hr:r<m):dt A m (iW sol r c)=T A m sol r c:=by
 unfold dt
 rw[l5 hr]
 rfl
theorem zm(hr:r<m)(j:Nat):T A m (iW sol r c) r j=T A m sol r j:=by
 unfold T
 rw[l5 hr,Mu]
theorem l6(X:Tab A m sol)(hr:r<m){i:Nat}(hi:i<=m)(Mv:i≠r)(j:Nat):dt A m sol*T A m (iW sol r c) i j=T A m sol i j*T A m sol r c-T A m sol i c*T A m sol r j:=by
 have e:=Gz (M:=m+1) (k:=i) (up (dY A m sol) r (A c)) (by omega) (d:=dt A m sol) (x:=A j) (n:=m+1) (λk=>T A m sol k j) (λk=>dY A m sol k) (λs hs=>X.eqs j s (by omega))
 unfold T at e⊢
 rw[l5 hr,e,J4 (i:=i) (j:=r) (by omega) (by omega) Mv]
 ·have e1:up (up (dY A m sol) r (A c)) i (dY A m sol i)=up (dY A m sol) r (A c):=by
    rw[d9 _ _ _ (Ne.symm Mv),ij]
  have e2:D (m+1) (up (up (dY A m sol) r (A c)) i (dY A m sol r))=-D (m+1) (up (dY A m sol) i (A c)):=by
   rw[J2 (dY A m sol) (A c) (dY A m sol r) (by omega) (by omega) (Ne.symm Mv),ij]
  show D (m+1) (up (dY A m sol) i (A j))*D (m+1) (up (up (dY A m sol) r (A c)) i (dY A m sol i))+D (m+1) (up (dY A m sol) r (A j))*D (m+1) (up (up (dY A m sol) r (A c)) i (dY A m sol r))=_
  rw[e1,e2,Int.mul_neg,Int.mul_comm (D (m+1) (up (dY A m sol) r (A j)))]
  rfl
 ·intro k hk h1 h2
  have z:D (m+1) (up (up (dY A m sol) r (A c)) i (dY A m sol k))=0:=Gy (i:=i) (j:=k) (by omega) hk (Ne.symm h1) (by rw[eG,ig _ _ h1,ig _ _ h2])
  show _*D (m+1) (up (up (dY A m sol) r (A c)) i (dY A m sol k))=0
  rw[z,Int.mul_zero]
theorem GA(X:Tab A m sol)(hr:r<m)(hp:0<T A m sol r c):Tab A m (iW sol r c):=by
 refine⟨by rw[ua hr];exact hp,λj s hs=>?_⟩
 have hd:dt A m sol≠0:=by have:=X.pos;omega
 refine Int.eq_of_mul_eq_mul_left hd ?_
 rw[ua hr,<-fW]
 have f:∀k,k<m+1->dt A m sol*(T A m (iW sol r c) k j*dY A m (iW sol r c) k s)=(T A m sol r c*(T A m sol k j*dY A m sol k s)+-T A m sol r j*(T A m sol k c*dY A m sol k s))+(if k=r then T A m sol r j*(dt A m sol*A c s)else 0):=λk hk=>by
  by_cases h:k=r
  ·subst h
   rw[zm hr,if_pos rfl,l5 hr,eG]
   generalize T A m sol k c=x
   generalize T A m sol k j=y
   generalize dY A m sol k s=z
   generalize A c s=w
   generalize dt A m sol=d
   rw[Int.neg_mul,Int.mul_left_comm x y z,Int.add_right_neg,Int.zero_add,Int.mul_left_comm]
  ·rw[if_neg h,Int.add_zero,l5 hr,ig _ _ h,<-Int.mul_assoc,l6 X hr (by omega) h,Int.sub_mul,Int.neg_mul]
   generalize T A m sol k j=x
   generalize T A m sol r c=y
   generalize T A m sol k c=z
   generalize T A m sol r j=w
   generalize dY A m sol k s=v
   rw[Int.mul_comm x y,Int.mul_assoc,Int.mul_comm z w,Int.mul_assoc]
   omega
 rw[aM f,t9,mU,X.eqs j s hs,X.eqs c s hs,fL (k:=r) (by omega) (λk _ hk=>if_neg hk),if_pos rfl]
 generalize T A m sol r c=x
 generalize T A m sol r j=y
 generalize dt A m sol=d
 generalize A j s=u
 generalize A c s=w
 rw[Int.neg_mul,Int.mul_left_comm x d u]
 omega
theorem zo{i k:Nat}(hi:i<=m)(hk:k<m)(h:i≠k):T A m sol i (sol k)=0:=by
 unfold T
 refine Gy (i:=i) (j:=k) (by omega) (by omega) h ?_
 rw[eG,ig _ _ (Ne.symm h)]
 unfold dY
 rw[if_pos hk]
theorem J5{k:Nat}(hk:k<m):T A m sol k (sol k)=dt A m sol:=by
 unfold T dt
 have:A (sol k)=dY A m sol k:=by unfold dY;rw[if_pos hk]
 rw[this,ij]
theorem nH(X:Tab A m sol)(y:Nat->Int)(j:Nat):dt A m sol*(sm (m+1) λs=>y s*A j s)=(sm m λk=>T A m sol k j*sm (m+1) λs=>y s*A (sol k) s)+T A m sol m j*y m:=by
 have e:dt A m sol*(sm (m+1) λs=>y s*A j s)=sm (m+1) λk=>T A m sol k j*sm (m+1) λs=>y s*dY A m sol k s:=by
  rw[<-fW]
  have:sm (m+1) (λs=>dt A m sol*(y s*A j s))=sm (m+1) λs=>sm (m+1) λk=>y s*(T A m sol k j*dY A m sol k s):=aM λs hs=>by
   rw[Int.mul_left_comm,<-X.eqs j s (by omega),<-fW]
  rw[this,n5]
  refine aM λk hk=>?_
  rw[<-fW]
  exact aM λs hs=>Int.mul_left_comm _ _ _
 rw[e]
 show sm m _+T A m sol m j*_=_
 congr 1
 ·refine aM λk hk=>?_
  congr 1
  refine aM λs hs=>?_
  unfold dY
  rw[if_pos hk]
 ·congr 1
  rw[fL (k:=m) (by omega)]
  ·unfold dY cE
   rw[if_neg (by omega),if_pos rfl,Int.mul_one]
  ·intro s hs h
   unfold dY cE
   rw[if_neg (by omega),if_neg h,Int.mul_zero]
theorem Mw(X:Tab A m sol){sol':Nat->Nat}(j:Nat):dt A m sol*T A m sol' m j=(sm m λk=>T A m sol k j*T A m sol' m (sol k))+T A m sol m j*dt A m sol':=by
 have e:=Gz (M:=m+1) (k:=m) (dY A m sol') (by omega) (d:=dt A m sol) (x:=A j) (n:=m+1) (λk=>T A m sol k j) (λk=>dY A m sol k) (λs hs=>X.eqs j s (by omega))
 unfold T at e⊢
 rw[e]
 show sm m _+_*D (m+1) (up (dY A m sol') m (dY A m sol m))=_
 congr 1
 ·refine aM λk hk=>?_
  have:dY A m sol k=A (sol k):=by unfold dY;rw[if_pos hk]
  rw[this]
 ·have:dY A m sol m=dY A m sol' m:=by unfold dY;rw[if_neg (by omega),if_neg (by omega)]
  rw[this,ij]
  rfl
end
theorem J6{M k:Nat}(hk:k<M)(v:Nat->Int):D M (up (λk s=>if k=s then 1 else 0) k v)=v k:=by
 have e:=Gz (M:=M) (k:=k) (λk s=>if k=s then 1 else 0) hk (d:=1) (x:=v) (n:=M) v (λt s=>if t=s then 1 else 0) (λs hs=>by
  rw[fL (k:=s) hs λt _ ht=>by rw[if_neg ht,Int.mul_zero],if_pos rfl,Int.mul_one,Int.one_mul])
 rw[Int.one_mul]at e
 rw[e,fL (k:=k) hk]
 ·have:=ij (λk s=>if k=s then(1:Int)else 0) k
  rw[this,J3,Int.mul_one]
 ·intro t ht h
  rw[Gy (i:=k) (j:=t) hk ht (Ne.symm h) (by rw[eG,ig _ _ h]),Int.mul_zero]
theorem A7{A:cU}{m N:Nat}(h:∀k s,k<m->s<=m->A (N+k) s=if k=s then 1 else 0):Tab A m (λk=>N+k)/\dt A m (λk=>N+k)=1/\∀i j,i<=m->T A m (λk=>N+k) i j=A j i:=by
 have hb:∀k s,k<m+1->s<m+1->dY A m (λk=>N+k) k s=if k=s then 1 else 0:=λk s hk hs=>by
  unfold dY
  by_cases O6:k<m
  ·rw[if_pos O6]
   exact h k s O6 (by omega)
  ·rw[if_neg O6]
   unfold cE
   by_cases e:s=m
   ·rw[if_pos e,if_pos (by omega)]
   ·rw[if_neg e,if_neg (by omega)]
 have hd:dt A m (λk=>N+k)=1:=by
  unfold dt
  rw[l4 hb,J3]
 have hT:∀i j,i<=m->T A m (λk=>N+k) i j=A j i:=λi j hi=>by
  unfold T
  rw[l4 (c':=up (λk s=>if k=s then 1 else 0) i (A j)) λk s hk hs=>?_,J6 (by omega)]
  unfold up
  split
  ·rfl
  ·exact hb k s hk hs
 refine⟨⟨by rw[hd];decide,λj s hs=>?_⟩,hd,hT⟩
 rw[hd,Int.one_mul,fL (k:=s) (by omega)]
 ·rw[hT s j hs,hb s s (by omega) (by omega),if_pos rfl,Int.mul_one]
 ·intro k hk EC
  rw[hb k s hk (by omega),if_neg EC,Int.mul_zero]
theorem pB{a b:Int}(ha:0<a)(h:0<a*b):0<b:=by
 rcases Int.lt_or_le 0 b with hb|hb
 ·exact hb
 ·have:=Int.mul_le_mul_of_nonneg_left hb (Int.le_of_lt ha)
  rw[Int.mul_zero]at this
  omega
theorem qv{a b:Int}(ha:0<a)(h:0<=a*b):0<=b:=by
 rcases Int.lt_or_le b 0 with hb|hb
 ·have:=Int.mul_lt_mul_of_pos_left hb ha
  rw[Int.mul_zero]at this
  omega
 ·exact hb
theorem ny{a b:Int}(ha:0<a)(h:a*b=0):b=0:=by
 rcases Int.mul_eq_zero.mp h with h|h
 ·omega
 ·exact h
theorem Mx{za da zt d zn dn:Int}(h1:za*d<=zt*da)(h2:zt*dn<d*zn)(h3:zn*da<=za*dn)(hd:0<d)(ha:0<da)(hn:0<dn):False:=by
 have e1:=Int.mul_le_mul_of_nonneg_right h1 (Int.le_of_lt hn)
 have e2:=Int.mul_lt_mul_of_pos_right h2 ha
 have e3:=Int.mul_le_mul_of_nonneg_left h3 (Int.le_of_lt hd)
 have r1:zt*da*dn=zt*dn*da:=Int.mul_right_comm _ _ _
 have r2:d*zn*da=d*(zn*da):=Int.mul_assoc _ _ _
 have r3:d*(za*dn)=za*d*dn:=by rw[Int.mul_left_comm,Int.mul_assoc]
 omega
section
variable(A:cU)(m J:Nat)
structure Turn(sol:Nat->Nat)(r c:Nat):Prop where
 cJ:c<J
 neg:T A m sol m c<0
 fst:∀j,j<c->0<=T A m sol m j
 rm:r<m
 pos:0<T A m sol r c
 fD:∀i,i<m->0<T A m sol i c->T A m sol r J*T A m sol i c<T A m sol i J*T A m sol r c\/(T A m sol r J*T A m sol i c=T A m sol i J*T A m sol r c/\sol r<=sol i)
noncomputable def l7(sol:Nat->Nat):Prop:=∀i,i<m->0<=T A m sol i J
end
section
variable{A:cU}{m J:Nat}{sol:Nat->Nat}{r c:Nat}
theorem Turn.O7(X:Tab A m sol)(F:l7 A m J sol)(t:Turn A m J sol r c):l7 A m J (iW sol r c):=by
 intro i hi
 by_cases h:i=r
 ·rw[h,zm t.rm]
  exact F r t.rm
 ·refine qv X.pos ?_
  rw[l6 X t.rm (by omega) h]
  rcases Int.lt_or_le 0 (T A m sol i c)with hp|hp
  ·rcases t.fD i hi hp with e|⟨e,_⟩
   ·rw[Int.mul_comm (T A m sol r J)]at e
    omega
   ·rw[Int.mul_comm (T A m sol r J)]at e
    omega
  ·have e1:=Int.mul_nonneg (F i hi) (Int.le_of_lt t.pos)
   have e2:=Int.mul_le_mul_of_nonneg_right hp (F r t.rm)
   rw[Int.zero_mul]at e2
   omega
theorem Turn.tab(X:Tab A m sol)(t:Turn A m J sol r c):Tab A m (iW sol r c):=GA X t.rm t.pos
theorem Turn.worth(X:Tab A m sol)(t:Turn A m J sol r c):dt A m sol*T A m (iW sol r c) m J=T A m sol m J*dt A m (iW sol r c)+(-T A m sol m c)*T A m sol r J:=by
 rw[l6 X t.rm (by omega) (by have:=t.rm;omega),ua t.rm,Int.neg_mul]
 omega
theorem inj(X:Tab A m sol){i k:Nat}(hi:i<m)(hk:k<m)(h:sol i=sol k):i=k:=by
 by_cases e:i=k
 ·exact e
 ·have e1:=zo (A:=A) (sol:=sol) (Nat.le_of_lt hi) hk e
  rw[<-h,J5 hi]at e1
  have:=X.pos
  omega
theorem n6{k j:Nat}(hk:k<m)(h:T A m sol m j≠0):sol k≠j:=λe=>h (e▸zo (Nat.le_refl m) hk (by omega))
end
section
variable{A:cU}{m J K:Nat}{sol:Nat->Nat->Nat}{ko ent:Nat->Nat}
structure Run(A:cU)(m J K:Nat)(sol:Nat->Nat->Nat)(ko ent:Nat->Nat):Prop where
 tab0:Tab A m (sol 0)
 feas0:l7 A m J (sol 0)
 turn:∀t,t<K->Turn A m J (sol t) (ko t) (ent t)
 iW:∀t,t<K->sol (t+1)=iW (sol t) (ko t) (ent t)
theorem Run.tf(R:Run A m J K sol ko ent):∀t,t<=K->Tab A m (sol t)/\l7 A m J (sol t)
 |0,_=>⟨R.tab0,R.feas0⟩
 |t+1,h=>by
  have⟨X,F⟩:=R.tf t (by omega)
  rw[R.iW t (by omega)]
  exact⟨(R.turn t (by omega)).tab X,(R.turn t (by omega)).O7 X F⟩
theorem Run.worth(R:Run A m J K sol ko ent){a:Nat}:∀n,a+n<=K->T A m (sol a) m J*dt A m (sol (a+n))<=T A m (sol (a+n)) m J*dt A m (sol a)
 |0,_=>Int.le_refl _
 |n+1,h=>by
  have ih:=R.worth (a:=a) n (by omega)
  have⟨X,F⟩:=R.tf (a+n) (by omega)
  have tn:=R.turn (a+n) (by omega)
  have w:=tn.worth X
  rw[<-R.iW (a+n) (by omega)]at w
  have Xa:=(R.tf a (by omega)).1
  have Xn:=(R.tf (a+n+1) (by omega)).1
  have g:=Int.mul_nonneg (show 0<=-T A m (sol (a+n)) m (ent (a+n)) by have:=tn.neg;omega) (F (ko (a+n)) tn.rm)
  show T A m (sol a) m J*dt A m (sol (a+n+1))<=T A m (sol (a+n+1)) m J*dt A m (sol a)
  refine Int.le_of_mul_le_mul_left ?_ X.pos
  have e1:=Int.mul_le_mul_of_nonneg_right ih (Int.le_of_lt Xn.pos)
  have e2:=Int.mul_le_mul_of_nonneg_right (show T A m (sol (a+n)) m J*dt A m (sol (a+n+1))<=dt A m (sol (a+n))*T A m (sol (a+n+1)) m J by omega) (Int.le_of_lt Xa.pos)
  have r1:dt A m (sol (a+n))*(T A m (sol a) m J*dt A m (sol (a+n+1)))=T A m (sol a) m J*dt A m (sol (a+n))*dt A m (sol (a+n+1)):=by
   rw[Int.mul_left_comm,Int.mul_assoc]
  have r2:T A m (sol (a+n)) m J*dt A m (sol a)*dt A m (sol (a+n+1))=T A m (sol (a+n)) m J*dt A m (sol (a+n+1))*dt A m (sol a):=Int.mul_right_comm _ _ _
  have r3:dt A m (sol (a+n))*(T A m (sol (a+n+1)) m J*dt A m (sol a))=dt A m (sol (a+n))*T A m (sol (a+n+1)) m J*dt A m (sol a):=(Int.mul_assoc _ _ _).symm
  rw[r1,r3]
  exact Int.le_trans e1 (r2▸e2)
theorem J7{sol sol':Nat->Nat}(h:∀k,k<m->sol k=sol' k):(∀i j,T A m sol i j=T A m sol' i j)/\dt A m sol=dt A m sol':=by
 have e:dY A m sol=dY A m sol':=by
  funext k
  unfold dY
  by_cases hk:k<m
  ·rw[if_pos hk,if_pos hk,h k hk]
  ·rw[if_neg hk,if_neg hk]
 unfold T dt
 rw[e]
 exact⟨λ_ _=>rfl,rfl⟩
theorem Run.flat(R:Run A m J K sol ko ent){a b:Nat}(hb:b<=K)(e:∀k,k<m->sol a k=sol b k){t:Nat}(h1:a<=t)(h2:t<b):T A m (sol t) (ko t) J=0:=by
 have⟨X,F⟩:=R.tf t (by omega)
 have tn:=R.turn t (by omega)
 have w:=tn.worth X
 rw[<-R.iW t (by omega)]at w
 have Xa:=(R.tf a (by omega)).1
 have Xn:=(R.tf (t+1) (by omega)).1
 have⟨s1,s2⟩:=J7 (A:=A) e
 have w1:=R.worth (a:=a) (t-a) (by omega)
 have w2:=R.worth (a:=t+1) (b-(t+1)) (by omega)
 rw[show a+(t-a)=t by omega]at w1
 rw[show t+1+(b-(t+1))=b by omega,<-s1,<-s2]at w2
 have p:=F (ko t) tn.rm
 by_cases z:T A m (sol t) (ko t) J=0
 ·exact z
 ·exfalso
  have g:=Int.mul_pos (show 0< -T A m (sol t) m (ent t) by have:=tn.neg;omega) (show 0<T A m (sol t) (ko t) J by omega)
  exact Mx w1 (by omega) w2 X.pos Xa.pos Xn.pos
theorem Run.keep(R:Run A m J K sol ko ent){a b:Nat}(hb:b<=K)(e:∀k,k<m->sol a k=sol b k){i t:Nat}(hi:i<m)(h1:a<=t)(h2:t<b):T A m (sol (t+1)) i J=0↔T A m (sol t) i J=0:=by
 have X:=(R.tf t (by omega)).1
 have tn:=R.turn t (by omega)
 have z:=R.flat hb e h1 h2
 rw[R.iW t (by omega)]
 by_cases h:i=ko t
 ·rw[h,zm tn.rm]
 ·have c:=l6 (c:=ent t) X tn.rm (Nat.le_of_lt hi) h J
  rw[z,Int.mul_zero,Int.sub_zero]at c
  constructor
  ·intro q
   rw[q,Int.mul_zero]at c
   rw[Int.mul_comm]at c
   exact ny tn.pos c.symm
  ·intro q
   rw[q,Int.zero_mul]at c
   exact ny X.pos c
theorem Run.keeps(R:Run A m J K sol ko ent){a b:Nat}(hb:b<=K)(e:∀k,k<m->sol a k=sol b k){i:Nat}(hi:i<m){t:Nat}(h1:a<=t):∀n,t+n<=b->(T A m (sol (t+n)) i J=0↔T A m (sol t) i J=0)
 |0,_=>Iff.rfl
 |n+1,h=>(R.keep hb e hi (t:=t+n) (by omega) (by omega)).trans (R.keeps hb e hi h1 n (by omega))
theorem Run.zero(R:Run A m J K sol ko ent){a b:Nat}(hb:b<=K)(e:∀k,k<m->sol a k=sol b k){u s:Nat}(h1:a<=u)(h2:u<b)(h3:a<=s)(h4:s<=b):T A m (sol s) (ko u) J=0:=by
 have z:=R.flat hb e h1 h2
 have hi:=(R.turn u (by omega)).rm
 rcases Nat.le_total u s with h|h
 ·have:=R.keeps hb e hi h1 (s-u) (by omega)
  rw[show u+(s-u)=s by omega]at this
  exact this.mpr z
 ·have:=R.keeps hb e hi h3 (u-s) (by omega)
  rw[show s+(u-s)=u by omega]at this
  exact this.mp z
theorem Run.xI(R:Run A m J K sol ko ent){x k v:Nat}(h:sol x k≠v):∀n,x+n<=K->sol (x+n) k=v->∃u,x<=u/\u<x+n/\ent u=v/\ko u=k
 |0,_,q=>absurd q h
 |n+1,hk,q=>by
  by_cases c:sol (x+n) k=v
  ·have⟨u,a,b,d⟩:=R.xI h n (by omega) c
   exact⟨u,a,by omega,d⟩
  ·refine⟨x+n,by omega,by omega,?_⟩
   have q':sol (x+n+1) k=v:=q
   rw[R.iW (x+n) (by omega)]at q'
   unfold Sx.iW at q'
   by_cases w:k=ko (x+n)
   ·rw[if_pos w]at q'
    exact⟨q',w.symm⟩
   ·rw[if_neg w]at q'
    exact absurd q' c
theorem Run.xJ(R:Run A m J K sol ko ent){x k v:Nat}(h:sol x k=v):∀n,x+n<=K->sol (x+n) k≠v->∃u,x<=u/\u<x+n/\sol u k=v/\ko u=k
 |0,_,q=>absurd h q
 |n+1,hk,q=>by
  by_cases c:sol (x+n) k=v
  ·refine⟨x+n,by omega,by omega,c,?_⟩
   have q':sol (x+n+1) k≠v:=q
   rw[R.iW (x+n) (by omega)]at q'
   unfold Sx.iW at q'
   by_cases w:k=ko (x+n)
   ·exact w.symm
   ·rw[if_neg w]at q'
    exact absurd c q'
  ·have⟨u,a,b,d⟩:=R.xJ h n (by omega) c
   exact⟨u,a,by omega,d⟩
theorem most(f:Nat->Nat)(a:Nat):∀n,∃t,a<=t/\t<a+n+1/\∀u,a<=u->u<a+n+1->f u<=f t
 |0=>⟨a,by omega,by omega,λu h1 h2=>by rw[show u=a by omega];exact Nat.le_refl _⟩
 |n+1=>by
  have⟨t,h1,h2,h3⟩:=most f a n
  by_cases c:f t<=f (a+n+1)
  ·refine⟨a+n+1,by omega,by omega,λu q1 q2=>?_⟩
   by_cases e:u=a+n+1
   ·rw[e];exact Nat.le_refl _
   ·exact Nat.le_trans (h3 u q1 (by omega)) c
  ·refine⟨t,h1,by omega,λu q1 q2=>?_⟩
   by_cases e:u=a+n+1
   ·rw[e];omega
   ·exact h3 u q1 (by omega)
theorem Run.once(R:Run A m J K sol ko ent){a b:Nat}(Sz:a<b)(hb:b<=K)(e:∀k,k<m->sol a k=sol b k):False:=by
 have⟨t,RU,OX,O8⟩:=most ent a (b-a-1)
 rw[show a+(b-a-1)+1=b by omega]at OX O8
 have tt:=R.turn t (by omega)
 have Xt:=(R.tf t (by omega)).1
 have hs:∃s,a<=s/\s<b/\sol s (ko s)=ent t:=by
  have q1:sol (t+1) (ko t)=ent t:=by rw[R.iW t (by omega)];exact if_pos rfl
  have q0:sol t (ko t)≠ent t:=n6 (A:=A) tt.rm (by have:=tt.neg;omega)
  by_cases c:sol b (ko t)=ent t
  ·have⟨u,g1,g2,g3,g4⟩:=R.xJ (x:=a) (k:=ko t) (v:=ent t) (by rw[e _ tt.rm];exact c) (t-a) (by omega) (by rw[show a+(t-a)=t by omega];exact q0)
   exact⟨u,g1,by omega,by rw[g4];exact g3⟩
  ·have⟨u,g1,g2,g3,g4⟩:=R.xJ q1 (b-(t+1)) (by omega) (by rw[show t+1+(b-(t+1))=b by omega];exact c)
   exact⟨u,by omega,by omega,by rw[g4];exact g3⟩
 have⟨s,HD,j9,Ad⟩:=hs
 have ts:=R.turn s (by omega)
 have Xs:=(R.tf s (by omega)).1
 have lt:ent s<ent t:=by
  have l:=O8 s HD j9
  have n:=n6 (A:=A) (sol:=sol s) (j:=ent s) ts.rm (by have:=ts.neg;omega)
  rw[Ad]at n
  omega
 have c:=Mw Xs (sol':=sol t) (ent s)
 have c1:=Int.mul_nonneg (Int.le_of_lt Xs.pos) (tt.fst (ent s) lt)
 have c2:=Int.mul_neg_of_neg_of_pos ts.neg Xt.pos
 have⟨k,hk,hp⟩:=xG (n:=m) (f:=λk=>T A m (sol s) k (ent s)*T A m (sol t) m (sol s k)) (by omega)
 have hp:0<T A m (sol s) k (ent s)*T A m (sol t) m (sol s k):=hp
 have nz:T A m (sol t) m (sol s k)≠0:=λz=>by rw[z,Int.mul_zero]at hp;omega
 have nk:k≠ko s:=λw=>by
  rw[w,Ad]at hp
  have:=Int.mul_neg_of_pos_of_neg ts.pos tt.neg
  omega
 have nq:sol s k≠ent t:=λw=>nk (inj Xs hk ts.rm (w.trans Ad.symm))
 have nt:sol t k≠sol s k:=n6 (A:=A) hk nz
 have hv:∃u,a<=u/\u<b/\ent u=sol s k/\ko u=k:=by
  by_cases w:sol a k=sol s k
  ·have⟨u,g1,g2,g3⟩:=R.xI nt (b-t) (by omega) (by rw[show t+(b-t)=b by omega,<-e k hk];exact w)
   exact⟨u,by omega,by omega,g3⟩
  ·have⟨u,g1,g2,g3⟩:=R.xI w (s-a) (by omega) (by rw[show a+(s-a)=s by omega])
   exact⟨u,by omega,by omega,g3⟩
 have⟨u,Qu,Nf,SA,RV⟩:=hv
 have lv:sol s k<ent t:=by
  have l:=O8 u Qu Nf
  omega
 have pv:0<T A m (sol t) m (sol s k):=by
  have:=tt.fst (sol s k) lv
  omega
 have pk:0<T A m (sol s) k (ent s):=by
  rw[Int.mul_comm]at hp
  exact pB pv hp
 have zk:=R.zero hb e Qu Nf HD (Nat.le_of_lt j9)
 rw[RV]at zk
 have zl:=R.zero hb e HD j9 HD (Nat.le_of_lt j9)
 rcases ts.fD k hk pk with f|⟨_,f⟩
 ·rw[zk,zl,Int.zero_mul,Int.zero_mul]at f
  omega
 ·rw[Ad]at f
  omega
end
theorem zp:∀(N:Nat) (f:Nat->Nat),(∀i,i<=N->f i<N)->∃i j,i<j/\j<=N/\f i=f j
 |0,f,h=>absurd (h 0 (Nat.le_refl _)) (by omega)
 |N+1,f,h=>by
  by_cases c:∃i,i<=N/\f i=f (N+1)
  ·have⟨i,h1,h2⟩:=c
   exact⟨i,N+1,by omega,by omega,h2⟩
  ·have⟨i,j,h1,h2,h3⟩:=zp N (λi=>if f i=N then f (N+1)else f i) (λi hi=>by
     have a:=h i (by omega)
     have b:=h (N+1) (by omega)
     have d:f i≠f (N+1):=λw=>c ⟨i,hi,w⟩
     by_cases e:f i=N
     ·show(if f i=N then f (N+1)else f i)<N
      rw[if_pos e]
      omega
     ·show(if f i=N then f (N+1)else f i)<N
      rw[if_neg e]
      omega)
   have h3:(if f i=N then f (N+1)else f i)=(if f j=N then f (N+1)else f j):=h3
   refine⟨i,j,h1,by omega,?_⟩
   have di:f i≠f (N+1):=λw=>c ⟨i,by omega,w⟩
   have dj:f j≠f (N+1):=λw=>c ⟨j,by omega,w⟩
   by_cases e1:f i=N
   ·by_cases e2:f j=N
    ·omega
    ·rw[if_pos e1,if_neg e2]at h3
     exact absurd h3.symm dj
   ·by_cases e2:f j=N
    ·rw[if_neg e1,if_pos e2]at h3
     exact absurd h3 di
    ·rw[if_neg e1,if_neg e2]at h3
     exact h3
noncomputable def code(J:Nat)(g:Nat->Nat):Nat->Nat
 |0=>0
 |m+1=>code J g m*J+g m
theorem zq{J:Nat}{g:Nat->Nat}:∀{m:Nat},(∀k,k<m->g k<J)->code J g m<J^m
 |0,_=>by show 0<1;omega
 |m+1,h=>by
  have a:=zq (m:=m) λk hk=>h k (by omega)
  have b:=h m (by omega)
  have e:(code J g m+1)*J<=J^m*J:=Nat.mul_le_mul_right J a
  rw[Nat.add_mul,Nat.one_mul]at e
  show code J g m*J+g m<J^m*J
  omega
theorem code_inj{J:Nat}{g h:Nat->Nat}:∀{m:Nat},(∀k,k<m->g k<J)->(∀k,k<m->h k<J)->code J g m=code J h m->∀k,k<m->g k=h k
 |0,_,_,_,k,hk=>absurd hk (by omega)
 |m+1,hg,hh,e,k,hk=>by
  have e:code J g m*J+g m=code J h m*J+h m:=e
  have a:=hg m (by omega)
  have b:=hh m (by omega)
  have e1:g m=h m:=by
   have:=congrArg (·% J) e
   simp only[Nat.mul_add_mod,Nat.mod_eq_of_lt a,Nat.mod_eq_of_lt b,Nat.mul_comm _ J]at this
   exact this
  have e2:code J g m=code J h m:=Nat.eq_of_mul_eq_mul_right (show 0<J by omega) (by omega)
  by_cases w:k=m
  ·rw[w];exact e1
  ·exact code_inj (λk hk=>hg k (by omega)) (λk hk=>hh k (by omega)) e2 k (by omega)
theorem Run.A8{A:cU}{m J K:Nat}{sol:Nat->Nat->Nat}{ko ent:Nat->Nat}(R:Run A m J K sol ko ent)(h0:∀k,k<m->sol 0 k<J):∀t,t<=K->∀k,k<m->sol t k<J
 |0,_,k,hk=>h0 k hk
 |t+1,ht,k,hk=>by
  rw[R.iW t (by omega)]
  unfold Sx.iW
  split
  ·exact(R.turn t (by omega)).cJ
  ·exact R.A8 h0 t (by omega) k hk
theorem Run.ends{A:cU}{m J K:Nat}{sol:Nat->Nat->Nat}{ko ent:Nat->Nat}(R:Run A m J K sol ko ent)(h0:∀k,k<m->sol 0 k<J):K<J^m:=by
 rcases Nat.lt_or_ge K (J^m)with h|h
 ·exact h
 ·exfalso
  have⟨i,j,h1,h2,h3⟩:=zp (J^m) (λt=>code J (sol t) m) λt ht=>zq (R.A8 h0 t (by omega))
  exact R.once h1 (by omega) (code_inj (R.A8 h0 i (by omega)) (R.A8 h0 j (by omega)) h3)
theorem vG{f g:Nat->Int}:∀{n:Nat},(∀i,i<n->f i<=g i)->sm n f<=sm n g
 |0,_=>Int.le_refl _
 |n+1,h=>Int.add_le_add (vG λi hi=>h i (by omega)) (h n (by omega))
section
variable{A:cU}{m J:Nat}{sol:Nat->Nat}{r c:Nat}
theorem row(X:Tab A m sol)(hs:∀k,k<m->sol k<J)(y:Nat->Int)(hy:0<y m)(hA:∀j,j<J->0<=sm (m+1) λs=>y s*A j s)(hc:c<J)(neg:T A m sol m c<0):∃r,r<m/\0<T A m sol r c:=by
 by_cases h:∃r,r<m/\0<T A m sol r c
 ·exact h
 ·exfalso
  have e:=nH X y c
  have e1:=Int.mul_nonneg (Int.le_of_lt X.pos) (hA c hc)
  have e2:=Int.mul_neg_of_neg_of_pos neg hy
  have⟨k,hk,hp⟩:=xG (n:=m) (f:=λk=>T A m sol k c*sm (m+1) λs=>y s*A (sol k) s) (by omega)
  have hp:0<T A m sol k c*(sm (m+1) λs=>y s*A (sol k) s):=hp
  refine h ⟨k,hk,?_⟩
  rcases Int.lt_or_le 0 (T A m sol k c)with q|q
  ·exact q
  ·have:=Int.mul_le_mul_of_nonneg_right q (hA (sol k) (hs k hk))
   rw[Int.zero_mul]at this
   omega
noncomputable def rE(A:cU)(m J:Nat)(sol:Nat->Nat)(j:Nat):Int:=sm m λk=>if sol k=j then T A m sol k J else 0
theorem kY(F:l7 A m J sol)(j:Nat):0<=rE A m J sol j:=mV λk hk=>by
 split
 ·exact F k hk
 ·exact Int.le_refl _
theorem J8(X:Tab A m sol){k:Nat}(hk:k<m):rE A m J sol (sol k)=T A m sol k J:=by
 unfold rE
 rw[fL (k:=k) hk λi hi h=>if_neg λe=>h (inj X hi hk e),if_pos rfl]
theorem vH{j:Nat}(h:∀k,k<m->sol k≠j):rE A m J sol j=0:=ie λk hk=>if_neg (h k hk)
theorem zr(hs:∀k,k<m->sol k<J)(f:Nat->Int):(sm m λk=>T A m sol k J*f (sol k))=sm J λj=>rE A m J sol j*f j:=by
 have e:∀k,k<m->T A m sol k J*f (sol k)=sm J λj=>(if sol k=j then T A m sol k J else 0)*f j:=λk hk=>by
  rw[fL (k:=sol k) (hs k hk) λj _ h=>by rw[if_neg (Ne.symm h),Int.zero_mul],if_pos rfl]
 rw[aM e,n5]
 refine aM λj _=>?_
 unfold rE
 rw[Int.mul_comm,<-fW]
 exact aM λk _=>Int.mul_comm _ _
theorem zu(X:Tab A m sol)(hs:∀k,k<m->sol k<J){s:Nat}(h:s<m):(sm J λj=>rE A m J sol j*A j s)=dt A m sol*A J s:=by
 rw[<-zr hs λj=>A j s,<-X.eqs J s (by omega)]
 show _=sm m _+T A m sol m J*dY A m sol m s
 have z:dY A m sol m s=0:=by unfold dY cE;rw[if_neg (by omega),if_neg (by omega)]
 rw[z,Int.mul_zero,Int.add_zero]
 refine aM λk hk=>?_
 unfold dY
 rw[if_pos hk]
theorem A9(X:Tab A m sol)(hs:∀k,k<m->sol k<J):(sm J λj=>rE A m J sol j*A j m)+T A m sol m J=dt A m sol*A J m:=by
 rw[<-zr hs λj=>A j m,<-X.eqs J m (by omega)]
 show _=sm m _+T A m sol m J*dY A m sol m m
 have z:dY A m sol m m=1:=by unfold dY cE;rw[if_neg (by omega),if_pos rfl]
 rw[z,Int.mul_one]
 congr 1
 refine aM λk hk=>?_
 unfold dY
 rw[if_pos hk]
theorem Ba(h:T A m sol m c≠0):rE A m J sol c=0:=vH λk hk=>n6 hk h
theorem Dz{N:Nat}(hN:∀k s,k<m->s<=m->A (N+k) s=if k=s then 1 else 0)(j:Nat):T A m sol m j=(sm m λs=>A j s*T A m sol m (N+s))+A j m*dt A m sol:=by
 have e:=Gz (M:=m+1) (k:=m) (dY A m sol) (by omega) (d:=1) (x:=A j) (n:=m+1) (λs=>A j s) (λk=>if k<m then A (N+k)else cE m) (λs hs=>by
  rw[fL (k:=s) hs]
  ·by_cases h:s<m
   ·show A j s*(if s<m then A (N+s)else cE m) s=_
    rw[if_pos h,hN s s h (by omega),if_pos rfl,Int.mul_one,Int.one_mul]
   ·show A j s*(if s<m then A (N+s)else cE m) s=_
    rw[if_neg h]
    unfold cE
    rw[if_pos (by omega),Int.mul_one,Int.one_mul]
  ·intro k hk h
   show A j k*(if k<m then A (N+k)else cE m) s=_
   by_cases q:k<m
   ·rw[if_pos q,hN k s q (by omega),if_neg h,Int.mul_zero]
   ·rw[if_neg q]
    unfold cE
    rw[if_neg (by omega),Int.mul_zero])
 rw[Int.one_mul]at e
 show D (m+1) (up (dY A m sol) m (A j))=_
 rw[e]
 show sm m _+_=_
 congr 1
 ·refine aM λs hs=>?_
  show A j s*D (m+1) (up (dY A m sol) m (if s<m then A (N+s)else cE m))=_
  rw[if_pos hs]
  rfl
 ·show A j m*D (m+1) (up (dY A m sol) m (if m<m then A (N+m)else cE m))=_
  rw[if_neg (by omega)]
  have:cE m=dY A m sol m:=by unfold dY;rw[if_neg (by omega)]
  rw[this,ij]
  rfl
theorem HG(h:∀j s,s<=m->(A j s).natAbs<=1)(i j:Nat):(T A m sol i j).natAbs<=fact (m+1)/\(dt A m sol).natAbs<=fact (m+1):=by
 have hb:∀k s,k<m+1->s<m+1->(dY A m sol k s).natAbs<=1:=λk s hk hs=>by
  unfold dY cE
  split
  ·exact h _ s (by omega)
  ·show(if s=m then(1:Int)else 0).natAbs<=1
   split<;>decide
 refine⟨Dy λk s hk hs=>?_,Dy hb⟩
 unfold up
 split
 ·exact h j s (by omega)
 ·exact hb k s hk hs
end
section
variable(h a b:Nat)(one oth:Nat->Nat->Int)
noncomputable def tr:cU:=λj s=>
 if j<a then(if s<h then one j s else if s=h then-1 else if s=h+1 then 1 else 0)
 else if j<a+b then(if s<h then-oth (j-a) s else if s=h then 1 else if s=h+1 then 0 else if s=h+2 then-1 else 0)
 else if j<a+b+(h+2)then(if j-(a+b)=s then 1 else 0)
 else(if s=h+1 then 1 else 0)
end
section
variable{h a b:Nat}{one oth:Nat->Nat->Int}{sol:Nat->Nat}
theorem gQ{j s:Nat}(hj:j<a):tr h a b one oth j s=if s<h then one j s else if s=h then-1 else if s=h+1 then 1 else 0:=if_pos hj
theorem gR{j s:Nat}(hj:j<b):tr h a b one oth (a+j) s=if s<h then-oth j s else if s=h then 1 else if s=h+1 then 0 else if s=h+2 then-1 else 0:=by
 unfold tr
 rw[if_neg (by omega),if_pos (by omega),show a+j-a=j by omega]
theorem fg{k s:Nat}(hk:k<h+2):tr h a b one oth (a+b+k) s=if k=s then 1 else 0:=by
 unfold tr
 rw[if_neg (by omega),if_neg (by omega),if_pos (by omega),show a+b+k-(a+b)=k by omega]
theorem ik{s:Nat}:tr h a b one oth (a+b+(h+2)) s=if s=h+1 then 1 else 0:=by
 unfold tr
 rw[if_neg (by omega),if_neg (by omega),if_neg (by omega)]
theorem ub(f:Nat->Int)(n:Nat):∀k,sm (n+k) f=sm n f+sm k λi=>f (n+i)
 |0=>(Int.add_zero _).symm
 |k+1=>by
  show sm (n+k) f+f (n+k)=sm n f+((sm k λi=>f (n+i))+f (n+k))
  rw[ub f n k]
  omega
noncomputable def nA(h a b:Nat)(one oth:Nat->Nat->Int)(sol:Nat->Nat)(s:Nat):Int:=T (tr h a b one oth) (h+2) sol (h+2) (a+b+s)
noncomputable def jP(h a b:Nat)(one oth:Nat->Nat->Int)(sol:Nat->Nat)(j:Nat):Int:=rE (tr h a b one oth) (h+2) (a+b+(h+2)) sol j
theorem Bb{j:Nat}(hj:j<a):T (tr h a b one oth) (h+2) sol (h+2) j=(sm h λs=>one j s*nA h a b one oth sol s)-nA h a b one oth sol h+nA h a b one oth sol (h+1):=by
 rw[Dz (N:=a+b) (λk s hk hs=>fg hk)]
 show(sm h _+tr h a b one oth j h*nA h a b one oth sol h)+tr h a b one oth j (h+1)*nA h a b one oth sol (h+1)+tr h a b one oth j (h+2)*_=_
 have e:(sm h λs=>tr h a b one oth j s*T (tr h a b one oth) (h+2) sol (h+2) (a+b+s))=sm h λs=>one j s*nA h a b one oth sol s:=aM λs hs=>by
  rw[gQ hj,if_pos hs]
  rfl
 rw[e,gQ hj,gQ hj,gQ hj,if_neg (by omega),if_pos rfl,if_neg (by omega),if_neg (by omega),if_pos rfl,if_neg (by omega),if_neg (by omega),if_neg (by omega)]
 generalize nA h a b one oth sol h=p
 generalize nA h a b one oth sol (h+1)=q
 omega
theorem rF{j:Nat}(hj:j<b):T (tr h a b one oth) (h+2) sol (h+2) (a+j)=-(sm h λs=>oth j s*nA h a b one oth sol s)+nA h a b one oth sol h-dt (tr h a b one oth) (h+2) sol:=by
 rw[Dz (N:=a+b) (λk s hk hs=>fg hk)]
 show(sm h _+tr h a b one oth (a+j) h*nA h a b one oth sol h)+tr h a b one oth (a+j) (h+1)*nA h a b one oth sol (h+1)+tr h a b one oth (a+j) (h+2)*_=_
 have e:(sm h λs=>tr h a b one oth (a+j) s*T (tr h a b one oth) (h+2) sol (h+2) (a+b+s))=-sm h λs=>oth j s*nA h a b one oth sol s:=by
  rw[<-pq]
  refine aM λs hs=>?_
  rw[gR hj,if_pos hs,Int.neg_mul]
  rfl
 rw[e,gR hj,gR hj,gR hj,if_neg (by omega),if_pos rfl,if_neg (by omega),if_neg (by omega),if_pos rfl,if_neg (by omega),if_neg (by omega),if_neg (by omega),if_pos rfl]
 generalize nA h a b one oth sol h=p
 generalize nA h a b one oth sol (h+1)=q
 generalize dt (tr h a b one oth) (h+2) sol=d
 omega
theorem pC:T (tr h a b one oth) (h+2) sol (h+2) (a+b+(h+2))=nA h a b one oth sol (h+1):=by
 rw[Dz (N:=a+b) (λk s hk hs=>fg hk),fL (k:=h+1) (by omega),ik,ik,if_pos rfl,if_neg (by omega),Int.one_mul,Int.zero_mul,Int.add_zero]
 ·rfl
 ·intro s _ hs
  rw[ik,if_neg hs,Int.zero_mul]
theorem uc(f:Nat->Int)(h a b s:Nat)(hs:s<=h+2):(sm (a+b+(h+2)) λj=>f j*tr h a b one oth j s)=(sm a λj=>f j*tr h a b one oth j s)+(sm b λj=>f (a+j)*tr h a b one oth (a+j) s)+(if s<h+2 then f (a+b+s)else 0):=by
 rw[ub,ub]
 congr 1
 by_cases c:s<h+2
 ·rw[if_pos c,fL (k:=s) c λk hk e=>by rw[fg hk,if_neg e,Int.mul_zero],fg c,if_pos rfl,Int.mul_one]
 ·rw[if_neg c]
  exact ie λk hk=>by rw[fg hk,if_neg (by omega),Int.mul_zero]
theorem Bc(X:Tab (tr h a b one oth) (h+2) sol)(hs:∀k,k<h+2->sol k<a+b+(h+2)){s:Nat}(hh:s<h):(sm a λj=>jP h a b one oth sol j*one j s)-(sm b λj=>jP h a b one oth sol (a+j)*oth j s)+jP h a b one oth sol (a+b+s)=0:=by
 have e:=zu X hs (s:=s) (by omega)
 rw[uc _ h a b s (by omega),ik,if_pos (show s<h+2 by omega),if_neg (show¬s=h+1 by omega),Int.mul_zero]at e
 rw[<-e,Int.sub_eq_add_neg,<-pq]
 congr 1
 congr 1
 ·exact aM λj hj=>by rw[gQ hj,if_pos hh];rfl
 ·exact aM λj hj=>by rw[gR hj,if_pos hh,Int.mul_neg];rfl
theorem xK(X:Tab (tr h a b one oth) (h+2) sol)(hs:∀k,k<h+2->sol k<a+b+(h+2)):-(sm a λj=>jP h a b one oth sol j)+(sm b λj=>jP h a b one oth sol (a+j))+jP h a b one oth sol (a+b+h)=0:=by
 have e:=zu X hs (s:=h) (by omega)
 rw[uc _ h a b h (by omega),ik,if_pos (show h<h+2 by omega),if_neg (show¬h=h+1 by omega),Int.mul_zero]at e
 rw[<-e,<-pq]
 congr 1
 congr 1
 ·exact aM λj hj=>by
   rw[gQ hj,if_neg (by omega),if_pos rfl,Int.mul_neg,Int.mul_one];rfl
 ·exact aM λj hj=>by rw[gR hj,if_neg (by omega),if_pos rfl,Int.mul_one];rfl
theorem xM(X:Tab (tr h a b one oth) (h+2) sol)(hs:∀k,k<h+2->sol k<a+b+(h+2)):(sm b λj=>jP h a b one oth sol (a+j))=T (tr h a b one oth) (h+2) sol (h+2) (a+b+(h+2)):=by
 have e:=A9 X hs
 rw[uc _ h a b (h+2) (by omega),ik,if_neg (by omega),if_neg (by omega),Int.mul_zero,Int.add_zero]at e
 have z1:(sm a λj=>rE (tr h a b one oth) (h+2) (a+b+(h+2)) sol j*tr h a b one oth j (h+2))=0:=ie λj hj=>by rw[gQ hj,if_neg (by omega),if_neg (by omega),if_neg (by omega),Int.mul_zero]
 have z2:(sm b λj=>rE (tr h a b one oth) (h+2) (a+b+(h+2)) sol (a+j)*tr h a b one oth (a+j) (h+2))=-sm b λj=>jP h a b one oth sol (a+j):=by
  rw[<-pq]
  exact aM λj hj=>by rw[gR hj,if_neg (by omega),if_neg (by omega),if_neg (by omega),if_pos rfl,Int.mul_neg,Int.mul_one];rfl
 rw[z1,z2]at e
 omega
section
variable(X:Tab (tr h a b one oth) (h+2) sol)(hs:∀k,k<h+2->sol k<a+b+(h+2))(F:l7 (tr h a b one oth) (h+2) (a+b+(h+2)) sol)(fin:∀j,j<a+b+(h+2)->0<=T (tr h a b one oth) (h+2) sol (h+2) j)
include X hs F fin
theorem pD{s:Nat}(h1:s<h+2):0<=nA h a b one oth sol s:=fin _ (by omega)
theorem GB(z:¬0<T (tr h a b one oth) (h+2) sol (h+2) (a+b+(h+2))):(∀j,j<a->nA h a b one oth sol h<=sm h λs=>one j s*nA h a b one oth sol s)/\∀j,j<b->(sm h λs=>oth j s*nA h a b one oth sol s)<nA h a b one oth sol h:=by
 rw[pC]at z
 have z1:=pD X hs F fin (s:=h+1) (by omega)
 constructor
 ·intro j hj
  have:=fin j (by omega)
  rw[Bb hj]at this
  omega
 ·intro j hj
  have:=fin (a+j) (by omega)
  rw[rF hj]at this
  have:=X.pos
  omega
theorem Mz(ho:∀j s,j<b->s<h->0<=oth j s)(z:0<T (tr h a b one oth) (h+2) sol (h+2) (a+b+(h+2))):0<(sm a λj=>jP h a b one oth sol j)/\(sm a λj=>jP h a b one oth sol j)=(sm b λj=>jP h a b one oth sol (a+j))/\∀s,s<h->(sm a λj=>jP h a b one oth sol j*one j s)<=sm b λj=>jP h a b one oth sol (a+j)*oth j s:=by
 have w:=xM X hs
 have c:=xK X hs
 have z1:0<nA h a b one oth sol (h+1):=by rw[<-pC];exact z
 have hb:0<b:=by
  rcases Nat.eq_zero_or_pos b with e|e
  ·subst e
   have:(0:Int)=T (tr h a 0 one oth) (h+2) sol (h+2) (a+0+(h+2)):=w
   omega
  ·exact e
 have c0:jP h a b one oth sol (a+b+h)=0:=by
  refine Ba ?_
  intro e
  have:=fin (a+0) (by omega)
  rw[rF hb]at this
  have e:nA h a b one oth sol h=0:=e
  have p:=mV (n:=h) (f:=λs=>oth 0 s*nA h a b one oth sol s) λs OO=>Int.mul_nonneg (ho 0 s hb OO) (pD X hs F fin (by omega))
  have:=X.pos
  omega
 have eq:(sm a λj=>jP h a b one oth sol j)=(sm b λj=>jP h a b one oth sol (a+j)):=by omega
 refine⟨by omega,eq,λs hh=>?_⟩
 have e:=Bc X hs hh
 have p:0<=jP h a b one oth sol (a+b+s):=kY F _
 omega
end
theorem pE:Tab (tr h a b one oth) (h+2) (λk=>a+b+k)/\dt (tr h a b one oth) (h+2) (λk=>a+b+k)=1/\∀i j,i<=h+2->T (tr h a b one oth) (h+2) (λk=>a+b+k) i j=tr h a b one oth j i:=A7 λk s hk hs=>fg hk
theorem GC:l7 (tr h a b one oth) (h+2) (a+b+(h+2)) (λk=>a+b+k):=λi hi=>by
 rw[pE.2.2 i _ (by omega),ik]
 split<;>decide
theorem J9(X:Tab (tr h a b one oth) (h+2) sol)(hs:∀k,k<h+2->sol k<a+b+(h+2)){c:Nat}(hc:c<a+b+(h+2))(neg:T (tr h a b one oth) (h+2) sol (h+2) c<0):∃r,r<h+2/\0<T (tr h a b one oth) (h+2) sol r c:=by
 refine row X hs (λs=>if s<h then 0 else 1) (by rw[if_neg (by omega)];decide) (λj hj=>?_) hc neg
 have e:(sm (h+2+1) λs=>(if s<h then 0 else 1)*tr h a b one oth j s)=tr h a b one oth j h+tr h a b one oth j (h+1)+tr h a b one oth j (h+2):=by
  show((sm h _+(if h<h then 0 else 1)*tr h a b one oth j h)+(if h+1<h then 0 else 1)*tr h a b one oth j (h+1))+(if h+2<h then 0 else 1)*tr h a b one oth j (h+2)=_
  rw[if_neg (by omega),if_neg (by omega),if_neg (by omega),ie λs hs=>by rw[if_pos hs,Int.zero_mul]]
  omega
 rw[e]
 by_cases h1:j<a
 ·rw[gQ h1,gQ h1,gQ h1,if_neg (by omega),if_pos rfl,if_neg (by omega),if_neg (by omega),if_pos rfl,if_neg (by omega),if_neg (by omega),if_neg (by omega)]
  decide
 ·by_cases h2:j<a+b
  ·have e:j=a+(j-a):=by omega
   rw[e,gR (by omega),gR (by omega),gR (by omega),if_neg (by omega),if_pos rfl,if_neg (by omega),if_neg (by omega),if_pos rfl,if_neg (by omega),if_neg (by omega),if_neg (by omega),if_pos rfl]
   decide
  ·have e:j=a+b+(j-(a+b)):=by omega
   rw[e,fg (by omega),fg (by omega),fg (by omega)]
   have g:∀p q:Nat,(0:Int)<=if p=q then 1 else 0:=λp q=>by split<;>decide
   have g1:=g (j-(a+b)) h
   have g2:=g (j-(a+b)) (h+1)
   have g3:=g (j-(a+b)) (h+2)
   omega
theorem Ka(h1:∀j s,j<a->s<h->0<=one j s/\one j s<=1)(h2:∀j s,j<b->s<h->0<=oth j s/\oth j s<=1)(j s:Nat):(tr h a b one oth j s).natAbs<=1:=by
 unfold tr
 by_cases c1:j<a
 ·rw[if_pos c1]
  by_cases c2:s<h
  ·rw[if_pos c2]
   have:=h1 j s c1 c2
   omega
  ·rw[if_neg c2]
   repeat' split
   all_goals decide
 ·rw[if_neg c1]
  by_cases c3:j<a+b
  ·rw[if_pos c3]
   by_cases c2:s<h
   ·rw[if_pos c2]
    have:=h2 (j-a) s (by omega) c2
    omega
   ·rw[if_neg c2]
    repeat' split
    all_goals decide
  ·rw[if_neg c3]
   repeat' split
   all_goals decide
end
theorem RX{a b h:Nat}{t t':Nat->Int}{one oth:Nat->Nat->Int}{w:Nat->Int}{mk:Int}(nt:∀j,0<=t j)(RY:∀j,0<=t' j)(hw:∀s,s<h->0<=w s)(t1:0<sm a t)(t2:sm a t=sm b t')
  (t3:∀s,s<h->(sm a λj=>t j*one j s)<=sm b λj=>t' j*oth j s)(h1:∀j,j<a->mk<=sm h λs=>w s*one j s)(h2:∀j,j<b->(sm h λs=>w s*oth j s)<=mk-1):False:=by
 have sw:∀(n:Nat) (u:Nat->Int) (x:Nat->Nat->Int),(sm n λj=>u j*sm h λs=>w s*x j s)=sm h λs=>w s*sm n λj=>u j*x j s:=λn u x=>by
  have e:(sm n λj=>u j*sm h λs=>w s*x j s)=sm n λj=>sm h λs=>w s*(u j*x j s):=aM λj _=>by
   rw[<-fW]
   exact aM λs _=>Int.mul_left_comm ..
  rw[e,n5]
  exact aM λs _=>fW ..
 have e1:mk*sm a t<=sm a λj=>t j*sm h λs=>w s*one j s:=by
  rw[<-fW]
  exact vG λj hj=>by
   rw[Int.mul_comm mk]
   exact Int.mul_le_mul_of_nonneg_left (h1 j hj) (nt j)
 have e2:(sm b λj=>t' j*sm h λs=>w s*oth j s)<=(mk-1)*sm b t':=by
  rw[<-fW]
  exact vG λj hj=>by
   rw[Int.mul_comm (mk-1)]
   exact Int.mul_le_mul_of_nonneg_left (h2 j hj) (RY j)
 rw[sw]at e1 e2
 have e3:(sm h λs=>w s*sm a λj=>t j*one j s)<=sm h λs=>w s*sm b λj=>t' j*oth j s:=vG λs hs=>Int.mul_le_mul_of_nonneg_left (t3 s hs) (hw s hs)
 rw[<-t2,Int.sub_mul,Int.one_mul]at e2
 omega
end Sx
namespace L2.D.My
open PySem
noncomputable def iA:aL:=(aX (jC (tV (ah mG (dV 1) (aR bH (dV 0)))) (bu (ah cS (dV 0) (dV 1))) cF) (bu (dC (.int 0))))
noncomputable def bN:List PV->Option PV:=fn false 2 2 (iA)
noncomputable def jL:aL:=(bu (aV (cL (dC (.int 6))) (tV (ah lA (ah iw (ah w9 (dV 1) (dV 0)) (dC (.int 1))) (dC (.int 1)))) (aQ 0)))
noncomputable def ao:List PV->Option PV:=fn true 1 1 (jL)
noncomputable def gM(ao:List PV->Option PV):aL:=(jC (tV (ah eJ (dV 4) (dV 5))) (bu (ah mG (dV 4) (dV 5))) cF)
noncomputable def i7(ao:List PV->Option PV):aL:=(aX (cK 2 (aK ao (ag (aQ 0) ax))) (aX (cK 3 (aK ao (ag (aQ 1) ax))) (aX (jC (tV (ah eJ (aR bH (dV 2)) (aR bH (dV 3)))) (bu (ah mG (aR bH (dV 2)) (aR bH (dV 3)))) cF) (aX (ix (oQ (aQ 2) (aQ 3)) (jD (aZ 4) (aZ 5)) (gM ao)) (bu (dC (.bl false)))))))
noncomputable def bt:List PV->Option PV:=fn false 6 2 (i7 ao)
noncomputable def fN(bt:List PV->Option PV):aL:=(cK 4 (ah cg (dV 4) (dC (.int 1))))
noncomputable def dH(bt:List PV->Option PV):aL:=(aX (cK 3 (aV (nList (dV 0)) (jr (tV (ah lA (ah iw (dV 0) (dV 3)) (dV 0))) (tV (ah eJ (dV 0) (dV 3)))) (aQ 0))) (jC (jr (tV (ah lA (aR bH (dV 3)) (dC (.int 0)))) (tV (ah jA (dV 2) (dV 1)))) (aX (cK 4 (dC (.int 0))) (aX (eV (jr (tV (ah mG (dV 4) (aR bH (dV 1)))) (tV (aK bt (ag (ah cS (dV 1) (dV 4)) (ag (aQ 2) ax))))) (fN bt) 1000) (lI 1 kh (ag (aQ 4) (ag (aQ 2) ax))))) cF))
noncomputable def hZ(bt:List PV->Option PV):aL:=(aX (lH 1 (g9 ax)) (aX (ix (nList (aQ 0)) (aZ 2) (dH bt)) (u5 1)))
noncomputable def cR:List PV->Option PV:=fn true 5 1 (hZ bt)
noncomputable def jk(cR:List PV->Option PV)(ao:List PV->Option PV):aL:=(jC (tV (ah Jq (aR oS (aV (nList (aK ao (ag (aQ 3) ax))) a9 (ah cS (dV 1) (dV 0)))) (dV 1))) (lI 2 eF (ag (aQ 3) ax)) cF)
noncomputable def iC(cR:List PV->Option PV)(ao:List PV->Option PV):aL:=(aX (lH 2 (g9 ax)) (aX (ix (cL (ah qk (dC (.int 1)) (aR bH (dV 0)))) (aZ 3) (jk cR ao)) (aX (u0 2) (bu (aK cR (ag (aQ 2) ax))))))
noncomputable def cV:List PV->Option PV:=fn true 4 2 (iC cR ao)
noncomputable def kR:aL:=(bu (ah lA (ah iw (ah w9 (dV 0) (dV 1)) (dC (.int 1))) (dC (.int 1))))
noncomputable def cT:List PV->Option PV:=fn false 2 2 (kR)
noncomputable def kT(cT:List PV->Option PV):aL:=(bu (aV (cL (aR Co (dV 0))) (tV (aK cT (ag (aQ 1) (ag (aQ 0) ax)))) (aQ 0)))
noncomputable def fJ:List PV->Option PV:=fn true 1 1 (kT cT)
noncomputable def lV(fJ:List PV->Option PV):aL:=(aX (cK 1 (aK fJ (ag (aQ 0) ax))) (bu (Al (ag (aR bH (dV 1)) (ag (aQ 1) ax)))))
noncomputable def F_place:List PV->Option PV:=fn false 2 1 (lV fJ)
noncomputable def lW:aL:=(bu (ah lA (ah iw (dV 0) (dV 1)) (dV 0)))
noncomputable def iR:List PV->Option PV:=fn false 2 2 (lW)
noncomputable def tR(iR:List PV->Option PV):aL:=(bu (aR Fn (aV (nList (dV 0)) a9 (aK iR (ag (aQ 0) (ag (aQ 2) ax))))))
noncomputable def dw:List PV->Option PV:=fn false 2 2 (tR iR)
noncomputable def eO(F_place:List PV->Option PV)(dw:List PV->Option PV):aL:=(jC (js (tV (sP dw (ag (dV 1) (ag (dV 2) ax))))) (lI 1 eF (ag (aQ 2) ax)) cF)
noncomputable def nY(F_place:List PV->Option PV)(dw:List PV->Option PV):aL:=(aX (lH 1 (g9 ax)) (aX (ix (nList (ng (nList (dV 0)))) (aZ 2) (eO F_place dw)) (u5 1)))
noncomputable def gz:List PV->Option PV:=fn true 3 1 (nY F_place dw)
noncomputable def ic(F_place:List PV->Option PV):aL:=(bu (ng (cL (ah qk (dC (.int 1)) (dV 0)))))
noncomputable def cB:List PV->Option PV:=fn true 1 1 (ic F_place)
noncomputable def gw:aL:=(bu (aR Fo (aV (nList (dV 1)) a9 (ah eJ (ah iw (dV 1) (dV 0)) (dC (.int 0))))))
noncomputable def bZ:List PV->Option PV:=fn false 2 2 (gw)
noncomputable def i8(gz:List PV->Option PV)(cB:List PV->Option PV)(bZ:List PV->Option PV):aL:=(bu (aK gz (ag (aV (nList (aK cB (ag (aQ 0) ax))) (tV (aK bZ (ag (aQ 0) (ag (aQ 2) ax)))) (aQ 0)) ax)))
noncomputable def eL:List PV->Option PV:=fn true 2 2 (i8 gz cB bZ)
noncomputable def eM(eL:List PV->Option PV):aL:=(aX (cK 2 (ah rX (ah qk (dC (.int 1)) (dV 0)) (dC (.int 1)))) (bu (aV (nList (aK eL (ag (aQ 0) (ag (aQ 1) ax)))) a9 (ah rX (dV 3) (dV 0)))))
noncomputable def bI:List PV->Option PV:=fn true 3 2 (eM eL)
noncomputable def bA:jm:=(Cr (Fw 6 (aV (cL (aR bH (dV 1))) a9 (aR Ao (ah lA (dV 0) (dV 5))))) (Cr (Fx (ah cg (ah cg (dV 5) (dV 6)) (g9 (ag (ah cS (dV 2) (dV 4)) ax)))) (Fy (ah cg (aR bH (dV 3)) (dV 4)))))
noncomputable def fj:bM->Option Tb:=(Jt (sX 1 4 5 bA) (ah cg (ah cg (aV (nList (dV 3)) a9 (aR i4 (dV 0))) (aV (nList (dV 1)) a9 (dC (.int 0)))) (g9 (ag (dC (.int 0)) ax))) (dC (.int 1)))
noncomputable def aN:List PV->Option Tb:=Kz 7 4 (fj)
noncomputable def vI(cT:List PV->Option PV):aL:=(bu (aV (nList (dV 0)) a9 (aR Ao (aK cT (ag (aQ 0) (ag (aQ 2) ax))))))
noncomputable def ba:List PV->Option PV:=fn true 2 2 (vI cT)
noncomputable def fm(aN:List PV->Option Tb)(ba:List PV->Option PV):aL:=(lI 3 eF (ag (ah cg (aK ba (ag (aQ 1) (ag (aQ 4) ax))) (aV (nList (aK ba (ag (aQ 2) (ag (aQ 4) ax)))) a9 (aR i4 (dV 0)))) ax))
noncomputable def kZ(aN:List PV->Option Tb)(ba:List PV->Option PV):bM->Option Tb:=(eY (lH 3 (g9 ax)) (eY (ix (cL (dV 0)) (aZ 4) (fm aN ba)) (eY (lI 3 eF (ag (ah cg (aV (nList (dV 1)) a9 (aR i4 (dC (.int 1)))) (aV (nList (dV 2)) a9 (dC (.int 1)))) ax)) (eY (lI 3 eF (ag (ah cg (aV (nList (dV 1)) a9 (dC (.int 1))) (aV (nList (dV 2)) a9 (dC (.int 0)))) ax)) (eY (cK 5 (ah cg (aV (nList (Hs (dV 3) oP (nc (aR i4 (dC (.int 1)))))) a9 (dC (.int 0))) (g9 (ag (dC (.int 1)) ax)))) (eY (cK 6 (ah cg (aV (nList (dV 1)) a9 (dC (.int 0))) (aV (nList (dV 2)) a9 (dC (.int 1))))) (eY (u0 3) (Cs aN (ag (aQ 3) (ag (aQ 5) (ag (aQ 6) ax)))))))))))
noncomputable def dy:List PV->Option Tb:=Ky 7 3 (kZ aN ba)
noncomputable def ay:aL:=(jC (tV (ah mG (ah cS (aR (bY fC "costs") (dV 0)) (dV 1)) (dC (.int 0)))) (bu (aQ 1)) cF)
noncomputable def c9:aL:=(aX (ix (cL (ah rX (aR bH (aR (bY fC "costs") (dV 0))) (dC (.int 1)))) (aZ 1) ay) (bu (dC .non)))
noncomputable def ar:List PV->Option PV:=fn false 2 1 (c9)
noncomputable def iT:aL:=(bu (jG (oQ (aQ 1) (aQ 2)) (ah Ck (ah rX (ah qj (dV 0) (ah cS (dV 4) (dV 5))) (ah qj (ah cS (dV 3) (dV 5)) (dV 1))) (aR (bY fC "parts_of_one") (dV 2)))))
noncomputable def aB:List PV->Option PV:=fn true 4 4 (iT)
noncomputable def cC(aB:List PV->Option PV):eu:=(Ou (tV (ah eJ (dV 4) (dV 1))) (Fu (dV 4) (dD (hV aB) (aQ 0) (ag (ah cS (aR (bY fC "rows") (dV 0)) (dV 4)) (ag (aQ 3) (ag (aQ 2) ax))))) Hu)
noncomputable def gS(aB:List PV->Option PV):eu:=(sU (Cq 3 (dV 1)) (sU (Fv 4 (aR bH (aR (bY fC "rows") (dV 0))) (cC aB)) (sU (sV (dD (hV aB) (aQ 0) (ag (aR (bY fC "costs") (dV 0)) (ag (aQ 3) (ag (aQ 2) ax))))) (sU (Jr (dV 1) (aQ 2)) (sW (ah cS (dV 3) (dV 2)))))))
noncomputable def bh:Tb->List PV->Option Tb:=Hv 5 3 (gS aB)
noncomputable def gi:aL:=(aX (cK 4 (ah qj (ah cS (ah cS (aR (bY fC "rows") (dV 0)) (dV 1)) (aR i4 (dC (.int 1)))) (ah cS (ah cS (aR (bY fC "rows") (dV 0)) (dV 2)) (dV 3)))) (aX (cK 5 (ah qj (ah cS (ah cS (aR (bY fC "rows") (dV 0)) (dV 2)) (aR i4 (dC (.int 1)))) (ah cS (ah cS (aR (bY fC "rows") (dV 0)) (dV 1)) (dV 3)))) (bu (Ft (ah mG (dV 4) (dV 5)) (qP (ah lA (dV 4) (dV 5)) (ah mG (ah cS (aR (bY fC "solved") (dV 0)) (dV 1)) (ah cS (aR (bY fC "solved") (dV 0)) (dV 2))))))))
noncomputable def aI:List PV->Option PV:=fn false 6 4 (gi)
noncomputable def bJ(aI:List PV->Option PV):aL:=(jC (jr (tV (ah Hr (ah cS (ah cS (aR (bY fC "rows") (dV 0)) (dV 3)) (dV 1)) (dC (.int 0)))) (qa (tV (aR uZ (dV 2))) (tV (dD (hV aI) (aQ 0) (ag (aQ 3) (ag (aQ 2) (ag (aQ 1) ax))))))) (cK 2 (aQ 3)) cF)
noncomputable def fE(aI:List PV->Option PV):aL:=(aX (cK 2 (dC .non)) (aX (ix (cL (aR bH (aR (bY fC "rows") (dV 0)))) (aZ 3) (bJ aI)) (bu (aQ 2))))
noncomputable def aC:List PV->Option PV:=fn false 4 2 (fE aI)
noncomputable def dP(ar:List PV->Option PV)(bh:Tb->List PV->Option Tb)(aC:List PV->Option PV):eu:=(sU (yL bh (ag (dD (hV aC) (aQ 0) (ag (aQ 1) ax)) (ag (aQ 1) ax))) (va 1 (dD (hV ar) (aQ 0) ax)))
noncomputable def fX(ar:List PV->Option PV)(bh:Tb->List PV->Option Tb)(aC:List PV->Option PV):eu:=(sU (va 1 (dD (hV ar) (aQ 0) ax)) (eX (tV (aR u7 (dV 1))) (dP ar bh aC) 1000000000000000000))
noncomputable def bG:Tb->List PV->Option Tb:=Hv 2 1 (fX ar bh aC)
noncomputable def gT:aL:=(aX (jC (tV (ah jA (dV 1) (aR (bY fC "solved") (dV 0)))) (bu (dC (.int 0))) cF) (bu (ah cS (ah cS (aR (bY fC "rows") (dV 0)) (ah sT (aR (bY fC "solved") (dV 0)) (dV 1))) (aR i4 (dC (.int 1))))))
noncomputable def bE:List PV->Option PV:=fn false 2 2 (gT)
noncomputable def k0(bE:List PV->Option PV):aL:=(aX (cK 3 (jG (yJ (dV 1)) (Al (ag (aQ 1) (ag (dD (hV bE) (aQ 2) (ag (ah cg (dV 4) (dV 0)) ax)) ax))))) (bu (aV (nList (dV 3)) (tV (ah Hr (ah cS (dV 0) (dC (.int 1))) (dC (.int 0)))) (aQ 0))))
noncomputable def cW:List PV->Option PV:=fn true 4 3 (k0 bE)
noncomputable def ud(bI:List PV->Option PV)(dy:List PV->Option Tb)(bG:Tb->List PV->Option Tb)(cW:List PV->Option PV):iN:=(vb (cK 2 (aK bI (ag (aQ 0) (ag (aQ 1) ax)))) (oR 3 dy bG (ag (aQ 0) (ag (aQ 1) (ag (aQ 2) ax))) (Js (tV (ah Hr (ah cS (aR (bY fC "costs") (dV 3)) (aR i4 (dC (.int 1)))) (dC (.int 0)))) (Ap false (aK cW (ag (aQ 3) (ag (aQ 1) (ag (dC (.int 0)) ax)))) (aK cW (ag (aQ 3) (ag (aQ 2) (ag (aR bH (dV 1)) ax))))) (vb (cK 4 (Hs (aR (bY fC "costs") (dV 3)) (nc (ah cg (aR bH (dV 1)) (aR bH (dV 2)))) oP)) (Ap true (Hs (dV 4) oP (nc (dV 0))) (ah cS (dV 4) (dV 0)))))))
noncomputable def fq:List PV->Option PV:=Kx 5 2 (ud bI dy bG cW)
noncomputable def cz:aL:=(jC (tV (ah lA (ah iw (dV 2) (dV 1)) (dV 2))) (bu (dC (.bl true))) cF)
noncomputable def kU:aL:=(aX (ix (nList (aQ 0)) (aZ 2) cz) (bu (dC (.bl false))))
noncomputable def bB:List PV->Option PV:=fn false 3 2 (kU)
noncomputable def vJ:aL:=(bu (qP (aR (yH 0) (dV 0)) (Ht (aR (yH 1) (dV 0)))))
noncomputable def bp:List PV->Option PV:=fn false 1 1 (vJ)
noncomputable def eD(bB:List PV->Option PV)(bp:List PV->Option PV)(ao:List PV->Option PV):aL:=(aX (cK 5 (aR Cp (aV (nList (aK ao (ag (aQ 4) ax))) a9 (ah cS (ah cS (dV 3) (dC (.int 0))) (dV 0))))) (jC (tV (ah eJ (ah Jq (dV 5) (ah cS (dV 2) (dC (.int 1)))) (aK bB (ag (aQ 1) (ag (aQ 4) ax))))) (bu (dC (.bl false))) cF))
noncomputable def fO(bB:List PV->Option PV)(bp:List PV->Option PV)(ao:List PV->Option PV):aL:=(jC (qa (js (tV (aK bp (ag (aQ 3) ax)))) (qa (tV (ah mG (dV 3) (dC (.int 0)))) (tV (ah Jq (dV 3) (ah sQ (dC (.int 10)) (dC (.int 60))))))) (bu (dC (.bl false))) cF)
noncomputable def jQ(bB:List PV->Option PV)(bp:List PV->Option PV)(ao:List PV->Option PV):aL:=(aX (jC (qa (js (tV (aR (yH 4) (dV 2)))) (qa (tV (ah eJ (aR bH (dV 2)) (dC (.int 2)))) (qa (js (tV (aR (yH 3) (ah cS (dV 2) (dC (.int 0)))))) (tV (ah eJ (aR bH (ah cS (dV 2) (dC (.int 0)))) (dV 0)))))) (bu (dC (.bl false))) cF) (aX (ix (nList (ah cg (ah cS (dV 2) (dC (.int 0))) (g9 (ag (ah cS (dV 2) (dC (.int 1))) ax)))) (aZ 3) (fO bB bp ao)) (aX (ix (cL (ah qk (dC (.int 1)) (dV 0))) (aZ 4) (eD bB bp ao)) (bu (dC (.bl true))))))
noncomputable def bK:List PV->Option PV:=fn false 6 3 (jQ bB bp ao)
noncomputable def DD(bN:List PV->Option PV)(cV:List PV->Option PV)(fq:List PV->Option PV)(bK:List PV->Option PV):aL:=(aX (cK 1 (aK bN (ag (aQ 0) (ag (dC (.int 0)) ax)))) (aX (cK 2 (ah cg (dC (.int 1)) (ah oO (dV 1) (dC (.int 6))))) (aX (cK 3 (ah cS (g9 (ag (dC (.int 10)) (ag (dC (.int 100)) (ag (ah sQ (dC (.int 10)) (dC (.int 58))) ax)))) (ah oO (ah Ck (dV 1) (dC (.int 6))) (dC (.int 3))))) (aX (cK 4 (aV (cL (dV 2)) a9 (ah oO (aK bN (ag (aQ 1) (ag (ah cg (dC (.int 2)) (dV 0)) ax))) (dV 4)))) (aX (cK 5 (ah oO (aK bN (ag (aQ 0) (ag (dC (.int 1)) ax))) (ah cg (aR oS (dV 4)) (dC (.int 2))))) (aX (cK 6 (aK cV (ag (aQ 4) (ag (aQ 5) ax)))) (aX (cK 7 (aK fq (ag (aQ 2) (ag (aR Cm (dV 6)) ax)))) (aX (jC (qa (js (tV (aR (yH 4) (dV 7)))) (qa (tV (ah eJ (aR bH (dV 7)) (dC (.int 2)))) (tV (aR (Ct true) (ah cS (dV 7) (dC (.int 0))))))) (bu (dC (.bl false))) cF) (aX (jC (js (tV (aK bK (ag (aQ 2) (ag (aQ 6) (ag (ah cS (dV 7) (dC (.int 1))) ax)))))) (bu (dC (.bl false))) cF) (aX (jC (tV (ah lA (dV 2) (dC (.int 6)))) (bu (dC (.bl true))) cF) (aX (cK 7 (aK fq (ag (ah cg (dV 2) (dC (.int 1))) (ag (aR Cm (dV 6)) ax)))) (bu (qP (aR (LW true) (ah cS (dV 7) (dC (.int 0)))) (aK bK (ag (ah cg (dV 2) (dC (.int 1))) (ag (aQ 6) (ag (ah cS (dV 7) (dC (.int 1))) ax)))))))))))))))))
noncomputable def vK:List PV->Option PV:=fn false 8 1 (DD bN cV fq bK)
noncomputable def top(i:Nat):Stmt:=PySem.Challenge.pw_signright_k52_what_weights_tell_has_weig.main.body.getD i (.Pass ⟨0,0,0,0⟩)
noncomputable def nK(i j:Nat):Stmt:=F2 (top i) j
structure Bl(mg:Str->Option Value):Prop where
 all:mg "all" =none
 any:mg "any" =none
 bool:mg "bool" =none
 enumerate:mg "enumerate" =none
 int:mg "int" =none
 isinstance:mg "isinstance" =none
 len:mg "len" =none
 list:mg "list" =none
 range:mg "range" =none
 sorted:mg "sorted" =none
 sum:mg "sum" =none
 tuple:mg "tuple" =none
 zip:mg "zip" =none
section
variable{l:PySem.W.OpenLaw}{w:World}{K:PySem.W.Frag}{h:Heap}{mg:Str->Option Value}
theorem all_mk{fa:Addr}(hK:gp F_place)(X:K.In h)(G:h.Ns mainGlobals mg)(RZ:mg "law" =some (.ref fa))
  {qw vL ue vM qx xN xO GD DF Kb GF vN uf xP k7 il vO xQ eQ iU jR gj fF jl jS xR GG xS vP vQ:Addr}
  {b9:Addr}
  {Kc DH:Option Addr}{Kd:Array (Option Value)}{Ke DJ DK DL xT DM:Value}{DN:Addr}
  (ug:PySem.W.nsIn K mainGlobals "Table" =some (some (.ref b9)))
  (pF:PySem.W.plainGet K b9 Str.empty=true)
  (pG:PySem.W.hasDictIn K b9=true)
  (pH:PySem.W.plainOver K b9=true)
  (pI:PySem.W.findIn K (.ref b9) "__setattr__" =some (some (.builtin "object.__setattr__")))
  (jT:PySem.W.makesIn K b9=true)
  (pJ:PySem.W.keepIn K (.ref b9)=true)
  (O9:PySem.W.findIn K (.ref b9) "rows" =some none)
  (Pa:PySem.W.findIn K (.ref b9) "solved" =some none)
  (Pb:PySem.W.findIn K (.ref b9) "costs" =some none)
  (Pc:PySem.W.findIn K (.ref b9) "parts_of_one" =some none)
  (iD:FG K "_law_cell_at" (top 19) qw)
  (jU:FG K "_law_hands" (top 20) vL)
  (i9:FG K "_law_before" (top 21) ue)
  (jV:FG K "_law_least" (top 23) vM)
  (iE:FG K "_law_reached" (top 28) qx)
  (k8:FG K "has_hand" (top 1) xN)
  (k9:FG K "hands_of" (top 2) xO)
  (uh:FG K "place" (top 3) GD)
  (pK:FG K "within" (top 4) DF)
  (xU:FG K "lets" (top 7) Kb)
  (ui:FG K "least" (top 8) GF)
  (jW:FG K "groups_of" (top 5) vN)
  (jc:FG K "meets_each" (top 9) uf)
  (lg:FG K "stopping" (top 10) xP)
  (eN:FG K "greatest_refused" (top 13) k7)
  (dQ:FC K b9 "__init__" "Table.__init__" (nK 12 0) il)
  (jX:FG K "standings" (top 14) vO)
  (lh:FG K "table_of" (top 15) xQ)
  (cq:FC K b9 "gainful_column" "Table.gainful_column" (nK 12 1) eQ)
  (ef:FC K b9 "cleared" "Table.cleared" (nK 12 4) iU)
  (fv:FC K b9 "solve" "Table.solve" (nK 12 5) jR)
  (c5:FC K b9 "is_tighter" "Table.is_tighter" (nK 12 2) gj)
  (cI:FC K b9 "tightest_row" "Table.tightest_row" (nK 12 3) fF)
  (eH:FC K b9 "settle" "Table.settle" (nK 12 6) jl)
  (fw:FC K b9 "taken" "Table.taken" (nK 12 7) jS)
  (lj:FG K "times_of" (top 16) xR)
  (uj:FG K "weigh" (top 17) GG)
  (lq:FG K "_law_lets" (top 22) xS)
  (jY:FG K "_law_whole" (top 24) vP)
  (jZ:FG K "_law_paper" (top 25) vQ)
  (zv:PySem.W.nsIn K mainGlobals "law" =some (some (.ref DN)))
  (DQ:K.lookup DN=some ⟨Ke,Kc,.func (PySem.W.fnOf "law" "law" (gn (top 29)) (cj (top 29)) (aj (top 29)) .none DJ DK DL DH xT DM),Kd⟩)
  (uk:PySem.W.codeIn K xT "law" =true)
  (DR:PySem.W.keepIn K (.ref DN)=true)
  (DU:PySem.W.nsIn K mainGlobals "all" =some none)
  (DV:PySem.W.nsIn K mainGlobals "any" =some none)
  (xV:PySem.W.nsIn K mainGlobals "bool" =some none)
  (j0:PySem.W.nsIn K mainGlobals "enumerate" =some none)
  (DX:PySem.W.nsIn K mainGlobals "int" =some none)
  (jd:PySem.W.nsIn K mainGlobals "isinstance" =some none)
  (DY:PySem.W.nsIn K mainGlobals "len" =some none)
  (xW:PySem.W.nsIn K mainGlobals "list" =some none)
  (um:PySem.W.nsIn K mainGlobals "range" =some none)
  (pL:PySem.W.nsIn K mainGlobals "sorted" =some none)
  (DZ:PySem.W.nsIn K mainGlobals "sum" =some none)
  (uo:PySem.W.nsIn K mainGlobals "tuple" =some none)
  (D0:PySem.W.nsIn K mainGlobals "zip" =some none)
  :∃(κ:Kl) (fd:FuncData),(∀(s:Shared) (v:Value),BindsTo s fd ⟨[v],[]⟩ [("_law_script",v)])/\∀base:Heap,K.In base->base.Ns mainGlobals mg->cw l.prog w K mg base g7 10 fa fd ["_law_script"] (tE K κ false vK):=by
 have e:=RZ.symm.trans (PySem.W.mg_of X G zv)
 cases e
 obtain⟨D1,bF⟩:=iD.ed ["_law_script","_law_k"] X G
 obtain⟨GH,bC⟩:=jU.ed ["_law_group"] X G
 obtain⟨EL,fz⟩:=i9.ed ["_law_one","_law_two"] X G
 obtain⟨GI,fT⟩:=jV.ed ["_law_groups"] X G
 obtain⟨D2,eE⟩:=iE.ed ["_law_weights","_law_mark"] X G
 obtain⟨HH,dU⟩:=k8.ed ["group","hand"] X G
 obtain⟨HI,gU⟩:=k9.ed ["group"] X G
 obtain⟨MA,kq⟩:=uh.ed ["group"] X G
 obtain⟨KD,j4⟩:=pK.ed ["one","two"] X G
 obtain⟨Np,pM⟩:=xU.ed ["ladder","group"] X G
 obtain⟨MB,l8⟩:=ui.ed ["groups"] X G
 obtain⟨GJ,fU⟩:=jW.ed ["count"] X G
 obtain⟨EM,fA⟩:=jc.ed ["group","ladder"] X G
 obtain⟨HJ,gW⟩:=lg.ed ["count","ladder"] X G
 obtain⟨wt,cH⟩:=eN.ed ["count","ladder"] X G
 obtain⟨xX,fB⟩:=dQ.e.em ["self","bounds","rooms","worths"]
 obtain⟨GK,df⟩:=jX.ed ["groups","hand"] X G
 obtain⟨HK,gX⟩:=lh.ed ["count","ones","others"] X G
 obtain⟨qy,cu⟩:=cq.e.em ["self"]
 obtain⟨zw,eg⟩:=ef.e.em ["self","numbers","pivot","column"]
 obtain⟨Bw,gY⟩:=fv.e.em ["self","row","column"]
 obtain⟨vR,eB⟩:=c5.e.em ["self","row","other","column"]
 obtain⟨uq,dM⟩:=cI.e.em ["self","column"]
 obtain⟨Bd,fY⟩:=eH.e.em ["self"]
 obtain⟨Bx,gZ⟩:=fw.e.em ["self","column"]
 obtain⟨HL,dW⟩:=lj.ed ["table","groups","start"] X G
 obtain⟨MC,ip⟩:=uj.ed ["count","ladder"] X G
 obtain⟨HN,g0⟩:=lq.ed ["_law_ladder","_law_group"] X G
 obtain⟨GL,fV⟩:=jY.ed ["_law_found"] X G
 obtain⟨GN,dg⟩:=jZ.ed ["_law_count","_law_ladder","_law_paper_here"] X G
 have D3:=BU (st:=(top 29)) DQ uk DR
 have HP:Ed K mg "law" (top 29) ["_law_script"] _ _:=⟨D3,D3.binds (ps:=["_law_script"]) λ_ _ _ _ _ _ us hl=>by obtain⟨a0,rfl⟩:=JN hl;rfl,PySem.W.mg_of X G zv⟩
 have B:Bl mg:=⟨PySem.W.mg_none_of X G DU,PySem.W.mg_none_of X G DV,PySem.W.mg_none_of X G xV,PySem.W.mg_none_of X G j0,PySem.W.mg_none_of X G DX,PySem.W.mg_none_of X G jd,PySem.W.mg_none_of X G DY,PySem.W.mg_none_of X G xW,PySem.W.mg_none_of X G um,PySem.W.mg_none_of X G pL,PySem.W.mg_none_of X G DZ,PySem.W.mg_none_of X G uo,PySem.W.mg_none_of X G D0⟩
 obtain⟨κ,rfl,hf⟩:∃κ:Kl,κ.adr 0=b9/\κ.fld=fC:=⟨⟨λ_=>b9,fC⟩,rfl,rfl⟩
 have C:JU K κ:=⟨hf,⟨pF,pG,pH,pI⟩,O9,Pa,Pb,Pc⟩
 have vS:=dQ.m
 have jT:Mk K (κ.adr 0) il:=⟨jT,vS.at_,vS.fn,pJ⟩
 have GO:mg "Table" =some (.ref (κ.adr 0)):=PySem.W.mg_of X G ug
 have iq:Meth K (κ.adr 0) "gainful_column" eQ:=cq.m
 have pN:Meth K (κ.adr 0) "cleared" iU:=ef.m
 have D4:Meth K (κ.adr 0) "solve" jR:=fv.m
 have qz:Meth K (κ.adr 0) "is_tighter" gj:=c5.m
 have nM:Meth K (κ.adr 0) "tightest_row" fF:=cI.m
 have Be:Meth K (κ.adr 0) "settle" jl:=eH.m
 have D5:Meth K (κ.adr 0) "taken" jS:=fw.m
 refine⟨κ,PySem.W.fnOf "law" "law" (gn (top 29)) (cj (top 29)) (aj (top 29)) .none DJ DK DL DH xT DM,λs v=>.of_eq rfl,λbase _ _=>?_⟩
 have q:Qd l.prog w mg base κ:=⟨⟩
 have iF:=FD q bF.F bF.b bN ["_law_script","_law_k"] 0 rfl λ_ _ _ _ _ _ hr nd=>(aH (gg (bU (nj (ae 1) (DE.b (c7 (ae 0) B.len)))) (aA (bV (bS (ae 0) (ae 1)))) cY) (aA (bV aw)))
 have ir:=FD q bC.F bC.b ao ["_law_group"] 0 rfl λ_ _ _ _ _ _ hr nd=>(aA (gq (kj (lM (DE.b aw) B.range) (aj (top 20)) ["_law_group"] ["_law_group"] (λex C' s H=>(bU (lS hr (DE.b (mI (DE.b (CC (ae 1) (ae 0))) (DE.b aw))) (DE.b aw)))) (λex C' s H=>(aq 0)))))
 have ur:=FD q fz.F fz.b bt ["_law_one","_law_two","_law_here","_law_there","_law_left","_law_right"] 1 rfl λ_ _ _ _ _ _ hr nd=>(aH (cM 2 nd (DO.e (du (ir.mono (by decide)) hr bC.m bC.F.kp bC.b (ai (aq 0) aJ)))) (aH (cM 3 nd (DO.e (du (ir.mono (by decide)) hr bC.m bC.F.kp bC.b (ai (aq 1) aJ)))) (aH (gg (bU (lT hr (DE.b (c7 (ae 2) B.len)) (DE.b (c7 (ae 3) B.len)))) (aA (bV (gK (nj (DE.b (c7 (ae 2) B.len)) (DE.b (c7 (ae 3) B.len)))))) cY) (aH (iz (JH (aq 2) (aq 3) B.zip) (FN (eZ 4 nd) (eZ 5 nd)) (aA (gg (bU (lT hr (ae 4) (ae 5))) (aA (bV (gK (nj (ae 4) (ae 5))))) cY))) (aA (bV kG))))))
 have vT:=FD q fT.F fT.b cR ["_law_groups","_law_found","_law_group","_law_inner","_law_at"] 2 rfl λ_ _ _ _ _ _ hr nd=>(aH (nV 1 nd (i5 aJ)) (aH (iz (nW (aq 0)) (eZ 2 nd) (aH (Au 3 nd (bQ (ae 0)) (aj (top 23)) ["_law_groups","_law_found","_law_group","_law_inner","_law_at"] ["_law_groups","_law_found","_law_group","_law_inner","_law_at"] (λex C' s H=>(DW.t (tm (bU (lS hr (DE.b (mI (ae 0) (ae 3))) (ae 0))) (nU (bU (lT hr (ae 0) (ae 3))))))) (λex C' s H=>(aq 0))) (aA (gg (DW.t (tm (bU (lS hr (DE.b (c7 (ae 3) B.len)) (DE.b aw))) (nU (bU (vf (ae 2) (ae 1)))))) (aH (cM 4 nd aw) (aH (CJ 1000 (DW.t (tm (bU (nj (ae 4) (DE.b (c7 (ae 1) B.len)))) (nU (iy (dO (ur.mono (by decide)) hr fz.m fz.F.kp fz.b (ai (bS (ae 1) (ae 4)) (ai (aq 2) aJ))))))) (aA (cM 4 nd (dr (ae 4) (DE.b aw))))) (aA (AH 1 (ai (aq 4) (ai (aq 2) aJ)))))) cY)))) (aA (yP 1))))
 have qA:=FD q eE.F eE.b cV ["_law_weights","_law_mark","_law_groups","_law_group"] 3 rfl λ_ _ _ _ _ _ hr nd=>(aH (nV 2 nd (i5 aJ)) (aH (iz (lL (DE.b (s9 (DE.b aw) (DE.b (c7 (ae 0) B.len)))) B.range) (eZ 3 nd) (aA (gg (bU (CF (DE.b (zc (DO.b (cZ (bQ (DO.b (du (ir.mono (by decide)) hr bC.m bC.F.kp bC.b (ai (aq 3) aJ)))) (aj (top 28)) ["_law_weights","_law_mark","_law_groups","_law_group"] ["_law_weights","_law_mark","_law_groups","_law_group"] (λex C' s H=>(bS (ae 1) (ae 0))))) B.sum)) (ae 1))) (aA (iO 2 (ai (aq 3) aJ))) cY))) (FL 2 (aA (gq (du (vT.mono (by decide)) hr fT.m fT.F.kp fT.b (ai (aq 2) aJ)))))))
 have pO:=FD q dU.F dU.b cT ["group","hand"] 0 rfl λ_ _ _ _ _ _ hr nd=>(aA (bV (gK (lS hr (DE.b (mI (DE.b (CC (ae 0) (ae 1))) (DE.b aw))) (DE.b aw)))))
 have xY:=FD q gU.F gU.b fJ ["group"] 1 rfl λ_ _ _ _ _ _ hr nd=>(aA (gq (kj (lM (DE.b (FV (ae 0))) B.range) (aj (top 2)) ["group"] ["group"] (λex C' s H=>(iy (dO (pO.mono (by decide)) hr dU.m dU.F.kp dU.b (ai (aq 1) (ai (aq 0) aJ))))) (λex C' s H=>(aq 0)))))
 have zx:=FD q kq.F kq.b F_place ["group","hands"] 2 rfl λ_ _ _ _ _ _ hr nd=>(aH (cM 1 nd (DO.e (du (xY.mono (by decide)) hr gU.m gU.F.kp gU.b (ai (aq 0) aJ)))) (aA (bV (CG (ai (c7 (ae 1) B.len) (ai (aq 1) aJ))))))
 have D6:=FD q j4.F j4.b iR ["one","two"] 0 rfl λ_ _ _ _ _ _ hr nd=>(aA (bV (gK (lS hr (DE.b (mI (ae 0) (ae 1))) (ae 0)))))
 have Kf:=FD q pM.F pM.b dw ["ladder","group"] 1 rfl λ_ _ _ _ _ _ hr nd=>(aA (bV (JE (DO.b (cZ (bQ (ae 0)) (aj (top 7)) ["ladder","group"] ["ladder","group"] (λex C' s H=>(dO (D6.mono (by decide)) hr j4.m j4.F.kp j4.b (ai (aq 0) (ai (aq 2) aJ)))))) B.any)))
 have GP:=FD q l8.F l8.b gz ["groups","ladder","group"] 5 rfl λ_ _ _ _ _ _ hr nd=>(aH (nV 1 nd (i5 aJ)) (aH (iz (nW (DO.e (xj zx (hr.mono (by decide)) kq.b hK B.sorted kq.m (ae 0)))) (eZ 2 nd) (aA (gg (mJ (iy (CK (Kf.mono (by decide)) hr pM.m pM.F.kp pM.b (ve (ae 1) (ve (ae 2) FJ))))) (aA (iO 1 (ai (aq 2) aJ))) cY))) (aA (yP 1))))
 have vU:=FD q fU.F fU.b cB ["count"] 5 rfl λ_ _ _ _ _ _ hr nd=>(aA (gq (xk zx (hr.mono (by decide)) kq.b hK B.sorted B.range kq.m (DE.b (s9 (DE.b aw) (ae 0))))))
 have uv:=FD q fA.F fA.b bZ ["group","ladder"] 0 rfl λ_ _ _ _ _ _ hr nd=>(aA (bV (JF (DO.b (cZ (bQ (ae 1)) (aj (top 9)) ["group","ladder"] ["group","ladder"] (λex C' s H=>(gK (lT hr (DE.b (mI (ae 1) (ae 0))) (DE.b aw)))))) B.all)))
 have xZ:=FD q gW.F gW.b eL ["count","ladder"] 6 rfl λ_ _ _ _ _ _ hr nd=>(aA (gq (du (GP.mono (by decide)) hr l8.m l8.F.kp l8.b (ai (DO.e (kj (bQ (DO.b (du (vU.mono (by decide)) hr fU.m fU.F.kp fU.b (ai (aq 0) aJ)))) (aj (top 10)) ["count","ladder"] ["count","ladder"] (λex C' s H=>(iy (dO (uv.mono (by decide)) hr fA.m fA.F.kp fA.b (ai (aq 0) (ai (aq 2) aJ))))) (λex C' s H=>(aq 0)))) aJ))))
 have lr:=FD q cH.F cH.b bI ["count","ladder","everyone"] 7 rfl λ_ _ _ _ _ _ hr nd=>(aH (cM 2 nd (sY (DE.b (s9 (DE.b aw) (ae 0))) (DE.b aw))) (aA (gq (cZ (bQ (DO.b (du (xZ.mono (by decide)) hr gW.m gW.F.kp gW.b (ai (aq 0) (ai (aq 1) aJ))))) (aj (top 13)) ["count","ladder","everyone"] ["count","ladder","everyone"] (λex C' s H=>(sY (ae 3) (ae 0)))))))
 have l9:=FI q fB.F fB.b aN ["self","bounds","rooms","worths","place","bound","left_over"] 0 rfl λ_ _ _ _ _ _ hr nd=>(Mm C.xq (Ge 1 4 5 nd B.enumerate (vw (Gb 6 nd (lM (DE.b (c7 (ae 1) B.len)) B.range) (aj (nK 12 0)) ["self","bounds","rooms","worths","place","bound","left_over"] ["self","bounds","rooms","worths","place","bound","left_over"] (λex C' s H=>(y6 (DE.b (gK (lS hr (ae 0) (ae 5)))) B.int))) (vw (JR C.xq (dr (DE.b (dr (ae 5) (ae 6))) (DO.b (i5 (ai (bS (ae 2) (ae 4)) aJ))))) (Ga (JS C.xq (dr (DE.b (c7 (ae 3) B.len)) (ae 4))))))) (dr (DE.b (dr (DO.b (cZ (bQ (ae 3)) (aj (nK 12 0)) ["self","bounds","rooms","worths","place","bound","left_over"] ["self","bounds","rooms","worths","place","bound","left_over"] (λex C' s H=>(jJ (ae 0))))) (DO.b (cZ (bQ (ae 1)) (aj (nK 12 0)) ["self","bounds","rooms","worths","place","bound","left_over"] ["self","bounds","rooms","worths","place","·5","left_over"] (λex C' s H=>aw))))) (DO.b (i5 (ai aw aJ)))) aw)
 have nB:=FD q df.F df.b ba ["groups","hand"] 1 rfl λ_ _ _ _ _ _ hr nd=>(aA (gq (cZ (bQ (ae 0)) (aj (top 14)) ["groups","hand"] ["groups","hand"] (λex C' s H=>(y6 (DE.b (dO (pO.mono (by decide)) hr dU.m dU.F.kp dU.b (ai (aq 0) (ai (aq 2) aJ)))) B.int)))))
 have x4:=FT q gX.F gX.b dy ["count","ones","others","bounds","hand","rooms","worths"] 2 rfl λ_ _ _ _ _ _ hr nd=>(iQ (nV 3 nd (i5 aJ)) (iQ (iz (lL (ae 0) B.range) (eZ 4 nd) (aA (iO 3 (ai (dr (DO.b (du (nB.mono (by decide)) hr df.m df.F.kp df.b (ai (aq 1) (ai (aq 4) aJ)))) (DO.b (cZ (bQ (DO.b (du (nB.mono (by decide)) hr df.m df.F.kp df.b (ai (aq 2) (ai (aq 4) aJ))))) (aj (top 15)) ["count","ones","others","bounds","hand","rooms","worths"] ["count","ones","others","bounds","hand","rooms","worths"] (λex C' s H=>(jJ (ae 0)))))) aJ)))) (iQ (iO 3 (ai (dr (DO.b (cZ (bQ (ae 1)) (aj (top 15)) ["count","ones","others","bounds","hand","rooms","worths"] ["count","ones","others","bounds","hand","rooms","worths"] (λex C' s H=>(jJ (DE.b aw))))) (DO.b (cZ (bQ (ae 2)) (aj (top 15)) ["count","ones","others","bounds","hand","rooms","worths"] ["count","ones","others","bounds","hand","rooms","worths"] (λex C' s H=>aw)))) aJ)) (iQ (iO 3 (ai (dr (DO.b (cZ (bQ (ae 1)) (aj (top 15)) ["count","ones","others","bounds","hand","rooms","worths"] ["count","ones","others","bounds","hand","rooms","worths"] (λex C' s H=>aw))) (DO.b (cZ (bQ (ae 2)) (aj (top 15)) ["count","ones","others","bounds","hand","rooms","worths"] ["count","ones","others","bounds","hand","rooms","worths"] (λex C' s H=>aw)))) aJ)) (iQ (cM 5 nd (dr (DO.b (cZ (bQ (DO.b (oW (ae 3) tG (tH (DE.b (jJ (DE.b aw))))))) (aj (top 15)) ["count","ones","others","bounds","hand","rooms","worths"] ["count","ones","others","bounds","hand","rooms","worths"] (λex C' s H=>aw))) (DO.b (i5 (ai aw aJ))))) (iQ (cM 6 nd (dr (DO.b (cZ (bQ (ae 1)) (aj (top 15)) ["count","ones","others","bounds","hand","rooms","worths"] ["count","ones","others","bounds","hand","rooms","worths"] (λex C' s H=>aw))) (DO.b (cZ (bQ (ae 2)) (aj (top 15)) ["count","ones","others","bounds","hand","rooms","worths"] ["count","ones","others","bounds","hand","rooms","worths"] (λex C' s H=>aw))))) (Gf 3 (C7 jT l9 (hr.mono (by decide)) GO fB.b (ai (aq 3) (ai (aq 5) (ai (aq 6) aJ)))))))))))
 have eR:=FD q cu.F cu.b ar ["self","column"] 0 rfl λ_ _ _ _ _ _ hr nd=>(aH (iz (lL (DE.b (sY (DE.b (c7 (DE.b (cy C (ae 0))) B.len)) (DE.b aw))) B.range) (eZ 1 nd) (aA (gg (bU (nj (DE.b (bS (DE.b (cy C (ae 0))) (ae 1))) (DE.b aw))) (aA (bV (aq 1))) cY))) (aA (bV Cy)))
 have iV:=FD q eg.F eg.b aB ["self","numbers","pivot","column"] 0 rfl λ_ _ _ _ _ _ hr nd=>(aA (gq (CV (Gh (aq 1) (aq 2) B.zip) (aj (nK 12 4)) ["self","numbers","pivot","column"] ["self","numbers","pivot","column"] (λex C' s H=>(CA (DE.b (sY (DE.b (td (ae 0) (DE.b (bS (ae 4) (ae 5))))) (DE.b (td (DE.b (bS (ae 3) (ae 5))) (ae 1))))) (DE.b (cy C (ae 2))))))))
 have pP:=FM q gY.F gY.b bh ["self","row","column","pivot","other"] 1 rfl λ_ _ _ _ _ _ hr nd=>(iP (F6 C.xq 3 nd (ae 1)) (iP (JQ C.xq 4 nd (DE.b (c7 (DE.b (cy C (ae 0))) B.len)) B.range (lQ (Ml C.xq (bU (lT hr (ae 4) (ae 1))) (lQ (JO C.xq (ae 4) (yY (eK C pN (iV.mono (by decide)) eg.b) hr (aq 0) (ai (bS (DE.b (cy C (ae 0))) (ae 4)) (ai (aq 3) (ai (aq 2) aJ)))))) F4))) (iP (C1 C.xq (yY (eK C pN (iV.mono (by decide)) eg.b) hr (aq 0) (ai (cy C (ae 0)) (ai (aq 3) (ai (aq 2) aJ))))) (iP (JP C.xq (ae 1) (aq 2)) (lQ (C2 C.xq (bS (ae 3) (ae 2))))))))
 have kB:=FD q eB.F eB.b aI ["self","row","other","column","here","there"] 0 rfl λ_ _ _ _ _ _ hr nd=>(aH (cM 4 nd (td (DE.b (bS (DE.b (bS (DE.b (cy C (ae 0))) (ae 1))) (DE.b (jJ (DE.b aw))))) (DE.b (bS (DE.b (bS (DE.b (cy C (ae 0))) (ae 2))) (ae 3))))) (aH (cM 5 nd (td (DE.b (bS (DE.b (bS (DE.b (cy C (ae 0))) (ae 2))) (DE.b (jJ (DE.b aw))))) (DE.b (bS (DE.b (bS (DE.b (cy C (ae 0))) (ae 1))) (ae 3))))) (aA (bV (Jz (gK (nj (ae 4) (ae 5))) (tq (tu (gK (lS hr (ae 4) (ae 5))) (tq (gK (nj (DE.b (bS (DE.b (cy C (ae 0))) (ae 1))) (DE.b (bS (DE.b (cy C (ae 0))) (ae 2)))))))))))))
 have jn:=FD q dM.F dM.b aC ["self","column","tightest","row"] 1 rfl λ_ _ _ _ _ _ hr nd=>(aH (cM 2 nd Cy) (aH (iz (lL (DE.b (c7 (DE.b (cy C (ae 0))) B.len)) B.range) (eZ 3 nd) (aA (gg (DW.t (tm (bU (CD (DE.b (bS (DE.b (bS (DE.b (cy C (ae 0))) (ae 3))) (ae 1))) (DE.b aw))) (nU (DW.t (nu (bU (JD (ae 2))) (tj (iy (tN (eK C qz (kB.mono (by decide)) eB.b) hr (aq 0) (ai (aq 3) (ai (aq 2) (ai (aq 1) aJ))))))))))) (aA (cM 2 nd (aq 3))) cY))) (aA (bV (aq 2)))))
 have nN:=FM q fY.F fY.b bG ["self","column"] 2 rfl λ_ _ _ _ _ _ hr nd=>(iP (y8 C.xq 1 nd (vn (eK C iq (eR.mono (by decide)) cu.b) hr (aq 0))) (lQ (C3 C.xq 1000000000000000000 (bU (FR (ae 1))) (iP (F8 C.xq D4 (pP.mono (by decide)) hr gY.b (ai (tN (eK C nM (jn.mono (by decide)) dM.b) hr (aq 0) (ai (aq 1) aJ)) (ai (aq 1) aJ))) (lQ (y8 C.xq 1 nd (vn (eK C iq (eR.mono (by decide)) cu.b) hr (aq 0))))))))
 have pQ:=FD q gZ.F gZ.b bE ["self","column"] 0 rfl λ_ _ _ _ _ _ hr nd=>(aH (gg (bU (vf (ae 1) (DE.b (cy C (ae 0))))) (aA (bV aw)) cY) (aA (bV (bS (DE.b (bS (DE.b (cy C (ae 0))) (DE.b (AM (DE.b (cy C (ae 0))) (ae 1))))) (DE.b (jJ (DE.b aw)))))))
 have pR:=FD q dW.F dW.b cW ["table","groups","start","times"] 1 rfl λ_ _ _ _ _ _ hr nd=>(aH (CW 3 nd (CU (ae 1) B.enumerate) (aj (top 16)) ["table","groups","start","times"] ["table","groups","start","times"] (λex C' s H=>(CG (ai (aq 1) (ai (tN (eK C D5 (pQ.mono (by decide)) gZ.b) hr (aq 2) (ai (dr (ae 4) (ae 0)) aJ)) aJ))))) (aA (gq (kj (bQ (ae 3)) (aj (top 16)) ["table","groups","start","times"] ["table","groups","start","times"] (λex C' s H=>(bU (CD (DE.b (bS (ae 0) (DE.b aw))) (DE.b aw)))) (λex C' s H=>(aq 0))))))
 have zy:=FW q ip.F ip.b fq ["count","ladder","others","table","worths"] 8 rfl λ_ _ _ _ _ _ hr nd=>(vx (cM 2 nd (DO.e (du (lr.mono (by decide)) hr cH.m cH.F.kp cH.b (ai (aq 0) (ai (aq 1) aJ))))) (AO C.xq 3 nd (x4.mono (by decide)) hr gX.m gX.F.kp gX.b Be (nN.mono (by decide)) hr fY.b (ai (aq 0) (ai (aq 1) (ai (aq 2) aJ))) (JV (bU (CD (DE.b (bS (DE.b (cy C (ae 3))) (DE.b (jJ (DE.b aw))))) (DE.b aw))) (y9 (du (pR.mono (by decide)) hr dW.m dW.F.kp dW.b (ai (aq 3) (ai (aq 1) (ai aw aJ)))) (DO.e (du (pR.mono (by decide)) hr dW.m dW.F.kp dW.b (ai (aq 3) (ai (aq 2) (ai (c7 (ae 1) B.len) aJ)))))) (vx (cM 4 nd (DO.e (oW (DE.b (cy C (ae 3))) (tH (DE.b (dr (DE.b (c7 (ae 1) B.len)) (DE.b (c7 (ae 2) B.len))))) tG))) (y9 (oW (ae 4) tG (tH (ae 0))) (bS (ae 4) (ae 0)))))))
 have x5:=FD q g0.F g0.b bB ["_law_ladder","_law_group","_law_rung"] 0 rfl λ_ _ _ _ _ _ hr nd=>(aH (iz (nW (aq 0)) (eZ 2 nd) (aA (gg (bU (lS hr (DE.b (mI (ae 2) (ae 1))) (ae 2))) (aA (bV kG)) cY))) (aA (bV kG)))
 have vV:=FD q fV.F fV.b bp ["_law_found"] 0 rfl λ_ _ _ _ _ _ hr nd=>(aA (bV (tu (qm (ae 0) B.isinstance B.int) (tq (FH (oX (ae 0) B.isinstance B.bool))))))
 have nC:=FD q dg.F dg.b bK ["_law_count","_law_ladder","_law_paper_here","_law_number","_law_group","_law_heavy"] 1 rfl λ_ _ _ _ _ _ hr nd=>(aH (gg (DW.t (nu (mJ (iy (jj (ae 2) B.isinstance B.tuple))) (nu (bU (lT hr (DE.b (c7 (ae 2) B.len)) (DE.b aw))) (nu (mJ (iy (oY (DE.b (bS (ae 2) (DE.b aw))) B.isinstance B.list))) (tj (bU (lT hr (DE.b (c7 (DE.b (bS (ae 2) (DE.b aw))) B.len)) (ae 0)))))))) (aA (bV kG)) cY) (aH (iz (nW (dr (DE.b (bS (ae 2) (DE.b aw))) (DO.b (i5 (ai (bS (ae 2) (DE.b aw)) aJ))))) (eZ 3 nd) (aA (gg (DW.t (nu (mJ (iy (dO (vV.mono (by decide)) hr fV.m fV.F.kp fV.b (ai (aq 3) aJ)))) (nu (bU (nj (ae 3) (DE.b aw))) (tj (bU (CF (ae 3) (DE.b (CB (DE.b aw) (DE.b aw))))))))) (aA (bV kG)) cY))) (aH (iz (lL (DE.b (s9 (DE.b aw) (ae 0))) B.range) (eZ 4 nd) (aH (cM 5 nd (JK (DO.b (cZ (bQ (DO.b (du (ir.mono (by decide)) hr bC.m bC.F.kp bC.b (ai (aq 4) aJ)))) (aj (top 25)) ["_law_count","_law_ladder","_law_paper_here","_law_number","_law_group","_law_heavy"] ["_law_count","_law_ladder","_law_paper_here","_law_number","_law_group","_law_heavy"] (λex C' s H=>(bS (DE.b (bS (ae 3) (DE.b aw))) (ae 0))))) B.sum)) (aA (gg (bU (lT hr (DE.b (gK (CF (ae 5) (DE.b (bS (ae 2) (DE.b aw)))))) (DE.b (dO (x5.mono (by decide)) hr g0.m g0.F.kp g0.b (ai (aq 1) (ai (aq 4) aJ)))))) (aA (bV kG)) cY)))) (aA (bV kG)))))
 have MD:=FD q HP.F HP.b vK ["_law_script","_law_first","_law_count","_law_most","_law_weights","_law_mark","_law_ladder","_law_found"] 9 rfl λ_ _ _ _ _ _ hr nd=>(aH (cM 1 nd (dO (iF.mono (by decide)) hr bF.m bF.F.kp bF.b (ai (aq 0) (ai aw aJ)))) (aH (cM 2 nd (dr (DE.b aw) (DE.b (sZ (ae 1) (DE.b aw))))) (aH (cM 3 nd (bS (DO.b (i5 (ai aw (ai aw (ai (CB (DE.b aw) (DE.b aw)) aJ))))) (DE.b (sZ (DE.b (CA (ae 1) (DE.b aw))) (DE.b aw))))) (aH (FP 4 nd (lM (ae 2) B.range) (aj (top 29)) ["_law_script","_law_first","_law_count","_law_most","_law_weights","_law_mark","_law_ladder","_law_found"] ["_law_script","_law_first","_law_count","_law_most","_law_weights","_law_mark","_law_ladder","_law_found"] (λex C' s H=>(sZ (DE.b (dO (iF.mono (by decide)) hr bF.m bF.F.kp bF.b (ai (aq 1) (ai (dr (DE.b aw) (ae 0)) aJ)))) (ae 4)))) (aH (cM 5 nd (sZ (DE.b (dO (iF.mono (by decide)) hr bF.m bF.F.kp bF.b (ai (aq 0) (ai aw aJ)))) (DE.b (dr (DE.b (zc (ae 4) B.sum)) (DE.b aw))))) (aH (cM 6 nd (DO.e (du (qA.mono (by decide)) hr eE.m eE.F.kp eE.b (ai (aq 4) (ai (aq 5) aJ))))) (aH (cM 7 nd (dO (cw.Qh (zy.mono (by decide))) hr ip.m ip.F.kp ip.b (ai (aq 2) (ai (DO.e (yS (ae 6) B.list)) aJ)))) (aH (gg (DW.t (nu (mJ (iy (jj (ae 7) B.isinstance B.tuple))) (nu (bU (lT hr (DE.b (c7 (ae 7) B.len)) (DE.b aw))) (tj (bU (Gj (DE.b (bS (ae 7) (DE.b aw))))))))) (aA (bV kG)) cY) (aH (gg (mJ (iy (dO (nC.mono (by decide)) hr dg.m dg.F.kp dg.b (ai (aq 2) (ai (aq 6) (ai (bS (ae 7) (DE.b aw)) aJ)))))) (aA (bV kG)) cY) (aH (gg (bU (lS hr (ae 2) (DE.b aw))) (aA (bV kG)) cY) (aH (cM 7 nd (dO (cw.Qh (zy.mono (by decide))) hr ip.m ip.F.kp ip.b (ai (dr (ae 2) (DE.b aw)) (ai (DO.e (yS (ae 6) B.list)) aJ)))) (aA (bV (tu (gK (JX (DE.b (bS (ae 7) (DE.b aw))))) (tq (dO (nC.mono (by decide)) hr dg.m dg.F.kp dg.b (ai (dr (ae 2) (DE.b aw)) (ai (aq 6) (ai (bS (ae 7) (DE.b aw)) aJ)))))))))))))))))))
 exact MD
end
noncomputable def ak(f:Nat->Int)(n:Nat):PV:=.lst ((List.range n).map λj=>.int (f j))
noncomputable def eh(m n:Nat)(tf:Nat->Nat->Int)(sf:Nat->Nat)(cf:Nat->Int)(d:Int):Tb:=⟨(List.range m).map λi=>ak (tf i) n,(List.range m).map λk=>.int (sf k:Nat),ak cf n,.int d⟩
theorem je{f:Nat->PV}{n k:Nat}(h:k<n):itemAt ((List.range n).map f) (k:Int)=some (f k):=by
 unfold itemAt Br
 rw[List.length_map,List.length_range,if_pos (by omega),if_pos (by omega)]
 show((List.range n).map f)[((k:Int)).toNat]?=_
 rw[Int.toNat_natCast,List.getElem?_map,List.getElem?_range h]
 rfl
theorem vW{f:Nat->PV}{n:Nat}(h:0<n):itemAt ((List.range n).map f) (-1)=some (f (n-1)):=by
 unfold itemAt Br
 rw[List.length_map,List.length_range,if_neg (by decide),if_pos (by omega)]
 show((List.range n).map f)[((-1:Int)+n).toNat]?=_
 rw[show((-1:Int)+n).toNat=n-1 by omega,List.getElem?_map,List.getElem?_range (by omega)]
 rfl
section
variable{m n:Nat}{tf:Nat->Nat->Int}{sf:Nat->Nat}{cf:Nat->Int}{d:Int}{ρ:bM}{a b c:Den}
theorem vX{t:Tb}(h:a ρ=some (cX t)):aR (bY fC "rows") a ρ=some (.lst t.rows):=by
 rw[eA h]
 rfl
theorem zA{t:Tb}(h:a ρ=some (cX t)):aR (bY fC "solved") a ρ=some (.lst t.sol):=by
 rw[eA h]
 rfl
theorem mW{t:Tb}(h:a ρ=some (cX t)):aR (bY fC "costs") a ρ=some t.cs:=by
 rw[eA h]
 rfl
theorem Bf{t:Tb}(h:a ρ=some (cX t)):aR (bY fC "parts_of_one") a ρ=some t.dd:=by
 rw[eA h]
 rfl
theorem iG{f:Nat->Int}{k:Nat}(ha:a ρ=some (ak f n))(hb:b ρ=some (.int (k:Nat)))(h:k<n):ah cS a b ρ=some (.int (f k)):=by
 rw[aG ha hb]
 exact je (f:=λj=>PV.int (f j)) h
theorem uw{f:Nat->Int}(ha:a ρ=some (ak f n))(h:0<n):ah cS a (aR i4 (dC (.int 1))) ρ=some (.int (f (n-1))):=by
 rw[aG (y:=.int (-1)) ha rfl]
 exact vW (f:=λj=>PV.int (f j)) h
theorem jf{k:Nat}(ha:a ρ=some (cX (eh m n tf sf cf d)))(hb:b ρ=some (.int (k:Nat)))(h:k<m):ah cS (aR (bY fC "rows") a) b ρ=some (ak (tf k) n):=by
 rw[aG (vX ha) hb]
 exact je (f:=λi=>ak (tf i) n) h
theorem D7{k:Nat}(ha:a ρ=some (cX (eh m n tf sf cf d)))(hb:b ρ=some (.int (k:Nat)))(h:k<m):ah cS (aR (bY fC "solved") a) b ρ=some (.int (sf k:Nat)):=by
 rw[aG (zA ha) hb]
 exact je (f:=λi=>PV.int (sf i:Nat)) h
theorem pS{f:Nat->Int}(ha:a ρ=some (ak f n)):aR bH a ρ=some (.int (n:Nat)):=by
 rw[eA ha]
 show some (PV.int ((List.range n).map λj=>PV.int (f j)).length)=_
 rw[List.length_map,List.length_range]
theorem vY(ha:a ρ=some (cX (eh m n tf sf cf d))):aR bH (aR (bY fC "rows") a) ρ=some (.int (m:Nat)):=by
 rw[eA (vX ha)]
 show some (PV.int ((List.range m).map λi=>ak (tf i) n).length)=_
 rw[List.length_map,List.length_range]
noncomputable def nO(cf:Nat->Int):Nat->Nat->Option Nat
 |_,0=>none
 |k,n+1=>if cf k<0 then some k else nO cf (k+1) n
theorem mX{cf:Nat->Int}:∀{n k j:Nat},nO cf k n=some j->k<=j/\j<k+n/\cf j<0/\∀i,k<=i->i<j->0<=cf i
 |0,_,_,h=>by cases h
 |n+1,k,j,h=>by
  unfold nO at h
  split at h
  ·rename_i hc
   cases h
   exact⟨Nat.le_refl _,by omega,hc,λi h1 h2=>absurd h1 (by omega)⟩
  ·rename_i hc
   obtain⟨h1,h2,h3,h4⟩:=mX h
   refine⟨by omega,by omega,h3,λi g1 g2=>?_⟩
   by_cases e:i=k
   ·subst e;omega
   ·exact h4 i (by omega) g2
theorem rG{cf:Nat->Int}:∀{n k:Nat},nO cf k n=none->∀i,k<=i->i<k+n->0<=cf i
 |0,_,_,i,h1,h2=>absurd h1 (by omega)
 |n+1,k,h,i,h1,h2=>by
  unfold nO at h
  split at h
  ·cases h
  ·rename_i hc
   by_cases e:i=k
   ·subst e;omega
   ·exact rG h i (by omega) (by omega)
noncomputable def zB(cf:Nat->Int)(k n:Nat):PV:=match nO cf k n with
 |some j=>.int (j:Nat)
 |none=>.non
theorem pT(hn:n<=1000):ar [cX (eh m (n+1) tf sf cf d)]=some (zB cf 0 n):=by
 have loop:∀(r k:Nat) (s:Slot),k+r=n->(∃s',forL (aZ 1) ay ((List.range' k r).map λj=>PV.int (j:Nat)) [.sh (cX (eh m (n+1) tf sf cf d)),s]=some (.nx [.sh (cX (eh m (n+1) tf sf cf d)),s'])/\nO cf k r=none)\/∃j,forL (aZ 1) ay ((List.range' k r).map λj=>PV.int (j:Nat)) [.sh (cX (eh m (n+1) tf sf cf d)),s]=some (.rt (.int (j:Nat)))/\nO cf k r=some j:=by
  intro r
  induction r with
  |zero=>exact λk s h=>.inl ⟨s,rfl,rfl⟩
  |succ r ih=>
   intro k s h
   rw[List.range'_succ,List.map_cons]
   have hk:ah cS (aR (bY fC "costs") (dV 0)) (dV 1) [.sh (cX (eh m (n+1) tf sf cf d)),.sh (.int (k:Nat))]=some (.int (cf k)):=iG (n:=n+1) (mW (t:=eh m (n+1) tf sf cf d) rfl) rfl (by omega)
   have ht:tV (ah mG (ah cS (aR (bY fC "costs") (dV 0)) (dV 1)) (dC (.int 0))) [.sh (cX (eh m (n+1) tf sf cf d)),.sh (.int (k:Nat))]=some (decide (cf k<0)):=dE (by rw[aG hk rfl];rfl)
   unfold nO
   by_cases c:cf k<0
   ·refine .inr ⟨k,?_,if_pos c⟩
    rw[decide_eq_true c]at ht
    have hb:ay [.sh (cX (eh m (n+1) tf sf cf d)),.sh (.int (k:Nat))]=some (.rt (.int (k:Nat))):=by
     unfold ay
     rw[lY ht]
     rfl
    show(ay [.sh (cX (eh m (n+1) tf sf cf d)),.sh (.int (k:Nat))]).bind _=_
    rw[hb]
    rfl
   ·rw[if_neg c]
    rw[decide_eq_false c]at ht
    have hb:ay [.sh (cX (eh m (n+1) tf sf cf d)),.sh (.int (k:Nat))]=some (.nx [.sh (cX (eh m (n+1) tf sf cf d)),.sh (.int (k:Nat))]):=by
     unfold ay
     rw[gN ht]
     rfl
    have e:forL (aZ 1) ay (PV.int (k:Nat)::(List.range' (k+1) r).map λj=>PV.int (j:Nat)) [.sh (cX (eh m (n+1) tf sf cf d)),s]=forL (aZ 1) ay ((List.range' (k+1) r).map λj=>PV.int (j:Nat)) [.sh (cX (eh m (n+1) tf sf cf d)),.sh (.int (k:Nat))]:=by
     show(ay [.sh (cX (eh m (n+1) tf sf cf d)),.sh (.int (k:Nat))]).bind _=_
     rw[hb]
     rfl
    rw[e]
    exact ih (k+1) _ (by omega)
 have hr:cL (ah rX (aR bH (aR (bY fC "costs") (dV 0))) (dC (.int 1))) (dJ 2 [cX (eh m (n+1) tf sf cf d)])=some ((List.range' 0 n).map λj=>PV.int (j:Nat)):=by
  rw[jN (j:=(n:Nat)) (by
   rw[aG (pS (n:=n+1) (mW (t:=eh m (n+1) tf sf cf d) rfl)) rfl]
   show some (PV.int (((n+1:Nat):Int)-1))=_
   congr 2
   omega) (by unfold kE;simp;omega)]
  unfold cx
  rw[Int.toNat_natCast,List.range_eq_range']
  congr 1
  refine List.map_congr_left λk _=>?_
  rw[Int.zero_add]
 unfold ar
 unfold zB
 rcases loop n 0 .un (by omega)with⟨s',e1,e2⟩|⟨j,e1,e2⟩
 ·rw[e2]
  refine gh rfl ?_
  unfold c9
  rw[aU (by rw[fe hr];exact e1)]
  rfl
 ·rw[e2]
  refine gh rfl ?_
  unfold c9
  rw[lX (by rw[fe hr];exact e1)]
end
section
variable{m n:Nat}{tf:Nat->Nat->Int}{sf:Nat->Nat}{cf:Nat->Int}{d:Int}{ρ:bM}{a b c:Den}
noncomputable def Sm(x:Int):Prop:=-(2^64)<x/\x<2^64
theorem Kg{x y:Int}(h:Sm x):uY x y=true:=by
 unfold uY
 rw[Bool.or_eq_true,Bool.and_eq_true]
 exact .inl ⟨decide_eq_true h.1,decide_eq_true h.2⟩
theorem n8{x y:Int}(h:Sm x):qj (.int x) (.int y)=some (.int (x*y)):=by
 show(if uY x y then some (PV.int (x*y))else none)=_
 rw[if_pos (Kg h)]
theorem ME(h:a ρ=some (.bl true)):Ft a b ρ=some (.bl true):=by
 show(a ρ).bind _=_
 rw[h]
 rfl
theorem MF(h:a ρ=some (.bl false)):Ft a b ρ=b ρ:=by
 show(a ρ).bind _=_
 rw[h]
 rfl
theorem D8(h:a ρ=some (.bl true)):qP a b ρ=b ρ:=by
 show(a ρ).bind _=_
 rw[h]
 rfl
theorem Kh(h:a ρ=some (.bl false)):qP a b ρ=some (.bl false):=by
 show(a ρ).bind _=_
 rw[h]
 rfl
noncomputable def fD(tf:Nat->Nat->Int)(sf:Nat->Nat)(n c r o:Nat):Bool:=decide (tf r n*tf o c<tf o n*tf r c)||(decide (tf r n*tf o c=tf o n*tf r c)&&decide (sf r<sf o))
theorem x6{r o k:Nat}(hr:r<m)(ho:o<m)(hk:k<n+1)(hs:∀i j,i<m->Sm (tf i j)):aI [cX (eh m (n+1) tf sf cf d),.int (r:Nat),.int (o:Nat),.int (k:Nat)]=some (.bl (fD tf sf n k r o)):=by
 unfold aI
 refine gh rfl ?_
 unfold gi
 generalize hT:cX (eh m (n+1) tf sf cf d)=TT
 have q0:∀(s4 s5:Slot),dV 0 [.sh TT,.sh (.int (r:Nat)),.sh (.int (o:Nat)),.sh (.int (k:Nat)),s4,s5]=some (cX (eh m (n+1) tf sf cf d)):=λs4 s5=>by rw[hT];rfl
 have e1:∀(s4 s5:Slot),ah qj (ah cS (ah cS (aR (bY fC "rows") (dV 0)) (dV 1)) (aR i4 (dC (.int 1)))) (ah cS (ah cS (aR (bY fC "rows") (dV 0)) (dV 2)) (dV 3)) [.sh TT,.sh (.int (r:Nat)),.sh (.int (o:Nat)),.sh (.int (k:Nat)),s4,s5]=some (.int (tf r n*tf o k)):=λs4 s5=>by
  rw[aG (uw (n:=n+1) (jf (q0 s4 s5) rfl hr) (by omega)) (iG (n:=n+1) (jf (q0 s4 s5) rfl ho) rfl hk)]
  exact n8 (hs _ _ hr)
 have e2:∀(s4 s5:Slot),ah qj (ah cS (ah cS (aR (bY fC "rows") (dV 0)) (dV 2)) (aR i4 (dC (.int 1)))) (ah cS (ah cS (aR (bY fC "rows") (dV 0)) (dV 1)) (dV 3)) [.sh TT,.sh (.int (r:Nat)),.sh (.int (o:Nat)),.sh (.int (k:Nat)),s4,s5]=some (.int (tf o n*tf r k)):=λs4 s5=>by
  rw[aG (uw (n:=n+1) (jf (q0 s4 s5) rfl ho) (by omega)) (iG (n:=n+1) (jf (q0 s4 s5) rfl hr) rfl hk)]
  exact n8 (hs _ _ ho)
 show aX _ _ [.sh TT,.sh (.int (r:Nat)),.sh (.int (o:Nat)),.sh (.int (k:Nat)),.un,.un]=_
 rw[aU (bT (e1 .un .un))]
 show aX _ _ [.sh TT,.sh (.int (r:Nat)),.sh (.int (o:Nat)),.sh (.int (k:Nat)),.sh (.int (tf r n*tf o k)),.un]=_
 rw[aU (bT (e2 _ .un))]
 show bu _ [.sh TT,.sh (.int (r:Nat)),.sh (.int (o:Nat)),.sh (.int (k:Nat)),.sh (.int (tf r n*tf o k)),.sh (.int (tf o n*tf r k))]=_
 refine gA ?_
 have e3:ah mG (ah cS (aR (bY fC "solved") (dV 0)) (dV 1)) (ah cS (aR (bY fC "solved") (dV 0)) (dV 2)) [.sh TT,.sh (.int (r:Nat)),.sh (.int (o:Nat)),.sh (.int (k:Nat)),.sh (.int (tf r n*tf o k)),.sh (.int (tf o n*tf r k))]=some (.bl (decide (sf r<sf o))):=by
  rw[aG (D7 (q0 _ _) rfl hr) (D7 (q0 _ _) rfl ho)]
  show some (PV.bl (decide (((sf r:Nat):Int)<((sf o:Nat):Int))))=_
  congr 2
  exact decide_eq_decide.mpr (by omega)
 unfold fD
 generalize tf r n*tf o k=x at*
 generalize tf o n*tf r k=y at*
 have f1:ah mG (dV 4) (dV 5) [.sh TT,.sh (.int (r:Nat)),.sh (.int (o:Nat)),.sh (.int (k:Nat)),.sh (.int x),.sh (.int y)]=some (.bl (decide (x<y))):=rfl
 have f2:ah lA (dV 4) (dV 5) [.sh TT,.sh (.int (r:Nat)),.sh (.int (o:Nat)),.sh (.int (k:Nat)),.sh (.int x),.sh (.int y)]=some (.bl (decide (x=y))):=rfl
 by_cases c1:x<y
 ·rw[decide_eq_true c1]at f1⊢
  exact ME f1
 ·rw[decide_eq_false c1]at f1⊢
  rw[MF f1]
  by_cases c2:x=y
  ·rw[decide_eq_true c2]at f2⊢
   rw[D8 f2,e3]
   rfl
  ·rw[decide_eq_false c2]at f2⊢
   rw[Kh f2]
   rfl
noncomputable def g6(tf:Nat->Nat->Int)(sf:Nat->Nat)(n c:Nat)(acc:Option Nat)(r:Nat):Option Nat:=if 0<tf r c then(match acc with
 |none=>some r
 |some o=>if fD tf sf n c r o then some r else some o)else acc
noncomputable def jg:Option Nat->PV
 |none=>.non
 |some r=>.int (r:Nat)
noncomputable def ma(tf:Nat->Nat->Int)(sf:Nat->Nat)(n c m:Nat):Option Nat:=(List.range m).foldl (g6 tf sf n c) none
theorem D9{r k:Nat}{acc:Option Nat}(hr:r<m)(hk:k<n+1)(ha:∀o,acc=some o->o<m)(hs:∀i j,i<m->Sm (tf i j)):bJ aI [.sh (cX (eh m (n+1) tf sf cf d)),.sh (.int (k:Nat)),.sh (jg acc),.sh (.int (r:Nat))]=some (.nx [.sh (cX (eh m (n+1) tf sf cf d)),.sh (.int (k:Nat)),.sh (jg (g6 tf sf n k acc r)),.sh (.int (r:Nat))]):=by
 unfold bJ
 have e1:tV (ah Hr (ah cS (ah cS (aR (bY fC "rows") (dV 0)) (dV 3)) (dV 1)) (dC (.int 0))) [.sh (cX (eh m (n+1) tf sf cf d)),.sh (.int (k:Nat)),.sh (jg acc),.sh (.int (r:Nat))]=some (decide (0<tf r k)):=dE (by
  rw[aG (iG (n:=n+1) (jf rfl rfl hr) rfl hk) rfl]
  rfl)
 unfold g6
 by_cases c1:0<tf r k
 ·rw[decide_eq_true c1]at e1
  rw[if_pos c1]
  cases acc with
  |none=>
   rw[lY (by rw[kW e1];exact Ms (dE rfl))]
   rfl
  |some o=>
   have ho:=ha o rfl
   have e2:tV (aR uZ (dV 2)) [.sh (cX (eh m (n+1) tf sf cf d)),.sh (.int (k:Nat)),.sh (jg (some o)),.sh (.int (r:Nat))]=some false:=dE rfl
   have e3:tV (dD (hV aI) (aQ 0) (ag (aQ 3) (ag (aQ 2) (ag (aQ 1) ax)))) [.sh (cX (eh m (n+1) tf sf cf d)),.sh (.int (k:Nat)),.sh (jg (some o)),.sh (.int (r:Nat))]=some (fD tf sf n k r o):=dE (x6 hr ho hk hs)
   have e4:jr (tV (ah Hr (ah cS (ah cS (aR (bY fC "rows") (dV 0)) (dV 3)) (dV 1)) (dC (.int 0)))) (qa (tV (aR uZ (dV 2))) (tV (dD (hV aI) (aQ 0) (ag (aQ 3) (ag (aQ 2) (ag (aQ 1) ax)))))) [.sh (cX (eh m (n+1) tf sf cf d)),.sh (.int (k:Nat)),.sh (jg (some o)),.sh (.int (r:Nat))]=some (fD tf sf n k r o):=by
    rw[kW e1,nv e2,e3]
   cases c2:fD tf sf n k r o with
   |true=>
    rw[c2]at e4
    rw[lY e4]
    show _=some (Fl.nx [.sh (cX (eh m (n+1) tf sf cf d)),.sh (.int (k:Nat)),.sh (jg (if fD tf sf n k r o=true then some r else some o)),.sh (.int (r:Nat))])
    rw[c2]
    rfl
   |false=>
    rw[c2]at e4
    rw[gN e4]
    show _=some (Fl.nx [.sh (cX (eh m (n+1) tf sf cf d)),.sh (.int (k:Nat)),.sh (jg (if fD tf sf n k r o=true then some r else some o)),.sh (.int (r:Nat))])
    rw[c2]
    rfl
 ·rw[decide_eq_false c1]at e1
  rw[gN (tU e1),if_neg c1]
  rfl
theorem Ea{r k:Nat}{acc:Option Nat}(hr:r<m)(ha:∀o,acc=some o->o<m):∀o,g6 tf sf n k acc r=some o->o<m:=λo h=>by
 unfold g6 at h
 split at h
 ·cases acc with
  |none=>cases h;exact hr
  |some q=>
   have h:(if fD tf sf n k r q then some r else some q)=some o:=h
   split at h
   ·cases h;exact hr
   ·cases h;exact ha _ rfl
 ·exact ha o h
theorem vZ{k:Nat}(hk:k<n+1)(hm:m<=1000)(hs:∀i j,i<m->Sm (tf i j)):aC [cX (eh m (n+1) tf sf cf d),.int (k:Nat)]=some (jg (ma tf sf n k m)):=by
 have loop:∀(l:List Nat) (acc:Option Nat) (s:Slot),(∀r∈l,r<m)->(∀o,acc=some o->o<m)->∃s',forL (aZ 3) (bJ aI) (l.map λj=>PV.int (j:Nat)) [.sh (cX (eh m (n+1) tf sf cf d)),.sh (.int (k:Nat)),.sh (jg acc),s]=some (.nx [.sh (cX (eh m (n+1) tf sf cf d)),.sh (.int (k:Nat)),.sh (jg (l.foldl (g6 tf sf n k) acc)),s']):=by
  intro l
  induction l with
  |nil=>exact λacc s _ _=>⟨s,rfl⟩
  |cons r l ih=>
   intro acc s hl ha
   have hr:=hl r (List.mem_cons_self ..)
   obtain⟨s',e⟩:=ih (g6 tf sf n k acc r) (.sh (.int (r:Nat))) (λx hx=>hl x (List.mem_cons_of_mem _ hx)) (Ea hr ha)
   refine⟨s',?_⟩
   rw[List.foldl_cons,<-e]
   show(bJ aI [.sh (cX (eh m (n+1) tf sf cf d)),.sh (.int (k:Nat)),.sh (jg acc),.sh (.int (r:Nat))]).bind _=_
   rw[D9 hr hk ha hs]
   rfl
 have hr:∀s2 s3:Slot,cL (aR bH (aR (bY fC "rows") (dV 0))) [.sh (cX (eh m (n+1) tf sf cf d)),.sh (.int (k:Nat)),s2,s3]=some ((List.range m).map λj=>PV.int (j:Nat)):=λs2 s3=>by
  rw[jN (j:=(m:Nat)) (vY rfl) (by unfold kE;simp;omega)]
  unfold cx
  rw[Int.toNat_natCast]
  congr 1
  refine List.map_congr_left λk _=>?_
  rw[Int.zero_add]
 unfold aC
 refine gh rfl ?_
 unfold fE
 obtain⟨s',e⟩:=loop (List.range m) none .un (λr hr=>List.mem_range.mp hr) (λo h=>by cases h)
 show aX (cK 2 (dC .non)) _ [.sh (cX (eh m (n+1) tf sf cf d)),.sh (.int (k:Nat)),.un,.un]=_
 rw[aU (bT rfl)]
 show aX _ _ [.sh (cX (eh m (n+1) tf sf cf d)),.sh (.int (k:Nat)),.sh (jg none),.un]=_
 rw[aU (by rw[fe (hr _ _)];exact e)]
 rfl
end
section
variable{m n:Nat}{tf:Nat->Nat->Int}{sf:Nat->Nat}{cf:Nat->Int}{d:Int}{ρ:bM}{a b c:Den}
theorem lu{e:Den}{ρ:bM}{f:Nat->PV}{u v:Nat->PV}:∀(l:List Nat),(∀j∈l,e (.sh (u j)::.sh (v j)::ρ)=some (f j))->kP e ρ (l.map λj=>PV.tup [u j,v j])=some (l.map f)
 |[],_=>rfl
 |j::l,h=>by
  rw[List.map_cons,List.map_cons]
  show(e (.sh (u j)::.sh (v j)::ρ)).bind _=_
  rw[h j (List.mem_cons_self ..)]
  show(kP e ρ (l.map λj=>PV.tup [u j,v j])).map _=_
  rw[lu l λi hi=>h i (List.mem_cons_of_mem _ hi)]
  rfl
theorem zip_rows{f g:Nat->Int}(ha:a ρ=some (ak f n))(hb:b ρ=some (ak g n)):oQ a b ρ=some ((List.range n).map λj=>PV.tup [.int (f j),.int (g j)]):=by
 show(a ρ).bind _=_
 rw[ha]
 show(b ρ).bind _=_
 rw[hb]
 show some (List.zipWith _ ((List.range n).map _) ((List.range n).map _))=_
 rw[List.zipWith_map,List.zipWith_self]
theorem pU{t:Tb}{f g:Nat->Int}{k:Nat}(hd:t.dd=.int d)(d0:0<d)(d1:d<1073741824)(hk:k<n)(hn:n<=1000)(hf:∀j,j<n->Sm (f j)):aB [cX t,ak f n,ak g n,.int (k:Nat)]=some (ak (λj=>(f j*g k-f k*g j)/d) n):=by
 unfold aB
 refine gh rfl ?_
 unfold iT
 refine gA ?_
 have hz:oQ (aQ 1) (aQ 2) (dJ 4 [cX t,ak f n,ak g n,.int (k:Nat)])=some ((List.range n).map λj=>PV.tup [.int (f j),.int (g j)]):=zip_rows rfl rfl
 unfold jG
 rw[hz]
 show(if((List.range n).map λj=>PV.tup [.int (f j),.int (g j)]).length<=sizeLine then _ else _)=_
 rw[if_pos (by rw[List.length_map,List.length_range];have:sizeLine=16777216:=rfl;omega)]
 rw[lu (u:=λj=>.int (f j)) (v:=λj=>.int (g j)) (f:=λj=>.int ((f j*g k-f k*g j)/d)) (List.range n) λj hj=>?_]
 ·rfl
 ·have kF:=List.mem_range.mp hj
  generalize hR:dJ 4 [cX t,ak f n,ak g n,.int (k:Nat)]=R0
  have R1:R0=[.sh (cX t),.sh (ak f n),.sh (ak g n),.sh (.int (k:Nat))]:=by rw[<-hR];rfl
  subst R1
  have e1:ah qj (dV 0) (ah cS (dV 4) (dV 5)) (.sh (.int (f j))::.sh (.int (g j))::[.sh (cX t),.sh (ak f n),.sh (ak g n),.sh (.int (k:Nat))])=some (.int (f j*g k)):=by
   rw[aG rfl (iG (n:=n) rfl rfl hk)]
   exact n8 (hf j kF)
  have e2:ah qj (ah cS (dV 3) (dV 5)) (dV 1) (.sh (.int (f j))::.sh (.int (g j))::[.sh (cX t),.sh (ak f n),.sh (ak g n),.sh (.int (k:Nat))])=some (.int (f k*g j)):=by
   rw[aG (iG (n:=n) rfl rfl hk) rfl]
   exact n8 (hf k hk)
  have e3:aR (bY fC "parts_of_one") (dV 2) (.sh (.int (f j))::.sh (.int (g j))::[.sh (cX t),.sh (ak f n),.sh (ak g n),.sh (.int (k:Nat))])=some (.int d):=by
   rw[Bf (t:=t) rfl,hd]
  rw[aG (by rw[aG e1 e2];rfl) e3]
  show(if decide (0<d)&&decide (d<1073741824)then some (PV.int ((f j*g k-f k*g j)/d))else none)=_
  rw[decide_eq_true d0,decide_eq_true d1]
  rfl
end
section
variable{m n:Nat}{tf:Nat->Nat->Int}{sf:Nat->Nat}{cf:Nat->Int}{d:Int}{ρ:bM}{a b c:Den}
theorem kr{a b:eu}{t t':Tb}{ρ ρ':bM}(h:a t ρ=some (t',ρ')):sU a b t ρ=b t' ρ':=by
 unfold sU
 rw[h]
 rfl
theorem nQ{F:Nat->PV}{i:Nat}{x:PV}(hi:i<m):((List.range m).map F).set i x=(List.range m).map λk=>if k=i then x else F k:=by
 apply List.ext_getElem?
 intro k
 rw[List.getElem?_set,List.getElem?_map,List.getElem?_map]
 by_cases hk:i=k
 ·subst hk
  rw[if_pos rfl,if_pos (by rw[List.length_map,List.length_range];exact hi),List.getElem?_range hi]
  show some x=some (if i=i then x else F i)
  rw[if_pos rfl]
 ·rw[if_neg hk]
  cases h:(List.range m)[k]? with
  |none=>rfl
  |some q=>
   have hq:q=k:=by
    obtain⟨h1,h2⟩:=List.getElem?_eq_some_iff.mp h
    rw[List.getElem_range]at h2
    exact h2.symm
   show some (F q)=some (if q=i then x else F q)
   rw[if_neg (by rw[hq];exact λz=>hk z.symm)]
noncomputable def MG(tf:Nat->Nat->Int)(d:Int)(r c i:Nat):Nat->Int:=λj=>(tf i j*tf r c-tf i c*tf r j)/d
noncomputable def kC(tf:Nat->Nat->Int)(d:Int)(r c i:Nat):Nat->Nat->Int:=λk=>if k<i/\k≠r then MG tf d r c k else tf k
theorem nD(f:Nat->Int)(n:Nat):allFlat (ak f n)=true:=by
 show((List.range n).map λj=>PV.int (f j)).all flat=true
 rw[List.all_eq_true]
 intro x hx
 obtain⟨j,_,rfl⟩:=List.mem_map.mp hx
 rfl
theorem zC{i:Nat}(h:i<m):Br m (i:Nat)=some i:=by
 unfold Br
 rw[if_pos (by omega),if_pos (by omega),Int.toNat_natCast]
theorem pV{r k:Nat}(hr:r<m)(hk:k<n+1)(hn:n<=900)(d0:0<d)(d1:d<1073741824)(hs:∀i j,i<m->Sm (tf i j)):∀(q i:Nat) (s:Slot),i+q=m->
  ∃s',yK 4 (cC aB) ((List.range' i q).map λj=>PV.int (j:Nat)) (eh m (n+1) (kC tf d r k i) sf cf d) [.un,.sh (.int (r:Nat)),.sh (.int (k:Nat)),.sh (ak (tf r) (n+1)),s]=some (eh m (n+1) (kC tf d r k m) sf cf d,[.un,.sh (.int (r:Nat)),.sh (.int (k:Nat)),.sh (ak (tf r) (n+1)),s'])
 |0,i,s,h=>⟨s,by rw[show i=m by omega];rfl⟩
 |q+1,i,s,h=>by
  have hi:i<m:=by omega
  obtain⟨s',e⟩:=pV hr hk hn d0 d1 hs q (i+1) (.sh (.int (i:Nat))) (by omega)
  refine⟨s',?_⟩
  rw[List.range'_succ,List.map_cons,<-e]
  show(cC aB (eh m (n+1) (kC tf d r k i) sf cf d) [.un,.sh (.int (r:Nat)),.sh (.int (k:Nat)),.sh (ak (tf r) (n+1)),.sh (.int (i:Nat))]).bind _=_
  have hb:cC aB (eh m (n+1) (kC tf d r k i) sf cf d) [.un,.sh (.int (r:Nat)),.sh (.int (k:Nat)),.sh (ak (tf r) (n+1)),.sh (.int (i:Nat))]=some (eh m (n+1) (kC tf d r k (i+1)) sf cf d,[.un,.sh (.int (r:Nat)),.sh (.int (k:Nat)),.sh (ak (tf r) (n+1)),.sh (.int (i:Nat))]):=by
   generalize hR:([.un,.sh (.int (r:Nat)),.sh (.int (k:Nat)),.sh (ak (tf r) (n+1)),.sh (.int (i:Nat))]:bM)=R0
   have hw:∀t:Tb,ck t R0=[.sh (cX t),.sh (.int (r:Nat)),.sh (.int (k:Nat)),.sh (ak (tf r) (n+1)),.sh (.int (i:Nat))]:=λt=>by rw[<-hR];rfl
   unfold cC Ou
   rw[hw]
   have ht:tV (ah eJ (dV 4) (dV 1)) [.sh (cX (eh m (n+1) (kC tf d r k i) sf cf d)),.sh (.int (r:Nat)),.sh (.int (k:Nat)),.sh (ak (tf r) (n+1)),.sh (.int (i:Nat))]=some (!decide (i=r)):=dE (by
    show some (PV.bl (!decide (((i:Nat):Int)=((r:Nat):Int))))=_
    congr 3
    exact decide_eq_decide.mpr (by omega))
   rw[ht]
   by_cases c:i=r
   ·have e1:kC tf d r k (i+1)=kC tf d r k i:=by
      funext z
      unfold kC
      by_cases h1:z<i/\z≠r
      ·rw[if_pos h1,if_pos ⟨by omega,h1.2⟩]
      ·rw[if_neg h1,if_neg (by omega)]
    rw[decide_eq_true c,e1]
    rfl
   ·rw[decide_eq_false c]
    show Fu _ _ _ _=_
    unfold Fu
    rw[hw]
    have e0:kC tf d r k i i=tf i:=if_neg (by omega)
    have e1:ah cS (aR (bY fC "rows") (dV 0)) (dV 4) [.sh (cX (eh m (n+1) (kC tf d r k i) sf cf d)),.sh (.int (r:Nat)),.sh (.int (k:Nat)),.sh (ak (tf r) (n+1)),.sh (.int (i:Nat))]=some (ak (tf i) (n+1)):=by
     rw[jf (k:=i) rfl rfl hi,e0]
    have e2:dD (hV aB) (aQ 0) (ag (ah cS (aR (bY fC "rows") (dV 0)) (dV 4)) (ag (aQ 3) (ag (aQ 2) ax))) [.sh (cX (eh m (n+1) (kC tf d r k i) sf cf d)),.sh (.int (r:Nat)),.sh (.int (k:Nat)),.sh (ak (tf r) (n+1)),.sh (.int (i:Nat))]=some (ak (MG tf d r k i) (n+1)):=by
     show(ag _ _ _).bind (λxs=>hV aB 0 (cX (eh m (n+1) (kC tf d r k i) sf cf d)::xs))=_
     have e3:ag (ah cS (aR (bY fC "rows") (dV 0)) (dV 4)) (ag (aQ 3) (ag (aQ 2) ax)) [.sh (cX (eh m (n+1) (kC tf d r k i) sf cf d)),.sh (.int (r:Nat)),.sh (.int (k:Nat)),.sh (ak (tf r) (n+1)),.sh (.int (i:Nat))]=some [ak (tf i) (n+1),ak (tf r) (n+1),.int (k:Nat)]:=by
      show(ah _ _ _ _).bind _=_
      rw[e1]
      rfl
     rw[e3]
     exact pU (t:=eh m (n+1) (kC tf d r k i) sf cf d) rfl d0 d1 hk (by omega) (λj _=>hs i j hi)
    rw[e2]
    show(if allFlat (ak (MG tf d r k i) (n+1))=true then _ else _)=_
    rw[if_pos (nD _ _)]
    show((some (PV.int (i:Nat))).bind λp=>(Fq p).bind λj=>(Br (eh m (n+1) (kC tf d r k i) sf cf d).rows.length j).map _)=_
    have hlen:(eh m (n+1) (kC tf d r k i) sf cf d).rows.length=m:=by
     show((List.range m).map _).length=m
     rw[List.length_map,List.length_range]
    rw[hlen]
    show(Br m (i:Nat)).map _=_
    rw[zC hi]
    show some (_,R0)=some (_,R0)
    congr 2
    show Tb.mk (((List.range m).map λz=>ak (kC tf d r k i z) (n+1)).set i (ak (MG tf d r k i) (n+1))) _ _ _=Tb.mk ((List.range m).map λz=>ak (kC tf d r k (i+1) z) (n+1)) _ _ _
    rw[nQ hi]
    congr 1
    refine List.map_congr_left λz hz=>?_
    by_cases Qv:z=i
    ·subst Qv
     rw[if_pos rfl]
     unfold kC
     rw[if_pos ⟨by omega,c⟩]
    ·rw[if_neg Qv]
     unfold kC
     by_cases h1:z<i/\z≠r
     ·rw[if_pos h1,if_pos ⟨by omega,h1.2⟩]
     ·rw[if_neg h1,if_neg (by omega)]
  rw[hb]
  rfl
theorem Eb{r k:Nat}(hr:r<m)(hk:k<n+1)(hn:n<=900)(hm:m<=1000)(d0:0<d)(d1:d<1073741824)(hs:∀i j,i<m->Sm (tf i j))(hc:∀j,Sm (cf j)):
  bh (eh m (n+1) tf sf cf d) [.int (r:Nat),.int (k:Nat)]=some (eh m (n+1) (kC tf d r k m) (Sx.iW sf r k) (λj=>(cf j*tf r k-cf k*tf r j)/d) (tf r k)):=by
 unfold bh Hv
 rw[if_pos (show[PV.int (r:Nat),PV.int (k:Nat)].length+1=3 from rfl)]
 show(gS aB (eh m (n+1) tf sf cf d) [.un,.sh (.int (r:Nat)),.sh (.int (k:Nat)),.un,.un]).map Prod.fst=_
 have h0:kC tf d r k 0=tf:=by
  funext z
  exact if_neg (by omega)
 obtain⟨s',e⟩:=pV (sf:=sf) (cf:=cf) hr hk hn d0 d1 hs m 0 .un (by omega)
 rw[h0]at e
 have e1:Cq 3 (dV 1) (eh m (n+1) tf sf cf d) [.un,.sh (.int (r:Nat)),.sh (.int (k:Nat)),.un,.un]=some (eh m (n+1) tf sf cf d,[.un,.sh (.int (r:Nat)),.sh (.int (k:Nat)),.sh (ak (tf r) (n+1)),.un]):=by
  show(itemAt ((List.range m).map λi=>ak (tf i) (n+1)) (r:Nat)).map _=_
  rw[je hr]
  rfl
 have e2:Fv 4 (aR bH (aR (bY fC "rows") (dV 0))) (cC aB) (eh m (n+1) tf sf cf d) [.un,.sh (.int (r:Nat)),.sh (.int (k:Nat)),.sh (ak (tf r) (n+1)),.un]=some (eh m (n+1) (kC tf d r k m) sf cf d,[.un,.sh (.int (r:Nat)),.sh (.int (k:Nat)),.sh (ak (tf r) (n+1)),s']):=by
  unfold Fv
  have OQ:cL (aR bH (aR (bY fC "rows") (dV 0))) (ck (eh m (n+1) tf sf cf d) [.un,.sh (.int (r:Nat)),.sh (.int (k:Nat)),.sh (ak (tf r) (n+1)),.un])=some ((List.range' 0 m).map λj=>PV.int (j:Nat)):=by
   rw[jN (j:=(m:Nat)) (vY rfl) (by unfold kE;simp;omega)]
   unfold cx
   rw[Int.toNat_natCast,List.range_eq_range']
   congr 1
   refine List.map_congr_left λk _=>?_
   rw[Int.zero_add]
  rw[OQ]
  exact e
 have e3:sV (dD (hV aB) (aQ 0) (ag (aR (bY fC "costs") (dV 0)) (ag (aQ 3) (ag (aQ 2) ax)))) (eh m (n+1) (kC tf d r k m) sf cf d) [.un,.sh (.int (r:Nat)),.sh (.int (k:Nat)),.sh (ak (tf r) (n+1)),s']=some (eh m (n+1) (kC tf d r k m) sf (λj=>(cf j*tf r k-cf k*tf r j)/d) d,[.un,.sh (.int (r:Nat)),.sh (.int (k:Nat)),.sh (ak (tf r) (n+1)),s']):=by
  unfold sV
  have e4:dD (hV aB) (aQ 0) (ag (aR (bY fC "costs") (dV 0)) (ag (aQ 3) (ag (aQ 2) ax))) (ck (eh m (n+1) (kC tf d r k m) sf cf d) [.un,.sh (.int (r:Nat)),.sh (.int (k:Nat)),.sh (ak (tf r) (n+1)),s'])=some (ak (λj=>(cf j*tf r k-cf k*tf r j)/d) (n+1)):=
   pU (t:=eh m (n+1) (kC tf d r k m) sf cf d) (f:=cf) (g:=tf r) rfl d0 d1 hk (by omega) (λj _=>hc j)
  rw[e4]
  show(if allFlat (ak _ (n+1))=true then _ else _)=_
  rw[if_pos (nD _ _)]
  rfl
 have e5:Jr (dV 1) (aQ 2) (eh m (n+1) (kC tf d r k m) sf (λj=>(cf j*tf r k-cf k*tf r j)/d) d) [.un,.sh (.int (r:Nat)),.sh (.int (k:Nat)),.sh (ak (tf r) (n+1)),s']=some (eh m (n+1) (kC tf d r k m) (Sx.iW sf r k) (λj=>(cf j*tf r k-cf k*tf r j)/d) d,[.un,.sh (.int (r:Nat)),.sh (.int (k:Nat)),.sh (ak (tf r) (n+1)),s']):=by
  show(Br ((List.range m).map λz=>PV.int (sf z:Nat)).length (r:Nat)).map _=_
  rw[List.length_map,List.length_range,zC hr]
  show some (Tb.mk _ (((List.range m).map λz=>PV.int (sf z:Nat)).set r (.int (k:Nat))) _ _,_)=some (Tb.mk _ ((List.range m).map λz=>PV.int (Sx.iW sf r k z:Nat)) _ _,_)
  have hl:(((List.range m).map λz=>PV.int (sf z:Nat)).set r (.int (k:Nat)))=(List.range m).map λz=>PV.int (Sx.iW sf r k z:Nat):=by
   rw[nQ hr]
   refine List.map_congr_left λz hz=>?_
   unfold Sx.iW
   by_cases h:z=r
   ·rw[if_pos h,if_pos h]
   ·rw[if_neg h,if_neg h]
  rw[hl]
  rfl
 have e6:sW (ah cS (dV 3) (dV 2)) (eh m (n+1) (kC tf d r k m) (Sx.iW sf r k) (λj=>(cf j*tf r k-cf k*tf r j)/d) d) [.un,.sh (.int (r:Nat)),.sh (.int (k:Nat)),.sh (ak (tf r) (n+1)),s']=some (eh m (n+1) (kC tf d r k m) (Sx.iW sf r k) (λj=>(cf j*tf r k-cf k*tf r j)/d) (tf r k),[.un,.sh (.int (r:Nat)),.sh (.int (k:Nat)),.sh (ak (tf r) (n+1)),s']):=by
  unfold sW
  rw[iG (n:=n+1) (f:=tf r) (k:=k) rfl rfl hk]
  rfl
 unfold gS
 rw[kr e1,kr e2,kr e3,kr e5,e6]
 rfl
end
end L2.D.My
namespace L2.D.My
open PySem Sx
noncomputable def EN(tf:Nat->Nat->Int)(sf:Nat->Nat)(n c r o:Nat):Prop:=tf r n*tf o c<tf o n*tf r c\/(tf r n*tf o c=tf o n*tf r c/\sf r<=sf o)
theorem EN.trans{tf:Nat->Nat->Int}{sf:Nat->Nat}{n c x y z:Nat}(hx:0<tf x c)(hy:0<tf y c)(hz:0<tf z c)(h1:EN tf sf n c x y)(h2:EN tf sf n c y z):EN tf sf n c x z:=by
 unfold EN at*
 generalize tf x n=a at*
 generalize tf y n=b at*
 generalize tf z n=d at*
 generalize tf x c=p at*
 generalize tf y c=q at*
 generalize tf z c=r at*
 have r1:a*q*r=a*r*q:=Int.mul_right_comm _ _ _
 have r2:b*p*r=b*r*p:=Int.mul_right_comm _ _ _
 have r3:d*q*p=d*p*q:=Int.mul_right_comm _ _ _
 rcases h1 with h1|⟨h1,s1⟩
 ·have e1:=Int.mul_lt_mul_of_pos_right h1 hz
  have e2:b*r*p<=d*q*p:=by
   rcases h2 with h2|⟨h2,_⟩
   ·exact Int.le_of_lt (Int.mul_lt_mul_of_pos_right h2 hx)
   ·rw[h2];exact Int.le_refl _
  exact .inl (Int.lt_of_mul_lt_mul_right (show a*r*q<d*p*q by omega) (Int.le_of_lt hy))
 ·rcases h2 with h2|⟨h2,s2⟩
  ·have e2:=Int.mul_lt_mul_of_pos_right h2 hx
   have e1:a*q*r=b*p*r:=by rw[h1]
   exact .inl (Int.lt_of_mul_lt_mul_right (show a*r*q<d*p*q by omega) (Int.le_of_lt hy))
  ·refine .inr ⟨?_,Nat.le_trans s1 s2⟩
   have e1:a*q*r=b*p*r:=by rw[h1]
   have e2:b*r*p=d*q*p:=by rw[h2]
   exact Int.eq_of_mul_eq_mul_right (show q≠0 by omega) (show a*r*q=d*p*q by omega)
theorem GQ{tf:Nat->Nat->Int}{sf:Nat->Nat}{n c r o:Nat}(h:fD tf sf n c r o=true):EN tf sf n c r o:=by
 unfold fD at h
 rw[Bool.or_eq_true,Bool.and_eq_true]at h
 rcases h with h|⟨h1,h2⟩
 ·exact .inl (of_decide_eq_true h)
 ·have:=of_decide_eq_true h2
  exact .inr ⟨of_decide_eq_true h1,by omega⟩
theorem GR{tf:Nat->Nat->Int}{sf:Nat->Nat}{n c r o:Nat}(h:fD tf sf n c r o=false):EN tf sf n c o r:=by
 unfold fD at h
 rw[Bool.or_eq_false_iff]at h
 obtain⟨h1,h2⟩:=h
 have h1:=of_decide_eq_false h1
 unfold EN
 by_cases e:tf r n*tf o c=tf o n*tf r c
 ·rw[decide_eq_true e,Bool.true_and]at h2
  have h2:=of_decide_eq_false h2
  exact .inr ⟨e.symm,by omega⟩
 ·exact .inl (by omega)
theorem nE{tf:Nat->Nat->Int}{sf:Nat->Nat}{n c:Nat}:∀m:Nat,match(List.range m).foldl (g6 tf sf n c) none with
  |none=>∀k,k<m->¬0<tf k c
  |some r=>r<m/\0<tf r c/\∀k,k<m->0<tf k c->EN tf sf n c r k
 |0=>λk hk=>absurd hk (by omega)
 |m+1=>by
  have ih:=nE (tf:=tf) (sf:=sf) (n:=n) (c:=c) m
  rw[List.range_succ,List.foldl_append]
  show match g6 tf sf n c ((List.range m).foldl (g6 tf sf n c) none) m with
   |none=>∀k,k<m+1->¬0<tf k c
   |some r=>r<m+1/\0<tf r c/\∀k,k<m+1->0<tf k c->EN tf sf n c r k
  cases h:(List.range m).foldl (g6 tf sf n c) none with
  |none=>
   rw[h]at ih
   by_cases q:0<tf m c
   ·have e:g6 tf sf n c none m=some m:=if_pos q
    rw[e]
    refine⟨by omega,q,λk hk hp=>?_⟩
    by_cases z:k=m
    ·subst z
     exact .inr ⟨rfl,Nat.le_refl _⟩
    ·exact absurd hp (ih k (by omega))
   ·have e:g6 tf sf n c none m=none:=if_neg q
    rw[e]
    intro k hk
    by_cases z:k=m
    ·rw[z];exact q
    ·exact ih k (by omega)
  |some o=>
   rw[h]at ih
   obtain⟨i1,i2,i3⟩:=ih
   by_cases q:0<tf m c
   ·have e:g6 tf sf n c (some o) m=if fD tf sf n c m o then some m else some o:=if_pos q
    rw[e]
    cases t:fD tf sf n c m o with
    |true=>
     rw[if_pos rfl]
     refine⟨by omega,q,λk hk hp=>?_⟩
     by_cases z:k=m
     ·subst z
      exact .inr ⟨rfl,Nat.le_refl _⟩
     ·exact(GQ t).trans q i2 hp (i3 k (by omega) hp)
    |false=>
     rw[if_neg Bool.false_ne_true]
     refine⟨by omega,i2,λk hk hp=>?_⟩
     by_cases z:k=m
     ·subst z
      exact GR t
     ·exact i3 k (by omega) hp
   ·have e:g6 tf sf n c (some o) m=some o:=if_neg q
    rw[e]
    refine⟨by omega,i2,λk hk hp=>?_⟩
    by_cases z:k=m
    ·subst z
     exact absurd hp q
    ·exact i3 k (by omega) hp
section
variable{A:cU}{m J:Nat}{sol:Nat->Nat}
noncomputable def fZ(A:cU)(m J:Nat)(sol:Nat->Nat):Tb:=eh m (J+1) (T A m sol) sol (T A m sol m) (dt A m sol)
theorem GS{r c:Nat}(X:Tab A m sol)(t:Sx.Turn A m J sol r c)(hJ:J<=900)(hm:m<=1000)(hb:∀(sol:Nat->Nat) i j,Sm (T A m sol i j))(hd:∀sol:Nat->Nat,dt A m sol<1073741824):
  bh (fZ A m J sol) [.int (r:Nat),.int (c:Nat)]=some (fZ A m J (iW sol r c)):=by
 have cJ:=t.cJ
 have rm:=t.rm
 unfold fZ
 rw[Eb t.rm (by omega) hJ hm X.pos (hd sol) (λi j _=>hb sol i j) (λj=>hb sol m j)]
 have ex:∀i,i<=m->i≠r->∀j,(T A m sol i j*T A m sol r c-T A m sol i c*T A m sol r j)/dt A m sol=T A m (iW sol r c) i j:=λi hi Mv j=>by
  rw[<-l6 X t.rm hi Mv]
  exact Int.mul_ediv_cancel_left _ (by have:=X.pos;omega)
 unfold eh
 congr 2
 ·refine List.map_congr_left λi hi=>?_
  have L3:=List.mem_range.mp hi
  congr 1
  funext j
  unfold kC MG
  by_cases h:i=r
  ·rw[if_neg (by omega),h,zm t.rm]
  ·rw[if_pos ⟨L3,h⟩]
   exact ex i (by omega) h j
 ·congr 1
  funext j
  exact ex m (Nat.le_refl _) (by omega) j
 ·rw[ua t.rm]
noncomputable def jo(A:cU)(m J:Nat)(sol:Nat->Nat):Option Nat:=nO (T A m sol m) 0 J
noncomputable def ux(A:cU)(m J:Nat)(sol:Nat->Nat)(c:Nat):Option Nat:=ma (T A m sol) sol J c m
theorem Ec{c:Nat}(hc:jo A m J sol=some c)(ex:∃r,r<m/\0<T A m sol r c):∃r,ux A m J sol c=some r/\Sx.Turn A m J sol r c:=by
 obtain⟨_,h2,h3,h4⟩:=mX hc
 have ok:=nE (tf:=T A m sol) (sf:=sol) (n:=J) (c:=c) m
 cases h:ux A m J sol c with
 |none=>
  unfold ux ma at h
  rw[h]at ok
  obtain⟨r,g1,g2⟩:=ex
  exact absurd g2 (ok r g1)
 |some r=>
  unfold ux ma at h
  rw[h]at ok
  obtain⟨g1,g2,g3⟩:=ok
  exact⟨r,rfl,by omega,h3,λj hj=>h4 j (Nat.zero_le _) hj,g1,g2,g3⟩
noncomputable def cA(A:cU)(m J:Nat)(s0:Nat->Nat):Nat->Nat->Nat
 |0=>s0
 |t+1=>match jo A m J (cA A m J s0 t)with
  |none=>cA A m J s0 t
  |some c=>iW (cA A m J s0 t) ((ux A m J (cA A m J s0 t) c).getD 0) c
end
section
variable{A:cU}{m J:Nat}{s0:Nat->Nat}
theorem Ee{P:Nat->Prop}:∀{n:Nat},P n->∃t,t<=n/\P t/\∀u,u<t->¬P u
 |n,h=>by
  induction n using Nat.strongRecOn with
  |_ n ih=>
   by_cases c:∃u,u<n/\P u
   ·obtain⟨u,h1,h2⟩:=c
    obtain⟨t,g1,g2⟩:=ih u h1 h2
    exact⟨t,by omega,g2⟩
   ·exact⟨n,Nat.le_refl _,h,λu hu hp=>c ⟨u,hu,hp⟩⟩
noncomputable def x8(A:cU)(m J:Nat)(s0:Nat->Nat)(t:Nat):Nat:=(jo A m J (cA A m J s0 t)).getD 0
noncomputable def x9(A:cU)(m J:Nat)(s0:Nat->Nat)(t:Nat):Nat:=(ux A m J (cA A m J s0 t) (x8 A m J s0 t)).getD 0
theorem ya(X0:Tab A m s0)(F0:l7 A m J s0)(h0:∀k,k<m->s0 k<J)(Ef:∀sol:Nat->Nat,Tab A m sol->(∀k,k<m->sol k<J)->∀c,c<J->T A m sol m c<0->∃r,r<m/\0<T A m sol r c):
  ∀t,(∀u,u<t->jo A m J (cA A m J s0 u)≠none)->Run A m J t (cA A m J s0) (x9 A m J s0) (x8 A m J s0)
 |0,_=>⟨X0,F0,λt h=>absurd h (by omega),λt h=>absurd h (by omega)⟩
 |t+1,hg=>by
  have R:=ya X0 F0 h0 Ef t λu hu=>hg u (by omega)
  have X:=(R.tf t (Nat.le_refl _)).1
  have hs:=R.A8 h0 t (Nat.le_refl _)
  obtain⟨c,hc⟩:∃c,jo A m J (cA A m J s0 t)=some c:=by
   cases h:jo A m J (cA A m J s0 t)with
   |none=>exact absurd h (hg t (by omega))
   |some c=>exact⟨c,rfl⟩
  obtain⟨_,g2,g3,_⟩:=mX hc
  obtain⟨r,hr,tn⟩:=Ec hc (Ef _ X hs c (by omega) g3)
  have ee:x8 A m J s0 t=c:=by unfold x8;rw[hc];rfl
  have el:x9 A m J s0 t=r:=by unfold x9;rw[ee,hr];rfl
  have en:cA A m J s0 (t+1)=iW (cA A m J s0 t) r c:=by
   show(match jo A m J (cA A m J s0 t)with
    |none=>cA A m J s0 t
    |some c=>iW (cA A m J s0 t) ((ux A m J (cA A m J s0 t) c).getD 0) c)=_
   rw[hc]
   show iW (cA A m J s0 t) ((ux A m J (cA A m J s0 t) c).getD 0) c=_
   rw[hr]
   rfl
  refine⟨X0,F0,λu hu=>?_,λu hu=>?_⟩
  ·by_cases h:u=t
   ·rw[h,ee,el];exact tn
   ·exact R.turn u (by omega)
  ·by_cases h:u=t
   ·rw[h,ee,el];exact en
   ·exact R.iW u (by omega)
theorem ku{F:List PV->Option PV}{o:Den}{as:bX}{ρ:bM}{t:Tb}{xs:List PV}(ho:o ρ=some (cX t))(ha:as ρ=some xs):dD (hV F) o as ρ=F (cX t::xs):=by
 show(o ρ).bind _=_
 rw[ho]
 show(as ρ).bind _=_
 rw[ha]
 rfl
theorem Eg{c:cD}{body:eu}{n:Nat}{t t':Tb}{ρ ρ':bM}(h:c (ck t ρ)=some true)(hb:body t ρ=some (t',ρ')):eX c body (n+1) t ρ=eX c body n t' ρ':=by
 show(c (ck t ρ)).bind (λk=>if k then(body t ρ).bind λq=>eX c body n q.1 q.2 else some (t,ρ))=_
 rw[h]
 show((body t ρ).bind λq=>eX c body n q.1 q.2)=_
 rw[hb]
 rfl
theorem Eh{c:cD}{body:eu}{n:Nat}{t:Tb}{ρ:bM}(h:c (ck t ρ)=some false):eX c body (n+1) t ρ=some (t,ρ):=by
 show(c (ck t ρ)).bind (λk=>if k then(body t ρ).bind λq=>eX c body n q.1 q.2 else some (t,ρ))=_
 rw[h]
 rfl
theorem v3{i:Nat}{f:Den}{t:Tb}{ρ:bM}{p:PV}(h:f (ck t ρ)=some p)(hp:flat p=true):va i f t ρ=some (t,ρ.set i (.sh p)):=by
 unfold va
 rw[h]
 show(if flat p=true then _ else _)=_
 rw[if_pos hp]
theorem rH(o:Option Nat):flat (jg o)=true:=by cases o<;>rfl
theorem Ei{F:Tb->List PV->Option Tb}{as:bX}{t t':Tb}{ρ:bM}{ps:List PV}(h:as (ck t ρ)=some ps)(hp:ps.all flat=true)(hF:F t ps=some t'):yL F as t ρ=some (t',ρ):=by
 unfold yL
 rw[h]
 show(if ps.all flat=true then _ else _)=_
 rw[if_pos hp,hF]
 rfl
theorem rJ(cf:Nat->Int)(k n:Nat):zB cf k n=jg (nO cf k n):=by
 unfold zB
 cases nO cf k n<;>rfl
theorem zE(hJ:J<=900)(hm:m<=1000)(hb:∀(sol:Nat->Nat) i j,Sm (T A m sol i j))(hd:∀sol:Nat->Nat,dt A m sol<1073741824){t0:Nat}(R:Run A m J t0 (cA A m J s0) (x9 A m J s0) (x8 A m J s0))(hg:∀u,u<t0->jo A m J (cA A m J s0 u)≠none)(he:jo A m J (cA A m J s0 t0)=none):
  ∀(q u n:Nat),u+q=t0->q<n->eX (tV (aR u7 (dV 1))) (dP ar bh aC) n (fZ A m J (cA A m J s0 u)) [.un,.sh (jg (jo A m J (cA A m J s0 u)))]=some (fZ A m J (cA A m J s0 t0),[.un,.sh .non])
 |q,u,0,h,hn=>absurd hn (by omega)
 |0,u,n+1,h,hn=>by
  have hu:u=t0:=by omega
  subst hu
  rw[he]
  exact Eh rfl
 |q+1,u,n+1,h,hn=>by
  have hu:u<t0:=by omega
  have tn:=R.turn u hu
  have X:=(R.tf u (by omega)).1
  obtain⟨c,hc⟩:∃c,jo A m J (cA A m J s0 u)=some c:=by
   cases h:jo A m J (cA A m J s0 u)with
   |none=>exact absurd h (hg u hu)
   |some c=>exact⟨c,rfl⟩
  have ee:x8 A m J s0 u=c:=by unfold x8;rw[hc];rfl
  obtain⟨r,hr,Qw⟩:=Ec hc ⟨x9 A m J s0 u,tn.rm,by have:=tn.pos;rw[ee]at this;exact this⟩
  have el:x9 A m J s0 u=r:=by unfold x9;rw[ee,hr];rfl
  have en:=R.iW u hu
  rw[ee,el]at en
  have cJ:=Qw.cJ
  have a1:dD (hV aC) (aQ 0) (ag (aQ 1) ax) (ck (fZ A m J (cA A m J s0 u)) [.un,.sh (.int (c:Nat))])=some (.int (r:Nat)):=by
   rw[ku (t:=fZ A m J (cA A m J s0 u)) (xs:=[.int (c:Nat)]) rfl rfl]
   have:=vZ (m:=m) (n:=J) (tf:=T A m (cA A m J s0 u)) (sf:=cA A m J s0 u) (cf:=T A m (cA A m J s0 u) m) (d:=dt A m (cA A m J s0 u)) (k:=c) (by omega) hm λi j _=>hb _ i j
   unfold ux at hr
   rw[hr]at this
   exact this
  have a2:ag (dD (hV aC) (aQ 0) (ag (aQ 1) ax)) (ag (aQ 1) ax) (ck (fZ A m J (cA A m J s0 u)) [.un,.sh (.int (c:Nat))])=some [.int (r:Nat),.int (c:Nat)]:=by
   show(dD _ _ _ _).bind _=_
   rw[a1]
   rfl
  have sv:=GS X Qw hJ hm hb hd
  rw[<-en]at sv
  have e1:=Ei (ρ:=[.un,.sh (.int (c:Nat))]) a2 rfl sv
  have b1:dD (hV ar) (aQ 0) ax (ck (fZ A m J (cA A m J s0 (u+1))) [.un,.sh (.int (c:Nat))])=some (jg (jo A m J (cA A m J s0 (u+1)))):=by
   rw[ku (t:=fZ A m J (cA A m J s0 (u+1))) (xs:=[]) rfl rfl]
   have:=pT (m:=m) (n:=J) (tf:=T A m (cA A m J s0 (u+1))) (sf:=cA A m J s0 (u+1)) (cf:=T A m (cA A m J s0 (u+1)) m) (d:=dt A m (cA A m J s0 (u+1))) (by omega)
   rw[rJ]at this
   exact this
  have e2:=v3 (i:=1) b1 (rH _)
  have ht:tV (aR u7 (dV 1)) (ck (fZ A m J (cA A m J s0 u)) [.un,.sh (.int (c:Nat))])=some true:=rfl
  have R3:dP ar bh aC (fZ A m J (cA A m J s0 u)) [.un,.sh (.int (c:Nat))]=some (fZ A m J (cA A m J s0 (u+1)),[.un,.sh (jg (jo A m J (cA A m J s0 (u+1))))]):=by
   unfold dP
   rw[kr e1]
   exact e2
  rw[hc]
  show eX _ _ (n+1) (fZ A m J (cA A m J s0 u)) [.un,.sh (.int (c:Nat))]=_
  rw[Eg ht R3]
  exact zE hJ hm hb hd R hg he q (u+1) n (by omega) (by omega)
theorem Ej(X0:Tab A m s0)(F0:l7 A m J s0)(h0:∀k,k<m->s0 k<J)(Ef:∀sol:Nat->Nat,Tab A m sol->(∀k,k<m->sol k<J)->∀c,c<J->T A m sol m c<0->∃r,r<m/\0<T A m sol r c)
  (hJ:J<=900)(hm:m<=1000)(hb:∀(sol:Nat->Nat) i j,Sm (T A m sol i j))(hd:∀sol:Nat->Nat,dt A m sol<1073741824)(hf:J^m<1000000000000000000):
  ∃sol,Tab A m sol/\l7 A m J sol/\(∀k,k<m->sol k<J)/\(∀j,j<J->0<=T A m sol m j)/\bG (fZ A m J s0) []=some (fZ A m J sol):=by
 have ex:∃t,t<=J^m/\jo A m J (cA A m J s0 t)=none:=by
  by_cases c:∃t,t<=J^m/\jo A m J (cA A m J s0 t)=none
  ·exact c
  ·exfalso
   have R:=ya X0 F0 h0 Ef (J^m) λu hu z=>c ⟨u,by omega,z⟩
   exact Nat.lt_irrefl _ (R.ends h0)
 obtain⟨t1,RU,Pd⟩:=ex
 obtain⟨t0,SD,he,hg⟩:=Ee (P:=λt=>jo A m J (cA A m J s0 t)=none) Pd
 have R:=ya X0 F0 h0 Ef t0 hg
 obtain⟨X,F⟩:=R.tf t0 (Nat.le_refl _)
 refine⟨cA A m J s0 t0,X,F,R.A8 h0 t0 (Nat.le_refl _),λj hj=>rG he j (Nat.zero_le _) (by omega),?_⟩
 have w:=zE hJ hm hb hd R hg he t0 0 1000000000000000000 (by omega) (by omega)
 have b1:dD (hV ar) (aQ 0) ax (ck (fZ A m J s0) [.un,.un])=some (jg (jo A m J s0)):=by
  rw[ku (t:=fZ A m J s0) (xs:=[]) rfl rfl]
  have:=pT (m:=m) (n:=J) (tf:=T A m s0) (sf:=s0) (cf:=T A m s0 m) (d:=dt A m s0) (by omega)
  rw[rJ]at this
  exact this
 have e2:=v3 (i:=1) b1 (rH _)
 unfold bG Hv
 rw[if_pos (show([]:List PV).length+1=1 from rfl)]
 show(fX ar bh aC (fZ A m J s0) [.un,.un]).map Prod.fst=_
 unfold fX
 rw[kr e2]
 have w':=congrArg (Option.map Prod.fst) w
 exact w'
end
noncomputable def cat(f:Nat->Int)(n:Nat)(g:Nat->Int):Nat->Int:=λj=>if j<n then f j else g (j-n)
theorem GU(f g:Nat->Int)(n k:Nat):((List.range n).map λj=>PV.int (f j))++((List.range k).map λj=>PV.int (g j))=(List.range (n+k)).map λj=>PV.int (cat f n g j):=by
 apply List.ext_getElem?
 intro i
 rw[List.getElem?_append,List.length_map,List.length_range]
 by_cases h:i<n
 ·rw[if_pos h,List.getElem?_map,List.getElem?_map,List.getElem?_range h,List.getElem?_range (by omega)]
  unfold cat
  show some (PV.int (f i))=some (PV.int (if i<n then f i else g (i-n)))
  rw[if_pos h]
 ·rw[if_neg h,List.getElem?_map,List.getElem?_map]
  by_cases h2:i<n+k
  ·rw[List.getElem?_range (by omega),List.getElem?_range h2]
   unfold cat
   show some (PV.int (g (i-n)))=some (PV.int (if i<n then f i else g (i-n)))
   rw[if_neg h]
  ·rw[List.getElem?_eq_none (by rw[List.length_range];omega),List.getElem?_eq_none (by rw[List.length_range];omega)]
   rfl
theorem Ek{f g:Nat->Int}{n k:Nat}(h:n+k<=5000):cg (ak f n) (ak g k)=some (ak (cat f n g) (n+k)):=by
 show(if((List.range n).map λj=>PV.int (f j)).length+((List.range k).map λj=>PV.int (g j)).length<=sizeLine then some (PV.lst (((List.range n).map λj=>PV.int (f j))++((List.range k).map λj=>PV.int (g j))))else none)=_
 rw[List.length_map,List.length_map,List.length_range,List.length_range,if_pos (by have:sizeLine=16777216:=rfl;omega),GU]
 rfl
section
variable{ρ:bM}{a b:Den}
theorem fP{f g:Nat->Int}{n k:Nat}(ha:a ρ=some (ak f n))(hb:b ρ=some (ak g k))(h:n+k<=5000):ah cg a b ρ=some (ak (cat f n g) (n+k)):=by
 rw[aG ha hb]
 exact Ek h
theorem dF{it:bX}{e:Den}{F:Nat->PV}{g:Nat->Int}{n:Nat}(hi:it ρ=some ((List.range n).map F))(hn:n<=5000)(he:∀j,j<n->e (.sh (F j)::ρ)=some (.int (g j))):aV it a9 e ρ=some (ak g n):=by
 have hc:gf a9 e ρ ((List.range n).map F)=some ((List.range n).map λj=>PV.int (g j)):=by
  have:∀l:List Nat,(∀j∈l,j<n)->gf a9 e ρ (l.map F)=some (l.map λj=>PV.int (g j)):=by
   intro l
   induction l with
   |nil=>exact λ_=>rfl
   |cons j l ih=>
    intro hl
    rw[List.map_cons,List.map_cons]
    show(e (.sh (F j)::ρ)).bind (λz=>(gf a9 e ρ (l.map F)).map (z::·))=_
    rw[he j (hl j (List.mem_cons_self ..)),ih λx hx=>hl x (List.mem_cons_of_mem _ hx)]
    rfl
  exact this _ λj hj=>List.mem_range.mp hj
 exact jM hi (by rw[List.length_map,List.length_range];have:sizeLine=16777216:=rfl;omega) hc
theorem v5{f:Nat->Int}{n:Nat}(ha:a ρ=some (ak f n)):nList a ρ=some ((List.range n).map λj=>PV.int (f j)):=c8 ha
theorem zG{n:Nat}(ha:a ρ=some (.int (n:Nat)))(hn:n<=5000):cL a ρ=some ((List.range n).map λj=>PV.int (j:Nat)):=by
 rw[jN (j:=(n:Nat)) ha (by unfold kE;simp;omega)]
 unfold cx
 rw[Int.toNat_natCast]
 congr 1
 refine List.map_congr_left λk _=>?_
 rw[Int.zero_add]
theorem og{x:Int}(ha:a ρ=some (.int x)):g9 (ag a ax) ρ=some (ak (λ_=>x) 1):=by
 show((a ρ).bind _).bind _=_
 rw[ha]
 rfl
end
section
variable{m N:Nat}{bf:Nat->Nat->Int}{rf wf:Nat->Int}
noncomputable def j5(m N:Nat)(bf:Nat->Nat->Int):PV:=.lst ((List.range m).map λi=>ak (bf i) N)
noncomputable def lx(m N:Nat)(bf:Nat->Nat->Int)(rf:Nat->Int)(i:Nat):Nat->Int:=cat (cat (bf i) N (λz=>if z=i then 1 else 0)) (N+m) (λ_=>rf i)
theorem Bg(hN:N+m<=900){i:Nat}(hi:i<m)(rows sol:List PV)(hr:rows.length<=1000)(hs:sol.length<=1000)(s6:Slot):bA rows sol [.un,.sh (j5 m N bf),.sh (ak rf m),.sh (ak wf N),.sh (.int (i:Nat)),.sh (ak (bf i) N),s6]=
  some (rows++[ak (lx m N bf rf i) (N+m+1)],sol++[.int ((N+i:Nat):Int)],[.un,.sh (j5 m N bf),.sh (ak rf m),.sh (ak wf N),.sh (.int (i:Nat)),.sh (ak (bf i) N),.sh (ak (λz=>if z=i then 1 else 0) m)]):=by
 have hz:sizeLine=16777216:=rfl
 have e1:aV (cL (aR bH (dV 1))) a9 (aR Ao (ah lA (dV 0) (dV 5))) [.un,.sh (j5 m N bf),.sh (ak rf m),.sh (ak wf N),.sh (.int (i:Nat)),.sh (ak (bf i) N),s6]=some (ak (λz=>if z=i then 1 else 0) m):=by
  refine dF (F:=λj=>.int (j:Nat)) (zG ?_ (by omega)) (by omega) λj hj=>?_
  ·rw[eA (x:=j5 m N bf) rfl]
   show some (PV.int ((List.range m).map λi=>ak (bf i) N).length)=_
   rw[List.length_map,List.length_range]
  ·show(aR Ao (ah lA (dV 0) (dV 5)) _)=_
   rw[eA (x:=.bl (decide (j=i))) (by
    show some (PV.bl (decide (((j:Nat):Int)=((i:Nat):Int))))=_
    congr 2
    exact decide_eq_decide.mpr (by omega))]
   show some (PV.int (if decide (j=i)then 1 else 0))=_
   by_cases h:j=i
   ·rw[decide_eq_true h,if_pos h];rfl
   ·rw[decide_eq_false h,if_neg h];rfl
 generalize hR:([.un,.sh (j5 m N bf),.sh (ak rf m),.sh (ak wf N),.sh (.int (i:Nat)),.sh (ak (bf i) N),.sh (ak (λz=>if z=i then 1 else 0) m)]:bM)=R0
 have e2:ah cg (ah cg (dV 5) (dV 6)) (g9 (ag (ah cS (dV 2) (dV 4)) ax)) R0=some (ak (lx m N bf rf i) (N+m+1)):=by
  subst hR
  exact fP (fP rfl rfl (by omega)) (og (iG (n:=m) (k:=i) rfl rfl hi)) (by omega)
 have e3:ah cg (aR bH (dV 3)) (dV 4) R0=some (.int ((N+i:Nat):Int)):=by
  subst hR
  rw[aG (pS (n:=N) rfl) rfl]
  show some (PV.int ((N:Int)+(i:Int)))=_
  congr 2
 have f1:Fw 6 (aV (cL (aR bH (dV 1))) a9 (aR Ao (ah lA (dV 0) (dV 5)))) rows sol [.un,.sh (j5 m N bf),.sh (ak rf m),.sh (ak wf N),.sh (.int (i:Nat)),.sh (ak (bf i) N),s6]=some (rows,sol,R0):=by
  unfold Fw
  rw[e1,<-hR]
  rfl
 have f2:Fx (ah cg (ah cg (dV 5) (dV 6)) (g9 (ag (ah cS (dV 2) (dV 4)) ax))) rows sol R0=some (rows++[ak (lx m N bf rf i) (N+m+1)],sol,R0):=by
  unfold Fx
  rw[e2]
  show(if rows.length<sizeLine then _ else _)=_
  rw[if_pos (by omega)]
 have f3:Fy (ah cg (aR bH (dV 3)) (dV 4)) (rows++[ak (lx m N bf rf i) (N+m+1)]) sol R0=some (rows++[ak (lx m N bf rf i) (N+m+1)],sol++[.int ((N+i:Nat):Int)],R0):=by
  unfold Fy
  rw[e3]
  show(if sol.length<sizeLine then _ else _)=_
  rw[if_pos (by omega)]
 have sq:∀{a b:jm} {r s:List PV} {ρ:bM} {r' s':List PV} {ρ':bM},a r s ρ=some (r',s',ρ')->Cr a b r s ρ=b r' s' ρ':=λ{a b r s ρ r' s' ρ'} h=>by
  unfold Cr
  rw[h]
  rfl
 unfold bA
 rw[sq f1,sq f2,f3]
theorem yb{i j:Nat}{body:jm}{x:PV}{xs:List PV}{n:Nat}{r s:List PV}{ρ:bM}{r' s':List PV}{ρ':bM}(h:body r s ((ρ.set i (.sh (.int (n:Nat)))).set j (.sh x))=some (r',s',ρ')):nh i j body (x::xs) n r s ρ=nh i j body xs (n+1) r' s' ρ':=by
 show(body r s ((ρ.set i (.sh (.int (n:Nat)))).set j (.sh x))).bind _=_
 rw[h]
 rfl
theorem rK(hN:N+m<=900):∀(q i:Nat) (s4 s5 s6:Slot),i+q=m->∃t4 t5 t6,nh 4 5 bA ((List.range' i q).map λi=>ak (bf i) N) i ((List.range i).map λi=>ak (lx m N bf rf i) (N+m+1)) ((List.range i).map λi=>PV.int ((N+i:Nat):Int)) [.un,.sh (j5 m N bf),.sh (ak rf m),.sh (ak wf N),s4,s5,s6]=
  some ((List.range m).map λi=>ak (lx m N bf rf i) (N+m+1),(List.range m).map λi=>PV.int ((N+i:Nat):Int),[.un,.sh (j5 m N bf),.sh (ak rf m),.sh (ak wf N),t4,t5,t6])
 |0,i,s4,s5,s6,h=>⟨s4,s5,s6,by rw[show i=m by omega];rfl⟩
 |q+1,i,s4,s5,s6,h=>by
  obtain⟨t4,t5,t6,e⟩:=rK hN q (i+1) (.sh (.int (i:Nat))) (.sh (ak (bf i) N)) (.sh (ak (λz=>if z=i then 1 else 0) m)) (by omega)
  refine⟨t4,t5,t6,?_⟩
  rw[List.range'_succ,List.map_cons,<-e]
  have hb:=Bg (m:=m) (N:=N) (bf:=bf) (rf:=rf) (wf:=wf) hN (i:=i) (by omega) ((List.range i).map λi=>ak (lx m N bf rf i) (N+m+1)) ((List.range i).map λi=>PV.int ((N+i:Nat):Int)) (by rw[List.length_map,List.length_range];omega) (by rw[List.length_map,List.length_range];omega) s6
  have hc:=yb (i:=4) (j:=5) (body:=bA) (x:=ak (bf i) N) (xs:=(List.range' (i+1) q).map λi=>ak (bf i) N) (n:=i) (ρ:=[.un,.sh (j5 m N bf),.sh (ak rf m),.sh (ak wf N),s4,s5,s6]) hb
  refine hc.trans ?_
  have e1:((List.range (i+1)).map λi=>ak (lx m N bf rf i) (N+m+1))=((List.range i).map λi=>ak (lx m N bf rf i) (N+m+1))++[ak (lx m N bf rf i) (N+m+1)]:=by rw[List.range_succ,List.map_append];rfl
  have e2:((List.range (i+1)).map λi=>PV.int ((N+i:Nat):Int))=((List.range i).map λi=>PV.int ((N+i:Nat):Int))++[.int ((N+i:Nat):Int)]:=by rw[List.range_succ,List.map_append];rfl
  rw[e1,e2]
theorem GV(hN:N+m<=900):aN [j5 m N bf,ak rf m,ak wf N]=some ⟨(List.range m).map λi=>ak (lx m N bf rf i) (N+m+1),(List.range m).map λi=>PV.int ((N+i:Nat):Int),ak (cat (cat (λj=>-wf j) N (λ_=>0)) (N+m) (λ_=>0)) (N+m+1),.int 1⟩:=by
 unfold aN Kz
 rw[if_pos (show[j5 m N bf,ak rf m,ak wf N].length+1=4 from rfl)]
 show fj [.un,.sh (j5 m N bf),.sh (ak rf m),.sh (ak wf N),.un,.un,.un]=_
 obtain⟨t4,t5,t6,e⟩:=rK (m:=m) (N:=N) (bf:=bf) (rf:=rf) (wf:=wf) hN m 0 .un .un .un (by omega)
 have e0:sX 1 4 5 bA [] [] [.un,.sh (j5 m N bf),.sh (ak rf m),.sh (ak wf N),.un,.un,.un]=some ((List.range m).map λi=>ak (lx m N bf rf i) (N+m+1),(List.range m).map λi=>PV.int ((N+i:Nat):Int),[.un,.sh (j5 m N bf),.sh (ak rf m),.sh (ak wf N),t4,t5,t6]):=by
  show nh 4 5 bA ((List.range m).map λi=>ak (bf i) N) 0 [] [] _=_
  rw[<-List.range_eq_range']at e
  exact e
 unfold fj Jt
 rw[e0]
 have e1:ah cg (ah cg (aV (nList (dV 3)) a9 (aR i4 (dV 0))) (aV (nList (dV 1)) a9 (dC (.int 0)))) (g9 (ag (dC (.int 0)) ax)) [.un,.sh (j5 m N bf),.sh (ak rf m),.sh (ak wf N),t4,t5,t6]=some (ak (cat (cat (λj=>-wf j) N (λ_=>0)) (N+m) (λ_=>0)) (N+m+1)):=
  fP (fP (dF (v5 (n:=N) rfl) (by omega) λj _=>rfl) (dF (F:=λi=>ak (bf i) N) (c8 rfl) (by omega) λj _=>rfl) (by omega)) (og rfl) (by omega)
 show((ah cg (ah cg (aV (nList (dV 3)) a9 (aR i4 (dV 0))) (aV (nList (dV 1)) a9 (dC (.int 0)))) (g9 (ag (dC (.int 0)) ax)) [.un,.sh (j5 m N bf),.sh (ak rf m),.sh (ak wf N),t4,t5,t6]).bind _)=_
 rw[e1]
 rfl
end
theorem pW{f g:Nat->Int}{n:Nat}(h:∀j,j<n->f j=g j):ak f n=ak g n:=by
 unfold ak
 congr 1
 exact List.map_congr_left λj hj=>by rw[h j (List.mem_range.mp hj)]
theorem uy(l:List Nat):pl l=(List.range l.length).map λj=>PV.int (l.getD j 0:Nat):=by
 apply List.ext_getElem?
 intro i
 unfold pl
 rw[List.getElem?_map,List.getElem?_map]
 by_cases h:i<l.length
 ·rw[List.getElem?_range h,List.getElem?_eq_getElem h]
  show some (PV.int (l[i]:Nat))=some (PV.int (l.getD i 0:Nat))
  rw[List.getD_eq_getElem?_getD,List.getElem?_eq_getElem h]
  rfl
 ·rw[List.getElem?_eq_none (by omega),List.getElem?_eq_none (by rw[List.length_range];omega)]
  rfl
theorem Bh(l:List Nat):aa l=ak (λj=>(l.getD j 0:Nat)) l.length:=by
 show PV.lst (pl l)=PV.lst _
 rw[uy]
noncomputable def oh(l:List Nat)(j s:Nat):Int:=if bit (l.getD j 0) s=1 then 1 else 0
theorem hash_eq(g h:Nat):cT [.int (g:Nat),.int (h:Nat)]=some (.bl (decide (bit g h=1))):=xF g h
theorem md{l:List Nat}{s:Nat}(hl:l.length<=100):ba [aa l,.int (s:Nat)]=some (ak (λj=>oh l j s) l.length):=by
 unfold ba
 refine mR rfl ?_
 refine dF (F:=λj=>.int (l.getD j 0:Nat)) ?_ (by omega) λj hj=>?_
 ·rw[Bh]
  exact c8 rfl
 ·rw[eA (x:=.bl (decide (bit (l.getD j 0) s=1))) (by
    rw[bx (ps:=[.int (l.getD j 0:Nat),.int (s:Nat)]) rfl]
    exact hash_eq _ _)]
  show some (PV.int (if decide (bit (l.getD j 0) s=1)then 1 else 0))=_
  unfold oh
  by_cases h:bit (l.getD j 0) s=1
  ·rw[decide_eq_true h,if_pos h];rfl
  ·rw[decide_eq_false h,if_neg h];rfl
section
variable{h:Nat}{l o:List Nat}
noncomputable def jh(h:Nat)(l o:List Nat)(i:Nat):Nat->Int:=if i<h then cat (λj=>oh l j i) l.length (λj=>-oh o j i)else if i=h then cat (λ_=>-1) l.length (λ_=>1)else cat (λ_=>1) l.length (λ_=>0)
theorem v7(hl:l.length<=100)(ho:o.length<=100):∀(q i:Nat) (s4:Slot),i+q<=100->(∀k,k<i+q->k<h)->∃t4,forL (aZ 4) (fm aN ba) ((List.range' i q).map λj=>PV.int (j:Nat)) [.sh (.int (h:Nat)),.sh (aa l),.sh (aa o),.ow ((List.range i).map λi=>ak (jh h l o i) (l.length+o.length)),s4,.un,.un]=
  some (.nx [.sh (.int (h:Nat)),.sh (aa l),.sh (aa o),.ow ((List.range (i+q)).map λi=>ak (jh h l o i) (l.length+o.length)),t4,.un,.un])
 |0,i,s4,_,_=>⟨s4,rfl⟩
 |q+1,i,s4,hq,hh=>by
  have hi:i<h:=hh i (by omega)
  obtain⟨t4,e⟩:=v7 hl ho q (i+1) (.sh (.int (i:Nat))) (by omega) (λk hk=>hh k (by omega))
  refine⟨t4,?_⟩
  rw[show i+(q+1)=i+1+q by omega,<-e,List.range'_succ,List.map_cons]
  have e1:ah cg (aK ba (ag (aQ 1) (ag (aQ 4) ax))) (aV (nList (aK ba (ag (aQ 2) (ag (aQ 4) ax)))) a9 (aR i4 (dV 0))) [.sh (.int (h:Nat)),.sh (aa l),.sh (aa o),.ow ((List.range i).map λi=>ak (jh h l o i) (l.length+o.length)),.sh (.int (i:Nat)),.un,.un]=some (ak (jh h l o i) (l.length+o.length)):=by
   unfold jh
   rw[if_pos hi]
   refine fP ?_ (dF (F:=λj=>.int (oh o j i)) ?_ (by omega) λj _=>rfl) (by omega)
   ·rw[bx (ps:=[aa l,.int (i:Nat)]) rfl]
    exact md hl
   ·refine c8 ?_
    rw[bx (ps:=[aa o,.int (i:Nat)]) rfl]
    exact md ho
  have hb:fm aN ba [.sh (.int (h:Nat)),.sh (aa l),.sh (aa o),.ow ((List.range i).map λi=>ak (jh h l o i) (l.length+o.length)),.sh (.int (i:Nat)),.un,.un]=some (.nx [.sh (.int (h:Nat)),.sh (aa l),.sh (aa o),.ow ((List.range (i+1)).map λi=>ak (jh h l o i) (l.length+o.length)),.sh (.int (i:Nat)),.un,.un]):=by
   unfold fm
   have e2:((List.range (i+1)).map λi=>ak (jh h l o i) (l.length+o.length))=((List.range i).map λi=>ak (jh h l o i) (l.length+o.length))++[ak (jh h l o i) (l.length+o.length)]:=by rw[List.range_succ,List.map_append];rfl
   rw[e2]
   have e3:ag (ah cg (aK ba (ag (aQ 1) (ag (aQ 4) ax))) (aV (nList (aK ba (ag (aQ 2) (ag (aQ 4) ax)))) a9 (aR i4 (dV 0)))) ax [.sh (.int (h:Nat)),.sh (aa l),.sh (aa o),.ow ((List.range i).map λi=>ak (jh h l o i) (l.length+o.length)),.sh (.int (i:Nat)),.un,.un]=some [ak (jh h l o i) (l.length+o.length)]:=by
    show(ah _ _ _ _).bind _=_
    rw[e1]
    rfl
   show(ag _ _ _).bind _=_
   rw[e3]
   show(eF ((List.range i).map λi=>ak (jh h l o i) (l.length+o.length)) [ak (jh h l o i) (l.length+o.length)]).map _=_
   show(if((List.range i).map λi=>ak (jh h l o i) (l.length+o.length)).length<sizeLine then _ else _:Option (List PV)).map _=_
   rw[if_pos (by rw[List.length_map,List.length_range];have:sizeLine=16777216:=rfl;omega)]
   rfl
  show(fm aN ba [.sh (.int (h:Nat)),.sh (aa l),.sh (aa o),.ow ((List.range i).map λi=>ak (jh h l o i) (l.length+o.length)),.sh (.int (i:Nat)),.un,.un]).bind _=_
  rw[hb]
  rfl
theorem El{F:Nat->PV}{n:Nat}:sR ((List.range (n+1)).map F) none (some (-1))=(List.range n).map F:=by
 show(List.drop 0 ((List.range (n+1)).map F)).take ((if(-1:Int)<0 then((-1:Int)+(((List.range (n+1)).map F).length:Nat)).toNat else min (-1:Int).toNat ((List.range (n+1)).map F).length)-0)=_
 rw[List.drop_zero,if_pos (by decide),List.length_map,List.length_range]
 have:((-1:Int)+((n+1:Nat):Int)).toNat-0=n:=by omega
 rw[this,<-List.map_take,List.take_range]
 congr 2
 omega
theorem gE{g:aL}{g':bM->Option Tb}{ρ ρ':bM}(h:g ρ=some (.nx ρ')):eY g g' ρ=g' ρ':=by
 unfold eY
 rw[h]
 rfl
theorem En{ρ:bM}{i:Nat}{f:Den}{l:List PV}{x:PV}(hf:f ρ=some x)(ho:ρ[i]?=some (.ow l))(hl:l.length<=1000):lI i eF (ag f ax) ρ=some (.nx (ρ.set i (.ow (l++[x])))):=by
 show(ag f ax ρ).bind _=_
 have e1:ag f ax ρ=some [x]:=by
  show(f ρ).bind _=_
  rw[hf]
  rfl
 rw[e1]
 have e2:xb ρ i=some l:=by
  unfold xb
  rw[ho]
 show(xb ρ i).bind _=_
 rw[e2]
 show(if l.length<sizeLine then some (l++[x])else none:Option (List PV)).map _=_
 rw[if_pos (by have:sizeLine=16777216:=rfl;omega)]
 rfl
theorem Bi(hh:h<=50)(hl:l.length<=100)(ho:o.length<=100):dy [.int (h:Nat),aa l,aa o]=aN [j5 (h+2) (l.length+o.length) (jh h l o),ak (cat (λ_=>0) (h+1) (λ_=>1)) (h+2),ak (cat (λ_=>0) l.length (λ_=>1)) (l.length+o.length)]:=by
 unfold dy Ky
 rw[if_pos (show[PV.int (h:Nat),aa l,aa o].length=3 from rfl)]
 show kZ aN ba [.sh (.int (h:Nat)),.sh (aa l),.sh (aa o),.un,.un,.un,.un]=_
 unfold kZ
 rw[gE (ρ':=[.sh (.int (h:Nat)),.sh (aa l),.sh (aa o),.ow [],.un,.un,.un]) rfl]
 obtain⟨t4,e⟩:=v7 (h:=h) hl ho h 0 .un (by omega) (λk hk=>by omega)
 rw[Nat.zero_add,<-List.range_eq_range']at e
 have r1:cL (dV 0) [.sh (.int (h:Nat)),.sh (aa l),.sh (aa o),.ow [],.un,.un,.un]=some ((List.range h).map λj=>PV.int (j:Nat)):=zG rfl (by omega)
 rw[gE (by rw[fe r1];exact e)]
 have lp:∀(s3 s4 s5 s6:Slot),nList (dV 1) [.sh (.int (h:Nat)),.sh (aa l),.sh (aa o),s3,s4,s5,s6]=some ((List.range l.length).map λj=>PV.int (l.getD j 0:Nat)):=λ_ _ _ _=>by
  refine(c8 (l:=pl l) rfl).trans ?_
  rw[uy]
 have op:∀(s3 s4 s5 s6:Slot),nList (dV 2) [.sh (.int (h:Nat)),.sh (aa l),.sh (aa o),s3,s4,s5,s6]=some ((List.range o.length).map λj=>PV.int (o.getD j 0:Nat)):=λ_ _ _ _=>by
  refine(c8 (l:=pl o) rfl).trans ?_
  rw[uy]
 have a1:∀s3:Slot,ah cg (aV (nList (dV 1)) a9 (aR i4 (dC (.int 1)))) (aV (nList (dV 2)) a9 (dC (.int 1))) [.sh (.int (h:Nat)),.sh (aa l),.sh (aa o),s3,t4,.un,.un]=some (ak (jh h l o h) (l.length+o.length)):=λs3=>by
  unfold jh
  rw[if_neg (by omega),if_pos rfl]
  exact fP (dF (lp _ _ _ _) (by omega) λj _=>rfl) (dF (op _ _ _ _) (by omega) λj _=>rfl) (by omega)
 have a2:∀s3:Slot,ah cg (aV (nList (dV 1)) a9 (dC (.int 1))) (aV (nList (dV 2)) a9 (dC (.int 0))) [.sh (.int (h:Nat)),.sh (aa l),.sh (aa o),s3,t4,.un,.un]=some (ak (jh h l o (h+1)) (l.length+o.length)):=λs3=>by
  unfold jh
  rw[if_neg (by omega),if_neg (by omega)]
  exact fP (dF (lp _ _ _ _) (by omega) λj _=>rfl) (dF (op _ _ _ _) (by omega) λj _=>rfl) (by omega)
 rw[gE (En (a1 _) rfl (by rw[List.length_map,List.length_range];omega))]
 have m1:((List.range h).map λi=>ak (jh h l o i) (l.length+o.length))++[ak (jh h l o h) (l.length+o.length)]=(List.range (h+1)).map λi=>ak (jh h l o i) (l.length+o.length):=by rw[List.range_succ,List.map_append];rfl
 have m2:((List.range (h+1)).map λi=>ak (jh h l o i) (l.length+o.length))++[ak (jh h l o (h+1)) (l.length+o.length)]=(List.range (h+2)).map λi=>ak (jh h l o i) (l.length+o.length):=by rw[List.range_succ (n:=h+1),List.map_append];rfl
 rw[m1]
 show eY (lI 3 eF _) _ [.sh (.int (h:Nat)),.sh (aa l),.sh (aa o),.ow ((List.range (h+1)).map λi=>ak (jh h l o i) (l.length+o.length)),t4,.un,.un]=_
 rw[gE (En (a2 _) rfl (by rw[List.length_map,List.length_range];omega)),m2]
 show eY (cK 5 _) _ [.sh (.int (h:Nat)),.sh (aa l),.sh (aa o),.ow ((List.range (h+2)).map λi=>ak (jh h l o i) (l.length+o.length)),t4,.un,.un]=_
 have a3:ah cg (aV (nList (Hs (dV 3) oP (nc (aR i4 (dC (.int 1)))))) a9 (dC (.int 0))) (g9 (ag (dC (.int 1)) ax)) [.sh (.int (h:Nat)),.sh (aa l),.sh (aa o),.ow ((List.range (h+2)).map λi=>ak (jh h l o i) (l.length+o.length)),t4,.un,.un]=some (ak (cat (λ_=>0) (h+1) (λ_=>1)) (h+2)):=by
  refine fP (dF (F:=λi=>ak (jh h l o i) (l.length+o.length)) ?_ (by omega) λj _=>rfl) (og rfl) (by omega)
  refine c8 ?_
  show some (PV.lst (sR ((List.range (h+1+1)).map λi=>ak (jh h l o i) (l.length+o.length)) none (some (-1))))=_
  rw[El]
 rw[gE (bT a3)]
 show eY (cK 6 _) _ [.sh (.int (h:Nat)),.sh (aa l),.sh (aa o),.ow ((List.range (h+2)).map λi=>ak (jh h l o i) (l.length+o.length)),t4,.sh (ak (cat (λ_=>0) (h+1) (λ_=>1)) (h+2)),.un]=_
 have a4:ah cg (aV (nList (dV 1)) a9 (dC (.int 0))) (aV (nList (dV 2)) a9 (dC (.int 1))) [.sh (.int (h:Nat)),.sh (aa l),.sh (aa o),.ow ((List.range (h+2)).map λi=>ak (jh h l o i) (l.length+o.length)),t4,.sh (ak (cat (λ_=>0) (h+1) (λ_=>1)) (h+2)),.un]=some (ak (cat (λ_=>0) l.length (λ_=>1)) (l.length+o.length)):=
  fP (dF (lp _ _ _ _) (by omega) λj _=>rfl) (dF (op _ _ _ _) (by omega) λj _=>rfl) (by omega)
 rw[gE (bT a4)]
 rfl
end
section
variable{h:Nat}{l o:List Nat}
noncomputable abbrev de(h:Nat)(l o:List Nat):cU:=tr h l.length o.length (oh l) (oh o)
noncomputable abbrev JL(h:Nat)(l o:List Nat):Nat:=l.length+o.length+(h+2)
noncomputable abbrev Pe(l o:List Nat):Nat->Nat:=λk=>l.length+o.length+k
theorem zH{j s:Nat}(hj:j<l.length):de h l o j s=if s<h then oh l j s else if s=h then-1 else if s=h+1 then 1 else 0:=gQ hj
theorem zJ{j s:Nat}(hj:j<o.length):de h l o (l.length+j) s=if s<h then-oh o j s else if s=h then 1 else if s=h+1 then 0 else if s=h+2 then-1 else 0:=gR hj
theorem v8{k s:Nat}(hk:k<h+2):de h l o (l.length+o.length+k) s=if k=s then 1 else 0:=fg hk
theorem v9{s:Nat}:de h l o (l.length+o.length+(h+2)) s=if s=h+1 then 1 else 0:=ik
theorem GW{i j:Nat}(hi:i<h+2)(hj:j<JL h l o+1):lx (h+2) (l.length+o.length) (jh h l o) (cat (λ_=>0) (h+1) (λ_=>1)) i j=de h l o j i:=by
 unfold lx
 by_cases c1:j<l.length+o.length+(h+2)
 ·show(if j<l.length+o.length+(h+2)then cat (jh h l o i) (l.length+o.length) (λz=>if z=i then 1 else 0) j else _)=_
  rw[if_pos c1]
  by_cases c2:j<l.length+o.length
  ·show(if j<l.length+o.length then jh h l o i j else _)=_
   rw[if_pos c2]
   unfold jh
   by_cases c3:j<l.length
   ·rw[zH c3]
    by_cases d1:i<h
    ·rw[if_pos d1,if_pos d1]
     exact if_pos c3
    ·rw[if_neg d1,if_neg d1]
     by_cases d2:i=h
     ·rw[if_pos d2,if_pos d2]
      exact if_pos c3
     ·rw[if_neg d2,if_neg d2,if_pos (by omega)]
      exact if_pos c3
   ·have ej:j=l.length+(j-l.length):=by omega
    have et:de h l o j i=de h l o (l.length+(j-l.length)) i:=by rw[<-ej]
    rw[et,zJ (by omega)]
    by_cases d1:i<h
    ·rw[if_pos d1,if_pos d1]
     exact if_neg c3
    ·rw[if_neg d1,if_neg d1]
     by_cases d2:i=h
     ·rw[if_pos d2,if_pos d2]
      exact if_neg c3
     ·rw[if_neg d2,if_neg d2,if_pos (by omega)]
      exact if_neg c3
  ·show(if j<l.length+o.length then jh h l o i j else if j-(l.length+o.length)=i then 1 else 0)=_
   rw[if_neg c2]
   have ej:j=l.length+o.length+(j-(l.length+o.length)):=by omega
   have et:de h l o j i=de h l o (l.length+o.length+(j-(l.length+o.length))) i:=by rw[<-ej]
   rw[et,v8 (by omega)]
 ·show(if j<l.length+o.length+(h+2)then _ else cat (λ_=>0) (h+1) (λ_=>1) i)=_
  rw[if_neg c1]
  have kF:j<l.length+o.length+(h+2)+1:=hj
  have ej:j=l.length+o.length+(h+2):=by omega
  rw[ej,v9]
  show(if i<h+1 then(0:Int)else 1)=_
  by_cases d1:i=h+1
  ·rw[if_neg (by omega),if_pos d1]
  ·rw[if_pos (by omega),if_neg d1]
theorem Eo{j:Nat}(hj:j<JL h l o+1):cat (cat (λj=>-cat (λ_=>0) l.length (λ_=>1) j) (l.length+o.length) (λ_=>0)) (l.length+o.length+(h+2)) (λ_=>0) j=de h l o j (h+2):=by
 by_cases c1:j<l.length+o.length+(h+2)
 ·show(if j<l.length+o.length+(h+2)then cat (λj=>-cat (λ_=>0) l.length (λ_=>1) j) (l.length+o.length) (λ_=>0) j else 0)=_
  rw[if_pos c1]
  by_cases c2:j<l.length+o.length
  ·show(if j<l.length+o.length then-cat (λ_=>0) l.length (λ_=>1) j else 0)=_
   rw[if_pos c2]
   by_cases c3:j<l.length
   ·rw[zH c3,if_neg (by omega),if_neg (by omega),if_neg (by omega)]
    show-(if j<l.length then(0:Int)else 1)=0
    rw[if_pos c3]
    rfl
   ·have ej:j=l.length+(j-l.length):=by omega
    have et:de h l o j (h+2)=de h l o (l.length+(j-l.length)) (h+2):=by rw[<-ej]
    rw[et,zJ (by omega),if_neg (by omega),if_neg (by omega),if_neg (by omega),if_pos rfl]
    show-(if j<l.length then(0:Int)else 1)=-1
    rw[if_neg c3]
  ·show(if j<l.length+o.length then-cat (λ_=>0) l.length (λ_=>1) j else 0)=_
   rw[if_neg c2]
   have ej:j=l.length+o.length+(j-(l.length+o.length)):=by omega
   have et:de h l o j (h+2)=de h l o (l.length+o.length+(j-(l.length+o.length))) (h+2):=by rw[<-ej]
   rw[et,v8 (by omega),if_neg (by omega)]
 ·show(if j<l.length+o.length+(h+2)then _ else(0:Int))=_
  rw[if_neg c1]
  have kF:j<l.length+o.length+(h+2)+1:=hj
  have ej:j=l.length+o.length+(h+2):=by omega
  rw[ej,v9,if_neg (by omega)]
theorem Ep(hh:h<=50)(hl:l.length<=100)(ho:o.length<=100):dy [.int (h:Nat),aa l,aa o]=some (fZ (de h l o) (h+2) (JL h l o) (Pe l o)):=by
 rw[Bi hh hl ho,GV (by omega)]
 obtain⟨_,hd,hT⟩:=pE (h:=h) (a:=l.length) (b:=o.length) (one:=oh l) (oth:=oh o)
 unfold fZ eh
 congr 2
 ·refine List.map_congr_left λi hi=>?_
  have L3:=List.mem_range.mp hi
  exact pW λj hj=>by rw[GW L3 hj,hT i j (by omega)]
 ·exact pW λj hj=>by rw[Eo hj,hT (h+2) j (by omega)]
 ·rw[hd]
theorem settled(hh:h<=6)(hl:l.length<=64)(ho:o.length<=64):∃sol,Tab (de h l o) (h+2) sol/\l7 (de h l o) (h+2) (JL h l o) sol/\(∀k,k<h+2->sol k<JL h l o)/\(∀j,j<JL h l o->0<=T (de h l o) (h+2) sol (h+2) j)/\(∀(sol:Nat->Nat) i j,(T (de h l o) (h+2) sol i j).natAbs<=362880)/\
  bG (fZ (de h l o) (h+2) (JL h l o) (Pe l o)) []=some (fZ (de h l o) (h+2) (JL h l o) sol):=by
 have b1:∀(l:List Nat) j s,0<=oh l j s/\oh l j s<=1:=λl j s=>by unfold oh;split<;>decide
 have ab:∀j s,(de h l o j s).natAbs<=1:=λj s=>Ka (λj s _ _=>b1 l j s) (λj s _ _=>b1 o j s) j s
 have f9:fact (h+2+1)<=362880:=by
  have:∀k,k<=6->fact (k+2+1)<=362880:=by decide
  exact this h hh
 have hb:∀(sol:Nat->Nat) i j,(T (de h l o) (h+2) sol i j).natAbs<=362880:=λsol i j=>Nat.le_trans (HG (λj s _=>ab j s) i j).1 f9
 have hd:∀sol:Nat->Nat,(dt (de h l o) (h+2) sol).natAbs<=362880:=λsol=>Nat.le_trans (HG (sol:=sol) (λj s _=>ab j s) 0 0).2 f9
 have hp:JL h l o^(h+2)<1000000000000000000:=by
  have h1:JL h l o^(h+2)<=136^(h+2):=Nat.pow_le_pow_left (by show l.length+o.length+(h+2)<=136;omega) _
  have h2:136^(h+2)<=136^8:=Nat.pow_le_pow_right (by decide) (by omega)
  have h3:136^8<1000000000000000000:=by decide
  omega
 obtain⟨sol,g1,g2,g3,g4,g5⟩:=Ej (A:=de h l o) (m:=h+2) (J:=JL h l o) (s0:=Pe l o) pE.1 GC (λk hk=>by show l.length+o.length+k<l.length+o.length+(h+2);omega) (λsol X hs c hc neg=>J9 X hs hc neg) (by show l.length+o.length+(h+2)<=900;omega) (by omega)
  (λsol i j=>by have:=hb sol i j;exact⟨by omega,by omega⟩) (λsol=>by have:=hd sol;omega) hp
 exact⟨sol,g1,g2,g3,g4,hb,g5⟩
end
section
variable{A:cU}{m J:Nat}{sol:Nat->Nat}
theorem gD{F:Nat->Int}:∀l:List Nat,eo (l.map λj=>PV.int (F j))=some (l.map F)
 |[]=>rfl
 |x::l=>by
  show(eo (l.map λj=>PV.int (F j))).map _=_
  rw[gD l]
  rfl
theorem zK{F:Nat->Int}{x:Int}:∀l:List Nat,yF (.int x) (l.map λj=>PV.int (F j))=l.any λj=>F j==x
 |[]=>rfl
 |y::l=>by
  show(LU (.int (F y)) (.int x)||yF (.int x) (l.map λj=>PV.int (F j)))=_
  rw[zK l]
  rfl
theorem zM{F:Nat->Int}{x:Int}:∀(m i:Nat),(∃k,i<=k/\k<i+m/\F k=x)->∃k,i<=k/\k<i+m/\F k=x/\jH x ((List.range' i m).map F)=k-i
 |0,i,h=>by obtain⟨k,h1,h2,_⟩:=h;omega
 |m+1,i,h=>by
  rw[List.range'_succ,List.map_cons]
  by_cases c:F i=x
  ·exact⟨i,Nat.le_refl _,by omega,c,by unfold jH;rw[if_pos c];omega⟩
  ·obtain⟨k,h1,h2,h3⟩:=h
   have hk:k≠i:=λz=>c (z▸h3)
   obtain⟨q,g1,g2,g3,g4⟩:=zM (F:=F) (x:=x) m (i+1) ⟨k,by omega,by omega,h3⟩
   refine⟨q,by omega,by omega,g3,?_⟩
   unfold jH
   rw[if_neg c,g4]
   omega
theorem Er(X:Tab A m sol)(hm:m<=1000)(j:Nat):bE [cX (fZ A m J sol),.int (j:Nat)]=some (.int (rE A m J sol j)):=by
 unfold bE
 refine gh rfl ?_
 show gT [.sh (cX (fZ A m J sol)),.sh (.int (j:Nat))]=_
 unfold gT
 have es:aR (bY fC "solved") (dV 0) [.sh (cX (fZ A m J sol)),.sh (.int (j:Nat))]=some (.lst ((List.range m).map λk=>PV.int (sol k:Nat))):=zA (t:=fZ A m J sol) rfl
 have af:((List.range m).map λk=>PV.int (sol k:Nat)).all flat=true:=by
  rw[List.all_eq_true]
  intro x hx
  obtain⟨k,_,rfl⟩:=List.mem_map.mp hx
  rfl
 have e1:tV (ah jA (dV 1) (aR (bY fC "solved") (dV 0))) [.sh (cX (fZ A m J sol)),.sh (.int (j:Nat))]=some (!((List.range m).any λk=>((sol k:Nat):Int)==((j:Nat):Int))):=dE (by
  rw[aG (x:=.int (j:Nat)) rfl es]
  show(if(flat (.int (j:Nat))&&((List.range m).map λk=>PV.int (sol k:Nat)).all flat)=true then some (PV.bl (!yF (.int (j:Nat)) ((List.range m).map λk=>PV.int (sol k:Nat))))else none)=_
  rw[af,if_pos (show(flat (PV.int (j:Nat))&&true)=true from rfl),zK (F:=λk=>((sol k:Nat):Int))])
 by_cases c:∃k,k<m/\sol k=j
 ·obtain⟨k,hk,OW⟩:=c
  have ha:((List.range m).any λk=>((sol k:Nat):Int)==((j:Nat):Int))=true:=by
   rw[List.any_eq_true]
   exact⟨k,List.mem_range.mpr hk,by rw[OW];simp⟩
  rw[ha]at e1
  rw[aU (by rw[gN e1];rfl)]
  refine gA ?_
  obtain⟨q,g1,g2,g3,g4⟩:=zM (F:=λk=>((sol k:Nat):Int)) (x:=((j:Nat):Int)) m 0 ⟨k,by omega,by omega,by show((sol k:Nat):Int)=_;rw[OW]⟩
  have hq:sol q=j:=by
   have:((sol q:Nat):Int)=((j:Nat):Int):=g3
   omega
  have e2:ah sT (aR (bY fC "solved") (dV 0)) (dV 1) [.sh (cX (fZ A m J sol)),.sh (.int (j:Nat))]=some (.int (q:Nat)):=by
   rw[aG (y:=.int (j:Nat)) es rfl]
   show(eo ((List.range m).map λk=>PV.int (sol k:Nat))).bind _=_
   rw[gD (F:=λk=>((sol k:Nat):Int))]
   show(if((j:Nat):Int)∈(List.range m).map (λk=>((sol k:Nat):Int))then some (PV.int (jH ((j:Nat):Int) ((List.range m).map λk=>((sol k:Nat):Int)):Nat))else none)=_
   rw[if_pos (List.mem_map.mpr ⟨q,List.mem_range.mpr (by omega),by show((sol q:Nat):Int)=_;rw[hq]⟩),List.range_eq_range',g4]
   rfl
  rw[<-hq,J8 X (by omega),hq]
  exact uw (n:=J+1) (jf (tf:=T A m sol) rfl e2 (by omega)) (by omega)
 ·have ha:((List.range m).any λk=>((sol k:Nat):Int)==((j:Nat):Int))=false:=by
    rw[List.any_eq_false]
    intro k hk
    have:sol k≠j:=λz=>c ⟨k,List.mem_range.mp hk,z⟩
    simp
    omega
  rw[ha]at e1
  rw[lX (by rw[lY e1];rfl),vH λk hk z=>c ⟨k,hk,z⟩]
noncomputable def Es(A:cU)(m J:Nat)(sol:Nat->Nat)(l:List Nat)(st:Nat):List Nat:=(List.range l.length).filter λj=>decide (0<rE A m J sol (st+j))
noncomputable def mY(A:cU)(m J:Nat)(sol:Nat->Nat)(l:List Nat)(st j:Nat):PV:=.tup [.int (l.getD j 0:Nat),.int (rE A m J sol (st+j))]
theorem wa{F:Nat->PV}:∀(n i:Nat),jF i ((List.range' i n).map F)=(List.range' i n).map λj=>PV.tup [.int (j:Nat),F j]
 |0,_=>rfl
 |n+1,i=>by
  rw[List.range'_succ,List.map_cons,List.map_cons]
  show PV.tup [.int (i:Nat),F i]::jF (i+1) _=_
  rw[wa n (i+1)]
theorem wb(X:Tab A m sol)(hm:m<=1000){l:List Nat}(hl:l.length<=100)(st:Nat):cW [cX (fZ A m J sol),aa l,.int (st:Nat)]=some (.lst ((Es A m J sol l st).map (mY A m J sol l st))):=by
 unfold cW
 refine gh rfl ?_
 show k0 bE [.sh (cX (fZ A m J sol)),.sh (aa l),.sh (.int (st:Nat)),.un]=_
 unfold k0
 have e0:yJ (dV 1) [.sh (cX (fZ A m J sol)),.sh (aa l),.sh (.int (st:Nat)),.un]=some ((List.range l.length).map λj=>PV.tup [.int (j:Nat),.int (l.getD j 0:Nat)]):=by
  show some (jF 0 (pl l))=_
  rw[uy,List.range_eq_range',wa]
 have e1:jG (yJ (dV 1)) (Al (ag (aQ 1) (ag (dD (hV bE) (aQ 2) (ag (ah cg (dV 4) (dV 0)) ax)) ax))) [.sh (cX (fZ A m J sol)),.sh (aa l),.sh (.int (st:Nat)),.un]=some (.lst ((List.range l.length).map (mY A m J sol l st))):=by
  unfold jG
  rw[e0]
  show(if((List.range l.length).map λj=>PV.tup [.int (j:Nat),.int (l.getD j 0:Nat)]).length<=sizeLine then _ else _)=_
  rw[if_pos (by rw[List.length_map,List.length_range];have:sizeLine=16777216:=rfl;omega),lu (u:=λj=>.int (j:Nat)) (v:=λj=>.int (l.getD j 0:Nat)) (f:=mY A m J sol l st) (List.range l.length) λj hj=>?_]
  ·rfl
  ·have a1:dD (hV bE) (aQ 2) (ag (ah cg (dV 4) (dV 0)) ax) (.sh (.int (j:Nat))::.sh (.int (l.getD j 0:Nat))::[.sh (cX (fZ A m J sol)),.sh (aa l),.sh (.int (st:Nat)),.un])=some (.int (rE A m J sol (st+j))):=by
     rw[ku (t:=fZ A m J sol) (xs:=[.int ((st+j:Nat):Int)]) rfl rfl]
     exact Er X hm (st+j)
   show((ag _ _ _).bind _)=_
   have a2:ag (aQ 1) (ag (dD (hV bE) (aQ 2) (ag (ah cg (dV 4) (dV 0)) ax)) ax) (.sh (.int (j:Nat))::.sh (.int (l.getD j 0:Nat))::[.sh (cX (fZ A m J sol)),.sh (aa l),.sh (.int (st:Nat)),.un])=some [.int (l.getD j 0:Nat),.int (rE A m J sol (st+j))]:=by
    refine dS rfl ?_
    exact dS a1 rfl
   rw[a2]
   rfl
 rw[aU (bT e1)]
 show bu _ [.sh (cX (fZ A m J sol)),.sh (aa l),.sh (.int (st:Nat)),.sh (.lst ((List.range l.length).map (mY A m J sol l st)))]=_
 refine gA (jM (c8 rfl) (by rw[List.length_map,List.length_range];have:sizeLine=16777216:=rfl;omega) ?_)
 have:∀(ρ:bM) (q:List Nat),gf (tV (ah Hr (ah cS (dV 0) (dC (.int 1))) (dC (.int 0)))) (aQ 0) ρ (q.map (mY A m J sol l st))=some ((q.filter λj=>decide (0<rE A m J sol (st+j))).map (mY A m J sol l st)):=by
  intro ρ q
  induction q with
  |nil=>rfl
  |cons j q ih=>
   rw[List.map_cons]
   show((some (decide (0<rE A m J sol (st+j)))).bind λb=>if b then(some (mY A m J sol l st j)).bind λz=>(gf _ _ ρ (q.map (mY A m J sol l st))).map (z::·)else gf _ _ ρ (q.map (mY A m J sol l st)))=_
   rw[ih]
   by_cases c:0<rE A m J sol (st+j)
   ·rw[List.filter_cons_of_pos (by rw[decide_eq_true c]),decide_eq_true c]
    rfl
   ·rw[List.filter_cons_of_neg (by rw[decide_eq_false c];simp),decide_eq_false c]
    rfl
 exact this _ _
end
section
variable{c:Nat}{l:List Nat}
theorem GX{c:Nat}(c6:c<=6){l:List Nat}(n:l.length<=64):∃r,iB c r/\(∀g,g<2^c->Mt.lets r g=meets l g)/\eL [.int c,aa l]=some (aa r):=vF c6 n
theorem yc(c6:c<=6)(n:l.length<=64):∃r,iB c r/\(∀g,g<2^c->Mt.lets r g=meets l g)/\bI [.int (c:Nat),aa l]=some (aa (r.map λg=>2^c-1-g)):=by
 obtain⟨r,h1,h2,h3⟩:=GX c6 n
 refine⟨r,h1,h2,?_⟩
 unfold bI
 refine gh rfl ?_
 show eM eL [.sh (.int (c:Nat)),.sh (aa l),.un]=_
 unfold eM
 have e1:ah rX (ah qk (dC (.int 1)) (dV 0)) (dC (.int 1)) [.sh (.int (c:Nat)),.sh (aa l),.un]=some (.int (((2^c-1:Nat):Nat):Int)):=by
  rw[aG (by rw[aG (x:=.int 1) (y:=.int (c:Nat)) rfl rfl];exact nZ c c6) rfl]
  show some (PV.int (((2^c:Nat):Int)-1))=_
  have:0<2^c:=Nat.pow_pos (by decide)
  congr 2
  omega
 rw[aU (bT e1)]
 show bu _ [.sh (.int (c:Nat)),.sh (aa l),.sh (.int (((2^c-1:Nat):Nat):Int))]=_
 refine gA ?_
 have e2:nList (aK eL (ag (aQ 0) (ag (aQ 1) ax))) [.sh (.int (c:Nat)),.sh (aa l),.sh (.int (((2^c-1:Nat):Nat):Int))]=some (pl r):=c8 (by
  rw[bx (ps:=[.int (c:Nat),aa l]) rfl]
  exact h3)
 have hlen:=h1.len
 rw[gP (l:=r) (f:=λn=>.int ((2^c-1-n:Nat):Int)) e2 (by have:sizeLine=16777216:=rfl;omega) λg hg=>?_]
 ·exact congrArg some (mT (λn=>2^c-1-n) r)
 ·rw[aG (x:=.int (((2^c-1:Nat):Nat):Int)) (y:=.int (g:Nat)) rfl rfl]
  have hs:g<2^c:=h1.lt g hg
  show some (PV.int ((((2^c-1:Nat):Nat):Int)-((g:Nat):Int)))=_
  congr 2
  omega
theorem Ki{F:Nat->PV}{n k:Nat}(h:k<=n):sR ((List.range n).map F) (some (k:Nat)) none=(List.range (n-k)).map λj=>F (k+j):=by
 show(List.drop (if((k:Nat):Int)<0 then(((k:Nat):Int)+(((List.range n).map F).length:Nat)).toNat else min ((k:Nat):Int).toNat ((List.range n).map F).length) ((List.range n).map F)).take (((List.range n).map F).length-(if((k:Nat):Int)<0 then(((k:Nat):Int)+(((List.range n).map F).length:Nat)).toNat else min ((k:Nat):Int).toNat ((List.range n).map F).length))=_
 rw[if_neg (by omega),List.length_map,List.length_range,Int.toNat_natCast,Nat.min_eq_left h]
 apply List.ext_getElem?
 intro i
 rw[List.getElem?_take,List.getElem?_drop,List.getElem?_map,List.getElem?_map]
 by_cases hi:i<n-k
 ·rw[if_pos hi,List.getElem?_range (by omega),List.getElem?_range hi]
  rfl
 ·rw[if_neg hi,List.getElem?_eq_none (by rw[List.length_range];omega)]
  rfl
theorem Kj{F:Nat->PV}{n k:Nat}(h:k<=n):sR ((List.range n).map F) none (some (k:Nat))=(List.range k).map F:=by
 show(List.drop 0 ((List.range n).map F)).take ((if((k:Nat):Int)<0 then(((k:Nat):Int)+(((List.range n).map F).length:Nat)).toNat else min ((k:Nat):Int).toNat ((List.range n).map F).length)-0)=_
 rw[if_neg (by omega),List.length_map,List.length_range,Int.toNat_natCast,Nat.min_eq_left h,Nat.sub_zero,List.drop_zero,<-List.map_take,List.take_range,Nat.min_eq_left h]
theorem wc{g:aL}{g':iN}{ρ ρ':bM}(h:g ρ=some (.nx ρ')):vb g g' ρ=g' ρ':=by
 unfold vb
 rw[h]
 rfl
theorem Kk{a:Den}{lo hi:Am}{ρ:bM}{xs:List PV}{l h:Option Int}(ha:a ρ=some (.lst xs))(hl:lo ρ=some l)(hh:hi ρ=some h):Hs a lo hi ρ=some (.lst (sR xs l h)):=by
 show(a ρ).bind _=_
 rw[ha]
 show(lo ρ).bind _=_
 rw[hl]
 show(hi ρ).bind _=_
 rw[hh]
 rfl
theorem MI{t:cD}{a b:iN}{ρ:bM}(h:t ρ=some true):Js t a b ρ=a ρ:=by
 unfold Js
 rw[h]
 rfl
theorem MJ{t:cD}{a b:iN}{ρ:bM}(h:t ρ=some false):Js t a b ρ=b ρ:=by
 unfold Js
 rw[h]
 rfl
theorem Bj{i:Nat}{FT:List PV->Option Tb}{FS:Tb->List PV->Option Tb}{as:bX}{rest:iN}{ρ:bM}{ps:List PV}{t t':Tb}(h1:as ρ=some ps)(h2:FT ps=some t)(h3:FS t []=some t')(hi:i<ρ.length):oR i FT FS as rest ρ=rest (ρ.set i (.sh (cX t'))):=by
 unfold oR
 rw[h1]
 show(FT ps).bind _=_
 rw[h2]
 show(FS t []).bind _=_
 rw[h3]
 show(if i<ρ.length then _ else _)=_
 rw[if_pos hi]
noncomputable def yd(c:Nat)(l o:List Nat)(sol:Nat->Nat):PV:=
 if 0<T (de c l o) (c+2) sol (c+2) (JL c l o)then .tup [.bl false,.tup [.lst ((Es (de c l o) (c+2) (JL c l o) sol l 0).map (mY (de c l o) (c+2) (JL c l o) sol l 0)),.lst ((Es (de c l o) (c+2) (JL c l o) sol o l.length).map (mY (de c l o) (c+2) (JL c l o) sol o l.length))]]
 else .tup [.bl true,.tup [ak (λs=>T (de c l o) (c+2) sol (c+2) (l.length+o.length+s)) c,.int (T (de c l o) (c+2) sol (c+2) (l.length+o.length+c))]]
theorem Et(c6:c<=6)(n:l.length<=64):∃r sol,iB c r/\(∀g,g<2^c->Mt.lets r g=meets l g)/\Tab (de c l (r.map λg=>2^c-1-g)) (c+2) sol/\l7 (de c l (r.map λg=>2^c-1-g)) (c+2) (JL c l (r.map λg=>2^c-1-g)) sol/\
  (∀k,k<c+2->sol k<JL c l (r.map λg=>2^c-1-g))/\(∀j,j<JL c l (r.map λg=>2^c-1-g)->0<=T (de c l (r.map λg=>2^c-1-g)) (c+2) sol (c+2) j)/\(∀(sol:Nat->Nat) i j,(T (de c l (r.map λg=>2^c-1-g)) (c+2) sol i j).natAbs<=362880)/\
  fq [.int (c:Nat),aa l]=some (yd c l (r.map λg=>2^c-1-g) sol):=by
 obtain⟨r,h1,h2,h3⟩:=yc c6 n
 have hr:=h1.len
 generalize ho:r.map (λg=>2^c-1-g)=o at h3
 have R4:o.length<=64:=by rw[<-ho,List.length_map];exact hr
 obtain⟨sol,X,F,hs,fin,hb,e⟩:=settled (h:=c) (l:=l) (o:=o) c6 n R4
 refine⟨r,sol,h1,h2,?_⟩
 rw[ho]
 refine⟨X,F,hs,fin,hb,?_⟩
 unfold fq Kx
 rw[if_pos (show[PV.int (c:Nat),aa l].length=2 from rfl)]
 show ud bI dy bG cW [.sh (.int (c:Nat)),.sh (aa l),.un,.un,.un]=_
 unfold ud
 rw[wc (bT (by rw[bx (ps:=[.int (c:Nat),aa l]) rfl];exact h3))]
 show oR 3 dy bG _ _ [.sh (.int (c:Nat)),.sh (aa l),.sh (aa o),.un,.un]=_
 rw[Bj (ρ:=[.sh (.int (c:Nat)),.sh (aa l),.sh (aa o),.un,.un]) (ps:=[.int (c:Nat),aa l,aa o]) rfl (Ep (by omega) (by omega) (by omega)) e (show(3:Nat)<5 by decide)]
 show Js _ _ _ [.sh (.int (c:Nat)),.sh (aa l),.sh (aa o),.sh (cX (fZ (de c l o) (c+2) (JL c l o) sol)),.un]=_
 have ec:aR (bY fC "costs") (dV 3) [.sh (.int (c:Nat)),.sh (aa l),.sh (aa o),.sh (cX (fZ (de c l o) (c+2) (JL c l o) sol)),.un]=some (ak (T (de c l o) (c+2) sol (c+2)) (JL c l o+1)):=mW (t:=fZ (de c l o) (c+2) (JL c l o) sol) rfl
 have e1:tV (ah Hr (ah cS (aR (bY fC "costs") (dV 3)) (aR i4 (dC (.int 1)))) (dC (.int 0))) [.sh (.int (c:Nat)),.sh (aa l),.sh (aa o),.sh (cX (fZ (de c l o) (c+2) (JL c l o) sol)),.un]=some (decide (0<T (de c l o) (c+2) sol (c+2) (JL c l o))):=dE (by
  rw[aG (uw ec (by omega)) rfl]
  rfl)
 have ll:∀(l:List Nat),bH (aa l)=some (.int (l.length:Nat)):=λl=>by
  show some (PV.int ((pl l).length:Nat))=_
  rw[dI]
 unfold yd
 by_cases q:0<T (de c l o) (c+2) sol (c+2) (JL c l o)
 ·rw[decide_eq_true q]at e1
  rw[MI e1,if_pos q]
  unfold Ap
  have t1:aK cW (ag (aQ 3) (ag (aQ 1) (ag (dC (.int 0)) ax))) [.sh (.int (c:Nat)),.sh (aa l),.sh (aa o),.sh (cX (fZ (de c l o) (c+2) (JL c l o) sol)),.un]=some (.lst ((Es (de c l o) (c+2) (JL c l o) sol l 0).map (mY (de c l o) (c+2) (JL c l o) sol l 0))):=by
   rw[bx (ps:=[cX (fZ (de c l o) (c+2) (JL c l o) sol),aa l,.int ((0:Nat):Int)]) rfl]
   exact wb X (by omega) (by omega) 0
  have t2:aK cW (ag (aQ 3) (ag (aQ 2) (ag (aR bH (dV 1)) ax))) [.sh (.int (c:Nat)),.sh (aa l),.sh (aa o),.sh (cX (fZ (de c l o) (c+2) (JL c l o) sol)),.un]=some (.lst ((Es (de c l o) (c+2) (JL c l o) sol o l.length).map (mY (de c l o) (c+2) (JL c l o) sol o l.length))):=by
   rw[bx (ps:=[cX (fZ (de c l o) (c+2) (JL c l o) sol),aa o,.int (l.length:Nat)]) (dS rfl (dS rfl (dS (by rw[eA (x:=aa l) rfl];exact ll l) rfl)))]
   exact wb X (by omega) (by omega) l.length
  rw[t1,t2]
  rfl
 ·rw[decide_eq_false q]at e1
  rw[MJ e1,if_neg q]
  have s1:Hs (aR (bY fC "costs") (dV 3)) (nc (ah cg (aR bH (dV 1)) (aR bH (dV 2)))) oP [.sh (.int (c:Nat)),.sh (aa l),.sh (aa o),.sh (cX (fZ (de c l o) (c+2) (JL c l o) sol)),.un]=some (.lst ((List.range (c+3)).map λs=>PV.int (T (de c l o) (c+2) sol (c+2) (l.length+o.length+s)))):=by
   have e2:ah cg (aR bH (dV 1)) (aR bH (dV 2)) [.sh (.int (c:Nat)),.sh (aa l),.sh (aa o),.sh (cX (fZ (de c l o) (c+2) (JL c l o) sol)),.un]=some (.int ((l.length+o.length:Nat):Int)):=by
    rw[aG (by rw[eA (x:=aa l) rfl];exact ll l) (by rw[eA (x:=aa o) rfl];exact ll o)]
    rfl
   have e3:nc (ah cg (aR bH (dV 1)) (aR bH (dV 2))) [.sh (.int (c:Nat)),.sh (aa l),.sh (aa o),.sh (cX (fZ (de c l o) (c+2) (JL c l o) sol)),.un]=some (some ((l.length+o.length:Nat):Int)):=by
    show(ah cg _ _ _).bind _=_
    rw[e2]
    rfl
   rw[Kk (h:=none) ec e3 rfl]
   rw[Ki (by show l.length+o.length<=l.length+o.length+(c+2)+1;omega),show JL c l o+1-(l.length+o.length)=c+3 by show l.length+o.length+(c+2)+1-(l.length+o.length)=c+3;omega]
  rw[wc (bT s1)]
  show Ap true _ _ [.sh (.int (c:Nat)),.sh (aa l),.sh (aa o),.sh (cX (fZ (de c l o) (c+2) (JL c l o) sol)),.sh (.lst ((List.range (c+3)).map λs=>PV.int (T (de c l o) (c+2) sol (c+2) (l.length+o.length+s))))]=_
  unfold Ap
  have s2:Hs (dV 4) oP (nc (dV 0)) [.sh (.int (c:Nat)),.sh (aa l),.sh (aa o),.sh (cX (fZ (de c l o) (c+2) (JL c l o) sol)),.sh (.lst ((List.range (c+3)).map λs=>PV.int (T (de c l o) (c+2) sol (c+2) (l.length+o.length+s))))]=some (ak (λs=>T (de c l o) (c+2) sol (c+2) (l.length+o.length+s)) c):=by
   show some (PV.lst (sR ((List.range (c+3)).map λs=>PV.int (T (de c l o) (c+2) sol (c+2) (l.length+o.length+s))) none (some (c:Nat))))=_
   rw[Kj (by omega)]
   rfl
  have s3:ah cS (dV 4) (dV 0) [.sh (.int (c:Nat)),.sh (aa l),.sh (aa o),.sh (cX (fZ (de c l o) (c+2) (JL c l o) sol)),.sh (.lst ((List.range (c+3)).map λs=>PV.int (T (de c l o) (c+2) sol (c+2) (l.length+o.length+s))))]=some (.int (T (de c l o) (c+2) sol (c+2) (l.length+o.length+c))):=iG (n:=c+3) (f:=λs=>T (de c l o) (c+2) sol (c+2) (l.length+o.length+s)) (k:=c) rfl rfl (by omega)
  rw[s2,s3]
  rfl
end
theorem Bk(i:Int):bp [.int i]=some (.bl true):=rfl
theorem MK:sQ (.int 10) (.int 60)=some (.int (10^60)):=by
 show(if m9 10 60 then some (PV.int ((10:Int)^(60:Int).toNat))else none)=_
 rw[if_pos (by decide)]
 rfl
section
variable{c:Nat}{l:List Nat}{w:Nat->Int}{mk:Int}
theorem Bm{x:Int}(s0 s1 s2 s4 s5:Slot)(h0:0<=x)(h1:x<1000000):fO bB bp ao [s0,s1,s2,.sh (.int x),s4,s5]=some (.nx [s0,s1,s2,.sh (.int x),s4,s5]):=by
 unfold fO
 have e1:tV (aK bp (ag (aQ 3) ax)) [s0,s1,s2,.sh (.int x),s4,s5]=some true:=dE (Bk x)
 have e2:tV (ah mG (dV 3) (dC (.int 0))) [s0,s1,s2,.sh (.int x),s4,s5]=some false:=dE (by
  show some (PV.bl (decide (x<0)))=_
  rw[decide_eq_false (by omega)])
 have e3:tV (ah Jq (dV 3) (ah sQ (dC (.int 10)) (dC (.int 60)))) [s0,s1,s2,.sh (.int x),s4,s5]=some false:=dE (by
  rw[aG (x:=.int x) rfl MK]
  show some (PV.bl (decide ((10:Int)^60<=x)))=_
  rw[decide_eq_false (by omega)])
 rw[gN (by rw[nv (by rw[zf e1];rfl),nv e2,e3])]
 rfl
theorem zN{g:Nat}(h:g<64):ao [.int (g:Nat)]=some (aa (Mt.bR g)):=rg g h
theorem Km(l:List Nat)(g:Nat):bB [aa l,.int (g:Nat)]=some (.bl (Mt.lets l g)):=Dr l g
theorem Bn{g:Nat}(hg:g<64)(hc:∀s∈Mt.bR g,s<c)(hw:∀s,s<c->0<=w s/\w s<1000000)(s0 s1 s3 s5:Slot):aR Cp (aV (nList (aK ao (ag (aQ 4) ax))) a9 (ah cS (ah cS (dV 3) (dC (.int 0))) (dV 0))) [s0,s1,.sh (.tup [ak w c,.int mk]),s3,.sh (.int (g:Nat)),s5]=some (.int ((Mt.bR g).map w).sum):=by
 have e1:nList (aK ao (ag (aQ 4) ax)) [s0,s1,.sh (.tup [ak w c,.int mk]),s3,.sh (.int (g:Nat)),s5]=some (pl (Mt.bR g)):=c8 (by
  rw[bx (ps:=[.int (g:Nat)]) rfl]
  exact zN hg)
 have hl:(Mt.bR g).length<=6:=by
  unfold Mt.bR
  exact Nat.le_trans (List.length_filter_le _ _) (by decide)
 rw[eA (x:=.lst ((Mt.bR g).map λs=>PV.int (w s))) (gP (l:=Mt.bR g) (f:=λs=>.int (w s)) e1 (by have:sizeLine=16777216:=rfl;omega) λs hs=>?_)]
 ·show(eo ((Mt.bR g).map λs=>PV.int (w s))).bind _=_
  rw[gD (F:=w)]
  show(if u9 ((Mt.bR g).map w)then some (PV.int ((Mt.bR g).map w).sum)else none)=_
  rw[if_pos]
  unfold u9
  rw[Bool.and_eq_true,List.all_eq_true,List.length_map]
  refine⟨λx hx=>?_,decide_eq_true (by omega)⟩
  obtain⟨s,hs,rfl⟩:=List.mem_map.mp hx
  have:=hw s (hc s hs)
  rw[decide_eq_true this.1,decide_eq_true this.2]
  rfl
 ·exact iG (n:=c) (f:=w) (k:=s) rfl rfl (hc s hs)
theorem Bo{g:Nat}(hg:g<64)(hc:∀s∈Mt.bR g,s<c)(hw:∀s,s<c->0<=w s/\w s<1000000)(h:decide (mk<=((Mt.bR g).map w).sum)=Mt.lets l g)(s0 s3 s5:Slot):eD bB bp ao [s0,.sh (aa l),.sh (.tup [ak w c,.int mk]),s3,.sh (.int (g:Nat)),s5]=some (.nx [s0,.sh (aa l),.sh (.tup [ak w c,.int mk]),s3,.sh (.int (g:Nat)),.sh (.int ((Mt.bR g).map w).sum)]):=by
 unfold eD
 rw[aU (bT (Bn hg hc hw s0 _ s3 s5))]
 show jC _ _ _ [s0,.sh (aa l),.sh (.tup [ak w c,.int mk]),s3,.sh (.int (g:Nat)),.sh (.int ((Mt.bR g).map w).sum)]=_
 have e1:tV (ah eJ (ah Jq (dV 5) (ah cS (dV 2) (dC (.int 1)))) (aK bB (ag (aQ 1) (ag (aQ 4) ax)))) [s0,.sh (aa l),.sh (.tup [ak w c,.int mk]),s3,.sh (.int (g:Nat)),.sh (.int ((Mt.bR g).map w).sum)]=some false:=dE (by
  rw[aG (x:=.bl (decide (mk<=((Mt.bR g).map w).sum))) (y:=.bl (Mt.lets l g)) rfl (by rw[bx (ps:=[aa l,.int (g:Nat)]) rfl];exact Km l g),h,J0]
  simp)
 rw[gN e1]
 rfl
theorem rL(hw:∀s,s<c->0<=w s/\w s<1000000)(s0 s3:Slot):∀(gs:List Nat) (s4 s5:Slot),(∀g∈gs,g<64/\(∀s∈Mt.bR g,s<c)/\decide (mk<=((Mt.bR g).map w).sum)=Mt.lets l g)->∃t4 t5,forL (aZ 4) (eD bB bp ao) (pl gs) [s0,.sh (aa l),.sh (.tup [ak w c,.int mk]),s3,s4,s5]=some (.nx [s0,.sh (aa l),.sh (.tup [ak w c,.int mk]),s3,t4,t5])
 |[],s4,s5,_=>⟨s4,s5,rfl⟩
 |g::gs,s4,s5,h=>by
  obtain⟨h1,h2,h3⟩:=h g (List.mem_cons_self ..)
  obtain⟨t4,t5,e⟩:=rL hw s0 s3 gs (.sh (.int (g:Nat))) (.sh (.int ((Mt.bR g).map w).sum)) λx hx=>h x (List.mem_cons_of_mem _ hx)
  refine⟨t4,t5,?_⟩
  rw[<-e]
  show(eD bB bp ao [s0,.sh (aa l),.sh (.tup [ak w c,.int mk]),s3,.sh (.int (g:Nat)),s5]).bind _=_
  rw[Bo h1 h2 hw h3]
  rfl
theorem Eu(c6:c<=6)(hw:∀s,s<c->0<=w s/\w s<1000000)(hm:0<=mk/\mk<1000000)(H:∀g,g<2^c->(∀s∈Mt.bR g,s<c)/\decide (mk<=((Mt.bR g).map w).sum)=Mt.lets l g):bK [.int (c:Nat),aa l,.tup [ak w c,.int mk]]=some (.bl true):=by
 unfold bK
 refine gh rfl ?_
 show jQ bB bp ao [.sh (.int (c:Nat)),.sh (aa l),.sh (.tup [ak w c,.int mk]),.un,.un,.un]=_
 unfold jQ
 have e1:qa (js (tV (aR (yH 4) (dV 2)))) (qa (tV (ah eJ (aR bH (dV 2)) (dC (.int 2)))) (qa (js (tV (aR (yH 3) (ah cS (dV 2) (dC (.int 0)))))) (tV (ah eJ (aR bH (ah cS (dV 2) (dC (.int 0)))) (dV 0))))) [.sh (.int (c:Nat)),.sh (aa l),.sh (.tup [ak w c,.int mk]),.un,.un,.un]=some false:=by
  rw[nv rfl,nv rfl,nv rfl]
  refine dE ?_
  rw[aG (y:=.int (c:Nat)) (pS (n:=c) (f:=w) rfl) rfl,zg]
  simp
 rw[aU (by rw[gN e1];rfl)]
 have e2:nList (ah cg (ah cS (dV 2) (dC (.int 0))) (g9 (ag (ah cS (dV 2) (dC (.int 1))) ax))) [.sh (.int (c:Nat)),.sh (aa l),.sh (.tup [ak w c,.int mk]),.un,.un,.un]=some ((List.range (c+1)).map λj=>PV.int (cat w c (λ_=>mk) j)):=
  v5 (fP (n:=c) (f:=w) rfl (og (x:=mk) rfl) (by omega))
 obtain⟨t3,e3⟩:=rq (i:=3) (body:=fO bB bp ao) ((List.range (c+1)).map λj=>PV.int (cat w c (λ_=>mk) j)) [.sh (.int (c:Nat)),.sh (aa l),.sh (.tup [ak w c,.int mk]),.un,.un,.un] λx hx=>by
  obtain⟨j,hj,rfl⟩:=List.mem_map.mp hx
  have kF:=List.mem_range.mp hj
  have hb:0<=cat w c (λ_=>mk) j/\cat w c (λ_=>mk) j<1000000:=by
   unfold cat
   split
   ·exact hw j (by assumption)
   ·exact hm
  exact Bm _ _ _ _ _ hb.1 hb.2
 rw[aU (by rw[fe e2];exact e3)]
 show aX _ _ [.sh (.int (c:Nat)),.sh (aa l),.sh (.tup [ak w c,.int mk]),t3,.un,.un]=_
 have e4:cL (ah qk (dC (.int 1)) (dV 0)) [.sh (.int (c:Nat)),.sh (aa l),.sh (.tup [ak w c,.int mk]),t3,.un,.un]=some (pl (List.range (2^c))):=by
  have kg:2^c<=64:=Nat.le_trans (Nat.pow_le_pow_right (by decide) c6) (by decide)
  exact l0 (by rw[aG (x:=.int 1) (y:=.int (c:Nat)) rfl rfl];exact nZ c c6) (by omega)
 obtain⟨t4,t5,e5⟩:=rL (c:=c) (l:=l) (w:=w) (mk:=mk) hw (.sh (.int (c:Nat))) t3 (List.range (2^c)) .un .un λg hg=>by
  have R5:=List.mem_range.mp hg
  have kg:2^c<=64:=Nat.le_trans (Nat.pow_le_pow_right (by decide) c6) (by decide)
  exact⟨by omega,H g R5⟩
 rw[aU (by rw[fe e4];exact e5)]
 rfl
end
theorem wd(g s:Nat):(bit g s=1)↔g.testBit s=true:=by
 unfold bit
 rw[Nat.and_one_is_mod,Nat.testBit_eq_decide_div_mod_eq,decide_eq_true_eq]
noncomputable def ind(g s:Nat):Int:=if bit g s=1 then 1 else 0
theorem rM{g s:Nat}(h:g.testBit s=true):ind g s=1:=if_pos ((wd g s).mpr h)
theorem rN{g s:Nat}(h:g.testBit s=false):ind g s=0:=if_neg λz=>by
 rw[(wd g s).mp z]at h
 cases h
theorem sum_filter(g:Nat)(w:Nat->Int):∀n:Nat,(((List.range n).filter λs=>g.testBit s).map w).sum=sm n λs=>ind g s*w s
 |0=>rfl
 |n+1=>by
  rw[List.range_succ,List.filter_append,List.map_append,List.sum_append,sum_filter g w n]
  show _+_=sm n _+ind g n*w n
  congr 1
  cases h:g.testBit n with
  |true=>
   rw[rM h,List.filter_cons_of_pos h]
   simp
  |false=>
   rw[rN h,List.filter_cons_of_neg (by rw[h];simp)]
   simp
theorem zO{g c s:Nat}(hg:g<2^c)(h:g.testBit s=true):s<c:=by
 rcases Nat.lt_or_ge s c with q|q
 ·exact q
 ·rw[Nat.testBit_lt_two_pow (Nat.lt_of_lt_of_le hg (Nat.pow_le_pow_right (by decide) q))]at h
  cases h
theorem we{g c s:Nat}(hg:g<2^c)(h:s∈Mt.bR g):s<c:=by
 unfold Mt.bR at h
 exact zO hg (List.mem_filter.mp h).2
theorem rO{g c:Nat}(c6:c<=6)(hg:g<2^c)(w:Nat->Int):((Mt.bR g).map w).sum=sm c λs=>ind g s*w s:=by
 unfold Mt.bR
 rw[sum_filter]
 have e:=ub (λs=>ind g s*w s) c (6-c)
 rw[show c+(6-c)=6 by omega]at e
 have z:sm (6-c) (λi=>ind g (c+i)*w (c+i))=0:=ie λi _=>by
  have:g.testBit (c+i)=false:=by
   cases h:g.testBit (c+i)with
   |false=>rfl
   |true=>have:=zO hg h;omega
  rw[rN this,Int.zero_mul]
 rw[e,z,Int.add_zero]
theorem Ew{a b s:Nat}(h:Mt.sub a b=true)(q:a.testBit s=true):b.testBit s=true:=by
 unfold Mt.sub at h
 have e:a&&&b=a:=eq_of_beq h
 rw[<-e,Nat.testBit_and,Bool.and_eq_true]at q
 exact q.2
theorem ye{a b c:Nat}(h:Mt.sub a b=true){w:Nat->Int}(hw:∀s,s<c->0<=w s):sm c (λs=>ind a s*w s)<=sm c λs=>ind b s*w s:=vG λs hs=>by
 cases q:a.testBit s with
 |true=>rw[rM q,rM (Ew h q)];exact Int.le_refl _
 |false=>
  rw[rN q,Int.zero_mul]
  cases q2:b.testBit s with
  |true=>rw[rM q2,Int.one_mul];exact hw s hs
  |false=>rw[rN q2,Int.zero_mul];exact Int.le_refl _
theorem mem_getD{l:List Nat}{x:Nat}(h:x∈l):∃j,j<l.length/\l.getD j 0=x:=by
 obtain⟨j,hj,e⟩:=List.getElem_of_mem h
 exact⟨j,hj,by rw[List.getD_eq_getElem?_getD,List.getElem?_eq_getElem hj];exact e⟩
theorem wg{c:Nat}(c6:c<=6){l r:List Nat}(hl:iB c l)(hr:iB c r)(h:∀g,g<2^c->Mt.lets r g=meets l g):(∀x∈r.map (λg=>2^c-1-g),x<2^c/\Mt.lets l x=false)/\∀g,g<2^c->Mt.lets l g=false->∃x∈r.map (λg=>2^c-1-g),Mt.sub g x=true:=by
 have hp:0<2^c:=Nat.pow_pos (by decide)
 have kg:2^c<=64:=Nat.le_trans (Nat.pow_le_pow_right (by decide) c6) (by decide)
 constructor
 ·intro x hx
  obtain⟨y,hy,rfl⟩:=List.mem_map.mp hx
  have y2:=hr.lt y hy
  refine⟨by omega,?_⟩
  have e1:Mt.lets r y=true:=Mt.dB.mpr ⟨y,hy,by unfold Mt.sub;rw[Nat.and_self];simp⟩
  rw[h y y2]at e1
  have e2:=pj c6 hl (g:=2^c-1-y) (by omega)
  rw[show 2^c-1-(2^c-1-y)=y by omega,e1]at e2
  cases q:Mt.lets l (2^c-1-y)with
  |false=>rfl
  |true=>rw[q]at e2;cases e2
 ·intro g hg hn
  have e2:=pj c6 hl hg
  rw[hn]at e2
  have e3:Mt.lets r (2^c-1-g)=true:=by rw[h _ (by omega),e2];rfl
  obtain⟨y,hy,hs⟩:=Mt.dB.mp e3
  have y2:=hr.lt y hy
  refine⟨2^c-1-y,List.mem_map.mpr ⟨y,hy,rfl⟩,?_⟩
  have c1:=ph c6 (r:=g) (g:=2^c-1-y) hg (by omega)
  have c2:=ph c6 (r:=y) (g:=2^c-1-g) y2 (by omega)
  rw[show 2^c-1-(2^c-1-y)=y by omega]at c1
  rw[show 2^c-1-(2^c-1-g)=g by omega,hs]at c2
  rw[<-c1,Nat.and_comm]
  exact c2
theorem wj{c:Nat}(c6:c<=6){l r:List Nat}{sol:Nat->Nat}(hl:iB c l)(hr:iB c r)(h:∀g,g<2^c->Mt.lets r g=meets l g){o:List Nat}(ho:r.map (λg=>2^c-1-g)=o)(X:Tab (de c l o) (c+2) sol)(hs:∀k,k<c+2->sol k<JL c l o)(F:l7 (de c l o) (c+2) (JL c l o) sol)
  (fin:∀j,j<JL c l o->0<=T (de c l o) (c+2) sol (c+2) j)(hb:∀(sol:Nat->Nat) i j,(T (de c l o) (c+2) sol i j).natAbs<=362880)(z:¬0<T (de c l o) (c+2) sol (c+2) (JL c l o)):
  bK [.int (c:Nat),aa l,.tup [ak (λs=>T (de c l o) (c+2) sol (c+2) (l.length+o.length+s)) c,.int (T (de c l o) (c+2) sol (c+2) (l.length+o.length+c))]]=some (.bl true):=by
 obtain⟨w1,w2⟩:=GB X hs F fin z
 obtain⟨o1,o2⟩:=wg c6 hl hr h
 rw[ho]at o1 o2
 have nn:∀s,s<c+2->0<=T (de c l o) (c+2) sol (c+2) (l.length+o.length+s):=λs q=>fin _ (by show _<l.length+o.length+(c+2);omega)
 refine Eu c6 (λs q=>⟨nn s (by omega),by have:=hb sol (c+2) (l.length+o.length+s);omega⟩) ⟨nn c (by omega),by have:=hb sol (c+2) (l.length+o.length+c);omega⟩ λg hg=>⟨λs q=>we hg q,?_⟩
 rw[rO c6 hg]
 cases q:Mt.lets l g with
 |true=>
  obtain⟨x,hx,Pf⟩:=Mt.dB.mp q
  obtain⟨j,hj,ej⟩:=mem_getD hx
  have a1:=w1 j hj
  have a2:=ye (c:=c) (a:=x) (b:=g) Pf (w:=λs=>T (de c l o) (c+2) sol (c+2) (l.length+o.length+s)) λs q=>nn s (by omega)
  have a3:(sm c λs=>oh l j s*nA c l.length o.length (oh l) (oh o) sol s)=sm c λs=>ind x s*T (de c l o) (c+2) sol (c+2) (l.length+o.length+s):=aM λs _=>by
   unfold oh ind
   rw[ej]
   rfl
  rw[a3]at a1
  exact decide_eq_true (Int.le_trans a1 a2)
 |false=>
  obtain⟨x,hx,Pf⟩:=o2 g hg q
  obtain⟨j,hj,ej⟩:=mem_getD hx
  have a1:=w2 j hj
  have a2:=ye (c:=c) (a:=g) (b:=x) Pf (w:=λs=>T (de c l o) (c+2) sol (c+2) (l.length+o.length+s)) λs q=>nn s (by omega)
  have a3:(sm c λs=>oh o j s*nA c l.length o.length (oh l) (oh o) sol s)=sm c λs=>ind x s*T (de c l o) (c+2) sol (c+2) (l.length+o.length+s):=aM λs _=>by
   unfold oh ind
   rw[ej]
   rfl
  rw[a3]at a1
  refine decide_eq_false λk=>?_
  have a4:=Int.lt_of_le_of_lt a2 a1
  exact absurd (Int.lt_of_lt_of_le a4 k) (Int.lt_irrefl _)
theorem getD_mem'{l:List Nat}{j:Nat}(h:j<l.length):l.getD j 0∈l:=by
 rw[List.getD_eq_getElem?_getD,List.getElem?_eq_getElem h]
 exact List.getElem_mem h
theorem Ex{c:Nat}(c6:c<=6){l r:List Nat}{sol:Nat->Nat}(hl:iB c l)(hr:iB c r)(h:∀g,g<2^c->Mt.lets r g=meets l g){o:List Nat}(ho:r.map (λg=>2^c-1-g)=o)(X:Tab (de c l o) (c+2) sol)(hs:∀k,k<c+2->sol k<JL c l o)(F:l7 (de c l o) (c+2) (JL c l o) sol)
  (fin:∀j,j<JL c l o->0<=T (de c l o) (c+2) sol (c+2) j)(z:0<T (de c l o) (c+2) sol (c+2) (JL c l o)){w:Nat->Int}{mk:Int}(hw:∀s,s<c->0<=w s)(hm:∀g,g<2^c->(Mt.lets l g=true↔mk<=sm c λs=>ind g s*w s)):False:=by
 obtain⟨o1,_⟩:=wg c6 hl hr h
 rw[ho]at o1
 have R6:∀(l:List Nat) j s,0<=oh l j s:=λl j s=>by unfold oh;split<;>decide
 obtain⟨t1,t2,t3⟩:=Mz X hs F fin (λj s _ _=>R6 o j s) z
 have cm:∀g,(sm c λs=>ind g s*w s)=sm c λs=>w s*ind g s:=λg=>aM λs _=>Int.mul_comm ..
 refine RX (w:=w) (mk:=mk) (λj=>kY F j) (λj=>kY F _) hw t1 t2 t3 (λj hj=>?_) (λj hj=>?_)
 ·have gm:=getD_mem' hj
  have:=(hm _ (hl.lt _ gm)).mp (Mt.dB.mpr ⟨_,gm,by unfold Mt.sub;rw[Nat.and_self];simp⟩)
  rw[cm]at this
  exact this
 ·obtain⟨g1,g2⟩:=o1 _ (getD_mem' hj)
  have n:¬mk<=sm c λs=>ind (o.getD j 0) s*w s:=λq=>by
   rw[(hm _ g1).mpr q]at g2
   cases g2
  rw[cm]at n
  show(sm c λs=>w s*ind (o.getD j 0) s)<=mk-1
  omega
theorem wm{c:Nat}(c6:c<=6){l:List Nat}(hl:iB c l){w:Nat->Int}{mk:Int}(hw:∀s,s<c->0<=w s)(hm:∀g,g<2^c->(Mt.lets l g=true↔mk<=sm c λs=>ind g s*w s)):
  ∃p:PV,fq [.int (c:Nat),aa l]=some (.tup [.bl true,p])/\bK [.int (c:Nat),aa l,p]=some (.bl true):=by
 obtain⟨r,sol,hr,h,X,F,hs,fin,hb,e⟩:=Et c6 hl.len
 generalize ho:r.map (λg=>2^c-1-g)=o at X F hs fin hb e
 unfold yd at e
 by_cases z:0<T (de c l o) (c+2) sol (c+2) (JL c l o)
 ·exact(Ex c6 hl hr h ho X hs F fin z hw hm).elim
 ·rw[if_neg z]at e
  exact⟨_,e,wj c6 hl hr h ho X hs F fin hb z⟩
theorem place_key:gp F_place:=xu
theorem yf(ns:List Int)(k:Nat):bN [.lst (ns.map PV.int),.int (k:Nat)]=some (.int (ns.getD k 0)):=Gp ns k
theorem GY{l:List Nat}(h:∀g∈l,g<64)(hl:l.length<=400):cR [aa l]=some (aa (Mt.kX l)):=A2 h hl
theorem zP{i:Nat}{body:aL}{x:PV}{xs:List PV}{ρ ρ':bM}(h:body (ρ.set i (.sh x))=some (.nx ρ')):forL (aZ i) body (x::xs) ρ=forL (aZ i) body xs ρ':=by
 rw[kn]
 show(body (ρ.set i (.sh x))).bind _=_
 rw[h]
 rfl
theorem Ey(g:Nat):(Mt.bR g).length<=6:=by
 have:=List.length_filter_le (λh=>g.testBit h) (List.range 6)
 rw[List.length_range]at this
 exact this
theorem pX:∀l:List Nat,(l.map λ(n:Nat)=>(n:Int)).sum=((l.sum:Nat):Int)
 |[]=>rfl
 |n::l=>by
  rw[List.map_cons,List.sum_cons,List.sum_cons,pX l]
  omega
theorem zQ(l:List Nat):oS (aa l)=some (.int ((l.sum:Nat):Int)):=by
 show(eo (pl l)).map _=_
 rw[vA,<-pX]
 rfl
noncomputable def qB(ws:List Nat)(g:Nat):Nat:=((Mt.bR g).map λh=>ws.getD h 0).sum
theorem zS{ws:List Nat}{g c:Nat}(c6:c<=6)(hg:g<2^c):((qB ws g:Nat):Int)=sm c λs=>ind g s*((ws.getD s 0:Nat):Int):=by
 unfold qB
 rw[<-pX,List.map_map]
 exact rO c6 hg λs=>((ws.getD s 0:Nat):Int)
theorem ly{c:Nat}(c6:c<=6)(ws:List Nat)(hw:ws.length=c)(mk:Nat):∀(gs acc:List Nat) (s3:Slot),(∀g∈gs,g<2^c)->acc.length+gs.length<=200->
  ∃t3,forL (aZ 3) (jk cR ao) (pl gs) [.sh (aa ws),.sh (.int (mk:Nat)),.ow (pl acc),s3]=some (.nx [.sh (aa ws),.sh (.int (mk:Nat)),.ow (pl (acc++gs.filter λg=>decide ((mk:Int)<=(qB ws g:Nat)))),t3])
 |[],acc,s3,_,_=>⟨s3,by rw[List.filter_nil,List.append_nil];rfl⟩
 |g::gs,acc,s3,h1,h3=>by
  have zl:(5000:Nat)<=sizeLine:=by decide
  have HE:=eP c6
  rw[List.length_cons]at h3
  have hg:=h1 g (List.mem_cons_self ..)
  have e1:aV (nList (aK ao (ag (aQ 3) ax))) a9 (ah cS (dV 1) (dV 0)) [.sh (aa ws),.sh (.int (mk:Nat)),.ow (pl acc),.sh (.int (g:Nat))]=some (aa ((Mt.bR g).map λh=>ws.getD h 0)):=by
   refine(gP (f:=λh=>.int ((ws.getD h 0:Nat):Int)) (c8 ((bx (ps:=[.int (g:Nat)]) rfl).trans (zN (by omega)))) (by have:=Ey g;omega) λh hh=>?_).trans ?_
   ·have hc:=we hg hh
    refine Eq.trans (mS (l:=ws) (k:=h) (by omega)) ?_
    rw[List.getD_eq_getElem?_getD,List.getElem?_eq_getElem (by omega)]
    rfl
   ·rw[mT (λh=>ws.getD h 0)]
  have tt:tV (ah Jq (aR oS (aV (nList (aK ao (ag (aQ 3) ax))) a9 (ah cS (dV 1) (dV 0)))) (dV 1)) [.sh (aa ws),.sh (.int (mk:Nat)),.ow (pl acc),.sh (.int (g:Nat))]=some (decide ((mk:Int)<=(qB ws g:Nat))):=
   dE (aG (x:=.int (qB ws g:Nat)) (y:=.int (mk:Nat)) ((eA e1).trans (zQ _)) rfl)
  rw[show pl (g::gs)=.int (g:Nat)::pl gs from rfl]
  cases hd:decide ((mk:Int)<=(qB ws g:Nat))
  ·rw[hd]at tt
   obtain⟨t3,q3⟩:=ly c6 ws hw mk gs acc (.sh (.int (g:Nat))) (λx hx=>h1 x (List.mem_cons_of_mem _ hx)) (by omega)
   refine⟨t3,Eq.trans ?_ (q3.trans (by rw[List.filter_cons_of_neg (p:=λg=>decide ((mk:Int)<=(qB ws g:Nat))) (by rw[hd];exact Bool.false_ne_true)]))⟩
   exact zP (i:=3) (x:=.int (g:Nat)) (xs:=pl gs) (ρ:=[.sh (aa ws),.sh (.int (mk:Nat)),.ow (pl acc),s3]) ((gN tt).trans rfl)
  ·rw[hd]at tt
   obtain⟨t3,q3⟩:=ly c6 ws hw mk gs (acc++[g]) (.sh (.int (g:Nat))) (λx hx=>h1 x (List.mem_cons_of_mem _ hx)) (by rw[List.length_append,List.length_singleton];omega)
   refine⟨t3,Eq.trans ?_ (q3.trans (by rw[List.filter_cons_of_pos (p:=λg=>decide ((mk:Int)<=(qB ws g:Nat))) hd,List.append_assoc,List.singleton_append]))⟩
   refine zP (i:=3) (x:=.int (g:Nat)) (xs:=pl gs) (ρ:=[.sh (aa ws),.sh (.int (mk:Nat)),.ow (pl acc),s3]) ((lY tt).trans ?_)
   show((if(pl acc).length<sizeLine then some (pl acc++[PV.int (g:Nat)])else none).map λl'=>Fl.nx [.sh (aa ws),.sh (.int (mk:Nat)),.ow l',.sh (.int (g:Nat))])=_
   rw[if_pos (by rw[dI];omega)]
   unfold pl
   rw[List.map_append]
   rfl
noncomputable def fM(c:Nat)(ws:List Nat)(mk:Nat):List Nat:=(List.range (2^c)).filter λg=>decide ((mk:Int)<=(qB ws g:Nat))
theorem kx{c:Nat}{ws:List Nat}{mk:Nat}:∀g∈fM c ws mk,g<2^c:=λg hg=>List.mem_range.mp (List.mem_filter.mp hg).1
theorem yg{c:Nat}(c6:c<=6)(ws:List Nat)(hw:ws.length=c)(mk:Nat):cV [aa ws,.int (mk:Nat)]=some (aa (Mt.kX (fM c ws mk))):=by
 have HE:=eP c6
 obtain⟨t3,q3⟩:=ly c6 ws hw mk (List.range (2^c)) [] .un (λg hg=>List.mem_range.mp hg) (by rw[List.length_range,List.length_nil];omega)
 rw[List.nil_append]at q3
 unfold cV
 refine gh rfl ?_
 show iC cR ao [.sh (aa ws),.sh (.int (mk:Nat)),.un,.un]=_
 unfold iC
 refine(aU (pd (l:=[]) rfl)).trans ?_
 have el:aR bH (dV 0) [.sh (aa ws),.sh (.int (mk:Nat)),.ow (pl []),.un]=some (.int (c:Nat)):=by
  show some (PV.int ((pl ws).length:Nat))=_
  rw[dI,hw]
 refine(aU ((fe (l0 (n:=2^c) ((aG (x:=.int 1) (y:=.int (c:Nat)) rfl el).trans (nZ c c6)) (by omega))).trans q3)).trans ?_
 show aX _ _ [.sh (aa ws),.sh (.int (mk:Nat)),.ow (pl (fM c ws mk)),t3]=_
 have SE:(fM c ws mk).length<=64:=by
  have:=List.length_filter_le (λg=>decide ((mk:Int)<=(qB ws g:Nat))) (List.range (2^c))
  rw[List.length_range]at this
  unfold fM
  omega
 refine(aU (ρ':=[.sh (aa ws),.sh (.int (mk:Nat)),.sh (aa (fM c ws mk)),t3]) rfl).trans ?_
 exact gA ((bx (ps:=[aa (fM c ws mk)]) rfl).trans (GY (λg hg=>Nat.lt_of_lt_of_le (kx g hg) HE) (by omega)))
theorem yh{c d:Nat}(hd:d=c\/d=c+1)(d6:d<=6)(ws:List Nat)(hw:ws.length=c)(mk g:Nat)(hg:g<2^d):Mt.lets (Mt.kX (fM c ws mk)) g=true↔(mk:Int)<=sm d λs=>ind g s*((ws.getD s 0:Nat):Int):=by
 have c6:c<=6:=by omega
 have HE:=eP c6
 have cd:2^c<=2^d:=Nat.pow_le_pow_right (by decide) (by omega)
 rw[Mt.A0 λx hx=>Nat.lt_of_lt_of_le (kx x hx) HE,Mt.dB]
 constructor
 ·rintro⟨x,hx,sx⟩
  have h1:=of_decide_eq_true (List.mem_filter.mp hx).2
  have h2:=zS (ws:=ws) d6 (Nat.lt_of_lt_of_le (kx x hx) cd)
  have h3:=ye (c:=d) (w:=λs=>((ws.getD s 0:Nat):Int)) sx λs _=>by omega
  rw[h2]at h1
  exact Int.le_trans h1 h3
 ·intro q
  have tb:∀s,s<c->(g % 2^c).testBit s=g.testBit s:=λs hs=>by rw[Nat.testBit_mod_two_pow,decide_eq_true hs,Bool.true_and]
  have lt:g % 2^c<2^c:=Nat.mod_lt _ (Nat.pow_pos (by decide))
  have e1:(sm c λs=>ind (g % 2^c) s*((ws.getD s 0:Nat):Int))=sm c λs=>ind g s*((ws.getD s 0:Nat):Int):=aM λs hs=>by
   have:ind (g % 2^c) s=ind g s:=by
    cases b:g.testBit s with
    |true=>rw[rM b,rM ((tb s hs).trans b)]
    |false=>rw[rN b,rN ((tb s hs).trans b)]
   rw[this]
  have e2:(sm d λs=>ind g s*((ws.getD s 0:Nat):Int))=sm c λs=>ind g s*((ws.getD s 0:Nat):Int):=by
   rcases hd with rfl|rfl
   ·rfl
   ·show(sm c λs=>ind g s*((ws.getD s 0:Nat):Int))+ind g c*((ws.getD c 0:Nat):Int)=_
    rw[List.getD_eq_getElem?_getD,List.getElem?_eq_none (by omega)]
    show _+ind g c*0=_
    rw[Int.mul_zero,Int.add_zero]
  refine⟨g % 2^c,List.mem_filter.mpr ⟨List.mem_range.mpr lt,decide_eq_true ?_⟩,?_⟩
  ·rw[zS c6 lt,e1,<-e2]
   exact q
  ·unfold Mt.sub
   refine beq_iff_eq.mpr (Nat.eq_of_testBit_eq λi=>?_)
   rw[Nat.testBit_and,Nat.testBit_mod_two_pow]
   cases g.testBit i<;>simp
theorem iB.up{c d:Nat}(h:c<=d){l:List Nat}(hl:iB c l):iB d l:=⟨hl.lad,λg hg=>Nat.lt_of_lt_of_le (hl.lt g hg) (Nat.pow_le_pow_right (by decide) h)⟩
theorem nF{c d:Nat}(hd:d=c\/d=c+1)(d6:d<=6)(ws:List Nat)(hw:ws.length=c)(mk:Nat):∃p:PV,fq [.int (d:Nat),aa (Mt.kX (fM c ws mk))]=some (.tup [.bl true,p])/\bK [.int (d:Nat),aa (Mt.kX (fM c ws mk)),p]=some (.bl true):=
 wm d6 (iB.up (by omega) (A3 (c:=c) (by omega) kx)) (w:=λs=>((ws.getD s 0:Nat):Int)) (mk:=(mk:Nat)) (λs _=>by omega) λg hg=>yh hd d6 ws hw mk g hg
theorem MM:sQ (.int 10) (.int 58)=some (.int ((10^58:Nat):Int)):=by
 show(if m9 10 58 then some (PV.int ((10:Int)^(58:Int).toNat))else none)=_
 rw[if_pos (by decide)]
 rfl
theorem GZ(f:Int)(s0 s2 s3 s4 s5 s6 s7:Slot):∃m:Nat,0<m/\ah cS (g9 (ag (dC (.int 10)) (ag (dC (.int 100)) (ag (ah sQ (dC (.int 10)) (dC (.int 58))) ax)))) (ah oO (ah Ck (dV 1) (dC (.int 6))) (dC (.int 3))) [s0,.sh (.int f),s2,s3,s4,s5,s6,s7]=some (.int (m:Nat)):=by
 obtain⟨k,hk,ek⟩:=xt (f/6) 3 (by decide)
 have e1:g9 (ag (dC (.int 10)) (ag (dC (.int 100)) (ag (ah sQ (dC (.int 10)) (dC (.int 58))) ax))) [s0,.sh (.int f),s2,s3,s4,s5,s6,s7]=some (aa [10,100,10^58]):=by
  have e0:ag (dC (.int 10)) (ag (dC (.int 100)) (ag (ah sQ (dC (.int 10)) (dC (.int 58))) ax)) [s0,.sh (.int f),s2,s3,s4,s5,s6,s7]=some (pl [10,100,10^58]):=by
   rw[dS rfl (dS rfl (dS ((aG rfl rfl).trans MM) rfl))]
   rfl
  unfold g9
  rw[e0]
  rfl
 have e2:ah oO (ah Ck (dV 1) (dC (.int 6))) (dC (.int 3)) [s0,.sh (.int f),s2,s3,s4,s5,s6,s7]=some (.int (k:Nat)):=by
  show some (PV.int (f/6 % 3))=_
  rw[show f/6 % 3=(k:Int)from ek]
 refine⟨[10,100,10^58].getD k 1,?_,(aG e1 e2).trans ?_⟩
 ·match k,hk with
  |0,_=>decide
  |1,_=>decide
  |2,_=>exact Nat.pow_pos (by decide)
 ·refine Eq.trans (mS (l:=[10,100,10^58]) (k:=k) hk) ?_
  rw[List.getD_eq_getElem?_getD,List.getElem?_eq_getElem (show k<[10,100,10^58].length from hk)]
  rfl
theorem law_true(ns:List Int)(hn:ns.length<=63):vK [.lst (ns.map .int)]=some (.bl true):=by
 unfold vK
 refine gh rfl ?_
 show DD bN cV fq bK [.sh (qt ns),.un,.un,.un,.un,.un,.un,.un]=_
 unfold DD
 rw[aU (bT ((bx (ps:=[qt ns,.int ((0:Nat):Int)]) rfl).trans (yf ns 0)))]
 show aX _ _ [.sh (qt ns),.sh (.int (ns.getD 0 0)),.un,.un,.un,.un,.un,.un]=_
 obtain⟨c,c0,c6,hc⟩:∃c:Nat,1<=c/\c<=6/\(1:Int)+ns.getD 0 0 % 6=(c:Nat):=⟨(1+ns.getD 0 0 % 6).toNat,by omega,by omega,by omega⟩
 have e1:ah cg (dC (.int 1)) (ah oO (dV 1) (dC (.int 6))) [.sh (qt ns),.sh (.int (ns.getD 0 0)),.un,.un,.un,.un,.un,.un]=some (.int (c:Nat)):=by
  show some (PV.int (1+ns.getD 0 0 % 6))=_
  rw[hc]
 rw[aU (bT e1)]
 generalize ns.getD 0 0=f
 show aX _ _ [.sh (qt ns),.sh (.int f),.sh (.int (c:Nat)),.un,.un,.un,.un,.un]=_
 obtain⟨m,m0,em⟩:=GZ f (.sh (qt ns)) (.sh (.int (c:Nat))) .un .un .un .un .un
 rw[aU (bT em)]
 show aX _ _ [.sh (qt ns),.sh (.int f),.sh (.int (c:Nat)),.sh (.int (m:Nat)),.un,.un,.un,.un]=_
 have zl:(5000:Nat)<=sizeLine:=by decide
 have ew:aV (cL (dV 2)) a9 (ah oO (aK bN (ag (aQ 1) (ag (ah cg (dC (.int 2)) (dV 0)) ax))) (dV 4)) [.sh (qt ns),.sh (.int f),.sh (.int (c:Nat)),.sh (.int (m:Nat)),.un,.un,.un,.un]=some (aa ((List.range c).map λh=>(ns.getD (2+h) 0 %(m:Int)).toNat)):=by
  refine(gP (f:=λh=>.int (((ns.getD (2+h) 0 %(m:Int)).toNat:Nat):Int)) (l0 (n:=c) rfl (by omega)) (by rw[List.length_range];omega) λh hh=>?_).trans ?_
  ·exact(aG (y:=.int (m:Nat)) ((bx (ps:=[qt ns,.int ((2+h:Nat):Int)]) rfl).trans (yf ns (2+h))) rfl).trans (vC _ m0)
  ·rw[mT (λh=>(ns.getD (2+h) 0 %(m:Int)).toNat)]
 rw[aU (bT ew)]
 have hw:((List.range c).map λh=>(ns.getD (2+h) 0 %(m:Int)).toNat).length=c:=by rw[List.length_map,List.length_range]
 generalize((List.range c).map λh=>(ns.getD (2+h) 0 %(m:Int)).toNat)=ws at hw
 show aX _ _ [.sh (qt ns),.sh (.int f),.sh (.int (c:Nat)),.sh (.int (m:Nat)),.sh (aa ws),.un,.un,.un]=_
 have ek:ah oO (aK bN (ag (aQ 0) (ag (dC (.int 1)) ax))) (ah cg (aR oS (dV 4)) (dC (.int 2))) [.sh (qt ns),.sh (.int f),.sh (.int (c:Nat)),.sh (.int (m:Nat)),.sh (aa ws),.un,.un,.un]=some (.int (((ns.getD 1 0 %((ws.sum+2:Nat):Int)).toNat:Nat):Int)):=by
  have e3:ah cg (aR oS (dV 4)) (dC (.int 2)) [.sh (qt ns),.sh (.int f),.sh (.int (c:Nat)),.sh (.int (m:Nat)),.sh (aa ws),.un,.un,.un]=some (.int ((ws.sum+2:Nat):Int)):=by
   rw[aG (x:=.int ((ws.sum:Nat):Int)) (y:=.int 2) ((eA (x:=aa ws) rfl).trans (zQ ws)) rfl]
   show some (PV.int (((ws.sum:Nat):Int)+2))=_
   rw[show((ws.sum:Nat):Int)+2=((ws.sum+2:Nat):Int) by omega]
  exact(aG (y:=.int ((ws.sum+2:Nat):Int)) ((bx (ps:=[qt ns,.int ((1:Nat):Int)]) rfl).trans (yf ns 1)) e3).trans (vC _ (by omega))
 rw[aU (bT ek)]
 generalize(ns.getD 1 0 %((ws.sum+2:Nat):Int)).toNat=mk
 show aX _ _ [.sh (qt ns),.sh (.int f),.sh (.int (c:Nat)),.sh (.int (m:Nat)),.sh (aa ws),.sh (.int (mk:Nat)),.un,.un]=_
 rw[aU (bT ((bx (ps:=[aa ws,.int (mk:Nat)]) rfl).trans (yg c6 ws hw mk)))]
 obtain⟨p,w1,w2⟩:=nF (.inl rfl) c6 ws hw mk
 have again:c≠6->∃p:PV,fq [.int ((c+1:Nat):Int),aa (Mt.kX (fM c ws mk))]=some (.tup [.bl true,p])/\bK [.int ((c+1:Nat):Int),aa (Mt.kX (fM c ws mk)),p]=some (.bl true):=λn=>nF (.inr rfl) (by omega) ws hw mk
 generalize Mt.kX (fM c ws mk)=l at w1 w2 again
 show aX _ _ [.sh (qt ns),.sh (.int f),.sh (.int (c:Nat)),.sh (.int (m:Nat)),.sh (aa ws),.sh (.int (mk:Nat)),.sh (aa l),.un]=_
 rw[aU (bT ((bx (ps:=[.int (c:Nat),aa l]) rfl).trans w1))]
 show aX _ _ [.sh (qt ns),.sh (.int f),.sh (.int (c:Nat)),.sh (.int (m:Nat)),.sh (aa ws),.sh (.int (mk:Nat)),.sh (aa l),.sh (.tup [.bl true,p])]=_
 have t1:qa (js (tV (aR (yH 4) (dV 7)))) (qa (tV (ah eJ (aR bH (dV 7)) (dC (.int 2)))) (tV (aR (Ct true) (ah cS (dV 7) (dC (.int 0)))))) [.sh (qt ns),.sh (.int f),.sh (.int (c:Nat)),.sh (.int (m:Nat)),.sh (aa ws),.sh (.int (mk:Nat)),.sh (aa l),.sh (.tup [.bl true,p])]=some false:=by
  rw[nv rfl,nv rfl]
  rfl
 rw[aU (by rw[gN t1];rfl)]
 have t2:js (tV (aK bK (ag (aQ 2) (ag (aQ 6) (ag (ah cS (dV 7) (dC (.int 1))) ax))))) [.sh (qt ns),.sh (.int f),.sh (.int (c:Nat)),.sh (.int (m:Nat)),.sh (aa ws),.sh (.int (mk:Nat)),.sh (aa l),.sh (.tup [.bl true,p])]=some false:=zf (b:=true) (dE ((bx (ps:=[.int (c:Nat),aa l,p]) rfl).trans w2))
 rw[aU (by rw[gN t2];rfl)]
 have t3:tV (ah lA (dV 2) (dC (.int 6))) [.sh (qt ns),.sh (.int f),.sh (.int (c:Nat)),.sh (.int (m:Nat)),.sh (aa ws),.sh (.int (mk:Nat)),.sh (aa l),.sh (.tup [.bl true,p])]=some (decide (c=6)):=by
  refine Eq.trans (b:=some (decide ((c:Int)=6))) (dE rfl) ?_
  by_cases h:c=6
  ·rw[decide_eq_true h,decide_eq_true (by omega)]
  ·rw[decide_eq_false h,decide_eq_false (by omega)]
 by_cases h6:c=6
 ·rw[decide_eq_true h6]at t3
  rw[lX (by rw[lY t3];rfl)]
 ·rw[decide_eq_false h6]at t3
  rw[aU (by rw[gN t3];rfl)]
  obtain⟨p',v1,v2⟩:=again h6
  have ec:∀s7,ah cg (dV 2) (dC (.int 1)) [.sh (qt ns),.sh (.int f),.sh (.int (c:Nat)),.sh (.int (m:Nat)),.sh (aa ws),.sh (.int (mk:Nat)),.sh (aa l),s7]=some (.int ((c+1:Nat):Int)):=λs7=>by
   show some (PV.int ((c:Int)+1))=_
   rw[show(c:Int)+1=((c+1:Nat):Int) by omega]
  rw[aU (bT ((bx (ps:=[.int ((c+1:Nat):Int),aa l]) (dS (ec _) rfl)).trans v1))]
  show bu _ [.sh (qt ns),.sh (.int f),.sh (.int (c:Nat)),.sh (.int (m:Nat)),.sh (aa ws),.sh (.int (mk:Nat)),.sh (aa l),.sh (.tup [.bl true,p'])]=_
  refine gA ?_
  rw[D8 rfl]
  exact(bx (ps:=[.int ((c+1:Nat):Int),aa l,p']) (dS (ec _) rfl)).trans v2
end L2.D.My
open PySem PySem.W PyProof.Rows
theorem PySem.Challenge.cw_signright_k52_what_weights_tell_has_weig_holds : PySem.Challenge.rw_signright_k52_what_weights_tell_has_weig.Holds := by
  w_on; o_law; k_head; (case hw => w_witness2)
  k_fill
  refine L2.D.walkD2 (l := PySem.Challenge.rw_signright_k52_what_weights_tell_has_weig) (k := 10) (x := "_law_script") (F := L2.D.My.vK) rfl (by decide) rfl ⟨rfl, by decide, by decide⟩ (fun w h Y => PySem.W.kIn_of Y) ?F L2.D.My.law_true
  case F =>
    intro w mg fa h KX G Ly
    refine' L2.D.My.all_mk L2.D.My.place_key KX G Ly ?ug ?pF ?pG ?pH ?pI ?jT ?pJ ?O9 ?Pa ?Pb ?Pc ?iD ?jU ?i9 ?jV ?iE ?k8 ?k9 ?uh ?pK ?xU ?ui ?jW ?jc ?lg ?eN ?dQ ?jX ?lh ?cq ?ef ?fv ?c5 ?cI ?eH ?fw ?lj ?uj ?lq ?jY ?jZ ?zv ?DQ ?uk ?DR ?DU ?DV ?xV ?j0 ?DX ?jd ?DY ?xW ?um ?pL ?DZ ?uo ?D0
    (case ug | pF | pG | pH | pI | jT | pJ | O9 | Pa | Pb | Pc => k_is)
    (case iD | jU | i9 | jV | iE | k8 | k9 | uh | pK | xU | ui | jW | jc | lg | eN => refine' L2.D.My.FG.mk ?a (L2.D.My.FA.mk ?l ?c ?k); (case a | l | c | k => k_is))
    (case dQ => refine' L2.D.My.FC.mk ?a ?n (L2.D.My.FA.mk ?l ?c ?k); (case a | n | l | c | k => k_is))
    (case jX | lh => refine' L2.D.My.FG.mk ?a (L2.D.My.FA.mk ?l ?c ?k); (case a | l | c | k => k_is))
    (case cq | ef | fv | c5 | cI | eH | fw => refine' L2.D.My.FC.mk ?a ?n (L2.D.My.FA.mk ?l ?c ?k); (case a | n | l | c | k => k_is))
    (case lj | uj | lq | jY | jZ => refine' L2.D.My.FG.mk ?a (L2.D.My.FA.mk ?l ?c ?k); (case a | l | c | k => k_is))
    (case zv | DQ | uk | DR | DU | DV | xV | j0 | DX | jd | DY | xW | um | pL | DZ | uo | D0 => k_is)
