import PyProof.Rows.All
import Wide.All
import KE.KItem
import KE.KSortKey
import Wide.FinOn
import Lean
import PyProof.EqAt
import PyProof.EqKinds
import PyProof.TupleCall
import PyProof.Rows.SortPure
import PySem.Builtin.Int.W1All
import PySem.Sem
import PyProof.StrBlockL
import PyProof.SliceStr2
import PyProof.StrCalls2
import PyProof.WalkInts
import PyProof.Rows.StrStep
import PyProof.FactsAll.tuple_0
import PyProof.FactsAll.tuple_2
import PyProof.FactsAll.tuple_3
import PyProof.FString5
import PyProof.StrOps2
import PyProof.StrWalks
import PyProof.Draws
import PyProof.DictWalks
import PyProof.ListStr
import PyProof.FactsAll.dict_3
import PyProof.MeetsDictList
import PyProof.DictValues
import PyProof.FactsAll.dict_0
import PyProof.FactsAll.dict_4
import PyProof.FString
import PyProof.FString4
import PyProof.ReprStr
import PyProof.ExcClass3
import PyProof.ExcBaseAll.ValueError
import KE.KIsAll
import OpenK.KDescr
import OpenK.KOwn
import PyProof.ExcArgsOwn
import PyProof.RulesAs
import PyProof.NsDelKeeps
import PyProof.StationsW
import PyProof.FitsInt
import PyProof.StrLawsRepr
import PyProof.PassesOwn
import PyProof.FactsAll.list_3
import PyProof.StrCalls
import PyProof.StrLawsIdx
import PyProof.SliceList
import PySem.Challenge.RW_signright_k65_struck_entries
set_option Elab.async false
set_option linter.all false
set_option maxRecDepth 100000
set_option maxHeartbeats 0
set_option genSizeOf false
set_option genSizeOfSpec false
noncomputable section
def Wp:=@decide_eq_false
def W1:=@if_pos
def UF:=@if_neg
def UV:=@PySem.wpAny_bind
def SB:=@PySem.wpAny_pure
def SZ:=@decide_eq_true
def Re:=@decide_eq_true_eq
def PP:=@of_decide_eq_true
def Pi:=@PySem.wpAny_mono
def P3:=@PySem.wpAny_truthy_bool
def On:=@PySem.wpAny_execs_nil
def Os:=@PySem.wpAny_setField_rec
def O1:=@PySem.wpAny_passesOwn
def KB:=@beq_iff_eq
def KF:=@PySem.wpAny_field
def KM:=@PySem.wpAny_holding
def ZA:=@Option.bind_eq_some_iff
def ZC:=@Option.map_eq_some_iff
def ZD:=@List.length_map
def ZE:=@PySem.Heap.get?_push_of_some
def ZF:=@List.mem_append_right
def ZG:=@List.getElem?_eq_getElem
def ZH:=@List.size_toArray
def ZI:=@List.mem_cons_of_mem
def ZJ:=@List.length_cons
def ZK:=@Nat.le_refl
def ZL:=@List.getElem?_eq_some_iff
def ZM:=@List.mem_cons_self
def ZN:=@PySem.Heap.lt_size
def ZO:=@List.getElem?_set
def ZP:=@List.all_eq_true
def ZQ:=@Array.length_toList
def ZR:=@PySem.Heap.get?_push_size
def ZS:=@Bool.and_eq_true
def ZT:=@List.length_append
def ZU:=@List.getD_eq_getElem?_getD
def ZV:=@List.map_cons
def ZW:=@List.mem_range
def ZX:=@Option.some.inj
def ZY:=@Bool.false_ne_true
def ZZ:=@Nat.lt_of_lt_of_le
def Za:=@List.getElem?_map
def Zb:=@List.lookup_cons
def Zc:=@List.mem_cons
def Zd:=@Nat.le_trans
def Ze:=@Nat.ne_of_lt
def Zf:=@List.mem_append_left
def Zg:=@List.mem_append
def Zh:=@List.append_nil
def Zi:=@List.mem_map
def Zj:=@List.getElem?_set_ne
def Zk:=@List.length_range
def Zl:=@List.mem_singleton
def Zm:=@Nat.zero_le
def Zn:=@Nat.lt_irrefl
def Zo:=@List.length_set
def Zp:=@List.map_map
def Zq:=@List.length_singleton
def Zr:=@List.map_append
def Zs:=@List.filterMap_cons
def Zt:=@PySem.mem_of_lookup
def Zu:=@Int.toNat_natCast
def Zv:=@List.mem_of_getElem?
def Zw:=@List.getElem?_append_left
def Zx:=@List.getElem?_zip_eq_some
def Zy:=@List.drop_eq_getElem_cons
def Zz:=@Int.emod_nonneg
def Z0:=@List.getElem?_replicate
def Z1:=@List.drop_eq_nil_of_le
def Z2:=@List.foldl_cons
def Z3:=@Array.getElem?_toList
def Z4:=@List.length_take
def Z5:=@List.length_drop
def Z6:=@List.zip_cons_cons
def Z7:=@List.append_assoc
def Z8:=@List.getElem_mem
def Z9:=@List.filter_cons
def YA:=@List.mem_filterMap
def YB:=@List.length_replicate
def YC:=@List.getElem?_eq_none
def YD:=@Option.map_some
def YE:=@Option.isSome_iff_exists
def YF:=@List.getElem?_append
def YG:=@PySem.sliceRange_one
def YH:=@List.all_cons
def YI:=@PySem.Heap.get?_update_other
def YJ:=@Nat.ne_of_gt
def YK:=@PySem.W.callWith_K
def YL:=@Bool.false_eq_true
def YM:=@Int.emod_lt_of_pos
def YN:=@List.mem_filter
def YO:=@Bool.eq_iff_iff
def YQ:=@PySem.W.methodCall_KW
def YR:=@List.mem_iff_getElem?
def YS:=@List.find?_cons
def YT:=@List.length_filter_le
def YU:=@List.any_cons
def YV:=@PySem.Heap.size_push
def YW:=@Array.toList_append
def YX:=@List.getElem?_cons_succ
def YY:=@Classical.axiomOfChoice
def YZ:=@List.sum_cons
def Yi:=@List.forIn_cons
def Yj:=@PySem.W.kia_one
def Yk:=@List.take_of_length_le
def Yl:=@PySem.Heap.get?_update_self
def Ym:=@Option.bind_some
def Yn:=@Array.mem_toList_iff
def Yo:=@Nat.lt_succ_self
def Yp:=@List.range'_succ
def Yq:=@Bool.true_and
def Yr:=@Array.getElem?_eq_some_iff
def Ys:=@PySem.Heap.SameBut.update
def Yt:=@List.map_nil
def Yu:=@PySem.F.slot_list_append
def Yv:=@PySem.F.type_list_append
def Yw:=@PySem.F.plainAttrs_list
def Yx:=@List.filter_cons_of_pos
def Yy:=@List.filter_cons_of_neg
def Yz:=@List.cons.inj
def Y0:=@List.any_eq_true
def Y1:=@List.contains_iff_mem
def Y2:=@List.singleton_append
def Y3:=@List.mk_mem_zipIdx_iff_getElem?
def Y4:=@List.nodup_cons
def Y5:=@Nat.zero_add
def Y6:=@Bool.or_eq_true
def Y7:=@List.eq_nil_of_length_eq_zero
def Y8:=@PySem.W.plainGet_of
def Y9:=@List.forIn_nil
def X0:=@Array.append_assoc
def X1:=@Int.fdiv_eq_ediv_of_nonneg
def Wg:=@List.getElem?_append_right
def Wh:=@Bool.and_true
def Wi:=@PySem.F.excBase_ValueError
def UZ:=@List.take_add_one
def U0:=@Bool.not_eq_true'
def U1:=@Array.size_append
def To:=@Classical.byContradiction
def Tp:=@Nat.le_of_lt
def RU:=@List.zipIdx_cons
def Qe:=@List.set_eq_of_length_le
def z0A:=@Nat.sub_zero
def z0B:=@PySem.F.slot_tuple_index
def z0C:=@PySem.F.plainAttrs_dict
def z0D:=@List.of_mem_zip
def z0E:=@List.zipIdx_nil
def z0F:=@Array.size_push
def z0G:=@List.getElem?_set_self
def z0H:=@PySem.W.cellsFrom_some
def z0I:=@PySem.F.plainAttrs_str
def z0J:=@PySem.W.byRow2
def z0K:=@Bool.false_and
def z0L:=@List.drop_zero
def z0M:=@Array.mem_of_getElem?
def z0N:=@List.filterMap_append
def z0O:=@List.mem_iff_getElem
def z0P:=@Nat.le_of_eq
def z0Q:=@Nat.min_self
def z0R:=@List.ext_getElem?
def z0S:=@List.take_append_of_le_length
def z0T:=@Array.toList_setIfInBounds
def z0U:=@List.pairwise_iff_getElem
def z0V:=@Nat.lt_or_ge
def z0W:=@Nat.sub_self
def z0X:=@List.mem_of_mem_take
def z0Y:=@List.getElem?_drop
def z0Z:=@Array.toList_push
def z0a:=@List.nil_append
def z0b:=@List.drop_drop
def z0c:=@List.take_zero
def z0d:=@List.pairwise_singleton
def z0e:=@List.getElem?_take
def z0f:=@List.take_append_drop
def z0g:=@List.take_add
def z0h:=@List.Perm.append_left
def z0i:=@List.perm_append_comm
def z0j:=@List.mem_of_mem_drop
def z0k:=@Nat.add_assoc
def z0l:=@Array.toList_reverse
def z0m:=@List.Perm.refl
def z0n:=@Array.perm_iff_toList_perm
def z0o:=@List.pairwise_cons
local macro_rules|`(⇑$x)=>`(some $x)
local macro_rules|`(↥$x)=>`(($x).heap.objs.size)
local macro_rules | `(tactic| omega) => `(tactic| lia)
local macro_rules | `(⋯) => `(by omega)
local macro_rules | `(∅) => `(by decide)
local macro_rules | `(tactic| trivial) => `(tactic| first | exact Or.inl rfl | exact Or.inr rfl | exact Or.inr (Or.inl rfl) | exact Or.inr (Or.inr rfl))
abbrev aX:=PySem.W.Frag
abbrev gz(x:PySem.Str):Prop:=(x==("__debug__" :PySem.Str))=false
abbrev yZ(x:PySem.Str):Prop:=(x==("__classdict__" :PySem.Str))=false
abbrev gd(e:PySem.Expr)(es:List PySem.Expr)(v:PySem.Env):Prop:=PySem.starEach (e::es) v=(false,PySem.eval e v)::PySem.starEach es v
abbrev kP(p:PySem.Pos)(es:List PySem.Expr)(v:PySem.Env):Prop:=(PySem.backTo p (PySem.starEach es v)).any (·.1)=false
namespace HX
open PySem PySem.W
def Mr(st:SharedT->Thread->Option (SharedT×Thread))(ok:Thread->Bool)(n:Nat):SharedT->Thread->Option SharedT:=
 Nat.rec (motive:=λ_=>SharedT->Thread->Option SharedT) (λ_ _=>none) (λ_ ih s t=>match through t with
  |true=>⇑s
  |false=>match ok t with
   |false=>none
   |true=>match st s t with
    |some (s',t')=>ih s' t'
    |none=>none) n
variable{p:Program}
theorem IS{tb:String->Option Builtin}{w:World}{m:Nat}{ann:Option Value}(n:Nat):∀(a z:SharedT) (t:Thread),Mr (stepT (denote tb) p w) (stepOk m ann) n a t=⇑z->topRun tb p w m ann n a.abs t=⇑z.abs:=by
 induction n with
 |zero=>exact λ_ _ _ e=>nomatch e
 |succ n ih=>
  intro a z t
  rw[topRun]
  change(match through t with|true=>⇑a|false=>match stepOk m ann t with|false=>none|true=>match stepT (denote tb) p w a t with|some (b,u)=>Mr (stepT (denote tb) p w) (stepOk m ann) n b u|none=>none)=_->_
  cases through t
  ·cases stepOk m ann t
   ·exact λe=>nomatch e
   ·rcases q:stepT (denote tb) p w a t with _|⟨b,u⟩
    ·exact λe=>nomatch e
    ·dsimp only;rw[stepT_spec q];exact ih _ _ _
  ·intro e;cases e;rfl
def Pl:List Obj->Nat->BT->BT
 |[],_,t=>t
 |o::r,n,t=>Pl r (n+1) (t.ins n o)
def EM(P:Params):BT:=Pl (boot_heap P).objs.toList 0 .nil
theorem Ms(P:Params):absHeap (EM P) 11 {}=boot_heap P:=by kernel_rfl
def Lo(p:Program)(N:Nat)(w:World)(os:OsState):Option SharedT:=
 Mr (Fast.tw10156331382660048174 (Fast.tw11892475500146522536 Fast.tw14364793385576792824) p w) (Fast.tw6613529449190102663 11 ((boot_heap w.params).nsMap mainGlobals "__annotations__")) N ⟨EM w.params,11,{},Array.mk [],boot_drawn,boot_toks,os⟩ (topStub p)
variable{N:Nat}
theorem VM{w:World}{os:OsState}{z:SharedT}(h:Lo p N w os=⇑z):topRun treeTable p w 11 ((boot_heap w.params).nsMap mainGlobals "__annotations__") N ⟨boot_heap w.params,Array.mk [],boot_drawn,boot_toks,os⟩ (topStub p)=⇑z.abs:=by
 unfold Lo at h
 rw[<-Fast.te10156331382660048174,<-Fast.te11892475500146522536,<-Fast.te14364793385576792824,<-Fast.te6613529449190102663]at h
 have:=IS _ _ _ _ h
 unfold SharedT.abs at this
 dsimp only at this
 rw[Ms]at this
 exact this
abbrev Sr(p:Program)(w:World)(z:Shared):Bool:=staticsOk (importedModules p.main.body) (boot_heap w.params) z.heap&&namesBound p z.heap&&gensDone z&&laidKept (boot_heap w.params) z.heap
theorem VN{q:Program}{loose:List Str}{Xt:Shared->Bool}{α:Type}{Yf:Shared->α}{Ya:World->α}
  (h1:opening p=plainProg p.main.scope.names)(h2:Nat.ble 600 N=true)(h3:∀s,fenceModules? p s=⇑s)
  (c:∀w os,(Lo p N w os).map (λz=>Sr p w z.abs)=⇑true)
  (v:∀w os,(Lo p N w os).map (λz=>Fast.tw4187177175401517315 q loose (importedModules p.main.body) Xt true z.abs)=⇑(openGood q loose))
  (y:∀w os,(Lo p N w os).map (λz=>Yf z.abs)=⇑(Ya w)):LeftO p q loose Xt Yf Ya N:=λw=>by
 obtain⟨⟨h,gs,d,k,os⟩,e,e'⟩:=ZC.mp (boot_open h1 h2 h3 w)
 obtain⟨rfl,rfl,rfl,rfl⟩:h=boot_heap w.params/\gs=Array.mk []/\d=boot_drawn/\k=boot_toks:=by simpa using e'
 have hc:=c w os
 have hv:=v w os
 have hy:=y w os
 rw[<-Fast.te4187177175401517315]at hv
 obtain⟨z,ez,hc⟩:=ZC.mp hc
 rw[ez,YD,Option.some.injEq]at hv hy
 have r:=VM ez
 have t:topFrom treeTable p w N ⟨boot_heap w.params,Array.mk [],boot_drawn,boot_toks,os⟩=⇑z.abs:=by
  unfold topFrom
  dsimp only
  rw[show((boot_heap w.params).isNs mainGlobals&&(Array.mk []:Array GenState).size==0)=true from by kernel_rfl,show(boot_heap w.params).objs.size=11 from by kernel_rfl,r]
  show(match Sr p w z.abs with|true=>_|false=>_)=_
  rw[hc]
 unfold openEnds
 rw[e]
 rw[Ym,t]
 exact congrArg some (Prod.ext hv hy)
end HX
namespace L2.D.My
open PySem
abbrev mw:=PySem.Challenge.pw_signright_k65_struck_entries
def eZ(i:Nat):Stmt:=mw.main.body.getD i (.Pass ⟨0,0,0,0⟩)
def jV(i j:Nat):Stmt:=match eZ i with
 |.ClassDef (body:=b) ..=>b.getD j (.Pass ⟨0,0,0,0⟩)
 |_=>.Pass ⟨0,0,0,0⟩
def VO(s:Stmt):Arguments:=match s with
 |.FunctionDef (args:=a) ..=>a
 |_=>⟨[],[],none,[],[],none,[]⟩
def VP(s:Stmt):List Stmt:=match s with
 |.FunctionDef (body:=b) ..=>b
 |_=>[]
def VQ(s:Stmt):Scope:=match s with
 |.FunctionDef (scope:=b) ..=>b
 |_=>default
abbrev pJ:Value:=.none
abbrev jg(s:Str)(t:Tok):Value:=.str s t
abbrev bh(a:Addr):Value:=.ref a
abbrev bp(P:Params)(s:Str)(t:Tok)(v:Value):DictEntry:=⟨PyData.keyHash P s,.str s t,v⟩
abbrev UP(n q:Str)(t:Nat)(l:List Value):Obj:=⟨.type "code",none,.fields (.str n t::.str q (t+1)::.str "/claim/cut.py" (t+2)::l).toArray,#[]⟩
abbrev VR(n q:Str)(st:Stmt)(dV kV doc pm:Value)(an:Option Addr)(cd ct:Value):Obj:=⟨.type "function",none,.func (PySem.W.fnOf n q (VO st) (VP st) (VQ st) dV kV doc pm an cd ct),#[]⟩
abbrev VS(n q:Str)(t:Nat)(L k:Int)(a:Nat)(i:Int)(j:Nat):Obj:=UP n q t [.int L 0,.int k 0,.int 0 0,.int 0 0,.int 3 0,bh a,.bool true,.int 181 0,bh (a+1),pJ,bh (a+2),bh (a+3),bh (a+4),.int i 0,.int L 0,jg "/claim/cut.py" j]
abbrev VT(n q:Str)(t:Nat)(L k:Int)(a:Nat)(i:Int)(j:Nat):Obj:=UP n q t [.int L 0,.int k 0,.int 0 0,.int 0 0,.int 3 0,bh a,.bool true,.int 181 0,bh (a+1),pJ,pJ,pJ,bh (a+2),.int i 0,.int L 0,jg "/claim/cut.py" j]
abbrev VU(n q:Str)(st:Stmt)(m:Str)(t a:Nat):Obj:=VR n q st pJ pJ pJ (jg m t) none (bh a) pJ
def Ss(l:List Stmt):List Nat->List Stmt
 |[]=>[]
 |i::r=>match l[i]? with
  |some s=>s::Ss l r
  |none=>Ss l r
def OS:Program:={mw with main:={mw.main with body:=Ss mw.main.body [0,2,3,4,5,6,7,8,9,10,12,13,14,15,16,17,18,19,20,21,22,23,25,26,27,28,29,31,32,33,34,35,36,38,39,40,41,42,43,45,46,47,48,50,51,52,53,54,55,56,57,58,59,60,61,62,63,64,65,66]}}
def CJ(m:Str)(mt:Nat)(f:Str->Nat->Str×Stmt):List (Bool×Nat×Nat×Nat×Nat×Nat×Str×Nat)->aX
 |[]=>[]
 |(d,a,t,L,k,i,n,s)::r=>(a,if d then VS n (f n s).1 t L k (a-5) i (i+1)else VT n (f n s).1 t L k (a-3) i (i+1))::(a+1,VU n (f n s).1 (f n s).2 m mt a)::CJ m mt f r
def wx(P:Params):aX:=
 (2,⟨pJ,none,.dict #[] 0,#[]⟩)::
 (3,⟨(.type "dict"),none,.dict (List.toArray [bp P "__name__" 165 (jg "law_signright_k65_struck_entries" 1069),bp P "__doc__" 166 pJ,bp P "__package__" 167 pJ,bp P "__loader__" 168 (.builtin "__main__.__loader__#opaque"),bp P "__spec__" 169 pJ,bp P "__annotations__" 170 (bh 6),bp P "__builtins__" 171 (bh 4),bp P "__file__" 173 (jg "/claim/cut.py" 172),bp P "__cached__" 174 pJ,bp P "_wall" 193 (bh 21),bp P "SignError" 213 (bh 31),bp P "NoRoll" 229 (bh 44),bp P "NoHand" 245 (bh 56),bp P "NoGroup" 261 (bh 68),bp P "NoRule" 286 (bh 87),bp P "NoDay" 302 (bh 99),bp P "NoDeputy" 318 (bh 111),bp P "NoEntry" 334 (bh 123),bp P "Unruled" 350 (bh 135),bp P "MOST_HANDS" 354 (.int 6 353),bp P "MOST_SIGNS" 356 (.int 20 355),bp P "KEPT_WORDS" 360 (bh 138),bp P "is_name" 366 (bh 143),bp P "roll_of" 375 (bh 150),bp P "has_hand" 383 (bh 157),bp P "hands_of" 389 (bh 162),bp P "group_of" 399 (bh 169),bp P "names_of" 405 (bh 174),bp P "place" 413 (bh 181),bp P "within" 421 (bh 188),bp P "groups_of" 428 (bh 195),bp P "lets" 436 (bh 200),bp P "least" 445 (bh 207),bp P "least_ladders" 446 (bh 207),bp P "letting" 452 (bh 212),bp P "some" 458 (bh 217),bp P "Rule" 511 (bh 255),bp P "Hand" 567 (bh 304),bp P "Counting" 619 (bh 345),bp P "All" 657 (bh 378),bp P "Any" 695 (bh 411),bp P "Some" 734 (bh 444),bp P "MOST_PARTS" 738 (.int 8 737),bp P "FEWEST_PARTS" 769 (bh 447),bp P "shared_signs" 780 (bh 454),bp P "counting_rule" 788 (bh 461),bp P "Reading" 866 (bh 518),bp P "read" 876 (bh 529),bp P "check_day" 885 (bh 536),bp P "check_days" 893 (bh 543),bp P "signed_roles" 899 (bh 548),bp P "Book" 1068 (bh 654),bp P "_law_cell_at" 1078 (bh 665),bp P "_law_base" 1089 (bh 672),bp P "_law_name" 1101 (bh 679),bp P "_law_names" 1118 (bh 686),bp P "_law_roll" 1125 (bh 693),bp P "_law_mixed" 1136 (bh 700),bp P "_law_whole" 1143 (bh 707),bp P "_law_pair_of" 1155 (bh 714),bp P "_law_rule_by" 1161 (bh 719),bp P "_law_live" 1167 (bh 724),bp P "_law_entry" 1182 (bh 731),bp P "_law_done" 1191 (bh 738),bp P "_law_entered" 1204 (bh 745),bp P "_law_may" 1214 (bh 752),bp P "_law_least" 1223 (bh 759),bp P "_law_no_entry" 1232 (bh 766),bp P "law" 1238 (bh 771)]) 69,#[]⟩)::
 (30,⟨(.type "dict"),none,.dict (List.toArray [bp P "__module__" 203 (jg "signright.errors" 194),bp P "__firstlineno__" 207 (.int 5 206),bp P "__static_attributes__" 208 (bh 29),bp P "__weakref__" 210 (bh 32),bp P "__doc__" 211 pJ]) 3,#[]⟩)::
 (31,⟨(.type "type"),none,.cls ⟨"SignError",[(.type "ValueError")],[(bh 31),(.type "ValueError"),(.type "Exception"),(.type "BaseException"),(.type "object")],30,"SignError",true,[],[(bh 44),(bh 56),(bh 68),(bh 87),(bh 99),(bh 111),(bh 123),(bh 135)],false,none,false⟩,#[⇑(bh 22),none,⇑(jg "SignError" 196),⇑(jg "SignError" 204),⇑(.builtin "ValueError.__new__"),⇑(.bool true)]⟩)::
 (122,⟨(.type "dict"),none,.dict (List.toArray [bp P "__module__" 326 (jg "signright.errors" 194),bp P "__firstlineno__" 330 (.int 22 329),bp P "__static_attributes__" 331 (bh 121),bp P "__doc__" 332 pJ]) 2,#[]⟩)::
 (123,⟨(.type "type"),none,.cls ⟨"NoEntry",[(bh 31)],[(bh 123),(bh 31),(.type "ValueError"),(.type "Exception"),(.type "BaseException"),(.type "object")],122,"NoEntry",true,[],[],false,none,false⟩,#[⇑(bh 114),none,⇑(jg "NoEntry" 319),⇑(jg "NoEntry" 327),⇑(.builtin "ValueError.__new__"),⇑(.bool true)]⟩)::
 (134,⟨(.type "dict"),none,.dict (List.toArray [bp P "__module__" 342 (jg "signright.errors" 194),bp P "__firstlineno__" 346 (.int 24 345),bp P "__static_attributes__" 347 (bh 133),bp P "__doc__" 348 pJ]) 2,#[]⟩)::
 (135,⟨(.type "type"),none,.cls ⟨"Unruled",[(bh 31)],[(bh 135),(bh 31),(.type "ValueError"),(.type "Exception"),(.type "BaseException"),(.type "object")],134,"Unruled",true,[],[],false,none,false⟩,#[⇑(bh 126),none,⇑(jg "Unruled" 335),⇑(jg "Unruled" 343),⇑(.builtin "ValueError.__new__"),⇑(.bool true)]⟩)::
 (138,⟨.type "tuple",none,.seq (List.toArray [(jg "all" 357),(jg "any" 358),(jg "of" 359)]) 0,#[]⟩)::
 (254,⟨(.type "dict"),none,.dict (List.toArray [bp P "__module__" 468 (jg "signright.rules" 459),bp P "__firstlineno__" 472 (.int 82 471),bp P "shape" 479 (bh 231),bp P "text" 486 (bh 238),bp P "lets" 495 (bh 245),bp P "ladder" 503 (bh 252),bp P "__static_attributes__" 504 (bh 253),bp P "__dict__" 506 (bh 256),bp P "__weakref__" 508 (bh 257),bp P "__doc__" 509 pJ]) 4,#[]⟩)::
 (255,⟨(.type "type"),none,.cls ⟨"Rule",[(.type "object")],[(bh 255),(.type "object")],254,"Rule",true,[],[(bh 304),(bh 345)],false,none,false⟩,#[none,none,⇑(jg "Rule" 461),⇑(jg "Rule" 469),⇑(.builtin "object.__new__"),⇑(.bool true)]⟩)::
 (303,⟨(.type "dict"),none,.dict (List.toArray [bp P "__module__" 519 (jg "signright.rules" 459),bp P "__firstlineno__" 523 (.int 95 522),bp P "__init__" 531 (bh 273),bp P "shape" 538 (bh 280),bp P "text" 545 (bh 287),bp P "lets" 554 (bh 294),bp P "ladder" 562 (bh 301),bp P "__static_attributes__" 564 (bh 302),bp P "__doc__" 565 pJ]) 2,#[]⟩)::
 (304,⟨(.type "type"),none,.cls ⟨"Hand",[(bh 255)],[(bh 304),(bh 255),(.type "object")],303,"Hand",true,[],[],false,none,false⟩,#[⇑(bh 260),none,⇑(jg "Hand" 512),⇑(jg "Hand" 520),⇑(.builtin "object.__new__"),⇑(.bool true)]⟩)::
 (344,⟨(.type "dict"),none,.dict (List.toArray [bp P "__module__" 575 (jg "signright.rules" 459),bp P "__firstlineno__" 579 (.int 111 578),bp P "__init__" 588 (bh 320),bp P "lets" 594 (bh 325),bp P "ladder" 600 (bh 330),bp P "shapes_of_parts" 607 (bh 337),bp P "text_of_parts" 613 (bh 342),bp P "__static_attributes__" 616 (bh 343),bp P "__doc__" 617 pJ]) 2,#[]⟩)::
 (345,⟨(.type "type"),none,.cls ⟨"Counting",[(bh 255)],[(bh 345),(bh 255),(.type "object")],344,"Counting",true,[],[(bh 378),(bh 411),(bh 444)],false,none,false⟩,#[⇑(bh 307),none,⇑(jg "Counting" 568),⇑(jg "Counting" 576),⇑(.builtin "object.__new__"),⇑(.bool true)]⟩)::
 (377,⟨(.type "dict"),none,.dict (List.toArray [bp P "__module__" 627 (jg "signright.rules" 459),bp P "__firstlineno__" 631 (.int 129 630),bp P "__init__" 639 (bh 361),bp P "shape" 646 (bh 368),bp P "text" 653 (bh 375),bp P "__static_attributes__" 654 (bh 376),bp P "__doc__" 655 pJ]) 2,#[]⟩)::
 (378,⟨(.type "type"),none,.cls ⟨"All",[(bh 345)],[(bh 378),(bh 345),(bh 255),(.type "object")],377,"All",true,[],[],false,none,false⟩,#[⇑(bh 348),none,⇑(jg "All" 620),⇑(jg "All" 628),⇑(.builtin "object.__new__"),⇑(.bool true)]⟩)::
 (410,⟨(.type "dict"),none,.dict (List.toArray [bp P "__module__" 665 (jg "signright.rules" 459),bp P "__firstlineno__" 669 (.int 139 668),bp P "__init__" 677 (bh 394),bp P "shape" 684 (bh 401),bp P "text" 691 (bh 408),bp P "__static_attributes__" 692 (bh 409),bp P "__doc__" 693 pJ]) 2,#[]⟩)::
 (411,⟨(.type "type"),none,.cls ⟨"Any",[(bh 345)],[(bh 411),(bh 345),(bh 255),(.type "object")],410,"Any",true,[],[],false,none,false⟩,#[⇑(bh 381),none,⇑(jg "Any" 658),⇑(jg "Any" 666),⇑(.builtin "object.__new__"),⇑(.bool true)]⟩)::
 (443,⟨(.type "dict"),none,.dict (List.toArray [bp P "__module__" 703 (jg "signright.rules" 459),bp P "__firstlineno__" 707 (.int 149 706),bp P "__init__" 716 (bh 427),bp P "shape" 723 (bh 434),bp P "text" 730 (bh 441),bp P "__static_attributes__" 731 (bh 442),bp P "__doc__" 732 pJ]) 2,#[]⟩)::
 (444,⟨(.type "type"),none,.cls ⟨"Some",[(bh 345)],[(bh 444),(bh 345),(bh 255),(.type "object")],443,"Some",true,[],[],false,none,false⟩,#[⇑(bh 414),none,⇑(jg "Some" 696),⇑(jg "Some" 704),⇑(.builtin "object.__new__"),⇑(.bool true)]⟩)::
 (447,⟨(.type "dict"),none,.dict (List.toArray [bp P "all(" 739 (.int 1 740),bp P "any(" 741 (.int 1 742),bp P "1 of (" 743 (.int 1 744),bp P "2 of (" 745 (.int 2 746),bp P "3 of (" 747 (.int 3 748),bp P "4 of (" 749 (.int 4 750),bp P "5 of (" 751 (.int 5 752),bp P "6 of (" 753 (.int 6 754),bp P "7 of (" 755 (.int 7 756),bp P "8 of (" 757 (.int 8 758)]) 10,#[]⟩)::
 (517,⟨(.type "dict"),none,.dict (List.toArray [bp P "__module__" 796 (jg "signright.reader" 735),bp P "__firstlineno__" 800 (.int 175 799),bp P "__init__" 809 (bh 475),bp P "take_word" 815 (bh 480),bp P "comes" 823 (bh 487),bp P "take_sign" 831 (bh 494),bp P "take_parts" 840 (bh 501),bp P "take_rule" 848 (bh 508),bp P "take_end" 855 (bh 515),bp P "__static_attributes__" 859 (bh 516),bp P "__dict__" 861 (bh 519),bp P "__weakref__" 863 (bh 520),bp P "__doc__" 864 pJ]) 4,#[]⟩)::
 (518,⟨(.type "type"),none,.cls ⟨"Reading",[(.type "object")],[(bh 518),(.type "object")],517,"Reading",true,[],[],false,none,false⟩,#[none,none,⇑(jg "Reading" 789),⇑(jg "Reading" 797),⇑(.builtin "object.__new__"),⇑(.bool true)]⟩)::
 (653,⟨(.type "dict"),none,.dict (List.toArray [bp P "__module__" 907 (jg "signright.book" 877),bp P "__firstlineno__" 911 (.int 233 910),bp P "__init__" 919 (bh 562),bp P "number_entry" 926 (bh 569),bp P "rule" 937 (bh 576),bp P "away" 949 (bh 583),bp P "deputy" 963 (bh 590),bp P "strike" 971 (bh 597),bp P "ladder_on" 983 (bh 604),bp P "away_on" 995 (bh 611),bp P "deputies_on" 1009 (bh 618),bp P "signers_on" 1021 (bh 625),bp P "may" 1032 (bh 632),bp P "least" 1038 (bh 637),bp P "first_name" 1046 (bh 644),bp P "paper" 1055 (bh 651),bp P "__static_attributes__" 1061 (bh 652),bp P "__dict__" 1063 (bh 655),bp P "__weakref__" 1065 (bh 656),bp P "__doc__" 1066 pJ]) 4,#[]⟩)::
 (654,⟨(.type "type"),none,.cls ⟨"Book",[(.type "object")],[(bh 654),(.type "object")],653,"Book",true,[],[],false,none,false⟩,#[none,none,⇑(jg "Book" 900),⇑(jg "Book" 908),⇑(.builtin "object.__new__"),⇑(.bool true)]⟩)::
 (CJ "signright.hands" 351 (λn i=>(n,eZ i)) [(false,142,361,30,1,364,"is_name",15),(true,149,367,34,1,373,"roll_of",16),(true,156,376,45,2,381,"has_hand",17),(false,161,384,47,1,387,"hands_of",18),(true,168,390,49,2,397,"group_of",19),(false,173,400,56,2,403,"names_of",20),(true,180,406,60,1,411,"place",21),(true,187,414,63,2,419,"within",22),(true,194,422,65,1,426,"groups_of",23)]++
 CJ "signright.ladders" 429 (λn i=>(n,eZ i)) [(false,199,431,68,2,434,"lets",25),(true,206,437,70,1,443,"least",26),(false,211,447,77,2,450,"letting",28),(false,216,453,79,2,456,"some",29)]++
 CJ "signright.rules" 459 (λn i=>((("Hand" :Str)++("." :Str))++n,jV 32 i)) [(true,272,524,97,2,529,"__init__",0),(true,300,555,109,2,560,"ladder",4)]++
 CJ "signright.rules" 459 (λn i=>((("Counting" :Str)++("." :Str))++n,jV 33 i)) [(true,319,580,113,3,586,"__init__",0),(false,329,595,121,2,598,"ladder",2)]++
 CJ "signright.rules" 459 (λn i=>((("All" :Str)++("." :Str))++n,jV 34 i)) [(true,360,632,131,2,637,"__init__",0)]++
 CJ "signright.rules" 459 (λn i=>((("Any" :Str)++("." :Str))++n,jV 35 i)) [(true,393,670,141,2,675,"__init__",0)]++
 CJ "signright.rules" 459 (λn i=>((("Some" :Str)++("." :Str))++n,jV 36 i)) [(true,426,708,151,3,714,"__init__",0)]++
 CJ "signright.reader" 735 (λn i=>(n,eZ i)) [(true,453,770,162,2,778,"shared_signs",40),(true,460,781,169,2,786,"counting_rule",41),(true,528,867,218,2,874,"read",43)]++
 CJ "signright.reader" 735 (λn i=>((("Reading" :Str)++("." :Str))++n,jV 42 i)) [(true,474,801,177,3,807,"__init__",0),(false,479,810,182,1,813,"take_word",1),(true,486,816,190,2,821,"comes",2),(true,493,824,193,2,829,"take_sign",3),(true,500,832,198,2,838,"take_parts",4),(true,507,841,209,1,846,"take_rule",5),(true,514,849,215,1,853,"take_end",6)]++
 CJ "signright.book" 877 (λn i=>(n,eZ i)) [(true,535,879,224,1,883,"check_day",45),(true,542,886,227,2,891,"check_days",46),(false,547,894,231,2,897,"signed_roles",47)]++
 CJ "signright.book" 877 (λn i=>((("Book" :Str)++("." :Str))++n,jV 48 i)) [(true,561,912,235,2,917,"__init__",0),(true,568,920,242,1,924,"number_entry",1),(true,575,927,246,3,935,"rule",2),(true,582,938,253,4,947,"away",3),(true,589,950,260,5,961,"deputy",4),(true,596,964,270,2,969,"strike",5),(true,603,972,280,2,981,"ladder_on",6),(true,610,984,291,2,993,"away_on",7),(true,617,996,298,3,1007,"deputies_on",8),(true,624,1010,305,2,1019,"signers_on",9),(true,631,1022,316,3,1030,"may",10),(false,636,1033,322,2,1036,"least",11)]++
 CJ "law_signright_k65_struck_entries" 1069 (λn i=>(n,eZ i)) [(true,664,1071,335,2,1076,"_law_cell_at",50),(true,671,1079,339,2,1087,"_law_base",51),(true,678,1090,346,4,1099,"_law_name",52),(true,685,1102,350,3,1116,"_law_names",53),(true,692,1119,365,1,1123,"_law_roll",54),(true,699,1126,367,2,1134,"_law_mixed",55),(true,706,1137,374,1,1141,"_law_whole",56),(true,713,1144,376,2,1153,"_law_pair_of",57),(false,718,1156,384,2,1159,"_law_rule_by",58),(false,723,1162,396,1,1165,"_law_live",59),(true,730,1168,398,4,1180,"_law_entry",60),(true,737,1183,411,3,1189,"_law_done",61),(true,744,1192,419,5,1202,"_law_entered",62),(true,751,1205,427,3,1212,"_law_may",63),(true,758,1215,434,2,1221,"_law_least",64),(true,765,1224,441,2,1230,"_law_no_entry",65),(false,770,1233,448,1,1236,"law",66)])
abbrev IG:List Addr:=[2,3,30,31,122,123,134,135,138,254,255,303,304,344,345,377,378,410,411,443,444,447,517,518,653,654,142,143,149,150,156,157,161,162,168,169,173,174,180,181,187,188,194,195,199,200,206,207,211,212,216,217,272,273,300,301,319,320,329,330,360,361,393,394,426,427,453,454,460,461,528,529,474,475,479,480,486,487,493,494,500,501,507,508,514,515,535,536,542,543,547,548,561,562,568,569,575,576,582,583,589,590,596,597,603,604,610,611,617,618,624,625,631,632,636,637,664,665,671,672,678,679,685,686,692,693,699,700,706,707,713,714,718,719,723,724,730,731,737,738,744,745,751,752,758,759,765,766,770,771]
theorem IT:∀P,IG=(wx P).map (·.1):=λ_=>by kernel_rfl
abbrev Su(s:Shared):Bool:=PySem.W.xlAt OS [] s&&PySem.W.recOk (PySem.W.RowW.records (PySem.W.OpenRow.toRowW (PySem.Challenge.rw_signright_k65_struck_entries).row)) s
abbrev AO(w:World):Prop:=∀os,(HX.Lo mw 20000 w os).map (λz=>HX.Sr mw w z.abs)=⇑true
theorem Pm:∀w:World,AO (w.withFollow "special-get-raises" false):=by intro w _;kernel_rfl
theorem Pn:∀w:World,AO (w.withFollow "special-get-raises" true):=by intro w _;kernel_rfl
theorem Sv:∀w,AO w:=z0J "special-get-raises" (P:=AO) Pm Pn
abbrev IU(w:World):Prop:=∀os,(HX.Lo mw 20000 w os).map (λz=>PySem.W.Fast.tw4187177175401517315 OS ["least_ladders","FEWEST_PARTS"] (importedModules mw.main.body) Su true z.abs)=⇑(PySem.W.openGood OS ["least_ladders","FEWEST_PARTS"])
theorem Sw:∀w:World,IU (w.withFollow "special-get-raises" false):=by intro w _;kernel_rfl
theorem Sx:∀w:World,IU (w.withFollow "special-get-raises" true):=by intro w _;kernel_rfl
theorem VV:∀w,IU w:=z0J "special-get-raises" (P:=IU) Sw Sx
abbrev IV(w:World):Prop:=∀os,(HX.Lo mw 20000 w os).map (λz=>(PySem.W.kHook wx IG IT).obs z.abs)=⇑((PySem.W.kHook wx IG IT).val w)
theorem Sy:∀w:World,IV (w.withFollow "special-get-raises" false):=by intro w _;kernel_rfl
theorem Sz:∀w:World,IV (w.withFollow "special-get-raises" true):=by intro w _;kernel_rfl
theorem VW:∀w,IV w:=z0J "special-get-raises" (P:=IV) Sy Sz
theorem VX:PySem.W.LeftO mw OS ["least_ladders","FEWEST_PARTS"] Su (PySem.W.kHook wx IG IT).obs (PySem.W.kHook wx IG IT).val 20000:=HX.VN (by kernel_rfl) (by kernel_rfl) (λs=>by kernel_rfl) Sv VV VW
end L2.D.My
namespace L2
open PySem PySem.Spec PyProof.Rows
abbrev Key:=Sum Int Str
def tD:Key->Value->Bool
 |.inl k,v=>Value.isInt k v
 |.inr x,v=>Value.isStrOf x v
def SA(w:World):Key->Int
 |.inl k=>hashInt k
 |.inr x=>hashStr w x
theorem cO:∀{k:Key} {v:Value},tD k v=true->(∃i t,k=Sum.inl i/\v=Value.int i t)\/(∃x t,k=Sum.inr x/\v=Value.str x t)
 |.inl i,v,h=>by
  obtain⟨t,e⟩:=Value.isInt_shape (k:=i) (v:=v) h
  exact .inl ⟨i,t,rfl,e⟩
 |.inr x,v,h=>by
  obtain⟨t,e⟩:=Value.isStrOf_shape (x:=x) (v:=v) h
  exact .inr ⟨x,t,rfl,e⟩
theorem CK(i:Int)(t:Tok):tD (.inl i) (.int i t)=true:=by simp[tD,Value.isInt]
theorem CL(x:Str)(t:Tok):tD (.inr x) (.str x t)=true:=by simp[tD,Value.isStrOf]
theorem Mu(a b:Int):decide ((Sum.inl a:Key)=Sum.inl b)=(a==b):=by
 by_cases e:a=b
 ·subst e;simp
 ·have h:¬(Sum.inl a:Key)=Sum.inl b:=λq=>e (Sum.inl.inj q)
  rw[Wp h]
  exact(beq_eq_false_iff_ne.mpr e).symm
theorem Mv(a b:Str):decide ((Sum.inr a:Key)=Sum.inr b)=decide (a=b):=by
 by_cases e:a=b
 ·subst e;simp
 ·have h:¬(Sum.inr a:Key)=Sum.inr b:=λq=>e (Sum.inr.inj q)
  rw[Wp h,Wp e]
theorem Mw(a:Int)(b:Str):decide ((Sum.inl a:Key)=Sum.inr b)=false:=Wp (λq=>nomatch q)
theorem Mx(a:Str)(b:Int):decide ((Sum.inr a:Key)=Sum.inl b)=false:=Wp (λq=>nomatch q)
def cP(prog:Program)(w:World):PySem.KeyKind prog w Key where
 is:=tD
 hash:=SA w
 inj:=λv a b ha hb=>by
  rcases cO ha with⟨i,t,rfl,rfl⟩|⟨x,t,rfl,rfl⟩
  ·rcases cO hb with⟨j,u,rfl,e⟩|⟨y,u,rfl,e⟩
   ·injection e with e1 _;rw[e1]
   ·exact nomatch e
  ·rcases cO hb with⟨j,u,rfl,e⟩|⟨y,u,rfl,e⟩
   ·exact nomatch e
   ·injection e with e1 _;rw[e1]
 byValue:=λk v h=>by
  rcases cO h with⟨i,t,rfl,rfl⟩|⟨x,t,rfl,rfl⟩<;>rfl
 pyHash:=λhv h=>by
  rcases cO hv with⟨i,t,rfl,rfl⟩|⟨x,t,rfl,rfl⟩
  ·exact wpAny_pyHash_int h
  ·exact wpAny_pyHash_str h
 eqBool:=λhu hv h=>by
  rcases cO hu with⟨i,t,rfl,rfl⟩|⟨x,t,rfl,rfl⟩
  ·rcases cO hv with⟨j,u,rfl,rfl⟩|⟨y,u,rfl,rfl⟩
   ·rw[Mu]at h;exact wpAny_eqBool_int h
   ·rw[Mw]at h;exact SeqAt.EqAt.int_str i t y u _ _ _ _ h
  ·rcases cO hv with⟨j,u,rfl,rfl⟩|⟨y,u,rfl,rfl⟩
   ·rw[Mx]at h;exact SeqAt.EqAt.str_int x t j u _ _ _ _ h
   ·rw[Mv]at h;exact wpAny_eqBool_str h
 «strs»:=λk x t v h=>by
  rcases cO h with⟨i,u,rfl,e⟩|⟨y,u,rfl,e⟩
  ·exact nomatch e
  ·injection e with e1 _
   subst e1
   cases v<;>rfl
theorem wz(prog:Program)(w:World)(i:Int)(t:Tok):(cP prog w).is (.inl i) (.int i t)=true:=CK i t
theorem wA(prog:Program)(w:World)(x:Str)(t:Tok):(cP prog w).is (.inr x) (.str x t)=true:=CL x t
inductive V where
 |non|bl(b:Bool)|int(i:Int)|str(x:Str)|byt(b:Array UInt8)|flt(b:UInt64)|ref(a:Addr)|ty(n:String)
 deriving DecidableEq
def RelV:V->Value->Prop
 |.non,u=>u=Value.none
 |.bl b,u=>u=Value.bool b
 |.int i,u=>∃t,u=Value.int i t
 |.str x,u=>∃t,u=Value.str x t
 |.byt b,u=>∃t,u=Value.bytes b t
 |.flt b,u=>∃t,u=Value.float b t
 |.ref a,u=>u=Value.ref a
 |.ty n,u=>u=Value.type n
abbrev Vals:List V->List Value->Prop:=Paired RelV
variable{xs:List V}{us:List Value}
theorem Vals.length(r:Vals xs us):xs.length=us.length:=Paired.length r
theorem Vals.get:∀{xs:List V} {us:List Value} {i:Nat} {x:V},Vals xs us->xs[i]?=⇑x->∃u,us[i]?=⇑u/\RelV x u
 |_,_,_,_,.nil,e=>by simp at e
 |_,_,0,_,.cons r _,e=>by simp at e;subst e;exact⟨_,rfl,r⟩
 |_,_,i+1,x,.cons _ t,e=>by
  obtain⟨u,h1,h2⟩:=Vals.get (i:=i) (x:=x) t (by simpa using e)
  exact⟨u,by simpa using h1,h2⟩
variable{u:Value}
theorem Vals.set{x:V}(r:RelV x u):∀{xs:List V} {us:List Value} (i:Nat),Vals xs us->Vals (xs.set i x) (us.set i u)
 |_,_,_,.nil=>.nil
 |_,_,0,.cons _ t=>.cons r t
 |_,_,i+1,.cons q t=>.cons q (Vals.set r i t)
theorem Vals.append:∀{xs ys:List V} {us ws:List Value},Vals xs us->Vals ys ws->Vals (xs++ys) (us++ws)
 |_,_,_,_,.nil,s=>s
 |_,_,_,_,.cons r t,s=>.cons r (Vals.append t s)
theorem Vals.take:∀{xs:List V} {us:List Value} (n:Nat),Vals xs us->Vals (xs.take n) (us.take n)
 |_,_,0,_=>.nil
 |_,_,_+1,.nil=>.nil
 |_,_,n+1,.cons r t=>.cons r (Vals.take n t)
theorem Vals.drop:∀{xs:List V} {us:List Value} (n:Nat),Vals xs us->Vals (xs.drop n) (us.drop n)
 |_,_,0,r=>r
 |_,_,_+1,.nil=>.nil
 |_,_,n+1,.cons _ t=>Vals.drop n t
def mx:Option V->Option Value->Prop
 |some v,some u=>RelV v u
 |none,none=>True
 |_,_=>False
def KV{κ:Type}:List (κ×V)->List (κ×Value)->Prop:=Paired λ(p:κ×V) (q:κ×Value)=>p.1=q.1/\RelV p.2 q.2
def kV:Key->V
 |.inl i=>.int i
 |.inr x=>.str x
inductive HO where
 |lst(xs:List V)
 |tup(xs:List V)
 |dK(kvs:List (Key×V))|dT(kvs:List (List Key×V))
 |set(S:Int->Bool)(n:Nat)
 |ins(C dx:Addr)(fs:List (Str×V))
 |own(x:Addr)
 |xd(fs:List (Str×V))
 |met(f x:Addr)
 |rng(lo hi:Int)
 |frz(o:Obj)(u:HO)
 |tbl(ps:Array Value)
 |ext(φ:Heap->Prop)
abbrev Hp:=Addr->Option HO
def upd(H:Hp)(a:Addr)(o:HO):Hp:=λb=>if b=a then ⇑o else H b
variable{H:Hp}{a:Addr}
theorem aF{o:HO}:upd H a o a=⇑o:=by unfold upd;rw[W1 rfl]
theorem au{b:Addr}{o:HO}(h:b≠a):upd H a o b=H b:=by unfold upd;rw[UF h]
theorem Po{b:Addr}{o u:HO}(h:H a=⇑o)(h':H b=⇑u)(d:o≠u):a≠b:=by
 intro e;subst e;rw[h]at h';exact d (ZX h')
theorem aO{b:Addr}{o:HO}(h:H a=⇑o)(h':H b=none):a≠b:=by
 intro e;subst e;rw[h]at h';cases h'
section
variable(P:Program)(w:World)
def OT(h:Heap)(a:Addr):Prop:=∃o,h.get? a=⇑o/\o.dict=none
def cZ(H:Hp)(h:Heap)(a:Addr):HO->Prop
 |.lst xs=>xs.length<=sizeLine/\∃(its:List Value) (n:Nat),Vals xs its/\h.get? a=some {cls:=.type "list",data:=.seq its.toArray n}
 |.tup xs=>(xs.length<=sizeLine/\OT h a)/\∃its:List Value,Vals xs its/\IsTup h a its.toArray
 |.dK kvs=>kvs.length<=sizeLine/\(a==sysModules)=false/\∃vs,KV kvs vs/\h.DictOf (cP P w) a vs
 |.dT kvs=>kvs.length<=sizeLine/\(a==sysModules)=false/\∃xs:List (List Key×Addr×Value),
   Paired (λ(p:List Key×V) (q:List Key×Addr×Value)=>p.1=q.1/\H q.2.1=⇑(.tup (p.1.map kV))/\RelV p.2 q.2.2) kvs xs/\
   ∃o es ep,h.get? a=⇑o/\o.ExactDict/\o.data=.dict es ep/\es.toList=xs.map (entryOfKey (tupleKind (cP P w)))/\(xs.map (·.1)).Nodup
 |.set S n=>h.SetOf (intKind P w) a S n
 |.ins C dx fs=>H dx=⇑(.own a)/\fs.length<=1000/\dx≠a/\h.get? a=⇑(PySem.W.instObj C dx)/\
   ∃mA,h.Ns1 dx mA/\(∀f,mx (fs.lookup f) (mA f))/\PySem.Within mA (fs.map (·.1))
 |.own _=>∃o,h.get? a=⇑o
 |.xd fs=>∃mA,h.Ns1 a mA/\∀f,mx (fs.lookup f) (mA f)
 |.rng lo hi=>∃t u v,h.get? a=some {cls:=.type "range",data:=.fields #[.int lo t,.int hi u,.int 1 v]}
 |.frz o u=>h.get? a=⇑o/\cZ H h a u
 |.tbl ps=>h.get? a=some {cls:=.none,data:=.fields ps}
 |.met f x=>h.get? a=⇑(PySem.W.methodObj (.ref f) (.ref x))
 |.ext φ=>φ h/\(∃o,h.get? a=⇑o)/\∀h1 h2:Heap,φ h1->(∀o,h1.get? a=⇑o->h2.get? a=⇑o)->φ h2
def lR(H:Hp)(h:Heap):Prop:=∀a o,H a=⇑o->cZ P w H h a o
end
variable{P:Program}{H':Hp}{h h':Heap}{α:Type}
section
variable{w:World}{o:HO}
theorem cZ.lt(x:cZ P w H h a o):a<h.objs.size:=by
 cases o with
 |lst xs=>obtain⟨_,_,_,_,e⟩:=x;exact ZN e
 |tup xs=>obtain⟨_,_,_,p⟩:=x;exact p.lt
 |dK kvs=>obtain⟨_,_,_,_,o,_,_,e,_⟩:=x;exact ZN e
 |dT kvs=>obtain⟨_,_,_,_,o,_,_,e,_⟩:=x;exact ZN e
 |set S n=>obtain⟨o,_,_,_,e,_⟩:=x;exact ZN e
 |ins C dx fs=>obtain⟨_,_,_,e,_⟩:=x;exact ZN e
 |own y=>obtain⟨_,e⟩:=x;exact ZN e
 |xd fs=>obtain⟨_,⟨_,_,_,e,_⟩,_⟩:=x;exact ZN e
 |rng lo hi=>obtain⟨_,_,_,e⟩:=x;exact ZN e
 |frz ob u=>obtain⟨e,_⟩:=x;exact ZN e
 |tbl ps=>exact ZN (show h.get? a=⇑_ from x)
 |met f y=>exact ZN (show h.get? a=⇑_ from x)
 |ext φ=>obtain⟨_,⟨_,e⟩,_⟩:=x;exact ZN e
theorem Paired.Mz{β:Type}{F G:α->β->Prop}:∀{l₁:List α} {l₂:List β},Paired F l₁ l₂->(∀a b,F a b->G a b)->Paired G l₁ l₂
 |_,_,.nil,_=>.nil
 |_,_,.cons r t,f=>.cons (f _ _ r) (Paired.Mz t f)
theorem cZ.jW(x:cZ P w H h a o)(k:∀b u,(b=a\/H b=⇑(.own a))->h.get? b=⇑u->h'.get? b=⇑u)
  (ho:∀b,H b=⇑(.own a)->H' b=⇑(.own a))(ht:∀b xs,H b=⇑(.tup xs)->H' b=⇑(.tup xs)):cZ P w H' h' a o:=by
 induction o with
 |lst xs=>obtain⟨z,its,n,r,e⟩:=x;exact⟨z,its,n,r,k _ _ (.inl rfl) e⟩
 |tup xs=>obtain⟨⟨z,od,ed,hd⟩,its,r,ob,e,c⟩:=x;exact⟨⟨z,od,k _ _ (.inl rfl) ed,hd⟩,its,r,ob,k _ _ (.inl rfl) e,c⟩
 |dK kvs=>obtain⟨z,y,vs,r,ob,es,ep,e,c⟩:=x;exact⟨z,y,vs,r,ob,es,ep,k _ _ (.inl rfl) e,c⟩
 |dT kvs=>
  obtain⟨z,y,xs,r,ob,es,ep,e,c⟩:=x
  exact⟨z,y,xs,Paired.Mz r λp q z=>⟨z.1,ht _ _ z.2.1,z.2.2⟩,ob,es,ep,k _ _ (.inl rfl) e,c⟩
 |set S n=>obtain⟨ob,es,ep,t,e,c⟩:=x;exact⟨ob,es,ep,t,k _ _ (.inl rfl) e,c⟩
 |ins C dx fs=>
  obtain⟨d,z,ne,e,mA,⟨od,es,ep,e2,c⟩,r⟩:=x
  exact⟨ho _ d,z,ne,k _ _ (.inl rfl) e,mA,⟨od,es,ep,k _ _ (.inr d) e2,c⟩,r⟩
 |own y=>obtain⟨ob,e⟩:=x;exact⟨ob,k _ _ (.inl rfl) e⟩
 |xd fs=>obtain⟨mA,⟨od,es,ep,e,c⟩,r⟩:=x;exact⟨mA,⟨od,es,ep,k _ _ (.inl rfl) e,c⟩,r⟩
 |rng lo hi=>obtain⟨t,u,v,e⟩:=x;exact⟨t,u,v,k _ _ (.inl rfl) e⟩
 |frz ob u ih=>obtain⟨e,q⟩:=x;exact⟨k _ _ (.inl rfl) e,ih q⟩
 |tbl ps=>
  have e:h.get? a=some {cls:=.none,data:=.fields ps}:=x
  show h'.get? a=some {cls:=.none,data:=.fields ps}
  exact k a _ (.inl rfl) e
 |met f y=>
  have e:h.get? a=⇑(PySem.W.methodObj (.ref f) (.ref y)):=x
  show h'.get? a=⇑(PySem.W.methodObj (.ref f) (.ref y))
  exact k a _ (.inl rfl) e
 |ext φ=>obtain⟨p,⟨o,e⟩,st⟩:=x;exact⟨st _ _ p λo q=>k _ _ (.inl rfl) q,⟨o,k _ _ (.inl rfl) e⟩,st⟩
theorem lR.lt(x:lR P w H h)(e:H a=⇑o):a<h.objs.size:=(x a o e).lt
theorem lR.fresh(x:lR P w H h)(e:h.objs.size<=a):H a=none:=by
 cases q:H a with
 |none=>rfl
 |some u=>exact absurd (ZZ (x.lt q) e) (Zn _)
theorem lR.kept(x:lR P w H h)(k:∀b u,h.get? b=⇑u->h'.get? b=⇑u):lR P w H h':=λa o e=>
 (x a o e).jW (λb u _ q=>k b u q) (λ_ q=>q) λ_ _ q=>q
theorem lR.laid(x:lR P w H h)(k:∀b u,h.get? b=⇑u->h'.get? b=⇑u)(hp:h.objs.size<=a)(new:cZ P w (upd H a o) h' a o):lR P w (upd H a o) h':=λb u e=>by
 have hn:=x.fresh hp
 by_cases hb:b=a
 ·subst hb;rw[aF]at e;cases e;exact new
 ·rw[au hb]at e
  exact(x b u e).jW (λc v _ q=>k c v q) (λc q=>by rw[au (aO q hn)];exact q) λc _ q=>by rw[au (aO q hn)];exact q
end
def Rd(H:Hp)(a:Addr)(u:HO):Prop:=H a=⇑u\/∃o,H a=⇑(.frz o u)
theorem Rd.ok{w:World}{u:HO}(r:Rd H a u)(x:lR P w H h):cZ P w H h a u:=by
 rcases r with r|⟨o,r⟩
 ·exact x a u r
 ·obtain⟨_,q⟩:=x a _ r
  exact q
def Pp:Option HO->Prop
 |some (.lst _)=>True
 |some (.dK _)=>True
 |some (.dT _)=>True
 |some (.set _ _)=>True
 |some (.ins _ _ _)=>True
 |some (.ext _)=>True
 |_=>False
section
variable{w:World}{x e:Addr}{o':HO}
theorem lR.write(ok:lR P w H h)(mu:Pp (H x))(he:e=x\/H e=⇑(.own x))(k:∀b u,b≠e->h.get? b=⇑u->h'.get? b=⇑u)(OU:∃u,h'.get? e=⇑u)
  (new:cZ P w (upd H x o') h' x o'):lR P w (upd H x o') h':=λb u q=>by
 have sJ:∀c y,H c=⇑(.own y)->c≠x:=λc y r z=>by subst z;rw[r]at mu;exact mu
 have SD:∀c xs,H c=⇑(.tup xs)->c≠x:=λc xs r z=>by subst z;rw[r]at mu;exact mu
 by_cases hb:b=x
 ·subst hb;rw[aF]at q;cases q;exact new
 ·rw[au hb]at q
  by_cases IW:b=e
  ·have q':H b=⇑(.own x):=by
     rcases he with z|z
     ·exact absurd (IW.trans z) hb
     ·rw[IW];exact z
   rw[q]at q';cases q'
   obtain⟨v,hv⟩:=OU
   exact⟨v,by rw[IW];exact hv⟩
  ·refine(ok b u q).jW (λc v hc r=>k c v ?_ r) (λc r=>by rw[au (sJ c b r)];exact r) λc xs r=>by rw[au (SD c xs r)];exact r
   rcases hc with rfl|hc
   ·exact IW
   ·rintro rfl
    rcases he with z|z
    ·exact sJ c b hc z
    ·rw[hc]at z;cases z;exact hb rfl
end
structure Un(fs ex:List Addr)(H H':Hp)(h h':Heap):Prop where
 keep:∀b o,h.get? b=⇑o->H b=none->b∉fs->b∉ex->h'.get? b=⇑o
 slot:∀b o,h.get? b=⇑o->H b=none->b∈fs->b∉ex->∃sl,h'.get? b=some {o with slots:=sl}
 free:∀b o,h.get? b=⇑o->H b=none->b∉ex->H' b=none
 there:∀b o,h.get? b=⇑o->b∉ex->∃o',h'.get? b=⇑o'
 my:∀b xs,H b=⇑(.tup xs)->H' b=⇑(.tup xs)
 lT:∀b o u,H b=⇑(.frz o u)->H' b=⇑(.frz o u)
 nV:∀b ps,H b=⇑(.tbl ps)->∃more,H' b=⇑(.tbl (ps++more))
section
variable{fs IX ex XZ:List Addr}{H1 H2:Hp}{h1 h2:Heap}{x e:Addr}{o:HO}
theorem Un.any(u:Un fs ex H H1 h h1){b:Addr}{ob:Obj}(q:h.get? b=⇑ob)(n:H b=none)(hx:b∉ex):∃sl,h1.get? b=some {ob with slots:=sl}:=by
 by_cases hb:b∈fs
 ·exact u.slot b ob q n hb hx
 ·exact⟨ob.slots,u.keep b ob q n hb hx⟩
theorem Un.kept(k:∀b u,h.get? b=⇑u->h'.get? b=⇑u):Un fs ex H H h h':=
 ⟨λb ob q _ _ _=>k b ob q,λb ob q _ _ _=>⟨ob.slots,k b ob q⟩,λ_ _ _ n _=>n,λb ob q _=>⟨ob,k b ob q⟩,λ_ _ q=>q,λ_ _ _ q=>q,λ_ _ q=>⟨#[],by rw[q];simp⟩⟩
theorem Un.refl:Un fs ex H H h h:=Un.kept λ_ _ q=>q
theorem Un.laid(k:∀b u,h.get? b=⇑u->h'.get? b=⇑u)(hp:h.objs.size<=a)(hn:H a=none):Un fs ex H (upd H a o) h h' where
 keep:=λb u q _ _ _=>k b u q
 slot:=λb u q _ _ _=>⟨u.slots,k b u q⟩
 free:=λb u q n _=>by rw[au (Ze (ZZ (ZN q) hp))];exact n
 there:=λb u q _=>⟨u,k b u q⟩
 my:=λb _ q=>by rw[au (aO q hn)];exact q
 lT:=λb u _ q=>by rw[au (aO q hn)];exact q
 nV:=λb _ q=>⟨#[],by rw[au (aO q hn),q];simp⟩
theorem Un.write(mu:Pp (H x))(he:e=x\/H e=⇑(.own x))(k:∀b u,b≠e->h.get? b=⇑u->h'.get? b=⇑u)(OU:∃u,h'.get? e=⇑u):Un fs ex H (upd H x o) h h':=by
 have hx:∀b,H b=none->b≠x:=λb n z=>by subst z;rw[n]at mu;exact mu
 have hb:∀b,H b=none->b≠e:=λb n z=>by
  subst z
  rcases he with r|r
  ·exact hx b n r
  ·rw[n]at r;cases r
 have hm:∀b u,H b=⇑u->¬Pp ⇑u->b≠x:=λb u q nm z=>by subst z;rw[q]at mu;exact nm mu
 refine⟨λb u q n _ _=>k b u (hb b n) q,λb u q n _ _=>⟨u.slots,k b u (hb b n) q⟩,λb u q n _=>by rw[au (hx b n)];exact n,λb u q _=>?_,
  λb _ q=>by rw[au (hm b _ q λz=>z)];exact q,λb u _ q=>by rw[au (hm b _ q λz=>z)];exact q,λb _ q=>⟨#[],by rw[au (hm b _ q λz=>z),q];simp⟩⟩
 by_cases IW:b=e
 ·subst IW;exact OU
 ·exact⟨u,k b u IW q⟩
end
def RI(h:Heap)(H:Hp):List Addr:=(List.range h.objs.size).filter λa=>(H a).isSome
def uI(h:Heap)(H:Hp):Heap:=PySem.W.hideAll h (RI h H)
theorem CM(h:Heap)(H:Hp):(uI h H).objs.size=h.objs.size:=PySem.W.hideAll_size _ _
theorem EN{b:Addr}{o:Obj}(e:h.get? b=⇑o)(n:H b=none):(uI h H).get? b=⇑o:=
 PySem.W.hideAll_get _ e λhm=>by
  have q:(H b).isSome=true:=(YN.mp hm).2
  rw[n]at q;simp at q
theorem IY{b:Addr}{o:Obj}(e:(uI h H).get? b=⇑o):h.get? b=⇑o/\H b=none:=by
 have e':h.get? b=⇑o:=PySem.W.of_hideAll (RI h H) e
 refine⟨e',?_⟩
 cases q:H b with
 |none=>rfl
 |some x=>
  have hm:b∈RI h H:=YN.mpr ⟨ZW.mpr (ZN e'),by simp[q]⟩
  have z:(uI h H).get? b=none:=PySem.W.hideAll_none (RI h H) hm
  rw[z]at e;cases e
structure Mod(K:aX)(mg:Str->Option Value)(base:Heap):Prop where
 kin:K.In base
 glob:base.Ns mainGlobals mg
 blt:∃mb,base.Ns builtinsNs mb/\∀x:Str,x≠ "__name__" ->mb x=bootBuiltins x
 nolimit:base.NoLimit
structure Cx where
 prog:Program
 w:World
 K:aX
 mg:Str->Option Value
 base:Heap
 A:Around
 N:List Str
 s₀:Shared
 H₀:Hp
 env:Env
 outer:List Env
 stack:List Env
 ex:List Addr
 fn:Str->Bool
 calm:Bool
 pn:List (Addr×Obj)
 xe:Value->Shared->Prop
abbrev gw(X:Cx){α:Type}(t:Sem α)(Q:α->Shared->Prop)(E:Value->Shared->Prop)(s:Shared):Prop:=wpAny (model X.prog X.w) X.A t Q E s
def gB(l:List Env):List Addr:=l.filterMap (·.frame)
abbrev Cx.fs(X:Cx):List Addr:=gB X.outer
def nW(sc:Scope)(x:Str):Prop:=sc.names.lookup x=some .local\/sc.names.lookup x=some .cell\/sc.names.lookup x=some .free
def Loc(sc:Scope)(x:Str):Prop:=sc.names.lookup x=some .local\/sc.names.lookup x=some .cell
def Look(env:Env)(h:Heap)(m:Str->Option Value)(x:Str)(u:Value):Prop:=
 (env.kindOf x=some .local/\m x=⇑u)\/((env.kindOf x=some .cell\/env.kindOf x=some .free)/\∃c,env.cells.lookup x=⇑c/\h.IsCell c ⇑u)
structure Cx.Ok(X:Cx):Prop where
 mod:Mod X.K X.mg X.base
 kind:X.env.scope.kind=.function
 glob:X.env.globals=mainGlobals
 blt:X.env.builtins=builtinsNs
 above:↥X.s₀<=X.env.locals
 inj:∀x y c,X.env.cells.lookup x=⇑c->X.env.cells.lookup y=⇑c->x=y
 has:∀x,(X.env.kindOf x=some .cell\/X.env.kindOf x=some .free)->∃c,X.env.cells.lookup x=⇑c
 cab:∀x c,X.fn x=true->X.env.cells.lookup x=⇑c->↥X.s₀<=c
 hd:X.calm=true->X.A.handled=none
 frames:X.A.frames=⇑X.stack
 stk:X.stack=X.outer\/(X.stack=X.env::X.outer/\X.env.frame=⇑X.env.locals)
 exf:∀b∈X.ex,b≠X.env.locals/\∀x c,X.env.cells.lookup x=⇑c->c≠b
 bs:∀b o,X.base.get? b=⇑o->X.s₀.heap.get? b=⇑o/\X.H₀ b=none
 bsz:X.base.objs.size<=↥X.s₀
 noex:∀b o,X.base.get? b=⇑o->b∉X.ex
 exfs:∀b∈X.ex,b∉X.fs
 funs:X.s₀.heap.FunFrames X.base X.outer
 frf:∀b∈X.fs,X.H₀ b=none
structure Inv(X:Cx)(pins:List (Addr×Obj))(σ:List (Option V))(H:Hp)(s:Shared):Prop where
 ok:X.Ok
 os:s.os=X.s₀.os
 bare:AllBare s.gens
 base:Un X.fs X.ex X.H₀ H X.s₀.heap s.heap
 loc:∃m,s.heap.Ns X.env.locals m/\∀(i:Nat) (x:Str) (v:V),X.N[i]?=⇑x->σ[i]?=⇑(some v)->nW X.env.scope x->∃u,RelV v u/\Look X.env s.heap m x u
 cell:∀x c,X.env.cells.lookup x=⇑c->∃v,s.heap.IsCell c v
 free:H X.env.locals=none
 freeC:∀x c,X.env.cells.lookup x=⇑c->H c=none
 pin:∀p∈X.pn++pins,s.heap.get? p.1=⇑p.2/\H p.1=none/\p.1≠X.env.locals/\p.1∉X.fs/\∀v,p.2.data≠.cell v
 cD:lR X.prog X.w H s.heap
 len:σ.length=X.N.length
variable{x:Str}{X:Cx}{pins:List (Addr×Obj)}{s s':Shared}{g':Array GenState}{t' i:Nat}{d':Drawn}{ch:List Addr}{it:Addr}{N:List Str}{M:Model}{A:Around}{E:Value->Shared->Prop}{v:V}
section
variable{σ:List (Option V)}
theorem Cx.Ok.SE(ok:X.Ok){b:Addr}{o:Obj}(e:X.base.get? b=⇑o):b∉X.fs:=λhb=>by
 have:=(ok.funs.mem hb).1
 rw[e]at this;cases this
theorem Inv.bs(I:Inv X pins σ H s):∀b o,X.base.get? b=⇑o->s.heap.get? b=⇑o/\H b=none:=λb o e=>
 ⟨I.base.keep b o (I.ok.bs b o e).1 (I.ok.bs b o e).2 (I.ok.SE e) (I.ok.noex b o e),I.base.free b o (I.ok.bs b o e).1 (I.ok.bs b o e).2 (I.ok.noex b o e)⟩
theorem Inv.bk(I:Inv X pins σ H s):∀b o,X.base.get? b=⇑o->s.heap.get? b=⇑o:=λb o e=>(I.bs b o e).1
theorem Inv.mod(I:Inv X pins σ H s):Mod X.K X.mg X.base:=I.ok.mod
theorem Inv.lE(I:Inv X pins σ H s):X.K.In s.heap:=I.ok.mod.kin.keeps I.bk
theorem Inv.lt(I:Inv X pins σ H s):X.env.locals<↥s:=let⟨_,hn,_⟩:=I.loc;hn.lt
theorem Inv.sz(I:Inv X pins σ H s):↥X.s₀<=↥s:=Zd I.ok.above (Tp I.lt)
theorem Inv.IZ(I:Inv X pins σ H s)(h:↥s<=a):a∉X.fs:=λhb=>by
 obtain⟨_,o,ho,_⟩:=I.ok.funs.mem hb
 exact absurd (ZZ (ZN ho) (Zd I.sz h)) (Zn _)
theorem Inv.MA(I:Inv X pins σ H s):∀x c,X.env.cells.lookup x=⇑c->c≠X.env.locals:=λx c e z=>by
 obtain⟨v,o,ho,hd⟩:=I.cell x c e
 obtain⟨m,⟨_,_,_,EO,OV,_⟩,_⟩:=I.loc
 rw[z,EO]at ho;cases ho;rw[OV]at hd;cases hd
theorem Inv.funs(I:Inv X pins σ H s):s.heap.FunFrames X.base X.outer:=by
 have all:∀(l:List Env),(∀b∈gB l,b∈X.fs)->X.s₀.heap.FunFrames X.base l->s.heap.FunFrames X.base l:=by
  intro l
  induction l with
  |nil=>intro _ _;trivial
  |cons env r ih=>
   intro hs hl
   obtain⟨hk,⟨L,o,hf,hn,ho,hd⟩,hr⟩:=hl
   have hL:L∈X.fs:=hs L (by unfold gB;rw[Zs,hf];exact ZM)
   obtain⟨_,e⟩:=I.base.slot L o ho (I.ok.frf L hL) hL λz=>I.ok.exfs L z hL
   exact⟨hk,⟨L,_,hf,hn,e,hd⟩,ih (λb hb=>hs b (by unfold gB;rw[Zs,hf];exact ZI _ hb)) hr⟩
 exact all X.outer (λ_ hb=>hb) I.ok.funs
theorem Inv.stack(I:Inv X pins σ H s):s.heap.FunFrames X.base X.stack:=by
 rcases I.ok.stk with e|⟨e,hf⟩
 ·rw[e];exact I.funs
 ·rw[e]
  obtain⟨m,hn,_⟩:=I.loc
  refine .cons (by rw[I.ok.kind];decide) hf hn ?_ I.funs
  exact Heap.get?_none_of_le (Zd I.ok.bsz I.ok.above)
theorem Inv.y6(I:Inv X pins σ H s):∀b∈gB X.stack,b∈X.env.locals::X.fs:=λb hb=>by
 rcases I.ok.stk with e|⟨e,hf⟩
 ·rw[e]at hb;exact ZI _ hb
 ·rw[e]at hb
  unfold gB at hb
  rw[Zs,hf]at hb
  exact hb
theorem Inv.mz(I:Inv X pins σ H s):∀b∈gB X.stack,H b=none:=λb hb=>by
 rcases Zc.mp (I.y6 b hb)with e|hb
 ·rw[e];exact I.free
 ·obtain⟨_,o,ho,_⟩:=I.ok.funs.mem hb
  exact I.base.free b o ho (I.ok.frf b hb) λz=>I.ok.exfs b z hb
theorem Inv.step(I:Inv X pins σ H s)
  (IH:∀b∈ch,(b∈X.ex\/↥X.s₀<=b)/\b≠X.env.locals/\(∀x c,X.env.cells.lookup x=⇑c->c≠b)/\∀p∈X.pn++pins,p.1≠b)
  (keep:∀b o,b≠X.env.locals->b∉X.fs->b∉ch->s.heap.get? b=⇑o->H b=none->h'.get? b=⇑o)
  (slot:∀b o,b≠X.env.locals->b∈X.fs->b∉ch->s.heap.get? b=⇑o->H b=none->∃sl,h'.get? b=some {o with slots:=sl})(free:∀b o,b∉ch->s.heap.get? b=⇑o->H b=none->H' b=none)
  (there:∀b o,b∉ch->s.heap.get? b=⇑o->∃o',h'.get? b=⇑o')
  (my:∀b xs,H b=⇑(.tup xs)->H' b=⇑(.tup xs))(lT:∀b o u,H b=⇑(.frz o u)->H' b=⇑(.frz o u))(nV:∀b ps,H b=⇑(.tbl ps)->∃more,H' b=⇑(.tbl (ps++more)))
  (ns:∀m,s.heap.Ns X.env.locals m->h'.Ns X.env.locals m)(cD:lR X.prog X.w H' h')(hg:AllBare g'):
  Inv X pins σ H' {s with heap:=h',gens:=g',drawn:=d',toks:=t'}:=by
 have UQ:∀b o,X.s₀.heap.get? b=⇑o->b≠X.env.locals:=λb o e=>Ze (ZZ (ZN e) I.ok.above)
 have RJ:∀b o,X.s₀.heap.get? b=⇑o->b∉X.ex->b∉ch:=λb o e hx hb=>by
  rcases(IH b hb).1 with z|z
  ·exact hx z
  ·exact absurd (ZZ (ZN e) z) (Zn _)
 have cellK:∀x c,X.env.cells.lookup x=⇑c->∀v,s.heap.IsCell c v->h'.IsCell c v:=λx c e v ⟨o,ho,hd⟩=>by
  have Pq:c∉ch:=λz=>(IH c z).2.2.1 x c e rfl
  by_cases hc:c∈X.fs
  ·obtain⟨sl,q⟩:=slot c o (I.MA x c e) hc Pq ho (I.freeC x c e)
   exact⟨_,q,hd⟩
  ·exact⟨o,keep c o (I.MA x c e) hc Pq ho (I.freeC x c e),hd⟩
 refine⟨I.ok,I.os,hg,⟨λb o e n hb hx=>?_,λb o e n hb hx=>?_,λb o e n hx=>?_,λb o e hx=>?_,λb xs e=>my b xs (I.base.my b xs e),λb o xs e=>lT b o xs (I.base.lT b o xs e),λb ps e=>?_⟩,?_,λx c e=>?_,?_,λx c e=>?_,λp hp=>?_,cD,I.len⟩
 ·exact keep b o (UQ b o e) hb (RJ b o e hx) (I.base.keep b o e n hb hx) (I.base.free b o e n hx)
 ·obtain⟨sl,e1⟩:=I.base.slot b o e n hb hx
  obtain⟨I9,e2⟩:=slot b _ (UQ b o e) hb (RJ b o e hx) e1 (I.base.free b o e n hx)
  exact⟨I9,e2⟩
 ·obtain⟨o',e1⟩:=I.base.there b o e hx
  exact free b o' (RJ b o e hx) e1 (I.base.free b o e n hx)
 ·obtain⟨o',e1⟩:=I.base.there b o e hx
  exact there b o' (RJ b o e hx) e1
 ·obtain⟨m1,e1⟩:=I.base.nV b ps e
  obtain⟨m2,e2⟩:=nV b _ e1
  exact⟨m1++m2,by rw[e2,X0]⟩
 ·obtain⟨m,hn,hl⟩:=I.loc
  refine⟨m,ns m hn,λi x v e1 e2 e3=>?_⟩
  obtain⟨u,r,l⟩:=hl i x v e1 e2 e3
  refine⟨u,r,?_⟩
  rcases l with l|⟨k,c,e,z⟩
  ·exact .inl l
  ·exact .inr ⟨k,c,e,cellK x c e _ z⟩
 ·obtain⟨v,z⟩:=I.cell x c e
  exact⟨v,cellK x c e v z⟩
 ·obtain⟨m,⟨o,_,_,ho,_⟩,_⟩:=I.loc
  exact free _ o (λz=>(IH _ z).2.1 rfl) ho I.free
 ·obtain⟨v,o,ho,hd⟩:=I.cell x c e
  exact free c o (λz=>(IH c z).2.2.1 x c e rfl) ho (I.freeC x c e)
 ·obtain⟨e,n,ne,nf,d⟩:=I.pin p hp
  have Pq:p.1∉ch:=λz=>(IH p.1 z).2.2.2 p hp rfl
  exact⟨keep p.1 p.2 ne nf Pq e n,free p.1 p.2 Pq e n,ne,nf,d⟩
theorem Inv.un(I:Inv X pins σ H s)(u:Un X.fs [] H H' s.heap h')(cD:lR X.prog X.w H' h'):Inv X pins σ H' {s with heap:=h',toks:=t'}:=by
 obtain⟨m,⟨o,_,_,ho,r⟩,_⟩:=id I.loc
 obtain⟨_,hL⟩:=u.any ho I.free (by simp)
 exact I.step (g':=s.gens) (d':=s.drawn) (ch:=[]) (λ_ z=>nomatch z) (λb o _ hb _ e n=>u.keep b o e n hb (by simp)) (λb o _ hb _ e n=>u.slot b o e n hb (by simp)) (λb o _ e n=>u.free b o e n (by simp)) (λb o _ e=>u.there b o e (by simp)) u.my u.lT u.nV (λ_ hm=>by
  obtain⟨_,OW,SF,EO,r'⟩:=hm
  rw[ho]at EO;cases EO
  exact⟨_,OW,SF,hL,r'⟩) cD I.bare
theorem Inv.call(I:Inv X pins σ H s)(u:Un (gB X.stack) ch H H' s.heap h')(cD:lR X.prog X.w H' h')(hg:AllBare g')
  (IH:∀b∈ch,(b∈X.ex\/↥X.s₀<=b)/\b≠X.env.locals/\(∀x c,X.env.cells.lookup x=⇑c->c≠b)/\∀p∈X.pn++pins,p.1≠b):
  Inv X pins σ H' {s with heap:=h',gens:=g',drawn:=d',toks:=t'}:=by
 obtain⟨m,⟨o,_,_,ho,r⟩,_⟩:=id I.loc
 obtain⟨_,hL⟩:=u.any ho I.free λz=>(IH _ z).2.1 rfl
 exact I.step (ch:=ch) IH (λb o hL hb hc e n=>u.keep b o e n (λz=>(Zc.mp (I.y6 b z)).elim hL hb) hc) (λb o _ _ hc e n=>u.any e n hc) (λb o hc e n=>u.free b o e n hc) (λb o hc e=>u.there b o e hc) u.my u.lT u.nV (λ_ hm=>by
  obtain⟨_,OW,SF,EO,r'⟩:=hm
  rw[ho]at EO;cases EO
  exact⟨_,OW,SF,hL,r'⟩) cD hg
theorem Inv.turned(I:Inv X pins σ H s)(k:∀b o,b≠it->s.heap.get? b=⇑o->h'.get? b=⇑o)(hn:H it=none)(hL:it≠X.env.locals)
  (h1:it∈X.ex\/↥X.s₀<=it)(h2:∀x c,X.env.cells.lookup x=⇑c->c≠it)(h3:∀p∈X.pn++pins,p.1≠it):Inv X pins σ H {s with heap:=h',toks:=t'}:=by
 have Lp:∀b u,H b=⇑u->b≠it:=λb u e z=>by rw[z,hn]at e;cases e
 refine I.step (g':=s.gens) (d':=s.drawn) (ch:=[it]) (λb hb=>?_) (λb o _ _ hc e _=>k b o (λz=>hc (by simp[z])) e) (λb o _ _ hc e _=>⟨o.slots,k b o (λz=>hc (by simp[z])) e⟩) (λ_ _ _ _ n=>n)
  (λb o hc e=>⟨o,k b o (λz=>hc (by simp[z])) e⟩) (λ_ _ e=>e) (λ_ _ _ e=>e) (λb _ e=>⟨#[],by rw[e];simp⟩) (λm hm=>?_) (λb u e=>?_) I.bare
 ·have e:b=it:=by simpa using hb
  subst e
  exact⟨h1,hL,h2,h3⟩
 ·obtain⟨o,es,ep,ho,r⟩:=hm
  exact⟨o,es,ep,k _ o (Ne.symm hL) ho,r⟩
 ·refine(I.cD b u e).jW (λc v hc q=>k c v ?_ q) (λ_ q=>q) λ_ _ q=>q
  rcases hc with z|z
  ·rw[z];exact Lp b u e
  ·exact Lp c _ z
theorem Inv.tok(I:Inv X pins σ H s)(t:Nat):Inv X pins σ H {s with toks:=t}:=I.un (h':=s.heap) (t':=t) Un.refl I.cD
theorem Inv.kept(I:Inv X pins σ H s)(k:∀b u,s.heap.get? b=⇑u->h'.get? b=⇑u):Inv X pins σ H {s with heap:=h',toks:=t'}:=I.un (Un.kept k) (I.cD.kept k)
theorem Inv.laid{o:HO}(I:Inv X pins σ H s)(k:∀b u,s.heap.get? b=⇑u->h'.get? b=⇑u)(hp:↥s<=a)(new:cZ X.prog X.w (upd H a o) h' a o):
 Inv X pins σ (upd H a o) {s with heap:=h',toks:=t'}:=I.un (Un.laid k hp (I.cD.fresh hp)) (I.cD.laid k hp new)
theorem Inv.write{x e:Addr}{o:HO}(I:Inv X pins σ H s)(mu:Pp (H x))(he:e=x\/H e=⇑(.own x))(k:∀b u,b≠e->s.heap.get? b=⇑u->h'.get? b=⇑u)(OU:∃u,h'.get? e=⇑u)
 (new:cZ X.prog X.w (upd H x o) h' x o):Inv X pins σ (upd H x o) {s with heap:=h',toks:=t'}:=I.un (Un.write mu he k OU) (I.cD.write mu he k OU new)
theorem Inv.weak{σ':List (Option V)}(I:Inv X pins σ H s)(hl:σ'.length=σ.length)(w:∀(i:Nat) v,σ'[i]?=⇑(some v)->σ[i]?=⇑(some v)):Inv X pins σ' H s:=
 ⟨I.ok,I.os,I.bare,I.base,let⟨m,hn,MB⟩:=I.loc;⟨m,hn,λi x v e1 e2 e3=>MB i x v e1 (w i v e2) e3⟩,I.cell,I.free,I.freeC,I.pin,I.cD,hl.trans I.len⟩
theorem Inv.ff{mB:List (Addr×Obj)}(I:Inv X pins σ H s)(h:∀p∈mB,s.heap.get? p.1=⇑p.2/\H p.1=none/\p.1≠X.env.locals/\p.1∉X.fs/\∀v,p.2.data≠.cell v):Inv X mB σ H s:=
 ⟨I.ok,I.os,I.bare,I.base,I.loc,I.cell,I.free,I.freeC,λp hp=>(Zg.mp hp).elim (λz=>I.pin p (Zf _ z)) (h p),I.cD,I.len⟩
theorem wB(hN:N.Nodup){j:Nat}(a:N[i]?=⇑x)(b:N[j]?=⇑x):i=j:=by
 obtain⟨_,e1⟩:=ZL.mp a
 obtain⟨_,e2⟩:=ZL.mp b
 exact(List.getElem_inj hN).mp (e1.trans e2.symm)
theorem tE{Q:Unit->Shared->Prop}(I:Inv X pins σ H s)(hN:X.N.Nodup)(hi:X.N[i]?=⇑x)(hx:Loc X.env.scope x)(r:RelV v u)
  (h:∀s',Inv X pins (σ.set i ⇑v) H s'->(∃a,Heap.SameBut a s.heap s'.heap/\(a=X.env.locals\/X.env.cells.lookup x=⇑a))->Q () s')(hf:X.fn x=true\/X.env.scope.names.lookup x=some .local:=by trivial):wpAny M A (storeName X.env x u) Q E s:=by
 obtain⟨m,hn,hl⟩:=id I.loc
 have SG:(X.env.scope.kind==.class||(X.env.scope.kind==.module&&X.env.locals !=X.env.globals))=false:=by rw[I.ok.kind];rfl
 have UR:i<σ.length:=by rw[I.len];exact(ZL.mp hi).1
 have MA:=I.MA
 have tracked:∀{a:Addr} {h':Heap},(∃o,s.heap.get? a=⇑o/\H a=none)->Heap.SameBut a s.heap h'->lR X.prog X.w H h':=λ{a h'} ha hs b ob e=>by
  obtain⟨_,_,mC⟩:=ha
  refine(I.cD b ob e).jW (λc w' hc q=>(hs.2 c ?_).trans q) (λ_ q=>q) λ_ _ q=>q
  rintro rfl
  rcases hc with rfl|hc
  ·rw[mC]at e;cases e
  ·rw[mC]at hc;cases hc
 rcases hx with hk|hk
 ·refine wpAny_storeName_local hk hn (λh' VY hs=>?_) SG
  obtain⟨oL,_,_,SH,_⟩:=id hn
  refine h _ ⟨I.ok,I.os,I.bare,⟨λb o e n hb hx=>?_,λb o e n hb hx=>?_,I.base.free,λb o e hx=>?_,I.base.my,I.base.lT,I.base.nV⟩,⟨_,VY,λj y v' e1 e2 e3=>?_⟩,λy c e=>?_,I.free,I.freeC,λp hp=>?_,tracked ⟨oL,SH,I.free⟩ hs,by simpa using I.len⟩ ⟨_,hs,.inl rfl⟩
  ·exact(hs.2 b (Ze (ZZ (ZN e) I.ok.above))).trans (I.base.keep b o e n hb hx)
  ·obtain⟨sl,e1⟩:=I.base.slot b o e n hb hx
   exact⟨sl,(hs.2 b (Ze (ZZ (ZN e) I.ok.above))).trans e1⟩
  ·obtain⟨o',e1⟩:=I.base.there b o e hx
   exact⟨o',(hs.2 b (Ze (ZZ (ZN e) I.ok.above))).trans e1⟩
  ·by_cases hj:j=i
   ·subst hj
    rw[hi]at e1;cases e1
    rw[z0G UR]at e2
    cases e2
    exact⟨u,r,.inl ⟨hk,by simp⟩⟩
   ·rw[Zj (Ne.symm hj)]at e2
    obtain⟨u',r',q⟩:=hl j y v' e1 e2 e3
    refine⟨u',r',?_⟩
    rcases q with⟨k,e⟩|⟨k,c,e,z⟩
    ·refine .inl ⟨k,?_⟩
     have:y≠x:=λe=>hj (wB hN e1 (e▸hi))
     simp[this,e]
    ·exact .inr ⟨k,c,e,z.sameBut hs (MA y c e)⟩
  ·obtain⟨w',z⟩:=I.cell y c e
   exact⟨w',z.sameBut hs (MA y c e)⟩
  ·obtain⟨e,n,ne,nf,d⟩:=I.pin p hp
   exact⟨(hs.2 p.1 ne).trans e,n,ne,nf,d⟩
 ·have SJ:X.fn x=true:=by
    rcases hf with z|z
    ·exact z
    ·rw[z]at hk;cases hk
  obtain⟨c,hc⟩:=I.ok.has x (.inl hk)
  obtain⟨w',z⟩:=I.cell x c hc
  refine wpAny_storeName_cell I.ok.kind hk hc z (λh' Pr hs=>?_)
  obtain⟨oc,US,SK⟩:=id z
  refine h {s with heap:=h'} ⟨I.ok,I.os,I.bare,⟨λb o e n hb hx=>?_,λb o e n hb hx=>?_,I.base.free,λb o e hx=>?_,I.base.my,I.base.lT,I.base.nV⟩,⟨m,hn.sameBut hs (Ne.symm (MA x c hc)),λj y v' e1 e2 e3=>?_⟩,λy c' e=>?_,I.free,I.freeC,λp hp=>?_,tracked ⟨oc,US,I.freeC x c hc⟩ hs,by simpa using I.len⟩ ⟨c,hs,.inr hc⟩
  ·exact(hs.2 b (Ze (ZZ (ZN e) (I.ok.cab x c SJ hc)))).trans (I.base.keep b o e n hb hx)
  ·obtain⟨sl,e1⟩:=I.base.slot b o e n hb hx
   exact⟨sl,(hs.2 b (Ze (ZZ (ZN e) (I.ok.cab x c SJ hc)))).trans e1⟩
  ·obtain⟨o',e1⟩:=I.base.there b o e hx
   exact⟨o',(hs.2 b (Ze (ZZ (ZN e) (I.ok.cab x c SJ hc)))).trans e1⟩
  ·by_cases hj:j=i
   ·subst hj
    rw[hi]at e1;cases e1
    rw[z0G UR]at e2
    cases e2
    exact⟨u,r,.inr ⟨.inl hk,c,hc,Pr⟩⟩
   ·rw[Zj (Ne.symm hj)]at e2
    obtain⟨u',r',q⟩:=hl j y v' e1 e2 e3
    refine⟨u',r',?_⟩
    rcases q with q|⟨k,c',e,z'⟩
    ·exact .inl q
    ·refine .inr ⟨k,c',e,z'.sameBut hs ?_⟩
     rintro rfl
     exact hj (wB hN e1 (I.ok.inj _ _ _ e hc▸hi))
  ·by_cases RK:c'=c
   ·subst RK;exact⟨_,Pr⟩
   ·obtain⟨w2,z2⟩:=I.cell y c' e
    exact⟨w2,z2.sameBut hs RK⟩
  ·obtain⟨e,n,ne,nf,d⟩:=I.pin p hp
   refine⟨(hs.2 p.1 ?_).trans e,n,ne,nf,d⟩
   intro q
   rw[q,US]at e
   have q':oc=p.2:=ZX e
   exact d w' (by rw[<-q'];exact SK)
theorem j1{Q:Unit->Shared->Prop}(I:Inv X pins σ H s)(hN:X.N.Nodup)(hi:X.N[i]?=⇑x)(hx:Loc X.env.scope x)(r:RelV v u)
  (h:∀s',Inv X pins (σ.set i ⇑v) H s'->Q () s')(hf:X.fn x=true\/X.env.scope.names.lookup x=some .local:=by trivial):wpAny M A (storeName X.env x u) Q E s:=
 tE I hN hi hx r (λs' I' _=>h s' I') hf
theorem Inv.Lq(I:Inv X pins σ H s)(ho:s'.os=s.os)(u:Un (gB X.stack) ch H H' s.heap s'.heap)(cD:lR X.prog X.w H' s'.heap)(hg:AllBare s'.gens)
  (IH:∀b∈ch,(b∈X.ex\/↥X.s₀<=b)/\b≠X.env.locals/\(∀x c,X.env.cells.lookup x=⇑c->c≠b)/\∀p∈X.pn++pins,p.1≠b):Inv X pins σ H' s':=by
 obtain⟨_,g',d',t',o'⟩:=s'
 have e:o'=s.os:=ho
 subst e
 exact I.call (g':=g') (t':=t') (d':=d') u cD hg IH
end
abbrev XK:=Value->Option Addr->Hp->Prop
abbrev St:=List (Option V)
abbrev VK:=V->Hp->Prop
abbrev TE:=St->Hp->VK->Prop
abbrev TT:=St->Hp->(Bool->Hp->Prop)->Prop
abbrev TA:=St->Hp->(List V->Hp->Prop)->Prop
structure Ends where
 nx:St->Hp->Prop
 rt:VK
 bk:St->Hp->Prop:=λ_ _=>False
 ct:St->Hp->Prop:=λ_ _=>False
abbrev TS:=Ends->St->Hp->Prop
def EP(X:Cx)(pins:List (Addr×Obj))(σ:St)(Q:VK)(u:Value)(s':Shared):Prop:=∃v H',Inv X pins σ H' s'/\RelV v u/\Q v H'
def TP(X:Cx)(pins:List (Addr×Obj))(σ:St)(Q:Bool->Hp->Prop)(b:Bool)(s':Shared):Prop:=∃H',Inv X pins σ H' s'/\Q b H'
def AP(X:Cx)(pins:List (Addr×Obj))(σ:St)(Q:List V->Hp->Prop)(us:List Value)(s':Shared):Prop:=∃vs H',Inv X pins σ H' s'/\Vals vs us/\Q vs H'
def SP(X:Cx)(pins:List (Addr×Obj))(D:Ends)(f:Flow)(s':Shared):Prop:=
 match f with
 |.next=>∃σ' H',Inv X pins σ' H' s'/\D.nx σ' H'
 |.brk=>∃σ' H',Inv X pins σ' H' s'/\D.bk σ' H'
 |.cont=>∃σ' H',Inv X pins σ' H' s'/\D.ct σ' H'
 |.ret u=>∃v σ' H',Inv X pins σ' H' s'/\RelV v u/\D.rt v H'
def PE(X:Cx)(e:Expr)(t:TE):Prop:=
 ∀(pins:List (Addr×Obj)) (s:Shared) (σ:St) (H:Hp) (Q:VK),Inv X pins σ H s->t σ H Q->gw X (eval e X.env) (EP X pins σ Q) X.xe s
def PT(X:Cx)(e:Expr)(t:TT):Prop:=
 ∀(pins:List (Addr×Obj)) (s:Shared) (σ:St) (H:Hp) (Q:Bool->Hp->Prop),Inv X pins σ H s->t σ H Q->gw X (isTrue e X.env (eval e X.env)) (TP X pins σ Q) X.xe s
def PW(X:Cx)(e:Expr)(t:TT):Prop:=
 ∀(whole:Sem Value) (pins:List (Addr×Obj)) (s:Shared) (σ:St) (H:Hp) (Q:Bool->Hp->Prop),Inv X pins σ H s->t σ H Q->gw X (isTrue e X.env whole) (TP X pins σ Q) X.xe s
theorem PW.pt{e:Expr}{t:TT}(h:PW X e t):PT X e t:=h _
def PA(X:Cx)(es:List Expr)(t:TA):Prop:=
 ∀(pos:Pos) (pins:List (Addr×Obj)) (s:Shared) (σ:St) (H:Hp) (Q:List V->Hp->Prop),Inv X pins σ H s->t σ H Q->gw X (spliced (backTo pos (starEach es X.env))) (AP X pins σ Q) X.xe s
def PS(X:Cx)(st:Stmt)(t:TS):Prop:=
 ∀(pins:List (Addr×Obj)) (s:Shared) (σ:St) (H:Hp) (D:Ends),Inv X pins σ H s->t D σ H->gw X (exec st X.env) (SP X pins D) X.xe s
def sL(X:Cx)(st:List Stmt)(t:TS):Prop:=
 ∀(pins:List (Addr×Obj)) (s:Shared) (σ:St) (H:Hp) (D:Ends),Inv X pins σ H s->t D σ H->gw X (execs st X.env) (SP X pins D) X.xe s
theorem cx{t:Sem α}{Q Q':α->Shared->Prop}(h:wpAny M A t Q E s)(hQ:∀a s,Q a s->Q' a s):wpAny M A t Q' E s:=Pi h hQ λ_ _ x=>x
variable{Q:Value->Shared->Prop}{pos:Pos}{σ:St}{ta:TE}
section
def lU(i:Nat):TE:=λσ H Q=>∃v,σ[i]?=⇑(some v)/\Q v H
def tC(v:V):TE:=λ_ H Q=>Q v H
theorem bS(hN:X.N[i]?=⇑x)(hv:nW X.env.scope x)(hd:gz x:=by decide)(jQ:yZ x:=by decide):PE X (.Name x pos) (lU i):=by
 intro pins s σ H Q I h
 obtain⟨v,e,h⟩:=h
 obtain⟨m,hn,hl⟩:=I.loc
 obtain⟨u,r,l⟩:=hl i x v hN e hv
 have fin:EP X pins σ Q u s:=⟨v,H,I,r,h⟩
 rcases l with⟨hk,hm⟩|⟨hk,c,hc,AQ⟩
 ·exact wpAny_Name (wpAny_loadName_local I.ok.kind hk hn hm fin) hd
 ·rcases hk with hk|hk
  ·exact wpAny_Name (wpAny_loadName_cell I.ok.kind hk hc AQ fin) hd
  ·exact wpAny_Name (wpAny_loadName_free I.ok.kind hk hc AQ fin jQ) hd
theorem uJ{i j pos}:PE X (.Constant (.int i) j pos) (tC (.int i)):=λ_ _ _ H _ I h=>wpAny_Constant_int ⟨.int i,H,I.tok _,⟨_,rfl⟩,h⟩
theorem Lr{b j pos}:PE X (.Constant (.bool b) j pos) (tC (.bl b)):=λ_ _ _ H _ I h=>Constant_bool ⟨.bl b,H,I,rfl,h⟩
theorem y7{j pos}:PE X (.Constant .none j pos) (tC .non):=λ_ _ _ H _ I h=>Constant_none ⟨.non,H,I,rfl,h⟩
theorem uK{x j pos}:PE X (.Constant (.str x) j pos) (tC (.str x)):=λ_ _ _ H _ I h=>Calls.Constant_str ⟨.str x,H,I.tok _,⟨_,rfl⟩,h⟩
def Gl(X:Cx)(x:Str):Prop:=X.env.kindOf x=some .globalImplicit
theorem kQ(I:Inv X pins σ H s)(hg:Gl X x)(hm:X.mg x=⇑u)(h:Q u s)
  (hd:gz x:=by decide):gw X (eval (.Name x pos) X.env) Q E s:=
 Calls.Name_function_global I.ok.kind hg (Calls.loadGlobal_global (by rw[I.ok.glob];exact I.mod.glob.keeps I.bk) hm h) hd
theorem lV(I:Inv X pins σ H s)(hg:Gl X x)(hm:X.mg x=none)(hv:bootBuiltins x=⇑u)(h:Q u s)
  (hn:x≠ "__name__" :=by decide)(hd:gz x:=by decide):gw X (eval (.Name x pos) X.env) Q E s:=by
 obtain⟨_,h1,h2⟩:=I.mod.blt
 exact Calls.Name_function_global I.ok.kind hg (Calls.loadGlobal_builtin (by rw[I.ok.glob];exact I.mod.glob.keeps I.bk) hm (by rw[I.ok.blt];exact h1.keeps I.bk) ((h2 x hn).trans hv) h) hd
theorem kR(hg:Gl X x)(hm:X.mg x=⇑u)(r:RelV v u)(hd:gz x:=by decide):PE X (.Name x pos) (tC v):=
 λ_ _ _ H _ I h=>kQ I hg hm ⟨v,H,I,r,h⟩ hd
theorem Ja(hg:Gl X x)(hm:X.mg x=none)(hv:bootBuiltins x=⇑u)(r:RelV v u)(hn:x≠ "__name__" :=by decide)(hd:gz x:=by decide):PE X (.Name x pos) (tC v):=
 λ_ _ _ H _ I h=>lV I hg hm hv ⟨v,H,I,r,h⟩ hn hd
variable{a b:Expr}{tb:TE}
def tB(t:TE):TT:=λσ H Q=>t σ H λx H1=>∃c,x=.bl c/\Q c H1
theorem ER{e:Expr}{t:TE}(h:PE X e t)(he:∀whole,isTrue e X.env whole=(do let v<-whole;standAt e.pos;holding [v] (truthy v)):=by intro _;rfl):PT X e (tB t):=by
 intro pins s σ H Q I hw
 refine isTrue_plain (cx (h pins s σ H _ I hw) λv _ b9=>?_) (he _)
 obtain⟨x,H1,I1,r1,q1⟩:=b9
 obtain⟨d,rfl,q⟩:=q1
 cases r1
 exact P3 ⟨H1,I1,q⟩
variable{tA RL:TT}{rest:List Expr}
def mD(t u:TT):TT:=λσ H Q=>t σ H λc H1=>if c=true then u σ H1 Q else Q false H1
def II(t u:TT):TT:=λσ H Q=>t σ H λc H1=>if c=true then Q true H1 else u σ H1 Q
def j2(t:TT):TT:=λσ H Q=>t σ H λc H1=>Q (!c) H1
theorem pw_and1(ha:PT X a tA):PW X (.BoolOp .And [a] pos) tA:=by
 intro _ pins s σ H Q I h
 refine isTrue_and (cx (ha pins s σ H Q I h) λc _ e=>?_)
 cases c with
 |true=>exact isTrue_and_nil e
 |false=>exact e
theorem pw_or1(ha:PT X a tA):PW X (.BoolOp .Or [a] pos) tA:=by
 intro _ pins s σ H Q I h
 refine isTrue_or (cx (ha pins s σ H Q I h) λc _ e=>?_)
 cases c with
 |false=>exact isTrue_or_nil e
 |true=>exact e
theorem pw_and(ha:PT X a tA)(hb:PW X (.BoolOp .And (b::rest) pos) RL):PW X (.BoolOp .And (a::b::rest) pos) (mD tA RL):=by
 intro wh pins s σ H Q I h
 refine isTrue_and (cx (ha pins s σ H _ I h) λc s1 ⟨H1,I1,q1⟩=>?_)
 cases c with
 |true=>exact hb wh pins s1 σ H1 Q I1 q1
 |false=>exact⟨H1,I1,q1⟩
theorem pw_or(ha:PT X a tA)(hb:PW X (.BoolOp .Or (b::rest) pos) RL):PW X (.BoolOp .Or (a::b::rest) pos) (II tA RL):=by
 intro wh pins s σ H Q I h
 refine isTrue_or (cx (ha pins s σ H _ I h) λc s1 ⟨H1,I1,q1⟩=>?_)
 cases c with
 |true=>exact⟨H1,I1,q1⟩
 |false=>exact hb wh pins s1 σ H1 Q I1 q1
theorem ES(ha:PT X a tA):PT X (.UnaryOp .Not a pos) (j2 tA):=by
 intro pins s σ H Q I h
 exact isTrue_not (ha pins s σ H (λc H1=>Q (!c) H1) I h)
def Pu(ta tb:TE):TE:=λσ H Q=>ta σ H λx H1=>∃c,x=.bl c/\if c=true then tb σ H1 Q else Q (.bl false) H1
def Pw(ta:TE):TE:=λσ H Q=>ta σ H λx H1=>∃c,x=.bl c/\Q (.bl (!c)) H1
theorem MC{op}{t:TE}(h:PE X a t):PE X (.BoolOp op [a] pos) t:=λpins s σ H Q I hw=>BoolOp_one (h pins s σ H Q I hw)
theorem MD(ha:PE X a ta)(hb:PE X (.BoolOp .And (b::rest) pos) tb):PE X (.BoolOp .And (a::b::rest) pos) (Pu ta tb):=by
 intro pins s σ H Q I h
 refine BoolOp_and (cx (ha pins s σ H _ I h) λv s1 b9=>?_)
 obtain⟨x,H1,I1,r1,q1⟩:=b9
 obtain⟨c,rfl,q1⟩:=q1
 cases r1
 refine P3 ?_
 cases c with
 |true=>exact hb pins s1 σ H1 Q I1 q1
 |false=>exact⟨.bl false,H1,I1,rfl,q1⟩
theorem ME(ha:PE X a ta):PE X (.UnaryOp .Not a pos) (Pw ta):=by
 intro pins s σ H Q I h
 refine UnaryOp_ (cx (ha pins s σ H _ I h) λv _ b9=>?_)
 obtain⟨x,H1,I1,r1,q1⟩:=b9
 obtain⟨c,rfl,q1⟩:=q1
 cases r1
 exact not_of (P3 ⟨.bl (!c),H1,I1,rfl,q1⟩)
end
def jv(K:aX)(H:Hp)(a:Addr)(xs:List V):Prop:=
 Rd H a (.lst xs)\/
  ∃(o:Obj) (its:Array Value) (n:Nat),K.lookup a=⇑o/\o.cls=.type "list" /\o.dict=none/\o.data=.seq its n/\its.size<=sizeLine/\Vals xs its.toList
def jZ(K:aX)(H:Hp)(a:Addr)(xs:List V):Prop:=
 Rd H a (.tup xs)\/
  ∃(o:Obj) (its:Array Value) (n:Nat),K.lookup a=⇑o/\o.cls=.type "tuple" /\o.data=.seq its n/\(its.size<=sizeLine/\o.dict=none)/\Vals xs its.toList
def SM:Value->Option V
 |.none=>some .non
 |.bool b=>⇑(.bl b)
 |.int i _=>⇑(.int i)
 |.str x _=>⇑(.str x)
 |.bytes b _=>⇑(.byt b)
 |.float b _=>⇑(.flt b)
 |.ref a=>⇑(.ref a)
 |.type n=>⇑(.ty n)
 |_=>none
theorem RelV.abs{x:V}(r:RelV x u):SM u=⇑x:=by
 cases x with
 |non=>cases r;rfl
 |bl _=>cases r;rfl
 |int _=>obtain⟨t,rfl⟩:=r;rfl
 |str _=>obtain⟨t,rfl⟩:=r;rfl
 |byt _=>obtain⟨t,rfl⟩:=r;rfl
 |flt _=>obtain⟨t,rfl⟩:=r;rfl
 |ref _=>cases r;rfl
 |ty _=>cases r;rfl
variable{y:V}
theorem RelV.inj{x:V}(r:RelV x u)(q:RelV y u):x=y:=ZX (r.abs.symm.trans q.abs)
theorem Vals.inj:∀{xs ys:List V} {us:List Value},Vals xs us->Vals ys us->xs=ys
 |_,_,_,.nil,.nil=>rfl
 |_,_,_,.cons r t,.cons r' t'=>by rw[r.inj r',Vals.inj t t']
variable{n:Nat}
section
variable{ys:List V}
theorem jv.of{K:aX}(h:H a=⇑(.lst xs)):jv K H a xs:=.inl (.inl h)
theorem jZ.of{K:aX}(h:H a=⇑(.tup xs)):jZ K H a xs:=.inl (.inl h)
theorem Inv.list(I:Inv X pins σ H s)(h:jv X.K H a xs):∃its:List Value,Vals xs its/\PlainL s.heap a its.toArray/\xs.length<=sizeLine:=by
 rcases h with h|⟨o,its,n,hk,hc,hd,hs,hz,r⟩
 ·obtain⟨z,its,n,r,e⟩:=h.ok I.cD
  exact⟨its,r,⟨_,n,e,rfl,rfl,rfl⟩,z⟩
 ·refine⟨its.toList,r,⟨o,n,I.lE a o hk,hc,hd,by simpa using hs⟩,?_⟩
  have e:=r.length
  simp only[ZQ]at e
  omega
theorem Inv.tuple(I:Inv X pins σ H s)(h:jZ X.K H a xs):∃its:List Value,Vals xs its/\IsTup s.heap a its.toArray/\xs.length<=sizeLine:=by
 rcases h with h|⟨o,its,n,hk,hc,hs,hz,r⟩
 ·obtain⟨z,its,r,p⟩:=h.ok I.cD
  exact⟨its,r,p,z.1⟩
 ·refine⟨its.toList,r,⟨o,I.lE a o hk,hc,n,by simpa using hs⟩,?_⟩
  have e:=r.length
  simp only[ZQ]at e
  omega
theorem Inv.MF(I:Inv X pins σ H s)(h:jZ X.K H a xs):OT s.heap a:=by
 rcases h with h|⟨o,its,n,hk,hc,hs,hz,r⟩
 ·obtain⟨z,its,r,p⟩:=h.ok I.cD
  exact z.2
 ·exact⟨o,I.lE a o hk,hz.2⟩
theorem OT.new{its:Array Value}:OT (h.push {cls:=.type "tuple",data:=.seq its n}) h.objs.size:=⟨_,ZR _ rfl,rfl⟩
theorem Inv.qc(I:Inv X pins σ H s)(h:jv X.K H a xs)(h':jv X.K H a ys):xs=ys:=by
 obtain⟨its,r,⟨o,n,e,_,_,d⟩,_⟩:=I.list h
 obtain⟨its',r',⟨_,_,e',_,_,d'⟩,_⟩:=I.list h'
 rw[e]at e';cases e'
 rw[d]at d'
 injection d' with d1 _
 have:its=its':=by simpa using congrArg Array.toList d1
 subst this
 exact r.inj r'
theorem Inv.tF(I:Inv X pins σ H s)(h:jZ X.K H a xs)(h':jZ X.K H a ys):xs=ys:=by
 obtain⟨its,r,⟨o,e,_,n,d⟩,_⟩:=I.tuple h
 obtain⟨its',r',⟨_,e',_,_,d'⟩,_⟩:=I.tuple h'
 rw[e]at e';cases e'
 rw[d]at d'
 injection d' with d1 _
 have:its=its':=by simpa using congrArg Array.toList d1
 subst this
 exact r.inj r'
end
abbrev Cx.gf(X:Cx)(E:Value->Shared->Prop):Cx:={X with xe:=E}
abbrev Cx.AR(X:Cx):Cx:=X.gf λ_ _=>False
theorem Cx.Ok.gf(ok:X.Ok)(E:Value->Shared->Prop):(X.gf E).Ok:=
 ⟨ok.mod,ok.kind,ok.glob,ok.blt,ok.above,ok.inj,ok.has,ok.cab,ok.hd,ok.frames,ok.stk,ok.exf,ok.bs,ok.bsz,ok.noex,ok.exfs,ok.funs,ok.frf⟩
theorem Cx.Ok.i9(ok:(X.gf E).Ok):X.Ok:=
 ⟨ok.mod,ok.kind,ok.glob,ok.blt,ok.above,ok.inj,ok.has,ok.cab,ok.hd,ok.frames,ok.stk,ok.exf,ok.bs,ok.bsz,ok.noex,ok.exfs,ok.funs,ok.frf⟩
section
theorem Inv.gf(I:Inv X pins σ H s)(E:Value->Shared->Prop):Inv (X.gf E) pins σ H s:=⟨I.ok.gf E,I.os,I.bare,I.base,I.loc,I.cell,I.free,I.freeC,I.pin,I.cD,I.len⟩
theorem Inv.i9(I:Inv (X.gf E) pins σ H s):Inv X pins σ H s:=⟨I.ok.i9,I.os,I.bare,I.base,I.loc,I.cell,I.free,I.freeC,I.pin,I.cD,I.len⟩
theorem SP.i9{D:Ends}{f:Flow}(h:SP (X.gf E) pins D f s'):SP X pins D f s':=by
 cases f with
 |next=>obtain⟨σ',H',I,q⟩:=h;exact⟨σ',H',I.i9,q⟩
 |brk=>obtain⟨σ',H',I,q⟩:=h;exact⟨σ',H',I.i9,q⟩
 |cont=>obtain⟨σ',H',I,q⟩:=h;exact⟨σ',H',I.i9,q⟩
 |ret u=>obtain⟨v,σ',H',I,r,q⟩:=h;exact⟨v,σ',H',I.i9,r,q⟩
theorem sL.AR{st:List Stmt}{t:TS}(h:sL X.AR st t):sL X st t:=λpins s σ H D I hw=>
 Pi (h pins s σ H D (I.gf _) hw) (λ_ _ q=>q.i9) λ_ _ z=>False.elim z
end
variable{te:TE}{c:Expr}{tc:TT}
section
variable{st:Stmt}{rest:List Stmt}{t u:TS}{e:Expr}
def Px:TS:=λD σ H=>D.nx σ H
def Jb(t u:TS):TS:=λD σ H=>t {D with nx:=u D} σ H
theorem pK:sL X [] Px:=λ_ _ σ H _ I h=>On ⟨σ,H,I,h⟩
theorem b6(h1:PS X st t)(h2:sL X rest u):sL X (st::rest) (Jb t u):=by
 intro pins s σ H D I h
 refine wpAny_execs_cons (cx (h1 pins s σ H {D with nx:=u D} I h) λf s1 q=>?_)
 cases f with
 |next=>
  obtain⟨σ',H',I',q⟩:=q
  exact h2 pins s1 σ' H' D I' q
 |ret v=>exact q
 |brk=>exact q
 |cont=>exact q
theorem dj(h1:PS X st t):sL X [st] t:=by
 intro pins s σ H D I h
 refine wpAny_execs_cons (cx (h1 pins s σ H D I h) λf _ q=>?_)
 cases f with
 |next=>exact On q
 |ret v=>exact q
 |brk=>exact q
 |cont=>exact q
def MG:TS:=λD σ H=>D.bk σ H
theorem ET:PS X (.Break pos) MG:=λ_ _ σ H _ I h=>wpAny_Break ⟨σ,H,I,h⟩
theorem Inv.quiet(I:Inv X pins σ H s):interactive X.env=false:=by simp[interactive,I.ok.kind]
def AS(te:TE):TS:=λD σ H=>te σ H λ_ H1=>D.nx σ H1
theorem eL(he:PE X e te)(hs:swapsWith e none pos.line X.env=pure false:=by rfl):PS X (.Expr e pos) (AS te):=by
 intro pins s σ H D I h
 exact wpAny_Expr_any (cx (he pins s σ H _ I h) λv _ ⟨x,H1,I1,_,q1⟩=>⟨σ,H1,I1,q1⟩) I.quiet hs
def SN(te:TE):TS:=λD σ H=>te σ H D.rt
theorem fR(he:PE X e te):PS X (.Return ⇑e pos) (SN te):=by
 intro pins s σ H D I h
 exact wpAny_Return_some (cx (he pins s σ H _ I h) λv _ ⟨x,H1,I1,r1,q1⟩=>⟨x,σ,H1,I1,r1,q1⟩)
def SO(c:TT)(t u:TS):TS:=λD σ H=>c σ H λb H1=>if b=true then t D σ H1 else u D σ H1
theorem tG{a b:List Stmt}(hc:PT X c tc)(ha:sL X a t)(hb:sL X b u):PS X (.If c a b pos) (SO tc t u):=by
 intro pins s σ H D I h
 refine wpAny_If (cx (hc pins s σ H _ I h) λd s1 ⟨H1,I1,q1⟩=>?_)
 cases d with
 |true=>exact ha pins s1 σ H1 D I1 q1
 |false=>exact hb pins s1 σ H1 D I1 q1
def MH:TS:=λ_ _ _=>False
theorem qd:PS X st MH:=λ_ _ _ _ _ _ h=>h.elim
end
abbrev TG:=V->St->Hp->(St->Hp->Prop)->Prop
abbrev MI:=List V->St->Hp->(St->Hp->Prop)->Prop
def PG(X:Cx)(target:Expr)(t:TG):Prop:=
 ∀(pins:List (Addr×Obj)) (s:Shared) (σ:St) (H:Hp) (v:V) (u:Value) (Q:St->Hp->Prop),Inv X pins σ H s->RelV v u->t v σ H Q->
  gw X (assign target X.env u) (λ_ s'=>∃σ' H',Inv X pins σ' H' s'/\Q σ' H') X.xe s
def Py(X:Cx)(ts:List Expr)(t:MI):Prop:=
 ∀(pins:List (Addr×Obj)) (s:Shared) (σ:St) (H:Hp) (vs:List V) (us:List Value) (Q:St->Hp->Prop),Inv X pins σ H s->Vals vs us->t vs σ H Q->
  gw X (assignInOrder ((assignEach ts X.env).map (·.2)) us) (λ_ s'=>∃σ' H',Inv X pins σ' H' s'/\Q σ' H') X.xe s
abbrev MJ:=V->V->V->Hp->(Hp->Prop)->Prop
def Pz(X:Cx)(t:MJ):Prop:=
 ∀(pins:List (Addr×Obj)) (s:Shared) (σ:St) (H:Hp) (o i v:V) (ov iv u:Value) (Q:Hp->Prop),Inv X pins σ H s->RelV o ov->RelV i iv->RelV v u->t o i v H Q->
  gw X (setItem ov iv u) (λ_ s'=>∃H',Inv X pins σ H' s'/\Q H') X.xe s
abbrev SQ:=V->V->Hp->VK->Prop
def VZ(X:Cx)(op:Operator)(t:SQ):Prop:=
 ∀(pins:List (Addr×Obj)) (s:Shared) (σ:St) (H:Hp) (x y:V) (v u:Value) (Q:VK),Inv X pins σ H s->RelV x v->RelV y u->t x y H Q->
  gw X (inplaceOp op v u) (EP X pins σ Q) X.xe s
variable{es:List Expr}{tg:Expr}{pos':Pos}{op:Operator}
section
def Ls(i:Nat):TG:=λv σ H Q=>Q (σ.set i ⇑v) H
theorem AU(hN:X.N.Nodup)(hi:X.N[i]?=⇑x)(hx:Loc X.env.scope x)(hf:X.fn x=true\/X.env.scope.names.lookup x=some .local:=by trivial):PG X (.Name x pos) (Ls i):=by
 intro _ s _ H v u Q I r h
 exact wpAny_assign_Name (j1 I hN hi hx r (λ_ I'=>⟨_,H,I',h⟩) hf)
def SR:MI:=λvs σ H Q=>vs=[]/\Q σ H
def PB(t:TG)(u:MI):MI:=λvs σ H Q=>∃v r,vs=v::r/\t v σ H λσ' H'=>u r σ' H' Q
theorem AV:Py X [] SR:=by
 intro _ s σ H _ _ Q I r h
 obtain⟨e,h⟩:=h
 subst e
 cases r
 exact assignInOrder_nil ⟨σ,H,I,h⟩
theorem qe{e:Expr}{t:TG}{u:MI}(h1:PG X e t)(h2:Py X es u)
  (hs:(assignEach (e::es) X.env).map (·.2)=assign e X.env::(assignEach es X.env).map (·.2):=by rfl):Py X (e::es) (PB t u):=by
 intro pins s σ H _ _ Q I r h
 obtain⟨v,_,e1,h⟩:=h
 subst e1
 cases r with
 |cons r rr=>
  rw[hs]
  refine assignInOrder_cons (cx (h1 pins s σ H _ _ _ I r h) λ_ s1 b9=>?_)
  obtain⟨σ1,H1,I1,q1⟩:=b9
  exact h2 pins s1 σ1 H1 _ _ Q I1 rr q1
def SS(K:aX)(n:Nat)(t:MI):TG:=λv σ H Q=>∃a xs,v=.ref a/\jZ K H a xs/\xs.length=n/\t xs σ H Q
theorem EU{k:Nat}{t:MI}(hc:X.calm=true)(h:Py X es t)
  (hn:(assignEach es X.env).length=n:=by rfl)(ib:(assignEach es X.env).findIdx? (·.1)=none:=by rfl):PG X (.Tuple es k pos) (SS X.K n t):=by
 intro pins s σ H v u Q I r hw
 obtain⟨a,xs,e1,hq,hl,hw⟩:=hw
 subst e1
 cases r
 obtain⟨_,rv,ht,_⟩:=I.tuple hq
 refine assign_Tuple_tuple (I.ok.hd hc) ht (by simp[hn,<-hl,rv.length]) ib λh' hx=>?_
 have I1:Inv X pins σ H {s with heap:=h'}:=I.kept (t':=s.toks) λb o e=>hx b o (Ze (ZN e)) e
 exact h pins _ σ H xs _ Q I1 (by simpa using rv) hw
def wC(to ti:TE)(t:MJ):TG:=λv σ H Q=>to σ H λo H1=>ti σ H1 λi H2=>t o i v H2 λH3=>Q σ H3
theorem MK{o i:Expr}{to ti:TE}{t:MJ}(ho:PE X o to)(hi:PE X i ti)(hs:Pz X t)
  (ha:∀v,assign (.Subscript o i pos) X.env v=(do
    let ov<-holding [v] (eval o X.env)
    let iv<-holding [v,ov] (eval i X.env)
    standAt pos
    holding [v,ov,iv] (setItem ov iv v)
    release [v,ov,iv] []):=by intro _;rfl):PG X (.Subscript o i pos) (wC to ti t):=by
 intro pins s σ H v u Q I r h
 rw[ha]
 refine UV (KM (cx (ho pins s σ H _ I h) λov s1 b9=>?_))
 obtain⟨x,H1,I1,r1,q1⟩:=b9
 refine UV (KM (cx (hi pins s1 σ H1 _ I1 q1) λiv s2 b9=>?_))
 obtain⟨y,H2,I2,r2,q2⟩:=b9
 refine UV (wpAny_standAt (UV (KM (cx (hs pins s2 σ H2 x y v ov iv u _ I2 r1 r2 r q2) λ_ _ b9=>?_))))
 obtain⟨H3,I3,q3⟩:=b9
 exact wpAny_release ⟨σ,H3,I3,q3⟩
def PC(te:TE)(g:TG):TS:=λD σ H=>te σ H λx H1=>g x σ H1 D.nx
theorem ML{e:Expr}{g:TG}(he:PE X e te)(hg:PG X tg g)(hs:swapsWithSole [tg] e pos.line X.env=pure false:=by rfl)(hw:swappedStores [tg] e X.env=pure none:=by rfl)
  (h1:(assignEach [tg] X.env).map (·.2)=[assign tg X.env]:=by rfl):PS X (.Assign [tg] e pos) (PC te g):=by
 intro pins s σ H D I h
 refine wpAny_Assign_stores (cx (he pins s σ H _ I h) λv s1 b9=>?_) hs hw
 obtain⟨x,H1,I1,r1,q1⟩:=b9
 rw[h1]
 exact cx (hg pins s1 σ H1 x v _ I1 r1 q1) λ_ _ q=>q
theorem eC{e:Expr}(hN:X.N.Nodup)(hi:X.N[i]?=⇑x)(hx:Loc X.env.scope x)(he:PE X e te)(hs:swapsWith e ⇑(.Name x pos') pos.line X.env=pure false:=by rfl)(hf:X.fn x=true\/X.env.scope.names.lookup x=some .local:=by trivial):
  PS X (.Assign [.Name x pos'] e pos) (PC te (Ls i)):=by
 intro pins s σ H D I h
 refine wpAny_Assign_Name (cx (he pins s σ H _ I h) λv _ b9=>?_) hs
 obtain⟨y,H1,I1,r1,q1⟩:=b9
 exact j1 I1 hN hi hx r1 (λ_ I2=>⟨_,H1,I2,q1⟩) hf
def SU(i:Nat)(te:TE)(ti:SQ):TS:=λD σ H=>∃x,σ[i]?=⇑(some x)/\te σ H λy H1=>ti x y H1 λz H2=>D.nx (σ.set i ⇑z) H2
theorem MM{e:Expr}{ti:SQ}(hN:X.N.Nodup)(hi:X.N[i]?=⇑x)(hx:Loc X.env.scope x)(he:PE X e te)(ho:VZ X op ti)(hf:X.fn x=true\/X.env.scope.names.lookup x=some .local:=by trivial):
  PS X (.AugAssign (.Name x pos') op e pos) (SU i te ti):=by
 intro pins s σ H D I h
 obtain⟨v,e1,h⟩:=h
 obtain⟨m,hn,hl⟩:=I.loc
 have IJ:nW X.env.scope x:=by rcases hx with k|k;exact .inl k;exact .inr (.inl k)
 obtain⟨u,r,l⟩:=hl i x v hi e1 IJ
 refine wpAny_AugAssign_Name ?_
 have go:gw X (eval e X.env) (λw s₂=>gw X (inplaceOp op u w) (λr s₃=>gw X (storeName X.env x r) (λ_=>SP X pins D .next) X.xe s₃) X.xe s₂) X.xe s:=by
  refine cx (he pins s σ H _ I h) λw s1 b9=>?_
  obtain⟨y,H1,I1,r1,q1⟩:=b9
  refine cx (ho pins s1 σ H1 v y u w _ I1 r r1 q1) λz _ b9=>?_
  obtain⟨_,H2,I2,r2,q2⟩:=b9
  exact j1 I2 hN hi hx r2 (λ_ I3=>⟨_,H2,I3,q2⟩) hf
 rcases l with⟨hk,hm⟩|⟨hk,c,hc,AQ⟩
 ·exact wpAny_loadName_local I.ok.kind hk hn hm go
 ·rcases hk with hk|hk
  ·exact wpAny_loadName_cell I.ok.kind hk hc AQ go
  ·rcases hx with k|k
   ·have:X.env.scope.names.lookup x=some .free:=hk
    rw[k]at this;cases this
   ·have:X.env.scope.names.lookup x=some .free:=hk
    rw[k]at this;cases this
end
variable{tb:TS}{body:List Stmt}
section
def MN(c:TT)(tb:TS):TS:=λD σ H=>∃W:Nat->St->Hp->Prop,(∃m,W m σ H)/\∀m σ H,W m σ H->
 c σ H λb H1=>if b=true then∃N:St->Hp->Prop,(∀σ' H',N σ' H'->∃m',m'<m/\W m' σ' H')/\tb {D with nx:=N,ct:=N,bk:=D.nx} σ H1 else D.nx σ H1
theorem EV(hp:PassesOwn (model X.prog X.w) X.A X.env X.xe)(hc:PT X c tc)(hb:sL X body tb):PS X (.While c body [] pos) (MN tc tb):=by
 intro pins s σ H D I h
 obtain⟨W,⟨m0,w0⟩,turn⟩:=h
 refine wpAny_While (codeAny_whileLoop (λn s'=>∃σ' H',Inv X pins σ' H' s'/\W n σ' H') ?_ m0 ⟨σ,H,I,w0⟩)
 rintro n s1 ⟨σ1,H1,I1,w1⟩
 refine O1 hp (cx (hc pins s1 σ1 H1 _ I1 (turn n σ1 H1 w1)) λb s2 ⟨H2,I2,q2⟩=>?_)
 cases b with
 |true=>
  obtain⟨N,hN,q2⟩:=q2
  rw[W1 rfl]
  refine O1 hp (cx (hb pins s2 σ1 H2 _ I2 q2) λf _ q3=>?_)
  cases f with
  |next=>
   obtain⟨σ3,H3,I3,n3⟩:=q3
   obtain⟨m',hm,w3⟩:=hN σ3 H3 n3
   exact⟨m',hm,σ3,H3,I3,w3⟩
  |cont=>
   obtain⟨σ3,H3,I3,n3⟩:=q3
   obtain⟨m',hm,w3⟩:=hN σ3 H3 n3
   exact⟨m',hm,σ3,H3,I3,w3⟩
  |brk=>exact q3
  |ret v=>exact q3
 |false=>
  rw[UF ZY]
  exact On ⟨σ1,H2,I2,q2⟩
end
structure It where
 go:Nat->Hp->Prop
 yld:Nat->Hp->V->Hp->Prop
 stop:Nat->Hp->Prop
def nX(X:Cx)(pins:List (Addr×Obj))(H:Hp)(b:Addr):Prop:=
 H b=none/\b≠X.env.locals/\b∉X.fs/\(b∈X.ex\/↥X.s₀<=b)/\(∀x c,X.env.cells.lookup x=⇑c->c≠b)/\∀p∈X.pn++pins,p.1≠b
theorem Inv.CN{b:Addr}(I:Inv X pins σ H s)(hb:↥s<=b)(hn:H' b=none):nX X pins H' b:=by
 refine⟨hn,YJ (ZZ I.lt hb),I.IZ hb,.inr (Zd I.sz hb),λx c e z=>?_,λp hp z=>?_⟩
 ·obtain⟨v,q⟩:=I.cell x c e
  exact absurd (ZZ q.lt (by rw[z];exact hb)) (Zn _)
 ·exact absurd (ZZ (ZN (I.pin p hp).1) (by rw[z];exact hb)) (Zn _)
structure Turn(P:Program)(w:World)(K:aX)(tg:Expr)(J:It)(fp:List Addr)(it:Addr)(tn:Nat->Heap->Prop):Prop where
 mem:it∈fp
 obj:∀i h,tn i h->∀b∈fp,∃o,h.get? b=⇑o/\∀v,o.data≠.cell v
 keep:∀i h h',tn i h->(∀b∈fp,∀o,h.get? b=⇑o->h'.get? b=⇑o)->tn i h'
 item:∀(X:Cx),X.prog=P->X.w=w->X.K=K->X.calm=true->∀(i:Nat) (pins:List (Addr×Obj)) (s:Shared) (σ:St) (H:Hp) (E:Value->Shared->Prop),Inv X pins σ H s->(∀b∈fp,nX X pins H b)->tn i s.heap->J.go i H->
  wpAny (model P w) X.A (pyNext (.ref it)) (λr s1=>∃u,r=⇑u/\
   wpAny (model P w) X.A (letOwnedTupleGo tg (.ref it) u) (λ_ s2=>∃x H',Inv X pins σ H' s2/\RelV x u/\J.yld i H x H'/\tn (i+1) s2.heap/\∀b∈fp,H' b=none) E s1) E s
 done:∀(X:Cx),X.prog=P->X.w=w->X.K=K->X.calm=true->∀(i:Nat) (pins:List (Addr×Obj)) (s:Shared) (σ:St) (H:Hp) (E:Value->Shared->Prop),Inv X pins σ H s->(∀b∈fp,nX X pins H b)->tn i s.heap->J.stop i H->
  wpAny (model P w) X.A (pyNext (.ref it)) (λr s1=>r=none/\Inv X pins σ H s1) E s
 self:∀(A:Around) (i:Nat) (s:Shared) (Q:Value->Shared->Prop) (E:Value->Shared->Prop),tn i s.heap->Q (.ref it) s->wpAny (model P w) A (pyIter (.ref it)) Q E s
abbrev TI:=St->Hp->(It->Hp->Prop)->Prop
def UT(X:Cx)(pins:List (Addr×Obj))(σ:St)(tg:Expr)(R:It->Hp->Prop)(V3:Value)(s2:Shared):Prop:=
 ∃(it:Addr) (fp:List Addr) (tn:Nat->Heap->Prop) (J:It) (H':Hp),V3=.ref it/\Inv X pins σ H' s2/\Turn X.prog X.w X.K tg J fp it tn/\tn 0 s2.heap/\(∀b∈fp,nX X pins H' b)/\R J H'
def PI(X:Cx)(tg iter:Expr)(wi:TI):Prop:=
 ∀(pins:List (Addr×Obj)) (s:Shared) (σ:St) (H:Hp) (R:It->Hp->Prop),Inv X pins σ H s->wi σ H R->
  gw X (eval iter X.env) (λv s1=>gw X (pyIter v) (UT X pins σ tg R) X.xe s1) X.xe s
theorem wD{o:Obj}{n:String}{vs:Array Value}{Q:Unit->Shared->Prop}(ho:s.heap.get? it=⇑o)(hc:o.cls=.type n)(hd:o.data=.fields vs)
  (hn:["enumerate","zip","dict_itemiterator","dict_reverseitemiterator","odict_iterator","itertools.zip_longest","itertools.pairwise"].contains n=false)(hQ:Q () s):wpAny M A (letOwnedTupleGo tg (.ref it) u) Q E s:=by
 unfold letOwnedTupleGo
 cases tg<;>first
  |exact SB hQ
  |(cases u<;>first
     |exact SB hQ
     |(refine UV (wpAny_load ho ?_)
       rw[hc,hd]
       show wpAny M A (if(["enumerate","zip","dict_itemiterator","dict_reverseitemiterator","odict_iterator","itertools.zip_longest","itertools.pairwise"].contains n&&vs[0]?==⇑(rawInt _))=true then _ else _) Q E s
       rw[UF (by intro h;rw[hn,z0K]at h;cases h)]
       exact SB hQ))
def SV(K:aX)(a:Addr):It:=
 ⟨λi H=>∃xs x,jv K H a xs/\xs[i]?=⇑x,λi H x H'=>H'=H/\∀xs,jv K H a xs->xs[i]?=⇑x,λi H=>∃xs,jv K H a xs/\xs.length<=i⟩
def SW(K:aX)(a:Addr):It:=
 ⟨λi H=>∃xs x,jZ K H a xs/\xs[i]?=⇑x,λi H x H'=>H'=H/\∀xs,jZ K H a xs->xs[i]?=⇑x,λi H=>∃xs,jZ K H a xs/\xs.length<=i⟩
def PD(lo:Int)(n:Nat):It:=⟨λi _=>i<n,λi H x H'=>H'=H/\x=.int (lo+i),λi _=>n<=i⟩
theorem CO{w:World}{K:aX}(a it:Addr):Turn P w K tg (SV K a) [it] it (λi h=>h.IsListIter it a i) where
 mem:=by simp
 obj:=λi h st b hb=>by
  have e:b=it:=by simpa using hb
  subst e
  obtain⟨o,e,c,d⟩:=st
  exact⟨o,e,λv z=>by rw[d]at z;cases z⟩
 keep:=λi h h' st k=>st.at λo e=>k it (by simp) o e
 item:=by
  intro X hP hw hK hc i pins s σ H E I hf st hg
  subst hP hw hK
  obtain⟨_,x,hq,hx⟩:=hg
  obtain⟨_,rv,p,_⟩:=I.list hq
  obtain⟨u,hu,ru⟩:=rv.get hx
  obtain⟨f0,f1,_,f3,f4,f5⟩:=hf it (by simp)
  refine wpAny_pyNext_list_item st p.isList (x:=u) (by simpa using hu) λh' tH sb=>?_
  have I1:Inv X pins σ H {s with heap:=h'}:=I.turned (t':=s.toks) (λb o hb e=>(sb.2 b hb).trans e) f0 f1 f3 f4 f5
  obtain⟨o,e,c,d⟩:=id tH
  exact⟨u,rfl,wD (s:={s with heap:=h'}) e c d ∅ ⟨x,H,I1,ru,⟨rfl,λ_ hy=>by rw[I.qc hy hq];exact hx⟩,tH,λb hb=>(hf b hb).1⟩⟩
 done:=by
  intro X hP hw hK hc i pins s σ H E I hf st hg
  subst hP hw hK
  obtain⟨_,hq,hx⟩:=hg
  obtain⟨_,rv,p,_⟩:=I.list hq
  obtain⟨f0,f1,_,f3,f4,f5⟩:=hf it (by simp)
  have hl:=rv.length
  exact wpAny_pyNext_list_end (I.ok.hd hc) st p.isList (by simp;omega) λh' eb=>⟨rfl,I.turned (t':=s.toks) (λb o hb e=>eb b o hb e) f0 f1 f3 f4 f5⟩
 self:=λ_ _ _ _ _ st h=>wpAny_pyIter_listiter st h
theorem y8{w:World}{K:aX}(a it:Addr):Turn P w K tg (SW K a) [it] it (λi h=>h.IsTupleIter it a i) where
 mem:=by simp
 obj:=λi h st b hb=>by
  have e:b=it:=by simpa using hb
  subst e
  obtain⟨o,e,c,d⟩:=st
  exact⟨o,e,λv z=>by rw[d]at z;cases z⟩
 keep:=λi h h' st k=>st.at λo e=>k it (by simp) o e
 item:=by
  intro X hP hw hK hc i pins s σ H E I hf st hg
  subst hP hw hK
  obtain⟨_,x,hq,hx⟩:=hg
  obtain⟨its,rv,p,_⟩:=I.tuple hq
  obtain⟨u,hu,ru⟩:=rv.get hx
  obtain⟨f0,f1,_,f3,f4,f5⟩:=hf it (by simp)
  refine wpAny_pyNext_tuple_item st (show s.heap.IsTuple a its.toArray from p) (x:=u) (by simpa using hu) λh' tH sb=>?_
  have I1:Inv X pins σ H {s with heap:=h'}:=I.turned (t':=s.toks) (λb o hb e=>(sb.2 b hb).trans e) f0 f1 f3 f4 f5
  obtain⟨o,e,c,d⟩:=id tH
  exact⟨u,rfl,wD (s:={s with heap:=h'}) e c d ∅ ⟨x,H,I1,ru,⟨rfl,λ_ hy=>by rw[I.tF hy hq];exact hx⟩,tH,λb hb=>(hf b hb).1⟩⟩
 done:=by
  intro X hP hw hK hc i pins s σ H E I hf st hg
  subst hP hw hK
  obtain⟨_,hq,hx⟩:=hg
  obtain⟨its,rv,p,_⟩:=I.tuple hq
  obtain⟨f0,f1,_,f3,f4,f5⟩:=hf it (by simp)
  have hl:=rv.length
  exact wpAny_pyNext_tuple_end (I.ok.hd hc) st (show s.heap.IsTuple a its.toArray from p) (by simp;omega) λh' eb=>⟨rfl,I.turned (t':=s.toks) (λb o hb e=>eb b o hb e) f0 f1 f3 f4 f5⟩
 self:=λ_ _ _ _ _ st h=>wpAny_pyIter_tupleiter st h
theorem y9{w:World}{K:aX}(it:Addr)(lo:Int)(n:Nat):Turn P w K tg (PD lo n) [it] it (λi h=>IsRangeIter h it (lo+(i:Nat)*1) ((n:Int)-(i:Nat)) 1) where
 mem:=by simp
 obj:=λi h st b hb=>by
  have e:b=it:=by simpa using hb
  subst e
  exact⟨_,st,λv z=>by
   have z':Data.fields _=Data.cell v:=z
   cases z'⟩
 keep:=λi h h' st k=>k it (by simp) _ st
 item:=by
  intro X hP hw hK hc i pins s σ H E I hf st hg
  subst hP hw hK
  obtain⟨f0,f1,_,f3,f4,f5⟩:=hf it (by simp)
  have W:=Walks.range (prog:=X.prog) (w:=X.w) (I.ok.hd hc) it lo 1 n
  refine W.item i s _ _ hg st λv h' tk hv tH kk=>?_
  obtain⟨t,rfl⟩:=hv
  have I1:Inv X pins σ H {s with heap:=h',toks:=tk}:=I.turned (λb o hb e=>kk b o (by simpa using hb) e) f0 f1 f3 f4 f5
  refine⟨_,rfl,wD (s:={s with heap:=h',toks:=tk}) (n:= "range_iterator") tH rfl rfl ∅ ⟨.int (lo+i),H,I1,⟨t,?_⟩,⟨rfl,rfl⟩,tH,λb hb=>(hf b hb).1⟩⟩
  rw[Int.mul_one]
 done:=by
  intro X hP hw hK hc i pins s σ H E I hf st hg
  subst hP hw hK
  obtain⟨f0,f1,_,f3,f4,f5⟩:=hf it (by simp)
  exact wpAny_pyNext_range_end (I.ok.hd hc) st (by have:n<=i:=hg;omega) λh' eb=>⟨rfl,I.turned (t':=s.toks) (λb o hb e=>eb b o hb e) f0 f1 f3 f4 f5⟩
 self:=λ_ _ _ _ _ st h=>wpAny_pyIter_rangeiter st h
variable{fp:List Addr}
section
def PF(K:aX)(tl:TE):TI:=λσ H R=>tl σ H λx H1=>∃a,x=.ref a/\(∃xs,jv K H1 a xs)/\R (SV K a) H1
def SX(K:aX)(tl:TE):TI:=λσ H R=>tl σ H λx H1=>∃a,x=.ref a/\(∃xs,jZ K H1 a xs)/\R (SW K a) H1
theorem uL{l:Expr}{tl:TE}(hl:PE X l tl):PI X tg l (PF X.K tl):=by
 intro pins s σ H R I h
 refine cx (hl pins s σ H _ I h) λv s1 b9=>?_
 obtain⟨x,H1,I1,r1,q1⟩:=b9
 obtain⟨a,e,⟨_,hq⟩,q⟩:=q1
 subst e
 cases r1
 obtain⟨_,_,p,_⟩:=I1.list hq
 refine wpAny_pyIter_list p.isList ?_
 refine⟨↥s1,[↥s1],_,_,H1,rfl,I1.kept (t':=s1.toks) λb o e=>ZE _ e,CO a _,⟨_,ZR _ rfl,rfl,rfl⟩,λb hb=>?_,q⟩
 have e:b=↥s1:=by simpa using hb
 subst e
 exact I1.CN (ZK _) (I1.cD.fresh (ZK _))
theorem MO{l:Expr}{tl:TE}(hl:PE X l tl):PI X tg l (SX X.K tl):=by
 intro pins s σ H R I h
 refine cx (hl pins s σ H _ I h) λv s1 b9=>?_
 obtain⟨x,H1,I1,r1,q1⟩:=b9
 obtain⟨a,e,⟨_,hq⟩,q⟩:=q1
 subst e
 cases r1
 obtain⟨its,_,p,_⟩:=I1.tuple hq
 refine wpAny_pyIter_tuple (show s1.heap.IsTuple a its.toArray from p) ?_
 refine⟨↥s1,[↥s1],_,_,H1,rfl,I1.kept (t':=s1.toks) λb o e=>ZE _ e,y8 a _,⟨_,ZR _ rfl,rfl,rfl⟩,λb hb=>?_,q⟩
 have e:b=↥s1:=by simpa using hb
 subst e
 exact I1.CN (ZK _) (I1.cD.fresh (ZK _))
theorem EW{R:It->Hp->Prop}{lo hi:Int}{t u v:Tok}{tk:Nat}(I:Inv X pins σ H s)(h1:-(2^62)<=lo)(h2:lo<2^62)(h3:-(2^62)<=hi)(h4:hi<2^62)
  (q:R (PD lo (hi-lo).toNat) H):gw X (pyIter (.ref ↥s)) (UT X pins σ tg R) E {s with heap:=s.heap.push {cls:=.type "range",data:=.fields #[.int lo t,.int hi u,.int 1 v]},toks:=tk}:=by
 refine wpAny_pyIter_range (IsRange.new ..) (small_one h1 h2 h3 h4) ?_
 have I1:Inv X pins σ H {s with heap:=s.heap.push {cls:=.type "range",data:=.fields #[.int lo t,.int hi u,.int 1 v]},toks:=tk}:=I.kept λb o e=>ZE _ e
 refine⟨(s.heap.push {cls:=.type "range",data:=.fields #[.int lo t,.int hi u,.int 1 v]}).objs.size,[(s.heap.push {cls:=.type "range",data:=.fields #[.int lo t,.int hi u,.int 1 v]}).objs.size],_,_,H,rfl,
  I1.kept (t':=tk) λb o e=>ZE _ e,y9 _ lo (hi-lo).toNat,?_,λb hb=>?_,q⟩
 ·have e1:lo+((0:Nat):Int)*1=lo:=by simp
  have e2:(((hi-lo).toNat:Nat):Int)-((0:Nat):Int)=Builtin.Range.rangeSize lo hi 1:=by rw[rangeSize_one];split<;>omega
  show IsRangeIter _ _ (lo+((0:Nat):Int)*1) ((((hi-lo).toNat:Nat):Int)-((0:Nat):Int)) 1
  rw[e1,e2]
  exact ZR _ rfl
 ·have e:b=(s.heap.push {cls:=.type "range",data:=.fields #[.int lo t,.int hi u,.int 1 v]}).objs.size:=by simpa using hb
  subst e
  exact I1.CN (ZK _) (I1.cD.fresh (ZK _))
def Lu(ta:TA):TI:=λσ H R=>ta σ H λvs H1=>∃j:Int,vs=[.int j]/\-(2^62)<=j/\j<2^62/\R (PD 0 j.toNat) H1
theorem nY{a:Expr}{ta:TA}{p:Pos}(hg:Gl X "range")(hm:X.mg "range" =none)(ha:PA X [a] ta)(hs:starEach [a] X.env=[(false,eval a X.env)]:=by rfl):PI X tg (.Call (.Name "range" p) [a] [] pos) (Lu ta):=by
 intro pins s σ H R I h
 refine Call_ (lV I hg hm boot_range (PyProof.Rows.callWith_type1 (cx (ha pos pins s σ H _ I h) λ_ _ b9=>?_) hs rfl))
 obtain⟨_,_,I1,r1,q1⟩:=b9
 obtain⟨j,e,q1,q2,q⟩:=q1
 subst e
 cases r1 with
 |cons r rr=>
  cases rr
  obtain⟨t,rfl⟩:=r
  exact call_range_1 (EW I1 ⋯ ⋯ q1 q2 (by simpa using q))
def PH(wi:TI)(g:TG)(tb:TS):TS:=λD σ H=>wi σ H λJ H1=>∃W:Nat->Nat->St->Hp->Prop,(∃m,W 0 m σ H1)/\∀i m σ H,W i m σ H->
 (J.stop i H/\D.nx σ H)\/(J.go i H/\∃N:St->Hp->Prop,(∀σ' H',N σ' H'->∃m',m'<m/\W (i+1) m' σ' H')/\∀x H',J.yld i H x H'->g x σ H' λσ2 H2=>tb {D with nx:=N,ct:=N,bk:=D.nx} σ2 H2)
def jw(fp:List Addr)(h:Heap):List (Addr×Obj):=fp.filterMap λb=>(h.get? b).map λo=>(b,o)
theorem jx{b:Addr}{o:Obj}(hb:b∈fp)(e:h.get? b=⇑o):(b,o)∈jw fp h:=YA.mpr ⟨b,hb,by rw[e];rfl⟩
theorem tI{p:Addr×Obj}(hp:p∈jw fp h):p.1∈fp/\h.get? p.1=⇑p.2:=by
 obtain⟨b,hb,e⟩:=YA.mp hp
 cases q:h.get? b with
 |none=>rw[q]at e;cases e
 |some o=>
  rw[q]at e
  have e':(b,o)=p:=ZX e
  subst e'
  exact⟨hb,q⟩
theorem Inv.pinned(I:Inv X pins σ H s)(hf:∀b∈fp,nX X pins H b)(ho:∀b∈fp,∃o,s.heap.get? b=⇑o/\∀v,o.data≠.cell v):Inv X (pins++jw fp s.heap) σ H s:=
 I.ff λp hp=>(Zg.mp hp).elim (λz=>I.pin p (ZF _ z)) λz=>by
  obtain⟨hb,e⟩:=tI z
  obtain⟨f0,f1,f2,_⟩:=hf p.1 hb
  obtain⟨o,e',d⟩:=ho p.1 hb
  rw[e]at e';cases e'
  exact⟨e,f0,f1,f2,d⟩
theorem Inv.mE{pl:List (Addr×Obj)}(I:Inv X (pins++pl) σ H s):Inv X pins σ H s:=I.ff λp hp=>I.pin p (ZF _ (Zf _ hp))
theorem za{iter:Expr}{wi:TI}{g:TG}(hp:PassesOwn (model X.prog X.w) X.A X.env X.xe)(hc:X.calm=true)(hi:PI X tg iter wi)(hg:PG X tg g)(hb:sL X body tb)
  (hs:∀x,foldedSetIterable iter X.env x=pure x:=by intro _;rfl):PS X (.For tg iter body [] pos) (PH wi g tb):=by
 intro pins s σ H D I h
 refine wpAny_For (cx (hi pins s σ H _ I h) λv _ h1=>cx h1 λ_ _ h2=>?_) hs
 obtain⟨_,fp,tn,J,H2,e,I2,T,Lv,f2,W,⟨m0,w0⟩,turn⟩:=h2
 subst e
 have MP:∀{H':Hp},(∀b∈fp,H' b=none)->∀b∈fp,nX X pins H' b:=λhn b hb=>⟨hn b hb,(f2 b hb).2⟩
 refine codeAny_forLoop_any (λn s'=>∃i σ' H',Inv X pins σ' H' s'/\tn i s'.heap/\(∀b∈fp,H' b=none)/\W i n σ' H') ?_ m0 ⟨0,σ,H2,I2,Lv,λb hb=>(f2 b hb).1,w0⟩
 rintro n s3 ⟨i,σ3,H3,I3,RN,UU,w3⟩
 rcases turn i n σ3 H3 w3 with⟨stop,qn⟩|⟨go,N,hN,step⟩
 ·refine O1 hp (cx (T.done X rfl rfl rfl hc i pins s3 σ3 H3 X.xe I3 (MP UU) RN stop) λr _ ⟨hr,I4⟩=>?_)
  subst hr
  exact On ⟨σ3,H3,I4,qn⟩
 ·refine O1 hp (cx (T.item X rfl rfl rfl hc i pins s3 σ3 H3 X.xe I3 (MP UU) RN go) λr _ b9=>?_)
  obtain⟨u,hr,h4⟩:=b9
  subst hr
  refine O1 hp (cx h4 λ_ s5 b9=>?_)
  obtain⟨x,H5,I5,r5,y5,MQ,SY⟩:=b9
  have S0:=I5.pinned (MP SY) (T.obj _ _ MQ)
  refine O1 hp (cx (hg _ s5 σ3 H5 x u _ S0 r5 (step x H5 y5)) λ_ s6 b9=>?_)
  obtain⟨σ6,H6,I6,q6⟩:=b9
  refine O1 hp (cx (hb _ s6 σ6 H6 _ I6 q6) λf s7 q7=>?_)
  have again:∀{σ7:St} {H7:Hp},Inv X (pins++jw fp s5.heap) σ7 H7 s7->N σ7 H7->∃m,m<n/\∃i σ' H',Inv X pins σ' H' s7/\tn i s7.heap/\(∀b∈fp,H' b=none)/\W i m σ' H':=λ{σ7 H7} I7 n7=>by
   obtain⟨m',hm,w7⟩:=hN σ7 H7 n7
   refine⟨m',hm,i+1,σ7,H7,I7.mE,T.keep _ _ _ MQ λb hb o e=>(I7.pin (b,o) (ZF _ (ZF _ (jx hb e)))).1,λb hb=>?_,w7⟩
   obtain⟨o,e,d⟩:=T.obj _ _ MQ b hb
   exact(I7.pin (b,o) (ZF _ (ZF _ (jx hb e)))).2.1
  cases f with
  |next=>obtain⟨σ7,H7,I7,n7⟩:=q7;exact again I7 n7
  |cont=>obtain⟨σ7,H7,I7,n7⟩:=q7;exact again I7 n7
  |brk=>obtain⟨σ7,H7,I7,q7⟩:=q7;exact⟨σ7,H7,I7.mE,q7⟩
  |ret v=>obtain⟨x7,σ7,H7,I7,r7,q7⟩:=q7;exact⟨x7,σ7,H7,I7.mE,r7,q7⟩
end
abbrev R2:=V->V->Hp->VK->Prop
def iM(X:Cx)(f:Value->Value->Sem Value)(r:R2):Prop:=
 ∀(pins:List (Addr×Obj)) (s:Shared) (σ:St) (H:Hp) (x y:V) (v u:Value) (Q:VK),Inv X pins σ H s->RelV x v->RelV y u->r x y H Q->
  gw X (f v u) (EP X pins σ Q) X.xe s
def S1(X:Cx)(f:Value->Sem Value)(r:V->Hp->VK->Prop):Prop:=
 ∀(pins:List (Addr×Obj)) (s:Shared) (σ:St) (H:Hp) (x:V) (v:Value) (Q:VK),Inv X pins σ H s->RelV x v->r x H Q->
  gw X (f v) (EP X pins σ Q) X.xe s
def fM(X:Cx)(f:Value)(r:List V->Hp->VK->Prop):Prop:=
 ∀(pins:List (Addr×Obj)) (s:Shared) (σ:St) (H:Hp) (xs:List V) (us:List Value) (Q:VK),Inv X pins σ H s->Vals xs us->r xs H Q->
  gw X (call f us) (EP X pins σ Q) X.xe s
def PJ(r:R2)(ta tb:TE):TE:=λσ H Q=>ta σ H λx H1=>tb σ H1 λy H2=>r x y H2 Q
def V4(r:V->Hp->VK->Prop)(ta:TE):TE:=λσ H Q=>ta σ H λx H1=>r x H1 Q
def rI(C:Int->Int->Prop)(g:Int->Int->V):R2:=λx y H Q=>∃i j,x=.int i/\y=.int j/\C i j/\Q (g i j) H
def wF(g:Int->Int->V):R2:=λx y H Q=>∃i j,x=.int i/\y=.int j/\Q (g i j) H
def rU(g:Int->V):V->Hp->VK->Prop:=λx H Q=>∃i,x=.int i/\Q (g i) H
variable{g:Int->Int->Int}{f:Value->Value->Sem Value}
section
variable{a b:Expr}{tb tc:TE}
theorem MR(ha:PE X a ta)(hb:PE X b tb){R:V->V->Hp->Prop}(I:Inv X pins σ H s)
  (h:ta σ H λx H1=>tb σ H1 λy H2=>R x y H2)
  (hf:∀v u s2 x y H2,Inv X pins σ H2 s2->RelV x v->RelV y u->R x y H2->gw X (f v u) Q X.xe s2):
  gw X (eval a X.env) (λv s₁=>gw X (eval b X.env) (λu s₂=>gw X (f v u) Q X.xe s₂) X.xe s₁) X.xe s:=by
 refine cx (ha pins s σ H _ I h) λv s1 b9=>?_
 obtain⟨x,H1,I1,r1,q1⟩:=b9
 refine cx (hb pins s1 σ H1 _ I1 q1) λu s2 b9=>?_
 obtain⟨y,H2,I2,r2,q2⟩:=b9
 exact hf v u s2 x y H2 I2 r1 r2 q2
theorem EX{r:R2}(ho:iM X (binaryOp op) r)(ha:PE X a ta)(hb:PE X b tb):PE X (.BinOp a op b pos) (PJ r ta tb):=by
 intro pins s σ H Q I h
 exact wpAny_BinOp (MR ha hb I h λv u s2 x y H2 I2 rx ry q=>ho pins s2 σ H2 x y v u Q I2 rx ry q)
theorem PL{op:UnaryOp}{r:V->Hp->VK->Prop}(ho:S1 X (unaryOp op) r)(ha:PE X a ta):PE X (.UnaryOp op a pos) (V4 r ta):=by
 intro pins s σ H Q I h
 exact UnaryOp_ (cx (ha pins s σ H _ I h) λv s1 ⟨x,H1,I1,r1,q1⟩=>ho pins s1 σ H1 x v Q I1 r1 q1)
theorem OX{C:Int->Int->Prop}
  (rule:∀(i j:Int) (t u:Tok) (s:Shared) (Q:Value->Shared->Prop) (E:Value->Shared->Prop),C i j->Q (.int (g i j) s.toks) {s with toks:=s.toks+1}->gw X (f (.int i t) (.int j u)) Q E s):
  iM X f (rI C λi j=>.int (g i j)):=by
 intro _ s _ H x y v u Q I rx ry h
 obtain⟨i,j,rfl,rfl,hc,q⟩:=h
 obtain⟨t,rfl⟩:=rx
 obtain⟨t',rfl⟩:=ry
 exact rule i j t t' s _ _ hc ⟨.int (g i j),H,I.tok _,⟨_,rfl⟩,q⟩
theorem EY
  (rule:∀(i j:Int) (t u:Tok) (s:Shared) (Q:Value->Shared->Prop) (E:Value->Shared->Prop),Q (.int (g i j) s.toks) {s with toks:=s.toks+1}->gw X (f (.int i t) (.int j u)) Q E s):
  iM X f (wF λi j=>.int (g i j)):=by
 intro _ s _ H x y v u Q I rx ry h
 obtain⟨i,j,rfl,rfl,q⟩:=h
 obtain⟨t,rfl⟩:=rx
 obtain⟨t',rfl⟩:=ry
 exact rule i j t t' s _ _ ⟨.int (g i j),H,I.tok _,⟨_,rfl⟩,q⟩
theorem Jc{g:Int->Int->Bool}
  (rule:∀(i j:Int) (t u:Tok) (s:Shared) (Q:Value->Shared->Prop) (E:Value->Shared->Prop),Q (.bool (g i j)) s->gw X (f (.int i t) (.int j u)) Q E s):
  iM X f (wF λi j=>.bl (g i j)):=by
 intro _ s _ H x y v u Q I rx ry h
 obtain⟨i,j,rfl,rfl,q⟩:=h
 obtain⟨t,rfl⟩:=rx
 obtain⟨t',rfl⟩:=ry
 exact rule i j t t' s _ _ ⟨.bl (g i j),H,I,rfl,q⟩
def S2(i j:Int):Prop:=0<j/\j<1073741824
def PM(i j:Int):Prop:=0<=j/\j<=1000000/\i.natAbs<2^64
def MS(i j:Int):Prop:=(-(2^64)<i/\i<2^64)\/(-(2^64)<j/\j<2^64)
theorem MS.ok{i j:Int}(h:MS i j):IntMulOk i j:=by
 rcases h with⟨h1,h2⟩|⟨h1,h2⟩
 ·exact .of_left (intBits_le_64 h1 h2)
 ·exact .of_right (intBits_le_64 h1 h2)
theorem zb(k:Nat):(0:Int)<=2^k:=by
 rw[two_pow_cast]
 exact Int.natCast_nonneg _
theorem MT:iM X (binaryOp .Add) (wF λi j=>.int (i+j)):=EY λ_ _ _ _ _ _ _ q=>add_int q
theorem MU:iM X (binaryOp .Sub) (wF λi j=>.int (i-j)):=EY λ_ _ _ _ _ _ _ q=>sub_int q
theorem MV:iM X (binaryOp .Mult) (rI MS λi j=>.int (i*j)):=OX λ_ _ _ _ _ _ _ hc q=>mul_int q hc.ok
theorem Jd:iM X (binaryOp .FloorDiv) (rI S2 λi j=>.int (i/j)):=OX λi j _ _ _ _ _ hc q=>by
 have h1:(0:Int)<j:=hc.1
 have h2:j<1073741824:=hc.2
 exact floordiv_int ⋯ (by rw[X1 i ⋯];exact q) (.inl (PyProof.noPylong_small ⋯))
theorem MW:iM X (binaryOp .Mod) (rI (λ_ j=>0<j) λi j=>.int (i % j)):=OX λi j _ _ _ _ _ hc q=>by
 have h1:(0:Int)<j:=hc
 exact mod_int' ⋯ (by rw[Int.fmod_eq_emod_of_nonneg i ⋯];exact q)
theorem MX:iM X (binaryOp .Pow) (rI PM λi j=>.int (i^j.toNat)):=OX λ_ _ _ _ _ _ _ hc q=>pow_int_small hc.1 hc.2.1 hc.2.2 q
theorem MY:iM X (binaryOp .LShift) (rI PM λi j=>.int (i*2^j.toNat)):=OX λ_ _ _ _ _ _ _ hc q=>lshift_int_small hc.1 hc.2.1 hc.2.2 q
theorem MZ:iM X (binaryOp .RShift) (rI (λ_ j=>0<=j) λi j=>.int (i/2^j.toNat)):=OX λi j _ _ _ _ _ hc q=>
 rshift_int hc (by rw[X1 i (zb _)];exact q)
theorem M0:iM X (binaryOp .BitAnd) (wF λi j=>.int (Builtin.bitAnd i j)):=EY λ_ _ _ _ _ _ _ q=>and_int q
theorem PN:iM X (binaryOp .BitOr) (wF λi j=>.int (Builtin.bitOr i j)):=EY λ_ _ _ _ _ _ _ q=>or_int q
theorem Je:iM X (inplaceOp .Add) (wF λi j=>.int (i+j)):=EY λ_ _ _ _ _ _ _ q=>iadd_int q
theorem V5{f:Value->Sem Value}{g:Int->Int}
  (rule:∀(i:Int) (t:Tok) (s:Shared) (Q:Value->Shared->Prop) (E:Value->Shared->Prop),Q (.int (g i) s.toks) {s with toks:=s.toks+1}->gw X (f (.int i t)) Q E s):
  S1 X f (rU λi=>.int (g i)):=by
 intro _ s _ H x v Q I rx h
 obtain⟨i,rfl,q⟩:=h
 obtain⟨t,rfl⟩:=rx
 exact rule i t s _ _ ⟨.int (g i),H,I.tok _,⟨_,rfl⟩,q⟩
theorem M1:S1 X (unaryOp .USub) (rU λi=>.int (-i)):=V5 λ_ _ _ _ _ q=>neg_int q
end
def PQ:V->V->Bool
 |.non,.non=>true|.non,.int _=>true|.int _,.non=>true|.non,.bl _=>true|.bl _,.non=>true|.non,.str _=>true|.str _,.non=>true
 |.int _,.int _=>true|.bl _,.bl _=>true|.str _,.str _=>true|.byt _,.byt _=>true
 |.int _,.str _=>true|.str _,.int _=>true|.bl _,.str _=>true|.str _,.bl _=>true
 |_,_=>false
def V6:R2:=λx y H Q=>PQ x y=true/\Q (.bl (decide (x=y))) H
def V7:R2:=λx y H Q=>PQ x y=true/\Q (.bl (!decide (x=y))) H
theorem AW{i j:Int}:decide (V.int i=V.int j)=(i==j):=by
 rw[YO]
 simp
theorem EZ{i j:Bool}:decide (V.bl i=V.bl j)=(i==j):=by
 rw[YO]
 simp
theorem AX{i j:Str}:decide (V.str i=V.str j)=(i==j):=by
 rw[YO]
 simp
theorem AY{i j:Array UInt8}:decide (V.byt i=V.byt j)=(i.toList==j.toList):=by
 rw[YO]
 cases i
 cases j
 simp
variable{r':R2}
section
variable{a b:Expr}{tb tc:TE}
theorem bM{Q:VK}{k k':Bool}(I:Inv X pins σ H s)(q:Q (.bl k) H)(e:k=k'):EP X pins σ Q (.bool k') s:=by
 subst e
 exact⟨.bl k,H,I,rfl,q⟩
theorem PR:iM X (compareOp .Eq) V6:=by
 intro _ s _ H x y v u Q I rx ry h
 obtain⟨hs,q⟩:=h
 cases x with
 |non=>
  cases rx
  cases y with
  |non=>cases ry;exact PySem.EqNone.eq_none_none (bM I q (by simp))
  |bl j=>cases ry;exact PySem.EqNone.eq_none_bool (bM I q (by simp))
  |int j=>obtain⟨_,rfl⟩:=ry;exact PySem.EqNone.eq_none_int (bM I q (by simp))
  |str j=>obtain⟨_,rfl⟩:=ry;exact PySem.EqNone.eq_none_str (bM I q (by simp))
  |_=>exact absurd (show false=true from hs) ZY
 |bl i=>
  cases rx
  cases y with
  |non=>cases ry;exact PySem.EqNone.eq_bool_none (bM I q (by simp))
  |bl j=>cases ry;exact eq_bool (bM I q EZ)
  |str j=>obtain⟨_,rfl⟩:=ry;exact PySem.EqMixed.eq_bool_str (bM I q (by simp))
  |_=>exact absurd (show false=true from hs) ZY
 |int i=>
  obtain⟨t,rfl⟩:=rx
  cases y with
  |non=>cases ry;exact PySem.EqNone.eq_int_none (bM I q (by simp))
  |int j=>obtain⟨_,rfl⟩:=ry;exact eq_int (bM I q AW)
  |str j=>obtain⟨_,rfl⟩:=ry;exact PySem.EqMixed.eq_int_str (bM I q (by simp))
  |_=>exact absurd (show false=true from hs) ZY
 |str i=>
  obtain⟨t,rfl⟩:=rx
  cases y with
  |non=>cases ry;exact PySem.EqNone.eq_str_none (bM I q (by simp))
  |bl j=>cases ry;exact PySem.EqMixed.eq_str_bool (bM I q (by simp))
  |int j=>obtain⟨_,rfl⟩:=ry;exact PySem.EqMixed.eq_str_int (bM I q (by simp))
  |str j=>obtain⟨_,rfl⟩:=ry;exact eq_str (bM I q AX)
  |_=>exact absurd (show false=true from hs) ZY
 |byt i=>
  obtain⟨t,rfl⟩:=rx
  cases y with
  |byt j=>obtain⟨_,rfl⟩:=ry;exact PySem.W.eq_bytes (bM I q AY)
  |_=>exact absurd (show false=true from hs) ZY
 |_=>cases y<;>exact absurd (show false=true from hs) ZY
theorem PU:iM X (compareOp .NotEq) V7:=by
 intro _ s _ H x y v u Q I rx ry h
 obtain⟨hs,q⟩:=h
 cases x with
 |non=>
  cases rx
  cases y with
  |non=>cases ry;exact PySem.EqNone.ne_none_none (bM I q (by simp))
  |bl j=>cases ry;exact PySem.EqNone.ne_none_bool (bM I q (by simp))
  |int j=>obtain⟨_,rfl⟩:=ry;exact PySem.EqNone.ne_none_int (bM I q (by simp))
  |str j=>obtain⟨_,rfl⟩:=ry;exact PySem.EqNone.ne_none_str (bM I q (by simp))
  |_=>exact absurd (show false=true from hs) ZY
 |bl i=>
  cases rx
  cases y with
  |non=>cases ry;exact PySem.EqNone.ne_bool_none (bM I q (by simp))
  |bl j=>cases ry;exact ne_bool (bM I q (congrArg not EZ))
  |str j=>obtain⟨_,rfl⟩:=ry;exact PySem.EqMixed.ne_bool_str (bM I q (by simp))
  |_=>exact absurd (show false=true from hs) ZY
 |int i=>
  obtain⟨t,rfl⟩:=rx
  cases y with
  |non=>cases ry;exact PySem.EqNone.ne_int_none (bM I q (by simp))
  |int j=>obtain⟨_,rfl⟩:=ry;exact ne_int (bM I q (congrArg not AW))
  |str j=>obtain⟨_,rfl⟩:=ry;exact PySem.EqMixed.ne_int_str (bM I q (by simp))
  |_=>exact absurd (show false=true from hs) ZY
 |str i=>
  obtain⟨t,rfl⟩:=rx
  cases y with
  |non=>cases ry;exact PySem.EqNone.ne_str_none (bM I q (by simp))
  |bl j=>cases ry;exact PySem.EqMixed.ne_str_bool (bM I q (by simp))
  |int j=>obtain⟨_,rfl⟩:=ry;exact PySem.EqMixed.ne_str_int (bM I q (by simp))
  |str j=>obtain⟨_,rfl⟩:=ry;exact ne_str (bM I q (congrArg not AX))
  |_=>exact absurd (show false=true from hs) ZY
 |byt i=>
  obtain⟨t,rfl⟩:=rx
  cases y with
  |byt j=>obtain⟨_,rfl⟩:=ry;exact PySem.W.ne_bytes (bM I q (congrArg not AY))
  |_=>exact absurd (show false=true from hs) ZY
 |_=>cases y<;>exact absurd (show false=true from hs) ZY
theorem Lx:iM X (compareOp .Lt) (wF λi j=>.bl (decide (i<j))):=Jc λ_ _ _ _ _ _ _ q=>lt_int q
theorem E2:iM X (compareOp .LtE) (wF λi j=>.bl (decide (i<=j))):=Jc λ_ _ _ _ _ _ _ q=>le_int q
theorem PX:iM X (compareOp .Gt) (wF λi j=>.bl (decide (j<i))):=Jc λ_ _ _ _ _ _ _ q=>gt_int q
theorem PY:iM X (compareOp .GtE) (wF λi j=>.bl (decide (j<=i))):=Jc λ_ _ _ _ _ _ _ q=>ge_int q
theorem M3:iM X (compareOp .Is) (λx y H Q=>y=.non/\Q (.bl (decide (x=.non))) H):=by
 intro _ s _ H x y v u Q I rx ry h
 obtain⟨rfl,q⟩:=h
 cases ry
 refine is_none_gen (bM I q ?_)
 cases x<;>first
  |(cases rx;rfl)
  |(obtain⟨t,rfl⟩:=rx;rfl)
theorem Jf:iM X (compareOp .IsNot) (λx y H Q=>y=.non/\Q (.bl (!decide (x=.non))) H):=by
 intro _ s _ H x y v u Q I rx ry h
 obtain⟨rfl,q⟩:=h
 cases ry
 refine isnot_none_gen (bM I q ?_)
 cases x<;>first
  |(cases rx;rfl)
  |(obtain⟨t,rfl⟩:=rx;rfl)
theorem iM.or{r:R2}(h:iM X f r)(h':iM X f r'):iM X f (λx y H Q=>r x y H Q\/r' x y H Q):=by
 intro pins s σ H x y v u Q I rx ry q
 rcases q with q|q
 ·exact h pins s σ H x y v u Q I rx ry q
 ·exact h' pins s σ H x y v u Q I rx ry q
theorem E3(b:Expr){op:CmpOp}(h:op≠.In:=by decide)(h2:op≠.NotIn:=by decide):behindInMarks op b=false:=by
 have e1:(op==CmpOp.In)=false:=by cases op<;>first|rfl|exact absurd rfl h
 have e2:(op==CmpOp.NotIn)=false:=by cases op<;>first|rfl|exact absurd rfl h2
 cases b<;>simp[behindInMarks,e1,e2]
theorem Jg{op:CmpOp}{r:R2}(ho:iM X (compareOp op) r)(ha:PE X a ta)(hb:PE X b tb)(hm:behindInMarks op b=false):PE X (.Compare a [op] [b] pos) (PJ r ta tb):=by
 intro pins s σ H Q I h
 exact wpAny_Compare1 (MR ha hb I h λv u s2 x y H2 I2 rx ry q=>ho pins s2 σ H2 x y v u Q I2 rx ry q) hm
def E4(t:TE):TT:=λσ H Q=>t σ H λx H'=>∃k,x=.bl k/\Q k H'
theorem Jh{op:CmpOp}{r:R2}(ho:iM X (compareOp op) r)(ha:PE X a ta)(hb:PE X b tb)(hm:behindInMarks op b=false):PT X (.Compare a [op] [b] pos) (E4 (PJ r ta tb)):=by
 intro pins s σ H Q I h
 refine wpAny_isTrue_Compare1 (cx (ha pins s σ H _ I h) λv s1 ⟨x,H1,I1,r1,q1⟩=>cx (hb pins s1 σ H1 _ I1 q1) λu s2 ⟨y,H2,I2,r2,q2⟩=>
  cx (ho pins s2 σ H2 x y v u _ I2 r1 r2 q2) λc _ ⟨z,H3,I3,r3,k,e,q3⟩=>?_) hm
 subst e
 cases r3
 exact P3 ⟨H3,I3,q3⟩
def qf(r r':R2)(ta tb tc:TE):TE:=λσ H Q=>ta σ H λx H1=>tb σ H1 λy H2=>r x y H2 λz H3=>∃k,z=.bl k/\
 (if k=true then tc σ H3 λw' H4=>r' y w' H4 Q else Q (.bl false) H3)
theorem E5{op M4:CmpOp}{r:R2}(ho:iM X (compareOp op) r)(EO:iM X (compareOp M4) r')(ha:PE X a ta)(hb:PE X b tb)(hc:PE X c tc)
  (hm:lastMarks [op,M4] [b,c]=false:=by with_unfolding_all rfl):PE X (.Compare a [op,M4] [b,c] pos) (qf r r' ta tb tc):=by
 intro pins s σ H Q I h
 refine Compare_chain (cx (ha pins s σ H _ I h) λv s1 ⟨x,H1,I1,r1,q1⟩=>chain_link (cx (hb pins s1 σ H1 _ I1 q1) λu s2 ⟨y,H2,I2,r2,q2⟩=>
  cx (ho pins s2 σ H2 x y v u _ I2 r1 r2 q2) λd s3 ⟨z,H3,I3,r3,k,e,q3⟩=>?_)) hm
 subst e
 cases r3
 refine P3 ?_
 cases k with
 |false=>exact ite_ff ⟨.bl false,H3,I3,rfl,q3⟩
 |true=>exact ite_tt (chain_last (cx (hc pins s3 σ H3 _ I3 q3) λw' s4 ⟨z',H4,I4,r4,q4⟩=>EO pins s4 σ H4 y z' u w' Q I4 r2 r4 q4))
theorem wG{op M4:CmpOp}{r:R2}(ho:iM X (compareOp op) r)(EO:iM X (compareOp M4) r')(ha:PE X a ta)(hb:PE X b tb)(hc:PE X c tc)
  (hm:lastMarks [op,M4] [b,c]=false:=by with_unfolding_all rfl):PT X (.Compare a [op,M4] [b,c] pos) (E4 (qf r r' ta tb tc)):=by
 intro pins s σ H Q I h
 refine isTrue_chain (cx (ha pins s σ H _ I h) λv s1 ⟨x,H1,I1,r1,q1⟩=>test_link (cx (hb pins s1 σ H1 _ I1 q1) λu s2 ⟨y,H2,I2,r2,q2⟩=>
  cx (ho pins s2 σ H2 x y v u _ I2 r1 r2 q2) λd s3 ⟨z,H3,I3,r3,k,e,q3⟩=>?_)) hm
 subst e
 cases r3
 refine P3 ?_
 cases k with
 |false=>
  obtain⟨_,e',q'⟩:=q3
  cases e'
  exact ite_ff ⟨H3,I3,q'⟩
 |true=>
  refine ite_tt (test_last (cx (hc pins s3 σ H3 _ I3 q3) λw' s4 ⟨z',H4,I4,r4,q4⟩=>cx (EO pins s4 σ H4 y z' u w' _ I4 r2 r4 q4) λ_ _ b9=>?_))
  obtain⟨_,H5,I5,r5,_,e2,q5⟩:=b9
  subst e2
  cases r5
  exact P3 ⟨H5,I5,q5⟩
theorem nZ:(sizeLine:Nat)<2^63:=by rw[sizeLine_eq];decide
theorem zc:iM X (binaryOp .Add) (λx y H Q=>∃i j,x=.str i/\y=.str j/\i.length+j.length<=sizeLine/\Q (.str (i++j)) H):=by
 intro _ s _ H x y v u Q I rx ry h
 obtain⟨i,j,rfl,rfl,hz,q⟩:=h
 obtain⟨t,rfl⟩:=rx
 obtain⟨_,rfl⟩:=ry
 exact add_str (λ_ _=>⟨.str (i++j),H,I.tok _,⟨_,rfl⟩,q⟩) hz
theorem vals1{x:V}(r:Vals [x] us):∃u,us=[u]/\RelV x u:=by
 cases r with
 |cons r1 r2=>cases r2;exact⟨_,rfl,r1⟩
theorem vals2{x:V}(r:Vals [x,y] us):∃u w',us=[u,w']/\RelV x u/\RelV y w':=by
 cases r with
 |cons r1 r2=>
  cases r2 with
  |cons r3 r4=>cases r4;exact⟨_,_,rfl,r1,r3⟩
theorem CP:fM X (.type "int") (λxs H Q=>(∃i,xs=[.int i]/\Q (.int i) H)\/∃k,xs=[.bl k]/\Q (.int (if k then 1 else 0)) H):=by
 intro _ s _ H xs _ Q I r h
 rcases h with⟨i,rfl,q⟩|⟨k,rfl,q⟩
 ·obtain⟨u,rfl,t,rfl⟩:=vals1 r
  exact call_int_int ⟨.int i,H,I,⟨_,rfl⟩,q⟩
 ·obtain⟨u,rfl,r1⟩:=vals1 r
  cases r1
  exact call_int_bool ⟨.int (if k then 1 else 0),H,I.tok _,⟨_,rfl⟩,q⟩
theorem uM:fM X (.type "str") (λxs H Q=>∃i,xs=[.int i]/\i.natAbs.log2<1920/\Q (.str (toString i)) H):=by
 intro _ s _ H xs _ Q I r h
 obtain⟨i,rfl,hz,q⟩:=h
 obtain⟨u,rfl,t,rfl⟩:=vals1 r
 exact PySem.P.str_of_int hz ⟨.str _,H,I.tok _,⟨_,rfl⟩,q⟩
end
structure zd(h:Heap)(x dx C:Addr)(mA:Str->Option Value):Prop where
 obj:h.get? x=⇑(PySem.W.instObj C dx)
 ns:h.Ns1 dx mA
 ne:dx≠x
variable{dx:Addr}{mA:Str->Option Value}
theorem CQ(n:h.Ns1 dx mA):∃od,h.get? dx=⇑od/\∀name,PySem.W.lookIn name od=⇑(mA name):=by
 obtain⟨o,es,_,ho,hd,hk,_,hm⟩:=n
 refine⟨o,ho,λname=>?_⟩
 have e:=hm name
 unfold nsFind findBy at e
 rw[<-Array.find?_toList]at e
 unfold PySem.W.lookIn
 rw[hd]
 dsimp only
 split
 ·rename_i y q
  rw[q]at e
  exact congrArg some e
 ·rename_i q
  rw[q]at e
  have a:es.toList.any (·.refKey)=false:=by
   rw[List.any_eq_false]
   intro y hy
   obtain⟨z,t,S3⟩:=hk y (Yn.mp hy)
   simp[DictEntry.refKey,S3]
  have a':¬es.toList.any (·.refKey)=true:=by rw[a];exact ZY
  rw[UF a']
  exact congrArg some e
variable{C:Addr}
theorem zd.look{x:Addr}(I:zd h x dx C mA):∃od,PySem.W.InstAt h x (PySem.W.instObj C dx) C ⇑od/\∀name,PySem.W.lookIn name od=⇑(mA name):=
 let⟨od,ho,hl⟩:=CQ I.ns
 ⟨od,⟨I.obj,rfl,rfl,ho⟩,hl⟩
variable{prog:Program}{name:Str}{kw:List (Str×Value)}
section
variable{w:World}{K:aX}{x f:Addr}{v:Value}
theorem get_map{expr:Bool}(X:K.In s.heap)(I:zd s.heap x dx C mA)(hg:PySem.W.plainGet K C name=true)(hh:PySem.W.hasDictIn K C=true)
  (ha:PySem.W.findIn K (.ref C) name=⇑none)(hv:mA name=⇑v)(OY:PySem.W.handedIn v=true)(h:Q v {s with toks:=s.toks+1}):
  wpAny (model prog w) A (getAttr (.ref x) name expr) Q E s:=by
 obtain⟨_,J,hl⟩:=I.look
 exact PySem.W.get_value X J (Y8 hg).1 (PySem.W.findObj_own hh ha rfl (by rw[hl,hv])) OY h
theorem E6{pl:Sem Bool}{Q:Value×List Value->Shared->Prop}(X:K.In s.heap)(I:zd s.heap x dx C mA)(hg:PySem.W.plainGet K C name=true)
  (hf:PySem.W.findIn K (.ref C) name=⇑(some (.ref f)))(ht:PySem.W.isFn K (.ref f)=true)(hv:mA name=none)(h:Q (.ref f,[.ref x]) s):
  wpAny (model prog w) A (getMethod (.ref x) name pl) Q E s:=by
 obtain⟨od,J,hl⟩:=I.look
 exact PySem.W.method_fn X J (Y8 hg).1 (Y8 hg).2 hf (KB.mp ht) (by show(PySem.W.lookIn name od).map (·.isSome)=⇑false;rw[hl,hv];rfl) h
theorem Ji{ns:List Str}{Q:Unit->Shared->Prop}(X:K.In s.heap)(I:zd s.heap x dx C mA)
  (hs:PySem.W.findIn K (.ref C) "__setattr__" =⇑(some (.builtin "object.__setattr__")))(hp:PySem.W.plainOver K C=true)(ht:PySem.W.takerIn K C name=⇑none)(hh:PySem.W.hasDictIn K C=true)
  (hw:PySem.Within mA ns)(hsz:ns.length<=sizeLine)
  (h:∀h',zd h' x dx C (λy=>if y=name then ⇑v else mA y)->Heap.SameBut dx s.heap h'->Q () {s with heap:=h',toks:=s.toks+2}):
  wpAny (model prog w) A (setAttr (.ref x) name v) Q E s:=by
 obtain⟨_,J,_⟩:=I.look
 refine PySem.W.set_plain X J hs (PySem.W.osa_open (s:={s with toks:=s.toks+1}) (r:=none) X J hp ht λb=>?_)
 obtain⟨_,hc,OV⟩:=PySem.W.any_some hh
 have hx:s.heap.get? x=⇑⟨.ref C,some dx,.plain,#[]⟩:=I.obj
 refine UV (SB (UV (UV (wpAny_loadPart hx (UV (PySem.W.Looks.here (s:={s with toks:=s.toks+1}) (PySem.W.looks_clsIn X hc) ?_))))))
 rw[OV]
 refine SB (a:=⇑dx) (UV (SB (UV ?_)))
 refine wpAny_nsSet1 (s:={s with toks:=s.toks+1}) I.ns λh' OZ pB=>?_
 obtain⟨_,_,_,V8,V9,Wa⟩:=OZ.count (PySem.Within.cons name v hw)
 refine UV (wpAny_lookBehind V8 (by rw[V9];exact pastItsLine_dict (Zd Wa (by rw[ZJ];omega))) ?_)
 exact SB (h _ ⟨(pB.2 _ (Ne.symm I.ne)).trans I.obj,OZ,I.ne⟩ pB)
theorem E7{R:Result->Shared->Prop}{vs:List Value}(X:K.In s.heap)(hm:PySem.W.makesIn K C=true)
  (hi:PySem.W.findIn K (.ref C) "__init__" =⇑(some (.ref f)))(hf:PySem.W.typeIn K (.ref f)=⇑(.type "function"))
  (h:codeAny (model prog w) (A.under (.builtin "type.__call__" ⟨.ref C::vs,kw⟩)) (.call (.ref f) ⟨.ref (↥s+1)::vs,kw⟩) (PySem.W.InitBack (↥s+1) R)
    {s with heap:=(s.heap.push PySem.W.emptyDict).push (PySem.W.instObj C ↥s)}):
  codeAny (model prog w) A (.call (.ref C) ⟨vs,kw⟩) R s:=by
 obtain⟨_,g,d,t,_⟩:=s
 exact PySem.W.make_core (PySem.W.makes_of X hm) (PySem.W.looks_findIn X hi) (λself=>PySem.W.bind_fn X self hf) (.inl rfl) h
end
def j3(f:Str)(v:V):List (Str×V)->List (Str×V)
 |[]=>[(f,v)]
 |(g,x)::r=>if g=f then(g,v)::r else(g,x)::j3 f v r
theorem oR(f g:Str)(v:V):∀fs:List (Str×V),(j3 f v fs).lookup g=if g=f then ⇑v else fs.lookup g
 |[]=>by
  show List.lookup g [(f,v)]=_
  by_cases h:g=f
  ·have hb:(g==f)=true:=KB.mpr h
   simp only[List.lookup,hb,W1 h]
  ·have hb:(g==f)=false:=beq_eq_false_iff_ne.mpr h
   simp only[List.lookup,hb,UF h]
 |(k,x)::r=>by
  have ih:=oR f g v r
  rw[show j3 f v ((k,x)::r)=(if k=f then(k,v)::r else(k,x)::j3 f v r)from rfl]
  by_cases hk:k=f
  ·rw[W1 hk]
   by_cases h:g=k
   ·have hb:(g==k)=true:=KB.mpr h
    simp only[List.lookup,hb,W1 (h.trans hk)]
   ·have hb:(g==k)=false:=beq_eq_false_iff_ne.mpr h
    simp only[List.lookup,hb,UF (λe:g=f=>h (e.trans hk.symm))]
  ·rw[UF hk]
   by_cases h:g=k
   ·have hb:(g==k)=true:=KB.mpr h
    simp only[List.lookup,hb,UF (λe:g=f=>hk (h.symm.trans e))]
   ·have hb:(g==k)=false:=beq_eq_false_iff_ne.mpr h
    simp only[List.lookup,hb]
    exact ih
theorem og(f:Str)(v:V):∀fs:List (Str×V),f∈(j3 f v fs).map (·.1)/\∀g,g∈fs.map (·.1)->g∈(j3 f v fs).map (·.1)
 |[]=>⟨by simp[j3],λg h=>by simp at h⟩
 |(k,x)::r=>by
  obtain⟨i1,i2⟩:=og f v r
  rw[show j3 f v ((k,x)::r)=(if k=f then(k,v)::r else(k,x)::j3 f v r)from rfl]
  by_cases hk:k=f
  ·rw[W1 hk]
   subst hk
   exact⟨by simp,λg h=>by simpa using h⟩
  ·rw[UF hk]
   refine⟨?_,λg h=>?_⟩
   ·rw[ZV]
    exact ZI _ i1
   ·rw[ZV]at h⊢
    rcases Zc.mp h with e|e
    ·exact Zc.mpr (.inl e)
    ·exact ZI _ (i2 g e)
theorem oS(f:Str)(v:V):∀fs:List (Str×V),(j3 f v fs).length<=fs.length+1
 |[]=>by simp[j3]
 |(k,x)::r=>by
  have ih:=oS f v r
  rw[show j3 f v ((k,x)::r)=(if k=f then(k,v)::r else(k,x)::j3 f v r)from rfl]
  by_cases hk:k=f
  ·rw[W1 hk,ZJ,ZJ];omega
  ·rw[UF hk,ZJ,ZJ];omega
theorem mx.some_of{o:Option Value}(r:mx ⇑v o):∃u,o=⇑u/\RelV v u:=by
 cases o with
 |none=>exact(show False from r).elim
 |some u=>exact⟨u,rfl,r⟩
theorem mx.none_of{o:Option Value}(r:mx none o):o=none:=by
 cases o with
 |none=>rfl
 |some u=>exact(show False from r).elim
theorem CS(r:RelV v u):PySem.W.handedIn u=true:=by
 cases v with
 |non=>cases(show u=Value.none from r);rfl
 |bl b=>cases(show u=Value.bool b from r);rfl
 |int i=>obtain⟨t,e⟩:=(show∃t,u=Value.int i t from r);cases e;rfl
 |str x=>obtain⟨t,e⟩:=(show∃t,u=Value.str x t from r);cases e;rfl
 |byt b=>obtain⟨t,e⟩:=(show∃t,u=Value.bytes b t from r);cases e;rfl
 |flt b=>obtain⟨t,e⟩:=(show∃t,u=Value.float b t from r);cases e;rfl
 |ref a=>cases(show u=Value.ref a from r);rfl
 |ty n=>cases(show u=Value.type n from r);rfl
section
variable{w:World}{fs IX:List (Str×V)}
theorem uN(cD:lR P w H h)(e:H a=⇑(.ins C dx fs)):∃mA,zd h a dx C mA/\(∀f,mx (fs.lookup f) (mA f))/\PySem.Within mA (fs.map (·.1))/\fs.length<=1000/\H dx=⇑(.own a):=by
 obtain⟨d,z,ne,ob,mA,n,r,q⟩:=(show cZ P w H h a (.ins C dx fs)from cD a _ e)
 exact⟨mA,⟨ob,n,ne⟩,r,q,z,d⟩
end
structure pC(K:aX)(C:Addr):Prop where
 pg:PySem.W.plainGet K C Str.empty=true
 hd:PySem.W.hasDictIn K C=true
 po:PySem.W.plainOver K C=true
 sa:PySem.W.findIn K (.ref C) "__setattr__" =⇑(some (.builtin "object.__setattr__"))
theorem pC.get{K:aX}(c:pC K C)(f:Str):PySem.W.plainGet K C f=true:=c.pg
def cE(K:aX)(C:Addr)(f:Str):Prop:=PySem.W.findIn K (.ref C) f=⇑none
theorem cE.PZ{K:aX}{f:Str}(n:cE K C f):PySem.W.takerIn K C f=⇑none:=by
 unfold PySem.W.takerIn
 rw[show PySem.W.findIn K (.ref C) f=⇑none from n]
 rfl
structure Meth(K:aX)(C:Addr)(m:Str)(f:Addr):Prop where
 at_:PySem.W.findIn K (.ref C) m=⇑(some (.ref f))
 fn:PySem.W.isFn K (.ref f)=true
 kp:PySem.W.keepIn K (.ref f)=true
variable{m:Str}
section
variable{fs:List (Str×V)}{f:Str}
theorem qg{b:Bool}(I:Inv X pins σ H s)(e:H a=⇑(.ins C dx fs))(c:pC X.K C)(n:cE X.K C f)(l:fs.lookup f=⇑v)
  (h:∀u s',Inv X pins σ H s'->RelV v u->Q u s'):wpAny (model X.prog X.w) A (getAttr (.ref a) f b) Q E s:=by
 obtain⟨mA,O,r,_,_,_⟩:=uN I.cD e
 obtain⟨u,hu,ru⟩:=mx.some_of (v:=v) (o:=mA f) (by rw[<-l];exact r f)
 exact get_map I.lE O (c.get f) c.hd n hu (CS ru) (h u _ (I.tok _) ru)
theorem jy{g:Addr}{pl:Sem Bool}{Q:Value×List Value->Shared->Prop}(I:Inv X pins σ H s)(e:H a=⇑(.ins C dx fs))(c:pC X.K C)(k:Meth X.K C m g)(l:fs.lookup m=none)
  (h:Q (.ref g,[.ref a]) s):wpAny (model X.prog X.w) A (getMethod (.ref a) m pl) Q E s:=by
 obtain⟨mA,O,r,_,_,_⟩:=uN I.cD e
 have hn:mA m=none:=mx.none_of (by rw[<-l];exact r m)
 exact E6 I.lE O (c.get m) k.at_ k.fn hn h
theorem qh{Q:Unit->Shared->Prop}(I:Inv X pins σ H s)(e:H a=⇑(.ins C dx fs))(c:pC X.K C)(n:cE X.K C f)(hl:fs.length<1000)(ry:RelV y u)
  (h:∀s',Inv X pins σ (upd H a (.ins C dx (j3 f y fs))) s'->Q () s'):wpAny (model X.prog X.w) A (setAttr (.ref a) f u) Q E s:=by
 obtain⟨mA,O,r,wi,_,ho⟩:=uN I.cD e
 have hz:(fs.map (·.1)).length<=sizeLine:=by rw[ZD,sizeLine_eq];omega
 refine Ji I.lE O c.sa c.po n.PZ c.hd wi hz λh' O' sb=>h _ ?_
 have hd:∃o,h'.get? dx=⇑o:=let⟨o,_,_,e',_⟩:=O'.ns;⟨o,e'⟩
 refine I.write (x:=a) (e:=dx) (by rw[e];exact True.intro) (.inr ho) (λb q hb z=>(sb.2 b hb).trans z) hd ?_
 refine⟨by rw[au O.ne];exact ho,?_,O.ne,O'.obj,_,O'.ns,λg=>?_,λg hg=>?_⟩
 ·have:=oS f y fs;omega
 ·show mx ((j3 f y fs).lookup g) (if g=f then ⇑u else mA g)
  rw[oR]
  by_cases q:g=f
  ·rw[W1 q,W1 q];exact ry
  ·rw[UF q,UF q];exact r g
 ·by_cases q:g=f
  ·rw[q];exact(og f y fs).1
  ·refine(og f y fs).2 g (wi g λz=>hg ?_)
   show(if g=f then ⇑u else mA g)=none
   rw[UF q];exact z
theorem Inv.made(I:Inv X pins σ H s):Inv X pins σ (upd (upd H ↥s (.own (↥s+1))) (↥s+1) (.ins C ↥s []))
  {s with heap:=(s.heap.push PySem.W.emptyDict).push (PySem.W.instObj C ↥s)}:=by
 have e1:(s.heap.push PySem.W.emptyDict).get? ↥s=⇑PySem.W.emptyDict:=ZR s.heap rfl
 have e2:((s.heap.push PySem.W.emptyDict).push (PySem.W.instObj C ↥s)).get? (↥s+1)=⇑(PySem.W.instObj C ↥s):=by
  have:=ZR (s.heap.push PySem.W.emptyDict) (o:=PySem.W.instObj C ↥s) rfl
  rwa[YV]at this
 have e3:(s.heap.push PySem.W.emptyDict).Ns ↥s (λ_=>none):=⟨PySem.W.emptyDict,#[],_,e1,rfl,(λe he=>absurd he (by simp)),λ_=>rfl⟩
 have I1:=I.laid (a:=↥s) (o:=.own (↥s+1)) (h':=s.heap.push PySem.W.emptyDict) (t':=s.toks) (λb u q=>ZE _ q) (ZK _) ⟨_,e1⟩
 refine I1.laid (a:=↥s+1) (o:=.ins C ↥s []) (t':=s.toks) (λb u q=>ZE _ q) (z0P (YV _ _)) ?_
 have ne:↥s≠↥s+1:=Ze (Yo _)
 refine⟨by rw[au ne,aF],Zm _,ne,e2,λ_=>none,(Heap.Ns1.of_empty e3).at λo q=>ZE _ q,λ_=>True.intro,λy hy=>absurd rfl hy⟩
theorem Jj{w:World}{env:Env}{e:Expr}{f:Str}(hb:attributeBase e f env (eval e env)=eval e env)
  (h:wpAny (model prog w) A (eval e env) (λo s₁=>wpAny (model prog w) A (getAttr o f true) Q E s₁) E s):wpAny (model prog w) A (eval (.Attribute e f pos) env) Q E s:=
 Attribute_any_ h (by rw[arm_eval_Attribute,hb])
end
def S4(K:aX)(ta:TE)(f:Str):TE:=λσ H Q=>ta σ H λx H1=>∃a C dx fs v,x=.ref a/\H1 a=⇑(.ins C dx fs)/\pC K C/\cE K C f/\fs.lookup f=⇑v/\Q v H1
def Jk(K:aX)(ta tv:TE)(f:Str):TS:=λD σ H=>tv σ H λy H1=>ta σ H1 λx H2=>∃a C dx fs,x=.ref a/\H2 a=⇑(.ins C dx fs)/\pC K C/\cE K C f/\fs.length<1000/\
 D.nx σ (upd H2 a (.ins C dx (j3 f y fs)))
def P0(X:Cx)(op:Operator)(rd:V->V->Hp->VK->Prop):Prop:=
 ∀(pins:List (Addr×Obj)) (s:Shared) (σ:St) (H:Hp) (x y:V) (u v:Value) (Q:VK),Inv X pins σ H s->RelV x u->RelV y v->rd x y H Q->gw X (inplaceOp op u v) (EP X pins σ Q) X.xe s
def Jl(K:aX)(ta tv:TE)(rd:V->V->Hp->VK->Prop)(f:Str):TS:=λD σ H=>ta σ H λx H1=>∃a C dx fs v,x=.ref a/\H1 a=⇑(.ins C dx fs)/\pC K C/\cE K C f/\fs.lookup f=⇑v/\
 tv σ H1 λy H2=>rd v y H2 λz H3=>∃UW IX,H3 a=⇑(.ins C UW IX)/\IX.length<1000/\D.nx σ (upd H3 a (.ins C UW (j3 f z IX)))
section
variable{o e value:Expr}{f:Str}{P1:Pos}{tv:TE}
theorem uO(he:PE X e ta)(hb:attributeBase e f X.env (eval e X.env)=eval e X.env):PE X (.Attribute e f pos) (S4 X.K ta f):=by
 intro pins s σ H Q I h
 refine Jj hb (cx (he pins s σ H _ I h) λu _ b9=>?_)
 obtain⟨x,H1,I1,rx,a,C,_,_,v,ex,ea,c,n,l,q⟩:=b9
 subst ex
 obtain rfl:u=Value.ref a:=rx
 exact qg I1 ea c n l λ_ _ I2 ru=>⟨v,H1,I2,ru,q⟩
theorem ic(ha:PE X o ta)(hv:PE X value tv)(hs:swapsWith value ⇑(.Attribute o f pos') pos.line X.env=pure false):PS X (.Assign [.Attribute o f pos'] value pos) (Jk X.K ta tv f):=by
 intro pins s σ H D I h
 refine plainObj_wpAny_Assign_Attribute (cx (hv pins s σ H _ I h) λu s1 ⟨y,H1,I1,ry,q⟩=>cx (ha pins s1 σ H1 _ I1 q) λov _ b9=>?_) hs
 obtain⟨x,_,I2,rx,a,C,_,_,ex,ea,c,n,l,q2⟩:=b9
 subst ex
 obtain rfl:ov=Value.ref a:=rx
 exact qh I2 ea c n l ry λ_ I3=>⟨σ,_,I3,q2⟩
theorem tJ{rd:V->V->Hp->VK->Prop}(ha:PE X o ta)(hv:PE X value tv)(Wb:P0 X op rd):PS X (.AugAssign (.Attribute o f P1) op value pos) (Jl X.K ta tv rd f):=by
 intro pins s σ H D I h
 refine wpAny_AugAssign_AttributeAny (cx (ha pins s σ H _ I h) λov _ b9=>?_)
 obtain⟨x,H1,I1,rx,a,C,_,_,v,ex,ea,c,n,l,q⟩:=b9
 subst ex
 obtain rfl:ov=Value.ref a:=rx
 refine qg I1 ea c n l λu s2 I2 ru=>cx (hv pins s2 σ H1 _ I2 q) λw3 s3 ⟨y,H2,I3,ry,q3⟩=>cx (Wb pins s3 σ H2 v y u w3 _ I3 ru ry q3) λ_ _ b9=>?_
 obtain⟨z,_,I4,rz,_,_,Wc,l',q4⟩:=b9
 exact qh I4 Wc c n l' rz λ_ I5=>⟨σ,_,I5,q4⟩
def S5:V->V->Hp->VK->Prop:=λx y H Q=>∃i j,x=.int i/\y=.int j/\Q (.int (i+j)) H
theorem E8:P0 X .Add S5:=by
 rintro _ s _ H x y u v Q I rx ry ⟨i,j,rfl,rfl,q⟩
 obtain⟨t,rfl⟩:=(show∃t,u=Value.int i t from rx)
 obtain⟨t',rfl⟩:=(show∃t',v=Value.int j t' from ry)
 exact PyProof.Rows.iadd_int ⟨.int (i+j),H,I.tok _,⟨_,rfl⟩,q⟩
end
structure bG(k:Nat)(A:Around):Prop where
 hd:A.handled=none
 dp:A.depth+3*k+5<recursionLimit
 un:A.units+16*k+200<cLine
theorem bG.mono{j k:Nat}(r:bG k A)(h:j<=k):bG j A:=⟨r.hd,by have:=r.dp;omega,by have:=r.un;omega⟩
theorem bG.deeper{k:Nat}(r:bG (k+1) A)(env:Env):bG k (A.deeper env):=
 ⟨r.hd,by have:=r.dp;show A.depth+1+3*k+5<_;omega,by have:=r.un;show A.units+3+16*k+200<_;omega⟩
theorem bG.in1{k:Nat}(r:bG (k+1) A):bG k A.in1:=
 ⟨r.hd,by have:=r.dp;show A.depth+3*k+5<_;omega,by have:=r.un;show A.units+1+16*k+200<_;omega⟩
theorem ze:(A.under (.builtin "type.__call__" ⟨.ref C::us,kw⟩)).depth=A.depth+1:=by
 first|rfl|simp[Around.under,Code.weight,Code.isCreation,Code.isGuard,Code.isCaller,Code.frames,Code.isFrame,guardIds]
theorem zf:(A.under (.builtin "type.__call__" ⟨.ref C::us,kw⟩)).units=A.units+1:=by
 first|rfl|simp[Around.under,Code.cUnits,Code.frames,Code.isFrame]
theorem bG.make{k:Nat}(r:bG (k+1) A)(C:Addr)(us:List Value)(kw:List (Str×Value)):bG k (A.under (.builtin "type.__call__" ⟨.ref C::us,kw⟩)):=
 ⟨r.hd,by have:=r.dp;rw[ze];omega,by have:=r.un;rw[zf];omega⟩
theorem bG.depth{k:Nat}(r:bG k A):A.depth<recursionLimit:=by have:=r.dp;omega
theorem bG.units{k:Nat}(r:bG k A):A.units+64<cLine:=by have:=r.un;omega
def uP:TA:=λ_ H Q=>Q [] H
def jR(ta:TE)(tr:TA):TA:=λσ H Q=>ta σ H λx H1=>tr σ H1 λxs H2=>Q (x::xs) H2
section
variable{e:Expr}{t:TA}
theorem bx:PA X [] uP:=λ_ _ _ _ H Q I h=>Calls.spliced_nil ⟨[],H,I,.nil,h⟩
theorem aN(ha:PE X e te)(hr:PA X es t)(hs:gd e es X.env:=by rfl):PA X (e::es) (jR te t):=by
 intro pos pins s σ H Q I h
 rw[hs]
 show wpAny _ _ (spliced ((false,eval e X.env)::backTo pos (starEach es X.env))) _ _ s
 refine Calls.spliced_cons (cx (ha pins s σ H _ I h) λu s1 b9=>?_)
 obtain⟨x,H1,I1,r1,q1⟩:=b9
 exact cx (hr pos pins s1 σ H1 _ I1 q1) λ_ _ ⟨xs,H2,I2,r2,q2⟩=>⟨x::xs,H2,I2,.cons r1 r2,q2⟩
def S6(t:TA):TE:=λσ H Q=>t σ H λxs H1=>xs.length<=sizeLine/\∀p,H1 p=none->Q (.ref p) (upd H1 p (.tup xs))
def S7(t:TA):TE:=λσ H Q=>t σ H λxs H1=>xs.length<=sizeLine/\∀p,H1 p=none->Q (.ref p) (upd H1 p (.lst xs))
theorem M5{x1}(h:PA X es t):PE X (.Tuple es x1 pos) (S6 t):=by
 intro pins s σ H Q I hq
 refine wpAny_Tuple_spliced (cx (h pos pins s σ H _ I hq) λus s1 ⟨xs,H1,I1,r,z,q⟩=>⟨by rw[<-r.length];exact z,?_⟩)
 have hf:H1 ↥s1=none:=I1.cD.fresh (ZK _)
 refine⟨.ref ↥s1,upd H1 ↥s1 (.tup xs),I1.laid (t':=s1.toks) (λb u e=>ZE _ e) (ZK _) ?_,rfl,q _ hf⟩
 exact⟨⟨z,OT.new⟩,us,r,⟨_,ZR _ rfl,rfl,_,rfl⟩⟩
theorem zg(h:PA X es t):PE X (.List es pos) (S7 t):=by
 intro pins s σ H Q I hq
 refine wpAny_List_spliced (cx (h pos pins s σ H _ I hq) λus s1 ⟨xs,H1,I1,r,z,q⟩=>⟨by rw[<-r.length];exact z,?_⟩)
 have hf:H1 ↥s1=none:=I1.cD.fresh (ZK _)
 refine⟨.ref ↥s1,upd H1 ↥s1 (.lst xs),I1.laid (t':=s1.toks) (λb u e=>ZE _ e) (ZK _) ?_,rfl,q _ hf⟩
 exact⟨z,us,0,r,ZR _ rfl⟩
end
abbrev Sp:=List V->Hp->VK->XK->Prop
abbrev Ly:=List Env->Hp->Shared->XK->Value->Shared->Prop
structure zh(P:Program)(w:World)(K:aX)(mg:Str->Option Value)(base:Heap)(A:Around)(outer:List Env)(s:Shared)(H:Hp):Prop where
 frames:A.frames=⇑outer
 mod:Mod K mg base
 bs:∀b o,base.get? b=⇑o->s.heap.get? b=⇑o/\H b=none
 bsz:base.objs.size<=↥s
 funs:s.heap.FunFrames base outer
 frf:∀b∈gB outer,H b=none
 cD:lR P w H s.heap
 bare:AllBare s.gens
def CE(outer:List Env)(P:Program)(w:World)(H:Hp)(s:Shared)(Q:VK)(u:Value)(s':Shared):Prop:=
 ∃v H',s'.os=s.os/\AllBare s'.gens/\Un (gB outer) [] H H' s.heap s'.heap/\lR P w H' s'.heap/\RelV v u/\Q v H'
def CR(CX:Ly)(outer:List Env)(P:Program)(w:World)(H:Hp)(s:Shared)(Q:VK)(E:XK)(r:Result)(s':Shared):Prop:=
 match r with
 |.ok (.ret u)=>CE outer P w H s Q u s'
 |.ok _=>False
 |.error e=>CX outer H s E e s'
structure dS(P:Program)(w:World)(K:aX)(mg:Str->Option Value)(base:Heap)(CX:Ly)(k:Nat)(f:Addr)(fd:FuncData)(ps:List Str)(sp:Sp):Prop where
 len:∀vs H Q E,sp vs H Q E->vs.length=ps.length
 run:∀(A:Around) (outer:List Env) (s:Shared) (H:Hp) (args:Args) (us:List Value) (vs:List V) (Q:VK) (E:XK),bG k A->zh P w K mg base A outer s H->BindsTo s fd args (ps.zip us)->Vals vs us->sp vs H Q E->
  codeAny (model P w) A (.call (.ref f) args) (CR CX outer P w H s Q E) s
variable{base:Heap}{CX:Ly}{fd:FuncData}{ps:List Str}{sp:Sp}
theorem dS.mono{w:World}{K:aX}{mg:Str->Option Value}{j k:Nat}{f:Addr}(F:dS P w K mg base CX j f fd ps sp)(h:j<=k):
 dS P w K mg base CX k f fd ps sp:=⟨F.len,λA outer s H args us vs Q E hr=>F.run A outer s H args us vs Q E (hr.mono h)⟩
variable{outer:List Env}
theorem zh.make{w:World}{K:aX}{mg:Str->Option Value}(e:zh P w K mg base A outer s H)(C:Addr)(us:List Value)(kw:List (Str×Value)):
 zh P w K mg base (A.under (.builtin "type.__call__" ⟨.ref C::us,kw⟩)) outer s H:=⟨by first|exact e.frames|(simpa[Around.under,Code.envs,Code.isFrame,pushEnvs]using e.frames),e.mod,e.bs,e.bsz,e.funs,e.frf,e.cD,e.bare⟩
section
theorem Inv.M6(I:Inv X pins σ H s):zh X.prog X.w X.K X.mg X.base X.A X.stack s H:=
 ⟨I.ok.frames,I.ok.mod,I.bs,Zd I.ok.bsz I.sz,I.stack,I.mz,I.cD,I.bare⟩
theorem Inv.after{Q:VK}(I:Inv X pins σ H s)(h:CE X.stack X.prog X.w H s Q u s'):EP X pins σ Q u s':=by
 obtain⟨v,H',os,bare,un,cD,r,q⟩:=h
 obtain⟨hh,g,d,t,Wd⟩:=s'
 obtain rfl:Wd=s.os:=os
 exact⟨v,H',I.call (h':=hh) (g':=g) (d':=d) (t':=t) (ch:=[]) un cD bare (λb z=>absurd z (by simp)),r,q⟩
end
def AZ(sp:Sp)(dvs:List V)(E:XK)(t:TA):TE:=λσ H Q=>t σ H λvs H1=>sp (vs++dvs) H1 Q E
def Lz(C:Addr)(m:Str)(sp:Sp)(dvs:List V)(E:XK)(ta:TE)(t:TA):TE:=λσ H Q=>ta σ H λx H1=>∃a dx fs,x=.ref a/\H1 a=⇑(.ins C dx fs)/\fs.lookup m=none/\
 t σ H1 λvs H2=>sp (x::(vs++dvs)) H2 Q E
def LA(C:Addr)(sp:Sp)(dvs:List V)(E:XK)(t:TA):TE:=λσ H Q=>t σ H λvs H1=>∀x dx,H1 x=none->H1 dx=none->dx≠x->
 sp (.ref x::(vs++dvs)) (upd (upd H1 dx (.own x)) x (.ins C dx [])) (λv H2=>v=.non/\Q (.ref x) H2) E
def Binds(K:aX)(fd:FuncData)(ps:List Str)(ds:List Value):Prop:=
 ∀(s:Shared) (us:List Value),K.In s.heap->(us++ds).length=ps.length->BindsTo s fd ⟨us,[]⟩ (ps.zip (us++ds))
theorem Binds.all{K:aX}(h:∀us:List Value,us.length=ps.length->bindArgs fd ⟨us,[]⟩=pure (ps.zip us)):Binds K fd ps []:=λs us _ hl=>by
 rw[Zh]at hl⊢
 exact .of_eq (h us hl)
def Passes(CX:Ly)(X:Cx)(E:XK):Prop:=∀(pins:List (Addr×Obj)) (σ:St) (H:Hp) (s:Shared) (e:Value) (s':Shared),Inv X pins σ H s->CX X.stack H s E e s'->X.xe e s'
variable{vs:List V}
section
variable{k:Nat}{f:Addr}{dvs:List V}{ds:List Value}{E:XK}{p apos:Pos}{e o:Expr}{t:TA}
theorem oh{Q:VK}(F:dS X.prog X.w X.K X.mg X.base CX k f fd ps sp)(hr:bG k X.A)(hb:Binds X.K fd ps ds)(hd:Vals dvs ds)(hx:Passes CX X E)
  (I:Inv X pins σ H s)(r:Vals vs us)(h:sp (vs++dvs) H Q E):gw X (call (.ref f) us) (EP X pins σ Q) X.xe s:=by
 have r2:Vals (vs++dvs) (us++ds):=r.append hd
 have hl:(us++ds).length=ps.length:=by rw[<-r2.length];exact F.len _ _ _ _ h
 refine wpAny_call (codeAny_mono (F.run X.A X.stack s H ⟨us,[]⟩ (us++ds) (vs++dvs) Q E hr I.M6 (hb s us I.lE hl) r2 h) λr s' hq=>?_)
 cases r with
 |error e=>exact hx pins σ H s e s' I hq
 |ok fl=>
  cases fl with
  |ret u=>exact I.after hq
  |next=>exact False.elim hq
  |brk=>exact False.elim hq
  |cont=>exact False.elim hq
theorem mF(F:dS X.prog X.w X.K X.mg X.base CX k f fd ps sp)(hr:bG k X.A)(hg:Gl X x)(hm:X.mg x=⇑(.ref f))(hk:PySem.W.keepIn X.K (.ref f)=true)(hb:Binds X.K fd ps ds)(hd:Vals dvs ds)(hx:Passes CX X E)
  (ha:PA X (e::es) t)(lW:gz x:=by decide)(he:gd e es X.env:=by rfl)(hpl:kP pos es X.env:=by rfl):
  PE X (.Call (.Name x p) (e::es) [] pos) (AZ sp dvs E t):=by
 intro pins s σ H Q I h
 refine wpAny_Call_Name_kw (kQ I hg hm ?_ lW)
 refine YK (h₀:=X.base) I.ok.mod.kin hk (cx (ha pos pins s σ H _ I h) λ_ _ ⟨_,_,I1,r,q⟩=>⟨I1.lE,?_⟩) he hpl
 exact oh F hr hb hd hx I1 r q
theorem uQ{pl:Sem Bool}(he:PE X o ta)(c:pC X.K C)(hm:Meth X.K C m f)(F:dS X.prog X.w X.K X.mg X.base CX k f fd ps sp)(hr:bG k X.A)(hb:Binds X.K fd ps ds)(hd:Vals dvs ds)(hx:Passes CX X E)(ha:PA X (e::es) t)
  (ib:gd e es X.env:=by rfl)(hpl:kP pos es X.env:=by rfl)
  (ht:eval (.Call (.Attribute o m apos) (e::es) [] pos) X.env=(do
    let ov<-eval o X.env
    standAt apos.atName
    let(f,first)<-holding [ov] (getMethod ov m pl)
    callWith pos f first (backTo pos (starEach (e::es) X.env)) (backToKw pos (keywordEach [] X.env))):=by rfl):
  PE X (.Call (.Attribute o m apos) (e::es) [] pos) (Lz C m sp dvs E ta t):=by
 intro pins s σ H Q I h
 refine YQ (pl:=pl) (cx (he pins s σ H _ I h) λu s1 b9=>?_) ht
 obtain⟨x,H1,I1,rx,a,_,_,ex,ea,l,q⟩:=b9
 subst ex
 obtain rfl:u=Value.ref a:=rx
 refine jy I1 ea c hm l ?_
 refine YK (first:=[.ref a]) (h₀:=X.base) I.ok.mod.kin hm.kp (cx (ha pos pins s1 σ H1 _ I1 q) λus _ ⟨vs,_,I2,r,q2⟩=>⟨I2.lE,?_⟩) ib hpl
 exact oh (us:=.ref a::us) (vs:=.ref a::vs) F hr hb hd hx I2 (.cons rfl r) q2
theorem mG{pl:Sem Bool}(he:PE X o ta)(c:pC X.K C)(hm:Meth X.K C m f)(F:dS X.prog X.w X.K X.mg X.base CX k f fd ps sp)(hr:bG k X.A)(hb:Binds X.K fd ps ds)(hd:Vals dvs ds)(hx:Passes CX X E)
  (ht:eval (.Call (.Attribute o m apos) [] [] pos) X.env=(do
    let ov<-eval o X.env
    standAt apos.atName
    let(f,first)<-holding [ov] (getMethod ov m pl)
    callWith pos f first (backTo pos (starEach [] X.env)) (backToKw pos (keywordEach [] X.env))):=by rfl):
  PE X (.Call (.Attribute o m apos) [] [] pos) (Lz C m sp dvs E ta uP):=by
 intro pins s σ H Q I h
 refine YQ (pl:=pl) (cx (he pins s σ H _ I h) λu _ b9=>?_) ht
 obtain⟨x,_,I1,rx,a,_,_,ex,ea,l,q⟩:=b9
 subst ex
 obtain rfl:u=Value.ref a:=rx
 refine jy I1 ea c hm l ?_
 exact PySem.W.callWith_K0 (first:=[.ref a]) I1.lE hm.kp (oh (us:=[.ref a]) (vs:=[.ref a]) F hr hb hd hx I1 (.cons rfl .nil) q)
structure Mk(K:aX)(C f:Addr):Prop where
 makes:PySem.W.makesIn K C=true
 init:PySem.W.findIn K (.ref C) "__init__" =⇑(some (.ref f))
 fn:PySem.W.isFn K (.ref f)=true
 kp:PySem.W.keepIn K (.ref C)=true
theorem E9{Q:VK}(M:Mk X.K C f)(F:dS X.prog X.w X.K X.mg X.base CX k f fd ps sp)(hr:bG (k+1) X.A)(hb:Binds X.K fd ps ds)(hd:Vals dvs ds)
  (hx:Passes CX X E)(I:Inv X pins σ H s)(r:Vals vs us)
  (h:∀x dx,H x=none->H dx=none->dx≠x->sp (.ref x::(vs++dvs)) (upd (upd H dx (.own x)) x (.ins C dx [])) (λv H2=>v=.non/\Q (.ref x) H2) E):
  gw X (call (.ref C) us) (EP X pins σ Q) X.xe s:=by
 have hq:=h (↥s+1) ↥s (I.cD.fresh (Nat.le_succ _)) (I.cD.fresh (ZK _)) (Ze (Yo _))
 have I2:=Inv.made (C:=C) I
 have r2:Vals (V.ref (↥s+1)::(vs++dvs)) (Value.ref (↥s+1)::(us++ds)):=.cons rfl (r.append hd)
 have hl:(Value.ref (↥s+1)::us++ds).length=ps.length:=by
  have e:=r2.length
  rw[F.len _ _ _ _ hq]at e
  exact e.symm
 refine wpAny_call (E7 (f:=f) I.lE M.makes M.init (KB.mp M.fn) (codeAny_mono (F.run _ X.stack _ _ ⟨Value.ref (↥s+1)::us,[]⟩ (Value.ref (↥s+1)::(us++ds)) _ _ E (hr.make C us [])
  (I2.M6.make C us []) (hb _ (Value.ref (↥s+1)::us) I2.lE hl) r2 hq) λr s' P2=>?_))
 cases r with
 |error e=>exact hx pins σ _ _ e s' I2 P2
 |ok fl=>
  cases fl with
  |ret u=>
   obtain⟨v,H',I3,rv,ev,q3⟩:=I2.after P2
   subst ev
   exact⟨rv,⟨V.ref (↥s+1),H',I3,rfl,q3⟩⟩
  |next=>exact False.elim P2
  |brk=>exact False.elim P2
  |cont=>exact False.elim P2
theorem kT(M:Mk X.K C f)(F:dS X.prog X.w X.K X.mg X.base CX k f fd ps sp)(hr:bG (k+1) X.A)(hg:Gl X x)(hm:X.mg x=⇑(.ref C))(hb:Binds X.K fd ps ds)(hd:Vals dvs ds)(hx:Passes CX X E)
  (ha:PA X (e::es) t)(lW:gz x:=by decide)(he:gd e es X.env:=by rfl)(hpl:kP pos es X.env:=by rfl):
  PE X (.Call (.Name x p) (e::es) [] pos) (LA C sp dvs E t):=by
 intro pins s σ H Q I h
 refine wpAny_Call_Name_kw (kQ I hg hm ?_ lW)
 refine YK (h₀:=X.base) I.ok.mod.kin M.kp (cx (ha pos pins s σ H _ I h) λ_ _ ⟨_,_,I1,r,q⟩=>⟨I1.lE,?_⟩) he hpl
 exact E9 M F hr hb hd hx I1 r q
end
def PK(X:Cx)(P4:List Keyword)(t:TA):Prop:=
 ∀(pos:Pos) (pins:List (Addr×Obj)) (s:Shared) (σ:St) (H:Hp) (Q:List V->Hp->Prop),Inv X pins σ H s->t σ H Q->gw X (evalAll ((backToKw pos (keywordEach P4 X.env)).map (·.2))) (AP X pins σ Q) X.xe s
section
variable{k:Nat}{f:Addr}{ks:List Str}{E:XK}{p apos kpos:Pos}{e o:Expr}{P4:List Keyword}{t tk:TA}{nm:Option Str}
theorem M7:PK X [] uP:=λ_ _ _ _ H Q I h=>wpAny_evalAll_nil ⟨[],H,I,.nil,h⟩
theorem Jm(ha:PE X e te)(hr:PK X P4 t):PK X (⟨nm,e,kpos⟩::P4) (jR te t):=by
 intro pos pins s σ H Q I h
 show wpAny _ _ (evalAll ((do let v<-eval e X.env;standAt pos;pure v)::(backToKw pos (keywordEach P4 X.env)).map (·.2))) _ _ s
 refine wpAny_evalAll_cons (UV (cx (ha pins s σ H _ I h) λu s1 ⟨x,H1,I1,r1,q1⟩=>UV (wpAny_standAt (SB ?_))))
 exact cx (hr pos pins s1 σ H1 _ I1 q1) λ_ _ ⟨xs,H2,I2,r2,q2⟩=>⟨x::xs,H2,I2,.cons r1 r2,q2⟩
variable{g:List Value->List Value->List Value}{gV:List V->List V->List V}
end
structure az(N P:List Str)(sc:Scope):Prop where
 kind:sc.kind=.function
 co:sc.isCoroutine=false
 gen:sc.isGenerator=false
 nd:N.Nodup
 pre:N.take P.length=P
 par:∀x∈P,sc.names.lookup x=some .local\/sc.names.lookup x=some .cell
 nofree:∀y∈sc.names,y.2≠.free
variable{kindOf:Str->Option NameKind}
theorem tK:∀{binds:List (Str×Value)} {m:Str->Option Value},(∀v,(x,v)∉binds)->bindL kindOf binds m x=m x
 |[],_,_=>rfl
 |(n,v)::r,m,h=>by
  unfold bindL
  rw[tK λw hw=>h w (ZI _ hw)]
  split
  ·have:x≠n:=by rintro rfl;exact h v ZM
   simp[this]
  ·rfl
theorem tL:∀{binds:List (Str×Value)} {m:Str->Option Value},(∀v,(x,v)∉binds)->bindC kindOf binds m x=m x
 |[],_,_=>rfl
 |(n,v)::r,m,h=>by
  unfold bindC
  rw[tL λw hw=>h w (ZI _ hw)]
  split
  ·rfl
  ·have:x≠n:=by rintro rfl;exact h v ZM
   simp[this]
theorem tM{v:Value}:∀{P:List Str} {vs:List Value} {i:Nat} {m:Str->Option Value},P.Nodup->P[i]?=⇑x->vs[i]?=⇑v->kindOf x=some .local->
  bindL kindOf (P.zip vs) m x=⇑v
 |[],_,_,_,_,h,_,_=>by simp at h
 |_::_,[],_,_,_,_,h,_=>by simp at h
 |p::P,w::vs,0,m,nd,h1,h2,hk=>by
  simp at h1 h2;subst h1;subst h2
  show bindL kindOf ((p,w)::P.zip vs) m p=_
  unfold bindL
  rw[tK λv hv=>(Y4.mp nd).1 (z0D hv).1,W1 hk]
  simp
 |p::P,w::vs,i+1,m,nd,h1,h2,hk=>by
  show bindL kindOf ((p,w)::P.zip vs) m x=_
  unfold bindL
  exact tM (i:=i) (Y4.mp nd).2 (by simpa using h1) (by simpa using h2) hk
theorem tN{v:Value}:∀{P:List Str} {vs:List Value} {i:Nat} {m:Str->Option Value},P.Nodup->P[i]?=⇑x->vs[i]?=⇑v->kindOf x≠some .local->
  bindC kindOf (P.zip vs) m x=⇑v
 |[],_,_,_,_,h,_,_=>by simp at h
 |_::_,[],_,_,_,_,h,_=>by simp at h
 |p::P,w::vs,0,m,nd,h1,h2,hk=>by
  simp at h1 h2;subst h1;subst h2
  show bindC kindOf ((p,w)::P.zip vs) m p=_
  unfold bindC
  rw[tL λv hv=>(Y4.mp nd).1 (z0D hv).1,UF hk]
  simp
 |p::P,w::vs,i+1,m,nd,h1,h2,hk=>by
  show bindC kindOf ((p,w)::P.zip vs) m x=_
  unfold bindC
  exact tN (i:=i) (Y4.mp nd).2 (by simpa using h1) (by simpa using h2) hk
def start(N:List Str)(vs:List V):St:=vs.map some++List.replicate (N.length-vs.length) none
def fT(CX:Ly)(P:Program)(w:World)(K:aX)(mg:Str->Option Value)(base:Heap)(N:List Str)(qual:Str)(scope:Scope)(f:Addr)(cd:Value)(A:Around)(outer:List Env)(s:Shared)(H:Hp)(E:XK):Cx where
 prog:=P
 w:=w
 K:=K
 mg:=mg
 base:=base
 A:=A.deeper (envOfC qual scope ↥s f cd)
 N:=N
 s₀:=s
 H₀:=H
 env:=envOfC qual scope ↥s f cd
 outer:=outer
 stack:=envOfC qual scope ↥s f cd::outer
 ex:=[]
 calm:=true
 fn:=λ_=>true
 pn:=[]
 xe:=λe s'=>wpAny (model P w) (A.deeper (envOfC qual scope ↥s f cd)) (leaving (envOfC qual scope ↥s f cd) e) (λ_ Jo=>CX outer H s E e Jo) (λe' Jo=>CX outer H s E e' Jo) s'
theorem wH{sc:Scope}(h:sc.names.lookup x=some .cell):∃c,(cellsFrom n sc.names []).lookup x=⇑c:=by
 have q:=z0H sc.names n [] (.inl h)
 exact YE.mp q
variable{qual:Str}{scope:Scope}
theorem CT{w:World}{K:aX}{mg:Str->Option Value}{f:Addr}{cd:Value}{s1:Shared}{E:XK}
  (S:az N ps scope)(hd:A.handled=none)(e0:zh P w K mg base A outer s H)(hl:vs.length=ps.length)(r:Vals vs us)
  (x:InCallC s ↥s (bindL (envOfC qual scope ↥s f cd).kindOf (ps.zip us) λ_=>none) (cellsFrom (↥s+1) scope.names []) (bindC (envOfC qual scope ↥s f cd).kindOf (ps.zip us) λ_=>none) s1):
  Inv (fT CX P w K mg base N qual scope f cd A outer s H E) [] (start N vs) H s1:=by
 have hpl:ps.length<=N.length:=by have:=congrArg List.length S.pre;rw[Z4]at this;omega
 obtain⟨h1,_,rfl,hk⟩:=x.done
 have P5:∀b:Addr,b∉(fT CX P w K mg base N qual scope f cd A outer s H E).ex:=λb z=>absurd (show b∈([]:List Addr)from z) (by simp)
 refine⟨⟨e0.mod,S.kind,rfl,rfl,ZK _,λy z c h1 h2=>?_,λy hy=>?_,λy c _ h=>?_,λ_=>hd,Around.frames_deeper e0.frames,.inr ⟨rfl,rfl⟩,λb z=>absurd z (P5 b),e0.bs,e0.bsz,λb _ _=>P5 b,λb z=>absurd z (P5 b),e0.funs,e0.frf⟩,
  rfl,e0.bare,Un.kept hk,⟨_,x.toInCall.ns,λi y v h1 h2 _=>?_⟩,λy c h=>⟨_,x.cell y c h⟩,e0.cD.fresh (ZK _),λy c h=>?_,λp hp=>absurd (show p∈([]:List (Addr×Obj))from hp) (by simp),e0.cD.kept hk,?_⟩
 ·exact name_of_addr x.apart (Zt h1) (Zt h2)
 ·have hy:scope.names.lookup y=some .cell\/scope.names.lookup y=some .free:=hy
  rcases hy with hy|hy
  ·exact wH hy
  ·exact absurd rfl (S.nofree _ (Zt hy))
 ·exact Tp (x.above y c (Zt h))
 ·have hi:i<vs.length:=by
    unfold start at h2
    by_cases hi:i<vs.length
    ·exact hi
    ·rw[Wg (by simpa using hi)]at h2
     rw[Z0]at h2
     split at h2<;>cases h2
  have ha:vs[i]?=⇑v:=by
   unfold start at h2
   rw[Zw (by simpa using hi),Za]at h2
   cases e:vs[i]? with
   |none=>rw[e]at h2;cases h2
   |some a=>rw[e]at h2;cases h2;rfl
  obtain⟨u,hu,rv⟩:=r.get ha
  have hp:ps[i]?=⇑y:=by
   rw[<-S.pre,List.getElem?_take_of_lt ⋯];exact h1
  have UX:ps.Nodup:=by rw[<-S.pre];exact S.nd.sublist (List.take_sublist _ _)
  refine⟨u,rv,?_⟩
  rcases S.par y (Zv hp)with k|k
  ·exact .inl ⟨k,tM UX hp hu k⟩
  ·obtain⟨c,e⟩:=wH (n:=↥s+1) k
   refine .inr ⟨.inl k,c,e,?_⟩
   have q:=x.cell y c e
   rw[tN UX hp hu (by show scope.names.lookup y≠_;rw[k];decide)]at q
   exact q
 ·exact e0.cD.fresh (Tp (x.above y c (Zt h)))
 ·unfold start
  show _=N.length
  rw[ZT,ZD,YB]
  omega
theorem Fb{w:World}{K:aX}{mg:Str->Option Value}{k:Nat}{f:Addr}{params:Arguments}{dV kV doc pm cK ct oc:Value}{an od:Option Addr}
  {S8:Array (Option Value)}(lk:K.lookup f=⇑⟨oc,od,.func (PySem.W.fnOf name qual params body scope dV kV doc pm an cK ct),S8⟩)(jQ:PySem.W.codeIn K cK qual=true)(S:az N ps scope)
  (len:∀vs H Q E,sp vs H Q E->vs.length=ps.length)
  (Fc:∀(A:Around) (outer:List Env) (s:Shared) (H:Hp) (vs:List V) (Q:VK) (E:XK),bG k (A.deeper (envOfC qual scope ↥s f cK))->sp vs H Q E->
    ∃t,sL (fT CX P w K mg base N qual scope f cK A outer s H E) body t/\t {nx:=λ_ H'=>Q .non H',rt:=Q} (start N vs) H):
  dS P w K mg base CX (k+1) f (PySem.W.fnOf name qual params body scope dV kV doc pm an cK ct) ps sp:=by
 refine⟨len,λA outer s H _ us vs Q E hr e0 hb r LB=>?_⟩
 have hl:=len _ _ _ _ LB
 have KX:K.In s.heap:=e0.mod.kin.keeps λb o e=>(e0.bs b o e).1
 have lim:s.heap.NoLimit:=e0.mod.nolimit.keeps λb o e=>(e0.bs b o e).1
 have P6:∀y∈ps.zip us,scope.names.lookup y.1=some .local\/(scope.names.lookup y.1=some .cell/\((cellsFrom (↥s+1) scope.names []).lookup y.1).isSome=true):=λ⟨n,v⟩ hy=>by
  rcases S.par n (z0D hy).1 with q|q
  ·exact .inl q
  ·exact .inr ⟨q,z0H _ _ _ (.inl q)⟩
 refine codeAny_call_function hr.depth (KX _ _ lk) rfl S.co S.gen rfl (PySem.W.codeRec_of KX jQ) (hb _ _ _ _ ?_)
 refine wpAny_newFunctionEnv_cells S.kind P6 λ_ he s1 x=>?_
 subst he
 refine⟨lim.keeps x.toInCall.keep,codeAny_func ?_⟩
 obtain⟨t,ht,hq⟩:=Fc A outer s H vs Q E (hr.deeper _) LB
 have I:Inv (fT CX P w K mg base N qual scope f cK A outer s H E) [] (start N vs) H s1:=CT S hr.hd e0 hl r x
 refine Pi (ht [] s1 (start N vs) H _ I hq) (λfl s' hs=>?_) λe s' hs=>hs
 have fin:∀{σ':St} {H':Hp} {v:V} {u:Value},Inv (fT CX P w K mg base N qual scope f cK A outer s H E) [] σ' H' s'->RelV v u->Q v H'->CE outer P w H s Q u s':=
  λ{σ' H' v u} J rv q=>⟨v,H',J.os,J.bare,J.base,J.cD,rv,q⟩
 cases fl with
 |ret u=>
  obtain⟨v,σ',H',J,rv,q⟩:=hs
  exact fin J rv q
 |next=>
  obtain⟨σ',H',J,q⟩:=hs
  exact fin (v:=V.non) (u:=Value.none) J rfl q
 |brk=>
  obtain⟨_,_,_,q⟩:=hs
  exact False.elim q
 |cont=>
  obtain⟨_,_,_,q⟩:=hs
  exact False.elim q
section
variable{p:Pos}{e:Expr}{t:TA}{id T:String}{r:List V->Hp->VK->Prop}
def RO(r:List V->Hp->VK->Prop)(t:TA):TE:=λσ H Q=>t σ H λvs H1=>r vs H1 Q
theorem ie(hc:fM X (.builtin id) r)(hg:Gl X x)(hm:X.mg x=none)(hv:bootBuiltins x=⇑(.builtin id))(ha:PA X (e::es) t)(hn:x≠ "__name__" :=by decide)(lW:gz x:=by decide)
  (he:gd e es X.env:=by rfl)(hpl:kP pos es X.env:=by rfl):PE X (.Call (.Name x p) (e::es) [] pos) (RO r t):=by
 intro pins s σ H Q I h
 refine wpAny_Call_Name_kw (lV I hg hm hv ?_ hn lW)
 exact PyProof.Rows.callWith_builtin1 (cx (ha pos pins s σ H _ I h) λus s1 ⟨vs,H1,I1,r1,q1⟩=>hc pins s1 σ H1 vs us Q I1 r1 q1) he hpl
theorem g0(hc:fM X (.type T) r)(hg:Gl X x)(hm:X.mg x=none)(hv:bootBuiltins x=⇑(.type T))(ha:PA X (e::es) t)(hn:x≠ "__name__" :=by decide)(lW:gz x:=by decide)
  (he:gd e es X.env:=by rfl)(hpl:kP pos es X.env:=by rfl):PE X (.Call (.Name x p) (e::es) [] pos) (RO r t):=by
 intro pins s σ H Q I h
 refine wpAny_Call_Name_kw (lV I hg hm hv ?_ hn lW)
 exact PyProof.Rows.callWith_type1 (cx (ha pos pins s σ H _ I h) λus s1 ⟨vs,H1,I1,r1,q1⟩=>hc pins s1 σ H1 vs us Q I1 r1 q1) he hpl
end
end L2
namespace HT
open PySem PyProof.Rows
def lexLt:List Int->List Int->Bool
 |[],[]=>false
 |[],_::_=>true
 |_::_,[]=>false
 |x::xs,y::ys=>if x=y then lexLt xs ys else decide (x<y)
theorem lX(x y:Int)(xs ys:List Int):lexLt (x::xs) (y::ys)=if x=y then lexLt xs ys else decide (x<y):=rfl
theorem sM:lexLt [] []=false:=rfl
theorem qi(y:Int)(ys:List Int):lexLt [] (y::ys)=true:=rfl
theorem qj(x:Int)(xs:List Int):lexLt (x::xs) []=false:=rfl
theorem Fd(A:Around)(s:Shared)(a:Int)(t:Tok)(c:Int)(u:Tok):∃e,SeqAt.EqAt A s (.int a t) (.int c u) e/\(e=true↔a=c):=
 ⟨(a==c),SeqAt.EqAt.int_int a t c u,by simp⟩
theorem Fe(A:Around)(s:Shared)(a:Int)(t:Tok)(c:Int)(u:Tok)(prog:Program)(w:World)(E:Value->Shared->Prop)(Q:Value->Shared->Prop)(h:Q (.bool (decide (a<c))) s):
  wpAny (model prog w) A (richCompare .Lt (.int a t) (.int c u)) Q E s:=
 (PyProof.Rows.lt_int h:wpAny (model prog w) A (compareOp .Lt (.int a t) (.int c u)) Q E s)
section
variable{prog:Program}{w:World}{A:Around}{E:Value->Shared->Prop}{s:Shared}
def yU(n d:Nat):Option Int->Nat
 |none=>d
 |some v=>if v<0 then(v+(n:Int)).toNat else min v.toNat n
end
end HT
namespace L2
open PySem PySem.Spec PyProof.Rows
abbrev TO:=St->Hp->(Option Int->Hp->Prop)->Prop
def PO(X:Cx)(e:Option Expr)(t:TO):Prop:=
 ∀(pins:List (Addr×Obj)) (s:Shared) (σ:St) (H:Hp) (Q:Option Int->Hp->Prop),Inv X pins σ H s->t σ H Q->
  gw X (evalPart e X.env) (λu s'=>∃o H',Inv X pins σ H' s'/\IsPart u o/\Q o H') X.xe s
def Jp:TO:=λ_ H Q=>Q none H
def P7(t:TE):TO:=λσ H Q=>t σ H λx H1=>∃i,x=.int i/\Q ⇑i H1
theorem intsAre_of{ns:List Int}:∀{us:List Value},Vals (ns.map V.int) us->IntsAre us ns:=by
 induction ns with
 |nil=>intro us r;rw[Yt]at r;cases r;exact .nil
 |cons n ns ih=>
  intro us r
  rw[ZV]at r
  cases r with
  |cons r1 r2=>
   obtain⟨t,e⟩:=r1
   subst e
   exact .cons n t (ih r2)
variable{X:Cx}{pos:Pos}
section
variable{e:Expr}{te:TE}{lo hi:Option Expr}{tl th:TO}{p2:Pos}
theorem Jq:PO X none Jp:=by
 intro _ s _ H Q I h
 rw[evalPart_none]
 exact SB ⟨none,H,I,.none,h⟩
theorem Jr(h:PE X e te):PO X ⇑e (P7 te):=by
 intro pins s σ H Q I hw
 rw[evalPart_some]
 refine cx (h pins s σ H _ I hw) λu _ b9=>?_
 obtain⟨x,H1,I1,r1,q1⟩:=b9
 obtain⟨i,rfl,q⟩:=q1
 obtain⟨t,rfl⟩:=r1
 exact⟨⇑i,H1,I1,.int i t,q⟩
def M8(X:Cx)(r:V->Option Int->Option Int->Hp->VK->Prop):Prop:=
 ∀(pins:List (Addr×Obj)) (s:Shared) (σ:St) (H:Hp) (x:V) (v vl vu:Value) (lo hi:Option Int) (sl:Addr) (Q:VK),Inv X pins σ H s->RelV x v->s.heap.IsSliceOf sl vl vu .none->IsPart vl lo->IsPart vu hi->r x lo hi H Q->
  ∃T id,typeLookup (.type T) "__getitem__" =pure ⇑(.builtin id)/\s.TypeIs v T/\gw X (getItem v (.ref sl)) (EP X pins σ Q) X.xe s
theorem M8.or{r r':V->Option Int->Option Int->Hp->VK->Prop}(h:M8 X r)(h':M8 X r'):M8 X (λx lo hi H Q=>r x lo hi H Q\/r' x lo hi H Q):=by
 intro pins s σ H x v vl vu lo hi sl Q I rx hs pl pu q
 rcases q with q|q
 ·exact h pins s σ H x v vl vu lo hi sl Q I rx hs pl pu q
 ·exact h' pins s σ H x v vl vu lo hi sl Q I rx hs pl pu q
def We(r:V->Option Int->Option Int->Hp->VK->Prop)(te:TE)(tl th:TO):TE:=λσ H Q=>te σ H λx H1=>tl σ H1 λl H2=>th σ H2 λu H3=>r x l u H3 Q
theorem wI{r:V->Option Int->Option Int->Hp->VK->Prop}(hr:M8 X r)(he:PE X e te)(hl:PO X lo tl)(hu:PO X hi th):PE X (.Subscript e (.Slice lo hi none p2) pos) (We r te tl th):=by
 intro pins s σ H Q I h
 refine Subscript_ (cx (he pins s σ H _ I h) λv s1 b9=>?_)
 obtain⟨x,H1,I1,r1,q1⟩:=b9
 refine wpAny_Slice (cx (hl pins s1 σ H1 _ I1 q1) λvl s2 ⟨l,H2,I2,pl,q2⟩=>cx (hu pins s2 σ H2 _ I2 q2) λvu s3 b9=>?_)
 obtain⟨u,H3,I3,pu,q3⟩:=b9
 rw[evalPart_none]
 refine SB ?_
 have I4:Inv X pins σ H3 {s3 with heap:=s3.heap.push {cls:=.type "slice",data:=.fields #[vl,vu,.none]}}:=I3.kept (t':=s3.toks) λb _ q=>ZE _ q
 obtain⟨T,_,hT,ht,hg⟩:=hr pins {s3 with heap:=s3.heap.push {cls:=.type "slice",data:=.fields #[vl,vu,.none]}} σ H3 x v vl vu l u ↥s3 Q I4 r1 (Heap.IsSliceOf.new ..) pl pu q3
 show gw X (subscriptTail e (.Slice lo hi none p2) v (.ref ↥s3)) (EP X pins σ Q) X.xe {s3 with heap:=s3.heap.push {cls:=.type "slice",data:=.fields #[vl,vu,.none]}}
 exact tail_any (ops:=[.ref ↥s3,v]) ht hT hg (by with_unfolding_all rfl)
def CU(xs:List V)(lo hi:Option Int):List V:=(xs.drop (HT.yU xs.length 0 lo)).take (HT.yU xs.length xs.length hi-HT.yU xs.length 0 lo)
theorem wJ(xs:List V)(lo hi:Option Int):(CU xs lo hi).length<=xs.length:=by
 unfold CU
 rw[Z4,Z5]
 omega
end
def P8(n:Nat)(i:Int):Option Nat:=if 0<=i then(if i<n then ⇑i.toNat else none)else if-(n:Int)<=i then some (i+n).toNat else none
variable{α:Type}
def M9(xs:List α)(i:Int):Option α:=(P8 xs.length i).bind λj=>xs[j]?
variable{n:Nat}{i:Int}
theorem A0{j:Nat}(h:P8 n i=⇑j):seqIndex? i n=⇑j/\j<n/\-(n:Int)<=i/\i<n:=by
 unfold P8 at h
 by_cases h0:0<=i
 ·rw[W1 h0]at h
  by_cases h1:i<n
  ·rw[W1 h1]at h
   have e:i.toNat=j:=ZX h
   exact⟨by rw[seqIndex_of h0 h1,e],⋯,⋯,h1⟩
  ·rw[UF h1]at h;cases h
 ·rw[UF h0]at h
  by_cases h1:-(n:Int)<=i
  ·rw[W1 h1]at h
   have e:(i+n).toNat=j:=ZX h
   exact⟨by rw[seqIndex_neg ⋯ h1,e],⋯,h1,⋯⟩
  ·rw[UF h1]at h;cases h
theorem uR{xs:List α}{v:α}(h:M9 xs i=⇑v):∃j,seqIndex? i xs.length=⇑j/\xs[j]?=⇑v/\j<xs.length/\-(xs.length:Int)<=i/\i<xs.length:=by
 unfold M9 at h
 cases e:P8 xs.length i with
 |none=>rw[e]at h;cases h
 |some j=>
  rw[e]at h
  obtain⟨h1,h2,h3,h4⟩:=A0 e
  exact⟨j,h1,h,h2,h3,h4⟩
def A2(b:Expr):Prop:=∀o i,subscripted b false o i=operate [o,i] (getItem o i)
def Js(X:Cx)(r:R2):Prop:=
 ∀(value slice:Expr) (pins:List (Addr×Obj)) (s:Shared) (σ:St) (H:Hp) (x y:V) (v u:Value) (Q:VK),Inv X pins σ H s->RelV x v->RelV y u->r x y H Q->
  subscripted slice false v u=operate [v,u] (getItem v u)->gw X (subscriptTail value slice v u) (EP X pins σ Q) X.xe s
def O0(X:Cx)(id:String)(r:V->List V->Hp->VK->Prop):Prop:=
 ∀(pins:List (Addr×Obj)) (s:Shared) (σ:St) (H:Hp) (x:V) (xs:List V) (v:Value) (us:List Value) (Q:VK),Inv X pins σ H s->RelV x v->Vals xs us->r x xs H Q->
  gw X (call (.builtin id) (v::us)) (EP X pins σ Q) X.xe s
variable{pins:List (Addr×Obj)}{σ:St}{H:Hp}{s:Shared}{p:Addr}{xs:List V}{its:List Value}{A:Around}{x:V}{u v:Value}{T:String}
section
variable{a b:Expr}{ta tb:TE}
theorem Js.or{r r':R2}(h:Js X r)(h':Js X r'):Js X (λx y H Q=>r x y H Q\/r' x y H Q):=by
 intro value slice pins s σ H x y v u Q I rx ry q hs
 rcases q with q|q
 ·exact h value slice pins s σ H x y v u Q I rx ry q hs
 ·exact h' value slice pins s σ H x y v u Q I rx ry q hs
theorem P9{r:R2}(hr:Js X r)(ha:PE X a ta)(hb:PE X b tb)(hs:A2 b):PE X (.Subscript a b pos) (PJ r ta tb):=by
 intro pins s σ H Q I h
 exact Subscript_ (MR ha hb I h λv u s2 x y H2 I2 rx ry q=>hr a b pins s2 σ H2 x y v u Q I2 rx ry q (hs _ _))
def Qa(K:aX):R2:=λx y H Q=>∃p xs i v,x=.ref p/\y=.int i/\jv K H p xs/\M9 xs i=⇑v/\Q v H
def Qb(K:aX):R2:=λx y H Q=>∃p xs i v,x=.ref p/\y=.int i/\jZ K H p xs/\M9 xs i=⇑v/\Q v H
def Qc:R2:=λx y H Q=>∃z i c,x=.str z/\y=.int i/\z.length<=sizeLine/\M9 z.cps.toList i=⇑c/\Q (.str ⟨#[c]⟩) H
theorem Jt:Js X (Qa X.K):=by
 intro _ _ pins s σ H x y v u Q I rx ry h hs
 obtain⟨p,_,i,z,rfl,rfl,hq,he,q⟩:=h
 cases rx
 obtain⟨t,rfl⟩:=ry
 obtain⟨its,r,pl,_⟩:=I.list hq
 obtain⟨j,h1,h2,_,h4,h5⟩:=uR he
 obtain⟨w,ew,S9⟩:=r.get h2
 have hl:=r.length
 have hn:=nZ
 have fin:EP X pins σ Q w s:=⟨z,H,I,S9,q⟩
 by_cases h0:0<=i
 ·have hj:i.toNat=j:=by
    rw[seqIndex_of h0 h5]at h1
    exact ZX h1
  exact item_listR pl.isList h0 ⋯ (by rw[hj];simpa using ew) fin hs
 ·have hj:(i+(its.toArray.size:Int)).toNat=j:=by
    rw[seqIndex_neg ⋯ h4]at h1
    rw[ZH,<-hl]
    exact ZX h1
  exact subscriptTail_builtinR (x:=w) pl.isList.typeIs slot_list_getitem.lookup
   (wpAny_getItem_list_neg (Q:=λr s'=>r=w/\EP X pins σ Q r s') pl.isList ⋯ (by rw[ZH]<;>omega) ⋯ (by rw[hj];simpa using ew) ⟨rfl,fin⟩) hs
theorem Na:Js X (Qb X.K):=by
 intro _ _ pins s σ H x y v u Q I rx ry h hs
 obtain⟨p,_,i,z,rfl,rfl,hq,he,q⟩:=h
 cases rx
 obtain⟨t,rfl⟩:=ry
 obtain⟨_,r,pl,_⟩:=I.tuple hq
 obtain⟨j,h1,h2,_,_,_⟩:=uR he
 obtain⟨w,ew,S9⟩:=r.get h2
 have hl:=r.length
 have hn:=nZ
 have fin:EP X pins σ Q w s:=⟨z,H,I,S9,q⟩
 exact subscriptTail_builtinR (x:=w) pl.typeIs slot_tuple_getitem.lookup
  (getItem_tuple (j:=j) (Q:=λr s'=>r=w/\EP X pins σ Q r s') pl ⋯ ⋯ (by rw[ZH,<-hl];exact h1) (by simpa using ew) ⟨rfl,fin⟩) hs
theorem Nb:Js X Qc:=by
 intro _ _ _ s _ H x y v u Q I rx ry h hs
 obtain⟨z,i,c,rfl,rfl,_,he,q⟩:=h
 obtain⟨t,rfl⟩:=rx
 obtain⟨_,rfl⟩:=ry
 obtain⟨j,h1,h2,_,h4,h5⟩:=uR he
 have hl:z.cps.toList.length=z.length:=by simp[Str.length]
 rw[hl]at h1 h4 h5
 have hn:=nZ
 exact tail_any (typeIs_str s z t) slot_str_getitem.lookup (getItem_str (c:=c) (by
  have e1:decide (i< -(2^63:Int))=false:=Wp ⋯
  have e2:decide (i≥2^63)=false:=Wp ⋯
  rw[e1,e2,Bool.or_false]) (by rw[h1];simpa using h2) ⟨.str ⟨#[c]⟩,H,I.tok _,⟨_,rfl⟩,q⟩) hs
def Wf(K:aX):R2:=λx y H Q=>Qa K x y H Q\/Qb K x y H Q\/Qc x y H Q
theorem Nc:Js X (Wf X.K):=Jt.or (Na.or Nb)
theorem zi(its:List Value)(n j:Nat)(u:Value):Obj.mapSeq (·.setIfInBounds j u) {cls:=.type "list",data:=.seq its.toArray n}={cls:=.type "list",data:=.seq (its.set j u).toArray n}:=by
 simp[Obj.mapSeq]
theorem Inv.lst(I:Inv X pins σ H s)(h:H p=⇑(.lst xs)):
  ∃(its:List Value) (n:Nat),Vals xs its/\s.heap.get? p=some {cls:=.type "list",data:=.seq its.toArray n}/\xs.length<=sizeLine:=by
 obtain⟨z,its,n,r,e⟩:=I.cD p _ h
 exact⟨its,n,r,e,z⟩
theorem Inv.Nd{ys:List V}{its':List Value}{n':Nat}{f:Obj->Obj}(I:Inv X pins σ H s)(h:H p=⇑(.lst xs))
  (ho:s.heap.get? p=some {cls:=.type "list",data:=.seq its.toArray n})(hf:f {cls:=.type "list",data:=.seq its.toArray n}={cls:=.type "list",data:=.seq its'.toArray n'})(r:Vals ys its')(hz:ys.length<=sizeLine)(t:Nat):
  Inv X pins σ (upd H p (.lst ys)) {s with heap:=s.heap.update p f,toks:=t}:=by
 have e:(s.heap.update p f).get? p=some {cls:=.type "list",data:=.seq its'.toArray n'}:=by
  rw[Yl f ho (by rw[hf]<;>rfl),hf]
 refine I.write (x:=p) (e:=p) (by rw[h];trivial) (.inl rfl) (λb u hb q=>(YI _ _ (Ne.symm hb)).trans q) ⟨_,e⟩ ?_
 exact⟨hz,its',n',r,e⟩
def Qd:V->V->V->Hp->(Hp->Prop)->Prop:=λo i v H Q=>∃p xs k j,o=.ref p/\i=.int k/\H p=⇑(.lst xs)/\P8 xs.length k=⇑j/\Q (upd H p (.lst (xs.set j v)))
theorem set_list:Pz X Qd:=by
 intro pins s σ H o i v _ _ u Q I ro ri rv h
 obtain⟨p,xs,k,j,rfl,rfl,hp,hj,q⟩:=h
 cases ro
 obtain⟨t,rfl⟩:=ri
 obtain⟨its,n,r,ho,hz⟩:=I.lst hp
 obtain⟨h1,_,h3,h4⟩:=A0 hj
 have hl:=r.length
 have hn:=nZ
 have I':Inv X pins σ (upd H p (.lst (xs.set j v))) {s with heap:=s.heap.update p (Obj.mapSeq (·.setIfInBounds j u))}:=
  I.Nd hp ho (zi its n j u) (r.set rv j) (by rw[Zo];exact hz) s.toks
 by_cases h0:0<=k
 ·have hk:k.toNat=j:=by
    rw[seqIndex_of h0 h4]at h1
    exact ZX h1
  exact PySem.W.ki_setAt ho h0 ⋯ (by rw[ZH,<-hl];exact h4) (by rw[hk];exact⟨_,I',q⟩)
 ·have hk:(k+(its.toArray.size:Int)).toNat=j:=by
    rw[seqIndex_neg ⋯ h3]at h1
    rw[ZH,<-hl]
    exact ZX h1
  exact PySem.W.ki_setBack ho ⋯ (by rw[ZH,<-hl];exact h3) ⋯ (by rw[hk];exact⟨_,I',q⟩)
theorem uS(lo hi:Option Int)(n:Nat):(sliceBounds lo hi none n).1=((HT.yU n 0 lo:Nat):Int)/\(sliceBounds lo hi none n).2.1=((HT.yU n n hi:Nat):Int)/\(sliceBounds lo hi none n).2.2=1:=by
 refine⟨?_,?_,rfl⟩
 ·cases lo with
  |none=>simp[sliceBounds,HT.yU]
  |some i=>
   simp only[sliceBounds,HT.yU,Option.getD_none,show(1:Int)>0 by decide,if_true]
   by_cases h:i<0
   ·simp only[h,if_true]<;>omega
   ·simp only[h,if_false]<;>omega
 ·cases hi with
  |none=>simp[sliceBounds,HT.yU]
  |some i=>
   simp only[sliceBounds,HT.yU,Option.getD_none,show(1:Int)>0 by decide,if_true]
   by_cases h:i<0
   ·simp only[h,if_true]<;>omega
   ·simp only[h,if_false]<;>omega
theorem sN(its:List Value)(lo hi:Option Int):slicePick its.toArray lo hi none=((its.drop (HT.yU its.length 0 lo)).take (HT.yU its.length its.length hi-HT.yU its.length 0 lo)).toArray:=by
 obtain⟨h1,h2,h3⟩:=uS lo hi its.toArray.size
 unfold slicePick
 rw[h1,h2,h3]
 simp only[sliceRange_one,pick_run,ZH]<;>rfl
def Ta(K:aX):V->Option Int->Option Int->Hp->VK->Prop:=λx lo hi H Q=>∃a xs,x=.ref a/\jv K H a xs/\∀p,H p=none->Q (.ref p) (upd H p (.lst (CU xs lo hi)))
theorem A3:M8 X (Ta X.K):=by
 intro _ s _ H x v _ _ lo hi _ Q I rx hs pl pu h
 obtain⟨a,xs,rfl,hx,q⟩:=h
 cases rx
 obtain⟨_,r,ht,hz⟩:=I.list hx
 have hlen:=r.length
 refine⟨"list",_,slot_list_getitem.lookup,ht.isList.typeIs,?_⟩
 refine wpAny_getItem_list_slice ht.isList hs pl pu .none (by simp) ?_ (by rw[ZH]<;>omega)
 rw[sN,<-hlen]
 refine⟨.ref ↥s,_,I.laid (t':=s.toks) (o:=.lst (CU xs lo hi)) (λb _ q=>ZE _ q) (ZK _) ?_,rfl,q _ (I.cD.fresh (ZK _))⟩
 exact⟨Zd (wJ xs lo hi) hz,_,0,(r.drop (HT.yU xs.length 0 lo)).take (HT.yU xs.length xs.length hi-HT.yU xs.length 0 lo),ZR _ rfl⟩
def ig:V->Bool
 |.non=>true
 |.bl _=>true
 |.int _=>true
 |.str _=>true
 |_=>false
def EI:V->V->Bool
 |.non,.non=>true
 |.bl a,.bl b=>a==b
 |.bl a,.int b=>(if a then 1 else 0)==b
 |.int a,.bl b=>a==(if b then 1 else 0)
 |.int a,.int b=>a==b
 |.str a,.str b=>a==b
 |_,_=>false
theorem Ff{y:V}(ry:RelV y u)(rx:RelV x v)(fy:ig y=true)(fx:ig x=true):SeqAt.EqAt A s u v (EI y x):=by
 cases y with
 |non=>
  cases ry
  cases x with
  |non=>cases rx;exact SeqAt.EqAt.same _
  |bl b=>cases rx;exact SeqAt.EqAt.none_bool b
  |int b=>obtain⟨t,rfl⟩:=rx;exact SeqAt.EqAt.none_int b t
  |str b=>obtain⟨t,rfl⟩:=rx;exact SeqAt.EqAt.none_str b t
  |_=>exact absurd (show false=true from fx) ZY
 |bl a=>
  cases ry
  cases x with
  |non=>cases rx;exact SeqAt.EqAt.bool_none a
  |bl b=>cases rx;exact SeqAt.EqAt.bool_bool a b
  |int b=>obtain⟨t,rfl⟩:=rx;exact SeqAt.EqAt.bool_int a b t
  |str b=>obtain⟨t,rfl⟩:=rx;exact SeqAt.EqAt.bool_str a b t
  |_=>exact absurd (show false=true from fx) ZY
 |int a=>
  obtain⟨t',rfl⟩:=ry
  cases x with
  |non=>cases rx;exact SeqAt.EqAt.int_none a t'
  |bl b=>cases rx;exact SeqAt.EqAt.int_bool a t' b
  |int b=>obtain⟨t,rfl⟩:=rx;exact SeqAt.EqAt.int_int a t' b t
  |str b=>obtain⟨t,rfl⟩:=rx;exact SeqAt.EqAt.int_str a t' b t
  |_=>exact absurd (show false=true from fx) ZY
 |str a=>
  obtain⟨t',rfl⟩:=ry
  cases x with
  |non=>cases rx;exact SeqAt.EqAt.str_none a t'
  |bl b=>cases rx;exact SeqAt.EqAt.str_bool a t' b
  |int b=>obtain⟨t,rfl⟩:=rx;exact SeqAt.EqAt.str_int a t' b t
  |str b=>obtain⟨t,rfl⟩:=rx;exact SeqAt.EqAt.str_str a t' b t
  |_=>exact absurd (show false=true from fx) ZY
 |_=>exact absurd (show false=true from fy) ZY
def zj(x:V)(u:Value):Bool:=match u with
 |.none=>EI .non x
 |.bool b=>EI (.bl b) x
 |.int i _=>EI (.int i) x
 |.str z _=>EI (.str z) x
 |_=>false
theorem Fg{y:V}(r:RelV y u)(f:ig y=true):zj x u=EI y x:=by
 cases y with
 |non=>cases r;rfl
 |bl b=>cases r;rfl
 |int i=>obtain⟨t,rfl⟩:=r;rfl
 |str z=>obtain⟨t,rfl⟩:=r;rfl
 |_=>exact absurd (show false=true from f) ZY
theorem mH:∀{xs:List V} {us:List Value},Vals xs us->xs.all ig=true->us.any (zj x)=xs.any λy=>EI y x
 |_,_,.nil,_=>rfl
 |y::xs,u::us,.cons r t,f=>by
  rw[YH,ZS]at f
  rw[YU,YU,Fg r f.1,mH t f.2]
theorem j4(rx:RelV x v)(fx:ig x=true):∀{xs:List V} {us:List Value},Vals xs us->xs.all ig=true->∀u∈us,SeqAt.EqAt A s u v (zj x u)
 |_,_,.nil,_=>λu hu=>by cases hu
 |y::xs,u::us,.cons r t,f=>λu' hu=>by
  rw[YH,ZS]at f
  rcases Zc.mp hu with rfl|hu
  ·rw[Fg r f.1];exact Ff r rx f.1 fx
  ·exact j4 rx fx t f.2 u' hu
def RP(x:V)(xs:List V):Bool:=xs.any λy=>EI y x
def RS(K:aX)(neg:Bool):R2:=λx y H Q=>∃p xs,y=.ref p/\(jv K H p xs\/jZ K H p xs)/\ig x=true/\xs.all ig=true/\Q (.bl (if neg then !RP x xs else RP x xs)) H
theorem CV:iM X (compareOp .In) (RS X.K false):=by
 intro _ s _ H x y v u Q I rx ry h
 obtain⟨p,_,rfl,hq,fx,fs,q⟩:=h
 cases ry
 rcases hq with hq|hq
 ·obtain⟨its,r,pl,_⟩:=I.list hq
  refine SeqAt.in_listAt (zj x) pl.isList (λw hw=>j4 rx fx r fs w (by simpa using hw)) ⟨.bl _,H,I,rfl,?_⟩
  rw[show its.toArray.any (zj x)=its.any (zj x) by simp,mH r fs]
  exact q
 ·obtain⟨its,r,pl,_⟩:=I.tuple hq
  refine SeqAt.in_tupleAt (zj x) pl (λw hw=>j4 rx fx r fs w (by simpa using hw)) ⟨.bl _,H,I,rfl,?_⟩
  rw[show its.toArray.any (zj x)=its.any (zj x) by simp,mH r fs]
  exact q
theorem uT:iM X (compareOp .NotIn) (RS X.K true):=by
 intro _ s _ H x y v u Q I rx ry h
 obtain⟨p,_,rfl,hq,fx,fs,q⟩:=h
 cases ry
 rcases hq with hq|hq
 ·obtain⟨its,r,pl,_⟩:=I.list hq
  refine SeqAt.notIn_listAt (zj x) pl.isList (λw hw=>j4 rx fx r fs w (by simpa using hw)) ⟨.bl _,H,I,rfl,?_⟩
  rw[show its.toArray.any (zj x)=its.any (zj x) by simp,mH r fs]
  exact q
 ·obtain⟨its,r,pl,_⟩:=I.tuple hq
  refine SeqAt.notIn_tupleAt (zj x) pl (λw hw=>j4 rx fx r fs w (by simpa using hw)) ⟨.bl _,H,I,rfl,?_⟩
  rw[show its.toArray.any (zj x)=its.any (zj x) by simp,mH r fs]
  exact q
theorem mI:fM X (.builtin "len") (λxs H Q=>∃p ys,xs=[.ref p]/\(jv X.K H p ys\/jZ X.K H p ys)/\Q (.int ys.length) H):=by
 intro _ s _ H xs _ Q I r h
 obtain⟨p,ys,rfl,hq,q⟩:=h
 obtain⟨u,rfl,rx⟩:=vals1 r
 cases rx
 have hn:=nZ
 rcases hq with hq|hq
 ·obtain⟨_,r',pl,_⟩:=I.list hq
  have hlen:=r'.length
  exact Calls.call_len_list pl.isList (by simp only[ZH]<;>omega) ⟨.int ys.length,H,I.tok _,⟨s.toks+1,by rw[ZH,hlen]⟩,q⟩
 ·obtain⟨_,r',pl,_⟩:=I.tuple hq
  have hlen:=r'.length
  exact len_tuple pl (by simp only[ZH]<;>omega) ⟨.int ys.length,H,I.tok _,⟨s.toks+1,by rw[ZH,hlen]⟩,q⟩
theorem uU:fM X (.builtin "len") (λxs H Q=>∃z,xs=[.str z]/\z.length<=sizeLine/\Q (.int z.length) H):=by
 intro _ s _ H xs _ Q I r h
 obtain⟨z,rfl,_,q⟩:=h
 obtain⟨u,rfl,t,rfl⟩:=vals1 r
 have hn:=nZ
 exact len_str ⋯ ⟨.int z.length,H,I.tok _,⟨_,rfl⟩,q⟩
theorem fM.or{f:Value}{r r':List V->Hp->VK->Prop}(h:fM X f r)(h':fM X f r'):fM X f (λxs H Q=>r xs H Q\/r' xs H Q):=by
 intro pins s σ H xs us Q I rs q
 rcases q with q|q
 ·exact h pins s σ H xs us Q I rs q
 ·exact h' pins s σ H xs us Q I rs q
theorem uV:fM X (.type "list") (λxs H Q=>∃p ys,xs=[.ref p]/\(jv X.K H p ys\/jZ X.K H p ys)/\∀l,H l=none->Q (.ref l) (upd H l (.lst ys))):=by
 intro pins s σ H xs _ Q I r h
 obtain⟨p,ys,rfl,hq,q⟩:=h
 obtain⟨u,rfl,rx⟩:=vals1 r
 cases rx
 have fin:∀(its:List Value),Vals ys its->ys.length<=sizeLine->∀(h':Heap) (c':Nat),(∀b o',s.heap.get? b=⇑o'->h'.get? b=⇑o')->
   h'.get? ↥s=some {cls:=.type "list",dict:=none,data:=.seq its.toArray c',slots:=#[]}->EP X pins σ Q (.ref ↥s) {s with heap:=h'}:=λits r' hz h' c' kp e=>
  ⟨.ref ↥s,_,I.laid (t':=s.toks) kp (ZK _) (show cZ X.prog X.w _ h' _ (.lst ys)from⟨hz,its,c',r',e⟩),rfl,q _ (I.cD.fresh (ZK _))⟩
 rcases hq with hq|hq
 ·obtain⟨its,r',pl,hz⟩:=I.list hq
  have hlen:=r'.length
  obtain⟨o,ho,hc,n,hd⟩:=pl.isList
  exact call_list_seq p (.inl rfl) ho hc hd (λh' c' kp e=>fin its r' hz h' c' kp e) (by simp only[ZH]<;>omega)
 ·obtain⟨its,r',pl,hz⟩:=I.tuple hq
  have hlen:=r'.length
  obtain⟨o,ho,hc,n,hd⟩:=pl
  exact call_list_seq p (.inr rfl) ho hc hd (λh' c' kp e=>fin its r' hz h' c' kp e) (by simp only[ZH]<;>omega)
theorem lF:fM X (.type "tuple") (λxs H Q=>∃p ys,xs=[.ref p]/\((jv X.K H p ys/\∀l,H l=none->Q (.ref l) (upd H l (.tup ys)))\/(jZ X.K H p ys/\Q (.ref p) H))):=by
 intro pins s σ H xs _ Q I r h
 obtain⟨p,ys,rfl,h⟩:=h
 obtain⟨u,rfl,rx⟩:=vals1 r
 cases rx
 rcases h with⟨hq,q⟩|⟨hq,q⟩
 ·obtain⟨its,r',pl,hz⟩:=I.list hq
  have hlen:=r'.length
  refine call_tuple_list pl.isList (λh' kp=>?_) (by simp only[ZH]<;>omega)
  have I1:Inv X pins σ H {s with heap:=h'}:=I.kept (t':=s.toks) kp
  have I2:Inv X pins σ (upd H h'.objs.size (.tup ys)) {s with heap:=h'.push {cls:=.type "tuple",data:=.seq its.toArray}}:=
   I1.laid (t':=s.toks) (λb o e=>ZE _ e) (ZK _) (show cZ X.prog X.w _ _ _ (.tup ys)from⟨⟨hz,OT.new⟩,its,r',IsTup.new _ _⟩)
  exact⟨.ref h'.objs.size,_,I2,rfl,q _ (I1.cD.fresh (ZK _))⟩
 ·obtain⟨its,r',pl,hz⟩:=I.tuple hq
  exact call_tuple_same pl ⟨.ref p,H,I,rfl,q⟩
def Tb(K:aX)(T:String)(x:V)(H:Hp):Prop:=match x with
 |.str _=>T= "str"
 |.int _=>T= "int"
 |.ref p=>(T= "list" /\∃xs,jv K H p xs)\/(T= "tuple" /\∃o,K.lookup p=⇑o/\o.cls=.type "tuple" /\o.dict=none)\/
   (T= "dict" /\((∃kvs,H p=⇑(.dK kvs))\/∃kvs,H p=⇑(.dT kvs)))\/(T= "set" /\∃S n,H p=⇑(.set S n))
 |_=>False
theorem Fh(I:Inv X pins σ H s)(r:RelV x v)(ty:Tb X.K T x H):
  s.TypeIs v T/\∀a,v=.ref a->∃ob,s.heap.get? a=⇑ob/\ob.dict=none:=by
 cases x with
 |str z=>
  obtain⟨t,rfl⟩:=r
  cases(show T= "str" from ty)
  exact⟨typeIs_str s z t,λ_ e=>nomatch e⟩
 |int i=>
  obtain⟨t,rfl⟩:=r
  cases(show T= "int" from ty)
  exact⟨typeIs_int s i t,λ_ e=>nomatch e⟩
 |ref p=>
  cases r
  rcases ty with⟨rfl,xs,hq⟩|⟨rfl,o,hk,hc,hd⟩|⟨rfl,hk⟩|⟨rfl,S,n,hk⟩
  ·obtain⟨_,_,pl,_⟩:=I.list hq
   refine⟨pl.isList.typeIs,λa e=>?_⟩
   cases e
   obtain⟨o,n,e,c,hd,_⟩:=pl
   exact⟨o,e,hd⟩
  ·refine⟨⟨o,I.lE p o hk,hc⟩,λa e=>?_⟩
   cases e
   exact⟨o,I.lE _ o hk,hd⟩
  ·have z:∃o,s.heap.get? p=⇑o/\o.ExactDict:=by
     rcases hk with⟨kvs,hk⟩|⟨kvs,hk⟩
     ·obtain⟨_,_,_,_,o,_,_,e,ex,_⟩:=I.cD p _ hk
      exact⟨o,e,ex⟩
     ·obtain⟨_,_,_,_,o,_,_,e,ex,_⟩:=I.cD p _ hk
      exact⟨o,e,ex⟩
   obtain⟨o,e,ex⟩:=z
   refine⟨⟨o,e,ex.1⟩,λa e2=>?_⟩
   cases e2
   exact⟨o,e,ex.2.1⟩
  ·obtain⟨o,_,_,_,e,ex,_⟩:=I.cD p _ hk
   refine⟨⟨o,e,ex.1⟩,λa e2=>?_⟩
   cases e2
   exact⟨o,e,ex.2.1⟩
 |_=>exact False.elim ty
def Tc(K:aX)(T:String)(r:V->List V->Hp->VK->Prop)(to:TE):TE:=λσ H Q=>to σ H λx H1=>Tb K T x H1/\r x [] H1 Q
def UY(K:aX)(T:String)(r:V->List V->Hp->VK->Prop)(to:TE)(t:TA):TE:=λσ H Q=>to σ H λx H1=>Tb K T x H1/\t σ H1 λxs H2=>r x xs H2 Q
variable{o e:Expr}{es:List Expr}{to:TE}{t:TA}{name:Str}{apos bz:Pos}{id:String}{r:V->List V->Hp->VK->Prop}
theorem Fi(pa:PlainAttrs T)(slot:Slot T name id)(Td:typeOf (.builtin id)=pure (.type "method_descriptor"))(hm:O0 X id r)(ho:PE X o to)
  (dU:attributeBase o name X.env (eval o X.env)=eval o X.env:=by rfl)(dW:(apos.endLine==bz.line)=true:=by rfl):PE X (.Call (.Attribute o name apos) [] [] bz) (Tc X.K T r to):=by
 intro pins s σ H Q I h
 refine wpAny_Call_method0_late dU dW (cx (ho pins s σ H _ I h) λv s1 b9=>?_)
 obtain⟨x,H1,I1,r1,ty,q1⟩:=b9
 obtain⟨h1,h2⟩:=Fh I1 r1 ty
 exact⟨T,id,pa,slot,Td,h1,h2,Calls.callWith_builtin rfl (PySem.evalArgs_none (hm pins s1 σ H1 x [] v [] Q I1 r1 .nil q1))⟩
theorem tO(pa:PlainAttrs T)(slot:Slot T name id)(Td:typeOf (.builtin id)=pure (.type "method_descriptor"))(hm:O0 X id r)(ho:PE X o to)(ha:PA X (e::es) t)
  (dU:attributeBase o name X.env (eval o X.env)=eval o X.env:=by rfl)
  (j5:((backTo bz (starEach (e::es) X.env)).all (λx=>!x.1)&&(backToKw bz (keywordEach [] X.env)).all (λx=>x.1.isSome)
    &&decide ((e::es).length+([]:List Keyword).length+(if([]:List Keyword).isEmpty then 0 else 1)<30))=true:=by rfl)
  (dW:(apos.endLine==bz.line)=true:=by rfl)(hs:gd e es X.env:=by rfl)(Nf:kP bz es X.env:=by rfl):
  PE X (.Call (.Attribute o name apos) (e::es) [] bz) (UY X.K T r to t):=by
 intro pins s σ H Q I h
 refine wpAny_Call_method_late dU j5 dW rfl (cx (ho pins s σ H _ I h) λv s1 b9=>?_)
 obtain⟨x,H1,I1,r1,ty,q1⟩:=b9
 obtain⟨h1,h2⟩:=Fh I1 r1 ty
 refine⟨T,id,pa,slot,Td,h1,h2,?_⟩
 have hA:=ha bz pins s1 σ H1 _ I1 q1
 rw[hs]at hA⊢
 refine Calls.callWith_builtin (by show(false||(backTo bz (starEach es X.env)).any (·.1))=false;rw[Nf]<;>rfl) (Calls.evalArgs_plain ?_)
 exact cx hA λus s2 ⟨vs,H2,I2,r2,q2⟩=>hm pins s2 σ H2 x vs v us Q I2 r1 r2 q2
end
def Te(X:Cx)(id:String)(r:V->List V->Hp->VK->Prop):Prop:=
 ∀(pins:List (Addr×Obj)) (s:Shared) (σ:St) (H:Hp) (x:V) (xs:List V) (v:Value) (us:List Value) (Q:VK),Inv X pins σ H s->RelV x v->Vals xs us->r x xs H Q->
  gw X (call (.builtin id) (v::us)) (EP X pins σ Q) X.xe s
variable{us:List Value}
theorem Vals.one(h:Vals [x] us):∃u,us=[u]/\RelV x u:=by
 cases h with
 |cons r t=>
  cases t
  exact⟨_,rfl,r⟩
theorem Vals.two{y:V}(h:Vals [x,y] us):∃u v,us=[u,v]/\RelV x u/\RelV y v:=by
 cases h with
 |cons r t=>
  cases t with
  |cons q t=>
   cases t
   exact⟨_,_,rfl,r,q⟩
variable{t':Nat}
section
variable{l b:Addr}{ys zs:List V}
theorem Inv.Tf{its':List Value}{f:Array Value->Array Value}(I:Inv X pins σ H s)(hH:H l=⇑(.lst xs))
  (e:s.heap.get? l=some {cls:=.type "list",data:=.seq its.toArray n})(hf:f its.toArray=its'.toArray)(hv:Vals ys its')(hz:ys.length<=sizeLine):
  Inv X pins σ (upd H l (.lst ys)) {s with heap:=s.heap.update l (Obj.mapSeq f),toks:=t'}:=by
 have q:=PySem.IsL.update e f
 rw[hf]at q
 refine I.write (x:=l) (e:=l) (by rw[hH];exact trivial) (.inl rfl) (λ_ u hb hu=>(YI s.heap (Obj.mapSeq f) (Ne.symm hb)).trans hu) ⟨_,q⟩ ?_
 exact⟨hz,its',_,hv,q⟩
theorem Inv.Tg(I:Inv X pins σ H s)(hv:Vals ys its)(hz:ys.length<=sizeLine):
  Inv X pins σ (upd H ↥s (.lst ys)) {s with heap:=s.heap.push {cls:=.type "list",data:=.seq its.toArray},toks:=t'}:=
 I.laid (λ_ _ q=>ZE _ q) (ZK _) ⟨hz,its,0,hv,ZR _ rfl⟩
theorem Inv.fresh(I:Inv X pins σ H s):H ↥s=none:=I.cD.fresh (ZK _)
theorem Inv.Th(I:Inv X pins σ H s)(hH:H l=⇑(.lst xs)):xs.length<=sizeLine/\∃(its:List Value) (n:Nat),Vals xs its/\xs.length=its.length/\s.heap.get? l=some {cls:=.type "list",data:=.seq its.toArray n}:=by
 obtain⟨z,its,n,r,e⟩:=I.cD l _ hH
 exact⟨z,its,n,r,r.length,e⟩
end
section
def Ju:V->List V->Hp->VK->Prop:=λx vs H Q=>∃l xs y,x=.ref l/\vs=[y]/\H l=⇑(.lst xs)/\xs.length<sizeLine/\Q .non (upd H l (.lst (xs++[y])))
theorem oi:Te X "list.append" Ju:=by
 intro _ s _ H x _ v _ Q I rx rv h
 obtain⟨l,_,y,rfl,rfl,hH,_,q⟩:=h
 cases rx
 obtain⟨u,rfl,ru⟩:=rv.one
 obtain⟨z,its,n,r,_,e⟩:=I.Th hH
 refine call_meets F.slot_list_append ⟨_,e,rfl⟩ F.entry_list_append (F.args_list_append_2 _ _) (PySem.list_append l its.toArray n u (by rw[ZH];omega)) ⟨e,?_⟩
 refine⟨.non,_,I.Tf (its':=its++[u]) hH e (by simp) (r.append (.cons ru .nil)) ?_,rfl,q⟩
 rw[ZT,Zq]
 omega
end
end L2
namespace Att
open PySem PySem.W PySem.Calls PyProof.Rows
variable{P:Params}{h:Heap}
theorem pD:∀(ns:List Int) (vs:List Value),WellAll P h vs (ns.map WData.int)->IntsAre vs ns:=by
 intro ns
 induction ns with
 |nil=>
  intro vs w
  rw[Yt]at w
  cases w
  exact .nil
 |cons n ns ih=>
  intro vs w
  rw[ZV]at w
  cases w with
  |cons a b=>
   cases a
   exact .cons _ _ (ih _ b)
variable{n:Nat}
theorem CW{l:OpenLaw}(hn:l.most=⇑n){args:List WData}{vals:List Value}
  (Jv:l.row.toRowW.claim.pre args=true)(Ti:WellAll P h vals args):
  ∃a vs ns,vals=[Value.ref a]/\args=[WData.list (ns.map WData.int)]/\h.get? a=some {cls:=.type "list",data:=.seq vs.toArray}/\IntsAre vs ns/\ns.length<=n:=by
 have RT:WShape.hasAll [] args [.list .int]=true:=(pre_splitW Jv).1
 have hc:l.pre.holds [] {args:=args}=true:=(pre_splitW Jv).2
 obtain⟨d,r,rfl,h1,h2⟩:=hasAllW_cons RT
 obtain rfl:=hasAllW_nil h2
 obtain⟨_,rfl,h3⟩:=hasW_list h1
 obtain⟨ns,rfl⟩:=items_int h3
 have hlen:ns.length<=n:=by
  unfold OpenLaw.pre at hc
  have h4:(WTm.not (.lt (.lit (.int (n:Int))) (.len (.arg 0)))).holds [] {args:=[.list (ns.map .int)]}=true:=by
   have h4:=(holds_andW hc).1
   rw[hn]at h4
   exact h4
  have h5:=condW_of h4 (w_not (w_lt w_lit (w_len_list (w_arg rfl))))
  rw[ZD]at h5
  refine Nat.le_of_not_lt λq=>?_
  have q':(n:Int)<((ns.length:Nat):Int):=by omega
  first
   |(rw[SZ q']at h5;exact absurd h5 ∅)
   |(simp at h5;omega)
 cases Ti with
 |cons w1 w2=>
  cases w2
  cases w1 with
  |list ho uW=>exact⟨_,_,ns,rfl,rfl,ho,pD ns _ uW,hlen⟩
theorem CY(l:OpenLaw)(args:List WData):l.row.toRowW.claim.post args (.bool true) args=true:=
 postW_of (r:=l.row.toRowW) (X:=(true==true))
  (show WShape.has [] (.bool true) .bool=true by first|rfl|decide|simp[WShape.has,WShape.arms,WShape.armsAll])
  (show(WTm.eq .res (.lit (.bool true))).value [] {args:=args,res:=⇑(.bool true),after:=args}=⇑(.bool (true==true))from w_eq_bool (w_res rfl) w_lit) rfl
theorem wK{l:OpenLaw}{q:Program}{loose:List Str}{XP:(Str->Option Value)->Heap->Prop}{YP:World->Heap->Prop}{d:DefRec}
  (hn:l.most=⇑n)(Tj:d.params.defaults=[])
  (call:∀(w:World) (s₀ s₁:Shared) (mg mb:Str->Option Value) (fa:Addr) (o:Obj) (pm cd doc:Value) (a:Addr) (vs:List Value) (ns:List Int),
    Ground q loose [] XP w s₀ mg mb s₁.heap->YP w s₁.heap->
    s₁.heap.get? fa=⇑o->o.data=.func (docDef d.name d.params d.body d.scope pm cd doc)->s₁.heap.CodeRec cd d.name->mg d.name=⇑(.ref fa)->
    s₁.heap.get? a=some {cls:=.type "list",data:=.seq vs.toArray}->IntsAre vs ns->ns.length<=n->s₁.gens=#[]->
    codeAny (model l.prog w) callerA (.call (.ref fa) ⟨[.ref a],[]⟩) (λr s'=>r=.ok (.ret (.bool true))/\OldK s₁.heap s'.heap/\s'.os=s₁.os/\AllBare s'.gens) s₁):
  WalkO q loose XP YP l.row.toRowW d [] (λf vs=>PySem.call f vs):=by
 intro w s₀ s₁ mg mb G Y fa o pm cd doc dV kV ho hd jQ hD Tn hg _ _ _ Jv _ _ Ti _
 obtain rfl:dV=.none:=Dflts.none hD Tj
 obtain rfl:kV=.none:=Dflts.noKw hD
 obtain⟨a,vs,ns,rfl,rfl,Ng,hints,hlen⟩:=CW hn Jv Ti
 refine enter_call (codeAny_mono (call w s₀ s₁ mg mb fa o pm cd doc a vs ns G Y ho (fd_plain hd) jQ Tn Ng hints hlen hg) λr s' hq=>?_)
 obtain⟨rfl,h2,h3,h4⟩:=hq
 exact⟨.inl ⟨.bool true,.bool true,[],rfl,λ_=>rfl,.bool true,CY l _,λ_=>⟨List.Pairwise.nil,λ_ hm=>(nomatch hm)⟩⟩,h2,h3,h4⟩
end Att
namespace L2
open PySem PySem.Spec PyProof.Rows
theorem kU:∀{vs:List Value} {ns:List Int},IntsAre vs ns->Vals (ns.map V.int) vs
 |_,_,.nil=>.nil
 |_,_,.cons n t h=>.cons ⟨t,rfl⟩ (kU h)
def Qf(H:Hp):Prop:=∀b,H b=none\/∃o xs,H b=⇑(.frz o (.lst xs))
def pL(s:Stmt):Arguments:=match s with
 |.FunctionDef _ a _ _ _ _ _ _ _ _=>a
 |_=>{posonlyargs:=[],args:=[],vararg:=none,kwonlyargs:=[],kw_defaults:=[],kwarg:=none,defaults:=[]}
def eh(s:Stmt):List Stmt:=match s with
 |.FunctionDef _ _ b _ _ _ _ _ _ _=>b
 |_=>[]
def aC(s:Stmt):Scope:=match s with
 |.FunctionDef _ _ _ _ _ _ sc _ _ _=>sc
 |_=>{kind:=.function,names:=[],isGenerator:=false,isCoroutine:=false}
abbrev qk:Ly:=λ_ _ _ _ _ _=>False
abbrev oj(X:Cx)(k:Nat)(f:Addr)(fd:FuncData)(ps:List Str)(sp:Sp):Prop:=dS X.prog X.w X.K X.mg X.base qk k f fd ps sp
abbrev E0:XK:=λ_ _ _=>False
variable{X:Cx}
theorem eR:Passes qk X E0:=λ_ _ _ _ _ _ _ h=>h.elim
structure A4(K:aX)(x qual:Str)(st:Stmt)(f:Addr)(fd:FuncData):Prop where
 ex:∃(oc:Value) (od:Option Addr) (kV doc pm:Value) (an:Option Addr) (cK ct:Value) (S8:Array (Option Value)),
  fd=PySem.W.fnOf x qual (pL st) (eh st) (aC st) .none kV doc pm an cK ct/\K.lookup f=⇑⟨oc,od,.func fd,S8⟩/\PySem.W.codeIn K cK qual=true
 kp:PySem.W.keepIn K (.ref f)=true
variable{x:Str}{st:Stmt}{f:Addr}{fd:FuncData}{N ps:List Str}
section
variable{P:Program}{w:World}{K:aX}{mg:Str->Option Value}{base:Heap}
theorem A4.ok{qual:Str}{k:Nat}{sp:Sp}(F:A4 K x qual st f fd)(S:az N ps (aC st))(len:∀vs H Q E,sp vs H Q E->vs.length=ps.length)
  (Fc:∀(cK:Value) (A:Around) (outer:List Env) (s:Shared) (H:Hp) (vs:List V) (Q:VK) (E:XK),bG k (A.deeper (envOfC qual (aC st) ↥s f cK))->sp vs H Q E->
    ∃t,sL (fT qk P w K mg base N qual (aC st) f cK A outer s H E).AR (eh st) t/\t {nx:=λ_ H'=>Q .non H',rt:=Q} (start N vs) H):dS P w K mg base qk (k+1) f fd ps sp:=by
 obtain⟨_,_,_,_,_,_,cK,_,_,rfl,lk,jQ⟩:=F.ex
 refine Fb lk jQ S len λA outer s H vs Q E hr LB=>?_
 obtain⟨t,h,q⟩:=Fc cK A outer s H vs Q E hr LB
 exact⟨t,h.AR,q⟩
theorem A4.binds{qual:Str}(F:A4 K x qual st f fd)
  (h:∀(kV doc pm:Value) (an:Option Addr) (cK ct:Value) (us:List Value),us.length=ps.length->bindArgs (PySem.W.fnOf x qual (pL st) (eh st) (aC st) .none kV doc pm an cK ct) ⟨us,[]⟩=pure (ps.zip us)):Binds K fd ps []:=by
 obtain⟨_,_,kV,doc,pm,an,cK,ct,_,rfl,_,_⟩:=F.ex
 exact .all (h kV doc pm an cK ct)
end
variable{A:Around}
theorem mJ{k:Nat}(hr:bG k A):A.units+1<cLine:=Nat.lt_of_le_of_lt (Nat.add_le_add_left (by decide:1<=64) _) hr.units
variable{pos:Pos}
section
theorem pv(i:Nat)(hN:X.N[i]?=⇑x:=by rfl)(hv:nW X.env.scope x:=by trivial)(hd:gz x:=by decide)
 (jQ:yZ x:=by decide):PE X (.Name x pos) (lU i):=bS hN hv hd jQ
end
def aA(H H':Hp):Prop:=∀b o,H b=⇑o->H' b=⇑o
theorem aA.refl(H:Hp):aA H H:=λ_ _ h=>h
variable{H:Hp}
theorem aA.trans{H1 H2:Hp}(a:aA H H1)(b:aA H1 H2):aA H H2:=λc o h=>b c o (a c o h)
theorem aA.free{H':Hp}(e:aA H H'){l:Addr}(h:H' l=Option.none):H l=Option.none:=by
 cases q:H l with
 |none=>rfl
 |some o=>
  rw[e l o q]at h
  cases h
def uX(sc:Scope)(env:Env):List (Str×Addr):=sc.names.foldl (λcs p=>if p.2=.free then(p.1,(env.cells.lookup p.1).getD 0)::cs else cs) []
theorem uY(env:Env):∀(ns:List (Str×NameKind)) (acc:List (Str×Addr)),(∀p∈ns,p.2=.free->∃c,env.cells.lookup p.1=⇑c)->
  (forIn ns acc (λ(x:Str×NameKind) (r:List (Str×Addr))=>match x with|(name,kind)=>if(kind==.free)=true then(do let c<-cellOf env name;pure (ForInStep.yield ((name,c)::r)))else pure (ForInStep.yield r)):Sem _)=
    pure (ns.foldl (λcs p=>if p.2=.free then(p.1,(env.cells.lookup p.1).getD 0)::cs else cs) acc)
 |[],acc,_=>rfl
 |(n,k)::ns,acc,h=>by
  rw[Yi]
  by_cases hk:k=.free
  ·subst hk
   obtain⟨c,hc⟩:=h (n,.free) (ZM ..) rfl
   have e1:cellOf env n=pure c:=by
    unfold cellOf
    rw[hc]
   dsimp only
   rw[W1 (by rfl),e1,pure_bind,pure_bind,Z2,W1 rfl,hc]
   exact uY env ns _ λp hp=>h p (ZI _ hp)
  ·dsimp only
   rw[UF (by simpa using hk),pure_bind,Z2,UF hk]
   exact uY env ns _ λp hp=>h p (ZI _ hp)
variable{sc:Scope}{env:Env}
theorem A5(h:∀p∈sc.names,p.2=.free->∃c,env.cells.lookup p.1=⇑c):closureFor sc env=pure (uX sc env):=by
 unfold closureFor uX
 have:=uY env sc.names [] h
 exact(congrArg (λm:Sem (List (Str×Addr))=>m>>=λr=>pure r) this).trans rfl
theorem A6(env:Env):∀(ns:List (Str×NameKind)) (acc:List (Str×Addr)) (y:Str) (c:Addr),(ns.foldl (λcs p=>if p.2=.free then(p.1,(env.cells.lookup p.1).getD 0)::cs else cs) acc).lookup y=⇑c->
  acc.lookup y=⇑c\/((y,NameKind.free)∈ns/\c=(env.cells.lookup y).getD 0)
 |[],acc,y,c,h=>.inl h
 |(n,k)::ns,acc,y,c,h=>by
  rw[Z2]at h
  rcases A6 env ns _ y c h with h1|⟨h1,h2⟩
  ·by_cases hk:k=.free
   ·rw[W1 hk,Zb]at h1
    by_cases hy:(y==n)=true
    ·rw[hy]at h1
     have e:y=n:=eq_of_beq hy
     subst e
     exact .inr ⟨by rw[hk];exact ZM ..,(ZX h1).symm⟩
    ·rw[Bool.not_eq_true]at hy
     rw[hy]at h1
     exact .inl h1
   ·rw[UF hk]at h1
    exact .inl h1
  ·exact .inr ⟨ZI _ h1,h2⟩
theorem zk(env:Env):∀(ns:List (Str×NameKind)) (acc:List (Str×Addr)) (y:Str),((y,NameKind.free)∈ns\/∃c,acc.lookup y=⇑c)->∃c,(ns.foldl (λcs p=>if p.2=.free then(p.1,(env.cells.lookup p.1).getD 0)::cs else cs) acc).lookup y=⇑c
 |[],acc,y,h=>by
  rcases h with h|h
  ·cases h
  ·exact h
 |(n,k)::ns,acc,y,h=>by
  rw[Z2]
  refine zk env ns _ y ?_
  rcases h with h|⟨c,h⟩
  ·rcases Zc.mp h with e|h
   ·injection e with e1 e2
    subst e1 e2
    rw[W1 rfl,Zb]
    exact .inr ⟨_,by rw[beq_self_eq_true]⟩
   ·exact .inl h
  ·refine .inr ?_
   split
   ·rw[Zb]
    cases y==n with
    |true=>exact⟨_,rfl⟩
    |false=>exact⟨c,h⟩
   ·exact⟨c,h⟩
structure ij(qm:Scope)(N:List Str)(sc:Scope)(x:Str)(ys:List Str):Prop where
 kind:sc.kind=.function
 xloc:sc.names.lookup x=some .local
 nocell:∀p∈sc.names,p.2≠.cell
 locs:∀p∈sc.names,p.2=.local->sc.names.lookup p.1=some .local
 free:∀p∈sc.names,p.2=.free->qm.names.lookup p.1=some .cell\/qm.names.lookup p.1=some .free
 nd:(x::ys).Nodup
 len:ys.length=N.length
 pl:∀p∈ys.zip N,sc.names.lookup p.1=some .free->p.1=p.2
 nl:∀y∈ys,sc.names.lookup y≠some .local
def jz(qm:Scope)(N:List Str)(sc:Scope)(x:Str)(ys:List Str):Bool:=
 decide (sc.kind=.function)&&decide (sc.names.lookup x=some .local)&&decide (∀p∈sc.names,p.2≠.cell)&&decide (∀p∈sc.names,p.2=.local->sc.names.lookup p.1=some .local)&&
 decide (∀p∈sc.names,p.2=.free->qm.names.lookup p.1=some .cell\/qm.names.lookup p.1=some .free)&&decide ((x::ys).Nodup)&&decide (ys.length=N.length)&&
 decide (∀p∈ys.zip N,sc.names.lookup p.1=some .free->p.1=p.2)&&decide (∀y∈ys,sc.names.lookup y≠some .local)
variable{ys:List Str}
theorem ij.of{qm:Scope}(h:jz qm N sc x ys=true):ij qm N sc x ys:=by
 unfold jz at h
 simp only[ZS,Re]at h
 obtain⟨⟨⟨⟨⟨⟨⟨⟨h1,h2⟩,h3⟩,h4⟩,h5⟩,h6⟩,h7⟩,h8⟩,h9⟩:=h
 exact⟨h1,h2,h3,h4,h5,h6,h7,h8,h9⟩
def Cx.mK(X:Cx)(sc:Scope)(x:Str)(ys:List Str)(ex:List Addr)(C:Addr)(s:Shared)(H:Hp):Cx where
 prog:=X.prog
 w:=X.w
 K:=X.K
 mg:=X.mg
 base:=X.base
 A:=X.A
 N:=x::ys
 s₀:=s
 H₀:=H
 env:=compEnvC sc (uX sc X.env) C X.env
 outer:=X.stack
 stack:=X.stack
 ex:=ex
 fn:=λ_=>false
 calm:=X.calm
 pn:=[]
 xe:=λ_ _=>False
theorem cF:∀{ns:List (Str×NameKind)} {y:Str} {k:NameKind},(ns.map λ(n,k)=>if(k==NameKind.free&&env.scope.kind==.function&&env.kindOf n==some .cell)then(n,NameKind.cell)else(n,k)).lookup y=⇑k->
  ns.lookup y=⇑k\/(ns.lookup y=some .free/\k=.cell)
 |[],y,k,h=>by cases h
 |(n,j)::ns,y,k,h=>by
  rw[ZV]at h
  dsimp only at h
  cases hy:y==n with
  |true=>
   by_cases hc:(j==NameKind.free&&env.scope.kind==.function&&env.kindOf n==some .cell)=true
   ·rw[W1 hc,Zb,hy]at h
    have hj:j=.free:=by
     simp only[ZS]at hc
     exact eq_of_beq hc.1.1
    refine .inr ⟨?_,(ZX h).symm⟩
    rw[Zb,hy,hj]
   ·rw[UF hc,Zb,hy]at h
    refine .inl ?_
    rw[Zb,hy]
    exact h
  |false=>
   have h':(ns.map λ(n,k)=>if(k==NameKind.free&&env.scope.kind==.function&&env.kindOf n==some .cell)then(n,NameKind.cell)else(n,k)).lookup y=⇑k:=by
    by_cases hc:(j==NameKind.free&&env.scope.kind==.function&&env.kindOf n==some .cell)=true
    ·rw[W1 hc,Zb,hy]at h
     exact h
    ·rw[UF hc,Zb,hy]at h
     exact h
   rw[Zb,hy]
   exact cF h'
variable{pins:List (Addr×Obj)}{σ:St}{s:Shared}{y:Str}{fp:List Addr}{C:Addr}
section
theorem ij.cell(cs:ij X.env.scope X.N sc x ys)(I:Inv X pins σ H s)(h:(y,NameKind.free)∈sc.names):∃c,X.env.cells.lookup y=⇑c:=I.ok.has y (cs.free _ h rfl)
theorem ij.cl(cs:ij X.env.scope X.N sc x ys)(I:Inv X pins σ H s){c:Addr}(h:(uX sc X.env).lookup y=⇑c):X.env.cells.lookup y=⇑c/\(y,NameKind.free)∈sc.names:=by
 rcases A6 X.env sc.names [] y c h with h1|⟨h1,h2⟩
 ·cases h1
 ·obtain⟨d,hd⟩:=cs.cell I h1
  rw[hd]at h2
  rw[h2]
  exact⟨hd,h1⟩
theorem Nh(cs:ij X.env.scope X.N sc x ys)(I:Inv X pins σ H s)(hf:∀b∈fp,nX X pins H b)(jX:∀b∈fp,b<↥s)(hC:↥s<=C):(X.mK sc x ys fp C s H).Ok where
 mod:=I.ok.mod
 kind:=cs.kind
 glob:=I.ok.glob
 blt:=I.ok.blt
 above:=hC
 inj:=λy z c h1 h2=>I.ok.inj y z c (cs.cl I h1).1 (cs.cl I h2).1
 has:=λy hy=>by
  have Wj:(relabel sc X.env).names.lookup y=some .cell\/(relabel sc X.env).names.lookup y=some .free:=hy
  have hf:(y,NameKind.free)∈sc.names:=by
   rcases Wj with h|h
   ·rcases cF h with h1|⟨h1,_⟩
    ·exact absurd rfl (cs.nocell _ (Zt h1))
    ·exact Zt h1
   ·rcases cF h with h1|⟨h1,_⟩
    ·exact Zt h1
    ·exact Zt h1
  exact zk X.env sc.names [] y (.inl hf)
 cab:=λy c h=>by cases h
 hd:=I.ok.hd
 frames:=I.ok.frames
 stk:=.inl rfl
 exf:=λb hb=>⟨λe=>by
  have:=jX b hb
  rw[e]at this
  exact absurd (ZZ this hC) (Zn _),λy c h=>(hf b hb).2.2.2.2.1 y c (cs.cl I h).1⟩
 bs:=I.bs
 bsz:=Zd I.ok.bsz I.sz
 noex:=λb o e hb=>by
  rcases(hf b hb).2.2.2.1 with h|h
  ·exact I.ok.noex b o e h
  ·exact absurd (ZZ (ZN e) (Zd I.ok.bsz h)) (Zn _)
 exfs:=λb hb h=>(Zc.mp (I.y6 b h)).elim (hf b hb).2.1 (hf b hb).2.2.1
 funs:=I.stack
 frf:=I.mz
end
def Fj(X:Cx)(ifs:List Expr)(t:TT):Prop:=
 ∀(pins:List (Addr×Obj)) (s:Shared) (σ:St) (H:Hp) (Q:Bool->Hp->Prop),Inv X pins σ H s->t σ H Q->
  gw X (forIn ifs true λc r=>if r=true then do let ok<-isTrue c X.env (eval c X.env);pure (ForInStep.yield ok)else pure (ForInStep.yield r)) (TP X pins σ Q) X.xe s
theorem wL:Fj X [] (λ_ H Q=>Q true H):=λ_ s _ H Q I h=>wpAny_tests_nil ⟨H,I,h⟩
theorem qp{c:Expr}{t:TT}(h:PT X c t):Fj X [c] t:=λpins s σ H Q I q=>wpAny_tests_one (h pins s σ H Q I q)
def Fm(wi:TI)(tt:TT)(te:TE):TE:=λσ H Q=>wi σ H λJ H1=>∃W:Nat->Nat->List V->Hp->Prop,(∃m,W 0 m [] H1)/\∀i m acc H,W i m acc H->
 (J.stop i H/\∀p,H p=none->Q (.ref p) (upd H p (.lst acc)))\/(J.go i H/\acc.length<sizeLine/\∀y H',J.yld i H y H'->tt (⇑y::σ) H' λb H2=>
   if b=true then te (⇑y::σ) H2 λz H3=>∃m',m'<m/\W (i+1) m' (acc++[z]) H3 else∃m',m'<m/\W (i+1) m' acc H2)
variable{px:Pos}{ifs:List Expr}{wi:TI}{tt:TT}{te:TE}
section
variable{elt iter:Expr}
def lobj(its:List Value)(n:Nat):Obj:={cls:=.type "list",data:=.seq its.toArray n}
theorem wM{M:Value->Env->Result->Shared->Prop}{E:Value->Shared->Prop}(hc:X.calm=true)(cs:ij X.env.scope X.N sc x ys)(I:Inv X pins σ H s)
  (ht:∀ex C s H,Fj (X.mK sc x ys ex C s H) ifs tt)(he:∀ex C s H,PE (X.mK sc x ys ex C s H) elt te)
  {it:Addr}{tn:Nat->Heap->Prop}{J:It}(T:Turn X.prog X.w X.K (.Name x px) J fp it tn)(st:tn 0 s.heap)(hf:∀b∈fp,nX X pins H b)
  {W:Nat->Nat->List V->Hp->Prop}{m0:Nat}(w0:W 0 m0 [] H){F:List V->Hp->Prop}
  (turn:∀i m acc H,W i m acc H->(J.stop i H/\F acc H)\/(J.go i H/\acc.length<sizeLine/\∀y H',J.yld i H y H'->tt (⇑y::σ) H' λb H2=>
    if b=true then te (⇑y::σ) H2 λz H3=>∃m',m'<m/\W (i+1) m' (acc++[z]) H3 else∃m',m'<m/\W (i+1) m' acc H2))
  (hM:∀(D C:Addr) (lB:Env) (s':Shared) (acc:List V) (H':Hp) (its:List Value) (n:Nat),lB.locals=C->D≠C->↥s<=D->↥s<=C->Inv (X.mK sc x ys fp C s H) [(D,lobj its n)] (none::σ) H' s'->Vals acc its->acc.length<=sizeLine->F acc H'->
    M (.ref D) lB (.ok .next) s'):
  gw X (newList []) (λacc s₃=>gw X (newFunctionEnv sc X.env.globals (uX sc X.env) [] X.env.qual none .none ⇑X.env) (λlB s₄=>
   codeAny (model X.prog X.w) X.A (.compStart (.ListComp elt [⟨.Name x px,iter,ifs,0⟩] sc pos) 0 (.ref it) acc {lB with scope:=relabel sc X.env}) (M acc lB) s₄) E s₃) E s:=by
 have jX:∀b∈fp,b<↥s:=λb hb=>by
  obtain⟨o,e,_⟩:=T.obj 0 _ st b hb
  exact ZN e
 refine wpAny_newObj_type (wpAny_newFunctionEnv cs.nocell (by intro y hy;simp at hy) (λh1 O2 RV=>?_) cs.kind)
 dsimp only at O2 RV⊢
 generalize O3:s.heap.push {cls:=.type "list",dict:=none,data:=.seq ([]:List Value).toArray}=h2 at O2 RV⊢
 have hC:h2.objs.size=↥s+1:=by rw[<-O3,YV]
 have IK:↥s≠h2.objs.size:=by omega
 have old:∀b o,s.heap.get? b=⇑o->h1.get? b=⇑o:=λb o e=>by
  have hb:=ZN e
  rw[RV.2 b (by rw[hC];exact Ze (Nat.lt_succ_of_lt hb))]
  exact ZE _ (O3▸ZE _ e)
 have hD:h1.get? ↥s=⇑(lobj [] 0):=by
  rw[RV.2 _ IK]
  exact ZE _ (O3▸ZR _ rfl)
 generalize X2:h2.objs.size=C at*
 have Ni:↥s<=C:=by omega
 have Fp:∀b,↥s<=b->H b=none:=λb hb=>I.cD.fresh hb
 have IZ:∀b,↥s<=b->b∉gB X.stack:=λb hb z=>by
  obtain⟨_,o,ho,_⟩:=(I.stack).mem z
  exact absurd (ZZ (ZN ho) hb) (Zn _)
 have I0:Inv (X.mK sc x ys fp C s H) [(↥s,lobj [] 0)] (none::σ) H {s with heap:=h1,toks:=s.toks+([]:List (Str×Value)).length}:=by
  refine⟨Nh cs I hf jX Ni,rfl,I.bare,Un.kept old,⟨_,O2,λi y v e1 e2 e3=>?_⟩,λy c e=>?_,Fp _ Ni,λy c e=>I.freeC y c (cs.cl I e).1,λp hp=>?_,I.cD.kept old,?_⟩
  ·cases i with
   |zero=>cases e2
   |succ i=>
    have Tq:ys[i]?=⇑y:=e1
    have Wk:σ[i]?=⇑(some v):=e2
    have Jw:(relabel sc X.env).names.lookup y=some .local\/(relabel sc X.env).names.lookup y=some .cell\/(relabel sc X.env).names.lookup y=some .free:=e3
    have Jx:sc.names.lookup y=some .free:=by
     rcases Jw with h|h|h
     ·rcases cF h with h1|⟨_,h1⟩
      ·exact absurd h1 (cs.nl y (Zv Tq))
      ·cases h1
     ·rcases cF h with h1|⟨h1,_⟩
      ·exact absurd rfl (cs.nocell _ (Zt h1))
      ·exact h1
     ·rcases cF h with h1|⟨h1,_⟩
      ·exact h1
      ·exact h1
    have hi:i<X.N.length:=by
     rw[<-cs.len]
     exact(ZL.mp Tq).1
    have hN:X.N[i]?=⇑y:=by
     have hz:(ys.zip X.N)[i]?=⇑(y,X.N[i]):=by
      rw[Zx]
      exact⟨Tq,ZG hi⟩
     have:=cs.pl _ (Zv hz) Jx
     dsimp only at this
     rw[this]
     exact ZG hi
    have Nj:(y,NameKind.free)∈sc.names:=Zt Jx
    obtain⟨m,hn,hl⟩:=I.loc
    obtain⟨u,r,lk⟩:=hl i y v hN Wk (.inr (cs.free _ Nj rfl))
    refine⟨u,r,.inr ⟨?_,?_⟩⟩
    ·rcases Jw with h|h
     ·rcases cF h with h1|⟨_,h1⟩
      ·rw[Jx]at h1
       cases h1
      ·cases h1
     ·exact h
    ·rcases lk with⟨k,_⟩|⟨_,c,e,z⟩
     ·rcases cs.free _ Nj rfl with h|h
      ·have k':X.env.scope.names.lookup y=some .local:=k
       rw[h]at k'
       cases k'
      ·have k':X.env.scope.names.lookup y=some .local:=k
       rw[h]at k'
       cases k'
     ·obtain⟨c',Pr⟩:=zk X.env sc.names [] y (.inl Nj)
      have:c'=c:=by
       have:=(cs.cl I (show(uX sc X.env).lookup y=⇑c' from Pr)).1
       rw[e]at this
       exact(ZX this).symm
      subst this
      obtain⟨o,ho,hd⟩:=z
      exact⟨c',Pr,o,old _ _ ho,hd⟩
  ·obtain⟨v,o,ho,hd⟩:=I.cell y c (cs.cl I e).1
   exact⟨v,o,old _ _ ho,hd⟩
  ·obtain rfl:p=(↥s,lobj [] 0):=by simpa using(show p∈([]:List (Addr×Obj))++[(↥s,lobj [] 0)]from hp)
   exact⟨hD,Fp _ (ZK _),IK,IZ _ (ZK _),λv z=>by cases z⟩
  ·show(none::σ).length=(x::ys).length
   rw[ZJ,ZJ,I.len,cs.len]
 have Ts:↥s∉fp:=λz=>Zn _ (jX _ z)
 have Tt:∀{mB:List (Addr×Obj)} {H':Hp} {s':Shared} {σ':St},Inv (X.mK sc x ys fp C s H) mB σ' H' s'->(∀b∈fp,H' b=none)->(∀p∈mB,p.1∉fp)->∀b∈fp,nX (X.mK sc x ys fp C s H) mB H' b:=λ{mB H' s' σ'} I' hn hp b hb=>
  ⟨hn b hb,(I'.ok.exf b hb).1,I'.ok.exfs b hb,.inl hb,(I'.ok.exf b hb).2,λp Qg z=>by
    have Tu:p∈mB:=by simpa using(show p∈([]:List (Addr×Obj))++mB from Qg)
    exact hp p Tu (z▸hb)⟩
 have loop:∀s3:Shared,s3={s with heap:=h1,toks:=s.toks+([]:List (Str×Value)).length}->∀lB:Env,lB.locals=C->
   codeAny (model X.prog X.w) X.A (.compLoop (.ListComp elt [⟨.Name x px,iter,ifs,0⟩] sc pos) 0 (.ref it) (.ref ↥s) (compEnvC sc (uX sc X.env) C X.env)) (M (.ref ↥s) lB) s3:=by
  rintro s3 rfl lB CZ
  refine codeAny_compLoop_tests (λm s'=>∃i acc H' its n,Inv (X.mK sc x ys fp C s H) [(↥s,lobj its n)] (none::σ) H' s'/\Vals acc its/\acc.length<=sizeLine/\tn i s'.heap/\(∀b∈fp,H' b=none)/\W i m acc H') ?_ m0
   ⟨0,[],H,[],0,I0,.nil,Zm _,T.keep 0 _ _ st λb hb o e=>old b o e,λb hb=>(hf b hb).1,w0⟩
  rintro m s' ⟨i,acc,H',its,n,I1,rv,hz,U2,U3,w1⟩
  have Tv:∀p∈[(↥s,lobj its n)],p.1∉fp:=λp hp=>by
   obtain rfl:p=(↥s,lobj its n):=by simpa using hp
   exact Ts
  rcases turn i m acc H' w1 with⟨stop,fin⟩|⟨go,X3,step⟩
  ·refine Pi (T.done (X.mK sc x ys fp C s H) rfl rfl rfl hc i _ s' _ H' (λ_ _=>False) I1 (Tt I1 U3 Tv) U2 stop) (λr s4 ⟨hr,I4⟩=>?_) (λ_ _ z=>z.elim)
   subst hr
   exact hM _ C lB s4 acc H' its n CZ IK (ZK _) Ni I4 rv hz fin
  ·refine Pi (T.item (X.mK sc x ys fp C s H) rfl rfl rfl hc i _ s' _ H' (λ_ _=>False) I1 (Tt I1 U3 Tv) U2 go) (λr s4 b9=>?_) (λ_ _ z=>z.elim)
   obtain⟨u,hr,h4⟩:=b9
   subst hr
   dsimp only
   have e0:∀env:Env,(letOwnedTupleGo (.Name x px) (.ref it) u>>=λ_=>assign (.Name x px) env u)=assign (.Name x px) env u:=λenv=>by
    rw[show letOwnedTupleGo (.Name x px) (.ref it) u=pure ()from rfl,pure_bind]
   rw[<-e0]
   refine UV (Pi h4 (λ_ s5 b9=>?_) (λ_ _ z=>z.elim))
   obtain⟨y,H5,I5,r5,y5,MQ,SY⟩:=b9
   have S0:=I5.pinned (Tt I5 SY Tv) (T.obj _ _ MQ)
   have xl:(X.mK sc x ys fp C s H).env.scope.names.lookup x=some .local:=lookup_relabel_local cs.xloc
   refine wpAny_assign_Name (j1 S0 cs.nd (i:=0) rfl (.inl xl) r5 (λs6 I6=>?_) (.inr xl))
   refine Pi (ht fp C s H _ s6 (⇑y::σ) H5 _ I6 (step y H5 y5)) (λb s7 b9=>?_) (λ_ _ z=>z.elim)
   obtain⟨H7,I7,q7⟩:=b9
   have LC:∀{H':Hp} {s':Shared} {σ':St} {pl:List (Addr×Obj)},Inv (X.mK sc x ys fp C s H) (pl++jw fp s5.heap) σ' H' s'->tn (i+1) s'.heap/\∀b∈fp,H' b=none:=λ{H' s' σ' pl} I'=>by
    refine⟨T.keep _ _ _ MQ λb hb o e=>(I'.pin (b,o) (ZF _ (ZF _ (jx hb e)))).1,λb hb=>?_⟩
    obtain⟨o,e,d⟩:=T.obj _ _ MQ b hb
    exact(I'.pin (b,o) (ZF _ (ZF _ (jx hb e)))).2.1
   have wk:∀{H':Hp} {s':Shared} {pl:List (Addr×Obj)},Inv (X.mK sc x ys fp C s H) pl (⇑y::σ) H' s'->Inv (X.mK sc x ys fp C s H) pl (none::σ) H' s':=λ{H' s' pl} I'=>I'.weak (by simp) λj v e=>by
    cases j with
    |zero=>cases e
    |succ j=>exact e
   cases b with
   |false=>
    rw[UF ZY]at q7
    obtain⟨m',hm,w7⟩:=q7
    obtain⟨t7,f7⟩:=LC I7
    exact⟨m',hm,i+1,acc,H7,its,n,wk I7.mE,rv,hz,t7,f7,w7⟩
   |true=>
    rw[W1 rfl]at q7
    refine Pi (he fp C s H _ s7 (⇑y::σ) H7 _ I7 q7) (λu8 s8 ⟨z,H8,I8,r8,m',hm,w8⟩=>?_) (λ_ _ z=>z.elim)
    obtain⟨t8,f8⟩:=LC I8
    obtain⟨p1,p2,p3,p4,_⟩:=I8.pin (↥s,lobj its n) (ZF _ (Zf _ (Zl.mpr rfl)))
    have hl:=rv.length
    refine wpAny_list_append_plain (items:=its.toArray) ⟨n,p1⟩ (λh9 Wl sb9=>?_) (by rw[ZH];omega)
    obtain⟨n9,e9⟩:=Wl
    have Wm:h9.get? ↥s=⇑(lobj (its++[u8]) n9):=by
     rw[e9]
     unfold lobj
     simp
    have Ia:Inv (X.mK sc x ys fp C s H) (jw fp s5.heap) (none::σ) H8 s8:=(wk I8).ff λp hp=>I8.pin p (ZF _ (ZF _ hp))
    have Ib:Inv (X.mK sc x ys fp C s H) (jw fp s5.heap) (none::σ) H8 {s8 with heap:=h9,toks:=s8.toks}:=Ia.turned (it:=↥s) (λb o hb e=>(sb9.2 b hb).trans e) p2 p3 (.inr (ZK _))
     (λy c e z=>by
       obtain⟨v,o,ho,_⟩:=I.cell y c (cs.cl I e).1
       exact absurd (ZN ho) (by rw[z];exact Zn _))
     (λp hp z=>by
       have Qg:p∈jw fp s5.heap:=by simpa using(show p∈([]:List (Addr×Obj))++jw fp s5.heap from hp)
       exact Ts (z▸(tI Qg).1))
    refine⟨m',hm,i+1,acc++[z],H8,its++[u8],n9,Ib.ff λp hp=>?_,rv.append (.cons r8 .nil),?_,T.keep _ _ _ t8 λb hb o e=>?_,f8,w8⟩
    ·obtain rfl:p=(↥s,lobj (its++[u8]) n9):=by simpa using hp
     exact⟨Wm,p2,p3,p4,λv z=>by cases z⟩
    ·rw[ZT,Zq]
     omega
    ·exact(sb9.2 b (λz=>Ts (z▸hb))).trans e
 exact codeAny_compStart_list (loop _ rfl _ rfl) (T.self _ 0 _ _ _ (T.keep 0 _ _ st λb hb o e=>old b o e) (loop _ rfl _ rfl))
end
variable{its:List Value}
section
variable{elt iter:Expr}
theorem comp_back{σ':St}{H':Hp}{s':Shared}(cs:ij X.env.scope X.N sc x ys)(I:Inv X pins σ H s)(hf:∀b∈fp,nX X pins H b){D:Addr}{n:Nat}{acc:List V}
  (I':Inv (X.mK sc x ys fp C s H) [(D,lobj its n)] σ' H' s')(IK:D≠C)(hD:↥s<=D)(hC:↥s<=C)(rv:Vals acc its)(hz:acc.length<=sizeLine){h':Heap}(sb:Heap.SameBut C s'.heap h'):
  Inv X pins σ (upd H' D (.lst acc)) {s' with heap:=h'}:=by
 obtain⟨p1,p2,_,_,_⟩:=I'.pin (D,lobj its n) (ZF _ (Zl.mpr rfl))
 have below:∀b o,s.heap.get? b=⇑o->b≠D/\b≠C:=λb o e=>⟨Ze (ZZ (ZN e) hD),Ze (ZZ (ZN e) hC)⟩
 have U:Un (gB X.stack) fp H H' s.heap s'.heap:=I'.base
 have mC:H' C=none:=I'.free
 refine I.Lq (ch:=fp) I'.os ⟨λb o e n hb hx=>?_,λb o e n hb hx=>?_,λb o e n hx=>?_,λb o e hx=>?_,λb xs e=>?_,λb o u e=>?_,λb ps e=>?_⟩ (λb o e=>?_) I'.bare λb hb=>⟨(hf b hb).2.2.2.1,(hf b hb).2.1,(hf b hb).2.2.2.2.1,(hf b hb).2.2.2.2.2⟩
 ·exact(sb.2 b (below b o e).2).trans (U.keep b o e n hb hx)
 ·obtain⟨sl,q⟩:=U.slot b o e n hb hx
  exact⟨sl,(sb.2 b (below b o e).2).trans q⟩
 ·rw[au (below b o e).1]
  exact U.free b o e n hx
 ·obtain⟨o',q⟩:=U.there b o e hx
  exact⟨o',(sb.2 b (below b o e).2).trans q⟩
 ·rw[au (aO (U.my b xs e) p2)]
  exact U.my b xs e
 ·rw[au (aO (U.lT b o u e) p2)]
  exact U.lT b o u e
 ·obtain⟨more,q⟩:=U.nV b ps e
  exact⟨more,by rw[au (aO q p2)];exact q⟩
 ·by_cases hb:b=D
  ·subst hb
   rw[aF]at e
   cases e
   exact⟨hz,its,n,rv,(sb.2 b IK).trans p1⟩
  ·rw[au hb]at e
   refine(I'.cD b o e).jW (λc v hc q=>(sb.2 c ?_).trans q) (λc q=>?_) λc xs q=>?_
   ·rintro rfl
    rcases hc with hc|hc
    ·rw[hc,e]at mC
     cases mC
    ·rw[hc]at mC
     cases mC
   ·rw[au (aO q p2)]
    exact q
   ·rw[au (aO q p2)]
    exact q
theorem SameBut.Tw(a:Addr)(h:Heap):Heap.SameBut a h h:=⟨rfl,λ_ _=>rfl⟩
theorem A7(hi:PI X (.Name x px) iter wi)(ys:List Str)(ht:∀ex C s H,Fj (X.mK sc x ys ex C s H) ifs tt)(he:∀ex C s H,PE (X.mK sc x ys ex C s H) elt te)(C0:jz X.env.scope X.N sc x ys=true)(hc:X.calm=true:=by rfl)
  (hs:∀x,foldedSetIterable iter X.env x=pure x:=by intro _;rfl):PE X (.ListComp elt [⟨.Name x px,iter,ifs,0⟩] sc pos) (Fm wi tt te):=by
 have cs:=ij.of C0
 intro pins s σ H Q I h
 rw[eval_ListComp]
 refine wpAny_comprehension_free (use:=none) (cl:=uX sc X.env) rfl hs (A5 λp hp hk=>cs.cell I (by rw[<-hk];exact hp)) cs.kind cs.locs ?_
 refine cx (hi pins s σ H _ I h) λv _ h1=>cx h1 λ_ _ h2=>?_
 obtain⟨_,_,_,J,_,rfl,I2,T,Lv,f2,W,⟨_,w0⟩,turn⟩:=h2
 refine wM (M:=λacc lB=>compPost (model X.prog X.w) X.A X.xe none (EP X pins σ Q) acc lB.locals) hc cs I2 ht he T Lv f2 w0 (F:=λacc H=>∀p,H p=none->Q (.ref p) (upd H p (.lst acc))) turn λD C lB _ acc _ its n CZ IK hD hC I' rv hz q=>?_
 obtain⟨m,hn,_⟩:=I'.loc
 refine⟨m,by rw[CZ];exact hn,λ_ sb=>?_⟩
 rw[CZ]at sb
 exact⟨.ref D,_,comp_back cs I2 f2 I' IK hD hC rv hz sb,rfl,q D (I'.pin (D,lobj its n) (ZF _ (Zl.mpr rfl))).2.1⟩
theorem uZ{i:Nat}{py pE:Pos}(hN:X.N.Nodup)(Fq:X.N[i]?=⇑y)(hy:X.env.scope.names.lookup y=some .local)(hi:PI X (.Name x px) iter wi)(ys:List Str)(ht:∀ex C s H,Fj (X.mK sc x ys ex C s H) ifs tt)(he:∀ex C s H,PE (X.mK sc x ys ex C s H) elt te)
  (C0:jz X.env.scope X.N sc x ys=true)(hc:X.calm=true:=by rfl)(hs:∀x,foldedSetIterable iter X.env x=pure x:=by intro _;rfl)
  (Nk:swapsWith (.ListComp elt [⟨.Name x px,iter,ifs,0⟩] sc pos) ⇑(.Name y py) pE.line X.env=pure true:=by rfl):
  PS X (.Assign [.Name y py] (.ListComp elt [⟨.Name x px,iter,ifs,0⟩] sc pos) pE) (λD σ H=>Fm wi tt te σ H λv H1=>D.nx (σ.set i ⇑v) H1):=by
 have cs:=ij.of C0
 intro pins s σ H D I h
 rw[exec_Assign_Name_used _ _ _ _ Nk]
 refine UV (wpAny_standAt (UV ?_))
 show wpAny _ X.A (do let _<-comprehension (.ListComp elt [⟨.Name x px,iter,ifs,0⟩] sc pos) sc X.env _ (newList []) false (eval iter X.env) ⇑(assign (.Name y py) X.env)) _ _ s
 refine UV (Pi (wpAny_comprehension_free (use:=⇑(assign (.Name y py) X.env)) (cl:=uX sc X.env) (Q:=λ_ s'=>SP X pins D .next s') rfl hs (A5 λp hp hk=>cs.cell I (by rw[<-hk];exact hp)) cs.kind cs.locs ?_) (λ_ s' hq=>SB (SB hq)) λ_ _ e=>e)
 refine cx (hi pins s σ H _ I h) λv _ h1=>cx h1 λ_ _ h2=>?_
 obtain⟨it,_,_,J,_,rfl,I2,T,Lv,f2,W,⟨_,w0⟩,turn⟩:=h2
 refine wM (M:=λacc lB=>compPost (model X.prog X.w) X.A X.xe ⇑(assign (.Name y py) X.env) (λ_ s'=>SP X pins D .next s') acc lB.locals) hc cs I2 ht he T Lv f2 w0
  (F:=λacc H=>∀p,H p=none->D.nx (σ.set i ⇑(.ref p)) (upd H p (.lst acc))) turn λDa C lB s' acc H' its n CZ IK hD hC I' rv hz q=>?_
 obtain⟨m,hn,_⟩:=I'.loc
 have Io:=comp_back cs I2 f2 I' IK hD hC rv hz (SameBut.Tw C s'.heap)
 have U4:C≠X.env.locals:=λe=>absurd (ZZ I2.lt hC) (by rw[e];exact Zn _)
 have U5:∀z c,X.env.cells.lookup z=⇑c->c≠C:=λz c e e'=>by
  obtain⟨v,o,ho,_⟩:=I2.cell z c e
  exact absurd (ZZ (ZN ho) hC) (by rw[e'];exact Zn _)
 refine wpAny_assign_Name (tE (v:=.ref Da) Io hN Fq (.inl hy) rfl (λJo Wn b9=>?_) (.inr hy))
 obtain⟨a,sb,ha⟩:=b9
 have Wo:C≠a:=by
  rcases ha with e|e
  ·rw[e]
   exact U4
  ·exact(U5 y a e).symm
 refine⟨m,by rw[CZ];exact hn.sameBut sb Wo,λ_ U6=>?_⟩
 rw[CZ]at U6
 have mC:(upd H' Da (.lst acc)) C=none:=by
  rw[au IK.symm]
  exact I'.free
 refine⟨_,_,Wn.turned (t':=Jo.toks) (it:=C) (λb o hb e=>(U6.2 b hb).trans e) mC U4 (.inr (Zd I2.sz hC)) U5 (λp hp e=>?_),q Da (I'.pin (Da,lobj its n) (ZF _ (Zl.mpr rfl))).2.1⟩
 exact absurd (ZZ (ZN (I2.pin p hp).1) hC) (by rw[e];exact Zn _)
end
open PySem.SeqAt
variable{α:Type}{ns:List Int}{j:Nat}
section
variable{a b:Addr}{xs ys:List V}
theorem qq(I:Inv X pins σ H s)(ha:jv X.K H a xs)(hb:jv X.K H b ys)(hu:A.units<cLine)(q:Nat->Bool)
  (hq:∀(j:Nat) x y u v,xs[j]?=⇑x->ys[j]?=⇑y->RelV x u->RelV y v->EqAt A.in1 s u v (q j)):RcAt A s (.ref a) (.ref b) (decide (xs.length=ys.length)&&(List.range xs.length).all q):=by
 obtain⟨its,r1,p1,_⟩:=I.list ha
 obtain⟨sO,r2,p2,_⟩:=I.list hb
 have l1:=r1.length
 have l2:=r2.length
 by_cases hl:xs.length=ys.length
 ·rw[SZ hl,Yq]
  have:=RcAt.lists (A:=A) (s:=s) (e:=q) p1.isList p2.isList (by rw[ZH,ZH];omega) hu λj h1 h2=>?_
  ·rw[ZH,<-l1]at this
   exact this
  ·rw[ZH]at h1 h2
   obtain⟨x,hx⟩:∃x,xs[j]?=⇑x:=⟨xs[j],ZG ⋯⟩
   obtain⟨y,hy⟩:∃y,ys[j]?=⇑y:=⟨ys[j],ZG ⋯⟩
   obtain⟨u,e1,ru⟩:=r1.get hx
   obtain⟨v,e2,rv⟩:=r2.get hy
   have f1:its.toArray[j]=u:=by
    have:=(ZL.mp e1).2
    simpa using this
   have f2:sO.toArray[j]=v:=by
    have:=(ZL.mp e2).2
    simpa using this
   rw[f1,f2]
   exact hq j x y u v hx hy ru rv
 ·rw[Wp hl,z0K]
  exact RcAt.lists_lengths p1.isList p2.isList (by rw[ZH,ZH];simp;omega) hu
theorem zm(I:Inv X pins σ H s)(ha:jv X.K H a xs)(hb:jv X.K H b ys)(hu:A.units<cLine)(q:Nat->Bool)
  (hq:∀(j:Nat) x y u v,xs[j]?=⇑x->ys[j]?=⇑y->RelV x u->RelV y v->EqAt A.in1 s u v (q j)):RcNeAt A s (.ref a) (.ref b) (!(decide (xs.length=ys.length)&&(List.range xs.length).all q)):=by
 obtain⟨its,r1,p1,_⟩:=I.list ha
 obtain⟨sO,r2,p2,_⟩:=I.list hb
 have l1:=r1.length
 have l2:=r2.length
 by_cases hl:xs.length=ys.length
 ·rw[SZ hl,Yq]
  have:=RcNeAt.lists (A:=A) (s:=s) (e:=q) p1.isList p2.isList (by rw[ZH,ZH];omega) hu λj h1 h2=>?_
  ·rw[ZH,<-l1]at this
   exact this
  ·rw[ZH]at h1 h2
   obtain⟨x,hx⟩:∃x,xs[j]?=⇑x:=⟨xs[j],ZG ⋯⟩
   obtain⟨y,hy⟩:∃y,ys[j]?=⇑y:=⟨ys[j],ZG ⋯⟩
   obtain⟨u,e1,ru⟩:=r1.get hx
   obtain⟨v,e2,rv⟩:=r2.get hy
   have f1:its.toArray[j]=u:=by
    have:=(ZL.mp e1).2
    simpa using this
   have f2:sO.toArray[j]=v:=by
    have:=(ZL.mp e2).2
    simpa using this
   rw[f1,f2]
   exact hq j x y u v hx hy ru rv
 ·rw[Wp hl,z0K]
  exact RcNeAt.lists_lengths p1.isList p2.isList (by rw[ZH,ZH];simp;omega) hu
theorem Ft[DecidableEq α]{ns ms:List α}:(decide (ns.length=ms.length)&&(List.range ns.length).all λj=>decide (ns[j]?=ms[j]?))=decide (ns=ms):=by
 by_cases e:ns=ms
 ·subst e
  simp
 ·rw[Wp e]
  by_cases hl:ns.length=ms.length
  ·rw[SZ hl,Yq]
   rw[<-Bool.not_eq_true,ZP]
   intro h
   apply e
   apply z0R
   intro i
   by_cases hi:i<ns.length
   ·exact PP (h i (ZW.mpr hi))
   ·rw[YC ⋯,YC ⋯]
  ·rw[Wp hl]
   rfl
theorem C1[DecidableEq α]{ns ms:List α}{f:α->V}:(decide ((ns.map f).length=(ms.map f).length)&&(List.range (ns.map f).length).all λj=>decide (ns[j]?=ms[j]?))=decide (ns=ms):=by
 rw[ZD,ZD]
 exact Ft
theorem wN{x:V}(h:(ns.map V.int)[j]?=⇑x):∃n,ns[j]?=⇑n/\x=.int n:=by
 rw[Za]at h
 cases e:ns[j]? with
 |none=>
  rw[e]at h
  cases h
 |some n=>
  rw[e]at h
  exact⟨n,rfl,(ZX h).symm⟩
theorem C3{ms:List Int}(A:Around):∀(j:Nat) x y u v,(ns.map V.int)[j]?=⇑x->(ms.map V.int)[j]?=⇑y->RelV x u->RelV y v->EqAt A s u v (decide (ns[j]?=ms[j]?)):=by
 intro j x y u v hx hy ru rv
 obtain⟨n,e1,rfl⟩:=wN hx
 obtain⟨m,e2,rfl⟩:=wN hy
 obtain⟨t,rfl⟩:=ru
 obtain⟨t',rfl⟩:=rv
 have:decide (ns[j]?=ms[j]?)=(n==m):=by
  rw[e1,e2]
  by_cases h:n=m
  ·subst h
   simp
  ·rw[Wp (by simpa using h)]
   exact(beq_eq_false_iff_ne.mpr h).symm
 rw[this]
 exact EqAt.int_int n t m t'
theorem C4{ms:List Int}(I:Inv X pins σ H s)(ha:jv X.K H a (ns.map V.int))(hb:jv X.K H b (ms.map V.int))(hu:A.units<cLine):RcAt A s (.ref a) (.ref b) (decide (ns=ms)):=by
 have:=qq I ha hb hu (λj=>decide (ns[j]?=ms[j]?)) (C3 A.in1)
 rw[C1]at this
 exact this
theorem A8:∀{ns ms:List Int},ns.map V.int=ms.map V.int->ns=ms
 |[],[],_=>rfl
 |[],_::_,h=>by cases h
 |_::_,[],h=>by cases h
 |n::ns,m::ms,h=>by
  rw[ZV,ZV]at h
  injection h with h1 h2
  injection h1 with h1
  rw[h1,A8 h2]
theorem C6{ms:List Int}(I:Inv X pins σ H s)(ha:jv X.K H a (ns.map V.int))(hb:jv X.K H b (ms.map V.int))(hu:A.units<cLine):EqAt A s (.ref a) (.ref b) (decide (ns=ms)):=by
 by_cases e:a=b
 ·subst e
  rw[SZ (A8 (I.qc ha hb))]
  exact EqAt.same _
 ·exact EqAt.of_refs e (C4 I ha hb hu)
theorem Jy{bs:List Bool}{x:V}(h:(bs.map V.bl)[j]?=⇑x):∃n,bs[j]?=⇑n/\x=.bl n:=by
 rw[Za]at h
 cases e:bs[j]? with
 |none=>
  rw[e]at h
  cases h
 |some n=>
  rw[e]at h
  exact⟨n,rfl,(ZX h).symm⟩
theorem range_any(bs:List Bool):(List.range bs.length).any (λi=>bs.getD i false)=bs.any id:=by
 rw[YO,Y0,Y0]
 constructor
 ·rintro⟨i,h1,h2⟩
  have hi:=ZW.mp h1
  refine⟨bs[i],Z8 hi,?_⟩
  rw[ZU,ZG hi]at h2
  exact h2
 ·rintro⟨b,h1,h2⟩
  obtain⟨i,hi,e⟩:=z0O.mp h1
  refine⟨i,ZW.mpr hi,?_⟩
  rw[ZU,ZG hi,e]
  exact h2
theorem range_all(bs:List Bool):(List.range bs.length).all (λi=>bs.getD i false)=bs.all id:=by
 rw[YO,ZP,ZP]
 constructor
 ·intro h b h1
  obtain⟨i,hi,e⟩:=z0O.mp h1
  have:=h i (ZW.mpr hi)
  rw[ZU,ZG hi,e]at this
  exact this
 ·intro h i h1
  have hi:=ZW.mp h1
  rw[ZU,ZG hi]
  exact h bs[i] (Z8 hi)
theorem wO{bs:List Bool}(r:Vals (bs.map V.bl) its){prog:Program}{w:World}:TruthOf prog w A (λi v=>its.toArray[i]?=⇑v) (λi=>bs.getD i false):=by
 intro i v s Q E hv h
 have OY:its[i]?=⇑v:=by simpa using hv
 have hl:=r.length
 have hi:=(ZL.mp OY).1
 rw[ZD]at hl
 obtain⟨x,hx⟩:∃x,(bs.map V.bl)[i]?=⇑x:=⟨(bs.map V.bl)[i]'(by rw[ZD];omega),ZG _⟩
 obtain⟨u,e,ru⟩:=r.get hx
 rw[OY]at e
 cases e
 obtain⟨n,e2,rfl⟩:=Jy hx
 cases ru
 have h':Q (bs.getD i false) s:=h
 rw[ZU,e2]at h'
 exact P3 h'
theorem wR(hc:X.calm=true):fM X (.builtin "any") (λxs H Q=>∃(p:Addr) (bs:List Bool),xs=[.ref p]/\jv X.K H p (bs.map V.bl)/\Q (.bl (bs.any id)) H):=by
 intro _ s _ H xs _ Q I r h
 obtain⟨p,bs,rfl,hq,q⟩:=h
 obtain⟨u,rfl,ru⟩:=vals1 r
 cases ru
 obtain⟨its,rv,pl,_⟩:=I.list hq
 have u6:p≠↥s:=by
  obtain⟨o,ho,_⟩:=pl.isList
  exact Ze (ZN ho)
 have hh:X.A.in1.handled=none:=I.ok.hd hc
 refine call_any_walk (wpAny_pyIter_list pl.isList ⟨↥s,_,_,_,_,_,(λi=>bs.getD i false),rfl,Walks.list hh ↥s p u6 its.toArray,?_,wO rv,λ_ tk k=>?_⟩)
 ·exact⟨⟨_,ZR _ rfl,rfl,rfl⟩,pl.isList.at λo e=>ZE _ e⟩
 ·have hl:=rv.length
  rw[ZD]at hl
  rw[ZH,<-hl,range_any]
  refine⟨.bl _,H,I.kept (t':=tk) λb o e=>k b o (λz=>?_) (ZE _ e),rfl,q⟩
  obtain rfl:b=↥s:=by simpa using z
  exact Zn _ (ZN e)
theorem wU(hc:X.calm=true):fM X (.builtin "all") (λxs H Q=>∃(p:Addr) (bs:List Bool),xs=[.ref p]/\jv X.K H p (bs.map V.bl)/\Q (.bl (bs.all id)) H):=by
 intro _ s _ H xs _ Q I r h
 obtain⟨p,bs,rfl,hq,q⟩:=h
 obtain⟨u,rfl,ru⟩:=vals1 r
 cases ru
 obtain⟨its,rv,pl,_⟩:=I.list hq
 have u6:p≠↥s:=by
  obtain⟨o,ho,_⟩:=pl.isList
  exact Ze (ZN ho)
 have hh:X.A.in1.handled=none:=I.ok.hd hc
 refine call_all_walk (wpAny_pyIter_list pl.isList ⟨↥s,_,_,_,_,_,(λi=>bs.getD i false),rfl,Walks.list hh ↥s p u6 its.toArray,?_,wO rv,λ_ tk k=>?_⟩)
 ·exact⟨⟨_,ZR _ rfl,rfl,rfl⟩,pl.isList.at λo e=>ZE _ e⟩
 ·have hl:=rv.length
  rw[ZD]at hl
  rw[ZH,<-hl,range_all]
  refine⟨.bl _,H,I.kept (t':=tk) λb o e=>k b o (λz=>?_) (ZE _ e),rfl,q⟩
  obtain rfl:b=↥s:=by simpa using z
  exact Zn _ (ZN e)
theorem Jz:O0 X "int.bit_length" (λx vs H Q=>∃i,x=.int i/\vs=[]/\Q (.int (Builtin.Int.intBits i:Nat)) H):=by
 intro _ s _ H x vs v _ Q I rx rv h
 obtain⟨i,rfl,rfl,q⟩:=h
 obtain⟨t,rfl⟩:=rx
 cases rv
 exact call_gives F.slot_int_bit_length (typeIs_int s i t) F.entry_int_bit_length (F.args_int_bit_length_1 _) (AutoIntG2.int_bit_length_int_0 i t) ⟨.int _,H,I.tok _,⟨_,rfl⟩,q⟩
end
section
open PySem.AutoSeq1 (wpAny_loadPart')
open PySem.MeetsSeq PySem.MeetsSeq2 PySem.MeetsSeq3
theorem JA(l b:Addr)(items dq:Array Value)(n n2:Nat)(dd O4:Option Addr)(sl O5:Array (Option Value))(ns ms:List Int)(hi:IntsAre items.toList ns)(hj:IntsAre dq.toList ms)(k:Nat):
  ∀i:Nat,items.size-i=k->i<=items.size->i<=dq.size->Meets (Builtin.«list.__eq__.loop» ⟨[.ref l,.ref b,rawInt i,rawInt 0],[]⟩)
   (λA R s=>s.heap.get? l=some {cls:=.type "list",dict:=dd,data:=.seq items n,slots:=sl}/\s.heap.get? b=some {cls:=.type "list",dict:=O4,data:=.seq dq n2,slots:=O5}/\
     R (.ok (.ret (.bool (HT.lexLt (ns.drop i) (ms.drop i))))) s):=by
 have z1:items.size=ns.length:=by rw[<-hi.length];simp
 have z2:dq.size=ms.length:=by rw[<-hj.length];simp
 induction k with
 |zero=>
  intro i _ _ _ prog w A R s h
  obtain⟨hp,g,d,tk,os⟩:=s;obtain⟨hl,hb,h⟩:=h
  wp_walk using wpAny_loadPart' hl,wpAny_loadPart' hb
  have e1:items[((i:Nat):Int).toNat]?=none:=by simp;omega
  have d1:ns.drop i=[]:=Z1 ⋯
  rw[d1]at h
  have hv:HT.lexLt [] (ms.drop i)=decide (items.size<dq.size):=by
   by_cases hm:i<ms.length
   ·rw[Zy hm,HT.qi]
    exact(SZ ⋯).symm
   ·rw[Z1 ⋯,HT.sM]
    exact(Wp ⋯).symm
  rw[hv]at h
  rw[e1]
  wp_walk using wpAny_loadPart' hl,wpAny_loadPart' hb
  exact h
 |succ k ih=>
  intro i _ _ _ prog w A R s h
  obtain⟨hp,g,d,tk,os⟩:=s;obtain⟨hl,hb,h⟩:=h
  wp_walk using wpAny_loadPart' hl,wpAny_loadPart' hb
  have jX:i<items.size:=by omega
  have e1:items[((i:Nat):Int).toNat]?=some items[i]:=by simp[jX]
  have dn:ns.drop i=ns[i]::ns.drop (i+1):=Zy ⋯
  by_cases hm:i<dq.size
  ·have e2:dq[((i:Nat):Int).toNat]?=some dq[i]:=by simp[hm]
   have dm:ms.drop i=ms[i]::ms.drop (i+1):=Zy ⋯
   rw[dn,dm,HT.lX]at h
   rw[e1,e2]
   obtain⟨t,f1⟩:=hi.get i ns[i] (ZG ⋯)
   obtain⟨u,f2⟩:=hj.get i ms[i] (ZG ⋯)
   have U7:items[i]=.int ns[i] t:=by
    have:=(ZL.mp f1).2
    simpa using this
   have U8:dq[i]=.int ms[i] u:=by
    have:=(ZL.mp f2).2
    simpa using this
   have hc:((i:Int)+1)=((i+1:Nat):Int):=by push_cast;rfl
   rw[U7,U8]
   obtain⟨e,he,Qh⟩:=HT.Fd A.in1 ⟨hp,g,d,tk,os⟩ ns[i] t ms[i] u
   refine UV (he prog w _ _ ?_)
   cases e with
   |true=>
    rw[W1 (Qh.mp rfl)]at h
    wp_walk
    rw[hc]
    exact⟨plainId_quiet plain_eq_loop _,codeAny_builtin entry_eq_loop (by
     rw[Around.under_plainId plain_eq_loop _]
     exact ih (i+1) ⋯ ⋯ ⋯ prog w A R _ ⟨hl,hb,h⟩)⟩
   |false=>
    rw[UF (λq=>absurd (Qh.mpr q) ZY)]at h
    wp_walk using wpAny_loadPart' hl,wpAny_loadPart' hb
    rw[e1,e2]
    rw[U7,U8]
    have Wq:=HT.Fe A.in1 ⟨hp,g,d,tk,os⟩ ns[i] t ms[i] u prog w
    wp_walk using Wq
    exact h
  ·have e2:dq[((i:Nat):Int).toNat]?=none:=by simp;omega
   have dm:ms.drop i=[]:=Z1 ⋯
   rw[dn,dm,HT.qj]at h
   have hv:false=decide (items.size<dq.size):=(Wp ⋯).symm
   rw[hv]at h
   rw[e1,e2]
   wp_walk using wpAny_loadPart' hl,wpAny_loadPart' hb
   exact h
theorem u7(l b:Addr)(items dq:Array Value)(n n2:Nat)(dd O4:Option Addr)(sl O5:Array (Option Value))(ns ms:List Int)(hi:IntsAre items.toList ns)(hj:IntsAre dq.toList ms):
  Meets (Builtin.«list.__lt__» ⟨[.ref l,.ref b],[]⟩)
   (λA R s=>s.heap.get? l=some {cls:=.type "list",dict:=dd,data:=.seq items n,slots:=sl}/\s.heap.get? b=some {cls:=.type "list",dict:=O4,data:=.seq dq n2,slots:=O5}/\
     R (.ok (.ret (.bool (HT.lexLt ns ms)))) s):=by
 intro prog w A R s h
 obtain⟨_,g,d,_,_⟩:=s;obtain⟨hl,hb,h⟩:=h
 have f3:=AutoSeq1.sub_list_list
 wp_walk using wpAny_loadPart' hl,wpAny_loadPart' hb
 exact⟨plainId_quiet plain_eq_loop _,codeAny_builtin entry_eq_loop (by
  rw[Around.under_plainId plain_eq_loop _]
  exact JA l b items dq n n2 dd O4 sl O5 ns ms hi hj _ 0 rfl (Zm _) (Zm _) prog w A R _ ⟨hl,hb,by simpa using h⟩)⟩
def Qi(A:Around)(s:Shared)(y x:Value)(r:Bool):Prop:=
 ∀(prog:Program) (w:World) (E:Value->Shared->Prop) (Q:Value->Shared->Prop),Q (.bool r) s->wpAny (model prog w) A (richCompare .Lt y x) Q E s
theorem zo{l b:Addr}{items dq:Array Value}{ms:List Int}(hl:s.heap.IsList l items)(hb:s.heap.IsList b dq)(hi:IntsAre items.toList ns)(hj:IntsAre dq.toList ms)(hu:A.units<cLine):Qi A s (.ref l) (.ref b) (HT.lexLt ns ms):=λ_ w E Q h=>by
 obtain⟨⟨_,dd,_,sl⟩,ho,hc,n,hd⟩:=id hl
 obtain⟨⟨_,O4,_,O5⟩,LD,RW,n2,hd2⟩:=id hb
 simp only at hc hd RW hd2
 subst hc hd RW hd2
 exact richCompare_meets_room (op:=.Lt) ⟨_,ho,rfl⟩ ⟨_,LD,rfl⟩ PySem.F.slot_list_lt PySem.F.entry_list_lt (PySem.F.args_list_lt_2 _ _) (u7 l b items dq n n2 dd O4 sl O5 ns ms hi hj)
  ⟨ho,LD,⟨(λx=>nomatch x),h⟩⟩ hu
end
end L2
namespace Mt
def sub(a b:Nat):Bool:=(a&&&b)==a
def j6(g:Nat):List Nat:=(List.range 6).filter λh=>g.testBit h
def Tx(g:Nat):Nat:=(j6 g).foldl (λn h=>n+2^(5-h)) 0
def rank(g:Nat):Nat:=(j6 g).length*64+(63-Tx g)
def lets(l:List Nat)(g:Nat):Bool:=l.any λr=>sub r g
def fU(acc:List Nat)(g:Nat):List Nat:=if lets acc g then acc else acc++[g]
def A9(ss:List Nat):List Nat:=ss.foldl fU []
end Mt
namespace TW
open PySem PyProof.Rows
abbrev KA:=Array Keyed
abbrev SM:=StateT SortSt Sem
def JB:Bool->Keyed->KA->Nat->Nat->Nat->SM (Option Nat):=sortPriv% PySem.Builtin.gallop
def Fu:KA->KA->SM (KA):=sortPriv% PySem.Builtin.mergeLo
def Fv:KA->KA->SM (KA):=sortPriv% PySem.Builtin.mergeHi
def JC:Nat->SM Unit:=sortPriv% PySem.Builtin.setMinGallop
variable{ι:Type}
structure Cc(cmp:ι->ι->Bool) where
 prog:Program
 w:World
 A:Around
 E:Value->Shared->Prop
 s:Shared
 kd:SortKind
 it:ι->Keyed
 C:∀(i j:ι) (st:SortSt) (Q:Option Bool->SortSt->Prop),kindOf st=kd->Q ⇑(cmp i j) st->wpS (model prog w) A E s (lt' (it i) (it j)) Q st
structure Dt(ι:Type)(z:Nat) where
 p:Vector ι z
 q:Array (Nat×Nat×Nat)
 g:Nat
variable{cmp:ι->ι->Bool}{z:Nat}
def sd(c:Cc cmp)(d:Dt ι z):SortSt:=SortSt.mk' c.kd (d.p.toArray.map c.it) d.q d.g none
variable{α:Type}
def D(F:Cc cmp->SM α)(d:Dt ι z)(P:(Cc cmp->α)->Dt ι z->Prop):Prop:=
 ∃r d',P r d'/\∀(c:Cc cmp) (Q:α->SortSt->Prop),Q (r c) (sd c d')->wpS (model c.prog c.w) c.A c.E c.s (F c) Q (sd c d)
variable{β:Type}
section
variable{d d':Dt ι z}{P:(Cc cmp->α)->Dt ι z->Prop}{F G:Cc cmp->SM α}
theorem D.pure{a:Cc cmp->α}(h:P a d):D (λc=>Pure.pure (a c)) d P:=⟨a,d,h,λ_ _ q=>wpS_pure q⟩
theorem D.bind{F:Cc cmp->SM β}{G:Cc cmp->β->SM α}(h:D F d λr d'=>D (λc=>G c (r c)) d' P):D (λc=>F c>>=G c) d P:=by
 obtain⟨r,d',⟨r2,d2,h2,k2⟩,k1⟩:=h
 exact⟨r2,d2,h2,λc Q q=>wpS_bind (k1 c _ (k2 c Q q))⟩
theorem D.mono{P':(Cc cmp->α)->Dt ι z->Prop}(h:D F d P)(k:∀r d',P r d'->P' r d'):D F d P':=let⟨r,d',x,y⟩:=h;⟨r,d',k _ _ x,y⟩
theorem D.ite{p:Cc cmp->Prop}{p0:Prop}{i:∀c,Decidable (p c)}(e:∀c,p c↔p0)(h1:p0->D F d P)(h2:¬p0->D G d P):D (λc=>if p c then F c else G c) d P:=by
 by_cases h:p0
 ·obtain⟨r,d',x,y⟩:=h1 h
  exact⟨r,d',x,λc Q q=>by dsimp only;rw[W1 ((e c).mpr h)];exact y c Q q⟩
 ·obtain⟨r,d',x,y⟩:=h2 h
  exact⟨r,d',x,λc Q q=>by dsimp only;rw[UF λz=>h ((e c).mp z)];exact y c Q q⟩
theorem sz{p:Array ι}{c:Cc cmp}{n:Nat}:(n==(p.map c.it).size)=true↔n=p.size:=by simp
theorem JD{x y:Prop}{i:Decidable x}{j:Decidable y}:(decide x&&decide y)=true↔x/\y:=by simp
end
variable{i:Nat}
section
variable{d d':Dt ι z}
theorem D.lt{i j:ι}{P:(Cc cmp->Option Bool)->Dt ι z->Prop}(h:∀b,P (λ_=>⇑b) d):D (λc=>lt' (c.it i) (c.it j)) d P:=⟨_,d,h (cmp i j),λc Q q=>c.C i j _ Q rfl q⟩
theorem D.get{P:(Cc cmp->SortSt)->Dt ι z->Prop}(h:P (λc=>sd c d) d):D (λ_=>MonadState.get) d P:=⟨_,d,h,λ_ _ q=>wpS_get q⟩
theorem D.mod{f:Cc cmp->SortSt->SortSt}{P:(Cc cmp->PUnit)->Dt ι z->Prop}(d':Dt ι z)(e:∀c,f c (sd c d)=sd c d')(h:P (λ_=>⟨⟩) d'):D (λc=>(modify (f c):SM PUnit)) d P:=⟨_,d',h,λc Q q=>wpS_modify (by rw[e];exact q)⟩
theorem D.set{x:Cc cmp->SortSt}{P:(Cc cmp->PUnit)->Dt ι z->Prop}(d':Dt ι z)(e:∀c,x c=sd c d')(h:P (λ_=>⟨⟩) d'):D (λc=>(set (x c):SM PUnit)) d P:=⟨_,d',h,λc Q q=>by
 unfold wpS
 dsimp only
 rw[StateT.run_set,e]
 exact SB ⟨rfl,q⟩⟩
theorem D.rule{t:String}{P:(Cc cmp->Unit)->Dt ι z->Prop}(h:P (λ_=>()) d):D (λ_=>(liftM (rule t):SM Unit)) d P:=⟨_,d,h,λ_ _ q=>wpS_lift (wpAny_rule ⟨rfl,q⟩)⟩
theorem D.elem{p:Array ι}{P:(Cc cmp->Keyed)->Dt ι z->Prop}(hi:i<p.size)(h:∀k,P (λc=>c.it k) d):D (λc=>elem' (p.map c.it) i) d P:=⟨_,d,h p[i],λc Q q=>by
 dsimp only
 rw[elem'_eq,Array.getElem?_map,getElem?_pos p i hi]
 exact wpS_pure q⟩
theorem D.forL{f:Cc cmp->Nat->β->SM (ForInStep β)}(I:List Nat->(Cc cmp->β)->Dt ι z->Prop)(Z:(Cc cmp->β)->Dt ι z->Prop)
  (st:∀x l e d,I (x::l) e d->D (λc=>f c x (e c)) d λr d'=>(∃e',(r=λc=>.done (e' c))/\Z e' d')\/∃e',(r=λc=>.yield (e' c))/\I l e' d')(fin:∀e d,I [] e d->Z e d):
  ∀(l:List Nat) (e:Cc cmp->β) (d:Dt ι z),I l e d->D (λc=>forIn l (e c) (f c)) d Z
 |[],e,d,h=>⟨e,d,fin e d h,λc Q q=>by dsimp only;rw[Y9];exact wpS_pure q⟩
 |x::l,e,d,h=>by
  obtain⟨r,d1,k,y⟩:=st x l e d h
  rcases k with⟨e',rfl,z⟩|⟨e',rfl,z⟩
  ·exact⟨e',d1,z,λc Q q=>by dsimp only;rw[Yi];exact wpS_bind (y c _ (wpS_pure q))⟩
  ·obtain⟨r2,d2,k2,y2⟩:=D.forL I Z st fin l e' d1 z
   exact⟨r2,d2,k2,λc Q q=>by dsimp only;rw[Yi];exact wpS_bind (y c _ (y2 c Q q))⟩
theorem D.for{a b:Nat}{N:Cc cmp->Nat}{f:Cc cmp->Nat->β->SM (ForInStep β)}(I:Nat->(Cc cmp->β)->Dt ι z->Prop)(Z:(Cc cmp->β)->Dt ι z->Prop)
  (st:∀x e d,a<=x->x<b->I x e d->D (λc=>f c x (e c)) d λr d'=>(∃e',(r=λc=>.done (e' c))/\Z e' d')\/∃e',(r=λc=>.yield (e' c))/\I (x+1) e' d')(fin:∀e d,I (max a b) e d->Z e d)
  {e:Cc cmp->β}(h:I a e d)(er:∀c,N c=b:=by intro;first|rfl|simp only[Array.size_map]):D (λc=>forIn [a:N c] (e c) (f c)) d Z:=by
 obtain⟨r,d',x1,x2⟩:=D.forL (f:=f) (λl e d=>∃x,l=List.range' x (b-x)/\a<=x/\x<=max a b/\I x e d) Z (by
  rintro y l e d ⟨x,hl,h1,_,h3⟩
  have hx:x<b:=by
   by_cases hb:x<b
   ·exact hb
   ·rw[show b-x=0 by omega]at hl
    cases hl
  rw[show b-x=(b-(x+1))+1 by omega,Yp]at hl
  obtain⟨rfl,rfl⟩:=Yz hl
  exact(st y e d h1 hx h3).mono λr d' z=>z.imp id λ⟨e',r1,r2⟩=>⟨e',r1,y+1,rfl,⋯,⋯,r2⟩) (by
  rintro e d ⟨x,hl,h1,_,h3⟩
  have:b<=x:=by
   by_cases hb:x<b
   ·rw[show b-x=(b-(x+1))+1 by omega,Yp]at hl
    cases hl
   ·omega
  rw[show max a b=x by omega]at fin
  exact fin e d h3) (List.range' a (b-a)) e d ⟨a,rfl,ZK _,Nat.le_max_left ..,h⟩
 exact⟨r,d',x1,λc Q q=>by
  dsimp only
  rw[er,Std.Legacy.Range.forIn_eq_forIn_range']
  have:=x2 c Q q
  simpa[Std.Legacy.Range.size]using this⟩
end
variable{left:Bool}{n:Nat}
section
variable{d:Dt ι z}{P:(Cc cmp->Option Bool)->Dt ι z->Prop}
theorem D.Tz{key:ι}{a:Array ι}(hi:i<a.size)(h:∀b,P (λ_=>⇑b) d):
  D (λc=>elem' (a.map c.it) i>>=λx=>if left=true then lt' x (c.it key)else lt' (c.it key) x>>=λr=>Pure.pure (Option.map (λb=>!b) r)) d P:=
 D.bind (D.elem hi λ_=>D.ite (λ_=>Iff.rfl) (λ_=>D.lt h) λ_=>D.bind (D.lt λb=>D.pure (h !b)))
theorem D.ltAt{j:Nat}(hi:i<z)(hj:j<z)(h:∀b,P (λ_=>⇑b) d):D (λ_=>ltAt' i j) d P:=
 D.bind (D.get (D.bind (D.elem (p:=d.p.toArray) (by simpa using hi) λ_=>D.bind (D.elem (p:=d.p.toArray) (by simpa using hj) λ_=>D.lt h))))
theorem D.two{ρ:Type}{f:Cc cmp->Nat->Option ρ×Nat×Nat->SM (ForInStep (Option ρ×Nat×Nat))}{P:(Cc cmp->Option ρ×Nat×Nat)->Dt ι z->Prop}(R:Nat->Prop)
  (st:∀x l o,R o->D (λc=>f c x (none,l,o)) d λr d'=>d'=d/\∃l o,R o/\((r=λ_=>.done (none,l,o))\/r=λ_=>.yield (none,l,o))){l o:Nat}(h0:R o)(h:∀l o,R o->P (λ_=>(none,l,o)) d):D (λc=>forIn [:n] (none,l,o) (f c)) d P:=by
 refine(D.for (I:=λ_ e d'=>d'=d/\∃l o,R o/\e=λ_=>(none,l,o)) (Z:=λe d'=>d'=d/\∃l o,R o/\e=λ_=>(none,l,o)) ?_ (λ_ _ h=>h) (e:=λ_=>(none,l,o)) ⟨rfl,l,o,h0,rfl⟩).mono ?_
 ·rintro x e d'- -⟨rfl,l,o,h1,rfl⟩
  refine(st x l o h1).mono ?_
  rintro r d' ⟨rfl,l,o,h2,rfl|rfl⟩
  ·exact .inl ⟨_,rfl,rfl,l,o,h2,rfl⟩
  ·exact .inr ⟨_,rfl,rfl,l,o,h2,rfl⟩
 ·rintro r d' ⟨rfl,l,o,h2,rfl⟩
  exact h l o h2
theorem D.gallop{key:ι}{a:Array ι}{base hint:Nat}{P:(Cc cmp->Option Nat)->Dt ι z->Prop}(hb:base+n<=a.size)(hh:hint<n)(h:∀k,k<=n->P (λ_=>⇑k) d):D (λc=>JB left (c.it key) (a.map c.it) base n hint) d P:=by
 refine D.bind (D.Tz ⋯ λb=>?_)
 cases b
 all_goals
  refine D.bind (D.two (λ_=>True) (λx l o _=>?_) trivial λl o _=>D.bind (D.two (λk=>k<=n) (λx l o hk=>?_) ⋯ λl o hk=>D.pure (h _ hk)))
  ·refine D.ite (λ_=>Iff.rfl) (λ_=>D.pure ⟨rfl,_,_,trivial,.inl rfl⟩) λ_=>D.bind (D.Tz ⋯ λb=>?_)
   cases b
   ·first|exact D.pure ⟨rfl,_,_,trivial,.inl rfl⟩|exact D.pure ⟨rfl,_,_,trivial,.inr rfl⟩
   ·first|exact D.pure ⟨rfl,_,_,trivial,.inl rfl⟩|exact D.pure ⟨rfl,_,_,trivial,.inr rfl⟩
  ·dsimp only
   refine D.ite (λ_=>Iff.rfl) (λ_=>D.pure ⟨rfl,_,_,hk,.inl rfl⟩) λ_=>D.bind (D.Tz ⋯ λb=>?_)
   cases b
   ·exact D.pure ⟨rfl,_,_,⋯,.inr rfl⟩
   ·exact D.pure ⟨rfl,_,_,hk,.inr rfl⟩
end
class Rp(o:Cc cmp->KA):Prop where
 h:∃p:Array ι,o=λc=>p.map c.it
section
variable{a b:Cc cmp->KA}
instance r1{p:Array ι}:Rp λc:Cc cmp=>p.map c.it:=⟨p,rfl⟩
instance r2{k:ι}:Rp λc:Cc cmp=>#[c.it k]:=⟨#[k],by simp⟩
instance r3[A:Rp a]{k:ι}:Rp λc=>(a c).push (c.it k):=let⟨p,e⟩:=A.h;⟨p.push k,by simp[e]⟩
instance r4[A:Rp a][B:Rp b]:Rp λc=>a c++b c:=let⟨p,e⟩:=A.h;let⟨q,f⟩:=B.h;⟨p++q,by simp[e,f]⟩
instance r5[A:Rp a]{i j:Nat}:Rp λc=>(a c).extract i j:=let⟨p,e⟩:=A.h;⟨p.extract i j,by simp[e]⟩
instance r7[A:Rp a]{i:Nat}{p:Array ι}:Rp λc=>(a c).extract i (p.map c.it).size:=let⟨q,e⟩:=A.h;⟨q.extract i p.size,by simp[e]⟩
instance r6[A:Rp a]:Rp λc=>(a c).reverse:=let⟨p,e⟩:=A.h;⟨p.reverse,by simp[e]⟩
end
def Dt.w(d:Dt ι z)(g:Nat):Dt ι z:=⟨d.p,d.q,g⟩
section
variable{d:Dt ι z}{τ:Type}(T:KA->Nat->Nat->τ->β)(d:Dt ι z)(B:Nat->Nat->Prop)(e:Cc cmp->Option (KA)×β)(d':Dt ι z)
def J:Prop:=∃o u v t g,(e=λc=>(none,T (o c) u v t))/\d'=d.w g/\Rp o/\B u v
def Z:Prop:=(∃(r:_) (t:Cc cmp->β) (g:_),(e=λc=>(⇑(r c),t c))/\d'=d.w g/\Rp r)\/J T d B e d'
abbrev tl:KA->Nat->Nat->τ->KA×Nat×Nat×τ:=λo u v t=>(o,u,v,t)
abbrev th:KA->Nat->Nat->τ->Nat×Nat×KA×τ:=λo u v t=>(u,v,o,t)
end
section
variable{d:Dt ι z}
theorem D.mg{g:Nat}{P:(Cc cmp->Unit)->Dt ι z->Prop}(h:P (λ_=>()) (d.w g)):D (λ_=>JC g) d P:=D.mod (d.w g) (λ_=>rfl) h
section
variable{P:(Cc cmp->α)->Dt ι z->Prop}
theorem D.eB{p:Array ι}{i:Nat}{G:Cc cmp->Keyed->SM α}(hi:i<p.size)(h:∀k,D (λc=>G c (c.it k)) d P):D (λc=>elem' (p.map c.it) i>>=G c) d P:=D.bind (D.elem hi h)
theorem D.lB{i j:ι}{G:Cc cmp->Option Bool->SM α}(h:∀b,D (λc=>G c ⇑b) d P):D (λc=>lt' (c.it i) (c.it j)>>=G c) d P:=D.bind (D.lt h)
theorem D.gB{l:Bool}{k:ι}{a:Array ι}{b n i:Nat}{N:Cc cmp->Nat}{G:Cc cmp->Option Nat->SM α}(e:∀c,N c=n)(hb:b+n<=a.size)(hh:i<n)(h:∀k,k<=n->D (λc=>G c ⇑k) d P):D (λc=>JB l (c.it k) (a.map c.it) b (N c) i>>=G c) d P:=by
 rw[show N=λ_=>n from funext e]
 exact D.bind (D.gallop hb hh h)
theorem D.mB{g:Nat}{G:Cc cmp->Unit->SM α}(h:D (λc=>G c ()) (d.w g) P):D (λc=>JC g>>=G c) d P:=D.bind (D.mg h)
end
abbrev FS(τ:Type):=ForInStep (Option KA×τ)
def dn(a b o:KA)(i j:Nat):=o++a.extract i++b.extract j
def pl2(a b o:KA)(i j g k m:Nat):SM (FS (KA×Nat×Nat×Nat×Nat×Nat)):=do
 let o:=o.push (<-elem' a i)
 if i+1+1==a.size then return .done (⇑(dn b a o j (i+1)),o,i+1,j,g,k,m)
 if k<7&&m<7 then return .done (none,o,i+1,j,g,k,m)
 return .yield (none,o,i+1,j,g,k,m)
def pl1(a b o:KA)(i j g k n:Nat):SM (FS (KA×Nat×Nat×Nat×Nat×Nat)):=do
 let o:=o.push (<-elem' b j)
 if j+1==b.size then return .done (⇑(dn a b o i (j+1)),o,i,j+1,g,k,n)
 let some m<-JB true (<-elem' a i) b (j+1) (b.size-(j+1)) 0|return .done (⇑(dn a b o i (j+1)),o,i,j+1,g,k,n)
 if m>0 then
  if j+1+m==b.size then return .done (⇑(dn a b (o++b.extract (j+1) (j+1+m)) i (j+1+m)),o++b.extract (j+1) (j+1+m),i,j+1+m,g,k,m)
  else pl2 a b (o++b.extract (j+1) (j+1+m)) i (j+1+m) g k m
 else pl2 a b o i (j+1) g k m
def pl0(a b o:KA)(i j g m n:Nat):SM (FS (KA×Nat×Nat×Nat×Nat×Nat)):=do
 JC g
 let some k<-JB false (<-elem' b j) a i (a.size-i) 0|return .done (⇑(dn a b o i j),o,i,j,g,m,n)
 if k>0 then
  if i+k+1==a.size then return .done (⇑(dn b a (o++a.extract i (i+k)) j (i+k)),o++a.extract i (i+k),i+k,j,g,k,n)
  else if i+k==a.size then return .done (⇑(dn a b (o++a.extract i (i+k)) (i+k) j),o++a.extract i (i+k),i+k,j,g,k,n)
  else pl1 a b (o++a.extract i (i+k)) (i+k) j g k n
 else pl1 a b o i j g k n
def plB(a b o:KA)(g i j m n:Nat):SM (FS (KA×Nat×Nat×Nat×Nat)):=do
 let some w<-lt' (<-elem' b j) (<-elem' a i)|return .done (⇑(dn a b o i j),o,i,j,m,n)
 if w then
  let o:=o.push (<-elem' b j)
  if j+1==b.size then return .done (⇑(dn a b o i (j+1)),o,i,j+1,0,n+1)
  if n+1≥g then return .done (none,o,i,j+1,0,n+1)
  return .yield (none,o,i,j+1,0,n+1)
 else
  let o:=o.push (<-elem' a i)
  if i+1+1==a.size then return .done (⇑(dn b a o j (i+1)),o,i+1,j,m+1,0)
  if m+1≥g then return .done (none,o,i+1,j,m+1,0)
  return .yield (none,o,i+1,j,m+1,0)
def plA(a b o:KA)(i j g:Nat):SM (FS (KA×Nat×Nat×Nat)):=do
 let(r,o,i,j,m,n)<-forIn [:a.size+b.size] (none,o,i,j,0,0) λ_ (_,o,i,j,m,n)=>plB a b o g i j m n
 match r with
 |some r=>return .done (⇑r,o,i,j,g)
 |none=>
  rule "list.sort.gallop"
  let(r,o,i,j,g,_)<-forIn [:a.size+b.size] (none,o,i,j,g+1,m,n) λ_ (_,o,i,j,g,m,n)=>if g>1 then pl0 a b o i j (g-1) m n else pl0 a b o i j g m n
  match r with
  |some r=>return .done (⇑r,o,i,j,g)
  |none=>
   JC (g+1)
   return .yield (none,o,i,j,g+1)
def pl(a b:KA):SM KA:=do
 rule "list.sort.merge-lo"
 let x<-elem' b 0
 if 1==b.size then return dn a b #[x] 0 1
 if 0+1==a.size then return dn b a #[x] 1 0
 let(r,_)<-forIn [:a.size+b.size] (none,#[x],0,1,gallopOf (<-get)) λ_ (_,o,i,j,g)=>plA a b o i j g
 match r with
 |some r=>return r
 |none=>unsupported "internal:list.sort.merge-bound"
theorem pl_eq:Fu=pl:=by kernel_rfl
def dh(a b o:KA)(i j:Nat):=a.extract 0 i++b.extract 0 j++o.reverse
def ph2(a b o:KA)(i j g k m:Nat):SM (FS (Nat×Nat×KA×Nat×Nat×Nat)):=do
 let o:=o.push (<-elem' a (i-1))
 if i-1==0 then return .done (⇑(dh a b o (i-1) j),i-1,j,o,g,k,m)
 if k<7&&m<7 then return .done (none,i-1,j,o,g,k,m)
 return .yield (none,i-1,j,o,g,k,m)
def ph1(a b o:KA)(i j g k n:Nat):SM (FS (Nat×Nat×KA×Nat×Nat×Nat)):=do
 let o:=o.push (<-elem' b (j-1))
 if j-1==1 then return .done (⇑(dh b a o (j-1) i),i,j-1,o,g,k,n)
 let some m<-JB true (<-elem' a (i-1)) b 0 (j-1) (j-1-1)|return .done (⇑(dh a b o i (j-1)),i,j-1,o,g,k,n)
 if j-1-m>0 then
  if m==1 then return .done (⇑(dh b a (o++(b.extract m (j-1)).reverse) m i),i,m,o++(b.extract m (j-1)).reverse,g,k,j-1-m)
  else if m==0 then return .done (⇑(dh a b (o++(b.extract m (j-1)).reverse) i m),i,m,o++(b.extract m (j-1)).reverse,g,k,j-1-m)
  else ph2 a b (o++(b.extract m (j-1)).reverse) i m g k (j-1-m)
 else ph2 a b o i (j-1) g k (j-1-m)
def ph0(a b o:KA)(i j g m n:Nat):SM (FS (Nat×Nat×KA×Nat×Nat×Nat)):=do
 JC g
 let some k<-JB false (<-elem' b (j-1)) a 0 i (i-1)|return .done (⇑(dh a b o i j),i,j,o,g,m,n)
 if i-k>0 then
  if k==0 then return .done (⇑(dh a b (o++(a.extract k i).reverse) k j),k,j,o++(a.extract k i).reverse,g,i-k,n)
  else ph1 a b (o++(a.extract k i).reverse) k j g (i-k) n
 else ph1 a b o i j g (i-k) n
def phB(a b o:KA)(g i j m n:Nat):SM (FS (Nat×Nat×KA×Nat×Nat)):=do
 let some w<-lt' (<-elem' b (j-1)) (<-elem' a (i-1))|return .done (⇑(dh a b o i j),i,j,o,m,n)
 if w then
  let o:=o.push (<-elem' a (i-1))
  if i-1==0 then return .done (⇑(dh a b o (i-1) j),i-1,j,o,m+1,0)
  if m+1≥g then return .done (none,i-1,j,o,m+1,0)
  return .yield (none,i-1,j,o,m+1,0)
 else
  let o:=o.push (<-elem' b (j-1))
  if j-1==1 then return .done (⇑(dh b a o (j-1) i),i,j-1,o,0,n+1)
  if n+1≥g then return .done (none,i,j-1,o,0,n+1)
  return .yield (none,i,j-1,o,0,n+1)
def phA(a b o:KA)(i j g:Nat):SM (FS (Nat×Nat×KA×Nat)):=do
 let(r,i,j,o,m,n)<-forIn [:a.size+b.size] (none,i,j,o,0,0) λ_ (_,i,j,o,m,n)=>phB a b o g i j m n
 match r with
 |some r=>return .done (⇑r,i,j,o,g)
 |none=>
  rule "list.sort.gallop"
  let(r,i,j,o,g,_)<-forIn [:a.size+b.size] (none,i,j,o,g+1,m,n) λ_ (_,i,j,o,g,m,n)=>if g>1 then ph0 a b o i j (g-1) m n else ph0 a b o i j g m n
  match r with
  |some r=>return .done (⇑r,i,j,o,g)
  |none=>
   JC (g+1)
   return .yield (none,i,j,o,g+1)
def ph(a b:KA):SM KA:=do
 rule "list.sort.merge-hi"
 let x<-elem' a (a.size-1)
 if a.size-1==0 then return dh a b #[x] (a.size-1) b.size
 if b.size==1 then return dh b a #[x] b.size (a.size-1)
 let(r,_)<-forIn [:a.size+b.size] (none,a.size-1,b.size,#[x],gallopOf (<-get)) λ_ (_,i,j,o,g)=>phA a b o i j g
 match r with
 |some r=>return r
 |none=>unsupported "internal:list.sort.merge-bound"
theorem ph_eq:Fv=ph:=by kernel_rfl
instance r8{a b:Array ι}{o:Cc cmp->KA}[Rp o]{i j:Nat}:Rp λc=>dn (a.map c.it) (b.map c.it) (o c) i j:=by
 unfold dn
 infer_instance
def Y{τ β:Type}(T:KA->Nat->Nat->τ->β)(d:Dt ι z)(B C:Nat->Nat->Prop)(r:Cc cmp->FS β)(d':Dt ι z):Prop:=(∃e,(r=λc=>.done (e c))/\Z T d B e d')\/∃e,(r=λc=>.yield (e c))/\J T d C e d'
local macro_rules|`(tactic|trivial)=>`(tactic|first
 |with_reducible refine D.ite (λ_=>sz) (λ_=>?_) λ_=>?_
 |with_reducible refine D.ite (λ_=>KB) (λ_=>?_) λ_=>?_
 |with_reducible refine D.ite (λ_=>JD) (λ_=>?_) λ_=>?_
 |with_reducible refine D.ite (λ_=>Iff.rfl) (λ_=>?_) λ_=>?_
 |refine D.eB ⋯ λ_=>?_
 |(refine D.lB λw=>?_;cases w)
 |refine D.gB (λ_=>by first|rfl|rw[Array.size_map]) ⋯ ⋯ λ_ _=>?_
 |refine D.mB ?_
 |exact D.pure (.inl ⟨_,rfl,.inl ⟨_,_,_,rfl,rfl,inferInstance⟩⟩)
 |exact D.pure (.inl ⟨_,rfl,.inr ⟨_,_,_,_,_,rfl,rfl,inferInstance,⋯⟩⟩)
 |exact D.pure (.inr ⟨_,rfl,_,_,_,_,_,rfl,rfl,inferInstance,⋯⟩))
section
variable{a b:Array ι}{o:Cc cmp->KA}{i j g k m q v:Nat}(ro:Rp o)
abbrev Bl(a b:Array ι)(q s t:Nat):=s+1<a.size/\t<b.size/\q<=s+t
include ro
theorem D.lo2(h:Bl a b q i j):D (λc=>pl2 (a.map c.it) (b.map c.it) (o c) i j g k m) (d.w v) (Y tl d (Bl a b q) (Bl a b q)):=by
 unfold pl2
 repeat' trivial
theorem D.lo1(h:Bl a b q i j):D (λc=>pl1 (a.map c.it) (b.map c.it) (o c) i j g k m) (d.w v) (Y tl d (Bl a b q) (Bl a b q)):=by
 unfold pl1
 repeat' first|refine D.lo2 inferInstance ⋯|trivial
theorem D.lo0(h:Bl a b q i j):D (λc=>pl0 (a.map c.it) (b.map c.it) (o c) i j g k m) (d.w v) (Y tl d (Bl a b q) (Bl a b q)):=by
 unfold pl0
 repeat' first|refine D.lo1 inferInstance ⋯|trivial
theorem D.loB(h:Bl a b (q+k) i j):D (λc=>plB (a.map c.it) (b.map c.it) (o c) g i j m n) (d.w v) (Y tl d (Bl a b (q+1)) (Bl a b (q+(k+1)))):=by
 unfold plB
 repeat' trivial
theorem D.loA(h:Bl a b (k+1) i j):D (λc=>plA (a.map c.it) (b.map c.it) (o c) i j g) (d.w v) (Y tl d (λ_ _=>False) (Bl a b (k+1+1))):=by
 refine D.bind ((D.for (b:=a.size+b.size) (I:=λy=>J tl d (Bl a b (i+j+y))) (Z:=Z tl d (Bl a b (i+j+1))) ?_ ?_ (e:=λc=>(none,o c,i,j,0,0)) ⟨_,i,j,(0,0),_,rfl,rfl,ro,⋯⟩).mono ?_)
 ·rintro y e d'-hy ⟨o,u,v,⟨m,n⟩,_,rfl,rfl,ro,g1⟩
  exact D.loB ro g1
 ·rintro e d' ⟨_,_,_,_,_,_,_,_,_⟩
  omega
 ·rintro e d' (⟨r,t,_,rfl,rfl,rr⟩|⟨o,u,v,⟨m,n⟩,_,rfl,rfl,ro,g1⟩)
  ·exact D.pure (.inl ⟨_,rfl,.inl ⟨_,_,_,rfl,rfl,rr⟩⟩)
  refine D.bind (D.rule (D.bind ((D.for (b:=a.size+b.size) (I:=λ_=>J tl d (Bl a b (u+v))) (Z:=Z tl d (Bl a b (u+v))) ?_ (λ_ _=>.inr) (e:=λc=>(none,o c,u,v,g+1,m,n)) ⟨_,u,v,(_,m,n),_,rfl,rfl,ro,⋯⟩).mono ?_)))
  ·rintro y e d'-hy ⟨o,s,t,⟨g,m,n⟩,_,rfl,rfl,ro,g2⟩
   exact D.ite (p0:=g>1) (λ_=>Iff.rfl) (λ_=>D.lo0 ro g2) λ_=>D.lo0 ro g2
  ·rintro e d' (⟨r,t,_,rfl,rfl,rr⟩|⟨o,s,t,⟨g,m,n⟩,_,rfl,rfl,ro,g2⟩)
   ·exact D.pure (.inl ⟨_,rfl,.inl ⟨_,_,_,rfl,rfl,rr⟩⟩)
   refine D.mB (D.pure (.inr ⟨_,rfl,_,_,_,_,_,rfl,rfl,ro,⋯⟩))
end
theorem D.mergeLo{a b:Array ι}{P:(Cc cmp->KA)->Dt ι z->Prop}(na:1<=a.size)(nb:1<=b.size)(h:∀r g,Rp r->P r (d.w g)):D (λc=>Fu (a.map c.it) (b.map c.it)) d P:=by
 rw[pl_eq]
 refine D.bind (D.rule (D.eB nb λk=>D.ite (λ_=>sz) (λ_=>D.pure (h _ d.g inferInstance)) λe1=>D.ite (λ_=>sz) (λ_=>D.pure (h _ d.g inferInstance)) λe2=>D.bind (D.get ?_)))
 refine D.bind ((D.for (b:=a.size+b.size) (I:=λx=>J tl d (Bl a b (x+1))) (Z:=Z tl d λ_ _=>False) ?_ ?_ (e:=λc=>(none,#[c.it k],0,1,d.g)) ⟨_,0,1,_,d.g,rfl,rfl,inferInstance,⋯⟩).mono ?_)
 ·rintro x e d'-hx ⟨o,i,j,g,g',rfl,rfl,ro,h1⟩
  exact D.loA ro h1
 ·rintro e d' ⟨_,_,_,_,_,_,_,_,_⟩
  omega
 ·rintro e d' (⟨r,t,g',rfl,rfl,rr⟩|⟨_,_,_,_,_,_,_,_,z⟩)
  ·exact D.pure (h _ _ rr)
  ·exact z.elim
instance r9{a b:Array ι}{o:Cc cmp->KA}[Rp o]{i j:Nat}:Rp λc=>dh (a.map c.it) (b.map c.it) (o c) i j:=by
 unfold dh
 infer_instance
section
variable{a b:Array ι}{o:Cc cmp->KA}{i j g k m n q v:Nat}(ro:Rp o)
abbrev Bh(a b:Array ι)(q s t:Nat):=1<=s/\2<=t/\s<=a.size/\t<=b.size/\q+s+t<=a.size+b.size
include ro
theorem D.hi2(h:Bh a b q i j):D (λc=>ph2 (a.map c.it) (b.map c.it) (o c) i j g k m) (d.w v) (Y th d (Bh a b q) (Bh a b q)):=by
 unfold ph2
 repeat' trivial
theorem D.hi1(h:Bh a b q i j):D (λc=>ph1 (a.map c.it) (b.map c.it) (o c) i j g k m) (d.w v) (Y th d (Bh a b q) (Bh a b q)):=by
 unfold ph1
 repeat' first|refine D.hi2 inferInstance ⋯|trivial
theorem D.hi0(h:Bh a b q i j):D (λc=>ph0 (a.map c.it) (b.map c.it) (o c) i j g k m) (d.w v) (Y th d (Bh a b q) (Bh a b q)):=by
 unfold ph0
 repeat' first|refine D.hi1 inferInstance ⋯|trivial
theorem D.hiB(h:Bh a b (q+k) i j):D (λc=>phB (a.map c.it) (b.map c.it) (o c) g i j m n) (d.w v) (Y th d (Bh a b (q+1)) (Bh a b (q+(k+1)))):=by
 unfold phB
 repeat' trivial
theorem D.hiA(h:Bh a b (k+1) i j):D (λc=>phA (a.map c.it) (b.map c.it) (o c) i j g) (d.w v) (Y th d (λ_ _=>False) (Bh a b (k+1+1))):=by
 refine D.bind ((D.for (b:=a.size+b.size) (I:=λy=>J th d (Bh a b (k+1+y))) (Z:=Z th d (Bh a b (k+1+1))) ?_ ?_ (e:=λc=>(none,i,j,o c,0,0)) ⟨_,i,j,(0,0),_,rfl,rfl,ro,h⟩).mono ?_)
 ·rintro y e d'-hy ⟨o,u,v,⟨m,n⟩,_,rfl,rfl,ro,g1⟩
  exact D.hiB ro g1
 ·rintro e d' ⟨_,_,_,_,_,_,_,_,_⟩
  omega
 ·rintro e d' (⟨r,t,_,rfl,rfl,rr⟩|⟨o,u,v,⟨m,n⟩,_,rfl,rfl,ro,g1⟩)
  ·exact D.pure (.inl ⟨_,rfl,.inl ⟨_,_,_,rfl,rfl,rr⟩⟩)
  refine D.bind (D.rule (D.bind ((D.for (b:=a.size+b.size) (I:=λ_=>J th d (Bh a b (k+1+1))) (Z:=Z th d (Bh a b (k+1+1))) ?_ (λ_ _=>.inr) (e:=λc=>(none,u,v,o c,g+1,m,n)) ⟨_,u,v,(_,m,n),_,rfl,rfl,ro,g1⟩).mono ?_)))
  ·rintro y e d'-hy ⟨o,s,t,⟨g,m,n⟩,_,rfl,rfl,ro,g2⟩
   exact D.ite (p0:=g>1) (λ_=>Iff.rfl) (λ_=>D.hi0 ro g2) λ_=>D.hi0 ro g2
  ·rintro e d' (⟨r,t,_,rfl,rfl,rr⟩|⟨o,s,t,⟨g,m,n⟩,_,rfl,rfl,ro,g2⟩)
   ·exact D.pure (.inl ⟨_,rfl,.inl ⟨_,_,_,rfl,rfl,rr⟩⟩)
   exact D.mB (D.pure (.inr ⟨_,rfl,_,_,_,_,_,rfl,rfl,ro,g2⟩))
end
theorem D.mergeHi{a b:Array ι}{P:(Cc cmp->KA)->Dt ι z->Prop}(na:1<=a.size)(nb:1<=b.size)(h:∀r g,Rp r->P r (d.w g)):D (λc=>Fv (a.map c.it) (b.map c.it)) d P:=by
 rw[ph_eq]
 unfold ph
 simp only[Array.size_map]
 refine D.bind (D.rule (D.eB ⋯ λk=>D.ite (λ_=>KB) (λ_=>D.pure (h _ d.g inferInstance)) λe1=>D.ite (λ_=>KB) (λ_=>D.pure (h _ d.g inferInstance)) λe2=>D.bind (D.get ?_)))
 refine D.bind ((D.for (I:=λx=>J th d (Bh a b (x+1))) (Z:=Z th d λ_ _=>False) ?_ ?_ (e:=λc=>(none,a.size-1,b.size,#[c.it k],d.g)) ⟨_,_,_,_,d.g,rfl,rfl,inferInstance,⋯⟩).mono ?_)
 ·rintro x e d'-hx ⟨o,i,j,g,g',rfl,rfl,ro,h1⟩
  exact D.hiA ro h1
 ·rintro e d' ⟨_,_,_,_,_,_,_,_,_⟩
  omega
 ·rintro e d' (⟨r,t,g',rfl,rfl,rr⟩|⟨_,_,_,_,_,_,_,_,z⟩)
  ·exact D.pure (h _ _ rr)
  ·exact z.elim
end
theorem put(k:Nat):∀(l:List ι) (n:Nat) (p:Array ι),∃p':Array ι,p'.size=p.size/\∀c:Cc cmp,((l.map c.it).zipIdx n).foldl (λa x=>a.setIfInBounds (k+x.2) x.1) (p.map c.it)=p'.map c.it
 |[],_,p=>⟨p,rfl,λ_=>rfl⟩
 |x::l,n,p=>let⟨p',e,h⟩:=put k l (n+1) (p.setIfInBounds (k+n) x);⟨p',by simpa using e,λc=>by simpa using h c⟩
theorem Fw(c:ι->Keyed)(p:Array ι)(i j:Nat):(p.map c).swapIfInBounds i j=(p.swapIfInBounds i j).map c:=by
 by_cases h:i<p.size<;>by_cases k:j<p.size<;>simp[Array.swapIfInBounds,h,k]
 apply Array.ext<;>simp[Array.getElem_swap,apply_ite c]
theorem Fx(f g:Nat->Nat):∀(l:List Nat) (p:Array ι),∃p':Array ι,p'.size=p.size/\∀c:Cc cmp,l.foldl (λa k=>a.swapIfInBounds (f k) (g k)) (p.map c.it)=p'.map c.it
 |[],p=>⟨p,rfl,λ_=>rfl⟩
 |x::l,p=>let⟨p',e,h⟩:=Fx f g l (p.swapIfInBounds (f x) (g x));⟨p',by simpa using e,λc=>by rw[Z2,Fw];exact h c⟩
section
variable{d:Dt ι z}{P:(Cc cmp->Unit)->Dt ι z->Prop}{j:Nat}
theorem D.arr{f:Cc cmp->KA->KA}{P:(Cc cmp->PUnit)->Dt ι z->Prop}(e:∃p:Array ι,p.size=d.p.toArray.size/\∀c,f c (d.p.toArray.map c.it)=p.map c.it)(h:∀p,P (λ_=>⟨⟩) ⟨p,d.q,d.g⟩):D (λc=>(modify λs=>SortSt.mk' (kindOf s) (f c (arrOf s)) (pendingOf s) (gallopOf s) (failedOf s):SM PUnit)) d P:=
 let⟨p,e,k⟩:=e;D.mod ⟨⟨p,e.trans d.p.2⟩,d.q,d.g⟩ (λc=>congrArg (λa=>SortSt.mk' c.kd a d.q d.g none) (k c)) (h _)
theorem D.rev(h:∀p,P (λ_=>()) ⟨p,d.q,d.g⟩):D (λ_=>reverseSlice' i j) d P:=D.arr (f:=λ_ a=>(List.range ((j-i)/2)).foldl (λa k=>a.swapIfInBounds (i+k) (j-1-k)) a) (Fx (λk=>i+k) (λk=>j-1-k) _ _) h
theorem D.move(h:∀p,P (λ_=>()) ⟨p,d.q,d.g⟩):D (λ_=>moveDown' i j) d P:=D.arr (f:=λ_ a=>(List.range (i-j)).foldl (λa k=>a.swapIfInBounds (i-k) (i-k-1)) a) (Fx (λk=>i-k) (λk=>i-k-1) _ _) h
theorem D.mergeAt{sa na pw sb nb U9:Nat}{P:(Cc cmp->Bool)->Dt ι z->Prop}(h1:d.q[i]?=⇑(sa,na,pw))(h2:d.q[i+1]?=⇑(sb,nb,U9))(h3:1<=na)(h4:1<=nb)(h5:sa+na<=sb)(h6:sb+nb<=z)
  (h:∀p g,P (λ_=>true) ⟨p,(d.q.setIfInBounds i (sa,na+nb,pw)).eraseIdxIfInBounds (i+1),g⟩):D (λ_=>mergeAt' i) d P:=by
 have hz:=d.p.2
 refine D.bind (D.get ?_)
 dsimp only[sd]
 simp only[h1,h2]
 refine D.bind (D.set ⟨d.p,(d.q.setIfInBounds i (sa,na+nb,pw)).eraseIdxIfInBounds (i+1),d.g⟩ (λ_=>rfl) (D.bind (D.elem ⋯ λ_=>D.bind (D.gallop ⋯ ⋯ λk _=>?_))))
 refine D.ite (λ_=>KB) (λ_=>D.pure (h _ _)) λ_=>D.bind (D.elem ⋯ λ_=>D.bind (D.gallop ⋯ ⋯ λm _=>?_))
 have ex:∀(c:Cc cmp) i j,(d.p.toArray.map c.it).extract i j=(d.p.toArray.extract i j).map c.it:=by simp
 simp only[ex]
 refine D.ite (λ_=>KB) (λ_=>D.pure (h _ _)) λ_=>D.ite (λ_=>Iff.rfl) (λ_=>D.bind (D.mergeLo ?_ ?_ λr g R=>?_)) (λ_=>D.bind (D.mergeHi ?_ ?_ λr g R=>?_))
 all_goals first
  |(rw[Array.size_extract];omega)
  |(obtain⟨p,rfl⟩:=R.h
    refine D.bind (D.arr (f:=λc a=>(p.map c.it).toList.zipIdx.foldl (λa x=>a.setIfInBounds (sa+k+x.2) x.1) a) ?_ λp=>?_)
    ·simp only[Array.toList_map]
     exact put (sa+k) p.toList 0 _
    ·exact D.bind (D.get (by dsimp only;exact D.pure (h p _))))
end
section
variable{d:Dt ι z}
def Dt.o(d:Dt ι z)(p:Vector ι z):Dt ι z:=⟨p,d.q,d.g⟩
local macro_rules|`(tactic|trivial)=>`(tactic|first
 |with_reducible refine D.ite (λ_=>KB) (λ_=>?_) λ_=>?_
 |with_reducible refine D.ite (λ_=>Iff.rfl) (λ_=>?_) λ_=>?_
 |(refine D.bind (D.ltAt ⋯ ⋯ λw=>?_);cases w)
 |refine D.bind (D.rev λp=>?_)
 |exact D.pure (.inl ⟨_,rfl,_,_,rfl,rfl,⋯⟩)
 |exact D.pure (.inr ⟨_,rfl,_,_,rfl,rfl,⋯⟩)
 |exact D.pure (.inl ⟨_,rfl,_,_,_,rfl,rfl,⋯⟩)
 |exact D.pure (.inr ⟨_,rfl,_,_,_,rfl,rfl,⋯⟩))
theorem D.countRun{lo:Nat}{P:(Cc cmp->Option Nat)->Dt ι z->Prop}(h1:1<=n)(hn:lo+n<=z)(h:∀m p,1<=m->m<=n->P (λ_=>⇑m) (d.o p)):D (λ_=>countRun' lo n) d P:=by
 rw[countRun'_eq]
 refine D.bind ((D.for (b:=n) (I:=λx e d'=>∃m p,(e=λ_=>(none,m))/\d'=d.o p/\m=x/\x<=n) (Z:=λe d'=>∃m p,(e=λ_=>(none,m))/\d'=d.o p/\1<=m/\m<=n) ?_ (λe d' ⟨m,p,a,b,c⟩=>⟨m,p,a,b,⋯⟩)
  (e:=λ_=>(none,1)) ⟨1,d.p,rfl,rfl,rfl,h1⟩).mono ?_)
 ·rintro x e d' _ _ ⟨m,p,rfl,rfl,h2⟩
  dsimp only
  repeat' trivial
 ·rintro e d' ⟨m,p,rfl,rfl,h2⟩
  dsimp only
  refine D.ite (λ_=>KB) (λ_=>D.pure (h m p h2.1 h2.2)) λe=>D.ite (λ_=>Iff.rfl) (λ_=>D.bind (D.ltAt ⋯ ⋯ λw=>?_)) λ_=>?_
  cases w
  rotate_left
  exact D.pure (h m p h2.1 h2.2)
  rotate_left
  refine D.bind (D.rev λp=>?_)
  all_goals
   refine D.bind (D.rule (D.bind ((D.for (b:=n) (I:=λx e d'=>∃m p t,(e=λ_=>(none,m,t))/\d'=d.o p/\m=x/\x<=n) (Z:=λe d'=>∃m p t,(e=λ_=>(none,m,t))/\d'=d.o p/\1<=m/\m<=n) ?_ (λe d' ⟨m,p,t,a,b,c⟩=>⟨m,p,t,a,b,⋯⟩)
    (e:=λ_=>(none,m+1,0)) ⟨_,p,0,rfl,rfl,rfl,⋯⟩).mono ?_)))
   ·rintro x e d' _ _ ⟨m,p,t,rfl,rfl,h2⟩
    dsimp only
    repeat' trivial
   ·rintro e d' ⟨m,p,t,rfl,rfl,h2⟩
    dsimp only
    refine D.ite (λ_=>Iff.rfl) (λ_=>D.bind (D.rev λp=>?_)) λ_=>?_
    all_goals
     refine D.bind (D.rev λp=>D.bind ((D.for (b:=n) (I:=λx e d'=>∃m p,(e=λ_=>(none,m))/\d'=d.o p/\m=x/\x<=n) (Z:=λe d'=>∃m p,(e=λ_=>(none,m))/\d'=d.o p/\1<=m/\m<=n) ?_ (λe d' ⟨m,p,a,b,c⟩=>⟨m,p,a,b,⋯⟩)
      (e:=λ_=>(none,m)) ⟨m,p,rfl,rfl,rfl,h2.2⟩).mono ?_))
     ·rintro x e d' _ _ ⟨m,p,rfl,rfl,h2⟩
      dsimp only
      repeat' trivial
     ·rintro e d' ⟨m,p,rfl,rfl,h2⟩
      exact D.pure (h m p h2.1 h2.2)
theorem D.binary{lo k:Nat}{P:(Cc cmp->Bool)->Dt ι z->Prop}(hn:lo+n<=z)(h:∀p,P (λ_=>true) (d.o p)):D (λ_=>binarySort' lo n k) d P:=by
 refine D.bind ((D.for (I:=λ_ e d'=>∃p,(e=λ_=>(none,()))/\d'=d.o p) (Z:=λe d'=>∃p,(e=λ_=>(none,()))/\d'=d.o p) ?_ (λ_ _ h=>h) (e:=λ_=>(none,())) ⟨d.p,rfl,rfl⟩).mono ?_)
 ·rintro x e d' _ _ ⟨p,rfl,rfl⟩
  refine D.bind (D.two (λk=>k<=x) (λy l o hk=>?_) (ZK _) λl o hk=>D.bind (D.move λp=>D.pure (.inr ⟨_,rfl,p,rfl,rfl⟩)))
  dsimp only
  refine D.ite (λ_=>Iff.rfl) (λ_=>D.pure ⟨rfl,_,_,hk,.inl rfl⟩) λ_=>D.bind (D.ltAt ⋯ ⋯ λb=>?_)
  cases b
  ·exact D.pure ⟨rfl,_,_,hk,.inr rfl⟩
  ·exact D.pure ⟨rfl,_,_,⋯,.inr rfl⟩
 ·rintro e d' ⟨p,rfl,rfl⟩
  exact D.pure (h p)
end
abbrev Tr:=Nat×Nat×Nat
def W(q:Array Tr)(e:Nat):Prop:=(∀(i j:Nat) (x y:Tr),i<j->q[i]?=⇑x->q[j]?=⇑y->x.1+x.2.1<=y.1)/\∀(i:Nat) (x:Tr),q[i]?=⇑x->1<=x.2.1/\x.1+x.2.1<=e
section
variable{q:Array Tr}{e:Nat}{d:Dt ι z}
theorem W.le(w:W q e)(h:e<=z):W q z:=⟨w.1,λi x k=>⟨(w.2 i x k).1,Zd (w.2 i x k).2 h⟩⟩
theorem W.mod(w:W q e)(k:Nat)(f:Tr->Tr)(hf:∀r,(f r).1=r.1/\(f r).2.1=r.2.1):W (q.modify k f) e:=by
 have g:∀(i:Nat) (x:Tr),(q.modify k f)[i]?=⇑x->∃y,q[i]?=⇑y/\x.1=y.1/\x.2.1=y.2.1:=λi x h=>by
  rw[Array.getElem?_modify]at h
  split at h
  ·obtain⟨y,a,rfl⟩:=ZC.mp h
   exact⟨y,a,hf y⟩
  ·exact⟨x,h,rfl,rfl⟩
 refine⟨λi j x y a b c=>?_,λi x a=>?_⟩
 ·obtain⟨u,u1,u2,u3⟩:=g i x b
  obtain⟨v,v1,v2,_⟩:=g j y c
  rw[u2,u3,v2]
  exact w.1 i j u v a u1 v1
 ·obtain⟨u,u1,u2,u3⟩:=g i x a
  rw[u2,u3]
  exact w.2 i u u1
theorem W.push(w:W q e)(h:1<=n):W (q.push (e,n,0)) (e+n):=by
 refine⟨λi j x y a b c=>?_,λi x a=>?_⟩
 ·rw[Array.getElem?_push]at b c
  split at b<;>split at c
  ·omega
  ·have:=(Yr.mp c).1
   omega
  ·cases c
   exact(w.2 i x b).2
  ·exact w.1 i j x y a b c
 ·rw[Array.getElem?_push]at a
  split at a
  ·cases a
   exact⟨h,ZK _⟩
  ·have:=w.2 i x a
   omega
theorem D.join{P:(Cc cmp->Bool)->Dt ι z->Prop}{f:Cc cmp->Nat}(w:W d.q e)(he:e<=z)(hi:∀c,f c+1<d.q.size)(hc:∀c c',f c=f c')(h:∀d':Dt ι z,W d'.q e->P (λ_=>true) d'):D (λc=>mergeAt' (f c)) d P:=by
 by_cases hn:Nonempty (Cc cmp)
 rotate_left
 ·exact⟨_,_,h d w,λc=>(hn ⟨c⟩).elim⟩
 obtain⟨c⟩:=hn
 have hi:=hi c
 rw[show f=λ_=>f c from funext λ_=>hc _ _]
 generalize f c=i at hi⊢
 obtain⟨⟨sa,na,pw⟩,e1⟩:∃x,d.q[i]?=⇑x:=⟨_,getElem?_pos _ i ⋯⟩
 obtain⟨⟨sb,nb,U9⟩,e2⟩:∃x,d.q[i+1]?=⇑x:=⟨_,getElem?_pos _ (i+1) hi⟩
 have w1:=w.2 _ _ e1
 have w2:=w.2 _ _ e2
 have w3:=w.1 _ _ _ _ (Yo i) e1 e2
 dsimp only at w1 w2 w3
 refine D.mergeAt e1 e2 w1.1 w2.1 w3 ⋯ λp g=>h _ ?_
 have key:∀j,((d.q.setIfInBounds i (sa,na+nb,pw)).eraseIdxIfInBounds (i+1))[j]?=if j<i then d.q[j]? else if j=i then ⇑(sa,na+nb,pw)else d.q[j+1]?:=λj=>by
  rw[<-Z3,Array.toList_eraseIdxIfInBounds,z0T,List.getElem?_eraseIdx,ZO,ZO,Z3,Z3,ZQ]
  split
  ·split
   ·rw[W1 ⋯,UF ⋯,W1 ⋯]
   ·split
    ·rfl
    ·omega
  ·rw[UF ⋯,UF ⋯,UF ⋯]
 show W ((d.q.setIfInBounds i (sa,na+nb,pw)).eraseIdxIfInBounds (i+1)) e
 refine⟨λa b x y ab hx hy=>?_,λa x hx=>?_⟩
 ·rw[key]at hx hy
  split at hx<;>split at hy
  ·exact w.1 a b x y ab hx hy
  ·split at hy
   ·cases hy
    exact w.1 a i x (sa,na,pw) ⋯ hx e1
   ·exact w.1 a (b+1) x y ⋯ hx hy
  ·omega
  ·split at hy
   ·omega
   ·split at hx
    ·cases hx
     have:=w.1 (i+1) (b+1) _ y ⋯ e2 hy
     dsimp only at this⊢
     omega
    ·exact w.1 (a+1) (b+1) x y ⋯ hx hy
 ·rw[key]at hx
  split at hx
  ·exact w.2 a x hx
  ·split at hx
   ·cases hx
    dsimp only
    omega
   ·exact w.2 (a+1) x hx
theorem D.later{a:Tr}{P:(Cc cmp->PUnit)->Dt ι z->Prop}(h:P (λ_=>⟨⟩) ⟨d.p,d.q.push a,d.g⟩):D (λ_=>(modify λs=>setPending s ((pendingOf s).push a):SM PUnit)) d P:=D.mod ⟨d.p,d.q.push a,d.g⟩ (λ_=>rfl) h
theorem D.power{f:Tr->Tr}{P:(Cc cmp->PUnit)->Dt ι z->Prop}(h:P (λ_=>⟨⟩) ⟨d.p,d.q.modify (d.q.size-1) f,d.g⟩):D (λ_=>(modify λs=>setPending s ((pendingOf s).modify ((pendingOf s).size-1) f):SM PUnit)) d P:=D.mod ⟨d.p,d.q.modify (d.q.size-1) f,d.g⟩ (λ_=>rfl) h
theorem D.sortRuns{P:(Cc cmp->Unit)->Dt ι z->Prop}(hq:d.q=#[])(h:∀d',P (λ_=>()) d'):D (λ_=>sortRuns') d P:=by
 rw[sortRuns'_eq]
 refine D.bind (D.get ?_)
 dsimp only[sd,arrOf]
 simp only[Array.size_map,Vector.size_toArray]
 refine D.bind ((D.for (I:=λx e d'=>∃lo,(e=λ_=>(none,lo))/\W d'.q lo/\lo<=z) (Z:=λe d'=>∃lo,(e=λ_=>(none,lo))/\W d'.q z) ?_ (λe d' ⟨lo,a,b,c⟩=>⟨lo,a,b.le c⟩) (e:=λ_=>(none,0)) ⟨0,rfl,by rw[hq];simp[W],Zm _⟩).mono ?_)
 ·rintro x e d'- -⟨lo,rfl,w,Va⟩
  dsimp only
  refine D.ite (λ_=>Iff.rfl) (λ_=>D.pure (.inl ⟨_,rfl,_,rfl,w.le Va⟩)) λ_=>D.bind (D.countRun ⋯ ⋯ λm p _ _=>D.ite (λ_=>Iff.rfl) (λ_=>D.bind (D.rule (D.bind (D.binary ⋯ λp=>D.ite (λ_=>Iff.rfl) (λz=>absurd z ∅) λ_=>?_)))) λ_=>?_)
  have m3:lo+min (z-lo) (minRun' z z 0)<=z/\1<=min (z-lo) (minRun' z z 0):=by omega
  rotate_left
  have m3:lo+m<=z/\1<=m:=by omega
  all_goals
   refine D.bind (D.get ?_)
   dsimp only[sd,Dt.o,pendingOf]
   cases d'.q.back? with
   |none=>
    refine D.bind (D.later ?_)
    exact D.pure (.inr ⟨_,rfl,_,rfl,w.push m3.2,m3.1⟩)
   |some top=>
    obtain⟨_,_,_⟩:=top
    dsimp only
    refine D.bind ((D.for (I:=λ_ e d2=>(e=λ_=>(none,()))/\W d2.q lo) (Z:=λe d2=>(e=λ_=>(none,()))/\W d2.q lo) ?_ (λ_ _ h=>h) (e:=λ_=>(none,())) (d:=⟨p,d'.q,d'.g⟩) ⟨rfl,w⟩).mono ?_)
    ·rintro y e d2- -⟨rfl,w2⟩
     refine D.bind (D.get ?_)
     dsimp only[sd,pendingOf]
     by_cases hs:d2.q.size>1
     ·simp only[W1 hs]
      obtain⟨r,e5⟩:∃r,d2.q[d2.q.size-2]?=⇑r:=⟨_,getElem?_pos _ _ ⋯⟩
      simp only[e5]
      exact D.ite (λ_=>Iff.rfl) (λ_=>D.pure (.inl ⟨_,rfl,rfl,w2⟩)) λ_=>D.bind (D.join w2 Va (λ_=>by omega) (λ_ _=>rfl) λ_ w3=>D.ite (λ_=>Iff.rfl) (λz=>absurd z ∅) λ_=>D.pure (.inr ⟨_,rfl,rfl,w3⟩))
     ·simp only[UF hs]
      exact D.pure (.inl ⟨_,rfl,rfl,w2⟩)
    ·rintro e d2 ⟨rfl,w2⟩
     refine D.bind (D.power (D.bind (D.later ?_)))
     refine D.pure (.inr ⟨_,rfl,_,rfl,(w2.mod _ _ ?_).push m3.2,m3.1⟩)
     exact λ_=>⟨rfl,rfl⟩
 ·rintro e d' ⟨lo,rfl,w⟩
  refine D.bind ((D.for (I:=λ_ e d2=>(e=λ_=>(none,()))/\W d2.q z) (Z:=λe d2=>(e=λ_=>(none,()))/\W d2.q z) ?_ (λ_ _ h=>h) (e:=λ_=>(none,())) ⟨rfl,w⟩).mono ?_)
  ·rintro y e d2- -⟨rfl,w2⟩
   refine D.bind (D.get ?_)
   dsimp only[sd,pendingOf]
   exact D.ite (λ_=>Iff.rfl) (λ_=>D.pure (.inl ⟨_,rfl,rfl,w2⟩)) λhs=>D.bind (D.join w2 (ZK _) (λ_=>by split<;>split<;>omega) (λ_ _=>rfl) λ_ w3=>D.ite (λ_=>Iff.rfl) (λz=>absurd z ∅) λ_=>D.pure (.inr ⟨_,rfl,rfl,w3⟩))
  ·rintro e d2 ⟨rfl,w2⟩
   exact D.pure (h d2)
theorem sorts(cmp:ι->ι->Bool)(p:Vector ι z):∃p':Vector ι z,∀c:Cc cmp,∀Q:Unit->SortSt->Prop,(∀st,arrOf st=p'.toArray.map c.it->failedOf st=none->Q () st)->wpS (model c.prog c.w) c.A c.E c.s sortRuns' Q (SortSt.mk' c.kd (p.toArray.map c.it) #[] 7 none):=
 let⟨_,d',_,k⟩:=D.sortRuns (cmp:=cmp) (d:=⟨p,#[],7⟩) (P:=λr _=>r=λ_=>()) rfl λ_=>rfl
 ⟨d'.p,λc Q h=>k c Q (h _ rfl rfl)⟩
end
end TW
namespace L2.D
open PySem
inductive PV where
 |non|bl(b:Bool)|int(i:Int)|str(x:Str)|lst(l:List PV)|tup(l:List PV)|ins(c:Nat)(l:List PV)|dct(ks:List Int)(l:List PV)
 deriving Inhabited
abbrev FP:=List PV->Option PV
abbrev b0(n:List Str):PV:=PV.tup (n.map PV.str)
def flat:PV->Bool
 |.non=>true
 |.bl _=>true
 |.int _=>true
 |.str _=>true
 |_=>false
def IL:PV->PV->Bool
 |.non,.non=>true
 |.bl a,.bl b=>a==b
 |.bl a,.int b=>(if a then 1 else 0)==b
 |.int a,.bl b=>a==(if b then 1 else 0)
 |.int a,.int b=>a==b
 |.str a,.str b=>a==b
 |_,_=>false
def j7(f:PV->PV->Option Bool):List PV->List PV->Option (List Bool)
 |a::l,b::m=>(f a b).bind λe=>(j7 f l m).map (e::·)
 |_,_=>some []
def yV(f:PV->PV->Option Bool)(l m:List PV):Option Bool:=if l.length=m.length then(j7 f l m).map λes=>es.all id else ⇑false
def ik:Nat->PV->PV->Option Bool
 |n+1,.lst l,.lst m=>yV (ik n) l m
 |n+1,.tup l,.tup m=>if l.length=m.length then yV (ik n) l m else none
 |_,p,q=>if flat p&&flat q then ⇑(IL p q)else none
inductive Cn where
 |l(xs:List PV)|d(kvs:List (Int×PV))
 deriving Inhabited
inductive Slot where
 |un|sh(p:PV)|own(c:Cn)|bw(l:List PV)
 deriving Inhabited
abbrev Slot.ow(l:List PV):Slot:=.own (.l l)
abbrev bU:=List Slot
abbrev Den:=bU->Option PV
def Slot.val:Slot->Option PV
 |.un=>none
 |.sh p=>⇑p
 |.own (.l l)=>⇑(.lst l)
 |.own (.d _)=>none
 |.bw l=>⇑(.lst l)
def Slot.Nl:Slot->Option PV
 |.sh p=>⇑p
 |_=>none
inductive Fl where
 |nx(ρ:bU)|rt(p:PV)|bk(ρ:bU)|ct(ρ:bU)
abbrev aT:=bU->Option Fl
abbrev dg:=bU->Option Bool
abbrev bZ:=bU->Option (List PV)
def dC(p:PV):Den:=λ_=>⇑p
def dV(i:Nat):Den:=λρ=>(ρ[i]?).bind Slot.val
def aP(i:Nat):Den:=λρ=>(ρ[i]?).bind Slot.Nl
def bC(g:PV->Option PV)(a:Den):Den:=λρ=>(a ρ).bind g
def ag(g:PV->PV->Option PV)(a b:Den):Den:=λρ=>(a ρ).bind λx=>(b ρ).bind λy=>g x y
def aB:bZ:=λ_=>some []
def af(a:Den)(as:bZ):bZ:=λρ=>(a ρ).bind λx=>(as ρ).bind λxs=>⇑(x::xs)
def aM(F:FP)(as:bZ):Den:=λρ=>(as ρ).bind F
def u9(F:FP)(as:bZ):Den:=λρ=>(as ρ).bind λxs=>(F xs).bind λp=>if flat p then ⇑p else none
def jh(as:bZ):Den:=λρ=>(as ρ).bind λxs=>if xs.length<=sizeLine then ⇑(.lst xs)else none
def eW(as:bZ):Den:=λρ=>(as ρ).bind λxs=>if xs.length<=sizeLine then ⇑(.tup xs)else none
def C7:PV->Option Bool
 |.bl b=>⇑b
 |_=>none
def tV(a:Den):dg:=λρ=>(a ρ).bind C7
def mD(a b:dg):dg:=λρ=>(a ρ).bind λc=>if c then b ρ else ⇑false
def II(a b:dg):dg:=λρ=>(a ρ).bind λc=>if c then ⇑true else b ρ
def j2(a:dg):dg:=λρ=>(a ρ).map (!·)
def bP:PV->PV->Option PV
 |.int i,.int j=>⇑(.int (i+j))
 |.str x,.str y=>if x.length+y.length<=sizeLine then ⇑(.str (x++y))else none
 |.lst l,.lst m=>if l.length+m.length<=sizeLine then ⇑(.lst (l++m))else none
 |_,_=>none
def wC:PV->PV->Option PV
 |.int i,.int j=>⇑(.int (i-j))
 |_,_=>none
def mL(i j:Int):Bool:=(decide (-(2^64)<i)&&decide (i<2^64))||(decide (-(2^64)<j)&&decide (j<2^64))
def j8:PV->PV->Option PV
 |.int i,.int j=>if mL i j then ⇑(.int (i*j))else none
 |_,_=>none
def ja:PV->PV->Option PV
 |.int i,.int j=>if decide (0<j)&&decide (j<1073741824)then ⇑(.int (i/j))else none
 |_,_=>none
def bT:PV->PV->Option PV
 |.int i,.int j=>if decide (0<j)then ⇑(.int (i % j))else none
 |_,_=>none
def j9(i j:Int):Bool:=decide (0<=j)&&decide (j<=1000000)&&decide (i.natAbs<2^64)
def JE:PV->PV->Option PV
 |.int i,.int j=>if j9 i j then ⇑(.int (i^j.toNat))else none
 |_,_=>none
def mM:PV->PV->Option PV
 |.int i,.int j=>if j9 i j then ⇑(.int (i*2^j.toNat))else none
 |_,_=>none
def zp:PV->PV->Option PV
 |.int i,.int j=>if decide (0<=j)then ⇑(.int (i/2^j.toNat))else none
 |_,_=>none
def qt:PV->PV->Option PV
 |.int i,.int j=>⇑(.int (Builtin.bitAnd i j))
 |_,_=>none
def O6:PV->PV->Option PV
 |.int i,.int j=>⇑(.int (Builtin.bitOr i j))
 |_,_=>none
def Qj:PV->Option PV
 |.int i=>⇑(.int (-i))
 |_=>none
def eqT:PV->PV->Option Bool
 |.non,.non=>⇑true
 |.non,.int _=>⇑false
 |.non,.bl _=>⇑false
 |.non,.str _=>⇑false
 |.int _,.non=>⇑false
 |.bl _,.non=>⇑false
 |.str _,.non=>⇑false
 |.int a,.int b=>⇑(decide (a=b))
 |.bl a,.bl b=>⇑(decide (a=b))
 |.str a,.str b=>⇑(decide (a=b))
 |.int _,.str _=>⇑false
 |.str _,.int _=>⇑false
 |.bl _,.str _=>⇑false
 |.str _,.bl _=>⇑false
 |.lst l,.lst m=>ik 20 (.lst l) (.lst m)
 |.tup l,.tup m=>ik 20 (.tup l) (.tup m)
 |_,_=>none
def ip(a b:PV):Option PV:=(eqT a b).map PV.bl
def Vb(a b:PV):Option PV:=(eqT a b).map λe=>PV.bl !e
def EJ:PV->PV->Option PV
 |.int i,.int j=>⇑(.bl (decide (i<j)))
 |_,_=>none
def LF:PV->PV->Option PV
 |.int i,.int j=>⇑(.bl (decide (j<i)))
 |_,_=>none
def Vc:PV->PV->Option PV
 |.int i,.int j=>⇑(.bl (decide (j<=i)))
 |_,_=>none
def pF:PV->Option PV
 |.non=>⇑(.bl true)
 |_=>⇑(.bl false)
def j0(x:PV)(l:List PV):Bool:=l.any λy=>IL y x
def JF:PV->PV->Option PV
 |x,.lst l=>if flat x&&l.all flat then ⇑(.bl (j0 x l))else none
 |x,.tup l=>if flat x&&l.all flat then ⇑(.bl (j0 x l))else none
 |_,_=>none
def lY:PV->PV->Option PV
 |x,.lst l=>if flat x&&l.all flat then ⇑(.bl (!j0 x l))else none
 |x,.tup l=>if flat x&&l.all flat then ⇑(.bl (!j0 x l))else none
 |_,_=>none
def LG(n:Nat)(i:Int):Option Nat:=if 0<=i then(if i<n then ⇑i.toNat else none)else if-(n:Int)<=i then some (i+n).toNat else none
variable{α:Type}
def itemAt(l:List α)(i:Int):Option α:=(LG l.length i).bind λj=>l[j]?
def c9:PV->PV->Option PV
 |.lst l,.int i=>itemAt l i
 |.tup l,.int i=>itemAt l i
 |.str x,.int i=>if x.length<=sizeLine then(itemAt x.cps.toList i).map λc=>.str ⟨#[c]⟩else none
 |_,_=>none
def cB:PV->Option PV
 |.lst l=>⇑(.int l.length)
 |.tup l=>⇑(.int l.length)
 |.str x=>if x.length<=sizeLine then ⇑(.int x.length)else none
 |_=>none
def qu:PV->Option PV
 |.lst l=>⇑(.lst l)
 |.tup l=>⇑(.lst l)
 |_=>none
def bools:List PV->Option (List Bool)
 |[]=>some []
 |.bl b::l=>(bools l).map (b::·)
 |_::_=>none
def JG:PV->Option PV
 |.lst l=>(bools l).map λbs=>.bl (bs.any id)
 |_=>none
def Qk:PV->Option PV
 |.lst l=>(bools l).map λbs=>.bl (bs.all id)
 |_=>none
def Fy:PV->Option PV
 |.int i=>⇑(.int (Builtin.Int.intBits i:Nat))
 |_=>none
def Ba:PV->Nat
 |.int _=>0
 |.bl _=>1
 |.str _=>2
 |.lst _=>3
 |.tup _=>4
 |.non=>5
 |_=>6
def zq(k:Nat)(p:PV):Bool:=Ba p==k||(k==0&&Ba p==1)
def O7(k:Nat)(p:PV):Option PV:=if Ba p=6 then none else ⇑(.bl (zq k p))
def zt(n d:Nat):Option Int->Nat
 |none=>d
 |some i=>if i<0 then(i+n).toNat else min i.toNat n
def kb(l:List α)(lo hi:Option Int):List α:=(l.drop (zt l.length 0 lo)).take (zt l.length l.length hi-zt l.length 0 lo)
abbrev va:=bU->Option (Option Int)
def iN:va:=λ_=>⇑none
def sH:PV->Option Int
 |.int i=>⇑i
 |_=>none
def cL(a:Den):va:=λρ=>(a ρ).bind λp=>(sH p).map some
def LH(a:Den)(lo hi:va):Den:=λρ=>(a ρ).bind λx=>(lo ρ).bind λl=>(hi ρ).bind λh=>match x with
 |.lst xs=>⇑(.lst (kb xs l h))
 |_=>none
def Fz:PV->Option (List PV)
 |.lst l=>⇑l
 |_=>none
def FA:PV->Option (List PV)
 |.tup l=>⇑l
 |_=>none
def nList(a:Den):bZ:=λρ=>(a ρ).bind Fz
def Nm(a:Den):bZ:=λρ=>(a ρ).bind FA
def gD(lo:Int)(n:Nat):List PV:=(List.range n).map λk=>.int (lo+(k:Nat))
def tP(j:Int):Bool:=decide (-(2^62)<=j)&&decide (j<2^62)
def eA(a:Den):bZ:=λρ=>(a ρ).bind λp=>(sH p).bind λj=>if tP j then ⇑(gD 0 j.toNat)else none
def fg(c:dg)(e:Den)(ρ:bU):List PV->Option (List PV)
 |[]=>some []
 |x::xs=>(c (.sh x::ρ)).bind λb=>if b then(e (.sh x::ρ)).bind λz=>(fg c e ρ xs).map (z::·)else fg c e ρ xs
def cM:dg:=λ_=>⇑true
def bV(it:bZ)(c:dg)(e:Den):Den:=λρ=>(it ρ).bind λxs=>if xs.length<=sizeLine then(fg c e ρ xs).map PV.lst else none
def bQ:aT:=λρ=>⇑(.nx ρ)
def aU(a b:aT):aT:=λρ=>(a ρ).bind λf=>match f with
 |.nx ρ'=>b ρ'
 |f=>⇑f
def bK(i:Nat)(a:Den):aT:=λρ=>(a ρ).map λp=>.nx (ρ.set i (.sh p))
def mO(i:Nat)(a:Den):aT:=λρ=>(a ρ).bind λp=>(Fz p).map λl=>.nx (ρ.set i (.ow l))
def bO(a:Den):aT:=λρ=>(a ρ).map Fl.rt
def gy(t:dg)(a b:aT):aT:=λρ=>(t ρ).bind λc=>if c then a ρ else b ρ
def lG(a:Den):aT:=λρ=>(a ρ).map λ_=>.nx ρ
def qv:aT:=λρ=>⇑(.bk ρ)
def sP(ρ:bU)(i:Nat):Option (List PV):=match ρ[i]? with
 |some (.own (.l l))=>⇑l
 |_=>none
def qw(i:Nat)(g:List PV->List PV->Option (List PV))(as:bZ):aT:=λρ=>(as ρ).bind λxs=>(sP ρ i).bind λl=>(g l xs).map λl'=>.nx (ρ.set i (.ow l'))
def eM(l xs:List PV):Option (List PV):=match xs with
 |[x]=>if l.length<sizeLine then ⇑(l++[x])else none
 |_=>none
abbrev qy:=PV->bU->Option bU
def bj(i:Nat):qy:=λp ρ=>⇑(ρ.set i (.sh p))
def kc(a b:qy):qy:=λp ρ=>match p with
 |.tup [x,y]=>(a x ρ).bind (b y)
 |_=>none
def forL(g:qy)(body:aT):List PV->aT
 |[]=>λρ=>⇑(.nx ρ)
 |x::xs=>λρ=>(g x ρ).bind λρ1=>(body ρ1).bind λf=>match f with
  |.nx ρ'=>forL g body xs ρ'
  |.ct ρ'=>forL g body xs ρ'
  |.bk ρ'=>⇑(.nx ρ')
  |.rt p=>⇑(.rt p)
def om(it:bZ)(g:qy)(body:aT):aT:=λρ=>(it ρ).bind λxs=>forL g body xs ρ
def wV:List Int->List Int->Bool
 |[],[]=>false
 |[],_::_=>true
 |_::_,[]=>false
 |x::xs,y::ys=>if x=y then wV xs ys else decide (x<y)
def tQ(a b:Den):Den:=λρ=>(a ρ).bind λx=>(C7 x).bind λc=>if c then b ρ else ⇑(.bl false)
def LI(a:Den):Den:=λρ=>(a ρ).bind λx=>(C7 x).map λc=>.bl !c
def tR(i:Nat):aT:=λρ=>(sP ρ i).map λl=>.rt (.lst l)
def mP(p:PV):Option PV:=(pF p).bind λx=>(C7 x).map λc=>.bl !c
def jY(a b:PV):Option PV:=match a with
 |.tup _=>none
 |_=>Vb a b
def fN:List PV->Option (List Int)
 |[]=>some []
 |.int i::l=>(fN l).map (i::·)
 |_::_=>none
def qz:PV->Option PV
 |.lst l=>⇑(.tup l)
 |.tup l=>⇑(.tup l)
 |_=>none
def eF(rk:Int->Nat)(ns:List Int):List Int:=(Classical.choose (TW.sorts (λi j:Fin ns.length=>decide (rk ns[i]<rk ns[j])) (Vector.ofFn id))).toList.map λi=>ns[i]
def lH(n:Int):Nat:=Mt.rank n.toNat
def qA(n:Int):Bool:=decide (0<=n)&&decide (n<64)
def ke(ns:List Int):Bool:=ns.all qA&&decide (ns.length<=5000)
@[simp] def oT(it:bZ):Den:=λρ=>(it ρ).bind λl=>(fN l).bind λns=>if ke ns then ⇑(.lst ((eF lH ns).map PV.int))else none
def iO(F:FP):Prop:=∃(kI:Int->Int) (kL:Int->List Int),(∀n,qA n=true->F [.int n]=⇑(.tup [.int (kI n),.lst ((kL n).map PV.int)]))/\
 ∀n m,qA n=true->qA m=true->(if kI n=kI m then wV (kL n) (kL m)else decide (kI n<kI m))=decide (lH n<lH m)
def eD(n:Nat)(ps:List PV):bU:=ps.map Slot.sh++List.replicate (n-ps.length) .un
def vb(fr:Bool):Fl->Option PV
 |.rt p=>⇑p
 |.nx _=>if fr then none else some .non
 |_=>none
def fn(fr:Bool)(n k:Nat)(body:aT)(ps:List PV):Option PV:=if ps.length=k then(body (eD n ps)).bind (vb fr)else none
open PySem.Spec PyProof.Rows
open Classical
structure Kl where
 adr:Nat->Addr
 fld:Nat->List Str
def SL(K:aX)(H:Hp)(a:Addr)(xs:List V):Prop:=
 Rd H a (.lst xs)\/∃(its:List Value) (n:Nat),K.lookup a=some {cls:=.type "list",data:=.seq its.toArray n}/\its.length<=sizeLine/\Vals xs its
variable{H:Hp}{a:Addr}{xs:List V}
theorem SL.of{K:aX}(h:H a=⇑(.lst xs)):SL K H a xs:=.inl (.inl h)
theorem SL.sq{K:aX}(h:SL K H a xs):jv K H a xs:=by
 rcases h with h|⟨its,n,h1,h2,h3⟩
 ·exact .inl h
 ·exact .inr ⟨_,its.toArray,n,h1,rfl,rfl,rfl,by simpa using h2,by simpa using h3⟩
theorem _root_.L2.aA.sl{K:aX}{H':Hp}(e:aA H H')(h:SL K H a xs):SL K H' a xs:=by
 rcases h with(h|⟨o,h⟩)|h
 ·exact .inl (.inl (e _ _ h))
 ·exact .inl (.inr ⟨o,e _ _ h⟩)
 ·exact .inr h
theorem _root_.L2.Inv.sl{X:Cx}{pins:List (Addr×Obj)}{σ:St}{s:Shared}(I:Inv X pins σ H s)(h:SL X.K H a xs):∃(its:List Value) (n:Nat),Vals xs its/\s.heap.get? a=some {cls:=.type "list",data:=.seq its.toArray n}/\xs.length<=sizeLine:=by
 rcases h with h|⟨its,n,h1,h2,h3⟩
 ·obtain⟨z,its,n,r,e⟩:=h.ok I.cD
  exact⟨its,n,r,e,z⟩
 ·exact⟨its,n,h3,I.lE a _ h1,by rw[h3.length];exact h2⟩
mutual
inductive Rep(K:aX)(κ:Kl)(H:Hp):V->PV->Prop
 |non:Rep K κ H .non .non
 |bl (b:Bool):Rep K κ H (.bl b) (.bl b)
 |int (i:Int):Rep K κ H (.int i) (.int i)
 |str (x:Str):Rep K κ H (.str x) (.str x)
 |lst {a:Addr} {vs:List V} {l:List PV}:SL K H a vs->aL K κ H vs l->Rep K κ H (.ref a) (.lst l)
 |tup {a:Addr} {vs:List V} {l:List PV}:jZ K H a vs->aL K κ H vs l->Rep K κ H (.ref a) (.tup l)
 |ins {a dx:Addr} {c:Nat} {vs:List V} {l:List PV}:H a=some (.ins (κ.adr c) dx ((κ.fld c).zip vs))->vs.length=(κ.fld c).length->aL K κ H vs l->Rep K κ H (.ref a) (.ins c l)
 |dct {a:Addr} {vs:List V} {ks:List Int} {l:List PV}:H a=some (.dK ((ks.map Sum.inl).zip vs))->ks.length=vs.length->aL K κ H vs l->Rep K κ H (.ref a) (.dct ks l)
inductive aL(K:aX)(κ:Kl)(H:Hp):List V->List PV->Prop
 |nil:aL K κ H [] []
 |cons {v:V} {p:PV} {vs:List V} {l:List PV}:Rep K κ H v p->aL K κ H vs l->aL K κ H (v::vs) (p::l)
end
variable{κ:Kl}{H H' H1:Hp}{a:Addr}{xs:List V}
section
variable{K:aX}
theorem qB(e:aA H H')(h:jZ K H a xs):jZ K H' a xs:=by
 rcases h with(h|⟨o,h⟩)|h
 ·exact .inl (.inl (e _ _ h))
 ·exact .inl (.inr ⟨o,e _ _ h⟩)
 ·exact .inr h
mutual
theorem Rep.mono(e:aA H H'):∀{v:V} {p:PV},Rep K κ H v p->Rep K κ H' v p
 |_,_,.non=>.non
 |_,_,.bl b=>.bl b
 |_,_,.int i=>.int i
 |_,_,.str x=>.str x
 |_,_,.lst h r=>.lst (e.sl h) (aL.mono e r)
 |_,_,.tup h r=>.tup (qB e h) (aL.mono e r)
 |_,_,.ins h z r=>.ins (e _ _ h) z (aL.mono e r)
 |_,_,.dct h z r=>.dct (e _ _ h) z (aL.mono e r)
theorem aL.mono(e:aA H H'):∀{vs:List V} {l:List PV},aL K κ H vs l->aL K κ H' vs l
 |_,_,.nil=>.nil
 |_,_,.cons r t=>.cons (Rep.mono e r) (aL.mono e t)
end
theorem aL.length:∀{vs:List V} {l:List PV},aL K κ H vs l->vs.length=l.length
 |_,_,.nil=>rfl
 |_,_,.cons _ t=>by rw[ZJ,ZJ,t.length]
theorem aL.append:∀{vs ws:List V} {l m:List PV},aL K κ H vs l->aL K κ H ws m->aL K κ H (vs++ws) (l++m)
 |_,_,_,_,.nil,s=>s
 |_,_,_,_,.cons r t,s=>.cons r (t.append s)
theorem aL.get:∀{vs:List V} {l:List PV} {i:Nat} {p:PV},aL K κ H vs l->l[i]?=⇑p->∃v,vs[i]?=⇑v/\Rep K κ H v p
 |_,_,_,_,.nil,e=>by simp at e
 |_,_,0,_,.cons r _,e=>by simp at e;subst e;exact⟨_,rfl,r⟩
 |_,_,i+1,p,.cons _ t,e=>by
  obtain⟨v,h1,h2⟩:=aL.get (i:=i) (p:=p) t (by simpa using e)
  exact⟨v,by simpa using h1,h2⟩
theorem aL.wW:∀{vs:List V} {l:List PV} {i:Nat} {v:V},aL K κ H vs l->vs[i]?=⇑v->∃p,l[i]?=⇑p/\Rep K κ H v p
 |_,_,_,_,.nil,e=>by simp at e
 |_,_,0,_,.cons r _,e=>by simp at e;subst e;exact⟨_,rfl,r⟩
 |_,_,i+1,v,.cons _ t,e=>by
  obtain⟨p,h1,h2⟩:=aL.wW (i:=i) (v:=v) t (by simpa using e)
  exact⟨p,by simpa using h1,h2⟩
theorem aL.take:∀{vs:List V} {l:List PV} (n:Nat),aL K κ H vs l->aL K κ H (vs.take n) (l.take n)
 |_,_,0,_=>.nil
 |_,_,_+1,.nil=>.nil
 |_,_,n+1,.cons r t=>.cons r (t.take n)
theorem aL.drop:∀{vs:List V} {l:List PV} (n:Nat),aL K κ H vs l->aL K κ H (vs.drop n) (l.drop n)
 |_,_,0,r=>r
 |_,_,_+1,.nil=>.nil
 |_,_,n+1,.cons _ t=>t.drop n
variable{v:V}{p:PV}
theorem aL.set(r:Rep K κ H v p):∀{vs:List V} {l:List PV} (i:Nat),aL K κ H vs l->aL K κ H (vs.set i v) (l.set i p)
 |_,_,_,.nil=>.nil
 |_,_,0,.cons _ t=>.cons r t
 |_,_,i+1,.cons q t=>.cons q (aL.set r i t)
theorem Rep.flat(f:flat p=true)(r:Rep K κ H v p):Rep K κ H' v p:=by
 cases r with
 |non=>exact .non
 |bl b=>exact .bl b
 |int i=>exact .int i
 |str x=>exact .str x
 |lst _ _=>simp[D.flat]at f
 |tup _ _=>simp[D.flat]at f
 |ins _ _ _=>simp[D.flat]at f
 |dct _ _ _=>simp[D.flat]at f
end
def hide(A:Addr->Prop)(H:Hp):Hp:=λb=>if A b then none else H b
variable{A:Addr->Prop}
theorem aK{b:Addr}(h:¬A b):hide A H b=H b:=UF h
theorem aI{b:Addr}{o:HO}(h:hide A H b=⇑o):¬A b/\H b=⇑o:=by
 unfold hide at h
 by_cases e:A b
 ·rw[W1 e]at h
  cases h
 ·rw[UF e]at h
  exact⟨e,h⟩
theorem bb(h:aA H H'):aA (hide A H) (hide A H'):=λb o e=>by
 obtain⟨h1,h2⟩:=aI e
 rw[aK h1]
 exact h b o h2
theorem bW{B:Addr->Prop}(h:aA H H')(s:∀b,B b->H b≠none->A b):aA (hide A H) (hide B H'):=λb o e=>by
 obtain⟨h1,h2⟩:=aI e
 rw[aK λz=>h1 (s b z (by rw[h2];simp))]
 exact h b o h2
theorem aE:aA (hide A H) H:=λb o e=>(aI e).2
theorem dH{o:HO}(h:A a):hide A (upd H a o)=hide A H:=by
 funext b
 unfold hide
 by_cases e:A b
 ·rw[W1 e,W1 e]
 ·rw[UF e,UF e]
  exact au λz=>e (z▸h)
theorem bL{o:HO}(h:H a=none):aA H (upd H a o):=λb u q=>by rw[au (aO q h)];exact q
def FC:Cn->List V->HO
 |.l _,vs=>.lst vs
 |.d d,vs=>.dK (List.zipWith (λ(p:Int×PV) (v:V)=>((Sum.inl p.1:Key),v)) d vs)
def Nn:Cn->List PV
 |.l l=>l
 |.d d=>d.map (·.2)
def vc(own:Nat->Addr)(ρ:bU):Addr->Prop:=λb=>∃i l,ρ[i]?=⇑(.own l)/\own i=b
def cg(A:Addr->Prop)(own:Nat->Addr)(ρ:bU):Addr->Prop:=λb=>A b\/vc own ρ b
abbrev cA(A:Addr->Prop)(own:Nat->Addr)(ρ:bU)(H:Hp):Hp:=hide (cg A own ρ) H
structure R(K:aX)(κ:Kl)(G:Hp)(A:Addr->Prop)(bo:Nat->Option (Addr×List V))(own:Nat->Addr)(ρ:bU)(σ:St)(H:Hp):Prop where
 al:∀b,A b->G b≠none
 bg:∀i a vs,bo i=⇑(a,vs)->G a=⇑(.lst vs)
 same:aA G H
 sh:∀(i:Nat) p,ρ[i]?=⇑(.sh p)->∃v,σ[i]?=⇑(some v)/\Rep K κ (cA A own ρ H) v p
 ow:∀(i:Nat) l,ρ[i]?=⇑(.own l)->σ[i]?=⇑(some (.ref (own i)))/\G (own i)=none/\∃vs,H (own i)=⇑(FC l vs)/\aL K κ (cA A own ρ H) vs (Nn l)
 inj:∀(i j:Nat) l m,ρ[i]?=⇑(.own l)->ρ[j]?=⇑(.own m)->own i=own j->i=j
 bw:∀(i:Nat) l,ρ[i]?=⇑(.bw l)->∃a vs,bo i=⇑(a,vs)/\σ[i]?=⇑(some (.ref a))/\aL K κ (cA A own ρ H) vs l
 len:σ.length=ρ.length
variable{G:Hp}{bo:Nat->Option (Addr×List V)}{own:Nat->Addr}{ρ:bU}{σ:St}{i:Nat}{vs:List V}
section
variable{K:aX}{G':Hp}{c7:Nat->Addr}{ρ':bU}{σ':St}
theorem R.mono(r:R K κ G A bo own ρ σ H)(s:aA H H1):R K κ G A bo own ρ σ H1 where
 al:=r.al
 bg:=r.bg
 same:=r.same.trans s
 sh:=λi p e=>let⟨v,h1,h2⟩:=r.sh i p e;⟨v,h1,h2.mono (bb s)⟩
 ow:=λi l e=>let⟨h1,h2,vs,h3,h4⟩:=r.ow i l e;⟨h1,h2,vs,s _ _ h3,h4.mono (bb s)⟩
 inj:=r.inj
 bw:=λi l e=>let⟨a,vs,h1,h2,h3⟩:=r.bw i l e;⟨a,vs,h1,h2,h3.mono (bb s)⟩
 len:=r.len
theorem R.new(r:R K κ G A bo own ρ σ H)(h:H a=none):¬cg A own ρ a:=by
 rintro(z|⟨i,l,h1,rfl⟩)
 ·cases e:G a with
  |none=>exact r.al a z e
  |some o=>
   rw[r.same _ _ e]at h
   cases h
 ·obtain⟨_,_,_,h3,_⟩:=r.ow i l h1
  rw[h3]at h
  cases h
theorem R.Bb(r:R K κ G A bo own ρ σ H){b:Addr}(h:cg A own ρ b):H b≠none:=λz=>r.new z h
def IJ(own:Nat->Addr)(ρ:bU)(H:Hp):Hp:=hide (vc own ρ) H
theorem wX:hide A (IJ own ρ H)=cA A own ρ H:=by
 funext b
 unfold IJ cA hide cg
 by_cases h1:A b<;>by_cases h2:vc own ρ b<;>simp[h1,h2]
theorem R.gv(r:R K κ G A bo own ρ σ H):aA G (IJ own ρ H):=λb o e=>by
 unfold IJ
 rw[aK]
 ·exact r.same _ _ e
 ·rintro⟨i,l,h1,rfl⟩
  rw[(r.ow i l h1).2.1]at e
  cases e
theorem R.big(r:R K κ G A bo own ρ σ H):R K κ (IJ own ρ H) A bo own ρ σ H where
 al:=λb h z=>by
  cases e:G b with
  |none=>exact r.al b h e
  |some o=>
   rw[r.gv _ _ e]at z
   cases z
 bg:=λi a vs h=>r.gv _ _ (r.bg i a vs h)
 same:=aE
 sh:=r.sh
 ow:=λi l e=>let⟨h1,h2,h3⟩:=r.ow i l e;⟨h1,by unfold IJ hide;rw[W1 ⟨i,l,e,rfl⟩],h3⟩
 inj:=r.inj
 bw:=r.bw
 len:=r.len
theorem R.small(r:R K κ G' A bo own ρ σ H)(s:aA G G')(al:∀b,A b->G b≠none)(bg:∀i a vs,bo i=⇑(a,vs)->G a=⇑(.lst vs)):R K κ G A bo own ρ σ H where
 al:=al
 bg:=bg
 same:=s.trans r.same
 sh:=r.sh
 ow:=λi l e=>let⟨h1,h2,h3⟩:=r.ow i l e;⟨h1,s.free h2,h3⟩
 inj:=r.inj
 bw:=r.bw
 len:=r.len
theorem R.JH(r:R K κ G A bo own ρ σ H):aA (hide A G) (cA A own ρ H):=λb o e=>by
 obtain⟨h1,h2⟩:=aI e
 rw[cA,aK]
 ·exact r.same _ _ h2
 ·rintro(z|⟨i,l,h3,rfl⟩)
  ·exact h1 z
  ·rw[(r.ow i l h3).2.1]at h2
   cases h2
theorem FD{b:Addr}(h:vc own (ρ.set i (.sh p)) b):vc own ρ b:=by
 obtain⟨j,l,h1,h2⟩:=h
 rw[ZO]at h1
 split at h1
 ·split at h1<;>cases h1
 ·exact⟨j,l,h1,h2⟩
theorem mQ:aA (cA A own ρ H) (cA A own (ρ.set i (.sh p)) H):=bW (λ_ _ h=>h) λb h _=>by
 rcases h with h|h
 ·exact .inl h
 ·exact .inr (FD h)
theorem R.set(r:R K κ G A bo own ρ σ H)(h:Rep K κ (cA A own ρ H) v p):R K κ G A bo own (ρ.set i (.sh p)) (σ.set i ⇑v) H:=by
 have ne:∀{j:Nat} {x:Slot},(ρ.set i (.sh p))[j]?=⇑x->x≠.sh p->i≠j/\ρ[j]?=⇑x:=λ{j x} e nx=>by
  rw[ZO]at e
  split at e
  ·split at e
   ·exact absurd (ZX e).symm nx
   ·cases e
  ·exact⟨by assumption,e⟩
 refine⟨r.al,r.bg,r.same,λj q e=>?_,λj l e=>?_,λj k l m e f=>?_,λj l e=>?_,by rw[Zo,Zo];exact r.len⟩
 ·by_cases hj:i=j
  ·subst hj
   rw[ZO]at e
   rw[W1 rfl]at e
   split at e
   ·injection e with e
    injection e with e
    subst e
    exact⟨v,by rw[ZO,W1 rfl,W1 (by rw[r.len];assumption)],h.mono mQ⟩
   ·cases e
  ·rw[ZO,UF hj]at e
   obtain⟨u,h1,h2⟩:=r.sh j q e
   exact⟨u,by rw[ZO,UF hj];exact h1,h2.mono mQ⟩
 ·obtain⟨hj,e⟩:=ne e (by simp)
  obtain⟨h1,h2,vs,h3,h4⟩:=r.ow j l e
  exact⟨by rw[ZO,UF hj];exact h1,h2,vs,h3,h4.mono mQ⟩
 ·exact r.inj j k l m (ne e (by simp)).2 (ne f (by simp)).2
 ·obtain⟨hj,e⟩:=ne e (by simp)
  obtain⟨a,vs,h1,h2,h3⟩:=r.bw j l e
  exact⟨a,vs,h1,by rw[ZO,UF hj];exact h2,h3.mono mQ⟩
theorem R.Ql(r:R K κ G A bo own ρ σ H){l:Cn}(hG:G a=none)(hA:¬A a)(hj:∀(j:Nat) m,ρ[j]?=⇑(.own m)->j≠i->own j≠a)(s:aA (cA A own ρ H) (hide (λb=>cg A own ρ b\/b=a) H1))(hk:∀b o,H b=⇑o->b≠a->H1 b=⇑o)
  (h1:H1 a=⇑(FC l vs))(h2:aL K κ (hide (λb=>cg A own ρ b\/b=a) H1) vs (Nn l)):R K κ G A bo (λj=>if j=i then a else own j) (ρ.set i (.own l)) (σ.set i ⇑(.ref a)) H1:=by
 by_cases hi:i<ρ.length
 rotate_left
 ·rw[Qe ⋯,Qe (by rw[r.len];omega)]
  have oe:∀(j:Nat) x,ρ[j]?=⇑x->(if j=i then a else own j)=own j:=λj x e=>UF λz=>by
   have:=(ZL.mp e).1
   omega
  have se:cg A (λj=>if j=i then a else own j) ρ=cg A own ρ:=by
   funext b
   unfold cg vc
   refine propext (or_congr Iff.rfl ⟨?_,?_⟩)
   ·rintro⟨j,m,e,z⟩
    exact⟨j,m,e,by rw[<-oe j _ e];exact z⟩
   ·rintro⟨j,m,e,z⟩
    exact⟨j,m,e,by show(if j=i then a else own j)=b;rw[oe j _ e];exact z⟩
  have sm:aA (cA A own ρ H) (cA A own ρ H1):=s.trans (bW (λ_ _ h=>h) λb h _=>.inl h)
  refine⟨r.al,r.bg,λb o e=>hk b o (r.same _ _ e) (λz=>by rw[z,hG]at e;cases e),λj q e=>?_,λj m e=>?_,λj k m n e f z=>?_,λj m e=>?_,r.len⟩
  ·obtain⟨u,z1,z2⟩:=r.sh j q e
   exact⟨u,z1,by rw[cA,se];exact z2.mono sm⟩
  ·rw[oe j _ e]
   obtain⟨z1,z2,ws,z3,z4⟩:=r.ow j m e
   have u6:j≠i:=λz=>by
    have:=(ZL.mp e).1
    omega
   exact⟨z1,z2,ws,hk _ _ z3 (hj j m e u6),by rw[cA,se];exact z4.mono sm⟩
  ·skip
   rw[oe j _ e,oe k _ f]at z
   exact r.inj j k m n e f z
  ·obtain⟨b,ws,z1,z2,z3⟩:=r.bw j m e
   exact⟨b,ws,z1,z2,by rw[cA,se];exact z3.mono sm⟩
 have Qm:∀b,cg A (λj=>if j=i then a else own j) (ρ.set i (.own l)) b->cg A own ρ b\/b=a:=λb h=>by
  rcases h with h|⟨j,m,e,z⟩
  ·exact .inl (.inl h)
  ·by_cases TB:j=i
   ·subst TB
    try dsimp only at z
    rw[W1 rfl]at z
    exact .inr z.symm
   ·dsimp only at z
    rw[UF TB]at z
    rw[ZO,UF (Ne.symm TB)]at e
    exact .inl (.inr ⟨j,m,e,z⟩)
 have sm:aA (hide (λb=>cg A own ρ b\/b=a) H1) (cA A (λj=>if j=i then a else own j) (ρ.set i (.own l)) H1):=bW (λ_ _ h=>h) λb h _=>Qm b h
 have O8:aA (cA A own ρ H) (cA A (λj=>if j=i then a else own j) (ρ.set i (.own l)) H1):=s.trans sm
 refine⟨r.al,r.bg,λb o e=>hk b o (r.same _ _ e) (λz=>by rw[z,hG]at e;cases e),λj q e=>?_,λj m e=>?_,λj k m n e f z=>?_,λj m e=>?_,by rw[Zo,Zo];exact r.len⟩
 ·by_cases pM:i=j
  ·subst pM
   rw[ZO,W1 rfl,W1 hi]at e
   cases e
  ·rw[ZO,UF pM]at e
   obtain⟨u,z1,z2⟩:=r.sh j q e
   exact⟨u,by rw[ZO,UF pM];exact z1,z2.mono O8⟩
 ·by_cases pM:i=j
  ·subst pM
   rw[ZO,W1 rfl,W1 hi]at e
   injection e with e
   injection e with e
   subst e
   try dsimp only
   rw[W1 rfl]
   exact⟨by rw[ZO,W1 rfl,W1 (by rw[r.len];exact hi)],hG,vs,h1,h2.mono sm⟩
  ·rw[ZO,UF pM]at e
   obtain⟨z1,z2,ws,z3,z4⟩:=r.ow j m e
   try dsimp only
   rw[UF (Ne.symm pM)]
   exact⟨by rw[ZO,UF pM];exact z1,z2,ws,hk _ _ z3 (hj j m e (Ne.symm pM)),z4.mono O8⟩
 ·skip
  by_cases pM:i=j<;>by_cases Np:i=k
  ·rw[<-pM,<-Np]
  ·subst pM
   rw[ZO,UF Np]at f
   rw[W1 rfl,UF (Ne.symm Np)]at z
   exact absurd z.symm (hj k n f (Ne.symm Np))
  ·subst Np
   rw[ZO,UF pM]at e
   rw[W1 rfl,UF (Ne.symm pM)]at z
   exact absurd z (hj j m e (Ne.symm pM))
  ·rw[ZO,UF pM]at e
   rw[ZO,UF Np]at f
   rw[UF (Ne.symm pM),UF (Ne.symm Np)]at z
   exact r.inj j k m n e f z
 ·by_cases pM:i=j
  ·subst pM
   rw[ZO,W1 rfl,W1 hi]at e
   cases e
  ·rw[ZO,UF pM]at e
   obtain⟨b,ws,z1,z2,z3⟩:=r.bw j m e
   exact⟨b,ws,z1,by rw[ZO,UF pM];exact z2,z3.mono O8⟩
end
def BR(K:aX)(κ:Kl)(hH H:Hp)(v:V)(p:PV):Prop:=Rep K κ hH v p\/∃a vs l,v=.ref a/\p=.lst l/\SL K H a vs/\aL K κ hH vs l
def OR(K:aX)(κ:Kl)(A:Addr->Prop)(H H':Hp)(v:V)(p:PV):Prop:=∃a vs l,v=.ref a/\p=.lst l/\H a=none/\H' a=⇑(.lst vs)/\aL K κ (hide (λb=>A b\/b=a) H') vs l
def FG(K:aX)(κ:Kl)(te:TE)(f:Den):Prop:=
 ∀{G A bo own ρ σ H p Q},R K κ G A bo own ρ σ H->f ρ=⇑p->(∀v H',aA H H'->Rep K κ (cA A own ρ H') v p->Q v H')->te σ H Q
def Bc(K:aX)(κ:Kl)(te:TE)(f:Den):Prop:=
 ∀{G A bo own ρ σ H p Q},R K κ G A bo own ρ σ H->f ρ=⇑p->(∀v H',aA H H'->BR K κ (cA A own ρ H') H' v p->Q v H')->te σ H Q
def Vd(K:aX)(κ:Kl)(te:TE)(f:Den):Prop:=
 ∀{G A bo own ρ σ H p Q},R K κ G A bo own ρ σ H->f ρ=⇑p->(∀v H',aA H H'->OR K κ (cg A own ρ) H H' v p->Q v H')->te σ H Q
def RY(K:aX)(κ:Kl)(tt:TT)(f:dg):Prop:=
 ∀{G A bo own ρ σ H b Q},R K κ G A bo own ρ σ H->f ρ=⇑b->(∀H',aA H H'->Q b H')->tt σ H Q
def DE(X:Cx)(κ:Kl)(e:Expr)(f:Den):Prop:=∃te,PE X e te/\FG X.K κ te f
def DB(X:Cx)(κ:Kl)(e:Expr)(f:Den):Prop:=∃te,PE X e te/\Bc X.K κ te f
def DO(X:Cx)(κ:Kl)(e:Expr)(f:Den):Prop:=∃te,PE X e te/\Vd X.K κ te f
def DT(X:Cx)(κ:Kl)(e:Expr)(f:dg):Prop:=∃tt,PT X e tt/\RY X.K κ tt f
def DW(X:Cx)(κ:Kl)(e:Expr)(f:dg):Prop:=∃tt,PW X e tt/\RY X.K κ tt f
variable{hH:Hp}{fa fb:Den}{α:Type}
section
variable{K:aX}{Ve:Hp}
theorem BR.mono(h:BR K κ hH H v p)(s1:aA hH Ve)(s2:aA H H'):BR K κ Ve H' v p:=by
 rcases h with h|⟨a,vs,l,h1,h2,h3,h4⟩
 ·exact .inl (h.mono s1)
 ·exact .inr ⟨a,vs,l,h1,h2,s2.sl h3,h4.mono s1⟩
theorem BR.Bd(h:BR K κ (hide A H) H v p)(s2:aA H H'):BR K κ (hide A H') H' v p:=h.mono (bb s2) s2
theorem BR.full(h:BR K κ hH H v p)(s:aA hH H):Rep K κ H v p:=by
 rcases h with h|⟨a,vs,l,rfl,rfl,h3,h4⟩
 ·exact h.mono s
 ·exact .lst h3 (h4.mono s)
theorem BR.lst{l:List PV}(h:BR K κ hH H v (.lst l))(s:aA hH H):∃a vs,v=.ref a/\SL K H a vs/\aL K κ hH vs l:=by
 rcases h with h|⟨a,vs,l',h1,h2,h3,h4⟩
 ·cases h with
  |lst h1 h2=>exact⟨_,_,rfl,s.sl h1,h2⟩
 ·cases h2
  exact⟨a,vs,h1,h3,h4⟩
theorem BR.tup{l:List PV}(h:BR K κ hH H v (.tup l))(s:aA hH H):∃a vs,v=.ref a/\jZ K H a vs/\aL K κ hH vs l:=by
 rcases h with h|⟨a,vs,l',h1,h2,h3,h4⟩
 ·cases h with
  |tup h1 h2=>exact⟨_,_,rfl,qB s h1,h2⟩
 ·cases h2
theorem BR.int{i:Int}(h:BR K κ hH H v (.int i)):v=.int i:=by
 rcases h with h|⟨a,vs,l',h1,h2,h3,h4⟩
 ·cases h;rfl
 ·cases h2
theorem BR.str{i:Str}(h:BR K κ hH H v (.str i)):v=.str i:=by
 rcases h with h|⟨a,vs,l',h1,h2,h3,h4⟩
 ·cases h;rfl
 ·cases h2
theorem Rep.C7{i:Bool}(h:Rep K κ hH v (.bl i)):v=.bl i:=by cases h;rfl
theorem Rep.sH{i:Int}(h:Rep K κ hH v (.int i)):v=.int i:=by cases h;rfl
theorem R.sQ(r:R K κ G A bo own ρ σ H){l:List PV}(h:H a=none)(q:aL K κ (cA A own ρ H) vs l):OR K κ (cg A own ρ) H (upd H a (.lst vs)) (.ref a) (.lst l):=
 ⟨a,vs,l,rfl,rfl,h,aF,by
   rw[dH (.inr rfl)]
   exact q.mono (bW (λ_ _ z=>z) λb z nz=>by
    rcases z with z|z
    ·exact z
    ·rw[z]at nz
     exact absurd h nz)⟩
theorem OR.rep(r:R K κ G A bo own ρ σ H)(h:OR K κ (cg A own ρ) H H' v p):Rep K κ (cA A own ρ H') v p:=by
 obtain⟨a,_,l,rfl,rfl,h1,h2,h3⟩:=h
 refine .lst (SL.of ?_) (h3.mono (bW (λ_ _ z=>z) λb z _=>.inl z))
 rw[cA,aK (r.new h1)]
 exact h2
theorem R.Qn(r:R K κ G A bo own ρ σ H){l:List PV}(h:H a=none)(q:aL K κ (cA A own ρ H) vs l):Rep K κ (cA A own ρ (upd H a (.tup vs))) (.ref a) (.tup l):=by
 refine .tup (jZ.of ?_) (q.mono (bb (bL h)))
 rw[cA,aK (r.new h)]
 exact aF
theorem mR{ta tb:TE}{g:PV->PV->Option α}{z:α}{Rr:V->V->Hp->Prop}(ha:Bc K κ ta fa)(hb:Bc K κ tb fb)(r:R K κ G A bo own ρ σ H)
  (e:((fa ρ).bind λx=>(fb ρ).bind λy=>g x y)=⇑z)(q:∀x y p q H',aA H H'->R K κ G A bo own ρ σ H'->BR K κ (cA A own ρ H') H' x p->BR K κ (cA A own ρ H') H' y q->g p q=⇑z->Rr x y H'):ta σ H λx H1=>tb σ H1 λy H2=>Rr x y H2:=by
 obtain⟨p1,e1,e⟩:=ZA.mp e
 obtain⟨p2,e2,e⟩:=ZA.mp e
 refine ha r e1 λx H1 s1 b1=>?_
 refine hb (r.mono s1) e2 λy H2 s2 b2=>?_
 exact q x y p1 p2 H2 (s1.trans s2) (r.mono (s1.trans s2)) (b1.Bd s2) b2 e
end
variable{X:Cx}{ex:Expr}{f:Den}
theorem DE.b(h:DE X κ ex f):DB X κ ex f:=let⟨te,h1,h2⟩:=h;⟨te,h1,λr e q=>h2 r e λv H' s z=>q v H' s (.inl z)⟩
theorem DO.e(h:DO X κ ex f):DE X κ ex f:=let⟨te,h1,h2⟩:=h;⟨te,h1,λr e q=>h2 r e λv H' s z=>q v H' s (z.rep r)⟩
theorem DO.b(h:DO X κ ex f):DB X κ ex f:=h.e.b
variable{c:Expr}{fc:Den}{pos:Pos}{x:Str}{op:CmpOp}{g:PV->PV->Option PV}{te:TE}{ft:dg}{es:List Expr}
section
variable{e a b:Expr}
theorem aj{i:Int}{j pos}:DE X κ (.Constant (.int i) j pos) (dC (.int i)):=⟨_,uJ,λ{_ _ _ _ _ _ H _ _} r e q=>by cases e;exact q _ H (aA.refl _) (.int i)⟩
theorem tS{i:Bool}{j pos}:DE X κ (.Constant (.bool i) j pos) (dC (.bl i)):=⟨_,Lr,λ{_ _ _ _ _ _ H _ _} r e q=>by cases e;exact q _ H (aA.refl _) (.bl i)⟩
theorem FH{j pos}:DE X κ (.Constant .none j pos) (dC .non):=⟨_,y7,λ{_ _ _ _ _ _ H _ _} r e q=>by cases e;exact q _ H (aA.refl _) .non⟩
theorem aZ{i:Str}{j pos}:DE X κ (.Constant (.str i) j pos) (dC (.str i)):=⟨_,uK,λ{_ _ _ _ _ _ H _ _} r e q=>by cases e;exact q _ H (aA.refl _) (.str i)⟩
theorem ae(i:Nat)(hN:X.N[i]?=⇑x:=by rfl)(hv:nW X.env.scope x:=by trivial)(hd:gz x:=by decide)
  (jQ:yZ x:=by decide):DB X κ (.Name x pos) (dV i):=⟨_,bS hN hv hd jQ,λ{G A _ own _ _ H p Q} r e q=>by
 unfold dV at e
 obtain⟨s,e1,e2⟩:=ZA.mp e
 cases s with
 |un=>cases e2
 |sh p'=>
  cases e2
  obtain⟨v,h1,h2⟩:=r.sh i _ e1
  exact⟨v,h1,q v H (aA.refl _) (.inl h2)⟩
 |own c=>
  cases c with
  |d _=>cases e2
  |l l=>
  cases e2
  obtain⟨h1,_,vs,h3,h4⟩:=r.ow i _ e1
  exact⟨_,h1,q _ H (aA.refl _) (.inr ⟨_,vs,l,rfl,rfl,SL.of h3,h4⟩)⟩
 |bw l=>
  cases e2
  obtain⟨a,vs,h0,h1,h4⟩:=r.bw i _ e1
  exact⟨_,h1,q _ H (aA.refl _) (.inr ⟨_,vs,l,rfl,rfl,SL.of (r.same _ _ (r.bg _ _ _ h0)),h4⟩)⟩⟩
theorem ah(i:Nat)(hN:X.N[i]?=⇑x:=by rfl)(hv:nW X.env.scope x:=by trivial)(hd:gz x:=by decide)
  (jQ:yZ x:=by decide):DE X κ (.Name x pos) (aP i):=⟨_,bS hN hv hd jQ,λ{G A _ own _ _ H p Q} r e q=>by
 unfold aP at e
 obtain⟨s,e1,e2⟩:=ZA.mp e
 cases s with
 |un=>cases e2
 |sh p'=>
  cases e2
  obtain⟨v,h1,h2⟩:=r.sh i _ e1
  exact⟨v,h1,q v H (aA.refl _) h2⟩
 |own l=>cases e2
 |bw l=>cases e2⟩
theorem tT{op:Operator}{C:Int->Int->Prop}{F:Int->Int->Int}(ho:iM X (binaryOp op) (rI C λi j=>.int (F i j)))(hg:∀p q z,g p q=⇑z->∃i j,p=.int i/\q=.int j/\C i j/\z=.int (F i j))
  (ha:DB X κ a fa)(hb:DB X κ b fb):DE X κ (.BinOp a op b pos) (ag g fa fb):=by
 obtain⟨_,h1,h2⟩:=ha
 obtain⟨_,h3,h4⟩:=hb
 refine⟨_,EX ho h1 h3,λ{G A _ _ _ _ H p Q} r e q=>?_⟩
 refine mR h2 h4 r e λx y _ _ H' s _ b1 b2 e'=>?_
 obtain⟨i,j,rfl,rfl,hC,rfl⟩:=hg _ _ _ e'
 exact⟨i,j,b1.int,b2.int,hC,q _ H' s (.int _)⟩
theorem zu{op:Operator}{F:Int->Int->Int}(ho:iM X (binaryOp op) (wF λi j=>.int (F i j)))(hg:∀p q z,g p q=⇑z->∃i j,p=.int i/\q=.int j/\z=.int (F i j))
  (ha:DB X κ a fa)(hb:DB X κ b fb):DE X κ (.BinOp a op b pos) (ag g fa fb):=by
 obtain⟨_,h1,h2⟩:=ha
 obtain⟨_,h3,h4⟩:=hb
 refine⟨_,EX ho h1 h3,λ{G A _ _ _ _ H p Q} r e q=>?_⟩
 refine mR h2 h4 r e λx y _ _ H' s _ b1 b2 e'=>?_
 obtain⟨i,j,rfl,rfl,rfl⟩:=hg _ _ _ e'
 exact⟨i,j,b1.int,b2.int,q _ H' s (.int _)⟩
theorem qC(ha:DB X κ a fa)(hb:DB X κ b fb):DE X κ (.BinOp a .Sub b pos) (ag wC fa fb):=zu MU (λp q z h=>by
 (cases p<;>first|(cases h;done)|skip)<;>cases q<;>first|(cases h;exact⟨_,_,rfl,rfl,rfl⟩)|cases h) ha hb
theorem qD(ha:DB X κ a fa)(hb:DB X κ b fb):DE X κ (.BinOp a .BitAnd b pos) (ag qt fa fb):=zu M0 (λp q z h=>by
 (cases p<;>first|(cases h;done)|skip)<;>cases q<;>first|(cases h;exact⟨_,_,rfl,rfl,rfl⟩)|cases h) ha hb
theorem FJ(ha:DB X κ a fa)(hb:DB X κ b fb):DE X κ (.BinOp a .BitOr b pos) (ag O6 fa fb):=zu PN (λp q z h=>by
 (cases p<;>first|(cases h;done)|skip)<;>cases q<;>first|(cases h;exact⟨_,_,rfl,rfl,rfl⟩)|cases h) ha hb
theorem aQ{c:Prop}[Decidable c]{x z:α}(h:(if c then ⇑x else none)=⇑z):c/\x=z:=by
 split at h
 ·exact⟨by assumption,ZX h⟩
 ·cases h
theorem iq(ha:DB X κ a fa)(hb:DB X κ b fb):DE X κ (.BinOp a .FloorDiv b pos) (ag ja fa fb):=tT Jd (λp q z h=>by
 (cases p<;>first|(cases h;done)|skip)<;>cases q<;>first|(cases h;done)|skip
 obtain⟨h1,h2⟩:=aQ h
 simp only[ZS,Re]at h1
 exact⟨_,_,rfl,rfl,h1,h2.symm⟩) ha hb
theorem bA(ha:DB X κ a fa)(hb:DB X κ b fb):DE X κ (.BinOp a .Mod b pos) (ag bT fa fb):=tT MW (λp q z h=>by
 (cases p<;>first|(cases h;done)|skip)<;>cases q<;>first|(cases h;done)|skip
 obtain⟨h1,h2⟩:=aQ h
 simp only[ZS,Re]at h1
 exact⟨_,_,rfl,rfl,h1,h2.symm⟩) ha hb
theorem FK(ha:DB X κ a fa)(hb:DB X κ b fb):DE X κ (.BinOp a .Pow b pos) (ag JE fa fb):=tT MX (λp q z h=>by
 (cases p<;>first|(cases h;done)|skip)<;>cases q<;>first|(cases h;done)|skip
 obtain⟨h1,h2⟩:=aQ h
 simp only[j9,ZS,Re]at h1
 exact⟨_,_,rfl,rfl,⟨h1.1.1,h1.1.2,h1.2⟩,h2.symm⟩) ha hb
theorem lZ(ha:DB X κ a fa)(hb:DB X κ b fb):DE X κ (.BinOp a .LShift b pos) (ag mM fa fb):=tT MY (λp q z h=>by
 (cases p<;>first|(cases h;done)|skip)<;>cases q<;>first|(cases h;done)|skip
 obtain⟨h1,h2⟩:=aQ h
 simp only[j9,ZS,Re]at h1
 exact⟨_,_,rfl,rfl,⟨h1.1.1,h1.1.2,h1.2⟩,h2.symm⟩) ha hb
theorem FL(ha:DB X κ a fa)(hb:DB X κ b fb):DE X κ (.BinOp a .RShift b pos) (ag zp fa fb):=tT MZ (λp q z h=>by
 (cases p<;>first|(cases h;done)|skip)<;>cases q<;>first|(cases h;done)|skip
 obtain⟨h1,h2⟩:=aQ h
 simp only[ZS,Re]at h1
 exact⟨_,_,rfl,rfl,h1,h2.symm⟩) ha hb
theorem jA(ha:DB X κ a fa)(hb:DB X κ b fb):DE X κ (.BinOp a .Mult b pos) (ag j8 fa fb):=tT MV (λp q z h=>by
 (cases p<;>first|(cases h;done)|skip)<;>cases q<;>first|(cases h;done)|skip
 obtain⟨h1,h2⟩:=aQ h
 simp only[mL,Y6,ZS,Re]at h1
 exact⟨_,_,rfl,rfl,h1,h2.symm⟩) ha hb
theorem Nq(ha:DB X κ a fa):DE X κ (.UnaryOp .USub a pos) (bC Qj fa):=by
 obtain⟨_,h1,h2⟩:=ha
 refine⟨_,PL M1 h1,λ{G A _ _ _ _ H p Q} r e q=>?_⟩
 obtain⟨p1,e1,e⟩:=ZA.mp e
 refine h2 r e1 λx H1 s1 b1=>?_
 cases p1<;>first|(cases e;done)|skip
 cases e
 exact⟨_,b1.int,q _ H1 s1 (.int _)⟩
theorem Nr{K:aX}:iM X (binaryOp .Add) (λx y H Q=>∃l b xs zs,x=.ref l/\y=.ref b/\SL X.K H l xs/\SL X.K H b zs/\xs.length+zs.length<=sizeLine/\∀p,H p=none->Q (.ref p) (upd H p (.lst (xs++zs)))):=by
 intro _ s _ H x y v u Q I rx ry h
 obtain⟨l,b,xs,zs,rfl,rfl,hH,hB,_,q⟩:=h
 cases rx
 cases ry
 obtain⟨its,n,r,ho,z⟩:=I.sl hH
 obtain⟨sO,_,r2,LD,_⟩:=I.sl hB
 have l1:=r.length
 have l2:=r2.length
 refine PySem.P.add_list ho LD ?_ (by rw[ZH,ZH];omega)
 have ea:its.toArray++sO.toArray=(its++sO).toArray:=by simp
 rw[ea]
 exact⟨.ref _,_,I.Tg (t':=s.toks) (r.append r2) (by rw[ZT];omega),rfl,q _ I.fresh⟩
theorem bq(ha:DB X κ a fa)(hb:DB X κ b fb):DE X κ (.BinOp a .Add b pos) (ag bP fa fb):=by
 obtain⟨_,h1,h2⟩:=ha
 obtain⟨_,h3,h4⟩:=hb
 refine⟨_,EX (MT.or (zc.or (Nr (K:=X.K)))) h1 h3,λ{G A _ _ _ _ H p Q} r e q=>?_⟩
 refine mR h2 h4 r e λx y p1 p2 H' s r' b1 b2 e'=>?_
 (cases p1<;>first|(cases e';done)|skip)<;>cases p2<;>first|(cases e';done)|skip
 ·cases e'
  exact .inl ⟨_,_,b1.int,b2.int,q _ H' s (.int _)⟩
 ·obtain⟨h1,rfl⟩:=aQ e'
  exact .inr (.inl ⟨_,_,b1.str,b2.str,h1,q _ H' s (.str _)⟩)
 ·obtain⟨h1,rfl⟩:=aQ e'
  obtain⟨a1,Qo,rfl,q1,w1⟩:=b1.lst aE
  obtain⟨a2,Wr,rfl,q2,w2⟩:=b2.lst aE
  refine .inr (.inr ⟨a1,a2,Qo,Wr,rfl,rfl,q1,q2,by rw[w1.length,w2.length];exact h1,λp hp=>?_⟩)
  exact q _ _ (s.trans (bL hp)) ((r'.sQ hp (w1.append w2)).rep r')
def DC(X:Cx)(κ:Kl)(op:CmpOp)(a b:Expr)(f:Den):Prop:=∃r ta tb,iM X (compareOp op) r/\PE X a ta/\PE X b tb/\FG X.K κ (PJ r ta tb) f
theorem l7(h:DC X κ op a b f)(hm:behindInMarks op b=false:=by first|exact E3 _|with_unfolding_all rfl):DE X κ (.Compare a [op] [b] pos) f:=
 let⟨_,_,_,h1,h2,h3,h4⟩:=h;⟨_,Jg h1 h2 h3 hm,h4⟩
theorem pN{K:aX}(h:FG K κ te f):RY K κ (E4 te) (tV f):=λ{G A _ _ _ _ H b Q} r e q=>by
 obtain⟨p,e1,e2⟩:=ZA.mp e
 refine h r e1 λv H' s z=>?_
 cases p<;>first|(cases e2;done)|skip
 cases e2
 exact⟨_,z.C7,q H' s⟩
theorem a9(h:DC X κ op a b f)(hm:behindInMarks op b=false:=by first|exact E3 _|with_unfolding_all rfl):DT X κ (.Compare a [op] [b] pos) (tV f):=
 let⟨_,_,_,h1,h2,h3,h4⟩:=h;⟨_,Jh h1 h2 h3 hm,pN h4⟩
theorem jB(h:DE X κ e f)(he:∀whole,isTrue e X.env whole=(do let v<-whole;standAt e.pos;holding [v] (truthy v)):=by intro _;rfl):DT X κ e (tV f):=
 let⟨_,h1,h2⟩:=h;⟨_,ER h1 he,pN h2⟩
theorem Nt{F:Int->Int->Bool}(ho:iM X (compareOp op) (wF λi j=>.bl (F i j)))(hg:∀p q z,g p q=⇑z->∃i j,p=.int i/\q=.int j/\z=.bl (F i j))
  (ha:DB X κ a fa)(hb:DB X κ b fb):DC X κ op a b (ag g fa fb):=by
 obtain⟨_,h1,h2⟩:=ha
 obtain⟨_,h3,h4⟩:=hb
 refine⟨_,_,_,ho,h1,h3,λ{G A _ _ _ _ H p Q} r e q=>?_⟩
 refine mR h2 h4 r e λx y _ _ H' s _ b1 b2 e'=>?_
 obtain⟨i,j,rfl,rfl,rfl⟩:=hg _ _ _ e'
 exact⟨i,j,b1.int,b2.int,q _ H' s (.bl _)⟩
theorem wY(ha:DB X κ a fa)(hb:DB X κ b fb):DC X κ .Lt a b (ag EJ fa fb):=Nt Lx (λp q z h=>by
 (cases p<;>first|(cases h;done)|skip)<;>cases q<;>first|(cases h;exact⟨_,_,rfl,rfl,rfl⟩)|cases h) ha hb
theorem Be(ha:DB X κ a fa)(hb:DB X κ b fb):DC X κ .Gt a b (ag LF fa fb):=Nt PX (λp q z h=>by
 (cases p<;>first|(cases h;done)|skip)<;>cases q<;>first|(cases h;exact⟨_,_,rfl,rfl,rfl⟩)|cases h) ha hb
theorem Qp(ha:DB X κ a fa)(hb:DB X κ b fb):DC X κ .GtE a b (ag Vc fa fb):=Nt PY (λp q z h=>by
 (cases p<;>first|(cases h;done)|skip)<;>cases q<;>first|(cases h;exact⟨_,_,rfl,rfl,rfl⟩)|cases h) ha hb
variable{fu:dg}{rest:List Expr}
theorem kf(ha:DT X κ a ft):DT X κ (.UnaryOp .Not a pos) (j2 ft):=by
 obtain⟨_,h1,h2⟩:=ha
 refine⟨_,ES h1,λ{G A _ _ _ _ H p Q} r e q=>?_⟩
 obtain⟨c,e1,rfl⟩:=ZC.mp e
 exact h2 r e1 λH' s=>q H' s
theorem pO(ha:DT X κ a ft):DW X κ (.BoolOp .And [a] pos) ft:=let⟨_,h1,h2⟩:=ha;⟨_,pw_and1 h1,h2⟩
theorem FR(ha:DT X κ a ft):DW X κ (.BoolOp .Or [a] pos) ft:=let⟨_,h1,h2⟩:=ha;⟨_,pw_or1 h1,h2⟩
theorem vd(ha:DT X κ a ft)(hb:DW X κ (.BoolOp .And (b::rest) pos) fu):DW X κ (.BoolOp .And (a::b::rest) pos) (mD ft fu):=by
 obtain⟨_,h1,h2⟩:=ha
 obtain⟨_,h3,h4⟩:=hb
 refine⟨_,pw_and h1 h3,λ{G A _ _ _ _ H p Q} r e q=>?_⟩
 obtain⟨c,e1,e2⟩:=ZA.mp e
 refine h2 r e1 λH1 s1=>?_
 cases c with
 |true=>exact h4 (r.mono s1) e2 λH2 s2=>q H2 (s1.trans s2)
 |false=>cases e2;exact q H1 s1
theorem LJ(ha:DT X κ a ft)(hb:DW X κ (.BoolOp .Or (b::rest) pos) fu):DW X κ (.BoolOp .Or (a::b::rest) pos) (II ft fu):=by
 obtain⟨_,h1,h2⟩:=ha
 obtain⟨_,h3,h4⟩:=hb
 refine⟨_,pw_or h1 h3,λ{G A _ _ _ _ H p Q} r e q=>?_⟩
 obtain⟨c,e1,e2⟩:=ZA.mp e
 refine h2 r e1 λH1 s1=>?_
 cases c with
 |false=>exact h4 (r.mono s1) e2 λH2 s2=>q H2 (s1.trans s2)
 |true=>cases e2;exact q H1 s1
theorem DW.t(h:DW X κ e ft):DT X κ e ft:=let⟨_,h1,h2⟩:=h;⟨_,h1.pt,h2⟩
theorem zw{op}(h:DE X κ a f):DE X κ (.BoolOp op [a] pos) f:=let⟨_,h1,h2⟩:=h;⟨_,MC h1,h2⟩
theorem ve(ha:DE X κ a fa)(hb:DE X κ (.BoolOp .And (b::rest) pos) fb):DE X κ (.BoolOp .And (a::b::rest) pos) (tQ fa fb):=by
 obtain⟨_,h1,h2⟩:=ha
 obtain⟨_,h3,h4⟩:=hb
 refine⟨_,MD h1 h3,λ{G A _ _ _ _ H p Q} r e q=>?_⟩
 obtain⟨x,e1,e2⟩:=ZA.mp e
 obtain⟨c,e3,e4⟩:=ZA.mp e2
 refine h2 r e1 λv H1 s1 z=>?_
 cases x<;>first|(cases e3;done)|skip
 cases e3
 refine⟨_,z.C7,?_⟩
 cases c with
 |true=>exact h4 (r.mono s1) e4 λv H2 s2 z=>q v H2 (s1.trans s2) z
 |false=>cases e4;exact q _ H1 s1 (.bl _)
theorem JI(ha:DE X κ a fa):DE X κ (.UnaryOp .Not a pos) (LI fa):=by
 obtain⟨_,h1,h2⟩:=ha
 refine⟨_,ME h1,λ{G A _ _ _ _ H p Q} r e q=>?_⟩
 obtain⟨x,e1,e2⟩:=ZA.mp e
 obtain⟨c,e3,rfl⟩:=ZC.mp e2
 refine h2 r e1 λv H1 s1 z=>?_
 cases x<;>first|(cases e3;done)|skip
 cases e3
 exact⟨_,z.C7,q _ H1 s1 (.bl _)⟩
def DA(X:Cx)(κ:Kl)(es:List Expr)(f:bZ):Prop:=∃ta,PA X es ta/\∀{G A bo own ρ σ H ps Q},R X.K κ G A bo own ρ σ H->f ρ=⇑ps->(∀vs H',aA H H'->aL X.K κ (cA A own ρ H') vs ps->Q vs H')->ta σ H Q
inductive Nu(K:aX)(κ:Kl)(hH H:Hp):List V->List PV->Prop
 |nil:Nu K κ hH H [] []
 |cons {v:V} {p:PV} {vs:List V} {l:List PV}:BR K κ hH H v p->Nu K κ hH H vs l->Nu K κ hH H (v::vs) (p::l)
theorem Nu.full{K:aX}(s:aA hH H):∀{vs:List V} {ps:List PV},Nu K κ hH H vs ps->aL K κ H vs ps
 |_,_,.nil=>.nil
 |_,_,.cons r t=>.cons (r.full s) (Nu.full s t)
def RZ(X:Cx)(κ:Kl)(es:List Expr)(f:bZ):Prop:=∃ta,PA X es ta/\∀{G A bo own ρ σ H ps Q},R X.K κ G A bo own ρ σ H->f ρ=⇑ps->(∀vs H',aA H H'->Nu X.K κ (cA A own ρ H') H' vs ps->Q vs H')->ta σ H Q
variable{fs:bZ}
theorem ao:DA X κ [] aB:=⟨_,bx,λ{G A _ _ _ _ H _ Q} r e q=>by cases e;exact q [] H (aA.refl _) .nil⟩
theorem JJ:RZ X κ [] aB:=⟨_,bx,λ{G A _ _ _ _ H _ Q} r e q=>by cases e;exact q [] H (aA.refl _) .nil⟩
theorem aa(ha:DE X κ a fa)(hr:DA X κ es fs)(hs:gd a es X.env:=by rfl):DA X κ (a::es) (af fa fs):=by
 obtain⟨_,h1,h2⟩:=ha
 obtain⟨_,h3,h4⟩:=hr
 refine⟨_,aN h1 h3 hs,λ{G A _ _ _ _ H _ Q} r e q=>?_⟩
 obtain⟨x,e1,e2⟩:=ZA.mp e
 obtain⟨_,e3,e4⟩:=ZA.mp e2
 cases e4
 refine h2 r e1 λv _ s1 z1=>h4 (r.mono s1) e3 λ_ H2 s2 z2=>q _ H2 (s1.trans s2) (.cons (z1.mono (bb s2)) z2)
theorem wZ(ha:DB X κ a fa)(hr:RZ X κ es fs)(hs:gd a es X.env:=by rfl):RZ X κ (a::es) (af fa fs):=by
 obtain⟨_,h1,h2⟩:=ha
 obtain⟨_,h3,h4⟩:=hr
 refine⟨_,aN h1 h3 hs,λ{G A _ _ _ _ H _ Q} r e q=>?_⟩
 obtain⟨x,e1,e2⟩:=ZA.mp e
 obtain⟨_,e3,e4⟩:=ZA.mp e2
 cases e4
 refine h2 r e1 λv _ s1 z1=>h4 (r.mono s1) e3 λ_ H2 s2 z2=>q _ H2 (s1.trans s2) (.cons (z1.Bd s2) z2)
theorem fV(h:DA X κ es fs):DO X κ (.List es pos) (jh fs):=by
 obtain⟨_,h1,h2⟩:=h
 refine⟨_,zg h1,λ{G A _ _ _ _ H _ Q} r e q=>?_⟩
 obtain⟨x,e1,e2⟩:=ZA.mp e
 obtain⟨h3,rfl⟩:=aQ e2
 refine h2 r e1 λ_ _ s1 z1=>⟨by rw[z1.length];exact h3,λp hp=>q _ _ (s1.trans (bL hp)) ?_⟩
 obtain⟨a,ws,l,w1,w2,_,w4⟩:=(r.mono s1).sQ hp z1
 refine⟨a,ws,l,w1,w2,?_,w4⟩
 cases w1
 exact s1.free hp
theorem cN{x1}(h:DA X κ es fs):DE X κ (.Tuple es x1 pos) (eW fs):=by
 obtain⟨_,h1,h2⟩:=h
 refine⟨_,M5 h1,λ{G A _ _ _ _ H _ Q} r e q=>?_⟩
 obtain⟨x,e1,e2⟩:=ZA.mp e
 obtain⟨h3,rfl⟩:=aQ e2
 exact h2 r e1 λ_ _ s1 z1=>⟨by rw[z1.length];exact h3,λp hp=>q _ _ (s1.trans (bL hp)) ((r.mono s1).Qn hp z1)⟩
end
def RR(fr:Bool)(K:aX)(κ:Kl)(A:Addr->Prop)(G H':Hp)(v:V)(p:PV):Prop:=if fr=true then OR K κ A G H' v p else Rep K κ (hide A H') v p
def FU(K:aX)(κ:Kl)(fr:Bool)(G:Hp)(A:Addr->Prop)(bo:Nat->Option (Addr×List V))(D:Ends):Fl->Prop
 |.nx ρ'=>∀c7 σ' H',R K κ G A bo c7 ρ' σ' H'->D.nx σ' H'
 |.bk ρ'=>∀c7 σ' H',R K κ G A bo c7 ρ' σ' H'->D.bk σ' H'
 |.ct ρ'=>∀c7 σ' H',R K κ G A bo c7 ρ' σ' H'->D.ct σ' H'
 |.rt p=>∀v H',aA G H'->RR fr K κ A G H' v p->D.rt v H'
def Nv(K:aX)(κ:Kl)(fr:Bool)(ts:TS)(g:aT):Prop:=
 ∀{G A bo own ρ σ H fl D},R K κ G A bo own ρ σ H->g ρ=⇑fl->FU K κ fr G A bo D fl->ts D σ H
def DS(X:Cx)(κ:Kl)(fr:Bool)(st:Stmt)(g:aT):Prop:=∃ts,PS X st ts/\Nv X.K κ fr ts g
def IM(X:Cx)(κ:Kl)(fr:Bool)(st:List Stmt)(g:aT):Prop:=∃ts,sL X st ts/\Nv X.K κ fr ts g
theorem O9{K:aX}{B:Addr->Prop}(h:OR K κ B H H' v p)(s:aA G H)(Ws:∀b,A b->B b):OR K κ A G H' v p:=by
 obtain⟨a,vs,l,h1,h2,h3,h4,h5⟩:=h
 exact⟨a,vs,l,h1,h2,s.free h3,h4,h5.mono (bW (λ_ _ z=>z) λb z _=>z.imp (Ws b) id)⟩
variable{fr:Bool}{st:Stmt}{p':Pos}{ws:List V}
section
variable{rest:List Stmt}{g g':aT}{e a b:Expr}
theorem bR:IM X κ fr [] bQ:=⟨_,pK,λ{G A _ own _ σ H _ D} r e k=>by cases e;exact k own σ H r⟩
theorem JK{K:aX}{t u:TS}(h1:Nv K κ fr t g)(h2:Nv K κ fr u g'):Nv K κ fr (Jb t u) (aU g g'):=λ{G A _ _ _ _ H _ D} r e k=>by
 obtain⟨f1,e1,e2⟩:=ZA.mp e
 refine h1 r e1 ?_
 cases f1 with
 |nx ρ'=>exact λ_ _ _ r'=>h2 r' e2 k
 |rt p=>cases e2;exact k
 |bk ρ'=>cases e2;exact k
 |ct ρ'=>cases e2;exact k
theorem aq(h1:DS X κ fr st g)(h2:IM X κ fr rest g'):IM X κ fr (st::rest) (aU g g'):=
 let⟨_,a1,a2⟩:=h1;let⟨_,b1,b2⟩:=h2;⟨_,b6 a1 b1,JK a2 b2⟩
theorem ay(h1:DS X κ fr st g):IM X κ fr [st] g:=let⟨_,a1,a2⟩:=h1;⟨_,dj a1,a2⟩
theorem FV:DS X κ fr (.Break pos) qv:=⟨_,ET,λ{G A _ own _ σ H _ D} r e k=>by cases e;exact k own σ H r⟩
theorem bH(h:DE X κ e f):DS X κ false (.Return ⇑e pos) (bO f):=by
 obtain⟨_,h1,h2⟩:=h
 refine⟨_,fR h1,λ{G A _ _ _ _ H _ D} r e k=>?_⟩
 obtain⟨p,e1,rfl⟩:=ZC.mp e
 refine h2 r e1 λv H' s z=>k v H' (r.same.trans s) ?_
 exact z.mono (bW (λ_ _ q=>q) λb q _=>.inl q)
theorem jC(h:DO X κ e f):DS X κ true (.Return ⇑e pos) (bO f):=by
 obtain⟨_,h1,h2⟩:=h
 refine⟨_,fR h1,λ{G A _ _ _ _ H _ D} r e k=>?_⟩
 obtain⟨p,e1,rfl⟩:=ZC.mp e
 refine h2 r e1 λv H' s z=>k v H' (r.same.trans s) ?_
 exact O9 z r.same λb q=>.inl q
theorem g9{l:List PV}(h:sP ρ i=⇑l):ρ[i]?=⇑(.ow l):=by
 unfold sP at h
 split at h
 ·rename_i l' e
  cases h
  exact e
 ·cases h
theorem pP(i:Nat)(hN:X.N[i]?=⇑x:=by rfl)(hv:nW X.env.scope x:=by trivial)(hd:gz x:=by decide)
  (jQ:yZ x:=by decide):DS X κ true (.Return ⇑(.Name x p') pos) (tR i):=by
 refine⟨_,fR (bS hN hv hd jQ),λ{G A _ own _ _ H _ D} r e k=>?_⟩
 obtain⟨l,e1,rfl⟩:=ZC.mp e
 obtain⟨h1,h3,vs,h4,h5⟩:=r.ow i (.l l) (g9 e1)
 change H (own i)=⇑(.lst vs)at h4
 change aL _ _ _ vs l at h5
 refine⟨_,h1,k _ H r.same ?_⟩
 exact⟨own i,vs,l,rfl,rfl,h3,h4,h5.mono (bW (λ_ _ z=>z) λb z _=>by
  rcases z with z|z
  ·exact .inl z
  ·exact .inr ⟨i,.l l,g9 e1,z.symm⟩)⟩
theorem dh{sa sb:List Stmt}(hc:DT X κ c ft)(ha:IM X κ fr sa g)(hb:IM X κ fr sb g'):DS X κ fr (.If c sa sb pos) (gy ft g g'):=by
 obtain⟨_,h5,h6⟩:=hc
 obtain⟨_,h1,h2⟩:=ha
 obtain⟨_,h3,h4⟩:=hb
 refine⟨_,tG h5 h1 h3,λ{G A _ _ _ _ H _ D} r e k=>?_⟩
 obtain⟨c,e1,e2⟩:=ZA.mp e
 refine h6 r e1 λ_ s1=>?_
 cases c with
 |true=>exact h2 (r.mono s1) e2 k
 |false=>exact h4 (r.mono s1) e2 k
theorem ba(i:Nat)(hN:X.N.Nodup)(h:DE X κ e f)(hi:X.N[i]?=⇑x:=by rfl)(hx:Loc X.env.scope x:=by trivial)(hs:swapsWith e ⇑(.Name x p') pos.line X.env=pure false:=by rfl)
  (hf:X.fn x=true\/X.env.scope.names.lookup x=some .local:=by trivial):DS X κ fr (.Assign [.Name x p'] e pos) (bK i f):=by
 obtain⟨_,h1,h2⟩:=h
 refine⟨_,eC hN hi hx h1 hs hf,λ{G A _ _ _ _ H _ D} r e k=>?_⟩
 obtain⟨p,e1,rfl⟩:=ZC.mp e
 exact h2 r e1 λv _ s z=>k _ _ _ ((r.mono s).set z)
theorem R.Qq{K:aX}(r:R K κ G A bo own ρ σ H)(s:aA H H'){l:List PV}(z:OR K κ (cg A own ρ) H H' v (.lst l)):
  ∃c7,R K κ G A bo c7 (ρ.set i (.ow l)) (σ.set i ⇑v) H':=by
 obtain⟨a,_,_,rfl,z2,h3,h4,h5⟩:=z
 cases z2
 refine⟨_,r.Ql (r.same.free h3) (λq=>r.new h3 (.inl q)) (λj m e _ q=>r.new h3 (.inr ⟨j,m,e,q⟩)) ?_ (λb o q _=>s b o q) h4 h5⟩
 exact bW s λb w nz=>by
  rcases w with w|w
  ·exact w
  ·rw[w]at nz
   exact absurd h3 nz
theorem mS(i:Nat)(hN:X.N.Nodup)(h:DO X κ e f)(hi:X.N[i]?=⇑x:=by rfl)(hx:Loc X.env.scope x:=by trivial)(hs:swapsWith e ⇑(.Name x p') pos.line X.env=pure false:=by rfl)
  (hf:X.fn x=true\/X.env.scope.names.lookup x=some .local:=by trivial):DS X κ fr (.Assign [.Name x p'] e pos) (mO i f):=by
 obtain⟨_,h1,h2⟩:=h
 refine⟨_,eC hN hi hx h1 hs hf,λ{G A _ _ _ _ H _ D} r e k=>?_⟩
 obtain⟨p,e1,e2⟩:=ZA.mp e
 obtain⟨l,e3,rfl⟩:=ZC.mp e2
 refine h2 r e1 λv _ s z=>?_
 cases p<;>first|(cases e3;done)|skip
 cases e3
 obtain⟨_,r'⟩:=r.Qq s (i:=i) z
 exact k _ _ _ r'
theorem vf(h:DB X κ e f)(hs:swapsWith e none pos.line X.env=pure false:=by rfl):DS X κ fr (.Expr e pos) (lG f):=by
 obtain⟨_,h1,h2⟩:=h
 refine⟨_,eL h1 hs,λ{G A _ _ _ _ H _ D} r e k=>?_⟩
 obtain⟨p,e1,rfl⟩:=ZC.mp e
 exact h2 r e1 λv _ s z=>k _ _ _ (r.mono s)
theorem R.TC{K:aX}(r:R K κ G A bo own ρ σ H){l l':Cn}(h:ρ[i]?=⇑(.own l))(q:aL K κ (cA A own ρ H) ws (Nn l')):
  ∃c7,R K κ G A bo c7 (ρ.set i (.own l')) σ (upd H (own i) (FC l' ws)):=by
 obtain⟨h1,h3,vs,_,_⟩:=r.ow i l h
 have e:σ.set i ⇑(.ref (own i))=σ:=by
  obtain⟨hl,hx⟩:=ZL.mp h1
  rw[<-hx]
  exact List.set_getElem_self hl
 have hs:cg A own ρ (own i):=.inr ⟨i,l,h,rfl⟩
 have he:hide (λb=>cg A own ρ b\/b=own i) (upd H (own i) (FC l' ws))=cA A own ρ H:=by
  rw[dH (.inr rfl)]
  congr 1
  funext b
  refine propext ⟨λz=>?_,.inl⟩
  rcases z with z|z
  ·exact z
  ·rw[z]
   exact hs
 have:=r.Ql (i:=i) (a:=own i) (vs:=ws) (l:=l') (H1:=upd H (own i) (FC l' ws)) h3 (λz=>r.al _ z h3) (λj m e' hj z=>hj (r.inj j i _ _ e' h z)) (by rw[he];exact λ_ _ z=>z) (λb o z hb=>by rw[au hb];exact z) aF (by rw[he];exact q)
 rw[e]at this
 exact⟨_,this⟩
def Qr(K:aX)(κ:Kl)(rm:V->List V->Hp->VK->Prop)(gm:List PV->List PV->Option (List PV)):Prop:=
 ∀{hH H:Hp} {a:Addr} {vs ws:List V} {l xs l':List PV} {Q:VK},aA hH H->H a=⇑(.lst vs)->aL K κ hH vs l->aL K κ hH ws xs->gm l xs=⇑l'->(∀us,aL K κ hH us l'->Q .non (upd H a (.lst us)))->rm (.ref a) ws H Q
theorem R.mut{K:aX}(r:R K κ G A bo own ρ σ H){l l':List PV}(h:ρ[i]?=⇑(.ow l))(q:aL K κ (cA A own ρ H) ws l'):
 ∃c7,R K κ G A bo c7 (ρ.set i (.ow l')) σ (upd H (own i) (.lst ws)):=r.TC (l:=.l l) (l':=.l l') h q
theorem JL{K:aX}{rm:V->List V->Hp->VK->Prop}{gm:List PV->List PV->Option (List PV)}{fs:bZ}{ta:TA}(i:Nat)(hg:Qr K κ rm gm)
  (ha:∀{G A bo own ρ σ H ps Q},R K κ G A bo own ρ σ H->fs ρ=⇑ps->(∀vs H',aA H H'->aL K κ (cA A own ρ H') vs ps->Q vs H')->ta σ H Q):Nv K κ fr (AS (UY K "list" rm (lU i) ta)) (qw i gm fs):=λ{G A bo own ρ σ H _ D} r e k=>by
 obtain⟨_,e1,e2⟩:=ZA.mp e
 obtain⟨l,e3,e4⟩:=ZA.mp e2
 obtain⟨_,e5,rfl⟩:=ZC.mp e4
 have Jw:=g9 e3
 obtain⟨h1,_,vs,h4,h5⟩:=r.ow i (.l l) Jw
 change H (own i)=⇑(.lst vs)at h4
 change aL _ _ _ vs l at h5
 refine⟨_,h1,.inl ⟨rfl,vs,jv.of h4⟩,ha r e1 λ_ _ s2 z2=>?_⟩
 refine hg aE (s2 _ _ h4) (h5.mono (bb s2)) z2 e5 λ_ z=>?_
 obtain⟨_,r'⟩:=(r.mono s2).mut Jw z
 exact k _ _ _ r'
theorem hJ{apos bz:Pos}{ee:Expr}{fs:bZ}(i:Nat)(ha:DA X κ [ee] fs)(hN:X.N[i]?=⇑x:=by rfl)(hv:nW X.env.scope x:=by trivial)(hd:gz x:=by decide)
  (jQ:yZ x:=by decide)(dU:attributeBase (.Name x p') "append" X.env (eval (.Name x p') X.env)=eval (.Name x p') X.env:=by rfl)
  (j5:((backTo bz (starEach [ee] X.env)).all (λx=>!x.1)&&(backToKw bz (keywordEach [] X.env)).all (λx=>x.1.isSome)
    &&decide ([ee].length+([]:List Keyword).length+(if([]:List Keyword).isEmpty then 0 else 1)<30))=true:=by rfl)
  (hs:swapsWith (.Call (.Attribute (.Name x p') "append" apos) [ee] [] bz) none pos.line X.env=pure false:=by rfl)(dW:(apos.endLine==bz.line)=true:=by rfl)(ib:gd ee [] X.env:=by rfl):
  DS X κ fr (.Expr (.Call (.Attribute (.Name x p') "append" apos) [ee] [] bz) pos) (qw i eM fs):=by
 obtain⟨_,h1,h2⟩:=ha
 refine⟨_,eL (tO Yw Yu Yv oi (bS hN hv hd jQ) h1 dU j5 dW ib rfl) hs,JL i ?_ h2⟩
 intro _ H a vs _ l _ _ Q s h3 h4 h5 h6 q
 unfold eM at h6
 split at h6
 ·obtain⟨h7,rfl⟩:=aQ h6
  cases h5 with
  |cons z t=>
   cases t
   exact⟨a,vs,_,rfl,rfl,h3,by rw[h4.length];exact h7,q _ (h4.append (.cons z .nil))⟩
 ·cases h6
end
def sR(K:aX)(κ:Kl)(Gs:Hp)(A:Addr->Prop)(J:It)(ps:List PV):Prop:=
 ∀(i:Nat) (H2:Hp),aA Gs H2->(∀p,ps[i]?=⇑p->J.go i H2/\∀x H3,J.yld i H2 x H3->aA H2 H3/\∀B:Addr->Prop,(∀b,B b->H2 b≠none)->aA (hide A Gs) (hide B H2)->Rep K κ (hide B H3) x p)/\(ps.length<=i->J.stop i H2)
def DI(X:Cx)(κ:Kl)(tg iter:Expr)(f:bZ):Prop:=∃wi,PI X tg iter wi/\∀{G A bo own ρ σ H ps Q},R X.K κ G A bo own ρ σ H->f ρ=⇑ps->(∀J H',aA H H'->sR X.K κ (IJ own ρ H') A J ps->Q J H')->wi σ H Q
def JM(X:Cx)(κ:Kl)(tg iter:Expr)(f:bZ):Prop:=∃wi,PI X tg iter wi/\∀{G A bo own ρ σ H ps Q},R X.K κ G A bo own ρ σ H->f ρ=⇑ps->(∀J H',aA H H'->sR X.K κ H' (cg A own ρ) J ps->Q J H')->wi σ H Q
def DG(X:Cx)(κ:Kl)(tg:Expr)(g:qy):Prop:=∃tt,PG X tg tt/\∀{G A bo own ρ σ H p v ρ' Q},R X.K κ G A bo own ρ σ H->Rep X.K κ (cA A own ρ H) v p->g p ρ=⇑ρ'->(∀c7 σ',R X.K κ G A bo c7 ρ' σ' H->aA (cA A own ρ H) (cA A c7 ρ' H)->Q σ' H)->tt v σ H Q
variable{lo:Int}{n:Nat}
section
variable{K:aX}{Gs:Hp}{l:List PV}
theorem oo(h:SL K Gs a vs)(q:aL K κ (hide A Gs) vs l):sR K κ Gs A (SV K a) l:=λi H2 s=>by
 have h2:jv K H2 a vs:=(s.sl h).sq
 refine⟨λp e=>?_,λhl=>⟨vs,h2,by rw[q.length];exact hl⟩⟩
 obtain⟨v,e1,r1⟩:=q.get e
 refine⟨⟨vs,v,h2,e1⟩,λx _ ⟨y1,y2⟩=>?_⟩
 subst y1
 have:=y2 vs h2
 rw[e1]at this
 cases this
 exact⟨aA.refl _,λB _ sb=>r1.mono sb⟩
theorem FW(h:jZ K Gs a vs)(q:aL K κ (hide A Gs) vs l):sR K κ Gs A (SW K a) l:=λi H2 s=>by
 have h2:jZ K H2 a vs:=qB s h
 refine⟨λp e=>?_,λhl=>⟨vs,h2,by rw[q.length];exact hl⟩⟩
 obtain⟨v,e1,r1⟩:=q.get e
 refine⟨⟨vs,v,h2,e1⟩,λx _ ⟨y1,y2⟩=>?_⟩
 subst y1
 have:=y2 vs h2
 rw[e1]at this
 cases this
 exact⟨aA.refl _,λB _ sb=>r1.mono sb⟩
theorem zx(h:(gD lo n)[i]?=⇑p):i<n/\p=.int (lo+(i:Nat)):=by
 unfold gD at h
 rw[Za]at h
 obtain⟨k,h1,rfl⟩:=ZC.mp h
 obtain⟨h2,h3⟩:=ZL.mp h1
 rw[List.getElem_range]at h3
 subst h3
 exact⟨by simpa using h2,rfl⟩
theorem l8:sR K κ Gs A (PD lo n) (gD lo n):=λi _ s=>by
 refine⟨λp e=>?_,λhl=>show n<=i by simpa[gD]using hl⟩
 obtain⟨h1,rfl⟩:=zx e
 refine⟨h1,λx _ ⟨y1,y2⟩=>?_⟩
 subst y1 y2
 exact⟨aA.refl _,λB _ _=>.int _⟩
end
variable{iter:Expr}{fi:bZ}{gt:qy}{body:List Stmt}
section
variable{g:aT}{e a b tg:Expr}{gu:qy}
theorem JN:aA (cA A own ρ H) (IJ own ρ H):=by
 rw[<-wX]
 exact aE
theorem vg(h:DE X κ e f):DI X κ tg e (nList f):=by
 obtain⟨_,h1,h2⟩:=h
 refine⟨_,uL h1,λ{G A _ own ρ _ H _ Q} r e q=>?_⟩
 obtain⟨p,e1,e2⟩:=ZA.mp e
 refine h2 r e1 λv H' s z=>?_
 cases p<;>first|(cases e2;done)|skip
 cases e2
 cases z with
 |lst q1 q2=>exact⟨_,rfl,⟨_,((aE (A:=cg A own ρ)).sl q1).sq⟩,q _ H' s (oo (JN.sl q1) (by rw[wX];exact q2))⟩
theorem eG(h:DB X κ e f):JM X κ tg e (nList f):=by
 obtain⟨_,h1,h2⟩:=h
 refine⟨_,uL h1,λ{G A _ _ _ _ H _ Q} r e q=>?_⟩
 obtain⟨p,e1,e2⟩:=ZA.mp e
 refine h2 r e1 λv H' s z=>?_
 cases p<;>first|(cases e2;done)|skip
 cases e2
 obtain⟨a,_,rfl,q1,q2⟩:=z.lst aE
 exact⟨_,rfl,⟨_,q1.sq⟩,q _ H' s (oo q1 q2)⟩
theorem JO(h:DB X κ e f):JM X κ tg e (Nm f):=by
 obtain⟨_,h1,h2⟩:=h
 refine⟨_,MO h1,λ{G A _ _ _ _ H _ Q} r e q=>?_⟩
 obtain⟨p,e1,e2⟩:=ZA.mp e
 refine h2 r e1 λv H' s z=>?_
 cases p<;>first|(cases e2;done)|skip
 cases e2
 obtain⟨a,_,rfl,q1,q2⟩:=z.tup aE
 exact⟨_,rfl,⟨_,q1⟩,q _ H' s (FW q1 q2)⟩
theorem Nw{K:aX}(h2:Bc K κ te f){G A bo own ρ σ H ps}{Q:It->Hp->Prop}(r:R K κ G A bo own ρ σ H)(e:eA f ρ=⇑ps)(q:∀n H',aA H H'->ps=gD 0 n->Q (PD 0 n) H'):Lu (jR te uP) σ H Q:=by
 obtain⟨p,e1,e2⟩:=ZA.mp e
 obtain⟨j,e3,e4⟩:=ZA.mp e2
 obtain⟨h3,h4⟩:=aQ e4
 simp only[tP,ZS,Re]at h3
 refine h2 r e1 λv H' s z=>?_
 cases p<;>first|(cases e3;done)|skip
 cases e3
 exact⟨_,by rw[z.int],h3.1,h3.2,q _ H' s h4.symm⟩
theorem pQ{p:Pos}(h:DB X κ a f)(hm:X.mg "range" =none)(hg:Gl X "range" :=by rfl)(hs:starEach [a] X.env=[(false,eval a X.env)]:=by rfl):DI X κ tg (.Call (.Name "range" p) [a] [] pos) (eA f):=by
 obtain⟨_,h1,h2⟩:=h
 exact⟨_,nY hg hm (aN h1 bx hs) hs,λ{G A _ _ _ _ H _ Q} r e q=>Nw h2 r e λn H' s e'=>q _ H' s (by rw[e'];exact l8)⟩
theorem mT{p:Pos}(h:DB X κ a f)(hm:X.mg "range" =none)(hg:Gl X "range" :=by rfl)(hs:starEach [a] X.env=[(false,eval a X.env)]:=by rfl):JM X κ tg (.Call (.Name "range" p) [a] [] pos) (eA f):=by
 obtain⟨_,h1,h2⟩:=h
 exact⟨_,nY hg hm (aN h1 bx hs) hs,λ{G A _ _ _ _ H _ Q} r e q=>Nw h2 r e λn H' s e'=>q _ H' s (by rw[e'];exact l8)⟩
theorem cI(i:Nat)(hN:X.N.Nodup)(hi:X.N[i]?=⇑x:=by rfl)(hx:Loc X.env.scope x:=by trivial)(hf:X.fn x=true\/X.env.scope.names.lookup x=some .local:=by trivial):DG X κ (.Name x pos) (bj i):=
 ⟨_,AU hN hi hx hf,λ{G A _ _ _ _ H p v _ Q} r z e q=>by cases e;exact q _ _ (r.set z) mQ⟩
theorem Bf{k:Nat}(ha:DG X κ a gt)(hb:DG X κ b gu)(hc:X.calm=true:=by rfl)(hs:(assignEach [a,b] X.env).map (·.2)=assign a X.env::(assignEach [b] X.env).map (·.2):=by rfl)(pB:(assignEach [b] X.env).map (·.2)=assign b X.env::(assignEach [] X.env).map (·.2):=by rfl)
  (hn:(assignEach [a,b] X.env).length=2:=by rfl)(ib:(assignEach [a,b] X.env).findIdx? (·.1)=none:=by rfl):DG X κ (.Tuple [a,b] k pos) (kc gt gu):=by
 obtain⟨_,h1,h2⟩:=ha
 obtain⟨_,h3,h4⟩:=hb
 refine⟨_,EU hc (qe h1 (qe h3 AV pB) hs) hn ib,λ{G A _ own ρ _ H p v _ Q} r z e q=>?_⟩
 unfold kc at e
 split at e
 ·rename_i x y
  obtain⟨_,e1,e2⟩:=ZA.mp e
  cases z with
  |tup q1 q2=>
   cases q2 with
   |cons r1 q2=>
    cases q2 with
    |cons r2 q2=>
     cases q2
     refine⟨_,_,rfl,qB (aE (A:=cg A own ρ)) q1,rfl,_,_,rfl,h2 r r1 e1 λ_ _ r' s'=>?_⟩
     exact⟨_,_,rfl,h4 r' (r2.mono s') e2 λzy σ2 r3 s3=>⟨rfl,q zy σ2 r3 (s'.trans s3)⟩⟩
 ·cases e
end
variable{fl:Fl}{ps:List PV}
section
variable{K:aX}{gb:aT}
theorem C8{g:qy}{body:aT}{x:PV}{xs:List PV}(h:forL g body (x::xs) ρ=⇑fl):∃ρ1 f,g x ρ=⇑ρ1/\body ρ1=⇑f/\(match f with
  |.nx ρ'=>forL g body xs ρ'
  |.ct ρ'=>forL g body xs ρ'
  |.bk ρ'=>⇑(.nx ρ')
  |.rt p=>⇑(.rt p))=⇑fl:=by
 unfold forL at h
 obtain⟨ρ1,e1,e2⟩:=ZA.mp h
 obtain⟨f,e3,e4⟩:=ZA.mp e2
 exact⟨ρ1,f,e1,e3,e4⟩
theorem C9{J:It}{tg:TG}{tb:TS}{D:Ends}
  (hI:sR K κ G A J ps)(hg:∀{own ρ σ H p v ρ' Q},R K κ G A bo own ρ σ H->Rep K κ (cA A own ρ H) v p->gt p ρ=⇑ρ'->(∀c7 σ',R K κ G A bo c7 ρ' σ' H->aA (cA A own ρ H) (cA A c7 ρ' H)->Q σ' H)->tg v σ H Q)
  (hb:Nv K κ fr tb gb)(r:R K κ G A bo own ρ σ H)(e:forL gt gb ps ρ=⇑fl)(k:FU K κ fr G A bo D fl):
  ∃W:Nat->Nat->St->Hp->Prop,(∃m,W 0 m σ H)/\∀i m σ H,W i m σ H->
   (J.stop i H/\D.nx σ H)\/(J.go i H/\∃N:St->Hp->Prop,(∀σ' H',N σ' H'->∃m',m'<m/\W (i+1) m' σ' H')/\∀x H',J.yld i H x H'->tg x σ H' λσ2 H2=>tb {D with nx:=N,ct:=N,bk:=D.nx} σ2 H2):=by
 refine⟨λi m σ H=>m=ps.length-i/\i<=ps.length/\∃own ρ,R K κ G A bo own ρ σ H/\forL gt gb (ps.drop i) ρ=⇑fl,⟨ps.length,by simp,Zm _,own,ρ,r,by simpa using e⟩,?_⟩
 rintro i m σ H ⟨rfl,_,own,ρ,r,e⟩
 obtain⟨h1,h2⟩:=hI i H r.same
 by_cases jX:i<ps.length
 ·rw[Zy jX]at e
  obtain⟨_,f,e1,e3,e4⟩:=C8 e
  obtain⟨h3,h4⟩:=h1 ps[i] (ZG jX)
  refine .inr ⟨h3,λσ' H'=>i+1<=ps.length/\∃own ρ,R K κ G A bo own ρ σ' H'/\forL gt gb (ps.drop (i+1)) ρ=⇑fl,λσ' H' ⟨q0,q⟩=>⟨ps.length-(i+1),⋯,rfl,q0,q⟩,λx H' y=>?_⟩
  obtain⟨s,q⟩:=h4 x H' y
  have r1:=r.mono s
  refine hg r1 (q (cg A own ρ) (λb hb=>r.Bb hb) r.JH) e1 λc7 σ' r2 _=>?_
  refine hb r2 e3 ?_
  cases f with
  |nx ρ'=>exact λzy σ2 H2 r3=>⟨jX,zy,ρ',r3,e4⟩
  |ct ρ'=>exact λzy σ2 H2 r3=>⟨jX,zy,ρ',r3,e4⟩
  |bk ρ'=>cases e4;exact k
  |rt p=>cases e4;exact k
 ·have hn:ps.drop i=[]:=Z1 ⋯
  rw[hn]at e
  cases e
  exact .inl ⟨h2 ⋯,k own σ H r⟩
theorem FU.small{G':Hp}{D:Ends}(k:FU K κ fr G A bo D fl)(s:aA G G')(al:∀b,A b->G b≠none)(bg:∀i a vs,bo i=⇑(a,vs)->G a=⇑(.lst vs)):FU K κ fr G' A bo D fl:=by
 cases fl with
 |nx ρ'=>exact λc7 σ' H' r=>k c7 σ' H' (r.small s al bg)
 |bk ρ'=>exact λc7 σ' H' r=>k c7 σ' H' (r.small s al bg)
 |ct ρ'=>exact λc7 σ' H' r=>k c7 σ' H' (r.small s al bg)
 |rt p=>
  intro v H' s' q
  refine k v H' (s.trans s') ?_
  unfold RR at q⊢
  split
  ·rename_i h
   rw[W1 h]at q
   exact O9 q s λb z=>z
  ·rename_i h
   rw[UF h]at q
   exact q
end
section
variable{g:aT}{e a b tg:Expr}{gu:qy}
theorem kg(hi:DI X κ tg iter fi)(hg:DG X κ tg gt)(hb:IM X κ fr body g)(hp:PassesOwn (model X.prog X.w) X.A X.env X.xe:=by exact PassesOwn.never)(hc:X.calm=true:=by rfl)(hs:∀x,foldedSetIterable iter X.env x=pure x:=by intro _;rfl):DS X κ fr (.For tg iter body [] pos) (om fi gt g):=by
 obtain⟨_,h1,h2⟩:=hi
 obtain⟨_,h3,h4⟩:=hg
 obtain⟨_,h5,h6⟩:=hb
 refine⟨_,za hp hc h1 h3 h5 hs,λ{G A _ _ _ _ H _ D} r e k=>?_⟩
 obtain⟨_,e1,e2⟩:=ZA.mp e
 refine h2 r e1 λJ _ s hI=>?_
 have r1:=r.mono s
 exact C9 hI h4 h6 r1.big e2 (k.small r1.gv r1.al r1.bg)
end
def JP(K:aX)(κ:Kl)(f:Den):TE:=λσ H Q=>∃G A bo own ρ p,R K κ G A bo own ρ σ H/\f ρ=⇑p/\∀v H',aA H H'->Rep K κ (cA A own ρ H') v p->Q v H'
def Nx(K:aX)(κ:Kl)(f:dg):TT:=λσ H Q=>∃G A bo own ρ b,R K κ G A bo own ρ σ H/\f ρ=⇑b/\∀H',aA H H'->Q b H'
theorem DE.pe{e:Expr}(h:DE X κ e f):PE X e (JP X.K κ f):=λpins s σ H Q I ⟨_,_,_,_,_,_,r,e,q⟩=>let⟨_,h1,h2⟩:=h;h1 pins s σ H Q I (h2 r e q)
theorem DT.pt{e:Expr}{f:dg}(h:DT X κ e f):PT X e (Nx X.K κ f):=λpins s σ H Q I ⟨_,_,_,_,_,_,r,e,q⟩=>let⟨_,h1,h2⟩:=h;h1 pins s σ H Q I (h2 r e q)
def TF(f:Nat->α)(d:α):Nat->α
 |0=>d
 |i+1=>f i
section
variable{K:aX}
theorem kW:cg A (TF own 0) (.sh p::ρ)=cg A own ρ:=by
 funext b
 refine propext ⟨λz=>?_,λz=>?_⟩
 ·rcases z with z|⟨j,m,z1,z2⟩
  ·exact .inl z
  ·cases j with
   |zero=>simp at z1
   |succ j=>exact .inr ⟨j,m,by simpa using z1,z2⟩
 ·rcases z with z|⟨j,m,z1,z2⟩
  ·exact .inl z
  ·exact .inr ⟨j+1,m,by simpa using z1,z2⟩
theorem R.cons(r:R K κ G A bo own ρ σ H)(z:Rep K κ (cA A own ρ H) v p):R K κ G A (TF bo none) (TF own 0) (.sh p::ρ) (⇑v::σ) H where
 al:=r.al
 bg:=λi a vs e=>by
  cases i with
  |zero=>cases e
  |succ i=>exact r.bg i a vs e
 same:=r.same
 sh:=λi q e=>by
  rw[cA,kW]
  cases i with
  |zero=>
   simp at e
   subst e
   exact⟨v,rfl,z⟩
  |succ i=>exact r.sh i q (by simpa using e)
 ow:=λi l e=>by
  rw[cA,kW]
  cases i with
  |zero=>simp at e
  |succ i=>exact r.ow i l (by simpa using e)
 inj:=λi j l m e f q=>by
  cases i with
  |zero=>simp at e
  |succ i=>
   cases j with
   |zero=>simp at f
   |succ j=>rw[r.inj i j l m (by simpa using e) (by simpa using f) q]
 bw:=λi l e=>by
  rw[cA,kW]
  cases i with
  |zero=>simp at e
  |succ i=>exact r.bw i l (by simpa using e)
 len:=by rw[ZJ,ZJ,r.len]
theorem kh{wi:TI}{c:dg}{e:Den}(hi:∀{G A bo own ρ σ H ps Q},R K κ G A bo own ρ σ H->fi ρ=⇑ps->(∀J H',aA H H'->sR K κ H' (cg A own ρ) J ps->Q J H')->wi σ H Q):
  Vd K κ (Fm wi (Nx K κ c) (JP K κ e)) (bV fi c e):=λ{G A bo own ρ σ H p Q} r e0 q=>by
 obtain⟨ps,e1,e2⟩:=ZA.mp e0
 have h0:ps.length<=sizeLine/\(fg c e ρ ps).map PV.lst=⇑p:=by
  split at e2
  ·exact⟨by assumption,e2⟩
  ·cases e2
 obtain⟨zs,e3,rfl⟩:=ZC.mp h0.2
 refine hi r e1 λJ H1 s1 hI=>?_
 refine⟨λi m acc H2=>m=ps.length-i/\i<=ps.length/\aA H1 H2/\acc.length<=i/\∃out rest,aL K κ (cA A own ρ H2) acc out/\fg c e ρ (ps.drop i)=⇑rest/\out++rest=zs,
  ⟨ps.length,by simp,Zm _,aA.refl _,Zm _,[],zs,.nil,by simpa using e3,rfl⟩,?_⟩
 rintro i m acc H2 ⟨rfl,_,s2,_,out,rest,q1,q2,q3⟩
 obtain⟨h1,h2⟩:=hI i H2 s2
 have FX:=s1.trans s2
 have r2:=r.mono FX
 by_cases jX:i<ps.length
 ·rw[Zy jX]at q2
  obtain⟨h3,h4⟩:=h1 ps[i] (ZG jX)
  refine .inr ⟨h3,⋯,λy H3 hy=>?_⟩
  obtain⟨s3,q4⟩:=h4 y H3 hy
  have rep:=q4 (cg A own ρ) (λb hb=>r2.Bb hb) (bb s2)
  have r3:=(r2.mono s3).cons rep
  unfold fg at q2
  obtain⟨b,e4,e5⟩:=ZA.mp q2
  refine⟨_,_,_,_,_,_,r3,e4,λ_ s4=>?_⟩
  have r4:=r3.mono s4
  cases b with
  |true=>
   dsimp only
   rw[W1 rfl]at e5⊢
   obtain⟨z,e6,e7⟩:=ZA.mp e5
   obtain⟨ws,e8,rfl⟩:=ZC.mp e7
   refine⟨_,_,_,_,_,_,r4,e6,λv _ s5 q5=>?_⟩
   rw[cA,kW]at q5
   refine⟨ps.length-(i+1),⋯,rfl,jX,((s2.trans s3).trans s4).trans s5,by simp;omega,out++[z],ws,?_,e8,by rw[<-q3];simp⟩
   exact(q1.mono (bb ((s3.trans s4).trans s5))).append (.cons q5 .nil)
  |false=>
   dsimp only
   rw[UF ZY]at e5⊢
   exact⟨ps.length-(i+1),⋯,rfl,jX,(s2.trans s3).trans s4,⋯,out,rest,q1.mono (bb (s3.trans s4)),e5,q3⟩
 ·have hn:ps.drop i=[]:=Z1 ⋯
  rw[hn]at q2
  cases q2
  rw[Zh]at q3
  subst q3
  refine .inl ⟨h2 ⋯,λp hp=>q _ _ (FX.trans (bL hp)) ?_⟩
  obtain⟨a,ws,l,w1,w2,_,w4⟩:=r2.sQ hp q1
  refine⟨a,ws,l,w1,w2,?_,w4⟩
  cases w1
  exact FX.free hp
end
variable{px:Pos}{y:Str}
section
variable{sc:Scope}{elt:Expr}
theorem iP(hi:JM X κ (.Name x px) iter fi)(qm:Scope)(N0 ys:List Str)(he:∀ex C s H,DE (X.mK sc x ys ex C s H) κ elt f)(vh:X.env.scope=qm:=by rfl)(JQ:X.N=N0:=by rfl)(C0:jz qm N0 sc x ys=true:=by decide+kernel)(hc:X.calm=true:=by rfl)
  (hs:∀x,foldedSetIterable iter X.env x=pure x:=by intro _;rfl):DO X κ (.ListComp elt [⟨.Name x px,iter,[],0⟩] sc pos) (bV fi cM f):=by
 obtain⟨_,h1,h2⟩:=hi
 refine⟨_,A7 h1 ys (tt:=Nx X.K κ cM) (te:=JP X.K κ f) (λex C s H=>?_) (λex C s H=>(he ex C s H).pe) (by rw[vh,JQ];exact C0) hc hs,kh h2⟩
 intro pins s σ H Q I ⟨_,_,_,_,_,_,r,e,q⟩
 cases e
 exact wL pins s σ H Q I (q _ (aA.refl _))
theorem ji(hi:JM X κ (.Name x px) iter fi)(qm:Scope)(N0 ys:List Str)(ht:∀ex C s H,DT (X.mK sc x ys ex C s H) κ c ft)(he:∀ex C s H,DE (X.mK sc x ys ex C s H) κ elt f)(vh:X.env.scope=qm:=by rfl)(JQ:X.N=N0:=by rfl)(C0:jz qm N0 sc x ys=true:=by decide+kernel)(hc:X.calm=true:=by rfl)
  (hs:∀x,foldedSetIterable iter X.env x=pure x:=by intro _;rfl):DO X κ (.ListComp elt [⟨.Name x px,iter,[c],0⟩] sc pos) (bV fi ft f):=by
 obtain⟨_,h1,h2⟩:=hi
 exact⟨_,A7 h1 ys (tt:=Nx X.K κ ft) (te:=JP X.K κ f) (λex C s H=>qp (ht ex C s H).pt) (λex C s H=>(he ex C s H).pe) (by rw[vh,JQ];exact C0) hc hs,kh h2⟩
theorem JR(i:Nat){py pE:Pos}(hN:X.N.Nodup)(hi:JM X κ (.Name x px) iter fi)(qm:Scope)(N0 ys:List Str)(he:∀ex C s H,DE (X.mK sc x ys ex C s H) κ elt f)(Fq:X.N[i]?=⇑y:=by rfl)(hy:X.env.scope.names.lookup y=some .local:=by rfl)(vh:X.env.scope=qm:=by rfl)(JQ:X.N=N0:=by rfl)(C0:jz qm N0 sc x ys=true:=by decide+kernel)(hc:X.calm=true:=by rfl)
  (hs:∀x,foldedSetIterable iter X.env x=pure x:=by intro _;rfl)(Nk:swapsWith (.ListComp elt [⟨.Name x px,iter,[],0⟩] sc pos) ⇑(.Name y py) pE.line X.env=pure true:=by rfl):
  DS X κ fr (.Assign [.Name y py] (.ListComp elt [⟨.Name x px,iter,[],0⟩] sc pos) pE) (bK i (bV fi cM f)):=by
 obtain⟨_,h1,h2⟩:=hi
 refine⟨_,uZ hN Fq hy h1 ys (tt:=Nx X.K κ cM) (te:=JP X.K κ f) (λex C s H=>?_) (λex C s H=>(he ex C s H).pe) (by rw[vh,JQ];exact C0) hc hs Nk,λ{G A _ _ _ σ H _ D} r e k=>?_⟩
 ·intro pins s σ H Q I ⟨_,_,_,_,_,_,r,e,q⟩
  cases e
  exact wL pins s σ H Q I (q _ (aA.refl _))
 ·obtain⟨p,e1,rfl⟩:=ZC.mp e
  exact kh h2 r e1 λv _ s z=>k _ _ _ ((r.mono s).set (z.rep r))
theorem Dc(i:Nat){py pE:Pos}(hN:X.N.Nodup)(hi:JM X κ (.Name x px) iter fi)(qm:Scope)(N0 ys:List Str)(ht:∀ex C s H,DT (X.mK sc x ys ex C s H) κ c ft)(he:∀ex C s H,DE (X.mK sc x ys ex C s H) κ elt f)(Fq:X.N[i]?=⇑y:=by rfl)(hy:X.env.scope.names.lookup y=some .local:=by rfl)(vh:X.env.scope=qm:=by rfl)(JQ:X.N=N0:=by rfl)(C0:jz qm N0 sc x ys=true:=by decide+kernel)(hc:X.calm=true:=by rfl)
  (hs:∀x,foldedSetIterable iter X.env x=pure x:=by intro _;rfl)(Nk:swapsWith (.ListComp elt [⟨.Name x px,iter,[c],0⟩] sc pos) ⇑(.Name y py) pE.line X.env=pure true:=by rfl):
  DS X κ fr (.Assign [.Name y py] (.ListComp elt [⟨.Name x px,iter,[c],0⟩] sc pos) pE) (bK i (bV fi ft f)):=by
 obtain⟨_,h1,h2⟩:=hi
 refine⟨_,uZ hN Fq hy h1 ys (tt:=Nx X.K κ ft) (te:=JP X.K κ f) (λex C s H=>qp (ht ex C s H).pt) (λex C s H=>(he ex C s H).pe) (by rw[vh,JQ];exact C0) hc hs Nk,λ{G A _ _ _ _ H _ D} r e k=>?_⟩
 obtain⟨p,e1,rfl⟩:=ZC.mp e
 exact kh h2 r e1 λv _ s z=>k _ _ _ ((r.mono s).set (z.rep r))
end
def eY(K:aX)(κ:Kl)(fr:Bool)(F:FP):Sp:=λvs H Q _=>∃(A:Addr->Prop) (ps:List PV) (p:PV),(∀b,A b->H b≠none)/\aL K κ (hide A H) vs ps/\F ps=⇑p/\∀v H',aA H H'->RR fr K κ A H H' v p->Q v H'
variable{F:FP}{fd:FuncData}
section
variable{k:Nat}{f:Addr}{ps:List Str}{p:Pos}{e:Expr}{fs:bZ}
theorem aR(FO:oj X k f fd ps (eY X.K κ false F))(hr:bG k X.A)(hm:X.mg x=⇑(.ref f))(hk:PySem.W.keepIn X.K (.ref f)=true)(hb:Binds X.K fd ps [])(ha:DA X κ (e::es) fs)(hg:Gl X x:=by rfl)(lW:gz x:=by decide)
  (he:gd e es X.env:=by rfl)(hpl:kP pos es X.env:=by rfl):DE X κ (.Call (.Name x p) (e::es) [] pos) (aM F fs):=by
 obtain⟨_,h1,h2⟩:=ha
 refine⟨_,mF FO hr hg hm hk hb .nil eR h1 lW he hpl,λ{G A _ own ρ _ H p Q} r e q=>?_⟩
 obtain⟨xs,e1,e2⟩:=ZA.mp e
 refine h2 r e1 λ_ _ s1 z1=>?_
 rw[Zh]
 exact⟨cg A own ρ,xs,p,λb hb=>(r.mono s1).Bb hb,z1,e2,λv H' s z=>q v H' (s1.trans s) z⟩
theorem fj(FO:oj X k f fd ps (eY X.K κ true F))(hr:bG k X.A)(hm:X.mg x=⇑(.ref f))(hk:PySem.W.keepIn X.K (.ref f)=true)(hb:Binds X.K fd ps [])(ha:DA X κ (e::es) fs)(hg:Gl X x:=by rfl)(lW:gz x:=by decide)
  (he:gd e es X.env:=by rfl)(hpl:kP pos es X.env:=by rfl):DO X κ (.Call (.Name x p) (e::es) [] pos) (aM F fs):=by
 obtain⟨_,h1,h2⟩:=ha
 refine⟨_,mF FO hr hg hm hk hb .nil eR h1 lW he hpl,λ{G A _ own ρ _ H p Q} r e q=>?_⟩
 obtain⟨xs,e1,e2⟩:=ZA.mp e
 refine h2 r e1 λ_ _ s1 z1=>?_
 rw[Zh]
 exact⟨cg A own ρ,xs,p,λb hb=>(r.mono s1).Bb hb,z1,e2,λv H' s z=>q v H' (s1.trans s) (O9 z s1 λb w=>w)⟩
theorem FY(FO:oj X k f fd ps (eY X.K κ false F))(hr:bG k X.A)(hm:X.mg x=⇑(.ref f))(hk:PySem.W.keepIn X.K (.ref f)=true)(hb:Binds X.K fd ps [])(ha:RZ X κ (e::es) fs)(hg:Gl X x:=by rfl)(lW:gz x:=by decide)
  (he:gd e es X.env:=by rfl)(hpl:kP pos es X.env:=by rfl):DE X κ (.Call (.Name x p) (e::es) [] pos) (u9 F fs):=by
 obtain⟨_,h1,h2⟩:=ha
 refine⟨_,mF FO hr hg hm hk hb .nil eR h1 lW he hpl,λ{G A _ _ _ _ H p Q} r e q=>?_⟩
 obtain⟨xs,e1,e2⟩:=ZA.mp e
 obtain⟨p',e3,e4⟩:=ZA.mp e2
 obtain⟨h3,rfl⟩:=aQ e4
 refine h2 r e1 λvs H1 s1 z1=>?_
 rw[Zh]
 have z2:aL X.K κ (hide (λ_=>False) H1) vs xs:=(z1.full aE).mono λb o w=>by rw[aK (λz=>z)];exact w
 exact⟨λ_=>False,xs,p',λb hb=>hb.elim,z2,e3,λv H' s z=>q v H' (s1.trans s) (Rep.flat h3 z)⟩
end
variable{N:List Str}
section
variable{P:Program}{w:World}{K:aX}{mg:Str->Option Value}{base:Heap}
theorem ir{s:Slot}(h:(eD n ps)[i]?=⇑s):(∃p,ps[i]?=⇑p/\s=.sh p)\/s=.un:=by
 unfold eD at h
 rw[YF]at h
 split at h
 ·rw[Za]at h
  obtain⟨p,h1,h2⟩:=ZC.mp h
  exact .inl ⟨p,h1,h2.symm⟩
 ·rw[Z0]at h
  split at h
  ·exact .inr (ZX h).symm
  ·cases h
theorem R.entry(al:∀b,A b->H b≠none)(h:aL K κ (hide A H) vs ps):R K κ H A (λ_=>none) (λ_=>0) (eD N.length ps) (start N vs) H:=by
 have no:∀{i:Nat} {l:Cn},(eD N.length ps)[i]?≠⇑(.own l):=λ{i l} e=>by
  rcases ir e with⟨p,_,z⟩|z<;>cases z
 have he:cg A (λ_=>0) (eD N.length ps)=A:=by
  funext b
  refine propext ⟨λz=>?_,.inl⟩
  rcases z with z|⟨j,m,z1,z2⟩
  ·exact z
  ·exact absurd z1 no
 refine⟨al,λi a vs e=>(by cases e),λ_ _ z=>z,λi p e=>?_,λi l e=>absurd e no,λi j l m e=>absurd e no,λi l e=>?_,?_⟩
 ·rcases ir e with⟨p',h1,z⟩|z
  ·cases z
   obtain⟨v,h2,h3⟩:=h.get h1
   refine⟨v,?_,by rw[cA,he];exact h3⟩
   unfold start
   rw[Zw (by rw[ZD];exact(ZL.mp h2).1),Za,h2]
   rfl
  ·cases z
 ·rcases ir e with⟨p,_,z⟩|z<;>cases z
 ·unfold start eD
  simp[h.length]
theorem aY{qual:Str}{f:Addr}{ps:List Str}{k:Nat}{g:aT}(F:A4 K x qual st f fd)(S:az N ps (aC st))
  (hb:∀(cK:Value) (A:Around) (outer:List Env) (s:Shared) (H:Hp) (E:XK),bG k (A.deeper (envOfC qual (aC st) ↥s f cK))->IM (fT qk P w K mg base N qual (aC st) f cK A outer s H E).AR κ fr (eh st) g):
  dS P w K mg base qk (k+1) f fd ps (eY K κ fr (fn fr N.length ps.length g)):=by
 refine F.ok S (λ_ H Q E h=>?_) (λcK A outer s H _ Q E hr h=>?_)
 ·obtain⟨A,qs,p,_,h1,h2,_⟩:=h
  unfold fn at h2
  split at h2
  ·rw[h1.length]
   assumption
  ·cases h2
 ·obtain⟨_,qs,p,al,h1,h2,q⟩:=h
  obtain⟨ts,a1,a2⟩:=hb cK A outer s H E hr
  refine⟨ts,a1,?_⟩
  have h3:(g (eD N.length qs)).bind (vb fr)=⇑p:=by
   unfold fn at h2
   split at h2
   ·exact h2
   ·cases h2
  obtain⟨fl,e1,e2⟩:=ZA.mp h3
  refine a2 (R.entry al h1) e1 ?_
  cases fl with
  |rt p'=>cases e2;exact q
  |nx ρ'=>
   cases fr with
   |true=>cases e2
   |false=>
    cases e2
    exact λ_ _ _ r'=>q _ _ r'.same .non
  |bk ρ'=>cases e2
  |ct ρ'=>cases e2
end
open PySem.SeqAt
variable{pins:List (Addr×Obj)}{s:Shared}
section
theorem ki{f:PV->PV->Option Bool}:∀{l m:List PV} {es:List Bool},j7 f l m=⇑es->l.length=m.length->es.length=l.length
 |[],[],_,h,_=>by cases h;rfl
 |a::l,b::m,es,h,e=>by
  unfold j7 at h
  obtain⟨c,_,h2⟩:=ZA.mp h
  obtain⟨_,h3,rfl⟩:=ZC.mp h2
  simp[ki h3 (by simpa using e)]
theorem mU{f:PV->PV->Option Bool}:∀{l m:List PV} {es:List Bool} {j:Nat} {p q:PV},j7 f l m=⇑es->l[j]?=⇑p->m[j]?=⇑q->∃e,es[j]?=⇑e/\f p q=⇑e
 |[],_,_,_,_,_,_,hp,_=>by simp at hp
 |_::_,[],_,_,_,_,_,_,hq=>by simp at hq
 |a::l,b::m,es,0,p,q,h,hp,hq=>by
  unfold j7 at h
  obtain⟨c,h1,h2⟩:=ZA.mp h
  obtain⟨_,h3,rfl⟩:=ZC.mp h2
  simp at hp hq
  subst hp hq
  exact⟨c,rfl,h1⟩
 |a::l,b::m,es,j+1,p,q,h,hp,hq=>by
  unfold j7 at h
  obtain⟨c,h1,h2⟩:=ZA.mp h
  obtain⟨_,h3,rfl⟩:=ZC.mp h2
  obtain⟨e,h4,h5⟩:=mU (j:=j) h3 (by simpa using hp) (by simpa using hq)
  exact⟨e,by simpa using h4,h5⟩
theorem FZ:∀(n:Nat) (p:PV) (b:Bool),ik n p p=⇑b->b=true:=by
 intro n
 induction n with
 |zero=>
  intro p b h
  unfold ik at h
  cases p<;>simp[flat,IL]at h<;>exact h
 |succ n ih=>
  have key:∀(l:List PV) (es:List Bool),j7 (ik n) l l=⇑es->es.all id=true:=by
   intro l
   induction l with
   |nil=>intro es h;cases h;rfl
   |cons a l Wt=>
    intro es h
    unfold j7 at h
    obtain⟨c,h1,h2⟩:=ZA.mp h
    obtain⟨_,h3,rfl⟩:=ZC.mp h2
    simp[ih _ _ h1,Wt _ h3]
  intro p b h
  cases p with
  |lst l=>
   unfold ik yV at h
   rw[W1 rfl]at h
   obtain⟨es,h1,rfl⟩:=ZC.mp h
   exact key l es h1
  |tup l=>
   unfold ik yV at h
   rw[W1 rfl,W1 rfl]at h
   obtain⟨es,h1,rfl⟩:=ZC.mp h
   exact key l es h1
  |_=>simp[ik,flat,IL]at h<;>exact h
theorem w6(I:Inv X pins σ H s){ys:List V}(h:jv X.K H a xs)(h':jZ X.K H a ys):False:=by
 obtain⟨_,_,p1,_⟩:=I.list h
 obtain⟨_,_,p2,_⟩:=I.tuple h'
 obtain⟨o,e1,c1,_⟩:=p1.isList
 obtain⟨_,e2,c2,_⟩:=p2
 rw[e1]at e2
 cases e2
 rw[c1]at c2
 injection c2 with z
 exact absurd z ∅
mutual
theorem Rep.inj(I:Inv X pins σ H s):∀{v:V} {p q:PV},Rep X.K κ H v p->Rep X.K κ H v q->(∀n b,ik n p q=⇑b->p=q)
 |_,_,_,.non,.non=>λ_ _ _=>rfl
 |_,_,_,.bl _,.bl _=>λ_ _ _=>rfl
 |_,_,_,.int _,.int _=>λ_ _ _=>rfl
 |_,_,_,.str _,.str _=>λ_ _ _=>rfl
 |_,_,_,.lst h r,q=>λn b e=>by
  cases q with
  |lst h' r'=>
   have:=I.qc h.sq h'.sq
   subst this
   cases n with
   |zero=>simp[ik,flat]at e
   |succ n=>
    unfold ik yV at e
    split at e
    ·obtain⟨es,e1,_⟩:=ZC.mp e
     rw[aL.inj I r r' n es e1]
    ·rename_i hl
     exact absurd (r.length.symm.trans r'.length) hl
  |tup h' _=>exact(w6 I h.sq h').elim
  |ins _ _ _=>cases n<;>simp[ik,flat]at e
  |dct _ _ _=>cases n<;>simp[ik,flat]at e
 |_,_,_,.tup h r,q=>λn b e=>by
  cases q with
  |lst h' _=>exact(w6 I h'.sq h).elim
  |tup h' r'=>
   have:=I.tF h h'
   subst this
   cases n with
   |zero=>simp[ik,flat]at e
   |succ n=>
    unfold ik yV at e
    have hl:=r.length.symm.trans r'.length
    rw[W1 hl,W1 hl]at e
    obtain⟨es,e1,_⟩:=ZC.mp e
    rw[aL.inj I r r' n es e1]
  |ins _ _ _=>cases n<;>simp[ik,flat]at e
  |dct _ _ _=>cases n<;>simp[ik,flat]at e
 |_,_,_,.ins _ _ _,q=>λn b e=>by
  cases n<;>cases q<;>simp[ik,flat]at e
 |_,_,_,.dct _ _ _,q=>λn b e=>by
  cases n<;>cases q<;>simp[ik,flat]at e
theorem aL.inj(I:Inv X pins σ H s):∀{vs:List V} {l m:List PV},aL X.K κ H vs l->aL X.K κ H vs m->∀n es,j7 (ik n) l m=⇑es->l=m
 |_,_,_,.nil,.nil=>λ_ _ _=>rfl
 |_,_,_,.cons r t,.cons r' t'=>λn es e=>by
  unfold j7 at e
  obtain⟨c,h1,h2⟩:=ZA.mp e
  obtain⟨cs,h3,rfl⟩:=ZC.mp h2
  rw[Rep.inj I r r' n c h1,aL.inj I t t' n cs h3]
end
theorem mV{es:List Bool}(h:es.length=n):((List.range n).all λj=>es.getD j false)=es.all id:=by
 subst h
 exact range_all es
theorem w9{A:Around}{b:Addr}{ys:List V}(I:Inv X pins σ H s)(ha:jZ X.K H a xs)(hb:jZ X.K H b ys)(hl:xs.length=ys.length)(hu:A.units<cLine)(q:Nat->Bool)
  (hq:∀(j:Nat) x y u v,xs[j]?=⇑x->ys[j]?=⇑y->RelV x u->RelV y v->EqAt A.in1 s u v (q j)):RcAt A s (.ref a) (.ref b) ((List.range xs.length).all q):=by
 obtain⟨its,r1,p1,_⟩:=I.tuple ha
 obtain⟨sO,r2,p2,_⟩:=I.tuple hb
 have l1:=r1.length
 have l2:=r2.length
 have:=RcAt.tuples (A:=A) (s:=s) (e:=q) (l:=a) (b:=b) p1 p2 hu λj h1 h2=>?_
 ·rw[ZH,ZH,<-l1,<-l2,<-hl,z0Q,beq_self_eq_true,Wh]at this
  exact this
 ·rw[ZH]at h1 h2
  obtain⟨x,hx⟩:∃x,xs[j]?=⇑x:=⟨xs[j],ZG ⋯⟩
  obtain⟨y,hy⟩:∃y,ys[j]?=⇑y:=⟨ys[j],ZG ⋯⟩
  obtain⟨u,e1,ru⟩:=r1.get hx
  obtain⟨v,e2,rv⟩:=r2.get hy
  have f1:its.toArray[j]=u:=by
   have:=(ZL.mp e1).2
   simpa using this
  have f2:sO.toArray[j]=v:=by
   have:=(ZL.mp e2).2
   simpa using this
  rw[f1,f2]
  exact hq j x y u v hx hy ru rv
variable{u:Value}
theorem Bg{A:Around}{w:V}{u':Value}{q:PV}(f:(flat p&&flat q)=true)(r1:Rep X.K κ H v p)(r2:Rep X.K κ H w q)(e1:RelV v u)(e2:RelV w u'):EqAt A s u u' (IL p q):=by
 rw[ZS]at f
 have hv:ig v=true:=by cases r1<;>simp_all[flat,ig]
 have hw:ig w=true:=by cases r2<;>simp_all[flat,ig]
 have:IL p q=EI v w:=by cases r1<;>cases r2<;>simp_all[flat,IL,EI]
 rw[this]
 exact Ff e1 e2 hv hw
theorem xa(I:Inv X pins σ H s):∀(n:Nat) {p q:PV} {v w:V} {u u':Value} {A:Around} {b:Bool},A.units+n<cLine->Rep X.K κ H v p->Rep X.K κ H w q->RelV v u->RelV w u'->ik n p q=⇑b->EqAt A s u u' b:=by
 intro n
 induction n with
 |zero=>
  intro p q v w u u' A b _ r1 r2 e1 e2 h
  unfold ik at h
  obtain⟨h1,rfl⟩:=aQ h
  exact Bg h1 r1 r2 e1 e2
 |succ n ih=>
  intro p q v w u u' A b _ r1 r2 e1 e2 h
  have Qs:A.in1.units+n<cLine:=by
   have:A.in1.units=A.units+1:=rfl
   omega
  by_cases hf:(flat p&&flat q)=true
  ·have:ik (n+1) p q=⇑(IL p q):=by
     cases p<;>cases q<;>simp_all[ik,flat]
   rw[this]at h
   cases h
   exact Bg hf r1 r2 e1 e2
  ·by_cases hvw:v=w
   ·subst hvw
    have Wu:=Rep.inj I r1 r2 _ _ h
    subst Wu
    have hb:=FZ _ _ _ h
    subst hb
    cases r1 with
    |lst _ _=>cases e1;cases e2;exact EqAt.same _
    |tup _ _=>cases e1;cases e2;exact EqAt.same _
    |ins _ _ _=>cases e1;cases e2;exact EqAt.same _
    |dct _ _ _=>cases e1;cases e2;exact EqAt.same _
    |_=>simp[flat]at hf
   ·have hr:∀{xs ys:List V} {l m:List PV} {es:List Bool},aL X.K κ H xs l->aL X.K κ H ys m->j7 (ik n) l m=⇑es->∀(j:Nat) x y u v,xs[j]?=⇑x->ys[j]?=⇑y->RelV x u->RelV y v->EqAt A.in1 s u v (es.getD j false):=by
      intro xs ys l m es w1 w2 he j x y u v hx hy ru rv
      obtain⟨p1,g1,g2⟩:=w1.wW hx
      obtain⟨p2,g3,g4⟩:=w2.wW hy
      obtain⟨e,g5,g6⟩:=mU he g1 g3
      rw[ZU,g5]
      exact ih Qs g2 g4 ru rv g6
    cases r1 with
    |@lst a vs l h1 w1=>
     cases q with
     |lst m=>
      cases r2 with
      |@lst b' R0 _ h2 w2=>
       cases e1
       cases e2
       refine EqAt.of_refs (λz=>hvw (by rw[z])) ?_
       unfold ik yV at h
       split at h
       ·rename_i hl
        obtain⟨es,g1,rfl⟩:=ZC.mp h
        have g2:=ki g1 hl
        have:=qq I h1.sq h2.sq (A:=A) ⋯ (λj=>es.getD j false) (hr w1 w2 g1)
        rw[SZ (by rw[w1.length,w2.length];exact hl),Yq,mV (by rw[w1.length];exact g2)]at this
        exact this
       ·rename_i hl
        cases h
        obtain⟨_,k1,p1,_⟩:=I.list h1.sq
        obtain⟨_,k2,p2,_⟩:=I.list h2.sq
        have l1:=k1.length
        have l2:=k2.length
        have l3:=w1.length
        have l4:=w2.length
        exact RcAt.lists_lengths p1.isList p2.isList (by rw[ZH,ZH];simp;omega) ⋯
     |_=>cases r2<;>simp[ik,flat]at h
    |@tup a vs l h1 w1=>
     cases q with
     |tup m=>
      cases r2 with
      |@tup b' R0 _ h2 w2=>
       cases e1
       cases e2
       refine EqAt.of_refs (λz=>hvw (by rw[z])) ?_
       unfold ik yV at h
       split at h
       ·rename_i hl
        try rw[W1 hl]at h
        obtain⟨es,g1,rfl⟩:=ZC.mp h
        have g2:=ki g1 hl
        have:=w9 I h1 h2 (A:=A) (by rw[w1.length,w2.length];exact hl) ⋯ (λj=>es.getD j false) (hr w1 w2 g1)
        rw[mV (by rw[w1.length];exact g2)]at this
        exact this
       ·cases h
     |_=>cases r2<;>simp[ik,flat]at h
    |ins _ _ _=>cases q<;>simp[ik,flat]at h
    |dct _ _ _=>cases q<;>simp[ik,flat]at h
    |_=>cases r2<;>simp[ik,flat]at h hf
end
variable{p2:Pos}
section
variable{e a b:Expr}{p:Pos}
def TH(K:aX)(κ:Kl)(neg:Bool):R2:=λx y H Q=>∃p q b,Rep K κ H x p/\Rep K κ H y q/\eqT p q=⇑b/\Q (.bl (if neg then !b else b)) H
theorem xb{A:Around}{a b:Addr}{l m:List PV}{r:Bool}(I:Inv X pins σ H s)(hu:A.units+20<cLine)(h1:SL X.K H a vs)(w1:aL X.K κ H vs l)(h2:SL X.K H b ws)(w2:aL X.K κ H ws m)
  (h:ik 20 (.lst l) (.lst m)=⇑r):RcAt A s (.ref a) (.ref b) r/\RcNeAt A s (.ref a) (.ref b) (!r):=by
 unfold ik yV at h
 have Qs:A.in1.units+19<cLine:=by
  have:A.in1.units=A.units+1:=rfl
  omega
 split at h
 ·rename_i hl
  obtain⟨es,g1,rfl⟩:=ZC.mp h
  have g2:=ki g1 hl
  have hr:∀(j:Nat) x y u v,vs[j]?=⇑x->ws[j]?=⇑y->RelV x u->RelV y v->EqAt A.in1 s u v (es.getD j false):=by
   intro j x y u v hx hy ru rv
   obtain⟨p1,k1,k2⟩:=w1.wW hx
   obtain⟨p2,k3,k4⟩:=w2.wW hy
   obtain⟨e,k5,k6⟩:=mU g1 k1 k3
   rw[ZU,k5]
   exact xa I 19 Qs k2 k4 ru rv k6
  have z1:=qq I h1.sq h2.sq (A:=A) ⋯ (λj=>es.getD j false) hr
  have z2:=zm I h1.sq h2.sq (A:=A) ⋯ (λj=>es.getD j false) hr
  rw[SZ (by rw[w1.length,w2.length];exact hl),Yq,mV (by rw[w1.length];exact g2)]at z1 z2
  exact⟨z1,z2⟩
 ·rename_i hl
  cases h
  obtain⟨_,k1,p1,z1⟩:=I.list h1.sq
  obtain⟨_,k2,p2,z2⟩:=I.list h2.sq
  have l1:=k1.length
  have l2:=k2.length
  have l3:=w1.length
  have l4:=w2.length
  exact⟨RcAt.lists_lengths p1.isList p2.isList (by rw[ZH,ZH];simp;omega) ⋯,RcNeAt.lists_lengths p1.isList p2.isList (by rw[ZH,ZH];simp;omega) ⋯⟩
theorem JS{A:Around}{a b:Addr}{l m:List PV}{r:Bool}(I:Inv X pins σ H s)(hu:A.units+20<cLine)(h1:jZ X.K H a vs)(w1:aL X.K κ H vs l)(h2:jZ X.K H b ws)(w2:aL X.K κ H ws m)
  (h:ik 20 (.tup l) (.tup m)=⇑r):RcAt A s (.ref a) (.ref b) r:=by
 unfold ik yV at h
 have Qs:A.in1.units+19<cLine:=by
  have:A.in1.units=A.units+1:=rfl
  omega
 split at h
 ·rename_i hl
  try rw[W1 hl]at h
  obtain⟨es,g1,rfl⟩:=ZC.mp h
  have g2:=ki g1 hl
  have hr:∀(j:Nat) x y u v,vs[j]?=⇑x->ws[j]?=⇑y->RelV x u->RelV y v->EqAt A.in1 s u v (es.getD j false):=by
   intro j x y u v hx hy ru rv
   obtain⟨_,k1,k2⟩:=w1.wW hx
   obtain⟨_,k3,k4⟩:=w2.wW hy
   obtain⟨e,k5,k6⟩:=mU g1 k1 k3
   rw[ZU,k5]
   exact xa I 19 Qs k2 k4 ru rv k6
  have z1:=w9 I h1 h2 (A:=A) (by rw[w1.length,w2.length];exact hl) ⋯ (λj=>es.getD j false) hr
  rw[mV (by rw[w1.length];exact g2)]at z1
  exact z1
 ·cases h
theorem Ny(hu:X.A.units+20<cLine):iM X (compareOp .Eq) (TH X.K κ false):=by
 intro pins s σ H x y v u Q I rx ry h
 obtain⟨p,q,r,r1,r2,e,k⟩:=h
 cases p<;>cases q<;>first|cases e|skip
 all_goals first
  |(cases r1 with
   |lst h1 w1=>cases r2 with
    |lst h2 w2=>
     cases rx;cases ry
     exact(xb I hu h1 w1 h2 w2 e).1 _ _ _ _ ⟨.bl r,H,I,rfl,k⟩)
  |(cases r1 with
   |tup h1 w1=>cases r2 with
    |tup h2 w2=>
     cases rx;cases ry
     exact JS I hu h1 w1 h2 w2 e _ _ _ _ ⟨.bl r,H,I,rfl,k⟩)
  |(cases r1;cases r2;exact PR pins s σ H _ _ v u Q I rx ry ⟨rfl,by simpa using k⟩)
theorem Nz(hu:X.A.units+20<cLine):iM X (compareOp .NotEq) (λx y H Q=>∃p q b,Rep X.K κ H x p/\Rep X.K κ H y q/\(∀l,p≠.tup l)/\eqT p q=⇑b/\Q (.bl (!b)) H):=by
 intro pins s σ H x y v u Q I rx ry h
 obtain⟨p,q,r,r1,r2,nt,e,k⟩:=h
 cases p<;>cases q<;>first|cases e|skip
 all_goals first
  |exact absurd rfl (nt _)
  |(cases r1 with
   |lst h1 w1=>cases r2 with
    |lst h2 w2=>
     cases rx;cases ry
     exact(xb I hu h1 w1 h2 w2 e).2 _ _ _ _ ⟨.bl (!r),H,I,rfl,k⟩)
  |(cases r1;cases r2;exact PU pins s σ H _ _ v u Q I rx ry ⟨rfl,by simpa using k⟩)
theorem Qt{A:Around}(h:A.units+64<cLine):A.units+20<cLine:=by omega
theorem eB{k:Nat}(hr:bG k X.A)(ha:DB X κ a fa)(hb:DB X κ b fb):DC X κ .Eq a b (ag ip fa fb):=by
 obtain⟨_,h1,h2⟩:=ha
 obtain⟨_,h3,h4⟩:=hb
 refine⟨_,_,_,Ny (κ:=κ) (Qt hr.units),h1,h3,λ{G A _ _ _ _ H p Q} r e q=>?_⟩
 refine mR h2 h4 r e λx y p1 p2 H' s _ b1 b2 e'=>?_
 obtain⟨b,e1,rfl⟩:=ZC.mp e'
 exact⟨p1,p2,b,b1.full aE,b2.full aE,e1,q _ H' s (.bl _)⟩
theorem xc{k:Nat}(hr:bG k X.A)(ha:DB X κ a fa)(hb:DB X κ b fb):DC X κ .NotEq a b (ag jY fa fb):=by
 obtain⟨_,h1,h2⟩:=ha
 obtain⟨_,h3,h4⟩:=hb
 refine⟨_,_,_,Nz (κ:=κ) (Qt hr.units),h1,h3,λ{G A _ _ _ _ H p Q} r e q=>?_⟩
 refine mR h2 h4 r e λx y p1 p2 H' s _ b1 b2 e'=>?_
 have nt:∀l,p1≠.tup l:=λl z=>by rw[z]at e';cases e'
 have e2:Vb p1 p2=⇑p:=by cases p1<;>first|exact e'|exact absurd rfl (nt _)
 obtain⟨b,e1,rfl⟩:=ZC.mp e2
 exact⟨p1,p2,b,b1.full aE,b2.full aE,nt,e1,q _ H' s (.bl _)⟩
theorem Bh{K:aX}{x:V}{p:PV}(h:BR K κ hH H x p):pF p=⇑(.bl (decide (x=.non))):=by
 rcases h with h|⟨a,vs,l,rfl,rfl,_⟩
 ·cases h<;>simp[pF]
 ·simp[pF]
theorem zz{j pos'}(ha:DB X κ a fa):DC X κ .Is a (.Constant .none j pos') (bC pF fa):=by
 obtain⟨_,h1,h2⟩:=ha
 refine⟨_,_,_,M3,h1,y7,λ{G A _ _ _ _ H p Q} r e q=>?_⟩
 obtain⟨_,e1,e2⟩:=ZA.mp e
 refine h2 r e1 λx H1 s1 b1=>?_
 rw[Bh b1]at e2
 cases e2
 exact⟨rfl,q _ H1 s1 (.bl _)⟩
theorem Bi{j pos'}(ha:DB X κ a fa):DC X κ .IsNot a (.Constant .none j pos') (bC mP fa):=by
 obtain⟨_,h1,h2⟩:=ha
 refine⟨_,_,_,Jf,h1,y7,λ{G A _ _ _ _ H p Q} r e q=>?_⟩
 obtain⟨_,e1,e2⟩:=ZA.mp e
 refine h2 r e1 λx H1 s1 b1=>?_
 unfold mP at e2
 rw[Bh b1]at e2
 cases e2
 exact⟨rfl,q _ H1 s1 (.bl _)⟩
theorem LK{K:aX}:∀{vs:List V} {l:List PV},aL K κ H vs l->l.all flat=true->vs.all ig=true
 |_,_,.nil,_=>rfl
 |_,_,.cons r t,h=>by
  rw[YH,ZS]at h⊢
  refine⟨?_,LK t h.2⟩
  cases r<;>simp_all[flat,ig]
theorem Qu{K:aX}{w:V}{p q:PV}(r1:Rep K κ H v p)(r2:Rep K κ H' w q)(f1:flat p=true)(f2:flat q=true):IL p q=EI v w:=by
 cases r1<;>cases r2<;>simp_all[flat,IL,EI]
theorem LL{K:aX}{p:PV}(r:Rep K κ H v p)(f:flat p=true):∀{vs:List V} {l:List PV},aL K κ H' vs l->l.all flat=true->j0 p l=RP v vs
 |_,_,.nil,_=>rfl
 |_,_,.cons r1 t,h=>by
  rw[YH,ZS]at h
  have ih:=LL r f t h.2
  unfold j0 RP at ih⊢
  rw[YU,YU,ih,Qu r1 r h.1 f]
theorem Bj{neg:Bool}{K:aX}{x y:V}{p1 p2 p:PV}{Q:VK}(b1:BR K κ hH H' x p1)(b2:BR K κ hH H' y p2)(s:aA hH H')(e:(if neg then lY p1 p2 else JF p1 p2)=⇑p)(q:∀b,p=.bl b->Q (.bl b) H'):RS K neg x y H' Q:=by
 have go:∀(l:List PV) (vs:List V) (a:Addr),y=.ref a->(jv K H' a vs\/jZ K H' a vs)->aL K κ hH vs l->(if(flat p1&&l.all flat)=true then ⇑(PV.bl (if neg then !j0 p1 l else j0 p1 l))else none)=⇑p->RS K neg x y H' Q:=by
  intro l vs a hy hs w e
  obtain⟨h1,h2⟩:=aQ e
  rw[ZS]at h1
  have rx:=b1.full s
  refine⟨a,vs,hy,hs,?_,LK w h1.2,?_⟩
  ·cases rx<;>simp_all[flat,ig]
  ·rw[LL rx h1.1 w h1.2]at h2
   exact q _ h2.symm
 cases p2 with
 |lst l=>
  obtain⟨a,vs,rfl,q1,q2⟩:=b2.lst s
  exact go l vs a rfl (.inl q1.sq) q2 (by cases neg<;>exact e)
 |tup l=>
  obtain⟨a,vs,rfl,q1,q2⟩:=b2.tup s
  exact go l vs a rfl (.inr q1) q2 (by cases neg<;>exact e)
 |_=>cases neg<;>cases e
theorem F3(ha:DB X κ a fa)(hb:DB X κ b fb):DC X κ .In a b (ag JF fa fb):=by
 obtain⟨_,h1,h2⟩:=ha
 obtain⟨_,h3,h4⟩:=hb
 refine⟨_,_,_,CV,h1,h3,λ{G A _ _ _ _ H p Q} r e q=>?_⟩
 refine mR h2 h4 r e λx y _ _ H' s _ b1 b2 e'=>?_
 exact Bj (neg:=false) b1 b2 aE e' λb z=>q _ H' s (by rw[z];exact .bl _)
theorem xf(ha:DB X κ a fa)(hb:DB X κ b fb):DC X κ .NotIn a b (ag lY fa fb):=by
 obtain⟨_,h1,h2⟩:=ha
 obtain⟨_,h3,h4⟩:=hb
 refine⟨_,_,_,uT,h1,h3,λ{G A _ _ _ _ H p Q} r e q=>?_⟩
 refine mR h2 h4 r e λx y _ _ H' s _ b1 b2 e'=>?_
 exact Bj (neg:=true) b1 b2 aE e' λb z=>q _ H' s (by rw[z];exact .bl _)
theorem cy(ha:DB X κ a fa)(hm:X.mg "len" =none)(hg:Gl X "len" :=by rfl)(hs:gd a [] X.env:=by rfl):DE X κ (.Call (.Name "len" p) [a] [] pos) (bC cB fa):=by
 obtain⟨_,h1,h2⟩:=ha
 refine⟨_,ie (mI.or uU) hg hm PySem.boot_len (aN h1 bx hs) (he:=hs),λ{G A _ _ _ _ H p Q} r e q=>?_⟩
 obtain⟨p1,e1,e2⟩:=ZA.mp e
 refine h2 r e1 λx H1 s1 b1=>?_
 cases p1<;>first|(cases e2;done)|skip
 ·obtain⟨z1,rfl⟩:=aQ e2
  exact .inr ⟨_,by rw[b1.str],z1,q _ H1 s1 (.int _)⟩
 ·cases e2
  obtain⟨a,vs,rfl,q1,q2⟩:=b1.lst aE
  exact .inl ⟨a,vs,rfl,.inl q1.sq,q _ H1 s1 (by rw[q2.length];exact .int _)⟩
 ·cases e2
  obtain⟨a,vs,rfl,q1,q2⟩:=b1.tup aE
  exact .inl ⟨a,vs,rfl,.inr q1,q _ H1 s1 (by rw[q2.length];exact .int _)⟩
theorem vi(ha:DB X κ a fa)(hm:X.mg "list" =none)(hg:Gl X "list" :=by rfl)(hs:gd a [] X.env:=by rfl):DO X κ (.Call (.Name "list" p) [a] [] pos) (bC qu fa):=by
 obtain⟨_,h1,h2⟩:=ha
 refine⟨_,g0 uV hg hm PyProof.Rows.boot_list (aN h1 bx hs) (he:=hs),λ{G A _ own ρ _ H p Q} r e q=>?_⟩
 obtain⟨p1,e1,e2⟩:=ZA.mp e
 refine h2 r e1 λx H1 s1 b1=>?_
 have fin:∀{vs l n},H1 n=none->aL X.K κ (cA A own ρ H1) vs l->p=.lst l->Q (.ref n) (upd H1 n (.lst vs)):=λ{vs l n} hn w z=>by
  subst z
  refine q _ _ (s1.trans (bL hn)) ?_
  obtain⟨a,ws,l,w1,w2,_,w4⟩:=(r.mono s1).sQ hn w
  refine⟨a,ws,l,w1,w2,?_,w4⟩
  cases w1
  exact s1.free hn
 cases p1<;>first|(cases e2;done)|skip
 ·obtain⟨a,vs,rfl,q1,q2⟩:=b1.lst aE
  exact⟨a,vs,rfl,.inl q1.sq,λn hn=>fin hn q2 (ZX e2).symm⟩
 ·obtain⟨a,vs,rfl,q1,q2⟩:=b1.tup aE
  exact⟨a,vs,rfl,.inr q1,λn hn=>fin hn q2 (ZX e2).symm⟩
theorem vj{K:aX}:∀{vs:List V} {l:List PV} {bs:List Bool},aL K κ H vs l->bools l=⇑bs->vs=bs.map V.bl
 |_,_,_,.nil,h=>by cases h;rfl
 |_,p::_,_,.cons r t,h=>by
  cases p<;>first|(cases h;done)|skip
  obtain⟨_,h1,rfl⟩:=ZC.mp h
  rw[ZV,<-vj t h1,r.C7]
theorem NA(ha:DB X κ a fa)(hm:X.mg "any" =none)(hg:Gl X "any" :=by rfl)(hc:X.calm=true:=by rfl)(hs:gd a [] X.env:=by rfl):DE X κ (.Call (.Name "any" p) [a] [] pos) (bC JG fa):=by
 obtain⟨_,h1,h2⟩:=ha
 refine⟨_,ie (wR hc) hg hm PyProof.Rows.boot_any (aN h1 bx hs) (he:=hs),λ{G A _ _ _ _ H p Q} r e q=>?_⟩
 obtain⟨p1,e1,e2⟩:=ZA.mp e
 refine h2 r e1 λx H1 s1 b1=>?_
 cases p1<;>first|(cases e2;done)|skip
 obtain⟨bs,e3,rfl⟩:=ZC.mp e2
 obtain⟨a,_,rfl,q1,q2⟩:=b1.lst aE
 rw[vj q2 e3]at q1
 exact⟨a,bs,rfl,q1.sq,q _ H1 s1 (.bl _)⟩
theorem NB(ha:DB X κ a fa)(hm:X.mg "all" =none)(hg:Gl X "all" :=by rfl)(hc:X.calm=true:=by rfl)(hs:gd a [] X.env:=by rfl):DE X κ (.Call (.Name "all" p) [a] [] pos) (bC Qk fa):=by
 obtain⟨_,h1,h2⟩:=ha
 refine⟨_,ie (wU hc) hg hm PyProof.Rows.boot_all (aN h1 bx hs) (he:=hs),λ{G A _ _ _ _ H p Q} r e q=>?_⟩
 obtain⟨p1,e1,e2⟩:=ZA.mp e
 refine h2 r e1 λx H1 s1 b1=>?_
 cases p1<;>first|(cases e2;done)|skip
 obtain⟨bs,e3,rfl⟩:=ZC.mp e2
 obtain⟨a,_,rfl,q1,q2⟩:=b1.lst aE
 rw[vj q2 e3]at q1
 exact⟨a,bs,rfl,q1.sq,q _ H1 s1 (.bl _)⟩
theorem JT{apos bz:Pos}(ha:DB X κ a fa)(dU:attributeBase a "bit_length" X.env (eval a X.env)=eval a X.env:=by rfl)(dW:(apos.endLine==bz.line)=true:=by rfl):DE X κ (.Call (.Attribute a "bit_length" apos) [] [] bz) (bC Fy fa):=by
 obtain⟨_,h1,h2⟩:=ha
 refine⟨_,Fi PySem.F.plainAttrs_int PySem.F.slot_int_bit_length PySem.F.type_int_bit_length Jz h1 dU dW,λ{G A _ _ _ _ H p Q} r e q=>?_⟩
 obtain⟨p1,e1,e2⟩:=ZA.mp e
 refine h2 r e1 λx H1 s1 b1=>?_
 cases p1<;>first|(cases e2;done)|skip
 cases e2
 have:=b1.int
 subst this
 exact⟨rfl,_,rfl,rfl,q _ H1 s1 (.int _)⟩
theorem aL.at{K:aX}{l:List PV}{i:Int}{p:PV}(h:aL K κ H vs l)(e:itemAt l i=⇑p):∃v,M9 vs i=⇑v/\Rep K κ H v p:=by
 obtain⟨j,e1,e2⟩:=ZA.mp e
 obtain⟨v,h1,h2⟩:=h.get e2
 refine⟨v,?_,h2⟩
 unfold M9
 rw[h.length]
 exact ZA.mpr ⟨j,e1,h1⟩
theorem bu(ha:DB X κ a fa)(hb:DB X κ b fb)(hs:A2 b:=by intro _ _;rfl):DE X κ (.Subscript a b pos) (ag c9 fa fb):=by
 obtain⟨_,h1,h2⟩:=ha
 obtain⟨_,h3,h4⟩:=hb
 refine⟨_,P9 Nc h1 h3 hs,λ{G A _ _ _ _ H p Q} r e q=>?_⟩
 refine mR h2 h4 r e λx y p1 p2 H' s _ b1 b2 e'=>?_
 (cases p1<;>first|(cases e';done)|skip)<;>cases p2<;>first|(cases e';done)|skip
 ·rename_i x' i'
  have e3:(if x'.length<=sizeLine then(itemAt x'.cps.toList i').map λc=>PV.str ⟨#[c]⟩else none)=⇑p:=e'
  have z1:x'.length<=sizeLine:=by
   by_cases z:x'.length<=sizeLine
   ·exact z
   ·rw[UF z]at e3
    cases e3
  have z2:((itemAt x'.cps.toList i').map λc=>PV.str ⟨#[c]⟩)=⇑p:=by
   rw[W1 z1]at e3
   exact e3
  obtain⟨c,e2,rfl⟩:=ZC.mp z2
  exact .inr (.inr ⟨_,_,c,b1.str,b2.int,z1,e2,q _ H' s (.str _)⟩)
 ·obtain⟨a,vs,rfl,q1,q2⟩:=b1.lst aE
  obtain⟨v,z1,z2⟩:=q2.at e'
  exact .inl ⟨a,vs,_,v,rfl,b2.int,q1.sq,z1,q _ H' s z2⟩
 ·obtain⟨a,vs,rfl,q1,q2⟩:=b1.tup aE
  obtain⟨v,z1,z2⟩:=q2.at e'
  exact .inr (.inl ⟨a,vs,_,v,rfl,b2.int,q1,z1,q _ H' s z2⟩)
def DP(X:Cx)(κ:Kl)(e:Option Expr)(f:va):Prop:=∃to,PO X e to/\∀{G A bo own ρ σ H o Q},R X.K κ G A bo own ρ σ H->f ρ=⇑o->(∀H',aA H H'->Q o H')->to σ H Q
theorem jD:DP X κ none iN:=⟨_,Jq,λ{G A _ _ _ _ H o Q} r e q=>by cases e;exact q H (aA.refl _)⟩
theorem dr(ha:DB X κ a fa):DP X κ ⇑a (cL fa):=by
 obtain⟨_,h1,h2⟩:=ha
 refine⟨_,Jr h1,λ{G A _ _ _ _ H o Q} r e q=>?_⟩
 obtain⟨p,e1,e2⟩:=ZA.mp e
 obtain⟨i,e3,rfl⟩:=ZC.mp e2
 refine h2 r e1 λx H1 s1 b1=>?_
 cases p<;>first|(cases e3;done)|skip
 cases e3
 exact⟨_,b1.int,q H1 s1⟩
theorem aL.cut{K:aX}{l:List PV}(h:aL K κ H vs l)(lo hi:Option Int):aL K κ H (CU vs lo hi) (kb l lo hi):=by
 have e:∀n d o,HT.yU n d o=zt n d o:=λn d o=>by cases o<;>rfl
 unfold CU kb
 rw[h.length,e,e]
 exact(h.drop _).take _
theorem qE{lo hi:Option Expr}{fl fh:va}(ha:DB X κ a fa)(hl:DP X κ lo fl)(hh:DP X κ hi fh):DO X κ (.Subscript a (.Slice lo hi none p2) pos) (LH fa fl fh):=by
 obtain⟨_,h1,h2⟩:=ha
 obtain⟨_,h3,h4⟩:=hl
 obtain⟨_,h5,h6⟩:=hh
 refine⟨_,wI A3 h1 h3 h5,λ{G A _ _ _ _ H p Q} r e q=>?_⟩
 obtain⟨p1,e1,e2⟩:=ZA.mp e
 obtain⟨o1,e3,e4⟩:=ZA.mp e2
 obtain⟨o2,e5,e6⟩:=ZA.mp e4
 refine h2 r e1 λx _ s1 b1=>h4 (r.mono s1) e3 λ_ s2=>h6 ((r.mono s1).mono s2) e5 λ_ s3=>?_
 cases p1<;>first|(cases e6;done)|skip
 cases e6
 have LM:=(s1.trans s2).trans s3
 obtain⟨a,vs,rfl,q1,q2⟩:=(b1.Bd (s2.trans s3)).lst aE
 refine⟨a,vs,rfl,q1.sq,λn hn=>q _ _ (LM.trans (bL hn)) ?_⟩
 obtain⟨a,ws,l,w1,w2,_,w4⟩:=(r.mono LM).sQ hn (q2.cut o1 o2)
 refine⟨a,ws,l,w1,w2,?_,w4⟩
 cases w1
 exact LM.free hn
def Qv:Nat->String
 |0=> "int"
 |1=> "bool"
 |2=> "str"
 |3=> "list"
 |4=> "tuple"
 |_=> "NoneType"
theorem NC(K:aX):∀j,j<6->∀k,k<5->PySem.W.kitOne K (.type (Qv j)) (.type (Qv k))=⇑(j==k||(k==0&&j==1)):=by
 intro j _ k _
 rcases j with _|_|_|_|_|_|j<;>first|omega|(rcases k with _|_|_|_|_|k<;>first|omega|rfl)
theorem xg(k:Nat)(hk:k<5):fM X (.builtin "isinstance") (λxs H Q=>∃x p,xs=[x,.ty (Qv k)]/\Rep X.K κ H x p/\Ba p≠6/\Q (.bl (zq k p)) H):=by
 intro pins s σ H xs _ Q I r h
 obtain⟨x,p,rfl,rp,h6,q⟩:=h
 obtain⟨u,c,rfl,ru,rc⟩:=vals2 r
 cases rc
 have fin:∀tk:Nat,EP X pins σ Q (.bool (zq k p)) {s with toks:=tk}:=λtk=>⟨.bl _,H,I.tok _,rfl,q⟩
 have ND:=λj hj=>NC X.K j hj k hk
 cases rp with
 |non=>cases ru;exact Yj PySem.W.kitx_none I.lE True.intro (ND 5 ∅) (λz=>nomatch z) fin
 |bl b=>cases ru;exact Yj PySem.W.kitx_bool I.lE True.intro (ND 1 ∅) (λz=>nomatch z) fin
 |int i=>obtain⟨t,rfl⟩:=ru;exact Yj PySem.W.kitx_int I.lE True.intro (ND 0 ∅) (λz=>nomatch z) fin
 |str i=>obtain⟨t,rfl⟩:=ru;exact Yj PySem.W.kitx_str I.lE True.intro (ND 2 ∅) (λz=>nomatch z) fin
 |lst h1 _=>
  cases ru
  obtain⟨_,_,pl,_⟩:=I.list h1.sq
  obtain⟨o,ho,hc,_⟩:=pl.isList
  exact Yj PySem.W.kitx_list I.lE ⟨o,ho,hc⟩ (ND 3 ∅) (λz=>nomatch z) fin
 |tup h1 _=>
  cases ru
  obtain⟨_,_,pl,_⟩:=I.tuple h1
  obtain⟨o,ho,hc,_⟩:=pl
  exact Yj PySem.W.kitx_tuple I.lE ⟨o,ho,hc⟩ (ND 4 ∅) (λz=>nomatch z) fin
 |ins _ _ _=>exact absurd rfl h6
 |dct _ _ _=>exact absurd rfl h6
theorem tU(k:Nat)(hk:k<5)(hv:bootBuiltins x=⇑(.type (Qv k)))(ha:DB X κ a fa)(hm:X.mg "isinstance" =none)(NF:X.mg x=none)(hg:Gl X "isinstance")(Qw:Gl X x)(hn:x≠ "__name__")(hd:gz x)
  (hs:starEach [a,.Name x p2] X.env=(false,eval a X.env)::starEach [.Name x p2] X.env)(pB:starEach [.Name x p2] X.env=(false,eval (.Name x p2) X.env)::starEach [] X.env)(hpl:kP pos [.Name x p2] X.env):DE X κ (.Call (.Name "isinstance" p) [a,.Name x p2] [] pos) (bC (O7 k) fa):=by
 obtain⟨_,h1,h2⟩:=ha
 refine⟨_,ie (xg (κ:=κ) k hk) hg hm PyProof.Rows.boot_isinstance (aN h1 (aN (Ja Qw NF hv (v:=.ty (Qv k)) rfl hn hd) bx pB) hs) (he:=hs) (hpl:=hpl),λ{G A _ _ _ _ H p Q} r e q=>?_⟩
 obtain⟨p1,e1,e2⟩:=ZA.mp e
 refine h2 r e1 λx H1 s1 b1=>?_
 unfold O7 at e2
 split at e2
 ·cases e2
 ·cases e2
  exact⟨_,p1,rfl,b1.full aE,by assumption,q _ H1 s1 (.bl _)⟩
end
variable{ns:List Int}
theorem Dd{P:Program}{w:World}{K:aX}{mg mb:Str->Option Value}{CX:Ly}{k:Nat}{fa:Addr}{sp:Sp}{s₁:Shared}{vs:List Value}
  (KX:K.In s₁.heap)(O2:s₁.heap.Ns mainGlobals mg)(hb:s₁.heap.Ns builtinsNs mb)(Wv:∀x:Str,x≠ "__name__" ->mb x=bootBuiltins x)(TJ:s₁.heap.NoLimit)(hg:s₁.gens=#[])
  (ha:s₁.heap.get? a=some {cls:=.type "list",data:=.seq vs.toArray})(hi:IntsAre vs ns)(hl:ns.length<=sizeLine)(hr:bG k callerA)
  (F:∀base:Heap,K.In base->base.Ns mainGlobals mg->dS P w K mg base CX k fa fd [x] sp)(Qx:∀(s:Shared) (u:Value),BindsTo s fd ⟨[u],[]⟩ [(x,u)])
  (LB:∀H:Hp,Qf H->SL K H a (ns.map V.int)->sp [.ref a] H (λv _=>v=.bl true) λ_ _ _=>False)
  (Ww:∀H e s',CX [] H s₁ (λ_ _ _=>False) e s'->False):
  codeAny (model P w) callerA (.call (.ref fa) ⟨[.ref a],[]⟩) (λr s'=>r=.ok (.ret (.bool true))/\OldK s₁.heap s'.heap/\s'.os=s₁.os/\AllBare s'.gens) s₁:=by
 have rv:=kU hi
 have TK:=hi.length
 have core:∀H:Hp,Qf H->SL K H a (ns.map V.int)->lR P w H s₁.heap->(∀b,H b≠none->b=a)->(H a≠none->K.lookup a=none)->
   codeAny (model P w) callerA (.call (.ref fa) ⟨[.ref a],[]⟩) (λr s'=>r=.ok (.ret (.bool true))/\OldK s₁.heap s'.heap/\s'.os=s₁.os/\AllBare s'.gens) s₁:=by
  intro H hO hS cD hA hK
  have Bk:∀{b:Addr} {o:Obj},s₁.heap.get? b=⇑o->H b=none->(uI s₁.heap H).get? b=⇑o:=λe n=>EN e n
  have P5:∀{b:Addr} {o:Obj} {es:Array DictEntry} {ep:Nat},s₁.heap.get? b=⇑o->o.data=.dict es ep->H b=none:=λ{b o es ep} e d=>by
   cases q:H b with
   |none=>rfl
   |some u=>
    have e':b=a:=hA b (by rw[q];simp)
    subst e'
    rw[ha]at e;cases e
    have d':Data.seq vs.toArray _=Data.dict es ep:=d
    cases d'
  have R1:∀{b:Addr} {m:Str->Option Value},s₁.heap.Ns b m->(uI s₁.heap H).Ns b m:=λ{b m} ⟨o,es,ep,e,d,r⟩=>⟨o,es,ep,Bk e (P5 e d),d,r⟩
  have Vf:K.In (uI s₁.heap H):=λb o e=>Bk (KX b o e) (by
   cases q:H b with
   |none=>rfl
   |some u=>
    have e':b=a:=hA b (by rw[q];simp)
    subst e'
    rw[hK (by rw[q];simp)]at e;cases e)
  have hM:Mod K mg (uI s₁.heap H):=⟨Vf,R1 O2,⟨mb,R1 hb,Wv⟩,let⟨mc,h1,h2⟩:=TJ;⟨mc,R1 h1,h2⟩⟩
  have e0:zh P w K mg (uI s₁.heap H) callerA [] s₁ H:=⟨rfl,hM,λb o e=>IY e,z0P (CM _ _),trivial,λb hb=>absurd (show b∈([]:List Addr)from hb) (by simp),cD,.of_eq hg⟩
  refine codeAny_mono ((F _ Vf (R1 O2)).run callerA [] s₁ H ⟨[.ref a],[]⟩ [.ref a] [.ref a] _ _ hr e0 (Qx s₁ (.ref a)) (.cons rfl .nil) (LB H hO hS)) λr s' h=>?_
  cases r with
  |error e=>exact(Ww H e s' h).elim
  |ok fl=>
   cases fl with
   |next=>exact False.elim h
   |brk=>exact False.elim h
   |cont=>exact False.elim h
   |ret u=>
    obtain⟨v,_,os,bare,un,TL,r',q⟩:=h
    have q':v=.bl true:=q
    subst q'
    obtain rfl:u=Value.bool true:=r'
    refine⟨rfl,OldK.of_keep λb o e=>?_,os,bare⟩
    cases q:H b with
    |none=>exact un.keep b o e q (by intro z;exact absurd (show b∈([]:List Addr)from z) (by simp)) (by simp)
    |some u=>
     rcases hO b with z|⟨ob,xs,z⟩
     ·rw[q]at z;cases z
     ·have z2:=un.lT b ob _ z
      obtain⟨e1,_⟩:=cD b _ z
      obtain⟨e2,_⟩:=TL b _ z2
      rw[e]at e1;cases e1
      exact e2
 cases hk:K.lookup a with
 |some o=>
  have e:=KX a o hk
  rw[ha]at e
  cases e
  refine core (λ_=>none) (λ_=>.inl rfl) (.inr ⟨vs,_,hk,by rw[TK];exact hl,rv⟩) (λb u z=>by have z':(none:Option HO)=⇑u:=z;cases z') (λb z=>absurd rfl z) λz=>absurd rfl z
 |none=>
  refine core (λb=>if b=a then ⇑(.frz {cls:=.type "list",data:=.seq vs.toArray} (.lst (ns.map V.int)))else none) (λb=>?_) (.inl (.inr ⟨{cls:=.type "list",data:=.seq vs.toArray},W1 rfl⟩)) (λb u z=>?_) (λb z=>?_) λ_=>hk
  ·by_cases hb:b=a
   ·exact .inr ⟨_,_,W1 hb⟩
   ·exact .inl (UF hb)
  ·by_cases hb:b=a
   ·have z':=(W1 hb).symm.trans z
    cases z'
    subst hb
    exact⟨ha,by rw[ZD];exact hl,vs,_,rv,ha⟩
   ·have z':=(UF hb).symm.trans z
    cases z'
  ·by_cases hb:b=a
   ·exact hb
   ·exact absurd (UF hb) z
theorem ints_rep{K:aX}:∀ns:List Int,aL K κ H (ns.map V.int) (ns.map PV.int)
 |[]=>.nil
 |n::ns=>.cons (.int n) (ints_rep ns)
section
variable{e a b:Expr}{p:Pos}
theorem mW{n:Int}(h:∃t,X.mg x=⇑(.int n t))(hg:Gl X x:=by rfl)(hd:gz x:=by decide):DE X κ (.Name x pos) (dC (.int n)):=by
 obtain⟨t,h⟩:=h
 exact⟨_,kR (v:=.int n) hg h ⟨t,rfl⟩ hd,λ{G A _ _ _ _ H p Q} r e q=>by cases e;exact q _ H (aA.refl _) (.int n)⟩
theorem sT(ha:DB X κ a fa)(hm:X.mg "isinstance" =none)(NF:X.mg "int" =none)(hg:Gl X "isinstance" :=by rfl)(Qw:Gl X "int" :=by rfl)(hs:starEach [a,.Name "int" p2] X.env=(false,eval a X.env)::starEach [.Name "int" p2] X.env:=by rfl)(pB:starEach [.Name "int" p2] X.env=(false,eval (.Name "int" p2) X.env)::starEach [] X.env:=by rfl)
 (hpl:kP pos [.Name "int" p2] X.env:=by rfl):DE X κ (.Call (.Name "isinstance" p) [a,.Name "int" p2] [] pos) (bC (O7 0) fa):=tU 0 ∅ PyProof.Rows.boot_int ha hm NF hg Qw ∅ ∅ hs pB hpl
theorem qF(ha:DB X κ a fa)(hm:X.mg "isinstance" =none)(NF:X.mg "bool" =none)(hg:Gl X "isinstance" :=by rfl)(Qw:Gl X "bool" :=by rfl)(hs:starEach [a,.Name "bool" p2] X.env=(false,eval a X.env)::starEach [.Name "bool" p2] X.env:=by rfl)(pB:starEach [.Name "bool" p2] X.env=(false,eval (.Name "bool" p2) X.env)::starEach [] X.env:=by rfl)
 (hpl:kP pos [.Name "bool" p2] X.env:=by rfl):DE X κ (.Call (.Name "isinstance" p) [a,.Name "bool" p2] [] pos) (bC (O7 1) fa):=tU 1 ∅ PyProof.Rows.boot_bool ha hm NF hg Qw ∅ ∅ hs pB hpl
end
variable{h':Heap}{ch:List Addr}{t':Nat}
section
theorem LN(hf:∀b∈ch,nX X pins H b):∀b∈ch,(b∈X.ex\/↥X.s₀<=b)/\b≠X.env.locals/\(∀x c,X.env.cells.lookup x=⇑c->c≠b)/\∀p∈X.pn++pins,p.1≠b:=λb hb=>by
 obtain⟨_,f1,_,f3,f4,f5⟩:=hf b hb
 exact⟨f3,f1,f4,f5⟩
theorem _root_.L2.Inv.vk(I:Inv X pins σ H s)(k:∀b o,b∉ch->s.heap.get? b=⇑o->h'.get? b=⇑o)(hf:∀b∈ch,nX X pins H b):Inv X pins σ H {s with heap:=h',toks:=t'}:=by
 have Lp:∀b u,H b=⇑u->b∉ch:=λb u e z=>by rw[(hf b z).1]at e;cases e
 refine I.step (g':=s.gens) (d':=s.drawn) (ch:=ch) (LN hf) (λb o _ _ hc e _=>k b o hc e) (λb o _ _ hc e _=>⟨o.slots,k b o hc e⟩) (λ_ _ _ _ n=>n)
  (λb o hc e=>⟨o,k b o hc e⟩) (λ_ _ e=>e) (λ_ _ _ e=>e) (λb _ e=>⟨#[],by rw[e];simp⟩) (λm hm=>?_) (λb u e=>?_) I.bare
 ·obtain⟨o,es,ep,ho,r⟩:=hm
  exact⟨o,es,ep,k _ o (λz=>(hf _ z).2.1 rfl) ho,r⟩
 ·refine(I.cD b u e).jW (λc v hc q=>k c v ?_ q) (λ_ q=>q) λ_ _ q=>q
  rcases hc with z|z
  ·rw[z];exact Lp b u e
  ·exact Lp c _ z
theorem _root_.L2.Inv.De{u:HO}(I:Inv X pins σ H s)(k:∀b o,b∉ch->s.heap.get? b=⇑o->h'.get? b=⇑o)(hf:∀b∈ch,nX X pins H b)
  (new:cZ X.prog X.w (upd H ↥s u) h' ↥s u):Inv X pins σ (upd H ↥s u) {s with heap:=h',toks:=t'}:=by
 have fr:H ↥s=none:=I.cD.fresh (ZK _)
 have Lp:∀b u,H b=⇑u->b∉ch:=λb u e z=>by rw[(hf b z).1]at e;cases e
 have sm:aA H (upd H ↥s u):=bL fr
 refine I.step (g':=s.gens) (d':=s.drawn) (ch:=ch) (LN hf) (λb o _ _ hc e _=>k b o hc e) (λb o _ _ hc e _=>⟨o.slots,k b o hc e⟩) (λb o _ e n=>?_)
  (λb o hc e=>⟨o,k b o hc e⟩) (λ_ _ e=>sm _ _ e) (λ_ _ _ e=>sm _ _ e) (λb _ e=>⟨#[],by rw[sm _ _ e];simp⟩) (λm hm=>?_) (λb v e=>?_) I.bare
 ·rw[au (Ze (ZN e))]
  exact n
 ·obtain⟨o,es,ep,ho,r⟩:=hm
  exact⟨o,es,ep,k _ o (λz=>(hf _ z).2.1 rfl) ho,r⟩
 ·by_cases hb:b=↥s
  ·subst hb
   rw[aF]at e
   cases e
   exact new
  ·rw[au hb]at e
   refine(I.cD b v e).jW (λc v hc q=>k c v ?_ q) (λc q=>sm _ _ q) λc _ q=>sm _ _ q
   rcases hc with z|z
   ·rw[z];exact Lp b _ e
   ·exact Lp c _ z
end
theorem vm:∀xs ys:List Int,wV xs ys=HT.lexLt xs ys
 |[],[]=>rfl
 |[],_::_=>rfl
 |_::_,[]=>rfl
 |x::xs,y::ys=>by
  rw[HT.lX,<-vm xs ys]
  rfl
theorem vn{K:aX}:∀{vs:List V} {l:List PV} {ns:List Int},aL K κ H vs l->fN l=⇑ns->vs=ns.map V.int
 |_,_,_,.nil,h=>by cases h;rfl
 |_,p::_,_,.cons r t,h=>by
  cases p<;>first|(cases h;done)|skip
  obtain⟨_,h1,rfl⟩:=ZC.mp h
  rw[ZV,<-vn t h1,r.sH]
theorem qG:∀xs:List Int,HT.lexLt xs xs=false
 |[]=>rfl
 |x::xs=>by rw[HT.lX,W1 rfl,qG xs]
theorem vo{K:aX}{x:V}{i:Int}{l:List PV}(r:Rep K κ H x (.tup [.int i,.lst l]))(h:fN l=⇑ns):∃a la,x=.ref a/\jZ K H a [.int i,.ref la]/\SL K H la (ns.map V.int):=by
 cases r with
 |tup q1 w=>
  cases w with
  |cons r1 w=>
   cases w with
   |cons r2 w=>
    cases w
    cases r1
    cases r2 with
    |lst q2 w2=>
     rw[vn w2 h]at q2
     exact⟨_,_,rfl,q1,q2⟩
variable{rk:Int->Nat}
theorem qH{x:Int}(h:x∈eF rk ns):x∈ns:=by
 obtain⟨i,_,rfl⟩:=Zi.mp h
 exact Z8 _
theorem mX(rk:Int->Nat)(ns:List Int):(eF rk ns).length=ns.length:=by simp[eF]
theorem F4:∀{ns:List Int},ns.length<2->eF rk ns=ns
 |[],_=>Y7 (mX rk [])
 |[x],_=>by
  obtain⟨y,e⟩:=List.length_eq_one_iff.mp (mX rk [x])
  have:=qH (rk:=rk) (ns:=[x]) (x:=y) (by rw[e];exact Zl.mpr rfl)
  rw[e,Zl.mp this]
 |_::_::_,h=>absurd h (by simp)
variable{Q:Bool->Shared->Prop}{prog:Program}{E:Value->Shared->Prop}
section
variable{w:World}{A:Around}
theorem Df(x y:Value)(b:Bool):keyLt' (tuples' b) x y=(do
 let xs<-Builtin.List.listItems x;let ys<-Builtin.List.listItems y
 for ((p,q),i)in(xs.toList.zip ys.toList).zipIdx do
  if !(<-eqBool p q)then return<-oneLt' (b&&i==0) p q
 return decide (xs.size<ys.size)):=rfl
theorem zA{b:Addr}{u1 u2 w1 w2:Value}{e1 e2 r1 r2:Bool}{oa ob:Obj}{na nb:Nat}(ha:s.heap.get? a=⇑oa)(da:oa.data=.seq #[u1,u2] na)(hb:s.heap.get? b=⇑ob)(db:ob.data=.seq #[w1,w2] nb)
  (q1:EqAt A s u1 w1 e1)(q2:EqAt A s u2 w2 e2)(l1:e1=false->∀Q',Q' r1 s->wpAny (model prog w) A (oneLt' true u1 w1) Q' E s)(l2:e2=false->∀Q',Q' r2 s->wpAny (model prog w) A (oneLt' false u2 w2) Q' E s)
  (h:Q (if e1 then(if e2 then false else r2)else r1) s):wpAny (model prog w) A (keyLt' (tuples' true) (.ref a) (.ref b)) Q E s:=by
 rw[Df]
 refine UV (listItems_at ha da ?_)
 refine UV (listItems_at hb db ?_)
 simp only[Z6,List.zip_nil_right,RU,z0E,Yi,Y9]
 cases e1 with
 |false=>
  refine UV (UV (UV (q1 prog w E _ ?_)))
  refine UV (l1 rfl _ ?_)
  exact SB (SB (SB h))
 |true=>
  refine UV (UV (UV (q1 prog w E _ ?_)))
  refine SB ?_
  cases e2 with
  |false=>
   refine UV (UV (q2 prog w E _ ?_))
   refine UV (l2 rfl _ ?_)
   exact SB (SB (SB h))
  |true=>
   refine UV (UV (q2 prog w E _ ?_))
   refine SB (SB (SB ?_))
   exact h
theorem xh{l m:Addr}{r:Bool}(h:Qi A s (.ref l) (.ref m) r)(q:Q r s):wpAny (model prog w) A (oneLt' false (.ref l) (.ref m)) Q E s:=by
 rw[oneLt'_eq]
 simp only[YL,if_false]
 exact UV (h prog w E _ (P3 q))
theorem zB{o:Obj}{u1 u2:Value}{Q:Option Value->Shared->Prop}(ho:s.heap.get? a=⇑o)(hc:o.cls=.type "tuple")(hd:o.data=.seq #[u1,u2] n)(h:Q ⇑u1 s):wpAny (model prog w) A (firstOfTuple' (.ref a)) Q E s:=by
 show wpAny (model prog w) A (do
  if(<-typeOf (.ref a)) !=.type "tuple" then return none
  return(<-Builtin.List.listItems (.ref a))[0]?) Q E s
 refine UV (wpAny_typeOf (T:= "tuple") ⟨o,ho,hc⟩ ?_)
 have ht:(Value.type "tuple" !=Value.type "tuple")=false:=by decide
 rw[ht]
 simp only[YL,if_false]
 exact UV (listItems_at ho hd (SB h))
def vp(h:Heap)(v:Value)(i:Int):Prop:=∃a o t u2 n,v=.ref a/\h.get? a=⇑o/\o.cls=.type "tuple" /\o.data=.seq #[.int i t,u2] n
theorem qI:∀(ks:List Value),(∀v∈ks,∃i,vp s.heap v i)->∀(Q:List (Option Value)->Shared->Prop),(∀fs,(∀f∈fs,∃i t,f=⇑(Value.int i t))->fs.length=ks.length->Q fs s)->wpAny (model prog w) A (ks.mapM firstOfTuple') Q E s
 |[],_,Q,h=>by
  rw[List.mapM_nil]
  exact SB (h [] (by simp) rfl)
 |k::ks,hk,Q,h=>by
  obtain⟨i,a,o,t,_,n,rfl,ho,hc,hd⟩:=hk k (ZM ..)
  rw[List.mapM_cons]
  refine UV (zB ho hc hd ?_)
  refine UV (qI ks (λv hv=>hk v (ZI _ hv)) _ λfs h1 h2=>SB (h _ (λf hf=>?_) (by simp[h2])))
  rcases Zc.mp hf with rfl|hf
  ·exact⟨i,t,rfl⟩
  ·exact h1 f hf
theorem sU{ks:List Value}(hk:∀v∈ks,∃i,vp s.heap v i)(u6:ks≠[]){Q:SortKind->Shared->Prop}(h:Q (tuples' true) s):wpAny (model prog w) A (keyKind' ks.toArray) Q E s:=by
 rw[keyKind'_eq,List.mapM_toArray]
 refine UV ?_
 rw[map_eq_pure_bind]
 refine UV (qI ks hk _ λfs h1 h2=>SB ?_)
 have ha:(fs.toArray.all λx=>x.isSome)=true:=by
  rw[List.all_toArray,ZP]
  intro x hx
  obtain⟨i,t,rfl⟩:=h1 x hx
  rfl
 rw[W1 ha]
 refine UV (wpAny_rule ?_)
 obtain⟨vs,ns,ev,hi⟩:∃vs ns,fs.filterMap id=vs/\IntsAre vs ns/\vs.length=fs.length:=by
  clear ha h2
  induction fs with
  |nil=>exact⟨[],[],rfl,.nil,rfl⟩
  |cons f fs ih=>
   obtain⟨i,t,rfl⟩:=h1 f (ZM ..)
   obtain⟨vs,ns,e,q,ql⟩:=ih λg hg=>h1 g (ZI _ hg)
   exact⟨.int i t::vs,i::ns,by rw[Zs,id,e],.cons i t q,by simp[ql]⟩
 obtain⟨hi,hl⟩:=hi
 have e1:fs.toArray.filterMap id=vs.toArray:=by
  rw[<-ev]
  simp
 rw[e1,oneTypeOnly'_eq,List.mapM_toArray,mapM_typeOf_ints hi]
 simp only[map_pure,pure_bind]
 cases vs with
 |nil=>
  exfalso
  rw[h2]at hl
  simp at hl
  exact u6 (Y7 hl.symm)
 |cons v vs=>
  have uW:((List.map (λ_=>Value.type "int") (v::vs)).toArray.all λx=>x==Value.type "int")=true:=by
   simp only[List.all_toArray,List.all_map,ZP]
   intro _ _
   rfl
  have h0:(List.map (λ_=>Value.type "int") (v::vs)).toArray[0]?=⇑(Value.type "int"):=by simp
  rw[h0]
  simp only[uW,if_true,pure_bind]
  exact SB h
end
def Dg(K:aX)(κ:Kl)(H:Hp)(kI:Int->Int)(kL:Int->List Int)(p:Value×Value):Prop:=∃n t a,qA n=true/\p.2=.int n t/\p.1=.ref a/\Rep K κ H (.ref a) (.tup [.int (kI n),.lst ((kL n).map PV.int)])
def LO(p:Value×Value):Nat:=lH (numOf p.2)
theorem iu:∀xs:List Int,fN (xs.map PV.int)=⇑xs
 |[]=>rfl
 |x::xs=>by
  rw[ZV]
  unfold fN
  rw[iu xs]
  rfl
variable{kI:Int->Int}{kL:Int->List Int}
theorem Dg.pair{p:Value×Value}(I:Inv X pins σ H s)(h:Dg X.K κ H kI kL p):∃i,vp s.heap p.1 i:=by
 obtain⟨n,t,a,_,_,e,r⟩:=h
 obtain⟨_,_,z,q1,_⟩:=vo r (iu _)
 cases z
 obtain⟨_,rv,p1,_⟩:=I.tuple q1
 obtain⟨_,u2,rfl,g1,_⟩:=rv.two
 obtain⟨t1,rfl⟩:=g1
 obtain⟨o,ho,hc,n',hd⟩:=p1
 exact⟨kI n,a,o,t1,u2,n',e,ho,hc,hd⟩
theorem Dh{A:Around}(I:Inv X pins σ H s)(hu:A.units+5<cLine)
  (ho:∀n m,qA n=true->qA m=true->(if kI n=kI m then wV (kL n) (kL m)else decide (kI n<kI m))=decide (lH n<lH m)):∀(p q:Keyed) (st:SortSt) (Q:Option Bool->SortSt->Prop),kindOf st=tuples' true->Dg X.K κ H kI kL p->Dg X.K κ H kI kL q->Q ⇑(decide (LO p<LO q)) st->wpS (model X.prog X.w) A E s (lt' p q) Q st:=by
 intro p q st Q hk ⟨n,t,a,R3,e1,e2,r1⟩ ⟨m,_,b,Wx,e3,e4,r2⟩ h
 rw[lt'_eq]
 refine wpS_bind (wpS_get ?_)
 rw[hk,e2,e4]
 obtain⟨_,_,z,q1,q2⟩:=vo r1 (iu _)
 cases z
 obtain⟨_,_,z,q3,q4⟩:=vo r2 (iu _)
 cases z
 obtain⟨_,rv,p1,_⟩:=I.tuple q1
 obtain⟨_,R4,p2,_⟩:=I.tuple q3
 obtain⟨_,_,rfl,g1,g2⟩:=rv.two
 obtain⟨_,_,rfl,g3,g4⟩:=R4.two
 obtain⟨t1,rfl⟩:=g1
 obtain⟨t2,rfl⟩:=g3
 cases g2
 cases g4
 obtain⟨_,ha,_,_,da⟩:=p1
 obtain⟨_,hb,_,_,db⟩:=p2
 have Vg:A.units<cLine:=by omega
 obtain⟨_,v1,Wy,_⟩:=I.list q2.sq
 obtain⟨_,v2,R5,_⟩:=I.list q4.sq
 refine wpS_bind (wpS_lift (wpAny_attempt (zA ha da hb db (e1:=decide (kI n=kI m)) (e2:=decide (kL n=kL m)) (r1:=decide (kI n<kI m)) (r2:=HT.lexLt (kL n) (kL m)) ?_ (C6 I q2.sq q4.sq Vg) (λ_ _ hq=>oneLt_int hq)
  (λ_ _ hq=>xh (zo Wy.isList R5.isList (by simpa using intsAre_of v1) (by simpa using intsAre_of v2) Vg) hq) ⟨rfl,?_⟩)))
 ·rw[<-Bool.beq_eq_decide_eq]
  exact EqAt.int_int (kI n) t1 (kI m) t2
 ·refine wpS_pure ?_
  have z:=ho n m R3 Wx
  have e:(if decide (kI n=kI m)=true then(if decide (kL n=kL m)=true then false else HT.lexLt (kL n) (kL m))else decide (kI n<kI m))=decide (LO p<LO q):=by
   unfold LO
   rw[e1,e3]
   show _=decide (lH n<lH m)
   rw[<-z]
   by_cases h1:kI n=kI m
   ·rw[SZ h1,W1 rfl,W1 h1]
    by_cases h2:kL n=kL m
    ·rw[h2,SZ rfl,W1 rfl,vm,qG]
    ·rw[Wp h2,UF ∅,vm]
   ·rw[Wp h1,UF ∅,UF h1]
  rw[e]
  exact h
abbrev R6(X:Cx):Cx:={X with A:=X.A.in1.in1,xe:=λ_ _=>False}
variable{its:List Value}
section
variable{rest:List (Addr×Obj)}
theorem NG(ok:X.Ok):(R6 X).Ok:=⟨ok.mod,ok.kind,ok.glob,ok.blt,ok.above,ok.inj,ok.has,ok.cab,ok.hd,ok.frames,ok.stk,ok.exf,ok.bs,ok.bsz,ok.noex,ok.exfs,ok.funs,ok.frf⟩
theorem JU(I:Inv X pins σ H s):Inv (R6 X) pins σ H s:=⟨NG I.ok,I.os,I.bare,I.base,I.loc,I.cell,I.free,I.freeC,I.pin,I.cD,I.len⟩
theorem F5(ok:X.Ok)(I:Inv (R6 X) pins σ H s):Inv X pins σ H s:=⟨ok,I.os,I.bare,I.base,I.loc,I.cell,I.free,I.freeC,I.pin,I.cD,I.len⟩
theorem F6{o:Obj}(I:Inv X (pins++(a,o)::rest) σ H s)(u6:∀p∈X.pn++(pins++rest),p.1≠a)(ha:↥X.s₀<=a):
  s.heap.get? a=⇑o/\H a=none/\a≠X.env.locals/\a∉X.fs/\(∀v,o.data≠.cell v)/\(∀x c,X.env.cells.lookup x=⇑c->c≠a):=by
 obtain⟨h1,h2,h3,h4,h5⟩:=I.pin (a,o) (ZF _ (ZF _ (ZM ..)))
 refine⟨h1,h2,h3,h4,h5,λx c e z=>?_⟩
 obtain⟨v,_,ho,hd⟩:=I.cell x c e
 rw[z,h1]at ho
 cases ho
 exact h5 v hd
theorem mY{o o':Obj}(I:Inv X (pins++(a,o)::rest) σ H s)(u6:∀p∈X.pn++(pins++rest),p.1≠a)(ha:↥X.s₀<=a)(hk:∀b u,b≠a->s.heap.get? b=⇑u->h'.get? b=⇑u)(hn:h'.get? a=⇑o')(hc:∀v,o'.data≠.cell v):
  Inv X (pins++(a,o')::rest) σ H {s with heap:=h',toks:=t'}:=by
 obtain⟨_,h2,h3,h4,_,h6⟩:=F6 I u6 ha
 have I1:Inv X (pins++rest) σ H s:=I.ff λp hp=>I.pin p (ZF _ (by
  rcases Zg.mp hp with z|z
  ·exact Zf _ z
  ·exact ZF _ (ZI _ z)))
 have I2:Inv X (pins++rest) σ H {s with heap:=h',toks:=t'}:=I1.turned (it:=a) hk h2 h3 (.inr ha) h6 u6
 refine I2.ff λp hp=>?_
 rcases Zg.mp hp with z|z
 ·exact I2.pin p (ZF _ (Zf _ z))
 ·rcases Zc.mp z with rfl|z
  ·exact⟨hn,h2,h3,h4,hc⟩
  ·exact I2.pin p (ZF _ (ZF _ z))
theorem Bl{o:Obj}(I:Inv X pins σ H s)(hc:∀v,o.data≠.cell v)(hk:∀b u,s.heap.get? b=⇑u->h'.get? b=⇑u)(ha:↥s<=a)(hn:h'.get? a=⇑o):Inv X (pins++[(a,o)]) σ H {s with heap:=h',toks:=t'}:=by
 have I1:Inv X pins σ H {s with heap:=h',toks:=t'}:=I.kept hk
 refine I1.ff λp hp=>?_
 rcases Zg.mp hp with z|z
 ·exact I1.pin p (ZF _ z)
 ·have e:p=(a,o):=by simpa using z
  subst e
  exact⟨hn,I.cD.fresh ha,YJ (ZZ I.lt ha),I.IZ ha,hc⟩
theorem Bm(I:Inv X pins σ H s):∀p∈X.pn++pins,p.1<↥s:=λp hp=>ZN (I.pin p hp).1
theorem Di(I:Inv X pins σ H s)(ho:s.heap.get? a=some {cls:=.type "list",data:=.seq its.toArray n})(hn:H a=none)(hL:a≠X.env.locals)(h1:↥X.s₀<=a)(h2:∀x c,X.env.cells.lookup x=⇑c->c≠a)
  (h3:∀p∈X.pn++pins,p.1≠a)(hv:Vals xs its)(hz:xs.length<=sizeLine):Inv X pins σ (upd H a (.lst xs)) s:=by
 have sm:aA H (upd H a (.lst xs)):=bL hn
 have:=I.step (h':=s.heap) (H':=upd H a (.lst xs)) (g':=s.gens) (d':=s.drawn) (t':=s.toks) (ch:=[a]) (λb hb=>?_) (λb o _ _ _ e _=>e) (λb o _ _ _ e _=>⟨o.slots,e⟩) (λb o hb e n=>?_) (λb o _ e=>⟨o,e⟩)
  (λb xs e=>sm _ _ e) (λb o u e=>sm _ _ e) (λb _ e=>⟨#[],by rw[sm _ _ e];simp⟩) (λm hm=>hm) (λb u e=>?_) I.bare
 ·exact this
 ·have e:b=a:=by simpa using hb
  subst e
  exact⟨.inr h1,hL,h2,h3⟩
 ·rw[au (by simpa using hb)]
  exact n
 ·by_cases hb:b=a
  ·subst hb
   rw[aF]at e
   cases e
   exact⟨hz,its,n,hv,ho⟩
  ·rw[au hb]at e
   exact(I.cD b u e).jW (λc v _ q=>q) (λc q=>sm _ _ q) λc _ q=>sm _ _ q
end
variable{P:PySem.Fin->Shared->Prop}{keys:Array Value}{H0:Hp}
section
variable{D kS:Addr}{e1:Nat}{vs:List Value}
def pR(X:Cx)(pins:List (Addr×Obj))(σ:St)(H:Hp)(D:Addr)(ns:List Int)(s':Shared):Prop:=
 ∃H' out c,aA H H'/\Inv X (pins++[(D,seqObj "list" out c)]) σ H' s'/\Vals ((eF lH ns).map V.int) out.toList
theorem Dj{A:Around}{w:World}{kd:SortKind}(hi:IntsAre vs ns)(hsz:keys.size=vs.length)
  (C:∀(p q:Keyed) (st:SortSt) (Q:Option Bool->SortSt->Prop),kindOf st=kd->p∈keys.toList.zip vs->q∈keys.toList.zip vs->Q ⇑(decide (LO p<LO q)) st->wpS (model prog w) A E s (lt' p q) Q st){Q:Unit->SortSt->Prop}
  (q:∀st,(arrOf st).size=vs.length->Vals ((eF lH ns).map V.int) ((arrOf st).map (·.2)).toList->failedOf st=none->Q () st):wpS (model prog w) A E s sortRuns' Q (SortSt.mk' kd (keys.zip vs.toArray) #[] 7 none):=by
 have hl:=hi.length
 have h1:∀i:Fin ns.length,i<keys.size:=λi=>by have:=i.2;omega
 have h2:∀i:Fin ns.length,i<vs.length:=λi=>by have:=i.2;omega
 have hn:∀i:Fin ns.length,numOf (vs[i]'(h2 i))=ns[i]:=λi=>by
  have:=hi.nums
  subst this
  simp
 have hz:(Vector.ofFn (id:Fin ns.length->Fin ns.length)).toArray.map (λi=>((keys[i]'(h1 i),vs[i]'(h2 i)):Keyed))=keys.zip vs.toArray:=by
  apply Array.ext
  ·simp[hsz,hl]
  ·intro i _ _
   simp
 have:=Classical.choose_spec (TW.sorts (λi j:Fin ns.length=>decide (lH ns[i]<lH ns[j])) (Vector.ofFn id)) ⟨prog,w,A,E,s,kd,λi=>(keys[i]'(h1 i),vs[i]'(h2 i)),λi j st Q hk h=>C _ _ st Q hk ?_ ?_ (by unfold LO;rw[hn,hn];exact h)⟩ Q λst e f=>q st ?_ ?_ f
 ·dsimp only at this
  rwa[hz]at this
 ·exact YR.mpr ⟨i,by rw[Zx];simp[h1 i,h2 i]⟩
 ·exact YR.mpr ⟨j,by rw[Zx];simp[h1 j,h2 j]⟩
 ·rw[e]
  simp[hl]
 ·rw[e]
  unfold eF
  generalize Classical.choose _=p
  have:=kU (intsAre_map (p.toList.map λi=>vs[i]'(h2 i)) λv hv=>by
   obtain⟨i,_,rfl⟩:=Zi.mp hv
   exact hi.all _ (Z8 _))
  rw[show(p.toList.map λi=>vs[i]'(h2 i)).map numOf=p.toList.map λi=>ns[i] by rw[Zp];exact List.map_congr_left λi _=>hn i]at this
  simpa[Function.comp_def,Vector.toList]using this
theorem tW{st:SortSt}{e:Nat}(I:Inv X (pins++[(kS,seqObj "list" keys e),(D,seqObj "list" #[] e1)]) σ H s)(LP:kS≠D)(np:∀p∈X.pn++pins,p.1≠kS/\p.1≠D)(aS:↥X.s₀<=kS)(aD:↥X.s₀<=D)
  (hi:IntsAre vs ns)(ok:∀n∈ns,qA n=true)(hsz:keys.size=vs.length)(qJ:vs.length<=5000)(X4:(arrOf st).size=vs.length)(hv:Vals ((eF lH ns).map V.int) ((arrOf st).map (·.2)).toList)(hf:failedOf st=none)
  (sm:aA H0 H)(q:∀s',pR X pins σ H0 D ns s'->P (.done (.ret .none)) s'):gw X (ksk_tail D false e1 (.ref kS) st) P E s:=by
 have hk:=(I.pin (kS,seqObj "list" keys e) (ZF _ (ZF _ (ZM ..)))).1
 have hd:=(I.pin (D,seqObj "list" #[] e1) (ZF _ (ZF _ (ZI _ (ZM ..))))).1
 have s1:=Ys s.heap kS (Obj.mapSeq λ_=>(#[]:Array Value))
 have nk:=get?_update_seq hk λ_=>(#[]:Array Value)
 have Pa:(s.heap.update kS (Obj.mapSeq λ_=>(#[]:Array Value))).get? D=⇑(seqObj "list" #[] e1):=(s1.2 D LP.symm).trans hd
 have zl:(5000:Nat)<=sizeLine:=by decide
 unfold ksk_tail
 refine UV (listUpdate_at hk rfl ?_ ⋯ (Zm _))
 refine UV (wpAny_letGo ?_)
 refine UV (seqEpoch_at Pa rfl ?_)
 refine UV (listUpdate_at Pa rfl ?_ (Zm _) (by
  simp only[YL,if_false,Array.size_map]
  omega))
 rw[hf]
 simp only[bne_self_eq_false,YL,if_false]
 refine SB (q _ ?_)
 have I1:=mY (t':=s.toks) I (λp hp=>by
  rcases Zg.mp hp with z|z
  ·exact(np p (Zf _ z)).1
  ·rcases Zg.mp z with z|z
   ·exact(np p (ZF _ z)).1
   ·have:p=(D,seqObj "list" #[] e1):=by simpa using z
    rw[this]
    exact LP.symm) aS (λb u hb e=>(s1.2 b hb).trans e) nk (λv z=>by cases z)
 have I2:Inv X ([]++(D,seqObj "list" #[] e1)::pins) σ H {s with heap:=s.heap.update kS (Obj.mapSeq λ_=>(#[]:Array Value)),toks:=s.toks}:=I1.ff λp hp=>by
  rcases Zc.mp hp with rfl|hp
  ·exact I1.pin _ (ZF _ (ZF _ (ZI _ (ZM ..))))
  ·exact I1.pin _ (ZF _ (Zf _ hp))
 have s2:=Ys (s.heap.update kS (Obj.mapSeq λ_=>(#[]:Array Value))) D (Obj.mapSeq λ_=>(arrOf st).map (·.2))
 obtain⟨c2,nd⟩:∃c2,((s.heap.update kS (Obj.mapSeq λ_=>(#[]:Array Value))).update D (Obj.mapSeq λ_=>(arrOf st).map (·.2))).get? D=⇑(seqObj "list" ((arrOf st).map (·.2)) c2):=⟨_,get?_update_seq Pa λ_=>(arrOf st).map (·.2)⟩
 have I3:=mY (t':=s.toks) I2 (λp hp=>(np p (by simpa using hp)).2) aD (λb u hb e=>(s2.2 b hb).trans e) nd (λv z=>by cases z)
 refine⟨H,(arrOf st).map (·.2),c2,sm,I3.ff λp hp=>?_,?_⟩
 ·rcases Zg.mp hp with z|z
  ·exact I3.pin p (ZF _ (ZF _ (ZI _ z)))
  ·have:p=(D,seqObj "list" ((arrOf st).map (·.2)) c2):=Zl.mp z
   rw[this]
   exact I3.pin _ (ZF _ (ZF _ (ZM ..)))
 ·exact hv
theorem F7{e:Nat}(I:Inv X (pins++[(kS,seqObj "list" keys e),(D,seqObj "list" #[] e1)]) σ H s)(LP:kS≠D)(np:∀p∈X.pn++pins,p.1≠kS/\p.1≠D)(aS:↥X.s₀<=kS)(aD:↥X.s₀<=D)(hu:X.A.units+5<cLine)
  (ho:∀n m,qA n=true->qA m=true->(if kI n=kI m then wV (kL n) (kL m)else decide (kI n<kI m))=decide (lH n<lH m))
  (hi:IntsAre vs ns)(ok:∀n∈ns,qA n=true)(hsz:keys.size=vs.length)(qJ:vs.length<=5000)(hg:∀p∈keys.toList.zip vs,Dg X.K κ H kI kL p)
  (sm:aA H0 H)(q:∀s',pR X pins σ H0 D ns s'->P (.done (.ret .none)) s'):gw X (ksk_end D false vs.toArray e1 (.ref kS) keys) P E s:=by
 unfold ksk_end
 simp only[YL,if_false]
 by_cases h2:vs.toArray.size<2
 ·rw[W1 h2,W1 h2]
  refine UV (SB ?_)
  rw[StateT.run_pure]
  refine UV (SB ?_)
  try dsimp only
  refine tW (st:=SortSt.mk' general' (keys.zip vs.toArray) #[] 7 none) I LP np aS aD hi ok hsz qJ ?_ ?_ rfl sm q
  ·show(keys.zip vs.toArray).size=_
   rw[Array.size_zip,hsz,ZH,z0Q]
  ·show Vals _ ((keys.zip vs.toArray).map (·.2)).toList
   have e:((keys.zip vs.toArray).map (·.2)).toList=vs:=by
    rw[Array.toList_map,ksk_zip,List.map_snd_zip (by simp[hsz])]
   rw[e,F4 (by rw[hi.length.symm];simpa using h2)]
   exact kU hi
 ·rw[UF h2,UF h2]
  have u6:keys.toList≠[]:=λz=>by
   have:keys.size=0:=by rw[<-ZQ,z];rfl
   rw[ZH]at h2
   omega
  have ek:keys=keys.toList.toArray:=by simp
  have NH:∀v∈keys.toList,∃i,vp s.heap v i:=λv hv=>by
   obtain⟨j,hj,e⟩:=List.getElem_of_mem hv
   have TM:j<vs.length:=by rw[<-hsz,<-ZQ];exact hj
   have hm:(v,vs[j])∈keys.toList.zip vs:=by
    rw[YR]
    exact⟨j,by rw[Zx];exact⟨by rw[<-e];exact ZG hj,ZG TM⟩⟩
   exact(hg _ hm).pair I
  have Wz:∀(Q:SortKind->Shared->Prop),Q (tuples' true) s->gw X (keyKind' keys) Q E s:=λQ hq=>by
   rw[ek]
   exact sU NH u6 hq
  refine UV (Wz _ ?_)
  refine UV (Pi (Dj (kd:=tuples' true) hi hsz (λp q st Q hk hp hq h=>Dh I hu ho p q st Q hk (hg p hp) (hg q hq) h)
   (Q:=λ_ tH=>(arrOf tH).size=vs.length/\Vals ((eF lH ns).map V.int) ((arrOf tH).map (·.2)).toList/\failedOf tH=none) λtH a b c=>⟨a,b,c⟩) ?_ λ_ _ e=>e)
  rintro⟨⟨⟩,tH⟩ s' ⟨rfl,a,b,c⟩
  try dsimp only
  exact tW I LP np aS aD hi ok hsz qJ a b c sm q
theorem Dk{k:Nat}{f:Addr}(FO:oj X k f fd [x] (eY X.K κ false F))(hr:bG k X.A)(hb:Binds X.K fd [x] [])(hx:∀e s',¬X.xe e s')
  (hF:∀n,qA n=true->F [.int n]=⇑(.tup [.int (kI n),.lst ((kL n).map PV.int)]))
  (I:Inv X (pins++[(kS,seqObj "list" #[] 0),(D,seqObj "list" #[] e1)]) σ H s)(LP:kS≠D)(np:∀p∈X.pn++pins,p.1≠kS/\p.1≠D)(aS:↥X.s₀<=kS)(aD:↥X.s₀<=D)
  (ho:∀n m,qA n=true->qA m=true->(if kI n=kI m then wV (kL n) (kL m)else decide (kI n<kI m))=decide (lH n<lH m))
  (hi:IntsAre vs ns)(ok:∀n∈ns,qA n=true)(qJ:vs.length<=5000)
  (q:∀s',pR X pins σ H D ns s'->P (.done (.ret .none)) s'):gw X (ksk_rest D (.ref f) false vs.toArray e1 (.ref kS)) P E s:=by
 have zl:(5000:Nat)<=sizeLine:=by decide
 unfold ksk_rest
 refine UV (wpAny_rule ?_)
 rw[List.forIn_toArray]
 refine UV (ksk_fold (λi s'=>∃H' kA e,kA.size=i/\Inv X (pins++[(kS,seqObj "list" kA e),(D,seqObj "list" #[] e1)]) σ H' s'/\aA H H'/\∀p∈kA.toList.zip vs,Dg X.K κ H' kI kL p) vs 0 s
  ⟨H,#[],0,rfl,I,aA.refl _,by simp⟩ ?step ?done)
 case step=>
  rintro j v s' hv ⟨H',kA,e,hsz,I',sm,hk⟩
  rw[Y5]at hsz⊢
  have hj:j<vs.length:=(ZL.mp hv).1
  obtain⟨n,t,rfl⟩:=hi.all v (Zv hv)
  have hn:qA n=true:=by
   have h1:=hi.nums
   have h2:(vs.map numOf)[j]?=⇑n:=by rw[Za,hv];rfl
   rw[h1]at h2
   exact ok n (Zv h2)
  have LB:eY X.K κ false F [.int n] H' (λv H2=>aA H' H2/\Rep X.K κ H2 v (.tup [.int (kI n),.lst ((kL n).map PV.int)])) E0:=
   ⟨λ_=>False,[.int n],_,λ_ z=>z.elim,.cons (.int n) .nil,hF n hn,λv H2 s z=>⟨s,Rep.mono aE z⟩⟩
  refine UV (wpAny_attempt (Pi (oh FO hr hb .nil eR I' (.cons ⟨t,rfl⟩ .nil:Vals [.int n] [.int n t]) LB) (λu s2 hu=>?_) λ_ s2 TN=>(hx _ _ TN).elim))
  obtain⟨_,H2,I2,rv,O8,rp⟩:=hu
  try dsimp only
  have nk:=(I2.pin (kS,seqObj "list" kA e) (ZF _ (ZF _ (ZM ..)))).1
  have s1:=Ys s2.heap kS (Obj.mapSeq (·.push u))
  obtain⟨c2,RW⟩:∃c2,(s2.heap.update kS (Obj.mapSeq (·.push u))).get? kS=⇑(seqObj "list" (kA.push u) c2):=⟨_,get?_update_seq nk (·.push u)⟩
  refine UV (listUpdate_at nk rfl ?_ ⋯ (Zd (z0P (z0F ..)) ⋯))
  refine SB ⟨rfl,H2,kA.push u,c2,by rw[z0F,hsz],?_,sm.trans O8,λp hp=>?_⟩
  ·exact mY (t':=s2.toks) I2 (λp hp=>by
    rcases Zg.mp hp with z|z
    ·exact(np p (Zf _ z)).1
    ·rcases Zg.mp z with z|z
     ·exact(np p (ZF _ z)).1
     ·have:p=(D,seqObj "list" #[] e1):=Zl.mp z
      rw[this]
      exact LP.symm) aS (λb o hb e=>(s1.2 b hb).trans e) RW (λv z=>by cases z)
  ·obtain⟨i,hp⟩:=YR.mp hp
   obtain⟨g1,g2⟩:=Zx.mp hp
   rw[z0Z,YF]at g1
   split at g1
   ·obtain⟨n',t',a,z1,z2,z3,z4⟩:=hk p (YR.mpr ⟨i,Zx.mpr ⟨g1,g2⟩⟩)
    exact⟨n',t',a,z1,z2,z3,z4.mono O8⟩
   ·rename_i jX
    have TQ:i=j:=by
     have:=(ZL.mp g1).1
     rw[ZQ,hsz]at this jX
     simp at this
     omega
    subst TQ
    rw[ZQ,hsz,z0W]at g1
    simp at g1
    rw[hv]at g2
    cases rp with
    |tup q1 w=>
     cases rv
     exact⟨n,t,_,hn,(ZX g2).symm,g1.symm,.tup q1 w⟩
 case done=>
  rintro s' ⟨H',kA,e,hsz,I',sm,hk⟩
  rw[Y5]at hsz
  have nk:=(I'.pin (kS,seqObj "list" kA e) (ZF _ (ZF _ (ZM ..)))).1
  try dsimp only
  refine UV (listItems_at nk rfl ?_)
  exact F7 I' LP np aS aD (by have:=hr.units;omega) ho hi ok hsz qJ hk sm q
theorem Dl{k:Nat}{f:Addr}(FO:oj X k f fd [x] (eY X.K κ false F))(hr:bG k X.A)(hb:Binds X.K fd [x] [])(hx:∀e s',¬X.xe e s')
  (hF:∀n,qA n=true->F [.int n]=⇑(.tup [.int (kI n),.lst ((kL n).map PV.int)]))
  (I:Inv X (pins++[(D,seqObj "list" vs.toArray n)]) σ H s)(np:∀p∈X.pn++pins,p.1≠D)(aD:↥X.s₀<=D)
  (ho:∀n m,qA n=true->qA m=true->(if kI n=kI m then wV (kL n) (kL m)else decide (kI n<kI m))=decide (lH n<lH m))
  (hi:IntsAre vs ns)(ok:∀n∈ns,qA n=true)(qJ:vs.length<=5000)
  (q:∀s',pR X pins σ H D ns s'->P (.done (.ret .none)) s'):gw X (ksk_tree D (.ref f) false) P E s:=by
 have zl:(5000:Nat)<=sizeLine:=by decide
 have hd:=(I.pin (D,seqObj "list" vs.toArray n) (ZF _ (ZF _ (ZM ..)))).1
 have s1:=Ys s.heap D (Obj.mapSeq λ_=>(#[]:Array Value))
 obtain⟨e1,Pa⟩:∃e1,(s.heap.update D (Obj.mapSeq λ_=>(#[]:Array Value))).get? D=⇑(seqObj "list" #[] e1):=⟨_,get?_update_seq hd λ_=>#[]⟩
 unfold ksk_tree
 refine UV (listItems_at hd rfl ?_)
 refine UV (listUpdate_at hd rfl ?_ (by rw[ZH];omega) (Zm _))
 refine UV (seqEpoch_at Pa rfl ?_)
 refine UV (wpAny_newTuple ?_ (by show vs.length<=_;omega))
 refine UV (wpAny_newList ?_ (Zm _))
 refine KM ?_
 have I1:=mY (t':=s.toks) I (λp hp=>np p (by simpa using hp)) aD (λb u hb e=>(s1.2 b hb).trans e) Pa (λv z=>by cases z)
 have I2:Inv X (pins++[(D,seqObj "list" #[] e1)]) σ H {s with heap:=(s.heap.update D (Obj.mapSeq λ_=>(#[]:Array Value))).push (seqObj "tuple" vs.toArray 0),toks:=s.toks}:=I1.kept (t':=s.toks) λb o e=>ZE _ e
 have I3:=Bl (o:=seqObj "list" #[] 0) (t':=s.toks) I2 (λv z=>by cases z) (λb o e=>ZE _ e) (ZK _) (ZR _ rfl)
 have Vh:=Bm I2
 have hD:D<((s.heap.update D (Obj.mapSeq λ_=>(#[]:Array Value))).push (seqObj "tuple" vs.toArray 0)).objs.size:=Vh (D,seqObj "list" #[] e1) (ZF _ (ZF _ (ZM ..)))
 refine Dk FO hr hb hx hF (kS:=((s.heap.update D (Obj.mapSeq λ_=>(#[]:Array Value))).push (seqObj "tuple" vs.toArray 0)).objs.size) (I3.ff λp hp=>?_) (YJ hD) (λp hp=>⟨Ze (Vh p ?_),np p hp⟩) (Zd aD (Tp hD)) aD ho hi ok qJ q
 ·refine I3.pin p (ZF _ ?_)
  rcases Zg.mp hp with z|z
  ·exact Zf _ (Zf _ z)
  ·rcases Zc.mp z with rfl|z
   ·exact ZF _ (ZM ..)
   ·exact Zf _ (ZF _ z)
 ·rcases Zg.mp hp with z|z
  ·exact Zf _ z
  ·exact ZF _ (Zf _ z)
end
section
variable{vs:List Value}
theorem mZ{k:Nat}{f:Addr}{Q:VK}(FO:oj X k f fd [x] (eY X.K κ false F))(hr:bG k X.A.in1.in1)(hb:Binds X.K fd [x] [])(hK:iO F)
  (I:Inv X pins σ H s)(hi:IntsAre vs ns)(ok:ke ns=true)(q:∀D H',aA H H'->H' D=none->Q (.ref D) (upd H' D (.lst ((eF lH ns).map V.int)))):
  wpAny (model X.prog X.w) X.A.in1 (do let l<-newList vs;let _<-holding [l] (call (.builtin "list.sort") [l] [(Str.ofString "key",.ref f)]);ret l) (λfin s'=>∃v,fin=.done (.ret v)/\EP X pins σ Q v s') X.xe s:=by
 have zl:(5000:Nat)<=sizeLine:=by decide
 obtain⟨_,_,hF,ho⟩:=hK
 unfold ke at ok
 simp only[ZS,Re,ZP]at ok
 have hlen:=hi.length
 refine UV (wpAny_newList ?_ ⋯)
 have I1:=Bl (o:=seqObj "list" vs.toArray 0) (t':=s.toks) I (λv z=>by cases z) (λb o e=>ZE _ e) (ZK _) (ZR _ rfl)
 have SH:(s.heap.push (seqObj "list" vs.toArray 0)).get? ↥s=⇑(seqObj "list" vs.toArray 0):=ZR _ rfl
 have np:∀p∈X.pn++pins,p.1≠↥s:=λp hp=>Ze (Bm I p hp)
 refine UV (KM (wpAny_call_entry_kw slot_list_sort ⟨_,SH,rfl⟩ entry_list_sort ?body (ksk_l1 _ _)))
 case body=>
  rw[ksk_t1]
  refine Dl (X:=R6 X) (pins:=pins) (σ:=σ) (H:=H) (D:=↥s) (n:=0) FO hr hb (λ_ _ z=>z) hF (JU I1) np I.sz ho hi ok.1 ⋯ λs' WA=>⟨_,rfl,?_⟩
  obtain⟨H',out,c,sm,I2,hv⟩:=WA
  have I3:=F5 I.ok I2
  have WB:=F6 (rest:=[]) I3 (λp hp=>np p (by simpa using hp)) I.sz
  obtain⟨h1,h2,h3,_,_,h6⟩:=WB
  have I4:Inv X pins σ H' s':=I3.ff λp hp=>I3.pin p (ZF _ (Zf _ hp))
  have hz:((eF lH ns).map V.int).length<=sizeLine:=by
   rw[ZD,mX]
   omega
  refine SB ⟨_,rfl,.ref _,_,Di (its:=out.toList) (n:=c) I4 (by simpa using h1) h2 h3 I.sz h6 np hv hz,rfl,q _ H' sm h2⟩
theorem oq{k:Nat}{f l:Addr}{Q:VK}(FO:oj X k f fd [x] (eY X.K κ false F))(hr:bG k X.A.in1.in1)(hb:Binds X.K fd [x] [])(hK:iO F)
  (I:Inv X pins σ H s)(hq:jv X.K H l (ns.map V.int))(ok:ke ns=true)(q:∀D H',aA H H'->H' D=none->Q (.ref D) (upd H' D (.lst ((eF lH ns).map V.int)))):
  gw X (call (.builtin "sorted") [.ref l] [(Str.ofString "key",.ref f)]) (EP X pins σ Q) X.xe s:=by
 obtain⟨its,rv,pl,hz⟩:=I.list hq
 have hi:=intsAre_of rv
 refine call_function_entry_kw kind_sorted plain_sorted entry_sorted (ksk_s1 _ _) ?_
 unfold Builtin.«sorted»
 refine UV (m:=checkCount "sorted" 1 1 _) (SB ?_)
 refine UV (collect_list pl.isList ?_ (by rw[<-rv.length];exact hz))
 have I1:Inv X pins σ H {s with heap:=(s.heap.push (seqObj "list" #[] 0)).update ↥s (Obj.mapSeq (·++its.toArray)),toks:=s.toks}:=I.kept λb o e=>by
  have jX:b<↥s:=ZN e
  rw[Heap.get?_update_ne _ _ _ _ (Ze jX)]
  exact ZE _ e
 exact mZ FO hr hb hK I1 hi ok q
end
section
variable{w:World}{A:Around}
theorem sV:∀(n:Nat) (acc:List Value),acc.length=n->(∀j v,acc[j]?=⇑v->∃t,v=Value.int ((j:Nat):Int) t)->∃ns,ns=(List.range n).map (λ(k:Nat)=>(k:Int))/\IntsAre acc ns:=by
 have go:∀(acc:List Value) (i:Nat),(∀j v,acc[j]?=⇑v->∃t,v=Value.int ((i+j:Nat):Int) t)->IntsAre acc ((List.range' i acc.length).map (λ(k:Nat)=>(k:Int))):=by
  intro acc
  induction acc with
  |nil=>intro i _;exact .nil
  |cons v acc ih=>
   intro i h
   obtain⟨t,rfl⟩:=h 0 v rfl
   rw[ZJ,Yp,ZV]
   refine .cons _ t (ih (i+1) λj v e=>?_)
   obtain⟨t,e⟩:=h (j+1) v (by simpa using e)
   exact⟨t,by rw[e];congr 2;omega⟩
 intro n acc hl h
 refine⟨_,rfl,?_⟩
 have:=go acc 0 (λj v e=>by simpa using h j v e)
 rwa[hl,<-List.range_eq_range']at this
theorem sW{r:Addr}{j:Int}{t u v:Tok}{Q:List Value->Shared->Prop}(hh:A.handled=none)(hr:IsRange s.heap r 0 j 1 t u v)(hj:j.toNat=n)(hn:n<=100000)(h0:-(2^62)<=j)
  (h:∀h' tk vs,(∀b o,s.heap.get? b=⇑o->h'.get? b=⇑o)->IntsAre vs ((List.range n).map (λ(k:Nat)=>(k:Int)))->Q vs {s with heap:=h',toks:=tk}):wpAny (model prog w) A (collect (.ref r)) Q E s:=by
 have TM:j<2^62:=by omega
 unfold collect
 refine UV (wpAny_runValue (codeAny_builtin entry_proto_collect' ?_))
 show wpAny _ _ (do again (.builtin "list.__iadd__" ⟨[<-newList [],.ref r],[]⟩)) _ _ s
 refine UV (wpAny_newList (SB ⟨Code.quiet_builtin _ (by decide+kernel),codeAny_builtin entry_list_iadd' ?_⟩))
 show wpAny _ _ (Builtin.List.listExtendWith (.ref ↥s) (.ref r) (.ref ↥s)) _ _ {s with heap:=s.heap.push (seqObj "list" #[] 0)}
 rw[Around.under_plainId (show plainId "list.__iadd__" =true by decide+kernel) _]
 refine wpAny_extend_range (R:=λr s'=>match r with|.ok (.ret v)=>wpAny (model prog w) A (match v with|.ref a=>(do let o<-load a;match o.data with|.seq xs _=>pure xs.toList|_=>unsupported "internal:collect")|_=>unsupported "internal:collect") Q E s'|.ok _=>False|.error e=>E e s') (s:={s with heap:=s.heap.push (seqObj "list" #[] 0)}) (n:=n) (c₀:=0) hh (ZE _ hr) (a:=0) (b:=j) (c:=1) (small_one ∅ ∅ h0 TM) (by rw[rangeSize_one];split<;>omega) ⋯ ↥s _ (ZR _ rfl) λh' tk acc c hk hS hI=>?_
 refine UV (wpAny_load hS ?_)
 obtain⟨_,rfl,hi⟩:=sV n acc.toList (by rw[ZQ];exact hI.1) (λj v e=>by
  obtain⟨t,e'⟩:=hI.2 j v (by simpa using e)
  exact⟨t,by rw[e'];simp⟩)
 exact SB (h h' tk acc.toList (λb o e=>hk b o (Ze (ZN e)) (ZE _ e)) hi)
end
section
variable{k:Nat}{f:Addr}
def TR(K:aX)(v:V)(H:Hp)(ns:List Int):Prop:=∃l,v=.ref l/\(jv K H l (ns.map V.int)\/∃j:Int,H l=⇑(.rng 0 j)/\-(2^62)<=j/\j.toNat<=100000/\ns=(List.range j.toNat).map (λ(k:Nat)=>(k:Int)))
theorem xi{Q:VK}(hc:X.calm=true)(FO:oj X k f fd [x] (eY X.K κ false F))(hr:bG k X.A.in1.in1)(hb:Binds X.K fd [x] [])(hK:iO F)
  (I:Inv X pins σ H s)(rv:RelV v u)(hq:TR X.K v H ns)(ok:ke ns=true)(q:∀D H',aA H H'->H' D=none->Q (.ref D) (upd H' D (.lst ((eF lH ns).map V.int)))):
  gw X (call (.builtin "sorted") [u] [(Str.ofString "key",.ref f)]) (EP X pins σ Q) X.xe s:=by
 obtain⟨l,rfl,hq⟩:=hq
 cases rv
 rcases hq with hq|⟨j,hq,h1,h2,rfl⟩
 ·exact oq FO hr hb hK I hq ok q
 ·obtain⟨t,u,v,WC⟩:=I.cD l _ hq
  refine call_function_entry_kw kind_sorted plain_sorted entry_sorted (ksk_s1 _ _) ?_
  unfold Builtin.«sorted»
  refine UV (m:=checkCount "sorted" 1 1 _) (SB ?_)
  refine UV (sW (A:=X.A.in1) (I.ok.hd hc) WC rfl h2 h1 λ_ tk _ hk hi=>?_)
  exact mZ FO hr hb hK (I.kept (t':=tk) hk) hi ok q
def Qy(K:aX)(te:TE):TE:=λσ H Q=>te σ H λv H1=>∃ns,TR K v H1 ns/\ke ns=true/\∀D H',aA H1 H'->H' D=none->Q (.ref D) (upd H' D (.lst ((eF lH ns).map V.int)))
theorem tX{p kp:Pos}{a:Expr}(FO:oj X k f fd [x] (eY X.K κ false F))(hr:bG (k+2) X.A)(hb:Binds X.K fd [x] [])(hK:iO F)(hm:X.mg "sorted" =none)(hy:X.mg y=⇑(.ref f))(ha:PE X a te)
  (hg:Gl X "sorted" :=by rfl)(Qz:Gl X y:=by rfl)(hc:X.calm=true:=by rfl)(Dm:gz y:=by decide)(hs:gd a [] X.env:=by rfl)(QA:backTo pos (starEach [a] X.env)=(false,eval a X.env)::backTo pos (starEach [] X.env):=by rfl)
  (QB:(backToKw pos (keywordEach [⟨some "key",.Name y px,kp⟩] X.env)).filterMap (·.1)=[Str.ofString "key"]:=by rfl)(uW:(backToKw pos (keywordEach [⟨some "key",.Name y px,kp⟩] X.env)).all (·.1.isSome)=true:=by rfl)(QC:(backToKw pos (keywordEach [⟨some "key",.Name y px,kp⟩] X.env)).any (·.1.isNone)=false:=by rfl)
  (hpl:kP pos [a] X.env:=by rfl):PE X (.Call (.Name "sorted" p) [a] [⟨some "key",.Name y px,kp⟩] pos) (Qy X.K te):=by
 intro pins s σ H Q I h
 refine wpAny_Call_Name_kw (lV I hg hm PyProof.Rows.boot_sorted ?_)
 have hA:=(aN ha bx hs) pos pins s σ H (λvs H1=>match vs with|[v]=>(∃ns,TR X.K v H1 ns/\ke ns=true/\∀D H',aA H1 H'->H' D=none->Q (.ref D) (upd H' D (.lst ((eF lH ns).map V.int))))|_=>False) I h
 refine PyProof.Rows.callWith_kw (cx hA λ_ s1 b9=>?_) QA hpl uW QC
 obtain⟨vs,H1,I1,r1,q1⟩:=b9
 try dsimp only at q1
 split at q1
 ·rename_i v
  obtain⟨ns,WD,ok,q⟩:=q1
  obtain⟨u,rfl,ru⟩:=r1.one
  have WE:=(Jm (nm:=some "key") (kpos:=kp) (kR (pos:=px) (v:=.ref f) Qz hy rfl Dm) M7:PK X [⟨some "key",.Name y px,kp⟩] _) pos pins s1 σ H1 (λzs H2=>zs=[.ref f]/\H2=H1) I1 ⟨rfl,rfl⟩
  refine cx WE λ_ _ b9=>?_
  obtain⟨zs,H2,I2,rz,e1,e2⟩:=b9
  subst e1 e2
  obtain⟨_,rfl,WG⟩:=rz.one
  cases WG
  rw[QB]
  exact xi hc FO (hr.in1).in1 hb hK I2 ru WD ok q
 ·exact q1.elim
theorem Dn{p:Pos}{a:Expr}(hm:X.mg "range" =none)(ha:PE X a te)(hg:Gl X "range" :=by rfl)(hs:starEach [a] X.env=[(false,eval a X.env)]:=by rfl):
  PE X (.Call (.Name "range" p) [a] [] pos) (λσ H Q=>te σ H λv H1=>∃j:Int,v=.int j/\∀l,H1 l=none->Q (.ref l) (upd H1 l (.rng 0 j))):=by
 intro pins s σ H Q I h
 have hA:=(aN ha bx hs) pos pins s σ H (λvs H1=>match vs with|[v]=>(∃j:Int,v=.int j/\∀l,H1 l=none->Q (.ref l) (upd H1 l (.rng 0 j)))|_=>False) I h
 refine Call_ (lV I hg hm boot_range (PyProof.Rows.callWith_type1 (cx hA λ_ s1 b9=>?_) hs rfl))
 obtain⟨vs,H1,I1,r1,q1⟩:=b9
 try dsimp only at q1
 split at q1
 ·obtain⟨j,rfl,q⟩:=q1
  obtain⟨u,rfl,t,rfl⟩:=r1.one
  refine call_range_1 ⟨.ref ↥s1,_,I1.laid (a:=↥s1) (o:=.rng 0 j) (t':=s1.toks+1+1) (λb o e=>ZE _ e) (ZK _) ?_,rfl,q _ I1.fresh⟩
  exact⟨_,_,_,ZR _ rfl⟩
 ·exact q1.elim
theorem zC{p kp:Pos}{a:Expr}(FO:oj X k f fd [x] (eY X.K κ false F))(hr:bG (k+2) X.A)(hb:Binds X.K fd [x] [])(hK:iO F)(hm:X.mg "sorted" =none)(hy:X.mg y=⇑(.ref f))(ha:DB X κ a fa)
  (hg:Gl X "sorted" :=by rfl)(Qz:Gl X y:=by rfl)(hc:X.calm=true:=by rfl)(Dm:gz y:=by decide)(hs:gd a [] X.env:=by rfl)(QA:backTo pos (starEach [a] X.env)=(false,eval a X.env)::backTo pos (starEach [] X.env):=by rfl)
  (QB:(backToKw pos (keywordEach [⟨some "key",.Name y px,kp⟩] X.env)).filterMap (·.1)=[Str.ofString "key"]:=by rfl)(uW:(backToKw pos (keywordEach [⟨some "key",.Name y px,kp⟩] X.env)).all (·.1.isSome)=true:=by rfl)(QC:(backToKw pos (keywordEach [⟨some "key",.Name y px,kp⟩] X.env)).any (·.1.isNone)=false:=by rfl)
  (hpl:kP pos [a] X.env:=by rfl):DO X κ (.Call (.Name "sorted" p) [a] [⟨some "key",.Name y px,kp⟩] pos) (oT (nList fa)):=by
 obtain⟨_,h1,h2⟩:=ha
 refine⟨_,tX FO hr hb hK hm hy h1 hg Qz hc Dm hs QA QB uW QC hpl,λ{G A _ _ _ _ H p Q} r e q=>?_⟩
 obtain⟨l,e1,e2⟩:=ZA.mp e
 obtain⟨p1,e3,e4⟩:=ZA.mp e1
 obtain⟨ns,e5,e6⟩:=ZA.mp e2
 obtain⟨ok,rfl⟩:=aQ e6
 refine h2 r e3 λv _ s1 b1=>?_
 cases p1<;>first|(cases e4;done)|skip
 cases e4
 obtain⟨a,_,rfl,q1,q2⟩:=b1.lst aE
 rw[vn q2 e5]at q1
 refine⟨ns,⟨a,rfl,.inl q1.sq⟩,ok,λD _ s2 hD=>?_⟩
 have FX:=s1.trans s2
 refine q _ _ (FX.trans (bL hD)) ?_
 obtain⟨a,ws,l,w1,w2,_,w4⟩:=(r.mono FX).sQ hD (ints_rep (κ:=κ) (eF lH ns))
 refine⟨a,ws,l,w1,w2,?_,w4⟩
 cases w1
 exact FX.free hD
theorem xj:∀n:Nat,fN (gD 0 n)=⇑((List.range n).map (λ(k:Nat)=>(k:Int))):=λn=>by
 have:gD 0 n=((List.range n).map (λ(k:Nat)=>(k:Int))).map PV.int:=by
  unfold gD
  rw[Zp]
  congr 1
  funext k
  simp
 rw[this,iu]
theorem zD{p kp xk:Pos}{a:Expr}(FO:oj X k f fd [x] (eY X.K κ false F))(hr:bG (k+2) X.A)(hb:Binds X.K fd [x] [])(hK:iO F)(hm:X.mg "sorted" =none)(WH:X.mg "range" =none)(hy:X.mg y=⇑(.ref f))(ha:DB X κ a fa)
  (hg:Gl X "sorted" :=by rfl)(WI:Gl X "range" :=by rfl)(WJ:starEach [a] X.env=[(false,eval a X.env)]:=by rfl)(Qz:Gl X y:=by rfl)(hc:X.calm=true:=by rfl)(Dm:gz y:=by decide)(hs:starEach [.Call (.Name "range" p2) [a] [] xk] X.env=(false,eval (.Call (.Name "range" p2) [a] [] xk) X.env)::starEach [] X.env:=by rfl)
  (QA:backTo pos (starEach [.Call (.Name "range" p2) [a] [] xk] X.env)=(false,eval (.Call (.Name "range" p2) [a] [] xk) X.env)::backTo pos (starEach [] X.env):=by rfl)
  (QB:(backToKw pos (keywordEach [⟨some "key",.Name y px,kp⟩] X.env)).filterMap (·.1)=[Str.ofString "key"]:=by rfl)(uW:(backToKw pos (keywordEach [⟨some "key",.Name y px,kp⟩] X.env)).all (·.1.isSome)=true:=by rfl)(QC:(backToKw pos (keywordEach [⟨some "key",.Name y px,kp⟩] X.env)).any (·.1.isNone)=false:=by rfl)
  (hpl:(backTo pos (starEach [.Call (.Name "range" p2) [a] [] xk] X.env)).any (·.1)=false:=by rfl):DO X κ (.Call (.Name "sorted" p) [.Call (.Name "range" p2) [a] [] xk] [⟨some "key",.Name y px,kp⟩] pos) (oT (eA fa)):=by
 obtain⟨_,h1,h2⟩:=ha
 refine⟨_,tX FO hr hb hK hm hy (Dn WH h1 WI WJ) hg Qz hc Dm hs QA QB uW QC hpl,λ{G A _ _ _ _ H p Q} r e q=>?_⟩
 obtain⟨l,e1,e2⟩:=ZA.mp e
 obtain⟨p1,e3,e4⟩:=ZA.mp e1
 obtain⟨j,e7,e8⟩:=ZA.mp e4
 obtain⟨hj,e9⟩:=aQ e8
 obtain⟨_,e5,e6⟩:=ZA.mp e2
 obtain⟨ok,rfl⟩:=aQ e6
 subst e9
 rw[xj]at e5
 cases e5
 simp only[tP,ZS,Re]at hj
 have hlen:j.toNat<=100000:=by
  have:=ok
  unfold ke at this
  simp only[ZS,Re,ZD,Zk]at this
  omega
 refine h2 r e3 λv _ s1 b1=>?_
 cases p1<;>first|(cases e7;done)|skip
 cases e7
 refine⟨_,b1.int,λl hl=>⟨_,⟨l,rfl,.inr ⟨_,aF,hj.1,hlen,rfl⟩⟩,ok,λD _ s2 hD=>?_⟩⟩
 have FX:=(s1.trans (bL hl)).trans s2
 refine q _ _ (FX.trans (bL hD)) ?_
 obtain⟨a,ws,l,w1,w2,_,w4⟩:=(r.mono FX).sQ hD (ints_rep (κ:=κ) (eF lH ((List.range j.toNat).map (λ(k:Nat)=>(k:Int)))))
 refine⟨a,ws,l,w1,w2,?_,w4⟩
 cases w1
 exact FX.free hD
end
def tY(ns:List Int):Bool:=ns.all (λn=>decide (0<=n)&&decide (n<1000000))&&decide (ns.length<=1000)
def F8:PV->Option PV
 |.lst l=>(fN l).bind λns=>if tY ns then ⇑(.int ns.sum)else none
 |_=>none
section
variable{a e:Expr}
theorem qK(ns:List Int):∀j,j<=ns.length->preSum (λi=>ns.getD i 0) j=(ns.take j).sum
 |0,_=>rfl
 |j+1,h=>by
  show preSum (λi=>ns.getD i 0) j+ns.getD j 0=_
  rw[qK ns j ⋯,UZ,List.sum_append,ZU,ZG ⋯]
  simp
theorem sum_bound:∀(ns:List Int),(∀n∈ns,0<=n/\n<1000000)->0<=ns.sum/\ns.sum<=1000000*ns.length
 |[],_=>by simp
 |n::ns,h=>by
  have h1:=h n (ZM ..)
  have h2:=sum_bound ns λx hx=>h x (ZI _ hx)
  rw[YZ,ZJ]
  omega
theorem Dp(r:Vals (ns.map V.int) its)(i:Nat)(v:Value)(hv:its[i]?=⇑v):∃t,v=.int (ns.getD i 0) t:=by
 have hl:=r.length
 have hi:=(ZL.mp hv).1
 rw[ZD]at hl
 have hx:(ns.map V.int)[i]?=⇑(.int ns[i]):=by rw[Za,ZG ⋯];rfl
 obtain⟨u,e,ru⟩:=r.get hx
 rw[hv]at e
 cases e
 obtain⟨t,rfl⟩:=ru
 exact⟨t,by rw[ZU,ZG ⋯];rfl⟩
theorem sX(hc:X.calm=true):fM X (.builtin "sum") (λxs H Q=>∃(p:Addr) (ns:List Int),xs=[.ref p]/\jv X.K H p (ns.map V.int)/\tY ns=true/\Q (.int ns.sum) H):=by
 intro _ s _ H xs _ Q I r h
 obtain⟨p,ns,rfl,hq,ok,q⟩:=h
 unfold tY at ok
 simp only[ZS,ZP,Re]at ok
 obtain⟨R3,_⟩:=ok
 obtain⟨u,rfl,ru⟩:=vals1 r
 cases ru
 obtain⟨its,rv,pl,_⟩:=I.list hq
 have jX:p<↥s:=by
  obtain⟨o,ho,_⟩:=pl.isList
  exact ZN ho
 have u6:p≠↥s:=Ze jX
 have hh:X.A.in1.handled=none:=I.ok.hd hc
 have hl:=rv.length
 rw[ZD]at hl
 refine call_sum_walk (wpAny_pyIter_list pl.isList ⟨↥s,_,_,_,_,_,(λi=>ns.getD i 0),rfl,Walks.list hh ↥s p u6 its.toArray,?_,?_,λi v hv=>Dp rv i v (by simpa using hv),λj hj=>?_,λ_ tk t' k=>?_⟩)
 ·exact⟨⟨_,ZR _ rfl,rfl,rfl⟩,pl.isList.at λo e=>ZE _ e⟩
 ·intro b hb
  have:b=↥s\/b=p:=by simpa using hb
  show b<(s.heap.push _).objs.size
  rw[show∀o,(s.heap.push o).objs.size=↥s+1 from λo=>z0F ..]
  rcases this with rfl|rfl
  ·exact Yo _
  ·exact Nat.lt_succ_of_lt jX
 ·rw[ZH,<-hl]at hj
  have pM:j<ns.length:=hj
  have b1:=R3 ns[j] (Z8 pM)
  have b2:=sum_bound (ns.take (j+1)) λx hx=>R3 x (z0X hx)
  rw[qK ns (j+1) ⋯]
  have b3:ns.getD j 0=ns[j]:=by rw[ZU,ZG pM];rfl
  have b4:(ns.take (j+1)).length<=1000:=by rw[Z4];omega
  show InLong (ns.getD j 0)/\InLong _
  rw[b3]
  generalize ns[j]=u at b1
  generalize(ns.take (j+1)).sum=w at b2
  generalize(ns.take (j+1)).length=m at b2 b4
  obtain⟨_,_⟩:=b1
  obtain⟨_,_⟩:=b2
  exact⟨⟨⋯,⋯⟩,⟨⋯,⋯⟩⟩
 ·rw[ZH,<-hl,qK ns ns.length (ZK _),List.take_length]
  refine⟨.int _,H,I.kept (t':=tk) λb o e=>k b o (λz=>?_) (ZE _ e),⟨_,rfl⟩,q⟩
  obtain rfl:b=↥s:=by simpa using z
  exact Zn _ (ZN e)
theorem zE{K:aX}:∀{vs:List V} {l:List PV} {ns:List Int},aL K κ H vs l->fN l=⇑ns->vs=ns.map V.int
 |_,_,_,.nil,h=>by cases h;rfl
 |_,p::_,_,.cons r t,h=>by
  cases p<;>first|(cases h;done)|skip
  obtain⟨_,h1,rfl⟩:=ZC.mp h
  cases r
  rw[ZV,<-zE t h1]
theorem NI{p:Pos}(ha:DB X κ a fa)(hm:X.mg "sum" =none)(hg:Gl X "sum" :=by rfl)(hc:X.calm=true:=by rfl)(hs:gd a [] X.env:=by rfl):DE X κ (.Call (.Name "sum" p) [a] [] pos) (bC F8 fa):=by
 obtain⟨_,h1,h2⟩:=ha
 refine⟨_,ie (sX hc) hg hm PyProof.Rows.boot_sum (aN h1 bx hs) (he:=hs),λ{G A _ _ _ _ H p Q} r e q=>?_⟩
 obtain⟨p1,e1,e2⟩:=ZA.mp e
 refine h2 r e1 λx H1 s1 b1=>?_
 cases p1<;>first|(cases e2;done)|skip
 obtain⟨ns,e3,e4⟩:=ZA.mp e2
 obtain⟨ok,rfl⟩:=aQ e4
 obtain⟨a,_,rfl,q1,q2⟩:=b1.lst aE
 rw[zE q2 e3]at q1
 exact⟨a,ns,rfl,q1.sq,ok,q _ H1 s1 (.int _)⟩
end
def cQ(fa fb fc:Den):Den:=λρ=>(fa ρ).bind λx=>(fb ρ).bind λy=>(sH x).bind λi=>(sH y).bind λj=>if i<=j then(fc ρ).bind λz=>(sH z).map λk=>.bl (decide (j<=k))else ⇑(.bl false)
def Bn:List qy->List PV->bU->Option bU
 |[],[],ρ=>⇑ρ
 |t::ts,p::ps,ρ=>(t p ρ).bind (Bn ts ps)
 |_,_,_=>none
def tZ(ts:List qy):qy:=λp ρ=>match p with
 |.tup l=>Bn ts l ρ
 |_=>none
section
variable{a b:Expr}
theorem Dq{K:aX}{ta tb tc:TE}(h2:Bc K κ ta fa)(h4:Bc K κ tb fb)(h6:Bc K κ tc fc):FG K κ (qf (wF λi j=>.bl (decide (i<=j))) (wF λi j=>.bl (decide (i<=j))) ta tb tc) (cQ fa fb fc):=λ{G A _ _ ρ _ H p Q} r e q=>by
 refine mR (g:=λx y=>(sH x).bind λi=>(sH y).bind λj=>if i<=j then(fc ρ).bind λz=>(sH z).map λk=>PV.bl (decide (j<=k))else ⇑(.bl false)) h2 h4 r e λx y p1 p2 H1 s1 r1 b1 b2 e'=>?_
 obtain⟨i,e3,e4⟩:=ZA.mp e'
 obtain⟨j,e5,e6⟩:=ZA.mp e4
 cases p1<;>first|(cases e3;done)|skip
 cases e3
 cases p2<;>first|(cases e5;done)|skip
 cases e5
 refine⟨i,j,b1.int,b2.int,_,rfl,?_⟩
 by_cases yW:i<=j
 ·rw[W1 yW]at e6
  obtain⟨p3,e7,e8⟩:=ZA.mp e6
  obtain⟨k,e9,rfl⟩:=ZC.mp e8
  cases p3<;>first|(cases e9;done)|skip
  cases e9
  rw[W1 (SZ yW)]
  refine h6 r1 e7 λw H2 s2 b3=>?_
  exact⟨j,k,b2.int,b3.int,q _ H2 (s1.trans s2) (.bl _)⟩
 ·rw[UF yW]at e6
  cases e6
  rw[UF (by simpa using yW)]
  exact q _ H1 s1 (.bl _)
theorem iw(ha:DB X κ a fa)(hb:DB X κ b fb)(hc:DB X κ c fc)(hm:lastMarks [.LtE,.LtE] [b,c]=false:=by with_unfolding_all rfl):DT X κ (.Compare a [.LtE,.LtE] [b,c] pos) (tV (cQ fa fb fc)):=by
 obtain⟨_,h1,h2⟩:=ha
 obtain⟨_,h3,h4⟩:=hb
 obtain⟨_,h5,h6⟩:=hc
 exact⟨_,wG E2 E2 h1 h3 h5 hm,pN (Dq h2 h4 h6)⟩
end
end L2.D
namespace L2
open PySem PySem.Spec PyProof.Rows
variable{y:V}{u:Value}
section
variable{κ:Type}[DecidableEq κ]
def m6(kvs:List (κ×V))(k:κ):Option V:=(kvs.find? λkv=>decide (kv.1=k)).map (·.2)
def putK(kvs:List (κ×V))(k:κ)(v:V):List (κ×V):=
 if(kvs.any λkv=>decide (kv.1=k))=true then kvs.map (λkv=>if kv.1=k then(kv.1,v)else kv)else kvs++[(k,v)]
theorem m9{p:κ×V}{r:List (κ×V)}{k:κ}(e:p.1=k):m6 (p::r) k=⇑p.2:=by simp[m6,YS,e]
theorem nc{p:κ×V}{r:List (κ×V)}{k:κ}(e:¬p.1=k):m6 (p::r) k=m6 r k:=by simp[m6,YS,e]
theorem qL(k:κ):∀kvs:List (κ×V),(kvs.any λkv=>decide (kv.1=k))=(m6 kvs k).isSome
 |[]=>rfl
 |p::r=>by
  rw[YU]
  by_cases e:p.1=k
  ·simp only[m9 e,SZ e,Bool.true_or,Option.isSome_some]
  ·rw[nc e,Wp e,Bool.false_or];exact qL k r
theorem oU(kvs:List (κ×V))(k:κ)(v:V):(putK kvs k v).length<=kvs.length+1:=by
 unfold putK
 split
 ·rw[ZD];omega
 ·rw[ZT,ZJ,List.length_nil];omega
theorem mx.ot{o:Option V}{u:Option Value}(r:mx o u):o.isSome=u.isSome:=by
 cases o with
 |none=>cases u with
  |none=>rfl
  |some _=>exact(show False from r).elim
 |some _=>cases u with
  |none=>exact(show False from r).elim
  |some _=>rfl
theorem KV.val{kvs:List (κ×V)}{vs:List (κ×Value)}(r:KV kvs vs)(k:κ):mx (m6 kvs k) (valueAt vs k):=by
 unfold KV at r
 induction r with
 |nil=>exact True.intro
 |@cons p q ps qs h t ih=>
  obtain⟨h1,h2⟩:=h
  by_cases e:p.1=k
  ·have e':q.1=k:=h1.symm.trans e
   have b:valueAt (q::qs) k=⇑q.2:=by simp[valueAt,YS,e']
   rw[m9 e,b];exact h2
  ·have e':¬q.1=k:=λz=>e (h1.trans z)
   have b:valueAt (q::qs) k=valueAt qs k:=by simp[valueAt,YS,e']
   rw[nc e,b];exact ih
theorem KV.any{kvs:List (κ×V)}{vs:List (κ×Value)}(r:KV kvs vs)(k:κ):(kvs.any λkv=>decide (kv.1=k))=vs.any λkv=>decide (kv.1=k):=by
 unfold KV at r
 induction r with
 |nil=>rfl
 |cons h t ih=>rw[YU,YU,ih,h.1]
theorem KV.NJ{kvs:List (κ×V)}{vs:List (κ×Value)}(r:KV kvs vs)(k:κ)(ry:RelV y u):
  KV (kvs.map λkv=>if kv.1=k then(kv.1,y)else kv) (vs.map λkv=>if kv.1=k then(kv.1,u)else kv):=by
 unfold KV at r⊢
 induction r with
 |nil=>exact .nil
 |@cons p q ps qs h t ih=>
  rw[ZV,ZV]
  refine .cons ?_ ih
  obtain⟨h1,h2⟩:=h
  by_cases e:p.1=k
  ·rw[W1 e,W1 (h1.symm.trans e)];exact⟨h1,ry⟩
  ·rw[UF e,UF (λz=>e (h1.trans z))];exact⟨h1,h2⟩
theorem KV.put{kvs:List (κ×V)}{vs:List (κ×Value)}(r:KV kvs vs)(k:κ)(ry:RelV y u):KV (putK kvs k y) (stored vs k u):=by
 unfold putK stored
 rw[r.any k]
 by_cases e:(vs.any λkv=>decide (kv.1=k))=true
 ·rw[W1 e,W1 e];exact r.NJ k ry
 ·rw[UF e,UF e];exact Paired.snoc r ⟨rfl,ry⟩
theorem KV.length{kvs:List (κ×V)}{vs:List (κ×Value)}(r:KV kvs vs):kvs.length=vs.length:=Paired.length r
end
variable{P:Program}
theorem Bo{w:World}{k:Key}(r:RelV (kV k) u):(cP P w).is k u=true:=by
 cases k with
 |inl i=>obtain⟨t,e⟩:=(show∃t,u=Value.int i t from r);subst e;exact wz P w i t
 |inr x=>obtain⟨t,e⟩:=(show∃t,u=Value.str x t from r);subst e;exact wA P w x t
theorem t5{w:World}:∀{ks:List Key} {us:List Value},Vals (ks.map kV) us->ItemsAre (cP P w) ks us
 |[],_,r=>by rw[Yt]at r;cases r;exact .nil
 |k::ks,_,r=>by
  rw[ZV]at r
  cases r with
  |cons h t=>exact .cons (Bo h) (t5 t)
abbrev KT(H:Hp):List (List Key×V)->List (List Key×Addr×Value)->Prop:=Paired λp q=>p.1=q.1/\H q.2.1=⇑(.tup (p.1.map kV))/\RelV p.2 q.2.2
variable{H:Hp}{kvs:List (List Key×V)}{xs:List (List Key×Addr×Value)}
theorem KT.val(r:KT H kvs xs)(k:List Key):mx (m6 kvs k) ((atKey xs k).map (·.2)):=by
 induction r with
 |nil=>exact True.intro
 |@cons p q ps qs h t ih=>
  obtain⟨h1,_,h2⟩:=h
  by_cases e:p.1=k
  ·have e':q.1=k:=h1.symm.trans e
   have b:atKey (q::qs) k=⇑q.2:=by simp[atKey,YS,e']
   rw[m9 e,b];exact h2
  ·have e':¬q.1=k:=λz=>e (h1.trans z)
   have b:atKey (q::qs) k=atKey qs k:=by simp[atKey,YS,e']
   rw[nc e,b];exact ih
theorem KT.NJ(r:KT H kvs xs)(k:List Key)(ry:RelV y u):
  KT H (kvs.map λkv=>if kv.1=k then(kv.1,y)else kv) (xs.map (putAt k u)):=by
 induction r with
 |nil=>exact .nil
 |@cons p q ps qs h t ih=>
  rw[ZV,ZV]
  refine .cons ?_ ih
  obtain⟨h1,h2,h3⟩:=h
  unfold putAt
  by_cases e:p.1=k
  ·rw[W1 e,W1 (h1.symm.trans e)];exact⟨h1,h2,ry⟩
  ·rw[UF e,UF (λz=>e (h1.trans z))];exact⟨h1,h2,h3⟩
theorem KT.put(r:KT H kvs xs)(k:List Key){b:Addr}(hb:H b=⇑(.tup (k.map kV)))(ry:RelV y u):
  KT H (putK kvs k y) (storedH xs k b u):=by
 have e:(kvs.any λkv=>decide (kv.1=k))=(atKey xs k).isSome:=by
  rw[qL,(r.val k).ot,Option.isSome_map]
 unfold putK storedH
 rw[e]
 by_cases q:(atKey xs k).isSome=true
 ·rw[W1 q,W1 q];exact r.NJ k ry
 ·rw[UF q,UF q];exact Paired.snoc r ⟨rfl,hb,ry⟩
variable{H':Hp}
theorem KT.keeps(r:KT H kvs xs)(ht:∀b ys,H b=⇑(.tup ys)->H' b=⇑(.tup ys)):KT H' kvs xs:=
 Paired.Mz r λ_ _ z=>⟨z.1,ht _ _ z.2.1,z.2.2⟩
variable{a:Addr}
section
variable{w:World}{h:Heap}
theorem LQ{u:HO}(ok:lR P w H h)(e:Rd H a u):cZ P w H h a u:=e.ok ok
theorem LR{kvs:List (Key×V)}(ok:lR P w H h)(e:Rd H a (.dK kvs)):kvs.length<=sizeLine/\(a==sysModules)=false/\∃vs,KV kvs vs/\h.DictOf (cP P w) a vs:=
 show cZ P w H h a (.dK kvs)from LQ ok e
theorem Bp{kvs:List (Key×V)}(ok:lR P w H h)(e:H a=⇑(.dK kvs)):kvs.length<=sizeLine/\(a==sysModules)=false/\∃vs,KV kvs vs/\h.DictOf (cP P w) a vs:=LR ok (.inl e)
theorem zF{ks:List Key}(ok:lR P w H h)(e:H a=⇑(.tup (ks.map kV))):(tupleKind (cP P w)).is h ks a:=by
 obtain⟨_,its,r,o,h1,h2,n,h3⟩:=(show cZ P w H h a (.tup (ks.map kV))from ok a _ e)
 exact⟨o,its.toArray,n,h1,h2,h3,by simpa using t5 r⟩
theorem LS(ok:lR P w H h)(e:Rd H a (.dT kvs)):kvs.length<=sizeLine/\(a==sysModules)=false/\
  ∃xs,KT H kvs xs/\h.DictOfH (tupleKind (cP P w)) a xs:=by
 obtain⟨z,y,xs,r,o,es,ep,h1,h2,h3,h4,h5⟩:=(show cZ P w H h a (.dT kvs)from LQ ok e)
 refine⟨z,y,xs,r,o,es,ep,h1,h2,h3,h4,λx hx=>?_,h5⟩
 have all:∀{l:List (List Key×V)} {m:List (List Key×Addr×Value)},KT H l m->∀x∈m,(tupleKind (cP P w)).is h x.1 x.2.1:=by
  intro l m q
  induction q with
  |nil=>intro x hx;exact nomatch hx
  |@cons p q ps qs hq t ih=>
   intro x hx
   rcases Zc.mp hx with e|hx
   ·subst e
    exact zF ok (by rw[<-hq.1];exact hq.2.1)
   ·exact ih x hx
 exact all r x hx
theorem QD(ok:lR P w H h)(e:H a=⇑(.dT kvs)):kvs.length<=sizeLine/\(a==sysModules)=false/\
 ∃xs,KT H kvs xs/\h.DictOfH (tupleKind (cP P w)) a xs:=LS ok (.inl e)
end
def F9(H:Hp)(a:Addr)(y:V)(r:Option V):Prop:=
 (∃kvs k,Rd H a (.dK kvs)/\y=kV k/\r=m6 kvs k)\/∃kvs k b,Rd H a (.dT kvs)/\y=.ref b/\H b=⇑(.tup (k.map kV))/\r=m6 kvs k
def Ga(H:Hp)(a:Addr)(y v:V)(H':Hp):Prop:=
 (∃kvs k,H a=⇑(.dK kvs)/\y=kV k/\kvs.length<sizeLine/\H'=upd H a (.dK (putK kvs k v)))\/
 ∃kvs k b,H a=⇑(.dT kvs)/\y=.ref b/\H b=⇑(.tup (k.map kV))/\kvs.length<sizeLine/\H'=upd H a (.dT (putK kvs k v))
theorem F9.k{kvs:List (Key×V)}{k:Key}(e:H a=⇑(.dK kvs)):F9 H a (kV k) (m6 kvs k):=.inl ⟨kvs,k,.inl e,rfl,rfl⟩
variable{v:V}
theorem Ga.k{kvs:List (Key×V)}{k:Key}(e:H a=⇑(.dK kvs))(hl:kvs.length<sizeLine):Ga H a (kV k) v (upd H a (.dK (putK kvs k v))):=.inl ⟨kvs,k,e,rfl,hl,rfl⟩
variable{X:Cx}{s:Shared}{A:Around}{E Q:Value->Shared->Prop}{h':Heap}
section
variable{pins:List (Addr×Obj)}{σ:St}{r:Value}{o:Option V}
theorem Inv.big(I:Inv X pins σ H s):sysModules<↥s:=by
 have h:mainGlobals<↥s:=(I.mod.glob.keeps I.bk).lt
 exact Nat.lt_trans ∅ h
theorem TU(hu:A.units+1<cLine)(I:Inv X pins σ H s)(g:F9 H a y o)(ry:RelV y u)(h:∀s',Inv X pins σ H s'->Q (.bool o.isSome) s'):
  wpAny (model X.prog X.w) A (compareOp .In u (.ref a)) Q E s:=by
 rcases g with⟨kvs,k,e,ey,l⟩|⟨kvs,k,b,e,ey,eb,l⟩
 ·subst ey
  obtain⟨z,hd,_,rel,dd⟩:=LR I.cD e
  refine wpAny_in_of (Bo ry) hd dd.mapOf ?_
  rw[<-(rel.val k).ot,<-l]
  exact h _ (I.tok _)
 ·subst ey
  cases(show u=Value.ref b from ry)
  obtain⟨z,hd,_,rel,dd⟩:=LS I.cD e
  refine wpAny_in_heap (tupleKind_room_in1 hu) (zF I.cD eb) hd dd ?_
  have q:=(rel.val k).ot
  rw[Option.isSome_map]at q
  rw[<-q,<-l]
  exact h _ (I.tok _)
theorem ng{t':Nat}{ob:HO}(I:Inv X pins σ H s)(mu:Pp (H a))(hs:Heap.SameBut a s.heap h')(he:∃q,h'.get? a=⇑q)(new:cZ X.prog X.w (upd H a ob) h' a ob):
  Inv X pins σ (upd H a ob) {s with heap:=h',toks:=t'}:=
 I.write (x:=a) (e:=a) mu (.inl rfl) (λb q hb z=>(hs.2 b hb).trans z) he new
theorem Gb{w:World}{kvs:List (Key×V)}{vs:List (Key×Value)}(z:kvs.length<=sizeLine)(hd:(a==sysModules)=false)(rel:KV kvs vs)(dd:h'.DictOf (cP P w) a vs):
 cZ P w H' h' a (.dK kvs):=⟨z,hd,vs,rel,dd⟩
theorem Dr{Q:Unit->Shared->Prop}(hu:A.units+1<cLine)(I:Inv X pins σ H s)(g:Ga H a y v H')(ry:RelV y u)(rv:RelV v r)(h:∀s',Inv X pins σ H' s'->Q () s'):
  wpAny (model X.prog X.w) A (setItem (.ref a) u r) Q E s:=by
 rcases g with⟨kvs,k,e,ey,l,eH⟩|⟨kvs,k,b,e,ey,eb,l,eH⟩
 ·subst ey eH
  obtain⟨z,hd,vs,rel,dd⟩:=Bp I.cD e
  have hz:vs.length<=sizeLine:=by rw[<-rel.length];exact z
  have hl:(putK kvs k v).length<=sizeLine:=by have:=oU kvs k v;omega
  refine wpAny_setItem_pairs (hsz:=hz) (Bo ry) dd λh' NK hs=>h _ ?_
  have he:∃q,h'.get? a=⇑q:=let⟨q,_,_,hq,_⟩:=NK;⟨q,hq⟩
  exact ng I (by rw[e];exact True.intro) hs he (Gb hl hd (rel.put k rv) NK)
 ·subst ey eH
  cases(show u=Value.ref b from ry)
  obtain⟨z,hd,xs,rel,dd⟩:=QD I.cD e
  have hz:xs.length<=sizeLine:=by rw[<-Paired.length rel];exact z
  have hl:(putK kvs k v).length<=sizeLine:=by have:=oU kvs k v;omega
  refine wpAny_setItem_heap (hsz:=hz) (tupleKind_room_in1 hu) (zF I.cD eb) dd λh' NK hs=>h _ ?_
  obtain⟨q,es,ep,hq,h2,h3,h4,_,h5⟩:=NK
  refine ng I (by rw[e];exact True.intro) hs ⟨q,hq⟩ ⟨hl,hd,_,(rel.put k eb rv).keeps λc _ ec=>?_,q,es,ep,hq,h2,h3,h4,h5⟩
  rw[au (Po ec e (λz=>nomatch z))]
  exact ec
end
def QF(i:Expr):Prop:=∀ov iv,subscripted i false ov iv=operate [ov,iv] (getItem ov iv)
variable{pos:Pos}
theorem JV{prog:Program}{w:World}{env:Env}{value slice:Expr}{T id:String}
  (hl:typeLookup (.type T) "__getitem__" =pure ⇑(.builtin id))(hs:QF slice)
  (h:wpAny (model prog w) A (eval value env) (λo s₁=>wpAny (model prog w) A (eval slice env) (λi s₂=>s₂.TypeIs o T/\wpAny (model prog w) A (getItem o i) Q E s₂) E s₁) E s):
  wpAny (model prog w) A (eval (.Subscript value slice pos) env) Q E s:=by
 refine Subscript_ (Pi h (λo s₁ h₁=>Pi h₁ (λi s₂ h₂=>?_) λ_ _ x=>x) λ_ _ x=>x)
 obtain⟨hT,h₂⟩:=h₂
 unfold subscriptTail
 refine UV ?_
 rw[getitemInPython_of_ne hT.not_modules]
 refine UV (wpAny_specialOf hT hl ?_)
 have fin:wpAny (model prog w) A (subscripted slice false o i) (λr s₃=>wpAny (model prog w) A (letTemporaryGo value o r>>=λ_=>pure r) Q E s₃) E s₂:=by
  rw[hs o i]
  exact wpAny_operating (Pi h₂ (λr s₃ h₃=>UV (wpAny_letTemporaryGo (SB h₃))) λ_ _ x=>x)
 first
  |exact SB (UV fin)
  |exact UV (SB (UV fin))
  |exact UV fin
def QG(td ty tv:TE):TS:=λD σ H=>tv σ H λv H1=>td σ H1 λx H2=>ty σ H2 λy H3=>∃a H4,x=.ref a/\Ga H3 a y v H4/\D.nx σ H4
section
variable{o i e value:Expr}{pos' P1:Pos}{td ty tv:TE}
theorem JW(hu:X.A.units+1<cLine)(ho:PE X o td)(hi:PE X i ty)(hv:PE X value tv)(hs:swapsWith value ⇑(.Subscript o i pos') pos.line X.env=pure false):
  PS X (.Assign [.Subscript o i pos'] value pos) (QG td ty tv):=by
 intro pins s σ H D I h
 refine wpAny_Assign_Subscript (cx (hv pins s σ H _ I h) λr s1 ⟨v,H1,I1,rv,q1⟩=>cx (ho pins s1 σ H1 _ I1 q1) λu s2 ⟨x,H2,I2,rx,q2⟩=>cx (hi pins s2 σ H2 _ I2 q2) λ_ _ b9=>?_) hs
 obtain⟨y,_,I3,ry,a,H4,ex,g,q3⟩:=b9
 subst ex
 obtain rfl:u=Value.ref a:=rx
 exact Dr hu I3 g ry rv λ_ I4=>⟨σ,H4,I4,q3⟩
end
theorem Gd{w:World}(h:Heap)(hb:sysModules<h.objs.size):cZ P w H (h.push {cls:=.type "dict",data:=.dict #[]}) h.objs.size (.dK []):=
 ⟨Zm _,beq_eq_false_iff_ne.mpr (Ne.symm (Ze hb)),[],.nil,Heap.DictOf.new h⟩
def NL:TE:=λ_ H Q=>∀p,H p=none->Q (.ref p) (upd H p (.dK []))
section
theorem qM:PE X (.Dict [] [] pos) NL:=λ_ s _ H Q I h=>
 wpAny_Dict_empty ⟨.ref ↥s,_,I.laid (a:=↥s) (o:=.dK []) (t':=s.toks) (λ_ _ q=>ZE _ q) (ZK _) (Gd s.heap I.big),rfl,h _ (I.cD.fresh (ZK _))⟩
end
end L2
namespace L2.D
open PySem PySem.Spec PyProof.Rows PySem.SeqAt
variable{X:Cx}{κ:Kl}{fr:Bool}{pos:Pos}{a:Expr}{fa fb:Den}{es:List Expr}{gs:List qy}
section
variable{b e k:Expr}{f fk:Den}
def R7(X:Cx)(κ:Kl)(WK:List Expr)(gs:List qy):Prop:=∃tt,Py X WK tt/\∀{G A bo own ρ σ H ps vs ρ' Q},R X.K κ G A bo own ρ σ H->aL X.K κ (cA A own ρ H) vs ps->Bn gs ps ρ=⇑ρ'->(∀c7 σ',R X.K κ G A bo c7 ρ' σ' H->aA (cA A own ρ H) (cA A c7 ρ' H)->Q σ' H)->tt vs σ H Q
theorem Bq:R7 X κ [] []:=⟨_,AV,λ{G A _ _ _ _ H _ _ _ Q} r z e q=>by
 cases z with
 |nil=>cases e;exact⟨rfl,q _ _ r λ_ _ h=>h⟩
 |cons _ _=>cases e⟩
theorem iA{gt:qy}(ha:DG X κ a gt)(hb:R7 X κ es gs)(hs:(assignEach (a::es) X.env).map (·.2)=assign a X.env::(assignEach es X.env).map (·.2):=by rfl):R7 X κ (a::es) (gt::gs):=by
 obtain⟨_,h1,h2⟩:=ha
 obtain⟨_,h3,h4⟩:=hb
 refine⟨_,qe h1 h3 hs,λ{G A _ _ _ _ H _ _ _ Q} r z e q=>?_⟩
 cases z with
 |nil=>cases e
 |cons r1 rs=>
  obtain⟨_,e1,e2⟩:=ZA.mp e
  refine⟨_,_,rfl,h2 r r1 e1 λ_ _ r' s'=>?_⟩
  exact h4 r' (rs.mono s') e2 λzy σ2 r2 s2=>q zy σ2 r2 (s'.trans s2)
theorem t6:∀{gs:List qy} {ps:List PV} {ρ ρ':bU},Bn gs ps ρ=⇑ρ'->ps.length=gs.length
 |[],[],_,_,_=>rfl
 |[],_::_,_,_,e=>by cases e
 |_::_,[],_,_,e=>by cases e
 |t::ts,p::ps,ρ,ρ',e=>by
  obtain⟨_,_,e2⟩:=ZA.mp e
  rw[ZJ,ZJ,t6 e2]
theorem Ge{k:Nat}(h:R7 X κ es gs)(hc:X.calm=true:=by rfl)(hn:(assignEach es X.env).length=gs.length:=by rfl)(ib:(assignEach es X.env).findIdx? (·.1)=none:=by rfl):DG X κ (.Tuple es k pos) (tZ gs):=by
 obtain⟨_,h1,h2⟩:=h
 refine⟨_,EU hc h1 hn ib,λ{G A _ own ρ _ H p v _ Q} r z e q=>?_⟩
 unfold tZ at e
 split at e
 ·rename_i l
  cases z with
  |tup q1 q2=>
   refine⟨_,_,rfl,qB (aE (A:=cg A own ρ)) q1,?_,h2 r q2 e q⟩
   rw[q2.length,t6 e]
 ·cases e
end
def bX(x:Str)(lo hi:Option Int)(st:Int):Str:=if(st==1&&(Builtin.Str.strSliceIndices lo hi st x.length).length==x.length)=true then x else⟨((Builtin.Str.strSliceIndices lo hi st x.length).filterMap (x.cps[·]?)).toArray⟩
def jE(a:Den)(lo hi:va):Den:=λρ=>(a ρ).bind λx=>(lo ρ).bind λl=>(hi ρ).bind λh=>match x with
 |.lst xs=>⇑(.lst (kb xs l h))
 |.str y=>if y.length<=sizeLine then ⇑(.str (bX y l h 1))else none
 |_=>none
def NM:PV->Option PV
 |.str y=>if y.length<=sizeLine then ⇑(.str (bX y none none (-1)))else none
 |_=>none
def LU:PV->PV->Option PV
 |.str x,.str y=>⇑(.int (Txt.find x y))
 |_,_=>none
def oV:List PV->Option (List Str)
 |[]=>some []
 |.str x::l=>(oV l).map (x::·)
 |_::_=>none
def xm:PV->PV->Option PV
 |.str x,.lst l=>(oV l).bind λts=>if JoinOk x ts then ⇑(.str (Txt.join x ts))else none
 |_,_=>none
def QH:PV->Option PV
 |.int i=>if decide (i.natAbs<1000000)then ⇑(.str (toString i))else none
 |_=>none
def QJ:List Int->Option Int
 |[]=>none
 |x::l=>⇑(l.foldl (λa b=>if b>a then b else a) x)
variable{p2 apos:Pos}{H:Hp}{α:Type}
section
variable{b e:Expr}
theorem JX:O0 X "str.find" (λx xs H Q=>∃i j,x=.str i/\xs=[.str j]/\Q (.int (Txt.find i j)) H):=by
 intro _ s _ H x xs v _ Q I rx r h
 obtain⟨i,j,rfl,rfl,q⟩:=h
 obtain⟨t,rfl⟩:=rx
 obtain⟨u,rfl,_,rfl⟩:=vals1 r
 exact SC.find ⟨.int _,H,I.tok _,⟨_,rfl⟩,q⟩
theorem JY(ha:DB X κ a fa)(hb:DB X κ b fb)(dU:attributeBase a "find" X.env (eval a X.env)=eval a X.env:=by rfl)
  (j5:((backTo pos (starEach [b] X.env)).all (λx=>!x.1)&&(backToKw pos (keywordEach [] X.env)).all (λx=>x.1.isSome)
    &&decide ([b].length+([]:List Keyword).length+(if([]:List Keyword).isEmpty then 0 else 1)<30))=true:=by rfl)
  (dW:(apos.endLine==pos.line)=true:=by rfl)(hs:gd b [] X.env:=by rfl):DE X κ (.Call (.Attribute a "find" apos) [b] [] pos) (ag LU fa fb):=by
 obtain⟨_,h1,h2⟩:=ha
 obtain⟨_,h3,h4⟩:=hb
 refine⟨_,tO z0I PySem.F.slot_str_find PySem.F.type_str_find JX h1 (aN h3 bx hs) dU j5 dW hs,λ{G A _ _ _ _ H p Q} r e q=>?_⟩
 obtain⟨p1,e1,e2⟩:=ZA.mp e
 obtain⟨p2,e3,e4⟩:=ZA.mp e2
 (cases p1<;>first|(cases e4;done)|skip)<;>cases p2<;>first|(cases e4;done)|skip
 cases e4
 refine h2 r e1 λx _ s1 b1=>?_
 rw[b1.str]
 refine⟨rfl,h4 (r.mono s1) e3 λy H2 s2 b2=>?_⟩
 rw[b2.str]
 exact⟨_,_,rfl,rfl,q _ H2 (s1.trans s2) (.int _)⟩
theorem ua:∀{ts:List Str} {us:List Value},Vals (ts.map V.str) us->∃l:List (Str×Tok),us=strValues l/\l.map (·.1)=ts
 |[],_,.nil=>⟨[],rfl,rfl⟩
 |x::ts,_,.cons ⟨t,ht⟩ r=>by
  obtain⟨l,h1,h2⟩:=ua r
  subst ht
  exact⟨(x,t)::l,by rw[h1];rfl,by rw[ZV,h2]⟩
theorem zG{K:aX}:∀{vs:List V} {l:List PV} {ts:List Str},aL K κ H vs l->oV l=⇑ts->vs=ts.map V.str
 |_,_,_,.nil,h=>by cases h;rfl
 |_,p::_,_,.cons r t,h=>by
  cases p<;>first|(cases h;done)|skip
  obtain⟨_,h1,rfl⟩:=ZC.mp h
  cases r
  rw[ZV,<-zG t h1]
theorem JZ:O0 X "str.join" (λx xs H Q=>∃(i:Str) (p:Addr) (ts:List Str),x=.str i/\xs=[.ref p]/\jv X.K H p (ts.map V.str)/\JoinOk i ts=true/\Q (.str (Txt.join i ts)) H):=by
 intro _ s _ H x xs v _ Q I rx r h
 obtain⟨i,p,ts,rfl,rfl,hq,ok,q⟩:=h
 obtain⟨t,rfl⟩:=rx
 obtain⟨u,rfl,ru⟩:=vals1 r
 cases ru
 obtain⟨_,rv,pl,_⟩:=I.list hq
 obtain⟨l,rfl,hl⟩:=ua rv
 exact SC.join pl.isList hl ok λ_ k=>⟨.str _,H,I.tok _,⟨_,rfl⟩,q⟩
theorem J0(ha:DB X κ a fa)(hb:DB X κ b fb)(dU:attributeBase a "join" X.env (eval a X.env)=eval a X.env:=by rfl)
  (j5:((backTo pos (starEach [b] X.env)).all (λx=>!x.1)&&(backToKw pos (keywordEach [] X.env)).all (λx=>x.1.isSome)
    &&decide ([b].length+([]:List Keyword).length+(if([]:List Keyword).isEmpty then 0 else 1)<30))=true:=by rfl)
  (dW:(apos.endLine==pos.line)=true:=by rfl)(hs:gd b [] X.env:=by rfl):DE X κ (.Call (.Attribute a "join" apos) [b] [] pos) (ag xm fa fb):=by
 obtain⟨_,h1,h2⟩:=ha
 obtain⟨_,h3,h4⟩:=hb
 refine⟨_,tO z0I PySem.F.slot_str_join PySem.F.type_str_join JZ h1 (aN h3 bx hs) dU j5 dW hs,λ{G A _ _ _ _ H p Q} r e q=>?_⟩
 obtain⟨p1,e1,e2⟩:=ZA.mp e
 obtain⟨p2,e3,e4⟩:=ZA.mp e2
 (cases p1<;>first|(cases e4;done)|skip)<;>cases p2<;>first|(cases e4;done)|skip
 obtain⟨ts,e5,e6⟩:=ZA.mp e4
 obtain⟨ok,rfl⟩:=aQ e6
 refine h2 r e1 λx _ s1 b1=>?_
 rw[b1.str]
 refine⟨rfl,h4 (r.mono s1) e3 λy H2 s2 b2=>?_⟩
 obtain⟨a,_,rfl,q1,q2⟩:=b2.lst aE
 rw[zG q2 e5]at q1
 exact⟨_,a,ts,rfl,rfl,q1.sq,ok,q _ H2 (s1.trans s2) (.str _)⟩
theorem J1{p:Pos}(ha:DB X κ a fa)(hm:X.mg "str" =none)(hg:Gl X "str" :=by rfl)(hs:gd a [] X.env:=by rfl):DE X κ (.Call (.Name "str" p) [a] [] pos) (bC QH fa):=by
 obtain⟨_,h1,h2⟩:=ha
 refine⟨_,g0 uM hg hm (by decide+kernel) (aN h1 bx hs) (he:=hs),λ{G A _ _ _ _ H p Q} r e q=>?_⟩
 obtain⟨p1,e1,e2⟩:=ZA.mp e
 refine h2 r e1 λx H1 s1 b1=>?_
 cases p1<;>first|(cases e2;done)|skip
 obtain⟨ok,rfl⟩:=aQ e2
 rw[Re]at ok
 refine⟨_,by rw[b1.int],?_,q _ H1 s1 (.str _)⟩
 rename_i i
 have:i.natAbs.log2<20:=by
  by_cases h0:i.natAbs=0
  ·rw[h0];decide
  ·exact(Nat.log2_lt h0).mpr ⋯
 omega
theorem xn{v:Value}{o:Option Int}(h:IsPart v o):∃l:Option (Int×Tok),v=partValue l/\l.map (·.1)=o:=by
 cases h with
 |none=>exact⟨none,rfl,rfl⟩
 |int i t=>exact⟨⇑(i,t),rfl,rfl⟩
theorem nh{β:Type}(f:α->Option β):∀l:List α,(l.filterMap f).length<=l.length
 |[]=>ZK _
 |x::l=>by
  have:=nh f l
  rw[Zs]
  split
  ·rw[ZJ];omega
  ·rw[ZJ,ZJ];omega
end
def cJ(ft:Nat->List Str)(f:Str):PV->Option PV
 |.ins c l=>((ft c).zip l).lookup f
 |_=>none
def di(Fs:Nat->FP)(o:Den)(as:bZ):Den:=λρ=>(o ρ).bind λp=>match p with
 |.ins c l=>(as ρ).bind λxs=>Fs c (.ins c l::xs)
 |_=>none
def Gf:PV->Option PV
 |.str x=>⇑(.ins 0 [.str x])
 |_=>none
def Gg:PV->Option PV
 |.lst l=>⇑(.ins 1 [.int l.length,.tup l])
 |_=>none
def Gh:PV->Option PV
 |.lst l=>⇑(.ins 2 [.int 1,.tup l])
 |_=>none
def zH:PV->PV->Option PV
 |.int m,.lst l=>⇑(.ins 3 [.int m,.tup l])
 |_,_=>none
def Pb(c:Nat):List Str:=if c=0 then["name"]else if c<4 then["wanted","parts"]else[]
def xp:PV->Option PV
 |.lst l=>(fN l).bind λns=>(QJ ns).map PV.int
 |_=>none
def fm:aT:=λ_=>none
variable{f:Str}
section
variable{K:aX}
theorem Br{p:PV}:∀{ns:List Str} {vs:List V} {l:List PV},aL K κ H vs l->(ns.zip l).lookup f=⇑p->f∈ns/\∃v,(ns.zip vs).lookup f=⇑v/\Rep K κ H v p
 |[],_,_,_,h=>by cases h
 |n::ns,_,_,.nil,h=>by cases h
 |n::ns,_,_,.cons (v:=v) (p:=q) r t,h=>by
  rw[Z6,Zb]at h
  rw[Z6,Zb]
  by_cases e:f==n
  ·rw[e]at h⊢
   cases h
   exact⟨by rw[eq_of_beq e];exact ZM ..,v,rfl,r⟩
  ·have e':(f==n)=false:=by simpa using e
   rw[e']at h⊢
   obtain⟨h1,h2⟩:=Br t h
   exact⟨ZI _ h1,h2⟩
end
variable{v:V}{c:Nat}
theorem BR.rep{K:aX}{hH:Hp}{l:List PV}(h:BR K κ hH H v (.ins c l)):Rep K κ hH v (.ins c l):=by
 rcases h with h|⟨a,vs,l',h1,h2,h3,h4⟩
 ·exact h
 ·cases h2
def Gi(K:aX)(κ:Kl)(f:Str):Prop:=∀c,f∈κ.fld c->pC K (κ.adr c)/\cE K (κ.adr c) f
variable{m:Str}{ta:TE}{ps:List Str}{Fs:Nat->FP}{Q:VK}
section
variable{b e o:Expr}{fo:Den}{fs:bZ}
theorem NN(ha:DB X κ a fa)(hf:Gi X.K κ f)(hb:attributeBase a f X.env (eval a X.env)=eval a X.env:=by rfl):DE X κ (.Attribute a f pos) (bC (cJ κ.fld f) fa):=by
 obtain⟨_,h1,h2⟩:=ha
 refine⟨_,uO h1 hb,λ{G A _ _ _ _ H p Q} r e q=>?_⟩
 obtain⟨p1,e1,e2⟩:=ZA.mp e
 refine h2 r e1 λx H1 s1 b1=>?_
 cases p1<;>first|(cases e2;done)|skip
 rename_i c l
 cases b1.rep with
 |ins h3 h4 h5=>
  obtain⟨h6,v,h7,h8⟩:=Br h5 e2
  obtain⟨k1,k2⟩:=hf c h6
  exact⟨_,_,_,_,v,rfl,aE _ _ h3,k1,k2,h7,q v H1 s1 h8⟩
def Gj(X:Cx)(m:Str)(ta:TE)(t:TA):TE:=λσ H Q=>ta σ H λx H1=>∃(a C dx:Addr) (fs:List (Str×V)) (f:Addr) (fd:FuncData) (ps:List Str) (sp:Sp) (k:Nat),x=.ref a/\H1 a=⇑(.ins C dx fs)/\pC X.K C/\Meth X.K C m f/\fs.lookup m=none/\
 oj X k f fd ps sp/\bG k X.A/\Binds X.K fd ps []/\t σ H1 λvs H2=>sp (x::vs) H2 Q E0
theorem xq{pl:Sem Bool}{t:TA}(he:PE X o ta)(ha:PA X (e::es) t)
  (ib:gd e es X.env:=by rfl)(hpl:kP pos es X.env:=by rfl)
  (ht:eval (.Call (.Attribute o m apos) (e::es) [] pos) X.env=(do
    let ov<-eval o X.env
    standAt apos.atName
    let(f,first)<-holding [ov] (getMethod ov m pl)
    callWith pos f first (backTo pos (starEach (e::es) X.env)) (backToKw pos (keywordEach [] X.env))):=by rfl):PE X (.Call (.Attribute o m apos) (e::es) [] pos) (Gj X m ta t):=by
 intro pins s σ H Q I h
 refine YQ (pl:=pl) (cx (he pins s σ H _ I h) λu s1 b9=>?_) ht
 obtain⟨x,H1,I1,rx,a,C,_,_,f,_,_,_,k,ex,ea,c,hm,l,F,hr,hb,q⟩:=b9
 subst ex
 obtain rfl:u=Value.ref a:=rx
 refine jy I1 ea c hm l ?_
 refine YK (first:=[.ref a]) (h₀:=X.base) I.ok.mod.kin hm.kp (cx (ha pos pins s1 σ H1 _ I1 q) λus _ ⟨vs,_,I2,r,q2⟩=>⟨I2.lE,?_⟩) ib hpl
 refine oh (us:=.ref a::us) (vs:=.ref a::vs) (ds:=[]) (dvs:=[]) F hr hb .nil eR I2 (.cons rfl r) ?_
 rw[Zh]
 exact q2
def fq(P:Program)(w:World)(K:aX)(mg:Str->Option Value)(base:Heap)(κ:Kl)(fr:Bool)(m:Str)(k:Nat)(ps:List Str)(Fs:Nat->FP):Prop:=
 ∀c xs p,Fs c xs=⇑p->∃(f:Addr) (fd:FuncData),pC K (κ.adr c)/\Meth K (κ.adr c) m f/\m∉κ.fld c/\dS P w K mg base qk k f fd ps (eY K κ fr (Fs c))/\Binds K fd ps []
theorem l9:∀{ns:List Str} {vs:List α},f∉ns->(ns.zip vs).lookup f=none
 |[],_,_=>rfl
 |n::ns,[],_=>rfl
 |n::ns,v::vs,h=>by
  rw[Z6,Zb]
  have e:(f==n)=false:=by
   rw[beq_eq_false_iff_ne]
   exact λz=>h (z▸ZM ..)
  rw[e]
  exact l9 λz=>h (ZI _ z)
theorem xr{k:Nat}{t:TA}(M:fq X.prog X.w X.K X.mg X.base κ fr m k ps Fs)(hr:bG k X.A)(h2:FG X.K κ ta fo)
  (h4:∀{G A bo own ρ σ H ps Q},R X.K κ G A bo own ρ σ H->fs ρ=⇑ps->(∀vs H',aA H H'->aL X.K κ (cA A own ρ H') vs ps->Q vs H')->t σ H Q)
  {G A bo own ρ σ H p}(r:R X.K κ G A bo own ρ σ H)(e:di Fs fo fs ρ=⇑p)(q:∀v H',aA H H'->RR fr X.K κ (cg A own ρ) H H' v p->Q v H'):Gj X m ta t σ H Q:=by
 obtain⟨p1,e1,e2⟩:=ZA.mp e
 refine h2 r e1 λx _ s1 z1=>?_
 cases p1<;>first|(cases e2;done)|skip
 rename_i c l
 obtain⟨_,e3,e4⟩:=ZA.mp e2
 obtain⟨f,fd,k1,k2,k3,k4,k5⟩:=M c _ _ e4
 cases z1 with
 |ins h3 h5 h6=>
  refine⟨_,_,_,_,f,fd,ps,_,k,rfl,aE _ _ h3,k1,k2,l9 k3,k4,hr,k5,h4 (r.mono s1) e3 λvs _ s2 z2=>?_⟩
  refine⟨cg A own ρ,_,p,λb hb=>((r.mono s1).mono s2).Bb hb,.cons ((Rep.ins h3 h5 h6).mono (bb s2)) z2,e4,λv H' s z=>q v H' ((s1.trans s2).trans s) ?_⟩
  unfold RR at z⊢
  split
  ·rename_i hh
   rw[W1 hh]at z
   exact O9 z (s1.trans s2) λb w=>w
  ·rename_i hh
   rw[UF hh]at z
   exact z
theorem pS{k:Nat}{pl:Sem Bool}(M:fq X.prog X.w X.K X.mg X.base κ false m k ps Fs)(hr:bG k X.A)(ho:DE X κ o fo)(ha:DA X κ (e::es) fs)
  (ib:gd e es X.env:=by rfl)(hpl:kP pos es X.env:=by rfl)
  (ht:eval (.Call (.Attribute o m apos) (e::es) [] pos) X.env=(do
    let ov<-eval o X.env
    standAt apos.atName
    let(f,first)<-holding [ov] (getMethod ov m pl)
    callWith pos f first (backTo pos (starEach (e::es) X.env)) (backToKw pos (keywordEach [] X.env))):=by rfl):DE X κ (.Call (.Attribute o m apos) (e::es) [] pos) (di Fs fo fs):=by
 obtain⟨_,h1,h2⟩:=ho
 obtain⟨t,h3,h4⟩:=ha
 refine⟨_,xq h1 h3 ib hpl ht,λ{G A _ _ _ _ H p Q} r e q=>?_⟩
 exact xr M hr h2 h4 r e λv H' s z=>q v H' s z
theorem pT{k:Nat}{pl:Sem Bool}(M:fq X.prog X.w X.K X.mg X.base κ true m k ps Fs)(hr:bG k X.A)(ho:DE X κ o fo)(ha:DA X κ (e::es) fs)
  (ib:gd e es X.env:=by rfl)(hpl:kP pos es X.env:=by rfl)
  (ht:eval (.Call (.Attribute o m apos) (e::es) [] pos) X.env=(do
    let ov<-eval o X.env
    standAt apos.atName
    let(f,first)<-holding [ov] (getMethod ov m pl)
    callWith pos f first (backTo pos (starEach (e::es) X.env)) (backToKw pos (keywordEach [] X.env))):=by rfl):DO X κ (.Call (.Attribute o m apos) (e::es) [] pos) (di Fs fo fs):=by
 obtain⟨_,h1,h2⟩:=ho
 obtain⟨t,h3,h4⟩:=ha
 refine⟨_,xq h1 h3 ib hpl ht,λ{G A _ _ _ _ H p Q} r e q=>?_⟩
 exact xr M hr h2 h4 r e λv H' s z=>q v H' s z
end
structure LV(K:aX)(C:Addr)(m:Str)(f:Addr):Prop where
 rd:∃mc,PySem.W.readsIn K C mc=true/\PySem.W.findCls K (.ref C) mc m=⇑(.val (.ref f))
 ga:PySem.W.specialIn K (.ref C) "__getattribute__" =⇑(some (.builtin "type.__getattribute__"))
 hd:PySem.W.handedIn (.ref f)=true
 kp:PySem.W.keepIn K (.ref f)=true
variable{C:Addr}{fd:FuncData}
section
variable{np:Pos}{b e o:Expr}{fo:Den}{cn:Str}{f:Addr}{sp:Sp}{k:Nat}{t:TA}
theorem qN{pl:Sem Bool}(c:LV X.K C m f)(F:oj X k f fd ps sp)(hr:bG k X.A)(hg:Gl X cn)(hm:X.mg cn=⇑(.ref C))(hb:Binds X.K fd ps [])(ha:PA X (e::es) t)(lW:gz cn:=by decide)
  (ib:gd e es X.env:=by rfl)(hpl:kP pos es X.env:=by rfl)
  (ht:eval (.Call (.Attribute (.Name cn np) m apos) (e::es) [] pos) X.env=(do
    let ov<-eval (.Name cn np) X.env
    standAt apos.atName
    let(f,first)<-holding [ov] (getMethod ov m pl)
    callWith pos f first (backTo pos (starEach (e::es) X.env)) (backToKw pos (keywordEach [] X.env))):=by rfl):PE X (.Call (.Attribute (.Name cn np) m apos) (e::es) [] pos) (AZ sp [] E0 t):=by
 intro pins s σ H Q I h
 refine YQ (pl:=pl) (kQ I hg hm ?_ lW) ht
 obtain⟨_,h1,h2⟩:=c.rd
 refine PySem.W.method_cls I.lE c.ga (PySem.W.cls_value I.lE h1 h2 c.hd ?_)
 have I1:Inv X pins σ H {s with toks:=s.toks+1}:=I.tok _
 refine YK (first:=[]) (h₀:=X.base) I.ok.mod.kin c.kp (cx (ha pos pins _ σ H _ I1 h) λ_ _ ⟨_,_,I2,r,q2⟩=>⟨I2.lE,?_⟩) ib hpl
 exact oh (ds:=[]) (dvs:=[]) F hr hb .nil eR I2 r q2
end
def vq(C:Addr):Sp:=λvs H Q _=>∃x dx v,vs=[.ref x,v]/\H x=⇑(.ins C dx [])/\Q .non (upd H x (.ins C dx [("name",v)]))
def oW(K:aX)(C:Addr):Sp:=λvs H Q _=>∃x dx v p ys,vs=[.ref x,v,.ref p]/\H x=⇑(.ins C dx [])/\SL K H p ys/\∀t,H t=none->Q .non (upd (upd (upd H x (.ins C dx [("wanted",v)])) t (.tup ys)) x (.ins C dx [("wanted",v),("parts",.ref t)]))
def qO(K:aX)(C:Addr)(g:List V->Int):Sp:=λvs H Q _=>∃x dx p ys,vs=[.ref x,.ref p]/\H x=⇑(.ins C dx [])/\SL K H p ys/\∀t,H t=none->Q .non (upd (upd (upd H x (.ins C dx [("wanted",.int (g ys))])) t (.tup ys)) x (.ins C dx [("wanted",.int (g ys)),("parts",.ref t)]))
variable{p dx:Addr}{ys:List V}
theorem NO{K:aX}{x:Addr}{fs IX:List (Str×V)}(h:H x=⇑(.ins C dx fs))(q:SL K H p ys):SL K (upd H x (.ins C dx IX)) p ys:=by
 rcases q with(q|⟨ob,q⟩)|q
 ·refine .inl (.inl ?_)
  rw[au]
  ·exact q
  ·rintro rfl
   rw[h]at q
   cases q
 ·refine .inl (.inr ⟨ob,?_⟩)
  rw[au]
  ·exact q
  ·rintro rfl
   rw[h]at q
   cases q
 ·exact .inr q
variable{vs:List V}{E:XK}{g:List V->Int}{σ:St}
section
variable{K:aX}
abbrev TV(K:aX):List V->Hp->VK->Prop:=λxs H Q=>∃p ys,xs=[.ref p]/\((jv K H p ys/\∀l,H l=none->Q (.ref l) (upd H l (.tup ys)))\/(jZ K H p ys/\Q (.ref p) H))
abbrev TX(K:aX):List V->Hp->VK->Prop:=λxs H Q=>∃p ys,xs=[.ref p]/\(jv K H p ys\/jZ K H p ys)/\Q (.int ys.length) H
abbrev DQ(Q:VK):Ends:={nx:=λ_ H'=>Q .non H',rt:=Q}
theorem J2(cl:pC K C)(na:cE K C "name")(h:vq C vs H Q E):Jk K (lU 0) (lU 1) "name" (DQ Q) (start ["self","name"] vs) H:=by
 obtain⟨x,dx,v,rfl,hx,q⟩:=h
 exact⟨v,rfl,_,rfl,x,C,dx,[],rfl,hx,cl,na,∅,q⟩
theorem NP(cl:pC K C)(na:cE K C "wanted")(nb:cE K C "parts")(h:oW K C vs H Q E):
  Jb (Jk K (lU 0) (lU 1) "wanted") (Jk K (lU 0) (RO (TV K) (jR (lU 2) uP)) "parts") (DQ Q) (start ["self","wanted","parts"] vs) H:=by
 obtain⟨x,dx,v,p,ys,rfl,hx,hp,q⟩:=h
 refine⟨v,rfl,_,rfl,x,C,dx,[],rfl,hx,cl,na,∅,?_⟩
 refine⟨_,rfl,p,ys,rfl,.inl ⟨(NO hx hp).sq,λt ht=>?_⟩⟩
 have eZ:x≠t:=by
  rintro rfl
  rw[aF]at ht
  cases ht
 have WL:H t=none:=by
  rw[au (Ne.symm eZ)]at ht
  exact ht
 refine⟨_,rfl,x,C,dx,[("wanted",v)],rfl,?_,cl,nb,(show(1:Nat)<1000 by decide),?_⟩
 ·rw[au eZ]
  exact aF
 ·exact q t WL
theorem Gk(ht:∀{σ:St} {H:Hp} {Q:VK} {p:Addr} {ys:List V},σ[1]?=⇑(some (.ref p))->SL K H p ys->Q (.int (g ys)) H->ta σ H Q)(h:qO K C g vs H Q E):
  AS (AZ (oW K C) [] E0 (jR (lU 0) (jR ta (jR (lU 1) uP)))) (DQ Q) (start ["self","parts"] vs) H:=by
 obtain⟨x,dx,p,ys,rfl,hx,hp,q⟩:=h
 refine⟨_,rfl,ht rfl hp ⟨_,rfl,?_⟩⟩
 exact⟨x,dx,.int (g ys),p,ys,rfl,hx,hp,λt ht=>q t ht⟩
theorem NQ(h:oW K C vs H Q E):
  AS (AZ (oW K C) [] E0 (jR (lU 0) (jR (lU 1) (jR (lU 2) uP)))) (DQ Q) (start ["self","many","parts"] vs) H:=by
 obtain⟨x,dx,v,p,ys,rfl,hx,hp,q⟩:=h
 refine⟨_,rfl,_,rfl,_,rfl,?_⟩
 exact⟨x,dx,v,p,ys,rfl,hx,hp,λt ht=>q t ht⟩
theorem Gm(h:vq C vs H Q E):vs.length=2:=by
 obtain⟨x,_,v,rfl,_⟩:=h
 rfl
theorem Bt(h:oW K C vs H Q E):vs.length=3:=by
 obtain⟨x,_,v,p,_,rfl,_⟩:=h
 rfl
theorem Bu(h:qO K C g vs H Q E):vs.length=2:=by
 obtain⟨x,_,p,_,rfl,_⟩:=h
 rfl
theorem NR(h:σ[1]?=⇑(some (.ref p)))(hp:SL K H p ys)(q:Q (.int (ys.length:Nat)) H):RO (TX K) (jR (lU 1) uP) σ H Q:=⟨_,h,p,ys,rfl,.inl hp.sq,q⟩
theorem NS(h:σ[1]?=⇑(some (.ref p)))(hp:SL K H p ys)(q:Q (.int 1) H):tC (.int 1) σ H Q:=q
end
section
variable{K:aX}{G H':Hp}{A:Addr->Prop}{bo:Nat->Option (Addr×List V)}{own:Nat->Addr}{ρ:bU}
theorem kX{x:Addr}(hx:H x=none)(hd:H dx=none)(hn:dx≠x):aA H (upd (upd H dx (.own x)) x (.ins C dx [])):=(bL hd).trans (bL (by rw[au (Ne.symm hn)];exact hx))
theorem qP{x:Addr}{fs IX:List (Str×V)}{H0:Hp}(s:aA H0 H)(hx:H0 x=none):aA H0 (upd H x (.ins C dx IX)):=λb o e=>by
 rw[au (aO e hx)]
 exact s b o e
theorem J3{x:Addr}{p:PV}(r:R K κ G A bo own ρ σ H)(hf:κ.fld 0=[("name" :Str)])(hx:H x=none)(hd:H dx=none)(hn:dx≠x)(z:Rep K κ (cA A own ρ H) v p):
  aA H (upd (upd (upd H dx (.own x)) x (.ins (κ.adr 0) dx [])) x (.ins (κ.adr 0) dx [("name",v)]))/\Rep K κ (cA A own ρ (upd (upd (upd H dx (.own x)) x (.ins (κ.adr 0) dx [])) x (.ins (κ.adr 0) dx [("name",v)]))) (.ref x) (.ins 0 [p]):=by
 have s1:aA H (upd (upd (upd H dx (.own x)) x (.ins (κ.adr 0) dx [])) x (.ins (κ.adr 0) dx [("name",v)])):=qP (fs:=[]) (kX (C:=κ.adr 0) hx hd hn) hx
 refine⟨s1,.ins (c:=0) (dx:=dx) (vs:=[v]) ?_ (by rw[hf];rfl) (.cons (z.mono (bb s1)) .nil)⟩
 rw[cA,aK (r.new hx),aF,hf]
 rfl
theorem Gn{x t:Addr}{q:PV}{l:List PV}(r:R K κ G A bo own ρ σ H)(hf:κ.fld c=[("wanted" :Str),("parts" :Str)])(hx:H x=none)(hd:H dx=none)(hn:dx≠x)(ht:upd (upd H dx (.own x)) x (.ins (κ.adr c) dx []) t=none)
  (zv:Rep K κ (cA A own ρ H) v q)(z:aL K κ (cA A own ρ H) ys l):
  aA H (upd (upd (upd (upd (upd H dx (.own x)) x (.ins (κ.adr c) dx [])) x (.ins (κ.adr c) dx [("wanted",v)])) t (.tup ys)) x (.ins (κ.adr c) dx [("wanted",v),("parts",.ref t)]))/\
  Rep K κ (cA A own ρ (upd (upd (upd (upd (upd H dx (.own x)) x (.ins (κ.adr c) dx [])) x (.ins (κ.adr c) dx [("wanted",v)])) t (.tup ys)) x (.ins (κ.adr c) dx [("wanted",v),("parts",.ref t)]))) (.ref x) (.ins c [q,.tup l]):=by
 have s0:aA H (upd (upd H dx (.own x)) x (.ins (κ.adr c) dx [])):=kX (C:=κ.adr c) hx hd hn
 have eZ:x≠t:=by
  rintro rfl
  rw[aF]at ht
  cases ht
 have Vi:H t=none:=s0.free ht
 have s1:aA H (upd (upd (upd H dx (.own x)) x (.ins (κ.adr c) dx [])) x (.ins (κ.adr c) dx [("wanted",v)])):=qP (fs:=[]) s0 hx
 have s2:aA H (upd (upd (upd (upd H dx (.own x)) x (.ins (κ.adr c) dx [])) x (.ins (κ.adr c) dx [("wanted",v)])) t (.tup ys)):=λb o e=>by
  rw[au (aO e Vi)]
  exact s1 b o e
 have s3:aA H (upd (upd (upd (upd (upd H dx (.own x)) x (.ins (κ.adr c) dx [])) x (.ins (κ.adr c) dx [("wanted",v)])) t (.tup ys)) x (.ins (κ.adr c) dx [("wanted",v),("parts",.ref t)])):=qP (fs:=[]) s2 hx
 refine⟨s3,.ins (c:=c) (dx:=dx) (vs:=[v,.ref t]) ?_ (by rw[hf];rfl) (.cons (zv.mono (bb s3)) (.cons (.tup (vs:=ys) (.inl (.inl ?_)) (z.mono (bb s3))) .nil))⟩
 ·rw[cA,aK (r.new hx),aF,hf]
  rfl
 ·rw[cA,aK (r.new Vi),au (Ne.symm eZ)]
  exact aF
end
variable{x:Str}
section
variable{p:Pos}{b:Expr}{f:Addr}{k:Nat}
theorem Ds(M:Mk X.K (κ.adr 0) f)(F:oj X k f fd ps (vq (κ.adr 0)))(hf:κ.fld 0=[("name" :Str)])(hr:bG (k+1) X.A)(hm:X.mg x=⇑(.ref (κ.adr 0)))(hb:Binds X.K fd ps [])(ha:DB X κ a fa)(hg:Gl X x:=by rfl)(lW:gz x:=by decide)
  (he:gd a [] X.env:=by rfl):DE X κ (.Call (.Name x p) [a] [] pos) (bC Gf fa):=by
 obtain⟨_,h1,h2⟩:=ha
 refine⟨_,kT M F hr hg hm hb .nil eR (aN h1 bx he) lW he,λ{G A _ _ _ _ H p Q} r e q=>?_⟩
 obtain⟨p1,e1,e2⟩:=ZA.mp e
 refine h2 r e1 λv _ s1 b1=>?_
 cases p1<;>first|(cases e2;done)|skip
 cases e2
 intro y dy hy Dm hn
 rw[b1.str]
 obtain⟨s3,z3⟩:=J3 (r.mono s1) hf hy Dm hn (.str _)
 exact⟨y,dy,_,rfl,aF,rfl,q _ _ (s1.trans s3) z3⟩
theorem Bv{gP:List PV->Int}(WM:∀{vs:List V} {l:List PV},vs.length=l.length->g vs=gP l)(hf:κ.fld c=[("wanted" :Str),("parts" :Str)])(h2:Bc X.K κ ta fa):FG X.K κ (LA (κ.adr c) (qO X.K (κ.adr c) g) [] E0 (jR ta uP)) (bC (λp=>match p with|.lst l=>⇑(.ins c [.int (gP l),.tup l])|_=>none) fa):=λ{G A _ own _ _ H p Q} r e q=>by
 obtain⟨p1,e1,e2⟩:=ZA.mp e
 refine h2 r e1 λv H1 s1 b1=>?_
 cases p1<;>first|(cases e2;done)|skip
 rename_i l
 cases e2
 obtain⟨a,ys,rfl,q1,q2⟩:=b1.lst aE
 intro y dy hy Dm hn
 have s0:aA H1 (upd (upd H1 dy (.own y)) y (.ins (κ.adr c) dy [])):=kX (C:=κ.adr c) hy Dm hn
 refine⟨y,dy,a,ys,rfl,aF,s0.sl q1,λt ht=>⟨rfl,?_⟩⟩
 rw[WM q2.length]
 obtain⟨s3,z3⟩:=Gn (r.mono s1) hf hy Dm hn ht (.int (gP l)) q2
 exact q _ _ (s1.trans s3) z3
theorem Gq(M:Mk X.K (κ.adr 1) f)(F:oj X k f fd ps (qO X.K (κ.adr 1) λys=>(ys.length:Nat)))(hf:κ.fld 1=[("wanted" :Str),("parts" :Str)])(hr:bG (k+1) X.A)(hm:X.mg x=⇑(.ref (κ.adr 1)))(hb:Binds X.K fd ps [])(ha:DB X κ a fa)(hg:Gl X x:=by rfl)(lW:gz x:=by decide)
  (he:gd a [] X.env:=by rfl):DE X κ (.Call (.Name x p) [a] [] pos) (bC Gg fa):=by
 obtain⟨_,h1,h2⟩:=ha
 exact⟨_,kT M F hr hg hm hb .nil eR (aN h1 bx he) lW he,λ{G A _ _ _ _ H p Q} r e q=>Bv (c:=1) (g:=λys=>(ys.length:Nat)) (gP:=λl=>(l.length:Nat)) (λh=>by rw[h]) hf h2 r (by
  obtain⟨p1,e1,e2⟩:=ZA.mp e
  refine ZA.mpr ⟨p1,e1,?_⟩
  cases p1<;>first|(cases e2;done)|exact e2) q⟩
theorem Gu(M:Mk X.K (κ.adr 2) f)(F:oj X k f fd ps (qO X.K (κ.adr 2) λ_=>1))(hf:κ.fld 2=[("wanted" :Str),("parts" :Str)])(hr:bG (k+1) X.A)(hm:X.mg x=⇑(.ref (κ.adr 2)))(hb:Binds X.K fd ps [])(ha:DB X κ a fa)(hg:Gl X x:=by rfl)(lW:gz x:=by decide)
  (he:gd a [] X.env:=by rfl):DE X κ (.Call (.Name x p) [a] [] pos) (bC Gh fa):=by
 obtain⟨_,h1,h2⟩:=ha
 exact⟨_,kT M F hr hg hm hb .nil eR (aN h1 bx he) lW he,λ{G A _ _ _ _ H p Q} r e q=>Bv (c:=2) (g:=λ_=>1) (gP:=λ_=>1) (λ_=>rfl) hf h2 r (by
  obtain⟨p1,e1,e2⟩:=ZA.mp e
  refine ZA.mpr ⟨p1,e1,?_⟩
  cases p1<;>first|(cases e2;done)|exact e2) q⟩
theorem Du(M:Mk X.K (κ.adr 3) f)(F:oj X k f fd ps (oW X.K (κ.adr 3)))(hf:κ.fld 3=[("wanted" :Str),("parts" :Str)])(hr:bG (k+1) X.A)(hm:X.mg x=⇑(.ref (κ.adr 3)))(hb:Binds X.K fd ps [])(ha:DB X κ a fa)(oX:DB X κ b fb)(hg:Gl X x:=by rfl)(lW:gz x:=by decide)
  (he:starEach [a,b] X.env=(false,eval a X.env)::starEach [b] X.env:=by rfl)(WN:gd b [] X.env:=by rfl)(hpl:kP pos [b] X.env:=by rfl):DE X κ (.Call (.Name x p) [a,b] [] pos) (ag zH fa fb):=by
 obtain⟨_,h1,h2⟩:=ha
 obtain⟨_,h3,h4⟩:=oX
 refine⟨_,kT M F hr hg hm hb .nil eR (aN h1 (aN h3 bx WN) he) lW he hpl,λ{G A _ own _ _ H p Q} r e q=>?_⟩
 refine mR h2 h4 r e λv u p1 p2 H1 s1 r1 b1 b2 e2=>?_
 (cases p1<;>first|(cases e2;done)|skip)<;>cases p2<;>first|(cases e2;done)|skip
 cases e2
 obtain⟨a,ys,rfl,q1,q2⟩:=b2.lst aE
 intro y dy hy Dm hn
 have s0:aA H1 (upd (upd H1 dy (.own y)) y (.ins (κ.adr 3) dy [])):=kX (C:=κ.adr 3) hy Dm hn
 rw[b1.int]
 refine⟨y,dy,_,a,ys,rfl,aF,s0.sl q1,λt ht=>⟨rfl,?_⟩⟩
 obtain⟨s3,z3⟩:=Gn r1 hf hy Dm hn ht (.int _) q2
 exact q _ _ (s1.trans s3) z3
end
structure TY(K:aX)(C CR:Addr):Prop where
 cl:pC K C
 ha:PySem.W.findIn K (.ref C) "__class__" =⇑(some (.builtin "object.__class__"))
 hn:PySem.W.specialIn K (.builtin "object.__class__") "__get__" =⇑(some (.builtin "getset_descriptor.__get__"))
 htk:PySem.W.takesIn K (.builtin "object.__class__")=⇑true
 hm:PySem.W.mroIn K C (.type "object")=⇑true
 ND:PySem.W.kitOne K (.ref C) (.ref CR)=⇑true
section
variable{p:Pos}{b:Expr}
theorem qQ(ha:DB X κ a fa)(hm:X.mg "tuple" =none)(hg:Gl X "tuple" :=by rfl)(hs:gd a [] X.env:=by rfl):DE X κ (.Call (.Name "tuple" p) [a] [] pos) (bC qz fa):=by
 obtain⟨_,h1,h2⟩:=ha
 refine⟨_,g0 lF hg hm (by decide+kernel) (aN h1 bx hs) (he:=hs),λ{G A _ _ _ _ H p Q} r e q=>?_⟩
 obtain⟨p1,e1,e2⟩:=ZA.mp e
 refine h2 r e1 λx H1 s1 b1=>?_
 cases p1<;>first|(cases e2;done)|skip
 ·cases e2
  obtain⟨a,vs,rfl,q1,q2⟩:=b1.lst aE
  exact⟨a,vs,rfl,.inl ⟨q1.sq,λl hl=>q _ _ (s1.trans (bL hl)) ((r.mono s1).Qn hl q2)⟩⟩
 ·cases e2
  rcases b1 with b1|⟨_,_,_,_,z,_⟩
  ·cases b1 with
   |tup q1 q2=>exact⟨_,_,rfl,.inr ⟨qB aE q1,q _ H1 s1 (.tup q1 q2)⟩⟩
  ·cases z
theorem xt(ns:List Int):∀n,n<ns.length->(ns.take (n+1)).tail.foldl (λa b=>if b>a then b else a) (ns.getD 0 0)=ns.getD (argBest (λi j=>decide (ns.getD i 0>ns.getD j 0)) n) 0
 |0,h=>by
  have:(ns.take 1).tail=[]:=by
   cases ns with
   |nil=>rfl
   |cons x l=>simp
  rw[this]
  rfl
 |n+1,h=>by
  have ih:=xt ns n ⋯
  have e:(ns.take (n+1+1)).tail=(ns.take (n+1)).tail++[ns.getD (n+1) 0]:=by
   rw[UZ,ZG h,List.tail_append_of_ne_nil,ZU,ZG h]
   ·rfl
   ·intro z
    have h2:(ns.take (n+1)).length=0:=by rw[z];rfl
    rw[Z4]at h2
    omega
  rw[e,List.foldl_append,ih]
  show(if ns.getD (n+1) 0>ns.getD (argBest _ n) 0 then _ else _)=ns.getD (if decide (ns.getD (n+1) 0>ns.getD (argBest _ n) 0)=true then n+1 else argBest _ n) 0
  by_cases hh:ns.getD (n+1) 0>ns.getD (argBest (λi j=>decide (ns.getD i 0>ns.getD j 0)) n) 0
  ·rw[W1 hh,W1 (SZ hh)]
  ·rw[UF hh,UF (by rw[Wp hh];decide)]
theorem ub:∀{us:List Value} {ns:List Int},IntsAre us ns->∃xs:List (Int×Tok),us=xs.map (λp=>Value.int p.1 p.2)/\xs.map (·.1)=ns
 |_,_,.nil=>⟨[],rfl,rfl⟩
 |_,_,.cons i t h=>by
  obtain⟨xs,h1,h2⟩:=ub h
  exact⟨(i,t)::xs,by rw[h1];rfl,by rw[ZV,h2]⟩
theorem sY(hc:X.calm=true):fM X (.builtin "max") (λxs H Q=>∃(p:Addr) (ns:List Int) (m:Int),xs=[.ref p]/\jv X.K H p (ns.map V.int)/\QJ ns=⇑m/\Q (.int m) H):=by
 intro _ s _ H xs _ Q I r h
 obtain⟨p,ns,m,rfl,hq,hm,q⟩:=h
 obtain⟨u,rfl,ru⟩:=vals1 r
 cases ru
 obtain⟨_,rv,pl,_⟩:=I.list hq
 obtain⟨ts,rfl,ht⟩:=ub (intsAre_of rv)
 have hlen:ns.length=ts.length:=by rw[<-ht,ZD]
 have h0:0<ns.length:=by
  cases ns with
  |nil=>cases hm
  |cons _ _=>simp
 have na:∀i,numAt ts.toArray i=ns.getD i 0:=λi=>by
  unfold numAt
  rw[<-ht,ZU,Za]
  simp
 refine max_intList (xs:=ts.toArray) (I.ok.hd hc) (by simpa[intItems]using pl.isList) (by simpa using(hlen▸h0)) λv _ tk hv kp=>?_
 obtain⟨t,rfl⟩:=intItems_at hv
 have bm:=xt ns (ns.length-1) ⋯
 rw[show ns.length-1+1=ns.length by omega,List.take_length]at bm
 have em:m=numAt ts.toArray (argBest (λi j=>decide (numAt ts.toArray i>numAt ts.toArray j)) (ts.toArray.size-1)):=by
  rw[na,ZH,<-hlen,show(λi j=>decide (numAt ts.toArray i>numAt ts.toArray j))=λi j=>decide (ns.getD i 0>ns.getD j 0)from by funext i j;rw[na,na],<-bm]
  cases ns with
  |nil=>cases hm
  |cons x l=>
   cases hm
   rfl
 rw[<-em]
 exact⟨.int m,H,I.kept (t':=tk) kp,⟨_,rfl⟩,q⟩
theorem J4(ha:DB X κ a fa)(hm:X.mg "max" =none)(hg:Gl X "max" :=by rfl)(hc:X.calm=true:=by rfl)(hs:gd a [] X.env:=by rfl):DE X κ (.Call (.Name "max" p) [a] [] pos) (bC xp fa):=by
 obtain⟨_,h1,h2⟩:=ha
 refine⟨_,ie (sY hc) hg hm (by decide+kernel) (aN h1 bx hs) (he:=hs),λ{G A _ _ _ _ H p Q} r e q=>?_⟩
 obtain⟨p1,e1,e2⟩:=ZA.mp e
 refine h2 r e1 λx H1 s1 b1=>?_
 cases p1<;>first|(cases e2;done)|skip
 obtain⟨ns,e3,e4⟩:=ZA.mp e2
 obtain⟨m,e5,rfl⟩:=ZC.mp e4
 obtain⟨a,_,rfl,q1,q2⟩:=b1.lst aE
 rw[zE q2 e3]at q1
 exact⟨a,ns,m,rfl,q1.sq,e5,q _ H1 s1 (.int _)⟩
theorem xu{l u st:Option (Int×Tok)}{y:Str}{t:Tok}{Q:Value->Shared->Prop}{s:Shared}(h0:(st.map (·.1)).getD 1≠0)(hy:y.length<=sizeLine)(q:∀t' k,Q (.str (bX y (l.map (·.1)) (u.map (·.1)) ((st.map (·.1)).getD 1)) t') {s with toks:=k}):(sliceMade y t l u st).post Q s:=by
 unfold sliceMade
 unfold bX at q
 unfold slicePicked
 split
 ·rename_i hh
  rw[W1 hh]at q
  exact q t s.toks
 ·rename_i hh
  rw[UF hh]at q
  refine⟨?_,q _ _⟩
  show((Builtin.Str.strSliceIndices _ _ _ y.length).filterMap (y.cps[·]?)).toArray.size<=sizeLine
  rw[ZH]
  have h1:=nh (y.cps[·]?) (Builtin.Str.strSliceIndices (l.map (·.1)) (u.map (·.1)) ((st.map (·.1)).getD 1) y.length)
  have h2:=sliceIndicesBy_le (l.map (·.1)) (u.map (·.1)) ((st.map (·.1)).getD 1) h0 y.length
  omega
theorem NT:M8 X (λx lo hi H Q=>∃y,x=.str y/\y.length<=sizeLine/\Q (.str (bX y lo hi 1)) H):=by
 intro _ s _ H x v _ _ lo hi _ Q I rx hs pl pu h
 obtain⟨y,rfl,hy,q⟩:=h
 obtain⟨t,rfl⟩:=rx
 obtain⟨l,rfl,hl⟩:=xn pl
 obtain⟨u,rfl,hu⟩:=xn pu
 refine⟨"str",_,F.slot_str_getitem.lookup,typeIs_str _ _ _,wpAny_getItem_str_slice (l:=l) (u:=u) (st:=none) hs rfl (xu (st:=none) ∅ hy λ_ k=>?_)⟩
 rw[hl,hu]
 exact⟨.str _,H,I.tok _,⟨_,rfl⟩,q⟩
theorem eS{lo hi:Option Expr}{fl fh:va}(ha:DB X κ a fa)(hl:DP X κ lo fl)(hh:DP X κ hi fh):DE X κ (.Subscript a (.Slice lo hi none p2) pos) (jE fa fl fh):=by
 obtain⟨_,h1,h2⟩:=ha
 obtain⟨_,h3,h4⟩:=hl
 obtain⟨_,h5,h6⟩:=hh
 refine⟨_,wI (A3.or NT) h1 h3 h5,λ{G A _ _ _ _ H p Q} r e q=>?_⟩
 obtain⟨p1,e1,e2⟩:=ZA.mp e
 obtain⟨o1,e3,e4⟩:=ZA.mp e2
 obtain⟨o2,e5,e6⟩:=ZA.mp e4
 refine h2 r e1 λx _ s1 b1=>h4 (r.mono s1) e3 λ_ s2=>h6 ((r.mono s1).mono s2) e5 λH3 s3=>?_
 have LM:=(s1.trans s2).trans s3
 cases p1<;>first|(cases e6;done)|skip
 ·obtain⟨hy,rfl⟩:=aQ e6
  exact .inr ⟨_,by rw[b1.str],hy,q _ H3 LM (.str _)⟩
 ·cases e6
  obtain⟨a,vs,rfl,q1,q2⟩:=(b1.Bd (s2.trans s3)).lst aE
  exact .inl ⟨a,vs,rfl,q1.sq,λn hn=>q _ _ (LM.trans (bL hn)) (OR.rep (r.mono LM) ((r.mono LM).sQ hn (q2.cut o1 o2)))⟩
end
section
variable{p:Pos}{b c e:Expr}
theorem J5{te tc:TE}(he:PE X e te)(hc:PE X c tc):PE X (.Subscript e (.Slice none none ⇑c p2) pos) (λσ H Q=>te σ H λx H1=>tc σ H1 λz H2=>∃y,x=.str y/\z=.int (-1)/\y.length<=sizeLine/\Q (.str (bX y none none (-1))) H2):=by
 intro pins s σ H Q I h
 refine Subscript_ (cx (he pins s σ H _ I h) λv s1 b9=>?_)
 obtain⟨x,H1,I1,r1,q1⟩:=b9
 refine wpAny_Slice ?_
 rw[evalPart_none]
 refine SB (SB ?_)
 rw[evalPart_some]
 refine cx (hc pins s1 σ H1 _ I1 q1) λu s3 b9=>?_
 obtain⟨z,H3,I3,r3,y,ex,ez,hy,q⟩:=b9
 subst ex ez
 obtain⟨t,rfl⟩:=r1
 obtain⟨t',rfl⟩:=r3
 have I4:Inv X pins σ H3 {s3 with heap:=s3.heap.push {cls:=.type "slice",data:=.fields #[.none,.none,.int (-1) t']}}:=I3.kept (t':=s3.toks) λb _ q=>ZE _ q
 show gw X (subscriptTail e (.Slice none none ⇑c p2) (.str y t) (.ref ↥s3)) (EP X pins σ Q) X.xe {s3 with heap:=s3.heap.push {cls:=.type "slice",data:=.fields #[.none,.none,.int (-1) t']}}
 refine tail_any (ops:=[.ref ↥s3,.str y t]) (T:= "str") (typeIs_str _ _ _) F.slot_str_getitem.lookup ?_ (by with_unfolding_all rfl)
 refine wpAny_getItem_str_slice (l:=none) (u:=none) (st:=⇑(-1,t')) ⟨_,ZR _ rfl,rfl,rfl⟩ rfl (xu (st:=⇑(-1,t')) (show(-1:Int)≠0 by decide) hy λ_ k=>?_)
 exact⟨.str _,H3,I4.tok _,⟨_,rfl⟩,q⟩
theorem J6(ha:DB X κ a fa)(hc:DB X κ c (bC Qj (dC (.int 1)))):DE X κ (.Subscript a (.Slice none none ⇑c p2) pos) (bC NM fa):=by
 obtain⟨_,h1,h2⟩:=ha
 obtain⟨_,h3,h4⟩:=hc
 refine⟨_,J5 h1 h3,λ{G A _ _ _ _ H p Q} r e q=>?_⟩
 obtain⟨p1,e1,e2⟩:=ZA.mp e
 refine h2 r e1 λx _ s1 b1=>h4 (r.mono s1) (p:=.int (-1)) rfl λz H2 s2 b2=>?_
 cases p1<;>first|(cases e2;done)|skip
 obtain⟨hy,rfl⟩:=aQ e2
 exact⟨_,b1.str,b2.int,hy,q _ H2 (s1.trans s2) (.str _)⟩
end
theorem walkD2{l:PySem.W.OpenLaw}{n k:Nat}{q:Program}{loose:List Str}{XP:(Str->Option Value)->Heap->Prop}{YP:World->Heap->Prop}{d:DefRec}{K:Params->aX}{F:FP}
  (hn:l.most=⇑n)(OZ:n<=sizeLine)(Tj:d.params.defaults=[])(hr:bG k callerA)
  (hY:∀(w:World) (h:Heap),YP w h->(K w.params).In h)
  (FF:∀(w:World) (mg:Str->Option Value) (fa:Addr) (h:Heap),(K w.params).In h->h.Ns mainGlobals mg->mg d.name=⇑(.ref fa)->
    ∃(κ:Kl) (fd:FuncData),(∀(s:Shared) (u:Value),BindsTo s fd ⟨[u],[]⟩ [(x,u)])/\
     ∀base:Heap,(K w.params).In base->base.Ns mainGlobals mg->dS l.prog w (K w.params) mg base qk k fa fd [x] (eY (K w.params) κ false F))
  (hF:∀ns:List Int,ns.length<=n->F [.lst (ns.map .int)]=⇑(.bl true)):
  PySem.W.WalkO q loose XP YP l.row.toRowW d [] (λf vs=>PySem.call f vs):=by
 refine Att.wK hn Tj λw _ _ mg _ fa o _ _ _ a vs ns G Y _ _ _ Tn Ng hints hlen hg=>?_
 have KX:=hY w _ Y
 obtain⟨κ,fd,hb,TN⟩:=FF w mg fa _ KX G.T.g Tn
 refine Dd KX G.T.g G.T.b G.T.builtins G.T.nolimit hg Ng hints (Zd hlen OZ) hr TN hb (λH _ hS=>?_) λH e _ z=>z
 have e:hide (λ_=>False) H=H:=by
  funext b
  exact aK λz=>z
 refine⟨λ_=>False,[.lst (ns.map .int)],.bl true,λb z=>z.elim,.cons ?_ .nil,hF ns hlen,λv _ s z=>?_⟩
 ·rw[e]
  exact .lst hS (ints_rep ns)
 ·cases(show Rep (K w.params) κ _ v (.bl true)from z)
  rfl
theorem fq.mono{P:Program}{w:World}{K:aX}{mg:Str->Option Value}{base:Heap}{j k:Nat}(M:fq P w K mg base κ fr m j ps Fs)(h:j<=k):fq P w K mg base κ fr m k ps Fs:=λc xs p e=>by
 obtain⟨f,fd,h1,h2,h3,h4,h5⟩:=M c xs p e
 exact⟨f,fd,h1,h2,h3,h4.mono h,h5⟩
theorem eI{st:Stmt}:DS X κ fr st fm:=⟨_,qd,λ{G A _ _ _ _ H _ D} r e k=>by cases e⟩
section
variable{K:aX}{mg:Str->Option Value}{CR CC fH fA fY fS fC:Addr}
theorem Gv(h:f∈Pb c):(c=0/\f= "name")\/(0<c/\c<4/\(f= "wanted" \/f= "parts")):=by
 unfold Pb at h
 split at h
 ·exact .inl ⟨by assumption,by simpa using h⟩
 ·split at h
  ·exact .inr ⟨⋯,by assumption,by simpa using h⟩
  ·cases h
end
def dO(x:Str):List Str->Nat
 |[]=>0
 |y::l=>if y=x then 0 else 1+dO x l
def zI:PV->PV->Option PV
 |.tup l,.str x=>(oV l).bind λts=>if decide (x∈ts)then ⇑(.int (dO x ts:Nat))else none
 |_,_=>none
end L2.D
namespace PySem.SeqAt
open PySem.Spec
open AutoSeq1 (wpAny_loadPart')
open MeetsSeq MeetsSeq2 MeetsSeq3 SeqRoads2
theorem sZ(l:Addr)(items:Array Value)(n:Nat)(dd:Option Addr)(sl:Array (Option Value))(x:Value)(e:Value->Bool)(k:Nat)(hk:k<items.size)(h1:e items[k]=true)(h2:∀j (hj:j<k),e (items[j]'⋯)=false):
  Meets (Builtin.«tuple.index» ⟨[.ref l,x],[]⟩)
   (λA R s=>s.heap.get? l=some {cls:=.type "tuple",dict:=dd,data:=.seq items n,slots:=sl}/\(∀y,y∈items->EqAt A.in1 s y x (e y))/\R (.ok (.ret (.int (k:Nat) s.toks))) {s with toks:=s.toks+1}):=
 .of_wp λprog w A R s h=>by
  obtain⟨hp,g,d,tk,os⟩:=s;obtain⟨hl,he,h⟩:=h
  unfold Builtin.«tuple.index»
  simp only[Std.Legacy.Range.forIn_eq_forIn_range',Std.Legacy.Range.size,z0A,Nat.add_sub_cancel,Nat.div_one]
  wp_walk using wpAny_loadPart' hl,wpAny_forIn_list _ (λrest b s'=>b.1=none/\s'=⟨hp,g,d,tk,os⟩/\∃i,rest=List.range' i (items.size-i)/\i<=k) _
  case turn=>
   rintro j rest b s' ⟨_,rfl,i,hr,_⟩
   have ee:items.size-i=(items.size-(i+1))+1:=by omega
   rw[ee,Yp]at hr
   injection hr with q1 q2
   subst q1
   have hj:j<items.size:=by omega
   rw[Array.getElem?_eq_getElem hj]
   refine UV (he items[j] (Array.getElem_mem hj) prog w _ _ ?_)
   rcases z0V j k with jX|hge
   ·rw[h2 j jX]
    wp_walk
    exact⟨rfl,rfl,j+1,q2,jX⟩
   ·obtain rfl:j=k:=by omega
    rw[h1]
    wp_walk
    exact⟨_,rfl,h⟩
  case fin=>
   rintro⟨_,_⟩ s' ⟨_,rfl,i,hr,_⟩
   have ee:items.size-i=(items.size-(i+1))+1:=by omega
   rw[ee,Yp]at hr
   cases hr
  case h=>
   exact⟨rfl,rfl,0,by simp,Zm _⟩
end PySem.SeqAt
namespace L2.D
open PySem PySem.Spec PyProof.Rows PySem.SeqAt
variable{X:Cx}{κ:Kl}{pos:Pos}{a:Expr}{fa:Den}{x:Str}{A:Around}{s:Shared}{ta tb:TE}
section
variable{p p2 apos:Pos}{b c e:Expr}{fb:Den}
def zJ(x:Str):Value->Bool
 |.str y _=>decide (y=x)
 |_=>false
theorem xv:∀{ts:List Str} {us:List Value},Vals (ts.map V.str) us->x∈ts->∃h:dO x ts<us.length,zJ x us[dO x ts]=true/\∀j (hj:j<dO x ts),zJ x (us[j]'(Nat.lt_trans hj h))=false
 |[],_,_,h=>nomatch h
 |y::ts,_,.cons ⟨t,ht⟩ r,h=>by
  subst ht
  by_cases e:y=x
  ·subst e
   have z:dO y (y::ts)=0:=by unfold dO;rw[W1 rfl]
   refine⟨by rw[z];simp,?_,λj hj=>by rw[z]at hj;omega⟩
   simp only[z]
   show decide (y=y)=true
   simp
  ·have hx:x∈ts:=(Zc.mp h).resolve_left λz=>e z.symm
   obtain⟨h1,h2,h3⟩:=xv r hx
   have z:dO x (y::ts)=dO x ts+1:=by
    show(if y=x then 0 else 1+dO x ts)=_
    rw[UF e,Nat.add_comm]
   refine⟨by rw[z];simpa using h1,?_,λj hj=>?_⟩
   ·simp only[z]
    exact h2
   ·cases j with
    |zero=>
     show decide (y=x)=false
     simpa using e
    |succ j=>
     rw[z]at hj
     exact h3 j ⋯
theorem Dv{y:Str}{t u:Tok}:EqAt A s (.str y t) (.str x u) (decide (y=x)):=λ_ w E Q h=>wpAny_eqBool_str h
theorem uc{x:Str}:∀{ts:List Str} {us:List Value},Vals (ts.map V.str) us->∀v∈us,∃y t,v=.str y t
 |[],_,.nil,v,h=>nomatch h
 |y::ts,_,.cons ⟨t,ht⟩ r,v,h=>by
  rcases Zc.mp h with rfl|h
  ·exact⟨y,t,ht⟩
  ·exact uc (x:=x) r v h
theorem Gw(ha:PE X a ta)(hb:PE X b tb)(dU:attributeBase a "index" X.env (eval a X.env)=eval a X.env:=by rfl)
  (j5:((backTo pos (starEach [b] X.env)).all (λx=>!x.1)&&(backToKw pos (keywordEach [] X.env)).all (λx=>x.1.isSome)
    &&decide ([b].length+([]:List Keyword).length+(if([]:List Keyword).isEmpty then 0 else 1)<30))=true:=by rfl)
  (dW:(apos.endLine==pos.line)=true:=by rfl)(hs:gd b [] X.env:=by rfl):
  PE X (.Call (.Attribute a "index" apos) [b] [] pos) (λσ H Q=>ta σ H λx H1=>∃p ts,x=.ref p/\jZ X.K H1 p (ts.map V.str)/\tb σ H1 λy H2=>∃z,[y]=[V.str z]/\jZ X.K H2 p (ts.map V.str)/\z∈ts/\Q (.int (dO z ts:Nat)) H2):=by
 intro pins s σ H Q I h
 refine wpAny_Call_method_late dU j5 dW rfl (cx (ha pins s σ H _ I h) λv s1 b9=>?_)
 obtain⟨x,H1,I1,r1,p,ts,ex,hq,q1⟩:=b9
 subst ex
 cases r1
 obtain⟨its,_,pl,_⟩:=I1.tuple hq
 have nd:=I1.MF hq
 refine⟨"tuple","tuple.index",PySem.F.plainAttrs_tuple,z0B,PySem.F.type_tuple_index,(show s1.heap.IsTuple p its.toArray from pl).typeIs,λa e=>by cases e;exact nd,?_⟩
 have hA:=aN hb bx hs pos pins s1 σ H1 (λvs H2=>∃z,vs=[.str z]/\jZ X.K H2 p (ts.map V.str)/\z∈ts/\Q (.int (dO z ts:Nat)) H2) I1 q1
 rw[hs]at hA⊢
 refine Calls.callWith_builtin (by rfl) (Calls.evalArgs_plain ?_)
 refine cx hA λ_ _ b9=>?_
 obtain⟨vs,H2,I2,r2,z,ez,WO,hm,q2⟩:=b9
 subst ez
 obtain⟨u,rfl,t,rfl⟩:=vals1 r2
 obtain⟨sO,R4,⟨⟨_,dd,_,sl⟩,ho,hc,n,hd⟩,_⟩:=I2.tuple WO
 simp only at hc hd
 subst hc hd
 obtain⟨h1,h2,h3⟩:=xv R4 hm
 refine call_meets z0B ⟨_,ho,rfl⟩ PySem.F.entry_tuple_index (PySem.F.args_tuple_index_2 _ _) (sZ p sO.toArray n dd sl (.str z t) (zJ z) (dO z ts) (by simpa using h1) (by simpa using h2) (λj hj=>by simpa using h3 j hj)) ⟨ho,λy hy=>?_,?_⟩
 ·obtain⟨_,_,rfl⟩:=uc (x:=z) R4 y (by simpa using hy)
  exact Dv
 ·exact⟨.int _,H2,I2.tok _,⟨_,rfl⟩,q2⟩
theorem Gx(ha:DB X κ a fa)(hb:DB X κ b fb)(dU:attributeBase a "index" X.env (eval a X.env)=eval a X.env:=by rfl)
  (j5:((backTo pos (starEach [b] X.env)).all (λx=>!x.1)&&(backToKw pos (keywordEach [] X.env)).all (λx=>x.1.isSome)
    &&decide ([b].length+([]:List Keyword).length+(if([]:List Keyword).isEmpty then 0 else 1)<30))=true:=by rfl)
  (dW:(apos.endLine==pos.line)=true:=by rfl)(hs:gd b [] X.env:=by rfl):DE X κ (.Call (.Attribute a "index" apos) [b] [] pos) (ag zI fa fb):=by
 obtain⟨_,h1,h2⟩:=ha
 obtain⟨_,h3,h4⟩:=hb
 refine⟨_,Gw h1 h3 dU j5 dW hs,λ{G A _ _ _ _ H p Q} r e q=>?_⟩
 obtain⟨p1,e1,e2⟩:=ZA.mp e
 obtain⟨p2,e3,e4⟩:=ZA.mp e2
 (cases p1<;>first|(cases e4;done)|skip)<;>cases p2<;>first|(cases e4;done)|skip
 obtain⟨ts,e5,e6⟩:=ZA.mp e4
 obtain⟨ok,rfl⟩:=aQ e6
 refine h2 r e1 λx _ s1 b1=>?_
 obtain⟨a,_,rfl,q1,q2⟩:=b1.tup aE
 have ev:=zG q2 e5
 subst ev
 refine⟨a,ts,rfl,q1,h4 (r.mono s1) e3 λy H2 s2 b2=>?_⟩
 rw[b2.str]
 exact⟨_,rfl,qB s2 q1,PP ok,q _ H2 (s1.trans s2) (.int _)⟩
end
variable{α:Type}
theorem TZ{us:List α}(h:us.length=1):∃a,us=[a]:=List.length_eq_one_iff.mp h
theorem T1{us:List α}(h:us.length=2):∃a b,us=[a,b]:=match us,h with|[a,b],_=>⟨a,b,rfl⟩
theorem T2{us:List α}(h:us.length=3):∃a b c,us=[a,b,c]:=match us,h with|[a,b,c],_=>⟨a,b,c,rfl⟩
theorem T3{us:List α}(h:us.length=4):∃a b c d,us=[a,b,c,d]:=match us,h with|[a,b,c,d],_=>⟨a,b,c,d,rfl⟩
def toS:PV->Option Str
 |.str x=>⇑x
 |_=>none
variable{p:PV}
theorem iQ(h:toS p=⇑x):p=.str x:=by
 cases p<;>first|(cases h;done)|skip
 cases h
 rfl
def Dw(x y:Str):Bool:=!decide (y.cps.toList<x.cps.toList)
def fW(fa fb fc:Den):Den:=λρ=>(fa ρ).bind λx=>(fb ρ).bind λy=>(toS x).bind λi=>(toS y).bind λj=>if Dw i j then(fc ρ).bind λz=>(toS z).bind λk=>⇑(.bl (Dw j k))else ⇑(.bl false)
def signs(x:Str):List PV:=x.cps.toList.map λc=>.str ⟨#[c]⟩
def J7(a:Den):bZ:=λρ=>(a ρ).bind λp=>(toS p).bind λx=>if x.cps.all (·<128)then ⇑(signs x)else none
def zK(k:Nat):PV:=.ins (1000+k) []
def eX:PV->Option Nat
 |.ins c _=>if 1000<=c then ⇑(c-1000)else none
 |_=>none
def ma(c:bU->Bool)(k:Nat):aT:=λρ=>if c ρ=true then ⇑(.rt (zK k))else none
def J8:PV->Bool
 |.lst _=>true
 |_=>false
def LW(a:Den):aT:=λρ=>(a ρ).bind λp=>if((eX p).isSome||J8 p)=true then none else ⇑(.rt p)
def zL(a:Den):aT:=λρ=>(a ρ).bind λp=>if J8 p=true then ⇑(.rt p)else none
def ni(fa fb fc:Den):Den:=λρ=>(fa ρ).bind λx=>(fb ρ).bind λy=>(sH x).bind λi=>(sH y).bind λj=>if i<=j then(fc ρ).bind λz=>(sH z).map λk=>.bl (decide (j<k))else ⇑(.bl false)
theorem pU(k:Nat):eX (zK k)=⇑k:=by
 show(if 1000<=1000+k then ⇑(1000+k-1000)else none)=⇑k
 rw[W1 ⋯]
 simp
def NU:R2:=λx y H Q=>∃i j,x=.str i/\y=.str j/\Q (.bl (Dw i j)) H
variable{H:Hp}{n:Nat}
section
variable{b c:Expr}{fb fc:Den}
theorem Gy:iM X (compareOp .LtE) NU:=by
 intro _ s _ H x y v u Q I rx ry h
 obtain⟨i,j,rfl,rfl,q⟩:=h
 obtain⟨t,rfl⟩:=rx
 obtain⟨_,rfl⟩:=ry
 exact P.le_str (bM I q rfl)
theorem zM{K:aX}{tc:TE}(h2:Bc K κ ta fa)(h4:Bc K κ tb fb)(h6:Bc K κ tc fc):FG K κ (qf NU NU ta tb tc) (fW fa fb fc):=λ{G A _ _ ρ _ H p Q} r e q=>by
 refine mR (g:=λx y=>(toS x).bind λi=>(toS y).bind λj=>if Dw i j then(fc ρ).bind λz=>(toS z).bind λk=>⇑(PV.bl (Dw j k))else ⇑(.bl false)) h2 h4 r e λx y _ _ H1 s1 r1 b1 b2 e'=>?_
 obtain⟨i,e3,e4⟩:=ZA.mp e'
 obtain⟨j,e5,e6⟩:=ZA.mp e4
 cases iQ e3
 cases iQ e5
 refine⟨i,j,b1.str,b2.str,_,rfl,?_⟩
 by_cases yW:Dw i j=true
 ·rw[W1 yW]at e6
  obtain⟨_,e7,e8⟩:=ZA.mp e6
  obtain⟨k,e9,T4⟩:=ZA.mp e8
  cases iQ e9
  cases T4
  rw[W1 yW]
  refine h6 r1 e7 λw H2 s2 b3=>?_
  exact⟨j,k,b2.str,b3.str,q _ H2 (s1.trans s2) (.bl _)⟩
 ·rw[UF yW]at e6
  cases e6
  rw[UF yW]
  exact q _ H1 s1 (.bl _)
theorem xw(ha:DB X κ a fa)(hb:DB X κ b fb)(hc:DB X κ c fc)(hm:lastMarks [.LtE,.LtE] [b,c]=false:=by with_unfolding_all rfl):DE X κ (.Compare a [.LtE,.LtE] [b,c] pos) (fW fa fb fc):=by
 obtain⟨_,h1,h2⟩:=ha
 obtain⟨_,h3,h4⟩:=hb
 obtain⟨_,h5,h6⟩:=hc
 exact⟨_,E5 Gy Gy h1 h3 h5 hm,zM h2 h4 h6⟩
theorem qR{K:aX}:∀ts:List Str,aL K κ H (ts.map V.str) (ts.map PV.str)
 |[]=>.nil
 |t::ts=>.cons (.str t) (qR ts)
theorem Gz{p:Addr}{o:Obj}{its:Array Value}{ts:List Str}(h:X.mg x=⇑(.ref p))(hk:X.K.lookup p=⇑o)(hc:o.cls=.type "tuple")(hs:o.data=.seq its n)(hz:its.size<=sizeLine)(hn:o.dict=none)(hv:Vals (ts.map V.str) its.toList)
  (hg:Gl X x:=by rfl)(hd:gz x:=by decide):DE X κ (.Name x pos) (dC (b0 ts)):=
 ⟨_,kR (v:=.ref p) hg h rfl hd,λ{G A _ _ _ _ H p Q} r e q=>by cases e;exact q _ H (aA.refl _) (.tup (.inr ⟨o,its,n,hk,hc,hs,⟨hz,hn⟩,hv⟩) (qR ts))⟩
end
def T5(x:Str):It:=⟨λi _=>i<x.cps.size,λi H v H'=>H'=H/\∃c,x.cps[i]?=⇑c/\v=.str ⟨#[c]⟩,λi _=>x.cps.size<=i⟩
variable{tg:Expr}
theorem GA{P:Program}{w:World}{K:aX}(x:Str)(t:Tok)(it:Addr):Turn P w K tg (T5 x) [it] it (λi h=>h.IsStrIter it "str_ascii_iterator" x t i) where
 mem:=by simp
 obj:=λi h st b hb=>by
  have e:b=it:=by simpa using hb
  subst e
  obtain⟨o,e,c,d⟩:=st
  exact⟨o,e,λv z=>by rw[d]at z;cases z⟩
 keep:=λi h h' st k=>by
  obtain⟨o,e,r⟩:=st
  exact⟨o,k it (by simp) o e,r⟩
 item:=by
  intro X hP hw hK hc i pins s σ H E I hf st hg
  subst hP hw hK
  have hi:i<x.cps.size:=hg
  obtain⟨f0,f1,_,f3,f4,f5⟩:=hf it (by simp)
  refine wpAny_pyNext_ascii_item st (c:=x.cps[i]) (by simp[hi]) λh' tH sb=>?_
  have I1:Inv X pins σ H {s with heap:=h',toks:=s.toks+1}:=I.turned (t':=s.toks+1) (λb o hb e=>sb.extBut b o hb e) f0 f1 f3 f4 f5
  obtain⟨o,e,c,d⟩:=id tH
  exact⟨_,rfl,wD (s:={s with heap:=h',toks:=s.toks+1}) e c d ∅ ⟨.str ⟨#[x.cps[i]]⟩,H,I1,⟨_,rfl⟩,⟨rfl,x.cps[i],by simp[hi],rfl⟩,tH,λb hb=>(hf b hb).1⟩⟩
 done:=by
  intro X hP hw hK hc i pins s σ H E I hf st hg
  subst hP hw hK
  obtain⟨f0,f1,_,f3,f4,f5⟩:=hf it (by simp)
  have hi:x.cps.size<=i:=hg
  exact wpAny_pyNext_ascii_end (I.ok.hd hc) st (by simp;omega) λh' eb=>⟨rfl,I.turned (t':=s.toks) (λb o hb e=>eb b o hb e) f0 f1 f3 f4 f5⟩
 self:=λ_ _ _ _ _ st h=>wpAny_pyIter_striter_ascii st h
variable{Gs:Hp}
section
variable{e:Expr}{f:Den}
theorem NV{l:Expr}{tl:TE}(hl:PE X l tl):PI X tg l (λσ H R=>tl σ H λv H1=>∃x,v=.str x/\x.cps.all (·<128)=true/\R (T5 x) H1):=by
 intro pins s σ H R I h
 refine cx (hl pins s σ H _ I h) λv s1 b9=>?_
 obtain⟨y,H1,I1,r1,x,ex,hx,q⟩:=b9
 subst ex
 obtain⟨t,rfl⟩:=r1
 refine wpAny_pyIter_ascii hx ?_
 refine⟨↥s1,[↥s1],_,_,H1,rfl,I1.kept (t':=s1.toks) λb o e=>ZE _ e,GA x t _,⟨_,ZR _ rfl,rfl,rfl⟩,λb hb=>?_,q⟩
 have e:b=↥s1:=by simpa using hb
 subst e
 exact I1.CN (ZK _) (I1.cD.fresh (ZK _))
theorem GB{K:aX}{A:Addr->Prop}(x:Str):sR K κ Gs A (T5 x) (signs x):=λi _ s=>by
 refine⟨λp e=>?_,λhl=>show x.cps.size<=i by simpa[signs]using hl⟩
 unfold signs at e
 rw[Za]at e
 obtain⟨c,h1,rfl⟩:=ZC.mp e
 obtain⟨h2,_⟩:=ZL.mp h1
 refine⟨show i<x.cps.size by simpa using h2,λv _ b9=>?_⟩
 obtain⟨y1,c',y2,y3⟩:=b9
 subst y1 y3
 have:c'=c:=by
  rw[<-Z3,h1]at y2
  exact(ZX y2).symm
 subst this
 exact⟨aA.refl _,λB _ _=>.str _⟩
theorem J9(h:DB X κ e f):JM X κ tg e (J7 f):=by
 obtain⟨_,h1,h2⟩:=h
 refine⟨_,NV h1,λ{G A _ _ _ _ H _ Q} r e q=>?_⟩
 obtain⟨p,e1,e2⟩:=ZA.mp e
 obtain⟨x,e3,e4⟩:=ZA.mp e2
 cases iQ e3
 obtain⟨hx,rfl⟩:=aQ e4
 refine h2 r e1 λv H' s z=>?_
 exact⟨x,z.str,hx,q _ H' s (GB x)⟩
end
open Classical
abbrev SI(h:Heap)(a:Addr)(x:Str)(t:Tok)(n:Nat):Prop:=h.IsStrIter a "str_ascii_iterator" x t n
theorem SI.up{h h':Heap}{a:Addr}{t:Tok}(k:SI h a x t n)(up:∀o,h.get? a=⇑o->h'.get? a=⇑o):SI h' a x t n:=by
 obtain⟨o,e,r⟩:=k
 exact⟨o,up o e,r⟩
variable{prog:Program}{E:Value->Shared->Prop}{Q:Option Value->Shared->Prop}
section
variable{w:World}{z TI TO i1 i2:Addr}{y:Str}{t u:Tok}{a b:Value}
theorem Ka{c d:Nat}{Q:PySem.Fin->Shared->Prop}(D:ZipApart z TI TO i1 i2 TI TI)(z0:IsZip s.heap z TI TO .none)(p0:IsPair s.heap TI (.ref i1) (.ref i2))(q0:IsPair s.heap TO a b)(r1:SI s.heap i1 x t n)(r2:SI s.heap i2 y u n)(e1:x.cps[n]?=⇑c)(e2:y.cps[n]?=⇑d)
  (k:∀h' t1 t2 tk,IsZip h' z TI TO (rawInt ↥s)->IsPair h' TO (.str ⟨#[c]⟩ t1) (.str ⟨#[d]⟩ t2)->SI h' i1 x t (n+1)->SI h' i2 y u (n+1)->IsPair h' ↥s (.str ⟨#[c]⟩ t1) (.str ⟨#[d]⟩ t2)->(∀e o,e≠z->e≠TO->e≠i1->e≠i2->s.heap.get? e=⇑o->h'.get? e=⇑o)->Q (.done (.ret (.ref ↥s))) {s with heap:=h',toks:=tk}):
  wpAny (model prog w) A (Builtin.«zip.__next__» ⟨[.ref z],[]⟩) Q E s:=by
 show wpAny _ _ (field (.ref z) 2>>=_) _ _ _
 refine UV (KF z0 rfl (x:=.bool false) rfl ?_)
 show wpAny _ _ (field (.ref z) 3>>=_) _ _ _
 refine UV (KF z0 rfl (x:=.ref TI) rfl (UV (wpAny_seqItems p0 rfl ?_)))
 show wpAny _ _ (Builtin.SmallTypes.ownedTupleIsFree (.ref z)>>=_) _ _ _
 refine UV ?_
 unfold Builtin.SmallTypes.ownedTupleIsFree
 refine UV (KF z0 rfl (x:=.none) rfl (SB ?_))
 simp only[if_true]
 refine UV (wpAny_rule (UV (KF z0 rfl (x:=.ref TO) rfl (UV (Os z0 (by simp) λg1 z1 m1=>?_)))))
 have R8:IsZip g1 z TI TO .ellipsis:=z1
 refine UV ?_
 simp only[RU,z0E,Yi,Y9]
 refine UV (UV (wpAny_onRaise ?_))
 show wpAny _ _ (Builtin.SmallTypes.nextOf (.ref i1)>>=_) _ _ _
 refine UV (wpAny_nextOf_ascii_item (r1.extBut m1.extBut D.i1z) e1 λg2 k2 m2=>SB ?_)
 have q2:IsPair g2 TO a b:=m2.extBut _ _ D.TOi1 (m1.extBut _ _ D.TOz q0)
 refine UV (wpAny_seqItems q2 rfl (UV (wpAny_updateSeq_pair q2 λ_ q3 m3=>?_)))
 refine UV (wpAny_letGo (SB (UV (UV (wpAny_onRaise ?_)))))
 show wpAny _ _ (Builtin.SmallTypes.nextOf (.ref i2)>>=_) _ _ _
 refine UV (wpAny_nextOf_ascii_item (((r2.extBut m1.extBut D.i2z).extBut m2.extBut D.i12.symm).extBut m3.extBut D.TOi2.symm) e2 λg4 k4 m4=>SB ?_)
 have q4:IsPair g4 TO (.str ⟨#[c]⟩ s.toks) b:=m4.extBut _ _ D.TOi2 q3
 refine UV (wpAny_seqItems q4 rfl (UV (wpAny_updateSeq_pair q4 λg5 q5 m5=>?_)))
 have Vj:IsPair g5 TO (.str ⟨#[c]⟩ s.toks) (.str ⟨#[d]⟩ (s.toks+1)):=q5
 refine UV (wpAny_letGo (SB (SB (UV (wpAny_seqItems Vj rfl (UV (wpAny_newTuple ?_)))))))
 have sz:g5.objs.size=↥s:=by rw[m5.1,m4.1,m3.1,m2.1,m1.1]
 have z5:IsZip g5 z TI TO .ellipsis:=m5.extBut _ _ D.TOz.symm (m4.extBut _ _ D.i2z.symm (m3.extBut _ _ D.TOz.symm (m2.extBut _ _ D.i1z.symm R8)))
 have f5:∀e o,e≠z->e≠TO->e≠i1->e≠i2->s.heap.get? e=⇑o->g5.get? e=⇑o:=λe o c1 c2 c3 c4 h=>m5.extBut _ _ c2 (m4.extBut _ _ c4 (m3.extBut _ _ c2 (m2.extBut _ _ c3 (m1.extBut _ _ c1 h))))
 have k5:SI g5 i1 x t (n+1):=((k2.extBut m3.extBut D.TOi1.symm).extBut m4.extBut D.i12).extBut m5.extBut D.TOi1.symm
 have l5:SI g5 i2 y u (n+1):=k4.extBut m5.extBut D.TOi2.symm
 have lt:=ZN z5
 show wpAny _ _ (Builtin.SmallTypes.ownedTupleHandOut (.ref z) (.ref g5.objs.size)>>=_) _ _ _
 refine UV ?_
 unfold Builtin.SmallTypes.ownedTupleHandOut
 have z6:IsZip (g5.push {cls:=.type "tuple",data:=.seq #[.str ⟨#[c]⟩ s.toks,.str ⟨#[d]⟩ (s.toks+1)]}) z TI TO .ellipsis:=ZE _ z5
 refine UV (Os z6 (by simp) λg7 z7 m7=>?_)
 have WQ:IsZip g7 z TI TO (rawInt g5.objs.size):=z7
 refine Os WQ (by simp) λg8 z8 m8=>?_
 have Vk:IsZip g8 z TI TO (rawInt g5.objs.size):=z8
 have up:∀e o,e≠z->g5.get? e=⇑o->g8.get? e=⇑o:=λe o c1 h=>m8.extBut _ _ c1 (m7.extBut _ _ c1 (ZE _ h))
 have t8:IsPair g8 g5.objs.size (.str ⟨#[c]⟩ s.toks) (.str ⟨#[d]⟩ (s.toks+1)):=m8.extBut _ _ (YJ lt) (m7.extBut _ _ (YJ lt) (ZR _ rfl))
 rw[sz]at Vk t8
 refine SB ?_
 show Q (.done (.ret (.ref g5.objs.size))) _
 rw[sz]
 exact k g8 _ _ _ Vk (up _ _ D.TOz Vj) (k5.up λo e=>up _ o D.i1z e) (l5.up λo e=>up _ o D.i2z e) t8 λe o c1 c2 c3 c4 h=>up e o c1 (f5 e o c1 c2 c3 c4 h)
theorem NW{Q:PySem.Fin->Shared->Prop}(hh:A.handled=none)(D:ZipApart z TI TO i1 i2 TI TI)(z0:IsZip s.heap z TI TO .none)(p0:IsPair s.heap TI (.ref i1) (.ref i2))(q0:IsPair s.heap TO a b)(r1:SI s.heap i1 x t n)(r2:SI s.heap i2 y u n)(e0:x.cps[n]?=none\/y.cps[n]?=none)
  (k:∀h' e tk,(∀f o,f≠z->f≠TO->f≠i1->f≠i2->s.heap.get? f=⇑o->h'.get? f=⇑o)->(∃o,h'.get? e=⇑o/\o.cls=.type "StopIteration")->E (.ref e) {s with heap:=h',toks:=tk}):
  wpAny (model prog w) A (Builtin.«zip.__next__» ⟨[.ref z],[]⟩) Q E s:=by
 show wpAny _ _ (field (.ref z) 2>>=_) _ _ _
 refine UV (KF z0 rfl (x:=.bool false) rfl ?_)
 show wpAny _ _ (field (.ref z) 3>>=_) _ _ _
 refine UV (KF z0 rfl (x:=.ref TI) rfl (UV (wpAny_seqItems p0 rfl ?_)))
 show wpAny _ _ (Builtin.SmallTypes.ownedTupleIsFree (.ref z)>>=_) _ _ _
 refine UV ?_
 unfold Builtin.SmallTypes.ownedTupleIsFree
 refine UV (KF z0 rfl (x:=.none) rfl (SB ?_))
 simp only[if_true]
 refine UV (wpAny_rule (UV (KF z0 rfl (x:=.ref TO) rfl (UV (Os z0 (by simp) λg1 z1 m1=>?_)))))
 have R8:IsZip g1 z TI TO .ellipsis:=z1
 refine UV ?_
 simp only[RU,z0E,Yi,Y9]
 refine UV (UV (wpAny_onRaise ?_))
 show wpAny _ _ (Builtin.SmallTypes.nextOf (.ref i1)>>=_) _ _ _
 cases ex:x.cps[n]? with
 |none=>
  refine UV (wpAny_nextOf_ascii_end hh (r1.extBut m1.extBut D.i1z) ex λg2 e m2 he=>?_)
  obtain⟨oe,h1,h2⟩:=he
  have z2:IsZip g2 z TI TO .ellipsis:=m2 _ _ D.i1z.symm R8
  have ne:e≠z:=λv=>by subst v;rw[z2]at h1;cases h1;simp at h2
  exact Os z2 (by simp) λg3 _ m3=>k g3 e _ (λf o c1 _ c3 _ v=>m3.extBut _ _ c1 (m2 _ _ c3 (m1.extBut _ _ c1 v))) ⟨oe,m3.extBut _ _ ne h1,h2⟩
 |some c=>
  have ey:y.cps[n]?=none:=by rcases e0 with h|h;rw[ex]at h;cases h;exact h
  refine UV (wpAny_nextOf_ascii_item (r1.extBut m1.extBut D.i1z) ex λg2 _ m2=>SB ?_)
  have q2:IsPair g2 TO a b:=m2.extBut _ _ D.TOi1 (m1.extBut _ _ D.TOz q0)
  refine UV (wpAny_seqItems q2 rfl (UV (wpAny_updateSeq_pair q2 λg3 _ m3=>?_)))
  refine UV (wpAny_letGo (SB (UV (UV (wpAny_onRaise ?_)))))
  show wpAny _ _ (Builtin.SmallTypes.nextOf (.ref i2)>>=_) _ _ _
  refine UV (wpAny_nextOf_ascii_end hh (((r2.extBut m1.extBut D.i2z).extBut m2.extBut D.i12.symm).extBut m3.extBut D.TOi2.symm) ey λg4 e m4 he=>?_)
  obtain⟨oe,h1,h2⟩:=he
  have z4:IsZip g4 z TI TO .ellipsis:=m4 _ _ D.i2z.symm (m3.extBut _ _ D.TOz.symm (m2.extBut _ _ D.i1z.symm R8))
  have ne:e≠z:=λv=>by subst v;rw[z4]at h1;cases h1;simp at h2
  exact Os z4 (by simp) λg5 _ m5=>k g5 e _ (λf o c1 c2 c3 c4 v=>m5.extBut _ _ c1 (m4 _ _ c4 (m3.extBut _ _ c2 (m2.extBut _ _ c3 (m1.extBut _ _ c1 v))))) ⟨oe,m5.extBut _ _ ne h1,h2⟩
theorem Dx{c d:Nat}(D:ZipApart z TI TO i1 i2 TI TI)(z0:IsZip s.heap z TI TO .none)(p0:IsPair s.heap TI (.ref i1) (.ref i2))(q0:IsPair s.heap TO a b)(r1:SI s.heap i1 x t n)(r2:SI s.heap i2 y u n)(e1:x.cps[n]?=⇑c)(e2:y.cps[n]?=⇑d)
  (k:∀h' t1 t2 tk,IsZip h' z TI TO (rawInt ↥s)->IsPair h' TO (.str ⟨#[c]⟩ t1) (.str ⟨#[d]⟩ t2)->SI h' i1 x t (n+1)->SI h' i2 y u (n+1)->IsPair h' ↥s (.str ⟨#[c]⟩ t1) (.str ⟨#[d]⟩ t2)->(∀e o,e≠z->e≠TO->e≠i1->e≠i2->s.heap.get? e=⇑o->h'.get? e=⇑o)->Q ⇑(.ref ↥s) {s with heap:=h',toks:=tk}):
  wpAny (model prog w) A (pyNext (.ref z)) Q E s:=by
 have ty:s.TypeIs (.ref z) "zip" :=⟨_,z0,rfl⟩
 unfold pyNext
 exact UV (wpAny_attempt (wpAny_callSpecial?_slot (name:=Str.ofString "__next__") ty F.slot_zip_next (wpAny_call_entry F.slot_zip_next ty F.entry_zip_next (Ka D z0 p0 q0 r1 r2 e1 e2 λh' t1 t2 tk a1 a2 a3 a4 a5 a6=>⟨_,rfl,SB (k h' t1 t2 tk a1 a2 a3 a4 a5 a6)⟩) (F.args_zip_next_1 _))))
theorem GC(hh:A.handled=none)(D:ZipApart z TI TO i1 i2 TI TI)(z0:IsZip s.heap z TI TO .none)(p0:IsPair s.heap TI (.ref i1) (.ref i2))(q0:IsPair s.heap TO a b)(r1:SI s.heap i1 x t n)(r2:SI s.heap i2 y u n)(e0:x.cps[n]?=none\/y.cps[n]?=none)
  (k:∀h' tk,(∀f o,f≠z->f≠TO->f≠i1->f≠i2->s.heap.get? f=⇑o->h'.get? f=⇑o)->Q none {s with heap:=h',toks:=tk}):wpAny (model prog w) A (pyNext (.ref z)) Q E s:=by
 have ty:s.TypeIs (.ref z) "zip" :=⟨_,z0,rfl⟩
 unfold pyNext
 refine UV (wpAny_attempt (wpAny_callSpecial?_slot (name:=Str.ofString "__next__") ty F.slot_zip_next (wpAny_call_entry F.slot_zip_next ty F.entry_zip_next (NW hh D z0 p0 q0 r1 r2 e0 λh' e tk g he=>?_) (F.args_zip_next_1 _))))
 obtain⟨o,h1,h2⟩:=he
 exact UV (wpAny_isInstance (T:= "StopIteration") (b:=true) ⟨o,h1,h2⟩ isSubtype_stop (SB (k _ _ g)))
end
abbrev NX(h:Heap)(x:Str)(t:Tok):Heap:=h.push {cls:=.type "str_ascii_iterator",data:=.fields #[.str x t,.int 0 0]}
abbrev R9(h:Heap)(x:Str)(t:Tok)(y:Str)(u:Tok):Heap:=NX (NX h x t) y u
abbrev Sa(h:Heap)(x:Str)(t:Tok)(y:Str)(u:Tok):Heap:=(R9 h x t y u).push {cls:=.type "tuple",data:=.seq #[.ref h.objs.size,.ref (NX h x t).objs.size]}
abbrev Sb(h:Heap)(x:Str)(t:Tok)(y:Str)(u:Tok):Heap:=(Sa h x t y u).push {cls:=.type "tuple",data:=.seq #[.none,.none]}
abbrev Pc(h:Heap)(x:Str)(t:Tok)(y:Str)(u:Tok):Heap:=(Sb h x t y u).push {cls:=.type "zip",data:=.fields #[.none,.bool false,.bool false,.ref (R9 h x t y u).objs.size,.ref (Sa h x t y u).objs.size]}
theorem NY(x:Str)(t:Tok)(y:Str)(u:Tok)(hx:x.cps.all (·<128)=true)(hy:y.cps.all (·<128)=true):
  Meets (Builtin.«zip.__new__» ⟨[.type "zip",.str x t,.str y u],[]⟩) (λ_ R s=>R (.ok (.ret (.ref (Sb s.heap x t y u).objs.size))) {s with heap:=Pc s.heap x t y u}):=
 .of_wp λprog w A R s h=>by
  obtain⟨_,g,d,_,_⟩:=s
  have WR:=sub_zip
  have w1:=λ(prog:Program) (w:World) (A:Around) (E:Value->Shared->Prop) (s:Shared) (Q:Value->Shared->Prop) (q:Q (.ref ↥s) {s with heap:=NX s.heap x t})=>wpAny_pyIter_ascii (prog:=prog) (w:=w) (A:=A) (E:=E) (s:=s) (t:=t) hx q
  have w2:=λ(prog:Program) (w:World) (A:Around) (E:Value->Shared->Prop) (s:Shared) (Q:Value->Shared->Prop) (q:Q (.ref ↥s) {s with heap:=NX s.heap y u})=>wpAny_pyIter_ascii (prog:=prog) (w:=w) (A:=A) (E:=E) (s:=s) (t:=u) hy q
  wp_walk using w1,w2
  exact⟨_,rfl,h⟩
theorem GD(n:Nat):ZipApart (n+4) (n+2) (n+3) n (n+1) (n+2) (n+2):=by
 refine⟨?_,?_,?_,?_,?_,?_,?_,?_,?_,?_,?_,?_,?_,?_,?_,?_,?_,?_⟩<;>(intro(e:(_:Nat)=_);omega)
theorem Kb{w:World}{y:Str}{t u:Tok}{Q:Value->Shared->Prop}(hx:x.cps.all (·<128)=true)(hy:y.cps.all (·<128)=true)
  (k:∀h',IsZip h' (↥s+4) (↥s+2) (↥s+3) .none->IsPair h' (↥s+2) (.ref ↥s) (.ref (↥s+1))->IsPair h' (↥s+3) .none .none->SI h' ↥s x t 0->SI h' (↥s+1) y u 0->
    (∀c o,s.heap.get? c=⇑o->h'.get? c=⇑o)->Q (.ref (↥s+4)) {s with heap:=h'}):wpAny (model prog w) A (call (.type "zip") [.str x t,.str y u]) Q E s:=by
 refine callType_new F.called_zip ∅ (F.typeCall_zip_2 _ _) (F.newCall_zip_2 _ _) (λobj=>F.args_object_init_3 obj _ _) F.entry_zip_new (NY x t y u hx hy) ?_
 have n1:(NX s.heap x t).objs.size=↥s+1:=YV ..
 have n2:(R9 s.heap x t y u).objs.size=↥s+2:=by rw[YV,n1]
 have n3:(Sa s.heap x t y u).objs.size=↥s+3:=by rw[YV,n2]
 have n4:(Sb s.heap x t y u).objs.size=↥s+4:=by rw[YV,n3]
 have g5:(Pc s.heap x t y u).get? (Sb s.heap x t y u).objs.size=⇑_:=ZR _ rfl
 have g4:(Pc s.heap x t y u).get? (Sa s.heap x t y u).objs.size=⇑_:=ZE _ (ZR _ rfl)
 have g3:(Pc s.heap x t y u).get? (R9 s.heap x t y u).objs.size=⇑_:=ZE _ (ZE _ (ZR _ rfl))
 have g2:(Pc s.heap x t y u).get? (NX s.heap x t).objs.size=⇑_:=ZE _ (ZE _ (ZE _ (ZR _ rfl)))
 have g1:(Pc s.heap x t y u).get? ↥s=⇑_:=ZE _ (ZE _ (ZE _ (ZE _ (ZR _ rfl))))
 show _/\_
 rw[n2,n3,n4]at g5
 rw[n1,n2]at g3
 rw[n3]at g4
 rw[n1]at g2
 rw[n4]
 exact⟨⟨_,g5,rfl⟩,k _ g5 g3 g4 ⟨_,g1,rfl,rfl⟩ ⟨_,g2,rfl,rfl⟩ λc o v=>ZE _ (ZE _ (ZE _ (ZE _ (ZE _ v))))⟩
def NZ(x y:Str):It:=
 ⟨λi _=>i<x.cps.size/\i<y.cps.size,
  λi H v H'=>∃p c d,H p=none/\v=.ref p/\H'=upd H p (.tup [.str ⟨#[c]⟩,.str ⟨#[d]⟩])/\x.cps[i]?=⇑c/\y.cps[i]?=⇑d,
  λi _=>x.cps.size<=i\/y.cps.size<=i⟩
def WS(z TI TO i1 i2:Addr)(x y:Str)(t u:Tok)(i:Nat)(h:Heap):Prop:=IsZip h z TI TO .none/\IsPair h TI (.ref i1) (.ref i2)/\(∃a b,IsPair h TO a b)/\SI h i1 x t i/\SI h i2 y u i
variable{elts:List Expr}{x1:Nat}
theorem Dy{P:Program}{w:World}{K:aX}{z TI TO i1 i2:Addr}{y:Str}{t u:Tok}(D:ZipApart z TI TO i1 i2 TI TI):
  Turn P w K (.Tuple elts x1 pos) (NZ x y) [z,TI,TO,i1,i2] z (WS z TI TO i1 i2 x y t u) where
 mem:=by simp
 obj:=λi h st b hb=>by
  obtain⟨z0,p0,⟨a,c,q0⟩,⟨_,e1,_,d1⟩,⟨_,e2,_,d2⟩⟩:=st
  have oX:b=z\/b=TI\/b=TO\/b=i1\/b=i2:=by simpa using hb
  rcases oX with rfl|rfl|rfl|rfl|rfl
  ·exact⟨_,z0,λv q=>by cases q⟩
  ·exact⟨_,p0,λv q=>by cases q⟩
  ·exact⟨_,q0,λv q=>by cases q⟩
  ·exact⟨_,e1,λv q=>by rw[d1]at q;cases q⟩
  ·exact⟨_,e2,λv q=>by rw[d2]at q;cases q⟩
 keep:=λi h h' st k=>by
  obtain⟨z0,p0,⟨a,c,q0⟩,h1,h2⟩:=st
  exact⟨k _ (by simp) _ z0,k _ (by simp) _ p0,⟨a,c,k _ (by simp) _ q0⟩,h1.up λo e=>k _ (by simp) o e,h2.up λo e=>k _ (by simp) o e⟩
 item:=by
  intro X hP hw hK hc i _ s _ H E I hf st hg
  subst hP hw hK
  obtain⟨lx,ly⟩:i<x.cps.size/\i<y.cps.size:=hg
  obtain⟨z0,p0,⟨a,c,q0⟩,h1,h2⟩:=st
  refine Dx D z0 p0 q0 h1 h2 (c:=x.cps[i]) (d:=y.cps[i]) (by simp[lx]) (by simp[ly]) λh' t1 t2 tk a1 a2 a3 a4 a5 a7=>?_
  refine⟨.ref ↥s,rfl,wpAny_letOwnedTupleGo_zip (s:={s with heap:=h',toks:=tk}) a1 λT7 b1 b2=>?_⟩
  have WT:z<↥s:=ZN z0
  have up:∀b o,b≠z->h'.get? b=⇑o->T7.get? b=⇑o:=λb o hb e=>(b2.2 b hb).trans e
  have kp:∀b o,b∉[z,TO,i1,i2]->s.heap.get? b=⇑o->T7.get? b=⇑o:=λb o hb e=>by
   have oX:b≠z/\b≠TO/\b≠i1/\b≠i2:=by simpa using hb
   exact up b o oX.1 (a7 b o oX.1 oX.2.1 oX.2.2.1 oX.2.2.2 e)
  have QK:IsPair T7 ↥s (.str ⟨#[x.cps[i]]⟩ t1) (.str ⟨#[y.cps[i]]⟩ t2):=up _ _ (YJ WT) a5
  have fr:H ↥s=none:=I.cD.fresh (ZK _)
  refine⟨.ref ↥s,upd H ↥s (.tup [.str ⟨#[x.cps[i]]⟩,.str ⟨#[y.cps[i]]⟩]),?_,rfl,?_,?_,?_⟩
  ·refine I.De (t':=tk) (ch:=[z,TO,i1,i2]) kp (λb hb=>hf b ?_) ?_
   ·have oX:b=z\/b=TO\/b=i1\/b=i2:=by simpa using hb
    rcases oX with rfl|rfl|rfl|rfl<;>simp
   ·exact⟨⟨by show 2<=sizeLine;decide,⟨_,QK,rfl⟩⟩,[_,_],.cons ⟨_,rfl⟩ (.cons ⟨_,rfl⟩ .nil),⟨_,QK,rfl,_,rfl⟩⟩
  ·exact⟨_,_,_,fr,rfl,rfl,by simp[lx],by simp[ly]⟩
  ·exact⟨b1,up _ _ D.TIz (a7 _ _ D.TIz D.TITO D.TIi1 D.TIi2 p0),⟨_,_,up _ _ D.TOz a2⟩,a3.up λo e=>up _ _ D.i1z e,a4.up λo e=>up _ _ D.i2z e⟩
  ·intro b hb
   have:b<↥s:=by
    have oX:b=z\/b=TI\/b=TO\/b=i1\/b=i2:=by simpa using hb
    obtain⟨_,e1,_⟩:=h1
    obtain⟨_,e2,_⟩:=h2
    rcases oX with rfl|rfl|rfl|rfl|rfl
    ·exact ZN z0
    ·exact ZN p0
    ·exact ZN q0
    ·exact ZN e1
    ·exact ZN e2
   rw[au (Ze this)]
   exact(hf b hb).1
 done:=by
  intro X hP hw hK hc i _ s _ H E I hf st hg
  subst hP hw hK
  have T8:x.cps.size<=i\/y.cps.size<=i:=hg
  obtain⟨z0,p0,⟨a,c,q0⟩,h1,h2⟩:=st
  refine GC (I.ok.hd hc) D z0 p0 q0 h1 h2 (by
   rcases T8 with q|q
   ·exact .inl (by simp;omega)
   ·exact .inr (by simp;omega)) λh' tk k=>⟨rfl,I.vk (t':=tk) (ch:=[z,TO,i1,i2]) (λb o hb e=>?_) λb hb=>hf b ?_⟩
  ·have oX:b≠z/\b≠TO/\b≠i1/\b≠i2:=by simpa using hb
   exact k b o oX.1 oX.2.1 oX.2.2.1 oX.2.2.2 e
  ·have oX:b=z\/b=TO\/b=i1\/b=i2:=by simpa using hb
   rcases oX with rfl|rfl|rfl|rfl<;>simp
 self:=λ_ _ _ _ _ st h=>wpAny_pyIter_zip st.1 h
section
variable{b:Expr}{fb:Den}{tp:Pos}
def QL(ta:TA):TI:=λσ H R=>ta σ H λvs H1=>∃x y,vs=[.str x,.str y]/\x.cps.all (·<128)=true/\y.cps.all (·<128)=true/\R (NZ x y) H1
theorem Kc{ta:TA}{p:Pos}(hg:Gl X "zip")(hm:X.mg "zip" =none)(ha:PA X [a,b] ta)(hs:starEach [a,b] X.env=[(false,eval a X.env),(false,eval b X.env)]:=by rfl)(pB:starEach [b] X.env=[(false,eval b X.env)]:=by rfl):
  PI X (.Tuple elts x1 tp) (.Call (.Name "zip" p) [a,b] [] pos) (QL ta):=by
 intro pins s σ H R I h
 refine Call_ (lV I hg hm PyProof.Rows.boot_zip (PyProof.Rows.callWith_type1 (cx (ha pos pins s σ H _ I h) λ_ s1 b9=>?_) (hs.trans (by rw[pB])) (by rw[pB];rfl)))
 obtain⟨_,H1,I1,r1,q1⟩:=b9
 obtain⟨x,y,rfl,hx,hy,q⟩:=q1
 obtain⟨_,_,rfl,r1,r2⟩:=vals2 r1
 obtain⟨t,rfl⟩:=r1
 obtain⟨u,rfl⟩:=r2
 refine Kb hx hy λh' hz WU WV WW TQ hk=>?_
 refine wpAny_pyIter_zip (s:={s1 with heap:=h'}) hz ?_
 refine⟨↥s1+4,[↥s1+4,↥s1+2,↥s1+3,↥s1,↥s1+1],_,_,H1,rfl,I1.kept (t':=s1.toks) hk,Dy (GD _),⟨hz,WU,⟨_,_,WV⟩,WW,TQ⟩,λb hb=>?_,q⟩
 have oX:b=↥s1+4\/b=↥s1+2\/b=↥s1+3\/b=↥s1\/b=↥s1+1:=by simpa using hb
 have hle:↥s1<=b:=by rcases oX with rfl|rfl|rfl|rfl|rfl<;>omega
 exact I1.CN hle (I1.cD.fresh hle)
def Dz(x y:Str):List PV:=List.zipWith (λc d=>PV.tup [.str ⟨#[c]⟩,.str ⟨#[d]⟩]) x.cps.toList y.cps.toList
def Bw(a b:Den):bZ:=λρ=>(a ρ).bind λp=>(toS p).bind λx=>(b ρ).bind λq=>(toS q).bind λy=>if x.cps.all (·<128)&&y.cps.all (·<128)then ⇑(Dz x y)else none
theorem DF{K:aX}{A:Addr->Prop}(x y:Str):sR K κ Gs A (NZ x y) (Dz x y):=λi _ s=>by
 refine⟨λp e=>?_,λhl=>?_⟩
 ·unfold Dz at e
  rw[List.getElem?_zipWith]at e
  cases e1:x.cps.toList[i]? with
  |none=>rw[e1]at e;cases e
  |some c=>
   cases e2:y.cps.toList[i]? with
   |none=>rw[e1,e2]at e;cases e
   |some d=>
    rw[e1,e2]at e
    cases e
    have g1:x.cps[i]?=⇑c:=by rw[<-Z3];exact e1
    have g2:y.cps[i]?=⇑d:=by rw[<-Z3];exact e2
    refine⟨⟨(Yr.mp g1).1,(Yr.mp g2).1⟩,λz _ ⟨_,_,_,y0,y1,y2,y3,y4⟩=>?_⟩
    subst y1 y2
    rw[g1]at y3
    rw[g2]at y4
    cases y3
    cases y4
    refine⟨bL y0,λB hB _=>.tup (jZ.of ?_) (.cons (.str _) (.cons (.str _) .nil))⟩
    rw[aK λz=>hB _ z y0]
    exact aF
 ·unfold Dz at hl
  rw[List.length_zipWith]at hl
  show x.cps.size<=i\/y.cps.size<=i
  simp at hl
  omega
theorem Kd{p:Pos}(ha:DE X κ a fa)(hb:DE X κ b fb)(hm:X.mg "zip" =none)(hg:Gl X "zip" :=by rfl)(hs:starEach [a,b] X.env=[(false,eval a X.env),(false,eval b X.env)]:=by rfl)(pB:starEach [b] X.env=[(false,eval b X.env)]:=by rfl):
  DI X κ (.Tuple elts x1 tp) (.Call (.Name "zip" p) [a,b] [] pos) (Bw fa fb):=by
 obtain⟨_,h1,h2⟩:=ha
 obtain⟨_,h3,h4⟩:=hb
 refine⟨_,Kc hg hm (aN h1 (aN h3 bx pB) (hs.trans (by rw[pB]))) hs pB,λ{G A _ _ _ _ H _ Q} r e q=>?_⟩
 obtain⟨_,e1,e2⟩:=ZA.mp e
 obtain⟨x,e3,e4⟩:=ZA.mp e2
 obtain⟨_,e5,e6⟩:=ZA.mp e4
 obtain⟨y,e7,e8⟩:=ZA.mp e6
 obtain⟨QM,rfl⟩:=aQ e8
 rw[ZS]at QM
 cases iQ e3
 cases iQ e7
 refine h2 r e1 λv _ s1 z1=>h4 (r.mono s1) e5 λw H2 s2 z2=>?_
 cases z1
 cases z2
 exact⟨x,y,rfl,QM.1,QM.2,q _ H2 (s1.trans s2) (DF x y)⟩
end
def ou(P:Params):List DictEntry->List (Str×Int)->Prop
 |[],[]=>True
 |e::es,(k,i)::kvs=>(∃t u,e=⟨PyData.keyHash P k,.str k t,.int i u⟩)/\ou P es kvs
 |_,_=>False
variable{P:Params}
theorem ou.lit:∀{es:List DictEntry} {kvs:List (Str×Int)},ou P es kvs->PySem.W.KeysLit P es
 |[],[],_=>trivial
 |_::_,(k,i)::_,⟨⟨t,u,e⟩,h⟩=>⟨⟨k,t,by rw[e],by rw[e]⟩,h.lit⟩
theorem ou.find(s:Str):∀{es:List DictEntry} {kvs:List (Str×Int)},ou P es kvs->(es.find? (λd=>Value.isStrOf s d.key)=none/\kvs.lookup s=none)\/∃e i u,es.find? (λd=>Value.isStrOf s d.key)=⇑e/\e.val=.int i u/\kvs.lookup s=⇑i
 |[],[],_=>.inl ⟨rfl,rfl⟩
 |e::es,(k,i)::kvs,⟨⟨t,u,eq⟩,h⟩=>by
  subst eq
  rw[YS,Zb]
  have iff:Value.isStrOf s (.str k t)=(s==k):=by
   show(k==s)=(s==k)
   rw[YO,KB,KB]
   exact eq_comm
  show(match Value.isStrOf s (.str k t)with|true=>_|false=>_)=_/\_\/_
  by_cases hk:s=k
  ·have hb:(s==k)=true:=KB.mpr hk
   rw[hb]at iff
   refine .inr ⟨⟨PyData.keyHash P k,.str k t,.int i u⟩,i,u,?_,rfl,by rw[hb]⟩
   simp only[iff]
  ·have hb:(s==k)=false:=by rw[beq_eq_false_iff_ne];exact hk
   rw[hb]at iff
   simp only[iff,hb]
   exact h.find s
def Ke(P:Params)(K:aX)(mg:Str->Option Value)(x:Str)(kvs:List (Str×Int)):Prop:=∃(a:Addr) (es:Array DictEntry) (n:Nat),mg x=⇑(.ref a)/\K.lookup a=⇑⟨.type "dict",none,.dict es n,#[]⟩/\ou P es.toList kvs/\(a==sysModules)=false
def vt(kvs:List (Str×Int))(p:PV):Option PV:=(toS p).map λs=>.bl !(kvs.lookup s).isSome
def xx(kvs:List (Str×Int))(p:PV):Option PV:=(toS p).bind λs=>(kvs.lookup s).map PV.int
variable{kvs:List (Str×Int)}{pins:List (Addr×Obj)}{σ:St}{d:Addr}{es:Array DictEntry}
section
variable{p0:Pos}
theorem GF(I:Inv X pins σ H s)(hk:X.K.lookup d=⇑⟨.type "dict",none,.dict es n,#[]⟩)(he:ou X.w.params es.toList kvs):s.heap.MapOf (strKind X.prog X.w) d (λk=>findBy Value.isStrOf es k):=PySem.W.mapOf_K I.lE hk he.lit
theorem By(he:ou P es.toList kvs)(s:Str):(findBy Value.isStrOf es s=none/\kvs.lookup s=none)\/∃i u,findBy Value.isStrOf es s=⇑(.int i u)/\kvs.lookup s=⇑i:=by
 unfold findBy
 rw[<-Array.find?_toList]
 rcases he.find s with⟨h1,h2⟩|⟨e,i,u,h1,h2,h3⟩
 ·exact .inl ⟨by rw[h1];rfl,h2⟩
 ·exact .inr ⟨i,u,by rw[h1];show some e.val=_;rw[h2],h3⟩
theorem DH{ty:TE}(hk:X.K.lookup d=⇑⟨.type "dict",none,.dict es n,#[]⟩)(he:ou X.w.params es.toList kvs)(hd:(d==sysModules)=false):iM X (compareOp .NotIn) (λv u H Q=>∃s,v=.str s/\u=.ref d/\Q (.bl !(kvs.lookup s).isSome) H):=by
 intro _ s _ H v u _ _ Q I rv ru h
 obtain⟨k,rfl,rfl,q⟩:=h
 obtain⟨t,rfl⟩:=rv
 cases ru
 refine wpAny_notIn_of (strKind_is X.prog X.w k t) hd (GF I hk he) ?_
 have e:(findBy Value.isStrOf es k).isSome=(kvs.lookup k).isSome:=by
  rcases By he k with⟨h1,h2⟩|⟨i,u,h1,h2⟩<;>rw[h1,h2]<;>rfl
 rw[e]
 exact⟨.bl !(kvs.lookup k).isSome,H,I.kept (h':=s.heap) (t':=s.toks+1) (λ_ _ z=>z),rfl,q⟩
theorem DJ(D:Ke X.w.params X.K X.mg x kvs)(ha:DB X κ a fa)(hg:Gl X x:=by rfl)(hx:gz x:=by decide):DC X κ .NotIn a (.Name x p0) (bC (vt kvs) fa):=by
 obtain⟨d,_,n,h1,h2,h3,h4⟩:=D
 obtain⟨ta,k1,k2⟩:=ha
 refine⟨_,_,_,DH (ty:=ta) h2 h3 h4,k1,kR (v:=.ref d) hg h1 rfl hx,λ{G A _ _ _ _ H p Q} r e q=>?_⟩
 obtain⟨_,e1,e2⟩:=ZA.mp e
 obtain⟨s,e3,e4⟩:=ZC.mp e2
 cases iQ e3
 cases e4
 exact k2 r e1 λv H' s' z=>⟨s,z.str,rfl,q _ H' s' (.bl _)⟩
theorem Bz(D:Ke X.w.params X.K X.mg x kvs)(ha:DB X κ a fa)(hg:Gl X x:=by rfl)(hx:gz x:=by decide)(hs:QF a:=by intro _ _;rfl):DE X κ (.Subscript (.Name x p0) a pos) (bC (xx kvs) fa):=by
 obtain⟨d,_,n,h1,h2,h3,_⟩:=D
 obtain⟨ta,k1,k2⟩:=ha
 refine⟨λσ H Q=>ta σ H λv H1=>∃s i,v=.str s/\kvs.lookup s=⇑i/\Q (.int i) H1,?_,λ{G A _ _ _ σ H p Q} r e q=>?_⟩
 ·intro pins s σ H Q I h
  refine JV PySem.F.slot_dict_getitem.lookup hs (cx (kR (v:=.ref d) (pos:=p0) hg h1 rfl hx pins s σ H (λv H1=>v=.ref d/\ta σ H1 λv H2=>∃s i,v=.str s/\kvs.lookup s=⇑i/\Q (.int i) H2) I ⟨rfl,h⟩) λu s1 ⟨v,H1,I1,ru,ev,q1⟩=>cx (k1 pins s1 σ H1 _ I1 q1) λ_ s2 b9=>?_)
  obtain⟨y,H2,I2,ry,k,i,ey,hk,q2⟩:=b9
  subst ev ey
  cases ru
  obtain⟨t,rfl⟩:=ry
  refine⟨⟨_,I2.lE _ _ h2,rfl⟩,?_⟩
  rcases By h3 k with⟨z1,z2⟩|⟨i',u,z1,z2⟩
  ·rw[z2]at hk;cases hk
  ·rw[z2]at hk
   obtain rfl:=ZX hk
   exact wpAny_getItem_of (strKind_is X.prog X.w k t) (GF I2 h2 h3) z1 ⟨.int i',H2,I2.kept (h':=s2.heap) (t':=s2.toks+1) (λ_ _ z=>z),⟨u,rfl⟩,q2⟩
 ·obtain⟨_,e1,e2⟩:=ZA.mp e
  obtain⟨s,e3,e4⟩:=ZA.mp e2
  obtain⟨i,e5,e6⟩:=ZC.mp e4
  cases iQ e3
  cases e6
  exact k2 r e1 λv H' s' z=>⟨s,i,z.str,e5,q _ H' s' (.int _)⟩
end
theorem xy:typeLookup (.type "dict") "__len__" =pure ⇑(.builtin "dict.__len__"):=PySem.F.slot_dict_len.lookup
section
variable{w:World}{S:Addr}{kvs:List (Str×Value)}{ep:Nat}
abbrev GG(prog:Program)(w:World)(kvs:List (Str×Value)):Nat->Value->Prop:=λi v=>∃k x,kvs[i]?=⇑(k,x)/\(strKind prog w).is k v=true
theorem GH{R:Result->Shared->Prop}(hh:A.handled=none)(hd:(d==sysModules)=false)(res:Value)(c0:Nat)(hS:s.heap.get? S=some {cls:=.type "list",data:=.seq #[] c0})(m:s.heap.DictAt (strKind prog w) d kvs ep)(ne:S≠d)
  (k:∀h' tk kj c',(∀b o,b≠S->s.heap.get? b=⇑o->h'.get? b=⇑o)->h'.get? S=some {cls:=.type "list",dict:=none,data:=.seq kj c',slots:=#[]}->ItemsOf (GG prog w kvs) kj kvs.length->R (.ok (.ret res)) {s with heap:=h',toks:=tk})(hn:kvs.length<=sizeLine):
  wpAny (model prog w) A.in1 (Builtin.List.listExtendWith (.ref S) (.ref d) res) (λfin s'=>match fin with|.done f=>R (.ok f) s'|.again c'=>c'.quiet=true/\codeAny (model prog w) A c' R s') (λe s'=>R (.error e) s') s:=by
 have ty:s.TypeIs (.ref d) "dict" :=m.dictOf.typeIs
 have lS:=ZN hS
 obtain⟨o,_,ho,_⟩:=id m
 have ld:=ZN ho
 unfold Builtin.List.listExtendWith
 refine UV (wpAny_typeOf ty ?_)
 have f1:Builtin.List.listSameRef (.ref S) (.ref d)=false:=by simp[Builtin.List.listSameRef,ne]
 have f2:(Value.type "dict" ==Value.type "list")=false:=by decide
 have f3:(Value.type "dict" ==Value.type "tuple")=false:=by decide
 simp only[f1,f2,f3,Bool.or_false,YL,if_false]
 refine UV (wpAny_pyIter_dict hd m ?_)
 have up:∀b ob,s.heap.get? b=⇑ob->(s.heap.push {cls:=.type "dict_keyiterator",data:=.fields #[.ref d,.int 0 0,.int kvs.length 0,.int ep 0]}).get? b=⇑ob:=λb ob e=>ZE _ e
 have st:(s.heap.push {cls:=.type "dict_keyiterator",data:=.fields #[.ref d,.int 0 0,.int kvs.length 0,.int ep 0]}).IsKeyIter ↥s d 0 kvs.length ep:=⟨_,ZR _ rfl,rfl,rfl⟩
 have m1:=m.at' λob e=>up d ob e
 refine UV (KM ?_)
 unfold Builtin.List.listLengthHint
 have T9:Shared.TypeIs {s with heap:=s.heap.push {cls:=.type "dict_keyiterator",data:=.fields #[.ref d,.int 0 0,.int kvs.length 0,.int ep 0]}} (.ref d) "dict" :=m1.dictOf.typeIs
 refine UV (wpAny_specialOf T9 xy ?_)
 wp_delta
 refine UV (wpAny_isInstance (b:=true) T9 (by rw[isSubtype_type];kernel_rfl) ?_)
 show wpAny _ _ (typeOf (Value.ref d)>>=_) _ _ _
 refine UV (wpAny_typeOf T9 (SB ?_))
 rw[W1 ∅]
 have W:=(Walks.dictKeys (prog:=prog) (w:=w) (knd:=strKind prog w) (A:=A.in1) hh ↥s d (Ze ld) kvs ep).toS
 have nf:S∉[↥s,d]:=by
  simp only[Zc,List.not_mem_nil,or_false]
  exact λz=>z.elim (Ze lS) ne
 refine UV (wpAny_rule (UV ?_))
 show wpAny _ A.in1 (updateSeq S (·.push .none)>>=λ_=>updateSeq S (·.pop)) _ _ _
 refine UV (wpAny_updateSeq (up _ _ hS) rfl ?_)
 have g2:=Yl (Obj.mapSeq (·.push Value.none)) (up _ _ hS) rfl
 refine wpAny_updateSeq (hz:=by seq_fits) g2 rfl ?_
 have g3:=Yl (Obj.mapSeq (·.pop)) g2 rfl
 generalize hH:((s.heap.push {cls:=.type "dict_keyiterator",data:=.fields #[.ref d,.int 0 0,.int kvs.length 0,.int ep 0]}).update S (Obj.mapSeq (·.push Value.none))).update S (Obj.mapSeq (·.pop))=H3 at g3⊢
 have Pd:∀b ob,b≠S->(s.heap.push {cls:=.type "dict_keyiterator",data:=.fields #[.ref d,.int 0 0,.int kvs.length 0,.int ep 0]}).get? b=⇑ob->H3.get? b=⇑ob:=λb ob hb e=>by
  rw[<-hH]
  exact(YI _ _ (Ne.symm hb)).trans ((YI _ _ (Ne.symm hb)).trans e)
 refine SB ⟨plainId_quiet F.plain_extend_loop _,codeAny_extend_loopS W hn _ nf _ kvs.length 0 _ _ _ rfl (Zm _) ⟨st.at λob e=>Pd _ ob (YJ lS) e,m1.at' λob e=>Pd _ ob ne.symm e⟩ g3 (ItemsOf.nil _) λs' kj c' hm QN DK=>?_⟩
 rw[Moved.eq_with hm]
 refine k s'.heap s'.toks kj c' (λb ob hb e=>hm.heap b ob (λz=>?_) (Pd b ob hb (up b ob e))) QN DK
 rcases Zc.mp z with z|z
 ·exact hb z
 ·exact absurd (ZN e) (by rw[Zl.mp z];exact Zn _)
theorem DL{R:Result->Shared->Prop}(hh:A.handled=none)(hd:(d==sysModules)=false)(hS:s.heap.get? S=some {cls:=.type "list",data:=.seq #[]})(m:s.heap.DictAt (strKind prog w) d kvs ep)(ne:S≠d)
  (k:∀h' tk kj c',(∀b o,b≠S->s.heap.get? b=⇑o->h'.get? b=⇑o)->h'.get? S=some {cls:=.type "list",dict:=none,data:=.seq kj c',slots:=#[]}->ItemsOf (GG prog w kvs) kj kvs.length->R (.ok (.ret .none)) {s with heap:=h',toks:=tk})(hn:kvs.length<=sizeLine):
  wpAny (model prog w) A.in1 (Builtin.«list.__init__» ⟨[.ref S,.ref d],[]⟩) (λfin s'=>match fin with|.done f=>R (.ok f) s'|.again c'=>c'.quiet=true/\codeAny (model prog w) A c' R s') (λe s'=>R (.error e) s') s:=by
 show wpAny _ _ (Builtin.List.listItems (.ref S)>>=λold=>Builtin.List.listUpdate (.ref S) (λ_=>#[])>>=λ_=>letGo old.toList.reverse>>=λ_=>Builtin.List.listExtendWith (.ref S) (.ref d) .none) _ _ s
 refine UV ?_
 unfold Builtin.List.listItems
 refine UV (wpAny_seqItems hS rfl (SB ?_))
 show wpAny _ _ (updateSeq S (λ_=>#[])>>=λ_=>letGo (#[]:Array Value).toList.reverse>>=λ_=>Builtin.List.listExtendWith (.ref S) (.ref d) .none) _ _ s
 refine UV (wpAny_updateSeq hS rfl ?_)
 have Pd:∀b o,b≠S->s.heap.get? b=⇑o->(s.heap.update S (Obj.mapSeq (λ_=>(#[]:Array Value)))).get? b=⇑o:=λb o hb e=>(YI _ _ (Ne.symm hb)).trans e
 refine UV (wpAny_letGo (GH hh hd .none _ (Yl (Obj.mapSeq (λ_=>(#[]:Array Value))) hS rfl) (m.at' λo e=>Pd d o ne.symm e) ne (λh' tk kj c' hk QN DK=>?_) hn))
 exact k h' tk kj c' (λb o hb e=>hk b o hb (Pd b o hb e)) QN DK
theorem list_dict{Q:Value->Shared->Prop}(hh:A.handled=none)(hd:(d==sysModules)=false)(m:s.heap.DictAt (strKind prog w) d kvs ep)(hn:kvs.length<=sizeLine)
  (k:∀h' tk kj c',(∀b o,s.heap.get? b=⇑o->h'.get? b=⇑o)->h'.get? ↥s=some {cls:=.type "list",dict:=none,data:=.seq kj c',slots:=#[]}->ItemsOf (GG prog w kvs) kj kvs.length->Q (.ref ↥s) {s with heap:=h',toks:=tk}):
  wpAny (model prog w) A (call (.type "list") [.ref d]) Q E s:=by
 obtain⟨o,_,ho,_⟩:=id m
 have ld:=ZN ho
 refine callType_codes (Q₁:=λobj s₁=>obj=.ref ↥s/\s₁={s with heap:=s.heap.push {cls:=.type "list",data:=.seq #[]}}) F.called_list (F.typeCall_list_1 _) F.entry_list_init (code_list_new _ ⟨rfl,rfl⟩) λobj s₁ h₁=>?_
 obtain⟨rfl,rfl⟩:=h₁
 have hS:(s.heap.push {cls:=.type "list",data:=.seq #[]}).get? ↥s=some {cls:=.type "list",data:=.seq #[]}:=ZR _ rfl
 refine⟨⟨_,hS,rfl⟩,F.args_list_init_2 _ _,DL (A:=A.in1) hh hd hS (m.at' λo e=>ZE _ e) (YJ ld) (λh' tk kj c' hk QN DK=>?_) hn⟩
 exact⟨rfl,k h' tk kj c' (λb o e=>hk b o (Ze (ZN e)) (ZE _ e)) QN DK⟩
end
def qS:List DictEntry->List (Str×Int)->List (Str×Value)
 |e::es,(k,_)::kvs=>(k,e.val)::qS es kvs
 |_,_=>[]
theorem ou.pairs{prog:Program}{w:World}:∀{es:List DictEntry} {kvs:List (Str×Int)},ou P es kvs->Pairs (strKind prog w) es (qS es kvs)/\(qS es kvs).map (·.1)=kvs.map (·.1)
 |[],[],_=>⟨.nil,rfl⟩
 |e::es,(k,i)::kvs,⟨⟨t,u,eq⟩,h⟩=>by
  obtain⟨a,b⟩:=h.pairs (prog:=prog) (w:=w)
  refine⟨.cons (kv:=(k,e.val)) ?_ rfl a,by show k::_=k::_;rw[b]⟩
  subst eq
  exact strKind_is prog w k t
section
variable{p0 p:Pos}
theorem Kf(I:Inv X pins σ H s)(hk:X.K.lookup d=⇑⟨.type "dict",none,.dict es n,#[]⟩)(he:ou X.w.params es.toList kvs)(nd:(kvs.map (·.1)).Nodup):s.heap.DictAt (strKind X.prog X.w) d (qS es.toList kvs) n:=by
 obtain⟨a,b⟩:=he.pairs (prog:=X.prog) (w:=X.w)
 refine⟨_,es,I.lE _ _ hk,⟨rfl,rfl,rfl⟩,rfl,λe hm=>?_,a,by rw[b];exact nd⟩
 obtain⟨k,t,e1,e2⟩:=he.lit.all e (Yn.mpr hm)
 exact⟨k,by rw[e1];exact strKind_is X.prog X.w k t,e2⟩
theorem DM{w:World}{k:Str}{v:Value}(h:(strKind prog w).is k v=true):∃t,v=.str k t:=by
 have h:Value.isStrOf k v=true:=h
 cases v with
 |str s t=>
  have h:(s==k)=true:=h
  exact⟨t,by rw[KB.mp h]⟩
 |_=>cases h
theorem ud:∀{us:List Value} {ks:List Str},us.length=ks.length->(∀(j:Nat) (v:Value),us[j]?=⇑v->∃k t,ks[j]?=⇑k/\v=Value.str k t)->Vals (ks.map V.str) us
 |[],[],_,_=>.nil
 |[],_::_,h,_=>by cases h
 |_::_,[],h,_=>by cases h
 |u::us,k::ks,h,f=>by
  obtain⟨_,t,e1,e2⟩:=f 0 u rfl
  cases e1
  exact .cons ⟨t,e2⟩ (ud (Nat.succ.inj h) λj v e=>f (j+1) v e)
theorem zN(hc:X.calm=true)(hk:X.K.lookup d=⇑⟨.type "dict",none,.dict es n,#[]⟩)(he:ou X.w.params es.toList kvs)(hd:(d==sysModules)=false)(nd:(kvs.map (·.1)).Nodup)(hl:kvs.length<=1000):
  fM X (.type "list") (λxs H Q=>xs=[.ref d]/\∀l,H l=none->Q (.ref l) (upd H l (.lst ((kvs.map (·.1)).map V.str)))):=by
 intro _ s _ H xs _ Q I r h
 obtain⟨rfl,q⟩:=h
 obtain⟨u,rfl,rx⟩:=vals1 r
 cases rx
 obtain⟨_,pk⟩:=he.pairs (prog:=X.prog) (w:=X.w)
 have pl:(qS es.toList kvs).length=kvs.length:=by
  have:=congrArg List.length pk
  simpa using this
 have zl:(1000:Nat)<=sizeLine:=by decide
 refine list_dict (I.ok.hd hc) hd (Kf I hk he nd) ⋯ λh' tk acc c kp e hi=>?_
 have hv:Vals ((kvs.map (·.1)).map V.str) acc.toList:=by
  refine ud ?_ λj v ej=>?_
  ·rw[ZQ,hi.1,pl,ZD]
  ·obtain⟨k,y,e1,e2⟩:=hi.2 j v (by simpa using ej)
   obtain⟨t,e3⟩:=DM e2
   refine⟨k,t,?_,e3⟩
   rw[<-pk,Za,e1]
   rfl
 refine⟨.ref ↥s,_,I.laid (t':=tk) kp (ZK _) (show cZ X.prog X.w _ h' _ (.lst ((kvs.map (·.1)).map V.str))from⟨?_,acc.toList,c,hv,e⟩),rfl,q _ (I.cD.fresh (ZK _))⟩
 rw[ZD,ZD]
 omega
theorem GI(D:Ke X.w.params X.K X.mg x kvs)(nd:(kvs.map (·.1)).Nodup)(hl:kvs.length<=1000)(hm:X.mg "list" =none)(hg:Gl X "list" :=by rfl)(N1:Gl X x:=by rfl)(hx:gz x:=by decide)(hc:X.calm=true:=by rfl)(hs:starEach [.Name x p0] X.env=(false,eval (.Name x p0) X.env)::starEach [] X.env:=by rfl):
  DO X κ (.Call (.Name "list" p) [.Name x p0] [] pos) (dC (.lst ((kvs.map (·.1)).map PV.str))):=by
 obtain⟨d,_,n,h1,h2,h3,h4⟩:=D
 refine⟨_,g0 (zN hc h2 h3 h4 nd hl) hg hm PyProof.Rows.boot_list (aN (kR (v:=.ref d) N1 h1 rfl hx) bx hs) (he:=hs),λ{G A _ _ _ _ H p Q} r e q=>?_⟩
 cases e
 refine⟨rfl,λD hD=>?_⟩
 refine q _ _ (bL hD) ?_
 obtain⟨a,ws,l,w1,w2,_,w4⟩:=r.sQ hD (qR (κ:=κ) (kvs.map (·.1)))
 refine⟨a,ws,l,w1,w2,?_,w4⟩
 cases w1
 exact hD
end
structure Rg where
 ws:List PV
 sg:Str
abbrev gE:List Str:=["roll","entered","rulings","absences","deputings"]
def fK(c:Nat):List Str:=if c=4 then["words","signs","at"]else if c=5 then gE else Pb c
def zO(t:Rg)(n:Int):PV:=.ins 4 [.lst t.ws,.str t.sg,.int n]
abbrev qo(κ:Kl)(dx:Addr)(vw:V)(t:Rg)(n:Int):HO:=.ins (κ.adr 4) dx [(("words" :Str),vw),(("signs" :Str),.str t.sg),(("at" :Str),.int n)]
def A1(A:Addr->Prop)(x:Addr):Addr->Prop:=λb=>A b\/b=x
def hU(x:Addr):Addr->Prop:=λb=>b=x
def wQ(t:Rg)(n:Int)(ρ:bU):bU:=ρ.set 0 (.sh (zO t n))
structure RQ(K:aX)(κ:Kl)(G:Hp)(A:Addr->Prop)(x dx:Addr)(vw:V)(t:Rg)(n:Int)(own:Nat->Addr)(ρ:bU)(σ:St)(H:Hp):Prop where
 r:R K κ (upd G x (qo κ dx vw t n)) (A1 A x) (λ_=>none) own ρ σ H
 self:σ[0]?=⇑(some (.ref x))
 zero:ρ[0]?=some .un
 wsr:Rep K κ (hide (A1 A x) G) vw (.lst t.ws)
 na:¬A x
 gx:G x≠none
variable{G:Hp}
section
variable{K:aX}{H':Hp}{A:Addr->Prop}{x dx:Addr}{vw:V}{t:Rg}{n n':Int}{own:Nat->Addr}{ρ:bU}
theorem RQ.ob(r:RQ K κ G A x dx vw t n own ρ σ H):H x=⇑(qo κ dx vw t n):=r.r.same x _ aF
theorem RQ.mono(r:RQ K κ G A x dx vw t n own ρ σ H)(s:aA H H'):RQ K κ G A x dx vw t n own ρ σ H':=⟨r.r.mono s,r.self,r.zero,r.wsr,r.na,r.gx⟩
theorem dX{x b:Addr}{o:HO}(h:upd G x o b=none):b≠x/\G b=none:=by
 by_cases e:b=x
 ·subst e
  rw[aF]at h
  cases h
 ·rw[au e]at h
  exact⟨e,h⟩
theorem fX{b:Addr}{o:HO}(s:aA (hide (hU x) H) (hide (hU x) H'))(ne:b≠x)(h:H b=⇑o):H' b=⇑o:=by
 have e:hide (hU x) H b=⇑o:=by rw[aK (show¬hU x b from ne)];exact h
 exact(aI (s b o e)).2
theorem RQ.turn(r:RQ K κ G A x dx vw t n own ρ σ H)(s:aA (hide (hU x) H) (hide (hU x) H'))(e:H' x=⇑(qo κ dx vw t n')):RQ K κ G A x dx vw t n' own ρ σ H':=by
 have sS:aA (cA (A1 A x) own ρ H) (cA (A1 A x) own ρ H'):=λb o h=>by
  obtain⟨nb,hb⟩:=aI h
  have ne:b≠x:=λz=>nb (.inl (.inr z))
  rw[cA,aK nb]
  exact fX s ne hb
 refine⟨⟨λb h=>?_,λi a vs e=>(by cases e),λb o h=>?_,λi p h=>?_,λi l h=>?_,r.r.inj,λi l h=>?_,r.r.len⟩,r.self,r.zero,r.wsr,r.na,r.gx⟩
 ·intro z
  obtain⟨ne,z⟩:=dX z
  have:=r.r.al b h
  rw[au ne]at this
  exact this z
 ·by_cases ne:b=x
  ·subst ne
   rw[aF]at h
   cases h
   exact e
  ·rw[au ne]at h
   exact fX s ne (r.r.same b o (by rw[au ne];exact h))
 ·obtain⟨v,h1,h2⟩:=r.r.sh i p h
  exact⟨v,h1,h2.mono sS⟩
 ·obtain⟨h1,h2,vs,h3,h4⟩:=r.r.ow i l h
  obtain⟨ne,h2⟩:=dX h2
  exact⟨h1,by rw[au ne];exact h2,vs,fX s ne h3,h4.mono sS⟩
 ·obtain⟨a,vs,z,_⟩:=r.r.bw i l h
  cases z
theorem RQ.rd(hf:κ.fld 4=[("words" :Str),("signs" :Str),("at" :Str)])(r:RQ K κ G A x dx vw t n own ρ σ H):R K κ (upd G x (qo κ dx vw t n)) A (λ_=>none) own (wQ t n ρ) σ H:=by
 have h0:0<ρ.length:=(ZL.mp r.zero).1
 have at_:∀{i:Nat} {s:Slot},(wQ t n ρ)[i]?=⇑s->(i=0/\s=.sh (zO t n))\/(i≠0/\ρ[i]?=⇑s):=λ{i s} e=>by
  unfold wQ at e
  by_cases hi:0=i
  ·subst hi
   rw[ZO,W1 rfl,W1 h0]at e
   exact .inl ⟨rfl,(ZX e).symm⟩
  ·rw[Zj hi]at e
   exact .inr ⟨Ne.symm hi,e⟩
 have AR:∀{b:Addr},vc own (wQ t n ρ) b->(upd G x (qo κ dx vw t n)) b=none/\vc own ρ b:=λ{b} h=>by
  obtain⟨j,m,h1,h2⟩:=h
  rcases at_ h1 with⟨_,z⟩|⟨_,z⟩
  ·cases z
  ·refine⟨?_,j,m,z,h2⟩
   rw[<-h2]
   exact(r.r.ow j m z).2.1
 have sS:aA (cA (A1 A x) own ρ H) (cA A own (wQ t n ρ) H):=bW (λ_ _ z=>z) λb h _=>h.elim (λz=>.inl (.inl z)) λz=>.inr (AR z).2
 refine⟨λb h=>r.r.al b (.inl h),λi a vs e=>(by cases e),r.r.same,λi p h=>?_,λi l h=>?_,λi j l m h1 h2=>?_,λi l h=>?_,?_⟩
 ·rcases at_ h with⟨h1,h2⟩|⟨h1,h2⟩
  ·subst h1
   cases h2
   refine⟨_,r.self,.ins (c:=4) (vs:=[vw,.str t.sg,.int n]) (dx:=dx) ?_ (by rw[hf];rfl) (.cons (r.wsr.mono λb o hb=>?_) (.cons (.str _) (.cons (.int _) .nil)))⟩
   ·rw[cA,aK λz=>?_,r.ob,hf]
    ·rfl
    ·rcases z with z|z
     ·exact r.na z
     ·have:=(AR z).1
      rw[aF]at this
      cases this
   ·obtain⟨nb,hb⟩:=aI hb
    have ne:b≠x:=λz=>nb (.inr z)
    have hu:upd G x (qo κ dx vw t n) b=⇑o:=by rw[au ne];exact hb
    rw[cA,aK λz=>?_]
    ·exact r.r.same b o hu
    ·rcases z with z|z
     ·exact nb (.inl z)
     ·rw[(AR z).1]at hu
      cases hu
  ·obtain⟨v,g1,g2⟩:=r.r.sh i p h2
   exact⟨v,g1,g2.mono sS⟩
 ·rcases at_ h with⟨_,z⟩|⟨_,z⟩
  ·cases z
  ·obtain⟨h1,h2,vs,h3,h4⟩:=r.r.ow i l z
   exact⟨h1,h2,vs,h3,h4.mono sS⟩
 ·rcases at_ h1 with⟨_,z⟩|⟨_,z⟩
  ·cases z
  ·rcases at_ h2 with⟨_,y⟩|⟨_,y⟩
   ·cases y
   ·exact r.r.inj i j l m z y
 ·rcases at_ h with⟨_,z⟩|⟨_,z⟩
  ·cases z
  ·obtain⟨a,vs,y,_⟩:=r.r.bw i l z
   cases y
 ·unfold wQ
  rw[Zo]
  exact r.r.len
theorem RQ.set(r:RQ K κ G A x dx vw t n own ρ σ H){i:Nat}(hi:i≠0){v:V}(z:Rep K κ (cA (A1 A x) own ρ H) v p):RQ K κ G A x dx vw t n own (ρ.set i (.sh p)) (σ.set i ⇑v) H:=
 ⟨r.r.set z,by rw[Zj hi];exact r.self,by rw[Zj hi];exact r.zero,r.wsr,r.na,r.gx⟩
end
end L2.D
namespace L2
open PySem PySem.Spec PyProof.Rows PySem.SeqAt
def xA{κ β:Type}[DecidableEq κ](kvs:List (κ×β))(k:κ):List (κ×β):=kvs.filter λkv=>decide (kv.1≠k)
def QO:V->List V->Hp->VK->Prop:=λx vs H Q=>∃a kvs i v,x=.ref a/\vs=[.int i]/\H a=⇑(.dK kvs)/\m6 kvs (.inl i)=⇑v/\Q v (upd H a (.dK (xA kvs (.inl i))))
variable{kvs:List (Key×V)}{vs:List (Key×Value)}
theorem KV.drop(r:KV kvs vs)(k:Key):KV (xA kvs k) (without vs k):=by
 induction r with
 |nil=>exact .nil
 |@cons p q l m h r ih=>
  unfold xA without
  rw[Z9,Z9]
  have e:p.1=q.1:=h.1
  rw[e]
  split
  ·exact .cons h ih
  ·exact ih
variable{X:Cx}
theorem Kg:Te X "dict.pop" QO:=by
 intro _ s _ H x _ v _ Q I rx rv h
 obtain⟨a,kvs,i,y,rfl,rfl,hH,hv,q⟩:=h
 cases rx
 obtain⟨u,rfl,ru⟩:=rv.one
 obtain⟨z,hd,ws,rel,dd⟩:=Bp I.cD hH
 have ro:=rel.val (.inl i)
 rw[hv]at ro
 cases hw:valueAt ws (.inl i)with
 |none=>rw[hw]at ro;exact ro.elim
 |some y'=>
  rw[hw]at ro
  obtain⟨t,rfl⟩:=(show∃t,u=Value.int i t from ru)
  refine call_meetsIn F.slot_dict_pop dd.typeIs F.entry_dict_pop (F.args_dict_pop_2 _ _) (meets_dict_pop_there (cP X.prog X.w) a (k:=.inl i) (Bo (k:=.inl i) ⟨t,rfl⟩) [] (.inl rfl) rfl) ⟨ws,y',dd,by rw[<-rel.length];exact z,hw,λh' NK hs=>?_⟩
  have hl:(xA kvs (.inl i)).length<=sizeLine:=Zd (YT _ _) z
  have he:∃q,h'.get? a=⇑q:=let⟨q,_,_,hq,_⟩:=NK;⟨q,hq⟩
  exact⟨y,_,ng I (by rw[hH];exact True.intro) hs he (Gb hl hd (rel.drop (.inl i)) NK),ro,q⟩
abbrev lI(d:Addr)(o:Obj):HO:=.ext λh=>h.get? d=⇑o
def QP(d:Addr)(o:Obj)(kvs:List (Key×V)):It:=⟨λi H=>H d=⇑(lI d o)/\i<kvs.length,λi H x H'=>H'=H/\∃k,kvs[i]?=⇑(k,x),λi H=>H d=⇑(lI d o)/\kvs.length<=i⟩
theorem KV.get:∀{kvs:List (Key×V)} {vs:List (Key×Value)} (r:KV kvs vs) {i:Nat} (h:i<kvs.length),∃k x u,kvs[i]?=⇑(k,x)/\vs[i]?=⇑(k,u)/\RelV x u:=λ{kvs vs} r=>by
 induction r with
 |nil=>intro i h;cases h
 |@cons p q l m h r ih=>
  intro i hi
  cases i with
  |zero=>exact⟨p.1,p.2,q.2,rfl,by rw[h.1];rfl,h.2⟩
  |succ i=>exact ih (Nat.lt_of_succ_lt_succ hi)
variable{tg:Expr}{d:Addr}
theorem DN{P:Program}{w:World}{K:aX}{it:Addr}{o:Obj}{ep:Nat}(rel:KV kvs vs)(QQ:∀h:Heap,h.get? d=⇑o->h.DictAt (cP P w) d vs ep):
  Turn P w K tg (QP d o kvs) [it] it (λi h=>h.IsValIter it d i vs.length ep) where
 mem:=by simp
 obj:=λi h st b hb=>by
  rw[Zl.mp hb]
  obtain⟨_,e1,c1,d1⟩:=st
  exact⟨_,e1,λv q=>by rw[d1]at q;cases q⟩
 keep:=λi h h' st k=>st.at λo e=>k _ (by simp) o e
 item:=by
  intro X hP hw hK hc i _ s _ H E I hf st hg
  subst hP hw hK
  obtain⟨hd,hi⟩:=hg
  have φ:=(I.cD d _ hd).1
  obtain⟨k,x,u,e1,e2,r⟩:=rel.get hi
  refine wpAny_pyNext_values_item st (QQ _ φ) e2 λh' tH hs=>⟨u,rfl,?_⟩
  obtain⟨_,g1,c1,d1⟩:=id tH
  exact wD (s:={s with heap:=h'}) g1 c1 d1 ∅ ⟨x,H,I.vk (t':=s.toks) (ch:=[it]) (λb o hb q=>(hs.2 b λz=>hb (by rw[z];simp)).trans q) λb hb=>hf b hb,r,⟨rfl,k,e1⟩,tH,λb hb=>(hf b hb).1⟩
 done:=by
  intro X hP hw hK hc i _ s _ H E I hf st hg
  subst hP hw hK
  obtain⟨hd,hi⟩:=hg
  have φ:=(I.cD d _ hd).1
  refine wpAny_pyNext_values_end (I.ok.hd hc) st (QQ _ φ) (YC (by rw[<-rel.length];exact hi)) λh' k=>⟨rfl,I.vk (t':=s.toks) (ch:=[it]) (λb o hb q=>?_) λb hb=>hf b hb⟩
  exact k b o (λz=>hb (by rw[z];simp)) q
 self:=λ_ _ _ _ _ st h=>wpAny_pyIter_valiter st h
abbrev zP(v d:Addr):HO:=.ext λh=>h.IsValuesView v d
def N2:V->List V->Hp->VK->Prop:=λx vs H Q=>∃d kvs,x=.ref d/\vs=[]/\H d=⇑(.dK kvs)/\∀v,H v=none->Q (.ref v) (upd H v (zP v d))
variable{g:TG}{tb:TS}
section
theorem GJ:Te X "dict.values" N2:=by
 intro _ s _ H x _ v _ Q I rx rv h
 obtain⟨d,_,rfl,rfl,hH,q⟩:=h
 cases rx
 cases rv
 obtain⟨z,hd,ws,_,dd⟩:=Bp I.cD hH
 refine call_meetsIn F.slot_dict_values dd.typeIs F.entry_dict_values (F.args_dict_values_1 _) (meets_dict_values (cP X.prog X.w) d hd) ⟨⟨ws,dd⟩,?_⟩
 have hn:H ↥s=none:=I.cD.fresh (ZK _)
 refine⟨.ref ↥s,_,I.laid (t':=s.toks) (λb u e=>ZE _ e) (ZK _) ?_,rfl,q _ hn⟩
 exact⟨⟨_,ZR _ rfl,rfl,rfl⟩,⟨_,ZR _ rfl⟩,λ_ _ ⟨o,ho,r⟩ k=>⟨o,k o ho,r⟩⟩
def Vl(X:Cx)(d:Addr)(o:Obj)(kvs:List (Key×V)):Prop:=∀(h:Heap) (H:Hp),h.get? d=⇑o->cZ X.prog X.w H h d (.dK kvs)
def LX(X:Cx)(te:TE):TI:=λσ H R=>te σ H λx H1=>∃v d kvs,x=.ref v/\H1 v=⇑(zP v d)/\H1 d=⇑(.dK kvs)/\∀o,Vl X d o kvs->R (QP d o kvs) (upd H1 d (lI d o))
variable{e:Expr}{te:TE}
theorem Kh(he:PE X e te):PI X tg e (LX X te):=by
 intro pins s σ H R I h
 refine cx (he pins s σ H _ I h) λv s1 b9=>?_
 obtain⟨x,_,I1,r1,q1⟩:=b9
 obtain⟨vw,d,_,rfl,hv,hd,q⟩:=q1
 cases r1
 obtain⟨z,hs,ws,rel,dd⟩:=Bp I1.cD hd
 obtain⟨ep,QQ⟩:=dd.dictAt
 obtain⟨o,es,ho,hr⟩:=id QQ
 have Ua:∀h:Heap,h.get? d=⇑o->h.DictAt (cP X.prog X.w) d ws ep:=λh e=>⟨o,es,e,hr⟩
 refine wpAny_pyIter_values (I1.cD vw _ hv).1 QQ ?_
 have I2:=I1.kept (t':=s1.toks) (h':=s1.heap.push {cls:=.type "dict_valueiterator",data:=.fields #[.ref d,.int 0 0,.int ws.length 0,.int ep 0]}) λb u e=>ZE _ e
 have LD:=ZE (h:=s1.heap) {cls:=.type "dict_valueiterator",data:=.fields #[.ref d,.int 0 0,.int ws.length 0,.int ep 0]} ho
 have I3:=ng (t':=s1.toks) (ob:=lI d o) I2 (by rw[hd];exact True.intro) ⟨rfl,λb _=>rfl⟩ ⟨o,LD⟩ ⟨LD,⟨o,LD⟩,λ_ _ a k=>k o a⟩
 refine⟨_,[↥s1],_,_,_,rfl,I3,DN rel Ua,⟨_,ZR _ rfl,rfl,rfl⟩,λb hb=>?_,q o λh _ e=>⟨z,hs,ws,rel,o,es,ep,e,hr⟩⟩
 rw[Zl.mp hb]
 refine I1.CN (ZK _) ?_
 rw[au (YJ (ZN ho))]
 exact I1.cD.fresh (ZK _)
def Ub(X:Cx)(D:Ends):Ends:={nx:=λσ H=>∃d o kvs,H d=⇑(lI d o)/\Vl X d o kvs/\D.nx σ (upd H d (.dK kvs)),rt:=λ_ _=>False}
def QR(X:Cx)(te:TE)(g:TG)(tb:TS):TS:=λD σ H=>PH (LX X te) g tb (Ub X D) σ H
theorem Ki{body:List Stmt}{pos:Pos}(hp:PassesOwn (model X.prog X.w) X.A X.env X.xe)(hc:X.calm=true)(he:PE X e te)(hg:PG X tg g)(hb:sL X body tb)
  (hs:∀x,foldedSetIterable e X.env x=pure x:=by intro _;rfl):PS X (.For tg e body [] pos) (QR X te g tb):=by
 intro pins s σ H D I h
 refine cx (za hp hc (Kh he) hg hb hs pins s σ H _ I h) λf s' q=>?_
 cases f with
 |next=>
  obtain⟨σ',_,I',d,o,kvs,hd,hk,q⟩:=q
  have ho:=(I'.cD d _ hd).1
  exact⟨σ',_,ng (t':=s'.toks) (ob:=.dK kvs) I' (by rw[hd];exact True.intro) ⟨rfl,λb _=>rfl⟩ ⟨o,ho⟩ (hk _ _ ho),q⟩
 |brk=>obtain⟨σ',_,I',q⟩:=q;exact q.elim
 |cont=>obtain⟨σ',_,I',q⟩:=q;exact q.elim
 |ret u=>obtain⟨v,σ',_,I',r,q⟩:=q;exact q.elim
theorem GK{o:Obj}{D:Ends}{σ:St}{H:Hp}(Pv:Nat->St->Hp->Prop)(h0:Pv 0 σ H)(hl:∀i σ H,Pv i σ H->H d=⇑(lI d o))
  (hs:∀i k x σ H,kvs[i]?=⇑(k,x)->Pv i σ H->g x σ H λσ2 H2=>tb {D with nx:=Pv (i+1),ct:=Pv (i+1),bk:=D.nx} σ2 H2)(hd:∀σ H,Pv kvs.length σ H->D.nx σ H):
  ∃W:Nat->Nat->St->Hp->Prop,(∃m,W 0 m σ H)/\∀i m σ H,W i m σ H->
   ((QP d o kvs).stop i H/\D.nx σ H)\/((QP d o kvs).go i H/\∃N:St->Hp->Prop,(∀σ' H',N σ' H'->∃m',m'<m/\W (i+1) m' σ' H')/\∀x H',(QP d o kvs).yld i H x H'->g x σ H' λσ2 H2=>tb {D with nx:=N,ct:=N,bk:=D.nx} σ2 H2):=by
 refine⟨λi m σ H=>m=kvs.length-i/\i<=kvs.length/\Pv i σ H,⟨kvs.length,by simp,Zm _,h0⟩,?_⟩
 rintro i m σ H ⟨rfl,_,p⟩
 have q:=hl i σ H p
 by_cases jX:i<kvs.length
 ·refine .inr ⟨⟨q,jX⟩,Pv (i+1),λσ' H' p'=>⟨kvs.length-(i+1),⋯,rfl,jX,p'⟩,λx H' y=>?_⟩
  obtain⟨e,k,y⟩:=y
  subst e
  exact hs i k x σ _ y p
 ·obtain rfl:i=kvs.length:=by omega
  exact .inl ⟨⟨q,ZK _⟩,hd σ H p⟩
end
end L2
namespace L2.D
open PySem PySem.Spec PyProof.Rows PySem.SeqAt
open Classical
def plain:Nat->PV->Bool
 |_,.non=>true
 |_,.bl _=>true
 |_,.int _=>true
 |_,.str _=>true
 |n+1,.lst l=>l.all (plain n)
 |n+1,.tup l=>l.all (plain n)
 |_,_=>false
variable{κ:Kl}{H:Hp}{kvs:List (Key×V)}
section
variable{K:aX}{d:Addr}
theorem aL.qT{P:PV->Bool}(h:∀v p,P p=true->Rep K κ H v p->Rep K κ (hide (hU d) H) v p):∀{vs:List V} {l:List PV},l.all P=true->aL K κ H vs l->aL K κ (hide (hU d) H) vs l
 |_,_,_,.nil=>.nil
 |_,_,a,.cons r t=>by
  rw[YH,ZS]at a
  exact .cons (h _ _ a.1 r) (aL.qT h a.2 t)
theorem xB{a:Addr}{u:HO}(hd:H d=⇑(.dK kvs))(hu:∀k,u≠.dK k)(h:Rd H a u):Rd (hide (hU d) H) a u:=by
 have ne:∀{o:HO},H a=⇑o->(∀k,o≠.dK k)->hide (hU d) H a=⇑o:=λ{o} e n=>by
  refine(aK (A:=hU d) λz=>?_).trans e
  rw[show a=d from z,hd]at e
  cases e
  exact n _ rfl
 rcases h with h|⟨o,h⟩
 ·exact .inl (ne h hu)
 ·exact .inr ⟨o,ne h λk z=>by cases z⟩
theorem Rep.apart(hd:H d=⇑(.dK kvs)):∀(n:Nat) (v:V) (p:PV),plain n p=true->Rep K κ H v p->Rep K κ (hide (hU d) H) v p
 |n,v,p,hp,r=>by
  cases r with
  |non=>exact .non
  |bl b=>exact .bl b
  |int i=>exact .int i
  |str x=>exact .str x
  |lst h q=>
   cases n with
   |zero=>cases hp
   |succ n=>exact .lst (h.elim (λh=>.inl (xB hd (λk z=>by cases z) h)) .inr) (aL.qT (λv p=>Rep.apart hd n v p) hp q)
  |tup h q=>
   cases n with
   |zero=>cases hp
   |succ n=>exact .tup (h.elim (λh=>.inl (xB hd (λk z=>by cases z) h)) .inr) (aL.qT (λv p=>Rep.apart hd n v p) hp q)
  |ins _ _ _=>cases n<;>cases hp
  |dct _ _ _=>cases n<;>cases hp
end
def nj:PV->PV->Option PV
 |.int k,.dct ks _=>⇑(.bl (decide (k∈ks)))
 |_,_=>none
theorem nq{k:Int}:∀{ks:List Int} {vs:List V},ks.length=vs.length->(m6 ((ks.map (Sum.inl:Int->Key)).zip vs) (.inl k)).isSome=decide (k∈ks)
 |[],[],_=>rfl
 |[],_::_,h=>by cases h
 |_::_,[],h=>by cases h
 |j::ks,v::vs,h=>by
  rw[ZV,Z6]
  by_cases e:j=k
  ·subst e
   rw[m9 rfl]
   simp
  ·rw[nc (λz=>e (Sum.inl.inj z)),nq (Nat.succ.inj h),decide_eq_decide,Zc]
   exact⟨.inr,λz=>z.resolve_left λw=>e w.symm⟩
variable{X:Cx}{fa:Den}
variable{a b:Expr}{fb:Den}
theorem DU(hu:X.A.units+1<cLine):iM X (compareOp .In) (λy x H Q=>∃d o,x=.ref d/\F9 H d y o/\Q (.bl o.isSome) H):=by
 intro _ s _ H y x v u Q I ry rx h
 obtain⟨d,o,rfl,g,q⟩:=h
 obtain rfl:u=Value.ref d:=rx
 exact TU hu I g ry λ_ I3=>⟨.bl o.isSome,H,I3,rfl,q⟩
theorem oy(hu:X.A.units+1<cLine)(ha:DB X κ a fa)(hb:DB X κ b fb):DC X κ .In a b (ag nj fa fb):=by
 obtain⟨_,h1,h2⟩:=ha
 obtain⟨_,h3,h4⟩:=hb
 refine⟨_,_,_,DU hu,h1,h3,λ{G A _ _ _ _ H p Q} r e q=>?_⟩
 refine mR h2 h4 r e λx y _ _ H' s _ b1 b2 e'=>?_
 unfold nj at e'
 split at e'
 ·rename_i k ks l
  cases e'
  have b2:=b2.full aE
  have b1:=b1.full aE
  cases b1
  cases b2 with
  |dct h z rs=>exact⟨_,_,rfl,F9.k (k:=.inl k) h,by rw[nq z];exact q _ H' s (.bl _)⟩
 ·cases e'
structure kZ(K:aX)(κ:Kl) where
 Ad:Type
 S:Type
 B:Ad->Addr->Prop
 at_:Ad->(Addr->Prop)->S->Hp->Prop
 ad:Ad->List Addr
 pv:S->List PV
 move:∀{a X Y s H H'},aA (hide X H) (hide Y H')->(∀b o,B a b->H b=⇑o->H' b=⇑o)->at_ a X s H->at_ a Y s H'
 ex:∀{a X s H b},at_ a X s H->B a b->H b≠none
 nt:∀{a X s H b},at_ a X s H->B a b->∀xs,¬Rd H b (.tup xs)
 rd:∀{a X A s H},at_ a X s H->(∀b,A b->X b)->(∀b,B a b->¬A b)->aL K κ (hide A H) ((ad a).map V.ref) (pv s)
def Aw(A B:Addr->Prop):Addr->Prop:=λb=>A b\/B b
def wv:List Nat->List PV->bU->bU
 |j::js,p::ps,ρ=>wv js ps (ρ.set j (.sh p))
 |_,_,ρ=>ρ
structure RB{K:aX}{κ:Kl}(F:kZ K κ)(js:List Nat)(B0:Addr->Prop)(G:Hp)(A:Addr->Prop)(a:F.Ad)(s:F.S)(ρ:bU)(σ:St)(H:Hp):Prop where
 al:∀b,A b->H b≠none
 na:∀b,F.B a b->¬A b
 fr:aA (hide B0 G) H
 nb:∀b,F.B a b->B0 b\/G b=none
 sl:∀(i:Nat) z,ρ[i]?=⇑z->z=.un\/∃p v,z=.sh p/\σ[i]?=⇑(some v)/\Rep K κ (hide (Aw A (F.B a)) H) v p
 len:σ.length=ρ.length
 self:∀(k j:Nat) (x:Addr),js[k]?=⇑j->(F.ad a)[k]?=⇑x->σ[j]?=⇑(some (V.ref x))
 zero:∀j,j∈js->ρ[j]?=some .un
 at_:F.at_ a (Aw A (F.B a)) s H
variable{H':Hp}{A Y:Addr->Prop}{ρ:bU}{σ:St}
section
variable{K:aX}{B C X:Addr->Prop}
theorem nr(s:aA (hide C H) (hide C H'))(h:∀b,C b->X b):aA (hide X H) (hide X H'):=λb o e=>by
 obtain⟨h1,h2⟩:=aI e
 have n:¬C b:=λz=>h1 (h b z)
 rw[aK h1]
 exact(aI (s b o (by rw[aK n];exact h2))).2
theorem Kj{b:Addr}{o:HO}(e:aA (hide C H) (hide C H'))(n:¬C b)(h:H b=⇑o):H' b=⇑o:=(aI (e b o (by rw[aK n];exact h))).2
theorem eT{X:Addr->Prop}(h:∀b,Y b->X b):aA (hide X H) (hide Y H):=bW (λ_ _ z=>z) λb z _=>h b z
theorem kZ.keep(F:kZ K κ){a:F.Ad}{s:F.S}(hc:∀b,C b->X b/\¬F.B a b)(e:aA (hide C H) (hide C H'))(t:F.at_ a X s H):F.at_ a X s H':=F.move (nr e λb z=>(hc b z).1) (λb o z=>Kj e λy=>(hc b y).2 z) t
theorem kZ.less(F:kZ K κ){a:F.Ad}{s:F.S}(h:∀b,Y b->X b)(t:F.at_ a X s H):F.at_ a Y s H:=F.move (eT h) (λ_ _ _ z=>z) t
theorem R.plain(al:∀b,A b->H b≠none)(hs:∀(i:Nat) z,ρ[i]?=⇑z->z=.un\/∃p v,z=.sh p/\σ[i]?=⇑(some v)/\Rep K κ (hide A H) v p)(hl:σ.length=ρ.length):
  R K κ H A (λ_=>none) (λ_=>0) ρ σ H/\∀H',cA A (λ_=>0) ρ H'=hide A H':=by
 have no:∀{i:Nat} {c:Cn},ρ[i]?≠⇑(.own c):=λ{i c} e=>by rcases hs i _ e with z|⟨_,_,z,_⟩<;>cases z
 have hh:∀H',cA A (λ_=>0) ρ H'=hide A H':=λH'=>by
  unfold cA
  congr 1
  funext b
  exact propext ⟨λz=>z.elim id λ⟨j,m,z,_⟩=>absurd z no,λz=>.inl z⟩
 refine⟨⟨al,λi a _ e=>(by cases e),λ_ _ z=>z,λi p e=>?_,λi l e=>absurd e no,λi j l m e=>absurd e no,λi l e=>?_,hl⟩,hh⟩
 ·rcases hs i _ e with z|⟨q,v,z,h1,h2⟩
  ·cases z
  ·cases z
   exact⟨v,h1,by rw[hh];exact h2⟩
 ·rcases hs i _ e with z|⟨_,_,z,_⟩<;>cases z
theorem GL:∀(js:List Nat) (ps:List PV) (ρ:bU),(wv js ps ρ).length=ρ.length
 |[],_,_=>by unfold wv;rfl
 |_::_,[],_=>by unfold wv;rfl
 |j::js,p::ps,ρ=>by unfold wv;rw[GL js ps,Zo]
theorem LY:∀(js:List Nat) (xs:List Addr) (ps:List PV) (ρ:bU),(∀(k j:Nat) x,js[k]?=⇑j->xs[k]?=⇑x->σ[j]?=⇑(some (.ref x)))->aL K κ (hide A H) (xs.map V.ref) ps->
  (∀(i:Nat) z,ρ[i]?=⇑z->z=.un\/∃p v,z=.sh p/\σ[i]?=⇑(some v)/\Rep K κ (hide A H) v p)->∀(i:Nat) z,(wv js ps ρ)[i]?=⇑z->z=.un\/∃p v,z=.sh p/\σ[i]?=⇑(some v)/\Rep K κ (hide A H) v p
 |[],_,_,_,_,_,h=>by unfold wv;exact h
 |_::_,_,[],_,_,_,h=>by unfold wv;exact h
 |j::js,[],p::ps,ρ,_,r,_=>by cases r
 |j::js,x::xs,p::ps,ρ,hx,r,h=>by
  unfold wv
  cases r with
  |cons r1 r2=>
  refine LY js xs ps _ (λk j x a b=>hx (k+1) j x (by simpa using a) (by simpa using b)) r2 λi z e=>?_
  rw[ZO]at e
  split at e
  ·rename_i hj
   subst hj
   split at e
   ·cases e
    exact .inr ⟨_,_,rfl,hx 0 _ _ rfl rfl,r1⟩
   ·cases e
  ·exact h i z e
end
variable{js:List Nat}{B0:Addr->Prop}{G:Hp}{i:Nat}{v:V}{p:PV}{te:TE}{Q:VK}
section
variable{K:aX}{F:kZ K κ}{a:F.Ad}{s s':F.S}
theorem RB.turn(r:RB F js B0 G A a s ρ σ H)(e:aA (hide (F.B a) H) (hide (F.B a) H'))(t:F.at_ a (Aw A (F.B a)) s' H'):RB F js B0 G A a s' ρ σ H' where
 al:=λb h z=>by
  cases q:H b with
  |none=>exact r.al b h q
  |some o=>
   have:=aI (e b o (by rw[aK λz=>r.na b z h];exact q))
   rw[z]at this
   exact absurd this.2 (by simp)
 na:=r.na
 fr:=λb o h=>by
  by_cases z:F.B a b
  ·rcases r.nb b z with y|y
   ·exact absurd y (aI h).1
   ·rw[(aI h).2]at y
    cases y
  ·exact(aI (e b o (by rw[aK z];exact r.fr b o h))).2
 nb:=r.nb
 sl:=λi z h=>(r.sl i z h).imp id λ⟨p,v,h1,h2,h3⟩=>⟨p,v,h1,h2,h3.mono (nr e λb z=>.inr z)⟩
 len:=r.len
 self:=r.self
 zero:=r.zero
 at_:=t
theorem RB.mono(r:RB F js B0 G A a s ρ σ H)(e:aA H H'):RB F js B0 G A a s ρ σ H':=
 r.turn (bb e) (F.keep (C:=λ_=>False) (λ_ z=>z.elim) (bb e) r.at_)
theorem RB.un(r:RB F js B0 G A a s ρ σ H):R K κ H (Aw A (F.B a)) (λ_=>none) (λ_=>0) ρ σ H/\∀H',cA (Aw A (F.B a)) (λ_=>0) ρ H'=hide (Aw A (F.B a)) H':=
 R.plain (λb h=>h.elim (r.al b) (F.ex r.at_)) r.sl r.len
theorem RB.rd(r:RB F js B0 G A a s ρ σ H):R K κ H A (λ_=>none) (λ_=>0) (wv js (F.pv s) ρ) σ H/\∀H',cA A (λ_=>0) (wv js (F.pv s) ρ) H'=hide A H':=
 R.plain r.al (LY js _ _ ρ r.self (F.rd r.at_ (λ_ z=>.inl z) r.na) λi z h=>(r.sl i z h).imp id λ⟨p,v,h1,h2,h3⟩=>⟨p,v,h1,h2,h3.mono (bW (λ_ _ q=>q) λb q _=>.inl q)⟩) (by rw[GL];exact r.len)
theorem RB.set(r:RB F js B0 G A a s ρ σ H)(hi:i∉js)(z:Rep K κ (hide (Aw A (F.B a)) H) v p):RB F js B0 G A a s (ρ.set i (.sh p)) (σ.set i ⇑v) H where
 al:=r.al
 na:=r.na
 fr:=r.fr
 nb:=r.nb
 sl:=λj y h=>by
  rw[ZO]at h
  split at h
  ·rename_i e
   subst e
   split at h
   ·cases h
    exact .inr ⟨p,v,rfl,by rw[ZO,W1 rfl,W1 (by rw[r.len];assumption)],z⟩
   ·cases h
  ·rename_i e
   rw[ZO,UF e]
   exact r.sl j y h
 len:=by rw[Zo,Zo];exact r.len
 self:=λk j x h1 h2=>by
  rw[Zj (show i≠j from λe=>hi (e▸Zv h1))]
  exact r.self k j x h1 h2
 zero:=λj h=>by
  rw[Zj (show i≠j from λe=>hi (e▸h))]
  exact r.zero j h
 at_:=r.at_
theorem RB.ev{f:Den}{q:PV}(r:RB F js B0 G A a s ρ σ H)(he:FG K κ te f)(hf:f ρ=⇑q)(k:∀v H',aA H H'->RB F js B0 G A a s ρ σ H'->Rep K κ (hide (Aw A (F.B a)) H') v q->Q v H'):te σ H Q:=by
 obtain⟨r1,hh⟩:=r.un
 exact he r1 hf λv H' e z=>k v H' e (r.mono e) (by rw[hh]at z;exact z)
theorem RB.Sd{f:Den}{q:PV}(r:RB F js B0 G A a s ρ σ H)(he:FG K κ te f)(hf:f (wv js (F.pv s) ρ)=⇑q)(k:∀v H',aA H H'->RB F js B0 G A a s ρ σ H'->Rep K κ (hide A H') v q->Q v H'):te σ H Q:=by
 obtain⟨r1,hh⟩:=r.rd
 exact he r1 hf λv H' e z=>k v H' e (r.mono e) (by rw[hh]at z;exact z)
theorem RB.WX{tt:TT}{f:dg}{c:Bool}{Q:Bool->Hp->Prop}(r:RB F js B0 G A a s ρ σ H)(he:RY K κ tt f)(hf:f (wv js (F.pv s) ρ)=⇑c)(k:∀H',RB F js B0 G A a s ρ σ H'->Q c H'):tt σ H Q:=
 he r.rd.1 hf λH' e=>k H' (r.mono e)
end
abbrev du:=Rg->Int->bU->Option (Int×Fl)
abbrev lJ:=Rg->Int->bU->Option (Int×PV)
abbrev FQ:=Rg->Int->List PV->Option (Int×PV)
def km:du:=λ_ n ρ=>⇑(n,.nx ρ)
def jF:du:=λ_ _ _=>none
def eO(a b:du):du:=λt n ρ=>(a t n ρ).bind λq=>match q with
 |(m,.nx ρ')=>b t m ρ'
 |(m,.rt p)=>⇑(m,.rt p)
 |_=>none
def qU(i:Nat)(f:Den):du:=λt n ρ=>(f (wQ t n ρ)).bind λp=>if flat p then ⇑(n,.nx (ρ.set i (.sh p)))else none
def zQ(f:Den):du:=λt n ρ=>(f (wQ t n ρ)).bind λp=>(sH p).map λk=>(n+k,.nx ρ)
def zR(c:dg)(a b:du):du:=λt n ρ=>(c (wQ t n ρ)).bind λk=>if k then a t n ρ else b t n ρ
def xE(f:Den):du:=λt n ρ=>(f (wQ t n ρ)).bind λp=>if flat p then ⇑(n,.rt p)else none
def xF(f:Den):du:=λ_ n ρ=>(f ρ).map λp=>(n,.rt p)
def xG(i:Nat):du:=λ_ n ρ=>(sP ρ i).map λl=>(n,.rt (.lst l))
def jb(c:dg)(body:du):Nat->du
 |0=>λ_ _ _=>none
 |k+1=>λt n ρ=>(c (wQ t n ρ)).bind λb=>if b then(body t n ρ).bind λq=>match q with
  |(m,.nx ρ')=>jb c body k t m ρ'
  |_=>none
  else ⇑(n,.nx ρ)
def fP(F:FQ)(as:bZ):lJ:=λt n ρ=>(as (wQ t n ρ)).bind λps=>if ps.all flat then F t n ps else none
def nu(g:lJ):du:=λt n ρ=>(g t n ρ).map λq=>(q.1,.nx ρ)
def xH(i:Nat)(g:lJ):du:=λt n ρ=>(g t n ρ).bind λq=>if flat q.2 then ⇑(q.1,.nx (ρ.set i (.sh q.2)))else none
def RX(fr:Bool)(K:aX)(κ:Kl)(S:Addr->Prop)(H H':Hp)(v:V)(p:PV):Prop:=if fr then OR K κ S H H' v p else Rep K κ (hide S H') v p
def QT(K:aX)(κ:Kl)(fr:Bool)(G:Hp)(A:Addr->Prop)(x dx:Addr)(vw:V)(t:Rg)(D:Ends):Int×Fl->Prop
 |(n,.nx ρ)=>∀own σ H,RQ K κ G A x dx vw t n own ρ σ H->D.nx σ H
 |(n,.rt p)=>∀v H,aA (hide (hU x) G) (hide (hU x) H)->H x=⇑(qo κ dx vw t n)->RX fr K κ (A1 A x) G H v p->D.rt v H
 |_=>False
def Vm(K:aX)(κ:Kl)(fr:Bool)(ts:TS)(g:du):Prop:=
 ∀{G A x dx vw t n own ρ σ H q D},RQ K κ G A x dx vw t n own ρ σ H->g t n ρ=⇑q->QT K κ fr G A x dx vw t D q->ts D σ H
def QS(X:Cx)(κ:Kl)(fr:Bool)(st:Stmt)(g:du):Prop:=∃ts,PS X st ts/\Vm X.K κ fr ts g
def LZ(X:Cx)(κ:Kl)(fr:Bool)(st:List Stmt)(g:du):Prop:=∃ts,sL X st ts/\Vm X.K κ fr ts g
def WY(K:aX)(κ:Kl)(fr:Bool)(te:TE)(g:lJ):Prop:=
 ∀{G A x dx vw t n own ρ σ H n' p Q},RQ K κ G A x dx vw t n own ρ σ H->g t n ρ=⇑(n',p)->(∀v H',RQ K κ G A x dx vw t n' own ρ σ H'->aA (hide (hU x) H) (hide (hU x) H')->RX fr K κ (cg (A1 A x) own ρ) H H' v p->Q v H')->te σ H Q
def QE(X:Cx)(κ:Kl)(fr:Bool)(e:Expr)(g:lJ):Prop:=∃te,PE X e te/\WY X.K κ fr te g
def yX(K:aX)(κ:Kl)(fr:Bool)(F:FQ):Sp:=λvs H Q _=>∃(A:Addr->Prop) (x dx:Addr) (vw:V) (t:Rg) (n n':Int) (ws:List V) (ps:List PV) (p:PV),vs=.ref x::ws/\(∀b,A b->H b≠none)/\¬A x/\H x=⇑(qo κ dx vw t n)/\Rep K κ (hide (A1 A x) H) vw (.lst t.ws)/\aL K κ (hide (A1 A x) H) ws ps/\F t n ps=⇑(n',p)/\
 ∀v H',aA (hide (hU x) H) (hide (hU x) H')->H' x=⇑(qo κ dx vw t n')->RX fr K κ (A1 A x) H H' v p->Q v H'
structure Cq(K:aX)(κ:Kl):Prop where
 fld:κ.fld 4=[("words" :Str),("signs" :Str),("at" :Str)]
 cls:pC K (κ.adr 4)
 n3:cE K (κ.adr 4) "at"
variable{n:Int}{own:Nat->Addr}
section
variable{K:aX}{x dx:Addr}{vw:V}{t:Rg}{n':Int}
theorem pV:A1 (cg A own ρ) x=cg (A1 A x) own ρ:=by
 funext b
 refine propext ⟨?_,?_⟩
 ·rintro((z|z)|z)
  ·exact .inl (.inl z)
  ·exact .inr z
  ·exact .inl (.inr z)
 ·rintro((z|z)|z)
  ·exact .inl (.inl z)
  ·exact .inr z
  ·exact .inl (.inr z)
theorem RQ.ox(r:RQ K κ G A x dx vw t n own ρ σ H):¬vc own ρ x:=by
 rintro⟨j,m,h1,h2⟩
 have:=(r.r.ow j m h1).2.1
 rw[h2,aF]at this
 cases this
theorem RQ.words(r:RQ K κ G A x dx vw t n own ρ σ H):Rep K κ (cA (A1 A x) own ρ H) vw (.lst t.ws):=by
 refine r.wsr.mono λb o hb=>?_
 obtain⟨nb,hb⟩:=aI hb
 have ne:b≠x:=λz=>nb (.inr z)
 have hu:upd G x (qo κ dx vw t n) b=⇑o:=by rw[au ne];exact hb
 rw[cA,aK λz=>?_]
 ·exact r.r.same b o hu
 ·rcases z with z|⟨j,m,h1,h2⟩
  ·exact nb z
  ·have:=(r.r.ow j m h1).2.1
   rw[h2,hu]at this
   cases this
theorem RQ.frame(r:RQ K κ G A x dx vw t n own ρ σ H):aA (hide (hU x) G) (hide (hU x) H):=λb o h=>by
 obtain⟨nb,hb⟩:=aI h
 rw[aK nb]
 exact r.r.same b o (by rw[au nb];exact hb)
end
variable{fr:Bool}{st:Stmt}{rest body:List Stmt}{ge:lJ}{c:Expr}{es:List Expr}{ft:dg}{pos p1 p2 apos bz py:Pos}{y m:Str}
section
variable{L0:List Stmt}{g g':du}{a b e kk:Expr}{f fk:Den}{fs:bZ}{p3 sp:Pos}
theorem ny:LZ X κ fr [] km:=⟨_,pK,λ{G A x _ _ t n own _ σ H q D} r e k=>by cases e;exact k own σ H r⟩
theorem de(h1:QS X κ fr st g)(h2:LZ X κ fr rest g'):LZ X κ fr (st::rest) (eO g g'):=by
 obtain⟨_,a1,a2⟩:=h1
 obtain⟨_,b1,b2⟩:=h2
 refine⟨_,b6 a1 b1,λ{G A x _ _ t n _ _ _ H q D} r e k=>?_⟩
 obtain⟨⟨_,fl⟩,e1,e2⟩:=ZA.mp e
 refine a2 r e1 ?_
 cases fl with
 |nx ρ'=>exact λ_ _ _ r'=>b2 r' e2 k
 |rt p=>cases e2;exact k
 |_=>cases e2
theorem fz(h1:QS X κ fr st g):LZ X κ fr [st] g:=let⟨_,a1,a2⟩:=h1;⟨_,dj a1,a2⟩
theorem nB:QS X κ fr st jF:=⟨_,qd,λ{G A x _ _ t n _ _ _ H q D} r e k=>by cases e⟩
theorem BA(C:Cq X.K κ)(i:Nat)(hN:X.N.Nodup)(he:DE X κ e f)(hi:X.N[i]?=⇑y:=by rfl)(nU:i≠0:=by decide)(hx:Loc X.env.scope y:=by trivial)(hs:swapsWith e ⇑(.Name y py) pos.line X.env=pure false:=by rfl)
  (hf:X.fn y=true\/X.env.scope.names.lookup y=some .local:=by trivial):QS X κ fr (.Assign [.Name y py] e pos) (qU i f):=by
 obtain⟨_,h1,h2⟩:=he
 refine⟨_,eC hN hi hx h1 hs hf,λ{G A x _ _ t n _ _ _ H q D} r e k=>?_⟩
 obtain⟨p,e1,e2⟩:=ZA.mp e
 obtain⟨ue,e3⟩:=aQ e2
 cases e3
 refine h2 (r.rd C.fld) e1 λv _ s z=>?_
 exact k _ _ _ ((r.mono s).set nU (Rep.flat ue z))
theorem GN(C:Cq X.K κ)(he:DE X κ e f)(h0:X.N[0]?=⇑("self" :Str):=by rfl)(hv:nW X.env.scope "self" :=by trivial):QS X κ fr (.AugAssign (.Attribute (.Name "self" p1) "at" p2) .Add e pos) (zQ f):=by
 obtain⟨_,h1,h2⟩:=he
 refine⟨_,tJ (bS h0 hv) h1 E8,λ{G A x dx _ t n own _ σ H q D} r e k=>?_⟩
 obtain⟨p,e1,e2⟩:=ZA.mp e
 obtain⟨j,e3,rfl⟩:=ZC.mp e2
 cases p<;>first|(cases e3;done)|skip
 cases e3
 refine⟨_,r.self,x,_,dx,_,.int n,rfl,r.ob,C.cls,C.n3,rfl,h2 (r.rd C.fld) e1 λv _ s z=>?_⟩
 cases z
 have r1:=r.mono s
 refine⟨n,j,rfl,rfl,dx,_,r1.ob,(show(3:Nat)<1000 by decide),k own σ _ (r1.turn ?_ aF)⟩
 rw[dH (show hU x x from rfl)]
 exact λ_ _ z=>z
theorem xI(C:Cq X.K κ)(hc:DT X κ c ft)(ha:LZ X κ fr body g)(hb:LZ X κ fr L0 g'):QS X κ fr (.If c body L0 pos) (zR ft g g'):=by
 obtain⟨_,h1,h2⟩:=hc
 obtain⟨_,a1,a2⟩:=ha
 obtain⟨_,b1,b2⟩:=hb
 refine⟨_,tG h1 a1 b1,λ{G A x _ _ t n _ _ _ H q D} r e k=>?_⟩
 obtain⟨z,e1,e2⟩:=ZA.mp e
 refine h2 (r.rd C.fld) e1 λ_ s=>?_
 cases z with
 |true=>exact a2 (r.mono s) e2 k
 |false=>exact b2 (r.mono s) e2 k
theorem Kk(C:Cq X.K κ)(he:DE X κ e f):QS X κ false (.Return ⇑e pos) (xE f):=by
 obtain⟨_,h1,h2⟩:=he
 refine⟨_,fR h1,λ{G A x _ _ t n _ _ _ H q D} r e k=>?_⟩
 obtain⟨p,e1,e2⟩:=ZA.mp e
 obtain⟨ue,e3⟩:=aQ e2
 cases e3
 exact h2 (r.rd C.fld) e1 λv H' s z=>k v H' (r.mono s).frame (r.mono s).ob (Rep.flat ue z)
theorem Km(he:DE X κ e f):QS X κ false (.Return ⇑e pos) (xF f):=by
 obtain⟨_,h1,h2⟩:=he
 refine⟨_,fR h1,λ{G A x _ _ t n _ _ _ H q D} r e k=>?_⟩
 obtain⟨p,e1,rfl⟩:=ZC.mp e
 exact h2 r.r e1 λv H' s z=>k v H' (r.mono s).frame (r.mono s).ob (z.mono (bW (λ_ _ q=>q) λb q _=>.inl q))
theorem Kn(i:Nat)(hN:X.N[i]?=⇑y:=by rfl)(hv:nW X.env.scope y:=by trivial)(hd:gz y:=by decide)
  (jQ:yZ y:=by decide):QS X κ true (.Return ⇑(.Name y py) pos) (xG i):=by
 refine⟨_,fR (bS hN hv hd jQ),λ{G A x _ _ t n own _ _ H q D} r e k=>?_⟩
 obtain⟨l,e1,rfl⟩:=ZC.mp e
 obtain⟨h1,h3,vs,h4,h5⟩:=r.r.ow i (.l l) (g9 e1)
 change H (own i)=⇑(.lst vs)at h4
 change aL _ _ _ vs l at h5
 obtain⟨_,h3⟩:=dX h3
 refine⟨_,h1,k _ H r.frame r.ob ?_⟩
 exact⟨own i,vs,l,rfl,rfl,h3,h4,h5.mono (bW (λ_ _ z=>z) λb z _=>by
  rcases z with z|z
  ·exact .inl z
  ·exact .inr ⟨i,.l l,g9 e1,z.symm⟩)⟩
theorem GO(C:Cq X.K κ)(n0:Nat)(hc:DT X κ c ft)(hb:LZ X κ fr body g)(hp:PassesOwn (model X.prog X.w) X.A X.env X.xe:=by exact PassesOwn.never):QS X κ fr (.While c body [] pos) (jb ft g n0):=by
 obtain⟨_,h1,h2⟩:=hc
 obtain⟨_,h3,h4⟩:=hb
 refine⟨_,EV hp h1 h3,λ{G A x dx vw t n own ρ σ H q D} r e k=>?_⟩
 refine⟨λm σ H=>∃n own ρ,RQ X.K κ G A x dx vw t n own ρ σ H/\jb ft g m t n ρ=⇑q,⟨n0,n,own,ρ,r,e⟩,?_⟩
 rintro m σ H ⟨n,own,ρ,r,e⟩
 cases m with
 |zero=>cases e
 |succ m=>
  unfold jb at e
  obtain⟨c,e1,e2⟩:=ZA.mp e
  refine h2 (r.rd C.fld) e1 λH1 s1=>?_
  cases c with
  |false=>
   cases e2
   exact k own σ H1 (r.mono s1)
  |true=>
   obtain⟨⟨n1,fl⟩,e3,e4⟩:=ZA.mp e2
   refine⟨λσ' H'=>∃n own ρ,RQ X.K κ G A x dx vw t n own ρ σ' H'/\jb ft g m t n ρ=⇑q,λσ' H' z=>⟨m,Yo m,z⟩,?_⟩
   refine h4 (r.mono s1) e3 ?_
   cases fl with
   |nx ρ'=>exact λc7 σ' H' r'=>⟨n1,c7,ρ',r',e4⟩
   |_=>cases e4
end
def pG(fr:Bool)(n k:Nat)(body:du):FQ:=λt m ps=>if ps.length+1=k then(body t m (.un::(ps.map Slot.sh++List.replicate (n-k) .un))).bind λq=>match q with
 |(m',.rt p)=>⇑(m',p)
 |(m',.nx _)=>if fr then none else ⇑(m',.non)
 |_=>none
 else none
variable{α:Type}
theorem df{c:Prop}[Decidable c]{o:Option α}{z:α}(h:(if c then o else none)=⇑z):c/\o=⇑z:=by
 split at h
 ·exact⟨by assumption,h⟩
 ·cases h
variable{H1 H2:Hp}
theorem qV{K:aX}:∀{vs:List V} {l:List PV},l.all flat=true->aL K κ H1 vs l->aL K κ H2 vs l
 |_,_,_,.nil=>.nil
 |_::_,_,h,.cons q1 q2=>by
  rw[YH,ZS]at h
  exact .cons (Rep.flat h.1 q1) (qV h.2 q2)
theorem RX.big{K:aX}{S:Addr->Prop}(s:aA H H1)(z:RX fr K κ S H1 H2 v p):RX fr K κ S H H2 v p:=by
 cases fr with
 |false=>exact z
 |true=>
  obtain⟨a,vs,l,h1,h2,h3,h4,h5⟩:=(show OR K κ S H1 H2 v p from z)
  exact⟨a,vs,l,h1,h2,s.free h3,h4,h5⟩
variable{fo:Addr}{fd:FuncData}{ps:List Str}
section
variable{e:Expr}{fs:bZ}
theorem pW{F:FQ}{k:Nat}{pl:Sem Bool}(C:Cq X.K κ)(hm:Meth X.K (κ.adr 4) m fo)(FO:oj X k fo fd ps (yX X.K κ fr F))(hr:bG k X.A)(hb:Binds X.K fd ps [])(ha:DA X κ (e::es) fs)
  (h0:X.N[0]?=⇑("self" :Str):=by rfl)(hv:nW X.env.scope "self" :=by trivial)
  (hn:∀u1 u2 u3:V,List.lookup m [(("words" :Str),u1),(("signs" :Str),u2),(("at" :Str),u3)]=none:=by intros;rfl)
  (ib:gd e es X.env:=by rfl)(hpl:kP bz es X.env:=by rfl)
  (ht:eval (.Call (.Attribute (.Name "self" p1) m apos) (e::es) [] bz) X.env=(do
    let ov<-eval (.Name "self" p1) X.env
    standAt apos.atName
    let(f,first)<-holding [ov] (getMethod ov m pl)
    callWith bz f first (backTo bz (starEach (e::es) X.env)) (backToKw bz (keywordEach [] X.env))):=by rfl):QE X κ fr (.Call (.Attribute (.Name "self" p1) m apos) (e::es) [] bz) (fP F fs):=by
 obtain⟨_,h1,h2⟩:=ha
 refine⟨_,uQ (pl:=pl) (bS h0 hv) C.cls hm FO hr hb .nil eR h1 ib hpl ht,λ{G A x dx vw t n own ρ _ H n' p Q} r e k=>?_⟩
 obtain⟨ps,e1,e2⟩:=ZA.mp e
 obtain⟨ue,e3⟩:=df e2
 refine⟨_,r.self,x,dx,_,rfl,r.ob,hn _ _ _,h2 (r.rd C.fld) e1 λvs _ s z=>?_⟩
 have r1:=r.mono s
 refine⟨cg A own ρ,x,dx,vw,t,n,n',vs,ps,p,by rw[Zh],λb hb=>?_,λz=>z.elim r1.na r1.ox,r1.ob,by rw[pV];exact r1.words,qV ue z,e3,λv H2 s2 o2 z2=>?_⟩
 ·rcases hb with hb|⟨i,l,g1,g2⟩
  ·intro zn
   have:=r1.r.al b (.inl hb)
   exact this (r1.r.same.free zn)
  ·obtain⟨_,_,vs,g3,_⟩:=r1.r.ow i l g1
   rw[<-g2,g3]
   exact λz=>by cases z
 ·rw[pV]at z2
  exact k v H2 (r1.turn s2 o2) ((bb s).trans s2) (z2.big s)
theorem qW{F:FQ}{k:Nat}{pl:Sem Bool}(C:Cq X.K κ)(hm:Meth X.K (κ.adr 4) m fo)(FO:oj X k fo fd ps (yX X.K κ fr F))(hr:bG k X.A)(hb:Binds X.K fd ps [])
  (h0:X.N[0]?=⇑("self" :Str):=by rfl)(hv:nW X.env.scope "self" :=by trivial)
  (hn:∀u1 u2 u3:V,List.lookup m [(("words" :Str),u1),(("signs" :Str),u2),(("at" :Str),u3)]=none:=by intros;rfl)
  (ht:eval (.Call (.Attribute (.Name "self" p1) m apos) [] [] bz) X.env=(do
    let ov<-eval (.Name "self" p1) X.env
    standAt apos.atName
    let(f,first)<-holding [ov] (getMethod ov m pl)
    callWith bz f first (backTo bz (starEach [] X.env)) (backToKw bz (keywordEach [] X.env))):=by rfl):QE X κ fr (.Call (.Attribute (.Name "self" p1) m apos) [] [] bz) (fP F aB):=by
 refine⟨_,mG (pl:=pl) (bS h0 hv) C.cls hm FO hr hb .nil eR ht,λ{G A x dx vw t n own ρ _ H n' p Q} r1 e k=>?_⟩
 obtain⟨ps,e1,e2⟩:=ZA.mp e
 obtain⟨_,e3⟩:=df e2
 cases e1
 refine⟨_,r1.self,x,dx,_,rfl,r1.ob,hn _ _ _,?_⟩
 refine⟨cg A own ρ,x,dx,vw,t,n,n',[],[],p,rfl,λb hb=>?_,λz=>z.elim r1.na r1.ox,r1.ob,by rw[pV];exact r1.words,.nil,e3,λv H2 s2 o2 z2=>?_⟩
 ·rcases hb with hb|⟨i,l,g1,g2⟩
  ·intro zn
   have:=r1.r.al b (.inl hb)
   exact this (r1.r.same.free zn)
  ·obtain⟨_,_,_,g3,_⟩:=r1.r.ow i l g1
   rw[<-g2,g3]
   exact λz=>by cases z
 ·rw[pV]at z2
  exact k v H2 (r1.turn s2 o2) s2 z2
theorem vx{fe:Bool}(h:QE X κ fe e ge)(hs:swapsWith e none pos.line X.env=pure false:=by rfl):QS X κ fr (.Expr e pos) (nu ge):=by
 obtain⟨_,h1,h2⟩:=h
 refine⟨_,eL h1 hs,λ{G A x _ _ t n own _ σ H q D} r e k=>?_⟩
 obtain⟨⟨_,p⟩,e1,rfl⟩:=ZC.mp e
 exact h2 r e1 λv H' r' _ _=>k own σ H' r'
theorem Ko(i:Nat)(hN:X.N.Nodup)(h:QE X κ false e ge)(hi:X.N[i]?=⇑y:=by rfl)(nU:i≠0:=by decide)(hx:Loc X.env.scope y:=by trivial)(hs:swapsWith e ⇑(.Name y py) pos.line X.env=pure false:=by rfl)
  (hf:X.fn y=true\/X.env.scope.names.lookup y=some .local:=by trivial):QS X κ fr (.Assign [.Name y py] e pos) (xH i ge):=by
 obtain⟨_,h1,h2⟩:=h
 refine⟨_,eC hN hi hx h1 hs hf,λ{G A x _ _ t n _ _ _ H q D} r e k=>?_⟩
 obtain⟨⟨_,p⟩,e1,e2⟩:=ZA.mp e
 obtain⟨_,e3⟩:=aQ e2
 cases e3
 refine h2 r e1 λv _ r' _ z=>k _ _ _ (r'.set nU ?_)
 exact z
end
variable{P:Program}{f:Addr}{x qual:Str}{base:Heap}{N:List Str}{ws:List V}
section
variable{w:World}{K:aX}{mg:Str->Option Value}
theorem RQ.entry{k:Nat}{x dx:Addr}{vw:V}{t:Rg}{ps:List PV}(hk:ps.length+1=k)(al:∀b,A b->H b≠none)(na:¬A x)(ob:H x=⇑(qo κ dx vw t n))(hw:Rep K κ (hide (A1 A x) H) vw (.lst t.ws))(h:aL K κ (hide (A1 A x) H) ws ps):
  RQ K κ H A x dx vw t n (λ_=>0) (.un::(ps.map Slot.sh++List.replicate (N.length-k) .un)) (start N (.ref x::ws)) H:=by
 have hl:=h.length
 have eu:upd H x (qo κ dx vw t n)=H:=by
  funext b
  by_cases e:b=x
  ·subst e
   rw[aF,ob]
  ·rw[au e]
 have slot:∀{i:Nat} {s:Slot},(.un::(ps.map Slot.sh++List.replicate (N.length-k) .un):bU)[i]?=⇑s->s=.un\/∃p j,s=.sh p/\i=j+1/\ps[j]?=⇑p:=λ{i s} e=>by
  cases i with
  |zero=>cases e;exact .inl rfl
  |succ i=>
   rw[YX,YF]at e
   split at e
   ·rw[Za]at e
    obtain⟨q,e1,e2⟩:=ZC.mp e
    exact .inr ⟨q,i,e2.symm,rfl,e1⟩
   ·rw[Z0]at e
    split at e
    ·cases e;exact .inl rfl
    ·cases e
 have sJ:∀{i:Nat} {l:Cn},(.un::(ps.map Slot.sh++List.replicate (N.length-k) .un):bU)[i]?≠⇑(.own l):=λ{i l} e=>by
  rcases slot e with z|⟨_,_,z,_⟩<;>cases z
 have hh:cA (A1 A x) (λ_=>0) (.un::(ps.map Slot.sh++List.replicate (N.length-k) .un)) H=hide (A1 A x) H:=by
  unfold cA
  congr 1
  funext b
  refine propext ⟨λz=>z.elim id λ⟨j,m,z,_⟩=>absurd z sJ,λz=>.inl z⟩
 refine⟨⟨λb hb=>?_,λi a _ e=>(by cases e),by rw[eu];exact λ_ _ z=>z,λi p e=>?_,λi l e=>absurd e sJ,λi j l m e=>absurd e sJ,λi l e=>?_,?_⟩,rfl,rfl,hw,na,by rw[ob];exact λz=>by cases z⟩
 ·rw[eu]
  rcases hb with hb|hb
  ·exact al b hb
  ·rw[hb,ob]
   exact λz=>by cases z
 ·rcases slot e with z|⟨q,j,z,rfl,e1⟩
  ·cases z
  ·cases z
   obtain⟨v,h1,h2⟩:=h.get e1
   refine⟨v,?_,by rw[hh];exact h2⟩
   unfold start
   rw[ZV,List.cons_append,YX,Zw (by rw[ZD];exact(ZL.mp h1).1),Za,h1]
   rfl
 ·rcases slot e with z|⟨_,_,z,_⟩<;>cases z
 ·unfold start
  simp only[ZT,ZD,ZJ,YB,hl]
  rw[hk]
  omega
theorem xJ{k:Nat}{g:du}(F:A4 K x qual st f fd)(S:az N ps (aC st))
  (hb:∀(cK:Value) (A:Around) (outer:List Env) (s:Shared) (H:Hp) (E:XK),bG k (A.deeper (envOfC qual (aC st) ↥s f cK))->LZ (fT qk P w K mg base N qual (aC st) f cK A outer s H E).AR κ fr (eh st) g):
  dS P w K mg base qk (k+1) f fd ps (yX K κ fr (pG fr N.length ps.length g)):=by
 refine F.ok S (λ_ H Q E h=>?_) (λcK A outer s H _ Q E hr h=>?_)
 ·obtain⟨_,x,_,_,t,n,_,_,_,p,rfl,_,_,_,_,h1,h2,_⟩:=h
  unfold pG at h2
  obtain⟨hk,_⟩:=df h2
  rw[ZJ,h1.length]
  exact hk
 ·obtain⟨_,x,_,_,t,n,_,_,_,p,rfl,al,na,ob,hw,h1,h2,q⟩:=h
  obtain⟨ts,a1,a2⟩:=hb cK A outer s H E hr
  refine⟨ts,a1,?_⟩
  unfold pG at h2
  obtain⟨hk,h3⟩:=df h2
  obtain⟨⟨m,fl⟩,e1,e2⟩:=ZA.mp h3
  refine a2 (RQ.entry hk al na ob hw h1) e1 ?_
  cases fl with
  |nx ρ'=>
   cases fr with
   |true=>cases e2
   |false=>
    cases e2
    exact λ_ _ H' r'=>q .non H' r'.frame r'.ob .non
  |rt p'=>
   cases e2
   exact λv H' s' o' z=>q v H' s' o' z
  |_=>cases e2
end
abbrev b7(S:Type):=S->bU->Option (S×Fl)
abbrev jS(S:Type):=S->bU->Option (S×PV)
variable{S:Type}
section
def jT:b7 S:=λs ρ=>⇑(s,.nx ρ)
def zS:b7 S:=λ_ _=>none
def cV(a b:b7 S):b7 S:=λs ρ=>(a s ρ).bind λq=>match q with
 |(s',.nx ρ')=>b s' ρ'
 |(s',.rt p)=>⇑(s',.rt p)
 |_=>none
def uf(w:S->bU->bU)(i:Nat)(f:Den):b7 S:=λs ρ=>(f (w s ρ)).bind λp=>if flat p then ⇑(s,.nx (ρ.set i (.sh p)))else none
def lK(i:Nat)(f:Den):b7 S:=λs ρ=>(f ρ).map λp=>(s,.nx (ρ.set i (.sh p)))
def BC(w:S->bU->bU)(i:Nat)(f:Den):b7 S:=λs ρ=>(f (w s ρ)).bind λp=>match p with
 |.lst l=>if l.all flat then ⇑(s,.nx (ρ.set i (.sh (.lst l))))else none
 |_=>none
def wy(w:S->bU->bU)(c:dg)(a b:b7 S):b7 S:=λs ρ=>(c (w s ρ)).bind λk=>if k then a s ρ else b s ρ
def iR(w:S->bU->bU)(f:Den):b7 S:=λs ρ=>(f (w s ρ)).bind λp=>if flat p then ⇑(s,.rt p)else none
def me(w:S->bU->bU)(f:Den):b7 S:=λs ρ=>(f (w s ρ)).map λ_=>(s,.nx ρ)
def ug(i:Nat)(body:b7 S):List PV->b7 S
 |[],s,ρ=>⇑(s,.nx ρ)
 |p::ps,s,ρ=>(body s (ρ.set i (.sh p))).bind λq=>match q with
  |(s',.nx ρ')=>ug i body ps s' ρ'
  |(s',.rt p)=>⇑(s',.rt p)
  |_=>none
def xK(w:S->bU->bU)(i:Nat)(f:bZ)(body:b7 S):b7 S:=λs ρ=>(f (w s ρ)).bind λps=>ug i body ps s ρ
def oY(i:Nat)(g:jS S):b7 S:=λs ρ=>(g s ρ).map λq=>(q.1,.nx (ρ.set i (.sh q.2)))
def vy(g:jS S):b7 S:=λs ρ=>(g s ρ).map λq=>(q.1,.nx ρ)
def qX(g:jS S):b7 S:=λs ρ=>(g s ρ).map λq=>(q.1,.rt q.2)
def N3(g:jS S)(a b:b7 S):b7 S:=λs ρ=>(g s ρ).bind λq=>(C7 q.2).bind λc=>if c then b q.1 ρ else a q.1 ρ
end
abbrev QU:S->bU->bU:=λ_ ρ=>ρ
abbrev vw(pv:S->List PV)(js:List Nat):S->bU->bU:=λs ρ=>wv js (pv s) ρ
section
variable{K:aX}
def BD(F:kZ K κ)(js:List Nat)(ka:Prop)(B0:Addr->Prop)(G:Hp)(A:Addr->Prop)(a:F.Ad)(D:Ends):F.S×Fl->Prop
 |(s,.nx ρ)=>∀σ H,RB F js B0 G A a s ρ σ H->D.nx σ H
 |(s,.rt p)=>∀v H,aA (hide B0 G) H->(ka->F.at_ a (Aw A (F.B a)) s H)->flat p=true->Rep K κ H v p->D.rt v H
 |_=>False
def Vn(F:kZ K κ)(js:List Nat)(ka:Prop)(ts:TS)(g:b7 F.S):Prop:=
 ∀{B0 G A a s ρ σ H q D},RB F js B0 G A a s ρ σ H->g s ρ=⇑q->BD F js ka B0 G A a D q->ts D σ H
def WZ(F:kZ K κ)(js:List Nat)(te:TE)(g:jS F.S):Prop:=
 ∀{B0 G A a s ρ σ H s' p Q},RB F js B0 G A a s ρ σ H->g s ρ=⇑(s',p)->(∀v H',RB F js B0 G A a s' ρ σ H'->flat p=true->Rep K κ H' v p->Q v H')->te σ H Q
def EK(F:kZ K κ)(od:F.Ad->List Addr)(FF:F.S->List PV->Option (F.S×PV)):Sp:=λvs H Q _=>∃(A:Addr->Prop) (a:F.Ad) (s s':F.S) (ws:List V) (ps:List PV) (p:PV),vs=(od a).map V.ref++ws/\(∀b,A b->H b≠none)/\(∀b,F.B a b->¬A b)/\F.at_ a (Aw A (F.B a)) s H/\aL K κ (hide (Aw A (F.B a)) H) ws ps/\FF s ps=⇑(s',p)/\
 ∀v H',aA (hide (F.B a) H) (hide (F.B a) H')->F.at_ a (Aw A (F.B a)) s' H'->flat p=true->Rep K κ H' v p->Q v H'
end
def BS(X:Cx)(κ:Kl)(F:kZ X.K κ)(js:List Nat)(ka:Prop)(st:Stmt)(g:b7 F.S):Prop:=∃ts,PS X st ts/\Vn F js ka ts g
def xM(X:Cx)(κ:Kl)(F:kZ X.K κ)(js:List Nat)(ka:Prop)(st:List Stmt)(g:b7 F.S):Prop:=∃ts,sL X st ts/\Vn F js ka ts g
def BE(X:Cx)(κ:Kl)(F:kZ X.K κ)(js:List Nat)(e:Expr)(g:jS F.S):Prop:=∃te,PE X e te/\WZ F js te g
variable{ka:Prop}{tg:Expr}{fl:bZ}
section
variable{F:kZ X.K κ}{L0:List Stmt}{g g':b7 F.S}{ge:jS F.S}{a b e it:Expr}{f:Den}
theorem fB:xM X κ F js ka [] jT:=⟨_,pK,λ{_ G A a s _ σ H q D} r e k=>by cases e;exact k σ H r⟩
theorem aV(h1:BS X κ F js ka st g)(h2:xM X κ F js ka rest g'):xM X κ F js ka (st::rest) (cV g g'):=by
 obtain⟨_,a1,a2⟩:=h1
 obtain⟨_,b1,b2⟩:=h2
 refine⟨_,b6 a1 b1,λ{_ G A a s _ _ H q D} r e k=>?_⟩
 obtain⟨⟨_,fl⟩,e1,e2⟩:=ZA.mp e
 refine a2 r e1 ?_
 cases fl with
 |nx ρ'=>exact λ_ _ r'=>b2 r' e2 k
 |rt p=>cases e2;exact k
 |_=>cases e2
theorem bE(h1:BS X κ F js ka st g):xM X κ F js ka [st] g:=let⟨_,a1,a2⟩:=h1;⟨_,dj a1,a2⟩
theorem xN:BS X κ F js ka st zS:=⟨_,qd,λ{_ G A a s _ _ H q D} r e k=>by cases e⟩
theorem vz(i:Nat)(hN:X.N.Nodup)(he:DE X κ e f)(hi:X.N[i]?=⇑y:=by rfl)(nU:i∉js:=by decide)(hx:Loc X.env.scope y:=by trivial)(hs:swapsWith e ⇑(.Name y py) pos.line X.env=pure false:=by rfl)
  (hf:X.fn y=true\/X.env.scope.names.lookup y=some .local:=by trivial):BS X κ F js ka (.Assign [.Name y py] e pos) (uf (vw F.pv js) i f):=by
 obtain⟨_,h1,h2⟩:=he
 refine⟨_,eC hN hi hx h1 hs hf,λ{_ G A a s _ _ H q D} r e k=>?_⟩
 obtain⟨p,e1,e2⟩:=ZA.mp e
 obtain⟨ue,e3⟩:=aQ e2
 cases e3
 exact r.Sd h2 e1 λv _ _ r' z=>k _ _ (r'.set nU (Rep.flat ue z))
theorem nC(i:Nat)(hN:X.N.Nodup)(he:DE X κ e f)(hi:X.N[i]?=⇑y:=by rfl)(nU:i∉js:=by decide)(hx:Loc X.env.scope y:=by trivial)(hs:swapsWith e ⇑(.Name y py) pos.line X.env=pure false:=by rfl)
  (hf:X.fn y=true\/X.env.scope.names.lookup y=some .local:=by trivial):BS X κ F js ka (.Assign [.Name y py] e pos) (lK i f):=by
 obtain⟨_,h1,h2⟩:=he
 refine⟨_,eC hN hi hx h1 hs hf,λ{_ G A a s _ _ H q D} r e k=>?_⟩
 obtain⟨p,e1,rfl⟩:=ZC.mp e
 exact r.ev h2 e1 λv _ _ r' z=>k _ _ (r'.set nU z)
theorem Kp(i:Nat)(hN:X.N.Nodup)(he:DO X κ e f)(hi:X.N[i]?=⇑y:=by rfl)(nU:i∉js:=by decide)(hx:Loc X.env.scope y:=by trivial)(hs:swapsWith e ⇑(.Name y py) pos.line X.env=pure false:=by rfl)
  (hf:X.fn y=true\/X.env.scope.names.lookup y=some .local:=by trivial):BS X κ F js ka (.Assign [.Name y py] e pos) (BC (vw F.pv js) i f):=by
 obtain⟨_,h1,h2⟩:=he
 refine⟨_,eC hN hi hx h1 hs hf,λ{_ G A a s _ _ H q D} r e k=>?_⟩
 obtain⟨p,e1,e2⟩:=ZA.mp e
 obtain⟨r1,_⟩:=r.rd
 refine h2 r1 e1 λv _ s' z=>?_
 obtain⟨b,_,l,rfl,rfl,w3,w4,w5⟩:=z
 obtain⟨ue,e3⟩:=df e2
 cases e3
 refine k _ _ ((r.mono s').set nU (.lst (SL.of ?_) (qV ue w5)))
 rw[aK λz=>?_]
 ·exact w4
 ·exact(r.un.1.al b z) w3
theorem jj(hc:DT X κ c ft)(ha:xM X κ F js ka body g)(hb:xM X κ F js ka L0 g'):BS X κ F js ka (.If c body L0 pos) (wy (vw F.pv js) ft g g'):=by
 obtain⟨_,h1,h2⟩:=hc
 obtain⟨_,a1,a2⟩:=ha
 obtain⟨_,b1,b2⟩:=hb
 refine⟨_,tG h1 a1 b1,λ{_ G A a s _ _ H q D} r e k=>?_⟩
 obtain⟨z,e1,e2⟩:=ZA.mp e
 refine r.WX h2 e1 λ_ r'=>?_
 cases z with
 |true=>exact a2 r' e2 k
 |false=>exact b2 r' e2 k
theorem fD(he:DE X κ e f):BS X κ F js ka (.Return ⇑e pos) (iR (vw F.pv js) f):=by
 obtain⟨_,h1,h2⟩:=he
 refine⟨_,fR h1,λ{_ G A a s _ _ H q D} r e k=>?_⟩
 obtain⟨p,e1,e2⟩:=ZA.mp e
 obtain⟨ue,e3⟩:=aQ e2
 cases e3
 exact r.Sd h2 e1 λv H' _ r' z=>k v H' r'.fr (λ_=>r'.at_) ue (Rep.flat ue z)
theorem nD(he:DE X κ e f)(hs:swapsWith e none pos.line X.env=pure false:=by rfl):BS X κ F js ka (.Expr e pos) (me (vw F.pv js) f):=by
 obtain⟨_,h1,h2⟩:=he
 refine⟨_,eL h1 hs,λ{_ G A a s _ _ H q D} r e k=>?_⟩
 obtain⟨p,e1,rfl⟩:=ZC.mp e
 exact r.Sd h2 e1 λv _ _ r' _=>k _ _ r'
theorem nE(i:Nat)(hN:X.N.Nodup)(h:BE X κ F js e ge)(hi:X.N[i]?=⇑y:=by rfl)(nU:i∉js:=by decide)(hx:Loc X.env.scope y:=by trivial)(hs:swapsWith e ⇑(.Name y py) pos.line X.env=pure false:=by rfl)
  (hf:X.fn y=true\/X.env.scope.names.lookup y=some .local:=by trivial):BS X κ F js ka (.Assign [.Name y py] e pos) (oY i ge):=by
 obtain⟨_,h1,h2⟩:=h
 refine⟨_,eC hN hi hx h1 hs hf,λ{_ G A a s _ _ H q D} r e k=>?_⟩
 obtain⟨⟨_,p⟩,e1,rfl⟩:=ZC.mp e
 exact h2 r e1 λv _ r' ue z=>k _ _ (r'.set nU (Rep.flat ue z))
theorem GP(h:BE X κ F js e ge)(hs:swapsWith e none pos.line X.env=pure false:=by rfl):BS X κ F js ka (.Expr e pos) (vy ge):=by
 obtain⟨_,h1,h2⟩:=h
 refine⟨_,eL h1 hs,λ{_ G A a s _ _ H q D} r e k=>?_⟩
 obtain⟨⟨_,p⟩,e1,rfl⟩:=ZC.mp e
 exact h2 r e1 λv _ r' _ _=>k _ _ r'
theorem pX(h:BE X κ F js e ge):BS X κ F js ka (.Return ⇑e pos) (qX ge):=by
 obtain⟨_,h1,h2⟩:=h
 refine⟨_,fR h1,λ{_ G A a s _ _ H q D} r e k=>?_⟩
 obtain⟨⟨_,p⟩,e1,rfl⟩:=ZC.mp e
 exact h2 r e1 λv H' r' ue z=>k v H' r'.fr (λ_=>r'.at_) ue z
end
theorem uh{B:Addr->Prop}:hide A (hide B H)=hide (Aw A B) H:=by
 funext b
 unfold hide Aw
 by_cases h1:A b<;>by_cases h2:B b<;>simp[h1,h2]
def BI(X:Cx)(κ:Kl)(F:kZ X.K κ)(js:List Nat)(tg it:Expr)(w:F.S->bU->bU)(fl:bZ):Prop:=∃wi,PI X tg it wi/\∀{B0 G A a s ρ σ H ps Q},RB F js B0 G A a s ρ σ H->fl (w s ρ)=⇑ps->(∀J H',RB F js B0 G A a s ρ σ H'->sR X.K κ (hide (F.B a) H') A J ps->Q J H')->wi σ H Q
def Se(X:Cx)(κ:Kl)(F:kZ X.K κ)(js:List Nat)(es:List Expr)(ob:F.Ad->List Addr)(fs:bZ):Prop:=∃ta,PA X es ta/\∀{B0 G A a s ρ σ H ps Q},RB F js B0 G A a s ρ σ H->fs ρ=⇑ps->(∀vs H',RB F js B0 G A a s ρ σ H'->aL X.K κ (hide (Aw A (F.B a)) H') vs ps->Q ((ob a).map V.ref++vs) H')->ta σ H Q
structure fL{K:aX}{κ:Kl}(F F':kZ K κ) where
 sub:F.Ad->F'.Ad
 get:F.S->F'.S
 put:F.S->F'.S->F.S
 inB:∀{a b},F'.B (sub a) b->F.B a b
 get_at:∀{a X s H},F.at_ a X s H->F'.at_ (sub a) X (get s) H
 put_at:∀{a X s s' H H'},(∀b,F.B a b->X b)->F.at_ a X s H->aA (hide (F'.B (sub a)) H) (hide (F'.B (sub a)) H')->F'.at_ (sub a) X s' H'->F.at_ a X (put s s') H'
def gJ{S':Type}(get:S->S')(put:S->S'->S)(FF:S'->List PV->Option (S'×PV))(fs:bZ):jS S:=λs ρ=>(fs ρ).bind λps=>(FF (get s) ps).map λq=>(put s q.1,q.2)
def BF(n k m:Nat)(body:b7 S):S->List PV->Option (S×PV):=λs ps=>if ps.length+m=k then(body s (List.replicate m .un++(ps.map Slot.sh++List.replicate (n-k) .un))).bind λq=>match q with
 |(s',.rt p)=>⇑(s',p)
 |(s',.nx _)=>⇑(s',.non)
 |_=>none
 else none
variable{j:Nat}{vs:List V}{E:XK}{pn:List Str}
section
variable{F F':kZ X.K κ}{L0:List Stmt}{g g':b7 F.S}{ge:jS F.S}{a b e it:Expr}{f:Den}{fs:bZ}{p:Pos}
theorem BG(h:DE X κ e f):BI X κ F js tg e QU (nList f):=by
 obtain⟨_,h1,h2⟩:=h
 refine⟨_,uL h1,λ{_ G A a s _ _ H _ Q} r e q=>?_⟩
 obtain⟨p,e1,e2⟩:=ZA.mp e
 refine r.ev h2 e1 λv H' _ r' z=>?_
 cases p<;>first|(cases e2;done)|skip
 cases e2
 cases z with
 |lst q1 q2=>exact⟨_,rfl,⟨_,((aE (A:=Aw A (F.B a))).sl q1).sq⟩,q _ H' r' (oo ((bW (λ_ _ h=>h) λb z _=>Or.inr z:aA (hide (Aw A (F.B a)) H') (hide (F.B a) H')).sl q1) (by rw[uh];exact q2))⟩
theorem BH(h:DB X κ e f)(hm:X.mg "range" =none)(hg:Gl X "range" :=by rfl)(hs:starEach [e] X.env=[(false,eval e X.env)]:=by rfl):BI X κ F js tg (.Call (.Name "range" p) [e] [] pos) (vw F.pv js) (eA f):=by
 obtain⟨_,h1,h2⟩:=h
 exact⟨_,nY hg hm (aN h1 bx hs) hs,λ{_ G A a s _ _ H _ Q} r e q=>Nw h2 r.rd.1 e λn H' s e'=>q _ H' (r.mono s) (by rw[e'];exact l8)⟩
theorem vA{w:F.S->bU->bU}(i:Nat)(hN:X.N.Nodup)(hi:BI X κ F js (.Name y py) it w fl)(hb:xM X κ F js ka body g)(hy:X.N[i]?=⇑y:=by rfl)(nU:i∉js:=by decide)(hx:Loc X.env.scope y:=by trivial)(hf:X.fn y=true\/X.env.scope.names.lookup y=some .local:=by trivial)
  (hp:PassesOwn (model X.prog X.w) X.A X.env X.xe:=by exact PassesOwn.never)(hc:X.calm=true:=by rfl)(hs:∀x,foldedSetIterable it X.env x=pure x:=by intro _;rfl):BS X κ F js ka (.For (.Name y py) it body [] pos) (xK w i fl g):=by
 obtain⟨_,h1,h2⟩:=hi
 obtain⟨_,h5,h6⟩:=hb
 refine⟨_,za hp hc h1 (AU hN hy hx hf) h5 hs,λ{B0 G A a s ρ σ H q D} r e k=>?_⟩
 obtain⟨ps,e1,e2⟩:=ZA.mp e
 refine h2 r e1 λJ H0 r0 hI=>?_
 refine⟨λi' m σ H=>m=ps.length-i'/\i'<=ps.length/\∃s ρ,aA (hide (F.B a) H0) (hide (F.B a) H)/\RB F js B0 G A a s ρ σ H/\ug i g (ps.drop i') s ρ=⇑q,⟨ps.length,by simp,Zm _,s,ρ,(λ_ _ z=>z),r0,by simpa using e2⟩,?_⟩
 rintro i' m σ H ⟨rfl,_,s,ρ,sm,r,e⟩
 obtain⟨g1,g2⟩:=hI i' H λb o z=>(aI (sm b o z)).2
 by_cases jX:i'<ps.length
 ·rw[Zy jX]at e
  obtain⟨⟨s1,fw⟩,e3,e4⟩:=ZA.mp e
  obtain⟨g3,g4⟩:=g1 ps[i'] (ZG jX)
  refine .inr ⟨g3,λσ' H'=>i'+1<=ps.length/\∃s ρ,aA (hide (F.B a) H0) (hide (F.B a) H')/\RB F js B0 G A a s ρ σ' H'/\ug i g (ps.drop (i'+1)) s ρ=⇑q,λσ' H' ⟨q0,q⟩=>⟨ps.length-(i'+1),⋯,rfl,q0,q⟩,λx H' y=>?_⟩
  obtain⟨s',z⟩:=g4 x H' y
  have r1:=(r.mono s').set nU (z (Aw A (F.B a)) (λb hb=>r.un.1.al b hb) (by rw[uh];exact nr sm λb z=>.inr z))
  have W0:=sm.trans (bb (A:=F.B a) s')
  refine h6 (B0:=F.B a) (G:=H0) (A:=A) ⟨r1.al,r1.na,λb o z=>?_,λb z=>.inl z,r1.sl,r1.len,r1.self,r1.zero,r1.at_⟩ e3 ?_
  ·exact(aI (W0 b o z)).2
  have up:∀{H2:Hp},aA (hide (F.B a) H0) H2->aA (hide B0 G) H2:=λ{H2} z b o h=>by
   by_cases hB:F.B a b
   ·rcases r0.nb b hB with y|y
    ·exact absurd y (aI h).1
    ·rw[(aI h).2]at y
     cases y
   ·exact z b o (by rw[aK hB];exact r0.fr b o h)
  cases fw with
  |nx ρ'=>exact λ_ H2 r3=>⟨jX,s1,ρ',(λb o h=>by rw[aK (aI h).1];exact r3.fr b o h),⟨r3.al,r3.na,up r3.fr,r0.nb,r3.sl,r3.len,r3.self,r3.zero,r3.at_⟩,e4⟩
  |rt p=>cases e4;exact λv H2 z1 z2 z3 z4=>k v H2 (up z1) z2 z3 z4
  |_=>cases e4
 ·have hn:ps.drop i'=[]:=Z1 ⋯
  rw[hn]at e
  cases e
  exact .inl ⟨g2 ⋯,k σ H r⟩
theorem N4(hc:BE X κ F js c ge)(ha:xM X κ F js ka body g)(hb:xM X κ F js ka L0 g')(he:∀whole,isTrue c X.env whole=(do let v<-whole;standAt c.pos;holding [v] (truthy v)):=by intro _;rfl):BS X κ F js ka (.If (.UnaryOp .Not c p2) body L0 pos) (N3 ge g g'):=by
 obtain⟨_,h1,h2⟩:=hc
 obtain⟨_,a1,a2⟩:=ha
 obtain⟨_,b1,b2⟩:=hb
 refine⟨_,tG (ES (ER h1 he)) a1 b1,λ{_ G A a s _ _ H q D} r e k=>?_⟩
 obtain⟨⟨_,p⟩,e1,e2⟩:=ZA.mp e
 obtain⟨c,e3,e4⟩:=ZA.mp e2
 refine h2 r e1 λv _ r' _ z=>?_
 cases p<;>first|(cases e3;done)|skip
 cases e3
 cases z
 refine⟨_,rfl,?_⟩
 cases c with
 |true=>exact b2 r' e4 k
 |false=>exact a2 r' e4 k
theorem zT(h:DA X κ es fs):Se X κ F js es (λ_=>[]) fs:=by
 obtain⟨_,h1,h2⟩:=h
 refine⟨_,h1,λ{_ G A a s _ _ H _ Q} r e q=>?_⟩
 obtain⟨r1,hh⟩:=r.un
 exact h2 r1 e λvs H' s z=>q vs H' (r.mono s) (by rw[hh]at z;exact z)
theorem vB{ob:F.Ad->List Addr}(k:Nat){o:F.Ad->Addr}(h:Se X κ F js es ob fs)(hj:js[k]?=⇑j:=by rfl)(ho:∀a,(F.ad a)[k]?=⇑(o a):=by intro _;rfl)(hN:X.N[j]?=⇑y:=by rfl)(hv:nW X.env.scope y:=by trivial)(hd:gz y:=by decide)
  (jQ:yZ y:=by decide)(ib:starEach (.Name y py::es) X.env=(false,eval (.Name y py) X.env)::starEach es X.env:=by rfl):Se X κ F js (.Name y py::es) (λa=>o a::ob a) fs:=by
 obtain⟨_,h1,h2⟩:=h
 refine⟨_,aN (bS hN hv hd jQ) h1 ib,λ{_ G A a s _ _ H _ Q} r e q=>?_⟩
 exact⟨_,r.self k j _ hj (ho a),h2 r e λvs H' r' z=>q vs H' r' z⟩
theorem zU{od:F'.Ad->List Addr}{FF:F'.S->List PV->Option (F'.S×PV)}(L:fL F F'){a:F.Ad}{s s':F.S}{ps:List PV}{p:PV}(r:RB F js B0 G A a s ρ σ H)(hv:vs=(od (L.sub a)).map V.ref++ws)(z:aL X.K κ (hide (Aw A (F.B a)) H) ws ps)
  (e:(FF (L.get s) ps).map (λq=>(L.put s q.1,q.2))=⇑(s',p))(q:∀v H',RB F js B0 G A a s' ρ σ H'->flat p=true->Rep X.K κ H' v p->Q v H'):EK F' od FF vs H Q E:=by
 obtain⟨⟨t,p'⟩,e1,e2⟩:=ZC.mp e
 cases e2
 have hA:Aw (λb=>Aw A (F.B a) b/\¬F'.B (L.sub a) b) (F'.B (L.sub a))=Aw A (F.B a):=by
  funext b
  refine propext ⟨λz=>z.elim (λz=>z.1) λz=>.inr (L.inB z),λz=>?_⟩
  by_cases h:F'.B (L.sub a) b
  ·exact .inr h
  ·exact .inl ⟨z,h⟩
 refine⟨λb=>Aw A (F.B a) b/\¬F'.B (L.sub a) b,L.sub a,L.get s,t,ws,ps,p',hv,λb hb=>r.un.1.al b hb.1,λb hb z=>z.2 hb,by rw[hA];exact L.get_at r.at_,by rw[hA];exact z,e1,λv H' s1 t1 hf z1=>?_⟩
 rw[hA]at t1
 exact q v H' (r.turn (nr s1 λb z=>L.inB z) (L.put_at (λb z=>.inr z) r.at_ s1 t1)) hf z1
theorem vC{od:F'.Ad->List Addr}{FF:F'.S->List PV->Option (F'.S×PV)}{k:Nat}(L:fL F F')(FO:oj X k fo fd pn (EK F' od FF))(hr:bG k X.A)(hm:X.mg x=⇑(.ref fo))(hk:PySem.W.keepIn X.K (.ref fo)=true)(hb:Binds X.K fd pn [])(ha:Se X κ F js (e::es) (λa=>od (L.sub a)) fs)
  (hg:Gl X x:=by rfl)(lW:gz x:=by decide)(he:gd e es X.env:=by rfl)(hpl:kP pos es X.env:=by rfl):BE X κ F js (.Call (.Name x p) (e::es) [] pos) (gJ L.get L.put FF fs):=by
 obtain⟨_,h1,h2⟩:=ha
 refine⟨_,mF FO hr hg hm hk hb .nil eR h1 lW he hpl,λ{_ G A a s _ _ H _ p Q} r e k=>?_⟩
 obtain⟨_,e1,e2⟩:=ZA.mp e
 exact h2 r e1 λ_ _ r' z=>zU L r' (by rw[Zh]) z e2 k
end
section
variable{w:World}{K:aX}{mg:Str->Option Value}{F:kZ K κ}
theorem RB.entry{od:F.Ad->List Addr}{k m:Nat}{a:F.Ad}{s:F.S}{ps:List PV}(hk:ps.length+m=k)(hm:(od a).length=m)(ho:∀(k j:Nat) (x:Addr),js[k]?=⇑j->(F.ad a)[k]?=⇑x->(od a)[j]?=⇑x)(hj:∀j,j∈js->j<m)
  (al:∀b,A b->H b≠none)(na:∀b,F.B a b->¬A b)(t:F.at_ a (Aw A (F.B a)) s H)(h:aL K κ (hide (Aw A (F.B a)) H) ws ps):
  RB F js (F.B a) H A a s (List.replicate m .un++(ps.map Slot.sh++List.replicate (N.length-k) .un)) (start N ((od a).map V.ref++ws)) H where
 al:=al
 na:=na
 fr:=aE
 nb:=λb z=>.inl z
 sl:=λi z e=>by
  rw[YF]at e
  split at e
  ·rw[Z0]at e
   split at e
   ·cases e;exact .inl rfl
   ·cases e
  ·rename_i hi
   rw[YB]at hi e
   rw[YF]at e
   split at e
   ·rw[Za]at e
    obtain⟨q,e1,rfl⟩:=ZC.mp e
    obtain⟨v,h1,h2⟩:=h.get e1
    refine .inr ⟨q,v,rfl,?_,h2⟩
    unfold start
    have hl:=(ZL.mp h1).1
    rw[Zr,Z7,Wg (by rw[ZD,ZD,hm];omega),Zw (by simp only[ZD,hm];exact hl),Za,ZD,ZD,hm,h1]
    rfl
   ·rw[Z0]at e
    split at e
    ·cases e;exact .inl rfl
    ·cases e
 len:=by
  unfold start
  simp only[ZT,ZD,YB,h.length,hm]
  omega
 self:=λk j x h1 h2=>by
  have:=ho k j x h1 h2
  have hl:=(ZL.mp this).1
  unfold start
  rw[Zr,Z7,Zw (by rw[ZD,ZD];exact hl),Za,Za,this]
  rfl
 zero:=λj h=>by
  rw[Zw (by rw[YB];exact hj j h),Z0,W1 (hj j h)]
 at_:=t
theorem qY{k:Nat}{od:F.Ad->List Addr}{g:b7 F.S}(m:Nat)(Fn:A4 K x qual st f fd)(S:az N ps (aC st))(hm:∀a,(od a).length=m)(ho:∀a (k j:Nat) (x:Addr),js[k]?=⇑j->(F.ad a)[k]?=⇑x->(od a)[j]?=⇑x)(hj:∀j,j∈js->j<m)
  (hb:∀(cK:Value) (A:Around) (outer:List Env) (s:Shared) (H:Hp) (E:XK),bG k (A.deeper (envOfC qual (aC st) ↥s f cK))->xM (fT qk P w K mg base N qual (aC st) f cK A outer s H E).AR κ F js True (eh st) g):
  dS P w K mg base qk (k+1) f fd ps (EK F od (BF N.length ps.length m g)):=by
 refine Fn.ok S (λ_ H Q E h=>?_) (λcK A outer s H _ Q E hr h=>?_)
 ·obtain⟨_,a,s,_,_,_,p,rfl,_,_,_,h1,h2,_⟩:=h
  unfold BF at h2
  obtain⟨hk,_⟩:=df h2
  rw[ZT,ZD,h1.length,hm]
  omega
 ·obtain⟨_,a,_,_,_,_,p,rfl,al,na,t,h1,h2,q⟩:=h
  obtain⟨ts,a1,a2⟩:=hb cK A outer s H E hr
  refine⟨ts,a1,?_⟩
  unfold BF at h2
  obtain⟨hk,h3⟩:=df h2
  obtain⟨⟨_,fl⟩,e1,e2⟩:=ZA.mp h3
  refine a2 (RB.entry hk (hm a) (ho a) hj al na t h1) e1 ?_
  have up:∀{H2:Hp},aA (hide (F.B a) H) H2->aA (hide (F.B a) H) (hide (F.B a) H2):=λ{H2} z b o h=>by
   rw[aK (aI h).1]
   exact z b o h
  cases fl with
  |nx ρ'=>
   cases e2
   exact λ_ H' r'=>q .non H' (up r'.fr) r'.at_ rfl .non
  |rt p'=>
   cases e2
   exact λv H' z1 z2 z3 z4=>q v H' (up z1) (z2 trivial) z3 z4
  |_=>cases e2
end
structure Bx where
 x:Addr
 dx:Addr
 vr:V
 d:Nat->Addr
structure Bs where
 rl:PV
 n:Int
 d:Nat->List (Int×PV)
abbrev Vo(κ:Kl)(a:Bx)(n:Int):HO:=.ins (κ.adr 5) a.dx (gE.zip [a.vr,.int n,.ref (a.d 0),.ref (a.d 1),.ref (a.d 2)])
def dP(d:List (Int×PV)):PV:=.dct (d.map (·.1)) (d.map (·.2))
def sI(s:Bs):PV:=.ins 5 [s.rl,.int s.n,dP (s.d 0),dP (s.d 1),dP (s.d 2)]
abbrev cq(s:Bs):List PV:=[sI s]
def yY(d:List (Int×PV))(vs:List V):List (Key×V):=((d.map (·.1)).map Sum.inl).zip vs
def BB(a:Bx):Addr->Prop:=λb=>b=a.x\/∃k,k<3/\b=a.d k
structure zV(K:aX)(κ:Kl)(a:Bx)(X:Addr->Prop)(s:Bs)(H:Hp):Prop where
 ob:H a.x=⇑(Vo κ a s.n)
 rl:Rep K κ (hide X H) a.vr s.rl
 dc:∀k,k<3->∃vs,H (a.d k)=⇑(.dK (yY (s.d k) vs))/\aL K κ (hide X H) vs ((s.d k).map (·.2))
 inj:∀j k,j<3->k<3->a.d j=a.d k->j=k
section
variable{K:aX}{C X:Addr->Prop}
theorem zV.move{a:Bx}{s:Bs}(e:aA (hide X H) (hide Y H'))(k:∀b o,BB a b->H b=⇑o->H' b=⇑o)(t:zV K κ a X s H):zV K κ a Y s H' where
 ob:=k _ _ (.inl rfl) t.ob
 rl:=t.rl.mono e
 dc:=λj hj=>let⟨vs,h1,h2⟩:=t.dc j hj;⟨vs,k _ _ (.inr ⟨j,hj,rfl⟩) h1,h2.mono e⟩
 inj:=t.inj
theorem zV.rep{a:Bx}{s:Bs}(hf:κ.fld 5=gE)(t:zV K κ a X s H)(h1:∀b,A b->X b)(h2:∀b,BB a b->¬A b):Rep K κ (hide A H) (.ref a.x) (sI s):=by
 have dd:∀k,k<3->Rep K κ (hide A H) (.ref (a.d k)) (dP (s.d k)):=λk hk=>by
  obtain⟨vs,g1,g2⟩:=t.dc k hk
  refine .dct (vs:=vs) (by rw[aK (h2 _ (.inr ⟨k,hk,rfl⟩))];exact g1) ?_ (g2.mono (eT h1))
  rw[g2.length,ZD,ZD]
 refine .ins (c:=5) (dx:=a.dx) (vs:=[a.vr,.int s.n,.ref (a.d 0),.ref (a.d 1),.ref (a.d 2)]) ?_ (by rw[hf];rfl) (.cons (t.rl.mono (eT h1)) (.cons (.int _) (.cons (dd 0 ∅) (.cons (dd 1 ∅) (.cons (dd 2 ∅) .nil)))))
 rw[aK (h2 _ (.inl rfl)),hf]
 exact t.ob
abbrev FB(K:aX)(κ:Kl)(hf:κ.fld 5=gE):kZ K κ where
 Ad:=Bx
 S:=Bs
 B:=BB
 at_:=zV K κ
 ad:=λa=>[a.x]
 pv:=cq
 move:=zV.move
 ex:=λt z=>by
  rcases z with rfl|⟨k,hk,rfl⟩
  ·rw[t.ob];simp
  ·obtain⟨_,h1,_⟩:=t.dc k hk
   rw[h1];simp
 nt:=λt z _ h=>by
  rcases z with rfl|⟨k,hk,rfl⟩
  ·unfold Rd at h
   rw[t.ob]at h
   rcases h with h|⟨o,h⟩<;>cases h
  ·obtain⟨_,h1,_⟩:=t.dc k hk
   unfold Rd at h
   rw[h1]at h
   rcases h with h|⟨o,h⟩<;>cases h
 rd:=λt h1 h2=>.cons (t.rep hf h1 h2) .nil
abbrev FE(K:aX)(κ:Kl):kZ K κ where
 Ad:=Addr
 S:=List PV
 B:=λa=>hU a
 at_:=λa X es H=>∃vs,H a=⇑(.lst vs)/\aL K κ (hide X H) vs es
 ad:=λa=>[a]
 pv:=λes=>[.lst es]
 move:=λe k ⟨vs,h1,h2⟩=>⟨vs,k _ _ rfl h1,h2.mono e⟩
 ex:=λ⟨vs,h1,_⟩ z=>by rw[show _=_ from z,h1];simp
 nt:=λ⟨vs,h1,_⟩ z _ h=>by
  unfold Rd at h
  rw[show _=_ from z,h1]at h
  rcases h with h|⟨o,h⟩<;>cases h
 rd:=λ⟨vs,h1,h2⟩ hA hB=>.cons (.lst (SL.of (by rw[aK (hB _ rfl)];exact h1)) (h2.mono (eT hA))) .nil
abbrev F0(K:aX)(κ:Kl):kZ K κ where
 Ad:=Unit
 S:=Unit
 B:=λ_ _=>False
 at_:=λ_ _ _ _=>True
 ad:=λ_=>[]
 pv:=λ_=>[]
 move:=λ_ _ _=>trivial
 ex:=λ_ z=>z.elim
 nt:=λ_ z=>z.elim
 rd:=λ_ _ _=>.nil
abbrev kZ.two(F1 F2:kZ K κ):kZ K κ where
 Ad:=F1.Ad×F2.Ad
 S:=F1.S×F2.S
 B:=λa b=>F1.B a.1 b\/F2.B a.2 b
 at_:=λa X s H=>F1.at_ a.1 X s.1 H/\F2.at_ a.2 X s.2 H/\∀b,F1.B a.1 b->¬F2.B a.2 b
 ad:=λa=>F1.ad a.1++F2.ad a.2
 pv:=λs=>F1.pv s.1++F2.pv s.2
 move:=λe k t=>⟨F1.move e (λb o z=>k b o (.inl z)) t.1,F2.move e (λb o z=>k b o (.inr z)) t.2.1,t.2.2⟩
 ex:=λt z=>z.elim (F1.ex t.1) (F2.ex t.2.1)
 nt:=λt z=>z.elim (F1.nt t.1) (F2.nt t.2.1)
 rd:=λt h1 h2=>by
  rw[Zr]
  exact(F1.rd t.1 h1 λb z=>h2 b (.inl z)).append (F2.rd t.2.1 h1 λb z=>h2 b (.inr z))
variable{F F1 F2 F':kZ K κ}
abbrev fL.id(F:kZ K κ):fL F F where
 sub:=λa=>a
 get:=λs=>s
 put:=λ_ s=>s
 inB:=λz=>z
 get_at:=λt=>t
 put_at:=λ_ _ _ t=>t
abbrev fL.l(L:fL F1 F'):fL (F1.two F2) F' where
 sub:=λa=>L.sub a.1
 get:=λs=>L.get s.1
 put:=λs t=>(L.put s.1 t,s.2)
 inB:=λz=>.inl (L.inB z)
 get_at:=λt=>L.get_at t.1
 put_at:=λh t e t'=>⟨L.put_at (λb z=>h b (.inl z)) t.1 e t',F2.keep (λb z=>⟨h b (.inl (L.inB z)),t.2.2 b (L.inB z)⟩) e t.2.1,t.2.2⟩
abbrev fL.r(L:fL F2 F'):fL (F1.two F2) F' where
 sub:=λa=>L.sub a.2
 get:=λs=>L.get s.2
 put:=λs t=>(s.1,L.put s.2 t)
 inB:=λz=>.inr (L.inB z)
 get_at:=λt=>L.get_at t.2.1
 put_at:=λh t e t'=>⟨F1.keep (λb z=>⟨h b (.inr (L.inB z)),λy=>t.2.2 b y (L.inB z)⟩) e t.1,L.put_at (λb z=>h b (.inr z)) t.2.1 e t',t.2.2⟩
end
structure C5(K:aX)(κ:Kl):Prop where
 cls:pC K (κ.adr 5)
 na:∀f,f∈gE->cE K (κ.adr 5) f
def vD(s:Bs)(k:Nat)(d:List (Int×PV)):Bs:={s with d:=λj=>if j=k then d else s.d j}
def QV:b7 Bs:=λs ρ=>⇑({s with n:=s.n+1},.nx ρ)
def DV(k:Nat)(fi fv:Den):b7 Bs:=λs ρ=>(fv ρ).bind λp=>(fi ρ).bind λq=>(sH q).bind λi=>if i∉(s.d k).map (·.1)/\(s.d k).length<sizeLine then ⇑(vD s k (s.d k++[(i,p)]),.nx ρ)else none
def zW(k:Nat)(fi:Den):b7 Bs:=λs ρ=>(fi ρ).bind λq=>(sH q).bind λi=>if i∈(s.d k).map (·.1)then ⇑(vD s k ((s.d k).filter λq=>decide (q.1≠i)),.nx ρ)else none
variable{d:List (Int×PV)}
section
variable{K:aX}{X:Addr->Prop}{a:Bx}{s:Bs}
theorem zV.inc(t:zV K κ a X s H)(hx:X a.x):zV K κ a X {s with n:=n} (upd H a.x (Vo κ a n)) where
 ob:=aF
 rl:=by rw[dH hx];exact t.rl
 dc:=λk hk=>by
  obtain⟨vs,h1,h2⟩:=t.dc k hk
  refine⟨vs,?_,by rw[dH hx];exact h2⟩
  rw[au λz=>?_]
  ·exact h1
  ·rw[z,t.ob]at h1
   cases h1
 inj:=t.inj
theorem zV.set(t:zV K κ a X s H){k:Nat}(hk:k<3)(hx:X (a.d k))(r:aL K κ (hide X H) vs (d.map (·.2))):zV K κ a X (vD s k d) (upd H (a.d k) (.dK (yY d vs))) where
 ob:=by
  obtain⟨_,h1,_⟩:=t.dc k hk
  rw[au λz=>?_]
  ·exact t.ob
  ·rw[<-z,t.ob]at h1
   cases h1
 rl:=by rw[dH hx];exact t.rl
 dc:=λj hj=>by
  rw[dH hx]
  show∃R0,upd H (a.d k) _ (a.d j)=⇑(.dK (yY (if j=k then d else s.d j) R0))/\aL K κ (hide X H) R0 ((if j=k then d else s.d j).map (·.2))
  by_cases e:j=k
  ·subst e
   rw[W1 rfl]
   exact⟨vs,aF,r⟩
  ·rw[UF e,au λz=>e (t.inj j k hj hk z)]
   exact t.dc j hj
 inj:=t.inj
theorem Kq{i:Int}(hl:d.length=vs.length)(hi:i∉d.map (·.1)):putK (yY d vs) (.inl i) v=yY (d++[(i,p)]) (vs++[v]):=by
 unfold putK
 have MB:(d.map (·.1)).length=vs.length:=by rw[ZD];exact hl
 rw[qL,yY,nq MB,UF (by simpa using hi)]
 unfold yY
 rw[Zr,Zr,List.zip_append (by simpa using hl)]
 rfl
theorem Kr:(yY d vs).length<=d.length:=by
 unfold yY
 rw[List.length_zip,ZD,ZD]
 exact Nat.min_le_left _ _
theorem xO{i:Int}:∀{d:List (Int×PV)} {vs:List V},aL K κ G vs (d.map (·.2))->∃ws,xA (yY d vs) (.inl i:Key)=yY (d.filter λq=>decide (q.1≠i)) ws/\aL K κ G ws ((d.filter λq=>decide (q.1≠i)).map (·.2))
 |[],[],_=>⟨[],rfl,.nil⟩
 |[],_::_,r=>by cases r
 |_::_,[],r=>by cases r
 |q::d,v::vs,r=>by
  cases r with
  |cons r1 r2=>
  obtain⟨ws,h1,h2⟩:=xO (i:=i) r2
  by_cases e:q.1=i
  ·refine⟨ws,?_,?_⟩
   ·rw[Z9,UF (by simpa using e),<-h1]
    show List.filter _ ((Sum.inl q.1,v)::yY d vs)=_
    rw[Z9,UF (by simpa using e)]
    rfl
   ·rw[Z9,UF (by simpa using e)]
    exact h2
  ·refine⟨v::ws,?_,?_⟩
   ·rw[Z9,W1 (by simpa using e)]
    show List.filter _ ((Sum.inl q.1,v)::yY d vs)=(Sum.inl q.1,v)::yY (d.filter _) ws
    rw[Z9,W1 (by simpa using e),<-h1]
    rfl
   ·rw[Z9,W1 (by simpa using e)]
    exact .cons r1 h2
end
variable{hf:κ.fld 5=gE}
section
variable{F:kZ X.K κ}{e i v:Expr}{fi fv:Den}{fs:bZ}{p3:Pos}{f:Str}{FF:Bs->List PV->Option (Bs×PV)}{k0:Nat}{pl:Sem Bool}
theorem nF(L:fL F (FB X.K κ hf))(C:C5 X.K κ)(hm:Meth X.K (κ.adr 5) m fo)(FO:oj X k0 fo fd pn (EK (FB X.K κ hf) (λa=>[a.x]) FF))(hr:bG k0 X.A)(hb:Binds X.K fd pn [])(ha:DA X κ (e::es) fs)(k:Nat)(hj:js[k]?=⇑j:=by rfl)(ho:∀a,(F.ad a)[k]?=some (L.sub a).x:=by intro _;rfl)
  (hN:X.N[j]?=⇑y:=by rfl)(hv:nW X.env.scope y:=by trivial)(hd:gz y:=by decide)(jQ:yZ y:=by decide)
  (hn:∀u1 u2 u3 u4 u5:V,List.lookup m (gE.zip [u1,u2,u3,u4,u5])=none:=by intros;rfl)
  (ib:gd e es X.env:=by rfl)(hpl:kP bz es X.env:=by rfl)
  (ht:eval (.Call (.Attribute (.Name y p1) m apos) (e::es) [] bz) X.env=(do
    let ov<-eval (.Name y p1) X.env
    standAt apos.atName
    let(f,first)<-holding [ov] (getMethod ov m pl)
    callWith bz f first (backTo bz (starEach (e::es) X.env)) (backToKw bz (keywordEach [] X.env))):=by rfl):BE X κ F js (.Call (.Attribute (.Name y p1) m apos) (e::es) [] bz) (gJ L.get L.put FF fs):=by
 obtain⟨_,h1,h2⟩:=ha
 refine⟨_,uQ (pl:=pl) (bS hN hv hd jQ) C.cls hm FO hr hb .nil eR h1 ib hpl ht,λ{_ G A a s _ _ H _ p Q} r e q=>?_⟩
 obtain⟨_,e1,e2⟩:=ZA.mp e
 obtain⟨r1,hh⟩:=r.un
 refine⟨_,r.self k j _ hj (ho a),_,_,_,rfl,(L.get_at r.at_).ob,hn _ _ _ _ _,h2 r1 e1 λ_ _ s1 z=>?_⟩
 exact zU L (r.mono s1) (by rw[Zh];rfl) (by rw[hh]at z;exact z) e2 q
theorem qZ(L:fL F (FB X.K κ hf))(C:C5 X.K κ)(hm:Meth X.K (κ.adr 5) m fo)(FO:oj X k0 fo fd pn (EK (FB X.K κ hf) (λa=>[a.x]) FF))(hr:bG k0 X.A)(hb:Binds X.K fd pn [])(k:Nat)(hj:js[k]?=⇑j:=by rfl)(ho:∀a,(F.ad a)[k]?=some (L.sub a).x:=by intro _;rfl)
  (hN:X.N[j]?=⇑y:=by rfl)(hv:nW X.env.scope y:=by trivial)(hd:gz y:=by decide)(jQ:yZ y:=by decide)
  (hn:∀u1 u2 u3 u4 u5:V,List.lookup m (gE.zip [u1,u2,u3,u4,u5])=none:=by intros;rfl)
  (ht:eval (.Call (.Attribute (.Name y p1) m apos) [] [] bz) X.env=(do
    let ov<-eval (.Name y p1) X.env
    standAt apos.atName
    let(f,first)<-holding [ov] (getMethod ov m pl)
    callWith bz f first (backTo bz (starEach [] X.env)) (backToKw bz (keywordEach [] X.env))):=by rfl):BE X κ F js (.Call (.Attribute (.Name y p1) m apos) [] [] bz) (gJ L.get L.put FF aB):=by
 refine⟨_,mG (pl:=pl) (bS hN hv hd jQ) C.cls hm FO hr hb .nil eR ht,λ{_ G A a s _ _ H _ p Q} r e q=>?_⟩
 obtain⟨_,e1,e2⟩:=ZA.mp e
 cases e1
 refine⟨_,r.self k j _ hj (ho a),_,_,_,rfl,(L.get_at r.at_).ob,hn _ _ _ _ _,?_⟩
 exact zU (ws:=[]) (E:=E0) L r rfl .nil e2 q
theorem vE{a:Bx}{b:Addr}{o:HO}(h:BB a b):aA (hide (BB a) H) (hide (BB a) (upd H b o)):=by
 rw[dH h]
 exact λ_ _ z=>z
theorem N5(C:C5 X.K κ)(he:DE X κ e (dC (.int 1)))(h0:X.N[0]?=⇑("self" :Str):=by rfl)(hv:nW X.env.scope "self" :=by trivial):BS X κ (FB X.K κ hf) [0] ka (.AugAssign (.Attribute (.Name "self" p1) "entered" p2) .Add e pos) QV:=by
 obtain⟨_,h1,h2⟩:=he
 refine⟨_,tJ (bS h0 hv) h1 E8,λ{_ G A a s _ σ H q D} r e k=>?_⟩
 cases e
 refine⟨_,r.self 0 0 _ rfl rfl,_,_,_,_,.int s.n,rfl,r.at_.ob,C.cls,C.na _ ∅,rfl,r.ev h2 rfl λv _ _ r1 z=>?_⟩
 cases z
 refine⟨s.n,1,rfl,rfl,_,_,r1.at_.ob,(show(5:Nat)<1000 by decide),k σ _ (r1.turn (vE (.inl rfl)) ?_)⟩
 exact r1.at_.inc (.inr (.inl rfl))
theorem zX(C:C5 X.K κ)(k:Nat)(hu:X.A.units+1<cLine)(hi:DE X κ i fi)(he:DE X κ v fv)(hk:k<3:=by decide)(h0:X.N[0]?=⇑("self" :Str):=by rfl)(hv:nW X.env.scope "self" :=by trivial)(hm:f∈gE:=by decide)
  (hl:∀(a:Bx) (n:Int),List.lookup f (gE.zip [a.vr,.int n,.ref (a.d 0),.ref (a.d 1),.ref (a.d 2)])=⇑(.ref (a.d k)):=by intros;rfl)(hb:attributeBase (.Name "self" p1) f X.env (eval (.Name "self" p1) X.env)=eval (.Name "self" p1) X.env:=by rfl)
  (hs:swapsWith v ⇑(.Subscript (.Attribute (.Name "self" p1) f p2) i p3) pos.line X.env=pure false:=by rfl):BS X κ (FB X.K κ hf) [0] ka (.Assign [.Subscript (.Attribute (.Name "self" p1) f p2) i p3] v pos) (DV k fi fv):=by
 obtain⟨_,g1,g2⟩:=hi
 obtain⟨_,h1,h2⟩:=he
 refine⟨_,JW hu (uO (bS h0 hv) hb) g1 h1 hs,λ{_ G A a s _ σ H q D} r e kk=>?_⟩
 obtain⟨p,e1,e2⟩:=ZA.mp e
 obtain⟨q1,e3,e4⟩:=ZA.mp e2
 obtain⟨n,e5,e6⟩:=ZA.mp e4
 obtain⟨⟨hn,hz⟩,e7⟩:=df e6
 cases e7
 cases q1<;>first|(cases e5;done)|skip
 cases e5
 refine r.ev h2 e1 λw _ _ r1 z1=>⟨_,r1.self 0 0 _ rfl rfl,_,_,_,_,_,rfl,r1.at_.ob,C.cls,C.na _ hm,hl _ _,r1.ev g2 e3 λ_ _ s2 r2 z2=>?_⟩
 cases z2
 obtain⟨vs,d1,d2⟩:=r2.at_.dc k hk
 refine⟨_,_,rfl,Ga.k (k:=.inl n) d1 (Nat.lt_of_le_of_lt Kr hz),?_⟩
 have hlen:(s.d k).length=vs.length:=by rw[d2.length,ZD]
 rw[Kq (p:=p) hlen hn]
 refine kk σ _ (r2.turn (vE (.inr ⟨k,hk,rfl⟩)) (r2.at_.set hk (.inr (.inr ⟨k,hk,rfl⟩)) ?_))
 rw[Zr]
 exact d2.append (.cons (z1.mono (bb s2)) .nil)
theorem zY(C:C5 X.K κ)(k:Nat)(hi:DE X κ i fi)(hk:k<3:=by decide)(h0:X.N[0]?=⇑("self" :Str):=by rfl)(hv:nW X.env.scope "self" :=by trivial)(hm:f∈gE:=by decide)
  (hl:∀(a:Bx) (n:Int),List.lookup f (gE.zip [a.vr,.int n,.ref (a.d 0),.ref (a.d 1),.ref (a.d 2)])=⇑(.ref (a.d k)):=by intros;rfl)(hb:attributeBase (.Name "self" p1) f X.env (eval (.Name "self" p1) X.env)=eval (.Name "self" p1) X.env:=by rfl)
  (dU:attributeBase (.Attribute (.Name "self" p1) f p2) "pop" X.env (eval (.Attribute (.Name "self" p1) f p2) X.env)=eval (.Attribute (.Name "self" p1) f p2) X.env:=by rfl)
  (j5:((backTo bz (starEach [i] X.env)).all (λx=>!x.1)&&(backToKw bz (keywordEach [] X.env)).all (λx=>x.1.isSome)
    &&decide ([i].length+([]:List Keyword).length+(if([]:List Keyword).isEmpty then 0 else 1)<30))=true:=by rfl)
  (hs:swapsWith (.Call (.Attribute (.Attribute (.Name "self" p1) f p2) "pop" apos) [i] [] bz) none pos.line X.env=pure false:=by rfl)(dW:(apos.endLine==bz.line)=true:=by rfl)(ib:gd i [] X.env:=by rfl):
  BS X κ (FB X.K κ hf) [0] ka (.Expr (.Call (.Attribute (.Attribute (.Name "self" p1) f p2) "pop" apos) [i] [] bz) pos) (zW k fi):=by
 obtain⟨_,g1,g2⟩:=hi
 refine⟨_,eL (tO z0C PySem.F.slot_dict_pop PySem.F.type_dict_pop Kg (uO (bS h0 hv) hb) (aN g1 bx ib) dU j5 dW ib rfl) hs,λ{_ G A a s _ σ H q D} r e kk=>?_⟩
 obtain⟨q1,e3,e4⟩:=ZA.mp e
 obtain⟨n,e5,e6⟩:=ZA.mp e4
 obtain⟨hn,e7⟩:=df e6
 cases e7
 cases q1<;>first|(cases e5;done)|skip
 cases e5
 obtain⟨vs,d1,d2⟩:=r.at_.dc k hk
 refine⟨_,r.self 0 0 _ rfl rfl,_,_,_,_,_,rfl,r.at_.ob,C.cls,C.na _ hm,hl _ _,.inr (.inr (.inl ⟨rfl,.inl ⟨_,d1⟩⟩)),r.ev g2 e3 λ_ _ _ r2 z2=>?_⟩
 cases z2
 obtain⟨vs,d1,d2⟩:=r2.at_.dc k hk
 have hlen:((s.d k).map (·.1)).length=vs.length:=by rw[d2.length,ZD,ZD]
 have QW:(m6 (yY (s.d k) vs) (.inl n)).isSome=true:=by
  unfold yY
  rw[nq hlen]
  exact SZ hn
 obtain⟨v,OY⟩:=YE.mp QW
 obtain⟨_,k1,k2⟩:=xO (i:=n) d2
 refine⟨_,_,n,v,rfl,rfl,d1,OY,?_⟩
 rw[k1]
 exact kk σ _ (r2.turn (vE (.inr ⟨k,hk,rfl⟩)) (r2.at_.set hk (.inr (.inr ⟨k,hk,rfl⟩)) k2))
end
def xP{T:Type}(s:S)(q:Option (T×Fl)):Option (S×Fl):=q.bind λq=>match q.2 with
 |.rt p=>⇑(s,.rt p)
 |_=>none
def Uc(rl:PV):Bs:=⟨rl,0,λ_=>[]⟩
def xQ(i:Nat)(FI:PV->Option PV)(fe:Den)(g:b7 (Bs×S)):b7 S:=λs ρ=>if i<ρ.length then(fe ρ).bind λp=>(FI p).bind λrl=>xP s (g (Uc rl,s) (ρ.set i .un))else none
def BJ(i:Nat)(g:b7 (List PV×S)):b7 S:=λs ρ=>if i<ρ.length then xP s (g ([],s) (ρ.set i .un))else none
def BK(i:Nat)(g:b7 S):b7 (List PV×S):=λs ρ=>xP s (g s.2 (ρ.set i (.sh (.lst s.1))))
def N6(K:aX)(κ:Kl)(FI:PV->Option PV):Sp:=λvs H Q _=>∃(A:Addr->Prop) (x dx:Addr) (v:V) (p rl:PV),vs=[.ref x,v]/\(∀b,A b->H b≠none)/\¬A x/\H x=⇑(.ins (κ.adr 5) dx [])/\Rep K κ (hide (A1 A x) H) v p/\FI p=⇑rl/\
 ∀(a:Bx) H',a.x=x->(∀b o,H b=⇑o->b≠x->H' b=⇑o)->(∀k,k<3->H (a.d k)=none)->zV K κ a (Aw A (BB a)) (Uc rl) H'->Q .non H'
def Vp(X:Cx)(κ:Kl)(Ud:List Stmt)(f1:Den):Prop:=∃ts,sL X Ud ts/\∀{A x dx v p rl H D},(∀b,A b->H b≠none)->¬A x->H x=⇑(.ins (κ.adr 5) dx [])->Rep X.K κ (hide (A1 A x) H) v p->f1 [.un,.sh p]=⇑rl->
 (∀(a:Bx) σ' H',a.x=x->(∀b o,H b=⇑o->b≠x->H' b=⇑o)->(∀k,k<3->H (a.d k)=none)->zV X.K κ a (Aw A (BB a)) (Uc rl) H'->D.nx σ' H')->ts D [⇑(.ref x),⇑v] H
variable{f1:Den}{e1:Expr}
theorem QX{a1 a2 a4 b1 b2 b3 b4 c1 c2 c3 c4 d1 d2 d3 d4 g1 g2 g3 g4:Pos}(C:C5 X.K κ)(he:DE X κ e1 f1)(h0:X.N[0]?=⇑("self" :Str):=by rfl)(hv:nW X.env.scope "self" :=by trivial)
  (w1:swapsWith e1 ⇑(.Attribute (.Name "self" a1) "roll" a2) a4.line X.env=pure false:=by rfl)(w2:swapsWith (.Constant (.int 0) j b3) ⇑(.Attribute (.Name "self" b1) "entered" b2) b4.line X.env=pure false:=by rfl)
  (w3:swapsWith (.Dict [] [] c3) ⇑(.Attribute (.Name "self" c1) "rulings" c2) c4.line X.env=pure false:=by rfl)(w4:swapsWith (.Dict [] [] d3) ⇑(.Attribute (.Name "self" d1) "absences" d2) d4.line X.env=pure false:=by rfl)(w5:swapsWith (.Dict [] [] g3) ⇑(.Attribute (.Name "self" g1) "deputings" g2) g4.line X.env=pure false:=by rfl):
  Vp X κ [.Assign [.Attribute (.Name "self" a1) "roll" a2] e1 a4,.Assign [.Attribute (.Name "self" b1) "entered" b2] (.Constant (.int 0) j b3) b4,.Assign [.Attribute (.Name "self" c1) "rulings" c2] (.Dict [] [] c3) c4,.Assign [.Attribute (.Name "self" d1) "absences" d2] (.Dict [] [] d3) d4,.Assign [.Attribute (.Name "self" g1) "deputings" g2] (.Dict [] [] g3) g4] f1:=by
 obtain⟨_,p1,q1⟩:=he
 refine⟨_,b6 (ic (bS h0 hv) p1 w1) (b6 (ic (bS h0 hv) uJ w2) (b6 (ic (bS h0 hv) qM w3) (b6 (ic (bS h0 hv) qM w4) (dj (ic (bS h0 hv) qM w5))))),?_⟩
 intro A x dx v p _ H D al na ob rv hf q
 obtain⟨r,hh⟩:=R.plain (K:=X.K) (κ:=κ) (A:=A1 A x) (H:=H) (ρ:=[.un,.sh p]) (σ:=[⇑(.ref x),⇑v]) (λb z=>z.elim (al b) λz=>by rw[z,ob];simp) (λi z e=>by
  match i,e with
  |0,rfl=>exact .inl rfl
  |1,rfl=>exact .inr ⟨_,_,rfl,rfl,rv⟩
  |i+2,e=>cases e) rfl
 refine q1 r hf λv1 _ s1 z1=>?_
 rw[hh]at z1
 have o1:=s1 _ _ ob
 refine⟨_,rfl,x,_,dx,_,rfl,o1,C.cls,C.na _ ∅,(show(0:Nat)<1000 by decide),?_⟩
 refine⟨_,rfl,x,_,dx,_,rfl,aF,C.cls,C.na _ ∅,(show(1:Nat)<1000 by decide),?_⟩
 intro d0 n0
 obtain⟨x0,n0⟩:=dX n0
 obtain⟨_,n0⟩:=dX n0
 refine⟨_,rfl,x,_,dx,_,rfl,(au (Ne.symm x0)).trans aF,C.cls,C.na _ ∅,(show(2:Nat)<1000 by decide),?_⟩
 intro e0 m0
 obtain⟨y0,m0⟩:=dX m0
 obtain⟨y1,m0⟩:=dX m0
 obtain⟨_,m0⟩:=dX m0
 obtain⟨_,m0⟩:=dX m0
 refine⟨_,rfl,x,_,dx,_,rfl,(au (Ne.symm y0)).trans aF,C.cls,C.na _ ∅,(show(3:Nat)<1000 by decide),?_⟩
 intro k0 l0
 obtain⟨u0,l0⟩:=dX l0
 obtain⟨u1,l0⟩:=dX l0
 obtain⟨_,l0⟩:=dX l0
 obtain⟨u2,l0⟩:=dX l0
 obtain⟨_,l0⟩:=dX l0
 obtain⟨_,l0⟩:=dX l0
 refine⟨_,rfl,x,_,dx,_,rfl,(au (Ne.symm u0)).trans aF,C.cls,C.na _ ∅,(show(4:Nat)<1000 by decide),?_⟩
 refine q ⟨x,dx,v1,λk=>if k=0 then d0 else if k=1 then e0 else k0⟩ _ _ rfl (λb o hb ne=>?_) (λk hk=>?_) ⟨aF,z1.mono λb o hb=>?_,λk hk=>⟨[],?_,.nil⟩,λi k hi hk e=>?_⟩
 ·have g:=s1 b o hb
  rw[au ne,au (aO g l0),au ne,au (aO g m0),au ne,au (aO g n0),au ne,au ne]
  exact g
 ·match k,hk with
  |0,_=>exact s1.free n0
  |1,_=>exact s1.free m0
  |2,_=>exact s1.free l0
 ·obtain⟨nb,g⟩:=aI hb
  have ne:b≠x:=λz=>nb (.inr z)
  rw[aK,au ne,au (aO g l0),au ne,au (aO g m0),au ne,au (aO g n0),au ne,au ne]
  ·exact g
  ·rintro(z|z|⟨k,hk,z⟩)
   ·exact nb (.inl z)
   ·exact ne z
   ·match k,hk with
    |0,_=>exact aO g n0 z
    |1,_=>exact aO g m0 z
    |2,_=>exact aO g l0 z
 ·match k,hk with
  |0,_=>exact(au x0).trans ((au (Ne.symm u2)).trans ((au x0).trans ((au (Ne.symm y1)).trans ((au x0).trans aF))))
  |1,_=>exact(au y0).trans ((au (Ne.symm u1)).trans ((au y0).trans aF))
  |2,_=>exact(au u0).trans aF
 ·match i,k,hi,hk with
  |0,0,_,_=>rfl
  |0,1,_,_=>exact absurd e (Ne.symm y1)
  |0,2,_,_=>exact absurd e (Ne.symm u2)
  |1,0,_,_=>exact absurd e y1
  |1,1,_,_=>rfl
  |1,2,_,_=>exact absurd e (Ne.symm u1)
  |2,0,_,_=>exact absurd e u2
  |2,1,_,_=>exact absurd e u1
  |2,2,_,_=>rfl
section
variable{w:World}{K:aX}{mg:Str->Option Value}
theorem DY{k:Nat}(F:A4 K x qual st f fd)(S:az N ps (aC st))(h1:N.length=2)(h2:ps.length=2)
  (hb:∀(cK:Value) (A:Around) (outer:List Env) (s:Shared) (H:Hp) (E:XK),bG k (A.deeper (envOfC qual (aC st) ↥s f cK))->Vp (fT qk P w K mg base N qual (aC st) f cK A outer s H E).AR κ (eh st) f1):
  dS P w K mg base qk (k+1) f fd ps (N6 K κ λp=>f1 [.un,.sh p]):=by
 refine F.ok S (λ_ H Q E h=>?_) (λcK A outer s H _ Q E hr h=>?_)
 ·obtain⟨_,x,_,v,p,_,rfl,_⟩:=h
  exact h2.symm
 ·obtain⟨_,x,_,v,p,_,rfl,al,na,ob,rv,e1,q⟩:=h
  obtain⟨ts,a1,a2⟩:=hb cK A outer s H E hr
  refine⟨ts,a1,?_⟩
  have es:start N [V.ref x,v]=[⇑(.ref x),⇑v]:=by
   unfold start
   rw[h1]
   rfl
  rw[es]
  exact a2 al na ob rv e1 λa _ H' z1 z2 z3 z4=>q a H' z1 z2 z3 z4
end
section
variable{K:aX}{F F2:kZ K κ}{a:F.Ad}{s:F.S}{a2:F2.Ad}{s2:F2.S}{x:Addr}
theorem RB.grow(r:RB F js B0 G A a s ρ σ H)(hi:i∉js)(hl:i<ρ.length)(e:aA H H')(nw:∀b,F2.B a2 b->H b=none)(hx:F2.ad a2=[x])(t:F2.at_ a2 (Aw (Aw A (F.B a)) (F2.B a2)) s2 H'):RB (F2.two F) (i::js) B0 G A (a2,a) (s2,s) (ρ.set i .un) (σ.set i ⇑(.ref x)) H':=by
 have sm:aA (hide (Aw A (F.B a)) H) (hide (Aw A ((F2.two F).B (a2,a))) H'):=λb o h=>by
  obtain⟨h1,h2⟩:=aI h
  rw[aK λz=>?_]
  ·exact e _ _ h2
  ·rcases z with z|z|z
   ·exact h1 (.inl z)
   ·rw[nw b z]at h2
    cases h2
   ·exact h1 (.inr z)
 have fresh:∀b,F2.B a2 b->¬A b:=λb z y=>r.al b y (nw b z)
 refine⟨λb z y=>r.al b z (e.free y),λb z=>z.elim (fresh b) (r.na b),r.fr.trans e,λb z=>?_,λj z h=>?_,by rw[Zo,Zo];exact r.len,λk j y h1 h2=>?_,λj h=>?_,?_⟩
 ·rcases z with z|z
  ·by_cases hb:B0 b
   ·exact .inl hb
   ·refine .inr ?_
    cases q:G b with
    |none=>rfl
    |some o=>
     have:=r.fr b o (by rw[aK hb];exact q)
     rw[nw b z]at this
     cases this
  ·exact r.nb b z
 ·rw[ZO]at h
  split at h
  ·first|(cases h;exact .inl rfl)|(split at h;(cases h;exact .inl rfl);cases h)
  ·rename_i ne
   rw[Zj ne]
   exact(r.sl j z h).imp id λ⟨p,v,g1,g2,g3⟩=>⟨p,v,g1,g2,g3.mono sm⟩
 ·cases k with
  |zero=>
   cases h1
   have h2:(F2.ad a2++F.ad a)[0]?=⇑y:=h2
   rw[hx]at h2
   cases h2
   rw[ZO,W1 rfl,W1 (by rw[r.len];exact hl)]
  |succ k=>
   have h2:(F2.ad a2++F.ad a)[k+1]?=⇑y:=h2
   rw[hx]at h2
   have h1:js[k]?=⇑j:=h1
   rw[Zj (show i≠j from λz=>hi (z▸Zv h1))]
   exact r.self k j y h1 h2
 ·rw[ZO]
  split
  ·first|rfl|rw[W1 hl]
  ·rename_i ne
   rcases Zc.mp h with z|z
   ·exact absurd z.symm ne
   ·exact r.zero j z
 ·refine⟨F2.less (λb z=>?_) t,F.move sm (λb o _=>e b o) r.at_,λb z y=>?_⟩
  ·rcases z with z|z|z
   ·exact .inl (.inl z)
   ·exact .inr z
   ·exact .inl (.inr z)
  ·exact F.ex r.at_ y (nw b z)
theorem RB.jW{es:List PV}{le:Addr}(r:RB ((FE K κ).two F) (i::js) B0 G A (le,a) (es,s) ρ σ H)(hi:i∉js):RB F js B0 G A a s (ρ.set i (.sh (.lst es))) σ H:=by
 obtain⟨⟨_,h1,h2⟩,t2,t3⟩:=r.at_
 have ls:∀b,Aw A (F.B a) b->Aw A (((FE K κ).two F).B (le,a)) b:=λb z=>z.elim .inl λz=>.inr (.inr z)
 have si:σ[i]?=⇑(some (.ref le)):=r.self 0 i le rfl rfl
 refine⟨r.al,λb z=>r.na b (.inr z),r.fr,λb z=>r.nb b (.inr z),λj z h=>?_,by rw[Zo];exact r.len,λk j y h1 h2=>r.self (k+1) j y h1 h2,λj h=>?_,F.less ls t2⟩
 ·rw[ZO]at h
  split at h
  ·rename_i e
   subst e
   split at h
   ·cases h
    refine .inr ⟨_,_,rfl,si,.lst (SL.of ?_) (h2.mono (eT ls))⟩
    rw[aK λz=>z.elim (r.na le (.inl rfl)) (t3 le rfl)]
    exact h1
   ·cases h
  ·exact(r.sl j z h).imp id λ⟨p,v,g1,g2,g3⟩=>⟨p,v,g1,g2,g3.mono (eT ls)⟩
 ·rw[Zj (show i≠j from λz=>hi (z▸h))]
  exact r.zero j (ZI _ h)
theorem BD.tail{F':kZ K κ}{W2:List Nat}{a':F'.Ad}{D:Ends}{q:Option (F'.S×Fl)}{q1:F'.S×Fl}{q2:F.S×Fl}(e1:q=⇑q1)(e:xP s q=⇑q2)(k:BD F js False B0 G A a D q2):BD F' W2 False B0 G A a' D q1:=by
 subst e1
 obtain⟨_,fl⟩:=q1
 cases fl with
 |rt p=>cases e;exact λv H z1 _ z3 z4=>k v H z1 (λh=>h.elim) z3 z4
 |_=>cases e
end
variable{k1:Nat}{Sf:FuncData}{Sg:List Str}
section
variable{F:kZ X.K κ}{e:Expr}{fe:Den}{p lp:Pos}
theorem xR{FI:PV->Option PV}{f1:Addr}{g:b7 (Bs×F.S)}(i:Nat)(hN:X.N.Nodup)(M:Mk X.K (κ.adr 5) f1)(FO:oj X k1 f1 Sf Sg (N6 X.K κ FI))(hr:bG (k1+1) X.A)(hm:X.mg x=⇑(.ref (κ.adr 5)))(hb:Binds X.K Sf Sg [])(ha:DE X κ e fe)
  (h:xM X κ ((FB X.K κ hf).two F) (i::js) False rest g)(hi:X.N[i]?=⇑y:=by rfl)(nU:i∉js:=by decide)(hx:Loc X.env.scope y:=by trivial)
  (hs:swapsWith (.Call (.Name x p) [e] [] bz) ⇑(.Name y py) pos.line X.env=pure false:=by rfl)(QY:X.fn y=true\/X.env.scope.names.lookup y=some .local:=by trivial)(hg:Gl X x:=by rfl)(lW:gz x:=by decide)
  (he:gd e [] X.env:=by rfl)(hpl:kP bz [] X.env:=by rfl):xM X κ F js False (.Assign [.Name y py] (.Call (.Name x p) [e] [] bz) pos::rest) (xQ i FI fe g):=by
 obtain⟨te,h1,h2⟩:=ha
 obtain⟨_,QZ,k2⟩:=h
 refine⟨_,b6 (eC hN hi hx (kT M FO hr hg hm hb .nil eR (aN h1 bx he) lW he hpl) hs QY) QZ,λ{_ G A a s _ _ H q D} r e k=>?_⟩
 obtain⟨hl,e⟩:=df e
 obtain⟨p0,e1,e2⟩:=ZA.mp e
 obtain⟨rl,e3,e4⟩:=ZA.mp e2
 obtain⟨_,e5,_⟩:=ZA.mp e4
 refine r.ev (te:=te) h2 e1 λv H1 _ r1 z1=>?_
 intro x dx EM Ks _
 have g1:∀b o,H1 b=⇑o->upd (upd H1 dx (.own x)) x (.ins (κ.adr 5) dx []) b=⇑o:=λb o q=>by
  rw[au (aO q EM),au (aO q Ks)]
  exact q
 have nx:¬Aw A (F.B a) x:=λz=>r1.un.1.al x z EM
 refine⟨Aw A (F.B a),x,dx,v,p0,rl,rfl,λb z y=>?_,nx,aF,z1.mono λb o w=>?_,e3,λab _ ex s3 n3 t3=>⟨rfl,?_⟩⟩
 ·cases q:H1 b with
  |none=>exact r1.un.1.al b z q
  |some o=>rw[g1 b o q]at y;cases y
 ·obtain⟨w1,w2⟩:=aI w
  rw[aK λz=>z.elim w1 (aO w2 EM)]
  exact g1 b o w2
 ·subst ex
  refine k2 (r1.grow (F2:=FB X.K κ hf) (a2:=ab) nU hl (λb o q=>s3 b o (g1 b o q) (aO q EM)) (λb z=>?_) rfl t3) e5 (k.tail e5 e4)
  rcases z with z|⟨k,hk,z⟩
  ·rw[z];exact EM
  ·rw[z]
   cases q:H1 (ab.d k)with
   |none=>rfl
   |some o=>
    have:=n3 k hk
    rw[g1 _ o q]at this
    cases this
theorem GQ{g:b7 (List PV×F.S)}(i:Nat)(hN:X.N.Nodup)(h:xM X κ ((FE X.K κ).two F) (i::js) False rest g)(hi:X.N[i]?=⇑y:=by rfl)(nU:i∉js:=by decide)(hx:Loc X.env.scope y:=by trivial)
  (hs:swapsWith (.List [] lp) ⇑(.Name y py) pos.line X.env=pure false:=by rfl)(QY:X.fn y=true\/X.env.scope.names.lookup y=some .local:=by trivial):xM X κ F js False (.Assign [.Name y py] (.List [] lp) pos::rest) (BJ i g):=by
 obtain⟨_,QZ,k2⟩:=h
 refine⟨_,b6 (eC hN hi hx (zg bx) hs QY) QZ,λ{_ G A a s _ _ H q D} r e k=>?_⟩
 obtain⟨hl,e⟩:=df e
 obtain⟨_,e5,_⟩:=ZA.mp e
 refine⟨Zm _,λb hb=>?_⟩
 exact k2 (r.grow (F2:=FE X.K κ) (a2:=b) nU hl (bL hb) (λc z=>by rw[show c=b from z];exact hb) rfl ⟨[],aF,.nil⟩) e5 (k.tail e5 e)
theorem GR{g:b7 F.S}(i:Nat)(h:xM X κ F js False rest g)(nU:i∉js:=by decide):xM X κ ((FE X.K κ).two F) (i::js) False rest (BK i g):=by
 obtain⟨_,QZ,k2⟩:=h
 refine⟨_,QZ,λ{_ G A a s _ _ H q D} r e k=>?_⟩
 obtain⟨_,e5,_⟩:=ZA.mp e
 exact k2 (RB.jW (le:=a.1) (a:=a.2) (es:=s.1) (s:=s.2) r nU) e5 (k.tail e5 e)
end
def tupP:Nat->PV->Bool
 |_,.non=>true
 |_,.bl _=>true
 |_,.int _=>true
 |_,.str _=>true
 |n+1,.tup l=>l.all (tupP n)
 |_,_=>false
section
variable{K:aX}{B:Addr->Prop}
theorem aL.xS{P:PV->Bool}(h:∀v p,P p=true->Rep K κ H1 v p->Rep K κ H2 v p):∀{vs:List V} {l:List PV},l.all P=true->aL K κ H1 vs l->aL K κ H2 vs l
 |_,_,_,.nil=>.nil
 |_,_,a,.cons r t=>by
  rw[YH,ZS]at a
  exact .cons (h _ _ a.1 r) (aL.xS h a.2 t)
theorem Rep.xS(hb:∀b,B b->∀xs,¬Rd H b (.tup xs)):∀(n:Nat) (v:V) (p:PV),tupP n p=true->Rep K κ (hide A H) v p->Rep K κ (hide (Aw A B) H) v p
 |n,v,p,hp,r=>by
  cases r with
  |non=>exact .non
  |bl b=>exact .bl b
  |int i=>exact .int i
  |str x=>exact .str x
  |lst h q=>cases n<;>cases hp
  |tup h q=>
   cases n with
   |zero=>cases hp
   |succ n=>
    refine .tup (h.elim (λh=>.inl ?_) .inr) (aL.xS (λv p=>Rep.xS hb n v p) hp q)
    rcases h with h|⟨o,h⟩
    ·obtain⟨h1,h2⟩:=aI h
     exact .inl ((aK λz=>z.elim h1 λz=>hb _ z _ (.inl h2)).trans h2)
    ·obtain⟨h1,h2⟩:=aI h
     exact .inr ⟨o,(aK λz=>z.elim h1 λz=>hb _ z _ (.inr ⟨o,h2⟩)).trans h2⟩
  |ins _ _ _=>cases n<;>cases hp
  |dct _ _ _=>cases n<;>cases hp
end
def BL(w:S->bU->bU)(i:Nat)(f:Den):b7 S:=λs ρ=>(f (w s ρ)).bind λp=>if tupP 12 p then ⇑(s,.nx (ρ.set i (.sh p)))else none
def BM(fk fv:Den):b7 (List PV×S):=λs ρ=>(fv ρ).bind λy=>(fk ρ).bind λp=>(sH p).bind λj=>(LG s.1.length j).map λn=>((s.1.set n y,s.2),.nx ρ)
def BN(f:Den):b7 (List PV×S):=λs ρ=>(f ρ).bind λp=>if s.1.length<sizeLine then ⇑((s.1++[p],s.2),.nx ρ)else none
section
variable{K:aX}{F:kZ K κ}{a:F.Ad}{s:F.S}{le:Addr}{es OW:List PV}
theorem RB.refill(r:RB ((FE K κ).two F) js B0 G A (le,a) (es,s) ρ σ H)(h:aL K κ (hide (Aw A (((FE K κ).two F).B (le,a))) H) ws OW):RB ((FE K κ).two F) js B0 G A (le,a) (OW,s) ρ σ (upd H le (.lst ws)):=by
 obtain⟨_,t2,t3⟩:=r.at_
 have hX:Aw A (((FE K κ).two F).B (le,a)) le:=.inr (.inl rfl)
 refine r.turn ?_ ⟨⟨ws,aF,by rw[dH hX];exact h⟩,F.move (by rw[dH hX];exact λ_ _ z=>z) (λb o z e=>?_) t2,t3⟩
 ·rw[dH (show((FE K κ).two F).B (le,a) le from .inl rfl)]
  exact λ_ _ z=>z
 ·rw[au λy=>?_]
  ·exact e
  ·subst y
   exact t3 _ rfl z
end
variable{p':Pos}
section
variable{F:kZ X.K κ}{e kk:Expr}{f fk:Den}{sp:Pos}
theorem Kt(i:Nat)(hN:X.N.Nodup)(he:DE X κ e f)(hi:X.N[i]?=⇑y:=by rfl)(nU:i∉js:=by decide)(hx:Loc X.env.scope y:=by trivial)(hs:swapsWith e ⇑(.Name y py) pos.line X.env=pure false:=by rfl)
  (hf:X.fn y=true\/X.env.scope.names.lookup y=some .local:=by trivial):BS X κ F js ka (.Assign [.Name y py] e pos) (BL (vw F.pv js) i f):=by
 obtain⟨_,h1,h2⟩:=he
 refine⟨_,eC hN hi hx h1 hs hf,λ{_ G A a s _ _ H q D} r e k=>?_⟩
 obtain⟨p,e1,e2⟩:=ZA.mp e
 obtain⟨ue,e3⟩:=aQ e2
 cases e3
 exact r.Sd h2 e1 λv _ _ r' z=>k _ _ (r'.set nU (Rep.xS (λb hb=>F.nt r'.at_ hb) 12 v p ue z))
theorem Ku(j:Nat)(hk:DE X κ kk fk)(he:DE X κ e f)(hN:X.N[j]?=⇑y:=by rfl)(hv:nW X.env.scope y:=by trivial)(hd:gz y:=by decide)
  (jQ:yZ y:=by decide)
  (ha:∀v,assign (.Subscript (.Name y p') kk sp) X.env v=(do
    let ov<-holding [v] (eval (.Name y p') X.env)
    let iv<-holding [v,ov] (eval kk X.env)
    standAt sp
    holding [v,ov,iv] (setItem ov iv v)
    release [v,ov,iv] []):=by intro _;rfl)
  (hs:swapsWithSole [.Subscript (.Name y p') kk sp] e pos.line X.env=pure false:=by rfl)(hw:swappedStores [.Subscript (.Name y p') kk sp] e X.env=pure none:=by rfl)
  (W3:(assignEach [.Subscript (.Name y p') kk sp] X.env).map (·.2)=[assign (.Subscript (.Name y p') kk sp) X.env]:=by rfl):BS X κ ((FE X.K κ).two F) (j::js) ka (.Assign [.Subscript (.Name y p') kk sp] e pos) (BM fk f):=by
 obtain⟨te,h1,h2⟩:=he
 obtain⟨_,h3,h4⟩:=hk
 refine⟨_,ML h1 (MK (bS hN hv hd jQ) h3 set_list ha) hs hw W3,λ{_ G A a s _ _ H q D} r e k=>?_⟩
 obtain⟨_,e1,e2⟩:=ZA.mp e
 obtain⟨p,e3,e4⟩:=ZA.mp e2
 obtain⟨i,e5,e6⟩:=ZA.mp e4
 obtain⟨n,e9,rfl⟩:=ZC.mp e6
 cases p<;>first|(cases e5;done)|skip
 cases e5
 refine r.ev (te:=te) h2 e1 λv _ _ r1 z1=>⟨_,r1.self 0 j a.1 rfl rfl,r1.ev h4 e3 λ_ _ s2 r2 z2=>?_⟩
 cases z2
 obtain⟨⟨vs,g1,g2⟩,_⟩:=r2.at_
 refine⟨_,vs,i,n,rfl,rfl,g1,by rw[g2.length];exact e9,k _ _ (RB.refill (le:=a.1) (a:=a.2) (es:=s.1) (s:=s.2) r2 (g2.set (z1.mono (bb s2)) n))⟩
theorem Kv(j:Nat)(he:DE X κ e f)(hN:X.N[j]?=⇑y:=by rfl)(hv:nW X.env.scope y:=by trivial)(hd:gz y:=by decide)
  (jQ:yZ y:=by decide)(dU:attributeBase (.Name y p') "append" X.env (eval (.Name y p') X.env)=eval (.Name y p') X.env:=by rfl)
  (j5:((backTo bz (starEach [e] X.env)).all (λx=>!x.1)&&(backToKw bz (keywordEach [] X.env)).all (λx=>x.1.isSome)
    &&decide ([e].length+([]:List Keyword).length+(if([]:List Keyword).isEmpty then 0 else 1)<30))=true:=by rfl)
  (hs:swapsWith (.Call (.Attribute (.Name y p') "append" apos) [e] [] bz) none pos.line X.env=pure false:=by rfl)(dW:(apos.endLine==bz.line)=true:=by rfl)(ib:gd e [] X.env:=by rfl):
  BS X κ ((FE X.K κ).two F) (j::js) ka (.Expr (.Call (.Attribute (.Name y p') "append" apos) [e] [] bz) pos) (BN f):=by
 obtain⟨te,h1,h2⟩:=he
 refine⟨_,eL (tO Yw Yu Yv oi (bS hN hv hd jQ) (aN h1 bx ib) dU j5 dW ib rfl) hs,λ{_ G A a s _ _ H q D} r e k=>?_⟩
 obtain⟨p,e1,e2⟩:=ZA.mp e
 obtain⟨hl,e6⟩:=df e2
 cases e6
 obtain⟨⟨vs,g1,g2⟩,_⟩:=r.at_
 refine⟨_,r.self 0 j a.1 rfl rfl,.inl ⟨rfl,vs,jv.of g1⟩,r.ev (te:=te) h2 e1 λv _ _ r1 z1=>?_⟩
 obtain⟨⟨vs,g1,g2⟩,_⟩:=r1.at_
 exact⟨_,vs,_,rfl,rfl,g1,by rw[g2.length];exact hl,k _ _ (RB.refill (le:=a.1) (a:=a.2) (es:=s.1) (s:=s.2) r1 (g2.append (.cons z1 .nil)))⟩
end
section
variable{w:World}{K:aX}{mg:Str->Option Value}
def Si(n k:Nat)(g:b7 Unit)(ps:List PV):Option PV:=if ps.length=k then(g () (eD n ps)).bind λq=>vb false q.2 else none
theorem Q0{k:Nat}{g:b7 Unit}(Fn:A4 K x qual st f fd)(S:az N ps (aC st))
  (hb:∀(cK:Value) (A:Around) (outer:List Env) (s:Shared) (H:Hp) (E:XK),bG k (A.deeper (envOfC qual (aC st) ↥s f cK))->xM (fT qk P w K mg base N qual (aC st) f cK A outer s H E).AR κ (F0 K κ) [] False (eh st) g):
  dS P w K mg base qk (k+1) f fd ps (eY K κ false (Si N.length ps.length g)):=by
 refine Fn.ok S (λvs H Q E h=>?_) (λcK A outer s H vs Q E hr h=>?_)
 ·obtain⟨A,qs,p,_,h1,h2,_⟩:=h
  unfold Si at h2
  rw[h1.length]
  exact(df h2).1
 ·obtain⟨A',qs,p,al,h1,h2,q⟩:=h
  obtain⟨ts,a1,a2⟩:=hb cK A outer s H E hr
  refine⟨ts,a1,?_⟩
  unfold Si at h2
  obtain⟨_,h3⟩:=df h2
  obtain⟨⟨_,fl⟩,e1,e2⟩:=ZA.mp h3
  have r0:=R.entry (N:=N) al h1
  have hA:Aw A' ((F0 K κ).B ())=A':=by
   funext b
   exact propext ⟨λz=>z.elim id λz=>z.elim,.inl⟩
  have hh:cA A' (λ_=>0) (eD N.length qs) H=hide A' H:=by
   unfold cA
   congr 1
   funext b
   refine propext ⟨λz=>z.elim id λb9=>?_,.inl⟩
   obtain⟨j,m,z,_⟩:=b9
   rcases ir z with⟨_,_,z⟩|z<;>cases z
  have r:RB (F0 K κ) [] (λ_=>False) H A' () () (eD N.length qs) (start N vs) H:=⟨al,λb z=>z.elim,aE,λb z=>z.elim,λi z e=>by
   rw[hA]
   rcases ir e with⟨p,h1,rfl⟩|z
   ·obtain⟨v,g1,g2⟩:=r0.sh i p e
    exact .inr ⟨p,v,rfl,g1,by rw[hh]at g2;exact g2⟩
   ·exact .inl z,r0.len,λk j x h=>(by cases h),λj h=>(by cases h),trivial⟩
  have same:∀{H':Hp},aA (hide (λ_=>False) H) H'->aA H H':=λ{H'} z b o h=>z b o (by rw[aK λz=>z];exact h)
  refine a2 r e1 ?_
  cases fl with
  |rt p'=>cases e2;exact λv H' z1 _ z3 z4=>q v H' (same z1) (Rep.flat z3 z4)
  |nx ρ'=>cases e2;exact λ_ H' r'=>q _ _ (same r'.fr) .non
  |_=>cases e2
end
def ra(i:Nat)(g:lJ):du:=λt n ρ=>(g t n ρ).map λq=>(q.1,.nx (ρ.set i (.ow [q.2])))
def GS(i:Nat)(g:lJ):du:=λt n ρ=>(sP ρ i).bind λl=>(g t n ρ).bind λq=>if l.length<sizeLine then ⇑(q.1,.nx (ρ.set i (.ow (l++[q.2]))))else none
def xT(F:FP)(f:Den)(g:lJ):du:=λt n ρ=>(f (wQ t n ρ)).bind λa=>if flat a then(g t n ρ).bind λq=>(F [a,q.2]).map λp=>(q.1,.rt p)else none
variable{F:FP}
section
variable{e a:Expr}{lp:Pos}
theorem GU(i:Nat)(hN:X.N.Nodup)(h:QE X κ false e ge)(hi:X.N[i]?=⇑y:=by rfl)(nU:i≠0:=by decide)(hx:Loc X.env.scope y:=by trivial)(hs:swapsWith (.List [e] lp) ⇑(.Name y py) pos.line X.env=pure false:=by rfl)
  (hf:X.fn y=true\/X.env.scope.names.lookup y=some .local:=by trivial)(ib:gd e [] X.env:=by rfl):QS X κ fr (.Assign [.Name y py] (.List [e] lp) pos) (ra i ge):=by
 obtain⟨_,h1,h2⟩:=h
 refine⟨_,eC hN hi hx (zg (aN h1 bx ib)) hs hf,λ{G A x _ _ t n own ρ _ H q D} r e k=>?_⟩
 obtain⟨⟨_,p⟩,e1,rfl⟩:=ZC.mp e
 refine h2 r e1 λv H1 r1 _ z=>⟨(show(1:Nat)<=sizeLine by decide),λb hb=>?_⟩
 obtain⟨c7,r'⟩:=r1.r.Qq (i:=i) (bL hb) (r1.r.sQ hb (.cons (show Rep X.K κ (cA (A1 A x) own ρ H1) v p from z) .nil))
 exact k c7 _ _ ⟨r',by rw[Zj nU];exact r1.self,by rw[Zj nU];exact r1.zero,r1.wsr,r1.na,r1.gx⟩
theorem N7(i:Nat)(h:QE X κ false e ge)(hN:X.N[i]?=⇑y:=by rfl)(nU:i≠0:=by decide)(hv:nW X.env.scope y:=by trivial)(hd:gz y:=by decide)
  (jQ:yZ y:=by decide)(dU:attributeBase (.Name y p') "append" X.env (eval (.Name y p') X.env)=eval (.Name y p') X.env:=by rfl)
  (j5:((backTo bz (starEach [e] X.env)).all (λx=>!x.1)&&(backToKw bz (keywordEach [] X.env)).all (λx=>x.1.isSome)
    &&decide ([e].length+([]:List Keyword).length+(if([]:List Keyword).isEmpty then 0 else 1)<30))=true:=by rfl)
  (hs:swapsWith (.Call (.Attribute (.Name y p') "append" apos) [e] [] bz) none pos.line X.env=pure false:=by rfl)(dW:(apos.endLine==bz.line)=true:=by rfl)(ib:gd e [] X.env:=by rfl):
  QS X κ fr (.Expr (.Call (.Attribute (.Name y p') "append" apos) [e] [] bz) pos) (GS i ge):=by
 obtain⟨_,h1,h2⟩:=h
 refine⟨_,eL (tO Yw Yu Yv oi (bS hN hv hd jQ) (aN h1 bx ib) dU j5 dW ib rfl) hs,λ{G A x _ _ t n own ρ σ H q D} r e k=>?_⟩
 obtain⟨l,e3,e4⟩:=ZA.mp e
 obtain⟨⟨_,p⟩,e1,e5⟩:=ZA.mp e4
 obtain⟨hl,e6⟩:=df e5
 cases e6
 have Jw:=g9 e3
 obtain⟨g1,_,vs,g4,_⟩:=r.r.ow i (.l l) Jw
 change H (own i)=⇑(.lst vs)at g4
 refine⟨_,g1,.inl ⟨rfl,vs,jv.of g4⟩,h2 r e1 λv H1 r1 _ z=>?_⟩
 obtain⟨_,_,Qo,g6,g7⟩:=r1.r.ow i (.l l) Jw
 change H1 (own i)=⇑(.lst Qo)at g6
 change aL _ _ _ Qo l at g7
 obtain⟨c7,r'⟩:=r1.r.mut Jw (g7.append (.cons (show Rep X.K κ (cA (A1 A x) own ρ H1) v p from z) .nil))
 refine⟨own i,Qo,_,rfl,rfl,g6,by rw[g7.length];exact hl,k c7 σ _ ⟨r',r1.self,by rw[Zj nU];exact r1.zero,r1.wsr,r1.na,r1.gx⟩⟩
theorem Kw{k:Nat}(C:Cq X.K κ)(FO:oj X k f fd ps (eY X.K κ false F))(hr:bG k X.A)(hm:X.mg x=⇑(.ref f))(hk:PySem.W.keepIn X.K (.ref f)=true)(hb:Binds X.K fd ps [])(ha:DE X κ a fa)(h:QE X κ true e ge)(hg:Gl X x:=by rfl)(lW:gz x:=by decide)
  (he:starEach [a,e] X.env=(false,eval a X.env)::starEach [e] X.env:=by rfl)(ib:gd e [] X.env:=by rfl)(hpl:kP bz [e] X.env:=by rfl):QS X κ false (.Return ⇑(.Call (.Name x p1) [a,e] [] bz) pos) (xT F fa ge):=by
 obtain⟨_,k1,k2⟩:=ha
 obtain⟨_,h1,h2⟩:=h
 refine⟨_,fR (mF FO hr hg hm hk hb .nil eR (aN k1 (aN h1 bx ib) he) lW he hpl),λ{G A x _ _ t n own ρ _ H q D} r e k=>?_⟩
 obtain⟨p0,e1,e2⟩:=ZA.mp e
 obtain⟨ue,e3⟩:=df e2
 obtain⟨⟨_,p2⟩,e4,e5⟩:=ZA.mp e3
 obtain⟨p,e6,rfl⟩:=ZC.mp e5
 refine k2 (r.rd C.fld) e1 λ_ H0 s0 z0=>h2 (r.mono s0) e4 λv H1 r1 _ z=>?_
 have zr:Rep X.K κ (cA (A1 A x) own ρ H1) v p2:=by
  obtain⟨b,_,l,w1,w2,w3,w4,w5⟩:=(show OR X.K κ (cg (A1 A x) own ρ) H0 H1 v p2 from z)
  subst w1 w2
  refine .lst (SL.of ?_) (w5.mono (bW (λ_ _ q=>q) λc q _=>.inl q))
  rw[cA,aK λq=>(r.mono s0).r.Bb q w3]
  exact w4
 refine⟨cg (A1 A x) own ρ,[p0,p2],p,λb hb=>r1.r.Bb hb,.cons (Rep.flat ue z0) (.cons zr .nil),e6,λv' H2 s2 z2=>?_⟩
 have r2:=r1.mono s2
 exact k v' H2 r2.frame r2.ob (z2.mono (bW (λ_ _ q=>q) λb q _=>.inl q))
end
section
variable{K:aX}{x:Addr}{o o':HO}
theorem rb(s:aA (hide (hU x) H) (hide (hU x) H')):aA (cA (A1 A x) own ρ H) (cA (A1 A x) own ρ H'):=λb u h=>by
 obtain⟨nb,hb⟩:=aI h
 rw[cA,aK nb]
 exact fX s (λz=>nb (.inl (.inr z))) hb
theorem R.Q1(r:R K κ (upd G x o) (A1 A x) (λ_=>none) own ρ σ H)(s:aA (hide (hU x) H) (hide (hU x) H'))(e:H' x=⇑o'):R K κ (upd G x o') (A1 A x) (λ_=>none) own ρ σ H':=by
 refine⟨λb h=>?_,λi a vs e=>(by cases e),λb u h=>?_,λi p h=>?_,λi l h=>?_,r.inj,λi l h=>?_,r.len⟩
 ·intro z
  obtain⟨ne,z⟩:=dX z
  have:=r.al b h
  rw[au ne]at this
  exact this z
 ·by_cases ne:b=x
  ·subst ne
   rw[aF]at h
   cases h
   exact e
  ·rw[au ne]at h
   exact fX s ne (r.same b u (by rw[au ne];exact h))
 ·obtain⟨v,h1,h2⟩:=r.sh i p h
  exact⟨v,h1,h2.mono (rb s)⟩
 ·obtain⟨h1,h2,vs,h3,h4⟩:=r.ow i l h
  obtain⟨ne,h2⟩:=dX h2
  exact⟨h1,by rw[au ne];exact h2,vs,fX s ne h3,h4.mono (rb s)⟩
 ·obtain⟨a,vs,z,_⟩:=r.bw i l h
  cases z
theorem GV(h:H x=⇑o):upd H x o=H:=by
 funext b
 by_cases e:b=x
 ·subst e
  rw[aF,h]
 ·rw[au e]
theorem R.N8{k:Nat}{ps:List PV}(hk:ps.length+1=k)(al:∀b,A b->H b≠none)(ob:H x=⇑o)(h:aL K κ (hide (A1 A x) H) ws ps):
  R K κ (upd H x o) (A1 A x) (λ_=>none) (λ_=>0) (.un::(ps.map Slot.sh++List.replicate (N.length-k) .un)) (start N (.ref x::ws)) H/\cA (A1 A x) (λ_=>0) (.un::(ps.map Slot.sh++List.replicate (N.length-k) .un))=hide (A1 A x):=by
 have hl:=h.length
 have slot:∀{i:Nat} {s:Slot},(.un::(ps.map Slot.sh++List.replicate (N.length-k) .un):bU)[i]?=⇑s->s=.un\/∃p j,s=.sh p/\i=j+1/\ps[j]?=⇑p:=λ{i s} e=>by
  cases i with
  |zero=>cases e;exact .inl rfl
  |succ i=>
   rw[YX,YF]at e
   split at e
   ·rw[Za]at e
    obtain⟨q,e1,e2⟩:=ZC.mp e
    exact .inr ⟨q,i,e2.symm,rfl,e1⟩
   ·rw[Z0]at e
    split at e
    ·cases e;exact .inl rfl
    ·cases e
 have sJ:∀{i:Nat} {l:Cn},(.un::(ps.map Slot.sh++List.replicate (N.length-k) .un):bU)[i]?≠⇑(.own l):=λ{i l} e=>by
  rcases slot e with z|⟨_,_,z,_⟩<;>cases z
 have hh:cA (A1 A x) (λ_=>0) (.un::(ps.map Slot.sh++List.replicate (N.length-k) .un))=hide (A1 A x):=by
  funext H
  unfold cA
  congr 1
  funext b
  refine propext ⟨λz=>z.elim id λ⟨j,m,z,_⟩=>absurd z sJ,λz=>.inl z⟩
 refine⟨⟨λb hb=>?_,λi a _ e=>(by cases e),by rw[GV ob];exact λ_ _ z=>z,λi p e=>?_,λi l e=>absurd e sJ,λi j l m e=>absurd e sJ,λi l e=>?_,?_⟩,hh⟩
 ·rw[GV ob]
  rcases hb with hb|hb
  ·exact al b hb
  ·rw[hb,ob]
   exact λz=>by cases z
 ·rcases slot e with z|⟨q,j,z,rfl,e1⟩
  ·cases z
  ·cases z
   obtain⟨v,h1,h2⟩:=h.get e1
   refine⟨v,?_,by rw[hh];exact h2⟩
   unfold start
   rw[ZV,List.cons_append,YX,Zw (by rw[ZD];exact(ZL.mp h1).1),Za,h1]
   rfl
 ·rcases slot e with z|⟨_,_,z,_⟩<;>cases z
 ·unfold start
  simp only[ZT,ZD,ZJ,YB,hl]
  rw[hk]
  omega
end
def ui(n k:Nat)(f1 f2:Den)(ps:List PV):Option Rg:=if ps.length+1=k then(f1 (.un::(ps.map Slot.sh++List.replicate (n-k) .un))).bind λa=>(f2 (.un::(ps.map Slot.sh++List.replicate (n-k) .un))).bind λb=>match a,b with
 |.lst ws,.str s=>⇑⟨ws,s⟩
 |_,_=>none
 else none
def N9(K:aX)(κ:Kl)(F:List PV->Option Rg):Sp:=λvs H Q _=>∃(A:Addr->Prop) (x dx:Addr) (ws:List V) (ps:List PV) (t:Rg),vs=.ref x::ws/\(∀b,A b->H b≠none)/\¬A x/\H x=⇑(.ins (κ.adr 4) dx [])/\aL K κ (hide (A1 A x) H) ws ps/\F ps=⇑t/\
 ∀vw H',aA (hide (hU x) H) (hide (hU x) H')->H' x=⇑(qo κ dx vw t 0)->Rep K κ (hide (A1 A x) H') vw (.lst t.ws)->Q .non H'
structure Vq(K:aX)(κ:Kl):Prop where
 n1:cE K (κ.adr 4) "words"
 n2:cE K (κ.adr 4) "signs"
def W4(K:aX)(κ:Kl)(ts:TS)(f1 f2:Den):Prop:=∀{A x dx own ρ σ H l0 s0 D},R K κ (upd H x (.ins (κ.adr 4) dx [])) (A1 A x) (λ_=>none) own ρ σ H->cA (A1 A x) own ρ=hide (A1 A x)->σ[0]?=⇑(some (.ref x))->H x=⇑(.ins (κ.adr 4) dx [])->f1 ρ=⇑(.lst l0)->f2 ρ=⇑(.str s0)->
 (∀v σ' H',aA (hide (hU x) H) (hide (hU x) H')->H' x=⇑(qo κ dx v ⟨l0,s0⟩ 0)->Rep K κ (hide (A1 A x) H') v (.lst l0)->D.nx σ' H')->ts D σ H
def QI(X:Cx)(κ:Kl)(Ud:List Stmt)(f1 f2:Den):Prop:=∃ts,sL X Ud ts/\W4 X.K κ ts f1 f2
theorem Q2{f2:Den}{e2:Expr}{a1 a2 a4 b1 b2 b4 c1 c2 c4 c5:Pos}(C:Cq X.K κ)(C2:Vq X.K κ)(d1:DE X κ e1 f1)(d2:DE X κ e2 f2)(h0:X.N[0]?=⇑("self" :Str):=by rfl)(hv:nW X.env.scope "self" :=by trivial)
  (w1:swapsWith e1 ⇑(.Attribute (.Name "self" a1) "words" a2) a4.line X.env=pure false:=by rfl)(w2:swapsWith e2 ⇑(.Attribute (.Name "self" b1) "signs" b2) b4.line X.env=pure false:=by rfl)(w3:swapsWith (.Constant (.int 0) j c5) ⇑(.Attribute (.Name "self" c1) "at" c2) c4.line X.env=pure false:=by rfl):
  QI X κ [.Assign [.Attribute (.Name "self" a1) "words" a2] e1 a4,.Assign [.Attribute (.Name "self" b1) "signs" b2] e2 b4,.Assign [.Attribute (.Name "self" c1) "at" c2] (.Constant (.int 0) j c5) c4] f1 f2:=by
 obtain⟨_,p1,q1⟩:=d1
 obtain⟨_,p2,q2⟩:=d2
 refine⟨_,b6 (ic (bS h0 hv) p1 w1) (b6 (ic (bS h0 hv) p2 w2) (dj (ic (bS h0 hv) uJ w3))),?_⟩
 intro A x dx own ρ σ H l0 _ D r hh self ob e3 e4 q
 refine q1 r e3 λv1 H1 s1 z1=>?_
 have r1:=r.mono s1
 have y1:Rep X.K κ (hide (A1 A x) H1) v1 (.lst l0):=by
  have:=z1
  rwa[hh]at this
 refine⟨_,self,x,_,dx,_,rfl,s1 _ _ ob,C.cls,C2.n1,(show(0:Nat)<1000 by decide),?_⟩
 have u1:∀{Hn:Hp} {on:HO},aA (hide (hU x) Hn) (hide (hU x) (upd Hn x on)):=λ{Hn on}=>by
  rw[dH (show hU x x from rfl)]
  exact λ_ _ z=>z
 have r2:=r1.Q1 (o':=.ins (κ.adr 4) dx [(("words" :Str),v1)]) u1 aF
 refine q2 r2 e4 λ_ H2 s2 z2=>?_
 cases z2
 have r3:=r2.mono s2
 have y2:=(y1.mono (hh▸rb (own:=own) (ρ:=ρ) (u1 (on:=.ins (κ.adr 4) dx [(("words" :Str),v1)])))).mono (bb s2)
 refine⟨_,self,x,_,dx,_,rfl,s2 _ _ aF,C.cls,C2.n2,(show(1:Nat)<1000 by decide),?_⟩
 refine⟨_,self,x,_,dx,_,rfl,aF,C.cls,C.n3,(show(2:Nat)<1000 by decide),?_⟩
 have sA:aA (hide (hU x) H) (hide (hU x) H1):=bb s1
 have sB:aA (hide (hU x) H1) (hide (hU x) H2):=u1.trans (bb s2)
 refine q v1 σ _ ((sA.trans sB).trans (u1.trans u1)) aF (y2.mono λb o hb=>?_)
 obtain⟨nb,hb⟩:=aI hb
 have ne:b≠x:=λz=>nb (.inr z)
 rw[aK nb,au ne,au ne]
 exact hb
section
variable{w:World}{K:aX}{mg:Str->Option Value}
theorem DZ{k:Nat}{f2:Den}(F:A4 K x qual st f fd)(S:az N ps (aC st))
  (hb:∀(cK:Value) (A:Around) (outer:List Env) (s:Shared) (H:Hp) (E:XK),bG k (A.deeper (envOfC qual (aC st) ↥s f cK))->QI (fT qk P w K mg base N qual (aC st) f cK A outer s H E).AR κ (eh st) f1 f2):
  dS P w K mg base qk (k+1) f fd ps (N9 K κ (ui N.length ps.length f1 f2)):=by
 refine F.ok S (λ_ H Q E h=>?_) (λcK A outer s H _ Q E hr h=>?_)
 ·obtain⟨_,x,_,_,_,t,rfl,_,_,_,h1,h2,_⟩:=h
  unfold ui at h2
  obtain⟨hk,_⟩:=df h2
  rw[ZJ,h1.length]
  exact hk
 ·obtain⟨_,x,_,_,_,t,rfl,al,_,ob,h1,h2,q⟩:=h
  obtain⟨ts,a1,a2⟩:=hb cK A outer s H E hr
  refine⟨ts,a1,?_⟩
  unfold ui at h2
  obtain⟨hk,h3⟩:=df h2
  obtain⟨pa,e3,h4⟩:=ZA.mp h3
  obtain⟨pb,e4,h5⟩:=ZA.mp h4
  cases pa<;>first|(cases h5;done)|skip
  cases pb<;>first|(cases h5;done)|skip
  rename_i l0 s0
  cases h5
  obtain⟨r,hh⟩:=R.N8 (N:=N) hk al ob h1
  exact a2 r hh rfl ob e3 e4 λv _ H' s' o' z=>q v H' s' o' z
end
def GW(i j:Nat)(FI:List PV->Option Rg)(FT FE:FQ)(as:bZ):aT:=λρ=>if i<ρ.length/\j<ρ.length then(as ρ).bind λps=>(FI ps).bind λt=>(FT t 0 []).bind λq=>(FE t q.1 []).map λ_=>.rt q.2 else none
section
variable{a b:Expr}{fs:bZ}{z m1 m2:Str}{p pz q1 q2 q3 q4 q5 q6 q7 q8 q9 q0:Pos}
theorem GX{FI:List PV->Option Rg}{FT FE:FQ}{k2 k3:Nat}{f1 f2 f3:Addr}{Vr Vt:FuncData}{Vu Vv:List Str}{R5 Vw:Sem Bool}(C:Cq X.K κ)(i j:Nat)(hN:X.N.Nodup)
  (M:Mk X.K (κ.adr 4) f1)(W5:oj X k1 f1 Sf Sg (N9 X.K κ FI))(Q3:bG (k1+1) X.A)(W6:X.mg x=⇑(.ref (κ.adr 4)))(W7:Binds X.K Sf Sg [])
  (NF:Meth X.K (κ.adr 4) m1 f2)(W8:oj X k2 f2 Vr Vu (yX X.K κ false FT))(W9:bG k2 X.A)(Xa:Binds X.K Vr Vu [])
  (Xb:Meth X.K (κ.adr 4) m2 f3)(Xc:oj X k3 f3 Vt Vv (yX X.K κ false FE))(Xd:bG k3 X.A)(Xe:Binds X.K Vt Vv [])(ha:DA X κ [a,b] fs)
  (hi:X.N[i]?=⇑y:=by rfl)(hj:X.N[j]?=⇑z:=by rfl)(yW:i≠j:=by decide)(hx:Loc X.env.scope y:=by trivial)(Xf:Loc X.env.scope z:=by trivial)
  (hv:nW X.env.scope y:=by trivial)(Xg:nW X.env.scope z:=by trivial)(hd:gz y:=by decide)(jQ:yZ y:=by decide)(Xh:gz z:=by decide)(Xi:yZ z:=by decide)
  (hf:X.fn y=true\/X.env.scope.names.lookup y=some .local:=by trivial)(Xj:X.fn z=true\/X.env.scope.names.lookup z=some .local:=by trivial)
  (hg:Gl X x:=by rfl)(lW:gz x:=by decide)
  (he:starEach [a,b] X.env=(false,eval a X.env)::starEach [b] X.env:=by rfl)(hpl:kP pos [b] X.env:=by rfl)
  (Xk:swapsWith (.Call (.Name x p) [a,b] [] pos) ⇑(.Name y py) p1.line X.env=pure false:=by rfl)
  (Xl:∀u1 u2 u3:V,List.lookup m1 [(("words" :Str),u1),(("signs" :Str),u2),(("at" :Str),u3)]=none:=by intros;rfl)(OZ:∀u1 u2 u3:V,List.lookup m2 [(("words" :Str),u1),(("signs" :Str),u2),(("at" :Str),u3)]=none:=by intros;rfl)
  (Xm:eval (.Call (.Attribute (.Name y q1) m1 q2) [] [] q3) X.env=(do
    let ov<-eval (.Name y q1) X.env
    standAt q2.atName
    let(f,first)<-holding [ov] (getMethod ov m1 R5)
    callWith q3 f first (backTo q3 (starEach [] X.env)) (backToKw q3 (keywordEach [] X.env))):=by rfl)
  (Xn:eval (.Call (.Attribute (.Name y q5) m2 q6) [] [] q7) X.env=(do
    let ov<-eval (.Name y q5) X.env
    standAt q6.atName
    let(f,first)<-holding [ov] (getMethod ov m2 Vw)
    callWith q7 f first (backTo q7 (starEach [] X.env)) (backToKw q7 (keywordEach [] X.env))):=by rfl)
  (pB:swapsWith (.Call (.Attribute (.Name y q1) m1 q2) [] [] q3) ⇑(.Name z pz) q4.line X.env=pure false:=by rfl)
  (Xo:swapsWith (.Call (.Attribute (.Name y q5) m2 q6) [] [] q7) none q8.line X.env=pure false:=by rfl):
  IM X κ false [.Assign [.Name y py] (.Call (.Name x p) [a,b] [] pos) p1,.Assign [.Name z pz] (.Call (.Attribute (.Name y q1) m1 q2) [] [] q3) q4,.Expr (.Call (.Attribute (.Name y q5) m2 q6) [] [] q7) q8,.Return ⇑(.Name z q0) q9] (GW i j FI FT FE fs):=by
 obtain⟨_,h1,h2⟩:=ha
 refine⟨_,b6 (eC hN hi hx (kT M W5 Q3 hg W6 W7 .nil eR h1 lW he hpl) Xk hf) (b6 (eC hN hj Xf (mG (pl:=R5) (bS hi hv hd jQ) C.cls NF W8 W9 Xa .nil eR Xm) pB Xj) (b6 (eL (mG (pl:=Vw) (bS hi hv hd jQ) C.cls Xb Xc Xd Xe .nil eR Xn) Xo) (dj (fR (bS hj Xg Xh Xi))))),λ{G A _ own ρ σ H _ D} r e' q=>?_⟩
 obtain⟨⟨li,lj⟩,e'⟩:=df e'
 obtain⟨qs,e1,e2⟩:=ZA.mp e'
 obtain⟨t,e3,e4⟩:=ZA.mp e2
 obtain⟨⟨n1,pr⟩,e5,e6⟩:=ZA.mp e4
 obtain⟨⟨n2,pe⟩,e7,rfl⟩:=ZC.mp e6
 refine h2 r e1 λvs H1 s1 z1=>?_
 intro x dx EM Ks _
 have r1:=r.mono s1
 rw[Zh]
 generalize O3:upd (upd H1 dx (.own x)) x (.ins (κ.adr 4) dx [])=H2
 have g1:H2 x=⇑(.ins (κ.adr 4) dx []):=by rw[<-O3];exact aF
 have g2:∀b o,H1 b=⇑o->b≠x/\H2 b=⇑o:=λb o q=>by
  have n1:b≠x:=aO q EM
  rw[<-O3,au n1,au (aO q Ks)]
  exact⟨n1,q⟩
 have g3:∀b,H2 b=none->H1 b=none:=λb q=>by
  cases z:H1 b with
  |none=>rfl
  |some o=>rw[(g2 b o z).2]at q;cases q
 have nx:¬cg A own ρ x:=λz=>r1.Bb z EM
 refine⟨cg A own ρ,x,dx,vs,qs,t,rfl,λb hb z=>r1.Bb hb (g3 b z),nx,g1,z1.mono λb o w=>?_,e3,λvw H3 s3 o3 w3=>⟨rfl,?_⟩⟩
 ·obtain⟨w1,w2⟩:=aI w
  obtain⟨w3,w4⟩:=g2 b o w2
  rw[aK λz=>z.elim w1 w3]
  exact w4
 ·have Vx:∀b,cg A own ρ b->H3 b≠none:=λb hb z=>by
    cases z1:H1 b with
    |none=>exact r1.Bb hb z1
    |some o=>
     obtain⟨w1,w2⟩:=g2 b o z1
     rw[fX s3 w1 w2]at z
     cases z
  have si:(σ.set i ⇑(.ref x))[i]?=⇑(some (.ref x)):=by rw[ZO,W1 rfl,W1 (by rw[r.len];exact li)]
  refine⟨.ref x,si,x,dx,_,rfl,o3,Xl _ _ _,?_⟩
  refine⟨cg A own ρ,x,dx,vw,t,0,n1,[],[],pr,rfl,Vx,nx,o3,w3,.nil,e5,λv H4 s4 o4 w4=>?_⟩
  have Xp:∀b,cg A own ρ b->H4 b≠none:=λb hb z=>by
   cases z3:H3 b with
   |none=>exact Vx b hb z3
   |some o=>
    have ne:b≠x:=λq=>nx (q▸hb)
    rw[fX s4 ne z3]at z
    cases z
  have Xq:((σ.set i ⇑(.ref x)).set j ⇑v)[i]?=⇑(some (.ref x)):=by rw[Zj (Ne.symm yW)];exact si
  have sj:((σ.set i ⇑(.ref x)).set j ⇑v)[j]?=⇑(some v):=by rw[ZO,W1 rfl,W1 (by rw[Zo,r.len];exact lj)]
  refine⟨.ref x,Xq,x,dx,_,rfl,o4,OZ _ _ _,?_⟩
  have w5:Rep X.K κ (hide (A1 (cg A own ρ) x) H4) vw (.lst t.ws):=w3.mono λb o hb=>by
   obtain⟨nb,hb⟩:=aI hb
   rw[aK nb]
   exact fX s4 (λz=>nb (.inr z)) hb
  refine⟨cg A own ρ,x,dx,vw,t,n1,n2,[],[],pe,rfl,Xp,nx,o4,w5,.nil,e7,λ_ H5 s5 _ _=>?_⟩
  refine⟨_,sj,q v H5 (λb o hb=>?_) ?_⟩
  ·obtain⟨y1,y2⟩:=g2 b o (r1.same b o hb)
   exact fX s5 y1 (fX s4 y1 (fX s3 y1 y2))
  ·show Rep X.K κ (hide A H5) v pr
   refine(show Rep X.K κ (hide (A1 (cg A own ρ) x) H4) v pr from w4).mono λb o hb=>?_
   obtain⟨nb,hb⟩:=aI hb
   rw[aK λz=>nb (.inl (.inl z))]
   exact fX s5 (λz=>nb (.inr z)) hb
end
structure Kx(K:aX)(mg:Str->Option Value)(κ:Kl)(CR CC fH fA fY fS fC:Addr):Prop where
 fld:κ.fld=fK
 cls:∀c,c<4->pC K (κ.adr c)
 nn:cE K (κ.adr 0) "name"
 nw:∀c,0<c->c<4->cE K (κ.adr c) "wanted"
 np:∀c,0<c->c<4->cE K (κ.adr c) "parts"
 kH:Mk K (κ.adr 0) fH
 kA:Mk K (κ.adr 1) fA
 kY:Mk K (κ.adr 2) fY
 kS:Mk K (κ.adr 3) fS
 gH:mg "Hand" =⇑(.ref (κ.adr 0))
 gA:mg "All" =⇑(.ref (κ.adr 1))
 gY:mg "Any" =⇑(.ref (κ.adr 2))
 gS:mg "Some" =⇑(.ref (κ.adr 3))
 cf:LV K CC "__init__" fC
 gC:mg "Counting" =⇑(.ref CC)
 isR:∀c,c<4->TY K (κ.adr c) CR
 gR:mg "Rule" =⇑(.ref CR)
 rc:pC K (κ.adr 4)
 r1:cE K (κ.adr 4) "words"
 r2:cE K (κ.adr 4) "signs"
 r3:cE K (κ.adr 4) "at"
 bc:pC K (κ.adr 5)
 bn:∀f,f∈gE->cE K (κ.adr 5) f
section
variable{K:aX}{mg:Str->Option Value}{CR CC fH fA fY fS fC:Addr}
theorem D0{c:Nat}{f:Str}(h:f∈fK c):(c=4/\(f= "words" \/f= "signs" \/f= "at"))\/(c=5/\f∈gE)\/f∈Pb c:=by
 unfold fK at h
 split at h
 ·exact .inl ⟨by assumption,by simpa using h⟩
 ·split at h
  ·exact .inr (.inl ⟨by assumption,h⟩)
  ·exact .inr (.inr h)
theorem Kx.cR(C:Kx K mg κ CR CC fH fA fY fS fC)(f:Str):Gi K κ f:=λc h=>by
 rw[C.fld]at h
 rcases D0 h with⟨rfl,rfl|rfl|rfl⟩|⟨rfl,h⟩|h
 ·exact⟨C.rc,C.r1⟩
 ·exact⟨C.rc,C.r2⟩
 ·exact⟨C.rc,C.r3⟩
 ·exact⟨C.bc,C.bn f h⟩
 ·rcases Gv h with⟨rfl,rfl⟩|⟨h1,h2,rfl|rfl⟩
  ·exact⟨C.cls 0 ∅,C.nn⟩
  ·exact⟨C.cls c h2,C.nw c h1 h2⟩
  ·exact⟨C.cls c h2,C.np c h1 h2⟩
theorem Kx.q(C:Kx K mg κ CR CC fH fA fY fS fC):Cq K κ:=⟨by rw[C.fld];rfl,C.rc,C.r3⟩
theorem Kx.q2(C:Kx K mg κ CR CC fH fA fY fS fC):Vq K κ:=⟨C.r1,C.r2⟩
end
theorem bF{a:Expr}{f:Str}(hκ:κ.fld=fK)(hf:Gi X.K κ f)(ha:DB X κ a fa)(hb:attributeBase a f X.env (eval a X.env)=eval a X.env:=by rfl):DE X κ (.Attribute a f pos) (bC (cJ fK f) fa):=by
 rw[<-hκ]
 exact NN ha hf hb
def oZ(F:FP):Nat->FP:=λc=>if c=4 then F else λ_=>none
theorem o5{w:World}{K:aX}{mg:Str->Option Value}{k:Nat}(hc:pC K (κ.adr 4))(hf:κ.fld=fK)(hm:Meth K (κ.adr 4) m f)(FO:dS P w K mg base qk k f fd ps (eY K κ fr F))(hb:Binds K fd ps [])(hn:m∉fK 4:=by decide):fq P w K mg base κ fr m k ps (oZ F):=λc _ p e=>by
 unfold oZ at e
 split at e
 ·rename_i h
  subst h
  exact⟨f,fd,hc,hm,by rw[hf];exact hn,by unfold oZ;rw[W1 rfl];exact FO,hb⟩
 ·cases e
def rf:Slot->Bool
 |.un=>true
 |.sh p=>plain 9 p
 |_=>false
def rg(gt:qy)(body:aT):List PV->bU->Option bU
 |[],ρ=>⇑ρ
 |p::ps,ρ=>if plain 9 p then(gt p ρ).bind λρ1=>(body ρ1).bind λfl=>match fl with
  |.nx ρ2=>if ρ2.all rf then rg gt body ps ρ2 else none
  |_=>none
  else none
def nG(k:Nat)(gt:qy)(body:aT):aT:=λρ=>match(ρ[0]?:Option Slot)with
 |some (.sh (.ins 5 l))=>match(l[k]?:Option PV)with
  |some (.dct _ ps)=>if(ρ.set 0 .un).all rf then(rg gt body ps (ρ.set 0 .un)).map .nx else none
  |_=>none
 |_=>none
section
variable{K:aX}{d:Addr}
theorem jk(h:ρ.all rf=true){z:Slot}(e:ρ[i]?=⇑z):z=.un\/∃p,z=.sh p/\plain 9 p=true:=by
 have:=ZP.mp h z (Zv e)
 cases z with
 |un=>exact .inl rfl
 |sh p=>exact .inr ⟨p,rfl,this⟩
 |_=>cases this
theorem Rep.Ob(hd:H d=⇑(.dK kvs))(na:¬A d)(hp:plain 9 p=true)(r:Rep K κ (hide A H) v p):Rep K κ (hide (Aw A (hU d)) H) v p:=by
 have h:=Rep.apart (H:=hide A H) (d:=d) (kvs:=kvs) (by rw[aK na];exact hd) 9 v p hp r
 refine h.mono λb o e=>?_
 obtain⟨h1,h2⟩:=aI e
 obtain⟨h3,h4⟩:=aI h2
 rw[aK λz=>z.elim h3 h1]
 exact h4
theorem R.noOwn{G:Hp}{bo:Nat->Option (Addr×List V)}(h:ρ.all rf=true):cA A own ρ H=hide A H:=by
 unfold cA
 congr 1
 funext b
 refine propext ⟨λz=>z.elim id λb9=>?_,.inl⟩
 obtain⟨j,m,e,_⟩:=b9
 rcases jk h e with z|⟨_,z,_⟩<;>cases z
end
variable{g:aT}{gt:qy}
section
variable{f:Str}
theorem vF(hf:κ.fld 5=gE)(k:Nat)(C:C5 X.K κ)(hg:DG X κ tg gt)(hb:IM X κ fr body g)(hm:gE[k]?=⇑f:=by rfl)(Xr:f∈gE:=by decide)(hN:X.N[0]?=⇑("self" :Str):=by rfl)(hv:nW X.env.scope "self" :=by trivial)
  (Xs:attributeBase (.Name "self" p1) f X.env (eval (.Name "self" p1) X.env)=eval (.Name "self" p1) X.env:=by rfl)(dU:attributeBase (.Attribute (.Name "self" p1) f p2) "values" X.env (eval (.Attribute (.Name "self" p1) f p2) X.env)=eval (.Attribute (.Name "self" p1) f p2) X.env:=by rfl)(dW:(apos.endLine==bz.line)=true:=by rfl)
  (hk:∀u1 u2 u3 u4 u5:V,List.lookup f (gE.zip [u1,u2,u3,u4,u5])=[u1,u2,u3,u4,u5][k]?:=by intros;rfl)
  (hp:PassesOwn (model X.prog X.w) X.A X.env X.xe:=by exact PassesOwn.never)(hc:X.calm=true:=by rfl)(hs:∀x,foldedSetIterable (.Call (.Attribute (.Attribute (.Name "self" p1) f p2) "values" apos) [] [] bz) X.env x=pure x:=by intro _;rfl):
  DS X κ fr (.For tg (.Call (.Attribute (.Attribute (.Name "self" p1) f p2) "values" apos) [] [] bz) body [] pos) (nG k gt g):=by
 obtain⟨_,h3,h4⟩:=hg
 obtain⟨_,h5,h6⟩:=hb
 refine⟨_,Ki hp hc (Fi z0C PySem.F.slot_dict_values PySem.F.type_dict_values GJ (uO (bS hN hv) Xs) dU dW) h3 h5 hs,λ{G A bo own ρ σ H fl D} r e kk=>?_⟩
 unfold nG at e
 split at e
 rotate_left
 ·cases e
 rename_i l e0
 split at e
 rotate_left
 ·cases e
 rename_i ks ps e1
 obtain⟨RT,e⟩:=df e
 obtain⟨ρ',ev,ef⟩:=ZC.mp e
 subst ef
 obtain⟨_,s0,z0⟩:=r.sh 0 _ e0
 cases z0 with
 |@ins x dx _ us _ o1 o2 o3=>
 rw[hf]at o1 o2
 obtain⟨u1,u2,u3,u4,u5,rfl⟩:∃u1 u2 u3 u4 u5,us=[u1,u2,u3,u4,u5]:=by
  match us,o2 with
  |[u1,u2,u3,u4,u5],_=>exact⟨_,_,_,_,_,rfl⟩
 obtain⟨_,g1,g2⟩:=o3.get e1
 cases g2 with
 |@dct d vs _ _ d1 d2 d3=>
 obtain⟨nd,hd⟩:=aI d1
 have nA:¬A d:=λz=>nd (.inl z)
 have OV:=hd
 refine⟨_,s0,x,_,dx,_,_,rfl,(aI o1).2,C.cls,C.na _ Xr,(hk _ _ _ _ _).trans g1,.inr (.inr (.inl ⟨rfl,.inl ⟨_,hd⟩⟩)),d,_,rfl,rfl,hd,λvv Vy=>?_⟩
 have nv:d≠vv:=aO hd Vy
 refine⟨vv,d,_,rfl,aF,(au nv).trans hd,λo cD=>?_⟩
 have Xu:∀{i:Nat} {z:Slot},(ρ.set 0 .un)[i]?=⇑z->z≠.un->ρ[i]?=⇑z:=λ{i z} ez nz=>by
  rw[ZO]at ez
  split at ez
  ·split at ez
   ·exact absurd (ZX ez).symm nz
   ·cases ez
  ·exact ez
 have sub:∀b,A b->cg A own ρ b:=λb z=>.inl z
 generalize Vz:upd (upd H vv (zP vv d)) d (lI d o)=H1
 have s1:aA (hide (hU d) H) H1:=λb u q=>by
  obtain⟨q1,q2⟩:=aI q
  rw[<-Vz,au q1,au (aO q2 Vy)]
  exact q2
 have i1:H1 d=⇑(lI d o):=by rw[<-Vz];exact aF
 let Pv:Nat->St->Hp->Prop:=λi σ H2=>H2 d=⇑(lI d o)/\aA (hide (hU d) H) H2/\∃ρ2,ρ2.all rf=true/\σ.length=ρ2.length/\(∀(j:Nat) p,ρ2[j]?=⇑(.sh p)->∃v,σ[j]?=⇑(some v)/\Rep X.K κ (hide (Aw A (hU d)) H2) v p)/\rg gt g (ps.drop i) ρ2=⇑ρ'
 have lift:∀{H2:Hp} {v:V} {p:PV},aA (hide (hU d) H) H2->plain 9 p=true->Rep X.K κ (cA A own ρ H) v p->Rep X.K κ (hide (Aw A (hU d)) H2) v p:=λ{H2 v p} s2 hpl z=>by
  refine(Rep.Ob (A:=A) hd nA hpl (z.mono (eT sub))).mono λb u q=>?_
  obtain⟨q1,q2⟩:=aI q
  rw[aK q1]
  exact s2 b u (by rw[aK λy=>q1 (.inr y)];exact q2)
 have Xv:∀{H2:Hp},aA (hide (hU d) H) H2->H2 d=⇑(lI d o)->∀b,Aw A (hU d) b->H2 b≠none:=λ{H2} s2 h2 b z y=>by
  rcases z with z|z
  ·have ne:b≠d:=λq=>nA (q▸z)
   cases q:H b with
   |none=>exact r.Bb (.inl z) q
   |some u=>rw[s2 b u (by rw[aK (show¬hU d b from ne)];exact q)]at y;cases y
  ·rw[show b=d from z,h2]at y
   cases y
 have hlen:((ks.map (Sum.inl:Int->Key)).zip vs).length=ps.length:=by rw[List.length_zip,ZD,d2,z0Q,d3.length]
 refine GK Pv ⟨i1,s1,ρ.set 0 .un,RT,by rw[Zo];exact r.len,λj p ej=>?_,by simpa using ev⟩ (λi σ H2 z=>z.1) (λi _ x' σ2 H2 ei z=>?_) (λσ2 H2 z=>?_)
 ·obtain⟨v,w1,w2⟩:=r.sh j p (Xu ej (by simp))
  rcases jk RT ej with z|⟨_,z,hpl⟩
  ·cases z
  ·cases z
   exact⟨v,w1,lift s1 hpl w2⟩
 ·obtain⟨z1,z2,ρ2,z3,z4,z5,z6⟩:=z
  have hi:i<ps.length:=by rw[<-hlen];exact(ZL.mp ei).1
  rw[Zy hi]at z6
  unfold rg at z6
  obtain⟨hpl,z6⟩:=df z6
  obtain⟨_,e3,z6⟩:=ZA.mp z6
  obtain⟨fl,e4,z6⟩:=ZA.mp z6
  have hx:vs[i]?=⇑x':=by
   rw[Zx]at ei
   exact ei.2
  obtain⟨p0,w1,w2⟩:=d3.wW hx
  have:p0=ps[i]:=by rw[ZG hi]at w1;exact(ZX w1).symm
  subst this
  obtain⟨r2,hh⟩:=R.plain (K:=X.K) (κ:=κ) (A:=Aw A (hU d)) (H:=H2) (ρ:=ρ2) (σ:=σ2) (Xv z2 z1) (λj z ej=>by
   rcases jk z3 ej with y|⟨p,y,_⟩
   ·exact .inl y
   ·subst y
    obtain⟨v,y1,y2⟩:=z5 j p ej
    exact .inr ⟨p,v,rfl,y1,y2⟩) z4
  refine h4 r2 (by rw[hh];exact lift z2 hpl w2) e3 λ_ _ r3 _=>h6 r3 e4 ?_
  cases fl with
  |nx ρ4=>
   obtain⟨Q4,z6⟩:=df z6
   intro _ _ _ r4
   refine⟨r4.same _ _ z1,z2.trans r4.same,ρ4,Q4,r4.len,λj p ej=>?_,z6⟩
   obtain⟨v,y1,y2⟩:=r4.sh j p ej
   exact⟨v,y1,by rw[R.noOwn (G:=H) (bo:=bo) Q4]at y2;exact y2⟩
  |_=>cases z6
 ·obtain⟨z1,z2,ρ2,z3,z4,z5,z6⟩:=z
  rw[hlen,List.drop_length]at z6
  cases z6
  refine⟨d,o,_,z1,cD,kk own σ2 _ ⟨r.al,r.bg,λb u q=>?_,λj p ej=>?_,λj _ ej=>?_,λi j _ _ ei=>?_,λj _ ej=>?_,z4⟩⟩
  ·have q1:=r.same b u q
   by_cases ne:b=d
   ·subst ne
    rw[aF,<-hd]
    exact q1
   ·rw[au ne]
    exact z2 b u (by rw[aK (show¬hU d b from ne)];exact q1)
  ·obtain⟨v,y1,y2⟩:=z5 j p ej
   refine⟨v,y1,y2.mono λb u q=>?_⟩
   obtain⟨q1,q2⟩:=aI q
   rw[R.noOwn (G:=H) (bo:=bo) z3,aK λy=>q1 (.inl y),au λy=>q1 (.inr y)]
   exact q2
  ·exact(jk z3 ej).elim (λy=>by cases y) λ⟨_,y,_⟩=>by cases y
  ·exact(jk z3 ei).elim (λy=>by cases y) λ⟨_,y,_⟩=>by cases y
  ·exact(jk z3 ej).elim (λy=>by cases y) λ⟨_,y,_⟩=>by cases y
end
abbrev Q5:List Value:=[.type "ValueError",.type "Exception",.type "BaseException",.type "object"]
def uj(K:aX)(C:Addr):Prop:=∀h:Heap,K.In h->∃(nm q:Str) (N:Addr) (bs bm:List Value) (hdct:Bool) (sn:List Str) (sub:List Value) (ab:Bool) (col:Option Bool) (dd:Option Addr) (k0 k1 k2 k3 k5:Option Value) (mN:Str->Option Value),
 bm.contains (.type "BaseException")=true/\mN "__init__" =none/\h.get? C=⇑(excClassObj nm q C N bs bm hdct sn sub ab col dd k0 k1 k2 k3 k5 "ValueError.__new__")/\h.Ns N mN/\OwnTail h Q5 bm
variable{C:Addr}
theorem uj.of{K:aX}(q:PySem.W.excIn K C Q5 "ValueError.__new__" =true):uj K C:=λh X=>by
 unfold PySem.W.excIn at q
 split at q
 case h_2=>cases q
 rename_i dx cd slots at_
 split at q
 case h_2=>cases q
 rename_i D tl a0 a1 a2 a3 b a5 Q6 Xw
 simp only[ZS,KB,U0]at q
 obtain⟨⟨⟨⟨⟨same,Q7⟩,L1⟩,tail⟩,Oc⟩,GY⟩:=q
 subst same Q7
 cases cd
 simp only at Q6 L1 Oc GY
 subst Q6 L1
 have es:slots=#[a0,a1,a2,a3,⇑(.builtin "ValueError.__new__"),a5]:=by rw[<-Xw]
 subst es
 have T:=PySem.W.tail_of_in (bmB:=Q5) X tail
 exact⟨_,_,_,_,_,_,_,_,_,_,_,_,_,_,_,_,_,T.hasType (by decide+kernel),PySem.W.nsMap_none_of_in X Oc GY,X _ _ at_,.of_isNs (PySem.W.isNs_of_in X Oc),T⟩
variable{ta:TE}
section
variable{a:Expr}{np:Pos}{P:Hp->Prop}
theorem xU(hC:uj X.K C)(hm:X.mg x=⇑(.ref C))(ha:PE X a ta)(hx:∀pins σ H s v h' e,Inv X pins σ H s->Heap.MadeExcOf s.heap h' e (.ref C) [v]->P H->X.xe (.ref e) {s with heap:=h'})
  (hg:Gl X x:=by rfl)(hc:X.calm=true:=by rfl)(hd:gz x:=by decide)(hs:gd a [] X.env:=by rfl)(hpl:kP bz [a] X.env:=by rfl):
  PS X (.Raise ⇑(.Call (.Name x np) [a] [] bz) none pos) (λD σ H=>ta σ H λv H1=>∃y,[v]=[y]/\P H1):=by
 intro pins s σ H D I h
 obtain⟨nm,q,N,bs,bm,hdct,sn,sub,ab,col,dd,k0,k1,k2,k3,k5,mN,hb,Xx,c1,c2,c3⟩:=hC X.base I.ok.mod.kin
 refine wpAny_Raise_call_subU (C:=C) (nm:=nm) (q:=q) (N:=N) (bs:=bs) (bm:=bm) (hdct:=hdct) (sn:=sn) (sub:=sub) (ab:=ab) (col:=col) (dd:=dd) (k0:=k0) (k1:=k1) (k2:=k2) (k3:=k3) (k5:=k5) Wi (bmB:=Q5) (by decide+kernel) Wi (mN:=mN) hb (I.ok.hd hc) hpl Xx ?_
 refine kQ I hg hm ⟨rfl,?_⟩ hd
 have hA:=aN ha bx hs bz pins s σ H (λvs H1=>∃y,vs=[y]/\P H1) I h
 rw[hs]at hA⊢
 refine Calls.evalArgs_plain ?_
 refine cx hA λ_ s2 b9=>?_
 obtain⟨vs,H2,I2,r2,y,ey,q2⟩:=b9
 subst ey
 obtain⟨u,rfl,_⟩:=vals1 r2
 have zl:(1:Nat)<=sizeLine:=by decide
 exact⟨rfl,zl,I2.bk _ _ c1,c2.keeps I2.bk,c3.keeps I2.bk,λh' e VA=>hx pins σ H2 s2 u h' e I2 VA q2⟩
end
open PySem.W PySem.Calls Builtin Builtin.ObjectAttr Builtin.Getset_descriptor
def Od(C a:Addr)(h:Heap):Prop:=∃o,h.get? a=⇑o/\o.cls=.ref C
variable{M:Model}{h:Heap}
theorem Od.type{a:Addr}(I:Od C a h):Looks M h (typeOf (.ref a)) (.ref C):=by
 obtain⟨o,h1,h2⟩:=I
 rw[<-h2]
 exact(Looks.ld h1).andThen .now
theorem D1{K:Frag}{D:Addr}(X:K.In h)(hc:(clsIn K D).isSome=true):Looks M h (isType (.ref D)) true:=by
 obtain⟨_,e⟩:=YE.mp hc
 unfold clsIn at e
 split at e
 ·rename_i ob
  intro _ _ _ _ kp q
  unfold isType loadHead
  refine UV (wpAny_loadPart (kp _ _ (X _ _ ob)) ?_)
  exact SB q
 ·cases e
variable{s:Shared}
theorem xV{K:Frag}{A:Around}{E:Value->Shared->Prop}{D e:Addr}{Q:Bool->Shared->Prop}(X:K.In s.heap)(I:Od C e s.heap)(h1:instIn K (.ref D) (.type "tuple")=⇑false)(h2:(clsIn K D).isSome=true)(h3:mroIn K D (.type "BaseException")=⇑true)(h4:mroIn K C (.ref D)=⇑true)
  (hq:Q true s):wpAny M A (excMatches (.ref e) (.ref D)) Q E s:=by
 obtain⟨_,_,_,_,_⟩:=s
 have X5:=I.type (M:=M)
 have Xy:=looks_instIn (M:=M) X h1
 have Xz:=D1 (M:=M) X h2
 have L3:=looks_mroIn (M:=M) X h3
 have L4:=looks_mroIn (M:=M) X h4
 unfold excMatches isExcClass
 repeat lk
 all_goals first|exact hq|skip
def xo(C a:Addr):HO:=.ext (Od C a)
theorem Q8{w:World}{a:Addr}(x:Od C a h):cZ P w H h a (xo C a):=by
 obtain⟨o,h1,h2⟩:=x
 exact⟨⟨o,h1,h2⟩,⟨o,h1⟩,λ_ _ ⟨o',q1,q2⟩ k=>⟨o',k o' q1,q2⟩⟩
theorem Q9{w:World}{a:Addr}(x:cZ P w H h a (xo C a)):Od C a h:=x.1
theorem GZ{w:World}{a:Addr}{o:HO}(x:cZ P w H h a o):∃ob,h.get? a=⇑ob:=by
 cases o with
 |lst xs=>obtain⟨_,_,_,_,e⟩:=x;exact⟨_,e⟩
 |tup xs=>obtain⟨⟨_,ob,e,_⟩,_⟩:=x;exact⟨_,e⟩
 |dK kvs=>obtain⟨_,_,_,_,o,_,_,e,_⟩:=x;exact⟨_,e⟩
 |dT kvs=>obtain⟨_,_,_,_,o,_,_,e,_⟩:=x;exact⟨_,e⟩
 |set S n=>obtain⟨o,_,_,_,e,_⟩:=x;exact⟨_,e⟩
 |ins C dx fs=>obtain⟨_,_,_,e,_⟩:=x;exact⟨_,e⟩
 |own y=>obtain⟨_,e⟩:=x;exact⟨_,e⟩
 |xd fs=>obtain⟨_,⟨_,_,_,e,_⟩,_⟩:=x;exact⟨_,e⟩
 |rng lo hi=>obtain⟨_,_,_,e⟩:=x;exact⟨_,e⟩
 |frz ob u=>obtain⟨e,_⟩:=x;exact⟨_,e⟩
 |tbl ps=>exact⟨_,(show h.get? a=⇑_ from x)⟩
 |met f y=>exact⟨_,(show h.get? a=⇑_ from x)⟩
 |ext φ=>obtain⟨_,e,_⟩:=x;exact e
structure Cg(P:Program)(w:World)(outer:List Env)(H:Hp)(s:Shared)(C e t:Addr)(s':Shared)(H':Hp)(B:Heap):Prop where
 os:s'.os=s.os
 bare:AllBare s'.gens
 un:Un (gB outer) [] H H' s.heap s'.heap
 cD:lR P w H' s'.heap
 L5:Heap.FlyingW B outer e (.ref C) (.ref t) s'.heap
 kp:∀b o,s.heap.get? b=⇑o->H b=none->b∉gB outer->B.get? b=⇑o
 th:∀b o,s.heap.get? b=⇑o->b∉gB outer->∃o',B.get? b=⇑o'
 tr:∀b u,H' b=⇑u->∃o',B.get? b=⇑o'
def lL(P:Program)(w:World):Ly:=λouter H s E e s'=>∃(a C t:Addr) (H':Hp) (B:Heap),e=.ref a/\Cg P w outer H s C a t s' H' B/\E (.ref C) none H'
variable{outer:List Env}
theorem Ra{env:Env}{b:Addr}(h:b∉gB (env::outer)):b∉gB outer:=λz=>h (by
 unfold gB at z⊢
 rw[Zs]
 split
 ·exact z
 ·exact ZI _ z)
variable{scope:Scope}{cK:Value}{s₀:Shared}{H₀:Hp}{pins:List (Addr×Obj)}
section
variable{w:World}{K:aX}{mg:Str->Option Value}{A:Around}
theorem xW{v:Value}{h':Heap}{e:Addr}(I:Inv (fT (lL P w) P w K mg base N qual scope f cK A outer s₀ H₀ E) pins σ H s)(hm:Heap.MadeExcOf s.heap h' e (.ref C) [v])(hE:E (.ref C) none H):
  (fT (lL P w) P w K mg base N qual scope f cK A outer s₀ H₀ E).xe (.ref e) {s with heap:=h'}:=by
 have FF:=I.stack
 have Fr:=I.ok.frames
 have sf:=I.mz
 change s.heap.FunFrames base (envOfC qual scope ↥s₀ f cK::outer)at FF
 change(A.deeper (envOfC qual scope ↥s₀ f cK)).frames=⇑(envOfC qual scope ↥s₀ f cK::outer)at Fr
 change∀b∈gB (envOfC qual scope ↥s₀ f cK::outer),H b=none at sf
 show wpAny (model P w) (A.deeper (envOfC qual scope ↥s₀ f cK)) (leaving (envOfC qual scope ↥s₀ f cK) (.ref e)) (λ_ Jo=>lL P w outer H₀ s₀ E (.ref e) Jo) _ {s with heap:=h'}
 generalize Ue:envOfC qual scope ↥s₀ f cK=env at FF Fr sf⊢
 have hf:env.frame=⇑↥s₀:=by rw[<-Ue];rfl
 have mem:∀b,b∈gB (env::outer)->b=↥s₀\/b∈gB outer:=λb hb=>by
  unfold gB at hb
  rw[Zs,hf]at hb
  exact Zc.mp hb
 refine wpAny_leaves_madeW (base:=PySem.W.hideAll s.heap (gB (env::outer))) (h:=s.heap) (env:=env) (outer:=outer) (L:=↥s₀) Fr hf (λb o q=>PySem.W.of_hideAll _ q) (PySem.W.funFrames_hide FF λen Ug b hb=>YA.mpr ⟨en,Ug,hb⟩) hm λh2 t x1 _ _ x4=>?_
 have B1:∀b o,s.heap.get? b=⇑o->b∉gB (env::outer)->(PySem.W.hideAll s.heap (gB (env::outer))).get? b=⇑o:=λb o q n=>PySem.W.hideAll_get _ q n
 have up:∀b o,s.heap.get? b=⇑o->b∈gB (env::outer)->∃sl,h2.get? b=some {o with slots:=sl}:=λb o q n=>by
  obtain⟨_,o',q',hd⟩:=FF.mem n
  rw[q]at q'
  cases q'
  exact x4 b o (hm.keeps b o q) hd
 have out:∀b o,s₀.heap.get? b=⇑o->b∉gB outer->b∉gB (env::outer):=λb o q n z=>by
  rcases mem b z with rfl|z
  ·exact absurd (ZN q) (Zn _)
  ·exact n z
 have Uh:∀b,b∈gB outer->b∈gB (env::outer):=λb hb=>To λz=>Ra z hb
 have bk:=I.base.keep
 have bs:=I.base.slot
 have bf:=I.base.free
 have bt:=I.base.there
 change∀b o,s₀.heap.get? b=⇑o->H₀ b=none->b∉gB outer->b∉[]->s.heap.get? b=⇑o at bk
 change∀b o,s₀.heap.get? b=⇑o->H₀ b=none->b∈gB outer->b∉[]->∃sl,s.heap.get? b=some {o with slots:=sl}at bs
 change∀b o,s₀.heap.get? b=⇑o->b∉[]->∃o',s.heap.get? b=⇑o' at bt
 have tk:∀b u,H b=⇑u->b∉gB (env::outer):=λb u q z=>by rw[sf b z]at q;cases q
 refine⟨e,C,t,H,_,rfl,⟨I.os,I.bare,⟨λb o q n hb hx=>?_,λb o q n hb hx=>?_,bf,λb o q hx=>?_,I.base.my,I.base.lT,I.base.nV⟩,λb u q=>?_,x1,λb o q n hb=>?_,λb o q hb=>?_,λb u q=>?_⟩,hE⟩
 ·exact x1.1 b o (B1 b o (bk b o q n hb hx) (out b o q hb))
 ·obtain⟨sl,q1⟩:=bs b o q n hb hx
  obtain⟨I9,q2⟩:=up b _ q1 (Uh b hb)
  exact⟨I9,q2⟩
 ·obtain⟨o',q1⟩:=bt b o q hx
  by_cases hb:b∈gB (env::outer)
  ·obtain⟨sl,q2⟩:=up b o' q1 hb
   exact⟨_,q2⟩
  ·exact⟨o',x1.1 b o' (B1 b o' q1 hb)⟩
 ·refine(I.cD b u q).jW (λc v hc z=>?_) (λ_ z=>z) λ_ _ z=>z
  have:c∉gB (env::outer):=by
   rcases hc with rfl|hc
   ·exact tk c u q
   ·exact tk c _ hc
  exact x1.1 c v (B1 c v z this)
 ·exact B1 b o (bk b o q n hb (by simp)) (out b o q hb)
 ·obtain⟨o',q1⟩:=bt b o q (by simp)
  exact⟨o',B1 b o' q1 (out b o q hb)⟩
 ·obtain⟨o',q1⟩:=GZ (I.cD b u q)
  exact⟨o',B1 b o' q1 (tk b u q)⟩
end
section
variable{s1 s':Shared}{e t:Addr}{B:Heap}
theorem G0(I:Inv X pins σ H1 s1)(G:Cg X.prog X.w X.stack H1 s1 C e t s' H' B){h3:Heap}(sB:∀b o,B.get? b=⇑o->h3.get? b=⇑o)(up:s'.heap.UpToSlots h3)(he:Od C e h3)(tk:Nat):
  H' e=none/\Inv X pins σ (upd H' e (xo C e)) {s' with heap:=h3,toks:=tk}:=by
 obtain⟨f1,f2,f3,f4⟩:=G.L5
 have FF:=I.stack
 have ne:H' e=none:=by
  cases q:H' e with
  |none=>rfl
  |some u=>
   obtain⟨o',z⟩:=G.tr e u q
   rw[f2]at z
   cases z
 have new:s1.heap.get? e=none:=by
  cases q:s1.heap.get? e with
  |none=>rfl
  |some o=>
   by_cases hb:e∈gB X.stack
   ·obtain⟨_,o',q',hd⟩:=f3.mem hb
    obtain⟨_,vs,T,_,_,z1,_,z2,_⟩:=f4
    rw[q']at z1
    cases z1
    exact absurd z2 (hd vs)
   ·obtain⟨o',z⟩:=G.th e o q hb
    rw[f2]at z
    cases z
 have slot:∀b o,s1.heap.get? b=⇑o->H1 b=none->b∈gB X.stack->∃sl,h3.get? b=some {o with slots:=sl}:=λb o q n hb=>by
  obtain⟨sl,q1⟩:=G.un.slot b o q n hb (by simp)
  obtain⟨_,o',q',hd⟩:=FF.mem hb
  rw[q]at q'
  cases q'
  obtain⟨I9,q2⟩:=up b _ q1 hd
  exact⟨I9,q2⟩
 have Rb:∀b u,H' b=⇑u->b≠e:=λb u q z=>by rw[z,ne]at q;cases q
 refine⟨ne,I.Lq (s':={s' with heap:=h3,toks:=tk}) (ch:=[]) G.os ⟨λb o q n hb _=>sB b o (G.kp b o q n hb),λb o q n hb _=>slot b o q n hb,λb o q n _=>?_,λb o q _=>?_,λb xs q=>?_,λb o u q=>?_,λb ps q=>?_⟩ (λb u q=>?_) G.bare (λb z=>absurd z (by simp))⟩
 ·rw[au λz=>by rw[z,new]at q;cases q]
  exact G.un.free b o q n (by simp)
 ·by_cases hb:b∈gB X.stack
  ·obtain⟨sl,z⟩:=slot b o q (I.mz b hb) hb
   exact⟨_,z⟩
  ·obtain⟨o',z⟩:=G.th b o q hb
   exact⟨o',sB b o' z⟩
 ·have z:=G.un.my b xs q
  rw[au (Rb b _ z)]
  exact z
 ·have z:=G.un.lT b o u q
  rw[au (Rb b _ z)]
  exact z
 ·obtain⟨more,z⟩:=G.un.nV b ps q
  exact⟨more,by rw[au (Rb b _ z)];exact z⟩
 ·by_cases hb:b=e
  ·subst hb
   rw[aF]at q
   cases q
   exact Q8 he
  ·rw[au hb]at q
   refine(G.cD b u q).jW (λc v hc z=>?_) (λc z=>by rw[au (Rb c _ z)];exact z) λc xs z=>by rw[au (Rb c _ z)];exact z
   obtain⟨o',z1⟩:∃o',B.get? c=⇑o':=by
    rcases hc with rfl|hc
    ·exact G.tr c u q
    ·exact G.tr c _ hc
   have z2:=f1 c o' z1
   rw[z]at z2
   cases z2
   exact sB c v z1
end
abbrev Cx.mk'(X:Cx)(e:Addr):Cx:={X with A:=X.A.mark ⇑(.ref e),calm:=false,xe:=λ_ _=>False}
theorem Inv.VB(I:Inv X pins σ H s)(e:Addr):Inv (Cx.mk' X e) pins σ H s:=
 ⟨⟨I.ok.mod,I.ok.kind,I.ok.glob,I.ok.blt,I.ok.above,I.ok.inj,I.ok.has,I.ok.cab,λz=>(Bool.noConfusion z),I.ok.frames,I.ok.stk,I.ok.exf,I.ok.bs,I.ok.bsz,I.ok.noex,I.ok.exfs,I.ok.funs,I.ok.frf⟩,I.os,I.bare,I.base,I.loc,I.cell,I.free,I.freeC,I.pin,I.cD,I.len⟩
theorem Inv.Rc{e:Addr}(ok:X.Ok)(I:Inv (Cx.mk' X e) pins σ H s):Inv X pins σ H s:=
 ⟨ok,I.os,I.bare,I.base,I.loc,I.cell,I.free,I.freeC,I.pin,I.cD,I.len⟩
structure Below(K:aX)(D C:Addr):Prop where
 h1:PySem.W.instIn K (.ref D) (.type "tuple")=⇑false
 h2:(PySem.W.clsIn K D).isSome=true
 h3:PySem.W.mroIn K D (.type "BaseException")=⇑true
 h4:PySem.W.mroIn K C (.ref D)=⇑true
def RM(K:aX)(κ:Kl)(A:Addr->Prop)(G H':Hp)(v:V)(p:PV):Prop:=if J8 p=true then OR K κ A G H' v p else Rep K κ (hide A H') v p
theorem RM.of{K:aX}(n:J8 p=false)(h:Rep K κ (hide A H') v p):RM K κ A G H' v p:=by
 unfold RM
 rw[UF (by rw[n];exact Bool.noConfusion)]
 exact h
theorem OR.Ui{K:aX}(al:∀b,A b->G b≠none)(z:OR K κ A G H' v p):Rep K κ (hide A H') v p:=by
 obtain⟨a,_,l,rfl,rfl,z1,z2,z3⟩:=z
 refine .lst (SL.of ?_) (z3.mono (bW (λ_ _ z=>z) λb z _=>.inl z))
 rw[aK λw=>al a w z1]
 exact z2
theorem RM.rep{K:aX}(al:∀b,A b->G b≠none)(h:RM K κ A G H' v p):Rep K κ (hide A H') v p:=by
 unfold RM at h
 split at h
 ·exact OR.Ui al h
 ·exact h
theorem RM.big{K:aX}{G':Hp}(s:aA G G')(h:RM K κ A G' H' v p):RM K κ A G H' v p:=by
 unfold RM at h⊢
 split
 ·rename_i q
  rw[W1 q]at h
  exact O9 h s λb z=>z
 ·rename_i q
  rw[UF q]at h
  exact h
def Rf(K:aX)(κ:Kl)(Ex:Nat->Hp->Prop)(G:Hp)(A:Addr->Prop)(bo:Nat->Option (Addr×List V))(D:Ends):Fl->Prop
 |.nx ρ'=>∀c7 σ' H',R K κ G A bo c7 ρ' σ' H'->D.nx σ' H'
 |.bk ρ'=>∀c7 σ' H',R K κ G A bo c7 ρ' σ' H'->D.bk σ' H'
 |.ct ρ'=>∀c7 σ' H',R K κ G A bo c7 ρ' σ' H'->D.ct σ' H'
 |.rt p=>match eX p with
  |some k=>∀H',aA G H'->Ex k H'
  |none=>∀v H',aA G H'->RM K κ A G H' v p->D.rt v H'
def Rh(K:aX)(κ:Kl)(Ex:Nat->Hp->Prop)(ts:TS)(g:aT):Prop:=
 ∀{G A bo own ρ σ H fl D},R K κ G A bo own ρ σ H->g ρ=⇑fl->Rf K κ Ex G A bo D fl->ts D σ H
def DX(X:Cx)(κ:Kl)(Ex:Nat->Hp->Prop)(st:Stmt)(g:aT):Prop:=∃ts,PS X st ts/\Rh X.K κ Ex ts g
def Pe(X:Cx)(κ:Kl)(Ex:Nat->Hp->Prop)(st:List Stmt)(g:aT):Prop:=∃ts,sL X st ts/\Rh X.K κ Ex ts g
def DR(X:Cx)(κ:Kl)(e:Expr)(c:bU->Bool):Prop:=∃te,PE X e te/\∀{G A bo own ρ σ H Q},R X.K κ G A bo own ρ σ H->c ρ=true->(∀v H',aA H H'->Q v H')->te σ H Q
variable{Ex:Nat->Hp->Prop}{iter:Expr}{fi:bZ}{cc:bU->Bool}
section
variable{g':aT}{e a b:Expr}{f:Den}
theorem Ky{K:aX}{t u:TS}(h1:Rh K κ Ex t g)(h2:Rh K κ Ex u g'):Rh K κ Ex (Jb t u) (aU g g'):=λ{G A _ _ _ _ H _ D} r e k=>by
 obtain⟨f1,e1,e2⟩:=ZA.mp e
 refine h1 r e1 ?_
 cases f1 with
 |nx ρ'=>exact λ_ _ _ r'=>h2 r' e2 k
 |rt p=>cases e2;exact k
 |bk ρ'=>cases e2;exact k
 |ct ρ'=>cases e2;exact k
theorem iB(h1:DX X κ Ex st g)(h2:Pe X κ Ex rest g'):Pe X κ Ex (st::rest) (aU g g'):=
 let⟨_,a1,a2⟩:=h1;let⟨_,b1,b2⟩:=h2;⟨_,b6 a1 b1,Ky a2 b2⟩
theorem gM(h1:DX X κ Ex st g):Pe X κ Ex [st] g:=let⟨_,a1,a2⟩:=h1;⟨_,dj a1,a2⟩
theorem o6(h:DS X κ false st g)(hn:∀ρ p,g ρ≠⇑(.rt p)):DX X κ Ex st g:=by
 obtain⟨ts,h1,h2⟩:=h
 refine⟨ts,h1,λ{G A _ _ ρ _ H fl D} r e k=>h2 r e ?_⟩
 cases fl with
 |nx ρ'=>exact k
 |bk ρ'=>exact k
 |ct ρ'=>exact k
 |rt p=>
  exact absurd e (hn ρ p)
theorem rh{a:Den}:∀ρ p,bK i a ρ≠⇑(.rt p):=λρ p h=>by
 obtain⟨_,_,z⟩:=ZC.mp h
 cases z
theorem Oe(h:DE X κ e f):DX X κ Ex (.Return ⇑e pos) (LW f):=by
 obtain⟨_,h1,h2⟩:=h
 refine⟨_,fR h1,λ{G A _ _ _ _ H _ D} r e k=>?_⟩
 obtain⟨p,e1,e2⟩:=ZA.mp e
 split at e2
 ·cases e2
 ·rename_i hn
  cases e2
  rw[Y6,not_or]at hn
  have hp:eX p=none:=by
   cases q:eX p with
   |none=>rfl
   |some n=>rw[q]at hn;exact absurd rfl hn.1
  have z:(match eX p with|some k=>∀H',aA G H'->Ex k H'|none=>∀v H',aA G H'->RM X.K κ A G H' v p->D.rt v H'):=k
  rw[hp]at z
  refine h2 r e1 λv H' s q=>z v H' (r.same.trans s) (.of (by simpa using hn.2) ?_)
  exact q.mono (bW (λ_ _ q=>q) λb q _=>.inl q)
theorem Kz(h:DO X κ e f):DX X κ Ex (.Return ⇑e pos) (zL f):=by
 obtain⟨_,h1,h2⟩:=h
 refine⟨_,fR h1,λ{G A _ _ _ _ H _ D} r e k=>?_⟩
 obtain⟨p,e1,e2⟩:=ZA.mp e
 obtain⟨hl,e3⟩:=aQ e2
 cases e3
 have hp:eX p=none:=by
  cases p<;>first|rfl|cases hl
 have z:(match eX p with|some k=>∀H',aA G H'->Ex k H'|none=>∀v H',aA G H'->RM X.K κ A G H' v p->D.rt v H'):=k
 rw[hp]at z
 refine h2 r e1 λv H' s q=>z v H' (r.same.trans s) ?_
 unfold RM
 rw[W1 hl]
 exact O9 q r.same λb q=>.inl q
theorem G1{sa sb:List Stmt}(hc:DT X κ c ft)(ha:Pe X κ Ex sa g)(hb:Pe X κ Ex sb g'):DX X κ Ex (.If c sa sb pos) (gy ft g g'):=by
 obtain⟨_,h5,h6⟩:=hc
 obtain⟨_,h1,h2⟩:=ha
 obtain⟨_,h3,h4⟩:=hb
 refine⟨_,tG h5 h1 h3,λ{G A _ _ _ _ H _ D} r e k=>?_⟩
 obtain⟨c,e1,e2⟩:=ZA.mp e
 refine h6 r e1 λ_ s1=>?_
 cases c with
 |true=>exact h2 (r.mono s1) e2 k
 |false=>exact h4 (r.mono s1) e2 k
theorem G2{np:Pos}(k:Nat)(hC:uj X.K C)(hm:X.mg x=⇑(.ref C))(hx:∀pins σ H s v h' e,Inv X pins σ H s->Heap.MadeExcOf s.heap h' e (.ref C) [v]->Ex k H->X.xe (.ref e) {s with heap:=h'})(ha:DR X κ a cc)
  (hg:Gl X x:=by rfl)(hc:X.calm=true:=by rfl)(hd:gz x:=by decide)(hs:gd a [] X.env:=by rfl)(hpl:kP bz [a] X.env:=by rfl):
  DX X κ Ex (.Raise ⇑(.Call (.Name x np) [a] [] bz) none pos) (ma cc k):=by
 obtain⟨_,h1,h2⟩:=ha
 refine⟨_,xU (P:=Ex k) hC hm h1 hx hg hc hd hs hpl,λ{G A _ _ _ σ H _ D} r e q=>?_⟩
 unfold ma at e
 obtain⟨hc,rfl⟩:=aQ e
 have z:(match eX (zK k)with|some k=>∀H',aA G H'->Ex k H'|none=>∀v H',aA G H'->RM X.K κ A G H' v (zK k)->D.rt v H'):=q
 rw[pU]at z
 exact h2 r hc λv H' s=>⟨v,rfl,z H' (r.same.trans s)⟩
theorem G3{i:Str}:DR X κ (.Constant (.str i) j pos) (λ_=>true):=⟨_,uK,λ{_ _ _ _ _ _ H _} r e q=>q _ H (aA.refl _)⟩
end
def Pf(K:aX)(κ:Kl)(cls:Nat->Addr)(F:FP):Sp:=λvs H Q E=>∃(A:Addr->Prop) (ps:List PV) (p:PV),(∀b,A b->H b≠none)/\aL K κ (hide A H) vs ps/\F ps=⇑p/\
 match eX p with
 |some k=>∀H',aA H H'->E (.ref (cls k)) none H'
 |none=>∀v H',aA H H'->RM K κ A H H' v p->Q v H'
section
variable{w:World}{K:aX}{mg:Str->Option Value}
theorem rj{k:Nat}(cls:Nat->Addr)(F:A4 K x qual st f fd)(S:az N ps (aC st))
  (hb:∀(cK:Value) (A:Around) (outer:List Env) (s:Shared) (H:Hp) (E:XK),bG k (A.deeper (envOfC qual (aC st) ↥s f cK))->
    PassesOwn (model P w) (fT (lL P w) P w K mg base N qual (aC st) f cK A outer s H E).A (fT (lL P w) P w K mg base N qual (aC st) f cK A outer s H E).env (fT (lL P w) P w K mg base N qual (aC st) f cK A outer s H E).xe->
    (∀(C:Addr) pins σ H1 s1 v h' e,Inv (fT (lL P w) P w K mg base N qual (aC st) f cK A outer s H E) pins σ H1 s1->Heap.MadeExcOf s1.heap h' e (.ref C) [v]->E (.ref C) none H1->(fT (lL P w) P w K mg base N qual (aC st) f cK A outer s H E).xe (.ref e) {s1 with heap:=h'})->
    Pe (fT (lL P w) P w K mg base N qual (aC st) f cK A outer s H E) κ (λk H'=>E (.ref (cls k)) none H') (eh st) g):
  dS P w K mg base (lL P w) (k+1) f fd ps (Pf K κ cls (fn false N.length ps.length g)):=by
 obtain⟨_,_,_,_,_,_,cK,ct,_,rfl,lk,jQ⟩:=F.ex
 refine Fb lk jQ S (λ_ H Q E h=>?_) λA outer s H _ Q E hr h=>?_
 ·obtain⟨A,qs,p,_,h1,h2,_⟩:=h
  unfold fn at h2
  split at h2
  ·rw[h1.length]
   assumption
  ·cases h2
 ·obtain⟨_,qs,p,al,h1,h2,q⟩:=h
  obtain⟨ts,a1,a2⟩:=hb cK A outer s H E hr PassesOwn.leaving λC pins σ H1 s1 v h' e I hm hE=>xW I hm hE
  refine⟨ts,a1,?_⟩
  have h3:(g (eD N.length qs)).bind (vb false)=⇑p:=by
   unfold fn at h2
   split at h2
   ·exact h2
   ·cases h2
  obtain⟨fl,e1,e2⟩:=ZA.mp h3
  refine a2 (R.entry al h1) e1 ?_
  cases fl with
  |rt p'=>cases e2;exact q
  |nx ρ'=>
   cases e2
   exact λ_ _ H' r'=>q _ _ r'.same (.of rfl .non)
  |bk ρ'=>cases e2
  |ct ρ'=>cases e2
end
def Ri(K:aX)(mg:Str->Option Value)(x:Str)(ts:List Str):Prop:=∃(p:Addr) (o:Obj) (its:Array Value) (n:Nat),mg x=⇑(.ref p)/\K.lookup p=⇑o/\o.cls=.type "tuple" /\o.data=.seq its n/\its.size<=sizeLine/\o.dict=none/\Vals (ts.map V.str) its.toList
theorem D2{ts:List Str}{l:List PV}(h:Ri X.K X.mg x ts)(hl:ts.map PV.str=l:=by rfl)(hg:Gl X x:=by rfl)(hd:gz x:=by decide):DE X κ (.Name x pos) (dC (.tup l)):=by
 obtain⟨p,o,_,n,h1,h2,h3,h4,h5,h6,h7⟩:=h
 subst hl
 exact Gz h1 h2 h3 h4 h5 h6 h7 hg hd
section
variable{w:World}{K:aX}{mg:Str->Option Value}{A:Around}
theorem xX:Passes (lL P w) (fT (lL P w) P w K mg base N qual scope f cK A outer s₀ H₀ E) E:=by
 intro _ _ H s _ s' I hc
 obtain⟨e,C,t,H',B,rfl,G,hE⟩:=hc
 have FF:=I.stack
 have Fr:=I.ok.frames
 have sf:=I.mz
 change s.heap.FunFrames base (envOfC qual scope ↥s₀ f cK::outer)at FF
 change(A.deeper (envOfC qual scope ↥s₀ f cK)).frames=⇑(envOfC qual scope ↥s₀ f cK::outer)at Fr
 change∀b∈gB (envOfC qual scope ↥s₀ f cK::outer),H b=none at sf
 change Cg P w (envOfC qual scope ↥s₀ f cK::outer) H s C e t s' H' B at G
 show wpAny (model P w) (A.deeper (envOfC qual scope ↥s₀ f cK)) (leaving (envOfC qual scope ↥s₀ f cK) (.ref e)) (λ_ Jo=>lL P w outer H₀ s₀ E (.ref e) Jo) _ s'
 generalize Ue:envOfC qual scope ↥s₀ f cK=env at FF Fr sf G⊢
 have hf:env.frame=⇑↥s₀:=by rw[<-Ue];rfl
 have mem:∀b,b∈gB (env::outer)->b=↥s₀\/b∈gB outer:=λb hb=>by
  unfold gB at hb
  rw[Zs,hf]at hb
  exact Zc.mp hb
 obtain⟨g1,g2,g3,g4,g5,g6,g7,g8⟩:=G
 obtain⟨f1,_,_,_⟩:=id g5
 refine wpAny_leaves_onW Fr hf g5 λh2 L5 up=>?_
 have out:∀b o,s₀.heap.get? b=⇑o->b∉gB outer->b∉gB (env::outer):=λb o q n z=>by
  rcases mem b z with rfl|z
  ·exact absurd (ZN q) (Zn _)
  ·exact n z
 have Uh:∀b,b∈gB outer->b∈gB (env::outer):=λb hb=>To λz=>Ra z hb
 have bk:=I.base.keep
 have bs:=I.base.slot
 have bf:=I.base.free
 have bt:=I.base.there
 change∀b o,s₀.heap.get? b=⇑o->H₀ b=none->b∉gB outer->b∉[]->s.heap.get? b=⇑o at bk
 change∀b o,s₀.heap.get? b=⇑o->H₀ b=none->b∈gB outer->b∉[]->∃sl,s.heap.get? b=some {o with slots:=sl}at bs
 change∀b o,s₀.heap.get? b=⇑o->b∉[]->∃o',s.heap.get? b=⇑o' at bt
 change∀b o,s₀.heap.get? b=⇑o->H₀ b=none->b∉[]->H b=none at bf
 have jW:∀b o,B.get? b=⇑o->h2.get? b=⇑o:=L5.1
 have slot:∀b o,s.heap.get? b=⇑o->H b=none->b∈gB (env::outer)->∃sl,h2.get? b=some {o with slots:=sl}:=λb o q n hb=>by
  obtain⟨sl,q1⟩:=g3.slot b o q n hb (by simp)
  obtain⟨_,o',q',hd⟩:=FF.mem hb
  rw[q]at q'
  cases q'
  obtain⟨I9,q2⟩:=up b _ q1 hd
  exact⟨I9,q2⟩
 refine⟨e,C,t,H',B,rfl,⟨g1.trans I.os,g2,⟨λb o q n hb _=>?_,λb o q n hb _=>?_,λb o q n _=>?_,λb o q _=>?_,λb xs q=>?_,λb o u q=>?_,λb ps q=>?_⟩,λb u q=>?_,L5,λb o q n hb=>?_,λb o q hb=>?_,g8⟩,hE⟩
 ·exact jW b o (g6 b o (bk b o q n hb (by simp)) (bf b o q n (by simp)) (out b o q hb))
 ·obtain⟨sl,q1⟩:=bs b o q n hb (by simp)
  obtain⟨I9,q2⟩:=slot b _ q1 (bf b o q n (by simp)) (Uh b hb)
  exact⟨I9,q2⟩
 ·obtain⟨o',q1⟩:=bt b o q (by simp)
  exact g3.free b o' q1 (bf b o q n (by simp)) (by simp)
 ·obtain⟨o',q1⟩:=bt b o q (by simp)
  by_cases hb:b∈gB (env::outer)
  ·obtain⟨sl,q2⟩:=slot b o' q1 (sf b hb) hb
   exact⟨_,q2⟩
  ·obtain⟨VC,q2⟩:=g7 b o' q1 hb
   exact⟨VC,jW b VC q2⟩
 ·exact g3.my b xs (I.base.my b xs q)
 ·exact g3.lT b o u (I.base.lT b o u q)
 ·obtain⟨more,z⟩:=I.base.nV b ps q
  obtain⟨Rj,z'⟩:=g3.nV b _ z
  exact⟨more++Rj,by rw[<-X0];exact z'⟩
 ·refine(g4 b u q).jW (λc v hc z=>?_) (λ_ z=>z) λ_ _ z=>z
  obtain⟨o',z1⟩:∃o',B.get? c=⇑o':=by
   rcases hc with rfl|hc
   ·exact g8 c u q
   ·exact g8 c _ hc
  have z2:=f1 c o' z1
  rw[z]at z2
  cases z2
  exact jW c v z1
 ·exact g6 b o (bk b o q n hb (by simp)) (bf b o q n (by simp)) (out b o q hb)
 ·obtain⟨o',q1⟩:=bt b o q (by simp)
  exact g7 b o' q1 (out b o q hb)
end
abbrev Of(E:XK)(cls:Nat->Addr):Nat->Hp->Prop:=λk H=>E (.ref (cls k)) none H
def XA(K:aX)(κ:Kl)(Ex:Nat->Hp->Prop)(te:TE)(f:Den):Prop:=
 ∀{G A bo own ρ σ H p Q},R K κ G A bo own ρ σ H->f ρ=⇑p->(∀k,eX p=⇑k->∀H',aA H H'->Ex k H')->(eX p=none->∀v H',aA H H'->RM K κ (cg A own ρ) H H' v p->Q v H')->te σ H Q
variable{cls:Nat->Addr}{sc:Scope}{px:Pos}{ad:Addr}{Fs:Nat->FP}
section
variable{p pE:Pos}{elt e o a b:Expr}{f fo fb:Den}{fs:bZ}{k:Nat}{L:Addr}
def vG(X:Cx)(m:Str)(E:XK)(ta:TE)(t:TA):TE:=λσ H Q=>ta σ H λx H1=>∃(a C dx:Addr) (fs:List (Str×V)) (f:Addr) (fd:FuncData) (ps:List Str) (sp:Sp) (k:Nat),x=.ref a/\H1 a=⇑(.ins C dx fs)/\pC X.K C/\Meth X.K C m f/\fs.lookup m=none/\
 dS X.prog X.w X.K X.mg X.base (lL X.prog X.w) k f fd ps sp/\bG k X.A/\Binds X.K fd ps []/\t σ H1 λvs H2=>sp (x::vs) H2 Q E
def lM(P:Program)(w:World)(K:aX)(mg:Str->Option Value)(base:Heap)(κ:Kl)(cls:Nat->Addr)(m:Str)(k:Nat)(ps:List Str)(Fs:Nat->FP):Prop:=
 ∀c xs p,Fs c xs=⇑p->∃(f:Addr) (fd:FuncData),pC K (κ.adr c)/\Meth K (κ.adr c) m f/\m∉κ.fld c/\dS P w K mg base (lL P w) k f fd ps (Pf K κ cls (Fs c))/\Binds K fd ps []
theorem lM.mono{w:World}{K:aX}{mg:Str->Option Value}{k k':Nat}(M:lM P w K mg base κ cls m k ps Fs)(h:k<=k'):lM P w K mg base κ cls m k' ps Fs:=λc xs p e=>
 let⟨f,fd,h1,h2,h3,h4,h5⟩:=M c xs p e;⟨f,fd,h1,h2,h3,h4.mono h,h5⟩
theorem xY{t:TA}(M:lM X.prog X.w X.K X.mg X.base κ cls m k ps Fs)(hr:bG k X.A)(h2:FG X.K κ ta fo)
  (h4:∀{G A bo own ρ σ H ps Q},R X.K κ G A bo own ρ σ H->fs ρ=⇑ps->(∀vs H',aA H H'->aL X.K κ (cA A own ρ H') vs ps->Q vs H')->t σ H Q):XA X.K κ (Of E cls) (vG X m E ta t) (di Fs fo fs):=λ{G A bo own ρ σ H p Q} r e qx q=>by
 obtain⟨p1,e1,e2⟩:=ZA.mp e
 refine h2 r e1 λx _ s1 z1=>?_
 cases p1<;>first|(cases e2;done)|skip
 rename_i c l
 obtain⟨_,e3,e4⟩:=ZA.mp e2
 obtain⟨f,fd,k1,k2,k3,k4,k5⟩:=M c _ _ e4
 cases z1 with
 |ins h3 h5 h6=>
  refine⟨_,_,_,_,f,fd,ps,_,k,rfl,aE _ _ h3,k1,k2,l9 k3,k4,hr,k5,h4 (r.mono s1) e3 λvs _ s2 z2=>?_⟩
  refine⟨cg A own ρ,_,p,λb hb=>((r.mono s1).mono s2).Bb hb,.cons ((Rep.ins h3 h5 h6).mono (bb s2)) z2,e4,?_⟩
  cases hp:eX p with
  |some k=>exact λH' s=>qx k hp H' ((s1.trans s2).trans s)
  |none=>exact λv H' s z=>q hp v H' ((s1.trans s2).trans s) (z.big (s1.trans s2))
def rn(i:Nat)(a:Den):aT:=λρ=>(a ρ).map λp=>if(eX p).isSome=true then .rt p else .nx (ρ.set i (.sh p))
end
variable{to:TE}
section
variable{m1 m2:Str}{o o1 o2 e a1 a2:Expr}{X6 X7:List Expr}{to t X8 t1 to2 t2:TA}
theorem BO{o:Expr}{to:TE}{t:TA}{pl:Sem Bool}{E1:Value->Shared->Prop}(I:Inv X pins σ H s)(ho:PE (X.gf E1) o to)(ha:PA (X.gf E1) (e::es) t)
  (XB:∀H1 s1 ev s',Inv X pins σ H1 s1->lL X.prog X.w X.stack H1 s1 E ev s'->E1 ev s')(h:vG X m E to t σ H Q)
  (ib:gd e es X.env)(hpl:kP pos es X.env)
  (ht:eval (.Call (.Attribute o m apos) (e::es) [] pos) X.env=(do
    let ov<-eval o X.env
    standAt apos.atName
    let(f,first)<-holding [ov] (getMethod ov m pl)
    callWith pos f first (backTo pos (starEach (e::es) X.env)) (backToKw pos (keywordEach [] X.env)))):
  gw X (eval (.Call (.Attribute o m apos) (e::es) [] pos) X.env) (EP X pins σ Q) E1 s:=by
 refine YQ (pl:=pl) (cx (ho pins s σ H _ (I.gf E1) h) λu s1 b9=>?_) ht
 obtain⟨x,H1,I1,rx,a,C,_,_,f,_,ps,_,k,ex,ea,c,hm,l,F,hr,hb,q⟩:=b9
 subst ex
 obtain rfl:u=Value.ref a:=rx
 refine jy (X:=X.gf E1) I1 ea c hm l ?_
 refine YK (first:=[.ref a]) (h₀:=X.base) I.ok.mod.kin hm.kp (cx (ha pos pins s1 σ H1 _ I1 q) λus s2 ⟨vs,H2,I2,r,q2⟩=>⟨I2.i9.lE,?_⟩) ib hpl
 have J:=I2.i9
 have r':Vals (.ref a::vs) (.ref a::us):=.cons rfl r
 have hl:(.ref a::us:List Value).length=ps.length:=by rw[<-r'.length];exact F.len _ _ _ _ q2
 have oX:=hb s2 (.ref a::us) J.lE (by rw[Zh];exact hl)
 rw[Zh]at oX
 refine wpAny_call (codeAny_mono (F.run X.A X.stack s2 H2 ⟨.ref a::us,[]⟩ (.ref a::us) (.ref a::vs) _ _ hr J.M6 oX r' q2) λrr s' hq=>?_)
 cases rr with
 |error e=>exact XB H2 s2 e s' J hq
 |ok fl=>
  cases fl with
  |ret u=>exact J.after hq
  |next=>exact False.elim hq
  |brk=>exact False.elim hq
  |cont=>exact False.elim hq
end
def Rk(K:aX)(κ:Kl)(Ex:Nat->Hp->Prop)(G:Hp)(A:Addr->Prop)(bo:Nat->Option (Addr×List V))(D:Ends):Fl->Prop
 |.nx ρ'=>∀c7 σ' H',R K κ G A bo c7 ρ' σ' H'->D.nx σ' H'
 |.rt p=>match eX p with
  |some k=>∀H',aA G H'->Ex k H'
  |none=>∀v H',aA G H'->Rep K κ (hide A H') v p->D.rt v H'
 |_=>False
def XC(K:aX)(κ:Kl)(Ex:Nat->Hp->Prop)(ts:TS)(g:aT):Prop:=
 ∀{G A bo own ρ σ H fl D},R K κ G A bo own ρ σ H->g ρ=⇑fl->Rk K κ Ex G A bo D fl->ts D σ H
def Sj(X:Cx)(κ:Kl)(Ex:Nat->Hp->Prop)(st:List Stmt)(g:aT):Prop:=∃ts,sL X st ts/\XC X.K κ Ex ts g
def Uj(K:aX)(κ:Kl)(cls:Nat->Addr)(F:FP):Sp:=λvs H Q E=>∃(A:Addr->Prop) (ps:List PV) (p:PV),(∀b,A b->H b≠none)/\aL K κ (hide A H) vs ps/\F ps=⇑p/\
 match eX p with
 |some k=>∀H',aA H H'->E (.ref (cls k)) none H'
 |none=>∀v H',aA H H'->Rep K κ (hide A H') v p->Q v H'
def G4(a:Den):aT:=λρ=>(a ρ).bind λp=>if(eX p).isSome=true then none else ⇑(.rt p)
theorem KA(h:¬(eX p).isSome=true):eX p=none:=by
 cases q:eX p with
 |none=>rfl
 |some n=>rw[q]at h;exact absurd rfl h
section
variable{g':aT}{e a:Expr}{f:Den}{xk Uk:Pos}
theorem rq(h1:DS X κ false st g)(h2:Sj X κ Ex rest g')(hn:∀ρ p,g ρ≠⇑(.rt p)):Sj X κ Ex (st::rest) (aU g g'):=by
 obtain⟨_,a1,a2⟩:=h1
 obtain⟨_,b1,b2⟩:=h2
 refine⟨_,b6 a1 b1,λ{G A _ _ ρ _ H _ D} r e k=>?_⟩
 obtain⟨f1,e1,e2⟩:=ZA.mp e
 refine a2 r e1 ?_
 cases f1 with
 |nx ρ'=>exact λ_ _ _ r'=>b2 r' e2 k
 |rt p=>exact absurd e1 (hn _ _)
 |bk ρ'=>cases e2;exact k.elim
 |ct ρ'=>cases e2;exact k.elim
theorem KC{np:Pos}(k:Nat)(XD:DT X κ c ft)(hC:uj X.K C)(hm:X.mg x=⇑(.ref C))(hx:∀pins σ H s v h' e,Inv X pins σ H s->Heap.MadeExcOf s.heap h' e (.ref C) [v]->Ex k H->X.xe (.ref e) {s with heap:=h'})(ha:DR X κ a cc)(he:DE X κ e f)
  (hg:Gl X x:=by rfl)(hc:X.calm=true:=by rfl)(hd:gz x:=by decide)(hs:gd a [] X.env:=by rfl)(hpl:kP bz [a] X.env:=by rfl):
  Sj X κ Ex [.If c [.Raise ⇑(.Call (.Name x np) [a] [] bz) none pos] [] xk,.Return ⇑e Uk] (aU (gy ft (ma cc k) bQ) (G4 f)):=by
 obtain⟨_,h5,h6⟩:=XD
 obtain⟨_,h1,h2⟩:=ha
 obtain⟨_,h3,h4⟩:=he
 refine⟨_,b6 (tG h5 (dj (xU (P:=Ex k) hC hm h1 hx hg hc hd hs hpl)) pK) (dj (fR h3)),λ{G A _ _ _ σ H _ D} r e q=>?_⟩
 obtain⟨_,e1,e2⟩:=ZA.mp e
 obtain⟨b,e3,e4⟩:=ZA.mp e1
 refine h6 r e3 λ_ s1=>?_
 have r1:=r.mono s1
 cases b with
 |true=>
  rw[W1 rfl]at e4
  unfold ma at e4
  obtain⟨RK,rfl⟩:=aQ e4
  cases e2
  have z:(match eX (zK k)with|some k=>∀H',aA G H'->Ex k H'|none=>∀v H',aA G H'->Rep X.K κ (hide A H') v (zK k)->D.rt v H'):=q
  rw[pU]at z
  exact h2 r1 RK λv H' s=>⟨v,rfl,z H' (r1.same.trans s)⟩
 |false=>
  rw[UF ZY]at e4
  cases e4
  obtain⟨p,e5,e6⟩:=ZA.mp e2
  split at e6
  ·cases e6
  ·rename_i hn
   cases e6
   have z:(match eX p with|some k=>∀H',aA G H'->Ex k H'|none=>∀v H',aA G H'->Rep X.K κ (hide A H') v p->D.rt v H'):=q
   rw[KA hn]at z
   exact h4 r1 e5 λv H' s w=>z v H' (r1.same.trans s) (w.mono (eT λb z=>.inl z))
end
section
variable{w:World}{K:aX}{mg:Str->Option Value}
theorem G5{k:Nat}(cls:Nat->Addr)(F:A4 K x qual st f fd)(S:az N ps (aC st))
  (hb:∀(cK:Value) (A:Around) (outer:List Env) (s:Shared) (H:Hp) (E:XK),bG k (A.deeper (envOfC qual (aC st) ↥s f cK))->
    PassesOwn (model P w) (fT (lL P w) P w K mg base N qual (aC st) f cK A outer s H E).A (fT (lL P w) P w K mg base N qual (aC st) f cK A outer s H E).env (fT (lL P w) P w K mg base N qual (aC st) f cK A outer s H E).xe->
    (∀(C:Addr) pins σ H1 s1 v h' e,Inv (fT (lL P w) P w K mg base N qual (aC st) f cK A outer s H E) pins σ H1 s1->Heap.MadeExcOf s1.heap h' e (.ref C) [v]->E (.ref C) none H1->(fT (lL P w) P w K mg base N qual (aC st) f cK A outer s H E).xe (.ref e) {s1 with heap:=h'})->
    Sj (fT (lL P w) P w K mg base N qual (aC st) f cK A outer s H E) κ (λk H'=>E (.ref (cls k)) none H') (eh st) g):
  dS P w K mg base (lL P w) (k+1) f fd ps (Uj K κ cls (fn false N.length ps.length g)):=by
 obtain⟨_,_,_,_,_,_,cK,_,_,rfl,lk,jQ⟩:=F.ex
 refine Fb lk jQ S (λ_ H Q E h=>?_) λA outer s H _ Q E hr h=>?_
 ·obtain⟨A,_,p,_,h1,h2,_⟩:=h
  rw[h1.length]
  exact(df h2).1
 ·obtain⟨_,_,p,al,h1,h2,q⟩:=h
  obtain⟨ts,a1,a2⟩:=hb cK A outer s H E hr PassesOwn.leaving λC pins σ H1 s1 v h' e I hm hE=>xW I hm hE
  refine⟨ts,a1,?_⟩
  obtain⟨fl,e1,e2⟩:=ZA.mp (df h2).2
  refine a2 (R.entry al h1) e1 ?_
  cases fl with
  |rt p'=>cases e2;exact q
  |nx ρ'=>
   cases e2
   exact λ_ _ H' r'=>q _ _ r'.same .non
  |_=>cases e2
end
section
variable{e:Expr}{fs:bZ}{k:Nat}{pl:Sem Bool}
def dY(F:FP):Nat->FP:=λc=>if c=5 then F else λ_=>none
theorem G6(hf:κ.fld 5=gE)(i:Nat)(C:C5 X.K κ)(hN:X.N.Nodup)(hm:Meth X.K (κ.adr 5) m ad)(FO:dS X.prog X.w X.K X.mg X.base (lL X.prog X.w) k ad fd ps (Uj X.K κ cls F))(hx:Passes (lL X.prog X.w) X E)(hr:bG k X.A)(hb:Binds X.K fd ps [])(ha:DA X κ (e::es) fs)
  (h0:X.N[0]?=⇑("self" :Str):=by rfl)(hv:nW X.env.scope "self" :=by trivial)(hi:X.N[i]?=⇑y:=by rfl)(QM:Loc X.env.scope y:=by trivial)
  (hn:∀vs:List V,vs.length=5->List.lookup m (gE.zip vs)=none:=by intro vs h;match vs,h with|[_,_,_,_,_],_=>rfl)
  (ib:gd e es X.env:=by rfl)(hpl:kP bz es X.env:=by rfl)
  (ht:eval (.Call (.Attribute (.Name "self" p1) m apos) (e::es) [] bz) X.env=(do
    let ov<-eval (.Name "self" p1) X.env
    standAt apos.atName
    let(f,first)<-holding [ov] (getMethod ov m pl)
    callWith bz f first (backTo bz (starEach (e::es) X.env)) (backToKw bz (keywordEach [] X.env))):=by rfl)
  (hs:swapsWith (.Call (.Attribute (.Name "self" p1) m apos) (e::es) [] bz) ⇑(.Name y py) pos.line X.env=pure false:=by rfl)(QY:X.fn y=true\/X.env.scope.names.lookup y=some .local:=by trivial):
  DX X κ (Of E cls) (.Assign [.Name y py] (.Call (.Attribute (.Name "self" p1) m apos) (e::es) [] bz) pos) (rn i (di (dY F) (aP 0) fs)):=by
 obtain⟨_,h1,h2⟩:=ha
 refine⟨_,eC hN hi QM (uQ (pl:=pl) (bS h0 hv) C.cls hm FO hr hb .nil hx h1 ib hpl ht) hs QY,λ{G A _ own ρ _ H _ D} r e q=>?_⟩
 obtain⟨p,e1,rfl⟩:=ZC.mp e
 obtain⟨p0,e2,e3⟩:=ZA.mp e1
 cases p0<;>first|(cases e3;done)|skip
 rename_i c l
 obtain⟨_,e4,e5⟩:=ZA.mp e3
 unfold dY at e5
 split at e5
 rotate_left
 ·cases e5
 rename_i hc
 subst hc
 obtain⟨sl,e8,e9⟩:=ZA.mp e2
 cases sl<;>first|(cases e9;done)|skip
 cases e9
 obtain⟨_,s0,z0⟩:=r.sh 0 _ e8
 cases z0 with
 |@ins x dx _ us _ o1 o2 o3=>
 rw[hf]at o1 o2
 refine⟨_,s0,x,dx,_,rfl,(aI o1).2,hn _ o2,h2 r e4 λvs _ s1 z1=>?_⟩
 have r1:=r.mono s1
 refine⟨cg A own ρ,_,p,λb hb=>r1.Bb hb,.cons (.ins (dx:=dx) (vs:=us) (by rw[hf];exact bb s1 _ _ o1) (by rw[hf];exact o2) (o3.mono (bb s1))) (by rw[Zh];exact z1),e5,?_⟩
 cases hp:eX p with
 |some k=>
  rw[hp]at q
  have z:(match eX p with|some k=>∀H',aA G H'->Of E cls k H'|none=>∀v H',aA G H'->RM X.K κ A G H' v p->D.rt v H'):=q
  rw[hp]at z
  exact λH' s=>z H' (r1.same.trans s)
 |none=>
  rw[hp]at q
  exact λv H' s z=>q own _ _ ((r1.mono s).set z)
end
def Ul(X:Cx)(st:Stmt)(T:Ends->XK->St->Hp->Prop):Prop:=∀(pins:List (Addr×Obj)) (s:Shared) (σ:St) (H:Hp) (D:Ends) (E:XK) (E1:Value->Shared->Prop),Inv X pins σ H s->(∀H1 s1 ev s',Inv X pins σ H1 s1->lL X.prog X.w X.stack H1 s1 E ev s'->E1 ev s')->T D E σ H->
 gw X (execs [st] X.env) (λfl s'=>fl=.next/\∃σ' H',Inv X pins σ' H' s'/\D.nx σ' H') E1 s
def VD(D:Ends)(σ:St)(iz:Nat)(cv:V)(ok:Addr->Prop):XK:=λc _ H2=>∃C,c=.ref C/\ok C/\∀a,H2 a=none->D.nx (σ.set iz ⇑cv) (upd H2 a (xo C a))
variable{DD:Addr}{cv:V}
section
variable{z:Str}{iy iz:Nat}{o a1 ec:Expr}{as:List Expr}{t:TA}{T:Ends->XK->St->Hp->Prop}{pa pz pb ph ap pc:Pos}{pl:Sem Bool}
theorem KD(ho:∀E1,PE (X.gf E1) o to)(ha:∀E1,PA (X.gf E1) (a1::as) t)(hN:X.N.Nodup)(Fq:X.N[iy]?=⇑y)(Sk:X.env.scope.names.lookup y=some .local)
  (he:gd a1 as X.env:=by rfl)(hpl:kP pc as X.env:=by rfl)
  (ht:eval (.Call (.Attribute o m ap) (a1::as) [] pc) X.env=(do
    let ov<-eval o X.env
    standAt ap.atName
    let(f,first)<-holding [ov] (getMethod ov m pl)
    callWith pc f first (backTo pc (starEach (a1::as) X.env)) (backToKw pc (keywordEach [] X.env))):=by rfl)
  (hs:swapsWith (.Call (.Attribute o m ap) (a1::as) [] pc) ⇑(.Name y py) pa.line X.env=pure false:=by rfl):
  Ul X (.Assign [.Name y py] (.Call (.Attribute o m ap) (a1::as) [] pc) pa) λD E σ H=>vG X m E to t σ H λv H2=>D.nx (σ.set iy ⇑v) H2:=by
 intro _ s σ H D E E1 I hE h
 refine wpAny_execs_cons (wpAny_Assign_Name (cx (BO (E1:=E1) I (ho E1) (ha E1) hE h he hpl ht) λv _ b9=>?_) hs)
 obtain⟨u,H1,I1,r1,q1⟩:=b9
 exact j1 I1 hN Fq (.inl Sk) r1 (λ_ I2=>On ⟨rfl,_,H1,I2,q1⟩) (.inr Sk)
theorem G7(ho:∀E1,PE (X.gf E1) o to)(ha:∀E1,PA (X.gf E1) (a1::as) t)
  (he:gd a1 as X.env:=by rfl)(hpl:kP pc as X.env:=by rfl)
  (ht:eval (.Call (.Attribute o m ap) (a1::as) [] pc) X.env=(do
    let ov<-eval o X.env
    standAt ap.atName
    let(f,first)<-holding [ov] (getMethod ov m pl)
    callWith pc f first (backTo pc (starEach (a1::as) X.env)) (backToKw pc (keywordEach [] X.env))):=by rfl)
  (hs:swapsWith (.Call (.Attribute o m ap) (a1::as) [] pc) none pa.line X.env=pure false:=by rfl):
  Ul X (.Expr (.Call (.Attribute o m ap) (a1::as) [] pc) pa) λD E σ H=>vG X m E to t σ H λ_ H2=>D.nx σ H2:=by
 intro _ s σ H D E E1 I hE h
 refine wpAny_execs_cons (wpAny_Expr_any (cx (BO (E1:=E1) I (ho E1) (ha E1) hE h he hpl ht) λv _ b9=>?_) I.quiet hs)
 obtain⟨u,H1,I1,_,q1⟩:=b9
 exact On ⟨rfl,_,H1,I1,q1⟩
theorem BP(hb:Ul X st T)(CZ:∀e,PE (Cx.mk' X e) ec (tC cv))(hN:X.N.Nodup)(Rl:X.N[iz]?=⇑z)(Pg:X.env.scope.names.lookup z=some .local)
  (ib:X.stack=X.env::X.outer)(Jx:X.env.frame=⇑X.env.locals)(hD:X.mg x=⇑(.ref DD))(N1:Gl X x:=by rfl)(Ks:gz x:=by decide)
  (pB:swapsWith ec ⇑(.Name z pz) pb.line X.env=pure false:=by rfl):
  PS X (.Try [st] [.ExceptHandler ⇑(.Name x px) none [.Assign [.Name z pz] ec pb] ph] [] [] pos) (λD σ H=>T D (VD D σ iz cv (Below X.K DD)) σ H):=by
 intro pins s σ H D I h
 have ok:=I.ok
 let E1:Value->Shared->Prop:=λe s'=>∃H1 s1,Inv X pins σ H1 s1/\lL X.prog X.w X.stack H1 s1 (VD D σ iz cv (Below X.K DD)) e s'
 refine wpAny_Try_except (Pi (hb pins s σ H D _ E1 I (λH1 s1 _ s' J hq=>⟨H1,s1,J,hq⟩) h) (λfl s' hq=>?_) λ_ s' hq=>?_)
 ·obtain⟨rfl,σ',H',I',q⟩:=hq
  exact On ⟨σ',H',I',q⟩
 ·obtain⟨H1,s1,I1,e,C,t,H',B,rfl,G,_,hC,Sl,XE⟩:=hq
  cases hC
  have L5:=G.L5
  rw[ib]at L5
  have XF:X.A.frames=⇑(X.env::X.outer):=by rw[<-ib];exact ok.frames
  refine wpAny_looks_onW (outer:=X.outer) XF Jx L5 λh4 held up4=>?_
  refine wpAny_landsW held λh5 Og VE=>?_
  have c5:=G0 I1 G (h3:=h5) Og.1 (up4.trans VE) Og.there s'.toks
  have I5:Inv X pins σ (upd H' e (xo C e)) {s' with heap:=h5}:=c5.2
  refine wpAny_handleBy_cons (codeAny_handlers_test ?_) (by intro q;cases q)
  refine kQ (X:=Cx.mk' X e) (Inv.VB I5 e) N1 hD ?_ Ks
  refine xV (K:=X.K) I5.lE (Q9 (I5.cD e _ aF)) Sl.h1 Sl.h2 Sl.h3 Sl.h4 ?_
  refine codeAny_handlers_suite ?_
  refine lands_againW Og λh6 Rm XG=>?_
  have c6:=G0 I1 G (h3:=h6) Rm.1 ((up4.trans VE).trans XG) Rm.there s'.toks
  have I6:Inv X pins σ (upd H' e (xo C e)) {s' with heap:=h6}:=c6.2
  have cg:=dj (eC (X:=Cx.mk' X e) (pos:=pb) (pos':=pz) hN Rl (.inl Pg) (CZ e) pB (.inr Pg)) pins _ σ (upd H' e (xo C e))
   {nx:=λσ' H2=>σ'=σ.set iz ⇑cv/\H2=upd H' e (xo C e),rt:=λ_ _=>False} (Inv.VB I6 e) ⟨rfl,rfl⟩
  refine Pi cg (λfl _ q8=>?_) λ_ _ z=>z.elim
  cases fl with
  |next=>
   obtain⟨_,_,I8,rfl,rfl⟩:=q8
   exact⟨_,_,Inv.Rc ok I8,XE e c6.1⟩
  |ret u=>obtain⟨_,_,_,_,_,z⟩:=q8;exact z.elim
  |brk=>obtain⟨_,_,_,z⟩:=q8;exact z.elim
  |cont=>obtain⟨_,_,_,z⟩:=q8;exact z.elim
end
def Um(K:aX)(κ:Kl)(f:bZ):TA:=λσ H Q=>∃G A bo own ρ ps,R K κ G A bo own ρ σ H/\f ρ=⇑ps/\∀vs H',aA H H'->aL K κ (cA A own ρ H') vs ps->Q vs H'
theorem DA.pa{f:bZ}(h:DA X κ es f):PA X es (Um X.K κ f):=λpos pins s σ H Q I ⟨_,_,_,_,_,_,r,e,q⟩=>let⟨_,h1,h2⟩:=h;h1 pos pins s σ H Q I (h2 r e q)
def nH(iy iz k:Nat)(cv:PV)(f:Den):aT:=λρ=>(f ρ).bind λp=>match eX p with
 |some j=>if j=k then ⇑(.nx (ρ.set iz (.sh cv)))else none
 |none=>⇑(.nx (ρ.set iy (.sh p)))
def G8(iz k:Nat)(cv:PV)(f:Den):aT:=λρ=>(f ρ).bind λp=>match eX p with
 |some j=>if j=k then ⇑(.nx (ρ.set iz (.sh cv)))else none
 |none=>⇑(.nx ρ)
section
variable{z:Str}{o a1 ec:Expr}{as:List Expr}{fo:Den}{fs:bZ}{cp:PV}{pa pz pb ph ap pc:Pos}{pl:Sem Bool}{k:Nat}
theorem BQ(iy iz j:Nat)(M:lM X.prog X.w X.K X.mg X.base κ cls m k ps Fs)(hr:bG k X.A)(hB:Below X.K DD (cls j))(ho:∀E1,DE (X.gf E1) κ o fo)(ha:∀E1,DA (X.gf E1) κ (a1::as) fs)(CZ:∀e,PE (Cx.mk' X e) ec (tC cv))(Uo:∀H,Rep X.K κ H cv cp)(hN:X.N.Nodup)(hD:X.mg x=⇑(.ref DD))
  (Fq:X.N[iy]?=⇑y:=by rfl)(Sk:X.env.scope.names.lookup y=some .local:=by rfl)(Rl:X.N[iz]?=⇑z:=by rfl)(Pg:X.env.scope.names.lookup z=some .local:=by rfl)(ib:X.stack=X.env::X.outer:=by rfl)(Jx:X.env.frame=⇑X.env.locals:=by rfl)(N1:Gl X x:=by rfl)(Ks:gz x:=by decide)
  (he:gd a1 as X.env:=by rfl)(hpl:kP pc as X.env:=by rfl)
  (ht:eval (.Call (.Attribute o m ap) (a1::as) [] pc) X.env=(do
    let ov<-eval o X.env
    standAt ap.atName
    let(f,first)<-holding [ov] (getMethod ov m pl)
    callWith pc f first (backTo pc (starEach (a1::as) X.env)) (backToKw pc (keywordEach [] X.env))):=by rfl)
  (hs:swapsWith (.Call (.Attribute o m ap) (a1::as) [] pc) ⇑(.Name y py) pa.line X.env=pure false:=by rfl)(pB:swapsWith ec ⇑(.Name z pz) pb.line X.env=pure false:=by rfl):
  DS X κ fr (.Try [.Assign [.Name y py] (.Call (.Attribute o m ap) (a1::as) [] pc) pa] [.ExceptHandler ⇑(.Name x px) none [.Assign [.Name z pz] ec pb] ph] [] [] pos) (nH iy iz j cp (di Fs fo fs)):=by
 have p1:∀E1,PE (X.gf E1) o (JP X.K κ fo):=λE1=>DE.pe (ho E1)
 have p2:∀E1,PA (X.gf E1) (a1::as) (Um X.K κ fs):=λE1=>DA.pa (ha E1)
 refine⟨_,BP (KD p1 p2 hN Fq Sk he hpl ht hs) CZ hN Rl Pg ib Jx hD N1 Ks pB,λ{G A _ own _ _ H _ D} r e q=>?_⟩
 obtain⟨p,e1,e2⟩:=ZA.mp e
 refine xY M hr (λr e q=>⟨_,_,_,_,_,_,r,e,q⟩) (λr e q=>⟨_,_,_,_,_,_,r,e,q⟩) r e1 (λ_ hp _ s'=>?_) (λhp v _ s' z=>?_)
 ·rw[hp]at e2
  obtain⟨rfl,e3⟩:=df e2
  cases e3
  exact⟨_,rfl,hB,λa Up=>q own _ _ (((r.mono s').mono (bL Up)).set (Uo _))⟩
 ·rw[hp]at e2
  cases e2
  exact q own _ _ ((r.mono s').set (RM.rep (λb hb=>r.Bb hb) z))
theorem KG(iz j:Nat)(M:lM X.prog X.w X.K X.mg X.base κ cls m k ps Fs)(hr:bG k X.A)(hB:Below X.K DD (cls j))(ho:∀E1,DE (X.gf E1) κ o fo)(ha:∀E1,DA (X.gf E1) κ (a1::as) fs)(CZ:∀e,PE (Cx.mk' X e) ec (tC cv))(Uo:∀H,Rep X.K κ H cv cp)(hN:X.N.Nodup)(hD:X.mg x=⇑(.ref DD))
  (Rl:X.N[iz]?=⇑z:=by rfl)(Pg:X.env.scope.names.lookup z=some .local:=by rfl)(ib:X.stack=X.env::X.outer:=by rfl)(Jx:X.env.frame=⇑X.env.locals:=by rfl)(N1:Gl X x:=by rfl)(Ks:gz x:=by decide)
  (he:gd a1 as X.env:=by rfl)(hpl:kP pc as X.env:=by rfl)
  (ht:eval (.Call (.Attribute o m ap) (a1::as) [] pc) X.env=(do
    let ov<-eval o X.env
    standAt ap.atName
    let(f,first)<-holding [ov] (getMethod ov m pl)
    callWith pc f first (backTo pc (starEach (a1::as) X.env)) (backToKw pc (keywordEach [] X.env))):=by rfl)
  (hs:swapsWith (.Call (.Attribute o m ap) (a1::as) [] pc) none pa.line X.env=pure false:=by rfl)(pB:swapsWith ec ⇑(.Name z pz) pb.line X.env=pure false:=by rfl):
  DS X κ fr (.Try [.Expr (.Call (.Attribute o m ap) (a1::as) [] pc) pa] [.ExceptHandler ⇑(.Name x px) none [.Assign [.Name z pz] ec pb] ph] [] [] pos) (G8 iz j cp (di Fs fo fs)):=by
 have p1:∀E1,PE (X.gf E1) o (JP X.K κ fo):=λE1=>DE.pe (ho E1)
 have p2:∀E1,PA (X.gf E1) (a1::as) (Um X.K κ fs):=λE1=>DA.pa (ha E1)
 refine⟨_,BP (G7 p1 p2 he hpl ht hs) CZ hN Rl Pg ib Jx hD N1 Ks pB,λ{G A _ own _ _ H _ D} r e q=>?_⟩
 obtain⟨p,e1,e2⟩:=ZA.mp e
 refine xY M hr (λr e q=>⟨_,_,_,_,_,_,r,e,q⟩) (λr e q=>⟨_,_,_,_,_,_,r,e,q⟩) r e1 (λ_ hp _ s'=>?_) (λhp v _ s' z=>?_)
 ·rw[hp]at e2
  obtain⟨rfl,e3⟩:=df e2
  cases e3
  exact⟨_,rfl,hB,λa Up=>q own _ _ (((r.mono s').mono (bL Up)).set (Uo _))⟩
 ·rw[hp]at e2
  cases e2
  exact q own _ _ (r.mono s')
theorem mf{w:World}{K:aX}{mg:Str->Option Value}(C:C5 K κ)(hf:κ.fld 5=gE)(hm:Meth K (κ.adr 5) m f)(FO:dS P w K mg base (lL P w) k f fd ps (Pf K κ cls F))(hb:Binds K fd ps [])(hn:m∉gE:=by decide):lM P w K mg base κ cls m k ps (dY F):=λc _ p e=>by
 unfold dY at e
 split at e
 ·rename_i h
  subst h
  exact⟨f,fd,C.cls,hm,by rw[hf];exact hn,by unfold dY;rw[W1 rfl];exact FO,hb⟩
 ·cases e
theorem kn{w:World}{K:aX}{mg:Str->Option Value}(C:C5 K κ)(hf:κ.fld 5=gE)(hm:Meth K (κ.adr 5) m f)(FO:dS P w K mg base qk k f fd ps (eY K κ fr F))(hb:Binds K fd ps [])(hn:m∉gE:=by decide):fq P w K mg base κ fr m k ps (dY F):=λc _ p e=>by
 unfold dY at e
 split at e
 ·rename_i h
  subst h
  exact⟨f,fd,C.cls,hm,by rw[hf];exact hn,by unfold dY;rw[W1 rfl];exact FO,hb⟩
 ·cases e
end
def BU:PV->Option PV
 |.bl b=>⇑(.int (if b then 1 else 0))
 |_=>none
variable{a:Expr}{p:Pos}
theorem KH(ha:DB X κ a fa)(hm:X.mg "int" =none)(hg:Gl X "int" :=by rfl)(hs:gd a [] X.env:=by rfl):DE X κ (.Call (.Name "int" p) [a] [] pos) (bC BU fa):=by
 obtain⟨_,h1,h2⟩:=ha
 refine⟨_,g0 CP hg hm (by decide+kernel) (aN h1 bx hs) (he:=hs),λ{G A _ _ _ _ H p Q} r e q=>?_⟩
 obtain⟨p1,e1,e2⟩:=ZA.mp e
 refine h2 r e1 λv H' s z=>?_
 cases p1<;>first|(cases e2;done)|skip
 cases e2
 rcases z with z|⟨_,_,_,_,z,_⟩
 ·cases z
  exact .inr ⟨_,rfl,q _ H' s (.int _)⟩
 ·cases z
def BV:PV->PV->Option PV
 |.int i,.int j=>⇑(.int (i+j))
 |_,_=>none
section
variable{a e:Expr}{f:Den}
theorem xZ(i:Nat)(hN:X.N.Nodup)(he:DB X κ e f)(hi:X.N[i]?=⇑x:=by rfl)(hx:Loc X.env.scope x:=by trivial)
  (hf:X.fn x=true\/X.env.scope.names.lookup x=some .local:=by trivial):DS X κ fr (.AugAssign (.Name x p') .Add e pos) (bK i (ag BV (dV i) f)):=by
 obtain⟨_,h1,h2⟩:=he
 refine⟨_,MM hN hi hx h1 Je hf,λ{G A _ own _ _ H _ D} r e k=>?_⟩
 obtain⟨p,e1,rfl⟩:=ZC.mp e
 obtain⟨p1,e2,e3⟩:=ZA.mp e1
 obtain⟨p2,e4,e5⟩:=ZA.mp e3
 unfold dV at e2
 obtain⟨s,e6,e7⟩:=ZA.mp e2
 cases p1<;>first|(cases e5;done)|skip
 cases p2<;>first|(cases e5;done)|skip
 cases e5
 cases s with
 |un=>cases e7
 |own l=>cases l<;>cases e7
 |bw l=>cases e7
 |sh p'=>
  cases e7
  obtain⟨v,h3,h4⟩:=r.sh i _ e6
  cases h4
  refine⟨_,h3,h2 r e4 λ_ _ s1 z1=>?_⟩
  exact⟨_,_,rfl,z1.int,k _ _ _ ((r.mono s1).set (.int _))⟩
end
theorem Kx.c5{K:aX}{mg:Str->Option Value}{CR CC fH fA fY fS fC:Addr}(C:Kx K mg κ CR CC fH fA fY fS fC):C5 K κ:=⟨C.bc,C.bn⟩
theorem BW{a:Den}:∀ρ p,lG a ρ≠⇑(.rt p):=λρ p h=>by
 obtain⟨_,_,z⟩:=ZC.mp h
 cases z
theorem KI{k:Nat}:∀ρ p,nG k gt g ρ≠⇑(.rt p):=λρ p h=>by
 unfold nG at h
 split at h
 ·split at h
  ·obtain⟨_,z⟩:=df h
   obtain⟨_,_,z⟩:=ZC.mp z
   cases z
  ·cases h
 ·cases h
theorem rA:∀ρ p,fm ρ≠⇑(.rt p):=λρ p h=>by cases h
theorem D3{F:kZ X.K κ}{elt:Expr}{f:Den}(i:Nat){pE:Pos}(hN:X.N.Nodup)(hi:JM X κ (.Name x px) iter fi)(qm:Scope)(N0 ys:List Str)(ht:∀ex C s H,DT (X.mK sc x ys ex C s H) κ c ft)(he:∀ex C s H,DE (X.mK sc x ys ex C s H) κ elt f)(Fq:X.N[i]?=⇑y:=by rfl)(nU:i∉js:=by decide)(hy:X.env.scope.names.lookup y=some .local:=by rfl)(vh:X.env.scope=qm:=by rfl)(JQ:X.N=N0:=by rfl)(C0:jz qm N0 sc x ys=true:=by decide+kernel)(hc:X.calm=true:=by rfl)
  (hs:∀x,foldedSetIterable iter X.env x=pure x:=by intro _;rfl)(Nk:swapsWith (.ListComp elt [⟨.Name x px,iter,[c],0⟩] sc pos) ⇑(.Name y py) pE.line X.env=pure true:=by rfl):
  BS X κ F js ka (.Assign [.Name y py] (.ListComp elt [⟨.Name x px,iter,[c],0⟩] sc pos) pE) (lK i (bV fi ft f)):=by
 obtain⟨_,h1,h2⟩:=hi
 refine⟨_,uZ hN Fq hy h1 ys (tt:=Nx X.K κ ft) (te:=JP X.K κ f) (λex C s H=>qp (ht ex C s H).pt) (λex C s H=>(he ex C s H).pe) (by rw[vh,JQ];exact C0) hc hs Nk,λ{_ G A a s _ _ H q D} r e k=>?_⟩
 obtain⟨p,e1,rfl⟩:=ZC.mp e
 obtain⟨r1,hh⟩:=r.un
 refine kh h2 r1 e1 λv _ s z=>k _ _ ((r.mono s).set nU ?_)
 have:=z.rep r1
 rw[hh]at this
 exact this
theorem Uq{us:List α}(h:us.length=5):∃a b c d e,us=[a,b,c,d,e]:=by
 match us,h with
 |[a,b,c,d,e],_=>exact⟨a,b,c,d,e,rfl⟩
variable{x0:Addr}
theorem oz:∀(k j:Nat) (x:Addr),[0][k]?=⇑j->[x0][k]?=⇑x->[x0][j]?=⇑x
 |0,_,_,h1,h2=>by cases h1;exact h2
 |k+1,_,_,h1,_=>by cases h1
theorem Oh{x1:Addr}:∀(k j:Nat) (x:Addr),[1,0][k]?=⇑j->[x1,x0][k]?=⇑x->[x0,x1][j]?=⇑x
 |0,_,_,h1,h2=>by cases h1;exact h2
 |1,_,_,h1,h2=>by cases h1;exact h2
 |k+2,_,_,h1,_=>by cases h1
section
variable{a b e:Expr}{fb fc f:Den}
theorem x5{K:aX}{tb tc:TE}(h2:Bc K κ ta fa)(h4:Bc K κ tb fb)(h6:Bc K κ tc fc):FG K κ (qf (wF λi j=>.bl (decide (i<=j))) (wF λi j=>.bl (decide (i<j))) ta tb tc) (ni fa fb fc):=λ{G A _ _ ρ _ H p Q} r e q=>by
 refine mR (g:=λx y=>(sH x).bind λi=>(sH y).bind λj=>if i<=j then(fc ρ).bind λz=>(sH z).map λk=>PV.bl (decide (j<k))else ⇑(.bl false)) h2 h4 r e λx y p1 p2 H1 s1 r1 b1 b2 e'=>?_
 obtain⟨i,e3,e4⟩:=ZA.mp e'
 obtain⟨j,e5,e6⟩:=ZA.mp e4
 cases p1<;>first|(cases e3;done)|skip
 cases e3
 cases p2<;>first|(cases e5;done)|skip
 cases e5
 refine⟨i,j,b1.int,b2.int,_,rfl,?_⟩
 by_cases yW:i<=j
 ·rw[W1 yW]at e6
  obtain⟨p3,e7,e8⟩:=ZA.mp e6
  obtain⟨k,e9,rfl⟩:=ZC.mp e8
  cases p3<;>first|(cases e9;done)|skip
  cases e9
  rw[W1 (SZ yW)]
  refine h6 r1 e7 λw H2 s2 b3=>?_
  exact⟨j,k,b2.int,b3.int,q _ H2 (s1.trans s2) (.bl _)⟩
 ·rw[UF yW]at e6
  cases e6
  rw[UF (by simpa using yW)]
  exact q _ H1 s1 (.bl _)
theorem zZ(ha:DB X κ a fa)(hb:DB X κ b fb)(hc:DB X κ c fc)(hm:lastMarks [.LtE,.Lt] [b,c]=false:=by with_unfolding_all rfl):DT X κ (.Compare a [.LtE,.Lt] [b,c] pos) (tV (ni fa fb fc)):=by
 obtain⟨_,h1,h2⟩:=ha
 obtain⟨_,h3,h4⟩:=hb
 obtain⟨_,h5,h6⟩:=hc
 exact⟨_,wG E2 Lx h1 h3 h5 hm,pN (x5 h2 h4 h6)⟩
end
end L2.D
namespace L2.D.Sh
open PySem
def mh:aT:=(bO (ag ip (ag qt (ag zp (dV 0) (dV 1)) (dC (.int 1))) (dC (.int 1))))
def mi(dw:FP):aT:=(bO (bV (eA (bC Fy (dV 0))) (tV (aM dw (af (aP 1) (af (aP 0) aB)))) (aP 0)))
def nI(dz:FP):aT:=(aU (bK 1 (aM dz (af (aP 0) aB))) (bO (eW (af (bC cB (dV 1)) (af (aP 1) aB)))))
def x6:aT:=(bO (bV (eA (dC (.int 6))) (tV (ag ip (ag qt (ag zp (dV 1) (dV 0)) (dC (.int 1))) (dC (.int 1)))) (aP 0)))
def jc:aT:=(aU (gy (tV (ag EJ (dV 1) (bC cB (dV 0)))) (bO (ag c9 (dV 0) (dV 1))) bQ) (bO (dC (.int 0))))
def nJ:aT:=(bO (ag ip (ag qt (dV 0) (dV 1)) (dV 0)))
def vH(iC:FP):aT:=(bO (bC JG (bV (nList (dV 0)) cM (aM iC (af (aP 0) (af (aP 2) aB))))))
def eU(F_place bN:FP):aT:=(gy (j2 (tV (u9 bN (af (dV 1) (af (dV 2) aB))))) (qw 1 eM (af (aP 2) aB)) bQ)
def pY(F_place bN:FP):aT:=(aU (mO 1 (jh aB)) (aU (om (nList (oT (nList (dV 0)))) (bj 2) (eU F_place bN)) (tR 1)))
def iS(F_place:FP):aT:=(bO (oT (eA (ag mM (dC (.int 1)) (dV 0)))))
def oA(bN:FP):aT:=(bO (bC cB (bV (nList (dV 0)) (tV (aM bN (af (aP 0) (af (aP 2) aB)))) (aP 0))))
end L2.D.Sh
namespace L2.D
open PySem
theorem z9(a b:Nat):Builtin.bitAnd (a:Int) (b:Int)=((a&&&b:Nat):Int):=by
 unfold Builtin.bitAnd
 rw[SZ ⋯,SZ ⋯]
 simp
theorem k7(k:Nat):(1:Int)*2^((k:Int).toNat)=((2^k:Nat):Int):=by
 rw[Zu]
 simp
def VF(p:Nat->Nat->Bool):Bool:=(List.range 64).all λa=>(List.range 64).all λb=>p a b
theorem Oi{p:Nat->Nat->Bool}(h:VF p=true){a b:Nat}(ha:a<64)(hb:b<64):p a b=true:=
 ZP.mp (ZP.mp h a (ZW.mpr ha)) b (ZW.mpr hb)
def Rn(p:Nat->Bool):Bool:=(List.range 64).all p
theorem KJ{p:Nat->Bool}(h:Rn p=true){a:Nat}(ha:a<64):p a=true:=ZP.mp h a (ZW.mpr ha)
theorem jG(c:Int)(n:Nat)(h:0<n):∃a:Nat,a<n/\c %(n:Int)=(a:Int):=by
 have h1:=Zz c (show(n:Int)≠0 by omega)
 have h2:=YM c (show(0:Int)<n by omega)
 exact⟨(c %(n:Int)).toNat,⋯,⋯⟩
variable{n:Nat}
theorem G9(h:n<=100000):tP (n:Int)=true:=by
 unfold tP
 simp
 omega
theorem Ur{k:Nat}(h:k<n)(hn:n<=1000:=by decide):j9 1 (k:Int)=true:=by
 unfold j9
 simp
 omega
def Sn(o:Option PV)(l:List Nat):Bool:=match o with
 |some (.lst ps)=>match fN ps with
  |some xs=>xs==l.map (λ(n:Nat)=>(n:Int))
  |none=>false
 |_=>false
theorem uk:∀xs:List Int,fN (xs.map PV.int)=⇑xs
 |[]=>rfl
 |x::xs=>by
  rw[ZV]
  unfold fN
  rw[uk xs]
  rfl
theorem x8:∀{ps:List PV} {xs:List Int},fN ps=⇑xs->ps=xs.map PV.int
 |[],xs,h=>by cases h;rfl
 |p::ps,xs,h=>by
  cases p<;>first|(cases h;done)|skip
  obtain⟨_,h1,rfl⟩:=ZC.mp h
  rw[ZV,<-x8 h1]
abbrev aW(l:List Nat):PV:=.lst (l.map λ(n:Nat)=>PV.int (n:Int))
theorem Oj{o:Option PV}{l:List Nat}(h:Sn o l=true):o=⇑(aW l):=by
 unfold Sn at h
 split at h
 ·split at h
  ·rename_i ps xs e
   have:=eq_of_beq h
   subst this
   rw[x8 e,Zp]
   rfl
  ·cases h
 ·cases h
abbrev ih(g:Nat):List Int:=(Mt.j6 g).map λ(n:Nat)=>(n:Int)
def Ol(a b:Nat):Bool:=if(ih a).length=(ih b).length then wV (ih a) (ih b)else decide ((ih a).length<(ih b).length)
theorem vI(g:qy)(body:aT)(x:PV)(xs:List PV)(ρ:bU):forL g body (x::xs) ρ=(g x ρ).bind λρ1=>(body ρ1).bind λf=>match f with
 |.nx ρ'=>forL g body xs ρ'
 |.ct ρ'=>forL g body xs ρ'
 |.bk ρ'=>⇑(.nx ρ')
 |.rt p=>⇑(.rt p):=rfl
abbrev XH:=fn false 2 2 Sh.mh
abbrev Us:=fn true 1 1 (Sh.mi XH)
abbrev So:=fn false 2 1 (Sh.nI Us)
abbrev XI:=fn true 1 1 Sh.x6
abbrev XJ:=fn false 2 2 Sh.jc
abbrev VG:=fn false 2 2 Sh.nJ
abbrev Flt:=fn false 2 2 (Sh.vH VG)
abbrev XM:=fn true 3 1 (Sh.pY So Flt)
theorem D4:Rn (λg=>Sn (Us [.int g]) (Mt.j6 g)&&Sn (XI [.int g]) (Mt.j6 g))=true:=by decide+kernel
theorem x9(g:Nat)(h:g<64):Us [.int g]=⇑(aW (Mt.j6 g)):=Oj (by have:=KJ D4 h;rw[ZS]at this;exact this.1)
variable{F:FP}
theorem D5{g:PV}{l:List PV}(h:F [g]=⇑(.lst l)):fn false 2 1 (Sh.nI F) [g]=⇑(.tup [.int l.length,.lst l]):=by
 have sz:(2:Nat)<=sizeLine:=by decide
 simp-implicitDefEqProofs [fn,eD,Sh.nI,h,sz,aU,bK,aM,af,aB,aP,Slot.Nl,bO,eW,bC,cB,dV,Slot.val,vb]
variable{g:Nat}
theorem Ha(h:g<64):So [.int g]=⇑(.tup [.int (ih g).length,.lst ((ih g).map PV.int)]):=by
 have e:(aW (Mt.j6 g))=.lst ((ih g).map PV.int):=by simp[aW,ih]
 have:=x9 g h
 rw[e]at this
 refine(D5 this).trans ?_
 rw[ZD]
theorem vJ:VF (λa b=>Ol a b==decide (Mt.rank a<Mt.rank b))=true:=by decide+kernel
theorem D6{a b:Nat}(ha:a<64)(hb:b<64):Ol a b=decide (Mt.rank a<Mt.rank b):=eq_of_beq (Oi vJ ha hb)
theorem vK{n:Int}(h:qA n=true):n.toNat<64/\n=((n.toNat:Nat):Int):=by
 unfold qA at h
 simp only[ZS,Re]at h
 omega
theorem Aa:iO So:=by
 refine⟨λn=>(ih n.toNat).length,λn=>ih n.toNat,λn hn=>?_,λn m hn hm=>?_⟩
 ·obtain⟨h1,h2⟩:=vK hn
  have:=Ha h1
  rw[<-h2]at this
  exact this
 ·obtain⟨h1,h2⟩:=vK hn
  obtain⟨h3,_⟩:=vK hm
  have:=D6 h1 h3
  unfold Ol at this
  unfold lH
  rw[<-this]
  by_cases h:(ih n.toNat).length=(ih m.toNat).length
  ·rw[W1 h,W1 (show(((ih n.toNat).length:Nat):Int)=((ih m.toNat).length:Nat) by rw[h])]
  ·rw[UF h,UF (show¬(((ih n.toNat).length:Nat):Int)=((ih m.toNat).length:Nat) by omega)]
   simp
theorem oB(a b:Nat):VG [.int a,.int b]=⇑(.bl (Mt.sub a b)):=by
 have:(((a&&&b:Nat):Int)=(a:Int))↔(a&&&b)=a:=by omega
 simp-implicitDefEqProofs [fn,eD,Sh.nJ,z9,Mt.sub,this,bO,ag,dV,Slot.val,qt,ip,eqT,vb]
 rfl
theorem um:∀bs:List Bool,bools (bs.map PV.bl)=⇑bs
 |[]=>rfl
 |b::bs=>by
  rw[ZV]
  unfold bools
  rw[um bs]
  rfl
variable{c:dg}{ρ:bU}{f:PV->PV}
theorem oC{e:Den}{p:PV->Bool}:∀xs:List PV,(∀x∈xs,c (.sh x::ρ)=⇑(p x))->(∀x∈xs,p x=true->e (.sh x::ρ)=⇑(f x))->fg c e ρ xs=⇑((xs.filter p).map f)
 |[],_,_=>rfl
 |x::xs,h1,h2=>by
  have ih:=oC xs (λy hy=>h1 y (ZI _ hy)) λy hy=>h2 y (ZI _ hy)
  unfold fg
  rw[h1 x (ZM ..),ih]
  by_cases hp:p x=true
  ·rw[Yx hp,ZV]
   simp[hp,h2 x (ZM ..) hp]
  ·rw[Yy hp]
   simp at hp
   simp[hp]
theorem uo{e:Den}(xs:List PV)(h:∀x∈xs,e (.sh x::ρ)=⇑(f x)):fg cM e ρ xs=⇑(xs.map f):=by
 have:=oC (c:=cM) (e:=e) (ρ:=ρ) (f:=f) (p:=λ_=>true) xs (λ_ _=>rfl) λx hx _=>h x hx
 rwa[List.filter_eq_self.mpr (λ_ _=>rfl)]at this
variable{it:bZ}{xs:List PV}
theorem iD{e:Den}{zs:List PV}(h1:it ρ=⇑xs)(h2:xs.length<=sizeLine)(h3:fg c e ρ xs=⇑zs):bV it c e ρ=⇑(.lst zs):=by
 unfold bV
 rw[h1]
 show(if xs.length<=sizeLine then _ else none)=_
 rw[W1 h2,h3]
 rfl
variable{body:aT}
theorem gN{g:qy}(h:it ρ=⇑xs):om it g body ρ=forL g body xs ρ:=by
 unfold om
 rw[h]
 rfl
variable{a:Den}
theorem cS{l:List PV}(h:a ρ=⇑(.lst l)):nList a ρ=⇑l:=by
 unfold nList
 rw[h]
 rfl
theorem ak{a b:aT}{ρ':bU}(h:a ρ=⇑(.nx ρ')):aU a b ρ=b ρ':=by
 unfold aU
 rw[h]
 rfl
variable{p:PV}
theorem dQ{a b:aT}(h:a ρ=⇑(.rt p)):aU a b ρ=⇑(.rt p):=by
 unfold aU
 rw[h]
 rfl
theorem gg{t:dg}{a b:aT}(h:t ρ=⇑true):gy t a b ρ=a ρ:=by
 unfold gy
 rw[h]
 rfl
theorem ck{t:dg}{a b:aT}(h:t ρ=⇑false):gy t a b ρ=b ρ:=by
 unfold gy
 rw[h]
 rfl
variable{i:Nat}
theorem aH(h:a ρ=⇑p):bK i a ρ=⇑(.nx (ρ.set i (.sh p))):=by
 unfold bK
 rw[h]
 rfl
theorem ko{l:List PV}(h:a ρ=⇑(.lst l)):mO i a ρ=⇑(.nx (ρ.set i (.ow l))):=by
 unfold mO
 rw[h]
 rfl
theorem b5(h:a ρ=⇑p):bO a ρ=⇑(.rt p):=by
 unfold bO
 rw[h]
 rfl
variable{ps:List PV}
theorem aG{as:bZ}(h:as ρ=⇑ps):aM F as ρ=F ps:=by
 unfold aM
 rw[h]
 rfl
theorem bB{b:Bool}(h:a ρ=⇑(.bl b)):tV a ρ=⇑b:=by
 unfold tV
 rw[h]
 rfl
theorem iT{t:dg}{b:Bool}(h:t ρ=⇑b):j2 t ρ=⇑(!b):=by
 unfold j2
 rw[h]
 rfl
theorem BX{a b:dg}(h:a ρ=⇑false):II a b ρ=b ρ:=by
 unfold II
 rw[h]
 rfl
theorem L6{a b:dg}(h:a ρ=⇑true):II a b ρ=⇑true:=by
 unfold II
 rw[h]
 rfl
theorem rB{a b:dg}(h:a ρ=⇑true):mD a b ρ=b ρ:=by
 unfold mD
 rw[h]
 rfl
theorem vL{a b:dg}(h:a ρ=⇑false):mD a b ρ=⇑false:=by
 unfold mD
 rw[h]
 rfl
theorem ai{g:PV->PV->Option PV}{b:Den}{x y:PV}(h1:a ρ=⇑x)(h2:b ρ=⇑y):ag g a b ρ=g x y:=by
 unfold ag
 rw[h1]
 show(b ρ).bind _=_
 rw[h2]
 rfl
theorem br{g:PV->Option PV}{x:PV}(h1:a ρ=⇑x):bC g a ρ=g x:=by
 unfold bC
 rw[h1]
 rfl
theorem kq{j:Int}(h1:a ρ=⇑(.int j))(h2:tP j=true):eA a ρ=⇑(gD 0 j.toNat):=by
 unfold eA
 rw[h1]
 simp only[Ym,sH]
 rw[W1 h2]
variable{fr:Bool}
theorem b8{k:Nat}(h:ps.length=k)(e:body (eD n ps)=⇑(.rt p)):fn fr n k body ps=⇑p:=by
 unfold fn
 rw[W1 h,e]
 rfl
theorem vM(ns:List Int)(k:Nat):XJ [.lst (ns.map PV.int),.int k]=⇑(.int (ns.getD k 0)):=by
 have t:tV (ag EJ (dV 1) (bC cB (dV 0))) [.sh (.lst (ns.map PV.int)),.sh (.int k)]=⇑(decide (k<ns.length)):=by
  refine bB ((ai (x:=.int k) (y:=.int ((ns.map PV.int).length:Nat)) rfl rfl).trans ?_)
  show some (PV.bl (decide ((k:Int)<(((ns.map PV.int).length:Nat):Int))))=_
  rw[ZD]
  congr 2
  rw[decide_eq_decide]
  omega
 by_cases h:k<ns.length
 ·rw[SZ h]at t
  have e:itemAt (ns.map PV.int) (k:Int)=⇑(.int (ns.getD k 0)):=by simp[itemAt,LG,h]
  exact b8 rfl (dQ ((gg t).trans (b5 ((ai (x:=.lst (ns.map PV.int)) (y:=.int k) rfl rfl).trans e))))
 ·rw[Wp h]at t
  have h2:ns.getD k 0=0:=by
   rw[ZU,YC ⋯]
   rfl
  rw[h2]
  exact b8 rfl ((ak ((ck t).trans rfl)).trans (b5 rfl))
theorem fZ{k:Nat}{f:Den}(h:ps.length=k)(e:f (eD n ps)=⇑p):fn fr n k (bO f) ps=⇑p:=by
 unfold fn
 rw[W1 h]
 unfold bO
 rw[e]
 rfl
abbrev pl(l:List Nat):List PV:=l.map λ(n:Nat)=>PV.int (n:Int)
theorem hV(l:List Nat):(pl l).length=l.length:=ZD _
theorem Hb(hF:∀a b:Nat,F [.int a,.int b]=⇑(.bl (Mt.sub a b)))(l:List Nat)(g:Nat)(hl:l.length<=sizeLine):fn false 2 2 (Sh.vH F) [aW l,.int g]=⇑(.bl (Mt.lets l g)):=by
 refine fZ rfl ?_
 have e:=uo (e:=aM F (af (aP 0) (af (aP 2) aB))) (ρ:=[.sh (aW l),.sh (.int g)]) (f:=λx=>.bl (match x with|.int n=>Mt.sub n.toNat g|_=>false)) (pl l) (by
  intro x hx
  obtain⟨n,_,rfl⟩:=Zi.mp hx
  simp-implicitDefEqProofs [hF,aM,af,aB,aP,Slot.Nl])
 have d:=iD (it:=nList (dV 0)) (ρ:=[.sh (aW l),.sh (.int g)]) (xs:=pl l) rfl (by rw[hV];exact hl) e
 show(bV (nList (dV 0)) cM (aM F (af (aP 0) (af (aP 2) aB))) [.sh (aW l),.sh (.int g)]).bind JG=_
 rw[d]
 have e2:(pl l).map (λx=>PV.bl (match x with|.int n=>Mt.sub n.toNat g|_=>false))=(l.map λr=>Mt.sub r g).map PV.bl:=by
  rw[Zp,Zp]
  rfl
 show(bools ((pl l).map (λx=>PV.bl (match x with|.int n=>Mt.sub n.toNat g|_=>false)))).map _=_
 rw[e2,um]
 unfold Mt.lets
 rw[YD,List.any_map]
 rfl
theorem BY(l:List Nat)(g:Nat)(hl:l.length<=sizeLine):Flt [aW l,.int g]=⇑(.bl (Mt.lets l g)):=Hb oB l g hl
def BZ(l:List Nat):List Nat:=(eF lH (l.map λ(n:Nat)=>(n:Int))).map Int.toNat
theorem Hc(l:List Nat):eF lH (l.map λ(n:Nat)=>(n:Int))=(BZ l).map λ(n:Nat)=>(n:Int):=by
 unfold BZ
 rw[Zp]
 have:∀x∈eF lH (l.map λ(n:Nat)=>(n:Int)),((λ(n:Nat)=>(n:Int))∘Int.toNat) x=id x:=λx hx=>by
  obtain⟨n,_,rfl⟩:=Zi.mp (qH hx)
  simp
 rw[List.map_congr_left this,List.map_id]
theorem B2{l:List Nat}(h:g∈BZ l):g∈l:=by
 obtain⟨x,hx,rfl⟩:=Zi.mp h
 obtain⟨n,hn,rfl⟩:=Zi.mp (qH hx)
 simpa using hn
theorem vN(l:List Nat):(BZ l).length=l.length:=by
 unfold BZ
 rw[ZD,mX,ZD]
theorem rC(l:List Nat):fN (pl l)=⇑(l.map λ(n:Nat)=>(n:Int)):=by
 have:pl l=(l.map λ(n:Nat)=>(n:Int)).map PV.int:=by
  rw[Zp]
  rfl
 rw[this,uk]
theorem D7{l:List Nat}(h:∀g∈l,g<64)(hl:l.length<=5000):ke (l.map λ(n:Nat)=>(n:Int))=true:=by
 unfold ke
 simp only[ZS,ZP,Re,ZD]
 refine⟨λx hx=>?_,hl⟩
 obtain⟨n,hn,rfl⟩:=Zi.mp hx
 have:=h n hn
 unfold qA
 simp
 omega
theorem yb{l:List Nat}(h:it ρ=⇑(pl l))(Ph:∀g∈l,g<64)(hl:l.length<=5000):oT it ρ=⇑(aW (BZ l)):=by
 unfold oT
 rw[h]
 show(fN (pl l)).bind _=_
 rw[rC]
 show(if ke _ then _ else none)=_
 rw[W1 (D7 Ph hl),Hc,Zp]
 rfl
theorem uq{F_place bN:FP}(hL:∀(l:List Nat) (g:Nat),l.length<=sizeLine->bN [aW l,.int g]=⇑(.bl (Mt.lets l g)))(s0:Slot):∀(ss acc:List Nat) (s2:Slot),acc.length+ss.length<=5000->
  ∃t2,forL (bj 2) (Sh.eU F_place bN) (pl ss) [s0,.ow (pl acc),s2]=⇑(.nx [s0,.ow (pl (ss.foldl Mt.fU acc)),t2])
 |[],acc,s2,_=>⟨s2,rfl⟩
 |g::ss,acc,s2,h=>by
  have zl:(5000:Nat)<=sizeLine:=by decide
  rw[ZJ]at h
  have b:Sh.eU F_place bN [s0,.ow (pl acc),.sh (.int g)]=⇑(.nx [s0,.ow (pl (Mt.fU acc g)),.sh (.int g)]):=by
   have h1:=hL acc g ⋯
   have h2:(pl acc).length<sizeLine:=by rw[hV];omega
   have h3:(Sh.eU F_place bN [s0,.ow (pl acc),.sh (.int g)])=(if(!Mt.lets acc g)=true then ⇑(.nx [s0,.ow (pl acc++[.int g]),.sh (.int g)])else ⇑(.nx [s0,.ow (pl acc),.sh (.int g)])):=by
    unfold Sh.eU gy j2 tV u9
    have e0:(af (dV 1) (af (dV 2) aB)) [s0,.ow (pl acc),.sh (.int g)]=some [aW acc,.int g]:=rfl
    rw[e0]
    simp-implicitDefEqProofs only[Ym,h1,flat,if_true,C7,YD]
    split
    ·have:(qw 1 eM (af (aP 2) aB)) [s0,.ow (pl acc),.sh (.int g)]=((if(pl acc).length<sizeLine then ⇑(pl acc++[.int g])else none).map λl'=>Fl.nx [s0,.ow l',.sh (.int g)]):=rfl
     rw[this,W1 h2]
     rfl
    ·rfl
   rw[h3]
   unfold Mt.fU
   cases Mt.lets acc g<;>simp[pl]
  obtain⟨t2,e⟩:=uq hL s0 ss (Mt.fU acc g) (.sh (.int g)) (by
   unfold Mt.fU
   split
   ·omega
   ·rw[ZT,Zq]
    omega)
  refine⟨t2,?_⟩
  rw[show pl (g::ss)=.int g::pl ss from rfl,vI]
  show((Sh.eU F_place bN [s0,.ow (pl acc),.sh (.int g)]).bind _)=_
  rw[b]
  exact e
theorem D8{F_place bN:FP}(hL:∀(l:List Nat) (g:Nat),l.length<=sizeLine->bN [aW l,.int g]=⇑(.bl (Mt.lets l g))){l:List Nat}(Ph:∀g∈l,g<64)(hl:l.length<=5000):
  fn true 3 1 (Sh.pY F_place bN) [aW l]=⇑(aW (Mt.A9 (BZ l))):=by
 obtain⟨_,e⟩:=uq (F_place:=F_place) hL (.sh (aW l)) (BZ l) [] .un (by rw[vN];simpa using hl)
 have d:=yb (it:=nList (dV 0)) (ρ:=[.sh (aW l),.ow [],.un]) (l:=l) rfl Ph hl
 refine b8 rfl ?_
 refine(ak (ko (l:=[]) rfl)).trans ?_
 refine(ak ((gN (cS d)).trans e)).trans ?_
 rfl
theorem Hd{l:List Nat}(Ph:∀g∈l,g<64)(hl:l.length<=5000):XM [aW l]=⇑(aW (Mt.A9 (BZ l))):=D8 BY Ph hl
theorem vO{l:List Nat}{x:PV}(h:x∈pl l):∃n∈l,x=.int (n:Nat):=by
 obtain⟨n,hn,rfl⟩:=Zi.mp h
 exact⟨n,hn,rfl⟩
theorem pZ(c:Nat)(h:c<=6):mM (.int 1) (.int c)=⇑(.int ((2^c:Nat):Int)):=by
 have:=Ur (k:=c) (n:=7) ⋯
 unfold mM
 dsimp only
 rw[W1 this,k7]
theorem B3(n:Nat):∀l m:List Nat,l.length=m.length->(j7 (ik n) (pl l) (pl m)).map (λes=>es.all id)=⇑(decide (l=m))
 |[],[],_=>rfl
 |a::l,b::m,h=>by
  have ih:=B3 n l m (by simpa using h)
  obtain⟨es,e1,e2⟩:=ZC.mp ih
  have h1:ik n (.int a) (.int b)=⇑(decide (a=b)):=by
   have:ik n (.int a) (.int b)=⇑(((a:Int))==(b:Int)):=by cases n<;>rfl
   rw[this]
   congr 1
   by_cases h:a=b
   ·subst h;simp
   ·have:¬((a:Int)=(b:Int)):=by omega
    rw[Wp h]
    simp[this]
  show((j7 (ik n) (.int a::pl l) (.int b::pl m)).map _)=_
  unfold j7
  rw[h1,e1]
  show some ((decide (a=b)::es).all id)=_
  rw[YH,e2]
  congr 1
  by_cases h2:a=b<;>by_cases h3:l=m<;>simp[h2,h3]
 |[],_::_,h=>by simp at h
 |_::_,[],h=>by simp at h
theorem Om(n:Nat)(l m:List Nat):ik (n+1) (aW l) (aW m)=⇑(decide (l=m)):=by
 show yV (ik n) (pl l) (pl m)=_
 unfold yV
 rw[hV,hV]
 by_cases h:l.length=m.length
 ·rw[W1 h]
  exact B3 n l m h
 ·rw[UF h]
  congr 1
  exact(Wp λz=>h (by rw[z])).symm
theorem Oo(l m:List Nat):jY (aW l) (aW m)=⇑(.bl (!decide (l=m))):=by
 show(ik 20 (aW l) (aW m)).map (λe=>PV.bl !e)=_
 rw[Om]
 rfl
theorem KL(l:List Nat):(pl l).all flat=true:=by
 rw[ZP]
 intro x hx
 obtain⟨n,_,rfl⟩:=vO hx
 rfl
theorem D9(l:List Nat)(p:PV->Bool):(pl l).filter p=pl (l.filter λn=>p (.int (n:Nat))):=by
 unfold pl
 rw[List.filter_map]
 rfl
theorem jm{c:Nat}(h:c<=6):2^c<=64:=Nat.pow_le_pow_right ∅ h
theorem yc:∀(ss acc:List Nat),(ss.foldl Mt.fU acc).length<=acc.length+ss.length
 |[],acc=>by simp
 |g::ss,acc=>by
  have:=yc ss (Mt.fU acc g)
  rw[Z2,ZJ]
  have h2:(Mt.fU acc g).length<=acc.length+1:=by
   unfold Mt.fU
   split
   ·omega
   ·rw[ZT]
    simp
  omega
theorem Ec(l:List Nat):(Mt.A9 (BZ l)).length<=l.length:=by
 have:=yc (BZ l) []
 rw[vN]at this
 have h2:(List.foldl Mt.fU [] (BZ l)).length<=l.length:=by simpa using this
 exact h2
abbrev o7(ns:List Int):PV:=.lst (ns.map PV.int)
theorem jn(x:Int)(h:0<n):bT (.int x) (.int n)=⇑(.int (((x %(n:Int)).toNat:Nat):Int)):=by
 show(if decide (0<(n:Int))then ⇑(PV.int (x %(n:Int)))else none)=_
 rw[W1 (SZ ⋯)]
 have:=Zz x (show(n:Int)≠0 by omega)
 congr 2
 omega
theorem mod_lt(x:Int)(h:0<n):(x %(n:Int)).toNat<n:=by
 have:=YM x (show(0:Int)<n by omega)
 omega
theorem iE(n:Nat):gD 0 n=pl (List.range n):=by
 unfold gD
 refine List.map_congr_left λk _=>?_
 rw[Int.zero_add]
theorem jo(h:a ρ=⇑(.int n))(hn:n<=100000):eA a ρ=⇑(pl (List.range n)):=by
 rw[kq h (G9 hn),Zu,iE]
theorem oD{l:List Nat}{p:Nat->Bool}(h1:it ρ=⇑(pl l))(h2:l.length<=sizeLine)(h3:∀n∈l,c (.sh (.int (n:Nat))::ρ)=⇑(p n)):bV it c (aP 0) ρ=⇑(aW (l.filter p)):=by
 have cp:=oC (c:=c) (e:=aP 0) (ρ:=ρ) (f:=id) (p:=λx=>match x with|.int r=>p r.toNat|_=>false) (pl l) (by
  intro x hx
  obtain⟨n,hn,rfl⟩:=vO hx
  exact h3 n hn) (λx hx _=>rfl)
 refine(iD h1 (by rw[hV];exact h2) cp).trans ?_
 rw[D9,List.map_id]
 rfl
theorem rD{e:Den}{l:List Nat}{f:Nat->PV}(h1:it ρ=⇑(pl l))(h2:l.length<=sizeLine)(h3:∀n∈l,e (.sh (.int (n:Nat))::ρ)=⇑(f n)):bV it cM e ρ=⇑(.lst (l.map f)):=by
 have cp:=uo (e:=e) (ρ:=ρ) (f:=λx=>match x with|.int r=>f r.toNat|_=>.non) (pl l) (by
  intro x hx
  obtain⟨n,hn,rfl⟩:=vO hx
  exact h3 n hn)
 refine(iD h1 (by rw[hV];exact h2) cp).trans ?_
 unfold pl
 rw[Zp]
 rfl
theorem av{as:bZ}{x:PV}(h1:a ρ=⇑x)(h2:as ρ=⇑xs):af a as ρ=⇑(x::xs):=by
 unfold af
 rw[h1,h2]
 rfl
theorem iU{as:bZ}(h:as ρ=⇑xs)(hl:xs.length<=5000):jh as ρ=⇑(.lst xs):=by
 have zl:(5000:Nat)<=sizeLine:=by decide
 unfold jh
 rw[h]
 show(if xs.length<=sizeLine then ⇑(PV.lst xs)else none)=_
 rw[W1 ⋯]
def yd(c:Nat):List Nat:=BZ (List.range (2^c))
theorem ye{c:Nat}(h:g∈yd c):g<2^c:=ZW.mp (B2 h)
theorem rE(c:Nat):(yd c).length=2^c:=by
 unfold yd
 rw[vN,Zk]
abbrev XN:=fn true 1 1 (Sh.iS So)
theorem Ab{c:Nat}(c6:c<=6):fn true 1 1 (Sh.iS F) [.int c]=⇑(aW (yd c)):=by
 have X9:=jm c6
 refine fZ rfl ?_
 refine yb (jo (n:=2^c) ((ai (x:=.int 1) (y:=.int c) rfl rfl).trans (pZ c c6)) ⋯) (λg hg=>?_) (by rw[Zk];omega)
 have:=ZW.mp hg
 omega
theorem ur{c:Nat}(c6:c<=6):XN [.int c]=⇑(aW (yd c)):=Ab c6
theorem B4{b:Den}(h:a ρ=⇑(.bl true)):tQ a b ρ=b ρ:=by
 unfold tQ
 rw[h]
 rfl
theorem dA(a b:Str):(a++b).length=a.length+b.length:=by
 show(a.cps++b.cps).size=_
 rw[U1]
 rfl
theorem uu(a b c:Str):(a++b)++c=a++(b++c):=by
 show Str.mk ((a.cps++b.cps)++c.cps)=Str.mk (a.cps++(b.cps++c.cps))
 rw[X0]
theorem L7{α β:Type}(f:α->Option β):∀l:List α,(l.filterMap f).length<=l.length
 |[]=>ZK _
 |x::l=>by
  have:=L7 f l
  rw[Zs]
  split
  ·rw[ZJ];omega
  ·rw[ZJ,ZJ];omega
theorem vP(x:Str)(lo hi:Option Int){st:Int}(h0:st≠0):(bX x lo hi st).length<=x.length:=by
 unfold bX
 split
 ·exact ZK _
 ·show((Builtin.Str.strSliceIndices lo hi st x.length).filterMap (x.cps[·]?)).toArray.size<=_
  rw[ZH]
  have h1:=L7 (x.cps[·]?) (Builtin.Str.strSliceIndices lo hi st x.length)
  have h2:=sliceIndicesBy_le lo hi st h0 x.length
  omega
theorem He{α β:Type}(f:α->Option β):∀l:List α,(∀x∈l,(f x).isSome=true)->(l.filterMap f).length=l.length
 |[],_=>rfl
 |x::l,h=>by
  have ih:=He f l λy hy=>h y (ZI _ hy)
  obtain⟨z,hz⟩:=YE.mp (h x (ZM ..))
  rw[Zs,hz,ZJ,ZJ,ih]
theorem rF(x:Str)(n:Nat)(h:n<=x.length):(bX x none ⇑(n:Int) 1).length=n:=by
 have e:Builtin.Str.strSliceIndices none ⇑(n:Int) 1 x.length=(List.range n).map (0+·):=by
  have:=YG 0 n
  rw[z0A]at this
  rw[<-this]
  unfold Builtin.Str.strSliceIndices
  simp only
  congr 1
  rw[W1 ∅,UF ⋯]
  omega
 unfold bX
 rw[e]
 split
 ·rename_i hh
  rw[ZS,KB,KB,ZD,Zk]at hh
  omega
 ·show(((List.range n).map (0+·)).filterMap (x.cps[·]?)).toArray.size=n
  rw[ZH,He,ZD,Zk]
  intro i hi
  obtain⟨k,hk,rfl⟩:=Zi.mp hi
  have:=ZW.mp hk
  have hl:0+k<x.cps.size:=by
   have:x.cps.size=x.length:=rfl
   omega
  have MB:k<x.cps.size:=by omega
  simp[MB]
def lC:Str:= "abcdefghijklmnopqrstuvwxyz"
theorem Hf:lC.length=26:=by decide+kernel
variable{x:Str}
theorem Oq(h:i<x.length)(hx:x.length<=5000):∃y:Str,y.length=1/\c9 (.str x) (.int i)=⇑(.str y):=by
 have zl:(5000:Nat)<=sizeLine:=by decide
 have hl:i<x.cps.toList.length:=by
  rw[ZQ]
  exact h
 have:itemAt x.cps.toList (i:Int)=⇑(x.cps.toList[i]'hl):=by
  unfold itemAt LG
  rw[W1 ⋯,W1 ⋯]
  show x.cps.toList[(i:Int).toNat]?=_
  rw[Zu,ZG hl]
 refine⟨⟨#[x.cps.toList[i]'hl]⟩,rfl,?_⟩
 show(if x.length<=sizeLine then(itemAt x.cps.toList (i:Int)).map (λc=>PV.str ⟨#[c]⟩)else none)=_
 rw[W1 ⋯,this]
 rfl
theorem dI(a b:Str)(h:a.length+b.length<=100000):bP (.str a) (.str b)=⇑(.str (a++b)):=by
 have zl:(100000:Nat)<=sizeLine:=by decide
 show(if a.length+b.length<=sizeLine then ⇑(PV.str (a++b))else none)=_
 rw[W1 ⋯]
variable{y:Str}
theorem iF{A:Den}{lo hi:va}{l h:Option Int}(hA:A ρ=⇑(.str y))(hl:lo ρ=⇑l)(hh:hi ρ=⇑h)(hy:y.length<=100000):jE A lo hi ρ=⇑(.str (bX y l h 1)):=by
 have zl:(100000:Nat)<=sizeLine:=by decide
 unfold jE
 rw[hA,hl,hh]
 show(if y.length<=sizeLine then ⇑(PV.str (bX y l h 1))else none)=_
 rw[W1 ⋯]
theorem k9{a b:Int}(h1:-100000000000<=a)(h2:a<=100000000000):j8 (.int a) (.int b)=⇑(.int (a*b)):=by
 have:mL a b=true:=by
  unfold mL
  rw[Y6,ZS]
  exact .inl ⟨SZ ⋯,SZ ⋯⟩
 show(if mL a b then ⇑(PV.int (a*b))else none)=_
 rw[W1 this]
theorem fE(a:Int){n:Int}(h:0<n):bT (.int a) (.int n)=⇑(.int (a % n)):=by
 show(if decide (0<n)then ⇑(PV.int (a % n))else none)=_
 rw[W1 (SZ h)]
theorem Hg(a:Int){n:Int}(h:0<n)(h2:n<1073741824):ja (.int a) (.int n)=⇑(.int (a/n)):=by
 show(if decide (0<n)&&decide (n<1073741824)then ⇑(PV.int (a/n))else none)=_
 rw[SZ h,SZ h2]
 rfl
def As(x:Str):Prop:=∀c∈x.cps.toList,c<128
theorem Ac(h:As x):x.cps.all (·<128)=true:=by
 rw[<-Array.all_toList,ZP]
 exact λc hc=>SZ (h c hc)
theorem oE{a b:Str}(ha:As a)(hb:As b):As (a++b):=λc hc=>by
 have e:(a++b).cps.toList=a.cps.toList++b.cps.toList:=YW
 rw[e]at hc
 rcases Zg.mp hc with h|h
 ·exact ha c h
 ·exact hb c h
theorem Ot(h:As x)(lo hi:Option Int)(st:Int):As (bX x lo hi st):=by
 unfold bX
 split
 ·exact h
 ·intro c hc
  have hc:c∈(Builtin.Str.strSliceIndices lo hi st x.length).filterMap (x.cps[·]?):=hc
  obtain⟨i,_,e⟩:=YA.mp hc
  exact h c (by rw[Yn];exact z0M e)
def XO(x:Str):Bool:=x.cps.toList.all λc=>decide (c<128)
theorem yf(h:XO x=true):As x:=λc hc=>PP (ZP.mp h c hc)
def sg(c:Nat):Bool:=Dw "a" ⟨#[c]⟩&&Dw ⟨#[c]⟩ "z"
def kept:List PV:=[.str "all",.str "any",.str "of"]
def B5(x:Str):Bool:=decide (1<=x.length)&&decide (x.length<=20)
def nm(x:Str):Bool:=!j0 (.str x) kept&&B5 x&&x.cps.toList.all sg
def Lw(x:Str):Prop:=∀c∈x.cps.toList,97<=c/\c<=122
theorem Lw.as(h:Lw x):As x:=λc hc=>by have:=h c hc;omega
theorem vQ{a b:Str}(ha:Lw a)(hb:Lw b):Lw (a++b):=λc hc=>by
 have e:(a++b).cps.toList=a.cps.toList++b.cps.toList:=YW
 rw[e]at hc
 rcases Zg.mp hc with h|h
 ·exact ha c h
 ·exact hb c h
theorem vR(h:Lw x)(lo hi:Option Int)(st:Int):Lw (bX x lo hi st):=by
 unfold bX
 split
 ·exact h
 ·intro c hc
  have hc:c∈(Builtin.Str.strSliceIndices lo hi st x.length).filterMap (x.cps[·]?):=hc
  obtain⟨i,_,e⟩:=YA.mp hc
  exact h c (by rw[Yn];exact z0M e)
def Ut(x:Str):Bool:=x.cps.toList.all λc=>decide (97<=c)&&decide (c<=122)
theorem Hh(h:Ut x=true):Lw x:=λc hc=>by
 have:=ZP.mp h c hc
 simpa using this
def jH(i:Nat):Str:=⟨#[97+i]⟩
theorem B6(h:i<26):Lw (jH i):=λc hc=>by
 have:c=97+i:=by simpa[jH]using hc
 omega
theorem Hi:((List.range 26).all λi=>itemAt lC.cps.toList (i:Int)==⇑(97+i))=true:=by decide+kernel
theorem uv(h:i<26):c9 (.str lC) (.int i)=⇑(.str (jH i)):=by
 have zl:(5000:Nat)<=sizeLine:=by decide
 have hc:=KB.mp (ZP.mp Hi i (ZW.mpr h))
 show(if lC.length<=sizeLine then(itemAt lC.cps.toList (i:Int)).map (λc=>PV.str ⟨#[c]⟩)else none)=_
 rw[W1 (by rw[Hf];omega),hc]
 rfl
def Ae:List Nat->List Nat->Nat
 |x::l,y::m=>(if x=y then 0 else 1)+Ae l m
 |_,_=>0
theorem rG:∀l:List Nat,Ae l l=0
 |[]=>rfl
 |x::l=>by
  show(if x=x then 0 else 1)+Ae l l=0
  rw[W1 rfl,rG l]
theorem B7(a b:List Nat):∀l:List Nat,Ae (l++a) (l++b)=Ae a b
 |[]=>rfl
 |x::l=>by
  show(if x=x then 0 else 1)+Ae (l++a) (l++b)=_
  rw[W1 rfl,B7 a b l,Y5]
theorem KN(A C:Str){j:Nat}(h:i≠j):Ae ((A++jH i)++C).cps.toList ((A++jH j)++C).cps.toList=1:=by
 have e:∀k,((A++jH k)++C).cps.toList=A.cps.toList++((97+k)::C.cps.toList):=λk=>by
  show((A.cps++#[97+k])++C.cps).toList=_
  simp
 rw[e,e,B7]
 show(if 97+i=97+j then 0 else 1)+Ae C.cps.toList C.cps.toList=1
 rw[UF ⋯,rG]
def fin(y:Str):Str:=if j0 (.str y) kept=true then bX y none none (-1)else y
def Pj:List Str:=["all","any","of"]
theorem Ou:(Pj.all λx=>Ut (bX x none none (-1))&&decide ((bX x none none (-1)).length=x.length)&&!decide (Ae x.cps.toList (bX x none none (-1)).cps.toList=1)&&!decide (Ae (bX x none none (-1)).cps.toList x.cps.toList=1)&&Pj.all λy=>!decide (Ae x.cps.toList y.cps.toList=1))=true:=by decide+kernel
theorem rH{x:Str}:∀{ts:List Str},j0 (.str x) (ts.map PV.str)=decide (x∈ts)
 |[]=>by simp[j0]
 |t::ts=>by
  have ih:=rH (x:=x) (ts:=ts)
  unfold j0 at ih⊢
  rw[ZV,YU,ih]
  show((t==x)||decide (x∈ts))=_
  by_cases h:t=x
  ·subst h
   simp
  ·rw[beq_eq_false_iff_ne.mpr h]
   simp[Zc,Ne.symm h]
theorem nK:j0 (.str x) kept=decide (x∈Pj):=rH (ts:=Pj)
theorem B8(h:j0 (.str x) kept=true):Lw (bX x none none (-1))/\(bX x none none (-1)).length=x.length/\Ae x.cps.toList (bX x none none (-1)).cps.toList≠1/\Ae (bX x none none (-1)).cps.toList x.cps.toList≠1/\∀y,j0 (.str y) kept=true->Ae x.cps.toList y.cps.toList≠1:=by
 rw[nK]at h
 have:=ZP.mp Ou x (PP h)
 simp only[ZS,U0,decide_eq_false_iff_not,Re]at this
 obtain⟨⟨⟨⟨h1,h2⟩,h3⟩,h4⟩,h5⟩:=this
 refine⟨Hh h1,h2,h3,h4,λy hy=>?_⟩
 rw[nK]at hy
 have:=ZP.mp h5 y (PP hy)
 simpa using this
theorem p5(x:Str):(fin x).length=x.length:=by
 unfold fin
 split
 ·rename_i h
  exact(B8 h).2.1
 ·rfl
theorem Ov(h:Lw x):Lw (fin x):=by
 unfold fin
 split
 ·rename_i h
  exact(B8 h).1
 ·exact h
theorem Ow(h:Ae x.cps.toList y.cps.toList=1):fin x≠fin y:=by
 unfold fin
 split
 ·rename_i hx
  obtain⟨_,_,h3,_,h5⟩:=B8 hx
  split
  ·rename_i hy
   exact absurd h (h5 y hy)
  ·intro e
   rw[e]at h3
   exact h3 h
 ·split
  ·rename_i hy
   obtain⟨_,_,_,h4,_⟩:=B8 hy
   intro e
   rw[<-e]at h4
   exact h4 h
  ·intro e
   rw[e,rG]at h
   cases h
end L2.D
namespace L2.D.Rq
open PySem
def p6:List (Str×Int):=[("all(",1),("any(",1),("1 of (",1),("2 of (",2),("3 of (",3),("4 of (",4),("5 of (",5),("6 of (",6),("7 of (",7),("8 of (",8)]
def kF:List PV:=[.str "all(",.str "any(",.str "1 of (",.str "2 of (",.str "3 of (",.str "4 of (",.str "5 of (",.str "6 of (",.str "7 of (",.str "8 of ("]
def iG:aT:=(aU (bK 2 (dC (.int 0))) (aU (om (Bw (aP 0) (aP 1)) (kc (bj 3) (bj 4)) (aU (gy (tV (ag jY (dV 3) (dV 4))) qv bQ) (bK 2 (ag BV (dV 2) (dC (.int 1)))))) (bO (aP 2))))
def cG:FP:=fn false 5 2 iG
def tf:Den:=bC (cJ fK "signs") (dV 0)
def kr:Den:=bC (cJ fK "at") (dV 0)
def yg:Den:=bC (cJ fK "words") (dV 0)
def vS:aT:=bO (ag ip (jE tf (cL kr) (cL (ag bP kr (dC (.int 1))))) (dV 1))
def iV:FP:=fn false 2 2 vS
def ku:du:=eO (qU 1 (jE tf (cL kr) iN)) (eO (qU 2 (bC xp (bV (nList yg) cM (aM cG (af (aP 2) (af (aP 0) aB)))))) (eO (zQ (aP 2)) (eO (zR (tV (ag lY (jE (dV 1) iN (cL (dV 2))) yg)) jF km) (xE (jE (dV 1) iN (cL (dV 2)))))))
def gh:FQ:=pG false 3 1 ku
def kx:du:=eO (zR (j2 (tV (di (oZ iV) (aP 0) (af (aP 1) aB)))) jF km) (zQ (dC (.int 1)))
def cT:FQ:=pG false 2 2 kx
def gF:aT:=(aU (gy (tV (ag ip (dV 0) (dC (.str "all(")))) (bO (bC Gg (dV 1))) bQ) (aU (gy (tV (ag ip (dV 0) (dC (.str "any(")))) (bO (bC Gh (dV 1))) bQ) (bO (ag zH (bC (xx p6) (dV 0)) (dV 1)))))
def bI:FP:=fn false 2 2 gF
def oF:dg:=II (tV (ag EJ (bC cB (dV 2)) (dV 1))) (j2 (tV (di (oZ iV) (aP 0) (af (dC (.str ")")) aB))))
def oG(FT:FQ):du:=eO (zR (tV (ag ip (bC cB (dV 2)) (dC (.int 8)))) jF km) (eO (nu (fP cT (af (dC (.str ",")) aB))) (eO (nu (fP cT (af (dC (.str " ")) aB))) (GS 2 (fP FT aB))))
def dB(FT:FQ):du:=eO (ra 2 (fP FT aB)) (eO (jb oF (oG FT) 10) (eO (nu (fP cT (af (dC (.str ")")) aB))) (xG 2)))
def dZ(FP:FQ):du:=eO (xH 1 (fP gh aB)) (eO (zR (tV (bC (vt p6) (dV 1))) (xF (bC Gf (dV 1))) km) (xT bI (aP 1) (fP FP (af (bC (xx p6) (dV 1)) aB))))
def cz:Nat->FQ
 |0=>λ_ _ _=>none
 |n+1=>pG false 2 1 (dZ (pG true 3 2 (dB (cz n))))
def mj:du:=zR (tV (ag EJ kr (bC cB tf))) jF km
def f6:FQ:=pG false 1 1 mj
def ml:List PV->Option Rg:=ui 3 3 (ag bP (bC qu (dV 1)) (dC (.lst kF))) (aP 2)
def Af:aT:=GW 2 3 ml (cz 24) f6 (af (aP 0) (af (aP 1) aB))
def rJ:FP:=fn false 4 2 Af
end L2.D.Rq
namespace L2.D
open PySem
structure It where
 o:PV
 s:PV
 t:Str
 d:Nat
def wt(l:List It):Nat:=(l.map λi=>i.t.length+2).sum
theorem Ox(i:It):wt [i]=i.t.length+2:=by
 unfold wt
 simp
theorem B9(i:It)(l:List It):wt (i::l)=i.t.length+2+wt l:=by
 unfold wt
 rw[ZV,YZ]
variable{α:Type}{ρ:bU}
theorem yh{e:Den}(v f:α->PV):∀(xs:List α),(∀x∈xs,e (.sh (v x)::ρ)=⇑(f x))->fg cM e ρ (xs.map v)=⇑(xs.map f)
 |[],_=>rfl
 |x::xs,h=>by
  have ih:=yh v f xs λy hy=>h y (ZI _ hy)
  show((⇑true).bind λb=>if b then(e (.sh (v x)::ρ)).bind λz=>(fg cM e ρ (xs.map v)).map (z::·)else fg cM e ρ (xs.map v))=_
  rw[h x (ZM ..),ih]
  rfl
theorem ky{it:bZ}{e:Den}(v f:α->PV){xs:List α}(h1:it ρ=⇑(xs.map v))(h2:xs.length<=5000)(h3:∀x∈xs,e (.sh (v x)::ρ)=⇑(f x)):bV it cM e ρ=⇑(.lst (xs.map f)):=by
 have zl:(5000:Nat)<=sizeLine:=by decide
 exact iD h1 (by rw[ZD];omega) (yh v f xs h3)
theorem oH:∀ts:List Str,oV (ts.map PV.str)=⇑ts
 |[]=>rfl
 |t::ts=>by
  show(oV (ts.map PV.str)).map (t::·)=_
  rw[oH ts]
  rfl
theorem joinOk_of(sep:Str)(ts:List Str)(h:(ts.map λt=>t.length+sep.length).sum<=100000):JoinOk sep ts=true:=by
 have zl:(100000:Nat)<=sizeLine:=by decide
 have key:∀(ts:List Str) (a:Nat),ts.foldl (λacc t=>acc+t.length+sep.length) a=a+(ts.map λt=>t.length+sep.length).sum:=by
  intro ts
  induction ts with
  |nil=>intro a;rfl
  |cons t ts ih=>
   intro a
   rw[Z2,ih,ZV,YZ]
   omega
 unfold JoinOk Builtin.Str.tooLong
 rw[List.foldl_toArray',key]
 ·simp
  omega
 ·rfl
theorem join_le(sep:Str):∀ts:List Str,(Txt.join sep ts).length<=(ts.map λt=>t.length+sep.length).sum
 |[]=>Zm _
 |t::ts=>by
  have key:∀(ts:List Str) (a:Array Nat),(ts.foldl (λacc (p:Str)=>acc++sep.cps++p.cps) a).size=a.size+(ts.map λt=>t.length+sep.length).sum:=by
   intro ts
   induction ts with
   |nil=>intro a;rfl
   |cons t ts ih=>
    intro a
    rw[Z2,ih,ZV,YZ,U1,U1]
    have:t.cps.size=t.length:=rfl
    have:sep.cps.size=sep.length:=rfl
    omega
  show(ts.foldl (λacc (p:Str)=>acc++sep.cps++p.cps) t.cps).size<=_
  rw[key,ZV,YZ]
  have:t.cps.size=t.length:=rfl
  omega
theorem Ed(sep:Str)(ts:List Str)(h:(ts.map λt=>t.length+sep.length).sum<=100000):xm (.str sep) (.lst (ts.map PV.str))=⇑(.str (Txt.join sep ts)):=by
 show(oV (ts.map PV.str)).bind _=_
 rw[oH]
 show(if JoinOk sep ts then ⇑(PV.str (Txt.join sep ts))else none)=_
 rw[W1 (joinOk_of sep ts h)]
theorem fold_max:∀(ds:List Nat) (a:Nat),∃M:Nat,(ds.map λ(n:Nat)=>(n:Int)).foldl (λa b=>if b>a then b else a) (a:Int)=(M:Int)/\a<=M/\(∀x∈ds,x<=M)/\(M=a\/M∈ds)
 |[],a=>⟨a,rfl,ZK _,by simp,.inl rfl⟩
 |d::ds,a=>by
  rw[ZV,Z2]
  by_cases h:d>a
  ·have e:(if(d:Int)>(a:Int)then(d:Int)else(a:Int))=(d:Int):=W1 ⋯
   rw[e]
   obtain⟨M,h1,h2,h3,h4⟩:=fold_max ds d
   refine⟨M,h1,⋯,λx hx=>?_,?_⟩
   ·rcases Zc.mp hx with rfl|hx
    ·exact h2
    ·exact h3 x hx
   ·rcases h4 with rfl|h4
    ·exact .inr (ZM ..)
    ·exact .inr (ZI _ h4)
  ·have e:(if(d:Int)>(a:Int)then(d:Int)else(a:Int))=(a:Int):=UF ⋯
   rw[e]
   obtain⟨M,h1,h2,h3,h4⟩:=fold_max ds a
   refine⟨M,h1,h2,λx hx=>?_,?_⟩
   ·rcases Zc.mp hx with rfl|hx
    ·omega
    ·exact h3 x hx
   ·rcases h4 with rfl|h4
    ·exact .inl rfl
    ·exact .inr (ZI _ h4)
theorem Hj(ds:List Nat)(h:ds≠[]):∃M:Nat,xp (aW ds)=⇑(.int (M:Nat))/\(∀x∈ds,x<=M)/\M∈ds:=by
 cases ds with
 |nil=>exact absurd rfl h
 |cons d ds=>
  obtain⟨M,h1,h2,h3,h4⟩:=fold_max ds d
  refine⟨M,?_,λx hx=>?_,?_⟩
  ·show(fN (pl (d::ds))).bind _=_
   rw[rC]
   show(⇑((ds.map λ(n:Nat)=>(n:Int)).foldl (λa b=>if b>a then b else a) (d:Int))).map PV.int=_
   rw[h1]
   rfl
  ·rcases Zc.mp hx with rfl|hx
   ·exact h2
   ·exact h3 x hx
  ·rcases h4 with rfl|h4
   ·exact ZM ..
   ·exact ZI _ h4
theorem Ag{A:Den}{lo hi:va}{l:List PV}{a b:Option Int}(hA:A ρ=⇑(.lst l))(hl:lo ρ=⇑a)(hh:hi ρ=⇑b):LH A lo hi ρ=⇑(.lst (kb l a b)):=by
 unfold LH
 rw[hA,hl,hh]
 rfl
theorem cm{as:bZ}{xs:List PV}(h:as ρ=⇑xs)(hl:xs.length<=5000):eW as ρ=⇑(.tup xs):=by
 have zl:(5000:Nat)<=sizeLine:=by decide
 unfold eW
 rw[h]
 show(if xs.length<=sizeLine then ⇑(PV.tup xs)else none)=_
 rw[W1 ⋯]
end L2.D
namespace L2.D.Rq
open PySem
def oI:List Nat->List Nat->Nat
 |a::x,b::y=>if a=b then oI x y+1 else 0
 |_,_=>0
theorem Oy(c d:Nat):jY (.str ⟨#[c]⟩) (.str ⟨#[d]⟩)=⇑(.bl (!decide (c=d))):=by
 show some (PV.bl (!decide ((⟨#[c]⟩:Str)=⟨#[d]⟩)))=_
 congr 3
 rw[decide_eq_decide]
 constructor
 ·intro h
  injection h with h
  injection h with h
  exact(Yz h).1
 ·rintro rfl
  rfl
abbrev Hk:aT:=(aU (gy (tV (ag jY (dV 3) (dV 4))) qv bQ) (bK 2 (ag BV (dV 2) (dC (.int 1)))))
theorem rK(s0 s1:Slot):∀(xs ys:List Nat) (k:Int) (s3 s4:Slot),∃t3 t4,forL (kc (bj 3) (bj 4)) Hk (List.zipWith (λc d=>PV.tup [.str ⟨#[c]⟩,.str ⟨#[d]⟩]) xs ys) [s0,s1,.sh (.int k),s3,s4]=⇑(.nx [s0,s1,.sh (.int (k+(oI xs ys:Nat))),t3,t4])
 |[],ys,k,s3,s4=>⟨s3,s4,by
  show some (Fl.nx [s0,s1,.sh (.int k),s3,s4])=_
  rw[show oI [] ys=0 by unfold oI;rfl]
  simp⟩
 |_::_,[],k,s3,s4=>⟨s3,s4,by
  show some (Fl.nx [s0,s1,.sh (.int k),s3,s4])=_
  simp[oI]⟩
 |a::xs,b::ys,k,s3,s4=>by
  rw[List.zipWith_cons_cons,vI]
  have hg:kc (bj 3) (bj 4) (.tup [.str ⟨#[a]⟩,.str ⟨#[b]⟩]) [s0,s1,.sh (.int k),s3,s4]=some [s0,s1,.sh (.int k),.sh (.str ⟨#[a]⟩),.sh (.str ⟨#[b]⟩)]:=rfl
  rw[hg]
  have ht:tV (ag jY (dV 3) (dV 4)) [s0,s1,.sh (.int k),.sh (.str ⟨#[a]⟩),.sh (.str ⟨#[b]⟩)]=⇑(!decide (a=b)):=bB ((ai (x:=.str ⟨#[a]⟩) (y:=.str ⟨#[b]⟩) rfl rfl).trans (Oy a b))
  by_cases h:a=b
  ·rw[SZ h]at ht
   have hb:Hk [s0,s1,.sh (.int k),.sh (.str ⟨#[a]⟩),.sh (.str ⟨#[b]⟩)]=⇑(.nx [s0,s1,.sh (.int (k+1)),.sh (.str ⟨#[a]⟩),.sh (.str ⟨#[b]⟩)]):=(ak ((ck ht).trans rfl)).trans rfl
   obtain⟨t3,t4,e⟩:=rK s0 s1 xs ys (k+1) (.sh (.str ⟨#[a]⟩)) (.sh (.str ⟨#[b]⟩))
   refine⟨t3,t4,?_⟩
   show(Hk [s0,s1,.sh (.int k),.sh (.str ⟨#[a]⟩),.sh (.str ⟨#[b]⟩)]).bind _=_
   rw[hb]
   refine e.trans ?_
   have el:oI (a::xs) (b::ys)=oI xs ys+1:=by
    show(if a=b then oI xs ys+1 else 0)=_
    rw[W1 h]
   rw[el]
   have:k+1+((oI xs ys:Nat):Int)=k+((oI xs ys+1:Nat):Int):=by omega
   rw[this]
  ·rw[Wp h]at ht
   have hb:Hk [s0,s1,.sh (.int k),.sh (.str ⟨#[a]⟩),.sh (.str ⟨#[b]⟩)]=⇑(.bk [s0,s1,.sh (.int k),.sh (.str ⟨#[a]⟩),.sh (.str ⟨#[b]⟩)]):=by
    show(gy (tV (ag jY (dV 3) (dV 4))) qv bQ [s0,s1,.sh (.int k),.sh (.str ⟨#[a]⟩),.sh (.str ⟨#[b]⟩)]).bind _=_
    rw[gg ht]
    rfl
   refine⟨.sh (.str ⟨#[a]⟩),.sh (.str ⟨#[b]⟩),?_⟩
   show(Hk [s0,s1,.sh (.int k),.sh (.str ⟨#[a]⟩),.sh (.str ⟨#[b]⟩)]).bind _=_
   rw[hb]
   have el:oI (a::xs) (b::ys)=0:=by
    show(if a=b then oI xs ys+1 else 0)=_
    rw[UF h]
   rw[el]
   show some (Fl.nx [s0,s1,.sh (.int k),.sh (.str ⟨#[a]⟩),.sh (.str ⟨#[b]⟩)])=_
   have:k+((0:Nat):Int)=k:=by omega
   rw[this]
variable{x:Str}
theorem Ee{y:Str}(hx:As x)(hy:As y):cG [.str x,.str y]=⇑(.int (oI x.cps.toList y.cps.toList:Nat)):=by
 refine b8 rfl ?_
 refine(ak (aH (p:=.int 0) rfl)).trans ?_
 have it:Bw (aP 0) (aP 1) [.sh (.str x),.sh (.str y),.sh (.int 0),.un,.un]=⇑(Dz x y):=by
  show(if x.cps.all (·<128)&&y.cps.all (·<128)then ⇑(Dz x y)else none)=_
  rw[Ac hx,Ac hy]
  rfl
 obtain⟨_,_,e⟩:=rK (.sh (.str x)) (.sh (.str y)) x.cps.toList y.cps.toList 0 .un .un
 refine(ak ((gN it).trans e)).trans ?_
 refine b5 ?_
 show some (PV.int (0+(oI x.cps.toList y.cps.toList:Nat)))=_
 rw[Int.zero_add]
variable{c:dg}{g:du}{ps:List PV}
section
variable{t:Rg}{n m:Int}{ρ ρ':bU}{a b:du}{f:Den}{p:PV}{q:Int×Fl}
theorem dR(h:a t n ρ=⇑(m,.nx ρ')):eO a b t n ρ=b t m ρ':=by
 unfold eO
 rw[h]
 rfl
theorem yi{i:Nat}(h:f (wQ t n ρ)=⇑p)(hf:flat p=true):qU i f t n ρ=⇑(n,.nx (ρ.set i (.sh p))):=by
 unfold qU
 rw[h]
 show(if flat p=true then _ else _)=_
 rw[W1 hf]
theorem Ca{k:Int}(h:f (wQ t n ρ)=⇑(.int k)):zQ f t n ρ=⇑(n+k,.nx ρ):=by
 unfold zQ
 rw[h]
 rfl
theorem Ro(h:c (wQ t n ρ)=⇑true):zR c a b t n ρ=a t n ρ:=by
 unfold zR
 rw[h]
 rfl
theorem yj(h:c (wQ t n ρ)=⇑false):zR c a b t n ρ=b t n ρ:=by
 unfold zR
 rw[h]
 rfl
theorem Hl(h:f (wQ t n ρ)=⇑p)(hf:flat p=true):xE f t n ρ=⇑(n,.rt p):=by
 unfold xE
 rw[h]
 show(if flat p=true then _ else _)=_
 rw[W1 hf]
theorem vT{fr:Bool}{N k:Nat}(h:ps.length+1=k)(e:g t n (.un::(ps.map Slot.sh++List.replicate (N-k) .un))=⇑(m,.rt p)):pG fr N k g t n ps=⇑(m,p):=by
 unfold pG
 rw[W1 h,e]
 rfl
theorem Hm{N k:Nat}(h:ps.length+1=k)(e:g t n (.un::(ps.map Slot.sh++List.replicate (N-k) .un))=⇑(m,.nx ρ')):pG false N k g t n ps=⇑(m,.non):=by
 unfold pG
 rw[W1 h,e]
 rfl
end
theorem Uu:(("words" :Str)==("words" :Str))=true:=by decide+kernel
theorem Uv:(("signs" :Str)==("words" :Str))=false:=by decide+kernel
theorem Uw:(("signs" :Str)==("signs" :Str))=true:=by decide+kernel
theorem Ux:(("at" :Str)==("words" :Str))=false:=by decide+kernel
theorem Uy:(("at" :Str)==("signs" :Str))=false:=by decide+kernel
theorem Uz:(("at" :Str)==("at" :Str))=true:=by decide+kernel
theorem Oz(t:Rg)(n:Int):cJ fK "words" (zO t n)=⇑(.lst t.ws):=by
 show List.lookup ("words" :Str) [(("words" :Str),PV.lst t.ws),(("signs" :Str),.str t.sg),(("at" :Str),.int n)]=_
 rw[Zb,Uu]
theorem Ho(t:Rg)(n:Int):cJ fK "signs" (zO t n)=⇑(.str t.sg):=by
 show List.lookup ("signs" :Str) [(("words" :Str),PV.lst t.ws),(("signs" :Str),.str t.sg),(("at" :Str),.int n)]=_
 rw[Zb,Uv,Zb,Uw]
theorem Hq(t:Rg)(n:Int):cJ fK "at" (zO t n)=⇑(.int n):=by
 show List.lookup ("at" :Str) [(("words" :Str),PV.lst t.ws),(("signs" :Str),.str t.sg),(("at" :Str),.int n)]=_
 rw[Zb,Ux,Zb,Uy,Zb,Uz]
section
variable(t:Rg)(n:Int)(ρ:bU)
theorem L8:tf (wQ t n (.un::ρ))=⇑(.str t.sg):=(br (x:=zO t n) rfl).trans (Ho t n)
theorem L9:kr (wQ t n (.un::ρ))=⇑(.int n):=(br (x:=zO t n) rfl).trans (Hq t n)
theorem Ma:yg (wQ t n (.un::ρ))=⇑(.lst t.ws):=(br (x:=zO t n) rfl).trans (Oz t n)
end
theorem Hr{α:Type}(l:List α)(a:Nat):∀k,a+k<=l.length->((List.range k).map (a+·)).filterMap (l[·]?)=(l.drop a).take k
 |0,_=>by simp
 |k+1,h=>by
  have ih:=Hr l a k ⋯
  rw[List.range_succ,Zr,z0N,ih,List.take_succ]
  congr 1
  have jX:a+k<l.length:=by omega
  rw[ZV,Yt,Zs,ZG jX,z0Y,ZG jX]
  rfl
theorem rL{lo hi:Option Int}{a b:Nat}(Yb:a<=b)(hb:b<=x.length)(e:Builtin.Str.strSliceIndices lo hi 1 x.length=(List.range (b-a)).map (a+·)):(bX x lo hi 1).cps.toList=(x.cps.toList.drop a).take (b-a):=by
 have hl:x.cps.toList.length=x.length:=ZQ
 unfold bX
 rw[e]
 split
 ·rename_i hh
  rw[ZS,KB,KB,ZD,Zk]at hh
  have ha:a=0:=by omega
  have oX:b=x.length:=by omega
  subst ha
  rw[z0L,Yk ⋯]
 ·have:=Hr x.cps.toList a (b-a) ⋯
  rw[<-this]
  show((((List.range (b-a)).map (a+·)).filterMap (x.cps[·]?)).toArray).toList=_
  simp only[Z3]
theorem KO(n len:Nat)(h:n<=len):Builtin.Str.strSliceIndices ⇑(n:Int) none 1 len=(List.range (len-n)).map (n+·):=by
 have:=YG n len
 rw[<-this]
 unfold Builtin.Str.strSliceIndices
 simp only
 congr 1
 rw[W1 ∅,UF ⋯]
 omega
theorem Rt(n len:Nat)(h:n<=len):Builtin.Str.strSliceIndices none ⇑(n:Int) 1 len=(List.range (n-0)).map (0+·):=by
 have:=YG 0 n
 rw[<-this]
 unfold Builtin.Str.strSliceIndices
 simp only
 congr 1
 rw[W1 ∅,UF ⋯]
 omega
theorem Hs(a b len:Nat)(h:a<=b)(hb:b<=len):Builtin.Str.strSliceIndices ⇑(a:Int) ⇑(b:Int) 1 len=(List.range (b-a)).map (a+·):=by
 have:=YG a b
 rw[<-this]
 unfold Builtin.Str.strSliceIndices
 simp only
 congr 1
 ·rw[W1 ∅,UF ⋯]
  omega
 ·rw[W1 ∅,UF ⋯]
  omega
variable{n:Nat}
theorem Ht(h:n<=x.length):(bX x ⇑(n:Int) none 1).cps.toList=x.cps.toList.drop n:=by
 rw[rL h (ZK _) (KO n x.length h),Yk]
 rw[Z5,show x.cps.toList.length=x.length from ZQ]
 exact ZK _
theorem Hu(h:n<=x.length):(bX x none ⇑(n:Int) 1).cps.toList=x.cps.toList.take n:=by
 rw[rL (Zm n) h (Rt n x.length h),z0L,z0A]
end L2.D.Rq
namespace L2.D
open PySem
theorem rM{α:Type}{c:dg}{ρ:bU}(v:α->PV)(p:α->Bool):∀xs:List α,(∀x∈xs,c (.sh (v x)::ρ)=⇑(p x))->fg c (aP 0) ρ (xs.map v)=⇑((xs.filter p).map v)
 |[],_=>rfl
 |x::xs,h=>by
  have ih:=rM v p xs λy hy=>h y (ZI _ hy)
  rw[ZV]
  unfold fg
  rw[h x (ZM ..),ih]
  by_cases hp:p x=true
  ·rw[Yx hp,hp]
   rfl
  ·rw[Yy hp]
   have Qg:p x=false:=by simpa using hp
   rw[Qg]
   rfl
def cnt(ls:List (List Nat))(g:Nat):Nat:=ls.countP λl=>Mt.lets l g
theorem yk{bN:FP}(XQ:∀(l:List Nat) (g:Nat),l.length<=sizeLine->bN [aW l,.int g]=⇑(.bl (Mt.lets l g)))(ls:List (List Nat))(g:Nat)(hl:ls.length<=5000)(hs:∀l∈ls,l.length<=64):fn false 2 2 (Sh.oA bN) [.lst (ls.map aW),.int g]=⇑(.int (cnt ls g:Nat)):=by
 have zl:(5000:Nat)<=sizeLine:=by decide
 refine fZ rfl ?_
 have cp:=rM (c:=tV (aM bN (af (aP 0) (af (aP 2) aB)))) (ρ:=[.sh (.lst (ls.map aW)),.sh (.int g)]) aW (λl=>Mt.lets l g) ls (λl hm=>bB ((aG (ps:=[aW l,.int g]) rfl).trans (XQ l g (by have:=hs l hm;omega))))
 refine(br (iD (it:=nList (dV 0)) (xs:=ls.map aW) rfl (by rw[ZD];omega) cp)).trans ?_
 show some (PV.int (((ls.filter λl=>Mt.lets l g).map aW).length:Nat))=_
 rw[ZD,<-List.countP_eq_length_filter]
 rfl
end L2.D
namespace L2.D.Rq
open PySem
theorem Cb:∀(w post:List Nat),oI (w++post) w=w.length
 |[],post=>by cases post<;>rfl
 |a::w,post=>by
  show(if a=a then oI (w++post) w+1 else 0)=_
  rw[W1 rfl,Cb w post,ZJ]
variable{x:Str}
theorem Cd{y:Str}(h:x.cps.toList=y.cps.toList):x=y:=by
 cases x
 cases y
 simp only[Str.mk.injEq]
 exact Array.toList_inj.mp h
variable{ws:List Str}
theorem Hv{w:Str}(h:w∈ws):lY (.str w) (.lst (ws.map PV.str))=⇑(.bl false):=by
 have a:(ws.map PV.str).all flat=true:=ZP.mpr λp hp=>by
  obtain⟨y,_,rfl⟩:=Zi.mp hp
  rfl
 have b:j0 (.str w) (ws.map PV.str)=true:=Y0.mpr ⟨.str w,Zi.mpr ⟨w,h,rfl⟩,by
  show(w==w)=true
  simp⟩
 show(if flat (.str w)&&(ws.map PV.str).all flat then ⇑(PV.bl (!j0 (.str w) (ws.map PV.str)))else none)=_
 rw[a,b]
 rfl
variable{n:Nat}{post:List Nat}
theorem Ce{sg w:Str}(hs:As sg)(XR:∀v∈ws,As v)(hl:ws.length<=5000)(hlen:sg.length<=100000)(hn:n<=sg.length)(hw:w∈ws)(hr:sg.cps.toList.drop n=w.cps.toList++post)(hm:∀v∈ws,oI (w.cps.toList++post) v.cps.toList<=w.length):
  gh ⟨ws.map PV.str,sg⟩ (n:Nat) []=⇑(((n+w.length:Nat):Int),.str w):=by
 have e0:w.cps.toList.length=w.length:=ZQ
 obtain⟨rest,Cf⟩:∃r,r=bX sg ⇑(n:Int) none 1:=⟨_,rfl⟩
 have er:rest.cps.toList=w.cps.toList++post:=by rw[Cf,Ht hn,hr]
 have ar:As rest:=by rw[Cf];exact Ot hs _ _ _
 have lr:rest.length<=sg.length:=by rw[Cf];exact vP _ _ _ ∅
 have lw:w.length<=rest.length:=by
  have:rest.cps.toList.length=rest.length:=ZQ
  rw[er,ZT]at this
  omega
 have c1:jE tf (cL kr) iN (wQ ⟨ws.map PV.str,sg⟩ (n:Nat) [.un,.un,.un])=⇑(.str rest):=by
  rw[Cf]
  refine iF (L8 _ _ _) (l:=⇑(n:Int)) ?_ rfl hlen
  show(kr (wQ ⟨ws.map PV.str,sg⟩ (n:Nat) [.un,.un,.un])).bind _=_
  rw[L9]
  rfl
 have c2:bC xp (bV (nList yg) cM (aM cG (af (aP 2) (af (aP 0) aB)))) (wQ ⟨ws.map PV.str,sg⟩ (n:Nat) [.un,.sh (.str rest),.un])=⇑(.int (w.length:Nat)):=by
  have dc:bV (nList yg) cM (aM cG (af (aP 2) (af (aP 0) aB))) (wQ ⟨ws.map PV.str,sg⟩ (n:Nat) [.un,.sh (.str rest),.un])=⇑(.lst (ws.map λv=>.int (oI rest.cps.toList v.cps.toList:Nat))):=by
   refine ky PV.str (λv=>.int (oI rest.cps.toList v.cps.toList:Nat)) (cS (Ma _ _ _)) hl λv hv=>?_
   exact(aG (ps:=[.str rest,.str v]) rfl).trans (Ee ar (XR v hv))
  refine(br dc).trans ?_
  have ne:ws.map (λv=>oI rest.cps.toList v.cps.toList)≠[]:=λz=>by
   rw[List.map_eq_nil_iff]at z
   rw[z]at hw
   cases hw
  obtain⟨M,h1,h2,h3⟩:=Hj _ ne
  have ep:aW (ws.map λv=>oI rest.cps.toList v.cps.toList)=.lst (ws.map λv=>.int (oI rest.cps.toList v.cps.toList:Nat)):=by
   unfold aW
   rw[Zp]
   rfl
  rw[ep]at h1
  rw[h1]
  have m1:=h2 _ (Zi.mpr ⟨w,hw,rfl⟩)
  obtain⟨v,hv,ev⟩:=Zi.mp h3
  have m2:=hm v hv
  rw[er]at m1 ev
  rw[Cb,e0]at m1
  have:M=w.length:=by omega
  rw[this]
 have c3:∀k:Int,jE (dV 1) iN (cL (dV 2)) (wQ ⟨ws.map PV.str,sg⟩ k [.un,.sh (.str rest),.sh (.int (w.length:Nat))])=⇑(.str w):=λk=>by
  refine(iF (y:=rest) (l:=none) (h:=⇑((w.length:Nat):Int)) rfl rfl rfl ⋯).trans ?_
  have:bX rest none ⇑((w.length:Nat):Int) 1=w:=Cd (by
   rw[Hu lw,er,z0S ⋯,Yk ⋯])
  rw[this]
 refine vT rfl ?_
 refine(dR (yi c1 rfl)).trans ?_
 refine(dR (yi c2 rfl)).trans ?_
 refine(dR (Ca (k:=(w.length:Nat)) rfl)).trans ?_
 refine(dR ((yj (bB ((ai (c3 _) (Ma _ _ _)).trans (Hv hw)))).trans rfl)).trans ?_
 refine(Hl (c3 _) rfl).trans ?_
 have:((n:Nat):Int)+((w.length:Nat):Int)=((n+w.length:Nat):Int):=by omega
 rw[this]
abbrev one(c:Nat):Str:=⟨#[c]⟩
theorem beyond(x:Str)(lo hi:Nat)(h:x.length<=lo)(hh:lo<=hi):(bX x ⇑(lo:Int) ⇑(hi:Int) 1).cps.toList=[]:=by
 have e:Builtin.Str.strSliceIndices ⇑(lo:Int) ⇑(hi:Int) 1 x.length=(List.range (x.length-x.length)).map (x.length+·):=by
  have:=YG x.length x.length
  rw[<-this]
  unfold Builtin.Str.strSliceIndices
  simp only
  congr 1
  ·rw[W1 ∅,UF ⋯]
   omega
  ·rw[W1 ∅,UF ⋯]
   omega
 rw[rL (ZK _) (ZK _) e,z0W,z0c]
theorem rN{ws:List PV}{sg:Str}{c:Nat}(hlen:sg.length<=100000):iV [zO ⟨ws,sg⟩ (n:Nat),.str (one c)]=⇑(.bl (decide ((sg.cps.toList.drop n).head?=some c))):=by
 have hl:sg.cps.toList.length=sg.length:=ZQ
 refine fZ rfl ?_
 have c1:jE tf (cL kr) (cL (ag bP kr (dC (.int 1)))) [.sh (zO ⟨ws,sg⟩ (n:Nat)),.sh (.str (one c))]=⇑(.str (bX sg (some (n:Int)) (some ((n+1:Nat):Int)) 1)):=by
  have a1:kr [.sh (zO ⟨ws,sg⟩ (n:Nat)),.sh (.str (one c))]=⇑(.int (n:Nat)):=(br (x:=zO ⟨ws,sg⟩ (n:Nat)) rfl).trans (Hq _ _)
  refine iF (y:=sg) ((br (x:=zO ⟨ws,sg⟩ (n:Nat)) rfl).trans (Ho _ _)) (l:=⇑(n:Int)) (h:=⇑((n+1:Nat):Int)) ?_ ?_ hlen
  ·show(kr [.sh (zO ⟨ws,sg⟩ (n:Nat)),.sh (.str (one c))]).bind _=_
   rw[a1]
   rfl
  ·show(ag bP kr (dC (.int 1)) [.sh (zO ⟨ws,sg⟩ (n:Nat)),.sh (.str (one c))]).bind _=_
   rw[(ai (x:=.int (n:Nat)) (y:=.int 1) a1 rfl).trans rfl]
   show some ⇑((n:Int)+1)=_
   rfl
 refine(ai c1 (y:=.str (one c)) rfl).trans ?_
 show some (PV.bl (decide (bX sg ⇑(n:Int) ⇑((n+1:Nat):Int) 1=one c)))=_
 congr 2
 rw[decide_eq_decide]
 by_cases h:n<sg.length
 ·have e:(bX sg ⇑(n:Int) ⇑((n+1:Nat):Int) 1).cps.toList=(sg.cps.toList.drop n).take 1:=by
    have:=rL (x:=sg) (a:=n) (b:=n+1) ⋯ ⋯ (Hs n (n+1) sg.length ⋯ ⋯)
    rw[this]
    congr 1
    omega
  constructor
  ·intro z
   rw[z]at e
   cases hd:sg.cps.toList.drop n with
   |nil=>rw[hd]at e;cases e
   |cons a l=>
    rw[hd]at e
    have:[c]=[a]:=e
    rw[(Yz this).1]
    rfl
  ·intro z
   refine Cd (e.trans ?_)
   cases hd:sg.cps.toList.drop n with
   |nil=>rw[hd]at z;cases z
   |cons a l=>
    rw[hd]at z
    cases z
    rfl
 ·have e:=beyond sg n (n+1) ⋯ ⋯
  have hd:sg.cps.toList.drop n=[]:=Z1 ⋯
  constructor
  ·intro z
   rw[z]at e
   cases e
  ·intro z
   rw[hd]at z
   cases z
theorem sign_eq{ws:List PV}{sg:Str}{c:Nat}{r:List Nat}(hlen:sg.length<=100000)(h:sg.cps.toList.drop n=c::r):cT ⟨ws,sg⟩ (n:Nat) [.str (one c)]=⇑(((n+1:Nat):Int),.non):=by
 refine Hm (ρ':=[.un,.sh (.str (one c))]) rfl ?_
 have m:di (oZ iV) (aP 0) (af (aP 1) aB) (wQ ⟨ws,sg⟩ (n:Nat) [.un,.sh (.str (one c))])=⇑(.bl true):=by
  have:=rN (ws:=ws) (sg:=sg) (n:=n) (c:=c) hlen
  rw[h]at this
  have e:decide ((c::r).head?=⇑c)=true:=SZ rfl
  rw[e]at this
  exact this
 refine(dR ((yj (iT (b:=true) (bB m))).trans rfl)).trans ?_
 exact Ca (k:=1) rfl
theorem Ah:∀{w post v:List Nat},(∀c p v',post=c::p->v≠w++c::v')->oI (w++post) v<=w.length
 |[],[],v,_=>by
  cases v<;>exact ZK _
 |[],c::p,[],_=>ZK _
 |[],c::p,b::v,h=>by
  show(if c=b then oI p v+1 else 0)<=0
  rw[UF λe=>h c p v rfl (by rw[e];rfl)]
  exact ZK _
 |a::w,post,[],_=>Zm _
 |a::w,post,b::v,h=>by
  show(if a=b then oI (w++post) v+1 else 0)<=_
  split
  ·rename_i e
   have:=Ah (w:=w) (post:=post) (v:=v) λc p v' e1 e2=>h c p v' e1 (by rw[e2,e];rfl)
   rw[ZJ]
   omega
  ·exact Zm _
def Behind(post:List Nat):Prop:=∀c p,post=c::p->c=44\/c=41
def ops:List Str:=["all(","any(","1 of (","2 of (","3 of (","4 of (","5 of (","6 of (","7 of (","8 of ("]
def Ci(x:Str):Prop:=∀c∈x.cps.toList,c≠44/\c≠41
theorem KP:(ops.all λx=>x.cps.toList.all λc=>decide (c≠44)&&decide (c≠41)&&decide (c<128))=true:=by decide+kernel
theorem oJ(h:x∈ops):Ci x/\As x:=by
 have h1:=ZP.mp KP x h
 refine⟨λc hc=>?_,λc hc=>?_⟩<;>
 ·have h2:=ZP.mp h1 c hc
  simp only[ZS,Re]at h2
  first|exact⟨h2.1.1,h2.1.2⟩|exact h2.2
theorem Ai{w v:Str}(hb:Behind post)(hv:Ci v):oI (w.cps.toList++post) v.cps.toList<=w.length:=by
 have e0:w.cps.toList.length=w.length:=ZQ
 rw[<-e0]
 refine Ah λc p _ e1 e2=>?_
 have hc:=hv c (by rw[e2];simp)
 rcases hb c p e1 with z|z
 ·exact hc.1 z
 ·exact hc.2 z
theorem OA:(ops.all λx=>x.cps.toList.contains 40&&ops.all λy=>!(decide (y.cps.toList.take x.cps.toList.length=x.cps.toList)&&decide (x.cps.toList.length<y.cps.toList.length)))=true:=by decide+kernel
theorem Hw{w v:Str}(hw:w∈ops)(hv:v∈ops\/40∉v.cps.toList):oI (w.cps.toList++post) v.cps.toList<=w.length:=by
 have e0:w.cps.toList.length=w.length:=ZQ
 have h1:=ZP.mp OA w hw
 rw[ZS]at h1
 rw[<-e0]
 refine Ah λc p _ _ e2=>?_
 rcases hv with hv|hv
 ·have h2:=ZP.mp h1.2 v hv
  have a1:v.cps.toList.take w.cps.toList.length=w.cps.toList:=by rw[e2,List.take_left'];rfl
  have a2:w.cps.toList.length<v.cps.toList.length:=by rw[e2,ZT,ZJ];omega
  rw[SZ a1,SZ a2]at h2
  cases h2
 ·refine hv ?_
  rw[e2]
  exact Zf _ (Y1.mp h1.1)
structure lD(x:Str):Prop where
 as:As x
 ne:Ci x
 no:40∉x.cps.toList
abbrev vU(names:List Str):List PV:=(names++ops).map PV.str
variable{ρ:bU}{g:lJ}{f:Den}{p:PV}{i:Nat}
section
variable{t:Rg}{n m:Int}{ρ':bU}
theorem yl(h:g t n ρ=⇑(m,p))(hf:flat p=true):xH i g t n ρ=⇑(m,.nx (ρ.set i (.sh p))):=by
 unfold xH
 rw[h]
 show(if flat p=true then _ else _)=_
 rw[W1 hf]
theorem Hx(h:f ρ=⇑p):xF f t n ρ=⇑(n,.rt p):=by
 unfold xF
 rw[h]
 rfl
theorem KQ{a b:du}(h:a t n ρ=⇑(m,.rt p)):eO a b t n ρ=⇑(m,.rt p):=by
 unfold eO
 rw[h]
 rfl
theorem gi{F:FQ}{as:bZ}{ps:List PV}(h:as (wQ t n ρ)=⇑ps)(hf:ps.all flat=true):fP F as t n ρ=F t n ps:=by
 unfold fP
 rw[h]
 show(if ps.all flat=true then _ else _)=_
 rw[W1 hf]
theorem rO(h:g t n ρ=⇑(m,p)):nu g t n ρ=⇑(m,.nx ρ):=by
 unfold nu
 rw[h]
 rfl
end
theorem KR:(p6.all λq=>q.1.cps.toList.contains 40)=true:=by decide+kernel
theorem Ef(h:40∉x.cps.toList):p6.lookup x=none:=by
 have hk:∀q∈p6,q.1≠x:=λq hq e=>by
  have:=ZP.mp KR q hq
  rw[e]at this
  exact h (Y1.mp this)
 revert hk
 generalize p6=l
 induction l with
 |nil=>intro _;rfl
 |cons q l ih=>
  intro hk
  obtain⟨k,i⟩:=q
  rw[Zb]
  have:(x==k)=false:=by
   rw[beq_eq_false_iff_ne]
   exact λe=>hk (k,i) (ZM ..) e.symm
  rw[this]
  exact ih λq hq=>hk q (ZI _ hq)
variable{names:List Str}
theorem Hy(hN:∀x∈names,lD x):∀v∈names++ops,As v:=λv hv=>(Zg.mp hv).elim (λh=>(hN v h).as) λh=>(oJ h).2
theorem Eg(hN:∀x∈names,lD x):∀v∈names++ops,Ci v:=λv hv=>(Zg.mp hv).elim (λh=>(hN v h).ne) λh=>(oJ h).1
theorem Eh(hN:∀x∈names,lD x)(hl:names.length<=1000)(hx:x∈names){sg:Str}(hs:As sg)(hlen:sg.length<=100000)(hn:n<=sg.length)(hr:sg.cps.toList.drop n=x.cps.toList++post)(hb:Behind post)(FP:FQ):
  pG false 2 1 (dZ FP) ⟨vU names,sg⟩ (n:Nat) []=⇑(((n+x.length:Nat):Int),.ins 0 [.str x]):=by
 have w1:=Ce (ws:=names++ops) (n:=n) hs (Hy hN) (by rw[ZT];have:ops.length=10:=rfl;omega) hlen hn (Zf _ hx) hr λv hv=>Ai hb (Eg hN v hv)
 refine vT rfl ?_
 refine(dR (yl ((gi (ps:=[]) rfl rfl).trans w1) rfl)).trans ?_
 refine KQ ((Ro ?_).trans (Hx rfl))
 refine bB ((br (x:=.str x) rfl).trans ?_)
 show some (PV.bl !(p6.lookup x).isSome)=_
 rw[Ef (hN x hx).no]
 rfl
def oK(names:List Str)(F:FQ)(i:It):Prop:=∀{sg:Str} {n:Nat} {post:List Nat},As sg->sg.length<=100000->n<=sg.length->sg.cps.toList.drop n=i.t.cps.toList++post->Behind post->F ⟨vU names,sg⟩ (n:Nat) []=⇑(((n+i.t.length:Nat):Int),i.o)
def eJ:List It->List Nat
 |[]=>[]
 |i::l=>44::32::(i.t.cps.toList++eJ l)
def kz:List It->Nat
 |[]=>0
 |i::l=>2+i.t.length+kz l
theorem nL(l:List It)(post:List Nat):Behind (eJ l++41::post):=by
 intro c p e
 cases l with
 |nil=>exact .inr (Yz e).1.symm
 |cons i l=>exact .inl (Yz e).1.symm
theorem hW{l a b:List Nat}(h:l.drop n=a++b):l.drop (n+a.length)=b:=by
 rw[<-z0b,h,List.drop_left']
 rfl
section
variable{t:Rg}{n m:Int}
theorem KS{l:List PV}(ho:sP ρ i=⇑l)(h:g t n ρ=⇑(m,p))(hl:l.length<sizeLine):GS i g t n ρ=⇑(m,.nx (ρ.set i (.ow (l++[p])))):=by
 unfold GS
 rw[ho]
 show((g t n ρ).bind _)=_
 rw[h]
 show(if l.length<sizeLine then _ else _)=_
 rw[W1 hl]
end
variable{FT:FQ}{few:Nat}
theorem rP{sg:Str}(hs:As sg)(hlen:sg.length<=100000){few:Nat}{post:List Nat}:∀(rest o8:List It) (n k:Nat),(∀i∈rest,oK names FT i)->o8.length+rest.length<=8->few<=o8.length+rest.length->rest.length<k->n<=sg.length->sg.cps.toList.drop n=eJ rest++41::post->
  jb oF (oG FT) k ⟨vU names,sg⟩ (n:Nat) [.un,.sh (.int (few:Nat)),.ow (o8.map It.o)]=⇑(((n+kz rest:Nat):Int),.nx [.un,.sh (.int (few:Nat)),.ow ((o8++rest).map It.o)])
 |[],o8,n,0,_,_,_,h,_,_=>absurd h ⋯
 |_::_,o8,n,0,_,_,_,h,_,_=>absurd h ⋯
 |[],o8,n,k+1,hi,h8,hf,hk,hn,hd=>by
  have l1:bC cB (dV 2) (wQ ⟨vU names,sg⟩ (n:Nat) [.un,.sh (.int (few:Nat)),.ow (o8.map It.o)])=⇑(.int (o8.length:Nat)):=by
   show some (PV.int ((o8.map It.o).length:Nat))=_
   rw[ZD]
  have c1:oF (wQ ⟨vU names,sg⟩ (n:Nat) [.un,.sh (.int (few:Nat)),.ow (o8.map It.o)])=⇑false:=by
   refine(BX (bB ((ai l1 (y:=.int (few:Nat)) rfl).trans ?_))).trans (iT (b:=true) (bB ?_))
   ·show some (PV.bl (decide ((o8.length:Int)<(few:Int))))=_
    rw[Wp (by simp at hf;omega)]
   ·have:=rN (ws:=vU names) (sg:=sg) (n:=n) (c:=41) hlen
    rw[hd]at this
    exact this
  unfold jb
  rw[c1,Zh]
  rfl
 |i::rest,o8,n,k+1,hi,h8,hf,hk,hn,hd=>by
  have zl:(5000:Nat)<=sizeLine:=by decide
  have e0:i.t.cps.toList.length=i.t.length:=ZQ
  have el:sg.cps.toList.length=sg.length:=ZQ
  rw[ZJ]at h8 hf hk
  have l1:∀m:Int,bC cB (dV 2) (wQ ⟨vU names,sg⟩ m [.un,.sh (.int (few:Nat)),.ow (o8.map It.o)])=⇑(.int (o8.length:Nat)):=λm=>by
   show some (PV.int ((o8.map It.o).length:Nat))=_
   rw[ZD]
  have c1:oF (wQ ⟨vU names,sg⟩ (n:Nat) [.un,.sh (.int (few:Nat)),.ow (o8.map It.o)])=⇑true:=by
   by_cases jX:o8.length<few
   ·refine L6 (bB ((ai (l1 _) (y:=.int (few:Nat)) rfl).trans ?_))
    show some (PV.bl (decide ((o8.length:Int)<(few:Int))))=_
    rw[SZ ⋯]
   ·refine(BX (bB ((ai (l1 _) (y:=.int (few:Nat)) rfl).trans ?_))).trans (iT (b:=false) (bB ?_))
    ·show some (PV.bl (decide ((o8.length:Int)<(few:Int))))=_
     rw[Wp ⋯]
    ·have:=rN (ws:=vU names) (sg:=sg) (n:=n) (c:=41) hlen
     rw[hd]at this
     exact this
  have d1:sg.cps.toList.drop n=44::(32::(i.t.cps.toList++eJ rest)++41::post):=hd
  have d2:sg.cps.toList.drop (n+1)=32::((i.t.cps.toList++eJ rest)++41::post):=hW (a:=[44]) d1
  have d3:sg.cps.toList.drop (n+1+1)=i.t.cps.toList++(eJ rest++41::post):=(hW (a:=[32]) d2).trans (Z7 ..)
  have n3:n+1+1<=sg.length:=by
   have:=congrArg List.length d1
   rw[Z5,ZJ,ZT,ZJ]at this
   omega
  have n4:n+1+1+i.t.length<=sg.length:=by
   have:=congrArg List.length d3
   rw[Z5,ZT]at this
   omega
  have b1:oG FT ⟨vU names,sg⟩ (n:Nat) [.un,.sh (.int (few:Nat)),.ow (o8.map It.o)]=⇑(((n+1+1+i.t.length:Nat):Int),.nx [.un,.sh (.int (few:Nat)),.ow ((o8++[i]).map It.o)]):=by
   refine(dR ((yj (bB ((ai (l1 _) (y:=.int 8) rfl).trans ?_))).trans rfl)).trans ?_
   ·show some (PV.bl (decide ((o8.length:Int)=8)))=_
    rw[Wp ⋯]
   refine(dR (rO ((gi (ps:=[.str (one 44)]) rfl rfl).trans (sign_eq hlen d1)))).trans ?_
   refine(dR (rO ((gi (ps:=[.str (one 32)]) rfl rfl).trans (sign_eq hlen d2)))).trans ?_
   refine(KS (l:=o8.map It.o) rfl ((gi (ps:=[]) rfl rfl).trans (hi i (ZM ..) hs hlen n3 d3 (nL rest post))) (by rw[ZD];omega)).trans ?_
   rw[Zr]
   rfl
  have ih:=rP hs hlen (few:=few) (post:=post) rest (o8++[i]) (n+1+1+i.t.length) k (λj hj=>hi j (ZI _ hj)) (by rw[ZT];simp;omega) (by rw[ZT];simp;omega) ⋯ n4 (by rw[<-e0];exact hW d3)
  unfold jb
  rw[c1]
  show((oG FT ⟨vU names,sg⟩ (n:Nat) [.un,.sh (.int (few:Nat)),.ow (o8.map It.o)]).bind _)=_
  rw[b1]
  refine ih.trans ?_
  rw[Z7]
  have:n+1+1+i.t.length+kz rest=n+kz (i::rest):=by
   show _=n+(2+i.t.length+kz rest)
   omega
  rw[this]
  rfl
section
variable{t:Rg}{n m:Int}
theorem Ei(h:g t n ρ=⇑(m,p)):ra i g t n ρ=⇑(m,.nx (ρ.set i (.ow [p]))):=by
 unfold ra
 rw[h]
 rfl
theorem Hz{l:List PV}(h:sP ρ i=⇑l):xG i t n ρ=⇑(n,.rt (.lst l)):=by
 unfold xG
 rw[h]
 rfl
theorem HA{F:FP}{a r:PV}(h1:f (wQ t n ρ)=⇑a)(ha:flat a=true)(h2:g t n ρ=⇑(m,p))(h3:F [a,p]=⇑r):xT F f g t n ρ=⇑(m,.rt r):=by
 unfold xT
 rw[h1]
 show(if flat a=true then _ else _)=_
 rw[W1 ha,h2]
 show(F [a,p]).map _=_
 rw[h3]
 rfl
end
variable{rest:List It}
theorem HB{sg:Str}(hs:As sg)(hlen:sg.length<=100000){i:It}(hi:∀j∈i::rest,oK names FT j)(h8:rest.length+1<=8)(hf:few<=rest.length+1)(hn:n<=sg.length)(hd:sg.cps.toList.drop n=i.t.cps.toList++(eJ rest++41::post)):
  pG true 3 2 (dB FT) ⟨vU names,sg⟩ (n:Nat) [.int (few:Nat)]=⇑(((n+i.t.length+kz rest+1:Nat):Int),.lst ((i::rest).map It.o)):=by
 have e0:i.t.cps.toList.length=i.t.length:=ZQ
 have el:sg.cps.toList.length=sg.length:=ZQ
 have d1:sg.cps.toList.drop (n+i.t.length)=eJ rest++41::post:=by
  rw[<-e0]
  exact hW hd
 have n1:n+i.t.length<=sg.length:=by
  have:=congrArg List.length hd
  rw[Z5,ZT]at this
  omega
 have tl:(eJ rest).length=kz rest:=by
  clear hd d1 h8 hf hi
  induction rest with
  |nil=>rfl
  |cons j l ih=>
   show(44::32::(j.t.cps.toList++eJ l)).length=2+j.t.length+kz l
   have e1:j.t.cps.toList.length=j.t.length:=ZQ
   rw[ZJ,ZJ,ZT,ih,e1]
   omega
 have d2:sg.cps.toList.drop (n+i.t.length+kz rest)=41::post:=by
  rw[<-tl]
  exact hW d1
 refine vT rfl ?_
 refine(dR (Ei (p:=i.o) ((gi (ps:=[]) rfl rfl).trans (hi i (ZM ..) hs hlen hn hd (nL rest post))))).trans ?_
 refine(dR (rP hs hlen (few:=few) (post:=post) rest [i] (n+i.t.length) 10 (λj hj=>hi j (ZI _ hj)) (by simp;omega) (by simp;omega) ⋯ n1 d1)).trans ?_
 refine(dR (rO ((gi (ps:=[.str (one 41)]) rfl rfl).trans (sign_eq hlen d2)))).trans ?_
 exact Hz rfl
theorem HC(hN:∀x∈names,lD x)(hl:names.length<=1000){sg:Str}(hs:As sg)(hlen:sg.length<=100000){w:Str}(hw:w∈ops)(hk:p6.lookup w=⇑(few:Int)){i:It}{r:PV}(hi:∀j∈i::rest,oK names FT j)(h8:rest.length+1<=8)(hf:few<=rest.length+1)(hn:n<=sg.length)
  (hd:sg.cps.toList.drop n=w.cps.toList++(i.t.cps.toList++(eJ rest++41::post)))(hc:bI [.str w,.lst ((i::rest).map It.o)]=⇑r):
  pG false 2 1 (dZ (pG true 3 2 (dB FT))) ⟨vU names,sg⟩ (n:Nat) []=⇑(((n+w.length+i.t.length+kz rest+1:Nat):Int),r):=by
 have e0:w.cps.toList.length=w.length:=ZQ
 have el:sg.cps.toList.length=sg.length:=ZQ
 have w1:=Ce (ws:=names++ops) (n:=n) hs (Hy hN) (by rw[ZT];have:ops.length=10:=rfl;omega) hlen hn (ZF _ hw) hd λv hv=>Hw hw ((Zg.mp hv).elim (λh=>.inr (hN v h).no) .inl)
 have n1:n+w.length<=sg.length:=by
  have:=congrArg List.length hd
  rw[Z5,ZT]at this
  omega
 have d1:sg.cps.toList.drop (n+w.length)=i.t.cps.toList++(eJ rest++41::post):=by
  rw[<-e0]
  exact hW hd
 refine vT rfl ?_
 refine(dR (yl ((gi (ps:=[]) rfl rfl).trans w1) rfl)).trans ?_
 refine(dR ((yj (bB ((br (x:=.str w) rfl).trans ?_))).trans rfl)).trans ?_
 ·show some (PV.bl !(p6.lookup w).isSome)=_
  rw[hk]
  rfl
 refine HA (a:=.str w) rfl rfl ((gi (ps:=[.int (few:Nat)]) ?_ rfl).trans (HB hs hlen hi h8 hf n1 d1)) hc
 refine av ((br (x:=.str w) rfl).trans ?_) rfl
 show(p6.lookup w).map PV.int=_
 rw[hk]
 rfl
theorem OB{y:Str}(h:x≠y){a b:Den}(ha:a ρ=⇑(.str x))(hb:b ρ=⇑(.str y)):tV (ag ip a b) ρ=⇑false:=by
 refine bB ((ai ha hb).trans ?_)
 show some (PV.bl (decide (x=y)))=_
 rw[Wp h]
theorem Ru{a b:Den}(ha:a ρ=⇑(.str x))(hb:b ρ=⇑(.str x)):tV (ag ip a b) ρ=⇑true:=by
 refine bB ((ai ha hb).trans ?_)
 show some (PV.bl (decide (x=x)))=_
 rw[SZ rfl]
theorem OC(l:List PV):bI [.str "all(",.lst l]=⇑(.ins 1 [.int (l.length:Nat),.tup l]):=by
 refine b8 rfl ?_
 exact dQ ((gg (Ru rfl rfl)).trans (b5 rfl))
theorem ya:("any(" :Str)≠ "all(" :=by decide+kernel
theorem OD(l:List PV):bI [.str "any(",.lst l]=⇑(.ins 2 [.int 1,.tup l]):=by
 refine b8 rfl ?_
 refine(ak ((ck (OB ya rfl rfl)).trans rfl)).trans ?_
 exact dQ ((gg (Ru rfl rfl)).trans (b5 rfl))
def EL(m:Nat):Str:=(toString (m:Int):Str)++(" of (" :Str)
theorem KU:((List.range 8).all λk=>ops.contains (EL (k+1))&&decide (p6.lookup (EL (k+1))=⇑((k+1:Nat):Int))&&!decide (EL (k+1)= "all(")&&!decide (EL (k+1)= "any("))=true:=by decide+kernel
variable{m:Nat}
theorem vV(h1:1<=m)(h8:m<=8):EL m∈ops/\p6.lookup (EL m)=⇑(m:Int)/\EL m≠ "all(" /\EL m≠ "any(" :=by
 have:=ZP.mp KU (m-1) (ZW.mpr ⋯)
 rw[show m-1+1=m by omega]at this
 simp only[ZS,U0,Re,decide_eq_false_iff_not,Y1]at this
 exact⟨this.1.1.1,this.1.1.2,this.1.2,this.2⟩
theorem KW(h1:1<=m)(h8:m<=8)(l:List PV):bI [.str (EL m),.lst l]=⇑(.ins 3 [.int (m:Nat),.tup l]):=by
 obtain⟨_,a2,a3,a4⟩:=vV h1 h8
 refine b8 rfl ?_
 refine(ak ((ck (OB a3 rfl rfl)).trans rfl)).trans ?_
 refine(ak ((ck (OB a4 rfl rfl)).trans rfl)).trans ?_
 refine b5 ((ai (x:=.int (m:Nat)) (y:=.lst l) ((br (x:=.str (EL m)) rfl).trans ?_) rfl).trans rfl)
 show(p6.lookup (EL m)).map PV.int=_
 rw[a2]
 rfl
theorem HD:("all(" :Str)∈ops/\p6.lookup ("all(" :Str)=⇑((1:Nat):Int):=by decide+kernel
theorem HE:("any(" :Str)∈ops/\p6.lookup ("any(" :Str)=⇑((1:Nat):Int):=by decide+kernel
theorem OE:((", " :Str)).cps.toList=[44,32]:=by decide+kernel
theorem ym:∀(rest:List It) (a:Array Nat),(((rest.map It.t).foldl (λacc (p:Str)=>acc++(", " :Str).cps++p.cps) a)).toList=a.toList++eJ rest
 |[],a=>by simp[eJ]
 |i::l,a=>by
  rw[ZV,Z2,ym l,YW,YW,OE]
  show _=a.toList++44::32::(i.t.cps.toList++eJ l)
  simp
theorem HF(i:It)(rest:List It):(Txt.join (", " :Str) ((i::rest).map It.t)).cps.toList=i.t.cps.toList++eJ rest:=by
 show(((rest.map It.t).foldl (λacc (p:Str)=>acc++(", " :Str).cps++p.cps) i.t.cps)).toList=_
 exact ym rest i.t.cps
theorem uw:∀rest:List It,(eJ rest).length=kz rest
 |[]=>rfl
 |j::l=>by
  show(44::32::(j.t.cps.toList++eJ l)).length=2+j.t.length+kz l
  have e1:j.t.cps.toList.length=j.t.length:=ZQ
  rw[ZJ,ZJ,ZT,uw l,e1]
  omega
theorem Cj(x y:Str):(x++y).cps.toList=x.cps.toList++y.cps.toList:=by
 show(x.cps++y.cps).toList=_
 exact YW ..
theorem Rv:((")" :Str)).cps.toList=[41]:=by decide+kernel
variable{its:List It}{s:PV}
theorem Ej(hN:∀x∈names,lD x)(hl:names.length<=1000){w:Str}(hw:w∈ops)(hk:p6.lookup w=⇑(few:Int)){r:PV}{d:Nat}(h0:its≠[])(hi:∀j∈its,oK names FT j)(h8:its.length<=8)(hf:few<=its.length)(hc:bI [.str w,.lst (its.map It.o)]=⇑r):
  oK names (pG false 2 1 (dZ (pG true 3 2 (dB FT)))) ⟨r,s,w++(Txt.join (", " :Str) (its.map It.t)++(")" :Str)),d⟩:=by
 intro sg n post hs hlen hn hd _
 cases its with
 |nil=>exact absurd rfl h0
 |cons i rest=>
  have e:(w++(Txt.join (", " :Str) ((i::rest).map It.t)++(")" :Str))).cps.toList=w.cps.toList++((i.t.cps.toList++eJ rest)++[41]):=by
   rw[Cj,Cj,HF,Rv]
  have OV:sg.cps.toList.drop n=w.cps.toList++(i.t.cps.toList++(eJ rest++41::post)):=by
   rw[hd]
   show(w++(Txt.join (", " :Str) ((i::rest).map It.t)++(")" :Str))).cps.toList++post=_
   rw[e]
   simp
  refine(HC hN hl hs hlen hw hk hi h8 hf hn OV hc).trans ?_
  have el:(w++(Txt.join (", " :Str) ((i::rest).map It.t)++(")" :Str))).length=w.length+i.t.length+kz rest+1:=by
   have h1:(w++(Txt.join (", " :Str) ((i::rest).map It.t)++(")" :Str))).cps.toList.length=(w++(Txt.join (", " :Str) ((i::rest).map It.t)++(")" :Str))).length:=ZQ
   rw[<-h1,e,ZT,ZT,ZT,uw]
   have e1:w.cps.toList.length=w.length:=ZQ
   have e2:i.t.cps.toList.length=i.t.length:=ZQ
   rw[e1,e2]
   show w.length+(i.t.length+kz rest+1)=_
   omega
  show some (((n+w.length+i.t.length+kz rest+1:Nat):Int),r)=⇑(((n+(w++(Txt.join (", " :Str) ((i::rest).map It.t)++(")" :Str))).length:Nat):Int),r)
  rw[el]
  have:n+w.length+i.t.length+kz rest+1=n+(w.length+i.t.length+kz rest+1):=by omega
  rw[this]
def HG(names:List Str)(i:It):Prop:=∀m,i.d<=m->oK names (cz (m+1)) i
section
variable(hN:∀x∈names,lD x)(hl:names.length<=1000)
include hN hl
theorem HH(hx:x∈names):HG names ⟨.ins 0 [.str x],s,x,0⟩:=λm _=>λ{_ n _} hs hlen hn hd hb=>Eh hN hl hx hs hlen hn hd hb _
theorem vW{w:Str}(hw:w∈ops)(hk:p6.lookup w=⇑(few:Int)){r:PV}(h0:its≠[])(h8:its.length<=8)(hf:few<=its.length)(hi:∀i∈its,HG names i/\i.d<=n)(hc:bI [.str w,.lst (its.map It.o)]=⇑r):
  HG names ⟨r,s,w++(Txt.join (", " :Str) (its.map It.t)++(")" :Str)),1+n⟩:=λm hm=>by
 have VA:1+n<=m:=hm
 obtain⟨k,rfl⟩:∃k,m=k+1:=⟨m-1,⋯⟩
 exact @λsg n0 post hs hlen hn hd hb=>Ej (s:=s) (d:=1+n) hN hl hw hk h0 (λj hj=>(hi j hj).1 k (by have:=(hi j hj).2;omega)) h8 hf hc (sg:=sg) (n:=n0) (post:=post) hs hlen hn hd hb
theorem KY(h0:its≠[])(h8:its.length<=8)(hi:∀i∈its,HG names i/\i.d<=n):HG names ⟨.ins 1 [.int (its.length:Nat),.tup (its.map It.o)],s,("all(" :Str)++(Txt.join (", " :Str) (its.map It.t)++(")" :Str)),1+n⟩:=
 vW hN hl HD.1 HD.2 h0 h8 (by cases its with|nil=>exact absurd rfl h0|cons _ _=>simp) hi ((OC _).trans (by rw[ZD]))
theorem KZ(h0:its≠[])(h8:its.length<=8)(hi:∀i∈its,HG names i/\i.d<=n):HG names ⟨.ins 2 [.int 1,.tup (its.map It.o)],s,("any(" :Str)++(Txt.join (", " :Str) (its.map It.t)++(")" :Str)),1+n⟩:=
 vW hN hl HE.1 HE.2 h0 h8 (by cases its with|nil=>exact absurd rfl h0|cons _ _=>simp) hi (OD _)
theorem HI(h0:its≠[])(h8:its.length<=8)(hi:∀i∈its,HG names i/\i.d<=n)(h1:1<=m)(hm:m<=its.length):HG names ⟨.ins 3 [.int (m:Nat),.tup (its.map It.o)],s,EL m++(Txt.join (", " :Str) (its.map It.t)++(")" :Str)),1+n⟩:=
 vW hN hl (vV h1 ⋯).1 (vV h1 ⋯).2.1 h0 h8 hm hi (KW h1 ⋯ _)
theorem K0{i:It}(hi:HG names i)(hd:i.d<=22)(hs:As i.t)(hlen:i.t.length<=100000):rJ [b0 names,.str i.t]=⇑i.o:=by
 have zl:(100000:Nat)<=sizeLine:=by decide
 have el:i.t.cps.toList.length=i.t.length:=ZQ
 have f1:ml [b0 names,.str i.t]=⇑⟨vU names,i.t⟩:=by
  have a1:ag bP (bC qu (dV 1)) (dC (.lst kF)) [.un,.sh (b0 names),.sh (.str i.t)]=⇑(.lst (vU names)):=by
   refine(ai (x:=.lst (names.map PV.str)) (y:=.lst kF) rfl rfl).trans ?_
   show(if(names.map PV.str).length+kF.length<=sizeLine then ⇑(PV.lst (names.map PV.str++kF))else none)=_
   rw[W1 (by rw[ZD];have:kF.length=10:=rfl;omega)]
   unfold vU
   rw[Zr]
   rfl
  unfold ml ui
  show((ag bP (bC qu (dV 1)) (dC (.lst kF)) [.un,.sh (b0 names),.sh (.str i.t)]).bind _)=_
  rw[a1]
  rfl
 have f2:=hi 23 ⋯ (sg:=i.t) (n:=0) (post:=[]) hs hlen (Zm _) (by rw[z0L,Zh]) (λc p e=>by cases e)
 have f3:f6 ⟨vU names,i.t⟩ ((0+i.t.length:Nat):Int) []=⇑(((0+i.t.length:Nat):Int),.non):=by
  refine Hm (ρ':=[.un]) rfl ((yj (bB ?_)).trans rfl)
  refine(ai (x:=.int ((0+i.t.length:Nat):Int)) (y:=.int (i.t.length:Nat)) (L9 _ _ _) ((br (L8 _ _ _)).trans (W1 (Zd hlen zl)))).trans ?_
  show some (PV.bl (decide (((0+i.t.length:Nat):Int)<(i.t.length:Int))))=_
  rw[Wp ⋯]
 refine b8 rfl ?_
 show(if 2<4/\3<4 then _ else none)=_
 rw[W1 ⟨∅,∅⟩]
 show((ml [b0 names,.str i.t]).bind _)=_
 rw[f1]
 show((cz 24 ⟨vU names,i.t⟩ ((0:Nat):Int) []).bind _)=_
 rw[f2]
 show((f6 ⟨vU names,i.t⟩ ((0+i.t.length:Nat):Int) []).map _)=_
 rw[f3]
 rfl
end
end L2.D.Rq
namespace L2.D
open PySem
theorem yo:∀L:List Nat,((L.sum:Nat):Int)=(L.map λ(n:Nat)=>(n:Int)).sum
 |[]=>rfl
 |x::L=>by
  rw[YZ,ZV,YZ,<-yo L]
  omega
theorem HJ{L:List Nat}(h:∀n∈L,n<1000000)(hl:L.length<=1000):F8 (aW L)=⇑(.int (L.sum:Nat)):=by
 have ok:tY (L.map λ(n:Nat)=>(n:Int))=true:=by
  unfold tY
  simp only[ZS,ZP,Re,ZD]
  refine⟨λx hx=>?_,hl⟩
  obtain⟨n,hn,rfl⟩:=Zi.mp hx
  have:=h n hn
  omega
 show(fN (pl L)).bind _=_
 rw[rC]
 show(if tY _ then _ else none)=_
 rw[W1 ok,yo]
end L2.D
namespace L2.D.My
open PySem
def mh:aT:=(bO (ag ip (ag qt (ag zp (dV 0) (dV 1)) (dC (.int 1))) (dC (.int 1))))
def dw:FP:=fn false 2 2 (mh)
def mi(dw:FP):aT:=(bO (bV (eA (bC Fy (dV 0))) (tV (aM dw (af (aP 1) (af (aP 0) aB)))) (aP 0)))
def dz:FP:=fn true 1 1 (mi dw)
def nI(dz:FP):aT:=(aU (bK 1 (aM dz (af (aP 0) aB))) (bO (eW (af (bC cB (dV 1)) (af (aP 1) aB)))))
def F_place:FP:=fn false 2 1 (nI dz)
def nJ:aT:=(bO (ag ip (ag qt (dV 0) (dV 1)) (dV 0)))
def iC:FP:=fn false 2 2 (nJ)
def vH(iC:FP):aT:=(bO (bC JG (bV (nList (dV 0)) cM (aM iC (af (aP 0) (af (aP 2) aB))))))
def bN:FP:=fn false 2 2 (vH iC)
def eU(F_place bN:FP):aT:=(gy (j2 (tV (u9 bN (af (dV 1) (af (dV 2) aB))))) (qw 1 eM (af (aP 2) aB)) bQ)
def pY(F_place bN:FP):aT:=(aU (mO 1 (jh aB)) (aU (om (nList (oT (nList (dV 0)))) (bj 2) (eU F_place bN)) (tR 1)))
def lg:FP:=fn true 3 1 (pY F_place bN)
def iS(F_place:FP):aT:=(bO (oT (eA (ag mM (dC (.int 1)) (dV 0)))))
def gj:FP:=fn true 1 1 (iS F_place)
def oA(bN:FP):aT:=(bO (bC cB (bV (nList (dV 0)) (tV (aM bN (af (aP 0) (af (aP 2) aB)))) (aP 0))))
def lh:FP:=fn false 2 2 (oA bN)
def OF(lg gj lh:FP):aT:=(bO (aM lg (af (bV (nList (aM gj (af (dC (.int 6)) aB))) (tV (ag Vc (aM lh (af (aP 2) (af (aP 0) aB))) (dV 1))) (aP 0)) aB)))
def jI:FP:=fn true 2 2 (OF lg gj lh)
def jJ:aT:=(aU (gy (tV (ag lY (dV 3) (dV 0))) fm bQ) (bK 2 (ag O6 (dV 2) (ag mM (dC (.int 1)) (ag zI (dV 0) (dV 3))))))
def Aj:aT:=(aU (bK 2 (dC (.int 0))) (aU (om (nList (aP 1)) (bj 3) jJ) (bO (aP 2))))
def cu:FP:=fn false 4 2 (Aj)
def cH(jI:FP)(gk:Nat->FP):aT:=(bO (aM jI (af (bC (cJ fK "wanted") (dV 0)) (af (bV (Nm (bC (cJ fK "parts") (dV 0))) cM (di gk (aP 0) (af (aP 2) aB))) aB))))
def kB(cu:FP):aT:=(bO (jh (af (aM cu (af (aP 1) (af (jh (af (bC (cJ fK "name") (dV 0)) aB)) aB))) aB)))
def eo:Nat->Nat->FP
 |0,_=>λ_=>none
 |n+1,0=>fn true 2 2 (kB cu)
 |n+1,1=>fn true 2 2 (cH jI (eo n))
 |n+1,2=>fn true 2 2 (cH jI (eo n))
 |n+1,3=>fn true 2 2 (cH jI (eo n))
 |_+1,_=>λ_=>none
def gk:Nat->FP:=eo 24
def yp:aT:=(gy (tV (ag EJ (dV 0) (dC (.int 0)))) fm bQ)
def cj:FP:=fn false 1 1 (yp)
def vX(cj:FP):aT:=(aU (lG (aM cj (af (aP 0) aB))) (gy (tV (ag EJ (dV 1) (dV 0))) fm bQ))
def gO:FP:=fn false 2 2 (vX cj)
def Ek:aT:=(aU (gy (II (tV (ag JF (dV 0) (dC (.tup [.str "all",.str "any",.str "of"])))) (j2 (tV (cQ (dC (.int 1)) (bC cB (dV 0)) (dC (.int 20)))))) (bO (dC (.bl false))) bQ) (bO (bC Qk (bV (J7 (dV 0)) cM (fW (dC (.str "a")) (dV 0) (dC (.str "z")))))))
def f9:FP:=fn false 1 1 (Ek)
def o9(f9:FP):aT:=(aU (gy (j2 (tV (aM f9 (af (aP 2) aB)))) fm bQ) (aU (gy (tV (ag JF (dV 2) (dV 1))) fm bQ) (qw 1 eM (af (aP 2) aB))))
def ux(f9:FP):aT:=(aU (gy (j2 (tV (cQ (dC (.int 1)) (bC cB (dV 0)) (dC (.int 6))))) fm bQ) (aU (mO 1 (jh aB)) (aU (om (nList (aP 0)) (bj 2) (o9 f9)) (bO (bC qz (dV 1))))))
def oM:FP:=fn false 3 1 (ux f9)
def rQ:aT:=(bO (bC F8 (bV (eA (bC cB (dV 0))) (tV (ag jY (ag qt (ag c9 (dV 1) (dV 0)) (dV 2)) (dC (.int 0)))) (ag mM (dC (.int 1)) (dV 0)))))
def d5:FP:=fn false 2 2 (rQ)
def p6:List (Str×Int):=[("all(",1),("any(",1),("1 of (",1),("2 of (",2),("3 of (",3),("4 of (",4),("5 of (",5),("6 of (",6),("7 of (",7),("8 of (",8)]
def kF:List PV:=[.str "all(",.str "any(",.str "1 of (",.str "2 of (",.str "3 of (",.str "4 of (",.str "5 of (",.str "6 of (",.str "7 of (",.str "8 of ("]
def iG:aT:=(aU (bK 2 (dC (.int 0))) (aU (om (Bw (aP 0) (aP 1)) (kc (bj 3) (bj 4)) (aU (gy (tV (ag jY (dV 3) (dV 4))) qv bQ) (bK 2 (ag BV (dV 2) (dC (.int 1)))))) (bO (aP 2))))
def cG:FP:=fn false 5 2 iG
def tf:Den:=bC (cJ fK "signs") (dV 0)
def kr:Den:=bC (cJ fK "at") (dV 0)
def yg:Den:=bC (cJ fK "words") (dV 0)
def vS:aT:=bO (ag ip (jE tf (cL kr) (cL (ag bP kr (dC (.int 1))))) (dV 1))
def iV:FP:=fn false 2 2 vS
def ku:du:=eO (qU 1 (jE tf (cL kr) iN)) (eO (qU 2 (bC xp (bV (nList yg) cM (aM cG (af (aP 2) (af (aP 0) aB)))))) (eO (zQ (aP 2)) (eO (zR (tV (ag lY (jE (dV 1) iN (cL (dV 2))) yg)) jF km) (xE (jE (dV 1) iN (cL (dV 2)))))))
def gh:FQ:=pG false 3 1 ku
def kx:du:=eO (zR (j2 (tV (di (oZ iV) (aP 0) (af (aP 1) aB)))) jF km) (zQ (dC (.int 1)))
def cT:FQ:=pG false 2 2 kx
def gF:aT:=(aU (gy (tV (ag ip (dV 0) (dC (.str "all(")))) (bO (bC Gg (dV 1))) bQ) (aU (gy (tV (ag ip (dV 0) (dC (.str "any(")))) (bO (bC Gh (dV 1))) bQ) (bO (ag zH (bC (xx p6) (dV 0)) (dV 1)))))
def bI:FP:=fn false 2 2 gF
def oF:dg:=II (tV (ag EJ (bC cB (dV 2)) (dV 1))) (j2 (tV (di (oZ iV) (aP 0) (af (dC (.str ")")) aB))))
def oG(FT:FQ):du:=eO (zR (tV (ag ip (bC cB (dV 2)) (dC (.int 8)))) jF km) (eO (nu (fP cT (af (dC (.str ",")) aB))) (eO (nu (fP cT (af (dC (.str " ")) aB))) (GS 2 (fP FT aB))))
def dB(FT:FQ):du:=eO (ra 2 (fP FT aB)) (eO (jb oF (oG FT) 10) (eO (nu (fP cT (af (dC (.str ")")) aB))) (xG 2)))
def dZ(FP:FQ):du:=eO (xH 1 (fP gh aB)) (eO (zR (tV (bC (vt p6) (dV 1))) (xF (bC Gf (dV 1))) km) (xT bI (aP 1) (fP FP (af (bC (xx p6) (dV 1)) aB))))
def cz:Nat->FQ
 |0=>λ_ _ _=>none
 |n+1=>pG false 2 1 (dZ (pG true 3 2 (dB (cz n))))
def mj:du:=zR (tV (ag EJ kr (bC cB tf))) jF km
def f6:FQ:=pG false 1 1 mj
def ml:List PV->Option Rg:=ui 3 3 (ag bP (bC qu (dV 1)) (dC (.lst kF))) (aP 2)
def Af:aT:=GW 2 3 ml (cz 24) f6 (af (aP 0) (af (aP 1) aB))
def rJ:FP:=fn false 4 2 Af
def Ak(dz:FP):aT:=(aU (gy (j2 (tV (ni (dC (.int 0)) (dV 1) (ag mM (dC (.int 1)) (bC cB (dV 0)))))) fm bQ) (bO (bV (nList (aM dz (af (aP 1) aB))) cM (ag c9 (dV 1) (dV 0)))))
def mm:FP:=fn true 2 2 (Ak dz)
def jc:aT:=(aU (gy (tV (ag EJ (dV 1) (bC cB (dV 0)))) (bO (ag c9 (dV 0) (dV 1))) bQ) (bO (dC (.int 0))))
def F_law_cell_at:FP:=fn false 2 2 (jc)
def Am:aT:=(aU (bK 4 (dC (.str "abcdefghijklmnopqrstuvwxyz"))) (aU (bK 5 (ag c9 (dV 4) (ag bT (ag bP (ag LU (dV 4) (ag c9 (dV 0) (dV 1))) (ag j8 (dC (.int 3)) (dV 3))) (dC (.int 26))))) (bO (ag bP (ag bP (jE (dV 0) iN (cL (dV 1))) (dV 5)) (jE (dV 0) (cL (ag bP (dV 1) (dC (.int 1)))) (cL (dV 2)))))))
def bY:FP:=fn false 6 4 (Am)
def jK:aT:=(aU (bK 2 (ag bT (ag bP (ag bP (ag bP (ag j8 (dV 2) (dV 2)) (ag j8 (dC (.int 48271)) (dV 2))) (dV 4)) (dC (.int 1))) (dC (.int 2147483647)))) (bK 3 (ag bP (dV 3) (ag c9 (dC (.str "abcdefghijklmnopqrstuvwxyz")) (ag bT (dV 2) (dC (.int 26)))))))
def An:aT:=(aU (bK 2 (ag bT (ag bP (ag j8 (ag bT (dV 0) (dC (.int 2147483647))) (dC (.int 16807))) (dC (.int 11))) (dC (.int 2147483647)))) (aU (bK 3 (dC (.str ""))) (aU (om (eA (dV 1)) (bj 4) jK) (bO (aP 3)))))
def F_law_base:FP:=fn false 5 2 (An)
def jd(F_law_cell_at bY F_law_base:FP):aT:=(aU (bK 10 (aM bY (af (aP 7) (af (ag bT (ag ja (dV 3) (dC (.int 80))) (dV 4)) (af (aP 4) (af (aP 9) aB)))))) (aU (gy (tV (ag ip (ag bT (ag ja (dV 3) (dC (.int 20))) (dC (.int 4))) (dC (.int 1)))) (bK 10 (jE (dV 7) iN (cL (ag bP (dV 9) (dC (.int 1)))))) bQ) (aU (gy (tV (ag JF (dV 10) (eW (af (dC (.str "all")) (af (dC (.str "any")) (af (dC (.str "of")) aB)))))) (bK 10 (bC NM (dV 10))) bQ) (qw 8 eM (af (aP 10) aB)))))
def pd(F_law_cell_at bY F_law_base:FP):aT:=(aU (bK 3 (aM F_law_cell_at (af (aP 0) (af (aP 1) aB)))) (aU (bK 4 (ag bP (dC (.int 1)) (ag bT (dV 3) (dC (.int 20))))) (aU (bK 5 (aM F_law_cell_at (af (aP 0) (af (ag bP (dV 1) (dC (.int 1))) aB)))) (aU (bK 6 (ag c9 (jh (af (dC (.str "")) (af (dC (.str "")) (af (dC (.str "all")) (af (dC (.str "")) (af (dC (.str "any")) (af (dC (.str "")) (af (dC (.str "of")) (af (dC (.str "al")) aB))))))))) (ag bT (dV 5) (dC (.int 8))))) (aU (bK 7 (jE (ag bP (dV 6) (aM F_law_base (af (ag ja (dV 5) (dC (.int 8))) (af (dC (.int 20)) aB)))) iN (cL (dC (.int 20))))) (aU (mO 8 (jh aB)) (aU (om (eA (dV 2)) (bj 9) (jd F_law_cell_at bY F_law_base)) (tR 8))))))))
def eV:FP:=fn true 11 3 (pd F_law_cell_at bY F_law_base)
def Ao(eV F_law_cell_at:FP):aT:=(bO (bC qz (aM eV (af (aP 0) (af (dC (.int 2)) (af (ag bP (dC (.int 1)) (ag bT (aM F_law_cell_at (af (aP 0) (af (dC (.int 0)) aB))) (dC (.int 6)))) aB))))))
def rR:FP:=fn false 1 1 (Ao eV F_law_cell_at)
def lN:aT:=(aU (bK 2 (ag bT (ag bP (ag bP (ag bP (ag j8 (dV 2) (dV 2)) (ag j8 (dC (.int 48271)) (dV 2))) (dV 4)) (dC (.int 1))) (dC (.int 2147483647)))) (qw 3 eM (af (aP 2) aB)))
def yq:aT:=(aU (bK 2 (ag bT (ag bP (ag j8 (ag bT (dV 0) (dC (.int 2147483647))) (dC (.int 16807))) (dC (.int 11))) (dC (.int 2147483647)))) (aU (mO 3 (jh aB)) (aU (om (eA (dV 1)) (bj 4) lN) (tR 3))))
def kC:FP:=fn true 5 2 (yq)
def yr:aT:=(bO (tQ (bC (O7 0) (dV 0)) (LI (bC (O7 1) (dV 0)))))
def kD:FP:=fn false 1 1 (yr)
def Ap:aT:=(bO (bV (eA (bC cB (dV 0))) (tV (bC mP (ag c9 (dV 1) (dV 0)))) (aP 0)))
def iH:FP:=fn true 1 1 (Ap)
def tj:aT:=(aU (bK 2 (ag c9 (dV 1) (ag bT (dV 0) (bC cB (dV 1))))) (aU (gy (tV (ag LF (ag bT (ag ja (dV 0) (dC (.int 11))) (dC (.int 3))) (dC (.int 0)))) (bO (eW (af (eW (af (dC (.str "hand")) (af (aP 2) aB))) (af (aP 2) aB)))) bQ) (aU (bK 3 (ag c9 (dV 1) (ag bT (ag ja (dV 0) (dC (.int 33))) (bC cB (dV 1))))) (aU (bK 4 (ag c9 (jh (af (dC (.str "all")) (af (dC (.str "any")) aB))) (ag bT (ag ja (dV 0) (dC (.int 200))) (dC (.int 2))))) (aU (bK 5 (eW (af (eW (af (dC (.str "hand")) (af (aP 2) aB))) (af (eW (af (dC (.str "hand")) (af (aP 3) aB))) aB)))) (bO (eW (af (eW (af (aP 4) (af (aP 5) aB))) (af (ag bP (ag bP (ag bP (ag bP (ag bP (dV 4) (dC (.str "("))) (dV 2)) (dC (.str ", "))) (dV 3)) (dC (.str ")"))) aB)))))))))
def cW:FP:=fn false 6 2 (tj)
def tm(cW:FP):aT:=(aU (bK 2 (bV (nList (LH (dV 0) (cL (dC (.int 1))) (cL (ag bP (dC (.int 2)) (ag bT (ag c9 (dV 0) (dC (.int 0))) (dC (.int 4))))))) cM (aM cW (af (aP 0) (af (aP 2) aB))))) (aU (bK 3 (bC qz (bV (nList (dV 2)) cM (ag c9 (dV 0) (dC (.int 0)))))) (aU (bK 4 (ag bP (ag xm (dC (.str ", ")) (bV (nList (dV 2)) cM (ag c9 (dV 0) (dC (.int 1))))) (dC (.str ")")))) (aU (gy (tV (ag ip (ag bT (ag ja (ag c9 (dV 0) (dC (.int 0))) (dC (.int 4))) (dC (.int 4))) (dC (.int 0)))) (bO (eW (af (eW (af (dC (.str "all")) (af (aP 3) aB))) (af (ag bP (dC (.str "all(")) (dV 4)) aB)))) bQ) (aU (gy (tV (ag ip (ag bT (ag ja (ag c9 (dV 0) (dC (.int 0))) (dC (.int 4))) (dC (.int 4))) (dC (.int 1)))) (bO (eW (af (eW (af (dC (.str "any")) (af (aP 3) aB))) (af (ag bP (dC (.str "any(")) (dV 4)) aB)))) bQ) (aU (gy (tV (ag ip (ag bT (ag ja (ag c9 (dV 0) (dC (.int 0))) (dC (.int 4))) (dC (.int 4))) (dC (.int 2)))) (aU (bK 5 (ag bP (dC (.int 1)) (ag bT (ag ja (ag c9 (dV 0) (dC (.int 0))) (dC (.int 16))) (bC cB (dV 2))))) (bO (eW (af (eW (af (dC (.str "some")) (af (aP 5) (af (aP 3) aB)))) (af (ag bP (ag bP (bC QH (dV 5)) (dC (.str " of ("))) (dV 4)) aB))))) bQ) (bO (ag c9 (dV 2) (dC (.int 0))))))))))
def eK:FP:=fn false 6 2 (tm cW)
def yt(iH eK:FP):aT:=(aU (bK 4 (bC cB (dV 1))) (aU (bK 5 (ag bP (dV 3) (ag bT (ag c9 (dV 2) (dC (.int 1))) (dC (.int 12))))) (aU (bK 6 (ag bP (ag bP (dV 5) (ag bT (ag c9 (dV 2) (dC (.int 2))) (dC (.int 6)))) (ag j8 (ag JE (dC (.int 10)) (dC (.int 40))) (bC BU (ag ip (ag bT (ag ja (ag c9 (dV 2) (dC (.int 2))) (dC (.int 6))) (dC (.int 8))) (dC (.int 1))))))) (aU (bK 7 (ag bT (ag c9 (dV 2) (dC (.int 3))) (dV 4))) (aU (bK 8 (aM iH (af (aP 0) aB))) (aU (gy (mD (tV (ag ip (ag bT (ag c9 (dV 2) (dC (.int 0))) (dC (.int 6))) (dC (.int 5)))) (tV (ag jY (dV 8) (jh aB)))) (bO (eW (af (dC (.str "strike")) (af (ag c9 (dV 8) (ag bT (ag c9 (dV 2) (dC (.int 5))) (bC cB (dV 8)))) aB)))) bQ) (aU (gy (mD (tV (ag LF (ag bT (ag c9 (dV 2) (dC (.int 0))) (dC (.int 6))) (dC (.int 2)))) (tV (ag LF (dV 4) (dC (.int 1))))) (bO (eW (af (dC (.str "deputy")) (af (aP 7) (af (ag bT (ag bP (ag bP (dV 7) (dC (.int 1))) (ag bT (ag c9 (dV 2) (dC (.int 4))) (ag wC (dV 4) (dC (.int 1))))) (dV 4)) (af (aP 5) (af (aP 6) aB))))))) bQ) (aU (gy (tV (ag LF (ag bT (ag c9 (dV 2) (dC (.int 0))) (dC (.int 6))) (dC (.int 0)))) (bO (eW (af (dC (.str "away")) (af (aP 7) (af (aP 5) (af (aP 6) aB)))))) bQ) (bO (eW (af (dC (.str "rule")) (af (ag bP (dV 3) (ag bT (ag c9 (dV 2) (dC (.int 1))) (dC (.int 9)))) (af (aM eK (af (LH (dV 2) (cL (dC (.int 6))) iN) (af (aP 1) aB))) aB)))))))))))))
def gp:FP:=fn false 9 4 (yt iH eK)
def ll:PV->Option PV:=λp=>(aM oM (af (aP 1) aB)) [.un,.sh p]
def cU:Bs->List PV->Option (Bs×PV):=BF 1 1 1 (cV QV (iR (vw (λs=>cq s) [0]) (ag wC (bC (cJ fK "entered") (dV 0)) (dC (.int 1)))))
def oN:Bs->List PV->Option (Bs×PV):=BF 5 3 1 (cV (me (vw (λs=>cq s) [0]) (aM cj (af (aP 1) aB))) (cV (BC (vw (λs=>cq s) [0]) 3 (di gk (aM rJ (af (bC (cJ fK "roll") (dV 0)) (af (aP 2) aB))) (af (bC (cJ fK "roll") (dV 0)) aB))) (cV (oY 4 (gJ (λs=>s) (λ_ t=>t) cU aB)) (cV (DV 0 (aP 4) (eW (af (aP 1) (af (aP 3) aB)))) (iR (vw (λs=>cq s) [0]) (aP 4))))))
def lq:Bs->List PV->Option (Bs×PV):=BF 6 4 1 (cV (uf (vw (λs=>cq s) [0]) 4 (aM cu (af (bC (cJ fK "roll") (dV 0)) (af (jh (af (aP 1) aB)) aB)))) (cV (me (vw (λs=>cq s) [0]) (aM gO (af (aP 2) (af (aP 3) aB)))) (cV (oY 5 (gJ (λs=>s) (λ_ t=>t) cU aB)) (cV (DV 1 (aP 5) (eW (af (aP 4) (af (aP 2) (af (aP 3) aB))))) (iR (vw (λs=>cq s) [0]) (aP 5))))))
def kE:Bs->List PV->Option (Bs×PV):=BF 8 5 1 (cV (uf (vw (λs=>cq s) [0]) 5 (aM cu (af (bC (cJ fK "roll") (dV 0)) (af (jh (af (aP 1) aB)) aB)))) (cV (uf (vw (λs=>cq s) [0]) 6 (aM cu (af (bC (cJ fK "roll") (dV 0)) (af (jh (af (aP 2) aB)) aB)))) (cV (wy (vw (λs=>cq s) [0]) (tV (ag ip (dV 5) (dV 6))) zS jT) (cV (me (vw (λs=>cq s) [0]) (aM gO (af (aP 3) (af (aP 4) aB)))) (cV (oY 7 (gJ (λs=>s) (λ_ t=>t) cU aB)) (cV (DV 2 (aP 7) (eW (af (aP 5) (af (aP 6) (af (aP 3) (af (aP 4) aB)))))) (iR (vw (λs=>cq s) [0]) (aP 7))))))))
def kG:Bs->List PV->Option (Bs×PV):=BF 2 2 1 (wy (vw (λs=>cq s) [0]) (tV (ag nj (dV 1) (bC (cJ fK "rulings") (dV 0)))) (zW 0 (aP 1)) (wy (vw (λs=>cq s) [0]) (tV (ag nj (dV 1) (bC (cJ fK "absences") (dV 0)))) (zW 1 (aP 1)) (wy (vw (λs=>cq s) [0]) (tV (ag nj (dV 1) (bC (cJ fK "deputings") (dV 0)))) (zW 2 (aP 1)) zS)))
def iW:aT:=(gy (tV (cQ (dV 4) (dV 1) (dV 5))) (bK 2 (ag O6 (dV 2) (dV 3))) bQ)
def gQ:FP:=fn false 6 2 (aU (bK 2 (dC (.int 0))) (aU (nG 3 (tZ [(bj 3),(bj 4),(bj 5)]) iW) (bO (aP 2))))
def fQ:aT:=(gy (mD (tV (ag ip (dV 5) (dV 2))) (tV (cQ (dV 6) (dV 1) (dV 7)))) (bK 3 (ag O6 (dV 3) (dV 4))) bQ)
def cC:FP:=fn false 8 3 (aU (bK 3 (dC (.int 0))) (aU (nG 4 (tZ [(bj 4),(bj 5),(bj 6),(bj 7)]) fQ) (bO (aP 3))))
def gq:aT:=(aU (bK 5 (ag mM (dC (.int 1)) (dV 4))) (gy (tV (aM dw (af (aP 2) (af (aP 4) aB)))) (qw 3 eM (af (aP 5) aB)) (qw 3 eM (af (ag qt (di (dY cC) (aP 0) (af (aP 1) (af (aP 5) aB))) (dV 2)) aB))))
def dJ:FP:=fn true 6 2 (aU (bK 2 (ag wC (ag wC (ag mM (dC (.int 1)) (bC cB (bC (cJ fK "roll") (dV 0)))) (dC (.int 1))) (di (dY gQ) (aP 0) (af (aP 1) aB)))) (aU (mO 3 (jh aB)) (aU (om (eA (bC cB (bC (cJ fK "roll") (dV 0)))) (bj 4) gq) (tR 3))))
def gK:aT:=(gy (tV (cQ (dV 3) (dV 4) (dV 1))) (aU (bK 2 (aP 5)) (bK 3 (aP 4))) bQ)
def d6:FP:=fn false 6 2 (aU (bK 2 (dC .non)) (aU (bK 3 (dC (.int 0))) (aU (nG 2 (kc (bj 4) (bj 5)) gK) (aU (gy (tV (bC pF (dV 2))) (ma (λ_=>true) 0) bQ) (G4 (aP 2))))))
def nM:FP:=fn false 5 3 (aU (lG (aM cj (af (aP 1) aB))) (aU (bK 3 (aM cu (af (bC (cJ fK "roll") (dV 0)) (af (aP 2) aB)))) (aU (rn 4 (di (dY d6) (aP 0) (af (aP 1) aB))) (LW (aM bN (af (aP 4) (af (aM d5 (af (di (dY dJ) (aP 0) (af (aP 1) aB)) (af (aP 3) aB))) aB)))))))
def jL:FP:=fn false 5 2 (aU (lG (aM cj (af (aP 1) aB))) (aU (rn 2 (di (dY d6) (aP 0) (af (aP 1) aB))) (aU (bK 3 (di (dY dJ) (aP 0) (af (aP 1) aB))) (aU (bK 4 (bV (nList (aM gj (af (bC cB (bC (cJ fK "roll") (dV 0))) aB))) (tV (aM bN (af (aP 3) (af (aM d5 (af (aP 4) (af (aP 0) aB))) aB)))) (aP 0))) (zL (bV (nList (aM lg (af (aP 4) aB))) cM (aM mm (af (bC (cJ fK "roll") (dV 1)) (af (aP 0) aB)))))))))
def gT:FP:=fn false 2 2 (gy (tV (ag nj (dV 1) (bC (cJ fK "rulings") (dV 0)))) fm (gy (tV (ag nj (dV 1) (bC (cJ fK "absences") (dV 0)))) fm (gy (tV (ag nj (dV 1) (bC (cJ fK "deputings") (dV 0)))) fm (ma (λ_=>true) 1))))
def hZ:FP:=fn false 4 3 (aU (bK 3 (dC (.str "refused"))) (aU (nH 3 3 0 (.str "refused") (di (dY nM) (aP 0) (af (aP 1) (af (aP 2) aB)))) (bO (aP 3))))
def d7:FP:=fn false 3 2 (aU (bK 2 (dC (.str "refused"))) (aU (nH 2 2 0 (.str "refused") (di (dY jL) (aP 0) (af (aP 1) aB))) (bO (aP 2))))
def iI:FP:=fn false 3 2 (aU (bK 2 (dC (.bl false))) (aU (G8 2 1 (.bl true) (di (dY gT) (aP 0) (af (aP 1) aB))) (bO (aP 2))))
def gc:Bs->List PV->Option (Bs×PV):=BF 3 3 1 (cV (wy (vw (λs=>cq s) [0]) (tV (ag ip (ag c9 (dV 2) (dC (.int 0))) (dC (.str "strike")))) (qX (gJ (λs=>s) (λ_ t=>t) kG (af (ag c9 (dV 2) (dC (.int 1))) aB))) jT) (cV (wy (vw (λs=>cq s) [0]) (tV (ag ip (ag c9 (dV 2) (dC (.int 0))) (dC (.str "deputy")))) (qX (gJ (λs=>s) (λ_ t=>t) kE (af (ag c9 (dV 1) (ag c9 (dV 2) (dC (.int 1)))) (af (ag c9 (dV 1) (ag c9 (dV 2) (dC (.int 2)))) (af (ag c9 (dV 2) (dC (.int 3))) (af (ag c9 (dV 2) (dC (.int 4))) aB)))))) jT) (cV (wy (vw (λs=>cq s) [0]) (tV (ag ip (ag c9 (dV 2) (dC (.int 0))) (dC (.str "away")))) (qX (gJ (λs=>s) (λ_ t=>t) lq (af (ag c9 (dV 1) (ag c9 (dV 2) (dC (.int 1)))) (af (ag c9 (dV 2) (dC (.int 2))) (af (ag c9 (dV 2) (dC (.int 3))) aB))))) jT) (qX (gJ (λs=>s) (λ_ t=>t) oN (af (ag c9 (dV 2) (dC (.int 1))) (af (ag c9 (ag c9 (dV 2) (dC (.int 2))) (dC (.int 1))) aB)))))))
def je:List PV×(Bs×Unit)->List PV->Option ((List PV×(Bs×Unit))×PV):=BF 7 5 2 (cV (BL (vw (λs=>[.lst s.1]++(cq s.2.1++[])) [1,0]) 5 (aM gp (af (aP 1) (af (aP 2) (af (aP 3) (af (aP 4) aB)))))) (cV (oY 6 (gJ (λs=>s.2.1) (λs t=>(s.1,(t,s.2.2))) gc (af (aP 2) (af (aP 5) aB)))) (cV (wy (vw (λs=>[.lst s.1]++(cq s.2.1++[])) [1,0]) (tV (ag ip (ag c9 (dV 5) (dC (.int 0))) (dC (.str "strike")))) (cV (BM (ag c9 (dV 5) (dC (.int 1))) (dC .non)) (iR (vw (λs=>[.lst s.1]++(cq s.2.1++[])) [1,0]) (bC pF (dV 6)))) jT) (cV (BN (aP 5)) (iR (vw (λs=>[.lst s.1]++(cq s.2.1++[])) [1,0]) (tQ (aM kD (af (aP 6) aB)) (ag ip (dV 6) (ag wC (bC cB (dV 1)) (dC (.int 1))))))))))
def Ck:b7 (Bs×(Bs×Unit)):=(cV (xK QU 9 (nList (aP 4)) (wy (vw (λs=>cq s.1++(cq s.2.1++[])) [8,3]) (tV (bC mP (dV 9))) (vy (gJ (λs=>s.1) (λs t=>(t,s.2)) gc (af (aP 1) (af (aP 9) aB)))) jT)) (cV (xK (vw (λs=>cq s.1++(cq s.2.1++[])) [8,3]) 10 (eA (dC (.int 18))) (cV (lK 11 (ag bT (aM F_law_cell_at (af (aP 0) (af (ag bP (dC (.int 34)) (dV 10)) aB))) (ag mM (dC (.int 1)) (bC cB (dV 1))))) (cV (lK 12 (bV (eA (bC cB (dV 1))) (tV (ag ip (ag qt (ag zp (dV 12) (dV 0)) (dC (.int 1))) (dC (.int 1)))) (ag c9 (dV 2) (dV 0)))) (wy (vw (λs=>cq s.1++(cq s.2.1++[])) [8,3]) (tV (ag jY (aM hZ (af (aP 3) (af (ag bP (dV 2) (dV 10)) (af (aP 12) aB)))) (aM hZ (af (aP 8) (af (ag bP (dV 2) (dV 10)) (af (aP 12) aB)))))) (iR (vw (λs=>cq s.1++(cq s.2.1++[])) [8,3]) (dC (.bl false))) jT)))) (cV (wy (vw (λs=>cq s.1++(cq s.2.1++[])) [8,3]) (tV (ag jY (aM d7 (af (aP 3) (af (aP 5) aB))) (aM d7 (af (aP 8) (af (aP 5) aB))))) (iR (vw (λs=>cq s.1++(cq s.2.1++[])) [8,3]) (dC (.bl false))) jT) (cV (xK (vw (λs=>cq s.1++(cq s.2.1++[])) [8,3]) 10 (eA (bC cB (dV 4))) (wy (vw (λs=>cq s.1++(cq s.2.1++[])) [8,3]) (mD (tV (bC pF (ag c9 (dV 4) (dV 10)))) (j2 (tV (aM iI (af (aP 3) (af (aP 10) aB)))))) (iR (vw (λs=>cq s.1++(cq s.2.1++[])) [8,3]) (dC (.bl false))) jT)) (cV (oY 13 (gJ (λs=>s.2.1) (λs t=>(s.1,(t,s.2.2))) lq (af (ag c9 (dV 1) (dC (.int 0))) (af (aP 2) (af (aP 2) aB))))) (iR (vw (λs=>cq s.1++(cq s.2.1++[])) [8,3]) (tQ (aM kD (af (aP 13) aB)) (ag ip (dV 13) (bC cB (dV 4))))))))))
def vY:b7 (List PV×(Bs×Unit)):=(xK QU 6 (nList (LH (dV 0) (cL (dC (.int 6))) (cL (dC (.int 34))))) (cV (lK 7 (aM kC (af (aP 6) (af (dC (.int 12)) aB)))) (cV (N3 (gJ (λs=>s) (λ_ t=>t) je (af (aP 1) (af (aP 7) (af (aP 2) aB)))) (iR (vw (λs=>[.lst s.1]++(cq s.2.1++[])) [4,3]) (dC (.bl false))) jT) (wy (vw (λs=>[.lst s.1]++(cq s.2.1++[])) [4,3]) (tV (ag ip (ag bT (ag c9 (dV 7) (dC (.int 11))) (dC (.int 5))) (dC (.int 0)))) (me (vw (λs=>[.lst s.1]++(cq s.2.1++[])) [4,3]) (aM d7 (af (aP 3) (af (aP 5) aB)))) jT))))
def HK:b7 Unit:=(cV (lK 1 (aM rR (af (aP 0) aB))) (cV (lK 2 (ag j8 (ag bT (aM F_law_cell_at (af (aP 0) (af (dC (.int 4)) aB))) (ag JE (dC (.int 10)) (dC (.int 59)))) (ag bT (aM F_law_cell_at (af (aP 0) (af (dC (.int 5)) aB))) (dC (.int 2))))) (xQ 3 ll (bC qu (dV 1)) (BJ 4 (cV (lK 5 (ag bP (dV 2) (ag bT (aM F_law_cell_at (af (aP 0) (af (dC (.int 52)) aB))) (dC (.int 18))))) (cV vY (BK 4 (xQ 8 ll (bC qu (dV 1)) Ck))))))))
def Cm:FP:=Si 14 1 HK
def IP(x:Str):Prop:=Lw x/\1<=x.length/\x.length<=20
variable{i:Nat}{body:aT}{ρ ρ':bU}
theorem jM{x:PV}{xs:List PV}(h:body (ρ.set i (.sh x))=⇑(.nx ρ')):forL (bj i) body (x::xs) ρ=forL (bj i) body xs ρ':=by
 rw[vI]
 show(body (ρ.set i (.sh x))).bind _=_
 rw[h]
 rfl
theorem El(x:Str)(n:Nat)(h:x.length<=n):(bX x none ⇑(n:Int) 1).length=x.length:=by
 have e:Builtin.Str.strSliceIndices none ⇑(n:Int) 1 x.length=(List.range x.length).map (0+·):=by
  have:=YG 0 x.length
  rw[z0A]at this
  rw[<-this]
  unfold Builtin.Str.strSliceIndices
  simp only
  congr 1
  rw[W1 ∅,UF ⋯]
  omega
 unfold bX
 rw[e]
 rw[W1 (by rw[ZD,Zk];simp)]
variable{m:Int}
theorem yu{k:Nat}(e2:dV 2 ρ=⇑(.int m))(e4:dV 4 ρ=⇑(.int k))(h0:0<=m)(h1:m<2147483647):∃m',0<=m'/\m'<2147483647/\ag bT (ag bP (ag bP (ag bP (ag j8 (dV 2) (dV 2)) (ag j8 (dC (.int 48271)) (dV 2))) (dV 4)) (dC (.int 1))) (dC (.int 2147483647)) ρ=⇑(.int m'):=
 ⟨_,Zz _ (show(2147483647:Int)≠0 by decide),YM _ (show(0:Int)<2147483647 by decide),(ai ((ai ((ai ((ai ((ai e2 e2).trans (k9 ⋯ ⋯)) ((ai (x:=.int 48271) rfl e2).trans (k9 ⋯ ⋯))).trans rfl) e4).trans rfl) (y:=.int 1) rfl).trans rfl) rfl).trans (fE _ ∅)⟩
theorem Co{c:Int}(e:dV 0 ρ=⇑(.int c)):∃m,0<=m/\m<2147483647/\ag bT (ag bP (ag j8 (ag bT (dV 0) (dC (.int 2147483647))) (dC (.int 16807))) (dC (.int 11))) (dC (.int 2147483647)) ρ=⇑(.int m):=by
 have b1:=Zz c (show(2147483647:Int)≠0 by decide)
 have b2:=YM c (show(0:Int)<2147483647 by decide)
 exact⟨_,Zz _ (show(2147483647:Int)≠0 by decide),YM _ (show(0:Int)<2147483647 by decide),(ai ((ai ((ai ((ai e rfl).trans (fE c ∅)) (y:=.int 16807) rfl).trans (k9 ⋯ ⋯)) (y:=.int 11) rfl).trans rfl) rfl).trans (fE _ ∅)⟩
variable{x:Str}
theorem Em(s0 s1:Slot)(h0:0<=m)(h1:m<2147483647)(hx:x.length<=100)(k:Nat):∃m' x',0<=m'/\m'<2147483647/\x'.length=x.length+1/\(Lw x->Lw x')/\jK [s0,s1,.sh (.int m),.sh (.str x),.sh (.int k)]=⇑(.nx [s0,s1,.sh (.int m'),.sh (.str x'),.sh (.int k)]):=by
 obtain⟨m',b1,b2,e1⟩:=yu (ρ:=[s0,s1,.sh (.int m),.sh (.str x),.sh (.int k)]) rfl rfl h0 h1
 have b3:=mod_lt m' (n:=26) ∅
 have ey:=uv b3
 refine⟨m',x++jH ((m' %((26:Nat):Int)).toNat),b1,b2,by rw[dA];rfl,λh=>vQ h (B6 b3),(ak (aH e1)).trans (aH ?_)⟩
 refine(ai (x:=.str x) (y:=.str (jH ((m' %((26:Nat):Int)).toNat))) rfl ?_).trans (dI _ _ (by show x.length+1<=_;omega))
 exact(ai (x:=.str lC) rfl ((ai (x:=.int m') (y:=.int ((26:Nat):Int)) rfl rfl).trans (jn _ ∅))).trans ey
theorem yv(s0 s1:Slot):∀(ks:List Nat) (m:Int) (x:Str) (s4:Slot),0<=m->m<2147483647->x.length+ks.length<=100->
  ∃m' x' t4,x'.length=x.length+ks.length/\(Lw x->Lw x')/\forL (bj 4) jK (pl ks) [s0,s1,.sh (.int m),.sh (.str x),s4]=⇑(.nx [s0,s1,.sh (.int m'),.sh (.str x'),t4])
 |[],m,x,s4,_,_,_=>⟨m,x,s4,rfl,id,rfl⟩
 |k::ks,m,x,s4,h0,h1,h2=>by
  rw[ZJ]at h2
  obtain⟨m1,x1,a1,a2,a3,a5,a4⟩:=Em s0 s1 h0 h1 (x:=x) ⋯ k
  obtain⟨m2,x2,t4,b1,b3,b2⟩:=yv s0 s1 ks m1 x1 (.sh (.int k)) a1 a2 ⋯
  refine⟨m2,x2,t4,by rw[b1,a3,ZJ];omega,λh=>b3 (a5 h),Eq.trans ?_ b2⟩
  exact jM (i:=4) (x:=.int k) (xs:=pl ks) (ρ:=[s0,s1,.sh (.int m),.sh (.str x),s4]) a4
theorem K1(c:Int):∃x:Str,x.length=20/\Lw x/\F_law_base [.int c,.int 20]=⇑(.str x):=by
 obtain⟨m,b3,b4,e1⟩:=Co (ρ:=[.sh (.int c),.sh (.int 20),.un,.un,.un]) rfl
 obtain⟨_,x',_,h1,h3,h2⟩:=yv (.sh (.int c)) (.sh (.int 20)) (List.range 20) m "" .un b3 b4 ∅
 refine⟨x',by rw[h1];decide,h3 (Hh (by decide+kernel)),b8 rfl ?_⟩
 refine(ak (aH e1)).trans ((ak (aH (p:=.str "") rfl)).trans ?_)
 exact(ak ((gN (jo (n:=20) rfl ∅)).trans h2)).trans rfl
variable{place size:Nat}
theorem K2{b:Str}(h1:place<b.length)(h2:b.length<=100):∃F:Int,∀k:Nat,k<=1000->bY [.str b,.int place,.int size,.int k]=⇑(.str ((bX b none (some (place:Int)) 1++jH ((F+3*(k:Int)) %((26:Nat):Int)).toNat)++bX b (some ((place+1:Nat):Int)) (some (size:Int)) 1)):=by
 obtain⟨c,_,ec⟩:=Oq (x:=b) (i:=place) h1 ⋯
 refine⟨Txt.find lC c,λk _=>?_⟩
 have b3:=mod_lt (Txt.find lC c+3*(k:Int)) (n:=26) ∅
 have ey:=uv b3
 have c1:=vP b none ⇑(place:Int) (st:=1) ∅
 have c2:=vP b ⇑((place+1:Nat):Int) ⇑(size:Int) (st:=1) ∅
 refine b8 rfl ?_
 refine(ak (aH (p:=.str lC) rfl)).trans ((ak (aH (p:=.str (jH ((Txt.find lC c+3*(k:Int)) %((26:Nat):Int)).toNat)) ?_)).trans (b5 ?_))
 ·refine(ai (x:=.str lC) rfl ((ai (x:=.int (Txt.find lC c+3*(k:Int))) (y:=.int ((26:Nat):Int)) ?_ rfl).trans (jn _ ∅))).trans ey
  refine(ai (x:=.int (Txt.find lC c)) (y:=.int (3*(k:Int))) ?_ ((ai (x:=.int 3) (y:=.int k) rfl rfl).trans (k9 ∅ ∅))).trans rfl
  exact(ai (x:=.str lC) rfl ((ai (x:=.str b) (y:=.int place) rfl rfl).trans ec)).trans rfl
 ·have hj:∀j,(jH j).length=1:=λ_=>rfl
  have hj:=hj ((Txt.find lC c+3*(k:Int)) %((26:Nat):Int)).toNat
  refine(ai ((ai (y:=.str (jH ((Txt.find lC c+3*(k:Int)) %((26:Nat):Int)).toNat)) (iF (y:=b) rfl rfl rfl ⋯) rfl).trans (dI _ _ ⋯)) (iF (y:=b) (l:=⇑((place+1:Nat):Int)) rfl rfl rfl ⋯)).trans (dI _ _ (by rw[dA];omega))
def rS:List PV:=[.str "",.str "",.str "all",.str "",.str "any",.str "",.str "of",.str "al"]
theorem Eo:((List.range 8).all λi=>match itemAt rS (i:Int)with|some (.str w)=>decide (w.length<=3)&&Ut w|_=>false)=true:=by decide+kernel
theorem HL(h:i<8):∃w:Str,w.length<=3/\Lw w/\c9 (.lst rS) (.int i)=⇑(.str w):=by
 have:=ZP.mp Eo i (ZW.mpr h)
 show∃w:Str,w.length<=3/\Lw w/\itemAt rS (i:Int)=⇑(.str w)
 split at this
 ·rename_i w e
  rw[ZS]at this
  exact⟨w,PP this.1,Hh this.2,e⟩
 ·cases this
def y2(cell:Int)(b:Str)(place size:Nat)(F:Int)(k:Nat):Str:=if decide (cell/20 % 4=1)=true then bX b none ⇑((k+1:Nat):Int) 1 else(bX b none ⇑(place:Int) 1++jH ((F+3*(k:Int)) %((26:Nat):Int)).toNat)++bX b ⇑((place+1:Nat):Int) ⇑(size:Int) 1
theorem K3{a b:Nat}(h:a<=b)(hb:b<=x.length):(bX x ⇑(a:Int) ⇑(b:Int) 1).length=b-a:=by
 have e:=Rq.rL h hb (Rq.Hs a b x.length h hb)
 have:=congrArg List.length e
 rw[Z4,Z5,ZQ,ZQ]at this
 show(bX x ⇑(a:Int) ⇑(b:Int) 1).cps.size=_
 have:x.cps.size=x.length:=rfl
 omega
theorem HM:(Pj.all λx=>!decide (bX x none none (-1)∈Pj))=true:=by decide+kernel
theorem HN(y:Str):j0 (.str (fin y)) kept=false:=by
 unfold fin
 by_cases h:j0 (.str y) kept=true
 ·rw[W1 h,nK]
  rw[nK]at h
  have:=ZP.mp HM y (PP h)
  simpa using this
 ·rw[UF h]
  simpa using h
variable{F:Int}
theorem Mb{cell:Int}{b:Str}(hb:b.length=20)(ab:Lw b)(hp:place<size)(hs:size<=20)(k:Nat):IP (y2 cell b place size F k):=by
 have c1:=rF b place ⋯
 have c2:=K3 (x:=b) (a:=place+1) (b:=size) ⋯ ⋯
 have c3:=vP b none ⇑((k+1:Nat):Int) (st:=1) ∅
 unfold y2
 split
 ·refine⟨vR ab _ _ _,?_,⋯⟩
  by_cases XS:k+1<=b.length
  ·rw[rF b (k+1) XS];omega
  ·rw[El b (k+1) ⋯];omega
 ·have hj:(jH ((F+3*(k:Int)) %((26:Nat):Int)).toNat).length=1:=rfl
  exact⟨vQ (vQ (vR ab _ _ _) (B6 (mod_lt _ ∅))) (vR ab _ _ _),by rw[dA,dA,hj];omega,by rw[dA,dA,hj];omega⟩
theorem Rw{cell:Int}{b:Str}(hb:b.length=20){j k:Nat}(hj:j<6)(hk:k<6)(h:j≠k):fin (y2 cell b place size F j)≠fin (y2 cell b place size F k):=by
 unfold y2
 cases decide (cell/20 % 4=1)with
 |true=>
  rw[W1 rfl,W1 rfl]
  intro e
  have:=congrArg Str.length e
  rw[p5,p5,rF b (j+1) ⋯,rF b (k+1) ⋯]at this
  omega
 |false=>
  rw[UF Bool.noConfusion,UF Bool.noConfusion]
  exact Ow (KN _ _ ⋯)
section
variable{F_law_cell_at bY F_law_base:FP}(hC:∀(ns:List Int) (k:Nat),F_law_cell_at [o7 ns,.int k]=⇑(.int (ns.getD k 0)))
 (hB:∀c:Int,∃x:Str,x.length=20/\Lw x/\F_law_base [.int c,.int 20]=⇑(.str x))
theorem Aq(s0 s1 s2 s5 s6:Slot)(cell:Int){s:Nat}(Rx:0<s)(hs:s<=20){b:Str}(hb:b.length=20)(ab:Lw b)(acc:List Str)(DK:acc.length<=1000)(k:Nat)(Mc:Slot)
  (e1:bY [.str b,.int ((cell/80 %(s:Int)).toNat:Nat),.int s,.int k]=⇑(.str ((bX b none (some ((cell/80 %(s:Int)).toNat:Int)) 1++jH ((F+3*(k:Int)) %((26:Nat):Int)).toNat)++bX b (some (((cell/80 %(s:Int)).toNat+1:Nat):Int)) (some (s:Int)) 1))):
  jd F_law_cell_at bY F_law_base [s0,s1,s2,.sh (.int cell),.sh (.int s),s5,s6,.sh (.str b),.ow (acc.map PV.str),.sh (.int k),Mc]=⇑(.nx [s0,s1,s2,.sh (.int cell),.sh (.int s),s5,s6,.sh (.str b),.ow ((acc++[fin (y2 cell b (cell/80 %(s:Int)).toNat s F k)]).map PV.str),.sh (.int k),.sh (.str (fin (y2 cell b (cell/80 %(s:Int)).toNat s F k)))]):=by
 have zl:(5000:Nat)<=sizeLine:=by decide
 obtain⟨_,_,l2⟩:=Mb (cell:=cell) (place:=(cell/80 %(s:Int)).toNat) (size:=s) (F:=F) hb ab (mod_lt _ Rx) hs k
 have Lv:(gy (tV (ag ip (ag bT (ag ja (dV 3) (dC (.int 20))) (dC (.int 4))) (dC (.int 1)))) (bK 10 (jE (dV 7) iN (cL (ag bP (dV 9) (dC (.int 1)))))) bQ) [s0,s1,s2,.sh (.int cell),.sh (.int s),s5,s6,.sh (.str b),.ow (acc.map PV.str),.sh (.int k),.sh (.str ((bX b none ⇑((cell/80 %(s:Int)).toNat:Int) 1++jH ((F+3*(k:Int)) %((26:Nat):Int)).toNat)++bX b ⇑(((cell/80 %(s:Int)).toNat+1:Nat):Int) ⇑(s:Int) 1))]=⇑(.nx [s0,s1,s2,.sh (.int cell),.sh (.int s),s5,s6,.sh (.str b),.ow (acc.map PV.str),.sh (.int k),.sh (.str (y2 cell b (cell/80 %(s:Int)).toNat s F k))]):=by
  unfold y2
  generalize((bX b none ⇑((cell/80 %(s:Int)).toNat:Int) 1++jH ((F+3*(k:Int)) %((26:Nat):Int)).toNat)++bX b ⇑(((cell/80 %(s:Int)).toNat+1:Nat):Int) ⇑(s:Int) 1)=y1
  have t:tV (ag ip (ag bT (ag ja (dV 3) (dC (.int 20))) (dC (.int 4))) (dC (.int 1))) [s0,s1,s2,.sh (.int cell),.sh (.int s),s5,s6,.sh (.str b),.ow (acc.map PV.str),.sh (.int k),.sh (.str y1)]=⇑(decide (cell/20 % 4=1)):=bB rfl
  cases hd:decide (cell/20 % 4=1)
  ·rw[hd]at t
   exact(ck t).trans rfl
  ·rw[hd]at t
   refine(gg t).trans (aH ?_)
   exact iF (y:=b) (h:=⇑((k+1:Nat):Int)) rfl rfl rfl ⋯
 generalize y2 cell b (cell/80 %(s:Int)).toNat s F k=y at Lv l2
 have RN:(gy (tV (ag JF (dV 10) (eW (af (dC (.str "all")) (af (dC (.str "any")) (af (dC (.str "of")) aB)))))) (bK 10 (bC NM (dV 10))) bQ) [s0,s1,s2,.sh (.int cell),.sh (.int s),s5,s6,.sh (.str b),.ow (acc.map PV.str),.sh (.int k),.sh (.str y)]=⇑(.nx [s0,s1,s2,.sh (.int cell),.sh (.int s),s5,s6,.sh (.str b),.ow (acc.map PV.str),.sh (.int k),.sh (.str (fin y))]):=by
  have tt:eW (af (dC (.str "all")) (af (dC (.str "any")) (af (dC (.str "of")) aB))) [s0,s1,s2,.sh (.int cell),.sh (.int s),s5,s6,.sh (.str b),.ow (acc.map PV.str),.sh (.int k),.sh (.str y)]=⇑(.tup kept):=by
   show(if(3:Nat)<=sizeLine then ⇑(PV.tup kept)else none)=_
   rw[W1 ⋯]
  have t:tV (ag JF (dV 10) (eW (af (dC (.str "all")) (af (dC (.str "any")) (af (dC (.str "of")) aB))))) [s0,s1,s2,.sh (.int cell),.sh (.int s),s5,s6,.sh (.str b),.ow (acc.map PV.str),.sh (.int k),.sh (.str y)]=⇑(j0 (.str y) kept):=bB ((ai (x:=.str y) rfl tt).trans rfl)
  unfold fin
  cases hd:j0 (.str y) kept
  ·rw[hd]at t
   exact(ck t).trans rfl
  ·rw[hd]at t
   refine(gg t).trans (aH ?_)
   show(if y.length<=sizeLine then ⇑(PV.str (bX y none none (-1)))else none)=_
   rw[W1 ⋯]
   rfl
 refine(ak (aH ((aG (av (x:=.str b) rfl (av ((ai (x:=.int (cell/80)) (y:=.int s) rfl rfl).trans (jn _ Rx)) (av (x:=.int s) rfl (av (x:=.int k) rfl rfl))))).trans e1))).trans ?_
 refine(ak Lv).trans ((ak RN).trans ?_)
 show((if(acc.map PV.str).length<sizeLine then ⇑(acc.map PV.str++[PV.str (fin y)])else none).map λl'=>Fl.nx [s0,s1,s2,.sh (.int cell),.sh (.int s),s5,s6,.sh (.str b),.ow l',.sh (.int k),.sh (.str (fin y))])=_
 rw[W1 (by rw[ZD];omega),Zr]
 rfl
theorem uy(s0 s1 s2 s5 s6:Slot)(cell:Int){s:Nat}(Rx:0<s)(hs:s<=20){b:Str}(hb:b.length=20)(ab:Lw b)
  (e1:∀k:Nat,k<=1000->bY [.str b,.int ((cell/80 %(s:Int)).toNat:Nat),.int s,.int k]=⇑(.str ((bX b none (some ((cell/80 %(s:Int)).toNat:Int)) 1++jH ((F+3*(k:Int)) %((26:Nat):Int)).toNat)++bX b (some (((cell/80 %(s:Int)).toNat+1:Nat):Int)) (some (s:Int)) 1))):
  ∀(ks:List Nat) (acc:List Str) (s9 Mc:Slot),(∀k∈ks,k<=1000)->acc.length+ks.length<=1000->
  ∃(t9 UA:Slot),forL (bj 9) (jd F_law_cell_at bY F_law_base) (pl ks) [s0,s1,s2,.sh (.int cell),.sh (.int s),s5,s6,.sh (.str b),.ow (acc.map PV.str),s9,Mc]=⇑(.nx [s0,s1,s2,.sh (.int cell),.sh (.int s),s5,s6,.sh (.str b),.ow ((acc++ks.map λk=>fin (y2 cell b (cell/80 %(s:Int)).toNat s F k)).map PV.str),t9,UA])
 |[],acc,s9,Mc,_,_=>⟨s9,Mc,by rw[Yt,Zh];rfl⟩
 |k::ks,acc,s9,Mc,h1,h2=>by
  rw[ZJ]at h2
  have e:=Aq (F_law_cell_at:=F_law_cell_at) (F_law_base:=F_law_base) s0 s1 s2 s5 s6 cell Rx hs hb ab acc ⋯ k Mc (e1 k (h1 k (ZM ..)))
  obtain⟨t9,UA,q3⟩:=uy s0 s1 s2 s5 s6 cell Rx hs hb ab e1 ks (acc++[fin (y2 cell b (cell/80 %(s:Int)).toNat s F k)]) (.sh (.int k)) (.sh (.str (fin (y2 cell b (cell/80 %(s:Int)).toNat s F k)))) (λx hx=>h1 x (ZI _ hx)) (by rw[ZT,Zq];omega)
  rw[Z7,Y2]at q3
  refine⟨t9,UA,Eq.trans ?_ q3⟩
  exact jM (i:=9) (x:=.int k) (xs:=pl ks) (ρ:=[s0,s1,s2,.sh (.int cell),.sh (.int s),s5,s6,.sh (.str b),.ow (acc.map PV.str),s9,Mc]) e
include hC hB in
theorem Ep(hN:∀{b:Str} {place size:Nat},place<b.length->b.length<=100->∃F:Int,∀k:Nat,k<=1000->bY [.str b,.int place,.int size,.int k]=⇑(.str ((bX b none (some (place:Int)) 1++jH ((F+3*(k:Int)) %((26:Nat):Int)).toNat)++bX b (some ((place+1:Nat):Int)) (some (size:Int)) 1)))
  (ns:List Int)(a many:Nat)(hm:many<=6):∃f:Nat->Str,(∀k,IP (f k)/\j0 (.str (f k)) kept=false)/\(∀j k,j<6->k<6->j≠k->f j≠f k)/\fn true 11 3 (pd F_law_cell_at bY F_law_base) [o7 ns,.int a,.int many]=⇑(.lst (((List.range many).map f).map PV.str)):=by
 have zl:(5000:Nat)<=sizeLine:=by decide
 have hs:=mod_lt (ns.getD a 0) (n:=20) ∅
 have hw:=mod_lt (ns.getD (a+1) 0) (n:=8) ∅
 obtain⟨w,_,aw,ew⟩:=HL hw
 obtain⟨x,_,ax,ex⟩:=hB (ns.getD (a+1) 0/8)
 have lb:(bX (w++x) none ⇑((20:Nat):Int) 1).length=20:=rF (w++x) 20 (by rw[dA];omega)
 have ab:Lw (bX (w++x) none ⇑((20:Nat):Int) 1):=vR (vQ aw ax) _ _ _
 generalize eb:bX (w++x) none ⇑((20:Nat):Int) 1=b at lb ab
 have hp:=mod_lt (ns.getD a 0/80) (n:=1+(ns.getD a 0 %((20:Nat):Int)).toNat) ⋯
 obtain⟨F,hF⟩:=hN (b:=b) (place:=(ns.getD a 0/80 %((1+(ns.getD a 0 %((20:Nat):Int)).toNat:Nat):Int)).toNat) (size:=1+(ns.getD a 0 %((20:Nat):Int)).toNat) ⋯ ⋯
 obtain⟨_,_,q3⟩:=uy (F_law_cell_at:=F_law_cell_at) (F_law_base:=F_law_base) (.sh (o7 ns)) (.sh (.int a)) (.sh (.int many)) (.sh (.int (ns.getD (a+1) 0))) (.sh (.str w)) (ns.getD a 0) (s:=1+(ns.getD a 0 %((20:Nat):Int)).toNat) ⋯ ⋯ lb ab hF (List.range many) [] .un .un (λk hk=>by have:=ZW.mp hk;omega) (by rw[Zk];simp;omega)
 rw[z0a]at q3
 refine⟨λk=>fin (y2 (ns.getD a 0) b (ns.getD a 0/80 %((1+(ns.getD a 0 %((20:Nat):Int)).toNat:Nat):Int)).toNat (1+(ns.getD a 0 %((20:Nat):Int)).toNat) F k),λk=>?_,λj k hj hk h=>Rw lb hj hk h,b8 rfl ?_⟩
 ·obtain⟨o1,o2,o3⟩:=Mb (cell:=ns.getD a 0) (place:=(ns.getD a 0/80 %((1+(ns.getD a 0 %((20:Nat):Int)).toNat:Nat):Int)).toNat) (size:=1+(ns.getD a 0 %((20:Nat):Int)).toNat) (F:=F) lb ab ⋯ ⋯ k
  exact⟨⟨Ov o1,by rw[p5];exact o2,by rw[p5];exact o3⟩,HN _⟩
 refine(ak (aH ((aG (ps:=[o7 ns,.int a]) rfl).trans (hC ns a)))).trans ?_
 refine(ak (aH (p:=.int ((1+(ns.getD a 0 %((20:Nat):Int)).toNat:Nat):Int)) ((ai (x:=.int ((1:Nat):Int)) rfl ((ai (x:=.int (ns.getD a 0)) (y:=.int ((20:Nat):Int)) rfl rfl).trans (jn _ ∅))).trans rfl))).trans ?_
 refine(ak (aH ((aG (ps:=[o7 ns,.int ((a+1:Nat):Int)]) rfl).trans (hC ns (a+1))))).trans ?_
 generalize ns.getD (a+1) 0=more at*
 generalize ns.getD a 0=cell at*
 have XT:ag c9 (jh (af (dC (.str "")) (af (dC (.str "")) (af (dC (.str "all")) (af (dC (.str "")) (af (dC (.str "any")) (af (dC (.str "")) (af (dC (.str "of")) (af (dC (.str "al")) aB))))))))) (ag bT (dV 5) (dC (.int 8))) [.sh (o7 ns),.sh (.int a),.sh (.int many),.sh (.int cell),.sh (.int ((1+(cell %((20:Nat):Int)).toNat:Nat):Int)),.sh (.int more),.un,.un,.un,.un,.un]=⇑(.str w):=by
  refine(ai (x:=.lst rS) ?_ ((ai (x:=.int more) (y:=.int ((8:Nat):Int)) rfl rfl).trans (jn _ ∅))).trans ew
  show(if(8:Nat)<=sizeLine then ⇑(PV.lst rS)else none)=_
  rw[W1 ⋯]
 refine(ak (aH XT)).trans ?_
 refine(ak (aH (p:=.str b) ?_)).trans ?_
 ·rw[<-eb]
  refine iF (h:=⇑((20:Nat):Int)) ((ai (x:=.str w) (y:=.str x) rfl ?_).trans (dI _ _ ⋯)) rfl rfl (by rw[dA];omega)
  exact(aG (ps:=[.int (more/8),.int 20]) rfl).trans ex
 refine(ak (ko (l:=[]) rfl)).trans ?_
 exact(ak ((gN (jo (n:=many) rfl ⋯)).trans q3)).trans rfl
end
theorem HP(ns:List Int)(a many:Nat)(hm:many<=6):∃f:Nat->Str,(∀k,IP (f k)/\j0 (.str (f k)) kept=false)/\(∀j k,j<6->k<6->j≠k->f j≠f k)/\eV [o7 ns,.int a,.int many]=⇑(.lst (((List.range many).map f).map PV.str)):=Ep vM K1 K2 ns a many hm
abbrev vZ:Str:= ", "
abbrev Cp:Str:= ")"
def Jn(its:List It):Str:=Txt.join vZ (its.map It.t)
theorem HQ(its:List It):((its.map It.t).map λt=>t.length+vZ.length).sum=wt its:=by
 unfold wt
 rw[Zp]
 rfl
theorem Ry(its:List It):(Jn its).length<=wt its:=by
 have:=join_le vZ (its.map It.t)
 rw[HQ]at this
 exact this
structure XU(names:List Str)(Ok:It->Prop):Prop where
 hand:∀x∈names,Ok ⟨.ins 0 [.str x],.tup [.str "hand",.str x],x,0⟩
 all:∀(its:List It) (n:Nat),its≠[]->its.length<=8->wt its<=50000->(∀i∈its,Ok i/\i.d<=n)->Ok ⟨.ins 1 [.int (its.length:Nat),.tup (its.map It.o)],.tup [.str "all",.tup (its.map It.s)],("all(" :Str)++(Jn its++Cp),1+n⟩
 any:∀(its:List It) (n:Nat),its≠[]->its.length<=8->wt its<=50000->(∀i∈its,Ok i/\i.d<=n)->Ok ⟨.ins 2 [.int 1,.tup (its.map It.o)],.tup [.str "any",.tup (its.map It.s)],("any(" :Str)++(Jn its++Cp),1+n⟩
 some:∀(its:List It) (n m:Nat),its≠[]->its.length<=8->wt its<=50000->(∀i∈its,Ok i/\i.d<=n)->1<=m->m<=its.length->Ok ⟨.ins 3 [.int (m:Nat),.tup (its.map It.o)],.tup [.str "some",.int (m:Nat),.tup (its.map It.s)],((toString (m:Int):Str)++(" of (" :Str))++(Jn its++Cp),1+n⟩
theorem K4:((List.range 9).all λm=>decide ((toString (m:Int):Str).length<=1))=true:=by decide+kernel
theorem OG{m:Nat}(h:m<=8):(toString (m:Int):Str).length<=1:=PP (ZP.mp K4 m (ZW.mpr ⋯))
theorem place_key:iO F_place:=Aa
theorem nN:∀{l:List Str},x∈l->dO x l<l.length
 |[],h=>nomatch h
 |y::l,h=>by
  unfold dO
  by_cases e:y=x
  ·rw[W1 e];simp
  ·rw[UF e,ZJ]
   have:x∈l:=(Zc.mp h).resolve_left λz=>e z.symm
   have:=nN this
   omega
variable{names:List Str}
theorem yw(h:x∈names):zI (b0 names) (.str x)=⇑(.int (dO x names:Nat)):=by
 show(oV (names.map PV.str)).bind (λts=>if decide (x∈ts)then ⇑(PV.int (dO x ts:Nat))else none)=_
 rw[oH]
 show(if decide (x∈names)then ⇑(PV.int (dO x names:Nat))else none)=_
 rw[W1 (SZ h)]
theorem yx(h:x∈names):lY (.str x) (b0 names)=⇑(.bl false):=by
 have a:(names.map PV.str).all flat=true:=ZP.mpr λp hp=>by
  obtain⟨y,_,rfl⟩:=Zi.mp hp
  rfl
 have b:j0 (.str x) (names.map PV.str)=true:=Y0.mpr ⟨.str x,Zi.mpr ⟨x,h,rfl⟩,by
  show(x==x)=true
  simp⟩
 show(if flat (.str x)&&(names.map PV.str).all flat then ⇑(PV.bl (!j0 (.str x) (names.map PV.str)))else none)=_
 rw[a,b]
 rfl
theorem k7{k:Nat}(hk:k<7):mM (.int 1) (.int (k:Nat))=⇑(.int (1*2^k)):=by
 have p:j9 1 (k:Nat)=true:=by
  unfold j9
  rw[SZ ⋯,SZ ⋯,SZ ∅]
  rfl
 show(if j9 1 (k:Nat)then ⇑(PV.int (1*2^((k:Nat):Int).toNat))else none)=_
 rw[W1 p,Zu]
theorem yy(h:x∈names)(hl:names.length<=6):cu [b0 names,.lst [.str x]]=⇑(.int (Builtin.bitOr 0 (1*2^dO x names))):=by
 have hk:=nN h
 refine b8 rfl ?_
 refine(ak (aH (p:=.int 0) rfl)).trans ?_
 have b:jJ [.sh (b0 names),.sh (.lst [.str x]),.sh (.int 0),.sh (.str x)]=⇑(.nx [.sh (b0 names),.sh (.lst [.str x]),.sh (.int (Builtin.bitOr 0 (1*2^dO x names))),.sh (.str x)]):=by
  refine(ak ((ck (bB ((ai (x:=.str x) (y:=b0 names) rfl rfl).trans (yx h)))).trans rfl)).trans ?_
  exact aH ((ai (x:=.int 0) rfl ((ai (x:=.int 1) rfl ((ai (x:=b0 names) (y:=.str x) rfl rfl).trans (yw h))).trans (k7 ⋯))).trans rfl)
 refine(ak ((gN (xs:=[.str x]) (cS rfl)).trans ((jM (i:=3) (x:=.str x) (xs:=[]) b).trans rfl))).trans ?_
 exact b5 rfl
theorem oB(a b:Int):iC [.int a,.int b]=⇑(.bl (decide (Builtin.bitAnd a b=a))):=fZ rfl rfl
theorem OH:(("parts" :Str)==("wanted" :Str))=false:=by decide+kernel
theorem OI:(("parts" :Str)==("parts" :Str))=true:=by decide+kernel
theorem OJ:(("wanted" :Str)==("wanted" :Str))=true:=by decide+kernel
theorem OK:(("name" :Str)==("name" :Str))=true:=by decide+kernel
theorem HR(p:PV):cJ fK "name" (.ins 0 [p])=⇑p:=by
 show List.lookup ("name" :Str) [("name",p)]=_
 rw[Zb,OK]
variable{c:Nat}
theorem Ar(h0:0<c)(h4:c<4)(w q:PV):cJ fK "wanted" (.ins c [w,q])=⇑w:=by
 have e:fK c=[("wanted" :Str),("parts" :Str)]:=by
  unfold fK Pb
  rw[UF ⋯,UF ⋯,UF ⋯,W1 h4]
 show List.lookup ("wanted" :Str) ((fK c).zip [w,q])=_
 rw[e,Z6,Zb,OJ]
theorem Er(h0:0<c)(h4:c<4)(w q:PV):cJ fK "parts" (.ins c [w,q])=⇑q:=by
 have e:fK c=[("wanted" :Str),("parts" :Str)]:=by
  unfold fK Pb
  rw[UF ⋯,UF ⋯,UF ⋯,W1 h4]
 show List.lookup ("parts" :Str) ((fK c).zip [w,q])=_
 rw[e,Z6,Zb,OH,Z6,Zb,OI]
theorem p7{as:bZ}{x:PV}{l:List PV}(h:as ρ=some [x])(ho:sP ρ i=⇑l)(hl:l.length<5000):qw i eM as ρ=⇑(.nx (ρ.set i (.ow (l++[x])))):=by
 have zl:(5000:Nat)<=sizeLine:=by decide
 show((as ρ).bind λxs=>(sP ρ i).bind λl=>(eM l xs).map λl'=>Fl.nx (ρ.set i (.ow l')))=_
 rw[h,ho]
 show((if l.length<sizeLine then ⇑(l++[x])else none).map λl'=>Fl.nx (ρ.set i (.ow l')))=_
 rw[W1 ⋯]
 rfl
theorem OL:((List.range 6).all λk=>decide (Builtin.bitOr 0 (1*2^k)=((2^k:Nat):Int)))=true:=by decide+kernel
theorem Md{k:Nat}(hk:k<6):Builtin.bitOr 0 (1*2^k)=((2^k:Nat):Int):=PP (ZP.mp OL k (ZW.mpr hk))
def Sm(r:List Nat):Prop:=(∀g∈r,g<64)/\r.length<=64
theorem yz:∀(ss acc:List Nat) {x:Nat},x∈ss.foldl Mt.fU acc->x∈acc\/x∈ss
 |[],_,_,h=>.inl h
 |s::ss,acc,x,h=>by
  rcases yz ss _ h with h|h
  ·unfold Mt.fU at h
   split at h
   ·exact .inl h
   ·rcases Zg.mp h with h|h
    ·exact .inl h
    ·exact .inr (by rw[Zl.mp h];exact ZM ..)
  ·exact .inr (ZI _ h)
theorem yA{l:List Nat}(h:Sm l):∃r,Sm r/\(∀g∈r,g∈l)/\lg [aW l]=⇑(aW r):=by
 have m:∀g∈Mt.A9 (BZ l),g∈l:=λg hg=>B2 ((yz _ _ hg).resolve_left (by simp))
 have:=Ec l
 exact⟨_,⟨λg hg=>h.1 g (m g hg),by have:=h.2;omega⟩,m,Hd h.1 (by have:=h.2;omega)⟩
theorem Cr(hc:c<=6)(p:Nat->Bool):Sm ((yd c).filter p):=by
 have h:=jm hc
 have:=YT p (yd c)
 rw[rE]at this
 exact⟨λg hg=>by have:=ye (YN.mp hg).1;omega,⋯⟩
theorem K5(w:Int){ls:List (List Nat)}(hl:ls.length<=8)(hs:∀l∈ls,Sm l):∃r,Sm r/\jI [.int w,.lst (ls.map aW)]=⇑(aW r):=by
 obtain⟨r,a,_,e⟩:=yA (Cr (ZK 6) λg=>decide (w<=(cnt ls g:Int)))
 exact⟨r,a,fZ rfl ((aG (av (oD (cS ((aG (ps:=[.int (6:Nat)]) rfl).trans (ur (ZK 6)))) (by rw[rE];decide) λg _=>bB ((ai (y:=.int w) ((aG (ps:=[.lst (ls.map aW),.int g]) rfl).trans (yk BY ls g ⋯ λl h=>(hs l h).2)) rfl).trans rfl)) rfl)).trans e)⟩
def Tells(names:List Str)(i:It)(r:List Nat):Prop:=∀m,i.d<=m->∃c l,i.o=.ins c l/\eo (m+1) c [i.o,b0 names]=⇑(aW r)
def Ok(names:List Str)(i:It):Prop:=∃r,Sm r/\Tells names i r
theorem K6(hl:names.length<=6)(h:x∈names):Ok names ⟨.ins 0 [.str x],.tup [.str "hand",.str x],x,0⟩:=by
 have hk:=nN h
 have hp:=Nat.pow_lt_pow_right (a:=2) ∅ hk
 have Ph:=jm hl
 refine⟨[2^dO x names],⟨λa ha=>?_,by simp⟩,λm _=>⟨0,_,rfl,?_⟩⟩
 ·rw[Zl.mp ha]
  omega
 ·have e:aW [2^dO x names]=.lst [.int (Builtin.bitOr 0 (1*2^dO x names))]:=by
    rw[Md ⋯]
    rfl
  rw[e]
  refine fZ rfl (iU (av ?_ rfl) (by simp))
  refine(aG (av (x:=b0 names) rfl (av (x:=.lst [.str x]) ?_ rfl))).trans (yy h hl)
  exact iU (av ((br (x:=.ins 0 [.str x]) rfl).trans (HR _)) rfl) (by simp)
variable{its:List It}{n:Nat}
theorem mn(h8:its.length<=8)(hi:∀i∈its,Ok names i/\i.d<=n)(h0:0<c)(h4:c<4)(hc:∀m,eo (m+1) c=fn true 2 2 (cH jI (eo m))){w:Nat}{s:PV}{t:Str}:Ok names ⟨.ins c [.int (w:Nat),.tup (its.map It.o)],s,t,1+n⟩:=by
 have:∀i:It,∃r:List Nat,i∈its->Sm r/\Tells names i r:=λi=>by
  by_cases h:i∈its
  ·obtain⟨⟨r,hv⟩,_⟩:=hi i h
   exact⟨r,λ_=>hv⟩
  ·exact⟨[],λz=>absurd z h⟩
 obtain⟨R,hR⟩:=YY this
 obtain⟨r,r1,r3⟩:=K5 (w:Int) (ls:=its.map R) (by rw[ZD];omega) (λl h=>by
  obtain⟨i,h1,rfl⟩:=Zi.mp h
  exact(hR i h1).1)
 refine⟨r,r1,λm hm=>⟨c,_,rfl,?_⟩⟩
 rw[hc]
 refine fZ rfl ?_
 rw[Zp]at r3
 have dc:bV (Nm (bC (cJ fK "parts") (dV 0))) cM (di (eo m) (aP 0) (af (aP 2) aB)) [.sh (.ins c [.int (w:Nat),.tup (its.map It.o)]),.sh (b0 names)]=⇑(.lst (its.map (aW∘R))):=by
  refine ky It.o (aW∘R) ?_ ⋯ λi VH=>?_
  ·show((bC (cJ fK "parts") (dV 0)) [.sh (.ins c [.int (w:Nat),.tup (its.map It.o)]),.sh (b0 names)]).bind FA=_
   rw[(br (x:=.ins c [.int (w:Nat),.tup (its.map It.o)]) rfl).trans (Er h0 h4 _ _)]
   rfl
  ·have hd:=(hi i VH).2
   obtain⟨k,rfl⟩:∃k,m=k+1:=⟨m-1,by have:1+n<=m:=hm;omega⟩
   obtain⟨_,l,e,hs⟩:=(hR i VH).2 k (by have:1+n<=k+1:=hm;omega)
   rw[e]at hs⊢
   exact hs
 exact(aG (av ((br (x:=.ins c [.int (w:Nat),.tup (its.map It.o)]) rfl).trans (Ar h0 h4 _ _)) (av dc rfl))).trans r3
theorem yB:∀{l:List It},(∀i∈l,As i.t)->∀c∈Rq.eJ l,c<128
 |[],_,c,hc=>by cases hc
 |i::l,h,c,hc=>by
  rcases Zc.mp hc with rfl|hc
  ·decide
  rcases Zc.mp hc with rfl|hc
  ·decide
  rcases Zg.mp hc with hc|hc
  ·exact h i (ZM ..) c hc
  ·exact yB (λj hj=>h j (ZI _ hj)) c hc
theorem v3(h:∀i∈its,As i.t)(h0:its≠[]):As (Txt.join (", " :Str) (its.map It.t)):=by
 cases its with
 |nil=>exact absurd rfl h0
 |cons i rest=>
  intro c hc
  rw[Rq.HF]at hc
  rcases Zg.mp hc with hc|hc
  ·exact h i (ZM ..) c hc
  ·exact yB (λj hj=>h j (ZI _ hj)) c hc
def K7(names:List Str)(i:It):Prop:=Ok names i/\Rq.HG names i/\As i.t
theorem VI(hN:∀x∈names,Rq.lD x)(hl:names.length<=6):XU names (K7 names) where
 hand:=λx hx=>⟨K6 hl hx,Rq.HH hN ⋯ hx,(hN x hx).as⟩
 all:=λ_ n h0 h8 _ hi=>⟨mn h8 (λi h=>⟨(hi i h).1.1,(hi i h).2⟩) ∅ ∅ λ_=>rfl,Rq.KY hN ⋯ h0 h8 λi h=>⟨(hi i h).1.2.1,(hi i h).2⟩,oE (yf (by decide+kernel)) (oE (v3 (λi h=>(hi i h).1.2.2) h0) (yf (by decide+kernel)))⟩
 any:=λ_ n h0 h8 _ hi=>⟨mn h8 (λi h=>⟨(hi i h).1.1,(hi i h).2⟩) (w:=1) ∅ ∅ λ_=>rfl,Rq.KZ hN ⋯ h0 h8 λi h=>⟨(hi i h).1.2.1,(hi i h).2⟩,oE (yf (by decide+kernel)) (oE (v3 (λi h=>(hi i h).1.2.2) h0) (yf (by decide+kernel)))⟩
 some:=λ_ n m h0 h8 _ hi h1 h2=>⟨mn h8 (λi h=>⟨(hi i h).1.1,(hi i h).2⟩) ∅ ∅ λ_=>rfl,Rq.HI hN ⋯ h0 h8 (λi h=>⟨(hi i h).1.2.1,(hi i h).2⟩) h1 h2,oE (Rq.oJ (Rq.vV h1 ⋯).1).2 (oE (v3 (λi h=>(hi i h).1.2.2) h0) (yf (by decide+kernel)))⟩
theorem Rz(h:IP x):Rq.lD x:=⟨h.1.as,λc hc=>by have:=h.1 c hc;omega,λz=>by have:=h.1 _ z;omega⟩
theorem Au(hN:∀x∈names,Rq.lD x)(hl:names.length<=6){i:It}(h:K7 names i)(hd:i.d<=22)(ht:i.t.length<=50000):
  ∃r,Sm r/\rJ [b0 names,.str i.t]=⇑i.o/\∃c l,i.o=.ins c l/\gk c [i.o,b0 names]=⇑(aW r):=by
 obtain⟨⟨r,hr,hv⟩,h3,h4⟩:=h
 exact⟨r,hr,Rq.K0 hN ⋯ h3 hd h4 ⋯,hv 23 ⋯⟩
theorem HS(h:x.length<=100000):cB (.str x)=⇑(.int (x.length:Nat)):=by
 have zl:(100000:Nat)<=sizeLine:=by decide
 show(if x.length<=sizeLine then ⇑(PV.int (x.length:Nat))else none)=_
 rw[W1 ⋯]
theorem Av:∀(cs:List Nat) (f:Nat->Bool),bools (cs.map λc=>PV.bl (f c))=⇑(cs.map f)
 |[],_=>rfl
 |c::cs,f=>by
  show(bools (cs.map λc=>PV.bl (f c))).map (f c::·)=_
  rw[Av cs f]
  rfl
theorem Cs:∀(cs:List Nat),fg cM (fW (dC (.str "a")) (dV 0) (dC (.str "z"))) ρ (cs.map λc=>PV.str ⟨#[c]⟩)=⇑(cs.map λc=>PV.bl (sg c))
 |[]=>rfl
 |c::cs=>by
  have e:fW (dC (.str "a")) (dV 0) (dC (.str "z")) (.sh (.str ⟨#[c]⟩)::ρ)=⇑(.bl (sg c)):=by
   show(if Dw "a" ⟨#[c]⟩then ⇑(PV.bl (Dw ⟨#[c]⟩ "z"))else ⇑(.bl false))=⇑(.bl (Dw "a" ⟨#[c]⟩&&Dw ⟨#[c]⟩ "z"))
   cases Dw "a" ⟨#[c]⟩<;>rfl
  show((fW (dC (.str "a")) (dV 0) (dC (.str "z")) (.sh (.str ⟨#[c]⟩)::ρ)).bind λz=>(fg cM (fW (dC (.str "a")) (dV 0) (dC (.str "z"))) ρ (cs.map λc=>PV.str ⟨#[c]⟩)).map (z::·))=_
  rw[e,Cs cs]
  rfl
variable{a:Den}
theorem K8(h:a ρ=⇑(.str x))(hx:As x):J7 a ρ=⇑(x.cps.toList.map λc=>PV.str ⟨#[c]⟩):=by
 unfold J7
 rw[h]
 show(if x.cps.all (·<128)then ⇑(signs x)else none)=_
 rw[Ac hx]
 rfl
theorem XW(x:Str):JF (.str x) (.tup kept)=⇑(.bl (j0 (.str x) kept)):=rfl
theorem K9(x:Str)(h:x.length<=2000):cQ (dC (.int 1)) (bC cB (dV 0)) (dC (.int 20)) [.sh (.str x)]=⇑(.bl (B5 x)):=by
 have e:bC cB (dV 0) [.sh (.str x)]=⇑(.int (x.length:Nat)):=(br (x:=.str x) rfl).trans (HS ⋯)
 unfold cQ
 rw[e]
 show(if(1:Int)<=((x.length:Nat):Int)then ⇑(PV.bl (decide (((x.length:Nat):Int)<=20)))else ⇑(.bl false))=⇑(.bl (decide (1<=x.length)&&decide (x.length<=20)))
 by_cases h1:1<=x.length
 ·rw[W1 ⋯,SZ h1]
  congr 2
  rw[Yq,decide_eq_decide]
  omega
 ·rw[UF ⋯,Wp h1]
  rfl
theorem Et(h1:As x)(h2:x.length<=2000):f9 [.str x]=⇑(.bl (nm x)):=by
 have tk:tV (ag JF (dV 0) (dC (.tup [.str "all",.str "any",.str "of"]))) [.sh (.str x)]=⇑(j0 (.str x) kept):=bB ((ai (x:=.str x) (y:=.tup kept) rfl rfl).trans (XW x))
 have tl:=iT (bB (K9 x h2))
 unfold nm
 cases hk:j0 (.str x) kept with
 |true=>
  rw[hk]at tk
  exact b8 rfl (dQ ((gg (L6 tk)).trans rfl))
 |false=>
  rw[hk]at tk
  cases hl:B5 x with
  |false=>
   rw[hl]at tl
   exact b8 rfl (dQ ((gg ((BX tk).trans tl)).trans rfl))
  |true=>
   rw[hl]at tl
   refine b8 rfl ((ak ((ck ((BX tk).trans tl)).trans rfl)).trans (b5 ?_))
   refine(br (iD (K8 (x:=x) rfl h1) ?_ (Cs _))).trans ?_
   ·rw[ZD,ZQ]
    exact Zd h2 ∅
   ·show(bools (x.cps.toList.map λc=>PV.bl (sg c))).map (λbs=>PV.bl (bs.all id))=_
    rw[Av]
    show some (PV.bl ((x.cps.toList.map sg).all id))=⇑(PV.bl (true&&true&&x.cps.toList.all sg))
    rw[List.all_map]
    rfl
theorem uz:∀ts:List Str,(ts.map PV.str).all flat=true
 |[]=>rfl
 |t::ts=>by
  rw[ZV,YH,uz ts]
  rfl
theorem Eu:((List.range 123).all λc=>decide (c<97)||sg c)=true:=by decide+kernel
theorem RA(h1:97<=c)(h2:c<=122):sg c=true:=by
 have:=ZP.mp Eu c (ZW.mpr ⋯)
 rw[Wp ⋯]at this
 exact this
theorem La(h:IP x)(hk:j0 (.str x) kept=false):nm x=true:=by
 unfold nm B5
 rw[hk,SZ h.2.1,SZ h.2.2]
 show x.cps.toList.all sg=true
 exact ZP.mpr λc hc=>RA (h.1 c hc).1 (h.1 c hc).2
variable{FN:FP}
theorem yC(hN:∀{x:Str},As x->x.length<=2000->FN [.str x]=⇑(.bl (nm x)))(s0:Slot):∀(xs acc:List Str) (s2:Slot),(∀x∈xs,IP x/\j0 (.str x) kept=false)->(acc++xs).Nodup->acc.length+xs.length<=100->
  ∃t,forL (bj 2) (o9 FN) (xs.map PV.str) [s0,.ow (acc.map PV.str),s2]=⇑(.nx [s0,.ow ((acc++xs).map PV.str),t])
 |[],acc,s2,_,_,_=>⟨s2,by rw[Zh];rfl⟩
 |x::xs,acc,s2,h,hd,hl=>by
  rw[ZJ]at hl
  obtain⟨h1,h2⟩:=h x (ZM ..)
  have hx:x∉acc:=λz=>(List.nodup_append.mp hd).2.2 x z x (ZM ..) rfl
  obtain⟨t,e⟩:=yC hN s0 xs (acc++[x]) (.sh (.str x)) (λy hy=>h y (ZI _ hy)) (by rw[Z7];exact hd) (by rw[ZT,Zq];omega)
  rw[Z7,Y2]at e
  refine⟨t,Eq.trans ?_ e⟩
  refine jM (i:=2) (x:=.str x) (xs:=xs.map PV.str) (ρ:=[s0,.ow (acc.map PV.str),s2]) ?_
  have Yc:=h1.2.2
  refine(ak ((ck (iT (b:=true) (bB ((aG (ps:=[.str x]) rfl).trans ((hN h1.1.as ⋯).trans (by rw[La h1 h2])))))).trans rfl)).trans ?_
  refine(ak ((ck (bB ((ai (x:=.str x) (y:=.lst (acc.map PV.str)) rfl rfl).trans ?_))).trans rfl)).trans ?_
  ·show(if flat (.str x)&&(acc.map PV.str).all flat then ⇑(PV.bl (j0 (.str x) (acc.map PV.str)))else none)=_
   rw[uz,rH,Wp hx]
   rfl
  ·refine(p7 (x:=.str x) (l:=acc.map PV.str) rfl rfl (by rw[ZD];omega)).trans ?_
   rw[Zr]
   rfl
variable{xs:List Str}
theorem HU(hN:∀{x:Str},As x->x.length<=2000->FN [.str x]=⇑(.bl (nm x)))(h:∀x∈xs,IP x/\j0 (.str x) kept=false)(hd:xs.Nodup)(h1:1<=xs.length)(h6:xs.length<=6):fn false 3 1 (ux FN) [.lst (xs.map PV.str)]=⇑(b0 xs):=by
 obtain⟨t,e⟩:=yC hN (.sh (.lst (xs.map PV.str))) xs [] .un h hd (by simp;omega)
 have el:bC cB (dV 0) [.sh (.lst (xs.map PV.str)),.un,.un]=⇑(.int (xs.length:Nat)):=by
  show some (PV.int ((xs.map PV.str).length:Nat))=_
  rw[ZD]
 refine b8 rfl ((ak ((ck (iT (b:=true) (bB ?_))).trans rfl)).trans ?_)
 ·show cQ (dC (.int 1)) (bC cB (dV 0)) (dC (.int 6)) [.sh (.lst (xs.map PV.str)),.un,.un]=_
  unfold cQ
  rw[el]
  show(if(1:Int)<=((xs.length:Nat):Int)then ⇑(PV.bl (decide (((xs.length:Nat):Int)<=6)))else ⇑(.bl false))=_
  rw[W1 ⋯,SZ ⋯]
 ·exact(ak (ko (l:=[]) (iU rfl (by simp)))).trans ((ak ((gN (xs:=xs.map PV.str) (cS rfl)).trans e)).trans (b5 rfl))
theorem Lb(h:∀x∈xs,IP x/\j0 (.str x) kept=false)(hd:xs.Nodup)(h1:1<=xs.length)(h6:xs.length<=6):oM [.lst (xs.map PV.str)]=⇑(b0 xs):=HU Et h hd h1 h6
theorem Ew(ns:List Int)(a many:Nat)(h1:1<=many)(hm:many<=6):∃xs:List Str,xs.length=many/\xs.Nodup/\(∀x∈xs,IP x/\j0 (.str x) kept=false)/\eV [o7 ns,.int a,.int many]=⇑(.lst (xs.map PV.str)):=by
 obtain⟨f,f1,f2,f3⟩:=HP ns a many hm
 refine⟨(List.range many).map f,by rw[ZD,Zk],?_,λx hx=>?_,f3⟩
 ·unfold List.Nodup
  rw[List.pairwise_map]
  exact List.Pairwise.imp_of_mem (λ{j k} hj hk _=>f2 j k (by have:=ZW.mp hj;omega) (by have:=ZW.mp hk;omega) ⋯) (List.pairwise_lt_range)
 ·obtain⟨k,_,rfl⟩:=Zi.mp hx
  exact f1 k
variable{α:Type}
theorem v5{β:Type}(f:α->β)(l:List α)(lo hi:Option Int):kb (l.map f) lo hi=(kb l lo hi).map f:=by
 unfold kb
 rw[ZD,<-List.map_drop,<-List.map_take]
theorem HV(l:List α){a b:Nat}(h:a<=b):(kb l ⇑(a:Int) ⇑(b:Int)).length<=b-a:=by
 have ha:zt l.length 0 ⇑(a:Int)=min a l.length:=by
  show(if(a:Int)<0 then((a:Int)+(l.length:Nat)).toNat else min (a:Int).toNat l.length)=_
  rw[UF ⋯,Zu]
 have hb:zt l.length l.length ⇑(b:Int)=min b l.length:=by
  show(if(b:Int)<0 then((b:Int)+(l.length:Nat)).toNat else min (b:Int).toNat l.length)=_
  rw[UF ⋯,Zu]
 unfold kb
 rw[ha,hb,Z4]
 omega
variable{A:Den}
theorem HW(ns:List Int)(a b:Nat)(h:a<=b)(hA:A ρ=⇑(o7 ns)):∃cs:List Int,cs.length<=b-a/\LH A (cL (dC (.int (a:Nat)))) (cL (dC (.int (b:Nat)))) ρ=⇑(.lst (cs.map PV.int)):=by
 refine⟨kb ns ⇑(a:Int) ⇑(b:Int),HV ns h,(Ag (a:=⇑(a:Int)) (b:=⇑(b:Int)) hA rfl rfl).trans ?_⟩
 rw[v5]
def V0(p:PV):Prop:=∃f r,p=.tup [.int f,aW r]/\Sm r
def V1(p:PV):Prop:=∃a f l,p=.tup [.int a,.int f,.int l]
def V2(p:PV):Prop:=∃a b f l,p=.tup [.int a,.int b,.int f,.int l]
theorem rT(r:List Nat):plain (n+2) (aW r)=true:=ZP.mpr λp h=>by
 obtain⟨_,_,rfl⟩:=vO h
 rfl
theorem HY:∀p,V0 p->plain 9 p=true:=λp ⟨f,r,e,_⟩=>by
 rw[e]
 show(true&&(plain 8 (aW r)&&true))=true
 rw[rT]
 rfl
variable{gt:qy}
theorem lu(P:bU->Prop)(Q:PV->Prop)(hQ:∀p,Q p->plain 9 p=true)(st:∀p ρ,Q p->P ρ->∃ρ1 ρ2,gt p ρ=⇑ρ1/\body ρ1=⇑(.nx ρ2)/\ρ2.all rf=true/\P ρ2):
  ∀(ps:List PV) (ρ:bU),(∀p∈ps,Q p)->P ρ->∃ρ',rg gt body ps ρ=⇑ρ'/\P ρ'
 |[],ρ,_,h=>⟨ρ,rfl,h⟩
 |p::ps,ρ,hq,h=>by
  obtain⟨ρ1,ρ2,e1,e2,e3,h2⟩:=st p ρ (hq p (ZM ..)) h
  obtain⟨ρ',e,h'⟩:=lu P Q hQ st ps ρ2 (λq z=>hq q (ZI _ z)) h2
  refine⟨ρ',?_,h'⟩
  unfold rg
  rw[W1 (hQ p (hq p (ZM ..))),e1]
  show((body ρ1).bind _)=_
  rw[e2]
  show(if ρ2.all rf=true then _ else none)=_
  rw[W1 e3]
  exact e
variable{ps:List PV}
theorem rV{k:Nat}{l:List PV}{ks:List Int}(h1:ρ[0]?=⇑(.sh (.ins 5 l)))(h2:l[k]?=⇑(.dct ks ps))(h3:(ρ.set 0 .un).all rf=true)(h4:rg gt body ps (ρ.set 0 .un)=⇑ρ'):nG k gt body ρ=⇑(.nx ρ'):=by
 unfold nG
 simp only[h1,h2,h3,h4]
 rfl
theorem oO{b c:Den}{i j k:Int}(h1:a ρ=⇑(.int i))(h2:b ρ=⇑(.int j))(h3:c ρ=⇑(.int k)):∃t,tV (cQ a b c) ρ=⇑t:=by
 unfold tV cQ
 rw[h1,h2,h3]
 by_cases h:i<=j
 ·exact⟨decide (j<=k),by show(if i<=j then ⇑(PV.bl (decide (j<=k)))else ⇑(.bl false)).bind C7=_;rw[W1 h];rfl⟩
 ·exact⟨false,by show(if i<=j then ⇑(PV.bl (decide (j<=k)))else ⇑(.bl false)).bind C7=_;rw[UF h];rfl⟩
theorem v7{t:dg}{a b:aT}(h:∃c,t ρ=⇑c):gy t a b ρ=a ρ\/gy t a b ρ=b ρ:=by
 obtain⟨c,h⟩:=h
 cases c
 ·exact .inr (ck h)
 ·exact .inl (gg h)
def Fo(f:PV):Prop:=f=.non\/∃r,Sm r/\f=aW r
theorem HZ{f:PV}(h:Fo f):plain 9 f=true:=by
 rcases h with rfl|⟨r,_,rfl⟩
 ·rfl
 ·exact rT r
variable{v0:List PV}
theorem nO(h:∀p∈v0,V0 p)(day:Int):∃p,(p=zK 0\/∃r,Sm r/\p=aW r)/\∀rl n ks d1 d2,d6 [.ins 5 [rl,n,.dct ks v0,d1,d2],.int day]=⇑p:=by
 have st:∀p ρ,V0 p->(∃(f:PV) (l:Int) (a b:Slot),ρ=[.un,.sh (.int day),.sh f,.sh (.int l),a,b]/\Fo f)->∃ρ1 ρ2,kc (bj 4) (bj 5) p ρ=⇑ρ1/\gK ρ1=⇑(.nx ρ2)/\ρ2.all rf=true/\∃(f:PV) (l:Int) (a b:Slot),ρ2=[.un,.sh (.int day),.sh f,.sh (.int l),a,b]/\Fo f:=by
  rintro p ρ ⟨g,r,rfl,hr⟩ ⟨f,l,a,b,rfl,hf⟩
  have h8:plain 9 (aW r)=true:=rT r
  have h9:=HZ hf
  refine⟨[.un,.sh (.int day),.sh f,.sh (.int l),.sh (.int g),.sh (aW r)],?_⟩
  rcases v7 (a:=aU (bK 2 (aP 5)) (bK 3 (aP 4))) (b:=bQ) (oO (a:=dV 3) (b:=dV 4) (c:=dV 1) (ρ:=[.un,.sh (.int day),.sh f,.sh (.int l),.sh (.int g),.sh (aW r)]) rfl rfl rfl)with e|e
  ·exact⟨_,rfl,e,by show(true&&(true&&(plain 9 (aW r)&&(true&&(true&&(plain 9 (aW r)&&true))))))=true;rw[h8];rfl,_,_,_,_,rfl,.inr ⟨r,hr,rfl⟩⟩
  ·exact⟨_,rfl,e,by show(true&&(true&&(plain 9 f&&(true&&(true&&(plain 9 (aW r)&&true))))))=true;rw[h8,h9];rfl,_,_,_,_,rfl,hf⟩
 obtain⟨_,e,f,l,a,b,rfl,hf⟩:=lu _ V0 HY st v0 [.un,.sh (.int day),.sh .non,.sh (.int 0),.un,.un] h ⟨_,_,_,_,rfl,.inl rfl⟩
 have k:∀rl n ks d1 d2 fl,(aU (gy (tV (bC pF (dV 2))) (ma (λ_=>true) 0) bQ) (G4 (aP 2))) [.un,.sh (.int day),.sh f,.sh (.int l),a,b]=⇑fl->d6 [.ins 5 [rl,n,.dct ks v0,d1,d2],.int day]=vb false fl:=λrl n ks d1 d2 fl z=>by
  show((aU _ (aU _ (aU _ _))) [.sh (.ins 5 [rl,n,.dct ks v0,d1,d2]),.sh (.int day),.un,.un,.un,.un]).bind _=_
  rw[ak (aH (p:=.non) rfl),ak (aH (p:=.int 0) rfl),ak (rV rfl rfl rfl e),z]
  rfl
 rcases hf with rfl|⟨r,hr,rfl⟩
 ·exact⟨_,.inl rfl,λrl n ks d1 d2=>k rl n ks d1 d2 (.rt (zK 0)) rfl⟩
 ·exact⟨_,.inr ⟨r,hr,rfl⟩,λrl n ks d1 d2=>k rl n ks d1 d2 (.rt (aW r)) rfl⟩
variable{v1:List PV}
theorem Ax(h:∀p∈v1,V1 p)(day:Int):∃g:Int,∀rl n ks d0 d2,gQ [.ins 5 [rl,n,d0,.dct ks v1,d2],.int day]=⇑(.int g):=by
 have st:∀p ρ,V1 p->(∃(g:Int) (a b c:Slot),ρ=[.un,.sh (.int day),.sh (.int g),a,b,c])->∃ρ1 ρ2,tZ [bj 3,bj 4,bj 5] p ρ=⇑ρ1/\iW ρ1=⇑(.nx ρ2)/\ρ2.all rf=true/\∃(g:Int) (a b c:Slot),ρ2=[.un,.sh (.int day),.sh (.int g),a,b,c]:=by
  rintro p ρ ⟨x,f,l,rfl⟩ ⟨g,a,b,c,rfl⟩
  refine⟨[.un,.sh (.int day),.sh (.int g),.sh (.int x),.sh (.int f),.sh (.int l)],?_⟩
  rcases v7 (a:=bK 2 (ag O6 (dV 2) (dV 3))) (b:=bQ) (oO (a:=dV 4) (b:=dV 1) (c:=dV 5) (ρ:=[.un,.sh (.int day),.sh (.int g),.sh (.int x),.sh (.int f),.sh (.int l)]) rfl rfl rfl)with e|e
  ·exact⟨_,rfl,e,rfl,_,_,_,_,rfl⟩
  ·exact⟨_,rfl,e,rfl,_,_,_,_,rfl⟩
 obtain⟨_,e,g,a,b,c,rfl⟩:=lu _ V1 (λp ⟨_,_,_,e⟩=>by rw[e];rfl) st v1 [.un,.sh (.int day),.sh (.int 0),.un,.un,.un] h ⟨_,_,_,_,rfl⟩
 exact⟨g,λrl n ks d0 d2=>b8 rfl ((ak (aH (p:=.int 0) rfl)).trans ((ak (rV rfl rfl rfl e)).trans rfl))⟩
variable{v2:List PV}
theorem rW(h:∀p∈v2,V2 p)(day:Int):∃D:Int->Int,∀role rl n ks d0 d1,cC [.ins 5 [rl,n,d0,d1,.dct ks v2],.int day,.int role]=⇑(.int (D role)):=by
 refine YY (r:=λrole (g:Int)=>∀rl n ks d0 d1,cC [.ins 5 [rl,n,d0,d1,.dct ks v2],.int day,.int role]=⇑(.int g)) λrole=>?_
 have st:∀p ρ,V2 p->(∃(g:Int) (a b c d:Slot),ρ=[.un,.sh (.int day),.sh (.int role),.sh (.int g),a,b,c,d])->∃ρ1 ρ2,tZ [bj 4,bj 5,bj 6,bj 7] p ρ=⇑ρ1/\fQ ρ1=⇑(.nx ρ2)/\ρ2.all rf=true/\∃(g:Int) (a b c d:Slot),ρ2=[.un,.sh (.int day),.sh (.int role),.sh (.int g),a,b,c,d]:=by
  rintro p ρ ⟨x,y,f,l,rfl⟩ ⟨g,a,b,c,d,rfl⟩
  refine⟨[.un,.sh (.int day),.sh (.int role),.sh (.int g),.sh (.int x),.sh (.int y),.sh (.int f),.sh (.int l)],?_⟩
  have t:∃k,(mD (tV (ag ip (dV 5) (dV 2))) (tV (cQ (dV 6) (dV 1) (dV 7)))) [.un,.sh (.int day),.sh (.int role),.sh (.int g),.sh (.int x),.sh (.int y),.sh (.int f),.sh (.int l)]=⇑k:=by
   obtain⟨k,hk⟩:=oO (a:=dV 6) (b:=dV 1) (c:=dV 7) (ρ:=[.un,.sh (.int day),.sh (.int role),.sh (.int g),.sh (.int x),.sh (.int y),.sh (.int f),.sh (.int l)]) rfl rfl rfl
   by_cases q:y=role
   ·exact⟨k,(rB (show some (decide (y=role))=_ by rw[SZ q])).trans hk⟩
   ·exact⟨false,vL (show some (decide (y=role))=_ by rw[Wp q])⟩
  rcases v7 (a:=bK 3 (ag O6 (dV 3) (dV 4))) (b:=bQ) t with e|e
  ·exact⟨_,rfl,e,rfl,_,_,_,_,_,rfl⟩
  ·exact⟨_,rfl,e,rfl,_,_,_,_,_,rfl⟩
 obtain⟨_,e,g,a,b,c,d,rfl⟩:=lu _ V2 (λp ⟨_,_,_,_,e⟩=>by rw[e];rfl) st v2 [.un,.sh (.int day),.sh (.int role),.sh (.int 0),.un,.un,.un,.un] h ⟨_,_,_,_,_,rfl⟩
 exact⟨g,λrl n ks d0 d1=>b8 rfl ((ak (aH (p:=.int 0) rfl)).trans ((ak (rV rfl rfl rfl e)).trans rfl))⟩
theorem yD{c:dg}{e:Den}(v f:α->PV)(p:α->Bool):∀xs:List α,(∀x∈xs,c (.sh (v x)::ρ)=⇑(p x)/\e (.sh (v x)::ρ)=⇑(f x))->fg c e ρ (xs.map v)=⇑((xs.filter p).map f)
 |[],_=>rfl
 |x::xs,h=>by
  have ih:=yD v f p xs λy hy=>h y (ZI _ hy)
  obtain⟨h1,h2⟩:=h x (ZM ..)
  rw[ZV]
  unfold fg
  rw[h1,ih,h2]
  cases hp:p x
  ·rw[Yy (by rw[hp];decide)]
   rfl
  ·rw[Yx hp]
   rfl
theorem rX{it:bZ}{c:dg}{e:Den}(v f:α->PV)(p:α->Bool){xs:List α}(h1:it ρ=⇑(xs.map v))(h2:xs.length<=5000)(h3:∀x∈xs,c (.sh (v x)::ρ)=⇑(p x)/\e (.sh (v x)::ρ)=⇑(f x)):bV it c e ρ=⇑(.lst ((xs.filter p).map f)):=by
 have zl:(5000:Nat)<=sizeLine:=by decide
 exact iD h1 (by rw[ZD];omega) (yD v f p xs h3)
theorem dM{Fs:Nat->FP}{o:Den}{as:bZ}{l xs:List PV}(h1:o ρ=⇑(.ins c l))(h2:as ρ=⇑xs):di Fs o as ρ=Fs c (.ins c l::xs):=by
 unfold di
 rw[h1,h2]
 rfl
theorem jq(a b c d e:PV):cJ fK "roll" (.ins 5 [a,b,c,d,e])=⇑a:=rfl
def hb(t:Int)(k:Nat):Bool:=decide (Builtin.bitAnd (t/2^k) 1=1)
theorem H9{B:Den}{t:Int}{k:Nat}(hA:A ρ=⇑(.int t))(hB:B ρ=⇑(.int (k:Nat))):ag ip (ag qt (ag zp A B) (dC (.int 1))) (dC (.int 1)) ρ=⇑(.bl (hb t k)):=by
 have:zp (.int t) (.int (k:Nat))=⇑(.int (t/2^k)):=by
  show(if decide (0<=(k:Int))then ⇑(PV.int (t/2^((k:Nat):Int).toNat))else none)=_
  rw[W1 (SZ ⋯),Zu]
 exact(ai (y:=.int 1) ((ai (y:=.int 1) ((ai hA hB).trans this) rfl).trans rfl) rfl).trans rfl
theorem has_any(t:Int)(k:Nat):dw [.int t,.int k]=⇑(.bl (hb t k)):=fZ rfl (H9 rfl rfl)
variable{day:Int}
theorem pf{F:PV}{t:Int}{D:Int->Int}{self:List PV}(hD:∀role,cC [.ins 5 self,.int day,.int role]=⇑(.int (D role))):∀(xs:List Nat) (acc:List Int) (a b:Slot),(∀k∈xs,k<6)->acc.length+xs.length<=100->
  ∃a' b',forL (bj 4) gq (pl xs) [.sh (.ins 5 self),.sh (.int day),.sh (.int t),.ow (acc.map PV.int),a,b]=⇑(.nx [.sh (.ins 5 self),.sh (.int day),.sh (.int t),.ow ((acc++xs.map λk=>if hb t k then(1*2^k:Int)else Builtin.bitAnd (D (1*2^k)) t).map PV.int),a',b'])
 |[],acc,a,b,_,_=>⟨a,b,by rw[Yt,Zh];rfl⟩
 |k::xs,acc,a,b,h,hl=>by
  rw[ZJ]at hl
  obtain⟨a',b',e⟩:=pf (F:=F) hD xs (acc++[if hb t k then(1*2^k:Int)else Builtin.bitAnd (D (1*2^k)) t]) (.sh (.int k)) (.sh (.int (1*2^k))) (λj hj=>h j (ZI _ hj)) (by rw[ZT,Zq];omega)
  rw[Z7,Y2]at e
  refine⟨a',b',Eq.trans (jM (i:=4) (x:=.int k) (xs:=pl xs) ?_) e⟩
  have hk:=h k (ZM ..)
  refine(ak (aH ((ai (x:=.int 1) (y:=.int k) rfl rfl).trans (k7 ⋯)))).trans ?_
  have hh:tV (aM dw (af (aP 2) (af (aP 4) aB))) [.sh (.ins 5 self),.sh (.int day),.sh (.int t),.ow (acc.map PV.int),.sh (.int k),.sh (.int (1*2^k))]=⇑(hb t k):=bB ((aG (ps:=[.int t,.int k]) rfl).trans (has_any t k))
  rw[Zr]
  cases q:hb t k
  ·rw[q]at hh
   refine(ck hh).trans (p7 (av ((ai (y:=.int t) ((dM (c:=5) (l:=self) (xs:=[.int day,.int (1*2^k)]) rfl rfl).trans (hD _)) rfl).trans rfl) rfl) rfl (by rw[ZD];omega))
  ·rw[q]at hh
   exact(gg hh).trans (p7 (x:=.int (1*2^k)) rfl rfl (by rw[ZD];omega))
variable{rs:List PV}
theorem rY(h:rs.length<=6){b c d e:PV}(ha:a ρ=⇑(.ins 5 [.tup rs,b,c,d,e])):bC cB (bC (cJ fK "roll") a) ρ=⇑(.int (rs.length:Nat)):=(br ((br ha).trans (jq ..))).trans rfl
theorem lO(h1:∀p∈v1,V1 p)(h2:∀p∈v2,V2 p)(hl:rs.length<=6)(day:Int):∃gs:List Int,gs.length=rs.length/\∀n d0 k1 k2,dJ [.ins 5 [.tup rs,n,d0,.dct k1 v1,.dct k2 v2],.int day]=⇑(.lst (gs.map PV.int)):=by
 obtain⟨g,hg⟩:=Ax h1 day
 obtain⟨D,hD⟩:=rW h2 day
 refine⟨(List.range rs.length).map λk=>if hb (1*2^rs.length-1-g) k then(1*2^k:Int)else Builtin.bitAnd (D (1*2^k)) (1*2^rs.length-1-g),by rw[ZD,Zk],λn d0 k1 k2=>?_⟩
 obtain⟨_,_,e⟩:=pf (F:=.non) (day:=day) (t:=1*2^rs.length-1-g) (self:=[.tup rs,n,d0,.dct k1 v1,.dct k2 v2]) (λrole=>hD role _ _ _ _ _) (List.range rs.length) [] .un .un (λk hk=>by have:=ZW.mp hk;omega) (by rw[Zk];exact Zd (by simp;exact hl) (by decide:6<=100))
 refine b8 rfl ((ak (aH ((ai (y:=.int g) ((ai (y:=.int 1) ((ai (x:=.int 1) rfl (rY hl rfl)).trans (k7 ⋯)) rfl).trans rfl) ((dM (c:=5) (xs:=[.int day]) rfl rfl).trans (hg ..))).trans rfl))).trans ?_)
 refine(ak (ko (l:=[]) (iU rfl (by simp)))).trans ((ak ((gN ((kq (rY hl rfl) (G9 ⋯)).trans ?_)).trans e)).trans rfl)
 rw[Zu,iE]
theorem gG(f:α->PV){l:List α}{k:Nat}(h:k<l.length)(d:α):itemAt (l.map f) (k:Int)=⇑(f (l.getD k d)):=by
 unfold itemAt LG
 rw[ZD,W1 ⋯,W1 ⋯]
 show(l.map f)[k]?=_
 rw[Za,ZG h,ZU,ZG h]
 rfl
theorem yE{gs:List Int}(hl:gs.length<=6)(g:Int):∃x:Int,d5 [.lst (gs.map PV.int),.int g]=⇑(.int x):=by
 have S:=HJ (L:=((List.range gs.length).filter λk=>!decide (Builtin.bitAnd (gs.getD k 0) g=0)).map λk=>2^k) (λn hn=>by
  obtain⟨k,hk,rfl⟩:=Zi.mp hn
  have:=ZW.mp (YN.mp hk).1
  have:=Nat.pow_le_pow_right (n:=2) ∅ (show k<=6 by omega)
  omega) (by rw[ZD];exact Zd (YT ..) (by rw[Zk];omega))
 rw[aW,Zp]at S
 refine⟨_,fZ rfl ((br (rX (λk:Nat=>PV.int k) _ (λk=>!decide (Builtin.bitAnd (gs.getD k 0) g=0)) (xs:=List.range gs.length) ((kq (j:=(gs.length:Nat)) ?_ (G9 ⋯)).trans ?_) (by rw[Zk];omega) λk hk=>⟨bB ((ai (y:=.int 0) ((ai (x:=.int (gs.getD k 0)) (y:=.int g) ?_ rfl).trans rfl) rfl).trans rfl),(ai (x:=.int 1) (y:=.int k) rfl rfl).trans (pZ k (by have:=ZW.mp hk;omega))⟩)).trans S)⟩
 ·show some (PV.int ((gs.map PV.int).length:Nat))=_
  rw[ZD]
 ·rw[Zu,iE]
 ·exact(ai (x:=.lst (gs.map PV.int)) (y:=.int k) rfl rfl).trans (gG PV.int (ZW.mp hk) 0)
theorem yF(l:List Nat)(h:l.length<=64)(x:Int):∃b,bN [aW l,.int x]=⇑(.bl b):=by
 refine⟨((l.filter λ_=>true).map λk:Nat=>decide (Builtin.bitAnd k x=k)).any id,fZ rfl ((br (rX (λk:Nat=>PV.int k) (λk=>PV.bl (decide (Builtin.bitAnd k x=k))) (λ_=>true) (xs:=l) (cS rfl) ⋯ λk _=>⟨rfl,(aG (ps:=[.int k,.int x]) rfl).trans (oB k x)⟩)).trans ?_)⟩
 show(bools _).map _=_
 rw[Av]
 rfl
theorem v8{d:Int}(h:0<=d):cj [.int d]=some .non:=by
 show((gy (tV (ag EJ (dV 0) (dC (.int 0)))) fm bQ) [.sh (.int d)]).bind (vb false)=_
 rw[ck (show some (decide (d<0))=_ by rw[Wp ⋯])]
 rfl
theorem uA(hl:names.length<=6)(s1:Slot):∀(xs:List Str) (acc:Int) (s3:Slot),(∀x∈xs,x∈names)->∃t,forL (bj 3) jJ (xs.map PV.str) [.sh (b0 names),s1,.sh (.int acc),s3]=⇑(.nx [.sh (b0 names),s1,.sh (.int (xs.foldl (λa x=>Builtin.bitOr a (1*2^dO x names)) acc)),t])
 |[],_,s3,_=>⟨s3,rfl⟩
 |x::xs,acc,s3,h=>by
  have hx:=h x (ZM ..)
  have hk:=nN hx
  obtain⟨t,e⟩:=uA hl s1 xs (Builtin.bitOr acc (1*2^dO x names)) (.sh (.str x)) λy hy=>h y (ZI _ hy)
  refine⟨t,(jM (i:=3) (x:=.str x) (xs:=xs.map PV.str) ?_).trans e⟩
  refine(ak ((ck (bB ((ai (x:=.str x) (y:=b0 names) rfl rfl).trans (yx hx)))).trans rfl)).trans ?_
  exact aH ((ai (x:=.int acc) rfl ((ai (x:=.int 1) rfl ((ai (x:=b0 names) (y:=.str x) rfl rfl).trans (yw hx))).trans (k7 ⋯))).trans rfl)
theorem Ey(hl:names.length<=6)(h:∀x∈xs,x∈names):cu [b0 names,.lst (xs.map PV.str)]=⇑(.int (xs.foldl (λa x=>Builtin.bitOr a (1*2^dO x names)) 0)):=by
 obtain⟨t,e⟩:=uA hl (.sh (.lst (xs.map PV.str))) xs 0 .un h
 exact b8 rfl ((ak (aH (p:=.int 0) rfl)).trans ((ak ((gN (cS rfl)).trans e)).trans (b5 rfl)))
variable{p:PV}
theorem rZ(h:a ρ=⇑p):lG a ρ=⇑(.nx ρ):=by
 unfold lG
 rw[h]
 rfl
theorem Ct(h:a ρ=⇑p)(hp:eX p=none):rn i a ρ=⇑(.nx (ρ.set i (.sh p))):=by
 unfold rn
 rw[h]
 show some (if(eX p).isSome=true then _ else _)=_
 rw[hp]
 rfl
theorem Cu{k:Nat}(h:a ρ=⇑(zK k)):rn i a ρ=⇑(.rt (zK k)):=by
 unfold rn
 rw[h]
 show some (if(eX (zK k)).isSome=true then _ else _)=_
 rw[pU]
 rfl
theorem Ay:((List.range 7).all λc=>(List.range (2^c)).all λg=>(Mt.j6 g).all λh=>decide (h<c))=true:=by decide+kernel
theorem yG(hl:names.length<=6){g:Nat}(hg:g<2^names.length):mm [b0 names,.int g]=⇑(.lst (((Mt.j6 g).map λh=>names.getD h ⟨#[]⟩).map PV.str)):=by
 have hh:∀h∈Mt.j6 g,h<names.length:=λh m=>PP (ZP.mp (ZP.mp (ZP.mp Ay _ (ZW.mpr ⋯)) g (ZW.mpr hg)) h m)
 have p:=jm hl
 refine b8 rfl ((ak ((ck (iT (b:=true) (bB ?_))).trans rfl)).trans (b5 ?_))
 ·unfold ni
  show(if(0:Int)<=g then((ag mM (dC (.int 1)) (bC cB (dV 0))) [.sh (b0 names),.sh (.int g)]).bind (λz=>(sH z).map λk=>PV.bl (decide ((g:Int)<k)))else ⇑(.bl false))=_
  rw[W1 ⋯,ai (ρ:=[.sh (b0 names),.sh (.int g)]) (x:=.int 1) (y:=.int (names.length:Nat)) rfl (by show some (PV.int ((names.map PV.str).length:Nat))=_;rw[ZD]),pZ _ hl]
  show some (PV.bl (decide ((g:Int)<(2^names.length:Nat))))=_
  rw[SZ ⋯]
 ·rw[Zp]
  exact rD (cS ((aG (ps:=[.int g]) rfl).trans (x9 g ⋯))) (Zd (YT ..) ∅) λh m=>(ai (x:=b0 names) (y:=.int h) rfl rfl).trans (gG PV.str (hh h m) ⟨#[]⟩)
structure Vs(v0 v1 v2:List PV):Prop where
 a:∀p∈v0,V0 p
 b:∀p∈v1,V1 p
 c:∀p∈v2,V2 p
section
variable(hl:names.length<=6)(V:Vs v0 v1 v2)(h0:0<=day)
include hl V h0
theorem OM(hx:∀x∈xs,x∈names):∃p,(p=zK 0\/∃b,p=.bl b)/\∀n k0 k1 k2,nM [.ins 5 [b0 names,n,.dct k0 v0,.dct k1 v1,.dct k2 v2],.int day,.lst (xs.map PV.str)]=⇑p:=by
 obtain⟨p,hp,ep⟩:=nO V.a day
 obtain⟨gs,g1,g2⟩:=lO V.b V.c (rs:=names.map PV.str) (by rw[ZD];exact hl) day
 rw[ZD]at g1
 have gr:=Ey hl hx
 generalize xs.foldl (λa x=>Builtin.bitOr a (1*2^dO x names)) 0=g at gr
 obtain⟨x,hr⟩:=yE (gs:=gs) ⋯ g
 have dy:∀{ρ},aP 1 ρ=⇑(.int day)->lG (aM cj (af (aP 1) aB)) ρ=⇑(.nx ρ):=λh=>rZ ((aG (av h rfl)).trans (v8 h0))
 rcases hp with rfl|⟨r,Q3,rfl⟩
 ·exact⟨_,.inl rfl,λn k0 k1 k2=>b8 rfl ((ak (dy rfl)).trans ((ak (aH ((aG (av ((br rfl).trans (jq ..)) (av (x:=.lst (xs.map PV.str)) rfl rfl))).trans gr))).trans (dQ (Cu ((dM (c:=5) (xs:=[.int day]) rfl rfl).trans (ep ..))))))⟩
 ·obtain⟨b,hb⟩:=yF r Q3.2 x
  refine⟨_,.inr ⟨b,rfl⟩,λn k0 k1 k2=>b8 rfl ((ak (dy rfl)).trans ((ak (aH ((aG (av ((br rfl).trans (jq ..)) (av (x:=.lst (xs.map PV.str)) rfl rfl))).trans gr))).trans ((ak (Ct ((dM (c:=5) (xs:=[.int day]) rfl rfl).trans (ep ..)) rfl)).trans ?_)))⟩
  show(aM bN _ _).bind _=_
  rw[aG (av (x:=aW r) rfl (av ((aG (av ((dM (c:=5) (xs:=[.int day]) rfl rfl).trans (g2 ..)) (av (x:=.int g) rfl rfl))).trans hr) rfl)),hb]
  rfl
theorem yH:∃p,(p=zK 0\/∃ls:List (List Str),p=.lst (ls.map λl=>.lst (l.map PV.str)))/\∀n k0 k1 k2,jL [.ins 5 [b0 names,n,.dct k0 v0,.dct k1 v1,.dct k2 v2],.int day]=⇑p:=by
 obtain⟨p,hp,ep⟩:=nO V.a day
 obtain⟨gs,g1,g2⟩:=lO V.b V.c (rs:=names.map PV.str) (by rw[ZD];exact hl) day
 rw[ZD]at g1
 have dy:∀{ρ},aP 1 ρ=⇑(.int day)->lG (aM cj (af (aP 1) aB)) ρ=⇑(.nx ρ):=λh=>rZ ((aG (av h rfl)).trans (v8 h0))
 rcases hp with rfl|⟨r,Q3,rfl⟩
 ·exact⟨_,.inl rfl,λn k0 k1 k2=>b8 rfl ((ak (dy rfl)).trans (dQ (Cu ((dM (c:=5) (xs:=[.int day]) rfl rfl).trans (ep ..)))))⟩
 have hX:∀g:Nat,∃b,∀s0 s1 s2,tV (aM bN (af (aP 3) (af (aM d5 (af (aP 4) (af (aP 0) aB))) aB))) [.sh (.int g),s0,s1,.sh (aW r),.sh (.lst (gs.map PV.int)),s2]=⇑b:=λg=>by
  obtain⟨x,hx⟩:=yE (gs:=gs) ⋯ (g:Int)
  obtain⟨b,hb⟩:=yF r Q3.2 x
  exact⟨b,λs0 s1 s2=>bB ((aG (av (x:=aW r) rfl (av ((aG (ps:=[.lst (gs.map PV.int),.int g]) rfl).trans hx) rfl))).trans hb)⟩
 obtain⟨b,hb⟩:=YY hX
 obtain⟨m,m1,m2,m3⟩:=yA (Cr hl b)
 refine⟨_,.inr ⟨m.map λg=>(Mt.j6 g).map λh=>names.getD h ⟨#[]⟩,rfl⟩,λn k0 k1 k2=>b8 rfl ((ak (dy rfl)).trans ((ak (Ct ((dM (c:=5) (xs:=[.int day]) rfl rfl).trans (ep ..)) rfl)).trans ((ak (aH ((dM (c:=5) (xs:=[.int day]) rfl rfl).trans (g2 ..)))).trans ((ak (aH (oD (cS ((aG (av ((rY (by rw[ZD];exact hl) rfl).trans (by rw[ZD])) rfl)).trans (ur hl))) (Zd (by rw[rE];exact jm hl) ∅) λg _=>hb g _ _ _))).trans ?_))))⟩
 unfold zL
 rw[rD (cS ((aG (ps:=[aW ((yd names.length).filter b)]) rfl).trans m3)) (Zd m1.2 ∅) λg hg=>(aG (av ((br rfl).trans (jq ..)) (av (x:=.int g) rfl rfl))).trans (yG hl (ye (YN.mp (m2 g hg)).1)),Zp]
 rfl
end
variable{S:Type}{f:Den}
section
variable{S':Type}{a b:b7 S}{w:S->bU->bU}{s s':S}{c:dg}
theorem a8(h:a s ρ=⇑(s',.nx ρ')):cV a b s ρ=b s' ρ':=by
 unfold cV
 rw[h]
 rfl
theorem p8(h:a s ρ=⇑(s',.rt p)):cV a b s ρ=⇑(s',.rt p):=by
 unfold cV
 rw[h]
 rfl
theorem nP(h:c (w s ρ)=⇑true):wy w c a b s ρ=a s ρ:=by
 unfold wy
 rw[h]
 rfl
theorem gL(h:c (w s ρ)=⇑false):wy w c a b s ρ=b s ρ:=by
 unfold wy
 rw[h]
 rfl
theorem r9(h:f (w s ρ)=⇑p)(hf:flat p=true):uf w i f s ρ=⇑(s,.nx (ρ.set i (.sh p))):=by
 unfold uf
 rw[h]
 show(if flat p=true then _ else none)=_
 rw[W1 hf]
theorem iJ(h:f (w s ρ)=⇑p)(hf:flat p=true):iR w f s ρ=⇑(s,.rt p):=by
 unfold iR
 rw[h]
 show(if flat p=true then _ else none)=_
 rw[W1 hf]
theorem lz(h:f (w s ρ)=⇑p):me w f s ρ=⇑(s,.nx ρ):=by
 unfold me
 rw[h]
 rfl
theorem Ic{l:List PV}(h:f (w s ρ)=⇑(.lst l))(hf:l.all flat=true):BC w i f s ρ=⇑(s,.nx (ρ.set i (.sh (.lst l)))):=by
 unfold BC
 rw[h]
 show(if l.all flat=true then _ else none)=_
 rw[W1 hf]
theorem jr(h:f ρ=⇑p):lK (S:=S) i f s ρ=⇑(s,.nx (ρ.set i (.sh p))):=by
 unfold lK
 rw[h]
 rfl
theorem dN{get:S->S'}{put:S->S'->S}{FF:S'->List PV->Option (S'×PV)}{fs:bZ}{t:S'}(h1:fs ρ=⇑ps)(h2:FF (get s) ps=⇑(t,p)):gJ get put FF fs s ρ=⇑(put s t,p):=by
 unfold gJ
 rw[h1]
 show((FF (get s) ps).map _)=_
 rw[h2]
 rfl
theorem jt{g:jS S}(h:g s ρ=⇑(s',p)):oY i g s ρ=⇑(s',.nx (ρ.set i (.sh p))):=by
 unfold oY
 rw[h]
 rfl
theorem jf{k m:Nat}(h:ps.length+m=k)(e:a s (List.replicate m .un++(ps.map Slot.sh++List.replicate (n-k) .un))=⇑(s',.rt p)):BF n k m a s ps=⇑(s',p):=by
 unfold BF
 rw[W1 h,e]
 rfl
end
theorem sk:∀{l:List Str},x∈l->l[dO x l]?=⇑x
 |[],h=>nomatch h
 |y::l,h=>by
  unfold dO
  by_cases e:y=x
  ·rw[W1 e,e]
   rfl
  ·rw[UF e,Nat.add_comm]
   exact sk ((Zc.mp h).resolve_left λz=>e z.symm)
variable{y:Str}
theorem Ie{l:List Str}(hx:x∈l)(hy:y∈l)(e:dO x l=dO y l):x=y:=by
 have:=sk hx
 rw[e,sk hy]at this
 exact(ZX this).symm
theorem Az(s:Bs):cU s []=⇑({s with n:=s.n+1},.int s.n):=by
 have e:s.n+1-1=s.n:=by omega
 refine jf rfl ((a8 (s':={s with n:=s.n+1}) rfl).trans (iJ (p:=.int s.n) ?_ rfl))
 show some (PV.int (s.n+1-1))=_
 rw[e]
def app(s:Bs)(k:Nat)(v:PV):Bs:=vD {s with n:=s.n+1} k (s.d k++[(s.n,v)])
variable{fi:Den}
theorem v9{k:Nat}{fv:Den}{s:Bs}{v:PV}(hv:fv ρ=⇑v)(hi:fi ρ=⇑(.int s.n))(h1:s.n∉(s.d k).map (·.1))(h2:(s.d k).length<5000):DV k fi fv {s with n:=s.n+1} ρ=⇑(app s k v,.nx ρ):=by
 have zl:(5000:Nat)<=sizeLine:=by decide
 unfold DV
 rw[hv]
 show((fi ρ).bind _)=_
 rw[hi]
 show(if s.n∉(s.d k).map (·.1)/\(s.d k).length<sizeLine then _ else none)=_
 rw[W1 ⟨h1,⋯⟩]
 rfl
theorem Cv{f l:Int}(h0:0<=f)(h1:f<=l):gO [.int f,.int l]=some .non:=by
 show((aU (lG (aM cj (af (aP 0) aB))) (gy (tV (ag EJ (dV 1) (dV 0))) fm bQ)) [.sh (.int f),.sh (.int l)]).bind (vb false)=_
 rw[ak (rZ ((aG (ps:=[.int f]) rfl).trans (v8 h0))),ck (show some (decide (l<f))=_ by rw[Wp ⋯])]
 rfl
section
variable(hl:names.length<=6){s:Bs}(hr:s.rl=b0 names)
include hl hr
theorem so(hx:x∈names)(hA:A (ρ.set 0 (.sh (sI s)))=⇑(.str x))(h0:dV 0 (ρ.set 0 (.sh (sI s)))=⇑(sI s)):aM cu (af (bC (cJ fK "roll") (dV 0)) (af (jh (af A aB)) aB)) (ρ.set 0 (.sh (sI s)))=⇑(.int ((2^dO x names:Nat):Int)):=by
 have hk:=nN hx
 rw[<-Md ⋯]
 exact(aG (av ((br h0).trans ((jq ..).trans (by rw[hr]))) (av (iU (av hA rfl) (by simp)) rfl))).trans (yy hx hl)
theorem Cw(hx:x∈names){f l:Int}(h0:0<=f)(h1:f<=l)(h2:s.n∉(s.d 1).map (·.1))(h3:(s.d 1).length<5000):lq s [.str x,.int f,.int l]=⇑(app s 1 (.tup [.int ((2^dO x names:Nat):Int),.int f,.int l]),.int s.n):=
 jf rfl ((a8 (r9 (so hl hr hx rfl rfl) rfl)).trans ((a8 (lz ((aG (ps:=[.int f,.int l]) rfl).trans (Cv h0 h1)))).trans ((a8 (jt (dN rfl (Az s)))).trans ((a8 (v9 (cm rfl (by simp)) rfl h2 h3)).trans (iJ rfl rfl)))))
theorem Ez(hx:x∈names)(hy:y∈names)(u6:x≠y){f l:Int}(h0:0<=f)(h1:f<=l)(h2:s.n∉(s.d 2).map (·.1))(h3:(s.d 2).length<5000):kE s [.str x,.str y,.int f,.int l]=⇑(app s 2 (.tup [.int ((2^dO x names:Nat):Int),.int ((2^dO y names:Nat):Int),.int f,.int l]),.int s.n):=
 jf rfl ((a8 (r9 (so hl hr hx rfl rfl) rfl)).trans ((a8 (r9 (so hl hr hy rfl rfl) rfl)).trans ((a8 ((gL (show some (decide (((2^dO x names:Nat):Int)=((2^dO y names:Nat):Int)))=_ from congrArg some (Wp λz=>u6 (Ie hx hy ((Nat.pow_right_inj (by decide:1<2)).mp (Int.ofNat.inj z)))))).trans rfl)).trans ((a8 (lz ((aG (ps:=[.int f,.int l]) rfl).trans (Cv h0 h1)))).trans ((a8 (jt (dN rfl (Az s)))).trans ((a8 (v9 (cm rfl (by simp)) rfl h2 h3)).trans (iJ rfl rfl)))))))
end
theorem Lc(hl:names.length<=6)(hN:∀x∈names,Rq.lD x){i:It}(h:K7 names i)(hd:i.d<=22)(ht:i.t.length<=50000):∃r,Sm r/\∀(s:Bs) (day:Int),s.rl=b0 names->0<=day->s.n∉(s.d 0).map (·.1)->(s.d 0).length<5000->oN s [.int day,.str i.t]=⇑(app s 0 (.tup [.int day,aW r]),.int s.n):=by
 obtain⟨r,r1,r2,c,l,r3,r4⟩:=Au hN hl h hd ht
 refine⟨r,r1,λs day hr h0 h2 h3=>jf rfl ((a8 (lz ((aG (ps:=[.int day]) rfl).trans (v8 h0)))).trans ((a8 (Ic (l:=pl r) ?_ (KL r))).trans ((a8 (jt (dN rfl (Az s)))).trans ((a8 (v9 (cm rfl (by simp)) rfl h2 h3)).trans (iJ rfl rfl)))))⟩
 have rl:∀{ρ:bU},dV 0 ρ=⇑(sI s)->bC (cJ fK "roll") (dV 0) ρ=⇑(b0 names):=λe=>(br e).trans ((jq ..).trans (by rw[hr]))
 rw[r3]at r2 r4
 exact(dM ((aG (av (rl rfl) (av (x:=.str i.t) rfl rfl))).trans r2) (av (rl rfl) rfl)).trans r4
structure En where
 e:PV
 k:Nat
 v:PV
abbrev Es:=List (Option En)
def eP:Option En->PV
 |some x=>x.e
 |none=>.non
def dk(k:Nat)(l:Es):List (Int×PV):=l.zipIdx.filterMap λp=>p.1.bind λx=>if x.k=k then ⇑(((p.2:Nat):Int),x.v)else none
def book(rl:PV)(l:Es):Bs:=⟨rl,(l.length:Nat),λk=>dk k l⟩
theorem Ig{k:Nat}{l:Es}{q:Int×PV}:q∈dk k l↔∃i x,l[i]?=⇑(some x)/\x.k=k/\q=(((i:Nat):Int),x.v):=by
 unfold dk
 rw[YA]
 constructor
 ·rintro⟨⟨o,i⟩,h1,h2⟩
  obtain⟨x,rfl,h2⟩:=ZA.mp h2
  obtain⟨h3,h4⟩:=aQ h2
  exact⟨i,x,Y3.mp h1,h3,h4.symm⟩
 ·rintro⟨i,x,h1,h2,rfl⟩
  exact⟨(⇑x,i),Y3.mpr h1,by show(if x.k=k then _ else _)=_;rw[W1 h2]⟩
theorem oP{k:Nat}{l:Es}:((i:Nat):Int)∈(dk k l).map (·.1)↔∃x,l[i]?=⇑(some x)/\x.k=k:=by
 rw[Zi]
 constructor
 ·rintro⟨q,h1,h2⟩
  obtain⟨j,x,h3,h4,rfl⟩:=Ig.mp h1
  have:j=i:=Int.ofNat.inj h2
  subst this
  exact⟨x,h3,h4⟩
 ·rintro⟨x,h1,h2⟩
  exact⟨_,Ig.mpr ⟨i,x,h1,h2,rfl⟩,rfl⟩
theorem Ih(k:Nat)(l:Es):(dk k l).length<=l.length:=by
 have:=List.length_filterMap_le (λp:Option En×Nat=>p.1.bind λx=>if x.k=k then ⇑(((p.2:Nat):Int),x.v)else none) l.zipIdx
 rw[List.length_zipIdx]at this
 exact this
theorem Ii(rl:PV)(l:Es)(x:En):app (book rl l) x.k x.v=book rl (l++[⇑x]):=by
 have e:∀j,dk j (l++[⇑x])=dk j l++if x.k=j then[(((l.length:Nat):Int),x.v)]else[]:=λj=>by
  unfold dk
  rw[List.zipIdx_append,z0N]
  congr 1
  show List.filterMap _ [(⇑x,0+l.length)]=_
  by_cases h:x.k=j
  ·simp[h]
  ·simp[h]
 unfold app vD book
 congr 1
 ·simp
 ·funext j
  rw[e]
  by_cases h:j=x.k
  ·rw[W1 h,W1 h.symm,h]
  ·rw[UF h,UF λz=>h z.symm,Zh]
theorem Ij(k i:Nat)(l:Es):dk k (l.set i none)=(dk k l).filter λq=>decide (q.1≠((i:Nat):Int)):=by
 have e:(l.set i none).zipIdx=l.zipIdx.map λp=>if p.2=i then(none,p.2)else p:=by
  refine z0R λj=>?_
  rw[Za,List.getElem?_zipIdx,List.getElem?_zipIdx,ZO]
  cases h:l[j]? with
  |none=>
   have:=List.getElem?_eq_none_iff.mp h
   split
   ·rw[UF ⋯];rfl
   ·rfl
  |some o=>
   have:=(ZL.mp h).1
   by_cases q:i=j
   ·rw[W1 q,W1 ⋯,YD,YD,YD,W1 ⋯]
   ·rw[UF q,YD,YD,UF ⋯]
 unfold dk
 rw[e,List.filterMap_map,List.filter_filterMap]
 refine congrArg (λf=>List.filterMap f _) (funext λp=>?_)
 obtain⟨o,j⟩:=p
 show(if j=i then(none,j)else(o,j)).1.bind _=_
 by_cases h:j=i
 ·rw[W1 h]
  subst h
  cases o with
  |none=>rfl
  |some x=>by_cases q:x.k=k<;>simp[q,Option.filter]
 ·rw[UF h]
  cases o with
  |none=>rfl
  |some x=>by_cases q:x.k=k<;>simp[q,h,Option.filter]<;>omega
def vals(k:Nat)(l:Es):List PV:=l.filterMap λo=>o.bind λx=>if x.k=k then ⇑x.v else none
theorem Ld(k:Nat)(l:Es):(dk k l).map (·.2)=vals k l:=by
 unfold dk vals
 rw[List.map_filterMap]
 conv=>rhs;rw[<-List.zipIdx_map_fst 0 l,List.filterMap_map]
 refine congrArg (λf=>List.filterMap f _) (funext λp=>?_)
 obtain⟨o,j⟩:=p
 cases o with
 |none=>rfl
 |some x=>by_cases q:x.k=k<;>simp[q]
theorem ia(k:Nat)(l:Es):vals k (l.filter Option.isSome)=vals k l:=by
 unfold vals
 rw[List.filterMap_filter]
 refine congrArg (λf=>List.filterMap f _) (funext λo=>?_)
 cases o<;>rfl
theorem Le{k:Nat}{s:Bs}{i:Int}(hi:fi ρ=⇑(.int i))(h:i∈(s.d k).map (·.1)):zW k fi s ρ=⇑(vD s k ((s.d k).filter λq=>decide (q.1≠i)),.nx ρ):=by
 unfold zW
 rw[hi]
 show(if i∈(s.d k).map (·.1)then _ else none)=_
 rw[W1 h]
theorem AA{a:b7 S}{k m:Nat}{s s':S}(h:ps.length+m=k)(e:a s (List.replicate m .un++(ps.map Slot.sh++List.replicate (n-k) .un))=⇑(s',.nx ρ')):BF n k m a s ps=⇑(s',.non):=by
 unfold BF
 rw[W1 h,e]
 rfl
theorem Ik(rl:PV){l:Es}{x:En}(h:l[i]?=⇑(some x)):vD (book rl l) x.k ((dk x.k l).filter λq=>decide (q.1≠((i:Nat):Int)))=book rl (l.set i none):=by
 unfold vD book
 congr 1
 ·rw[Zo]
 ·funext j
  by_cases q:j=x.k
  ·rw[W1 q,q,Ij]
  ·rw[UF q,Ij]
   refine(List.filter_eq_self.mpr λp hp=>?_).symm
   rw[Re]
   refine λz=>q ?_
   obtain⟨y,h1,h2⟩:=oP.mp (z▸List.mem_map_of_mem hp:((i:Nat):Int)∈(dk j l).map (·.1))
   rw[h]at h1
   cases h1
   exact h2.symm
theorem EA(rl:PV){l:Es}{x:En}(h:l[i]?=⇑(some x))(hk:x.k<3):kG (book rl l) [.int i]=⇑(book rl (l.set i none),.non):=by
 have k1:((i:Nat):Int)∈(dk x.k l).map (·.1):=oP.mpr ⟨x,h,rfl⟩
 have k2:∀j,j≠x.k->((i:Nat):Int)∉(dk j l).map (·.1):=λj hj z=>by
  obtain⟨y,h1,h2⟩:=oP.mp z
  rw[h]at h1
  cases h1
  exact hj h2.symm
 have T:∀{f:Str} {j:Nat} {w:bU},ag nj (dV 1) (bC (cJ fK f) (dV 0)) w=⇑(.bl (decide (((i:Nat):Int)∈(dk j l).map (·.1))))->j=x.k->tV (ag nj (dV 1) (bC (cJ fK f) (dV 0))) w=⇑true:=λe q=>bB (e.trans (by rw[SZ (q▸k1)]))
 have N:∀{f:Str} {j:Nat} {w:bU},ag nj (dV 1) (bC (cJ fK f) (dV 0)) w=⇑(.bl (decide (((i:Nat):Int)∈(dk j l).map (·.1))))->j≠x.k->tV (ag nj (dV 1) (bC (cJ fK f) (dV 0))) w=⇑false:=λe q=>bB (e.trans (by rw[Wp (k2 _ q)]))
 rw[<-Ik rl h]
 have P:∀{j:Nat} {ρ:bU},j=x.k->aP 1 ρ=⇑(.int i)->zW j (aP 1) (book rl l) ρ=⇑(vD (book rl l) x.k ((dk x.k l).filter λq=>decide (q.1≠((i:Nat):Int))),.nx ρ):=λq e=>by
  subst q
  exact Le e k1
 rcases(by omega:x.k=0\/x.k=1\/x.k=2)with q|q|q
 ·exact AA rfl ((nP (T (j:=0) rfl q.symm)).trans (P q.symm rfl))
 ·exact AA rfl ((gL (N (j:=0) rfl ⋯)).trans ((nP (T (j:=1) rfl q.symm)).trans (P q.symm rfl)))
 ·exact AA rfl ((gL (N (j:=0) rfl ⋯)).trans ((gL (N (j:=1) rfl ⋯)).trans ((nP (T (j:=2) rfl q.symm)).trans (P q.symm rfl))))
theorem yI(rl:PV){l:Es}(h:l[i]?=⇑none):iI [sI (book rl l),.int i]=⇑(.bl true):=by
 have k2:∀j,((i:Nat):Int)∉(dk j l).map (·.1):=λj z=>by
  obtain⟨y,h1,_⟩:=oP.mp z
  rw[h]at h1
  cases h1
 have N:∀{f:Str} {j:Nat} {w:bU},ag nj (dV 1) (bC (cJ fK f) (dV 0)) w=⇑(.bl (decide (((i:Nat):Int)∈(dk j l).map (·.1))))->tV (ag nj (dV 1) (bC (cJ fK f) (dV 0))) w=⇑false:=λe=>bB (e.trans (by rw[Wp (k2 _)]))
 have e:gT [sI (book rl l),.int i]=⇑(zK 1):=b8 rfl ((ck (N (j:=0) rfl)).trans ((ck (N (j:=1) rfl)).trans ((ck (N (j:=2) rfl)).trans rfl)))
 refine b8 rfl ((ak (aH (p:=.bl false) rfl)).trans ((ak (ρ':=[.sh (sI (book rl l)),.sh (.int i),.sh (.bl true)]) ?_).trans rfl))
 unfold G8
 rw[(dM (c:=5) (xs:=[.int i]) rfl rfl).trans e]
 rfl
theorem md{a:Int}(h:A ρ=⇑(.int a))(n:Int)(hn:0<n:=by decide):ag bT A (dC (.int n)) ρ=⇑(.int (a % n)):=(ai h rfl).trans (fE a hn)
theorem dv{a:Int}(h:A ρ=⇑(.int a))(n:Int)(hn:0<n:=by decide)(h2:n<1073741824:=by decide):ag ja A (dC (.int n)) ρ=⇑(.int (a/n)):=(ai h rfl).trans (Hg a hn h2)
theorem RC(x y:Str):Txt.join (", " :Str) [x,y]=x++((", " :Str)++y):=by
 rw[<-uu]
 rfl
theorem getD_mem{l:List Str}{a:Nat}(h:a<l.length):l.getD a x∈l:=by
 rw[ZU,ZG h]
 exact Z8 h
theorem wa(f:α->PV){l:List α}(h1:1<=l.length)(d:α)(c:Int):∃a,a<l.length/\c %(l.length:Nat)=(a:Nat)/\bT (.int c) (.int (l.map f).length)=⇑(.int (a:Nat))/\itemAt (l.map f) (a:Nat)=⇑(f (l.getD a d)):=by
 obtain⟨a,a1,a2⟩:=jG c l.length ⋯
 exact⟨a,a1,a2,by rw[ZD,fE c ⋯,a2],gG f a1 d⟩
theorem Me(h1:1<=names.length){B:Den}{c:Int}(hA:A ρ=⇑(.int c))(hB:B ρ=⇑(b0 names)):∃x,x∈names/\ag c9 B (ag bT A (bC cB B)) ρ=⇑(.str x):=by
 obtain⟨a,a1,_,a2,a3⟩:=wa PV.str h1 ⟨#[]⟩ c
 exact⟨_,getD_mem (x:=⟨#[]⟩) a1,(ai (g:=c9) hB ((ai (g:=bT) hA (br (g:=cB) hB)).trans a2)).trans a3⟩
theorem wb(n d a:Nat):zt n d ⇑((a:Nat):Int)=min a n:=by
 show(if(a:Int)<0 then((a:Int)+(n:Nat)).toNat else min (a:Int).toNat n)=_
 rw[UF ⋯,Zu]
theorem ON{l:List α}{a b:Nat}(h:a<=b)(hb:b<=l.length):(kb l ⇑((a:Nat):Int) ⇑((b:Nat):Int)).length=b-a:=by
 unfold kb
 rw[wb,wb,Z4,Z5]
 omega
variable{ns:List Int}
theorem UB{k:Nat}(h:k<ns.length)(e:A ρ=⇑(.lst (ns.map PV.int))):ag c9 A (dC (.int (k:Nat))) ρ=⇑(.int (ns.getD k 0)):=(ai (g:=c9) (y:=.int (k:Nat)) e rfl).trans (gG PV.int h 0)
structure Pt(names:List Str)(i:It):Prop where
 ok:K7 names i
 d:i.d<=1
 t:i.t.length<=60
 p:tupP 8 i.s=true
 q:tupP 10 i.s=true
def Iq(i:It):PV:=.tup [i.s,.str i.t]
theorem yJ:("all" :Str)++("(" :Str)=("all(" :Str)/\("any" :Str)++("(" :Str)=("any(" :Str)/\("all(" :Str).length=4/\("any(" :Str).length=4/\("all" :Str).length=3/\("any" :Str).length=3/\("(" :Str).length=1/\vZ.length=2/\Cp.length=1/\(" of (" :Str).length=5:=by decide+kernel
section
variable(h1:1<=names.length)(hl:names.length<=6)(hO:∀x∈names,x.length<=20)(hN:∀x∈names,Rq.lD x)
include h1 hl hO hN
theorem Lf(c:Int):∃i,Pt names i/\cW [.int c,b0 names]=⇑(Iq i):=by
 obtain⟨l1,l2,_,_,l5,l6,_,_,_,_⟩:=yJ
 obtain⟨x,hx,ex⟩:=Me h1 (A:=dV 0) (B:=dV 1) (ρ:=[.sh (.int c),.sh (b0 names),.un,.un,.un,.un]) rfl rfl
 obtain⟨y,hy,ey⟩:=Me h1 (A:=ag ja (dV 0) (dC (.int 33))) (B:=dV 1) (ρ:=[.sh (.int c),.sh (b0 names),.sh (.str x),.un,.un,.un]) (dv rfl 33) rfl
 have Yd:=hO x hx
 have Ye:=hO y hy
 have B:=VI hN hl
 by_cases q:0<c/11 % 3
 ·refine⟨⟨.ins 0 [.str x],.tup [.str "hand",.str x],x,0⟩,⟨B.hand x hx,Zm _,by show x.length<=60;omega,rfl,rfl⟩,b8 rfl ((ak (aH ex)).trans (dQ ((gg (bB ((ai (md (dv rfl 11) 3) rfl).trans ?_))).trans (b5 (cm (av (cm rfl (by simp)) rfl) (by simp))))))⟩
  show some (PV.bl (decide (0<c/11 % 3)))=_
  rw[SZ q]
 have F:∀(w:Str) (o:PV),w.length=3->K7 names ⟨o,.tup [.str w,.tup [.tup [.str "hand",.str x],.tup [.str "hand",.str y]]],(w++("(" :Str))++(Jn [⟨.ins 0 [.str x],.tup [.str "hand",.str x],x,0⟩,⟨.ins 0 [.str y],.tup [.str "hand",.str y],y,0⟩]++Cp),1+0⟩->c9 (.lst [.str "all",.str "any"]) (.int (c/200 % 2))=⇑(.str w)->∃i,Pt names i/\cW [.int c,b0 names]=⇑(Iq i):=λw o hw ho ew=>by
  have tx:((((w++("(" :Str))++x)++vZ)++y)++Cp=(w++("(" :Str))++(Txt.join vZ [x,y]++Cp):=by
   simp only[RC,uu]
  refine⟨_,⟨ho,ZK 1,?_,rfl,rfl⟩,b8 rfl ((ak (aH ex)).trans ((ak ((ck (bB ((ai (md (dv rfl 11) 3) rfl).trans ?_))).trans rfl)).trans ((ak (aH ey)).trans ((ak (aH ((ai (iU rfl (by simp)) (md (dv rfl 200) 2)).trans ew))).trans ((ak (aH (cm (av (cm rfl (by simp)) (av (cm rfl (by simp)) rfl)) (by simp)))).trans (b5 (cm (av (cm rfl (by simp)) (av ?_ rfl)) (by simp))))))))⟩
  ·show((w++("(" :Str))++(Txt.join vZ [x,y]++Cp)).length<=60
   rw[<-tx]
   simp only[dA]
   omega
  ·show some (PV.bl (decide (0<c/11 % 3)))=_
   rw[Wp q]
  ·show _=⇑(PV.str ((w++("(" :Str))++(Txt.join vZ [x,y]++Cp)))
   rw[<-tx]
   refine(ai ((ai ((ai ((ai ((ai (x:=.str w) rfl rfl).trans (dI _ _ ?_)) (y:=.str x) rfl).trans (dI _ _ ?_)) rfl).trans (dI _ _ ?_)) (y:=.str y) rfl).trans (dI _ _ ?_)) rfl).trans (dI _ _ ?_)<;>(try simp only[dA])<;>omega
 have hi:∀i∈([⟨.ins 0 [.str x],.tup [.str "hand",.str x],x,0⟩,⟨.ins 0 [.str y],.tup [.str "hand",.str y],y,0⟩]:List It),K7 names i/\i.d<=0:=λi h=>by
  rcases Zc.mp h with rfl|h
  ·exact⟨B.hand x hx,ZK 0⟩
  ·rw[Zl.mp h]
   exact⟨B.hand y hy,ZK 0⟩
 have hw:wt [⟨.ins 0 [.str x],.tup [.str "hand",.str x],x,0⟩,⟨.ins 0 [.str y],.tup [.str "hand",.str y],y,0⟩]<=50000:=by
  rw[B9,Ox]
  show x.length+2+(y.length+2)<=50000
  omega
 obtain⟨a,_,a2⟩:=jG (c/200) 2 ∅
 rcases(by omega:a=0\/a=1)with rfl|rfl
 ·exact F "all" _ l5 (by rw[l1];exact B.all _ 0 (by simp) (by simp) hw hi) (by rw[show c/200 % 2=0 from a2];rfl)
 ·exact F "any" _ l6 (by rw[l2];exact B.any _ 0 (by simp) (by simp) hw hi) (by rw[show c/200 % 2=1 from a2];rfl)
theorem AB(h6:ns.length=6):∃i,K7 names i/\i.d<=2/\i.t.length<=1000/\tupP 10 i.s=true/\eK [.lst (ns.map PV.int),b0 names]=⇑(Iq i):=by
 obtain⟨_,_,_,_,_,_,_,_,_,_⟩:=yJ
 obtain⟨P,hP⟩:=YY (Lf h1 hl hO hN)
 have B:=VI hN hl
 generalize hc:ns.getD 0 0=c
 have ix:∀{ρ:bU},dV 0 ρ=⇑(.lst (ns.map PV.int))->ag c9 (dV 0) (dC (.int 0)) ρ=⇑(.int c):=λe=>(UB (k:=0) ⋯ e).trans (by rw[hc])
 obtain⟨m,_,m2⟩:=jG c 4 ∅
 have cl:=ON (l:=ns) (a:=1) (b:=2+m) ⋯ ⋯
 have sl:LH (dV 0) (cL (dC (.int 1))) (cL (ag bP (dC (.int 2)) (ag bT (ag c9 (dV 0) (dC (.int 0))) (dC (.int 4))))) [.sh (.lst (ns.map PV.int)),.sh (b0 names),.un,.un,.un,.un]=⇑(.lst ((kb ns (some ((1:Nat):Int)) (some ((2+m:Nat):Int))).map PV.int)):=by
  refine(Ag (a:=some 1) (b:=⇑(2+m:Int)) rfl rfl ?_).trans (by rw[v5];rfl)
  show((ag bP _ _ _).bind _)=_
  rw[ai (x:=.int 2) rfl (md (ix rfl) 4),show c % 4=m from m2]
  rfl
 generalize kb ns ⇑((1:Nat):Int) ⇑((2+m:Nat):Int)=cs at cl sl
 have e2:=ky (e:=aM cW (af (aP 0) (af (aP 2) aB))) PV.int (λc=>Iq (P c)) (cS sl) ⋯ λd _=>(aG (ps:=[.int d,b0 names]) rfl).trans (hP d).2
 have w1:∀ds:List Int,wt (ds.map P)<=62*ds.length:=λds=>by
  induction ds with
  |nil=>exact ZK 0
  |cons d ds ih=>
   rw[ZV,B9,ZJ]
   have:=(hP d).1.t
   omega
 have w2:=w1 cs
 have hi:∀i∈cs.map P,K7 names i/\i.d<=1:=λi h=>by
  obtain⟨d,_,rfl⟩:=Zi.mp h
  exact⟨(hP d).1.ok,(hP d).1.d⟩
 have n0:cs.map P≠[]:=λz=>by
  have:=congrArg List.length z
  rw[ZD,cl]at this
  exact absurd this (by simp)
 have n8:(cs.map P).length<=4:=by rw[ZD];omega
 have tp:tupP 9 (.tup ((cs.map P).map It.s))=true:=ZP.mpr λp h=>by
  rw[Zp]at h
  obtain⟨d,_,rfl⟩:=Zi.mp h
  exact(hP d).1.p
 have jl:=Ry (cs.map P)
 have e4:∀{ρ:bU},dV 2 ρ=⇑(.lst (cs.map λc=>Iq (P c)))->ag bP (ag xm (dC (.str ", ")) (bV (nList (dV 2)) cM (ag c9 (dV 0) (dC (.int 1))))) (dC (.str ")")) ρ=⇑(.str (Jn (cs.map P)++Cp)):=λe=>by
  refine(ai ((ai rfl (ky (λc=>Iq (P c)) (λc=>.str (P c).t) (cS e) ⋯ λd _=>rfl)).trans ((congrArg (xm _∘PV.lst) (show _=((cs.map P).map It.t).map PV.str by rw[Zp,Zp];rfl)).trans (Ed vZ _ ?_))) rfl).trans (dI _ _ ?_)
  ·rw[HQ];omega
  ·show(Jn (cs.map P)).length+Cp.length<=100000
   omega
 have e3:∀{ρ:bU},dV 2 ρ=⇑(.lst (cs.map λc=>Iq (P c)))->bC qz (bV (nList (dV 2)) cM (ag c9 (dV 0) (dC (.int 0)))) ρ=⇑(.tup ((cs.map P).map It.s)):=λe=>(br (ky (λc=>Iq (P c)) (λc=>(P c).s) (cS e) ⋯ λd _=>rfl)).trans (by rw[Zp];rfl)
 have T:∀{ρ:bU} {j:Int},dV 0 ρ=⇑(.lst (ns.map PV.int))->tV (ag ip (ag bT (ag ja (ag c9 (dV 0) (dC (.int 0))) (dC (.int 4))) (dC (.int 4))) (dC (.int j))) ρ=⇑(decide (c/4 % 4=j)):=λe=>bB ((ai (md (dv (ix e) 4) 4) rfl).trans rfl)
 have N:∀{ρ:bU} {j:Int},c/4 % 4≠j->dV 0 ρ=⇑(.lst (ns.map PV.int))->tV (ag ip (ag bT (ag ja (ag c9 (dV 0) (dC (.int 0))) (dC (.int 4))) (dC (.int 4))) (dC (.int j))) ρ=⇑false:=λq e=>(T e).trans (by rw[Wp q])
 have Y:∀{ρ:bU} {j:Int},c/4 % 4=j->dV 0 ρ=⇑(.lst (ns.map PV.int))->tV (ag ip (ag bT (ag ja (ag c9 (dV 0) (dC (.int 0))) (dC (.int 4))) (dC (.int 4))) (dC (.int j))) ρ=⇑true:=λq e=>(T e).trans (by rw[SZ q])
 have D:∀w:Str,w.length<=10->(w++(Jn (cs.map P)++Cp)).length<=1000:=λw h=>by
  rw[dA,dA]
  omega
 have A:∀{w:Str} {f:Den} {ρ:bU},w.length<=10->f ρ=⇑(.str w)->dV 4 ρ=⇑(.str (Jn (cs.map P)++Cp))->ag bP f (dV 4) ρ=⇑(.str (w++(Jn (cs.map P)++Cp))):=λ{w f ρ} h e1 e2=>(ai e1 e2).trans (dI _ _ (by have:=D w h;rw[dA]at this;omega))
 by_cases q0:c/4 % 4=0
 ·exact⟨_,B.all _ 1 n0 ⋯ ⋯ hi,ZK 2,D _ ⋯,(Wh _).trans tp,b8 rfl ((ak (aH e2)).trans ((ak (aH (e3 rfl))).trans ((ak (aH (e4 rfl))).trans (dQ ((gg (Y q0 rfl)).trans (b5 (cm (av (cm rfl (by simp)) (av (A ⋯ rfl rfl) rfl)) (by simp))))))))⟩
 by_cases q1:c/4 % 4=1
 ·exact⟨_,B.any _ 1 n0 ⋯ ⋯ hi,ZK 2,D _ ⋯,(Wh _).trans tp,b8 rfl ((ak (aH e2)).trans ((ak (aH (e3 rfl))).trans ((ak (aH (e4 rfl))).trans ((ak ((ck (N q0 rfl)).trans rfl)).trans (dQ ((gg (Y q1 rfl)).trans (b5 (cm (av (cm rfl (by simp)) (av (A ⋯ rfl rfl) rfl)) (by simp)))))))))⟩
 by_cases q2:c/4 % 4=2
 ·obtain⟨k,_,_,k2,_⟩:=wa (λc=>Iq (P c)) (l:=cs) ⋯ 0 (c/16)
  have k8:=OG (m:=1+k) ⋯
  have kl:((toString ((1+k:Nat):Int):Str)++(" of (" :Str)).length<=10:=by
   rw[dA]
   omega
  refine⟨_,B.some _ 1 (1+k) n0 ⋯ ⋯ hi ⋯ (by rw[ZD];omega),ZK 2,D _ kl,(Wh _).trans tp,b8 rfl ((ak (aH e2)).trans ((ak (aH (e3 rfl))).trans ((ak (aH (e4 rfl))).trans ((ak ((ck (N q0 rfl)).trans rfl)).trans ((ak ((ck (N q1 rfl)).trans rfl)).trans (dQ ((gg (Y q2 rfl)).trans ((ak (aH (p:=.int ((1+k:Nat):Int)) ?_)).trans (b5 (cm (av (cm rfl (by simp)) (av (A kl ?_ rfl) rfl)) (by simp)))))))))))⟩
  ·refine(ai (x:=.int 1) rfl ((ai (dv (ix rfl) 16) rfl).trans k2)).trans ?_
   show some (PV.int (1+(k:Int)))=_
   rw[Int.natCast_add]
   rfl
  ·refine(ai ((br (x:=.int ((1+k:Nat):Int)) rfl).trans ?_) rfl).trans (dI _ _ (by rw[dA]at kl;omega))
   show(if decide (((1+k:Nat):Int).natAbs<1000000)then ⇑(PV.str (toString ((1+k:Nat):Int)))else none)=_
   rw[W1 (SZ ⋯)]
 ·refine⟨P (cs.getD 0 0),(hP _).1.ok,Nat.le_succ_of_le (hP _).1.d,Zd (hP _).1.t ∅,(hP _).1.q,b8 rfl ((ak (aH e2)).trans ((ak (aH (e3 rfl))).trans ((ak (aH (e4 rfl))).trans ((ak ((ck (N q0 rfl)).trans rfl)).trans ((ak ((ck (N q1 rfl)).trans rfl)).trans ((ak ((ck (N q2 rfl)).trans rfl)).trans (b5 ((ai (x:=.lst (cs.map λc=>Iq (P c))) (y:=.int 0) rfl rfl).trans (gG _ (k:=0) ⋯ 0)))))))))⟩
end
theorem AD:("away" :Str)≠ "strike" /\("deputy" :Str)≠ "strike" /\("rule" :Str)≠ "strike" /\("away" :Str)≠ "deputy" /\("rule" :Str)≠ "deputy" /\("rule" :Str)≠ "away" :=by decide+kernel
structure IQ(rl:PV)(x:En):Prop where
 v:x.k=0/\V0 x.v\/x.k=1/\V1 x.v\/x.k=2/\V2 x.v
 t:∃y ps,x.e=.tup (.str y::ps)/\y≠ "strike"
 p:tupP 12 x.e=true
 d:∀s:Bs,s.rl=rl->s.n∉(s.d x.k).map (·.1)->(s.d x.k).length<5000->gc s [rl,x.e]=⇑(app s x.k x.v,.int s.n)
theorem XX(p:PV)(l:List PV):c9 (.tup (p::l)) (.int 0)=⇑p:=by
 show itemAt (p::l) 0=_
 unfold itemAt LG
 rw[ZJ,W1 ⋯,W1 ⋯]
 rfl
theorem Cy{z:Str}{w:bU}(h:A w=⇑(.tup (.str y::ps))):tV (ag ip (ag c9 A (dC (.int 0))) (dC (.str z))) w=⇑(decide (y=z)):=bB ((ai ((ai h rfl).trans (XX ..)) rfl).trans rfl)
theorem wc{w:bU}(h:A w=⇑(.tup (.str y::ps))):tV (ag ip (ag c9 A (dC (.int 0))) (dC (.str y))) w=⇑true:=(Cy h).trans (by rw[SZ rfl])
theorem mq{z:Str}(q:y≠z){w:bU}(h:A w=⇑(.tup (.str y::ps))):tV (ag ip (ag c9 A (dC (.int 0))) (dC (.str z))) w=⇑false:=(Cy h).trans (by rw[Wp q])
theorem nQ{g:jS S}{s s':S}(h:g s ρ=⇑(s',p)):qX g s ρ=⇑(s',.rt p):=by
 unfold qX
 rw[h]
 rfl
variable{h:Nat}
section
variable(hl:names.length<=6)
include hl
theorem Lg(hh:h<names.length){f l:Int}(h0:0<=f)(h1:f<=l):∃v,IQ (b0 names) ⟨.tup [.str "away",.int h,.int f,.int l],1,v⟩:=by
 obtain⟨n1,_,_,n4,_,_⟩:=AD
 refine⟨_,.inr (.inl ⟨rfl,_,_,_,rfl⟩),⟨_,_,rfl,n1⟩,rfl,λs hr h2 h3=>jf rfl ((a8 ((gL (mq n1 rfl)).trans rfl)).trans ((a8 ((gL (mq n4 rfl)).trans rfl)).trans (p8 ((nP (wc rfl)).trans (nQ (dN (av ((ai (x:=b0 names) (y:=.int h) rfl rfl).trans (gG PV.str hh ⟨#[]⟩)) rfl) (Cw hl hr (getD_mem hh) h0 h1 h2 h3)))))))⟩
theorem EB{g:Nat}(hh:h<names.length)(hg:g<names.length)(u6:h≠g)(hd:names.Nodup){f l:Int}(h0:0<=f)(h1:f<=l):∃v,IQ (b0 names) ⟨.tup [.str "deputy",.int h,.int g,.int f,.int l],2,v⟩:=by
 obtain⟨_,n2,_,_,_,_⟩:=AD
 refine⟨_,.inr (.inr ⟨rfl,_,_,_,_,rfl⟩),⟨_,_,rfl,n2⟩,rfl,λs hr h2 h3=>jf rfl ((a8 ((gL (mq n2 rfl)).trans rfl)).trans (p8 ((nP (wc rfl)).trans (nQ (dN (av ((ai (x:=b0 names) (y:=.int h) rfl rfl).trans (gG PV.str hh ⟨#[]⟩)) (av ((ai (x:=b0 names) (y:=.int g) rfl rfl).trans (gG PV.str hg ⟨#[]⟩)) rfl)) (Ez hl hr (getD_mem hh) (getD_mem hg) (λz=>u6 ?_) h0 h1 h2 h3))))))⟩
 rw[ZU,ZU,ZG hh,ZG hg]at z
 have pw:=z0U.mp hd
 rcases Nat.lt_trichotomy h g with q|q|q
 ·exact absurd z (pw h g hh hg q)
 ·exact q
 ·exact absurd z.symm (pw g h hg hh q)
theorem Lh(hN:∀x∈names,Rq.lD x){i:It}(h:K7 names i)(hd:i.d<=2)(ht:i.t.length<=1000)(hp:tupP 10 i.s=true)(h0:0<=day):∃v,IQ (b0 names) ⟨.tup [.str "rule",.int day,Iq i],0,v⟩:=by
 obtain⟨_,_,n3,_,n5,n6⟩:=AD
 obtain⟨r,r1,r2⟩:=Lc hl hN h ⋯ ⋯
 refine⟨_,.inl ⟨rfl,_,r,rfl,r1⟩,⟨_,_,rfl,n3⟩,?_,λs hr h2 h3=>jf rfl ((a8 ((gL (mq n3 rfl)).trans rfl)).trans ((a8 ((gL (mq n5 rfl)).trans rfl)).trans ((a8 ((gL (mq n6 rfl)).trans rfl)).trans (nQ (dN rfl (r2 s day hr h0 h2 h3))))))⟩
 show(true&&(true&&((tupP 10 i.s&&(true&&true))&&true)))=true
 rw[hp]
 rfl
end
def live(l:Es):List Nat:=(List.range l.length).filter λk=>(l.getD k none).isSome
theorem Li{l:Es}(h:l.length<=100)(he:∀x,⇑x∈l->x.e≠.non):iH [.lst (l.map eP)]=⇑(aW (live l)):=by
 refine fZ rfl (oD ((kq (j:=(l.length:Nat)) ?_ (G9 ⋯)).trans (by rw[Zu,iE])) (Zd (by rw[Zk];exact h) ∅) λk hk=>bB ((br ((ai (x:=.lst (l.map eP)) (y:=.int k) rfl rfl).trans (gG eP (ZW.mp hk) none))).trans ?_))
 ·show some (PV.int ((l.map eP).length:Nat))=_
  rw[ZD]
 ·have hk:=ZW.mp hk
  rw[ZU,ZG hk]
  show mP (eP l[k])=⇑(.bl l[k].isSome)
  cases e:l[k]with
  |none=>rfl
  |some x=>
   have:=he x (e▸Z8 hk)
   show mP x.e=⇑(.bl true)
   cases q:x.e<;>first|rfl|exact absurd q this
theorem Lj(a:Int)(t:Bool):j8 (.int a) (.int (if t then 1 else 0))=⇑(.int (a*if t then 1 else 0)):=by
 show(if mL a (if t then 1 else 0)then _ else none)=_
 rw[W1 (by unfold mL;cases t<;>simp)]
theorem Lk{b:Nat}(hh:h<n)(hb:b<n-1):∃g,g<n/\h≠g/\((h:Int)+1+(b:Int)) %(n:Nat)=((g:Nat):Int):=by
 refine⟨(h+1+b) % n,Nat.mod_lt _ ⋯,?_,by rw[Int.natCast_emod];rfl⟩
 rcases z0V (h+1+b) n with q|q
 ·rw[Nat.mod_eq_of_lt q]
  omega
 ·rw[Nat.mod_eq_sub_mod q,Nat.mod_eq_of_lt ⋯]
  omega
variable{base:Int}
section
variable(h1:1<=names.length)(hl:names.length<=6)(hO:∀x∈names,x.length<=20)(hN:∀x∈names,Rq.lD x)(hd:names.Nodup)
include h1 hl hO hN hd
theorem entry_eq{l:Es}(h:l.length<=100)(he:∀x,⇑x∈l->x.e≠.non)(VJ:ns.length=12)(hb:0<=base):
  (∃i x,l[i]?=⇑(some x)/\gp [.lst (l.map eP),b0 names,.lst (ns.map PV.int),.int base]=⇑(.tup [.str "strike",.int ((i:Nat):Int)]))\/
  ∃x,IQ (b0 names) x/\gp [.lst (l.map eP),b0 names,.lst (ns.map PV.int),.int base]=⇑x.e:=by
 have X:∀{ρ:bU} (k:Nat),k<12->dV 2 ρ=⇑(.lst (ns.map PV.int))->ag c9 (dV 2) (dC (.int (k:Nat))) ρ=⇑(.int (ns.getD k 0)):=λk _ e=>UB ⋯ e
 obtain⟨VL,a1,_,a2,_⟩:=wa PV.str h1 ⟨#[]⟩ (ns.getD 3 0)
 have ln:∀{ρ:bU},dV 1 ρ=⇑(b0 names)->bC cB (dV 1) ρ=⇑(.int (names.length:Nat)):=λe=>(br e).trans (by show some (PV.int ((names.map PV.str).length:Nat))=_;rw[ZD])
 have hf:=Zz (ns.getD 1 0) (show(12:Int)≠0 by decide)
 have Yg:=Zz (ns.getD 1 0) (show(9:Int)≠0 by decide)
 have hg:=Zz (ns.getD 2 0) (show(6:Int)≠0 by decide)
 have e6:∀{ρ:bU} {f:Int},dV 2 ρ=⇑(.lst (ns.map PV.int))->dV 5 ρ=⇑(.int f)->∃L,f<=L/\ag bP (ag bP (dV 5) (ag bT (ag c9 (dV 2) (dC (.int 2))) (dC (.int 6)))) (ag j8 (ag JE (dC (.int 10)) (dC (.int 40))) (bC BU (ag ip (ag bT (ag ja (ag c9 (dV 2) (dC (.int 2))) (dC (.int 6))) (dC (.int 8))) (dC (.int 1))))) ρ=⇑(.int L):=λ{ρ f} e e'=>by
  refine⟨f+ns.getD 2 0 % 6+10^40*(if decide (ns.getD 2 0/6 % 8=1)=true then 1 else 0),?_,(ai (g:=bP) ((ai (g:=bP) e' (md (X 2 ∅ e) 6)).trans rfl) ((ai (x:=.int (10^40)) ?_ (br (g:=BU) (x:=.bl (decide (ns.getD 2 0/6 % 8=1))) ((ai (g:=ip) (y:=.int 1) (md (dv (X 2 ∅ e) 6) 8) rfl).trans rfl))).trans (Lj _ (decide (ns.getD 2 0/6 % 8=1))))).trans rfl⟩
  ·have:(0:Int)<=10^40*(if decide (ns.getD 2 0/6 % 8=1)=true then 1 else 0):=by split<;>decide
   omega
  ·show(if j9 10 40 then ⇑(PV.int (10^(40:Int).toNat))else none)=_
   rw[W1 ∅]
   rfl
 obtain⟨L,hL,e6⟩:=e6 (ρ:=[.sh (.lst (l.map eP)),.sh (b0 names),.sh (.lst (ns.map PV.int)),.sh (.int base),.sh (.int (names.length:Nat)),.sh (.int (base+ns.getD 1 0 % 12)),.un,.un,.un]) rfl rfl
 have G:∀{p:PV},(_:Option Fl)=⇑(.rt p)->gp [.lst (l.map eP),b0 names,.lst (ns.map PV.int),.int base]=⇑p:=λe=>b8 rfl ((ak (aH (ln rfl))).trans ((ak (aH ((ai (x:=.int base) rfl (md (X 1 ∅ rfl) 12)).trans rfl))).trans ((ak (aH e6)).trans ((ak (aH ((ai (X 3 ∅ rfl) (y:=.int ((names.map PV.str).length:Nat)) (by rw[ZD];rfl)).trans a2))).trans ((ak (aH ((aG (ps:=[.lst (l.map eP)]) rfl).trans (Li h he)))).trans e)))))
 have T6:∀{ρ:bU},dV 2 ρ=⇑(.lst (ns.map PV.int))->ag bT (ag c9 (dV 2) (dC (.int 0))) (dC (.int 6)) ρ=⇑(.int (ns.getD 0 0 % 6)):=λe=>md (X 0 ∅ e) 6
 have hS:∃b,∀{ρ:bU},dV 2 ρ=⇑(.lst (ns.map PV.int))->dV 8 ρ=⇑(aW (live l))->(mD (tV (ag ip (ag bT (ag c9 (dV 2) (dC (.int 0))) (dC (.int 6))) (dC (.int 5)))) (tV (ag jY (dV 8) (jh aB)))) ρ=⇑b/\(b=true->live l≠[]):=by
  by_cases q:ns.getD 0 0 % 6=5
  ·exact⟨!decide (live l=[]),λe e'=>⟨(rB (bB ((ai (T6 e) rfl).trans (by show some (PV.bl (decide (ns.getD 0 0 % 6=5)))=_;rw[SZ q])))).trans (bB ((ai e' (iU rfl (by simp))).trans (Oo (live l) []))),λz=>by simpa using z⟩⟩
  ·exact⟨false,λe e'=>⟨vL (bB ((ai (T6 e) rfl).trans (by show some (PV.bl (decide (ns.getD 0 0 % 6=5)))=_;rw[Wp q]))),λz=>by cases z⟩⟩
 have gt:∀{A:Den} {ρ:bU} {a k:Int},A ρ=⇑(.int a)->tV (ag LF A (dC (.int k))) ρ=⇑(decide (k<a)):=λe=>bB ((ai e rfl).trans rfl)
 obtain⟨b,hS⟩:=hS
 cases b with
 |true=>
  have n0:=(hS (ρ:=[.un,.un,.sh (.lst (ns.map PV.int)),.un,.un,.un,.un,.un,.sh (aW (live l))]) rfl rfl).2 rfl
  obtain⟨a,k1,_,k2,k3⟩:=wa (λn:Nat=>PV.int n) (l:=live l) (by cases q:live l;exact absurd q n0;simp) 0 (ns.getD 5 0)
  obtain⟨i1,i2⟩:=YN.mp (show(live l).getD a 0∈live l by rw[ZU,ZG k1];exact Z8 k1)
  obtain⟨x,hx⟩:=YE.mp i2
  refine .inl ⟨_,x,?_,G (dQ ((gg (hS rfl rfl).1).trans (b5 (cm (av rfl (av ((ai (x:=aW (live l)) rfl ((ai (X 5 ∅ rfl) rfl).trans k2)).trans k3) rfl)) (by simp)))))⟩
  rw[ZU,ZG (ZW.mp i1)]at hx
  rw[ZG (ZW.mp i1)]
  exact congrArg some hx
 |false=>
  right
  by_cases q2:2<ns.getD 0 0 % 6/\1<(names.length:Int)
  ·obtain⟨b,b1,b2⟩:=jG (ns.getD 4 0) (names.length-1) ⋯
   obtain⟨g,g1,g2,g3⟩:=Lk a1 b1
   obtain⟨v,hv⟩:=EB hl a1 g1 g2 hd (f:=base+ns.getD 1 0 % 12) (l:=L) ⋯ hL
   refine⟨_,hv,G ((ak ((ck (hS rfl rfl).1).trans rfl)).trans (dQ ((gg ((rB ((gt (T6 rfl)).trans (by rw[SZ q2.1]))).trans ((gt (a:=(names.length:Nat)) rfl).trans (by rw[SZ q2.2])))).trans (b5 (cm (av rfl (av rfl (av ((ai (x:=.int (VL+1+b)) (y:=.int (names.length:Nat)) ?_ rfl).trans ((fE _ ⋯).trans (by rw[g3]))) rfl))) (by simp))))))⟩
   refine(ai (g:=bP) (x:=.int (VL+1)) (y:=.int b) rfl ((ai (X 4 ∅ rfl) (y:=.int ((names.length:Int)-1)) rfl).trans ((fE _ ⋯).trans ?_))).trans rfl
   rw[<-b2,Int.ofNat_sub ⋯]
   rfl
  have f2:∀{ρ:bU},dV 2 ρ=⇑(.lst (ns.map PV.int))->dV 4 ρ=⇑(.int (names.length:Nat))->(mD (tV (ag LF (ag bT (ag c9 (dV 2) (dC (.int 0))) (dC (.int 6))) (dC (.int 2)))) (tV (ag LF (dV 4) (dC (.int 1))))) ρ=⇑false:=λe e'=>by
   by_cases q:2<ns.getD 0 0 % 6
   ·exact(rB ((gt (T6 e)).trans (by rw[SZ q]))).trans ((gt e').trans (by rw[Wp λz=>q2 ⟨q,z⟩]))
   ·exact vL ((gt (T6 e)).trans (by rw[Wp q]))
  by_cases q3:0<ns.getD 0 0 % 6
  ·obtain⟨v,hv⟩:=Lg hl a1 (f:=base+ns.getD 1 0 % 12) (l:=L) ⋯ hL
   exact⟨_,hv,G ((ak ((ck (hS rfl rfl).1).trans rfl)).trans ((ak ((ck (f2 rfl rfl)).trans rfl)).trans (dQ ((gg ((gt (T6 rfl)).trans (by rw[SZ q3]))).trans (b5 (cm rfl (by simp)))))))⟩
  ·obtain⟨i,i1,i2,i3,i4,i5⟩:=AB h1 hl hO hN (ns:=kb ns ⇑((6:Nat):Int) none) (by unfold kb;rw[wb,Z4,Z5];show min (ns.length-min 6 ns.length) (ns.length-min 6 ns.length)=6;omega)
   obtain⟨v,hv⟩:=Lh hl hN i1 i2 i3 i4 (day:=base+ns.getD 1 0 % 9) ⋯
   refine⟨_,hv,G ((ak ((ck (hS rfl rfl).1).trans rfl)).trans ((ak ((ck (f2 rfl rfl)).trans rfl)).trans ((ak ((ck ((gt (T6 rfl)).trans (by rw[Wp q3]))).trans rfl)).trans (b5 (cm (av rfl (av ((ai (x:=.int base) rfl (md (X 1 ∅ rfl) 9)).trans rfl) (av ((aG (av ?_ (av (x:=b0 names) rfl rfl))).trans i5) rfl))) (by simp))))))⟩
   exact(Ag (a:=some 6) (b:=none) rfl rfl rfl).trans (by rw[v5];rfl)
end
theorem uB(s0 s1:Slot):∀(ks:List Nat) (m:Int) (acc:List Int) (s4:Slot),0<=m->m<2147483647->acc.length+ks.length<=100->
  ∃(m':Int) (kj:List Int) (t4:Slot),kj.length=acc.length+ks.length/\forL (bj 4) lN (pl ks) [s0,s1,.sh (.int m),.ow (acc.map PV.int),s4]=⇑(.nx [s0,s1,.sh (.int m'),.ow (kj.map PV.int),t4])
 |[],m,acc,s4,_,_,_=>⟨m,acc,s4,rfl,rfl⟩
 |k::ks,m,acc,s4,h0,h1,h2=>by
  rw[ZJ]at h2
  obtain⟨m1,a1,a2,a4⟩:=yu (ρ:=[s0,s1,.sh (.int m),.ow (acc.map PV.int),.sh (.int k)]) rfl rfl h0 h1
  obtain⟨m2,UC,t4,b1,b2⟩:=uB s0 s1 ks m1 (acc++[m1]) (.sh (.int k)) a1 a2 (by rw[ZT,Zq];omega)
  rw[Zr]at b2
  exact⟨m2,UC,t4,by rw[b1,ZT,Zq,ZJ];omega,(jM (i:=4) (x:=.int k) (xs:=pl ks) ((ak (aH a4)).trans (p7 (x:=.int m1) rfl rfl (by rw[ZD];omega)))).trans b2⟩
theorem Il(c:Int):∃ns:List Int,ns.length=12/\kC [.int c,.int 12]=⇑(.lst (ns.map PV.int)):=by
 obtain⟨m,b3,b4,e1⟩:=Co (ρ:=[.sh (.int c),.sh (.int 12),.un,.un,.un]) rfl
 obtain⟨_,ns,_,h1,h2⟩:=uB (.sh (.int c)) (.sh (.int 12)) (List.range 12) m [] .un b3 b4 ∅
 exact⟨ns,by rw[h1];decide,b8 rfl ((ak (aH e1)).trans ((ak (ko (l:=[]) (iU rfl (by simp)))).trans ((ak ((gN (jo (n:=12) rfl ∅)).trans h2)).trans rfl)))⟩
def Al(rl:PV)(l:Es):Prop:=∀x,⇑x∈l->IQ rl x
variable{rl:PV}
theorem IQ.ne{x:En}(h:IQ rl x):x.e≠.non:=λz=>by
 obtain⟨y,_,e,_⟩:=h.t
 rw[e]at z
 cases z
theorem Cz{x:En}(h:IQ rl x){l:Es}(hl:l.length<=100):gc (book rl l) [rl,x.e]=⇑(book rl (l++[some x]),.int (l.length:Nat)):=by
 rw[<-Ii]
 refine h.d (book rl l) rfl (λz=>?_) (by have:=Ih x.k l;show(dk x.k l).length<5000;omega)
 obtain⟨y,h1,_⟩:=oP.mp z
 rw[YC (ZK _)]at h1
 cases h1
theorem yK{l:Es}{x:En}(h:l[i]?=⇑(some x))(hk:x.k<3):gc (book rl l) [rl,.tup [.str "strike",.int ((i:Nat):Int)]]=⇑(book rl (l.set i none),.non):=jf rfl (p8 ((nP (wc rfl)).trans (nQ (dN rfl (EA rl h hk)))))
theorem yL{w:S->bU->bU}{s:S}(h:f (w s ρ)=⇑p)(hp:tupP 12 p=true):BL w i f s ρ=⇑(s,.nx (ρ.set i (.sh p))):=by
 unfold BL
 rw[h]
 show(if tupP 12 p=true then _ else none)=_
 rw[W1 hp]
variable{es:List PV}
theorem Im{fk fv:Den}{s:S}{y:PV}(hv:fv ρ=⇑y)(hk:fk ρ=⇑(.int (i:Nat)))(h:i<es.length):BM fk fv (es,s) ρ=⇑((es.set i y,s),.nx ρ):=by
 unfold BM
 rw[hv]
 show((fk ρ).bind _)=_
 rw[hk]
 show((LG es.length (i:Nat)).map _)=_
 unfold LG
 rw[W1 ⋯,W1 ⋯]
 rfl
theorem Ip{s:S}(h:f ρ=⇑p)(hl:es.length<5000):BN f (es,s) ρ=⇑((es++[p],s),.nx ρ):=by
 have zl:(5000:Nat)<=sizeLine:=by decide
 unfold BN
 rw[h]
 show(if es.length<sizeLine then _ else none)=_
 rw[W1 ⋯]
section
variable(h1:1<=names.length)(hl:names.length<=6)(hO:∀x∈names,x.length<=20)(hN:∀x∈names,Rq.lD x)(hd:names.Nodup)
include h1 hl hO hN hd
theorem AE{l:Es}(h:l.length<=100)(ha:Al (b0 names) l)(VJ:ns.length=12)(hb:0<=base):
  ∃l',l'.length<=l.length+1/\Al (b0 names) l'/\je (l.map eP,(book (b0 names) l,())) [b0 names,.lst (ns.map PV.int),.int base]=⇑((l'.map eP,(book (b0 names) l',())),.bl true):=by
 rcases entry_eq h1 hl hO hN hd h (λx hx=>(ha x hx).ne) VJ hb with⟨i,x,hx,e⟩|⟨x,ho,e⟩
 ·have ox:=ha x (Zv hx)
  have il:=(ZL.mp hx).1
  refine⟨l.set i none,by rw[Zo];omega,λy hy=>ha y ((List.mem_or_eq_of_mem_set hy).resolve_right (by simp)),?_⟩
  rw[List.map_set]
  exact jf rfl ((a8 (yL ((aG (ps:=[.lst (l.map eP),b0 names,.lst (ns.map PV.int),.int base]) rfl).trans e) rfl)).trans ((a8 (jt (dN (get:=λs:List PV×(Bs×Unit)=>s.2.1) rfl (yK (l:=l) hx (by rcases ox.v with q|q|q<;>omega))))).trans (p8 ((nP (wc rfl)).trans ((a8 (Im (y:=.non) (i:=i) rfl rfl (by rw[ZD];exact il))).trans (iJ rfl rfl))))))
 ·obtain⟨y,ps,ee,yn⟩:=ho.t
  refine⟨l++[⇑x],by rw[ZT,Zq];omega,λz hz=>?_,?_⟩
  ·rcases Zg.mp hz with q|q
   ·exact ha z q
   ·cases Zl.mp q
    exact ho
  rw[Zr]
  refine jf rfl ((a8 (yL ((aG (ps:=[.lst (l.map eP),b0 names,.lst (ns.map PV.int),.int base]) rfl).trans e) ho.p)).trans ((a8 (jt (dN (get:=λs:List PV×(Bs×Unit)=>s.2.1) rfl (Cz ho h)))).trans ((a8 ((gL (mq yn (congrArg some ee))).trans rfl)).trans ((a8 (Ip (p:=x.e) rfl (by rw[ZD];omega))).trans (iJ ((B4 rfl).trans ((ai (x:=.int (l.length:Nat)) (y:=.int (l.length:Nat)) rfl ?_).trans ?_)) rfl)))))
  ·show some (PV.int (((l.map eP++[x.e]).length:Nat)-1))=_
   rw[ZT,ZD,Zq,Int.natCast_add]
   show some (PV.int ((l.length:Int)+1-1))=_
   rw[Int.add_sub_cancel]
  ·show some (PV.bl (decide (((l.length:Nat):Int)=((l.length:Nat):Int))))=_
   rw[SZ rfl]
end
theorem uC{f:PV->PV->Option Bool}:∀{l:List PV},(∀x∈l,f x x=⇑true)->(j7 f l l).map (λes=>es.all id)=⇑true
 |[],_=>rfl
 |x::l,h=>by
  have ih:=uC λy hy=>h y (ZI _ hy)
  obtain⟨es,e1,e2⟩:=ZC.mp ih
  unfold j7
  rw[h x (ZM ..),e1]
  show some (true&&es.all id)=_
  rw[e2]
  rfl
theorem yM{f:PV->PV->Option Bool}{l:List PV}(h:∀x∈l,f x x=⇑true):yV f l l=⇑true:=by
 unfold yV
 rw[W1 rfl,uC h]
theorem ne_self(ls:List (List Str)):jY (.lst (ls.map λl=>.lst (l.map PV.str))) (.lst (ls.map λl=>.lst (l.map PV.str)))=⇑(.bl false):=by
 show(yV (ik 19) _ _).map _=_
 rw[yM λx hx=>by
  obtain⟨l,_,rfl⟩:=Zi.mp hx
  show yV (ik 18) _ _=_
  exact yM λy hy=>by
   obtain⟨z,_,rfl⟩:=Zi.mp hy
   show some (z==z)=_
   rw[beq_self_eq_true]]
 rfl
theorem ne_str(x:Str):jY (.str x) (.str x)=⇑(.bl false):=by
 show some (PV.bl !decide (x=x))=_
 rw[SZ rfl]
 rfl
theorem RD(b:Bool):jY (.bl b) (.bl b)=⇑(.bl false):=by cases b<;>rfl
variable{cv:PV}
theorem wd{iy iz k:Nat}(h:f ρ=⇑(zK k)):nH iy iz k cv f ρ=⇑(.nx (ρ.set iz (.sh cv))):=by
 unfold nH
 rw[h]
 simp only[Ym,pU,W1]
theorem we{iy iz k:Nat}(h:f ρ=⇑p)(hp:eX p=none):nH iy iz k cv f ρ=⇑(.nx (ρ.set iy (.sh p))):=by
 unfold nH
 rw[h]
 simp only[Ym,hp]
theorem p9(rl:PV)(l:Es):sI (book rl l)=.ins 5 [rl,.int (l.length:Nat),.dct ((dk 0 l).map (·.1)) (vals 0 l),.dct ((dk 1 l).map (·.1)) (vals 1 l),.dct ((dk 2 l).map (·.1)) (vals 2 l)]:=by
 unfold sI dP book
 simp only[Ld]
theorem Mf{l:Es}(h:Al rl l):Vs (vals 0 l) (vals 1 l) (vals 2 l):=by
 have k:∀{j p},p∈vals j l->∃x,IQ rl x/\x.k=j/\p=x.v:=λ{j p} hp=>by
  obtain⟨o,h1,h2⟩:=YA.mp hp
  obtain⟨x,rfl,h2⟩:=ZA.mp h2
  obtain⟨h3,h4⟩:=aQ h2
  exact⟨x,h x h1,h3,h4.symm⟩
 refine⟨λp hp=>?_,λp hp=>?_,λp hp=>?_⟩<;>obtain⟨x,o,e,rfl⟩:=k hp<;>rcases o.v with⟨q,v⟩|⟨q,v⟩|⟨q,v⟩<;>first|exact v|exact absurd (e.symm.trans q) ∅
section
variable(hl:names.length<=6){l:Es}(ha:Al (b0 names) l)(h0:0<=day)
include hl ha h0
theorem Ir(hx:∀x∈xs,x∈names):∃p,jY p p=⇑(.bl false)/\hZ [sI (book (b0 names) l),.int day,.lst (xs.map PV.str)]=⇑p/\hZ [sI (book (b0 names) (l.filter Option.isSome)),.int day,.lst (xs.map PV.str)]=⇑p:=by
 obtain⟨p,hp,e⟩:=OM hl (Mf ha) h0 hx
 rw[p9,p9,ia,ia,ia]
 have k:∀{q:PV},(∀{f:Den} {ρ:bU},f ρ=⇑p->nH 3 3 0 (.str "refused") f ρ=⇑(.nx (ρ.set 3 (.sh q))))->∀n k0 k1 k2,hZ [.ins 5 [b0 names,n,.dct k0 (vals 0 l),.dct k1 (vals 1 l),.dct k2 (vals 2 l)],.int day,.lst (xs.map PV.str)]=⇑q:=λz n k0 k1 k2=>b8 rfl ((ak (aH (p:=.str "refused") rfl)).trans ((ak (z ((dM (c:=5) (xs:=[.int day,.lst (xs.map PV.str)]) rfl rfl).trans (e ..)))).trans rfl))
 rcases hp with rfl|⟨b,rfl⟩
 ·exact⟨_,ne_str _,k wd ..,k wd ..⟩
 ·exact⟨_,RD b,k (λh=>we h rfl) ..,k (λh=>we h rfl) ..⟩
theorem sr:∃p,jY p p=⇑(.bl false)/\d7 [sI (book (b0 names) l),.int day]=⇑p/\d7 [sI (book (b0 names) (l.filter Option.isSome)),.int day]=⇑p:=by
 obtain⟨p,hp,e⟩:=yH hl (Mf ha) h0
 rw[p9,p9,ia,ia,ia]
 have k:∀{q:PV},(∀{f:Den} {ρ:bU},f ρ=⇑p->nH 2 2 0 (.str "refused") f ρ=⇑(.nx (ρ.set 2 (.sh q))))->∀n k0 k1 k2,d7 [.ins 5 [b0 names,n,.dct k0 (vals 0 l),.dct k1 (vals 1 l),.dct k2 (vals 2 l)],.int day]=⇑q:=λz n k0 k1 k2=>b8 rfl ((ak (aH (p:=.str "refused") rfl)).trans ((ak (z ((dM (c:=5) (xs:=[.int day]) rfl rfl).trans (e ..)))).trans rfl))
 rcases hp with rfl|⟨ls,rfl⟩
 ·exact⟨_,ne_str _,k wd ..,k wd ..⟩
 ·exact⟨_,ne_self ls,k (λh=>we h rfl) ..,k (λh=>we h rfl) ..⟩
end
theorem uD{body:b7 S}(N:Nat)(P:Nat->S->bU->Prop)(Q:Nat->PV->Prop)(st:∀n p s ρ,n<N->Q n p->P n s ρ->∃s' ρ',body s (ρ.set i (.sh p))=⇑(s',.nx ρ')/\P (n+1) s' ρ'):
  ∀(ps:List PV) (n:Nat) (s:S) (ρ:bU),n+ps.length=N->(∀j p,ps[j]?=⇑p->Q (n+j) p)->P n s ρ->∃s' ρ',ug i body ps s ρ=⇑(s',.nx ρ')/\P N s' ρ'
 |[],n,s,ρ,hn,_,h=>⟨s,ρ,rfl,hn▸h⟩
 |p::ps,n,s,ρ,hn,hq,h=>by
  rw[ZJ]at hn
  obtain⟨s1,ρ1,e1,h1⟩:=st n p s ρ ⋯ (hq 0 p rfl) h
  obtain⟨s2,ρ2,e2,h2⟩:=uD N P Q st ps (n+1) s1 ρ1 ⋯ (λj q z=>by have:=hq (j+1) q z;rwa[show n+(j+1)=n+1+j by omega]at this) h1
  refine⟨s2,ρ2,?_,h2⟩
  unfold ug
  rw[e1]
  exact e2
section
variable{T:Type}{s:S}{t:T}{q:PV}
theorem yN{w:S->bU->bU}{f:bZ}{body:b7 S}(h:f (w s ρ)=⇑ps)(P:Nat->S->bU->Prop)(Q:Nat->PV->Prop)(hq:∀j p,ps[j]?=⇑p->Q j p)(h0:P 0 s ρ)(st:∀n p s ρ,n<ps.length->Q n p->P n s ρ->∃s' ρ',body s (ρ.set i (.sh p))=⇑(s',.nx ρ')/\P (n+1) s' ρ'):∃s' ρ',xK w i f body s ρ=⇑(s',.nx ρ')/\P ps.length s' ρ':=by
 unfold xK
 rw[h]
 exact uD ps.length P Q st ps 0 s ρ (Y5 _) (λj p z=>by rw[Y5];exact hq j p z) h0
theorem CA{a b:b7 S}{s':S}(h:a s ρ=⇑(s',.nx ρ'))(k:∃t,b s' ρ'=⇑(t,.rt q)):∃t,cV a b s ρ=⇑(t,.rt q):=by
 rw[a8 h]
 exact k
theorem su{w:S->bU->bU}{f:bZ}{body rest:b7 S}(h:f (w s ρ)=⇑ps)(P:Nat->S->bU->Prop)(Q:Nat->PV->Prop)(hq:∀j p,ps[j]?=⇑p->Q j p)(h0:P 0 s ρ)(st:∀n p s ρ,n<ps.length->Q n p->P n s ρ->∃s' ρ',body s (ρ.set i (.sh p))=⇑(s',.nx ρ')/\P (n+1) s' ρ')(k:∀s' ρ',P ps.length s' ρ'->∃t,rest s' ρ'=⇑(t,.rt q)):∃t,cV (xK w i f body) rest s ρ=⇑(t,.rt q):=by
 obtain⟨s',ρ',e,h⟩:=yN h P Q hq h0 st
 rw[a8 e]
 exact k s' ρ' h
theorem yO{FI:PV->Option PV}{fe:Den}{g:b7 (Bs×S)}{t:Bs×S}(hi:i<ρ.length)(h1:fe ρ=⇑p)(h2:FI p=⇑rl)(h3:g (book rl [],s) (ρ.set i .un)=⇑(t,.rt q)):xQ i FI fe g s ρ=⇑(s,.rt q):=by
 unfold xQ
 rw[W1 hi,h1]
 show((FI p).bind _)=_
 rw[h2]
 show xP s (g (book rl [],s) _)=_
 rw[h3]
 rfl
theorem Iu{g:b7 (List PV×S)}{t:List PV×S}(hi:i<ρ.length)(h3:g ([],s) (ρ.set i .un)=⇑(t,.rt q)):BJ i g s ρ=⇑(s,.rt q):=by
 unfold BJ
 rw[W1 hi,h3]
 rfl
theorem Iv{g:b7 S}{t:S}(h3:g s (ρ.set i (.sh (.lst es)))=⇑(t,.rt q)):BK i g (es,s) ρ=⇑((es,s),.rt q):=by
 unfold BK
 rw[h3]
 rfl
end
theorem Ll(h:∀x∈names,IP x/\j0 (.str x) kept=false)(hd:names.Nodup)(h1:1<=names.length)(h6:names.length<=6):ll (.lst (names.map PV.str))=⇑(b0 names):=(aG (ps:=[.lst (names.map PV.str)]) rfl).trans (Lb h hd h1 h6)
theorem EC{g:jS S}{s s':S}(h:g s ρ=⇑(s',p)):vy g s ρ=⇑(s',.nx ρ):=by
 unfold vy
 rw[h]
 rfl
theorem Mg(N:Nat):∀(j:Nat) (p:PV),(pl (List.range N))[j]?=⇑p->p=.int (j:Nat):=λj p h=>by
 rw[Za]at h
 obtain⟨k,h1,rfl⟩:=ZC.mp h
 rw[ZL]at h1
 obtain⟨_,h3⟩:=h1
 rw[List.getElem_range]at h3
 rw[h3]
abbrev Sq(ns:List Int)(names:List Str)(base day:Int)(l:Es)(a b c d e f g:Slot):bU:=[.sh (o7 ns),.sh (b0 names),.sh (.int base),.un,.sh (.lst (l.map eP)),.sh (.int day),a,b,.un,c,d,e,f,g]
section
variable(h1:1<=names.length)(hl:names.length<=6)(hO:∀x∈names,x.length<=20)(hN:∀x∈names,Rq.lD x)(hd:names.Nodup)(ns:List Int)(UD:0<=base)(hy:0<=day)
include h1 hl hO hN hd UD hy
theorem Lm:∃(l:Es) (a b:Slot),l.length<=28/\Al (b0 names) l/\vY ([],(book (b0 names) [],())) [.sh (o7 ns),.sh (b0 names),.sh (.int base),.un,.un,.sh (.int day),.un,.un,.un,.un,.un,.un,.un,.un]=⇑((l.map eP,(book (b0 names) l,())),.nx [.sh (o7 ns),.sh (b0 names),.sh (.int base),.un,.un,.sh (.int day),a,b,.un,.un,.un,.un,.un,.un]):=by
 obtain⟨cs,_,c2⟩:=HW ns 6 34 ∅ (A:=dV 0) (ρ:=[.sh (o7 ns),.sh (b0 names),.sh (.int base),.un,.un,.sh (.int day),.un,.un,.un,.un,.un,.un,.un,.un]) rfl
 have e:∃s' ρ',vY ([],(book (b0 names) [],())) [.sh (o7 ns),.sh (b0 names),.sh (.int base),.un,.un,.sh (.int day),.un,.un,.un,.un,.un,.un,.un,.un]=⇑(s',.nx ρ')/\∃(l:Es) (a b:Slot),l.length<=(cs.map PV.int).length/\Al (b0 names) l/\s'=(l.map eP,(book (b0 names) l,()))/\ρ'=[.sh (o7 ns),.sh (b0 names),.sh (.int base),.un,.un,.sh (.int day),a,b,.un,.un,.un,.un,.un,.un]:=by
  refine yN (w:=QU) (cS c2) (λn (s:List PV×(Bs×Unit)) ρ=>∃(l:Es) (a b:Slot),l.length<=n/\Al (b0 names) l/\s=(l.map eP,(book (b0 names) l,()))/\ρ=[.sh (o7 ns),.sh (b0 names),.sh (.int base),.un,.un,.sh (.int day),a,b,.un,.un,.un,.un,.un,.un]) (λ_ p=>∃c:Int,p=.int c) (λj p hp=>by
   rw[Za]at hp
   obtain⟨c,_,rfl⟩:=ZC.mp hp
   exact⟨c,rfl⟩) ⟨[],.un,.un,ZK 0,λx hx=>(by cases hx),rfl,rfl⟩ ?_
  rintro n _ _ _ hn ⟨c,rfl⟩ ⟨l,a,b,_,ha,rfl,rfl⟩
  rw[ZD]at hn
  obtain⟨xs,x1,x2⟩:=Il c
  obtain⟨l',_,l2,l3⟩:=AE h1 hl hO hN hd (l:=l) ⋯ ha x1 UD
  obtain⟨p,_,p2,_⟩:=sr hl l2 hy
  refine⟨_,[.sh (o7 ns),.sh (b0 names),.sh (.int base),.un,.un,.sh (.int day),.sh (.int c),.sh (.lst (xs.map PV.int)),.un,.un,.un,.un,.un,.un],(a8 (jr ((aG (ps:=[.int c,.int 12]) rfl).trans x2))).trans ((a8 (s':=(l'.map eP,(book (b0 names) l',()))) (ρ':=[.sh (o7 ns),.sh (b0 names),.sh (.int base),.un,.un,.sh (.int day),.sh (.int c),.sh (.lst (xs.map PV.int)),.un,.un,.un,.un,.un,.un]) ?_).trans ?_),l',_,_,⋯,l2,rfl,rfl⟩
  ·unfold N3
   rw[dN (get:=λs:List PV×(Bs×Unit)=>s) (ps:=[b0 names,.lst (xs.map PV.int),.int base]) rfl l3]
   rfl
  ·have t:tV (ag ip (ag bT (ag c9 (dV 7) (dC (.int 11))) (dC (.int 5))) (dC (.int 0))) (vw (λs:List PV×(Bs×Unit)=>[.lst s.1]++(cq s.2.1++[])) [4,3] (l'.map eP,(book (b0 names) l',())) [.sh (o7 ns),.sh (b0 names),.sh (.int base),.un,.un,.sh (.int day),.sh (.int c),.sh (.lst (xs.map PV.int)),.un,.un,.un,.un,.un,.un])=⇑(decide (xs.getD 11 0 % 5=0)):=bB ((ai (md (UB (k:=11) ⋯ rfl) 5) rfl).trans rfl)
   cases q:decide (xs.getD 11 0 % 5=0)<;>rw[q]at t
   ·exact(gL t).trans rfl
   ·exact(nP t).trans (lz ((aG (ps:=[sI (book (b0 names) l'),.int day]) rfl).trans p2))
 obtain⟨_,_,e,l,a,b,MB,ha,rfl,rfl⟩:=e
 rw[ZD]at MB
 exact⟨l,a,b,⋯,ha,e⟩
omit hO hN in
theorem Ln{l:Es}(Yh:l.length<=28)(ha:Al (b0 names) l)(a b:Slot):∃t,Ck (book (b0 names) [],(book (b0 names) l,())) (Sq ns names base day l a b .un .un .un .un .un)=⇑(t,.rt (.bl true)):=by
 have el:(l.map eP).length=l.length:=ZD _
 have X:∀n o,l[n]?=⇑o->(o=none/\mP (eP o)=⇑(.bl false)/\pF (eP o)=⇑(.bl true))\/∃x,o=⇑x/\IQ (b0 names) x/\mP (eP o)=⇑(.bl true)/\pF (eP o)=⇑(.bl false):=λn o ho=>by
  cases o with
  |none=>exact .inl ⟨rfl,rfl,rfl⟩
  |some x=>
   have ox:=ha x (Zv ho)
   obtain⟨y,ps,e,_⟩:=ox.t
   exact .inr ⟨x,rfl,ox,by show mP x.e=_;rw[e];rfl,by show pF x.e=_;rw[e];rfl⟩
 refine su (S:=Bs×(Bs×Unit)) (w:=QU) (ps:=l.map eP) rfl (λn s ρ=>s=(book (b0 names) ((l.take n).filter Option.isSome),(book (b0 names) l,()))/\∃c,ρ=Sq ns names base day l a b c .un .un .un .un) (λn p=>∃o,l[n]?=⇑o/\p=eP o) (λj p hp=>?_) ⟨rfl,_,rfl⟩ ?_ ?_
 ·rw[Za]at hp
  obtain⟨o,h1,h2⟩:=ZC.mp hp
  exact⟨o,h1,h2.symm⟩
 ·rintro n _ _ _ hn ⟨o,ho,rfl⟩ ⟨rfl,c,rfl⟩
  rw[UZ,ho,List.filter_append]
  rcases X n o ho with⟨rfl,q,_⟩|⟨x,rfl,ox,q,_⟩
  ·exact⟨_,_,(gL (bB ((br rfl).trans q))).trans rfl,by rw[show List.filter Option.isSome (⇑(none:Option En)).toList=[]from rfl,Zh],_,rfl⟩
  ·refine⟨_,_,(nP (bB ((br rfl).trans q))).trans (EC (dN (get:=λs:Bs×(Bs×Unit)=>s.1) (ps:=[b0 names,x.e]) rfl (Cz ox ?_))),rfl,_,rfl⟩
   have:=YT Option.isSome (l.take n)
   rw[Z4]at this
   omega
 rintro _ _ ⟨rfl,c,rfl⟩
 rw[el,Yk (ZK _)]
 refine su (S:=Bs×(Bs×Unit)) (w:=vw (λs=>cq s.1++(cq s.2.1++[])) [8,3]) (jo (n:=18) rfl ∅) (λn s ρ=>s=(book (b0 names) (l.filter Option.isSome),(book (b0 names) l,()))/\∃d e f,ρ=Sq ns names base day l a b c d e f .un) (λn p=>p=.int (n:Nat)) (Mg 18) ⟨rfl,_,_,_,rfl⟩ ?_ ?_
 ·rintro n _ _ _ hn rfl ⟨rfl,d,e,f,rfl⟩
  have hp:=Nat.two_pow_pos names.length
  have em:∀{ρ:bU},dV 0 ρ=⇑(o7 ns)->aP 0 ρ=⇑(o7 ns)->dV 10 ρ=⇑(.int (n:Nat))->dV 1 ρ=⇑(b0 names)->ag bT (aM F_law_cell_at (af (aP 0) (af (ag bP (dC (.int 34)) (dV 10)) aB))) (ag mM (dC (.int 1)) (bC cB (dV 1))) ρ=⇑(.int (ns.getD (34+n) 0 %(2^names.length:Nat))):=λ_ XY T4 e1=>(ai ((aG (av XY (av ((ai (x:=.int 34) rfl T4).trans rfl) rfl))).trans (vM ns (34+n))) ((ai (x:=.int 1) (y:=.int (names.length:Nat)) rfl ((br e1).trans (by show some (PV.int ((names.map PV.str).length:Nat))=_;rw[ZD]))).trans (pZ _ hl))).trans (fE _ ⋯)
  generalize ns.getD (34+n) 0 %(2^names.length:Nat)=g at em
  obtain⟨p,p1,p2,p3⟩:=Ir hl ha (day:=base+n) ⋯ (xs:=((List.range names.length).filter (hb g)).map λk=>names.getD k ⟨#[]⟩) (λx hx=>by
   obtain⟨k,hk,rfl⟩:=Zi.mp hx
   exact getD_mem (ZW.mp (YN.mp hk).1))
  refine⟨_,_,(a8 (jr (em rfl rfl rfl rfl))).trans ((a8 (jr (p:=.lst ((((List.range names.length).filter (hb g)).map λk=>names.getD k ⟨#[]⟩).map PV.str)) ?_)).trans ((gL (bB ((ai ((aG (ps:=[sI (book (b0 names) l),.int (base+n),.lst ((((List.range names.length).filter (hb g)).map λk=>names.getD k ⟨#[]⟩).map PV.str)]) rfl).trans p2) ((aG (ps:=[sI (book (b0 names) (l.filter Option.isSome)),.int (base+n),.lst ((((List.range names.length).filter (hb g)).map λk=>names.getD k ⟨#[]⟩).map PV.str)]) rfl).trans p3)).trans p1))).trans rfl)),rfl,_,_,_,rfl⟩
  rw[Zp]
  refine rX (λk:Nat=>PV.int k) _ (hb g) (xs:=List.range names.length) ((kq (j:=(names.length:Nat)) ?_ (G9 ⋯)).trans (by rw[Zu,iE])) (by rw[Zk];omega) λk hk=>⟨?_,(ai (x:=b0 names) (y:=.int k) rfl rfl).trans (gG PV.str (ZW.mp hk) ⟨#[]⟩)⟩
  ·show some (PV.int ((names.map PV.str).length:Nat))=_
   rw[ZD]
  ·exact bB (H9 rfl rfl)
 rintro _ _ ⟨rfl,d,e,f,rfl⟩
 obtain⟨p,p1,p2,p3⟩:=sr hl ha hy
 refine CA ((gL (bB ((ai ((aG (ps:=[sI (book (b0 names) l),.int day]) rfl).trans p2) ((aG (ps:=[sI (book (b0 names) (l.filter Option.isSome)),.int day]) rfl).trans p3)).trans p1))).trans rfl) ?_
 refine su (S:=Bs×(Bs×Unit)) (w:=vw (λs=>cq s.1++(cq s.2.1++[])) [8,3]) (jo (n:=l.length) ((br (g:=cB) (x:=.lst (l.map eP)) rfl).trans (by show some (PV.int ((l.map eP).length:Nat))=_;rw[el])) ⋯) (λn s ρ=>s=(book (b0 names) (l.filter Option.isSome),(book (b0 names) l,()))/\∃d,ρ=Sq ns names base day l a b c d e f .un) (λn p=>p=.int (n:Nat)) (Mg l.length) ⟨rfl,_,rfl⟩ ?_ ?_
 ·rintro n _ _ _ hn rfl ⟨rfl,d,rfl⟩
  rw[ZD,Zk]at hn
  refine⟨_,_,(gL ?_).trans rfl,rfl,_,rfl⟩
  have g:∀{ρ:bU},dV 4 ρ=⇑(.lst (l.map eP))->dV 10 ρ=⇑(.int (n:Nat))->ag c9 (dV 4) (dV 10) ρ=⇑(eP (l.getD n none)):=λe e'=>(ai e e').trans (gG eP hn none)
  have gn:l[n]?=⇑(l.getD n none):=by rw[ZU,ZG hn];rfl
  rcases X n _ gn with⟨q,_,q2⟩|⟨x,q,ox,_,q2⟩
  ·exact(rB (bB ((br (g rfl rfl)).trans q2))).trans (iT (bB ((aG (ps:=[sI (book (b0 names) l),.int n]) rfl).trans (yI _ (q▸gn)))))
  ·exact vL (bB ((br (g rfl rfl)).trans q2))
 rintro _ _ ⟨rfl,d,rfl⟩
 refine CA (jt (dN (get:=λs:Bs×(Bs×Unit)=>s.2.1) (av ((ai (x:=b0 names) (y:=.int 0) rfl rfl).trans (gG PV.str (k:=0) ⋯ ⟨#[]⟩)) rfl) (Cw hl rfl (getD_mem ⋯) UD (Int.le_refl _) (λz=>?_) (by have:=Ih 1 l;show(dk 1 l).length<5000;omega)))) ⟨_,iJ ((B4 rfl).trans ((ai (x:=.int (l.length:Nat)) (y:=.int (l.length:Nat)) rfl ((br (g:=cB) (x:=.lst (l.map eP)) rfl).trans (by show some (PV.int ((l.map eP).length:Nat))=_;rw[el]))).trans ?_)) rfl⟩
 ·obtain⟨y,h1,_⟩:=oP.mp z
  rw[YC (ZK _)]at h1
  cases h1
 ·show some (PV.bl (decide (((l.length:Nat):Int)=((l.length:Nat):Int))))=_
  rw[SZ rfl]
end
theorem mul_right(a:Int){b:Int}(h1:0<=b)(h2:b<2):j8 (.int a) (.int b)=⇑(.int (a*b)):=by
 show(if mL a b then ⇑(PV.int (a*b))else none)=_
 rw[W1 (by unfold mL;rw[Y6,ZS,ZS,Re,Re,Re,Re];exact .inr ⟨⋯,⋯⟩)]
theorem law_true(ns:List Int)(h:ns.length<=63):Cm [.lst (ns.map .int)]=⇑(.bl true):=by
 have hz:=mod_lt (ns.getD 0 0) (n:=6) ∅
 obtain⟨xs,_,x2,x3,x4⟩:=Ew ns 2 (1+(ns.getD 0 0 %((6:Nat):Int)).toNat) ⋯ ⋯
 have hN:∀x∈xs,Rq.lD x:=λx hx=>Rz (x3 x hx).1
 have hO:∀x∈xs,x.length<=20:=λx hx=>(x3 x hx).1.2.2
 have C:∀{ρ:bU} (k:Nat),aP 0 ρ=⇑(o7 ns)->aM F_law_cell_at (af (aP 0) (af (dC (.int (k:Nat))) aB)) ρ=⇑(.int (ns.getD k 0)):=λk e=>(aG (av e rfl)).trans (vM ns k)
 have m1:=Zz (ns.getD 4 0) (show(10^59:Int)≠0 by decide)
 have m2:=Zz (ns.getD 5 0) (show(2:Int)≠0 by decide)
 have m3:=YM (ns.getD 5 0) (show(0:Int)<2 by decide)
 have m4:=Zz (ns.getD 52 0) (show(18:Int)≠0 by decide)
 have hb:=Int.mul_nonneg m1 m2
 generalize IW:ns.getD 4 0 % 10^59*(ns.getD 5 0 % 2)=base at hb
 obtain⟨l,a,b,l1,l2,l3⟩:=Lm ⋯ ⋯ hO hN x2 ns hb (day:=base+ns.getD 52 0 % 18) ⋯
 obtain⟨t,l4⟩:=Ln ⋯ ⋯ x2 ns hb (day:=base+ns.getD 52 0 % 18) ⋯ l1 l2 a b
 have I:=Ll x3 x2 ⋯ ⋯
 have W:HK () [.sh (o7 ns),.un,.un,.un,.un,.un,.un,.un,.un,.un,.un,.un,.un,.un]=⇑((),.rt (.bl true)):=by
  refine(a8 (jr (p:=b0 xs) ?_)).trans ((a8 (jr (p:=.int base) ?_)).trans (yO (show 3<14 by decide) (br (x:=b0 xs) rfl) I (Iu (show 4<14 by decide) ((a8 (jr ((ai (x:=.int base) rfl (md (C 52 rfl) 18)).trans rfl))).trans ((a8 l3).trans (Iv (yO (show 8<14 by decide) (br (x:=b0 xs) rfl) I l4)))))))
  ·exact(aG (ps:=[o7 ns]) rfl).trans (fZ rfl ((br ((aG (av (x:=o7 ns) rfl (av (x:=.int (2:Nat)) rfl (av (x:=.int (1+(ns.getD 0 0 %((6:Nat):Int)).toNat:Nat)) ((ai (x:=.int 1) rfl ((ai (C 0 rfl) (y:=.int (6:Nat)) rfl).trans (jn _ ∅))).trans rfl) rfl)))).trans x4)).trans rfl))
  ·refine(ai ((ai (C 4 rfl) (y:=.int (10^59)) ?_).trans (fE _ ∅)) (md (C 5 rfl) 2)).trans ((mul_right _ m2 m3).trans (by rw[IW]))
   show(if j9 10 59 then ⇑(PV.int (10^(59:Int).toNat))else none)=_
   rw[W1 ∅]
   rfl
 show(HK () [.sh (o7 ns),.un,.un,.un,.un,.un,.un,.un,.un,.un,.un,.un,.un,.un]).bind _=_
 rw[W]
 rfl
structure Ev where
 w:World
 mg:Str->Option Value
 base:Heap
 h:Heap
 X:(wx w.params).In h
 G:h.Ns mainGlobals mg
abbrev Ev.K(Z:Ev):aX:=wx Z.w.params
def Pk(K:aX)(a:Addr):Option FuncData:=(K.lookup a).bind λo=>match o.data with
 |.func f=>⇑f
 |_=>none
def fA(K:aX)(a:Addr):FuncData:=(Pk K a).getD default
def dE(K:aX)(a:Addr):Array DictEntry:=match K.lookup a with
 |some ⟨_,_,.dict es _,_⟩=>es
 |_=>#[]
abbrev fO(x q:Str)(st:Stmt)(f:FuncData):FuncData:=PySem.W.fnOf x q (pL st) (eh st) (aC st) .none f.kwdefaults f.doc f.pyModule f.annotations f.code f.closureTuple
structure Eb(K:aX)(x q:Str)(st:Stmt)(ps:List Str)(a:Addr):Prop where
 F:A4 K x q st a (fA K a)
 b:Binds K (fA K a) ps []
theorem eb{K:aX}{q:Str}{st:Stmt}{ps:List Str}{a:Addr}(e1:Pk K a=(Pk K a).map (fO x q st):=by kernel_rfl)(e2:(Pk K a).map (λf=>PySem.W.codeIn K f.code q)=⇑true:=by kernel_rfl)(e3:PySem.W.keepIn K (.ref a)=true:=by kernel_rfl)
  (bi:∀(kV doc pm:Value) (an:Option Addr) (cK ct:Value) (us:List Value),us.length=ps.length->bindArgs (PySem.W.fnOf x q (pL st) (eh st) (aC st) .none kV doc pm an cK ct) ⟨us,[]⟩=pure (ps.zip us):=by intro _ _ _ _ _ _ us hl;first|(obtain⟨_,rfl⟩:=TZ hl;rfl)|(obtain⟨_,_,rfl⟩:=T1 hl;rfl)|(obtain⟨_,_,_,rfl⟩:=T2 hl;rfl)|(obtain⟨_,_,_,_,rfl⟩:=T3 hl;rfl)|(obtain⟨_,_,_,_,_,rfl⟩:=Uq hl;rfl)):Eb K x q st ps a:=by
 have F:A4 K x q st a (fA K a):=by
  unfold fA
  cases e:Pk K a with
  |none=>rw[e]at e2;cases e2
  |some f=>
   rw[e]at e1 e2
   unfold Pk at e
   obtain⟨⟨c,d,dt,sl⟩,l,z⟩:=ZA.mp e
   cases dt<;>cases z
   exact⟨⟨c,d,_,_,_,_,_,_,sl,ZX e1,l,ZX e2⟩,e3⟩
 exact⟨F,F.binds bi⟩
theorem gm{Z:Ev}{v:Value}(e:PySem.W.nsIn Z.K mainGlobals x=⇑(some v):=by kernel_rfl):Z.mg x=⇑v:=PySem.W.mg_of Z.X Z.G e
theorem gn{Z:Ev}(e:PySem.W.nsIn Z.K mainGlobals x=⇑none:=by kernel_rfl):Z.mg x=none:=PySem.W.mg_none_of Z.X Z.G e
structure Ea(Z:Ev)(x:Str)(st:Stmt)(ps:List Str)(a:Addr):Prop extends Eb Z.K x x st ps a where
 m:Z.mg x=⇑(.ref a):=by exact gm
variable{C:Addr}
theorem mt{K:aX}{m:Str}{f:Addr}(h1:PySem.W.findIn K (.ref C) m=⇑(some (.ref f)):=by kernel_rfl)(h2:PySem.W.isFn K (.ref f)=true:=by kernel_rfl)(h3:PySem.W.keepIn K (.ref f)=true:=by kernel_rfl):Meth K C m f:=⟨h1,h2,h3⟩
theorem mk{K:aX}{f:Addr}(h0:PySem.W.makesIn K C=true:=by kernel_rfl)(h1:PySem.W.findIn K (.ref C) "__init__" =⇑(some (.ref f)):=by kernel_rfl)(h2:PySem.W.isFn K (.ref f)=true:=by kernel_rfl)(h3:PySem.W.keepIn K (.ref C)=true:=by kernel_rfl):Mk K C f:=⟨h0,h1,h2,h3⟩
theorem cl{K:aX}(h0:PySem.W.plainGet K C Str.empty=true:=by kernel_rfl)(h1:PySem.W.hasDictIn K C=true:=by kernel_rfl)(h2:PySem.W.plainOver K C=true:=by kernel_rfl)(h3:PySem.W.findIn K (.ref C) "__setattr__" =⇑(some (.builtin "object.__setattr__")):=by kernel_rfl):pC K C:=⟨h0,h1,h2,h3⟩
theorem na{K:aX}{f:Str}(h:PySem.W.findIn K (.ref C) f=⇑none:=by kernel_rfl):cE K C f:=h
theorem xe{K:aX}(h:PySem.W.excIn K C Q5 "ValueError.__new__" =true:=by kernel_rfl):uj K C:=.of h
theorem bw{K:aX}{d0:Addr}(h1:PySem.W.instIn K (.ref d0) (.type "tuple")=⇑false:=by kernel_rfl)(h2:(PySem.W.clsIn K d0).isSome=true:=by kernel_rfl)(h3:PySem.W.mroIn K d0 (.type "BaseException")=⇑true:=by kernel_rfl)(h4:PySem.W.mroIn K C (.ref d0)=⇑true:=by kernel_rfl):Below K d0 C:=⟨h1,h2,h3,h4⟩
theorem fs{N ps:List Str}{c:Scope}(h1:c.kind=.function:=by rfl)(h2:c.isCoroutine=false:=by rfl)(h3:c.isGenerator=false:=by rfl)(h4:N.Nodup:=by decide+kernel)(h5:N.take ps.length=ps:=by rfl)(h6:∀x∈ps,c.names.lookup x=some .local\/c.names.lookup x=some .cell:=by decide+kernel)(h7:∀y∈c.names,y.2≠.free:=by decide+kernel):az N ps c:=⟨h1,h2,h3,h4,h5,h6,h7⟩
abbrev Oa(Z:Ev)(k:Nat)(a:Addr)(ps:List Str)(sp:Sp):Prop:=dS mw Z.w Z.K Z.mg Z.base qk k a (fA Z.K a) ps sp
def κ0:Kl:=⟨λc=>match c with|0=>304|1=>378|2=>411|3=>444|4=>518|_=>654,fK⟩
abbrev sv(a b:Addr):Nat->Addr:=λk=>match k with|0=>a|_=>b
variable{k0:Nat}
section
variable{Z:Ev}
theorem wg:Ri Z.K Z.mg "KEPT_WORDS" ["all","any","of"]:=⟨138,⟨.type "tuple",none,.seq #[.str "all" 357,.str "any" 358,.str "of" 359] 0,#[]⟩,_,_,gm,by kernel_rfl,rfl,rfl,(show(3:Nat)<=sizeLine by decide),rfl,.cons ⟨_,rfl⟩ (.cons ⟨_,rfl⟩ (.cons ⟨_,rfl⟩ .nil))⟩
theorem nR:∃t,Z.mg "MOST_HANDS" =⇑(.int 6 t):=⟨353,gm⟩
theorem wj:∃t,Z.mg "MOST_PARTS" =⇑(.int 8 t):=⟨737,gm⟩
theorem wm:∃t,Z.mg "MOST_SIGNS" =⇑(.int 20 t):=⟨355,gm⟩
theorem xD:Ke Z.w.params Z.K Z.mg "FEWEST_PARTS" p6:=⟨447,dE Z.K 447,10,gm,by kernel_rfl,⟨⟨_,_,rfl⟩,⟨_,_,rfl⟩,⟨_,_,rfl⟩,⟨_,_,rfl⟩,⟨_,_,rfl⟩,⟨_,_,rfl⟩,⟨_,_,rfl⟩,⟨_,_,rfl⟩,⟨_,_,rfl⟩,⟨_,_,rfl⟩,trivial⟩,rfl⟩
theorem xC:Kx Z.K Z.mg κ0 255 345 273 361 394 427 320:=
 have c3:∀c,0<c->c<4->c=1\/c=2\/c=3:=by omega
 have c4:∀c,c<4->c=0\/c=1\/c=2\/c=3:=by omega
 ⟨rfl,λc h=>by rcases c4 c h with rfl|rfl|rfl|rfl<;>exact cl,na,λc g h=>by rcases c3 c g h with rfl|rfl|rfl<;>exact na,λc g h=>by rcases c3 c g h with rfl|rfl|rfl<;>exact na,mk,mk,mk,mk,gm,gm,gm,gm,⟨⟨.type "type",by kernel_rfl,by kernel_rfl⟩,by kernel_rfl,by kernel_rfl,by kernel_rfl⟩,gm,λc h=>by rcases c4 c h with rfl|rfl|rfl|rfl<;>exact⟨cl,by kernel_rfl,by kernel_rfl,by kernel_rfl,by kernel_rfl,by kernel_rfl⟩,gm,cl,na,na,na,cl,λf h=>by simp only[gE,Zc,List.not_mem_nil,or_false]at h;rcases h with rfl|rfl|rfl|rfl|rfl<;>exact na⟩
theorem mr:Eb Z.K "__init__" "Book.__init__" (jV 48 0) ["self","names"] 562:=eb
theorem dD:Eb Z.K "number_entry" "Book.number_entry" (jV 48 1) ["self"] 569:=eb
theorem sx:Eb Z.K "rule" "Book.rule" (jV 48 2) ["self","day","text"] 576:=eb
theorem mv:Eb Z.K "away" "Book.away" (jV 48 3) ["self","name","first","last"] 583:=eb
theorem nS:Eb Z.K "deputy" "Book.deputy" (jV 48 4) ["self","name","hand","first","last"] 590:=eb
theorem gU:Eb Z.K "strike" "Book.strike" (jV 48 5) ["self","number"] 597:=eb
theorem gI:Eb Z.K "ladder_on" "Book.ladder_on" (jV 48 6) ["self","day"] 604:=eb
theorem lP:Eb Z.K "away_on" "Book.away_on" (jV 48 7) ["self","day"] 611:=eb
theorem iX:Eb Z.K "deputies_on" "Book.deputies_on" (jV 48 8) ["self","day","role"] 618:=eb
theorem ju:Eb Z.K "signers_on" "Book.signers_on" (jV 48 9) ["self","day"] 625:=eb
theorem uE:Eb Z.K "may" "Book.may" (jV 48 10) ["self","day","names"] 632:=eb
theorem pj:Eb Z.K "least" "Book.least" (jV 48 11) ["self","day"] 637:=eb
theorem d8:Ea Z "_law_done" (eZ 61) ["_law_book","_law_roll_here","_law_entry_here"] 738:={eb with}
theorem fF:Ea Z "_law_entered" (eZ 62) ["_law_book","_law_entries","_law_roll_here","_law_xs","_law_base_here"] 745:={eb with}
theorem eQ:Ea Z "_law_may" (eZ 63) ["_law_book","_law_day","_law_names_here"] 752:={eb with}
theorem cb:Ea Z "_law_least" (eZ 64) ["_law_book","_law_day"] 759:={eb with}
theorem eN:Ea Z "_law_no_entry" (eZ 65) ["_law_book","_law_number"] 766:={eb with}
theorem AF:Ea Z "law" (eZ 66) ["_law_script"] 771:={eb with}
theorem Mh:Eb Z.K "__init__" "Reading.__init__" (jV 42 0) ["self","roll","text"] 475:=eb
theorem Mi:Eb Z.K "take_word" "Reading.take_word" (jV 42 1) ["self"] 480:=eb
theorem Iw:Eb Z.K "comes" "Reading.comes" (jV 42 2) ["self","sign"] 487:=eb
theorem CB:Eb Z.K "take_sign" "Reading.take_sign" (jV 42 3) ["self","sign"] 494:=eb
theorem Mj:Eb Z.K "take_parts" "Reading.take_parts" (jV 42 4) ["self","fewest"] 501:=eb
theorem CD:Eb Z.K "take_rule" "Reading.take_rule" (jV 42 5) ["self"] 508:=eb
theorem Ml:Eb Z.K "take_end" "Reading.take_end" (jV 42 6) ["self"] 515:=eb
theorem CF:Ea Z "shared_signs" (eZ 40) ["text","word"] 454:={eb with}
theorem Iy:Ea Z "counting_rule" (eZ 41) ["opening","parts"] 461:={eb with}
theorem Mm:Eb Z.K "__init__" "Hand.__init__" (jV 32 0) ["self","name"] 273:=eb
theorem Mn:Eb Z.K "__init__" "All.__init__" (jV 34 0) ["self","parts"] 361:=eb
theorem Mo:Eb Z.K "__init__" "Any.__init__" (jV 35 0) ["self","parts"] 394:=eb
theorem Mp:Eb Z.K "__init__" "Some.__init__" (jV 36 0) ["self","many","parts"] 427:=eb
theorem CG:Eb Z.K "__init__" "Counting.__init__" (jV 33 0) ["self","wanted","parts"] 320:=eb
theorem d9:Ea Z "has_hand" (eZ 17) ["group","hand"] 157:={eb with}
theorem eg:Ea Z "hands_of" (eZ 18) ["group"] 162:={eb with}
theorem kJ:Ea Z "place" (eZ 21) ["group"] 181:={eb with}
theorem lA:Ea Z "within" (eZ 22) ["one","two"] 188:={eb with}
theorem et:Ea Z "lets" (eZ 25) ["ladder","group"] 200:={eb with}
theorem kK:Ea Z "least" (eZ 26) ["groups"] 207:={eb with}
theorem dF:Ea Z "groups_of" (eZ 23) ["count"] 195:={eb with}
theorem jN:Ea Z "letting" (eZ 28) ["ladders","group"] 212:={eb with}
theorem qa:Ea Z "some" (eZ 29) ["many","ladders"] 217:={eb with}
theorem bD:Ea Z "group_of" (eZ 19) ["roll","names"] 169:={eb with}
theorem c8:Eb Z.K "ladder" "Counting.ladder" (jV 33 2) ["self","roll"] 330:=eb
theorem jU:Eb Z.K "ladder" "Hand.ladder" (jV 32 4) ["self","roll"] 301:=eb
theorem bJ:Ea Z "check_day" (eZ 45) ["day"] 536:={eb with}
theorem cX:Ea Z "check_days" (eZ 46) ["first","last"] 543:={eb with}
theorem jO:Ea Z "is_name" (eZ 15) ["text"] 143:={eb with}
theorem jP:Ea Z "roll_of" (eZ 16) ["names"] 150:={eb with}
theorem cw:Ea Z "signed_roles" (eZ 47) ["signers","group"] 548:={eb with}
theorem qb:Ea Z "read" (eZ 43) ["roll","text"] 529:={eb with}
theorem iY:Ea Z "names_of" (eZ 20) ["roll","group"] 174:={eb with}
theorem aJ:Ea Z "_law_cell_at" (eZ 50) ["_law_script","_law_k"] 665:={eb with}
theorem iZ:Ea Z "_law_name" (eZ 52) ["_law_base_here","_law_place","_law_size","_law_k"] 679:={eb with}
theorem i0:Ea Z "_law_base" (eZ 51) ["_law_cell","_law_size"] 672:={eb with}
theorem gW:Ea Z "_law_names" (eZ 53) ["_law_script","_law_at","_law_many"] 686:={eb with}
theorem i6:Ea Z "_law_roll" (eZ 54) ["_law_script"] 693:={eb with}
theorem gX:Ea Z "_law_mixed" (eZ 55) ["_law_cell","_law_many"] 700:={eb with}
theorem dG:Ea Z "_law_whole" (eZ 56) ["_law_found"] 707:={eb with}
theorem i7:Ea Z "_law_live" (eZ 59) ["_law_entries"] 724:={eb with}
theorem fG:Ea Z "_law_pair_of" (eZ 57) ["_law_number","_law_roll_here"] 714:={eb with}
theorem fI:Ea Z "_law_rule_by" (eZ 58) ["_law_xs","_law_roll_here"] 719:={eb with}
theorem gZ:Ea Z "_law_entry" (eZ 60) ["_law_entries","_law_roll_here","_law_xs","_law_base_here"] 731:={eb with}
theorem Iz(c:Nat)(h0:0<c)(h4:c<4):Oa Z 1 320 ["self","wanted","parts"] (oW Z.K (κ0.adr c)):=
 have S:az ["self","wanted","parts"] _ _:=fs;CG.F.ok S (λ_ H Q E h=>Bt h) λ_ A _ s H _ Q E _ h=>⟨_,b6 (ic (pv 0) (pv 1) rfl) (dj (ic (pv 0) (g0 lF (by rfl) gn (by decide+kernel) (aN (pv 2) bx)) rfl)),NP (xC.cls c h4) (xC.nw c h0 h4) (xC.np c h0 h4) h⟩
theorem UE:Oa Z 1 273 ["self","name"] (vq (κ0.adr 0)):=
 have S:az ["self","name"] _ _:=fs;Mm.F.ok S (λ_ H Q E h=>Gm h) λ_ A _ s H _ Q E _ h=>⟨_,dj (ic (pv 0) (pv 1) rfl),J2 (xC.cls 0 ∅) xC.nn h⟩
theorem UG:Oa Z 2 361 ["self","parts"] (qO Z.K (κ0.adr 1) λys=>(ys.length:Nat)):=
 have S:az ["self","parts"] _ _:=fs;Mn.F.ok S (λ_ H Q E h=>Bu h) λ_ A _ s H _ Q E hr h=>⟨_,dj (eL (qN xC.cf (Iz 1 ∅ ∅) hr (by rfl) xC.gC CG.b (aN (pv 0) (aN (ie mI (by rfl) gn PySem.boot_len (aN (pv 1) bx)) (aN (pv 1) bx))))),Gk NR h⟩
theorem UH:Oa Z 2 394 ["self","parts"] (qO Z.K (κ0.adr 2) λ_=>1):=
 have S:az ["self","parts"] _ _:=fs;Mo.F.ok S (λ_ H Q E h=>Bu h) λ_ A _ s H _ Q E hr h=>⟨_,dj (eL (qN xC.cf (Iz 2 ∅ ∅) hr (by rfl) xC.gC CG.b (aN (pv 0) (aN uJ (aN (pv 1) bx))))),Gk NS h⟩
theorem UI:Oa Z 2 427 ["self","many","parts"] (oW Z.K (κ0.adr 3)):=
 have S:az ["self","many","parts"] _ _:=fs;Mp.F.ok S (λ_ H Q E h=>Bt h) λ_ A _ s H _ Q E hr h=>⟨_,dj (eL (qN xC.cf (Iz 3 ∅ ∅) hr (by rfl) xC.gC CG.b (aN (pv 0) (aN (pv 1) (aN (pv 2) bx))))),NQ h⟩
theorem sy:Oa Z 1 157 ["group","hand"] (eY Z.K κ0 false dw):=
 have S:az ["group","hand"] _ _:=fs;aY d9.F S λ_ A _ s H E hr=>have nd:=S.nd;(ay (bH (l7 (eB hr (DE.b (qD (DE.b (FL (ae 0) (ae 1))) (DE.b aj))) (DE.b aj)))))
theorem sC:Oa Z 2 162 ["group"] (eY Z.K κ0 true dz):=
 have S:az ["group"] _ _:=fs;aY eg.F S λ_ A _ s H E hr=>have nd:=S.nd;(ay (jC (ji (mT (DE.b (JT (ae 0))) gn) (aC (eZ 18)) ["group"] ["group"] (λ_ _ s H=>(jB (aR (sy.mono ∅) hr d9.m d9.F.kp d9.b (aa (ah 1) (aa (ah 0) ao))))) (λ_ _ s H=>(ah 0)))))
theorem CH:Oa Z 3 181 ["group"] (eY Z.K κ0 false F_place):=
 have S:az ["group","hands"] ["group"] _:=fs;aY kJ.F S λ_ A _ s H E hr=>have nd:=S.nd;(aq (ba 1 nd (DO.e (fj (sC.mono ∅) hr eg.m eg.F.kp eg.b (aa (ah 0) ao)))) (ay (bH (cN (aa (cy (ae 1) gn) (aa (ah 1) ao))))))
theorem IA:Oa Z 1 188 ["one","two"] (eY Z.K κ0 false iC):=
 have S:az ["one","two"] _ _:=fs;aY lA.F S λ_ A _ s H E hr=>have nd:=S.nd;(ay (bH (l7 (eB hr (DE.b (qD (ae 0) (ae 1))) (ae 0)))))
theorem wo:Oa Z 2 200 ["ladder","group"] (eY Z.K κ0 false bN):=
 have S:az ["ladder","group"] _ _:=fs;aY et.F S λ_ A _ s H E hr=>have nd:=S.nd;(ay (bH (NA (DO.b (iP (eG (ae 0)) (aC (eZ 25)) ["ladder","group"] ["ladder","group"] (λ_ _ s H=>(aR (IA.mono ∅) hr lA.m lA.F.kp lA.b (aa (ah 0) (aa (ah 2) ao)))))) gn)))
theorem CI:Oa Z 6 207 ["groups"] (eY Z.K κ0 true lg):=
 have S:az ["groups","ladder","group"] ["groups"] _:=fs;aY kK.F S λ_ A _ s H E hr=>have nd:=S.nd;(aq (mS 1 nd (fV ao)) (aq (kg (vg (DO.e (zC CH (hr.mono ∅) kJ.b place_key gn kJ.m (ae 0)))) (cI 2 nd) (ay (dh (kf (jB (FY (wo.mono ∅) hr et.m et.F.kp et.b (wZ (ae 1) (wZ (ae 2) JJ))))) (ay (hJ 1 (aa (ah 2) ao))) bR))) (ay (pP 1))))
theorem pq:Oa Z 6 195 ["count"] (eY Z.K κ0 true gj):=
 have S:az ["count"] _ _:=fs;aY dF.F S λ_ A _ s H E hr=>have nd:=S.nd;(ay (jC (zD CH (hr.mono ∅) kJ.b place_key gn gn kJ.m (DE.b (lZ (DE.b aj) (ae 0))))))
theorem ED:Oa Z 3 212 ["ladders","group"] (eY Z.K κ0 false lh):=
 have S:az ["ladders","group"] _ _:=fs;aY jN.F S λ_ A _ s H E hr=>have nd:=S.nd;(ay (bH (cy (DO.b (ji (eG (ae 0)) (aC (eZ 28)) ["ladders","group"] ["ladders","group"] (λ_ _ s H=>(jB (aR (wo.mono ∅) hr et.m et.F.kp et.b (aa (ah 0) (aa (ah 2) ao))))) (λ_ _ s H=>(ah 0)))) gn)))
theorem OO:Oa Z 7 217 ["many","ladders"] (eY Z.K κ0 true jI):=
 have S:az ["many","ladders"] _ _:=fs;aY qa.F S λ_ A _ s H E hr=>have nd:=S.nd;(ay (jC (fj (CI.mono ∅) hr gm kK.F.kp kK.b (aa (DO.e (ji (eG (DO.b (fj (pq.mono ∅) hr dF.m dF.F.kp dF.b (aa (mW nR) ao)))) (aC (eZ 29)) ["many","ladders"] ["many","ladders"] (λ_ _ s H=>(a9 (Qp (DE.b (aR (ED.mono ∅) hr jN.m jN.F.kp jN.b (aa (ah 2) (aa (ah 0) ao)))) (ae 1)))) (λ_ _ s H=>(ah 0)))) ao))))
theorem iK:Oa Z 1 169 ["roll","names"] (eY Z.K κ0 false cu):=
 have S:az ["roll","names","group","name"] ["roll","names"] _:=fs;aY bD.F S λ_ A _ s H E _=>have nd:=S.nd;(aq (ba 2 nd aj) (aq (kg (vg (ah 1)) (cI 3 nd) (aq (dh (a9 (xf (ae 3) (ae 0))) (ay eI) bR) (ay (ba 2 nd (FJ (ae 2) (DE.b (lZ (DE.b aj) (DE.b (Gx (ae 0) (ae 3)))))))))) (ay (bH (ah 2)))))
theorem eE{gk:Nat->FP}(Mq:8<=k0)(iL:fq mw Z.w Z.K Z.mg Z.base κ0 true "ladder" k0 ["self","roll"] gk):Oa Z (k0+1) 330 ["self","roll"] (eY Z.K κ0 true (fn true 2 2 (cH jI gk))):=
 have S:az ["self","roll"] _ _:=fs;aY c8.F S λ_ A _ s H E hr=>have nd:=S.nd;(ay (jC (fj (OO.mono (Zd ∅ Mq)) hr qa.m qa.F.kp qa.b (aa (bF rfl (xC.cR _) (ae 0)) (aa (DO.e (iP (JO (DE.b (bF rfl (xC.cR _) (ae 0)))) (aC (jV 33 2)) ["self","roll"] ["self","roll"] (λ_ _ s H=>(DO.e (pT iL hr (ah 0) (aa (ah 2) ao)))))) ao)))))
theorem pH(Mq:8<=k0):Oa Z (k0+1) 301 ["self","roll"] (eY Z.K κ0 true (fn true 2 2 (kB cu))):=
 have S:az ["self","roll"] _ _:=fs;aY jU.F S λ_ A _ s H E hr=>have nd:=S.nd;(ay (jC (fV (aa (aR (iK.mono (Zd ∅ Mq)) hr bD.m bD.F.kp bD.b (aa (ah 1) (aa (DO.e (fV (aa (bF rfl (xC.cR _) (ae 0)) ao))) ao))) ao))))
theorem sD:∀n:Nat,fq mw Z.w Z.K Z.mg Z.base κ0 true "ladder" (8+1*n) ["self","roll"] (eo n)
 |0=>λc _ p h=>by cases h
 |n+1=>by
  have iL:=sD n
  have Mq:8<=8+1*n:=by omega
  exact λc _ p h=>match c,h with
   |0,_=>⟨_,_,xC.cls 0 ∅,mt,∅,pH Mq,jU.b⟩
   |1,_=>⟨_,_,xC.cls 1 ∅,mt,∅,eE Mq iL,c8.b⟩
   |2,_=>⟨_,_,xC.cls 2 ∅,mt,∅,eE Mq iL,c8.b⟩
   |3,_=>⟨_,_,xC.cls 3 ∅,mt,∅,eE Mq iL,c8.b⟩
   |_+4,h=>by cases h
theorem iL:fq mw Z.w Z.K Z.mg Z.base κ0 true "ladder" 32 ["self","roll"] gk:=sD 24
theorem i8:Oa Z 1 536 ["day"] (eY Z.K κ0 false cj):=
 have S:az ["day"] _ _:=fs;aY bJ.F S λ_ A _ s H E _=>have nd:=S.nd;(ay (dh (a9 (wY (ae 0) (DE.b aj))) (ay eI) bR))
theorem nT:Oa Z 2 543 ["first","last"] (eY Z.K κ0 false gO):=
 have S:az ["first","last"] _ _:=fs;aY cX.F S λ_ A _ s H E hr=>have nd:=S.nd;(aq (vf (DE.b (aR (i8.mono ∅) hr bJ.m bJ.F.kp bJ.b (aa (ah 0) ao)))) (ay (dh (a9 (wY (ae 1) (ae 0))) (ay eI) bR)))
theorem EE:Oa Z 1 143 ["text"] (eY Z.K κ0 false f9):=
 have S:az ["text"] _ _:=fs;aY jO.F S λ_ A _ s H E _=>have nd:=S.nd;(aq (dh (DW.t (LJ (a9 (F3 (ae 0) (DE.b (D2 wg)))) (FR (kf (iw (DE.b aj) (DE.b (cy (ae 0) gn)) (DE.b (mW wm))))))) (ay (bH tS)) bR) (ay (bH (NB (DO.b (iP (J9 (ae 0)) (aC (eZ 15)) ["text"] ["text"] (λ_ _ s H=>(xw (DE.b aZ) (ae 0) (DE.b aZ))))) gn))))
theorem EF:Oa Z 2 150 ["names"] (eY Z.K κ0 false oM):=
 have S:az ["names","roll","name"] ["names"] _:=fs;aY jP.F S λ_ A _ s H E hr=>have nd:=S.nd;(aq (dh (kf (iw (DE.b aj) (DE.b (cy (ae 0) gn)) (DE.b (mW nR)))) (ay eI) bR) (aq (mS 1 nd (fV ao)) (aq (kg (vg (ah 0)) (cI 2 nd) (aq (dh (kf (jB (aR (EE.mono ∅) hr jO.m jO.F.kp jO.b (aa (ah 2) ao)))) (ay eI) bR) (aq (dh (a9 (F3 (ae 2) (ae 1))) (ay eI) bR) (ay (hJ 1 (aa (ah 2) ao)))))) (ay (bH (qQ (ae 1) gn))))))
theorem kM:Oa Z 1 548 ["signers","group"] (eY Z.K κ0 false d5):=
 have S:az ["signers","group"] _ _:=fs;aY cw.F S λ_ A _ s H E hr=>have nd:=S.nd;(ay (bH (NI (DO.b (ji (mT (DE.b (cy (ae 0) gn)) gn) (aC (eZ 47)) ["signers","group"] ["signers","group"] (λ_ _ s H=>(a9 (xc hr (DE.b (qD (DE.b (bu (ae 1) (ae 0))) (ae 2))) (DE.b aj)))) (λ_ _ s H=>(lZ (DE.b aj) (ae 0))))) gn)))
theorem UJ:Oa Z 1 454 ["text","word"] (eY Z.K κ0 false cG):=
 have S:az ["text","word","signs","one","two"] ["text","word"] _:=fs;aY CF.F S λ_ A _ s H E hr=>have nd:=S.nd;(aq (ba 2 nd aj) (aq (kg (Kd (ah 0) (ah 1) gn) (Bf (cI 3 nd) (cI 4 nd)) (aq (dh (a9 (xc hr (ae 3) (ae 4))) (ay FV) bR) (ay (xZ 2 nd (DE.b aj))))) (ay (bH (ah 2)))))
theorem RE:Oa Z 1 487 ["self","sign"] (eY Z.K κ0 false iV):=
 have S:az ["self","sign"] _ _:=fs;aY Iw.F S λ_ A _ s H E hr=>have nd:=S.nd;(ay (bH (l7 (eB hr (DE.b (eS (DE.b (bF rfl (xC.cR _) (ae 0))) (dr (DE.b (bF rfl (xC.cR _) (ae 0)))) (dr (DE.b (bq (DE.b (bF rfl (xC.cR _) (ae 0))) (DE.b aj)))))) (ae 1)))))
theorem UK:Oa Z 2 480 ["self"] (yX Z.K κ0 false gh):=
 have S:az ["self","rest","reach"] ["self"] _:=fs;xJ Mi.F S λ_ A _ s H E hr=>have nd:=S.nd;have q:=xC.q;(de (BA q 1 nd (eS (DE.b (bF rfl (xC.cR _) (ae 0))) (dr (DE.b (bF rfl (xC.cR _) (ae 0)))) jD)) (de (BA q 2 nd (J4 (DO.b (iP (eG (DE.b (bF rfl (xC.cR _) (ae 0)))) (aC (jV 42 1)) ["self","rest","reach"] ["self","rest","reach"] (λ_ xC s H=>(aR (UJ.mono ∅) hr CF.m CF.F.kp CF.b (aa (ah 2) (aa (ah 0) ao)))))) gn)) (de (GN q (ah 2)) (de (xI q (a9 (xf (DE.b (eS (ae 1) jD (dr (ae 2)))) (DE.b (bF rfl (xC.cR _) (ae 0))))) (fz nB) ny) (fz (Kk q (eS (ae 1) jD (dr (ae 2)))))))))
theorem IB:Oa Z 2 494 ["self","sign"] (yX Z.K κ0 false cT):=
 have S:az ["self","sign"] _ _:=fs;xJ CB.F S λ_ A _ s H E hr=>have nd:=S.nd;have q:=xC.q;have M:=o5 xC.rc rfl mt RE Iw.b;(de (xI q (kf (jB (pS M hr (ah 0) (aa (ah 1) ao)))) (fz nB) ny) (fz (GN q aj)))
theorem UL:Oa Z 5 461 ["opening","parts"] (eY Z.K κ0 false bI):=
 have S:az ["opening","parts"] _ _:=fs;aY Iy.F S λ_ A _ s H E hr=>have nd:=S.nd;(aq (dh (a9 (eB hr (ae 0) (DE.b aZ))) (ay (bH (Gq xC.kA UG rfl (hr.mono ∅) xC.gA Mn.b (ae 1)))) bR) (aq (dh (a9 (eB hr (ae 0) (DE.b aZ))) (ay (bH (Gu xC.kY UH rfl (hr.mono ∅) xC.gY Mo.b (ae 1)))) bR) (ay (bH (Du xC.kS UI rfl (hr.mono ∅) xC.gS Mp.b (DE.b (Bz xD (ae 0))) (ae 1))))))
theorem UM:Oa Z 1 515 ["self"] (yX Z.K κ0 false f6):=
 have S:az ["self"] _ _:=fs;xJ Ml.F S λ_ A _ s H E _=>have nd:=S.nd;have q:=xC.q;(fz (xI q (a9 (wY (DE.b (bF rfl (xC.cR _) (ae 0))) (DE.b (cy (DE.b (bF rfl (xC.cR _) (ae 0))) gn)))) (fz nB) ny))
theorem RF{FT:FQ}{k:Nat}(hk:2<=k)(Gr:Oa Z k 508 ["self"] (yX Z.K κ0 false FT)):Oa Z (k+1) 501 ["self","fewest"] (yX Z.K κ0 true (pG true 3 2 (dB FT))):=
 have S:az ["self","fewest","parts"] ["self","fewest"] _:=fs;xJ Mj.F S λ_ A _ s H E hr=>have nd:=S.nd;have q:=xC.q;have M:=(o5 xC.rc rfl mt RE Iw.b).mono (Zd ∅ hk);have IB:=IB.mono hk;(de (GU 2 nd (qW q mt Gr hr CD.b)) (de (GO q 10 (DW.t (LJ (a9 (wY (DE.b (cy (ae 2) gn)) (ae 1))) (FR (kf (jB (pS M hr (ah 0) (aa aZ ao))))))) (de (xI q (a9 (eB hr (DE.b (cy (ae 2) gn)) (DE.b (mW wj)))) (fz nB) ny) (de (vx (pW q mt IB hr CB.b (aa aZ ao))) (de (vx (pW q mt IB hr CB.b (aa aZ ao))) (fz (N7 2 (qW q mt Gr hr CD.b))))))) (de (vx (pW q mt IB hr CB.b (aa aZ ao))) (fz (Kn 2)))))
theorem RG{FP:FQ}{k:Nat}(hk:5<=k)(Gp:Oa Z k 501 ["self","fewest"] (yX Z.K κ0 true FP)):Oa Z (k+1) 508 ["self"] (yX Z.K κ0 false (pG false 2 1 (dZ FP))):=
 have S:az ["self","word"] ["self"] _:=fs;xJ CD.F S λ_ A _ s H E hr=>have nd:=S.nd;have q:=xC.q;(de (Ko 1 nd (qW q mt (UK.mono (Zd ∅ hk)) hr Mi.b)) (de (xI q (a9 (DJ xD (ae 1))) (fz (Km (Ds xC.kH UE rfl (hr.mono (Zd ∅ hk)) xC.gH Mm.b (ae 1)))) ny) (fz (Kw q (UL.mono hk) hr gm Iy.F.kp Iy.b (ah 1) (pW q mt Gp hr Mj.b (aa (Bz xD (ae 1)) ao))))))
theorem AG{k:Nat}{f:Addr}{fd:FuncData}{ps:List Str}{fr:Bool}:dS mw Z.w Z.K Z.mg Z.base qk k f fd ps (yX Z.K κ0 fr λ_ _ _=>none):=
 have no:∀{vs:List V} {H:Hp} {Q:VK} {E:XK},yX Z.K κ0 fr (λ_ _ _=>none) vs H Q E->False:=λ⟨_,_,_,_,_,_,_,_,_,_,_,_,_,_,_,_,z,_⟩=>by cases z
 ⟨λ_ _ _ _ h=>(no h).elim,λ_ _ _ _ _ _ _ _ _ _ _ _ _ h=>(no h).elim⟩
theorem IC:∀n:Nat,Oa Z (4+2*n) 508 ["self"] (yX Z.K κ0 false (cz n))
 |0=>AG
 |n+1=>RG (k:=4+2*n+1) ⋯ (RF ⋯ (IC n))
theorem UN:Oa Z 52 508 ["self"] (yX Z.K κ0 false (cz 24)):=IC 24
theorem ID:(p6.map (·.1)).Nodup:=by decide+kernel
theorem UO:Oa Z 1 475 ["self","roll","text"] (N9 Z.K κ0 ml):=
 have S:az ["self","roll","text"] _ _:=fs;DZ Mh.F S λ_ A _ s H E _=>have nd:=S.nd;Q2 xC.q xC.q2 (bq (DO.b (vi (ae 1) gn)) (DO.b (GI xD ID ∅ gn))) (ah 2)
theorem OP:Oa Z 53 529 ["roll","text"] (eY Z.K κ0 false rJ):=
 have S:az ["roll","text","reading","rule"] ["roll","text"] _:=fs;aY qb.F S λ_ A _ s H E hr=>have nd:=S.nd;GX xC.q 2 3 nd mk (UO.mono (by decide:1<=51)) hr gm Mh.b mt UN hr CD.b mt (UM.mono (by decide:1<=52)) hr Ml.b (aa (ah 0) (aa (ah 1) ao))
theorem AH:Oa Z 3 174 ["roll","group"] (eY Z.K κ0 true mm):=
 have S:az ["roll","group"] _ _:=fs;aY iY.F S λ_ A _ s H E hr=>have nd:=S.nd;(aq (dh (kf (zZ (DE.b aj) (ae 1) (DE.b (lZ (DE.b aj) (DE.b (cy (ae 0) gn)))))) (ay eI) bR) (ay (jC (iP (eG (DO.b (fj (sC.mono ∅) hr eg.m eg.F.kp eg.b (aa (ah 1) ao)))) (aC (eZ 20)) ["roll","group"] ["roll","group"] (λ_ _ s H=>(bu (ae 1) (ae 0)))))))
theorem cY:Oa Z 1 665 ["_law_script","_law_k"] (eY Z.K κ0 false F_law_cell_at):=
 have S:az ["_law_script","_law_k"] _ _:=fs;aY aJ.F S λ_ A _ s H E _=>have nd:=S.nd;(aq (dh (a9 (wY (ae 1) (DE.b (cy (ae 0) gn)))) (ay (bH (bu (ae 0) (ae 1)))) bR) (ay (bH aj)))
theorem AI:Oa Z 1 679 ["_law_base_here","_law_place","_law_size","_law_k"] (eY Z.K κ0 false bY):=
 have S:az ["_law_base_here","_law_place","_law_size","_law_k","_law_letters","_law_other"] ["_law_base_here","_law_place","_law_size","_law_k"] _:=fs;aY iZ.F S λ_ A _ s H E _=>have nd:=S.nd;(aq (ba 4 nd aZ) (aq (ba 5 nd (bu (ae 4) (DE.b (bA (DE.b (bq (DE.b (JY (ae 4) (DE.b (bu (ae 0) (ae 1))))) (DE.b (jA (DE.b aj) (ae 3))))) (DE.b aj))))) (ay (bH (bq (DE.b (bq (DE.b (eS (ae 0) jD (dr (ae 1)))) (ae 5))) (DE.b (eS (ae 0) (dr (DE.b (bq (ae 1) (DE.b aj)))) (dr (ae 2)))))))))
theorem AJ:Oa Z 1 672 ["_law_cell","_law_size"] (eY Z.K κ0 false F_law_base):=
 have S:az ["_law_cell","_law_size","_law_number","_law_found","_law_k"] ["_law_cell","_law_size"] _:=fs;aY i0.F S λ_ A _ s H E _=>have nd:=S.nd;(aq (ba 2 nd (bA (DE.b (bq (DE.b (jA (DE.b (bA (ae 0) (DE.b aj))) (DE.b aj))) (DE.b aj))) (DE.b aj))) (aq (ba 3 nd aZ) (aq (kg (pQ (ae 1) gn) (cI 4 nd) (aq (ba 2 nd (bA (DE.b (bq (DE.b (bq (DE.b (bq (DE.b (jA (ae 2) (ae 2))) (DE.b (jA (DE.b aj) (ae 2))))) (ae 4))) (DE.b aj))) (DE.b aj))) (ay (ba 3 nd (bq (ae 3) (DE.b (bu (DE.b aZ) (DE.b (bA (ae 2) (DE.b aj)))))))))) (ay (bH (ah 3))))))
theorem yP:Oa Z 2 686 ["_law_script","_law_at","_law_many"] (eY Z.K κ0 true eV):=
 have S:az ["_law_script","_law_at","_law_many","_law_cell","_law_size","_law_more","_law_word","_law_base_here","_law_names_here","_law_k","_law_name_here"] ["_law_script","_law_at","_law_many"] _:=fs;aY gW.F S λ_ A _ s H E hr=>have nd:=S.nd;(aq (ba 3 nd (aR (cY.mono ∅) hr aJ.m aJ.F.kp aJ.b (aa (ah 0) (aa (ah 1) ao)))) (aq (ba 4 nd (bq (DE.b aj) (DE.b (bA (ae 3) (DE.b aj))))) (aq (ba 5 nd (aR (cY.mono ∅) hr aJ.m aJ.F.kp aJ.b (aa (ah 0) (aa (bq (ae 1) (DE.b aj)) ao)))) (aq (ba 6 nd (bu (DO.b (fV (aa aZ (aa aZ (aa aZ (aa aZ (aa aZ (aa aZ (aa aZ (aa aZ ao)))))))))) (DE.b (bA (ae 5) (DE.b aj))))) (aq (ba 7 nd (eS (DE.b (bq (ae 6) (DE.b (aR (AJ.mono ∅) hr i0.m i0.F.kp i0.b (aa (iq (ae 5) (DE.b aj)) (aa aj ao)))))) jD (dr (DE.b aj)))) (aq (mS 8 nd (fV ao)) (aq (kg (pQ (ae 2) gn) (cI 9 nd) (aq (ba 10 nd (aR (AI.mono ∅) hr iZ.m iZ.F.kp iZ.b (aa (ah 7) (aa (bA (DE.b (iq (ae 3) (DE.b aj))) (ae 4)) (aa (ah 4) (aa (ah 9) ao)))))) (aq (dh (a9 (eB hr (DE.b (bA (DE.b (iq (ae 3) (DE.b aj))) (DE.b aj))) (DE.b aj))) (ay (ba 10 nd (eS (ae 7) jD (dr (DE.b (bq (ae 9) (DE.b aj))))))) bR) (aq (dh (a9 (F3 (ae 10) (DE.b (cN (aa aZ (aa aZ (aa aZ ao))))))) (ay (ba 10 nd (J6 (ae 10) (DE.b (Nq (DE.b aj)))))) bR) (ay (hJ 8 (aa (ah 10) ao))))))) (ay (pP 8)))))))))
theorem AK:Oa Z 3 693 ["_law_script"] (eY Z.K κ0 false rR):=
 have S:az ["_law_script"] _ _:=fs;aY i6.F S λ_ A _ s H E hr=>have nd:=S.nd;(ay (bH (qQ (DO.b (fj (yP.mono ∅) hr gW.m gW.F.kp gW.b (aa (ah 0) (aa aj (aa (bq (DE.b aj) (DE.b (bA (DE.b (aR (cY.mono ∅) hr aJ.m aJ.F.kp aJ.b (aa (ah 0) (aa aj ao)))) (DE.b aj)))) ao))))) gn)))
theorem yQ:Oa Z 1 700 ["_law_cell","_law_many"] (eY Z.K κ0 true kC):=
 have S:az ["_law_cell","_law_many","_law_number","_law_found","_law_k"] ["_law_cell","_law_many"] _:=fs;aY gX.F S λ_ A _ s H E _=>have nd:=S.nd;(aq (ba 2 nd (bA (DE.b (bq (DE.b (jA (DE.b (bA (ae 0) (DE.b aj))) (DE.b aj))) (DE.b aj))) (DE.b aj))) (aq (mS 3 nd (fV ao)) (aq (kg (pQ (ae 1) gn) (cI 4 nd) (aq (ba 2 nd (bA (DE.b (bq (DE.b (bq (DE.b (bq (DE.b (jA (ae 2) (ae 2))) (DE.b (jA (DE.b aj) (ae 2))))) (ae 4))) (DE.b aj))) (DE.b aj))) (ay (hJ 3 (aa (ah 2) ao))))) (ay (pP 3)))))
theorem pA:Oa Z 1 707 ["_law_found"] (eY Z.K κ0 false kD):=
 have S:az ["_law_found"] _ _:=fs;aY dG.F S λ_ A _ s H E _=>have nd:=S.nd;(ay (bH (ve (sT (ae 0) gn gn) (zw (JI (qF (ae 0) gn gn))))))
theorem AL:Oa Z 1 724 ["_law_entries"] (eY Z.K κ0 true iH):=
 have S:az ["_law_entries"] _ _:=fs;aY i7.F S λ_ A _ s H E _=>have nd:=S.nd;(ay (jC (ji (mT (DE.b (cy (ae 0) gn)) gn) (aC (eZ 59)) ["_law_entries"] ["_law_entries"] (λ_ _ s H=>(a9 (Bi (DE.b (bu (ae 1) (ae 0)))))) (λ_ _ s H=>(ah 0)))))
theorem tq:Oa Z 1 714 ["_law_number","_law_roll_here"] (eY Z.K κ0 false cW):=
 have S:az ["_law_number","_law_roll_here","_law_name_here","_law_other","_law_word","_law_shapes"] ["_law_number","_law_roll_here"] _:=fs;aY fG.F S λ_ A _ s H E _=>have nd:=S.nd;(aq (ba 2 nd (bu (ae 1) (DE.b (bA (ae 0) (DE.b (cy (ae 1) gn)))))) (aq (dh (a9 (Be (DE.b (bA (DE.b (iq (ae 0) (DE.b aj))) (DE.b aj))) (DE.b aj))) (ay (bH (cN (aa (cN (aa aZ (aa (ah 2) ao))) (aa (ah 2) ao))))) bR) (aq (ba 3 nd (bu (ae 1) (DE.b (bA (DE.b (iq (ae 0) (DE.b aj))) (DE.b (cy (ae 1) gn)))))) (aq (ba 4 nd (bu (DO.b (fV (aa aZ (aa aZ ao)))) (DE.b (bA (DE.b (iq (ae 0) (DE.b aj))) (DE.b aj))))) (aq (ba 5 nd (cN (aa (cN (aa aZ (aa (ah 2) ao))) (aa (cN (aa aZ (aa (ah 3) ao))) ao)))) (ay (bH (cN (aa (cN (aa (ah 4) (aa (ah 5) ao))) (aa (bq (DE.b (bq (DE.b (bq (DE.b (bq (DE.b (bq (ae 4) (DE.b aZ))) (ae 2))) (DE.b aZ))) (ae 3))) (DE.b aZ)) ao))))))))))
theorem tu:Oa Z 2 719 ["_law_xs","_law_roll_here"] (eY Z.K κ0 false eK):=
 have S:az ["_law_xs","_law_roll_here","_law_parts","_law_shapes","_law_texts","_law_many"] ["_law_xs","_law_roll_here"] _:=fs;aY fI.F S λ_ A _ s H E hr=>have nd:=S.nd;(aq (JR 2 nd (eG (DO.b (qE (ae 0) (dr (DE.b aj)) (dr (DE.b (bq (DE.b aj) (DE.b (bA (DE.b (bu (ae 0) (DE.b aj))) (DE.b aj))))))))) (aC (eZ 58)) ["_law_xs","_law_roll_here","_law_parts","_law_shapes","_law_texts","_law_many"] ["_law_xs","_law_roll_here","_law_parts","_law_shapes","_law_texts","_law_many"] (λ_ _ s H=>(aR (tq.mono ∅) hr fG.m fG.F.kp fG.b (aa (ah 0) (aa (ah 2) ao))))) (aq (ba 3 nd (qQ (DO.b (iP (eG (ae 2)) (aC (eZ 58)) ["_law_xs","_law_roll_here","_law_parts","_law_shapes","_law_texts","_law_many"] ["_law_xs","_law_roll_here","_law_parts","_law_shapes","_law_texts","_law_many"] (λ_ _ s H=>(bu (ae 0) (DE.b aj))))) gn)) (aq (ba 4 nd (bq (DE.b (J0 (DE.b aZ) (DO.b (iP (eG (ae 2)) (aC (eZ 58)) ["_law_xs","_law_roll_here","_law_parts","_law_shapes","_law_texts","_law_many"] ["_law_xs","_law_roll_here","_law_parts","_law_shapes","_law_texts","_law_many"] (λ_ _ s H=>(bu (ae 0) (DE.b aj))))))) (DE.b aZ))) (aq (dh (a9 (eB hr (DE.b (bA (DE.b (iq (DE.b (bu (ae 0) (DE.b aj))) (DE.b aj))) (DE.b aj))) (DE.b aj))) (ay (bH (cN (aa (cN (aa aZ (aa (ah 3) ao))) (aa (bq (DE.b aZ) (ae 4)) ao))))) bR) (aq (dh (a9 (eB hr (DE.b (bA (DE.b (iq (DE.b (bu (ae 0) (DE.b aj))) (DE.b aj))) (DE.b aj))) (DE.b aj))) (ay (bH (cN (aa (cN (aa aZ (aa (ah 3) ao))) (aa (bq (DE.b aZ) (ae 4)) ao))))) bR) (aq (dh (a9 (eB hr (DE.b (bA (DE.b (iq (DE.b (bu (ae 0) (DE.b aj))) (DE.b aj))) (DE.b aj))) (DE.b aj))) (aq (ba 5 nd (bq (DE.b aj) (DE.b (bA (DE.b (iq (DE.b (bu (ae 0) (DE.b aj))) (DE.b aj))) (DE.b (cy (ae 2) gn)))))) (ay (bH (cN (aa (cN (aa aZ (aa (ah 5) (aa (ah 3) ao)))) (aa (bq (DE.b (bq (DE.b (J1 (ae 5) gn)) (DE.b aZ))) (ae 4)) ao)))))) bR) (ay (bH (bu (ae 2) (DE.b aj))))))))))
theorem yR:Oa Z 3 731 ["_law_entries","_law_roll_here","_law_xs","_law_base_here"] (eY Z.K κ0 false gp):=
 have S:az ["_law_entries","_law_roll_here","_law_xs","_law_base_here","_law_many","_law_first","_law_last","_law_hand","_law_live_here"] ["_law_entries","_law_roll_here","_law_xs","_law_base_here"] _:=fs;aY gZ.F S λ_ A _ s H E hr=>have nd:=S.nd;(aq (ba 4 nd (cy (ae 1) gn)) (aq (ba 5 nd (bq (ae 3) (DE.b (bA (DE.b (bu (ae 2) (DE.b aj))) (DE.b aj))))) (aq (ba 6 nd (bq (DE.b (bq (ae 5) (DE.b (bA (DE.b (bu (ae 2) (DE.b aj))) (DE.b aj))))) (DE.b (jA (DE.b (FK (DE.b aj) (DE.b aj))) (DE.b (KH (DE.b (l7 (eB hr (DE.b (bA (DE.b (iq (DE.b (bu (ae 2) (DE.b aj))) (DE.b aj))) (DE.b aj))) (DE.b aj)))) gn)))))) (aq (ba 7 nd (bA (DE.b (bu (ae 2) (DE.b aj))) (ae 4))) (aq (ba 8 nd (DO.e (fj (AL.mono ∅) hr i7.m i7.F.kp i7.b (aa (ah 0) ao)))) (aq (dh (DW.t (vd (a9 (eB hr (DE.b (bA (DE.b (bu (ae 2) (DE.b aj))) (DE.b aj))) (DE.b aj))) (pO (a9 (xc hr (ae 8) (DO.b (fV ao))))))) (ay (bH (cN (aa aZ (aa (bu (ae 8) (DE.b (bA (DE.b (bu (ae 2) (DE.b aj))) (DE.b (cy (ae 8) gn))))) ao))))) bR) (aq (dh (DW.t (vd (a9 (Be (DE.b (bA (DE.b (bu (ae 2) (DE.b aj))) (DE.b aj))) (DE.b aj))) (pO (a9 (Be (ae 4) (DE.b aj)))))) (ay (bH (cN (aa aZ (aa (ah 7) (aa (bA (DE.b (bq (DE.b (bq (ae 7) (DE.b aj))) (DE.b (bA (DE.b (bu (ae 2) (DE.b aj))) (DE.b (qC (ae 4) (DE.b aj))))))) (ae 4)) (aa (ah 5) (aa (ah 6) ao)))))))) bR) (aq (dh (a9 (Be (DE.b (bA (DE.b (bu (ae 2) (DE.b aj))) (DE.b aj))) (DE.b aj))) (ay (bH (cN (aa aZ (aa (ah 7) (aa (ah 5) (aa (ah 6) ao))))))) bR) (ay (bH (cN (aa aZ (aa (bq (ae 3) (DE.b (bA (DE.b (bu (ae 2) (DE.b aj))) (DE.b aj)))) (aa (aR (tu.mono ∅) hr fI.m fI.F.kp fI.b (aa (DO.e (qE (ae 2) (dr (DE.b aj)) jD)) (aa (ah 1) ao))) ao))))))))))))))
theorem uF:Oa Z 3 562 ["self","names"] (N6 Z.K κ0 ll):=have S:az ["self","names"] _ _:=fs;DY mr.F S rfl rfl λ_ A _ s H E hr=>QX xC.c5 (aR (EF.mono ∅) hr jP.m jP.F.kp jP.b (aa (ah 1) ao))
theorem fJ:Oa Z 1 569 ["self"] (EK (FB Z.K κ0 rfl) (λa=>[a.x]) cU):=have S:az ["self"] _ _:=fs;qY (js:=[0]) 1 dD.F S (λ_=>rfl) (λ_=>oz) ∅ λ_ A _ s H E _=>have nd:=S.nd;(aV (N5 xC.c5 aj) (bE (fD (qC (DE.b (bF rfl (xC.cR _) (ae 0))) (DE.b aj)))))
theorem EG:Oa Z 60 576 ["self","day","text"] (EK (FB Z.K κ0 rfl) (λa=>[a.x]) oN):=have S:az ["self","day","text","ladder","number"] ["self","day","text"] _:=fs;qY (js:=[0]) 1 sx.F S (λ_=>rfl) (λ_=>oz) ∅ λ_ A _ s H E hr=>have nd:=S.nd;(aV (nD (aR (i8.mono ∅) hr bJ.m bJ.F.kp bJ.b (aa (ah 1) ao))) (aV (Kp 3 nd (pT (iL.mono ∅) hr (aR (OP.mono ∅) hr qb.m qb.F.kp qb.b (aa (bF rfl (xC.cR _) (ae 0)) (aa (ah 2) ao))) (aa (bF rfl (xC.cR _) (ae 0)) ao))) (aV (nE 4 nd (qZ (fL.id _) xC.c5 mt (fJ.mono ∅) hr dD.b 0)) (aV (zX xC.c5 0 (mJ hr) (ah 4) (cN (aa (ah 1) (aa (ah 3) ao)))) (bE (fD (ah 4)))))))
theorem uG:Oa Z 3 583 ["self","name","first","last"] (EK (FB Z.K κ0 rfl) (λa=>[a.x]) lq):=have S:az ["self","name","first","last","hand","number"] ["self","name","first","last"] _:=fs;qY (js:=[0]) 1 mv.F S (λ_=>rfl) (λ_=>oz) ∅ λ_ A _ s H E hr=>have nd:=S.nd;(aV (vz 4 nd (aR (iK.mono ∅) hr bD.m bD.F.kp bD.b (aa (bF rfl (xC.cR _) (ae 0)) (aa (DO.e (fV (aa (ah 1) ao))) ao)))) (aV (nD (aR (nT.mono ∅) hr cX.m cX.F.kp cX.b (aa (ah 2) (aa (ah 3) ao)))) (aV (nE 5 nd (qZ (fL.id _) xC.c5 mt (fJ.mono ∅) hr dD.b 0)) (aV (zX xC.c5 1 (mJ hr) (ah 5) (cN (aa (ah 4) (aa (ah 2) (aa (ah 3) ao))))) (bE (fD (ah 5)))))))
theorem yS:Oa Z 3 590 ["self","name","hand","first","last"] (EK (FB Z.K κ0 rfl) (λa=>[a.x]) kE):=have S:az ["self","name","hand","first","last","signer","role","number"] ["self","name","hand","first","last"] _:=fs;qY (js:=[0]) 1 nS.F S (λ_=>rfl) (λ_=>oz) ∅ λ_ A _ s H E hr=>have nd:=S.nd;(aV (vz 5 nd (aR (iK.mono ∅) hr bD.m bD.F.kp bD.b (aa (bF rfl (xC.cR _) (ae 0)) (aa (DO.e (fV (aa (ah 1) ao))) ao)))) (aV (vz 6 nd (aR (iK.mono ∅) hr bD.m bD.F.kp bD.b (aa (bF rfl (xC.cR _) (ae 0)) (aa (DO.e (fV (aa (ah 2) ao))) ao)))) (aV (jj (a9 (eB hr (ae 5) (ae 6))) (bE xN) fB) (aV (nD (aR (nT.mono ∅) hr cX.m cX.F.kp cX.b (aa (ah 3) (aa (ah 4) ao)))) (aV (nE 7 nd (qZ (fL.id _) xC.c5 mt (fJ.mono ∅) hr dD.b 0)) (aV (zX xC.c5 2 (mJ hr) (ah 7) (cN (aa (ah 5) (aa (ah 6) (aa (ah 3) (aa (ah 4) ao)))))) (bE (fD (ah 7)))))))))
theorem yT:Oa Z 1 597 ["self","number"] (EK (FB Z.K κ0 rfl) (λa=>[a.x]) kG):=have S:az ["self","number"] _ _:=fs;qY (js:=[0]) 1 gU.F S (λ_=>rfl) (λ_=>oz) ∅ λ_ A _ s H E hr=>have nd:=S.nd;(bE (jj (a9 (oy (mJ hr) (ae 1) (DE.b (bF rfl (xC.cR _) (ae 0))))) (bE (zY xC.c5 0 (ah 1))) (bE (jj (a9 (oy (mJ hr) (ae 1) (DE.b (bF rfl (xC.cR _) (ae 0))))) (bE (zY xC.c5 1 (ah 1))) (bE (jj (a9 (oy (mJ hr) (ae 1) (DE.b (bF rfl (xC.cR _) (ae 0))))) (bE (zY xC.c5 2 (ah 1))) (bE xN)))))))
theorem wq:Oa Z 1 611 ["self","day"] (eY Z.K κ0 false gQ):=have S:az ["self","day","group","hand","first","last"] ["self","day"] _:=fs;aY lP.F S λ_ A _ s H E _=>have nd:=S.nd;(aq (ba 2 nd aj) (aq (vF rfl 3 xC.c5 (Ge (iA (cI 3 nd) (iA (cI 4 nd) (iA (cI 5 nd) Bq)))) (ay (dh (iw (ae 4) (ae 1) (ae 5)) (ay (ba 2 nd (FJ (ae 2) (ae 3)))) bR))) (ay (bH (ah 2)))))
theorem AM:fq mw Z.w Z.K Z.mg Z.base κ0 false "away_on" 1 ["self","day"] (dY gQ):=kn xC.c5 rfl mt wq lP.b
theorem oQ:Oa Z 1 618 ["self","day","role"] (eY Z.K κ0 false cC):=have S:az ["self","day","role","group","signer","hand","first","last"] ["self","day","role"] _:=fs;aY iX.F S λ_ A _ s H E hr=>have nd:=S.nd;(aq (ba 3 nd aj) (aq (vF rfl 4 xC.c5 (Ge (iA (cI 4 nd) (iA (cI 5 nd) (iA (cI 6 nd) (iA (cI 7 nd) Bq))))) (ay (dh (DW.t (vd (a9 (eB hr (ae 5) (ae 2))) (pO (iw (ae 6) (ae 1) (ae 7))))) (ay (ba 3 nd (FJ (ae 3) (ae 4)))) bR))) (ay (bH (ah 3)))))
theorem sE:fq mw Z.w Z.K Z.mg Z.base κ0 false "deputies_on" 1 ["self","day","role"] (dY cC):=kn xC.c5 rfl mt oQ iX.b
theorem pI:Oa Z 2 625 ["self","day"] (eY Z.K κ0 true dJ):=have S:az ["self","day","there","signers","hand","role"] ["self","day"] _:=fs;aY ju.F S λ_ A _ s H E hr=>have nd:=S.nd;(aq (ba 2 nd (qC (DE.b (qC (DE.b (lZ (DE.b aj) (DE.b (cy (DE.b (bF rfl (xC.cR _) (ae 0))) gn)))) (DE.b aj))) (DE.b (pS (AM.mono ∅) hr (ah 0) (aa (ah 1) ao))))) (aq (mS 3 nd (fV ao)) (aq (kg (pQ (DE.b (cy (DE.b (bF rfl (xC.cR _) (ae 0))) gn)) gn) (cI 4 nd) (aq (ba 5 nd (lZ (DE.b aj) (ae 4))) (ay (dh (jB (aR (sy.mono ∅) hr d9.m d9.F.kp d9.b (aa (ah 2) (aa (ah 4) ao)))) (ay (hJ 3 (aa (ah 5) ao))) (ay (hJ 3 (aa (qD (DE.b (pS (sE.mono ∅) hr (ah 0) (aa (ah 1) (aa (ah 5) ao)))) (ae 2)) ao))))))) (ay (pP 3)))))
theorem lQ:fq mw Z.w Z.K Z.mg Z.base κ0 true "signers_on" 2 ["self","day"] (dY dJ):=kn xC.c5 rfl mt pI ju.b
theorem kN:dS mw Z.w Z.K Z.mg Z.base (lL mw Z.w) 1 604 (fA Z.K 604) ["self","day"] (Uj Z.K κ0 (sv 135 123) d6):=have S:az ["self","day","found","latest","first","ladder"] ["self","day"] _:=fs;G5 (sv 135 123) gI.F S λ_ A _ s H E _ hp hx=>have nd:=S.nd;(rq (ba 2 nd FH) (rq (ba 3 nd aj) (rq (vF (hp:=hp) rfl 2 xC.c5 (Bf (cI 4 nd) (cI 5 nd)) (ay (dh (iw (ae 3) (ae 4) (ae 1)) (aq (ba 2 nd (ah 5)) (ay (ba 3 nd (ah 4)))) bR))) (KC 0 (a9 (zz (ae 2))) xe gm (hx 135) G3 (ah 2)) KI) rh) rh)
theorem IE:dS mw Z.w Z.K Z.mg Z.base (lL mw Z.w) 3 632 (fA Z.K 632) ["self","day","names"] (Pf Z.K κ0 (sv 135 123) nM):=have S:az ["self","day","names","group","ladder"] ["self","day","names"] _:=fs;rj (sv 135 123) uE.F S λ_ A _ s H E hr _ _=>have nd:=S.nd;(iB (o6 (vf (DE.b (aR (i8.mono ∅) hr bJ.m bJ.F.kp bJ.b (aa (ah 1) ao)))) BW) (iB (o6 (ba 3 nd (aR (iK.mono ∅) hr bD.m bD.F.kp bD.b (aa (bF rfl (xC.cR _) (ae 0)) (aa (ah 2) ao)))) rh) (iB (G6 rfl 4 xC.c5 nd mt (kN.mono ∅) xX hr gI.b (aa (ah 1) ao)) (gM (Oe (aR (wo.mono ∅) hr et.m et.F.kp et.b (aa (ah 4) (aa (aR (kM.mono ∅) hr cw.m cw.F.kp cw.b (aa (DO.e (pT (lQ.mono ∅) hr (ah 0) (aa (ah 1) ao))) (aa (ah 3) ao))) ao))))))))
theorem OQ:lM mw Z.w Z.K Z.mg Z.base κ0 (sv 135 123) "may" 3 ["self","day","names"] (dY nM):=mf xC.c5 rfl mt IE uE.b
theorem AN:dS mw Z.w Z.K Z.mg Z.base (lL mw Z.w) 7 637 (fA Z.K 637) ["self","day"] (Pf Z.K κ0 (sv 135 123) jL):=have S:az ["self","day","ladder","signers","groups"] ["self","day"] _:=fs;rj (sv 135 123) pj.F S λ_ A _ s H E hr _ _=>have nd:=S.nd;(iB (o6 (vf (DE.b (aR (i8.mono ∅) hr bJ.m bJ.F.kp bJ.b (aa (ah 1) ao)))) BW) (iB (G6 rfl 2 xC.c5 nd mt (kN.mono ∅) xX hr gI.b (aa (ah 1) ao)) (iB (o6 (ba 3 nd (DO.e (pT (lQ.mono ∅) hr (ah 0) (aa (ah 1) ao)))) rh) (iB (o6 (Dc 4 nd (eG (DO.b (fj (pq.mono ∅) hr dF.m dF.F.kp dF.b (aa (cy (DE.b (bF rfl (xC.cR _) (ae 0))) gn) ao)))) (aC (jV 48 11)) ["self","day","ladder","signers","groups"] ["self","day","ladder","signers","groups"] (λ_ _ s H=>(jB (aR (wo.mono ∅) hr et.m et.F.kp et.b (aa (ah 3) (aa (aR (kM.mono ∅) hr cw.m cw.F.kp cw.b (aa (ah 4) (aa (ah 0) ao))) ao))))) (λ_ _ s H=>(ah 0))) rh) (gM (Kz (iP (eG (DO.b (fj (CI.mono ∅) hr gm kK.F.kp kK.b (aa (ah 4) ao)))) (aC (jV 48 11)) ["self","day","ladder","signers","groups"] ["self","day","ladder","signers","groups"] (λ_ _ s H=>(DO.e (fj (AH.mono ∅) hr iY.m iY.F.kp iY.b (aa (bF rfl (xC.cR _) (ae 1)) (aa (ah 0) ao))))))))))))
theorem IF:lM mw Z.w Z.K Z.mg Z.base κ0 (sv 135 123) "least" 7 ["self","day"] (dY jL):=mf xC.c5 rfl mt AN pj.b
theorem wu:dS mw Z.w Z.K Z.mg Z.base (lL mw Z.w) 1 597 (fA Z.K 597) ["self","number"] (Pf Z.K κ0 (sv 135 123) gT):=have S:az ["self","number"] _ _:=fs;rj (sv 135 123) gU.F S λ_ A _ s H E hr _ hx=>have nd:=S.nd;(gM (G1 (a9 (oy (mJ hr) (ae 1) (DE.b (bF rfl (xC.cR _) (ae 0))))) (gM (o6 eI rA)) (gM (G1 (a9 (oy (mJ hr) (ae 1) (DE.b (bF rfl (xC.cR _) (ae 0))))) (gM (o6 eI rA)) (gM (G1 (a9 (oy (mJ hr) (ae 1) (DE.b (bF rfl (xC.cR _) (ae 0))))) (gM (o6 eI rA)) (gM (G2 1 xe gm (hx 123) G3))))))))
theorem EH:lM mw Z.w Z.K Z.mg Z.base κ0 (sv 135 123) "strike" 1 ["self","number"] (dY gT):=mf xC.c5 rfl mt wu gU.b
theorem uH:Oa Z 4 752 ["_law_book","_law_day","_law_names_here"] (eY Z.K κ0 false hZ):=have S:az ["_law_book","_law_day","_law_names_here","_law_told"] ["_law_book","_law_day","_law_names_here"] _:=fs;aY eQ.F S λ_ A _ s H E hr=>have nd:=S.nd;(aq (ba 3 nd aZ) (aq (BQ 3 3 0 (OQ.mono ∅) hr (bw (d0:=135)) (λ_=>(ah 0)) (λ_=>(aa (ah 1) (aa (ah 2) ao))) (λe=>uK) (λH=>.str _) nd gm) (ay (bH (ah 3)))))
theorem kO:Oa Z 8 759 ["_law_book","_law_day"] (eY Z.K κ0 false d7):=have S:az ["_law_book","_law_day","_law_told"] ["_law_book","_law_day"] _:=fs;aY cb.F S λ_ A _ s H E hr=>have nd:=S.nd;(aq (ba 2 nd aZ) (aq (BQ 2 2 0 (IF.mono ∅) hr (bw (d0:=135)) (λ_=>(ah 0)) (λ_=>(aa (ah 1) ao)) (λe=>uK) (λH=>.str _) nd gm) (ay (bH (ah 2)))))
theorem sF:Oa Z 2 766 ["_law_book","_law_number"] (eY Z.K κ0 false iI):=have S:az ["_law_book","_law_number","_law_refused"] ["_law_book","_law_number"] _:=fs;aY eN.F S λ_ A _ s H E hr=>have nd:=S.nd;(aq (ba 2 nd tS) (aq (KG 2 1 (EH.mono ∅) hr (bw (d0:=123)) (λ_=>(ah 0)) (λ_=>(aa (ah 1) ao)) (λe=>Lr) (λH=>.bl _) nd gm) (ay (bH (ah 2)))))
theorem sG:Oa Z 61 738 ["_law_book","_law_roll_here","_law_entry_here"] (EK (FB Z.K κ0 rfl) (λa=>[a.x]) gc):=have S:az ["_law_book","_law_roll_here","_law_entry_here"] _ _:=fs;qY (js:=[0]) 1 d8.F S (λ_=>rfl) (λ_=>oz) ∅ λ_ A _ s H E hr=>have nd:=S.nd;(aV (jj (a9 (eB hr (DE.b (bu (ae 2) (DE.b aj))) (DE.b aZ))) (bE (pX (nF (fL.id _) xC.c5 mt (yT.mono ∅) hr gU.b (aa (bu (ae 2) (DE.b aj)) ao) 0))) fB) (aV (jj (a9 (eB hr (DE.b (bu (ae 2) (DE.b aj))) (DE.b aZ))) (bE (pX (nF (fL.id _) xC.c5 mt (yS.mono ∅) hr nS.b (aa (bu (ae 1) (DE.b (bu (ae 2) (DE.b aj)))) (aa (bu (ae 1) (DE.b (bu (ae 2) (DE.b aj)))) (aa (bu (ae 2) (DE.b aj)) (aa (bu (ae 2) (DE.b aj)) ao)))) 0))) fB) (aV (jj (a9 (eB hr (DE.b (bu (ae 2) (DE.b aj))) (DE.b aZ))) (bE (pX (nF (fL.id _) xC.c5 mt (uG.mono ∅) hr mv.b (aa (bu (ae 1) (DE.b (bu (ae 2) (DE.b aj)))) (aa (bu (ae 2) (DE.b aj)) (aa (bu (ae 2) (DE.b aj)) ao))) 0))) fB) (bE (pX (nF (fL.id _) xC.c5 mt (EG.mono ∅) hr sx.b (aa (bu (ae 2) (DE.b aj)) (aa (bu (DE.b (bu (ae 2) (DE.b aj))) (DE.b aj)) ao)) 0))))))
theorem tw:Oa Z 62 745 ["_law_book","_law_entries","_law_roll_here","_law_xs","_law_base_here"] (EK ((FE Z.K κ0).two ((FB Z.K κ0 rfl).two (F0 Z.K κ0))) (λa=>[a.2.1.x,a.1]) je):=have S:az ["_law_book","_law_entries","_law_roll_here","_law_xs","_law_base_here","_law_entry_here","_law_told"] ["_law_book","_law_entries","_law_roll_here","_law_xs","_law_base_here"] _:=fs;qY (js:=[1,0]) 2 fF.F S (λ_=>rfl) (λ_=>Oh) ∅ λ_ A _ s H E hr=>have nd:=S.nd;(aV (Kt 5 nd (aR (yR.mono ∅) hr gZ.m gZ.F.kp gZ.b (aa (ah 1) (aa (ah 2) (aa (ah 3) (aa (ah 4) ao)))))) (aV (nE 6 nd (vC (fL.r (fL.l (fL.id _))) (sG.mono ∅) hr d8.m d8.F.kp d8.b (vB 1 (zT (aa (ah 2) (aa (ah 5) ao)))))) (aV (jj (a9 (eB hr (DE.b (bu (ae 5) (DE.b aj))) (DE.b aZ))) (aV (Ku 1 (bu (ae 5) (DE.b aj)) FH) (bE (fD (l7 (zz (ae 6)))))) fB) (aV (Kv 1 (ah 5)) (bE (fD (ve (aR (pA.mono ∅) hr dG.m dG.F.kp dG.b (aa (ah 6) ao)) (zw (l7 (eB hr (ae 6) (DE.b (qC (DE.b (cy (ae 1) gn)) (DE.b aj)))))))))))))
theorem RH:Oa Z 63 771 ["_law_script"] (eY Z.K κ0 false Cm):=have S:az ["_law_script","_law_roll_here","_law_base_here","_law_book","_law_entries","_law_day","_law_cell","_law_xs","_law_other","_law_entry_here","_law_k","_law_group","_law_names_here","_law_told"] ["_law_script"] _:=fs;Q0 AF.F S λ_ A _ s H E hr=>have nd:=S.nd;(aV (nC 1 nd (aR (AK.mono ∅) hr i6.m i6.F.kp i6.b (aa (ah 0) ao))) (aV (nC 2 nd (jA (DE.b (bA (DE.b (aR (cY.mono ∅) hr aJ.m aJ.F.kp aJ.b (aa (ah 0) (aa aj ao)))) (DE.b (FK (DE.b aj) (DE.b aj))))) (DE.b (bA (DE.b (aR (cY.mono ∅) hr aJ.m aJ.F.kp aJ.b (aa (ah 0) (aa aj ao)))) (DE.b aj))))) (xR (hf:=rfl) 3 nd mk (uF.mono ∅) hr gm mr.b (DO.e (vi (ae 1) gn)) (GQ 4 nd (aV (nC 5 nd (bq (ae 2) (DE.b (bA (DE.b (aR (cY.mono ∅) hr aJ.m aJ.F.kp aJ.b (aa (ah 0) (aa aj ao)))) (DE.b aj))))) (aV (vA 6 nd (BG (DO.e (qE (ae 0) (dr (DE.b aj)) (dr (DE.b aj))))) (aV (nC 7 nd (DO.e (fj (yQ.mono ∅) hr gX.m gX.F.kp gX.b (aa (ah 6) (aa aj ao))))) (aV (N4 (vC (fL.id _) (tw.mono ∅) hr fF.m fF.F.kp fF.b (vB 1 (vB 0 (zT (aa (ah 1) (aa (ah 7) (aa (ah 2) ao))))))) (bE (fD tS)) fB) (bE (jj (a9 (eB hr (DE.b (bA (DE.b (bu (ae 7) (DE.b aj))) (DE.b aj))) (DE.b aj))) (bE (nD (aR (kO.mono ∅) hr cb.m cb.F.kp cb.b (aa (ah 3) (aa (ah 5) ao))))) fB))))) (GR 4 (xR (hf:=rfl) 8 nd mk (uF.mono ∅) hr gm mr.b (DO.e (vi (ae 1) gn)) (aV (vA 9 nd (BG (ah 4)) (bE (jj (a9 (Bi (ae 9))) (bE (GP (vC (fL.l (fL.id _)) (sG.mono ∅) hr d8.m d8.F.kp d8.b (vB 0 (zT (aa (ah 1) (aa (ah 9) ao))))))) fB))) (aV (vA 10 nd (BH (DE.b aj) gn) (aV (nC 11 nd (bA (DE.b (aR (cY.mono ∅) hr aJ.m aJ.F.kp aJ.b (aa (ah 0) (aa (bq (DE.b aj) (ae 10)) ao)))) (DE.b (lZ (DE.b aj) (DE.b (cy (ae 1) gn)))))) (aV (D3 12 nd (mT (DE.b (cy (ae 1) gn)) gn) (aC (eZ 66)) ["_law_script","_law_roll_here","_law_base_here","_law_book","_law_entries","_law_day","_law_cell","_law_xs","_law_other","_law_entry_here","_law_k","_law_group","_law_names_here","_law_told"] ["_law_script","_law_roll_here","_law_base_here","_law_book","_law_entries","_law_day","_law_cell","_law_xs","_law_other","_law_entry_here","_law_k","_law_group","_law_names_here","_law_told"] (λ_ _ s H=>(a9 (eB hr (DE.b (qD (DE.b (FL (ae 12) (ae 0))) (DE.b aj))) (DE.b aj)))) (λ_ _ s H=>(bu (ae 2) (ae 0)))) (bE (jj (a9 (xc hr (DE.b (aR (uH.mono ∅) hr eQ.m eQ.F.kp eQ.b (aa (ah 3) (aa (bq (ae 2) (ae 10)) (aa (ah 12) ao))))) (DE.b (aR (uH.mono ∅) hr eQ.m eQ.F.kp eQ.b (aa (ah 8) (aa (bq (ae 2) (ae 10)) (aa (ah 12) ao))))))) (bE (fD tS)) fB))))) (aV (jj (a9 (xc hr (DE.b (aR (kO.mono ∅) hr cb.m cb.F.kp cb.b (aa (ah 3) (aa (ah 5) ao)))) (DE.b (aR (kO.mono ∅) hr cb.m cb.F.kp cb.b (aa (ah 8) (aa (ah 5) ao)))))) (bE (fD tS)) fB) (aV (vA 10 nd (BH (DE.b (cy (ae 4) gn)) gn) (bE (jj (DW.t (vd (a9 (zz (DE.b (bu (ae 4) (ae 10))))) (pO (kf (jB (aR (sF.mono ∅) hr eN.m eN.F.kp eN.b (aa (ah 3) (aa (ah 10) ao)))))))) (bE (fD tS)) fB))) (aV (nE 13 nd (nF (fL.r (fL.l (fL.id _))) xC.c5 mt (uG.mono ∅) hr mv.b (aa (bu (ae 1) (DE.b aj)) (aa (ah 2) (aa (ah 2) ao))) 1)) (bE (fD (ve (aR (pA.mono ∅) hr dG.m dG.F.kp dG.b (aa (ah 13) ao)) (zw (l7 (eB hr (ae 13) (DE.b (cy (ae 4) gn)))))))))))))))))))))
end
theorem all_mk(w:World)(mg:Str->Option Value)(fa:Addr)(h:Heap)(X:(wx w.params).In h)(G:h.Ns mainGlobals mg)(e:mg "law" =⇑(.ref fa)):∃(κ:Kl) (fd:FuncData),(∀(s:Shared) (v:Value),BindsTo s fd ⟨[v],[]⟩ [("_law_script",v)])/\∀base:Heap,(wx w.params).In base->base.Ns mainGlobals mg->dS mw w (wx w.params) mg base qk 63 fa fd ["_law_script"] (eY (wx w.params) κ false Cm):=by
 cases e.symm.trans (AF (Z:=⟨w,mg,h,h,X,G⟩)).m
 refine⟨κ0,fA (wx w.params) 771,λs v=>?_,λbase _ _=>RH (Z:=⟨w,mg,base,h,X,G⟩)⟩
 obtain⟨_,_,_,_,_,_,_,_,_,q,_⟩:=(AF (Z:=⟨w,mg,h,h,X,G⟩)).F.ex
 rw[show fA (wx w.params) 771=_ from q]
 exact .of_eq rfl
end L2.D.My
open PySem PySem.W PyProof.Rows
theorem PySem.Challenge.cw_signright_k65_struck_entries_holds : PySem.Challenge.rw_signright_k65_struck_entries.Holds := by
  w_on
  refine PySem.W.holds_law (by kernel_rfl) fun _ => ?_
  refine PySem.W.holds_open (q := L2.D.My.OS) (loose := ["least_ladders", "FEWEST_PARTS"]) (Xt := L2.D.My.Su) (XP := XL L2.D.My.OS []) (Yf := Hook.obs (kHook L2.D.My.wx L2.D.My.IG L2.D.My.IT)) (Ya := Hook.val (kHook L2.D.My.wx L2.D.My.IG L2.D.My.IT)) (YP := Hook.says (kHook L2.D.My.wx L2.D.My.IG L2.D.My.IT)) (N := 20000) L2.D.My.VX (Hook.of (kHook L2.D.My.wx L2.D.My.IG L2.D.My.IT)) (Hook.keeps (kHook L2.D.My.wx L2.D.My.IG L2.D.My.IT)) (fun s e => xl_of s (Bool.and_eq_true_iff.mp e).1) XL.keeps (by rfl) (by rfl) (by rfl) (fun s e => recFacts_of (Bool.and_eq_true_iff.mp e).2) (by rfl) (by first | assumption | decide +kernel) (by decide +kernel) ⟨rfl, rfl, rfl, rfl, rfl, by decide +kernel⟩ ?hw ?hc
  (case hw => w_witness2)
  exact L2.D.walkD2 (l := PySem.Challenge.rw_signright_k65_struck_entries) (k := 63) (x := "_law_script") (F := L2.D.My.Cm) rfl ∅ rfl ⟨rfl, ∅, ∅⟩ (fun w h Y => PySem.W.kIn_of Y) L2.D.My.all_mk L2.D.My.law_true
