import PyProof.Rows.All
import Wide.All
import OpenK.AllK
import Wide.FinOn
import Lean
import PyProof.EqAt
import PyProof.EqKinds
import PyProof.TupleCall
import PyProof.Rows.SortPure
import PySem.Builtin.Int.W1All
import PySem.Sem
import PyProof.StrBlockL
import PyProof.SliceStr2
import PyProof.StrCalls2
import PyProof.WalkInts
import PyProof.Rows.StrStep
import PyProof.FactsAll.tuple_0
import PyProof.FactsAll.tuple_2
import PyProof.FactsAll.tuple_3
import PyProof.FString5
import PyProof.StrOps2
import PyProof.StrWalks
import PyProof.FString
import PyProof.FString4
import PyProof.ReprStr
import PyProof.ExcClass3
import PyProof.ExcBaseAll.ValueError
import KE.KIsAll
import OpenK.KDescr
import OpenK.KOwn
import PyProof.ExcArgsOwn
import PyProof.RulesAs
import PyProof.NsDelKeeps
import PyProof.StationsW
import PyProof.FitsInt
import PyProof.StrLawsRepr
import PyProof.PassesOwn
import PyProof.StrLawsIdx
import PyProof.SliceList
import PySem.Challenge.RW_signright_k26_other_rolls
set_option Elab.async false
set_option linter.all false
set_option maxRecDepth 100000
set_option maxHeartbeats 0
set_option genSizeOf false
set_option genSizeOfSpec false
noncomputable section
def zn:=@Option.bind_eq_some_iff
def xL:=@List.mem_append_right
def xz:=@Option.map_eq_some_iff
def wE:=@List.length_map
def wP:=@List.size_toArray
def wS:=@List.getElem?_eq_some_iff
def wT:=@List.mem_cons_self
def wf:=@List.mem_cons_of_mem
def wn:=@List.getElem?_eq_getElem
def wp:=@PySem.Heap.get?_push_of_some
def wr:=@Nat.le_refl
def wv:=@Nat.lt_of_lt_of_le
def ww:=@PySem.Heap.lt_size
def v4:=@Array.length_toList
def v6:=@List.getElem?_set
def ul:=@List.length_cons
def ut:=@PySem.W.mg_of
def tz:=@List.append_assoc
def sK:=@List.mem_append
def sw:=@Bool.false_ne_true
def re:=@Bool.and_eq_true
def ZA:=@List.all_eq_true
def ZB:=@Nat.le_trans
def ZC:=@List.map_cons
def ZD:=@List.length_append
def ZE:=@List.mem_singleton
def ZF:=@List.mem_append_left
def ZG:=@List.mem_range
def ZH:=@PySem.Heap.get?_push_size
def ZI:=@Nat.zero_le
def ZJ:=@List.mem_cons
def ZK:=@Nat.lt_irrefl
def ZL:=@List.append_nil
def ZM:=@List.length_take
def ZN:=@Array.toList_append
def ZO:=@Option.some.inj
def ZP:=@List.take_append_drop
def ZQ:=@List.getD_eq_getElem?_getD
def ZR:=@List.drop_eq_getElem_cons
def ZS:=@List.lookup_cons
def ZT:=@PySem.W.kia_one
def ZU:=@List.drop_eq_nil_of_le
def ZV:=@Nat.ne_of_lt
def ZW:=@PySem.mem_of_lookup
def ZX:=@List.take_of_length_le
def ZY:=@List.length_drop
def ZZ:=@List.filterMap_cons
def Za:=@PySem.W.mg_none_of
def Zb:=@List.length_singleton
def Zc:=@List.perm_append_comm
def Zd:=@Int.toNat_natCast
def Ze:=@Bool.eq_iff_iff
def Zf:=@List.mem_of_getElem?
def Zg:=@List.map_map
def Zh:=@List.getElem?_map
def Zi:=@List.mem_map
def Zj:=@List.length_range
def Zk:=@List.mem_filter
def Zl:=@List.foldl_cons
def Zm:=@Nat.le_of_lt
def Zn:=@Option.bind_some
def Zo:=@List.zip_cons_cons
def Zp:=@Int.emod_lt_of_pos
def Zq:=@List.getElem?_zip_eq_some
def Zr:=@Classical.byContradiction
def Zs:=@List.map_append
def Zt:=@List.pairwise_singleton
def Zu:=@List.filter_cons_of_pos
def Zv:=@List.filter_cons_of_neg
def Zw:=@List.any_eq_true
def Zy:=@List.getElem?_take
def Zz:=@Nat.add_assoc
def Z0:=@Array.toList_push
def Z1:=@List.getElem?_set_ne
def Z2:=@List.drop_zero
def Z3:=@Option.isSome_iff_exists
def Z4:=@Nat.zero_add
def Z5:=@List.any_cons
def Z6:=@PySem.W.callWith_K
def Z7:=@List.getElem?_drop
def Z8:=@List.pairwise_cons
def Z9:=@List.length_set
def YA:=@Bool.false_eq_true
def YB:=@Int.emod_nonneg
def YC:=@List.getElem?_set_self
def YD:=@Array.size_append
def YE:=@List.Perm.refl
def YF:=@List.pairwise_append
def YG:=@List.mem_iff_getElem
def YH:=@List.mem_of_mem_drop
def YI:=@Array.toList_reverse
def YJ:=@List.mem_of_mem_take
def YK:=@List.getElem?_append_right
def YL:=@Array.perm_iff_toList_perm
def YM:=@Array.getElem?_eq_some_iff
def YN:=@List.map_take
def YO:=@List.sum_cons
def YQ:=@PySem.Heap.SameBut.update
def YR:=@List.getElem?_append_left
def YS:=@Array.append_assoc
def YT:=@List.mem_filterMap
def YU:=@PySem.F.args_tuple_add_2
def YV:=@Nat.sub_zero
def YW:=@PySem.F.entry_tuple_add
def YX:=@PySem.F.plainAttrs_list
def YY:=@List.reverse_cons
def YZ:=@Bool.not_eq_true'
def Yb:=@PySem.F.slot_tuple_add
def Yc:=@PySem.Heap.get?_update_other
def Yd:=@List.all_cons
def Ye:=@Bool.true_and
def Yg:=@List.map_drop
def Yh:=@List.Perm.append_left
def Yi:=@List.getElem?_eq_none
def Yj:=@List.mem_iff_getElem?
def Yk:=@PySem.W.methodCall_KW
def Yl:=@List.length_filter_le
def Ym:=@List.nodup_cons
def Yn:=@Bool.or_eq_true
def Yo:=@Nat.two_pow_pos
def Yp:=@List.eq_nil_of_length_eq_zero
def Yq:=@PySem.W.hideAll_get
def Yr:=@PySem.W.plainGet_of
def Ys:=@List.map_congr_left
def Yt:=@List.length_reverse
def Yu:=@PySem.Heap.size_push
def Yv:=@List.drop_drop
def Yw:=@List.countP_eq_length_filter
def Yx:=@PySem.W.of_hideAll
def Yy:=@Int.fdiv_eq_ediv_of_nonneg
def Yz:=@List.take_add
def Y0:=@Array.toList_setIfInBounds
def Y1:=@PySem.F.excBase_ValueError
def Y2:=@PySem.F.excAttr_ValueError
def Y3:=@PySem.W.kitx_list
def Y4:=@List.pairwise_iff_getElem
def Y5:=@List.exists_mem_of_ne_nil
def Y6:=@Nat.lt_succ_self
def Y7:=@List.getElem_mem
def Y8:=@List.set_eq_of_length_le
def Y9:=@PySem.F.slot_list_append
def XE:=@PySem.F.type_list_append
def XI:=@List.range'_succ
def XS:=@PySem.F.slot_tuple_index
def XT:=@List.mem_flatMap
def XU:=@List.getElem?_replicate
def XV:=@Option.map_some
def XW:=@List.of_mem_zip
def XX:=@List.nil_append
def XY:=@Nat.min_eq_left
def XZ:=@PySem.W.cellsFrom_some
def Xq:=@PySem.F.plainAttrs_str
def Xr:=@List.length_eq_one_iff
def X0:=@PySem.W.fresh_of_stays
def X1:=@Bool.false_and
def X2:=@Array.getElem?_toList
def X3:=@Classical.choose_spec
def X4:=@Bool.or_false
def X5:=@Bool.and_true
def X6:=@Nat.ne_of_gt
def X7:=@Nat.le_of_eq
def X8:=@List.map_nil
def X9:=@Nat.lt_or_ge
local macro_rules | `(tactic| omega) => `(tactic| lia)
namespace HX
open PySem PySem.W
def MI(st:SharedT->Thread->Option (SharedT×Thread))(ok:Thread->Bool)(n:Nat):SharedT->Thread->Option SharedT:=
 Nat.rec (motive:=λ_=>SharedT->Thread->Option SharedT) (λ_ _=>none) (λ_ ih s t=>match through t with
  |true=>some s
  |false=>match ok t with
   |false=>none
   |true=>match st s t with
    |some (s',t')=>ih s' t'
    |none=>none) n
theorem JC{tb:String->Option Builtin}{p:Program}{w:World}{m:Nat}{ann:Option Value}(n:Nat):∀(a z:SharedT) (t:Thread),MI (stepT (denote tb) p w) (stepOk m ann) n a t=some z->topRun tb p w m ann n a.abs t=some z.abs:=by
 induction n with
 |zero=>exact λ_ _ _ e=>nomatch e
 |succ n ih=>
  intro a z t
  rw[topRun]
  change(match through t with|true=>some a|false=>match stepOk m ann t with|false=>none|true=>match stepT (denote tb) p w a t with|some (b,u)=>MI (stepT (denote tb) p w) (stepOk m ann) n b u|none=>none)=_->_
  cases through t
  ·cases stepOk m ann t
   ·exact λe=>nomatch e
   ·rcases q:stepT (denote tb) p w a t with _|⟨b,u⟩
    ·exact λe=>nomatch e
    ·dsimp only;rw[stepT_spec q];exact ih _ _ _
  ·intro e;cases e;rfl
def PB:List Obj->Nat->BT->BT
 |[],_,t=>t
 |o::r,n,t=>PB r (n+1) (t.ins n o)
def PD(P:Params):BT:=PB (boot_heap P).objs.toList 0 .nil
theorem MJ(P:Params):absHeap (PD P) 11 {}=boot_heap P:=by kernel_rfl
def LC(p:Program)(N:Nat)(w:World)(os:OsState):Option SharedT:=
 MI (Fast.tw10156331382660048174 (Fast.tw11892475500146522536 Fast.tw14364793385576792824) p w) (Fast.tw6613529449190102663 11 ((boot_heap w.params).nsMap mainGlobals "__annotations__")) N ⟨PD w.params,11,{},Array.mk [],boot_drawn,boot_toks,os⟩ (topStub p)
theorem Vp{p:Program}{N:Nat}{w:World}{os:OsState}{z:SharedT}(h:LC p N w os=some z):topRun treeTable p w 11 ((boot_heap w.params).nsMap mainGlobals "__annotations__") N ⟨boot_heap w.params,Array.mk [],boot_drawn,boot_toks,os⟩ (topStub p)=some z.abs:=by
 unfold LC at h
 rw[<-Fast.te10156331382660048174,<-Fast.te11892475500146522536,<-Fast.te14364793385576792824,<-Fast.te6613529449190102663]at h
 have:=JC _ _ _ _ h
 unfold SharedT.abs at this
 dsimp only at this
 rw[MJ]at this
 exact this
abbrev Sz(p:Program)(w:World)(z:Shared):Bool:=staticsOk (importedModules p.main.body) (boot_heap w.params) z.heap&&namesBound p z.heap&&gensDone z&&laidKept (boot_heap w.params) z.heap
theorem Vq{p q:Program}{loose:List Str}{Xt:Shared->Bool}{α:Type}{Yf:Shared->α}{Ya:World->α}{N:Nat}
  (h1:opening p=plainProg p.main.scope.names)(h2:Nat.ble 600 N=true)(h3:∀s,fenceModules? p s=some s)
  (c:∀w os,(LC p N w os).map (λz=>Sz p w z.abs)=some true)
  (v:∀w os,(LC p N w os).map (λz=>Fast.tw4187177175401517315 q loose (importedModules p.main.body) Xt true z.abs)=some (openGood q loose))
  (y:∀w os,(LC p N w os).map (λz=>Yf z.abs)=some (Ya w)):LeftO p q loose Xt Yf Ya N:=λw=>by
 obtain⟨⟨h,gs,d,k,os⟩,e,e'⟩:=xz.mp (boot_open h1 h2 h3 w)
 obtain⟨rfl,rfl,rfl,rfl⟩:h=boot_heap w.params/\gs=Array.mk []/\d=boot_drawn/\k=boot_toks:=by simpa using e'
 have hc:=c w os
 have hv:=v w os
 have hy:=y w os
 rw[<-Fast.te4187177175401517315]at hv
 obtain⟨z,ez,hc⟩:=xz.mp hc
 rw[ez,XV,Option.some.injEq]at hv hy
 have r:=Vp ez
 have t:topFrom treeTable p w N ⟨boot_heap w.params,Array.mk [],boot_drawn,boot_toks,os⟩=some z.abs:=by
  unfold topFrom
  dsimp only
  rw[show((boot_heap w.params).isNs mainGlobals&&(Array.mk []:Array GenState).size==0)=true from by kernel_rfl,show(boot_heap w.params).objs.size=11 from by kernel_rfl,r]
  show(match Sz p w z.abs with|true=>_|false=>_)=_
  rw[hc]
 unfold openEnds
 rw[e]
 rw[Zn,t]
 exact congrArg some (Prod.ext hv hy)
end HX
namespace L2.D.My
open PySem
abbrev Jl:=PySem.Challenge.pw_signright_k26_other_rolls
def og(i:Nat):Stmt:=Jl.main.body.getD i (.Pass ⟨0,0,0,0⟩)
def tm(i j:Nat):Stmt:=match og i with
 |.ClassDef (body:=b) ..=>b.getD j (.Pass ⟨0,0,0,0⟩)
 |_=>.Pass ⟨0,0,0,0⟩
def SA(s:Stmt):Arguments:=match s with
 |.FunctionDef (args:=a) ..=>a
 |_=>⟨[],[],none,[],[],none,[]⟩
def SD(s:Stmt):List Stmt:=match s with
 |.FunctionDef (body:=b) ..=>b
 |_=>[]
def Vr(s:Stmt):Scope:=match s with
 |.FunctionDef (scope:=b) ..=>b
 |_=>default
abbrev pJ:Value:=.none
abbrev iN(s:Str)(t:Tok):Value:=.str s t
abbrev bb(a:Addr):Value:=.ref a
abbrev bI(P:Params)(s:Str)(t:Tok)(v:Value):DictEntry:=⟨PyData.keyHash P s,.str s t,v⟩
abbrev UB(n q:Str)(t:Nat)(l:List Value):Obj:=⟨.type "code",none,.fields (.str n t::.str q (t+1)::.str "/claim/cut.py" (t+2)::l).toArray,#[]⟩
abbrev Vs(n q:Str)(st:Stmt)(dV kV doc pm:Value)(an:Option Addr)(cd ct:Value):Obj:=⟨.type "function",none,.func (PySem.W.fnOf n q (SA st) (SD st) (Vr st) dV kV doc pm an cd ct),#[]⟩
abbrev l6(n q:Str)(t:Nat)(L k:Int)(a:Nat)(i:Int)(j:Nat):Obj:=UB n q t [.int L 0,.int k 0,.int 0 0,.int 0 0,.int 3 0,bb a,.bool true,.int 181 0,bb (a+1),pJ,bb (a+2),bb (a+3),bb (a+4),.int i 0,.int L 0,iN "/claim/cut.py" j]
abbrev El(n q:Str)(t:Nat)(L k:Int)(a:Nat)(i:Int)(j:Nat):Obj:=UB n q t [.int L 0,.int k 0,.int 0 0,.int 0 0,.int 3 0,bb a,.bool true,.int 181 0,bb (a+1),pJ,pJ,pJ,bb (a+2),.int i 0,.int L 0,iN "/claim/cut.py" j]
abbrev iY(n q:Str)(st:Stmt)(m:Str)(t a:Nat):Obj:=Vs n q st pJ pJ pJ (iN m t) none (bb a) pJ
def SE(l:List Stmt):List Nat->List Stmt
 |[]=>[]
 |i::r=>match l[i]? with
  |some s=>s::SE l r
  |none=>SE l r
def O5:Program:={Jl with main:={Jl.main with body:=SE Jl.main.body [0,2,3,4,5,6,7,8,9,10,12,13,14,15,16,17,18,20,21,22,23,25,26,27,28,29,30,32,33,34,35,36,37,38,39,40,41,42,43,44,45,46,47]}}
def Jm(P:Params):PySem.W.Frag:=
 (nat_lit 2,⟨pJ,none,.dict #[] 0,#[]⟩)::
 (nat_lit 3,⟨(.type "dict"),none,.dict (List.toArray [bI P "__name__" 165 (iN "law_signright_k26_other_rolls" 707),bI P "__doc__" 166 pJ,bI P "__package__" 167 pJ,bI P "__loader__" 168 (.builtin "__main__.__loader__#opaque"),bI P "__spec__" 169 pJ,bI P "__annotations__" 170 (bb 6),bI P "__builtins__" 171 (bb 4),bI P "__file__" 173 (iN "/claim/cut.py" 172),bI P "__cached__" 174 pJ,bI P "_wall" 193 (bb 21),bI P "SignError" 213 (bb 31),bI P "NoRoll" 229 (bb 44),bI P "NoHand" 245 (bb 56),bI P "NoGroup" 261 (bb 68),bI P "NoRule" 286 (bb 87),bI P "NoDay" 302 (bb 99),bI P "NoDeputy" 318 (bb 111),bI P "NoEntry" 334 (bb 123),bI P "Unruled" 350 (bb 135),bI P "MOST_HANDS" 354 (.int 6 353),bI P "has_hand" 362 (bb 144),bI P "hands_of" 368 (bb 149),bI P "group_of" 378 (bb 156),bI P "place" 386 (bb 163),bI P "within" 394 (bb 170),bI P "groups_of" 401 (bb 177),bI P "lets" 409 (bb 182),bI P "least" 418 (bb 189),bI P "letting" 424 (bb 194),bI P "some" 430 (bb 199),bI P "Rule" 483 (bb 237),bI P "Hand" 539 (bb 286),bI P "Counting" 591 (bb 327),bI P "All" 629 (bb 360),bI P "Any" 667 (bb 393),bI P "Some" 706 (bb 426),bI P "_law_cell_at" 716 (bb 435),bI P "_law_base" 727 (bb 442),bI P "_law_name" 739 (bb 449),bI P "_law_names" 756 (bb 456),bI P "_law_roll" 763 (bb 463),bI P "_law_hand" 770 (bb 470),bI P "_law_counted" 776 (bb 475),bI P "_law_folded" 786 (bb 482),bI P "_law_built" 792 (bb 487),bI P "_law_holds" 798 (bb 492),bI P "_law_kinds" 806 (bb 499),bI P "_law_names_in" 815 (bb 506),bI P "_law_other_roll" 821 (bb 511),bI P "_law_asked" 834 (bb 518),bI P "_law_right" 840 (bb 523),bI P "law" 846 (bb 528)]) 52,#[]⟩)::
 (nat_lit 20,l6 "_wall" "_wall" 187 1 1 15 191 192)::
 (nat_lit 21,iY "_wall" "_wall" (og 0) "__main__" 164 20)::
 (nat_lit 30,⟨(.type "dict"),none,.dict (List.toArray [bI P "__module__" 203 (iN "signright.errors" 194),bI P "__firstlineno__" 207 (.int 5 206),bI P "__static_attributes__" 208 (bb 29),bI P "__weakref__" 210 (bb 32),bI P "__doc__" 211 pJ]) 3,#[]⟩)::
 (nat_lit 31,⟨(.type "type"),none,.cls ⟨"SignError",[(.type "ValueError")],[(bb 31),(.type "ValueError"),(.type "Exception"),(.type "BaseException"),(.type "object")],30,"SignError",true,[],[(bb 44),(bb 56),(bb 68),(bb 87),(bb 99),(bb 111),(bb 123),(bb 135)],false,none,false⟩,#[some (bb 22),none,some (iN "SignError" 196),some (iN "SignError" 204),some (.builtin "ValueError.__new__"),some (.bool true)]⟩)::
 (nat_lit 32,⟨(.type "getset_descriptor"),none,.fields (List.toArray [(iN "__weakref__" 209),(bb 31),(.builtin "ExceptionGroup.__weakref__"),pJ]),#[]⟩)::
 (nat_lit 43,⟨(.type "dict"),none,.dict (List.toArray [bI P "__module__" 221 (iN "signright.errors" 194),bI P "__firstlineno__" 225 (.int 7 224),bI P "__static_attributes__" 226 (bb 42),bI P "__doc__" 227 pJ]) 2,#[]⟩)::
 (nat_lit 44,⟨(.type "type"),none,.cls ⟨"NoRoll",[(bb 31)],[(bb 44),(bb 31),(.type "ValueError"),(.type "Exception"),(.type "BaseException"),(.type "object")],43,"NoRoll",true,[],[],false,none,false⟩,#[some (bb 35),none,some (iN "NoRoll" 214),some (iN "NoRoll" 222),some (.builtin "ValueError.__new__"),some (.bool true)]⟩)::
 (nat_lit 55,⟨(.type "dict"),none,.dict (List.toArray [bI P "__module__" 237 (iN "signright.errors" 194),bI P "__firstlineno__" 241 (.int 9 240),bI P "__static_attributes__" 242 (bb 54),bI P "__doc__" 243 pJ]) 2,#[]⟩)::
 (nat_lit 56,⟨(.type "type"),none,.cls ⟨"NoHand",[(bb 31)],[(bb 56),(bb 31),(.type "ValueError"),(.type "Exception"),(.type "BaseException"),(.type "object")],55,"NoHand",true,[],[],false,none,false⟩,#[some (bb 47),none,some (iN "NoHand" 230),some (iN "NoHand" 238),some (.builtin "ValueError.__new__"),some (.bool true)]⟩)::
 (nat_lit 67,⟨(.type "dict"),none,.dict (List.toArray [bI P "__module__" 253 (iN "signright.errors" 194),bI P "__firstlineno__" 257 (.int 11 256),bI P "__static_attributes__" 258 (bb 66),bI P "__doc__" 259 pJ]) 2,#[]⟩)::
 (nat_lit 68,⟨(.type "type"),none,.cls ⟨"NoGroup",[(bb 31)],[(bb 68),(bb 31),(.type "ValueError"),(.type "Exception"),(.type "BaseException"),(.type "object")],67,"NoGroup",true,[],[],false,none,false⟩,#[some (bb 59),none,some (iN "NoGroup" 246),some (iN "NoGroup" 254),some (.builtin "ValueError.__new__"),some (.bool true)]⟩)::
 (nat_lit 83,l6 "__init__" "NoRule.__init__" 274 15 2 78 279 280)::
 (nat_lit 84,iY "__init__" "NoRule.__init__" (tm 6 0) "signright.errors" 194 83)::
 (nat_lit 86,⟨(.type "dict"),none,.dict (List.toArray [bI P "__module__" 269 (iN "signright.errors" 194),bI P "__firstlineno__" 273 (.int 13 272),bI P "__init__" 281 (bb 84),bI P "__static_attributes__" 283 (bb 85),bI P "__doc__" 284 pJ]) 2,#[]⟩)::
 (nat_lit 87,⟨(.type "type"),none,.cls ⟨"NoRule",[(bb 31)],[(bb 87),(bb 31),(.type "ValueError"),(.type "Exception"),(.type "BaseException"),(.type "object")],86,"NoRule",true,[],[],false,none,false⟩,#[some (bb 71),none,some (iN "NoRule" 262),some (iN "NoRule" 270),some (.builtin "ValueError.__new__"),some (.bool true)]⟩)::
 (nat_lit 98,⟨(.type "dict"),none,.dict (List.toArray [bI P "__module__" 294 (iN "signright.errors" 194),bI P "__firstlineno__" 298 (.int 18 297),bI P "__static_attributes__" 299 (bb 97),bI P "__doc__" 300 pJ]) 2,#[]⟩)::
 (nat_lit 99,⟨(.type "type"),none,.cls ⟨"NoDay",[(bb 31)],[(bb 99),(bb 31),(.type "ValueError"),(.type "Exception"),(.type "BaseException"),(.type "object")],98,"NoDay",true,[],[],false,none,false⟩,#[some (bb 90),none,some (iN "NoDay" 287),some (iN "NoDay" 295),some (.builtin "ValueError.__new__"),some (.bool true)]⟩)::
 (nat_lit 110,⟨(.type "dict"),none,.dict (List.toArray [bI P "__module__" 310 (iN "signright.errors" 194),bI P "__firstlineno__" 314 (.int 20 313),bI P "__static_attributes__" 315 (bb 109),bI P "__doc__" 316 pJ]) 2,#[]⟩)::
 (nat_lit 111,⟨(.type "type"),none,.cls ⟨"NoDeputy",[(bb 31)],[(bb 111),(bb 31),(.type "ValueError"),(.type "Exception"),(.type "BaseException"),(.type "object")],110,"NoDeputy",true,[],[],false,none,false⟩,#[some (bb 102),none,some (iN "NoDeputy" 303),some (iN "NoDeputy" 311),some (.builtin "ValueError.__new__"),some (.bool true)]⟩)::
 (nat_lit 122,⟨(.type "dict"),none,.dict (List.toArray [bI P "__module__" 326 (iN "signright.errors" 194),bI P "__firstlineno__" 330 (.int 22 329),bI P "__static_attributes__" 331 (bb 121),bI P "__doc__" 332 pJ]) 2,#[]⟩)::
 (nat_lit 123,⟨(.type "type"),none,.cls ⟨"NoEntry",[(bb 31)],[(bb 123),(bb 31),(.type "ValueError"),(.type "Exception"),(.type "BaseException"),(.type "object")],122,"NoEntry",true,[],[],false,none,false⟩,#[some (bb 114),none,some (iN "NoEntry" 319),some (iN "NoEntry" 327),some (.builtin "ValueError.__new__"),some (.bool true)]⟩)::
 (nat_lit 134,⟨(.type "dict"),none,.dict (List.toArray [bI P "__module__" 342 (iN "signright.errors" 194),bI P "__firstlineno__" 346 (.int 24 345),bI P "__static_attributes__" 347 (bb 133),bI P "__doc__" 348 pJ]) 2,#[]⟩)::
 (nat_lit 135,⟨(.type "type"),none,.cls ⟨"Unruled",[(bb 31)],[(bb 135),(bb 31),(.type "ValueError"),(.type "Exception"),(.type "BaseException"),(.type "object")],134,"Unruled",true,[],[],false,none,false⟩,#[some (bb 126),none,some (iN "Unruled" 335),some (iN "Unruled" 343),some (.builtin "ValueError.__new__"),some (.bool true)]⟩)::
 (nat_lit 143,l6 "has_hand" "has_hand" 355 28 2 138 360 361)::
 (nat_lit 144,iY "has_hand" "has_hand" (og 13) "signright.hands" 351 143)::
 (nat_lit 148,El "hands_of" "hands_of" 363 30 1 145 366 367)::
 (nat_lit 149,iY "hands_of" "hands_of" (og 14) "signright.hands" 351 148)::
 (nat_lit 155,l6 "group_of" "group_of" 369 32 2 150 376 377)::
 (nat_lit 156,iY "group_of" "group_of" (og 15) "signright.hands" 351 155)::
 (nat_lit 162,l6 "place" "place" 379 39 1 157 384 385)::
 (nat_lit 163,iY "place" "place" (og 16) "signright.hands" 351 162)::
 (nat_lit 169,l6 "within" "within" 387 42 2 164 392 393)::
 (nat_lit 170,iY "within" "within" (og 17) "signright.hands" 351 169)::
 (nat_lit 176,l6 "groups_of" "groups_of" 395 44 1 171 399 400)::
 (nat_lit 177,iY "groups_of" "groups_of" (og 18) "signright.hands" 351 176)::
 (nat_lit 181,El "lets" "lets" 404 47 2 178 407 408)::
 (nat_lit 182,iY "lets" "lets" (og 20) "signright.ladders" 402 181)::
 (nat_lit 188,l6 "least" "least" 410 49 1 183 416 417)::
 (nat_lit 189,iY "least" "least" (og 21) "signright.ladders" 402 188)::
 (nat_lit 193,El "letting" "letting" 419 55 2 190 422 423)::
 (nat_lit 194,iY "letting" "letting" (og 22) "signright.ladders" 402 193)::
 (nat_lit 198,El "some" "some" 425 57 2 195 428 429)::
 (nat_lit 199,iY "some" "some" (og 23) "signright.ladders" 402 198)::
 (nat_lit 212,l6 "shape" "Rule.shape" 445 62 1 207 449 450)::
 (nat_lit 213,iY "shape" "Rule.shape" (tm 25 0) "signright.rules" 431 212)::
 (nat_lit 219,l6 "text" "Rule.text" 452 65 1 214 456 457)::
 (nat_lit 220,iY "text" "Rule.text" (tm 25 1) "signright.rules" 431 219)::
 (nat_lit 226,l6 "lets" "Rule.lets" 459 68 3 221 465 466)::
 (nat_lit 227,iY "lets" "Rule.lets" (tm 25 2) "signright.rules" 431 226)::
 (nat_lit 233,l6 "ladder" "Rule.ladder" 468 71 2 228 473 474)::
 (nat_lit 234,iY "ladder" "Rule.ladder" (tm 25 3) "signright.rules" 431 233)::
 (nat_lit 236,⟨(.type "dict"),none,.dict (List.toArray [bI P "__module__" 440 (iN "signright.rules" 431),bI P "__firstlineno__" 444 (.int 60 443),bI P "shape" 451 (bb 213),bI P "text" 458 (bb 220),bI P "lets" 467 (bb 227),bI P "ladder" 475 (bb 234),bI P "__static_attributes__" 476 (bb 235),bI P "__dict__" 478 (bb 238),bI P "__weakref__" 480 (bb 239),bI P "__doc__" 481 pJ]) 4,#[]⟩)::
 (nat_lit 237,⟨(.type "type"),none,.cls ⟨"Rule",[(.type "object")],[(bb 237),(.type "object")],236,"Rule",true,[],[(bb 286),(bb 327)],false,none,false⟩,#[none,none,some (iN "Rule" 433),some (iN "Rule" 441),some (.builtin "object.__new__"),some (.bool true)]⟩)::
 (nat_lit 238,⟨(.type "getset_descriptor"),none,.fields (List.toArray [(iN "__dict__" 477),(bb 237),(.builtin "function.__dict__"),(.builtin "function.__dict__#set")]),#[]⟩)::
 (nat_lit 239,⟨(.type "getset_descriptor"),none,.fields (List.toArray [(iN "__weakref__" 479),(bb 237),(.builtin "ExceptionGroup.__weakref__"),pJ]),#[]⟩)::
 (nat_lit 254,l6 "__init__" "Hand.__init__" 496 75 2 249 501 502)::
 (nat_lit 255,iY "__init__" "Hand.__init__" (tm 26 0) "signright.rules" 431 254)::
 (nat_lit 261,l6 "shape" "Hand.shape" 504 78 1 256 508 509)::
 (nat_lit 262,iY "shape" "Hand.shape" (tm 26 1) "signright.rules" 431 261)::
 (nat_lit 268,l6 "text" "Hand.text" 511 81 1 263 515 516)::
 (nat_lit 269,iY "text" "Hand.text" (tm 26 2) "signright.rules" 431 268)::
 (nat_lit 275,l6 "lets" "Hand.lets" 518 84 3 270 524 525)::
 (nat_lit 276,iY "lets" "Hand.lets" (tm 26 3) "signright.rules" 431 275)::
 (nat_lit 282,l6 "ladder" "Hand.ladder" 527 87 2 277 532 533)::
 (nat_lit 283,iY "ladder" "Hand.ladder" (tm 26 4) "signright.rules" 431 282)::
 (nat_lit 285,⟨(.type "dict"),none,.dict (List.toArray [bI P "__module__" 491 (iN "signright.rules" 431),bI P "__firstlineno__" 495 (.int 73 494),bI P "__init__" 503 (bb 255),bI P "shape" 510 (bb 262),bI P "text" 517 (bb 269),bI P "lets" 526 (bb 276),bI P "ladder" 534 (bb 283),bI P "__static_attributes__" 536 (bb 284),bI P "__doc__" 537 pJ]) 2,#[]⟩)::
 (nat_lit 286,⟨(.type "type"),none,.cls ⟨"Hand",[(bb 237)],[(bb 286),(bb 237),(.type "object")],285,"Hand",true,[],[],false,none,false⟩,#[some (bb 242),none,some (iN "Hand" 484),some (iN "Hand" 492),some (.builtin "object.__new__"),some (.bool true)]⟩)::
 (nat_lit 301,l6 "__init__" "Counting.__init__" 552 91 3 296 558 559)::
 (nat_lit 302,iY "__init__" "Counting.__init__" (tm 27 0) "signright.rules" 431 301)::
 (nat_lit 306,El "lets" "Counting.lets" 561 95 3 303 564 565)::
 (nat_lit 307,iY "lets" "Counting.lets" (tm 27 1) "signright.rules" 431 306)::
 (nat_lit 311,El "ladder" "Counting.ladder" 567 99 2 308 570 571)::
 (nat_lit 312,iY "ladder" "Counting.ladder" (tm 27 2) "signright.rules" 431 311)::
 (nat_lit 318,l6 "shapes_of_parts" "Counting.shapes_of_parts" 573 102 1 313 577 578)::
 (nat_lit 319,iY "shapes_of_parts" "Counting.shapes_of_parts" (tm 27 3) "signright.rules" 431 318)::
 (nat_lit 323,El "text_of_parts" "Counting.text_of_parts" 580 105 1 320 583 584)::
 (nat_lit 324,iY "text_of_parts" "Counting.text_of_parts" (tm 27 4) "signright.rules" 431 323)::
 (nat_lit 326,⟨(.type "dict"),none,.dict (List.toArray [bI P "__module__" 547 (iN "signright.rules" 431),bI P "__firstlineno__" 551 (.int 89 550),bI P "__init__" 560 (bb 302),bI P "lets" 566 (bb 307),bI P "ladder" 572 (bb 312),bI P "shapes_of_parts" 579 (bb 319),bI P "text_of_parts" 585 (bb 324),bI P "__static_attributes__" 588 (bb 325),bI P "__doc__" 589 pJ]) 2,#[]⟩)::
 (nat_lit 327,⟨(.type "type"),none,.cls ⟨"Counting",[(bb 237)],[(bb 327),(bb 237),(.type "object")],326,"Counting",true,[],[(bb 360),(bb 393),(bb 426)],false,none,false⟩,#[some (bb 289),none,some (iN "Counting" 540),some (iN "Counting" 548),some (.builtin "object.__new__"),some (.bool true)]⟩)::
 (nat_lit 342,l6 "__init__" "All.__init__" 604 109 2 337 609 610)::
 (nat_lit 343,iY "__init__" "All.__init__" (tm 28 0) "signright.rules" 431 342)::
 (nat_lit 349,l6 "shape" "All.shape" 612 112 1 344 616 617)::
 (nat_lit 350,iY "shape" "All.shape" (tm 28 1) "signright.rules" 431 349)::
 (nat_lit 356,l6 "text" "All.text" 619 115 1 351 623 624)::
 (nat_lit 357,iY "text" "All.text" (tm 28 2) "signright.rules" 431 356)::
 (nat_lit 359,⟨(.type "dict"),none,.dict (List.toArray [bI P "__module__" 599 (iN "signright.rules" 431),bI P "__firstlineno__" 603 (.int 107 602),bI P "__init__" 611 (bb 343),bI P "shape" 618 (bb 350),bI P "text" 625 (bb 357),bI P "__static_attributes__" 626 (bb 358),bI P "__doc__" 627 pJ]) 2,#[]⟩)::
 (nat_lit 360,⟨(.type "type"),none,.cls ⟨"All",[(bb 327)],[(bb 360),(bb 327),(bb 237),(.type "object")],359,"All",true,[],[],false,none,false⟩,#[some (bb 330),none,some (iN "All" 592),some (iN "All" 600),some (.builtin "object.__new__"),some (.bool true)]⟩)::
 (nat_lit 375,l6 "__init__" "Any.__init__" 642 119 2 370 647 648)::
 (nat_lit 376,iY "__init__" "Any.__init__" (tm 29 0) "signright.rules" 431 375)::
 (nat_lit 382,l6 "shape" "Any.shape" 650 122 1 377 654 655)::
 (nat_lit 383,iY "shape" "Any.shape" (tm 29 1) "signright.rules" 431 382)::
 (nat_lit 389,l6 "text" "Any.text" 657 125 1 384 661 662)::
 (nat_lit 390,iY "text" "Any.text" (tm 29 2) "signright.rules" 431 389)::
 (nat_lit 392,⟨(.type "dict"),none,.dict (List.toArray [bI P "__module__" 637 (iN "signright.rules" 431),bI P "__firstlineno__" 641 (.int 117 640),bI P "__init__" 649 (bb 376),bI P "shape" 656 (bb 383),bI P "text" 663 (bb 390),bI P "__static_attributes__" 664 (bb 391),bI P "__doc__" 665 pJ]) 2,#[]⟩)::
 (nat_lit 393,⟨(.type "type"),none,.cls ⟨"Any",[(bb 327)],[(bb 393),(bb 327),(bb 237),(.type "object")],392,"Any",true,[],[],false,none,false⟩,#[some (bb 363),none,some (iN "Any" 630),some (iN "Any" 638),some (.builtin "object.__new__"),some (.bool true)]⟩)::
 (nat_lit 408,l6 "__init__" "Some.__init__" 680 129 3 403 686 687)::
 (nat_lit 409,iY "__init__" "Some.__init__" (tm 30 0) "signright.rules" 431 408)::
 (nat_lit 415,l6 "shape" "Some.shape" 689 132 1 410 693 694)::
 (nat_lit 416,iY "shape" "Some.shape" (tm 30 1) "signright.rules" 431 415)::
 (nat_lit 422,l6 "text" "Some.text" 696 135 1 417 700 701)::
 (nat_lit 423,iY "text" "Some.text" (tm 30 2) "signright.rules" 431 422)::
 (nat_lit 425,⟨(.type "dict"),none,.dict (List.toArray [bI P "__module__" 675 (iN "signright.rules" 431),bI P "__firstlineno__" 679 (.int 127 678),bI P "__init__" 688 (bb 409),bI P "shape" 695 (bb 416),bI P "text" 702 (bb 423),bI P "__static_attributes__" 703 (bb 424),bI P "__doc__" 704 pJ]) 2,#[]⟩)::
 (nat_lit 426,⟨(.type "type"),none,.cls ⟨"Some",[(bb 327)],[(bb 426),(bb 327),(bb 237),(.type "object")],425,"Some",true,[],[],false,none,false⟩,#[some (bb 396),none,some (iN "Some" 668),some (iN "Some" 676),some (.builtin "object.__new__"),some (.bool true)]⟩)::
 (nat_lit 434,l6 "_law_cell_at" "_law_cell_at" 709 138 2 429 714 715)::
 (nat_lit 435,iY "_law_cell_at" "_law_cell_at" (og 32) "law_signright_k26_other_rolls" 707 434)::
 (nat_lit 441,l6 "_law_base" "_law_base" 717 142 2 436 725 726)::
 (nat_lit 442,iY "_law_base" "_law_base" (og 33) "law_signright_k26_other_rolls" 707 441)::
 (nat_lit 448,l6 "_law_name" "_law_name" 728 149 4 443 737 738)::
 (nat_lit 449,iY "_law_name" "_law_name" (og 34) "law_signright_k26_other_rolls" 707 448)::
 (nat_lit 455,l6 "_law_names" "_law_names" 740 153 3 450 754 755)::
 (nat_lit 456,iY "_law_names" "_law_names" (og 35) "law_signright_k26_other_rolls" 707 455)::
 (nat_lit 462,l6 "_law_roll" "_law_roll" 757 168 1 457 761 762)::
 (nat_lit 463,iY "_law_roll" "_law_roll" (og 36) "law_signright_k26_other_rolls" 707 462)::
 (nat_lit 469,l6 "_law_hand" "_law_hand" 764 170 1 464 768 769)::
 (nat_lit 470,iY "_law_hand" "_law_hand" (og 37) "law_signright_k26_other_rolls" 707 469)::
 (nat_lit 474,El "_law_counted" "_law_counted" 771 172 3 471 774 775)::
 (nat_lit 475,iY "_law_counted" "_law_counted" (og 38) "law_signright_k26_other_rolls" 707 474)::
 (nat_lit 481,l6 "_law_folded" "_law_folded" 777 185 2 476 784 785)::
 (nat_lit 482,iY "_law_folded" "_law_folded" (og 39) "law_signright_k26_other_rolls" 707 481)::
 (nat_lit 486,El "_law_built" "_law_built" 787 193 4 483 790 791)::
 (nat_lit 487,iY "_law_built" "_law_built" (og 40) "law_signright_k26_other_rolls" 707 486)::
 (nat_lit 491,El "_law_holds" "_law_holds" 793 206 3 488 796 797)::
 (nat_lit 492,iY "_law_holds" "_law_holds" (og 41) "law_signright_k26_other_rolls" 707 491)::
 (nat_lit 498,l6 "_law_kinds" "_law_kinds" 799 215 1 493 804 805)::
 (nat_lit 499,iY "_law_kinds" "_law_kinds" (og 42) "law_signright_k26_other_rolls" 707 498)::
 (nat_lit 505,l6 "_law_names_in" "_law_names_in" 807 236 1 500 813 814)::
 (nat_lit 506,iY "_law_names_in" "_law_names_in" (og 43) "law_signright_k26_other_rolls" 707 505)::
 (nat_lit 510,El "_law_other_roll" "_law_other_roll" 816 243 2 507 819 820)::
 (nat_lit 511,iY "_law_other_roll" "_law_other_roll" (og 44) "law_signright_k26_other_rolls" 707 510)::
 (nat_lit 517,l6 "_law_asked" "_law_asked" 822 249 4 512 832 833)::
 (nat_lit 518,iY "_law_asked" "_law_asked" (og 45) "law_signright_k26_other_rolls" 707 517)::
 (nat_lit 522,El "_law_right" "_law_right" 835 262 3 519 838 839)::
 (nat_lit 523,iY "_law_right" "_law_right" (og 46) "law_signright_k26_other_rolls" 707 522)::
 (nat_lit 527,El "law" "law" 841 276 1 524 844 845)::
 (nat_lit 528,iY "law" "law" (og 47) "law_signright_k26_other_rolls" 707 527)::[]
abbrev Jo:List Addr:=[2,3,20,21,30,31,32,43,44,55,56,67,68,83,84,86,87,98,99,110,111,122,123,134,135,143,144,148,149,155,156,162,163,169,170,176,177,181,182,188,189,193,194,198,199,212,213,219,220,226,227,233,234,236,237,238,239,254,255,261,262,268,269,275,276,282,283,285,286,301,302,306,307,311,312,318,319,323,324,326,327,342,343,349,350,356,357,359,360,375,376,382,383,389,390,392,393,408,409,415,416,422,423,425,426,434,435,441,442,448,449,455,456,462,463,469,470,474,475,481,482,486,487,491,492,498,499,505,506,510,511,517,518,522,523,527,528]
theorem JD:∀P,Jo=(Jm P).map (·.1):=λ_=>by kernel_rfl
abbrev SF(s:Shared):Bool:=PySem.W.xlAt O5 [] s&&PySem.W.recOk (PySem.W.RowW.records (PySem.W.OpenRow.toRowW (PySem.Challenge.rw_signright_k26_other_rolls).row)) s
theorem SG:∀w,∀os,(HX.LC Jl 20000 w os).map (λz=>HX.Sz Jl w z.abs)=some true:=by intro w os;kernel_rfl
theorem Vt:∀w,∀os,(HX.LC Jl 20000 w os).map (λz=>PySem.W.Fast.tw4187177175401517315 O5 [] (importedModules Jl.main.body) SF true z.abs)=some (PySem.W.openGood O5 []):=by intro w os;kernel_rfl
theorem Vu:∀w,∀os,(HX.LC Jl 20000 w os).map (λz=>(PySem.W.kHook Jm Jo JD).obs z.abs)=some ((PySem.W.kHook Jm Jo JD).val w):=by intro w os;kernel_rfl
theorem Vv:PySem.W.LeftO Jl O5 [] SF (PySem.W.kHook Jm Jo JD).obs (PySem.W.kHook Jm Jo JD).val 20000:=HX.Vq (by kernel_rfl) (by kernel_rfl) (λs=>by kernel_rfl) SG Vt Vu
end L2.D.My
namespace L2
open PySem PySem.Spec PyProof.Rows
abbrev Key:=Sum Int Str
def LD:Key->Value->Bool
 |.inl k,v=>Value.isInt k v
 |.inr x,v=>Value.isStrOf x v
def SH(w:World):Key->Int
 |.inl k=>hashInt k
 |.inr x=>hashStr w x
theorem dg:∀{k:Key} {v:Value},LD k v=true->(∃i t,k=Sum.inl i/\v=Value.int i t)\/(∃x t,k=Sum.inr x/\v=Value.str x t)
 |.inl i,v,h=>by
  obtain⟨t,e⟩:=Value.isInt_shape (k:=i) (v:=v) h
  exact .inl ⟨i,t,rfl,e⟩
 |.inr x,v,h=>by
  obtain⟨t,e⟩:=Value.isStrOf_shape (x:=x) (v:=v) h
  exact .inr ⟨x,t,rfl,e⟩
theorem MK(a b:Int):decide ((Sum.inl a:Key)=Sum.inl b)=(a==b):=by
 by_cases e:a=b
 ·subst e;simp
 ·have h:¬(Sum.inl a:Key)=Sum.inl b:=λq=>e (Sum.inl.inj q)
  rw[decide_eq_false h]
  exact(beq_eq_false_iff_ne.mpr e).symm
theorem MM(a b:Str):decide ((Sum.inr a:Key)=Sum.inr b)=decide (a=b):=by
 by_cases e:a=b
 ·subst e;simp
 ·have h:¬(Sum.inr a:Key)=Sum.inr b:=λq=>e (Sum.inr.inj q)
  rw[decide_eq_false h,decide_eq_false e]
theorem MN(a:Int)(b:Str):decide ((Sum.inl a:Key)=Sum.inr b)=false:=decide_eq_false (λq=>nomatch q)
theorem MO(a:Str)(b:Int):decide ((Sum.inr a:Key)=Sum.inl b)=false:=decide_eq_false (λq=>nomatch q)
def CW(prog:Program)(w:World):PySem.KeyKind prog w Key where
 is:=LD
 hash:=SH w
 inj:=λv a b ha hb=>by
  rcases dg ha with⟨i,t,rfl,rfl⟩|⟨x,t,rfl,rfl⟩
  ·rcases dg hb with⟨j,u,rfl,e⟩|⟨y,u,rfl,e⟩
   ·injection e with e1 _;rw[e1]
   ·exact nomatch e
  ·rcases dg hb with⟨j,u,rfl,e⟩|⟨y,u,rfl,e⟩
   ·exact nomatch e
   ·injection e with e1 _;rw[e1]
 byValue:=λk v h=>by
  rcases dg h with⟨i,t,rfl,rfl⟩|⟨x,t,rfl,rfl⟩<;>rfl
 pyHash:=λhv h=>by
  rcases dg hv with⟨i,t,rfl,rfl⟩|⟨x,t,rfl,rfl⟩
  ·exact wpAny_pyHash_int h
  ·exact wpAny_pyHash_str h
 eqBool:=λhu hv h=>by
  rcases dg hu with⟨i,t,rfl,rfl⟩|⟨x,t,rfl,rfl⟩
  ·rcases dg hv with⟨j,u,rfl,rfl⟩|⟨y,u,rfl,rfl⟩
   ·rw[MK]at h;exact wpAny_eqBool_int h
   ·rw[MN]at h;exact SeqAt.EqAt.int_str i t y u _ _ _ _ h
  ·rcases dg hv with⟨j,u,rfl,rfl⟩|⟨y,u,rfl,rfl⟩
   ·rw[MO]at h;exact SeqAt.EqAt.str_int x t j u _ _ _ _ h
   ·rw[MM]at h;exact wpAny_eqBool_str h
 «strs»:=λk x t v h=>by
  rcases dg h with⟨i,u,rfl,e⟩|⟨y,u,rfl,e⟩
  ·exact nomatch e
  ·injection e with e1 _
   subst e1
   cases v<;>rfl
inductive V where
 |non|bl(b:Bool)|int(i:Int)|str(x:Str)|byt(b:Array UInt8)|flt(b:UInt64)|ref(a:Addr)|ty(n:String)
 deriving DecidableEq
def RelV:V->Value->Prop
 |.non,u=>u=Value.none
 |.bl b,u=>u=Value.bool b
 |.int i,u=>∃t,u=Value.int i t
 |.str x,u=>∃t,u=Value.str x t
 |.byt b,u=>∃t,u=Value.bytes b t
 |.flt b,u=>∃t,u=Value.float b t
 |.ref a,u=>u=Value.ref a
 |.ty n,u=>u=Value.type n
abbrev Vals:List V->List Value->Prop:=Paired RelV
theorem Vals.length{xs:List V}{us:List Value}(r:Vals xs us):xs.length=us.length:=Paired.length r
theorem Vals.get:∀{xs:List V} {us:List Value} {i:Nat} {x:V},Vals xs us->xs[i]?=some x->∃u,us[i]?=some u/\RelV x u
 |_,_,_,_,.nil,e=>by simp at e
 |_,_,0,_,.cons r _,e=>by simp at e;subst e;exact⟨_,rfl,r⟩
 |_,_,i+1,x,.cons _ t,e=>by
  obtain⟨u,h1,h2⟩:=Vals.get (i:=i) (x:=x) t (by simpa using e)
  exact⟨u,by simpa using h1,h2⟩
theorem Vals.append:∀{xs ys:List V} {us ws:List Value},Vals xs us->Vals ys ws->Vals (xs++ys) (us++ws)
 |_,_,_,_,.nil,s=>s
 |_,_,_,_,.cons r t,s=>.cons r (Vals.append t s)
theorem Vals.take:∀{xs:List V} {us:List Value} (n:Nat),Vals xs us->Vals (xs.take n) (us.take n)
 |_,_,0,_=>.nil
 |_,_,_+1,.nil=>.nil
 |_,_,n+1,.cons r t=>.cons r (Vals.take n t)
theorem Vals.drop:∀{xs:List V} {us:List Value} (n:Nat),Vals xs us->Vals (xs.drop n) (us.drop n)
 |_,_,0,r=>r
 |_,_,_+1,.nil=>.nil
 |_,_,n+1,.cons _ t=>Vals.drop n t
def vG:Option V->Option Value->Prop
 |some v,some u=>RelV v u
 |none,none=>True
 |_,_=>False
def KV{κ:Type}:List (κ×V)->List (κ×Value)->Prop:=Paired λ(p:κ×V) (q:κ×Value)=>p.1=q.1/\RelV p.2 q.2
def kV:Key->V
 |.inl i=>.int i
 |.inr x=>.str x
inductive HO where
 |lst(xs:List V)
 |tup(xs:List V)
 |dK(qK:List (Key×V))|dT(qK:List (List Key×V))
 |set(S:Int->Bool)(n:Nat)
 |ins(C dx:Addr)(fs:List (Str×V))
 |own(x:Addr)
 |xd(fs:List (Str×V))
 |met(f x:Addr)
 |rng(lo hi:Int)
 |frz(o:Obj)(u:HO)
 |tbl(ps:Array Value)
 |ext(φ:Heap->Prop)
abbrev Hp:=Addr->Option HO
def upd(H:Hp)(a:Addr)(o:HO):Hp:=λb=>if b=a then some o else H b
theorem aW{H:Hp}{a:Addr}{o:HO}:upd H a o a=some o:=by unfold upd;rw[if_pos rfl]
theorem aJ{H:Hp}{a b:Addr}{o:HO}(h:b≠a):upd H a o b=H b:=by unfold upd;rw[if_neg h]
theorem JE{H:Hp}{a:Addr}{o u:HO}:upd (upd H a o) a u=upd H a u:=by
 funext b;unfold upd;split<;>rfl
theorem cj{H:Hp}{a b:Addr}{o:HO}(h:H a=some o)(h':H b=none):a≠b:=by
 intro e;subst e;rw[h]at h';cases h'
section
variable(P:Program)(w:World)
def JF(h:Heap)(a:Addr):Prop:=∃o,h.get? a=some o/\o.dict=none
def fv(H:Hp)(h:Heap)(a:Addr):HO->Prop
 |.lst xs=>xs.length<=sizeLine/\∃(its:List Value) (n:Nat),Vals xs its/\h.get? a=some {cls:=.type "list",data:=.seq its.toArray n}
 |.tup xs=>(xs.length<=sizeLine/\JF h a)/\∃its:List Value,Vals xs its/\IsTup h a its.toArray
 |.dK qK=>qK.length<=sizeLine/\(a==sysModules)=false/\∃vs,KV qK vs/\h.DictOf (CW P w) a vs
 |.dT qK=>qK.length<=sizeLine/\(a==sysModules)=false/\∃xs:List (List Key×Addr×Value),
   Paired (λ(p:List Key×V) (q:List Key×Addr×Value)=>p.1=q.1/\H q.2.1=some (.tup (p.1.map kV))/\RelV p.2 q.2.2) qK xs/\
   ∃o es ep,h.get? a=some o/\o.ExactDict/\o.data=.dict es ep/\es.toList=xs.map (entryOfKey (tupleKind (CW P w)))/\(xs.map (·.1)).Nodup
 |.set S n=>h.SetOf (intKind P w) a S n
 |.ins C dx fs=>H dx=some (.own a)/\fs.length<=1000/\dx≠a/\h.get? a=some (PySem.W.instObj C dx)/\
   ∃mA,h.Ns1 dx mA/\(∀f,vG (fs.lookup f) (mA f))/\PySem.Within mA (fs.map (·.1))
 |.own _=>∃o,h.get? a=some o
 |.xd fs=>∃mA,h.Ns1 a mA/\∀f,vG (fs.lookup f) (mA f)
 |.rng lo hi=>∃t u v,h.get? a=some {cls:=.type "range",data:=.fields #[.int lo t,.int hi u,.int 1 v]}
 |.frz o u=>h.get? a=some o/\fv H h a u
 |.tbl ps=>h.get? a=some {cls:=.none,data:=.fields ps}
 |.met f x=>h.get? a=some (PySem.W.methodObj (.ref f) (.ref x))
 |.ext φ=>φ h/\(∃o,h.get? a=some o)/\∀h1 h2:Heap,φ h1->(∀o,h1.get? a=some o->h2.get? a=some o)->φ h2
def rW(H:Hp)(h:Heap):Prop:=∀a o,H a=some o->fv P w H h a o
end
section
variable{P:Program}{w:World}{H H':Hp}{h h':Heap}{a:Addr}{o:HO}
theorem fv.lt(x:fv P w H h a o):a<h.objs.size:=by
 cases o with
 |lst xs=>obtain⟨_,_,_,_,e⟩:=x;exact ww e
 |tup xs=>obtain⟨_,_,_,p⟩:=x;exact p.lt
 |dK qK=>obtain⟨_,_,_,_,o,_,_,e,_⟩:=x;exact ww e
 |dT qK=>obtain⟨_,_,_,_,o,_,_,e,_⟩:=x;exact ww e
 |set S n=>obtain⟨o,_,_,_,e,_⟩:=x;exact ww e
 |ins C dx fs=>obtain⟨_,_,_,e,_⟩:=x;exact ww e
 |own y=>obtain⟨_,e⟩:=x;exact ww e
 |xd fs=>obtain⟨_,⟨_,_,_,e,_⟩,_⟩:=x;exact ww e
 |rng lo hi=>obtain⟨_,_,_,e⟩:=x;exact ww e
 |frz ob u=>obtain⟨e,_⟩:=x;exact ww e
 |tbl ps=>exact ww (show h.get? a=some _ from x)
 |met f y=>exact ww (show h.get? a=some _ from x)
 |ext φ=>obtain⟨_,⟨_,e⟩,_⟩:=x;exact ww e
theorem Paired.PF{α β:Type}{F G:α->β->Prop}:∀{l₁:List α} {l₂:List β},Paired F l₁ l₂->(∀a b,F a b->G a b)->Paired G l₁ l₂
 |_,_,.nil,_=>.nil
 |_,_,.cons r t,f=>.cons (f _ _ r) (Paired.PF t f)
theorem fv.ke(x:fv P w H h a o)(k:∀b u,(b=a\/H b=some (.own a))->h.get? b=some u->h'.get? b=some u)
  (ho:∀b,H b=some (.own a)->H' b=some (.own a))(ht:∀b xs,H b=some (.tup xs)->H' b=some (.tup xs)):fv P w H' h' a o:=by
 induction o with
 |lst xs=>obtain⟨z,its,n,r,e⟩:=x;exact⟨z,its,n,r,k _ _ (.inl rfl) e⟩
 |tup xs=>obtain⟨⟨z,od,ed,hd⟩,its,r,ob,e,c⟩:=x;exact⟨⟨z,od,k _ _ (.inl rfl) ed,hd⟩,its,r,ob,k _ _ (.inl rfl) e,c⟩
 |dK qK=>obtain⟨z,y,vs,r,ob,es,ep,e,c⟩:=x;exact⟨z,y,vs,r,ob,es,ep,k _ _ (.inl rfl) e,c⟩
 |dT qK=>
  obtain⟨z,y,xs,r,ob,es,ep,e,c⟩:=x
  exact⟨z,y,xs,Paired.PF r λp q z=>⟨z.1,ht _ _ z.2.1,z.2.2⟩,ob,es,ep,k _ _ (.inl rfl) e,c⟩
 |set S n=>obtain⟨ob,es,ep,t,e,c⟩:=x;exact⟨ob,es,ep,t,k _ _ (.inl rfl) e,c⟩
 |ins C dx fs=>
  obtain⟨d,z,ne,e,mA,⟨od,es,ep,e2,c⟩,r⟩:=x
  exact⟨ho _ d,z,ne,k _ _ (.inl rfl) e,mA,⟨od,es,ep,k _ _ (.inr d) e2,c⟩,r⟩
 |own y=>obtain⟨ob,e⟩:=x;exact⟨ob,k _ _ (.inl rfl) e⟩
 |xd fs=>obtain⟨mA,⟨od,es,ep,e,c⟩,r⟩:=x;exact⟨mA,⟨od,es,ep,k _ _ (.inl rfl) e,c⟩,r⟩
 |rng lo hi=>obtain⟨t,u,v,e⟩:=x;exact⟨t,u,v,k _ _ (.inl rfl) e⟩
 |frz ob u ih=>obtain⟨e,q⟩:=x;exact⟨k _ _ (.inl rfl) e,ih q⟩
 |tbl ps=>
  have e:h.get? a=some {cls:=.none,data:=.fields ps}:=x
  show h'.get? a=some {cls:=.none,data:=.fields ps}
  exact k a _ (.inl rfl) e
 |met f y=>
  have e:h.get? a=some (PySem.W.methodObj (.ref f) (.ref y)):=x
  show h'.get? a=some (PySem.W.methodObj (.ref f) (.ref y))
  exact k a _ (.inl rfl) e
 |ext φ=>obtain⟨p,⟨o,e⟩,st⟩:=x;exact⟨st _ _ p λo q=>k _ _ (.inl rfl) q,⟨o,k _ _ (.inl rfl) e⟩,st⟩
theorem rW.lt(x:rW P w H h)(e:H a=some o):a<h.objs.size:=(x a o e).lt
theorem rW.fresh(x:rW P w H h)(e:h.objs.size<=a):H a=none:=by
 cases q:H a with
 |none=>rfl
 |some u=>exact absurd (wv (x.lt q) e) (ZK _)
theorem rW.kept(x:rW P w H h)(k:∀b u,h.get? b=some u->h'.get? b=some u):rW P w H h':=λa o e=>
 (x a o e).ke (λb u _ q=>k b u q) (λ_ q=>q) λ_ _ q=>q
theorem rW.laid(x:rW P w H h)(k:∀b u,h.get? b=some u->h'.get? b=some u)(hp:h.objs.size<=a)(new:fv P w (upd H a o) h' a o):rW P w (upd H a o) h':=λb u e=>by
 have hn:=x.fresh hp
 by_cases hb:b=a
 ·subst hb;rw[aW]at e;cases e;exact new
 ·rw[aJ hb]at e
  exact(x b u e).ke (λc v _ q=>k c v q) (λc q=>by rw[aJ (cj q hn)];exact q) λc xs q=>by rw[aJ (cj q hn)];exact q
end
def Rd(H:Hp)(a:Addr)(u:HO):Prop:=H a=some u\/∃o,H a=some (.frz o u)
theorem Rd.ok{P:Program}{w:World}{H:Hp}{h:Heap}{a:Addr}{u:HO}(r:Rd H a u)(x:rW P w H h):fv P w H h a u:=by
 rcases r with r|⟨o,r⟩
 ·exact x a u r
 ·obtain⟨_,q⟩:=x a _ r
  exact q
def RV:Option HO->Prop
 |some (.lst _)=>True
 |some (.dK _)=>True
 |some (.dT _)=>True
 |some (.set _ _)=>True
 |some (.ins _ _ _)=>True
 |some (.ext _)=>True
 |_=>False
section
variable{P:Program}{w:World}{H:Hp}{h h':Heap}{x e:Addr}{o':HO}
theorem rW.write(ok:rW P w H h)(mu:RV (H x))(he:e=x\/H e=some (.own x))(k:∀b u,b≠e->h.get? b=some u->h'.get? b=some u)(O6:∃u,h'.get? e=some u)
  (new:fv P w (upd H x o') h' x o'):rW P w (upd H x o') h':=λb u q=>by
 have PH:∀c y,H c=some (.own y)->c≠x:=λc y r z=>by subst z;rw[r]at mu;exact mu
 have SI:∀c xs,H c=some (.tup xs)->c≠x:=λc xs r z=>by subst z;rw[r]at mu;exact mu
 by_cases hb:b=x
 ·subst hb;rw[aW]at q;cases q;exact new
 ·rw[aJ hb]at q
  by_cases MP:b=e
  ·have q':H b=some (.own x):=by
     rcases he with z|z
     ·exact absurd (MP.trans z) hb
     ·rw[MP];exact z
   rw[q]at q';cases q'
   obtain⟨v,hv⟩:=O6
   exact⟨v,by rw[MP];exact hv⟩
  ·refine(ok b u q).ke (λc v hc r=>k c v ?_ r) (λc r=>by rw[aJ (PH c b r)];exact r) λc xs r=>by rw[aJ (SI c xs r)];exact r
   rcases hc with rfl|hc
   ·exact MP
   ·rintro rfl
    rcases he with z|z
    ·exact PH c b hc z
    ·rw[hc]at z;cases z;exact hb rfl
end
structure Un(fs ex:List Addr)(H H':Hp)(h h':Heap):Prop where
 keep:∀b o,h.get? b=some o->H b=none->b∉fs->b∉ex->h'.get? b=some o
 slot:∀b o,h.get? b=some o->H b=none->b∈fs->b∉ex->∃sl,h'.get? b=some {o with slots:=sl}
 free:∀b o,h.get? b=some o->H b=none->b∉ex->H' b=none
 there:∀b o,h.get? b=some o->b∉ex->∃o',h'.get? b=some o'
 k7:∀b xs,H b=some (.tup xs)->H' b=some (.tup xs)
 kD:∀b o u,H b=some (.frz o u)->H' b=some (.frz o u)
 mi:∀b ps,H b=some (.tbl ps)->∃more,H' b=some (.tbl (ps++more))
section
variable{fs PJ ex Xm:List Addr}{H H1 H2:Hp}{h h1 h2 h':Heap}{a x e:Addr}{o:HO}
theorem Un.any(u:Un fs ex H H1 h h1){b:Addr}{ob:Obj}(q:h.get? b=some ob)(n:H b=none)(hx:b∉ex):∃sl,h1.get? b=some {ob with slots:=sl}:=by
 by_cases hb:b∈fs
 ·exact u.slot b ob q n hb hx
 ·exact⟨ob.slots,u.keep b ob q n hb hx⟩
theorem Un.kept(k:∀b u,h.get? b=some u->h'.get? b=some u):Un fs ex H H h h':=
 ⟨λb ob q _ _ _=>k b ob q,λb ob q _ _ _=>⟨ob.slots,k b ob q⟩,λ_ _ _ n _=>n,λb ob q _=>⟨ob,k b ob q⟩,λ_ _ q=>q,λ_ _ _ q=>q,λ_ ps q=>⟨#[],by rw[q];simp⟩⟩
theorem Un.refl:Un fs ex H H h h:=Un.kept λ_ _ q=>q
theorem Un.laid(k:∀b u,h.get? b=some u->h'.get? b=some u)(hp:h.objs.size<=a)(hn:H a=none):Un fs ex H (upd H a o) h h' where
 keep:=λb u q _ _ _=>k b u q
 slot:=λb u q _ _ _=>⟨u.slots,k b u q⟩
 free:=λb u q n _=>by rw[aJ (ZV (wv (ww q) hp))];exact n
 there:=λb u q _=>⟨u,k b u q⟩
 k7:=λb xs q=>by rw[aJ (cj q hn)];exact q
 kD:=λb u xs q=>by rw[aJ (cj q hn)];exact q
 mi:=λb ps q=>⟨#[],by rw[aJ (cj q hn),q];simp⟩
theorem Un.write(mu:RV (H x))(he:e=x\/H e=some (.own x))(k:∀b u,b≠e->h.get? b=some u->h'.get? b=some u)(O6:∃u,h'.get? e=some u):Un fs ex H (upd H x o) h h':=by
 have hx:∀b,H b=none->b≠x:=λb n z=>by subst z;rw[n]at mu;exact mu
 have hb:∀b,H b=none->b≠e:=λb n z=>by
  subst z
  rcases he with r|r
  ·exact hx b n r
  ·rw[n]at r;cases r
 have hm:∀b u,H b=some u->¬RV (some u)->b≠x:=λb u q nm z=>by subst z;rw[q]at mu;exact nm mu
 refine⟨λb u q n _ _=>k b u (hb b n) q,λb u q n _ _=>⟨u.slots,k b u (hb b n) q⟩,λb u q n _=>by rw[aJ (hx b n)];exact n,λb u q _=>?_,
  λb xs q=>by rw[aJ (hm b _ q λz=>z)];exact q,λb u xs q=>by rw[aJ (hm b _ q λz=>z)];exact q,λb ps q=>⟨#[],by rw[aJ (hm b _ q λz=>z),q];simp⟩⟩
 by_cases MP:b=e
 ·subst MP;exact O6
 ·exact⟨u,k b u MP q⟩
end
def RW(h:Heap)(H:Hp):List Addr:=(List.range h.objs.size).filter λa=>(H a).isSome
def xp(h:Heap)(H:Hp):Heap:=PySem.W.hideAll h (RW h H)
theorem En(h:Heap)(H:Hp):(xp h H).objs.size=h.objs.size:=PySem.W.hideAll_size _ _
theorem FY{h:Heap}{H:Hp}{b:Addr}{o:Obj}(e:h.get? b=some o)(n:H b=none):(xp h H).get? b=some o:=
 Yq _ e λhm=>by
  have q:(H b).isSome=true:=(Zk.mp hm).2
  rw[n]at q;simp at q
theorem JG{h:Heap}{H:Hp}{b:Addr}{o:Obj}(e:(xp h H).get? b=some o):h.get? b=some o/\H b=none:=by
 have e':h.get? b=some o:=Yx (RW h H) e
 refine⟨e',?_⟩
 cases q:H b with
 |none=>rfl
 |some x=>
  have hm:b∈RW h H:=Zk.mpr ⟨ZG.mpr (ww e'),by simp[q]⟩
  have z:(xp h H).get? b=none:=PySem.W.hideAll_none (RW h H) hm
  rw[z]at e;cases e
structure Mod(K:PySem.W.Frag)(mg:Str->Option Value)(base:Heap):Prop where
 kin:K.In base
 glob:base.Ns mainGlobals mg
 blt:∃mb,base.Ns builtinsNs mb/\∀x:Str,x≠ "__name__" ->mb x=bootBuiltins x
 nolimit:base.NoLimit
structure Cx where
 prog:Program
 w:World
 K:PySem.W.Frag
 mg:Str->Option Value
 base:Heap
 A:Around
 N:List Str
 s₀:Shared
 H₀:Hp
 env:Env
 outer:List Env
 stack:List Env
 ex:List Addr
 fn:Str->Bool
 calm:Bool
 pn:List (Addr×Obj)
 xe:Value->Shared->Prop
def eI(l:List Env):List Addr:=l.filterMap (·.frame)
abbrev Cx.fs(X:Cx):List Addr:=eI X.outer
def FZ(sc:Scope)(x:Str):Prop:=sc.names.lookup x=some .local\/sc.names.lookup x=some .cell\/sc.names.lookup x=some .free
def Loc(sc:Scope)(x:Str):Prop:=sc.names.lookup x=some .local\/sc.names.lookup x=some .cell
def Look(env:Env)(h:Heap)(m:Str->Option Value)(x:Str)(u:Value):Prop:=
 (env.kindOf x=some .local/\m x=some u)\/((env.kindOf x=some .cell\/env.kindOf x=some .free)/\∃c,env.cells.lookup x=some c/\h.IsCell c (some u))
structure Cx.Ok(X:Cx):Prop where
 mod:Mod X.K X.mg X.base
 kind:X.env.scope.kind=.function
 glob:X.env.globals=mainGlobals
 blt:X.env.builtins=builtinsNs
 above:X.s₀.heap.objs.size<=X.env.locals
 inj:∀x y c,X.env.cells.lookup x=some c->X.env.cells.lookup y=some c->x=y
 has:∀x,(X.env.kindOf x=some .cell\/X.env.kindOf x=some .free)->∃c,X.env.cells.lookup x=some c
 cab:∀x c,X.fn x=true->X.env.cells.lookup x=some c->X.s₀.heap.objs.size<=c
 hd:X.calm=true->X.A.handled=none
 frames:X.A.frames=some X.stack
 FI:X.stack=X.outer\/(X.stack=X.env::X.outer/\X.env.frame=some X.env.locals)
 exf:∀b∈X.ex,b≠X.env.locals/\∀x c,X.env.cells.lookup x=some c->c≠b
 bs:∀b o,X.base.get? b=some o->X.s₀.heap.get? b=some o/\X.H₀ b=none
 bsz:X.base.objs.size<=X.s₀.heap.objs.size
 noex:∀b o,X.base.get? b=some o->b∉X.ex
 exfs:∀b∈X.ex,b∉X.fs
 funs:X.s₀.heap.FunFrames X.base X.outer
 frf:∀b∈X.fs,X.H₀ b=none
structure Inv(X:Cx)(pins:List (Addr×Obj))(σ:List (Option V))(H:Hp)(s:Shared):Prop where
 ok:X.Ok
 os:s.os=X.s₀.os
 bare:AllBare s.gens
 base:Un X.fs X.ex X.H₀ H X.s₀.heap s.heap
 loc:∃m,s.heap.Ns X.env.locals m/\∀(i:Nat) (x:Str) (v:V),X.N[i]?=some x->σ[i]?=some (some v)->FZ X.env.scope x->∃u,RelV v u/\Look X.env s.heap m x u
 cell:∀x c,X.env.cells.lookup x=some c->∃v,s.heap.IsCell c v
 free:H X.env.locals=none
 freeC:∀x c,X.env.cells.lookup x=some c->H c=none
 pin:∀p∈X.pn++pins,s.heap.get? p.1=some p.2/\H p.1=none/\p.1≠X.env.locals/\p.1∉X.fs/\∀v,p.2.data≠.cell v
 dE:rW X.prog X.w H s.heap
 len:σ.length=X.N.length
section
variable{X:Cx}{pins:List (Addr×Obj)}{σ:List (Option V)}{H H':Hp}{s:Shared}{h':Heap}
theorem Cx.Ok.SJ(ok:X.Ok){b:Addr}{o:Obj}(e:X.base.get? b=some o):b∉X.fs:=λhb=>by
 have:=(ok.funs.mem hb).1
 rw[e]at this;cases this
theorem Inv.bs(I:Inv X pins σ H s):∀b o,X.base.get? b=some o->s.heap.get? b=some o/\H b=none:=λb o e=>
 ⟨I.base.keep b o (I.ok.bs b o e).1 (I.ok.bs b o e).2 (I.ok.SJ e) (I.ok.noex b o e),I.base.free b o (I.ok.bs b o e).1 (I.ok.bs b o e).2 (I.ok.noex b o e)⟩
theorem Inv.bk(I:Inv X pins σ H s):∀b o,X.base.get? b=some o->s.heap.get? b=some o:=λb o e=>(I.bs b o e).1
theorem Inv.mod(I:Inv X pins σ H s):Mod X.K X.mg X.base:=I.ok.mod
theorem Inv.k8(I:Inv X pins σ H s):X.K.In s.heap:=I.ok.mod.kin.keeps I.bk
theorem Inv.lt(I:Inv X pins σ H s):X.env.locals<s.heap.objs.size:=let⟨_,hn,_⟩:=I.loc;hn.lt
theorem Inv.sz(I:Inv X pins σ H s):X.s₀.heap.objs.size<=s.heap.objs.size:=ZB I.ok.above (Zm I.lt)
theorem Inv.Eo(I:Inv X pins σ H s){a:Addr}(h:s.heap.objs.size<=a):a∉X.fs:=λhb=>by
 obtain⟨_,o,ho,_⟩:=I.ok.funs.mem hb
 exact absurd (wv (ww ho) (ZB I.sz h)) (ZK _)
theorem Inv.JH(I:Inv X pins σ H s):∀x c,X.env.cells.lookup x=some c->c≠X.env.locals:=λx c e z=>by
 obtain⟨v,o,ho,hd⟩:=I.cell x c e
 obtain⟨m,⟨o',es,ep,MQ,PL,_⟩,_⟩:=I.loc
 rw[z,MQ]at ho;cases ho;rw[PL]at hd;cases hd
theorem Inv.funs(I:Inv X pins σ H s):s.heap.FunFrames X.base X.outer:=by
 have all:∀(l:List Env),(∀b∈eI l,b∈X.fs)->X.s₀.heap.FunFrames X.base l->s.heap.FunFrames X.base l:=by
  intro l
  induction l with
  |nil=>intro _ _;trivial
  |cons env r ih=>
   intro hs hl
   obtain⟨hk,⟨L,o,hf,hn,ho,hd⟩,hr⟩:=hl
   have hL:L∈X.fs:=hs L (by unfold eI;rw[ZZ,hf];exact wT)
   obtain⟨sl,e⟩:=I.base.slot L o ho (I.ok.frf L hL) hL λz=>I.ok.exfs L z hL
   exact⟨hk,⟨L,_,hf,hn,e,hd⟩,ih (λb hb=>hs b (by unfold eI;rw[ZZ,hf];exact wf _ hb)) hr⟩
 exact all X.outer (λ_ hb=>hb) I.ok.funs
theorem Inv.stack(I:Inv X pins σ H s):s.heap.FunFrames X.base X.stack:=by
 rcases I.ok.FI with e|⟨e,hf⟩
 ·rw[e];exact I.funs
 ·rw[e]
  obtain⟨m,hn,_⟩:=I.loc
  refine .cons (by rw[I.ok.kind];decide) hf hn ?_ I.funs
  exact Heap.get?_none_of_le (ZB I.ok.bsz I.ok.above)
theorem Inv.A4(I:Inv X pins σ H s):∀b∈eI X.stack,b∈X.env.locals::X.fs:=λb hb=>by
 rcases I.ok.FI with e|⟨e,hf⟩
 ·rw[e]at hb;exact wf _ hb
 ·rw[e]at hb
  unfold eI at hb
  rw[ZZ,hf]at hb
  exact hb
theorem Inv.k9(I:Inv X pins σ H s):∀b∈eI X.stack,H b=none:=λb hb=>by
 rcases ZJ.mp (I.A4 b hb)with e|hb
 ·rw[e];exact I.free
 ·obtain⟨_,o,ho,_⟩:=I.ok.funs.mem hb
  exact I.base.free b o ho (I.ok.frf b hb) λz=>I.ok.exfs b z hb
theorem Inv.step{g':Array GenState}{t':Nat}{d':Drawn}{ch:List Addr}(I:Inv X pins σ H s)
  (Jp:∀b∈ch,(b∈X.ex\/X.s₀.heap.objs.size<=b)/\b≠X.env.locals/\(∀x c,X.env.cells.lookup x=some c->c≠b)/\∀p∈X.pn++pins,p.1≠b)
  (keep:∀b o,b≠X.env.locals->b∉X.fs->b∉ch->s.heap.get? b=some o->H b=none->h'.get? b=some o)
  (slot:∀b o,b≠X.env.locals->b∈X.fs->b∉ch->s.heap.get? b=some o->H b=none->∃sl,h'.get? b=some {o with slots:=sl})(free:∀b o,b∉ch->s.heap.get? b=some o->H b=none->H' b=none)
  (there:∀b o,b∉ch->s.heap.get? b=some o->∃o',h'.get? b=some o')
  (k7:∀b xs,H b=some (.tup xs)->H' b=some (.tup xs))(kD:∀b o u,H b=some (.frz o u)->H' b=some (.frz o u))(mi:∀b ps,H b=some (.tbl ps)->∃more,H' b=some (.tbl (ps++more)))
  (ns:∀m,s.heap.Ns X.env.locals m->h'.Ns X.env.locals m)(dE:rW X.prog X.w H' h')(hg:AllBare g'):
  Inv X pins σ H' {s with heap:=h',gens:=g',drawn:=d',toks:=t'}:=by
 have UC:∀b o,X.s₀.heap.get? b=some o->b≠X.env.locals:=λb o e=>ZV (wv (ww e) I.ok.above)
 have JI:∀b o,X.s₀.heap.get? b=some o->b∉X.ex->b∉ch:=λb o e hx hb=>by
  rcases(Jp b hb).1 with z|z
  ·exact hx z
  ·exact absurd (wv (ww e) z) (ZK _)
 have cellK:∀x c,X.env.cells.lookup x=some c->∀v,s.heap.IsCell c v->h'.IsCell c v:=λx c e v ⟨o,ho,hd⟩=>by
  have PM:c∉ch:=λz=>(Jp c z).2.2.1 x c e rfl
  by_cases hc:c∈X.fs
  ·obtain⟨sl,q⟩:=slot c o (I.JH x c e) hc PM ho (I.freeC x c e)
   exact⟨_,q,hd⟩
  ·exact⟨o,keep c o (I.JH x c e) hc PM ho (I.freeC x c e),hd⟩
 refine⟨I.ok,I.os,hg,⟨λb o e n hb hx=>?_,λb o e n hb hx=>?_,λb o e n hx=>?_,λb o e hx=>?_,λb xs e=>k7 b xs (I.base.k7 b xs e),λb o xs e=>kD b o xs (I.base.kD b o xs e),λb ps e=>?_⟩,?_,λx c e=>?_,?_,λx c e=>?_,λp hp=>?_,dE,I.len⟩
 ·exact keep b o (UC b o e) hb (JI b o e hx) (I.base.keep b o e n hb hx) (I.base.free b o e n hx)
 ·obtain⟨sl,e1⟩:=I.base.slot b o e n hb hx
  obtain⟨A5,e2⟩:=slot b _ (UC b o e) hb (JI b o e hx) e1 (I.base.free b o e n hx)
  exact⟨A5,e2⟩
 ·obtain⟨o',e1⟩:=I.base.there b o e hx
  exact free b o' (JI b o e hx) e1 (I.base.free b o e n hx)
 ·obtain⟨o',e1⟩:=I.base.there b o e hx
  exact there b o' (JI b o e hx) e1
 ·obtain⟨m1,e1⟩:=I.base.mi b ps e
  obtain⟨m2,e2⟩:=mi b _ e1
  exact⟨m1++m2,by rw[e2,YS]⟩
 ·obtain⟨m,hn,hl⟩:=I.loc
  refine⟨m,ns m hn,λi x v e1 e2 e3=>?_⟩
  obtain⟨u,r,l⟩:=hl i x v e1 e2 e3
  refine⟨u,r,?_⟩
  rcases l with l|⟨k,c,e,z⟩
  ·exact .inl l
  ·exact .inr ⟨k,c,e,cellK x c e _ z⟩
 ·obtain⟨v,z⟩:=I.cell x c e
  exact⟨v,cellK x c e v z⟩
 ·obtain⟨m,⟨o,_,_,ho,_⟩,_⟩:=I.loc
  exact free _ o (λz=>(Jp _ z).2.1 rfl) ho I.free
 ·obtain⟨v,o,ho,hd⟩:=I.cell x c e
  exact free c o (λz=>(Jp c z).2.2.1 x c e rfl) ho (I.freeC x c e)
 ·obtain⟨e,n,ne,nf,d⟩:=I.pin p hp
  have PM:p.1∉ch:=λz=>(Jp p.1 z).2.2.2 p hp rfl
  exact⟨keep p.1 p.2 ne nf PM e n,free p.1 p.2 PM e n,ne,nf,d⟩
theorem Inv.un{t':Nat}(I:Inv X pins σ H s)(u:Un X.fs [] H H' s.heap h')(dE:rW X.prog X.w H' h'):Inv X pins σ H' {s with heap:=h',toks:=t'}:=by
 obtain⟨m,⟨o,es,ep,ho,r⟩,_⟩:=id I.loc
 obtain⟨sl,hL⟩:=u.any ho I.free (by simp)
 exact I.step (g':=s.gens) (d':=s.drawn) (ch:=[]) (λ_ z=>nomatch z) (λb o _ hb _ e n=>u.keep b o e n hb (by simp)) (λb o _ hb _ e n=>u.slot b o e n hb (by simp)) (λb o _ e n=>u.free b o e n (by simp)) (λb o _ e=>u.there b o e (by simp)) u.k7 u.kD u.mi (λm' hm=>by
  obtain⟨o',SK,SM,MQ,r'⟩:=hm
  rw[ho]at MQ;cases MQ
  exact⟨_,SK,SM,hL,r'⟩) dE I.bare
theorem Inv.call{g':Array GenState}{t':Nat}{d':Drawn}{ch:List Addr}(I:Inv X pins σ H s)(u:Un (eI X.stack) ch H H' s.heap h')(dE:rW X.prog X.w H' h')(hg:AllBare g')
  (Jp:∀b∈ch,(b∈X.ex\/X.s₀.heap.objs.size<=b)/\b≠X.env.locals/\(∀x c,X.env.cells.lookup x=some c->c≠b)/\∀p∈X.pn++pins,p.1≠b):
  Inv X pins σ H' {s with heap:=h',gens:=g',drawn:=d',toks:=t'}:=by
 obtain⟨m,⟨o,es,ep,ho,r⟩,_⟩:=id I.loc
 obtain⟨sl,hL⟩:=u.any ho I.free λz=>(Jp _ z).2.1 rfl
 exact I.step (ch:=ch) Jp (λb o hL hb hc e n=>u.keep b o e n (λz=>(ZJ.mp (I.A4 b z)).elim hL hb) hc) (λb o _ _ hc e n=>u.any e n hc) (λb o hc e n=>u.free b o e n hc) (λb o hc e=>u.there b o e hc) u.k7 u.kD u.mi (λm' hm=>by
  obtain⟨o',SK,SM,MQ,r'⟩:=hm
  rw[ho]at MQ;cases MQ
  exact⟨_,SK,SM,hL,r'⟩) dE hg
theorem Inv.turned{t':Nat}{it:Addr}(I:Inv X pins σ H s)(k:∀b o,b≠it->s.heap.get? b=some o->h'.get? b=some o)(hn:H it=none)(hL:it≠X.env.locals)
  (h1:it∈X.ex\/X.s₀.heap.objs.size<=it)(h2:∀x c,X.env.cells.lookup x=some c->c≠it)(h3:∀p∈X.pn++pins,p.1≠it):Inv X pins σ H {s with heap:=h',toks:=t'}:=by
 have UD:∀b u,H b=some u->b≠it:=λb u e z=>by rw[z,hn]at e;cases e
 refine I.step (g':=s.gens) (d':=s.drawn) (ch:=[it]) (λb hb=>?_) (λb o _ _ hc e _=>k b o (λz=>hc (by simp[z])) e) (λb o _ _ hc e _=>⟨o.slots,k b o (λz=>hc (by simp[z])) e⟩) (λ_ _ _ _ n=>n)
  (λb o hc e=>⟨o,k b o (λz=>hc (by simp[z])) e⟩) (λ_ _ e=>e) (λ_ _ _ e=>e) (λb ps e=>⟨#[],by rw[e];simp⟩) (λm hm=>?_) (λb u e=>?_) I.bare
 ·have e:b=it:=by simpa using hb
  subst e
  exact⟨h1,hL,h2,h3⟩
 ·obtain⟨o,es,ep,ho,r⟩:=hm
  exact⟨o,es,ep,k _ o (Ne.symm hL) ho,r⟩
 ·refine(I.dE b u e).ke (λc v hc q=>k c v ?_ q) (λ_ q=>q) λ_ _ q=>q
  rcases hc with z|z
  ·rw[z];exact UD b u e
  ·exact UD c _ z
theorem Inv.tok(I:Inv X pins σ H s)(t:Nat):Inv X pins σ H {s with toks:=t}:=I.un (h':=s.heap) (t':=t) Un.refl I.dE
theorem Inv.kept{t':Nat}(I:Inv X pins σ H s)(k:∀b u,s.heap.get? b=some u->h'.get? b=some u):Inv X pins σ H {s with heap:=h',toks:=t'}:=I.un (Un.kept k) (I.dE.kept k)
theorem Inv.laid{a:Addr}{o:HO}{t':Nat}(I:Inv X pins σ H s)(k:∀b u,s.heap.get? b=some u->h'.get? b=some u)(hp:s.heap.objs.size<=a)(new:fv X.prog X.w (upd H a o) h' a o):
 Inv X pins σ (upd H a o) {s with heap:=h',toks:=t'}:=I.un (Un.laid k hp (I.dE.fresh hp)) (I.dE.laid k hp new)
theorem Inv.write{x e:Addr}{o:HO}{t':Nat}(I:Inv X pins σ H s)(mu:RV (H x))(he:e=x\/H e=some (.own x))(k:∀b u,b≠e->s.heap.get? b=some u->h'.get? b=some u)(O6:∃u,h'.get? e=some u)
 (new:fv X.prog X.w (upd H x o) h' x o):Inv X pins σ (upd H x o) {s with heap:=h',toks:=t'}:=I.un (Un.write mu he k O6) (I.dE.write mu he k O6 new)
theorem Inv.weak{σ':List (Option V)}(I:Inv X pins σ H s)(hl:σ'.length=σ.length)(w:∀(i:Nat) v,σ'[i]?=some (some v)->σ[i]?=some (some v)):Inv X pins σ' H s:=
 ⟨I.ok,I.os,I.bare,I.base,let⟨m,hn,O7⟩:=I.loc;⟨m,hn,λi x v e1 e2 e3=>O7 i x v e1 (w i v e2) e3⟩,I.cell,I.free,I.freeC,I.pin,I.dE,hl.trans I.len⟩
theorem Inv.fj{jd:List (Addr×Obj)}(I:Inv X pins σ H s)(h:∀p∈jd,s.heap.get? p.1=some p.2/\H p.1=none/\p.1≠X.env.locals/\p.1∉X.fs/\∀v,p.2.data≠.cell v):Inv X jd σ H s:=
 ⟨I.ok,I.os,I.bare,I.base,I.loc,I.cell,I.free,I.freeC,λp hp=>(sK.mp hp).elim (λz=>I.pin p (ZF _ z)) (h p),I.dE,I.len⟩
theorem tY{N:List Str}(hN:N.Nodup){i j:Nat}{x:Str}(a:N[i]?=some x)(b:N[j]?=some x):i=j:=by
 obtain⟨h1,e1⟩:=wS.mp a
 obtain⟨h2,e2⟩:=wS.mp b
 exact(List.getElem_inj hN).mp (e1.trans e2.symm)
theorem qO{M:Model}{A:Around}{E:Value->Shared->Prop}{i:Nat}{x:Str}{v:V}{u:Value}{Q:Unit->Shared->Prop}(I:Inv X pins σ H s)(hN:X.N.Nodup)(hi:X.N[i]?=some x)(hx:Loc X.env.scope x)(r:RelV v u)
  (h:∀s',Inv X pins (σ.set i (some v)) H s'->(∃a,Heap.SameBut a s.heap s'.heap/\(a=X.env.locals\/X.env.cells.lookup x=some a))->Q () s')(hf:X.fn x=true\/X.env.scope.names.lookup x=some .local:=by first|exact .inl rfl|exact .inr rfl|assumption):wpAny M A (storeName X.env x u) Q E s:=by
 obtain⟨m,hn,hl⟩:=id I.loc
 have F0:(X.env.scope.kind==.class||(X.env.scope.kind==.module&&X.env.locals !=X.env.globals))=false:=by rw[I.ok.kind];rfl
 have UE:i<σ.length:=by rw[I.len];exact(wS.mp hi).1
 have JH:=I.JH
 have tracked:∀{a:Addr} {h':Heap},(∃o,s.heap.get? a=some o/\H a=none)->Heap.SameBut a s.heap h'->rW X.prog X.w H h':=λ{a h'} ha hs b ob e=>by
  obtain⟨_,_,mv⟩:=ha
  refine(I.dE b ob e).ke (λc w' hc q=>(hs.2 c ?_).trans q) (λ_ q=>q) λ_ _ q=>q
  rintro rfl
  rcases hc with rfl|hc
  ·rw[mv]at e;cases e
  ·rw[mv]at hc;cases hc
 rcases hx with hk|hk
 ·refine wpAny_storeName_local hk hn (λh' PN hs=>?_) F0
  obtain⟨oL,_,_,SN,_⟩:=id hn
  refine h _ ⟨I.ok,I.os,I.bare,⟨λb o e n hb hx=>?_,λb o e n hb hx=>?_,I.base.free,λb o e hx=>?_,I.base.k7,I.base.kD,I.base.mi⟩,⟨_,PN,λj y v' e1 e2 e3=>?_⟩,λy c e=>?_,I.free,I.freeC,λp hp=>?_,tracked ⟨oL,SN,I.free⟩ hs,by simpa using I.len⟩ ⟨_,hs,.inl rfl⟩
  ·exact(hs.2 b (ZV (wv (ww e) I.ok.above))).trans (I.base.keep b o e n hb hx)
  ·obtain⟨sl,e1⟩:=I.base.slot b o e n hb hx
   exact⟨sl,(hs.2 b (ZV (wv (ww e) I.ok.above))).trans e1⟩
  ·obtain⟨o',e1⟩:=I.base.there b o e hx
   exact⟨o',(hs.2 b (ZV (wv (ww e) I.ok.above))).trans e1⟩
  ·by_cases hj:j=i
   ·subst hj
    rw[hi]at e1;cases e1
    rw[YC UE]at e2
    cases e2
    exact⟨u,r,.inl ⟨hk,by simp⟩⟩
   ·rw[Z1 (Ne.symm hj)]at e2
    obtain⟨u',r',q⟩:=hl j y v' e1 e2 e3
    refine⟨u',r',?_⟩
    rcases q with⟨k,e⟩|⟨k,c,e,z⟩
    ·refine .inl ⟨k,?_⟩
     have:y≠x:=λe=>hj (tY hN e1 (e▸hi))
     simp[this,e]
    ·exact .inr ⟨k,c,e,z.sameBut hs (JH y c e)⟩
  ·obtain⟨w',z⟩:=I.cell y c e
   exact⟨w',z.sameBut hs (JH y c e)⟩
  ·obtain⟨e,n,ne,nf,d⟩:=I.pin p hp
   exact⟨(hs.2 p.1 ne).trans e,n,ne,nf,d⟩
 ·have SO:X.fn x=true:=by
    rcases hf with z|z
    ·exact z
    ·rw[z]at hk;cases hk
  obtain⟨c,hc⟩:=I.ok.has x (.inl hk)
  obtain⟨w',z⟩:=I.cell x c hc
  refine wpAny_storeName_cell I.ok.kind hk hc z (λh' LF hs=>?_)
  obtain⟨oc,UG,SQ⟩:=id z
  refine h {s with heap:=h'} ⟨I.ok,I.os,I.bare,⟨λb o e n hb hx=>?_,λb o e n hb hx=>?_,I.base.free,λb o e hx=>?_,I.base.k7,I.base.kD,I.base.mi⟩,⟨m,hn.sameBut hs (Ne.symm (JH x c hc)),λj y v' e1 e2 e3=>?_⟩,λy c' e=>?_,I.free,I.freeC,λp hp=>?_,tracked ⟨oc,UG,I.freeC x c hc⟩ hs,by simpa using I.len⟩ ⟨c,hs,.inr hc⟩
  ·exact(hs.2 b (ZV (wv (ww e) (I.ok.cab x c SO hc)))).trans (I.base.keep b o e n hb hx)
  ·obtain⟨sl,e1⟩:=I.base.slot b o e n hb hx
   exact⟨sl,(hs.2 b (ZV (wv (ww e) (I.ok.cab x c SO hc)))).trans e1⟩
  ·obtain⟨o',e1⟩:=I.base.there b o e hx
   exact⟨o',(hs.2 b (ZV (wv (ww e) (I.ok.cab x c SO hc)))).trans e1⟩
  ·by_cases hj:j=i
   ·subst hj
    rw[hi]at e1;cases e1
    rw[YC UE]at e2
    cases e2
    exact⟨u,r,.inr ⟨.inl hk,c,hc,LF⟩⟩
   ·rw[Z1 (Ne.symm hj)]at e2
    obtain⟨u',r',q⟩:=hl j y v' e1 e2 e3
    refine⟨u',r',?_⟩
    rcases q with q|⟨k,c',e,z'⟩
    ·exact .inl q
    ·refine .inr ⟨k,c',e,z'.sameBut hs ?_⟩
     rintro rfl
     exact hj (tY hN e1 (I.ok.inj _ _ _ e hc▸hi))
  ·by_cases RX:c'=c
   ·subst RX;exact⟨_,LF⟩
   ·obtain⟨w2,z2⟩:=I.cell y c' e
    exact⟨w2,z2.sameBut hs RX⟩
  ·obtain⟨e,n,ne,nf,d⟩:=I.pin p hp
   refine⟨(hs.2 p.1 ?_).trans e,n,ne,nf,d⟩
   intro q
   rw[q,UG]at e
   have q':oc=p.2:=ZO e
   exact d w' (by rw[<-q'];exact SQ)
theorem jv{M:Model}{A:Around}{E:Value->Shared->Prop}{i:Nat}{x:Str}{v:V}{u:Value}{Q:Unit->Shared->Prop}(I:Inv X pins σ H s)(hN:X.N.Nodup)(hi:X.N[i]?=some x)(hx:Loc X.env.scope x)(r:RelV v u)
  (h:∀s',Inv X pins (σ.set i (some v)) H s'->Q () s')(hf:X.fn x=true\/X.env.scope.names.lookup x=some .local:=by first|exact .inl rfl|exact .inr rfl|assumption):wpAny M A (storeName X.env x u) Q E s:=
 qO I hN hi hx r (λs' I' _=>h s' I') hf
theorem Inv.LG{s':Shared}{ch:List Addr}(I:Inv X pins σ H s)(ho:s'.os=s.os)(u:Un (eI X.stack) ch H H' s.heap s'.heap)(dE:rW X.prog X.w H' s'.heap)(hg:AllBare s'.gens)
  (Jp:∀b∈ch,(b∈X.ex\/X.s₀.heap.objs.size<=b)/\b≠X.env.locals/\(∀x c,X.env.cells.lookup x=some c->c≠b)/\∀p∈X.pn++pins,p.1≠b):Inv X pins σ H' s':=by
 obtain⟨h',g',d',t',o'⟩:=s'
 have e:o'=s.os:=ho
 subst e
 exact I.call (g':=g') (t':=t') (d':=d') u dE hg Jp
end
abbrev XK:=Value->Option Addr->Hp->Prop
abbrev St:=List (Option V)
abbrev VK:=V->Hp->Prop
abbrev TE:=St->Hp->VK->Prop
abbrev TT:=St->Hp->(Bool->Hp->Prop)->Prop
abbrev TA:=St->Hp->(List V->Hp->Prop)->Prop
structure Ends where
 nx:St->Hp->Prop
 rt:VK
 bk:St->Hp->Prop:=λ_ _=>False
 ct:St->Hp->Prop:=λ_ _=>False
abbrev TS:=Ends->St->Hp->Prop
def EP(X:Cx)(pins:List (Addr×Obj))(σ:St)(Q:VK)(u:Value)(s':Shared):Prop:=∃v H',Inv X pins σ H' s'/\RelV v u/\Q v H'
def TP(X:Cx)(pins:List (Addr×Obj))(σ:St)(Q:Bool->Hp->Prop)(b:Bool)(s':Shared):Prop:=∃H',Inv X pins σ H' s'/\Q b H'
def AP(X:Cx)(pins:List (Addr×Obj))(σ:St)(Q:List V->Hp->Prop)(us:List Value)(s':Shared):Prop:=∃vs H',Inv X pins σ H' s'/\Vals vs us/\Q vs H'
def SP(X:Cx)(pins:List (Addr×Obj))(D:Ends)(f:Flow)(s':Shared):Prop:=
 match f with
 |.next=>∃σ' H',Inv X pins σ' H' s'/\D.nx σ' H'
 |.brk=>∃σ' H',Inv X pins σ' H' s'/\D.bk σ' H'
 |.cont=>∃σ' H',Inv X pins σ' H' s'/\D.ct σ' H'
 |.ret u=>∃v σ' H',Inv X pins σ' H' s'/\RelV v u/\D.rt v H'
def PE(X:Cx)(e:Expr)(t:TE):Prop:=
 ∀(pins:List (Addr×Obj)) (s:Shared) (σ:St) (H:Hp) (Q:VK),Inv X pins σ H s->t σ H Q->wpAny (model X.prog X.w) X.A (eval e X.env) (EP X pins σ Q) X.xe s
def PT(X:Cx)(e:Expr)(t:TT):Prop:=
 ∀(pins:List (Addr×Obj)) (s:Shared) (σ:St) (H:Hp) (Q:Bool->Hp->Prop),Inv X pins σ H s->t σ H Q->wpAny (model X.prog X.w) X.A (isTrue e X.env (eval e X.env)) (TP X pins σ Q) X.xe s
def PW(X:Cx)(e:Expr)(t:TT):Prop:=
 ∀(whole:Sem Value) (pins:List (Addr×Obj)) (s:Shared) (σ:St) (H:Hp) (Q:Bool->Hp->Prop),Inv X pins σ H s->t σ H Q->wpAny (model X.prog X.w) X.A (isTrue e X.env whole) (TP X pins σ Q) X.xe s
theorem PW.pt{X:Cx}{e:Expr}{t:TT}(h:PW X e t):PT X e t:=h _
def PA(X:Cx)(es:List Expr)(t:TA):Prop:=
 ∀(pos:Pos) (pins:List (Addr×Obj)) (s:Shared) (σ:St) (H:Hp) (Q:List V->Hp->Prop),Inv X pins σ H s->t σ H Q->wpAny (model X.prog X.w) X.A (spliced (backTo pos (starEach es X.env))) (AP X pins σ Q) X.xe s
def PS(X:Cx)(st:Stmt)(t:TS):Prop:=
 ∀(pins:List (Addr×Obj)) (s:Shared) (σ:St) (H:Hp) (D:Ends),Inv X pins σ H s->t D σ H->wpAny (model X.prog X.w) X.A (exec st X.env) (SP X pins D) X.xe s
def A6(X:Cx)(st:List Stmt)(t:TS):Prop:=
 ∀(pins:List (Addr×Obj)) (s:Shared) (σ:St) (H:Hp) (D:Ends),Inv X pins σ H s->t D σ H->wpAny (model X.prog X.w) X.A (execs st X.env) (SP X pins D) X.xe s
theorem dH{α:Type}{t:Sem α}{Q Q':α->Shared->Prop}{M:Model}{A:Around}{E:Value->Shared->Prop}{s:Shared}(h:wpAny M A t Q E s)(hQ:∀a s,Q a s->Q' a s):wpAny M A t Q' E s:=wpAny_mono h hQ λ_ _ x=>x
section
variable{X:Cx}
def fB(i:Nat):TE:=λσ H Q=>∃v,σ[i]?=some (some v)/\Q v H
def tC(v:V):TE:=λ_ H Q=>Q v H
theorem kf{i:Nat}{x:Str}{pos:Pos}(hN:X.N[i]?=some x)(hv:FZ X.env.scope x)(hd:(x==("__debug__" :Str))=false:=by decide)(pK:(x==("__classdict__" :Str))=false:=by decide):PE X (.Name x pos) (fB i):=by
 intro pins s σ H Q I h
 obtain⟨v,e,h⟩:=h
 obtain⟨m,hn,hl⟩:=I.loc
 obtain⟨u,r,l⟩:=hl i x v hN e hv
 have fin:EP X pins σ Q u s:=⟨v,H,I,r,h⟩
 rcases l with⟨hk,hm⟩|⟨hk,c,hc,LH⟩
 ·exact wpAny_Name (wpAny_loadName_local I.ok.kind hk hn hm fin) hd
 ·rcases hk with hk|hk
  ·exact wpAny_Name (wpAny_loadName_cell I.ok.kind hk hc LH fin) hd
  ·exact wpAny_Name (wpAny_loadName_free I.ok.kind hk hc LH fin pK) hd
theorem F1{i j pos}:PE X (.Constant (.int i) j pos) (tC (.int i)):=λ_ _ _ H _ I h=>wpAny_Constant_int ⟨.int i,H,I.tok _,⟨_,rfl⟩,h⟩
theorem PQ{b j pos}:PE X (.Constant (.bool b) j pos) (tC (.bl b)):=λ_ _ _ H _ I h=>Constant_bool ⟨.bl b,H,I,rfl,h⟩
theorem A7{j pos}:PE X (.Constant .none j pos) (tC .non):=λ_ _ _ H _ I h=>Constant_none ⟨.non,H,I,rfl,h⟩
theorem A8{x j pos}:PE X (.Constant (.str x) j pos) (tC (.str x)):=λ_ _ _ H _ I h=>Calls.Constant_str ⟨.str x,H,I.tok _,⟨_,rfl⟩,h⟩
def Gl(X:Cx)(x:Str):Prop:=X.env.kindOf x=some .globalImplicit
theorem nP{E:Value->Shared->Prop}{pins:List (Addr×Obj)}{s:Shared}{σ:St}{H:Hp}{x:Str}{u:Value}{pos:Pos}{Q:Value->Shared->Prop}(I:Inv X pins σ H s)(hg:Gl X x)(hm:X.mg x=some u)(h:Q u s)
  (hd:(x==("__debug__" :Str))=false:=by decide):wpAny (model X.prog X.w) X.A (eval (.Name x pos) X.env) Q E s:=
 Calls.Name_function_global I.ok.kind hg (Calls.loadGlobal_global (by rw[I.ok.glob];exact I.mod.glob.keeps I.bk) hm h) hd
theorem qP{E:Value->Shared->Prop}{pins:List (Addr×Obj)}{s:Shared}{σ:St}{H:Hp}{x:Str}{u:Value}{pos:Pos}{Q:Value->Shared->Prop}(I:Inv X pins σ H s)(hg:Gl X x)(hm:X.mg x=none)(hv:bootBuiltins x=some u)(h:Q u s)
  (hn:x≠ "__name__" :=by decide)(hd:(x==("__debug__" :Str))=false:=by decide):wpAny (model X.prog X.w) X.A (eval (.Name x pos) X.env) Q E s:=by
 obtain⟨mb,h1,h2⟩:=I.mod.blt
 exact Calls.Name_function_global I.ok.kind hg (Calls.loadGlobal_builtin (by rw[I.ok.glob];exact I.mod.glob.keeps I.bk) hm (by rw[I.ok.blt];exact h1.keeps I.bk) ((h2 x hn).trans hv) h) hd
theorem tq{x:Str}{v:V}{u:Value}{pos:Pos}(hg:Gl X x)(hm:X.mg x=some u)(r:RelV v u)(hd:(x==("__debug__" :Str))=false:=by decide):PE X (.Name x pos) (tC v):=
 λ_ _ _ H _ I h=>nP I hg hm ⟨v,H,I,r,h⟩ hd
theorem CY{x:Str}{v:V}{u:Value}{pos:Pos}(hg:Gl X x)(hm:X.mg x=none)(hv:bootBuiltins x=some u)(r:RelV v u)(hn:x≠ "__name__" :=by decide)(hd:(x==("__debug__" :Str))=false:=by decide):PE X (.Name x pos) (tC v):=
 λ_ _ _ H _ I h=>qP I hg hm hv ⟨v,H,I,r,h⟩ hn hd
variable{a b:Expr}{ta tb:TE}{pos:Pos}
def PC(X:Cx)(op:CmpOp)(a b:Expr)(t:TE):Prop:=
 ∀(pins:List (Addr×Obj)) (s:Shared) (σ:St) (H:Hp) (Q:VK),Inv X pins σ H s->t σ H Q->
  wpAny (model X.prog X.w) X.A (eval a X.env) (λv s₁=>wpAny (model X.prog X.w) X.A (eval b X.env) (λu s₂=>wpAny (model X.prog X.w) X.A (compareOp op v u) (EP X pins σ Q) X.xe s₂) X.xe s₁) X.xe s
theorem F2(b:Expr){op:CmpOp}(h:op≠.In)(h2:op≠.NotIn):behindInMarks op b=false:=by
 have e1:(op==CmpOp.In)=false:=by cases op<;>first|rfl|exact absurd rfl h
 have e2:(op==CmpOp.NotIn)=false:=by cases op<;>first|rfl|exact absurd rfl h2
 cases b<;>simp[behindInMarks,e1,e2]
def CZ(ta:TE):TE:=λσ H Q=>ta σ H λx H1=>Q (.bl (!decide (x=.non))) H1
theorem RelV.F3{x:V}{v:Value}(r:RelV x v):(v==Value.none)=decide (x=.non):=by
 cases x with
 |non=>cases r;rfl
 |bl _=>cases r;rfl
 |int _=>obtain⟨t,rfl⟩:=r;rfl
 |str _=>obtain⟨t,rfl⟩:=r;rfl
 |byt _=>obtain⟨t,rfl⟩:=r;rfl
 |flt _=>obtain⟨t,rfl⟩:=r;rfl
 |ref _=>cases r;rfl
 |ty _=>cases r;rfl
theorem JJ{j pos'}(ha:PE X a ta):PC X .IsNot a (.Constant .none j pos') (CZ ta):=by
 intro pins s σ H Q I h
 refine dH (ha pins s σ H _ I h) λv s1 cw=>?_
 obtain⟨x,H1,I1,r1,q1⟩:=cw
 exact Constant_none (isnot_none_gen ⟨.bl _,H1,I1,by rw[r1.F3];rfl,q1⟩)
def tB(t:TE):TT:=λσ H Q=>t σ H λx H1=>∃c,x=.bl c/\Q c H1
theorem MR{op:CmpOp}{t:TE}(h:PC X op a b t)(h1:behindInMarks op b=false:=by first|exact F2 _ (by decide) (by decide)|rfl):PT X (.Compare a [op] [b] pos) (tB t):=by
 intro pins s σ H Q I hw
 refine wpAny_isTrue_Compare1 (dH (h pins s σ H _ I hw) λv s1 h1=>dH h1 λu s2 h2=>dH h2 λc s3 cw=>?_) h1
 obtain⟨x,H1,I1,r1,q1⟩:=cw
 obtain⟨d,rfl,q⟩:=q1
 cases r1
 exact wpAny_truthy_bool ⟨H1,I1,q⟩
theorem xq{e:Expr}{t:TE}(h:PE X e t)(he:∀whole,isTrue e X.env whole=(do let v<-whole;standAt e.pos;holding [v] (truthy v)):=by intro _;rfl):PT X e (tB t):=by
 intro pins s σ H Q I hw
 refine isTrue_plain (dH (h pins s σ H _ I hw) λv s1 cw=>?_) (he _)
 obtain⟨x,H1,I1,r1,q1⟩:=cw
 obtain⟨d,rfl,q⟩:=q1
 cases r1
 exact wpAny_truthy_bool ⟨H1,I1,q⟩
variable{tA RY:TT}{rest:List Expr}
def oF(t u:TT):TT:=λσ H Q=>t σ H λc H1=>if c=true then u σ H1 Q else Q false H1
def FJ(t u:TT):TT:=λσ H Q=>t σ H λc H1=>if c=true then Q true H1 else u σ H1 Q
def qQ(t:TT):TT:=λσ H Q=>t σ H λc H1=>Q (!c) H1
theorem pw_and1(ha:PT X a tA):PW X (.BoolOp .And [a] pos) tA:=by
 intro wh pins s σ H Q I h
 refine isTrue_and (dH (ha pins s σ H Q I h) λc s1 e=>?_)
 cases c with
 |true=>exact isTrue_and_nil e
 |false=>exact e
theorem pw_or1(ha:PT X a tA):PW X (.BoolOp .Or [a] pos) tA:=by
 intro wh pins s σ H Q I h
 refine isTrue_or (dH (ha pins s σ H Q I h) λc s1 e=>?_)
 cases c with
 |false=>exact isTrue_or_nil e
 |true=>exact e
theorem pw_and(ha:PT X a tA)(hb:PW X (.BoolOp .And (b::rest) pos) RY):PW X (.BoolOp .And (a::b::rest) pos) (oF tA RY):=by
 intro wh pins s σ H Q I h
 refine isTrue_and (dH (ha pins s σ H _ I h) λc s1 ⟨H1,I1,q1⟩=>?_)
 cases c with
 |true=>exact hb wh pins s1 σ H1 Q I1 q1
 |false=>exact⟨H1,I1,q1⟩
theorem pw_or(ha:PT X a tA)(hb:PW X (.BoolOp .Or (b::rest) pos) RY):PW X (.BoolOp .Or (a::b::rest) pos) (FJ tA RY):=by
 intro wh pins s σ H Q I h
 refine isTrue_or (dH (ha pins s σ H _ I h) λc s1 ⟨H1,I1,q1⟩=>?_)
 cases c with
 |true=>exact⟨H1,I1,q1⟩
 |false=>exact hb wh pins s1 σ H1 Q I1 q1
theorem F4(ha:PT X a tA):PT X (.UnaryOp .Not a pos) (qQ tA):=by
 intro pins s σ H Q I h
 exact isTrue_not (ha pins s σ H (λc H1=>Q (!c) H1) I h)
end
def mj(K:PySem.W.Frag)(H:Hp)(a:Addr)(xs:List V):Prop:=
 Rd H a (.lst xs)\/
  ∃(o:Obj) (its:Array Value) (n:Nat),K.lookup a=some o/\o.cls=.type "list" /\o.dict=none/\o.data=.seq its n/\its.size<=sizeLine/\Vals xs its.toList
def kC(K:PySem.W.Frag)(H:Hp)(a:Addr)(xs:List V):Prop:=
 Rd H a (.tup xs)\/
  ∃(o:Obj) (its:Array Value) (n:Nat),K.lookup a=some o/\o.cls=.type "tuple" /\o.data=.seq its n/\(its.size<=sizeLine/\o.dict=none)/\Vals xs its.toList
def SR:Value->Option V
 |.none=>some .non
 |.bool b=>some (.bl b)
 |.int i _=>some (.int i)
 |.str x _=>some (.str x)
 |.bytes b _=>some (.byt b)
 |.float b _=>some (.flt b)
 |.ref a=>some (.ref a)
 |.type n=>some (.ty n)
 |_=>none
theorem RelV.abs{x:V}{u:Value}(r:RelV x u):SR u=some x:=by
 cases x with
 |non=>cases r;rfl
 |bl _=>cases r;rfl
 |int _=>obtain⟨t,rfl⟩:=r;rfl
 |str _=>obtain⟨t,rfl⟩:=r;rfl
 |byt _=>obtain⟨t,rfl⟩:=r;rfl
 |flt _=>obtain⟨t,rfl⟩:=r;rfl
 |ref _=>cases r;rfl
 |ty _=>cases r;rfl
theorem RelV.inj{x y:V}{u:Value}(r:RelV x u)(q:RelV y u):x=y:=ZO (r.abs.symm.trans q.abs)
theorem Vals.inj:∀{xs ys:List V} {us:List Value},Vals xs us->Vals ys us->xs=ys
 |_,_,_,.nil,.nil=>rfl
 |_,_,_,.cons r t,.cons r' t'=>by rw[r.inj r',Vals.inj t t']
section
variable{X:Cx}{pins:List (Addr×Obj)}{σ:St}{H:Hp}{s:Shared}{a:Addr}{xs ys:List V}
theorem mj.of{K:PySem.W.Frag}(h:H a=some (.lst xs)):mj K H a xs:=.inl (.inl h)
theorem kC.of{K:PySem.W.Frag}(h:H a=some (.tup xs)):kC K H a xs:=.inl (.inl h)
theorem Inv.list(I:Inv X pins σ H s)(h:mj X.K H a xs):∃its:List Value,Vals xs its/\PlainL s.heap a its.toArray/\xs.length<=sizeLine:=by
 rcases h with h|⟨o,its,n,hk,hc,hd,hs,hz,r⟩
 ·obtain⟨z,its,n,r,e⟩:=h.ok I.dE
  exact⟨its,r,⟨_,n,e,rfl,rfl,rfl⟩,z⟩
 ·refine⟨its.toList,r,⟨o,n,I.k8 a o hk,hc,hd,by simpa using hs⟩,?_⟩
  have e:=r.length
  simp only[v4]at e
  omega
theorem Inv.tuple(I:Inv X pins σ H s)(h:kC X.K H a xs):∃its:List Value,Vals xs its/\IsTup s.heap a its.toArray/\xs.length<=sizeLine:=by
 rcases h with h|⟨o,its,n,hk,hc,hs,hz,r⟩
 ·obtain⟨z,its,r,p⟩:=h.ok I.dE
  exact⟨its,r,p,z.1⟩
 ·refine⟨its.toList,r,⟨o,I.k8 a o hk,hc,n,by simpa using hs⟩,?_⟩
  have e:=r.length
  simp only[v4]at e
  omega
theorem Inv.MS(I:Inv X pins σ H s)(h:kC X.K H a xs):JF s.heap a:=by
 rcases h with h|⟨o,its,n,hk,hc,hs,hz,r⟩
 ·obtain⟨z,its,r,p⟩:=h.ok I.dE
  exact z.2
 ·exact⟨o,I.k8 a o hk,hz.2⟩
theorem JF.new{h:Heap}{its:Array Value}{n:Nat}:JF (h.push {cls:=.type "tuple",data:=.seq its n}) h.objs.size:=⟨_,ZH _ rfl,rfl⟩
theorem Inv.tZ(I:Inv X pins σ H s)(h:mj X.K H a xs)(h':mj X.K H a ys):xs=ys:=by
 obtain⟨its,r,⟨o,n,e,_,_,d⟩,_⟩:=I.list h
 obtain⟨its',r',⟨o',n',e',_,_,d'⟩,_⟩:=I.list h'
 rw[e]at e';cases e'
 rw[d]at d'
 injection d' with d1 _
 have:its=its':=by simpa using congrArg Array.toList d1
 subst this
 exact r.inj r'
theorem Inv.v9(I:Inv X pins σ H s)(h:kC X.K H a xs)(h':kC X.K H a ys):xs=ys:=by
 obtain⟨its,r,⟨o,e,_,n,d⟩,_⟩:=I.tuple h
 obtain⟨its',r',⟨o',e',_,n',d'⟩,_⟩:=I.tuple h'
 rw[e]at e';cases e'
 rw[d]at d'
 injection d' with d1 _
 have:its=its':=by simpa using congrArg Array.toList d1
 subst this
 exact r.inj r'
end
abbrev Cx.fG(X:Cx)(E:Value->Shared->Prop):Cx:={X with xe:=E}
abbrev Cx.PR(X:Cx):Cx:=X.fG λ_ _=>False
theorem Cx.Ok.fG{X:Cx}(ok:X.Ok)(E:Value->Shared->Prop):(X.fG E).Ok:=
 ⟨ok.mod,ok.kind,ok.glob,ok.blt,ok.above,ok.inj,ok.has,ok.cab,ok.hd,ok.frames,ok.FI,ok.exf,ok.bs,ok.bsz,ok.noex,ok.exfs,ok.funs,ok.frf⟩
theorem Cx.Ok.gn{X:Cx}{E:Value->Shared->Prop}(ok:(X.fG E).Ok):X.Ok:=
 ⟨ok.mod,ok.kind,ok.glob,ok.blt,ok.above,ok.inj,ok.has,ok.cab,ok.hd,ok.frames,ok.FI,ok.exf,ok.bs,ok.bsz,ok.noex,ok.exfs,ok.funs,ok.frf⟩
section
variable{X:Cx}{pins:List (Addr×Obj)}{σ:St}{H:Hp}{s:Shared}{E:Value->Shared->Prop}
theorem Inv.fG(I:Inv X pins σ H s)(E:Value->Shared->Prop):Inv (X.fG E) pins σ H s:=⟨I.ok.fG E,I.os,I.bare,I.base,I.loc,I.cell,I.free,I.freeC,I.pin,I.dE,I.len⟩
theorem Inv.gn(I:Inv (X.fG E) pins σ H s):Inv X pins σ H s:=⟨I.ok.gn,I.os,I.bare,I.base,I.loc,I.cell,I.free,I.freeC,I.pin,I.dE,I.len⟩
theorem SP.gn{D:Ends}{f:Flow}{s':Shared}(h:SP (X.fG E) pins D f s'):SP X pins D f s':=by
 cases f with
 |next=>obtain⟨σ',H',I,q⟩:=h;exact⟨σ',H',I.gn,q⟩
 |brk=>obtain⟨σ',H',I,q⟩:=h;exact⟨σ',H',I.gn,q⟩
 |cont=>obtain⟨σ',H',I,q⟩:=h;exact⟨σ',H',I.gn,q⟩
 |ret u=>obtain⟨v,σ',H',I,r,q⟩:=h;exact⟨v,σ',H',I.gn,r,q⟩
theorem A6.PR{st:List Stmt}{t:TS}(h:A6 X.PR st t):A6 X st t:=λpins s σ H D I hw=>
 wpAny_mono (h pins s σ H D (I.fG _) hw) (λ_ _ q=>q.gn) λ_ _ z=>False.elim z
end
section
variable{X:Cx}{st:Stmt}{rest:List Stmt}{t u:TS}{e:Expr}{te:TE}{pos:Pos}
def ua:TS:=λD σ H=>D.nx σ H
def vH(t u:TS):TS:=λD σ H=>t {D with nx:=u D} σ H
theorem fN:A6 X [] ua:=λ_ _ σ H _ I h=>wpAny_execs_nil ⟨σ,H,I,h⟩
theorem cz(h1:PS X st t)(h2:A6 X rest u):A6 X (st::rest) (vH t u):=by
 intro pins s σ H D I h
 refine wpAny_execs_cons (dH (h1 pins s σ H {D with nx:=u D} I h) λf s1 q=>?_)
 cases f with
 |next=>
  obtain⟨σ',H',I',q⟩:=q
  exact h2 pins s1 σ' H' D I' q
 |ret v=>exact q
 |brk=>exact q
 |cont=>exact q
theorem cF(h1:PS X st t):A6 X [st] t:=by
 intro pins s σ H D I h
 refine wpAny_execs_cons (dH (h1 pins s σ H D I h) λf s1 q=>?_)
 cases f with
 |next=>exact wpAny_execs_nil q
 |ret v=>exact q
 |brk=>exact q
 |cont=>exact q
theorem Inv.quiet{pins:List (Addr×Obj)}{σ:St}{H:Hp}{s:Shared}(I:Inv X pins σ H s):interactive X.env=false:=by simp[interactive,I.ok.kind]
def ub(te:TE):TS:=λD σ H=>te σ H λ_ H1=>D.nx σ H1
theorem nQ(he:PE X e te)(hs:swapsWith e none pos.line X.env=pure false:=by rfl):PS X (.Expr e pos) (ub te):=by
 intro pins s σ H D I h
 exact wpAny_Expr_any (dH (he pins s σ H _ I h) λv s1 ⟨x,H1,I1,r1,q1⟩=>⟨σ,H1,I1,q1⟩) I.quiet hs
def A9(te:TE):TS:=λD σ H=>te σ H D.rt
theorem mw(he:PE X e te):PS X (.Return (some e) pos) (A9 te):=by
 intro pins s σ H D I h
 exact wpAny_Return_some (dH (he pins s σ H _ I h) λv s1 ⟨x,H1,I1,r1,q1⟩=>⟨x,σ,H1,I1,r1,q1⟩)
def Ba(c:TT)(t u:TS):TS:=λD σ H=>c σ H λb H1=>if b=true then t D σ H1 else u D σ H1
theorem l7{c:Expr}{a b:List Stmt}{tc:TT}(hc:PT X c tc)(ha:A6 X a t)(hb:A6 X b u):PS X (.If c a b pos) (Ba tc t u):=by
 intro pins s σ H D I h
 refine wpAny_If (dH (hc pins s σ H _ I h) λd s1 ⟨H1,I1,q1⟩=>?_)
 cases d with
 |true=>exact ha pins s1 σ H1 D I1 q1
 |false=>exact hb pins s1 σ H1 D I1 q1
end
abbrev TG:=V->St->Hp->(St->Hp->Prop)->Prop
abbrev MT:=List V->St->Hp->(St->Hp->Prop)->Prop
def PG(X:Cx)(target:Expr)(t:TG):Prop:=
 ∀(pins:List (Addr×Obj)) (s:Shared) (σ:St) (H:Hp) (v:V) (u:Value) (Q:St->Hp->Prop),Inv X pins σ H s->RelV v u->t v σ H Q->
  wpAny (model X.prog X.w) X.A (assign target X.env u) (λ_ s'=>∃σ' H',Inv X pins σ' H' s'/\Q σ' H') X.xe s
def PU(X:Cx)(ts:List Expr)(t:MT):Prop:=
 ∀(pins:List (Addr×Obj)) (s:Shared) (σ:St) (H:Hp) (vs:List V) (us:List Value) (Q:St->Hp->Prop),Inv X pins σ H s->Vals vs us->t vs σ H Q->
  wpAny (model X.prog X.w) X.A (assignInOrder ((assignEach ts X.env).map (·.2)) us) (λ_ s'=>∃σ' H',Inv X pins σ' H' s'/\Q σ' H') X.xe s
section
variable{X:Cx}{pos:Pos}
def C0(i:Nat):TG:=λv σ H Q=>Q (σ.set i (some v)) H
theorem xr{i:Nat}{x:Str}(hN:X.N.Nodup)(hi:X.N[i]?=some x)(hx:Loc X.env.scope x)(hf:X.fn x=true\/X.env.scope.names.lookup x=some .local:=by first|exact .inl rfl|exact .inr rfl|assumption):PG X (.Name x pos) (C0 i):=by
 intro pins s σ H v u Q I r h
 exact wpAny_assign_Name (jv I hN hi hx r (λs' I'=>⟨_,H,I',h⟩) hf)
def SS:MT:=λvs σ H Q=>vs=[]/\Q σ H
def PX(t:TG)(u:MT):MT:=λvs σ H Q=>∃v r,vs=v::r/\t v σ H λσ' H'=>u r σ' H' Q
theorem C1:PU X [] SS:=by
 intro pins s σ H vs us Q I r h
 obtain⟨e,h⟩:=h
 subst e
 cases r
 exact assignInOrder_nil ⟨σ,H,I,h⟩
theorem uc{e:Expr}{es:List Expr}{t:TG}{u:MT}(h1:PG X e t)(h2:PU X es u)
  (hs:(assignEach (e::es) X.env).map (·.2)=assign e X.env::(assignEach es X.env).map (·.2):=by rfl):PU X (e::es) (PX t u):=by
 intro pins s σ H vs us Q I r h
 obtain⟨v,vr,e1,h⟩:=h
 subst e1
 cases r with
 |cons r rr=>
  rw[hs]
  refine assignInOrder_cons (dH (h1 pins s σ H _ _ _ I r h) λ_ s1 cw=>?_)
  obtain⟨σ1,H1,I1,q1⟩:=cw
  exact h2 pins s1 σ1 H1 _ _ Q I1 rr q1
def SU(K:PySem.W.Frag)(n:Nat)(t:MT):TG:=λv σ H Q=>∃a xs,v=.ref a/\kC K H a xs/\xs.length=n/\t xs σ H Q
theorem F5{es:List Expr}{k:Nat}{t:MT}{n:Nat}(hc:X.calm=true)(h:PU X es t)
  (hn:(assignEach es X.env).length=n:=by rfl)(my:(assignEach es X.env).findIdx? (·.1)=none:=by rfl):PG X (.Tuple es k pos) (SU X.K n t):=by
 intro pins s σ H v u Q I r hw
 obtain⟨a,xs,e1,hq,hl,hw⟩:=hw
 subst e1
 cases r
 obtain⟨its,rv,ht,hz⟩:=I.tuple hq
 refine assign_Tuple_tuple (I.ok.hd hc) ht (by simp[hn,<-hl,rv.length]) my λh' hx=>?_
 have I1:Inv X pins σ H {s with heap:=h'}:=I.kept (t':=s.toks) λb o e=>hx b o (ZV (ww e)) e
 exact h pins _ σ H xs _ Q I1 (by simpa using rv) hw
def JK(te:TE)(g:TG):TS:=λD σ H=>te σ H λx H1=>g x σ H1 D.nx
theorem F6{tg e:Expr}{te:TE}{g:TG}(he:PE X e te)(hg:PG X tg g)(hs:swapsWithSole [tg] e pos.line X.env=pure false:=by rfl)(hw:swappedStores [tg] e X.env=pure none:=by rfl)
  (h1:(assignEach [tg] X.env).map (·.2)=[assign tg X.env]:=by rfl):PS X (.Assign [tg] e pos) (JK te g):=by
 intro pins s σ H D I h
 refine wpAny_Assign_stores (dH (he pins s σ H _ I h) λv s1 cw=>?_) hs hw
 obtain⟨x,H1,I1,r1,q1⟩:=cw
 rw[h1]
 exact dH (hg pins s1 σ H1 x v _ I1 r1 q1) λ_ s2 q=>q
theorem qR{i:Nat}{x:Str}{e:Expr}{te:TE}{pos':Pos}(hN:X.N.Nodup)(hi:X.N[i]?=some x)(hx:Loc X.env.scope x)(he:PE X e te)(hs:swapsWith e (some (.Name x pos')) pos.line X.env=pure false:=by rfl)(hf:X.fn x=true\/X.env.scope.names.lookup x=some .local:=by first|exact .inl rfl|exact .inr rfl|assumption):
  PS X (.Assign [.Name x pos'] e pos) (JK te (C0 i)):=by
 intro pins s σ H D I h
 refine wpAny_Assign_Name (dH (he pins s σ H _ I h) λv s1 cw=>?_) hs
 obtain⟨y,H1,I1,r1,q1⟩:=cw
 exact jv I1 hN hi hx r1 (λs2 I2=>⟨_,H1,I2,q1⟩) hf
end
section
variable{X:Cx}{pos:Pos}
def MU(c:TT)(tb:TS):TS:=λD σ H=>∃W:Nat->St->Hp->Prop,(∃m,W m σ H)/\∀m σ H,W m σ H->
 c σ H λb H1=>if b=true then∃N:St->Hp->Prop,(∀σ' H',N σ' H'->∃m',m'<m/\W m' σ' H')/\tb {D with nx:=N,ct:=N,bk:=D.nx} σ H1 else D.nx σ H1
theorem F7{c:Expr}{body:List Stmt}{tc:TT}{tb:TS}(hp:PassesOwn (model X.prog X.w) X.A X.env X.xe)(hc:PT X c tc)(hb:A6 X body tb):PS X (.While c body [] pos) (MU tc tb):=by
 intro pins s σ H D I h
 obtain⟨W,⟨m0,w0⟩,turn⟩:=h
 refine wpAny_While (codeAny_whileLoop (λn s'=>∃σ' H',Inv X pins σ' H' s'/\W n σ' H') ?_ m0 ⟨σ,H,I,w0⟩)
 rintro n s1 ⟨σ1,H1,I1,w1⟩
 refine wpAny_passesOwn hp (dH (hc pins s1 σ1 H1 _ I1 (turn n σ1 H1 w1)) λb s2 ⟨H2,I2,q2⟩=>?_)
 cases b with
 |true=>
  obtain⟨N,hN,q2⟩:=q2
  rw[if_pos rfl]
  refine wpAny_passesOwn hp (dH (hb pins s2 σ1 H2 _ I2 q2) λf s3 q3=>?_)
  cases f with
  |next=>
   obtain⟨σ3,H3,I3,n3⟩:=q3
   obtain⟨m',hm,w3⟩:=hN σ3 H3 n3
   exact⟨m',hm,σ3,H3,I3,w3⟩
  |cont=>
   obtain⟨σ3,H3,I3,n3⟩:=q3
   obtain⟨m',hm,w3⟩:=hN σ3 H3 n3
   exact⟨m',hm,σ3,H3,I3,w3⟩
  |brk=>exact q3
  |ret v=>exact q3
 |false=>
  rw[if_neg sw]
  exact wpAny_execs_nil ⟨σ1,H2,I2,q2⟩
end
structure It where
 go:Nat->Hp->Prop
 yld:Nat->Hp->V->Hp->Prop
 stop:Nat->Hp->Prop
def pL(X:Cx)(pins:List (Addr×Obj))(H:Hp)(b:Addr):Prop:=
 H b=none/\b≠X.env.locals/\b∉X.fs/\(b∈X.ex\/X.s₀.heap.objs.size<=b)/\(∀x c,X.env.cells.lookup x=some c->c≠b)/\∀p∈X.pn++pins,p.1≠b
theorem Inv.MV{X:Cx}{pins:List (Addr×Obj)}{σ:St}{H H':Hp}{s:Shared}{b:Addr}(I:Inv X pins σ H s)(hb:s.heap.objs.size<=b)(hn:H' b=none):pL X pins H' b:=by
 refine⟨hn,X6 (wv I.lt hb),I.Eo hb,.inr (ZB I.sz hb),λx c e z=>?_,λp hp z=>?_⟩
 ·obtain⟨v,q⟩:=I.cell x c e
  exact absurd (wv q.lt (by rw[z];exact hb)) (ZK _)
 ·exact absurd (wv (ww (I.pin p hp).1) (by rw[z];exact hb)) (ZK _)
structure Turn(P:Program)(w:World)(K:PySem.W.Frag)(tg:Expr)(J:It)(fp:List Addr)(it:Addr)(tn:Nat->Heap->Prop):Prop where
 mem:it∈fp
 obj:∀i h,tn i h->∀b∈fp,∃o,h.get? b=some o/\∀v,o.data≠.cell v
 keep:∀i h h',tn i h->(∀b∈fp,∀o,h.get? b=some o->h'.get? b=some o)->tn i h'
 item:∀(X:Cx),X.prog=P->X.w=w->X.K=K->X.calm=true->∀(i:Nat) (pins:List (Addr×Obj)) (s:Shared) (σ:St) (H:Hp) (E:Value->Shared->Prop),Inv X pins σ H s->(∀b∈fp,pL X pins H b)->tn i s.heap->J.go i H->
  wpAny (model P w) X.A (pyNext (.ref it)) (λr s1=>∃u,r=some u/\
   wpAny (model P w) X.A (letOwnedTupleGo tg (.ref it) u) (λ_ s2=>∃x H',Inv X pins σ H' s2/\RelV x u/\J.yld i H x H'/\tn (i+1) s2.heap/\∀b∈fp,H' b=none) E s1) E s
 done:∀(X:Cx),X.prog=P->X.w=w->X.K=K->X.calm=true->∀(i:Nat) (pins:List (Addr×Obj)) (s:Shared) (σ:St) (H:Hp) (E:Value->Shared->Prop),Inv X pins σ H s->(∀b∈fp,pL X pins H b)->tn i s.heap->J.stop i H->
  wpAny (model P w) X.A (pyNext (.ref it)) (λr s1=>r=none/\Inv X pins σ H s1) E s
 self:∀(A:Around) (i:Nat) (s:Shared) (Q:Value->Shared->Prop) (E:Value->Shared->Prop),tn i s.heap->Q (.ref it) s->wpAny (model P w) A (pyIter (.ref it)) Q E s
abbrev TI:=St->Hp->(It->Hp->Prop)->Prop
def UH(X:Cx)(pins:List (Addr×Obj))(σ:St)(tg:Expr)(R:It->Hp->Prop)(O8:Value)(s2:Shared):Prop:=
 ∃(it:Addr) (fp:List Addr) (tn:Nat->Heap->Prop) (J:It) (H':Hp),O8=.ref it/\Inv X pins σ H' s2/\Turn X.prog X.w X.K tg J fp it tn/\tn 0 s2.heap/\(∀b∈fp,pL X pins H' b)/\R J H'
def PI(X:Cx)(tg iter:Expr)(wi:TI):Prop:=
 ∀(pins:List (Addr×Obj)) (s:Shared) (σ:St) (H:Hp) (R:It->Hp->Prop),Inv X pins σ H s->wi σ H R->
  wpAny (model X.prog X.w) X.A (eval iter X.env) (λv s1=>wpAny (model X.prog X.w) X.A (pyIter v) (UH X pins σ tg R) X.xe s1) X.xe s
theorem F8{M:Model}{A:Around}{E:Value->Shared->Prop}{s:Shared}{tg:Expr}{it:Addr}{u:Value}{o:Obj}{n:String}{vs:Array Value}{Q:Unit->Shared->Prop}(ho:s.heap.get? it=some o)(hc:o.cls=.type n)(hd:o.data=.fields vs)
  (hn:["enumerate","zip","dict_itemiterator","dict_reverseitemiterator","odict_iterator","itertools.zip_longest","itertools.pairwise"].contains n=false)(hQ:Q () s):wpAny M A (letOwnedTupleGo tg (.ref it) u) Q E s:=by
 unfold letOwnedTupleGo
 cases tg<;>first
  |exact wpAny_pure hQ
  |(cases u<;>first
     |exact wpAny_pure hQ
     |(refine wpAny_bind (wpAny_load ho ?_)
       rw[hc,hd]
       show wpAny M A (if(["enumerate","zip","dict_itemiterator","dict_reverseitemiterator","odict_iterator","itertools.zip_longest","itertools.pairwise"].contains n&&vs[0]?==some (rawInt _))=true then _ else _) Q E s
       rw[if_neg (by intro h;rw[hn,X1]at h;cases h)]
       exact wpAny_pure hQ))
def SV(K:PySem.W.Frag)(a:Addr):It:=
 ⟨λi H=>∃xs x,mj K H a xs/\xs[i]?=some x,λi H x H'=>H'=H/\∀xs,mj K H a xs->xs[i]?=some x,λi H=>∃xs,mj K H a xs/\xs.length<=i⟩
def SW(K:PySem.W.Frag)(a:Addr):It:=
 ⟨λi H=>∃xs x,kC K H a xs/\xs[i]?=some x,λi H x H'=>H'=H/\∀xs,kC K H a xs->xs[i]?=some x,λi H=>∃xs,kC K H a xs/\xs.length<=i⟩
def PY(lo:Int)(n:Nat):It:=⟨λi _=>i<n,λi H x H'=>H'=H/\x=.int (lo+i),λi _=>n<=i⟩
theorem Ep{P:Program}{w:World}{K:PySem.W.Frag}{tg:Expr}(a it:Addr):Turn P w K tg (SV K a) [it] it (λi h=>h.IsListIter it a i) where
 mem:=by simp
 obj:=λi h st b hb=>by
  have e:b=it:=by simpa using hb
  subst e
  obtain⟨o,e,c,d⟩:=st
  exact⟨o,e,λv z=>by rw[d]at z;cases z⟩
 keep:=λi h h' st k=>st.at λo e=>k it (by simp) o e
 item:=by
  intro X hP hw hK hc i pins s σ H E I hf st hg
  subst hP hw hK
  obtain⟨xs,x,hq,hx⟩:=hg
  obtain⟨its,rv,p,hz⟩:=I.list hq
  obtain⟨u,hu,ru⟩:=rv.get hx
  obtain⟨f0,f1,f2,f3,f4,f5⟩:=hf it (by simp)
  refine wpAny_pyNext_list_item st p.isList (x:=u) (by simpa using hu) λh' aU sb=>?_
  have I1:Inv X pins σ H {s with heap:=h'}:=I.turned (t':=s.toks) (λb o hb e=>(sb.2 b hb).trans e) f0 f1 f3 f4 f5
  obtain⟨o,e,c,d⟩:=id aU
  exact⟨u,rfl,F8 (s:={s with heap:=h'}) e c d (by decide) ⟨x,H,I1,ru,⟨rfl,λys hy=>by rw[I.tZ hy hq];exact hx⟩,aU,λb hb=>(hf b hb).1⟩⟩
 done:=by
  intro X hP hw hK hc i pins s σ H E I hf st hg
  subst hP hw hK
  obtain⟨xs,hq,hx⟩:=hg
  obtain⟨its,rv,p,hz⟩:=I.list hq
  obtain⟨f0,f1,f2,f3,f4,f5⟩:=hf it (by simp)
  have hl:=rv.length
  exact wpAny_pyNext_list_end (I.ok.hd hc) st p.isList (by simp;omega) λh' eb=>⟨rfl,I.turned (t':=s.toks) (λb o hb e=>eb b o hb e) f0 f1 f3 f4 f5⟩
 self:=λ_ _ _ _ _ st h=>wpAny_pyIter_listiter st h
theorem Bb{P:Program}{w:World}{K:PySem.W.Frag}{tg:Expr}(a it:Addr):Turn P w K tg (SW K a) [it] it (λi h=>h.IsTupleIter it a i) where
 mem:=by simp
 obj:=λi h st b hb=>by
  have e:b=it:=by simpa using hb
  subst e
  obtain⟨o,e,c,d⟩:=st
  exact⟨o,e,λv z=>by rw[d]at z;cases z⟩
 keep:=λi h h' st k=>st.at λo e=>k it (by simp) o e
 item:=by
  intro X hP hw hK hc i pins s σ H E I hf st hg
  subst hP hw hK
  obtain⟨xs,x,hq,hx⟩:=hg
  obtain⟨its,rv,p,hz⟩:=I.tuple hq
  obtain⟨u,hu,ru⟩:=rv.get hx
  obtain⟨f0,f1,f2,f3,f4,f5⟩:=hf it (by simp)
  refine wpAny_pyNext_tuple_item st (show s.heap.IsTuple a its.toArray from p) (x:=u) (by simpa using hu) λh' aU sb=>?_
  have I1:Inv X pins σ H {s with heap:=h'}:=I.turned (t':=s.toks) (λb o hb e=>(sb.2 b hb).trans e) f0 f1 f3 f4 f5
  obtain⟨o,e,c,d⟩:=id aU
  exact⟨u,rfl,F8 (s:={s with heap:=h'}) e c d (by decide) ⟨x,H,I1,ru,⟨rfl,λys hy=>by rw[I.v9 hy hq];exact hx⟩,aU,λb hb=>(hf b hb).1⟩⟩
 done:=by
  intro X hP hw hK hc i pins s σ H E I hf st hg
  subst hP hw hK
  obtain⟨xs,hq,hx⟩:=hg
  obtain⟨its,rv,p,hz⟩:=I.tuple hq
  obtain⟨f0,f1,f2,f3,f4,f5⟩:=hf it (by simp)
  have hl:=rv.length
  exact wpAny_pyNext_tuple_end (I.ok.hd hc) st (show s.heap.IsTuple a its.toArray from p) (by simp;omega) λh' eb=>⟨rfl,I.turned (t':=s.toks) (λb o hb e=>eb b o hb e) f0 f1 f3 f4 f5⟩
 self:=λ_ _ _ _ _ st h=>wpAny_pyIter_tupleiter st h
theorem Bc{P:Program}{w:World}{K:PySem.W.Frag}{tg:Expr}(it:Addr)(lo:Int)(n:Nat):Turn P w K tg (PY lo n) [it] it (λi h=>IsRangeIter h it (lo+(i:Nat)*1) ((n:Int)-(i:Nat)) 1) where
 mem:=by simp
 obj:=λi h st b hb=>by
  have e:b=it:=by simpa using hb
  subst e
  exact⟨_,st,λv z=>by
   have z':Data.fields _=Data.cell v:=z
   cases z'⟩
 keep:=λi h h' st k=>k it (by simp) _ st
 item:=by
  intro X hP hw hK hc i pins s σ H E I hf st hg
  subst hP hw hK
  obtain⟨f0,f1,f2,f3,f4,f5⟩:=hf it (by simp)
  have W:=Walks.range (prog:=X.prog) (w:=X.w) (I.ok.hd hc) it lo 1 n
  refine W.item i s _ _ hg st λv h' tk hv aU kk=>?_
  obtain⟨t,rfl⟩:=hv
  have I1:Inv X pins σ H {s with heap:=h',toks:=tk}:=I.turned (λb o hb e=>kk b o (by simpa using hb) e) f0 f1 f3 f4 f5
  refine⟨_,rfl,F8 (s:={s with heap:=h',toks:=tk}) (n:= "range_iterator") aU rfl rfl (by decide) ⟨.int (lo+i),H,I1,⟨t,?_⟩,⟨rfl,rfl⟩,aU,λb hb=>(hf b hb).1⟩⟩
  rw[Int.mul_one]
 done:=by
  intro X hP hw hK hc i pins s σ H E I hf st hg
  subst hP hw hK
  obtain⟨f0,f1,f2,f3,f4,f5⟩:=hf it (by simp)
  exact wpAny_pyNext_range_end (I.ok.hd hc) st (by have:n<=i:=hg;omega) λh' eb=>⟨rfl,I.turned (t':=s.toks) (λb o hb e=>eb b o hb e) f0 f1 f3 f4 f5⟩
 self:=λ_ _ _ _ _ st h=>wpAny_pyIter_rangeiter st h
section
variable{X:Cx}{tg:Expr}
def PZ(K:PySem.W.Frag)(tl:TE):TI:=λσ H R=>tl σ H λx H1=>∃a,x=.ref a/\(∃xs,mj K H1 a xs)/\R (SV K a) H1
def SX(K:PySem.W.Frag)(tl:TE):TI:=λσ H R=>tl σ H λx H1=>∃a,x=.ref a/\(∃xs,kC K H1 a xs)/\R (SW K a) H1
theorem C2{l:Expr}{tl:TE}(hl:PE X l tl):PI X tg l (PZ X.K tl):=by
 intro pins s σ H R I h
 refine dH (hl pins s σ H _ I h) λv s1 cw=>?_
 obtain⟨x,H1,I1,r1,q1⟩:=cw
 obtain⟨a,e,⟨xs,hq⟩,q⟩:=q1
 subst e
 cases r1
 obtain⟨its,rv,p,hz⟩:=I1.list hq
 refine wpAny_pyIter_list p.isList ?_
 refine⟨s1.heap.objs.size,[s1.heap.objs.size],_,_,H1,rfl,I1.kept (t':=s1.toks) λb o e=>wp _ e,Ep a _,⟨_,ZH _ rfl,rfl,rfl⟩,λb hb=>?_,q⟩
 have e:b=s1.heap.objs.size:=by simpa using hb
 subst e
 exact I1.MV (wr _) (I1.dE.fresh (wr _))
theorem F9{l:Expr}{tl:TE}(hl:PE X l tl):PI X tg l (SX X.K tl):=by
 intro pins s σ H R I h
 refine dH (hl pins s σ H _ I h) λv s1 cw=>?_
 obtain⟨x,H1,I1,r1,q1⟩:=cw
 obtain⟨a,e,⟨xs,hq⟩,q⟩:=q1
 subst e
 cases r1
 obtain⟨its,rv,p,hz⟩:=I1.tuple hq
 refine wpAny_pyIter_tuple (show s1.heap.IsTuple a its.toArray from p) ?_
 refine⟨s1.heap.objs.size,[s1.heap.objs.size],_,_,H1,rfl,I1.kept (t':=s1.toks) λb o e=>wp _ e,Bb a _,⟨_,ZH _ rfl,rfl,rfl⟩,λb hb=>?_,q⟩
 have e:b=s1.heap.objs.size:=by simpa using hb
 subst e
 exact I1.MV (wr _) (I1.dE.fresh (wr _))
theorem Ga{pins:List (Addr×Obj)}{σ:St}{H:Hp}{s:Shared}{R:It->Hp->Prop}{E:Value->Shared->Prop}{lo hi:Int}{t u v:Tok}{tk:Nat}(I:Inv X pins σ H s)(h1:-(2^62)<=lo)(h2:lo<2^62)(h3:-(2^62)<=hi)(h4:hi<2^62)
  (q:R (PY lo (hi-lo).toNat) H):wpAny (model X.prog X.w) X.A (pyIter (.ref s.heap.objs.size)) (UH X pins σ tg R) E {s with heap:=s.heap.push {cls:=.type "range",data:=.fields #[.int lo t,.int hi u,.int 1 v]},toks:=tk}:=by
 refine wpAny_pyIter_range (IsRange.new ..) (small_one h1 h2 h3 h4) ?_
 have I1:Inv X pins σ H {s with heap:=s.heap.push {cls:=.type "range",data:=.fields #[.int lo t,.int hi u,.int 1 v]},toks:=tk}:=I.kept λb o e=>wp _ e
 refine⟨(s.heap.push {cls:=.type "range",data:=.fields #[.int lo t,.int hi u,.int 1 v]}).objs.size,[(s.heap.push {cls:=.type "range",data:=.fields #[.int lo t,.int hi u,.int 1 v]}).objs.size],_,_,H,rfl,
  I1.kept (t':=tk) λb o e=>wp _ e,Bc _ lo (hi-lo).toNat,?_,λb hb=>?_,q⟩
 ·have e1:lo+((0:Nat):Int)*1=lo:=by simp
  have e2:(((hi-lo).toNat:Nat):Int)-((0:Nat):Int)=Builtin.Range.rangeSize lo hi 1:=by rw[rangeSize_one];split<;>omega
  show IsRangeIter _ _ (lo+((0:Nat):Int)*1) ((((hi-lo).toNat:Nat):Int)-((0:Nat):Int)) 1
  rw[e1,e2]
  exact ZH _ rfl
 ·have e:b=(s.heap.push {cls:=.type "range",data:=.fields #[.int lo t,.int hi u,.int 1 v]}).objs.size:=by simpa using hb
  subst e
  exact I1.MV (wr _) (I1.dE.fresh (wr _))
def LJ(ta:TA):TI:=λσ H R=>ta σ H λvs H1=>∃j:Int,vs=[.int j]/\-(2^62)<=j/\j<2^62/\R (PY 0 j.toNat) H1
theorem wa{a:Expr}{ta:TA}{p pos:Pos}(hg:Gl X "range")(hm:X.mg "range" =none)(ha:PA X [a] ta)(hs:starEach [a] X.env=[(false,eval a X.env)]:=by rfl):PI X tg (.Call (.Name "range" p) [a] [] pos) (LJ ta):=by
 intro pins s σ H R I h
 refine Call_ (qP I hg hm boot_range (PyProof.Rows.callWith_type1 (dH (ha pos pins s σ H _ I h) λus s1 cw=>?_) hs rfl))
 obtain⟨vs,H1,I1,r1,q1⟩:=cw
 obtain⟨j,e,q1,q2,q⟩:=q1
 subst e
 cases r1 with
 |cons r rr=>
  cases rr
  obtain⟨t,rfl⟩:=r
  exact call_range_1 (Ga I1 (by omega) (by omega) q1 q2 (by simpa using q))
def SY(wi:TI)(g:TG)(tb:TS):TS:=λD σ H=>wi σ H λJ H1=>∃W:Nat->Nat->St->Hp->Prop,(∃m,W 0 m σ H1)/\∀i m σ H,W i m σ H->
 (J.stop i H/\D.nx σ H)\/(J.go i H/\∃N:St->Hp->Prop,(∀σ' H',N σ' H'->∃m',m'<m/\W (i+1) m' σ' H')/\∀x H',J.yld i H x H'->g x σ H' λσ2 H2=>tb {D with nx:=N,ct:=N,bk:=D.nx} σ2 H2)
def gp(fp:List Addr)(h:Heap):List (Addr×Obj):=fp.filterMap λb=>(h.get? b).map λo=>(b,o)
theorem ic{fp:List Addr}{h:Heap}{b:Addr}{o:Obj}(hb:b∈fp)(e:h.get? b=some o):(b,o)∈gp fp h:=YT.mpr ⟨b,hb,by rw[e];rfl⟩
theorem qS{fp:List Addr}{h:Heap}{p:Addr×Obj}(hp:p∈gp fp h):p.1∈fp/\h.get? p.1=some p.2:=by
 obtain⟨b,hb,e⟩:=YT.mp hp
 cases q:h.get? b with
 |none=>rw[q]at e;cases e
 |some o=>
  rw[q]at e
  have e':(b,o)=p:=ZO e
  subst e'
  exact⟨hb,q⟩
theorem Inv.pinned{pins:List (Addr×Obj)}{σ:St}{H:Hp}{s:Shared}{fp:List Addr}(I:Inv X pins σ H s)(hf:∀b∈fp,pL X pins H b)(ho:∀b∈fp,∃o,s.heap.get? b=some o/\∀v,o.data≠.cell v):Inv X (pins++gp fp s.heap) σ H s:=
 I.fj λp hp=>(sK.mp hp).elim (λz=>I.pin p (xL _ z)) λz=>by
  obtain⟨hb,e⟩:=qS z
  obtain⟨f0,f1,f2,_⟩:=hf p.1 hb
  obtain⟨o,e',d⟩:=ho p.1 hb
  rw[e]at e';cases e'
  exact⟨e,f0,f1,f2,d⟩
theorem Inv.mz{pins pl:List (Addr×Obj)}{σ:St}{H:Hp}{s:Shared}(I:Inv X (pins++pl) σ H s):Inv X pins σ H s:=I.fj λp hp=>I.pin p (xL _ (ZF _ hp))
theorem Gb{iter:Expr}{body:List Stmt}{wi:TI}{g:TG}{tb:TS}{pos:Pos}(hp:PassesOwn (model X.prog X.w) X.A X.env X.xe)(hc:X.calm=true)(hi:PI X tg iter wi)(hg:PG X tg g)(hb:A6 X body tb)
  (hs:∀x,foldedSetIterable iter X.env x=pure x:=by intro _;rfl):PS X (.For tg iter body [] pos) (SY wi g tb):=by
 intro pins s σ H D I h
 refine wpAny_For (dH (hi pins s σ H _ I h) λv s1 h1=>dH h1 λO8 s2 h2=>?_) hs
 obtain⟨it,fp,tn,J,H2,e,I2,T,bQ,f2,W,⟨m0,w0⟩,turn⟩:=h2
 subst e
 have MW:∀{H':Hp},(∀b∈fp,H' b=none)->∀b∈fp,pL X pins H' b:=λhn b hb=>⟨hn b hb,(f2 b hb).2⟩
 refine codeAny_forLoop_any (λn s'=>∃i σ' H',Inv X pins σ' H' s'/\tn i s'.heap/\(∀b∈fp,H' b=none)/\W i n σ' H') ?_ m0 ⟨0,σ,H2,I2,bQ,λb hb=>(f2 b hb).1,w0⟩
 rintro n s3 ⟨i,σ3,H3,I3,qL,UI,w3⟩
 rcases turn i n σ3 H3 w3 with⟨stop,qn⟩|⟨go,N,hN,step⟩
 ·refine wpAny_passesOwn hp (dH (T.done X rfl rfl rfl hc i pins s3 σ3 H3 X.xe I3 (MW UI) qL stop) λr s4 ⟨hr,I4⟩=>?_)
  subst hr
  exact wpAny_execs_nil ⟨σ3,H3,I4,qn⟩
 ·refine wpAny_passesOwn hp (dH (T.item X rfl rfl rfl hc i pins s3 σ3 H3 X.xe I3 (MW UI) qL go) λr s4 cw=>?_)
  obtain⟨u,hr,h4⟩:=cw
  subst hr
  refine wpAny_passesOwn hp (dH h4 λ_ s5 cw=>?_)
  obtain⟨x,H5,I5,r5,y5,kg,P0⟩:=cw
  have P1:=I5.pinned (MW P0) (T.obj _ _ kg)
  refine wpAny_passesOwn hp (dH (hg _ s5 σ3 H5 x u _ P1 r5 (step x H5 y5)) λ_ s6 cw=>?_)
  obtain⟨σ6,H6,I6,q6⟩:=cw
  refine wpAny_passesOwn hp (dH (hb _ s6 σ6 H6 _ I6 q6) λf s7 q7=>?_)
  have again:∀{σ7:St} {H7:Hp},Inv X (pins++gp fp s5.heap) σ7 H7 s7->N σ7 H7->∃m,m<n/\∃i σ' H',Inv X pins σ' H' s7/\tn i s7.heap/\(∀b∈fp,H' b=none)/\W i m σ' H':=λ{σ7 H7} I7 n7=>by
   obtain⟨m',hm,w7⟩:=hN σ7 H7 n7
   refine⟨m',hm,i+1,σ7,H7,I7.mz,T.keep _ _ _ kg λb hb o e=>(I7.pin (b,o) (xL _ (xL _ (ic hb e)))).1,λb hb=>?_,w7⟩
   obtain⟨o,e,d⟩:=T.obj _ _ kg b hb
   exact(I7.pin (b,o) (xL _ (xL _ (ic hb e)))).2.1
  cases f with
  |next=>obtain⟨σ7,H7,I7,n7⟩:=q7;exact again I7 n7
  |cont=>obtain⟨σ7,H7,I7,n7⟩:=q7;exact again I7 n7
  |brk=>obtain⟨σ7,H7,I7,q7⟩:=q7;exact⟨σ7,H7,I7.mz,q7⟩
  |ret v=>obtain⟨x7,σ7,H7,I7,r7,q7⟩:=q7;exact⟨x7,σ7,H7,I7.mz,r7,q7⟩
end
abbrev R2:=V->V->Hp->VK->Prop
def mn(X:Cx)(f:Value->Value->Sem Value)(r:R2):Prop:=
 ∀(pins:List (Addr×Obj)) (s:Shared) (σ:St) (H:Hp) (x y:V) (v u:Value) (Q:VK),Inv X pins σ H s->RelV x v->RelV y u->r x y H Q->
  wpAny (model X.prog X.w) X.A (f v u) (EP X pins σ Q) X.xe s
def S0(X:Cx)(f:Value->Sem Value)(r:V->Hp->VK->Prop):Prop:=
 ∀(pins:List (Addr×Obj)) (s:Shared) (σ:St) (H:Hp) (x:V) (v:Value) (Q:VK),Inv X pins σ H s->RelV x v->r x H Q->
  wpAny (model X.prog X.w) X.A (f v) (EP X pins σ Q) X.xe s
def jw(X:Cx)(f:Value)(r:List V->Hp->VK->Prop):Prop:=
 ∀(pins:List (Addr×Obj)) (s:Shared) (σ:St) (H:Hp) (xs:List V) (us:List Value) (Q:VK),Inv X pins σ H s->Vals xs us->r xs H Q->
  wpAny (model X.prog X.w) X.A (call f us) (EP X pins σ Q) X.xe s
def P2(r:R2)(ta tb:TE):TE:=λσ H Q=>ta σ H λx H1=>tb σ H1 λy H2=>r x y H2 Q
def Vw(r:V->Hp->VK->Prop)(ta:TE):TE:=λσ H Q=>ta σ H λx H1=>r x H1 Q
def rI(C:Int->Int->Prop)(g:Int->Int->V):R2:=λx y H Q=>∃i j,x=.int i/\y=.int j/\C i j/\Q (g i j) H
def Ge(g:Int->Int->V):R2:=λx y H Q=>∃i j,x=.int i/\y=.int j/\Q (g i j) H
def rU(g:Int->V):V->Hp->VK->Prop:=λx H Q=>∃i,x=.int i/\Q (g i) H
section
variable{X:Cx}{a b c:Expr}{ta tb tc:TE}{pos:Pos}
theorem MX(ha:PE X a ta)(hb:PE X b tb){pins:List (Addr×Obj)}{s:Shared}{σ:St}{H:Hp}{R:V->V->Hp->Prop}(I:Inv X pins σ H s)
  (h:ta σ H λx H1=>tb σ H1 λy H2=>R x y H2){Q:Value->Shared->Prop}{f:Value->Value->Sem Value}
  (hf:∀v u s2 x y H2,Inv X pins σ H2 s2->RelV x v->RelV y u->R x y H2->wpAny (model X.prog X.w) X.A (f v u) Q X.xe s2):
  wpAny (model X.prog X.w) X.A (eval a X.env) (λv s₁=>wpAny (model X.prog X.w) X.A (eval b X.env) (λu s₂=>wpAny (model X.prog X.w) X.A (f v u) Q X.xe s₂) X.xe s₁) X.xe s:=by
 refine dH (ha pins s σ H _ I h) λv s1 cw=>?_
 obtain⟨x,H1,I1,r1,q1⟩:=cw
 refine dH (hb pins s1 σ H1 _ I1 q1) λu s2 cw=>?_
 obtain⟨y,H2,I2,r2,q2⟩:=cw
 exact hf v u s2 x y H2 I2 r1 r2 q2
theorem C3{op:Operator}{r:R2}(ho:mn X (binaryOp op) r)(ha:PE X a ta)(hb:PE X b tb):PE X (.BinOp a op b pos) (P2 r ta tb):=by
 intro pins s σ H Q I h
 exact wpAny_BinOp (MX ha hb I h λv u s2 x y H2 I2 rx ry q=>ho pins s2 σ H2 x y v u Q I2 rx ry q)
theorem P4{op:UnaryOp}{r:V->Hp->VK->Prop}(ho:S0 X (unaryOp op) r)(ha:PE X a ta):PE X (.UnaryOp op a pos) (Vw r ta):=by
 intro pins s σ H Q I h
 exact UnaryOp_ (dH (ha pins s σ H _ I h) λv s1 ⟨x,H1,I1,r1,q1⟩=>ho pins s1 σ H1 x v Q I1 r1 q1)
theorem P5{f:Value->Value->Sem Value}{C:Int->Int->Prop}{g:Int->Int->Int}
  (rule:∀(i j:Int) (t u:Tok) (s:Shared) (Q:Value->Shared->Prop) (E:Value->Shared->Prop),C i j->Q (.int (g i j) s.toks) {s with toks:=s.toks+1}->wpAny (model X.prog X.w) X.A (f (.int i t) (.int j u)) Q E s):
  mn X f (rI C λi j=>.int (g i j)):=by
 intro pins s σ H x y v u Q I rx ry h
 obtain⟨i,j,rfl,rfl,hc,q⟩:=h
 obtain⟨t,rfl⟩:=rx
 obtain⟨t',rfl⟩:=ry
 exact rule i j t t' s _ _ hc ⟨.int (g i j),H,I.tok _,⟨_,rfl⟩,q⟩
theorem JL{f:Value->Value->Sem Value}{g:Int->Int->Int}
  (rule:∀(i j:Int) (t u:Tok) (s:Shared) (Q:Value->Shared->Prop) (E:Value->Shared->Prop),Q (.int (g i j) s.toks) {s with toks:=s.toks+1}->wpAny (model X.prog X.w) X.A (f (.int i t) (.int j u)) Q E s):
  mn X f (Ge λi j=>.int (g i j)):=by
 intro pins s σ H x y v u Q I rx ry h
 obtain⟨i,j,rfl,rfl,q⟩:=h
 obtain⟨t,rfl⟩:=rx
 obtain⟨t',rfl⟩:=ry
 exact rule i j t t' s _ _ ⟨.int (g i j),H,I.tok _,⟨_,rfl⟩,q⟩
theorem MY{f:Value->Value->Sem Value}{g:Int->Int->Bool}
  (rule:∀(i j:Int) (t u:Tok) (s:Shared) (Q:Value->Shared->Prop) (E:Value->Shared->Prop),Q (.bool (g i j)) s->wpAny (model X.prog X.w) X.A (f (.int i t) (.int j u)) Q E s):
  mn X f (Ge λi j=>.bl (g i j)):=by
 intro pins s σ H x y v u Q I rx ry h
 obtain⟨i,j,rfl,rfl,q⟩:=h
 obtain⟨t,rfl⟩:=rx
 obtain⟨t',rfl⟩:=ry
 exact rule i j t t' s _ _ ⟨.bl (g i j),H,I,rfl,q⟩
def S1(i j:Int):Prop:=0<j/\j<1073741824
def S2(i j:Int):Prop:=0<=j/\j<=1000000/\i.natAbs<2^64
def MZ(i j:Int):Prop:=(-(2^64)<i/\i<2^64)\/(-(2^64)<j/\j<2^64)
theorem MZ.ok{i j:Int}(h:MZ i j):IntMulOk i j:=by
 rcases h with⟨h1,h2⟩|⟨h1,h2⟩
 ·exact .of_left (intBits_le_64 h1 h2)
 ·exact .of_right (intBits_le_64 h1 h2)
theorem Bd(k:Nat):(0:Int)<=2^k:=by
 rw[two_pow_cast]
 exact Int.natCast_nonneg _
theorem M0:mn X (binaryOp .Add) (Ge λi j=>.int (i+j)):=JL λ_ _ _ _ _ _ _ q=>add_int q
theorem M1:mn X (binaryOp .Sub) (Ge λi j=>.int (i-j)):=JL λ_ _ _ _ _ _ _ q=>sub_int q
theorem M3:mn X (binaryOp .Mult) (rI MZ λi j=>.int (i*j)):=P5 λ_ _ _ _ _ _ _ hc q=>mul_int q hc.ok
theorem JM:mn X (binaryOp .FloorDiv) (rI S1 λi j=>.int (i/j)):=P5 λi j _ _ _ _ _ hc q=>by
 have h1:(0:Int)<j:=hc.1
 have h2:j<1073741824:=hc.2
 exact floordiv_int (by omega) (by rw[Yy i (by omega)];exact q) (.inl (PyProof.noPylong_small (by omega)))
theorem M4:mn X (binaryOp .Mod) (rI (λ_ j=>0<j) λi j=>.int (i % j)):=P5 λi j _ _ _ _ _ hc q=>by
 have h1:(0:Int)<j:=hc
 exact mod_int' (by omega) (by rw[Int.fmod_eq_emod_of_nonneg i (by omega)];exact q)
theorem M5:mn X (binaryOp .LShift) (rI S2 λi j=>.int (i*2^j.toNat)):=P5 λ_ _ _ _ _ _ _ hc q=>lshift_int_small hc.1 hc.2.1 hc.2.2 q
theorem M6:mn X (binaryOp .RShift) (rI (λ_ j=>0<=j) λi j=>.int (i/2^j.toNat)):=P5 λi j _ _ _ _ _ hc q=>
 rshift_int hc (by rw[Yy i (Bd _)];exact q)
theorem M7:mn X (binaryOp .BitAnd) (Ge λi j=>.int (Builtin.bitAnd i j)):=JL λ_ _ _ _ _ _ _ q=>and_int q
theorem P6:mn X (binaryOp .BitOr) (Ge λi j=>.int (Builtin.bitOr i j)):=JL λ_ _ _ _ _ _ _ q=>or_int q
theorem Vx{f:Value->Sem Value}{g:Int->Int}
  (rule:∀(i:Int) (t:Tok) (s:Shared) (Q:Value->Shared->Prop) (E:Value->Shared->Prop),Q (.int (g i) s.toks) {s with toks:=s.toks+1}->wpAny (model X.prog X.w) X.A (f (.int i t)) Q E s):
  S0 X f (rU λi=>.int (g i)):=by
 intro pins s σ H x v Q I rx h
 obtain⟨i,rfl,q⟩:=h
 obtain⟨t,rfl⟩:=rx
 exact rule i t s _ _ ⟨.int (g i),H,I.tok _,⟨_,rfl⟩,q⟩
theorem M8:S0 X (unaryOp .USub) (rU λi=>.int (-i)):=Vx λ_ _ _ _ _ q=>neg_int q
end
def P7:V->V->Bool
 |.non,.non=>true|.non,.int _=>true|.int _,.non=>true|.non,.bl _=>true|.bl _,.non=>true|.non,.str _=>true|.str _,.non=>true
 |.int _,.int _=>true|.bl _,.bl _=>true|.str _,.str _=>true|.byt _,.byt _=>true
 |.int _,.str _=>true|.str _,.int _=>true|.bl _,.str _=>true|.str _,.bl _=>true
 |_,_=>false
def Vy:R2:=λx y H Q=>P7 x y=true/\Q (.bl (decide (x=y))) H
def Vz:R2:=λx y H Q=>P7 x y=true/\Q (.bl (!decide (x=y))) H
theorem C4{i j:Int}:decide (V.int i=V.int j)=(i==j):=by
 rw[Ze]
 simp
theorem Gf{i j:Bool}:decide (V.bl i=V.bl j)=(i==j):=by
 rw[Ze]
 simp
theorem C5{i j:Str}:decide (V.str i=V.str j)=(i==j):=by
 rw[Ze]
 simp
theorem C6{i j:Array UInt8}:decide (V.byt i=V.byt j)=(i.toList==j.toList):=by
 rw[Ze]
 cases i
 cases j
 simp
section
variable{X:Cx}{a b c:Expr}{ta tb tc:TE}{pos:Pos}
theorem bT{pins:List (Addr×Obj)}{σ:St}{H:Hp}{s:Shared}{Q:VK}{k k':Bool}(I:Inv X pins σ H s)(q:Q (.bl k) H)(e:k=k'):EP X pins σ Q (.bool k') s:=by
 subst e
 exact⟨.bl k,H,I,rfl,q⟩
theorem P8:mn X (compareOp .Eq) Vy:=by
 intro pins s σ H x y v u Q I rx ry h
 obtain⟨hs,q⟩:=h
 cases x with
 |non=>
  cases rx
  cases y with
  |non=>cases ry;exact PySem.EqNone.eq_none_none (bT I q (by simp))
  |bl j=>cases ry;exact PySem.EqNone.eq_none_bool (bT I q (by simp))
  |int j=>obtain⟨t',rfl⟩:=ry;exact PySem.EqNone.eq_none_int (bT I q (by simp))
  |str j=>obtain⟨t',rfl⟩:=ry;exact PySem.EqNone.eq_none_str (bT I q (by simp))
  |_=>exact absurd (show false=true from hs) sw
 |bl i=>
  cases rx
  cases y with
  |non=>cases ry;exact PySem.EqNone.eq_bool_none (bT I q (by simp))
  |bl j=>cases ry;exact eq_bool (bT I q Gf)
  |str j=>obtain⟨t',rfl⟩:=ry;exact PySem.EqMixed.eq_bool_str (bT I q (by simp))
  |_=>exact absurd (show false=true from hs) sw
 |int i=>
  obtain⟨t,rfl⟩:=rx
  cases y with
  |non=>cases ry;exact PySem.EqNone.eq_int_none (bT I q (by simp))
  |int j=>obtain⟨t',rfl⟩:=ry;exact eq_int (bT I q C4)
  |str j=>obtain⟨t',rfl⟩:=ry;exact PySem.EqMixed.eq_int_str (bT I q (by simp))
  |_=>exact absurd (show false=true from hs) sw
 |str i=>
  obtain⟨t,rfl⟩:=rx
  cases y with
  |non=>cases ry;exact PySem.EqNone.eq_str_none (bT I q (by simp))
  |bl j=>cases ry;exact PySem.EqMixed.eq_str_bool (bT I q (by simp))
  |int j=>obtain⟨t',rfl⟩:=ry;exact PySem.EqMixed.eq_str_int (bT I q (by simp))
  |str j=>obtain⟨t',rfl⟩:=ry;exact eq_str (bT I q C5)
  |_=>exact absurd (show false=true from hs) sw
 |byt i=>
  obtain⟨t,rfl⟩:=rx
  cases y with
  |byt j=>obtain⟨t',rfl⟩:=ry;exact PySem.W.eq_bytes (bT I q C6)
  |_=>exact absurd (show false=true from hs) sw
 |_=>cases y<;>exact absurd (show false=true from hs) sw
theorem P9:mn X (compareOp .NotEq) Vz:=by
 intro pins s σ H x y v u Q I rx ry h
 obtain⟨hs,q⟩:=h
 cases x with
 |non=>
  cases rx
  cases y with
  |non=>cases ry;exact PySem.EqNone.ne_none_none (bT I q (by simp))
  |bl j=>cases ry;exact PySem.EqNone.ne_none_bool (bT I q (by simp))
  |int j=>obtain⟨t',rfl⟩:=ry;exact PySem.EqNone.ne_none_int (bT I q (by simp))
  |str j=>obtain⟨t',rfl⟩:=ry;exact PySem.EqNone.ne_none_str (bT I q (by simp))
  |_=>exact absurd (show false=true from hs) sw
 |bl i=>
  cases rx
  cases y with
  |non=>cases ry;exact PySem.EqNone.ne_bool_none (bT I q (by simp))
  |bl j=>cases ry;exact ne_bool (bT I q (congrArg not Gf))
  |str j=>obtain⟨t',rfl⟩:=ry;exact PySem.EqMixed.ne_bool_str (bT I q (by simp))
  |_=>exact absurd (show false=true from hs) sw
 |int i=>
  obtain⟨t,rfl⟩:=rx
  cases y with
  |non=>cases ry;exact PySem.EqNone.ne_int_none (bT I q (by simp))
  |int j=>obtain⟨t',rfl⟩:=ry;exact ne_int (bT I q (congrArg not C4))
  |str j=>obtain⟨t',rfl⟩:=ry;exact PySem.EqMixed.ne_int_str (bT I q (by simp))
  |_=>exact absurd (show false=true from hs) sw
 |str i=>
  obtain⟨t,rfl⟩:=rx
  cases y with
  |non=>cases ry;exact PySem.EqNone.ne_str_none (bT I q (by simp))
  |bl j=>cases ry;exact PySem.EqMixed.ne_str_bool (bT I q (by simp))
  |int j=>obtain⟨t',rfl⟩:=ry;exact PySem.EqMixed.ne_str_int (bT I q (by simp))
  |str j=>obtain⟨t',rfl⟩:=ry;exact ne_str (bT I q (congrArg not C5))
  |_=>exact absurd (show false=true from hs) sw
 |byt i=>
  obtain⟨t,rfl⟩:=rx
  cases y with
  |byt j=>obtain⟨t',rfl⟩:=ry;exact PySem.W.ne_bytes (bT I q (congrArg not C6))
  |_=>exact absurd (show false=true from hs) sw
 |_=>cases y<;>exact absurd (show false=true from hs) sw
theorem Qa:mn X (compareOp .Lt) (Ge λi j=>.bl (decide (i<j))):=MY λ_ _ _ _ _ _ _ q=>lt_int q
theorem Qb:mn X (compareOp .Gt) (Ge λi j=>.bl (decide (j<i))):=MY λ_ _ _ _ _ _ _ q=>gt_int q
theorem Qc:mn X (compareOp .GtE) (Ge λi j=>.bl (decide (j<=i))):=MY λ_ _ _ _ _ _ _ q=>ge_int q
theorem mn.or{f:Value->Value->Sem Value}{r r':R2}(h:mn X f r)(h':mn X f r'):mn X f (λx y H Q=>r x y H Q\/r' x y H Q):=by
 intro pins s σ H x y v u Q I rx ry q
 rcases q with q|q
 ·exact h pins s σ H x y v u Q I rx ry q
 ·exact h' pins s σ H x y v u Q I rx ry q
theorem Gg(b:Expr){op:CmpOp}(h:op≠.In:=by decide)(h2:op≠.NotIn:=by decide):behindInMarks op b=false:=by
 have e1:(op==CmpOp.In)=false:=by cases op<;>first|rfl|exact absurd rfl h
 have e2:(op==CmpOp.NotIn)=false:=by cases op<;>first|rfl|exact absurd rfl h2
 cases b<;>simp[behindInMarks,e1,e2]
theorem JN{op:CmpOp}{r:R2}(ho:mn X (compareOp op) r)(ha:PE X a ta)(hb:PE X b tb)(hm:behindInMarks op b=false):PE X (.Compare a [op] [b] pos) (P2 r ta tb):=by
 intro pins s σ H Q I h
 exact wpAny_Compare1 (MX ha hb I h λv u s2 x y H2 I2 rx ry q=>ho pins s2 σ H2 x y v u Q I2 rx ry q) hm
def LK(t:TE):TT:=λσ H Q=>t σ H λx H'=>∃k,x=.bl k/\Q k H'
theorem JO{op:CmpOp}{r:R2}(ho:mn X (compareOp op) r)(ha:PE X a ta)(hb:PE X b tb)(hm:behindInMarks op b=false):PT X (.Compare a [op] [b] pos) (LK (P2 r ta tb)):=by
 intro pins s σ H Q I h
 refine wpAny_isTrue_Compare1 (dH (ha pins s σ H _ I h) λv s1 ⟨x,H1,I1,r1,q1⟩=>dH (hb pins s1 σ H1 _ I1 q1) λu s2 ⟨y,H2,I2,r2,q2⟩=>
  dH (ho pins s2 σ H2 x y v u _ I2 r1 r2 q2) λc s3 ⟨z,H3,I3,r3,k,e,q3⟩=>?_) hm
 subst e
 cases r3
 exact wpAny_truthy_bool ⟨H3,I3,q3⟩
theorem ud:(sizeLine:Nat)<2^63:=by rw[sizeLine_eq];decide
theorem Be:mn X (binaryOp .Add) (λx y H Q=>∃i j,x=.str i/\y=.str j/\i.length+j.length<=sizeLine/\Q (.str (i++j)) H):=by
 intro pins s σ H x y v u Q I rx ry h
 obtain⟨i,j,rfl,rfl,hz,q⟩:=h
 obtain⟨t,rfl⟩:=rx
 obtain⟨t',rfl⟩:=ry
 exact add_str (λt' tk=>⟨.str (i++j),H,I.tok _,⟨_,rfl⟩,q⟩) hz
theorem vals1{x:V}{us:List Value}(r:Vals [x] us):∃u,us=[u]/\RelV x u:=by
 cases r with
 |cons r1 r2=>cases r2;exact⟨_,rfl,r1⟩
theorem vals2{x y:V}{us:List Value}(r:Vals [x,y] us):∃u w',us=[u,w']/\RelV x u/\RelV y w':=by
 cases r with
 |cons r1 r2=>
  cases r2 with
  |cons r3 r4=>cases r4;exact⟨_,_,rfl,r1,r3⟩
theorem xt:jw X (.type "str") (λxs H Q=>∃i,xs=[.int i]/\i.natAbs.log2<1920/\Q (.str (toString i)) H):=by
 intro pins s σ H xs us Q I r h
 obtain⟨i,rfl,hz,q⟩:=h
 obtain⟨u,rfl,t,rfl⟩:=vals1 r
 exact PySem.P.str_of_int hz ⟨.str _,H,I.tok _,⟨_,rfl⟩,q⟩
end
structure Bf(h:Heap)(x dx C:Addr)(mA:Str->Option Value):Prop where
 obj:h.get? x=some (PySem.W.instObj C dx)
 ns:h.Ns1 dx mA
 ne:dx≠x
theorem Es{h:Heap}{dx:Addr}{mA:Str->Option Value}(n:h.Ns1 dx mA):∃od,h.get? dx=some od/\∀name,PySem.W.lookIn name od=some (mA name):=by
 obtain⟨o,es,ep,ho,hd,hk,_,hm⟩:=n
 refine⟨o,ho,λname=>?_⟩
 have e:=hm name
 unfold nsFind findBy at e
 rw[<-Array.find?_toList]at e
 unfold PySem.W.lookIn
 rw[hd]
 dsimp only
 split
 ·rename_i y q
  rw[q]at e
  exact congrArg some e
 ·rename_i q
  rw[q]at e
  have a:es.toList.any (·.refKey)=false:=by
   rw[List.any_eq_false]
   intro y hy
   obtain⟨z,t,vI⟩:=hk y (Array.mem_toList_iff.mp hy)
   simp[DictEntry.refKey,vI]
  have a':¬es.toList.any (·.refKey)=true:=by rw[a];exact sw
  rw[if_neg a']
  exact congrArg some e
theorem Bf.look{h:Heap}{x dx C:Addr}{mA:Str->Option Value}(I:Bf h x dx C mA):∃od,PySem.W.InstAt h x (PySem.W.instObj C dx) C (some od)/\∀name,PySem.W.lookIn name od=some (mA name):=
 let⟨od,ho,hl⟩:=Es I.ns
 ⟨od,⟨I.obj,rfl,rfl,ho⟩,hl⟩
section
variable{prog:Program}{w:World}{A:Around}{E:Value->Shared->Prop}{s:Shared}{K:PySem.W.Frag}{x dx C f:Addr}{mA:Str->Option Value}{name:Str}{v:Value}
theorem get_map{expr:Bool}{Q:Value->Shared->Prop}(X:K.In s.heap)(I:Bf s.heap x dx C mA)(hg:PySem.W.plainGet K C name=true)(hh:PySem.W.hasDictIn K C=true)
  (ha:PySem.W.findIn K (.ref C) name=some none)(hv:mA name=some v)(RZ:PySem.W.handedIn v=true)(h:Q v {s with toks:=s.toks+1}):
  wpAny (model prog w) A (getAttr (.ref x) name expr) Q E s:=by
 obtain⟨od,J,hl⟩:=I.look
 exact PySem.W.get_value X J (Yr hg).1 (PySem.W.findObj_own hh ha rfl (by rw[hl,hv])) RZ h
theorem Gh{pl:Sem Bool}{Q:Value×List Value->Shared->Prop}(X:K.In s.heap)(I:Bf s.heap x dx C mA)(hg:PySem.W.plainGet K C name=true)
  (hf:PySem.W.findIn K (.ref C) name=some (some (.ref f)))(ht:PySem.W.isFn K (.ref f)=true)(hv:mA name=none)(h:Q (.ref f,[.ref x]) s):
  wpAny (model prog w) A (getMethod (.ref x) name pl) Q E s:=by
 obtain⟨od,J,hl⟩:=I.look
 exact PySem.W.method_fn X J (Yr hg).1 (Yr hg).2 hf (beq_iff_eq.mp ht) (by show(PySem.W.lookIn name od).map (·.isSome)=some false;rw[hl,hv];rfl) h
theorem JP{ns:List Str}{Q:Unit->Shared->Prop}(X:K.In s.heap)(I:Bf s.heap x dx C mA)
  (hs:PySem.W.findIn K (.ref C) "__setattr__" =some (some (.builtin "object.__setattr__")))(hp:PySem.W.plainOver K C=true)(ht:PySem.W.takerIn K C name=some none)(hh:PySem.W.hasDictIn K C=true)
  (hw:PySem.Within mA ns)(oh:ns.length<=sizeLine)
  (h:∀h',Bf h' x dx C (λy=>if y=name then some v else mA y)->Heap.SameBut dx s.heap h'->Q () {s with heap:=h',toks:=s.toks+2}):
  wpAny (model prog w) A (setAttr (.ref x) name v) Q E s:=by
 obtain⟨od,J,hl⟩:=I.look
 refine PySem.W.set_plain X J hs (PySem.W.osa_open (s:={s with toks:=s.toks+1}) (r:=none) X J hp ht λb=>?_)
 obtain⟨cd,hc,PL⟩:=PySem.W.any_some hh
 have hx:s.heap.get? x=some ⟨.ref C,some dx,.plain,#[]⟩:=I.obj
 refine wpAny_bind (wpAny_pure (wpAny_bind (wpAny_bind (wpAny_loadPart hx (wpAny_bind (PySem.W.Looks.here (s:={s with toks:=s.toks+1}) (PySem.W.looks_clsIn X hc) ?_))))))
 rw[PL]
 refine wpAny_pure (a:=some dx) (wpAny_bind (wpAny_pure (wpAny_bind ?_)))
 refine wpAny_nsSet1 (s:={s with toks:=s.toks+1}) I.ns λh' O9 ze=>?_
 obtain⟨oD,Xn,Xo,VA,VB,VC⟩:=O9.count (PySem.Within.cons name v hw)
 refine wpAny_bind (wpAny_lookBehind VA (by rw[VB];exact pastItsLine_dict (ZB VC (by rw[ul];omega))) ?_)
 exact wpAny_pure (h _ ⟨(ze.2 _ (Ne.symm I.ne)).trans I.obj,O9,I.ne⟩ ze)
theorem Gi{R:Result->Shared->Prop}{vs:List Value}{kw:List (Str×Value)}(X:K.In s.heap)(hm:PySem.W.makesIn K C=true)
  (hi:PySem.W.findIn K (.ref C) "__init__" =some (some (.ref f)))(hf:PySem.W.typeIn K (.ref f)=some (.type "function"))
  (h:codeAny (model prog w) (A.under (.builtin "type.__call__" ⟨.ref C::vs,kw⟩)) (.call (.ref f) ⟨.ref (s.heap.objs.size+1)::vs,kw⟩) (PySem.W.InitBack (s.heap.objs.size+1) R)
    {s with heap:=(s.heap.push PySem.W.emptyDict).push (PySem.W.instObj C s.heap.objs.size)}):
  codeAny (model prog w) A (.call (.ref C) ⟨vs,kw⟩) R s:=by
 obtain⟨hh,g,d,t,os⟩:=s
 exact PySem.W.make_core (PySem.W.makes_of X hm) (PySem.W.looks_findIn X hi) (λself=>PySem.W.bind_fn X self hf) (.inl rfl) h
end
def oi(f:Str)(v:V):List (Str×V)->List (Str×V)
 |[]=>[(f,v)]
 |(g,x)::r=>if g=f then(g,v)::r else(g,x)::oi f v r
theorem rX(f g:Str)(v:V):∀fs:List (Str×V),(oi f v fs).lookup g=if g=f then some v else fs.lookup g
 |[]=>by
  show List.lookup g [(f,v)]=_
  by_cases h:g=f
  ·have hb:(g==f)=true:=beq_iff_eq.mpr h
   simp only[List.lookup,hb,if_pos h]
  ·have hb:(g==f)=false:=beq_eq_false_iff_ne.mpr h
   simp only[List.lookup,hb,if_neg h]
 |(k,x)::r=>by
  have ih:=rX f g v r
  rw[show oi f v ((k,x)::r)=(if k=f then(k,v)::r else(k,x)::oi f v r)from rfl]
  by_cases hk:k=f
  ·rw[if_pos hk]
   by_cases h:g=k
   ·have hb:(g==k)=true:=beq_iff_eq.mpr h
    simp only[List.lookup,hb,if_pos (h.trans hk)]
   ·have hb:(g==k)=false:=beq_eq_false_iff_ne.mpr h
    simp only[List.lookup,hb,if_neg (λe:g=f=>h (e.trans hk.symm))]
  ·rw[if_neg hk]
   by_cases h:g=k
   ·have hb:(g==k)=true:=beq_iff_eq.mpr h
    simp only[List.lookup,hb,if_neg (λe:g=f=>hk (h.symm.trans e))]
   ·have hb:(g==k)=false:=beq_eq_false_iff_ne.mpr h
    simp only[List.lookup,hb]
    exact ih
theorem qT(f:Str)(v:V):∀fs:List (Str×V),f∈(oi f v fs).map (·.1)/\∀g,g∈fs.map (·.1)->g∈(oi f v fs).map (·.1)
 |[]=>⟨by simp[oi],λg h=>by simp at h⟩
 |(k,x)::r=>by
  obtain⟨i1,i2⟩:=qT f v r
  rw[show oi f v ((k,x)::r)=(if k=f then(k,v)::r else(k,x)::oi f v r)from rfl]
  by_cases hk:k=f
  ·rw[if_pos hk]
   subst hk
   exact⟨by simp,λg h=>by simpa using h⟩
  ·rw[if_neg hk]
   refine⟨?_,λg h=>?_⟩
   ·rw[ZC]
    exact wf _ i1
   ·rw[ZC]at h⊢
    rcases ZJ.mp h with e|e
    ·exact ZJ.mpr (.inl e)
    ·exact wf _ (i2 g e)
theorem rY(f:Str)(v:V):∀fs:List (Str×V),(oi f v fs).length<=fs.length+1
 |[]=>by simp[oi]
 |(k,x)::r=>by
  have ih:=rY f v r
  rw[show oi f v ((k,x)::r)=(if k=f then(k,v)::r else(k,x)::oi f v r)from rfl]
  by_cases hk:k=f
  ·rw[if_pos hk,ul,ul];omega
  ·rw[if_neg hk,ul,ul];omega
theorem vG.some_of{v:V}{o:Option Value}(r:vG (some v) o):∃u,o=some u/\RelV v u:=by
 cases o with
 |none=>exact(show False from r).elim
 |some u=>exact⟨u,rfl,r⟩
theorem vG.none_of{o:Option Value}(r:vG none o):o=none:=by
 cases o with
 |none=>rfl
 |some u=>exact(show False from r).elim
theorem Et{v:V}{u:Value}(r:RelV v u):PySem.W.handedIn u=true:=by
 cases v with
 |non=>cases(show u=Value.none from r);rfl
 |bl b=>cases(show u=Value.bool b from r);rfl
 |int i=>obtain⟨t,e⟩:=(show∃t,u=Value.int i t from r);cases e;rfl
 |str x=>obtain⟨t,e⟩:=(show∃t,u=Value.str x t from r);cases e;rfl
 |byt b=>obtain⟨t,e⟩:=(show∃t,u=Value.bytes b t from r);cases e;rfl
 |flt b=>obtain⟨t,e⟩:=(show∃t,u=Value.float b t from r);cases e;rfl
 |ref a=>cases(show u=Value.ref a from r);rfl
 |ty n=>cases(show u=Value.type n from r);rfl
section
variable{P:Program}{w:World}{H H':Hp}{h h':Heap}{a C dx:Addr}{fs PJ:List (Str×V)}
theorem tu(dE:rW P w H h)(e:H a=some (.ins C dx fs)):∃mA,Bf h a dx C mA/\(∀f,vG (fs.lookup f) (mA f))/\PySem.Within mA (fs.map (·.1))/\fs.length<=1000/\H dx=some (.own a):=by
 obtain⟨d,z,ne,ob,mA,n,r,q⟩:=(show fv P w H h a (.ins C dx fs)from dE a _ e)
 exact⟨mA,⟨ob,n,ne⟩,r,q,z,d⟩
end
structure Bg(K:PySem.W.Frag)(C:Addr):Prop where
 pg:PySem.W.plainGet K C Str.empty=true
 hd:PySem.W.hasDictIn K C=true
 po:PySem.W.plainOver K C=true
 sa:PySem.W.findIn K (.ref C) "__setattr__" =some (some (.builtin "object.__setattr__"))
theorem Bg.get{K:PySem.W.Frag}{C:Addr}(c:Bg K C)(f:Str):PySem.W.plainGet K C f=true:=c.pg
def ie(K:PySem.W.Frag)(C:Addr)(f:Str):Prop:=PySem.W.findIn K (.ref C) f=some none
theorem ie.Qd{K:PySem.W.Frag}{C:Addr}{f:Str}(n:ie K C f):PySem.W.takerIn K C f=some none:=by
 unfold PySem.W.takerIn
 rw[show PySem.W.findIn K (.ref C) f=some none from n]
 rfl
structure Meth(K:PySem.W.Frag)(C:Addr)(m:Str)(f:Addr):Prop where
 at_:PySem.W.findIn K (.ref C) m=some (some (.ref f))
 fn:PySem.W.isFn K (.ref f)=true
 kp:PySem.W.keepIn K (.ref f)=true
section
variable{X:Cx}{pins:List (Addr×Obj)}{σ:St}{H:Hp}{s:Shared}{a C dx:Addr}{fs:List (Str×V)}{f:Str}{v:V}{A:Around}{E:Value->Shared->Prop}
theorem Bh{b:Bool}{Q:Value->Shared->Prop}(I:Inv X pins σ H s)(e:H a=some (.ins C dx fs))(c:Bg X.K C)(n:ie X.K C f)(l:fs.lookup f=some v)
  (h:∀u s',Inv X pins σ H s'->RelV v u->Q u s'):wpAny (model X.prog X.w) A (getAttr (.ref a) f b) Q E s:=by
 obtain⟨mA,O,r,_,_,_⟩:=tu I.dE e
 obtain⟨u,hu,ru⟩:=vG.some_of (v:=v) (o:=mA f) (by rw[<-l];exact r f)
 exact get_map I.k8 O (c.get f) c.hd n hu (Et ru) (h u _ (I.tok _) ru)
theorem ue{m:Str}{g:Addr}{pl:Sem Bool}{Q:Value×List Value->Shared->Prop}(I:Inv X pins σ H s)(e:H a=some (.ins C dx fs))(c:Bg X.K C)(k:Meth X.K C m g)(l:fs.lookup m=none)
  (h:Q (.ref g,[.ref a]) s):wpAny (model X.prog X.w) A (getMethod (.ref a) m pl) Q E s:=by
 obtain⟨mA,O,r,_,_,_⟩:=tu I.dE e
 have hn:mA m=none:=vG.none_of (by rw[<-l];exact r m)
 exact Gh I.k8 O (c.get m) k.at_ k.fn hn h
theorem Bi{y:V}{u:Value}{Q:Unit->Shared->Prop}(I:Inv X pins σ H s)(e:H a=some (.ins C dx fs))(c:Bg X.K C)(n:ie X.K C f)(hl:fs.length<1000)(ry:RelV y u)
  (h:∀s',Inv X pins σ (upd H a (.ins C dx (oi f y fs))) s'->Q () s'):wpAny (model X.prog X.w) A (setAttr (.ref a) f u) Q E s:=by
 obtain⟨mA,O,r,wi,_,ho⟩:=tu I.dE e
 have hz:(fs.map (·.1)).length<=sizeLine:=by rw[wE,sizeLine_eq];omega
 refine JP I.k8 O c.sa c.po n.Qd c.hd wi hz λh' O' sb=>h _ ?_
 have hd:∃o,h'.get? dx=some o:=let⟨o,_,_,e',_⟩:=O'.ns;⟨o,e'⟩
 refine I.write (x:=a) (e:=dx) (by rw[e];exact True.intro) (.inr ho) (λb q hb z=>(sb.2 b hb).trans z) hd ?_
 refine⟨by rw[aJ O.ne];exact ho,?_,O.ne,O'.obj,_,O'.ns,λg=>?_,λg hg=>?_⟩
 ·have:=rY f y fs;omega
 ·show vG ((oi f y fs).lookup g) (if g=f then some u else mA g)
  rw[rX]
  by_cases q:g=f
  ·rw[if_pos q,if_pos q];exact ry
  ·rw[if_neg q,if_neg q];exact r g
 ·by_cases q:g=f
  ·rw[q];exact(qT f y fs).1
  ·refine(qT f y fs).2 g (wi g λz=>hg ?_)
   show(if g=f then some u else mA g)=none
   rw[if_neg q];exact z
theorem Inv.made(I:Inv X pins σ H s):Inv X pins σ (upd (upd H s.heap.objs.size (.own (s.heap.objs.size+1))) (s.heap.objs.size+1) (.ins C s.heap.objs.size []))
  {s with heap:=(s.heap.push PySem.W.emptyDict).push (PySem.W.instObj C s.heap.objs.size)}:=by
 have e1:(s.heap.push PySem.W.emptyDict).get? s.heap.objs.size=some PySem.W.emptyDict:=ZH s.heap rfl
 have e2:((s.heap.push PySem.W.emptyDict).push (PySem.W.instObj C s.heap.objs.size)).get? (s.heap.objs.size+1)=some (PySem.W.instObj C s.heap.objs.size):=by
  have:=ZH (s.heap.push PySem.W.emptyDict) (o:=PySem.W.instObj C s.heap.objs.size) rfl
  rwa[Yu]at this
 have e3:(s.heap.push PySem.W.emptyDict).Ns s.heap.objs.size (λ_=>none):=⟨PySem.W.emptyDict,#[],_,e1,rfl,(λe he=>absurd he (by simp)),λ_=>rfl⟩
 have I1:=I.laid (a:=s.heap.objs.size) (o:=.own (s.heap.objs.size+1)) (h':=s.heap.push PySem.W.emptyDict) (t':=s.toks) (λb u q=>wp _ q) (wr _) ⟨_,e1⟩
 refine I1.laid (a:=s.heap.objs.size+1) (o:=.ins C s.heap.objs.size []) (t':=s.toks) (λb u q=>wp _ q) (X7 (Yu _ _)) ?_
 have ne:s.heap.objs.size≠s.heap.objs.size+1:=ZV (Y6 _)
 refine⟨by rw[aJ ne,aW],ZI _,ne,e2,λ_=>none,(Heap.Ns1.of_empty e3).at λo q=>wp _ q,λ_=>True.intro,λy hy=>absurd rfl hy⟩
theorem JQ{prog:Program}{w:World}{env:Env}{e:Expr}{f:Str}{pos:Pos}{s:Shared}{Q:Value->Shared->Prop}(hb:attributeBase e f env (eval e env)=eval e env)
  (h:wpAny (model prog w) A (eval e env) (λo s₁=>wpAny (model prog w) A (getAttr o f true) Q E s₁) E s):wpAny (model prog w) A (eval (.Attribute e f pos) env) Q E s:=
 Attribute_any_ h (by rw[arm_eval_Attribute,hb])
end
def S3(K:PySem.W.Frag)(ta:TE)(f:Str):TE:=λσ H Q=>ta σ H λx H1=>∃a C dx fs v,x=.ref a/\H1 a=some (.ins C dx fs)/\Bg K C/\ie K C f/\fs.lookup f=some v/\Q v H1
def JR(K:PySem.W.Frag)(ta tv:TE)(f:Str):TS:=λD σ H=>tv σ H λy H1=>ta σ H1 λx H2=>∃a C dx fs,x=.ref a/\H2 a=some (.ins C dx fs)/\Bg K C/\ie K C f/\fs.length<1000/\
 D.nx σ (upd H2 a (.ins C dx (oi f y fs)))
section
variable{X:Cx}{o e value:Expr}{f:Str}{pos pos' VD:Pos}{ta tv:TE}
theorem M9(he:PE X e ta)(hb:attributeBase e f X.env (eval e X.env)=eval e X.env):PE X (.Attribute e f pos) (S3 X.K ta f):=by
 intro pins s σ H Q I h
 refine JQ hb (dH (he pins s σ H _ I h) λu s1 cw=>?_)
 obtain⟨x,H1,I1,rx,a,C,dx,fs,v,ex,ea,c,n,l,q⟩:=cw
 subst ex
 obtain rfl:u=Value.ref a:=rx
 exact Bh I1 ea c n l λu' s2 I2 ru=>⟨v,H1,I2,ru,q⟩
theorem Bj(ha:PE X o ta)(hv:PE X value tv)(hs:swapsWith value (some (.Attribute o f pos')) pos.line X.env=pure false):PS X (.Assign [.Attribute o f pos'] value pos) (JR X.K ta tv f):=by
 intro pins s σ H D I h
 refine plainObj_wpAny_Assign_Attribute (dH (hv pins s σ H _ I h) λu s1 ⟨y,H1,I1,ry,q⟩=>dH (ha pins s1 σ H1 _ I1 q) λov s2 cw=>?_) hs
 obtain⟨x,H2,I2,rx,a,C,dx,fs,ex,ea,c,n,l,q2⟩:=cw
 subst ex
 obtain rfl:ov=Value.ref a:=rx
 exact Bi I2 ea c n l ry λs3 I3=>⟨σ,_,I3,q2⟩
end
section
variable{X:Cx}{pins:List (Addr×Obj)}{σ:St}{H:Hp}{s:Shared}{A:Around}{E:Value->Shared->Prop}{Q:Value->Shared->Prop}{c:Value}{b:Bool}
inductive sS(K:PySem.W.Frag)(H:Hp):V->Value->Prop where
 |non:sS K H .non (.type "NoneType")
 |bl (x:Bool):sS K H (.bl x) (.type "bool")
 |int (i:Int):sS K H (.int i) (.type "int")
 |str (x:Str):sS K H (.str x) (.type "str")
 |flt (x:UInt64):sS K H (.flt x) (.type "float")
 |lst {a:Addr} {xs:List V} (e:H a=some (.lst xs)):sS K H (.ref a) (.type "list")
 |frz {a:Addr} {o:Obj} {xs:List V} (e:H a=some (.frz o (.lst xs))):sS K H (.ref a) (.type "list")
 |tup {a:Addr} {xs:List V} (e:H a=some (.tup xs)):sS K H (.ref a) (.type "tuple")
 |dK {a:Addr} {qK:List (Key×V)} (e:H a=some (.dK qK)):sS K H (.ref a) (.type "dict")
 |dT {a:Addr} {qK:List (List Key×V)} (e:H a=some (.dT qK)):sS K H (.ref a) (.type "dict")
 |ins {a C dx:Addr} {fs:List (Str×V)} (e:H a=some (.ins C dx fs)) (cl:Bg K C) (ha:PySem.W.findIn K (.ref C) "__class__" =some (some (.builtin "object.__class__")))
   (hn:PySem.W.specialIn K (.builtin "object.__class__") "__get__" =some (some (.builtin "getset_descriptor.__get__"))) (Pc:PySem.W.takesIn K (.builtin "object.__class__")=some true)
   (hm:PySem.W.mroIn K C (.type "object")=some true):sS K H (.ref a) (.ref C)
theorem Eu{x:V}{u t:Value}(I:Inv X pins σ H s)(rx:RelV x u)(ty:sS X.K H x t)(e:PySem.W.kitOne X.K t c=some b)(h:∀tk,Q (.bool b) {s with toks:=tk}):
  wpAny (model X.prog X.w) A (call (.builtin "isinstance") [u,c]) Q E s:=by
 cases ty with
 |non=>cases(show u=Value.none from rx);exact ZT PySem.W.kitx_none I.k8 True.intro e (λz=>nomatch z) h
 |bl y=>cases(show u=Value.bool y from rx);exact ZT PySem.W.kitx_bool I.k8 True.intro e (λz=>nomatch z) h
 |int i=>obtain⟨t,q⟩:=(show∃t,u=Value.int i t from rx);cases q;exact ZT PySem.W.kitx_int I.k8 True.intro e (λz=>nomatch z) h
 |str y=>obtain⟨t,q⟩:=(show∃t,u=Value.str y t from rx);cases q;exact ZT PySem.W.kitx_str I.k8 True.intro e (λz=>nomatch z) h
 |flt y=>obtain⟨t,q⟩:=(show∃t,u=Value.float y t from rx);cases q;exact ZT PySem.W.kitx_float I.k8 True.intro e (λz=>nomatch z) h
 |@lst a xs ea=>
  cases(show u=Value.ref a from rx)
  obtain⟨_,_,n,_,h1⟩:=(show fv X.prog X.w H s.heap a (.lst xs)from I.dE a _ ea)
  exact ZT Y3 I.k8 ⟨_,h1,rfl⟩ e (λz=>nomatch z) h
 |@frz a ob xs ea=>
  cases(show u=Value.ref a from rx)
  obtain⟨_,_,_,n,_,h1⟩:=(show fv X.prog X.w H s.heap a (.frz ob (.lst xs))from I.dE a _ ea)
  exact ZT Y3 I.k8 ⟨_,h1,rfl⟩ e (λz=>nomatch z) h
 |@tup a xs ea=>
  cases(show u=Value.ref a from rx)
  obtain⟨_,_,_,p⟩:=(show fv X.prog X.w H s.heap a (.tup xs)from I.dE a _ ea)
  obtain⟨o,h1,h2,_⟩:=p
  exact ZT PySem.W.kitx_tuple I.k8 ⟨o,h1,h2⟩ e (λz=>nomatch z) h
 |@dK a qK ea=>
  cases(show u=Value.ref a from rx)
  obtain⟨_,_,vs,_,p⟩:=(show fv X.prog X.w H s.heap a (.dK qK)from I.dE a _ ea)
  obtain⟨o,es,ep,h1,h2,_⟩:=p
  exact ZT PySem.W.kitx_dict I.k8 ⟨o,h1,h2.1⟩ e (λz=>nomatch z) h
 |@dT a qK ea=>
  cases(show u=Value.ref a from rx)
  obtain⟨_,_,xs,_,o,es,ep,h1,h2,_⟩:=(show fv X.prog X.w H s.heap a (.dT qK)from I.dE a _ ea)
  exact ZT PySem.W.kitx_dict I.k8 ⟨o,h1,h2.1⟩ e (λz=>nomatch z) h
 |@ins a C dx fs ea cl ha hn Pc hm=>
  cases(show u=Value.ref a from rx)
  obtain⟨mA,O,_⟩:=tu I.dE ea
  obtain⟨od,J,_⟩:=O.look
  exact ZT (PySem.W.kitx_own (cl.get _) cl.hd ha hn Pc hm) I.k8 J e (λz=>nomatch z) h
end
structure cg(k:Nat)(A:Around):Prop where
 hd:A.handled=none
 dp:A.depth+3*k+5<recursionLimit
 un:A.units+16*k+200<cLine
theorem cg.mono{j k:Nat}{A:Around}(r:cg k A)(h:j<=k):cg j A:=⟨r.hd,by have:=r.dp;omega,by have:=r.un;omega⟩
theorem cg.deeper{k:Nat}{A:Around}(r:cg (k+1) A)(env:Env):cg k (A.deeper env):=
 ⟨r.hd,by have:=r.dp;show A.depth+1+3*k+5<_;omega,by have:=r.un;show A.units+3+16*k+200<_;omega⟩
theorem cg.in1{k:Nat}{A:Around}(r:cg (k+1) A):cg k A.in1:=
 ⟨r.hd,by have:=r.dp;show A.depth+3*k+5<_;omega,by have:=r.un;show A.units+1+16*k+200<_;omega⟩
theorem Bk{A:Around}{C:Addr}{us:List Value}{kw:List (Str×Value)}:(A.under (.builtin "type.__call__" ⟨.ref C::us,kw⟩)).depth=A.depth+1:=by
 first|rfl|simp[Around.under,Code.weight,Code.isCreation,Code.isGuard,Code.isCaller,Code.frames,Code.isFrame,guardIds]
theorem Bm{A:Around}{C:Addr}{us:List Value}{kw:List (Str×Value)}:(A.under (.builtin "type.__call__" ⟨.ref C::us,kw⟩)).units=A.units+1:=by
 first|rfl|simp[Around.under,Code.cUnits,Code.frames,Code.isFrame]
theorem cg.make{k:Nat}{A:Around}(r:cg (k+1) A)(C:Addr)(us:List Value)(kw:List (Str×Value)):cg k (A.under (.builtin "type.__call__" ⟨.ref C::us,kw⟩)):=
 ⟨r.hd,by have:=r.dp;rw[Bk];omega,by have:=r.un;rw[Bm];omega⟩
theorem cg.depth{k:Nat}{A:Around}(r:cg k A):A.depth<recursionLimit:=by have:=r.dp;omega
theorem cg.units{k:Nat}{A:Around}(r:cg k A):A.units+64<cLine:=by have:=r.un;omega
def iZ:TA:=λ_ H Q=>Q [] H
def cG(ta:TE)(tr:TA):TA:=λσ H Q=>ta σ H λx H1=>tr σ H1 λxs H2=>Q (x::xs) H2
section
variable{X:Cx}{e:Expr}{es:List Expr}{te:TE}{t:TA}{pos:Pos}
theorem bB:PA X [] iZ:=λ_ _ _ _ H Q I h=>Calls.spliced_nil ⟨[],H,I,.nil,h⟩
theorem aI(ha:PE X e te)(hr:PA X es t)(hs:starEach (e::es) X.env=(false,eval e X.env)::starEach es X.env:=by rfl):PA X (e::es) (cG te t):=by
 intro pos pins s σ H Q I h
 rw[hs]
 show wpAny _ _ (spliced ((false,eval e X.env)::backTo pos (starEach es X.env))) _ _ s
 refine Calls.spliced_cons (dH (ha pins s σ H _ I h) λu s1 cw=>?_)
 obtain⟨x,H1,I1,r1,q1⟩:=cw
 exact dH (hr pos pins s1 σ H1 _ I1 q1) λus s2 ⟨xs,H2,I2,r2,q2⟩=>⟨x::xs,H2,I2,.cons r1 r2,q2⟩
def Bn(t:TA):TE:=λσ H Q=>t σ H λxs H1=>xs.length<=sizeLine/\∀p,H1 p=none->Q (.ref p) (upd H1 p (.tup xs))
def JS(t:TA):TE:=λσ H Q=>t σ H λxs H1=>xs.length<=sizeLine/\∀p,H1 p=none->Q (.ref p) (upd H1 p (.lst xs))
theorem Bo{x1}(h:PA X es t):PE X (.Tuple es x1 pos) (Bn t):=by
 intro pins s σ H Q I hq
 refine wpAny_Tuple_spliced (dH (h pos pins s σ H _ I hq) λus s1 ⟨xs,H1,I1,r,z,q⟩=>⟨by rw[<-r.length];exact z,?_⟩)
 have hf:H1 s1.heap.objs.size=none:=I1.dE.fresh (wr _)
 refine⟨.ref s1.heap.objs.size,upd H1 s1.heap.objs.size (.tup xs),I1.laid (t':=s1.toks) (λb u e=>wp _ e) (wr _) ?_,rfl,q _ hf⟩
 exact⟨⟨z,JF.new⟩,us,r,⟨_,ZH _ rfl,rfl,_,rfl⟩⟩
theorem xu(h:PA X es t):PE X (.List es pos) (JS t):=by
 intro pins s σ H Q I hq
 refine wpAny_List_spliced (dH (h pos pins s σ H _ I hq) λus s1 ⟨xs,H1,I1,r,z,q⟩=>⟨by rw[<-r.length];exact z,?_⟩)
 have hf:H1 s1.heap.objs.size=none:=I1.dE.fresh (wr _)
 refine⟨.ref s1.heap.objs.size,upd H1 s1.heap.objs.size (.lst xs),I1.laid (t':=s1.toks) (λb u e=>wp _ e) (wr _) ?_,rfl,q _ hf⟩
 exact⟨z,us,0,r,ZH _ rfl⟩
end
abbrev Sp:=List V->Hp->VK->XK->Prop
abbrev FK:=List Env->Hp->Shared->XK->Value->Shared->Prop
structure Bp(P:Program)(w:World)(K:PySem.W.Frag)(mg:Str->Option Value)(base:Heap)(A:Around)(outer:List Env)(s:Shared)(H:Hp):Prop where
 frames:A.frames=some outer
 mod:Mod K mg base
 bs:∀b o,base.get? b=some o->s.heap.get? b=some o/\H b=none
 bsz:base.objs.size<=s.heap.objs.size
 funs:s.heap.FunFrames base outer
 frf:∀b∈eI outer,H b=none
 dE:rW P w H s.heap
 bare:AllBare s.gens
def CE(outer:List Env)(P:Program)(w:World)(H:Hp)(s:Shared)(Q:VK)(u:Value)(s':Shared):Prop:=
 ∃v H',s'.os=s.os/\AllBare s'.gens/\Un (eI outer) [] H H' s.heap s'.heap/\rW P w H' s'.heap/\RelV v u/\Q v H'
def CR(CX:FK)(outer:List Env)(P:Program)(w:World)(H:Hp)(s:Shared)(Q:VK)(E:XK)(r:Result)(s':Shared):Prop:=
 match r with
 |.ok (.ret u)=>CE outer P w H s Q u s'
 |.ok _=>False
 |.error e=>CX outer H s E e s'
structure aL(P:Program)(w:World)(K:PySem.W.Frag)(mg:Str->Option Value)(base:Heap)(CX:FK)(k:Nat)(f:Addr)(fd:FuncData)(ps:List Str)(sp:Sp):Prop where
 len:∀vs H Q E,sp vs H Q E->vs.length=ps.length
 run:∀(A:Around) (outer:List Env) (s:Shared) (H:Hp) (args:Args) (us:List Value) (vs:List V) (Q:VK) (E:XK),cg k A->Bp P w K mg base A outer s H->BindsTo s fd args (ps.zip us)->Vals vs us->sp vs H Q E->
  codeAny (model P w) A (.call (.ref f) args) (CR CX outer P w H s Q E) s
theorem aL.mono{P:Program}{w:World}{K:PySem.W.Frag}{mg:Str->Option Value}{base:Heap}{CX:FK}{j k:Nat}{f:Addr}{fd:FuncData}{ps:List Str}{sp:Sp}(F:aL P w K mg base CX j f fd ps sp)(h:j<=k):
 aL P w K mg base CX k f fd ps sp:=⟨F.len,λA outer s H args us vs Q E hr=>F.run A outer s H args us vs Q E (hr.mono h)⟩
theorem Bp.make{P:Program}{w:World}{K:PySem.W.Frag}{mg:Str->Option Value}{base:Heap}{A:Around}{outer:List Env}{s:Shared}{H:Hp}(e:Bp P w K mg base A outer s H)(C:Addr)(us:List Value)(kw:List (Str×Value)):
 Bp P w K mg base (A.under (.builtin "type.__call__" ⟨.ref C::us,kw⟩)) outer s H:=⟨by first|exact e.frames|(simpa[Around.under,Code.envs,Code.isFrame,pushEnvs]using e.frames),e.mod,e.bs,e.bsz,e.funs,e.frf,e.dE,e.bare⟩
section
variable{X:Cx}{pins:List (Addr×Obj)}{σ:St}{H:Hp}{s s':Shared}
theorem Inv.Na(I:Inv X pins σ H s):Bp X.prog X.w X.K X.mg X.base X.A X.stack s H:=
 ⟨I.ok.frames,I.ok.mod,I.bs,ZB I.ok.bsz I.sz,I.stack,I.k9,I.dE,I.bare⟩
theorem Inv.after{Q:VK}{u:Value}(I:Inv X pins σ H s)(h:CE X.stack X.prog X.w H s Q u s'):EP X pins σ Q u s':=by
 obtain⟨v,H',os,bare,un,dE,r,q⟩:=h
 obtain⟨hh,g,d,t,VE⟩:=s'
 obtain rfl:VE=s.os:=os
 exact⟨v,H',I.call (h':=hh) (g':=g) (d':=d) (t':=t) (ch:=[]) un dE bare (λb z=>absurd z (by simp)),r,q⟩
end
def uf(sp:Sp)(dvs:List V)(E:XK)(t:TA):TE:=λσ H Q=>t σ H λvs H1=>sp (vs++dvs) H1 Q E
def LL(C:Addr)(sp:Sp)(dvs:List V)(E:XK)(t:TA):TE:=λσ H Q=>t σ H λvs H1=>∀x dx,H1 x=none->H1 dx=none->dx≠x->
 sp (.ref x::(vs++dvs)) (upd (upd H1 dx (.own x)) x (.ins C dx [])) (λv H2=>v=.non/\Q (.ref x) H2) E
def Binds(K:PySem.W.Frag)(fd:FuncData)(ps:List Str)(ds:List Value):Prop:=
 ∀(s:Shared) (us:List Value),K.In s.heap->(us++ds).length=ps.length->BindsTo s fd ⟨us,[]⟩ (ps.zip (us++ds))
theorem Binds.all{K:PySem.W.Frag}{fd:FuncData}{ps:List Str}(h:∀us:List Value,us.length=ps.length->bindArgs fd ⟨us,[]⟩=pure (ps.zip us)):Binds K fd ps []:=λs us _ hl=>by
 rw[ZL]at hl⊢
 exact .of_eq (h us hl)
def Passes(CX:FK)(X:Cx)(E:XK):Prop:=∀(pins:List (Addr×Obj)) (σ:St) (H:Hp) (s:Shared) (e:Value) (s':Shared),Inv X pins σ H s->CX X.stack H s E e s'->X.xe e s'
section
variable{X:Cx}{CX:FK}{k:Nat}{f C:Addr}{fd:FuncData}{ps:List Str}{sp:Sp}{dvs:List V}{ds:List Value}{E:XK}{x m:Str}{p pos apos:Pos}{e o:Expr}{es:List Expr}{ta:TE}{t:TA}
theorem xv{pins:List (Addr×Obj)}{σ:St}{H:Hp}{s:Shared}{Q:VK}{us:List Value}{vs:List V}(F:aL X.prog X.w X.K X.mg X.base CX k f fd ps sp)(hr:cg k X.A)(hb:Binds X.K fd ps ds)(hd:Vals dvs ds)(hx:Passes CX X E)
  (I:Inv X pins σ H s)(r:Vals vs us)(h:sp (vs++dvs) H Q E):wpAny (model X.prog X.w) X.A (call (.ref f) us) (EP X pins σ Q) X.xe s:=by
 have r2:Vals (vs++dvs) (us++ds):=r.append hd
 have hl:(us++ds).length=ps.length:=by rw[<-r2.length];exact F.len _ _ _ _ h
 refine wpAny_call (codeAny_mono (F.run X.A X.stack s H ⟨us,[]⟩ (us++ds) (vs++dvs) Q E hr I.Na (hb s us I.k8 hl) r2 h) λr s' hq=>?_)
 cases r with
 |error e=>exact hx pins σ H s e s' I hq
 |ok fl=>
  cases fl with
  |ret u=>exact I.after hq
  |next=>exact False.elim hq
  |brk=>exact False.elim hq
  |cont=>exact False.elim hq
theorem jh(F:aL X.prog X.w X.K X.mg X.base CX k f fd ps sp)(hr:cg k X.A)(hg:Gl X x)(hm:X.mg x=some (.ref f))(hk:PySem.W.keepIn X.K (.ref f)=true)(hb:Binds X.K fd ps ds)(hd:Vals dvs ds)(hx:Passes CX X E)
  (ha:PA X (e::es) t)(oj:(x==("__debug__" :Str))=false:=by decide)(he:starEach (e::es) X.env=(false,eval e X.env)::starEach es X.env:=by rfl)(hpl:(backTo pos (starEach es X.env)).any (·.1)=false:=by rfl):
  PE X (.Call (.Name x p) (e::es) [] pos) (uf sp dvs E t):=by
 intro pins s σ H Q I h
 refine wpAny_Call_Name_kw (nP I hg hm ?_ oj)
 refine Z6 (h₀:=X.base) I.ok.mod.kin hk (dH (ha pos pins s σ H _ I h) λus s1 ⟨vs,H1,I1,r,q⟩=>⟨I1.k8,?_⟩) he hpl
 exact xv F hr hb hd hx I1 r q
structure Mk(K:PySem.W.Frag)(C f:Addr):Prop where
 makes:PySem.W.makesIn K C=true
 init:PySem.W.findIn K (.ref C) "__init__" =some (some (.ref f))
 fn:PySem.W.isFn K (.ref f)=true
 kp:PySem.W.keepIn K (.ref C)=true
theorem Gj{pins:List (Addr×Obj)}{σ:St}{H:Hp}{s:Shared}{Q:VK}{us:List Value}{vs:List V}(M:Mk X.K C f)(F:aL X.prog X.w X.K X.mg X.base CX k f fd ps sp)(hr:cg (k+1) X.A)(hb:Binds X.K fd ps ds)(hd:Vals dvs ds)
  (hx:Passes CX X E)(I:Inv X pins σ H s)(r:Vals vs us)
  (h:∀x dx,H x=none->H dx=none->dx≠x->sp (.ref x::(vs++dvs)) (upd (upd H dx (.own x)) x (.ins C dx [])) (λv H2=>v=.non/\Q (.ref x) H2) E):
  wpAny (model X.prog X.w) X.A (call (.ref C) us) (EP X pins σ Q) X.xe s:=by
 have hq:=h (s.heap.objs.size+1) s.heap.objs.size (I.dE.fresh (Nat.le_succ _)) (I.dE.fresh (wr _)) (ZV (Y6 _))
 have I2:=Inv.made (C:=C) I
 have r2:Vals (V.ref (s.heap.objs.size+1)::(vs++dvs)) (Value.ref (s.heap.objs.size+1)::(us++ds)):=.cons rfl (r.append hd)
 have hl:(Value.ref (s.heap.objs.size+1)::us++ds).length=ps.length:=by
  have e:=r2.length
  rw[F.len _ _ _ _ hq]at e
  exact e.symm
 refine wpAny_call (Gi (f:=f) I.k8 M.makes M.init (beq_iff_eq.mp M.fn) (codeAny_mono (F.run _ X.stack _ _ ⟨Value.ref (s.heap.objs.size+1)::us,[]⟩ (Value.ref (s.heap.objs.size+1)::(us++ds)) _ _ E (hr.make C us [])
  (I2.Na.make C us []) (hb _ (Value.ref (s.heap.objs.size+1)::us) I2.k8 hl) r2 hq) λr s' Qe=>?_))
 cases r with
 |error e=>exact hx pins σ _ _ e s' I2 Qe
 |ok fl=>
  cases fl with
  |ret u=>
   obtain⟨v,H',I3,rv,ev,q3⟩:=I2.after Qe
   subst ev
   exact⟨rv,⟨V.ref (s.heap.objs.size+1),H',I3,rfl,q3⟩⟩
  |next=>exact False.elim Qe
  |brk=>exact False.elim Qe
  |cont=>exact False.elim Qe
theorem tw(M:Mk X.K C f)(F:aL X.prog X.w X.K X.mg X.base CX k f fd ps sp)(hr:cg (k+1) X.A)(hg:Gl X x)(hm:X.mg x=some (.ref C))(hb:Binds X.K fd ps ds)(hd:Vals dvs ds)(hx:Passes CX X E)
  (ha:PA X (e::es) t)(oj:(x==("__debug__" :Str))=false:=by decide)(he:starEach (e::es) X.env=(false,eval e X.env)::starEach es X.env:=by rfl)(hpl:(backTo pos (starEach es X.env)).any (·.1)=false:=by rfl):
  PE X (.Call (.Name x p) (e::es) [] pos) (LL C sp dvs E t):=by
 intro pins s σ H Q I h
 refine wpAny_Call_Name_kw (nP I hg hm ?_ oj)
 refine Z6 (h₀:=X.base) I.ok.mod.kin M.kp (dH (ha pos pins s σ H _ I h) λus s1 ⟨vs,H1,I1,r,q⟩=>⟨I1.k8,?_⟩) he hpl
 exact Gj M F hr hb hd hx I1 r q
end
def PK(X:Cx)(Qf:List Keyword)(t:TA):Prop:=
 ∀(pos:Pos) (pins:List (Addr×Obj)) (s:Shared) (σ:St) (H:Hp) (Q:List V->Hp->Prop),Inv X pins σ H s->t σ H Q->wpAny (model X.prog X.w) X.A (evalAll ((backToKw pos (keywordEach Qf X.env)).map (·.2))) (AP X pins σ Q) X.xe s
section
variable{X:Cx}{CX:FK}{k:Nat}{f C:Addr}{fd:FuncData}{ps ks:List Str}{sp:Sp}{E:XK}{x m:Str}{p pos apos kpos:Pos}{e o:Expr}{es:List Expr}{Qf:List Keyword}{te ta:TE}{t tk:TA}{nm:Option Str}
theorem Nb:PK X [] iZ:=λ_ _ _ _ H Q I h=>wpAny_evalAll_nil ⟨[],H,I,.nil,h⟩
theorem JT(ha:PE X e te)(hr:PK X Qf t):PK X (⟨nm,e,kpos⟩::Qf) (cG te t):=by
 intro pos pins s σ H Q I h
 show wpAny _ _ (evalAll ((do let v<-eval e X.env;standAt pos;pure v)::(backToKw pos (keywordEach Qf X.env)).map (·.2))) _ _ s
 refine wpAny_evalAll_cons (wpAny_bind (dH (ha pins s σ H _ I h) λu s1 ⟨x,H1,I1,r1,q1⟩=>wpAny_bind (wpAny_standAt (wpAny_pure ?_))))
 exact dH (hr pos pins s1 σ H1 _ I1 q1) λus s2 ⟨xs,H2,I2,r2,q2⟩=>⟨x::xs,H2,I2,.cons r1 r2,q2⟩
variable{g:List Value->List Value->List Value}{gV:List V->List V->List V}
end
structure aT(N P:List Str)(sc:Scope):Prop where
 kind:sc.kind=.function
 co:sc.isCoroutine=false
 gen:sc.isGenerator=false
 nd:N.Nodup
 pre:N.take P.length=P
 par:∀x∈P,sc.names.lookup x=some .local\/sc.names.lookup x=some .cell
 nofree:∀y∈sc.names,y.2≠.free
theorem wb{kindOf:Str->Option NameKind}{x:Str}:∀{binds:List (Str×Value)} {m:Str->Option Value},(∀v,(x,v)∉binds)->bindL kindOf binds m x=m x
 |[],_,_=>rfl
 |(n,v)::r,m,h=>by
  unfold bindL
  rw[wb λw hw=>h w (wf _ hw)]
  split
  ·have:x≠n:=by rintro rfl;exact h v wT
   simp[this]
  ·rfl
theorem wc{kindOf:Str->Option NameKind}{x:Str}:∀{binds:List (Str×Value)} {m:Str->Option Value},(∀v,(x,v)∉binds)->bindC kindOf binds m x=m x
 |[],_,_=>rfl
 |(n,v)::r,m,h=>by
  unfold bindC
  rw[wc λw hw=>h w (wf _ hw)]
  split
  ·rfl
  ·have:x≠n:=by rintro rfl;exact h v wT
   simp[this]
theorem wd{kindOf:Str->Option NameKind}{x:Str}{v:Value}:∀{P:List Str} {vs:List Value} {i:Nat} {m:Str->Option Value},P.Nodup->P[i]?=some x->vs[i]?=some v->kindOf x=some .local->
  bindL kindOf (P.zip vs) m x=some v
 |[],_,_,_,_,h,_,_=>by simp at h
 |_::_,[],_,_,_,_,h,_=>by simp at h
 |p::P,w::vs,0,m,nd,h1,h2,hk=>by
  simp at h1 h2;subst h1;subst h2
  show bindL kindOf ((p,w)::P.zip vs) m p=_
  unfold bindL
  rw[wb λv hv=>(Ym.mp nd).1 (XW hv).1,if_pos hk]
  simp
 |p::P,w::vs,i+1,m,nd,h1,h2,hk=>by
  show bindL kindOf ((p,w)::P.zip vs) m x=_
  unfold bindL
  exact wd (i:=i) (Ym.mp nd).2 (by simpa using h1) (by simpa using h2) hk
theorem we{kindOf:Str->Option NameKind}{x:Str}{v:Value}:∀{P:List Str} {vs:List Value} {i:Nat} {m:Str->Option Value},P.Nodup->P[i]?=some x->vs[i]?=some v->kindOf x≠some .local->
  bindC kindOf (P.zip vs) m x=some v
 |[],_,_,_,_,h,_,_=>by simp at h
 |_::_,[],_,_,_,_,h,_=>by simp at h
 |p::P,w::vs,0,m,nd,h1,h2,hk=>by
  simp at h1 h2;subst h1;subst h2
  show bindC kindOf ((p,w)::P.zip vs) m p=_
  unfold bindC
  rw[wc λv hv=>(Ym.mp nd).1 (XW hv).1,if_neg hk]
  simp
 |p::P,w::vs,i+1,m,nd,h1,h2,hk=>by
  show bindC kindOf ((p,w)::P.zip vs) m x=_
  unfold bindC
  exact we (i:=i) (Ym.mp nd).2 (by simpa using h1) (by simpa using h2) hk
def start(N:List Str)(vs:List V):St:=vs.map some++List.replicate (N.length-vs.length) none
def mB(CX:FK)(P:Program)(w:World)(K:PySem.W.Frag)(mg:Str->Option Value)(base:Heap)(N:List Str)(qual:Str)(scope:Scope)(f:Addr)(cd:Value)(A:Around)(outer:List Env)(s:Shared)(H:Hp)(E:XK):Cx where
 prog:=P
 w:=w
 K:=K
 mg:=mg
 base:=base
 A:=A.deeper (envOfC qual scope s.heap.objs.size f cd)
 N:=N
 s₀:=s
 H₀:=H
 env:=envOfC qual scope s.heap.objs.size f cd
 outer:=outer
 stack:=envOfC qual scope s.heap.objs.size f cd::outer
 ex:=[]
 calm:=true
 fn:=λ_=>true
 pn:=[]
 xe:=λe s'=>wpAny (model P w) (A.deeper (envOfC qual scope s.heap.objs.size f cd)) (leaving (envOfC qual scope s.heap.objs.size f cd) e) (λ_ zf=>CX outer H s E e zf) (λe' zf=>CX outer H s E e' zf) s'
theorem zg{sc:Scope}{n:Nat}{x:Str}(h:sc.names.lookup x=some .cell):∃c,(cellsFrom n sc.names []).lookup x=some c:=by
 have q:=XZ sc.names n [] (.inl h)
 exact Z3.mp q
theorem Ew{CX:FK}{P:Program}{w:World}{K:PySem.W.Frag}{mg:Str->Option Value}{base:Heap}{N ps:List Str}{qual:Str}{scope:Scope}{f:Addr}{cd:Value}{A:Around}{outer:List Env}{s s1:Shared}{H:Hp}{E:XK}{us:List Value}{vs:List V}
  (S:aT N ps scope)(hd:A.handled=none)(e0:Bp P w K mg base A outer s H)(hl:vs.length=ps.length)(r:Vals vs us)
  (x:InCallC s s.heap.objs.size (bindL (envOfC qual scope s.heap.objs.size f cd).kindOf (ps.zip us) λ_=>none) (cellsFrom (s.heap.objs.size+1) scope.names []) (bindC (envOfC qual scope s.heap.objs.size f cd).kindOf (ps.zip us) λ_=>none) s1):
  Inv (mB CX P w K mg base N qual scope f cd A outer s H E) [] (start N vs) H s1:=by
 have hpl:ps.length<=N.length:=by have:=congrArg List.length S.pre;rw[ZM]at this;omega
 obtain⟨h1,tk,rfl,hk⟩:=x.done
 have Qg:∀b:Addr,b∉(mB CX P w K mg base N qual scope f cd A outer s H E).ex:=λb z=>absurd (show b∈([]:List Addr)from z) (by simp)
 refine⟨⟨e0.mod,S.kind,rfl,rfl,wr _,λy z c h1 h2=>?_,λy hy=>?_,λy c _ h=>?_,λ_=>hd,Around.frames_deeper e0.frames,.inr ⟨rfl,rfl⟩,λb z=>absurd z (Qg b),e0.bs,e0.bsz,λb _ _=>Qg b,λb z=>absurd z (Qg b),e0.funs,e0.frf⟩,
  rfl,e0.bare,Un.kept hk,⟨_,x.toInCall.ns,λi y v h1 h2 h3=>?_⟩,λy c h=>⟨_,x.cell y c h⟩,e0.dE.fresh (wr _),λy c h=>?_,λp hp=>absurd (show p∈([]:List (Addr×Obj))from hp) (by simp),e0.dE.kept hk,?_⟩
 ·exact name_of_addr x.apart (ZW h1) (ZW h2)
 ·have hy:scope.names.lookup y=some .cell\/scope.names.lookup y=some .free:=hy
  rcases hy with hy|hy
  ·exact zg hy
  ·exact absurd rfl (S.nofree _ (ZW hy))
 ·exact Zm (x.above y c (ZW h))
 ·have hi:i<vs.length:=by
    unfold start at h2
    by_cases hi:i<vs.length
    ·exact hi
    ·rw[YK (by simpa using hi)]at h2
     rw[XU]at h2
     split at h2<;>cases h2
  have ha:vs[i]?=some v:=by
   unfold start at h2
   rw[YR (by simpa using hi),Zh]at h2
   cases e:vs[i]? with
   |none=>rw[e]at h2;cases h2
   |some a=>rw[e]at h2;cases h2;rfl
  obtain⟨u,hu,rv⟩:=r.get ha
  have hp:ps[i]?=some y:=by
   rw[<-S.pre,List.getElem?_take_of_lt (by omega)];exact h1
  have UJ:ps.Nodup:=by rw[<-S.pre];exact S.nd.sublist (List.take_sublist _ _)
  refine⟨u,rv,?_⟩
  rcases S.par y (Zf hp)with k|k
  ·exact .inl ⟨k,wd UJ hp hu k⟩
  ·obtain⟨c,e⟩:=zg (n:=s.heap.objs.size+1) k
   refine .inr ⟨.inl k,c,e,?_⟩
   have q:=x.cell y c e
   rw[we UJ hp hu (by show scope.names.lookup y≠_;rw[k];decide)]at q
   exact q
 ·exact e0.dE.fresh (Zm (x.above y c (ZW h)))
 ·unfold start
  show _=N.length
  rw[ZD,wE,List.length_replicate]
  omega
theorem LN{CX:FK}{P:Program}{w:World}{K:PySem.W.Frag}{mg:Str->Option Value}{base:Heap}{k:Nat}{f:Addr}{name qual:Str}{params:Arguments}{body:List Stmt}{scope:Scope}{dV kV doc pm cD ct oc:Value}{an od:Option Addr}
  {JU:Array (Option Value)}{N ps:List Str}{sp:Sp}(lk:K.lookup f=some ⟨oc,od,.func (PySem.W.fnOf name qual params body scope dV kV doc pm an cD ct),JU⟩)(pK:PySem.W.codeIn K cD qual=true)(S:aT N ps scope)
  (len:∀vs H Q E,sp vs H Q E->vs.length=ps.length)
  (zh:∀(A:Around) (outer:List Env) (s:Shared) (H:Hp) (vs:List V) (Q:VK) (E:XK),cg k (A.deeper (envOfC qual scope s.heap.objs.size f cD))->sp vs H Q E->
    ∃t,A6 (mB CX P w K mg base N qual scope f cD A outer s H E) body t/\t {nx:=λ_ H'=>Q .non H',rt:=Q} (start N vs) H):
  aL P w K mg base CX (k+1) f (PySem.W.fnOf name qual params body scope dV kV doc pm an cD ct) ps sp:=by
 refine⟨len,λA outer s H args us vs Q E hr e0 hb r LO=>?_⟩
 have hl:=len _ _ _ _ LO
 have KX:K.In s.heap:=e0.mod.kin.keeps λb o e=>(e0.bs b o e).1
 have lim:s.heap.NoLimit:=e0.mod.nolimit.keeps λb o e=>(e0.bs b o e).1
 have Qh:∀y∈ps.zip us,scope.names.lookup y.1=some .local\/(scope.names.lookup y.1=some .cell/\((cellsFrom (s.heap.objs.size+1) scope.names []).lookup y.1).isSome=true):=λ⟨n,v⟩ hy=>by
  rcases S.par n (XW hy).1 with q|q
  ·exact .inl q
  ·exact .inr ⟨q,XZ _ _ _ (.inl q)⟩
 refine codeAny_call_function hr.depth (KX _ _ lk) rfl S.co S.gen rfl (PySem.W.codeRec_of KX pK) (hb _ _ _ _ ?_)
 refine wpAny_newFunctionEnv_cells S.kind Qh λenv he s1 x=>?_
 subst he
 refine⟨lim.keeps x.toInCall.keep,codeAny_func ?_⟩
 obtain⟨t,ht,hq⟩:=zh A outer s H vs Q E (hr.deeper _) LO
 have I:Inv (mB CX P w K mg base N qual scope f cD A outer s H E) [] (start N vs) H s1:=Ew S hr.hd e0 hl r x
 refine wpAny_mono (ht [] s1 (start N vs) H _ I hq) (λfl s' hs=>?_) λe s' hs=>hs
 have fin:∀{σ':St} {H':Hp} {v:V} {u:Value},Inv (mB CX P w K mg base N qual scope f cD A outer s H E) [] σ' H' s'->RelV v u->Q v H'->CE outer P w H s Q u s':=
  λ{σ' H' v u} J rv q=>⟨v,H',J.os,J.bare,J.base,J.dE,rv,q⟩
 cases fl with
 |ret u=>
  obtain⟨v,σ',H',J,rv,q⟩:=hs
  exact fin J rv q
 |next=>
  obtain⟨σ',H',J,q⟩:=hs
  exact fin (v:=V.non) (u:=Value.none) J rfl q
 |brk=>
  obtain⟨_,_,_,q⟩:=hs
  exact False.elim q
 |cont=>
  obtain⟨_,_,_,q⟩:=hs
  exact False.elim q
section
variable{X:Cx}{x:Str}{p pos:Pos}{e:Expr}{es:List Expr}{t:TA}{id T:String}{r:List V->Hp->VK->Prop}
def Qi(r:List V->Hp->VK->Prop)(t:TA):TE:=λσ H Q=>t σ H λvs H1=>r vs H1 Q
theorem iO(hc:jw X (.builtin id) r)(hg:Gl X x)(hm:X.mg x=none)(hv:bootBuiltins x=some (.builtin id))(ha:PA X (e::es) t)(hn:x≠ "__name__" :=by decide)(oj:(x==("__debug__" :Str))=false:=by decide)
  (he:starEach (e::es) X.env=(false,eval e X.env)::starEach es X.env:=by rfl)(hpl:(backTo pos (starEach es X.env)).any (·.1)=false:=by rfl):PE X (.Call (.Name x p) (e::es) [] pos) (Qi r t):=by
 intro pins s σ H Q I h
 refine wpAny_Call_Name_kw (qP I hg hm hv ?_ hn oj)
 exact PyProof.Rows.callWith_builtin1 (dH (ha pos pins s σ H _ I h) λus s1 ⟨vs,H1,I1,r1,q1⟩=>hc pins s1 σ H1 vs us Q I1 r1 q1) he hpl
theorem qU(hc:jw X (.type T) r)(hg:Gl X x)(hm:X.mg x=none)(hv:bootBuiltins x=some (.type T))(ha:PA X (e::es) t)(hn:x≠ "__name__" :=by decide)(oj:(x==("__debug__" :Str))=false:=by decide)
  (he:starEach (e::es) X.env=(false,eval e X.env)::starEach es X.env:=by rfl)(hpl:(backTo pos (starEach es X.env)).any (·.1)=false:=by rfl):PE X (.Call (.Name x p) (e::es) [] pos) (Qi r t):=by
 intro pins s σ H Q I h
 refine wpAny_Call_Name_kw (qP I hg hm hv ?_ hn oj)
 exact PyProof.Rows.callWith_type1 (dH (ha pos pins s σ H _ I h) λus s1 ⟨vs,H1,I1,r1,q1⟩=>hc pins s1 σ H1 vs us Q I1 r1 q1) he hpl
end
end L2
namespace HT
open PySem PyProof.Rows
def lexLt:List Int->List Int->Bool
 |[],[]=>false
 |[],_::_=>true
 |_::_,[]=>false
 |x::xs,y::ys=>if x=y then lexLt xs ys else decide (x<y)
theorem oG(x y:Int)(xs ys:List Int):lexLt (x::xs) (y::ys)=if x=y then lexLt xs ys else decide (x<y):=rfl
theorem vJ:lexLt [] []=false:=rfl
theorem ug(y:Int)(ys:List Int):lexLt [] (y::ys)=true:=rfl
theorem uh(x:Int)(xs:List Int):lexLt (x::xs) []=false:=rfl
theorem Gk(A:Around)(s:Shared)(a:Int)(t:Tok)(c:Int)(u:Tok):∃e,SeqAt.EqAt A s (.int a t) (.int c u) e/\(e=true↔a=c):=
 ⟨(a==c),SeqAt.EqAt.int_int a t c u,by simp⟩
theorem Gm(A:Around)(s:Shared)(a:Int)(t:Tok)(c:Int)(u:Tok)(prog:Program)(w:World)(E:Value->Shared->Prop)(Q:Value->Shared->Prop)(h:Q (.bool (decide (a<c))) s):
  wpAny (model prog w) A (richCompare .Lt (.int a t) (.int c u)) Q E s:=
 (PyProof.Rows.lt_int h:wpAny (model prog w) A (compareOp .Lt (.int a t) (.int c u)) Q E s)
section
variable{prog:Program}{w:World}{A:Around}{E:Value->Shared->Prop}{s:Shared}
theorem JV{t b:Addr}{vs ws:List Value}{Q:Value->Shared->Prop}(ht:IsTup s.heap t vs.toArray)(hb:IsTup s.heap b ws.toArray)(hv:vs≠[])
  (h1:ws=[]->Q (.ref t) s)(h2:ws≠[]->Q (.ref s.heap.objs.size) {s with heap:=s.heap.push {cls:=.type "tuple",data:=.seq (vs++ws).toArray}})
  (oh:vs.length+ws.length<=sizeLine):wpAny (model prog w) A (binaryOp .Add (.ref t) (.ref b)) Q E s:=by
 obtain⟨⟨cls,dd,data,sl⟩,ho,hc,n,hd⟩:=id ht
 obtain⟨⟨Qj,Gn,data2,Ey⟩,C7,Jq,n2,hd2⟩:=id hb
 simp only at hc hd Jq hd2
 subst hc hd Jq hd2
 have e:vs.toArray++ws.toArray=(vs++ws).toArray:=by simp
 by_cases hw:ws=[]
 ·exact concat_meets ⟨_,ho,rfl⟩ ⟨_,C7,rfl⟩ noFill_tuple_add seq_tuple_add Yb YW (YU _ _)
   (tuple_addW1 t b vs.toArray ws.toArray n n2 dd Gn sl Ey (by simpa using hv) (by simp[hw])) ⟨ho,C7,h1 hw⟩
 ·refine concat_meets ⟨_,ho,rfl⟩ ⟨_,C7,rfl⟩ noFill_tuple_add seq_tuple_add Yb YW (YU _ _)
    (tuple_addW2 t b vs.toArray ws.toArray n n2 dd Gn sl Ey (by simpa using hv) (by simpa using hw) (by rw[wP,wP];exact oh)) ⟨ho,C7,?_⟩
  rw[e]
  exact h2 hw
def iX(n d:Nat):Option Int->Nat
 |none=>d
 |some v=>if v<0 then(v+(n:Int)).toNat else min v.toNat n
theorem Nc(n d:Nat)(hd:d<=n)(o:Option Int):iX n d o<=n:=by
 cases o with
 |none=>exact hd
 |some v=>
  show(if v<0 then(v+(n:Int)).toNat else min v.toNat n)<=n
  by_cases hv:v<0
  ·rw[if_pos hv];omega
  ·rw[if_neg hv];exact Nat.min_le_right _ _
theorem C8(v:Int)(n d:Nat):(if v<0 then max (v+(n:Int)) 0 else min v (n:Int))=((iX n d (some v):Nat):Int):=by
 show(if v<0 then max (v+(n:Int)) 0 else min v (n:Int))=(((if v<0 then(v+(n:Int)).toNat else min v.toNat n):Nat):Int)
 by_cases hv:v<0
 ·simp only[if_pos hv];omega
 ·simp only[if_neg hv];omega
theorem Bq(lo hi:Option Int)(n:Nat):Builtin.Slice.sliceAdjust lo hi 1 (n:Int)=(((iX n 0 lo:Nat):Int),((iX n n hi:Nat):Int)):=by
 have h1:¬((1:Int)<0):=by omega
 unfold Builtin.Slice.sliceAdjust
 simp only[h1,if_false]
 refine Prod.ext ?_ ?_
 ·cases lo with
  |none=>rfl
  |some v=>exact C8 v n 0
 ·cases hi with
  |none=>rfl
  |some v=>exact C8 v n n
theorem Br(i j:Nat):Builtin.Slice.slicePlaces (i:Int) (j:Int) 1=j-i:=by
 unfold Builtin.Slice.slicePlaces
 have h1:(1:Int)>0:=by omega
 simp only[h1,if_true,Int.ediv_one]
 split<;>omega
theorem ui{v:Value}{o:Option Int}{Q:Option Int->Shared->Prop}(p:IsPart v o)(h:Q o s):wpAny (model prog w) A (Builtin.Slice.slicePartIndex v) Q E s:=by
 cases p with
 |none=>exact slicePart_none h
 |int i t=>exact slicePart_int h
theorem qV{sl:Addr}{vl vu:Value}{lo hi:Option Int}{n:Nat}{Q:Int×Int×Nat->Shared->Prop}(hs:s.heap.IsSliceOf sl vl vu .none)(pl:IsPart vl lo)(pu:IsPart vu hi)
  (h:Q (((iX n 0 lo:Nat):Int),1,iX n n hi-iX n 0 lo) s):wpAny (model prog w) A (Builtin.Slice.sliceApplied (.ref sl) (pure (n:Int))) Q E s:=by
 obtain⟨os,Gp,sT,JW⟩:=id hs
 unfold Builtin.Slice.sliceApplied Builtin.Slice.sliceFields
 refine wpAny_bind (wpAny_bind (wpAny_field Gp JW (x:=vl) rfl (wpAny_bind (wpAny_field Gp JW (x:=vu) rfl (wpAny_bind (wpAny_field Gp JW (x:=.none) rfl (wpAny_pure ?_)))))))
 refine wpAny_bind (slicePart_none ?_)
 show wpAny _ _ (if((1:Int)==0)=true then _ else _) _ _ s
 rw[if_neg (by decide)]
 refine wpAny_bind (ui pl (wpAny_bind (ui pu (wpAny_bind (wpAny_pure ?_)))))
 show wpAny _ _ (match Builtin.Slice.sliceAdjust lo hi 1 (n:Int)with|(lo,hi)=>pure (lo,(1:Int),Builtin.Slice.slicePlaces lo hi 1)) _ _ s
 rw[Bq lo hi n]
 show wpAny _ _ (pure (((iX n 0 lo:Nat):Int),(1:Int),Builtin.Slice.slicePlaces ((iX n 0 lo:Nat):Int) ((iX n n hi:Nat):Int) 1)) _ _ s
 rw[Br]
 exact wpAny_pure h
theorem Gq(xs:Array Value)(i k:Nat):((List.range k).filterMap λ(m:Nat)=>xs[((i:Int)+(m:Int)*1).toNat]?).toArray=((xs.toList.drop i).take k).toArray:=by
 have e:(λ(m:Nat)=>xs[((i:Int)+(m:Int)*1).toNat]?)=λm=>xs[i+m]?:=by
  funext m
  have:((i:Int)+(m:Int)*1).toNat=i+m:=by omega
  rw[this]
 rw[e]
 have:=pick_run xs i k
 rw[List.filterMap_map]at this
 have e2:((λx=>xs[x]?)∘λx=>i+x)=λm=>xs[i+m]?:=rfl
 rw[e2]at this
 rw[this]
theorem pM{t sl:Addr}{items:Array Value}{vl vu:Value}{lo hi:Option Int}{Q:Value->Shared->Prop}(ht:IsTup s.heap t items)(hs:s.heap.IsSliceOf sl vl vu .none)(pl:IsPart vl lo)(pu:IsPart vu hi)
  (hw:¬(iX items.size 0 lo=0/\iX items.size items.size hi=items.size))
  (h:Q (.ref s.heap.objs.size) {s with heap:=s.heap.push {cls:=.type "tuple",data:=.seq ((items.toList.drop (iX items.size 0 lo)).take (iX items.size items.size hi-iX items.size 0 lo)).toArray}})
  (oh:items.size<=sizeLine):wpAny (model prog w) A (getItem (.ref t) (.ref sl)) Q E s:=by
 have pN:sizeOk (.seq ((items.toList.drop (iX items.size 0 lo)).take (iX items.size items.size hi-iX items.size 0 lo)).toArray):=by
  show((items.toList.drop (iX items.size 0 lo)).take (iX items.size items.size hi-iX items.size 0 lo)).toArray.size<=sizeLine
  rw[wP,ZM,ZY,v4]
  omega
 have hj:iX items.size items.size hi<=items.size:=Nc _ _ (wr _) hi
 obtain⟨os,Gp,sT,JW⟩:=id hs
 have S4:s.TypeIs (.ref sl) "slice" :=⟨os,Gp,sT⟩
 unfold getItem
 try with_reducible refine wpAny_holding ?_
 first|refine wpAny_bind (wpAny_pure ?_)|skip
 refine wpAny_bind (wpAny_sequenceKey ht.typeIs (by decide) ?_)
 refine wpAny_bind (wpAny_callSpecial?_slot (name:=Str.ofString "__getitem__") ht.typeIs PyProof.Rows.slot_tuple_getitem
  (wpAny_call_entry PyProof.Rows.slot_tuple_getitem ht.typeIs entry_tuple_getitem ?_ (args_tuple_getitem _ _)))
 show wpAny _ _ (Builtin.Tuple.tupleItemsOf (.ref t)>>=_) _ _ s
 refine wpAny_bind (tupleItemsOf_ ht ?_)
 refine wpAny_bind (wpAny_typeOf S4 ?_)
 rw[if_pos (by decide)]
 refine wpAny_bind (qV hs pl pu ?_)
 have S5:¬((((iX items.size 0 lo:Nat):Int)==0&&(1:Int)==1&&(iX items.size items.size hi-iX items.size 0 lo)==items.size)=true):=by
  intro q
  rw[re,re]at q
  have q1:((iX items.size 0 lo:Nat):Int)=0:=eq_of_beq q.1.1
  have q2:iX items.size items.size hi-iX items.size 0 lo=items.size:=eq_of_beq q.2
  exact hw ⟨by omega,by omega⟩
 show wpAny _ _ (if(((iX items.size 0 lo:Nat):Int)==0&&(1:Int)==1&&(iX items.size items.size hi-iX items.size 0 lo)==items.size)=true then _ else _) _ _ s
 rw[if_neg S5,Gq]
 first
  |exact wpAny_bind (m:=Builtin.Tuple.tupleExact _) (wpAny_newObj_type (wpAny_pure ⟨_,rfl,wpAny_pure h⟩) pN)
  |exact wpAny_bind (m:=Builtin.Tuple.tupleExact _) (wpAny_newObj_type (wpAny_bind (wpAny_pure (wpAny_pure ⟨_,rfl,wpAny_pure h⟩))) pN)
  |exact wpAny_bind (wpAny_bind (m:=Builtin.Tuple.tupleExact _) (wpAny_newObj_type (wpAny_pure (wpAny_pure ⟨_,rfl,wpAny_pure h⟩)) pN))
  |exact wpAny_bind (wpAny_bind (m:=Builtin.Tuple.tupleExact _) (wpAny_newObj_type (wpAny_pure ⟨_,rfl,wpAny_pure h⟩) pN))
end
end HT
namespace L2
open PySem PySem.Spec PyProof.Rows
abbrev TO:=St->Hp->(Option Int->Hp->Prop)->Prop
def PO(X:Cx)(e:Option Expr)(t:TO):Prop:=
 ∀(pins:List (Addr×Obj)) (s:Shared) (σ:St) (H:Hp) (Q:Option Int->Hp->Prop),Inv X pins σ H s->t σ H Q->
  wpAny (model X.prog X.w) X.A (evalPart e X.env) (λu s'=>∃o H',Inv X pins σ H' s'/\IsPart u o/\Q o H') X.xe s
def JX:TO:=λ_ H Q=>Q none H
def Qk(t:TE):TO:=λσ H Q=>t σ H λx H1=>∃i,x=.int i/\Q (some i) H1
theorem intsAre_of{ns:List Int}:∀{us:List Value},Vals (ns.map V.int) us->IntsAre us ns:=by
 induction ns with
 |nil=>intro us r;rw[X8]at r;cases r;exact .nil
 |cons n ns ih=>
  intro us r
  rw[ZC]at r
  cases r with
  |cons r1 r2=>
   obtain⟨t,e⟩:=r1
   subst e
   exact .cons n t (ih r2)
section
variable{X:Cx}{e:Expr}{te:TE}{lo hi:Option Expr}{tl th:TO}{pos p2:Pos}
theorem JY:PO X none JX:=by
 intro pins s σ H Q I h
 rw[evalPart_none]
 exact wpAny_pure ⟨none,H,I,.none,h⟩
theorem JZ(h:PE X e te):PO X (some e) (Qk te):=by
 intro pins s σ H Q I hw
 rw[evalPart_some]
 refine dH (h pins s σ H _ I hw) λu s1 cw=>?_
 obtain⟨x,H1,I1,r1,q1⟩:=cw
 obtain⟨i,rfl,q⟩:=q1
 obtain⟨t,rfl⟩:=r1
 exact⟨some i,H1,I1,.int i t,q⟩
def LP(X:Cx)(r:V->Option Int->Option Int->Hp->VK->Prop):Prop:=
 ∀(pins:List (Addr×Obj)) (s:Shared) (σ:St) (H:Hp) (x:V) (v vl vu:Value) (lo hi:Option Int) (sl:Addr) (Q:VK),Inv X pins σ H s->RelV x v->s.heap.IsSliceOf sl vl vu .none->IsPart vl lo->IsPart vu hi->r x lo hi H Q->
  ∃T id,typeLookup (.type T) "__getitem__" =pure (some (.builtin id))/\s.TypeIs v T/\wpAny (model X.prog X.w) X.A (getItem v (.ref sl)) (EP X pins σ Q) X.xe s
theorem LP.or{r r':V->Option Int->Option Int->Hp->VK->Prop}(h:LP X r)(h':LP X r'):LP X (λx lo hi H Q=>r x lo hi H Q\/r' x lo hi H Q):=by
 intro pins s σ H x v vl vu lo hi sl Q I rx hs pl pu q
 rcases q with q|q
 ·exact h pins s σ H x v vl vu lo hi sl Q I rx hs pl pu q
 ·exact h' pins s σ H x v vl vu lo hi sl Q I rx hs pl pu q
def VF(r:V->Option Int->Option Int->Hp->VK->Prop)(te:TE)(tl th:TO):TE:=λσ H Q=>te σ H λx H1=>tl σ H1 λl H2=>th σ H2 λu H3=>r x l u H3 Q
theorem uj{r:V->Option Int->Option Int->Hp->VK->Prop}(hr:LP X r)(he:PE X e te)(hl:PO X lo tl)(hu:PO X hi th):PE X (.Subscript e (.Slice lo hi none p2) pos) (VF r te tl th):=by
 intro pins s σ H Q I h
 refine Subscript_ (dH (he pins s σ H _ I h) λv s1 cw=>?_)
 obtain⟨x,H1,I1,r1,q1⟩:=cw
 refine wpAny_Slice (dH (hl pins s1 σ H1 _ I1 q1) λvl s2 ⟨l,H2,I2,pl,q2⟩=>dH (hu pins s2 σ H2 _ I2 q2) λvu s3 cw=>?_)
 obtain⟨u,H3,I3,pu,q3⟩:=cw
 rw[evalPart_none]
 refine wpAny_pure ?_
 have I4:Inv X pins σ H3 {s3 with heap:=s3.heap.push {cls:=.type "slice",data:=.fields #[vl,vu,.none]}}:=I3.kept (t':=s3.toks) λb ob q=>wp _ q
 obtain⟨T,id,hT,ht,hg⟩:=hr pins {s3 with heap:=s3.heap.push {cls:=.type "slice",data:=.fields #[vl,vu,.none]}} σ H3 x v vl vu l u s3.heap.objs.size Q I4 r1 (Heap.IsSliceOf.new ..) pl pu q3
 show wpAny (model X.prog X.w) X.A (subscriptTail e (.Slice lo hi none p2) v (.ref s3.heap.objs.size)) (EP X pins σ Q) X.xe {s3 with heap:=s3.heap.push {cls:=.type "slice",data:=.fields #[vl,vu,.none]}}
 exact tail_any (ops:=[.ref s3.heap.objs.size,v]) ht hT hg (by with_unfolding_all rfl)
def zi(xs:List V)(lo hi:Option Int):List V:=(xs.drop (HT.iX xs.length 0 lo)).take (HT.iX xs.length xs.length hi-HT.iX xs.length 0 lo)
theorem rZ(xs:List V)(lo hi:Option Int):(zi xs lo hi).length<=xs.length:=by
 unfold zi
 rw[ZM,ZY]
 omega
def S6(K:PySem.W.Frag):V->Option Int->Option Int->Hp->VK->Prop:=λx lo hi H Q=>∃a xs,x=.ref a/\kC K H a xs/\
 ¬(HT.iX xs.length 0 lo=0/\HT.iX xs.length xs.length hi=xs.length)/\∀p,H p=none->Q (.ref p) (upd H p (.tup (zi xs lo hi)))
theorem Nd:LP X (S6 X.K):=by
 intro pins s σ H x v vl vu lo hi sl Q I rx hs pl pu h
 obtain⟨a,xs,rfl,hx,hw,q⟩:=h
 cases rx
 obtain⟨its,r,ht,hz⟩:=I.tuple hx
 have hlen:its.toArray.size=xs.length:=by rw[wP];exact r.length.symm
 refine⟨"tuple",_,PyProof.Rows.slot_tuple_getitem.lookup,ht.typeIs,?_⟩
 refine HT.pM ht hs pl pu (by rw[hlen];exact hw) ?_ (by rw[hlen];exact hz)
 rw[hlen]
 refine⟨.ref s.heap.objs.size,_,I.laid (t':=s.toks) (o:=.tup (zi xs lo hi)) (λb ob q=>wp _ q) (wr _) ?_,rfl,q _ (I.dE.fresh (wr _))⟩
 exact⟨⟨ZB (rZ xs lo hi) hz,JF.new⟩,_,(r.drop (HT.iX xs.length 0 lo)).take (HT.iX xs.length xs.length hi-HT.iX xs.length 0 lo),IsTup.new _ _⟩
def Ql(K:PySem.W.Frag):R2:=λx y H Q=>∃a b xs ys,x=.ref a/\y=.ref b/\kC K H a xs/\kC K H b ys/\xs≠[]/\xs.length+ys.length<=sizeLine/\
 (ys=[]->Q (.ref a) H)/\(ys≠[]->∀p,H p=none->Q (.ref p) (upd H p (.tup (xs++ys))))
theorem Vals.xw{xs:List V}{us:List Value}(r:Vals xs us):us=[]↔xs=[]:=by
 cases r with
 |nil=>simp
 |cons _ _=>simp
theorem J1:mn X (binaryOp .Add) (Ql X.K):=by
 intro pins s σ H x y v u Q I rx ry h
 obtain⟨a,b,xs,ys,rfl,rfl,ha,hb,hx,hz,q1,q2⟩:=h
 cases rx
 cases ry
 obtain⟨its,r1,p1,_⟩:=I.tuple ha
 obtain⟨mq,r2,p2,_⟩:=I.tuple hb
 refine HT.JV p1 p2 (λz=>hx (r1.xw.mp z)) (λz=>⟨.ref a,H,I,rfl,q1 (r2.xw.mp z)⟩) (λz=>?_) (by rw[<-r1.length,<-r2.length];exact hz)
 refine⟨.ref s.heap.objs.size,_,I.laid (t':=s.toks) (o:=.tup (xs++ys)) (λb ob q=>wp _ q) (wr _) ?_,rfl,q2 (λw=>z (r2.xw.mpr w)) _ (I.dE.fresh (wr _))⟩
 exact⟨⟨by rw[ZD];exact hz,JF.new⟩,_,r1.append r2,IsTup.new _ _⟩
end
def R1(n:Nat)(i:Int):Option Nat:=if 0<=i then(if i<n then some i.toNat else none)else if-(n:Int)<=i then some (i+n).toNat else none
def Nf{α:Type}(xs:List α)(i:Int):Option α:=(R1 xs.length i).bind λj=>xs[j]?
theorem J2{n:Nat}{i:Int}{j:Nat}(h:R1 n i=some j):seqIndex? i n=some j/\j<n/\-(n:Int)<=i/\i<n:=by
 unfold R1 at h
 by_cases h0:0<=i
 ·rw[if_pos h0]at h
  by_cases h1:i<n
  ·rw[if_pos h1]at h
   have e:i.toNat=j:=ZO h
   exact⟨by rw[seqIndex_of h0 h1,e],by omega,by omega,h1⟩
  ·rw[if_neg h1]at h;cases h
 ·rw[if_neg h0]at h
  by_cases h1:-(n:Int)<=i
  ·rw[if_pos h1]at h
   have e:(i+n).toNat=j:=ZO h
   exact⟨by rw[seqIndex_neg (by omega) h1,e],by omega,h1,by omega⟩
  ·rw[if_neg h1]at h;cases h
theorem xx{α:Type}{xs:List α}{i:Int}{v:α}(h:Nf xs i=some v):∃j,seqIndex? i xs.length=some j/\xs[j]?=some v/\j<xs.length/\-(xs.length:Int)<=i/\i<xs.length:=by
 unfold Nf at h
 cases e:R1 xs.length i with
 |none=>rw[e]at h;cases h
 |some j=>
  rw[e]at h
  obtain⟨h1,h2,h3,h4⟩:=J2 e
  exact⟨j,h1,h,h2,h3,h4⟩
def C9(b:Expr):Prop:=∀o i,subscripted b false o i=operate [o,i] (getItem o i)
def J3(X:Cx)(r:R2):Prop:=
 ∀(value slice:Expr) (pins:List (Addr×Obj)) (s:Shared) (σ:St) (H:Hp) (x y:V) (v u:Value) (Q:VK),Inv X pins σ H s->RelV x v->RelV y u->r x y H Q->
  subscripted slice false v u=operate [v,u] (getItem v u)->wpAny (model X.prog X.w) X.A (subscriptTail value slice v u) (EP X pins σ Q) X.xe s
def Pd(X:Cx)(id:String)(r:V->List V->Hp->VK->Prop):Prop:=
 ∀(pins:List (Addr×Obj)) (s:Shared) (σ:St) (H:Hp) (x:V) (xs:List V) (v:Value) (us:List Value) (Q:VK),Inv X pins σ H s->RelV x v->Vals xs us->r x xs H Q->
  wpAny (model X.prog X.w) X.A (call (.builtin id) (v::us)) (EP X pins σ Q) X.xe s
section
variable{X:Cx}{a b:Expr}{ta tb:TE}{pos:Pos}
theorem J3.or{r r':R2}(h:J3 X r)(h':J3 X r'):J3 X (λx y H Q=>r x y H Q\/r' x y H Q):=by
 intro value slice pins s σ H x y v u Q I rx ry q hs
 rcases q with q|q
 ·exact h value slice pins s σ H x y v u Q I rx ry q hs
 ·exact h' value slice pins s σ H x y v u Q I rx ry q hs
theorem Qm{r:R2}(hr:J3 X r)(ha:PE X a ta)(hb:PE X b tb)(hs:C9 b):PE X (.Subscript a b pos) (P2 r ta tb):=by
 intro pins s σ H Q I h
 exact Subscript_ (MX ha hb I h λv u s2 x y H2 I2 rx ry q=>hr a b pins s2 σ H2 x y v u Q I2 rx ry q (hs _ _))
def Qn(K:PySem.W.Frag):R2:=λx y H Q=>∃p xs i v,x=.ref p/\y=.int i/\mj K H p xs/\Nf xs i=some v/\Q v H
def Qo(K:PySem.W.Frag):R2:=λx y H Q=>∃p xs i v,x=.ref p/\y=.int i/\kC K H p xs/\Nf xs i=some v/\Q v H
def Qp:R2:=λx y H Q=>∃z i c,x=.str z/\y=.int i/\z.length<=sizeLine/\Nf z.cps.toList i=some c/\Q (.str ⟨#[c]⟩) H
theorem J4:J3 X (Qn X.K):=by
 intro value slice pins s σ H x y v u Q I rx ry h hs
 obtain⟨p,xs,i,z,rfl,rfl,hq,he,q⟩:=h
 cases rx
 obtain⟨t,rfl⟩:=ry
 obtain⟨its,r,pl,hz⟩:=I.list hq
 obtain⟨j,h1,h2,h3,h4,h5⟩:=xx he
 obtain⟨w,ew,S7⟩:=r.get h2
 have hl:=r.length
 have hn:=ud
 have fin:EP X pins σ Q w s:=⟨z,H,I,S7,q⟩
 by_cases h0:0<=i
 ·have hj:i.toNat=j:=by
    rw[seqIndex_of h0 h5]at h1
    exact ZO h1
  exact item_listR pl.isList h0 (by omega) (by rw[hj];simpa using ew) fin hs
 ·have hj:(i+(its.toArray.size:Int)).toNat=j:=by
    rw[seqIndex_neg (by omega) h4]at h1
    rw[wP,<-hl]
    exact ZO h1
  exact subscriptTail_builtinR (x:=w) pl.isList.typeIs slot_list_getitem.lookup
   (wpAny_getItem_list_neg (Q:=λr s'=>r=w/\EP X pins σ Q r s') pl.isList (by omega) (by rw[wP]<;>omega) (by omega) (by rw[hj];simpa using ew) ⟨rfl,fin⟩) hs
theorem Ng:J3 X (Qo X.K):=by
 intro value slice pins s σ H x y v u Q I rx ry h hs
 obtain⟨p,xs,i,z,rfl,rfl,hq,he,q⟩:=h
 cases rx
 obtain⟨t,rfl⟩:=ry
 obtain⟨its,r,pl,hz⟩:=I.tuple hq
 obtain⟨j,h1,h2,h3,h4,h5⟩:=xx he
 obtain⟨w,ew,S7⟩:=r.get h2
 have hl:=r.length
 have hn:=ud
 have fin:EP X pins σ Q w s:=⟨z,H,I,S7,q⟩
 exact subscriptTail_builtinR (x:=w) pl.typeIs slot_tuple_getitem.lookup
  (getItem_tuple (j:=j) (Q:=λr s'=>r=w/\EP X pins σ Q r s') pl (by omega) (by omega) (by rw[wP,<-hl];exact h1) (by simpa using ew) ⟨rfl,fin⟩) hs
theorem Nh:J3 X Qp:=by
 intro value slice pins s σ H x y v u Q I rx ry h hs
 obtain⟨z,i,c,rfl,rfl,hz,he,q⟩:=h
 obtain⟨t,rfl⟩:=rx
 obtain⟨t',rfl⟩:=ry
 obtain⟨j,h1,h2,h3,h4,h5⟩:=xx he
 have hl:z.cps.toList.length=z.length:=by simp[Str.length]
 rw[hl]at h1 h4 h5
 have hn:=ud
 exact tail_any (typeIs_str s z t) slot_str_getitem.lookup (getItem_str (c:=c) (by
  have e1:decide (i< -(2^63:Int))=false:=decide_eq_false (by omega)
  have e2:decide (i≥2^63)=false:=decide_eq_false (by omega)
  rw[e1,e2,X4]) (by rw[h1];simpa using h2) ⟨.str ⟨#[c]⟩,H,I.tok _,⟨_,rfl⟩,q⟩) hs
def VG(K:PySem.W.Frag):R2:=λx y H Q=>Qn K x y H Q\/Qo K x y H Q\/Qp x y H Q
theorem Ni:J3 X (VG X.K):=J4.or (Ng.or Nh)
theorem xy(lo hi:Option Int)(n:Nat):(sliceBounds lo hi none n).1=((HT.iX n 0 lo:Nat):Int)/\(sliceBounds lo hi none n).2.1=((HT.iX n n hi:Nat):Int)/\(sliceBounds lo hi none n).2.2=1:=by
 refine⟨?_,?_,rfl⟩
 ·cases lo with
  |none=>simp[sliceBounds,HT.iX]
  |some i=>
   simp only[sliceBounds,HT.iX,Option.getD_none,show(1:Int)>0 by decide,if_true]
   by_cases h:i<0
   ·simp only[h,if_true]<;>omega
   ·simp only[h,if_false]<;>omega
 ·cases hi with
  |none=>simp[sliceBounds,HT.iX]
  |some i=>
   simp only[sliceBounds,HT.iX,Option.getD_none,show(1:Int)>0 by decide,if_true]
   by_cases h:i<0
   ·simp only[h,if_true]<;>omega
   ·simp only[h,if_false]<;>omega
theorem vK(its:List Value)(lo hi:Option Int):slicePick its.toArray lo hi none=((its.drop (HT.iX its.length 0 lo)).take (HT.iX its.length its.length hi-HT.iX its.length 0 lo)).toArray:=by
 obtain⟨h1,h2,h3⟩:=xy lo hi its.toArray.size
 unfold slicePick
 rw[h1,h2,h3]
 simp only[sliceRange_one,pick_run,wP]<;>rfl
def S8(K:PySem.W.Frag):V->Option Int->Option Int->Hp->VK->Prop:=λx lo hi H Q=>∃a xs,x=.ref a/\mj K H a xs/\∀p,H p=none->Q (.ref p) (upd H p (.lst (zi xs lo hi)))
theorem Dc:LP X (S8 X.K):=by
 intro pins s σ H x v vl vu lo hi sl Q I rx hs pl pu h
 obtain⟨a,xs,rfl,hx,q⟩:=h
 cases rx
 obtain⟨its,r,ht,hz⟩:=I.list hx
 have hlen:=r.length
 refine⟨"list",_,slot_list_getitem.lookup,ht.isList.typeIs,?_⟩
 refine wpAny_getItem_list_slice ht.isList hs pl pu .none (by simp) ?_ (by rw[wP]<;>omega)
 rw[vK,<-hlen]
 refine⟨.ref s.heap.objs.size,_,I.laid (t':=s.toks) (o:=.lst (zi xs lo hi)) (λb ob q=>wp _ q) (wr _) ?_,rfl,q _ (I.dE.fresh (wr _))⟩
 exact⟨ZB (rZ xs lo hi) hz,_,0,(r.drop (HT.iX xs.length 0 lo)).take (HT.iX xs.length xs.length hi-HT.iX xs.length 0 lo),ZH _ rfl⟩
def jx:V->Bool
 |.non=>true
 |.bl _=>true
 |.int _=>true
 |.str _=>true
 |_=>false
def FN:V->V->Bool
 |.non,.non=>true
 |.bl a,.bl b=>a==b
 |.bl a,.int b=>(if a then 1 else 0)==b
 |.int a,.bl b=>a==(if b then 1 else 0)
 |.int a,.int b=>a==b
 |.str a,.str b=>a==b
 |_,_=>false
theorem Gr{A:Around}{s:Shared}{y x:V}{u v:Value}(ry:RelV y u)(rx:RelV x v)(fy:jx y=true)(fx:jx x=true):SeqAt.EqAt A s u v (FN y x):=by
 cases y with
 |non=>
  cases ry
  cases x with
  |non=>cases rx;exact SeqAt.EqAt.same _
  |bl b=>cases rx;exact SeqAt.EqAt.none_bool b
  |int b=>obtain⟨t,rfl⟩:=rx;exact SeqAt.EqAt.none_int b t
  |str b=>obtain⟨t,rfl⟩:=rx;exact SeqAt.EqAt.none_str b t
  |_=>exact absurd (show false=true from fx) sw
 |bl a=>
  cases ry
  cases x with
  |non=>cases rx;exact SeqAt.EqAt.bool_none a
  |bl b=>cases rx;exact SeqAt.EqAt.bool_bool a b
  |int b=>obtain⟨t,rfl⟩:=rx;exact SeqAt.EqAt.bool_int a b t
  |str b=>obtain⟨t,rfl⟩:=rx;exact SeqAt.EqAt.bool_str a b t
  |_=>exact absurd (show false=true from fx) sw
 |int a=>
  obtain⟨t',rfl⟩:=ry
  cases x with
  |non=>cases rx;exact SeqAt.EqAt.int_none a t'
  |bl b=>cases rx;exact SeqAt.EqAt.int_bool a t' b
  |int b=>obtain⟨t,rfl⟩:=rx;exact SeqAt.EqAt.int_int a t' b t
  |str b=>obtain⟨t,rfl⟩:=rx;exact SeqAt.EqAt.int_str a t' b t
  |_=>exact absurd (show false=true from fx) sw
 |str a=>
  obtain⟨t',rfl⟩:=ry
  cases x with
  |non=>cases rx;exact SeqAt.EqAt.str_none a t'
  |bl b=>cases rx;exact SeqAt.EqAt.str_bool a t' b
  |int b=>obtain⟨t,rfl⟩:=rx;exact SeqAt.EqAt.str_int a t' b t
  |str b=>obtain⟨t,rfl⟩:=rx;exact SeqAt.EqAt.str_str a t' b t
  |_=>exact absurd (show false=true from fx) sw
 |_=>exact absurd (show false=true from fy) sw
def Bt(x:V)(u:Value):Bool:=match u with
 |.none=>FN .non x
 |.bool b=>FN (.bl b) x
 |.int i _=>FN (.int i) x
 |.str z _=>FN (.str z) x
 |_=>false
theorem Gu{x y:V}{u:Value}(r:RelV y u)(f:jx y=true):Bt x u=FN y x:=by
 cases y with
 |non=>cases r;rfl
 |bl b=>cases r;rfl
 |int i=>obtain⟨t,rfl⟩:=r;rfl
 |str z=>obtain⟨t,rfl⟩:=r;rfl
 |_=>exact absurd (show false=true from f) sw
theorem pO{x:V}:∀{xs:List V} {us:List Value},Vals xs us->xs.all jx=true->us.any (Bt x)=xs.any λy=>FN y x
 |_,_,.nil,_=>rfl
 |y::xs,u::us,.cons r t,f=>by
  rw[Yd,re]at f
  rw[Z5,Z5,Gu r f.1,pO t f.2]
theorem mC{A:Around}{s:Shared}{x:V}{v:Value}(rx:RelV x v)(fx:jx x=true):∀{xs:List V} {us:List Value},Vals xs us->xs.all jx=true->∀u∈us,SeqAt.EqAt A s u v (Bt x u)
 |_,_,.nil,_=>λu hu=>by cases hu
 |y::xs,u::us,.cons r t,f=>λu' hu=>by
  rw[Yd,re]at f
  rcases ZJ.mp hu with rfl|hu
  ·rw[Gu r f.1];exact Gr r rx f.1 fx
  ·exact mC rx fx t f.2 u' hu
def R3(x:V)(xs:List V):Bool:=xs.any λy=>FN y x
def R4(K:PySem.W.Frag)(neg:Bool):R2:=λx y H Q=>∃p xs,y=.ref p/\(mj K H p xs\/kC K H p xs)/\jx x=true/\xs.all jx=true/\Q (.bl (if neg then !R3 x xs else R3 x xs)) H
theorem Ez:mn X (compareOp .In) (R4 X.K false):=by
 intro pins s σ H x y v u Q I rx ry h
 obtain⟨p,xs,rfl,hq,fx,fs,q⟩:=h
 cases ry
 rcases hq with hq|hq
 ·obtain⟨its,r,pl,hz⟩:=I.list hq
  refine SeqAt.in_listAt (Bt x) pl.isList (λw hw=>mC rx fx r fs w (by simpa using hw)) ⟨.bl _,H,I,rfl,?_⟩
  rw[show its.toArray.any (Bt x)=its.any (Bt x) by simp,pO r fs]
  exact q
 ·obtain⟨its,r,pl,hz⟩:=I.tuple hq
  refine SeqAt.in_tupleAt (Bt x) pl (λw hw=>mC rx fx r fs w (by simpa using hw)) ⟨.bl _,H,I,rfl,?_⟩
  rw[show its.toArray.any (Bt x)=its.any (Bt x) by simp,pO r fs]
  exact q
theorem xA:mn X (compareOp .NotIn) (R4 X.K true):=by
 intro pins s σ H x y v u Q I rx ry h
 obtain⟨p,xs,rfl,hq,fx,fs,q⟩:=h
 cases ry
 rcases hq with hq|hq
 ·obtain⟨its,r,pl,hz⟩:=I.list hq
  refine SeqAt.notIn_listAt (Bt x) pl.isList (λw hw=>mC rx fx r fs w (by simpa using hw)) ⟨.bl _,H,I,rfl,?_⟩
  rw[show its.toArray.any (Bt x)=its.any (Bt x) by simp,pO r fs]
  exact q
 ·obtain⟨its,r,pl,hz⟩:=I.tuple hq
  refine SeqAt.notIn_tupleAt (Bt x) pl (λw hw=>mC rx fx r fs w (by simpa using hw)) ⟨.bl _,H,I,rfl,?_⟩
  rw[show its.toArray.any (Bt x)=its.any (Bt x) by simp,pO r fs]
  exact q
theorem pP:jw X (.builtin "len") (λxs H Q=>∃p ys,xs=[.ref p]/\(mj X.K H p ys\/kC X.K H p ys)/\Q (.int ys.length) H):=by
 intro pins s σ H xs us Q I r h
 obtain⟨p,ys,rfl,hq,q⟩:=h
 obtain⟨u,rfl,rx⟩:=vals1 r
 cases rx
 have hn:=ud
 rcases hq with hq|hq
 ·obtain⟨its,r',pl,hz⟩:=I.list hq
  have hlen:=r'.length
  exact Calls.call_len_list pl.isList (by simp only[wP]<;>omega) ⟨.int ys.length,H,I.tok _,⟨s.toks+1,by rw[wP,hlen]⟩,q⟩
 ·obtain⟨its,r',pl,hz⟩:=I.tuple hq
  have hlen:=r'.length
  exact len_tuple pl (by simp only[wP]<;>omega) ⟨.int ys.length,H,I.tok _,⟨s.toks+1,by rw[wP,hlen]⟩,q⟩
theorem xB:jw X (.builtin "len") (λxs H Q=>∃z,xs=[.str z]/\z.length<=sizeLine/\Q (.int z.length) H):=by
 intro pins s σ H xs us Q I r h
 obtain⟨z,rfl,hz,q⟩:=h
 obtain⟨u,rfl,t,rfl⟩:=vals1 r
 have hn:=ud
 exact len_str (by omega) ⟨.int z.length,H,I.tok _,⟨_,rfl⟩,q⟩
theorem jw.or{f:Value}{r r':List V->Hp->VK->Prop}(h:jw X f r)(h':jw X f r'):jw X f (λxs H Q=>r xs H Q\/r' xs H Q):=by
 intro pins s σ H xs us Q I rs q
 rcases q with q|q
 ·exact h pins s σ H xs us Q I rs q
 ·exact h' pins s σ H xs us Q I rs q
theorem ou:jw X (.type "tuple") (λxs H Q=>∃p ys,xs=[.ref p]/\((mj X.K H p ys/\∀l,H l=none->Q (.ref l) (upd H l (.tup ys)))\/(kC X.K H p ys/\Q (.ref p) H))):=by
 intro pins s σ H xs us Q I r h
 obtain⟨p,ys,rfl,h⟩:=h
 obtain⟨u,rfl,rx⟩:=vals1 r
 cases rx
 rcases h with⟨hq,q⟩|⟨hq,q⟩
 ·obtain⟨its,r',pl,hz⟩:=I.list hq
  have hlen:=r'.length
  refine call_tuple_list pl.isList (λh' kp=>?_) (by simp only[wP]<;>omega)
  have I1:Inv X pins σ H {s with heap:=h'}:=I.kept (t':=s.toks) kp
  have I2:Inv X pins σ (upd H h'.objs.size (.tup ys)) {s with heap:=h'.push {cls:=.type "tuple",data:=.seq its.toArray}}:=
   I1.laid (t':=s.toks) (λb o e=>wp _ e) (wr _) (show fv X.prog X.w _ _ _ (.tup ys)from⟨⟨hz,JF.new⟩,its,r',IsTup.new _ _⟩)
  exact⟨.ref h'.objs.size,_,I2,rfl,q _ (I1.dE.fresh (wr _))⟩
 ·obtain⟨its,r',pl,hz⟩:=I.tuple hq
  exact call_tuple_same pl ⟨.ref p,H,I,rfl,q⟩
def S9(K:PySem.W.Frag)(T:String)(x:V)(H:Hp):Prop:=match x with
 |.str _=>T= "str"
 |.int _=>T= "int"
 |.ref p=>(T= "list" /\∃xs,mj K H p xs)\/(T= "tuple" /\∃o,K.lookup p=some o/\o.cls=.type "tuple" /\o.dict=none)\/
   (T= "dict" /\((∃qK,H p=some (.dK qK))\/∃qK,H p=some (.dT qK)))\/(T= "set" /\∃S n,H p=some (.set S n))
 |_=>False
theorem Gv{pins:List (Addr×Obj)}{σ:St}{H:Hp}{s:Shared}{T:String}{x:V}{v:Value}(I:Inv X pins σ H s)(r:RelV x v)(ty:S9 X.K T x H):
  s.TypeIs v T/\∀a,v=.ref a->∃ob,s.heap.get? a=some ob/\ob.dict=none:=by
 cases x with
 |str z=>
  obtain⟨t,rfl⟩:=r
  cases(show T= "str" from ty)
  exact⟨typeIs_str s z t,λ_ e=>nomatch e⟩
 |int i=>
  obtain⟨t,rfl⟩:=r
  cases(show T= "int" from ty)
  exact⟨typeIs_int s i t,λ_ e=>nomatch e⟩
 |ref p=>
  cases r
  rcases ty with⟨rfl,xs,hq⟩|⟨rfl,o,hk,hc,hd⟩|⟨rfl,hk⟩|⟨rfl,S,n,hk⟩
  ·obtain⟨its,_,pl,_⟩:=I.list hq
   refine⟨pl.isList.typeIs,λa e=>?_⟩
   cases e
   obtain⟨o,n,e,c,hd,_⟩:=pl
   exact⟨o,e,hd⟩
  ·refine⟨⟨o,I.k8 p o hk,hc⟩,λa e=>?_⟩
   cases e
   exact⟨o,I.k8 _ o hk,hd⟩
  ·have z:∃o,s.heap.get? p=some o/\o.ExactDict:=by
     rcases hk with⟨qK,hk⟩|⟨qK,hk⟩
     ·obtain⟨_,_,_,_,o,_,_,e,ex,_⟩:=I.dE p _ hk
      exact⟨o,e,ex⟩
     ·obtain⟨_,_,_,_,o,_,_,e,ex,_⟩:=I.dE p _ hk
      exact⟨o,e,ex⟩
   obtain⟨o,e,ex⟩:=z
   refine⟨⟨o,e,ex.1⟩,λa e2=>?_⟩
   cases e2
   exact⟨o,e,ex.2.1⟩
  ·obtain⟨o,_,_,_,e,ex,_⟩:=I.dE p _ hk
   refine⟨⟨o,e,ex.1⟩,λa e2=>?_⟩
   cases e2
   exact⟨o,e,ex.2.1⟩
 |_=>exact False.elim ty
def Qq(K:PySem.W.Frag)(T:String)(r:V->List V->Hp->VK->Prop)(to:TE):TE:=λσ H Q=>to σ H λx H1=>S9 K T x H1/\r x [] H1 Q
def R5(K:PySem.W.Frag)(T:String)(r:V->List V->Hp->VK->Prop)(to:TE)(t:TA):TE:=λσ H Q=>to σ H λx H1=>S9 K T x H1/\t σ H1 λxs H2=>r x xs H2 Q
variable{o e:Expr}{es:List Expr}{to:TE}{t:TA}{name:Str}{apos eJ:Pos}{T id:String}{r:V->List V->Hp->VK->Prop}
theorem Gw(pa:PlainAttrs T)(slot:Slot T name id)(Ta:typeOf (.builtin id)=pure (.type "method_descriptor"))(hm:Pd X id r)(ho:PE X o to)
  (gq:attributeBase o name X.env (eval o X.env)=eval o X.env:=by rfl)(gr:(apos.endLine==eJ.line)=true:=by rfl):PE X (.Call (.Attribute o name apos) [] [] eJ) (Qq X.K T r to):=by
 intro pins s σ H Q I h
 refine wpAny_Call_method0_late gq gr (dH (ho pins s σ H _ I h) λv s1 cw=>?_)
 obtain⟨x,H1,I1,r1,ty,q1⟩:=cw
 obtain⟨h1,h2⟩:=Gv I1 r1 ty
 exact⟨T,id,pa,slot,Ta,h1,h2,Calls.callWith_builtin rfl (PySem.evalArgs_none (hm pins s1 σ H1 x [] v [] Q I1 r1 .nil q1))⟩
theorem Dd(pa:PlainAttrs T)(slot:Slot T name id)(Ta:typeOf (.builtin id)=pure (.type "method_descriptor"))(hm:Pd X id r)(ho:PE X o to)(ha:PA X (e::es) t)
  (gq:attributeBase o name X.env (eval o X.env)=eval o X.env:=by rfl)
  (qW:((backTo eJ (starEach (e::es) X.env)).all (λx=>!x.1)&&(backToKw eJ (keywordEach [] X.env)).all (λx=>x.1.isSome)
    &&decide ((e::es).length+([]:List Keyword).length+(if([]:List Keyword).isEmpty then 0 else 1)<30))=true:=by rfl)
  (gr:(apos.endLine==eJ.line)=true:=by rfl)(hs:starEach (e::es) X.env=(false,eval e X.env)::starEach es X.env:=by rfl)(Nj:(backTo eJ (starEach es X.env)).any (·.1)=false:=by rfl):
  PE X (.Call (.Attribute o name apos) (e::es) [] eJ) (R5 X.K T r to t):=by
 intro pins s σ H Q I h
 refine wpAny_Call_method_late gq qW gr rfl (dH (ho pins s σ H _ I h) λv s1 cw=>?_)
 obtain⟨x,H1,I1,r1,ty,q1⟩:=cw
 obtain⟨h1,h2⟩:=Gv I1 r1 ty
 refine⟨T,id,pa,slot,Ta,h1,h2,?_⟩
 have hA:=ha eJ pins s1 σ H1 _ I1 q1
 rw[hs]at hA⊢
 refine Calls.callWith_builtin (by show(false||(backTo eJ (starEach es X.env)).any (·.1))=false;rw[Nj]<;>rfl) (Calls.evalArgs_plain ?_)
 exact dH hA λus s2 ⟨vs,H2,I2,r2,q2⟩=>hm pins s2 σ H2 x vs v us Q I2 r1 r2 q2
end
def UK(X:Cx)(id:String)(r:V->List V->Hp->VK->Prop):Prop:=
 ∀(pins:List (Addr×Obj)) (s:Shared) (σ:St) (H:Hp) (x:V) (xs:List V) (v:Value) (us:List Value) (Q:VK),Inv X pins σ H s->RelV x v->Vals xs us->r x xs H Q->
  wpAny (model X.prog X.w) X.A (call (.builtin id) (v::us)) (EP X pins σ Q) X.xe s
theorem Vals.one{x:V}{us:List Value}(h:Vals [x] us):∃u,us=[u]/\RelV x u:=by
 cases h with
 |cons r t=>
  cases t
  exact⟨_,rfl,r⟩
theorem Vals.two{x y:V}{us:List Value}(h:Vals [x,y] us):∃u v,us=[u,v]/\RelV x u/\RelV y v:=by
 cases h with
 |cons r t=>
  cases t with
  |cons q t=>
   cases t
   exact⟨_,_,rfl,r,q⟩
theorem Vals.zero:∀{us:List Value},Vals [] us->us=[]
 |_,.nil=>rfl
theorem Vals.reverse{xs:List V}{us:List Value}(h:Vals xs us):Vals xs.reverse us.reverse:=by
 induction h with
 |nil=>exact .nil
 |cons r t ih=>rw[YY,YY];exact Vals.append ih (.cons r .nil)
section
variable{X:Cx}{pins:List (Addr×Obj)}{σ:St}{H:Hp}{s:Shared}{l b:Addr}{xs ys zs:List V}
theorem Inv.Qs{its its':List Value}{n:Nat}{f:Array Value->Array Value}{t':Nat}(I:Inv X pins σ H s)(hH:H l=some (.lst xs))
  (e:s.heap.get? l=some {cls:=.type "list",data:=.seq its.toArray n})(hf:f its.toArray=its'.toArray)(hv:Vals ys its')(hz:ys.length<=sizeLine):
  Inv X pins σ (upd H l (.lst ys)) {s with heap:=s.heap.update l (Obj.mapSeq f),toks:=t'}:=by
 have q:=PySem.IsL.update e f
 rw[hf]at q
 refine I.write (x:=l) (e:=l) (by rw[hH];exact trivial) (.inl rfl) (λb' u hb hu=>(Yc s.heap (Obj.mapSeq f) (Ne.symm hb)).trans hu) ⟨_,q⟩ ?_
 exact⟨hz,its',_,hv,q⟩
theorem Inv.Tb{its:List Value}{t':Nat}(I:Inv X pins σ H s)(hv:Vals ys its)(hz:ys.length<=sizeLine):
  Inv X pins σ (upd H s.heap.objs.size (.lst ys)) {s with heap:=s.heap.push {cls:=.type "list",data:=.seq its.toArray},toks:=t'}:=
 I.laid (λ_ _ q=>wp _ q) (wr _) ⟨hz,its,0,hv,ZH _ rfl⟩
theorem Inv.fresh(I:Inv X pins σ H s):H s.heap.objs.size=none:=I.dE.fresh (wr _)
theorem Inv.Qt(I:Inv X pins σ H s)(hH:H l=some (.lst xs)):xs.length<=sizeLine/\∃(its:List Value) (n:Nat),Vals xs its/\xs.length=its.length/\s.heap.get? l=some {cls:=.type "list",data:=.seq its.toArray n}:=by
 obtain⟨z,its,n,r,e⟩:=I.dE l _ hH
 exact⟨z,its,n,r,r.length,e⟩
end
section
variable{X:Cx}
def xC:V->List V->Hp->VK->Prop:=λx vs H Q=>∃l xs y,x=.ref l/\vs=[y]/\H l=some (.lst xs)/\xs.length<sizeLine/\Q .non (upd H l (.lst (xs++[y])))
theorem wg:UK X "list.append" xC:=by
 intro pins s σ H x vs v us Q I rx rv h
 obtain⟨l,xs,y,rfl,rfl,hH,hz,q⟩:=h
 cases rx
 obtain⟨u,rfl,ru⟩:=rv.one
 obtain⟨z,its,n,r,hl,e⟩:=I.Qt hH
 refine call_meets F.slot_list_append ⟨_,e,rfl⟩ F.entry_list_append (F.args_list_append_2 _ _) (PySem.list_append l its.toArray n u (by rw[wP];omega)) ⟨e,?_⟩
 refine⟨.non,_,I.Qs (its':=its++[u]) hH e (by simp) (r.append (.cons ru .nil)) ?_,rfl,q⟩
 rw[ZD,Zb]
 omega
def Nk:V->List V->Hp->VK->Prop:=λx vs H Q=>∃l xs,x=.ref l/\vs=[]/\H l=some (.lst xs)/\Q .non (upd H l (.lst []))
theorem Gx:UK X "list.clear" Nk:=by
 intro pins s σ H x vs v us Q I rx rv h
 obtain⟨l,xs,rfl,rfl,hH,q⟩:=h
 cases rx
 have VH:=rv.zero
 subst VH
 obtain⟨z,its,n,r,hl,e⟩:=I.Qt hH
 refine call_meets F.slot_list_clear ⟨_,e,rfl⟩ F.entry_list_clear (F.args_list_clear_1 _) (AutoSeq1.list_clear_list_0 l its.toArray n (by rw[wP];omega)) ⟨e,?_⟩
 exact⟨.non,_,I.Qs (its':=[]) (ys:=[]) hH e rfl .nil (ZI _),rfl,q⟩
end
end L2
namespace Att
open PySem PySem.W PySem.Calls PyProof.Rows
theorem sU{P:Params}{h:Heap}:∀(ns:List Int) (vs:List Value),WellAll P h vs (ns.map WData.int)->IntsAre vs ns:=by
 intro ns
 induction ns with
 |nil=>
  intro vs w
  rw[X8]at w
  cases w
  exact .nil
 |cons n ns ih=>
  intro vs w
  rw[ZC]at w
  cases w with
  |cons a b=>
   cases a
   exact .cons _ _ (ih _ b)
theorem EA{l:OpenLaw}{n:Nat}(hn:l.most=some n){P:Params}{h:Heap}{args:List WData}{vals:List Value}
  (J5:l.row.toRowW.claim.pre args=true)(Tc:WellAll P h vals args):
  ∃a vs ns,vals=[Value.ref a]/\args=[WData.list (ns.map WData.int)]/\h.get? a=some {cls:=.type "list",data:=.seq vs.toArray}/\IntsAre vs ns/\ns.length<=n:=by
 have VI:WShape.hasAll [] args [.list .int]=true:=(pre_splitW J5).1
 have hc:l.pre.holds [] {args:=args}=true:=(pre_splitW J5).2
 obtain⟨d,r,rfl,h1,h2⟩:=hasAllW_cons VI
 obtain rfl:=hasAllW_nil h2
 obtain⟨xs,rfl,h3⟩:=hasW_list h1
 obtain⟨ns,rfl⟩:=items_int h3
 have hlen:ns.length<=n:=by
  unfold OpenLaw.pre at hc
  have h4:(WTm.not (.lt (.lit (.int (n:Int))) (.len (.arg 0)))).holds [] {args:=[.list (ns.map .int)]}=true:=by
   have h4:=(holds_andW hc).1
   rw[hn]at h4
   exact h4
  have h5:=condW_of h4 (w_not (w_lt w_lit (w_len_list (w_arg rfl))))
  rw[wE]at h5
  refine Nat.le_of_not_lt λq=>?_
  have q':(n:Int)<((ns.length:Nat):Int):=by omega
  first
   |(rw[decide_eq_true q']at h5;exact absurd h5 (by decide))
   |(simp at h5;omega)
 cases Tc with
 |cons w1 w2=>
  cases w2
  cases w1 with
  |list ho xD=>exact⟨_,_,ns,rfl,rfl,ho,sU ns _ xD,hlen⟩
theorem EB(l:OpenLaw)(args:List WData):l.row.toRowW.claim.post args (.bool true) args=true:=
 postW_of (r:=l.row.toRowW) (X:=(true==true))
  (show WShape.has [] (.bool true) .bool=true by first|rfl|decide|simp[WShape.has,WShape.arms,WShape.armsAll])
  (show(WTm.eq .res (.lit (.bool true))).value [] {args:=args,res:=some (.bool true),after:=args}=some (.bool (true==true))from w_eq_bool (w_res rfl) w_lit) rfl
theorem zj{l:OpenLaw}{n:Nat}{q:Program}{loose:List Str}{XP:(Str->Option Value)->Heap->Prop}{YP:World->Heap->Prop}{d:DefRec}
  (hn:l.most=some n)(Te:d.params.defaults=[])
  (call:∀(w:World) (s₀ s₁:Shared) (mg mb:Str->Option Value) (fa:Addr) (o:Obj) (pm cd doc:Value) (a:Addr) (vs:List Value) (ns:List Int),
    Ground q loose [] XP w s₀ mg mb s₁.heap->YP w s₁.heap->
    s₁.heap.get? fa=some o->o.data=.func (docDef d.name d.params d.body d.scope pm cd doc)->s₁.heap.CodeRec cd d.name->mg d.name=some (.ref fa)->
    s₁.heap.get? a=some {cls:=.type "list",data:=.seq vs.toArray}->IntsAre vs ns->ns.length<=n->s₁.gens=#[]->
    codeAny (model l.prog w) callerA (.call (.ref fa) ⟨[.ref a],[]⟩) (λr s'=>r=.ok (.ret (.bool true))/\OldK s₁.heap s'.heap/\s'.os=s₁.os/\AllBare s'.gens) s₁):
  WalkO q loose XP YP l.row.toRowW d [] (λf vs=>PySem.call f vs):=by
 intro w s₀ s₁ mg mb G Y fa o pm cd doc dV kV ho hd pK hD Qu hg args vals as J5 VJ Xp Tc UL
 obtain rfl:dV=.none:=Dflts.none hD Te
 obtain rfl:kV=.none:=Dflts.noKw hD
 obtain⟨a,vs,ns,rfl,rfl,Nl,hints,hlen⟩:=EA hn J5 Tc
 refine enter_call (codeAny_mono (call w s₀ s₁ mg mb fa o pm cd doc a vs ns G Y ho (fd_plain hd) pK Qu Nl hints hlen hg) λr s' hq=>?_)
 obtain⟨rfl,h2,h3,h4⟩:=hq
 exact⟨.inl ⟨.bool true,.bool true,[],rfl,λ_=>rfl,.bool true,EB l _,λ_=>⟨List.Pairwise.nil,λ_ hm=>(nomatch hm)⟩⟩,h2,h3,h4⟩
end Att
namespace L2
open PySem PySem.Spec PyProof.Rows
theorem qX:∀{vs:List Value} {ns:List Int},IntsAre vs ns->Vals (ns.map V.int) vs
 |_,_,.nil=>.nil
 |_,_,.cons n t h=>.cons ⟨t,rfl⟩ (qX h)
def Qv(H:Hp):Prop:=∀b,H b=none\/∃o xs,H b=some (.frz o (.lst xs))
def nR(s:Stmt):Arguments:=match s with
 |.FunctionDef _ a _ _ _ _ _ _ _ _=>a
 |_=>{posonlyargs:=[],args:=[],vararg:=none,kwonlyargs:=[],kw_defaults:=[],kwarg:=none,defaults:=[]}
def ji(s:Stmt):List Stmt:=match s with
 |.FunctionDef _ _ b _ _ _ _ _ _ _=>b
 |_=>[]
def ao(s:Stmt):Scope:=match s with
 |.FunctionDef _ _ _ _ _ _ sc _ _ _=>sc
 |_=>{kind:=.function,names:=[],isGenerator:=false,isCoroutine:=false}
abbrev cP:FK:=λ_ _ _ _ _ _=>False
abbrev E0:XK:=λ_ _ _=>False
theorem jW{X:Cx}:Passes cP X E0:=λ_ _ _ _ _ _ _ h=>h.elim
structure Jr(K:PySem.W.Frag)(x qual:Str)(st:Stmt)(f:Addr)(fd:FuncData):Prop where
 ex:∃(oc:Value) (od:Option Addr) (kV doc pm:Value) (an:Option Addr) (cD ct:Value) (JU:Array (Option Value)),
  fd=PySem.W.fnOf x qual (nR st) (ji st) (ao st) .none kV doc pm an cD ct/\K.lookup f=some ⟨oc,od,.func fd,JU⟩/\PySem.W.codeIn K cD qual=true
 kp:PySem.W.keepIn K (.ref f)=true
section
variable{P:Program}{w:World}{K:PySem.W.Frag}{mg:Str->Option Value}{base:Heap}
theorem Jr.ok{x qual:Str}{st:Stmt}{f:Addr}{fd:FuncData}{N ps:List Str}{k:Nat}{sp:Sp}(F:Jr K x qual st f fd)(S:aT N ps (ao st))(len:∀vs H Q E,sp vs H Q E->vs.length=ps.length)
  (zh:∀(cD:Value) (A:Around) (outer:List Env) (s:Shared) (H:Hp) (vs:List V) (Q:VK) (E:XK),cg k (A.deeper (envOfC qual (ao st) s.heap.objs.size f cD))->sp vs H Q E->
    ∃t,A6 (mB cP P w K mg base N qual (ao st) f cD A outer s H E).PR (ji st) t/\t {nx:=λ_ H'=>Q .non H',rt:=Q} (start N vs) H):aL P w K mg base cP (k+1) f fd ps sp:=by
 obtain⟨oc,od,kV,doc,pm,an,cD,ct,JU,rfl,lk,pK⟩:=F.ex
 refine LN lk pK S len λA outer s H vs Q E hr LO=>?_
 obtain⟨t,h,q⟩:=zh cD A outer s H vs Q E hr LO
 exact⟨t,h.PR,q⟩
theorem Jr.binds{x qual:Str}{st:Stmt}{f:Addr}{fd:FuncData}{ps:List Str}(F:Jr K x qual st f fd)
  (h:∀(kV doc pm:Value) (an:Option Addr) (cD ct:Value) (us:List Value),us.length=ps.length->bindArgs (PySem.W.fnOf x qual (nR st) (ji st) (ao st) .none kV doc pm an cD ct) ⟨us,[]⟩=pure (ps.zip us)):Binds K fd ps []:=by
 obtain⟨oc,od,kV,doc,pm,an,cD,ct,JU,rfl,lk,pK⟩:=F.ex
 exact .all (h kV doc pm an cD ct)
theorem Nn{x qual:Str}{st:Stmt}{f:Addr}{oc:Value}{od an:Option Addr}{JU:Array (Option Value)}{kV doc pm cD ct:Value}(l:K.lookup f=some ⟨oc,od,.func (PySem.W.fnOf x qual (nR st) (ji st) (ao st) .none kV doc pm an cD ct),JU⟩)
 (c:PySem.W.codeIn K cD qual=true)(k:PySem.W.keepIn K (.ref f)=true):Jr K x qual st f (PySem.W.fnOf x qual (nR st) (ji st) (ao st) .none kV doc pm an cD ct):=⟨⟨oc,od,kV,doc,pm,an,cD,ct,JU,rfl,l,c⟩,k⟩
end
section
variable{X:Cx}
theorem pv(i:Nat){x:Str}{pos:Pos}(hN:X.N[i]?=some x:=by rfl)(hv:FZ X.env.scope x:=by first|exact Or.inl rfl|exact Or.inr (Or.inl rfl)|exact Or.inr (Or.inr rfl))(hd:(x==("__debug__" :Str))=false:=by decide)
 (pK:(x==("__classdict__" :Str))=false:=by decide):PE X (.Name x pos) (fB i):=kf hN hv hd pK
end
theorem J6{A B:Prop}(h:B):if false=true then A else B:=by
 rw[if_neg sw]
 exact h
theorem Np{A B:Prop}(h:A):if true=true then A else B:=by
 rw[if_pos rfl]
 exact h
def aE(H H':Hp):Prop:=∀b o,H b=some o->H' b=some o
theorem aE.refl(H:Hp):aE H H:=λ_ _ h=>h
theorem aE.trans{H H1 H2:Hp}(a:aE H H1)(b:aE H1 H2):aE H H2:=λc o h=>b c o (a c o h)
theorem aE.free{H H':Hp}(e:aE H H'){l:Addr}(h:H' l=Option.none):H l=Option.none:=by
 cases q:H l with
 |none=>rfl
 |some o=>
  rw[e l o q]at h
  cases h
end L2
namespace TS
open PySem PyProof.Rows
def zk(prog:Program)(w:World)(A:Around)(E:Value->Shared->Prop)(s:Shared)(kd:SortKind)(G:Keyed->Prop)(rk:Keyed->Nat):Prop:=
 ∀(p q:Keyed) (st:SortSt) (Q:Option Bool->SortSt->Prop),kindOf st=kd->G p->G q->Q (some (decide (rk p<rk q))) st->wpS (model prog w) A E s (lt' p q) Q st
def R(rk:Keyed->Nat)(xs:Array Keyed)(i:Nat):Nat:=match xs[i]? with
 |some p=>rk p
 |none=>0
def Gd(G:Keyed->Prop)(xs:Array Keyed):Prop:=∀p∈xs.toList,G p
theorem Gd.at{G:Keyed->Prop}{rk:Keyed->Nat}{xs:Array Keyed}(h:Gd G xs){i:Nat}(hi:i<xs.size):∃p,xs[i]?=some p/\G p/\R rk xs i=rk p:=by
 refine⟨xs[i],getElem?_pos xs i hi,h _ (by simp),?_⟩
 unfold R
 rw[getElem?_pos xs i hi]
theorem Bu{rk:Keyed->Nat}{xs:Array Keyed}{i:Nat}{p:Keyed}(h:xs[i]?=some p):R rk xs i=rk p:=by
 unfold R
 rw[h]
def lg(rk:Keyed->Nat)(left:Bool)(key:Keyed)(xs:Array Keyed)(base i:Nat):Bool:=
 if left then decide (R rk xs (base+i)<rk key)else !decide (rk key<R rk xs (base+i))
def pQ:Bool->Keyed->Array Keyed->Nat->Nat->Nat->StateT SortSt Sem (Option Nat):=sortPriv% PySem.Builtin.gallop
def Gy:Array Keyed->Array Keyed->StateT SortSt Sem (Array Keyed):=sortPriv% PySem.Builtin.mergeLo
def Gz:Array Keyed->Array Keyed->StateT SortSt Sem (Array Keyed):=sortPriv% PySem.Builtin.mergeHi
def pR:Nat->StateT SortSt Sem Unit:=sortPriv% PySem.Builtin.setMinGallop
section
variable{prog:Program}{w:World}{A:Around}{E:Value->Shared->Prop}{s:Shared}{kd:SortKind}{G:Keyed->Prop}{rk:Keyed->Nat}
theorem bX{xs:Array Keyed}{i:Nat}{p:Keyed}{Q:Keyed->SortSt->Prop}{st:SortSt}{M:Model}(h:xs[i]?=some p)(q:Q p st):wpS M A E s (elem' xs i) Q st:=by
 rw[elem'_eq,h]
 exact wpS_pure q
theorem uk(C:zk prog w A E s kd G rk){left:Bool}{key:Keyed}{xs:Array Keyed}{base i:Nat}{st:SortSt}{Q:Option Bool->SortSt->Prop}(hk:kindOf st=kd)(hG:Gd G xs)(vI:G key)(hi:base+i<xs.size)
  (q:Q (some (lg rk left key xs base i)) st):wpS (model prog w) A E s (elem' xs (base+i)>>=λx=>if left=true then lt' x key else lt' key x>>=λr=>pure (Option.map (λb=>!b) r)) Q st:=by
 obtain⟨p,e,g,r⟩:=hG.at (rk:=rk) hi
 refine wpS_bind (bX e ?_)
 unfold lg at q
 rw[r]at q
 cases left with
 |true=>
  rw[if_pos rfl]at q⊢
  exact C p key st Q hk g vI q
 |false=>
  rw[if_neg (by decide)]at q⊢
  exact wpS_bind (C key p st _ hk vI g (wpS_pure q))
theorem zm{M:Model}{n:Nat}{f:Nat->Option (Option Nat)×Nat×Nat->StateT SortSt Sem (ForInStep (Option (Option Nat)×Nat×Nat))}{p:Nat->Bool}{st:SortSt}{Q:Option (Option Nat)×Nat×Nat->SortSt->Prop}
  (hs:∀(x lo hi:Nat) Q',lo<hi->hi<=n->Q' (ForInStep.yield (none,if p (lo+(hi-lo)/2)=true then lo+(hi-lo)/2+1 else lo,if p (lo+(hi-lo)/2)=true then hi else lo+(hi-lo)/2)) st->wpS M A E s (f x (none,lo,hi)) Q' st)
  (hd:∀(x lo hi:Nat) Q',hi<=lo->Q' (ForInStep.done (none,lo,hi)) st->wpS M A E s (f x (none,lo,hi)) Q' st)
  (mono:∀i j,i<=j->j<n->p j=true->p i=true){lo hi:Nat}(h1:lo<=hi)(h2:hi<=n)(h3:∀i,i<lo->p i=true)(h4:∀i,hi<=i->i<n->p i=false)
  (q:∀k,k<=n->(∀i,i<k->p i=true)->(∀i,k<=i->i<n->p i=false)->Q (none,k,k) st):wpS M A E s (forIn [:n] (none,lo,hi) f) Q st:=by
 refine wpS_forRange (I:=λx c aU=>aU=st/\∃l h,c=(none,l,h)/\l<=h/\h<=n/\h-l<=n-x/\(∀i,i<l->p i=true)/\∀i,h<=i->i<n->p i=false) ?_ ?_ ⟨rfl,lo,hi,rfl,h1,h2,by omega,h3,h4⟩
 ·rintro x c aU-hx ⟨rfl,l,h,rfl,a1,a2,a3,a4,a5⟩
  by_cases i0:l<h
  ·refine hs x l h _ i0 a2 ?_
   have hm:l+(h-l)/2<h:=by omega
   cases e:p (l+(h-l)/2)with
   |true=>
    refine⟨rfl,l+(h-l)/2+1,h,by simp,by omega,a2,by omega,λi hi=>?_,a5⟩
    exact mono i (l+(h-l)/2) (by omega) (by omega) e
   |false=>
    refine⟨rfl,l,l+(h-l)/2,by simp,by omega,by omega,by omega,a4,λi b1 b2=>?_⟩
    cases e2:p i with
    |false=>rfl
    |true=>
     rw[mono _ i b1 b2 e2]at e
     cases e
  ·refine hd x l h _ (by omega) ?_
   obtain rfl:l=h:=by omega
   exact q l a2 a4 a5
 ·rintro c aU ⟨rfl,l,h,rfl,a1,a2,a3,a4,a5⟩
  obtain rfl:l=h:=by omega
  exact q l a2 a4 a5
theorem zo{M:Model}{n mx:Nat}{f:Nat->Option (Option Nat)×Nat×Nat->StateT SortSt Sem (ForInStep (Option (Option Nat)×Nat×Nat))}{g:Nat->Bool}{st:SortSt}{Q:Option (Option Nat)×Nat×Nat->SortSt->Prop}(h1:1<=mx)(hn:mx<=n)
  (hd:∀(x l o:Nat) Q',mx<=o->Q' (ForInStep.done (none,l,o)) st->wpS M A E s (f x (none,l,o)) Q' st)
  (hs:∀(x l o:Nat) Q',o<mx->Q' (if g o=true then ForInStep.yield (none,o,2*o+1)else ForInStep.done (none,l,o)) st->wpS M A E s (f x (none,l,o)) Q' st)
  (q:∀l o,l<o->l<mx->(l=0\/g l=true)->(mx<=o\/(o<mx/\g o=false))->Q (none,l,o) st):wpS M A E s (forIn [:n] (none,0,1) f) Q st:=by
 refine wpS_forRange (I:=λx c aU=>aU=st/\∃l o,c=(none,l,o)/\l<o/\l<mx/\x+1<=o/\(l=0\/g l=true)) ?_ ?_ ⟨rfl,0,1,rfl,by omega,by omega,by omega,.inl rfl⟩
 ·rintro x c aU-hx ⟨rfl,l,o,rfl,a1,a2,a3,a4⟩
  by_cases i0:o<mx
  ·refine hs x l o _ i0 ?_
   cases e:g o with
   |true=>exact⟨rfl,o,2*o+1,rfl,by omega,i0,by omega,.inr e⟩
   |false=>exact q l o a1 a2 a4 (.inr ⟨i0,e⟩)
  ·exact hd x l o _ (by omega) (q l o a1 a2 a4 (.inl (by omega)))
 ·rintro c aU ⟨rfl,l,o,rfl,a1,a2,a3,a4⟩
  exact q l o a1 a2 a4 (.inl (by omega))
theorem jq(C:zk prog w A E s kd G rk){left:Bool}{key:Keyed}{xs:Array Keyed}{base n hint:Nat}{st:SortSt}{Q:Option Nat->SortSt->Prop}(hk:kindOf st=kd)(hG:Gd G xs)(vI:G key)(hb:base+n<=xs.size)(hh:hint<n)
  (mono:∀i j,i<=j->j<n->lg rk left key xs base j=true->lg rk left key xs base i=true)
  (q:∀k,k<=n->(∀i,i<k->lg rk left key xs base i=true)->(∀i,k<=i->i<n->lg rk left key xs base i=false)->Q (some k) st):wpS (model prog w) A E s (pQ left key xs base n hint) Q st:=by
 have GA:∀i j,i<=j->j<n->lg rk left key xs base i=false->lg rk left key xs base j=false:=λi j h1 h2 h3=>by
  cases e:lg rk left key xs base j with
  |false=>rfl
  |true=>
   rw[mono i j h1 h2 e]at h3
   cases h3
 refine wpS_bind (uk C hk hG vI (by omega) ?_)
 cases e0:lg rk left key xs base hint with
 |true=>
  refine wpS_bind (zo (n:=n) (mx:=n-hint) (g:=λo=>lg rk left key xs base (hint+o)) (by omega) (by omega) (λx l o Q' ho q'=>?_) (λx l o Q' ho q'=>?_) λl o a1 a2 a3 a4=>?_)
  ·dsimp only
   rw[if_pos ho]
   exact wpS_pure q'
  ·dsimp only
   rw[if_neg (by omega)]
   refine wpS_bind (uk C hk hG vI (by omega) ?_)
   cases e:lg rk left key xs base (hint+o)with
   |true=>
    rw[e]at q'
    exact wpS_pure q'
   |false=>
    rw[e]at q'
    exact wpS_pure q'
  ·refine wpS_bind (zm (p:=λi=>lg rk left key xs base i) (λx lo hi Q' b1 b2 q'=>?_) (λx lo hi Q' b1 q'=>?_) mono (lo:=hint+l+1) (hi:=hint+min o (n-hint)) (by omega) (by omega) (λi hi=>?_) (λi b1 b2=>?_) λk c1 c2 c3=>?_)
   ·dsimp only
    rw[if_neg (by omega)]
    refine wpS_bind (uk C hk hG vI (by omega) ?_)
    cases e:lg rk left key xs base (lo+(hi-lo)/2)with
    |true=>
     rw[e]at q'
     exact wpS_pure q'
    |false=>
     rw[e]at q'
     exact wpS_pure q'
   ·dsimp only
    rw[if_pos b1]
    exact wpS_pure q'
   ·rcases a3 with a3|a3
    ·exact mono i hint (by omega) hh e0
    ·exact mono i (hint+l) (by omega) (by omega) a3
   ·rcases a4 with a4|⟨a4,a5⟩
    ·omega
    ·exact GA (hint+o) i (by omega) b2 a5
   ·exact wpS_pure (q k c1 c2 c3)
 |false=>
  refine wpS_bind (zo (n:=n) (mx:=hint+1) (g:=λo=>!lg rk left key xs base (hint-o)) (by omega) (by omega) (λx l o Q' ho q'=>?_) (λx l o Q' ho q'=>?_) λl o a1 a2 a3 a4=>?_)
  ·dsimp only
   rw[if_pos ho]
   exact wpS_pure q'
  ·dsimp only
   rw[if_neg (by omega)]
   refine wpS_bind (uk C hk hG vI (by omega) ?_)
   cases e:lg rk left key xs base (hint-o)with
   |true=>
    rw[e]at q'
    exact wpS_pure q'
   |false=>
    rw[e]at q'
    exact wpS_pure q'
  ·refine wpS_bind (zm (p:=λi=>lg rk left key xs base i) (λx lo hi Q' b1 b2 q'=>?_) (λx lo hi Q' b1 q'=>?_) mono (lo:=hint+1-min o (hint+1)) (hi:=hint-l) (by omega) (by omega) (λi hi=>?_) (λi b1 b2=>?_) λk c1 c2 c3=>?_)
   ·dsimp only
    rw[if_neg (by omega)]
    refine wpS_bind (uk C hk hG vI (by omega) ?_)
    cases e:lg rk left key xs base (lo+(hi-lo)/2)with
    |true=>
     rw[e]at q'
     exact wpS_pure q'
    |false=>
     rw[e]at q'
     exact wpS_pure q'
   ·dsimp only
    rw[if_pos b1]
    exact wpS_pure q'
   ·rcases a4 with a4|⟨a4,a5⟩
    ·omega
    ·refine mono i (hint-o) (by omega) (by omega) ?_
     simpa using a5
   ·rcases a3 with a3|a3
    ·exact GA hint i (by omega) b2 e0
    ·exact GA (hint-l) i (by omega) b2 (by simpa using a3)
   ·exact wpS_pure (q k c1 c2 c3)
end
def Sd(rk:Keyed->Nat)(l:List Keyed):Prop:=l.Pairwise λp q=>rk p<=rk q
theorem Sd.sub{rk:Keyed->Nat}{l m:List Keyed}(h:Sd rk m)(hs:l.Sublist m):Sd rk l:=List.Pairwise.sublist hs h
theorem Sd.left{rk:Keyed->Nat}{l m:List Keyed}(h:Sd rk (l++m)):Sd rk l:=h.sub (List.sublist_append_left _ _)
theorem Sd.right{rk:Keyed->Nat}{l m:List Keyed}(h:Sd rk (l++m)):Sd rk m:=h.sub (List.sublist_append_right _ _)
theorem Sd.wj{rk:Keyed->Nat}{l m:List Keyed}(h:Sd rk (l++m)):∀x∈l,∀y∈m,rk x<=rk y:=(YF.mp h).2.2
theorem Sd.app{rk:Keyed->Nat}{l m:List Keyed}(h1:Sd rk l)(h2:Sd rk m)(h3:∀x∈l,∀y∈m,rk x<=rk y):Sd rk (l++m):=YF.mpr ⟨h1,h2,h3⟩
theorem Sd.nil{rk:Keyed->Nat}:Sd rk []:=List.Pairwise.nil
theorem Sd.one{rk:Keyed->Nat}(p:Keyed):Sd rk [p]:=Zt _ _
theorem xE{rk:Keyed->Nat}{xs:Array Keyed}{i:Nat}{p:Keyed}(h:xs.toList[i]?=some p):R rk xs i=rk p:=Bu (by simpa using h)
theorem dh{xs:Array Keyed}{i:Nat}(h:i<xs.size):∃p,xs.toList[i]?=some p/\xs[i]?=some p/\p∈xs.toList:=⟨xs[i],by simp[h],by simp[h],by simp⟩
theorem fm{l:List Keyed}{x:Keyed}{i k:Nat}(h:x∈(l.drop i).take k):∃j,j<k/\l[i+j]?=some x:=by
 obtain⟨j,hj,e⟩:=YG.mp h
 rw[List.getElem_take,List.getElem_drop]at e
 rw[ZM,ZY]at hj
 exact⟨j,by omega,wS.mpr ⟨by omega,e⟩⟩
theorem kE{l:List Keyed}{x:Keyed}{i:Nat}(h:x∈l.drop i):∃j,l[i+j]?=some x:=by
 obtain⟨j,hj,e⟩:=YG.mp h
 rw[List.getElem_drop]at e
 rw[ZY]at hj
 exact⟨j,wS.mpr ⟨by omega,e⟩⟩
theorem um{l:List Keyed}{x:Keyed}{i:Nat}(h:x∈l.take i):∃j,j<i/\l[j]?=some x:=by
 have h':x∈(l.drop 0).take i:=by simpa using h
 simpa using fm h'
theorem uo{rk:Keyed->Nat}{l:List Keyed}(h:Sd rk l){i j:Nat}{p q:Keyed}(GB:i<=j)(hp:l[i]?=some p)(hq:l[j]?=some q):rk p<=rk q:=by
 obtain⟨h1,e1⟩:=wS.mp hp
 obtain⟨h2,e2⟩:=wS.mp hq
 rcases X9 i j with hl|hl
 ·have:=Y4.mp h i j h1 h2 hl
  rw[e1,e2]at this
  exact this
 ·obtain rfl:i=j:=by omega
  rw[hp]at hq
  cases hq
  exact wr _
theorem tD{rk:Keyed->Nat}{l:List Keyed}{b:Nat}(h:Sd rk (l.drop b)){i j:Nat}{p q:Keyed}(GB:i<=j)(hp:l[b+i]?=some p)(hq:l[b+j]?=some q):rk p<=rk q:=
 uo h GB (by simpa using hp) (by simpa using hq)
theorem De{rk:Keyed->Nat}{l:List Keyed}{b:Nat}(h:Sd rk (l.take b)){i j:Nat}{p q:Keyed}(GB:i<=j)(hj:j<b)(hp:l[i]?=some p)(hq:l[j]?=some q):rk p<=rk q:=
 uo h GB (by rw[Zy,if_pos (by omega)];exact hp) (by rw[Zy,if_pos (by omega)];exact hq)
structure ML(rk:Keyed->Nat)(la lb o:List Keyed)(ia ib:Nat):Prop where
 pm:o.Perm (la.take ia++lb.take ib)
 sa:Sd rk (o++la.drop ia)
 sb:Sd rk (o++lb.drop ib)
theorem ML.ga{rk:Keyed->Nat}{la lb o:List Keyed}{ia ib:Nat}(m:ML rk la lb o ia ib)(k:Nat)(h:∀x∈(la.drop ia).take k,∀y∈lb.drop ib,rk x<=rk y):ML rk la lb (o++(la.drop ia).take k) (ia+k) ib:=by
 have e:(la.drop ia).take k++la.drop (ia+k)=la.drop ia:=by rw[<-Yv,ZP]
 refine⟨?_,?_,?_⟩
 ·rw[Yz]
  refine(m.pm.append_right _).trans ?_
  rw[tz,tz]
  exact Yh _ Zc
 ·rw[tz,e]
  exact m.sa
 ·refine Sd.app ?_ m.sb.right λx hx y hy=>?_
  ·have:=m.sa
   rw[<-e,<-tz]at this
   exact this.left
  ·rcases sK.mp hx with hx|hx
   ·exact m.sb.wj x hx y hy
   ·exact h x hx y hy
theorem ML.swap{rk:Keyed->Nat}{la lb o:List Keyed}{ia ib:Nat}(m:ML rk la lb o ia ib):ML rk lb la o ib ia:=⟨m.pm.trans Zc,m.sb,m.sa⟩
theorem ML.gb{rk:Keyed->Nat}{la lb o:List Keyed}{ia ib:Nat}(m:ML rk la lb o ia ib)(k:Nat)(h:∀x∈(lb.drop ib).take k,∀y∈la.drop ia,rk x<=rk y):ML rk la lb (o++(lb.drop ib).take k) ia (ib+k):=(m.swap.ga k h).swap
theorem jX{l:List Keyed}{i:Nat}{p:Keyed}(h:l[i]?=some p):(l.drop i).take 1=[p]:=by
 obtain⟨h1,e1⟩:=wS.mp h
 rw[ZR h1,e1]
 rfl
theorem ML.pa{rk:Keyed->Nat}{la lb o:List Keyed}{ia ib:Nat}(m:ML rk la lb o ia ib){p q:Keyed}(hp:la[ia]?=some p)(hq:lb[ib]?=some q)(h:rk p<=rk q):ML rk la lb (o++[p]) (ia+1) ib:=by
 have:=m.ga 1 (λx hx y hy=>by
  rw[jX hp]at hx
  obtain rfl:x=p:=by simpa using hx
  obtain⟨j,e⟩:=kE hy
  exact ZB h (tD m.sb.right (ZI j) hq e))
 rw[jX hp]at this
 exact this
theorem ML.pb{rk:Keyed->Nat}{la lb o:List Keyed}{ia ib:Nat}(m:ML rk la lb o ia ib){p q:Keyed}(hp:la[ia]?=some p)(hq:lb[ib]?=some q)(h:rk q<=rk p):ML rk la lb (o++[q]) ia (ib+1):=(m.swap.pa hq hp h).swap
def Mg(rk:Keyed->Nat)(la lb:List Keyed)(o:Array Keyed):Prop:=o.toList.Perm (la++lb)/\Sd rk o.toList
theorem nS{xs:Array Keyed}{i:Nat}:(xs.extract i xs.size).toList=xs.toList.drop i:=by
 rw[Array.toList_extract]
 unfold List.extract
 rw[ZX]
 rw[ZY,v4]
 exact wr _
theorem kF{xs:Array Keyed}{i k:Nat}:(xs.extract i (i+k)).toList=(xs.toList.drop i).take k:=by
 rw[Array.toList_extract]
 unfold List.extract
 congr 1
 omega
theorem ML.wm{rk:Keyed->Nat}{a b o:Array Keyed}{ia ib:Nat}(m:ML rk a.toList b.toList o.toList ia ib)(h:ib=b.size):Mg rk a.toList b.toList (o++a.extract ia a.size++b.extract ib b.size):=by
 unfold Mg
 rw[ZN,ZN,nS,nS]
 have e:b.toList.drop ib=[]:=ZU (by simp[h])
 have e2:b.toList.take ib=b.toList:=ZX (by simp[h])
 have q:=m.pm
 rw[e2]at q
 rw[e,ZL]
 refine⟨?_,m.sa⟩
 refine(q.append_right _).trans ?_
 refine(Zc.append_right _).trans ?_
 rw[tz,ZP]
 exact Zc
theorem ML.wo{rk:Keyed->Nat}{a b o:Array Keyed}{ia ib:Nat}(m:ML rk a.toList b.toList o.toList ia ib)(h:ia=a.size):Mg rk a.toList b.toList (o++a.extract ia a.size++b.extract ib b.size):=by
 unfold Mg
 rw[ZN,ZN,nS,nS]
 have e:a.toList.drop ia=[]:=ZU (by simp[h])
 have e2:a.toList.take ia=a.toList:=ZX (by simp[h])
 have q:=m.pm
 rw[e2]at q
 rw[e,ZL]
 refine⟨?_,m.sb⟩
 refine(q.append_right _).trans ?_
 rw[tz,ZP]
theorem ML.last{rk:Keyed->Nat}{a b o:Array Keyed}{ia ib:Nat}(m:ML rk a.toList b.toList o.toList ia ib)(h:ia+1=a.size){z:Keyed}(hz:a.toList[ia]?=some z)(hb:∀y∈b.toList,rk y<=rk z):
  Mg rk a.toList b.toList (o++b.extract ib b.size++a.extract ia a.size):=by
 unfold Mg
 rw[ZN,ZN,nS,nS]
 have e:a.toList.drop ia=[z]:=by
  rw[<-jX hz,ZX]
  simp
  omega
 refine⟨?_,?_⟩
 ·refine((m.pm.append_right _).append_right _).trans ?_
  rw[tz,tz]
  have e1:a.toList++b.toList=a.toList.take ia++(a.toList.drop ia++b.toList):=by rw[<-tz,ZP]
  rw[e1]
  refine Yh _ ?_
  rw[<-tz,ZP]
  exact Zc
 ·refine Sd.app m.sb m.sa.right λx hx y hy=>?_
  rcases sK.mp hx with hx|hx
  ·exact m.sa.wj x hx y hy
  ·rw[e]at hy
   obtain rfl:y=z:=by simpa using hy
   exact hb x (YH hx)
structure Sm(st aU:SortSt):Prop where
 k:kindOf aU=kindOf st
 a:arrOf aU=arrOf st
 p:pendingOf aU=pendingOf st
 f:failedOf aU=failedOf st
theorem Sm.refl(st:SortSt):Sm st st:=⟨rfl,rfl,rfl,rfl⟩
theorem Sm.trans{st aU GC:SortSt}(x:Sm st aU)(y:Sm aU GC):Sm st GC:=⟨y.k.trans x.k,y.a.trans x.a,y.p.trans x.p,y.f.trans x.f⟩
section
variable{prog:Program}{w:World}{A:Around}{E:Value->Shared->Prop}{s:Shared}{kd:SortKind}{G:Keyed->Prop}{rk:Keyed->Nat}
theorem qY{M:Model}{g:Nat}{st:SortSt}{Q:Unit->SortSt->Prop}(q:∀aU,Sm st aU->Q () aU):wpS M A E s (pR g) Q st:=wpS_modify (q _ ⟨rfl,rfl,rfl,rfl⟩)
theorem uq{key:Keyed}{xs:Array Keyed}{b n:Nat}(h:Sd rk (xs.toList.drop b))(hn:b+n<=xs.size)(left:Bool):∀i j,i<=j->j<n->lg rk left key xs b j=true->lg rk left key xs b i=true:=by
 intro i j GB hj
 obtain⟨p,p1,p2,p3⟩:=dh (xs:=xs) (i:=b+i) (by omega)
 obtain⟨q,q1,q2,q3⟩:=dh (xs:=xs) (i:=b+j) (by omega)
 have:=tD h GB p1 q1
 unfold lg
 rw[Bu p2,Bu q2]
 cases left<;>simp<;>omega
theorem ur{key:Keyed}{xs:Array Keyed}{n:Nat}(h:Sd rk (xs.toList.take n))(hn:n<=xs.size)(left:Bool):∀i j,i<=j->j<n->lg rk left key xs 0 j=true->lg rk left key xs 0 i=true:=by
 intro i j GB hj
 obtain⟨p,p1,p2,p3⟩:=dh (xs:=xs) (i:=0+i) (by omega)
 obtain⟨q,q1,q2,q3⟩:=dh (xs:=xs) (i:=0+j) (by omega)
 have:=De h (i:=0+i) (j:=0+j) (by omega) (by omega) p1 q1
 unfold lg
 rw[Bu p2,Bu q2]
 cases left<;>simp<;>omega
theorem wq{key p:Keyed}{xs:Array Keyed}{b i:Nat}(hp:xs.toList[b+i]?=some p):lg rk true key xs b i=decide (rk p<rk key):=by
 unfold lg
 rw[xE hp]
 rfl
theorem wu{key p:Keyed}{xs:Array Keyed}{b i:Nat}(hp:xs.toList[b+i]?=some p):lg rk false key xs b i=decide (rk p<=rk key):=by
 unfold lg
 rw[xE hp,if_neg (by decide)]
 by_cases h:rk p<=rk key
 ·rw[decide_eq_true h,decide_eq_false (by omega)]
  rfl
 ·rw[decide_eq_false h,decide_eq_true (by omega)]
  rfl
end
section
variable{prog:Program}{w:World}{A:Around}{E:Value->Shared->Prop}{s:Shared}{kd:SortKind}{G:Keyed->Prop}{rk:Keyed->Nat}
theorem br{M:Model}{α:Type}{c:Prop}[Decidable c]{x y:StateT SortSt Sem α}{st:SortSt}{Q:α->SortSt->Prop}(h1:c->wpS M A E s x Q st)(h2:¬c->wpS M A E s y Q st):wpS M A E s (if c then x else y) Q st:=by
 by_cases h:c
 ·rw[if_pos h]
  exact h1 h
 ·rw[if_neg h]
  exact h2 h
theorem ML.uu{a b o:Array Keyed}{ia ib:Nat}(m:ML rk a.toList b.toList o.toList ia ib){p:Keyed}(hp:a.toList[ia]?=some p)(h:∀y∈b.toList.drop ib,rk p<=rk y):ML rk a.toList b.toList (o.push p).toList (ia+1) ib:=by
 have:=m.ga 1 (λx hx y hy=>by
  rw[jX hp]at hx
  obtain rfl:x=p:=by simpa using hx
  exact h y hy)
 rw[jX hp]at this
 rw[Z0]
 exact this
theorem ML.Df{a b o:Array Keyed}{ia ib:Nat}(m:ML rk a.toList b.toList o.toList ia ib){p:Keyed}(hp:b.toList[ib]?=some p)(h:∀y∈a.toList.drop ia,rk p<=rk y):ML rk a.toList b.toList (o.push p).toList ia (ib+1):=(m.swap.uu hp h).swap
theorem ML.Nq{a b o:Array Keyed}{ia ib:Nat}(m:ML rk a.toList b.toList o.toList ia ib)(k:Nat){p:Keyed}(hp:b.toList[ib]?=some p)(h:∀i,i<k->lg rk false p a ia i=true):ML rk a.toList b.toList (o++a.extract ia (ia+k)).toList (ia+k) ib:=by
 rw[ZN,kF]
 refine m.ga k λx hx y hy=>?_
 obtain⟨j,hj,ej⟩:=fm hx
 obtain⟨i,ei⟩:=kE hy
 have q1:=h j hj
 rw[wu ej]at q1
 exact ZB (of_decide_eq_true q1) (tD m.sb.right (ZI i) hp ei)
theorem ML.Nr{a b o:Array Keyed}{ia ib:Nat}(m:ML rk a.toList b.toList o.toList ia ib)(k:Nat){p:Keyed}(hp:a.toList[ia]?=some p)(h:∀i,i<k->lg rk true p b ib i=true):ML rk a.toList b.toList (o++b.extract ib (ib+k)).toList ia (ib+k):=by
 rw[ZN,kF]
 refine m.gb k λx hx y hy=>?_
 obtain⟨j,hj,ej⟩:=fm hx
 obtain⟨i,ei⟩:=kE hy
 have q1:=h j hj
 rw[wq ej]at q1
 exact ZB (Zm (of_decide_eq_true q1)) (tD m.sa.right (ZI i) hp ei)
theorem Nt{a:Array Keyed}{ia k n:Nat}{p:Keyed}(h:∀i,k<=i->i<n->lg rk false p a ia i=false)(hn:ia+n=a.size):∀y∈a.toList.drop (ia+k),rk p<=rk y:=λy hy=>by
 obtain⟨j,e⟩:=kE hy
 have hj:=(wS.mp e).1
 rw[v4]at hj
 have e':a.toList[ia+(k+j)]?=some y:=by rw[<-Zz];exact e
 have q:=h (k+j) (by omega) (by omega)
 rw[wu e']at q
 have:=of_decide_eq_false q
 omega
theorem Nu{a:Array Keyed}{ia k n:Nat}{p:Keyed}(h:∀i,k<=i->i<n->lg rk true p a ia i=false)(hn:ia+n=a.size):∀y∈a.toList.drop (ia+k),rk p<=rk y:=λy hy=>by
 obtain⟨j,e⟩:=kE hy
 have hj:=(wS.mp e).1
 rw[v4]at hj
 have e':a.toList[ia+(k+j)]?=some y:=by rw[<-Zz];exact e
 have q:=h (k+j) (by omega) (by omega)
 rw[wq e']at q
 have:=of_decide_eq_false q
 omega
abbrev LT:=Option (Array Keyed)×Array Keyed×Nat×Nat×Nat×Nat×Nat
abbrev LM:=StateT SortSt Sem (ForInStep LT)
abbrev Tg(a b o:Array Keyed)(i j g ac bc:Nat):LM:=elem' a i>>=λz=>if(i+1+1==a.size)=true then pure (.done (some (o.push z++b.extract j b.size++a.extract (i+1) a.size),o.push z,i+1,j,g,ac,bc))else if(decide (ac<7)&&decide (bc<7))=true then pure (.done (none,o.push z,i+1,j,g,ac,bc))else pure (.yield (none,o.push z,i+1,j,g,ac,bc))
abbrev Nv(a b o:Array Keyed)(i kb g ac:Nat)(x:Keyed)(j:Nat):LM:=if j>0 then(if(kb+1+j==b.size)=true then pure (.done (some (o.push x++b.extract (kb+1) (kb+1+j)++a.extract i a.size++b.extract (kb+1+j) b.size),o.push x++b.extract (kb+1) (kb+1+j),i,kb+1+j,g,ac,j))else Tg a b (o.push x++b.extract (kb+1) (kb+1+j)) i (kb+1+j) g ac j)else Tg a b (o.push x) i (kb+1) g ac j
abbrev Th(a b o:Array Keyed)(i kb g ac bc:Nat)(K:Keyed->Keyed->Option Nat->LM):LM:=elem' b kb>>=λx=>if(kb+1==b.size)=true then pure (.done (some (o.push x++a.extract i a.size++b.extract (kb+1) b.size),o.push x,i,kb+1,g,ac,bc))else elem' a i>>=λy=>pQ true y b (kb+1) (b.size-(kb+1)) 0>>=K x y
abbrev Ti(a b o:Array Keyed)(ka kb g bc k:Nat)(K1 K2:Keyed->Keyed->Option Nat->LM):LM:=if k>0 then(if(ka+k+1==a.size)=true then pure (.done (some (o++a.extract ka (ka+k)++b.extract kb b.size++a.extract (ka+k) a.size),o++a.extract ka (ka+k),ka+k,kb,g,k,bc))else if(ka+k==a.size)=true then pure (.done (some (o++a.extract ka (ka+k)++a.extract (ka+k) a.size++b.extract kb b.size),o++a.extract ka (ka+k),ka+k,kb,g,k,bc))else Th a b (o++a.extract ka (ka+k)) (ka+k) kb g k bc K1)else Th a b o ka kb g k bc K2
abbrev Tj(a b:Array Keyed)(ka kb:Nat)(K:Keyed->Option Nat->LM):LM:=elem' b kb>>=λx=>pQ false x a ka (a.size-ka) 0>>=K x
def Qw(rk:Keyed->Nat)(a b:Array Keyed)(st:SortSt)(n:Nat)(c:LT)(qL:SortSt):Prop:=Sm st qL/\∃o ka kb g ac bc,c=(none,o,ka,kb,g,ac,bc)/\ML rk a.toList b.toList o.toList ka kb/\ka+1<a.size/\kb<b.size/\n<=ka+kb
def Qx(rk:Keyed->Nat)(a b:Array Keyed)(st:SortSt)(n:Nat)(c:LT)(qL:SortSt):Prop:=Sm st qL/\((∃r rest,c=(some r,rest)/\Mg rk a.toList b.toList r)\/∃o ka kb g ac bc,c=(none,o,ka,kb,g,ac,bc)/\ML rk a.toList b.toList o.toList ka kb/\ka+1<a.size/\kb<b.size/\n<=ka+kb)
theorem LQ{a b o:Array Keyed}{st nT:SortSt}{i j g ac bc n:Nat}{pa:Keyed}{M:Model}{R:ForInStep LT->SortSt->Prop}(hD:∀c aU,Qx rk a b st n c aU->R (.done c) aU)(hY:∀c aU,Qw rk a b st n c aU->R (.yield c) aU)(jy:∀{o:Array Keyed} {ia ib:Nat},ML rk a.toList b.toList o.toList ia ib->ia+1=a.size->Mg rk a.toList b.toList (o++b.extract ib b.size++a.extract ia a.size))(qZ:Sm st nT)
  (m:ML rk a.toList b.toList o.toList i j)(hl:i+1<a.size)(hj:j<b.size)(hn:n<=i+1+j)(zp:a.toList[i]?=some pa)(vL:a[i]?=some pa)(rn:∀y∈b.toList.drop j,rk pa<=rk y):
  wpS M A E s (Tg a b o i j g ac bc) R nT:=by
 have m7:=m.uu zp rn
 refine wpS_bind (bX vL ?_)
 refine br (λe4=>wpS_pure (hD _ _ ⟨qZ,.inl ⟨_,_,rfl,jy m7 (by simpa using e4)⟩⟩)) (λe4=>?_)
 have O7:=hl
 refine br (λe5=>wpS_pure (hD _ _ ⟨qZ,.inr ⟨_,_,_,_,_,_,rfl,m7,?_,hj,?_⟩⟩)) (λe5=>wpS_pure (hY _ _ ⟨qZ,_,_,_,_,_,_,rfl,m7,?_,hj,?_⟩))
 all_goals
  simp at e4
  omega
theorem LR(C:zk prog w A E s kd G rk){a b o:Array Keyed}{st nT:SortSt}{i kb g ac bc n:Nat}{pb:Keyed}{R:ForInStep LT->SortSt->Prop}{K:Keyed->Keyed->Option Nat->LM}(hK:∀x y j,K x y (some j)=Nv a b o i kb g ac x j)(hD:∀c aU,Qx rk a b st n c aU->R (.done c) aU)(hY:∀c aU,Qw rk a b st n c aU->R (.yield c) aU)(GD:kindOf nT=kd)(ga:Gd G a)(gb:Gd G b)(jy:∀{o:Array Keyed} {ia ib:Nat},ML rk a.toList b.toList o.toList ia ib->ia+1=a.size->Mg rk a.toList b.toList (o++b.extract ib b.size++a.extract ia a.size))(qZ:Sm st nT)
  (mm:ML rk a.toList b.toList o.toList i kb)(hl:i+1<a.size)(f2:kb<b.size)(hn:n<=i+kb)(wx:b.toList[kb]?=some pb)(xF:b[kb]?=some pb)(rr:∀y∈a.toList.drop i,rk pb<=rk y):
  wpS (model prog w) A E s (Th a b o i kb g ac bc K) R nT:=by
 have m5:=mm.Df wx rr
 refine wpS_bind (bX xF ?_)
 refine br (λd1=>wpS_pure (hD _ _ ⟨qZ,.inl ⟨_,_,rfl,m5.wm (by simpa using d1)⟩⟩)) (λd1=>?_)
 have R7:kb+1<b.size:=by
  simp at d1
  omega
 obtain⟨pa,zp,vL,Nw⟩:=dh (xs:=a) (Nat.lt_of_succ_lt hl)
 refine wpS_bind (bX vL (wpS_bind (jq C (left:=true) (key:=pa) (xs:=b) (base:=kb+1) (n:=b.size-(kb+1)) (hint:=0) GD gb (ga _ Nw) (by omega) (by omega) (uq m5.sb.right (by omega) true) λj j1 j2 j3=>?_)))
 rw[hK]
 have m6:=m5.Nr j zp j2
 have r6:∀y∈b.toList.drop (kb+1+j),rk pa<=rk y:=Nu j3 (by omega)
 refine br (λjp=>br (λe3=>wpS_pure (hD _ _ ⟨qZ,.inl ⟨_,_,rfl,m6.wm (by simpa using e3)⟩⟩)) λe3=>?_) (λjp=>?_)
 ·have hn:kb+1+j<b.size:=by
    simp at e3
    omega
  exact LQ hD hY jy qZ m6 hl hn (by omega) zp vL r6
 ·obtain rfl:j=0:=by omega
  exact LQ hD hY jy qZ m5 hl R7 (by omega) zp vL r6
theorem LS(C:zk prog w A E s kd G rk){a b o:Array Keyed}{st nT:SortSt}{ka kb g bc n:Nat}{R:ForInStep LT->SortSt->Prop}{K0:Keyed->Option Nat->LM}{K1 K2:Nat->Keyed->Keyed->Option Nat->LM}(Nx:∀x k,K0 x (some k)=Ti a b o ka kb g bc k (K1 k) (K2 k))
  (Ny:∀k x y j,K1 k x y (some j)=Nv a b (o++a.extract ka (ka+k)) (ka+k) kb g k x j)(Nz:∀k x y j,K2 k x y (some j)=Nv a b o ka kb g k x j)(hD:∀c aU,Qx rk a b st n c aU->R (.done c) aU)(hY:∀c aU,Qw rk a b st n c aU->R (.yield c) aU)(GD:kindOf nT=kd)(ga:Gd G a)(gb:Gd G b)(jy:∀{o:Array Keyed} {ia ib:Nat},ML rk a.toList b.toList o.toList ia ib->ia+1=a.size->Mg rk a.toList b.toList (o++b.extract ib b.size++a.extract ia a.size))(qZ:Sm st nT)
  (m3:ML rk a.toList b.toList o.toList ka kb)(f1:ka+1<a.size)(f2:kb<b.size)(f3:n<=ka+kb):
  wpS (model prog w) A E s (Tj a b ka kb K0) R nT:=by
 obtain⟨pb,wx,xF,J7⟩:=dh (xs:=b) (i:=kb) (by omega)
 refine wpS_bind (bX xF (wpS_bind (jq C (left:=false) (key:=pb) (xs:=a) (base:=ka) (n:=a.size-ka) (hint:=0) GD ga (gb _ J7) (by omega) (by omega) (uq m3.sa.right (by omega) false) λk k1 k2 k3=>?_)))
 rw[Nx]
 have m4:=m3.Nq k wx k2
 have r4:∀y∈a.toList.drop (ka+k),rk pb<=rk y:=Nt k3 (by omega)
 refine br (λkp=>br (λe1=>wpS_pure (hD _ _ ⟨qZ,.inl ⟨_,_,rfl,jy m4 (by simpa using e1)⟩⟩)) λe1=>br (λe2=>wpS_pure (hD _ _ ⟨qZ,.inl ⟨_,_,rfl,m4.wo (by simpa using e2)⟩⟩)) λe2=>?_) (λkp=>?_)
 ·have hl:ka+k+1<a.size:=by
    simp at e1 e2
    omega
  exact LR C (Ny k) hD hY GD ga gb jy qZ m4 hl f2 (by omega) wx xF r4
 ·obtain rfl:k=0:=by omega
  exact LR C (Nz 0) hD hY GD ga gb jy qZ m3 f1 f2 f3 wx xF r4
theorem J8(C:zk prog w A E s kd G rk){a b:Array Keyed}{st bQ:SortSt}{lo hi n:Nat}{c0:LT}{f:Nat->LT->LM}{K0 L0:Array Keyed->Nat->Nat->Nat->Nat->Nat->Keyed->Option Nat->LM}{K1 K2 L1 L2:Array Keyed->Nat->Nat->Nat->Nat->Nat->Nat->Keyed->Keyed->Option Nat->LM}
  (hf:∀y o ka kb g ac bc,f y (none,o,ka,kb,g,ac,bc)=(if g>1 then pR (g-1)>>=λ_=>Tj a b ka kb (K0 o ka kb g ac bc)else pR g>>=λ_=>Tj a b ka kb (L0 o ka kb g ac bc)))
  (Nx:∀o ka kb g ac bc x k,K0 o ka kb g ac bc x (some k)=Ti a b o ka kb (g-1) bc k (K1 o ka kb g ac bc k) (K2 o ka kb g ac bc k))(Ny:∀o ka kb g ac bc k x y j,K1 o ka kb g ac bc k x y (some j)=Nv a b (o++a.extract ka (ka+k)) (ka+k) kb (g-1) k x j)(Nz:∀o ka kb g ac bc k x y j,K2 o ka kb g ac bc k x y (some j)=Nv a b o ka kb (g-1) k x j)
  (Tn:∀o ka kb g ac bc x k,L0 o ka kb g ac bc x (some k)=Ti a b o ka kb g bc k (L1 o ka kb g ac bc k) (L2 o ka kb g ac bc k))(To:∀o ka kb g ac bc k x y j,L1 o ka kb g ac bc k x y (some j)=Nv a b (o++a.extract ka (ka+k)) (ka+k) kb g k x j)(Tp:∀o ka kb g ac bc k x y j,L2 o ka kb g ac bc k x y (some j)=Nv a b o ka kb g k x j)
  (hk:kindOf st=kd)(ga:Gd G a)(gb:Gd G b)(jy:∀{o:Array Keyed} {ia ib:Nat},ML rk a.toList b.toList o.toList ia ib->ia+1=a.size->Mg rk a.toList b.toList (o++b.extract ib b.size++a.extract ia a.size))(h:Qw rk a b st n c0 bQ):
  wpS (model prog w) A E s (forIn [lo:hi] c0 f) (Qx rk a b st n) bQ:=by
 refine wpS_forRange (I:=λ_=>Qw rk a b st n) (Q:=Qx rk a b st n) ?gstep ?gfin h
 case gfin=>
  rintro c qL ⟨xG,r⟩
  exact⟨xG,.inr r⟩
 case gstep=>
  rintro y c qL-hy ⟨xG,o3,ka,kb,g,ac,bc,rfl,m3,f1,f2,f3⟩
  rw[hf]
  refine br (λ_=>wpS_bind (qY λnT Bv=>?_)) (λ_=>wpS_bind (qY λnT Bv=>?_))
  ·exact LS C (n:=n) (λx k=>Nx o3 ka kb g ac bc x k) (λk x y j=>Ny o3 ka kb g ac bc k x y j) (λk x y j=>Nz o3 ka kb g ac bc k x y j) (λ_ _ h=>h) (λ_ _ h=>h) ((xG.trans Bv).k.trans hk) ga gb jy (xG.trans Bv) m3 f1 f2 f3
  ·exact LS C (n:=n) (λx k=>Tn o3 ka kb g ac bc x k) (λk x y j=>To o3 ka kb g ac bc k x y j) (λk x y j=>Tp o3 ka kb g ac bc k x y j) (λ_ _ h=>h) (λ_ _ h=>h) ((xG.trans Bv).k.trans hk) ga gb jy (xG.trans Bv) m3 f1 f2 f3
theorem Bw(C:zk prog w A E s kd G rk){a b:Array Keyed}{st:SortSt}{Q:Array Keyed->SortSt->Prop}(hk:kindOf st=kd)(ga:Gd G a)(gb:Gd G b)(sa:Sd rk a.toList)(sb:Sd rk b.toList)(na:1<=a.size)(nb:1<=b.size)
  {p0 q0 z:Keyed}(VO:a.toList[0]?=some p0)(cw:b.toList[0]?=some q0)(h0:rk q0<=rk p0)(hz:a.toList[a.size-1]?=some z)(Tq:∀y∈b.toList,rk y<=rk z)
  (q:∀o aU,Sm st aU->Mg rk a.toList b.toList o->Q o aU):wpS (model prog w) A E s (Gy a b) Q st:=by
 refine wpS_bind (wpS_lift (wpAny_rule ⟨rfl,?_⟩))
 refine wpS_bind (bX (p:=q0) (by simpa using cw) ?_)
 have m0:ML rk a.toList b.toList (#[q0]:Array Keyed).toList 0 1:=by
  refine⟨?_,?_,?_⟩
  ·have:=jX cw
   simp at this
   simp[this]
  ·refine Sd.app (Sd.one q0) (by simpa using sa) λx hx y hy=>?_
   obtain rfl:x=q0:=by simpa using hx
   obtain⟨j,e⟩:=kE hy
   exact ZB h0 (uo sa (ZI _) VO e)
  ·have e:[q0]++b.toList.drop 1=b.toList:=by
     obtain⟨h1,e1⟩:=wS.mp cw
     have:=ZR h1
     rw[e1]at this
     simpa using this.symm
   show Sd rk ([q0]++b.toList.drop 1)
   rw[e]
   exact sb
 by_cases c1:1=b.size
 ·rw[if_pos (by simpa using c1)]
  exact wpS_pure (q _ _ (Sm.refl _) (m0.wm c1))
 rw[if_neg (by simpa using c1)]
 have jy:∀{o:Array Keyed} {ia ib:Nat},ML rk a.toList b.toList o.toList ia ib->ia+1=a.size->Mg rk a.toList b.toList (o++b.extract ib b.size++a.extract ia a.size):=λ{o ia ib} m e=>m.last e (by rw[show ia=a.size-1 by omega];exact hz) Tq
 by_cases c2:0+1=a.size
 ·rw[if_pos (by simpa using c2)]
  exact wpS_pure (q _ _ (Sm.refl _) (jy m0 c2))
 rw[if_neg (by simpa using c2)]
 refine wpS_bind (wpS_get ?_)
 dsimp only
 refine wpS_bind (wpS_mono (wpS_forRange (I:=λx c aU=>Sm st aU/\∃o ia ib g,c=(none,o,ia,ib,g)/\ML rk a.toList b.toList o.toList ia ib/\ia+1<a.size/\ib<b.size/\x+1<=ia+ib)
  (Q:=λc aU=>Sm st aU/\∃r rest,c=(some r,rest)/\Mg rk a.toList b.toList r) ?step ?fin ⟨Sm.refl _,_,0,1,_,rfl,m0,by omega,by omega,by omega⟩) ?post)
 case post=>
  rintro c aU ⟨sm,r,rest,rfl,mg⟩
  exact wpS_pure (q r aU sm mg)
 case fin=>
  rintro c aU ⟨-,o,ia,ib,g,-,-,h1,h2,h3⟩
  omega
 case step=>
  rintro x c aU-hx ⟨sm,o,ia,ib,g,rfl,m,h1,h2,h3⟩
  dsimp only
  refine wpS_bind (wpS_mono (wpS_forRange (I:=λy c bQ=>Sm st bQ/\∃o ja jb ac bc,c=(none,o,ja,jb,ac,bc)/\ML rk a.toList b.toList o.toList ja jb/\ja+1<a.size/\jb<b.size/\ia+ib+y<=ja+jb)
   (Q:=λc bQ=>Sm st bQ/\((∃r rest,c=(some r,rest)/\Mg rk a.toList b.toList r)\/∃o ja jb ac bc,c=(none,o,ja,jb,ac,bc)/\ML rk a.toList b.toList o.toList ja jb/\ja+1<a.size/\jb<b.size/\ia+ib+1<=ja+jb))
   ?istep ?ifin ⟨sm,_,ia,ib,0,0,rfl,m,h1,h2,by omega⟩) ?ipost)
  case ifin=>
   rintro c bQ ⟨-,o,ja,jb,ac,bc,-,-,g1,g2,g3⟩
   omega
  case istep=>
   rintro y c bQ-hy ⟨qM,o2,ja,jb,ac,bc,rfl,m2,g1,g2,g3⟩
   dsimp only
   obtain⟨pa,zp,vL,Nw⟩:=dh (xs:=a) (i:=ja) (by omega)
   obtain⟨pb,wx,xF,J7⟩:=dh (xs:=b) (i:=jb) (by omega)
   refine wpS_bind (bX xF (wpS_bind (bX vL (wpS_bind (C pb pa bQ _ (qM.k.trans hk) (gb _ J7) (ga _ Nw) ?_)))))
   by_cases hw:rk pb<rk pa
   ·rw[decide_eq_true hw]
    refine wpS_bind (bX xF ?_)
    have m3:ML rk a.toList b.toList (o2.push pb).toList ja (jb+1):=by
     rw[Z0]
     exact m2.pb zp wx (Zm hw)
    by_cases d1:jb+1=b.size
    ·rw[if_pos (by simpa using d1)]
     exact wpS_pure ⟨qM,.inl ⟨_,_,rfl,m3.wm d1⟩⟩
    rw[if_neg (by simpa using d1)]
    by_cases d2:bc+1≥g
    ·rw[if_pos d2]
     exact wpS_pure ⟨qM,.inr ⟨_,ja,jb+1,_,_,rfl,m3,g1,by omega,by omega⟩⟩
    ·rw[if_neg d2]
     exact wpS_pure ⟨qM,_,ja,jb+1,_,_,rfl,m3,g1,by omega,by omega⟩
   ·rw[decide_eq_false hw]
    refine wpS_bind (bX vL ?_)
    have m3:ML rk a.toList b.toList (o2.push pa).toList (ja+1) jb:=by
     rw[Z0]
     exact m2.pa zp wx (by omega)
    by_cases d1:ja+1+1=a.size
    ·rw[if_pos (by simpa using d1)]
     exact wpS_pure ⟨qM,.inl ⟨_,_,rfl,jy m3 d1⟩⟩
    rw[if_neg (by simpa using d1)]
    by_cases d2:ac+1≥g
    ·rw[if_pos d2]
     exact wpS_pure ⟨qM,.inr ⟨_,ja+1,jb,_,_,rfl,m3,by omega,g2,by omega⟩⟩
    ·rw[if_neg d2]
     exact wpS_pure ⟨qM,_,ja+1,jb,_,_,rfl,m3,by omega,g2,by omega⟩
  case ipost=>
   rintro c bQ ⟨qM,⟨r,rest,rfl,mg⟩|⟨o2,ja,jb,ac,bc,rfl,m2,g1,g2,g3⟩⟩
   ·exact wpS_pure ⟨qM,_,_,rfl,mg⟩
   dsimp only
   refine wpS_bind (wpS_lift (wpAny_rule ⟨rfl,?_⟩))
   refine wpS_bind (wpS_mono (J8 C (n:=ja+jb) (λ_ _ _ _ _ _ _=>rfl) (λ_ _ _ _ _ _ _ _=>rfl) (λ_ _ _ _ _ _ _ _ _ _=>rfl) (λ_ _ _ _ _ _ _ _ _ _=>rfl) (λ_ _ _ _ _ _ _ _=>rfl) (λ_ _ _ _ _ _ _ _ _ _=>rfl) (λ_ _ _ _ _ _ _ _ _ _=>rfl) hk ga gb jy ⟨qM,_,ja,jb,_,_,_,rfl,m2,g1,g2,by omega⟩) ?gpost)
   case gpost=>
    rintro c qL ⟨xG,⟨r,rest,rfl,mg⟩|⟨o3,ka,kb,g,ac,bc,rfl,m3,f1,f2,f3⟩⟩
    ·exact wpS_pure ⟨xG,_,_,rfl,mg⟩
    dsimp only
    refine wpS_bind (qY λnT Bv=>wpS_pure ⟨xG.trans Bv,_,ka,kb,_,rfl,m3,f1,f2,by omega⟩)
end
structure MH(rk:Keyed->Nat)(la lb o:List Keyed)(na nb:Nat):Prop where
 pm:o.Perm (la.drop na++lb.drop nb)
 sa:Sd rk (la.take na++o)
 sb:Sd rk (lb.take nb++o)
theorem J9(l:List Keyed){i n:Nat}(h:i<=n):l.take n=l.take i++(l.drop i).take (n-i):=by
 rw[<-Yz]
 congr 1
 omega
theorem Dg(l:List Keyed){i n:Nat}(h:i<=n):l.drop i=(l.drop i).take (n-i)++l.drop n:=by
 have:l.drop n=(l.drop i).drop (n-i):=by
  rw[Yv]
  congr 1
  omega
 rw[this,ZP]
theorem MH.ga{rk:Keyed->Nat}{la lb o:List Keyed}{na nb:Nat}(m:MH rk la lb o na nb)(i:Nat)(hi:i<=na)(h:∀x∈(la.drop i).take (na-i),∀y∈lb.take nb,rk y<=rk x):MH rk la lb ((la.drop i).take (na-i)++o) i nb:=by
 have e:=J9 la hi
 refine⟨?_,?_,?_⟩
 ·refine(m.pm.append_left _).trans ?_
  rw[<-tz,<-Dg la hi]
 ·rw[<-tz,<-e]
  exact m.sa
 ·have s1:=m.sa
  rw[e,tz]at s1
  refine Sd.app m.sb.left s1.right λx hx y hy=>?_
  rcases sK.mp hy with hy|hy
  ·exact h y hy x hx
  ·exact m.sb.wj x hx y hy
theorem MH.swap{rk:Keyed->Nat}{la lb o:List Keyed}{na nb:Nat}(m:MH rk la lb o na nb):MH rk lb la o nb na:=⟨m.pm.trans Zc,m.sb,m.sa⟩
theorem zq{l:List Keyed}{n:Nat}{p:Keyed}(hn:1<=n)(h:l[n-1]?=some p):(l.drop (n-1)).take (n-(n-1))=[p]:=by
 rw[show n-(n-1)=1 by omega]
 exact jX h
section
variable{prog:Program}{w:World}{A:Around}{E:Value->Shared->Prop}{s:Shared}{kd:SortKind}{G:Keyed->Prop}{rk:Keyed->Nat}
theorem MH.uu{a b o:Array Keyed}{na nb:Nat}(m:MH rk a.toList b.toList o.toList.reverse na nb)(hn:1<=na){p:Keyed}(hp:a.toList[na-1]?=some p)(h:∀y∈b.toList.take nb,rk y<=rk p):MH rk a.toList b.toList (o.push p).toList.reverse (na-1) nb:=by
 have:=m.ga (na-1) (by omega) (λx hx y hy=>by
  rw[zq hn hp]at hx
  obtain rfl:x=p:=by simpa using hx
  exact h y hy)
 rw[zq hn hp]at this
 rw[Z0,List.reverse_append]
 exact this
theorem MH.Df{a b o:Array Keyed}{na nb:Nat}(m:MH rk a.toList b.toList o.toList.reverse na nb)(hn:1<=nb){p:Keyed}(hp:b.toList[nb-1]?=some p)(h:∀y∈a.toList.take na,rk y<=rk p):MH rk a.toList b.toList (o.push p).toList.reverse na (nb-1):=(m.swap.uu hn hp h).swap
theorem zr{xs o:Array Keyed}{i n:Nat}(h:i<=n):(o++(xs.extract i n).reverse).toList.reverse=(xs.toList.drop i).take (n-i)++o.toList.reverse:=by
 rw[ZN,List.reverse_append,YI,List.reverse_reverse]
 congr 1
 have:=kF (xs:=xs) (i:=i) (k:=n-i)
 rw[show i+(n-i)=n by omega]at this
 exact this
theorem le_last{l:List Keyed}{n:Nat}{p y:Keyed}(h:Sd rk (l.take n))(hn:1<=n)(hp:l[n-1]?=some p)(hy:y∈l.take n):rk y<=rk p:=by
 obtain⟨j,hj,e⟩:=um hy
 exact De h (by omega) (by omega) e hp
theorem MH.Nq{a b o:Array Keyed}{na nb i:Nat}(m:MH rk a.toList b.toList o.toList.reverse na nb)(hi:i<=na){p:Keyed}(hn:1<=nb)(hp:b.toList[nb-1]?=some p)(h:∀j,i<=j->j<na->lg rk false p a 0 j=false):MH rk a.toList b.toList (o++(a.extract i na).reverse).toList.reverse i nb:=by
 rw[zr hi]
 refine m.ga i hi λx hx y hy=>?_
 obtain⟨j,hj,ej⟩:=fm hx
 have q1:=h (i+j) (by omega) (by omega)
 rw[wu (by rw[Z4];exact ej)]at q1
 have q2:=of_decide_eq_false q1
 have q3:=le_last m.sb.left hn hp hy
 omega
theorem MH.Nr{a b o:Array Keyed}{na nb i:Nat}(m:MH rk a.toList b.toList o.toList.reverse na nb)(hi:i<=nb){p:Keyed}(hn:1<=na)(hp:a.toList[na-1]?=some p)(h:∀j,i<=j->j<nb->lg rk true p b 0 j=false):MH rk a.toList b.toList (o++(b.extract i nb).reverse).toList.reverse na i:=by
 rw[zr hi]
 refine(m.swap.ga i hi λx hx y hy=>?_).swap
 obtain⟨j,hj,ej⟩:=fm hx
 have q1:=h (i+j) (by omega) (by omega)
 rw[wq (by rw[Z4];exact ej)]at q1
 have q2:=of_decide_eq_false q1
 have q3:=le_last m.sa.left hn hp hy
 omega
theorem NA{a:Array Keyed}{k:Nat}{p:Keyed}(h:∀i,i<k->lg rk false p a 0 i=true):∀y∈a.toList.take k,rk y<=rk p:=λy hy=>by
 obtain⟨j,hj,e⟩:=um hy
 have q:=h j hj
 rw[wu (by rw[Z4];exact e)]at q
 exact of_decide_eq_true q
theorem NB{a:Array Keyed}{k:Nat}{p:Keyed}(h:∀i,i<k->lg rk true p a 0 i=true):∀y∈a.toList.take k,rk y<=rk p:=λy hy=>by
 obtain⟨j,hj,e⟩:=um hy
 have q:=h j hj
 rw[wq (by rw[Z4];exact e)]at q
 exact Zm (of_decide_eq_true q)
theorem kG{xs:Array Keyed}{n:Nat}:(xs.extract 0 n).toList=xs.toList.take n:=by
 have:=kF (xs:=xs) (i:=0) (k:=n)
 simpa using this
theorem MH.wo{a b o:Array Keyed}{na nb:Nat}(m:MH rk a.toList b.toList o.toList.reverse na nb)(h:na=0):Mg rk a.toList b.toList (a.extract 0 na++b.extract 0 nb++o.reverse):=by
 unfold Mg
 rw[ZN,ZN,kG,kG,YI]
 have q:=m.pm
 subst h
 rw[Z2]at q
 rw[List.take_zero,XX]
 refine⟨?_,m.sb⟩
 refine(q.append_left _).trans ?_
 refine Zc.trans ?_
 rw[tz]
 refine Yh _ (Zc.trans ?_)
 rw[ZP]
theorem MH.wm{a b o:Array Keyed}{na nb:Nat}(m:MH rk a.toList b.toList o.toList.reverse na nb)(h:nb=0):Mg rk a.toList b.toList (a.extract 0 na++b.extract 0 nb++o.reverse):=by
 unfold Mg
 rw[ZN,ZN,kG,kG,YI]
 have q:=m.pm
 subst h
 rw[Z2]at q
 rw[List.take_zero,ZL]
 refine⟨?_,m.sa⟩
 refine(q.append_left _).trans ?_
 rw[<-tz,ZP]
theorem MH.first{a b o:Array Keyed}{na nb:Nat}(m:MH rk a.toList b.toList o.toList.reverse na nb)(h:nb=1){z:Keyed}(hz:b.toList[0]?=some z)(ha:∀y∈a.toList,rk z<=rk y):Mg rk a.toList b.toList (b.extract 0 nb++a.extract 0 na++o.reverse):=by
 unfold Mg
 rw[ZN,ZN,kG,kG,YI]
 subst h
 have e:b.toList.take 1=[z]:=by
  have:=jX hz
  simpa using this
 refine⟨?_,?_⟩
 ·refine(m.pm.append_left _).trans ?_
  have e1:a.toList++b.toList=a.toList++(b.toList.take 1++b.toList.drop 1):=by rw[ZP]
  have e2:(b.toList.take 1++a.toList.take na)++(a.toList.drop na++b.toList.drop 1)=b.toList.take 1++(a.toList++b.toList.drop 1):=by
   rw[tz,<-tz (a.toList.take na),ZP]
  rw[e1,e2,<-tz,<-tz]
  exact Zc.append_right _
 ·rw[tz]
  refine Sd.app m.sb.left m.sa λx hx y hy=>?_
  rw[e]at hx
  obtain rfl:x=z:=by simpa using hx
  rcases sK.mp hy with hy|hy
  ·exact ha y (YJ hy)
  ·exact m.sb.wj x (by rw[e];simp) y hy
abbrev HT:=Option (Array Keyed)×Nat×Nat×Array Keyed×Nat×Nat×Nat
abbrev HM:=StateT SortSt Sem (ForInStep HT)
abbrev Tr(a b o:Array Keyed)(i j g ac bc:Nat):HM:=elem' a (i-1)>>=λz=>if(i-1==0)=true then pure (.done (some (a.extract 0 (i-1)++b.extract 0 j++(o.push z).reverse),i-1,j,o.push z,g,ac,bc))else if(decide (ac<7)&&decide (bc<7))=true then pure (.done (none,i-1,j,o.push z,g,ac,bc))else pure (.yield (none,i-1,j,o.push z,g,ac,bc))
abbrev NC(a b o:Array Keyed)(k kb g ac:Nat)(x:Keyed)(j:Nat):HM:=if kb-1-j>0 then(if(j==1)=true then pure (.done (some (b.extract 0 j++a.extract 0 k++(o.push x++(b.extract j (kb-1)).reverse).reverse),k,j,o.push x++(b.extract j (kb-1)).reverse,g,ac,kb-1-j))else if(j==0)=true then pure (.done (some (a.extract 0 k++b.extract 0 j++(o.push x++(b.extract j (kb-1)).reverse).reverse),k,j,o.push x++(b.extract j (kb-1)).reverse,g,ac,kb-1-j))else Tr a b (o.push x++(b.extract j (kb-1)).reverse) k j g ac (kb-1-j))else Tr a b (o.push x) k (kb-1) g ac (kb-1-j)
abbrev Ts(a b o:Array Keyed)(k kb g ac bc:Nat)(K:Keyed->Keyed->Option Nat->HM):HM:=elem' b (kb-1)>>=λx=>if(kb-1==1)=true then pure (.done (some (b.extract 0 (kb-1)++a.extract 0 k++(o.push x).reverse),k,kb-1,o.push x,g,ac,bc))else elem' a (k-1)>>=λy=>pQ true y b 0 (kb-1) (kb-1-1)>>=K x y
abbrev Tt(a b o:Array Keyed)(ka kb g bc k:Nat)(K1 K2:Keyed->Keyed->Option Nat->HM):HM:=if ka-k>0 then(if(k==0)=true then pure (.done (some (a.extract 0 k++b.extract 0 kb++(o++(a.extract k ka).reverse).reverse),k,kb,o++(a.extract k ka).reverse,g,ka-k,bc))else Ts a b (o++(a.extract k ka).reverse) k kb g (ka-k) bc K1)else Ts a b o ka kb g (ka-k) bc K2
abbrev Tu(a b:Array Keyed)(ka kb:Nat)(K:Keyed->Option Nat->HM):HM:=elem' b (kb-1)>>=λx=>pQ false x a 0 ka (ka-1)>>=K x
def Qy(rk:Keyed->Nat)(a b:Array Keyed)(st:SortSt)(n:Nat)(c:HT)(qL:SortSt):Prop:=
 Sm st qL/\∃ka kb o g ac bc,c=(none,ka,kb,o,g,ac,bc)/\MH rk a.toList b.toList o.toList.reverse ka kb/\1<=ka/\2<=kb/\ka<=a.size/\kb<=b.size/\ka+kb<=n
def Qz(rk:Keyed->Nat)(a b:Array Keyed)(st:SortSt)(n:Nat)(c:HT)(qL:SortSt):Prop:=
 Sm st qL/\((∃r rest,c=(some r,rest)/\Mg rk a.toList b.toList r)\/∃ka kb o g ac bc,c=(none,ka,kb,o,g,ac,bc)/\MH rk a.toList b.toList o.toList.reverse ka kb/\1<=ka/\2<=kb/\ka<=a.size/\kb<=b.size/\ka+kb<=n)
theorem LU{a b o:Array Keyed}{st nT:SortSt}{i j g ac bc n:Nat}{pa:Keyed}{M:Model}{R:ForInStep HT->SortSt->Prop}(hD:∀c aU,Qz rk a b st n c aU->R (.done c) aU)(hY:∀c aU,Qy rk a b st n c aU->R (.yield c) aU)(qZ:Sm st nT)(m:MH rk a.toList b.toList o.toList.reverse i j)(hi:1<=i)(ia:i<=a.size)(hj:2<=j)(jb:j<=b.size)(hn:i-1+j<=n)
  (zp:a.toList[i-1]?=some pa)(vL:a[i-1]?=some pa)(rn:∀y∈b.toList.take j,rk y<=rk pa):
  wpS M A E s (Tr a b o i j g ac bc) R nT:=by
 have m7:=m.uu hi zp rn
 refine wpS_bind (bX vL ?_)
 refine br (λe4=>wpS_pure (hD _ _ ⟨qZ,.inl ⟨_,_,rfl,m7.wo (by simpa using e4)⟩⟩)) (λe4=>?_)
 have Xs:¬i-1=0:=by simpa using e4
 refine br (λe5=>wpS_pure (hD _ _ ⟨qZ,.inr ⟨_,_,_,_,_,_,rfl,m7,?_,hj,?_,?_,?_⟩⟩)) (λe5=>wpS_pure (hY _ _ ⟨qZ,_,_,_,_,_,_,rfl,m7,?_,hj,?_,?_,?_⟩))
 all_goals omega
theorem LV(C:zk prog w A E s kd G rk){a b o:Array Keyed}{st nT:SortSt}{k kb g ac bc n:Nat}{pb q0:Keyed}{R:ForInStep HT->SortSt->Prop}{K:Keyed->Keyed->Option Nat->HM}(hK:∀x y j,K x y (some j)=NC a b o k kb g ac x j)(hD:∀c aU,Qz rk a b st n c aU->R (.done c) aU)(hY:∀c aU,Qy rk a b st n c aU->R (.yield c) aU)(GD:kindOf nT=kd)(ga:Gd G a)(gb:Gd G b)(cw:b.toList[0]?=some q0)(h0:∀y∈a.toList,rk q0<=rk y)(qZ:Sm st nT)
  (mm:MH rk a.toList b.toList o.toList.reverse k kb)(hl:1<=k)(ha:k<=a.size)(f2:2<=kb)(f4:kb<=b.size)(hn:k+kb<=n)(wx:b.toList[kb-1]?=some pb)(xF:b[kb-1]?=some pb)(rr:∀y∈a.toList.take k,rk y<=rk pb):
  wpS (model prog w) A E s (Ts a b o k kb g ac bc K) R nT:=by
 have m5:=mm.Df (by omega) wx rr
 refine wpS_bind (bX xF ?_)
 refine br (λd1=>wpS_pure (hD _ _ ⟨qZ,.inl ⟨_,_,rfl,m5.first (by simpa using d1) cw h0⟩⟩)) (λd1=>?_)
 have R7:¬kb-1=1:=by simpa using d1
 obtain⟨pa,zp,vL,Nw⟩:=dh (xs:=a) (i:=k-1) (by omega)
 refine wpS_bind (bX vL (wpS_bind (jq C (left:=true) (key:=pa) (xs:=b) (base:=0) (n:=kb-1) (hint:=kb-1-1) GD gb (ga _ Nw) (by omega) (by omega) (ur m5.sb.left (by omega) true) λj j1 j2 j3=>?_)))
 rw[hK]
 have m6:=m5.Nr j1 hl zp j3
 have r6:∀y∈b.toList.take j,rk y<=rk pa:=NB j2
 refine br (λjp=>br (λe3=>wpS_pure (hD _ _ ⟨qZ,.inl ⟨_,_,rfl,m6.first (by simpa using e3) cw h0⟩⟩)) λe3=>br (λe4=>wpS_pure (hD _ _ ⟨qZ,.inl ⟨_,_,rfl,m6.wm (by simpa using e4)⟩⟩)) λe4=>?_) (λjp=>?_)
 ·have hn:2<=j:=by
    have:¬j=1:=by simpa using e3
    have:¬j=0:=by simpa using e4
    omega
  exact LU (o:=o.push pb++(b.extract j (kb-1)).reverse) (i:=k) (j:=j) (g:=g) (ac:=ac) (bc:=kb-1-j) (n:=n) (pa:=pa) hD hY qZ m6 hl ha hn (by omega) (by omega) zp vL r6
 ·obtain rfl:j=kb-1:=by omega
  exact LU (o:=o.push pb) (i:=k) (j:=kb-1) (g:=g) (ac:=ac) (bc:=kb-1-(kb-1)) (n:=n) (pa:=pa) hD hY qZ m5 hl ha (by omega) (by omega) (by omega) zp vL r6
theorem LW(C:zk prog w A E s kd G rk){a b o:Array Keyed}{st nT:SortSt}{ka kb g bc n:Nat}{q0:Keyed}{R:ForInStep HT->SortSt->Prop}{K0:Keyed->Option Nat->HM}{K1 K2:Nat->Keyed->Keyed->Option Nat->HM}(Nx:∀x k,K0 x (some k)=Tt a b o ka kb g bc k (K1 k) (K2 k))
  (Ny:∀k x y j,K1 k x y (some j)=NC a b (o++(a.extract k ka).reverse) k kb g (ka-k) x j)(Nz:∀k x y j,K2 k x y (some j)=NC a b o ka kb g (ka-k) x j)(hD:∀c aU,Qz rk a b st n c aU->R (.done c) aU)(hY:∀c aU,Qy rk a b st n c aU->R (.yield c) aU)(GD:kindOf nT=kd)(ga:Gd G a)(gb:Gd G b)(cw:b.toList[0]?=some q0)(h0:∀y∈a.toList,rk q0<=rk y)(qZ:Sm st nT)
  (m3:MH rk a.toList b.toList o.toList.reverse ka kb)(f1:1<=ka)(f2:2<=kb)(f3:ka<=a.size)(f4:kb<=b.size)(f5:ka+kb<=n):
  wpS (model prog w) A E s (Tu a b ka kb K0) R nT:=by
 obtain⟨pb,wx,xF,J7⟩:=dh (xs:=b) (i:=kb-1) (by omega)
 refine wpS_bind (bX xF (wpS_bind (jq C (left:=false) (key:=pb) (xs:=a) (base:=0) (n:=ka) (hint:=ka-1) GD ga (gb _ J7) (by omega) (by omega) (ur m3.sa.left (by omega) false) λk k1 k2 k3=>?_)))
 rw[Nx]
 have m4:=m3.Nq k1 (by omega) wx k3
 have r4:∀y∈a.toList.take k,rk y<=rk pb:=NA k2
 refine br (λkp=>br (λe1=>wpS_pure (hD _ _ ⟨qZ,.inl ⟨_,_,rfl,m4.wo (by simpa using e1)⟩⟩)) λe1=>?_) (λkp=>?_)
 ·have hl:1<=k:=by
    have:¬k=0:=by simpa using e1
    omega
  exact LV C (Ny k) hD hY GD ga gb cw h0 qZ m4 hl (by omega) f2 f4 (by omega) wx xF r4
 ·obtain rfl:k=ka:=by omega
  exact LV C (Nz k) hD hY GD ga gb cw h0 qZ m3 f1 f3 f2 f4 f5 wx xF r4
theorem Ka(C:zk prog w A E s kd G rk){a b:Array Keyed}{st bQ:SortSt}{lo hi n:Nat}{c0:HT}{q0:Keyed}{f:Nat->HT->HM}{K0 L0:Nat->Nat->Array Keyed->Nat->Nat->Nat->Keyed->Option Nat->HM}{K1 K2 L1 L2:Nat->Nat->Array Keyed->Nat->Nat->Nat->Nat->Keyed->Keyed->Option Nat->HM}
  (hf:∀y ka kb o g ac bc,f y (none,ka,kb,o,g,ac,bc)=(if g>1 then pR (g-1)>>=λ_=>Tu a b ka kb (K0 ka kb o g ac bc)else pR g>>=λ_=>Tu a b ka kb (L0 ka kb o g ac bc)))
  (Nx:∀ka kb o g ac bc x k,K0 ka kb o g ac bc x (some k)=Tt a b o ka kb (g-1) bc k (K1 ka kb o g ac bc k) (K2 ka kb o g ac bc k))(Ny:∀ka kb o g ac bc k x y j,K1 ka kb o g ac bc k x y (some j)=NC a b (o++(a.extract k ka).reverse) k kb (g-1) (ka-k) x j)(Nz:∀ka kb o g ac bc k x y j,K2 ka kb o g ac bc k x y (some j)=NC a b o ka kb (g-1) (ka-k) x j)
  (Tn:∀ka kb o g ac bc x k,L0 ka kb o g ac bc x (some k)=Tt a b o ka kb g bc k (L1 ka kb o g ac bc k) (L2 ka kb o g ac bc k))(To:∀ka kb o g ac bc k x y j,L1 ka kb o g ac bc k x y (some j)=NC a b (o++(a.extract k ka).reverse) k kb g (ka-k) x j)(Tp:∀ka kb o g ac bc k x y j,L2 ka kb o g ac bc k x y (some j)=NC a b o ka kb g (ka-k) x j)
  (hk:kindOf st=kd)(ga:Gd G a)(gb:Gd G b)(cw:b.toList[0]?=some q0)(h0:∀y∈a.toList,rk q0<=rk y)(h:Qy rk a b st n c0 bQ):
  wpS (model prog w) A E s (forIn [lo:hi] c0 f) (Qz rk a b st n) bQ:=by
 refine wpS_forRange (I:=λ_=>Qy rk a b st n) (Q:=Qz rk a b st n) ?gstep ?gfin h
 case gfin=>
  rintro c qL ⟨xG,r⟩
  exact⟨xG,.inr r⟩
 case gstep=>
  rintro y c qL-hy ⟨xG,ka,kb,o3,g,ac,bc,rfl,m3,f1,f2,f3,f4,f5⟩
  rw[hf]
  refine br (λ_=>wpS_bind (qY λnT Bv=>?_)) (λ_=>wpS_bind (qY λnT Bv=>?_))
  ·exact LW C (n:=n) (λx k=>Nx ka kb o3 g ac bc x k) (λk x y j=>Ny ka kb o3 g ac bc k x y j) (λk x y j=>Nz ka kb o3 g ac bc k x y j) (λ_ _ h=>h) (λ_ _ h=>h) ((xG.trans Bv).k.trans hk) ga gb cw h0 (xG.trans Bv) m3 f1 f2 f3 f4 f5
  ·exact LW C (n:=n) (λx k=>Tn ka kb o3 g ac bc x k) (λk x y j=>To ka kb o3 g ac bc k x y j) (λk x y j=>Tp ka kb o3 g ac bc k x y j) (λ_ _ h=>h) (λ_ _ h=>h) ((xG.trans Bv).k.trans hk) ga gb cw h0 (xG.trans Bv) m3 f1 f2 f3 f4 f5
theorem Bx(C:zk prog w A E s kd G rk){a b:Array Keyed}{st:SortSt}{Q:Array Keyed->SortSt->Prop}(hk:kindOf st=kd)(ga:Gd G a)(gb:Gd G b)(sa:Sd rk a.toList)(sb:Sd rk b.toList)(na:1<=a.size)(nb:1<=b.size)
  {q0 z:Keyed}(cw:b.toList[0]?=some q0)(h0:∀y∈a.toList,rk q0<=rk y)(hz:a.toList[a.size-1]?=some z)(Tq:∀y∈b.toList,rk y<=rk z)
  (q:∀o aU,Sm st aU->Mg rk a.toList b.toList o->Q o aU):wpS (model prog w) A E s (Gz a b) Q st:=by
 refine wpS_bind (wpS_lift (wpAny_rule ⟨rfl,?_⟩))
 refine wpS_bind (bX (p:=z) (by simpa using hz) ?_)
 have fa:a.toList.take a.size=a.toList:=ZX (by simp)
 have fb:b.toList.take b.size=b.toList:=ZX (by simp)
 have VP:MH rk a.toList b.toList (#[]:Array Keyed).toList.reverse a.size b.size:=by
  refine⟨?_,?_,?_⟩
  ·rw[ZU (by simp),ZU (by simp)]
   exact YE _
  ·rw[fa]
   simpa using sa
  ·rw[fb]
   simpa using sb
 have m0:MH rk a.toList b.toList (#[z]:Array Keyed).toList.reverse (a.size-1) b.size:=VP.uu na hz (by rw[fb];exact Tq)
 have GF:∀{o:Array Keyed} {ia ib:Nat},MH rk a.toList b.toList o.toList.reverse ia ib->ib=1->Mg rk a.toList b.toList (b.extract 0 ib++a.extract 0 ia++o.reverse):=λ{o ia ib} m e=>m.first e cw h0
 refine br (λc1=>wpS_pure (q _ _ (Sm.refl _) (m0.wo (by simpa using c1)))) (λc1=>?_)
 refine br (λc2=>wpS_pure (q _ _ (Sm.refl _) (GF m0 (by simpa using c2)))) (λc2=>?_)
 have Xu:¬a.size-1=0:=by simpa using c1
 have Xv:¬b.size=1:=by simpa using c2
 refine wpS_bind (wpS_get ?_)
 dsimp only
 refine wpS_bind (wpS_mono (wpS_forRange (I:=λx c aU=>Sm st aU/\∃ia ib o g,c=(none,ia,ib,o,g)/\MH rk a.toList b.toList o.toList.reverse ia ib/\1<=ia/\2<=ib/\ia<=a.size/\ib<=b.size/\ia+ib+x+1<=a.size+b.size)
  (Q:=λc aU=>Sm st aU/\∃r rest,c=(some r,rest)/\Mg rk a.toList b.toList r) ?step ?fin ⟨Sm.refl _,a.size-1,b.size,_,_,rfl,m0,by omega,by omega,by omega,by omega,by omega⟩) ?post)
 case post=>
  rintro c aU ⟨sm,r,rest,rfl,mg⟩
  exact wpS_pure (q r aU sm mg)
 case fin=>
  rintro c aU ⟨-,ia,ib,o,g,-,-,h1,h2,h3,h4,h5⟩
  omega
 case step=>
  rintro x c aU-hx ⟨sm,ia,ib,o,g,rfl,m,h1,h2,h3,h4,h5⟩
  dsimp only
  refine wpS_bind (wpS_mono (wpS_forRange (I:=λy c bQ=>Sm st bQ/\∃ja jb o ac bc,c=(none,ja,jb,o,ac,bc)/\MH rk a.toList b.toList o.toList.reverse ja jb/\1<=ja/\2<=jb/\ja<=a.size/\jb<=b.size/\ja+jb+y<=ia+ib)
   (Q:=λc bQ=>Sm st bQ/\((∃r rest,c=(some r,rest)/\Mg rk a.toList b.toList r)\/∃ja jb o ac bc,c=(none,ja,jb,o,ac,bc)/\MH rk a.toList b.toList o.toList.reverse ja jb/\1<=ja/\2<=jb/\ja<=a.size/\jb<=b.size/\ja+jb+1<=ia+ib))
   ?istep ?ifin ⟨sm,ia,ib,_,0,0,rfl,m,h1,h2,h3,h4,by omega⟩) ?ipost)
  case ifin=>
   rintro c bQ ⟨-,ja,jb,o,ac,bc,-,-,g1,g2,g3,g4,g5⟩
   omega
  case istep=>
   rintro y c bQ-hy ⟨qM,ja,jb,o2,ac,bc,rfl,m2,g1,g2,g3,g4,g5⟩
   dsimp only
   obtain⟨pa,zp,vL,Nw⟩:=dh (xs:=a) (i:=ja-1) (by omega)
   obtain⟨pb,wx,xF,J7⟩:=dh (xs:=b) (i:=jb-1) (by omega)
   refine wpS_bind (bX xF (wpS_bind (bX vL (wpS_bind (C pb pa bQ _ (qM.k.trans hk) (gb _ J7) (ga _ Nw) ?_)))))
   by_cases hw:rk pb<rk pa
   ·rw[decide_eq_true hw]
    refine wpS_bind (bX vL ?_)
    have m3:=m2.uu g1 zp λy hy=>ZB (le_last m2.sb.left (by omega) wx hy) (Zm hw)
    refine br (λd1=>wpS_pure ⟨qM,.inl ⟨_,_,rfl,m3.wo (by simpa using d1)⟩⟩) (λd1=>?_)
    have R7:¬ja-1=0:=by simpa using d1
    refine br (λd2=>wpS_pure ⟨qM,.inr ⟨ja-1,jb,_,_,_,rfl,m3,by omega,by omega,by omega,by omega,by omega⟩⟩) (λd2=>wpS_pure ⟨qM,ja-1,jb,_,_,_,rfl,m3,by omega,by omega,by omega,by omega,by omega⟩)
   ·rw[decide_eq_false hw]
    refine wpS_bind (bX xF ?_)
    have m3:=m2.Df (by omega) wx λy hy=>ZB (le_last m2.sa.left g1 zp hy) (by omega)
    refine br (λd1=>wpS_pure ⟨qM,.inl ⟨_,_,rfl,GF m3 (by simpa using d1)⟩⟩) (λd1=>?_)
    have R7:¬jb-1=1:=by simpa using d1
    refine br (λd2=>wpS_pure ⟨qM,.inr ⟨ja,jb-1,_,_,_,rfl,m3,by omega,by omega,by omega,by omega,by omega⟩⟩) (λd2=>wpS_pure ⟨qM,ja,jb-1,_,_,_,rfl,m3,by omega,by omega,by omega,by omega,by omega⟩)
  case ipost=>
   rintro c bQ ⟨qM,⟨r,rest,rfl,mg⟩|⟨ja,jb,o2,ac,bc,rfl,m2,g1,g2,g3,g4,g5⟩⟩
   ·exact wpS_pure ⟨qM,_,_,rfl,mg⟩
   dsimp only
   refine wpS_bind (wpS_lift (wpAny_rule ⟨rfl,?_⟩))
   refine wpS_bind (wpS_mono (Ka C (n:=ja+jb) (λ_ _ _ _ _ _ _=>rfl) (λ_ _ _ _ _ _ _ _=>rfl) (λ_ _ _ _ _ _ _ _ _ _=>rfl) (λ_ _ _ _ _ _ _ _ _ _=>rfl) (λ_ _ _ _ _ _ _ _=>rfl) (λ_ _ _ _ _ _ _ _ _ _=>rfl) (λ_ _ _ _ _ _ _ _ _ _=>rfl) hk ga gb cw h0 ⟨qM,ja,jb,_,_,_,_,rfl,m2,g1,g2,g3,g4,by omega⟩) ?gpost)
   case gpost=>
    rintro c qL ⟨xG,⟨r,rest,rfl,mg⟩|⟨ka,kb,o3,g,ac,bc,rfl,m3,f1,f2,f3,f4,f5⟩⟩
    ·exact wpS_pure ⟨xG,_,_,rfl,mg⟩
    dsimp only
    refine wpS_bind (qY λnT Bv=>wpS_pure ⟨xG.trans Bv,ka,kb,_,_,rfl,m3,f1,f2,f3,f4,by omega⟩)
end
theorem eu{l:List Keyed}{b n i:Nat}(h:i<n):((l.drop b).take n)[i]?=l[b+i]?:=by
 rw[Zy,if_pos h,Z7]
theorem zt{l m:List Keyed}{b n:Nat}(h:∀i,b<=i->i<b+n->l[i]?=m[i]?):(l.drop b).take n=(m.drop b).take n:=by
 apply List.ext_getElem?
 intro i
 rw[Zy,Zy]
 split
 ·rw[Z7,Z7]
  exact h _ (by omega) (by omega)
 ·rfl
theorem jY{l:List Keyed}{b n:Nat}(h:b+n<=l.length):((l.drop b).take n).length=n:=by
 rw[ZM,ZY]
 omega
theorem Dh(p:Nat):∀(m:List Keyed) (xs:Array Keyed) (c:Nat),p+c+m.length<=xs.size->
  ((m.zipIdx c).foldl (λa x=>a.setIfInBounds (p+x.2) x.1) xs).toList=xs.toList.take (p+c)++m++xs.toList.drop (p+c+m.length)
 |[],xs,c,h=>by simp
 |y::m,xs,c,h=>by
  rw[List.zipIdx_cons,Zl]
  rw[ul]at h
  have ih:=Dh p m (xs.setIfInBounds (p+c) y) (c+1) (by rw[Array.size_setIfInBounds];omega)
  dsimp only
  rw[ih,Y0,show p+(c+1)=p+c+1 by omega]
  have h1:(xs.toList.set (p+c) y).take (p+c+1)=xs.toList.take (p+c)++[y]:=by
   rw[List.take_add_one,List.take_set_of_le (wr _),YC (by rw[v4];omega)]
   rfl
  have h2:(xs.toList.set (p+c) y).drop (p+c+1+m.length)=xs.toList.drop (p+c+(y::m).length):=by
   rw[List.drop_set_of_lt (by omega),ul]
   congr 1
   omega
  rw[h1,h2,tz,tz,tz]
  rfl
theorem ig(l:List Keyed)(b n m:Nat):(l.drop b).take (n+m)=(l.drop b).take n++(l.drop (b+n)).take m:=by rw[Yz,Yv]
theorem q9(l:List Keyed)(b n:Nat):l=l.take b++(l.drop b).take n++l.drop (b+n):=by
 rw[tz,<-Yv,ZP,ZP]
theorem xH{l:List Keyed}{b n i:Nat}{p:Keyed}(h:l[b+i]?=some p)(hi:i<n):p∈(l.drop b).take n:=Zf (by rw[eu hi];exact h)
theorem ND{M:Model}{A:Around}{E:Value->Shared->Prop}{s:Shared}{st aU:SortSt}{Q:PUnit->SortSt->Prop}(h:Q ⟨⟩ aU):wpS M A E s (set aU:StateT SortSt Sem PUnit) Q st:=by
 unfold wpS
 rw[StateT.run_set]
 exact wpAny_pure ⟨rfl,h⟩
section
variable{prog:Program}{w:World}{A:Around}{E:Value->Shared->Prop}{s:Shared}{kd:SortKind}{G:Keyed->Prop}{rk:Keyed->Nat}
theorem uv{key:Keyed}{xs:Array Keyed}{b n:Nat}(h:Sd rk ((xs.toList.drop b).take n))(hn:b+n<=xs.size)(left:Bool):∀i j,i<=j->j<n->lg rk left key xs b j=true->lg rk left key xs b i=true:=by
 intro i j GB hj
 obtain⟨p,p1,p2,p3⟩:=dh (xs:=xs) (i:=b+i) (by omega)
 obtain⟨q,q1,q2,q3⟩:=dh (xs:=xs) (i:=b+j) (by omega)
 have:=uo h GB (by rw[eu (by omega)];exact p1) (by rw[eu hj];exact q1)
 unfold lg
 rw[Bu p2,Bu q2]
 cases left<;>simp<;>omega
theorem By(C:zk prog w A E s kd G rk){i sa na pw nb R8:Nat}{st:SortSt}{Q:Bool->SortSt->Prop}(hk:kindOf st=kd)(gG:Gd G (arrOf st))(hf:failedOf st=none)
  (h1:(pendingOf st)[i]?=some (sa,na,pw))(h2:(pendingOf st)[i+1]?=some (sa+na,nb,R8))(h3:1<=na)(h4:1<=nb)(h5:sa+na+nb<=(arrOf st).size)
  (s1:Sd rk (((arrOf st).toList.drop sa).take na))(s2:Sd rk (((arrOf st).toList.drop (sa+na)).take nb))
  (q:∀aU m,kindOf aU=kd->failedOf aU=none->pendingOf aU=((pendingOf st).setIfInBounds i (sa,na+nb,pw)).eraseIdxIfInBounds (i+1)->
    (arrOf aU).toList=(arrOf st).toList.take sa++m++(arrOf st).toList.drop (sa+na+nb)->m.Perm (((arrOf st).toList.drop sa).take (na+nb))->Sd rk m->Q true aU):wpS (model prog w) A E s (mergeAt' i) Q st:=by
 refine wpS_bind (wpS_get ?_)
 rw[show(sortPriv% PySem.Builtin.SortState.pending) st=pendingOf st from rfl]
 rw[h1,h2]
 dsimp only
 refine wpS_bind (ND ?_)
 obtain⟨pb,wx,xF,J7⟩:=dh (xs:=arrOf st) (i:=sa+na) (by omega)
 refine wpS_bind (bX xF (wpS_bind (jq C (left:=false) (key:=pb) (xs:=arrOf st) (base:=sa) (n:=na) (hint:=0) hk gG (gG _ J7) (by omega) (by omega) (uv s1 (by omega) false) λk k1 k2 k3=>?_)))
 dsimp only
 have b0:∀y∈((arrOf st).toList.drop (sa+na)).take nb,rk pb<=rk y:=λy hy=>by
  obtain⟨j,hj,e⟩:=fm hy
  exact uo s2 (ZI j) (by rw[eu (by omega)];exact wx) (by rw[eu hj];exact e)
 have a1:∀x∈((arrOf st).toList.drop sa).take k,rk x<=rk pb:=λx hx=>by
  obtain⟨j,hj,e⟩:=fm hx
  have q1:=k2 j hj
  rw[wu e]at q1
  exact of_decide_eq_true q1
 refine br (λe1=>?_) (λe1=>?_)
 ·obtain rfl:k=na:=by
    have:na-k=0:=by simpa using e1
    omega
  refine wpS_pure (q _ (((arrOf st).toList.drop sa).take (k+nb)) hk hf rfl ?_ (YE _) ?_)
  ·rw[Zz]
   exact q9 _ _ _
  ·rw[ig]
   exact Sd.app s1 s2 λx hx y hy=>ZB (a1 x hx) (b0 y hy)
 have LX:¬na-k=0:=by simpa using e1
 have gk:=k3 k (wr _) (by omega)
 obtain⟨pz,UP,VQ,VR⟩:=dh (xs:=arrOf st) (i:=sa+k+(na-k)-1) (by omega)
 refine wpS_bind (bX VQ (wpS_bind (jq C (left:=true) (key:=pz) (xs:=arrOf st) (base:=sa+na) (n:=nb) (hint:=nb-1) hk gG (gG _ VR) (by omega) (by omega) (uv s2 (by omega) true) λj j1 j2 j3=>?_)))
 have Tv:(arrOf st).toList[sa+(na-1)]?=some pz:=by rw[<-UP];congr 1;omega
 have az:∀x∈((arrOf st).toList.drop sa).take na,rk x<=rk pz:=λx hx=>by
  obtain⟨i,hi,e⟩:=fm hx
  exact uo s1 (show i<=na-1 by omega) (by rw[eu hi];exact e) (by rw[eu (by omega)];exact Tv)
 have b2:∀y∈((arrOf st).toList.drop (sa+na+j)).take (nb-j),rk pz<=rk y:=λy hy=>by
  obtain⟨i,hi,e⟩:=fm hy
  have q1:=j3 (j+i) (by omega) (by omega)
  rw[wq (by rw[<-Zz];exact e)]at q1
  have:=of_decide_eq_false q1
  omega
 refine br (λe2=>?_) (λe2=>?_)
 ·obtain rfl:j=0:=by simpa using e2
  refine wpS_pure (q _ (((arrOf st).toList.drop sa).take (na+nb)) hk hf rfl ?_ (YE _) ?_)
  ·rw[Zz]
   exact q9 _ _ _
  ·rw[ig]
   exact Sd.app s1 s2 λx hx y hy=>ZB (az x hx) (b2 y hy)
 have R9:¬j=0:=by simpa using e2
 have ex:((arrOf st).extract (sa+k) (sa+na)).toList=((arrOf st).toList.drop (sa+k)).take (na-k):=by
  rw[show sa+na=sa+k+(na-k) by omega]
  exact kF
 have ey:((arrOf st).extract (sa+na) (sa+na+j)).toList=((arrOf st).toList.drop (sa+na)).take j:=kF
 have Pf:=s1
 have Js:=s2
 rw[show na=k+(na-k) by omega,ig]at Pf
 rw[show nb=j+(nb-j) by omega,ig]at Js
 have xl:((arrOf st).extract (sa+k) (sa+na)).size=na-k:=by
  rw[<-v4,ex,jY (by rw[v4];omega)]
 have yl:((arrOf st).extract (sa+na) (sa+na+j)).size=j:=by
  rw[<-v4,ey,jY (by rw[v4];omega)]
 have gx:Gd G ((arrOf st).extract (sa+k) (sa+na)):=λp hp=>gG p (by
  rw[ex]at hp
  exact YH (YJ hp))
 have gy:Gd G ((arrOf st).extract (sa+na) (sa+na+j)):=λp hp=>gG p (by
  rw[ey]at hp
  exact YH (YJ hp))
 obtain⟨pk,Sa,Xw,Xx⟩:=dh (xs:=arrOf st) (i:=sa+k) (by omega)
 rw[wu Sa]at gk
 have Xy:=of_decide_eq_false gk
 have UQ:((arrOf st).extract (sa+na) (sa+na+j)).toList[0]?=some pb:=by
  rw[ey,eu (by omega)]
  exact wx
 have PD:((arrOf st).extract (sa+k) (sa+na)).toList[0]?=some pk:=by
  rw[ex,eu (by omega)]
  exact Sa
 have UR:((arrOf st).extract (sa+k) (sa+na)).toList[((arrOf st).extract (sa+k) (sa+na)).size-1]?=some pz:=by
  rw[xl,ex,eu (by omega),<-UP]
  congr 1
  omega
 have US:∀y∈((arrOf st).extract (sa+na) (sa+na+j)).toList,rk y<=rk pz:=λy hy=>by
  rw[ey]at hy
  obtain⟨i,hi,e⟩:=fm hy
  have q1:=j2 i hi
  rw[wq e]at q1
  exact Zm (of_decide_eq_true q1)
 have UT:∀x∈((arrOf st).extract (sa+k) (sa+na)).toList,rk pb<=rk x:=λx hx=>by
  rw[ex]at hx
  obtain⟨i,hi,e⟩:=fm hx
  have:=uo Pf.right (ZI i) (by rw[eu (by omega)];exact Sa) (by rw[eu hi];exact e)
  omega
 have fin:∀(o:Array Keyed) (bQ:SortSt),kindOf bQ=kd->arrOf bQ=arrOf st->failedOf bQ=none->pendingOf bQ=((pendingOf st).setIfInBounds i (sa,na+nb,pw)).eraseIdxIfInBounds (i+1)->
   Mg rk ((arrOf st).extract (sa+k) (sa+na)).toList ((arrOf st).extract (sa+na) (sa+na+j)).toList o->
   Q true (SortSt.mk' (kindOf bQ) (o.toList.zipIdx.foldl (λa x=>a.setIfInBounds (sa+k+x.2) x.1) (arrOf bQ)) (pendingOf bQ) (gallopOf bQ) (failedOf bQ)):=by
  intro o bQ t1 t2 t3 t4 mg
  obtain⟨pm,so⟩:=mg
  rw[ex,ey]at pm
  have ol:o.toList.length=na-k+j:=by
   rw[pm.length_eq,ZD,jY (by rw[v4];omega),jY (by rw[v4];omega)]
  refine q _ (((arrOf st).toList.drop sa).take k++o.toList++((arrOf st).toList.drop (sa+na+j)).take (nb-j)) t1 t3 t4 ?_ ?_ ?_
  ·show(o.toList.zipIdx.foldl (λa x=>a.setIfInBounds (sa+k+x.2) x.1) (arrOf bQ)).toList=_
   rw[Dh (sa+k) o.toList (arrOf bQ) 0 (by rw[t2,ol];omega),t2,ol]
   have f1:(arrOf st).toList.take (sa+k+0)=(arrOf st).toList.take sa++((arrOf st).toList.drop sa).take k:=by rw[Nat.add_zero,Yz]
   have f2:(arrOf st).toList.drop (sa+k+0+(na-k+j))=((arrOf st).toList.drop (sa+na+j)).take (nb-j)++(arrOf st).toList.drop (sa+na+nb):=by
    rw[show sa+k+0+(na-k+j)=sa+na+j by omega]
    have:=Dg (arrOf st).toList (show sa+na+j<=sa+na+nb by omega)
    rw[show sa+na+nb-(sa+na+j)=nb-j by omega]at this
    exact this
   rw[f1,f2]
   simp only[tz]
  ·have g1:((arrOf st).toList.drop sa).take (na+nb)=((arrOf st).toList.drop sa).take k++(((arrOf st).toList.drop (sa+k)).take (na-k)++((arrOf st).toList.drop (sa+na)).take j)++((arrOf st).toList.drop (sa+na+j)).take (nb-j):=by
     rw[ig _ sa na nb]
     have u1:=ig (arrOf st).toList sa k (na-k)
     have u2:=ig (arrOf st).toList (sa+na) j (nb-j)
     rw[show k+(na-k)=na by omega]at u1
     rw[show j+(nb-j)=nb by omega]at u2
     rw[u1,u2]
     simp only[tz]
   rw[g1]
   exact(pm.append_left _).append_right _
  ·have hA:∀x∈((arrOf st).toList.drop sa).take k,∀y∈o.toList,rk x<=rk y:=λx hx y hy=>by
     rcases sK.mp (pm.mem_iff.mp hy)with hy|hy
     ·exact Pf.wj x hx y hy
     ·refine ZB (a1 x hx) (b0 y ?_)
      obtain⟨i,hi,e⟩:=fm hy
      exact xH e (by omega)
   have hB:∀x∈o.toList,∀y∈((arrOf st).toList.drop (sa+na+j)).take (nb-j),rk x<=rk y:=λx hx y hy=>by
    rcases sK.mp (pm.mem_iff.mp hx)with hx|hx
    ·refine ZB (az x ?_) (b2 y hy)
     obtain⟨i,hi,e⟩:=fm hx
     exact xH (i:=k+i) (by rw[<-Zz];exact e) (by omega)
    ·exact Js.wj x hx y hy
   refine Sd.app (Sd.app Pf.left so hA) Js.right λx hx y hy=>?_
   rcases sK.mp hx with hx|hx
   ·exact ZB (a1 x hx) (ZB (UT pk (Zf PD)) (ZB (az pk (xH Sa (by omega))) (b2 y hy)))
   ·exact hB x hx y hy
 refine br (λe3=>?_) (λe3=>?_)
 ·refine wpS_bind (Bw C hk gx gy (by rw[ex];exact Pf.right) (by rw[ey];exact Js.left) (by rw[xl];omega) (by rw[yl];omega) PD UQ (by omega) UR US λo bQ sm mg=>?_)
  refine wpS_bind (wpS_modify (wpS_bind (wpS_get (wpS_pure ?_))))
  have ff:failedOf bQ=none:=sm.f.trans hf
  have:=fin o bQ (sm.k.trans hk) sm.a ff sm.p mg
  show Q (Option.isNone (failedOf bQ)) _
  rw[ff]
  exact this
 ·refine wpS_bind (Bx C hk gx gy (by rw[ex];exact Pf.right) (by rw[ey];exact Js.left) (by rw[xl];omega) (by rw[yl];omega) UQ UT UR US λo bQ sm mg=>?_)
  refine wpS_bind (wpS_modify (wpS_bind (wpS_get (wpS_pure ?_))))
  have ff:failedOf bQ=none:=sm.f.trans hf
  have:=fin o bQ (sm.k.trans hk) sm.a ff sm.p mg
  show Q (Option.isNone (failedOf bQ)) _
  rw[ff]
  exact this
end
structure Bs(kd:SortKind)(a₀:Array Keyed)(st:SortSt):Prop where
 pm:(arrOf st).Perm a₀
 k:kindOf st=kd
 f:failedOf st=none
theorem Bs.size{kd:SortKind}{a₀:Array Keyed}{st:SortSt}(B:Bs kd a₀ st):(arrOf st).size=a₀.size:=B.pm.size_eq
theorem Bs.gd{kd:SortKind}{a₀:Array Keyed}{st:SortSt}{G:Keyed->Prop}(B:Bs kd a₀ st)(g:Gd G a₀):Gd G (arrOf st):=λp hp=>g p ((YL.mp B.pm).mem_iff.mp hp)
theorem Bs.arr{kd:SortKind}{a₀:Array Keyed}{st:SortSt}(B:Bs kd a₀ st){xs:Array Keyed}(h:xs.Perm (arrOf st)):Bs kd a₀ (setArr st xs):=⟨h.trans B.pm,B.k,B.f⟩
def Up(rk:Keyed->Nat)(xs:Array Keyed)(lo hi:Nat):Prop:=∀i j,lo<=i->i<=j->j<hi->R rk xs i<=R rk xs j
def Dn(rk:Keyed->Nat)(xs:Array Keyed)(lo hi:Nat):Prop:=∀i j,lo<=i->i<=j->j<hi->R rk xs j<=R rk xs i
def Kp(lo:Nat)(st aU:SortSt):Prop:=(∀k,k<lo->(arrOf aU)[k]?=(arrOf st)[k]?)/\pendingOf aU=pendingOf st
theorem Kp.refl(lo:Nat)(st:SortSt):Kp lo st st:=⟨λ_ _=>rfl,rfl⟩
theorem Kp.trans{lo:Nat}{st aU GC:SortSt}(x:Kp lo st aU)(y:Kp lo aU GC):Kp lo st GC:=⟨λk h=>(y.1 k h).trans (x.1 k h),y.2.trans x.2⟩
theorem pS{rk:Keyed->Nat}{xs ys:Array Keyed}{i j:Nat}(h:xs[i]?=ys[j]?):R rk xs i=R rk ys j:=by
 unfold R
 rw[h]
theorem Up.sd{rk:Keyed->Nat}{xs:Array Keyed}{lo n:Nat}(h:Up rk xs lo (lo+n))(hn:lo+n<=xs.size):Sd rk ((xs.toList.drop lo).take n):=by
 refine Y4.mpr λi j hi hj GB=>?_
 have hl:((xs.toList.drop lo).take n).length=n:=jY (by rw[v4];exact hn)
 have q:=h (lo+i) (lo+j) (by omega) (by omega) (by omega)
 rw[xE (p:=((xs.toList.drop lo).take n)[i]) (by rw[<-eu (n:=n) (by omega)];exact wn hi),xE (p:=((xs.toList.drop lo).take n)[j]) (by rw[<-eu (n:=n) (by omega)];exact wn hj)]at q
 exact q
theorem GG{rk:Keyed->Nat}{xs:Array Keyed}{i j:Nat}(hj:j<=xs.size)(k:Nat):R rk (mirror xs i j ((j-i)/2)) k=if i<=k/\k<j then R rk xs (i+j-1-k)else R rk xs k:=by
 have e:=getElem?_mirror_all (i:=i) hj k
 split
 ·rename_i h
  rw[if_pos h]at e
  exact pS e
 ·rename_i h
  rw[if_neg h]at e
  exact pS e
theorem mD{rk:Keyed->Nat}{xs:Array Keyed}{i j:Nat}(hj:j<=xs.size)(h:∀k,i<=k->k<j->R rk xs k=R rk xs (j-1))(k:Nat):R rk (mirror xs i j ((j-i)/2)) k=R rk xs k:=by
 rw[GG hj]
 split
 ·rw[h _ (by omega) (by omega),h k (by omega) (by omega)]
 ·rfl
theorem LY{rk:Keyed->Nat}{xs:Array Keyed}{src d:Nat}(hs:src<xs.size)(hd:d<=src)(k:Nat):R rk (bubble xs src d) k=if k=src-d then R rk xs src else if src-d<k/\k<=src then R rk xs (k-1)else R rk xs k:=by
 have e:=getElem?_bubble hs d hd k
 by_cases h1:k=src-d
 ·rw[if_pos h1]at e
  rw[if_pos h1]
  exact pS e
 ·rw[if_neg h1]at e
  rw[if_neg h1]
  by_cases h2:src-d<k/\k<=src
  ·rw[if_pos h2]at e
   rw[if_pos h2]
   exact pS e
  ·rw[if_neg h2]at e
   rw[if_neg h2]
   exact pS e
section
variable{prog:Program}{w:World}{A:Around}{E:Value->Shared->Prop}{s:Shared}{kd:SortKind}{G:Keyed->Prop}{rk:Keyed->Nat}{a₀:Array Keyed}
theorem wy(C:zk prog w A E s kd G rk)(g:Gd G a₀){st:SortSt}(B:Bs kd a₀ st){i j:Nat}{Q:Option Bool->SortSt->Prop}(hi:i<a₀.size)(hj:j<a₀.size)(q:Q (some (decide (R rk (arrOf st) i<R rk (arrOf st) j))) st):wpS (model prog w) A E s (ltAt' i j) Q st:=by
 obtain⟨p,p1,p2,p3⟩:=(B.gd g).at (rk:=rk) (i:=i) (by rw[B.size];exact hi)
 obtain⟨r,r1,r2,r3⟩:=(B.gd g).at (rk:=rk) (i:=j) (by rw[B.size];exact hj)
 rw[p3,r3]at q
 rw[ltAt'_eq]
 exact wpS_bind (wpS_get (wpS_bind (bX p1 (wpS_bind (bX r1 (C p r st Q B.k p2 r2 q))))))
theorem xI{M:Model}{i j:Nat}{st:SortSt}{Q:Unit->SortSt->Prop}(q:Q () (setArr st (mirror (arrOf st) i j ((j-i)/2)))):wpS M A E s (reverseSlice' i j) Q st:=by
 rw[reverseSlice'_eq]
 exact wpS_modify q
theorem vM(C:zk prog w A E s kd G rk)(g:Gd G a₀){lo n ok:Nat}{st:SortSt}{Q:Bool->SortSt->Prop}(B:Bs kd a₀ st)(hn:lo+n<=a₀.size)(dE:ok<=n)(h1:1<=ok)(u:Up rk (arrOf st) lo (lo+ok))
  (q:∀aU,Bs kd a₀ aU->Kp lo st aU->Up rk (arrOf aU) lo (lo+n)->Q true aU):wpS (model prog w) A E s (binarySort' lo n ok) Q st:=by
 rw[binarySort'_eq]
 refine wpS_bind (wpS_mono (wpS_forRange (I:=λk c aU=>c=(none,())/\k<=n/\Bs kd a₀ aU/\Kp lo st aU/\Up rk (arrOf aU) lo (lo+k))
  (Q:=λc aU=>c=(none,())/\Bs kd a₀ aU/\Kp lo st aU/\Up rk (arrOf aU) lo (lo+n)) ?step ?fin ⟨rfl,by omega,B,Kp.refl _ _,by rw[show max ok 1=ok by omega];exact u⟩) ?post)
 case post=>
  rintro c aU ⟨rfl,x1,x2,x3⟩
  exact wpS_pure (q aU x1 x2 x3)
 case fin=>
  rintro c aU ⟨rfl,h2,x1,x2,x3⟩
  rw[show max (max ok 1) n=n by omega]at x3
  exact⟨rfl,x1,x2,x3⟩
 case step=>
  rintro k c aU Xz XA ⟨rfl,-,B1,K1,u1⟩
  have LZ:lo+k<a₀.size:=by omega
  refine wpS_bind (wpS_mono (wpS_forRange (I:=λx c bQ=>bQ=aU/\∃l r,c=(none,l,r)/\l<=r/\r<=k/\r-l<=k-x/\(∀i,i<l->R rk (arrOf aU) (lo+i)<=R rk (arrOf aU) (lo+k))/\∀i,r<=i->i<k->R rk (arrOf aU) (lo+k)<R rk (arrOf aU) (lo+i))
   (Q:=λc bQ=>bQ=aU/\∃l r,c=(none,l,r)/\l<=k/\(∀i,i<l->R rk (arrOf aU) (lo+i)<=R rk (arrOf aU) (lo+k))/\∀i,l<=i->i<k->R rk (arrOf aU) (lo+k)<R rk (arrOf aU) (lo+i)) ?istep ?ifin
   ⟨rfl,0,k,rfl,by omega,by omega,by omega,λi hi=>by omega,λi h1 h2=>by omega⟩) ?ipost)
  case ifin=>
   rintro c bQ ⟨rfl,l,r,rfl,a1,a2,a3,a4,a5⟩
   obtain rfl:l=r:=by omega
   exact⟨rfl,l,l,rfl,a2,a4,a5⟩
  case istep=>
   rintro x c bQ-hx ⟨rfl,l,r,rfl,a1,a2,a3,a4,a5⟩
   dsimp only
   refine br (λd=>?_) (λd=>?_)
   ·obtain rfl:l=r:=by omega
    exact wpS_pure ⟨rfl,l,l,rfl,a2,a4,a5⟩
   ·refine wpS_bind (wy C g B1 LZ (by omega) ?_)
    by_cases hl:R rk (arrOf bQ) (lo+k)<R rk (arrOf bQ) (lo+(l+r)/2)
    ·rw[decide_eq_true hl]
     refine wpS_pure ⟨rfl,l,(l+r)/2,rfl,by omega,by omega,by omega,a4,λi b1 b2=>?_⟩
     exact wv hl (u1 _ _ (by omega) (by omega) (by omega))
    ·rw[decide_eq_false hl]
     refine wpS_pure ⟨rfl,(l+r)/2+1,r,rfl,by omega,by omega,by omega,λi b1=>?_,a5⟩
     exact ZB (u1 (lo+i) (lo+(l+r)/2) (by omega) (by omega) (by omega)) (by omega)
  case ipost=>
   rintro c bQ ⟨rfl,l,r,rfl,a1,a2,a3⟩
   dsimp only
   rw[moveDown'_eq]
   have oh:lo+k<(arrOf bQ).size:=by rw[B1.size];exact LZ
   refine wpS_bind (wpS_modify (wpS_pure ⟨rfl,by omega,B1.arr (bubble_perm _ _ _),K1.trans ⟨λi hi=>?_,rfl⟩,?_⟩))
   ·show(bubble (arrOf bQ) (lo+k) (lo+k-(lo+l)))[i]?=_
    rw[getElem?_bubble oh _ (by omega),if_neg (by omega),if_neg (by omega)]
   ·intro i j h1 h2 h3
    show R rk (bubble (arrOf bQ) (lo+k) (lo+k-(lo+l))) i<=R rk (bubble (arrOf bQ) (lo+k) (lo+k-(lo+l))) j
    rw[LY oh (by omega),LY oh (by omega),show lo+k-(lo+k-(lo+l))=lo+l by omega]
    have v1:∀i,lo<=i->i<lo+l->R rk (arrOf bQ) i<=R rk (arrOf bQ) (lo+k):=λi b1 b2=>by
     have:=a2 (i-lo) (by omega)
     rw[show lo+(i-lo)=i by omega]at this
     exact this
    have v2:∀i,lo+l<=i->i<lo+k->R rk (arrOf bQ) (lo+k)<=R rk (arrOf bQ) i:=λi b1 b2=>by
     have:=a3 (i-lo) (by omega) (by omega)
     rw[show lo+(i-lo)=i by omega]at this
     exact Zm this
    repeat' split
    all_goals first
     |(exfalso;omega)
     |exact wr _
     |exact v1 _ (by omega) (by omega)
     |exact v2 _ (by omega) (by omega)
     |exact u1 _ _ (by omega) (by omega) (by omega)
end
section
variable{prog:Program}{w:World}{A:Around}{E:Value->Shared->Prop}{s:Shared}{kd:SortKind}{G:Keyed->Prop}{rk:Keyed->Nat}{a₀:Array Keyed}
theorem Up.more{xs:Array Keyed}{lo x:Nat}(u:Up rk xs lo (lo+x))(h1:1<=x)(h:¬R rk xs (lo+x)<R rk xs (lo+x-1)):Up rk xs lo (lo+(x+1)):=λi j a b c=>by
 by_cases hj:j<lo+x
 ·exact u i j a b hj
 ·obtain rfl:j=lo+x:=by omega
  by_cases hi:i=lo+x
  ·subst hi
   exact wr _
  ·exact ZB (u i (lo+x-1) a (by omega) (by omega)) (by omega)
theorem Up.one{xs:Array Keyed}(lo:Nat):Up rk xs lo (lo+1):=λi j a b c=>by
 obtain rfl:i=j:=by omega
 exact wr _
theorem NF{xs:Array Keyed}{lo x:Nat}(d:Dn rk xs lo (lo+x))(h:lo+x<=xs.size):Up rk (mirror xs lo (lo+x) ((lo+x-lo)/2)) lo (lo+x):=λi j a b c=>by
 rw[GG h,GG h,if_pos (by omega),if_pos (by omega)]
 exact d _ _ (by omega) (by omega) (by omega)
theorem zx(C:zk prog w A E s kd G rk)(g:Gd G a₀){lo oH:Nat}{st:SortSt}{Q:Option Nat->SortSt->Prop}(B:Bs kd a₀ st)(hn:lo+oH<=a₀.size)(h1:1<=oH)
  (q:∀m aU,Bs kd a₀ aU->Kp lo st aU->1<=m->m<=oH->Up rk (arrOf aU) lo (lo+m)->Q (some m) aU):wpS (model prog w) A E s (countRun' lo oH) Q st:=by
 rw[countRun'_eq]
 refine wpS_bind (wpS_mono (wpS_forRange (I:=λx c aU=>aU=st/\c=(none,x)/\x<=oH/\Up rk (arrOf st) lo (lo+x))
  (Q:=λc aU=>aU=st/\∃n,c=(none,n)/\1<=n/\n<=oH/\Up rk (arrOf st) lo (lo+n)/\(n=oH\/R rk (arrOf st) (lo+n)<R rk (arrOf st) (lo+n-1))) ?step ?fin ⟨rfl,rfl,h1,Up.one lo⟩) ?post)
 case fin=>
  rintro c aU ⟨rfl,rfl,h2,u⟩
  rw[show max 1 oH=oH by omega]at u h2⊢
  exact⟨rfl,oH,rfl,h1,wr _,u,.inl rfl⟩
 case step=>
  rintro x c aU Tw Tx ⟨rfl,rfl,h2,u⟩
  dsimp only
  refine wpS_bind (wy C g B (by omega) (by omega) ?_)
  by_cases hl:R rk (arrOf aU) (lo+x)<R rk (arrOf aU) (lo+x-1)
  ·rw[decide_eq_true hl]
   exact wpS_pure ⟨rfl,x,rfl,Tw,by omega,u,.inr hl⟩
  ·rw[decide_eq_false hl]
   exact wpS_pure ⟨rfl,rfl,by omega,u.more Tw hl⟩
 case post=>
  rintro c aU ⟨rfl,n,rfl,n1,n2,u,VS⟩
  dsimp only
  refine br (λe=>wpS_pure (q n aU B (Kp.refl _ _) n1 n2 u)) (λe=>?_)
  have e':¬n=oH:=by simpa using e
  have i0:=VS.resolve_left e'
  have oh:lo+n<=(arrOf aU).size:=by rw[B.size];omega
  refine br (λgt=>wpS_bind (wy C g B (by omega) (by omega) ?_)) (λgt=>?_)
  by_cases hr:R rk (arrOf aU) lo<R rk (arrOf aU) (lo+n-1)
  ·rw[decide_eq_true hr]
   exact wpS_pure (q n aU B (Kp.refl _ _) n1 n2 u)
  rw[decide_eq_false hr]
  refine wpS_bind (xI ?_)
  have all:∀k,lo<=k->k<lo+n->R rk (arrOf aU) k=R rk (arrOf aU) (lo+n-1):=λk k1 k2=>by
   have x1:=u lo k (wr _) k1 k2
   have x2:=u k (lo+n-1) k1 (by omega) (by omega)
   omega
  have B2:=B.arr (mirror_perm (arrOf aU) lo (lo+n) ((lo+n-lo)/2))
  have K2:Kp lo aU (setArr aU (mirror (arrOf aU) lo (lo+n) ((lo+n-lo)/2))):=⟨λk hk=>by
   show(mirror (arrOf aU) lo (lo+n) ((lo+n-lo)/2))[k]?=_
   rw[getElem?_mirror_all oh,if_neg (by omega)],rfl⟩
  have d2:Dn rk (arrOf (setArr aU (mirror (arrOf aU) lo (lo+n) ((lo+n-lo)/2)))) lo (lo+(n+1)):=λi j a b c=>by
   show R rk (mirror (arrOf aU) lo (lo+n) ((lo+n-lo)/2)) j<=R rk (mirror (arrOf aU) lo (lo+n) ((lo+n-lo)/2)) i
   rw[mD oh all,mD oh all]
   by_cases hj:j<lo+n
   ·rw[all i (by omega) (by omega),all j (by omega) hj]
    exact wr _
   ·obtain rfl:j=lo+n:=by omega
    by_cases hi:i=lo+n
    ·subst hi
     exact wr _
    ·rw[all i a (by omega)]
     omega
  rotate_left
  obtain rfl:n=1:=by omega
  have B2:=B
  have K2:=Kp.refl lo aU
  have d2:Dn rk (arrOf aU) lo (lo+(1+1)):=λi j a b c=>by
   by_cases hi:i=j
   ·subst hi
    exact wr _
   ·obtain rfl:i=lo:=by omega
    obtain rfl:j=i+1:=by omega
    rw[show i+1-1=i by omega]at i0
    exact Zm i0
  all_goals
   refine wpS_bind (wpS_lift (wpAny_rule ⟨rfl,?_⟩))
   refine wpS_bind (wpS_mono (wpS_forRange (I:=λx c bQ=>∃sV,c=(none,x,sV)/\x<=oH/\Bs kd a₀ bQ/\Kp lo aU bQ/\Dn rk (arrOf bQ) lo (lo+x)/\sV+1<=x/\∀i,lo+x-(sV+1)<=i->i<lo+x->R rk (arrOf bQ) i=R rk (arrOf bQ) (lo+x-1))
    (Q:=λc bQ=>∃x sV,c=(none,x,sV)/\1<=x/\x<=oH/\Bs kd a₀ bQ/\Kp lo aU bQ/\Dn rk (arrOf bQ) lo (lo+x)/\sV+1<=x/\∀i,lo+x-(sV+1)<=i->i<lo+x->R rk (arrOf bQ) i=R rk (arrOf bQ) (lo+x-1))
    (λx c bQ Tw Tx hI=>?_) (λc bQ hI=>?_) ⟨0,rfl,by omega,B2,K2,d2,by omega,λi a b=>by congr 1;omega⟩) (λc bQ hI=>?_))
   ·obtain⟨sV,rfl,y1,B3,K3,d3,y2,y3⟩:=hI
    dsimp only
    have Pg:lo+x<=(arrOf bQ).size:=by rw[B3.size];omega
    refine wpS_bind (wy C g B3 (by omega) (by omega) ?_)
    by_cases hl:R rk (arrOf bQ) (lo+x)<R rk (arrOf bQ) (lo+x-1)
    ·rw[decide_eq_true hl]
     have ext:∀xs:Array Keyed,(∀k,R rk xs k=R rk (arrOf bQ) k)->Dn rk xs lo (lo+(x+1)):=λxs hk i j a b c=>by
      rw[hk,hk]
      by_cases hj:j<lo+x
      ·exact d3 i j a b hj
      ·obtain rfl:j=lo+x:=by omega
       by_cases hi:i=lo+x
       ·subst hi
        exact wr _
       ·exact ZB (Zm hl) (d3 i (lo+x-1) a (by omega) (by omega))
     refine br (λ_=>?_) (λz=>absurd rfl z)
     refine br (λz=>wpS_bind (xI (wpS_pure ?_))) (λz=>wpS_pure ?_)
     ·refine⟨0,rfl,by omega,B3.arr (mirror_perm _ _ _ _),K3.trans ⟨λk hk=>?_,rfl⟩,ext _ (mD Pg y3),by omega,λi a b=>by congr 1;omega⟩
      show(mirror (arrOf bQ) _ _ _)[k]?=_
      rw[getElem?_mirror_all Pg,if_neg (by omega)]
     ·exact⟨0,rfl,by omega,B3,K3,ext _ (λ_=>rfl),by omega,λi a b=>by congr 1;omega⟩
    ·rw[decide_eq_false hl]
     refine wpS_bind (wy C g B3 (by omega) (by omega) ?_)
     by_cases UU:R rk (arrOf bQ) (lo+x-1)<R rk (arrOf bQ) (lo+x)
     ·rw[decide_eq_true UU]
      exact wpS_pure ⟨x,sV,rfl,by omega,by omega,B3,K3,d3,y2,y3⟩
     ·rw[decide_eq_false UU]
      have ee:R rk (arrOf bQ) (lo+x)=R rk (arrOf bQ) (lo+x-1):=by omega
      refine wpS_pure ⟨sV+1,rfl,by omega,B3,K3,λi j a b c=>?_,by omega,λi a b=>?_⟩
      ·by_cases hj:j<lo+x
       ·exact d3 i j a b hj
       ·obtain rfl:j=lo+x:=by omega
        by_cases hi:i=lo+x
        ·subst hi
         exact wr _
        ·rw[ee]
         exact d3 i (lo+x-1) a (by omega) (by omega)
      ·rw[show lo+(x+1)-1=lo+x by omega]
       by_cases hi:i=lo+x
       ·rw[hi]
       ·rw[ee]
        exact y3 i (by omega) (by omega)
   ·obtain⟨sV,rfl,y1,B3,K3,d3,y2,y3⟩:=hI
    exact⟨_,sV,rfl,by omega,y1,B3,K3,d3,y2,y3⟩
   ·obtain⟨x,sV,rfl,y0,y1,B3,K3,d3,y2,y3⟩:=hI
    dsimp only
    have Pg:lo+x<=(arrOf bQ).size:=by rw[B3.size];omega
    refine br (λz=>wpS_bind (xI ?_)) (λz=>?_)
    have B4:=B3.arr (mirror_perm (arrOf bQ) (lo+x-(sV+1)) (lo+x) ((lo+x-(lo+x-(sV+1)))/2))
    have K4:Kp lo aU (setArr bQ (mirror (arrOf bQ) (lo+x-(sV+1)) (lo+x) ((lo+x-(lo+x-(sV+1)))/2))):=K3.trans ⟨λk hk=>by
     show(mirror (arrOf bQ) _ _ _)[k]?=_
     rw[getElem?_mirror_all Pg,if_neg (by omega)],rfl⟩
    have d4:Dn rk (arrOf (setArr bQ (mirror (arrOf bQ) (lo+x-(sV+1)) (lo+x) ((lo+x-(lo+x-(sV+1)))/2)))) lo (lo+x):=λi j a b c=>by
     show R rk (mirror (arrOf bQ) _ _ _) j<=R rk (mirror (arrOf bQ) _ _ _) i
     rw[mD Pg y3,mD Pg y3]
     exact d3 i j a b c
    rotate_left
    have B4:=B3
    have K4:=K3
    have d4:=d3
    all_goals
     refine wpS_bind (xI ?_)
     have XB:=B4.size
     have VT:lo+x<=a₀.size:=by omega
     have B5:=B4.arr (mirror_perm _ lo (lo+x) ((lo+x-lo)/2))
     refine wpS_bind (wpS_mono (wpS_forRange (I:=λy c kg=>c=(none,y)/\y<=oH/\Bs kd a₀ kg/\Kp lo aU kg/\Up rk (arrOf kg) lo (lo+y))
      (Q:=λc kg=>∃y,c=(none,y)/\1<=y/\y<=oH/\Bs kd a₀ kg/\Kp lo aU kg/\Up rk (arrOf kg) lo (lo+y))
      (λy c kg XC XD hI=>?_) (λc kg hI=>?_) ⟨rfl,y1,B5,K4.trans ⟨λk hk=>?_,rfl⟩,λi j a b c=>?_⟩) (λc kg hI=>?_))
     ·obtain⟨rfl,z1,B6,K6,u6⟩:=hI
      dsimp only
      refine wpS_bind (wy C g B6 (by omega) (by omega) ?_)
      by_cases hl:R rk (arrOf kg) (lo+y)<R rk (arrOf kg) (lo+y-1)
      ·rw[decide_eq_true hl]
       exact wpS_pure ⟨y,rfl,by omega,by omega,B6,K6,u6⟩
      ·rw[decide_eq_false hl]
       exact wpS_pure ⟨rfl,by omega,B6,K6,u6.more (by omega) hl⟩
     ·obtain⟨rfl,z1,B6,K6,u6⟩:=hI
      exact⟨_,rfl,by omega,z1,B6,K6,u6⟩
     ·show(mirror _ lo (lo+x) _)[k]?=_
      rw[getElem?_mirror_all (by omega),if_neg (by omega)]
     ·exact NF d4 (by omega) i j a b c
     ·obtain⟨y,rfl,z0,z1,B6,K6,u6⟩:=hI
      exact wpS_pure (q y kg B6 K6 z0 z1 u6)
end
def Rn(rk:Keyed->Nat)(l:List Keyed):Nat->List (Nat×Nat×Nat)->Nat->Prop
 |b,[],e=>b=e
 |b,r::rs,e=>r.1=b/\1<=r.2.1/\Sd rk ((l.drop b).take r.2.1)/\Rn rk l (b+r.2.1) rs e
theorem Rn.le{rk:Keyed->Nat}{l:List Keyed}:∀{rs:List (Nat×Nat×Nat)} {b e:Nat},Rn rk l b rs e->b+rs.length<=e
 |[],b,e,h=>by
  have h':b=e:=h
  simp[h']
 |r::rs,b,e,h=>by
  obtain⟨h1,h2,h3,h4⟩:=h
  have:=h4.le
  rw[ul]
  omega
theorem Rn.app{rk:Keyed->Nat}{l:List Keyed}:∀{us vs:List (Nat×Nat×Nat)} {b e:Nat},Rn rk l b (us++vs) e↔∃m,Rn rk l b us m/\Rn rk l m vs e
 |[],vs,b,e=>⟨λh=>⟨b,rfl,h⟩,λ⟨m,h1,h2⟩=>by
  have NG:b=m:=h1
  subst NG
  exact h2⟩
 |r::us,vs,b,e=>by
  constructor
  ·rintro⟨h1,h2,h3,h4⟩
   obtain⟨m,h5,h6⟩:=Rn.app.mp h4
   exact⟨m,⟨h1,h2,h3,h5⟩,h6⟩
  ·rintro⟨m,⟨h1,h2,h3,h5⟩,h6⟩
   exact⟨h1,h2,h3,Rn.app.mpr ⟨m,h5,h6⟩⟩
theorem Rn.same{rk:Keyed->Nat}{l l':List Keyed}:∀{rs:List (Nat×Nat×Nat)} {b e:Nat},Rn rk l b rs e->(∀i,b<=i->i<e->l[i]?=l'[i]?)->Rn rk l' b rs e
 |[],b,e,h,_=>h
 |r::rs,b,e,h,s=>by
  obtain⟨h1,h2,h3,h4⟩:=h
  have hl:=h4.le
  refine⟨h1,h2,?_,h4.same λi a c=>s i (by omega) c⟩
  rw[<-zt λi a c=>s i a (by omega)]
  exact h3
theorem Rn.mod{rk:Keyed->Nat}{l:List Keyed}(f:Nat×Nat×Nat->Nat×Nat×Nat)(hf:∀r,(f r).1=r.1/\(f r).2.1=r.2.1):∀{rs:List (Nat×Nat×Nat)} {b e:Nat} (i:Nat),Rn rk l b rs e->Rn rk l b (rs.modify i f) e
 |[],b,e,i,h=>by
  rw[List.modify_nil]
  exact h
 |r::rs,b,e,0,h=>by
  rw[List.modify_zero_cons]
  obtain⟨h1,h2,h3,h4⟩:=h
  refine⟨(hf r).1.trans h1,?_,?_,?_⟩
  ·rw[(hf r).2]
   exact h2
  ·rw[(hf r).2]
   exact h3
  ·rw[(hf r).2]
   exact h4
 |r::rs,b,e,i+1,h=>by
  rw[List.modify_succ_cons]
  obtain⟨h1,h2,h3,h4⟩:=h
  exact⟨h1,h2,h3,h4.mod f hf i⟩
theorem Rn.join{rk:Keyed->Nat}{l l' m:List Keyed}{us vs:List (Nat×Nat×Nat)}{e sa na pw nb R8:Nat}(h:Rn rk l 0 (us++(sa,na,pw)::(sa+na,nb,R8)::vs) e)(hl:sa+na+nb<=l.length)
  (e':l'=l.take sa++m++l.drop (sa+na+nb))(pm:m.Perm ((l.drop sa).take (na+nb)))(sm:Sd rk m):Rn rk l' 0 (us++(sa,na+nb,pw)::vs) e:=by
 obtain⟨b,h1,h2⟩:=Rn.app.mp h
 obtain⟨h3,h4,h5,h6⟩:=h2
 obtain⟨h7,h8,h9,VU⟩:=h6
 have VV:sa=b:=h3
 subst VV
 have ml:m.length=na+nb:=by rw[pm.length_eq,jY (by omega)]
 have tl:(l.take sa).length=sa:=by rw[ZM];omega
 have lo:∀i,i<sa->l[i]?=l'[i]?:=λi hi=>by
  rw[e',tz,YR (by omega),Zy,if_pos hi]
 have hi:∀i,sa+na+nb<=i->l[i]?=l'[i]?:=λi hi=>by
  rw[e',YK (by rw[ZD];omega),ZD,Z7]
  congr 1
  omega
 refine Rn.app.mpr ⟨sa,h1.same λi _ c=>lo i c,rfl,ZB h4 (Nat.le_add_right _ _),?_,?_⟩
 ·have:(l'.drop sa).take (na+nb)=m:=by
    rw[e',tz,List.drop_append_of_le_length (by omega),ZU (by omega),XX,List.take_append_of_le_length (by omega),ZX (by omega)]
  show Sd rk ((l'.drop sa).take (na+nb))
  rw[this]
  exact sm
 ·show Rn rk l' (sa+(na+nb)) vs e
  rw[<-Zz]
  exact VU.same λi a _=>hi i a
theorem EC{α:Type}{p:Array α}{i:Nat}{x y:α}(h1:p[i]?=some x)(h2:p[i+1]?=some y)(z:α):∃us vs,p.toList=us++x::y::vs/\((p.setIfInBounds i z).eraseIdxIfInBounds (i+1)).toList=us++z::vs/\us.length=i:=by
 have k1:p.toList[i]?=some x:=by simpa using h1
 have k2:p.toList[i+1]?=some y:=by simpa using h2
 obtain⟨l1,e1⟩:=wS.mp k1
 obtain⟨l2,e2⟩:=wS.mp k2
 have d:p.toList.drop i=x::y::p.toList.drop (i+1+1):=by rw[ZR l1,ZR l2,e1,e2]
 have e:p.toList=p.toList.take i++x::y::p.toList.drop (i+1+1):=by rw[<-d,ZP]
 have tl:(p.toList.take i).length=i:=by rw[ZM];omega
 refine⟨p.toList.take i,p.toList.drop (i+1+1),e,?_,tl⟩
 rw[Array.toList_eraseIdxIfInBounds,Y0]
 have:p.toList.set i z=p.toList.take i++z::y::p.toList.drop (i+1+1):=by
  rw[e]
  rw[List.set_append_right _ _ (by omega),tl,Nat.sub_self]
  simp[tl]
  exact congrArg (List.drop (i+1+1)) e
 rw[this,List.eraseIdx_append_of_length_le (by omega),tl,show i+1-i=1 by omega]
 rfl
section
variable{prog:Program}{w:World}{A:Around}{E:Value->Shared->Prop}{s:Shared}{kd:SortKind}{G:Keyed->Prop}{rk:Keyed->Nat}{a₀:Array Keyed}
theorem Di(C:zk prog w A E s kd G rk)(g:Gd G a₀){st:SortSt}{Q:Bool->SortSt->Prop}{i e:Nat}(B:Bs kd a₀ st)(r:Rn rk (arrOf st).toList 0 (pendingOf st).toList e)(he:e<=a₀.size)(hi:i+1<(pendingOf st).size)
  (q:∀aU,Bs kd a₀ aU->Rn rk (arrOf aU).toList 0 (pendingOf aU).toList e->(pendingOf aU).size+1=(pendingOf st).size->(∀k,e<=k->(arrOf aU).toList[k]?=(arrOf st).toList[k]?)->Q true aU):wpS (model prog w) A E s (mergeAt' i) Q st:=by
 obtain⟨⟨sa,na,pw⟩,e1⟩:∃x,(pendingOf st)[i]?=some x:=⟨_,getElem?_pos _ i (by omega)⟩
 obtain⟨⟨sb,nb,R8⟩,e2⟩:∃x,(pendingOf st)[i+1]?=some x:=⟨_,getElem?_pos _ (i+1) hi⟩
 obtain⟨us,vs,p1,p2,p3⟩:=EC e1 e2 (sa,na+nb,pw)
 have r':=r
 rw[p1]at r'
 obtain⟨b,h1,h2,h3,h4,h5,h6,h7,h8⟩:=Rn.app.mp r'
 have hb:sa=b:=h2
 subst hb
 have VW:sb=sa+na:=h5
 subst VW
 have hle:=h8.le
 have oh:=B.size
 dsimp only at h3 h4 h6 h7 hle
 refine By C B.k (B.gd g) B.f e1 e2 h3 h6 (by omega) h4 h7 λaU m k1 k2 k3 k4 k5 k6=>?_
 have VX:(arrOf aU).toList.Perm (arrOf st).toList:=by
  rw[k4]
  have:=q9 (arrOf st).toList sa (na+nb)
  rw[<-Zz]at this
  conv=>rhs;rw[this]
  exact(k5.append_left _).append_right _
 refine q aU ⟨(YL.mpr VX).trans B.pm,k1,k2⟩ ?_ ?_ λk hk=>?_
 ·rw[k3,p2]
  exact Rn.join r' (by rw[v4];omega) k4 k5 k6
 ·rw[k3,<-v4,p2,<-v4,p1]
  simp only[ZD,ul]
  omega
 ·rw[k4,YK (by rw[ZD,ZM,k5.length_eq,jY (by rw[v4];omega)];omega),Z7]
  congr 1
  rw[ZD,ZM,k5.length_eq,jY (by rw[v4];omega),v4]
  omega
theorem NH{c:Prop}[Decidable c]{a b n:Nat}(h1:a+1<n)(h2:b+1<n):(if c then a else b)+1<n:=by
 split
 ·exact h1
 ·exact h2
theorem Dj{st:SortSt}{lo n x:Nat}(B:Bs kd a₀ st)(r:Rn rk (arrOf st).toList 0 (pendingOf st).toList lo)(sd:Sd rk (((arrOf st).toList.drop lo).take n))(h1:1<=n)(hn:lo+n<=a₀.size)(hx:x<=lo\/lo=a₀.size):
  ∃QA,((none:Option Unit),lo+n)=(none,QA)/\Bs kd a₀ (setPending st ((pendingOf st).push (lo,n,0)))/\QA<=a₀.size/\(x+1<=QA\/QA=a₀.size)/\Rn rk (arrOf (setPending st ((pendingOf st).push (lo,n,0)))).toList 0 (pendingOf (setPending st ((pendingOf st).push (lo,n,0)))).toList QA:=by
 refine⟨lo+n,rfl,⟨B.pm,B.k,B.f⟩,hn,by omega,?_⟩
 show Rn rk (arrOf st).toList 0 ((pendingOf st).push (lo,n,0)).toList (lo+n)
 rw[Z0]
 exact Rn.app.mpr ⟨lo,r,rfl,h1,sd,rfl⟩
theorem zy(C:zk prog w A E s kd G rk)(g:Gd G a₀){st:SortSt}{Q:Unit->SortSt->Prop}(B:Bs kd a₀ st)(hp:pendingOf st=#[])
  (q:∀aU,Bs kd a₀ aU->Sd rk (arrOf aU).toList->Q () aU):wpS (model prog w) A E s sortRuns' Q st:=by
 rw[sortRuns'_eq]
 refine wpS_bind (wpS_get ?_)
 dsimp only
 rw[B.size]
 refine wpS_bind (wpS_mono (wpS_forRange (I:=λx c aU=>∃lo,c=(none,lo)/\Bs kd a₀ aU/\lo<=a₀.size/\(x<=lo\/lo=a₀.size)/\Rn rk (arrOf aU).toList 0 (pendingOf aU).toList lo)
  (Q:=λc aU=>∃lo,c=(none,lo)/\lo=a₀.size/\Bs kd a₀ aU/\Rn rk (arrOf aU).toList 0 (pendingOf aU).toList lo) ?step ?fin ⟨0,rfl,B,ZI _,.inl (wr _),by rw[hp];rfl⟩) ?post)
 case fin=>
  rintro c aU ⟨lo,rfl,B1,h1,h2,r1⟩
  exact⟨lo,rfl,by omega,B1,r1⟩
 case step=>
  rintro x c aU-hx ⟨lo,rfl,B1,h1,h2,r1⟩
  dsimp only
  refine br (λd=>wpS_pure ⟨lo,rfl,by omega,B1,r1⟩) (λd=>?_)
  have d':lo<a₀.size:=by omega
  refine wpS_bind (zx C g B1 (by omega) (by omega) λm bQ B2 K2 m1 m2 u2=>?_)
  dsimp only
  have keepR:∀{qL:SortSt},Kp lo aU qL->Rn rk (arrOf qL).toList 0 (pendingOf qL).toList lo:=λ{qL} K=>by
   rw[K.2]
   refine r1.same λi _ hi=>?_
   rw[X2,X2]
   exact(K.1 i hi).symm
  refine br (λz=>wpS_bind (wpS_lift (wpAny_rule ⟨rfl,wpS_bind (vM C g (n:=min (a₀.size-lo) (minRun' a₀.size a₀.size 0)) B2 (by omega) (by omega) m1 u2 λnT B4 K3 u4=>br (λy=>absurd y (by decide)) λy=>?_)⟩))) (λz=>?_)
  have hn:lo+min (a₀.size-lo) (minRun' a₀.size a₀.size 0)<=a₀.size:=by omega
  have Kb:1<=min (a₀.size-lo) (minRun' a₀.size a₀.size 0):=by omega
  have K4:=K2.trans K3
  generalize min (a₀.size-lo) (minRun' a₀.size a₀.size 0)=nn at hn Kb u4⊢
  rotate_left
  have hn:lo+m<=a₀.size:=by omega
  have Kb:1<=m:=m1
  obtain⟨nT,rfl⟩:∃nT,nT=bQ:=⟨_,rfl⟩
  obtain⟨nn,rfl⟩:∃nn,nn=m:=⟨_,rfl⟩
  have K4:=K2
  have B4:=B2
  have u4:=u2
  all_goals
   refine wpS_bind (wpS_get ?_)
   have r4:=keepR K4
   have s4:=u4.sd (by rw[B4.size];exact hn)
   cases eb:(pendingOf nT).back? with
   |none=>exact wpS_bind (wpS_modify (wpS_pure (Dj B4 r4 s4 Kb hn h2)))
   |some top=>
    obtain⟨s1,n1,p1⟩:=top
    dsimp only
    refine wpS_bind (wpS_mono (wpS_forRange (I:=λ_ c kg=>c=(none,())/\Bs kd a₀ kg/\Rn rk (arrOf kg).toList 0 (pendingOf kg).toList lo/\∀k,lo<=k->(arrOf kg).toList[k]?=(arrOf nT).toList[k]?)
     (Q:=λc kg=>c=(none,())/\Bs kd a₀ kg/\Rn rk (arrOf kg).toList 0 (pendingOf kg).toList lo/\∀k,lo<=k->(arrOf kg).toList[k]?=(arrOf nT).toList[k]?) (λy c kg _ hy hI=>?_) (λ_ _ hI=>hI) ⟨rfl,B4,r4,λ_ _=>rfl⟩) (λc kg hI=>?_))
    ·obtain⟨rfl,B5,r5,k5⟩:=hI
     refine wpS_bind (wpS_get ?_)
     by_cases hs:(pendingOf kg).size>1
     ·rw[if_pos hs]
      obtain⟨⟨f1,f2,UW⟩,e5⟩:∃z,(pendingOf kg)[(pendingOf kg).size-2]?=some z:=⟨_,getElem?_pos _ _ (by omega)⟩
      rw[e5]
      dsimp only
      refine br (λ_=>wpS_pure ⟨rfl,B5,r5,k5⟩) (λ_=>?_)
      exact wpS_bind (Di C g B5 r5 h1 (by omega) λXE B6 r6 _ k6=>br (λy=>absurd y (by decide)) λ_=>wpS_pure ⟨rfl,B6,r6,λk hk=>(k6 k hk).trans (k5 k hk)⟩)
     ·rw[if_neg hs]
      exact wpS_pure ⟨rfl,B5,r5,k5⟩
    ·obtain⟨rfl,B5,r5,k5⟩:=hI
     dsimp only
     refine wpS_bind (wpS_modify (wpS_bind (wpS_modify (wpS_pure ?_))))
     refine Dj (st:=setPending kg _) ⟨B5.pm,B5.k,B5.f⟩ ?_ ?_ Kb hn h2
     ·show Rn rk (arrOf kg).toList 0 ((pendingOf kg).modify _ _).toList lo
      rw[Array.toList_modify]
      refine Rn.mod _ ?_ _ r5
      exact λ_=>⟨rfl,rfl⟩
     ·have:=s4
      rw[zt λi a _=>(k5 i a).symm]at this
      exact this
 case post=>
  rintro c aU ⟨lo,rfl,rfl,B1,r1⟩
  dsimp only
  refine wpS_bind (wpS_mono (wpS_forRange (I:=λx c bQ=>c=(none,())/\Bs kd a₀ bQ/\Rn rk (arrOf bQ).toList 0 (pendingOf bQ).toList a₀.size/\((pendingOf bQ).size+x<=a₀.size\/(pendingOf bQ).size<=1))
   (Q:=λc bQ=>c=(none,())/\Bs kd a₀ bQ/\Rn rk (arrOf bQ).toList 0 (pendingOf bQ).toList a₀.size/\(pendingOf bQ).size<=1) (λx c bQ _ hx hI=>?_) (λc bQ hI=>?_) ⟨rfl,B1,r1,?_⟩) (λc bQ hI=>?_))
  ·obtain⟨rfl,B2,r2,h2⟩:=hI
   refine wpS_bind (wpS_get ?_)
   refine br (λd=>wpS_pure ⟨rfl,B2,r2,d⟩) (λd=>?_)
   refine wpS_bind (Di C g B2 r2 (wr _) ?_ λqL B3 r3 h3 _=>br (λy=>absurd y (by decide)) λ_=>wpS_pure ⟨rfl,B3,r3,by omega⟩)
   exact NH (by omega) (by omega)
  ·obtain⟨rfl,B2,r2,h2⟩:=hI
   exact⟨rfl,B2,r2,by omega⟩
  ·have:=r1.le
   rw[v4]at this
   exact .inl (by omega)
  ·obtain⟨rfl,B2,r2,h2⟩:=hI
   dsimp only
   refine wpS_pure (q bQ B2 ?_)
   have hl:(pendingOf bQ).toList.length<=1:=by rw[v4];exact h2
   have oh:(arrOf bQ).toList.length=a₀.size:=by rw[v4,B2.size]
   cases e:(pendingOf bQ).toList with
   |nil=>
    rw[e]at r2
    have z:0=a₀.size:=r2
    have:(arrOf bQ).toList=[]:=Yp (by omega)
    rw[this]
    exact Sd.nil
   |cons r rs=>
    cases rs with
    |cons _ _=>
     rw[e]at hl
     simp at hl
    |nil=>
     rw[e]at r2
     obtain⟨y1,y2,y3,y4⟩:=r2
     have XF:0+r.2.1=a₀.size:=y4
     rw[Z2,ZX (by omega)]at y3
     exact y3
end
end TS
namespace L2
open PySem PySem.Spec PyProof.Rows
def om(sc:Scope)(env:Env):List (Str×Addr):=sc.names.foldl (λcs p=>if p.2=.free then(p.1,(env.cells.lookup p.1).getD 0)::cs else cs) []
theorem xJ(env:Env):∀(ns:List (Str×NameKind)) (acc:List (Str×Addr)),(∀p∈ns,p.2=.free->∃c,env.cells.lookup p.1=some c)->
  (forIn ns acc (λ(x:Str×NameKind) (r:List (Str×Addr))=>match x with|(name,kind)=>if(kind==.free)=true then(do let c<-cellOf env name;pure (ForInStep.yield ((name,c)::r)))else pure (ForInStep.yield r)):Sem _)=
    pure (ns.foldl (λcs p=>if p.2=.free then(p.1,(env.cells.lookup p.1).getD 0)::cs else cs) acc)
 |[],acc,_=>rfl
 |(n,k)::ns,acc,h=>by
  rw[List.forIn_cons]
  by_cases hk:k=.free
  ·subst hk
   obtain⟨c,hc⟩:=h (n,.free) (wT ..) rfl
   have e1:cellOf env n=pure c:=by
    unfold cellOf
    rw[hc]
   dsimp only
   rw[if_pos (by rfl),e1,pure_bind,pure_bind,Zl,if_pos rfl,hc]
   exact xJ env ns _ λp hp=>h p (wf _ hp)
  ·dsimp only
   rw[if_neg (by simpa using hk),pure_bind,Zl,if_neg hk]
   exact xJ env ns _ λp hp=>h p (wf _ hp)
theorem tE{sc:Scope}{env:Env}(h:∀p∈sc.names,p.2=.free->∃c,env.cells.lookup p.1=some c):closureFor sc env=pure (om sc env):=by
 unfold closureFor om
 have:=xJ env sc.names [] h
 exact(congrArg (λm:Sem (List (Str×Addr))=>m>>=λr=>pure r) this).trans rfl
theorem Dk(env:Env):∀(ns:List (Str×NameKind)) (acc:List (Str×Addr)) (y:Str) (c:Addr),(ns.foldl (λcs p=>if p.2=.free then(p.1,(env.cells.lookup p.1).getD 0)::cs else cs) acc).lookup y=some c->
  acc.lookup y=some c\/((y,NameKind.free)∈ns/\c=(env.cells.lookup y).getD 0)
 |[],acc,y,c,h=>.inl h
 |(n,k)::ns,acc,y,c,h=>by
  rw[Zl]at h
  rcases Dk env ns _ y c h with h1|⟨h1,h2⟩
  ·by_cases hk:k=.free
   ·rw[if_pos hk,ZS]at h1
    by_cases hy:(y==n)=true
    ·rw[hy]at h1
     have e:y=n:=eq_of_beq hy
     subst e
     exact .inr ⟨by rw[hk];exact wT ..,(ZO h1).symm⟩
    ·rw[Bool.not_eq_true]at hy
     rw[hy]at h1
     exact .inl h1
   ·rw[if_neg hk]at h1
    exact .inl h1
  ·exact .inr ⟨wf _ h1,h2⟩
theorem xK(env:Env):∀(ns:List (Str×NameKind)) (acc:List (Str×Addr)) (y:Str),((y,NameKind.free)∈ns\/∃c,acc.lookup y=some c)->∃c,(ns.foldl (λcs p=>if p.2=.free then(p.1,(env.cells.lookup p.1).getD 0)::cs else cs) acc).lookup y=some c
 |[],acc,y,h=>by
  rcases h with h|h
  ·cases h
  ·exact h
 |(n,k)::ns,acc,y,h=>by
  rw[Zl]
  refine xK env ns _ y ?_
  rcases h with h|⟨c,h⟩
  ·rcases ZJ.mp h with e|h
   ·injection e with e1 e2
    subst e1 e2
    rw[if_pos rfl,ZS]
    exact .inr ⟨_,by rw[beq_self_eq_true]⟩
   ·exact .inl h
  ·refine .inr ?_
   split
   ·rw[ZS]
    cases y==n with
    |true=>exact⟨_,rfl⟩
    |false=>exact⟨c,h⟩
   ·exact⟨c,h⟩
structure fQ(r9:Scope)(N:List Str)(sc:Scope)(x:Str)(ys:List Str):Prop where
 kind:sc.kind=.function
 xloc:sc.names.lookup x=some .local
 nocell:∀p∈sc.names,p.2≠.cell
 locs:∀p∈sc.names,p.2=.local->sc.names.lookup p.1=some .local
 free:∀p∈sc.names,p.2=.free->r9.names.lookup p.1=some .cell\/r9.names.lookup p.1=some .free
 nd:(x::ys).Nodup
 len:ys.length=N.length
 pl:∀p∈ys.zip N,sc.names.lookup p.1=some .free->p.1=p.2
 nl:∀y∈ys,sc.names.lookup y≠some .local
def i4(r9:Scope)(N:List Str)(sc:Scope)(x:Str)(ys:List Str):Bool:=
 decide (sc.kind=.function)&&decide (sc.names.lookup x=some .local)&&decide (∀p∈sc.names,p.2≠.cell)&&decide (∀p∈sc.names,p.2=.local->sc.names.lookup p.1=some .local)&&
 decide (∀p∈sc.names,p.2=.free->r9.names.lookup p.1=some .cell\/r9.names.lookup p.1=some .free)&&decide ((x::ys).Nodup)&&decide (ys.length=N.length)&&
 decide (∀p∈ys.zip N,sc.names.lookup p.1=some .free->p.1=p.2)&&decide (∀y∈ys,sc.names.lookup y≠some .local)
theorem fQ.of{r9:Scope}{N:List Str}{sc:Scope}{x:Str}{ys:List Str}(h:i4 r9 N sc x ys=true):fQ r9 N sc x ys:=by
 unfold i4 at h
 simp only[re,decide_eq_true_eq]at h
 obtain⟨⟨⟨⟨⟨⟨⟨⟨h1,h2⟩,h3⟩,h4⟩,h5⟩,h6⟩,h7⟩,h8⟩,h9⟩:=h
 exact⟨h1,h2,h3,h4,h5,h6,h7,h8,h9⟩
def Cx.i5(X:Cx)(sc:Scope)(x:Str)(ys:List Str)(ex:List Addr)(C:Addr)(s:Shared)(H:Hp):Cx where
 prog:=X.prog
 w:=X.w
 K:=X.K
 mg:=X.mg
 base:=X.base
 A:=X.A
 N:=x::ys
 s₀:=s
 H₀:=H
 env:=compEnvC sc (om sc X.env) C X.env
 outer:=X.stack
 stack:=X.stack
 ex:=ex
 fn:=λ_=>false
 calm:=X.calm
 pn:=[]
 xe:=λ_ _=>False
theorem bH{env:Env}:∀{ns:List (Str×NameKind)} {y:Str} {k:NameKind},(ns.map λ(n,k)=>if(k==NameKind.free&&env.scope.kind==.function&&env.kindOf n==some .cell)then(n,NameKind.cell)else(n,k)).lookup y=some k->
  ns.lookup y=some k\/(ns.lookup y=some .free/\k=.cell)
 |[],y,k,h=>by cases h
 |(n,j)::ns,y,k,h=>by
  rw[ZC]at h
  dsimp only at h
  cases hy:y==n with
  |true=>
   by_cases hc:(j==NameKind.free&&env.scope.kind==.function&&env.kindOf n==some .cell)=true
   ·rw[if_pos hc,ZS,hy]at h
    have hj:j=.free:=by
     simp only[re]at hc
     exact eq_of_beq hc.1.1
    refine .inr ⟨?_,(ZO h).symm⟩
    rw[ZS,hy,hj]
   ·rw[if_neg hc,ZS,hy]at h
    refine .inl ?_
    rw[ZS,hy]
    exact h
  |false=>
   have h':(ns.map λ(n,k)=>if(k==NameKind.free&&env.scope.kind==.function&&env.kindOf n==some .cell)then(n,NameKind.cell)else(n,k)).lookup y=some k:=by
    by_cases hc:(j==NameKind.free&&env.scope.kind==.function&&env.kindOf n==some .cell)=true
    ·rw[if_pos hc,ZS,hy]at h
     exact h
    ·rw[if_neg hc,ZS,hy]at h
     exact h
   rw[ZS,hy]
   exact bH h'
section
variable{X:Cx}{pins:List (Addr×Obj)}{σ:St}{H:Hp}{s:Shared}{sc:Scope}{x:Str}{ys:List Str}
theorem fQ.cell(cs:fQ X.env.scope X.N sc x ys)(I:Inv X pins σ H s){y:Str}(h:(y,NameKind.free)∈sc.names):∃c,X.env.cells.lookup y=some c:=I.ok.has y (cs.free _ h rfl)
theorem fQ.cl(cs:fQ X.env.scope X.N sc x ys)(I:Inv X pins σ H s){y:Str}{c:Addr}(h:(om sc X.env).lookup y=some c):X.env.cells.lookup y=some c/\(y,NameKind.free)∈sc.names:=by
 rcases Dk X.env sc.names [] y c h with h1|⟨h1,h2⟩
 ·cases h1
 ·obtain⟨d,hd⟩:=cs.cell I h1
  rw[hd]at h2
  rw[h2]
  exact⟨hd,h1⟩
theorem GH(cs:fQ X.env.scope X.N sc x ys)(I:Inv X pins σ H s){fp:List Addr}(hf:∀b∈fp,pL X pins H b)(i0:∀b∈fp,b<s.heap.objs.size){C:Addr}(hC:s.heap.objs.size<=C):(X.i5 sc x ys fp C s H).Ok where
 mod:=I.ok.mod
 kind:=cs.kind
 glob:=I.ok.glob
 blt:=I.ok.blt
 above:=hC
 inj:=λy z c h1 h2=>I.ok.inj y z c (cs.cl I h1).1 (cs.cl I h2).1
 has:=λy hy=>by
  have VY:(relabel sc X.env).names.lookup y=some .cell\/(relabel sc X.env).names.lookup y=some .free:=hy
  have hf:(y,NameKind.free)∈sc.names:=by
   rcases VY with h|h
   ·rcases bH h with h1|⟨h1,_⟩
    ·exact absurd rfl (cs.nocell _ (ZW h1))
    ·exact ZW h1
   ·rcases bH h with h1|⟨h1,_⟩
    ·exact ZW h1
    ·exact ZW h1
  exact xK X.env sc.names [] y (.inl hf)
 cab:=λy c h=>by cases h
 hd:=I.ok.hd
 frames:=I.ok.frames
 FI:=.inl rfl
 exf:=λb hb=>⟨λe=>by
  have:=i0 b hb
  rw[e]at this
  exact absurd (wv this hC) (ZK _),λy c h=>(hf b hb).2.2.2.2.1 y c (cs.cl I h).1⟩
 bs:=I.bs
 bsz:=ZB I.ok.bsz I.sz
 noex:=λb o e hb=>by
  rcases(hf b hb).2.2.2.1 with h|h
  ·exact I.ok.noex b o e h
  ·exact absurd (wv (ww e) (ZB I.ok.bsz h)) (ZK _)
 exfs:=λb hb h=>(ZJ.mp (I.A4 b h)).elim (hf b hb).2.1 (hf b hb).2.2.1
 funs:=I.stack
 frf:=I.k9
end
def xM(X:Cx)(ifs:List Expr)(t:TT):Prop:=
 ∀(pins:List (Addr×Obj)) (s:Shared) (σ:St) (H:Hp) (Q:Bool->Hp->Prop),Inv X pins σ H s->t σ H Q->
  wpAny (model X.prog X.w) X.A (forIn ifs true λc r=>if r=true then do let ok<-isTrue c X.env (eval c X.env);pure (ForInStep.yield ok)else pure (ForInStep.yield r)) (TP X pins σ Q) X.xe s
theorem uw{X:Cx}:xM X [] (λ_ H Q=>Q true H):=λpins s σ H Q I h=>wpAny_tests_nil ⟨H,I,h⟩
theorem ux{X:Cx}{c:Expr}{t:TT}(h:PT X c t):xM X [c] t:=λpins s σ H Q I q=>wpAny_tests_one (h pins s σ H Q I q)
def wz(wi:TI)(tt:TT)(te:TE):TE:=λσ H Q=>wi σ H λJ H1=>∃W:Nat->Nat->List V->Hp->Prop,(∃m,W 0 m [] H1)/\∀i m acc H,W i m acc H->
 (J.stop i H/\∀p,H p=none->Q (.ref p) (upd H p (.lst acc)))\/(J.go i H/\acc.length<sizeLine/\∀y H',J.yld i H y H'->tt (some y::σ) H' λb H2=>
   if b=true then te (some y::σ) H2 λz H3=>∃m',m'<m/\W (i+1) m' (acc++[z]) H3 else∃m',m'<m/\W (i+1) m' acc H2)
section
variable{X:Cx}{sc:Scope}{x:Str}{ys:List Str}{px:Pos}{elt iter:Expr}{ifs:List Expr}{pos:Pos}{wi:TI}{tt:TT}{te:TE}
def lobj(its:List Value)(n:Nat):Obj:={cls:=.type "list",data:=.seq its.toArray n}
theorem zz{M:Value->Env->Result->Shared->Prop}{pins:List (Addr×Obj)}{σ:St}{H:Hp}{s:Shared}{E:Value->Shared->Prop}(hc:X.calm=true)(cs:fQ X.env.scope X.N sc x ys)(I:Inv X pins σ H s)
  (ht:∀ex C s H,xM (X.i5 sc x ys ex C s H) ifs tt)(he:∀ex C s H,PE (X.i5 sc x ys ex C s H) elt te)
  {it:Addr}{fp:List Addr}{tn:Nat->Heap->Prop}{J:It}(T:Turn X.prog X.w X.K (.Name x px) J fp it tn)(st:tn 0 s.heap)(hf:∀b∈fp,pL X pins H b)
  {W:Nat->Nat->List V->Hp->Prop}{m0:Nat}(w0:W 0 m0 [] H){F:List V->Hp->Prop}
  (turn:∀i m acc H,W i m acc H->(J.stop i H/\F acc H)\/(J.go i H/\acc.length<sizeLine/\∀y H',J.yld i H y H'->tt (some y::σ) H' λb H2=>
    if b=true then te (some y::σ) H2 λz H3=>∃m',m'<m/\W (i+1) m' (acc++[z]) H3 else∃m',m'<m/\W (i+1) m' acc H2))
  (hM:∀(D C:Addr) (dB:Env) (s':Shared) (acc:List V) (H':Hp) (its:List Value) (n:Nat),dB.locals=C->D≠C->s.heap.objs.size<=D->s.heap.objs.size<=C->Inv (X.i5 sc x ys fp C s H) [(D,lobj its n)] (none::σ) H' s'->Vals acc its->acc.length<=sizeLine->F acc H'->
    M (.ref D) dB (.ok .next) s'):
  wpAny (model X.prog X.w) X.A (newList []) (λacc s₃=>wpAny (model X.prog X.w) X.A (newFunctionEnv sc X.env.globals (om sc X.env) [] X.env.qual none .none (some X.env)) (λdB s₄=>
   codeAny (model X.prog X.w) X.A (.compStart (.ListComp elt [⟨.Name x px,iter,ifs,0⟩] sc pos) 0 (.ref it) acc {dB with scope:=relabel sc X.env}) (M acc dB) s₄) E s₃) E s:=by
 have i0:∀b∈fp,b<s.heap.objs.size:=λb hb=>by
  obtain⟨o,e,_⟩:=T.obj 0 _ st b hb
  exact ww e
 refine wpAny_newObj_type (wpAny_newFunctionEnv cs.nocell (by intro y hy;simp at hy) (λh1 Jt Kc=>?_) cs.kind)
 dsimp only at Jt Kc⊢
 generalize NI:s.heap.push {cls:=.type "list",dict:=none,data:=.seq ([]:List Value).toArray}=h2 at Jt Kc⊢
 have hC:h2.objs.size=s.heap.objs.size+1:=by rw[<-NI,Yu]
 have xN:s.heap.objs.size≠h2.objs.size:=by omega
 have old:∀b o,s.heap.get? b=some o->h1.get? b=some o:=λb o e=>by
  have hb:=ww e
  rw[Kc.2 b (by rw[hC];exact ZV (Nat.lt_succ_of_lt hb))]
  exact wp _ (NI▸wp _ e)
 have hD:h1.get? s.heap.objs.size=some (lobj [] 0):=by
  rw[Kc.2 _ xN]
  exact wp _ (NI▸ZH _ rfl)
 generalize VZ:h2.objs.size=C at*
 have xO:s.heap.objs.size<=C:=by omega
 have uy:∀b,s.heap.objs.size<=b->H b=none:=λb hb=>I.dE.fresh hb
 have Eo:∀b,s.heap.objs.size<=b->b∉eI X.stack:=λb hb z=>by
  obtain⟨_,o,ho,_⟩:=(I.stack).mem z
  exact absurd (wv (ww ho) hb) (ZK _)
 have I0:Inv (X.i5 sc x ys fp C s H) [(s.heap.objs.size,lobj [] 0)] (none::σ) H {s with heap:=h1,toks:=s.toks+([]:List (Str×Value)).length}:=by
  refine⟨GH cs I hf i0 xO,rfl,I.bare,Un.kept old,⟨_,Jt,λi y v e1 e2 e3=>?_⟩,λy c e=>?_,uy _ xO,λy c e=>I.freeC y c (cs.cl I e).1,λp hp=>?_,I.dE.kept old,?_⟩
  ·cases i with
   |zero=>cases e2
   |succ i=>
    have LX:ys[i]?=some y:=e1
    have R9:σ[i]?=some (some v):=e2
    have GI:(relabel sc X.env).names.lookup y=some .local\/(relabel sc X.env).names.lookup y=some .cell\/(relabel sc X.env).names.lookup y=some .free:=e3
    have uz:sc.names.lookup y=some .free:=by
     rcases GI with h|h|h
     ·rcases bH h with h1|⟨_,h1⟩
      ·exact absurd h1 (cs.nl y (Zf LX))
      ·cases h1
     ·rcases bH h with h1|⟨h1,_⟩
      ·exact absurd rfl (cs.nocell _ (ZW h1))
      ·exact h1
     ·rcases bH h with h1|⟨h1,_⟩
      ·exact h1
      ·exact h1
    have hi:i<X.N.length:=by
     rw[<-cs.len]
     exact(wS.mp LX).1
    have hN:X.N[i]?=some y:=by
     have hz:(ys.zip X.N)[i]?=some (y,X.N[i]):=by
      rw[Zq]
      exact⟨LX,wn hi⟩
     have:=cs.pl _ (Zf hz) uz
     dsimp only at this
     rw[this]
     exact wn hi
    have Bz:(y,NameKind.free)∈sc.names:=ZW uz
    obtain⟨m,hn,hl⟩:=I.loc
    obtain⟨u,r,lk⟩:=hl i y v hN R9 (.inr (cs.free _ Bz rfl))
    refine⟨u,r,.inr ⟨?_,?_⟩⟩
    ·rcases GI with h|h
     ·rcases bH h with h1|⟨_,h1⟩
      ·rw[uz]at h1
       cases h1
      ·cases h1
     ·exact h
    ·rcases lk with⟨k,_⟩|⟨_,c,e,z⟩
     ·rcases cs.free _ Bz rfl with h|h
      ·have k':X.env.scope.names.lookup y=some .local:=k
       rw[h]at k'
       cases k'
      ·have k':X.env.scope.names.lookup y=some .local:=k
       rw[h]at k'
       cases k'
     ·obtain⟨c',LF⟩:=xK X.env sc.names [] y (.inl Bz)
      have:c'=c:=by
       have:=(cs.cl I (show(om sc X.env).lookup y=some c' from LF)).1
       rw[e]at this
       exact(ZO this).symm
      subst this
      obtain⟨o,ho,hd⟩:=z
      exact⟨c',LF,o,old _ _ ho,hd⟩
  ·obtain⟨v,o,ho,hd⟩:=I.cell y c (cs.cl I e).1
   exact⟨v,o,old _ _ ho,hd⟩
  ·obtain rfl:p=(s.heap.objs.size,lobj [] 0):=by simpa using(show p∈([]:List (Addr×Obj))++[(s.heap.objs.size,lobj [] 0)]from hp)
   exact⟨hD,uy _ (wr _),xN,Eo _ (wr _),λv z=>by cases z⟩
  ·show(none::σ).length=(x::ys).length
   rw[ul,ul,I.len,cs.len]
 have NJ:s.heap.objs.size∉fp:=λz=>ZK _ (i0 _ z)
 have NK:∀{jd:List (Addr×Obj)} {H':Hp} {s':Shared} {σ':St},Inv (X.i5 sc x ys fp C s H) jd σ' H' s'->(∀b∈fp,H' b=none)->(∀p∈jd,p.1∉fp)->∀b∈fp,pL (X.i5 sc x ys fp C s H) jd H' b:=λ{jd H' s' σ'} I' hn hp b hb=>
  ⟨hn b hb,(I'.ok.exf b hb).1,I'.ok.exfs b hb,.inl hb,(I'.ok.exf b hb).2,λp ED z=>by
    have NL:p∈jd:=by simpa using(show p∈([]:List (Addr×Obj))++jd from ED)
    exact hp p NL (z▸hb)⟩
 have loop:∀s3:Shared,s3={s with heap:=h1,toks:=s.toks+([]:List (Str×Value)).length}->∀dB:Env,dB.locals=C->
   codeAny (model X.prog X.w) X.A (.compLoop (.ListComp elt [⟨.Name x px,iter,ifs,0⟩] sc pos) 0 (.ref it) (.ref s.heap.objs.size) (compEnvC sc (om sc X.env) C X.env)) (M (.ref s.heap.objs.size) dB) s3:=by
  rintro s3 rfl dB uA
  refine codeAny_compLoop_tests (λm s'=>∃i acc H' its n,Inv (X.i5 sc x ys fp C s H) [(s.heap.objs.size,lobj its n)] (none::σ) H' s'/\Vals acc its/\acc.length<=sizeLine/\tn i s'.heap/\(∀b∈fp,H' b=none)/\W i m acc H') ?_ m0
   ⟨0,[],H,[],0,I0,.nil,ZI _,T.keep 0 _ _ st λb hb o e=>old b o e,λb hb=>(hf b hb).1,w0⟩
  rintro m s' ⟨i,acc,H',its,n,I1,rv,hz,QB,QC,w1⟩
  have NM:∀p∈[(s.heap.objs.size,lobj its n)],p.1∉fp:=λp hp=>by
   obtain rfl:p=(s.heap.objs.size,lobj its n):=by simpa using hp
   exact NJ
  rcases turn i m acc H' w1 with⟨stop,fin⟩|⟨go,V0,step⟩
  ·refine wpAny_mono (T.done (X.i5 sc x ys fp C s H) rfl rfl rfl hc i _ s' _ H' (λ_ _=>False) I1 (NK I1 QC NM) QB stop) (λr s4 ⟨hr,I4⟩=>?_) (λ_ _ z=>z.elim)
   subst hr
   exact hM _ C dB s4 acc H' its n uA xN (wr _) xO I4 rv hz fin
  ·refine wpAny_mono (T.item (X.i5 sc x ys fp C s H) rfl rfl rfl hc i _ s' _ H' (λ_ _=>False) I1 (NK I1 QC NM) QB go) (λr s4 cw=>?_) (λ_ _ z=>z.elim)
   obtain⟨u,hr,h4⟩:=cw
   subst hr
   dsimp only
   have e0:∀env:Env,(letOwnedTupleGo (.Name x px) (.ref it) u>>=λ_=>assign (.Name x px) env u)=assign (.Name x px) env u:=λenv=>by
    rw[show letOwnedTupleGo (.Name x px) (.ref it) u=pure ()from rfl,pure_bind]
   rw[<-e0]
   refine wpAny_bind (wpAny_mono h4 (λ_ s5 cw=>?_) (λ_ _ z=>z.elim))
   obtain⟨y,H5,I5,r5,y5,kg,P0⟩:=cw
   have P1:=I5.pinned (NK I5 P0 NM) (T.obj _ _ kg)
   have xl:(X.i5 sc x ys fp C s H).env.scope.names.lookup x=some .local:=lookup_relabel_local cs.xloc
   refine wpAny_assign_Name (jv P1 cs.nd (i:=0) rfl (.inl xl) r5 (λs6 I6=>?_) (.inr xl))
   refine wpAny_mono (ht fp C s H _ s6 (some y::σ) H5 _ I6 (step y H5 y5)) (λb s7 cw=>?_) (λ_ _ z=>z.elim)
   obtain⟨H7,I7,q7⟩:=cw
   have zA:∀{H':Hp} {s':Shared} {σ':St} {pl:List (Addr×Obj)},Inv (X.i5 sc x ys fp C s H) (pl++gp fp s5.heap) σ' H' s'->tn (i+1) s'.heap/\∀b∈fp,H' b=none:=λ{H' s' σ' pl} I'=>by
    refine⟨T.keep _ _ _ kg λb hb o e=>(I'.pin (b,o) (xL _ (xL _ (ic hb e)))).1,λb hb=>?_⟩
    obtain⟨o,e,d⟩:=T.obj _ _ kg b hb
    exact(I'.pin (b,o) (xL _ (xL _ (ic hb e)))).2.1
   have wk:∀{H':Hp} {s':Shared} {pl:List (Addr×Obj)},Inv (X.i5 sc x ys fp C s H) pl (some y::σ) H' s'->Inv (X.i5 sc x ys fp C s H) pl (none::σ) H' s':=λ{H' s' pl} I'=>I'.weak (by simp) λj v e=>by
    cases j with
    |zero=>cases e
    |succ j=>exact e
   cases b with
   |false=>
    rw[if_neg sw]at q7
    obtain⟨m',hm,w7⟩:=q7
    obtain⟨t7,f7⟩:=zA I7
    exact⟨m',hm,i+1,acc,H7,its,n,wk I7.mz,rv,hz,t7,f7,w7⟩
   |true=>
    rw[if_pos rfl]at q7
    refine wpAny_mono (he fp C s H _ s7 (some y::σ) H7 _ I7 q7) (λu8 s8 ⟨z,H8,I8,r8,m',hm,w8⟩=>?_) (λ_ _ z=>z.elim)
    obtain⟨t8,f8⟩:=zA I8
    obtain⟨p1,p2,p3,p4,p5⟩:=I8.pin (s.heap.objs.size,lobj its n) (xL _ (ZF _ (ZE.mpr rfl)))
    have hl:=rv.length
    refine wpAny_list_append_plain (items:=its.toArray) ⟨n,p1⟩ (λh9 Tz sb9=>?_) (by rw[wP];omega)
    obtain⟨n9,e9⟩:=Tz
    have TB:h9.get? s.heap.objs.size=some (lobj (its++[u8]) n9):=by
     rw[e9]
     unfold lobj
     simp
    have Ia:Inv (X.i5 sc x ys fp C s H) (gp fp s5.heap) (none::σ) H8 s8:=(wk I8).fj λp hp=>I8.pin p (xL _ (xL _ hp))
    have Ib:Inv (X.i5 sc x ys fp C s H) (gp fp s5.heap) (none::σ) H8 {s8 with heap:=h9,toks:=s8.toks}:=Ia.turned (it:=s.heap.objs.size) (λb o hb e=>(sb9.2 b hb).trans e) p2 p3 (.inr (wr _))
     (λy c e z=>by
       obtain⟨v,o,ho,_⟩:=I.cell y c (cs.cl I e).1
       exact absurd (ww ho) (by rw[z];exact ZK _))
     (λp hp z=>by
       have ED:p∈gp fp s5.heap:=by simpa using(show p∈([]:List (Addr×Obj))++gp fp s5.heap from hp)
       exact NJ (z▸(qS ED).1))
    refine⟨m',hm,i+1,acc++[z],H8,its++[u8],n9,Ib.fj λp hp=>?_,rv.append (.cons r8 .nil),?_,T.keep _ _ _ t8 λb hb o e=>?_,f8,w8⟩
    ·obtain rfl:p=(s.heap.objs.size,lobj (its++[u8]) n9):=by simpa using hp
     exact⟨TB,p2,p3,p4,λv z=>by cases z⟩
    ·rw[ZD,Zb]
     omega
    ·exact(sb9.2 b (λz=>NJ (z▸hb))).trans e
 exact codeAny_compStart_list (loop _ rfl _ rfl) (T.self _ 0 _ _ _ (T.keep 0 _ _ st λb hb o e=>old b o e) (loop _ rfl _ rfl))
end
section
variable{X:Cx}{sc:Scope}{x:Str}{ys:List Str}{px:Pos}{elt iter:Expr}{ifs:List Expr}{pos:Pos}{wi:TI}{tt:TT}{te:TE}
theorem comp_back{pins:List (Addr×Obj)}{σ σ':St}{H H':Hp}{s s':Shared}(cs:fQ X.env.scope X.N sc x ys)(I:Inv X pins σ H s){fp:List Addr}(hf:∀b∈fp,pL X pins H b){D C:Addr}{its:List Value}{n:Nat}{acc:List V}
  (I':Inv (X.i5 sc x ys fp C s H) [(D,lobj its n)] σ' H' s')(xN:D≠C)(hD:s.heap.objs.size<=D)(hC:s.heap.objs.size<=C)(rv:Vals acc its)(hz:acc.length<=sizeLine){h':Heap}(sb:Heap.SameBut C s'.heap h'):
  Inv X pins σ (upd H' D (.lst acc)) {s' with heap:=h'}:=by
 obtain⟨p1,p2,p3,p4,p5⟩:=I'.pin (D,lobj its n) (xL _ (ZE.mpr rfl))
 have below:∀b o,s.heap.get? b=some o->b≠D/\b≠C:=λb o e=>⟨ZV (wv (ww e) hD),ZV (wv (ww e) hC)⟩
 have U:Un (eI X.stack) fp H H' s.heap s'.heap:=I'.base
 have mv:H' C=none:=I'.free
 refine I.LG (ch:=fp) I'.os ⟨λb o e n hb hx=>?_,λb o e n hb hx=>?_,λb o e n hx=>?_,λb o e hx=>?_,λb xs e=>?_,λb o u e=>?_,λb ps e=>?_⟩ (λb o e=>?_) I'.bare λb hb=>⟨(hf b hb).2.2.2.1,(hf b hb).2.1,(hf b hb).2.2.2.2.1,(hf b hb).2.2.2.2.2⟩
 ·exact(sb.2 b (below b o e).2).trans (U.keep b o e n hb hx)
 ·obtain⟨sl,q⟩:=U.slot b o e n hb hx
  exact⟨sl,(sb.2 b (below b o e).2).trans q⟩
 ·rw[aJ (below b o e).1]
  exact U.free b o e n hx
 ·obtain⟨o',q⟩:=U.there b o e hx
  exact⟨o',(sb.2 b (below b o e).2).trans q⟩
 ·rw[aJ (cj (U.k7 b xs e) p2)]
  exact U.k7 b xs e
 ·rw[aJ (cj (U.kD b o u e) p2)]
  exact U.kD b o u e
 ·obtain⟨more,q⟩:=U.mi b ps e
  exact⟨more,by rw[aJ (cj q p2)];exact q⟩
 ·by_cases hb:b=D
  ·subst hb
   rw[aW]at e
   cases e
   exact⟨hz,its,n,rv,(sb.2 b xN).trans p1⟩
  ·rw[aJ hb]at e
   refine(I'.dE b o e).ke (λc v hc q=>(sb.2 c ?_).trans q) (λc q=>?_) λc xs q=>?_
   ·rintro rfl
    rcases hc with hc|hc
    ·rw[hc,e]at mv
     cases mv
    ·rw[hc]at mv
     cases mv
   ·rw[aJ (cj q p2)]
    exact q
   ·rw[aJ (cj q p2)]
    exact q
theorem SameBut.QD(a:Addr)(h:Heap):Heap.SameBut a h h:=⟨rfl,λ_ _=>rfl⟩
theorem Dl(hi:PI X (.Name x px) iter wi)(ys:List Str)(ht:∀ex C s H,xM (X.i5 sc x ys ex C s H) ifs tt)(he:∀ex C s H,PE (X.i5 sc x ys ex C s H) elt te)(sT:i4 X.env.scope X.N sc x ys=true)(hc:X.calm=true:=by rfl)
  (hs:∀x,foldedSetIterable iter X.env x=pure x:=by intro _;rfl):PE X (.ListComp elt [⟨.Name x px,iter,ifs,0⟩] sc pos) (wz wi tt te):=by
 have cs:=fQ.of sT
 intro pins s σ H Q I h
 rw[eval_ListComp]
 refine wpAny_comprehension_free (use:=none) (cl:=om sc X.env) rfl hs (tE λp hp hk=>cs.cell I (by rw[<-hk];exact hp)) cs.kind cs.locs ?_
 refine dH (hi pins s σ H _ I h) λv s1 h1=>dH h1 λO8 s2 h2=>?_
 obtain⟨it,fp,tn,J,H2,rfl,I2,T,bQ,f2,W,⟨m0,w0⟩,turn⟩:=h2
 refine zz (M:=λacc dB=>compPost (model X.prog X.w) X.A X.xe none (EP X pins σ Q) acc dB.locals) hc cs I2 ht he T bQ f2 w0 (F:=λacc H=>∀p,H p=none->Q (.ref p) (upd H p (.lst acc))) turn λD C dB s' acc H' its n uA xN hD hC I' rv hz q=>?_
 obtain⟨m,hn,_⟩:=I'.loc
 refine⟨m,by rw[uA];exact hn,λh' sb=>?_⟩
 rw[uA]at sb
 exact⟨.ref D,_,comp_back cs I2 f2 I' xN hD hC rv hz sb,rfl,q D (I'.pin (D,lobj its n) (xL _ (ZE.mpr rfl))).2.1⟩
theorem Dm{i:Nat}{y:Str}{py pT:Pos}(hN:X.N.Nodup)(FP:X.N[i]?=some y)(hy:X.env.scope.names.lookup y=some .local)(hi:PI X (.Name x px) iter wi)(ys:List Str)(ht:∀ex C s H,xM (X.i5 sc x ys ex C s H) ifs tt)(he:∀ex C s H,PE (X.i5 sc x ys ex C s H) elt te)
  (sT:i4 X.env.scope X.N sc x ys=true)(hc:X.calm=true:=by rfl)(hs:∀x,foldedSetIterable iter X.env x=pure x:=by intro _;rfl)
  (GJ:swapsWith (.ListComp elt [⟨.Name x px,iter,ifs,0⟩] sc pos) (some (.Name y py)) pT.line X.env=pure true:=by rfl):
  PS X (.Assign [.Name y py] (.ListComp elt [⟨.Name x px,iter,ifs,0⟩] sc pos) pT) (λD σ H=>wz wi tt te σ H λv H1=>D.nx (σ.set i (some v)) H1):=by
 have cs:=fQ.of sT
 intro pins s σ H D I h
 rw[exec_Assign_Name_used _ _ _ _ GJ]
 refine wpAny_bind (wpAny_standAt (wpAny_bind ?_))
 show wpAny _ X.A (do let _<-comprehension (.ListComp elt [⟨.Name x px,iter,ifs,0⟩] sc pos) sc X.env _ (newList []) false (eval iter X.env) (some (assign (.Name y py) X.env))) _ _ s
 refine wpAny_bind (wpAny_mono (wpAny_comprehension_free (use:=some (assign (.Name y py) X.env)) (cl:=om sc X.env) (Q:=λ_ s'=>SP X pins D .next s') rfl hs (tE λp hp hk=>cs.cell I (by rw[<-hk];exact hp)) cs.kind cs.locs ?_) (λ_ s' hq=>wpAny_pure (wpAny_pure hq)) λ_ _ e=>e)
 refine dH (hi pins s σ H _ I h) λv s1 h1=>dH h1 λO8 s2 h2=>?_
 obtain⟨it,fp,tn,J,H2,rfl,I2,T,bQ,f2,W,⟨m0,w0⟩,turn⟩:=h2
 refine zz (M:=λacc dB=>compPost (model X.prog X.w) X.A X.xe (some (assign (.Name y py) X.env)) (λ_ s'=>SP X pins D .next s') acc dB.locals) hc cs I2 ht he T bQ f2 w0
  (F:=λacc H=>∀p,H p=none->D.nx (σ.set i (some (.ref p))) (upd H p (.lst acc))) turn λDa C dB s' acc H' its n uA xN hD hC I' rv hz q=>?_
 obtain⟨m,hn,_⟩:=I'.loc
 have Io:=comp_back cs I2 f2 I' xN hD hC rv hz (SameBut.QD C s'.heap)
 have QE:C≠X.env.locals:=λe=>absurd (wv I2.lt hC) (by rw[e];exact ZK _)
 have QF:∀z c,X.env.cells.lookup z=some c->c≠C:=λz c e e'=>by
  obtain⟨v,o,ho,_⟩:=I2.cell z c e
  exact absurd (wv (ww ho) hC) (by rw[e'];exact ZK _)
 refine wpAny_assign_Name (qO (v:=.ref Da) Io hN FP (.inl hy) rfl (λzf TF cw=>?_) (.inr hy))
 obtain⟨a,sb,ha⟩:=cw
 have TH:C≠a:=by
  rcases ha with e|e
  ·rw[e]
   exact QE
  ·exact(QF y a e).symm
 refine⟨m,by rw[uA];exact hn.sameBut sb TH,λh' QG=>?_⟩
 rw[uA]at QG
 have mv:(upd H' Da (.lst acc)) C=none:=by
  rw[aJ xN.symm]
  exact I'.free
 refine⟨_,_,TF.turned (t':=zf.toks) (it:=C) (λb o hb e=>(QG.2 b hb).trans e) mv QE (.inr (ZB I2.sz hC)) QF (λp hp e=>?_),q Da (I'.pin (Da,lobj its n) (xL _ (ZE.mpr rfl))).2.1⟩
 exact absurd (wv (ww (I2.pin p hp).1) hC) (by rw[e];exact ZK _)
end
end L2
namespace L2
open PySem PySem.Spec PyProof.Rows PySem.SeqAt
section
variable{X:Cx}{pins:List (Addr×Obj)}{σ:St}{H:Hp}{s:Shared}{a b:Addr}{xs ys:List V}{A:Around}
theorem uB(I:Inv X pins σ H s)(ha:mj X.K H a xs)(hb:mj X.K H b ys)(hu:A.units<cLine)(q:Nat->Bool)
  (hq:∀(j:Nat) x y u v,xs[j]?=some x->ys[j]?=some y->RelV x u->RelV y v->EqAt A.in1 s u v (q j)):RcAt A s (.ref a) (.ref b) (decide (xs.length=ys.length)&&(List.range xs.length).all q):=by
 obtain⟨its,r1,p1,z1⟩:=I.list ha
 obtain⟨mq,r2,p2,z2⟩:=I.list hb
 have l1:=r1.length
 have l2:=r2.length
 by_cases hl:xs.length=ys.length
 ·rw[decide_eq_true hl,Ye]
  have:=RcAt.lists (A:=A) (s:=s) (e:=q) p1.isList p2.isList (by rw[wP,wP];omega) hu λj h1 h2=>?_
  ·rw[wP,<-l1]at this
   exact this
  ·rw[wP]at h1 h2
   obtain⟨x,hx⟩:∃x,xs[j]?=some x:=⟨xs[j],wn (by omega)⟩
   obtain⟨y,hy⟩:∃y,ys[j]?=some y:=⟨ys[j],wn (by omega)⟩
   obtain⟨u,e1,ru⟩:=r1.get hx
   obtain⟨v,e2,rv⟩:=r2.get hy
   have f1:its.toArray[j]=u:=by
    have:=(wS.mp e1).2
    simpa using this
   have f2:mq.toArray[j]=v:=by
    have:=(wS.mp e2).2
    simpa using this
   rw[f1,f2]
   exact hq j x y u v hx hy ru rv
 ·rw[decide_eq_false hl,X1]
  exact RcAt.lists_lengths p1.isList p2.isList (by rw[wP,wP];simp;omega) hu
theorem BA(I:Inv X pins σ H s)(ha:mj X.K H a xs)(hb:mj X.K H b ys)(hu:A.units<cLine)(q:Nat->Bool)
  (hq:∀(j:Nat) x y u v,xs[j]?=some x->ys[j]?=some y->RelV x u->RelV y v->EqAt A.in1 s u v (q j)):RcNeAt A s (.ref a) (.ref b) (!(decide (xs.length=ys.length)&&(List.range xs.length).all q)):=by
 obtain⟨its,r1,p1,z1⟩:=I.list ha
 obtain⟨mq,r2,p2,z2⟩:=I.list hb
 have l1:=r1.length
 have l2:=r2.length
 by_cases hl:xs.length=ys.length
 ·rw[decide_eq_true hl,Ye]
  have:=RcNeAt.lists (A:=A) (s:=s) (e:=q) p1.isList p2.isList (by rw[wP,wP];omega) hu λj h1 h2=>?_
  ·rw[wP,<-l1]at this
   exact this
  ·rw[wP]at h1 h2
   obtain⟨x,hx⟩:∃x,xs[j]?=some x:=⟨xs[j],wn (by omega)⟩
   obtain⟨y,hy⟩:∃y,ys[j]?=some y:=⟨ys[j],wn (by omega)⟩
   obtain⟨u,e1,ru⟩:=r1.get hx
   obtain⟨v,e2,rv⟩:=r2.get hy
   have f1:its.toArray[j]=u:=by
    have:=(wS.mp e1).2
    simpa using this
   have f2:mq.toArray[j]=v:=by
    have:=(wS.mp e2).2
    simpa using this
   rw[f1,f2]
   exact hq j x y u v hx hy ru rv
 ·rw[decide_eq_false hl,X1]
  exact RcNeAt.lists_lengths p1.isList p2.isList (by rw[wP,wP];simp;omega) hu
theorem GK{α:Type}[DecidableEq α]{ns ms:List α}:(decide (ns.length=ms.length)&&(List.range ns.length).all λj=>decide (ns[j]?=ms[j]?))=decide (ns=ms):=by
 by_cases e:ns=ms
 ·subst e
  simp
 ·rw[decide_eq_false e]
  by_cases hl:ns.length=ms.length
  ·rw[decide_eq_true hl,Ye]
   rw[<-Bool.not_eq_true,ZA]
   intro h
   apply e
   apply List.ext_getElem?
   intro i
   by_cases hi:i<ns.length
   ·exact of_decide_eq_true (h i (ZG.mpr hi))
   ·rw[Yi (by omega),Yi (by omega)]
  ·rw[decide_eq_false hl]
   rfl
theorem EE{α:Type}[DecidableEq α]{ns ms:List α}{f:α->V}:(decide ((ns.map f).length=(ms.map f).length)&&(List.range (ns.map f).length).all λj=>decide (ns[j]?=ms[j]?))=decide (ns=ms):=by
 rw[wE,wE]
 exact GK
theorem zB{ns:List Int}{j:Nat}{x:V}(h:(ns.map V.int)[j]?=some x):∃n,ns[j]?=some n/\x=.int n:=by
 rw[Zh]at h
 cases e:ns[j]? with
 |none=>
  rw[e]at h
  cases h
 |some n=>
  rw[e]at h
  exact⟨n,rfl,(ZO h).symm⟩
theorem EF{ns ms:List Int}(A:Around):∀(j:Nat) x y u v,(ns.map V.int)[j]?=some x->(ms.map V.int)[j]?=some y->RelV x u->RelV y v->EqAt A s u v (decide (ns[j]?=ms[j]?)):=by
 intro j x y u v hx hy ru rv
 obtain⟨n,e1,rfl⟩:=zB hx
 obtain⟨m,e2,rfl⟩:=zB hy
 obtain⟨t,rfl⟩:=ru
 obtain⟨t',rfl⟩:=rv
 have:decide (ns[j]?=ms[j]?)=(n==m):=by
  rw[e1,e2]
  by_cases h:n=m
  ·subst h
   simp
  ·rw[decide_eq_false (by simpa using h)]
   exact(beq_eq_false_iff_ne.mpr h).symm
 rw[this]
 exact EqAt.int_int n t m t'
theorem EG{ns ms:List Int}(I:Inv X pins σ H s)(ha:mj X.K H a (ns.map V.int))(hb:mj X.K H b (ms.map V.int))(hu:A.units<cLine):RcAt A s (.ref a) (.ref b) (decide (ns=ms)):=by
 have:=uB I ha hb hu (λj=>decide (ns[j]?=ms[j]?)) (EF A.in1)
 rw[EE]at this
 exact this
theorem Dp:∀{ns ms:List Int},ns.map V.int=ms.map V.int->ns=ms
 |[],[],_=>rfl
 |[],_::_,h=>by cases h
 |_::_,[],h=>by cases h
 |n::ns,m::ms,h=>by
  rw[ZC,ZC]at h
  injection h with h1 h2
  injection h1 with h1
  rw[h1,Dp h2]
theorem EH{ns ms:List Int}(I:Inv X pins σ H s)(ha:mj X.K H a (ns.map V.int))(hb:mj X.K H b (ms.map V.int))(hu:A.units<cLine):EqAt A s (.ref a) (.ref b) (decide (ns=ms)):=by
 by_cases e:a=b
 ·subst e
  rw[decide_eq_true (Dp (I.tZ ha hb))]
  exact EqAt.same _
 ·exact EqAt.of_refs e (EG I ha hb hu)
theorem Kd{bs:List Bool}{j:Nat}{x:V}(h:(bs.map V.bl)[j]?=some x):∃n,bs[j]?=some n/\x=.bl n:=by
 rw[Zh]at h
 cases e:bs[j]? with
 |none=>
  rw[e]at h
  cases h
 |some n=>
  rw[e]at h
  exact⟨n,rfl,(ZO h).symm⟩
theorem range_any(bs:List Bool):(List.range bs.length).any (λi=>bs.getD i false)=bs.any id:=by
 rw[Ze,Zw,Zw]
 constructor
 ·rintro⟨i,h1,h2⟩
  have hi:=ZG.mp h1
  refine⟨bs[i],Y7 hi,?_⟩
  rw[ZQ,wn hi]at h2
  exact h2
 ·rintro⟨b,h1,h2⟩
  obtain⟨i,hi,e⟩:=YG.mp h1
  refine⟨i,ZG.mpr hi,?_⟩
  rw[ZQ,wn hi,e]
  exact h2
theorem range_all(bs:List Bool):(List.range bs.length).all (λi=>bs.getD i false)=bs.all id:=by
 rw[Ze,ZA,ZA]
 constructor
 ·intro h b h1
  obtain⟨i,hi,e⟩:=YG.mp h1
  have:=h i (ZG.mpr hi)
  rw[ZQ,wn hi,e]at this
  exact this
 ·intro h i h1
  have hi:=ZG.mp h1
  rw[ZQ,wn hi]
  exact h bs[i] (Y7 hi)
theorem GL{bs:List Bool}{its:List Value}(r:Vals (bs.map V.bl) its){prog:Program}{w:World}{A:Around}:TruthOf prog w A (λi v=>its.toArray[i]?=some v) (λi=>bs.getD i false):=by
 intro i v s Q E hv h
 have RZ:its[i]?=some v:=by simpa using hv
 have hl:=r.length
 have hi:=(wS.mp RZ).1
 rw[wE]at hl
 obtain⟨x,hx⟩:∃x,(bs.map V.bl)[i]?=some x:=⟨(bs.map V.bl)[i]'(by rw[wE];omega),wn _⟩
 obtain⟨u,e,ru⟩:=r.get hx
 rw[RZ]at e
 cases e
 obtain⟨n,e2,rfl⟩:=Kd hx
 cases ru
 have h':Q (bs.getD i false) s:=h
 rw[ZQ,e2]at h'
 exact wpAny_truthy_bool h'
theorem zC(hc:X.calm=true):jw X (.builtin "any") (λxs H Q=>∃(p:Addr) (bs:List Bool),xs=[.ref p]/\mj X.K H p (bs.map V.bl)/\Q (.bl (bs.any id)) H):=by
 intro pins s σ H xs us Q I r h
 obtain⟨p,bs,rfl,hq,q⟩:=h
 obtain⟨u,rfl,ru⟩:=vals1 r
 cases ru
 obtain⟨its,rv,pl,hz⟩:=I.list hq
 have GN:p≠s.heap.objs.size:=by
  obtain⟨o,ho,_⟩:=pl.isList
  exact ZV (ww ho)
 have hh:X.A.in1.handled=none:=I.ok.hd hc
 refine call_any_walk (wpAny_pyIter_list pl.isList ⟨s.heap.objs.size,_,_,_,_,_,(λi=>bs.getD i false),rfl,Walks.list hh s.heap.objs.size p GN its.toArray,?_,GL rv,λh' tk k=>?_⟩)
 ·exact⟨⟨_,ZH _ rfl,rfl,rfl⟩,pl.isList.at λo e=>wp _ e⟩
 ·have hl:=rv.length
  rw[wE]at hl
  rw[wP,<-hl,range_any]
  refine⟨.bl _,H,I.kept (t':=tk) λb o e=>k b o (λz=>?_) (wp _ e),rfl,q⟩
  obtain rfl:b=s.heap.objs.size:=by simpa using z
  exact ZK _ (ww e)
theorem Ke:Pd X "int.bit_length" (λx vs H Q=>∃i,x=.int i/\vs=[]/\Q (.int (Builtin.Int.intBits i:Nat)) H):=by
 intro pins s σ H x vs v us Q I rx rv h
 obtain⟨i,rfl,rfl,q⟩:=h
 obtain⟨t,rfl⟩:=rx
 cases rv
 exact call_gives F.slot_int_bit_length (typeIs_int s i t) F.entry_int_bit_length (F.args_int_bit_length_1 _) (AutoIntG2.int_bit_length_int_0 i t) ⟨.int _,H,I.tok _,⟨_,rfl⟩,q⟩
end
section
open PySem.AutoSeq1 (wpAny_loadPart')
open PySem.MeetsSeq PySem.MeetsSeq2 PySem.MeetsSeq3
theorem Kf(l b:Addr)(items items2:Array Value)(n n2:Nat)(dd Gn:Option Addr)(sl Ey:Array (Option Value))(ns ms:List Int)(hi:IntsAre items.toList ns)(hj:IntsAre items2.toList ms)(k:Nat):
  ∀i:Nat,items.size-i=k->i<=items.size->i<=items2.size->Meets (Builtin.«list.__eq__.loop» ⟨[.ref l,.ref b,rawInt i,rawInt 0],[]⟩)
   (λA R s=>s.heap.get? l=some {cls:=.type "list",dict:=dd,data:=.seq items n,slots:=sl}/\s.heap.get? b=some {cls:=.type "list",dict:=Gn,data:=.seq items2 n2,slots:=Ey}/\
     R (.ok (.ret (.bool (HT.lexLt (ns.drop i) (ms.drop i))))) s):=by
 have z1:items.size=ns.length:=by rw[<-hi.length];simp
 have z2:items2.size=ms.length:=by rw[<-hj.length];simp
 induction k with
 |zero=>
  intro i hk h1 h2 prog w A R s h
  obtain⟨hp,g,d,tk,os⟩:=s;obtain⟨hl,hb,h⟩:=h
  wp_walk using wpAny_loadPart' hl,wpAny_loadPart' hb
  have e1:items[((i:Nat):Int).toNat]?=none:=by simp;omega
  have d1:ns.drop i=[]:=ZU (by omega)
  rw[d1]at h
  have hv:HT.lexLt [] (ms.drop i)=decide (items.size<items2.size):=by
   by_cases hm:i<ms.length
   ·rw[ZR hm,HT.ug]
    exact(decide_eq_true (by omega)).symm
   ·rw[ZU (by omega),HT.vJ]
    exact(decide_eq_false (by omega)).symm
  rw[hv]at h
  rw[e1]
  wp_walk using wpAny_loadPart' hl,wpAny_loadPart' hb
  exact h
 |succ k ih=>
  intro i hk h1 h2 prog w A R s h
  obtain⟨hp,g,d,tk,os⟩:=s;obtain⟨hl,hb,h⟩:=h
  wp_walk using wpAny_loadPart' hl,wpAny_loadPart' hb
  have i0:i<items.size:=by omega
  have e1:items[((i:Nat):Int).toNat]?=some items[i]:=by simp[i0]
  have dn:ns.drop i=ns[i]::ns.drop (i+1):=ZR (by omega)
  by_cases hm:i<items2.size
  ·have e2:items2[((i:Nat):Int).toNat]?=some items2[i]:=by simp[hm]
   have dm:ms.drop i=ms[i]::ms.drop (i+1):=ZR (by omega)
   rw[dn,dm,HT.oG]at h
   rw[e1,e2]
   obtain⟨t,f1⟩:=hi.get i ns[i] (wn (by omega))
   obtain⟨u,f2⟩:=hj.get i ms[i] (wn (by omega))
   have UX:items[i]=.int ns[i] t:=by
    have:=(wS.mp f1).2
    simpa using this
   have UY:items2[i]=.int ms[i] u:=by
    have:=(wS.mp f2).2
    simpa using this
   have hc:((i:Int)+1)=((i+1:Nat):Int):=by push_cast;rfl
   rw[UX,UY]
   obtain⟨e,he,QH⟩:=HT.Gk A.in1 ⟨hp,g,d,tk,os⟩ ns[i] t ms[i] u
   refine wpAny_bind (he prog w _ _ ?_)
   cases e with
   |true=>
    rw[if_pos (QH.mp rfl)]at h
    wp_walk
    rw[hc]
    exact⟨plainId_quiet plain_eq_loop _,codeAny_builtin entry_eq_loop (by
     rw[Around.under_plainId plain_eq_loop _]
     exact ih (i+1) (by omega) (by omega) (by omega) prog w A R _ ⟨hl,hb,h⟩)⟩
   |false=>
    rw[if_neg (λq=>absurd (QH.mpr q) sw)]at h
    wp_walk using wpAny_loadPart' hl,wpAny_loadPart' hb
    rw[e1,e2]
    rw[UX,UY]
    have V1:=HT.Gm A.in1 ⟨hp,g,d,tk,os⟩ ns[i] t ms[i] u prog w
    wp_walk using V1
    exact h
  ·have e2:items2[((i:Nat):Int).toNat]?=none:=by simp;omega
   have dm:ms.drop i=[]:=ZU (by omega)
   rw[dn,dm,HT.uh]at h
   have hv:false=decide (items.size<items2.size):=(decide_eq_false (by omega)).symm
   rw[hv]at h
   rw[e1,e2]
   wp_walk using wpAny_loadPart' hl,wpAny_loadPart' hb
   exact h
theorem xP(l b:Addr)(items items2:Array Value)(n n2:Nat)(dd Gn:Option Addr)(sl Ey:Array (Option Value))(ns ms:List Int)(hi:IntsAre items.toList ns)(hj:IntsAre items2.toList ms):
  Meets (Builtin.«list.__lt__» ⟨[.ref l,.ref b],[]⟩)
   (λA R s=>s.heap.get? l=some {cls:=.type "list",dict:=dd,data:=.seq items n,slots:=sl}/\s.heap.get? b=some {cls:=.type "list",dict:=Gn,data:=.seq items2 n2,slots:=Ey}/\
     R (.ok (.ret (.bool (HT.lexLt ns ms)))) s):=by
 intro prog w A R s h
 obtain⟨hp,g,d,tk,os⟩:=s;obtain⟨hl,hb,h⟩:=h
 have f3:=AutoSeq1.sub_list_list
 wp_walk using wpAny_loadPart' hl,wpAny_loadPart' hb
 exact⟨plainId_quiet plain_eq_loop _,codeAny_builtin entry_eq_loop (by
  rw[Around.under_plainId plain_eq_loop _]
  exact Kf l b items items2 n n2 dd Gn sl Ey ns ms hi hj _ 0 rfl (ZI _) (ZI _) prog w A R _ ⟨hl,hb,by simpa using h⟩)⟩
def QI(A:Around)(s:Shared)(y x:Value)(r:Bool):Prop:=
 ∀(prog:Program) (w:World) (E:Value->Shared->Prop) (Q:Value->Shared->Prop),Q (.bool r) s->wpAny (model prog w) A (richCompare .Lt y x) Q E s
theorem BB{A:Around}{s:Shared}{l b:Addr}{items items2:Array Value}{ns ms:List Int}(hl:s.heap.IsList l items)(hb:s.heap.IsList b items2)(hi:IntsAre items.toList ns)(hj:IntsAre items2.toList ms)(hu:A.units<cLine):QI A s (.ref l) (.ref b) (HT.lexLt ns ms):=λprog w E Q h=>by
 obtain⟨⟨cls,dd,data,sl⟩,ho,hc,n,hd⟩:=id hl
 obtain⟨⟨Qj,Gn,data2,Ey⟩,C7,Jq,n2,hd2⟩:=id hb
 simp only at hc hd Jq hd2
 subst hc hd Jq hd2
 exact richCompare_meets_room (op:=.Lt) ⟨_,ho,rfl⟩ ⟨_,C7,rfl⟩ PySem.F.slot_list_lt PySem.F.entry_list_lt (PySem.F.args_list_lt_2 _ _) (xP l b items items2 n n2 dd Gn sl Ey ns ms hi hj)
  ⟨ho,C7,⟨(λx=>nomatch x),h⟩⟩ hu
end
end L2
namespace Mt
def sub(a b:Nat):Bool:=(a&&&b)==a
def uC(g:Nat):List Nat:=(List.range 6).filter λh=>g.testBit h
def TJ(g:Nat):Nat:=(uC g).foldl (λn h=>n+2^(5-h)) 0
def rank(g:Nat):Nat:=(uC g).length*64+(63-TJ g)
def zD(p:Nat->Nat->Bool):Bool:=(List.range 64).all λa=>(List.range 64).all λb=>p a b
theorem pU{p:Nat->Nat->Bool}(h:zD p=true){a b:Nat}(ha:a<64)(hb:b<64):p a b=true:=by
 have h1:=ZA.mp h a (ZG.mpr ha)
 exact ZA.mp h1 b (ZG.mpr hb)
theorem zE{a b:Nat}(ha:a<64)(hb:b<64)(e:rank a=rank b):a=b:=by
 have h:zD (λa b=>!(rank a==rank b)||a==b)=true:=by decide+kernel
 have:=pU h ha hb
 rw[e]at this
 simpa using this
theorem GO{a b:Nat}(ha:a<64)(hb:b<64)(s:sub a b=true):rank a<=rank b:=by
 have h:zD (λa b=>!(sub a b)||decide (rank a<=rank b))=true:=by decide+kernel
 have:=pU h ha hb
 rw[s]at this
 simpa using this
theorem pV(a:Nat):sub a a=true:=by simp[sub]
theorem Dq{a b:Nat}:sub a b=true↔a&&&b=a:=by simp[sub]
theorem ra{a b c:Nat}(h1:sub a b=true)(h2:sub b c=true):sub a c=true:=by
 rw[Dq]at*
 rw[<-h1,Nat.and_assoc,h2]
def lets(l:List Nat)(g:Nat):Bool:=l.any λr=>sub r g
theorem fI{l:List Nat}{g:Nat}:lets l g=true↔∃r∈l,sub r g=true:=Zw
structure Ph(l:List Nat):Prop where
 ord:l.Pairwise λa b=>rank a<rank b
 anti:∀a∈l,∀b∈l,sub a b=true->a=b
 small:∀a∈l,a<64
def lh(acc:List Nat)(g:Nat):List Nat:=if lets acc g then acc else acc++[g]
def uD(ss:List Nat):List Nat:=ss.foldl lh []
structure Cl(pre acc:List Nat):Prop where
 lad:Ph acc
 mem:∀r∈acc,r∈pre
 cov:∀g∈pre,lets acc g=true
theorem Cl.nil:Cl [] []:=⟨⟨List.Pairwise.nil,by simp,by simp⟩,by simp,by simp⟩
theorem GP(l m:List Nat)(g:Nat):lets (l++m) g=(lets l g||lets m g):=by simp[lets]
theorem Cl.step{pre acc:List Nat}{g:Nat}(h:Cl pre acc)(hg:g<64)(hs:∀r∈pre,rank r<=rank g):Cl (pre++[g]) (lh acc g):=by
 unfold lh
 by_cases hl:lets acc g=true
 ·rw[if_pos hl]
  refine⟨h.lad,λr hr=>ZF _ (h.mem r hr),λx hx=>?_⟩
  rcases sK.mp hx with hx|hx
  ·exact h.cov x hx
  ·obtain rfl:x=g:=by simpa using hx
   exact hl
 ·rw[if_neg hl]
  have hn:∀r∈acc,¬sub r g=true:=λr hr z=>hl (fI.mpr ⟨r,hr,z⟩)
  have i0:∀r∈acc,rank r<rank g:=λr hr=>by
   have h1:=hs r (h.mem r hr)
   rcases X9 (rank r) (rank g)with h2|h2
   ·exact h2
   ·have:=zE (h.lad.small r hr) hg (by omega)
    subst this
    exact absurd (pV r) (hn r hr)
  refine⟨⟨?_,?_,?_⟩,?_,?_⟩
  ·refine YF.mpr ⟨h.lad.ord,Zt _ _,λa ha b hb=>?_⟩
   obtain rfl:b=g:=by simpa using hb
   exact i0 a ha
  ·intro a ha b hb s
   rcases sK.mp ha with Pj|Pj
   ·rcases sK.mp hb with L5|L5
    ·exact h.lad.anti a Pj b L5 s
    ·have e:b=g:=by simpa using L5
     rw[e]at s
     exact absurd s (hn a Pj)
   ·have e:a=g:=by simpa using Pj
    rcases sK.mp hb with L5|L5
    ·rw[e]at s
     have h1:=GO hg (h.lad.small b L5) s
     have h2:=i0 b L5
     omega
    ·have e2:b=g:=by simpa using L5
     rw[e,e2]
  ·intro a ha
   rcases sK.mp ha with ha|ha
   ·exact h.lad.small a ha
   ·obtain rfl:a=g:=by simpa using ha
    exact hg
  ·intro r hr
   rcases sK.mp hr with hr|hr
   ·exact ZF _ (h.mem r hr)
   ·exact xL _ hr
  ·intro x hx
   rw[GP]
   rcases sK.mp hx with hx|hx
   ·rw[h.cov x hx]
    rfl
   ·obtain rfl:x=g:=by simpa using hx
    simp[lets,pV]
theorem GQ{ss:List Nat}(BD:∀g∈ss,g<64)(hs:ss.Pairwise λa b=>rank a<=rank b):Cl ss (uD ss):=by
 have go:∀(post pre:List Nat) (acc:List Nat),pre++post=ss->Cl pre acc->Cl ss (post.foldl lh acc):=by
  intro post
  induction post with
  |nil=>
   intro pre acc e h
   rw[ZL]at e
   rw[<-e]
   exact h
  |cons g post ih=>
   intro pre acc e h
   rw[Zl]
   refine ih (pre++[g]) _ (by rw[tz];exact e) (h.step (BD g ?_) λr hr=>?_)
   ·rw[<-e]
    simp
   ·rw[<-e]at hs
    exact(YF.mp hs).2.2 r hr g (by simp)
 exact go ss [] [] rfl Cl.nil
theorem Cl.lets{pre acc:List Nat}(h:Cl pre acc)(g:Nat):Mt.lets acc g=Mt.lets pre g:=by
 rw[Ze,fI,fI]
 constructor
 ·rintro⟨r,h1,h2⟩
  exact⟨r,h.mem r h1,h2⟩
 ·rintro⟨r,h1,h2⟩
  obtain⟨q,h3,h4⟩:=fI.mp (h.cov r h1)
  exact⟨q,h3,ra h4 h2⟩
theorem EI{l:List Nat}{r:Nat}(h:r∈l):lets l r=true:=fI.mpr ⟨r,h,pV r⟩
end Mt
namespace L2.D
open PySem
inductive PV where
 |non|bl(b:Bool)|int(i:Int)|str(x:Str)|lst(l:List PV)|tup(l:List PV)|ins(c:Nat)(l:List PV)
 deriving Inhabited
def flat:PV->Bool
 |.non=>true
 |.bl _=>true
 |.int _=>true
 |.str _=>true
 |_=>false
def Ju:PV->PV->Bool
 |.non,.non=>true
 |.bl a,.bl b=>a==b
 |.bl a,.int b=>(if a then 1 else 0)==b
 |.int a,.bl b=>a==(if b then 1 else 0)
 |.int a,.int b=>a==b
 |.str a,.str b=>a==b
 |_,_=>false
def oI(f:PV->PV->Option Bool):List PV->List PV->Option (List Bool)
 |a::l,b::m=>(f a b).bind λe=>(oI f l m).map (e::·)
 |_,_=>some []
def FQ(f:PV->PV->Option Bool)(l m:List PV):Option Bool:=if l.length=m.length then(oI f l m).map λes=>es.all id else some false
def kJ:Nat->PV->PV->Option Bool
 |n+1,.lst l,.lst m=>FQ (kJ n) l m
 |n+1,.tup l,.tup m=>if l.length=m.length then FQ (kJ n) l m else none
 |_,p,q=>if flat p&&flat q then some (Ju p q)else none
inductive Cn where
 |l(xs:List PV)|d(qK:List (Int×PV))
 deriving Inhabited
inductive Slot where
 |un|sh(p:PV)|own(c:Cn)|bw(l:List PV)
 deriving Inhabited
abbrev Slot.ow(l:List PV):Slot:=.own (.l l)
abbrev cA:=List Slot
abbrev Den:=cA->Option PV
def Slot.val:Slot->Option PV
 |.un=>none
 |.sh p=>some p
 |.own (.l l)=>some (.lst l)
 |.own (.d _)=>none
 |.bw l=>some (.lst l)
def Slot.NN:Slot->Option PV
 |.sh p=>some p
 |_=>none
inductive Fl where
 |nx(ρ:cA)|rt(p:PV)|bk(ρ:cA)|ct(ρ:cA)
abbrev aR:=cA->Option Fl
abbrev dF:=cA->Option Bool
abbrev cI:=cA->Option (List PV)
def dC(p:PV):Den:=λ_=>some p
def dV(i:Nat):Den:=λρ=>(ρ[i]?).bind Slot.val
def a6(i:Nat):Den:=λρ=>(ρ[i]?).bind Slot.NN
def bW(g:PV->Option PV)(a:Den):Den:=λρ=>(a ρ).bind g
def ag(g:PV->PV->Option PV)(a b:Den):Den:=λρ=>(a ρ).bind λx=>(b ρ).bind λy=>g x y
def aH:cI:=λ_=>some []
def aa(a:Den)(as:cI):cI:=λρ=>(a ρ).bind λx=>(as ρ).bind λxs=>some (x::xs)
def aN(F:List PV->Option PV)(as:cI):Den:=λρ=>(as ρ).bind F
def xQ(F:List PV->Option PV)(as:cI):Den:=λρ=>(as ρ).bind λxs=>(F xs).bind λp=>if flat p then some p else none
def i6(as:cI):Den:=λρ=>(as ρ).bind λxs=>if xs.length<=sizeLine then some (.lst xs)else none
def jj(as:cI):Den:=λρ=>(as ρ).bind λxs=>if xs.length<=sizeLine then some (.tup xs)else none
def Pk:PV->Option Bool
 |.bl b=>some b
 |_=>none
def tV(a:Den):dF:=λρ=>(a ρ).bind Pk
def oF(a b:dF):dF:=λρ=>(a ρ).bind λc=>if c then b ρ else some false
def FJ(a b:dF):dF:=λρ=>(a ρ).bind λc=>if c then some true else b ρ
def qQ(a:dF):dF:=λρ=>(a ρ).map (!·)
def bU:PV->PV->Option PV
 |.int i,.int j=>some (.int (i+j))
 |.str x,.str y=>if x.length+y.length<=sizeLine then some (.str (x++y))else none
 |.lst l,.lst m=>if l.length+m.length<=sizeLine then some (.lst (l++m))else none
 |_,_=>none
def zF:PV->PV->Option PV
 |.int i,.int j=>some (.int (i-j))
 |_,_=>none
def zG(i j:Int):Bool:=(decide (-(2^64)<i)&&decide (i<2^64))||(decide (-(2^64)<j)&&decide (j<2^64))
def rb:PV->PV->Option PV
 |.int i,.int j=>if zG i j then some (.int (i*j))else none
 |_,_=>none
def ij:PV->PV->Option PV
 |.int i,.int j=>if decide (0<j)&&decide (j<1073741824)then some (.int (i/j))else none
 |_,_=>none
def bY:PV->PV->Option PV
 |.int i,.int j=>if decide (0<j)then some (.int (i % j))else none
 |_,_=>none
def uE(i j:Int):Bool:=decide (0<=j)&&decide (j<=1000000)&&decide (i.natAbs<2^64)
def sW:PV->PV->Option PV
 |.int i,.int j=>if uE i j then some (.int (i*2^j.toNat))else none
 |_,_=>none
def GR:PV->PV->Option PV
 |.int i,.int j=>if decide (0<=j)then some (.int (i/2^j.toNat))else none
 |_,_=>none
def sX:PV->PV->Option PV
 |.int i,.int j=>some (.int (Builtin.bitAnd i j))
 |_,_=>none
def UZ:PV->PV->Option PV
 |.int i,.int j=>some (.int (Builtin.bitOr i j))
 |_,_=>none
def lj:PV->Option PV
 |.int i=>some (.int (-i))
 |_=>none
def eqT:PV->PV->Option Bool
 |.non,.non=>some true
 |.non,.int _=>some false
 |.non,.bl _=>some false
 |.non,.str _=>some false
 |.int _,.non=>some false
 |.bl _,.non=>some false
 |.str _,.non=>some false
 |.int a,.int b=>some (decide (a=b))
 |.bl a,.bl b=>some (decide (a=b))
 |.str a,.str b=>some (decide (a=b))
 |.int _,.str _=>some false
 |.str _,.int _=>some false
 |.bl _,.str _=>some false
 |.str _,.bl _=>some false
 |.lst l,.lst m=>kJ 20 (.lst l) (.lst m)
 |.tup l,.tup m=>kJ 20 (.tup l) (.tup m)
 |_,_=>none
def pW(a b:PV):Option PV:=(eqT a b).map PV.bl
def U0(a b:PV):Option PV:=(eqT a b).map λe=>PV.bl !e
def FR:PV->PV->Option PV
 |.int i,.int j=>some (.bl (decide (i<j)))
 |_,_=>none
def FT:PV->PV->Option PV
 |.int i,.int j=>some (.bl (decide (j<i)))
 |_,_=>none
def Pl:PV->PV->Option PV
 |.int i,.int j=>some (.bl (decide (j<=i)))
 |_,_=>none
def vN(x:PV)(l:List PV):Bool:=l.any λy=>Ju y x
def QJ:PV->PV->Option PV
 |x,.lst l=>if flat x&&l.all flat then some (.bl (vN x l))else none
 |x,.tup l=>if flat x&&l.all flat then some (.bl (vN x l))else none
 |_,_=>none
def ik:PV->PV->Option PV
 |x,.lst l=>if flat x&&l.all flat then some (.bl (!vN x l))else none
 |x,.tup l=>if flat x&&l.all flat then some (.bl (!vN x l))else none
 |_,_=>none
def QK(n:Nat)(i:Int):Option Nat:=if 0<=i then(if i<n then some i.toNat else none)else if-(n:Int)<=i then some (i+n).toNat else none
def itemAt{α:Type}(l:List α)(i:Int):Option α:=(QK l.length i).bind λj=>l[j]?
def jA:PV->PV->Option PV
 |.lst l,.int i=>itemAt l i
 |.tup l,.int i=>itemAt l i
 |.str x,.int i=>if x.length<=sizeLine then(itemAt x.cps.toList i).map λc=>.str ⟨#[c]⟩else none
 |_,_=>none
def cQ:PV->Option PV
 |.lst l=>some (.int l.length)
 |.tup l=>some (.int l.length)
 |.str x=>if x.length<=sizeLine then some (.int x.length)else none
 |_=>none
def bools:List PV->Option (List Bool)
 |[]=>some []
 |.bl b::l=>(bools l).map (b::·)
 |_::_=>none
def Kg:PV->Option PV
 |.lst l=>(bools l).map λbs=>.bl (bs.any id)
 |_=>none
def GS:PV->Option PV
 |.int i=>some (.int (Builtin.Int.intBits i:Nat))
 |_=>none
def Dr:PV->Nat
 |.int _=>0
 |.bl _=>1
 |.str _=>2
 |.lst _=>3
 |.tup _=>4
 |.non=>5
 |.ins _ _=>6
def BE(k:Nat)(p:PV):Bool:=Dr p==k||(k==0&&Dr p==1)
def Pm(k:Nat)(p:PV):Option PV:=if Dr p=6 then none else some (.bl (BE k p))
def mr(n d:Nat):Option Int->Nat
 |none=>d
 |some i=>if i<0 then(i+n).toNat else min i.toNat n
def jU{α:Type}(l:List α)(lo hi:Option Int):List α:=(l.drop (mr l.length 0 lo)).take (mr l.length l.length hi-mr l.length 0 lo)
abbrev sY:=cA->Option (Option Int)
def fw:sY:=λ_=>some none
def QL:PV->Option Int
 |.int i=>some i
 |_=>none
def cL(a:Den):sY:=λρ=>(a ρ).bind λp=>(QL p).map some
def wA(a:Den)(lo hi:sY):Den:=λρ=>(a ρ).bind λx=>(lo ρ).bind λl=>(hi ρ).bind λh=>match x with
 |.lst xs=>some (.lst (jU xs l h))
 |_=>none
def GU:PV->Option (List PV)
 |.lst l=>some l
 |_=>none
def xR:PV->Option (List PV)
 |.tup l=>some l
 |_=>none
def nList(a:Den):cI:=λρ=>(a ρ).bind GU
def sZ(a:Den):cI:=λρ=>(a ρ).bind xR
def i7(lo:Int)(n:Nat):List PV:=(List.range n).map λk=>.int (lo+(k:Nat))
def wB(j:Int):Bool:=decide (-(2^62)<=j)&&decide (j<2^62)
def je(a:Den):cI:=λρ=>(a ρ).bind λp=>(QL p).bind λj=>if wB j then some (i7 0 j.toNat)else none
def gw(c:dF)(e:Den)(ρ:cA):List PV->Option (List PV)
 |[]=>some []
 |x::xs=>(c (.sh x::ρ)).bind λb=>if b then(e (.sh x::ρ)).bind λz=>(gw c e ρ xs).map (z::·)else gw c e ρ xs
def eC:dF:=λ_=>some true
def bM(it:cI)(c:dF)(e:Den):Den:=λρ=>(it ρ).bind λxs=>if xs.length<=sizeLine then(gw c e ρ xs).map PV.lst else none
def fz:aR:=λρ=>some (.nx ρ)
def bh(a b:aR):aR:=λρ=>(a ρ).bind λf=>match f with
 |.nx ρ'=>b ρ'
 |f=>some f
def b8(i:Nat)(a:Den):aR:=λρ=>(a ρ).map λp=>.nx (ρ.set i (.sh p))
def mE(i:Nat)(a:Den):aR:=λρ=>(a ρ).bind λp=>(GU p).map λl=>.nx (ρ.set i (.ow l))
def cE(a:Den):aR:=λρ=>(a ρ).map Fl.rt
def oo(t:dF)(a b:aR):aR:=λρ=>(t ρ).bind λc=>if c then a ρ else b ρ
def Kh(i:Nat):aR:=λρ=>match ρ[i]? with
 |some (.own (.l l))=>some (.nx (ρ.set i (.sh (.lst l))))
 |_=>some (.nx ρ)
def Ki(ρ:cA)(i:Nat):Option (List PV):=match ρ[i]? with
 |some (.own (.l l))=>some l
 |_=>none
def oJ(i:Nat)(g:List PV->List PV->Option (List PV))(as:cI):aR:=λρ=>(as ρ).bind λxs=>(Ki ρ i).bind λl=>(g l xs).map λl'=>.nx (ρ.set i (.ow l'))
def gz(l xs:List PV):Option (List PV):=match xs with
 |[x]=>if l.length<sizeLine then some (l++[x])else none
 |_=>none
def BF(l xs:List PV):Option (List PV):=match xs with
 |[]=>some []
 |_=>none
abbrev vO:=PV->cA->Option cA
def bN(i:Nat):vO:=λp ρ=>some (ρ.set i (.sh p))
def forL(g:vO)(body:aR):List PV->aR
 |[]=>λρ=>some (.nx ρ)
 |x::xs=>λρ=>(g x ρ).bind λρ1=>(body ρ1).bind λf=>match f with
  |.nx ρ'=>forL g body xs ρ'
  |.ct ρ'=>forL g body xs ρ'
  |.bk ρ'=>some (.nx ρ')
  |.rt p=>some (.rt p)
def oK(it:cI)(g:vO)(body:aR):aR:=λρ=>(it ρ).bind λxs=>forL g body xs ρ
def il(t:dF)(body:aR):Nat->aR
 |0=>λ_=>none
 |n+1=>λρ=>(t ρ).bind λc=>if c then(body ρ).bind λf=>match f with
   |.nx ρ'=>il t body n ρ'
   |.ct ρ'=>il t body n ρ'
   |.bk ρ'=>some (.nx ρ')
   |.rt p=>some (.rt p)
  else some (.nx ρ)
def zH:List Int->List Int->Bool
 |[],[]=>false
 |[],_::_=>true
 |_::_,[]=>false
 |x::xs,y::ys=>if x=y then zH xs ys else decide (x<y)
def Ds(i:Nat):aR:=λρ=>(Ki ρ i).map λl=>.rt (.lst l)
def oq(a b:PV):Option PV:=match a with
 |.tup _=>none
 |_=>U0 a b
def jf:List PV->Option (List Int)
 |[]=>some []
 |.int i::l=>(jf l).map (i::·)
 |_::_=>none
def xS:PV->Option PV
 |.lst l=>some (.tup l)
 |.tup l=>some (.tup l)
 |_=>none
def EJ(rk:Int->Nat)(x:Int):List Int->List Int
 |[]=>[x]
 |y::l=>if rk x<=rk y then x::y::l else y::EJ rk x l
def gB(rk:Int->Nat):List Int->List Int
 |[]=>[]
 |x::l=>EJ rk x (gB rk l)
def jV(n:Int):Nat:=Mt.rank n.toNat
def qN(n:Int):Bool:=decide (0<=n)&&decide (n<64)
def mF(ns:List Int):Bool:=ns.all qN&&decide (ns.length<=5000)
def sg(it:cI):Den:=λρ=>(it ρ).bind λl=>(jf l).bind λns=>if mF ns then some (.lst ((gB jV ns).map PV.int))else none
def gD(F:List PV->Option PV):Prop:=∃(kI:Int->Int) (kL:Int->List Int),(∀n,qN n=true->F [.int n]=some (.tup [.int (kI n),.lst ((kL n).map PV.int)]))/\
 ∀n m,qN n=true->qN m=true->(if kI n=kI m then zH (kL n) (kL m)else decide (kI n<kI m))=decide (jV n<jV m)
def gE(n:Nat)(ps:List PV):cA:=ps.map Slot.sh++List.replicate (n-ps.length) .un
def GV(fr:Bool):Fl->Option PV
 |.rt p=>some p
 |.nx _=>if fr then none else some .non
 |_=>none
def fn(fr:Bool)(n k:Nat)(body:aR)(ps:List PV):Option PV:=if ps.length=k then(body (gE n ps)).bind (GV fr)else none
def Dt:List vO->List PV->cA->Option cA
 |[],[],ρ=>some ρ
 |t::ts,p::ps,ρ=>(t p ρ).bind (Dt ts ps)
 |_,_,_=>none
def Du(ts:List vO):vO:=λp ρ=>match p with
 |.tup l=>Dt ts l ρ
 |_=>none
def NO(g:vO)(a:Den):aR:=λρ=>(a ρ).bind λp=>(g p ρ).map Fl.nx
def di(x:Str)(lo hi:Option Int)(st:Int):Str:=if(st==1&&(Builtin.Str.strSliceIndices lo hi st x.length).length==x.length)=true then x else⟨((Builtin.Str.strSliceIndices lo hi st x.length).filterMap (x.cps[·]?)).toArray⟩
def zI(a:Den)(lo hi:sY):Den:=λρ=>(a ρ).bind λx=>(lo ρ).bind λl=>(hi ρ).bind λh=>match x with
 |.lst xs=>some (.lst (jU xs l h))
 |.str y=>if y.length<=sizeLine then some (.str (di y l h 1))else none
 |_=>none
def NP:PV->Option PV
 |.str y=>if y.length<=sizeLine then some (.str (di y none none (-1)))else none
 |_=>none
def L6:PV->PV->Option PV
 |.str x,.str y=>some (.int (Txt.find x y))
 |_,_=>none
def l8:List PV->Option (List Str)
 |[]=>some []
 |.str x::l=>(l8 l).map (x::·)
 |_::_=>none
def Dv:PV->PV->Option PV
 |.str x,.lst l=>(l8 l).bind λts=>if JoinOk x ts then some (.str (Txt.join x ts))else none
 |_,_=>none
def Kj:PV->Option PV
 |.int i=>if decide (i.natAbs<1000000)then some (.str (toString i))else none
 |_=>none
def QM:List Int->Option Int
 |[]=>none
 |x::l=>some (l.foldl (λa b=>if b>a then b else a) x)
def pX(ft:Nat->List Str)(f:Str):PV->Option PV
 |.ins c l=>((ft c).zip l).lookup f
 |_=>none
def uF(Fs:Nat->List PV->Option PV)(o:Den)(as:cI):Den:=λρ=>(o ρ).bind λp=>match p with
 |.ins c l=>(as ρ).bind λxs=>Fs c (.ins c l::xs)
 |_=>none
def L7:PV->Option PV
 |.str x=>some (.ins 0 [.str x])
 |_=>none
def GW:PV->Option PV
 |.lst l=>some (.ins 1 [.int l.length,.tup l])
 |_=>none
def GX:PV->Option PV
 |.lst l=>some (.ins 2 [.int 1,.tup l])
 |_=>none
def BG:PV->PV->Option PV
 |.int m,.lst l=>some (.ins 3 [.int m,.tup l])
 |_,_=>none
def tF(c:Nat):List Str:=if c=0 then["name"]else if c<4 then["wanted","parts"]else[]
def QN:PV->Option PV
 |.ins c _=>if decide (c<4)then some (.bl true)else none
 |_=>none
def uG:PV->Option PV
 |.lst l=>(jf l).bind λns=>(QM ns).map PV.int
 |_=>none
def fD(x:Str):List Str->Nat
 |[]=>0
 |y::l=>if y=x then 0 else 1+fD x l
def xT:PV->PV->Option PV
 |.tup l,.str x=>(l8 l).bind λts=>if decide (x∈ts)then some (.int (fD x ts:Nat))else none
 |_,_=>none
def tG(k:Nat):PV:=.ins (1000+k) []
def cU:PV->Option Nat
 |.ins c _=>if 1000<=c then some (c-1000)else none
 |_=>none
def xU(c:cA->Bool)(k:Nat):aR:=λρ=>if c ρ=true then some (.rt (tG k))else none
def vP:PV->Bool
 |.lst _=>true
 |_=>false
def uH(a:Den):aR:=λρ=>(a ρ).bind λp=>if((cU p).isSome||vP p)=true then none else some (.rt p)
def QO(a:Den):cA->Bool:=λρ=>match a ρ with
 |some (.str x)=>x.cps.all (·<128)&&decide (x.length<=5000)
 |_=>false
theorem Kk(k:Nat):cU (tG k)=some k:=by
 show(if 1000<=1000+k then some (1000+k-1000)else none)=some k
 rw[if_pos (by omega)]
 simp
theorem uI(rk:Int->Nat)(x:Int):∀l:List Int,(EJ rk x l).Perm (x::l)
 |[]=>YE _
 |y::l=>by
  unfold EJ
  split
  ·exact YE _
  ·exact((uI rk x l).cons y).trans (List.Perm.swap x y l)
theorem jr(rk:Int->Nat):∀l:List Int,(gB rk l).Perm l
 |[]=>YE _
 |x::l=>(uI rk x (gB rk l)).trans ((jr rk l).cons x)
theorem uJ(rk:Int->Nat)(x:Int):∀l:List Int,l.Pairwise (λa b=>rk a<=rk b)->(EJ rk x l).Pairwise (λa b=>rk a<=rk b)
 |[],_=>Zt _ _
 |y::l,h=>by
  unfold EJ
  obtain⟨h1,h2⟩:=Z8.mp h
  split
  ·rename_i TK
   refine Z8.mpr ⟨λz hz=>?_,h⟩
   rcases ZJ.mp hz with rfl|hz
   ·exact TK
   ·exact ZB TK (h1 z hz)
  ·rename_i TK
   refine Z8.mpr ⟨λz hz=>?_,uJ rk x l h2⟩
   rcases ZJ.mp ((uI rk x l).mem_iff.mp hz)with rfl|hz
   ·omega
   ·exact h1 z hz
theorem mG(rk:Int->Nat):∀l:List Int,(gB rk l).Pairwise (λa b=>rk a<=rk b)
 |[]=>List.Pairwise.nil
 |x::l=>uJ rk x _ (mG rk l)
theorem Km{n m:Int}(h1:qN n=true)(h2:qN m=true)(e:jV n=jV m):n=m:=by
 unfold qN at h1 h2
 simp only[re,decide_eq_true_eq]at h1 h2
 have:=Mt.zE (a:=n.toNat) (b:=m.toNat) (by omega) (by omega) e
 omega
theorem si:∀{l m:List Int},l.Perm m->l.Pairwise (λa b=>jV a<=jV b)->m.Pairwise (λa b=>jV a<=jV b)->(∀n∈m,qN n=true)->l=m
 |[],[],_,_,_,_=>rfl
 |[],_::_,p,_,_,_=>by have:=p.length_eq;simp at this
 |_::_,[],p,_,_,_=>by have:=p.length_eq;simp at this
 |x::l,y::m,p,h1,h2,ok=>by
  obtain⟨a1,a2⟩:=Z8.mp h1
  obtain⟨b1,b2⟩:=Z8.mp h2
  have hx:x∈y::m:=p.mem_iff.mp (wT ..)
  have hy:y∈x::l:=p.mem_iff.mpr (wT ..)
  have e:x=y:=by
   refine Km (ok x hx) (ok y (wT ..)) (Nat.le_antisymm ?_ ?_)
   ·rcases ZJ.mp hy with e|e
    ·rw[e];exact wr _
    ·exact a1 y e
   ·rcases ZJ.mp hx with e|e
    ·rw[e];exact wr _
    ·exact b1 x e
  subst e
  rw[si (List.Perm.cons_inv p) a2 b2 λn hn=>ok n (wf _ hn)]
end L2.D
namespace L2.D
open PySem PySem.Spec PyProof.Rows
open Classical
structure Kl where
 adr:Nat->Addr
 fld:Nat->List Str
def SL(K:PySem.W.Frag)(H:Hp)(a:Addr)(xs:List V):Prop:=
 Rd H a (.lst xs)\/∃(its:List Value) (n:Nat),K.lookup a=some {cls:=.type "list",data:=.seq its.toArray n}/\its.length<=sizeLine/\Vals xs its
theorem SL.of{K:PySem.W.Frag}{H:Hp}{a:Addr}{xs:List V}(h:H a=some (.lst xs)):SL K H a xs:=.inl (.inl h)
theorem SL.sq{K:PySem.W.Frag}{H:Hp}{a:Addr}{xs:List V}(h:SL K H a xs):mj K H a xs:=by
 rcases h with h|⟨its,n,h1,h2,h3⟩
 ·exact .inl h
 ·exact .inr ⟨_,its.toArray,n,h1,rfl,rfl,rfl,by simpa using h2,by simpa using h3⟩
theorem _root_.L2.aE.sl{K:PySem.W.Frag}{H H':Hp}{a:Addr}{xs:List V}(e:aE H H')(h:SL K H a xs):SL K H' a xs:=by
 rcases h with(h|⟨o,h⟩)|h
 ·exact .inl (.inl (e _ _ h))
 ·exact .inl (.inr ⟨o,e _ _ h⟩)
 ·exact .inr h
theorem _root_.L2.Inv.sl{X:Cx}{pins:List (Addr×Obj)}{σ:St}{H:Hp}{s:Shared}{a:Addr}{xs:List V}(I:Inv X pins σ H s)(h:SL X.K H a xs):∃(its:List Value) (n:Nat),Vals xs its/\s.heap.get? a=some {cls:=.type "list",data:=.seq its.toArray n}/\xs.length<=sizeLine:=by
 rcases h with h|⟨its,n,h1,h2,h3⟩
 ·obtain⟨z,its,n,r,e⟩:=h.ok I.dE
  exact⟨its,n,r,e,z⟩
 ·exact⟨its,n,h3,I.k8 a _ h1,by rw[h3.length];exact h2⟩
mutual
inductive Rep(K:PySem.W.Frag)(κ:Kl)(H:Hp):V->PV->Prop
 |non:Rep K κ H .non .non
 |bl (b:Bool):Rep K κ H (.bl b) (.bl b)
 |int (i:Int):Rep K κ H (.int i) (.int i)
 |str (x:Str):Rep K κ H (.str x) (.str x)
 |lst {a:Addr} {vs:List V} {l:List PV}:SL K H a vs->aV K κ H vs l->Rep K κ H (.ref a) (.lst l)
 |tup {a:Addr} {vs:List V} {l:List PV}:kC K H a vs->aV K κ H vs l->Rep K κ H (.ref a) (.tup l)
 |ins {a dx:Addr} {c:Nat} {vs:List V} {l:List PV}:H a=some (.ins (κ.adr c) dx ((κ.fld c).zip vs))->vs.length=(κ.fld c).length->aV K κ H vs l->Rep K κ H (.ref a) (.ins c l)
inductive aV(K:PySem.W.Frag)(κ:Kl)(H:Hp):List V->List PV->Prop
 |nil:aV K κ H [] []
 |cons {v:V} {p:PV} {vs:List V} {l:List PV}:Rep K κ H v p->aV K κ H vs l->aV K κ H (v::vs) (p::l)
end
section
variable{K:PySem.W.Frag}{κ:Kl}{H H' H1:Hp}
theorem l9{a:Addr}{xs:List V}(e:aE H H')(h:kC K H a xs):kC K H' a xs:=by
 rcases h with(h|⟨o,h⟩)|h
 ·exact .inl (.inl (e _ _ h))
 ·exact .inl (.inr ⟨o,e _ _ h⟩)
 ·exact .inr h
mutual
theorem Rep.mono(e:aE H H'):∀{v:V} {p:PV},Rep K κ H v p->Rep K κ H' v p
 |_,_,.non=>.non
 |_,_,.bl b=>.bl b
 |_,_,.int i=>.int i
 |_,_,.str x=>.str x
 |_,_,.lst h r=>.lst (e.sl h) (aV.mono e r)
 |_,_,.tup h r=>.tup (l9 e h) (aV.mono e r)
 |_,_,.ins h z r=>.ins (e _ _ h) z (aV.mono e r)
theorem aV.mono(e:aE H H'):∀{vs:List V} {l:List PV},aV K κ H vs l->aV K κ H' vs l
 |_,_,.nil=>.nil
 |_,_,.cons r t=>.cons (Rep.mono e r) (aV.mono e t)
end
theorem aV.length:∀{vs:List V} {l:List PV},aV K κ H vs l->vs.length=l.length
 |_,_,.nil=>rfl
 |_,_,.cons _ t=>by rw[ul,ul,t.length]
theorem aV.append:∀{vs ws:List V} {l m:List PV},aV K κ H vs l->aV K κ H ws m->aV K κ H (vs++ws) (l++m)
 |_,_,_,_,.nil,s=>s
 |_,_,_,_,.cons r t,s=>.cons r (t.append s)
theorem aV.get:∀{vs:List V} {l:List PV} {i:Nat} {p:PV},aV K κ H vs l->l[i]?=some p->∃v,vs[i]?=some v/\Rep K κ H v p
 |_,_,_,_,.nil,e=>by simp at e
 |_,_,0,_,.cons r _,e=>by simp at e;subst e;exact⟨_,rfl,r⟩
 |_,_,i+1,p,.cons _ t,e=>by
  obtain⟨v,h1,h2⟩:=aV.get (i:=i) (p:=p) t (by simpa using e)
  exact⟨v,by simpa using h1,h2⟩
theorem aV.BH:∀{vs:List V} {l:List PV} {i:Nat} {v:V},aV K κ H vs l->vs[i]?=some v->∃p,l[i]?=some p/\Rep K κ H v p
 |_,_,_,_,.nil,e=>by simp at e
 |_,_,0,_,.cons r _,e=>by simp at e;subst e;exact⟨_,rfl,r⟩
 |_,_,i+1,v,.cons _ t,e=>by
  obtain⟨p,h1,h2⟩:=aV.BH (i:=i) (v:=v) t (by simpa using e)
  exact⟨p,by simpa using h1,h2⟩
theorem aV.take:∀{vs:List V} {l:List PV} (n:Nat),aV K κ H vs l->aV K κ H (vs.take n) (l.take n)
 |_,_,0,_=>.nil
 |_,_,_+1,.nil=>.nil
 |_,_,n+1,.cons r t=>.cons r (t.take n)
theorem aV.drop:∀{vs:List V} {l:List PV} (n:Nat),aV K κ H vs l->aV K κ H (vs.drop n) (l.drop n)
 |_,_,0,r=>r
 |_,_,_+1,.nil=>.nil
 |_,_,n+1,.cons _ t=>t.drop n
theorem Rep.flat{v:V}{p:PV}(f:flat p=true)(r:Rep K κ H v p):Rep K κ H' v p:=by
 cases r with
 |non=>exact .non
 |bl b=>exact .bl b
 |int i=>exact .int i
 |str x=>exact .str x
 |lst _ _=>simp[D.flat]at f
 |tup _ _=>simp[D.flat]at f
 |ins _ _ _=>simp[D.flat]at f
end
def hide(A:Addr->Prop)(H:Hp):Hp:=λb=>if A b then none else H b
theorem c7{A:Addr->Prop}{H:Hp}{b:Addr}(h:¬A b):hide A H b=H b:=if_neg h
theorem kK{A:Addr->Prop}{H:Hp}{b:Addr}{o:HO}(h:hide A H b=some o):¬A b/\H b=some o:=by
 unfold hide at h
 by_cases e:A b
 ·rw[if_pos e]at h
  cases h
 ·rw[if_neg e]at h
  exact⟨e,h⟩
theorem aZ{A:Addr->Prop}{H H':Hp}(h:aE H H'):aE (hide A H) (hide A H'):=λb o e=>by
 obtain⟨h1,h2⟩:=kK e
 rw[c7 h1]
 exact h b o h2
theorem cV{A B:Addr->Prop}{H H':Hp}(h:aE H H')(s:∀b,B b->H b≠none->A b):aE (hide A H) (hide B H'):=λb o e=>by
 obtain⟨h1,h2⟩:=kK e
 rw[c7 λz=>h1 (s b z (by rw[h2];simp))]
 exact h b o h2
theorem ay{A:Addr->Prop}{H:Hp}:aE (hide A H) H:=λb o e=>(kK e).2
theorem zJ{A:Addr->Prop}{H:Hp}{a:Addr}{o:HO}(h:A a):hide A (upd H a o)=hide A H:=by
 funext b
 unfold hide
 by_cases e:A b
 ·rw[if_pos e,if_pos e]
 ·rw[if_neg e,if_neg e]
  exact aJ λz=>e (z▸h)
theorem bD{H:Hp}{a:Addr}{o:HO}(h:H a=none):aE H (upd H a o):=λb u q=>by rw[aJ (cj q h)];exact q
def GY:Cn->List V->HO
 |.l _,vs=>.lst vs
 |.d d,vs=>.dK (List.zipWith (λ(p:Int×PV) (v:V)=>((Sum.inl p.1:Key),v)) d vs)
def NQ:Cn->List PV
 |.l l=>l
 |.d d=>d.map (·.2)
def EK(own:Nat->Addr)(ρ:cA):Addr->Prop:=λb=>∃i l,ρ[i]?=some (.own l)/\own i=b
def dG(A:Addr->Prop)(own:Nat->Addr)(ρ:cA):Addr->Prop:=λb=>A b\/EK own ρ b
abbrev d7(A:Addr->Prop)(own:Nat->Addr)(ρ:cA)(H:Hp):Hp:=hide (dG A own ρ) H
structure R(K:PySem.W.Frag)(κ:Kl)(G:Hp)(A:Addr->Prop)(bo:Nat->Option (Addr×List V))(own:Nat->Addr)(ρ:cA)(σ:St)(H:Hp):Prop where
 al:∀b,A b->G b≠none
 bg:∀i a vs,bo i=some (a,vs)->G a=some (.lst vs)
 same:aE G H
 sh:∀(i:Nat) p,ρ[i]?=some (.sh p)->∃v,σ[i]?=some (some v)/\Rep K κ (d7 A own ρ H) v p
 ow:∀(i:Nat) l,ρ[i]?=some (.own l)->σ[i]?=some (some (.ref (own i)))/\G (own i)=none/\∃vs,H (own i)=some (GY l vs)/\aV K κ (d7 A own ρ H) vs (NQ l)
 inj:∀(i j:Nat) l m,ρ[i]?=some (.own l)->ρ[j]?=some (.own m)->own i=own j->i=j
 bw:∀(i:Nat) l,ρ[i]?=some (.bw l)->∃a vs,bo i=some (a,vs)/\σ[i]?=some (some (.ref a))/\aV K κ (d7 A own ρ H) vs l
 len:σ.length=ρ.length
section
variable{K:PySem.W.Frag}{κ:Kl}{G G' H H' H1:Hp}{A:Addr->Prop}{bo:Nat->Option (Addr×List V)}{own cx:Nat->Addr}{ρ ρ':cA}{σ σ':St}
theorem R.mono(r:R K κ G A bo own ρ σ H)(s:aE H H1):R K κ G A bo own ρ σ H1 where
 al:=r.al
 bg:=r.bg
 same:=r.same.trans s
 sh:=λi p e=>let⟨v,h1,h2⟩:=r.sh i p e;⟨v,h1,h2.mono (aZ s)⟩
 ow:=λi l e=>let⟨h1,h2,vs,h3,h4⟩:=r.ow i l e;⟨h1,h2,vs,s _ _ h3,h4.mono (aZ s)⟩
 inj:=r.inj
 bw:=λi l e=>let⟨a,vs,h1,h2,h3⟩:=r.bw i l e;⟨a,vs,h1,h2,h3.mono (aZ s)⟩
 len:=r.len
theorem R.new(r:R K κ G A bo own ρ σ H){a:Addr}(h:H a=none):¬dG A own ρ a:=by
 rintro(z|⟨i,l,h1,rfl⟩)
 ·cases e:G a with
  |none=>exact r.al a z e
  |some o=>
   rw[r.same _ _ e]at h
   cases h
 ·obtain⟨_,_,vs,h3,_⟩:=r.ow i l h1
  rw[h3]at h
  cases h
theorem R.xV(r:R K κ G A bo own ρ σ H){b:Addr}(h:dG A own ρ b):H b≠none:=λz=>r.new z h
def Jv(own:Nat->Addr)(ρ:cA)(H:Hp):Hp:=hide (EK own ρ) H
theorem uK:hide A (Jv own ρ H)=d7 A own ρ H:=by
 funext b
 unfold Jv d7 hide dG
 by_cases h1:A b<;>by_cases h2:EK own ρ b<;>simp[h1,h2]
theorem R.gv(r:R K κ G A bo own ρ σ H):aE G (Jv own ρ H):=λb o e=>by
 unfold Jv
 rw[c7]
 ·exact r.same _ _ e
 ·rintro⟨i,l,h1,rfl⟩
  rw[(r.ow i l h1).2.1]at e
  cases e
theorem R.big(r:R K κ G A bo own ρ σ H):R K κ (Jv own ρ H) A bo own ρ σ H where
 al:=λb h z=>by
  cases e:G b with
  |none=>exact r.al b h e
  |some o=>
   rw[r.gv _ _ e]at z
   cases z
 bg:=λi a vs h=>r.gv _ _ (r.bg i a vs h)
 same:=ay
 sh:=r.sh
 ow:=λi l e=>let⟨h1,h2,h3⟩:=r.ow i l e;⟨h1,by unfold Jv hide;rw[if_pos ⟨i,l,e,rfl⟩],h3⟩
 inj:=r.inj
 bw:=r.bw
 len:=r.len
theorem R.small(r:R K κ G' A bo own ρ σ H)(s:aE G G')(al:∀b,A b->G b≠none)(bg:∀i a vs,bo i=some (a,vs)->G a=some (.lst vs)):R K κ G A bo own ρ σ H where
 al:=al
 bg:=bg
 same:=s.trans r.same
 sh:=r.sh
 ow:=λi l e=>let⟨h1,h2,h3⟩:=r.ow i l e;⟨h1,s.free h2,h3⟩
 inj:=r.inj
 bw:=r.bw
 len:=r.len
theorem R.Dw(r:R K κ G A bo own ρ σ H):aE (hide A G) (d7 A own ρ H):=λb o e=>by
 obtain⟨h1,h2⟩:=kK e
 rw[d7,c7]
 ·exact r.same _ _ h2
 ·rintro(z|⟨i,l,h3,rfl⟩)
  ·exact h1 z
  ·rw[(r.ow i l h3).2.1]at h2
   cases h2
theorem GZ{i:Nat}{p:PV}{b:Addr}(h:EK own (ρ.set i (.sh p)) b):EK own ρ b:=by
 obtain⟨j,l,h1,h2⟩:=h
 rw[v6]at h1
 split at h1
 ·split at h1<;>cases h1
 ·exact⟨j,l,h1,h2⟩
theorem nU{i:Nat}{p:PV}:aE (d7 A own ρ H) (d7 A own (ρ.set i (.sh p)) H):=cV (λ_ _ h=>h) λb h _=>by
 rcases h with h|h
 ·exact .inl h
 ·exact .inr (GZ h)
theorem R.set(r:R K κ G A bo own ρ σ H){i:Nat}{v:V}{p:PV}(h:Rep K κ (d7 A own ρ H) v p):R K κ G A bo own (ρ.set i (.sh p)) (σ.set i (some v)) H:=by
 have ne:∀{j:Nat} {x:Slot},(ρ.set i (.sh p))[j]?=some x->x≠.sh p->i≠j/\ρ[j]?=some x:=λ{j x} e nx=>by
  rw[v6]at e
  split at e
  ·split at e
   ·exact absurd (ZO e).symm nx
   ·cases e
  ·exact⟨by assumption,e⟩
 refine⟨r.al,r.bg,r.same,λj q e=>?_,λj l e=>?_,λj k l m e f=>?_,λj l e=>?_,by rw[Z9,Z9];exact r.len⟩
 ·by_cases hj:i=j
  ·subst hj
   rw[v6]at e
   rw[if_pos rfl]at e
   split at e
   ·injection e with e
    injection e with e
    subst e
    exact⟨v,by rw[v6,if_pos rfl,if_pos (by rw[r.len];assumption)],h.mono nU⟩
   ·cases e
  ·rw[v6,if_neg hj]at e
   obtain⟨u,h1,h2⟩:=r.sh j q e
   exact⟨u,by rw[v6,if_neg hj];exact h1,h2.mono nU⟩
 ·obtain⟨hj,e⟩:=ne e (by simp)
  obtain⟨h1,h2,vs,h3,h4⟩:=r.ow j l e
  exact⟨by rw[v6,if_neg hj];exact h1,h2,vs,h3,h4.mono nU⟩
 ·exact r.inj j k l m (ne e (by simp)).2 (ne f (by simp)).2
 ·obtain⟨hj,e⟩:=ne e (by simp)
  obtain⟨a,vs,h1,h2,h3⟩:=r.bw j l e
  exact⟨a,vs,h1,by rw[v6,if_neg hj];exact h2,h3.mono nU⟩
theorem R.NR(r:R K κ G A bo own ρ σ H){i:Nat}{a:Addr}{vs:List V}{l:Cn}(hG:G a=none)(hA:¬A a)(hj:∀(j:Nat) m,ρ[j]?=some (.own m)->j≠i->own j≠a)(s:aE (d7 A own ρ H) (hide (λb=>dG A own ρ b\/b=a) H1))(hk:∀b o,H b=some o->b≠a->H1 b=some o)
  (h1:H1 a=some (GY l vs))(h2:aV K κ (hide (λb=>dG A own ρ b\/b=a) H1) vs (NQ l)):R K κ G A bo (λj=>if j=i then a else own j) (ρ.set i (.own l)) (σ.set i (some (.ref a))) H1:=by
 by_cases hi:i<ρ.length
 rotate_left
 ·rw[Y8 (by omega),Y8 (by rw[r.len];omega)]
  have oe:∀(j:Nat) x,ρ[j]?=some x->(if j=i then a else own j)=own j:=λj x e=>if_neg λz=>by
   have:=(wS.mp e).1
   omega
  have se:dG A (λj=>if j=i then a else own j) ρ=dG A own ρ:=by
   funext b
   unfold dG EK
   refine propext (or_congr Iff.rfl ⟨?_,?_⟩)
   ·rintro⟨j,m,e,z⟩
    exact⟨j,m,e,by rw[<-oe j _ e];exact z⟩
   ·rintro⟨j,m,e,z⟩
    exact⟨j,m,e,by show(if j=i then a else own j)=b;rw[oe j _ e];exact z⟩
  have sm:aE (d7 A own ρ H) (d7 A own ρ H1):=s.trans (cV (λ_ _ h=>h) λb h _=>.inl h)
  refine⟨r.al,r.bg,λb o e=>hk b o (r.same _ _ e) (λz=>by rw[z,hG]at e;cases e),λj q e=>?_,λj m e=>?_,λj k m n e f z=>?_,λj m e=>?_,r.len⟩
  ·obtain⟨u,z1,z2⟩:=r.sh j q e
   exact⟨u,z1,by rw[d7,se];exact z2.mono sm⟩
  ·rw[oe j _ e]
   obtain⟨z1,z2,ws,z3,z4⟩:=r.ow j m e
   have GN:j≠i:=λz=>by
    have:=(wS.mp e).1
    omega
   exact⟨z1,z2,ws,hk _ _ z3 (hj j m e GN),by rw[d7,se];exact z4.mono sm⟩
  ·skip
   rw[oe j _ e,oe k _ f]at z
   exact r.inj j k m n e f z
  ·obtain⟨b,ws,z1,z2,z3⟩:=r.bw j m e
   exact⟨b,ws,z1,z2,by rw[d7,se];exact z3.mono sm⟩
 have QP:∀b,dG A (λj=>if j=i then a else own j) (ρ.set i (.own l)) b->dG A own ρ b\/b=a:=λb h=>by
  rcases h with h|⟨j,m,e,z⟩
  ·exact .inl (.inl h)
  ·by_cases TL:j=i
   ·subst TL
    try dsimp only at z
    rw[if_pos rfl]at z
    exact .inr z.symm
   ·dsimp only at z
    rw[if_neg TL]at z
    rw[v6,if_neg (Ne.symm TL)]at e
    exact .inl (.inr ⟨j,m,e,z⟩)
 have sm:aE (hide (λb=>dG A own ρ b\/b=a) H1) (d7 A (λj=>if j=i then a else own j) (ρ.set i (.own l)) H1):=cV (λ_ _ h=>h) λb h _=>QP b h
 have qM:aE (d7 A own ρ H) (d7 A (λj=>if j=i then a else own j) (ρ.set i (.own l)) H1):=s.trans sm
 refine⟨r.al,r.bg,λb o e=>hk b o (r.same _ _ e) (λz=>by rw[z,hG]at e;cases e),λj q e=>?_,λj m e=>?_,λj k m n e f z=>?_,λj m e=>?_,by rw[Z9,Z9];exact r.len⟩
 ·by_cases vQ:i=j
  ·subst vQ
   rw[v6,if_pos rfl,if_pos hi]at e
   cases e
  ·rw[v6,if_neg vQ]at e
   obtain⟨u,z1,z2⟩:=r.sh j q e
   exact⟨u,by rw[v6,if_neg vQ];exact z1,z2.mono qM⟩
 ·by_cases vQ:i=j
  ·subst vQ
   rw[v6,if_pos rfl,if_pos hi]at e
   injection e with e
   injection e with e
   subst e
   try dsimp only
   rw[if_pos rfl]
   exact⟨by rw[v6,if_pos rfl,if_pos (by rw[r.len];exact hi)],hG,vs,h1,h2.mono sm⟩
  ·rw[v6,if_neg vQ]at e
   obtain⟨z1,z2,ws,z3,z4⟩:=r.ow j m e
   try dsimp only
   rw[if_neg (Ne.symm vQ)]
   exact⟨by rw[v6,if_neg vQ];exact z1,z2,ws,hk _ _ z3 (hj j m e (Ne.symm vQ)),z4.mono qM⟩
 ·skip
  by_cases vQ:i=j<;>by_cases NS:i=k
  ·rw[<-vQ,<-NS]
  ·subst vQ
   rw[v6,if_neg NS]at f
   rw[if_pos rfl,if_neg (Ne.symm NS)]at z
   exact absurd z.symm (hj k n f (Ne.symm NS))
  ·subst NS
   rw[v6,if_neg vQ]at e
   rw[if_pos rfl,if_neg (Ne.symm vQ)]at z
   exact absurd z (hj j m e (Ne.symm vQ))
  ·rw[v6,if_neg vQ]at e
   rw[v6,if_neg NS]at f
   rw[if_neg (Ne.symm vQ),if_neg (Ne.symm NS)]at z
   exact r.inj j k m n e f z
 ·by_cases vQ:i=j
  ·subst vQ
   rw[v6,if_pos rfl,if_pos hi]at e
   cases e
  ·rw[v6,if_neg vQ]at e
   obtain⟨b,ws,z1,z2,z3⟩:=r.bw j m e
   exact⟨b,ws,z1,by rw[v6,if_neg vQ];exact z2,z3.mono qM⟩
end
end L2.D
namespace L2.D
open PySem PySem.Spec PyProof.Rows
open Classical
def BR(K:PySem.W.Frag)(κ:Kl)(hH H:Hp)(v:V)(p:PV):Prop:=Rep K κ hH v p\/∃a vs l,v=.ref a/\p=.lst l/\SL K H a vs/\aV K κ hH vs l
def OR(K:PySem.W.Frag)(κ:Kl)(A:Addr->Prop)(H H':Hp)(v:V)(p:PV):Prop:=∃a vs l,v=.ref a/\p=.lst l/\H a=none/\H' a=some (.lst vs)/\aV K κ (hide (λb=>A b\/b=a) H') vs l
def QR(K:PySem.W.Frag)(κ:Kl)(te:TE)(f:Den):Prop:=
 ∀{G A bo own ρ σ H p Q},R K κ G A bo own ρ σ H->f ρ=some p->(∀v H',aE H H'->Rep K κ (d7 A own ρ H') v p->Q v H')->te σ H Q
def QS(K:PySem.W.Frag)(κ:Kl)(te:TE)(f:Den):Prop:=
 ∀{G A bo own ρ σ H p Q},R K κ G A bo own ρ σ H->f ρ=some p->(∀v H',aE H H'->BR K κ (d7 A own ρ H') H' v p->Q v H')->te σ H Q
def U1(K:PySem.W.Frag)(κ:Kl)(te:TE)(f:Den):Prop:=
 ∀{G A bo own ρ σ H p Q},R K κ G A bo own ρ σ H->f ρ=some p->(∀v H',aE H H'->OR K κ (dG A own ρ) H H' v p->Q v H')->te σ H Q
def TM(K:PySem.W.Frag)(κ:Kl)(tt:TT)(f:dF):Prop:=
 ∀{G A bo own ρ σ H b Q},R K κ G A bo own ρ σ H->f ρ=some b->(∀H',aE H H'->Q b H')->tt σ H Q
def DE(X:Cx)(κ:Kl)(e:Expr)(f:Den):Prop:=∃te,PE X e te/\QR X.K κ te f
def DB(X:Cx)(κ:Kl)(e:Expr)(f:Den):Prop:=∃te,PE X e te/\QS X.K κ te f
def DO(X:Cx)(κ:Kl)(e:Expr)(f:Den):Prop:=∃te,PE X e te/\U1 X.K κ te f
def DT(X:Cx)(κ:Kl)(e:Expr)(f:dF):Prop:=∃tt,PT X e tt/\TM X.K κ tt f
def DW(X:Cx)(κ:Kl)(e:Expr)(f:dF):Prop:=∃tt,PW X e tt/\TM X.K κ tt f
section
variable{K:PySem.W.Frag}{κ:Kl}{G hH U2 H H' H1:Hp}{A:Addr->Prop}{bo:Nat->Option (Addr×List V)}{own:Nat->Addr}{ρ:cA}{σ:St}{v:V}{p:PV}
theorem BR.mono(h:BR K κ hH H v p)(s1:aE hH U2)(s2:aE H H'):BR K κ U2 H' v p:=by
 rcases h with h|⟨a,vs,l,h1,h2,h3,h4⟩
 ·exact .inl (h.mono s1)
 ·exact .inr ⟨a,vs,l,h1,h2,s2.sl h3,h4.mono s1⟩
theorem BR.Dx(h:BR K κ (hide A H) H v p)(s2:aE H H'):BR K κ (hide A H') H' v p:=h.mono (aZ s2) s2
theorem BR.full(h:BR K κ hH H v p)(s:aE hH H):Rep K κ H v p:=by
 rcases h with h|⟨a,vs,l,rfl,rfl,h3,h4⟩
 ·exact h.mono s
 ·exact .lst h3 (h4.mono s)
theorem BR.lst{l:List PV}(h:BR K κ hH H v (.lst l))(s:aE hH H):∃a vs,v=.ref a/\SL K H a vs/\aV K κ hH vs l:=by
 rcases h with h|⟨a,vs,l',h1,h2,h3,h4⟩
 ·cases h with
  |lst h1 h2=>exact⟨_,_,rfl,s.sl h1,h2⟩
 ·cases h2
  exact⟨a,vs,h1,h3,h4⟩
theorem BR.tup{l:List PV}(h:BR K κ hH H v (.tup l))(s:aE hH H):∃a vs,v=.ref a/\kC K H a vs/\aV K κ hH vs l:=by
 rcases h with h|⟨a,vs,l',h1,h2,h3,h4⟩
 ·cases h with
  |tup h1 h2=>exact⟨_,_,rfl,l9 s h1,h2⟩
 ·cases h2
theorem BR.int{i:Int}(h:BR K κ hH H v (.int i)):v=.int i:=by
 rcases h with h|⟨a,vs,l',h1,h2,h3,h4⟩
 ·cases h;rfl
 ·cases h2
theorem BR.str{i:Str}(h:BR K κ hH H v (.str i)):v=.str i:=by
 rcases h with h|⟨a,vs,l',h1,h2,h3,h4⟩
 ·cases h;rfl
 ·cases h2
theorem Rep.Pk{i:Bool}(h:Rep K κ hH v (.bl i)):v=.bl i:=by cases h;rfl
theorem Rep.QL{i:Int}(h:Rep K κ hH v (.int i)):v=.int i:=by cases h;rfl
theorem R.xW(r:R K κ G A bo own ρ σ H){a:Addr}{vs:List V}{l:List PV}(h:H a=none)(q:aV K κ (d7 A own ρ H) vs l):OR K κ (dG A own ρ) H (upd H a (.lst vs)) (.ref a) (.lst l):=
 ⟨a,vs,l,rfl,rfl,h,aW,by
   rw[zJ (.inr rfl)]
   exact q.mono (cV (λ_ _ z=>z) λb z nz=>by
    rcases z with z|z
    ·exact z
    ·rw[z]at nz
     exact absurd h nz)⟩
theorem OR.rep(r:R K κ G A bo own ρ σ H)(h:OR K κ (dG A own ρ) H H' v p):Rep K κ (d7 A own ρ H') v p:=by
 obtain⟨a,vs,l,rfl,rfl,h1,h2,h3⟩:=h
 refine .lst (SL.of ?_) (h3.mono (cV (λ_ _ z=>z) λb z _=>.inl z))
 rw[d7,c7 (r.new h1)]
 exact h2
theorem R.QT(r:R K κ G A bo own ρ σ H){a:Addr}{vs:List V}{l:List PV}(h:H a=none)(q:aV K κ (d7 A own ρ H) vs l):Rep K κ (d7 A own ρ (upd H a (.tup vs))) (.ref a) (.tup l):=by
 refine .tup (kC.of ?_) (q.mono (aZ (bD h)))
 rw[d7,c7 (r.new h)]
 exact aW
theorem uL{ta tb:TE}{fa fb:Den}{α:Type}{g:PV->PV->Option α}{z:α}{Rr:V->V->Hp->Prop}(ha:QS K κ ta fa)(hb:QS K κ tb fb)(r:R K κ G A bo own ρ σ H)
  (e:((fa ρ).bind λx=>(fb ρ).bind λy=>g x y)=some z)(q:∀x y p q H',aE H H'->R K κ G A bo own ρ σ H'->BR K κ (d7 A own ρ H') H' x p->BR K κ (d7 A own ρ H') H' y q->g p q=some z->Rr x y H'):ta σ H λx H1=>tb σ H1 λy H2=>Rr x y H2:=by
 obtain⟨p1,e1,e⟩:=zn.mp e
 obtain⟨p2,e2,e⟩:=zn.mp e
 refine ha r e1 λx H1 s1 b1=>?_
 refine hb (r.mono s1) e2 λy H2 s2 b2=>?_
 exact q x y p1 p2 H2 (s1.trans s2) (r.mono (s1.trans s2)) (b1.Dx s2) b2 e
end
theorem DE.b{X:Cx}{κ:Kl}{ex:Expr}{f:Den}(h:DE X κ ex f):DB X κ ex f:=let⟨te,h1,h2⟩:=h;⟨te,h1,λr e q=>h2 r e λv H' s z=>q v H' s (.inl z)⟩
theorem DO.e{X:Cx}{κ:Kl}{ex:Expr}{f:Den}(h:DO X κ ex f):DE X κ ex f:=let⟨te,h1,h2⟩:=h;⟨te,h1,λr e q=>h2 r e λv H' s z=>q v H' s (z.rep r)⟩
theorem DO.b{X:Cx}{κ:Kl}{ex:Expr}{f:Den}(h:DO X κ ex f):DB X κ ex f:=h.e.b
section
variable{X:Cx}{κ:Kl}{e a b c:Expr}{f fa fb fc:Den}{pos:Pos}
theorem aj{i:Int}{j pos}:DE X κ (.Constant (.int i) j pos) (dC (.int i)):=⟨_,F1,λ{_ _ _ _ _ _ H _ _} r e q=>by cases e;exact q _ H (aE.refl _) (.int i)⟩
theorem wC{i:Bool}{j pos}:DE X κ (.Constant (.bool i) j pos) (dC (.bl i)):=⟨_,PQ,λ{_ _ _ _ _ _ H _ _} r e q=>by cases e;exact q _ H (aE.refl _) (.bl i)⟩
theorem bL{i:Str}{j pos}:DE X κ (.Constant (.str i) j pos) (dC (.str i)):=⟨_,A8,λ{_ _ _ _ _ _ H _ _} r e q=>by cases e;exact q _ H (aE.refl _) (.str i)⟩
theorem af(i:Nat){x:Str}{pos:Pos}(hN:X.N[i]?=some x:=by rfl)(hv:FZ X.env.scope x:=by first|exact Or.inl rfl|exact Or.inr (Or.inl rfl)|exact Or.inr (Or.inr rfl))(hd:(x==("__debug__" :Str))=false:=by decide)
  (pK:(x==("__classdict__" :Str))=false:=by decide):DB X κ (.Name x pos) (dV i):=⟨_,kf hN hv hd pK,λ{G A bo own ρ σ H p Q} r e q=>by
 unfold dV at e
 obtain⟨s,e1,e2⟩:=zn.mp e
 cases s with
 |un=>cases e2
 |sh p'=>
  cases e2
  obtain⟨v,h1,h2⟩:=r.sh i _ e1
  exact⟨v,h1,q v H (aE.refl _) (.inl h2)⟩
 |own c=>
  cases c with
  |d _=>cases e2
  |l l=>
  cases e2
  obtain⟨h1,_,vs,h3,h4⟩:=r.ow i _ e1
  exact⟨_,h1,q _ H (aE.refl _) (.inr ⟨_,vs,l,rfl,rfl,SL.of h3,h4⟩)⟩
 |bw l=>
  cases e2
  obtain⟨a,vs,h0,h1,h4⟩:=r.bw i _ e1
  exact⟨_,h1,q _ H (aE.refl _) (.inr ⟨_,vs,l,rfl,rfl,SL.of (r.same _ _ (r.bg _ _ _ h0)),h4⟩)⟩⟩
theorem au(i:Nat){x:Str}{pos:Pos}(hN:X.N[i]?=some x:=by rfl)(hv:FZ X.env.scope x:=by first|exact Or.inl rfl|exact Or.inr (Or.inl rfl)|exact Or.inr (Or.inr rfl))(hd:(x==("__debug__" :Str))=false:=by decide)
  (pK:(x==("__classdict__" :Str))=false:=by decide):DE X κ (.Name x pos) (a6 i):=⟨_,kf hN hv hd pK,λ{G A bo own ρ σ H p Q} r e q=>by
 unfold a6 at e
 obtain⟨s,e1,e2⟩:=zn.mp e
 cases s with
 |un=>cases e2
 |sh p'=>
  cases e2
  obtain⟨v,h1,h2⟩:=r.sh i _ e1
  exact⟨v,h1,q v H (aE.refl _) h2⟩
 |own l=>cases e2
 |bw l=>cases e2⟩
theorem zK{op:Operator}{C:Int->Int->Prop}{F:Int->Int->Int}{g:PV->PV->Option PV}(ho:mn X (binaryOp op) (rI C λi j=>.int (F i j)))(hg:∀p q z,g p q=some z->∃i j,p=.int i/\q=.int j/\C i j/\z=.int (F i j))
  (ha:DB X κ a fa)(hb:DB X κ b fb):DE X κ (.BinOp a op b pos) (ag g fa fb):=by
 obtain⟨ta,h1,h2⟩:=ha
 obtain⟨tb,h3,h4⟩:=hb
 refine⟨_,C3 ho h1 h3,λ{G A bo own ρ σ H p Q} r e q=>?_⟩
 refine uL h2 h4 r e λx y p1 p2 H' s r' b1 b2 e'=>?_
 obtain⟨i,j,rfl,rfl,hC,rfl⟩:=hg _ _ _ e'
 exact⟨i,j,b1.int,b2.int,hC,q _ H' s (.int _)⟩
theorem BI{op:Operator}{F:Int->Int->Int}{g:PV->PV->Option PV}(ho:mn X (binaryOp op) (Ge λi j=>.int (F i j)))(hg:∀p q z,g p q=some z->∃i j,p=.int i/\q=.int j/\z=.int (F i j))
  (ha:DB X κ a fa)(hb:DB X κ b fb):DE X κ (.BinOp a op b pos) (ag g fa fb):=by
 obtain⟨ta,h1,h2⟩:=ha
 obtain⟨tb,h3,h4⟩:=hb
 refine⟨_,C3 ho h1 h3,λ{G A bo own ρ σ H p Q} r e q=>?_⟩
 refine uL h2 h4 r e λx y p1 p2 H' s r' b1 b2 e'=>?_
 obtain⟨i,j,rfl,rfl,rfl⟩:=hg _ _ _ e'
 exact⟨i,j,b1.int,b2.int,q _ H' s (.int _)⟩
theorem BJ(ha:DB X κ a fa)(hb:DB X κ b fb):DE X κ (.BinOp a .Sub b pos) (ag zF fa fb):=BI M1 (λp q z h=>by
 (cases p<;>first|(cases h;done)|skip)<;>cases q<;>first|(cases h;exact⟨_,_,rfl,rfl,rfl⟩)|cases h) ha hb
theorem xX(ha:DB X κ a fa)(hb:DB X κ b fb):DE X κ (.BinOp a .BitAnd b pos) (ag sX fa fb):=BI M7 (λp q z h=>by
 (cases p<;>first|(cases h;done)|skip)<;>cases q<;>first|(cases h;exact⟨_,_,rfl,rfl,rfl⟩)|cases h) ha hb
theorem QU(ha:DB X κ a fa)(hb:DB X κ b fb):DE X κ (.BinOp a .BitOr b pos) (ag UZ fa fb):=BI P6 (λp q z h=>by
 (cases p<;>first|(cases h;done)|skip)<;>cases q<;>first|(cases h;exact⟨_,_,rfl,rfl,rfl⟩)|cases h) ha hb
theorem bj{α:Type}{c:Prop}[Decidable c]{x z:α}(h:(if c then some x else none)=some z):c/\x=z:=by
 split at h
 ·exact⟨by assumption,ZO h⟩
 ·cases h
theorem jB(ha:DB X κ a fa)(hb:DB X κ b fb):DE X κ (.BinOp a .FloorDiv b pos) (ag ij fa fb):=zK JM (λp q z h=>by
 (cases p<;>first|(cases h;done)|skip)<;>cases q<;>first|(cases h;done)|skip
 obtain⟨h1,h2⟩:=bj h
 simp only[re,decide_eq_true_eq]at h1
 exact⟨_,_,rfl,rfl,h1,h2.symm⟩) ha hb
theorem ck(ha:DB X κ a fa)(hb:DB X κ b fb):DE X κ (.BinOp a .Mod b pos) (ag bY fa fb):=zK M4 (λp q z h=>by
 (cases p<;>first|(cases h;done)|skip)<;>cases q<;>first|(cases h;done)|skip
 obtain⟨h1,h2⟩:=bj h
 simp only[re,decide_eq_true_eq]at h1
 exact⟨_,_,rfl,rfl,h1,h2.symm⟩) ha hb
theorem uM(ha:DB X κ a fa)(hb:DB X κ b fb):DE X κ (.BinOp a .LShift b pos) (ag sW fa fb):=zK M5 (λp q z h=>by
 (cases p<;>first|(cases h;done)|skip)<;>cases q<;>first|(cases h;done)|skip
 obtain⟨h1,h2⟩:=bj h
 simp only[uE,re,decide_eq_true_eq]at h1
 exact⟨_,_,rfl,rfl,⟨h1.1.1,h1.1.2,h1.2⟩,h2.symm⟩) ha hb
theorem G1(ha:DB X κ a fa)(hb:DB X κ b fb):DE X κ (.BinOp a .RShift b pos) (ag GR fa fb):=zK M6 (λp q z h=>by
 (cases p<;>first|(cases h;done)|skip)<;>cases q<;>first|(cases h;done)|skip
 obtain⟨h1,h2⟩:=bj h
 simp only[re,decide_eq_true_eq]at h1
 exact⟨_,_,rfl,rfl,h1,h2.symm⟩) ha hb
theorem rf(ha:DB X κ a fa)(hb:DB X κ b fb):DE X κ (.BinOp a .Mult b pos) (ag rb fa fb):=zK M3 (λp q z h=>by
 (cases p<;>first|(cases h;done)|skip)<;>cases q<;>first|(cases h;done)|skip
 obtain⟨h1,h2⟩:=bj h
 simp only[zG,Yn,re,decide_eq_true_eq]at h1
 exact⟨_,_,rfl,rfl,h1,h2.symm⟩) ha hb
theorem oM(ha:DB X κ a fa):DE X κ (.UnaryOp .USub a pos) (bW lj fa):=by
 obtain⟨ta,h1,h2⟩:=ha
 refine⟨_,P4 M8 h1,λ{G A bo own ρ σ H p Q} r e q=>?_⟩
 obtain⟨p1,e1,e⟩:=zn.mp e
 refine h2 r e1 λx H1 s1 b1=>?_
 cases p1<;>first|(cases e;done)|skip
 cases e
 exact⟨_,b1.int,q _ H1 s1 (.int _)⟩
theorem NT{K:PySem.W.Frag}:mn X (binaryOp .Add) (λx y H Q=>∃l b xs zs,x=.ref l/\y=.ref b/\SL X.K H l xs/\SL X.K H b zs/\xs.length+zs.length<=sizeLine/\∀p,H p=none->Q (.ref p) (upd H p (.lst (xs++zs)))):=by
 intro pins s σ H x y v u Q I rx ry h
 obtain⟨l,b,xs,zs,rfl,rfl,hH,hB,hz,q⟩:=h
 cases rx
 cases ry
 obtain⟨its,n,r,ho,z⟩:=I.sl hH
 obtain⟨mq,n2,r2,C7,z2⟩:=I.sl hB
 have l1:=r.length
 have l2:=r2.length
 refine PySem.P.add_list ho C7 ?_ (by rw[wP,wP];omega)
 have ea:its.toArray++mq.toArray=(its++mq).toArray:=by simp
 rw[ea]
 exact⟨.ref _,_,I.Tb (t':=s.toks) (r.append r2) (by rw[ZD];omega),rfl,q _ I.fresh⟩
theorem bJ(ha:DB X κ a fa)(hb:DB X κ b fb):DE X κ (.BinOp a .Add b pos) (ag bU fa fb):=by
 obtain⟨ta,h1,h2⟩:=ha
 obtain⟨tb,h3,h4⟩:=hb
 refine⟨_,C3 (M0.or (Be.or (NT (K:=X.K)))) h1 h3,λ{G A bo own ρ σ H p Q} r e q=>?_⟩
 refine uL h2 h4 r e λx y p1 p2 H' s r' b1 b2 e'=>?_
 (cases p1<;>first|(cases e';done)|skip)<;>cases p2<;>first|(cases e';done)|skip
 ·cases e'
  exact .inl ⟨_,_,b1.int,b2.int,q _ H' s (.int _)⟩
 ·obtain⟨h1,rfl⟩:=bj e'
  exact .inr (.inl ⟨_,_,b1.str,b2.str,h1,q _ H' s (.str _)⟩)
 ·obtain⟨h1,rfl⟩:=bj e'
  obtain⟨a1,V2,rfl,q1,w1⟩:=b1.lst ay
  obtain⟨a2,V3,rfl,q2,w2⟩:=b2.lst ay
  refine .inr (.inr ⟨a1,a2,V2,V3,rfl,rfl,q1,q2,by rw[w1.length,w2.length];exact h1,λp hp=>?_⟩)
  exact q _ _ (s.trans (bD hp)) ((r'.xW hp (w1.append w2)).rep r')
def DC(X:Cx)(κ:Kl)(op:CmpOp)(a b:Expr)(f:Den):Prop:=∃r ta tb,mn X (compareOp op) r/\PE X a ta/\PE X b tb/\QR X.K κ (P2 r ta tb) f
theorem ll{op:CmpOp}(h:DC X κ op a b f)(hm:behindInMarks op b=false:=by first|exact Gg _|with_unfolding_all rfl):DE X κ (.Compare a [op] [b] pos) f:=
 let⟨_,_,_,h1,h2,h3,h4⟩:=h;⟨_,JN h1 h2 h3 hm,h4⟩
theorem Dy{K:PySem.W.Frag}{te:TE}(h:QR K κ te f):TM K κ (LK te) (tV f):=λ{G A bo own ρ σ H b Q} r e q=>by
 obtain⟨p,e1,e2⟩:=zn.mp e
 refine h r e1 λv H' s z=>?_
 cases p<;>first|(cases e2;done)|skip
 cases e2
 exact⟨_,z.Pk,q H' s⟩
theorem b9{op:CmpOp}(h:DC X κ op a b f)(hm:behindInMarks op b=false:=by first|exact Gg _|with_unfolding_all rfl):DT X κ (.Compare a [op] [b] pos) (tV f):=
 let⟨_,_,_,h1,h2,h3,h4⟩:=h;⟨_,JO h1 h2 h3 hm,Dy h4⟩
theorem mH(h:DE X κ e f)(he:∀whole,isTrue e X.env whole=(do let v<-whole;standAt e.pos;holding [v] (truthy v)):=by intro _;rfl):DT X κ e (tV f):=
 let⟨_,h1,h2⟩:=h;⟨_,xq h1 he,Dy h2⟩
theorem NU{op:CmpOp}{F:Int->Int->Bool}{g:PV->PV->Option PV}(ho:mn X (compareOp op) (Ge λi j=>.bl (F i j)))(hg:∀p q z,g p q=some z->∃i j,p=.int i/\q=.int j/\z=.bl (F i j))
  (ha:DB X κ a fa)(hb:DB X κ b fb):DC X κ op a b (ag g fa fb):=by
 obtain⟨ta,h1,h2⟩:=ha
 obtain⟨tb,h3,h4⟩:=hb
 refine⟨_,_,_,ho,h1,h3,λ{G A bo own ρ σ H p Q} r e q=>?_⟩
 refine uL h2 h4 r e λx y p1 p2 H' s r' b1 b2 e'=>?_
 obtain⟨i,j,rfl,rfl,rfl⟩:=hg _ _ _ e'
 exact⟨i,j,b1.int,b2.int,q _ H' s (.bl _)⟩
theorem G2(ha:DB X κ a fa)(hb:DB X κ b fb):DC X κ .Lt a b (ag FR fa fb):=NU Qa (λp q z h=>by
 (cases p<;>first|(cases h;done)|skip)<;>cases q<;>first|(cases h;exact⟨_,_,rfl,rfl,rfl⟩)|cases h) ha hb
theorem zL(ha:DB X κ a fa)(hb:DB X κ b fb):DC X κ .Gt a b (ag FT fa fb):=NU Qb (λp q z h=>by
 (cases p<;>first|(cases h;done)|skip)<;>cases q<;>first|(cases h;exact⟨_,_,rfl,rfl,rfl⟩)|cases h) ha hb
theorem G3(ha:DB X κ a fa)(hb:DB X κ b fb):DC X κ .GtE a b (ag Pl fa fb):=NU Qc (λp q z h=>by
 (cases p<;>first|(cases h;done)|skip)<;>cases q<;>first|(cases h;exact⟨_,_,rfl,rfl,rfl⟩)|cases h) ha hb
variable{ft fu:dF}{rest:List Expr}
theorem xY(ha:DT X κ a ft):DT X κ (.UnaryOp .Not a pos) (qQ ft):=by
 obtain⟨ta,h1,h2⟩:=ha
 refine⟨_,F4 h1,λ{G A bo own ρ σ H p Q} r e q=>?_⟩
 obtain⟨c,e1,rfl⟩:=xz.mp e
 exact h2 r e1 λH' s=>q H' s
theorem xZ(ha:DT X κ a ft):DW X κ (.BoolOp .And [a] pos) ft:=let⟨_,h1,h2⟩:=ha;⟨_,pw_and1 h1,h2⟩
theorem BK(ha:DT X κ a ft):DW X κ (.BoolOp .Or [a] pos) ft:=let⟨_,h1,h2⟩:=ha;⟨_,pw_or1 h1,h2⟩
theorem BL(ha:DT X κ a ft)(hb:DW X κ (.BoolOp .And (b::rest) pos) fu):DW X κ (.BoolOp .And (a::b::rest) pos) (oF ft fu):=by
 obtain⟨ta,h1,h2⟩:=ha
 obtain⟨tb,h3,h4⟩:=hb
 refine⟨_,pw_and h1 h3,λ{G A bo own ρ σ H p Q} r e q=>?_⟩
 obtain⟨c,e1,e2⟩:=zn.mp e
 refine h2 r e1 λH1 s1=>?_
 cases c with
 |true=>exact h4 (r.mono s1) e2 λH2 s2=>q H2 (s1.trans s2)
 |false=>cases e2;exact q H1 s1
theorem zM(ha:DT X κ a ft)(hb:DW X κ (.BoolOp .Or (b::rest) pos) fu):DW X κ (.BoolOp .Or (a::b::rest) pos) (FJ ft fu):=by
 obtain⟨ta,h1,h2⟩:=ha
 obtain⟨tb,h3,h4⟩:=hb
 refine⟨_,pw_or h1 h3,λ{G A bo own ρ σ H p Q} r e q=>?_⟩
 obtain⟨c,e1,e2⟩:=zn.mp e
 refine h2 r e1 λH1 s1=>?_
 cases c with
 |false=>exact h4 (r.mono s1) e2 λH2 s2=>q H2 (s1.trans s2)
 |true=>cases e2;exact q H1 s1
theorem DW.t(h:DW X κ e ft):DT X κ e ft:=let⟨_,h1,h2⟩:=h;⟨_,h1.pt,h2⟩
def DA(X:Cx)(κ:Kl)(es:List Expr)(f:cI):Prop:=∃ta,PA X es ta/\∀{G A bo own ρ σ H ps Q},R X.K κ G A bo own ρ σ H->f ρ=some ps->(∀vs H',aE H H'->aV X.K κ (d7 A own ρ H') vs ps->Q vs H')->ta σ H Q
inductive NV(K:PySem.W.Frag)(κ:Kl)(hH H:Hp):List V->List PV->Prop
 |nil:NV K κ hH H [] []
 |cons {v:V} {p:PV} {vs:List V} {l:List PV}:BR K κ hH H v p->NV K κ hH H vs l->NV K κ hH H (v::vs) (p::l)
theorem NV.full{K:PySem.W.Frag}{hH H:Hp}(s:aE hH H):∀{vs:List V} {ps:List PV},NV K κ hH H vs ps->aV K κ H vs ps
 |_,_,.nil=>.nil
 |_,_,.cons r t=>.cons (r.full s) (NV.full s t)
def Sb(X:Cx)(κ:Kl)(es:List Expr)(f:cI):Prop:=∃ta,PA X es ta/\∀{G A bo own ρ σ H ps Q},R X.K κ G A bo own ρ σ H->f ρ=some ps->(∀vs H',aE H H'->NV X.K κ (d7 A own ρ H') H' vs ps->Q vs H')->ta σ H Q
variable{es:List Expr}{fs:cI}
theorem aF:DA X κ [] aH:=⟨_,bB,λ{G A bo own ρ σ H ps Q} r e q=>by cases e;exact q [] H (aE.refl _) .nil⟩
theorem Kn:Sb X κ [] aH:=⟨_,bB,λ{G A bo own ρ σ H ps Q} r e q=>by cases e;exact q [] H (aE.refl _) .nil⟩
theorem ae(ha:DE X κ a fa)(hr:DA X κ es fs)(hs:starEach (a::es) X.env=(false,eval a X.env)::starEach es X.env:=by rfl):DA X κ (a::es) (aa fa fs):=by
 obtain⟨ta,h1,h2⟩:=ha
 obtain⟨tb,h3,h4⟩:=hr
 refine⟨_,aI h1 h3 hs,λ{G A bo own ρ σ H ps Q} r e q=>?_⟩
 obtain⟨x,e1,e2⟩:=zn.mp e
 obtain⟨xs,e3,e4⟩:=zn.mp e2
 cases e4
 refine h2 r e1 λv H1 s1 z1=>h4 (r.mono s1) e3 λvs H2 s2 z2=>q _ H2 (s1.trans s2) (.cons (z1.mono (aZ s2)) z2)
theorem zN(ha:DB X κ a fa)(hr:Sb X κ es fs)(hs:starEach (a::es) X.env=(false,eval a X.env)::starEach es X.env:=by rfl):Sb X κ (a::es) (aa fa fs):=by
 obtain⟨ta,h1,h2⟩:=ha
 obtain⟨tb,h3,h4⟩:=hr
 refine⟨_,aI h1 h3 hs,λ{G A bo own ρ σ H ps Q} r e q=>?_⟩
 obtain⟨x,e1,e2⟩:=zn.mp e
 obtain⟨xs,e3,e4⟩:=zn.mp e2
 cases e4
 refine h2 r e1 λv H1 s1 z1=>h4 (r.mono s1) e3 λvs H2 s2 z2=>q _ H2 (s1.trans s2) (.cons (z1.Dx s2) z2)
theorem fE(h:DA X κ es fs):DO X κ (.List es pos) (i6 fs):=by
 obtain⟨ta,h1,h2⟩:=h
 refine⟨_,xu h1,λ{G A bo own ρ σ H ps Q} r e q=>?_⟩
 obtain⟨x,e1,e2⟩:=zn.mp e
 obtain⟨h3,rfl⟩:=bj e2
 refine h2 r e1 λvs H1 s1 z1=>⟨by rw[z1.length];exact h3,λp hp=>q _ _ (s1.trans (bD hp)) ?_⟩
 obtain⟨a,ws,l,w1,w2,w3,w4⟩:=(r.mono s1).xW hp z1
 refine⟨a,ws,l,w1,w2,?_,w4⟩
 cases w1
 exact s1.free hp
theorem kh{x1}(h:DA X κ es fs):DE X κ (.Tuple es x1 pos) (jj fs):=by
 obtain⟨ta,h1,h2⟩:=h
 refine⟨_,Bo h1,λ{G A bo own ρ σ H ps Q} r e q=>?_⟩
 obtain⟨x,e1,e2⟩:=zn.mp e
 obtain⟨h3,rfl⟩:=bj e2
 exact h2 r e1 λvs H1 s1 z1=>⟨by rw[z1.length];exact h3,λp hp=>q _ _ (s1.trans (bD hp)) ((r.mono s1).QT hp z1)⟩
end
def RR(fr:Bool)(K:PySem.W.Frag)(κ:Kl)(A:Addr->Prop)(G H':Hp)(v:V)(p:PV):Prop:=if fr=true then OR K κ A G H' v p else Rep K κ (hide A H') v p
def G4(K:PySem.W.Frag)(κ:Kl)(fr:Bool)(G:Hp)(A:Addr->Prop)(bo:Nat->Option (Addr×List V))(D:Ends):Fl->Prop
 |.nx ρ'=>∀cx σ' H',R K κ G A bo cx ρ' σ' H'->D.nx σ' H'
 |.bk ρ'=>∀cx σ' H',R K κ G A bo cx ρ' σ' H'->D.bk σ' H'
 |.ct ρ'=>∀cx σ' H',R K κ G A bo cx ρ' σ' H'->D.ct σ' H'
 |.rt p=>∀v H',aE G H'->RR fr K κ A G H' v p->D.rt v H'
def Jw(K:PySem.W.Frag)(κ:Kl)(fr:Bool)(ts:TS)(g:aR):Prop:=
 ∀{G A bo own ρ σ H fl D},R K κ G A bo own ρ σ H->g ρ=some fl->G4 K κ fr G A bo D fl->ts D σ H
def DS(X:Cx)(κ:Kl)(fr:Bool)(st:Stmt)(g:aR):Prop:=∃ts,PS X st ts/\Jw X.K κ fr ts g
def G5(X:Cx)(κ:Kl)(fr:Bool)(st:List Stmt)(g:aR):Prop:=∃ts,A6 X st ts/\Jw X.K κ fr ts g
theorem Pn{K:PySem.W.Frag}{κ:Kl}{G H H':Hp}{A B:Addr->Prop}{v:V}{p:PV}(h:OR K κ B H H' v p)(s:aE G H)(V4:∀b,A b->B b):OR K κ A G H' v p:=by
 obtain⟨a,vs,l,h1,h2,h3,h4,h5⟩:=h
 exact⟨a,vs,l,h1,h2,s.free h3,h4,h5.mono (cV (λ_ _ z=>z) λb z _=>z.imp (V4 b) id)⟩
section
variable{X:Cx}{κ:Kl}{fr:Bool}{st:Stmt}{rest:List Stmt}{g g':aR}{e a b c:Expr}{f:Den}{ft:dF}{pos:Pos}
theorem eD:G5 X κ fr [] fz:=⟨_,fN,λ{G A bo own ρ σ H fl D} r e k=>by cases e;exact k own σ H r⟩
theorem Ko{K:PySem.W.Frag}{t u:TS}(h1:Jw K κ fr t g)(h2:Jw K κ fr u g'):Jw K κ fr (vH t u) (bh g g'):=λ{G A bo own ρ σ H fl D} r e k=>by
 obtain⟨f1,e1,e2⟩:=zn.mp e
 refine h1 r e1 ?_
 cases f1 with
 |nx ρ'=>exact λcx σ' H' r'=>h2 r' e2 k
 |rt p=>cases e2;exact k
 |bk ρ'=>cases e2;exact k
 |ct ρ'=>cases e2;exact k
theorem ar(h1:DS X κ fr st g)(h2:G5 X κ fr rest g'):G5 X κ fr (st::rest) (bh g g'):=
 let⟨_,a1,a2⟩:=h1;let⟨_,b1,b2⟩:=h2;⟨_,cz a1 b1,Ko a2 b2⟩
theorem aG(h1:DS X κ fr st g):G5 X κ fr [st] g:=let⟨_,a1,a2⟩:=h1;⟨_,cF a1,a2⟩
theorem Kq{K:PySem.W.Frag}{u:TS}(i:Nat)(h2:Jw K κ fr u g):Jw K κ fr u (bh (Kh i) g):=λ{G A bo own ρ σ H fl D} r e k=>by
 obtain⟨f1,e1,e2⟩:=zn.mp e
 unfold Kh at e1
 split at e1
 ·rename_i l h
  cases e1
  obtain⟨h1,h3,vs,h4,h5⟩:=r.ow i (.l l) h
  change H (own i)=some (.lst vs)at h4
  change aV _ _ _ vs l at h5
  refine h2 (own:=own) (σ:=σ) (H:=H) ?_ e2 k
  have hi:i<ρ.length:=(wS.mp h).1
  have s1:aE (d7 A own ρ H) (d7 A own (ρ.set i (.sh (.lst l))) H):=nU
  have Jv:d7 A own (ρ.set i (.sh (.lst l))) H (own i)=some (.lst vs):=by
   rw[d7,c7]
   ·exact h4
   ·rintro(z|⟨j,m,z1,z2⟩)
    ·exact r.al _ z h3
    ·by_cases hj:i=j
     ·subst hj
      rw[v6,if_pos rfl,if_pos hi]at z1
      cases z1
     ·rw[v6,if_neg hj]at z1
      exact hj (r.inj j i _ _ z1 h z2).symm
  refine⟨r.al,r.bg,r.same,λj q e=>?_,λj m e=>?_,λj k m n e f=>?_,λj m e=>?_,by rw[Z9];exact r.len⟩
  ·by_cases hj:i=j
   ·subst hj
    rw[v6,if_pos rfl,if_pos hi]at e
    cases e
    exact⟨_,h1,.lst (SL.of Jv) (h5.mono s1)⟩
   ·rw[v6,if_neg hj]at e
    obtain⟨v,z1,z2⟩:=r.sh j q e
    exact⟨v,z1,z2.mono s1⟩
  ·by_cases hj:i=j
   ·subst hj
    rw[v6,if_pos rfl,if_pos hi]at e
    cases e
   ·rw[v6,if_neg hj]at e
    obtain⟨z1,z2,ws,z3,z4⟩:=r.ow j m e
    exact⟨z1,z2,ws,z3,z4.mono s1⟩
  ·have ne:∀{j:Nat} {m:Cn},(ρ.set i (.sh (.lst l)))[j]?=some (.own m)->ρ[j]?=some (.own m):=λ{j m} z=>by
     rw[v6]at z
     split at z
     ·first|cases z|(split at z<;>cases z)
     ·exact z
   exact r.inj j k m n (ne e) (ne f)
  ·by_cases hj:i=j
   ·subst hj
    rw[v6,if_pos rfl,if_pos hi]at e
    cases e
   ·rw[v6,if_neg hj]at e
    obtain⟨b,ws,z1,z2,z3⟩:=r.bw j m e
    exact⟨b,ws,z1,z2,z3.mono s1⟩
 ·cases e1
  exact h2 r e2 k
theorem Kr(i:Nat)(h:G5 X κ fr rest g):G5 X κ fr rest (bh (Kh i) g):=let⟨_,a1,a2⟩:=h;⟨_,a1,Kq i a2⟩
theorem bZ(h:DE X κ e f):DS X κ false (.Return (some e) pos) (cE f):=by
 obtain⟨te,h1,h2⟩:=h
 refine⟨_,mw h1,λ{G A bo own ρ σ H fl D} r e k=>?_⟩
 obtain⟨p,e1,rfl⟩:=xz.mp e
 refine h2 r e1 λv H' s z=>k v H' (r.same.trans s) ?_
 exact z.mono (cV (λ_ _ q=>q) λb q _=>.inl q)
theorem x5(h:DO X κ e f):DS X κ true (.Return (some e) pos) (cE f):=by
 obtain⟨te,h1,h2⟩:=h
 refine⟨_,mw h1,λ{G A bo own ρ σ H fl D} r e k=>?_⟩
 obtain⟨p,e1,rfl⟩:=xz.mp e
 refine h2 r e1 λv H' s z=>k v H' (r.same.trans s) ?_
 exact Pn z r.same λb q=>.inl q
theorem nV{ρ:cA}{i:Nat}{l:List PV}(h:Ki ρ i=some l):ρ[i]?=some (.ow l):=by
 unfold Ki at h
 split at h
 ·rename_i l' e
  cases h
  exact e
 ·cases h
theorem Dz(i:Nat){x:Str}{p':Pos}(hN:X.N[i]?=some x:=by rfl)(hv:FZ X.env.scope x:=by first|exact Or.inl rfl|exact Or.inr (Or.inl rfl)|exact Or.inr (Or.inr rfl))(hd:(x==("__debug__" :Str))=false:=by decide)
  (pK:(x==("__classdict__" :Str))=false:=by decide):DS X κ true (.Return (some (.Name x p')) pos) (Ds i):=by
 refine⟨_,mw (kf hN hv hd pK),λ{G A bo own ρ σ H fl D} r e k=>?_⟩
 obtain⟨l,e1,rfl⟩:=xz.mp e
 obtain⟨h1,h3,vs,h4,h5⟩:=r.ow i (.l l) (nV e1)
 change H (own i)=some (.lst vs)at h4
 change aV _ _ _ vs l at h5
 refine⟨_,h1,k _ H r.same ?_⟩
 exact⟨own i,vs,l,rfl,rfl,h3,h4,h5.mono (cV (λ_ _ z=>z) λb z _=>by
  rcases z with z|z
  ·exact .inl z
  ·exact .inr ⟨i,.l l,nV e1,z.symm⟩)⟩
theorem hU{sa sb:List Stmt}(hc:DT X κ c ft)(ha:G5 X κ fr sa g)(hb:G5 X κ fr sb g'):DS X κ fr (.If c sa sb pos) (oo ft g g'):=by
 obtain⟨tc,h5,h6⟩:=hc
 obtain⟨ta,h1,h2⟩:=ha
 obtain⟨tb,h3,h4⟩:=hb
 refine⟨_,l7 h5 h1 h3,λ{G A bo own ρ σ H fl D} r e k=>?_⟩
 obtain⟨c,e1,e2⟩:=zn.mp e
 refine h6 r e1 λH1 s1=>?_
 cases c with
 |true=>exact h2 (r.mono s1) e2 k
 |false=>exact h4 (r.mono s1) e2 k
theorem bu(i:Nat){x:Str}{p':Pos}(hN:X.N.Nodup)(h:DE X κ e f)(hi:X.N[i]?=some x:=by rfl)(hx:Loc X.env.scope x:=by first|exact Or.inl rfl|exact Or.inr rfl)(hs:swapsWith e (some (.Name x p')) pos.line X.env=pure false:=by rfl)
  (hf:X.fn x=true\/X.env.scope.names.lookup x=some .local:=by first|exact .inl rfl|exact .inr rfl):DS X κ fr (.Assign [.Name x p'] e pos) (b8 i f):=by
 obtain⟨te,h1,h2⟩:=h
 refine⟨_,qR hN hi hx h1 hs hf,λ{G A bo own ρ σ H fl D} r e k=>?_⟩
 obtain⟨p,e1,rfl⟩:=xz.mp e
 exact h2 r e1 λv H' s z=>k _ _ _ ((r.mono s).set z)
theorem R.QV{K:PySem.W.Frag}{G H H':Hp}{A:Addr->Prop}{bo:Nat->Option (Addr×List V)}{own:Nat->Addr}{ρ:cA}{σ:St}(r:R K κ G A bo own ρ σ H)(s:aE H H'){i:Nat}{v:V}{l:List PV}(z:OR K κ (dG A own ρ) H H' v (.lst l)):
  ∃cx,R K κ G A bo cx (ρ.set i (.ow l)) (σ.set i (some v)) H':=by
 obtain⟨a,vs,l',rfl,z2,h3,h4,h5⟩:=z
 cases z2
 refine⟨_,r.NR (r.same.free h3) (λq=>r.new h3 (.inl q)) (λj m e _ q=>r.new h3 (.inr ⟨j,m,e,q⟩)) ?_ (λb o q _=>s b o q) h4 h5⟩
 exact cV s λb w nz=>by
  rcases w with w|w
  ·exact w
  ·rw[w]at nz
   exact absurd h3 nz
theorem pY(i:Nat){x:Str}{p':Pos}(hN:X.N.Nodup)(h:DO X κ e f)(hi:X.N[i]?=some x:=by rfl)(hx:Loc X.env.scope x:=by first|exact Or.inl rfl|exact Or.inr rfl)(hs:swapsWith e (some (.Name x p')) pos.line X.env=pure false:=by rfl)
  (hf:X.fn x=true\/X.env.scope.names.lookup x=some .local:=by first|exact .inl rfl|exact .inr rfl):DS X κ fr (.Assign [.Name x p'] e pos) (mE i f):=by
 obtain⟨te,h1,h2⟩:=h
 refine⟨_,qR hN hi hx h1 hs hf,λ{G A bo own ρ σ H fl D} r e k=>?_⟩
 obtain⟨p,e1,e2⟩:=zn.mp e
 obtain⟨l,e3,rfl⟩:=xz.mp e2
 refine h2 r e1 λv H' s z=>?_
 cases p<;>first|(cases e3;done)|skip
 cases e3
 obtain⟨cx,r'⟩:=r.QV s (i:=i) z
 exact k _ _ _ r'
theorem R.TN{K:PySem.W.Frag}{G H:Hp}{A:Addr->Prop}{bo:Nat->Option (Addr×List V)}{own:Nat->Addr}{ρ:cA}{σ:St}(r:R K κ G A bo own ρ σ H){i:Nat}{l l':Cn}{ws:List V}(h:ρ[i]?=some (.own l))(q:aV K κ (d7 A own ρ H) ws (NQ l')):
  ∃cx,R K κ G A bo cx (ρ.set i (.own l')) σ (upd H (own i) (GY l' ws)):=by
 obtain⟨h1,h3,vs,h4,h5⟩:=r.ow i l h
 have e:σ.set i (some (.ref (own i)))=σ:=by
  obtain⟨hl,hx⟩:=wS.mp h1
  rw[<-hx]
  exact List.set_getElem_self hl
 have hs:dG A own ρ (own i):=.inr ⟨i,l,h,rfl⟩
 have he:hide (λb=>dG A own ρ b\/b=own i) (upd H (own i) (GY l' ws))=d7 A own ρ H:=by
  rw[zJ (.inr rfl)]
  congr 1
  funext b
  refine propext ⟨λz=>?_,.inl⟩
  rcases z with z|z
  ·exact z
  ·rw[z]
   exact hs
 have:=r.NR (i:=i) (a:=own i) (vs:=ws) (l:=l') (H1:=upd H (own i) (GY l' ws)) h3 (λz=>r.al _ z h3) (λj m e' hj z=>hj (r.inj j i _ _ e' h z)) (by rw[he];exact λ_ _ z=>z) (λb o z hb=>by rw[aJ hb];exact z) aW (by rw[he];exact q)
 rw[e]at this
 exact⟨_,this⟩
def L8(K:PySem.W.Frag)(κ:Kl)(rm:V->List V->Hp->VK->Prop)(gm:List PV->List PV->Option (List PV)):Prop:=
 ∀{hH H:Hp} {a:Addr} {vs ws:List V} {l xs l':List PV} {Q:VK},aE hH H->H a=some (.lst vs)->aV K κ hH vs l->aV K κ hH ws xs->gm l xs=some l'->(∀us,aV K κ hH us l'->Q .non (upd H a (.lst us)))->rm (.ref a) ws H Q
theorem R.mut{K:PySem.W.Frag}{G H:Hp}{A:Addr->Prop}{bo:Nat->Option (Addr×List V)}{own:Nat->Addr}{ρ:cA}{σ:St}(r:R K κ G A bo own ρ σ H){i:Nat}{l l':List PV}{ws:List V}(h:ρ[i]?=some (.ow l))(q:aV K κ (d7 A own ρ H) ws l'):
 ∃cx,R K κ G A bo cx (ρ.set i (.ow l')) σ (upd H (own i) (.lst ws)):=r.TN (l:=.l l) (l':=.l l') h q
theorem Ks{K:PySem.W.Frag}{rm:V->List V->Hp->VK->Prop}{gm:List PV->List PV->Option (List PV)}{fs:cI}{ta:TA}(i:Nat)(hg:L8 K κ rm gm)
  (ha:∀{G A bo own ρ σ H ps Q},R K κ G A bo own ρ σ H->fs ρ=some ps->(∀vs H',aE H H'->aV K κ (d7 A own ρ H') vs ps->Q vs H')->ta σ H Q):Jw K κ fr (ub (R5 K "list" rm (fB i) ta)) (oJ i gm fs):=λ{G A bo own ρ σ H fl D} r e k=>by
 obtain⟨xs,e1,e2⟩:=zn.mp e
 obtain⟨l,e3,e4⟩:=zn.mp e2
 obtain⟨l',e5,rfl⟩:=xz.mp e4
 have GI:=nV e3
 obtain⟨h1,h3,vs,h4,h5⟩:=r.ow i (.l l) GI
 change H (own i)=some (.lst vs)at h4
 change aV _ _ _ vs l at h5
 refine⟨_,h1,.inl ⟨rfl,vs,mj.of h4⟩,ha r e1 λws H2 s2 z2=>?_⟩
 refine hg ay (s2 _ _ h4) (h5.mono (aZ s2)) z2 e5 λus z=>?_
 obtain⟨cx,r'⟩:=(r.mono s2).mut GI z
 exact k _ _ _ r'
theorem G6{K:PySem.W.Frag}{rm:V->List V->Hp->VK->Prop}{gm:List PV->List PV->Option (List PV)}(i:Nat)(hg:L8 K κ rm gm):Jw K κ fr (ub (Qq K "list" rm (fB i))) (oJ i gm aH):=λ{G A bo own ρ σ H fl D} r e k=>by
 obtain⟨xs,e1,e2⟩:=zn.mp e
 obtain⟨l,e3,e4⟩:=zn.mp e2
 obtain⟨l',e5,rfl⟩:=xz.mp e4
 have GI:=nV e3
 obtain⟨h1,h3,vs,h4,h5⟩:=r.ow i (.l l) GI
 change H (own i)=some (.lst vs)at h4
 change aV _ _ _ vs l at h5
 cases e1
 refine⟨_,h1,.inl ⟨rfl,vs,mj.of h4⟩,?_⟩
 refine hg ay h4 h5 .nil e5 λus z=>?_
 obtain⟨cx,r'⟩:=r.mut GI z
 exact k _ _ _ r'
theorem kM{x:Str}{p' apos eJ:Pos}{ee:Expr}{fs:cI}(i:Nat)(ha:DA X κ [ee] fs)(hN:X.N[i]?=some x:=by rfl)(hv:FZ X.env.scope x:=by first|exact Or.inl rfl|exact Or.inr (Or.inl rfl)|exact Or.inr (Or.inr rfl))(hd:(x==("__debug__" :Str))=false:=by decide)
  (pK:(x==("__classdict__" :Str))=false:=by decide)(gq:attributeBase (.Name x p') "append" X.env (eval (.Name x p') X.env)=eval (.Name x p') X.env:=by rfl)
  (qW:((backTo eJ (starEach [ee] X.env)).all (λx=>!x.1)&&(backToKw eJ (keywordEach [] X.env)).all (λx=>x.1.isSome)
    &&decide ([ee].length+([]:List Keyword).length+(if([]:List Keyword).isEmpty then 0 else 1)<30))=true:=by rfl)
  (hs:swapsWith (.Call (.Attribute (.Name x p') "append" apos) [ee] [] eJ) none pos.line X.env=pure false:=by rfl)(gr:(apos.endLine==eJ.line)=true:=by rfl)(my:starEach [ee] X.env=(false,eval ee X.env)::starEach [] X.env:=by rfl):
  DS X κ fr (.Expr (.Call (.Attribute (.Name x p') "append" apos) [ee] [] eJ) pos) (oJ i gz fs):=by
 obtain⟨ta,h1,h2⟩:=ha
 refine⟨_,nQ (Dd YX Y9 XE wg (kf hN hv hd pK) h1 gq qW gr my rfl) hs,Ks i ?_ h2⟩
 intro hH H a vs ws l xs l' Q s h3 h4 h5 h6 q
 unfold gz at h6
 split at h6
 ·obtain⟨h7,rfl⟩:=bj h6
  cases h5 with
  |cons z t=>
   cases t
   exact⟨a,vs,_,rfl,rfl,h3,by rw[h4.length];exact h7,q _ (h4.append (.cons z .nil))⟩
 ·cases h6
theorem zO{x:Str}{p' apos eJ:Pos}(i:Nat)(hN:X.N[i]?=some x:=by rfl)(hv:FZ X.env.scope x:=by first|exact Or.inl rfl|exact Or.inr (Or.inl rfl)|exact Or.inr (Or.inr rfl))(hd:(x==("__debug__" :Str))=false:=by decide)
  (pK:(x==("__classdict__" :Str))=false:=by decide)(gq:attributeBase (.Name x p') "clear" X.env (eval (.Name x p') X.env)=eval (.Name x p') X.env:=by rfl)
  (hs:swapsWith (.Call (.Attribute (.Name x p') "clear" apos) [] [] eJ) none pos.line X.env=pure false:=by rfl)(gr:(apos.endLine==eJ.line)=true:=by rfl):
  DS X κ fr (.Expr (.Call (.Attribute (.Name x p') "clear" apos) [] [] eJ) pos) (oJ i BF aH):=by
 refine⟨_,nQ (Gw YX PySem.F.slot_list_clear PySem.F.type_list_clear Gx (kf hN hv hd pK) gq gr) hs,G6 i ?_⟩
 intro hH H a vs ws l xs l' Q s h3 h4 h5 h6 q
 cases h5 with
 |cons _ _=>cases h6
 |nil=>
  cases h6
  exact⟨a,vs,rfl,rfl,h3,q [] .nil⟩
end
def x6(K:PySem.W.Frag)(κ:Kl)(Gs:Hp)(A:Addr->Prop)(J:It)(ps:List PV):Prop:=
 ∀(i:Nat) (H2:Hp),aE Gs H2->(∀p,ps[i]?=some p->J.go i H2/\∀x H3,J.yld i H2 x H3->aE H2 H3/\∀B:Addr->Prop,(∀b,B b->H2 b≠none)->aE (hide A Gs) (hide B H2)->Rep K κ (hide B H3) x p)/\(ps.length<=i->J.stop i H2)
def DI(X:Cx)(κ:Kl)(tg iter:Expr)(f:cI):Prop:=∃wi,PI X tg iter wi/\∀{G A bo own ρ σ H ps Q},R X.K κ G A bo own ρ σ H->f ρ=some ps->(∀J H',aE H H'->x6 X.K κ (Jv own ρ H') A J ps->Q J H')->wi σ H Q
def Kt(X:Cx)(κ:Kl)(tg iter:Expr)(f:cI):Prop:=∃wi,PI X tg iter wi/\∀{G A bo own ρ σ H ps Q},R X.K κ G A bo own ρ σ H->f ρ=some ps->(∀J H',aE H H'->x6 X.K κ H' (dG A own ρ) J ps->Q J H')->wi σ H Q
def DG(X:Cx)(κ:Kl)(tg:Expr)(g:vO):Prop:=∃tt,PG X tg tt/\∀{G A bo own ρ σ H p v ρ' Q},R X.K κ G A bo own ρ σ H->Rep X.K κ (d7 A own ρ H) v p->g p ρ=some ρ'->(∀cx σ',R X.K κ G A bo cx ρ' σ' H->aE (d7 A own ρ H) (d7 A cx ρ' H)->Q σ' H)->tt v σ H Q
section
variable{K:PySem.W.Frag}{κ:Kl}{Gs:Hp}{A:Addr->Prop}{a:Addr}{vs:List V}{l:List PV}
theorem wD(h:SL K Gs a vs)(q:aV K κ (hide A Gs) vs l):x6 K κ Gs A (SV K a) l:=λi H2 s=>by
 have h2:mj K H2 a vs:=(s.sl h).sq
 refine⟨λp e=>?_,λhl=>⟨vs,h2,by rw[q.length];exact hl⟩⟩
 obtain⟨v,e1,r1⟩:=q.get e
 refine⟨⟨vs,v,h2,e1⟩,λx H3 ⟨y1,y2⟩=>?_⟩
 subst y1
 have:=y2 vs h2
 rw[e1]at this
 cases this
 exact⟨aE.refl _,λB _ sb=>r1.mono sb⟩
theorem zP(h:kC K Gs a vs)(q:aV K κ (hide A Gs) vs l):x6 K κ Gs A (SW K a) l:=λi H2 s=>by
 have h2:kC K H2 a vs:=l9 s h
 refine⟨λp e=>?_,λhl=>⟨vs,h2,by rw[q.length];exact hl⟩⟩
 obtain⟨v,e1,r1⟩:=q.get e
 refine⟨⟨vs,v,h2,e1⟩,λx H3 ⟨y1,y2⟩=>?_⟩
 subst y1
 have:=y2 vs h2
 rw[e1]at this
 cases this
 exact⟨aE.refl _,λB _ sb=>r1.mono sb⟩
theorem BM{lo:Int}{n i:Nat}{p:PV}(h:(i7 lo n)[i]?=some p):i<n/\p=.int (lo+(i:Nat)):=by
 unfold i7 at h
 rw[Zh]at h
 obtain⟨k,h1,rfl⟩:=xz.mp h
 obtain⟨h2,h3⟩:=wS.mp h1
 rw[List.getElem_range]at h3
 subst h3
 exact⟨by simpa using h2,rfl⟩
theorem uN{lo:Int}{n:Nat}:x6 K κ Gs A (PY lo n) (i7 lo n):=λi H2 s=>by
 refine⟨λp e=>?_,λhl=>show n<=i by simpa[i7]using hl⟩
 obtain⟨h1,rfl⟩:=BM e
 refine⟨h1,λx H3 ⟨y1,y2⟩=>?_⟩
 subst y1 y2
 exact⟨aE.refl _,λB _ _=>.int _⟩
end
section
variable{X:Cx}{κ:Kl}{fr:Bool}{g:aR}{e a b c tg iter:Expr}{f fa fb:Den}{ft:dF}{pos:Pos}{fi:cI}{gt gu:vO}{body:List Stmt}
theorem DF{A:Addr->Prop}{own:Nat->Addr}{ρ:cA}{H:Hp}:aE (d7 A own ρ H) (Jv own ρ H):=by
 rw[<-uK]
 exact ay
theorem pZ(h:DE X κ e f):DI X κ tg e (nList f):=by
 obtain⟨te,h1,h2⟩:=h
 refine⟨_,C2 h1,λ{G A bo own ρ σ H ps Q} r e q=>?_⟩
 obtain⟨p,e1,e2⟩:=zn.mp e
 refine h2 r e1 λv H' s z=>?_
 cases p<;>first|(cases e2;done)|skip
 cases e2
 cases z with
 |lst q1 q2=>exact⟨_,rfl,⟨_,((ay (A:=dG A own ρ)).sl q1).sq⟩,q _ H' s (wD (DF.sl q1) (by rw[uK];exact q2))⟩
theorem fJ(h:DB X κ e f):Kt X κ tg e (nList f):=by
 obtain⟨te,h1,h2⟩:=h
 refine⟨_,C2 h1,λ{G A bo own ρ σ H ps Q} r e q=>?_⟩
 obtain⟨p,e1,e2⟩:=zn.mp e
 refine h2 r e1 λv H' s z=>?_
 cases p<;>first|(cases e2;done)|skip
 cases e2
 obtain⟨a,vs,rfl,q1,q2⟩:=z.lst ay
 exact⟨_,rfl,⟨_,q1.sq⟩,q _ H' s (wD q1 q2)⟩
theorem NW(h:DE X κ e f):DI X κ tg e (sZ f):=by
 obtain⟨te,h1,h2⟩:=h
 refine⟨_,F9 h1,λ{G A bo own ρ σ H ps Q} r e q=>?_⟩
 obtain⟨p,e1,e2⟩:=zn.mp e
 refine h2 r e1 λv H' s z=>?_
 cases p<;>first|(cases e2;done)|skip
 cases e2
 cases z with
 |tup q1 q2=>exact⟨_,rfl,⟨_,l9 (ay (A:=dG A own ρ)) q1⟩,q _ H' s (zP (l9 DF q1) (by rw[uK];exact q2))⟩
theorem tH(h:DB X κ e f):Kt X κ tg e (sZ f):=by
 obtain⟨te,h1,h2⟩:=h
 refine⟨_,F9 h1,λ{G A bo own ρ σ H ps Q} r e q=>?_⟩
 obtain⟨p,e1,e2⟩:=zn.mp e
 refine h2 r e1 λv H' s z=>?_
 cases p<;>first|(cases e2;done)|skip
 cases e2
 obtain⟨a,vs,rfl,q1,q2⟩:=z.tup ay
 exact⟨_,rfl,⟨_,q1⟩,q _ H' s (zP q1 q2)⟩
theorem QW{K:PySem.W.Frag}{te:TE}(h2:QS K κ te f){G A bo own ρ σ H ps}{Q:It->Hp->Prop}(r:R K κ G A bo own ρ σ H)(e:je f ρ=some ps)(q:∀n H',aE H H'->ps=i7 0 n->Q (PY 0 n) H'):LJ (cG te iZ) σ H Q:=by
 obtain⟨p,e1,e2⟩:=zn.mp e
 obtain⟨j,e3,e4⟩:=zn.mp e2
 obtain⟨h3,h4⟩:=bj e4
 simp only[wB,re,decide_eq_true_eq]at h3
 refine h2 r e1 λv H' s z=>?_
 cases p<;>first|(cases e3;done)|skip
 cases e3
 exact⟨_,by rw[z.int],h3.1,h3.2,q _ H' s h4.symm⟩
theorem tI{p pos:Pos}(h:DB X κ a f)(hm:X.mg "range" =none)(hg:Gl X "range" :=by rfl)(hs:starEach [a] X.env=[(false,eval a X.env)]:=by rfl):DI X κ tg (.Call (.Name "range" p) [a] [] pos) (je f):=by
 obtain⟨te,h1,h2⟩:=h
 exact⟨_,wa hg hm (aI h1 bB hs) hs,λ{G A bo own ρ σ H ps Q} r e q=>QW h2 r e λn H' s e'=>q _ H' s (by rw[e'];exact uN)⟩
theorem G7{p pos:Pos}(h:DB X κ a f)(hm:X.mg "range" =none)(hg:Gl X "range" :=by rfl)(hs:starEach [a] X.env=[(false,eval a X.env)]:=by rfl):Kt X κ tg (.Call (.Name "range" p) [a] [] pos) (je f):=by
 obtain⟨te,h1,h2⟩:=h
 exact⟨_,wa hg hm (aI h1 bB hs) hs,λ{G A bo own ρ σ H ps Q} r e q=>QW h2 r e λn H' s e'=>q _ H' s (by rw[e'];exact uN)⟩
theorem eE(i:Nat){x:Str}(hN:X.N.Nodup)(hi:X.N[i]?=some x:=by rfl)(hx:Loc X.env.scope x:=by first|exact Or.inl rfl|exact Or.inr rfl)(hf:X.fn x=true\/X.env.scope.names.lookup x=some .local:=by first|exact .inl rfl|exact .inr rfl):DG X κ (.Name x pos) (bN i):=
 ⟨_,xr hN hi hx hf,λ{G A bo own ρ σ H p v ρ' Q} r z e q=>by cases e;exact q _ _ (r.set z) nU⟩
end
section
variable{K:PySem.W.Frag}{κ:Kl}{fr:Bool}{gb:aR}{ft:dF}{gt:vO}{fi:cI}
theorem wF{g:vO}{body:aR}{x:PV}{xs:List PV}{ρ:cA}{fl:Fl}(h:forL g body (x::xs) ρ=some fl):∃ρ1 f,g x ρ=some ρ1/\body ρ1=some f/\(match f with
  |.nx ρ'=>forL g body xs ρ'
  |.ct ρ'=>forL g body xs ρ'
  |.bk ρ'=>some (.nx ρ')
  |.rt p=>some (.rt p))=some fl:=by
 unfold forL at h
 obtain⟨ρ1,e1,e2⟩:=zn.mp h
 obtain⟨f,e3,e4⟩:=zn.mp e2
 exact⟨ρ1,f,e1,e3,e4⟩
theorem EL{J:It}{ps:List PV}{G:Hp}{A:Addr->Prop}{bo:Nat->Option (Addr×List V)}{tg:TG}{tb:TS}{D:Ends}{own:Nat->Addr}{ρ:cA}{σ:St}{H:Hp}{fl:Fl}
  (hI:x6 K κ G A J ps)(hg:∀{own ρ σ H p v ρ' Q},R K κ G A bo own ρ σ H->Rep K κ (d7 A own ρ H) v p->gt p ρ=some ρ'->(∀cx σ',R K κ G A bo cx ρ' σ' H->aE (d7 A own ρ H) (d7 A cx ρ' H)->Q σ' H)->tg v σ H Q)
  (hb:Jw K κ fr tb gb)(r:R K κ G A bo own ρ σ H)(e:forL gt gb ps ρ=some fl)(k:G4 K κ fr G A bo D fl):
  ∃W:Nat->Nat->St->Hp->Prop,(∃m,W 0 m σ H)/\∀i m σ H,W i m σ H->
   (J.stop i H/\D.nx σ H)\/(J.go i H/\∃N:St->Hp->Prop,(∀σ' H',N σ' H'->∃m',m'<m/\W (i+1) m' σ' H')/\∀x H',J.yld i H x H'->tg x σ H' λσ2 H2=>tb {D with nx:=N,ct:=N,bk:=D.nx} σ2 H2):=by
 refine⟨λi m σ H=>m=ps.length-i/\i<=ps.length/\∃own ρ,R K κ G A bo own ρ σ H/\forL gt gb (ps.drop i) ρ=some fl,⟨ps.length,by simp,ZI _,own,ρ,r,by simpa using e⟩,?_⟩
 rintro i m σ H ⟨rfl,hi,own,ρ,r,e⟩
 obtain⟨h1,h2⟩:=hI i H r.same
 by_cases i0:i<ps.length
 ·rw[ZR i0]at e
  obtain⟨ρ1,f,e1,e3,e4⟩:=wF e
  obtain⟨h3,h4⟩:=h1 ps[i] (wn i0)
  refine .inr ⟨h3,λσ' H'=>i+1<=ps.length/\∃own ρ,R K κ G A bo own ρ σ' H'/\forL gt gb (ps.drop (i+1)) ρ=some fl,λσ' H' ⟨q0,q⟩=>⟨ps.length-(i+1),by omega,rfl,q0,q⟩,λx H' y=>?_⟩
  obtain⟨s,q⟩:=h4 x H' y
  have r1:=r.mono s
  refine hg r1 (q (dG A own ρ) (λb hb=>r.xV hb) r.Dw) e1 λcx σ' r2 _=>?_
  refine hb r2 e3 ?_
  cases f with
  |nx ρ'=>exact λrg σ2 H2 r3=>⟨i0,rg,ρ',r3,e4⟩
  |ct ρ'=>exact λrg σ2 H2 r3=>⟨i0,rg,ρ',r3,e4⟩
  |bk ρ'=>cases e4;exact k
  |rt p=>cases e4;exact k
 ·have hn:ps.drop i=[]:=ZU (by omega)
  rw[hn]at e
  cases e
  exact .inl ⟨h2 (by omega),k own σ H r⟩
theorem G4.small{G G':Hp}{A:Addr->Prop}{bo:Nat->Option (Addr×List V)}{D:Ends}{fl:Fl}(k:G4 K κ fr G A bo D fl)(s:aE G G')(al:∀b,A b->G b≠none)(bg:∀i a vs,bo i=some (a,vs)->G a=some (.lst vs)):G4 K κ fr G' A bo D fl:=by
 cases fl with
 |nx ρ'=>exact λcx σ' H' r=>k cx σ' H' (r.small s al bg)
 |bk ρ'=>exact λcx σ' H' r=>k cx σ' H' (r.small s al bg)
 |ct ρ'=>exact λcx σ' H' r=>k cx σ' H' (r.small s al bg)
 |rt p=>
  intro v H' s' q
  refine k v H' (s.trans s') ?_
  unfold RR at q⊢
  split
  ·rename_i h
   rw[if_pos h]at q
   exact Pn q s λb z=>z
  ·rename_i h
   rw[if_neg h]at q
   exact q
end
section
variable{X:Cx}{κ:Kl}{fr:Bool}{g:aR}{e a b c tg iter:Expr}{f fa fb:Den}{ft:dF}{pos:Pos}{fi:cI}{gt gu:vO}{body:List Stmt}
theorem lp(hi:DI X κ tg iter fi)(hg:DG X κ tg gt)(hb:G5 X κ fr body g)(hp:PassesOwn (model X.prog X.w) X.A X.env X.xe:=by exact PassesOwn.never)(hc:X.calm=true:=by rfl)(hs:∀x,foldedSetIterable iter X.env x=pure x:=by intro _;rfl):DS X κ fr (.For tg iter body [] pos) (oK fi gt g):=by
 obtain⟨wi,h1,h2⟩:=hi
 obtain⟨tt,h3,h4⟩:=hg
 obtain⟨tb,h5,h6⟩:=hb
 refine⟨_,Gb hp hc h1 h3 h5 hs,λ{G A bo own ρ σ H fl D} r e k=>?_⟩
 obtain⟨ps,e1,e2⟩:=zn.mp e
 refine h2 r e1 λJ H' s hI=>?_
 have r1:=r.mono s
 exact EL hI h4 h6 r1.big e2 (k.small r1.gv r1.al r1.bg)
theorem G8(n:Nat)(hc:DT X κ c ft)(hb:G5 X κ fr body g)(hp:PassesOwn (model X.prog X.w) X.A X.env X.xe:=by exact PassesOwn.never):DS X κ fr (.While c body [] pos) (il ft g n):=by
 obtain⟨tc,h1,h2⟩:=hc
 obtain⟨tb,h3,h4⟩:=hb
 refine⟨_,F7 hp h1 h3,λ{G A bo own ρ σ H fl D} r e k=>?_⟩
 refine⟨λm σ H=>∃own ρ,R X.K κ G A bo own ρ σ H/\il ft g m ρ=some fl,⟨n,own,ρ,r,e⟩,?_⟩
 rintro m σ H ⟨own,ρ,r,e⟩
 cases m with
 |zero=>cases e
 |succ m=>
  unfold il at e
  obtain⟨c,e1,e2⟩:=zn.mp e
  refine h2 r e1 λH1 s1=>?_
  cases c with
  |false=>
   cases e2
   exact k own σ H1 (r.mono s1)
  |true=>
   obtain⟨f,e3,e4⟩:=zn.mp e2
   refine⟨λσ' H'=>∃own ρ,R X.K κ G A bo own ρ σ' H'/\il ft g m ρ=some fl,λσ' H' q=>⟨m,Y6 m,q⟩,?_⟩
   refine h4 (r.mono s1) e3 ?_
   cases f with
   |nx ρ'=>exact λrg σ2 H2 r3=>⟨rg,ρ',r3,e4⟩
   |ct ρ'=>exact λrg σ2 H2 r3=>⟨rg,ρ',r3,e4⟩
   |bk ρ'=>cases e4;exact k
   |rt p=>cases e4;exact k
end
def Po(K:PySem.W.Frag)(κ:Kl)(f:Den):TE:=λσ H Q=>∃G A bo own ρ p,R K κ G A bo own ρ σ H/\f ρ=some p/\∀v H',aE H H'->Rep K κ (d7 A own ρ H') v p->Q v H'
def NX(K:PySem.W.Frag)(κ:Kl)(f:dF):TT:=λσ H Q=>∃G A bo own ρ b,R K κ G A bo own ρ σ H/\f ρ=some b/\∀H',aE H H'->Q b H'
theorem DE.pe{X:Cx}{κ:Kl}{e:Expr}{f:Den}(h:DE X κ e f):PE X e (Po X.K κ f):=λpins s σ H Q I ⟨_,_,_,_,_,_,r,e,q⟩=>let⟨_,h1,h2⟩:=h;h1 pins s σ H Q I (h2 r e q)
theorem DT.pt{X:Cx}{κ:Kl}{e:Expr}{f:dF}(h:DT X κ e f):PT X e (NX X.K κ f):=λpins s σ H Q I ⟨_,_,_,_,_,_,r,e,q⟩=>let⟨_,h1,h2⟩:=h;h1 pins s σ H Q I (h2 r e q)
def TQ{α:Type}(f:Nat->α)(d:α):Nat->α
 |0=>d
 |i+1=>f i
section
variable{K:PySem.W.Frag}{κ:Kl}{G H:Hp}{A:Addr->Prop}{bo:Nat->Option (Addr×List V)}{own:Nat->Addr}{ρ:cA}{σ:St}{v:V}{p:PV}
theorem kN:dG A (TQ own 0) (.sh p::ρ)=dG A own ρ:=by
 funext b
 refine propext ⟨λz=>?_,λz=>?_⟩
 ·rcases z with z|⟨j,m,z1,z2⟩
  ·exact .inl z
  ·cases j with
   |zero=>simp at z1
   |succ j=>exact .inr ⟨j,m,by simpa using z1,z2⟩
 ·rcases z with z|⟨j,m,z1,z2⟩
  ·exact .inl z
  ·exact .inr ⟨j+1,m,by simpa using z1,z2⟩
theorem R.cons(r:R K κ G A bo own ρ σ H)(z:Rep K κ (d7 A own ρ H) v p):R K κ G A (TQ bo none) (TQ own 0) (.sh p::ρ) (some v::σ) H where
 al:=r.al
 bg:=λi a vs e=>by
  cases i with
  |zero=>cases e
  |succ i=>exact r.bg i a vs e
 same:=r.same
 sh:=λi q e=>by
  rw[d7,kN]
  cases i with
  |zero=>
   simp at e
   subst e
   exact⟨v,rfl,z⟩
  |succ i=>exact r.sh i q (by simpa using e)
 ow:=λi l e=>by
  rw[d7,kN]
  cases i with
  |zero=>simp at e
  |succ i=>exact r.ow i l (by simpa using e)
 inj:=λi j l m e f q=>by
  cases i with
  |zero=>simp at e
  |succ i=>
   cases j with
   |zero=>simp at f
   |succ j=>rw[r.inj i j l m (by simpa using e) (by simpa using f) q]
 bw:=λi l e=>by
  rw[d7,kN]
  cases i with
  |zero=>simp at e
  |succ i=>exact r.bw i l (by simpa using e)
 len:=by rw[ul,ul,r.len]
theorem p7{wi:TI}{fi:cI}{c:dF}{e:Den}(hi:∀{G A bo own ρ σ H ps Q},R K κ G A bo own ρ σ H->fi ρ=some ps->(∀J H',aE H H'->x6 K κ H' (dG A own ρ) J ps->Q J H')->wi σ H Q):
  U1 K κ (wz wi (NX K κ c) (Po K κ e)) (bM fi c e):=λ{G A bo own ρ σ H p Q} r e0 q=>by
 obtain⟨ps,e1,e2⟩:=zn.mp e0
 have h0:ps.length<=sizeLine/\(gw c e ρ ps).map PV.lst=some p:=by
  split at e2
  ·exact⟨by assumption,e2⟩
  ·cases e2
 obtain⟨zs,e3,rfl⟩:=xz.mp h0.2
 refine hi r e1 λJ H1 s1 hI=>?_
 refine⟨λi m acc H2=>m=ps.length-i/\i<=ps.length/\aE H1 H2/\acc.length<=i/\∃out rest,aV K κ (d7 A own ρ H2) acc out/\gw c e ρ (ps.drop i)=some rest/\out++rest=zs,
  ⟨ps.length,by simp,ZI _,aE.refl _,ZI _,[],zs,.nil,by simpa using e3,rfl⟩,?_⟩
 rintro i m acc H2 ⟨rfl,Se,s2,ha,out,rest,q1,q2,q3⟩
 obtain⟨h1,h2⟩:=hI i H2 s2
 have md:=s1.trans s2
 have r2:=r.mono md
 by_cases i0:i<ps.length
 ·rw[ZR i0]at q2
  obtain⟨h3,h4⟩:=h1 ps[i] (wn i0)
  refine .inr ⟨h3,by omega,λy H3 hy=>?_⟩
  obtain⟨s3,q4⟩:=h4 y H3 hy
  have rep:=q4 (dG A own ρ) (λb hb=>r2.xV hb) (aZ s2)
  have r3:=(r2.mono s3).cons rep
  unfold gw at q2
  obtain⟨b,e4,e5⟩:=zn.mp q2
  refine⟨_,_,_,_,_,_,r3,e4,λH4 s4=>?_⟩
  have r4:=r3.mono s4
  cases b with
  |true=>
   dsimp only
   rw[if_pos rfl]at e5⊢
   obtain⟨z,e6,e7⟩:=zn.mp e5
   obtain⟨ws,e8,rfl⟩:=xz.mp e7
   refine⟨_,_,_,_,_,_,r4,e6,λv H5 s5 q5=>?_⟩
   rw[d7,kN]at q5
   refine⟨ps.length-(i+1),by omega,rfl,i0,((s2.trans s3).trans s4).trans s5,by simp;omega,out++[z],ws,?_,e8,by rw[<-q3];simp⟩
   exact(q1.mono (aZ ((s3.trans s4).trans s5))).append (.cons q5 .nil)
  |false=>
   dsimp only
   rw[if_neg sw]at e5⊢
   exact⟨ps.length-(i+1),by omega,rfl,i0,(s2.trans s3).trans s4,by omega,out,rest,q1.mono (aZ (s3.trans s4)),e5,q3⟩
 ·have hn:ps.drop i=[]:=ZU (by omega)
  rw[hn]at q2
  cases q2
  rw[ZL]at q3
  subst q3
  refine .inl ⟨h2 (by omega),λp hp=>q _ _ (md.trans (bD hp)) ?_⟩
  obtain⟨a,ws,l,w1,w2,w3,w4⟩:=r2.xW hp q1
  refine⟨a,ws,l,w1,w2,?_,w4⟩
  cases w1
  exact md.free hp
end
section
variable{X:Cx}{κ:Kl}{fr:Bool}{sc:Scope}{x:Str}{px pos:Pos}{elt iter c:Expr}{fi:cI}{ft:dF}{f:Den}
theorem p8(hi:Kt X κ (.Name x px) iter fi)(r9:Scope)(N0 ys:List Str)(he:∀ex C s H,DE (X.i5 sc x ys ex C s H) κ elt f)(uO:X.env.scope=r9:=by rfl)(G9:X.N=N0:=by rfl)(sT:i4 r9 N0 sc x ys=true:=by decide+kernel)(hc:X.calm=true:=by rfl)
  (hs:∀x,foldedSetIterable iter X.env x=pure x:=by intro _;rfl):DO X κ (.ListComp elt [⟨.Name x px,iter,[],0⟩] sc pos) (bM fi eC f):=by
 obtain⟨wi,h1,h2⟩:=hi
 refine⟨_,Dl h1 ys (tt:=NX X.K κ eC) (te:=Po X.K κ f) (λex C s H=>?_) (λex C s H=>(he ex C s H).pe) (by rw[uO,G9];exact sT) hc hs,p7 h2⟩
 intro pins s σ H Q I ⟨_,_,_,_,_,_,r,e,q⟩
 cases e
 exact uw pins s σ H Q I (q _ (aE.refl _))
theorem kO(hi:Kt X κ (.Name x px) iter fi)(r9:Scope)(N0 ys:List Str)(ht:∀ex C s H,DT (X.i5 sc x ys ex C s H) κ c ft)(he:∀ex C s H,DE (X.i5 sc x ys ex C s H) κ elt f)(uO:X.env.scope=r9:=by rfl)(G9:X.N=N0:=by rfl)(sT:i4 r9 N0 sc x ys=true:=by decide+kernel)(hc:X.calm=true:=by rfl)
  (hs:∀x,foldedSetIterable iter X.env x=pure x:=by intro _;rfl):DO X κ (.ListComp elt [⟨.Name x px,iter,[c],0⟩] sc pos) (bM fi ft f):=by
 obtain⟨wi,h1,h2⟩:=hi
 exact⟨_,Dl h1 ys (tt:=NX X.K κ ft) (te:=Po X.K κ f) (λex C s H=>ux (ht ex C s H).pt) (λex C s H=>(he ex C s H).pe) (by rw[uO,G9];exact sT) hc hs,p7 h2⟩
theorem wG(i:Nat){y:Str}{py pT:Pos}(hN:X.N.Nodup)(hi:Kt X κ (.Name x px) iter fi)(r9:Scope)(N0 ys:List Str)(ht:∀ex C s H,DT (X.i5 sc x ys ex C s H) κ c ft)(he:∀ex C s H,DE (X.i5 sc x ys ex C s H) κ elt f)(FP:X.N[i]?=some y:=by rfl)(hy:X.env.scope.names.lookup y=some .local:=by rfl)(uO:X.env.scope=r9:=by rfl)(G9:X.N=N0:=by rfl)(sT:i4 r9 N0 sc x ys=true:=by decide+kernel)(hc:X.calm=true:=by rfl)
  (hs:∀x,foldedSetIterable iter X.env x=pure x:=by intro _;rfl)(GJ:swapsWith (.ListComp elt [⟨.Name x px,iter,[c],0⟩] sc pos) (some (.Name y py)) pT.line X.env=pure true:=by rfl):
  DS X κ fr (.Assign [.Name y py] (.ListComp elt [⟨.Name x px,iter,[c],0⟩] sc pos) pT) (b8 i (bM fi ft f)):=by
 obtain⟨wi,h1,h2⟩:=hi
 refine⟨_,Dm hN FP hy h1 ys (tt:=NX X.K κ ft) (te:=Po X.K κ f) (λex C s H=>ux (ht ex C s H).pt) (λex C s H=>(he ex C s H).pe) (by rw[uO,G9];exact sT) hc hs GJ,λ{G A bo own ρ σ H fl D} r e k=>?_⟩
 obtain⟨p,e1,rfl⟩:=xz.mp e
 exact p7 h2 r e1 λv H' s z=>k _ _ _ ((r.mono s).set (z.rep r))
end
def d5(K:PySem.W.Frag)(κ:Kl)(fr:Bool)(F:List PV->Option PV):Sp:=λvs H Q _=>∃(A:Addr->Prop) (ps:List PV) (p:PV),(∀b,A b->H b≠none)/\aV K κ (hide A H) vs ps/\F ps=some p/\∀v H',aE H H'->RR fr K κ A H H' v p->Q v H'
section
variable{X:Cx}{κ:Kl}{fr:Bool}{k:Nat}{f:Addr}{fd:FuncData}{ps:List Str}{F:List PV->Option PV}{x:Str}{p pos:Pos}{e:Expr}{es:List Expr}{fs:cI}
theorem bG(FO:aL X.prog X.w X.K X.mg X.base cP k f fd ps (d5 X.K κ false F))(hr:cg k X.A)(hm:X.mg x=some (.ref f))(hk:PySem.W.keepIn X.K (.ref f)=true)(hb:Binds X.K fd ps [])(ha:DA X κ (e::es) fs)(hg:Gl X x:=by rfl)(oj:(x==("__debug__" :Str))=false:=by decide)
  (he:starEach (e::es) X.env=(false,eval e X.env)::starEach es X.env:=by rfl)(hpl:(backTo pos (starEach es X.env)).any (·.1)=false:=by rfl):DE X κ (.Call (.Name x p) (e::es) [] pos) (aN F fs):=by
 obtain⟨ta,h1,h2⟩:=ha
 refine⟨_,jh FO hr hg hm hk hb .nil jW h1 oj he hpl,λ{G A bo own ρ σ H p Q} r e q=>?_⟩
 obtain⟨xs,e1,e2⟩:=zn.mp e
 refine h2 r e1 λvs H1 s1 z1=>?_
 rw[ZL]
 exact⟨dG A own ρ,xs,p,λb hb=>(r.mono s1).xV hb,z1,e2,λv H' s z=>q v H' (s1.trans s) z⟩
theorem tJ(FO:aL X.prog X.w X.K X.mg X.base cP k f fd ps (d5 X.K κ true F))(hr:cg k X.A)(hm:X.mg x=some (.ref f))(hk:PySem.W.keepIn X.K (.ref f)=true)(hb:Binds X.K fd ps [])(ha:DA X κ (e::es) fs)(hg:Gl X x:=by rfl)(oj:(x==("__debug__" :Str))=false:=by decide)
  (he:starEach (e::es) X.env=(false,eval e X.env)::starEach es X.env:=by rfl)(hpl:(backTo pos (starEach es X.env)).any (·.1)=false:=by rfl):DO X κ (.Call (.Name x p) (e::es) [] pos) (aN F fs):=by
 obtain⟨ta,h1,h2⟩:=ha
 refine⟨_,jh FO hr hg hm hk hb .nil jW h1 oj he hpl,λ{G A bo own ρ σ H p Q} r e q=>?_⟩
 obtain⟨xs,e1,e2⟩:=zn.mp e
 refine h2 r e1 λvs H1 s1 z1=>?_
 rw[ZL]
 exact⟨dG A own ρ,xs,p,λb hb=>(r.mono s1).xV hb,z1,e2,λv H' s z=>q v H' (s1.trans s) (Pn z s1 λb w=>w)⟩
theorem Ha(FO:aL X.prog X.w X.K X.mg X.base cP k f fd ps (d5 X.K κ false F))(hr:cg k X.A)(hm:X.mg x=some (.ref f))(hk:PySem.W.keepIn X.K (.ref f)=true)(hb:Binds X.K fd ps [])(ha:Sb X κ (e::es) fs)(hg:Gl X x:=by rfl)(oj:(x==("__debug__" :Str))=false:=by decide)
  (he:starEach (e::es) X.env=(false,eval e X.env)::starEach es X.env:=by rfl)(hpl:(backTo pos (starEach es X.env)).any (·.1)=false:=by rfl):DE X κ (.Call (.Name x p) (e::es) [] pos) (xQ F fs):=by
 obtain⟨ta,h1,h2⟩:=ha
 refine⟨_,jh FO hr hg hm hk hb .nil jW h1 oj he hpl,λ{G A bo own ρ σ H p Q} r e q=>?_⟩
 obtain⟨xs,e1,e2⟩:=zn.mp e
 obtain⟨p',e3,e4⟩:=zn.mp e2
 obtain⟨h3,rfl⟩:=bj e4
 refine h2 r e1 λvs H1 s1 z1=>?_
 rw[ZL]
 have z2:aV X.K κ (hide (λ_=>False) H1) vs xs:=(z1.full ay).mono λb o w=>by rw[c7 (λz=>z)];exact w
 exact⟨λ_=>False,xs,p',λb hb=>hb.elim,z2,e3,λv H' s z=>q v H' (s1.trans s) (Rep.flat h3 z)⟩
end
section
variable{P:Program}{w:World}{K:PySem.W.Frag}{mg:Str->Option Value}{base:Heap}{κ:Kl}{fr:Bool}
theorem oN{n:Nat}{ps:List PV}{i:Nat}{s:Slot}(h:(gE n ps)[i]?=some s):(∃p,ps[i]?=some p/\s=.sh p)\/s=.un:=by
 unfold gE at h
 rw[List.getElem?_append]at h
 split at h
 ·rw[Zh]at h
  obtain⟨p,h1,h2⟩:=xz.mp h
  exact .inl ⟨p,h1,h2.symm⟩
 ·rw[XU]at h
  split at h
  ·exact .inr (ZO h).symm
  ·cases h
theorem R.entry{A:Addr->Prop}{H:Hp}{N:List Str}{vs:List V}{ps:List PV}(al:∀b,A b->H b≠none)(h:aV K κ (hide A H) vs ps):R K κ H A (λ_=>none) (λ_=>0) (gE N.length ps) (start N vs) H:=by
 have no:∀{i:Nat} {l:Cn},(gE N.length ps)[i]?≠some (.own l):=λ{i l} e=>by
  rcases oN e with⟨p,_,z⟩|z<;>cases z
 have he:dG A (λ_=>0) (gE N.length ps)=A:=by
  funext b
  refine propext ⟨λz=>?_,.inl⟩
  rcases z with z|⟨j,m,z1,z2⟩
  ·exact z
  ·exact absurd z1 no
 refine⟨al,λi a vs e=>(by cases e),λ_ _ z=>z,λi p e=>?_,λi l e=>absurd e no,λi j l m e=>absurd e no,λi l e=>?_,?_⟩
 ·rcases oN e with⟨p',h1,z⟩|z
  ·cases z
   obtain⟨v,h2,h3⟩:=h.get h1
   refine⟨v,?_,by rw[d7,he];exact h3⟩
   unfold start
   rw[YR (by rw[wE];exact(wS.mp h2).1),Zh,h2]
   rfl
  ·cases z
 ·rcases oN e with⟨p,_,z⟩|z<;>cases z
 ·unfold start gE
  simp[h.length]
theorem b5{x qual:Str}{st:Stmt}{f:Addr}{fd:FuncData}{N ps:List Str}{k:Nat}{g:aR}(F:Jr K x qual st f fd)(S:aT N ps (ao st))
  (hb:∀(cD:Value) (A:Around) (outer:List Env) (s:Shared) (H:Hp) (E:XK),cg k (A.deeper (envOfC qual (ao st) s.heap.objs.size f cD))->G5 (mB cP P w K mg base N qual (ao st) f cD A outer s H E).PR κ fr (ji st) g):
  aL P w K mg base cP (k+1) f fd ps (d5 K κ fr (fn fr N.length ps.length g)):=by
 refine F.ok S (λvs H Q E h=>?_) (λcD A outer s H vs Q E hr h=>?_)
 ·obtain⟨A,qs,p,_,h1,h2,_⟩:=h
  unfold fn at h2
  split at h2
  ·rw[h1.length]
   assumption
  ·cases h2
 ·obtain⟨A',qs,p,al,h1,h2,q⟩:=h
  obtain⟨ts,a1,a2⟩:=hb cD A outer s H E hr
  refine⟨ts,a1,?_⟩
  have h3:(g (gE N.length qs)).bind (GV fr)=some p:=by
   unfold fn at h2
   split at h2
   ·exact h2
   ·cases h2
  obtain⟨fl,e1,e2⟩:=zn.mp h3
  refine a2 (R.entry al h1) e1 ?_
  cases fl with
  |rt p'=>cases e2;exact q
  |nx ρ'=>
   cases fr with
   |true=>cases e2
   |false=>
    cases e2
    exact λcx σ' H' r'=>q _ _ r'.same .non
  |bk ρ'=>cases e2
  |ct ρ'=>cases e2
end
end L2.D
namespace L2.D
open PySem PySem.Spec PyProof.Rows PySem.SeqAt
open Classical
section
variable{X:Cx}{pins:List (Addr×Obj)}{σ:St}{H:Hp}{s:Shared}{κ:Kl}
theorem mI{f:PV->PV->Option Bool}:∀{l m:List PV} {es:List Bool},oI f l m=some es->l.length=m.length->es.length=l.length
 |[],[],_,h,_=>by cases h;rfl
 |a::l,b::m,es,h,e=>by
  unfold oI at h
  obtain⟨c,h1,h2⟩:=zn.mp h
  obtain⟨cs,h3,rfl⟩:=xz.mp h2
  simp[mI h3 (by simpa using e)]
theorem p9{f:PV->PV->Option Bool}:∀{l m:List PV} {es:List Bool} {j:Nat} {p q:PV},oI f l m=some es->l[j]?=some p->m[j]?=some q->∃e,es[j]?=some e/\f p q=some e
 |[],_,_,_,_,_,_,hp,_=>by simp at hp
 |_::_,[],_,_,_,_,_,_,hq=>by simp at hq
 |a::l,b::m,es,0,p,q,h,hp,hq=>by
  unfold oI at h
  obtain⟨c,h1,h2⟩:=zn.mp h
  obtain⟨cs,h3,rfl⟩:=xz.mp h2
  simp at hp hq
  subst hp hq
  exact⟨c,rfl,h1⟩
 |a::l,b::m,es,j+1,p,q,h,hp,hq=>by
  unfold oI at h
  obtain⟨c,h1,h2⟩:=zn.mp h
  obtain⟨cs,h3,rfl⟩:=xz.mp h2
  obtain⟨e,h4,h5⟩:=p9 (j:=j) h3 (by simpa using hp) (by simpa using hq)
  exact⟨e,by simpa using h4,h5⟩
theorem Hb:∀(n:Nat) (p:PV) (b:Bool),kJ n p p=some b->b=true:=by
 intro n
 induction n with
 |zero=>
  intro p b h
  unfold kJ at h
  cases p<;>simp[flat,Ju]at h<;>exact h
 |succ n ih=>
  have key:∀(l:List PV) (es:List Bool),oI (kJ n) l l=some es->es.all id=true:=by
   intro l
   induction l with
   |nil=>intro es h;cases h;rfl
   |cons a l V5=>
    intro es h
    unfold oI at h
    obtain⟨c,h1,h2⟩:=zn.mp h
    obtain⟨cs,h3,rfl⟩:=xz.mp h2
    simp[ih _ _ h1,V5 _ h3]
  intro p b h
  cases p with
  |lst l=>
   unfold kJ FQ at h
   rw[if_pos rfl]at h
   obtain⟨es,h1,rfl⟩:=xz.mp h
   exact key l es h1
  |tup l=>
   unfold kJ FQ at h
   rw[if_pos rfl,if_pos rfl]at h
   obtain⟨es,h1,rfl⟩:=xz.mp h
   exact key l es h1
  |_=>simp[kJ,flat,Ju]at h<;>exact h
theorem zQ(I:Inv X pins σ H s){a:Addr}{xs ys:List V}(h:mj X.K H a xs)(h':kC X.K H a ys):False:=by
 obtain⟨_,_,p1,_⟩:=I.list h
 obtain⟨_,_,p2,_⟩:=I.tuple h'
 obtain⟨o,e1,c1,_⟩:=p1.isList
 obtain⟨o2,e2,c2,_⟩:=p2
 rw[e1]at e2
 cases e2
 rw[c1]at c2
 injection c2 with z
 exact absurd z (by decide)
mutual
theorem Rep.inj(I:Inv X pins σ H s):∀{v:V} {p q:PV},Rep X.K κ H v p->Rep X.K κ H v q->(∀n b,kJ n p q=some b->p=q)
 |_,_,_,.non,.non=>λ_ _ _=>rfl
 |_,_,_,.bl _,.bl _=>λ_ _ _=>rfl
 |_,_,_,.int _,.int _=>λ_ _ _=>rfl
 |_,_,_,.str _,.str _=>λ_ _ _=>rfl
 |_,_,_,.lst h r,q=>λn b e=>by
  cases q with
  |lst h' r'=>
   have:=I.tZ h.sq h'.sq
   subst this
   cases n with
   |zero=>simp[kJ,flat]at e
   |succ n=>
    unfold kJ FQ at e
    split at e
    ·obtain⟨es,e1,_⟩:=xz.mp e
     rw[aV.inj I r r' n es e1]
    ·rename_i hl
     exact absurd (r.length.symm.trans r'.length) hl
  |tup h' _=>exact(zQ I h.sq h').elim
  |ins _ _ _=>cases n<;>simp[kJ,flat]at e
 |_,_,_,.tup h r,q=>λn b e=>by
  cases q with
  |lst h' _=>exact(zQ I h'.sq h).elim
  |tup h' r'=>
   have:=I.v9 h h'
   subst this
   cases n with
   |zero=>simp[kJ,flat]at e
   |succ n=>
    unfold kJ FQ at e
    have hl:=r.length.symm.trans r'.length
    rw[if_pos hl,if_pos hl]at e
    obtain⟨es,e1,_⟩:=xz.mp e
    rw[aV.inj I r r' n es e1]
  |ins _ _ _=>cases n<;>simp[kJ,flat]at e
 |_,_,_,.ins _ _ _,q=>λn b e=>by
  cases n<;>cases q<;>simp[kJ,flat]at e
theorem aV.inj(I:Inv X pins σ H s):∀{vs:List V} {l m:List PV},aV X.K κ H vs l->aV X.K κ H vs m->∀n es,oI (kJ n) l m=some es->l=m
 |_,_,_,.nil,.nil=>λ_ _ _=>rfl
 |_,_,_,.cons r t,.cons r' t'=>λn es e=>by
  unfold oI at e
  obtain⟨c,h1,h2⟩:=zn.mp e
  obtain⟨cs,h3,rfl⟩:=xz.mp h2
  rw[Rep.inj I r r' n c h1,aV.inj I t t' n cs h3]
end
theorem qa{es:List Bool}{n:Nat}(h:es.length=n):((List.range n).all λj=>es.getD j false)=es.all id:=by
 subst h
 exact range_all es
theorem zR{A:Around}{a b:Addr}{xs ys:List V}(I:Inv X pins σ H s)(ha:kC X.K H a xs)(hb:kC X.K H b ys)(hl:xs.length=ys.length)(hu:A.units<cLine)(q:Nat->Bool)
  (hq:∀(j:Nat) x y u v,xs[j]?=some x->ys[j]?=some y->RelV x u->RelV y v->EqAt A.in1 s u v (q j)):RcAt A s (.ref a) (.ref b) ((List.range xs.length).all q):=by
 obtain⟨its,r1,p1,z1⟩:=I.tuple ha
 obtain⟨mq,r2,p2,z2⟩:=I.tuple hb
 have l1:=r1.length
 have l2:=r2.length
 have:=RcAt.tuples (A:=A) (s:=s) (e:=q) (l:=a) (b:=b) p1 p2 hu λj h1 h2=>?_
 ·rw[wP,wP,<-l1,<-l2,<-hl,Nat.min_self,beq_self_eq_true,X5]at this
  exact this
 ·rw[wP]at h1 h2
  obtain⟨x,hx⟩:∃x,xs[j]?=some x:=⟨xs[j],wn (by omega)⟩
  obtain⟨y,hy⟩:∃y,ys[j]?=some y:=⟨ys[j],wn (by omega)⟩
  obtain⟨u,e1,ru⟩:=r1.get hx
  obtain⟨v,e2,rv⟩:=r2.get hy
  have f1:its.toArray[j]=u:=by
   have:=(wS.mp e1).2
   simpa using this
  have f2:mq.toArray[j]=v:=by
   have:=(wS.mp e2).2
   simpa using this
  rw[f1,f2]
  exact hq j x y u v hx hy ru rv
theorem DH{A:Around}{v w:V}{u u':Value}{p q:PV}(f:(flat p&&flat q)=true)(r1:Rep X.K κ H v p)(r2:Rep X.K κ H w q)(e1:RelV v u)(e2:RelV w u'):EqAt A s u u' (Ju p q):=by
 rw[re]at f
 have hv:jx v=true:=by cases r1<;>simp_all[flat,jx]
 have hw:jx w=true:=by cases r2<;>simp_all[flat,jx]
 have:Ju p q=FN v w:=by cases r1<;>cases r2<;>simp_all[flat,Ju,FN]
 rw[this]
 exact Gr e1 e2 hv hw
theorem zS(I:Inv X pins σ H s):∀(n:Nat) {p q:PV} {v w:V} {u u':Value} {A:Around} {b:Bool},A.units+n<cLine->Rep X.K κ H v p->Rep X.K κ H w q->RelV v u->RelV w u'->kJ n p q=some b->EqAt A s u u' b:=by
 intro n
 induction n with
 |zero=>
  intro p q v w u u' A b hu r1 r2 e1 e2 h
  unfold kJ at h
  obtain⟨h1,rfl⟩:=bj h
  exact DH h1 r1 r2 e1 e2
 |succ n ih=>
  intro p q v w u u' A b hu r1 r2 e1 e2 h
  have QX:A.in1.units+n<cLine:=by
   have:A.in1.units=A.units+1:=rfl
   omega
  by_cases hf:(flat p&&flat q)=true
  ·have:kJ (n+1) p q=some (Ju p q):=by
     cases p<;>cases q<;>simp_all[kJ,flat]
   rw[this]at h
   cases h
   exact DH hf r1 r2 e1 e2
  ·by_cases hvw:v=w
   ·subst hvw
    have V6:=Rep.inj I r1 r2 _ _ h
    subst V6
    have hb:=Hb _ _ _ h
    subst hb
    cases r1 with
    |lst _ _=>cases e1;cases e2;exact EqAt.same _
    |tup _ _=>cases e1;cases e2;exact EqAt.same _
    |ins _ _ _=>cases e1;cases e2;exact EqAt.same _
    |_=>simp[flat]at hf
   ·have hr:∀{xs ys:List V} {l m:List PV} {es:List Bool},aV X.K κ H xs l->aV X.K κ H ys m->oI (kJ n) l m=some es->∀(j:Nat) x y u v,xs[j]?=some x->ys[j]?=some y->RelV x u->RelV y v->EqAt A.in1 s u v (es.getD j false):=by
      intro xs ys l m es w1 w2 he j x y u v hx hy ru rv
      obtain⟨p1,g1,g2⟩:=w1.BH hx
      obtain⟨p2,g3,g4⟩:=w2.BH hy
      obtain⟨e,g5,g6⟩:=p9 he g1 g3
      rw[ZQ,g5]
      exact ih QX g2 g4 ru rv g6
    cases r1 with
    |@lst a vs l h1 w1=>
     cases q with
     |lst m=>
      cases r2 with
      |@lst b' V7 _ h2 w2=>
       cases e1
       cases e2
       refine EqAt.of_refs (λz=>hvw (by rw[z])) ?_
       unfold kJ FQ at h
       split at h
       ·rename_i hl
        obtain⟨es,g1,rfl⟩:=xz.mp h
        have g2:=mI g1 hl
        have:=uB I h1.sq h2.sq (A:=A) (by omega) (λj=>es.getD j false) (hr w1 w2 g1)
        rw[decide_eq_true (by rw[w1.length,w2.length];exact hl),Ye,qa (by rw[w1.length];exact g2)]at this
        exact this
       ·rename_i hl
        cases h
        obtain⟨its,k1,p1,z1⟩:=I.list h1.sq
        obtain⟨mq,k2,p2,z2⟩:=I.list h2.sq
        have l1:=k1.length
        have l2:=k2.length
        have l3:=w1.length
        have l4:=w2.length
        exact RcAt.lists_lengths p1.isList p2.isList (by rw[wP,wP];simp;omega) (by omega)
     |_=>cases r2<;>simp[kJ,flat]at h
    |@tup a vs l h1 w1=>
     cases q with
     |tup m=>
      cases r2 with
      |@tup b' V7 _ h2 w2=>
       cases e1
       cases e2
       refine EqAt.of_refs (λz=>hvw (by rw[z])) ?_
       unfold kJ FQ at h
       split at h
       ·rename_i hl
        try rw[if_pos hl]at h
        obtain⟨es,g1,rfl⟩:=xz.mp h
        have g2:=mI g1 hl
        have:=zR I h1 h2 (A:=A) (by rw[w1.length,w2.length];exact hl) (by omega) (λj=>es.getD j false) (hr w1 w2 g1)
        rw[qa (by rw[w1.length];exact g2)]at this
        exact this
       ·cases h
     |_=>cases r2<;>simp[kJ,flat]at h
    |ins _ _ _=>cases q<;>simp[kJ,flat]at h
    |_=>cases r2<;>simp[kJ,flat]at h hf
end
end L2.D
namespace L2.D
open PySem PySem.Spec PyProof.Rows PySem.SeqAt
open Classical
section
variable{X:Cx}{κ:Kl}{fr:Bool}{e a b c:Expr}{f fa fb fc:Den}{p pos:Pos}
def TR(K:PySem.W.Frag)(κ:Kl)(neg:Bool):R2:=λx y H Q=>∃p q b,Rep K κ H x p/\Rep K κ H y q/\eqT p q=some b/\Q (.bl (if neg then !b else b)) H
theorem zT{pins:List (Addr×Obj)}{σ:St}{H:Hp}{s:Shared}{A:Around}{a b:Addr}{vs ws:List V}{l m:List PV}{r:Bool}(I:Inv X pins σ H s)(hu:A.units+20<cLine)(h1:SL X.K H a vs)(w1:aV X.K κ H vs l)(h2:SL X.K H b ws)(w2:aV X.K κ H ws m)
  (h:kJ 20 (.lst l) (.lst m)=some r):RcAt A s (.ref a) (.ref b) r/\RcNeAt A s (.ref a) (.ref b) (!r):=by
 unfold kJ FQ at h
 have QX:A.in1.units+19<cLine:=by
  have:A.in1.units=A.units+1:=rfl
  omega
 split at h
 ·rename_i hl
  obtain⟨es,g1,rfl⟩:=xz.mp h
  have g2:=mI g1 hl
  have hr:∀(j:Nat) x y u v,vs[j]?=some x->ws[j]?=some y->RelV x u->RelV y v->EqAt A.in1 s u v (es.getD j false):=by
   intro j x y u v hx hy ru rv
   obtain⟨p1,k1,k2⟩:=w1.BH hx
   obtain⟨p2,k3,k4⟩:=w2.BH hy
   obtain⟨e,k5,k6⟩:=p9 g1 k1 k3
   rw[ZQ,k5]
   exact zS I 19 QX k2 k4 ru rv k6
  have z1:=uB I h1.sq h2.sq (A:=A) (by omega) (λj=>es.getD j false) hr
  have z2:=BA I h1.sq h2.sq (A:=A) (by omega) (λj=>es.getD j false) hr
  rw[decide_eq_true (by rw[w1.length,w2.length];exact hl),Ye,qa (by rw[w1.length];exact g2)]at z1 z2
  exact⟨z1,z2⟩
 ·rename_i hl
  cases h
  obtain⟨its,k1,p1,z1⟩:=I.list h1.sq
  obtain⟨mq,k2,p2,z2⟩:=I.list h2.sq
  have l1:=k1.length
  have l2:=k2.length
  have l3:=w1.length
  have l4:=w2.length
  exact⟨RcAt.lists_lengths p1.isList p2.isList (by rw[wP,wP];simp;omega) (by omega),RcNeAt.lists_lengths p1.isList p2.isList (by rw[wP,wP];simp;omega) (by omega)⟩
theorem Ku{pins:List (Addr×Obj)}{σ:St}{H:Hp}{s:Shared}{A:Around}{a b:Addr}{vs ws:List V}{l m:List PV}{r:Bool}(I:Inv X pins σ H s)(hu:A.units+20<cLine)(h1:kC X.K H a vs)(w1:aV X.K κ H vs l)(h2:kC X.K H b ws)(w2:aV X.K κ H ws m)
  (h:kJ 20 (.tup l) (.tup m)=some r):RcAt A s (.ref a) (.ref b) r:=by
 unfold kJ FQ at h
 have QX:A.in1.units+19<cLine:=by
  have:A.in1.units=A.units+1:=rfl
  omega
 split at h
 ·rename_i hl
  try rw[if_pos hl]at h
  obtain⟨es,g1,rfl⟩:=xz.mp h
  have g2:=mI g1 hl
  have hr:∀(j:Nat) x y u v,vs[j]?=some x->ws[j]?=some y->RelV x u->RelV y v->EqAt A.in1 s u v (es.getD j false):=by
   intro j x y u v hx hy ru rv
   obtain⟨p1,k1,k2⟩:=w1.BH hx
   obtain⟨p2,k3,k4⟩:=w2.BH hy
   obtain⟨e,k5,k6⟩:=p9 g1 k1 k3
   rw[ZQ,k5]
   exact zS I 19 QX k2 k4 ru rv k6
  have z1:=zR I h1 h2 (A:=A) (by rw[w1.length,w2.length];exact hl) (by omega) (λj=>es.getD j false) hr
  rw[qa (by rw[w1.length];exact g2)]at z1
  exact z1
 ·cases h
theorem NY(hu:X.A.units+20<cLine):mn X (compareOp .Eq) (TR X.K κ false):=by
 intro pins s σ H x y v u Q I rx ry h
 obtain⟨p,q,r,r1,r2,e,k⟩:=h
 cases p<;>cases q<;>first|cases e|skip
 all_goals first
  |(cases r1 with
   |lst h1 w1=>cases r2 with
    |lst h2 w2=>
     cases rx;cases ry
     exact(zT I hu h1 w1 h2 w2 e).1 _ _ _ _ ⟨.bl r,H,I,rfl,k⟩)
  |(cases r1 with
   |tup h1 w1=>cases r2 with
    |tup h2 w2=>
     cases rx;cases ry
     exact Ku I hu h1 w1 h2 w2 e _ _ _ _ ⟨.bl r,H,I,rfl,k⟩)
  |(cases r1;cases r2;exact P8 pins s σ H _ _ v u Q I rx ry ⟨rfl,by simpa using k⟩)
theorem NZ(hu:X.A.units+20<cLine):mn X (compareOp .NotEq) (λx y H Q=>∃p q b,Rep X.K κ H x p/\Rep X.K κ H y q/\(∀l,p≠.tup l)/\eqT p q=some b/\Q (.bl (!b)) H):=by
 intro pins s σ H x y v u Q I rx ry h
 obtain⟨p,q,r,r1,r2,nt,e,k⟩:=h
 cases p<;>cases q<;>first|cases e|skip
 all_goals first
  |exact absurd rfl (nt _)
  |(cases r1 with
   |lst h1 w1=>cases r2 with
    |lst h2 w2=>
     cases rx;cases ry
     exact(zT I hu h1 w1 h2 w2 e).2 _ _ _ _ ⟨.bl (!r),H,I,rfl,k⟩)
  |(cases r1;cases r2;exact P9 pins s σ H _ _ v u Q I rx ry ⟨rfl,by simpa using k⟩)
theorem QY{A:Around}(h:A.units+64<cLine):A.units+20<cLine:=by omega
theorem kP{k:Nat}(hr:cg k X.A)(ha:DB X κ a fa)(hb:DB X κ b fb):DC X κ .Eq a b (ag pW fa fb):=by
 obtain⟨ta,h1,h2⟩:=ha
 obtain⟨tb,h3,h4⟩:=hb
 refine⟨_,_,_,NY (κ:=κ) (QY hr.units),h1,h3,λ{G A bo own ρ σ H p Q} r e q=>?_⟩
 refine uL h2 h4 r e λx y p1 p2 H' s r' b1 b2 e'=>?_
 obtain⟨b,e1,rfl⟩:=xz.mp e'
 exact⟨p1,p2,b,b1.full ay,b2.full ay,e1,q _ H' s (.bl _)⟩
theorem sj{k:Nat}(hr:cg k X.A)(ha:DB X κ a fa)(hb:DB X κ b fb):DC X κ .NotEq a b (ag oq fa fb):=by
 obtain⟨ta,h1,h2⟩:=ha
 obtain⟨tb,h3,h4⟩:=hb
 refine⟨_,_,_,NZ (κ:=κ) (QY hr.units),h1,h3,λ{G A bo own ρ σ H p Q} r e q=>?_⟩
 refine uL h2 h4 r e λx y p1 p2 H' s r' b1 b2 e'=>?_
 have nt:∀l,p1≠.tup l:=λl z=>by rw[z]at e';cases e'
 have e2:U0 p1 p2=some p:=by cases p1<;>first|exact e'|exact absurd rfl (nt _)
 obtain⟨b,e1,rfl⟩:=xz.mp e2
 exact⟨p1,p2,b,b1.full ay,b2.full ay,nt,e1,q _ H' s (.bl _)⟩
theorem L9{K:PySem.W.Frag}{H:Hp}:∀{vs:List V} {l:List PV},aV K κ H vs l->l.all flat=true->vs.all jx=true
 |_,_,.nil,_=>rfl
 |_,_,.cons r t,h=>by
  rw[Yd,re]at h⊢
  refine⟨?_,L9 t h.2⟩
  cases r<;>simp_all[flat,jx]
theorem QZ{K:PySem.W.Frag}{H H':Hp}{v w:V}{p q:PV}(r1:Rep K κ H v p)(r2:Rep K κ H' w q)(f1:flat p=true)(f2:flat q=true):Ju p q=FN v w:=by
 cases r1<;>cases r2<;>simp_all[flat,Ju,FN]
theorem Ma{K:PySem.W.Frag}{H H':Hp}{v:V}{p:PV}(r:Rep K κ H v p)(f:flat p=true):∀{vs:List V} {l:List PV},aV K κ H' vs l->l.all flat=true->vN p l=R3 v vs
 |_,_,.nil,_=>rfl
 |_,_,.cons r1 t,h=>by
  rw[Yd,re]at h
  have ih:=Ma r f t h.2
  unfold vN R3 at ih⊢
  rw[Z5,Z5,ih,QZ r1 r h.1 f]
theorem DJ{neg:Bool}{K:PySem.W.Frag}{hH H':Hp}{x y:V}{p1 p2 p:PV}{Q:VK}(b1:BR K κ hH H' x p1)(b2:BR K κ hH H' y p2)(s:aE hH H')(e:(if neg then ik p1 p2 else QJ p1 p2)=some p)(q:∀b,p=.bl b->Q (.bl b) H'):R4 K neg x y H' Q:=by
 have go:∀(l:List PV) (vs:List V) (a:Addr),y=.ref a->(mj K H' a vs\/kC K H' a vs)->aV K κ hH vs l->(if(flat p1&&l.all flat)=true then some (PV.bl (if neg then !vN p1 l else vN p1 l))else none)=some p->R4 K neg x y H' Q:=by
  intro l vs a hy hs w e
  obtain⟨h1,h2⟩:=bj e
  rw[re]at h1
  have rx:=b1.full s
  refine⟨a,vs,hy,hs,?_,L9 w h1.2,?_⟩
  ·cases rx<;>simp_all[flat,jx]
  ·rw[Ma rx h1.1 w h1.2]at h2
   exact q _ h2.symm
 cases p2 with
 |lst l=>
  obtain⟨a,vs,rfl,q1,q2⟩:=b2.lst s
  exact go l vs a rfl (.inl q1.sq) q2 (by cases neg<;>exact e)
 |tup l=>
  obtain⟨a,vs,rfl,q1,q2⟩:=b2.tup s
  exact go l vs a rfl (.inr q1) q2 (by cases neg<;>exact e)
 |_=>cases neg<;>cases e
theorem Q0(ha:DB X κ a fa)(hb:DB X κ b fb):DC X κ .In a b (ag QJ fa fb):=by
 obtain⟨ta,h1,h2⟩:=ha
 obtain⟨tb,h3,h4⟩:=hb
 refine⟨_,_,_,Ez,h1,h3,λ{G A bo own ρ σ H p Q} r e q=>?_⟩
 refine uL h2 h4 r e λx y p1 p2 H' s r' b1 b2 e'=>?_
 exact DJ (neg:=false) b1 b2 ay e' λb z=>q _ H' s (by rw[z];exact .bl _)
theorem uP(ha:DB X κ a fa)(hb:DB X κ b fb):DC X κ .NotIn a b (ag ik fa fb):=by
 obtain⟨ta,h1,h2⟩:=ha
 obtain⟨tb,h3,h4⟩:=hb
 refine⟨_,_,_,xA,h1,h3,λ{G A bo own ρ σ H p Q} r e q=>?_⟩
 refine uL h2 h4 r e λx y p1 p2 H' s r' b1 b2 e'=>?_
 exact DJ (neg:=true) b1 b2 ay e' λb z=>q _ H' s (by rw[z];exact .bl _)
theorem dU(ha:DB X κ a fa)(hm:X.mg "len" =none)(hg:Gl X "len" :=by rfl)(hs:starEach [a] X.env=(false,eval a X.env)::starEach [] X.env:=by rfl):DE X κ (.Call (.Name "len" p) [a] [] pos) (bW cQ fa):=by
 obtain⟨ta,h1,h2⟩:=ha
 refine⟨_,iO (pP.or xB) hg hm PySem.boot_len (aI h1 bB hs) (he:=hs),λ{G A bo own ρ σ H p Q} r e q=>?_⟩
 obtain⟨p1,e1,e2⟩:=zn.mp e
 refine h2 r e1 λx H1 s1 b1=>?_
 cases p1<;>first|(cases e2;done)|skip
 ·obtain⟨z1,rfl⟩:=bj e2
  exact .inr ⟨_,by rw[b1.str],z1,q _ H1 s1 (.int _)⟩
 ·cases e2
  obtain⟨a,vs,rfl,q1,q2⟩:=b1.lst ay
  exact .inl ⟨a,vs,rfl,.inl q1.sq,q _ H1 s1 (by rw[q2.length];exact .int _)⟩
 ·cases e2
  obtain⟨a,vs,rfl,q1,q2⟩:=b1.tup ay
  exact .inl ⟨a,vs,rfl,.inr q1,q _ H1 s1 (by rw[q2.length];exact .int _)⟩
theorem DK{K:PySem.W.Frag}{H:Hp}:∀{vs:List V} {l:List PV} {bs:List Bool},aV K κ H vs l->bools l=some bs->vs=bs.map V.bl
 |_,_,_,.nil,h=>by cases h;rfl
 |_,p::_,_,.cons r t,h=>by
  cases p<;>first|(cases h;done)|skip
  obtain⟨cs,h1,rfl⟩:=xz.mp h
  rw[ZC,<-DK t h1,r.Pk]
theorem N1(ha:DB X κ a fa)(hm:X.mg "any" =none)(hg:Gl X "any" :=by rfl)(hc:X.calm=true:=by rfl)(hs:starEach [a] X.env=(false,eval a X.env)::starEach [] X.env:=by rfl):DE X κ (.Call (.Name "any" p) [a] [] pos) (bW Kg fa):=by
 obtain⟨ta,h1,h2⟩:=ha
 refine⟨_,iO (zC hc) hg hm PyProof.Rows.boot_any (aI h1 bB hs) (he:=hs),λ{G A bo own ρ σ H p Q} r e q=>?_⟩
 obtain⟨p1,e1,e2⟩:=zn.mp e
 refine h2 r e1 λx H1 s1 b1=>?_
 cases p1<;>first|(cases e2;done)|skip
 obtain⟨bs,e3,rfl⟩:=xz.mp e2
 obtain⟨a,vs,rfl,q1,q2⟩:=b1.lst ay
 rw[DK q2 e3]at q1
 exact⟨a,bs,rfl,q1.sq,q _ H1 s1 (.bl _)⟩
theorem Kv{apos eJ:Pos}(ha:DB X κ a fa)(gq:attributeBase a "bit_length" X.env (eval a X.env)=eval a X.env:=by rfl)(gr:(apos.endLine==eJ.line)=true:=by rfl):DE X κ (.Call (.Attribute a "bit_length" apos) [] [] eJ) (bW GS fa):=by
 obtain⟨ta,h1,h2⟩:=ha
 refine⟨_,Gw PySem.F.plainAttrs_int PySem.F.slot_int_bit_length PySem.F.type_int_bit_length Ke h1 gq gr,λ{G A bo own ρ σ H p Q} r e q=>?_⟩
 obtain⟨p1,e1,e2⟩:=zn.mp e
 refine h2 r e1 λx H1 s1 b1=>?_
 cases p1<;>first|(cases e2;done)|skip
 cases e2
 have:=b1.int
 subst this
 exact⟨rfl,_,rfl,rfl,q _ H1 s1 (.int _)⟩
theorem aV.at{K:PySem.W.Frag}{H:Hp}{vs:List V}{l:List PV}{i:Int}{p:PV}(h:aV K κ H vs l)(e:itemAt l i=some p):∃v,Nf vs i=some v/\Rep K κ H v p:=by
 obtain⟨j,e1,e2⟩:=zn.mp e
 obtain⟨v,h1,h2⟩:=h.get e2
 refine⟨v,?_,h2⟩
 unfold Nf
 rw[h.length]
 exact zn.mpr ⟨j,e1,h1⟩
theorem eF(ha:DB X κ a fa)(hb:DB X κ b fb)(hs:C9 b:=by intro _ _;rfl):DE X κ (.Subscript a b pos) (ag jA fa fb):=by
 obtain⟨ta,h1,h2⟩:=ha
 obtain⟨tb,h3,h4⟩:=hb
 refine⟨_,Qm Ni h1 h3 hs,λ{G A bo own ρ σ H p Q} r e q=>?_⟩
 refine uL h2 h4 r e λx y p1 p2 H' s r' b1 b2 e'=>?_
 (cases p1<;>first|(cases e';done)|skip)<;>cases p2<;>first|(cases e';done)|skip
 ·rename_i x' i'
  have e3:(if x'.length<=sizeLine then(itemAt x'.cps.toList i').map λc=>PV.str ⟨#[c]⟩else none)=some p:=e'
  have z1:x'.length<=sizeLine:=by
   by_cases z:x'.length<=sizeLine
   ·exact z
   ·rw[if_neg z]at e3
    cases e3
  have z2:((itemAt x'.cps.toList i').map λc=>PV.str ⟨#[c]⟩)=some p:=by
   rw[if_pos z1]at e3
   exact e3
  obtain⟨c,e2,rfl⟩:=xz.mp z2
  exact .inr (.inr ⟨_,_,c,b1.str,b2.int,z1,e2,q _ H' s (.str _)⟩)
 ·obtain⟨a,vs,rfl,q1,q2⟩:=b1.lst ay
  obtain⟨v,z1,z2⟩:=q2.at e'
  exact .inl ⟨a,vs,_,v,rfl,b2.int,q1.sq,z1,q _ H' s z2⟩
 ·obtain⟨a,vs,rfl,q1,q2⟩:=b1.tup ay
  obtain⟨v,z1,z2⟩:=q2.at e'
  exact .inr (.inl ⟨a,vs,_,v,rfl,b2.int,q1,z1,q _ H' s z2⟩)
def DP(X:Cx)(κ:Kl)(e:Option Expr)(f:sY):Prop:=∃to,PO X e to/\∀{G A bo own ρ σ H o Q},R X.K κ G A bo own ρ σ H->f ρ=some o->(∀H',aE H H'->Q o H')->to σ H Q
theorem fO:DP X κ none fw:=⟨_,JY,λ{G A bo own ρ σ H o Q} r e q=>by cases e;exact q H (aE.refl _)⟩
theorem dI(ha:DB X κ a fa):DP X κ (some a) (cL fa):=by
 obtain⟨ta,h1,h2⟩:=ha
 refine⟨_,JZ h1,λ{G A bo own ρ σ H o Q} r e q=>?_⟩
 obtain⟨p,e1,e2⟩:=zn.mp e
 obtain⟨i,e3,rfl⟩:=xz.mp e2
 refine h2 r e1 λx H1 s1 b1=>?_
 cases p<;>first|(cases e3;done)|skip
 cases e3
 exact⟨_,b1.int,q H1 s1⟩
theorem aV.cut{K:PySem.W.Frag}{H:Hp}{vs:List V}{l:List PV}(h:aV K κ H vs l)(lo hi:Option Int):aV K κ H (zi vs lo hi) (jU l lo hi):=by
 have e:∀n d o,HT.iX n d o=mr n d o:=λn d o=>by cases o<;>rfl
 unfold zi jU
 rw[h.length,e,e]
 exact(h.drop _).take _
theorem iP{p2:Pos}{lo hi:Option Expr}{fl fh:sY}(ha:DB X κ a fa)(hl:DP X κ lo fl)(hh:DP X κ hi fh):DO X κ (.Subscript a (.Slice lo hi none p2) pos) (wA fa fl fh):=by
 obtain⟨ta,h1,h2⟩:=ha
 obtain⟨tl,h3,h4⟩:=hl
 obtain⟨th,h5,h6⟩:=hh
 refine⟨_,uj Dc h1 h3 h5,λ{G A bo own ρ σ H p Q} r e q=>?_⟩
 obtain⟨p1,e1,e2⟩:=zn.mp e
 obtain⟨o1,e3,e4⟩:=zn.mp e2
 obtain⟨o2,e5,e6⟩:=zn.mp e4
 refine h2 r e1 λx H1 s1 b1=>h4 (r.mono s1) e3 λH2 s2=>h6 ((r.mono s1).mono s2) e5 λH3 s3=>?_
 cases p1<;>first|(cases e6;done)|skip
 cases e6
 have Hc:=(s1.trans s2).trans s3
 obtain⟨a,vs,rfl,q1,q2⟩:=(b1.Dx (s2.trans s3)).lst ay
 refine⟨a,vs,rfl,q1.sq,λn hn=>q _ _ (Hc.trans (bD hn)) ?_⟩
 obtain⟨a,ws,l,w1,w2,w3,w4⟩:=(r.mono Hc).xW hn (q2.cut o1 o2)
 refine⟨a,ws,l,w1,w2,?_,w4⟩
 cases w1
 exact Hc.free hn
def Q1:Nat->String
 |0=> "int"
 |1=> "bool"
 |2=> "str"
 |3=> "list"
 |4=> "tuple"
 |_=> "NoneType"
theorem N2(K:PySem.W.Frag):∀j,j<6->∀k,k<5->PySem.W.kitOne K (.type (Q1 j)) (.type (Q1 k))=some (j==k||(k==0&&j==1)):=by
 intro j hj k hk
 rcases j with _|_|_|_|_|_|j<;>first|omega|(rcases k with _|_|_|_|_|k<;>first|omega|rfl)
theorem zU(k:Nat)(hk:k<5):jw X (.builtin "isinstance") (λxs H Q=>∃x p,xs=[x,.ty (Q1 k)]/\Rep X.K κ H x p/\Dr p≠6/\Q (.bl (BE k p)) H):=by
 intro pins s σ H xs us Q I r h
 obtain⟨x,p,rfl,rp,h6,q⟩:=h
 obtain⟨u,c,rfl,ru,rc⟩:=vals2 r
 cases rc
 have fin:∀tk:Nat,EP X pins σ Q (.bool (BE k p)) {s with toks:=tk}:=λtk=>⟨.bl _,H,I.tok _,rfl,q⟩
 have Jx:=λj hj=>N2 X.K j hj k hk
 cases rp with
 |non=>cases ru;exact ZT PySem.W.kitx_none I.k8 True.intro (Jx 5 (by decide)) (λz=>nomatch z) fin
 |bl b=>cases ru;exact ZT PySem.W.kitx_bool I.k8 True.intro (Jx 1 (by decide)) (λz=>nomatch z) fin
 |int i=>obtain⟨t,rfl⟩:=ru;exact ZT PySem.W.kitx_int I.k8 True.intro (Jx 0 (by decide)) (λz=>nomatch z) fin
 |str i=>obtain⟨t,rfl⟩:=ru;exact ZT PySem.W.kitx_str I.k8 True.intro (Jx 2 (by decide)) (λz=>nomatch z) fin
 |lst h1 _=>
  cases ru
  obtain⟨_,_,pl,_⟩:=I.list h1.sq
  obtain⟨o,ho,hc,_⟩:=pl.isList
  exact ZT Y3 I.k8 ⟨o,ho,hc⟩ (Jx 3 (by decide)) (λz=>nomatch z) fin
 |tup h1 _=>
  cases ru
  obtain⟨_,_,pl,_⟩:=I.tuple h1
  obtain⟨o,ho,hc,_⟩:=pl
  exact ZT PySem.W.kitx_tuple I.k8 ⟨o,ho,hc⟩ (Jx 4 (by decide)) (λz=>nomatch z) fin
 |ins _ _ _=>exact absurd rfl h6
theorem wH{x:Str}{p2:Pos}(k:Nat)(hk:k<5)(hv:bootBuiltins x=some (.type (Q1 k)))(ha:DB X κ a fa)(hm:X.mg "isinstance" =none)(Kw:X.mg x=none)(hg:Gl X "isinstance")(Hd:Gl X x)(hn:x≠ "__name__")(hd:(x==("__debug__" :Str))=false)
  (hs:starEach [a,.Name x p2] X.env=(false,eval a X.env)::starEach [.Name x p2] X.env)(ze:starEach [.Name x p2] X.env=(false,eval (.Name x p2) X.env)::starEach [] X.env)(hpl:(backTo pos (starEach [.Name x p2] X.env)).any (·.1)=false):DE X κ (.Call (.Name "isinstance" p) [a,.Name x p2] [] pos) (bW (Pm k) fa):=by
 obtain⟨ta,h1,h2⟩:=ha
 refine⟨_,iO (zU (κ:=κ) k hk) hg hm PyProof.Rows.boot_isinstance (aI h1 (aI (CY Hd Kw hv (v:=.ty (Q1 k)) rfl hn hd) bB ze) hs) (he:=hs) (hpl:=hpl),λ{G A bo own ρ σ H p Q} r e q=>?_⟩
 obtain⟨p1,e1,e2⟩:=zn.mp e
 refine h2 r e1 λx H1 s1 b1=>?_
 unfold Pm at e2
 split at e2
 ·cases e2
 ·cases e2
  exact⟨_,p1,rfl,b1.full ay,by assumption,q _ H1 s1 (.bl _)⟩
end
def XG:Kl:=⟨λ_=>0,λ_=>[]⟩
theorem EM{P:Program}{w:World}{K:PySem.W.Frag}{mg mb:Str->Option Value}{CX:FK}{k:Nat}{fa a:Addr}{fd:FuncData}{x:Str}{sp:Sp}{s₁:Shared}{vs:List Value}{ns:List Int}
  (KX:K.In s₁.heap)(Jt:s₁.heap.Ns mainGlobals mg)(hb:s₁.heap.Ns builtinsNs mb)(TU:∀x:Str,x≠ "__name__" ->mb x=bootBuiltins x)(TV:s₁.heap.NoLimit)(hg:s₁.gens=#[])
  (ha:s₁.heap.get? a=some {cls:=.type "list",data:=.seq vs.toArray})(hi:IntsAre vs ns)(hl:ns.length<=sizeLine)(hr:cg k callerA)
  (F:∀base:Heap,K.In base->base.Ns mainGlobals mg->aL P w K mg base CX k fa fd [x] sp)(Q2:∀(s:Shared) (u:Value),BindsTo s fd ⟨[u],[]⟩ [(x,u)])
  (LO:∀H:Hp,Qv H->SL K H a (ns.map V.int)->sp [.ref a] H (λv _=>v=.bl true) λ_ _ _=>False)
  (V8:∀H e s',CX [] H s₁ (λ_ _ _=>False) e s'->False):
  codeAny (model P w) callerA (.call (.ref fa) ⟨[.ref a],[]⟩) (λr s'=>r=.ok (.ret (.bool true))/\OldK s₁.heap s'.heap/\s'.os=s₁.os/\AllBare s'.gens) s₁:=by
 have rv:=qX hi
 have TX:=hi.length
 have core:∀H:Hp,Qv H->SL K H a (ns.map V.int)->rW P w H s₁.heap->(∀b,H b≠none->b=a)->(H a≠none->K.lookup a=none)->
   codeAny (model P w) callerA (.call (.ref fa) ⟨[.ref a],[]⟩) (λr s'=>r=.ok (.ret (.bool true))/\OldK s₁.heap s'.heap/\s'.os=s₁.os/\AllBare s'.gens) s₁:=by
  intro H hO hS dE hA hK
  have DL:∀{b:Addr} {o:Obj},s₁.heap.get? b=some o->H b=none->(xp s₁.heap H).get? b=some o:=λe n=>FY e n
  have Qg:∀{b:Addr} {o:Obj} {es:Array DictEntry} {ep:Nat},s₁.heap.get? b=some o->o.data=.dict es ep->H b=none:=λ{b o es ep} e d=>by
   cases q:H b with
   |none=>rfl
   |some u=>
    have e':b=a:=hA b (by rw[q];simp)
    subst e'
    rw[ha]at e;cases e
    have d':Data.seq vs.toArray _=Data.dict es ep:=d
    cases d'
  have Sf:∀{b:Addr} {m:Str->Option Value},s₁.heap.Ns b m->(xp s₁.heap H).Ns b m:=λ{b m} ⟨o,es,ep,e,d,r⟩=>⟨o,es,ep,DL e (Qg e d),d,r⟩
  have U3:K.In (xp s₁.heap H):=λb o e=>DL (KX b o e) (by
   cases q:H b with
   |none=>rfl
   |some u=>
    have e':b=a:=hA b (by rw[q];simp)
    subst e'
    rw[hK (by rw[q];simp)]at e;cases e)
  have hM:Mod K mg (xp s₁.heap H):=⟨U3,Sf Jt,⟨mb,Sf hb,TU⟩,let⟨mc,h1,h2⟩:=TV;⟨mc,Sf h1,h2⟩⟩
  have e0:Bp P w K mg (xp s₁.heap H) callerA [] s₁ H:=⟨rfl,hM,λb o e=>JG e,X7 (En _ _),trivial,λb hb=>absurd (show b∈([]:List Addr)from hb) (by simp),dE,.of_eq hg⟩
  refine codeAny_mono ((F _ U3 (Sf Jt)).run callerA [] s₁ H ⟨[.ref a],[]⟩ [.ref a] [.ref a] _ _ hr e0 (Q2 s₁ (.ref a)) (.cons rfl .nil) (LO H hO hS)) λr s' h=>?_
  cases r with
  |error e=>exact(V8 H e s' h).elim
  |ok fl=>
   cases fl with
   |next=>exact False.elim h
   |brk=>exact False.elim h
   |cont=>exact False.elim h
   |ret u=>
    obtain⟨v,H',os,bare,un,TY,r',q⟩:=h
    have q':v=.bl true:=q
    subst q'
    obtain rfl:u=Value.bool true:=r'
    refine⟨rfl,OldK.of_keep λb o e=>?_,os,bare⟩
    cases q:H b with
    |none=>exact un.keep b o e q (by intro z;exact absurd (show b∈([]:List Addr)from z) (by simp)) (by simp)
    |some u=>
     rcases hO b with z|⟨ob,xs,z⟩
     ·rw[q]at z;cases z
     ·have z2:=un.kD b ob _ z
      obtain⟨e1,_⟩:=dE b _ z
      obtain⟨e2,_⟩:=TY b _ z2
      rw[e]at e1;cases e1
      exact e2
 cases hk:K.lookup a with
 |some o=>
  have e:=KX a o hk
  rw[ha]at e
  cases e
  refine core (λ_=>none) (λ_=>.inl rfl) (.inr ⟨vs,_,hk,by rw[TX];exact hl,rv⟩) (λb u z=>by have z':(none:Option HO)=some u:=z;cases z') (λb z=>absurd rfl z) λz=>absurd rfl z
 |none=>
  refine core (λb=>if b=a then some (.frz {cls:=.type "list",data:=.seq vs.toArray} (.lst (ns.map V.int)))else none) (λb=>?_) (.inl (.inr ⟨{cls:=.type "list",data:=.seq vs.toArray},if_pos rfl⟩)) (λb u z=>?_) (λb z=>?_) λ_=>hk
  ·by_cases hb:b=a
   ·exact .inr ⟨_,_,if_pos hb⟩
   ·exact .inl (if_neg hb)
  ·by_cases hb:b=a
   ·have z':=(if_pos hb).symm.trans z
    cases z'
    subst hb
    exact⟨ha,by rw[wE];exact hl,vs,_,rv,ha⟩
   ·have z':=(if_neg hb).symm.trans z
    cases z'
  ·by_cases hb:b=a
   ·exact hb
   ·exact absurd (if_neg hb) z
theorem ints_rep{K:PySem.W.Frag}{κ:Kl}{H:Hp}:∀ns:List Int,aV K κ H (ns.map V.int) (ns.map PV.int)
 |[]=>.nil
 |n::ns=>.cons (.int n) (ints_rep ns)
section
variable{X:Cx}{κ:Kl}{fr:Bool}{e a b c:Expr}{f fa fb fc:Den}{p pos:Pos}
theorem He{x:Str}{n:Int}(h:∃t,X.mg x=some (.int n t))(hg:Gl X x:=by rfl)(hd:(x==("__debug__" :Str))=false:=by decide):DE X κ (.Name x pos) (dC (.int n)):=by
 obtain⟨t,h⟩:=h
 exact⟨_,tq (v:=.int n) hg h ⟨t,rfl⟩ hd,λ{G A bo own ρ σ H p Q} r e q=>by cases e;exact q _ H (aE.refl _) (.int n)⟩
theorem uQ{p2:Pos}(ha:DB X κ a fa)(hm:X.mg "isinstance" =none)(Kw:X.mg "bool" =none)(hg:Gl X "isinstance" :=by rfl)(Hd:Gl X "bool" :=by rfl)(hs:starEach [a,.Name "bool" p2] X.env=(false,eval a X.env)::starEach [.Name "bool" p2] X.env:=by rfl)(ze:starEach [.Name "bool" p2] X.env=(false,eval (.Name "bool" p2) X.env)::starEach [] X.env:=by rfl)
 (hpl:(backTo pos (starEach [.Name "bool" p2] X.env)).any (·.1)=false:=by rfl):DE X κ (.Call (.Name "isinstance" p) [a,.Name "bool" p2] [] pos) (bW (Pm 1) fa):=wH 1 (by decide) PyProof.Rows.boot_bool ha hm Kw hg Hd (by decide) (by decide) hs ze hpl
theorem uR{p2:Pos}(ha:DB X κ a fa)(hm:X.mg "isinstance" =none)(Kw:X.mg "list" =none)(hg:Gl X "isinstance" :=by rfl)(Hd:Gl X "list" :=by rfl)(hs:starEach [a,.Name "list" p2] X.env=(false,eval a X.env)::starEach [.Name "list" p2] X.env:=by rfl)(ze:starEach [.Name "list" p2] X.env=(false,eval (.Name "list" p2) X.env)::starEach [] X.env:=by rfl)
 (hpl:(backTo pos (starEach [.Name "list" p2] X.env)).any (·.1)=false:=by rfl):DE X κ (.Call (.Name "isinstance" p) [a,.Name "list" p2] [] pos) (bW (Pm 3) fa):=wH 3 (by decide) PyProof.Rows.boot_list ha hm Kw hg Hd (by decide) (by decide) hs ze hpl
end
theorem x8:∀xs ys:List Int,zH xs ys=HT.lexLt xs ys
 |[],[]=>rfl
 |[],_::_=>rfl
 |_::_,[]=>rfl
 |x::xs,y::ys=>by
  rw[HT.oG,<-x8 xs ys]
  rfl
theorem x9{K:PySem.W.Frag}{κ:Kl}{H:Hp}:∀{vs:List V} {l:List PV} {ns:List Int},aV K κ H vs l->jf l=some ns->vs=ns.map V.int
 |_,_,_,.nil,h=>by cases h;rfl
 |_,p::_,_,.cons r t,h=>by
  cases p<;>first|(cases h;done)|skip
  obtain⟨cs,h1,rfl⟩:=xz.mp h
  rw[ZC,<-x9 t h1,r.QL]
theorem uS:∀xs:List Int,HT.lexLt xs xs=false
 |[]=>rfl
 |x::xs=>by rw[HT.oG,if_pos rfl,uS xs]
theorem yb{K:PySem.W.Frag}{κ:Kl}{H:Hp}{x:V}{i:Int}{l:List PV}{ns:List Int}(r:Rep K κ H x (.tup [.int i,.lst l]))(h:jf l=some ns):∃a la,x=.ref a/\kC K H a [.int i,.ref la]/\SL K H la (ns.map V.int):=by
 cases r with
 |tup q1 w=>
  cases w with
  |cons r1 w=>
   cases w with
   |cons r2 w=>
    cases w
    cases r1
    cases r2 with
    |lst q2 w2=>
     rw[x9 w2 h]at q2
     exact⟨_,_,rfl,q1,q2⟩
section
variable{prog:Program}{w:World}{A:Around}{E:Value->Shared->Prop}{s:Shared}
theorem EN(x y:Value)(b:Bool):keyLt' (tuples' b) x y=(do
 let xs<-Builtin.List.listItems x;let ys<-Builtin.List.listItems y
 for ((p,q),i)in(xs.toList.zip ys.toList).zipIdx do
  if !(<-eqBool p q)then return<-oneLt' (b&&i==0) p q
 return decide (xs.size<ys.size)):=rfl
theorem BN{a b:Addr}{u1 u2 w1 w2:Value}{e1 e2 r1 r2:Bool}{oa ob:Obj}{na nb:Nat}{Q:Bool->Shared->Prop}(ha:s.heap.get? a=some oa)(da:oa.data=.seq #[u1,u2] na)(hb:s.heap.get? b=some ob)(db:ob.data=.seq #[w1,w2] nb)
  (q1:EqAt A s u1 w1 e1)(q2:EqAt A s u2 w2 e2)(l1:e1=false->∀Q',Q' r1 s->wpAny (model prog w) A (oneLt' true u1 w1) Q' E s)(l2:e2=false->∀Q',Q' r2 s->wpAny (model prog w) A (oneLt' false u2 w2) Q' E s)
  (h:Q (if e1 then(if e2 then false else r2)else r1) s):wpAny (model prog w) A (keyLt' (tuples' true) (.ref a) (.ref b)) Q E s:=by
 rw[EN]
 refine wpAny_bind (listItems_at ha da ?_)
 refine wpAny_bind (listItems_at hb db ?_)
 simp only[Zo,List.zip_nil_right,List.zipIdx_cons,List.zipIdx_nil,List.forIn_cons,List.forIn_nil]
 cases e1 with
 |false=>
  refine wpAny_bind (wpAny_bind (wpAny_bind (q1 prog w E _ ?_)))
  refine wpAny_bind (l1 rfl _ ?_)
  exact wpAny_pure (wpAny_pure (wpAny_pure h))
 |true=>
  refine wpAny_bind (wpAny_bind (wpAny_bind (q1 prog w E _ ?_)))
  refine wpAny_pure ?_
  cases e2 with
  |false=>
   refine wpAny_bind (wpAny_bind (q2 prog w E _ ?_))
   refine wpAny_bind (l2 rfl _ ?_)
   exact wpAny_pure (wpAny_pure (wpAny_pure h))
  |true=>
   refine wpAny_bind (wpAny_bind (q2 prog w E _ ?_))
   refine wpAny_pure (wpAny_pure (wpAny_pure ?_))
   exact h
theorem zV{l m:Addr}{r:Bool}(h:QI A s (.ref l) (.ref m) r){Q:Bool->Shared->Prop}(q:Q r s):wpAny (model prog w) A (oneLt' false (.ref l) (.ref m)) Q E s:=by
 rw[oneLt'_eq]
 simp only[YA,if_false]
 exact wpAny_bind (h prog w E _ (wpAny_truthy_bool q))
theorem BO{a:Addr}{o:Obj}{u1 u2:Value}{n:Nat}{Q:Option Value->Shared->Prop}(ho:s.heap.get? a=some o)(hc:o.cls=.type "tuple")(hd:o.data=.seq #[u1,u2] n)(h:Q (some u1) s):wpAny (model prog w) A (firstOfTuple' (.ref a)) Q E s:=by
 show wpAny (model prog w) A (do
  if(<-typeOf (.ref a)) !=.type "tuple" then return none
  return(<-Builtin.List.listItems (.ref a))[0]?) Q E s
 refine wpAny_bind (wpAny_typeOf (T:= "tuple") ⟨o,ho,hc⟩ ?_)
 have ht:(Value.type "tuple" !=Value.type "tuple")=false:=by decide
 rw[ht]
 simp only[YA,if_false]
 exact wpAny_bind (listItems_at ho hd (wpAny_pure h))
def yc(h:Heap)(v:Value)(i:Int):Prop:=∃a o t u2 n,v=.ref a/\h.get? a=some o/\o.cls=.type "tuple" /\o.data=.seq #[.int i t,u2] n
theorem uT:∀(ks:List Value),(∀v∈ks,∃i,yc s.heap v i)->∀(Q:List (Option Value)->Shared->Prop),(∀fs,(∀f∈fs,∃i t,f=some (Value.int i t))->fs.length=ks.length->Q fs s)->wpAny (model prog w) A (ks.mapM firstOfTuple') Q E s
 |[],_,Q,h=>by
  rw[List.mapM_nil]
  exact wpAny_pure (h [] (by simp) rfl)
 |k::ks,hk,Q,h=>by
  obtain⟨i,a,o,t,u2,n,rfl,ho,hc,hd⟩:=hk k (wT ..)
  rw[List.mapM_cons]
  refine wpAny_bind (BO ho hc hd ?_)
  refine wpAny_bind (uT ks (λv hv=>hk v (wf _ hv)) _ λfs h1 h2=>wpAny_pure (h _ (λf hf=>?_) (by simp[h2])))
  rcases ZJ.mp hf with rfl|hf
  ·exact⟨i,t,rfl⟩
  ·exact h1 f hf
theorem vR{ks:List Value}(hk:∀v∈ks,∃i,yc s.heap v i)(GN:ks≠[]){Q:SortKind->Shared->Prop}(h:Q (tuples' true) s):wpAny (model prog w) A (keyKind' ks.toArray) Q E s:=by
 rw[keyKind'_eq,List.mapM_toArray]
 refine wpAny_bind ?_
 rw[map_eq_pure_bind]
 refine wpAny_bind (uT ks hk _ λfs h1 h2=>wpAny_pure ?_)
 have ha:(fs.toArray.all λx=>x.isSome)=true:=by
  rw[List.all_toArray,ZA]
  intro x hx
  obtain⟨i,t,rfl⟩:=h1 x hx
  rfl
 rw[if_pos ha]
 refine wpAny_bind (wpAny_rule ?_)
 obtain⟨vs,ns,ev,hi⟩:∃vs ns,fs.filterMap id=vs/\IntsAre vs ns/\vs.length=fs.length:=by
  clear ha h2
  induction fs with
  |nil=>exact⟨[],[],rfl,.nil,rfl⟩
  |cons f fs ih=>
   obtain⟨i,t,rfl⟩:=h1 f (wT ..)
   obtain⟨vs,ns,e,q,ql⟩:=ih λg hg=>h1 g (wf _ hg)
   exact⟨.int i t::vs,i::ns,by rw[ZZ,id,e],.cons i t q,by simp[ql]⟩
 obtain⟨hi,hl⟩:=hi
 have e1:fs.toArray.filterMap id=vs.toArray:=by
  rw[<-ev]
  simp
 rw[e1,oneTypeOnly'_eq,List.mapM_toArray,mapM_typeOf_ints hi]
 simp only[map_pure,pure_bind]
 cases vs with
 |nil=>
  exfalso
  rw[h2]at hl
  simp at hl
  exact GN (Yp hl.symm)
 |cons v vs=>
  have xD:((List.map (λ_=>Value.type "int") (v::vs)).toArray.all λx=>x==Value.type "int")=true:=by
   simp only[List.all_toArray,List.all_map,ZA]
   intro _ _
   rfl
  have h0:(List.map (λ_=>Value.type "int") (v::vs)).toArray[0]?=some (Value.type "int"):=by simp
  rw[h0]
  simp only[xD,if_true,pure_bind]
  exact wpAny_pure h
end
def EO(K:PySem.W.Frag)(κ:Kl)(H:Hp)(kI:Int->Int)(kL:Int->List Int)(p:Value×Value):Prop:=∃n t a,qN n=true/\p.2=.int n t/\p.1=.ref a/\Rep K κ H (.ref a) (.tup [.int (kI n),.lst ((kL n).map PV.int)])
def Mb(p:Value×Value):Nat:=jV (numOf p.2)
theorem jC:∀xs:List Int,jf (xs.map PV.int)=some xs
 |[]=>rfl
 |x::xs=>by
  rw[ZC]
  unfold jf
  rw[jC xs]
  rfl
theorem EO.pair{X:Cx}{pins:List (Addr×Obj)}{σ:St}{H:Hp}{s:Shared}{κ:Kl}{kI:Int->Int}{kL:Int->List Int}{p:Value×Value}(I:Inv X pins σ H s)(h:EO X.K κ H kI kL p):∃i,yc s.heap p.1 i:=by
 obtain⟨n,t,a,_,_,e,r⟩:=h
 obtain⟨a',la,z,q1,q2⟩:=yb r (jC _)
 cases z
 obtain⟨its,rv,p1,_⟩:=I.tuple q1
 obtain⟨u1,u2,rfl,g1,g2⟩:=rv.two
 obtain⟨t1,rfl⟩:=g1
 obtain⟨o,ho,hc,n',hd⟩:=p1
 exact⟨kI n,a,o,t1,u2,n',e,ho,hc,hd⟩
theorem ER{X:Cx}{pins:List (Addr×Obj)}{σ:St}{H:Hp}{s:Shared}{κ:Kl}{A:Around}{E:Value->Shared->Prop}{kI:Int->Int}{kL:Int->List Int}(I:Inv X pins σ H s)(hu:A.units+5<cLine)
  (ho:∀n m,qN n=true->qN m=true->(if kI n=kI m then zH (kL n) (kL m)else decide (kI n<kI m))=decide (jV n<jV m)):TS.zk X.prog X.w A E s (tuples' true) (EO X.K κ H kI kL) Mb:=by
 intro p q st Q hk ⟨n,t,a,V9,e1,e2,r1⟩ ⟨m,t',b,Wa,e3,e4,r2⟩ h
 rw[lt'_eq]
 refine wpS_bind (wpS_get ?_)
 rw[hk,e2,e4]
 obtain⟨a',la,z,q1,q2⟩:=yb r1 (jC _)
 cases z
 obtain⟨b',lb,z,q3,q4⟩:=yb r2 (jC _)
 cases z
 obtain⟨its,rv,p1,_⟩:=I.tuple q1
 obtain⟨mq,Sg,p2,_⟩:=I.tuple q3
 obtain⟨u1,u2,rfl,g1,g2⟩:=rv.two
 obtain⟨w1,w2,rfl,g3,g4⟩:=Sg.two
 obtain⟨t1,rfl⟩:=g1
 obtain⟨t2,rfl⟩:=g3
 cases g2
 cases g4
 obtain⟨oa,ha,ca,na,da⟩:=p1
 obtain⟨ob,hb,cb,nb,db⟩:=p2
 have U4:A.units<cLine:=by omega
 obtain⟨l1,v1,TZ,_⟩:=I.list q2.sq
 obtain⟨l2,v2,T4,_⟩:=I.list q4.sq
 refine wpS_bind (wpS_lift (wpAny_attempt (BN ha da hb db (e1:=decide (kI n=kI m)) (e2:=decide (kL n=kL m)) (r1:=decide (kI n<kI m)) (r2:=HT.lexLt (kL n) (kL m)) ?_ (EH I q2.sq q4.sq U4) (λ_ Q' hq=>oneLt_int hq)
  (λ_ Q' hq=>zV (BB TZ.isList T4.isList (by simpa using intsAre_of v1) (by simpa using intsAre_of v2) U4) hq) ⟨rfl,?_⟩)))
 ·rw[<-Bool.beq_eq_decide_eq]
  exact EqAt.int_int (kI n) t1 (kI m) t2
 ·refine wpS_pure ?_
  have z:=ho n m V9 Wa
  have e:(if decide (kI n=kI m)=true then(if decide (kL n=kL m)=true then false else HT.lexLt (kL n) (kL m))else decide (kI n<kI m))=decide (Mb p<Mb q):=by
   unfold Mb
   rw[e1,e3]
   show _=decide (jV n<jV m)
   rw[<-z]
   by_cases h1:kI n=kI m
   ·rw[decide_eq_true h1,if_pos rfl,if_pos h1]
    by_cases h2:kL n=kL m
    ·rw[h2,decide_eq_true rfl,if_pos rfl,x8,uS]
    ·rw[decide_eq_false h2,if_neg (by decide),x8]
   ·rw[decide_eq_false h1,if_neg (by decide),if_neg h1]
  rw[e]
  exact h
abbrev Si(X:Cx):Cx:={X with A:=X.A.in1.in1,xe:=λ_ _=>False}
section
variable{X:Cx}{pins rest:List (Addr×Obj)}{σ:St}{H:Hp}{s:Shared}{h':Heap}
theorem N3(ok:X.Ok):(Si X).Ok:=⟨ok.mod,ok.kind,ok.glob,ok.blt,ok.above,ok.inj,ok.has,ok.cab,ok.hd,ok.frames,ok.FI,ok.exf,ok.bs,ok.bsz,ok.noex,ok.exfs,ok.funs,ok.frf⟩
theorem Kx(I:Inv X pins σ H s):Inv (Si X) pins σ H s:=⟨N3 I.ok,I.os,I.bare,I.base,I.loc,I.cell,I.free,I.freeC,I.pin,I.dE,I.len⟩
theorem Hf(ok:X.Ok)(I:Inv (Si X) pins σ H s):Inv X pins σ H s:=⟨ok,I.os,I.bare,I.base,I.loc,I.cell,I.free,I.freeC,I.pin,I.dE,I.len⟩
theorem Hg{a:Addr}{o:Obj}(I:Inv X (pins++(a,o)::rest) σ H s)(GN:∀p∈X.pn++(pins++rest),p.1≠a)(ha:X.s₀.heap.objs.size<=a):
  s.heap.get? a=some o/\H a=none/\a≠X.env.locals/\a∉X.fs/\(∀v,o.data≠.cell v)/\(∀x c,X.env.cells.lookup x=some c->c≠a):=by
 obtain⟨h1,h2,h3,h4,h5⟩:=I.pin (a,o) (xL _ (xL _ (wT ..)))
 refine⟨h1,h2,h3,h4,h5,λx c e z=>?_⟩
 obtain⟨v,o',ho,hd⟩:=I.cell x c e
 rw[z,h1]at ho
 cases ho
 exact h5 v hd
theorem qb{a:Addr}{o o':Obj}{t':Nat}(I:Inv X (pins++(a,o)::rest) σ H s)(GN:∀p∈X.pn++(pins++rest),p.1≠a)(ha:X.s₀.heap.objs.size<=a)(hk:∀b u,b≠a->s.heap.get? b=some u->h'.get? b=some u)(hn:h'.get? a=some o')(hc:∀v,o'.data≠.cell v):
  Inv X (pins++(a,o')::rest) σ H {s with heap:=h',toks:=t'}:=by
 obtain⟨h1,h2,h3,h4,h5,h6⟩:=Hg I GN ha
 have I1:Inv X (pins++rest) σ H s:=I.fj λp hp=>I.pin p (xL _ (by
  rcases sK.mp hp with z|z
  ·exact ZF _ z
  ·exact xL _ (wf _ z)))
 have I2:Inv X (pins++rest) σ H {s with heap:=h',toks:=t'}:=I1.turned (it:=a) hk h2 h3 (.inr ha) h6 GN
 refine I2.fj λp hp=>?_
 rcases sK.mp hp with z|z
 ·exact I2.pin p (xL _ (ZF _ z))
 ·rcases ZJ.mp z with rfl|z
  ·exact⟨hn,h2,h3,h4,hc⟩
  ·exact I2.pin p (xL _ (xL _ z))
theorem DM{o:Obj}{t':Nat}(I:Inv X pins σ H s)(hc:∀v,o.data≠.cell v)(hk:∀b u,s.heap.get? b=some u->h'.get? b=some u){a:Addr}(ha:s.heap.objs.size<=a)(hn:h'.get? a=some o):Inv X (pins++[(a,o)]) σ H {s with heap:=h',toks:=t'}:=by
 have I1:Inv X pins σ H {s with heap:=h',toks:=t'}:=I.kept hk
 refine I1.fj λp hp=>?_
 rcases sK.mp hp with z|z
 ·exact I1.pin p (xL _ z)
 ·have e:p=(a,o):=by simpa using z
  subst e
  exact⟨hn,I.dE.fresh ha,X6 (wv I.lt ha),I.Eo ha,hc⟩
theorem DN(I:Inv X pins σ H s):∀p∈X.pn++pins,p.1<s.heap.objs.size:=λp hp=>ww (I.pin p hp).1
theorem ES{a:Addr}{its:List Value}{n:Nat}{xs:List V}(I:Inv X pins σ H s)(ho:s.heap.get? a=some {cls:=.type "list",data:=.seq its.toArray n})(hn:H a=none)(hL:a≠X.env.locals)(h1:X.s₀.heap.objs.size<=a)(h2:∀x c,X.env.cells.lookup x=some c->c≠a)
  (h3:∀p∈X.pn++pins,p.1≠a)(hv:Vals xs its)(hz:xs.length<=sizeLine):Inv X pins σ (upd H a (.lst xs)) s:=by
 have sm:aE H (upd H a (.lst xs)):=bD hn
 have:=I.step (h':=s.heap) (H':=upd H a (.lst xs)) (g':=s.gens) (d':=s.drawn) (t':=s.toks) (ch:=[a]) (λb hb=>?_) (λb o _ _ _ e _=>e) (λb o _ _ _ e _=>⟨o.slots,e⟩) (λb o hb e n=>?_) (λb o _ e=>⟨o,e⟩)
  (λb xs e=>sm _ _ e) (λb o u e=>sm _ _ e) (λb ps e=>⟨#[],by rw[sm _ _ e];simp⟩) (λm hm=>hm) (λb u e=>?_) I.bare
 ·exact this
 ·have e:b=a:=by simpa using hb
  subst e
  exact⟨.inr h1,hL,h2,h3⟩
 ·rw[aJ (by simpa using hb)]
  exact n
 ·by_cases hb:b=a
  ·subst hb
   rw[aW]at e
   cases e
   exact⟨hz,its,n,hv,ho⟩
  ·rw[aJ hb]at e
   exact(I.dE b u e).ke (λc v _ q=>q) (λc q=>sm _ _ q) λc ys q=>sm _ _ q
end
section
variable{X:Cx}{pins:List (Addr×Obj)}{σ:St}{H:Hp}{s:Shared}{κ:Kl}{D kS:Addr}{e1:Nat}{vs:List Value}{ns:List Int}{kI:Int->Int}{kL:Int->List Int}
def tK(X:Cx)(pins:List (Addr×Obj))(σ:St)(H:Hp)(D:Addr)(ns:List Int)(s':Shared):Prop:=
 ∃H' out c,aE H H'/\Inv X (pins++[(D,seqObj "list" out c)]) σ H' s'/\Vals ((gB jV ns).map V.int) out.toList
theorem Hh{xs:List (Value×Value)}(hi:IntsAre vs ns)(ok:∀n∈ns,qN n=true)(keys:List Value)(hl:keys.length=vs.length)(hp:xs.Perm (keys.zip vs))(hs:TS.Sd Mb xs):Vals ((gB jV ns).map V.int) (xs.map (·.2)):=by
 have p1:(xs.map (·.2)).Perm vs:=by
  have:=hp.map (·.2)
  rwa[List.map_snd_zip (by omega)]at this
 have allI:∀v∈xs.map (·.2),∃n t,v=Value.int n t:=λv hv=>by
  obtain⟨n,t,e⟩:=hi.all v (p1.mem_iff.mp hv)
  exact⟨n,t,e⟩
 have i1:=intsAre_map (xs.map (·.2)) allI
 have p2:((xs.map (·.2)).map numOf).Perm ns:=by
  have:=p1.map numOf
  rwa[hi.nums]at this
 have s1:((xs.map (·.2)).map numOf).Pairwise (λa b=>jV a<=jV b):=by
  rw[Zg,List.pairwise_map]
  exact hs
 have e:(xs.map (·.2)).map numOf=gB jV ns:=si (p2.trans (jr jV ns).symm) s1 (mG jV ns) λn hn=>ok n ((jr jV ns).mem_iff.mp hn)
 rw[<-e]
 exact qX i1
theorem wI{E:Value->Shared->Prop}{st:SortSt}{keys:Array Value}{e:Nat}(I:Inv X (pins++[(kS,seqObj "list" keys e),(D,seqObj "list" #[] e1)]) σ H s)(Mc:kS≠D)(np:∀p∈X.pn++pins,p.1≠kS/\p.1≠D)(aS:X.s₀.heap.objs.size<=kS)(aD:X.s₀.heap.objs.size<=D)
  (hi:IntsAre vs ns)(ok:∀n∈ns,qN n=true)(oh:keys.size=vs.length)(uU:vs.length<=5000)(hp:(arrOf st).Perm (keys.zip vs.toArray))(hs:TS.Sd Mb (arrOf st).toList)(hf:failedOf st=none){P:PySem.Fin->Shared->Prop}
  {H0:Hp}(sm:aE H0 H)(q:∀s',tK X pins σ H0 D ns s'->P (.done (.ret .none)) s'):wpAny (model X.prog X.w) X.A (ksk_tail D false e1 (.ref kS) st) P E s:=by
 have hk:=(I.pin (kS,seqObj "list" keys e) (xL _ (xL _ (wT ..)))).1
 have hd:=(I.pin (D,seqObj "list" #[] e1) (xL _ (xL _ (wf _ (wT ..))))).1
 have s1:=YQ s.heap kS (Obj.mapSeq λ_=>(#[]:Array Value))
 have nk:=get?_update_seq hk λ_=>(#[]:Array Value)
 have Pp:(s.heap.update kS (Obj.mapSeq λ_=>(#[]:Array Value))).get? D=some (seqObj "list" #[] e1):=(s1.2 D Mc.symm).trans hd
 have XH:(arrOf st).size=vs.length:=by rw[hp.size_eq,Array.size_zip,oh,wP,Nat.min_self]
 have zl:(5000:Nat)<=sizeLine:=by decide
 unfold ksk_tail
 refine wpAny_bind (listUpdate_at hk rfl ?_ (by omega) (ZI _))
 refine wpAny_bind (wpAny_letGo ?_)
 refine wpAny_bind (seqEpoch_at Pp rfl ?_)
 refine wpAny_bind (listUpdate_at Pp rfl ?_ (ZI _) (by
  simp only[YA,if_false,Array.size_map]
  omega))
 rw[hf]
 simp only[bne_self_eq_false,YA,if_false]
 refine wpAny_pure (q _ ?_)
 have I1:=qb (t':=s.toks) I (λp hp=>by
  rcases sK.mp hp with z|z
  ·exact(np p (ZF _ z)).1
  ·rcases sK.mp z with z|z
   ·exact(np p (xL _ z)).1
   ·have:p=(D,seqObj "list" #[] e1):=by simpa using z
    rw[this]
    exact Mc.symm) aS (λb u hb e=>(s1.2 b hb).trans e) nk (λv z=>by cases z)
 have I2:Inv X ([]++(D,seqObj "list" #[] e1)::pins) σ H {s with heap:=s.heap.update kS (Obj.mapSeq λ_=>(#[]:Array Value)),toks:=s.toks}:=I1.fj λp hp=>by
  rcases ZJ.mp hp with rfl|hp
  ·exact I1.pin _ (xL _ (xL _ (wf _ (wT ..))))
  ·exact I1.pin _ (xL _ (ZF _ hp))
 have s2:=YQ (s.heap.update kS (Obj.mapSeq λ_=>(#[]:Array Value))) D (Obj.mapSeq λ_=>(arrOf st).map (·.2))
 obtain⟨c2,nd⟩:∃c2,((s.heap.update kS (Obj.mapSeq λ_=>(#[]:Array Value))).update D (Obj.mapSeq λ_=>(arrOf st).map (·.2))).get? D=some (seqObj "list" ((arrOf st).map (·.2)) c2):=⟨_,get?_update_seq Pp λ_=>(arrOf st).map (·.2)⟩
 have I3:=qb (t':=s.toks) I2 (λp hp=>(np p (by simpa using hp)).2) aD (λb u hb e=>(s2.2 b hb).trans e) nd (λv z=>by cases z)
 refine⟨H,(arrOf st).map (·.2),c2,sm,I3.fj λp hp=>?_,?_⟩
 ·rcases sK.mp hp with z|z
  ·exact I3.pin p (xL _ (xL _ (wf _ z)))
  ·have:p=(D,seqObj "list" ((arrOf st).map (·.2)) c2):=ZE.mp z
   rw[this]
   exact I3.pin _ (xL _ (xL _ (wT ..)))
 ·have:=Hh (xs:=(arrOf st).toList) hi ok keys.toList (by simpa using oh) (by
    have:=YL.mp hp
    rwa[ksk_zip]at this) hs
  simpa using this
theorem Hi{E:Value->Shared->Prop}{keys:Array Value}{e:Nat}(I:Inv X (pins++[(kS,seqObj "list" keys e),(D,seqObj "list" #[] e1)]) σ H s)(Mc:kS≠D)(np:∀p∈X.pn++pins,p.1≠kS/\p.1≠D)(aS:X.s₀.heap.objs.size<=kS)(aD:X.s₀.heap.objs.size<=D)(hu:X.A.units+5<cLine)
  (ho:∀n m,qN n=true->qN m=true->(if kI n=kI m then zH (kL n) (kL m)else decide (kI n<kI m))=decide (jV n<jV m))
  (hi:IntsAre vs ns)(ok:∀n∈ns,qN n=true)(oh:keys.size=vs.length)(uU:vs.length<=5000)(hg:∀p∈keys.toList.zip vs,EO X.K κ H kI kL p){P:PySem.Fin->Shared->Prop}
  {H0:Hp}(sm:aE H0 H)(q:∀s',tK X pins σ H0 D ns s'->P (.done (.ret .none)) s'):wpAny (model X.prog X.w) X.A (ksk_end D false vs.toArray e1 (.ref kS) keys) P E s:=by
 have gd:TS.Gd (EO X.K κ H kI kL) (keys.zip vs.toArray):=λp hp=>hg p (by rwa[ksk_zip]at hp)
 unfold ksk_end
 simp only[YA,if_false]
 by_cases h2:vs.toArray.size<2
 ·rw[if_pos h2,if_pos h2]
  refine wpAny_bind (wpAny_pure ?_)
  rw[StateT.run_pure]
  refine wpAny_bind (wpAny_pure ?_)
  try dsimp only
  refine wI (st:=SortSt.mk' general' (keys.zip vs.toArray) #[] 7 none) I Mc np aS aD hi ok oh uU (Array.Perm.refl _) ?_ rfl sm q
  show TS.Sd Mb (keys.zip vs.toArray).toList
  rw[wP]at h2
  have hl:(keys.zip vs.toArray).toList.length<=1:=by
   rw[v4,Array.size_zip,oh,wP]
   omega
  generalize(keys.zip vs.toArray).toList=l at hl
  match l,hl with
  |[],_=>exact List.Pairwise.nil
  |[x],_=>exact Zt _ _
  |_::_::_,hl=>simp at hl
 ·rw[if_neg h2,if_neg h2]
  have GN:keys.toList≠[]:=λz=>by
   have:keys.size=0:=by rw[<-v4,z];rfl
   rw[wP]at h2
   omega
  have ek:keys=keys.toList.toArray:=by simp
  have N4:∀v∈keys.toList,∃i,yc s.heap v i:=λv hv=>by
   obtain⟨j,hj,e⟩:=List.getElem_of_mem hv
   have T5:j<vs.length:=by rw[<-oh,<-v4];exact hj
   have hm:(v,vs[j])∈keys.toList.zip vs:=by
    rw[Yj]
    exact⟨j,by rw[Zq];exact⟨by rw[<-e];exact wn hj,wn T5⟩⟩
   exact(hg _ hm).pair I
  have Wb:∀(Q:SortKind->Shared->Prop),Q (tuples' true) s->wpAny (model X.prog X.w) X.A (keyKind' keys) Q E s:=λQ hq=>by
   rw[ek]
   exact vR N4 GN hq
  refine wpAny_bind (Wb _ ?_)
  refine wpAny_bind (wpAny_mono (TS.zy (ER I hu ho) gd (st:=SortSt.mk' (tuples' true) (keys.zip vs.toArray) #[] 7 none)
   (Q:=λ_ aU=>TS.Bs (tuples' true) (keys.zip vs.toArray) aU/\TS.Sd Mb (arrOf aU).toList) ⟨Array.Perm.refl _,rfl,rfl⟩ rfl λaU B sd=>⟨B,sd⟩) ?_ λ_ _ e=>e)
  rintro⟨⟨⟩,aU⟩ s' ⟨rfl,B,sd⟩
  try dsimp only
  exact wI I Mc np aS aD hi ok oh uU B.pm sd B.f sm q
theorem ET{E:Value->Shared->Prop}{k:Nat}{f:Addr}{fd:FuncData}{x:Str}{F:List PV->Option PV}(FO:aL X.prog X.w X.K X.mg X.base cP k f fd [x] (d5 X.K κ false F))(hr:cg k X.A)(hb:Binds X.K fd [x] [])(hx:∀e s',¬X.xe e s')
  (hF:∀n,qN n=true->F [.int n]=some (.tup [.int (kI n),.lst ((kL n).map PV.int)]))
  (I:Inv X (pins++[(kS,seqObj "list" #[] 0),(D,seqObj "list" #[] e1)]) σ H s)(Mc:kS≠D)(np:∀p∈X.pn++pins,p.1≠kS/\p.1≠D)(aS:X.s₀.heap.objs.size<=kS)(aD:X.s₀.heap.objs.size<=D)
  (ho:∀n m,qN n=true->qN m=true->(if kI n=kI m then zH (kL n) (kL m)else decide (kI n<kI m))=decide (jV n<jV m))
  (hi:IntsAre vs ns)(ok:∀n∈ns,qN n=true)(uU:vs.length<=5000){P:PySem.Fin->Shared->Prop}
  (q:∀s',tK X pins σ H D ns s'->P (.done (.ret .none)) s'):wpAny (model X.prog X.w) X.A (ksk_rest D (.ref f) false vs.toArray e1 (.ref kS)) P E s:=by
 have zl:(5000:Nat)<=sizeLine:=by decide
 unfold ksk_rest
 refine wpAny_bind (wpAny_rule ?_)
 rw[List.forIn_toArray]
 refine wpAny_bind (ksk_fold (λi s'=>∃H' kA e,kA.size=i/\Inv X (pins++[(kS,seqObj "list" kA e),(D,seqObj "list" #[] e1)]) σ H' s'/\aE H H'/\∀p∈kA.toList.zip vs,EO X.K κ H' kI kL p) vs 0 s
  ⟨H,#[],0,rfl,I,aE.refl _,by simp⟩ ?step ?done)
 case step=>
  rintro j v s' hv ⟨H',kA,e,oh,I',sm,hk⟩
  rw[Z4]at oh⊢
  have hj:j<vs.length:=(wS.mp hv).1
  obtain⟨n,t,rfl⟩:=hi.all v (Zf hv)
  have hn:qN n=true:=by
   have h1:=hi.nums
   have h2:(vs.map numOf)[j]?=some n:=by rw[Zh,hv];rfl
   rw[h1]at h2
   exact ok n (Zf h2)
  have LO:d5 X.K κ false F [.int n] H' (λv H2=>aE H' H2/\Rep X.K κ H2 v (.tup [.int (kI n),.lst ((kL n).map PV.int)])) E0:=
   ⟨λ_=>False,[.int n],_,λ_ z=>z.elim,.cons (.int n) .nil,hF n hn,λv H2 s z=>⟨s,Rep.mono ay z⟩⟩
  refine wpAny_bind (wpAny_attempt (wpAny_mono (xv FO hr hb .nil jW I' (.cons ⟨t,rfl⟩ .nil:Vals [.int n] [.int n t]) LO) (λu s2 hu=>?_) λe' s2 T6=>(hx _ _ T6).elim))
  obtain⟨v',H2,I2,rv,qM,rp⟩:=hu
  try dsimp only
  have nk:=(I2.pin (kS,seqObj "list" kA e) (xL _ (xL _ (wT ..)))).1
  have s1:=YQ s2.heap kS (Obj.mapSeq (·.push u))
  obtain⟨c2,Jq⟩:∃c2,(s2.heap.update kS (Obj.mapSeq (·.push u))).get? kS=some (seqObj "list" (kA.push u) c2):=⟨_,get?_update_seq nk (·.push u)⟩
  refine wpAny_bind (listUpdate_at nk rfl ?_ (by omega) (ZB (X7 (Array.size_push ..)) (by omega)))
  refine wpAny_pure ⟨rfl,H2,kA.push u,c2,by rw[Array.size_push,oh],?_,sm.trans qM,λp hp=>?_⟩
  ·exact qb (t':=s2.toks) I2 (λp hp=>by
    rcases sK.mp hp with z|z
    ·exact(np p (ZF _ z)).1
    ·rcases sK.mp z with z|z
     ·exact(np p (xL _ z)).1
     ·have:p=(D,seqObj "list" #[] e1):=ZE.mp z
      rw[this]
      exact Mc.symm) aS (λb o hb e=>(s1.2 b hb).trans e) Jq (λv z=>by cases z)
  ·obtain⟨i,hp⟩:=Yj.mp hp
   obtain⟨g1,g2⟩:=Zq.mp hp
   rw[Z0,List.getElem?_append]at g1
   split at g1
   ·obtain⟨n',t',a,z1,z2,z3,z4⟩:=hk p (Yj.mpr ⟨i,Zq.mpr ⟨g1,g2⟩⟩)
    exact⟨n',t',a,z1,z2,z3,z4.mono qM⟩
   ·rename_i i0
    have Wc:i=j:=by
     have:=(wS.mp g1).1
     rw[v4,oh]at this i0
     simp at this
     omega
    subst Wc
    rw[v4,oh,Nat.sub_self]at g1
    simp at g1
    rw[hv]at g2
    cases rp with
    |tup q1 w=>
     cases rv
     exact⟨n,t,_,hn,(ZO g2).symm,g1.symm,.tup q1 w⟩
 case done=>
  rintro s' ⟨H',kA,e,oh,I',sm,hk⟩
  rw[Z4]at oh
  have nk:=(I'.pin (kS,seqObj "list" kA e) (xL _ (xL _ (wT ..)))).1
  try dsimp only
  refine wpAny_bind (listItems_at nk rfl ?_)
  exact Hi I' Mc np aS aD (by have:=hr.units;omega) ho hi ok oh uU hk sm q
theorem EU{E:Value->Shared->Prop}{k n:Nat}{f:Addr}{fd:FuncData}{x:Str}{F:List PV->Option PV}(FO:aL X.prog X.w X.K X.mg X.base cP k f fd [x] (d5 X.K κ false F))(hr:cg k X.A)(hb:Binds X.K fd [x] [])(hx:∀e s',¬X.xe e s')
  (hF:∀n,qN n=true->F [.int n]=some (.tup [.int (kI n),.lst ((kL n).map PV.int)]))
  (I:Inv X (pins++[(D,seqObj "list" vs.toArray n)]) σ H s)(np:∀p∈X.pn++pins,p.1≠D)(aD:X.s₀.heap.objs.size<=D)
  (ho:∀n m,qN n=true->qN m=true->(if kI n=kI m then zH (kL n) (kL m)else decide (kI n<kI m))=decide (jV n<jV m))
  (hi:IntsAre vs ns)(ok:∀n∈ns,qN n=true)(uU:vs.length<=5000){P:PySem.Fin->Shared->Prop}
  (q:∀s',tK X pins σ H D ns s'->P (.done (.ret .none)) s'):wpAny (model X.prog X.w) X.A (ksk_tree D (.ref f) false) P E s:=by
 have zl:(5000:Nat)<=sizeLine:=by decide
 have hd:=(I.pin (D,seqObj "list" vs.toArray n) (xL _ (xL _ (wT ..)))).1
 have s1:=YQ s.heap D (Obj.mapSeq λ_=>(#[]:Array Value))
 obtain⟨e1,Pp⟩:∃e1,(s.heap.update D (Obj.mapSeq λ_=>(#[]:Array Value))).get? D=some (seqObj "list" #[] e1):=⟨_,get?_update_seq hd λ_=>#[]⟩
 unfold ksk_tree
 refine wpAny_bind (listItems_at hd rfl ?_)
 refine wpAny_bind (listUpdate_at hd rfl ?_ (by rw[wP];omega) (ZI _))
 refine wpAny_bind (seqEpoch_at Pp rfl ?_)
 refine wpAny_bind (wpAny_newTuple ?_ (by show vs.length<=_;omega))
 refine wpAny_bind (wpAny_newList ?_ (ZI _))
 refine wpAny_holding ?_
 have I1:=qb (t':=s.toks) I (λp hp=>np p (by simpa using hp)) aD (λb u hb e=>(s1.2 b hb).trans e) Pp (λv z=>by cases z)
 have I2:Inv X (pins++[(D,seqObj "list" #[] e1)]) σ H {s with heap:=(s.heap.update D (Obj.mapSeq λ_=>(#[]:Array Value))).push (seqObj "tuple" vs.toArray 0),toks:=s.toks}:=I1.kept (t':=s.toks) λb o e=>wp _ e
 have I3:=DM (o:=seqObj "list" #[] 0) (t':=s.toks) I2 (λv z=>by cases z) (λb o e=>wp _ e) (wr _) (ZH _ rfl)
 have U5:=DN I2
 have hD:D<((s.heap.update D (Obj.mapSeq λ_=>(#[]:Array Value))).push (seqObj "tuple" vs.toArray 0)).objs.size:=U5 (D,seqObj "list" #[] e1) (xL _ (xL _ (wT ..)))
 refine ET FO hr hb hx hF (kS:=((s.heap.update D (Obj.mapSeq λ_=>(#[]:Array Value))).push (seqObj "tuple" vs.toArray 0)).objs.size) (I3.fj λp hp=>?_) (X6 hD) (λp hp=>⟨ZV (U5 p ?_),np p hp⟩) (ZB aD (Zm hD)) aD ho hi ok uU q
 ·refine I3.pin p (xL _ ?_)
  rcases sK.mp hp with z|z
  ·exact ZF _ (ZF _ z)
  ·rcases ZJ.mp z with rfl|z
   ·exact xL _ (wT ..)
   ·exact ZF _ (xL _ z)
 ·rcases sK.mp hp with z|z
  ·exact ZF _ z
  ·exact xL _ (ZF _ z)
end
section
variable{X:Cx}{pins:List (Addr×Obj)}{σ:St}{H:Hp}{s:Shared}{κ:Kl}{vs:List Value}{ns:List Int}
theorem qc{k:Nat}{f:Addr}{fd:FuncData}{x:Str}{F:List PV->Option PV}{Q:VK}(FO:aL X.prog X.w X.K X.mg X.base cP k f fd [x] (d5 X.K κ false F))(hr:cg k X.A.in1.in1)(hb:Binds X.K fd [x] [])(hK:gD F)
  (I:Inv X pins σ H s)(hi:IntsAre vs ns)(ok:mF ns=true)(q:∀D H',aE H H'->H' D=none->Q (.ref D) (upd H' D (.lst ((gB jV ns).map V.int)))):
  wpAny (model X.prog X.w) X.A.in1 (do let l<-newList vs;let _<-holding [l] (call (.builtin "list.sort") [l] [(Str.ofString "key",.ref f)]);ret l) (λfin s'=>∃v,fin=.done (.ret v)/\EP X pins σ Q v s') X.xe s:=by
 have zl:(5000:Nat)<=sizeLine:=by decide
 obtain⟨kI,kL,hF,ho⟩:=hK
 unfold mF at ok
 simp only[re,decide_eq_true_eq,ZA]at ok
 have hlen:=hi.length
 refine wpAny_bind (wpAny_newList ?_ (by omega))
 have I1:=DM (o:=seqObj "list" vs.toArray 0) (t':=s.toks) I (λv z=>by cases z) (λb o e=>wp _ e) (wr _) (ZH _ rfl)
 have SN:(s.heap.push (seqObj "list" vs.toArray 0)).get? s.heap.objs.size=some (seqObj "list" vs.toArray 0):=ZH _ rfl
 have np:∀p∈X.pn++pins,p.1≠s.heap.objs.size:=λp hp=>ZV (DN I p hp)
 refine wpAny_bind (wpAny_holding (wpAny_call_entry_kw slot_list_sort ⟨_,SN,rfl⟩ entry_list_sort ?body (ksk_l1 _ _)))
 case body=>
  rw[ksk_t1]
  refine EU (X:=Si X) (pins:=pins) (σ:=σ) (H:=H) (D:=s.heap.objs.size) (n:=0) FO hr hb (λ_ _ z=>z) hF (Kx I1) np I.sz ho hi ok.1 (by omega) λs' T7=>⟨_,rfl,?_⟩
  obtain⟨H',out,c,sm,I2,hv⟩:=T7
  have I3:=Hf I.ok I2
  have Wd:=Hg (rest:=[]) I3 (λp hp=>np p (by simpa using hp)) I.sz
  obtain⟨h1,h2,h3,h4,h5,h6⟩:=Wd
  have I4:Inv X pins σ H' s':=I3.fj λp hp=>I3.pin p (xL _ (ZF _ hp))
  have hz:((gB jV ns).map V.int).length<=sizeLine:=by
   rw[wE,(jr jV ns).length_eq]
   omega
  refine wpAny_pure ⟨_,rfl,.ref _,_,ES (its:=out.toList) (n:=c) I4 (by simpa using h1) h2 h3 I.sz h6 np hv hz,rfl,q _ H' sm h2⟩
theorem rh{k:Nat}{f l:Addr}{fd:FuncData}{x:Str}{F:List PV->Option PV}{Q:VK}(FO:aL X.prog X.w X.K X.mg X.base cP k f fd [x] (d5 X.K κ false F))(hr:cg k X.A.in1.in1)(hb:Binds X.K fd [x] [])(hK:gD F)
  (I:Inv X pins σ H s)(hq:mj X.K H l (ns.map V.int))(ok:mF ns=true)(q:∀D H',aE H H'->H' D=none->Q (.ref D) (upd H' D (.lst ((gB jV ns).map V.int)))):
  wpAny (model X.prog X.w) X.A (call (.builtin "sorted") [.ref l] [(Str.ofString "key",.ref f)]) (EP X pins σ Q) X.xe s:=by
 obtain⟨its,rv,pl,hz⟩:=I.list hq
 have hi:=intsAre_of rv
 refine call_function_entry_kw kind_sorted plain_sorted entry_sorted (ksk_s1 _ _) ?_
 unfold Builtin.«sorted»
 refine wpAny_bind (m:=checkCount "sorted" 1 1 _) (wpAny_pure ?_)
 refine wpAny_bind (collect_list pl.isList ?_ (by rw[<-rv.length];exact hz))
 have I1:Inv X pins σ H {s with heap:=(s.heap.push (seqObj "list" #[] 0)).update s.heap.objs.size (Obj.mapSeq (·++its.toArray)),toks:=s.toks}:=I.kept λb o e=>by
  have i0:b<s.heap.objs.size:=ww e
  rw[Heap.get?_update_ne _ _ _ _ (ZV i0)]
  exact wp _ e
 exact qc FO hr hb hK I1 hi ok q
end
section
variable{prog:Program}{w:World}{A:Around}{E:Value->Shared->Prop}{s:Shared}
theorem vS:∀(n:Nat) (acc:List Value),acc.length=n->(∀j v,acc[j]?=some v->∃t,v=Value.int ((j:Nat):Int) t)->∃ns,ns=(List.range n).map (λ(k:Nat)=>(k:Int))/\IntsAre acc ns:=by
 have go:∀(acc:List Value) (i:Nat),(∀j v,acc[j]?=some v->∃t,v=Value.int ((i+j:Nat):Int) t)->IntsAre acc ((List.range' i acc.length).map (λ(k:Nat)=>(k:Int))):=by
  intro acc
  induction acc with
  |nil=>intro i _;exact .nil
  |cons v acc ih=>
   intro i h
   obtain⟨t,rfl⟩:=h 0 v rfl
   rw[ul,XI,ZC]
   refine .cons _ t (ih (i+1) λj v e=>?_)
   obtain⟨t,e⟩:=h (j+1) v (by simpa using e)
   exact⟨t,by rw[e];congr 2;omega⟩
 intro n acc hl h
 refine⟨_,rfl,?_⟩
 have:=go acc 0 (λj v e=>by simpa using h j v e)
 rwa[hl,<-List.range_eq_range']at this
theorem vT{r:Addr}{n:Nat}{j:Int}{t u v:Tok}{Q:List Value->Shared->Prop}(hh:A.handled=none)(hr:IsRange s.heap r 0 j 1 t u v)(hj:j.toNat=n)(hn:n<=100000)(h0:-(2^62)<=j)
  (h:∀h' tk vs,(∀b o,s.heap.get? b=some o->h'.get? b=some o)->IntsAre vs ((List.range n).map (λ(k:Nat)=>(k:Int)))->Q vs {s with heap:=h',toks:=tk}):wpAny (model prog w) A (collect (.ref r)) Q E s:=by
 have T5:j<2^62:=by omega
 unfold collect
 refine wpAny_bind (wpAny_runValue (codeAny_builtin entry_proto_collect' ?_))
 show wpAny _ _ (do again (.builtin "list.__iadd__" ⟨[<-newList [],.ref r],[]⟩)) _ _ s
 refine wpAny_bind (wpAny_newList (wpAny_pure ⟨Code.quiet_builtin _ (by decide+kernel),codeAny_builtin entry_list_iadd' ?_⟩))
 show wpAny _ _ (Builtin.List.listExtendWith (.ref s.heap.objs.size) (.ref r) (.ref s.heap.objs.size)) _ _ {s with heap:=s.heap.push (seqObj "list" #[] 0)}
 rw[Around.under_plainId (show plainId "list.__iadd__" =true by decide+kernel) _]
 refine wpAny_extend_range (R:=λr s'=>match r with|.ok (.ret v)=>wpAny (model prog w) A (match v with|.ref a=>(do let o<-load a;match o.data with|.seq xs _=>pure xs.toList|_=>unsupported "internal:collect")|_=>unsupported "internal:collect") Q E s'|.ok _=>False|.error e=>E e s') (s:={s with heap:=s.heap.push (seqObj "list" #[] 0)}) (n:=n) (c₀:=0) hh (wp _ hr) (a:=0) (b:=j) (c:=1) (small_one (by decide) (by decide) h0 T5) (by rw[rangeSize_one];split<;>omega) (by omega) s.heap.objs.size _ (ZH _ rfl) λh' tk acc c hk hS hI=>?_
 refine wpAny_bind (wpAny_load hS ?_)
 obtain⟨ns,rfl,hi⟩:=vS n acc.toList (by rw[v4];exact hI.1) (λj v e=>by
  obtain⟨t,e'⟩:=hI.2 j v (by simpa using e)
  exact⟨t,by rw[e'];simp⟩)
 exact wpAny_pure (h h' tk acc.toList (λb o e=>hk b o (ZV (ww e)) (wp _ e)) hi)
end
section
variable{X:Cx}{κ:Kl}{k:Nat}{f:Addr}{fd:FuncData}{x:Str}{F:List PV->Option PV}
def T8(K:PySem.W.Frag)(v:V)(H:Hp)(ns:List Int):Prop:=∃l,v=.ref l/\(mj K H l (ns.map V.int)\/∃j:Int,H l=some (.rng 0 j)/\-(2^62)<=j/\j.toNat<=100000/\ns=(List.range j.toNat).map (λ(k:Nat)=>(k:Int)))
theorem zW{pins:List (Addr×Obj)}{σ:St}{H:Hp}{s:Shared}{ns:List Int}{v:V}{u:Value}{Q:VK}(hc:X.calm=true)(FO:aL X.prog X.w X.K X.mg X.base cP k f fd [x] (d5 X.K κ false F))(hr:cg k X.A.in1.in1)(hb:Binds X.K fd [x] [])(hK:gD F)
  (I:Inv X pins σ H s)(rv:RelV v u)(hq:T8 X.K v H ns)(ok:mF ns=true)(q:∀D H',aE H H'->H' D=none->Q (.ref D) (upd H' D (.lst ((gB jV ns).map V.int)))):
  wpAny (model X.prog X.w) X.A (call (.builtin "sorted") [u] [(Str.ofString "key",.ref f)]) (EP X pins σ Q) X.xe s:=by
 obtain⟨l,rfl,hq⟩:=hq
 cases rv
 rcases hq with hq|⟨j,hq,h1,h2,rfl⟩
 ·exact rh FO hr hb hK I hq ok q
 ·obtain⟨t,u,v,We⟩:=I.dE l _ hq
  refine call_function_entry_kw kind_sorted plain_sorted entry_sorted (ksk_s1 _ _) ?_
  unfold Builtin.«sorted»
  refine wpAny_bind (m:=checkCount "sorted" 1 1 _) (wpAny_pure ?_)
  refine wpAny_bind (vT (A:=X.A.in1) (I.ok.hd hc) We rfl h2 h1 λh' tk vs hk hi=>?_)
  exact qc FO hr hb hK (I.kept (t':=tk) hk) hi ok q
def Q3(K:PySem.W.Frag)(te:TE):TE:=λσ H Q=>te σ H λv H1=>∃ns,T8 K v H1 ns/\mF ns=true/\∀D H',aE H1 H'->H' D=none->Q (.ref D) (upd H' D (.lst ((gB jV ns).map V.int)))
theorem wJ{p px pos kp:Pos}{a:Expr}{y:Str}{te:TE}(FO:aL X.prog X.w X.K X.mg X.base cP k f fd [x] (d5 X.K κ false F))(hr:cg (k+2) X.A)(hb:Binds X.K fd [x] [])(hK:gD F)(hm:X.mg "sorted" =none)(hy:X.mg y=some (.ref f))(ha:PE X a te)
  (hg:Gl X "sorted" :=by rfl)(Q4:Gl X y:=by rfl)(hc:X.calm=true:=by rfl)(EV:(y==("__debug__" :Str))=false:=by decide)(hs:starEach [a] X.env=(false,eval a X.env)::starEach [] X.env:=by rfl)(Q5:backTo pos (starEach [a] X.env)=(false,eval a X.env)::backTo pos (starEach [] X.env):=by rfl)
  (LZ:(backToKw pos (keywordEach [⟨some "key",.Name y px,kp⟩] X.env)).filterMap (·.1)=[Str.ofString "key"]:=by rfl)(xD:(backToKw pos (keywordEach [⟨some "key",.Name y px,kp⟩] X.env)).all (·.1.isSome)=true:=by rfl)(Q6:(backToKw pos (keywordEach [⟨some "key",.Name y px,kp⟩] X.env)).any (·.1.isNone)=false:=by rfl)
  (hpl:(backTo pos (starEach [a] X.env)).any (·.1)=false:=by rfl):PE X (.Call (.Name "sorted" p) [a] [⟨some "key",.Name y px,kp⟩] pos) (Q3 X.K te):=by
 intro pins s σ H Q I h
 refine wpAny_Call_Name_kw (qP I hg hm PyProof.Rows.boot_sorted ?_)
 have hA:=(aI ha bB hs) pos pins s σ H (λvs H1=>match vs with|[v]=>(∃ns,T8 X.K v H1 ns/\mF ns=true/\∀D H',aE H1 H'->H' D=none->Q (.ref D) (upd H' D (.lst ((gB jV ns).map V.int))))|_=>False) I h
 refine PyProof.Rows.callWith_kw (dH hA λus s1 cw=>?_) Q5 hpl xD Q6
 obtain⟨vs,H1,I1,r1,q1⟩:=cw
 try dsimp only at q1
 split at q1
 ·rename_i v
  obtain⟨ns,Pq,ok,q⟩:=q1
  obtain⟨u,rfl,ru⟩:=r1.one
  have Wf:=(JT (nm:=some "key") (kpos:=kp) (tq (pos:=px) (v:=.ref f) Q4 hy rfl EV) Nb:PK X [⟨some "key",.Name y px,kp⟩] _) pos pins s1 σ H1 (λzs H2=>zs=[.ref f]/\H2=H1) I1 ⟨rfl,rfl⟩
  refine dH Wf λws s2 cw=>?_
  obtain⟨zs,H2,I2,rz,e1,e2⟩:=cw
  subst e1 e2
  obtain⟨u2,rfl,Wg⟩:=rz.one
  cases Wg
  rw[LZ]
  exact zW hc FO (hr.in1).in1 hb hK I2 ru Pq ok q
 ·exact q1.elim
theorem EW{p pos:Pos}{a:Expr}{te:TE}(hm:X.mg "range" =none)(ha:PE X a te)(hg:Gl X "range" :=by rfl)(hs:starEach [a] X.env=[(false,eval a X.env)]:=by rfl):
  PE X (.Call (.Name "range" p) [a] [] pos) (λσ H Q=>te σ H λv H1=>∃j:Int,v=.int j/\∀l,H1 l=none->Q (.ref l) (upd H1 l (.rng 0 j))):=by
 intro pins s σ H Q I h
 have hA:=(aI ha bB hs) pos pins s σ H (λvs H1=>match vs with|[v]=>(∃j:Int,v=.int j/\∀l,H1 l=none->Q (.ref l) (upd H1 l (.rng 0 j)))|_=>False) I h
 refine Call_ (qP I hg hm boot_range (PyProof.Rows.callWith_type1 (dH hA λus s1 cw=>?_) hs rfl))
 obtain⟨vs,H1,I1,r1,q1⟩:=cw
 try dsimp only at q1
 split at q1
 ·obtain⟨j,rfl,q⟩:=q1
  obtain⟨u,rfl,t,rfl⟩:=r1.one
  refine call_range_1 ⟨.ref s1.heap.objs.size,_,I1.laid (a:=s1.heap.objs.size) (o:=.rng 0 j) (t':=s1.toks+1+1) (λb o e=>wp _ e) (wr _) ?_,rfl,q _ I1.fresh⟩
  exact⟨_,_,_,ZH _ rfl⟩
 ·exact q1.elim
theorem BP{p px pos kp:Pos}{a:Expr}{y:Str}{fa:Den}(FO:aL X.prog X.w X.K X.mg X.base cP k f fd [x] (d5 X.K κ false F))(hr:cg (k+2) X.A)(hb:Binds X.K fd [x] [])(hK:gD F)(hm:X.mg "sorted" =none)(hy:X.mg y=some (.ref f))(ha:DB X κ a fa)
  (hg:Gl X "sorted" :=by rfl)(Q4:Gl X y:=by rfl)(hc:X.calm=true:=by rfl)(EV:(y==("__debug__" :Str))=false:=by decide)(hs:starEach [a] X.env=(false,eval a X.env)::starEach [] X.env:=by rfl)(Q5:backTo pos (starEach [a] X.env)=(false,eval a X.env)::backTo pos (starEach [] X.env):=by rfl)
  (LZ:(backToKw pos (keywordEach [⟨some "key",.Name y px,kp⟩] X.env)).filterMap (·.1)=[Str.ofString "key"]:=by rfl)(xD:(backToKw pos (keywordEach [⟨some "key",.Name y px,kp⟩] X.env)).all (·.1.isSome)=true:=by rfl)(Q6:(backToKw pos (keywordEach [⟨some "key",.Name y px,kp⟩] X.env)).any (·.1.isNone)=false:=by rfl)
  (hpl:(backTo pos (starEach [a] X.env)).any (·.1)=false:=by rfl):DO X κ (.Call (.Name "sorted" p) [a] [⟨some "key",.Name y px,kp⟩] pos) (sg (nList fa)):=by
 obtain⟨ta,h1,h2⟩:=ha
 refine⟨_,wJ FO hr hb hK hm hy h1 hg Q4 hc EV hs Q5 LZ xD Q6 hpl,λ{G A bo own ρ σ H p Q} r e q=>?_⟩
 obtain⟨l,e1,e2⟩:=zn.mp e
 obtain⟨p1,e3,e4⟩:=zn.mp e1
 obtain⟨ns,e5,e6⟩:=zn.mp e2
 obtain⟨ok,rfl⟩:=bj e6
 refine h2 r e3 λv H1 s1 b1=>?_
 cases p1<;>first|(cases e4;done)|skip
 cases e4
 obtain⟨a,vs,rfl,q1,q2⟩:=b1.lst ay
 rw[x9 q2 e5]at q1
 refine⟨ns,⟨a,rfl,.inl q1.sq⟩,ok,λD H2 s2 hD=>?_⟩
 have md:=s1.trans s2
 refine q _ _ (md.trans (bD hD)) ?_
 obtain⟨a,ws,l,w1,w2,w3,w4⟩:=(r.mono md).xW hD (ints_rep (κ:=κ) (gB jV ns))
 refine⟨a,ws,l,w1,w2,?_,w4⟩
 cases w1
 exact md.free hD
theorem zX:∀n:Nat,jf (i7 0 n)=some ((List.range n).map (λ(k:Nat)=>(k:Int))):=λn=>by
 have:i7 0 n=((List.range n).map (λ(k:Nat)=>(k:Int))).map PV.int:=by
  unfold i7
  rw[Zg]
  congr 1
  funext k
  simp
 rw[this,jC]
theorem BQ{p px pos kp p2 EX:Pos}{a:Expr}{y:Str}{fa:Den}(FO:aL X.prog X.w X.K X.mg X.base cP k f fd [x] (d5 X.K κ false F))(hr:cg (k+2) X.A)(hb:Binds X.K fd [x] [])(hK:gD F)(hm:X.mg "sorted" =none)(Wh:X.mg "range" =none)(hy:X.mg y=some (.ref f))(ha:DB X κ a fa)
  (hg:Gl X "sorted" :=by rfl)(Wi:Gl X "range" :=by rfl)(Wj:starEach [a] X.env=[(false,eval a X.env)]:=by rfl)(Q4:Gl X y:=by rfl)(hc:X.calm=true:=by rfl)(EV:(y==("__debug__" :Str))=false:=by decide)(hs:starEach [.Call (.Name "range" p2) [a] [] EX] X.env=(false,eval (.Call (.Name "range" p2) [a] [] EX) X.env)::starEach [] X.env:=by rfl)
  (Q5:backTo pos (starEach [.Call (.Name "range" p2) [a] [] EX] X.env)=(false,eval (.Call (.Name "range" p2) [a] [] EX) X.env)::backTo pos (starEach [] X.env):=by rfl)
  (LZ:(backToKw pos (keywordEach [⟨some "key",.Name y px,kp⟩] X.env)).filterMap (·.1)=[Str.ofString "key"]:=by rfl)(xD:(backToKw pos (keywordEach [⟨some "key",.Name y px,kp⟩] X.env)).all (·.1.isSome)=true:=by rfl)(Q6:(backToKw pos (keywordEach [⟨some "key",.Name y px,kp⟩] X.env)).any (·.1.isNone)=false:=by rfl)
  (hpl:(backTo pos (starEach [.Call (.Name "range" p2) [a] [] EX] X.env)).any (·.1)=false:=by rfl):DO X κ (.Call (.Name "sorted" p) [.Call (.Name "range" p2) [a] [] EX] [⟨some "key",.Name y px,kp⟩] pos) (sg (je fa)):=by
 obtain⟨ta,h1,h2⟩:=ha
 refine⟨_,wJ FO hr hb hK hm hy (EW Wh h1 Wi Wj) hg Q4 hc EV hs Q5 LZ xD Q6 hpl,λ{G A bo own ρ σ H p Q} r e q=>?_⟩
 obtain⟨l,e1,e2⟩:=zn.mp e
 obtain⟨p1,e3,e4⟩:=zn.mp e1
 obtain⟨j,e7,e8⟩:=zn.mp e4
 obtain⟨hj,e9⟩:=bj e8
 obtain⟨ns,e5,e6⟩:=zn.mp e2
 obtain⟨ok,rfl⟩:=bj e6
 subst e9
 rw[zX]at e5
 cases e5
 simp only[wB,re,decide_eq_true_eq]at hj
 have hlen:j.toNat<=100000:=by
  have:=ok
  unfold mF at this
  simp only[re,decide_eq_true_eq,wE,Zj]at this
  omega
 refine h2 r e3 λv H1 s1 b1=>?_
 cases p1<;>first|(cases e7;done)|skip
 cases e7
 refine⟨_,b1.int,λl hl=>⟨_,⟨l,rfl,.inr ⟨_,aW,hj.1,hlen,rfl⟩⟩,ok,λD H2 s2 hD=>?_⟩⟩
 have md:=(s1.trans (bD hl)).trans s2
 refine q _ _ (md.trans (bD hD)) ?_
 obtain⟨a,ws,l,w1,w2,w3,w4⟩:=(r.mono md).xW hD (ints_rep (κ:=κ) (gB jV ((List.range j.toNat).map (λ(k:Nat)=>(k:Int)))))
 refine⟨a,ws,l,w1,w2,?_,w4⟩
 cases w1
 exact md.free hD
end
section
variable{X:Cx}{κ:Kl}{fr:Bool}{pos:Pos}
theorem Hj(i:Nat){y x:Str}{py px pT:Pos}{sc:Scope}{elt iter:Expr}{fi:cI}{f:Den}(hN:X.N.Nodup)(hi:Kt X κ (.Name x px) iter fi)(r9:Scope)(N0 ys:List Str)(he:∀ex C s H,DE (X.i5 sc x ys ex C s H) κ elt f)(FP:X.N[i]?=some y:=by rfl)(hy:X.env.scope.names.lookup y=some .local:=by rfl)(uO:X.env.scope=r9:=by rfl)(G9:X.N=N0:=by rfl)(sT:i4 r9 N0 sc x ys=true:=by decide+kernel)(hc:X.calm=true:=by rfl)
  (hs:∀x,foldedSetIterable iter X.env x=pure x:=by intro _;rfl)(GJ:swapsWith (.ListComp elt [⟨.Name x px,iter,[],0⟩] sc pos) (some (.Name y py)) pT.line X.env=pure true:=by rfl):
  DS X κ fr (.Assign [.Name y py] (.ListComp elt [⟨.Name x px,iter,[],0⟩] sc pos) pT) (mE i (bM fi eC f)):=by
 obtain⟨wi,h1,h2⟩:=hi
 refine⟨_,Dm hN FP hy h1 ys (tt:=NX X.K κ eC) (te:=Po X.K κ f) (λex C s H=>?_) (λex C s H=>(he ex C s H).pe) (by rw[uO,G9];exact sT) hc hs GJ,λ{G A bo own ρ σ H fl D} r e k=>?_⟩
 ·intro pins s σ H Q I ⟨_,_,_,_,_,_,r,e,q⟩
  cases e
  exact uw pins s σ H Q I (q _ (aE.refl _))
 ·obtain⟨p,e1,e2⟩:=zn.mp e
  obtain⟨l,e3,rfl⟩:=xz.mp e2
  refine p7 h2 r e1 λv H' s z=>?_
  cases p<;>first|(cases e3;done)|skip
  cases e3
  obtain⟨cx,r'⟩:=r.QV s (i:=i) z
  exact k _ _ _ r'
end
end L2.D
namespace L2.D
open PySem
theorem wK{P:Program}{w:World}{K:PySem.W.Frag}{mg:Str->Option Value}{base:Heap}{κ:Kl}{fr:Bool}{k:Nat}{f:Addr}{fd:FuncData}{ps:List Str}:aL P w K mg base cP k f fd ps (d5 K κ fr λ_=>none):=
 have no:∀{vs:List V} {H:Hp} {Q:VK} {E:XK},d5 K κ fr (λ_=>none) vs H Q E->False:=λ⟨_,_,_,_,_,h2,_⟩=>by cases h2
 ⟨λ_ _ _ _ h=>(no h).elim,λ_ _ _ _ _ _ _ _ _ _ _ _ _ h=>(no h).elim⟩
end L2.D
namespace L2.D
open PySem PySem.Spec PyProof.Rows PySem.SeqAt
section
variable{X:Cx}{κ:Kl}{fr:Bool}{pos:Pos}{a e:Expr}{fa f:Den}
theorem Hk{K:PySem.W.Frag}{H:Hp}:∀{vs:List V} {l:List PV} {ns:List Int},aV K κ H vs l->jf l=some ns->vs=ns.map V.int
 |_,_,_,.nil,h=>by cases h;rfl
 |_,p::_,_,.cons r t,h=>by
  cases p<;>first|(cases h;done)|skip
  obtain⟨cs,h1,rfl⟩:=xz.mp h
  cases r
  rw[ZC,<-Hk t h1]
end
section
variable{X:Cx}{κ:Kl}{fr:Bool}{pos:Pos}{a b e k:Expr}{fa fb f fk:Den}
theorem N5{tg:Expr}{gt:vO}(hg:DG X κ tg gt)(he:DE X κ e f)(hs:swapsWithSole [tg] e pos.line X.env=pure false:=by rfl)(hw:swappedStores [tg] e X.env=pure none:=by rfl)
  (NG:(assignEach [tg] X.env).map (·.2)=[assign tg X.env]:=by rfl):DS X κ fr (.Assign [tg] e pos) (NO gt f):=by
 obtain⟨te,h1,h2⟩:=he
 obtain⟨tt,h3,h4⟩:=hg
 refine⟨_,F6 h1 h3 hs hw NG,λ{G A bo own ρ σ H fl D} r e k=>?_⟩
 obtain⟨p,e1,e2⟩:=zn.mp e
 obtain⟨ρ',e3,rfl⟩:=xz.mp e2
 refine h2 r e1 λv H1 s1 z1=>?_
 exact h4 (r.mono s1) z1 e3 λcx σ' r' _=>k _ _ _ r'
def Sj(X:Cx)(κ:Kl)(Wk:List Expr)(gs:List vO):Prop:=∃tt,PU X Wk tt/\∀{G A bo own ρ σ H ps vs ρ' Q},R X.K κ G A bo own ρ σ H->aV X.K κ (d7 A own ρ H) vs ps->Dt gs ps ρ=some ρ'->(∀cx σ',R X.K κ G A bo cx ρ' σ' H->aE (d7 A own ρ H) (d7 A cx ρ' H)->Q σ' H)->tt vs σ H Q
theorem Ky:Sj X κ [] []:=⟨_,C1,λ{G A bo own ρ σ H ps vs ρ' Q} r z e q=>by
 cases z with
 |nil=>cases e;exact⟨rfl,q _ _ r λ_ _ h=>h⟩
 |cons _ _=>cases e⟩
theorem qd{es:List Expr}{gt:vO}{gs:List vO}(ha:DG X κ a gt)(hb:Sj X κ es gs)(hs:(assignEach (a::es) X.env).map (·.2)=assign a X.env::(assignEach es X.env).map (·.2):=by rfl):Sj X κ (a::es) (gt::gs):=by
 obtain⟨ta,h1,h2⟩:=ha
 obtain⟨tb,h3,h4⟩:=hb
 refine⟨_,uc h1 h3 hs,λ{G A bo own ρ σ H ps vs ρ' Q} r z e q=>?_⟩
 cases z with
 |nil=>cases e
 |cons r1 rs=>
  obtain⟨ρ1,e1,e2⟩:=zn.mp e
  refine⟨_,_,rfl,h2 r r1 e1 λcx σ' r' s'=>?_⟩
  exact h4 r' (rs.mono s') e2 λrg σ2 r2 s2=>q rg σ2 r2 (s'.trans s2)
theorem wL:∀{gs:List vO} {ps:List PV} {ρ ρ':cA},Dt gs ps ρ=some ρ'->ps.length=gs.length
 |[],[],_,_,_=>rfl
 |[],_::_,_,_,e=>by cases e
 |_::_,[],_,_,e=>by cases e
 |t::ts,p::ps,ρ,ρ',e=>by
  obtain⟨ρ1,e1,e2⟩:=zn.mp e
  rw[ul,ul,wL e2]
theorem N6{es:List Expr}{gs:List vO}{k:Nat}(h:Sj X κ es gs)(hc:X.calm=true:=by rfl)(hn:(assignEach es X.env).length=gs.length:=by rfl)(my:(assignEach es X.env).findIdx? (·.1)=none:=by rfl):DG X κ (.Tuple es k pos) (Du gs):=by
 obtain⟨tt,h1,h2⟩:=h
 refine⟨_,F5 hc h1 hn my,λ{G A bo own ρ σ H p v ρ' Q} r z e q=>?_⟩
 unfold Du at e
 split at e
 ·rename_i l
  cases z with
  |tup q1 q2=>
   refine⟨_,_,rfl,l9 (ay (A:=dG A own ρ)) q1,?_,h2 r q2 e q⟩
   rw[q2.length,wL e]
 ·cases e
end
section
variable{X:Cx}{κ:Kl}{pos p2:Pos}{a b e:Expr}{fa fb:Den}
theorem Kz:Pd X "str.find" (λx xs H Q=>∃i j,x=.str i/\xs=[.str j]/\Q (.int (Txt.find i j)) H):=by
 intro pins s σ H x xs v us Q I rx r h
 obtain⟨i,j,rfl,rfl,q⟩:=h
 obtain⟨t,rfl⟩:=rx
 obtain⟨u,rfl,t',rfl⟩:=vals1 r
 exact SC.find ⟨.int _,H,I.tok _,⟨_,rfl⟩,q⟩
theorem KA{apos:Pos}(ha:DB X κ a fa)(hb:DB X κ b fb)(gq:attributeBase a "find" X.env (eval a X.env)=eval a X.env:=by rfl)
  (qW:((backTo pos (starEach [b] X.env)).all (λx=>!x.1)&&(backToKw pos (keywordEach [] X.env)).all (λx=>x.1.isSome)
    &&decide ([b].length+([]:List Keyword).length+(if([]:List Keyword).isEmpty then 0 else 1)<30))=true:=by rfl)
  (gr:(apos.endLine==pos.line)=true:=by rfl)(hs:starEach [b] X.env=(false,eval b X.env)::starEach [] X.env:=by rfl):DE X κ (.Call (.Attribute a "find" apos) [b] [] pos) (ag L6 fa fb):=by
 obtain⟨ta,h1,h2⟩:=ha
 obtain⟨tb,h3,h4⟩:=hb
 refine⟨_,Dd Xq PySem.F.slot_str_find PySem.F.type_str_find Kz h1 (aI h3 bB hs) gq qW gr hs,λ{G A bo own ρ σ H p Q} r e q=>?_⟩
 obtain⟨p1,e1,e2⟩:=zn.mp e
 obtain⟨p2,e3,e4⟩:=zn.mp e2
 (cases p1<;>first|(cases e4;done)|skip)<;>cases p2<;>first|(cases e4;done)|skip
 cases e4
 refine h2 r e1 λx H1 s1 b1=>?_
 rw[b1.str]
 refine⟨rfl,h4 (r.mono s1) e3 λy H2 s2 b2=>?_⟩
 rw[b2.str]
 exact⟨_,_,rfl,rfl,q _ H2 (s1.trans s2) (.int _)⟩
theorem wM:∀{ts:List Str} {us:List Value},Vals (ts.map V.str) us->∃l:List (Str×Tok),us=strValues l/\l.map (·.1)=ts
 |[],_,.nil=>⟨[],rfl,rfl⟩
 |x::ts,_,.cons ⟨t,ht⟩ r=>by
  obtain⟨l,h1,h2⟩:=wM r
  subst ht
  exact⟨(x,t)::l,by rw[h1];rfl,by rw[ZC,h2]⟩
theorem uV{K:PySem.W.Frag}{H:Hp}:∀{vs:List V} {l:List PV} {ts:List Str},aV K κ H vs l->l8 l=some ts->vs=ts.map V.str
 |_,_,_,.nil,h=>by cases h;rfl
 |_,p::_,_,.cons r t,h=>by
  cases p<;>first|(cases h;done)|skip
  obtain⟨cs,h1,rfl⟩:=xz.mp h
  cases r
  rw[ZC,<-uV t h1]
theorem KC:Pd X "str.join" (λx xs H Q=>∃(i:Str) (p:Addr) (ts:List Str),x=.str i/\xs=[.ref p]/\mj X.K H p (ts.map V.str)/\JoinOk i ts=true/\Q (.str (Txt.join i ts)) H):=by
 intro pins s σ H x xs v us Q I rx r h
 obtain⟨i,p,ts,rfl,rfl,hq,ok,q⟩:=h
 obtain⟨t,rfl⟩:=rx
 obtain⟨u,rfl,ru⟩:=vals1 r
 cases ru
 obtain⟨its,rv,pl,hz⟩:=I.list hq
 obtain⟨l,rfl,hl⟩:=wM rv
 exact SC.join pl.isList hl ok λt' k=>⟨.str _,H,I.tok _,⟨_,rfl⟩,q⟩
theorem KD{apos:Pos}(ha:DB X κ a fa)(hb:DB X κ b fb)(gq:attributeBase a "join" X.env (eval a X.env)=eval a X.env:=by rfl)
  (qW:((backTo pos (starEach [b] X.env)).all (λx=>!x.1)&&(backToKw pos (keywordEach [] X.env)).all (λx=>x.1.isSome)
    &&decide ([b].length+([]:List Keyword).length+(if([]:List Keyword).isEmpty then 0 else 1)<30))=true:=by rfl)
  (gr:(apos.endLine==pos.line)=true:=by rfl)(hs:starEach [b] X.env=(false,eval b X.env)::starEach [] X.env:=by rfl):DE X κ (.Call (.Attribute a "join" apos) [b] [] pos) (ag Dv fa fb):=by
 obtain⟨ta,h1,h2⟩:=ha
 obtain⟨tb,h3,h4⟩:=hb
 refine⟨_,Dd Xq PySem.F.slot_str_join PySem.F.type_str_join KC h1 (aI h3 bB hs) gq qW gr hs,λ{G A bo own ρ σ H p Q} r e q=>?_⟩
 obtain⟨p1,e1,e2⟩:=zn.mp e
 obtain⟨p2,e3,e4⟩:=zn.mp e2
 (cases p1<;>first|(cases e4;done)|skip)<;>cases p2<;>first|(cases e4;done)|skip
 obtain⟨ts,e5,e6⟩:=zn.mp e4
 obtain⟨ok,rfl⟩:=bj e6
 refine h2 r e1 λx H1 s1 b1=>?_
 rw[b1.str]
 refine⟨rfl,h4 (r.mono s1) e3 λy H2 s2 b2=>?_⟩
 obtain⟨a,vs,rfl,q1,q2⟩:=b2.lst ay
 rw[uV q2 e5]at q1
 exact⟨_,a,ts,rfl,rfl,q1.sq,ok,q _ H2 (s1.trans s2) (.str _)⟩
theorem KG{p:Pos}(ha:DB X κ a fa)(hm:X.mg "str" =none)(hg:Gl X "str" :=by rfl)(hs:starEach [a] X.env=(false,eval a X.env)::starEach [] X.env:=by rfl):DE X κ (.Call (.Name "str" p) [a] [] pos) (bW Kj fa):=by
 obtain⟨ta,h1,h2⟩:=ha
 refine⟨_,qU xt hg hm (by decide+kernel) (aI h1 bB hs) (he:=hs),λ{G A bo own ρ σ H p Q} r e q=>?_⟩
 obtain⟨p1,e1,e2⟩:=zn.mp e
 refine h2 r e1 λx H1 s1 b1=>?_
 cases p1<;>first|(cases e2;done)|skip
 obtain⟨ok,rfl⟩:=bj e2
 rw[decide_eq_true_eq]at ok
 refine⟨_,by rw[b1.int],?_,q _ H1 s1 (.str _)⟩
 rename_i i
 have:i.natAbs.log2<20:=by
  by_cases h0:i.natAbs=0
  ·rw[h0];decide
  ·exact(Nat.log2_lt h0).mpr (by omega)
 omega
theorem zY{v:Value}{o:Option Int}(h:IsPart v o):∃l:Option (Int×Tok),v=partValue l/\l.map (·.1)=o:=by
 cases h with
 |none=>exact⟨none,rfl,rfl⟩
 |int i t=>exact⟨some (i,t),rfl,rfl⟩
theorem qe{α β:Type}(f:α->Option β):∀l:List α,(l.filterMap f).length<=l.length
 |[]=>wr _
 |x::l=>by
  have:=qe f l
  rw[ZZ]
  split
  ·rw[ul];omega
  ·rw[ul,ul];omega
end
section
variable{K:PySem.W.Frag}{κ:Kl}{H:Hp}
theorem DU{f:Str}{p:PV}:∀{ns:List Str} {vs:List V} {l:List PV},aV K κ H vs l->(ns.zip l).lookup f=some p->f∈ns/\∃v,(ns.zip vs).lookup f=some v/\Rep K κ H v p
 |[],_,_,_,h=>by cases h
 |n::ns,_,_,.nil,h=>by cases h
 |n::ns,_,_,.cons (v:=v) (p:=q) r t,h=>by
  rw[Zo,ZS]at h
  rw[Zo,ZS]
  by_cases e:f==n
  ·rw[e]at h⊢
   cases h
   exact⟨by rw[eq_of_beq e];exact wT ..,v,rfl,r⟩
  ·have e':(f==n)=false:=by simpa using e
   rw[e']at h⊢
   obtain⟨h1,h2⟩:=DU t h
   exact⟨wf _ h1,h2⟩
end
theorem BR.rep{K:PySem.W.Frag}{κ:Kl}{hH H:Hp}{v:V}{c:Nat}{l:List PV}(h:BR K κ hH H v (.ins c l)):Rep K κ hH v (.ins c l):=by
 rcases h with h|⟨a,vs,l',h1,h2,h3,h4⟩
 ·exact h
 ·cases h2
def Hl(K:PySem.W.Frag)(κ:Kl)(f:Str):Prop:=∀c,f∈κ.fld c->Bg K (κ.adr c)/\ie K (κ.adr c) f
section
variable{X:Cx}{κ:Kl}{pos apos:Pos}{a b e o:Expr}{es:List Expr}{fa fb fo:Den}{fs:cI}{m:Str}
theorem N7{f:Str}(ha:DB X κ a fa)(hf:Hl X.K κ f)(hb:attributeBase a f X.env (eval a X.env)=eval a X.env:=by rfl):DE X κ (.Attribute a f pos) (bW (pX κ.fld f) fa):=by
 obtain⟨ta,h1,h2⟩:=ha
 refine⟨_,M9 h1 hb,λ{G A bo own ρ σ H p Q} r e q=>?_⟩
 obtain⟨p1,e1,e2⟩:=zn.mp e
 refine h2 r e1 λx H1 s1 b1=>?_
 cases p1<;>first|(cases e2;done)|skip
 rename_i c l
 cases b1.rep with
 |ins h3 h4 h5=>
  obtain⟨h6,v,h7,h8⟩:=DU h5 e2
  obtain⟨k1,k2⟩:=hf c h6
  exact⟨_,_,_,_,v,rfl,ay _ _ h3,k1,k2,h7,q v H1 s1 h8⟩
theorem lq{α:Type}{f:Str}:∀{ns:List Str} {vs:List α},f∉ns->(ns.zip vs).lookup f=none
 |[],_,_=>rfl
 |n::ns,[],_=>rfl
 |n::ns,v::vs,h=>by
  rw[Zo,ZS]
  have e:(f==n)=false:=by
   rw[beq_eq_false_iff_ne]
   exact λz=>h (z▸wT ..)
  rw[e]
  exact lq λz=>h (wf _ z)
end
structure Me(K:PySem.W.Frag)(C:Addr)(m:Str)(f:Addr):Prop where
 rd:∃mc,PySem.W.readsIn K C mc=true/\PySem.W.findCls K (.ref C) mc m=some (.val (.ref f))
 ga:PySem.W.specialIn K (.ref C) "__getattribute__" =some (some (.builtin "type.__getattribute__"))
 hd:PySem.W.handedIn (.ref f)=true
 kp:PySem.W.keepIn K (.ref f)=true
section
variable{X:Cx}{κ:Kl}{pos apos np:Pos}{a b e o:Expr}{es:List Expr}{fa fb fo:Den}{m cn:Str}{C f:Addr}{fd:FuncData}{ps:List Str}{sp:Sp}{k:Nat}{t:TA}
theorem uW{pl:Sem Bool}(c:Me X.K C m f)(F:aL X.prog X.w X.K X.mg X.base cP k f fd ps sp)(hr:cg k X.A)(hg:Gl X cn)(hm:X.mg cn=some (.ref C))(hb:Binds X.K fd ps [])(ha:PA X (e::es) t)(oj:(cn==("__debug__" :Str))=false:=by decide)
  (my:starEach (e::es) X.env=(false,eval e X.env)::starEach es X.env:=by rfl)(hpl:(backTo pos (starEach es X.env)).any (·.1)=false:=by rfl)
  (ht:eval (.Call (.Attribute (.Name cn np) m apos) (e::es) [] pos) X.env=(do
    let ov<-eval (.Name cn np) X.env
    standAt apos.atName
    let(f,first)<-holding [ov] (getMethod ov m pl)
    callWith pos f first (backTo pos (starEach (e::es) X.env)) (backToKw pos (keywordEach [] X.env))):=by rfl):PE X (.Call (.Attribute (.Name cn np) m apos) (e::es) [] pos) (uf sp [] E0 t):=by
 intro pins s σ H Q I h
 refine Yk (pl:=pl) (nP I hg hm ?_ oj) ht
 obtain⟨mc,h1,h2⟩:=c.rd
 refine PySem.W.method_cls I.k8 c.ga (PySem.W.cls_value I.k8 h1 h2 c.hd ?_)
 have I1:Inv X pins σ H {s with toks:=s.toks+1}:=I.tok _
 refine Z6 (first:=[]) (h₀:=X.base) I.ok.mod.kin c.kp (dH (ha pos pins _ σ H _ I1 h) λus s2 ⟨vs,H2,I2,r,q2⟩=>⟨I2.k8,?_⟩) my hpl
 exact xv (ds:=[]) (dvs:=[]) F hr hb .nil jW I2 r q2
end
def uX(C:Addr):Sp:=λvs H Q _=>∃x dx v,vs=[.ref x,v]/\H x=some (.ins C dx [])/\Q .non (upd H x (.ins C dx [("name",v)]))
def qf(K:PySem.W.Frag)(C:Addr):Sp:=λvs H Q _=>∃x dx v p ys,vs=[.ref x,v,.ref p]/\H x=some (.ins C dx [])/\SL K H p ys/\∀t,H t=none->Q .non (upd (upd (upd H x (.ins C dx [("wanted",v)])) t (.tup ys)) x (.ins C dx [("wanted",v),("parts",.ref t)]))
def qg(K:PySem.W.Frag)(C:Addr)(g:List V->Int):Sp:=λvs H Q _=>∃x dx p ys,vs=[.ref x,.ref p]/\H x=some (.ins C dx [])/\SL K H p ys/\∀t,H t=none->Q .non (upd (upd (upd H x (.ins C dx [("wanted",.int (g ys))])) t (.tup ys)) x (.ins C dx [("wanted",.int (g ys)),("parts",.ref t)]))
theorem N8{K:PySem.W.Frag}{H:Hp}{x p C dx:Addr}{fs PJ:List (Str×V)}{ys:List V}(h:H x=some (.ins C dx fs))(q:SL K H p ys):SL K (upd H x (.ins C dx PJ)) p ys:=by
 rcases q with(q|⟨ob,q⟩)|q
 ·refine .inl (.inl ?_)
  rw[aJ]
  ·exact q
  ·rintro rfl
   rw[h]at q
   cases q
 ·refine .inl (.inr ⟨ob,?_⟩)
  rw[aJ]
  ·exact q
  ·rintro rfl
   rw[h]at q
   cases q
 ·exact .inr q
section
variable{K:PySem.W.Frag}{C:Addr}{κ:Kl}
abbrev T9(K:PySem.W.Frag):List V->Hp->VK->Prop:=λxs H Q=>∃p ys,xs=[.ref p]/\((mj K H p ys/\∀l,H l=none->Q (.ref l) (upd H l (.tup ys)))\/(kC K H p ys/\Q (.ref p) H))
abbrev Ua(K:PySem.W.Frag):List V->Hp->VK->Prop:=λxs H Q=>∃p ys,xs=[.ref p]/\(mj K H p ys\/kC K H p ys)/\Q (.int ys.length) H
abbrev DQ(Q:VK):Ends:={nx:=λ_ H'=>Q .non H',rt:=Q}
theorem KH(cl:Bg K C)(na:ie K C "name"){vs:List V}{H:Hp}{Q:VK}{E:XK}(h:uX C vs H Q E):JR K (fB 0) (fB 1) "name" (DQ Q) (start ["self","name"] vs) H:=by
 obtain⟨x,dx,v,rfl,hx,q⟩:=h
 exact⟨v,rfl,_,rfl,x,C,dx,[],rfl,hx,cl,na,by decide,q⟩
theorem N9(cl:Bg K C)(na:ie K C "wanted")(nb:ie K C "parts"){vs:List V}{H:Hp}{Q:VK}{E:XK}(h:qf K C vs H Q E):
  vH (JR K (fB 0) (fB 1) "wanted") (JR K (fB 0) (Qi (T9 K) (cG (fB 2) iZ)) "parts") (DQ Q) (start ["self","wanted","parts"] vs) H:=by
 obtain⟨x,dx,v,p,ys,rfl,hx,hp,q⟩:=h
 refine⟨v,rfl,_,rfl,x,C,dx,[],rfl,hx,cl,na,by decide,?_⟩
 refine⟨_,rfl,p,ys,rfl,.inl ⟨(N8 hx hp).sq,λt ht=>?_⟩⟩
 have og:x≠t:=by
  rintro rfl
  rw[aW]at ht
  cases ht
 have Wl:H t=none:=by
  rw[aJ (Ne.symm og)]at ht
  exact ht
 refine⟨_,rfl,x,C,dx,[("wanted",v)],rfl,?_,cl,nb,(show(1:Nat)<1000 by decide),?_⟩
 ·rw[aJ og]
  exact aW
 ·exact q t Wl
theorem Hm{ta:TE}{g:List V->Int}(ht:∀{σ:St} {H:Hp} {Q:VK} {p:Addr} {ys:List V},σ[1]?=some (some (.ref p))->SL K H p ys->Q (.int (g ys)) H->ta σ H Q){vs:List V}{H:Hp}{Q:VK}{E:XK}(h:qg K C g vs H Q E):
  ub (uf (qf K C) [] E0 (cG (fB 0) (cG ta (cG (fB 1) iZ)))) (DQ Q) (start ["self","parts"] vs) H:=by
 obtain⟨x,dx,p,ys,rfl,hx,hp,q⟩:=h
 refine⟨_,rfl,ht rfl hp ⟨_,rfl,?_⟩⟩
 exact⟨x,dx,.int (g ys),p,ys,rfl,hx,hp,λt ht=>q t ht⟩
theorem Oa{vs:List V}{H:Hp}{Q:VK}{E:XK}(h:qf K C vs H Q E):
  ub (uf (qf K C) [] E0 (cG (fB 0) (cG (fB 1) (cG (fB 2) iZ)))) (DQ Q) (start ["self","many","parts"] vs) H:=by
 obtain⟨x,dx,v,p,ys,rfl,hx,hp,q⟩:=h
 refine⟨_,rfl,_,rfl,_,rfl,?_⟩
 exact⟨x,dx,v,p,ys,rfl,hx,hp,λt ht=>q t ht⟩
theorem Hn{vs:List V}{H:Hp}{Q:VK}{E:XK}(h:uX C vs H Q E):vs.length=2:=by
 obtain⟨x,dx,v,rfl,_⟩:=h
 rfl
theorem DV{vs:List V}{H:Hp}{Q:VK}{E:XK}(h:qf K C vs H Q E):vs.length=3:=by
 obtain⟨x,dx,v,p,ys,rfl,_⟩:=h
 rfl
theorem DY{g:List V->Int}{vs:List V}{H:Hp}{Q:VK}{E:XK}(h:qg K C g vs H Q E):vs.length=2:=by
 obtain⟨x,dx,p,ys,rfl,_⟩:=h
 rfl
theorem Ob{σ:St}{H:Hp}{Q:VK}{p:Addr}{ys:List V}(h:σ[1]?=some (some (.ref p)))(hp:SL K H p ys)(q:Q (.int (ys.length:Nat)) H):Qi (Ua K) (cG (fB 1) iZ) σ H Q:=⟨_,h,p,ys,rfl,.inl hp.sq,q⟩
theorem Oc{σ:St}{H:Hp}{Q:VK}{p:Addr}{ys:List V}(h:σ[1]?=some (some (.ref p)))(hp:SL K H p ys)(q:Q (.int 1) H):tC (.int 1) σ H Q:=q
end
section
variable{K:PySem.W.Frag}{κ:Kl}{G H H':Hp}{A:Addr->Prop}{bo:Nat->Option (Addr×List V)}{own:Nat->Addr}{ρ:cA}{σ:St}
theorem nW{C x dx:Addr}(hx:H x=none)(hd:H dx=none)(hn:dx≠x):aE H (upd (upd H dx (.own x)) x (.ins C dx [])):=(bD hd).trans (bD (by rw[aJ (Ne.symm hn)];exact hx))
theorem uY{C x dx:Addr}{fs PJ:List (Str×V)}{H0:Hp}(s:aE H0 H)(hx:H0 x=none):aE H0 (upd H x (.ins C dx PJ)):=λb o e=>by
 rw[aJ (cj e hx)]
 exact s b o e
theorem KI{x dx:Addr}{v:V}{p:PV}(r:R K κ G A bo own ρ σ H)(hf:κ.fld 0=[("name" :Str)])(hx:H x=none)(hd:H dx=none)(hn:dx≠x)(z:Rep K κ (d7 A own ρ H) v p):
  aE H (upd (upd (upd H dx (.own x)) x (.ins (κ.adr 0) dx [])) x (.ins (κ.adr 0) dx [("name",v)]))/\Rep K κ (d7 A own ρ (upd (upd (upd H dx (.own x)) x (.ins (κ.adr 0) dx [])) x (.ins (κ.adr 0) dx [("name",v)]))) (.ref x) (.ins 0 [p]):=by
 have s1:aE H (upd (upd (upd H dx (.own x)) x (.ins (κ.adr 0) dx [])) x (.ins (κ.adr 0) dx [("name",v)])):=uY (fs:=[]) (nW (C:=κ.adr 0) hx hd hn) hx
 refine⟨s1,.ins (c:=0) (dx:=dx) (vs:=[v]) ?_ (by rw[hf];rfl) (.cons (z.mono (aZ s1)) .nil)⟩
 rw[d7,c7 (r.new hx),aW,hf]
 rfl
theorem Ho{c:Nat}{x dx t:Addr}{v:V}{q:PV}{ys:List V}{l:List PV}(r:R K κ G A bo own ρ σ H)(hf:κ.fld c=[("wanted" :Str),("parts" :Str)])(hx:H x=none)(hd:H dx=none)(hn:dx≠x)(ht:upd (upd H dx (.own x)) x (.ins (κ.adr c) dx []) t=none)
  (zv:Rep K κ (d7 A own ρ H) v q)(z:aV K κ (d7 A own ρ H) ys l):
  aE H (upd (upd (upd (upd (upd H dx (.own x)) x (.ins (κ.adr c) dx [])) x (.ins (κ.adr c) dx [("wanted",v)])) t (.tup ys)) x (.ins (κ.adr c) dx [("wanted",v),("parts",.ref t)]))/\
  Rep K κ (d7 A own ρ (upd (upd (upd (upd (upd H dx (.own x)) x (.ins (κ.adr c) dx [])) x (.ins (κ.adr c) dx [("wanted",v)])) t (.tup ys)) x (.ins (κ.adr c) dx [("wanted",v),("parts",.ref t)]))) (.ref x) (.ins c [q,.tup l]):=by
 have s0:aE H (upd (upd H dx (.own x)) x (.ins (κ.adr c) dx [])):=nW (C:=κ.adr c) hx hd hn
 have og:x≠t:=by
  rintro rfl
  rw[aW]at ht
  cases ht
 have U6:H t=none:=s0.free ht
 have s1:aE H (upd (upd (upd H dx (.own x)) x (.ins (κ.adr c) dx [])) x (.ins (κ.adr c) dx [("wanted",v)])):=uY (fs:=[]) s0 hx
 have s2:aE H (upd (upd (upd (upd H dx (.own x)) x (.ins (κ.adr c) dx [])) x (.ins (κ.adr c) dx [("wanted",v)])) t (.tup ys)):=λb o e=>by
  rw[aJ (cj e U6)]
  exact s1 b o e
 have s3:aE H (upd (upd (upd (upd (upd H dx (.own x)) x (.ins (κ.adr c) dx [])) x (.ins (κ.adr c) dx [("wanted",v)])) t (.tup ys)) x (.ins (κ.adr c) dx [("wanted",v),("parts",.ref t)])):=uY (fs:=[]) s2 hx
 refine⟨s3,.ins (c:=c) (dx:=dx) (vs:=[v,.ref t]) ?_ (by rw[hf];rfl) (.cons (zv.mono (aZ s3)) (.cons (.tup (vs:=ys) (.inl (.inl ?_)) (z.mono (aZ s3))) .nil))⟩
 ·rw[d7,c7 (r.new hx),aW,hf]
  rfl
 ·rw[d7,c7 (r.new U6),aJ (Ne.symm og)]
  exact aW
end
section
variable{X:Cx}{κ:Kl}{pos p:Pos}{a b:Expr}{fa fb:Den}{f:Addr}{fd:FuncData}{ps:List Str}{k:Nat}{x:Str}
theorem EY(M:Mk X.K (κ.adr 0) f)(F:aL X.prog X.w X.K X.mg X.base cP k f fd ps (uX (κ.adr 0)))(hf:κ.fld 0=[("name" :Str)])(hr:cg (k+1) X.A)(hm:X.mg x=some (.ref (κ.adr 0)))(hb:Binds X.K fd ps [])(ha:DB X κ a fa)(hg:Gl X x:=by rfl)(oj:(x==("__debug__" :Str))=false:=by decide)
  (he:starEach [a] X.env=(false,eval a X.env)::starEach [] X.env:=by rfl):DE X κ (.Call (.Name x p) [a] [] pos) (bW L7 fa):=by
 obtain⟨ta,h1,h2⟩:=ha
 refine⟨_,tw M F hr hg hm hb .nil jW (aI h1 bB he) oj he,λ{G A bo own ρ σ H p Q} r e q=>?_⟩
 obtain⟨p1,e1,e2⟩:=zn.mp e
 refine h2 r e1 λv H1 s1 b1=>?_
 cases p1<;>first|(cases e2;done)|skip
 cases e2
 intro y dy hy EV hn
 rw[b1.str]
 obtain⟨s3,z3⟩:=KI (r.mono s1) hf hy EV hn (.str _)
 exact⟨y,dy,_,rfl,aW,rfl,q _ _ (s1.trans s3) z3⟩
theorem DZ{c:Nat}{g:List V->Int}{gP:List PV->Int}{ta:TE}(Wm:∀{vs:List V} {l:List PV},vs.length=l.length->g vs=gP l)(hf:κ.fld c=[("wanted" :Str),("parts" :Str)])(h2:QS X.K κ ta fa):QR X.K κ (LL (κ.adr c) (qg X.K (κ.adr c) g) [] E0 (cG ta iZ)) (bW (λp=>match p with|.lst l=>some (.ins c [.int (gP l),.tup l])|_=>none) fa):=λ{G A bo own ρ σ H p Q} r e q=>by
 obtain⟨p1,e1,e2⟩:=zn.mp e
 refine h2 r e1 λv H1 s1 b1=>?_
 cases p1<;>first|(cases e2;done)|skip
 rename_i l
 cases e2
 obtain⟨a,ys,rfl,q1,q2⟩:=b1.lst ay
 intro y dy hy EV hn
 have s0:aE H1 (upd (upd H1 dy (.own y)) y (.ins (κ.adr c) dy [])):=nW (C:=κ.adr c) hy EV hn
 refine⟨y,dy,a,ys,rfl,aW,s0.sl q1,λt ht=>⟨rfl,?_⟩⟩
 rw[Wm q2.length]
 obtain⟨s3,z3⟩:=Ho (r.mono s1) hf hy EV hn ht (.int (gP l)) q2
 exact q _ _ (s1.trans s3) z3
theorem Hq(M:Mk X.K (κ.adr 1) f)(F:aL X.prog X.w X.K X.mg X.base cP k f fd ps (qg X.K (κ.adr 1) λys=>(ys.length:Nat)))(hf:κ.fld 1=[("wanted" :Str),("parts" :Str)])(hr:cg (k+1) X.A)(hm:X.mg x=some (.ref (κ.adr 1)))(hb:Binds X.K fd ps [])(ha:DB X κ a fa)(hg:Gl X x:=by rfl)(oj:(x==("__debug__" :Str))=false:=by decide)
  (he:starEach [a] X.env=(false,eval a X.env)::starEach [] X.env:=by rfl):DE X κ (.Call (.Name x p) [a] [] pos) (bW GW fa):=by
 obtain⟨ta,h1,h2⟩:=ha
 exact⟨_,tw M F hr hg hm hb .nil jW (aI h1 bB he) oj he,λ{G A bo own ρ σ H p Q} r e q=>DZ (c:=1) (g:=λys=>(ys.length:Nat)) (gP:=λl=>(l.length:Nat)) (λh=>by rw[h]) hf h2 r (by
  obtain⟨p1,e1,e2⟩:=zn.mp e
  refine zn.mpr ⟨p1,e1,?_⟩
  cases p1<;>first|(cases e2;done)|exact e2) q⟩
theorem Hr(M:Mk X.K (κ.adr 2) f)(F:aL X.prog X.w X.K X.mg X.base cP k f fd ps (qg X.K (κ.adr 2) λ_=>1))(hf:κ.fld 2=[("wanted" :Str),("parts" :Str)])(hr:cg (k+1) X.A)(hm:X.mg x=some (.ref (κ.adr 2)))(hb:Binds X.K fd ps [])(ha:DB X κ a fa)(hg:Gl X x:=by rfl)(oj:(x==("__debug__" :Str))=false:=by decide)
  (he:starEach [a] X.env=(false,eval a X.env)::starEach [] X.env:=by rfl):DE X κ (.Call (.Name x p) [a] [] pos) (bW GX fa):=by
 obtain⟨ta,h1,h2⟩:=ha
 exact⟨_,tw M F hr hg hm hb .nil jW (aI h1 bB he) oj he,λ{G A bo own ρ σ H p Q} r e q=>DZ (c:=2) (g:=λ_=>1) (gP:=λ_=>1) (λ_=>rfl) hf h2 r (by
  obtain⟨p1,e1,e2⟩:=zn.mp e
  refine zn.mpr ⟨p1,e1,?_⟩
  cases p1<;>first|(cases e2;done)|exact e2) q⟩
theorem EZ(M:Mk X.K (κ.adr 3) f)(F:aL X.prog X.w X.K X.mg X.base cP k f fd ps (qf X.K (κ.adr 3)))(hf:κ.fld 3=[("wanted" :Str),("parts" :Str)])(hr:cg (k+1) X.A)(hm:X.mg x=some (.ref (κ.adr 3)))(hb:Binds X.K fd ps [])(ha:DB X κ a fa)(Sk:DB X κ b fb)(hg:Gl X x:=by rfl)(oj:(x==("__debug__" :Str))=false:=by decide)
  (he:starEach [a,b] X.env=(false,eval a X.env)::starEach [b] X.env:=by rfl)(Q7:starEach [b] X.env=(false,eval b X.env)::starEach [] X.env:=by rfl)(hpl:(backTo pos (starEach [b] X.env)).any (·.1)=false:=by rfl):DE X κ (.Call (.Name x p) [a,b] [] pos) (ag BG fa fb):=by
 obtain⟨ta,h1,h2⟩:=ha
 obtain⟨tb,h3,h4⟩:=Sk
 refine⟨_,tw M F hr hg hm hb .nil jW (aI h1 (aI h3 bB Q7) he) oj he hpl,λ{G A bo own ρ σ H p Q} r e q=>?_⟩
 refine uL h2 h4 r e λv u p1 p2 H1 s1 r1 b1 b2 e2=>?_
 (cases p1<;>first|(cases e2;done)|skip)<;>cases p2<;>first|(cases e2;done)|skip
 cases e2
 obtain⟨a,ys,rfl,q1,q2⟩:=b2.lst ay
 intro y dy hy EV hn
 have s0:aE H1 (upd (upd H1 dy (.own y)) y (.ins (κ.adr 3) dy [])):=nW (C:=κ.adr 3) hy EV hn
 rw[b1.int]
 refine⟨y,dy,_,a,ys,rfl,aW,s0.sl q1,λt ht=>⟨rfl,?_⟩⟩
 obtain⟨s3,z3⟩:=Ho r1 hf hy EV hn ht (.int _) q2
 exact q _ _ (s1.trans s3) z3
end
structure Od(K:PySem.W.Frag)(C CR:Addr):Prop where
 cl:Bg K C
 ha:PySem.W.findIn K (.ref C) "__class__" =some (some (.builtin "object.__class__"))
 hn:PySem.W.specialIn K (.builtin "object.__class__") "__get__" =some (some (.builtin "getset_descriptor.__get__"))
 Pc:PySem.W.takesIn K (.builtin "object.__class__")=some true
 hm:PySem.W.mroIn K C (.type "object")=some true
 Jx:PySem.W.kitOne K (.ref C) (.ref CR)=some true
section
variable{X:Cx}{κ:Kl}{pos p:Pos}{a b:Expr}{fa fb:Den}
theorem Hs{CR:Addr}:jw X (.builtin "isinstance") (λxs H Q=>∃(a C dx:Addr) (fs:List (Str×V)),xs=[.ref a,.ref CR]/\H a=some (.ins C dx fs)/\Od X.K C CR/\Q (.bl true) H):=by
 intro pins s σ H xs us Q I r h
 obtain⟨a,C,dx,fs,rfl,ha,ok,q⟩:=h
 cases r with
 |cons r1 r2=>
  cases r2 with
  |cons r2 r3=>
   cases r3
   cases r1
   cases r2
   exact Eu (x:=.ref a) I rfl (.ins ha ok.cl ok.ha ok.hn ok.Pc ok.hm) ok.Jx λtk=>⟨.bl true,H,I.tok _,rfl,q⟩
theorem Oe{cn:Str}{p2:Pos}{CR:Addr}(ok:∀c,c<4->Od X.K (κ.adr c) CR)(ha:DB X κ a fa)(hm:X.mg "isinstance" =none)(Kw:X.mg cn=some (.ref CR))(hg:Gl X "isinstance" :=by rfl)(Hd:Gl X cn:=by rfl)(hd:(cn==("__debug__" :Str))=false:=by decide)
  (hs:starEach [a,.Name cn p2] X.env=(false,eval a X.env)::starEach [.Name cn p2] X.env:=by rfl)(ze:starEach [.Name cn p2] X.env=(false,eval (.Name cn p2) X.env)::starEach [] X.env:=by rfl)(hpl:(backTo pos (starEach [.Name cn p2] X.env)).any (·.1)=false:=by rfl):DE X κ (.Call (.Name "isinstance" p) [a,.Name cn p2] [] pos) (bW QN fa):=by
 obtain⟨ta,h1,h2⟩:=ha
 refine⟨_,iO (Hs (CR:=CR)) hg hm PyProof.Rows.boot_isinstance (aI h1 (aI (tq Hd Kw (v:=.ref CR) rfl hd) bB ze) hs) (he:=hs) (hpl:=hpl),λ{G A bo own ρ σ H p Q} r e q=>?_⟩
 obtain⟨p1,e1,e2⟩:=zn.mp e
 refine h2 r e1 λx H1 s1 b1=>?_
 cases p1<;>first|(cases e2;done)|skip
 obtain⟨hc,rfl⟩:=bj e2
 cases b1.rep with
 |ins h3 h4 h5=>exact⟨_,_,_,_,rfl,ay _ _ h3,ok _ (of_decide_eq_true hc),q _ H1 s1 (.bl _)⟩
theorem uZ(ha:DB X κ a fa)(hm:X.mg "tuple" =none)(hg:Gl X "tuple" :=by rfl)(hs:starEach [a] X.env=(false,eval a X.env)::starEach [] X.env:=by rfl):DE X κ (.Call (.Name "tuple" p) [a] [] pos) (bW xS fa):=by
 obtain⟨ta,h1,h2⟩:=ha
 refine⟨_,qU ou hg hm (by decide+kernel) (aI h1 bB hs) (he:=hs),λ{G A bo own ρ σ H p Q} r e q=>?_⟩
 obtain⟨p1,e1,e2⟩:=zn.mp e
 refine h2 r e1 λx H1 s1 b1=>?_
 cases p1<;>first|(cases e2;done)|skip
 ·cases e2
  obtain⟨a,vs,rfl,q1,q2⟩:=b1.lst ay
  exact⟨a,vs,rfl,.inl ⟨q1.sq,λl hl=>q _ _ (s1.trans (bD hl)) ((r.mono s1).QT hl q2)⟩⟩
 ·cases e2
  rcases b1 with b1|⟨_,_,_,_,z,_⟩
  ·cases b1 with
   |tup q1 q2=>exact⟨_,_,rfl,.inr ⟨l9 ay q1,q _ H1 s1 (.tup q1 q2)⟩⟩
  ·cases z
theorem zZ(ns:List Int):∀n,n<ns.length->(ns.take (n+1)).tail.foldl (λa b=>if b>a then b else a) (ns.getD 0 0)=ns.getD (argBest (λi j=>decide (ns.getD i 0>ns.getD j 0)) n) 0
 |0,h=>by
  have:(ns.take 1).tail=[]:=by
   cases ns with
   |nil=>rfl
   |cons x l=>simp
  rw[this]
  rfl
 |n+1,h=>by
  have ih:=zZ ns n (by omega)
  have e:(ns.take (n+1+1)).tail=(ns.take (n+1)).tail++[ns.getD (n+1) 0]:=by
   rw[List.take_add_one,wn h,List.tail_append_of_ne_nil,ZQ,wn h]
   ·rfl
   ·intro z
    have h2:(ns.take (n+1)).length=0:=by rw[z];rfl
    rw[ZM]at h2
    omega
  rw[e,List.foldl_append,ih]
  show(if ns.getD (n+1) 0>ns.getD (argBest _ n) 0 then _ else _)=ns.getD (if decide (ns.getD (n+1) 0>ns.getD (argBest _ n) 0)=true then n+1 else argBest _ n) 0
  by_cases hh:ns.getD (n+1) 0>ns.getD (argBest (λi j=>decide (ns.getD i 0>ns.getD j 0)) n) 0
  ·rw[if_pos hh,if_pos (decide_eq_true hh)]
  ·rw[if_neg hh,if_neg (by rw[decide_eq_false hh];decide)]
theorem wN:∀{us:List Value} {ns:List Int},IntsAre us ns->∃xs:List (Int×Tok),us=xs.map (λp=>Value.int p.1 p.2)/\xs.map (·.1)=ns
 |_,_,.nil=>⟨[],rfl,rfl⟩
 |_,_,.cons i t h=>by
  obtain⟨xs,h1,h2⟩:=wN h
  exact⟨(i,t)::xs,by rw[h1];rfl,by rw[ZC,h2]⟩
theorem vU(hc:X.calm=true):jw X (.builtin "max") (λxs H Q=>∃(p:Addr) (ns:List Int) (m:Int),xs=[.ref p]/\mj X.K H p (ns.map V.int)/\QM ns=some m/\Q (.int m) H):=by
 intro pins s σ H xs us Q I r h
 obtain⟨p,ns,m,rfl,hq,hm,q⟩:=h
 obtain⟨u,rfl,ru⟩:=vals1 r
 cases ru
 obtain⟨its,rv,pl,hz⟩:=I.list hq
 obtain⟨ts,rfl,ht⟩:=wN (intsAre_of rv)
 have hlen:ns.length=ts.length:=by rw[<-ht,wE]
 have h0:0<ns.length:=by
  cases ns with
  |nil=>cases hm
  |cons _ _=>simp
 have na:∀i,numAt ts.toArray i=ns.getD i 0:=λi=>by
  unfold numAt
  rw[<-ht,ZQ,Zh]
  simp
 refine max_intList (xs:=ts.toArray) (I.ok.hd hc) (by simpa[intItems]using pl.isList) (by simpa using(hlen▸h0)) λv h' tk hv kp=>?_
 obtain⟨t,rfl⟩:=intItems_at hv
 have bm:=zZ ns (ns.length-1) (by omega)
 rw[show ns.length-1+1=ns.length by omega,List.take_length]at bm
 have em:m=numAt ts.toArray (argBest (λi j=>decide (numAt ts.toArray i>numAt ts.toArray j)) (ts.toArray.size-1)):=by
  rw[na,wP,<-hlen,show(λi j=>decide (numAt ts.toArray i>numAt ts.toArray j))=λi j=>decide (ns.getD i 0>ns.getD j 0)from by funext i j;rw[na,na],<-bm]
  cases ns with
  |nil=>cases hm
  |cons x l=>
   cases hm
   rfl
 rw[<-em]
 exact⟨.int m,H,I.kept (t':=tk) kp,⟨_,rfl⟩,q⟩
theorem D0(ha:DB X κ a fa)(hm:X.mg "max" =none)(hg:Gl X "max" :=by rfl)(hc:X.calm=true:=by rfl)(hs:starEach [a] X.env=(false,eval a X.env)::starEach [] X.env:=by rfl):DE X κ (.Call (.Name "max" p) [a] [] pos) (bW uG fa):=by
 obtain⟨ta,h1,h2⟩:=ha
 refine⟨_,iO (vU hc) hg hm (by decide+kernel) (aI h1 bB hs) (he:=hs),λ{G A bo own ρ σ H p Q} r e q=>?_⟩
 obtain⟨p1,e1,e2⟩:=zn.mp e
 refine h2 r e1 λx H1 s1 b1=>?_
 cases p1<;>first|(cases e2;done)|skip
 obtain⟨ns,e3,e4⟩:=zn.mp e2
 obtain⟨m,e5,rfl⟩:=xz.mp e4
 obtain⟨a,vs,rfl,q1,q2⟩:=b1.lst ay
 rw[Hk q2 e3]at q1
 exact⟨a,ns,m,rfl,q1.sq,e5,q _ H1 s1 (.int _)⟩
theorem z6{l u st:Option (Int×Tok)}{y:Str}{t:Tok}{Q:Value->Shared->Prop}{s:Shared}(h0:(st.map (·.1)).getD 1≠0)(hy:y.length<=sizeLine)(q:∀t' k,Q (.str (di y (l.map (·.1)) (u.map (·.1)) ((st.map (·.1)).getD 1)) t') {s with toks:=k}):(sliceMade y t l u st).post Q s:=by
 unfold sliceMade
 unfold di at q
 unfold slicePicked
 split
 ·rename_i hh
  rw[if_pos hh]at q
  exact q t s.toks
 ·rename_i hh
  rw[if_neg hh]at q
  refine⟨?_,q _ _⟩
  show((Builtin.Str.strSliceIndices _ _ _ y.length).filterMap (y.cps[·]?)).toArray.size<=sizeLine
  rw[wP]
  have h1:=qe (y.cps[·]?) (Builtin.Str.strSliceIndices (l.map (·.1)) (u.map (·.1)) ((st.map (·.1)).getD 1) y.length)
  have h2:=sliceIndicesBy_le (l.map (·.1)) (u.map (·.1)) ((st.map (·.1)).getD 1) h0 y.length
  omega
theorem Of:LP X (λx lo hi H Q=>∃y,x=.str y/\y.length<=sizeLine/\Q (.str (di y lo hi 1)) H):=by
 intro pins s σ H x v vl vu lo hi sl Q I rx hs pl pu h
 obtain⟨y,rfl,hy,q⟩:=h
 obtain⟨t,rfl⟩:=rx
 obtain⟨l,rfl,hl⟩:=zY pl
 obtain⟨u,rfl,hu⟩:=zY pu
 refine⟨"str",_,F.slot_str_getitem.lookup,typeIs_str _ _ _,wpAny_getItem_str_slice (l:=l) (u:=u) (st:=none) hs rfl (z6 (st:=none) (by decide) hy λt' k=>?_)⟩
 rw[hl,hu]
 exact⟨.str _,H,I.tok _,⟨_,rfl⟩,q⟩
theorem nX{p2:Pos}{lo hi:Option Expr}{fl fh:sY}(ha:DB X κ a fa)(hl:DP X κ lo fl)(hh:DP X κ hi fh):DE X κ (.Subscript a (.Slice lo hi none p2) pos) (zI fa fl fh):=by
 obtain⟨ta,h1,h2⟩:=ha
 obtain⟨tl,h3,h4⟩:=hl
 obtain⟨th,h5,h6⟩:=hh
 refine⟨_,uj (Dc.or Of) h1 h3 h5,λ{G A bo own ρ σ H p Q} r e q=>?_⟩
 obtain⟨p1,e1,e2⟩:=zn.mp e
 obtain⟨o1,e3,e4⟩:=zn.mp e2
 obtain⟨o2,e5,e6⟩:=zn.mp e4
 refine h2 r e1 λx H1 s1 b1=>h4 (r.mono s1) e3 λH2 s2=>h6 ((r.mono s1).mono s2) e5 λH3 s3=>?_
 have Hc:=(s1.trans s2).trans s3
 cases p1<;>first|(cases e6;done)|skip
 ·obtain⟨hy,rfl⟩:=bj e6
  exact .inr ⟨_,by rw[b1.str],hy,q _ H3 Hc (.str _)⟩
 ·cases e6
  obtain⟨a,vs,rfl,q1,q2⟩:=(b1.Dx (s2.trans s3)).lst ay
  exact .inl ⟨a,vs,rfl,q1.sq,λn hn=>q _ _ (Hc.trans (bD hn)) (OR.rep (r.mono Hc) ((r.mono Hc).xW hn (q2.cut o1 o2)))⟩
end
section
variable{X:Cx}{κ:Kl}{pos p p2:Pos}{a b c e:Expr}{fa fb:Den}
theorem KJ{te tc:TE}(he:PE X e te)(hc:PE X c tc):PE X (.Subscript e (.Slice none none (some c) p2) pos) (λσ H Q=>te σ H λx H1=>tc σ H1 λz H2=>∃y,x=.str y/\z=.int (-1)/\y.length<=sizeLine/\Q (.str (di y none none (-1))) H2):=by
 intro pins s σ H Q I h
 refine Subscript_ (dH (he pins s σ H _ I h) λv s1 cw=>?_)
 obtain⟨x,H1,I1,r1,q1⟩:=cw
 refine wpAny_Slice ?_
 rw[evalPart_none]
 refine wpAny_pure (wpAny_pure ?_)
 rw[evalPart_some]
 refine dH (hc pins s1 σ H1 _ I1 q1) λu s3 cw=>?_
 obtain⟨z,H3,I3,r3,y,ex,ez,hy,q⟩:=cw
 subst ex ez
 obtain⟨t,rfl⟩:=r1
 obtain⟨t',rfl⟩:=r3
 have I4:Inv X pins σ H3 {s3 with heap:=s3.heap.push {cls:=.type "slice",data:=.fields #[.none,.none,.int (-1) t']}}:=I3.kept (t':=s3.toks) λb ob q=>wp _ q
 show wpAny (model X.prog X.w) X.A (subscriptTail e (.Slice none none (some c) p2) (.str y t) (.ref s3.heap.objs.size)) (EP X pins σ Q) X.xe {s3 with heap:=s3.heap.push {cls:=.type "slice",data:=.fields #[.none,.none,.int (-1) t']}}
 refine tail_any (ops:=[.ref s3.heap.objs.size,.str y t]) (T:= "str") (typeIs_str _ _ _) F.slot_str_getitem.lookup ?_ (by with_unfolding_all rfl)
 refine wpAny_getItem_str_slice (l:=none) (u:=none) (st:=some (-1,t')) ⟨_,ZH _ rfl,rfl,rfl⟩ rfl (z6 (st:=some (-1,t')) (show(-1:Int)≠0 by decide) hy λXI k=>?_)
 exact⟨.str _,H3,I4.tok _,⟨_,rfl⟩,q⟩
theorem KL(ha:DB X κ a fa)(hc:DB X κ c (bW lj (dC (.int 1)))):DE X κ (.Subscript a (.Slice none none (some c) p2) pos) (bW NP fa):=by
 obtain⟨ta,h1,h2⟩:=ha
 obtain⟨tc,h3,h4⟩:=hc
 refine⟨_,KJ h1 h3,λ{G A bo own ρ σ H p Q} r e q=>?_⟩
 obtain⟨p1,e1,e2⟩:=zn.mp e
 refine h2 r e1 λx H1 s1 b1=>h4 (r.mono s1) (p:=.int (-1)) rfl λz H2 s2 b2=>?_
 cases p1<;>first|(cases e2;done)|skip
 obtain⟨hy,rfl⟩:=bj e2
 exact⟨_,b1.str,b2.int,hy,q _ H2 (s1.trans s2) (.str _)⟩
end
theorem walkD2{l:PySem.W.OpenLaw}{n k:Nat}{q:Program}{loose:List Str}{XP:(Str->Option Value)->Heap->Prop}{YP:World->Heap->Prop}{d:DefRec}{K:Params->PySem.W.Frag}{x:Str}{F:List PV->Option PV}
  (hn:l.most=some n)(O9:n<=sizeLine)(Te:d.params.defaults=[])(hr:cg k callerA)
  (hY:∀(w:World) (h:Heap),YP w h->(K w.params).In h)
  (FF:∀(w:World) (mg:Str->Option Value) (fa:Addr) (h:Heap),(K w.params).In h->h.Ns mainGlobals mg->mg d.name=some (.ref fa)->
    ∃(κ:Kl) (fd:FuncData),(∀(s:Shared) (u:Value),BindsTo s fd ⟨[u],[]⟩ [(x,u)])/\
     ∀base:Heap,(K w.params).In base->base.Ns mainGlobals mg->aL l.prog w (K w.params) mg base cP k fa fd [x] (d5 (K w.params) κ false F))
  (hF:∀ns:List Int,ns.length<=n->F [.lst (ns.map .int)]=some (.bl true)):
  PySem.W.WalkO q loose XP YP l.row.toRowW d [] (λf vs=>PySem.call f vs):=by
 refine Att.zj hn Te λw s₀ s₁ mg mb fa o pm cd doc a vs ns G Y ho hd pK Qu Nl hints hlen hg=>?_
 have KX:=hY w _ Y
 obtain⟨κ,fd,hb,T6⟩:=FF w mg fa _ KX G.T.g Qu
 refine EM KX G.T.g G.T.b G.T.builtins G.T.nolimit hg Nl hints (ZB hlen O9) hr T6 hb (λH hO hS=>?_) λH e s' z=>z
 have e:hide (λ_=>False) H=H:=by
  funext b
  exact c7 λz=>z
 refine⟨λ_=>False,[.lst (ns.map .int)],.bl true,λb z=>z.elim,.cons ?_ .nil,hF ns hlen,λv H' s z=>?_⟩
 ·rw[e]
  exact .lst hS (ints_rep ns)
 ·cases(show Rep (K w.params) κ _ v (.bl true)from z)
  rfl
theorem nY{X:Cx}{κ:Kl}{pos:Pos}{a:Expr}{fa:Den}{f:Str}(hκ:κ.fld=tF)(hf:Hl X.K κ f)(ha:DB X κ a fa)(hb:attributeBase a f X.env (eval a X.env)=eval a X.env:=by rfl):DE X κ (.Attribute a f pos) (bW (pX tF f) fa):=by
 rw[<-hκ]
 exact N7 ha hf hb
structure Em(K:PySem.W.Frag)(x q:Str)(st:Stmt)(ps:List Str)(f:Addr)(fd:FuncData):Prop where
 F:L2.Jr K x q st f fd
 b:L2.Binds K fd ps []
def KN(s:Stmt)(j:Nat):Stmt:=match s with
 |.ClassDef _ _ _ b _ _ _ _ _ _ _=>b.getD j (.Pass ⟨0,0,0,0⟩)
 |_=>.Pass ⟨0,0,0,0⟩
structure Cf(K:PySem.W.Frag)(mg:Str->Option Value)(κ:Kl)(CR CC fH fA fY fS fC:Addr):Prop where
 fld:κ.fld=tF
 cls:∀c,c<4->Bg K (κ.adr c)
 nn:ie K (κ.adr 0) "name"
 nw:∀c,0<c->c<4->ie K (κ.adr c) "wanted"
 np:∀c,0<c->c<4->ie K (κ.adr c) "parts"
 kH:Mk K (κ.adr 0) fH
 kA:Mk K (κ.adr 1) fA
 kY:Mk K (κ.adr 2) fY
 kS:Mk K (κ.adr 3) fS
 gH:mg "Hand" =some (.ref (κ.adr 0))
 gA:mg "All" =some (.ref (κ.adr 1))
 gY:mg "Any" =some (.ref (κ.adr 2))
 gS:mg "Some" =some (.ref (κ.adr 3))
 cf:Me K CC "__init__" fC
 gC:mg "Counting" =some (.ref CC)
 isR:∀c,c<4->Od K (κ.adr c) CR
 gR:mg "Rule" =some (.ref CR)
section
variable{K:PySem.W.Frag}{mg:Str->Option Value}{κ:Kl}{CR CC fH fA fY fS fC:Addr}
theorem Ht{c:Nat}{f:Str}(h:f∈tF c):(c=0/\f= "name")\/(0<c/\c<4/\(f= "wanted" \/f= "parts")):=by
 unfold tF at h
 split at h
 ·exact .inl ⟨by assumption,by simpa using h⟩
 ·split at h
  ·exact .inr ⟨by omega,by assumption,by simpa using h⟩
  ·cases h
theorem Cf.wO(C:Cf K mg κ CR CC fH fA fY fS fC)(f:Str):Hl K κ f:=λc h=>by
 rw[C.fld]at h
 rcases Ht h with⟨rfl,rfl⟩|⟨h1,h2,rfl|rfl⟩
 ·exact⟨C.cls 0 (by decide),C.nn⟩
 ·exact⟨C.cls c h2,C.nw c h1 h2⟩
 ·exact⟨C.cls c h2,C.np c h1 h2⟩
end
end L2.D
namespace PySem.SeqAt
open PySem.Spec
open AutoSeq1 (wpAny_loadPart')
open MeetsSeq MeetsSeq2 MeetsSeq3 SeqRoads2
theorem vV(l:Addr)(items:Array Value)(n:Nat)(dd:Option Addr)(sl:Array (Option Value))(x:Value)(e:Value->Bool)(k:Nat)(hk:k<items.size)(h1:e items[k]=true)(h2:∀j (hj:j<k),e (items[j]'(by omega))=false):
  Meets (Builtin.«tuple.index» ⟨[.ref l,x],[]⟩)
   (λA R s=>s.heap.get? l=some {cls:=.type "tuple",dict:=dd,data:=.seq items n,slots:=sl}/\(∀y,y∈items->EqAt A.in1 s y x (e y))/\R (.ok (.ret (.int (k:Nat) s.toks))) {s with toks:=s.toks+1}):=
 .of_wp λprog w A R s h=>by
  obtain⟨hp,g,d,tk,os⟩:=s;obtain⟨hl,he,h⟩:=h
  unfold Builtin.«tuple.index»
  simp only[Std.Legacy.Range.forIn_eq_forIn_range',Std.Legacy.Range.size,YV,Nat.add_sub_cancel,Nat.div_one]
  wp_walk using wpAny_loadPart' hl,wpAny_forIn_list _ (λrest b s'=>b.1=none/\s'=⟨hp,g,d,tk,os⟩/\∃i,rest=List.range' i (items.size-i)/\i<=k) _
  case turn=>
   rintro j rest b s' ⟨hb,rfl,i,hr,hi⟩
   have ee:items.size-i=(items.size-(i+1))+1:=by omega
   rw[ee,XI]at hr
   injection hr with q1 q2
   subst q1
   have hj:j<items.size:=by omega
   rw[Array.getElem?_eq_getElem hj]
   refine wpAny_bind (he items[j] (Array.getElem_mem hj) prog w _ _ ?_)
   rcases X9 j k with i0|hge
   ·rw[h2 j i0]
    wp_walk
    exact⟨rfl,rfl,j+1,q2,i0⟩
   ·obtain rfl:j=k:=by omega
    rw[h1]
    wp_walk
    exact⟨_,rfl,h⟩
  case fin=>
   rintro⟨b1,b2⟩ s' ⟨hb,rfl,i,hr,hi⟩
   have ee:items.size-i=(items.size-(i+1))+1:=by omega
   rw[ee,XI]at hr
   cases hr
  case h=>
   exact⟨rfl,rfl,0,by simp,ZI _⟩
end PySem.SeqAt
namespace L2.D
open PySem PySem.Spec PyProof.Rows PySem.SeqAt
section
variable{X:Cx}{κ:Kl}{pos p p2 apos:Pos}{a b c e:Expr}{fa fb:Den}
def BS(x:Str):Value->Bool
 |.str y _=>decide (y=x)
 |_=>false
theorem z7{x:Str}:∀{ts:List Str} {us:List Value},Vals (ts.map V.str) us->x∈ts->∃h:fD x ts<us.length,BS x us[fD x ts]=true/\∀j (hj:j<fD x ts),BS x (us[j]'(Nat.lt_trans hj h))=false
 |[],_,_,h=>nomatch h
 |y::ts,_,.cons ⟨t,ht⟩ r,h=>by
  subst ht
  by_cases e:y=x
  ·subst e
   have z:fD y (y::ts)=0:=by unfold fD;rw[if_pos rfl]
   refine⟨by rw[z];simp,?_,λj hj=>by rw[z]at hj;omega⟩
   simp only[z]
   show decide (y=y)=true
   simp
  ·have hx:x∈ts:=(ZJ.mp h).resolve_left λz=>e z.symm
   obtain⟨h1,h2,h3⟩:=z7 r hx
   have z:fD x (y::ts)=fD x ts+1:=by
    show(if y=x then 0 else 1+fD x ts)=_
    rw[if_neg e,Nat.add_comm]
   refine⟨by rw[z];simpa using h1,?_,λj hj=>?_⟩
   ·simp only[z]
    exact h2
   ·cases j with
    |zero=>
     show decide (y=x)=false
     simpa using e
    |succ j=>
     rw[z]at hj
     exact h3 j (by omega)
theorem wQ{A:Around}{s:Shared}{y x:Str}{t u:Tok}:EqAt A s (.str y t) (.str x u) (decide (y=x)):=λprog w E Q h=>wpAny_eqBool_str h
theorem wR{x:Str}:∀{ts:List Str} {us:List Value},Vals (ts.map V.str) us->∀v∈us,∃y t,v=.str y t
 |[],_,.nil,v,h=>nomatch h
 |y::ts,_,.cons ⟨t,ht⟩ r,v,h=>by
  rcases ZJ.mp h with rfl|h
  ·exact⟨y,t,ht⟩
  ·exact wR (x:=x) r v h
theorem Hu{ta:TE}{tb:TE}(ha:PE X a ta)(hb:PE X b tb)(gq:attributeBase a "index" X.env (eval a X.env)=eval a X.env:=by rfl)
  (qW:((backTo pos (starEach [b] X.env)).all (λx=>!x.1)&&(backToKw pos (keywordEach [] X.env)).all (λx=>x.1.isSome)
    &&decide ([b].length+([]:List Keyword).length+(if([]:List Keyword).isEmpty then 0 else 1)<30))=true:=by rfl)
  (gr:(apos.endLine==pos.line)=true:=by rfl)(hs:starEach [b] X.env=(false,eval b X.env)::starEach [] X.env:=by rfl):
  PE X (.Call (.Attribute a "index" apos) [b] [] pos) (λσ H Q=>ta σ H λx H1=>∃p ts,x=.ref p/\kC X.K H1 p (ts.map V.str)/\tb σ H1 λy H2=>∃z,[y]=[V.str z]/\kC X.K H2 p (ts.map V.str)/\z∈ts/\Q (.int (fD z ts:Nat)) H2):=by
 intro pins s σ H Q I h
 refine wpAny_Call_method_late gq qW gr rfl (dH (ha pins s σ H _ I h) λv s1 cw=>?_)
 obtain⟨x,H1,I1,r1,p,ts,ex,hq,q1⟩:=cw
 subst ex
 cases r1
 obtain⟨its,rv,pl,hz⟩:=I1.tuple hq
 have nd:=I1.MS hq
 refine⟨"tuple","tuple.index",PySem.F.plainAttrs_tuple,XS,PySem.F.type_tuple_index,(show s1.heap.IsTuple p its.toArray from pl).typeIs,λa e=>by cases e;exact nd,?_⟩
 have hA:=aI hb bB hs pos pins s1 σ H1 (λvs H2=>∃z,vs=[.str z]/\kC X.K H2 p (ts.map V.str)/\z∈ts/\Q (.int (fD z ts:Nat)) H2) I1 q1
 rw[hs]at hA⊢
 refine Calls.callWith_builtin (by rfl) (Calls.evalArgs_plain ?_)
 refine dH hA λus s2 cw=>?_
 obtain⟨vs,H2,I2,r2,z,ez,Wn,hm,q2⟩:=cw
 subst ez
 obtain⟨u,rfl,t,rfl⟩:=vals1 r2
 obtain⟨mq,Sg,⟨⟨cls,dd,data,sl⟩,ho,hc,n,hd⟩,XJ⟩:=I2.tuple Wn
 simp only at hc hd
 subst hc hd
 obtain⟨h1,h2,h3⟩:=z7 Sg hm
 refine call_meets XS ⟨_,ho,rfl⟩ PySem.F.entry_tuple_index (PySem.F.args_tuple_index_2 _ _) (vV p mq.toArray n dd sl (.str z t) (BS z) (fD z ts) (by simpa using h1) (by simpa using h2) (λj hj=>by simpa using h3 j hj)) ⟨ho,λy hy=>?_,?_⟩
 ·obtain⟨y',t',rfl⟩:=wR (x:=z) Sg y (by simpa using hy)
  exact wQ
 ·exact⟨.int _,H2,I2.tok _,⟨_,rfl⟩,q2⟩
theorem z8(ha:DB X κ a fa)(hb:DB X κ b fb)(gq:attributeBase a "index" X.env (eval a X.env)=eval a X.env:=by rfl)
  (qW:((backTo pos (starEach [b] X.env)).all (λx=>!x.1)&&(backToKw pos (keywordEach [] X.env)).all (λx=>x.1.isSome)
    &&decide ([b].length+([]:List Keyword).length+(if([]:List Keyword).isEmpty then 0 else 1)<30))=true:=by rfl)
  (gr:(apos.endLine==pos.line)=true:=by rfl)(hs:starEach [b] X.env=(false,eval b X.env)::starEach [] X.env:=by rfl):DE X κ (.Call (.Attribute a "index" apos) [b] [] pos) (ag xT fa fb):=by
 obtain⟨ta,h1,h2⟩:=ha
 obtain⟨tb,h3,h4⟩:=hb
 refine⟨_,Hu h1 h3 gq qW gr hs,λ{G A bo own ρ σ H p Q} r e q=>?_⟩
 obtain⟨p1,e1,e2⟩:=zn.mp e
 obtain⟨p2,e3,e4⟩:=zn.mp e2
 (cases p1<;>first|(cases e4;done)|skip)<;>cases p2<;>first|(cases e4;done)|skip
 obtain⟨ts,e5,e6⟩:=zn.mp e4
 obtain⟨ok,rfl⟩:=bj e6
 refine h2 r e1 λx H1 s1 b1=>?_
 obtain⟨a,vs,rfl,q1,q2⟩:=b1.tup ay
 have ev:=uV q2 e5
 subst ev
 refine⟨a,ts,rfl,q1,h4 (r.mono s1) e3 λy H2 s2 b2=>?_⟩
 rw[b2.str]
 exact⟨_,rfl,l9 s2 q1,of_decide_eq_true ok,q _ H2 (s1.trans s2) (.int _)⟩
theorem aV.rev{K:PySem.W.Frag}{H:Hp}{vs:List V}{l:List PV}(h:aV K κ H vs l):aV K κ H vs.reverse l.reverse:=by
 cases h with
 |nil=>exact .nil
 |cons r t=>
  rw[YY,YY]
  exact(aV.rev t).append (.cons r .nil)
end
theorem yd{α:Type}{us:List α}(h:us.length=1):∃a,us=[a]:=Xr.mp h
theorem oO{α:Type}{us:List α}(h:us.length=2):∃a b,us=[a,b]:=match us,h with|[a,b],_=>⟨a,b,rfl⟩
theorem z9{α:Type}{us:List α}(h:us.length=3):∃a b c,us=[a,b,c]:=match us,h with|[a,b,c],_=>⟨a,b,c,rfl⟩
theorem Og{α:Type}{us:List α}(h:us.length=4):∃a b c d,us=[a,b,c,d]:=match us,h with|[a,b,c,d],_=>⟨a,b,c,d,rfl⟩
section
variable{X:Cx}{κ:Kl}{a:Expr}{fa:Den}{pos p1 p2:Pos}{k:Nat}
theorem Q8{ta:TE}{c:Str}(ha:PE X a ta)(hs:evalEach [.FormattedValue a 114 none p1,.Constant (.str c) k p2] X.env=[eval (.FormattedValue a 114 none p1) X.env,eval (.Constant (.str c) k p2) X.env]:=by rfl):
  PE X (.JoinedStr [.FormattedValue a 114 none p1,.Constant (.str c) k p2] pos) (λσ H Q=>ta σ H λx H1=>∃i,x=.str i/\(reprText i).length+c.length<=100000/\∀out,Q (.str out) H1):=by
 intro pins s σ H Q I h
 have zl:(100000:Nat)<=sizeLine:=by decide
 refine wpAny_JoinedStr ?_
 rw[hs]
 refine wpAny_FormattedValue_repr (dH (ha pins s σ H _ I h) λv s1 cw=>?_)
 obtain⟨x,H1,I1,r1,i,ex,hz,q⟩:=cw
 subst ex
 obtain⟨t,rfl⟩:=r1
 refine wpAny_pyReprObj_str ?_ (by omega)
 have e0:(Str.empty:Str).length=0:=rfl
 have fin:∀(s':Shared),Inv X pins σ H1 s'->Joins (model X.prog X.w) X.A X.xe [eval (.Constant (.str c) k p2) X.env] (Str.empty++reprText i) (λout s₁=>out.length<=sizeLine/\EP X pins σ Q (.str out s₁.toks) {s₁ with toks:=s₁.toks+1}) s':=λs' I'=>by
  show wpAny _ _ (eval (.Constant (.str c) k p2) X.env) _ _ s'
  refine dH (A8 (X:=X) (x:=c) pins s' σ H1 (λx H2=>x=.str c/\H2=H1) I' ⟨rfl,rfl⟩) λv s2 cw=>?_
  obtain⟨y,H2,I2,r2,ey,eH⟩:=cw
  subst ey eH
  obtain⟨t2,rfl⟩:=r2
  have hl:(Str.empty++reprText i++c).length<=sizeLine:=by
   rw[strLen_append,strLen_append,e0]
   omega
  exact⟨c,t2,rfl,hl,hl,.str _,_,I2.tok _,⟨_,rfl⟩,q _⟩
 have hl:(Str.empty++reprText i).length<=sizeLine:=by
  rw[strLen_append,e0]
  omega
 exact wpAny_formatField_str ⟨_,_,rfl,hl,fin _ (I1.tok _)⟩ ⟨_,_,rfl,hl,fin _ ((I1.tok _).tok _)⟩ (by omega)
end
abbrev Q9:List Value:=[.type "ValueError",.type "Exception",.type "BaseException",.type "object"]
def Aa(K:PySem.W.Frag)(C:Addr):Prop:=∀h:Heap,K.In h->∃(nm q:Str) (N:Addr) (bs bm:List Value) (hdct:Bool) (sn:List Str) (sub:List Value) (ab:Bool) (col:Option Bool) (dd:Option Addr) (k0 k1 k2 k3 k5:Option Value) (mN:Str->Option Value),
 bm.contains (.type "BaseException")=true/\mN "__init__" =none/\h.get? C=some (excClassObj nm q C N bs bm hdct sn sub ab col dd k0 k1 k2 k3 k5 "ValueError.__new__")/\h.Ns N mN/\OwnTail h Q9 bm
theorem Aa.of{K:PySem.W.Frag}{C:Addr}(q:PySem.W.excIn K C Q9 "ValueError.__new__" =true):Aa K C:=λh X=>by
 unfold PySem.W.excIn at q
 split at q
 case h_2=>cases q
 rename_i dx cd slots at_
 split at q
 case h_2=>cases q
 rename_i D tl a0 a1 a2 a3 b a5 Ra Wo
 simp only[re,beq_iff_eq,YZ]at q
 obtain⟨⟨⟨⟨⟨same,Rb⟩,Mf⟩,tail⟩,Oh⟩,Hv⟩:=q
 subst same Rb
 cases cd
 simp only at Ra Mf Oh Hv
 subst Ra Mf
 have es:slots=#[a0,a1,a2,a3,some (.builtin "ValueError.__new__"),a5]:=by rw[<-Wo]
 subst es
 have T:=PySem.W.tail_of_in (bmB:=Q9) X tail
 exact⟨_,_,_,_,_,_,_,_,_,_,_,_,_,_,_,_,_,T.hasType (by decide+kernel),PySem.W.nsMap_none_of_in X Oh Hv,X _ _ at_,.of_isNs (PySem.W.isNs_of_in X Oh),T⟩
section
variable{X:Cx}{κ:Kl}{a:Expr}{fa:Den}{pos np eJ:Pos}{x:Str}{C:Addr}{P:Hp->Prop}
theorem Hw{ta:TE}(hC:Aa X.K C)(hm:X.mg x=some (.ref C))(ha:PE X a ta)(hx:∀pins σ H s v h' e,Inv X pins σ H s->Heap.MadeExcOf s.heap h' e (.ref C) [v]->P H->X.xe (.ref e) {s with heap:=h'})
  (hg:Gl X x:=by rfl)(hc:X.calm=true:=by rfl)(hd:(x==("__debug__" :Str))=false:=by decide)(hs:starEach [a] X.env=(false,eval a X.env)::starEach [] X.env:=by rfl)(hpl:(backTo eJ (starEach [a] X.env)).any (·.1)=false:=by rfl):
  PS X (.Raise (some (.Call (.Name x np) [a] [] eJ)) none pos) (λD σ H=>ta σ H λv H1=>∃y,[v]=[y]/\P H1):=by
 intro pins s σ H D I h
 obtain⟨nm,q,N,bs,bm,hdct,sn,sub,ab,col,dd,k0,k1,k2,k3,k5,mN,hb,Mh,c1,c2,c3⟩:=hC X.base I.ok.mod.kin
 refine wpAny_Raise_call_subU (C:=C) (nm:=nm) (q:=q) (N:=N) (bs:=bs) (bm:=bm) (hdct:=hdct) (sn:=sn) (sub:=sub) (ab:=ab) (col:=col) (dd:=dd) (k0:=k0) (k1:=k1) (k2:=k2) (k3:=k3) (k5:=k5) Y1 (bmB:=Q9) (by decide+kernel) Y1 (mN:=mN) hb (I.ok.hd hc) hpl Mh ?_
 refine nP I hg hm ⟨rfl,?_⟩ hd
 have hA:=aI ha bB hs eJ pins s σ H (λvs H1=>∃y,vs=[y]/\P H1) I h
 rw[hs]at hA⊢
 refine Calls.evalArgs_plain ?_
 refine dH hA λus s2 cw=>?_
 obtain⟨vs,H2,I2,r2,y,ey,q2⟩:=cw
 subst ey
 obtain⟨u,rfl,ru⟩:=vals1 r2
 have zl:(1:Nat)<=sizeLine:=by decide
 exact⟨rfl,zl,I2.bk _ _ c1,c2.keeps I2.bk,c3.keeps I2.bk,λh' e Sl=>hx pins σ H2 s2 u h' e I2 Sl q2⟩
end
end L2.D
namespace L2.D
open PySem PySem.W PySem.Spec PySem.Calls PyProof.Rows Builtin Builtin.ObjectAttr Builtin.Getset_descriptor
structure vW(K:Frag)(C:Addr):Prop where
 ga:findIn K (.ref C) "__getattribute__" =some (some (.builtin "BaseException.__getattribute__"))
 gh:findIn K (.ref C) "__getattr__" =some none
 ca:findIn K (.ref C) "__class__" =some (some (.builtin "object.__class__"))
 hn:specialIn K (.builtin "object.__class__") "__get__" =some (some (.builtin "getset_descriptor.__get__"))
 Pc:takesIn K (.builtin "object.__class__")=some true
 hm:mroIn K C (.type "object")=some true
 hb:mroIn K C (.type "BaseException")=some true
 hc:(clsIn K C).isSome=true
def FU(C a:Addr)(h:Heap):Prop:=∃o,h.get? a=some o/\o.cls=.ref C
theorem FU.type{M:Model}{h:Heap}{C a:Addr}(I:FU C a h):Looks M h (typeOf (.ref a)) (.ref C):=by
 obtain⟨o,h1,h2⟩:=I
 rw[<-h2]
 exact(Looks.ld h1).andThen .now
theorem BU{K:Frag}{M:Model}{h:Heap}(X:K.In h){x t a g:Value}{name:Str}(ha:findIn K t name=some (some a))(hg:specialIn K a "__get__" =some (some g))(ht:takesIn K a=some true):Looks M h (find x t name) (.bind g a):=
 (looks_findIn (M:=M) X ha).andThen ((show Looks M h (getOf (some a)) (some g)from looks_specialIn X hg).andThen
   ((show Looks M h (dataDescriptor? (some a) (some g)) (some (g,a))from(looks_takesIn (M:=M) X ht).andThen .now).andThen (Looks.tag .now)))
section
variable{prog:Program}{w:World}{A:Around}{E:Value->Shared->Prop}{s:Shared}{K:Frag}{x C:Addr}
theorem Hx{tp:Value}{R:Result->Shared->Prop}(X:K.In s.heap)(I:FU C x s.heap)(hm:mroIn K C (.type "object")=some true)
  (told:R (.ok (.ret (.ref C))) s):codeAny (model prog w) A (.call (.builtin "getset_descriptor.__get__") ⟨[.builtin "object.__class__",.ref x,tp],[]⟩) R s:=by
 obtain⟨h0,gs,dw,Rc,Rf⟩:=s
 have Oi:=I.type (M:=model prog w)
 have BV:=looks_mroIn (M:=model prog w) X hm
 refine codeAny_call_builtin KF.slot_gs.plain KF.entry_gs ?_
 refine KF.slot_gs.check _ _ _ _ _ _ _ _ KF.type_class (KF.args_gs _ _ _) ?_
 unfold Builtin.«getset_descriptor.__get__» descrGet;rw[dga_obj];refine wpAny_bind (wpAny_pure ?_)
 unfold descrGetter descrCheckInstance descrNameAndClass isInstance;simp only[KF.owner_class]
 repeat lk
 refine⟨Code.quiet_builtin _ (by decide+kernel),?_⟩
 refine codeAny_builtin KF.entry_class ?_;unfold Builtin.«object.__class__» shownTypeOf
 repeat lk
 exact told
theorem BW{tk:Tok}{Q:Fin->Shared->Prop}(Z:vW K C)(X:K.In s.heap)(I:FU C x s.heap)(h:Q (.done (.ret (.ref C))) s):
  wpAny (model prog w) A (Builtin.«object.__getattribute__» ⟨[.ref x,.str "__class__" tk],[]⟩) Q E s:=by
 obtain⟨h0,gs,dw,Rc,Rf⟩:=s
 have Oi:=I.type (M:=model prog w)
 have BV:=BU (M:=model prog w) (x:=.ref x) X Z.ca Z.hn Z.Pc
 unfold Builtin.«object.__getattribute__»;refine wpAny_bind (wpAny_pure (wpAny_bind (wpAny_pure (wpAny_bind (Oi.at (wpAny_bind (BV.at ?_)))))))
 unfold bindTo
 refine wpAny_bind (wpAny_holding (wpAny_call (Hx X I Z.hm ?_)))
 exact wpAny_pure h
theorem BX{M:Model}{Mi:Value}{Q:Unit->Shared->Prop}(Z:vW K C)(X:K.In s.heap)(I:FU C x s.heap)(hq:Q () s):wpAny M A (checkBuiltinCall "BaseException.__getattribute__" ⟨[.ref x,Mi],[]⟩) Q E s:=by
 obtain⟨h0,gs,dw,Rc,Rf⟩:=s
 have kd:builtinKind "BaseException.__getattribute__" =some .slot:=by decide+kernel
 have sp:splitId "BaseException.__getattribute__" =some ("BaseException","__getattribute__"):=by decide+kernel
 have Oi:=I.type (M:=M)
 have BV:=looks_mroIn (M:=M) X Z.hb
 have LI:Looks M h0 (isInstance (.ref x) (.type "BaseException")) true:=Oi.andThen BV
 have ha:=PySem.F.args_bexc_ga (.ref x) Mi
 simp only[checkBuiltinCall,kd,sp]
 refine wpAny_bind (LI.at ?_)
 repeat(first|wp_step)
 exact hq
theorem E2{Q:Option Value->Shared->Prop}(Z:vW K C)(X:K.In s.heap)(I:FU C x s.heap)(h:Q (some (.ref C)) {s with toks:=s.toks+1}):wpAny (model prog w) A (getAttr? (.ref x) "__class__") Q E s:=by
 obtain⟨h0,gs,dw,Rc,Rf⟩:=s
 have Oi:=I.type (M:=model prog w)
 have BV:=looks_findIn (M:=model prog w) X Z.ga
 have Rg:=looks_findIn (M:=model prog w) X Z.gh
 have f3:=Y2.ga.bind (.ref x)
 unfold getAttr? getAttrBy? getAttrBy;refine wpAny_bind (wpAny_mkText (wpAny_bind (wpAny_attempt (wpAny_holding (wpAny_bind (Oi.at (wpAny_bind (BV.at ?_))))))))
 have Tx:(onTheHeap (Value.ref C)&&Value.builtin "BaseException.__getattribute__" ==Value.builtin "object.__getattribute__")=false:=by
  rw[show(Value.builtin "BaseException.__getattribute__" ==Value.builtin "object.__getattribute__")=false from by decide+kernel]
  exact Bool.and_false _
 dsimp only
 rw[Tx]
 unfold getAttrByItsOwn hookBefore
 refine wpAny_bind (Rg.at ?_)
 refine wpAny_bind (wpAny_attempt (wpAny_holding ?_));unfold callGetattribute boundAndCalled
 rw[if_neg (by simp),f3]
 refine wpAny_bind (wpAny_pure (wpAny_call ?_))
 refine codeAny_call_builtin Y2.ga.plain PySem.F.entry_bexc_ga (BX Z X I (BW (s:=⟨h0,gs,dw,Rc+1,Rf⟩) Z X I ?_))
 refine wpAny_pure ?_
 exact wpAny_pure h
end
theorem wU{K:Frag}{M:Model}{h:Heap}{D:Addr}(X:K.In h)(hc:(clsIn K D).isSome=true):Looks M h (isType (.ref D)) true:=by
 obtain⟨cd,e⟩:=Z3.mp hc
 unfold clsIn at e
 split at e
 ·rename_i ob
  intro _ _ _ _ kp q
  unfold isType loadHead
  refine wpAny_bind (wpAny_loadPart (kp _ _ (X _ _ ob)) ?_)
  exact wpAny_pure q
 ·cases e
theorem Hy{K:Frag}{x C:Addr}(Z:vW K C):KitX K (.ref x) (.ref C) (FU C x) where
 ty:=λ_ _ _ I=>I.type
 it:=λ_ _ X _=>wU X Z.hc
 ne:=λ_ tp _ _ _ _ X at_=>by
  obtain⟨cd,e⟩:=Z3.mp Z.hc
  cases hq:(Value.ref C==Value.ref tp)with
  |false=>rfl
  |true=>
   have ct:C=tp:=Value.ref.inj (beq_iff_eq.mp hq)
   subst ct
   unfold clsIn at e
   split at e
   ·rename_i ob
    cases(X _ _ ob).symm.trans at_
   ·cases e
 ca:=λX I k=>E2 Z X I k
theorem Ab{K:Frag}{M:Model}{A:Around}{E:Value->Shared->Prop}{s:Shared}{C D e:Addr}{Q:Bool->Shared->Prop}(X:K.In s.heap)(I:FU C e s.heap)(h1:instIn K (.ref D) (.type "tuple")=some false)(h2:(clsIn K D).isSome=true)(h3:mroIn K D (.type "BaseException")=some true)(h4:mroIn K C (.ref D)=some true)
  (hq:Q true s):wpAny M A (excMatches (.ref e) (.ref D)) Q E s:=by
 obtain⟨h0,gs,dw,Rc,Rf⟩:=s
 have Oi:=I.type (M:=M)
 have BV:=looks_instIn (M:=M) X h1
 have Rg:=wU (M:=M) X h2
 have L3:=looks_mroIn (M:=M) X h3
 have L4:=looks_mroIn (M:=M) X h4
 unfold excMatches isExcClass
 repeat lk
 all_goals first|exact hq|skip
end L2.D
namespace L2.D
open PySem PySem.Spec PyProof.Rows PySem.SeqAt
open Classical
def xo(C a:Addr):HO:=.ext (FU C a)
theorem Rh{P:Program}{w:World}{H:Hp}{h:Heap}{C a:Addr}(x:FU C a h):fv P w H h a (xo C a):=by
 obtain⟨o,h1,h2⟩:=x
 exact⟨⟨o,h1,h2⟩,⟨o,h1⟩,λg1 g2 ⟨o',q1,q2⟩ k=>⟨o',k o' q1,q2⟩⟩
theorem Mj{P:Program}{w:World}{H:Hp}{h:Heap}{C a:Addr}(x:fv P w H h a (xo C a)):FU C a h:=x.1
theorem Hz{P:Program}{w:World}{H:Hp}{h:Heap}{a:Addr}{o:HO}(x:fv P w H h a o):∃ob,h.get? a=some ob:=by
 cases o with
 |lst xs=>obtain⟨_,_,_,_,e⟩:=x;exact⟨_,e⟩
 |tup xs=>obtain⟨⟨_,ob,e,_⟩,_⟩:=x;exact⟨_,e⟩
 |dK qK=>obtain⟨_,_,_,_,o,_,_,e,_⟩:=x;exact⟨_,e⟩
 |dT qK=>obtain⟨_,_,_,_,o,_,_,e,_⟩:=x;exact⟨_,e⟩
 |set S n=>obtain⟨o,_,_,_,e,_⟩:=x;exact⟨_,e⟩
 |ins C dx fs=>obtain⟨_,_,_,e,_⟩:=x;exact⟨_,e⟩
 |own y=>obtain⟨_,e⟩:=x;exact⟨_,e⟩
 |xd fs=>obtain⟨_,⟨_,_,_,e,_⟩,_⟩:=x;exact⟨_,e⟩
 |rng lo hi=>obtain⟨_,_,_,e⟩:=x;exact⟨_,e⟩
 |frz ob u=>obtain⟨e,_⟩:=x;exact⟨_,e⟩
 |tbl ps=>exact⟨_,(show h.get? a=some _ from x)⟩
 |met f y=>exact⟨_,(show h.get? a=some _ from x)⟩
 |ext φ=>obtain⟨_,e,_⟩:=x;exact e
structure Cg(P:Program)(w:World)(outer:List Env)(H:Hp)(s:Shared)(C e t:Addr)(s':Shared)(H':Hp)(B:Heap):Prop where
 os:s'.os=s.os
 bare:AllBare s'.gens
 un:Un (eI outer) [] H H' s.heap s'.heap
 dE:rW P w H' s'.heap
 E3:Heap.FlyingW B outer e (.ref C) (.ref t) s'.heap
 kp:∀b o,s.heap.get? b=some o->H b=none->b∉eI outer->B.get? b=some o
 th:∀b o,s.heap.get? b=some o->b∉eI outer->∃o',B.get? b=some o'
 tr:∀b u,H' b=some u->∃o',B.get? b=some o'
def nZ(P:Program)(w:World):FK:=λouter H s E e s'=>∃(a C t:Addr) (H':Hp) (B:Heap),e=.ref a/\Cg P w outer H s C a t s' H' B/\E (.ref C) none H'
theorem KO{env:Env}{outer:List Env}{b:Addr}(h:b∉eI (env::outer)):b∉eI outer:=λz=>h (by
 unfold eI at z⊢
 rw[ZZ]
 split
 ·exact z
 ·exact wf _ z)
section
variable{P:Program}{w:World}{K:PySem.W.Frag}{mg:Str->Option Value}{base:Heap}{N:List Str}{qual:Str}{scope:Scope}{f:Addr}{cD:Value}{A:Around}{outer:List Env}{s₀:Shared}{H₀:Hp}{E:XK}
theorem HA{pins:List (Addr×Obj)}{σ:St}{H:Hp}{s:Shared}{v:Value}{h':Heap}{e C:Addr}(I:Inv (mB (nZ P w) P w K mg base N qual scope f cD A outer s₀ H₀ E) pins σ H s)(hm:Heap.MadeExcOf s.heap h' e (.ref C) [v])(hE:E (.ref C) none H):
  (mB (nZ P w) P w K mg base N qual scope f cD A outer s₀ H₀ E).xe (.ref e) {s with heap:=h'}:=by
 have FF:=I.stack
 have Fr:=I.ok.frames
 have sf:=I.k9
 change s.heap.FunFrames base (envOfC qual scope s₀.heap.objs.size f cD::outer)at FF
 change(A.deeper (envOfC qual scope s₀.heap.objs.size f cD)).frames=some (envOfC qual scope s₀.heap.objs.size f cD::outer)at Fr
 change∀b∈eI (envOfC qual scope s₀.heap.objs.size f cD::outer),H b=none at sf
 show wpAny (model P w) (A.deeper (envOfC qual scope s₀.heap.objs.size f cD)) (leaving (envOfC qual scope s₀.heap.objs.size f cD) (.ref e)) (λ_ zf=>nZ P w outer H₀ s₀ E (.ref e) zf) _ {s with heap:=h'}
 generalize Oj:envOfC qual scope s₀.heap.objs.size f cD=env at FF Fr sf⊢
 have hf:env.frame=some s₀.heap.objs.size:=by rw[<-Oj];rfl
 have mem:∀b,b∈eI (env::outer)->b=s₀.heap.objs.size\/b∈eI outer:=λb hb=>by
  unfold eI at hb
  rw[ZZ,hf]at hb
  exact ZJ.mp hb
 refine wpAny_leaves_madeW (base:=PySem.W.hideAll s.heap (eI (env::outer))) (h:=s.heap) (env:=env) (outer:=outer) (L:=s₀.heap.objs.size) Fr hf (λb o q=>Yx _ q) (PySem.W.funFrames_hide FF λen Ub b hb=>YT.mpr ⟨en,Ub,hb⟩) hm λh2 t x1 x2 x3 x4=>?_
 have B1:∀b o,s.heap.get? b=some o->b∉eI (env::outer)->(PySem.W.hideAll s.heap (eI (env::outer))).get? b=some o:=λb o q n=>Yq _ q n
 have up:∀b o,s.heap.get? b=some o->b∈eI (env::outer)->∃sl,h2.get? b=some {o with slots:=sl}:=λb o q n=>by
  obtain⟨_,o',q',hd⟩:=FF.mem n
  rw[q]at q'
  cases q'
  exact x4 b o (hm.keeps b o q) hd
 have out:∀b o,s₀.heap.get? b=some o->b∉eI outer->b∉eI (env::outer):=λb o q n z=>by
  rcases mem b z with rfl|z
  ·exact absurd (ww q) (ZK _)
  ·exact n z
 have Ri:∀b,b∈eI outer->b∈eI (env::outer):=λb hb=>Zr λz=>KO z hb
 have bk:=I.base.keep
 have bs:=I.base.slot
 have bf:=I.base.free
 have bt:=I.base.there
 change∀b o,s₀.heap.get? b=some o->H₀ b=none->b∉eI outer->b∉[]->s.heap.get? b=some o at bk
 change∀b o,s₀.heap.get? b=some o->H₀ b=none->b∈eI outer->b∉[]->∃sl,s.heap.get? b=some {o with slots:=sl}at bs
 change∀b o,s₀.heap.get? b=some o->b∉[]->∃o',s.heap.get? b=some o' at bt
 have tk:∀b u,H b=some u->b∉eI (env::outer):=λb u q z=>by rw[sf b z]at q;cases q
 refine⟨e,C,t,H,_,rfl,⟨I.os,I.bare,⟨λb o q n hb hx=>?_,λb o q n hb hx=>?_,bf,λb o q hx=>?_,I.base.k7,I.base.kD,I.base.mi⟩,λb u q=>?_,x1,λb o q n hb=>?_,λb o q hb=>?_,λb u q=>?_⟩,hE⟩
 ·exact x1.1 b o (B1 b o (bk b o q n hb hx) (out b o q hb))
 ·obtain⟨sl,q1⟩:=bs b o q n hb hx
  obtain⟨A5,q2⟩:=up b _ q1 (Ri b hb)
  exact⟨A5,q2⟩
 ·obtain⟨o',q1⟩:=bt b o q hx
  by_cases hb:b∈eI (env::outer)
  ·obtain⟨sl,q2⟩:=up b o' q1 hb
   exact⟨_,q2⟩
  ·exact⟨o',x1.1 b o' (B1 b o' q1 hb)⟩
 ·refine(I.dE b u q).ke (λc v hc z=>?_) (λ_ z=>z) λ_ _ z=>z
  have:c∉eI (env::outer):=by
   rcases hc with rfl|hc
   ·exact tk c u q
   ·exact tk c _ hc
  exact x1.1 c v (B1 c v z this)
 ·exact B1 b o (bk b o q n hb (by simp)) (out b o q hb)
 ·obtain⟨o',q1⟩:=bt b o q (by simp)
  exact⟨o',B1 b o' q1 (out b o q hb)⟩
 ·obtain⟨o',q1⟩:=Hz (I.dE b u q)
  exact⟨o',B1 b o' q1 (tk b u q)⟩
end
section
variable{X:Cx}{pins:List (Addr×Obj)}{σ:St}{H1 H':Hp}{s1 s':Shared}{C e t:Addr}{B:Heap}
theorem HB(I:Inv X pins σ H1 s1)(G:Cg X.prog X.w X.stack H1 s1 C e t s' H' B){h3:Heap}(sB:∀b o,B.get? b=some o->h3.get? b=some o)(up:s'.heap.UpToSlots h3)(he:FU C e h3)(tk:Nat):
  H' e=none/\Inv X pins σ (upd H' e (xo C e)) {s' with heap:=h3,toks:=tk}:=by
 obtain⟨f1,f2,f3,f4⟩:=G.E3
 have FF:=I.stack
 have ne:H' e=none:=by
  cases q:H' e with
  |none=>rfl
  |some u=>
   obtain⟨o',z⟩:=G.tr e u q
   rw[f2]at z
   cases z
 have new:s1.heap.get? e=none:=by
  cases q:s1.heap.get? e with
  |none=>rfl
  |some o=>
   by_cases hb:e∈eI X.stack
   ·obtain⟨_,o',q',hd⟩:=f3.mem hb
    obtain⟨oe,vs,T,oT,ts,z1,_,z2,_⟩:=f4
    rw[q']at z1
    cases z1
    exact absurd z2 (hd vs)
   ·obtain⟨o',z⟩:=G.th e o q hb
    rw[f2]at z
    cases z
 have slot:∀b o,s1.heap.get? b=some o->H1 b=none->b∈eI X.stack->∃sl,h3.get? b=some {o with slots:=sl}:=λb o q n hb=>by
  obtain⟨sl,q1⟩:=G.un.slot b o q n hb (by simp)
  obtain⟨_,o',q',hd⟩:=FF.mem hb
  rw[q]at q'
  cases q'
  obtain⟨A5,q2⟩:=up b _ q1 hd
  exact⟨A5,q2⟩
 have sV:∀b u,H' b=some u->b≠e:=λb u q z=>by rw[z,ne]at q;cases q
 refine⟨ne,I.LG (s':={s' with heap:=h3,toks:=tk}) (ch:=[]) G.os ⟨λb o q n hb _=>sB b o (G.kp b o q n hb),λb o q n hb _=>slot b o q n hb,λb o q n _=>?_,λb o q _=>?_,λb xs q=>?_,λb o u q=>?_,λb ps q=>?_⟩ (λb u q=>?_) G.bare (λb z=>absurd z (by simp))⟩
 ·rw[aJ λz=>by rw[z,new]at q;cases q]
  exact G.un.free b o q n (by simp)
 ·by_cases hb:b∈eI X.stack
  ·obtain⟨sl,z⟩:=slot b o q (I.k9 b hb) hb
   exact⟨_,z⟩
  ·obtain⟨o',z⟩:=G.th b o q hb
   exact⟨o',sB b o' z⟩
 ·have z:=G.un.k7 b xs q
  rw[aJ (sV b _ z)]
  exact z
 ·have z:=G.un.kD b o u q
  rw[aJ (sV b _ z)]
  exact z
 ·obtain⟨more,z⟩:=G.un.mi b ps q
  exact⟨more,by rw[aJ (sV b _ z)];exact z⟩
 ·by_cases hb:b=e
  ·subst hb
   rw[aW]at q
   cases q
   exact Rh he
  ·rw[aJ hb]at q
   refine(G.dE b u q).ke (λc v hc z=>?_) (λc z=>by rw[aJ (sV c _ z)];exact z) λc xs z=>by rw[aJ (sV c _ z)];exact z
   obtain⟨o',z1⟩:∃o',B.get? c=some o':=by
    rcases hc with rfl|hc
    ·exact G.tr c u q
    ·exact G.tr c _ hc
   have z2:=f1 c o' z1
   rw[z]at z2
   cases z2
   exact sB c v z1
theorem Ol{H:Hp}{s:Shared}{M:Model}{A:Around}{E:Value->Shared->Prop}{i:Nat}{x:Str}{pos:Pos}{Q:Unit->Shared->Prop}(I:Inv X pins σ H s)(hN:X.N.Nodup)(hi:X.N[i]?=some x)(hl:X.env.scope.names.lookup x=some .local)
  (h:∀s',Inv X pins (σ.set i none) H s'->Q () s'):wpAny M A (do bindName X.env x .none;unbindBehindTheSuite X.env x pos) Q E s:=by
 obtain⟨m,hn,UL⟩:=id I.loc
 refine wpAny_nameGoes_keeps hl hn (by rw[I.ok.kind];rfl) λh' v PN hs=>?_
 have lt:∀b o,X.s₀.heap.get? b=some o->b≠X.env.locals:=λb o e=>ZV (wv (ww e) I.ok.above)
 refine h _ ⟨I.ok,I.os,I.bare,⟨λb o q n hb hx=>?_,λb o q n hb hx=>?_,I.base.free,λb o q hx=>?_,I.base.k7,I.base.kD,I.base.mi⟩,⟨_,PN,λj y v' e1 e2 e3=>?_⟩,λy c q=>?_,I.free,I.freeC,λp hp=>?_,λb u q=>?_,by rw[Z9];exact I.len⟩
 ·exact(hs.2 b (lt b o q)).trans (I.base.keep b o q n hb hx)
 ·obtain⟨sl,z⟩:=I.base.slot b o q n hb hx
  exact⟨sl,(hs.2 b (lt b o q)).trans z⟩
 ·obtain⟨o',z⟩:=I.base.there b o q hx
  exact⟨o',(hs.2 b (lt b o q)).trans z⟩
 ·by_cases hj:j=i
  ·subst hj
   rw[v6]at e2
   rw[if_pos rfl]at e2
   split at e2<;>cases e2
  ·rw[Z1 (Ne.symm hj)]at e2
   obtain⟨u,r,q⟩:=UL j y v' e1 e2 e3
   have Wq:y≠x:=λz=>hj (tY hN (z▸e1) hi)
   refine⟨u,r,?_⟩
   rcases q with⟨k,q⟩|⟨k,c,q1,q2⟩
   ·exact .inl ⟨k,by show(if y=x then v else m y)=some u;rw[if_neg Wq];exact q⟩
   ·exact .inr ⟨k,c,q1,q2.sameBut hs (I.JH y c q1)⟩
 ·obtain⟨v,z⟩:=I.cell y c q
  exact⟨v,z.sameBut hs (I.JH y c q)⟩
 ·obtain⟨p1,p2,p3,p4,p5⟩:=I.pin p hp
  exact⟨(hs.2 _ p3).trans p1,p2,p3,p4,p5⟩
 ·refine(I.dE b u q).ke (λc v hc z=>(hs.2 c ?_).trans z) (λ_ z=>z) λ_ _ z=>z
  rintro rfl
  rcases hc with rfl|hc
  ·rw[I.free]at q;cases q
  ·rw[I.free]at hc;cases hc
end
abbrev Cx.mk'(X:Cx)(e:Addr):Cx:={X with A:=X.A.mark (some (.ref e)),calm:=false,xe:=λ_ _=>False}
theorem Inv.U7{X:Cx}{pins:List (Addr×Obj)}{σ:St}{H:Hp}{s:Shared}(I:Inv X pins σ H s)(e:Addr):Inv (Cx.mk' X e) pins σ H s:=
 ⟨⟨I.ok.mod,I.ok.kind,I.ok.glob,I.ok.blt,I.ok.above,I.ok.inj,I.ok.has,I.ok.cab,λz=>(Bool.noConfusion z),I.ok.frames,I.ok.FI,I.ok.exf,I.ok.bs,I.ok.bsz,I.ok.noex,I.ok.exfs,I.ok.funs,I.ok.frf⟩,I.os,I.bare,I.base,I.loc,I.cell,I.free,I.freeC,I.pin,I.dE,I.len⟩
theorem Inv.Rj{X:Cx}{pins:List (Addr×Obj)}{σ:St}{H:Hp}{s:Shared}{e:Addr}(ok:X.Ok)(I:Inv (Cx.mk' X e) pins σ H s):Inv X pins σ H s:=
 ⟨ok,I.os,I.bare,I.base,I.loc,I.cell,I.free,I.freeC,I.pin,I.dE,I.len⟩
structure Below(K:PySem.W.Frag)(D C:Addr):Prop where
 h1:PySem.W.instIn K (.ref D) (.type "tuple")=some false
 h2:(PySem.W.clsIn K D).isSome=true
 h3:PySem.W.mroIn K D (.type "BaseException")=some true
 h4:PySem.W.mroIn K C (.ref D)=some true
def Pr(D:Ends)(σ:St)(jn jz:Nat)(ok:Addr->Prop):XK:=λc _ H2=>∃C,c=.ref C/\ok C/\∀a,H2 a=none->D.nx (((σ.set jn (some (.ref a))).set jz (some (.ref a))).set jn none) (upd H2 a (xo C a))
section
variable{X:Cx}{k:Nat}{f DD:Addr}{fd:FuncData}{ps:List Str}{sp:Sp}{ta:TA}{a0:Expr}{as:List Expr}{y z n x fn:Str}{iy iz jn:Nat}{pf pc py pa px pz pn pb ph pos:Pos}
theorem Ac{cv:V}{cu:Value}(rc:RelV cv cu)(Wr:∀u,RelV cv u->u=cu):jw X (.builtin "isinstance") (λxs H Q=>∃(a C:Addr) (b:Bool),xs=[.ref a,cv]/\H a=some (xo C a)/\vW X.K C/\PySem.W.kitOne X.K (.ref C) cu=some b/\Q (.bl b) H):=by
 intro pins s σ H xs us Q I r h
 obtain⟨a,C,b,rfl,ha,Z,Jx,q⟩:=h
 cases r with
 |cons r1 r2=>
  cases r2 with
  |cons r2 r3=>
   cases r3
   cases r1
   cases Wr _ r2
   exact ZT (Hy Z) I.k8 (Mj (I.dE a _ ha)) Jx (λz=>nomatch z) λtk=>⟨.bl b,H,I.tok _,rfl,q⟩
end
def RM(K:PySem.W.Frag)(κ:Kl)(A:Addr->Prop)(G H':Hp)(v:V)(p:PV):Prop:=if vP p=true then OR K κ A G H' v p else Rep K κ (hide A H') v p
theorem RM.of{K:PySem.W.Frag}{κ:Kl}{A:Addr->Prop}{G H':Hp}{v:V}{p:PV}(n:vP p=false)(h:Rep K κ (hide A H') v p):RM K κ A G H' v p:=by
 unfold RM
 rw[if_neg (by rw[n];exact Bool.noConfusion)]
 exact h
theorem OR.Uc{K:PySem.W.Frag}{κ:Kl}{A:Addr->Prop}{G H':Hp}{v:V}{p:PV}(al:∀b,A b->G b≠none)(z:OR K κ A G H' v p):Rep K κ (hide A H') v p:=by
 obtain⟨a,ws,l,rfl,rfl,z1,z2,z3⟩:=z
 refine .lst (SL.of ?_) (z3.mono (cV (λ_ _ z=>z) λb z _=>.inl z))
 rw[c7 λw=>al a w z1]
 exact z2
theorem RM.rep{K:PySem.W.Frag}{κ:Kl}{A:Addr->Prop}{G H':Hp}{v:V}{p:PV}(al:∀b,A b->G b≠none)(h:RM K κ A G H' v p):Rep K κ (hide A H') v p:=by
 unfold RM at h
 split at h
 ·exact OR.Uc al h
 ·exact h
theorem RM.big{K:PySem.W.Frag}{κ:Kl}{A:Addr->Prop}{G G' H':Hp}{v:V}{p:PV}(s:aE G G')(h:RM K κ A G' H' v p):RM K κ A G H' v p:=by
 unfold RM at h⊢
 split
 ·rename_i q
  rw[if_pos q]at h
  exact Pn h s λb z=>z
 ·rename_i q
  rw[if_neg q]at h
  exact h
def u0(K:PySem.W.Frag)(κ:Kl)(Ex:Nat->Hp->Prop)(G:Hp)(A:Addr->Prop)(bo:Nat->Option (Addr×List V))(D:Ends):Fl->Prop
 |.nx ρ'=>∀cx σ' H',R K κ G A bo cx ρ' σ' H'->D.nx σ' H'
 |.bk ρ'=>∀cx σ' H',R K κ G A bo cx ρ' σ' H'->D.bk σ' H'
 |.ct ρ'=>∀cx σ' H',R K κ G A bo cx ρ' σ' H'->D.ct σ' H'
 |.rt p=>match cU p with
  |some k=>∀H',aE G H'->Ex k H'
  |none=>∀v H',aE G H'->RM K κ A G H' v p->D.rt v H'
def Pt(K:PySem.W.Frag)(κ:Kl)(Ex:Nat->Hp->Prop)(ts:TS)(g:aR):Prop:=
 ∀{G A bo own ρ σ H fl D},R K κ G A bo own ρ σ H->g ρ=some fl->u0 K κ Ex G A bo D fl->ts D σ H
def DX(X:Cx)(κ:Kl)(Ex:Nat->Hp->Prop)(st:Stmt)(g:aR):Prop:=∃ts,PS X st ts/\Pt X.K κ Ex ts g
def Mm(X:Cx)(κ:Kl)(Ex:Nat->Hp->Prop)(st:List Stmt)(g:aR):Prop:=∃ts,A6 X st ts/\Pt X.K κ Ex ts g
def DR(X:Cx)(κ:Kl)(e:Expr)(c:cA->Bool):Prop:=∃te,PE X e te/\∀{G A bo own ρ σ H Q},R X.K κ G A bo own ρ σ H->c ρ=true->(∀v H',aE H H'->Q v H')->te σ H Q
section
variable{X:Cx}{κ:Kl}{Ex:Nat->Hp->Prop}{st:Stmt}{rest:List Stmt}{g g':aR}{e a b c tg iter:Expr}{f fa:Den}{ft:dF}{pos:Pos}{fi:cI}{gt:vO}{body:List Stmt}
theorem KP:Mm X κ Ex [] fz:=⟨_,fN,λ{G A bo own ρ σ H fl D} r e k=>by cases e;exact k own σ H r⟩
theorem KQ{K:PySem.W.Frag}{t u:TS}(h1:Pt K κ Ex t g)(h2:Pt K κ Ex u g'):Pt K κ Ex (vH t u) (bh g g'):=λ{G A bo own ρ σ H fl D} r e k=>by
 obtain⟨f1,e1,e2⟩:=zn.mp e
 refine h1 r e1 ?_
 cases f1 with
 |nx ρ'=>exact λcx σ' H' r'=>h2 r' e2 k
 |rt p=>cases e2;exact k
 |bk ρ'=>cases e2;exact k
 |ct ρ'=>cases e2;exact k
theorem qh(h1:DX X κ Ex st g)(h2:Mm X κ Ex rest g'):Mm X κ Ex (st::rest) (bh g g'):=
 let⟨_,a1,a2⟩:=h1;let⟨_,b1,b2⟩:=h2;⟨_,cz a1 b1,KQ a2 b2⟩
theorem lr(h1:DX X κ Ex st g):Mm X κ Ex [st] g:=let⟨_,a1,a2⟩:=h1;⟨_,cF a1,a2⟩
theorem Mn(h:DS X κ false st g)(hn:∀ρ p,g ρ≠some (.rt p)):DX X κ Ex st g:=by
 obtain⟨ts,h1,h2⟩:=h
 refine⟨ts,h1,λ{G A bo own ρ σ H fl D} r e k=>h2 r e ?_⟩
 cases fl with
 |nx ρ'=>exact k
 |bk ρ'=>exact k
 |ct ρ'=>exact k
 |rt p=>
  exact absurd e (hn ρ p)
theorem HC{i:Nat}{a:Den}:∀ρ p,b8 i a ρ≠some (.rt p):=λρ p h=>by
 obtain⟨_,_,z⟩:=xz.mp h
 cases z
theorem HD(h:DE X κ e f):DX X κ Ex (.Return (some e) pos) (uH f):=by
 obtain⟨te,h1,h2⟩:=h
 refine⟨_,mw h1,λ{G A bo own ρ σ H fl D} r e k=>?_⟩
 obtain⟨p,e1,e2⟩:=zn.mp e
 split at e2
 ·cases e2
 ·rename_i hn
  cases e2
  rw[Yn,not_or]at hn
  have hp:cU p=none:=by
   cases q:cU p with
   |none=>rfl
   |some n=>rw[q]at hn;exact absurd rfl hn.1
  have z:(match cU p with|some k=>∀H',aE G H'->Ex k H'|none=>∀v H',aE G H'->RM X.K κ A G H' v p->D.rt v H'):=k
  rw[hp]at z
  refine h2 r e1 λv H' s q=>z v H' (r.same.trans s) (.of (by simpa using hn.2) ?_)
  exact q.mono (cV (λ_ _ q=>q) λb q _=>.inl q)
theorem Rk{sa sb:List Stmt}(hc:DT X κ c ft)(ha:Mm X κ Ex sa g)(hb:Mm X κ Ex sb g'):DX X κ Ex (.If c sa sb pos) (oo ft g g'):=by
 obtain⟨tc,h5,h6⟩:=hc
 obtain⟨ta,h1,h2⟩:=ha
 obtain⟨tb,h3,h4⟩:=hb
 refine⟨_,l7 h5 h1 h3,λ{G A bo own ρ σ H fl D} r e k=>?_⟩
 obtain⟨c,e1,e2⟩:=zn.mp e
 refine h6 r e1 λH1 s1=>?_
 cases c with
 |true=>exact h2 (r.mono s1) e2 k
 |false=>exact h4 (r.mono s1) e2 k
theorem Rl{K:PySem.W.Frag}{J:It}{ps:List PV}{G:Hp}{A:Addr->Prop}{bo:Nat->Option (Addr×List V)}{tg:TG}{tb:TS}{D:Ends}{own:Nat->Addr}{ρ:cA}{σ:St}{H:Hp}{fl:Fl}{gb:aR}
  (hI:x6 K κ G A J ps)(hg:∀{own ρ σ H p v ρ' Q},R K κ G A bo own ρ σ H->Rep K κ (d7 A own ρ H) v p->gt p ρ=some ρ'->(∀cx σ',R K κ G A bo cx ρ' σ' H->aE (d7 A own ρ H) (d7 A cx ρ' H)->Q σ' H)->tg v σ H Q)
  (hb:Pt K κ Ex tb gb)(r:R K κ G A bo own ρ σ H)(e:forL gt gb ps ρ=some fl)(k:u0 K κ Ex G A bo D fl):
  ∃W:Nat->Nat->St->Hp->Prop,(∃m,W 0 m σ H)/\∀i m σ H,W i m σ H->
   (J.stop i H/\D.nx σ H)\/(J.go i H/\∃N:St->Hp->Prop,(∀σ' H',N σ' H'->∃m',m'<m/\W (i+1) m' σ' H')/\∀x H',J.yld i H x H'->tg x σ H' λσ2 H2=>tb {D with nx:=N,ct:=N,bk:=D.nx} σ2 H2):=by
 refine⟨λi m σ H=>m=ps.length-i/\i<=ps.length/\∃own ρ,R K κ G A bo own ρ σ H/\forL gt gb (ps.drop i) ρ=some fl,⟨ps.length,by simp,ZI _,own,ρ,r,by simpa using e⟩,?_⟩
 rintro i m σ H ⟨rfl,hi,own,ρ,r,e⟩
 obtain⟨h1,h2⟩:=hI i H r.same
 by_cases i0:i<ps.length
 ·rw[ZR i0]at e
  obtain⟨ρ1,f,e1,e3,e4⟩:=wF e
  obtain⟨h3,h4⟩:=h1 ps[i] (wn i0)
  refine .inr ⟨h3,λσ' H'=>i+1<=ps.length/\∃own ρ,R K κ G A bo own ρ σ' H'/\forL gt gb (ps.drop (i+1)) ρ=some fl,λσ' H' ⟨q0,q⟩=>⟨ps.length-(i+1),by omega,rfl,q0,q⟩,λx H' y=>?_⟩
  obtain⟨s,q⟩:=h4 x H' y
  have r1:=r.mono s
  refine hg r1 (q (dG A own ρ) (λb hb=>r.xV hb) r.Dw) e1 λcx σ' r2 _=>?_
  refine hb r2 e3 ?_
  cases f with
  |nx ρ'=>exact λrg σ2 H2 r3=>⟨i0,rg,ρ',r3,e4⟩
  |ct ρ'=>exact λrg σ2 H2 r3=>⟨i0,rg,ρ',r3,e4⟩
  |bk ρ'=>cases e4;exact k
  |rt p=>cases e4;exact k
 ·have hn:ps.drop i=[]:=ZU (by omega)
  rw[hn]at e
  cases e
  exact .inl ⟨h2 (by omega),k own σ H r⟩
theorem u0.small{K:PySem.W.Frag}{G G':Hp}{A:Addr->Prop}{bo:Nat->Option (Addr×List V)}{D:Ends}{fl:Fl}(k:u0 K κ Ex G A bo D fl)(s:aE G G')(al:∀b,A b->G b≠none)(bg:∀i a vs,bo i=some (a,vs)->G a=some (.lst vs)):u0 K κ Ex G' A bo D fl:=by
 cases fl with
 |nx ρ'=>exact λcx σ' H' r=>k cx σ' H' (r.small s al bg)
 |bk ρ'=>exact λcx σ' H' r=>k cx σ' H' (r.small s al bg)
 |ct ρ'=>exact λcx σ' H' r=>k cx σ' H' (r.small s al bg)
 |rt p=>
  have z:(match cU p with|some k=>∀H',aE G H'->Ex k H'|none=>∀v H',aE G H'->RM K κ A G H' v p->D.rt v H'):=k
  show(match cU p with|some k=>∀H',aE G' H'->Ex k H'|none=>∀v H',aE G' H'->RM K κ A G' H' v p->D.rt v H')
  cases q:cU p with
  |some n=>rw[q]at z;exact λH' s'=>z H' (s.trans s')
  |none=>rw[q]at z;exact λv H' s' w=>z v H' (s.trans s') (w.big s)
theorem Om(hp:PassesOwn (model X.prog X.w) X.A X.env X.xe)(hi:DI X κ tg iter fi)(hg:DG X κ tg gt)(hb:Mm X κ Ex body g)(hc:X.calm=true:=by rfl)(hs:∀x,foldedSetIterable iter X.env x=pure x:=by intro _;rfl):DX X κ Ex (.For tg iter body [] pos) (oK fi gt g):=by
 obtain⟨wi,h1,h2⟩:=hi
 obtain⟨tt,h3,h4⟩:=hg
 obtain⟨tb,h5,h6⟩:=hb
 refine⟨_,Gb hp hc h1 h3 h5 hs,λ{G A bo own ρ σ H fl D} r e k=>?_⟩
 obtain⟨ps,e1,e2⟩:=zn.mp e
 refine h2 r e1 λJ H' s hI=>?_
 have r1:=r.mono s
 exact Rl hI h4 h6 r1.big e2 (k.small r1.gv r1.al r1.bg)
theorem HE{x:Str}{C:Addr}{cc:cA->Bool}{np eJ:Pos}(k:Nat)(hC:Aa X.K C)(hm:X.mg x=some (.ref C))(hx:∀pins σ H s v h' e,Inv X pins σ H s->Heap.MadeExcOf s.heap h' e (.ref C) [v]->Ex k H->X.xe (.ref e) {s with heap:=h'})(ha:DR X κ a cc)
  (hg:Gl X x:=by rfl)(hc:X.calm=true:=by rfl)(hd:(x==("__debug__" :Str))=false:=by decide)(hs:starEach [a] X.env=(false,eval a X.env)::starEach [] X.env:=by rfl)(hpl:(backTo eJ (starEach [a] X.env)).any (·.1)=false:=by rfl):
  DX X κ Ex (.Raise (some (.Call (.Name x np) [a] [] eJ)) none pos) (xU cc k):=by
 obtain⟨te,h1,h2⟩:=ha
 refine⟨_,Hw (P:=Ex k) hC hm h1 hx hg hc hd hs hpl,λ{G A bo own ρ σ H fl D} r e q=>?_⟩
 unfold xU at e
 obtain⟨hc,rfl⟩:=bj e
 have z:(match cU (tG k)with|some k=>∀H',aE G H'->Ex k H'|none=>∀v H',aE G H'->RM X.K κ A G H' v (tG k)->D.rt v H'):=q
 rw[Kk]at z
 exact h2 r hc λv H' s=>⟨v,rfl,z H' (r.same.trans s)⟩
theorem Rm{p1 p2:Pos}{k:Nat}{c:Str}(ha:DB X κ a fa)(hc:c.length<=1000:=by decide+kernel)(hs:evalEach [.FormattedValue a 114 none p1,.Constant (.str c) k p2] X.env=[eval (.FormattedValue a 114 none p1) X.env,eval (.Constant (.str c) k p2) X.env]:=by rfl):
  DR X κ (.JoinedStr [.FormattedValue a 114 none p1,.Constant (.str c) k p2] pos) (QO fa):=by
 obtain⟨ta,h1,h2⟩:=ha
 refine⟨_,Q8 h1 hs,λ{G A bo own ρ σ H Q} r e q=>?_⟩
 unfold QO at e
 split at e
 ·rename_i x hx
  rw[re]at e
  obtain⟨e1,e2⟩:=e
  have e2:=of_decide_eq_true e2
  refine h2 r hx λv H' s z=>⟨x,z.str,?_,λout=>q _ H' s⟩
  have hl:=PySem.StrLaws.reprText_len x λd hd=>by
   rw[<-Array.all_toList,ZA]at e1
   have:=of_decide_eq_true (e1 d hd)
   exact wv this (by decide)
  omega
 ·cases e
end
def FV(K:PySem.W.Frag)(κ:Kl)(cls:Nat->Addr)(F:List PV->Option PV):Sp:=λvs H Q E=>∃(A:Addr->Prop) (ps:List PV) (p:PV),(∀b,A b->H b≠none)/\aV K κ (hide A H) vs ps/\F ps=some p/\
 match cU p with
 |some k=>∀H',aE H H'->E (.ref (cls k)) none H'
 |none=>∀v H',aE H H'->RM K κ A H H' v p->Q v H'
section
variable{P:Program}{w:World}{K:PySem.W.Frag}{mg:Str->Option Value}{base:Heap}{κ:Kl}
theorem mJ{x qual:Str}{st:Stmt}{f:Addr}{fd:FuncData}{N ps:List Str}{k:Nat}{g:aR}(cls:Nat->Addr)(F:Jr K x qual st f fd)(S:aT N ps (ao st))
  (hb:∀(cD:Value) (A:Around) (outer:List Env) (s:Shared) (H:Hp) (E:XK),cg k (A.deeper (envOfC qual (ao st) s.heap.objs.size f cD))->
    PassesOwn (model P w) (mB (nZ P w) P w K mg base N qual (ao st) f cD A outer s H E).A (mB (nZ P w) P w K mg base N qual (ao st) f cD A outer s H E).env (mB (nZ P w) P w K mg base N qual (ao st) f cD A outer s H E).xe->
    (∀(C:Addr) pins σ H1 s1 v h' e,Inv (mB (nZ P w) P w K mg base N qual (ao st) f cD A outer s H E) pins σ H1 s1->Heap.MadeExcOf s1.heap h' e (.ref C) [v]->E (.ref C) none H1->(mB (nZ P w) P w K mg base N qual (ao st) f cD A outer s H E).xe (.ref e) {s1 with heap:=h'})->
    Mm (mB (nZ P w) P w K mg base N qual (ao st) f cD A outer s H E) κ (λk H'=>E (.ref (cls k)) none H') (ji st) g):
  aL P w K mg base (nZ P w) (k+1) f fd ps (FV K κ cls (fn false N.length ps.length g)):=by
 obtain⟨oc,od,kV,doc,pm,an,cD,ct,JU,rfl,lk,pK⟩:=F.ex
 refine LN lk pK S (λvs H Q E h=>?_) λA outer s H vs Q E hr h=>?_
 ·obtain⟨A,qs,p,_,h1,h2,_⟩:=h
  unfold fn at h2
  split at h2
  ·rw[h1.length]
   assumption
  ·cases h2
 ·obtain⟨A',qs,p,al,h1,h2,q⟩:=h
  obtain⟨ts,a1,a2⟩:=hb cD A outer s H E hr PassesOwn.leaving λC pins σ H1 s1 v h' e I hm hE=>HA I hm hE
  refine⟨ts,a1,?_⟩
  have h3:(g (gE N.length qs)).bind (GV false)=some p:=by
   unfold fn at h2
   split at h2
   ·exact h2
   ·cases h2
  obtain⟨fl,e1,e2⟩:=zn.mp h3
  refine a2 (R.entry al h1) e1 ?_
  cases fl with
  |rt p'=>cases e2;exact q
  |nx ρ'=>
   cases e2
   exact λcx σ' H' r'=>q _ _ r'.same (.of rfl .non)
  |bk ρ'=>cases e2
  |ct ρ'=>cases e2
end
def Ud(K:PySem.W.Frag)(cv:V)(cu:Value):List V->Hp->VK->Prop:=λxs H Q=>∃(a C:Addr) (b:Bool),xs=[.ref a,cv]/\H a=some (xo C a)/\vW K C/\PySem.W.kitOne K (.ref C) cu=some b/\Q (.bl b) H
abbrev HF(K:PySem.W.Frag)(cv:V)(cu:Value):TT:=tB (Qi (Ud K cv cu) (cG (fB 0) (cG (tC cv) iZ)))
section
variable{X:Cx}{p p1 p2 pos:Pos}{y cn:Str}
theorem mK{D:Addr}(hm:X.mg "isinstance" =none)(hD:X.mg cn=some (.ref D))(hN:X.N[0]?=some y:=by rfl)(hv:FZ X.env.scope y:=by first|exact Or.inl rfl|exact Or.inr (Or.inl rfl)|exact Or.inr (Or.inr rfl))(hg:Gl X "isinstance" :=by rfl)(Hd:Gl X cn:=by rfl)(hd:(y==("__debug__" :Str))=false:=by decide)(pK:(y==("__classdict__" :Str))=false:=by decide)(hd2:(cn==("__debug__" :Str))=false:=by decide)
  (hs:starEach [.Name y p1,.Name cn p2] X.env=(false,eval (.Name y p1) X.env)::starEach [.Name cn p2] X.env:=by rfl)(ze:starEach [.Name cn p2] X.env=(false,eval (.Name cn p2) X.env)::starEach [] X.env:=by rfl)(hpl:(backTo pos (starEach [.Name cn p2] X.env)).any (·.1)=false:=by rfl)(he:∀whole,isTrue (.Call (.Name "isinstance" p) [.Name y p1,.Name cn p2] [] pos) X.env whole=(do let v<-whole;standAt (Expr.Call (.Name "isinstance" p) [.Name y p1,.Name cn p2] [] pos).pos;holding [v] (truthy v)):=by intro _;rfl):
  PT X (.Call (.Name "isinstance" p) [.Name y p1,.Name cn p2] [] pos) (HF X.K (.ref D) (.ref D)):=
 xq (iO (Ac (cv:=.ref D) (cu:=.ref D) rfl λu z=>z) hg hm PyProof.Rows.boot_isinstance (aI (kf hN hv hd pK) (aI (tq Hd hD (v:=.ref D) rfl hd2) bB ze) hs) (he:=hs) (hpl:=hpl)) he
theorem KR{T:String}(hm:X.mg "isinstance" =none)(hD:X.mg cn=none)(hb:bootBuiltins cn=some (.type T))(hN:X.N[0]?=some y:=by rfl)(hv:FZ X.env.scope y:=by first|exact Or.inl rfl|exact Or.inr (Or.inl rfl)|exact Or.inr (Or.inr rfl))(hg:Gl X "isinstance" :=by rfl)(Hd:Gl X cn:=by rfl)(hd:(y==("__debug__" :Str))=false:=by decide)(pK:(y==("__classdict__" :Str))=false:=by decide)(hd2:(cn==("__debug__" :Str))=false:=by decide)(hn:cn≠ "__name__" :=by decide)
  (hs:starEach [.Name y p1,.Name cn p2] X.env=(false,eval (.Name y p1) X.env)::starEach [.Name cn p2] X.env:=by rfl)(ze:starEach [.Name cn p2] X.env=(false,eval (.Name cn p2) X.env)::starEach [] X.env:=by rfl)(hpl:(backTo pos (starEach [.Name cn p2] X.env)).any (·.1)=false:=by rfl)(he:∀whole,isTrue (.Call (.Name "isinstance" p) [.Name y p1,.Name cn p2] [] pos) X.env whole=(do let v<-whole;standAt (Expr.Call (.Name "isinstance" p) [.Name y p1,.Name cn p2] [] pos).pos;holding [v] (truthy v)):=by intro _;rfl):
  PT X (.Call (.Name "isinstance" p) [.Name y p1,.Name cn p2] [] pos) (HF X.K (.ty T) (.type T)):=
 xq (iO (Ac (cv:=.ty T) (cu:=.type T) rfl λu z=>z) hg hm PyProof.Rows.boot_isinstance (aI (kf hN hv hd pK) (aI (CY Hd hD hb (v:=.ty T) rfl hn hd2) bB ze) hs) (he:=hs) (hpl:=hpl)) he
theorem lu{x c:Str}{p' apos eJ:Pos}{j:Nat}(i:Nat)(hN:X.N[i]?=some x:=by rfl)(hv:FZ X.env.scope x:=by first|exact Or.inl rfl|exact Or.inr (Or.inl rfl)|exact Or.inr (Or.inr rfl))(hd:(x==("__debug__" :Str))=false:=by decide)
  (pK:(x==("__classdict__" :Str))=false:=by decide)(gq:attributeBase (.Name x p') "append" X.env (eval (.Name x p') X.env)=eval (.Name x p') X.env:=by rfl)
  (qW:((backTo eJ (starEach [.Constant (.str c) j p1] X.env)).all (λx=>!x.1)&&(backToKw eJ (keywordEach [] X.env)).all (λx=>x.1.isSome)
    &&decide ([Expr.Constant (.str c) j p1].length+([]:List Keyword).length+(if([]:List Keyword).isEmpty then 0 else 1)<30))=true:=by rfl)
  (hs:swapsWith (.Call (.Attribute (.Name x p') "append" apos) [.Constant (.str c) j p1] [] eJ) none pos.line X.env=pure false:=by rfl)(gr:(apos.endLine==eJ.line)=true:=by rfl)(my:starEach [.Constant (.str c) j p1] X.env=(false,eval (.Constant (.str c) j p1) X.env)::starEach [] X.env:=by rfl):
  PS X (.Expr (.Call (.Attribute (.Name x p') "append" apos) [.Constant (.str c) j p1] [] eJ) pos) (ub (R5 X.K "list" xC (fB i) (cG (tC (.str c)) iZ))):=
 nQ (Dd YX Y9 XE wg (kf hN hv hd pK) (aI A8 bB my) gq qW gr my rfl) hs
end
def Ro(cls:Nat->Addr)(ns:List Str):Sp:=λvs H Q _=>∃(a:Addr) (k:Nat) (x:Str),vs=[.ref a]/\H a=some (xo (cls k) a)/\ns[k]?=some x/\∀p,H p=none->Q (.ref p) (upd H p (.lst [.str x]))
section
variable{K:PySem.W.Frag}{cv:V}{cu:Value}{t:TS}{D:Ends}{a q C:Addr}{H:Hp}{xs:List V}{c:Str}
theorem u5(ha:H a=some (xo C a))(Z:vW K C)(hk:PySem.W.kitOne K (.ref C) cu=some false)(h:D.nx [some (.ref a),some (.ref q)] H):Ba (HF K cv cu) t ua D [some (.ref a),some (.ref q)] H:=
 ⟨.ref a,rfl,a,C,false,rfl,ha,Z,hk,false,rfl,J6 h⟩
theorem Oo(ha:H a=some (xo C a))(Z:vW K C)(hk:PySem.W.kitOne K (.ref C) cu=some true)(hq:H q=some (.lst xs))(hl:xs.length<100)(h:D.nx [some (.ref a),some (.ref q)] (upd H q (.lst (xs++[.str c])))):
  Ba (HF K cv cu) (ub (R5 K "list" xC (fB 1) (cG (tC (.str c)) iZ))) ua D [some (.ref a),some (.ref q)] H:=
 have zl:(100:Nat)<=sizeLine:=by decide
 ⟨.ref a,rfl,a,C,true,rfl,ha,Z,hk,true,rfl,Np ⟨.ref q,rfl,.inl ⟨rfl,xs,mj.of hq⟩,q,xs,.str c,rfl,rfl,hq,wv hl zl,h⟩⟩
theorem HG(ha:H a=some (xo C a))(Z:vW K C)(hk:PySem.W.kitOne K (.ref C) cu=some true)(h:D.nx [some (.ref a),some (.ref q)] H):Ba (L2.qQ (HF K cv cu)) t ua D [some (.ref a),some (.ref q)] H:=
 ⟨.ref a,rfl,a,C,true,rfl,ha,Z,hk,true,rfl,J6 h⟩
end
section
variable{P:Program}{w:World}{K:PySem.W.Frag}{mg:Str->Option Value}{base:Heap}{N:List Str}{qual:Str}{scope:Scope}{f:Addr}{cD:Value}{A:Around}{outer:List Env}{s₀:Shared}{H₀:Hp}{E:XK}
theorem Ad:Passes (nZ P w) (mB (nZ P w) P w K mg base N qual scope f cD A outer s₀ H₀ E) E:=by
 intro pins σ H s ev s' I hc
 obtain⟨e,C,t,H',B,rfl,G,hE⟩:=hc
 have FF:=I.stack
 have Fr:=I.ok.frames
 have sf:=I.k9
 change s.heap.FunFrames base (envOfC qual scope s₀.heap.objs.size f cD::outer)at FF
 change(A.deeper (envOfC qual scope s₀.heap.objs.size f cD)).frames=some (envOfC qual scope s₀.heap.objs.size f cD::outer)at Fr
 change∀b∈eI (envOfC qual scope s₀.heap.objs.size f cD::outer),H b=none at sf
 change Cg P w (envOfC qual scope s₀.heap.objs.size f cD::outer) H s C e t s' H' B at G
 show wpAny (model P w) (A.deeper (envOfC qual scope s₀.heap.objs.size f cD)) (leaving (envOfC qual scope s₀.heap.objs.size f cD) (.ref e)) (λ_ zf=>nZ P w outer H₀ s₀ E (.ref e) zf) _ s'
 generalize Oj:envOfC qual scope s₀.heap.objs.size f cD=env at FF Fr sf G⊢
 have hf:env.frame=some s₀.heap.objs.size:=by rw[<-Oj];rfl
 have mem:∀b,b∈eI (env::outer)->b=s₀.heap.objs.size\/b∈eI outer:=λb hb=>by
  unfold eI at hb
  rw[ZZ,hf]at hb
  exact ZJ.mp hb
 obtain⟨g1,g2,g3,g4,g5,g6,g7,g8⟩:=G
 obtain⟨f1,f2,f3,f4⟩:=id g5
 refine wpAny_leaves_onW Fr hf g5 λh2 E3 up=>?_
 have out:∀b o,s₀.heap.get? b=some o->b∉eI outer->b∉eI (env::outer):=λb o q n z=>by
  rcases mem b z with rfl|z
  ·exact absurd (ww q) (ZK _)
  ·exact n z
 have Ri:∀b,b∈eI outer->b∈eI (env::outer):=λb hb=>Zr λz=>KO z hb
 have bk:=I.base.keep
 have bs:=I.base.slot
 have bf:=I.base.free
 have bt:=I.base.there
 change∀b o,s₀.heap.get? b=some o->H₀ b=none->b∉eI outer->b∉[]->s.heap.get? b=some o at bk
 change∀b o,s₀.heap.get? b=some o->H₀ b=none->b∈eI outer->b∉[]->∃sl,s.heap.get? b=some {o with slots:=sl}at bs
 change∀b o,s₀.heap.get? b=some o->b∉[]->∃o',s.heap.get? b=some o' at bt
 change∀b o,s₀.heap.get? b=some o->H₀ b=none->b∉[]->H b=none at bf
 have ke:∀b o,B.get? b=some o->h2.get? b=some o:=E3.1
 have slot:∀b o,s.heap.get? b=some o->H b=none->b∈eI (env::outer)->∃sl,h2.get? b=some {o with slots:=sl}:=λb o q n hb=>by
  obtain⟨sl,q1⟩:=g3.slot b o q n hb (by simp)
  obtain⟨_,o',q',hd⟩:=FF.mem hb
  rw[q]at q'
  cases q'
  obtain⟨A5,q2⟩:=up b _ q1 hd
  exact⟨A5,q2⟩
 refine⟨e,C,t,H',B,rfl,⟨g1.trans I.os,g2,⟨λb o q n hb hx=>?_,λb o q n hb hx=>?_,λb o q n hx=>?_,λb o q hx=>?_,λb xs q=>?_,λb o u q=>?_,λb ps q=>?_⟩,λb u q=>?_,E3,λb o q n hb=>?_,λb o q hb=>?_,g8⟩,hE⟩
 ·exact ke b o (g6 b o (bk b o q n hb (by simp)) (bf b o q n (by simp)) (out b o q hb))
 ·obtain⟨sl,q1⟩:=bs b o q n hb (by simp)
  obtain⟨A5,q2⟩:=slot b _ q1 (bf b o q n (by simp)) (Ri b hb)
  exact⟨A5,q2⟩
 ·obtain⟨o',q1⟩:=bt b o q (by simp)
  exact g3.free b o' q1 (bf b o q n (by simp)) (by simp)
 ·obtain⟨o',q1⟩:=bt b o q (by simp)
  by_cases hb:b∈eI (env::outer)
  ·obtain⟨sl,q2⟩:=slot b o' q1 (sf b hb) hb
   exact⟨_,q2⟩
  ·obtain⟨FW,q2⟩:=g7 b o' q1 hb
   exact⟨FW,ke b FW q2⟩
 ·exact g3.k7 b xs (I.base.k7 b xs q)
 ·exact g3.kD b o u (I.base.kD b o u q)
 ·obtain⟨more,z⟩:=I.base.mi b ps q
  obtain⟨Ae,z'⟩:=g3.mi b _ z
  exact⟨more++Ae,by rw[<-YS];exact z'⟩
 ·refine(g4 b u q).ke (λc v hc z=>?_) (λ_ z=>z) λ_ _ z=>z
  obtain⟨o',z1⟩:∃o',B.get? c=some o':=by
   rcases hc with rfl|hc
   ·exact g8 c u q
   ·exact g8 c _ hc
  have z2:=f1 c o' z1
  rw[z]at z2
  cases z2
  exact ke c v z1
 ·exact g6 b o (bk b o q n hb (by simp)) (bf b o q n (by simp)) (out b o q hb)
 ·obtain⟨o',q1⟩:=bt b o q (by simp)
  exact g7 b o' q1 (out b o q hb)
end
def sk(B:Heap)(l:List Env)(e:Addr)(cls a0:Value)(h:Heap):Prop:=B.StaysIn h/\B.get? e=none/\h.FunFrames B l/\∃fl,h.TracedAtW B e cls a0 fl
section
variable{M:Model}{A:Around}{Er:Value->Shared->Prop}{s:Shared}
theorem vX{B:Heap}{env:Env}{outer:List Env}{L e:Addr}{cls a0:Value}{Q:Unit->Shared->Prop}(uz:A.frames=some (env::outer))(hf:env.frame=some L)(hh:sk B (env::outer) e cls a0 s.heap)
  (hQ:∀h',Heap.HeldW B (env::outer) e cls a0 L h'->s.heap.UpToSlots h'->Q () {s with heap:=h'}):wpAny M A (noteFrame (.ref e) env) Q Er s:=by
 obtain⟨f1,f2,f3,fl,ht⟩:=hh
 obtain⟨oe,vs,T,oT,ts,he,⟨F0,h0⟩,hd,h1,Mo,Pu,hT,Jy,h3⟩:=id ht
 by_cases hq:fl=rawInt L
 ·subst hq
  exact wpAny_noteFrame_againW hf ht (hQ _ ⟨f1,f2,f3,ht⟩ (Heap.UpToSlots.refl _))
 ·subst F0
  unfold noteFrame
  simp only[hf]
  refine wpAny_bind (wpAny_field he hd h1 ?_)
  rw[if_pos (show(Value.ref T !=Value.none)=true from by simp)]
  refine wpAny_bind (wpAny_field hT Jy h3 ?_)
  rw[if_neg (show¬((fl==rawInt L)=true)from λz=>hq (eq_of_beq z))]
  refine wpAny_bind (wpAny_setField hT Jy (YM.mp h3).1 ?_)
  have other:∀b,b≠T->(s.heap.update T (Obj.mapFields (·.setIfInBounds 3 Value.none))).get? b=s.heap.get? b:=λb hb=>Yc _ _ (Ne.symm hb)
  have mL:∀b o,s.heap.get? b=some o->(∀vs,o.data≠.fields vs)->b≠T:=λb o hb FX q=>by
   rw[q,hT]at hb;injection hb with hb;subst hb;exact FX ts Jy
  refine wpAny_entryW uz (f3.of_keeps λb o hb FX=>⟨o,(other b (mL b o hb FX)).trans hb,rfl⟩) hf ((other e (Ne.symm Pu)).trans he)
   (λb o Oq=>(other b λq=>by rw[q,Mo]at Oq;cases Oq).trans (f1 b o Oq)) f2 hd (YM.mp h1).1 h0
   λh' ⟨x1,x2,x3,x4⟩=>hQ h' ⟨x1,f2,x2,x3⟩ λb o hb FX=>x4 b o ((other b (mL b o hb FX)).trans hb) FX
theorem vY{B:Heap}{l:List Env}{e:Addr}{cls a0:Value}{fr:Option Addr}{Q:Unit->Shared->Prop}(hh:sk B l e cls a0 s.heap)
  (hQ:∀h',sk B l e cls a0 h'->s.heap.UpToSlots h'->Q () {s with heap:=h'}):wpAny M A (setFlight (.ref e) fr) Q Er s:=by
 obtain⟨Ws,Oj,hl,fl,oe,vs,T,oT,ts,he,F0,hd,h1,Mo,Pu,hT,Jy,h3⟩:=hh
 have Rp:3<ts.size:=(YM.mp h3).1
 have other:∀b,b≠T->(s.heap.update T (Obj.mapFields (·.setIfInBounds 3 (fr.elim Value.none λf=>rawInt f)))).get? b=s.heap.get? b:=
  λb hb=>Yc _ _ (Ne.symm hb)
 have mL:∀b o,s.heap.get? b=some o->(∀vs,o.data≠.fields vs)->b≠T:=λb o hb FX q=>by
  rw[q,hT]at hb;injection hb with hb;subst hb;exact FX ts Jy
 unfold setFlight
 refine wpAny_bind (wpAny_field he hd h1 ?_)
 rw[if_pos (show(Value.ref T !=Value.none)=true from by simp)]
 refine wpAny_setField hT Jy Rp (hQ _ ⟨λb o Oq=>(other b λq=>by rw[q,Mo]at Oq;cases Oq).trans (Ws b o Oq),Oj,
  hl.of_keeps λb o hb FX=>⟨o,(other b (mL b o hb FX)).trans hb,rfl⟩,fr.elim Value.none λf=>rawInt f,?_⟩ λb o hb FX=>⟨o.slots,(other b (mL b o hb FX)).trans hb⟩)
 exact⟨oe,vs,T,_,_,(other e (Ne.symm Pu)).trans he,F0,hd,h1,Mo,Pu,Heap.get?_update_self _ hT (Obj.isFreed_of_fields (Obj.data_mapFields Jy _)),Obj.data_mapFields Jy _,by simp[Rp]⟩
theorem BY{α:Type}{B:Heap}{l:List Env}{e:Addr}{cls a0:Value}{Ue:String}{env:Env}{Q:α->Shared->Prop}(hh:sk B l e cls a0 s.heap)
  (hQ:∀h',sk B l e cls a0 h'->s.heap.UpToSlots h'->Er (.ref e) {s with heap:=h'}):wpAny M A (PySem.passOn Ue (.ref e) env:Sem α) Q Er s:=by
 obtain⟨_,_,_,_,oe,vs,T,oT,ts,he,_,hd,h1,_⟩:=id hh
 unfold PySem.passOn
 refine wpAny_bind (wpAny_field he hd h1 ?_)
 rw[if_neg (show¬((Value.ref T==Value.none)=true)from by simp)]
 refine wpAny_bind (vY hh λh' x1 x2=>?_)
 exact wpAny_throw (hQ h' x1 x2)
theorem BZ{B:Heap}{env:Env}{outer:List Env}{L e:Addr}{cls a0:Value}{Q:Unit->Shared->Prop}(uz:A.frames=some (env::outer))(hf:env.frame=some L)(hh:sk B (env::outer) e cls a0 s.heap)
  (hQ:∀h',Heap.FlyingW B outer e cls a0 h'->s.heap.UpToSlots h'->Q () {s with heap:=h'}):wpAny M A (leaving env (.ref e)) Q Er s:=by
 unfold leaving
 refine wpAny_bind (vX uz hf hh λh1 x1 x2=>?_)
 refine wpAny_landsW (s:={s with heap:=h1}) x1 λh' Wt x3=>?_
 obtain⟨k1,k2,⟨_,_,k3⟩,k4⟩:=Wt
 exact hQ h' ⟨k1,k2,k3,k4⟩ (x2.trans x3)
end
structure Ch(P:Program)(w:World)(FI:List Env)(fp:List Addr)(H:Hp)(s:Shared)(C e t:Addr)(s':Shared)(H':Hp)(B:Heap):Prop where
 os:s'.os=s.os
 bare:AllBare s'.gens
 un:Un (eI FI) fp H H' s.heap s'.heap
 dE:rW P w H' s'.heap
 held:sk B FI e (.ref C) (.ref t) s'.heap
 kp:∀b o,s.heap.get? b=some o->H b=none->b∉eI FI->b∉fp->B.get? b=some o
 th:∀b o,s.heap.get? b=some o->b∉eI FI->b∉fp->∃o',B.get? b=some o'
 tr:∀b u,H' b=some u->∃o',B.get? b=some o'
def n0(X:Cx)(E:XK):Prop:=∀(pins:List (Addr×Obj)) (σ:St) (H:Hp) (s:Shared) (fp:List Addr) (e C t:Addr) (s':Shared) (H':Hp) (B:Heap),Inv X pins σ H s->(∀b∈fp,pL X pins H b)->Ch X.prog X.w X.stack fp H s C e t s' H' B->E (.ref C) none H'->X.xe (.ref e) s'
section
variable{P:Program}{w:World}{K:PySem.W.Frag}{mg:Str->Option Value}{base:Heap}{N:List Str}{qual:Str}{scope:Scope}{f:Addr}{cD:Value}{A:Around}{outer:List Env}{s₀:Shared}{H₀:Hp}{E:XK}
theorem leave_held:n0 (mB (nZ P w) P w K mg base N qual scope f cD A outer s₀ H₀ E) E:=by
 intro pins σ H s fp e C t s' H' B I Wu G hE
 have FF:=I.stack
 have Fr:=I.ok.frames
 have sf:=I.k9
 change s.heap.FunFrames base (envOfC qual scope s₀.heap.objs.size f cD::outer)at FF
 change(A.deeper (envOfC qual scope s₀.heap.objs.size f cD)).frames=some (envOfC qual scope s₀.heap.objs.size f cD::outer)at Fr
 change∀b∈eI (envOfC qual scope s₀.heap.objs.size f cD::outer),H b=none at sf
 change Ch P w (envOfC qual scope s₀.heap.objs.size f cD::outer) fp H s C e t s' H' B at G
 have old:∀b o,s₀.heap.get? b=some o->b∉fp:=λb o q z=>by
  rcases(Wu b z).2.2.2.1 with h|h
  ·cases h
  ·exact absurd (wv (ww q) h) (ZK _)
 show wpAny (model P w) (A.deeper (envOfC qual scope s₀.heap.objs.size f cD)) (leaving (envOfC qual scope s₀.heap.objs.size f cD) (.ref e)) (λ_ zf=>nZ P w outer H₀ s₀ E (.ref e) zf) _ s'
 generalize Oj:envOfC qual scope s₀.heap.objs.size f cD=env at FF Fr sf G⊢
 have hf:env.frame=some s₀.heap.objs.size:=by rw[<-Oj];rfl
 have mem:∀b,b∈eI (env::outer)->b=s₀.heap.objs.size\/b∈eI outer:=λb hb=>by
  unfold eI at hb
  rw[ZZ,hf]at hb
  exact ZJ.mp hb
 obtain⟨g1,g2,g3,g4,g5,g6,g7,g8⟩:=G
 obtain⟨f1,f2,f3,f4⟩:=id g5
 refine BZ Fr hf g5 λh2 E3 up=>?_
 have out:∀b o,s₀.heap.get? b=some o->b∉eI outer->b∉eI (env::outer):=λb o q n z=>by
  rcases mem b z with rfl|z
  ·exact absurd (ww q) (ZK _)
  ·exact n z
 have Ri:∀b,b∈eI outer->b∈eI (env::outer):=λb hb=>Zr λz=>KO z hb
 have bk:=I.base.keep
 have bs:=I.base.slot
 have bf:=I.base.free
 have bt:=I.base.there
 change∀b o,s₀.heap.get? b=some o->H₀ b=none->b∉eI outer->b∉[]->s.heap.get? b=some o at bk
 change∀b o,s₀.heap.get? b=some o->H₀ b=none->b∈eI outer->b∉[]->∃sl,s.heap.get? b=some {o with slots:=sl}at bs
 change∀b o,s₀.heap.get? b=some o->b∉[]->∃o',s.heap.get? b=some o' at bt
 change∀b o,s₀.heap.get? b=some o->H₀ b=none->b∉[]->H b=none at bf
 have ke:∀b o,B.get? b=some o->h2.get? b=some o:=E3.1
 have slot:∀b o,s.heap.get? b=some o->H b=none->b∈eI (env::outer)->b∉fp->∃sl,h2.get? b=some {o with slots:=sl}:=λb o q n hb hx=>by
  obtain⟨sl,q1⟩:=g3.slot b o q n hb hx
  obtain⟨_,o',q',hd⟩:=FF.mem hb
  rw[q]at q'
  cases q'
  obtain⟨A5,q2⟩:=up b _ q1 hd
  exact⟨A5,q2⟩
 refine⟨e,C,t,H',B,rfl,⟨g1.trans I.os,g2,⟨λb o q n hb hx=>?_,λb o q n hb hx=>?_,λb o q n hx=>?_,λb o q hx=>?_,λb xs q=>?_,λb o u q=>?_,λb ps q=>?_⟩,λb u q=>?_,E3,λb o q n hb=>?_,λb o q hb=>?_,g8⟩,hE⟩
 ·exact ke b o (g6 b o (bk b o q n hb (by simp)) (bf b o q n (by simp)) (out b o q hb) (old b o q))
 ·obtain⟨sl,q1⟩:=bs b o q n hb (by simp)
  obtain⟨A5,q2⟩:=slot b _ q1 (bf b o q n (by simp)) (Ri b hb) (old b o q)
  exact⟨A5,q2⟩
 ·obtain⟨o',q1⟩:=bt b o q (by simp)
  exact g3.free b o' q1 (bf b o q n (by simp)) (old b o q)
 ·obtain⟨o',q1⟩:=bt b o q (by simp)
  by_cases hb:b∈eI (env::outer)
  ·obtain⟨sl,q2⟩:=slot b o' q1 (sf b hb) hb (old b o q)
   exact⟨_,q2⟩
  ·obtain⟨FW,q2⟩:=g7 b o' q1 hb (old b o q)
   exact⟨FW,ke b FW q2⟩
 ·exact g3.k7 b xs (I.base.k7 b xs q)
 ·exact g3.kD b o u (I.base.kD b o u q)
 ·obtain⟨more,z⟩:=I.base.mi b ps q
  obtain⟨Ae,z'⟩:=g3.mi b _ z
  exact⟨more++Ae,by rw[<-YS];exact z'⟩
 ·refine(g4 b u q).ke (λc v hc z=>?_) (λ_ z=>z) λ_ _ z=>z
  obtain⟨o',z1⟩:∃o',B.get? c=some o':=by
   rcases hc with rfl|hc
   ·exact g8 c u q
   ·exact g8 c _ hc
  have z2:=f1 c o' z1
  rw[z]at z2
  cases z2
  exact ke c v z1
 ·exact g6 b o (bk b o q n hb (by simp)) (bf b o q n (by simp)) (out b o q hb) (old b o q)
 ·obtain⟨o',q1⟩:=bt b o q (by simp)
  exact g7 b o' q1 (out b o q hb) (old b o q)
end
end L2.D
namespace L2
open PySem PySem.Spec PyProof.Rows
open L2.D
def td(X:Cx)(sc:Scope)(x:Str)(ys:List Str)(fp:List Addr)(C:Addr)(s:Shared)(H:Hp)(E:XK):Value->Shared->Prop:=λev s'=>
 ∃(Mp:List (Addr×Obj)) (σ1:St) (H1:Hp) (s1:Shared),Inv (X.i5 sc x ys fp C s H) Mp σ1 H1 s1/\nZ X.prog X.w X.stack H1 s1 E ev s'
section
variable{X:Cx}{sc:Scope}{x:Str}{ys:List Str}{px:Pos}{elt iter:Expr}{ifs:List Expr}{pos:Pos}{wi:TI}{tt:TT}{te:TE}{L:Addr}
theorem wV{E0:XK}{M:Value->Env->Result->Shared->Prop}{pins:List (Addr×Obj)}{σ:St}{H:Hp}{s:Shared}{E:Value->Shared->Prop}(hc:X.calm=true)(cs:fQ X.env.scope X.N sc x ys)(I:Inv X pins σ H s)
  (ht:∀ex C s H,xM ((X.i5 sc x ys ex C s H).fG (td X sc x ys ex C s H E0)) ifs tt)(he:∀ex C s H,PE ((X.i5 sc x ys ex C s H).fG (td X sc x ys ex C s H E0)) elt te)
  {it:Addr}{fp:List Addr}{tn:Nat->Heap->Prop}{J:It}(T:Turn X.prog X.w X.K (.Name x px) J fp it tn)(st:tn 0 s.heap)(hf:∀b∈fp,pL X pins H b)
  {W:Nat->Nat->List V->Hp->Prop}{m0:Nat}(w0:W 0 m0 [] H){F:List V->Hp->Prop}
  (turn:∀i m acc H,W i m acc H->(J.stop i H/\F acc H)\/(J.go i H/\acc.length<sizeLine/\∀y H',J.yld i H y H'->tt (some y::σ) H' λb H2=>
    if b=true then te (some y::σ) H2 λz H3=>∃m',m'<m/\W (i+1) m' (acc++[z]) H3 else∃m',m'<m/\W (i+1) m' acc H2))
  (hM:∀(D C:Addr) (dB:Env) (s':Shared) (acc:List V) (H':Hp) (its:List Value) (n:Nat),dB.locals=C->D≠C->s.heap.objs.size<=D->s.heap.objs.size<=C->Inv (X.i5 sc x ys fp C s H) [(D,lobj its n)] (none::σ) H' s'->Vals acc its->acc.length<=sizeLine->F acc H'->
    M (.ref D) dB (.ok .next) s')
  (hX:∀(D C:Addr) (dB:Env) (ev:Value) (s':Shared),dB.locals=C->s.heap.objs.size<=D->s.heap.objs.size<=C->td X sc x ys fp C s H E0 ev s'->notedBy (model X.prog X.w) X.A (compEnvC sc (om sc X.env) C X.env) (λe zf=>M (.ref D) dB (.error e) zf) ev s'):
  wpAny (model X.prog X.w) X.A (newList []) (λacc s₃=>wpAny (model X.prog X.w) X.A (newFunctionEnv sc X.env.globals (om sc X.env) [] X.env.qual none .none (some X.env)) (λdB s₄=>
   codeAny (model X.prog X.w) X.A (.compStart (.ListComp elt [⟨.Name x px,iter,ifs,0⟩] sc pos) 0 (.ref it) acc {dB with scope:=relabel sc X.env}) (M acc dB) s₄) E s₃) E s:=by
 have i0:∀b∈fp,b<s.heap.objs.size:=λb hb=>by
  obtain⟨o,e,_⟩:=T.obj 0 _ st b hb
  exact ww e
 refine wpAny_newObj_type (wpAny_newFunctionEnv cs.nocell (by intro y hy;simp at hy) (λh1 Jt Kc=>?_) cs.kind)
 dsimp only at Jt Kc⊢
 generalize NI:s.heap.push {cls:=.type "list",dict:=none,data:=.seq ([]:List Value).toArray}=h2 at Jt Kc⊢
 have hC:h2.objs.size=s.heap.objs.size+1:=by rw[<-NI,Yu]
 have xN:s.heap.objs.size≠h2.objs.size:=by omega
 have old:∀b o,s.heap.get? b=some o->h1.get? b=some o:=λb o e=>by
  have hb:=ww e
  rw[Kc.2 b (by rw[hC];exact ZV (Nat.lt_succ_of_lt hb))]
  exact wp _ (NI▸wp _ e)
 have hD:h1.get? s.heap.objs.size=some (lobj [] 0):=by
  rw[Kc.2 _ xN]
  exact wp _ (NI▸ZH _ rfl)
 generalize VZ:h2.objs.size=C at*
 have xO:s.heap.objs.size<=C:=by omega
 have uy:∀b,s.heap.objs.size<=b->H b=none:=λb hb=>I.dE.fresh hb
 have Eo:∀b,s.heap.objs.size<=b->b∉eI X.stack:=λb hb z=>by
  obtain⟨_,o,ho,_⟩:=(I.stack).mem z
  exact absurd (wv (ww ho) hb) (ZK _)
 have I0:Inv (X.i5 sc x ys fp C s H) [(s.heap.objs.size,lobj [] 0)] (none::σ) H {s with heap:=h1,toks:=s.toks+([]:List (Str×Value)).length}:=by
  refine⟨GH cs I hf i0 xO,rfl,I.bare,Un.kept old,⟨_,Jt,λi y v e1 e2 e3=>?_⟩,λy c e=>?_,uy _ xO,λy c e=>I.freeC y c (cs.cl I e).1,λp hp=>?_,I.dE.kept old,?_⟩
  ·cases i with
   |zero=>cases e2
   |succ i=>
    have LX:ys[i]?=some y:=e1
    have R9:σ[i]?=some (some v):=e2
    have GI:(relabel sc X.env).names.lookup y=some .local\/(relabel sc X.env).names.lookup y=some .cell\/(relabel sc X.env).names.lookup y=some .free:=e3
    have uz:sc.names.lookup y=some .free:=by
     rcases GI with h|h|h
     ·rcases bH h with h1|⟨_,h1⟩
      ·exact absurd h1 (cs.nl y (Zf LX))
      ·cases h1
     ·rcases bH h with h1|⟨h1,_⟩
      ·exact absurd rfl (cs.nocell _ (ZW h1))
      ·exact h1
     ·rcases bH h with h1|⟨h1,_⟩
      ·exact h1
      ·exact h1
    have hi:i<X.N.length:=by
     rw[<-cs.len]
     exact(wS.mp LX).1
    have hN:X.N[i]?=some y:=by
     have hz:(ys.zip X.N)[i]?=some (y,X.N[i]):=by
      rw[Zq]
      exact⟨LX,wn hi⟩
     have:=cs.pl _ (Zf hz) uz
     dsimp only at this
     rw[this]
     exact wn hi
    have Bz:(y,NameKind.free)∈sc.names:=ZW uz
    obtain⟨m,hn,hl⟩:=I.loc
    obtain⟨u,r,lk⟩:=hl i y v hN R9 (.inr (cs.free _ Bz rfl))
    refine⟨u,r,.inr ⟨?_,?_⟩⟩
    ·rcases GI with h|h
     ·rcases bH h with h1|⟨_,h1⟩
      ·rw[uz]at h1
       cases h1
      ·cases h1
     ·exact h
    ·rcases lk with⟨k,_⟩|⟨_,c,e,z⟩
     ·rcases cs.free _ Bz rfl with h|h
      ·have k':X.env.scope.names.lookup y=some .local:=k
       rw[h]at k'
       cases k'
      ·have k':X.env.scope.names.lookup y=some .local:=k
       rw[h]at k'
       cases k'
     ·obtain⟨c',LF⟩:=xK X.env sc.names [] y (.inl Bz)
      have:c'=c:=by
       have:=(cs.cl I (show(om sc X.env).lookup y=some c' from LF)).1
       rw[e]at this
       exact(ZO this).symm
      subst this
      obtain⟨o,ho,hd⟩:=z
      exact⟨c',LF,o,old _ _ ho,hd⟩
  ·obtain⟨v,o,ho,hd⟩:=I.cell y c (cs.cl I e).1
   exact⟨v,o,old _ _ ho,hd⟩
  ·obtain rfl:p=(s.heap.objs.size,lobj [] 0):=by simpa using(show p∈([]:List (Addr×Obj))++[(s.heap.objs.size,lobj [] 0)]from hp)
   exact⟨hD,uy _ (wr _),xN,Eo _ (wr _),λv z=>by cases z⟩
  ·show(none::σ).length=(x::ys).length
   rw[ul,ul,I.len,cs.len]
 have NJ:s.heap.objs.size∉fp:=λz=>ZK _ (i0 _ z)
 have NK:∀{jd:List (Addr×Obj)} {H':Hp} {s':Shared} {σ':St},Inv (X.i5 sc x ys fp C s H) jd σ' H' s'->(∀b∈fp,H' b=none)->(∀p∈jd,p.1∉fp)->∀b∈fp,pL (X.i5 sc x ys fp C s H) jd H' b:=λ{jd H' s' σ'} I' hn hp b hb=>
  ⟨hn b hb,(I'.ok.exf b hb).1,I'.ok.exfs b hb,.inl hb,(I'.ok.exf b hb).2,λp ED z=>by
    have NL:p∈jd:=by simpa using(show p∈([]:List (Addr×Obj))++jd from ED)
    exact hp p NL (z▸hb)⟩
 have loop:∀s3:Shared,s3={s with heap:=h1,toks:=s.toks+([]:List (Str×Value)).length}->∀dB:Env,dB.locals=C->
   codeAny (model X.prog X.w) X.A (.compLoop (.ListComp elt [⟨.Name x px,iter,ifs,0⟩] sc pos) 0 (.ref it) (.ref s.heap.objs.size) (compEnvC sc (om sc X.env) C X.env)) (M (.ref s.heap.objs.size) dB) s3:=by
  rintro s3 rfl dB uA
  refine codeAny_compLoop_tests (λm s'=>∃i acc H' its n,Inv (X.i5 sc x ys fp C s H) [(s.heap.objs.size,lobj its n)] (none::σ) H' s'/\Vals acc its/\acc.length<=sizeLine/\tn i s'.heap/\(∀b∈fp,H' b=none)/\W i m acc H') ?_ m0
   ⟨0,[],H,[],0,I0,.nil,ZI _,T.keep 0 _ _ st λb hb o e=>old b o e,λb hb=>(hf b hb).1,w0⟩
  rintro m s' ⟨i,acc,H',its,n,I1,rv,hz,QB,QC,w1⟩
  have NM:∀p∈[(s.heap.objs.size,lobj its n)],p.1∉fp:=λp hp=>by
   obtain rfl:p=(s.heap.objs.size,lobj its n):=by simpa using hp
   exact NJ
  rcases turn i m acc H' w1 with⟨stop,fin⟩|⟨go,V0,step⟩
  ·refine wpAny_mono (T.done (X.i5 sc x ys fp C s H) rfl rfl rfl hc i _ s' _ H' (λ_ _=>False) I1 (NK I1 QC NM) QB stop) (λr s4 ⟨hr,I4⟩=>?_) (λ_ _ z=>z.elim)
   subst hr
   exact hM _ C dB s4 acc H' its n uA xN (wr _) xO I4 rv hz fin
  ·refine wpAny_mono (T.item (X.i5 sc x ys fp C s H) rfl rfl rfl hc i _ s' _ H' (λ_ _=>False) I1 (NK I1 QC NM) QB go) (λr s4 cw=>?_) (λ_ _ z=>z.elim)
   obtain⟨u,hr,h4⟩:=cw
   subst hr
   dsimp only
   have e0:∀env:Env,(letOwnedTupleGo (.Name x px) (.ref it) u>>=λ_=>assign (.Name x px) env u)=assign (.Name x px) env u:=λenv=>by
    rw[show letOwnedTupleGo (.Name x px) (.ref it) u=pure ()from rfl,pure_bind]
   rw[<-e0]
   refine wpAny_bind (wpAny_mono h4 (λ_ s5 cw=>?_) (λ_ _ z=>z.elim))
   obtain⟨y,H5,I5,r5,y5,kg,P0⟩:=cw
   have P1:=I5.pinned (NK I5 P0 NM) (T.obj _ _ kg)
   have xl:(X.i5 sc x ys fp C s H).env.scope.names.lookup x=some .local:=lookup_relabel_local cs.xloc
   refine wpAny_assign_Name (jv P1 cs.nd (i:=0) rfl (.inl xl) r5 (λs6 I6=>?_) (.inr xl))
   refine wpAny_mono (ht fp C s H _ s6 (some y::σ) H5 _ (I6.fG _) (step y H5 y5)) (λb s7 cw=>?_) (λev s7 z=>hX _ C dB ev s7 uA (wr _) xO z)
   obtain⟨H7,I7,q7⟩:=cw
   have I7:=I7.gn
   have zA:∀{H':Hp} {s':Shared} {σ':St} {pl:List (Addr×Obj)},Inv (X.i5 sc x ys fp C s H) (pl++gp fp s5.heap) σ' H' s'->tn (i+1) s'.heap/\∀b∈fp,H' b=none:=λ{H' s' σ' pl} I'=>by
    refine⟨T.keep _ _ _ kg λb hb o e=>(I'.pin (b,o) (xL _ (xL _ (ic hb e)))).1,λb hb=>?_⟩
    obtain⟨o,e,d⟩:=T.obj _ _ kg b hb
    exact(I'.pin (b,o) (xL _ (xL _ (ic hb e)))).2.1
   have wk:∀{H':Hp} {s':Shared} {pl:List (Addr×Obj)},Inv (X.i5 sc x ys fp C s H) pl (some y::σ) H' s'->Inv (X.i5 sc x ys fp C s H) pl (none::σ) H' s':=λ{H' s' pl} I'=>I'.weak (by simp) λj v e=>by
    cases j with
    |zero=>cases e
    |succ j=>exact e
   cases b with
   |false=>
    rw[if_neg sw]at q7
    obtain⟨m',hm,w7⟩:=q7
    obtain⟨t7,f7⟩:=zA I7
    exact⟨m',hm,i+1,acc,H7,its,n,wk I7.mz,rv,hz,t7,f7,w7⟩
   |true=>
    rw[if_pos rfl]at q7
    refine wpAny_mono (he fp C s H _ s7 (some y::σ) H7 _ (I7.fG _) q7) (λu8 s8 ⟨z,H8,I8,r8,m',hm,w8⟩=>?_) (λev s8 z=>hX _ C dB ev s8 uA (wr _) xO z)
    have I8:=I8.gn
    obtain⟨t8,f8⟩:=zA I8
    obtain⟨p1,p2,p3,p4,p5⟩:=I8.pin (s.heap.objs.size,lobj its n) (xL _ (ZF _ (ZE.mpr rfl)))
    have hl:=rv.length
    refine wpAny_list_append_plain (items:=its.toArray) ⟨n,p1⟩ (λh9 Tz sb9=>?_) (by rw[wP];omega)
    obtain⟨n9,e9⟩:=Tz
    have TB:h9.get? s.heap.objs.size=some (lobj (its++[u8]) n9):=by
     rw[e9]
     unfold lobj
     simp
    have Ia:Inv (X.i5 sc x ys fp C s H) (gp fp s5.heap) (none::σ) H8 s8:=(wk I8).fj λp hp=>I8.pin p (xL _ (xL _ hp))
    have Ib:Inv (X.i5 sc x ys fp C s H) (gp fp s5.heap) (none::σ) H8 {s8 with heap:=h9,toks:=s8.toks}:=Ia.turned (it:=s.heap.objs.size) (λb o hb e=>(sb9.2 b hb).trans e) p2 p3 (.inr (wr _))
     (λy c e z=>by
       obtain⟨v,o,ho,_⟩:=I.cell y c (cs.cl I e).1
       exact absurd (ww ho) (by rw[z];exact ZK _))
     (λp hp z=>by
       have ED:p∈gp fp s5.heap:=by simpa using(show p∈([]:List (Addr×Obj))++gp fp s5.heap from hp)
       exact NJ (z▸(qS ED).1))
    refine⟨m',hm,i+1,acc++[z],H8,its++[u8],n9,Ib.fj λp hp=>?_,rv.append (.cons r8 .nil),?_,T.keep _ _ _ t8 λb hb o e=>?_,f8,w8⟩
    ·obtain rfl:p=(s.heap.objs.size,lobj (its++[u8]) n9):=by simpa using hp
     exact⟨TB,p2,p3,p4,λv z=>by cases z⟩
    ·rw[ZD,Zb]
     omega
    ·exact(sb9.2 b (λz=>NJ (z▸hb))).trans e
 exact codeAny_compStart_list (loop _ rfl _ rfl) (T.self _ 0 _ _ _ (T.keep 0 _ _ st λb hb o e=>old b o e) (loop _ rfl _ rfl))
theorem ox{h h' B:Heap}{C:Addr}(sb:Heap.SameBut C h h'):∀{l:List Env},C∉eI l->h.FunFrames B l->h'.FunFrames B l
 |[],_,_=>trivial
 |env::l,n,⟨hk,⟨L,o,hf,hn,ho,hd⟩,hr⟩=>by
  have e:L≠C:=λz=>n (by
   unfold eI
   rw[ZZ,hf,z]
   exact wT ..)
  exact⟨hk,⟨L,o,hf,hn,(sb.2 L e).trans ho,hd⟩,ox sb (KO n) hr⟩
theorem Af{E0:XK}(KS:n0 X E0)(my:X.stack=X.env::X.outer)(uz:X.env.frame=some L){use:Option (Value->Sem Unit)}{QQ:Value->Shared->Prop}{pins:List (Addr×Obj)}{σ:St}{H:Hp}{s s':Shared}{acc:Value}{dB:Env}{ev:Value}
  (cs:fQ X.env.scope X.N sc x ys)(I:Inv X pins σ H s){fp:List Addr}(hf:∀b∈fp,pL X pins H b){C:Addr}(uA:dB.locals=C)(hC:s.heap.objs.size<=C)(z:td X sc x ys fp C s H E0 ev s'):
  notedBy (model X.prog X.w) X.A (compEnvC sc (om sc X.env) C X.env) (λe zf=>compPost (model X.prog X.w) X.A X.xe use QQ acc dB.locals (.error e) zf) ev s':=by
 obtain⟨Mp,σ1,H1,s1,I1,a,Cc,t,H',B,rfl,G,hE⟩:=z
 have G0:=G
 rw[my]at G0
 have Ug:X.A.frames=some (X.env::X.outer):=by rw[<-my];exact I.ok.frames
 have nC:C∉eI X.stack:=λz=>by
  obtain⟨_,o,ho,_⟩:=I.stack.mem z
  exact absurd (wv (ww ho) hC) (ZK _)
 show wpAny (model X.prog X.w) X.A (noteFrame (.ref a) X.env) _ _ s'
 refine wpAny_looks_onW Ug uz G0.E3 λh2 hld up=>?_
 obtain⟨m,hn,_⟩:=I1.loc
 change s1.heap.Ns C m at hn
 have fC:H1 C=none:=I1.free
 obtain⟨o,es,ep,ho,hd,r⟩:=id hn
 have bC:B.get? C=some o:=G.kp C o ho fC nC
 have Wv:h2.get? C=some o:=hld.1 C o bC
 have U:Un (eI X.stack) fp H H1 s.heap s1.heap:=I1.base
 have Uh:H' C=none:=G.un.free C o ho fC (by simp)
 have JI:∀b o,s.heap.get? b=some o->b≠C:=λb o q z=>absurd (wv (ww q) hC) (by rw[z];exact ZK _)
 have body:∀h',Heap.SameBut C h2 h'->∀D1:Env,wpAny (model X.prog X.w) X.A (PySem.passOn "comprehension.variables-let-go" (.ref a) D1:Sem Value) (λ_ _=>False) X.xe {s' with heap:=h'}:=λh' sb D1=>by
  let B':=PySem.W.hideAll B [C]
  have kB:B'.StaysIn B:=λb o q=>Yx _ q
  have B1:∀b o,B.get? b=some o->b≠C->B'.get? b=some o:=λb o q n=>Yq _ q (by simpa using n)
  have BC:B'.get? C=none:=PySem.W.hideAll_none _ (wT ..)
  have Ww:∀b o,B'.get? b=some o->h'.get? b=some o:=λb o q=>by
   have:b≠C:=λz=>by rw[z,BC]at q;cases q
   exact(sb.2 b this).trans (hld.1 b o (kB b o q))
  obtain⟨k1,k2,k3,oe,vs,T,oT,ts,he,hc,Wx,h1,Mo,Pu,hT,Jy,h3⟩:=hld
  have aC:a≠C:=λz=>by rw[z,bC]at k2;cases k2
  have TC:T≠C:=λz=>by rw[z,bC]at Mo;cases Mo
  have hA:sk B' X.stack a (.ref Cc) (.ref t) h':=⟨Ww,X0 kB k2,by
   rw[my]at nC⊢
   exact ox sb nC (PySem.W.funFrames_base kB k3),_,oe,vs,T,oT,ts,(sb.2 a aC).trans he,hc,Wx,h1,X0 kB Mo,Pu,(sb.2 T TC).trans hT,Jy,h3⟩
  refine BY (s:={s' with heap:=h'}) hA λh3 U8 Wy=>?_
  have qL:∀b o,B'.get? b=some o->h3.get? b=some o:=U8.1
  have slot:∀b o,s1.heap.get? b=some o->H1 b=none->b∈eI X.stack->∃sl,h3.get? b=some {o with slots:=sl}:=λb o q n hb=>by
   obtain⟨sl,q1⟩:=G.un.slot b o q n hb (by simp)
   have nf:∀vs,o.data≠.fields vs:=by
    obtain⟨_,o',q',PL⟩:=I1.stack.mem hb
    rw[q]at q'
    cases q'
    exact PL
   obtain⟨Ey,q2⟩:=up b _ q1 nf
   have q3:h'.get? b=some {o with slots:=Ey}:=(sb.2 b λz=>nC (z▸hb)).trans q2
   obtain⟨Wz,q4⟩:=Wy b _ q3 nf
   exact⟨Wz,q4⟩
  refine KS pins σ H s fp a Cc t _ H' B' I hf ⟨G.os.trans I1.os,G.bare,⟨λb o q n hb hx=>?_,λb o q n hb hx=>?_,λb o q n hx=>?_,λb o q hx=>?_,λb xs q=>?_,λb o u q=>?_,λb ps q=>?_⟩,λb u q=>?_,U8,λb o q n hb hx=>?_,λb o q hb hx=>?_,λb u q=>?_⟩ hE
  ·exact qL b o (B1 b o (G.kp b o (U.keep b o q n hb hx) (U.free b o q n hx) hb) (JI b o q))
  ·obtain⟨sl,q1⟩:=U.slot b o q n hb hx
   obtain⟨A5,q2⟩:=slot b _ q1 (U.free b o q n hx) hb
   exact⟨A5,q2⟩
  ·obtain⟨o',q1⟩:=U.there b o q hx
   exact G.un.free b o' q1 (U.free b o q n hx) (by simp)
  ·obtain⟨o',q1⟩:=U.there b o q hx
   by_cases hb:b∈eI X.stack
   ·obtain⟨sl,q2⟩:=slot b o' q1 (I1.k9 b hb) hb
    exact⟨_,q2⟩
   ·obtain⟨FW,q2⟩:=G.th b o' q1 hb
    exact⟨FW,qL b FW (B1 b FW q2 (JI b o q))⟩
  ·exact G.un.k7 b xs (U.k7 b xs q)
  ·exact G.un.kD b o u (U.kD b o u q)
  ·obtain⟨more,z⟩:=U.mi b ps q
   obtain⟨Ae,z'⟩:=G.un.mi b _ z
   exact⟨more++Ae,by rw[<-YS];exact z'⟩
  ·refine(G.dE b u q).ke (λc v hc z=>?_) (λ_ z=>z) λ_ _ z=>z
   have nc:c≠C:=λz=>by
    rcases hc with hc|hc
    ·rw[<-hc,z,Uh]at q;cases q
    ·rw[z,Uh]at hc;cases hc
   obtain⟨o',z1⟩:∃o',B.get? c=some o':=by
    rcases hc with rfl|hc
    ·exact G.tr c u q
    ·exact G.tr c _ hc
   have z2:=G.E3.1 c o' z1
   rw[z]at z2
   cases z2
   exact qL c v (B1 c v z1 nc)
  ·exact B1 b o (G.kp b o (U.keep b o q n hb hx) (U.free b o q n hx) hb) (JI b o q)
  ·obtain⟨o',q1⟩:=U.there b o q hx
   obtain⟨FW,q2⟩:=G.th b o' q1 hb
   exact⟨FW,B1 b FW q2 (JI b o q)⟩
  ·obtain⟨o',z1⟩:=G.tr b u q
   exact⟨o',B1 b o' z1 λz=>by rw[z,Uh]at q;cases q⟩
 rw[uA]
 cases use<;>exact⟨m,⟨o,es,ep,Wv,hd,r⟩,λh' sb D1 _=>body h' sb D1⟩
theorem HH{E0:XK}(KS:n0 X E0)(my:X.stack=X.env::X.outer)(uz:X.env.frame=some L)(hi:PI X (.Name x px) iter wi)(ys:List Str)(ht:∀ex C s H,xM ((X.i5 sc x ys ex C s H).fG (td X sc x ys ex C s H E0)) ifs tt)(he:∀ex C s H,PE ((X.i5 sc x ys ex C s H).fG (td X sc x ys ex C s H E0)) elt te)(sT:i4 X.env.scope X.N sc x ys=true)(hc:X.calm=true:=by rfl)
  (hs:∀x,foldedSetIterable iter X.env x=pure x:=by intro _;rfl):PE X (.ListComp elt [⟨.Name x px,iter,ifs,0⟩] sc pos) (wz wi tt te):=by
 have cs:=fQ.of sT
 intro pins s σ H Q I h
 rw[eval_ListComp]
 refine wpAny_comprehension_free (use:=none) (cl:=om sc X.env) rfl hs (tE λp hp hk=>cs.cell I (by rw[<-hk];exact hp)) cs.kind cs.locs ?_
 refine dH (hi pins s σ H _ I h) λv s1 h1=>dH h1 λO8 s2 h2=>?_
 obtain⟨it,fp,tn,J,H2,rfl,I2,T,bQ,f2,W,⟨m0,w0⟩,turn⟩:=h2
 refine wV (E0:=E0) (M:=λacc dB=>compPost (model X.prog X.w) X.A X.xe none (EP X pins σ Q) acc dB.locals) hc cs I2 ht he T bQ f2 w0 (F:=λacc H=>∀p,H p=none->Q (.ref p) (upd H p (.lst acc))) turn (λD C dB s' acc H' its n uA xN hD hC I' rv hz q=>?_) λD C dB ev s' uA hD hC z=>Af KS my uz cs I2 f2 uA hC z
 obtain⟨m,hn,_⟩:=I'.loc
 refine⟨m,by rw[uA];exact hn,λh' sb=>?_⟩
 rw[uA]at sb
 exact⟨.ref D,_,comp_back cs I2 f2 I' xN hD hC rv hz sb,rfl,q D (I'.pin (D,lobj its n) (xL _ (ZE.mpr rfl))).2.1⟩
theorem HI{E0:XK}(KS:n0 X E0)(my:X.stack=X.env::X.outer)(uz:X.env.frame=some L){i:Nat}{y:Str}{py pT:Pos}(hN:X.N.Nodup)(FP:X.N[i]?=some y)(hy:X.env.scope.names.lookup y=some .local)(hi:PI X (.Name x px) iter wi)(ys:List Str)(ht:∀ex C s H,xM ((X.i5 sc x ys ex C s H).fG (td X sc x ys ex C s H E0)) ifs tt)(he:∀ex C s H,PE ((X.i5 sc x ys ex C s H).fG (td X sc x ys ex C s H E0)) elt te)
  (sT:i4 X.env.scope X.N sc x ys=true)(hc:X.calm=true:=by rfl)(hs:∀x,foldedSetIterable iter X.env x=pure x:=by intro _;rfl)
  (GJ:swapsWith (.ListComp elt [⟨.Name x px,iter,ifs,0⟩] sc pos) (some (.Name y py)) pT.line X.env=pure true:=by rfl):
  PS X (.Assign [.Name y py] (.ListComp elt [⟨.Name x px,iter,ifs,0⟩] sc pos) pT) (λD σ H=>wz wi tt te σ H λv H1=>D.nx (σ.set i (some v)) H1):=by
 have cs:=fQ.of sT
 intro pins s σ H D I h
 rw[exec_Assign_Name_used _ _ _ _ GJ]
 refine wpAny_bind (wpAny_standAt (wpAny_bind ?_))
 show wpAny _ X.A (do let _<-comprehension (.ListComp elt [⟨.Name x px,iter,ifs,0⟩] sc pos) sc X.env _ (newList []) false (eval iter X.env) (some (assign (.Name y py) X.env))) _ _ s
 refine wpAny_bind (wpAny_mono (wpAny_comprehension_free (use:=some (assign (.Name y py) X.env)) (cl:=om sc X.env) (Q:=λ_ s'=>SP X pins D .next s') rfl hs (tE λp hp hk=>cs.cell I (by rw[<-hk];exact hp)) cs.kind cs.locs ?_) (λ_ s' hq=>wpAny_pure (wpAny_pure hq)) λ_ _ e=>e)
 refine dH (hi pins s σ H _ I h) λv s1 h1=>dH h1 λO8 s2 h2=>?_
 obtain⟨it,fp,tn,J,H2,rfl,I2,T,bQ,f2,W,⟨m0,w0⟩,turn⟩:=h2
 refine wV (E0:=E0) (M:=λacc dB=>compPost (model X.prog X.w) X.A X.xe (some (assign (.Name y py) X.env)) (λ_ s'=>SP X pins D .next s') acc dB.locals) hc cs I2 ht he T bQ f2 w0
  (F:=λacc H=>∀p,H p=none->D.nx (σ.set i (some (.ref p))) (upd H p (.lst acc))) turn (λDa C dB s' acc H' its n uA xN hD hC I' rv hz q=>?_) λD C dB ev s' uA hD hC z=>Af KS my uz cs I2 f2 uA hC z
 obtain⟨m,hn,_⟩:=I'.loc
 have Io:=comp_back cs I2 f2 I' xN hD hC rv hz (SameBut.QD C s'.heap)
 have QE:C≠X.env.locals:=λe=>absurd (wv I2.lt hC) (by rw[e];exact ZK _)
 have QF:∀z c,X.env.cells.lookup z=some c->c≠C:=λz c e e'=>by
  obtain⟨v,o,ho,_⟩:=I2.cell z c e
  exact absurd (wv (ww ho) hC) (by rw[e'];exact ZK _)
 refine wpAny_assign_Name (qO (v:=.ref Da) Io hN FP (.inl hy) rfl (λzf TF cw=>?_) (.inr hy))
 obtain⟨a,sb,ha⟩:=cw
 have TH:C≠a:=by
  rcases ha with e|e
  ·rw[e]
   exact QE
  ·exact(QF y a e).symm
 refine⟨m,by rw[uA];exact hn.sameBut sb TH,λh' QG=>?_⟩
 rw[uA]at QG
 have mv:(upd H' Da (.lst acc)) C=none:=by
  rw[aJ xN.symm]
  exact I'.free
 refine⟨_,_,TF.turned (t':=zf.toks) (it:=C) (λb o hb e=>(QG.2 b hb).trans e) mv QE (.inr (ZB I2.sz hC)) QF (λp hp e=>?_),q Da (I'.pin (Da,lobj its n) (xL _ (ZE.mpr rfl))).2.1⟩
 exact absurd (wv (ww (I2.pin p hp).1) hC) (by rw[e];exact ZK _)
end
end L2
namespace L2.D
open PySem PySem.Spec PyProof.Rows PySem.SeqAt
open Classical
abbrev qi(E:XK)(cls:Nat->Addr):Nat->Hp->Prop:=λk H=>E (.ref (cls k)) none H
def Ui(K:PySem.W.Frag)(κ:Kl)(Ex:Nat->Hp->Prop)(te:TE)(f:Den):Prop:=
 ∀{G A bo own ρ σ H p Q},R K κ G A bo own ρ σ H->f ρ=some p->(∀k,cU p=some k->∀H',aE H H'->Ex k H')->(cU p=none->∀v H',aE H H'->RM K κ (dG A own ρ) H H' v p->Q v H')->te σ H Q
def A1(X:Cx)(κ:Kl)(Ex:Nat->Hp->Prop)(e:Expr)(f:Den):Prop:=∃te,PE X e te/\Ui X.K κ Ex te f
def A3(p:PV)(q:Option PV):Option PV:=if(cU p).isSome=true then some p else q
theorem d6{p:PV}{q:Option PV}(h:cU p=none):A3 p q=q:=by
 unfold A3
 rw[h]
 rfl
theorem mM{p:PV}{q:Option PV}{k:Nat}(h:cU p=some k):A3 p q=some p:=by
 unfold A3
 rw[h]
 rfl
def wW(F:List PV->Option PV)(a:Den)(as:cI):Den:=λρ=>(a ρ).bind λp=>A3 p ((as ρ).bind λps=>(F (p::ps)).bind λz=>if((cU z).isSome||vP z)=true then none else some z)
def wX(F:List PV->Option PV)(a b:Den):Den:=λρ=>(a ρ).bind λp=>(b ρ).bind λq=>A3 q ((F [p,q]).bind λz=>if vP z=true then some z else none)
def wY(a:Den):Den:=λρ=>(a ρ).bind λp=>A3 p (some (.lst [p]))
def HJ(z:PV):PV->PV
 |.lst l=>.lst (z::l)
 |p=>p
def KU(out:List PV):PV->PV
 |.lst l=>.lst (out++l)
 |p=>p
def kQ(c e:Den)(ρ:cA):List PV->Option PV
 |[]=>some (.lst [])
 |x::xs=>(c (.sh x::ρ)).bind λb=>A3 b ((Pk b).bind λt=>if t then(e (.sh x::ρ)).bind λz=>A3 z ((kQ c e ρ xs).map (HJ z))else kQ c e ρ xs)
def oP(it:cI)(c e:Den):Den:=λρ=>(it ρ).bind λxs=>if xs.length<=sizeLine then kQ c e ρ xs else none
theorem D2(out:List PV){p:PV}{k:Nat}(h:cU p=some k):KU out p=p:=by
 cases p<;>first|rfl|cases h
theorem HK(out:List PV)(z p:PV):KU out (HJ z p)=KU (out++[z]) p:=by
 cases p<;>first|rfl|skip
 show PV.lst (out++z::_)=PV.lst ((out++[z])++_)
 rw[tz]
 rfl
def Rq(K:PySem.W.Frag)(κ:Kl)(Ex:Nat->Hp->Prop)(f:Den):TE:=λσ H Q=>∃G A bo own ρ p,R K κ G A bo own ρ σ H/\f ρ=some p/\(∀k,cU p=some k->∀H',aE H H'->Ex k H')/\(cU p=none->∀v H',aE H H'->Rep K κ (d7 A own ρ H') v p->Q v H')
def Rt(K:PySem.W.Frag)(κ:Kl)(Ex:Nat->Hp->Prop)(f:Den):TT:=λσ H Q=>∃G A bo own ρ p,R K κ G A bo own ρ σ H/\f ρ=some p/\(∀k,cU p=some k->∀H',aE H H'->Ex k H')/\(cU p=none->∃b,p=.bl b/\∀H',aE H H'->Q b H')
theorem A1.pe{X:Cx}{κ:Kl}{Ex:Nat->Hp->Prop}{e:Expr}{f:Den}(h:A1 X κ Ex e f):PE X e (Rq X.K κ Ex f):=λpins s σ H Q I ⟨_,_,_,_,_,_,r,e,q1,q2⟩=>
 let⟨_,h1,h2⟩:=h;h1 pins s σ H Q I (h2 r e q1 λhn v H' s z=>q2 hn v H' s (z.rep λb hb=>r.xV hb))
theorem A1.pt{X:Cx}{κ:Kl}{Ex:Nat->Hp->Prop}{e:Expr}{f:Den}(h:A1 X κ Ex e f)(he:∀whole,isTrue e X.env whole=(do let v<-whole;standAt e.pos;holding [v] (truthy v)):=by intro _;rfl):PT X e (Rt X.K κ Ex f):=λpins s σ H Q I ⟨_,_,_,_,_,_,r,e1,q1,q2⟩=>by
 obtain⟨te,h1,h2⟩:=h
 refine xq h1 he pins s σ H Q I (h2 r e1 q1 λhn v H' s z=>?_)
 obtain⟨b,rfl,q⟩:=q2 hn
 have z1:=z.rep λb hb=>r.xV hb
 cases z1
 exact⟨b,rfl,q H' s⟩
theorem DE.WA{X:Cx}{κ:Kl}{Ex:Nat->Hp->Prop}:xM X [] (Rt X.K κ Ex (dC (.bl true))):=λpins s σ H Q I ⟨_,_,_,_,_,_,r,e1,q1,q2⟩=>by
 cases e1
 obtain⟨b,hb,q⟩:=q2 rfl
 cases hb
 exact uw pins s σ H Q I (q H (aE.refl _))
theorem DE.WB{X:Cx}{κ:Kl}{Ex:Nat->Hp->Prop}{e:Expr}{f:Den}(h:DE X κ e f):PE X e (Rq X.K κ Ex λρ=>(f ρ).bind λp=>if(cU p).isSome=true then none else some p):=λpins s σ H Q I ⟨_,_,_,_,_,_,r,e,q1,q2⟩=>by
 obtain⟨te,h1,h2⟩:=h
 obtain⟨p,e1,e2⟩:=zn.mp e
 split at e2
 ·cases e2
 ·rename_i hn
  have PN:cU p=none:=by cases q:cU p with|none=>rfl|some k=>rw[q]at hn;exact absurd rfl hn
  obtain rfl:=ZO e2
  exact h1 pins s σ H Q I (h2 r e1 λv H' s z=>q2 PN v H' s z)
section
variable{K:PySem.W.Frag}{κ:Kl}{Ex:Nat->Hp->Prop}
theorem Ag{wi:TI}{fi:cI}{c e:Den}(hi:∀{G A bo own ρ σ H ps Q},R K κ G A bo own ρ σ H->fi ρ=some ps->(∀J H',aE H H'->x6 K κ H' (dG A own ρ) J ps->Q J H')->wi σ H Q):
  Ui K κ Ex (wz wi (Rt K κ Ex c) (Rq K κ Ex e)) (oP fi c e):=λ{G A bo own ρ σ H p Q} r e0 qx q=>by
 obtain⟨ps,e1,e2⟩:=zn.mp e0
 have h0:ps.length<=sizeLine/\kQ c e ρ ps=some p:=by
  split at e2
  ·exact⟨by assumption,e2⟩
  ·cases e2
 obtain⟨oh,e3⟩:=h0
 refine hi r e1 λJ H1 s1 hI=>?_
 refine⟨λi m acc H2=>m=ps.length-i/\i<=ps.length/\aE H1 H2/\acc.length<=i/\∃out rp,aV K κ (d7 A own ρ H2) acc out/\kQ c e ρ (ps.drop i)=some rp/\KU out rp=p,
  ⟨ps.length,by simp,ZI _,aE.refl _,ZI _,[],p,.nil,by simpa using e3,by cases p<;>rfl⟩,?_⟩
 rintro i m acc H2 ⟨rfl,Se,s2,ha,out,rp,q1,q2,q3⟩
 obtain⟨h1,h2⟩:=hI i H2 s2
 have md:=s1.trans s2
 have r2:=r.mono md
 by_cases i0:i<ps.length
 ·rw[ZR i0]at q2
  obtain⟨h3,h4⟩:=h1 ps[i] (wn i0)
  refine .inr ⟨h3,by omega,λy H3 hy=>?_⟩
  obtain⟨s3,q4⟩:=h4 y H3 hy
  have rep:=q4 (dG A own ρ) (λb hb=>r2.xV hb) (aZ s2)
  have r3:=(r2.mono s3).cons rep
  unfold kQ at q2
  obtain⟨b,e4,e5⟩:=zn.mp q2
  refine⟨_,_,_,_,_,_,r3,e4,λk hk H4 s4=>?_,λhn=>?_⟩
  ·rw[mM hk]at e5
   cases e5
   rw[D2 out hk]at q3
   subst q3
   exact qx k hk H4 ((md.trans s3).trans s4)
  ·rw[d6 hn]at e5
   obtain⟨t,e6,e7⟩:=zn.mp e5
   have Pw:b=.bl t:=by
    cases b<;>first|(cases e6;done)|skip
    cases e6
    rfl
   refine⟨t,Pw,λH4 s4=>?_⟩
   have r4:=r3.mono s4
   cases t with
   |true=>
    dsimp only
    rw[if_pos rfl]at e7⊢
    obtain⟨z,e8,e9⟩:=zn.mp e7
    refine⟨_,_,_,_,_,_,r4,e8,λk hk H5 s5=>?_,λO9 v H5 s5 q5=>?_⟩
    ·rw[mM hk]at e9
     cases e9
     rw[D2 out hk]at q3
     subst q3
     exact qx k hk H5 (((md.trans s3).trans s4).trans s5)
    ·rw[d6 O9]at e9
     obtain⟨rq,WC,rfl⟩:=xz.mp e9
     rw[d7,kN]at q5
     refine⟨ps.length-(i+1),by omega,rfl,i0,((s2.trans s3).trans s4).trans s5,by simp;omega,out++[z],rq,?_,WC,by rw[<-HK];exact q3⟩
     exact(q1.mono (aZ ((s3.trans s4).trans s5))).append (.cons q5 .nil)
   |false=>
    dsimp only
    rw[if_neg sw]at e7⊢
    exact⟨ps.length-(i+1),by omega,rfl,i0,(s2.trans s3).trans s4,by omega,out,rp,q1.mono (aZ (s3.trans s4)),e7,q3⟩
 ·have hn:ps.drop i=[]:=ZU (by omega)
  rw[hn]at q2
  cases q2
  have U9:PV.lst (out++[])=p:=q3
  rw[ZL]at U9
  subst U9
  refine .inl ⟨h2 (by omega),λa hp=>q rfl _ _ (md.trans (bD hp)) ?_⟩
  unfold RM
  rw[if_pos (show vP (.lst out)=true from rfl)]
  obtain⟨a,ws,l,w1,w2,w3,w4⟩:=r2.xW hp q1
  refine⟨a,ws,l,w1,w2,?_,w4⟩
  cases w1
  exact md.free hp
end
theorem Ah{X:Cx}{sc:Scope}{x:Str}{ys:List Str}{fp:List Addr}{C:Addr}{s:Shared}{H:Hp}{E:XK}:Passes (nZ X.prog X.w) ((X.i5 sc x ys fp C s H).fG (td X sc x ys fp C s H E)) E:=
 λpins σ H1 s1 e s' I hc=>⟨pins,σ,H1,s1,I.gn,hc⟩
section
variable{X:Cx}{κ:Kl}{cls:Nat->Addr}{E:XK}{sc:Scope}{x y m:Str}{px pos p apos py pT:Pos}{elt iter c e o a b:Expr}{es:List Expr}{fi:cI}{ft:dF}{f fo fa fb:Den}{fs:cI}{k:Nat}{ad:Addr}{fd:FuncData}{ps:List Str}{F:List PV->Option PV}{L:Addr}
theorem Ai(FO:aL X.prog X.w X.K X.mg X.base (nZ X.prog X.w) k ad fd ps (FV X.K κ cls F))(hx:Passes (nZ X.prog X.w) X E)(hr:cg k X.A)(hm:X.mg x=some (.ref ad))(hk:PySem.W.keepIn X.K (.ref ad)=true)(hb:Binds X.K fd ps [])(ha:DA X κ (e::es) fs)(hg:Gl X x:=by rfl)(oj:(x==("__debug__" :Str))=false:=by decide)
  (he:starEach (e::es) X.env=(false,eval e X.env)::starEach es X.env:=by rfl)(hpl:(backTo pos (starEach es X.env)).any (·.1)=false:=by rfl):A1 X κ (qi E cls) (.Call (.Name x p) (e::es) [] pos) (aN F fs):=by
 obtain⟨ta,h1,h2⟩:=ha
 refine⟨_,jh FO hr hg hm hk hb .nil hx h1 oj he hpl,λ{G A bo own ρ σ H p Q} r e qx q=>?_⟩
 obtain⟨xs,e1,e2⟩:=zn.mp e
 refine h2 r e1 λvs H1 s1 z1=>?_
 rw[ZL]
 refine⟨dG A own ρ,xs,p,λb hb=>(r.mono s1).xV hb,z1,e2,?_⟩
 cases hp:cU p with
 |some k=>exact λH' s=>qx k hp H' (s1.trans s)
 |none=>exact λv H' s z=>q hp v H' (s1.trans s) (z.big s1)
def oQ(X:Cx)(m:Str)(E:XK)(ta:TE)(t:TA):TE:=λσ H Q=>ta σ H λx H1=>∃(a C dx:Addr) (fs:List (Str×V)) (f:Addr) (fd:FuncData) (ps:List Str) (sp:Sp) (k:Nat),x=.ref a/\H1 a=some (.ins C dx fs)/\Bg X.K C/\Meth X.K C m f/\fs.lookup m=none/\
 aL X.prog X.w X.K X.mg X.base (nZ X.prog X.w) k f fd ps sp/\cg k X.A/\Binds X.K fd ps []/\t σ H1 λvs H2=>sp (x::vs) H2 Q E
theorem HL{pl:Sem Bool}{ta:TE}{t:TA}(hx:Passes (nZ X.prog X.w) X E)(he:PE X o ta)(ha:PA X (e::es) t)
  (my:starEach (e::es) X.env=(false,eval e X.env)::starEach es X.env:=by rfl)(hpl:(backTo pos (starEach es X.env)).any (·.1)=false:=by rfl)
  (ht:eval (.Call (.Attribute o m apos) (e::es) [] pos) X.env=(do
    let ov<-eval o X.env
    standAt apos.atName
    let(f,first)<-holding [ov] (getMethod ov m pl)
    callWith pos f first (backTo pos (starEach (e::es) X.env)) (backToKw pos (keywordEach [] X.env))):=by rfl):PE X (.Call (.Attribute o m apos) (e::es) [] pos) (oQ X m E ta t):=by
 intro pins s σ H Q I h
 refine Yk (pl:=pl) (dH (he pins s σ H _ I h) λu s1 cw=>?_) ht
 obtain⟨x,H1,I1,rx,a,C,dx,fs,f,fd,ps,sp,k,ex,ea,c,hm,l,F,hr,hb,q⟩:=cw
 subst ex
 obtain rfl:u=Value.ref a:=rx
 refine ue I1 ea c hm l ?_
 refine Z6 (first:=[.ref a]) (h₀:=X.base) I.ok.mod.kin hm.kp (dH (ha pos pins s1 σ H1 _ I1 q) λus s2 ⟨vs,H2,I2,r,q2⟩=>⟨I2.k8,?_⟩) my hpl
 refine xv (us:=.ref a::us) (vs:=.ref a::vs) (ds:=[]) (dvs:=[]) F hr hb .nil hx I2 (.cons rfl r) ?_
 rw[ZL]
 exact q2
def jD(P:Program)(w:World)(K:PySem.W.Frag)(mg:Str->Option Value)(base:Heap)(κ:Kl)(cls:Nat->Addr)(m:Str)(k:Nat)(ps:List Str)(Fs:Nat->List PV->Option PV):Prop:=
 ∀c xs p,Fs c xs=some p->∃(f:Addr) (fd:FuncData),Bg K (κ.adr c)/\Meth K (κ.adr c) m f/\m∉κ.fld c/\aL P w K mg base (nZ P w) k f fd ps (FV K κ cls (Fs c))/\Binds K fd ps []
theorem jD.mono{P:Program}{w:World}{K:PySem.W.Frag}{mg:Str->Option Value}{base:Heap}{k k':Nat}{Fs:Nat->List PV->Option PV}(M:jD P w K mg base κ cls m k ps Fs)(h:k<=k'):jD P w K mg base κ cls m k' ps Fs:=λc xs p e=>
 let⟨f,fd,h1,h2,h3,h4,h5⟩:=M c xs p e;⟨f,fd,h1,h2,h3,h4.mono h,h5⟩
theorem HN{Fs:Nat->List PV->Option PV}{ta:TE}{t:TA}(M:jD X.prog X.w X.K X.mg X.base κ cls m k ps Fs)(hr:cg k X.A)(h2:QR X.K κ ta fo)
  (h4:∀{G A bo own ρ σ H ps Q},R X.K κ G A bo own ρ σ H->fs ρ=some ps->(∀vs H',aE H H'->aV X.K κ (d7 A own ρ H') vs ps->Q vs H')->t σ H Q):Ui X.K κ (qi E cls) (oQ X m E ta t) (uF Fs fo fs):=λ{G A bo own ρ σ H p Q} r e qx q=>by
 obtain⟨p1,e1,e2⟩:=zn.mp e
 refine h2 r e1 λx H1 s1 z1=>?_
 cases p1<;>first|(cases e2;done)|skip
 rename_i c l
 obtain⟨xs,e3,e4⟩:=zn.mp e2
 obtain⟨f,fd,k1,k2,k3,k4,k5⟩:=M c _ _ e4
 cases z1 with
 |ins h3 h5 h6=>
  refine⟨_,_,_,_,f,fd,ps,_,k,rfl,ay _ _ h3,k1,k2,lq k3,k4,hr,k5,h4 (r.mono s1) e3 λvs H2 s2 z2=>?_⟩
  refine⟨dG A own ρ,_,p,λb hb=>((r.mono s1).mono s2).xV hb,.cons ((Rep.ins h3 h5 h6).mono (aZ s2)) z2,e4,?_⟩
  cases hp:cU p with
  |some k=>exact λH' s=>qx k hp H' ((s1.trans s2).trans s)
  |none=>exact λv H' s z=>q hp v H' ((s1.trans s2).trans s) (z.big (s1.trans s2))
theorem Aj{Fs:Nat->List PV->Option PV}{pl:Sem Bool}(M:jD X.prog X.w X.K X.mg X.base κ cls m k ps Fs)(hx:Passes (nZ X.prog X.w) X E)(hr:cg k X.A)(ho:DE X κ o fo)(ha:DA X κ (e::es) fs)
  (my:starEach (e::es) X.env=(false,eval e X.env)::starEach es X.env:=by rfl)(hpl:(backTo pos (starEach es X.env)).any (·.1)=false:=by rfl)
  (ht:eval (.Call (.Attribute o m apos) (e::es) [] pos) X.env=(do
    let ov<-eval o X.env
    standAt apos.atName
    let(f,first)<-holding [ov] (getMethod ov m pl)
    callWith pos f first (backTo pos (starEach (e::es) X.env)) (backToKw pos (keywordEach [] X.env))):=by rfl):A1 X κ (qi E cls) (.Call (.Attribute o m apos) (e::es) [] pos) (uF Fs fo fs):=by
 obtain⟨ta,h1,h2⟩:=ho
 obtain⟨t,h3,h4⟩:=ha
 exact⟨_,HL hx h1 h3 my hpl ht,HN M hr h2 h4⟩
variable{Ex:Nat->Hp->Prop}
theorem HP(ha:A1 X κ Ex a fa)(hs:starEach [a] X.env=(false,eval a X.env)::starEach [] X.env:=by rfl):A1 X κ Ex (.List [a] pos) (wY fa):=by
 have zl:(1:Nat)<=sizeLine:=by decide
 obtain⟨ta,h1,h2⟩:=ha
 refine⟨_,xu (aI h1 bB hs),λ{G A bo own ρ σ H p Q} r e qx q=>?_⟩
 obtain⟨p1,e1,e2⟩:=zn.mp e
 refine h2 r e1 (λk hk=>?_) λhn v H1 s1 z1=>?_
 ·rw[mM hk]at e2
  cases e2
  exact qx k hk
 ·rw[d6 hn]at e2
  cases e2
  have z2:=z1.rep λb hb=>r.xV hb
  refine⟨zl,λa hp=>q rfl _ _ (s1.trans (bD hp)) ?_⟩
  unfold RM
  rw[if_pos (show vP (.lst [p1])=true from rfl)]
  obtain⟨a,ws,l,w1,w2,w3,w4⟩:=(r.mono s1).xW hp (.cons z2 .nil)
  refine⟨a,ws,l,w1,w2,?_,w4⟩
  cases w1
  exact s1.free hp
theorem E4(FO:aL X.prog X.w X.K X.mg X.base cP k ad fd ps (d5 X.K κ false F))(hr:cg k X.A)(hm:X.mg x=some (.ref ad))(hk:PySem.W.keepIn X.K (.ref ad)=true)(hb:Binds X.K fd ps [])(ha:A1 X κ Ex e f)(has:DA X κ es fs)(hg:Gl X x:=by rfl)(oj:(x==("__debug__" :Str))=false:=by decide)
  (he:starEach (e::es) X.env=(false,eval e X.env)::starEach es X.env:=by rfl)(hpl:(backTo pos (starEach es X.env)).any (·.1)=false:=by rfl):A1 X κ Ex (.Call (.Name x p) (e::es) [] pos) (wW F f fs):=by
 obtain⟨te,a1,a2⟩:=ha
 obtain⟨ta,h1,h2⟩:=has
 refine⟨_,jh FO hr hg hm hk hb .nil jW (aI a1 h1 he) oj he hpl,λ{G A bo own ρ σ H p Q} r e1 qx q=>?_⟩
 obtain⟨p1,e3,e4⟩:=zn.mp e1
 refine a2 r e3 (λk hk=>?_) λhn v H1 s1 z1=>?_
 ·rw[mM hk]at e4
  cases e4
  exact qx k hk
 ·rw[d6 hn]at e4
  obtain⟨xs,e5,e6⟩:=zn.mp e4
  obtain⟨z,e7,e8⟩:=zn.mp e6
  split at e8
  ·cases e8
  rename_i hz
  rw[Yn,not_or]at hz
  obtain rfl:=ZO e8
  have z2:=z1.rep λb hb=>r.xV hb
  refine h2 (r.mono s1) e5 λvs H2 s2 w2=>?_
  show d5 X.K κ false F ((v::vs)++[]) H2 Q E0
  rw[ZL]
  refine⟨dG A own ρ,p1::xs,z,λb hb=>((r.mono s1).mono s2).xV hb,.cons (z2.mono (aZ s2)) w2,e7,λv H' s y=>?_⟩
  have hx:cU z=none:=by
   cases q:cU z with
   |none=>rfl
   |some n=>rw[q]at hz;exact absurd rfl hz.1
  exact q hx v H' ((s1.trans s2).trans s) (.of (by simpa using hz.2) y)
theorem E5(FO:aL X.prog X.w X.K X.mg X.base cP k ad fd ps (d5 X.K κ true F))(hr:cg k X.A)(hm:X.mg x=some (.ref ad))(hk:PySem.W.keepIn X.K (.ref ad)=true)(hb:Binds X.K fd ps [])(ha:DE X κ a fa)(TU:A1 X κ Ex b fb)(hg:Gl X x:=by rfl)(oj:(x==("__debug__" :Str))=false:=by decide)
  (he:starEach [a,b] X.env=(false,eval a X.env)::starEach [b] X.env:=by rfl)(Q7:starEach [b] X.env=(false,eval b X.env)::starEach [] X.env:=by rfl)(hpl:(backTo pos (starEach [b] X.env)).any (·.1)=false:=by rfl):A1 X κ Ex (.Call (.Name x p) [a,b] [] pos) (wX F fa fb):=by
 obtain⟨te,a1,a2⟩:=ha
 obtain⟨tb,b1,b2⟩:=TU
 refine⟨_,jh FO hr hg hm hk hb .nil jW (aI a1 (aI b1 bB Q7) he) oj he hpl,λ{G A bo own ρ σ H p Q} r e1 qx q=>?_⟩
 obtain⟨p1,e3,e4⟩:=zn.mp e1
 obtain⟨p2,e5,e6⟩:=zn.mp e4
 refine a2 r e3 λv H1 s1 z1=>?_
 refine b2 (r.mono s1) e5 (λk hk H' s=>?_) λhn u H2 s2 z2=>?_
 ·rw[mM hk]at e6
  cases e6
  exact qx k hk H' (s1.trans s)
 ·rw[d6 hn]at e6
  obtain⟨z,e7,e8⟩:=zn.mp e6
  obtain⟨hz,e9⟩:=bj e8
  subst e9
  have z3:=z2.rep λb hb=>(r.mono s1).xV hb
  show d5 X.K κ true F ([v,u]++[]) H2 Q E0
  rw[ZL]
  refine⟨dG A own ρ,[p1,p2],z,λb hb=>((r.mono s1).mono s2).xV hb,.cons (z1.mono (aZ s2)) (.cons z3 .nil),e7,λv H' s y=>?_⟩
  have hx:cU z=none:=by cases z<;>first|rfl|cases hz
  refine q hx v H' ((s1.trans s2).trans s) ?_
  unfold RM
  rw[if_pos hz]
  exact Pn y (s1.trans s2) λb w=>w
def wZ(a:Den):aR:=λρ=>(a ρ).map Fl.rt
theorem ye(h:A1 X κ Ex e f):DX X κ Ex (.Return (some e) pos) (wZ f):=by
 obtain⟨te,h1,h2⟩:=h
 refine⟨_,mw h1,λ{G A bo own ρ σ H fl D} r e1 k=>?_⟩
 obtain⟨p,e2,rfl⟩:=xz.mp e1
 have z:(match cU p with|some k=>∀H',aE G H'->Ex k H'|none=>∀v H',aE G H'->RM X.K κ A G H' v p->D.rt v H'):=k
 refine h2 r e2 (λk hk H' s=>?_) λhn v H' s q=>?_
 ·rw[hk]at z
  exact z H' (r.same.trans s)
 ·rw[hn]at z
  refine z v H' (r.same.trans s) ?_
  unfold RM at q⊢
  split
  ·rename_i hl
   rw[if_pos hl]at q
   exact Pn q r.same λb q=>.inl q
  ·rename_i hl
   rw[if_neg hl]at q
   exact q.mono (cV (λ_ _ q=>q) λb q _=>.inl q)
theorem E6(KS:n0 X E)(my:X.stack=X.env::X.outer)(uz:X.env.frame=some L)(hi:Kt X κ (.Name x px) iter fi)(r9:Scope)(N0 ys:List Str)(he:∀ex C s H,A1 ((X.i5 sc x ys ex C s H).fG (td X sc x ys ex C s H E)) κ (qi E cls) elt f)(uO:X.env.scope=r9:=by rfl)(G9:X.N=N0:=by rfl)(sT:i4 r9 N0 sc x ys=true:=by decide+kernel)(hc:X.calm=true:=by rfl)
  (hs:∀x,foldedSetIterable iter X.env x=pure x:=by intro _;rfl):A1 X κ (qi E cls) (.ListComp elt [⟨.Name x px,iter,[],0⟩] sc pos) (oP fi (dC (.bl true)) f):=by
 obtain⟨wi,h1,h2⟩:=hi
 exact⟨_,HH KS my uz h1 ys (tt:=Rt X.K κ (qi E cls) (dC (.bl true))) (te:=Rq X.K κ (qi E cls) f) (λex C s H=>DE.WA) (λex C s H=>(he ex C s H).pe) (by rw[uO,G9];exact sT) hc hs,Ag h2⟩
def Ot(f:Den):Den:=λρ=>(f ρ).bind λp=>if(cU p).isSome=true then none else some p
def w5(i:Nat)(a:Den):aR:=λρ=>(a ρ).map λp=>if(cU p).isSome=true then .rt p else .nx (ρ.set i (.sh p))
theorem HQ{i:Nat}(KS:n0 X E)(my:X.stack=X.env::X.outer)(uz:X.env.frame=some L)(hN:X.N.Nodup)(hi:Kt X κ (.Name x px) iter fi)(r9:Scope)(N0 ys:List Str)(RX:∀ex C s H,A1 ((X.i5 sc x ys ex C s H).fG (td X sc x ys ex C s H E)) κ (qi E cls) c f)(he:∀ex C s H,DE ((X.i5 sc x ys ex C s H).fG (td X sc x ys ex C s H E)) κ elt fo)(FP:X.N[i]?=some y:=by rfl)(hy:X.env.scope.names.lookup y=some .local:=by rfl)(uO:X.env.scope=r9:=by rfl)(G9:X.N=N0:=by rfl)(sT:i4 r9 N0 sc x ys=true:=by decide+kernel)(hc:X.calm=true:=by rfl)
  (hs:∀x,foldedSetIterable iter X.env x=pure x:=by intro _;rfl)(WD:∀(env:Env) (whole:Sem Value),isTrue c env whole=(do let v<-whole;standAt c.pos;holding [v] (truthy v)):=by intro _ _;rfl)(GJ:swapsWith (.ListComp elt [⟨.Name x px,iter,[c],0⟩] sc pos) (some (.Name y py)) pT.line X.env=pure true:=by rfl):
  DX X κ (qi E cls) (.Assign [.Name y py] (.ListComp elt [⟨.Name x px,iter,[c],0⟩] sc pos) pT) (w5 i (oP fi f (Ot fo))):=by
 obtain⟨wi,h1,h2⟩:=hi
 refine⟨_,HI KS my uz hN FP hy h1 ys (tt:=Rt X.K κ (qi E cls) f) (te:=Rq X.K κ (qi E cls) (Ot fo)) (λex C s H=>ux ((RX ex C s H).pt (WD _))) (λex C s H=>(he ex C s H).WB) (by rw[uO,G9];exact sT) hc hs GJ,λ{G A bo own ρ σ H fl D} r e1 k=>?_⟩
 obtain⟨p,e2,rfl⟩:=xz.mp e1
 refine Ag h2 r e2 (λn hn H' s=>?_) λhn v H' s q=>?_
 ·have z:u0 X.K κ (qi E cls) G A bo D (.rt p):=by
    rw[hn]at k
    exact k
  have z':(match cU p with|some k=>∀H',aE G H'->(qi E cls) k H'|none=>∀v H',aE G H'->RM X.K κ A G H' v p->D.rt v H'):=z
  rw[hn]at z'
  exact z' H' (r.same.trans s)
 ·rw[hn]at k
  have k':u0 X.K κ (qi E cls) G A bo D (.nx (ρ.set i (.sh p))):=k
  exact k' own _ H' ((r.mono s).set (q.rep λb hb=>r.xV hb))
end
section
variable{X:Cx}{E:XK}{m m1 m2:Str}{o o1 o2 e a1 a2 c:Expr}{es Jz JA:List Expr}{to t Uj t1 to2 t2:TA}
theorem D3{o:Expr}{to:TE}{t:TA}{pl:Sem Bool}{apos pos:Pos}{pins:List (Addr×Obj)}{σ:St}{H:Hp}{s:Shared}{Q:VK}{E1:Value->Shared->Prop}(I:Inv X pins σ H s)(ho:PE (X.fG E1) o to)(ha:PA (X.fG E1) (e::es) t)
  (WE:∀H1 s1 ev s',Inv X pins σ H1 s1->nZ X.prog X.w X.stack H1 s1 E ev s'->E1 ev s')(h:oQ X m E to t σ H Q)
  (my:starEach (e::es) X.env=(false,eval e X.env)::starEach es X.env)(hpl:(backTo pos (starEach es X.env)).any (·.1)=false)
  (ht:eval (.Call (.Attribute o m apos) (e::es) [] pos) X.env=(do
    let ov<-eval o X.env
    standAt apos.atName
    let(f,first)<-holding [ov] (getMethod ov m pl)
    callWith pos f first (backTo pos (starEach (e::es) X.env)) (backToKw pos (keywordEach [] X.env)))):
  wpAny (model X.prog X.w) X.A (eval (.Call (.Attribute o m apos) (e::es) [] pos) X.env) (EP X pins σ Q) E1 s:=by
 refine Yk (pl:=pl) (dH (ho pins s σ H _ (I.fG E1) h) λu s1 cw=>?_) ht
 obtain⟨x,H1,I1,rx,a,C,dx,fs,f,fd,ps,sp,k,ex,ea,c,hm,l,F,hr,hb,q⟩:=cw
 subst ex
 obtain rfl:u=Value.ref a:=rx
 refine ue (X:=X.fG E1) I1 ea c hm l ?_
 refine Z6 (first:=[.ref a]) (h₀:=X.base) I.ok.mod.kin hm.kp (dH (ha pos pins s1 σ H1 _ I1 q) λus s2 ⟨vs,H2,I2,r,q2⟩=>⟨I2.gn.k8,?_⟩) my hpl
 have J:=I2.gn
 have r':Vals (.ref a::vs) (.ref a::us):=.cons rfl r
 have hl:(.ref a::us:List Value).length=ps.length:=by rw[<-r'.length];exact F.len _ _ _ _ q2
 have Sk:=hb s2 (.ref a::us) J.k8 (by rw[ZL];exact hl)
 rw[ZL]at Sk
 refine wpAny_call (codeAny_mono (F.run X.A X.stack s2 H2 ⟨.ref a::us,[]⟩ (.ref a::us) (.ref a::vs) _ _ hr J.Na Sk r' q2) λrr s' hq=>?_)
 cases rr with
 |error e=>exact WE H2 s2 e s' J hq
 |ok fl=>
  cases fl with
  |ret u=>exact J.after hq
  |next=>exact False.elim hq
  |brk=>exact False.elim hq
  |cont=>exact False.elim hq
end
section
variable{X:Cx}{DD:Addr}{y z n x m1 m2:Str}{iy iz jn:Nat}{o1 o2 a1 a2 c:Expr}{Jz JA:List Expr}{Uj to2:TE}{t1 t2:TA}{tc:TT}{pc py pa px pz pn pb ph pos Ru Rv Mq Mr Uk vL Va:Pos}{TZ T4:Sem Bool}
theorem KW(hc:∀E1,PT (X.fG E1) c tc)(WG:∀E1,PE (X.fG E1) o1 Uj)(Pj:∀E1,PA (X.fG E1) (a1::Jz) t1)(C7:∀E1,PE (X.fG E1) o2 to2)(WH:∀E1,PA (X.fG E1) (a2::JA) t2)
  (hN:X.N.Nodup)(FP:X.N[iy]?=some y)(WI:X.N[iz]?=some z)(Pq:X.N[jn]?=some n)(Sn:X.env.scope.names.lookup y=some .local)(Vb:X.env.scope.names.lookup z=some .local)(So:X.env.scope.names.lookup n=some .local)
  (my:X.stack=X.env::X.outer)(uz:X.env.frame=some X.env.locals)(hD:X.mg x=some (.ref DD))(WJ:Gl X x:=by rfl)(WK:(x==("__debug__" :Str))=false:=by decide)(WL:(n==("__debug__" :Str))=false:=by decide)(WM:(n==("__classdict__" :Str))=false:=by decide)
  (WN:starEach (a1::Jz) X.env=(false,eval a1 X.env)::starEach Jz X.env:=by rfl)(Ul:(backTo Mq (starEach Jz X.env)).any (·.1)=false:=by rfl)(Q7:starEach (a2::JA) X.env=(false,eval a2 X.env)::starEach JA X.env:=by rfl)(Um:(backTo Mr (starEach JA X.env)).any (·.1)=false:=by rfl)
  (WO:eval (.Call (.Attribute o1 m1 Ru) (a1::Jz) [] Mq) X.env=(do
    let ov<-eval o1 X.env
    standAt Ru.atName
    let(f,first)<-holding [ov] (getMethod ov m1 TZ)
    callWith Mq f first (backTo Mq (starEach (a1::Jz) X.env)) (backToKw Mq (keywordEach [] X.env))):=by rfl)
  (Rw:eval (.Call (.Attribute o2 m2 Rv) (a2::JA) [] Mr) X.env=(do
    let ov<-eval o2 X.env
    standAt Rv.atName
    let(f,first)<-holding [ov] (getMethod ov m2 T4)
    callWith Mr f first (backTo Mr (starEach (a2::JA) X.env)) (backToKw Mr (keywordEach [] X.env))):=by rfl)
  (hs:swapsWith (.Call (.Attribute o1 m1 Ru) (a1::Jz) [] Mq) (some (.Name y py)) pa.line X.env=pure false:=by rfl)(T7:swapsWith (.Call (.Attribute o2 m2 Rv) (a2::JA) [] Mr) (some (.Name y Uk)) vL.line X.env=pure false:=by rfl)(ze:swapsWith (.Name n pn) (some (.Name z pz)) pb.line X.env=pure false:=by rfl):
  PS X (.Try [.If c [.Assign [.Name y py] (.Call (.Attribute o1 m1 Ru) (a1::Jz) [] Mq) pa] [.Assign [.Name y Uk] (.Call (.Attribute o2 m2 Rv) (a2::JA) [] Mr) vL] Va] [.ExceptHandler (some (.Name x px)) (some n) [.Assign [.Name z pz] (.Name n pn) pb] ph] [] [] pos)
   (λD σ H=>tc σ H λb H0=>if b=true then oQ X m1 (Pr D σ jn iz (Below X.K DD)) Uj t1 σ H0 λv H2=>D.nx (σ.set iy (some v)) H2 else oQ X m2 (Pr D σ jn iz (Below X.K DD)) to2 t2 σ H0 λv H2=>D.nx (σ.set iy (some v)) H2):=by
 intro pins s σ H D I h
 have ok:=I.ok
 let E1:Value->Shared->Prop:=λe s'=>∃H1 s1,Inv X pins σ H1 s1/\nZ X.prog X.w X.stack H1 s1 (Pr D σ jn iz (Below X.K DD)) e s'
 have zh:wpAny (model X.prog X.w) X.A (execs [.If c [.Assign [.Name y py] (.Call (.Attribute o1 m1 Ru) (a1::Jz) [] Mq) pa] [.Assign [.Name y Uk] (.Call (.Attribute o2 m2 Rv) (a2::JA) [] Mr) vL] Va] X.env) (λfl s'=>fl=.next/\∃σ' H',Inv X pins σ' H' s'/\D.nx σ' H') E1 s:=by
  refine wpAny_execs_cons (wpAny_mono (Q:=λfl s'=>fl=.next/\∃σ' H',Inv X pins σ' H' s'/\D.nx σ' H') ?_ (λfl s' hq=>?_) λ_ _ z=>z)
  ·refine wpAny_If (dH (hc E1 pins s σ H _ (I.fG E1) h) λd s0 cw=>?_)
   obtain⟨H0,I0,q0⟩:=cw
   have J0:Inv X pins σ H0 s0:=I0.gn
   cases d with
   |true=>
    rw[if_pos rfl]at q0
    refine wpAny_execs_cons (wpAny_Assign_Name (dH (D3 (E1:=E1) J0 (WG E1) (Pj E1) (λH1 s1 ev s' J hq=>⟨H1,s1,J,hq⟩) q0 WN Ul WO) λv s1 cw=>?_) hs)
    obtain⟨u,H1,I1,r1,q1⟩:=cw
    refine jv I1 hN FP (.inl Sn) r1 (λs2 I2=>?_) (.inr Sn)
    exact wpAny_execs_nil ⟨rfl,_,H1,I2,q1⟩
   |false=>
    rw[if_neg sw]at q0
    refine wpAny_execs_cons (wpAny_Assign_Name (dH (D3 (E1:=E1) J0 (C7 E1) (WH E1) (λH1 s1 ev s' J hq=>⟨H1,s1,J,hq⟩) q0 Q7 Um Rw) λv s1 cw=>?_) T7)
    obtain⟨u,H1,I1,r1,q1⟩:=cw
    refine jv I1 hN FP (.inl Sn) r1 (λs2 I2=>?_) (.inr Sn)
    exact wpAny_execs_nil ⟨rfl,_,H1,I2,q1⟩
  ·obtain⟨rfl,q⟩:=hq
   exact wpAny_execs_nil ⟨rfl,q⟩
 refine wpAny_Try_except (wpAny_mono zh (λfl s' hq=>?_) λev s' hq=>?_)
 ·obtain⟨rfl,σ',H',I',q⟩:=hq
  exact wpAny_execs_nil ⟨σ',H',I',q⟩
 ·obtain⟨H1,s1,I1,e,C,t,H',B,rfl,G,C',hC,Pw,WQ⟩:=hq
  cases hC
  have E3:=G.E3
  rw[my]at E3
  have Ug:X.A.frames=some (X.env::X.outer):=by rw[<-my];exact ok.frames
  refine wpAny_looks_onW (outer:=X.outer) Ug uz E3 λh4 held up4=>?_
  refine wpAny_landsW held λh5 Ou Vc=>?_
  have c5:=HB I1 G (h3:=h5) Ou.1 (up4.trans Vc) Ou.there s'.toks
  have I5:Inv X pins σ (upd H' e (xo C e)) {s' with heap:=h5}:=c5.2
  refine wpAny_handleBy_cons (codeAny_handlers_test ?_) (by intro q;cases q)
  refine nP (X:=Cx.mk' X e) (Inv.U7 I5 e) WJ hD ?_ WK
  refine Ab (K:=X.K) I5.k8 (Mj (I5.dE e _ aW)) Pw.h1 Pw.h2 Pw.h3 Pw.h4 ?_
  refine codeAny_handlers_suite_as ?_
  refine lands_againW Ou λh6 Rx WR=>?_
  have c6:=HB I1 G (h3:=h6) Rx.1 ((up4.trans Vc).trans WR) Rx.there s'.toks
  have I6:Inv X pins σ (upd H' e (xo C e)) {s' with heap:=h6}:=c6.2
  refine jv (X:=Cx.mk' X e) (Inv.U7 I6 e) hN Pq (.inl So) (v:=.ref e) rfl (λs7 I7=>?_) (.inr So)
  have WS:jn<σ.length:=by rw[I.len];exact(wS.mp Pq).1
  have dG:=cF (qR (X:=Cx.mk' X e) (pos:=pb) (pos':=pz) hN WI (.inl Vb) (kf (pos:=pn) Pq (.inl So) WL WM) ze (.inr Vb)) pins s7 (σ.set jn (some (.ref e))) (upd H' e (xo C e))
   {nx:=λσ' H2=>σ'=(σ.set jn (some (.ref e))).set iz (some (.ref e))/\H2=upd H' e (xo C e),rt:=λ_ _=>False} I7 ⟨.ref e,by rw[YC WS],rfl,rfl⟩
  refine wpAny_mono dG (λfl s8 q8=>?_) λ_ _ z=>z.elim
  cases fl with
  |next=>
   obtain⟨σ8,H8,I8,rfl,rfl⟩:=q8
   refine Ol (Inv.Rj ok I8) hN Pq So λs9 I9=>?_
   exact⟨_,_,I9,WQ e c6.1⟩
  |ret u=>obtain⟨_,_,_,_,_,z⟩:=q8;exact z.elim
  |brk=>obtain⟨_,_,_,z⟩:=q8;exact z.elim
  |cont=>obtain⟨_,_,_,z⟩:=q8;exact z.elim
end
def sr(ns:List Str)(p:PV):Option PV:=match cU p with
 |some k=>(ns[k]?).map λx=>.tup [.non,.lst [.str x]]
 |none=>some (.tup [p,.lst []])
def B0(Tl Td:Nat->List PV->Option PV)(ns:List Str):List PV->Option PV
 |[.ins c l,.int w,ro,g]=>(if decide (w=0)=true then Tl c [.ins c l,ro,g]else Td c [.ins c l,ro]).bind (sr ns)
 |_=>none
def A2(A:Addr->Prop)(p:PV)(u:V):Addr->Prop:=λb=>A b\/(vP p=true/\u=.ref b)
def Px(K:PySem.W.Frag)(κ:Kl)(F:List PV->Option PV):Sp:=λvs H Q _=>∃(A:Addr->Prop) (ps:List PV) (p q:PV),(∀b,A b->H b≠none)/\aV K κ (hide A H) vs ps/\F ps=some (.tup [p,q])/\
 ∀t u w H',aE H H'->H t=none->H' t=some (.tup [u,w])->RM K κ A H H' u p->Rep K κ (hide (A2 A p u) H') w q->Q (.ref t) H'
section
variable{X:Cx}{κ:Kl}{cls:Nat->Addr}{DD:Addr}{ns:List Str}{N:List Str}{vs:List V}{H:Hp}{Q:VK}{E:XK}{k1 k2:Nat}{Vd Ve:List Str}{Tl Td:Nat->List PV->Option PV}
theorem HR(hN:N.length=7)(hB:∀k x,ns[k]?=some x->Below X.K DD (cls k))(Ml:jD X.prog X.w X.K X.mg X.base κ cls "lets" k1 Vd Tl)(Md:jD X.prog X.w X.K X.mg X.base κ cls "ladder" k2 Ve Td)(WT:cg k1 X.A)(WU:cg k2 X.A)
  (h:Px X.K κ (B0 Tl Td ns) vs H Q E):
  vH (JK (tC .non) (C0 4)) (vH (JK (tC .non) (C0 5)) (vH (λD σ H=>(NX X.K κ (tV (ag pW (dV 1) (dC (.int 0))))) σ H λb H0=>if b=true then oQ X "lets" (Pr D σ 6 4 (Below X.K DD)) (fB 0) (cG (fB 2) (cG (fB 3) iZ)) σ H0 λv H2=>D.nx (σ.set 5 (some v)) H2 else oQ X "ladder" (Pr D σ 6 4 (Below X.K DD)) (fB 0) (cG (fB 2) iZ) σ H0 λv H2=>D.nx (σ.set 5 (some v)) H2)
   (vH (Ba (tB (CZ (fB 4))) (A9 (Bn (cG (tC .non) (cG (uf (Ro cls ns) [] E0 (cG (fB 4) iZ)) iZ)))) ua) (A9 (Bn (cG (fB 5) (cG (JS iZ) iZ))))))) {nx:=λ_ H'=>Q .non H',rt:=Q} (start N vs) H:=by
 obtain⟨A,ps,p,q,al,hv,hF,hq⟩:=h
 unfold B0 at hF
 split at hF
 rotate_left
 ·cases hF
 rename_i c l w ro g
 obtain⟨p0,e0,e1⟩:=zn.mp hF
 cases hv with
 |cons h0 hv=>
 cases hv with
 |cons h1 hv=>
 cases hv with
 |cons h2 hv=>
 cases hv with
 |cons h3 hv=>
 cases hv
 rename_i v0 v1 v2 v3
 have es:start N [v0,v1,v2,v3]=[some v0,some v1,some v2,some v3,none,none,none]:=by
  show[some v0,some v1,some v2,some v3]++List.replicate (N.length-4) none=_
  rw[hN]
  rfl
 have r0:=R.entry (N:=N) al (aV.cons h0 (.cons h1 (.cons h2 (.cons h3 .nil))))
 rw[es]at r0⊢
 have r1:R X.K κ H A (λ_=>none) _ _ [some v0,some v1,some v2,some v3,some .non,some .non,none] H:=(r0.set (i:=4) (v:=.non) (p:=.non) .non).set (i:=5) (v:=.non) (p:=.non) .non
 refine⟨_,_,_,_,_,_,r1,(by
  rw[hN]
  exact(rfl:_=some (decide (w=0)))),λH0 s0=>?_⟩
 have HS:∀{H1:Hp} {a:Addr},aE H H1->H1 a=none->¬A a:=λs h z=>al _ z (s.free h)
 have fin:∀v H2,aE H H2->cU p0=none->RM X.K κ A H H2 v p0->
   (vH (Ba (tB (CZ (fB 4))) (A9 (Bn (cG (tC .non) (cG (uf (Ro cls ns) [] E0 (cG (fB 4) iZ)) iZ)))) ua) (A9 (Bn (cG (fB 5) (cG (JS iZ) iZ))))) {nx:=λ_ H'=>Q .non H',rt:=Q} [some v0,some v1,some v2,some v3,some .non,some v,none] H2:=λv H2 s hn z=>by
  unfold sr at e1
  rw[hn]at e1
  cases e1
  refine⟨.non,rfl,false,rfl,J6 ⟨v,rfl,ZI _,λa ha=>?_⟩⟩
  refine⟨(show(2:Nat)<=sizeLine by decide),λt ht=>?_⟩
  have ta:t≠a:=λz=>by rw[z,aW]at ht;cases ht
  rw[aJ ta]at ht
  have s2:aE H2 (upd (upd H2 a (.lst [])) t (.tup [v,.ref a])):=(bD ha).trans (bD (by rw[aJ ta];exact ht))
  refine hq t v (.ref a) _ (s.trans s2) (s.free ht) aW ?_ ?_
  ·unfold RM at z⊢
   split
   ·rename_i hl
    rw[if_pos hl]at z
    obtain⟨b,us,l',z1,z2,z3,z4,z5⟩:=z
    exact⟨b,us,l',z1,z2,z3,s2 _ _ z4,z5.mono (aZ s2)⟩
   ·rename_i hl
    rw[if_neg hl]at z
    exact z.mono (aZ s2)
  ·refine .lst (SL.of ?_) .nil
   rw[c7,aJ (Ne.symm ta),aW]
   rintro(z1|⟨z1,z2⟩)
   ·exact HS s ha z1
   ·unfold RM at z
    rw[if_pos z1]at z
    obtain⟨b,us,l',y1,y2,y3,y4,y5⟩:=z
    rw[y1]at z2
    cases z2
    rw[y4]at ha
    cases ha
 have Ry:∀k H2,aE H H2->cU p0=some k->Pr {nx:=λσ H=>(vH (Ba (tB (CZ (fB 4))) (A9 (Bn (cG (tC .non) (cG (uf (Ro cls ns) [] E0 (cG (fB 4) iZ)) iZ)))) ua) (A9 (Bn (cG (fB 5) (cG (JS iZ) iZ))))) {nx:=λ_ H'=>Q .non H',rt:=Q} σ H,rt:=Q} [some v0,some v1,some v2,some v3,some .non,some .non,none] 6 4 (Below X.K DD) (.ref (cls k)) none H2:=λk H2 s hk=>by
  unfold sr at e1
  rw[hk]at e1
  obtain⟨nm,e2,e3⟩:=xz.mp e1
  cases e3
  refine⟨cls k,rfl,hB k nm e2,λa ha=>?_⟩
  refine⟨.ref a,rfl,true,rfl,Np ⟨.ref a,rfl,?_⟩⟩
  refine⟨a,k,nm,rfl,aW,e2,λb hb=>?_⟩
  have ba:b≠a:=λz=>by rw[z,aW]at hb;cases hb
  rw[aJ ba]at hb
  refine⟨(show(2:Nat)<=sizeLine by decide),λt ht=>?_⟩
  have tb:t≠b:=λz=>by rw[z,aW]at ht;cases ht
  rw[aJ tb]at ht
  have ta:t≠a:=λz=>by rw[z,aW]at ht;cases ht
  rw[aJ ta]at ht
  have s2:aE H2 (upd (upd (upd H2 a (xo (cls k) a)) b (.lst [.str nm])) t (.tup [.non,.ref b])):=(bD ha).trans ((bD (by rw[aJ ba];exact hb)).trans (bD (by rw[aJ tb,aJ ta];exact ht)))
  refine hq t .non (.ref b) _ (s.trans s2) (s.free ht) aW (.of rfl .non) ?_
  refine .lst (SL.of ?_) (.cons (.str nm) .nil)
  rw[c7,aJ (Ne.symm tb),aW]
  rintro(z1|⟨z1,_⟩)
  ·exact HS s hb z1
  ·cases z1
 have rr:=r1.mono s0
 obtain⟨XM,g0,y0⟩:=rr.sh 0 _ (by rw[hN];rfl)
 cases g0
 obtain⟨XN,g2,y2⟩:=rr.sh 2 _ (by rw[hN];rfl)
 cases g2
 obtain⟨XO,g3,y3⟩:=rr.sh 3 _ (by rw[hN];rfl)
 cases g3
 have hs:aE (hide A H) (hide A H0):=aZ s0
 have Vf:=h0.mono hs
 cases hw:decide (w=0)with
 |true=>
  rw[hw,if_pos rfl]at e0
  refine Np ?_
  obtain⟨f,fd,m1,m2,m3,m4,m5⟩:=Ml c _ _ e0
  cases Vf with
  |ins i1 i2 i3=>
   refine⟨_,rfl,_,_,_,_,f,fd,Vd,_,k1,rfl,ay _ _ i1,m1,m2,lq m3,m4,WT,m5,_,rfl,_,rfl,?_⟩
   refine⟨A,_,p0,λb hb z=>al b hb (s0.free z),.cons (.ins i1 i2 i3) (.cons (h2.mono hs) (.cons (h3.mono hs) .nil)),e0,?_⟩
   cases hp:cU p0 with
   |some k=>exact λH' s=>Ry k H' (s0.trans s) hp
   |none=>exact λv H' s z=>fin v H' (s0.trans s) hp (z.big s0)
 |false=>
  rw[hw,if_neg sw]at e0
  refine J6 ?_
  obtain⟨f,fd,m1,m2,m3,m4,m5⟩:=Md c _ _ e0
  cases Vf with
  |ins i1 i2 i3=>
   refine⟨_,rfl,_,_,_,_,f,fd,Ve,_,k2,rfl,ay _ _ i1,m1,m2,lq m3,m4,WU,m5,_,rfl,?_⟩
   refine⟨A,_,p0,λb hb z=>al b hb (s0.free z),.cons (.ins i1 i2 i3) (.cons (h2.mono hs) .nil),e0,?_⟩
   cases hp:cU p0 with
   |some k=>exact λH' s=>Ry k H' (s0.trans s) hp
   |none=>exact λv H' s z=>fin v H' (s0.trans s) hp (z.big s0)
end
def Rz(i:Nat)(ρ:cA):PV->cA
 |.lst l=>ρ.set i (.ow l)
 |p=>ρ.set i (.sh p)
def u9(i j:Nat)(F:List PV->Option PV)(fs:cI):aR:=λρ=>(aN F fs ρ).bind λz=>match z with
 |.tup [p,q]=>some (.nx ((Rz i ρ p).set j (.sh q)))
 |_=>none
section
variable{X:Cx}{κ:Kl}{fr:Bool}{x:Str}{p pos tp sp:Pos}{e:Expr}{es:List Expr}{fs:cI}{k:Nat}{ad:Addr}{fd:FuncData}{ps:List Str}{F:List PV->Option PV}
theorem HU(FO:aL X.prog X.w X.K X.mg X.base cP k ad fd ps (Px X.K κ F))(hr:cg k X.A)(hm:X.mg x=some (.ref ad))(hk:PySem.W.keepIn X.K (.ref ad)=true)(hb:Binds X.K fd ps [])(ha:DA X κ (e::es) fs)(hp:∀ps z,F ps=some z->∃p q,z=.tup [p,q])(hg:Gl X x:=by rfl)(oj:(x==("__debug__" :Str))=false:=by decide)
  (he:starEach (e::es) X.env=(false,eval e X.env)::starEach es X.env:=by rfl)(hpl:(backTo pos (starEach es X.env)).any (·.1)=false:=by rfl):DE X κ (.Call (.Name x p) (e::es) [] pos) (aN F fs):=by
 obtain⟨ta,h1,h2⟩:=ha
 refine⟨_,jh FO hr hg hm hk hb .nil jW h1 oj he hpl,λ{G A bo own ρ σ H z Q} r e0 q=>?_⟩
 obtain⟨xs,e1,e2⟩:=zn.mp e0
 obtain⟨p1,q1,rfl⟩:=hp _ _ e2
 refine h2 r e1 λvs H1 s1 z1=>?_
 rw[ZL]
 have r1:=r.mono s1
 refine⟨dG A own ρ,xs,p1,q1,λb hb=>r1.xV hb,z1,e2,λt u w H' s ht Rw zu zw=>q _ H' (s1.trans s) ?_⟩
 refine .tup (.inl (.inl ?_)) (.cons (zu.rep λb hb=>r1.xV hb) (.cons (zw.mono (cV (λ_ _ z=>z) λb z _=>.inl z)) .nil))
 rw[d7,c7 λz=>r1.new ht z]
 exact Rw
theorem D4(i j:Nat){a b:Str}{pa pb:Pos}{n1:Nat}(FO:aL X.prog X.w X.K X.mg X.base cP k ad fd ps (Px X.K κ F))(hr:cg k X.A)(hm:X.mg x=some (.ref ad))(hk:PySem.W.keepIn X.K (.ref ad)=true)(hb:Binds X.K fd ps [])(ha:DA X κ (e::es) fs)(hp:∀ps z,F ps=some z->∃p q,z=.tup [p,q])(hN:X.N.Nodup)(WV:X.N[i]?=some a:=by rfl)(WW:X.N[j]?=some b:=by rfl)(GB:i≠j:=by decide)
  (SA:Loc X.env.scope a:=by first|exact Or.inl rfl|exact Or.inr rfl)(SD:Loc X.env.scope b:=by first|exact Or.inl rfl|exact Or.inr rfl)
  (Uo:X.fn a=true\/X.env.scope.names.lookup a=some .local:=by first|exact .inl rfl|exact .inr rfl)(WX:X.fn b=true\/X.env.scope.names.lookup b=some .local:=by first|exact .inl rfl|exact .inr rfl)
  (hg:Gl X x:=by rfl)(oj:(x==("__debug__" :Str))=false:=by decide)(he:starEach (e::es) X.env=(false,eval e X.env)::starEach es X.env:=by rfl)(hpl:(backTo pos (starEach es X.env)).any (·.1)=false:=by rfl)
  (hc:X.calm=true:=by rfl)(hs:(assignEach [.Name a pa,.Name b pb] X.env).map (·.2)=assign (.Name a pa) X.env::(assignEach [.Name b pb] X.env).map (·.2):=by rfl)(ze:(assignEach [.Name b pb] X.env).map (·.2)=assign (.Name b pb) X.env::(assignEach [] X.env).map (·.2):=by rfl)
  (hn:(assignEach [.Name a pa,.Name b pb] X.env).length=2:=by rfl)(my:(assignEach [.Name a pa,.Name b pb] X.env).findIdx? (·.1)=none:=by rfl)
  (GJ:swapsWithSole [.Tuple [.Name a pa,.Name b pb] n1 tp] (.Call (.Name x p) (e::es) [] pos) sp.line X.env=pure false:=by rfl)(hw:swappedStores [.Tuple [.Name a pa,.Name b pb] n1 tp] (.Call (.Name x p) (e::es) [] pos) X.env=pure none:=by rfl)
  (NG:(assignEach [.Tuple [.Name a pa,.Name b pb] n1 tp] X.env).map (·.2)=[assign (.Tuple [.Name a pa,.Name b pb] n1 tp) X.env]:=by rfl):
  DS X κ fr (.Assign [.Tuple [.Name a pa,.Name b pb] n1 tp] (.Call (.Name x p) (e::es) [] pos) sp) (u9 i j F fs):=by
 obtain⟨ta,h1,h2⟩:=ha
 refine⟨_,F6 (jh FO hr hg hm hk hb .nil jW h1 oj he hpl) (F5 hc (uc (xr hN WV SA Uo) (uc (xr hN WW SD WX) C1 ze) hs) hn my) GJ hw NG,λ{G A bo own ρ σ H fl D} r e0 kk=>?_⟩
 obtain⟨z,e1,e2⟩:=zn.mp e0
 obtain⟨xs,e3,e4⟩:=zn.mp e1
 obtain⟨p1,q1,rfl⟩:=hp _ _ e4
 cases e2
 refine h2 r e3 λvs H1 s1 z1=>?_
 rw[ZL]
 have r1:=r.mono s1
 refine⟨dG A own ρ,xs,p1,q1,λb hb=>r1.xV hb,z1,e4,λt u w H' s ht Rw zu zw=>?_⟩
 refine⟨t,[u,w],rfl,.inl (.inl Rw),rfl,u,[w],rfl,w,[],rfl,rfl,?_⟩
 have r2:=r1.mono s
 by_cases hl:vP p1=true
 ·obtain⟨l,rfl⟩:∃l,p1=.lst l:=by cases p1<;>first|exact⟨_,rfl⟩|cases hl
  unfold RM at zu
  rw[if_pos hl]at zu
  obtain⟨c,us,l',y1,y2,y3,y4,y5⟩:=zu
  cases y2
  subst y1
  have r3:=r1.NR (i:=i) (a:=c) (vs:=us) (l:=.l l) (H1:=H') (r1.same.free y3) (λq=>r1.new y3 (.inl q)) (λj m e _ q=>r1.new y3 (.inr ⟨j,m,e,q⟩)) (λb o hb=>by
   obtain⟨nb,hb⟩:=kK hb
   rw[c7 (λz=>z.elim nb λz=>by rw[z,y3]at hb;cases hb)]
   exact s b o hb) (λb o q _=>s b o q) y4 y5
  refine kk _ _ _ (r3.set (i:=j) (v:=w) (p:=q1) (zw.mono (cV (λ_ _ z=>z) λb z _=>?_)))
  rcases z with z|⟨n,m,z1,z2⟩
  ·exact .inl (.inl z)
  ·by_cases Mh:n=i
   ·subst Mh
    have z2:(if n=n then c else own n)=b:=z2
    rw[if_pos rfl]at z2
    exact .inr ⟨rfl,by rw[z2]⟩
   ·have z2:(if n=i then c else own n)=b:=z2
    rw[if_neg Mh]at z2
    rw[Z1 (Ne.symm Mh)]at z1
    exact .inl (.inr ⟨n,m,z1,z2⟩)
 ·have O7:vP p1=false:=by simpa using hl
  unfold RM at zu
  rw[if_neg hl]at zu
  have es:Rz i ρ p1=ρ.set i (.sh p1):=by cases p1<;>first|rfl|cases O7
  rw[es]at kk
  have r3:=r2.set (i:=i) zu
  refine kk _ _ _ (r3.set (i:=j) (v:=w) (p:=q1) (zw.mono (cV (λ_ _ z=>z) λb z _=>?_)))
  rcases z with z|⟨n,m,z1,z2⟩
  ·exact .inl (.inl z)
  ·by_cases Mh:n=i
   ·subst Mh
    rw[v6]at z1
    split at z1
    ·split at z1<;>cases z1
    ·rename_i hh;exact absurd rfl hh
   ·rw[Z1 (Ne.symm Mh)]at z1
    exact .inl (.inr ⟨n,m,z1,z2⟩)
end
theorem va{Tl Td:Nat->List PV->Option PV}{ns:List Str}:∀ps z,B0 Tl Td ns ps=some z->∃p q,z=.tup [p,q]:=λps z h=>by
 unfold B0 at h
 split at h
 ·obtain⟨p0,e0,e1⟩:=zn.mp h
  unfold sr at e1
  split at e1
  ·obtain⟨x,_,rfl⟩:=xz.mp e1
   exact⟨_,_,rfl⟩
  ·cases e1
   exact⟨_,_,rfl⟩
 ·cases h
end L2.D
namespace L2.D
open PySem
theorem KY{Tl Td:Nat->List PV->Option PV}{ns:List Str}{ps:List PV}{z:PV}(h:B0 Tl Td ns ps=some z):ps.length=4:=by
 unfold B0 at h
 split at h
 ·rfl
 ·cases h
end L2.D
namespace HT
open PySem PySem.Spec PyProof.Rows
section
variable{prog:Program}{w:World}{A:Around}{E:Value->Shared->Prop}{s:Shared}
theorem HV{t b:Addr}{ws:List Value}{Q:Value->Shared->Prop}(ht:IsTup s.heap t ([]:List Value).toArray)(hb:IsTup s.heap b ws.toArray)(h1:Q (.ref b) s):wpAny (model prog w) A (binaryOp .Add (.ref t) (.ref b)) Q E s:=by
 obtain⟨⟨cls,dd,data,sl⟩,ho,hc,n,hd⟩:=id ht
 obtain⟨⟨Qj,Gn,data2,Ey⟩,C7,Jq,n2,hd2⟩:=id hb
 simp only at hc hd Jq hd2
 subst hc hd Jq hd2
 exact concat_meets ⟨_,ho,rfl⟩ ⟨_,C7,rfl⟩ noFill_tuple_add seq_tuple_add Yb YW (YU _ _)
  (tuple_addW0 t b ([]:List Value).toArray ws.toArray n n2 dd Gn sl Ey (by simp)) ⟨ho,C7,h1⟩
theorem ri{sl:Addr}{u:Tok}{n:Nat}{Q:Int×Int×Nat->Shared->Prop}(hs:s.heap.IsSliceOf sl .none .none (.int (-1) u))
  (h:Q ((n:Int)-1,-1,n) s):wpAny (model prog w) A (Builtin.Slice.sliceApplied (.ref sl) (pure (n:Int))) Q E s:=by
 obtain⟨os,Gp,sT,JW⟩:=id hs
 unfold Builtin.Slice.sliceApplied Builtin.Slice.sliceFields
 refine wpAny_bind (wpAny_bind (wpAny_field Gp JW (x:=.none) rfl (wpAny_bind (wpAny_field Gp JW (x:=.none) rfl (wpAny_bind (wpAny_field Gp JW (x:=.int (-1) u) rfl (wpAny_pure ?_)))))))
 refine wpAny_bind (slicePart_int ?_)
 show wpAny _ _ (if(((-1:Int))==0)=true then _ else _) _ _ s
 rw[if_neg (by decide)]
 refine wpAny_bind (slicePart_none (wpAny_bind (slicePart_none (wpAny_bind (wpAny_pure ?_)))))
 have e:Builtin.Slice.slicePlaces ((n:Int)-1) (-1) (-1)=n:=by
  unfold Builtin.Slice.slicePlaces
  rw[if_neg (by decide)]
  by_cases h0:(n:Int)-1>-1
  ·rw[if_pos h0]
   have:(- -1:Int)=1:=by decide
   rw[this,Int.ediv_one]
   omega
  ·rw[if_neg h0]
   omega
 show wpAny _ _ (pure ((n:Int)-1,(-1:Int),Builtin.Slice.slicePlaces ((n:Int)-1) (-1) (-1))) _ _ s
 rw[e]
 exact wpAny_pure h
theorem E7(xs:Array Value):((List.range xs.size).filterMap λ(m:Nat)=>xs[((xs.size:Int)-1+(m:Int)*(-1)).toNat]?).toArray=xs.toList.reverse.toArray:=by
 have e:((List.range xs.size).filterMap λ(m:Nat)=>xs[((xs.size:Int)-1+(m:Int)*(-1)).toNat]?)=((List.range xs.size).reverse).filterMap (xs[·]?):=by
  have e2:((List.range xs.size).map λ(k:Nat)=>((xs.size:Int)-1+(k:Int)*(-1)).toNat)=(List.range xs.size).reverse:=by
   have:=List.reverse_range' (s:=0) (n:=xs.size)
   rw[List.range_eq_range']at*
   rw[this]
   refine Ys λk _=>?_
   omega
  rw[<-e2,List.filterMap_map]
  rfl
 rw[e,List.filterMap_reverse]
 have:=pick_run xs 0 xs.size
 simp only[Z4,List.map_id',Z2]at this
 rw[this,ZX (by simp)]
theorem qj{t sl:Addr}{items:Array Value}{u:Tok}{Q:Value->Shared->Prop}(ht:IsTup s.heap t items)(hs:s.heap.IsSliceOf sl .none .none (.int (-1) u))
  (h:Q (.ref s.heap.objs.size) {s with heap:=s.heap.push {cls:=.type "tuple",data:=.seq items.toList.reverse.toArray}})
  (oh:items.size<=sizeLine):wpAny (model prog w) A (getItem (.ref t) (.ref sl)) Q E s:=by
 have pN:sizeOk (.seq items.toList.reverse.toArray):=by
  show items.toList.reverse.toArray.size<=sizeLine
  rw[wP,Yt,v4]
  omega
 obtain⟨os,Gp,sT,JW⟩:=id hs
 have S4:s.TypeIs (.ref sl) "slice" :=⟨os,Gp,sT⟩
 unfold getItem
 try with_reducible refine wpAny_holding ?_
 first|refine wpAny_bind (wpAny_pure ?_)|skip
 refine wpAny_bind (wpAny_sequenceKey ht.typeIs (by decide) ?_)
 refine wpAny_bind (wpAny_callSpecial?_slot (name:=Str.ofString "__getitem__") ht.typeIs PyProof.Rows.slot_tuple_getitem
  (wpAny_call_entry PyProof.Rows.slot_tuple_getitem ht.typeIs entry_tuple_getitem ?_ (args_tuple_getitem _ _)))
 show wpAny _ _ (Builtin.Tuple.tupleItemsOf (.ref t)>>=_) _ _ s
 refine wpAny_bind (tupleItemsOf_ ht ?_)
 refine wpAny_bind (wpAny_typeOf S4 ?_)
 rw[if_pos (by decide)]
 refine wpAny_bind (ri (n:=items.size) hs ?_)
 have S5:¬((((items.size:Int)-1)==0&&(-1:Int)==1&&items.size==items.size)=true):=by
  intro q
  rw[re,re]at q
  exact absurd q.1.2 (by decide)
 show wpAny _ _ (if(((items.size:Int)-1)==0&&(-1:Int)==1&&items.size==items.size)=true then _ else _) _ _ s
 rw[if_neg S5,E7]
 first
  |exact wpAny_bind (m:=Builtin.Tuple.tupleExact _) (wpAny_newObj_type (wpAny_pure ⟨_,rfl,wpAny_pure h⟩) pN)
  |exact wpAny_bind (m:=Builtin.Tuple.tupleExact _) (wpAny_newObj_type (wpAny_bind (wpAny_pure (wpAny_pure ⟨_,rfl,wpAny_pure h⟩))) pN)
  |exact wpAny_bind (wpAny_bind (m:=Builtin.Tuple.tupleExact _) (wpAny_newObj_type (wpAny_pure (wpAny_pure ⟨_,rfl,wpAny_pure h⟩)) pN))
  |exact wpAny_bind (wpAny_bind (m:=Builtin.Tuple.tupleExact _) (wpAny_newObj_type (wpAny_pure ⟨_,rfl,wpAny_pure h⟩) pN))
end
end HT
namespace L2.D
open PySem PySem.Spec PyProof.Rows PySem.SeqAt
def HW(a:Den)(lo hi:sY):Den:=λρ=>(a ρ).bind λx=>(lo ρ).bind λl=>(hi ρ).bind λh=>match x with
 |.tup xs=>if mr xs.length 0 l=0/\mr xs.length xs.length h=xs.length then none else some (.tup (jU xs l h))
 |_=>none
def Ms:PV->PV->Option PV
 |.tup l,.tup m=>if l.length+m.length<=sizeLine then some (.tup (l++m))else none
 |_,_=>none
def HY:PV->Option PV
 |.tup l=>some (.tup l.reverse)
 |_=>none
def HZ:PV->PV->Option PV
 |.tup l,.tup m=>(l8 l).bind λts=>(l8 m).map λus=>.bl (decide (ts=us))
 |_,_=>none
section
variable{X:Cx}{κ:Kl}{pos p2:Pos}{a b c e:Expr}{fa fb:Den}{lo hi:Option Expr}{fl fh:sY}
theorem yf{K:PySem.W.Frag}{κ:Kl}{G H:Hp}{A:Addr->Prop}{bo:Nat->Option (Addr×List V)}{own:Nat->Addr}{ρ:cA}{σ:St}{n:Addr}{vs:List V}{l:List PV}(r:R K κ G A bo own ρ σ H)(h:H n=none)(q:aV K κ (d7 A own ρ H) vs l):Rep K κ (d7 A own ρ (upd H n (.tup vs))) (.ref n) (.tup l):=by
 refine .tup (.inl (.inl ?_)) (q.mono (aZ (bD h)))
 rw[d7,c7 (r.new h)]
 exact aW
theorem w6(ha:DE X κ a fa)(hl:DP X κ lo fl)(hh:DP X κ hi fh):DE X κ (.Subscript a (.Slice lo hi none p2) pos) (HW fa fl fh):=by
 obtain⟨ta,h1,h2⟩:=ha
 obtain⟨tl,h3,h4⟩:=hl
 obtain⟨th,h5,h6⟩:=hh
 refine⟨_,uj Nd h1 h3 h5,λ{G A bo own ρ σ H p Q} r e q=>?_⟩
 obtain⟨p1,e1,e2⟩:=zn.mp e
 obtain⟨o1,e3,e4⟩:=zn.mp e2
 obtain⟨o2,e5,e6⟩:=zn.mp e4
 refine h2 r e1 λx H1 s1 b1=>h4 (r.mono s1) e3 λH2 s2=>h6 ((r.mono s1).mono s2) e5 λH3 s3=>?_
 cases p1<;>first|(cases e6;done)|skip
 rename_i xs
 have Uq:(if mr xs.length 0 o1=0/\mr xs.length xs.length o2=xs.length then none else some (PV.tup (jU xs o1 o2)))=some p:=e6
 split at Uq
 ·cases Uq
 rename_i hw
 cases Uq
 have Hc:=(s1.trans s2).trans s3
 have b3:=b1.mono (aZ (s2.trans s3))
 cases b3 with
 |tup q1 q2=>
  rename_i a vs
  have hlen:=q2.length
  refine⟨a,vs,rfl,l9 ay q1,by rw[hlen];exact hw,λn hn=>q _ _ (Hc.trans (bD hn)) (yf (r.mono Hc) hn (q2.cut o1 o2))⟩
theorem H9:mn X (binaryOp .Add) (λx y H Q=>∃a b xs ys,x=.ref a/\y=.ref b/\kC X.K H a xs/\kC X.K H b ys/\xs.length+ys.length<=sizeLine/\(xs=[]->Q (.ref b) H)/\(xs≠[]->ys=[]->Q (.ref a) H)/\(xs≠[]->ys≠[]->∀p,H p=none->Q (.ref p) (upd H p (.tup (xs++ys))))):=by
 intro pins s σ H x y v u Q I rx ry h
 obtain⟨a,b,xs,ys,rfl,rfl,ha,hb,hz,q0,q1,q2⟩:=h
 by_cases hx:xs=[]
 ·subst hx
  cases rx
  cases ry
  obtain⟨its,r1,p1,_⟩:=I.tuple ha
  obtain⟨mq,r2,p2,_⟩:=I.tuple hb
  cases r1
  exact HT.HV p1 p2 ⟨.ref b,H,I,rfl,q0 rfl⟩
 ·exact J1 pins s σ H _ _ v u Q I rx ry ⟨a,b,xs,ys,rfl,rfl,ha,hb,hx,hz,q1 hx,q2 hx⟩
theorem KZ(ha:DE X κ a fa)(hb:DE X κ b fb):DE X κ (.BinOp a .Add b pos) (ag Ms fa fb):=by
 obtain⟨ta,h1,h2⟩:=ha
 obtain⟨tb,h3,h4⟩:=hb
 refine⟨_,C3 H9 h1 h3,λ{G A bo own ρ σ H p Q} r e q=>?_⟩
 obtain⟨p1,e1,e2⟩:=zn.mp e
 obtain⟨p2,e3,e4⟩:=zn.mp e2
 refine h2 r e1 λx H1 s1 b1=>h4 (r.mono s1) e3 λy H2 s2 b2=>?_
 (cases p1<;>first|(cases e4;done)|skip)<;>cases p2<;>first|(cases e4;done)|skip
 rename_i l m
 obtain⟨hz,rfl⟩:=bj (show(if l.length+m.length<=sizeLine then some (PV.tup (l++m))else none)=some p from e4)
 have md:=s1.trans s2
 have WY:=b1.mono (aZ s2)
 cases WY with
 |tup q1 q2=>
  rename_i a1 vs
  cases b2 with
  |tup q3 q4=>
   rename_i a2 ws
   have l1:=q2.length
   have l2:=q4.length
   refine⟨a1,a2,vs,ws,rfl,rfl,l9 ay q1,l9 ay q3,by rw[l1,l2];exact hz,λhv=>?_,λhv hw=>?_,λhv hw n hn=>?_⟩
   ·subst hv
    cases q2
    exact q _ H2 md (.tup q3 q4)
   ·subst hw
    cases q4
    have q':=q (.ref a1) H2 md
    rw[ZL]at q'
    exact q' (.tup q1 q2)
   ·exact q _ _ (md.trans (bD hn)) (yf (r.mono md) hn (q2.append q4))
theorem K5{te tc:TE}(he:PE X e te)(hc:PE X c tc):PE X (.Subscript e (.Slice none none (some c) p2) pos) (λσ H Q=>te σ H λx H1=>tc σ H1 λz H2=>∃a xs,x=.ref a/\z=.int (-1)/\kC X.K H2 a xs/\∀n,H2 n=none->Q (.ref n) (upd H2 n (.tup xs.reverse))):=by
 intro pins s σ H Q I h
 refine Subscript_ (dH (he pins s σ H _ I h) λv s1 cw=>?_)
 obtain⟨x,H1,I1,r1,q1⟩:=cw
 refine wpAny_Slice ?_
 rw[evalPart_none]
 refine wpAny_pure (wpAny_pure ?_)
 rw[evalPart_some]
 refine dH (hc pins s1 σ H1 _ I1 q1) λu s3 cw=>?_
 obtain⟨z,H3,I3,r3,a,xs,ex,ez,hq,q⟩:=cw
 subst ex ez
 cases r1
 obtain⟨t',rfl⟩:=r3
 have I4:Inv X pins σ H3 {s3 with heap:=s3.heap.push {cls:=.type "slice",data:=.fields #[.none,.none,.int (-1) t']}}:=I3.kept (t':=s3.toks) λb ob q=>wp _ q
 obtain⟨its,rv,pl,hz⟩:=I4.tuple hq
 have hlen:=rv.length
 show wpAny (model X.prog X.w) X.A (subscriptTail e (.Slice none none (some c) p2) (.ref a) (.ref s3.heap.objs.size)) (EP X pins σ Q) X.xe {s3 with heap:=s3.heap.push {cls:=.type "slice",data:=.fields #[.none,.none,.int (-1) t']}}
 refine tail_any (ops:=[.ref a,.ref s3.heap.objs.size]) (T:= "tuple") (show IsTup _ a its.toArray from pl).typeIs PyProof.Rows.slot_tuple_getitem.lookup ?_ (by with_unfolding_all rfl)
 refine HT.qj pl (Heap.IsSliceOf.new ..) ?_ (by rw[wP]<;>omega)
 refine⟨.ref _,_,I4.laid (t':=s3.toks) (o:=.tup xs.reverse) (λb ob q=>wp _ q) (wr _) ?_,rfl,q _ (I4.dE.fresh (wr _))⟩
 exact⟨⟨by rw[Yt];exact hz,JF.new⟩,its.reverse,rv.reverse,IsTup.new _ _⟩
theorem K7(ha:DE X κ a fa)(hc:DB X κ c (bW lj (dC (.int 1)))):DE X κ (.Subscript a (.Slice none none (some c) p2) pos) (bW HY fa):=by
 obtain⟨ta,h1,h2⟩:=ha
 obtain⟨tc,h3,h4⟩:=hc
 refine⟨_,K5 h1 h3,λ{G A bo own ρ σ H p Q} r e q=>?_⟩
 obtain⟨p1,e1,e2⟩:=zn.mp e
 refine h2 r e1 λx H1 s1 b1=>h4 (r.mono s1) (p:=.int (-1)) rfl λz H2 s2 b2=>?_
 cases p1<;>first|(cases e2;done)|skip
 cases e2
 have md:=s1.trans s2
 have b3:=b1.mono (aZ s2)
 cases b3 with
 |tup q1 q2=>exact⟨_,_,rfl,b2.int,l9 ay q1,λn hn=>q _ _ (md.trans (bD hn)) (yf (r.mono md) hn q2.rev)⟩
theorem B7:∀(ts us:List Str),ts.length=us.length->(∀e:Nat->Bool,(∀j (h1:j<ts.length) (h2:j<us.length),e j=decide (ts[j]=us[j]))->(List.range ts.length).all e=decide (ts=us)):=λts us hl e he=>by
 rw[Ze,ZA]
 simp only[decide_eq_true_eq,ZG]
 constructor
 ·intro h
  refine List.ext_getElem hl λj h1 h2=>?_
  have:=h j h1
  rw[he j h1 h2]at this
  exact of_decide_eq_true this
 ·rintro rfl j h1
  rw[he j h1 h1]
  simp
theorem K8(hu:X.A.units<cLine):mn X (compareOp .Eq) (λx y H Q=>∃(a b:Addr) (ts us:List Str),x=.ref a/\y=.ref b/\kC X.K H a (ts.map V.str)/\kC X.K H b (us.map V.str)/\Q (.bl (decide (ts=us))) H):=by
 intro pins s σ H x y v u Q I rx ry h
 obtain⟨a,b,ts,us,rfl,rfl,ha,hb,q⟩:=h
 cases rx
 cases ry
 obtain⟨its,r1,p1,_⟩:=I.tuple ha
 obtain⟨mq,r2,p2,_⟩:=I.tuple hb
 have g:∀{ts:List Str} {its:List Value},Vals (ts.map V.str) its->its.length=ts.length/\∀j (h:j<its.length) (h':j<ts.length),∃t,its[j]=.str ts[j] t:=λ{ts its} r=>by
  have hl:its.length=ts.length:=by rw[<-r.length,wE]
  refine⟨hl,λj h h'=>?_⟩
  obtain⟨u,e1,t,e2⟩:=r.get (i:=j) (x:=.str ts[j]) (by rw[Zh,wn h'];rfl)
  rw[wn h]at e1
  exact⟨t,(ZO e1).trans e2⟩
 obtain⟨l1,g1⟩:=g r1
 obtain⟨l2,g2⟩:=g r2
 refine eq_tupleAt (items:=its.toArray) (items2:=mq.toArray) (e:=λj=>if h:j<ts.length/\j<us.length then decide (ts[j]=us[j])else false) p1 p2 hu (λj h1 h2=>?_) ⟨.bl (decide (ts=us)),H,I,?_,q⟩
 ·have NG:j<its.length:=by simpa using h1
  have WZ:j<mq.length:=by simpa using h2
  obtain⟨t1,e1⟩:=g1 j NG (by omega)
  obtain⟨t2,e2⟩:=g2 j WZ (by omega)
  rw[List.getElem_toArray,List.getElem_toArray,e1,e2,dif_pos ⟨by omega,by omega⟩]
  exact wQ
 ·show Value.bool _=Value.bool _
  congr 1
  rw[wP,wP,l1,l2]
  by_cases hl:ts.length=us.length
  ·have hm:min ts.length us.length=ts.length:=by omega
   have hb:(ts.length==us.length)=true:=by simpa using hl
   rw[hm,hb,X5]
   exact B7 ts us hl _ λj h1 h2=>dif_pos ⟨h1,h2⟩
  ·have:(ts.length==us.length)=false:=by simpa using hl
   rw[this,Bool.and_false,decide_eq_false (λz=>hl (by rw[z]))]
theorem K9{k:Nat}(hr:cg k X.A)(ha:DB X κ a fa)(hb:DB X κ b fb):DC X κ .Eq a b (ag HZ fa fb):=by
 obtain⟨ta,h1,h2⟩:=ha
 obtain⟨tb,h3,h4⟩:=hb
 refine⟨_,_,_,K8 (by have:=hr.units;omega),h1,h3,λ{G A bo own ρ σ H p Q} r e q=>?_⟩
 refine uL h2 h4 r e λx y p1 p2 H' s r' b1 b2 e'=>?_
 (cases p1<;>first|(cases e';done)|skip)<;>cases p2<;>first|(cases e';done)|skip
 obtain⟨ts,e1,e2⟩:=zn.mp e'
 obtain⟨us,e3,rfl⟩:=xz.mp e2
 obtain⟨a1,vs,rfl,q1,q2⟩:=b1.tup ay
 obtain⟨a2,ws,rfl,q3,q4⟩:=b2.tup ay
 have ev:=uV q2 e1
 have ew:=uV q4 e3
 subst ev ew
 exact⟨a1,a2,ts,us,rfl,rfl,q1,q3,q _ H' s (.bl _)⟩
end
end L2.D
namespace L2.D
open PySem
theorem vb(a b:Nat):Builtin.bitAnd (a:Int) (b:Int)=((a&&&b:Nat):Int):=by
 unfold Builtin.bitAnd
 rw[decide_eq_true (by omega),decide_eq_true (by omega)]
 simp
theorem yg(k:Nat):(1:Int)*2^((k:Int).toNat)=((2^k:Nat):Int):=by
 rw[Zd]
 simp
def Vg(p:Nat->Nat->Bool):Bool:=(List.range 64).all λa=>(List.range 64).all λb=>p a b
theorem Ov{p:Nat->Nat->Bool}(h:Vg p=true){a b:Nat}(ha:a<64)(hb:b<64):p a b=true:=
 ZA.mp (ZA.mp h a (ZG.mpr ha)) b (ZG.mpr hb)
def RA(p:Nat->Bool):Bool:=(List.range 64).all p
theorem La{p:Nat->Bool}(h:RA p=true){a:Nat}(ha:a<64):p a=true:=ZA.mp h a (ZG.mpr ha)
end L2.D
namespace L2.D
theorem Ur{n:Nat}(h:n<=100000):wB (n:Int)=true:=by
 unfold wB
 simp
 omega
theorem Us{k n:Nat}(h:k<n)(hn:n<=1000:=by decide):uE 1 (k:Int)=true:=by
 unfold uE
 simp
 omega
end L2.D
namespace L2.D
open PySem
def Sq(o:Option PV)(l:List Nat):Bool:=match o with
 |some (.lst ps)=>match jf ps with
  |some xs=>xs==l.map (λ(n:Nat)=>(n:Int))
  |none=>false
 |_=>false
theorem w9:∀xs:List Int,jf (xs.map PV.int)=some xs
 |[]=>rfl
 |x::xs=>by
  rw[ZC]
  unfold jf
  rw[w9 xs]
  rfl
theorem Ak:∀{ps:List PV} {xs:List Int},jf ps=some xs->ps=xs.map PV.int
 |[],xs,h=>by cases h;rfl
 |p::ps,xs,h=>by
  cases p<;>first|(cases h;done)|skip
  obtain⟨cs,h1,rfl⟩:=xz.mp h
  rw[ZC,<-Ak h1]
abbrev aX(l:List Nat):PV:=.lst (l.map λ(n:Nat)=>PV.int (n:Int))
theorem Ow{o:Option PV}{l:List Nat}(h:Sq o l=true):o=some (aX l):=by
 unfold Sq at h
 split at h
 ·split at h
  ·rename_i ps xs e
   have:=eq_of_beq h
   subst this
   rw[Ak e,Zg]
   rfl
  ·cases h
 ·cases h
abbrev ih(g:Nat):List Int:=(Mt.uC g).map λ(n:Nat)=>(n:Int)
def Ox(a b:Nat):Bool:=if(ih a).length=(ih b).length then zH (ih a) (ih b)else decide ((ih a).length<(ih b).length)
theorem yi(g:vO)(body:aR)(x:PV)(xs:List PV)(ρ:cA):forL g body (x::xs) ρ=(g x ρ).bind λρ1=>(body ρ1).bind λf=>match f with
 |.nx ρ'=>forL g body xs ρ'
 |.ct ρ'=>forL g body xs ρ'
 |.bk ρ'=>some (.nx ρ')
 |.rt p=>some (.rt p):=rfl
end L2.D
namespace L2.D.Sh
open PySem
def oR:aR:=(cE (ag pW (ag sX (ag GR (dV 0) (dV 1)) (dC (.int 1))) (dC (.int 1))))
def oS(fR:List PV->Option PV):aR:=(cE (bM (je (bW GS (dV 0))) (tV (aN fR (aa (a6 1) (aa (a6 0) aH)))) (a6 0)))
def qk(fT:List PV->Option PV):aR:=(bh (b8 1 (aN fT (aa (a6 0) aH))) (cE (jj (aa (bW cQ (dV 1)) (aa (a6 1) aH)))))
def Al:aR:=(cE (bM (je (dC (.int 6))) (tV (ag pW (ag sX (ag GR (dV 1) (dV 0)) (dC (.int 1))) (dC (.int 1)))) (a6 0)))
def ki:aR:=(bh (oo (tV (ag FR (dV 1) (bW cQ (dV 0)))) (cE (ag jA (dV 0) (dV 1))) fz) (cE (dC (.int 0))))
def qm:aR:=(cE (ag pW (ag sX (dV 0) (dV 1)) (dV 0)))
def yj(dj:List PV->Option PV):aR:=(cE (bW Kg (bM (nList (dV 0)) eC (aN dj (aa (a6 0) (aa (a6 2) aH))))))
def gf(F_place bV:List PV->Option PV):aR:=(oo (qQ (tV (xQ bV (aa (dV 1) (aa (dV 2) aH))))) (oJ 1 gz (aa (a6 2) aH)) fz)
def tL(F_place bV:List PV->Option PV):aR:=(bh (mE 1 (i6 aH)) (bh (oK (nList (sg (nList (dV 0)))) (bN 2) (gf F_place bV)) (Ds 1)))
def jZ(F_place:List PV->Option PV):aR:=(cE (sg (je (ag sW (dC (.int 1)) (dV 0)))))
def n4(bV:List PV->Option PV):aR:=(cE (bW cQ (bM (nList (dV 0)) (tV (aN bV (aa (a6 0) (aa (a6 2) aH)))) (a6 0))))
def yk(iG cB dM:List PV->Option PV):aR:=(cE (aN iG (aa (bM (nList (aN cB (aa (dC (.int 6)) aH))) (tV (ag Pl (aN dM (aa (a6 2) (aa (a6 0) aH))) (dV 1))) (a6 0)) aH)))
end L2.D.Sh
namespace L2.D
open PySem
abbrev W0:=fn false 2 2 Sh.oR
abbrev Ut:=fn true 1 1 (Sh.oS W0)
abbrev Sr:=fn false 2 1 (Sh.qk Ut)
abbrev W2:=fn true 1 1 Sh.Al
abbrev W3:=fn false 2 2 Sh.ki
abbrev Vh:=fn false 2 2 Sh.qm
abbrev Flt:=fn false 2 2 (Sh.yj Vh)
abbrev Vi:=fn true 3 1 (Sh.tL Sr Flt)
theorem E8:RA (λg=>Sq (Ut [.int g]) (Mt.uC g)&&Sq (W2 [.int g]) (Mt.uC g))=true:=by decide+kernel
theorem Ic(g:Nat)(h:g<64):Ut [.int g]=some (aX (Mt.uC g)):=Ow (by have:=La E8 h;rw[re]at this;exact this.1)
theorem E9{F:List PV->Option PV}{g:PV}{l:List PV}(h:F [g]=some (.lst l)):fn false 2 1 (Sh.qk F) [g]=some (.tup [.int l.length,.lst l]):=by
 have sz:(2:Nat)<=sizeLine:=by decide
 simp-implicitDefEqProofs [fn,gE,Sh.qk,h,sz,bh,b8,aN,aa,aH,a6,Slot.NN,cE,jj,bW,cQ,dV,Slot.val,GV]
theorem Ie{g:Nat}(h:g<64):Sr [.int g]=some (.tup [.int (ih g).length,.lst ((ih g).map PV.int)]):=by
 have e:(aX (Mt.uC g))=.lst ((ih g).map PV.int):=by simp[aX,ih]
 have:=Ic g h
 rw[e]at this
 refine(E9 this).trans ?_
 rw[wE]
theorem ym:Vg (λa b=>Ox a b==decide (Mt.rank a<Mt.rank b))=true:=by decide+kernel
theorem Fb{a b:Nat}(ha:a<64)(hb:b<64):Ox a b=decide (Mt.rank a<Mt.rank b):=eq_of_beq (Ov ym ha hb)
theorem yn{n:Int}(h:qN n=true):n.toNat<64/\n=((n.toNat:Nat):Int):=by
 unfold qN at h
 simp only[re,decide_eq_true_eq]at h
 omega
theorem B8:gD Sr:=by
 refine⟨λn=>(ih n.toNat).length,λn=>ih n.toNat,λn hn=>?_,λn m hn hm=>?_⟩
 ·obtain⟨h1,h2⟩:=yn hn
  have:=Ie h1
  rw[<-h2]at this
  exact this
 ·obtain⟨h1,h2⟩:=yn hn
  obtain⟨h3,h4⟩:=yn hm
  have:=Fb h1 h3
  unfold Ox at this
  unfold jV
  rw[<-this]
  by_cases h:(ih n.toNat).length=(ih m.toNat).length
  ·rw[if_pos h,if_pos (show(((ih n.toNat).length:Nat):Int)=((ih m.toNat).length:Nat) by rw[h])]
  ·rw[if_neg h,if_neg (show¬(((ih n.toNat).length:Nat):Int)=((ih m.toNat).length:Nat) by omega)]
   simp
theorem rj(a b:Nat):Vh [.int a,.int b]=some (.bl (Mt.sub a b)):=by
 have:(((a&&&b:Nat):Int)=(a:Int))↔(a&&&b)=a:=by omega
 simp-implicitDefEqProofs [fn,gE,Sh.qm,vb,Mt.sub,this,cE,ag,dV,Slot.val,sX,pW,eqT,GV]
 rfl
theorem xa:∀bs:List Bool,bools (bs.map PV.bl)=some bs
 |[]=>rfl
 |b::bs=>by
  rw[ZC]
  unfold bools
  rw[xa bs]
  rfl
theorem rA{c:dF}{e:Den}{ρ:cA}{f:PV->PV}{p:PV->Bool}:∀xs:List PV,(∀x∈xs,c (.sh x::ρ)=some (p x))->(∀x∈xs,p x=true->e (.sh x::ρ)=some (f x))->gw c e ρ xs=some ((xs.filter p).map f)
 |[],_,_=>rfl
 |x::xs,h1,h2=>by
  have ih:=rA xs (λy hy=>h1 y (wf _ hy)) λy hy=>h2 y (wf _ hy)
  unfold gw
  rw[h1 x (wT ..),ih]
  by_cases hp:p x=true
  ·rw[Zu hp,ZC]
   simp[hp,h2 x (wT ..) hp]
  ·rw[Zv hp]
   simp at hp
   simp[hp]
theorem Fc{e:Den}{ρ:cA}{f:PV->PV}(xs:List PV)(h:∀x∈xs,e (.sh x::ρ)=some (f x)):gw eC e ρ xs=some (xs.map f):=by
 have:=rA (c:=eC) (e:=e) (ρ:=ρ) (f:=f) (p:=λ_=>true) xs (λ_ _=>rfl) λx hx _=>h x hx
 rwa[List.filter_eq_self.mpr (λ_ _=>rfl)]at this
theorem jE{it:cI}{c:dF}{e:Den}{ρ:cA}{xs zs:List PV}(h1:it ρ=some xs)(h2:xs.length<=sizeLine)(h3:gw c e ρ xs=some zs):bM it c e ρ=some (.lst zs):=by
 unfold bM
 rw[h1]
 show(if xs.length<=sizeLine then _ else none)=_
 rw[if_pos h2,h3]
 rfl
theorem gF{it:cI}{g:vO}{body:aR}{ρ:cA}{xs:List PV}(h:it ρ=some xs):oK it g body ρ=forL g body xs ρ:=by
 unfold oK
 rw[h]
 rfl
theorem iQ{a:Den}{ρ:cA}{l:List PV}(h:a ρ=some (.lst l)):nList a ρ=some l:=by
 unfold nList
 rw[h]
 rfl
theorem av{a b:aR}{ρ ρ':cA}(h:a ρ=some (.nx ρ')):bh a b ρ=b ρ':=by
 unfold bh
 rw[h]
 rfl
theorem jk{a b:aR}{ρ:cA}{p:PV}(h:a ρ=some (.rt p)):bh a b ρ=some (.rt p):=by
 unfold bh
 rw[h]
 rfl
theorem jF{t:dF}{a b:aR}{ρ:cA}(h:t ρ=some true):oo t a b ρ=a ρ:=by
 unfold oo
 rw[h]
 rfl
theorem eK{t:dF}{a b:aR}{ρ:cA}(h:t ρ=some false):oo t a b ρ=b ρ:=by
 unfold oo
 rw[h]
 rfl
theorem aO{i:Nat}{a:Den}{ρ:cA}{p:PV}(h:a ρ=some p):b8 i a ρ=some (.nx (ρ.set i (.sh p))):=by
 unfold b8
 rw[h]
 rfl
theorem kR{i:Nat}{a:Den}{ρ:cA}{l:List PV}(h:a ρ=some (.lst l)):mE i a ρ=some (.nx (ρ.set i (.ow l))):=by
 unfold mE
 rw[h]
 rfl
theorem dW{a:Den}{ρ:cA}{p:PV}(h:a ρ=some p):cE a ρ=some (.rt p):=by
 unfold cE
 rw[h]
 rfl
theorem aP{F:List PV->Option PV}{as:cI}{ρ:cA}{ps:List PV}(h:as ρ=some ps):aN F as ρ=F ps:=by
 unfold aN
 rw[h]
 rfl
theorem cT{a:Den}{ρ:cA}{b:Bool}(h:a ρ=some (.bl b)):tV a ρ=some b:=by
 unfold tV
 rw[h]
 rfl
theorem yo{t:dF}{ρ:cA}{b:Bool}(h:t ρ=some b):qQ t ρ=some (!b):=by
 unfold qQ
 rw[h]
 rfl
theorem su{a b:dF}{ρ:cA}(h:a ρ=some false):FJ a b ρ=b ρ:=by
 unfold FJ
 rw[h]
 rfl
theorem Mu{a b:dF}{ρ:cA}(h:a ρ=some true):FJ a b ρ=some true:=by
 unfold FJ
 rw[h]
 rfl
theorem yp{a b:dF}{ρ:cA}(h:a ρ=some true):oF a b ρ=b ρ:=by
 unfold oF
 rw[h]
 rfl
theorem B9{a b:dF}{ρ:cA}(h:a ρ=some false):oF a b ρ=some false:=by
 unfold oF
 rw[h]
 rfl
theorem ai{g:PV->PV->Option PV}{a b:Den}{ρ:cA}{x y:PV}(h1:a ρ=some x)(h2:b ρ=some y):ag g a b ρ=g x y:=by
 unfold ag
 rw[h1]
 show(b ρ).bind _=_
 rw[h2]
 rfl
theorem eL{g:PV->Option PV}{a:Den}{ρ:cA}{x:PV}(h1:a ρ=some x):bW g a ρ=g x:=by
 unfold bW
 rw[h1]
 rfl
theorem Ig{a:Den}{ρ:cA}{j:Int}(h1:a ρ=some (.int j))(h2:wB j=true):je a ρ=some (i7 0 j.toNat):=by
 unfold je
 rw[h1]
 simp only[Zn,QL]
 rw[if_pos h2]
theorem Lb(i j:Int):pW (.int i) (.int j)=some (.bl (decide (i=j))):=rfl
theorem Lc(i j:Int):oq (.int i) (.int j)=some (.bl (!decide (i=j))):=rfl
theorem Ih(i j:Bool):oq (.bl i) (.bl j)=some (.bl (!decide (i=j))):=rfl
theorem dk{fr:Bool}{n k:Nat}{body:aR}{ps:List PV}{p:PV}(h:ps.length=k)(e:body (gE n ps)=some (.rt p)):fn fr n k body ps=some p:=by
 unfold fn
 rw[if_pos h,e]
 rfl
theorem qo(ns:List Int)(k:Nat):W3 [.lst (ns.map PV.int),.int k]=some (.int (ns.getD k 0)):=by
 have t:tV (ag FR (dV 1) (bW cQ (dV 0))) [.sh (.lst (ns.map PV.int)),.sh (.int k)]=some (decide (k<ns.length)):=by
  refine cT ((ai (x:=.int k) (y:=.int ((ns.map PV.int).length:Nat)) rfl rfl).trans ?_)
  show some (PV.bl (decide ((k:Int)<(((ns.map PV.int).length:Nat):Int))))=_
  rw[wE]
  congr 2
  rw[decide_eq_decide]
  omega
 by_cases h:k<ns.length
 ·rw[decide_eq_true h]at t
  have e:itemAt (ns.map PV.int) (k:Int)=some (.int (ns.getD k 0)):=by simp[itemAt,QK,h]
  exact dk rfl (jk ((jF t).trans (dW ((ai (x:=.lst (ns.map PV.int)) (y:=.int k) rfl rfl).trans e))))
 ·rw[decide_eq_false h]at t
  have h2:ns.getD k 0=0:=by
   rw[ZQ,Yi (by omega)]
   rfl
  rw[h2]
  exact dk rfl ((av ((eK t).trans rfl)).trans (dW rfl))
theorem oU{fr:Bool}{n k:Nat}{f:Den}{ps:List PV}{p:PV}(h:ps.length=k)(e:f (gE n ps)=some p):fn fr n k (cE f) ps=some p:=by
 unfold fn
 rw[if_pos h]
 unfold cE
 rw[e]
 rfl
abbrev pl(l:List Nat):List PV:=l.map λ(n:Nat)=>PV.int (n:Int)
theorem kT(l:List Nat):(pl l).length=l.length:=wE _
theorem Ii{F:List PV->Option PV}(hF:∀a b:Nat,F [.int a,.int b]=some (.bl (Mt.sub a b)))(l:List Nat)(g:Nat)(hl:l.length<=sizeLine):fn false 2 2 (Sh.yj F) [aX l,.int g]=some (.bl (Mt.lets l g)):=by
 refine oU rfl ?_
 have e:=Fc (e:=aN F (aa (a6 0) (aa (a6 2) aH))) (ρ:=[.sh (aX l),.sh (.int g)]) (f:=λx=>.bl (match x with|.int n=>Mt.sub n.toNat g|_=>false)) (pl l) (by
  intro x hx
  obtain⟨n,_,rfl⟩:=Zi.mp hx
  simp-implicitDefEqProofs [hF,aN,aa,aH,a6,Slot.NN])
 have d:=jE (it:=nList (dV 0)) (ρ:=[.sh (aX l),.sh (.int g)]) (xs:=pl l) rfl (by rw[kT];exact hl) e
 show(bM (nList (dV 0)) eC (aN F (aa (a6 0) (aa (a6 2) aH))) [.sh (aX l),.sh (.int g)]).bind Kg=_
 rw[d]
 have e2:(pl l).map (λx=>PV.bl (match x with|.int n=>Mt.sub n.toNat g|_=>false))=(l.map λr=>Mt.sub r g).map PV.bl:=by
  rw[Zg,Zg]
  rfl
 show(bools ((pl l).map (λx=>PV.bl (match x with|.int n=>Mt.sub n.toNat g|_=>false)))).map _=_
 rw[e2,xa]
 unfold Mt.lets
 rw[XV,List.any_map]
 rfl
theorem D5(l:List Nat)(g:Nat)(hl:l.length<=sizeLine):Flt [aX l,.int g]=some (.bl (Mt.lets l g)):=Ii rj l g hl
def D6(l:List Nat):List Nat:=(gB jV (l.map λ(n:Nat)=>(n:Int))).map Int.toNat
theorem Am(l:List Nat):gB jV (l.map λ(n:Nat)=>(n:Int))=(D6 l).map λ(n:Nat)=>(n:Int):=by
 unfold D6
 rw[Zg]
 have:∀x∈gB jV (l.map λ(n:Nat)=>(n:Int)),((λ(n:Nat)=>(n:Int))∘Int.toNat) x=id x:=λx hx=>by
  obtain⟨n,_,rfl⟩:=Zi.mp ((jr jV _).mem_iff.mp hx)
  simp
 rw[Ys this,List.map_id]
theorem jG(l:List Nat):(D6 l).Perm l:=by
 have h:=(jr jV (l.map λ(n:Nat)=>(n:Int))).map Int.toNat
 rw[Zg]at h
 have e:(Int.toNat∘λ(n:Nat)=>(n:Int))=id:=by
  funext n
  simp
 rw[e,List.map_id]at h
 exact h
theorem Ca(l:List Nat):(D6 l).Pairwise λa b=>Mt.rank a<=Mt.rank b:=by
 have h:=mG jV (l.map λ(n:Nat)=>(n:Int))
 rw[Am,List.pairwise_map]at h
 exact h.imp λ{a b} q=>by simpa[jV]using q
theorem An(l:List Nat):jf (pl l)=some (l.map λ(n:Nat)=>(n:Int)):=by
 have:pl l=(l.map λ(n:Nat)=>(n:Int)).map PV.int:=by
  rw[Zg]
  rfl
 rw[this,w9]
theorem Fd{l:List Nat}(h:∀g∈l,g<64)(hl:l.length<=5000):mF (l.map λ(n:Nat)=>(n:Int))=true:=by
 unfold mF
 simp only[re,ZA,decide_eq_true_eq,wE]
 refine⟨λx hx=>?_,hl⟩
 obtain⟨n,hn,rfl⟩:=Zi.mp hx
 have:=h n hn
 unfold qN
 simp
 omega
theorem Ao{it:cI}{ρ:cA}{l:List Nat}(h:it ρ=some (pl l))(BD:∀g∈l,g<64)(hl:l.length<=5000):sg it ρ=some (aX (D6 l)):=by
 unfold sg
 rw[h]
 show(jf (pl l)).bind _=_
 rw[An]
 show(if mF _ then _ else none)=_
 rw[if_pos (Fd BD hl),Am,Zg]
 rfl
theorem xb{F_place bV:List PV->Option PV}(hL:∀(l:List Nat) (g:Nat),l.length<=sizeLine->bV [aX l,.int g]=some (.bl (Mt.lets l g)))(s0:Slot):∀(ss acc:List Nat) (s2:Slot),acc.length+ss.length<=5000->
  ∃t2,forL (bN 2) (Sh.gf F_place bV) (pl ss) [s0,.ow (pl acc),s2]=some (.nx [s0,.ow (pl (ss.foldl Mt.lh acc)),t2])
 |[],acc,s2,_=>⟨s2,rfl⟩
 |g::ss,acc,s2,h=>by
  have zl:(5000:Nat)<=sizeLine:=by decide
  rw[ul]at h
  have b:Sh.gf F_place bV [s0,.ow (pl acc),.sh (.int g)]=some (.nx [s0,.ow (pl (Mt.lh acc g)),.sh (.int g)]):=by
   have h1:=hL acc g (by omega)
   have h2:(pl acc).length<sizeLine:=by rw[kT];omega
   have h3:(Sh.gf F_place bV [s0,.ow (pl acc),.sh (.int g)])=(if(!Mt.lets acc g)=true then some (.nx [s0,.ow (pl acc++[.int g]),.sh (.int g)])else some (.nx [s0,.ow (pl acc),.sh (.int g)])):=by
    unfold Sh.gf oo qQ tV xQ
    have e0:(aa (dV 1) (aa (dV 2) aH)) [s0,.ow (pl acc),.sh (.int g)]=some [aX acc,.int g]:=rfl
    rw[e0]
    simp-implicitDefEqProofs only[Zn,h1,flat,if_true,Pk,XV]
    split
    ·have:(oJ 1 gz (aa (a6 2) aH)) [s0,.ow (pl acc),.sh (.int g)]=((if(pl acc).length<sizeLine then some (pl acc++[.int g])else none).map λl'=>Fl.nx [s0,.ow l',.sh (.int g)]):=rfl
     rw[this,if_pos h2]
     rfl
    ·rfl
   rw[h3]
   unfold Mt.lh
   cases Mt.lets acc g<;>simp[pl]
  obtain⟨t2,e⟩:=xb hL s0 ss (Mt.lh acc g) (.sh (.int g)) (by
   unfold Mt.lh
   split
   ·omega
   ·rw[ZD,Zb]
    omega)
  refine⟨t2,?_⟩
  rw[show pl (g::ss)=.int g::pl ss from rfl,yi]
  show((Sh.gf F_place bV [s0,.ow (pl acc),.sh (.int g)]).bind _)=_
  rw[b]
  exact e
theorem Fe{F_place bV:List PV->Option PV}(hL:∀(l:List Nat) (g:Nat),l.length<=sizeLine->bV [aX l,.int g]=some (.bl (Mt.lets l g))){l:List Nat}(BD:∀g∈l,g<64)(hl:l.length<=5000):
  fn true 3 1 (Sh.tL F_place bV) [aX l]=some (aX (Mt.uD (D6 l))):=by
 obtain⟨t2,e⟩:=xb (F_place:=F_place) hL (.sh (aX l)) (D6 l) [] .un (by rw[(jG l).length_eq];simpa using hl)
 have d:=Ao (it:=nList (dV 0)) (ρ:=[.sh (aX l),.ow [],.un]) (l:=l) rfl BD hl
 refine dk rfl ?_
 refine(av (kR (l:=[]) rfl)).trans ?_
 refine(av ((gF (iQ d)).trans e)).trans ?_
 rfl
theorem Ij{l:List Nat}(BD:∀g∈l,g<64)(hl:l.length<=5000):Vi [aX l]=some (aX (Mt.uD (D6 l))):=Fe D5 BD hl
theorem Ik{l:List Nat}(BD:∀g∈l,g<64):Mt.Cl (D6 l) (Mt.uD (D6 l)):=Mt.GQ (λg hg=>BD g ((jG l).mem_iff.mp hg)) (Ca l)
theorem Oy{l:List Nat}{x:PV}(h:x∈pl l):∃n∈l,x=.int (n:Nat):=by
 obtain⟨n,hn,rfl⟩:=Zi.mp h
 exact⟨n,hn,rfl⟩
theorem yq(c:Nat)(h:c<=6):sW (.int 1) (.int c)=some (.int ((2^c:Nat):Int)):=by
 have:=Us (k:=c) (n:=7) (by omega)
 unfold sW
 dsimp only
 rw[if_pos this,yg]
theorem D7(n:Nat):∀l m:List Nat,l.length=m.length->(oI (kJ n) (pl l) (pl m)).map (λes=>es.all id)=some (decide (l=m))
 |[],[],_=>rfl
 |a::l,b::m,h=>by
  have ih:=D7 n l m (by simpa using h)
  obtain⟨es,e1,e2⟩:=xz.mp ih
  have h1:kJ n (.int a) (.int b)=some (decide (a=b)):=by
   have:kJ n (.int a) (.int b)=some (((a:Int))==(b:Int)):=by cases n<;>rfl
   rw[this]
   congr 1
   by_cases h:a=b
   ·subst h;simp
   ·have:¬((a:Int)=(b:Int)):=by omega
    rw[decide_eq_false h]
    simp[this]
  show((oI (kJ n) (.int a::pl l) (.int b::pl m)).map _)=_
  unfold oI
  rw[h1,e1]
  show some ((decide (a=b)::es).all id)=_
  rw[Yd,e2]
  congr 1
  by_cases h2:a=b<;>by_cases h3:l=m<;>simp[h2,h3]
 |[],_::_,h=>by simp at h
 |_::_,[],h=>by simp at h
theorem Oz(n:Nat)(l m:List Nat):kJ (n+1) (aX l) (aX m)=some (decide (l=m)):=by
 show FQ (kJ n) (pl l) (pl m)=_
 unfold FQ
 rw[kT,kT]
 by_cases h:l.length=m.length
 ·rw[if_pos h]
  exact D7 n l m h
 ·rw[if_neg h]
  congr 1
  exact(decide_eq_false λz=>h (by rw[z])).symm
theorem Cb(l m:List Nat):oq (aX l) (aX m)=some (.bl (!decide (l=m))):=by
 show(kJ 20 (aX l) (aX m)).map (λe=>PV.bl !e)=_
 rw[Oz]
 rfl
theorem Il{α β:Type}(f:α->β)(l:List α)(lo hi:Option Int):jU (l.map f) lo hi=(jU l lo hi).map f:=by
 unfold jU
 rw[wE,<-Yg,<-YN]
theorem Ff(l:List Nat)(p:PV->Bool):(pl l).filter p=pl (l.filter λn=>p (.int (n:Nat))):=by
 unfold pl
 rw[List.filter_map]
 rfl
theorem jt{c:Nat}(h:c<=6):2^c<=64:=Nat.pow_le_pow_right (by decide) h
abbrev hV(ns:List Int):PV:=.lst (ns.map PV.int)
end L2.D
namespace Mt
theorem Im:∀(n:Nat) (l:List Nat),l.Nodup->(∀x∈l,x<n)->l.length<=n
 |0,[],_,_=>wr _
 |0,x::l,_,h=>absurd (h x (wT ..)) (by omega)
 |n+1,l,hd,h=>by
  have:=Im n (l.erase n) (hd.erase n) (λx hx=>by
   obtain⟨h1,h2⟩:=hd.mem_erase_iff.mp hx
   have:=h x h2
   omega)
  rw[List.length_erase]at this
  split at this<;>omega
theorem Ph.nodup{l:List Nat}(h:Ph l):l.Nodup:=h.ord.imp λ{a b} q z=>by
 subst z
 omega
theorem Ph.len{l:List Nat}(h:Ph l):l.length<=64:=Im 64 l h.nodup h.small
theorem sub_le{a b:Nat}(h:sub a b=true):a<=b:=by
 rw[Dq]at h
 rw[<-h]
 exact Nat.and_le_right
end Mt
namespace L2.D
open PySem
theorem Ip(a b:Nat):sX (.int a) (.int b)=some (.int ((a&&&b:Nat):Int)):=by
 show some (PV.int (Builtin.bitAnd (a:Int) (b:Int)))=_
 rw[vb]
theorem yr(a b:Nat):pW (.int a) (.int b)=some (.bl (decide (a=b))):=by
 rw[Lb]
 congr 2
 rw[decide_eq_decide]
 omega
theorem Ld(a b:Nat):FR (.int a) (.int b)=some (.bl (decide (a<b))):=by
 show some (PV.bl (decide ((a:Int)<(b:Int))))=_
 congr 2
 rw[decide_eq_decide]
 omega
theorem dq(x:Int){n:Nat}(h:0<n):bY (.int x) (.int n)=some (.int (((x %(n:Int)).toNat:Nat):Int)):=by
 show(if decide (0<(n:Int))then some (PV.int (x %(n:Int)))else none)=_
 rw[if_pos (decide_eq_true (by omega))]
 have:=YB x (show(n:Int)≠0 by omega)
 congr 2
 omega
theorem mod_lt(x:Int){n:Nat}(h:0<n):(x %(n:Int)).toNat<n:=by
 have:=Zp x (show(0:Int)<n by omega)
 omega
theorem sub_eq{A B:Den}{ρ:cA}{a b:Nat}(hA:A ρ=some (.int a))(hB:B ρ=some (.int b)):ag pW (ag sX A B) A ρ=some (.bl (Mt.sub a b)):=by
 refine(ai ((ai hA hB).trans (Ip a b)) hA).trans ?_
 rw[yr]
 rfl
theorem Cd(n:Nat):i7 0 n=pl (List.range n):=by
 unfold i7
 refine Ys λk _=>?_
 rw[Int.zero_add]
theorem mO{a:Den}{ρ:cA}{n:Nat}(h:a ρ=some (.int n))(hn:n<=100000):je a ρ=some (pl (List.range n)):=by
 rw[Ig h (Ur hn),Zd,Cd]
theorem xc{it:cI}{c:dF}{ρ:cA}{l:List Nat}{p:Nat->Bool}(h1:it ρ=some (pl l))(h2:l.length<=sizeLine)(h3:∀n∈l,c (.sh (.int (n:Nat))::ρ)=some (p n)):bM it c (a6 0) ρ=some (aX (l.filter p)):=by
 have cp:=rA (c:=c) (e:=a6 0) (ρ:=ρ) (f:=id) (p:=λx=>match x with|.int r=>p r.toNat|_=>false) (pl l) (by
  intro x hx
  obtain⟨n,hn,rfl⟩:=Oy hx
  exact h3 n hn) (λx hx _=>rfl)
 refine(jE h1 (by rw[kT];exact h2) cp).trans ?_
 rw[Ff,List.map_id]
 rfl
theorem Iq{t:dF}{body:aR}{n:Nat}{ρ:cA}(h:t ρ=some false):il t body (n+1) ρ=some (.nx ρ):=by
 unfold il
 rw[h]
 rfl
theorem Ir{t:dF}{body:aR}{n:Nat}{ρ ρ':cA}(h:t ρ=some true)(hb:body ρ=some (.nx ρ')):il t body (n+1) ρ=il t body n ρ':=by
 conv=>lhs;unfold il
 rw[h]
 show(body ρ).bind _=_
 rw[hb]
 rfl
structure oV(c:Nat)(l:List Nat):Prop where
 lad:Mt.Ph l
 lt:∀g∈l,g<2^c
theorem oV.len{c:Nat}{l:List Nat}(h:oV c l):l.length<=64:=h.lad.len
theorem Ce{c:Nat}(c6:c<=6){l:List Nat}(h:∀g∈l,g<2^c):oV c (Mt.uD (D6 l))/\∀g,Mt.lets (Mt.uD (D6 l)) g=Mt.lets l g:=by
 have BD:∀g∈l,g<64:=λg hg=>wv (h g hg) (jt c6)
 have cl:=Ik BD
 refine⟨⟨cl.lad,λg hg=>h g ((jG l).mem_iff.mp (cl.mem g hg))⟩,λg=>?_⟩
 rw[cl.lets g]
 unfold Mt.lets
 rw[Ze,Zw,Zw]
 exact⟨λ⟨r,h1,h2⟩=>⟨r,(jG l).mem_iff.mp h1,h2⟩,λ⟨r,h1,h2⟩=>⟨r,(jG l).mem_iff.mpr h1,h2⟩⟩
theorem aB{a:Den}{as:cI}{ρ:cA}{x:PV}{xs:List PV}(h1:a ρ=some x)(h2:as ρ=some xs):aa a as ρ=some (x::xs):=by
 unfold aa
 rw[h1,h2]
 rfl
theorem ly{as:cI}{ρ:cA}{xs:List PV}(h:as ρ=some xs)(hl:xs.length<=5000):i6 as ρ=some (.lst xs):=by
 have zl:(5000:Nat)<=sizeLine:=by decide
 unfold i6
 rw[h]
 show(if xs.length<=sizeLine then some (PV.lst xs)else none)=_
 rw[if_pos (by omega)]
def vZ(c:Nat):List Nat:=D6 (List.range (2^c))
theorem Ap{c g:Nat}:g∈vZ c↔g<2^c:=by
 unfold vZ
 rw[(jG _).mem_iff,ZG]
theorem Iu(c:Nat):(vZ c).length=2^c:=by
 unfold vZ
 rw[(jG _).length_eq,Zj]
abbrev Vj:=fn true 1 1 (Sh.jZ Sr)
theorem Ci{F:List PV->Option PV}{c:Nat}(c6:c<=6):fn true 1 1 (Sh.jZ F) [.int c]=some (aX (vZ c)):=by
 have Uu:=jt c6
 refine oU rfl ?_
 refine Ao (mO (n:=2^c) ((ai (x:=.int 1) (y:=.int c) rfl rfl).trans (yq c c6)) (by omega)) (λg hg=>?_) (by rw[Zj];omega)
 have:=ZG.mp hg
 omega
theorem Fg{c:Nat}(c6:c<=6):Vj [.int c]=some (aX (vZ c)):=Ci c6
theorem vc{α:Type}{c:dF}{ρ:cA}(v:α->PV)(p:α->Bool):∀xs:List α,(∀x∈xs,c (.sh (v x)::ρ)=some (p x))->gw c (a6 0) ρ (xs.map v)=some ((xs.filter p).map v)
 |[],_=>rfl
 |x::xs,h=>by
  have ih:=vc v p xs λy hy=>h y (wf _ hy)
  rw[ZC]
  unfold gw
  rw[h x (wT ..),ih]
  by_cases hp:p x=true
  ·rw[Zu hp,hp]
   rfl
  ·rw[Zv hp]
   have ED:p x=false:=by simpa using hp
   rw[ED]
   rfl
def cnt(ls:List (List Nat))(g:Nat):Nat:=ls.countP λl=>Mt.lets l g
theorem Fh{l:List Nat}{x g:Nat}(s:Mt.sub x g=true)(h:Mt.lets l x=true):Mt.lets l g=true:=by
 obtain⟨r,h1,h2⟩:=Mt.fI.mp h
 exact Mt.fI.mpr ⟨r,h1,Mt.ra h2 s⟩
theorem Iv(ls:List (List Nat)){x g:Nat}(s:Mt.sub x g=true):cnt ls x<=cnt ls g:=List.countP_mono_left λl _ h=>Fh s h
theorem Aq{bV:List PV->Option PV}(W4:∀(l:List Nat) (g:Nat),l.length<=sizeLine->bV [aX l,.int g]=some (.bl (Mt.lets l g)))(ls:List (List Nat))(g:Nat)(hl:ls.length<=5000)(hs:∀l∈ls,l.length<=64):fn false 2 2 (Sh.n4 bV) [.lst (ls.map aX),.int g]=some (.int (cnt ls g:Nat)):=by
 have zl:(5000:Nat)<=sizeLine:=by decide
 refine oU rfl ?_
 have cp:=vc (c:=tV (aN bV (aa (a6 0) (aa (a6 2) aH)))) (ρ:=[.sh (.lst (ls.map aX)),.sh (.int g)]) aX (λl=>Mt.lets l g) ls (λl hm=>cT ((aP (ps:=[aX l,.int g]) rfl).trans (W4 l g (by have:=hs l hm;omega))))
 refine(eL (jE (it:=nList (dV 0)) (xs:=ls.map aX) rfl (by rw[wE];omega) cp)).trans ?_
 show some (PV.int (((ls.filter λl=>Mt.lets l g).map aX).length:Nat))=_
 rw[wE,<-Yw]
 rfl
section
variable{iG cB dM:List PV->Option PV}(hL:∀{l:List Nat},(∀g∈l,g<64)->l.length<=5000->iG [aX l]=some (aX (Mt.uD (D6 l))))
 (hG:∀{c:Nat},c<=6->cB [.int c]=some (aX (vZ c)))(hT:∀(ls:List (List Nat)) (g:Nat),ls.length<=5000->(∀l∈ls,l.length<=64)->dM [.lst (ls.map aX),.int g]=some (.int (cnt ls g:Nat)))
include hL hG hT
theorem Iw(many:Int){ls:List (List Nat)}(hl:ls.length<=5000)(hs:∀l∈ls,l.length<=64):∃r,oV 6 r/\(∀g,g<64->Mt.lets r g=decide (many<=(cnt ls g:Int)))/\fn true 2 2 (Sh.yk iG cB dM) [.int many,.lst (ls.map aX)]=some (aX r):=by
 have zl:(5000:Nat)<=sizeLine:=by decide
 have gl:=Iu 6
 have p6:2^6=64:=rfl
 have i0:∀g∈(vZ 6).filter (λg=>decide (many<=(cnt ls g:Int))),g<2^6:=λg hg=>Ap.mp (Zk.mp hg).1
 obtain⟨q1,q2⟩:=Ce (wr 6) i0
 refine⟨_,q1,λg hg=>?_,oU rfl ?_⟩
 ·rw[q2,Ze,Mt.fI]
  constructor
  ·rintro⟨x,hx,s⟩
   have h1:=(Zk.mp hx).2
   rw[decide_eq_true_eq]at h1⊢
   have:=Iv ls s
   omega
  ·intro h
   exact⟨g,Zk.mpr ⟨Ap.mpr (by omega),h⟩,Mt.pV g⟩
 ·have dc:bM (nList (aN cB (aa (dC (.int 6)) aH))) (tV (ag Pl (aN dM (aa (a6 2) (aa (a6 0) aH))) (dV 1))) (a6 0) [.sh (.int many),.sh (.lst (ls.map aX))]=some (aX ((vZ 6).filter λg=>decide (many<=(cnt ls g:Int)))):=
    xc (iQ ((aP (ps:=[.int (6:Nat)]) rfl).trans (hG (wr 6)))) (by omega) λg hg=>cT ((ai (y:=.int many) ((aP (ps:=[.lst (ls.map aX),.int g]) rfl).trans (hT ls g hl hs)) rfl).trans rfl)
  refine(aP (aB dc rfl)).trans (hL (λg hg=>by have:=i0 g hg;omega) ?_)
  have:=Yl (λg=>decide (many<=(cnt ls g:Int))) (vZ 6)
  omega
end
theorem Iy:Mt.zD (λr g=>(List.range 7).all λc=>!(decide (r<2^c))||(Mt.sub r (g % 2^c)==Mt.sub r g))=true:=by decide+kernel
theorem Iz{c r g:Nat}(c6:c<=6)(hr:r<2^c)(hg:g<64):Mt.sub r (g % 2^c)=Mt.sub r g:=by
 have Uu:=jt c6
 have:=Mt.pU Iy (a:=r) (b:=g) (by omega) hg
 have:=ZA.mp this c (ZG.mpr (by omega))
 rw[decide_eq_true hr]at this
 simpa using this
theorem Le:Mt.zD (λg c=>!(decide (c<=6))||Mt.sub (g % 2^c) g)=true:=by decide+kernel
theorem Lf{c g:Nat}(c6:c<=6)(hg:g<64):Mt.sub (g % 2^c) g=true:=by
 have:=Mt.pU Le (a:=g) (b:=c) hg (by omega)
 rw[decide_eq_true c6]at this
 simpa using this
theorem Fi{c:Nat}(c6:c<=6){l:List Nat}(h:oV c l){g:Nat}(hg:g<64):Mt.lets l (g % 2^c)=Mt.lets l g:=by
 have key:∀m:List Nat,(∀r∈m,r<2^c)->(m.any λr=>Mt.sub r (g % 2^c))=m.any λr=>Mt.sub r g:=by
  intro m
  induction m with
  |nil=>exact λ_=>rfl
  |cons r m ih=>
   intro hm
   rw[Z5,Z5,ih λx hx=>hm x (wf _ hx),Iz c6 (hm r (wT ..)) hg]
 exact key l h.lt
theorem oV.down{c:Nat}(c6:c<=6){l:List Nat}(h:oV 6 l)(hm:∀g,g<64->Mt.lets l (g % 2^c)=Mt.lets l g):oV c l:=by
 refine⟨h.lad,λx hx=>?_⟩
 have BD:x<64:=h.lt x hx
 have h1:=Mt.EI hx
 rw[<-hm x BD]at h1
 obtain⟨q,h2,h3⟩:=Mt.fI.mp h1
 have e:=h.lad.anti q h2 x hx (Mt.ra h3 (Lf c6 BD))
 subst e
 have:=Mt.sub_le h3
 have:=Nat.mod_lt q (Yo c)
 omega
theorem IA{c:Nat}(c6:c<=6){ls:List (List Nat)}(h:∀l∈ls,oV c l){g:Nat}(hg:g<64):cnt ls (g % 2^c)=cnt ls g:=by
 unfold cnt
 refine List.countP_congr λl hl=>?_
 rw[Fi c6 (h l hl) hg]
abbrev W5:=fn false 2 2 (Sh.n4 Flt)
abbrev W6:=fn true 2 2 (Sh.yk Vi Vj W5)
theorem Lg{c:Nat}(c6:c<=6)(many:Int){ls:List (List Nat)}(hl:ls.length<=5000)(hs:∀l∈ls,oV c l):∃r,oV c r/\(∀g,g<2^c->Mt.lets r g=decide (many<=(cnt ls g:Int)))/\W6 [.int many,.lst (ls.map aX)]=some (aX r):=by
 have Uu:=jt c6
 obtain⟨r,r1,r2,r3⟩:=Iw Ij Fg (Aq D5) many hl λl h=>(hs l h).len
 refine⟨r,r1.down c6 λg hg=>?_,λg hg=>r2 g (by omega),r3⟩
 have:=Nat.mod_lt g (Yo c)
 rw[r2 g hg,r2 _ (by omega),IA c6 hs hg]
theorem cH(a b:Str):(a++b).length=a.length+b.length:=by
 show(a.cps++b.cps).size=_
 rw[YD]
 rfl
theorem Mv{α β:Type}(f:α->Option β):∀l:List α,(l.filterMap f).length<=l.length
 |[]=>wr _
 |x::l=>by
  have:=Mv f l
  rw[ZZ]
  split
  ·rw[ul];omega
  ·rw[ul,ul];omega
theorem vd(x:Str)(lo hi:Option Int){st:Int}(h0:st≠0):(di x lo hi st).length<=x.length:=by
 unfold di
 split
 ·exact wr _
 ·show((Builtin.Str.strSliceIndices lo hi st x.length).filterMap (x.cps[·]?)).toArray.size<=_
  rw[wP]
  have h1:=Mv (x.cps[·]?) (Builtin.Str.strSliceIndices lo hi st x.length)
  have h2:=sliceIndicesBy_le lo hi st h0 x.length
  omega
theorem IB{α β:Type}(f:α->Option β):∀l:List α,(∀x∈l,(f x).isSome=true)->(l.filterMap f).length=l.length
 |[],_=>rfl
 |x::l,h=>by
  have ih:=IB f l λy hy=>h y (wf _ hy)
  obtain⟨z,hz⟩:=Z3.mp (h x (wT ..))
  rw[ZZ,hz,ul,ul,ih]
theorem yt(x:Str)(n:Nat)(h:n<=x.length):(di x none (some (n:Int)) 1).length=n:=by
 have e:Builtin.Str.strSliceIndices none (some (n:Int)) 1 x.length=(List.range n).map (0+·):=by
  have:=PySem.sliceRange_one 0 n
  rw[YV]at this
  rw[<-this]
  unfold Builtin.Str.strSliceIndices
  simp only
  congr 1
  rw[if_pos (by decide),if_neg (by omega)]
  omega
 unfold di
 rw[e]
 split
 ·rename_i hh
  rw[re,beq_iff_eq,beq_iff_eq,wE,Zj]at hh
  omega
 ·show(((List.range n).map (0+·)).filterMap (x.cps[·]?)).toArray.size=n
  rw[wP,IB,wE,Zj]
  intro i hi
  obtain⟨k,hk,rfl⟩:=Zi.mp hi
  have:=ZG.mp hk
  have hl:0+k<x.cps.size:=by
   have:x.cps.size=x.length:=rfl
   omega
  have O7:k<x.cps.size:=by omega
  simp[O7]
def ot:Str:= "abcdefghijklmnopqrstuvwxyz"
theorem IC:ot.length=26:=by decide+kernel
theorem OA{x:Str}{i:Nat}(h:i<x.length)(hx:x.length<=5000):∃y:Str,y.length=1/\jA (.str x) (.int i)=some (.str y):=by
 have zl:(5000:Nat)<=sizeLine:=by decide
 have hl:i<x.cps.toList.length:=by
  rw[v4]
  exact h
 have:itemAt x.cps.toList (i:Int)=some (x.cps.toList[i]'hl):=by
  unfold itemAt QK
  rw[if_pos (by omega),if_pos (by omega)]
  show x.cps.toList[(i:Int).toNat]?=_
  rw[Zd,wn hl]
 refine⟨⟨#[x.cps.toList[i]'hl]⟩,rfl,?_⟩
 show(if x.length<=sizeLine then(itemAt x.cps.toList (i:Int)).map (λc=>PV.str ⟨#[c]⟩)else none)=_
 rw[if_pos (by omega),this]
 rfl
theorem gI(a b:Str)(h:a.length+b.length<=100000):bU (.str a) (.str b)=some (.str (a++b)):=by
 have zl:(100000:Nat)<=sizeLine:=by decide
 show(if a.length+b.length<=sizeLine then some (PV.str (a++b))else none)=_
 rw[if_pos (by omega)]
theorem qp{A:Den}{lo hi:sY}{ρ:cA}{y:Str}{l h:Option Int}(hA:A ρ=some (.str y))(hl:lo ρ=some l)(hh:hi ρ=some h)(hy:y.length<=100000):zI A lo hi ρ=some (.str (di y l h 1)):=by
 have zl:(100000:Nat)<=sizeLine:=by decide
 unfold zI
 rw[hA,hl,hh]
 show(if y.length<=sizeLine then some (PV.str (di y l h 1))else none)=_
 rw[if_pos (by omega)]
theorem ju{a b:Int}(h1:-100000000000<=a)(h2:a<=100000000000):rb (.int a) (.int b)=some (.int (a*b)):=by
 have:zG a b=true:=by
  unfold zG
  rw[Yn,re]
  exact .inl ⟨decide_eq_true (by omega),decide_eq_true (by omega)⟩
 show(if zG a b then some (PV.int (a*b))else none)=_
 rw[if_pos this]
theorem mP(a:Int){n:Int}(h:0<n):bY (.int a) (.int n)=some (.int (a % n)):=by
 show(if decide (0<n)then some (PV.int (a % n))else none)=_
 rw[if_pos (decide_eq_true h)]
structure It where
 o:PV
 s:PV
 t:Str
 d:Nat
def It.p(i:It):PV:=.tup [i.o,i.s,.str i.t,.int (i.d:Nat)]
def wt(l:List It):Nat:=(l.map λi=>i.t.length+2).sum
theorem ve(l m:List It):wt (l++m)=wt l+wt m:=by
 unfold wt
 rw[Zs,List.sum_append]
theorem vf(i:It):wt [i]=i.t.length+2:=by
 unfold wt
 simp
theorem yu(i:It)(l:List It):wt (i::l)=i.t.length+2+wt l:=by
 unfold wt
 rw[ZC,YO]
theorem Ar{α:Type}{e:Den}{ρ:cA}(v f:α->PV):∀(xs:List α),(∀x∈xs,e (.sh (v x)::ρ)=some (f x))->gw eC e ρ (xs.map v)=some (xs.map f)
 |[],_=>rfl
 |x::xs,h=>by
  have ih:=Ar v f xs λy hy=>h y (wf _ hy)
  show((some true).bind λb=>if b then(e (.sh (v x)::ρ)).bind λz=>(gw eC e ρ (xs.map v)).map (z::·)else gw eC e ρ (xs.map v))=_
  rw[h x (wT ..),ih]
  rfl
theorem mQ{α:Type}{it:cI}{e:Den}{ρ:cA}(v f:α->PV){xs:List α}(h1:it ρ=some (xs.map v))(h2:xs.length<=5000)(h3:∀x∈xs,e (.sh (v x)::ρ)=some (f x)):bM it eC e ρ=some (.lst (xs.map f)):=by
 have zl:(5000:Nat)<=sizeLine:=by decide
 exact jE h1 (by rw[wE];omega) (Ar v f xs h3)
theorem kU:∀ts:List Str,l8 (ts.map PV.str)=some ts
 |[]=>rfl
 |t::ts=>by
  show(l8 (ts.map PV.str)).map (t::·)=_
  rw[kU ts]
  rfl
theorem joinOk_of(sep:Str)(ts:List Str)(h:(ts.map λt=>t.length+sep.length).sum<=100000):JoinOk sep ts=true:=by
 have zl:(100000:Nat)<=sizeLine:=by decide
 have key:∀(ts:List Str) (a:Nat),ts.foldl (λacc t=>acc+t.length+sep.length) a=a+(ts.map λt=>t.length+sep.length).sum:=by
  intro ts
  induction ts with
  |nil=>intro a;rfl
  |cons t ts ih=>
   intro a
   rw[Zl,ih,ZC,YO]
   omega
 unfold JoinOk Builtin.Str.tooLong
 rw[List.foldl_toArray',key]
 ·simp
  omega
 ·rfl
theorem join_le(sep:Str):∀ts:List Str,(Txt.join sep ts).length<=(ts.map λt=>t.length+sep.length).sum
 |[]=>ZI _
 |t::ts=>by
  have key:∀(ts:List Str) (a:Array Nat),(ts.foldl (λacc (p:Str)=>acc++sep.cps++p.cps) a).size=a.size+(ts.map λt=>t.length+sep.length).sum:=by
   intro ts
   induction ts with
   |nil=>intro a;rfl
   |cons t ts ih=>
    intro a
    rw[Zl,ih,ZC,YO,YD,YD]
    have:t.cps.size=t.length:=rfl
    have:sep.cps.size=sep.length:=rfl
    omega
  show(ts.foldl (λacc (p:Str)=>acc++sep.cps++p.cps) t.cps).size<=_
  rw[key,ZC,YO]
  have:t.cps.size=t.length:=rfl
  omega
theorem Fj(sep:Str)(ts:List Str)(h:(ts.map λt=>t.length+sep.length).sum<=100000):Dv (.str sep) (.lst (ts.map PV.str))=some (.str (Txt.join sep ts)):=by
 show(l8 (ts.map PV.str)).bind _=_
 rw[kU]
 show(if JoinOk sep ts then some (PV.str (Txt.join sep ts))else none)=_
 rw[if_pos (joinOk_of sep ts h)]
theorem fold_max:∀(ds:List Nat) (a:Nat),∃M:Nat,(ds.map λ(n:Nat)=>(n:Int)).foldl (λa b=>if b>a then b else a) (a:Int)=(M:Int)/\a<=M/\(∀x∈ds,x<=M)/\(M=a\/M∈ds)
 |[],a=>⟨a,rfl,wr _,by simp,.inl rfl⟩
 |d::ds,a=>by
  rw[ZC,Zl]
  by_cases h:d>a
  ·have e:(if(d:Int)>(a:Int)then(d:Int)else(a:Int))=(d:Int):=if_pos (by omega)
   rw[e]
   obtain⟨M,h1,h2,h3,h4⟩:=fold_max ds d
   refine⟨M,h1,by omega,λx hx=>?_,?_⟩
   ·rcases ZJ.mp hx with rfl|hx
    ·exact h2
    ·exact h3 x hx
   ·rcases h4 with rfl|h4
    ·exact .inr (wT ..)
    ·exact .inr (wf _ h4)
  ·have e:(if(d:Int)>(a:Int)then(d:Int)else(a:Int))=(a:Int):=if_neg (by omega)
   rw[e]
   obtain⟨M,h1,h2,h3,h4⟩:=fold_max ds a
   refine⟨M,h1,h2,λx hx=>?_,?_⟩
   ·rcases ZJ.mp hx with rfl|hx
    ·omega
    ·exact h3 x hx
   ·rcases h4 with rfl|h4
    ·exact .inl rfl
    ·exact .inr (wf _ h4)
theorem As(ds:List Nat)(h:ds≠[]):∃M:Nat,uG (aX ds)=some (.int (M:Nat))/\(∀x∈ds,x<=M)/\M∈ds:=by
 cases ds with
 |nil=>exact absurd rfl h
 |cons d ds=>
  obtain⟨M,h1,h2,h3,h4⟩:=fold_max ds d
  refine⟨M,?_,λx hx=>?_,?_⟩
  ·show(jf (pl (d::ds))).bind _=_
   rw[An]
   show(some ((ds.map λ(n:Nat)=>(n:Int)).foldl (λa b=>if b>a then b else a) (d:Int))).map PV.int=_
   rw[h1]
   rfl
  ·rcases ZJ.mp hx with rfl|hx
   ·exact h2
   ·exact h3 x hx
  ·rcases h4 with rfl|h4
   ·exact wT ..
   ·exact wf _ h4
theorem Au{α:Type}(l:List α)(j:Nat)(h:0<j):jU l (some (-(j:Int))) none=l.drop (l.length-j):=by
 unfold jU mr
 simp only
 rw[if_pos (by omega)]
 have:(-(j:Int)+(l.length:Int)).toNat=l.length-j:=by omega
 rw[this,ZX (by rw[ZY];exact wr _)]
theorem Lh{α:Type}(l:List α)(j:Nat)(h:0<j):jU l none (some (-(j:Int)))=l.take (l.length-j):=by
 unfold jU mr
 simp only
 rw[if_pos (by omega)]
 have:(-(j:Int)+(l.length:Int)).toNat=l.length-j:=by omega
 rw[this,Z2,YV]
theorem ID{α:Type}(l:List α)(j:Nat)(h:j<=l.length):jU l none (some (j:Int))=l.take j:=by
 unfold jU mr
 simp only
 rw[if_neg (by omega),Z2,YV,Zd,XY h]
theorem mR{A:Den}{lo hi:sY}{ρ:cA}{l:List PV}{a b:Option Int}(hA:A ρ=some (.lst l))(hl:lo ρ=some a)(hh:hi ρ=some b):wA A lo hi ρ=some (.lst (jU l a b)):=by
 unfold wA
 rw[hA,hl,hh]
 rfl
theorem j0{as:cI}{ρ:cA}{xs:List PV}(h:as ρ=some xs)(hl:xs.length<=5000):jj as ρ=some (.tup xs):=by
 have zl:(5000:Nat)<=sizeLine:=by decide
 unfold jj
 rw[h]
 show(if xs.length<=sizeLine then some (PV.tup xs)else none)=_
 rw[if_pos (by omega)]
def kept:List PV:=[.str "all",.str "any",.str "of"]
def Lw(x:Str):Prop:=∀c∈x.cps.toList,97<=c/\c<=122
theorem yv{a b:Str}(ha:Lw a)(hb:Lw b):Lw (a++b):=λc hc=>by
 have e:(a++b).cps.toList=a.cps.toList++b.cps.toList:=ZN
 rw[e]at hc
 rcases sK.mp hc with h|h
 ·exact ha c h
 ·exact hb c h
theorem yw{x:Str}(h:Lw x)(lo hi:Option Int)(st:Int):Lw (di x lo hi st):=by
 unfold di
 split
 ·exact h
 ·intro c hc
  have hc:c∈(Builtin.Str.strSliceIndices lo hi st x.length).filterMap (x.cps[·]?):=hc
  obtain⟨i,_,e⟩:=YT.mp hc
  exact h c (by rw[Array.mem_toList_iff];exact Array.mem_of_getElem? e)
def Uv(x:Str):Bool:=x.cps.toList.all λc=>decide (97<=c)&&decide (c<=122)
theorem IE{x:Str}(h:Uv x=true):Lw x:=λc hc=>by
 have:=ZA.mp h c hc
 simpa using this
def lz(i:Nat):Str:=⟨#[97+i]⟩
theorem D8{i:Nat}(h:i<26):Lw (lz i):=λc hc=>by
 have:c=97+i:=by simpa[lz]using hc
 omega
theorem IF:((List.range 26).all λi=>itemAt ot.cps.toList (i:Int)==some (97+i))=true:=by decide+kernel
theorem xf{i:Nat}(h:i<26):jA (.str ot) (.int i)=some (.str (lz i)):=by
 have zl:(5000:Nat)<=sizeLine:=by decide
 have hc:=beq_iff_eq.mp (ZA.mp IF i (ZG.mpr h))
 show(if ot.length<=sizeLine then(itemAt ot.cps.toList (i:Int)).map (λc=>PV.str ⟨#[c]⟩)else none)=_
 rw[if_pos (by rw[IC];omega),hc]
 rfl
def Cj:List Nat->List Nat->Nat
 |x::l,y::m=>(if x=y then 0 else 1)+Cj l m
 |_,_=>0
theorem vg:∀l:List Nat,Cj l l=0
 |[]=>rfl
 |x::l=>by
  show(if x=x then 0 else 1)+Cj l l=0
  rw[if_pos rfl,vg l]
theorem D9(a b:List Nat):∀l:List Nat,Cj (l++a) (l++b)=Cj a b
 |[]=>rfl
 |x::l=>by
  show(if x=x then 0 else 1)+Cj (l++a) (l++b)=_
  rw[if_pos rfl,D9 a b l,Z4]
theorem Li(A C:Str){i j:Nat}(h:i≠j):Cj ((A++lz i)++C).cps.toList ((A++lz j)++C).cps.toList=1:=by
 have e:∀k,((A++lz k)++C).cps.toList=A.cps.toList++((97+k)::C.cps.toList):=λk=>by
  show((A.cps++#[97+k])++C.cps).toList=_
  simp
 rw[e,e,D9]
 show(if 97+i=97+j then 0 else 1)+Cj C.cps.toList C.cps.toList=1
 rw[if_neg (by omega),vg]
def fin(y:Str):Str:=if vN (.str y) kept=true then di y none none (-1)else y
def Ss:List Str:=["all","any","of"]
theorem OB:(Ss.all λx=>Uv (di x none none (-1))&&decide ((di x none none (-1)).length=x.length)&&!decide (Cj x.cps.toList (di x none none (-1)).cps.toList=1)&&!decide (Cj (di x none none (-1)).cps.toList x.cps.toList=1)&&Ss.all λy=>!decide (Cj x.cps.toList y.cps.toList=1))=true:=by decide+kernel
theorem Av{x:Str}:∀{ts:List Str},vN (.str x) (ts.map PV.str)=decide (x∈ts)
 |[]=>by simp[vN]
 |t::ts=>by
  have ih:=Av (x:=x) (ts:=ts)
  unfold vN at ih⊢
  rw[ZC,Z5,ih]
  show((t==x)||decide (x∈ts))=_
  by_cases h:t=x
  ·subst h
   simp
  ·rw[beq_eq_false_iff_ne.mpr h]
   simp[ZJ,Ne.symm h]
theorem Aw{x:Str}:vN (.str x) kept=decide (x∈Ss):=Av (ts:=Ss)
theorem Ea{x:Str}(h:vN (.str x) kept=true):Lw (di x none none (-1))/\(di x none none (-1)).length=x.length/\Cj x.cps.toList (di x none none (-1)).cps.toList≠1/\Cj (di x none none (-1)).cps.toList x.cps.toList≠1/\∀y,vN (.str y) kept=true->Cj x.cps.toList y.cps.toList≠1:=by
 rw[Aw]at h
 have:=ZA.mp OB x (of_decide_eq_true h)
 simp only[re,YZ,decide_eq_false_iff_not,decide_eq_true_eq]at this
 obtain⟨⟨⟨⟨h1,h2⟩,h3⟩,h4⟩,h5⟩:=this
 refine⟨IE h1,h2,h3,h4,λy hy=>?_⟩
 rw[Aw]at hy
 have:=ZA.mp h5 y (of_decide_eq_true hy)
 simpa using this
theorem tM(x:Str):(fin x).length=x.length:=by
 unfold fin
 split
 ·rename_i h
  exact(Ea h).2.1
 ·rfl
theorem OC{x:Str}(h:Lw x):Lw (fin x):=by
 unfold fin
 split
 ·rename_i h
  exact(Ea h).1
 ·exact h
theorem OD{x y:Str}(h:Cj x.cps.toList y.cps.toList=1):fin x≠fin y:=by
 unfold fin
 split
 ·rename_i hx
  obtain⟨_,_,h3,_,h5⟩:=Ea hx
  split
  ·rename_i hy
   exact absurd h (h5 y hy)
  ·intro e
   rw[e]at h3
   exact h3 h
 ·split
  ·rename_i hy
   obtain⟨_,_,_,h4,_⟩:=Ea hy
   intro e
   rw[<-e]at h4
   exact h4 h
  ·intro e
   rw[e,vg]at h
   cases h
end L2.D
namespace L2.D.My
open PySem
def oR:aR:=(cE (ag pW (ag sX (ag GR (dV 0) (dV 1)) (dC (.int 1))) (dC (.int 1))))
def fR:List PV->Option PV:=fn false 2 2 (oR)
def oS(fR:List PV->Option PV):aR:=(cE (bM (je (bW GS (dV 0))) (tV (aN fR (aa (a6 1) (aa (a6 0) aH)))) (a6 0)))
def fT:List PV->Option PV:=fn true 1 1 (oS fR)
def qk(fT:List PV->Option PV):aR:=(bh (b8 1 (aN fT (aa (a6 0) aH))) (cE (jj (aa (bW cQ (dV 1)) (aa (a6 1) aH)))))
def F_place:List PV->Option PV:=fn false 2 1 (qk fT)
def qm:aR:=(cE (ag pW (ag sX (dV 0) (dV 1)) (dV 0)))
def dj:List PV->Option PV:=fn false 2 2 (qm)
def yj(dj:List PV->Option PV):aR:=(cE (bW Kg (bM (nList (dV 0)) eC (aN dj (aa (a6 0) (aa (a6 2) aH))))))
def bV:List PV->Option PV:=fn false 2 2 (yj dj)
def gf(F_place bV:List PV->Option PV):aR:=(oo (qQ (tV (xQ bV (aa (dV 1) (aa (dV 2) aH))))) (oJ 1 gz (aa (a6 2) aH)) fz)
def tL(F_place bV:List PV->Option PV):aR:=(bh (mE 1 (i6 aH)) (bh (oK (nList (sg (nList (dV 0)))) (bN 2) (gf F_place bV)) (Ds 1)))
def iG:List PV->Option PV:=fn true 3 1 (tL F_place bV)
def jZ(F_place:List PV->Option PV):aR:=(cE (sg (je (ag sW (dC (.int 1)) (dV 0)))))
def cB:List PV->Option PV:=fn true 1 1 (jZ F_place)
def n4(bV:List PV->Option PV):aR:=(cE (bW cQ (bM (nList (dV 0)) (tV (aN bV (aa (a6 0) (aa (a6 2) aH)))) (a6 0))))
def dM:List PV->Option PV:=fn false 2 2 (n4 bV)
def yk(iG cB dM:List PV->Option PV):aR:=(cE (aN iG (aa (bM (nList (aN cB (aa (dC (.int 6)) aH))) (tV (ag Pl (aN dM (aa (a6 2) (aa (a6 0) aH))) (dV 1))) (a6 0)) aH)))
def kj:List PV->Option PV:=fn true 2 2 (yk iG cB dM)
def lC:aR:=(bh (oo (tV (ag ik (dV 3) (dV 0))) (xU (QO (dV 3)) 0) fz) (b8 2 (ag UZ (dV 2) (ag sW (dC (.int 1)) (ag xT (dV 0) (dV 3))))))
def Ck:aR:=(bh (b8 2 (dC (.int 0))) (bh (oK (nList (a6 1)) (bN 3) lC) (uH (a6 2))))
def bK:List PV->Option PV:=fn false 4 2 (Ck)
def cW(kj:List PV->Option PV)(eN:Nat->List PV->Option PV):aR:=(wZ (wX kj (bW (pX tF "wanted") (dV 0)) (oP (sZ (bW (pX tF "parts") (dV 0))) (dC (.bl true)) (uF eN (a6 0) (aa (a6 2) aH)))))
def dN(jH:Nat->List PV->Option PV):aR:=(bh (w5 3 (oP (sZ (bW (pX tF "parts") (dV 0))) (uF jH (a6 0) (aa (a6 2) (aa (a6 3) aH))) (Ot (a6 0)))) (uH (ag Pl (bW cQ (dV 3)) (bW (pX tF "wanted") (dV 0)))))
def mS(bK:List PV->Option PV):aR:=(wZ (wY (aN bK (aa (a6 1) (aa (i6 (aa (bW (pX tF "name") (dV 0)) aH)) aH)))))
def qq(dj bK:List PV->Option PV):aR:=(wZ (wW dj (aN bK (aa (a6 1) (aa (i6 (aa (bW (pX tF "name") (dV 0)) aH)) aH))) (aa (a6 2) aH)))
def gJ:Nat->Nat->List PV->Option PV
 |0,_=>λ_=>none
 |n+1,0=>fn false 3 3 (qq dj bK)
 |n+1,1=>fn false 4 3 (dN (gJ n))
 |n+1,2=>fn false 4 3 (dN (gJ n))
 |n+1,3=>fn false 4 3 (dN (gJ n))
 |_+1,_=>λ_=>none
def jH:Nat->List PV->Option PV:=gJ 24
def de:Nat->Nat->List PV->Option PV
 |0,_=>λ_=>none
 |n+1,0=>fn false 2 2 (mS bK)
 |n+1,1=>fn false 2 2 (cW kj (de n))
 |n+1,2=>fn false 2 2 (cW kj (de n))
 |n+1,3=>fn false 2 2 (cW kj (de n))
 |_+1,_=>λ_=>none
def eN:Nat->List PV->Option PV:=de 24
def ki:aR:=(bh (oo (tV (ag FR (dV 1) (bW cQ (dV 0)))) (cE (ag jA (dV 0) (dV 1))) fz) (cE (dC (.int 0))))
def F_law_cell_at:List PV->Option PV:=fn false 2 2 (ki)
def Cm:aR:=(bh (b8 4 (dC (.str "abcdefghijklmnopqrstuvwxyz"))) (bh (b8 5 (ag jA (dV 4) (ag bY (ag bU (ag L6 (dV 4) (ag jA (dV 0) (dV 1))) (ag rb (dC (.int 3)) (dV 3))) (dC (.int 26))))) (cE (ag bU (ag bU (zI (dV 0) fw (cL (dV 1))) (dV 5)) (zI (dV 0) (cL (ag bU (dV 1) (dC (.int 1)))) (cL (dV 2)))))))
def bO:List PV->Option PV:=fn false 6 4 (Cm)
def lD:aR:=(bh (b8 2 (ag bY (ag bU (ag bU (ag bU (ag rb (dV 2) (dV 2)) (ag rb (dC (.int 48271)) (dV 2))) (dV 4)) (dC (.int 1))) (dC (.int 2147483647)))) (b8 3 (ag bU (dV 3) (ag jA (dC (.str "abcdefghijklmnopqrstuvwxyz")) (ag bY (dV 2) (dC (.int 26)))))))
def Co:aR:=(bh (b8 2 (ag bY (ag bU (ag rb (ag bY (dV 0) (dC (.int 2147483647))) (dC (.int 16807))) (dC (.int 11))) (dC (.int 2147483647)))) (bh (b8 3 (dC (.str ""))) (bh (oK (je (dV 1)) (bN 4) lD) (cE (a6 3)))))
def F_law_base:List PV->Option PV:=fn false 5 2 (Co)
def kl(F_law_cell_at bO F_law_base:List PV->Option PV):aR:=(bh (b8 10 (aN bO (aa (a6 7) (aa (ag bY (ag ij (dV 3) (dC (.int 80))) (dV 4)) (aa (a6 4) (aa (a6 9) aH)))))) (bh (oo (tV (ag pW (ag bY (ag ij (dV 3) (dC (.int 20))) (dC (.int 4))) (dC (.int 1)))) (b8 10 (zI (dV 7) fw (cL (ag bU (dV 9) (dC (.int 1)))))) fz) (bh (oo (tV (ag QJ (dV 10) (jj (aa (dC (.str "all")) (aa (dC (.str "any")) (aa (dC (.str "of")) aH)))))) (b8 10 (bW NP (dV 10))) fz) (oJ 8 gz (aa (a6 10) aH)))))
def sv(F_law_cell_at bO F_law_base:List PV->Option PV):aR:=(bh (b8 3 (aN F_law_cell_at (aa (a6 0) (aa (a6 1) aH)))) (bh (b8 4 (ag bU (dC (.int 1)) (ag bY (dV 3) (dC (.int 20))))) (bh (b8 5 (aN F_law_cell_at (aa (a6 0) (aa (ag bU (dV 1) (dC (.int 1))) aH)))) (bh (b8 6 (ag jA (i6 (aa (dC (.str "")) (aa (dC (.str "")) (aa (dC (.str "all")) (aa (dC (.str "")) (aa (dC (.str "any")) (aa (dC (.str "")) (aa (dC (.str "of")) (aa (dC (.str "al")) aH))))))))) (ag bY (dV 5) (dC (.int 8))))) (bh (b8 7 (zI (ag bU (dV 6) (aN F_law_base (aa (ag ij (dV 5) (dC (.int 8))) (aa (dC (.int 20)) aH)))) fw (cL (dC (.int 20))))) (bh (mE 8 (i6 aH)) (bh (oK (je (dV 2)) (bN 9) (kl F_law_cell_at bO F_law_base)) (Ds 8))))))))
def gg:List PV->Option PV:=fn true 11 3 (sv F_law_cell_at bO F_law_base)
def Cp(gg F_law_cell_at:List PV->Option PV):aR:=(cE (bW xS (aN gg (aa (a6 0) (aa (dC (.int 2)) (aa (ag bU (dC (.int 1)) (ag bY (aN F_law_cell_at (aa (a6 0) (aa (dC (.int 0)) aH))) (dC (.int 6)))) aH))))))
def F_law_roll:List PV->Option PV:=fn false 1 1 (Cp gg F_law_cell_at)
def v5:aR:=(bh (mE 3 (bM (nList (dV 2)) eC (ag jA (dV 0) (dC (.int 0))))) (bh (b8 4 (bW xS (bM (nList (dV 2)) eC (ag jA (dV 0) (dC (.int 1)))))) (bh (b8 5 (ag bU (ag Dv (dC (.str ", ")) (bM (nList (dV 2)) eC (ag jA (dV 0) (dC (.int 2))))) (dC (.str ")")))) (bh (b8 6 (ag bU (dC (.int 1)) (bW uG (bM (nList (dV 2)) eC (ag jA (dV 0) (dC (.int 3))))))) (bh (oo (tV (ag pW (dV 0) (dC (.int 0)))) (b8 7 (jj (aa (bW GW (dV 3)) (aa (jj (aa (dC (.str "all")) (aa (a6 4) aH))) (aa (ag bU (dC (.str "all(")) (dV 5)) (aa (a6 6) aH)))))) (oo (tV (ag pW (dV 0) (dC (.int 1)))) (b8 7 (jj (aa (bW GX (dV 3)) (aa (jj (aa (dC (.str "any")) (aa (a6 4) aH))) (aa (ag bU (dC (.str "any(")) (dV 5)) (aa (a6 6) aH)))))) (b8 7 (jj (aa (ag BG (dV 1) (dV 3)) (aa (jj (aa (dC (.str "some")) (aa (a6 1) (aa (a6 4) aH)))) (aa (ag bU (ag bU (bW Kj (dV 1)) (dC (.str " of ("))) (dV 5)) (aa (a6 6) aH)))))))) (bh (oJ 3 BF aH) (cE (a6 7))))))))
def aA:List PV->Option PV:=fn false 8 3 (v5)
def jI(aA:List PV->Option PV):aR:=(bh (b8 2 (ag bY (ag bU (ag rb (dV 2) (dV 2)) (ag rb (dC (.int 48271)) (dV 2))) (dC (.int 2147483647)))) (bh (b8 3 (wA (dV 0) (cL (bW lj (dC (.int 8)))) fw)) (bh (mE 0 (wA (dV 0) fw (cL (bW lj (dC (.int 8)))))) (oJ 0 gz (aa (aN aA (aa (ag bY (dV 2) (dC (.int 3))) (aa (ag bU (dC (.int 1)) (ag bY (ag ij (dV 2) (dC (.int 3))) (bW cQ (dV 3)))) (aa (a6 3) aH)))) aH)))))
def qr(aA:List PV->Option PV):aR:=(bh (b8 2 (ag bU (dC (.int 1)) (ag bY (dV 1) (dC (.int 2147483646))))) (bh (il (tV (ag FT (bW cQ (dV 0)) (dC (.int 1)))) (jI aA) 1000) (cE (ag jA (dV 0) (dC (.int 0))))))
def F_law_folded:List PV->Option PV:=fn false 4 2 (qr aA)
def Cq:aR:=(cE (jj (aa (bW L7 (dV 0)) (aa (jj (aa (dC (.str "hand")) (aa (a6 0) aH))) (aa (a6 0) (aa (dC (.int 0)) aH))))))
def bP:List PV->Option PV:=fn false 1 1 (Cq)
def km(F_law_folded bP F_law_cell_at aA:List PV->Option PV):aR:=(bh (b8 7 (wA (dV 4) (cL (bW lj (ag bU (dC (.int 1)) (ag bY (ag ij (dV 6) (dC (.int 9))) (dC (.int 8)))))) fw)) (bh (b8 8 (bW uG (bM (nList (dV 7)) eC (ag jA (dV 0) (dC (.int 3)))))) (oo (FJ (tV (ag FR (ag bY (dV 6) (dC (.int 9))) (dC (.int 6)))) (FJ (tV (ag FT (dV 8) (dC (.int 11)))) (tV (ag FT (dV 5) (dC (.int 13)))))) (oJ 4 gz (aa (aN bP (aa (ag jA (dV 3) (ag bY (ag ij (dV 6) (dC (.int 9))) (bW cQ (dV 3)))) aH)) aH)) (bh (mE 4 (wA (dV 4) fw (cL (ag zF (bW cQ (dV 4)) (bW cQ (dV 7)))))) (bh (oJ 4 gz (aa (aN aA (aa (ag zF (ag bY (dV 6) (dC (.int 9))) (dC (.int 6))) (aa (ag bU (dC (.int 1)) (ag bY (ag ij (dV 6) (dC (.int 72))) (bW cQ (dV 7)))) (aa (a6 7) aH)))) aH)) (b8 5 (ag bU (dV 5) (dC (.int 1)))))))))
def sx(F_law_folded bP F_law_cell_at aA:List PV->Option PV):aR:=(bh (mE 4 (i6 (aa (aN bP (aa (ag jA (dV 3) (ag bY (aN F_law_cell_at (aa (a6 0) (aa (a6 1) aH))) (bW cQ (dV 3)))) aH)) aH))) (bh (b8 5 (dC (.int 0))) (bh (oK (nList (wA (dV 0) (cL (ag bU (dV 1) (dC (.int 1)))) (cL (ag bU (dV 1) (dV 2))))) (bN 6) (km F_law_folded bP F_law_cell_at aA)) (bh (Kh 4) (cE (aN F_law_folded (aa (a6 4) (aa (aN F_law_cell_at (aa (a6 0) (aa (dC (.int 1)) aH))) aH))))))))
def F_law_built:List PV->Option PV:=fn false 9 4 (sx F_law_folded bP F_law_cell_at aA)
def kW(F_law_cell_at:List PV->Option PV):aR:=(bh (b8 2 (ag bY (aN F_law_cell_at (aa (a6 0) (aa (dC (.int 4)) aH))) (bW cQ (dV 1)))) (bh (oo (oF (tV (ag FT (bW cQ (dV 1)) (dC (.int 1)))) (tV (ag oq (ag bY (ag ij (aN F_law_cell_at (aa (a6 0) (aa (dC (.int 4)) aH))) (dC (.int 6))) (dC (.int 4))) (dC (.int 1))))) (cE (ag Ms (HW (a6 1) fw (cL (dV 2))) (HW (a6 1) (cL (ag bU (dV 2) (dC (.int 1)))) fw))) fz) (bh (b8 3 (bM (sZ (dV 1)) (oF (tV (ag FR (bW cQ (dV 0)) (dC (.int 20)))) (tV (ag ik (ag bU (dV 0) (dC (.str "q"))) (dV 2)))) (ag bU (dV 0) (dC (.str "q"))))) (cE (bW xS (ag bU (wA (dV 3) fw (cL (dC (.int 1)))) (i6 (aa (dC (.str "zz")) (aa (dC (.str "y")) aH)))))))))
def F_law_other_roll:List PV->Option PV:=fn false 4 2 (kW F_law_cell_at)
def ip(F_law_names_in:List PV->Option PV):aR:=(b8 1 (ag bU (dV 1) (aN F_law_names_in (aa (a6 2) aH))))
def vh(F_law_names_in:List PV->Option PV):aR:=(bh (oo (tV (ag pW (ag jA (dV 0) (dC (.int 0))) (dC (.str "hand")))) (cE (i6 (aa (ag jA (dV 0) (dC (.int 1))) aH))) fz) (bh (b8 1 (i6 aH)) (bh (oK (sZ (ag jA (dV 0) (bW lj (dC (.int 1))))) (bN 2) (ip F_law_names_in)) (cE (a6 1)))))
def df:Nat->List PV->Option PV
 |0=>λ_=>none
 |n+1=>fn false 3 1 (vh (df n))
def F_law_names_in:List PV->Option PV:=df 24
def F_law_asked:List PV->Option PV:=B0 jH eN ["NoHand"]
def Ax(bx:List PV->Option PV):aR:=(bh (oo (tV (ag pW (ag jA (dV 0) (dC (.int 0))) (dC (.str "hand")))) (cE (ag pW (ag sX (ag GR (dV 2) (ag xT (dV 1) (ag jA (dV 0) (dC (.int 1))))) (dC (.int 1))) (dC (.int 1)))) fz) (bh (b8 3 (bW cQ (bM (sZ (ag jA (dV 0) (bW lj (dC (.int 1))))) (tV (aN bx (aa (a6 0) (aa (a6 2) (aa (a6 3) aH))))) (a6 0)))) (bh (oo (tV (ag pW (ag jA (dV 0) (dC (.int 0))) (dC (.str "all")))) (cE (ag pW (dV 3) (bW cQ (ag jA (dV 0) (dC (.int 1)))))) fz) (bh (oo (tV (ag pW (ag jA (dV 0) (dC (.int 0))) (dC (.str "any")))) (cE (ag FT (dV 3) (dC (.int 0)))) fz) (cE (ag Pl (dV 3) (ag jA (dV 0) (dC (.int 1)))))))))
def cR:Nat->List PV->Option PV
 |0=>λ_=>none
 |n+1=>fn false 4 3 (Ax (cR n))
def bx:List PV->Option PV:=cR 24
def oy(F_law_asked bx:List PV->Option PV):aR:=(bh (b8 7 (bM (nList (dV 6)) (tV (ag pW (ag sX (dV 0) (dV 4)) (dV 0))) (a6 0))) (oo (tV (ag oq (aN bx (aa (a6 1) (aa (a6 2) (aa (a6 3) aH)))) (ag oq (dV 7) (i6 aH)))) (cE (dC (.bl false))) fz))
def oz(F_law_asked bx:List PV->Option PV):aR:=(bh (u9 4 5 F_law_asked (aa (a6 0) (aa (dC (.int 0)) (aa (a6 2) (aa (a6 3) aH))))) (oo (FJ (tV (ag oq (dV 5) (i6 aH))) (FJ (qQ (tV (bW (Pm 1) (dV 4)))) (tV (ag oq (dV 4) (aN bx (aa (a6 1) (aa (a6 2) (aa (a6 3) aH)))))))) (cE (dC (.bl false))) fz))
def sA(F_law_asked bx:List PV->Option PV):aR:=(bh (oK (je (ag sW (dC (.int 1)) (bW cQ (dV 2)))) (bN 3) (oz F_law_asked bx)) (bh (u9 6 5 F_law_asked (aa (a6 0) (aa (dC (.int 1)) (aa (a6 2) (aa (dC (.int 0)) aH))))) (bh (oo (FJ (tV (ag oq (dV 5) (i6 aH))) (qQ (tV (bW (Pm 3) (dV 6))))) (cE (dC (.bl false))) fz) (bh (oK (je (ag sW (dC (.int 1)) (bW cQ (dV 2)))) (bN 3) (oy F_law_asked bx)) (bh (oJ 6 BF aH) (cE (dC (.bl true))))))))
def F_law_right:List PV->Option PV:=fn false 8 3 (sA F_law_asked bx)
def Eb(F_law_roll F_law_built F_law_other_roll F_law_cell_at F_law_names_in F_law_right F_law_asked:List PV->Option PV):aR:=(oo (tV (ag oq (ag jA (aN F_law_asked (aa (a6 2) (aa (a6 12) (aa (a6 6) (aa (a6 9) aH))))) (dC (.int 1))) (i6 (aa (dC (.str "NoHand")) aH)))) (cE (dC (.bl false))) fz)
def yx(F_law_roll F_law_built F_law_other_roll F_law_cell_at F_law_names_in F_law_right F_law_asked:List PV->Option PV):aR:=(oo (oF (tV (ag HZ (dV 11) (dV 6))) (tV (a6 7))) (oK (nList (i6 (aa (ag bY (ag ij (dV 8) (dC (.int 3))) (dC (.int 2))) (aa (ag zF (dC (.int 1)) (ag bY (ag ij (dV 8) (dC (.int 3))) (dC (.int 2)))) aH)))) (bN 12) (Eb F_law_roll F_law_built F_law_other_roll F_law_cell_at F_law_names_in F_law_right F_law_asked)) (oo (qQ (tV (aN F_law_right (aa (a6 2) (aa (a6 3) (aa (a6 11) aH)))))) (cE (dC (.bl false))) fz))
def Mw(F_law_roll F_law_built F_law_other_roll F_law_cell_at F_law_names_in F_law_right F_law_asked:List PV->Option PV):aR:=(bh (b8 1 (aN F_law_roll (aa (a6 0) aH))) (bh (NO (Du [(bN 2),(bN 3),(bN 4),(bN 5)]) (aN F_law_built (aa (a6 0) (aa (dC (.int 6)) (aa (dC (.int 20)) (aa (a6 1) aH)))))) (bh (b8 6 (aN F_law_other_roll (aa (a6 0) (aa (a6 1) aH)))) (bh (b8 7 (ag oq (bM (nList (aN F_law_names_in (aa (a6 3) aH))) (tV (ag ik (dV 0) (dV 7))) (a6 0)) (i6 aH))) (bh (b8 8 (aN F_law_cell_at (aa (a6 0) (aa (dC (.int 5)) aH)))) (bh (b8 9 (ag bY (ag ij (dV 8) (dC (.int 6))) (ag sW (dC (.int 1)) (bW cQ (dV 6))))) (bh (b8 10 (i6 (aa (a6 6) (aa (bW HY (a6 1)) (aa (a6 1) (aa (a6 6) aH)))))) (bh (oK (nList (ag bU (wA (dV 10) (cL (ag bY (dV 8) (dC (.int 3)))) fw) (wA (dV 10) fw (cL (ag bY (dV 8) (dC (.int 3))))))) (bN 11) (yx F_law_roll F_law_built F_law_other_roll F_law_cell_at F_law_names_in F_law_right F_law_asked)) (cE (bW QN (dV 2)))))))))))
def Ec:List PV->Option PV:=fn false 13 1 (Mw F_law_roll F_law_built F_law_other_roll F_law_cell_at F_law_names_in F_law_right F_law_asked)
def top(i:Nat):Stmt:=PySem.Challenge.pw_signright_k26_other_rolls.main.body.getD i (.Pass ⟨0,0,0,0⟩)
def c8(i j:Nat):Stmt:=KN (top i) j
structure Bl(mg:Str->Option Value):Prop where
 ValueError:mg "ValueError" =none
 any:mg "any" =none
 bool:mg "bool" =none
 isinstance:mg "isinstance" =none
 len:mg "len" =none
 list:mg "list" =none
 max:mg "max" =none
 range:mg "range" =none
 sorted:mg "sorted" =none
 str:mg "str" =none
 tuple:mg "tuple" =none
 g_MOST_HANDS:∃t,mg "MOST_HANDS" =some (.int 6 t)
def FL(K:PySem.W.Frag)(f:Addr)(x q:Str)(st:Stmt):Prop:=∃(oc:Value) (od:Option Addr) (sl:Array (Option Value)) (kV dc pm:Value) (an:Option Addr) (cd ct:Value),K.lookup f=some ⟨oc,od,.func (PySem.W.fnOf x q (nR st) (ji st) (ao st) .none kV dc pm an cd ct),sl⟩/\PySem.W.codeIn K cd q=true/\PySem.W.keepIn K (.ref f)=true
theorem mT{K:PySem.W.Frag}{f:Addr}{x q:Str}{st:Stmt}{oc kV dc pm cd ct:Value}{od an:Option Addr}{sl:Array (Option Value)}(l:K.lookup f=some ⟨oc,od,.func (PySem.W.fnOf x q (nR st) (ji st) (ao st) .none kV dc pm an cd ct),sl⟩)(c:PySem.W.codeIn K cd q=true)(k:PySem.W.keepIn K (.ref f)=true):FL K f x q st:=⟨_,_,_,_,_,_,_,_,_,l,c,k⟩
theorem a7{K:PySem.W.Frag}{f:Addr}{x q:Str}{st:Stmt}(h:FL K f x q st):∃fd,L2.Jr K x q st f fd:=by
 obtain⟨_,_,_,_,_,_,_,_,_,l,c,k⟩:=h
 exact⟨_,Nn l c k⟩
structure Ed(K:PySem.W.Frag)(mg:Str->Option Value)(x:Str)(st:Stmt)(ps:List Str)(f:Addr)(fd:FuncData):Prop where
 F:L2.Jr K x x st f fd
 b:L2.Binds K fd ps []
 m:mg x=some (.ref f)
structure Zx(K:PySem.W.Frag)(mg:Str->Option Value)(bR fK ak d8 fL iH dD d9 ef:Addr):Prop where
 m_SignError:mg "SignError" =some (.ref bR)
 m_NoRoll:mg "NoRoll" =some (.ref fK)
 m_NoHand:mg "NoHand" =some (.ref ak)
 m_NoGroup:mg "NoGroup" =some (.ref d8)
 m_NoRule:mg "NoRule" =some (.ref fL)
 m_NoDay:mg "NoDay" =some (.ref iH)
 m_NoDeputy:mg "NoDeputy" =some (.ref dD)
 m_NoEntry:mg "NoEntry" =some (.ref d9)
 m_Unruled:mg "Unruled" =some (.ref ef)
 e_NoHand:Aa K ak
 x_NoHand:vW K ak
 b_NoHand:Below K bR ak
 k_NoHand_NoRoll:PySem.W.kitOne K (.ref ak) (.ref fK)=some false
 k_NoHand_NoHand:PySem.W.kitOne K (.ref ak) (.ref ak)=some true
 k_NoHand_NoGroup:PySem.W.kitOne K (.ref ak) (.ref d8)=some false
 k_NoHand_NoRule:PySem.W.kitOne K (.ref ak) (.ref fL)=some false
 k_NoHand_NoDay:PySem.W.kitOne K (.ref ak) (.ref iH)=some false
 k_NoHand_NoDeputy:PySem.W.kitOne K (.ref ak) (.ref dD)=some false
 k_NoHand_NoEntry:PySem.W.kitOne K (.ref ak) (.ref d9)=some false
 k_NoHand_Unruled:PySem.W.kitOne K (.ref ak) (.ref ef)=some false
 k_NoHand_ValueError:PySem.W.kitOne K (.ref ak) (.type "ValueError")=some true
section
variable{P:Program}{w:World}{K:PySem.W.Frag}{mg:Str->Option Value}{base:Heap}{κ:Kl}{CR CC jJ jK jL jM iq:Addr}{Ay Az AA AB xg:FuncData}{fU fV jl eO lE lF eP ir lG cm aK aM b6 cS a9 fW fX eQ fZ cy dX f6 eR cq b7 eS dr dt eT AD:Addr}{iR iS jN fq lH mU gK jO lI cC dJ eG fP iI bp iT iU gL iV cX fM iW gM du cJ gN dY dZ gO yy:FuncData}{bR fK ak d8 fL iH dD d9 ef:Addr}
theorem sC:aT ["group","hand"] ["group","hand"] (ao (top 13)):=⟨rfl,rfl,rfl,by decide+kernel,rfl,by decide+kernel,by decide+kernel⟩
theorem AE(B:Bl mg)(eU:Ed K mg "has_hand" (top 13) ["group","hand"] fU iR):aL P w K mg base cP 1 fU iR ["group","hand"] (d5 K κ false fR):=
 b5 eU.F sC λcD A outer s H E hr=>have nd:=sC.nd;(aG (bZ (ll (kP hr (DE.b (xX (DE.b (G1 (af 0) (af 1))) (DE.b aj))) (DE.b aj)))))
theorem sD:aT ["group"] ["group"] (ao (top 14)):=⟨rfl,rfl,rfl,by decide+kernel,rfl,by decide+kernel,by decide+kernel⟩
theorem AF(B:Bl mg)(eV:Ed K mg "hands_of" (top 14) ["group"] fV iS)(eU:Ed K mg "has_hand" (top 13) ["group","hand"] fU iR)(oW:aL P w K mg base cP 1 fU iR ["group","hand"] (d5 K κ false fR)):aL P w K mg base cP 2 fV iS ["group"] (d5 K κ true fT):=
 b5 eV.F sD λcD A outer s H E hr=>have nd:=sD.nd;(aG (x5 (kO (G7 (DE.b (Kv (af 0))) B.range) (ao (top 14)) ["group"] ["group"] (λex C s H=>(mH (bG (oW.mono (by decide)) hr eU.m eU.F.kp eU.b (ae (au 1) (ae (au 0) aF))))) (λex C s H=>(au 0)))))
theorem AG:aT ["group","hands"] ["group"] (ao (top 16)):=⟨rfl,rfl,rfl,by decide+kernel,rfl,by decide+kernel,by decide+kernel⟩
theorem IG(B:Bl mg)(gQ:Ed K mg "place" (top 16) ["group"] jl jN)(eV:Ed K mg "hands_of" (top 14) ["group"] fV iS)(oX:aL P w K mg base cP 2 fV iS ["group"] (d5 K κ true fT)):aL P w K mg base cP 3 jl jN ["group"] (d5 K κ false F_place):=
 b5 gQ.F AG λcD A outer s H E hr=>have nd:=AG.nd;(ar (bu 1 nd (DO.e (tJ (oX.mono (by decide)) hr eV.m eV.F.kp eV.b (ae (au 0) aF)))) (aG (bZ (kh (ae (dU (af 1) B.len) (ae (au 1) aF))))))
theorem xh:aT ["one","two"] ["one","two"] (ao (top 17)):=⟨rfl,rfl,rfl,by decide+kernel,rfl,by decide+kernel,by decide+kernel⟩
theorem Fm(B:Bl mg)(cM:Ed K mg "within" (top 17) ["one","two"] eO fq):aL P w K mg base cP 1 eO fq ["one","two"] (d5 K κ false dj):=
 b5 cM.F xh λcD A outer s H E hr=>have nd:=xh.nd;(aG (bZ (ll (kP hr (DE.b (xX (af 0) (af 1))) (af 0)))))
theorem Ee:aT ["ladder","group"] ["ladder","group"] (ao (top 20)):=⟨rfl,rfl,rfl,by decide+kernel,rfl,by decide+kernel,by decide+kernel⟩
theorem Lj(B:Bl mg)(iu:Ed K mg "lets" (top 20) ["ladder","group"] lE lH)(cM:Ed K mg "within" (top 17) ["one","two"] eO fq)(gT:aL P w K mg base cP 1 eO fq ["one","two"] (d5 K κ false dj)):aL P w K mg base cP 2 lE lH ["ladder","group"] (d5 K κ false bV):=
 b5 iu.F Ee λcD A outer s H E hr=>have nd:=Ee.nd;(aG (bZ (N1 (DO.b (p8 (fJ (af 0)) (ao (top 20)) ["ladder","group"] ["ladder","group"] (λex C s H=>(bG (gT.mono (by decide)) hr cM.m cM.F.kp cM.b (ae (au 0) (ae (au 2) aF)))))) B.any)))
theorem AH:aT ["groups","ladder","group"] ["groups"] (ao (top 21)):=⟨rfl,rfl,rfl,by decide+kernel,rfl,by decide+kernel,by decide+kernel⟩
theorem IH(B:Bl mg)(j4:Ed K mg "least" (top 21) ["groups"] lF mU)(hK:gD F_place)(gQ:Ed K mg "place" (top 16) ["group"] jl jN)(n5:aL P w K mg base cP 3 jl jN ["group"] (d5 K κ false F_place))(iu:Ed K mg "lets" (top 20) ["ladder","group"] lE lH)(rB:aL P w K mg base cP 2 lE lH ["ladder","group"] (d5 K κ false bV)):aL P w K mg base cP 6 lF mU ["groups"] (d5 K κ true iG):=
 b5 j4.F AH λcD A outer s H E hr=>have nd:=AH.nd;(ar (pY 1 nd (fE aF)) (ar (lp (pZ (DO.e (BP n5 (hr.mono (by decide)) gQ.b hK B.sorted gQ.m (af 0)))) (eE 2 nd) (aG (hU (xY (mH (Ha (rB.mono (by decide)) hr iu.m iu.F.kp iu.b (zN (af 1) (zN (af 2) Kn))))) (aG (kM 1 (ae (au 2) aF))) eD))) (aG (Dz 1))))
theorem qt:aT ["count"] ["count"] (ao (top 18)):=⟨rfl,rfl,rfl,by decide+kernel,rfl,by decide+kernel,by decide+kernel⟩
theorem yz(B:Bl mg)(dO:Ed K mg "groups_of" (top 18) ["count"] eP gK)(hK:gD F_place)(gQ:Ed K mg "place" (top 16) ["group"] jl jN)(n5:aL P w K mg base cP 3 jl jN ["group"] (d5 K κ false F_place)):aL P w K mg base cP 6 eP gK ["count"] (d5 K κ true cB):=
 b5 dO.F qt λcD A outer s H E hr=>have nd:=qt.nd;(aG (x5 (BQ n5 (hr.mono (by decide)) gQ.b hK B.sorted B.range gQ.m (DE.b (uM (DE.b aj) (af 0))))))
theorem vi:aT ["ladders","group"] ["ladders","group"] (ao (top 22)):=⟨rfl,rfl,rfl,by decide+kernel,rfl,by decide+kernel,by decide+kernel⟩
theorem Cr(B:Bl mg)(gi:Ed K mg "letting" (top 22) ["ladders","group"] ir jO)(iu:Ed K mg "lets" (top 20) ["ladder","group"] lE lH)(rB:aL P w K mg base cP 2 lE lH ["ladder","group"] (d5 K κ false bV)):aL P w K mg base cP 3 ir jO ["ladders","group"] (d5 K κ false dM):=
 b5 gi.F vi λcD A outer s H E hr=>have nd:=vi.nd;(aG (bZ (dU (DO.b (kO (fJ (af 0)) (ao (top 22)) ["ladders","group"] ["ladders","group"] (λex C s H=>(mH (bG (rB.mono (by decide)) hr iu.m iu.F.kp iu.b (ae (au 0) (ae (au 2) aF))))) (λex C s H=>(au 0)))) B.len)))
theorem Ef:aT ["many","ladders"] ["many","ladders"] (ao (top 23)):=⟨rfl,rfl,rfl,by decide+kernel,rfl,by decide+kernel,by decide+kernel⟩
theorem Lk(B:Bl mg)(iv:Ed K mg "some" (top 23) ["many","ladders"] lG lI)(j4:Ed K mg "least" (top 21) ["groups"] lF mU)(yA:aL P w K mg base cP 6 lF mU ["groups"] (d5 K κ true iG))(dO:Ed K mg "groups_of" (top 18) ["count"] eP gK)(mV:aL P w K mg base cP 6 eP gK ["count"] (d5 K κ true cB))(gi:Ed K mg "letting" (top 22) ["ladders","group"] ir jO)(rC:aL P w K mg base cP 3 ir jO ["ladders","group"] (d5 K κ false dM)):aL P w K mg base cP 7 lG lI ["many","ladders"] (d5 K κ true kj):=
 b5 iv.F Ef λcD A outer s H E hr=>have nd:=Ef.nd;(aG (x5 (tJ (yA.mono (by decide)) hr j4.m j4.F.kp j4.b (ae (DO.e (kO (fJ (DO.b (tJ (mV.mono (by decide)) hr dO.m dO.F.kp dO.b (ae (He B.g_MOST_HANDS) aF)))) (ao (top 23)) ["many","ladders"] ["many","ladders"] (λex C s H=>(b9 (G3 (DE.b (bG (rC.mono (by decide)) hr gi.m gi.F.kp gi.b (ae (au 2) (ae (au 0) aF)))) (af 1)))) (λex C s H=>(au 0)))) aF))))
theorem sE:aT ["roll","names","group","name"] ["roll","names"] (ao (top 15)):=⟨rfl,rfl,rfl,by decide+kernel,rfl,by decide+kernel,by decide+kernel⟩
theorem AI(B:Bl mg)(bA:Ed K mg "group_of" (top 15) ["roll","names"] cm cC)(Z:Zx K mg bR fK ak d8 fL iH dD d9 ef):aL P w K mg base (nZ P w) 1 cm cC ["roll","names"] (FV K κ (λk=>[ak].getD k 0) bK):=
 mJ (λk=>[ak].getD k 0) bA.F sE λcD A outer s H E hr hp hx=>have nd:=sE.nd;(qh (Mn (bu 2 nd aj) HC) (qh (Om hp (pZ (au 1)) (eE 3 nd) (qh (Rk (b9 (uP (af 3) (af 0))) (lr (HE 0 Z.e_NoHand Z.m_NoHand (hx ak) (Rm (af 3)))) KP) (lr (Mn (bu 2 nd (QU (af 2) (DE.b (uM (DE.b aj) (DE.b (z8 (af 0) (af 3))))))) HC)))) (lr (HD (au 2)))))
theorem jg:aT ["self","roll"] ["self","roll"] (ao (c8 27 2)):=⟨rfl,rfl,rfl,by decide+kernel,rfl,by decide+kernel,by decide+kernel⟩
theorem fF{k0:Nat}{eN:Nat->List PV->Option PV}(AJ:8<=k0)(B:Bl mg)(aY:Em K "ladder" "Counting.ladder" (c8 27 2) ["self","roll"] aK dJ)(C:Cf K mg κ CR CC jJ jK jL jM iq)(gU:jD P w K mg base κ (λk=>[ak].getD k 0) "ladder" k0 ["self","roll"] eN)(iv:Ed K mg "some" (top 23) ["many","ladders"] lG lI)(mW:aL P w K mg base cP 7 lG lI ["many","ladders"] (d5 K κ true kj)):aL P w K mg base (nZ P w) (k0+1) aK dJ ["self","roll"] (FV K κ (λk=>[ak].getD k 0) (fn false 2 2 (cW kj eN))):=
 mJ (λk=>[ak].getD k 0) aY.F jg λcD A outer s H E hr hp hx=>have nd:=jg.nd;(lr (ye (E5 (mW.mono (ZB (by decide) AJ)) hr iv.m iv.F.kp iv.b (nY C.fld (C.wO _) (af 0)) (E6 leave_held rfl rfl (tH (DE.b (nY C.fld (C.wO _) (af 0)))) (ao (c8 27 2)) ["self","roll"] ["self","roll"] (λex C s H=>(Aj gU Ah hr (au 0) (ae (au 2) aF)))))))
theorem j5:aT ["self","roll","group","letting"] ["self","roll","group"] (ao (c8 27 1)):=⟨rfl,rfl,rfl,by decide+kernel,rfl,by decide+kernel,by decide+kernel⟩
theorem gW{k0:Nat}{jH:Nat->List PV->Option PV}(AJ:8<=k0)(B:Bl mg)(bq:Em K "lets" "Counting.lets" (c8 27 1) ["self","roll","group"] aM eG)(C:Cf K mg κ CR CC jJ jK jL jM iq)(lK:jD P w K mg base κ (λk=>[ak].getD k 0) "lets" k0 ["self","roll","group"] jH):aL P w K mg base (nZ P w) (k0+1) aM eG ["self","roll","group"] (FV K κ (λk=>[ak].getD k 0) (fn false 4 3 (dN jH))):=
 mJ (λk=>[ak].getD k 0) bq.F j5 λcD A outer s H E hr hp hx=>have nd:=j5.nd;(qh (HQ (i:=3) leave_held rfl rfl nd (tH (DE.b (nY C.fld (C.wO _) (af 0)))) (ao (c8 27 1)) ["self","roll","group","letting"] ["self","roll","group","letting"] (λex C s H=>(Aj lK Ah hr (au 0) (ae (au 2) (ae (au 3) aF)))) (λex C s H=>(au 0))) (lr (HD (ll (G3 (DE.b (dU (af 3) B.len)) (DE.b (nY C.fld (C.wO _) (af 0))))))))
theorem me:aT ["self","roll"] ["self","roll"] (ao (c8 26 4)):=⟨rfl,rfl,rfl,by decide+kernel,rfl,by decide+kernel,by decide+kernel⟩
theorem tf{k0:Nat}(AJ:8<=k0)(B:Bl mg)(cY:Em K "ladder" "Hand.ladder" (c8 26 4) ["self","roll"] b6 fP)(C:Cf K mg κ CR CC jJ jK jL jM iq)(bA:Ed K mg "group_of" (top 15) ["roll","names"] cm cC)(cK:aL P w K mg base (nZ P w) 1 cm cC ["roll","names"] (FV K κ (λk=>[ak].getD k 0) bK)):aL P w K mg base (nZ P w) (k0+1) b6 fP ["self","roll"] (FV K κ (λk=>[ak].getD k 0) (fn false 2 2 (mS bK))):=
 mJ (λk=>[ak].getD k 0) cY.F me λcD A outer s H E hr hp hx=>have nd:=me.nd;(lr (ye (HP (Ai (cK.mono (ZB (by decide) AJ)) Ad hr bA.m bA.F.kp bA.b (ae (au 1) (ae (DO.e (fE (ae (nY C.fld (C.wO _) (af 0)) aF))) aF))))))
theorem oA:aT ["self","roll","group"] ["self","roll","group"] (ao (c8 26 3)):=⟨rfl,rfl,rfl,by decide+kernel,rfl,by decide+kernel,by decide+kernel⟩
theorem v7{k0:Nat}(AJ:8<=k0)(B:Bl mg)(d0:Em K "lets" "Hand.lets" (c8 26 3) ["self","roll","group"] cS iI)(C:Cf K mg κ CR CC jJ jK jL jM iq)(cM:Ed K mg "within" (top 17) ["one","two"] eO fq)(gT:aL P w K mg base cP 1 eO fq ["one","two"] (d5 K κ false dj))(bA:Ed K mg "group_of" (top 15) ["roll","names"] cm cC)(cK:aL P w K mg base (nZ P w) 1 cm cC ["roll","names"] (FV K κ (λk=>[ak].getD k 0) bK)):aL P w K mg base (nZ P w) (k0+1) cS iI ["self","roll","group"] (FV K κ (λk=>[ak].getD k 0) (fn false 3 3 (qq dj bK))):=
 mJ (λk=>[ak].getD k 0) d0.F oA λcD A outer s H E hr hp hx=>have nd:=oA.nd;(lr (ye (E4 (gT.mono (ZB (by decide) AJ)) hr cM.m cM.F.kp cM.b (Ai (cK.mono (ZB (by decide) AJ)) Ad hr bA.m bA.F.kp bA.b (ae (au 1) (ae (DO.e (fE (ae (nY C.fld (C.wO _) (af 0)) aF))) aF))) (ae (au 2) aF))))
theorem mX:aT ["_law_script","_law_k"] ["_law_script","_law_k"] (ao (top 32)):=⟨rfl,rfl,rfl,by decide+kernel,rfl,by decide+kernel,by decide+kernel⟩
theorem vj(B:Bl mg)(aq:Ed K mg "_law_cell_at" (top 32) ["_law_script","_law_k"] a9 bp):aL P w K mg base cP 1 a9 bp ["_law_script","_law_k"] (d5 K κ false F_law_cell_at):=
 b5 aq.F mX λcD A outer s H E hr=>have nd:=mX.nd;(ar (hU (b9 (G2 (af 1) (DE.b (dU (af 0) B.len)))) (aG (bZ (eF (af 0) (af 1)))) eD) (aG (bZ aj)))
theorem sF:aT ["_law_base_here","_law_place","_law_size","_law_k","_law_letters","_law_other"] ["_law_base_here","_law_place","_law_size","_law_k"] (ao (top 34)):=⟨rfl,rfl,rfl,by decide+kernel,rfl,by decide+kernel,by decide+kernel⟩
theorem AK(B:Bl mg)(eW:Ed K mg "_law_name" (top 34) ["_law_base_here","_law_place","_law_size","_law_k"] fW iT):aL P w K mg base cP 1 fW iT ["_law_base_here","_law_place","_law_size","_law_k"] (d5 K κ false bO):=
 b5 eW.F sF λcD A outer s H E hr=>have nd:=sF.nd;(ar (bu 4 nd bL) (ar (bu 5 nd (eF (af 4) (DE.b (ck (DE.b (bJ (DE.b (KA (af 4) (DE.b (eF (af 0) (af 1))))) (DE.b (rf (DE.b aj) (af 3))))) (DE.b aj))))) (aG (bZ (bJ (DE.b (bJ (DE.b (nX (af 0) fO (dI (af 1)))) (af 5))) (DE.b (nX (af 0) (dI (DE.b (bJ (af 1) (DE.b aj)))) (dI (af 2)))))))))
theorem sG:aT ["_law_cell","_law_size","_law_number","_law_found","_law_k"] ["_law_cell","_law_size"] (ao (top 33)):=⟨rfl,rfl,rfl,by decide+kernel,rfl,by decide+kernel,by decide+kernel⟩
theorem AL(B:Bl mg)(eX:Ed K mg "_law_base" (top 33) ["_law_cell","_law_size"] fX iU):aL P w K mg base cP 1 fX iU ["_law_cell","_law_size"] (d5 K κ false F_law_base):=
 b5 eX.F sG λcD A outer s H E hr=>have nd:=sG.nd;(ar (bu 2 nd (ck (DE.b (bJ (DE.b (rf (DE.b (ck (af 0) (DE.b aj))) (DE.b aj))) (DE.b aj))) (DE.b aj))) (ar (bu 3 nd bL) (ar (lp (tI (af 1) B.range) (eE 4 nd) (ar (bu 2 nd (ck (DE.b (bJ (DE.b (bJ (DE.b (bJ (DE.b (rf (af 2) (af 2))) (DE.b (rf (DE.b aj) (af 2))))) (af 4))) (DE.b aj))) (DE.b aj))) (aG (bu 3 nd (bJ (af 3) (DE.b (eF (DE.b bL) (DE.b (ck (af 2) (DE.b aj)))))))))) (aG (bZ (au 3))))))
theorem qu:aT ["_law_script","_law_at","_law_many","_law_cell","_law_size","_law_more","_law_word","_law_base_here","_law_names_here","_law_k","_law_name_here"] ["_law_script","_law_at","_law_many"] (ao (top 35)):=⟨rfl,rfl,rfl,by decide+kernel,rfl,by decide+kernel,by decide+kernel⟩
theorem yB(B:Bl mg)(dP:Ed K mg "_law_names" (top 35) ["_law_script","_law_at","_law_many"] eQ gL)(aq:Ed K mg "_law_cell_at" (top 32) ["_law_script","_law_k"] a9 bp)(aQ:aL P w K mg base cP 1 a9 bp ["_law_script","_law_k"] (d5 K κ false F_law_cell_at))(eW:Ed K mg "_law_name" (top 34) ["_law_base_here","_law_place","_law_size","_law_k"] fW iT)(oY:aL P w K mg base cP 1 fW iT ["_law_base_here","_law_place","_law_size","_law_k"] (d5 K κ false bO))(eX:Ed K mg "_law_base" (top 33) ["_law_cell","_law_size"] fX iU)(oZ:aL P w K mg base cP 1 fX iU ["_law_cell","_law_size"] (d5 K κ false F_law_base)):aL P w K mg base cP 2 eQ gL ["_law_script","_law_at","_law_many"] (d5 K κ true gg):=
 b5 dP.F qu λcD A outer s H E hr=>have nd:=qu.nd;(ar (bu 3 nd (bG (aQ.mono (by decide)) hr aq.m aq.F.kp aq.b (ae (au 0) (ae (au 1) aF)))) (ar (bu 4 nd (bJ (DE.b aj) (DE.b (ck (af 3) (DE.b aj))))) (ar (bu 5 nd (bG (aQ.mono (by decide)) hr aq.m aq.F.kp aq.b (ae (au 0) (ae (bJ (af 1) (DE.b aj)) aF)))) (ar (bu 6 nd (eF (DO.b (fE (ae bL (ae bL (ae bL (ae bL (ae bL (ae bL (ae bL (ae bL aF)))))))))) (DE.b (ck (af 5) (DE.b aj))))) (ar (bu 7 nd (nX (DE.b (bJ (af 6) (DE.b (bG (oZ.mono (by decide)) hr eX.m eX.F.kp eX.b (ae (jB (af 5) (DE.b aj)) (ae aj aF)))))) fO (dI (DE.b aj)))) (ar (pY 8 nd (fE aF)) (ar (lp (tI (af 2) B.range) (eE 9 nd) (ar (bu 10 nd (bG (oY.mono (by decide)) hr eW.m eW.F.kp eW.b (ae (au 7) (ae (ck (DE.b (jB (af 3) (DE.b aj))) (af 4)) (ae (au 4) (ae (au 9) aF)))))) (ar (hU (b9 (kP hr (DE.b (ck (DE.b (jB (af 3) (DE.b aj))) (DE.b aj))) (DE.b aj))) (aG (bu 10 nd (nX (af 7) fO (dI (DE.b (bJ (af 9) (DE.b aj))))))) eD) (ar (hU (b9 (Q0 (af 10) (DE.b (kh (ae bL (ae bL (ae bL aF))))))) (aG (bu 10 nd (KL (af 10) (DE.b (oM (DE.b aj)))))) eD) (aG (kM 8 (ae (au 10) aF))))))) (aG (Dz 8)))))))))
theorem sH:aT ["_law_script"] ["_law_script"] (ao (top 36)):=⟨rfl,rfl,rfl,by decide+kernel,rfl,by decide+kernel,by decide+kernel⟩
theorem AM(B:Bl mg)(eY:Ed K mg "_law_roll" (top 36) ["_law_script"] fZ iV)(dP:Ed K mg "_law_names" (top 35) ["_law_script","_law_at","_law_many"] eQ gL)(mY:aL P w K mg base cP 2 eQ gL ["_law_script","_law_at","_law_many"] (d5 K κ true gg))(aq:Ed K mg "_law_cell_at" (top 32) ["_law_script","_law_k"] a9 bp)(aQ:aL P w K mg base cP 1 a9 bp ["_law_script","_law_k"] (d5 K κ false F_law_cell_at)):aL P w K mg base cP 3 fZ iV ["_law_script"] (d5 K κ false F_law_roll):=
 b5 eY.F sH λcD A outer s H E hr=>have nd:=sH.nd;(aG (bZ (uZ (DO.b (tJ (mY.mono (by decide)) hr dP.m dP.F.kp dP.b (ae (au 0) (ae aj (ae (bJ (DE.b aj) (DE.b (ck (DE.b (bG (aQ.mono (by decide)) hr aq.m aq.F.kp aq.b (ae (au 0) (ae aj aF)))) (DE.b aj)))) aF))))) B.tuple)))
theorem mZ:aT ["_law_kind","_law_many","_law_items","_law_parts","_law_shapes","_law_texts","_law_deep","_law_found"] ["_law_kind","_law_many","_law_items"] (ao (top 38)):=⟨rfl,rfl,rfl,by decide+kernel,rfl,by decide+kernel,by decide+kernel⟩
theorem vk(B:Bl mg)(bE:Ed K mg "_law_counted" (top 38) ["_law_kind","_law_many","_law_items"] cy cX)(C:Cf K mg κ CR CC jJ jK jL jM iq)(OE:aL P w K mg base cP 2 jK Az ["self","parts"] (qg K (κ.adr 1) λys=>(ys.length:Nat)))(OF:Binds K Az ["self","parts"] [])(OG:aL P w K mg base cP 2 jL AA ["self","parts"] (qg K (κ.adr 2) λ_=>1))(OH:Binds K AA ["self","parts"] [])(OI:aL P w K mg base cP 2 jM AB ["self","many","parts"] (qf K (κ.adr 3)))(OJ:Binds K AB ["self","many","parts"] []):aL P w K mg base cP 6 cy cX ["_law_kind","_law_many","_law_items"] (d5 K κ false aA):=
 b5 bE.F mZ λcD A outer s H E hr=>have nd:=mZ.nd;(ar (Hj 3 nd (fJ (af 2)) (ao (top 38)) ["_law_kind","_law_many","_law_items","_law_parts","_law_shapes","_law_texts","_law_deep","_law_found"] ["_law_kind","_law_many","_law_items","_law_parts","_law_shapes","_law_texts","_law_deep","_law_found"] (λex C s H=>(eF (af 0) (DE.b aj)))) (ar (bu 4 nd (uZ (DO.b (p8 (fJ (af 2)) (ao (top 38)) ["_law_kind","_law_many","_law_items","_law_parts","_law_shapes","_law_texts","_law_deep","_law_found"] ["_law_kind","_law_many","_law_items","_law_parts","_law_shapes","_law_texts","_law_deep","_law_found"] (λex C s H=>(eF (af 0) (DE.b aj))))) B.tuple)) (ar (bu 5 nd (bJ (DE.b (KD (DE.b bL) (DO.b (p8 (fJ (af 2)) (ao (top 38)) ["_law_kind","_law_many","_law_items","_law_parts","_law_shapes","_law_texts","_law_deep","_law_found"] ["_law_kind","_law_many","_law_items","_law_parts","_law_shapes","_law_texts","_law_deep","_law_found"] (λex C s H=>(eF (af 0) (DE.b aj))))))) (DE.b bL))) (ar (bu 6 nd (bJ (DE.b aj) (DE.b (D0 (DO.b (p8 (fJ (af 2)) (ao (top 38)) ["_law_kind","_law_many","_law_items","_law_parts","_law_shapes","_law_texts","_law_deep","_law_found"] ["_law_kind","_law_many","_law_items","_law_parts","_law_shapes","_law_texts","_law_deep","_law_found"] (λex C s H=>(eF (af 0) (DE.b aj))))) B.max)))) (ar (hU (b9 (kP hr (af 0) (DE.b aj))) (aG (bu 7 nd (kh (ae (Hq C.kA OE (by rw[C.fld];rfl) (hr.mono (by decide)) C.gA OF (af 3)) (ae (kh (ae bL (ae (au 4) aF))) (ae (bJ (DE.b bL) (af 5)) (ae (au 6) aF))))))) (aG (hU (b9 (kP hr (af 0) (DE.b aj))) (aG (bu 7 nd (kh (ae (Hr C.kY OG (by rw[C.fld];rfl) (hr.mono (by decide)) C.gY OH (af 3)) (ae (kh (ae bL (ae (au 4) aF))) (ae (bJ (DE.b bL) (af 5)) (ae (au 6) aF))))))) (aG (bu 7 nd (kh (ae (EZ C.kS OI (by rw[C.fld];rfl) (hr.mono (by decide)) C.gS OJ (af 1) (af 3)) (ae (kh (ae bL (ae (au 1) (ae (au 4) aF)))) (ae (bJ (DE.b (bJ (DE.b (KG (af 1) B.str)) (DE.b bL))) (af 5)) (ae (au 6) aF)))))))))) (ar (zO 3) (aG (bZ (au 7)))))))))
theorem oB:aT ["_law_pile","_law_cell","_law_number","_law_items"] ["_law_pile","_law_cell"] (ao (top 39)):=⟨rfl,rfl,rfl,by decide+kernel,rfl,by decide+kernel,by decide+kernel⟩
theorem v8(B:Bl mg)(dv:Ed K mg "_law_folded" (top 39) ["_law_pile","_law_cell"] dX fM)(bE:Ed K mg "_law_counted" (top 38) ["_law_kind","_law_many","_law_items"] cy cX)(eh:aL P w K mg base cP 6 cy cX ["_law_kind","_law_many","_law_items"] (d5 K κ false aA)):aL P w K mg base cP 7 dX fM ["_law_pile","_law_cell"] (d5 K κ false F_law_folded):=
 b5 dv.F oB λcD A outer s H E hr=>have nd:=oB.nd;(ar (bu 2 nd (bJ (DE.b aj) (DE.b (ck (af 1) (DE.b aj))))) (ar (G8 1000 (b9 (zL (DE.b (dU (af 0) B.len)) (DE.b aj))) (ar (bu 2 nd (ck (DE.b (bJ (DE.b (rf (af 2) (af 2))) (DE.b (rf (DE.b aj) (af 2))))) (DE.b aj))) (ar (bu 3 nd (DO.e (iP (af 0) (dI (DE.b (oM (DE.b aj)))) fO))) (ar (pY 0 nd (iP (af 0) fO (dI (DE.b (oM (DE.b aj)))))) (aG (kM 0 (ae (bG (eh.mono (by decide)) hr bE.m bE.F.kp bE.b (ae (ck (af 2) (DE.b aj)) (ae (bJ (DE.b aj) (DE.b (ck (DE.b (jB (af 2) (DE.b aj))) (DE.b (dU (af 3) B.len))))) (ae (au 3) aF)))) aF))))))) (aG (bZ (eF (af 0) (DE.b aj))))))
theorem sI:aT ["_law_name_here"] ["_law_name_here"] (ao (top 37)):=⟨rfl,rfl,rfl,by decide+kernel,rfl,by decide+kernel,by decide+kernel⟩
theorem AN(B:Bl mg)(cZ:Ed K mg "_law_hand" (top 37) ["_law_name_here"] f6 iW)(C:Cf K mg κ CR CC jJ jK jL jM iq)(OK:aL P w K mg base cP 1 jJ Ay ["self","name"] (uX (κ.adr 0)))(OL:Binds K Ay ["self","name"] []):aL P w K mg base cP 6 f6 iW ["_law_name_here"] (d5 K κ false bP):=
 b5 cZ.F sI λcD A outer s H E hr=>have nd:=sI.nd;(aG (bZ (kh (ae (EY C.kH OK (by rw[C.fld];rfl) (hr.mono (by decide)) C.gH OL (af 0)) (ae (kh (ae bL (ae (au 0) aF))) (ae (au 0) (ae aj aF)))))))
theorem qv:aT ["_law_script","_law_at","_law_size","_law_roll_here","_law_pile","_law_heads","_law_cell","_law_items","_law_deep"] ["_law_script","_law_at","_law_size","_law_roll_here"] (ao (top 40)):=⟨rfl,rfl,rfl,by decide+kernel,rfl,by decide+kernel,by decide+kernel⟩
theorem yC(B:Bl mg)(dQ:Ed K mg "_law_built" (top 40) ["_law_script","_law_at","_law_size","_law_roll_here"] eR gM)(dv:Ed K mg "_law_folded" (top 39) ["_law_pile","_law_cell"] dX fM)(lL:aL P w K mg base cP 7 dX fM ["_law_pile","_law_cell"] (d5 K κ false F_law_folded))(cZ:Ed K mg "_law_hand" (top 37) ["_law_name_here"] f6 iW)(lM:aL P w K mg base cP 6 f6 iW ["_law_name_here"] (d5 K κ false bP))(aq:Ed K mg "_law_cell_at" (top 32) ["_law_script","_law_k"] a9 bp)(aQ:aL P w K mg base cP 1 a9 bp ["_law_script","_law_k"] (d5 K κ false F_law_cell_at))(bE:Ed K mg "_law_counted" (top 38) ["_law_kind","_law_many","_law_items"] cy cX)(eh:aL P w K mg base cP 6 cy cX ["_law_kind","_law_many","_law_items"] (d5 K κ false aA)):aL P w K mg base cP 8 eR gM ["_law_script","_law_at","_law_size","_law_roll_here"] (d5 K κ false F_law_built):=
 b5 dQ.F qv λcD A outer s H E hr=>have nd:=qv.nd;(ar (pY 4 nd (fE (ae (bG (lM.mono (by decide)) hr cZ.m cZ.F.kp cZ.b (ae (eF (af 3) (DE.b (ck (DE.b (bG (aQ.mono (by decide)) hr aq.m aq.F.kp aq.b (ae (au 0) (ae (au 1) aF)))) (DE.b (dU (af 3) B.len))))) aF)) aF))) (ar (bu 5 nd aj) (ar (lp (pZ (DO.e (iP (af 0) (dI (DE.b (bJ (af 1) (DE.b aj)))) (dI (DE.b (bJ (af 1) (af 2))))))) (eE 6 nd) (ar (bu 7 nd (DO.e (iP (af 4) (dI (DE.b (oM (DE.b (bJ (DE.b aj) (DE.b (ck (DE.b (jB (af 6) (DE.b aj))) (DE.b aj)))))))) fO))) (ar (bu 8 nd (D0 (DO.b (p8 (fJ (af 7)) (ao (top 40)) ["_law_script","_law_at","_law_size","_law_roll_here","_law_pile","_law_heads","_law_cell","_law_items","_law_deep"] ["_law_script","_law_at","_law_size","_law_roll_here","_law_pile","_law_heads","_law_cell","_law_items","_law_deep"] (λex C s H=>(eF (af 0) (DE.b aj))))) B.max)) (aG (hU (DW.t (zM (b9 (G2 (DE.b (ck (af 6) (DE.b aj))) (DE.b aj))) (zM (b9 (zL (af 8) (DE.b aj))) (BK (b9 (zL (af 5) (DE.b aj))))))) (aG (kM 4 (ae (bG (lM.mono (by decide)) hr cZ.m cZ.F.kp cZ.b (ae (eF (af 3) (DE.b (ck (DE.b (jB (af 6) (DE.b aj))) (DE.b (dU (af 3) B.len))))) aF)) aF))) (ar (pY 4 nd (iP (af 4) fO (dI (DE.b (BJ (DE.b (dU (af 4) B.len)) (DE.b (dU (af 7) B.len))))))) (ar (kM 4 (ae (bG (eh.mono (by decide)) hr bE.m bE.F.kp bE.b (ae (BJ (DE.b (ck (af 6) (DE.b aj))) (DE.b aj)) (ae (bJ (DE.b aj) (DE.b (ck (DE.b (jB (af 6) (DE.b aj))) (DE.b (dU (af 7) B.len))))) (ae (au 7) aF)))) aF)) (aG (bu 5 nd (bJ (af 5) (DE.b aj))))))))))) (Kr 4 (aG (bZ (bG (lL.mono (by decide)) hr dv.m dv.F.kp dv.b (ae (au 4) (ae (bG (aQ.mono (by decide)) hr aq.m aq.F.kp aq.b (ae (au 0) (ae aj aF))) aF)))))))))
theorem j6:aT ["_law_script","_law_roll_here","_law_at","_law_longer"] ["_law_script","_law_roll_here"] (ao (top 44)):=⟨rfl,rfl,rfl,by decide+kernel,rfl,by decide+kernel,by decide+kernel⟩
theorem qw(B:Bl mg)(bS:Ed K mg "_law_other_roll" (top 44) ["_law_script","_law_roll_here"] cq du)(aq:Ed K mg "_law_cell_at" (top 32) ["_law_script","_law_k"] a9 bp)(aQ:aL P w K mg base cP 1 a9 bp ["_law_script","_law_k"] (d5 K κ false F_law_cell_at)):aL P w K mg base cP 2 cq du ["_law_script","_law_roll_here"] (d5 K κ false F_law_other_roll):=
 b5 bS.F j6 λcD A outer s H E hr=>have nd:=j6.nd;(ar (bu 2 nd (ck (DE.b (bG (aQ.mono (by decide)) hr aq.m aq.F.kp aq.b (ae (au 0) (ae aj aF)))) (DE.b (dU (af 1) B.len)))) (ar (hU (DW.t (BL (b9 (zL (DE.b (dU (af 1) B.len)) (DE.b aj))) (xZ (b9 (sj hr (DE.b (ck (DE.b (jB (DE.b (bG (aQ.mono (by decide)) hr aq.m aq.F.kp aq.b (ae (au 0) (ae aj aF)))) (DE.b aj))) (DE.b aj))) (DE.b aj)))))) (aG (bZ (KZ (w6 (au 1) fO (dI (af 2))) (w6 (au 1) (dI (DE.b (bJ (af 2) (DE.b aj)))) fO)))) eD) (ar (wG 3 nd (tH (af 1)) (ao (top 44)) ["_law_script","_law_roll_here","_law_at","_law_longer"] ["_law_script","_law_roll_here","_law_at","_law_longer"] (λex C s H=>(DW.t (BL (b9 (G2 (DE.b (dU (af 0) B.len)) (DE.b aj))) (xZ (b9 (uP (DE.b (bJ (af 0) (DE.b bL))) (af 2))))))) (λex C s H=>(bJ (af 0) (DE.b bL)))) (aG (bZ (uZ (DE.b (bJ (DO.b (iP (af 3) fO (dI (DE.b aj)))) (DO.b (fE (ae bL (ae bL aF)))))) B.tuple))))))
theorem mf:aT ["_law_shape","_law_found","_law_part"] ["_law_shape"] (ao (top 43)):=⟨rfl,rfl,rfl,by decide+kernel,rfl,by decide+kernel,by decide+kernel⟩
theorem kX(B:Bl mg)(a8:Ed K mg "_law_names_in" (top 43) ["_law_shape"] b7 cJ):∀n:Nat,aL P w K mg base cP n b7 cJ ["_law_shape"] (d5 K κ false (df n))
 |0=>wK
 |n+1=>have eZ:=kX B a8 n;b5 a8.F mf λcD A outer s H E hr=>have nd:=mf.nd;(ar (hU (b9 (kP hr (DE.b (eF (af 0) (DE.b aj))) (DE.b bL))) (aG (bZ (DO.e (fE (ae (eF (af 0) (DE.b aj)) aF))))) eD) (ar (bu 1 nd (DO.e (fE aF))) (ar (lp (NW (eF (af 0) (DE.b (oM (DE.b aj))))) (eE 2 nd) (aG (bu 1 nd (bJ (af 1) (DE.b (bG eZ hr a8.m a8.F.kp a8.b (ae (au 2) aF))))))) (aG (bZ (au 1))))))
theorem ti(B:Bl mg)(a8:Ed K mg "_law_names_in" (top 43) ["_law_shape"] b7 cJ):aL P w K mg base cP 24 b7 cJ ["_law_shape"] (d5 K κ false F_law_names_in):=kX B a8 24
theorem qy:aT ["_law_e","_law_found"] ["_law_e"] (ao (top 42)):=⟨rfl,rfl,rfl,by decide+kernel,rfl,by decide+kernel,by decide+kernel⟩
theorem yD(B:Bl mg)(dR:Ed K mg "_law_kinds" (top 42) ["_law_e"] eS gN)(Z:Zx K mg bR fK ak d8 fL iH dD d9 ef):aL P w K mg base cP 1 eS gN ["_law_e"] (Ro (λk=>[ak].getD k 0) ["NoHand"]):=
 dR.F.ok qy (λvs H Q E h=>by obtain⟨a,k,x,rfl,_⟩:=h;rfl) λcD A outer s H vs Q E hr h=>by
  have nd:=qy.nd
  obtain⟨a,k,x,rfl,ha,hk,q⟩:=h
  refine⟨_,cz (qR (i:=1) nd rfl (.inl rfl) (xu bB)) (cz (l7 (mK B.isinstance Z.m_NoRoll) (cF (lu 1)) fN) (cz (l7 (mK B.isinstance Z.m_NoHand) (cF (lu 1)) fN) (cz (l7 (mK B.isinstance Z.m_NoGroup) (cF (lu 1)) fN) (cz (l7 (mK B.isinstance Z.m_NoRule) (cF (lu 1)) fN) (cz (l7 (mK B.isinstance Z.m_NoDay) (cF (lu 1)) fN) (cz (l7 (mK B.isinstance Z.m_NoDeputy) (cF (lu 1)) fN) (cz (l7 (mK B.isinstance Z.m_NoEntry) (cF (lu 1)) fN) (cz (l7 (mK B.isinstance Z.m_Unruled) (cF (lu 1)) fN) (cz (l7 (F4 (KR (T:= "ValueError") B.isinstance B.ValueError (by decide+kernel))) (cF (lu 1)) fN) (cF (mw (pv 1)))))))))))),ZI _,λp hp=>?_⟩
  have pa:a≠p:=λz=>by rw[z,hp]at ha;cases ha
  have h1:∀l,upd H p l a=H a:=λl=>aJ pa
  match k,x,hk with
  |0,_,rfl=>
   refine u5 (C:=ak) (by first|exact(h1 _).trans ha|exact(aJ pa).trans ((h1 _).trans ha)) Z.x_NoHand Z.k_NoHand_NoRoll ?_
   refine Oo (C:=ak) (xs:=[]) (by first|exact(h1 _).trans ha|exact(aJ pa).trans ((h1 _).trans ha)) Z.x_NoHand Z.k_NoHand_NoHand aW (by decide) ?_
   refine u5 (C:=ak) (by first|exact(h1 _).trans ha|exact(aJ pa).trans ((h1 _).trans ha)) Z.x_NoHand Z.k_NoHand_NoGroup ?_
   refine u5 (C:=ak) (by first|exact(h1 _).trans ha|exact(aJ pa).trans ((h1 _).trans ha)) Z.x_NoHand Z.k_NoHand_NoRule ?_
   refine u5 (C:=ak) (by first|exact(h1 _).trans ha|exact(aJ pa).trans ((h1 _).trans ha)) Z.x_NoHand Z.k_NoHand_NoDay ?_
   refine u5 (C:=ak) (by first|exact(h1 _).trans ha|exact(aJ pa).trans ((h1 _).trans ha)) Z.x_NoHand Z.k_NoHand_NoDeputy ?_
   refine u5 (C:=ak) (by first|exact(h1 _).trans ha|exact(aJ pa).trans ((h1 _).trans ha)) Z.x_NoHand Z.k_NoHand_NoEntry ?_
   refine u5 (C:=ak) (by first|exact(h1 _).trans ha|exact(aJ pa).trans ((h1 _).trans ha)) Z.x_NoHand Z.k_NoHand_Unruled ?_
   refine HG (C:=ak) (by first|exact(h1 _).trans ha|exact(aJ pa).trans ((h1 _).trans ha)) Z.x_NoHand Z.k_NoHand_ValueError ?_
   refine⟨.ref p,rfl,?_⟩
   have e:=q p hp
   rw[<-JE (o:=.lst [])]at e
   exact e
  |_+1,_,e=>cases e
theorem qz:aT ["_law_rule","_law_which","_law_roll_here","_law_group","_law_caught","_law_told","_law_e"] ["_law_rule","_law_which","_law_roll_here","_law_group"] (ao (top 45)):=⟨rfl,rfl,rfl,by decide+kernel,rfl,by decide+kernel,by decide+kernel⟩
theorem yE(B:Bl mg)(bF:Ed K mg "_law_asked" (top 45) ["_law_rule","_law_which","_law_roll_here","_law_group"] dr dY)(C:Cf K mg κ CR CC jJ jK jL jM iq)(Z:Zx K mg bR fK ak d8 fL iH dD d9 ef)(gU:jD P w K mg base κ (λk=>[ak].getD k 0) "ladder" 32 ["self","roll"] eN)(lK:jD P w K mg base κ (λk=>[ak].getD k 0) "lets" 32 ["self","roll","group"] jH)(dR:Ed K mg "_law_kinds" (top 42) ["_law_e"] eS gN)(m8:aL P w K mg base cP 1 eS gN ["_law_e"] (Ro (λk=>[ak].getD k 0) ["NoHand"])):aL P w K mg base cP 33 dr dY ["_law_rule","_law_which","_law_roll_here","_law_group"] (Px K κ F_law_asked):=
 bF.F.ok qz (λvs H Q E h=>by obtain⟨A,ps,p,q,_,h1,h2,_⟩:=h;rw[h1.length];exact KY h2) λcD A outer s H vs Q E hr h=>have nd:=qz.nd;
  ⟨_,cz (qR (i:=4) nd rfl (.inl rfl) A7) (cz (qR (i:=5) nd rfl (.inl rfl) A7) (cz (KW (iy:=5) (iz:=4) (jn:=6) (λE1=>(b9 (kP (κ:=κ) hr (af 1) (DE.b aj))).pt) (λE1=>pv 0) (λE1=>aI (pv 2) (aI (pv 3) bB)) (λE1=>pv 0) (λE1=>aI (pv 2) bB) nd rfl rfl rfl rfl rfl rfl rfl rfl Z.m_SignError) (cz (l7 (MR (JJ (pv 4))) (cF (mw (Bo (aI A7 (aI (jh (m8.mono (by decide)) hr (by rfl) dR.m dR.F.kp dR.b .nil jW (aI (pv 4) bB)) bB))))) fN) (cF (mw (Bo (aI (pv 5) (aI (xu bB) bB)))))))),
    HR rfl (λk x e=>match k,x,e with|0,_,_=>Z.b_NoHand|_+1,_,e=>by cases e) (lK.mono (by decide)) (gU.mono (by decide)) hr hr h⟩
theorem qA:aT ["_law_shape","_law_roll_here","_law_group","_law_many"] ["_law_shape","_law_roll_here","_law_group"] (ao (top 41)):=⟨rfl,rfl,rfl,by decide+kernel,rfl,by decide+kernel,by decide+kernel⟩
theorem oC(B:Bl mg)(bz:Ed K mg "_law_holds" (top 41) ["_law_shape","_law_roll_here","_law_group"] dt dZ):∀n:Nat,aL P w K mg base cP n dt dZ ["_law_shape","_law_roll_here","_law_group"] (d5 K κ false (cR n))
 |0=>wK
 |n+1=>have gj:=oC B bz n;b5 bz.F qA λcD A outer s H E hr=>have nd:=qA.nd;(ar (hU (b9 (kP hr (DE.b (eF (af 0) (DE.b aj))) (DE.b bL))) (aG (bZ (ll (kP hr (DE.b (xX (DE.b (G1 (af 2) (DE.b (z8 (af 1) (DE.b (eF (af 0) (DE.b aj))))))) (DE.b aj))) (DE.b aj))))) eD) (ar (bu 3 nd (dU (DO.b (kO (tH (DE.b (eF (af 0) (DE.b (oM (DE.b aj)))))) (ao (top 41)) ["_law_shape","_law_roll_here","_law_group","_law_many"] ["_law_shape","_law_roll_here","_law_group","_law_many"] (λex C s H=>(mH (bG gj hr bz.m bz.F.kp bz.b (ae (au 0) (ae (au 2) (ae (au 3) aF)))))) (λex C s H=>(au 0)))) B.len)) (ar (hU (b9 (kP hr (DE.b (eF (af 0) (DE.b aj))) (DE.b bL))) (aG (bZ (ll (kP hr (af 3) (DE.b (dU (DE.b (eF (af 0) (DE.b aj))) B.len)))))) eD) (ar (hU (b9 (kP hr (DE.b (eF (af 0) (DE.b aj))) (DE.b bL))) (aG (bZ (ll (zL (af 3) (DE.b aj))))) eD) (aG (bZ (ll (G3 (af 3) (DE.b (eF (af 0) (DE.b aj)))))))))))
theorem yF(B:Bl mg)(bz:Ed K mg "_law_holds" (top 41) ["_law_shape","_law_roll_here","_law_group"] dt dZ):aL P w K mg base cP 24 dt dZ ["_law_shape","_law_roll_here","_law_group"] (d5 K κ false bx):=oC B bz 24
theorem qB:aT ["_law_rule","_law_shape","_law_roll_here","_law_group","_law_told","_law_refused","_law_ladder","_law_within_it"] ["_law_rule","_law_shape","_law_roll_here"] (ao (top 46)):=⟨rfl,rfl,rfl,by decide+kernel,rfl,by decide+kernel,by decide+kernel⟩
theorem yG(B:Bl mg)(dS:Ed K mg "_law_right" (top 46) ["_law_rule","_law_shape","_law_roll_here"] eT gO)(bF:Ed K mg "_law_asked" (top 45) ["_law_rule","_law_which","_law_roll_here","_law_group"] dr dY)(fe:aL P w K mg base cP 33 dr dY ["_law_rule","_law_which","_law_roll_here","_law_group"] (Px K κ F_law_asked))(bz:Ed K mg "_law_holds" (top 41) ["_law_shape","_law_roll_here","_law_group"] dt dZ)(gj:aL P w K mg base cP 24 dt dZ ["_law_shape","_law_roll_here","_law_group"] (d5 K κ false bx)):aL P w K mg base cP 34 eT gO ["_law_rule","_law_shape","_law_roll_here"] (d5 K κ false F_law_right):=
 b5 dS.F qB λcD A outer s H E hr=>have nd:=qB.nd;(ar (lp (tI (DE.b (uM (DE.b aj) (DE.b (dU (af 2) B.len)))) B.range) (eE 3 nd) (ar (D4 4 5 (fe.mono (by decide)) hr bF.m bF.F.kp bF.b (ae (au 0) (ae aj (ae (au 2) (ae (au 3) aF)))) va nd) (aG (hU (DW.t (zM (b9 (sj hr (af 5) (DO.b (fE aF)))) (zM (xY (mH (uQ (af 4) B.isinstance B.bool))) (BK (b9 (sj hr (af 4) (DE.b (bG (gj.mono (by decide)) hr bz.m bz.F.kp bz.b (ae (au 1) (ae (au 2) (ae (au 3) aF))))))))))) (aG (bZ wC)) eD)))) (ar (D4 6 5 (fe.mono (by decide)) hr bF.m bF.F.kp bF.b (ae (au 0) (ae aj (ae (au 2) (ae aj aF)))) va nd) (ar (hU (DW.t (zM (b9 (sj hr (af 5) (DO.b (fE aF)))) (BK (xY (mH (uR (af 6) B.isinstance B.list)))))) (aG (bZ wC)) eD) (ar (lp (tI (DE.b (uM (DE.b aj) (DE.b (dU (af 2) B.len)))) B.range) (eE 3 nd) (ar (wG 7 nd (fJ (af 6)) (ao (top 46)) ["_law_rule","_law_shape","_law_roll_here","_law_group","_law_told","_law_refused","_law_ladder","_law_within_it"] ["_law_rule","_law_shape","_law_roll_here","_law_group","_law_told","_law_refused","_law_ladder","_law_within_it"] (λex C s H=>(b9 (kP hr (DE.b (xX (af 0) (af 4))) (af 0)))) (λex C s H=>(au 0))) (aG (hU (b9 (sj hr (DE.b (bG (gj.mono (by decide)) hr bz.m bz.F.kp bz.b (ae (au 1) (ae (au 2) (ae (au 3) aF))))) (DE.b (ll (sj hr (af 7) (DO.b (fE aF))))))) (aG (bZ wC)) eD)))) (ar (zO 6) (aG (bZ wC)))))))
theorem II:aT ["_law_script","_law_roll_here","_law_rule","_law_shape","_law_text","_law_deep","_law_other","_law_lacks","_law_turn","_law_group","_law_rolls","_law_some_roll","_law_which"] ["_law_script"] (ao (top 47)):=⟨rfl,rfl,rfl,by decide+kernel,rfl,by decide+kernel,by decide+kernel⟩
theorem OM(B:Bl mg)(IJ:Ed K mg "law" (top 47) ["_law_script"] AD yy)(C:Cf K mg κ CR CC jJ jK jL jM iq)(eY:Ed K mg "_law_roll" (top 36) ["_law_script"] fZ iV)(o4:aL P w K mg base cP 3 fZ iV ["_law_script"] (d5 K κ false F_law_roll))(dQ:Ed K mg "_law_built" (top 40) ["_law_script","_law_at","_law_size","_law_roll_here"] eR gM)(m9:aL P w K mg base cP 8 eR gM ["_law_script","_law_at","_law_size","_law_roll_here"] (d5 K κ false F_law_built))(bS:Ed K mg "_law_other_roll" (top 44) ["_law_script","_law_roll_here"] cq du)(iw:aL P w K mg base cP 2 cq du ["_law_script","_law_roll_here"] (d5 K κ false F_law_other_roll))(aq:Ed K mg "_law_cell_at" (top 32) ["_law_script","_law_k"] a9 bp)(aQ:aL P w K mg base cP 1 a9 bp ["_law_script","_law_k"] (d5 K κ false F_law_cell_at))(a8:Ed K mg "_law_names_in" (top 43) ["_law_shape"] b7 cJ)(eZ:aL P w K mg base cP 24 b7 cJ ["_law_shape"] (d5 K κ false F_law_names_in))(dS:Ed K mg "_law_right" (top 46) ["_law_rule","_law_shape","_law_roll_here"] eT gO)(ng:aL P w K mg base cP 34 eT gO ["_law_rule","_law_shape","_law_roll_here"] (d5 K κ false F_law_right))(bF:Ed K mg "_law_asked" (top 45) ["_law_rule","_law_which","_law_roll_here","_law_group"] dr dY)(fe:aL P w K mg base cP 33 dr dY ["_law_rule","_law_which","_law_roll_here","_law_group"] (Px K κ F_law_asked)):aL P w K mg base cP 35 AD yy ["_law_script"] (d5 K κ false Ec):=
 b5 IJ.F II λcD A outer s H E hr=>have nd:=II.nd;(ar (bu 1 nd (bG (o4.mono (by decide)) hr eY.m eY.F.kp eY.b (ae (au 0) aF))) (ar (N5 (N6 (qd (eE 2 nd) (qd (eE 3 nd) (qd (eE 4 nd) (qd (eE 5 nd) Ky))))) (bG (m9.mono (by decide)) hr dQ.m dQ.F.kp dQ.b (ae (au 0) (ae aj (ae aj (ae (au 1) aF)))))) (ar (bu 6 nd (bG (iw.mono (by decide)) hr bS.m bS.F.kp bS.b (ae (au 0) (ae (au 1) aF)))) (ar (bu 7 nd (ll (sj hr (DO.b (kO (fJ (DE.b (bG (eZ.mono (by decide)) hr a8.m a8.F.kp a8.b (ae (au 3) aF)))) (ao (top 47)) ["_law_script","_law_roll_here","_law_rule","_law_shape","_law_text","_law_deep","_law_other","_law_lacks","_law_turn","_law_group","_law_rolls","_law_some_roll","_law_which"] ["_law_script","_law_roll_here","_law_rule","_law_shape","_law_text","_law_deep","_law_other","_law_lacks","_law_turn","_law_group","_law_rolls","_law_some_roll","_law_which"] (λex C s H=>(b9 (uP (af 0) (af 7)))) (λex C s H=>(au 0)))) (DO.b (fE aF))))) (ar (bu 8 nd (bG (aQ.mono (by decide)) hr aq.m aq.F.kp aq.b (ae (au 0) (ae aj aF)))) (ar (bu 9 nd (ck (DE.b (jB (af 8) (DE.b aj))) (DE.b (uM (DE.b aj) (DE.b (dU (af 6) B.len)))))) (ar (bu 10 nd (DO.e (fE (ae (au 6) (ae (K7 (au 1) (DE.b (oM (DE.b aj)))) (ae (au 1) (ae (au 6) aF))))))) (ar (lp (pZ (bJ (DO.b (iP (af 10) (dI (DE.b (ck (af 8) (DE.b aj)))) fO)) (DO.b (iP (af 10) fO (dI (DE.b (ck (af 8) (DE.b aj)))))))) (eE 11 nd) (aG (hU (DW.t (BL (b9 (K9 hr (af 11) (af 6))) (xZ (mH (au 7))))) (aG (lp (pZ (DO.e (fE (ae (ck (DE.b (jB (af 8) (DE.b aj))) (DE.b aj)) (ae (BJ (DE.b aj) (DE.b (ck (DE.b (jB (af 8) (DE.b aj))) (DE.b aj)))) aF))))) (eE 12 nd) (aG (hU (b9 (sj hr (DE.b (eF (DE.b (HU (fe.mono (by decide)) hr bF.m bF.F.kp bF.b (ae (au 2) (ae (au 12) (ae (au 6) (ae (au 9) aF)))) va)) (DE.b aj))) (DO.b (fE (ae bL aF))))) (aG (bZ wC)) eD)))) (aG (hU (xY (mH (bG (ng.mono (by decide)) hr dS.m dS.F.kp dS.b (ae (au 2) (ae (au 3) (ae (au 11) aF)))))) (aG (bZ wC)) eD))))) (aG (bZ (Oe C.isR (af 2) B.isinstance C.gR)))))))))))
theorem AO(B:Bl mg)(C:Cf K mg κ CR CC jJ jK jL jM iq)(bq:Em K "lets" "Counting.lets" (c8 27 1) ["self","roll","group"] aM eG)(d0:Em K "lets" "Hand.lets" (c8 26 3) ["self","roll","group"] cS iI)(j7:Meth K (κ.adr 0) "lets" cS)(lN:Meth K (κ.adr 1) "lets" aM)(lO:Meth K (κ.adr 2) "lets" aM)(j8:Meth K (κ.adr 3) "lets" aM)(cM:Ed K mg "within" (top 17) ["one","two"] eO fq)(gT:aL P w K mg base cP 1 eO fq ["one","two"] (d5 K κ false dj))(bA:Ed K mg "group_of" (top 15) ["roll","names"] cm cC)(cK:aL P w K mg base (nZ P w) 1 cm cC ["roll","names"] (FV K κ (λk=>[ak].getD k 0) bK)):∀n:Nat,jD P w K mg base κ (λk=>[ak].getD k 0) "lets" (8+1*n) ["self","roll","group"] (gJ n)
 |0=>λc xs p h=>by cases h
 |n+1=>by
  have lK:=AO B C bq d0 j7 lN lO j8 cM gT bA cK n
  have AJ:8<=8+1*n:=by omega
  exact λc xs p h=>match c,h with
   |0,_=>⟨_,_,C.cls 0 (by decide),j7,by rw[C.fld];decide,v7 AJ B d0 C cM gT bA cK,d0.b⟩
   |1,_=>⟨_,_,C.cls 1 (by decide),lN,by rw[C.fld];decide,gW AJ B bq C lK,bq.b⟩
   |2,_=>⟨_,_,C.cls 2 (by decide),lO,by rw[C.fld];decide,gW AJ B bq C lK,bq.b⟩
   |3,_=>⟨_,_,C.cls 3 (by decide),j8,by rw[C.fld];decide,gW AJ B bq C lK,bq.b⟩
   |_+4,h=>by cases h
theorem vm(B:Bl mg)(C:Cf K mg κ CR CC jJ jK jL jM iq)(aY:Em K "ladder" "Counting.ladder" (c8 27 2) ["self","roll"] aK dJ)(cY:Em K "ladder" "Hand.ladder" (c8 26 4) ["self","roll"] b6 fP)(iJ:Meth K (κ.adr 0) "ladder" b6)(jm:Meth K (κ.adr 1) "ladder" aK)(jo:Meth K (κ.adr 2) "ladder" aK)(iK:Meth K (κ.adr 3) "ladder" aK)(iv:Ed K mg "some" (top 23) ["many","ladders"] lG lI)(mW:aL P w K mg base cP 7 lG lI ["many","ladders"] (d5 K κ true kj))(bA:Ed K mg "group_of" (top 15) ["roll","names"] cm cC)(cK:aL P w K mg base (nZ P w) 1 cm cC ["roll","names"] (FV K κ (λk=>[ak].getD k 0) bK)):∀n:Nat,jD P w K mg base κ (λk=>[ak].getD k 0) "ladder" (8+1*n) ["self","roll"] (de n)
 |0=>λc xs p h=>by cases h
 |n+1=>by
  have gU:=vm B C aY cY iJ jm jo iK iv mW bA cK n
  have AJ:8<=8+1*n:=by omega
  exact λc xs p h=>match c,h with
   |0,_=>⟨_,_,C.cls 0 (by decide),iJ,by rw[C.fld];decide,tf AJ B cY C bA cK,cY.b⟩
   |1,_=>⟨_,_,C.cls 1 (by decide),jm,by rw[C.fld];decide,fF AJ B aY C gU iv mW,aY.b⟩
   |2,_=>⟨_,_,C.cls 2 (by decide),jo,by rw[C.fld];decide,fF AJ B aY C gU iv mW,aY.b⟩
   |3,_=>⟨_,_,C.cls 3 (by decide),iK,by rw[C.fld];decide,fF AJ B aY C gU iv mW,aY.b⟩
   |_+4,h=>by cases h
theorem RB:aT ["self","name"] ["self","name"] (ao (c8 26 0)):=⟨rfl,rfl,rfl,by decide+kernel,rfl,by decide+kernel,by decide+kernel⟩
theorem RC:aT ["self","parts"] ["self","parts"] (ao (c8 28 0)):=⟨rfl,rfl,rfl,by decide+kernel,rfl,by decide+kernel,by decide+kernel⟩
theorem RD:aT ["self","parts"] ["self","parts"] (ao (c8 29 0)):=⟨rfl,rfl,rfl,by decide+kernel,rfl,by decide+kernel,by decide+kernel⟩
theorem RE:aT ["self","many","parts"] ["self","many","parts"] (ao (c8 30 0)):=⟨rfl,rfl,rfl,by decide+kernel,rfl,by decide+kernel,by decide+kernel⟩
theorem RF:aT ["self","wanted","parts"] ["self","wanted","parts"] (ao (c8 27 0)):=⟨rfl,rfl,rfl,by decide+kernel,rfl,by decide+kernel,by decide+kernel⟩
theorem RG(B:Bl mg)(C:Cf K mg κ CR CC jJ jK jL jM iq)(d:Em K "__init__" "Hand.__init__" (c8 26 0) ["self","name"] jJ Ay):aL P w K mg base cP 1 jJ Ay ["self","name"] (uX (κ.adr 0)):=
 d.F.ok RB (λvs H Q E h=>Hn h) λcD A outer s H vs Q E hr h=>⟨_,cF (Bj (pv 0) (pv 1) rfl),KH (C.cls 0 (by decide)) C.nn h⟩
theorem IK(B:Bl mg)(C:Cf K mg κ CR CC jJ jK jL jM iq)(c:Nat)(h0:0<c)(h4:c<4)(d:Em K "__init__" "Counting.__init__" (c8 27 0) ["self","wanted","parts"] iq xg):aL P w K mg base cP 1 iq xg ["self","wanted","parts"] (qf K (κ.adr c)):=
 d.F.ok RF (λvs H Q E h=>DV h) λcD A outer s H vs Q E hr h=>⟨_,cz (Bj (pv 0) (pv 1) rfl) (cF (Bj (pv 0) (qU ou (by rfl) B.tuple (by decide+kernel) (aI (pv 2) bB)) rfl)),N9 (C.cls c h4) (C.nw c h0 h4) (C.np c h0 h4) h⟩
theorem RH(B:Bl mg)(C:Cf K mg κ CR CC jJ jK jL jM iq)(dC:Em K "__init__" "Counting.__init__" (c8 27 0) ["self","wanted","parts"] iq xg)(d:Em K "__init__" "All.__init__" (c8 28 0) ["self","parts"] jK Az):aL P w K mg base cP 2 jK Az ["self","parts"] (qg K (κ.adr 1) λys=>(ys.length:Nat)):=
 d.F.ok RC (λvs H Q E h=>DY h) λcD A outer s H vs Q E hr h=>⟨_,cF (nQ (uW C.cf (IK B C 1 (by decide) (by decide) dC) hr (by rfl) C.gC dC.b (aI (pv 0) (aI (iO pP (by rfl) B.len PySem.boot_len (aI (pv 1) bB)) (aI (pv 1) bB))))),Hm Ob h⟩
theorem RI(B:Bl mg)(C:Cf K mg κ CR CC jJ jK jL jM iq)(dC:Em K "__init__" "Counting.__init__" (c8 27 0) ["self","wanted","parts"] iq xg)(d:Em K "__init__" "Any.__init__" (c8 29 0) ["self","parts"] jL AA):aL P w K mg base cP 2 jL AA ["self","parts"] (qg K (κ.adr 2) λ_=>1):=
 d.F.ok RD (λvs H Q E h=>DY h) λcD A outer s H vs Q E hr h=>⟨_,cF (nQ (uW C.cf (IK B C 2 (by decide) (by decide) dC) hr (by rfl) C.gC dC.b (aI (pv 0) (aI F1 (aI (pv 1) bB))))),Hm Oc h⟩
theorem RJ(B:Bl mg)(C:Cf K mg κ CR CC jJ jK jL jM iq)(dC:Em K "__init__" "Counting.__init__" (c8 27 0) ["self","wanted","parts"] iq xg)(d:Em K "__init__" "Some.__init__" (c8 30 0) ["self","many","parts"] jM AB):aL P w K mg base cP 2 jM AB ["self","many","parts"] (qf K (κ.adr 3)):=
 d.F.ok RE (λvs H Q E h=>DV h) λcD A outer s H vs Q E hr h=>⟨_,cF (nQ (uW C.cf (IK B C 3 (by decide) (by decide) dC) hr (by rfl) C.gC dC.b (aI (pv 0) (aI (pv 1) (aI (pv 2) bB))))),Oa h⟩
end
section
variable{l:PySem.W.OpenLaw}{w:World}{K:PySem.W.Frag}{h:Heap}{mg:Str->Option Value}
theorem all_mk{fa:Addr}(hK:gD F_place)(X:K.In h)(G:h.Ns mainGlobals mg)(Uo:mg "law" =some (.ref fa))
  {rD ix c_Hand c_All c_Any c_Some:Addr}
  {bR fK ak d8 fL iH dD d9 ef:Addr}
  {Ll:ClassData}
  {Fn:ClassData}
  {jJ:Addr}
  {jK:Addr}
  {jL:Addr}
  {jM:Addr}
  {iq:Addr}
  {fU:Addr}
  {fV:Addr}
  {jl:Addr}
  {eO:Addr}
  {lE:Addr}
  {lF:Addr}
  {eP:Addr}
  {ir:Addr}
  {lG:Addr}
  {cm:Addr}
  {aK:Addr}
  {aM:Addr}
  {b6:Addr}
  {cS:Addr}
  {a9:Addr}
  {fW:Addr}
  {fX:Addr}
  {eQ:Addr}
  {fZ:Addr}
  {cy:Addr}
  {dX:Addr}
  {f6:Addr}
  {eR:Addr}
  {cq:Addr}
  {b7:Addr}
  {eS:Addr}
  {dr:Addr}
  {dt:Addr}
  {eT:Addr}
  {AD:Addr}
  {yH:Tok}
  (Cs:PySem.W.nsIn K mainGlobals "Rule" =some (some (.ref rD)))
  (o5:PySem.W.nsIn K mainGlobals "Counting" =some (some (.ref ix)))
  (Ct:PySem.W.nsIn K mainGlobals "Hand" =some (some (.ref c_Hand)))
  (IL:PySem.W.nsIn K mainGlobals "All" =some (some (.ref c_All)))
  (IM:PySem.W.nsIn K mainGlobals "Any" =some (some (.ref c_Any)))
  (Cu:PySem.W.nsIn K mainGlobals "Some" =some (some (.ref c_Some)))
  (tN:PySem.W.plainGet K c_Hand Str.empty=true)
  (tO:PySem.W.hasDictIn K c_Hand=true)
  (tP:PySem.W.plainOver K c_Hand=true)
  (tQ:PySem.W.findIn K (.ref c_Hand) "__setattr__" =some (some (.builtin "object.__setattr__")))
  (yI:PySem.W.makesIn K c_Hand=true)
  (yJ:PySem.W.keepIn K (.ref c_Hand)=true)
  (yK:PySem.W.findIn K (.ref c_Hand) "__class__" =some (some (.builtin "object.__class__")))
  (yL:PySem.W.mroIn K c_Hand (.type "object")=some true)
  (yM:PySem.W.kitOne K (.ref c_Hand) (.ref rD)=some true)
  (nh:PySem.W.findIn K (.ref c_Hand) "name" =some none)
  (yN:PySem.W.plainGet K c_All Str.empty=true)
  (yO:PySem.W.hasDictIn K c_All=true)
  (yP:PySem.W.plainOver K c_All=true)
  (yQ:PySem.W.findIn K (.ref c_All) "__setattr__" =some (some (.builtin "object.__setattr__")))
  (Cv:PySem.W.makesIn K c_All=true)
  (Cw:PySem.W.keepIn K (.ref c_All)=true)
  (Cy:PySem.W.findIn K (.ref c_All) "__class__" =some (some (.builtin "object.__class__")))
  (Cz:PySem.W.mroIn K c_All (.type "object")=some true)
  (CA:PySem.W.kitOne K (.ref c_All) (.ref rD)=some true)
  (lP:PySem.W.findIn K (.ref c_All) "wanted" =some none)
  (ni:PySem.W.findIn K (.ref c_All) "parts" =some none)
  (yR:PySem.W.plainGet K c_Any Str.empty=true)
  (yS:PySem.W.hasDictIn K c_Any=true)
  (yT:PySem.W.plainOver K c_Any=true)
  (yU:PySem.W.findIn K (.ref c_Any) "__setattr__" =some (some (.builtin "object.__setattr__")))
  (CB:PySem.W.makesIn K c_Any=true)
  (CD:PySem.W.keepIn K (.ref c_Any)=true)
  (CF:PySem.W.findIn K (.ref c_Any) "__class__" =some (some (.builtin "object.__class__")))
  (CG:PySem.W.mroIn K c_Any (.type "object")=some true)
  (CH:PySem.W.kitOne K (.ref c_Any) (.ref rD)=some true)
  (lQ:PySem.W.findIn K (.ref c_Any) "wanted" =some none)
  (nj:PySem.W.findIn K (.ref c_Any) "parts" =some none)
  (tS:PySem.W.plainGet K c_Some Str.empty=true)
  (tT:PySem.W.hasDictIn K c_Some=true)
  (tU:PySem.W.plainOver K c_Some=true)
  (tW:PySem.W.findIn K (.ref c_Some) "__setattr__" =some (some (.builtin "object.__setattr__")))
  (yV:PySem.W.makesIn K c_Some=true)
  (yW:PySem.W.keepIn K (.ref c_Some)=true)
  (yX:PySem.W.findIn K (.ref c_Some) "__class__" =some (some (.builtin "object.__class__")))
  (yY:PySem.W.mroIn K c_Some (.type "object")=some true)
  (yZ:PySem.W.kitOne K (.ref c_Some) (.ref rD)=some true)
  (kn:PySem.W.findIn K (.ref c_Some) "wanted" =some none)
  (lR:PySem.W.findIn K (.ref c_Some) "parts" =some none)
  (ON:PySem.W.specialIn K (.builtin "object.__class__") "__get__" =some (some (.builtin "getset_descriptor.__get__")))
  (OO:PySem.W.takesIn K (.builtin "object.__class__")=some true)
  (nq:PySem.W.nsIn K mainGlobals "SignError" =some (some (.ref bR)))
  (vn:PySem.W.nsIn K mainGlobals "NoRoll" =some (some (.ref fK)))
  (vo:PySem.W.nsIn K mainGlobals "NoHand" =some (some (.ref ak)))
  (rE:PySem.W.nsIn K mainGlobals "NoGroup" =some (some (.ref d8)))
  (vp:PySem.W.nsIn K mainGlobals "NoRule" =some (some (.ref fL)))
  (y6:PySem.W.nsIn K mainGlobals "NoDay" =some (some (.ref iH)))
  (o6:PySem.W.nsIn K mainGlobals "NoDeputy" =some (some (.ref dD)))
  (rF:PySem.W.nsIn K mainGlobals "NoEntry" =some (some (.ref d9)))
  (rG:PySem.W.nsIn K mainGlobals "Unruled" =some (some (.ref ef)))
  (Uw:PySem.W.instIn K (.ref bR) (.type "tuple")=some false)
  (Ux:PySem.W.clsIn K bR=some Ll)
  (Uy:PySem.W.mroIn K bR (.type "BaseException")=some true)
  (rH:PySem.W.excIn K ak Q9 "ValueError.__new__" =true)
  (rJ:PySem.W.findIn K (.ref ak) "__getattribute__" =some (some (.builtin "BaseException.__getattribute__")))
  (rK:PySem.W.findIn K (.ref ak) "__getattr__" =some none)
  (rL:PySem.W.findIn K (.ref ak) "__class__" =some (some (.builtin "object.__class__")))
  (rM:PySem.W.mroIn K ak (.type "object")=some true)
  (rN:PySem.W.mroIn K ak (.type "BaseException")=some true)
  (rO:PySem.W.clsIn K ak=some Fn)
  (b4_NoHand:PySem.W.mroIn K ak (.ref bR)=some true)
  (iA:PySem.W.kitOne K (.ref ak) (.ref fK)=some false)
  (iB:PySem.W.kitOne K (.ref ak) (.ref ak)=some true)
  (gX:PySem.W.kitOne K (.ref ak) (.ref d8)=some false)
  (iC:PySem.W.kitOne K (.ref ak) (.ref fL)=some false)
  (i8:PySem.W.kitOne K (.ref ak) (.ref iH)=some false)
  (f9:PySem.W.kitOne K (.ref ak) (.ref dD)=some false)
  (gZ:PySem.W.kitOne K (.ref ak) (.ref d9)=some false)
  (g9:PySem.W.kitOne K (.ref ak) (.ref ef)=some false)
  (fg:PySem.W.kitOne K (.ref ak) (.type "ValueError")=some true)
  (fiH:PySem.W.findIn K (.ref c_Hand) "__init__" =some (some (.ref jJ)))
  (fnH:PySem.W.isFn K (.ref jJ)=true)
  (OP:FL K jJ "__init__" "Hand.__init__" (c8 26 0))
  (fiA:PySem.W.findIn K (.ref c_All) "__init__" =some (some (.ref jK)))
  (fnA:PySem.W.isFn K (.ref jK)=true)
  (OQ:FL K jK "__init__" "All.__init__" (c8 28 0))
  (fiY:PySem.W.findIn K (.ref c_Any) "__init__" =some (some (.ref jL)))
  (fnY:PySem.W.isFn K (.ref jL)=true)
  (OS:FL K jL "__init__" "Any.__init__" (c8 29 0))
  (fiS:PySem.W.findIn K (.ref c_Some) "__init__" =some (some (.ref jM)))
  (fnS:PySem.W.isFn K (.ref jM)=true)
  (OT:FL K jM "__init__" "Some.__init__" (c8 30 0))
  (fiC:PySem.W.findIn K (.ref ix) "__init__" =some (some (.ref iq)))
  (fnC:PySem.W.isFn K (.ref iq)=true)
  (OU:FL K iq "__init__" "Counting.__init__" (c8 27 0))
  (rdC:PySem.W.readsIn K ix (.type "type")=true)
  (fcC:PySem.W.findCls K (.ref ix) (.type "type") "__init__" =some (.val (.ref iq)))
  (gaC:PySem.W.specialIn K (.ref ix) "__getattribute__" =some (some (.builtin "type.__getattribute__")))
  (hdC:PySem.W.handedIn (.ref iq)=true)
  (o7:PySem.W.nsIn K mainGlobals "has_hand" =some (some (.ref fU)))
  (o8:FL K fU "has_hand" "has_hand" (top 13))
  (o9:PySem.W.nsIn K mainGlobals "hands_of" =some (some (.ref fV)))
  (pd:FL K fV "hands_of" "hands_of" (top 14))
  (y7:PySem.W.nsIn K mainGlobals "place" =some (some (.ref jl)))
  (y8:FL K jl "place" "place" (top 16))
  (vq:PySem.W.nsIn K mainGlobals "within" =some (some (.ref eO)))
  (vt:FL K eO "within" "within" (top 17))
  (CI:PySem.W.nsIn K mainGlobals "lets" =some (some (.ref lE)))
  (CJ:FL K lE "lets" "lets" (top 20))
  (y9:PySem.W.nsIn K mainGlobals "least" =some (some (.ref lF)))
  (za:FL K lF "least" "least" (top 21))
  (nr:PySem.W.nsIn K mainGlobals "groups_of" =some (some (.ref eP)))
  (nu:FL K eP "groups_of" "groups_of" (top 18))
  (rP:PySem.W.nsIn K mainGlobals "letting" =some (some (.ref ir)))
  (rQ:FL K ir "letting" "letting" (top 22))
  (CK:PySem.W.nsIn K mainGlobals "some" =some (some (.ref lG)))
  (CL:FL K lG "some" "some" (top 23))
  (pj:PySem.W.nsIn K mainGlobals "group_of" =some (some (.ref cm)))
  (pq:FL K cm "group_of" "group_of" (top 15))
  (ko:PySem.W.findIn K (.ref c_All) "ladder" =some (some (.ref aK)))
  (kq:PySem.W.findIn K (.ref c_Any) "ladder" =some (some (.ref aK)))
  (jP:PySem.W.findIn K (.ref c_Some) "ladder" =some (some (.ref aK)))
  (cN:PySem.W.isFn K (.ref aK)=true)
  (gc:FL K aK "ladder" "Counting.ladder" (c8 27 2))
  (nv:PySem.W.findIn K (.ref c_All) "lets" =some (some (.ref aM)))
  (ny:PySem.W.findIn K (.ref c_Any) "lets" =some (some (.ref aM)))
  (lT:PySem.W.findIn K (.ref c_Some) "lets" =some (some (.ref aM)))
  (dz:PySem.W.isFn K (.ref aM)=true)
  (iD:FL K aM "lets" "Counting.lets" (c8 27 1))
  (jQ:PySem.W.findIn K (.ref c_Hand) "ladder" =some (some (.ref b6)))
  (i9:PySem.W.isFn K (.ref b6)=true)
  (jR:FL K b6 "ladder" "Hand.ladder" (c8 26 4))
  (lU:PySem.W.findIn K (.ref c_Hand) "lets" =some (some (.ref cS)))
  (kr:PySem.W.isFn K (.ref cS)=true)
  (lV:FL K cS "lets" "Hand.lets" (c8 26 3))
  (ku:PySem.W.nsIn K mainGlobals "_law_cell_at" =some (some (.ref a9)))
  (kv:FL K a9 "_law_cell_at" "_law_cell_at" (top 32))
  (pA:PySem.W.nsIn K mainGlobals "_law_name" =some (some (.ref fW)))
  (pB:FL K fW "_law_name" "_law_name" (top 34))
  (pC:PySem.W.nsIn K mainGlobals "_law_base" =some (some (.ref fX)))
  (pD:FL K fX "_law_base" "_law_base" (top 33))
  (nA:PySem.W.nsIn K mainGlobals "_law_names" =some (some (.ref eQ)))
  (nB:FL K eQ "_law_names" "_law_names" (top 35))
  (pE:PySem.W.nsIn K mainGlobals "_law_roll" =some (some (.ref fZ)))
  (pF:FL K fZ "_law_roll" "_law_roll" (top 36))
  (kx:PySem.W.nsIn K mainGlobals "_law_counted" =some (some (.ref cy)))
  (ky:FL K cy "_law_counted" "_law_counted" (top 38))
  (lW:PySem.W.nsIn K mainGlobals "_law_folded" =some (some (.ref dX)))
  (lX:FL K dX "_law_folded" "_law_folded" (top 39))
  (pG:PySem.W.nsIn K mainGlobals "_law_hand" =some (some (.ref f6)))
  (pH:FL K f6 "_law_hand" "_law_hand" (top 37))
  (nD:PySem.W.nsIn K mainGlobals "_law_built" =some (some (.ref eR)))
  (nE:FL K eR "_law_built" "_law_built" (top 40))
  (iE:PySem.W.nsIn K mainGlobals "_law_other_roll" =some (some (.ref cq)))
  (iF:FL K cq "_law_other_roll" "_law_other_roll" (top 44))
  (jS:PySem.W.nsIn K mainGlobals "_law_names_in" =some (some (.ref b7)))
  (jT:FL K b7 "_law_names_in" "_law_names_in" (top 43))
  (nF:PySem.W.nsIn K mainGlobals "_law_kinds" =some (some (.ref eS)))
  (nG:FL K eS "_law_kinds" "_law_kinds" (top 42))
  (nH:PySem.W.nsIn K mainGlobals "_law_asked" =some (some (.ref dr)))
  (nI:FL K dr "_law_asked" "_law_asked" (top 45))
  (nJ:PySem.W.nsIn K mainGlobals "_law_holds" =some (some (.ref dt)))
  (nK:FL K dt "_law_holds" "_law_holds" (top 41))
  (nL:PySem.W.nsIn K mainGlobals "_law_right" =some (some (.ref eT)))
  (nM:FL K eT "_law_right" "_law_right" (top 46))
  (Eg:PySem.W.nsIn K mainGlobals "law" =some (some (.ref AD)))
  (IP:FL K AD "law" "law" (top 47))
  (lZ:PySem.W.nsIn K mainGlobals "ValueError" =some none)
  (IQ:PySem.W.nsIn K mainGlobals "any" =some none)
  (CM:PySem.W.nsIn K mainGlobals "bool" =some none)
  (l0:PySem.W.nsIn K mainGlobals "isinstance" =some none)
  (IS:PySem.W.nsIn K mainGlobals "len" =some none)
  (CN:PySem.W.nsIn K mainGlobals "list" =some none)
  (IT:PySem.W.nsIn K mainGlobals "max" =some none)
  (zb:PySem.W.nsIn K mainGlobals "range" =some none)
  (vv:PySem.W.nsIn K mainGlobals "sorted" =some none)
  (IU:PySem.W.nsIn K mainGlobals "str" =some none)
  (zc:PySem.W.nsIn K mainGlobals "tuple" =some none)
  (l5:PySem.W.nsIn K mainGlobals "MOST_HANDS" =some (some (.int 6 yH)))
  :∃(κ:Kl) (fd:FuncData),(∀(s:Shared) (v:Value),BindsTo s fd ⟨[v],[]⟩ [("_law_script",v)])/\∀base:Heap,K.In base->base.Ns mainGlobals mg->aL l.prog w K mg base cP 35 fa fd ["_law_script"] (d5 K κ false Ec):=by
 have e:=Uo.symm.trans (ut X G Eg)
 cases e
 obtain⟨iR,sJ⟩:=a7 o8
 have eU:Ed K mg "has_hand" (top 13) ["group","hand"] _ _:=⟨sJ,sJ.binds (ps:=["group","hand"]) λ_ _ _ _ _ _ us hl=>by obtain⟨a0,a1,rfl⟩:=oO hl;rfl,ut X G o7⟩
 obtain⟨iS,sL⟩:=a7 pd
 have eV:Ed K mg "hands_of" (top 14) ["group"] _ _:=⟨sL,sL.binds (ps:=["group"]) λ_ _ _ _ _ _ us hl=>by obtain⟨a0,rfl⟩:=yd hl;rfl,ut X G o9⟩
 obtain⟨jN,AQ⟩:=a7 y8
 have gQ:Ed K mg "place" (top 16) ["group"] _ _:=⟨AQ,AQ.binds (ps:=["group"]) λ_ _ _ _ _ _ us hl=>by obtain⟨a0,rfl⟩:=yd hl;rfl,ut X G y7⟩
 obtain⟨fq,xi⟩:=a7 vt
 have cM:Ed K mg "within" (top 17) ["one","two"] _ _:=⟨xi,xi.binds (ps:=["one","two"]) λ_ _ _ _ _ _ us hl=>by obtain⟨a0,a1,rfl⟩:=oO hl;rfl,ut X G vq⟩
 obtain⟨lH,Eh⟩:=a7 CJ
 have iu:Ed K mg "lets" (top 20) ["ladder","group"] _ _:=⟨Eh,Eh.binds (ps:=["ladder","group"]) λ_ _ _ _ _ _ us hl=>by obtain⟨a0,a1,rfl⟩:=oO hl;rfl,ut X G CI⟩
 obtain⟨mU,AR⟩:=a7 za
 have j4:Ed K mg "least" (top 21) ["groups"] _ _:=⟨AR,AR.binds (ps:=["groups"]) λ_ _ _ _ _ _ us hl=>by obtain⟨a0,rfl⟩:=yd hl;rfl,ut X G y9⟩
 obtain⟨gK,qC⟩:=a7 nu
 have dO:Ed K mg "groups_of" (top 18) ["count"] _ _:=⟨qC,qC.binds (ps:=["count"]) λ_ _ _ _ _ _ us hl=>by obtain⟨a0,rfl⟩:=yd hl;rfl,ut X G nr⟩
 obtain⟨jO,vw⟩:=a7 rQ
 have gi:Ed K mg "letting" (top 22) ["ladders","group"] _ _:=⟨vw,vw.binds (ps:=["ladders","group"]) λ_ _ _ _ _ _ us hl=>by obtain⟨a0,a1,rfl⟩:=oO hl;rfl,ut X G rP⟩
 obtain⟨lI,Ei⟩:=a7 CL
 have iv:Ed K mg "some" (top 23) ["many","ladders"] _ _:=⟨Ei,Ei.binds (ps:=["many","ladders"]) λ_ _ _ _ _ _ us hl=>by obtain⟨a0,a1,rfl⟩:=oO hl;rfl,ut X G CK⟩
 obtain⟨cC,sM⟩:=a7 pq
 have bA:Ed K mg "group_of" (top 15) ["roll","names"] _ _:=⟨sM,sM.binds (ps:=["roll","names"]) λ_ _ _ _ _ _ us hl=>by obtain⟨a0,a1,rfl⟩:=oO hl;rfl,ut X G pj⟩
 obtain⟨dJ,cO⟩:=a7 gc
 have aY:Em K "ladder" "Counting.ladder" (c8 27 2) ["self","roll"] _ _:=⟨cO,cO.binds (ps:=["self","roll"]) λ_ _ _ _ _ _ us hl=>by obtain⟨a0,a1,rfl⟩:=oO hl;rfl⟩
 obtain⟨eG,dA⟩:=a7 iD
 have bq:Em K "lets" "Counting.lets" (c8 27 1) ["self","roll","group"] _ _:=⟨dA,dA.binds (ps:=["self","roll","group"]) λ_ _ _ _ _ _ us hl=>by obtain⟨a0,a1,a2,rfl⟩:=z9 hl;rfl⟩
 obtain⟨fP,jc⟩:=a7 jR
 have cY:Em K "ladder" "Hand.ladder" (c8 26 4) ["self","roll"] _ _:=⟨jc,jc.binds (ps:=["self","roll"]) λ_ _ _ _ _ _ us hl=>by obtain⟨a0,a1,rfl⟩:=oO hl;rfl⟩
 obtain⟨iI,kz⟩:=a7 lV
 have d0:Em K "lets" "Hand.lets" (c8 26 3) ["self","roll","group"] _ _:=⟨kz,kz.binds (ps:=["self","roll","group"]) λ_ _ _ _ _ _ us hl=>by obtain⟨a0,a1,a2,rfl⟩:=z9 hl;rfl⟩
 obtain⟨bp,nN⟩:=a7 kv
 have aq:Ed K mg "_law_cell_at" (top 32) ["_law_script","_law_k"] _ _:=⟨nN,nN.binds (ps:=["_law_script","_law_k"]) λ_ _ _ _ _ _ us hl=>by obtain⟨a0,a1,rfl⟩:=oO hl;rfl,ut X G ku⟩
 obtain⟨iT,sN⟩:=a7 pB
 have eW:Ed K mg "_law_name" (top 34) ["_law_base_here","_law_place","_law_size","_law_k"] _ _:=⟨sN,sN.binds (ps:=["_law_base_here","_law_place","_law_size","_law_k"]) λ_ _ _ _ _ _ us hl=>by obtain⟨a0,a1,a2,a3,rfl⟩:=Og hl;rfl,ut X G pA⟩
 obtain⟨iU,sO⟩:=a7 pD
 have eX:Ed K mg "_law_base" (top 33) ["_law_cell","_law_size"] _ _:=⟨sO,sO.binds (ps:=["_law_cell","_law_size"]) λ_ _ _ _ _ _ us hl=>by obtain⟨a0,a1,rfl⟩:=oO hl;rfl,ut X G pC⟩
 obtain⟨gL,qD⟩:=a7 nB
 have dP:Ed K mg "_law_names" (top 35) ["_law_script","_law_at","_law_many"] _ _:=⟨qD,qD.binds (ps:=["_law_script","_law_at","_law_many"]) λ_ _ _ _ _ _ us hl=>by obtain⟨a0,a1,a2,rfl⟩:=z9 hl;rfl,ut X G nA⟩
 obtain⟨iV,sP⟩:=a7 pF
 have eY:Ed K mg "_law_roll" (top 36) ["_law_script"] _ _:=⟨sP,sP.binds (ps:=["_law_script"]) λ_ _ _ _ _ _ us hl=>by obtain⟨a0,rfl⟩:=yd hl;rfl,ut X G pE⟩
 obtain⟨cX,nO⟩:=a7 ky
 have bE:Ed K mg "_law_counted" (top 38) ["_law_kind","_law_many","_law_items"] _ _:=⟨nO,nO.binds (ps:=["_law_kind","_law_many","_law_items"]) λ_ _ _ _ _ _ us hl=>by obtain⟨a0,a1,a2,rfl⟩:=z9 hl;rfl,ut X G kx⟩
 obtain⟨fM,oE⟩:=a7 lX
 have dv:Ed K mg "_law_folded" (top 39) ["_law_pile","_law_cell"] _ _:=⟨oE,oE.binds (ps:=["_law_pile","_law_cell"]) λ_ _ _ _ _ _ us hl=>by obtain⟨a0,a1,rfl⟩:=oO hl;rfl,ut X G lW⟩
 obtain⟨iW,sQ⟩:=a7 pH
 have cZ:Ed K mg "_law_hand" (top 37) ["_law_name_here"] _ _:=⟨sQ,sQ.binds (ps:=["_law_name_here"]) λ_ _ _ _ _ _ us hl=>by obtain⟨a0,rfl⟩:=yd hl;rfl,ut X G pG⟩
 obtain⟨gM,qE⟩:=a7 nE
 have dQ:Ed K mg "_law_built" (top 40) ["_law_script","_law_at","_law_size","_law_roll_here"] _ _:=⟨qE,qE.binds (ps:=["_law_script","_law_at","_law_size","_law_roll_here"]) λ_ _ _ _ _ _ us hl=>by obtain⟨a0,a1,a2,a3,rfl⟩:=Og hl;rfl,ut X G nD⟩
 obtain⟨du,j9⟩:=a7 iF
 have bS:Ed K mg "_law_other_roll" (top 44) ["_law_script","_law_roll_here"] _ _:=⟨j9,j9.binds (ps:=["_law_script","_law_roll_here"]) λ_ _ _ _ _ _ us hl=>by obtain⟨a0,a1,rfl⟩:=oO hl;rfl,ut X G iE⟩
 obtain⟨cJ,mh⟩:=a7 jT
 have a8:Ed K mg "_law_names_in" (top 43) ["_law_shape"] _ _:=⟨mh,mh.binds (ps:=["_law_shape"]) λ_ _ _ _ _ _ us hl=>by obtain⟨a0,rfl⟩:=yd hl;rfl,ut X G jS⟩
 obtain⟨gN,qF⟩:=a7 nG
 have dR:Ed K mg "_law_kinds" (top 42) ["_law_e"] _ _:=⟨qF,qF.binds (ps:=["_law_e"]) λ_ _ _ _ _ _ us hl=>by obtain⟨a0,rfl⟩:=yd hl;rfl,ut X G nF⟩
 obtain⟨dY,qG⟩:=a7 nI
 have bF:Ed K mg "_law_asked" (top 45) ["_law_rule","_law_which","_law_roll_here","_law_group"] _ _:=⟨qG,qG.binds (ps:=["_law_rule","_law_which","_law_roll_here","_law_group"]) λ_ _ _ _ _ _ us hl=>by obtain⟨a0,a1,a2,a3,rfl⟩:=Og hl;rfl,ut X G nH⟩
 obtain⟨dZ,qH⟩:=a7 nK
 have bz:Ed K mg "_law_holds" (top 41) ["_law_shape","_law_roll_here","_law_group"] _ _:=⟨qH,qH.binds (ps:=["_law_shape","_law_roll_here","_law_group"]) λ_ _ _ _ _ _ us hl=>by obtain⟨a0,a1,a2,rfl⟩:=z9 hl;rfl,ut X G nJ⟩
 obtain⟨gO,qI⟩:=a7 nM
 have dS:Ed K mg "_law_right" (top 46) ["_law_rule","_law_shape","_law_roll_here"] _ _:=⟨qI,qI.binds (ps:=["_law_rule","_law_shape","_law_roll_here"]) λ_ _ _ _ _ _ us hl=>by obtain⟨a0,a1,a2,rfl⟩:=z9 hl;rfl,ut X G nL⟩
 obtain⟨yy,CO⟩:=a7 IP
 have IJ:Ed K mg "law" (top 47) ["_law_script"] _ _:=⟨CO,CO.binds (ps:=["_law_script"]) λ_ _ _ _ _ _ us hl=>by obtain⟨a0,rfl⟩:=yd hl;rfl,ut X G Eg⟩
 obtain⟨Ay,Mx⟩:=a7 OP
 have RK:Em K "__init__" "Hand.__init__" (c8 26 0) ["self","name"] _ _:=⟨Mx,Mx.binds (ps:=["self","name"]) λ_ _ _ _ _ _ us hl=>by obtain⟨a0,a1,rfl⟩:=oO hl;rfl⟩
 obtain⟨Az,Mz⟩:=a7 OQ
 have RL:Em K "__init__" "All.__init__" (c8 28 0) ["self","parts"] _ _:=⟨Mz,Mz.binds (ps:=["self","parts"]) λ_ _ _ _ _ _ us hl=>by obtain⟨a0,a1,rfl⟩:=oO hl;rfl⟩
 obtain⟨AA,MA⟩:=a7 OS
 have RN:Em K "__init__" "Any.__init__" (c8 29 0) ["self","parts"] _ _:=⟨MA,MA.binds (ps:=["self","parts"]) λ_ _ _ _ _ _ us hl=>by obtain⟨a0,a1,rfl⟩:=oO hl;rfl⟩
 obtain⟨AB,MB⟩:=a7 OT
 have RO:Em K "__init__" "Some.__init__" (c8 30 0) ["self","many","parts"] _ _:=⟨MB,MB.binds (ps:=["self","many","parts"]) λ_ _ _ _ _ _ us hl=>by obtain⟨a0,a1,a2,rfl⟩:=z9 hl;rfl⟩
 obtain⟨xg,IV⟩:=a7 OU
 have OV:Em K "__init__" "Counting.__init__" (c8 27 0) ["self","wanted","parts"] _ _:=⟨IV,IV.binds (ps:=["self","wanted","parts"]) λ_ _ _ _ _ _ us hl=>by obtain⟨a0,a1,a2,rfl⟩:=z9 hl;rfl⟩
 have B:Bl mg:=⟨Za X G lZ,Za X G IQ,Za X G CM,Za X G l0,Za X G IS,Za X G CN,Za X G IT,Za X G zb,Za X G vv,Za X G IU,Za X G zc,⟨_,ut X G l5⟩⟩
 let κ:Kl:=⟨λc=>match c with|0=>c_Hand|1=>c_All|2=>c_Any|_=>c_Some,tF⟩
 have C:Cf K mg κ rD ix jJ jK jL jM iq:=⟨rfl,λc hc=>match c,hc with|0,_=>⟨tN,tO,tP,tQ⟩|1,_=>⟨yN,yO,yP,yQ⟩|2,_=>⟨yR,yS,yT,yU⟩|3,_=>⟨tS,tT,tU,tW⟩|_+4,hc=>absurd hc (by omega),nh,λc h0 hc=>match c,h0,hc with|0,h0,_=>absurd h0 (by omega)|1,_,_=>lP|2,_,_=>lQ|3,_,_=>kn|_+4,_,hc=>absurd hc (by omega),λc h0 hc=>match c,h0,hc with|0,h0,_=>absurd h0 (by omega)|1,_,_=>ni|2,_,_=>nj|3,_,_=>lR|_+4,_,hc=>absurd hc (by omega),⟨yI,fiH,fnH,yJ⟩,⟨Cv,fiA,fnA,Cw⟩,⟨CB,fiY,fnY,CD⟩,⟨yV,fiS,fnS,yW⟩,ut X G Ct,ut X G IL,ut X G IM,ut X G Cu,⟨⟨_,rdC,fcC⟩,gaC,hdC,IV.kp⟩,ut X G o5,λc hc=>match c,hc with|0,_=>⟨⟨tN,tO,tP,tQ⟩,yK,ON,OO,yL,yM⟩|1,_=>⟨⟨yN,yO,yP,yQ⟩,Cy,ON,OO,Cz,CA⟩|2,_=>⟨⟨yR,yS,yT,yU⟩,CF,ON,OO,CG,CH⟩|3,_=>⟨⟨tS,tT,tU,tW⟩,yX,ON,OO,yY,yZ⟩|_+4,hc=>absurd hc (by omega),ut X G Cs⟩
 have Z:Zx K mg bR fK ak d8 fL iH dD d9 ef:=⟨ut X G nq,ut X G vn,ut X G vo,ut X G rE,ut X G vp,ut X G y6,ut X G o6,ut X G rF,ut X G rG,.of rH,⟨rJ,rK,rL,ON,OO,rM,rN,by rw[rO];rfl⟩,⟨Uw,by rw[Ux];rfl,Uy,b4_NoHand⟩,iA,iB,gX,iC,i8,f9,gZ,g9,fg⟩
 refine⟨κ,yy,λs v=>(by obtain⟨_,_,_,_,_,_,_,_,_,e,_⟩:=CO.ex;rw[e];exact .of_eq rfl),λbase _ _=>?_⟩
 have OK:=RG (P:=l.prog) (w:=w) (base:=base) B C RK
 have OL:=RK.b
 have OE:=RH (P:=l.prog) (w:=w) (base:=base) B C OV RL
 have OF:=RL.b
 have OG:=RI (P:=l.prog) (w:=w) (base:=base) B C OV RN
 have OH:=RN.b
 have OI:=RJ (P:=l.prog) (w:=w) (base:=base) B C OV RO
 have OJ:=RO.b
 have oW:=AE (P:=l.prog) (w:=w) (base:=base) (κ:=κ) B eU
 have oX:=AF (P:=l.prog) (w:=w) (base:=base) (κ:=κ) B eV eU oW
 have n5:=IG (P:=l.prog) (w:=w) (base:=base) (κ:=κ) B gQ eV oX
 have gT:=Fm (P:=l.prog) (w:=w) (base:=base) (κ:=κ) B cM
 have rB:=Lj (P:=l.prog) (w:=w) (base:=base) (κ:=κ) B iu cM gT
 have yA:=IH (P:=l.prog) (w:=w) (base:=base) (κ:=κ) B j4 hK gQ n5 iu rB
 have mV:=yz (P:=l.prog) (w:=w) (base:=base) (κ:=κ) B dO hK gQ n5
 have rC:=Cr (P:=l.prog) (w:=w) (base:=base) (κ:=κ) B gi iu rB
 have mW:=Lk (P:=l.prog) (w:=w) (base:=base) (κ:=κ) B iv j4 yA dO mV gi rC
 have cK:=AI (P:=l.prog) (w:=w) (base:=base) (κ:=κ) B bA Z
 have j7:Meth K (κ.adr 0) "lets" cS:=⟨lU,kr,kz.kp⟩
 have lN:Meth K (κ.adr 1) "lets" aM:=⟨nv,dz,dA.kp⟩
 have lO:Meth K (κ.adr 2) "lets" aM:=⟨ny,dz,dA.kp⟩
 have j8:Meth K (κ.adr 3) "lets" aM:=⟨lT,dz,dA.kp⟩
 have lK:jD l.prog w K mg base κ (λk=>[ak].getD k 0) "lets" 32 _ jH:=AO (P:=l.prog) (w:=w) (base:=base) B C bq d0 j7 lN lO j8 cM gT bA cK 24
 have iJ:Meth K (κ.adr 0) "ladder" b6:=⟨jQ,i9,jc.kp⟩
 have jm:Meth K (κ.adr 1) "ladder" aK:=⟨ko,cN,cO.kp⟩
 have jo:Meth K (κ.adr 2) "ladder" aK:=⟨kq,cN,cO.kp⟩
 have iK:Meth K (κ.adr 3) "ladder" aK:=⟨jP,cN,cO.kp⟩
 have gU:jD l.prog w K mg base κ (λk=>[ak].getD k 0) "ladder" 32 _ eN:=vm (P:=l.prog) (w:=w) (base:=base) B C aY cY iJ jm jo iK iv mW bA cK 24
 have aQ:=vj (P:=l.prog) (w:=w) (base:=base) (κ:=κ) B aq
 have oY:=AK (P:=l.prog) (w:=w) (base:=base) (κ:=κ) B eW
 have oZ:=AL (P:=l.prog) (w:=w) (base:=base) (κ:=κ) B eX
 have mY:=yB (P:=l.prog) (w:=w) (base:=base) (κ:=κ) B dP aq aQ eW oY eX oZ
 have o4:=AM (P:=l.prog) (w:=w) (base:=base) (κ:=κ) B eY dP mY aq aQ
 have eh:=vk (P:=l.prog) (w:=w) (base:=base) (κ:=κ) B bE C OE OF OG OH OI OJ
 have lL:=v8 (P:=l.prog) (w:=w) (base:=base) (κ:=κ) B dv bE eh
 have lM:=AN (P:=l.prog) (w:=w) (base:=base) (κ:=κ) B cZ C OK OL
 have m9:=yC (P:=l.prog) (w:=w) (base:=base) (κ:=κ) B dQ dv lL cZ lM aq aQ bE eh
 have iw:=qw (P:=l.prog) (w:=w) (base:=base) (κ:=κ) B bS aq aQ
 have eZ:=ti (P:=l.prog) (w:=w) (base:=base) (κ:=κ) B a8
 have m8:=yD (P:=l.prog) (w:=w) (base:=base) B dR Z
 have fe:=yE (P:=l.prog) (w:=w) (base:=base) (κ:=κ) B bF C Z gU lK dR m8
 have gj:=yF (P:=l.prog) (w:=w) (base:=base) (κ:=κ) B bz
 have ng:=yG (P:=l.prog) (w:=w) (base:=base) (κ:=κ) B dS bF fe bz gj
 have RP:=OM (P:=l.prog) (w:=w) (base:=base) (κ:=κ) B IJ C eY o4 dQ m9 bS iw aq aQ a8 eZ dS ng bF fe
 exact RP
end
def Fo(x:Str):Prop:=Lw x/\1<=x.length/\x.length<=50
theorem iL{i:Nat}{body:aR}{x:PV}{xs:List PV}{ρ ρ':cA}(h:body (ρ.set i (.sh x))=some (.nx ρ')):forL (bN i) body (x::xs) ρ=forL (bN i) body xs ρ':=by
 rw[yi]
 show(body (ρ.set i (.sh x))).bind _=_
 rw[h]
 rfl
theorem Fp(x:Str)(n:Nat)(h:x.length<=n):(di x none (some (n:Int)) 1).length=x.length:=by
 have e:Builtin.Str.strSliceIndices none (some (n:Int)) 1 x.length=(List.range x.length).map (0+·):=by
  have:=PySem.sliceRange_one 0 x.length
  rw[YV]at this
  rw[<-this]
  unfold Builtin.Str.strSliceIndices
  simp only
  congr 1
  rw[if_pos (by decide),if_neg (by omega)]
  omega
 unfold di
 rw[e]
 rw[if_pos (by rw[wE,Zj];simp)]
theorem Fq(s0 s1:Slot){m:Int}(h0:0<=m)(h1:m<2147483647){x:Str}(hx:x.length<=100)(k:Nat):∃m' x',0<=m'/\m'<2147483647/\x'.length=x.length+1/\(Lw x->Lw x')/\lD [s0,s1,.sh (.int m),.sh (.str x),.sh (.int k)]=some (.nx [s0,s1,.sh (.int m'),.sh (.str x'),.sh (.int k)]):=by
 have e1:ag bY (ag bU (ag bU (ag bU (ag rb (dV 2) (dV 2)) (ag rb (dC (.int 48271)) (dV 2))) (dV 4)) (dC (.int 1))) (dC (.int 2147483647)) [s0,s1,.sh (.int m),.sh (.str x),.sh (.int k)]=some (.int ((m*m+48271*m+k+1) % 2147483647)):=by
  refine(ai (x:=.int (m*m+48271*m+k+1)) (y:=.int 2147483647) ?_ rfl).trans (mP _ (by decide))
  refine(ai (x:=.int (m*m+48271*m+k)) (y:=.int 1) ?_ rfl).trans rfl
  refine(ai (x:=.int (m*m+48271*m)) (y:=.int k) ?_ rfl).trans rfl
  refine(ai ((ai (x:=.int m) (y:=.int m) rfl rfl).trans (ju (by omega) (by omega))) ((ai (x:=.int 48271) (y:=.int m) rfl rfl).trans (ju (by omega) (by omega)))).trans rfl
 have b1:=YB (m*m+48271*m+k+1) (show(2147483647:Int)≠0 by decide)
 have b2:=Zp (m*m+48271*m+k+1) (show(0:Int)<2147483647 by decide)
 generalize(m*m+48271*m+k+1) % 2147483647=m' at e1 b1 b2
 have b3:=mod_lt m' (n:=26) (by decide)
 have ey:=xf b3
 refine⟨m',x++lz ((m' %((26:Nat):Int)).toNat),b1,b2,by rw[cH];rfl,λh=>yv h (D8 b3),(av (aO e1)).trans (aO ?_)⟩
 refine(ai (x:=.str x) (y:=.str (lz ((m' %((26:Nat):Int)).toNat))) rfl ?_).trans (gI _ _ (by show x.length+1<=_;omega))
 exact(ai (x:=.str ot) rfl ((ai (x:=.int m') (y:=.int ((26:Nat):Int)) rfl rfl).trans (dq _ (by decide)))).trans ey
theorem AS(s0 s1:Slot):∀(ks:List Nat) (m:Int) (x:Str) (s4:Slot),0<=m->m<2147483647->x.length+ks.length<=100->
  ∃m' x' t4,x'.length=x.length+ks.length/\(Lw x->Lw x')/\forL (bN 4) lD (pl ks) [s0,s1,.sh (.int m),.sh (.str x),s4]=some (.nx [s0,s1,.sh (.int m'),.sh (.str x'),t4])
 |[],m,x,s4,_,_,_=>⟨m,x,s4,rfl,id,rfl⟩
 |k::ks,m,x,s4,h0,h1,h2=>by
  rw[ul]at h2
  obtain⟨m1,x1,a1,a2,a3,a5,a4⟩:=Fq s0 s1 h0 h1 (x:=x) (by omega) k
  obtain⟨m2,x2,t4,b1,b3,b2⟩:=AS s0 s1 ks m1 x1 (.sh (.int k)) a1 a2 (by omega)
  refine⟨m2,x2,t4,by rw[b1,a3,ul];omega,λh=>b3 (a5 h),Eq.trans ?_ b2⟩
  exact iL (i:=4) (x:=.int k) (xs:=pl ks) (ρ:=[s0,s1,.sh (.int m),.sh (.str x),s4]) a4
theorem Lm(c:Int):∃x:Str,x.length=20/\Lw x/\F_law_base [.int c,.int 20]=some (.str x):=by
 have b1:=YB c (show(2147483647:Int)≠0 by decide)
 have b2:=Zp c (show(0:Int)<2147483647 by decide)
 have e1:ag bY (ag bU (ag rb (ag bY (dV 0) (dC (.int 2147483647))) (dC (.int 16807))) (dC (.int 11))) (dC (.int 2147483647)) [.sh (.int c),.sh (.int 20),.un,.un,.un]=some (.int ((c % 2147483647*16807+11) % 2147483647)):=by
  refine(ai (x:=.int (c % 2147483647*16807+11)) (y:=.int 2147483647) ?_ rfl).trans (mP _ (by decide))
  refine(ai (x:=.int (c % 2147483647*16807)) (y:=.int 11) ?_ rfl).trans rfl
  exact(ai (x:=.int (c % 2147483647)) (y:=.int 16807) ((ai (x:=.int c) (y:=.int 2147483647) rfl rfl).trans (mP _ (by decide))) rfl).trans (ju (by omega) (by omega))
 have b3:=YB (c % 2147483647*16807+11) (show(2147483647:Int)≠0 by decide)
 have b4:=Zp (c % 2147483647*16807+11) (show(0:Int)<2147483647 by decide)
 generalize(c % 2147483647*16807+11) % 2147483647=m at e1 b3 b4
 obtain⟨m',x',t4,h1,h3,h2⟩:=AS (.sh (.int c)) (.sh (.int 20)) (List.range 20) m "" .un b3 b4 (by decide)
 refine⟨x',by rw[h1];decide,h3 (IE (by decide+kernel)),dk rfl ?_⟩
 refine(av (aO e1)).trans ((av (aO (p:=.str "") rfl)).trans ?_)
 exact(av ((gF (mO (n:=20) rfl (by decide))).trans h2)).trans rfl
theorem Ln{b:Str}{place size:Nat}(h1:place<b.length)(h2:b.length<=100):∃F:Int,∀k:Nat,k<=1000->bO [.str b,.int place,.int size,.int k]=some (.str ((di b none (some (place:Int)) 1++lz ((F+3*(k:Int)) %((26:Nat):Int)).toNat)++di b (some ((place+1:Nat):Int)) (some (size:Int)) 1)):=by
 obtain⟨c,hc,ec⟩:=OA (x:=b) (i:=place) h1 (by omega)
 refine⟨Txt.find ot c,λk h3=>?_⟩
 have b3:=mod_lt (Txt.find ot c+3*(k:Int)) (n:=26) (by decide)
 have ey:=xf b3
 have c1:=vd b none (some (place:Int)) (st:=1) (by decide)
 have c2:=vd b (some ((place+1:Nat):Int)) (some (size:Int)) (st:=1) (by decide)
 refine dk rfl ?_
 refine(av (aO (p:=.str ot) rfl)).trans ((av (aO (p:=.str (lz ((Txt.find ot c+3*(k:Int)) %((26:Nat):Int)).toNat)) ?_)).trans (dW ?_))
 ·refine(ai (x:=.str ot) rfl ((ai (x:=.int (Txt.find ot c+3*(k:Int))) (y:=.int ((26:Nat):Int)) ?_ rfl).trans (dq _ (by decide)))).trans ey
  refine(ai (x:=.int (Txt.find ot c)) (y:=.int (3*(k:Int))) ?_ ((ai (x:=.int 3) (y:=.int k) rfl rfl).trans (ju (by decide) (by decide)))).trans rfl
  exact(ai (x:=.str ot) rfl ((ai (x:=.str b) (y:=.int place) rfl rfl).trans ec)).trans rfl
 ·have hj:∀j,(lz j).length=1:=λ_=>rfl
  have hj:=hj ((Txt.find ot c+3*(k:Int)) %((26:Nat):Int)).toNat
  refine(ai ((ai (y:=.str (lz ((Txt.find ot c+3*(k:Int)) %((26:Nat):Int)).toNat)) (qp (y:=b) rfl rfl rfl (by omega)) rfl).trans (gI _ _ (by omega))) (qp (y:=b) (l:=some ((place+1:Nat):Int)) rfl rfl rfl (by omega))).trans (gI _ _ (by rw[cH];omega))
def vx:List PV:=[.str "",.str "",.str "all",.str "",.str "any",.str "",.str "of",.str "al"]
theorem Ft:((List.range 8).all λi=>match itemAt vx (i:Int)with|some (.str w)=>decide (w.length<=3)&&Uv w|_=>false)=true:=by decide+kernel
theorem IW{i:Nat}(h:i<8):∃w:Str,w.length<=3/\Lw w/\jA (.lst vx) (.int i)=some (.str w):=by
 have:=ZA.mp Ft i (ZG.mpr h)
 show∃w:Str,w.length<=3/\Lw w/\itemAt vx (i:Int)=some (.str w)
 split at this
 ·rename_i w e
  rw[re]at this
  exact⟨w,of_decide_eq_true this.1,IE this.2,e⟩
 ·cases this
def y2(cell:Int)(b:Str)(place size:Nat)(F:Int)(k:Nat):Str:=if decide (cell/20 % 4=1)=true then di b none (some ((k+1:Nat):Int)) 1 else(di b none (some (place:Int)) 1++lz ((F+3*(k:Int)) %((26:Nat):Int)).toNat)++di b (some ((place+1:Nat):Int)) (some (size:Int)) 1
theorem MC{cell:Int}{b:Str}{place size:Nat}{F:Int}(hb:b.length=20)(ab:Lw b)(k:Nat):Fo (y2 cell b place size F k):=by
 have c1:=vd b none (some (place:Int)) (st:=1) (by decide)
 have c2:=vd b (some ((place+1:Nat):Int)) (some (size:Int)) (st:=1) (by decide)
 have c3:=vd b none (some ((k+1:Nat):Int)) (st:=1) (by decide)
 unfold y2
 split
 ·refine⟨yw ab _ _ _,?_,by omega⟩
  by_cases W7:k+1<=b.length
  ·rw[yt b (k+1) W7];omega
  ·rw[Fp b (k+1) (by omega)];omega
 ·have hj:(lz ((F+3*(k:Int)) %((26:Nat):Int)).toNat).length=1:=rfl
  exact⟨yv (yv (yw ab _ _ _) (D8 (mod_lt _ (by decide)))) (yw ab _ _ _),by rw[cH,cH,hj];omega,by rw[cH,cH,hj];omega⟩
theorem RQ{cell:Int}{b:Str}{place size:Nat}{F:Int}(hb:b.length=20){j k:Nat}(hj:j<6)(hk:k<6)(h:j≠k):fin (y2 cell b place size F j)≠fin (y2 cell b place size F k):=by
 unfold y2
 cases decide (cell/20 % 4=1)with
 |true=>
  rw[if_pos rfl,if_pos rfl]
  intro e
  have:=congrArg Str.length e
  rw[tM,tM,yt b (j+1) (by omega),yt b (k+1) (by omega)]at this
  omega
 |false=>
  rw[if_neg Bool.noConfusion,if_neg Bool.noConfusion]
  exact OD (Li _ _ (by omega))
section
variable{F_law_cell_at bO F_law_base:List PV->Option PV}(hC:∀(ns:List Int) (k:Nat),F_law_cell_at [hV ns,.int k]=some (.int (ns.getD k 0)))
 (hB:∀c:Int,∃x:Str,x.length=20/\Lw x/\F_law_base [.int c,.int 20]=some (.str x))
theorem CP(s0 s1 s2 s5 s6:Slot)(cell:Int){s:Nat}(Py:0<s){b:Str}(hb:b.length=20)(ab:Lw b){F:Int}(acc:List Str)(W8:acc.length<=1000)(k:Nat)(sR:Slot)
  (e1:bO [.str b,.int ((cell/80 %(s:Int)).toNat:Nat),.int s,.int k]=some (.str ((di b none (some ((cell/80 %(s:Int)).toNat:Int)) 1++lz ((F+3*(k:Int)) %((26:Nat):Int)).toNat)++di b (some (((cell/80 %(s:Int)).toNat+1:Nat):Int)) (some (s:Int)) 1))):
  kl F_law_cell_at bO F_law_base [s0,s1,s2,.sh (.int cell),.sh (.int s),s5,s6,.sh (.str b),.ow (acc.map PV.str),.sh (.int k),sR]=some (.nx [s0,s1,s2,.sh (.int cell),.sh (.int s),s5,s6,.sh (.str b),.ow ((acc++[fin (y2 cell b (cell/80 %(s:Int)).toNat s F k)]).map PV.str),.sh (.int k),.sh (.str (fin (y2 cell b (cell/80 %(s:Int)).toNat s F k)))]):=by
 have zl:(5000:Nat)<=sizeLine:=by decide
 obtain⟨_,_,l2⟩:=MC (cell:=cell) (place:=(cell/80 %(s:Int)).toNat) (size:=s) (F:=F) hb ab k
 have bQ:(oo (tV (ag pW (ag bY (ag ij (dV 3) (dC (.int 20))) (dC (.int 4))) (dC (.int 1)))) (b8 10 (zI (dV 7) fw (cL (ag bU (dV 9) (dC (.int 1)))))) fz) [s0,s1,s2,.sh (.int cell),.sh (.int s),s5,s6,.sh (.str b),.ow (acc.map PV.str),.sh (.int k),.sh (.str ((di b none (some ((cell/80 %(s:Int)).toNat:Int)) 1++lz ((F+3*(k:Int)) %((26:Nat):Int)).toNat)++di b (some (((cell/80 %(s:Int)).toNat+1:Nat):Int)) (some (s:Int)) 1))]=some (.nx [s0,s1,s2,.sh (.int cell),.sh (.int s),s5,s6,.sh (.str b),.ow (acc.map PV.str),.sh (.int k),.sh (.str (y2 cell b (cell/80 %(s:Int)).toNat s F k))]):=by
  unfold y2
  generalize((di b none (some ((cell/80 %(s:Int)).toNat:Int)) 1++lz ((F+3*(k:Int)) %((26:Nat):Int)).toNat)++di b (some (((cell/80 %(s:Int)).toNat+1:Nat):Int)) (some (s:Int)) 1)=y1
  have t:tV (ag pW (ag bY (ag ij (dV 3) (dC (.int 20))) (dC (.int 4))) (dC (.int 1))) [s0,s1,s2,.sh (.int cell),.sh (.int s),s5,s6,.sh (.str b),.ow (acc.map PV.str),.sh (.int k),.sh (.str y1)]=some (decide (cell/20 % 4=1)):=cT rfl
  cases hd:decide (cell/20 % 4=1)
  ·rw[hd]at t
   exact(eK t).trans rfl
  ·rw[hd]at t
   refine(jF t).trans (aO ?_)
   exact qp (y:=b) (h:=some ((k+1:Nat):Int)) rfl rfl rfl (by omega)
 generalize y2 cell b (cell/80 %(s:Int)).toNat s F k=y at bQ l2
 have qL:(oo (tV (ag QJ (dV 10) (jj (aa (dC (.str "all")) (aa (dC (.str "any")) (aa (dC (.str "of")) aH)))))) (b8 10 (bW NP (dV 10))) fz) [s0,s1,s2,.sh (.int cell),.sh (.int s),s5,s6,.sh (.str b),.ow (acc.map PV.str),.sh (.int k),.sh (.str y)]=some (.nx [s0,s1,s2,.sh (.int cell),.sh (.int s),s5,s6,.sh (.str b),.ow (acc.map PV.str),.sh (.int k),.sh (.str (fin y))]):=by
  have tt:jj (aa (dC (.str "all")) (aa (dC (.str "any")) (aa (dC (.str "of")) aH))) [s0,s1,s2,.sh (.int cell),.sh (.int s),s5,s6,.sh (.str b),.ow (acc.map PV.str),.sh (.int k),.sh (.str y)]=some (.tup kept):=by
   show(if(3:Nat)<=sizeLine then some (PV.tup kept)else none)=_
   rw[if_pos (by omega)]
  have t:tV (ag QJ (dV 10) (jj (aa (dC (.str "all")) (aa (dC (.str "any")) (aa (dC (.str "of")) aH))))) [s0,s1,s2,.sh (.int cell),.sh (.int s),s5,s6,.sh (.str b),.ow (acc.map PV.str),.sh (.int k),.sh (.str y)]=some (vN (.str y) kept):=cT ((ai (x:=.str y) rfl tt).trans rfl)
  unfold fin
  cases hd:vN (.str y) kept
  ·rw[hd]at t
   exact(eK t).trans rfl
  ·rw[hd]at t
   refine(jF t).trans (aO ?_)
   show(if y.length<=sizeLine then some (PV.str (di y none none (-1)))else none)=_
   rw[if_pos (by omega)]
   rfl
 refine(av (aO ((aP (aB (x:=.str b) rfl (aB ((ai (x:=.int (cell/80)) (y:=.int s) rfl rfl).trans (dq _ Py)) (aB (x:=.int s) rfl (aB (x:=.int k) rfl rfl))))).trans e1))).trans ?_
 refine(av bQ).trans ((av qL).trans ?_)
 show((if(acc.map PV.str).length<sizeLine then some (acc.map PV.str++[PV.str (fin y)])else none).map λl'=>Fl.nx [s0,s1,s2,.sh (.int cell),.sh (.int s),s5,s6,.sh (.str b),.ow l',.sh (.int k),.sh (.str (fin y))])=_
 rw[if_pos (by rw[wE];omega),Zs]
 rfl
theorem xj(s0 s1 s2 s5 s6:Slot)(cell:Int){s:Nat}(Py:0<s){b:Str}(hb:b.length=20)(ab:Lw b){F:Int}
  (e1:∀k:Nat,k<=1000->bO [.str b,.int ((cell/80 %(s:Int)).toNat:Nat),.int s,.int k]=some (.str ((di b none (some ((cell/80 %(s:Int)).toNat:Int)) 1++lz ((F+3*(k:Int)) %((26:Nat):Int)).toNat)++di b (some (((cell/80 %(s:Int)).toNat+1:Nat):Int)) (some (s:Int)) 1))):
  ∀(ks:List Nat) (acc:List Str) (s9 sR:Slot),(∀k∈ks,k<=1000)->acc.length+ks.length<=1000->
  ∃(t9 Su:Slot),forL (bN 9) (kl F_law_cell_at bO F_law_base) (pl ks) [s0,s1,s2,.sh (.int cell),.sh (.int s),s5,s6,.sh (.str b),.ow (acc.map PV.str),s9,sR]=some (.nx [s0,s1,s2,.sh (.int cell),.sh (.int s),s5,s6,.sh (.str b),.ow ((acc++ks.map λk=>fin (y2 cell b (cell/80 %(s:Int)).toNat s F k)).map PV.str),t9,Su])
 |[],acc,s9,sR,_,_=>⟨s9,sR,by rw[X8,ZL];rfl⟩
 |k::ks,acc,s9,sR,h1,h2=>by
  rw[ul]at h2
  have e:=CP (F_law_cell_at:=F_law_cell_at) (F_law_base:=F_law_base) s0 s1 s2 s5 s6 cell Py hb ab acc (by omega) k sR (e1 k (h1 k (wT ..)))
  obtain⟨t9,Su,q3⟩:=xj s0 s1 s2 s5 s6 cell Py hb ab e1 ks (acc++[fin (y2 cell b (cell/80 %(s:Int)).toNat s F k)]) (.sh (.int k)) (.sh (.str (fin (y2 cell b (cell/80 %(s:Int)).toNat s F k)))) (λx hx=>h1 x (wf _ hx)) (by rw[ZD,Zb];omega)
  rw[tz,List.singleton_append]at q3
  refine⟨t9,Su,Eq.trans ?_ q3⟩
  exact iL (i:=9) (x:=.int k) (xs:=pl ks) (ρ:=[s0,s1,s2,.sh (.int cell),.sh (.int s),s5,s6,.sh (.str b),.ow (acc.map PV.str),s9,sR]) e
include hC hB in
theorem Fu(hN:∀{b:Str} {place size:Nat},place<b.length->b.length<=100->∃F:Int,∀k:Nat,k<=1000->bO [.str b,.int place,.int size,.int k]=some (.str ((di b none (some (place:Int)) 1++lz ((F+3*(k:Int)) %((26:Nat):Int)).toNat)++di b (some ((place+1:Nat):Int)) (some (size:Int)) 1)))
  (ns:List Int)(a many:Nat)(hm:many<=6):∃f:Nat->Str,(∀k,Fo (f k))/\(∀j k,j<6->k<6->j≠k->f j≠f k)/\fn true 11 3 (sv F_law_cell_at bO F_law_base) [hV ns,.int a,.int many]=some (.lst (((List.range many).map f).map PV.str)):=by
 have zl:(5000:Nat)<=sizeLine:=by decide
 have hs:=mod_lt (ns.getD a 0) (n:=20) (by decide)
 have hw:=mod_lt (ns.getD (a+1) 0) (n:=8) (by decide)
 obtain⟨w,lw,aw,ew⟩:=IW hw
 obtain⟨x,lx,ax,ex⟩:=hB (ns.getD (a+1) 0/8)
 have lb:(di (w++x) none (some ((20:Nat):Int)) 1).length=20:=yt (w++x) 20 (by rw[cH];omega)
 have ab:Lw (di (w++x) none (some ((20:Nat):Int)) 1):=yw (yv aw ax) _ _ _
 generalize eb:di (w++x) none (some ((20:Nat):Int)) 1=b at lb ab
 have hp:=mod_lt (ns.getD a 0/80) (n:=1+(ns.getD a 0 %((20:Nat):Int)).toNat) (by omega)
 obtain⟨F,hF⟩:=hN (b:=b) (place:=(ns.getD a 0/80 %((1+(ns.getD a 0 %((20:Nat):Int)).toNat:Nat):Int)).toNat) (size:=1+(ns.getD a 0 %((20:Nat):Int)).toNat) (by omega) (by omega)
 obtain⟨t9,Su,q3⟩:=xj (F_law_cell_at:=F_law_cell_at) (F_law_base:=F_law_base) (.sh (hV ns)) (.sh (.int a)) (.sh (.int many)) (.sh (.int (ns.getD (a+1) 0))) (.sh (.str w)) (ns.getD a 0) (s:=1+(ns.getD a 0 %((20:Nat):Int)).toNat) (by omega) lb ab hF (List.range many) [] .un .un (λk hk=>by have:=ZG.mp hk;omega) (by rw[Zj];simp;omega)
 rw[XX]at q3
 refine⟨λk=>fin (y2 (ns.getD a 0) b (ns.getD a 0/80 %((1+(ns.getD a 0 %((20:Nat):Int)).toNat:Nat):Int)).toNat (1+(ns.getD a 0 %((20:Nat):Int)).toNat) F k),λk=>?_,λj k hj hk h=>RQ lb hj hk h,dk rfl ?_⟩
 ·obtain⟨o1,o2,o3⟩:=MC (cell:=ns.getD a 0) (place:=(ns.getD a 0/80 %((1+(ns.getD a 0 %((20:Nat):Int)).toNat:Nat):Int)).toNat) (size:=1+(ns.getD a 0 %((20:Nat):Int)).toNat) (F:=F) lb ab k
  exact⟨OC o1,by rw[tM];exact o2,by rw[tM];exact o3⟩
 refine(av (aO ((aP (ps:=[hV ns,.int a]) rfl).trans (hC ns a)))).trans ?_
 refine(av (aO (p:=.int ((1+(ns.getD a 0 %((20:Nat):Int)).toNat:Nat):Int)) ((ai (x:=.int ((1:Nat):Int)) rfl ((ai (x:=.int (ns.getD a 0)) (y:=.int ((20:Nat):Int)) rfl rfl).trans (dq _ (by decide)))).trans rfl))).trans ?_
 refine(av (aO ((aP (ps:=[hV ns,.int ((a+1:Nat):Int)]) rfl).trans (hC ns (a+1))))).trans ?_
 generalize ns.getD (a+1) 0=more at*
 generalize ns.getD a 0=cell at*
 have W9:ag jA (i6 (aa (dC (.str "")) (aa (dC (.str "")) (aa (dC (.str "all")) (aa (dC (.str "")) (aa (dC (.str "any")) (aa (dC (.str "")) (aa (dC (.str "of")) (aa (dC (.str "al")) aH))))))))) (ag bY (dV 5) (dC (.int 8))) [.sh (hV ns),.sh (.int a),.sh (.int many),.sh (.int cell),.sh (.int ((1+(cell %((20:Nat):Int)).toNat:Nat):Int)),.sh (.int more),.un,.un,.un,.un,.un]=some (.str w):=by
  refine(ai (x:=.lst vx) ?_ ((ai (x:=.int more) (y:=.int ((8:Nat):Int)) rfl rfl).trans (dq _ (by decide)))).trans ew
  show(if(8:Nat)<=sizeLine then some (PV.lst vx)else none)=_
  rw[if_pos (by omega)]
 refine(av (aO W9)).trans ?_
 refine(av (aO (p:=.str b) ?_)).trans ?_
 ·rw[<-eb]
  refine qp (h:=some ((20:Nat):Int)) ((ai (x:=.str w) (y:=.str x) rfl ?_).trans (gI _ _ (by omega))) rfl rfl (by rw[cH];omega)
  exact(aP (ps:=[.int (more/8),.int 20]) rfl).trans ex
 refine(av (kR (l:=[]) rfl)).trans ?_
 exact(av ((gF (mO (n:=many) rfl (by omega))).trans q3)).trans rfl
end
theorem IX(ns:List Int)(a many:Nat)(hm:many<=6):∃f:Nat->Str,(∀k,Fo (f k))/\(∀j k,j<6->k<6->j≠k->f j≠f k)/\gg [hV ns,.int a,.int many]=some (.lst (((List.range many).map f).map PV.str)):=Fu qo Lm Ln ns a many hm
abbrev tj:Str:= ", "
abbrev xk:Str:= ")"
def Jn(its:List It):Str:=Txt.join tj (its.map It.t)
theorem CQ(its:List It):((its.map It.t).map λt=>t.length+tj.length).sum=wt its:=by
 unfold wt
 rw[Zg]
 rfl
theorem RS(its:List It):(Jn its).length<=wt its:=by
 have:=join_le tj (its.map It.t)
 rw[CQ]at this
 exact this
structure Sv(names:List Str)(Ok:It->Prop):Prop where
 hand:∀x∈names,Ok ⟨.ins 0 [.str x],.tup [.str "hand",.str x],x,0⟩
 all:∀(its:List It) (n:Nat),its≠[]->its.length<=8->wt its<=50000->(∀i∈its,Ok i/\i.d<=n)->Ok ⟨.ins 1 [.int (its.length:Nat),.tup (its.map It.o)],.tup [.str "all",.tup (its.map It.s)],("all(" :Str)++(Jn its++xk),1+n⟩
 any:∀(its:List It) (n:Nat),its≠[]->its.length<=8->wt its<=50000->(∀i∈its,Ok i/\i.d<=n)->Ok ⟨.ins 2 [.int 1,.tup (its.map It.o)],.tup [.str "any",.tup (its.map It.s)],("any(" :Str)++(Jn its++xk),1+n⟩
 some:∀(its:List It) (n m:Nat),its≠[]->its.length<=8->wt its<=50000->(∀i∈its,Ok i/\i.d<=n)->1<=m->m<=its.length->Ok ⟨.ins 3 [.int (m:Nat),.tup (its.map It.o)],.tup [.str "some",.int (m:Nat),.tup (its.map It.s)],((toString (m:Int):Str)++(" of (" :Str))++(Jn its++xk),1+n⟩
theorem Lo:((List.range 9).all λm=>decide ((toString (m:Int):Str).length<=1))=true:=by decide+kernel
theorem OW{m:Nat}(h:m<=8):(toString (m:Int):Str).length<=1:=of_decide_eq_true (ZA.mp Lo m (ZG.mpr (by omega)))
theorem AU(i:It)(s:List Slot)(k:Nat)(p:PV)(h:[i.o,i.s,.str i.t,.int (i.d:Nat)][k]?=some p):ag jA (dV 0) (dC (.int (k:Nat))) (.sh i.p::s)=some p:=by
 have hk:k<4:=(wS.mp h).1
 show itemAt [i.o,i.s,.str i.t,.int (i.d:Nat)] (k:Int)=some p
 unfold itemAt QK
 rw[if_pos (by omega),if_pos (by show(k:Int)<((4:Nat):Int);omega)]
 show[i.o,i.s,.str i.t,.int (i.d:Nat)][(k:Int).toNat]?=_
 rw[Zd]
 exact h
theorem vy{names:List Str}{Ok:It->Prop}(B:Sv names Ok){kind m:Nat}(hk:kind<3){its:List It}(h0:its≠[])(h8:its.length<=8)(hw:wt its<=50000)(Xa:1<=m)(Kw:m<=its.length)(ho:∀i∈its,Ok i):
  ∃r:It,Ok r/\(∃i∈its,r.d=1+i.d)/\r.t.length+2<=wt its+10/\aA [.int kind,.int m,.lst (its.map It.p)]=some r.p:=by
 have zl:(100000:Nat)<=sizeLine:=by decide
 obtain⟨M,eM,Uz,Vk⟩:=As (its.map It.d) (by simpa using h0)
 obtain⟨iM,Xb,Xc⟩:=Zi.mp Vk
 have hn:∀i∈its,Ok i/\i.d<=M:=λi hi=>⟨ho i hi,Uz _ (Zi.mpr ⟨i,hi,rfl⟩)⟩
 have lJ:=RS its
 have l1:=OW (m:=m) (by omega)
 have c0:∀s3 s4 s5 s6 s7,bM (nList (dV 2)) eC (ag jA (dV 0) (dC (.int 0))) [.sh (.int kind),.sh (.int m),.sh (.lst (its.map It.p)),s3,s4,s5,s6,s7]=some (.lst (its.map It.o)):=λs3 s4 s5 s6 s7=>mQ It.p It.o rfl (by omega) λi _=>AU i _ 0 _ rfl
 have c1:∀s3 s4 s5 s6 s7,bM (nList (dV 2)) eC (ag jA (dV 0) (dC (.int 1))) [.sh (.int kind),.sh (.int m),.sh (.lst (its.map It.p)),s3,s4,s5,s6,s7]=some (.lst (its.map It.s)):=λs3 s4 s5 s6 s7=>mQ It.p It.s rfl (by omega) λi _=>AU i _ 1 _ rfl
 have c2:∀s3 s4 s5 s6 s7,bM (nList (dV 2)) eC (ag jA (dV 0) (dC (.int 2))) [.sh (.int kind),.sh (.int m),.sh (.lst (its.map It.p)),s3,s4,s5,s6,s7]=some (.lst (its.map λi=>.str i.t)):=λs3 s4 s5 s6 s7=>mQ It.p (λi=>.str i.t) rfl (by omega) λi _=>AU i _ 2 _ rfl
 have c3:∀s3 s4 s5 s6 s7,bM (nList (dV 2)) eC (ag jA (dV 0) (dC (.int 3))) [.sh (.int kind),.sh (.int m),.sh (.lst (its.map It.p)),s3,s4,s5,s6,s7]=some (.lst (its.map λi=>.int (i.d:Nat))):=λs3 s4 s5 s6 s7=>mQ It.p (λi=>.int (i.d:Nat)) rfl (by omega) λi _=>AU i _ 3 _ rfl
 have hJ:Dv (.str tj) (.lst (its.map λi=>.str i.t))=some (.str (Jn its)):=by
  have:=Fj tj (its.map It.t) (by rw[CQ];omega)
  rw[Zg]at this
  exact this
 have UA:uG (.lst (its.map λi=>.int (i.d:Nat)))=some (.int (M:Nat)):=by
  have e:aX (its.map It.d)=.lst (its.map λi=>.int (i.d:Nat)):=by
   unfold aX
   rw[Zg]
   rfl
  rw[<-e]
  exact eM
 have fin:∀(r:It),Ok r->r.d=1+M->r.t.length+2<=wt its+10->(oo (tV (ag pW (dV 0) (dC (.int 0)))) (b8 7 (jj (aa (bW GW (dV 3)) (aa (jj (aa (dC (.str "all")) (aa (a6 4) aH))) (aa (ag bU (dC (.str "all(")) (dV 5)) (aa (a6 6) aH)))))) (oo (tV (ag pW (dV 0) (dC (.int 1)))) (b8 7 (jj (aa (bW GX (dV 3)) (aa (jj (aa (dC (.str "any")) (aa (a6 4) aH))) (aa (ag bU (dC (.str "any(")) (dV 5)) (aa (a6 6) aH)))))) (b8 7 (jj (aa (ag BG (dV 1) (dV 3)) (aa (jj (aa (dC (.str "some")) (aa (a6 1) (aa (a6 4) aH)))) (aa (ag bU (ag bU (bW Kj (dV 1)) (dC (.str " of ("))) (dV 5)) (aa (a6 6) aH))))))))
   [.sh (.int kind),.sh (.int m),.sh (.lst (its.map It.p)),.ow (its.map It.o),.sh (.tup (its.map It.s)),.sh (.str (Jn its++xk)),.sh (.int ((1+M:Nat):Int)),.un]=some (.nx [.sh (.int kind),.sh (.int m),.sh (.lst (its.map It.p)),.ow (its.map It.o),.sh (.tup (its.map It.s)),.sh (.str (Jn its++xk)),.sh (.int ((1+M:Nat):Int)),.sh r.p])->
   ∃r:It,Ok r/\(∃i∈its,r.d=1+i.d)/\r.t.length+2<=wt its+10/\aA [.int kind,.int m,.lst (its.map It.p)]=some r.p:=λr h1 h2 h3 h4=>by
  refine⟨r,h1,⟨iM,Xb,by rw[h2,Xc]⟩,h3,dk rfl ?_⟩
  refine(av (kR (c0 _ _ _ _ _))).trans ?_
  refine(av (aO (p:=.tup (its.map It.s)) ((eL (c1 _ _ _ _ _)).trans rfl))).trans ?_
  refine(av (aO (p:=.str (Jn its++xk)) ((ai (y:=.str xk) ((ai (x:=.str tj) rfl (c2 _ _ _ _ _)).trans hJ) rfl).trans (gI _ _ (by have:xk.length=1:=rfl;omega))))).trans ?_
  refine(av (aO (p:=.int ((1+M:Nat):Int)) ((ai (x:=.int ((1:Nat):Int)) rfl ((eL (c3 _ _ _ _ _)).trans UA)).trans rfl))).trans ?_
  refine(av h4).trans ?_
  exact(av (ρ':=[.sh (.int kind),.sh (.int m),.sh (.lst (its.map It.p)),.ow [],.sh (.tup (its.map It.s)),.sh (.str (Jn its++xk)),.sh (.int ((1+M:Nat):Int)),.sh r.p]) rfl).trans rfl
 have T:∀(k:Nat) s7,tV (ag pW (dV 0) (dC (.int k))) [.sh (.int kind),.sh (.int m),.sh (.lst (its.map It.p)),.ow (its.map It.o),.sh (.tup (its.map It.s)),.sh (.str (Jn its++xk)),.sh (.int ((1+M:Nat):Int)),s7]=some (decide (kind=k)):=λk s7=>cT ((ai (x:=.int kind) (y:=.int k) rfl rfl).trans (yr _ _))
 have lB:(Jn its++xk).length=(Jn its).length+1:=by rw[cH];rfl
 have lA:("all(" :Str).length=4:=by decide+kernel
 have lY:("any(" :Str).length=4:=by decide+kernel
 have lS:(" of (" :Str).length=5:=by decide+kernel
 by_cases k0:kind=0
 ·refine fin ⟨.ins 1 [.int (its.length:Nat),.tup (its.map It.o)],.tup [.str "all",.tup (its.map It.s)],("all(" :Str)++(Jn its++xk),1+M⟩ (B.all its M h0 h8 hw hn) rfl (by show(("all(" :Str)++(Jn its++xk)).length+2<=_;rw[cH,lB,lA];omega) ((jF ((T 0 _).trans (by rw[decide_eq_true k0]))).trans (aO ?_))
  refine j0 (aB (x:=.ins 1 [.int (its.length:Nat),.tup (its.map It.o)]) ?_ (aB (x:=.tup [.str "all",.tup (its.map It.s)]) (j0 (xs:=[.str "all",.tup (its.map It.s)]) rfl (by simp)) (aB ((ai (x:=.str "all(") (y:=.str (Jn its++xk)) rfl rfl).trans (gI _ _ (by rw[lB,lA];omega))) (aB (x:=.int ((1+M:Nat):Int)) rfl rfl)))) (by simp)
  show some (PV.ins 1 [.int ((its.map It.o).length:Nat),.tup (its.map It.o)])=_
  rw[wE]
 ·by_cases k1:kind=1
  ·refine fin ⟨.ins 2 [.int 1,.tup (its.map It.o)],.tup [.str "any",.tup (its.map It.s)],("any(" :Str)++(Jn its++xk),1+M⟩ (B.any its M h0 h8 hw hn) rfl (by show(("any(" :Str)++(Jn its++xk)).length+2<=_;rw[cH,lB,lY];omega) ((eK ((T 0 _).trans (by rw[decide_eq_false k0]))).trans ((jF ((T 1 _).trans (by rw[decide_eq_true k1]))).trans (aO ?_)))
   exact j0 (aB (x:=.ins 2 [.int 1,.tup (its.map It.o)]) rfl (aB (x:=.tup [.str "any",.tup (its.map It.s)]) (j0 (xs:=[.str "any",.tup (its.map It.s)]) rfl (by simp)) (aB ((ai (x:=.str "any(") (y:=.str (Jn its++xk)) rfl rfl).trans (gI _ _ (by rw[lB,lY];omega))) (aB (x:=.int ((1+M:Nat):Int)) rfl rfl)))) (by simp)
  ·have my:Kj (.int (m:Nat))=some (.str (toString (m:Int))):=by
     show(if decide ((m:Int).natAbs<1000000)then some (PV.str (toString (m:Int)))else none)=_
     rw[if_pos (decide_eq_true (by omega))]
   refine fin ⟨.ins 3 [.int (m:Nat),.tup (its.map It.o)],.tup [.str "some",.int (m:Nat),.tup (its.map It.s)],((toString (m:Int):Str)++(" of (" :Str))++(Jn its++xk),1+M⟩ (B.some its M m h0 h8 hw hn Xa Kw) rfl (by show(((toString (m:Int):Str)++(" of (" :Str))++(Jn its++xk)).length+2<=_;rw[cH,cH,lB,lS];omega) ((eK ((T 0 _).trans (by rw[decide_eq_false k0]))).trans ((eK ((T 1 _).trans (by rw[decide_eq_false k1]))).trans (aO ?_)))
   refine j0 (aB (x:=.ins 3 [.int (m:Nat),.tup (its.map It.o)]) rfl (aB (x:=.tup [.str "some",.int (m:Nat),.tup (its.map It.s)]) (j0 (xs:=[.str "some",.int (m:Nat),.tup (its.map It.s)]) rfl (by simp)) (aB ((ai (y:=.str (Jn its++xk)) ((ai (x:=.str (toString (m:Int))) (y:=.str " of (") ((eL (x:=.int (m:Nat)) rfl).trans my) rfl).trans (gI _ _ (by rw[lS];omega))) rfl).trans (gI _ _ (by rw[cH,lB,lS];omega))) (aB (x:=.int ((1+M:Nat):Int)) rfl rfl)))) (by simp)
theorem IY:∀P:List It,P.length*2<=wt P
 |[]=>ZI _
 |i::P=>by
  have:=IY P
  rw[yu,ul]
  omega
theorem ends(P:List It)(j:Nat):P.take (P.length-j)++P.drop (P.length-j)=P:=ZP ..
section
variable{Ok:It->Prop}{aA:List PV->Option PV}
 (hF:∀{kind m:Nat},kind<3->∀{its:List It},its≠[]->its.length<=8->wt its<=50000->1<=m->m<=its.length->(∀i∈its,Ok i)->∃r:It,Ok r/\(∃i∈its,r.d=1+i.d)/\r.t.length+2<=wt its+10/\aA [.int kind,.int m,.lst (its.map It.p)]=some r.p)
include hF
theorem Fv{P:List It}(h2:2<=P.length)(hP:∀i∈P,Ok i){D W:Nat}(hd:∀i∈P,i.d<=D)(hw:wt P<=W)(hW:W<=49000){s0:Slot}(hs:s0=.sh (.lst (P.map It.p))\/s0=.ow (P.map It.p))(s1:Slot){n:Int}(Sw:0<=n)(Kb:n<2147483647)(s3:Slot):
  ∃(Q:List It) (n':Int) (t3:Slot),Q.length+1=P.length-min 8 P.length+2/\(∀i∈Q,Ok i)/\(∀i∈Q,i.d<=D+1)/\wt Q<=W+10/\0<=n'/\n'<2147483647/\jI aA [s0,s1,.sh (.int n),s3]=some (.nx [.ow (Q.map It.p),s1,.sh (.int n'),t3]):=by
 have zl:(100000:Nat)<=sizeLine:=by decide
 have v0:∀r1 r2 r3,dV 0 [s0,r1,r2,r3]=some (.lst (P.map It.p)):=λr1 r2 r3=>by
  rcases hs with rfl|rfl<;>rfl
 have e1:ag bY (ag bU (ag rb (dV 2) (dV 2)) (ag rb (dC (.int 48271)) (dV 2))) (dC (.int 2147483647)) [s0,s1,.sh (.int n),s3]=some (.int ((n*n+48271*n) % 2147483647)):=
  (ai (x:=.int (n*n+48271*n)) (y:=.int 2147483647) ((ai ((ai (x:=.int n) (y:=.int n) rfl rfl).trans (ju (by omega) (by omega))) ((ai (x:=.int 48271) (y:=.int n) rfl rfl).trans (ju (by omega) (by omega)))).trans rfl) rfl).trans (mP _ (by decide))
 have b1:=YB (n*n+48271*n) (show(2147483647:Int)≠0 by decide)
 have b2:=Zp (n*n+48271*n) (show(0:Int)<2147483647 by decide)
 generalize(n*n+48271*n) % 2147483647=n' at e1 b1 b2
 have es:=ends P 8
 generalize eA:P.take (P.length-8)=Pa at es
 generalize eB:P.drop (P.length-8)=Pb at es
 have lb:Pb.length=min 8 P.length:=by rw[<-eB,ZY];omega
 have la:Pa.length=P.length-8:=by rw[<-eA,ZM];omega
 have mb:∀i∈Pb,i∈P:=λi hi=>by rw[<-es];exact xL _ hi
 have ma:∀i∈Pa,i∈P:=λi hi=>by rw[<-es];exact ZF _ hi
 have Xd:wt Pa+wt Pb=wt P:=by rw[<-ve,es]
 have hk:=mod_lt n' (n:=3) (by decide)
 have hm:=mod_lt (n'/3) (n:=Pb.length) (by omega)
 obtain⟨r,r1,⟨i,hi,r2⟩,r3,r4⟩:=hF (kind:=(n' %((3:Nat):Int)).toNat) (m:=1+(n'/3 %(Pb.length:Int)).toNat) hk (its:=Pb) (λz=>by rw[z]at lb;simp at lb;omega) (by omega) (by omega) (by omega) (by omega) λi hi=>hP i (mb i hi)
 refine⟨Pa++[r],n',.sh (.lst (Pb.map It.p)),by rw[ZD,Zb];omega,λx hx=>?_,λx hx=>?_,by rw[ve,vf];omega,b1,b2,?_⟩
 ·rcases sK.mp hx with hx|hx
  ·exact hP x (ma x hx)
  ·obtain rfl:=ZE.mp hx
   exact r1
 ·rcases sK.mp hx with hx|hx
  ·have:=hd x (ma x hx)
   omega
  ·obtain rfl:=ZE.mp hx
   have:=hd i (mb i hi)
   omega
 ·refine(av (aO e1)).trans ?_
  have e3:wA (dV 0) (cL (bW lj (dC (.int 8)))) fw [s0,s1,.sh (.int n'),s3]=some (.lst (Pb.map It.p)):=by
   refine(mR (a:=some (-((8:Nat):Int))) (v0 _ _ _) rfl rfl).trans ?_
   rw[Au _ 8 (by decide),wE,<-Yg,eB]
  refine(av (aO e3)).trans ?_
  have e4:wA (dV 0) fw (cL (bW lj (dC (.int 8)))) [s0,s1,.sh (.int n'),.sh (.lst (Pb.map It.p))]=some (.lst (Pa.map It.p)):=by
   refine(mR (b:=some (-((8:Nat):Int))) (v0 _ _ _) rfl rfl).trans ?_
   rw[Lh _ 8 (by decide),wE,<-YN,eA]
  refine(av (kR e4)).trans ?_
  have e5:aN aA (aa (ag bY (dV 2) (dC (.int 3))) (aa (ag bU (dC (.int 1)) (ag bY (ag ij (dV 2) (dC (.int 3))) (bW cQ (dV 3)))) (aa (a6 3) aH))) [.ow (Pa.map It.p),s1,.sh (.int n'),.sh (.lst (Pb.map It.p))]=some r.p:=by
   refine(aP (aB ((ai (x:=.int n') (y:=.int ((3:Nat):Int)) rfl rfl).trans (dq _ (by decide))) (aB (x:=.int ((1+(n'/3 %(Pb.length:Int)).toNat:Nat):Int)) ?_ (aB (x:=.lst (Pb.map It.p)) rfl rfl)))).trans r4
   refine(ai (x:=.int ((1:Nat):Int)) rfl ((ai (x:=.int (n'/3)) (y:=.int (Pb.length:Nat)) rfl ?_).trans (dq _ (by omega)))).trans rfl
   show some (PV.int ((Pb.map It.p).length:Nat))=_
   rw[wE]
  show((aa (aN aA (aa (ag bY (dV 2) (dC (.int 3))) (aa (ag bU (dC (.int 1)) (ag bY (ag ij (dV 2) (dC (.int 3))) (bW cQ (dV 3)))) (aa (a6 3) aH)))) aH) [.ow (Pa.map It.p),s1,.sh (.int n'),.sh (.lst (Pb.map It.p))]).bind _=_
  rw[aB e5 rfl]
  show((if(Pa.map It.p).length<sizeLine then some (Pa.map It.p++[r.p])else none).map λl'=>Fl.nx [.ow l',s1,.sh (.int n'),.sh (.lst (Pb.map It.p))])=_
  have wl:=IY P
  rw[if_pos (by rw[wE];omega),Zs]
  rfl
theorem xm(s1:Slot):∀(k:Nat) {P:List It} (h1:1<=P.length) (hk:P.length<=1+7*k) (hP:∀i∈P,Ok i) {D W:Nat} (hd:∀i∈P,i.d<=D) (hw:wt P<=W) (hW:W+10*k<=49000) {s0:Slot} (hs:s0=.sh (.lst (P.map It.p))\/s0=.ow (P.map It.p)) {n:Int} (Sw:0<=n) (Kb:n<2147483647) (s3:Slot) (f:Nat) (hf:k<f),
  ∃(r:It) (t0 t2 t3:Slot),(t0=.sh (.lst [r.p])\/t0=.ow [r.p])/\Ok r/\(r.d<=D+k/\r.t.length+2<=W+10*k)/\il (tV (ag FT (bW cQ (dV 0)) (dC (.int 1)))) (jI aA) f [s0,s1,.sh (.int n),s3]=some (.nx [t0,s1,t2,t3])
 |k,P,h1,hk,hP,D,W,hd,hw,hW,s0,hs,n,Sw,Kb,s3,0,hf=>by omega
 |k,P,h1,hk,hP,D,W,hd,hw,hW,s0,hs,n,Sw,Kb,s3,f+1,hf=>by
  have v0:∀r1 r2 r3,dV 0 [s0,r1,r2,r3]=some (.lst (P.map It.p)):=λr1 r2 r3=>by
   rcases hs with rfl|rfl<;>rfl
  have t:tV (ag FT (bW cQ (dV 0)) (dC (.int 1))) [s0,s1,.sh (.int n),s3]=some (decide (1<P.length)):=by
   refine cT ((ai (x:=.int (P.length:Nat)) (y:=.int 1) ((eL (v0 _ _ _)).trans ?_) rfl).trans ?_)
   ·show some (PV.int ((P.map It.p).length:Nat))=_
    rw[wE]
   ·show some (PV.bl (decide ((1:Int)<(P.length:Int))))=_
    congr 2
    rw[decide_eq_decide]
    omega
  by_cases h2:1<P.length
  ·rw[decide_eq_true h2]at t
   match k,hk with
   |0,hk=>omega
   |k+1,hk=>
    obtain⟨Q,n',t3,q1,q2,q3,q4,q5,q6,q7⟩:=Fv hF (P:=P) (by omega) hP hd hw (by omega) hs s1 Sw Kb s3
    obtain⟨r,t0,t2,Xe,a1,a2,a3,a4⟩:=xm s1 k (P:=Q) (by omega) (by omega) q2 (D:=D+1) (W:=W+10) q3 q4 (by omega) (s0:=.ow (Q.map It.p)) (.inr rfl) q5 q6 t3 f (by omega)
    exact⟨r,t0,t2,Xe,a1,a2,⟨by omega,by omega⟩,(Ir t q7).trans a4⟩
  ·rw[decide_eq_false h2]at t
   obtain⟨r,rfl⟩:∃r,P=[r]:=Xr.mp (by omega)
   exact⟨r,s0,.sh (.int n),s3,hs,hP r (wT ..),⟨by have:=hd r (wT ..);omega,by rw[vf]at hw;omega⟩,Iq t⟩
theorem CS{P:List It}(h1:1<=P.length)(XQ:P.length<=57)(hP:∀i∈P,Ok i){D:Nat}(hd:∀i∈P,i.d<=D)(hw:wt P<=10000)(c:Int):∃r:It,Ok r/\(r.d<=D+8/\r.t.length<=11000)/\fn false 4 2 (qr aA) [.lst (P.map It.p),.int c]=some r.p:=by
 have b1:=YB c (show(2147483646:Int)≠0 by decide)
 have b2:=Zp c (show(0:Int)<2147483646 by decide)
 obtain⟨r,t0,t2,t3,a1,a2,a3,a4⟩:=xm hF (.sh (.int c)) 8 (P:=P) h1 (by omega) hP hd hw (by omega) (s0:=.sh (.lst (P.map It.p))) (.inl rfl) (n:=1+c % 2147483646) (by omega) (by omega) .un 1000 (by decide)
 refine⟨r,a2,⟨by omega,by omega⟩,dk rfl ?_⟩
 refine(av (aO (p:=.int (1+c % 2147483646)) ((ai (x:=.int 1) rfl ((ai (x:=.int c) (y:=.int 2147483646) rfl rfl).trans (mP _ (by decide)))).trans rfl))).trans ?_
 refine(av a4).trans (dW ?_)
 rcases a1 with rfl|rfl<;>rfl
end
theorem Lp(x:Str):bP [.str x]=some (It.p ⟨.ins 0 [.str x],.tup [.str "hand",.str x],x,0⟩):=by
 refine oU rfl ?_
 exact j0 (aB (x:=.ins 0 [.str x]) rfl (aB (x:=.tup [.str "hand",.str x]) (j0 (xs:=[.str "hand",.str x]) rfl (by simp)) (aB (x:=.str x) rfl (aB (x:=.int ((0:Nat):Int)) rfl rfl)))) (by simp)
structure Fw(Ok:It->Prop)(k:Nat)(P:List It):Prop where
 pos:1<=P.length
 len:P.length<=1+k
 ok:∀i∈P,Ok i
 dp:∀i∈P,i.d<=12
 wt:wt P<=60*(1+k)
section
variable{names:List Str}{Ok:It->Prop}(B:Sv names Ok)(hn:∀x∈names,x.length<=50){F_law_folded bP F_law_cell_at aA:List PV->Option PV}
 (hH:∀x:Str,bP [.str x]=some (It.p ⟨.ins 0 [.str x],.tup [.str "hand",.str x],x,0⟩))
 (hF:∀{kind m:Nat},kind<3->∀{its:List It},its≠[]->its.length<=8->wt its<=50000->1<=m->m<=its.length->(∀i∈its,Ok i)->∃r:It,Ok r/\(∃i∈its,r.d=1+i.d)/\r.t.length+2<=wt its+10/\aA [.int kind,.int m,.lst (its.map It.p)]=some r.p)
include B hn hH
theorem Ej(h0:names≠[])(c:Int){A L:Den}{ρ:cA}(hA:A ρ=some (.tup (names.map PV.str)))(hL:L ρ=some (.int c)):∃x∈names,ag jA A (ag bY L (bW cQ A)) ρ=some (.str x):=by
 have hl:0<names.length:=List.length_pos_iff.mpr h0
 have hi:=mod_lt c hl
 refine⟨names[(c %(names.length:Int)).toNat],Y7 hi,?_⟩
 refine(ai hA ((ai hL ((eL hA).trans ?_)).trans (dq c hl))).trans ?_
 ·show some (PV.int ((names.map PV.str).length:Nat))=_
  rw[wE]
 ·show itemAt (names.map PV.str) (((c %(names.length:Int)).toNat:Nat):Int)=_
  unfold itemAt QK
  rw[if_pos (by omega),if_pos (by rw[wE];omega)]
  show(names.map PV.str)[(((c %(names.length:Int)).toNat:Nat):Int).toNat]?=_
  rw[Zd,Zh,wn hi]
  rfl
include hF
theorem CT(h0:names≠[])(s0 s1 s2:Slot)(cell:Int){k:Nat}(hk:k<=100){P:List It}(hP:Fw Ok k P)(heads:Nat)(s7 s8:Slot):
  ∃(Q:List It) (vz:Nat) (t7 t8:Slot),Fw Ok (k+1) Q/\km F_law_folded bP F_law_cell_at aA [s0,s1,s2,.sh (.tup (names.map PV.str)),.ow (P.map It.p),.sh (.int (heads:Nat)),.sh (.int cell),s7,s8]=some (.nx [s0,s1,s2,.sh (.tup (names.map PV.str)),.ow (Q.map It.p),.sh (.int (vz:Nat)),.sh (.int cell),t7,t8]):=by
 have zl:(100000:Nat)<=sizeLine:=by decide
 obtain⟨p1,p2,p3,p4,p5⟩:=hP
 have hj:=mod_lt (cell/9) (n:=8) (by decide)
 generalize ej:1+(cell/9 %((8:Nat):Int)).toNat=j at*
 have es:=ends P j
 generalize eA:P.take (P.length-j)=Pa at es
 generalize eB:P.drop (P.length-j)=Pb at es
 have lb:Pb.length=min j P.length:=by rw[<-eB,ZY];omega
 have la:Pa.length=P.length-j:=by rw[<-eA,ZM];omega
 have mb:∀i∈Pb,i∈P:=λi hi=>by rw[<-es];exact xL _ hi
 have ma:∀i∈Pa,i∈P:=λi hi=>by rw[<-es];exact ZF _ hi
 have Xd:L2.D.wt Pa+L2.D.wt Pb=L2.D.wt P:=by rw[<-ve,es]
 have e1:wA (dV 4) (cL (bW lj (ag bU (dC (.int 1)) (ag bY (ag ij (dV 6) (dC (.int 9))) (dC (.int 8)))))) fw [s0,s1,s2,.sh (.tup (names.map PV.str)),.ow (P.map It.p),.sh (.int (heads:Nat)),.sh (.int cell),s7,s8]=some (.lst (Pb.map It.p)):=by
  have eo:(cL (bW lj (ag bU (dC (.int 1)) (ag bY (ag ij (dV 6) (dC (.int 9))) (dC (.int 8)))))) [s0,s1,s2,.sh (.tup (names.map PV.str)),.ow (P.map It.p),.sh (.int (heads:Nat)),.sh (.int cell),s7,s8]=some (some (-(j:Int))):=by
   have:bW lj (ag bU (dC (.int 1)) (ag bY (ag ij (dV 6) (dC (.int 9))) (dC (.int 8)))) [s0,s1,s2,.sh (.tup (names.map PV.str)),.ow (P.map It.p),.sh (.int (heads:Nat)),.sh (.int cell),s7,s8]=some (.int (-(j:Int))):=by
    refine(eL (x:=.int (j:Int)) ?_).trans rfl
    rw[<-ej]
    exact(ai (x:=.int ((1:Nat):Int)) rfl ((ai (x:=.int (cell/9)) (y:=.int ((8:Nat):Int)) rfl rfl).trans (dq _ (by decide)))).trans rfl
   unfold cL
   rw[this]
   rfl
  refine(mR (l:=P.map It.p) rfl eo rfl).trans ?_
  rw[Au _ j (by omega),wE,<-Yg,eB]
 have Vl:Pb≠[]:=λz=>by rw[z]at lb;simp at lb;omega
 obtain⟨M,eM,Uz,Vk⟩:=As (Pb.map It.d) (by simpa using Vl)
 have c3:∀s8,bM (nList (dV 7)) eC (ag jA (dV 0) (dC (.int 3))) [s0,s1,s2,.sh (.tup (names.map PV.str)),.ow (P.map It.p),.sh (.int (heads:Nat)),.sh (.int cell),.sh (.lst (Pb.map It.p)),s8]=some (.lst (Pb.map λi=>.int (i.d:Nat))):=λs8=>mQ It.p (λi=>.int (i.d:Nat)) rfl (by omega) λi _=>AU i _ 3 _ rfl
 have UA:uG (.lst (Pb.map λi=>.int (i.d:Nat)))=some (.int (M:Nat)):=by
  have e:aX (Pb.map It.d)=.lst (Pb.map λi=>.int (i.d:Nat)):=by
   unfold aX
   rw[Zg]
   rfl
  rw[<-e]
  exact eM
 have app:∀(Z:List It) (r:It) (s5 s7 s8:Slot),Z.length<=1000->∀{E:Den},E [s0,s1,s2,.sh (.tup (names.map PV.str)),.ow (Z.map It.p),s5,.sh (.int cell),s7,s8]=some r.p->oJ 4 gz (aa E aH) [s0,s1,s2,.sh (.tup (names.map PV.str)),.ow (Z.map It.p),s5,.sh (.int cell),s7,s8]=some (.nx [s0,s1,s2,.sh (.tup (names.map PV.str)),.ow ((Z++[r]).map It.p),s5,.sh (.int cell),s7,s8]):=λZ r s5 s7 s8 hZ E hE=>by
  show((aa E aH) [s0,s1,s2,.sh (.tup (names.map PV.str)),.ow (Z.map It.p),s5,.sh (.int cell),s7,s8]).bind _=_
  rw[aB hE rfl]
  show((if(Z.map It.p).length<sizeLine then some (Z.map It.p++[r.p])else none).map λl'=>Fl.nx [s0,s1,s2,.sh (.tup (names.map PV.str)),.ow l',s5,.sh (.int cell),s7,s8])=_
  rw[if_pos (by rw[wE];omega),Zs]
  rfl
 have T1:tV (ag FR (ag bY (dV 6) (dC (.int 9))) (dC (.int 6))) [s0,s1,s2,.sh (.tup (names.map PV.str)),.ow (P.map It.p),.sh (.int (heads:Nat)),.sh (.int cell),.sh (.lst (Pb.map It.p)),.sh (.int (M:Nat))]=some (decide (cell % 9<6)):=cT rfl
 have T2:tV (ag FT (dV 8) (dC (.int 11))) [s0,s1,s2,.sh (.tup (names.map PV.str)),.ow (P.map It.p),.sh (.int (heads:Nat)),.sh (.int cell),.sh (.lst (Pb.map It.p)),.sh (.int (M:Nat))]=some (decide ((11:Int)<(M:Int))):=cT rfl
 have T3:tV (ag FT (dV 5) (dC (.int 13))) [s0,s1,s2,.sh (.tup (names.map PV.str)),.ow (P.map It.p),.sh (.int (heads:Nat)),.sh (.int cell),.sh (.lst (Pb.map It.p)),.sh (.int (M:Nat))]=some (decide ((13:Int)<(heads:Int))):=cT rfl
 have pre:∀{fl:Fl} {X:aR},X [s0,s1,s2,.sh (.tup (names.map PV.str)),.ow (P.map It.p),.sh (.int (heads:Nat)),.sh (.int cell),.sh (.lst (Pb.map It.p)),.sh (.int (M:Nat))]=some fl->(bh (b8 7 (wA (dV 4) (cL (bW lj (ag bU (dC (.int 1)) (ag bY (ag ij (dV 6) (dC (.int 9))) (dC (.int 8)))))) fw)) (bh (b8 8 (bW uG (bM (nList (dV 7)) eC (ag jA (dV 0) (dC (.int 3)))))) X)) [s0,s1,s2,.sh (.tup (names.map PV.str)),.ow (P.map It.p),.sh (.int (heads:Nat)),.sh (.int cell),s7,s8]=some fl:=λhX=>(av (aO e1)).trans ((av (aO ((eL (c3 _)).trans UA))).trans hX)
 have vA:∃(Q:List It) (vz:Nat) (t7 t8:Slot),Fw Ok (k+1) Q/\(oJ 4 gz (aa (aN bP (aa (ag jA (dV 3) (ag bY (ag ij (dV 6) (dC (.int 9))) (bW cQ (dV 3)))) aH)) aH)) [s0,s1,s2,.sh (.tup (names.map PV.str)),.ow (P.map It.p),.sh (.int (heads:Nat)),.sh (.int cell),.sh (.lst (Pb.map It.p)),.sh (.int (M:Nat))]=some (.nx [s0,s1,s2,.sh (.tup (names.map PV.str)),.ow (Q.map It.p),.sh (.int (vz:Nat)),.sh (.int cell),t7,t8]):=by
  obtain⟨x,hx,ex⟩:=Ej B hn hH h0 (cell/9) (A:=dV 3) (L:=ag ij (dV 6) (dC (.int 9))) (ρ:=[s0,s1,s2,.sh (.tup (names.map PV.str)),.ow (P.map It.p),.sh (.int (heads:Nat)),.sh (.int cell),.sh (.lst (Pb.map It.p)),.sh (.int (M:Nat))]) rfl rfl
  have hl:=hn x hx
  refine⟨P++[⟨.ins 0 [.str x],.tup [.str "hand",.str x],x,0⟩],heads,_,_,⟨by rw[ZD];omega,by rw[ZD,Zb];omega,λi hi=>?_,λi hi=>?_,by rw[ve,vf];show _+(x.length+2)<=_;omega⟩,app P _ _ _ _ (by omega) ((aP (aB ex rfl)).trans (hH x))⟩
  ·rcases sK.mp hi with hi|hi
   ·exact p3 i hi
   ·obtain rfl:=ZE.mp hi
    exact B.hand x hx
  ·rcases sK.mp hi with hi|hi
   ·exact p4 i hi
   ·obtain rfl:=ZE.mp hi
    exact ZI _
 by_cases g1:cell % 9<6
 ·obtain⟨Q,h',t7,t8,q1,q2⟩:=vA
  exact⟨Q,h',t7,t8,q1,pre ((jF (Mu (T1.trans (by rw[decide_eq_true g1])))).trans q2)⟩
 ·by_cases g2:(11:Int)<(M:Int)
  ·obtain⟨Q,h',t7,t8,q1,q2⟩:=vA
   exact⟨Q,h',t7,t8,q1,pre ((jF ((su (T1.trans (by rw[decide_eq_false g1]))).trans (Mu (T2.trans (by rw[decide_eq_true g2]))))).trans q2)⟩
  ·by_cases g3:(13:Int)<(heads:Int)
   ·obtain⟨Q,h',t7,t8,q1,q2⟩:=vA
    exact⟨Q,h',t7,t8,q1,pre ((jF ((su (T1.trans (by rw[decide_eq_false g1]))).trans ((su (T2.trans (by rw[decide_eq_false g2]))).trans (T3.trans (by rw[decide_eq_true g3]))))).trans q2)⟩
   ·have c9:=Zp cell (show(0:Int)<9 by decide)
    have hm:=mod_lt (cell/72) (n:=Pb.length) (by omega)
    have ek:cell % 9-6=(((cell % 9-6).toNat:Nat):Int):=by omega
    obtain⟨r,r1,⟨i,hi,r2⟩,r3,r4⟩:=hF (kind:=(cell % 9-6).toNat) (m:=1+(cell/72 %(Pb.length:Int)).toNat) (by omega) (its:=Pb) Vl (by omega) (by omega) (by omega) (by omega) λi hi=>p3 i (mb i hi)
    have XR:i.d<=M:=Uz _ (Zi.mpr ⟨i,hi,rfl⟩)
    refine⟨Pa++[r],heads+1,.sh (.lst (Pb.map It.p)),.sh (.int (M:Nat)),⟨by rw[ZD,Zb];omega,by rw[ZD,Zb];omega,λx hx=>?_,λx hx=>?_,by rw[ve,vf];omega⟩,pre ((eK ((su (T1.trans (by rw[decide_eq_false g1]))).trans ((su (T2.trans (by rw[decide_eq_false g2]))).trans (T3.trans (by rw[decide_eq_false g3]))))).trans ?_)⟩
    ·rcases sK.mp hx with hx|hx
     ·exact p3 x (ma x hx)
     ·obtain rfl:=ZE.mp hx
      exact r1
    ·rcases sK.mp hx with hx|hx
     ·exact p4 x (ma x hx)
     ·obtain rfl:=ZE.mp hx
      omega
    ·have e4:wA (dV 4) fw (cL (ag zF (bW cQ (dV 4)) (bW cQ (dV 7)))) [s0,s1,s2,.sh (.tup (names.map PV.str)),.ow (P.map It.p),.sh (.int (heads:Nat)),.sh (.int cell),.sh (.lst (Pb.map It.p)),.sh (.int (M:Nat))]=some (.lst (Pa.map It.p)):=by
       have eo:(cL (ag zF (bW cQ (dV 4)) (bW cQ (dV 7)))) [s0,s1,s2,.sh (.tup (names.map PV.str)),.ow (P.map It.p),.sh (.int (heads:Nat)),.sh (.int cell),.sh (.lst (Pb.map It.p)),.sh (.int (M:Nat))]=some (some ((P.length-j:Nat):Int)):=by
        show some (some (((P.map It.p).length:Int)-((Pb.map It.p).length:Int)))=_
        rw[wE,wE,lb]
        congr 2
        omega
       refine(mR (l:=P.map It.p) rfl rfl eo).trans ?_
       rw[ID _ _ (by rw[wE];omega),<-YN,eA]
     refine(av (kR e4)).trans ?_
     have e5:aN aA (aa (ag zF (ag bY (dV 6) (dC (.int 9))) (dC (.int 6))) (aa (ag bU (dC (.int 1)) (ag bY (ag ij (dV 6) (dC (.int 72))) (bW cQ (dV 7)))) (aa (a6 7) aH))) [s0,s1,s2,.sh (.tup (names.map PV.str)),.ow (Pa.map It.p),.sh (.int (heads:Nat)),.sh (.int cell),.sh (.lst (Pb.map It.p)),.sh (.int (M:Nat))]=some r.p:=by
      refine(aP (aB (x:=.int (((cell % 9-6).toNat:Nat):Int)) ?_ (aB (x:=.int ((1+(cell/72 %(Pb.length:Int)).toNat:Nat):Int)) ?_ (aB (x:=.lst (Pb.map It.p)) rfl rfl)))).trans r4
      ·rw[<-ek]
       rfl
      ·refine(ai (x:=.int ((1:Nat):Int)) rfl ((ai (x:=.int (cell/72)) (y:=.int (Pb.length:Nat)) rfl ?_).trans (dq _ (by omega)))).trans rfl
       show some (PV.int ((Pb.map It.p).length:Nat))=_
       rw[wE]
     refine(av (app Pa r _ _ _ (by omega) e5)).trans ?_
     exact aO rfl
theorem xn(h0:names≠[])(s0 s1 s2:Slot):∀(cs:List Int) (k:Nat) (hk:k+cs.length<=100) {P:List It} (hP:Fw Ok k P) (heads:Nat) (s6 s7 s8:Slot),
  ∃(Q:List It) (vz:Nat) (t6 t7 t8:Slot),Fw Ok (k+cs.length) Q/\forL (bN 6) (km F_law_folded bP F_law_cell_at aA) (cs.map PV.int) [s0,s1,s2,.sh (.tup (names.map PV.str)),.ow (P.map It.p),.sh (.int (heads:Nat)),s6,s7,s8]=some (.nx [s0,s1,s2,.sh (.tup (names.map PV.str)),.ow (Q.map It.p),.sh (.int (vz:Nat)),t6,t7,t8])
 |[],k,hk,P,hP,heads,s6,s7,s8=>⟨P,heads,s6,s7,s8,hP,rfl⟩
 |c::cs,k,hk,P,hP,heads,s6,s7,s8=>by
  rw[ul]at hk
  obtain⟨Q,h1,t7,t8,q1,q2⟩:=CT B hn hH hF h0 s0 s1 s2 c (by omega) hP heads s7 s8
  obtain⟨Q',h2,u6,u7,u8,q3,q4⟩:=xn h0 s0 s1 s2 cs (k+1) (by omega) q1 h1 (.sh (.int c)) t7 t8
  refine⟨Q',h2,u6,u7,u8,?_,Eq.trans ?_ q4⟩
  ·rw[ul,show k+(cs.length+1)=k+1+cs.length by omega]
   exact q3
  ·exact iL (i:=6) (x:=.int c) (xs:=cs.map PV.int) (ρ:=[s0,s1,s2,.sh (.tup (names.map PV.str)),.ow (P.map It.p),.sh (.int (heads:Nat)),s6,s7,s8]) q2
theorem Fx(h0:names≠[])(hC:∀(ns:List Int) (k:Nat),F_law_cell_at [hV ns,.int k]=some (.int (ns.getD k 0)))
  (hL:∀{P:List It},1<=P.length->P.length<=57->(∀i∈P,Ok i)->∀{D:Nat},(∀i∈P,i.d<=D)->L2.D.wt P<=10000->∀c:Int,∃r:It,Ok r/\(r.d<=D+8/\r.t.length<=11000)/\F_law_folded [.lst (P.map It.p),.int c]=some r.p)
  (ns:List Int)(a size:Nat)(Vm:1<=size)(hs:size<=50):∃r:It,Ok r/\(r.d<=20/\r.t.length<=11000)/\fn false 9 4 (sx F_law_folded bP F_law_cell_at aA) [hV ns,.int a,.int size,.tup (names.map PV.str)]=some r.p:=by
 have zl:(100000:Nat)<=sizeLine:=by decide
 obtain⟨x,hx,ex⟩:=Ej B hn hH h0 (ns.getD a 0) (A:=dV 3) (L:=aN F_law_cell_at (aa (a6 0) (aa (a6 1) aH))) (ρ:=[.sh (hV ns),.sh (.int a),.sh (.int size),.sh (.tup (names.map PV.str)),.un,.un,.un,.un,.un]) rfl ((aP (ps:=[hV ns,.int a]) rfl).trans (hC ns a))
 have hl:=hn x hx
 have cl:(jU ns (some ((a+1:Nat):Int)) (some ((a+size:Nat):Int))).length<=49:=by
  unfold jU mr
  simp only
  rw[if_neg (by omega),if_neg (by omega),ZM,ZY,Zd,Zd]
  omega
 generalize Xf:jU ns (some ((a+1:Nat):Int)) (some ((a+size:Nat):Int))=cs at cl
 have Xg:Fw Ok 0 [⟨.ins 0 [.str x],.tup [.str "hand",.str x],x,0⟩]:=⟨by simp,by simp,λi hi=>by
  obtain rfl:=ZE.mp hi
  exact B.hand x hx,λi hi=>by
  obtain rfl:=ZE.mp hi
  exact ZI _,by rw[vf];show x.length+2<=_;omega⟩
 obtain⟨Q,h',t6,t7,t8,q1,q2⟩:=xn B hn hH hF (F_law_folded:=F_law_folded) (F_law_cell_at:=F_law_cell_at) h0 (.sh (hV ns)) (.sh (.int a)) (.sh (.int size)) cs 0 (by omega) Xg 0 .un .un .un
 obtain⟨p1,p2,p3,p4,p5⟩:=q1
 obtain⟨r,r1,r2,r3⟩:=hL (P:=Q) p1 (by omega) p3 p4 (by omega) (ns.getD 1 0)
 refine⟨r,r1,⟨by omega,by omega⟩,dk rfl ?_⟩
 refine(av (kR (l:=[It.p ⟨.ins 0 [.str x],.tup [.str "hand",.str x],x,0⟩]) (ly (aB ((aP (aB ex rfl)).trans (hH x)) rfl) (by simp)))).trans ?_
 refine(av (aO (p:=.int ((0:Nat):Int)) rfl)).trans ?_
 have ei:nList (wA (dV 0) (cL (ag bU (dV 1) (dC (.int 1)))) (cL (ag bU (dV 1) (dV 2)))) [.sh (hV ns),.sh (.int a),.sh (.int size),.sh (.tup (names.map PV.str)),.ow [It.p ⟨.ins 0 [.str x],.tup [.str "hand",.str x],x,0⟩],.sh (.int ((0:Nat):Int)),.un,.un,.un]=some (cs.map PV.int):=by
  refine iQ ((mR (l:=ns.map PV.int) (a:=some ((a+1:Nat):Int)) (b:=some ((a+size:Nat):Int)) rfl rfl rfl).trans ?_)
  rw[Il,Xf]
 refine(av ((gF ei).trans q2)).trans ?_
 refine(av (ρ':=[.sh (hV ns),.sh (.int a),.sh (.int size),.sh (.tup (names.map PV.str)),.sh (.lst (Q.map It.p)),.sh (.int (h':Nat)),t6,t7,t8]) rfl).trans ?_
 exact dW ((aP (aB (x:=.lst (Q.map It.p)) rfl (aB ((aP (ps:=[hV ns,.int ((1:Nat):Int)]) rfl).trans (hC ns 1)) rfl))).trans r3)
end
theorem IZ{names:List Str}{Ok:It->Prop}(B:Sv names Ok)(hn:∀x∈names,x.length<=50)(h0:names≠[])(ns:List Int)(a size:Nat)(Vm:1<=size)(hs:size<=50):∃r:It,Ok r/\(r.d<=20/\r.t.length<=11000)/\F_law_built [hV ns,.int a,.int size,.tup (names.map PV.str)]=some r.p:=
 Fx B hn Lp (vy B) h0 qo (CS (vy B)) ns a size Vm hs
theorem place_key:gD F_place:=B8
theorem zd{x:Str}:∀{l:List Str},x∈l->fD x l<l.length
 |[],h=>nomatch h
 |y::l,h=>by
  unfold fD
  by_cases e:y=x
  ·rw[if_pos e];simp
  ·rw[if_neg e,ul]
   have:x∈l:=(ZJ.mp h).resolve_left λz=>e z.symm
   have:=zd this
   omega
theorem AV{names:List Str}{x:Str}(h:x∈names):xT (.tup (names.map PV.str)) (.str x)=some (.int (fD x names:Nat)):=by
 show(l8 (names.map PV.str)).bind (λts=>if decide (x∈ts)then some (PV.int (fD x ts:Nat))else none)=_
 rw[kU]
 show(if decide (x∈names)then some (PV.int (fD x names:Nat))else none)=_
 rw[if_pos (decide_eq_true h)]
theorem vB{names:List Str}{x:Str}(h:x∈names):ik (.str x) (.tup (names.map PV.str))=some (.bl false):=by
 have a:(names.map PV.str).all flat=true:=ZA.mpr λp hp=>by
  obtain⟨y,_,rfl⟩:=Zi.mp hp
  rfl
 have b:vN (.str x) (names.map PV.str)=true:=Zw.mpr ⟨.str x,Zi.mpr ⟨x,h,rfl⟩,by
  show(x==x)=true
  simp⟩
 show(if flat (.str x)&&(names.map PV.str).all flat then some (PV.bl (!vN (.str x) (names.map PV.str)))else none)=_
 rw[a,b]
 rfl
theorem yg{k:Nat}(hk:k<7):sW (.int 1) (.int (k:Nat))=some (.int (1*2^k)):=by
 have p:uE 1 (k:Nat)=true:=by
  unfold uE
  rw[decide_eq_true (by omega),decide_eq_true (by omega),decide_eq_true (by decide)]
  rfl
 show(if uE 1 (k:Nat)then some (PV.int (1*2^((k:Nat):Int).toNat))else none)=_
 rw[if_pos p,Zd]
theorem rj(a b:Int):dj [.int a,.int b]=some (.bl (decide (Builtin.bitAnd a b=a))):=oU rfl rfl
theorem OX:(("name" :Str)==("name" :Str))=true:=by decide+kernel
theorem OY:(("parts" :Str)==("wanted" :Str))=false:=by decide+kernel
theorem OZ:(("parts" :Str)==("parts" :Str))=true:=by decide+kernel
theorem O0:(("wanted" :Str)==("wanted" :Str))=true:=by decide+kernel
theorem Ja(p:PV):pX tF "name" (.ins 0 [p])=some p:=by
 show List.lookup ("name" :Str) [("name",p)]=_
 rw[ZS,OX]
theorem pI{c:Nat}(h0:0<c)(h4:c<4)(w q:PV):pX tF "wanted" (.ins c [w,q])=some w:=by
 have e:tF c=[("wanted" :Str),("parts" :Str)]:=by
  unfold tF
  rw[if_neg (by omega),if_pos h4]
 show List.lookup ("wanted" :Str) ((tF c).zip [w,q])=_
 rw[e,Zo,ZS,O0]
theorem Fy{c:Nat}(h0:0<c)(h4:c<4)(w q:PV):pX tF "parts" (.ins c [w,q])=some q:=by
 have e:tF c=[("wanted" :Str),("parts" :Str)]:=by
  unfold tF
  rw[if_neg (by omega),if_pos h4]
 show List.lookup ("parts" :Str) ((tF c).zip [w,q])=_
 rw[e,Zo,ZS,OY,Zo,ZS,OZ]
theorem vC{α:Type}{c:dF}{ρ:cA}(v:α->PV)(p:α->Bool):∀xs:List α,(∀x∈xs,c (.sh (v x)::ρ)=some (p x))->gw c (a6 0) ρ (xs.map v)=some ((xs.filter p).map v)
 |[],_=>rfl
 |x::xs,h=>by
  have ih:=vC v p xs λy hy=>h y (wf _ hy)
  rw[ZC]
  unfold gw
  rw[h x (wT ..),ih]
  by_cases hp:p x=true
  ·rw[Zu hp,hp]
   rfl
  ·rw[Zv hp]
   have ED:p x=false:=by simpa using hp
   rw[ED]
   rfl
theorem Jb{α:Type}{it:cI}{c:dF}{ρ:cA}(v:α->PV)(p:α->Bool){xs:List α}(h1:it ρ=some (xs.map v))(h2:xs.length<=5000)(h3:∀x∈xs,c (.sh (v x)::ρ)=some (p x)):bM it c (a6 0) ρ=some (.lst ((xs.filter p).map v)):=by
 have zl:(5000:Nat)<=sizeLine:=by decide
 exact jE h1 (by rw[wE];omega) (vC v p xs h3)
theorem O1:((List.range 6).all λk=>decide (Builtin.bitOr 0 (1*2^k)=((2^k:Nat):Int)))=true:=by decide+kernel
theorem RT{k:Nat}(hk:k<6):Builtin.bitOr 0 (1*2^k)=((2^k:Nat):Int):=of_decide_eq_true (ZA.mp O1 k (ZG.mpr hk))
theorem Lq:((List.range 6).all λk=>(List.range 64).all λg=>Mt.sub (2^k) g==decide (Builtin.bitAnd ((g:Int)/2^k) 1=1))=true:=by decide+kernel
theorem O2{k g:Nat}(hk:k<6)(hg:g<64):Mt.sub (2^k) g=decide (Builtin.bitAnd ((g:Int)/2^k) 1=1):=eq_of_beq (ZA.mp (ZA.mp Lq k (ZG.mpr hk)) g (ZG.mpr hg))
theorem ne_str{x y:Str}(h:x≠y){a b:Den}{ρ:cA}(ha:a ρ=some (.str x))(hb:b ρ=some (.str y)):tV (ag pW a b) ρ=some false:=by
 refine cT ((ai ha hb).trans ?_)
 show some (PV.bl (decide (x=y)))=_
 rw[decide_eq_false h]
theorem eq_str{x:Str}{a b:Den}{ρ:cA}(ha:a ρ=some (.str x))(hb:b ρ=some (.str x)):tV (ag pW a b) ρ=some true:=by
 refine cT ((ai ha hb).trans ?_)
 show some (PV.bl (decide (x=x)))=_
 rw[decide_eq_true rfl]
theorem ah:("all" :Str)≠ "hand" :=by decide+kernel
theorem yh:("any" :Str)≠ "hand" :=by decide+kernel
theorem Vn:("some" :Str)≠ "hand" :=by decide+kernel
theorem ya:("any" :Str)≠ "all" :=by decide+kernel
theorem sa:("some" :Str)≠ "all" :=by decide+kernel
theorem sy:("some" :Str)≠ "any" :=by decide+kernel
abbrev tR(R:List Str):PV:=.tup (R.map PV.str)
theorem Lr{i:Nat}{body:aR}{x:PV}{xs:List PV}{ρ:cA}{p:PV}(h:body (ρ.set i (.sh x))=some (.rt p)):forL (bN i) body (x::xs) ρ=some (.rt p):=by
 rw[yi]
 show(body (ρ.set i (.sh x))).bind _=_
 rw[h]
 rfl
theorem rR{names:List Str}{x:Str}(h:x∉names):ik (.str x) (tR names)=some (.bl true):=by
 have a:(names.map PV.str).all flat=true:=ZA.mpr λp hp=>by
  obtain⟨y,_,rfl⟩:=Zi.mp hp
  rfl
 have b:vN (.str x) (names.map PV.str)=false:=by
  rw[Bool.eq_false_iff]
  intro z
  obtain⟨p,hp,e⟩:=Zw.mp z
  obtain⟨y,hy,rfl⟩:=Zi.mp hp
  have e':(x==y)=true\/(y==x)=true:=by first|exact Or.inl e|exact Or.inr e
  rcases e' with e'|e'
  ·exact h (eq_of_beq e'▸hy)
  ·exact h (eq_of_beq e'▸hy)
 show(if flat (.str x)&&(names.map PV.str).all flat then some (PV.bl (!vN (.str x) (names.map PV.str)))else none)=_
 rw[a,b]
 rfl
theorem Jc{x:Str}(h:Fo x){f:Den}{ρ:cA}(e:f ρ=some (.str x)):QO f ρ=true:=by
 unfold QO
 rw[e]
 show(x.cps.all (·<128)&&decide (x.length<=5000))=true
 rw[decide_eq_true (by have:=h.2.2;omega),X5,<-Array.all_toList]
 exact ZA.mpr λc hc=>decide_eq_true (by have:=h.1 c hc;omega)
theorem Fz{f:Den}{ρ:cA}{i:Int}(h:f ρ=some (.int i)):uH f ρ=some (.rt (.int i)):=by
 unfold uH
 rw[h]
 rfl
theorem Jd{f:Den}{ρ:cA}{b:Bool}(h:f ρ=some (.bl b)):uH f ρ=some (.rt (.bl b)):=by
 unfold uH
 rw[h]
 rfl
theorem kZ{f:Den}{ρ:cA}{p:PV}(h:f ρ=some p):wZ f ρ=some (.rt p):=by
 unfold wZ
 rw[h]
 rfl
theorem AW{R:List Str}{x:Str}(h:x∈R)(hl:R.length<=6):bK [tR R,.lst [.str x]]=some (.int ((2^fD x R:Nat):Int)):=by
 have hk:=zd h
 rw[<-RT (k:=fD x R) (by omega)]
 refine dk rfl ?_
 refine(av (aO (p:=.int 0) rfl)).trans ?_
 have b:lC [.sh (tR R),.sh (.lst [.str x]),.sh (.int 0),.sh (.str x)]=some (.nx [.sh (tR R),.sh (.lst [.str x]),.sh (.int (Builtin.bitOr 0 (1*2^fD x R))),.sh (.str x)]):=by
  refine(av ((eK (cT ((ai (x:=.str x) (y:=tR R) rfl rfl).trans (vB h)))).trans rfl)).trans ?_
  exact aO ((ai (x:=.int 0) rfl ((ai (x:=.int 1) rfl ((ai (x:=tR R) (y:=.str x) rfl rfl).trans (AV h))).trans (yg (by omega)))).trans rfl)
 refine(av ((gF (xs:=[.str x]) (iQ rfl)).trans ((iL (i:=3) (x:=.str x) (xs:=[]) b).trans rfl))).trans ?_
 exact Fz rfl
theorem FA{R:List Str}{x:Str}(h:x∉R)(hx:Fo x):bK [tR R,.lst [.str x]]=some (tG 0):=by
 refine dk rfl ?_
 refine(av (aO (p:=.int 0) rfl)).trans ?_
 have b:lC [.sh (tR R),.sh (.lst [.str x]),.sh (.int 0),.sh (.str x)]=some (.rt (tG 0)):=by
  refine jk ((jF (cT ((ai (x:=.str x) (y:=tR R) rfl rfl).trans (rR h)))).trans ?_)
  unfold xU
  rw[if_pos (Jc hx rfl)]
 exact jk ((gF (xs:=[.str x]) (iQ rfl)).trans (Lr (i:=3) (x:=.str x) (xs:=[]) b))
theorem Ls:((List.range 6).all λk=>(List.range 64).all λg=>decide (Builtin.bitAnd ((2^k:Nat):Int) (g:Int)=((2^k:Nat):Int))==Mt.sub (2^k) g)=true:=by decide+kernel
theorem O3{k g:Nat}(hk:k<6)(hg:g<64):decide (Builtin.bitAnd ((2^k:Nat):Int) (g:Int)=((2^k:Nat):Int))=Mt.sub (2^k) g:=eq_of_beq (ZA.mp (ZA.mp Ls k (ZG.mpr hk)) g (ZG.mpr hg))
theorem rS{α:Type}{c e:Den}{ρ:cA}(v w:α->PV)(p:α->Bool):∀xs:List α,(∀x∈xs,c (.sh (v x)::ρ)=some (.bl (p x))/\(p x=true->e (.sh (v x)::ρ)=some (w x)/\cU (w x)=none))->kQ c e ρ (xs.map v)=some (.lst ((xs.filter p).map w))
 |[],_=>rfl
 |x::xs,h=>by
  have ih:=rS v w p xs λy hy=>h y (wf _ hy)
  obtain⟨h1,h2⟩:=h x (wT ..)
  rw[ZC]
  unfold kQ
  rw[h1]
  show A3 (.bl (p x)) _=_
  rw[d6 rfl]
  show(if p x=true then _ else _)=_
  by_cases hp:p x=true
  ·obtain⟨h2,h3⟩:=h2 hp
   rw[if_pos hp,Zu hp,h2]
   show A3 (w x) _=_
   rw[d6 h3,ih]
   rfl
  ·rw[if_neg hp,Zv hp,ih]
theorem rT{α:Type}{c e:Den}{ρ:cA}(v:α->PV):∀xs:List α,(∀x∈xs,(c (.sh (v x)::ρ)=some (tG 0)\/(c (.sh (v x)::ρ)=some (.bl true)/\e (.sh (v x)::ρ)=some (tG 0)))\/∃b,c (.sh (v x)::ρ)=some (.bl b)/\∃z,e (.sh (v x)::ρ)=some z/\cU z=none)->
  (∃x∈xs,c (.sh (v x)::ρ)=some (tG 0)\/(c (.sh (v x)::ρ)=some (.bl true)/\e (.sh (v x)::ρ)=some (tG 0)))->kQ c e ρ (xs.map v)=some (tG 0)
 |[],_,⟨_,h,_⟩=>nomatch h
 |x::xs,h,q=>by
  rw[ZC]
  unfold kQ
  by_cases hb:c (.sh (v x)::ρ)=some (tG 0)\/(c (.sh (v x)::ρ)=some (.bl true)/\e (.sh (v x)::ρ)=some (tG 0))
  ·rcases hb with h1|⟨h1,h2⟩
   ·rw[h1]
    rfl
   ·rw[h1]
    show(if true=true then((e (.sh (v x)::ρ)).bind λz=>A3 z ((kQ c e ρ (xs.map v)).map (HJ z)))else kQ c e ρ (xs.map v))=_
    rw[if_pos rfl,h2]
    rfl
  ·obtain⟨b,h1,z,h2,h3⟩:=(h x (wT ..)).resolve_left hb
   have ih:=rT v xs (λy hy=>h y (wf _ hy)) (by
    obtain⟨y,hy,hq⟩:=q
    rcases ZJ.mp hy with rfl|hy
    ·exact absurd hq hb
    ·exact⟨y,hy,hq⟩)
   rw[h1]
   show A3 (.bl b) _=_
   rw[d6 rfl]
   show(if b=true then _ else _)=_
   cases b
   ·rw[if_neg (by decide),ih]
   ·rw[if_pos rfl,h2]
    show A3 z _=_
    rw[d6 h3,ih]
    rfl
theorem n6{it:cI}{c e:Den}{ρ:cA}{xs:List PV}{p:PV}(h1:it ρ=some xs)(h2:xs.length<=5000)(h3:kQ c e ρ xs=some p):oP it c e ρ=some p:=by
 have zl:(5000:Nat)<=sizeLine:=by decide
 unfold oP
 rw[h1]
 show(if xs.length<=sizeLine then _ else _)=_
 rw[if_pos (by omega),h3]
theorem Je{i:Nat}{a:Den}{ρ:cA}{p:PV}(h:a ρ=some p)(hx:cU p=none):w5 i a ρ=some (.nx (ρ.set i (.sh p))):=by
 unfold w5
 rw[h]
 show some (if(cU p).isSome=true then _ else _)=_
 rw[hx]
 rfl
theorem Lu{i:Nat}{a:Den}{ρ:cA}(h:a ρ=some (tG 0)):w5 i a ρ=some (.rt (tG 0)):=by
 unfold w5
 rw[h]
 rfl
theorem Jf(its:List It):wt its<=(Jn its).length+2:=by
 have key:∀(ts:List Str) (a:Array Nat),(ts.foldl (λacc (p:Str)=>acc++tj.cps++p.cps) a).size=a.size+(ts.map λt=>t.length+tj.length).sum:=by
  intro ts
  induction ts with
  |nil=>intro a;rfl
  |cons t ts ih=>
   intro a
   rw[Zl,ih,ZC,YO,YD,YD]
   have:t.cps.size=t.length:=rfl
   have:tj.cps.size=tj.length:=rfl
   omega
 have s2:tj.length=2:=by decide+kernel
 rw[<-CQ]
 cases its with
 |nil=>exact ZI _
 |cons i is=>
  have e:(Jn (i::is)).length=((is.map It.t).foldl (λacc (p:Str)=>acc++tj.cps++p.cps) i.t.cps).size:=rfl
  rw[e,key,ZC,ZC,YO]
  have:i.t.cps.size=i.t.length:=rfl
  omega
theorem Jg{a:Den}{ρ:cA}{p:PV}(h:a ρ=some p)(hx:cU p=none):wY a ρ=some (.lst [p]):=by
 unfold wY
 rw[h]
 exact d6 hx
theorem Lv{a:Den}{ρ:cA}(h:a ρ=some (tG 0)):wY a ρ=some (tG 0):=by
 unfold wY
 rw[h]
 rfl
theorem Jh{F:List PV->Option PV}{a:Den}{as:cI}{ρ:cA}{p:PV}{ps:List PV}{b:Bool}(h:a ρ=some p)(hx:cU p=none)(h2:as ρ=some ps)(h3:F (p::ps)=some (.bl b)):wW F a as ρ=some (.bl b):=by
 unfold wW
 rw[h]
 show A3 p _=_
 rw[d6 hx,h2]
 show(F (p::ps)).bind _=_
 rw[h3]
 rfl
theorem Lx{F:List PV->Option PV}{a:Den}{as:cI}{ρ:cA}(h:a ρ=some (tG 0)):wW F a as ρ=some (tG 0):=by
 unfold wW
 rw[h]
 rfl
theorem Ji{F:List PV->Option PV}{a b:Den}{ρ:cA}{p:PV}{q z:List PV}(h:a ρ=some p)(h2:b ρ=some (.lst q))(h3:F [p,.lst q]=some (.lst z)):wX F a b ρ=some (.lst z):=by
 unfold wX
 rw[h,Zn,h2]
 show A3 (.lst q) _=_
 rw[d6 rfl,h3]
 rfl
theorem Ly{F:List PV->Option PV}{a b:Den}{ρ:cA}{p:PV}(h:a ρ=some p)(h2:b ρ=some (tG 0)):wX F a b ρ=some (tG 0):=by
 unfold wX
 rw[h,Zn,h2]
 rfl
def Good(R:List Str)(i:It)(c:Nat)(r:List Nat)(m:Nat):Prop:=de (m+1) c [i.o,tR R]=some (aX r)/\∀g<2^R.length,gJ (m+1) c [i.o,tR R,.int (g:Nat)]=some (.bl (Mt.lets r g))/\cR (m+1) [i.s,tR R,.int (g:Nat)]=some (.bl (Mt.lets r g))
def Xh(R:List Str)(i:It)(c:Nat)(m:Nat):Prop:=de (m+1) c [i.o,tR R]=some (tG 0)/\∀g:Nat,g<2^R.length->gJ (m+1) c [i.o,tR R,.int (g:Nat)]=some (tG 0)
structure JB(names:List Str)(i:It)(c:Nat)(nms:List Str):Prop where
 obj:∃l,i.o=.ins c l
 kind:c<4
 sub:∀x∈nms,x∈names
 size:2*nms.length<=i.t.length+2
 nam:∀m,i.d<=m->df (m+1) [i.s]=some (.lst (nms.map PV.str))
 good:∀R:List Str,R.length<=6->(∀x∈nms,x∈R)->∃r,oV R.length r/\∀m,i.d<=m->Good R i c r m
 bad:∀R:List Str,R.length<=6->(∃x∈nms,x∉R)->∀m,i.d<=m->Xh R i c m
def Ok(names:List Str)(i:It):Prop:=∃c nms,JB names i c nms
theorem Lz{names:List Str}(hn:∀x∈names,Fo x){x:Str}(h:x∈names):Ok names ⟨.ins 0 [.str x],.tup [.str "hand",.str x],x,0⟩:=by
 have fl:∀ρ:cA,i6 (aa (bW (pX tF "name") (dV 0)) aH) (.sh (.ins 0 [.str x])::ρ)=some (.lst [.str x]):=λρ=>ly (aB ((eL (x:=.ins 0 [.str x]) rfl).trans (Ja _)) rfl) (by simp)
 refine⟨0,[x],⟨_,rfl⟩,by decide,λy hy=>ZE.mp hy▸h,?_,λm _=>?_,λR hl hR=>?_,λR hl hR m _=>?_⟩
 ·show 2*1<=x.length+2
  omega
 ·refine dk rfl ?_
  exact jk ((jF (eq_str (x:= "hand") rfl rfl)).trans (dW (ly (aB (x:=.str x) rfl rfl) (by simp))))
 ·have hx:=hR x (wT ..)
  have hk:=zd hx
  have hp:=Nat.pow_lt_pow_right (a:=2) (by decide) hk
  have BD:=jt hl
  refine⟨[2^fD x R],⟨⟨Zt _ _,λa ha b hb _=>?_,λa ha=>?_⟩,λa ha=>?_⟩,λm _=>⟨?_,λg hg=>⟨?_,?_⟩⟩⟩
  ·rw[ZE.mp ha,ZE.mp hb]
  ·rw[ZE.mp ha]
   omega
  ·rw[ZE.mp ha]
   exact hp
  ·refine dk rfl (kZ (Jg (p:=.int ((2^fD x R:Nat):Int)) ?_ rfl))
   exact(aP (aB (x:=tR R) rfl (aB (x:=.lst [.str x]) (fl _) rfl))).trans (AW hx hl)
  ·refine dk rfl (kZ (Jh (p:=.int ((2^fD x R:Nat):Int)) (ps:=[.int (g:Nat)]) ?_ rfl rfl ((rj _ _).trans ?_)))
   ·exact(aP (aB (x:=tR R) rfl (aB (x:=.lst [.str x]) (fl _) rfl))).trans (AW hx hl)
   ·rw[O3 (by omega) (by omega)]
    show _=some (PV.bl (Mt.sub (2^fD x R) g||false))
    rw[X4]
  ·have e:Mt.lets [2^fD x R] g=decide (Builtin.bitAnd ((g:Int)/2^fD x R) 1=1):=by
     rw[<-O2 (by omega) (by omega)]
     show(Mt.sub (2^fD x R) g||false)=_
     rw[X4]
   rw[e]
   refine dk rfl ?_
   refine jk ((jF (eq_str (x:= "hand") rfl rfl)).trans (dW ?_))
   refine(ai (x:=.int (Builtin.bitAnd ((g:Int)/2^fD x R) 1)) (y:=.int 1) ((ai (x:=.int ((g:Int)/2^fD x R)) (y:=.int 1) ((ai (x:=.int (g:Nat)) (y:=.int (fD x R:Nat)) rfl ((ai (x:=tR R) (y:=.str x) rfl rfl).trans (AV hx))).trans ?_) rfl).trans rfl) rfl).trans rfl
   show(if decide (0<=((fD x R:Nat):Int))then some (PV.int (((g:Nat):Int)/2^((fD x R:Nat):Int).toNat))else none)=_
   rw[if_pos (decide_eq_true (by omega)),Zd]
 ·obtain⟨y,hy,hq⟩:=hR
  rw[ZE.mp hy]at hq
  have gx:bK [tR R,.lst [.str x]]=some (tG 0):=FA hq (hn x h)
  refine⟨?_,λg hg=>?_⟩
  ·refine dk rfl (kZ (Lv ?_))
   exact(aP (aB (x:=tR R) rfl (aB (x:=.lst [.str x]) (fl _) rfl))).trans gx
  ·refine dk rfl (kZ (Lx ?_))
   exact(aP (aB (x:=tR R) rfl (aB (x:=.lst [.str x]) (fl _) rfl))).trans gx
theorem pick{names:List Str}{its:List It}{n:Nat}(hi:∀i∈its,Ok names i/\i.d<=n):∃(C:It->Nat) (Nm:It->List Str),∀i∈its,JB names i (C i) (Nm i)/\i.d<=n:=by
 have:∀i:It,∃q:Nat×List Str,i∈its->JB names i q.1 q.2/\i.d<=n:=λi=>by
  by_cases h:i∈its
  ·obtain⟨⟨c,nms,hv⟩,hd⟩:=hi i h
   exact⟨(c,nms),λ_=>⟨hv,hd⟩⟩
  ·exact⟨(0,[]),λz=>absurd z h⟩
 exact⟨λi=>(Classical.choose (this i)).1,λi=>(Classical.choose (this i)).2,λi h=>X3 (this i) h⟩
theorem qJ{c w:Nat}{q:List PV}(h0:0<c)(h4:c<4)(ρ:cA):sZ (bW (pX tF "parts") (dV 0)) (.sh (.ins c [.int (w:Nat),.tup q])::ρ)=some q:=by
 show((bW (pX tF "parts") (dV 0)) (.sh (.ins c [.int (w:Nat),.tup q])::ρ)).bind xR=_
 rw[(eL (x:=.ins c [.int (w:Nat),.tup q]) rfl).trans (Fy h0 h4 _ _)]
 rfl
section
variable{names:List Str}{its:List It}{n:Nat}(h8:its.length<=8){C:It->Nat}{Nm:It->List Str}(hi:∀i∈its,JB names i (C i) (Nm i)/\i.d<=n)
include hi
theorem vD{m:Nat}(hm:n<m)(s0:Slot):∀(js:List It) (acc:List Str) (s2:Slot),(∀i∈js,i∈its)->acc.length+wt js<=100000->∃Js,forL (bN 2) (ip (df m)) (js.map It.s) [s0,.sh (.lst (acc.map PV.str)),s2]=some (.nx [s0,.sh (.lst ((acc++js.flatMap Nm).map PV.str)),Js])
 |[],acc,s2,_,_=>⟨s2,by rw[List.flatMap_nil,ZL];rfl⟩
 |i::js,acc,s2,hj,hb=>by
  obtain⟨k,rfl⟩:∃k,m=k+1:=⟨m-1,by omega⟩
  obtain⟨hw,hd⟩:=hi i (hj i (wT ..))
  have hz:=hw.size
  rw[yu]at hb
  have zl:(200000:Nat)<=sizeLine:=by decide
  have b:ip (df (k+1)) [s0,.sh (.lst (acc.map PV.str)),.sh i.s]=some (.nx [s0,.sh (.lst ((acc++Nm i).map PV.str)),.sh i.s]):=by
   refine aO ((ai (x:=.lst (acc.map PV.str)) rfl ((aP (ps:=[i.s]) rfl).trans (hw.nam k (by omega)))).trans ?_)
   show(if(acc.map PV.str).length+((Nm i).map PV.str).length<=sizeLine then some (PV.lst (acc.map PV.str++(Nm i).map PV.str))else none)=_
   rw[if_pos (by rw[wE,wE];omega),Zs]
  obtain⟨Js,e⟩:=vD hm s0 js (acc++Nm i) (.sh i.s) (λj hq=>hj j (wf _ hq)) (by rw[ZD];omega)
  refine⟨Js,?_⟩
  rw[ZC,List.flatMap_cons,<-tz]
  exact(iL (i:=2) (x:=i.s) b).trans e
theorem FC:2*(its.flatMap Nm).length<=wt its:=by
 have:∀js:List It,(∀i∈js,i∈its)->2*(js.flatMap Nm).length<=wt js:=by
  intro js
  induction js with
  |nil=>exact λ_=>ZI _
  |cons i js ih=>
   intro hj
   have h1:=(hi i (hj i (wT ..))).1.size
   have h2:=ih λj hq=>hj j (wf _ hq)
   rw[List.flatMap_cons,ZD,yu]
   omega
 exact this its λ_ h=>h
theorem Sx{i:It}(h:i∈its):cU i.o=none:=by
 obtain⟨⟨⟨l,e⟩,h4,_⟩,_⟩:=hi i h
 rw[e]
 show(if 1000<=C i then _ else _)=none
 rw[if_neg (by omega)]
theorem n8{m:Nat}(hm:n<m){i:It}(h:i∈its)(ρ:cA)(c:PV)(R:List Str)(g:Nat){p:PV}(hp:∀k,i.d<=k->gJ (k+1) (C i) [i.o,tR R,.int (g:Nat)]=some p):uF (gJ m) (a6 0) (aa (a6 2) (aa (a6 3) aH)) (.sh i.o::.sh c::.sh (tR R)::.sh (.int (g:Nat))::ρ)=some p:=by
 obtain⟨k,rfl⟩:∃k,m=k+1:=⟨m-1,by omega⟩
 obtain⟨⟨⟨l,e⟩,_⟩,hd⟩:=hi i h
 have:=hp k (by omega)
 rw[e]at this⊢
 exact this
theorem kc{m:Nat}(hm:n<m){i:It}(h:i∈its)(ρ:cA)(c:PV)(R:List Str){p:PV}(hp:∀k,i.d<=k->de (k+1) (C i) [i.o,tR R]=some p):uF (de m) (a6 0) (aa (a6 2) aH) (.sh i.o::.sh c::.sh (tR R)::ρ)=some p:=by
 obtain⟨k,rfl⟩:∃k,m=k+1:=⟨m-1,by omega⟩
 obtain⟨⟨⟨l,e⟩,_⟩,hd⟩:=hi i h
 have:=hp k (by omega)
 rw[e]at this⊢
 exact this
include h8
theorem CU{c:Nat}(h0:0<c)(h4:c<4)(w:Nat)(s:PV)(t:Str)
  (hT:∀m,de (m+1) c=fn false 2 2 (cW kj (de m))/\gJ (m+1) c=fn false 4 3 (dN (gJ m)))
  (hs:jA s (.int (-1))=some (.tup (its.map It.s))){k0:Str}(hk:k0≠ "hand")(Py:jA s (.int 0)=some (.str k0))(ht:wt its<=t.length+2)(hw:wt its<=50000)
  (hH:∀(R:List Str) (Rr:It->List Nat) (m g:Nat),n<m->(∀i∈its,∀m',i.d<=m'->cR (m'+1) [i.s,tR R,.int (g:Nat)]=some (.bl (Mt.lets (Rr i) g)))->cR (m+1) [s,tR R,.int (g:Nat)]=some (.bl (decide (w<=(its.filter λi=>Mt.lets (Rr i) g).length)))):
  JB names ⟨.ins c [.int (w:Nat),.tup (its.map It.o)],s,t,1+n⟩ c (its.flatMap Nm):=by
 refine⟨⟨_,rfl⟩,h4,λx hx=>?_,?_,λm hm=>?_,λR hl hR=>?_,λR hl hR m hm=>?_⟩
 ·obtain⟨i,h,hx⟩:=XT.mp hx
  exact(hi i h).1.sub x hx
 ·have:=FC hi
  show _<=t.length+2
  omega
 ·have Sl:1+n<=m:=hm
  obtain⟨Js,e⟩:=vD hi (m:=m) (by omega) (.sh s) its [] .un (λ_ h=>h) (by show 0+_<=_;omega)
  refine dk rfl ?_
  refine(av ((eK (ne_str hk ((ai (x:=s) (y:=.int 0) rfl rfl).trans Py) rfl)).trans rfl)).trans ?_
  refine(av (aO (p:=.lst []) rfl)).trans ?_
  have it:sZ (ag jA (dV 0) (bW lj (dC (.int 1)))) [.sh s,.sh (.lst []),.un]=some (its.map It.s):=by
   show((ag jA (dV 0) (bW lj (dC (.int 1)))) [.sh s,.sh (.lst []),.un]).bind xR=_
   rw[(ai (x:=s) (y:=.int (-1)) rfl rfl).trans hs]
   rfl
  exact(av ((gF it).trans e)).trans (dW rfl)
 ·have:∀i:It,∃r,i∈its->oV R.length r/\∀m,i.d<=m->Good R i (C i) r m:=λi=>by
    by_cases h:i∈its
    ·obtain⟨r,hr⟩:=(hi i h).1.good R hl λx hx=>hR x (XT.mpr ⟨i,h,hx⟩)
     exact⟨r,λ_=>hr⟩
    ·exact⟨[],λz=>absurd z h⟩
  obtain⟨Rr,hg⟩:∃Rr:It->List Nat,∀i∈its,oV R.length (Rr i)/\∀m,i.d<=m->Good R i (C i) (Rr i) m:=⟨λi=>Classical.choose (this i),λi h=>X3 (this i) h⟩
  obtain⟨r,r1,r2,r3⟩:=Lg hl (w:Int) (ls:=its.map Rr) (by rw[wE];omega) (λl h=>by
   obtain⟨i,h1,rfl⟩:=Zi.mp h
   exact(hg i h1).1)
  have rl:∀g<2^R.length,Mt.lets r g=decide (w<=(its.filter λi=>Mt.lets (Rr i) g).length):=λg hg=>by
   rw[r2 g hg,decide_eq_decide]
   unfold cnt
   rw[List.countP_map,Yw]
   show((w:Int)<=(((its.filter λi=>Mt.lets (Rr i) g).length:Nat):Int))↔_
   omega
  refine⟨r,r1,λm hm=>?_⟩
  have Sl:1+n<=m:=hm
  refine⟨?_,λg MD=>⟨?_,?_⟩⟩
  ·rw[(hT m).1]
   refine dk rfl (kZ (Ji (p:=.int (w:Nat)) (q:=its.map (aX∘Rr)) ((eL (x:=.ins c [.int (w:Nat),.tup (its.map It.o)]) rfl).trans (pI h0 h4 _ _)) ?_ ?_))
   ·refine n6 (qJ h0 h4 _) (by rw[wE];omega) ?_
    have:=rS (c:=dC (.bl true)) (e:=uF (de m) (a6 0) (aa (a6 2) aH)) (ρ:=gE 2 [.ins c [.int (w:Nat),.tup (its.map It.o)],tR R]) It.o (aX∘Rr) (λ_=>true) its λi h=>⟨rfl,λ_=>⟨kc hi (by omega) h _ _ R λk hk=>((hg i h).2 k hk).1,rfl⟩⟩
    rw[List.filter_eq_self.mpr λ_ _=>rfl]at this
    exact this
   ·rw[Zg]at r3
    exact r3
  ·rw[(hT m).2,rl g MD]
   refine dk rfl ?_
   refine(av (Je (p:=.lst ((its.filter λi=>Mt.lets (Rr i) g).map It.o)) (n6 (qJ h0 h4 _) (by rw[wE];omega) (rS It.o It.o (λi=>Mt.lets (Rr i) g) its λi h=>⟨n8 hi (by omega) h _ _ R g λk hk=>(((hg i h).2 k hk).2 g MD).1,λ_=>⟨?_,Sx hi h⟩⟩)) rfl)).trans (Jd ?_)
   ·show(if(cU i.o).isSome=true then none else some i.o)=_
    rw[Sx hi h]
    rfl
   ·refine(ai (x:=.int ((its.filter λi=>Mt.lets (Rr i) g).length:Nat)) (y:=.int (w:Nat)) ?_ ((eL (x:=.ins c [.int (w:Nat),.tup (its.map It.o)]) rfl).trans (pI h0 h4 _ _))).trans ?_
    ·show some (PV.int ((((its.filter λi=>Mt.lets (Rr i) g).map It.o).length:Nat):Int))=_
     rw[wE]
    ·show some (PV.bl (decide ((w:Int)<=((its.filter λi=>Mt.lets (Rr i) g).length:Int))))=_
     congr 2
     rw[decide_eq_decide]
     omega
  ·rw[rl g MD]
   exact hH R Rr m g (by omega) λi h m' hd=>(((hg i h).2 m' hd).2 g MD).2
 ·have Sl:1+n<=m:=hm
  have each:∀i∈its,(∀x∈Nm i,x∈R)\/∃x∈Nm i,x∉R:=λi _=>by
   by_cases h:∃x∈Nm i,x∉R
   ·exact .inr h
   ·exact .inl λx hx=>Zr λz=>h ⟨x,hx,z⟩
  obtain⟨x,hx,bb⟩:=hR
  obtain⟨j,hj,Xi⟩:=XT.mp hx
  have Vo:=(hi j hj).1.bad R hl ⟨x,Xi,bb⟩
  refine⟨?_,λg MD=>?_⟩
  ·rw[(hT m).1]
   refine dk rfl (kZ (Ly (p:=.int (w:Nat)) ((eL (x:=.ins c [.int (w:Nat),.tup (its.map It.o)]) rfl).trans (pI h0 h4 _ _)) ?_))
   refine n6 (qJ h0 h4 _) (by rw[wE];omega) (rT It.o its (λi h=>?_) ⟨j,hj,.inr ⟨rfl,kc hi (by omega) hj _ _ R λk hk=>(Vo k hk).1⟩⟩)
   rcases each i h with q|q
   ·obtain⟨r,_,hr⟩:=(hi i h).1.good R hl q
    exact .inr ⟨true,rfl,_,kc hi (by omega) h _ _ R λk hk=>(hr k hk).1,rfl⟩
   ·exact .inl (.inr ⟨rfl,kc hi (by omega) h _ _ R λk hk=>((hi i h).1.bad R hl q k hk).1⟩)
  ·rw[(hT m).2]
   refine dk rfl (jk (Lu (n6 (qJ h0 h4 _) (by rw[wE];omega) (rT It.o its (λi h=>?_) ⟨j,hj,.inl (n8 hi (by omega) hj _ _ R g λk hk=>(Vo k hk).2 g MD)⟩))))
   rcases each i h with q|q
   ·obtain⟨r,_,hr⟩:=(hi i h).1.good R hl q
    refine .inr ⟨_,n8 hi (by omega) h _ _ R g λk hk=>((hr k hk).2 g MD).1,i.o,?_,Sx hi h⟩
    show(if(cU i.o).isSome=true then none else some i.o)=_
    rw[Sx hi h]
    rfl
   ·exact .inl (.inl (n8 hi (by omega) h _ _ R g λk hk=>((hi i h).1.bad R hl q k hk).2 g MD))
end
section
variable{its:List It}{n:Nat}(h8:its.length<=8)(hd:∀i∈its,i.d<=n){R:List Str}{Rr:It->List Nat}{g:Nat}(hi:∀i∈its,∀m',i.d<=m'->cR (m'+1) [i.s,tR R,.int (g:Nat)]=some (.bl (Mt.lets (Rr i) g)))
include h8 hd hi
theorem rV{m:Nat}(hm:n<m){p:PV}(ht:jA p (.int (-1))=some (.tup (its.map It.s)))(s3:Slot):
  b8 3 (bW cQ (bM (sZ (ag jA (dV 0) (bW lj (dC (.int 1))))) (tV (aN (cR m) (aa (a6 0) (aa (a6 2) (aa (a6 3) aH))))) (a6 0))) [.sh p,.sh (tR R),.sh (.int (g:Nat)),s3]=some (.nx [.sh p,.sh (tR R),.sh (.int (g:Nat)),.sh (.int ((its.filter λi=>Mt.lets (Rr i) g).length:Nat))]):=by
 have dc:bM (sZ (ag jA (dV 0) (bW lj (dC (.int 1))))) (tV (aN (cR m) (aa (a6 0) (aa (a6 2) (aa (a6 3) aH))))) (a6 0) [.sh p,.sh (tR R),.sh (.int (g:Nat)),s3]=some (.lst ((its.filter λi=>Mt.lets (Rr i) g).map It.s)):=by
  refine Jb It.s (λi=>Mt.lets (Rr i) g) ?_ (by omega) λi Se=>?_
  ·show((ag jA (dV 0) (bW lj (dC (.int 1)))) [.sh p,.sh (tR R),.sh (.int (g:Nat)),s3]).bind xR=_
   rw[(ai (x:=p) (y:=.int (-1)) rfl rfl).trans ht]
   rfl
  ·have:=hd i Se
   obtain⟨k,rfl⟩:∃k,m=k+1:=⟨m-1,by omega⟩
   exact cT (hi i Se k (by omega))
 refine aO ((eL dc).trans ?_)
 show some (PV.int (((its.filter λi=>Mt.lets (Rr i) g).map It.s).length:Nat))=_
 rw[wE]
end
theorem Xj{names:List Str}(hn:∀x∈names,Fo x):Sv names (Ok names) where
 hand:=λx h=>Lz hn h
 all:=λits n h0 h8 hw hi=>by
  obtain⟨C,Nm,hv⟩:=pick hi
  refine⟨1,_,CU h8 hv (by decide) (by decide) its.length _ _ (λm=>⟨rfl,rfl⟩) rfl ah rfl ?_ hw λR Rr m g hm hg=>?_⟩
  ·have:=Jf its
   rw[cH,cH (Jn its)]
   omega
  ·refine dk rfl ?_
   refine(av ((eK (ne_str ah rfl rfl)).trans rfl)).trans ?_
   refine(av (rV h8 (λi h=>(hv i h).2) hg (m:=m) hm rfl .un)).trans ?_
   refine jk ((jF (eq_str rfl rfl)).trans (dW ((ai (x:=.int ((its.filter λi=>Mt.lets (Rr i) g).length:Nat)) (y:=.int (its.length:Nat)) rfl ?_).trans ?_)))
   ·show some (PV.int ((its.map It.s).length:Nat))=_
    rw[wE]
   ·rw[yr]
    congr 2
    rw[decide_eq_decide]
    have:=Yl (λi=>Mt.lets (Rr i) g) its
    omega
 any:=λits n h0 h8 hw hi=>by
  obtain⟨C,Nm,hv⟩:=pick hi
  refine⟨2,_,CU h8 hv (by decide) (by decide) 1 _ _ (λm=>⟨rfl,rfl⟩) rfl yh rfl ?_ hw λR Rr m g hm hg=>?_⟩
  ·have:=Jf its
   rw[cH,cH (Jn its)]
   omega
  ·refine dk rfl ?_
   refine(av ((eK (ne_str yh rfl rfl)).trans rfl)).trans ?_
   refine(av (rV h8 (λi h=>(hv i h).2) hg (m:=m) hm rfl .un)).trans ?_
   refine(av ((eK (ne_str ya rfl rfl)).trans rfl)).trans ?_
   refine jk ((jF (eq_str rfl rfl)).trans (dW ((ai (x:=.int ((its.filter λi=>Mt.lets (Rr i) g).length:Nat)) (y:=.int 0) rfl rfl).trans ?_)))
   show some (PV.bl (decide ((0:Int)<((its.filter λi=>Mt.lets (Rr i) g).length:Int))))=_
   congr 2
   rw[decide_eq_decide]
   omega
 some:=λits n w h0 h8 hw hi h1 h2=>by
  obtain⟨C,Nm,hv⟩:=pick hi
  refine⟨3,_,CU h8 hv (by decide) (by decide) w _ _ (λm=>⟨rfl,rfl⟩) rfl Vn rfl ?_ hw λR Rr m g hm hg=>?_⟩
  ·have:=Jf its
   rw[cH,cH (Jn its)]
   omega
  ·refine dk rfl ?_
   refine(av ((eK (ne_str Vn rfl rfl)).trans rfl)).trans ?_
   refine(av (rV h8 (λi h=>(hv i h).2) hg (m:=m) hm rfl .un)).trans ?_
   refine(av ((eK (ne_str sa rfl rfl)).trans rfl)).trans ?_
   refine(av ((eK (ne_str sy rfl rfl)).trans rfl)).trans ?_
   refine dW ((ai (x:=.int ((its.filter λi=>Mt.lets (Rr i) g).length:Nat)) (y:=.int (w:Nat)) rfl rfl).trans ?_)
   show some (PV.bl (decide ((w:Int)<=((its.filter λi=>Mt.lets (Rr i) g).length:Int))))=_
   congr 2
   rw[decide_eq_decide]
   omega
theorem LA(ns:List Int):∃xs:List Str,xs≠[]/\xs.length<=6/\(∀x∈xs,Fo x)/\F_law_roll [hV ns]=some (.tup (xs.map PV.str)):=by
 have hz:=mod_lt (ns.getD 0 0) (n:=6) (by decide)
 obtain⟨f,h1,h2,h3⟩:=IX ns 2 (1+(ns.getD 0 0 %((6:Nat):Int)).toNat) (by omega)
 refine⟨_,λz=>?_,?_,λx hx=>?_,oU rfl ((eL ((aP (aB (x:=hV ns) rfl (aB (x:=.int (2:Nat)) rfl (aB (x:=.int ((1+(ns.getD 0 0 %((6:Nat):Int)).toNat:Nat):Int)) ?_ rfl)))).trans h3)).trans rfl)⟩
 ·have:=congrArg List.length z
  rw[wE,Zj]at this
  simp at this
 ·rw[wE,Zj]
  omega
 ·obtain⟨k,_,rfl⟩:=Zi.mp hx
  exact h1 k
 ·exact(ai (x:=.int ((1:Nat):Int)) rfl ((ai (y:=.int ((6:Nat):Int)) ((aP (ps:=[hV ns,.int (0:Nat)]) rfl).trans (qo ns 0)) rfl).trans (dq _ (by decide)))).trans rfl
theorem ME{c:Nat}{l:List PV}{R:List Str}{g:Nat}{p z:PV}(h:jH c [.ins c l,tR R,.int (g:Nat)]=some p)(hp:sr ["NoHand"] p=some z):F_law_asked [.ins c l,.int 0,tR R,.int (g:Nat)]=some z:=by
 show((if decide ((0:Int)=0)=true then jH c [.ins c l,tR R,.int (g:Nat)]else eN c [.ins c l,tR R]).bind (sr ["NoHand"]))=_
 rw[if_pos (by decide),h]
 exact hp
theorem MF{c:Nat}{l:List PV}{R:List Str}{g:Nat}{p z:PV}(h:eN c [.ins c l,tR R]=some p)(hp:sr ["NoHand"] p=some z):F_law_asked [.ins c l,.int 1,tR R,.int (g:Nat)]=some z:=by
 show((if decide ((1:Int)=0)=true then jH c [.ins c l,tR R,.int (g:Nat)]else eN c [.ins c l,tR R]).bind (sr ["NoHand"]))=_
 rw[if_neg (by decide),h]
 exact hp
section
variable{F_law_asked bx:List PV->Option PV}{o sp:PV}{R:List Str}{r:List Nat}(hl:R.length<=6)(hr:oV R.length r)
 (a0:∀g<2^R.length,F_law_asked [o,.int 0,tR R,.int (g:Nat)]=some (.tup [.bl (Mt.lets r g),.lst []]))(a1:F_law_asked [o,.int 1,tR R,.int 0]=some (.tup [aX r,.lst []]))
 (a2:∀g<2^R.length,bx [sp,tR R,.int (g:Nat)]=some (.bl (Mt.lets r g)))
include a0 a2 in
theorem vE(s6 s7:Slot):∀(gs:List Nat) (s3 s4 s5:Slot),(∀g∈gs,g<2^R.length)->∃t3 t4 t5,forL (bN 3) (oz F_law_asked bx) (pl gs) [.sh o,.sh sp,.sh (tR R),s3,s4,s5,s6,s7]=some (.nx [.sh o,.sh sp,.sh (tR R),t3,t4,t5,s6,s7])
 |[],s3,s4,s5,_=>⟨s3,s4,s5,rfl⟩
 |g::gs,s3,s4,s5,h=>by
  obtain⟨t3,t4,t5,e⟩:=vE s6 s7 gs (.sh (.int (g:Nat))) (.sh (.bl (Mt.lets r g))) (.sh (.lst [])) λx hx=>h x (wf _ hx)
  have hg:=h g (wT ..)
  refine⟨t3,t4,t5,(iL (i:=3) (x:=.int (g:Nat)) (xs:=pl gs) (ρ:=[.sh o,.sh sp,.sh (tR R),s3,s4,s5,s6,s7]) ?_).trans e⟩
  have as:u9 4 5 F_law_asked (aa (a6 0) (aa (dC (.int 0)) (aa (a6 2) (aa (a6 3) aH)))) [.sh o,.sh sp,.sh (tR R),.sh (.int (g:Nat)),s4,s5,s6,s7]=some (.nx [.sh o,.sh sp,.sh (tR R),.sh (.int (g:Nat)),.sh (.bl (Mt.lets r g)),.sh (.lst []),s6,s7]):=by
   unfold u9
   rw[(aP (ps:=[o,.int 0,tR R,.int (g:Nat)]) rfl).trans (a0 g hg)]
   rfl
  refine(av as).trans ((eK ?_).trans rfl)
  refine(su (cT ((ai (x:=aX []) (y:=aX []) rfl rfl).trans ((Cb [] []).trans rfl)))).trans ?_
  refine(su (yo (b:=true) (cT (by rfl)))).trans ?_
  refine cT ((ai (x:=.bl (Mt.lets r g)) (y:=.bl (Mt.lets r g)) rfl ((aP (ps:=[sp,tR R,.int (g:Nat)]) rfl).trans (a2 g hg))).trans ?_)
  rw[Ih,decide_eq_true rfl]
  rfl
include hr a2 in
theorem vF(s4 s5:Slot):∀(gs:List Nat) (s3 s7:Slot),(∀g∈gs,g<2^R.length)->∃t3 t7,forL (bN 3) (oy F_law_asked bx) (pl gs) [.sh o,.sh sp,.sh (tR R),s3,s4,s5,.ow (pl r),s7]=some (.nx [.sh o,.sh sp,.sh (tR R),t3,s4,s5,.ow (pl r),t7])
 |[],s3,s7,_=>⟨s3,s7,rfl⟩
 |g::gs,s3,s7,h=>by
  have zl:(5000:Nat)<=sizeLine:=by decide
  have hlen:=hr.len
  obtain⟨t3,t7,e⟩:=vF s4 s5 gs (.sh (.int (g:Nat))) (.sh (aX (r.filter λa=>Mt.sub a g))) λx hx=>h x (wf _ hx)
  refine⟨t3,t7,(iL (i:=3) (x:=.int (g:Nat)) (xs:=pl gs) (ρ:=[.sh o,.sh sp,.sh (tR R),s3,s4,s5,.ow (pl r),s7]) ?_).trans e⟩
  have dc:bM (nList (dV 6)) (tV (ag pW (ag sX (dV 0) (dV 4)) (dV 0))) (a6 0) [.sh o,.sh sp,.sh (tR R),.sh (.int (g:Nat)),s4,s5,.ow (pl r),s7]=some (aX (r.filter λa=>Mt.sub a g)):=
   xc (l:=r) rfl (by omega) λa _=>cT (sub_eq (A:=dV 0) (B:=dV 4) rfl rfl)
  refine(av (aO dc)).trans ?_
  refine(eK (cT ((ai (x:=.bl (Mt.lets r g)) (y:=.bl (Mt.lets r g)) ((aP (ps:=[sp,tR R,.int (g:Nat)]) rfl).trans (a2 g (h g (wT ..)))) ((ai (x:=aX (r.filter λa=>Mt.sub a g)) (y:=aX []) rfl rfl).trans ((Cb _ _).trans ?_))).trans ?_))).trans rfl
  ·congr 2
   rw[Ze,Mt.fI]
   simp only[YZ,decide_eq_false_iff_not]
   constructor
   ·intro z
    obtain⟨a,ha⟩:=Y5 _ z
    exact⟨a,(Zk.mp ha).1,(Zk.mp ha).2⟩
   ·rintro⟨a,h1,h2⟩ z
    have:a∈r.filter λa=>Mt.sub a g:=Zk.mpr ⟨h1,h2⟩
    rw[z]at this
    exact nomatch this
  ·rw[Ih,decide_eq_true rfl]
   rfl
include hl hr a0 a1 a2
theorem FD:fn false 8 3 (sA F_law_asked bx) [o,sp,tR R]=some (.bl true):=by
 have Uu:=jt hl
 have es:∀s3 s4 s5 s6 s7,ag sW (dC (.int 1)) (bW cQ (dV 2)) [.sh o,.sh sp,.sh (tR R),s3,s4,s5,s6,s7]=some (.int ((2^R.length:Nat):Int)):=λs3 s4 s5 s6 s7=>by
  have el:bW cQ (dV 2) [.sh o,.sh sp,.sh (tR R),s3,s4,s5,s6,s7]=some (.int (R.length:Nat)):=by
   show some (PV.int ((R.map PV.str).length:Nat))=_
   rw[wE]
  exact(ai (x:=.int 1) rfl el).trans (yq _ hl)
 refine dk rfl ?_
 obtain⟨t3,t4,t5,e2⟩:=vE a0 a2 .un .un (List.range (2^R.length)) .un .un .un λg hg=>ZG.mp hg
 refine(av ((gF (mO (n:=2^R.length) (es ..) (by omega))).trans e2)).trans ?_
 have as:u9 6 5 F_law_asked (aa (a6 0) (aa (dC (.int 1)) (aa (a6 2) (aa (dC (.int 0)) aH)))) [.sh o,.sh sp,.sh (tR R),t3,t4,t5,.un,.un]=some (.nx [.sh o,.sh sp,.sh (tR R),t3,t4,.sh (.lst []),.ow (pl r),.un]):=by
  unfold u9
  rw[(aP (ps:=[o,.int 1,tR R,.int 0]) rfl).trans a1]
  rfl
 refine(av as).trans ?_
 refine(av ((eK ((su (cT ((ai (x:=aX []) (y:=aX []) rfl rfl).trans ((Cb [] []).trans rfl)))).trans (yo (b:=true) (cT (by rfl))))).trans rfl)).trans ?_
 obtain⟨u3,u7,e1⟩:=vF (o:=o) hr a2 t4 (.sh (.lst [])) (List.range (2^R.length)) t3 .un λg hg=>ZG.mp hg
 refine(av ((gF (mO (n:=2^R.length) (es ..) (by omega))).trans e1)).trans ?_
 exact(av (ρ':=[.sh o,.sh sp,.sh (tR R),u3,t4,.sh (.lst []),.ow [],u7]) rfl).trans (dW rfl)
end
theorem Jj{names:List Str}{i:It}{c:Nat}{nms:List Str}(h:JB names i c nms)(hd:i.d<=23){R:List Str}(hl:R.length<=6)(hR:∀x∈nms,x∈R):F_law_right [i.o,i.s,tR R]=some (.bl true):=by
 obtain⟨r,hr,hg⟩:=h.good R hl hR
 obtain⟨g1,g2⟩:=hg 23 hd
 obtain⟨l,e⟩:=h.obj
 refine FD hl hr (λg hg=>?_) ?_ λg hg=>(g2 g hg).2
 ·have:=(g2 g hg).1
  rw[e]at this⊢
  exact ME this rfl
 ·rw[e]at g1⊢
  exact MF (g:=0) g1 rfl
theorem FE{names:List Str}{i:It}{c:Nat}{nms:List Str}(h:JB names i c nms)(hd:i.d<=23){R:List Str}(hl:R.length<=6)(hR:∃x∈nms,x∉R){g:Nat}(hg:g<2^R.length){w:Int}(hw:w=0\/w=1):F_law_asked [i.o,.int w,tR R,.int (g:Nat)]=some (.tup [.non,.lst [.str "NoHand"]]):=by
 obtain⟨b1,b2⟩:=h.bad R hl hR 23 hd
 obtain⟨l,e⟩:=h.obj
 have b3:=b2 g hg
 rw[e]at b1 b3⊢
 rcases hw with rfl|rfl
 ·exact ME b3 rfl
 ·exact MF b1 rfl
theorem AX{α:Type}{c:dF}{e:Den}{ρ:cA}(v w:α->PV)(p:α->Bool):∀xs:List α,(∀x∈xs,c (.sh (v x)::ρ)=some (p x)/\e (.sh (v x)::ρ)=some (w x))->gw c e ρ (xs.map v)=some ((xs.filter p).map w)
 |[],_=>rfl
 |x::xs,h=>by
  have ih:=AX v w p xs λy hy=>h y (wf _ hy)
  obtain⟨h1,h2⟩:=h x (wT ..)
  rw[ZC]
  unfold gw
  rw[h1,ih]
  by_cases hp:p x=true
  ·rw[Zu hp,hp]
   show((e (.sh (v x)::ρ)).bind _)=_
   rw[h2]
   rfl
  ·rw[Zv hp]
   have ED:p x=false:=by simpa using hp
   rw[ED]
   rfl
theorem FG{names:List Str}(x:Str):∃b,ik (.str x) (tR names)=some (.bl b):=by
 by_cases h:x∈names
 ·exact⟨_,vB h⟩
 ·exact⟨_,rR h⟩
theorem Ek{a:Den}{lo hi:sY}{ρ:cA}{xs:List PV}{l h:Option Int}(ha:a ρ=some (.tup xs))(hl:lo ρ=some l)(hh:hi ρ=some h)(hn:¬(mr xs.length 0 l=0/\mr xs.length xs.length h=xs.length)):HW a lo hi ρ=some (.tup (jU xs l h)):=by
 unfold HW
 rw[ha,Zn,hl,Zn,hh,Zn]
 show(if _ then _ else _)=_
 rw[if_neg hn]
theorem tX(n d k:Nat):mr n d (some (k:Int))=min k n:=by
 show(if((k:Nat):Int)<0 then(((k:Nat):Int)+n).toNat else min ((k:Nat):Int).toNat n)=_
 rw[if_neg (by omega),Zd]
theorem CV{α:Type}(xs:List α){k:Nat}(h:k<=xs.length):jU xs none (some (k:Int))=xs.take k:=by
 show(xs.drop 0).take (mr xs.length xs.length (some (k:Int))-0)=_
 rw[tX,Z2,XY h,YV]
theorem AY{α:Type}(xs:List α){k:Nat}(h:k<=xs.length):jU xs (some (k:Int)) none=xs.drop k:=by
 show(xs.drop (mr xs.length 0 (some (k:Int)))).take (xs.length-mr xs.length 0 (some (k:Int)))=_
 rw[tX,XY h,ZX (by rw[ZY];omega)]
section
variable{F_law_cell_at:List PV->Option PV}(hC:∀(ns:List Int) (k:Nat),F_law_cell_at [hV ns,.int k]=some (.int (ns.getD k 0)))
include hC
theorem FH{names:List Str}(h0:names≠[])(hl:names.length<=6)(hn:∀x∈names,Fo x)(ns:List Int):∃R:List Str,R≠[]/\R.length<=6/\fn false 4 2 (kW F_law_cell_at) [hV ns,tR names]=some (tR R):=by
 have zl:(5000:Nat)<=sizeLine:=by decide
 have hp:0<names.length:=List.length_pos_iff.mpr h0
 have el:∀s2 s3,bW cQ (dV 1) [.sh (hV ns),.sh (tR names),s2,s3]=some (.int (names.length:Nat)):=λs2 s3=>by
  show some (PV.int ((names.map PV.str).length:Nat))=_
  rw[wE]
 have c4:∀s2 s3,aN F_law_cell_at (aa (a6 0) (aa (dC (.int 4)) aH)) [.sh (hV ns),.sh (tR names),s2,s3]=some (.int (ns.getD 4 0)):=λs2 s3=>(aP (ps:=[hV ns,.int (4:Nat)]) rfl).trans (hC ns 4)
 generalize ns.getD 4 0=cell at c4
 have ha:=mod_lt cell hp
 have st:b8 2 (ag bY (aN F_law_cell_at (aa (a6 0) (aa (dC (.int 4)) aH))) (bW cQ (dV 1))) [.sh (hV ns),.sh (tR names),.un,.un]=some (.nx [.sh (hV ns),.sh (tR names),.sh (.int (((cell %(names.length:Int)).toNat:Nat):Int)),.un]):=aO ((ai (c4 _ _) (el _ _)).trans (dq _ hp))
 generalize(cell %(names.length:Int)).toNat=a at ha st
 obtain⟨b,tb⟩:∃b,oF (tV (ag FT (bW cQ (dV 1)) (dC (.int 1)))) (tV (ag oq (ag bY (ag ij (aN F_law_cell_at (aa (a6 0) (aa (dC (.int 4)) aH))) (dC (.int 6))) (dC (.int 4))) (dC (.int 1)))) [.sh (hV ns),.sh (tR names),.sh (.int (a:Nat)),.un]=some b/\(b=true->1<names.length):=by
  have t1:tV (ag FT (bW cQ (dV 1)) (dC (.int 1))) [.sh (hV ns),.sh (tR names),.sh (.int (a:Nat)),.un]=some (decide ((1:Int)<(names.length:Int))):=cT ((ai (y:=.int 1) (el _ _) rfl).trans rfl)
  by_cases h:(1:Int)<(names.length:Int)
  ·rw[decide_eq_true h]at t1
   refine⟨_,(yp t1).trans (cT ((ai (x:=.int (cell/6 % 4)) (y:=.int 1) ?_ rfl).trans (Lc _ _))),λ_=>by omega⟩
   exact(ai (x:=.int (cell/6)) (y:=.int 4) ((ai (y:=.int 6) (c4 _ _) rfl).trans rfl) rfl).trans rfl
  ·rw[decide_eq_false h]at t1
   exact⟨_,B9 t1,λz=>nomatch z⟩
 obtain⟨tb,hb⟩:=tb
 cases b
 ·have cp:∃ys:List Str,ys.length<=6/\bM (sZ (dV 1)) (oF (tV (ag FR (bW cQ (dV 0)) (dC (.int 20)))) (tV (ag ik (ag bU (dV 0) (dC (.str "q"))) (dV 2)))) (ag bU (dV 0) (dC (.str "q"))) [.sh (hV ns),.sh (tR names),.sh (.int (a:Nat)),.un]=some (.lst (ys.map PV.str)):=by
    have ad:∀x∈names,∀ρ:cA,ag bU (dV 0) (dC (.str "q")) (.sh (.str x)::ρ)=some (.str (x++ "q")):=λx hx ρ=>by
     refine(ai (x:=.str x) (y:=.str "q") rfl rfl).trans ?_
     show(if x.length+("q" :Str).length<=sizeLine then some (PV.str (x++ "q"))else none)=_
     have:("q" :Str).length=1:=by decide+kernel
     have:=(hn x hx).2.2
     rw[if_pos (by omega)]
    have ts:∀x∈names,∃b,oF (tV (ag FR (bW cQ (dV 0)) (dC (.int 20)))) (tV (ag ik (ag bU (dV 0) (dC (.str "q"))) (dV 2))) (.sh (.str x)::[.sh (hV ns),.sh (tR names),.sh (.int (a:Nat)),.un])=some b:=λx hx=>by
     obtain⟨b,hb⟩:=FG (names:=names) (x++ "q")
     have t1:tV (ag FR (bW cQ (dV 0)) (dC (.int 20))) (.sh (.str x)::[.sh (hV ns),.sh (tR names),.sh (.int (a:Nat)),.un])=some (decide (x.length<20)):=by
      have:=(hn x hx).2.2
      refine cT ((ai (x:=.int (x.length:Nat)) (y:=.int (20:Nat)) ((eL (x:=.str x) rfl).trans ?_) rfl).trans (Ld _ _))
      show(if x.length<=sizeLine then some (PV.int (x.length:Nat))else none)=_
      rw[if_pos (by omega)]
     by_cases h:x.length<20
     ·rw[decide_eq_true h]at t1
      exact⟨b,(yp t1).trans (cT ((ai (y:=tR names) (ad x hx _) rfl).trans hb))⟩
     ·rw[decide_eq_false h]at t1
      exact⟨_,B9 t1⟩
    let p:Str->Bool:=λx=>(oF (tV (ag FR (bW cQ (dV 0)) (dC (.int 20)))) (tV (ag ik (ag bU (dV 0) (dC (.str "q"))) (dV 2))) (.sh (.str x)::[.sh (hV ns),.sh (tR names),.sh (.int (a:Nat)),.un])).getD false
    refine⟨(names.filter p).map (·++ "q"),?_,jE (xs:=names.map PV.str) rfl (by rw[wE];omega) ?_⟩
    ·rw[wE]
     have:=Yl p names
     omega
    ·rw[Zg]
     refine AX PV.str (PV.str∘(·++ "q")) p names λx hx=>⟨?_,ad x hx _⟩
     obtain⟨b,hb⟩:=ts x hx
     show _=some ((oF _ _ _).getD false)
     rw[hb]
     rfl
  obtain⟨ys,hy,ey⟩:=cp
  refine⟨ys.take 1++[("zz" :Str),("y" :Str)],by simp,?_,dk rfl ((av st).trans ((av ((eK tb).trans rfl)).trans ((av (aO ey)).trans (dW ?_))))⟩
  ·rw[ZD,ZM]
   show _+2<=6
   omega
  ·have sl:wA (dV 3) fw (cL (dC (.int 1))) [.sh (hV ns),.sh (tR names),.sh (.int (a:Nat)),.sh (.lst (ys.map PV.str))]=some (.lst ((ys.take 1).map PV.str)):=by
     refine(mR (a:=none) (b:=some ((1:Nat):Int)) (l:=ys.map PV.str) rfl rfl rfl).trans ?_
     cases ys with
     |nil=>rfl
     |cons y ys=>rw[CV _ (by simp),YN]
   refine(eL (x:=.lst ((ys.take 1++[("zz" :Str),("y" :Str)]).map PV.str)) ((ai sl (ly (xs:=[.str "zz",.str "y"]) rfl (by simp))).trans ?_)).trans rfl
   show(if((ys.take 1).map PV.str).length+2<=sizeLine then some (PV.lst ((ys.take 1).map PV.str++[.str "zz",.str "y"]))else none)=_
   rw[if_pos (by rw[wE,ZM];omega),Zs]
   rfl
 ·have h1:=hb rfl
  refine⟨names.take a++names.drop (a+1),λz=>?_,?_,dk rfl ((av st).trans (jk ((jF tb).trans (dW ?_))))⟩
  ·have:=congrArg List.length z
   rw[ZD,ZM,ZY]at this
   show False
   have:(([]:List Str)).length=0:=rfl
   omega
  ·rw[ZD,ZM,ZY]
   omega
  ·have lm:(names.map PV.str).length=names.length:=wE ..
   refine(ai (x:=.tup ((names.take a).map PV.str)) (y:=.tup ((names.drop (a+1)).map PV.str)) ?_ ?_).trans ?_
   ·refine(Ek (xs:=names.map PV.str) (l:=none) (h:=some (a:Int)) rfl rfl rfl ?_).trans (by rw[CV _ (by omega),YN])
    rintro⟨_,z⟩
    rw[tX]at z
    omega
   ·refine(Ek (xs:=names.map PV.str) (l:=some ((a+1:Nat):Int)) (h:=none) rfl rfl rfl ?_).trans (by rw[AY _ (by omega),Yg])
    rintro⟨z,_⟩
    rw[tX]at z
    omega
   ·show(if((names.take a).map PV.str).length+((names.drop (a+1)).map PV.str).length<=sizeLine then some (PV.tup ((names.take a).map PV.str++(names.drop (a+1)).map PV.str))else none)=_
    rw[if_pos (by rw[wE,wE,ZM,ZY];omega)]
    show _=some (PV.tup ((names.take a++names.drop (a+1)).map PV.str))
    rw[Zs]
end
theorem Jk{names:List Str}(h0:names≠[])(hl:names.length<=6)(hn:∀x∈names,Fo x)(ns:List Int):∃R:List Str,R≠[]/\R.length<=6/\F_law_other_roll [hV ns,tR names]=some (tR R):=FH qo h0 hl hn ns
theorem ne_nil(ss:List Str):oq (.lst (ss.map PV.str)) (.lst [])=some (.bl (!decide (ss=[]))):=by
 cases ss with
 |nil=>rfl
 |cons x ss=>rfl
theorem O4:oq (.lst [.str "NoHand"]) (.lst [.str "NoHand"])=some (.bl false):=by kernel_rfl
section
variable{F_law_roll F_law_built F_law_other_roll F_law_cell_at F_law_names_in F_law_right F_law_asked:List PV->Option PV}
variable{o sp:PV}{nms R0:List Str}{turn:Int}{g:Nat}(hR:∀R:List Str,R.length<=6->(∀x∈nms,x∈R)->F_law_right [o,sp,tR R]=some (.bl true))
 (hA:(∃x∈nms,x∉R0)->∀w:Int,w=0\/w=1->F_law_asked [o,.int w,tR R0,.int (g:Nat)]=some (.tup [.non,.lst [.str "NoHand"]]))
include hA in
theorem AZ(h:∃x∈nms,x∉R0){w:Int}(hw:w=0\/w=1)(s0 s1 s3 s4 s5 s7 s8 sR MG:Slot):Eb F_law_roll F_law_built F_law_other_roll F_law_cell_at F_law_names_in F_law_right F_law_asked [s0,s1,.sh o,s3,s4,s5,.sh (tR R0),s7,s8,.sh (.int (g:Nat)),sR,MG,.sh (.int w)]=some (.nx [s0,s1,.sh o,s3,s4,s5,.sh (tR R0),s7,s8,.sh (.int (g:Nat)),sR,MG,.sh (.int w)]):=by
 refine(eK (cT ((ai (x:=.lst [.str "NoHand"]) (y:=.lst [.str "NoHand"]) ((ai (x:=.tup [.non,.lst [.str "NoHand"]]) (y:=.int 1) ((aP (ps:=[o,.int w,tR R0,.int (g:Nat)]) rfl).trans (hA h w hw)) rfl).trans rfl) (ly (xs:=[.str "NoHand"]) rfl (by simp))).trans O4))).trans rfl
include hR hA in
theorem A0(s0 s1 s4 s5 sR:Slot):∀(Rs:List (List Str)) (MG md:Slot),(∀R∈Rs,R.length<=6/\(R=R0\/∀x∈nms,x∈R))->∃Sy Pz,forL (bN 11) (yx F_law_roll F_law_built F_law_other_roll F_law_cell_at F_law_names_in F_law_right F_law_asked) (Rs.map tR) [s0,s1,.sh o,.sh sp,s4,s5,.sh (tR R0),.sh (.bl (decide (∃x∈nms,x∉R0))),.sh (.int turn),.sh (.int (g:Nat)),sR,MG,md]=some (.nx [s0,s1,.sh o,.sh sp,s4,s5,.sh (tR R0),.sh (.bl (decide (∃x∈nms,x∉R0))),.sh (.int turn),.sh (.int (g:Nat)),sR,Sy,Pz])
 |[],MG,md,_=>⟨MG,md,rfl⟩
 |R::Rs,MG,md,hs=>by
  obtain⟨hl,hq⟩:=hs R (wT ..)
  have body:∃Pz,yx F_law_roll F_law_built F_law_other_roll F_law_cell_at F_law_names_in F_law_right F_law_asked [s0,s1,.sh o,.sh sp,s4,s5,.sh (tR R0),.sh (.bl (decide (∃x∈nms,x∉R0))),.sh (.int turn),.sh (.int (g:Nat)),sR,.sh (tR R),md]=some (.nx [s0,s1,.sh o,.sh sp,s4,s5,.sh (tR R0),.sh (.bl (decide (∃x∈nms,x∉R0))),.sh (.int turn),.sh (.int (g:Nat)),sR,.sh (tR R),Pz]):=by
   have t1:tV (ag HZ (dV 11) (dV 6)) [s0,s1,.sh o,.sh sp,s4,s5,.sh (tR R0),.sh (.bl (decide (∃x∈nms,x∉R0))),.sh (.int turn),.sh (.int (g:Nat)),sR,.sh (tR R),md]=some (decide (R=R0)):=by
    refine cT ((ai (x:=tR R) (y:=tR R0) rfl rfl).trans ?_)
    show((l8 (R.map PV.str)).bind λts=>(l8 (R0.map PV.str)).map λus=>PV.bl (decide (ts=us)))=_
    rw[kU,kU]
    rfl
   have right:(∀x∈nms,x∈R)->oo (qQ (tV (aN F_law_right (aa (a6 2) (aa (a6 3) (aa (a6 11) aH)))))) (cE (dC (.bl false))) fz [s0,s1,.sh o,.sh sp,s4,s5,.sh (tR R0),.sh (.bl (decide (∃x∈nms,x∉R0))),.sh (.int turn),.sh (.int (g:Nat)),sR,.sh (tR R),md]=some (.nx [s0,s1,.sh o,.sh sp,s4,s5,.sh (tR R0),.sh (.bl (decide (∃x∈nms,x∉R0))),.sh (.int turn),.sh (.int (g:Nat)),sR,.sh (tR R),md]):=λhx=>
    (eK (yo (b:=true) (cT ((aP (ps:=[o,sp,tR R]) rfl).trans (hR R hl hx))))).trans rfl
   by_cases e:R=R0
   ·rw[decide_eq_true e]at t1
    by_cases lk:∃x∈nms,x∉R0
    ·rw[decide_eq_true lk]at t1⊢
     refine⟨.sh (.int (1-turn/3 % 2)),(jF ((yp t1).trans (cT rfl))).trans ?_⟩
     have it:nList (i6 (aa (ag bY (ag ij (dV 8) (dC (.int 3))) (dC (.int 2))) (aa (ag zF (dC (.int 1)) (ag bY (ag ij (dV 8) (dC (.int 3))) (dC (.int 2)))) aH))) [s0,s1,.sh o,.sh sp,s4,s5,.sh (tR R0),.sh (.bl true),.sh (.int turn),.sh (.int (g:Nat)),sR,.sh (tR R),md]=some [.int (turn/3 % 2),.int (1-turn/3 % 2)]:=iQ (ly rfl (by simp))
     have h2:turn/3 % 2=0\/turn/3 % 2=1:=by omega
     have h3:1-turn/3 % 2=0\/1-turn/3 % 2=1:=by omega
     refine(gF it).trans ?_
     refine(iL (i:=12) (AZ hA lk h2 ..)).trans ?_
     exact(iL (i:=12) (xs:=[]) (AZ hA lk h3 ..)).trans rfl
    ·rw[decide_eq_false lk]at t1 right⊢
     refine⟨md,(eK ((yp t1).trans (cT rfl))).trans (right λx hx=>?_)⟩
     rw[e]
     exact Zr λz=>lk ⟨x,hx,z⟩
   ·rw[decide_eq_false e]at t1
    exact⟨md,(eK (B9 t1)).trans (right (hq.resolve_left e))⟩
  obtain⟨Xk,hb⟩:=body
  obtain⟨Sy,Pz,e⟩:=A0 s0 s1 s4 s5 sR Rs (.sh (tR R)) Xk λQ hQ=>hs Q (wf _ hQ)
  exact⟨Sy,Pz,(iL (i:=11) (x:=tR R) (xs:=Rs.map tR) (ρ:=[s0,s1,.sh o,.sh sp,s4,s5,.sh (tR R0),.sh (.bl (decide (∃x∈nms,x∉R0))),.sh (.int turn),.sh (.int (g:Nat)),sR,MG,md]) hb).trans e⟩
theorem LB(hC:∀(ns:List Int) (k:Nat),F_law_cell_at [hV ns,.int k]=some (.int (ns.getD k 0)))
  (hR:∀ns:List Int,∃xs:List Str,xs≠[]/\xs.length<=6/\(∀x∈xs,Fo x)/\F_law_roll [hV ns]=some (.tup (xs.map PV.str)))
  (hB:∀{names:List Str},(∀x∈names,Fo x)->names≠[]->∀ns:List Int,∃r:It,Ok names r/\(r.d<=20/\r.t.length<=11000)/\F_law_built [hV ns,.int 6,.int 20,tR names]=some r.p)
  (hO:∀{names:List Str},names≠[]->names.length<=6->(∀x∈names,Fo x)->∀ns:List Int,∃R:List Str,R≠[]/\R.length<=6/\F_law_other_roll [hV ns,tR names]=some (tR R))
  (hN:∀{names:List Str} {i:It} {c:Nat} {nms:List Str},JB names i c nms->i.d<=23->F_law_names_in [i.s]=some (.lst (nms.map PV.str)))
  (hT:∀{names:List Str} {i:It} {c:Nat} {nms:List Str},JB names i c nms->i.d<=23->∀{R:List Str},R.length<=6->(∀x∈nms,x∈R)->F_law_right [i.o,i.s,tR R]=some (.bl true))
  (hA:∀{names:List Str} {i:It} {c:Nat} {nms:List Str},JB names i c nms->i.d<=23->∀{R:List Str},R.length<=6->(∃x∈nms,x∉R)->∀{g:Nat},g<2^R.length->∀{w:Int},w=0\/w=1->F_law_asked [i.o,.int w,tR R,.int (g:Nat)]=some (.tup [.non,.lst [.str "NoHand"]]))
  (ns:List Int):fn false 13 1 (Mw F_law_roll F_law_built F_law_other_roll F_law_cell_at F_law_names_in F_law_right F_law_asked) [hV ns]=some (.bl true):=by
 have zl:(100000:Nat)<=sizeLine:=by decide
 obtain⟨names,x0,xl,xs,ex⟩:=hR ns
 obtain⟨i,⟨c,nms,ok⟩,⟨a1,a2⟩,a3⟩:=hB xs x0 ns
 obtain⟨R0,r0,rl,er⟩:=hO x0 xl xs ns
 have en:=hN ok (by omega)
 have et:=λR=>@hT names i c nms ok (by omega) R
 have ea:=@hA names i c nms ok (by omega) R0 rl
 have RU:=ok.sub
 have oh:=ok.size
 have hc:=ok.kind
 obtain⟨l,eo⟩:=ok.obj
 obtain⟨o,sp,tx,d⟩:=i
 simp only at eo en et ea a1 a2 oh
 subst eo
 refine dk rfl ?_
 refine(av (aO ((aP (ps:=[hV ns]) rfl).trans ex))).trans ?_
 have asg:NO (Du [(bN 2),(bN 3),(bN 4),(bN 5)]) (aN F_law_built (aa (a6 0) (aa (dC (.int 6)) (aa (dC (.int 20)) (aa (a6 1) aH))))) [.sh (hV ns),.sh (tR names),.un,.un,.un,.un,.un,.un,.un,.un,.un,.un,.un]=some (.nx [.sh (hV ns),.sh (tR names),.sh (.ins c l),.sh sp,.sh (.str tx),.sh (.int (d:Nat)),.un,.un,.un,.un,.un,.un,.un]):=by
  have:aN F_law_built (aa (a6 0) (aa (dC (.int 6)) (aa (dC (.int 20)) (aa (a6 1) aH)))) [.sh (hV ns),.sh (tR names),.un,.un,.un,.un,.un,.un,.un,.un,.un,.un,.un]=some (It.p ⟨.ins c l,sp,tx,d⟩):=(aP (ps:=[hV ns,.int 6,.int 20,tR names]) rfl).trans a3
  show(aN F_law_built (aa (a6 0) (aa (dC (.int 6)) (aa (dC (.int 20)) (aa (a6 1) aH)))) [.sh (hV ns),.sh (tR names),.un,.un,.un,.un,.un,.un,.un,.un,.un,.un,.un]).bind _=_
  rw[this]
  rfl
 refine(av asg).trans ?_
 refine(av (aO ((aP (ps:=[hV ns,tR names]) rfl).trans er))).trans ?_
 have lk:ag oq (bM (nList (aN F_law_names_in (aa (a6 3) aH))) (tV (ag ik (dV 0) (dV 7))) (a6 0)) (i6 aH) [.sh (hV ns),.sh (tR names),.sh (.ins c l),.sh sp,.sh (.str tx),.sh (.int (d:Nat)),.sh (tR R0),.un,.un,.un,.un,.un,.un]=some (.bl (decide (∃x∈nms,x∉R0))):=by
  have dc:bM (nList (aN F_law_names_in (aa (a6 3) aH))) (tV (ag ik (dV 0) (dV 7))) (a6 0) [.sh (hV ns),.sh (tR names),.sh (.ins c l),.sh sp,.sh (.str tx),.sh (.int (d:Nat)),.sh (tR R0),.un,.un,.un,.un,.un,.un]=some (.lst ((nms.filter λx=>!decide (x∈R0)).map PV.str)):=by
   refine jE (iQ ((aP (ps:=[sp]) rfl).trans en)) (by rw[wE];omega) (vC PV.str (λx=>!decide (x∈R0)) nms λx _=>?_)
   refine cT ((ai (x:=.str x) (y:=tR R0) rfl rfl).trans ?_)
   by_cases h:x∈R0
   ·rw[decide_eq_true h]
    exact vB h
   ·rw[decide_eq_false h]
    exact rR h
  refine(ai dc (y:=.lst []) rfl).trans ((ne_nil _).trans ?_)
  congr 2
  rw[Ze]
  simp only[YZ,decide_eq_false_iff_not,decide_eq_true_eq]
  constructor
  ·intro z
   obtain⟨a,ha⟩:=Y5 _ z
   obtain⟨h1,h2⟩:=Zk.mp ha
   exact⟨a,h1,by simpa using h2⟩
  ·rintro⟨a,h1,h2⟩ z
   have:a∈nms.filter λx=>!decide (x∈R0):=Zk.mpr ⟨h1,by simpa using h2⟩
   rw[z]at this
   exact nomatch this
 refine(av (aO lk)).trans ?_
 refine(av (aO ((aP (ps:=[hV ns,.int (5:Nat)]) rfl).trans (hC ns 5)))).trans ?_
 generalize ns.getD 5 0=turn
 have hg:=mod_lt (turn/6) (Yo R0.length)
 have eg:ag bY (ag ij (dV 8) (dC (.int 6))) (ag sW (dC (.int 1)) (bW cQ (dV 6))) [.sh (hV ns),.sh (tR names),.sh (.ins c l),.sh sp,.sh (.str tx),.sh (.int (d:Nat)),.sh (tR R0),.sh (.bl (decide (∃x∈nms,x∉R0))),.sh (.int turn),.un,.un,.un,.un]=some (.int (((turn/6 %((2^R0.length:Nat):Int)).toNat:Nat):Int)):=by
  have el:bW cQ (dV 6) [.sh (hV ns),.sh (tR names),.sh (.ins c l),.sh sp,.sh (.str tx),.sh (.int (d:Nat)),.sh (tR R0),.sh (.bl (decide (∃x∈nms,x∉R0))),.sh (.int turn),.un,.un,.un,.un]=some (.int (R0.length:Nat)):=by
   show some (PV.int ((R0.map PV.str).length:Nat))=_
   rw[wE]
  exact(ai (x:=.int (turn/6)) rfl ((ai (x:=.int 1) rfl el).trans (yq _ rl))).trans (dq _ (Yo _))
 refine(av (aO eg)).trans ?_
 generalize(turn/6 %((2^R0.length:Nat):Int)).toNat=g at hg
 have el:i6 (aa (a6 6) (aa (bW HY (a6 1)) (aa (a6 1) (aa (a6 6) aH)))) [.sh (hV ns),.sh (tR names),.sh (.ins c l),.sh sp,.sh (.str tx),.sh (.int (d:Nat)),.sh (tR R0),.sh (.bl (decide (∃x∈nms,x∉R0))),.sh (.int turn),.sh (.int (g:Nat)),.un,.un,.un]=some (.lst ([R0,names.reverse,names,R0].map tR)):=by
  refine ly (aB (x:=tR R0) rfl (aB (x:=tR names.reverse) ?_ (aB (x:=tR names) rfl (aB (x:=tR R0) rfl rfl)))) (by simp)
  show some (PV.tup (names.map PV.str).reverse)=some (PV.tup (names.reverse.map PV.str))
  rw[List.map_reverse]
 refine(av (aO el)).trans ?_
 have hk:=mod_lt turn (n:=3) (by decide)
 have em:∀sR,cL (ag bY (dV 8) (dC (.int 3))) [.sh (hV ns),.sh (tR names),.sh (.ins c l),.sh sp,.sh (.str tx),.sh (.int (d:Nat)),.sh (tR R0),.sh (.bl (decide (∃x∈nms,x∉R0))),.sh (.int turn),.sh (.int (g:Nat)),sR,.un,.un]=some (some (((turn %((3:Nat):Int)).toNat:Nat):Int)):=λsR=>by
  have:ag bY (dV 8) (dC (.int 3)) [.sh (hV ns),.sh (tR names),.sh (.ins c l),.sh sp,.sh (.str tx),.sh (.int (d:Nat)),.sh (tR R0),.sh (.bl (decide (∃x∈nms,x∉R0))),.sh (.int turn),.sh (.int (g:Nat)),sR,.un,.un]=some (.int (((turn %((3:Nat):Int)).toNat:Nat):Int)):=(ai (x:=.int turn) (y:=.int ((3:Nat):Int)) rfl rfl).trans (dq _ (by decide))
  unfold cL
  rw[this]
  rfl
 generalize(turn %((3:Nat):Int)).toNat=k at hk em
 have it:nList (ag bU (wA (dV 10) (cL (ag bY (dV 8) (dC (.int 3)))) fw) (wA (dV 10) fw (cL (ag bY (dV 8) (dC (.int 3)))))) [.sh (hV ns),.sh (tR names),.sh (.ins c l),.sh sp,.sh (.str tx),.sh (.int (d:Nat)),.sh (tR R0),.sh (.bl (decide (∃x∈nms,x∉R0))),.sh (.int turn),.sh (.int (g:Nat)),.sh (.lst ([R0,names.reverse,names,R0].map tR)),.un,.un]=some (([R0,names.reverse,names,R0].drop k++[R0,names.reverse,names,R0].take k).map tR):=by
  refine iQ ((ai ((mR (l:=[R0,names.reverse,names,R0].map tR) rfl (em _) rfl).trans (by rw[AY _ (by simp;omega),<-Yg])) ((mR (l:=[R0,names.reverse,names,R0].map tR) rfl rfl (em _)).trans (by rw[CV _ (by simp;omega),<-YN]))).trans ?_)
  show(if(([R0,names.reverse,names,R0].drop k).map tR).length+(([R0,names.reverse,names,R0].take k).map tR).length<=sizeLine then some (PV.lst (([R0,names.reverse,names,R0].drop k).map tR++([R0,names.reverse,names,R0].take k).map tR))else none)=_
  rw[if_pos (by rw[wE,wE,ZY,ZM];show 4-k+min k 4<=_;omega),Zs]
 obtain⟨Sy,Pz,e⟩:=A0 (F_law_roll:=F_law_roll) (F_law_built:=F_law_built) (F_law_other_roll:=F_law_other_roll) (F_law_cell_at:=F_law_cell_at) (F_law_names_in:=F_law_names_in) (F_law_right:=F_law_right) (F_law_asked:=F_law_asked) (o:=.ins c l) (sp:=sp) (nms:=nms) (R0:=R0) (turn:=turn) (g:=g) (λR h1 h2=>et R h1 h2) (λh w hw=>ea h hg hw) (.sh (hV ns)) (.sh (tR names)) (.sh (.str tx)) (.sh (.int (d:Nat))) (.sh (.lst ([R0,names.reverse,names,R0].map tR))) ([R0,names.reverse,names,R0].drop k++[R0,names.reverse,names,R0].take k) .un .un (λR h=>by
  have h':R∈[R0,names.reverse,names,R0]:=by
   rcases sK.mp h with h|h
   ·exact YH h
   ·exact YJ h
  simp only[ZJ,List.not_mem_nil,or_false]at h'
  rcases h' with rfl|rfl|rfl|rfl
  ·exact⟨rl,.inl rfl⟩
  ·exact⟨by rw[Yt];exact xl,.inr λx hx=>List.mem_reverse.mpr (RU x hx)⟩
  ·exact⟨xl,.inr RU⟩
  ·exact⟨rl,.inl rfl⟩)
 refine(av ((gF it).trans e)).trans (dW ?_)
 show(if decide (c<4)then some (PV.bl true)else none)=_
 rw[if_pos (decide_eq_true hc)]
end
theorem law_true(ns:List Int)(h:ns.length<=63):Ec [.lst (ns.map .int)]=some (.bl true):=
 LB qo LA (λhn h0 ns=>IZ (Xj hn) (λx hx=>(hn x hx).2.2) h0 ns 6 20 (by decide) (by decide)) Jk (λh hd=>h.nam 23 hd) (λh hd _ hl hR=>Jj h hd hl hR) (λh hd _ hl hR _ hg _ hw=>FE h hd hl hR hg hw) ns
end L2.D.My
open PySem PySem.W PyProof.Rows
theorem PySem.Challenge.cw_signright_k26_other_rolls_holds : PySem.Challenge.rw_signright_k26_other_rolls.Holds := by
  w_on
  refine PySem.W.holds_law (by kernel_rfl) fun Xl => ?_
  refine PySem.W.holds_open (q := L2.D.My.O5) (loose := []) (Xt := L2.D.My.SF) (XP := XL L2.D.My.O5 []) (Yf := Hook.obs (kHook L2.D.My.Jm L2.D.My.Jo L2.D.My.JD)) (Ya := Hook.val (kHook L2.D.My.Jm L2.D.My.Jo L2.D.My.JD)) (YP := Hook.says (kHook L2.D.My.Jm L2.D.My.Jo L2.D.My.JD)) (N := 20000) L2.D.My.Vv (Hook.of (kHook L2.D.My.Jm L2.D.My.Jo L2.D.My.JD)) (Hook.keeps (kHook L2.D.My.Jm L2.D.My.Jo L2.D.My.JD)) (fun s e => xl_of s (Bool.and_eq_true_iff.mp e).1) XL.keeps (by rfl) (by rfl) (by rfl) (fun s e => recFacts_of (Bool.and_eq_true_iff.mp e).2) (by rfl) (by first | assumption | decide +kernel) (by decide +kernel) ⟨rfl, rfl, rfl, rfl, rfl, by decide +kernel⟩ ?hw ?hc
  (case hw => w_witness2)
  k_fill
  refine L2.D.walkD2 (l := PySem.Challenge.rw_signright_k26_other_rolls) (k := 35) (x := "_law_script") (F := L2.D.My.Ec) rfl (by decide) rfl ⟨rfl, by decide, by decide⟩ (fun w h Y => PySem.W.kIn_of Y) ?F L2.D.My.law_true
  case F =>
    intro w mg fa h KX G Qu
    refine' L2.D.My.all_mk L2.D.My.place_key KX G Qu ?Cs ?o5 ?Ct ?IL ?IM ?Cu ?tN ?tO ?tP ?tQ ?yI ?yJ ?yK ?yL ?yM ?nh ?yN ?yO ?yP ?yQ ?Cv ?Cw ?Cy ?Cz ?CA ?lP ?ni ?yR ?yS ?yT ?yU ?CB ?CD ?CF ?CG ?CH ?lQ ?nj ?tS ?tT ?tU ?tW ?yV ?yW ?yX ?yY ?yZ ?kn ?lR ?ON ?OO ?nq ?vn ?vo ?rE ?vp ?y6 ?o6 ?rF ?rG ?Uw ?Ux ?Uy ?rH ?rJ ?rK ?rL ?rM ?rN ?rO ?b4_NoHand ?iA ?iB ?gX ?iC ?i8 ?f9 ?gZ ?g9 ?fg ?fiH ?fnH ?OP ?fiA ?fnA ?OQ ?fiY ?fnY ?OS ?fiS ?fnS ?OT ?fiC ?fnC ?OU ?rdC ?fcC ?gaC ?hdC ?o7 ?o8 ?o9 ?pd ?y7 ?y8 ?vq ?vt ?CI ?CJ ?y9 ?za ?nr ?nu ?rP ?rQ ?CK ?CL ?pj ?pq ?ko ?kq ?jP ?cN ?gc ?nv ?ny ?lT ?dz ?iD ?jQ ?i9 ?jR ?lU ?kr ?lV ?ku ?kv ?pA ?pB ?pC ?pD ?nA ?nB ?pE ?pF ?kx ?ky ?lW ?lX ?pG ?pH ?nD ?nE ?iE ?iF ?jS ?jT ?nF ?nG ?nH ?nI ?nJ ?nK ?nL ?nM ?Eg ?IP ?lZ ?IQ ?CM ?l0 ?IS ?CN ?IT ?zb ?vv ?IU ?zc ?l5
    (case Cs => k_is)
    (case o5 => k_is)
    (case Ct => k_is)
    (case IL => k_is)
    (case IM => k_is)
    (case Cu => k_is)
    (case tN => k_is)
    (case tO => k_is)
    (case tP => k_is)
    (case tQ => k_is)
    (case yI => k_is)
    (case yJ => k_is)
    (case yK => k_is)
    (case yL => k_is)
    (case yM => kit_is)
    (case nh => k_is)
    (case yN => k_is)
    (case yO => k_is)
    (case yP => k_is)
    (case yQ => k_is)
    (case Cv => k_is)
    (case Cw => k_is)
    (case Cy => k_is)
    (case Cz => k_is)
    (case CA => kit_is)
    (case lP => k_is)
    (case ni => k_is)
    (case yR => k_is)
    (case yS => k_is)
    (case yT => k_is)
    (case yU => k_is)
    (case CB => k_is)
    (case CD => k_is)
    (case CF => k_is)
    (case CG => k_is)
    (case CH => kit_is)
    (case lQ => k_is)
    (case nj => k_is)
    (case tS => k_is)
    (case tT => k_is)
    (case tU => k_is)
    (case tW => k_is)
    (case yV => k_is)
    (case yW => k_is)
    (case yX => k_is)
    (case yY => k_is)
    (case yZ => kit_is)
    (case kn => k_is)
    (case lR => k_is)
    (case ON => k_is)
    (case OO => k_is)
    (case nq => k_is)
    (case vn => k_is)
    (case vo => k_is)
    (case rE => k_is)
    (case vp => k_is)
    (case y6 => k_is)
    (case o6 => k_is)
    (case rF => k_is)
    (case rG => k_is)
    (case Uw => k_is)
    (case Ux => k_is)
    (case Uy => k_is)
    (case rH => k_exc)
    (case rJ => k_is)
    (case rK => k_is)
    (case rL => k_is)
    (case rM => k_is)
    (case rN => k_is)
    (case rO => k_is)
    (case b4_NoHand => k_is)
    (case iA => kit_is)
    (case iB => kit_is)
    (case gX => kit_is)
    (case iC => kit_is)
    (case i8 => kit_is)
    (case f9 => kit_is)
    (case gZ => kit_is)
    (case g9 => kit_is)
    (case fg => kit_is)
    (case fiH => k_is)
    (case fnH => k_is)
    (case OP => apply L2.D.My.mT <;> k_is)
    (case fiA => k_is)
    (case fnA => k_is)
    (case OQ => apply L2.D.My.mT <;> k_is)
    (case fiY => k_is)
    (case fnY => k_is)
    (case OS => apply L2.D.My.mT <;> k_is)
    (case fiS => k_is)
    (case fnS => k_is)
    (case OT => apply L2.D.My.mT <;> k_is)
    (case fiC => k_is)
    (case fnC => k_is)
    (case OU => apply L2.D.My.mT <;> k_is)
    (case rdC => k_is)
    (case fcC => k_is)
    (case gaC => k_is)
    (case hdC => rfl)
    (case o7 => k_is)
    (case o8 => apply L2.D.My.mT <;> k_is)
    (case o9 => k_is)
    (case pd => apply L2.D.My.mT <;> k_is)
    (case y7 => k_is)
    (case y8 => apply L2.D.My.mT <;> k_is)
    (case vq => k_is)
    (case vt => apply L2.D.My.mT <;> k_is)
    (case CI => k_is)
    (case CJ => apply L2.D.My.mT <;> k_is)
    (case y9 => k_is)
    (case za => apply L2.D.My.mT <;> k_is)
    (case nr => k_is)
    (case nu => apply L2.D.My.mT <;> k_is)
    (case rP => k_is)
    (case rQ => apply L2.D.My.mT <;> k_is)
    (case CK => k_is)
    (case CL => apply L2.D.My.mT <;> k_is)
    (case pj => k_is)
    (case pq => apply L2.D.My.mT <;> k_is)
    (case ko => k_is)
    (case kq => k_is)
    (case jP => k_is)
    (case cN => k_is)
    (case gc => apply L2.D.My.mT <;> k_is)
    (case nv => k_is)
    (case ny => k_is)
    (case lT => k_is)
    (case dz => k_is)
    (case iD => apply L2.D.My.mT <;> k_is)
    (case jQ => k_is)
    (case i9 => k_is)
    (case jR => apply L2.D.My.mT <;> k_is)
    (case lU => k_is)
    (case kr => k_is)
    (case lV => apply L2.D.My.mT <;> k_is)
    (case ku => k_is)
    (case kv => apply L2.D.My.mT <;> k_is)
    (case pA => k_is)
    (case pB => apply L2.D.My.mT <;> k_is)
    (case pC => k_is)
    (case pD => apply L2.D.My.mT <;> k_is)
    (case nA => k_is)
    (case nB => apply L2.D.My.mT <;> k_is)
    (case pE => k_is)
    (case pF => apply L2.D.My.mT <;> k_is)
    (case kx => k_is)
    (case ky => apply L2.D.My.mT <;> k_is)
    (case lW => k_is)
    (case lX => apply L2.D.My.mT <;> k_is)
    (case pG => k_is)
    (case pH => apply L2.D.My.mT <;> k_is)
    (case nD => k_is)
    (case nE => apply L2.D.My.mT <;> k_is)
    (case iE => k_is)
    (case iF => apply L2.D.My.mT <;> k_is)
    (case jS => k_is)
    (case jT => apply L2.D.My.mT <;> k_is)
    (case nF => k_is)
    (case nG => apply L2.D.My.mT <;> k_is)
    (case nH => k_is)
    (case nI => apply L2.D.My.mT <;> k_is)
    (case nJ => k_is)
    (case nK => apply L2.D.My.mT <;> k_is)
    (case nL => k_is)
    (case nM => apply L2.D.My.mT <;> k_is)
    (case Eg => k_is)
    (case IP => apply L2.D.My.mT <;> k_is)
    (case lZ => k_is)
    (case IQ => k_is)
    (case CM => k_is)
    (case l0 => k_is)
    (case IS => k_is)
    (case CN => k_is)
    (case IT => k_is)
    (case zb => k_is)
    (case vv => k_is)
    (case IU => k_is)
    (case zc => k_is)
    (case l5 => k_is)
