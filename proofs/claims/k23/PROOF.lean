import PyProof.Rows.All
import Wide.All
import KE.KItem
import KE.RegKIsAll
import Wide.FinOn
import Lean
import PyProof.EqAt
import PyProof.EqKinds
import PyProof.TupleCall
import PyProof.Rows.SortPure
import PySem.Builtin.Int.W1All
import PySem.Sem
import PyProof.StrBlockL
import PyProof.SliceStr2
import PyProof.StrCalls2
import PyProof.WalkInts
import PyProof.Rows.StrStep
import PyProof.FactsAll.tuple_0
import PyProof.FactsAll.tuple_2
import PyProof.FactsAll.tuple_3
import PyProof.FString5
import PyProof.StrOps2
import PyProof.StrWalks
import PyProof.Draws
import PyProof.DictWalks
import PyProof.ListStr
import PyProof.StationsW
import PyProof.FString
import PyProof.FString4
import PyProof.ReprStr
import PyProof.ExcClass3
import PyProof.ExcBaseAll.ValueError
import KE.KIsAll
import OpenK.KDescr
import OpenK.KOwn
import PyProof.ExcArgsOwn
import PyProof.RulesAs
import PyProof.NsDelKeeps
import PyProof.FitsInt
import PyProof.StrLawsRepr
import PyProof.PassesOwn
import PyProof.StrLawsIdx
import PyProof.SliceList
import PyProof.StrCalls
import PySem.Challenge.RW_signright_k23_where_a_text_fails
set_option Elab.async false
set_option linter.all false
set_option maxRecDepth 100000
set_option maxHeartbeats 0
set_option genSizeOf false
set_option genSizeOfSpec false
noncomputable section
def Zt:=@Option.bind_eq_some_iff
def Zu:=@Option.map_eq_some_iff
def Zv:=@PySem.Heap.get?_push_of_some
def X4:=@List.size_toArray
def X5:=@List.mem_cons_of_mem
def X6:=@List.length_map
def Wk:=@List.length_cons
def U5:=@Nat.le_refl
def SR:=@Array.length_toList
def RF:=@List.mem_cons_self
def z0A:=@PySem.Heap.lt_size
def z0B:=@List.getElem?_set
def z0C:=@List.getElem?_eq_some_iff
def z0D:=@PySem.W.mg_of
def z0E:=@List.length_append
def z0F:=@Bool.and_eq_true
def z0G:=@List.getElem?_eq_getElem
def z0H:=@PySem.Heap.get?_push_size
def z0I:=@Nat.lt_of_lt_of_le
def z0J:=@Bool.false_ne_true
def z0K:=@List.lookup_cons
def z0L:=@List.mem_append
def z0M:=@List.all_eq_true
def z0N:=@List.mem_cons
def z0O:=@Option.some.inj
def z0P:=@List.mem_append_right
def z0Q:=@List.map_cons
def z0R:=@List.mem_map
def z0S:=@Nat.zero_le
def z0T:=@Nat.le_trans
def z0U:=@List.mem_singleton
def z0V:=@Nat.ne_of_lt
def z0W:=@Classical.byContradiction
def z0X:=@PySem.W.kia_one
def z0Y:=@List.append_nil
def z0Z:=@PySem.Heap.get?_update_other
def z0a:=@List.length_take
def z0b:=@List.map_append
def z0c:=@List.nodup_cons
def z0d:=@List.length_drop
def z0e:=@Nat.lt_irrefl
def z0f:=@List.getElem?_map
def z0g:=@List.getElem?_set_ne
def z0h:=@PySem.mem_of_lookup
def z0i:=@List.getD_eq_getElem?_getD
def z0j:=@Int.toNat_natCast
def z0k:=@PySem.W.mg_none_of
def z0l:=@List.mem_range
def z0m:=@List.filterMap_cons
def z0n:=@Array.getElem?_eq_some_iff
def z0o:=@PySem.Heap.get?_update_self
def z0p:=@List.length_singleton
def z0q:=@List.length_set
def z0r:=@Bool.or_eq_true
def z0s:=@PySem.sliceRange_one
def z0t:=@PySem.F.plainAttrs_list
def z0u:=@List.length_range
def z0v:=@List.drop_eq_nil_of_le
def z0w:=@List.take_of_length_le
def z0x:=@PySem.W.callWith_K
def z0y:=@PySem.W.methodCall_KW
def z0z:=@List.count_eq_zero
def z00:=@Int.emod_lt_of_pos
def z01:=@List.foldl_cons
def z02:=@List.take_length
def z03:=@List.zip_cons_cons
def z04:=@Bool.eq_iff_iff
def z05:=@Array.getElem?_toList
def z06:=@PySem.F.excAttr_ValueError
def z07:=@List.reverse_cons
def z08:=@List.append_assoc
def z09:=@List.mem_append_left
def z1A:=@List.getElem?_append_left
def z1B:=@List.drop_eq_getElem_cons
def z1C:=@List.mem_of_mem_take
def z1D:=@PySem.Heap.size_push
def z1E:=@Nat.lt_succ_self
def z1F:=@Option.isSome_iff_exists
def z1G:=@PySem.F.slot_list_append
def z1H:=@PySem.F.type_list_append
def z1I:=@List.map_map
def z1J:=@Array.toList_append
def z1K:=@List.getElem?_replicate
def z1L:=@List.getElem?_cons_succ
def z1M:=@List.mem_filterMap
def z1N:=@Int.emod_nonneg
def z1O:=@Nat.ne_of_gt
def z1P:=@List.drop_zero
def z1Q:=@List.cons_lt_cons_iff
def z1R:=@List.dropLast_concat_getLast
def z1S:=@PySem.Heap.get?_none_of_le
def z1T:=@Array.mem_toList_iff
def z1U:=@PySem.F.args_tuple_add_2
def z1V:=@PySem.F.entry_tuple_add
def z1W:=@Bool.not_eq_true'
def z1X:=@List.getElem?_set_self
def z1Y:=@Nat.le_succ
def z1Z:=@PySem.F.slot_tuple_add
def z1a:=@List.all_cons
def z1b:=@List.any_cons
def z1c:=@Option.bind_some
def z1d:=@List.getElem_mem
def z1e:=@List.length_replicate
def z1f:=@List.take_append_drop
def z1g:=@List.mem_of_getElem?
def z1h:=@List.getElem?_append
def z1i:=@Nat.sub_zero
def z1j:=@PySem.W.plainGet_of
def z1k:=@List.drop_drop
def z1l:=@List.take_zero
def z1m:=@Array.append_assoc
def z1n:=@List.getElem?_append_right
def z1o:=@Bool.true_and
def z1p:=@PySem.F.excBase_ValueError
def z1q:=@List.sum_cons
def z1r:=@PySem.W.kitx_list
def z1s:=@Array.size_append
def z1t:=@List.map_nil
def z1u:=@List.set_eq_of_length_le
def z1v:=@List.drop_length
def z1w:=@List.of_mem_zip
def z1x:=@List.forIn_cons
def z1y:=@Nat.le_antisymm
def z1z:=@PySem.W.cellsFrom_some
def z10:=@PySem.F.plainAttrs_str
def z11:=@List.length_eq_one_iff
def z12:=@PySem.W.byRow2
def z13:=@Bool.false_and
def z14:=@PySem.F.entry_bexc_ga
def z15:=@Array.mem_of_getElem?
def z16:=@List.take_add
def z17:=@List.map_drop
def z18:=@List.map_take
def z19:=@List.cons.inj
def z2A:=@Nat.le_of_lt
def z2B:=@Nat.sub_self
local macro_rules | `(tactic| omega) => `(tactic| lia)
namespace HX
open PySem PySem.W
def NV(st:SharedT->Thread->Option (SharedT×Thread))(ok:Thread->Bool)(n:Nat):SharedT->Thread->Option SharedT:=
 Nat.rec (motive:=λ_=>SharedT->Thread->Option SharedT) (λ_ _=>none) (λ_ ih s t=>match through t with
  |true=>some s
  |false=>match ok t with
   |false=>none
   |true=>match st s t with
    |some (s',t')=>ih s' t'
    |none=>none) n
theorem KH{tb:String->Option Builtin}{p:Program}{w:World}{m:Nat}{ann:Option Value}(n:Nat):∀(a z:SharedT) (t:Thread),NV (stepT (denote tb) p w) (stepOk m ann) n a t=some z->topRun tb p w m ann n a.abs t=some z.abs:=by
 induction n with
 |zero=>exact λ_ _ _ e=>nomatch e
 |succ n ih=>
  intro a z t
  rw[topRun]
  change(match through t with|true=>some a|false=>match stepOk m ann t with|false=>none|true=>match stepT (denote tb) p w a t with|some (b,u)=>NV (stepT (denote tb) p w) (stepOk m ann) n b u|none=>none)=_->_
  cases through t
  ·cases stepOk m ann t
   ·exact λe=>nomatch e
   ·rcases q:stepT (denote tb) p w a t with _|⟨b,u⟩
    ·exact λe=>nomatch e
    ·dsimp only;rw[stepT_spec q];exact ih _ _ _
  ·intro e;cases e;rfl
def RW:List Obj->Nat->BT->BT
 |[],_,t=>t
 |o::r,n,t=>RW r (n+1) (t.ins n o)
def RY(P:Params):BT:=RW (boot_heap P).objs.toList 0 .nil
theorem NW(P:Params):absHeap (RY P) 11 {}=boot_heap P:=by kernel_rfl
def MS(p:Program)(N:Nat)(w:World)(os:OsState):Option SharedT:=
 NV (Fast.tw10156331382660048174 (Fast.tw11892475500146522536 Fast.tw14364793385576792824) p w) (Fast.tw6613529449190102663 11 ((boot_heap w.params).nsMap mainGlobals "__annotations__")) N ⟨RY w.params,11,{},Array.mk [],boot_drawn,boot_toks,os⟩ (topStub p)
theorem Y5{p:Program}{N:Nat}{w:World}{os:OsState}{z:SharedT}(h:MS p N w os=some z):topRun treeTable p w 11 ((boot_heap w.params).nsMap mainGlobals "__annotations__") N ⟨boot_heap w.params,Array.mk [],boot_drawn,boot_toks,os⟩ (topStub p)=some z.abs:=by
 unfold MS at h
 rw[<-Fast.te10156331382660048174,<-Fast.te11892475500146522536,<-Fast.te14364793385576792824,<-Fast.te6613529449190102663]at h
 have:=KH _ _ _ _ h
 unfold SharedT.abs at this
 dsimp only at this
 rw[NW]at this
 exact this
abbrev Vw(p:Program)(w:World)(z:Shared):Bool:=staticsOk (importedModules p.main.body) (boot_heap w.params) z.heap&&namesBound p z.heap&&gensDone z&&laidKept (boot_heap w.params) z.heap
theorem Y6{p q:Program}{loose:List Str}{Xt:Shared->Bool}{α:Type}{Yf:Shared->α}{Ya:World->α}{N:Nat}
  (h1:opening p=plainProg p.main.scope.names)(h2:Nat.ble 600 N=true)(h3:∀s,fenceModules? p s=some s)
  (c:∀w os,(MS p N w os).map (λz=>Vw p w z.abs)=some true)
  (v:∀w os,(MS p N w os).map (λz=>Fast.tw4187177175401517315 q loose (importedModules p.main.body) Xt true z.abs)=some (openGood q loose))
  (y:∀w os,(MS p N w os).map (λz=>Yf z.abs)=some (Ya w)):LeftO p q loose Xt Yf Ya N:=λw=>by
 obtain⟨⟨h,gs,d,k,os⟩,e,e'⟩:=Zu.mp (boot_open h1 h2 h3 w)
 obtain⟨rfl,rfl,rfl,rfl⟩:h=boot_heap w.params/\gs=Array.mk []/\d=boot_drawn/\k=boot_toks:=by simpa using e'
 have hc:=c w os
 have hv:=v w os
 have hy:=y w os
 rw[<-Fast.te4187177175401517315]at hv
 obtain⟨z,ez,hc⟩:=Zu.mp hc
 rw[ez,Option.map_some,Option.some.injEq]at hv hy
 have r:=Y5 ez
 have t:topFrom treeTable p w N ⟨boot_heap w.params,Array.mk [],boot_drawn,boot_toks,os⟩=some z.abs:=by
  unfold topFrom
  dsimp only
  rw[show((boot_heap w.params).isNs mainGlobals&&(Array.mk []:Array GenState).size==0)=true from by kernel_rfl,show(boot_heap w.params).objs.size=11 from by kernel_rfl,r]
  show(match Vw p w z.abs with|true=>_|false=>_)=_
  rw[hc]
 unfold openEnds
 rw[e]
 rw[z1c,t]
 exact congrArg some (Prod.ext hv hy)
end HX
namespace L2.D.My
open PySem
abbrev Kr:=PySem.Challenge.pw_signright_k23_where_a_text_fails
def o6(i:Nat):Stmt:=Kr.main.body.getD i (.Pass ⟨0,0,0,0⟩)
def o7(i j:Nat):Stmt:=match o6 i with
 |.ClassDef (body:=b) ..=>b.getD j (.Pass ⟨0,0,0,0⟩)
 |_=>.Pass ⟨0,0,0,0⟩
def Vx(s:Stmt):Arguments:=match s with
 |.FunctionDef (args:=a) ..=>a
 |_=>⟨[],[],none,[],[],none,[]⟩
def Vy(s:Stmt):List Stmt:=match s with
 |.FunctionDef (body:=b) ..=>b
 |_=>[]
def Y7(s:Stmt):Scope:=match s with
 |.FunctionDef (scope:=b) ..=>b
 |_=>default
abbrev oI:Value:=.none
abbrev iS(s:Str)(t:Tok):Value:=.str s t
abbrev bB(a:Addr):Value:=.ref a
abbrev bL(P:Params)(s:Str)(t:Tok)(v:Value):DictEntry:=⟨PyData.keyHash P s,.str s t,v⟩
abbrev XS(n q:Str)(t:Nat)(l:List Value):Obj:=⟨.type "code",none,.fields (.str n t::.str q (t+1)::.str "/claim/cut.py" (t+2)::l).toArray,#[]⟩
abbrev Y8(n q:Str)(st:Stmt)(dV kV doc pm:Value)(an:Option Addr)(cd ct:Value):Obj:=⟨.type "function",none,.func (PySem.W.fnOf n q (Vx st) (Vy st) (Y7 st) dV kV doc pm an cd ct),#[]⟩
abbrev jx(n q:Str)(t:Nat)(L k:Int)(a:Nat)(i:Int)(j:Nat):Obj:=XS n q t [.int L 0,.int k 0,.int 0 0,.int 0 0,.int 3 0,bB a,.bool true,.int 181 0,bB (a+1),oI,bB (a+2),bB (a+3),bB (a+4),.int i 0,.int L 0,iS "/claim/cut.py" j]
abbrev Rv(n q:Str)(t:Nat)(L k:Int)(a:Nat)(i:Int)(j:Nat):Obj:=XS n q t [.int L 0,.int k 0,.int 0 0,.int 0 0,.int 3 0,bB a,.bool true,.int 181 0,bB (a+1),oI,oI,oI,bB (a+2),.int i 0,.int L 0,iS "/claim/cut.py" j]
abbrev iT(n q:Str)(st:Stmt)(m:Str)(t a:Nat):Obj:=Y8 n q st oI oI oI (iS m t) none (bB a) oI
def Vz(l:List Stmt):List Nat->List Stmt
 |[]=>[]
 |i::r=>match l[i]? with
  |some s=>s::Vz l r
  |none=>Vz l r
def Rw:Program:={Kr with main:={Kr.main with body:=Vz Kr.main.body [0,2,3,4,5,6,7,8,9,10,12,13,14,15,16,17,19,20,21,22,23,24,26,27,28,29,30,31,32,33,34,35,36,37,38,39,40,41,42,43,44,45,46]}}
def Ks(P:Params):PySem.W.Frag:=
 (nat_lit 2,⟨oI,none,.dict #[] 0,#[]⟩)::
 (nat_lit 3,⟨(.type "dict"),none,.dict (List.toArray [bL P "__name__" 165 (iS "law_signright_k23_where_a_text_fails" 774),bL P "__doc__" 166 oI,bL P "__package__" 167 oI,bL P "__loader__" 168 (.builtin "__main__.__loader__#opaque"),bL P "__spec__" 169 oI,bL P "__annotations__" 170 (bB 6),bL P "__builtins__" 171 (bB 4),bL P "__file__" 173 (iS "/claim/cut.py" 172),bL P "__cached__" 174 oI,bL P "_wall" 193 (bB 21),bL P "SignError" 213 (bB 31),bL P "NoRoll" 229 (bB 44),bL P "NoHand" 245 (bB 56),bL P "NoGroup" 261 (bB 68),bL P "NoRule" 286 (bB 87),bL P "NoDay" 302 (bB 99),bL P "NoDeputy" 318 (bB 111),bL P "NoEntry" 334 (bB 123),bL P "Unruled" 350 (bB 135),bL P "Rule" 403 (bB 175),bL P "Hand" 459 (bB 224),bL P "Counting" 516 (bB 269),bL P "All" 554 (bB 302),bL P "Any" 592 (bB 335),bL P "Some" 631 (bB 368),bL P "MOST_PARTS" 635 (.int 8 634),bL P "FEWEST_PARTS" 666 (bB 371),bL P "shared_signs" 677 (bB 378),bL P "counting_rule" 685 (bB 385),bL P "Reading" 763 (bB 442),bL P "read" 773 (bB 453),bL P "_law_cell_at" 783 (bB 460),bL P "_law_base" 794 (bB 467),bL P "_law_name" 806 (bB 474),bL P "_law_names" 823 (bB 481),bL P "_law_roll" 830 (bB 488),bL P "_law_hand" 837 (bB 495),bL P "_law_counted" 843 (bB 500),bL P "_law_folded" 853 (bB 507),bL P "_law_built" 859 (bB 512),bL P "_law_whole" 866 (bB 519),bL P "_law_kinds" 874 (bB 526),bL P "_law_foreign" 882 (bB 533),bL P "_law_sign" 889 (bB 540),bL P "_law_exchanged" 895 (bB 545),bL P "_law_spoilt" 907 (bB 552),bL P "_law_alike" 917 (bB 559),bL P "_law_token" 923 (bB 564),bL P "_law_behind" 933 (bB 571),bL P "_law_fails" 946 (bB 578),bL P "_law_read" 957 (bB 585),bL P "law" 974 (bB 592)]) 52,#[]⟩)::
 (nat_lit 20,jx "_wall" "_wall" 187 1 1 15 191 192)::
 (nat_lit 21,iT "_wall" "_wall" (o6 0) "__main__" 164 20)::
 (nat_lit 30,⟨(.type "dict"),none,.dict (List.toArray [bL P "__module__" 203 (iS "signright.errors" 194),bL P "__firstlineno__" 207 (.int 5 206),bL P "__static_attributes__" 208 (bB 29),bL P "__weakref__" 210 (bB 32),bL P "__doc__" 211 oI]) 3,#[]⟩)::
 (nat_lit 31,⟨(.type "type"),none,.cls ⟨"SignError",[(.type "ValueError")],[(bB 31),(.type "ValueError"),(.type "Exception"),(.type "BaseException"),(.type "object")],30,"SignError",true,[],[(bB 44),(bB 56),(bB 68),(bB 87),(bB 99),(bB 111),(bB 123),(bB 135)],false,none,false⟩,#[some (bB 22),none,some (iS "SignError" 196),some (iS "SignError" 204),some (.builtin "ValueError.__new__"),some (.bool true)]⟩)::
 (nat_lit 32,⟨(.type "getset_descriptor"),none,.fields (List.toArray [(iS "__weakref__" 209),(bB 31),(.builtin "ExceptionGroup.__weakref__"),oI]),#[]⟩)::
 (nat_lit 43,⟨(.type "dict"),none,.dict (List.toArray [bL P "__module__" 221 (iS "signright.errors" 194),bL P "__firstlineno__" 225 (.int 7 224),bL P "__static_attributes__" 226 (bB 42),bL P "__doc__" 227 oI]) 2,#[]⟩)::
 (nat_lit 44,⟨(.type "type"),none,.cls ⟨"NoRoll",[(bB 31)],[(bB 44),(bB 31),(.type "ValueError"),(.type "Exception"),(.type "BaseException"),(.type "object")],43,"NoRoll",true,[],[],false,none,false⟩,#[some (bB 35),none,some (iS "NoRoll" 214),some (iS "NoRoll" 222),some (.builtin "ValueError.__new__"),some (.bool true)]⟩)::
 (nat_lit 55,⟨(.type "dict"),none,.dict (List.toArray [bL P "__module__" 237 (iS "signright.errors" 194),bL P "__firstlineno__" 241 (.int 9 240),bL P "__static_attributes__" 242 (bB 54),bL P "__doc__" 243 oI]) 2,#[]⟩)::
 (nat_lit 56,⟨(.type "type"),none,.cls ⟨"NoHand",[(bB 31)],[(bB 56),(bB 31),(.type "ValueError"),(.type "Exception"),(.type "BaseException"),(.type "object")],55,"NoHand",true,[],[],false,none,false⟩,#[some (bB 47),none,some (iS "NoHand" 230),some (iS "NoHand" 238),some (.builtin "ValueError.__new__"),some (.bool true)]⟩)::
 (nat_lit 67,⟨(.type "dict"),none,.dict (List.toArray [bL P "__module__" 253 (iS "signright.errors" 194),bL P "__firstlineno__" 257 (.int 11 256),bL P "__static_attributes__" 258 (bB 66),bL P "__doc__" 259 oI]) 2,#[]⟩)::
 (nat_lit 68,⟨(.type "type"),none,.cls ⟨"NoGroup",[(bB 31)],[(bB 68),(bB 31),(.type "ValueError"),(.type "Exception"),(.type "BaseException"),(.type "object")],67,"NoGroup",true,[],[],false,none,false⟩,#[some (bB 59),none,some (iS "NoGroup" 246),some (iS "NoGroup" 254),some (.builtin "ValueError.__new__"),some (.bool true)]⟩)::
 (nat_lit 83,jx "__init__" "NoRule.__init__" 274 15 2 78 279 280)::
 (nat_lit 84,iT "__init__" "NoRule.__init__" (o7 6 0) "signright.errors" 194 83)::
 (nat_lit 86,⟨(.type "dict"),none,.dict (List.toArray [bL P "__module__" 269 (iS "signright.errors" 194),bL P "__firstlineno__" 273 (.int 13 272),bL P "__init__" 281 (bB 84),bL P "__static_attributes__" 283 (bB 85),bL P "__doc__" 284 oI]) 2,#[]⟩)::
 (nat_lit 87,⟨(.type "type"),none,.cls ⟨"NoRule",[(bB 31)],[(bB 87),(bB 31),(.type "ValueError"),(.type "Exception"),(.type "BaseException"),(.type "object")],86,"NoRule",true,[],[],false,none,false⟩,#[some (bB 71),none,some (iS "NoRule" 262),some (iS "NoRule" 270),some (.builtin "ValueError.__new__"),some (.bool true)]⟩)::
 (nat_lit 98,⟨(.type "dict"),none,.dict (List.toArray [bL P "__module__" 294 (iS "signright.errors" 194),bL P "__firstlineno__" 298 (.int 18 297),bL P "__static_attributes__" 299 (bB 97),bL P "__doc__" 300 oI]) 2,#[]⟩)::
 (nat_lit 99,⟨(.type "type"),none,.cls ⟨"NoDay",[(bB 31)],[(bB 99),(bB 31),(.type "ValueError"),(.type "Exception"),(.type "BaseException"),(.type "object")],98,"NoDay",true,[],[],false,none,false⟩,#[some (bB 90),none,some (iS "NoDay" 287),some (iS "NoDay" 295),some (.builtin "ValueError.__new__"),some (.bool true)]⟩)::
 (nat_lit 110,⟨(.type "dict"),none,.dict (List.toArray [bL P "__module__" 310 (iS "signright.errors" 194),bL P "__firstlineno__" 314 (.int 20 313),bL P "__static_attributes__" 315 (bB 109),bL P "__doc__" 316 oI]) 2,#[]⟩)::
 (nat_lit 111,⟨(.type "type"),none,.cls ⟨"NoDeputy",[(bB 31)],[(bB 111),(bB 31),(.type "ValueError"),(.type "Exception"),(.type "BaseException"),(.type "object")],110,"NoDeputy",true,[],[],false,none,false⟩,#[some (bB 102),none,some (iS "NoDeputy" 303),some (iS "NoDeputy" 311),some (.builtin "ValueError.__new__"),some (.bool true)]⟩)::
 (nat_lit 122,⟨(.type "dict"),none,.dict (List.toArray [bL P "__module__" 326 (iS "signright.errors" 194),bL P "__firstlineno__" 330 (.int 22 329),bL P "__static_attributes__" 331 (bB 121),bL P "__doc__" 332 oI]) 2,#[]⟩)::
 (nat_lit 123,⟨(.type "type"),none,.cls ⟨"NoEntry",[(bB 31)],[(bB 123),(bB 31),(.type "ValueError"),(.type "Exception"),(.type "BaseException"),(.type "object")],122,"NoEntry",true,[],[],false,none,false⟩,#[some (bB 114),none,some (iS "NoEntry" 319),some (iS "NoEntry" 327),some (.builtin "ValueError.__new__"),some (.bool true)]⟩)::
 (nat_lit 134,⟨(.type "dict"),none,.dict (List.toArray [bL P "__module__" 342 (iS "signright.errors" 194),bL P "__firstlineno__" 346 (.int 24 345),bL P "__static_attributes__" 347 (bB 133),bL P "__doc__" 348 oI]) 2,#[]⟩)::
 (nat_lit 135,⟨(.type "type"),none,.cls ⟨"Unruled",[(bB 31)],[(bB 135),(bB 31),(.type "ValueError"),(.type "Exception"),(.type "BaseException"),(.type "object")],134,"Unruled",true,[],[],false,none,false⟩,#[some (bB 126),none,some (iS "Unruled" 335),some (iS "Unruled" 343),some (.builtin "ValueError.__new__"),some (.bool true)]⟩)::
 (nat_lit 150,jx "shape" "Rule.shape" 365 29 1 145 369 370)::
 (nat_lit 151,iT "shape" "Rule.shape" (o7 12 0) "signright.rules" 351 150)::
 (nat_lit 157,jx "text" "Rule.text" 372 32 1 152 376 377)::
 (nat_lit 158,iT "text" "Rule.text" (o7 12 1) "signright.rules" 351 157)::
 (nat_lit 164,jx "lets" "Rule.lets" 379 35 3 159 385 386)::
 (nat_lit 165,iT "lets" "Rule.lets" (o7 12 2) "signright.rules" 351 164)::
 (nat_lit 171,jx "ladder" "Rule.ladder" 388 38 2 166 393 394)::
 (nat_lit 172,iT "ladder" "Rule.ladder" (o7 12 3) "signright.rules" 351 171)::
 (nat_lit 174,⟨(.type "dict"),none,.dict (List.toArray [bL P "__module__" 360 (iS "signright.rules" 351),bL P "__firstlineno__" 364 (.int 27 363),bL P "shape" 371 (bB 151),bL P "text" 378 (bB 158),bL P "lets" 387 (bB 165),bL P "ladder" 395 (bB 172),bL P "__static_attributes__" 396 (bB 173),bL P "__dict__" 398 (bB 176),bL P "__weakref__" 400 (bB 177),bL P "__doc__" 401 oI]) 4,#[]⟩)::
 (nat_lit 175,⟨(.type "type"),none,.cls ⟨"Rule",[(.type "object")],[(bB 175),(.type "object")],174,"Rule",true,[],[(bB 224),(bB 269)],false,none,false⟩,#[none,none,some (iS "Rule" 353),some (iS "Rule" 361),some (.builtin "object.__new__"),some (.bool true)]⟩)::
 (nat_lit 176,⟨(.type "getset_descriptor"),none,.fields (List.toArray [(iS "__dict__" 397),(bB 175),(.builtin "function.__dict__"),(.builtin "function.__dict__#set")]),#[]⟩)::
 (nat_lit 177,⟨(.type "getset_descriptor"),none,.fields (List.toArray [(iS "__weakref__" 399),(bB 175),(.builtin "ExceptionGroup.__weakref__"),oI]),#[]⟩)::
 (nat_lit 192,jx "__init__" "Hand.__init__" 416 42 2 187 421 422)::
 (nat_lit 193,iT "__init__" "Hand.__init__" (o7 13 0) "signright.rules" 351 192)::
 (nat_lit 199,jx "shape" "Hand.shape" 424 45 1 194 428 429)::
 (nat_lit 200,iT "shape" "Hand.shape" (o7 13 1) "signright.rules" 351 199)::
 (nat_lit 206,jx "text" "Hand.text" 431 48 1 201 435 436)::
 (nat_lit 207,iT "text" "Hand.text" (o7 13 2) "signright.rules" 351 206)::
 (nat_lit 213,jx "lets" "Hand.lets" 438 51 3 208 444 445)::
 (nat_lit 214,iT "lets" "Hand.lets" (o7 13 3) "signright.rules" 351 213)::
 (nat_lit 220,jx "ladder" "Hand.ladder" 447 54 2 215 452 453)::
 (nat_lit 221,iT "ladder" "Hand.ladder" (o7 13 4) "signright.rules" 351 220)::
 (nat_lit 223,⟨(.type "dict"),none,.dict (List.toArray [bL P "__module__" 411 (iS "signright.rules" 351),bL P "__firstlineno__" 415 (.int 40 414),bL P "__init__" 423 (bB 193),bL P "shape" 430 (bB 200),bL P "text" 437 (bB 207),bL P "lets" 446 (bB 214),bL P "ladder" 454 (bB 221),bL P "__static_attributes__" 456 (bB 222),bL P "__doc__" 457 oI]) 2,#[]⟩)::
 (nat_lit 224,⟨(.type "type"),none,.cls ⟨"Hand",[(bB 175)],[(bB 224),(bB 175),(.type "object")],223,"Hand",true,[],[],false,none,false⟩,#[some (bB 180),none,some (iS "Hand" 404),some (iS "Hand" 412),some (.builtin "object.__new__"),some (.bool true)]⟩)::
 (nat_lit 239,jx "__init__" "Counting.__init__" 472 58 3 234 478 479)::
 (nat_lit 240,iT "__init__" "Counting.__init__" (o7 14 0) "signright.rules" 351 239)::
 (nat_lit 246,jx "lets" "Counting.lets" 481 62 3 241 487 488)::
 (nat_lit 247,iT "lets" "Counting.lets" (o7 14 1) "signright.rules" 351 246)::
 (nat_lit 253,jx "ladder" "Counting.ladder" 490 65 2 248 495 496)::
 (nat_lit 254,iT "ladder" "Counting.ladder" (o7 14 2) "signright.rules" 351 253)::
 (nat_lit 260,jx "shapes_of_parts" "Counting.shapes_of_parts" 498 68 1 255 502 503)::
 (nat_lit 261,iT "shapes_of_parts" "Counting.shapes_of_parts" (o7 14 3) "signright.rules" 351 260)::
 (nat_lit 265,Rv "text_of_parts" "Counting.text_of_parts" 505 71 1 262 508 509)::
 (nat_lit 266,iT "text_of_parts" "Counting.text_of_parts" (o7 14 4) "signright.rules" 351 265)::
 (nat_lit 268,⟨(.type "dict"),none,.dict (List.toArray [bL P "__module__" 467 (iS "signright.rules" 351),bL P "__firstlineno__" 471 (.int 56 470),bL P "__init__" 480 (bB 240),bL P "lets" 489 (bB 247),bL P "ladder" 497 (bB 254),bL P "shapes_of_parts" 504 (bB 261),bL P "text_of_parts" 510 (bB 266),bL P "__static_attributes__" 513 (bB 267),bL P "__doc__" 514 oI]) 2,#[]⟩)::
 (nat_lit 269,⟨(.type "type"),none,.cls ⟨"Counting",[(bB 175)],[(bB 269),(bB 175),(.type "object")],268,"Counting",true,[],[(bB 302),(bB 335),(bB 368)],false,none,false⟩,#[some (bB 227),none,some (iS "Counting" 460),some (iS "Counting" 468),some (.builtin "object.__new__"),some (.bool true)]⟩)::
 (nat_lit 284,jx "__init__" "All.__init__" 529 75 2 279 534 535)::
 (nat_lit 285,iT "__init__" "All.__init__" (o7 15 0) "signright.rules" 351 284)::
 (nat_lit 291,jx "shape" "All.shape" 537 78 1 286 541 542)::
 (nat_lit 292,iT "shape" "All.shape" (o7 15 1) "signright.rules" 351 291)::
 (nat_lit 298,jx "text" "All.text" 544 81 1 293 548 549)::
 (nat_lit 299,iT "text" "All.text" (o7 15 2) "signright.rules" 351 298)::
 (nat_lit 301,⟨(.type "dict"),none,.dict (List.toArray [bL P "__module__" 524 (iS "signright.rules" 351),bL P "__firstlineno__" 528 (.int 73 527),bL P "__init__" 536 (bB 285),bL P "shape" 543 (bB 292),bL P "text" 550 (bB 299),bL P "__static_attributes__" 551 (bB 300),bL P "__doc__" 552 oI]) 2,#[]⟩)::
 (nat_lit 302,⟨(.type "type"),none,.cls ⟨"All",[(bB 269)],[(bB 302),(bB 269),(bB 175),(.type "object")],301,"All",true,[],[],false,none,false⟩,#[some (bB 272),none,some (iS "All" 517),some (iS "All" 525),some (.builtin "object.__new__"),some (.bool true)]⟩)::
 (nat_lit 317,jx "__init__" "Any.__init__" 567 85 2 312 572 573)::
 (nat_lit 318,iT "__init__" "Any.__init__" (o7 16 0) "signright.rules" 351 317)::
 (nat_lit 324,jx "shape" "Any.shape" 575 88 1 319 579 580)::
 (nat_lit 325,iT "shape" "Any.shape" (o7 16 1) "signright.rules" 351 324)::
 (nat_lit 331,jx "text" "Any.text" 582 91 1 326 586 587)::
 (nat_lit 332,iT "text" "Any.text" (o7 16 2) "signright.rules" 351 331)::
 (nat_lit 334,⟨(.type "dict"),none,.dict (List.toArray [bL P "__module__" 562 (iS "signright.rules" 351),bL P "__firstlineno__" 566 (.int 83 565),bL P "__init__" 574 (bB 318),bL P "shape" 581 (bB 325),bL P "text" 588 (bB 332),bL P "__static_attributes__" 589 (bB 333),bL P "__doc__" 590 oI]) 2,#[]⟩)::
 (nat_lit 335,⟨(.type "type"),none,.cls ⟨"Any",[(bB 269)],[(bB 335),(bB 269),(bB 175),(.type "object")],334,"Any",true,[],[],false,none,false⟩,#[some (bB 305),none,some (iS "Any" 555),some (iS "Any" 563),some (.builtin "object.__new__"),some (.bool true)]⟩)::
 (nat_lit 350,jx "__init__" "Some.__init__" 605 95 3 345 611 612)::
 (nat_lit 351,iT "__init__" "Some.__init__" (o7 17 0) "signright.rules" 351 350)::
 (nat_lit 357,jx "shape" "Some.shape" 614 98 1 352 618 619)::
 (nat_lit 358,iT "shape" "Some.shape" (o7 17 1) "signright.rules" 351 357)::
 (nat_lit 364,jx "text" "Some.text" 621 101 1 359 625 626)::
 (nat_lit 365,iT "text" "Some.text" (o7 17 2) "signright.rules" 351 364)::
 (nat_lit 367,⟨(.type "dict"),none,.dict (List.toArray [bL P "__module__" 600 (iS "signright.rules" 351),bL P "__firstlineno__" 604 (.int 93 603),bL P "__init__" 613 (bB 351),bL P "shape" 620 (bB 358),bL P "text" 627 (bB 365),bL P "__static_attributes__" 628 (bB 366),bL P "__doc__" 629 oI]) 2,#[]⟩)::
 (nat_lit 368,⟨(.type "type"),none,.cls ⟨"Some",[(bB 269)],[(bB 368),(bB 269),(bB 175),(.type "object")],367,"Some",true,[],[],false,none,false⟩,#[some (bB 338),none,some (iS "Some" 593),some (iS "Some" 601),some (.builtin "object.__new__"),some (.bool true)]⟩)::
 (nat_lit 371,⟨(.type "dict"),none,.dict (List.toArray [bL P "all(" 636 (.int 1 637),bL P "any(" 638 (.int 1 639),bL P "1 of (" 640 (.int 1 641),bL P "2 of (" 642 (.int 2 643),bL P "3 of (" 644 (.int 3 645),bL P "4 of (" 646 (.int 4 647),bL P "5 of (" 648 (.int 5 649),bL P "6 of (" 650 (.int 6 651),bL P "7 of (" 652 (.int 7 653),bL P "8 of (" 654 (.int 8 655)]) 10,#[]⟩)::
 (nat_lit 377,jx "shared_signs" "shared_signs" 667 106 2 372 675 676)::
 (nat_lit 378,iT "shared_signs" "shared_signs" (o6 21) "signright.reader" 632 377)::
 (nat_lit 384,jx "counting_rule" "counting_rule" 678 113 2 379 683 684)::
 (nat_lit 385,iT "counting_rule" "counting_rule" (o6 22) "signright.reader" 632 384)::
 (nat_lit 398,jx "__init__" "Reading.__init__" 698 121 3 393 704 705)::
 (nat_lit 399,iT "__init__" "Reading.__init__" (o7 23 0) "signright.reader" 632 398)::
 (nat_lit 403,Rv "take_word" "Reading.take_word" 707 126 1 400 710 711)::
 (nat_lit 404,iT "take_word" "Reading.take_word" (o7 23 1) "signright.reader" 632 403)::
 (nat_lit 410,jx "comes" "Reading.comes" 713 134 2 405 718 719)::
 (nat_lit 411,iT "comes" "Reading.comes" (o7 23 2) "signright.reader" 632 410)::
 (nat_lit 417,jx "take_sign" "Reading.take_sign" 721 137 2 412 726 727)::
 (nat_lit 418,iT "take_sign" "Reading.take_sign" (o7 23 3) "signright.reader" 632 417)::
 (nat_lit 424,jx "take_parts" "Reading.take_parts" 729 142 2 419 735 736)::
 (nat_lit 425,iT "take_parts" "Reading.take_parts" (o7 23 4) "signright.reader" 632 424)::
 (nat_lit 431,jx "take_rule" "Reading.take_rule" 738 153 1 426 743 744)::
 (nat_lit 432,iT "take_rule" "Reading.take_rule" (o7 23 5) "signright.reader" 632 431)::
 (nat_lit 438,jx "take_end" "Reading.take_end" 746 159 1 433 750 751)::
 (nat_lit 439,iT "take_end" "Reading.take_end" (o7 23 6) "signright.reader" 632 438)::
 (nat_lit 441,⟨(.type "dict"),none,.dict (List.toArray [bL P "__module__" 693 (iS "signright.reader" 632),bL P "__firstlineno__" 697 (.int 119 696),bL P "__init__" 706 (bB 399),bL P "take_word" 712 (bB 404),bL P "comes" 720 (bB 411),bL P "take_sign" 728 (bB 418),bL P "take_parts" 737 (bB 425),bL P "take_rule" 745 (bB 432),bL P "take_end" 752 (bB 439),bL P "__static_attributes__" 756 (bB 440),bL P "__dict__" 758 (bB 443),bL P "__weakref__" 760 (bB 444),bL P "__doc__" 761 oI]) 4,#[]⟩)::
 (nat_lit 442,⟨(.type "type"),none,.cls ⟨"Reading",[(.type "object")],[(bB 442),(.type "object")],441,"Reading",true,[],[],false,none,false⟩,#[none,none,some (iS "Reading" 686),some (iS "Reading" 694),some (.builtin "object.__new__"),some (.bool true)]⟩)::
 (nat_lit 443,⟨(.type "getset_descriptor"),none,.fields (List.toArray [(iS "__dict__" 757),(bB 442),(.builtin "function.__dict__"),(.builtin "function.__dict__#set")]),#[]⟩)::
 (nat_lit 444,⟨(.type "getset_descriptor"),none,.fields (List.toArray [(iS "__weakref__" 759),(bB 442),(.builtin "ExceptionGroup.__weakref__"),oI]),#[]⟩)::
 (nat_lit 452,jx "read" "read" 764 162 2 447 771 772)::
 (nat_lit 453,iT "read" "read" (o6 24) "signright.reader" 632 452)::
 (nat_lit 459,jx "_law_cell_at" "_law_cell_at" 776 168 2 454 781 782)::
 (nat_lit 460,iT "_law_cell_at" "_law_cell_at" (o6 26) "law_signright_k23_where_a_text_fails" 774 459)::
 (nat_lit 466,jx "_law_base" "_law_base" 784 172 2 461 792 793)::
 (nat_lit 467,iT "_law_base" "_law_base" (o6 27) "law_signright_k23_where_a_text_fails" 774 466)::
 (nat_lit 473,jx "_law_name" "_law_name" 795 179 4 468 804 805)::
 (nat_lit 474,iT "_law_name" "_law_name" (o6 28) "law_signright_k23_where_a_text_fails" 774 473)::
 (nat_lit 480,jx "_law_names" "_law_names" 807 183 3 475 821 822)::
 (nat_lit 481,iT "_law_names" "_law_names" (o6 29) "law_signright_k23_where_a_text_fails" 774 480)::
 (nat_lit 487,jx "_law_roll" "_law_roll" 824 198 1 482 828 829)::
 (nat_lit 488,iT "_law_roll" "_law_roll" (o6 30) "law_signright_k23_where_a_text_fails" 774 487)::
 (nat_lit 494,jx "_law_hand" "_law_hand" 831 200 1 489 835 836)::
 (nat_lit 495,iT "_law_hand" "_law_hand" (o6 31) "law_signright_k23_where_a_text_fails" 774 494)::
 (nat_lit 499,Rv "_law_counted" "_law_counted" 838 202 3 496 841 842)::
 (nat_lit 500,iT "_law_counted" "_law_counted" (o6 32) "law_signright_k23_where_a_text_fails" 774 499)::
 (nat_lit 506,jx "_law_folded" "_law_folded" 844 215 2 501 851 852)::
 (nat_lit 507,iT "_law_folded" "_law_folded" (o6 33) "law_signright_k23_where_a_text_fails" 774 506)::
 (nat_lit 511,Rv "_law_built" "_law_built" 854 223 4 508 857 858)::
 (nat_lit 512,iT "_law_built" "_law_built" (o6 34) "law_signright_k23_where_a_text_fails" 774 511)::
 (nat_lit 518,jx "_law_whole" "_law_whole" 860 236 1 513 864 865)::
 (nat_lit 519,iT "_law_whole" "_law_whole" (o6 35) "law_signright_k23_where_a_text_fails" 774 518)::
 (nat_lit 525,jx "_law_kinds" "_law_kinds" 867 238 1 520 872 873)::
 (nat_lit 526,iT "_law_kinds" "_law_kinds" (o6 36) "law_signright_k23_where_a_text_fails" 774 525)::
 (nat_lit 532,jx "_law_foreign" "_law_foreign" 875 259 1 527 880 881)::
 (nat_lit 533,iT "_law_foreign" "_law_foreign" (o6 37) "law_signright_k23_where_a_text_fails" 774 532)::
 (nat_lit 539,jx "_law_sign" "_law_sign" 883 262 1 534 887 888)::
 (nat_lit 540,iT "_law_sign" "_law_sign" (o6 38) "law_signright_k23_where_a_text_fails" 774 539)::
 (nat_lit 544,Rv "_law_exchanged" "_law_exchanged" 890 268 4 541 893 894)::
 (nat_lit 545,iT "_law_exchanged" "_law_exchanged" (o6 39) "law_signright_k23_where_a_text_fails" 774 544)::
 (nat_lit 551,jx "_law_spoilt" "_law_spoilt" 896 276 3 546 905 906)::
 (nat_lit 552,iT "_law_spoilt" "_law_spoilt" (o6 40) "law_signright_k23_where_a_text_fails" 774 551)::
 (nat_lit 558,jx "_law_alike" "_law_alike" 908 295 3 553 915 916)::
 (nat_lit 559,iT "_law_alike" "_law_alike" (o6 41) "law_signright_k23_where_a_text_fails" 774 558)::
 (nat_lit 563,Rv "_law_token" "_law_token" 918 300 3 560 921 922)::
 (nat_lit 564,iT "_law_token" "_law_token" (o6 42) "law_signright_k23_where_a_text_fails" 774 563)::
 (nat_lit 570,jx "_law_behind" "_law_behind" 924 313 3 565 931 932)::
 (nat_lit 571,iT "_law_behind" "_law_behind" (o6 43) "law_signright_k23_where_a_text_fails" 774 570)::
 (nat_lit 577,jx "_law_fails" "_law_fails" 934 328 2 572 944 945)::
 (nat_lit 578,iT "_law_fails" "_law_fails" (o6 44) "law_signright_k23_where_a_text_fails" 774 577)::
 (nat_lit 584,jx "_law_read" "_law_read" 947 344 2 579 955 956)::
 (nat_lit 585,iT "_law_read" "_law_read" (o6 45) "law_signright_k23_where_a_text_fails" 774 584)::
 (nat_lit 591,jx "law" "law" 958 352 1 586 972 973)::
 (nat_lit 592,iT "law" "law" (o6 46) "law_signright_k23_where_a_text_fails" 774 591)::[]
abbrev Kt:List Addr:=[2,3,20,21,30,31,32,43,44,55,56,67,68,83,84,86,87,98,99,110,111,122,123,134,135,150,151,157,158,164,165,171,172,174,175,176,177,192,193,199,200,206,207,213,214,220,221,223,224,239,240,246,247,253,254,260,261,265,266,268,269,284,285,291,292,298,299,301,302,317,318,324,325,331,332,334,335,350,351,357,358,364,365,367,368,371,377,378,384,385,398,399,403,404,410,411,417,418,424,425,431,432,438,439,441,442,443,444,452,453,459,460,466,467,473,474,480,481,487,488,494,495,499,500,506,507,511,512,518,519,525,526,532,533,539,540,544,545,551,552,558,559,563,564,570,571,577,578,584,585,591,592]
theorem KI:∀P,Kt=(Ks P).map (·.1):=λ_=>by kernel_rfl
abbrev VA(s:Shared):Bool:=PySem.W.xlAt Rw [] s&&PySem.W.recOk (PySem.W.RowW.records (PySem.W.OpenRow.toRowW (PySem.Challenge.rw_signright_k23_where_a_text_fails).row)) s
abbrev Dd(w:World):Prop:=∀os,(HX.MS Kr 20000 w os).map (λz=>HX.Vw Kr w z.abs)=some true
theorem RZ:∀w:World,Dd (w.withFollow "special-get-raises" false):=by intro w os;kernel_rfl
theorem R1:∀w:World,Dd (w.withFollow "special-get-raises" true):=by intro w os;kernel_rfl
theorem VB:∀w,Dd w:=z12 "special-get-raises" (P:=Dd) RZ R1
abbrev KJ(w:World):Prop:=∀os,(HX.MS Kr 20000 w os).map (λz=>PySem.W.Fast.tw4187177175401517315 Rw ["FEWEST_PARTS"] (importedModules Kr.main.body) VA true z.abs)=some (PySem.W.openGood Rw ["FEWEST_PARTS"])
theorem VC:∀w:World,KJ (w.withFollow "special-get-raises" false):=by intro w os;kernel_rfl
theorem VD:∀w:World,KJ (w.withFollow "special-get-raises" true):=by intro w os;kernel_rfl
theorem Y9:∀w,KJ w:=z12 "special-get-raises" (P:=KJ) VC VD
abbrev KL(w:World):Prop:=∀os,(HX.MS Kr 20000 w os).map (λz=>(PySem.W.kHook Ks Kt KI).obs z.abs)=some ((PySem.W.kHook Ks Kt KI).val w)
theorem VE:∀w:World,KL (w.withFollow "special-get-raises" false):=by intro w os;kernel_rfl
theorem VF:∀w:World,KL (w.withFollow "special-get-raises" true):=by intro w os;kernel_rfl
theorem Za:∀w,KL w:=z12 "special-get-raises" (P:=KL) VE VF
theorem Zb:PySem.W.LeftO Kr Rw ["FEWEST_PARTS"] VA (PySem.W.kHook Ks Kt KI).obs (PySem.W.kHook Ks Kt KI).val 20000:=HX.Y6 (by kernel_rfl) (by kernel_rfl) (λs=>by kernel_rfl) VB Y9 Za
end L2.D.My
namespace L2
open PySem PySem.Spec PyProof.Rows
abbrev Key:=Sum Int Str
def MT:Key->Value->Bool
 |.inl k,v=>Value.isInt k v
 |.inr x,v=>Value.isStrOf x v
def VG(w:World):Key->Int
 |.inl k=>hashInt k
 |.inr x=>hashStr w x
theorem dW:∀{k:Key} {v:Value},MT k v=true->(∃i t,k=Sum.inl i/\v=Value.int i t)\/(∃x t,k=Sum.inr x/\v=Value.str x t)
 |.inl i,v,h=>by
  obtain⟨t,e⟩:=Value.isInt_shape (k:=i) (v:=v) h
  exact .inl ⟨i,t,rfl,e⟩
 |.inr x,v,h=>by
  obtain⟨t,e⟩:=Value.isStrOf_shape (x:=x) (v:=v) h
  exact .inr ⟨x,t,rfl,e⟩
theorem NX(a b:Int):decide ((Sum.inl a:Key)=Sum.inl b)=(a==b):=by
 by_cases e:a=b
 ·subst e;simp
 ·have h:¬(Sum.inl a:Key)=Sum.inl b:=λq=>e (Sum.inl.inj q)
  rw[decide_eq_false h]
  exact(beq_eq_false_iff_ne.mpr e).symm
theorem NY(a b:Str):decide ((Sum.inr a:Key)=Sum.inr b)=decide (a=b):=by
 by_cases e:a=b
 ·subst e;simp
 ·have h:¬(Sum.inr a:Key)=Sum.inr b:=λq=>e (Sum.inr.inj q)
  rw[decide_eq_false h,decide_eq_false e]
theorem NZ(a:Int)(b:Str):decide ((Sum.inl a:Key)=Sum.inr b)=false:=decide_eq_false (λq=>nomatch q)
theorem N1(a:Str)(b:Int):decide ((Sum.inr a:Key)=Sum.inl b)=false:=decide_eq_false (λq=>nomatch q)
def De(prog:Program)(w:World):PySem.KeyKind prog w Key where
 is:=MT
 hash:=VG w
 inj:=λv a b ha hb=>by
  rcases dW ha with⟨i,t,rfl,rfl⟩|⟨x,t,rfl,rfl⟩
  ·rcases dW hb with⟨j,u,rfl,e⟩|⟨y,u,rfl,e⟩
   ·injection e with e1 _;rw[e1]
   ·exact nomatch e
  ·rcases dW hb with⟨j,u,rfl,e⟩|⟨y,u,rfl,e⟩
   ·exact nomatch e
   ·injection e with e1 _;rw[e1]
 byValue:=λk v h=>by
  rcases dW h with⟨i,t,rfl,rfl⟩|⟨x,t,rfl,rfl⟩<;>rfl
 pyHash:=λhv h=>by
  rcases dW hv with⟨i,t,rfl,rfl⟩|⟨x,t,rfl,rfl⟩
  ·exact wpAny_pyHash_int h
  ·exact wpAny_pyHash_str h
 eqBool:=λhu hv h=>by
  rcases dW hu with⟨i,t,rfl,rfl⟩|⟨x,t,rfl,rfl⟩
  ·rcases dW hv with⟨j,u,rfl,rfl⟩|⟨y,u,rfl,rfl⟩
   ·rw[NX]at h;exact wpAny_eqBool_int h
   ·rw[NZ]at h;exact SeqAt.EqAt.int_str i t y u _ _ _ _ h
  ·rcases dW hv with⟨j,u,rfl,rfl⟩|⟨y,u,rfl,rfl⟩
   ·rw[N1]at h;exact SeqAt.EqAt.str_int x t j u _ _ _ _ h
   ·rw[NY]at h;exact wpAny_eqBool_str h
 «strs»:=λk x t v h=>by
  rcases dW h with⟨i,u,rfl,e⟩|⟨y,u,rfl,e⟩
  ·exact nomatch e
  ·injection e with e1 _
   subst e1
   cases v<;>rfl
inductive V where
 |non|bl(b:Bool)|int(i:Int)|str(x:Str)|byt(b:Array UInt8)|flt(b:UInt64)|ref(a:Addr)|ty(n:String)
 deriving DecidableEq
def RelV:V->Value->Prop
 |.non,u=>u=Value.none
 |.bl b,u=>u=Value.bool b
 |.int i,u=>∃t,u=Value.int i t
 |.str x,u=>∃t,u=Value.str x t
 |.byt b,u=>∃t,u=Value.bytes b t
 |.flt b,u=>∃t,u=Value.float b t
 |.ref a,u=>u=Value.ref a
 |.ty n,u=>u=Value.type n
abbrev Vals:List V->List Value->Prop:=Paired RelV
theorem Vals.length{xs:List V}{us:List Value}(r:Vals xs us):xs.length=us.length:=Paired.length r
theorem Vals.get:∀{xs:List V} {us:List Value} {i:Nat} {x:V},Vals xs us->xs[i]?=some x->∃u,us[i]?=some u/\RelV x u
 |_,_,_,_,.nil,e=>by simp at e
 |_,_,0,_,.cons r _,e=>by simp at e;subst e;exact⟨_,rfl,r⟩
 |_,_,i+1,x,.cons _ t,e=>by
  obtain⟨u,h1,h2⟩:=Vals.get (i:=i) (x:=x) t (by simpa using e)
  exact⟨u,by simpa using h1,h2⟩
theorem Vals.set{x:V}{u:Value}(r:RelV x u):∀{xs:List V} {us:List Value} (i:Nat),Vals xs us->Vals (xs.set i x) (us.set i u)
 |_,_,_,.nil=>.nil
 |_,_,0,.cons _ t=>.cons r t
 |_,_,i+1,.cons q t=>.cons q (Vals.set r i t)
theorem Vals.append:∀{xs ys:List V} {us ws:List Value},Vals xs us->Vals ys ws->Vals (xs++ys) (us++ws)
 |_,_,_,_,.nil,s=>s
 |_,_,_,_,.cons r t,s=>.cons r (Vals.append t s)
theorem Vals.take:∀{xs:List V} {us:List Value} (n:Nat),Vals xs us->Vals (xs.take n) (us.take n)
 |_,_,0,_=>.nil
 |_,_,_+1,.nil=>.nil
 |_,_,n+1,.cons r t=>.cons r (Vals.take n t)
theorem Vals.drop:∀{xs:List V} {us:List Value} (n:Nat),Vals xs us->Vals (xs.drop n) (us.drop n)
 |_,_,0,r=>r
 |_,_,_+1,.nil=>.nil
 |_,_,n+1,.cons _ t=>Vals.drop n t
def tE:Option V->Option Value->Prop
 |some v,some u=>RelV v u
 |none,none=>True
 |_,_=>False
def KV{κ:Type}:List (κ×V)->List (κ×Value)->Prop:=Paired λ(p:κ×V) (q:κ×Value)=>p.1=q.1/\RelV p.2 q.2
def kV:Key->V
 |.inl i=>.int i
 |.inr x=>.str x
inductive HO where
 |lst(xs:List V)
 |tup(xs:List V)
 |dK(cW:List (Key×V))|dT(cW:List (List Key×V))
 |set(S:Int->Bool)(n:Nat)
 |ins(C dx:Addr)(fs:List (Str×V))
 |own(x:Addr)
 |xd(fs:List (Str×V))
 |met(f x:Addr)
 |rng(lo hi:Int)
 |frz(o:Obj)(u:HO)
 |tbl(ps:Array Value)
 |ext(φ:Heap->Prop)
abbrev Hp:=Addr->Option HO
def upd(H:Hp)(a:Addr)(o:HO):Hp:=λb=>if b=a then some o else H b
theorem aC{H:Hp}{a:Addr}{o:HO}:upd H a o a=some o:=by unfold upd;rw[if_pos rfl]
theorem au{H:Hp}{a b:Addr}{o:HO}(h:b≠a):upd H a o b=H b:=by unfold upd;rw[if_neg h]
theorem KN{H:Hp}{a:Addr}{o u:HO}:upd (upd H a o) a u=upd H a u:=by
 funext b;unfold upd;split<;>rfl
theorem cE{H:Hp}{a b:Addr}{o:HO}(h:H a=some o)(h':H b=none):a≠b:=by
 intro e;subst e;rw[h]at h';cases h'
section
variable(P:Program)(w:World)
def N2(h:Heap)(a:Addr):Prop:=∃o,h.get? a=some o/\o.dict=none
def eQ(H:Hp)(h:Heap)(a:Addr):HO->Prop
 |.lst xs=>xs.length<=sizeLine/\∃(its:List Value) (n:Nat),Vals xs its/\h.get? a=some {cls:=.type "list",data:=.seq its.toArray n}
 |.tup xs=>(xs.length<=sizeLine/\N2 h a)/\∃its:List Value,Vals xs its/\IsTup h a its.toArray
 |.dK cW=>cW.length<=sizeLine/\(a==sysModules)=false/\∃vs,KV cW vs/\h.DictOf (De P w) a vs
 |.dT cW=>cW.length<=sizeLine/\(a==sysModules)=false/\∃xs:List (List Key×Addr×Value),
   Paired (λ(p:List Key×V) (q:List Key×Addr×Value)=>p.1=q.1/\H q.2.1=some (.tup (p.1.map kV))/\RelV p.2 q.2.2) cW xs/\
   ∃o es ep,h.get? a=some o/\o.ExactDict/\o.data=.dict es ep/\es.toList=xs.map (entryOfKey (tupleKind (De P w)))/\(xs.map (·.1)).Nodup
 |.set S n=>h.SetOf (intKind P w) a S n
 |.ins C dx fs=>H dx=some (.own a)/\fs.length<=1000/\dx≠a/\h.get? a=some (PySem.W.instObj C dx)/\
   ∃mA,h.Ns1 dx mA/\(∀f,tE (fs.lookup f) (mA f))/\PySem.Within mA (fs.map (·.1))
 |.own _=>∃o,h.get? a=some o
 |.xd fs=>∃mA,h.Ns1 a mA/\∀f,tE (fs.lookup f) (mA f)
 |.rng lo hi=>∃t u v,h.get? a=some {cls:=.type "range",data:=.fields #[.int lo t,.int hi u,.int 1 v]}
 |.frz o u=>h.get? a=some o/\eQ H h a u
 |.tbl ps=>h.get? a=some {cls:=.none,data:=.fields ps}
 |.met f x=>h.get? a=some (PySem.W.methodObj (.ref f) (.ref x))
 |.ext φ=>φ h/\(∃o,h.get? a=some o)/\∀h1 h2:Heap,φ h1->(∀o,h1.get? a=some o->h2.get? a=some o)->φ h2
def tF(H:Hp)(h:Heap):Prop:=∀a o,H a=some o->eQ P w H h a o
end
section
variable{P:Program}{w:World}{H H':Hp}{h h':Heap}{a:Addr}{o:HO}
theorem eQ.lt(x:eQ P w H h a o):a<h.objs.size:=by
 cases o with
 |lst xs=>obtain⟨_,_,_,_,e⟩:=x;exact z0A e
 |tup xs=>obtain⟨_,_,_,p⟩:=x;exact p.lt
 |dK cW=>obtain⟨_,_,_,_,o,_,_,e,_⟩:=x;exact z0A e
 |dT cW=>obtain⟨_,_,_,_,o,_,_,e,_⟩:=x;exact z0A e
 |set S n=>obtain⟨o,_,_,_,e,_⟩:=x;exact z0A e
 |ins C dx fs=>obtain⟨_,_,_,e,_⟩:=x;exact z0A e
 |own y=>obtain⟨_,e⟩:=x;exact z0A e
 |xd fs=>obtain⟨_,⟨_,_,_,e,_⟩,_⟩:=x;exact z0A e
 |rng lo hi=>obtain⟨_,_,_,e⟩:=x;exact z0A e
 |frz ob u=>obtain⟨e,_⟩:=x;exact z0A e
 |tbl ps=>exact z0A (show h.get? a=some _ from x)
 |met f y=>exact z0A (show h.get? a=some _ from x)
 |ext φ=>obtain⟨_,⟨_,e⟩,_⟩:=x;exact z0A e
theorem Paired.R3{α β:Type}{F G:α->β->Prop}:∀{l₁:List α} {l₂:List β},Paired F l₁ l₂->(∀a b,F a b->G a b)->Paired G l₁ l₂
 |_,_,.nil,_=>.nil
 |_,_,.cons r t,f=>.cons (f _ _ r) (Paired.R3 t f)
theorem eQ.oB(x:eQ P w H h a o)(k:∀b u,(b=a\/H b=some (.own a))->h.get? b=some u->h'.get? b=some u)
  (ho:∀b,H b=some (.own a)->H' b=some (.own a))(ht:∀b xs,H b=some (.tup xs)->H' b=some (.tup xs)):eQ P w H' h' a o:=by
 induction o with
 |lst xs=>obtain⟨z,its,n,r,e⟩:=x;exact⟨z,its,n,r,k _ _ (.inl rfl) e⟩
 |tup xs=>obtain⟨⟨z,od,ed,hd⟩,its,r,ob,e,c⟩:=x;exact⟨⟨z,od,k _ _ (.inl rfl) ed,hd⟩,its,r,ob,k _ _ (.inl rfl) e,c⟩
 |dK cW=>obtain⟨z,y,vs,r,ob,es,ep,e,c⟩:=x;exact⟨z,y,vs,r,ob,es,ep,k _ _ (.inl rfl) e,c⟩
 |dT cW=>
  obtain⟨z,y,xs,r,ob,es,ep,e,c⟩:=x
  exact⟨z,y,xs,Paired.R3 r λp q z=>⟨z.1,ht _ _ z.2.1,z.2.2⟩,ob,es,ep,k _ _ (.inl rfl) e,c⟩
 |set S n=>obtain⟨ob,es,ep,t,e,c⟩:=x;exact⟨ob,es,ep,t,k _ _ (.inl rfl) e,c⟩
 |ins C dx fs=>
  obtain⟨d,z,ne,e,mA,⟨od,es,ep,e2,c⟩,r⟩:=x
  exact⟨ho _ d,z,ne,k _ _ (.inl rfl) e,mA,⟨od,es,ep,k _ _ (.inr d) e2,c⟩,r⟩
 |own y=>obtain⟨ob,e⟩:=x;exact⟨ob,k _ _ (.inl rfl) e⟩
 |xd fs=>obtain⟨mA,⟨od,es,ep,e,c⟩,r⟩:=x;exact⟨mA,⟨od,es,ep,k _ _ (.inl rfl) e,c⟩,r⟩
 |rng lo hi=>obtain⟨t,u,v,e⟩:=x;exact⟨t,u,v,k _ _ (.inl rfl) e⟩
 |frz ob u ih=>obtain⟨e,q⟩:=x;exact⟨k _ _ (.inl rfl) e,ih q⟩
 |tbl ps=>
  have e:h.get? a=some {cls:=.none,data:=.fields ps}:=x
  show h'.get? a=some {cls:=.none,data:=.fields ps}
  exact k a _ (.inl rfl) e
 |met f y=>
  have e:h.get? a=some (PySem.W.methodObj (.ref f) (.ref y)):=x
  show h'.get? a=some (PySem.W.methodObj (.ref f) (.ref y))
  exact k a _ (.inl rfl) e
 |ext φ=>obtain⟨p,⟨o,e⟩,st⟩:=x;exact⟨st _ _ p λo q=>k _ _ (.inl rfl) q,⟨o,k _ _ (.inl rfl) e⟩,st⟩
theorem tF.lt(x:tF P w H h)(e:H a=some o):a<h.objs.size:=(x a o e).lt
theorem tF.fresh(x:tF P w H h)(e:h.objs.size<=a):H a=none:=by
 cases q:H a with
 |none=>rfl
 |some u=>exact absurd (z0I (x.lt q) e) (z0e _)
theorem tF.kept(x:tF P w H h)(k:∀b u,h.get? b=some u->h'.get? b=some u):tF P w H h':=λa o e=>
 (x a o e).oB (λb u _ q=>k b u q) (λ_ q=>q) λ_ _ q=>q
theorem tF.laid(x:tF P w H h)(k:∀b u,h.get? b=some u->h'.get? b=some u)(hp:h.objs.size<=a)(new:eQ P w (upd H a o) h' a o):tF P w (upd H a o) h':=λb u e=>by
 have hn:=x.fresh hp
 by_cases hb:b=a
 ·subst hb;rw[aC]at e;cases e;exact new
 ·rw[au hb]at e
  exact(x b u e).oB (λc v _ q=>k c v q) (λc q=>by rw[au (cE q hn)];exact q) λc xs q=>by rw[au (cE q hn)];exact q
end
def Rd(H:Hp)(a:Addr)(u:HO):Prop:=H a=some u\/∃o,H a=some (.frz o u)
theorem Rd.ok{P:Program}{w:World}{H:Hp}{h:Heap}{a:Addr}{u:HO}(r:Rd H a u)(x:tF P w H h):eQ P w H h a u:=by
 rcases r with r|⟨o,r⟩
 ·exact x a u r
 ·obtain⟨_,q⟩:=x a _ r
  exact q
def UW:Option HO->Prop
 |some (.lst _)=>True
 |some (.dK _)=>True
 |some (.dT _)=>True
 |some (.set _ _)=>True
 |some (.ins _ _ _)=>True
 |some (.ext _)=>True
 |_=>False
section
variable{P:Program}{w:World}{H:Hp}{h h':Heap}{x e:Addr}{o':HO}
theorem tF.write(ok:tF P w H h)(mu:UW (H x))(he:e=x\/H e=some (.own x))(k:∀b u,b≠e->h.get? b=some u->h'.get? b=some u)(Rx:∃u,h'.get? e=some u)
  (new:eQ P w (upd H x o') h' x o'):tF P w (upd H x o') h':=λb u q=>by
 have vY:∀c y,H c=some (.own y)->c≠x:=λc y r z=>by subst z;rw[r]at mu;exact mu
 have VH:∀c xs,H c=some (.tup xs)->c≠x:=λc xs r z=>by subst z;rw[r]at mu;exact mu
 by_cases hb:b=x
 ·subst hb;rw[aC]at q;cases q;exact new
 ·rw[au hb]at q
  by_cases N3:b=e
  ·have q':H b=some (.own x):=by
     rcases he with z|z
     ·exact absurd (N3.trans z) hb
     ·rw[N3];exact z
   rw[q]at q';cases q'
   obtain⟨v,hv⟩:=Rx
   exact⟨v,by rw[N3];exact hv⟩
  ·refine(ok b u q).oB (λc v hc r=>k c v ?_ r) (λc r=>by rw[au (vY c b r)];exact r) λc xs r=>by rw[au (VH c xs r)];exact r
   rcases hc with rfl|hc
   ·exact N3
   ·rintro rfl
    rcases he with z|z
    ·exact vY c b hc z
    ·rw[hc]at z;cases z;exact hb rfl
end
structure Un(fs ex:List Addr)(H H':Hp)(h h':Heap):Prop where
 keep:∀b o,h.get? b=some o->H b=none->b∉fs->b∉ex->h'.get? b=some o
 slot:∀b o,h.get? b=some o->H b=none->b∈fs->b∉ex->∃sl,h'.get? b=some {o with slots:=sl}
 free:∀b o,h.get? b=some o->H b=none->b∉ex->H' b=none
 there:∀b o,h.get? b=some o->b∉ex->∃o',h'.get? b=some o'
 o8:∀b xs,H b=some (.tup xs)->H' b=some (.tup xs)
 oC:∀b o u,H b=some (.frz o u)->H' b=some (.frz o u)
 qg:∀b ps,H b=some (.tbl ps)->∃more,H' b=some (.tbl (ps++more))
section
variable{fs Ku ex ex':List Addr}{H H1 H2:Hp}{h h1 h2 h':Heap}{a x e:Addr}{o:HO}
theorem Un.any(u:Un fs ex H H1 h h1){b:Addr}{ob:Obj}(q:h.get? b=some ob)(n:H b=none)(hx:b∉ex):∃sl,h1.get? b=some {ob with slots:=sl}:=by
 by_cases hb:b∈fs
 ·exact u.slot b ob q n hb hx
 ·exact⟨ob.slots,u.keep b ob q n hb hx⟩
theorem Un.kept(k:∀b u,h.get? b=some u->h'.get? b=some u):Un fs ex H H h h':=
 ⟨λb ob q _ _ _=>k b ob q,λb ob q _ _ _=>⟨ob.slots,k b ob q⟩,λ_ _ _ n _=>n,λb ob q _=>⟨ob,k b ob q⟩,λ_ _ q=>q,λ_ _ _ q=>q,λ_ ps q=>⟨#[],by rw[q];simp⟩⟩
theorem Un.refl:Un fs ex H H h h:=Un.kept λ_ _ q=>q
theorem Un.laid(k:∀b u,h.get? b=some u->h'.get? b=some u)(hp:h.objs.size<=a)(hn:H a=none):Un fs ex H (upd H a o) h h' where
 keep:=λb u q _ _ _=>k b u q
 slot:=λb u q _ _ _=>⟨u.slots,k b u q⟩
 free:=λb u q n _=>by rw[au (z0V (z0I (z0A q) hp))];exact n
 there:=λb u q _=>⟨u,k b u q⟩
 o8:=λb xs q=>by rw[au (cE q hn)];exact q
 oC:=λb u xs q=>by rw[au (cE q hn)];exact q
 qg:=λb ps q=>⟨#[],by rw[au (cE q hn),q];simp⟩
theorem Un.write(mu:UW (H x))(he:e=x\/H e=some (.own x))(k:∀b u,b≠e->h.get? b=some u->h'.get? b=some u)(Rx:∃u,h'.get? e=some u):Un fs ex H (upd H x o) h h':=by
 have hx:∀b,H b=none->b≠x:=λb n z=>by subst z;rw[n]at mu;exact mu
 have hb:∀b,H b=none->b≠e:=λb n z=>by
  subst z
  rcases he with r|r
  ·exact hx b n r
  ·rw[n]at r;cases r
 have hm:∀b u,H b=some u->¬UW (some u)->b≠x:=λb u q nm z=>by subst z;rw[q]at mu;exact nm mu
 refine⟨λb u q n _ _=>k b u (hb b n) q,λb u q n _ _=>⟨u.slots,k b u (hb b n) q⟩,λb u q n _=>by rw[au (hx b n)];exact n,λb u q _=>?_,
  λb xs q=>by rw[au (hm b _ q λz=>z)];exact q,λb u xs q=>by rw[au (hm b _ q λz=>z)];exact q,λb ps q=>⟨#[],by rw[au (hm b _ q λz=>z),q];simp⟩⟩
 by_cases N3:b=e
 ·subst N3;exact Rx
 ·exact⟨u,k b u N3 q⟩
end
def UX(h:Heap)(H:Hp):List Addr:=(List.range h.objs.size).filter λa=>(H a).isSome
def xK(h:Heap)(H:Hp):Heap:=PySem.W.hideAll h (UX h H)
theorem ER(h:Heap)(H:Hp):(xK h H).objs.size=h.objs.size:=PySem.W.hideAll_size _ _
theorem GD{h:Heap}{H:Hp}{b:Addr}{o:Obj}(e:h.get? b=some o)(n:H b=none):(xK h H).get? b=some o:=
 PySem.W.hideAll_get _ e λhm=>by
  have q:(H b).isSome=true:=(List.mem_filter.mp hm).2
  rw[n]at q;simp at q
theorem KO{h:Heap}{H:Hp}{b:Addr}{o:Obj}(e:(xK h H).get? b=some o):h.get? b=some o/\H b=none:=by
 have e':h.get? b=some o:=PySem.W.of_hideAll (UX h H) e
 refine⟨e',?_⟩
 cases q:H b with
 |none=>rfl
 |some x=>
  have hm:b∈UX h H:=List.mem_filter.mpr ⟨z0l.mpr (z0A e'),by simp[q]⟩
  have z:(xK h H).get? b=none:=PySem.W.hideAll_none (UX h H) hm
  rw[z]at e;cases e
structure Mod(K:PySem.W.Frag)(mg:Str->Option Value)(base:Heap):Prop where
 ES:K.In base
 glob:base.Ns mainGlobals mg
 blt:∃mb,base.Ns builtinsNs mb/\∀x:Str,x≠ "__name__" ->mb x=bootBuiltins x
 nolimit:base.NoLimit
structure Cx where
 prog:Program
 w:World
 K:PySem.W.Frag
 mg:Str->Option Value
 base:Heap
 A:Around
 N:List Str
 s₀:Shared
 H₀:Hp
 env:Env
 outer:List Env
 stack:List Env
 ex:List Addr
 fn:Str->Bool
 calm:Bool
 pn:List (Addr×Obj)
 xe:Value->Shared->Prop
def jq(l:List Env):List Addr:=l.filterMap (·.frame)
abbrev Cx.fs(X:Cx):List Addr:=jq X.outer
def uq(sc:Scope)(x:Str):Prop:=sc.names.lookup x=some .local\/sc.names.lookup x=some .cell\/sc.names.lookup x=some .free
def Loc(sc:Scope)(x:Str):Prop:=sc.names.lookup x=some .local\/sc.names.lookup x=some .cell
def Look(env:Env)(h:Heap)(m:Str->Option Value)(x:Str)(u:Value):Prop:=
 (env.kindOf x=some .local/\m x=some u)\/((env.kindOf x=some .cell\/env.kindOf x=some .free)/\∃c,env.cells.lookup x=some c/\h.IsCell c (some u))
structure Cx.Ok(X:Cx):Prop where
 mod:Mod X.K X.mg X.base
 kind:X.env.scope.kind=.function
 glob:X.env.globals=mainGlobals
 blt:X.env.builtins=builtinsNs
 above:X.s₀.heap.objs.size<=X.env.locals
 inj:∀x y c,X.env.cells.lookup x=some c->X.env.cells.lookup y=some c->x=y
 has:∀x,(X.env.kindOf x=some .cell\/X.env.kindOf x=some .free)->∃c,X.env.cells.lookup x=some c
 cab:∀x c,X.fn x=true->X.env.cells.lookup x=some c->X.s₀.heap.objs.size<=c
 hd:X.calm=true->X.A.handled=none
 frames:X.A.frames=some X.stack
 stk:X.stack=X.outer\/(X.stack=X.env::X.outer/\X.env.frame=some X.env.locals)
 exf:∀b∈X.ex,b≠X.env.locals/\∀x c,X.env.cells.lookup x=some c->c≠b
 bs:∀b o,X.base.get? b=some o->X.s₀.heap.get? b=some o/\X.H₀ b=none
 bsz:X.base.objs.size<=X.s₀.heap.objs.size
 noex:∀b o,X.base.get? b=some o->b∉X.ex
 exfs:∀b∈X.ex,b∉X.fs
 funs:X.s₀.heap.FunFrames X.base X.outer
 frf:∀b∈X.fs,X.H₀ b=none
structure Inv(X:Cx)(pins:List (Addr×Obj))(σ:List (Option V))(H:Hp)(s:Shared):Prop where
 ok:X.Ok
 os:s.os=X.s₀.os
 bare:AllBare s.gens
 base:Un X.fs X.ex X.H₀ H X.s₀.heap s.heap
 loc:∃m,s.heap.Ns X.env.locals m/\∀(i:Nat) (x:Str) (v:V),X.N[i]?=some x->σ[i]?=some (some v)->uq X.env.scope x->∃u,RelV v u/\Look X.env s.heap m x u
 cell:∀x c,X.env.cells.lookup x=some c->∃v,s.heap.IsCell c v
 free:H X.env.locals=none
 freeC:∀x c,X.env.cells.lookup x=some c->H c=none
 pin:∀p∈X.pn++pins,s.heap.get? p.1=some p.2/\H p.1=none/\p.1≠X.env.locals/\p.1∉X.fs/\∀v,p.2.data≠.cell v
 dU:tF X.prog X.w H s.heap
 len:σ.length=X.N.length
section
variable{X:Cx}{pins:List (Addr×Obj)}{σ:List (Option V)}{H H':Hp}{s:Shared}{h':Heap}
theorem Cx.Ok.VI(ok:X.Ok){b:Addr}{o:Obj}(e:X.base.get? b=some o):b∉X.fs:=λhb=>by
 have:=(ok.funs.mem hb).1
 rw[e]at this;cases this
theorem Inv.bs(I:Inv X pins σ H s):∀b o,X.base.get? b=some o->s.heap.get? b=some o/\H b=none:=λb o e=>
 ⟨I.base.keep b o (I.ok.bs b o e).1 (I.ok.bs b o e).2 (I.ok.VI e) (I.ok.noex b o e),I.base.free b o (I.ok.bs b o e).1 (I.ok.bs b o e).2 (I.ok.noex b o e)⟩
theorem Inv.bk(I:Inv X pins σ H s):∀b o,X.base.get? b=some o->s.heap.get? b=some o:=λb o e=>(I.bs b o e).1
theorem Inv.mod(I:Inv X pins σ H s):Mod X.K X.mg X.base:=I.ok.mod
theorem Inv.jc(I:Inv X pins σ H s):X.K.In s.heap:=I.ok.mod.ES.keeps I.bk
theorem Inv.lt(I:Inv X pins σ H s):X.env.locals<s.heap.objs.size:=let⟨_,hn,_⟩:=I.loc;hn.lt
theorem Inv.sz(I:Inv X pins σ H s):X.s₀.heap.objs.size<=s.heap.objs.size:=z0T I.ok.above (z2A I.lt)
theorem Inv.N4(I:Inv X pins σ H s){a:Addr}(h:s.heap.objs.size<=a):a∉X.fs:=λhb=>by
 obtain⟨_,o,ho,_⟩:=I.ok.funs.mem hb
 exact absurd (z0I (z0A ho) (z0T I.sz h)) (z0e _)
theorem Inv.KP(I:Inv X pins σ H s):∀x c,X.env.cells.lookup x=some c->c≠X.env.locals:=λx c e z=>by
 obtain⟨v,o,ho,hd⟩:=I.cell x c e
 obtain⟨m,⟨o',es,ep,N5,Bv,_⟩,_⟩:=I.loc
 rw[z,N5]at ho;cases ho;rw[Bv]at hd;cases hd
theorem Inv.funs(I:Inv X pins σ H s):s.heap.FunFrames X.base X.outer:=by
 have all:∀(l:List Env),(∀b∈jq l,b∈X.fs)->X.s₀.heap.FunFrames X.base l->s.heap.FunFrames X.base l:=by
  intro l
  induction l with
  |nil=>intro _ _;trivial
  |cons env r ih=>
   intro hs hl
   obtain⟨hk,⟨L,o,hf,hn,ho,hd⟩,hr⟩:=hl
   have hL:L∈X.fs:=hs L (by unfold jq;rw[z0m,hf];exact RF)
   obtain⟨sl,e⟩:=I.base.slot L o ho (I.ok.frf L hL) hL λz=>I.ok.exfs L z hL
   exact⟨hk,⟨L,_,hf,hn,e,hd⟩,ih (λb hb=>hs b (by unfold jq;rw[z0m,hf];exact X5 _ hb)) hr⟩
 exact all X.outer (λ_ hb=>hb) I.ok.funs
theorem Inv.stack(I:Inv X pins σ H s):s.heap.FunFrames X.base X.stack:=by
 rcases I.ok.stk with e|⟨e,hf⟩
 ·rw[e];exact I.funs
 ·rw[e]
  obtain⟨m,hn,_⟩:=I.loc
  refine .cons (by rw[I.ok.kind];decide) hf hn ?_ I.funs
  exact z1S (z0T I.ok.bsz I.ok.above)
theorem Inv.BB(I:Inv X pins σ H s):∀b∈jq X.stack,b∈X.env.locals::X.fs:=λb hb=>by
 rcases I.ok.stk with e|⟨e,hf⟩
 ·rw[e]at hb;exact X5 _ hb
 ·rw[e]at hb
  unfold jq at hb
  rw[z0m,hf]at hb
  exact hb
theorem Inv.qh(I:Inv X pins σ H s):∀b∈jq X.stack,H b=none:=λb hb=>by
 rcases z0N.mp (I.BB b hb)with e|hb
 ·rw[e];exact I.free
 ·obtain⟨_,o,ho,_⟩:=I.ok.funs.mem hb
  exact I.base.free b o ho (I.ok.frf b hb) λz=>I.ok.exfs b z hb
theorem Inv.step{g':Array GenState}{t':Nat}{d':Drawn}{ch:List Addr}(I:Inv X pins σ H s)
  (Kv:∀b∈ch,(b∈X.ex\/X.s₀.heap.objs.size<=b)/\b≠X.env.locals/\(∀x c,X.env.cells.lookup x=some c->c≠b)/\∀p∈X.pn++pins,p.1≠b)
  (keep:∀b o,b≠X.env.locals->b∉X.fs->b∉ch->s.heap.get? b=some o->H b=none->h'.get? b=some o)
  (slot:∀b o,b≠X.env.locals->b∈X.fs->b∉ch->s.heap.get? b=some o->H b=none->∃sl,h'.get? b=some {o with slots:=sl})(free:∀b o,b∉ch->s.heap.get? b=some o->H b=none->H' b=none)
  (there:∀b o,b∉ch->s.heap.get? b=some o->∃o',h'.get? b=some o')
  (o8:∀b xs,H b=some (.tup xs)->H' b=some (.tup xs))(oC:∀b o u,H b=some (.frz o u)->H' b=some (.frz o u))(qg:∀b ps,H b=some (.tbl ps)->∃more,H' b=some (.tbl (ps++more)))
  (ns:∀m,s.heap.Ns X.env.locals m->h'.Ns X.env.locals m)(dU:tF X.prog X.w H' h')(hg:AllBare g'):
  Inv X pins σ H' {s with heap:=h',gens:=g',drawn:=d',toks:=t'}:=by
 have XT:∀b o,X.s₀.heap.get? b=some o->b≠X.env.locals:=λb o e=>z0V (z0I (z0A e) I.ok.above)
 have UY:∀b o,X.s₀.heap.get? b=some o->b∉X.ex->b∉ch:=λb o e hx hb=>by
  rcases(Kv b hb).1 with z|z
  ·exact hx z
  ·exact absurd (z0I (z0A e) z) (z0e _)
 have cellK:∀x c,X.env.cells.lookup x=some c->∀v,s.heap.IsCell c v->h'.IsCell c v:=λx c e v ⟨o,ho,hd⟩=>by
  have R4:c∉ch:=λz=>(Kv c z).2.2.1 x c e rfl
  by_cases hc:c∈X.fs
  ·obtain⟨sl,q⟩:=slot c o (I.KP x c e) hc R4 ho (I.freeC x c e)
   exact⟨_,q,hd⟩
  ·exact⟨o,keep c o (I.KP x c e) hc R4 ho (I.freeC x c e),hd⟩
 refine⟨I.ok,I.os,hg,⟨λb o e n hb hx=>?_,λb o e n hb hx=>?_,λb o e n hx=>?_,λb o e hx=>?_,λb xs e=>o8 b xs (I.base.o8 b xs e),λb o xs e=>oC b o xs (I.base.oC b o xs e),λb ps e=>?_⟩,?_,λx c e=>?_,?_,λx c e=>?_,λp hp=>?_,dU,I.len⟩
 ·exact keep b o (XT b o e) hb (UY b o e hx) (I.base.keep b o e n hb hx) (I.base.free b o e n hx)
 ·obtain⟨sl,e1⟩:=I.base.slot b o e n hb hx
  obtain⟨KQ,e2⟩:=slot b _ (XT b o e) hb (UY b o e hx) e1 (I.base.free b o e n hx)
  exact⟨KQ,e2⟩
 ·obtain⟨o',e1⟩:=I.base.there b o e hx
  exact free b o' (UY b o e hx) e1 (I.base.free b o e n hx)
 ·obtain⟨o',e1⟩:=I.base.there b o e hx
  exact there b o' (UY b o e hx) e1
 ·obtain⟨m1,e1⟩:=I.base.qg b ps e
  obtain⟨m2,e2⟩:=qg b _ e1
  exact⟨m1++m2,by rw[e2,z1m]⟩
 ·obtain⟨m,hn,hl⟩:=I.loc
  refine⟨m,ns m hn,λi x v e1 e2 e3=>?_⟩
  obtain⟨u,r,l⟩:=hl i x v e1 e2 e3
  refine⟨u,r,?_⟩
  rcases l with l|⟨k,c,e,z⟩
  ·exact .inl l
  ·exact .inr ⟨k,c,e,cellK x c e _ z⟩
 ·obtain⟨v,z⟩:=I.cell x c e
  exact⟨v,cellK x c e v z⟩
 ·obtain⟨m,⟨o,_,_,ho,_⟩,_⟩:=I.loc
  exact free _ o (λz=>(Kv _ z).2.1 rfl) ho I.free
 ·obtain⟨v,o,ho,hd⟩:=I.cell x c e
  exact free c o (λz=>(Kv c z).2.2.1 x c e rfl) ho (I.freeC x c e)
 ·obtain⟨e,n,ne,nf,d⟩:=I.pin p hp
  have R4:p.1∉ch:=λz=>(Kv p.1 z).2.2.2 p hp rfl
  exact⟨keep p.1 p.2 ne nf R4 e n,free p.1 p.2 R4 e n,ne,nf,d⟩
theorem Inv.un{t':Nat}(I:Inv X pins σ H s)(u:Un X.fs [] H H' s.heap h')(dU:tF X.prog X.w H' h'):Inv X pins σ H' {s with heap:=h',toks:=t'}:=by
 obtain⟨m,⟨o,es,ep,ho,r⟩,_⟩:=id I.loc
 obtain⟨sl,hL⟩:=u.any ho I.free (by simp)
 exact I.step (g':=s.gens) (d':=s.drawn) (ch:=[]) (λ_ z=>nomatch z) (λb o _ hb _ e n=>u.keep b o e n hb (by simp)) (λb o _ hb _ e n=>u.slot b o e n hb (by simp)) (λb o _ e n=>u.free b o e n (by simp)) (λb o _ e=>u.there b o e (by simp)) u.o8 u.oC u.qg (λm' hm=>by
  obtain⟨o',VJ,VL,N5,r'⟩:=hm
  rw[ho]at N5;cases N5
  exact⟨_,VJ,VL,hL,r'⟩) dU I.bare
theorem Inv.call{g':Array GenState}{t':Nat}{d':Drawn}{ch:List Addr}(I:Inv X pins σ H s)(u:Un (jq X.stack) ch H H' s.heap h')(dU:tF X.prog X.w H' h')(hg:AllBare g')
  (Kv:∀b∈ch,(b∈X.ex\/X.s₀.heap.objs.size<=b)/\b≠X.env.locals/\(∀x c,X.env.cells.lookup x=some c->c≠b)/\∀p∈X.pn++pins,p.1≠b):
  Inv X pins σ H' {s with heap:=h',gens:=g',drawn:=d',toks:=t'}:=by
 obtain⟨m,⟨o,es,ep,ho,r⟩,_⟩:=id I.loc
 obtain⟨sl,hL⟩:=u.any ho I.free λz=>(Kv _ z).2.1 rfl
 exact I.step (ch:=ch) Kv (λb o hL hb hc e n=>u.keep b o e n (λz=>(z0N.mp (I.BB b z)).elim hL hb) hc) (λb o _ _ hc e n=>u.any e n hc) (λb o hc e n=>u.free b o e n hc) (λb o hc e=>u.there b o e hc) u.o8 u.oC u.qg (λm' hm=>by
  obtain⟨o',VJ,VL,N5,r'⟩:=hm
  rw[ho]at N5;cases N5
  exact⟨_,VJ,VL,hL,r'⟩) dU hg
theorem Inv.turned{t':Nat}{it:Addr}(I:Inv X pins σ H s)(k:∀b o,b≠it->s.heap.get? b=some o->h'.get? b=some o)(hn:H it=none)(hL:it≠X.env.locals)
  (h1:it∈X.ex\/X.s₀.heap.objs.size<=it)(h2:∀x c,X.env.cells.lookup x=some c->c≠it)(h3:∀p∈X.pn++pins,p.1≠it):Inv X pins σ H {s with heap:=h',toks:=t'}:=by
 have MU:∀b u,H b=some u->b≠it:=λb u e z=>by rw[z,hn]at e;cases e
 refine I.step (g':=s.gens) (d':=s.drawn) (ch:=[it]) (λb hb=>?_) (λb o _ _ hc e _=>k b o (λz=>hc (by simp[z])) e) (λb o _ _ hc e _=>⟨o.slots,k b o (λz=>hc (by simp[z])) e⟩) (λ_ _ _ _ n=>n)
  (λb o hc e=>⟨o,k b o (λz=>hc (by simp[z])) e⟩) (λ_ _ e=>e) (λ_ _ _ e=>e) (λb ps e=>⟨#[],by rw[e];simp⟩) (λm hm=>?_) (λb u e=>?_) I.bare
 ·have e:b=it:=by simpa using hb
  subst e
  exact⟨h1,hL,h2,h3⟩
 ·obtain⟨o,es,ep,ho,r⟩:=hm
  exact⟨o,es,ep,k _ o (Ne.symm hL) ho,r⟩
 ·refine(I.dU b u e).oB (λc v hc q=>k c v ?_ q) (λ_ q=>q) λ_ _ q=>q
  rcases hc with z|z
  ·rw[z];exact MU b u e
  ·exact MU c _ z
theorem Inv.tok(I:Inv X pins σ H s)(t:Nat):Inv X pins σ H {s with toks:=t}:=I.un (h':=s.heap) (t':=t) Un.refl I.dU
theorem Inv.kept{t':Nat}(I:Inv X pins σ H s)(k:∀b u,s.heap.get? b=some u->h'.get? b=some u):Inv X pins σ H {s with heap:=h',toks:=t'}:=I.un (Un.kept k) (I.dU.kept k)
theorem Inv.laid{a:Addr}{o:HO}{t':Nat}(I:Inv X pins σ H s)(k:∀b u,s.heap.get? b=some u->h'.get? b=some u)(hp:s.heap.objs.size<=a)(new:eQ X.prog X.w (upd H a o) h' a o):
 Inv X pins σ (upd H a o) {s with heap:=h',toks:=t'}:=I.un (Un.laid k hp (I.dU.fresh hp)) (I.dU.laid k hp new)
theorem Inv.write{x e:Addr}{o:HO}{t':Nat}(I:Inv X pins σ H s)(mu:UW (H x))(he:e=x\/H e=some (.own x))(k:∀b u,b≠e->s.heap.get? b=some u->h'.get? b=some u)(Rx:∃u,h'.get? e=some u)
 (new:eQ X.prog X.w (upd H x o) h' x o):Inv X pins σ (upd H x o) {s with heap:=h',toks:=t'}:=I.un (Un.write mu he k Rx) (I.dU.write mu he k Rx new)
theorem Inv.weak{σ':List (Option V)}(I:Inv X pins σ H s)(hl:σ'.length=σ.length)(w:∀(i:Nat) v,σ'[i]?=some (some v)->σ[i]?=some (some v)):Inv X pins σ' H s:=
 ⟨I.ok,I.os,I.bare,I.base,let⟨m,hn,VM⟩:=I.loc;⟨m,hn,λi x v e1 e2 e3=>VM i x v e1 (w i v e2) e3⟩,I.cell,I.free,I.freeC,I.pin,I.dU,hl.trans I.len⟩
theorem Inv.tS{qi:List (Addr×Obj)}(I:Inv X pins σ H s)(h:∀p∈qi,s.heap.get? p.1=some p.2/\H p.1=none/\p.1≠X.env.locals/\p.1∉X.fs/\∀v,p.2.data≠.cell v):Inv X qi σ H s:=
 ⟨I.ok,I.os,I.bare,I.base,I.loc,I.cell,I.free,I.freeC,λp hp=>(z0L.mp hp).elim (λz=>I.pin p (z09 _ z)) (h p),I.dU,I.len⟩
theorem ur{N:List Str}(hN:N.Nodup){i j:Nat}{x:Str}(a:N[i]?=some x)(b:N[j]?=some x):i=j:=by
 obtain⟨h1,e1⟩:=z0C.mp a
 obtain⟨h2,e2⟩:=z0C.mp b
 exact(List.getElem_inj hN).mp (e1.trans e2.symm)
theorem wC{M:Model}{A:Around}{E:Value->Shared->Prop}{i:Nat}{x:Str}{v:V}{u:Value}{Q:Unit->Shared->Prop}(I:Inv X pins σ H s)(hN:X.N.Nodup)(hi:X.N[i]?=some x)(hx:Loc X.env.scope x)(r:RelV v u)
  (h:∀s',Inv X pins (σ.set i (some v)) H s'->(∃a,Heap.SameBut a s.heap s'.heap/\(a=X.env.locals\/X.env.cells.lookup x=some a))->Q () s')(hf:X.fn x=true\/X.env.scope.names.lookup x=some .local:=by first|exact .inl rfl|exact .inr rfl|assumption):wpAny M A (storeName X.env x u) Q E s:=by
 obtain⟨m,hn,hl⟩:=id I.loc
 have VN:(X.env.scope.kind==.class||(X.env.scope.kind==.module&&X.env.locals !=X.env.globals))=false:=by rw[I.ok.kind];rfl
 have XU:i<σ.length:=by rw[I.len];exact(z0C.mp hi).1
 have KP:=I.KP
 have tracked:∀{a:Addr} {h':Heap},(∃o,s.heap.get? a=some o/\H a=none)->Heap.SameBut a s.heap h'->tF X.prog X.w H h':=λ{a h'} ha hs b ob e=>by
  obtain⟨_,_,qj⟩:=ha
  refine(I.dU b ob e).oB (λc w' hc q=>(hs.2 c ?_).trans q) (λ_ q=>q) λ_ _ q=>q
  rintro rfl
  rcases hc with rfl|hc
  ·rw[qj]at e;cases e
  ·rw[qj]at hc;cases hc
 rcases hx with hk|hk
 ·refine wpAny_storeName_local hk hn (λh' N6 hs=>?_) VN
  obtain⟨oL,_,_,Zc,_⟩:=id hn
  refine h _ ⟨I.ok,I.os,I.bare,⟨λb o e n hb hx=>?_,λb o e n hb hx=>?_,I.base.free,λb o e hx=>?_,I.base.o8,I.base.oC,I.base.qg⟩,⟨_,N6,λj y v' e1 e2 e3=>?_⟩,λy c e=>?_,I.free,I.freeC,λp hp=>?_,tracked ⟨oL,Zc,I.free⟩ hs,by simpa using I.len⟩ ⟨_,hs,.inl rfl⟩
  ·exact(hs.2 b (z0V (z0I (z0A e) I.ok.above))).trans (I.base.keep b o e n hb hx)
  ·obtain⟨sl,e1⟩:=I.base.slot b o e n hb hx
   exact⟨sl,(hs.2 b (z0V (z0I (z0A e) I.ok.above))).trans e1⟩
  ·obtain⟨o',e1⟩:=I.base.there b o e hx
   exact⟨o',(hs.2 b (z0V (z0I (z0A e) I.ok.above))).trans e1⟩
  ·by_cases hj:j=i
   ·subst hj
    rw[hi]at e1;cases e1
    rw[z1X XU]at e2
    cases e2
    exact⟨u,r,.inl ⟨hk,by simp⟩⟩
   ·rw[z0g (Ne.symm hj)]at e2
    obtain⟨u',r',q⟩:=hl j y v' e1 e2 e3
    refine⟨u',r',?_⟩
    rcases q with⟨k,e⟩|⟨k,c,e,z⟩
    ·refine .inl ⟨k,?_⟩
     have:y≠x:=λe=>hj (ur hN e1 (e▸hi))
     simp[this,e]
    ·exact .inr ⟨k,c,e,z.sameBut hs (KP y c e)⟩
  ·obtain⟨w',z⟩:=I.cell y c e
   exact⟨w',z.sameBut hs (KP y c e)⟩
  ·obtain⟨e,n,ne,nf,d⟩:=I.pin p hp
   exact⟨(hs.2 p.1 ne).trans e,n,ne,nf,d⟩
 ·have N7:X.fn x=true:=by
    rcases hf with z|z
    ·exact z
    ·rw[z]at hk;cases hk
  obtain⟨c,hc⟩:=I.ok.has x (.inl hk)
  obtain⟨w',z⟩:=I.cell x c hc
  refine wpAny_storeName_cell I.ok.kind hk hc z (λh' Ry hs=>?_)
  obtain⟨oc,XW,VO⟩:=id z
  refine h {s with heap:=h'} ⟨I.ok,I.os,I.bare,⟨λb o e n hb hx=>?_,λb o e n hb hx=>?_,I.base.free,λb o e hx=>?_,I.base.o8,I.base.oC,I.base.qg⟩,⟨m,hn.sameBut hs (Ne.symm (KP x c hc)),λj y v' e1 e2 e3=>?_⟩,λy c' e=>?_,I.free,I.freeC,λp hp=>?_,tracked ⟨oc,XW,I.freeC x c hc⟩ hs,by simpa using I.len⟩ ⟨c,hs,.inr hc⟩
  ·exact(hs.2 b (z0V (z0I (z0A e) (I.ok.cab x c N7 hc)))).trans (I.base.keep b o e n hb hx)
  ·obtain⟨sl,e1⟩:=I.base.slot b o e n hb hx
   exact⟨sl,(hs.2 b (z0V (z0I (z0A e) (I.ok.cab x c N7 hc)))).trans e1⟩
  ·obtain⟨o',e1⟩:=I.base.there b o e hx
   exact⟨o',(hs.2 b (z0V (z0I (z0A e) (I.ok.cab x c N7 hc)))).trans e1⟩
  ·by_cases hj:j=i
   ·subst hj
    rw[hi]at e1;cases e1
    rw[z1X XU]at e2
    cases e2
    exact⟨u,r,.inr ⟨.inl hk,c,hc,Ry⟩⟩
   ·rw[z0g (Ne.symm hj)]at e2
    obtain⟨u',r',q⟩:=hl j y v' e1 e2 e3
    refine⟨u',r',?_⟩
    rcases q with q|⟨k,c',e,z'⟩
    ·exact .inl q
    ·refine .inr ⟨k,c',e,z'.sameBut hs ?_⟩
     rintro rfl
     exact hj (ur hN e1 (I.ok.inj _ _ _ e hc▸hi))
  ·by_cases Rz:c'=c
   ·subst Rz;exact⟨_,Ry⟩
   ·obtain⟨w2,z2⟩:=I.cell y c' e
    exact⟨w2,z2.sameBut hs Rz⟩
  ·obtain⟨e,n,ne,nf,d⟩:=I.pin p hp
   refine⟨(hs.2 p.1 ?_).trans e,n,ne,nf,d⟩
   intro q
   rw[q,XW]at e
   have q':oc=p.2:=z0O e
   exact d w' (by rw[<-q'];exact VO)
theorem kL{M:Model}{A:Around}{E:Value->Shared->Prop}{i:Nat}{x:Str}{v:V}{u:Value}{Q:Unit->Shared->Prop}(I:Inv X pins σ H s)(hN:X.N.Nodup)(hi:X.N[i]?=some x)(hx:Loc X.env.scope x)(r:RelV v u)
  (h:∀s',Inv X pins (σ.set i (some v)) H s'->Q () s')(hf:X.fn x=true\/X.env.scope.names.lookup x=some .local:=by first|exact .inl rfl|exact .inr rfl|assumption):wpAny M A (storeName X.env x u) Q E s:=
 wC I hN hi hx r (λs' I' _=>h s' I') hf
theorem Inv.MV{s':Shared}{ch:List Addr}(I:Inv X pins σ H s)(ho:s'.os=s.os)(u:Un (jq X.stack) ch H H' s.heap s'.heap)(dU:tF X.prog X.w H' s'.heap)(hg:AllBare s'.gens)
  (Kv:∀b∈ch,(b∈X.ex\/X.s₀.heap.objs.size<=b)/\b≠X.env.locals/\(∀x c,X.env.cells.lookup x=some c->c≠b)/\∀p∈X.pn++pins,p.1≠b):Inv X pins σ H' s':=by
 obtain⟨h',g',d',t',o'⟩:=s'
 have e:o'=s.os:=ho
 subst e
 exact I.call (g':=g') (t':=t') (d':=d') u dU hg Kv
end
abbrev XK:=Value->Option Addr->Hp->Prop
abbrev St:=List (Option V)
abbrev VK:=V->Hp->Prop
abbrev TE:=St->Hp->VK->Prop
abbrev TT:=St->Hp->(Bool->Hp->Prop)->Prop
abbrev TA:=St->Hp->(List V->Hp->Prop)->Prop
structure Ends where
 nx:St->Hp->Prop
 rt:VK
 bk:St->Hp->Prop:=λ_ _=>False
 ct:St->Hp->Prop:=λ_ _=>False
abbrev TS:=Ends->St->Hp->Prop
def EP(X:Cx)(pins:List (Addr×Obj))(σ:St)(Q:VK)(u:Value)(s':Shared):Prop:=∃v H',Inv X pins σ H' s'/\RelV v u/\Q v H'
def TP(X:Cx)(pins:List (Addr×Obj))(σ:St)(Q:Bool->Hp->Prop)(b:Bool)(s':Shared):Prop:=∃H',Inv X pins σ H' s'/\Q b H'
def AP(X:Cx)(pins:List (Addr×Obj))(σ:St)(Q:List V->Hp->Prop)(us:List Value)(s':Shared):Prop:=∃vs H',Inv X pins σ H' s'/\Vals vs us/\Q vs H'
def SP(X:Cx)(pins:List (Addr×Obj))(D:Ends)(f:Flow)(s':Shared):Prop:=
 match f with
 |.next=>∃σ' H',Inv X pins σ' H' s'/\D.nx σ' H'
 |.brk=>∃σ' H',Inv X pins σ' H' s'/\D.bk σ' H'
 |.cont=>∃σ' H',Inv X pins σ' H' s'/\D.ct σ' H'
 |.ret u=>∃v σ' H',Inv X pins σ' H' s'/\RelV v u/\D.rt v H'
def PE(X:Cx)(e:Expr)(t:TE):Prop:=
 ∀(pins:List (Addr×Obj)) (s:Shared) (σ:St) (H:Hp) (Q:VK),Inv X pins σ H s->t σ H Q->wpAny (model X.prog X.w) X.A (eval e X.env) (EP X pins σ Q) X.xe s
def PT(X:Cx)(e:Expr)(t:TT):Prop:=
 ∀(pins:List (Addr×Obj)) (s:Shared) (σ:St) (H:Hp) (Q:Bool->Hp->Prop),Inv X pins σ H s->t σ H Q->wpAny (model X.prog X.w) X.A (isTrue e X.env (eval e X.env)) (TP X pins σ Q) X.xe s
def PW(X:Cx)(e:Expr)(t:TT):Prop:=
 ∀(whole:Sem Value) (pins:List (Addr×Obj)) (s:Shared) (σ:St) (H:Hp) (Q:Bool->Hp->Prop),Inv X pins σ H s->t σ H Q->wpAny (model X.prog X.w) X.A (isTrue e X.env whole) (TP X pins σ Q) X.xe s
theorem PW.pt{X:Cx}{e:Expr}{t:TT}(h:PW X e t):PT X e t:=h _
def PA(X:Cx)(es:List Expr)(t:TA):Prop:=
 ∀(pos:Pos) (pins:List (Addr×Obj)) (s:Shared) (σ:St) (H:Hp) (Q:List V->Hp->Prop),Inv X pins σ H s->t σ H Q->wpAny (model X.prog X.w) X.A (spliced (backTo pos (starEach es X.env))) (AP X pins σ Q) X.xe s
def PS(X:Cx)(st:Stmt)(t:TS):Prop:=
 ∀(pins:List (Addr×Obj)) (s:Shared) (σ:St) (H:Hp) (D:Ends),Inv X pins σ H s->t D σ H->wpAny (model X.prog X.w) X.A (exec st X.env) (SP X pins D) X.xe s
def xM(X:Cx)(st:List Stmt)(t:TS):Prop:=
 ∀(pins:List (Addr×Obj)) (s:Shared) (σ:St) (H:Hp) (D:Ends),Inv X pins σ H s->t D σ H->wpAny (model X.prog X.w) X.A (execs st X.env) (SP X pins D) X.xe s
theorem dN{α:Type}{t:Sem α}{Q Q':α->Shared->Prop}{M:Model}{A:Around}{E:Value->Shared->Prop}{s:Shared}(h:wpAny M A t Q E s)(hQ:∀a s,Q a s->Q' a s):wpAny M A t Q' E s:=wpAny_mono h hQ λ_ _ x=>x
section
variable{X:Cx}
def fR(i:Nat):TE:=λσ H Q=>∃v,σ[i]?=some (some v)/\Q v H
def tC(v:V):TE:=λ_ H Q=>Q v H
theorem dm{i:Nat}{x:Str}{pos:Pos}(hN:X.N[i]?=some x)(hv:uq X.env.scope x)(hd:(x==("__debug__" :Str))=false:=by decide)(j0:(x==("__classdict__" :Str))=false:=by decide):PE X (.Name x pos) (fR i):=by
 intro pins s σ H Q I h
 obtain⟨v,e,h⟩:=h
 obtain⟨m,hn,hl⟩:=I.loc
 obtain⟨u,r,l⟩:=hl i x v hN e hv
 have fin:EP X pins σ Q u s:=⟨v,H,I,r,h⟩
 rcases l with⟨hk,hm⟩|⟨hk,c,hc,Df⟩
 ·exact wpAny_Name (wpAny_loadName_local I.ok.kind hk hn hm fin) hd
 ·rcases hk with hk|hk
  ·exact wpAny_Name (wpAny_loadName_cell I.ok.kind hk hc Df fin) hd
  ·exact wpAny_Name (wpAny_loadName_free I.ok.kind hk hc Df fin j0) hd
theorem BC{i j pos}:PE X (.Constant (.int i) j pos) (tC (.int i)):=λ_ _ _ H _ I h=>wpAny_Constant_int ⟨.int i,H,I.tok _,⟨_,rfl⟩,h⟩
theorem R5{b j pos}:PE X (.Constant (.bool b) j pos) (tC (.bl b)):=λ_ _ _ H _ I h=>Constant_bool ⟨.bl b,H,I,rfl,h⟩
theorem xN{j pos}:PE X (.Constant .none j pos) (tC .non):=λ_ _ _ H _ I h=>Constant_none ⟨.non,H,I,rfl,h⟩
theorem uw{x j pos}:PE X (.Constant (.str x) j pos) (tC (.str x)):=λ_ _ _ H _ I h=>Calls.Constant_str ⟨.str x,H,I.tok _,⟨_,rfl⟩,h⟩
def Gl(X:Cx)(x:Str):Prop:=X.env.kindOf x=some .globalImplicit
theorem j3{E:Value->Shared->Prop}{pins:List (Addr×Obj)}{s:Shared}{σ:St}{H:Hp}{x:Str}{u:Value}{pos:Pos}{Q:Value->Shared->Prop}(I:Inv X pins σ H s)(hg:Gl X x)(hm:X.mg x=some u)(h:Q u s)
  (hd:(x==("__debug__" :Str))=false:=by decide):wpAny (model X.prog X.w) X.A (eval (.Name x pos) X.env) Q E s:=
 Calls.Name_function_global I.ok.kind hg (Calls.loadGlobal_global (by rw[I.ok.glob];exact I.mod.glob.keeps I.bk) hm h) hd
theorem ux{E:Value->Shared->Prop}{pins:List (Addr×Obj)}{s:Shared}{σ:St}{H:Hp}{x:Str}{u:Value}{pos:Pos}{Q:Value->Shared->Prop}(I:Inv X pins σ H s)(hg:Gl X x)(hm:X.mg x=none)(hv:bootBuiltins x=some u)(h:Q u s)
  (hn:x≠ "__name__" :=by decide)(hd:(x==("__debug__" :Str))=false:=by decide):wpAny (model X.prog X.w) X.A (eval (.Name x pos) X.env) Q E s:=by
 obtain⟨mb,h1,h2⟩:=I.mod.blt
 exact Calls.Name_function_global I.ok.kind hg (Calls.loadGlobal_builtin (by rw[I.ok.glob];exact I.mod.glob.keeps I.bk) hm (by rw[I.ok.blt];exact h1.keeps I.bk) ((h2 x hn).trans hv) h) hd
theorem oi{x:Str}{v:V}{u:Value}{pos:Pos}(hg:Gl X x)(hm:X.mg x=some u)(r:RelV v u)(hd:(x==("__debug__" :Str))=false:=by decide):PE X (.Name x pos) (tC v):=
 λ_ _ _ H _ I h=>j3 I hg hm ⟨v,H,I,r,h⟩ hd
theorem Dg{x:Str}{v:V}{u:Value}{pos:Pos}(hg:Gl X x)(hm:X.mg x=none)(hv:bootBuiltins x=some u)(r:RelV v u)(hn:x≠ "__name__" :=by decide)(hd:(x==("__debug__" :Str))=false:=by decide):PE X (.Name x pos) (tC v):=
 λ_ _ _ H _ I h=>ux I hg hm hv ⟨v,H,I,r,h⟩ hn hd
variable{a b:Expr}{ta tb:TE}{pos:Pos}
def PC(X:Cx)(op:CmpOp)(a b:Expr)(t:TE):Prop:=
 ∀(pins:List (Addr×Obj)) (s:Shared) (σ:St) (H:Hp) (Q:VK),Inv X pins σ H s->t σ H Q->
  wpAny (model X.prog X.w) X.A (eval a X.env) (λv s₁=>wpAny (model X.prog X.w) X.A (eval b X.env) (λu s₂=>wpAny (model X.prog X.w) X.A (compareOp op v u) (EP X pins σ Q) X.xe s₂) X.xe s₁) X.xe s
theorem GF(b:Expr){op:CmpOp}(h:op≠.In)(h2:op≠.NotIn):behindInMarks op b=false:=by
 have e1:(op==CmpOp.In)=false:=by cases op<;>first|rfl|exact absurd rfl h
 have e2:(op==CmpOp.NotIn)=false:=by cases op<;>first|rfl|exact absurd rfl h2
 cases b<;>simp[behindInMarks,e1,e2]
def R6(ta:TE):TE:=λσ H Q=>ta σ H λx H1=>Q (.bl (decide (x=.non))) H1
theorem RelV.GG{x:V}{v:Value}(r:RelV x v):(v==Value.none)=decide (x=.non):=by
 cases x with
 |non=>cases r;rfl
 |bl _=>cases r;rfl
 |int _=>obtain⟨t,rfl⟩:=r;rfl
 |str _=>obtain⟨t,rfl⟩:=r;rfl
 |byt _=>obtain⟨t,rfl⟩:=r;rfl
 |flt _=>obtain⟨t,rfl⟩:=r;rfl
 |ref _=>cases r;rfl
 |ty _=>cases r;rfl
theorem N8{j pos'}(ha:PE X a ta):PC X .Is a (.Constant .none j pos') (R6 ta):=by
 intro pins s σ H Q I h
 refine dN (ha pins s σ H _ I h) λv s1 cZ=>?_
 obtain⟨x,H1,I1,r1,q1⟩:=cZ
 exact Constant_none (is_none_gen ⟨.bl _,H1,I1,by rw[r1.GG];rfl,q1⟩)
def tB(t:TE):TT:=λσ H Q=>t σ H λx H1=>∃c,x=.bl c/\Q c H1
theorem N9{op:CmpOp}{t:TE}(h:PC X op a b t)(h1:behindInMarks op b=false:=by first|exact GF _ (by decide) (by decide)|rfl):PT X (.Compare a [op] [b] pos) (tB t):=by
 intro pins s σ H Q I hw
 refine wpAny_isTrue_Compare1 (dN (h pins s σ H _ I hw) λv s1 h1=>dN h1 λu s2 h2=>dN h2 λc s3 cZ=>?_) h1
 obtain⟨x,H1,I1,r1,q1⟩:=cZ
 obtain⟨d,rfl,q⟩:=q1
 cases r1
 exact wpAny_truthy_bool ⟨H1,I1,q⟩
theorem BD{e:Expr}{t:TE}(h:PE X e t)(he:∀whole,isTrue e X.env whole=(do let v<-whole;standAt e.pos;holding [v] (truthy v)):=by intro _;rfl):PT X e (tB t):=by
 intro pins s σ H Q I hw
 refine isTrue_plain (dN (h pins s σ H _ I hw) λv s1 cZ=>?_) (he _)
 obtain⟨x,H1,I1,r1,q1⟩:=cZ
 obtain⟨d,rfl,q⟩:=q1
 cases r1
 exact wpAny_truthy_bool ⟨H1,I1,q⟩
variable{tA UZ:TT}{rest:List Expr}
def rH(t u:TT):TT:=λσ H Q=>t σ H λc H1=>if c=true then u σ H1 Q else Q false H1
def xO(t u:TT):TT:=λσ H Q=>t σ H λc H1=>if c=true then Q true H1 else u σ H1 Q
def vZ(t:TT):TT:=λσ H Q=>t σ H λc H1=>Q (!c) H1
theorem pw_and1(ha:PT X a tA):PW X (.BoolOp .And [a] pos) tA:=by
 intro wh pins s σ H Q I h
 refine isTrue_and (dN (ha pins s σ H Q I h) λc s1 e=>?_)
 cases c with
 |true=>exact isTrue_and_nil e
 |false=>exact e
theorem pw_or1(ha:PT X a tA):PW X (.BoolOp .Or [a] pos) tA:=by
 intro wh pins s σ H Q I h
 refine isTrue_or (dN (ha pins s σ H Q I h) λc s1 e=>?_)
 cases c with
 |false=>exact isTrue_or_nil e
 |true=>exact e
theorem pw_and(ha:PT X a tA)(hb:PW X (.BoolOp .And (b::rest) pos) UZ):PW X (.BoolOp .And (a::b::rest) pos) (rH tA UZ):=by
 intro wh pins s σ H Q I h
 refine isTrue_and (dN (ha pins s σ H _ I h) λc s1 ⟨H1,I1,q1⟩=>?_)
 cases c with
 |true=>exact hb wh pins s1 σ H1 Q I1 q1
 |false=>exact⟨H1,I1,q1⟩
theorem pw_or(ha:PT X a tA)(hb:PW X (.BoolOp .Or (b::rest) pos) UZ):PW X (.BoolOp .Or (a::b::rest) pos) (xO tA UZ):=by
 intro wh pins s σ H Q I h
 refine isTrue_or (dN (ha pins s σ H _ I h) λc s1 ⟨H1,I1,q1⟩=>?_)
 cases c with
 |true=>exact⟨H1,I1,q1⟩
 |false=>exact hb wh pins s1 σ H1 Q I1 q1
theorem GH(ha:PT X a tA):PT X (.UnaryOp .Not a pos) (vZ tA):=by
 intro pins s σ H Q I h
 exact isTrue_not (ha pins s σ H (λc H1=>Q (!c) H1) I h)
def MW(ta tb:TE):TE:=λσ H Q=>ta σ H λx H1=>∃c,x=.bl c/\if c=true then tb σ H1 Q else Q (.bl false) H1
def VP(ta tb:TE):TE:=λσ H Q=>ta σ H λx H1=>∃c,x=.bl c/\if c=true then Q (.bl true) H1 else tb σ H1 Q
def R7(ta:TE):TE:=λσ H Q=>ta σ H λx H1=>∃c,x=.bl c/\Q (.bl (!c)) H1
theorem GI{op}{t:TE}(h:PE X a t):PE X (.BoolOp op [a] pos) t:=λpins s σ H Q I hw=>BoolOp_one (h pins s σ H Q I hw)
theorem GJ(ha:PE X a ta)(hb:PE X (.BoolOp .And (b::rest) pos) tb):PE X (.BoolOp .And (a::b::rest) pos) (MW ta tb):=by
 intro pins s σ H Q I h
 refine BoolOp_and (dN (ha pins s σ H _ I h) λv s1 cZ=>?_)
 obtain⟨x,H1,I1,r1,q1⟩:=cZ
 obtain⟨c,rfl,q1⟩:=q1
 cases r1
 refine wpAny_truthy_bool ?_
 cases c with
 |true=>exact hb pins s1 σ H1 Q I1 q1
 |false=>exact⟨.bl false,H1,I1,rfl,q1⟩
theorem R8(ha:PE X a ta)(hb:PE X (.BoolOp .Or (b::rest) pos) tb):PE X (.BoolOp .Or (a::b::rest) pos) (VP ta tb):=by
 intro pins s σ H Q I h
 refine BoolOp_or (dN (ha pins s σ H _ I h) λv s1 cZ=>?_)
 obtain⟨x,H1,I1,r1,q1⟩:=cZ
 obtain⟨c,rfl,q1⟩:=q1
 cases r1
 refine wpAny_truthy_bool ?_
 cases c with
 |false=>exact hb pins s1 σ H1 Q I1 q1
 |true=>exact⟨.bl true,H1,I1,rfl,q1⟩
theorem Oa(ha:PE X a ta):PE X (.UnaryOp .Not a pos) (R7 ta):=by
 intro pins s σ H Q I h
 refine UnaryOp_ (dN (ha pins s σ H _ I h) λv s1 cZ=>?_)
 obtain⟨x,H1,I1,r1,q1⟩:=cZ
 obtain⟨c,rfl,q1⟩:=q1
 cases r1
 exact not_of (wpAny_truthy_bool ⟨.bl (!c),H1,I1,rfl,q1⟩)
end
def mK(K:PySem.W.Frag)(H:Hp)(a:Addr)(xs:List V):Prop:=
 Rd H a (.lst xs)\/
  ∃(o:Obj) (its:Array Value) (n:Nat),K.lookup a=some o/\o.cls=.type "list" /\o.dict=none/\o.data=.seq its n/\its.size<=sizeLine/\Vals xs its.toList
def kM(K:PySem.W.Frag)(H:Hp)(a:Addr)(xs:List V):Prop:=
 Rd H a (.tup xs)\/
  ∃(o:Obj) (its:Array Value) (n:Nat),K.lookup a=some o/\o.cls=.type "tuple" /\o.data=.seq its n/\(its.size<=sizeLine/\o.dict=none)/\Vals xs its.toList
def VQ:Value->Option V
 |.none=>some .non
 |.bool b=>some (.bl b)
 |.int i _=>some (.int i)
 |.str x _=>some (.str x)
 |.bytes b _=>some (.byt b)
 |.float b _=>some (.flt b)
 |.ref a=>some (.ref a)
 |.type n=>some (.ty n)
 |_=>none
theorem RelV.abs{x:V}{u:Value}(r:RelV x u):VQ u=some x:=by
 cases x with
 |non=>cases r;rfl
 |bl _=>cases r;rfl
 |int _=>obtain⟨t,rfl⟩:=r;rfl
 |str _=>obtain⟨t,rfl⟩:=r;rfl
 |byt _=>obtain⟨t,rfl⟩:=r;rfl
 |flt _=>obtain⟨t,rfl⟩:=r;rfl
 |ref _=>cases r;rfl
 |ty _=>cases r;rfl
theorem RelV.inj{x y:V}{u:Value}(r:RelV x u)(q:RelV y u):x=y:=z0O (r.abs.symm.trans q.abs)
theorem Vals.inj:∀{xs ys:List V} {us:List Value},Vals xs us->Vals ys us->xs=ys
 |_,_,_,.nil,.nil=>rfl
 |_,_,_,.cons r t,.cons r' t'=>by rw[r.inj r',Vals.inj t t']
section
variable{X:Cx}{pins:List (Addr×Obj)}{σ:St}{H:Hp}{s:Shared}{a:Addr}{xs ys:List V}
theorem mK.of{K:PySem.W.Frag}(h:H a=some (.lst xs)):mK K H a xs:=.inl (.inl h)
theorem kM.of{K:PySem.W.Frag}(h:H a=some (.tup xs)):kM K H a xs:=.inl (.inl h)
theorem Inv.list(I:Inv X pins σ H s)(h:mK X.K H a xs):∃its:List Value,Vals xs its/\PlainL s.heap a its.toArray/\xs.length<=sizeLine:=by
 rcases h with h|⟨o,its,n,hk,hc,hd,hs,hz,r⟩
 ·obtain⟨z,its,n,r,e⟩:=h.ok I.dU
  exact⟨its,r,⟨_,n,e,rfl,rfl,rfl⟩,z⟩
 ·refine⟨its.toList,r,⟨o,n,I.jc a o hk,hc,hd,by simpa using hs⟩,?_⟩
  have e:=r.length
  simp only[SR]at e
  omega
theorem Inv.tuple(I:Inv X pins σ H s)(h:kM X.K H a xs):∃its:List Value,Vals xs its/\IsTup s.heap a its.toArray/\xs.length<=sizeLine:=by
 rcases h with h|⟨o,its,n,hk,hc,hs,hz,r⟩
 ·obtain⟨z,its,r,p⟩:=h.ok I.dU
  exact⟨its,r,p,z.1⟩
 ·refine⟨its.toList,r,⟨o,I.jc a o hk,hc,n,by simpa using hs⟩,?_⟩
  have e:=r.length
  simp only[SR]at e
  omega
theorem N2.new{h:Heap}{its:Array Value}{n:Nat}:N2 (h.push {cls:=.type "tuple",data:=.seq its n}) h.objs.size:=⟨_,z0H _ rfl,rfl⟩
theorem Inv.zI(I:Inv X pins σ H s)(h:mK X.K H a xs)(h':mK X.K H a ys):xs=ys:=by
 obtain⟨its,r,⟨o,n,e,_,_,d⟩,_⟩:=I.list h
 obtain⟨its',r',⟨o',n',e',_,_,d'⟩,_⟩:=I.list h'
 rw[e]at e';cases e'
 rw[d]at d'
 injection d' with d1 _
 have:its=its':=by simpa using congrArg Array.toList d1
 subst this
 exact r.inj r'
theorem Inv.wD(I:Inv X pins σ H s)(h:kM X.K H a xs)(h':kM X.K H a ys):xs=ys:=by
 obtain⟨its,r,⟨o,e,_,n,d⟩,_⟩:=I.tuple h
 obtain⟨its',r',⟨o',e',_,n',d'⟩,_⟩:=I.tuple h'
 rw[e]at e';cases e'
 rw[d]at d'
 injection d' with d1 _
 have:its=its':=by simpa using congrArg Array.toList d1
 subst this
 exact r.inj r'
end
abbrev Cx.tG(X:Cx)(E:Value->Shared->Prop):Cx:={X with xe:=E}
abbrev Cx.Kw(X:Cx):Cx:=X.tG λ_ _=>False
theorem Cx.Ok.tG{X:Cx}(ok:X.Ok)(E:Value->Shared->Prop):(X.tG E).Ok:=
 ⟨ok.mod,ok.kind,ok.glob,ok.blt,ok.above,ok.inj,ok.has,ok.cab,ok.hd,ok.frames,ok.stk,ok.exf,ok.bs,ok.bsz,ok.noex,ok.exfs,ok.funs,ok.frf⟩
theorem Cx.Ok.kb{X:Cx}{E:Value->Shared->Prop}(ok:(X.tG E).Ok):X.Ok:=
 ⟨ok.mod,ok.kind,ok.glob,ok.blt,ok.above,ok.inj,ok.has,ok.cab,ok.hd,ok.frames,ok.stk,ok.exf,ok.bs,ok.bsz,ok.noex,ok.exfs,ok.funs,ok.frf⟩
section
variable{X:Cx}{pins:List (Addr×Obj)}{σ:St}{H:Hp}{s:Shared}{E:Value->Shared->Prop}
theorem Inv.tG(I:Inv X pins σ H s)(E:Value->Shared->Prop):Inv (X.tG E) pins σ H s:=⟨I.ok.tG E,I.os,I.bare,I.base,I.loc,I.cell,I.free,I.freeC,I.pin,I.dU,I.len⟩
theorem Inv.kb(I:Inv (X.tG E) pins σ H s):Inv X pins σ H s:=⟨I.ok.kb,I.os,I.bare,I.base,I.loc,I.cell,I.free,I.freeC,I.pin,I.dU,I.len⟩
theorem SP.kb{D:Ends}{f:Flow}{s':Shared}(h:SP (X.tG E) pins D f s'):SP X pins D f s':=by
 cases f with
 |next=>obtain⟨σ',H',I,q⟩:=h;exact⟨σ',H',I.kb,q⟩
 |brk=>obtain⟨σ',H',I,q⟩:=h;exact⟨σ',H',I.kb,q⟩
 |cont=>obtain⟨σ',H',I,q⟩:=h;exact⟨σ',H',I.kb,q⟩
 |ret u=>obtain⟨v,σ',H',I,r,q⟩:=h;exact⟨v,σ',H',I.kb,r,q⟩
theorem xM.Kw{st:List Stmt}{t:TS}(h:xM X.Kw st t):xM X st t:=λpins s σ H D I hw=>
 wpAny_mono (h pins s σ H D (I.tG _) hw) (λ_ _ q=>q.kb) λ_ _ z=>False.elim z
end
section
variable{X:Cx}{st:Stmt}{rest:List Stmt}{t u:TS}{e:Expr}{te:TE}{pos:Pos}
def Dh:TS:=λD σ H=>D.nx σ H
def BE(t u:TS):TS:=λD σ H=>t {D with nx:=u D} σ H
theorem cS:xM X [] Dh:=λ_ _ σ H _ I h=>wpAny_execs_nil ⟨σ,H,I,h⟩
theorem aQ(h1:PS X st t)(h2:xM X rest u):xM X (st::rest) (BE t u):=by
 intro pins s σ H D I h
 refine wpAny_execs_cons (dN (h1 pins s σ H {D with nx:=u D} I h) λf s1 q=>?_)
 cases f with
 |next=>
  obtain⟨σ',H',I',q⟩:=q
  exact h2 pins s1 σ' H' D I' q
 |ret v=>exact q
 |brk=>exact q
 |cont=>exact q
theorem bx(h1:PS X st t):xM X [st] t:=by
 intro pins s σ H D I h
 refine wpAny_execs_cons (dN (h1 pins s σ H D I h) λf s1 q=>?_)
 cases f with
 |next=>exact wpAny_execs_nil q
 |ret v=>exact q
 |brk=>exact q
 |cont=>exact q
def Ob:TS:=λD σ H=>D.bk σ H
def R9:TS:=λD σ H=>D.ct σ H
theorem GK:PS X (.Break pos) Ob:=λ_ _ σ H _ I h=>wpAny_Break ⟨σ,H,I,h⟩
theorem zJ:PS X (.Continue pos) R9:=λ_ _ σ H _ I h=>wpAny_Continue ⟨σ,H,I,h⟩
theorem Inv.quiet{pins:List (Addr×Obj)}{σ:St}{H:Hp}{s:Shared}(I:Inv X pins σ H s):interactive X.env=false:=by simp[interactive,I.ok.kind]
def qk(te:TE):TS:=λD σ H=>te σ H λ_ H1=>D.nx σ H1
theorem g0(he:PE X e te)(hs:swapsWith e none pos.line X.env=pure false:=by rfl):PS X (.Expr e pos) (qk te):=by
 intro pins s σ H D I h
 exact wpAny_Expr_any (dN (he pins s σ H _ I h) λv s1 ⟨x,H1,I1,r1,q1⟩=>⟨σ,H1,I1,q1⟩) I.quiet hs
def Sa(te:TE):TS:=λD σ H=>te σ H D.rt
theorem eR(he:PE X e te):PS X (.Return (some e) pos) (Sa te):=by
 intro pins s σ H D I h
 exact wpAny_Return_some (dN (he pins s σ H _ I h) λv s1 ⟨x,H1,I1,r1,q1⟩=>⟨x,σ,H1,I1,r1,q1⟩)
def KR(c:TT)(t u:TS):TS:=λD σ H=>c σ H λb H1=>if b=true then t D σ H1 else u D σ H1
theorem gV{c:Expr}{a b:List Stmt}{tc:TT}(hc:PT X c tc)(ha:xM X a t)(hb:xM X b u):PS X (.If c a b pos) (KR tc t u):=by
 intro pins s σ H D I h
 refine wpAny_If (dN (hc pins s σ H _ I h) λd s1 ⟨H1,I1,q1⟩=>?_)
 cases d with
 |true=>exact ha pins s1 σ H1 D I1 q1
 |false=>exact hb pins s1 σ H1 D I1 q1
end
abbrev TG:=V->St->Hp->(St->Hp->Prop)->Prop
abbrev Oc:=List V->St->Hp->(St->Hp->Prop)->Prop
def PG(X:Cx)(target:Expr)(t:TG):Prop:=
 ∀(pins:List (Addr×Obj)) (s:Shared) (σ:St) (H:Hp) (v:V) (u:Value) (Q:St->Hp->Prop),Inv X pins σ H s->RelV v u->t v σ H Q->
  wpAny (model X.prog X.w) X.A (assign target X.env u) (λ_ s'=>∃σ' H',Inv X pins σ' H' s'/\Q σ' H') X.xe s
def Sb(X:Cx)(ts:List Expr)(t:Oc):Prop:=
 ∀(pins:List (Addr×Obj)) (s:Shared) (σ:St) (H:Hp) (vs:List V) (us:List Value) (Q:St->Hp->Prop),Inv X pins σ H s->Vals vs us->t vs σ H Q->
  wpAny (model X.prog X.w) X.A (assignInOrder ((assignEach ts X.env).map (·.2)) us) (λ_ s'=>∃σ' H',Inv X pins σ' H' s'/\Q σ' H') X.xe s
abbrev Od:=V->V->V->Hp->(Hp->Prop)->Prop
def Sd(X:Cx)(t:Od):Prop:=
 ∀(pins:List (Addr×Obj)) (s:Shared) (σ:St) (H:Hp) (o i v:V) (ov iv u:Value) (Q:Hp->Prop),Inv X pins σ H s->RelV o ov->RelV i iv->RelV v u->t o i v H Q->
  wpAny (model X.prog X.w) X.A (setItem ov iv u) (λ_ s'=>∃H',Inv X pins σ H' s'/\Q H') X.xe s
abbrev VR:=V->V->Hp->VK->Prop
def Zd(X:Cx)(op:Operator)(t:VR):Prop:=
 ∀(pins:List (Addr×Obj)) (s:Shared) (σ:St) (H:Hp) (x y:V) (v u:Value) (Q:VK),Inv X pins σ H s->RelV x v->RelV y u->t x y H Q->
  wpAny (model X.prog X.w) X.A (inplaceOp op v u) (EP X pins σ Q) X.xe s
section
variable{X:Cx}{pos:Pos}
def mL(i:Nat):TG:=λv σ H Q=>Q (σ.set i (some v)) H
theorem xP{i:Nat}{x:Str}(hN:X.N.Nodup)(hi:X.N[i]?=some x)(hx:Loc X.env.scope x)(hf:X.fn x=true\/X.env.scope.names.lookup x=some .local:=by first|exact .inl rfl|exact .inr rfl|assumption):PG X (.Name x pos) (mL i):=by
 intro pins s σ H v u Q I r h
 exact wpAny_assign_Name (kL I hN hi hx r (λs' I'=>⟨_,H,I',h⟩) hf)
def Se:Oc:=λvs σ H Q=>vs=[]/\Q σ H
def GL(t:TG)(u:Oc):Oc:=λvs σ H Q=>∃v r,vs=v::r/\t v σ H λσ' H'=>u r σ' H' Q
theorem xQ:Sb X [] Se:=by
 intro pins s σ H vs us Q I r h
 obtain⟨e,h⟩:=h
 subst e
 cases r
 exact assignInOrder_nil ⟨σ,H,I,h⟩
theorem mM{e:Expr}{es:List Expr}{t:TG}{u:Oc}(h1:PG X e t)(h2:Sb X es u)
  (hs:(assignEach (e::es) X.env).map (·.2)=assign e X.env::(assignEach es X.env).map (·.2):=by rfl):Sb X (e::es) (GL t u):=by
 intro pins s σ H vs us Q I r h
 obtain⟨v,vr,e1,h⟩:=h
 subst e1
 cases r with
 |cons r rr=>
  rw[hs]
  refine assignInOrder_cons (dN (h1 pins s σ H _ _ _ I r h) λ_ s1 cZ=>?_)
  obtain⟨σ1,H1,I1,q1⟩:=cZ
  exact h2 pins s1 σ1 H1 _ _ Q I1 rr q1
def Sf(K:PySem.W.Frag)(n:Nat)(t:Oc):TG:=λv σ H Q=>∃a xs,v=.ref a/\kM K H a xs/\xs.length=n/\t xs σ H Q
theorem BF{es:List Expr}{k:Nat}{t:Oc}{n:Nat}(hc:X.calm=true)(h:Sb X es t)
  (hn:(assignEach es X.env).length=n:=by rfl)(kJ:(assignEach es X.env).findIdx? (·.1)=none:=by rfl):PG X (.Tuple es k pos) (Sf X.K n t):=by
 intro pins s σ H v u Q I r hw
 obtain⟨a,xs,e1,hq,hl,hw⟩:=hw
 subst e1
 cases r
 obtain⟨its,rv,ht,hz⟩:=I.tuple hq
 refine assign_Tuple_tuple (I.ok.hd hc) ht (by simp[hn,<-hl,rv.length]) kJ λh' hx=>?_
 have I1:Inv X pins σ H {s with heap:=h'}:=I.kept (t':=s.toks) λb o e=>hx b o (z0V (z0A e)) e
 exact h pins _ σ H xs _ Q I1 (by simpa using rv) hw
def zK(to ti:TE)(t:Od):TG:=λv σ H Q=>to σ H λo H1=>ti σ H1 λi H2=>t o i v H2 λH3=>Q σ H3
theorem Oe{o i:Expr}{to ti:TE}{t:Od}(ho:PE X o to)(hi:PE X i ti)(hs:Sd X t)
  (ha:∀v,assign (.Subscript o i pos) X.env v=(do
    let ov<-holding [v] (eval o X.env)
    let iv<-holding [v,ov] (eval i X.env)
    standAt pos
    holding [v,ov,iv] (setItem ov iv v)
    release [v,ov,iv] []):=by intro _;rfl):PG X (.Subscript o i pos) (zK to ti t):=by
 intro pins s σ H v u Q I r h
 rw[ha]
 refine wpAny_bind (wpAny_holding (dN (ho pins s σ H _ I h) λov s1 cZ=>?_))
 obtain⟨x,H1,I1,r1,q1⟩:=cZ
 refine wpAny_bind (wpAny_holding (dN (hi pins s1 σ H1 _ I1 q1) λiv s2 cZ=>?_))
 obtain⟨y,H2,I2,r2,q2⟩:=cZ
 refine wpAny_bind (wpAny_standAt (wpAny_bind (wpAny_holding (dN (hs pins s2 σ H2 x y v ov iv u _ I2 r1 r2 r q2) λ_ s3 cZ=>?_))))
 obtain⟨H3,I3,q3⟩:=cZ
 exact wpAny_release ⟨σ,H3,I3,q3⟩
def tH(te:TE)(g:TG):TS:=λD σ H=>te σ H λx H1=>g x σ H1 D.nx
theorem BG{tg e:Expr}{te:TE}{g:TG}(he:PE X e te)(hg:PG X tg g)(hs:swapsWithSole [tg] e pos.line X.env=pure false:=by rfl)(hw:swappedStores [tg] e X.env=pure none:=by rfl)
  (h1:(assignEach [tg] X.env).map (·.2)=[assign tg X.env]:=by rfl):PS X (.Assign [tg] e pos) (tH te g):=by
 intro pins s σ H D I h
 refine wpAny_Assign_stores (dN (he pins s σ H _ I h) λv s1 cZ=>?_) hs hw
 obtain⟨x,H1,I1,r1,q1⟩:=cZ
 rw[h1]
 exact dN (hg pins s1 σ H1 x v _ I1 r1 q1) λ_ s2 q=>q
theorem ic{i:Nat}{x:Str}{e:Expr}{te:TE}{pos':Pos}(hN:X.N.Nodup)(hi:X.N[i]?=some x)(hx:Loc X.env.scope x)(he:PE X e te)(hs:swapsWith e (some (.Name x pos')) pos.line X.env=pure false:=by rfl)(hf:X.fn x=true\/X.env.scope.names.lookup x=some .local:=by first|exact .inl rfl|exact .inr rfl|assumption):
  PS X (.Assign [.Name x pos'] e pos) (tH te (mL i)):=by
 intro pins s σ H D I h
 refine wpAny_Assign_Name (dN (he pins s σ H _ I h) λv s1 cZ=>?_) hs
 obtain⟨y,H1,I1,r1,q1⟩:=cZ
 exact kL I1 hN hi hx r1 (λs2 I2=>⟨_,H1,I2,q1⟩) hf
def VS(i:Nat)(te:TE)(ti:VR):TS:=λD σ H=>∃x,σ[i]?=some (some x)/\te σ H λy H1=>ti x y H1 λz H2=>D.nx (σ.set i (some z)) H2
theorem Of{i:Nat}{x:Str}{e:Expr}{te:TE}{op:Operator}{ti:VR}{pos':Pos}(hN:X.N.Nodup)(hi:X.N[i]?=some x)(hx:Loc X.env.scope x)(he:PE X e te)(ho:Zd X op ti)(hf:X.fn x=true\/X.env.scope.names.lookup x=some .local:=by first|exact .inl rfl|exact .inr rfl|assumption):
  PS X (.AugAssign (.Name x pos') op e pos) (VS i te ti):=by
 intro pins s σ H D I h
 obtain⟨v,e1,h⟩:=h
 obtain⟨m,hn,hl⟩:=I.loc
 have Gu:uq X.env.scope x:=by rcases hx with k|k;exact .inl k;exact .inr (.inl k)
 obtain⟨u,r,l⟩:=hl i x v hi e1 Gu
 refine wpAny_AugAssign_Name ?_
 have go:wpAny (model X.prog X.w) X.A (eval e X.env) (λw s₂=>wpAny (model X.prog X.w) X.A (inplaceOp op u w) (λr s₃=>wpAny (model X.prog X.w) X.A (storeName X.env x r) (λ_=>SP X pins D .next) X.xe s₃) X.xe s₂) X.xe s:=by
  refine dN (he pins s σ H _ I h) λw s1 cZ=>?_
  obtain⟨y,H1,I1,r1,q1⟩:=cZ
  refine dN (ho pins s1 σ H1 v y u w _ I1 r r1 q1) λz s2 cZ=>?_
  obtain⟨zv,H2,I2,r2,q2⟩:=cZ
  exact kL I2 hN hi hx r2 (λs3 I3=>⟨_,H2,I3,q2⟩) hf
 rcases l with⟨hk,hm⟩|⟨hk,c,hc,Df⟩
 ·exact wpAny_loadName_local I.ok.kind hk hn hm go
 ·rcases hk with hk|hk
  ·exact wpAny_loadName_cell I.ok.kind hk hc Df go
  ·rcases hx with k|k
   ·have:X.env.scope.names.lookup x=some .free:=hk
    rw[k]at this;cases this
   ·have:X.env.scope.names.lookup x=some .free:=hk
    rw[k]at this;cases this
end
section
variable{X:Cx}{pos:Pos}
def Og(c:TT)(tb:TS):TS:=λD σ H=>∃W:Nat->St->Hp->Prop,(∃m,W m σ H)/\∀m σ H,W m σ H->
 c σ H λb H1=>if b=true then∃N:St->Hp->Prop,(∀σ' H',N σ' H'->∃m',m'<m/\W m' σ' H')/\tb {D with nx:=N,ct:=N,bk:=D.nx} σ H1 else D.nx σ H1
theorem ql{c:Expr}{body:List Stmt}{tc:TT}{tb:TS}(hp:PassesOwn (model X.prog X.w) X.A X.env X.xe)(hc:PT X c tc)(hb:xM X body tb):PS X (.While c body [] pos) (Og tc tb):=by
 intro pins s σ H D I h
 obtain⟨W,⟨m0,w0⟩,turn⟩:=h
 refine wpAny_While (codeAny_whileLoop (λn s'=>∃σ' H',Inv X pins σ' H' s'/\W n σ' H') ?_ m0 ⟨σ,H,I,w0⟩)
 rintro n s1 ⟨σ1,H1,I1,w1⟩
 refine wpAny_passesOwn hp (dN (hc pins s1 σ1 H1 _ I1 (turn n σ1 H1 w1)) λb s2 ⟨H2,I2,q2⟩=>?_)
 cases b with
 |true=>
  obtain⟨N,hN,q2⟩:=q2
  rw[if_pos rfl]
  refine wpAny_passesOwn hp (dN (hb pins s2 σ1 H2 _ I2 q2) λf s3 q3=>?_)
  cases f with
  |next=>
   obtain⟨σ3,H3,I3,n3⟩:=q3
   obtain⟨m',hm,w3⟩:=hN σ3 H3 n3
   exact⟨m',hm,σ3,H3,I3,w3⟩
  |cont=>
   obtain⟨σ3,H3,I3,n3⟩:=q3
   obtain⟨m',hm,w3⟩:=hN σ3 H3 n3
   exact⟨m',hm,σ3,H3,I3,w3⟩
  |brk=>exact q3
  |ret v=>exact q3
 |false=>
  rw[if_neg z0J]
  exact wpAny_execs_nil ⟨σ1,H2,I2,q2⟩
end
structure It where
 go:Nat->Hp->Prop
 yld:Nat->Hp->V->Hp->Prop
 stop:Nat->Hp->Prop
def rJ(X:Cx)(pins:List (Addr×Obj))(H:Hp)(b:Addr):Prop:=
 H b=none/\b≠X.env.locals/\b∉X.fs/\(b∈X.ex\/X.s₀.heap.objs.size<=b)/\(∀x c,X.env.cells.lookup x=some c->c≠b)/\∀p∈X.pn++pins,p.1≠b
theorem Inv.GO{X:Cx}{pins:List (Addr×Obj)}{σ:St}{H H':Hp}{s:Shared}{b:Addr}(I:Inv X pins σ H s)(hb:s.heap.objs.size<=b)(hn:H' b=none):rJ X pins H' b:=by
 refine⟨hn,z1O (z0I I.lt hb),I.N4 hb,.inr (z0T I.sz hb),λx c e z=>?_,λp hp z=>?_⟩
 ·obtain⟨v,q⟩:=I.cell x c e
  exact absurd (z0I q.lt (by rw[z];exact hb)) (z0e _)
 ·exact absurd (z0I (z0A (I.pin p hp).1) (by rw[z];exact hb)) (z0e _)
structure Turn(P:Program)(w:World)(K:PySem.W.Frag)(tg:Expr)(J:It)(fp:List Addr)(it:Addr)(tn:Nat->Heap->Prop):Prop where
 mem:it∈fp
 obj:∀i h,tn i h->∀b∈fp,∃o,h.get? b=some o/\∀v,o.data≠.cell v
 keep:∀i h h',tn i h->(∀b∈fp,∀o,h.get? b=some o->h'.get? b=some o)->tn i h'
 item:∀(X:Cx),X.prog=P->X.w=w->X.K=K->X.calm=true->∀(i:Nat) (pins:List (Addr×Obj)) (s:Shared) (σ:St) (H:Hp) (E:Value->Shared->Prop),Inv X pins σ H s->(∀b∈fp,rJ X pins H b)->tn i s.heap->J.go i H->
  wpAny (model P w) X.A (pyNext (.ref it)) (λr s1=>∃u,r=some u/\
   wpAny (model P w) X.A (letOwnedTupleGo tg (.ref it) u) (λ_ s2=>∃x H',Inv X pins σ H' s2/\RelV x u/\J.yld i H x H'/\tn (i+1) s2.heap/\∀b∈fp,H' b=none) E s1) E s
 done:∀(X:Cx),X.prog=P->X.w=w->X.K=K->X.calm=true->∀(i:Nat) (pins:List (Addr×Obj)) (s:Shared) (σ:St) (H:Hp) (E:Value->Shared->Prop),Inv X pins σ H s->(∀b∈fp,rJ X pins H b)->tn i s.heap->J.stop i H->
  wpAny (model P w) X.A (pyNext (.ref it)) (λr s1=>r=none/\Inv X pins σ H s1) E s
 self:∀(A:Around) (i:Nat) (s:Shared) (Q:Value->Shared->Prop) (E:Value->Shared->Prop),tn i s.heap->Q (.ref it) s->wpAny (model P w) A (pyIter (.ref it)) Q E s
abbrev TI:=St->Hp->(It->Hp->Prop)->Prop
def XX(X:Cx)(pins:List (Addr×Obj))(σ:St)(tg:Expr)(R:It->Hp->Prop)(U0:Value)(s2:Shared):Prop:=
 ∃(it:Addr) (fp:List Addr) (tn:Nat->Heap->Prop) (J:It) (H':Hp),U0=.ref it/\Inv X pins σ H' s2/\Turn X.prog X.w X.K tg J fp it tn/\tn 0 s2.heap/\(∀b∈fp,rJ X pins H' b)/\R J H'
def PI(X:Cx)(tg iter:Expr)(wi:TI):Prop:=
 ∀(pins:List (Addr×Obj)) (s:Shared) (σ:St) (H:Hp) (R:It->Hp->Prop),Inv X pins σ H s->wi σ H R->
  wpAny (model X.prog X.w) X.A (eval iter X.env) (λv s1=>wpAny (model X.prog X.w) X.A (pyIter v) (XX X pins σ tg R) X.xe s1) X.xe s
theorem Di{M:Model}{A:Around}{E:Value->Shared->Prop}{s:Shared}{tg:Expr}{it:Addr}{u:Value}{o:Obj}{n:String}{vs:Array Value}{Q:Unit->Shared->Prop}(ho:s.heap.get? it=some o)(hc:o.cls=.type n)(hd:o.data=.fields vs)
  (hn:["enumerate","zip","dict_itemiterator","dict_reverseitemiterator","odict_iterator","itertools.zip_longest","itertools.pairwise"].contains n=false)(hQ:Q () s):wpAny M A (letOwnedTupleGo tg (.ref it) u) Q E s:=by
 unfold letOwnedTupleGo
 cases tg<;>first
  |exact wpAny_pure hQ
  |(cases u<;>first
     |exact wpAny_pure hQ
     |(refine wpAny_bind (wpAny_load ho ?_)
       rw[hc,hd]
       show wpAny M A (if(["enumerate","zip","dict_itemiterator","dict_reverseitemiterator","odict_iterator","itertools.zip_longest","itertools.pairwise"].contains n&&vs[0]?==some (rawInt _))=true then _ else _) Q E s
       rw[if_neg (by intro h;rw[hn,z13]at h;cases h)]
       exact wpAny_pure hQ))
def VT(K:PySem.W.Frag)(a:Addr):It:=
 ⟨λi H=>∃xs x,mK K H a xs/\xs[i]?=some x,λi H x H'=>H'=H/\∀xs,mK K H a xs->xs[i]?=some x,λi H=>∃xs,mK K H a xs/\xs.length<=i⟩
def VU(K:PySem.W.Frag)(a:Addr):It:=
 ⟨λi H=>∃xs x,kM K H a xs/\xs[i]?=some x,λi H x H'=>H'=H/\∀xs,kM K H a xs->xs[i]?=some x,λi H=>∃xs,kM K H a xs/\xs.length<=i⟩
def Sg(lo:Int)(n:Nat):It:=⟨λi _=>i<n,λi H x H'=>H'=H/\x=.int (lo+i),λi _=>n<=i⟩
theorem ET{P:Program}{w:World}{K:PySem.W.Frag}{tg:Expr}(a it:Addr):Turn P w K tg (VT K a) [it] it (λi h=>h.IsListIter it a i) where
 mem:=by simp
 obj:=λi h st b hb=>by
  have e:b=it:=by simpa using hb
  subst e
  obtain⟨o,e,c,d⟩:=st
  exact⟨o,e,λv z=>by rw[d]at z;cases z⟩
 keep:=λi h h' st k=>st.at λo e=>k it (by simp) o e
 item:=by
  intro X hP hw hK hc i pins s σ H E I hf st hg
  subst hP hw hK
  obtain⟨xs,x,hq,hx⟩:=hg
  obtain⟨its,rv,p,hz⟩:=I.list hq
  obtain⟨u,hu,ru⟩:=rv.get hx
  obtain⟨f0,f1,f2,f3,f4,f5⟩:=hf it (by simp)
  refine wpAny_pyNext_list_item st p.isList (x:=u) (by simpa using hu) λh' GP sb=>?_
  have I1:Inv X pins σ H {s with heap:=h'}:=I.turned (t':=s.toks) (λb o hb e=>(sb.2 b hb).trans e) f0 f1 f3 f4 f5
  obtain⟨o,e,c,d⟩:=id GP
  exact⟨u,rfl,Di (s:={s with heap:=h'}) e c d (by decide) ⟨x,H,I1,ru,⟨rfl,λys hy=>by rw[I.zI hy hq];exact hx⟩,GP,λb hb=>(hf b hb).1⟩⟩
 done:=by
  intro X hP hw hK hc i pins s σ H E I hf st hg
  subst hP hw hK
  obtain⟨xs,hq,hx⟩:=hg
  obtain⟨its,rv,p,hz⟩:=I.list hq
  obtain⟨f0,f1,f2,f3,f4,f5⟩:=hf it (by simp)
  have hl:=rv.length
  exact wpAny_pyNext_list_end (I.ok.hd hc) st p.isList (by simp;omega) λh' eb=>⟨rfl,I.turned (t':=s.toks) (λb o hb e=>eb b o hb e) f0 f1 f3 f4 f5⟩
 self:=λ_ _ _ _ _ st h=>wpAny_pyIter_listiter st h
theorem BH{P:Program}{w:World}{K:PySem.W.Frag}{tg:Expr}(a it:Addr):Turn P w K tg (VU K a) [it] it (λi h=>h.IsTupleIter it a i) where
 mem:=by simp
 obj:=λi h st b hb=>by
  have e:b=it:=by simpa using hb
  subst e
  obtain⟨o,e,c,d⟩:=st
  exact⟨o,e,λv z=>by rw[d]at z;cases z⟩
 keep:=λi h h' st k=>st.at λo e=>k it (by simp) o e
 item:=by
  intro X hP hw hK hc i pins s σ H E I hf st hg
  subst hP hw hK
  obtain⟨xs,x,hq,hx⟩:=hg
  obtain⟨its,rv,p,hz⟩:=I.tuple hq
  obtain⟨u,hu,ru⟩:=rv.get hx
  obtain⟨f0,f1,f2,f3,f4,f5⟩:=hf it (by simp)
  refine wpAny_pyNext_tuple_item st (show s.heap.IsTuple a its.toArray from p) (x:=u) (by simpa using hu) λh' GP sb=>?_
  have I1:Inv X pins σ H {s with heap:=h'}:=I.turned (t':=s.toks) (λb o hb e=>(sb.2 b hb).trans e) f0 f1 f3 f4 f5
  obtain⟨o,e,c,d⟩:=id GP
  exact⟨u,rfl,Di (s:={s with heap:=h'}) e c d (by decide) ⟨x,H,I1,ru,⟨rfl,λys hy=>by rw[I.wD hy hq];exact hx⟩,GP,λb hb=>(hf b hb).1⟩⟩
 done:=by
  intro X hP hw hK hc i pins s σ H E I hf st hg
  subst hP hw hK
  obtain⟨xs,hq,hx⟩:=hg
  obtain⟨its,rv,p,hz⟩:=I.tuple hq
  obtain⟨f0,f1,f2,f3,f4,f5⟩:=hf it (by simp)
  have hl:=rv.length
  exact wpAny_pyNext_tuple_end (I.ok.hd hc) st (show s.heap.IsTuple a its.toArray from p) (by simp;omega) λh' eb=>⟨rfl,I.turned (t':=s.toks) (λb o hb e=>eb b o hb e) f0 f1 f3 f4 f5⟩
 self:=λ_ _ _ _ _ st h=>wpAny_pyIter_tupleiter st h
theorem BI{P:Program}{w:World}{K:PySem.W.Frag}{tg:Expr}(it:Addr)(lo:Int)(n:Nat):Turn P w K tg (Sg lo n) [it] it (λi h=>IsRangeIter h it (lo+(i:Nat)*1) ((n:Int)-(i:Nat)) 1) where
 mem:=by simp
 obj:=λi h st b hb=>by
  have e:b=it:=by simpa using hb
  subst e
  exact⟨_,st,λv z=>by
   have z':Data.fields _=Data.cell v:=z
   cases z'⟩
 keep:=λi h h' st k=>k it (by simp) _ st
 item:=by
  intro X hP hw hK hc i pins s σ H E I hf st hg
  subst hP hw hK
  obtain⟨f0,f1,f2,f3,f4,f5⟩:=hf it (by simp)
  have W:=Walks.range (prog:=X.prog) (w:=X.w) (I.ok.hd hc) it lo 1 n
  refine W.item i s _ _ hg st λv h' tk hv GP kk=>?_
  obtain⟨t,rfl⟩:=hv
  have I1:Inv X pins σ H {s with heap:=h',toks:=tk}:=I.turned (λb o hb e=>kk b o (by simpa using hb) e) f0 f1 f3 f4 f5
  refine⟨_,rfl,Di (s:={s with heap:=h',toks:=tk}) (n:= "range_iterator") GP rfl rfl (by decide) ⟨.int (lo+i),H,I1,⟨t,?_⟩,⟨rfl,rfl⟩,GP,λb hb=>(hf b hb).1⟩⟩
  rw[Int.mul_one]
 done:=by
  intro X hP hw hK hc i pins s σ H E I hf st hg
  subst hP hw hK
  obtain⟨f0,f1,f2,f3,f4,f5⟩:=hf it (by simp)
  exact wpAny_pyNext_range_end (I.ok.hd hc) st (by have:n<=i:=hg;omega) λh' eb=>⟨rfl,I.turned (t':=s.toks) (λb o hb e=>eb b o hb e) f0 f1 f3 f4 f5⟩
 self:=λ_ _ _ _ _ st h=>wpAny_pyIter_rangeiter st h
section
variable{X:Cx}{tg:Expr}
def Si(K:PySem.W.Frag)(tl:TE):TI:=λσ H R=>tl σ H λx H1=>∃a,x=.ref a/\(∃xs,mK K H1 a xs)/\R (VT K a) H1
def VV(K:PySem.W.Frag)(tl:TE):TI:=λσ H R=>tl σ H λx H1=>∃a,x=.ref a/\(∃xs,kM K H1 a xs)/\R (VU K a) H1
theorem Dj{l:Expr}{tl:TE}(hl:PE X l tl):PI X tg l (Si X.K tl):=by
 intro pins s σ H R I h
 refine dN (hl pins s σ H _ I h) λv s1 cZ=>?_
 obtain⟨x,H1,I1,r1,q1⟩:=cZ
 obtain⟨a,e,⟨xs,hq⟩,q⟩:=q1
 subst e
 cases r1
 obtain⟨its,rv,p,hz⟩:=I1.list hq
 refine wpAny_pyIter_list p.isList ?_
 refine⟨s1.heap.objs.size,[s1.heap.objs.size],_,_,H1,rfl,I1.kept (t':=s1.toks) λb o e=>Zv _ e,ET a _,⟨_,z0H _ rfl,rfl,rfl⟩,λb hb=>?_,q⟩
 have e:b=s1.heap.objs.size:=by simpa using hb
 subst e
 exact I1.GO (U5 _) (I1.dU.fresh (U5 _))
theorem Oh{l:Expr}{tl:TE}(hl:PE X l tl):PI X tg l (VV X.K tl):=by
 intro pins s σ H R I h
 refine dN (hl pins s σ H _ I h) λv s1 cZ=>?_
 obtain⟨x,H1,I1,r1,q1⟩:=cZ
 obtain⟨a,e,⟨xs,hq⟩,q⟩:=q1
 subst e
 cases r1
 obtain⟨its,rv,p,hz⟩:=I1.tuple hq
 refine wpAny_pyIter_tuple (show s1.heap.IsTuple a its.toArray from p) ?_
 refine⟨s1.heap.objs.size,[s1.heap.objs.size],_,_,H1,rfl,I1.kept (t':=s1.toks) λb o e=>Zv _ e,BH a _,⟨_,z0H _ rfl,rfl,rfl⟩,λb hb=>?_,q⟩
 have e:b=s1.heap.objs.size:=by simpa using hb
 subst e
 exact I1.GO (U5 _) (I1.dU.fresh (U5 _))
theorem GQ{pins:List (Addr×Obj)}{σ:St}{H:Hp}{s:Shared}{R:It->Hp->Prop}{E:Value->Shared->Prop}{lo hi:Int}{t u v:Tok}{tk:Nat}(I:Inv X pins σ H s)(h1:-(2^62)<=lo)(h2:lo<2^62)(h3:-(2^62)<=hi)(h4:hi<2^62)
  (q:R (Sg lo (hi-lo).toNat) H):wpAny (model X.prog X.w) X.A (pyIter (.ref s.heap.objs.size)) (XX X pins σ tg R) E {s with heap:=s.heap.push {cls:=.type "range",data:=.fields #[.int lo t,.int hi u,.int 1 v]},toks:=tk}:=by
 refine wpAny_pyIter_range (IsRange.new ..) (small_one h1 h2 h3 h4) ?_
 have I1:Inv X pins σ H {s with heap:=s.heap.push {cls:=.type "range",data:=.fields #[.int lo t,.int hi u,.int 1 v]},toks:=tk}:=I.kept λb o e=>Zv _ e
 refine⟨(s.heap.push {cls:=.type "range",data:=.fields #[.int lo t,.int hi u,.int 1 v]}).objs.size,[(s.heap.push {cls:=.type "range",data:=.fields #[.int lo t,.int hi u,.int 1 v]}).objs.size],_,_,H,rfl,
  I1.kept (t':=tk) λb o e=>Zv _ e,BI _ lo (hi-lo).toNat,?_,λb hb=>?_,q⟩
 ·have e1:lo+((0:Nat):Int)*1=lo:=by simp
  have e2:(((hi-lo).toNat:Nat):Int)-((0:Nat):Int)=Builtin.Range.rangeSize lo hi 1:=by rw[rangeSize_one];split<;>omega
  show IsRangeIter _ _ (lo+((0:Nat):Int)*1) ((((hi-lo).toNat:Nat):Int)-((0:Nat):Int)) 1
  rw[e1,e2]
  exact z0H _ rfl
 ·have e:b=(s.heap.push {cls:=.type "range",data:=.fields #[.int lo t,.int hi u,.int 1 v]}).objs.size:=by simpa using hb
  subst e
  exact I1.GO (U5 _) (I1.dU.fresh (U5 _))
def MX(ta:TA):TI:=λσ H R=>ta σ H λvs H1=>∃j:Int,vs=[.int j]/\-(2^62)<=j/\j<2^62/\R (Sg 0 j.toNat) H1
theorem wF{a:Expr}{ta:TA}{p pos:Pos}(hg:Gl X "range")(hm:X.mg "range" =none)(ha:PA X [a] ta)(hs:starEach [a] X.env=[(false,eval a X.env)]:=by rfl):PI X tg (.Call (.Name "range" p) [a] [] pos) (MX ta):=by
 intro pins s σ H R I h
 refine Call_ (ux I hg hm boot_range (PyProof.Rows.callWith_type1 (dN (ha pos pins s σ H _ I h) λus s1 cZ=>?_) hs rfl))
 obtain⟨vs,H1,I1,r1,q1⟩:=cZ
 obtain⟨j,e,q1,q2,q⟩:=q1
 subst e
 cases r1 with
 |cons r rr=>
  cases rr
  obtain⟨t,rfl⟩:=r
  exact call_range_1 (GQ I1 (by omega) (by omega) q1 q2 (by simpa using q))
def VW(wi:TI)(g:TG)(tb:TS):TS:=λD σ H=>wi σ H λJ H1=>∃W:Nat->Nat->St->Hp->Prop,(∃m,W 0 m σ H1)/\∀i m σ H,W i m σ H->
 (J.stop i H/\D.nx σ H)\/(J.go i H/\∃N:St->Hp->Prop,(∀σ' H',N σ' H'->∃m',m'<m/\W (i+1) m' σ' H')/\∀x H',J.yld i H x H'->g x σ H' λσ2 H2=>tb {D with nx:=N,ct:=N,bk:=D.nx} σ2 H2)
def k7(fp:List Addr)(h:Heap):List (Addr×Obj):=fp.filterMap λb=>(h.get? b).map λo=>(b,o)
theorem k8{fp:List Addr}{h:Heap}{b:Addr}{o:Obj}(hb:b∈fp)(e:h.get? b=some o):(b,o)∈k7 fp h:=z1M.mpr ⟨b,hb,by rw[e];rfl⟩
theorem wG{fp:List Addr}{h:Heap}{p:Addr×Obj}(hp:p∈k7 fp h):p.1∈fp/\h.get? p.1=some p.2:=by
 obtain⟨b,hb,e⟩:=z1M.mp hp
 cases q:h.get? b with
 |none=>rw[q]at e;cases e
 |some o=>
  rw[q]at e
  have e':(b,o)=p:=z0O e
  subst e'
  exact⟨hb,q⟩
theorem Inv.pinned{pins:List (Addr×Obj)}{σ:St}{H:Hp}{s:Shared}{fp:List Addr}(I:Inv X pins σ H s)(hf:∀b∈fp,rJ X pins H b)(ho:∀b∈fp,∃o,s.heap.get? b=some o/\∀v,o.data≠.cell v):Inv X (pins++k7 fp s.heap) σ H s:=
 I.tS λp hp=>(z0L.mp hp).elim (λz=>I.pin p (z0P _ z)) λz=>by
  obtain⟨hb,e⟩:=wG z
  obtain⟨f0,f1,f2,_⟩:=hf p.1 hb
  obtain⟨o,e',d⟩:=ho p.1 hb
  rw[e]at e';cases e'
  exact⟨e,f0,f1,f2,d⟩
theorem Inv.qm{pins pl:List (Addr×Obj)}{σ:St}{H:Hp}{s:Shared}(I:Inv X (pins++pl) σ H s):Inv X pins σ H s:=I.tS λp hp=>I.pin p (z0P _ (z09 _ hp))
theorem Oi{iter:Expr}{body:List Stmt}{wi:TI}{g:TG}{tb:TS}{pos:Pos}(hp:PassesOwn (model X.prog X.w) X.A X.env X.xe)(hc:X.calm=true)(hi:PI X tg iter wi)(hg:PG X tg g)(hb:xM X body tb)
  (hs:∀x,foldedSetIterable iter X.env x=pure x:=by intro _;rfl):PS X (.For tg iter body [] pos) (VW wi g tb):=by
 intro pins s σ H D I h
 refine wpAny_For (dN (hi pins s σ H _ I h) λv s1 h1=>dN h1 λU0 s2 h2=>?_) hs
 obtain⟨it,fp,tn,J,H2,e,I2,T,GR,f2,W,⟨m0,w0⟩,turn⟩:=h2
 subst e
 have Oj:∀{H':Hp},(∀b∈fp,H' b=none)->∀b∈fp,rJ X pins H' b:=λhn b hb=>⟨hn b hb,(f2 b hb).2⟩
 refine codeAny_forLoop_any (λn s'=>∃i σ' H',Inv X pins σ' H' s'/\tn i s'.heap/\(∀b∈fp,H' b=none)/\W i n σ' H') ?_ m0 ⟨0,σ,H2,I2,GR,λb hb=>(f2 b hb).1,w0⟩
 rintro n s3 ⟨i,σ3,H3,I3,Ol,XY,w3⟩
 rcases turn i n σ3 H3 w3 with⟨stop,qn⟩|⟨go,N,hN,step⟩
 ·refine wpAny_passesOwn hp (dN (T.done X rfl rfl rfl hc i pins s3 σ3 H3 X.xe I3 (Oj XY) Ol stop) λr s4 ⟨hr,I4⟩=>?_)
  subst hr
  exact wpAny_execs_nil ⟨σ3,H3,I4,qn⟩
 ·refine wpAny_passesOwn hp (dN (T.item X rfl rfl rfl hc i pins s3 σ3 H3 X.xe I3 (Oj XY) Ol go) λr s4 cZ=>?_)
  obtain⟨u,hr,h4⟩:=cZ
  subst hr
  refine wpAny_passesOwn hp (dN h4 λ_ s5 cZ=>?_)
  obtain⟨x,H5,I5,r5,y5,Om,VX⟩:=cZ
  have VY:=I5.pinned (Oj VX) (T.obj _ _ Om)
  refine wpAny_passesOwn hp (dN (hg _ s5 σ3 H5 x u _ VY r5 (step x H5 y5)) λ_ s6 cZ=>?_)
  obtain⟨σ6,H6,I6,q6⟩:=cZ
  refine wpAny_passesOwn hp (dN (hb _ s6 σ6 H6 _ I6 q6) λf s7 q7=>?_)
  have again:∀{σ7:St} {H7:Hp},Inv X (pins++k7 fp s5.heap) σ7 H7 s7->N σ7 H7->∃m,m<n/\∃i σ' H',Inv X pins σ' H' s7/\tn i s7.heap/\(∀b∈fp,H' b=none)/\W i m σ' H':=λ{σ7 H7} I7 n7=>by
   obtain⟨m',hm,w7⟩:=hN σ7 H7 n7
   refine⟨m',hm,i+1,σ7,H7,I7.qm,T.keep _ _ _ Om λb hb o e=>(I7.pin (b,o) (z0P _ (z0P _ (k8 hb e)))).1,λb hb=>?_,w7⟩
   obtain⟨o,e,d⟩:=T.obj _ _ Om b hb
   exact(I7.pin (b,o) (z0P _ (z0P _ (k8 hb e)))).2.1
  cases f with
  |next=>obtain⟨σ7,H7,I7,n7⟩:=q7;exact again I7 n7
  |cont=>obtain⟨σ7,H7,I7,n7⟩:=q7;exact again I7 n7
  |brk=>obtain⟨σ7,H7,I7,q7⟩:=q7;exact⟨σ7,H7,I7.qm,q7⟩
  |ret v=>obtain⟨x7,σ7,H7,I7,r7,q7⟩:=q7;exact⟨x7,σ7,H7,I7.qm,r7,q7⟩
end
abbrev R2:=V->V->Hp->VK->Prop
def mF(X:Cx)(f:Value->Value->Sem Value)(r:R2):Prop:=
 ∀(pins:List (Addr×Obj)) (s:Shared) (σ:St) (H:Hp) (x y:V) (v u:Value) (Q:VK),Inv X pins σ H s->RelV x v->RelV y u->r x y H Q->
  wpAny (model X.prog X.w) X.A (f v u) (EP X pins σ Q) X.xe s
def VZ(X:Cx)(f:Value->Sem Value)(r:V->Hp->VK->Prop):Prop:=
 ∀(pins:List (Addr×Obj)) (s:Shared) (σ:St) (H:Hp) (x:V) (v:Value) (Q:VK),Inv X pins σ H s->RelV x v->r x H Q->
  wpAny (model X.prog X.w) X.A (f v) (EP X pins σ Q) X.xe s
def jd(X:Cx)(f:Value)(r:List V->Hp->VK->Prop):Prop:=
 ∀(pins:List (Addr×Obj)) (s:Shared) (σ:St) (H:Hp) (xs:List V) (us:List Value) (Q:VK),Inv X pins σ H s->Vals xs us->r xs H Q->
  wpAny (model X.prog X.w) X.A (call f us) (EP X pins σ Q) X.xe s
def Oo(r:R2)(ta tb:TE):TE:=λσ H Q=>ta σ H λx H1=>tb σ H1 λy H2=>r x y H2 Q
def Ze(r:V->Hp->VK->Prop)(ta:TE):TE:=λσ H Q=>ta σ H λx H1=>r x H1 Q
def rI(C:Int->Int->Prop)(g:Int->Int->V):R2:=λx y H Q=>∃i j,x=.int i/\y=.int j/\C i j/\Q (g i j) H
def KS(g:Int->Int->V):R2:=λx y H Q=>∃i j,x=.int i/\y=.int j/\Q (g i j) H
def rU(g:Int->V):V->Hp->VK->Prop:=λx H Q=>∃i,x=.int i/\Q (g i) H
section
variable{X:Cx}{a b c:Expr}{ta tb tc:TE}{pos:Pos}
theorem Oq(ha:PE X a ta)(hb:PE X b tb){pins:List (Addr×Obj)}{s:Shared}{σ:St}{H:Hp}{R:V->V->Hp->Prop}(I:Inv X pins σ H s)
  (h:ta σ H λx H1=>tb σ H1 λy H2=>R x y H2){Q:Value->Shared->Prop}{f:Value->Value->Sem Value}
  (hf:∀v u s2 x y H2,Inv X pins σ H2 s2->RelV x v->RelV y u->R x y H2->wpAny (model X.prog X.w) X.A (f v u) Q X.xe s2):
  wpAny (model X.prog X.w) X.A (eval a X.env) (λv s₁=>wpAny (model X.prog X.w) X.A (eval b X.env) (λu s₂=>wpAny (model X.prog X.w) X.A (f v u) Q X.xe s₂) X.xe s₁) X.xe s:=by
 refine dN (ha pins s σ H _ I h) λv s1 cZ=>?_
 obtain⟨x,H1,I1,r1,q1⟩:=cZ
 refine dN (hb pins s1 σ H1 _ I1 q1) λu s2 cZ=>?_
 obtain⟨y,H2,I2,r2,q2⟩:=cZ
 exact hf v u s2 x y H2 I2 r1 r2 q2
theorem Dk{op:Operator}{r:R2}(ho:mF X (binaryOp op) r)(ha:PE X a ta)(hb:PE X b tb):PE X (.BinOp a op b pos) (Oo r ta tb):=by
 intro pins s σ H Q I h
 exact wpAny_BinOp (Oq ha hb I h λv u s2 x y H2 I2 rx ry q=>ho pins s2 σ H2 x y v u Q I2 rx ry q)
theorem Sj{op:UnaryOp}{r:V->Hp->VK->Prop}(ho:VZ X (unaryOp op) r)(ha:PE X a ta):PE X (.UnaryOp op a pos) (Ze r ta):=by
 intro pins s σ H Q I h
 exact UnaryOp_ (dN (ha pins s σ H _ I h) λv s1 ⟨x,H1,I1,r1,q1⟩=>ho pins s1 σ H1 x v Q I1 r1 q1)
theorem V0{f:Value->Value->Sem Value}{C:Int->Int->Prop}{g:Int->Int->Int}
  (rule:∀(i j:Int) (t u:Tok) (s:Shared) (Q:Value->Shared->Prop) (E:Value->Shared->Prop),C i j->Q (.int (g i j) s.toks) {s with toks:=s.toks+1}->wpAny (model X.prog X.w) X.A (f (.int i t) (.int j u)) Q E s):
  mF X f (rI C λi j=>.int (g i j)):=by
 intro pins s σ H x y v u Q I rx ry h
 obtain⟨i,j,rfl,rfl,hc,q⟩:=h
 obtain⟨t,rfl⟩:=rx
 obtain⟨t',rfl⟩:=ry
 exact rule i j t t' s _ _ hc ⟨.int (g i j),H,I.tok _,⟨_,rfl⟩,q⟩
theorem Ot{f:Value->Value->Sem Value}{g:Int->Int->Int}
  (rule:∀(i j:Int) (t u:Tok) (s:Shared) (Q:Value->Shared->Prop) (E:Value->Shared->Prop),Q (.int (g i j) s.toks) {s with toks:=s.toks+1}->wpAny (model X.prog X.w) X.A (f (.int i t) (.int j u)) Q E s):
  mF X f (KS λi j=>.int (g i j)):=by
 intro pins s σ H x y v u Q I rx ry h
 obtain⟨i,j,rfl,rfl,q⟩:=h
 obtain⟨t,rfl⟩:=rx
 obtain⟨t',rfl⟩:=ry
 exact rule i j t t' s _ _ ⟨.int (g i j),H,I.tok _,⟨_,rfl⟩,q⟩
theorem Sk{f:Value->Value->Sem Value}{g:Int->Int->Bool}
  (rule:∀(i j:Int) (t u:Tok) (s:Shared) (Q:Value->Shared->Prop) (E:Value->Shared->Prop),Q (.bool (g i j)) s->wpAny (model X.prog X.w) X.A (f (.int i t) (.int j u)) Q E s):
  mF X f (KS λi j=>.bl (g i j)):=by
 intro pins s σ H x y v u Q I rx ry h
 obtain⟨i,j,rfl,rfl,q⟩:=h
 obtain⟨t,rfl⟩:=rx
 obtain⟨t',rfl⟩:=ry
 exact rule i j t t' s _ _ ⟨.bl (g i j),H,I,rfl,q⟩
def V1(i j:Int):Prop:=0<j/\j<1073741824
def Ou(i j:Int):Prop:=(-(2^64)<i/\i<2^64)\/(-(2^64)<j/\j<2^64)
theorem Ou.ok{i j:Int}(h:Ou i j):IntMulOk i j:=by
 rcases h with⟨h1,h2⟩|⟨h1,h2⟩
 ·exact .of_left (intBits_le_64 h1 h2)
 ·exact .of_right (intBits_le_64 h1 h2)
theorem Ov:mF X (binaryOp .Add) (KS λi j=>.int (i+j)):=Ot λ_ _ _ _ _ _ _ q=>add_int q
theorem Ow:mF X (binaryOp .Sub) (KS λi j=>.int (i-j)):=Ot λ_ _ _ _ _ _ _ q=>sub_int q
theorem Ox:mF X (binaryOp .Mult) (rI Ou λi j=>.int (i*j)):=V0 λ_ _ _ _ _ _ _ hc q=>mul_int q hc.ok
theorem KU:mF X (binaryOp .FloorDiv) (rI V1 λi j=>.int (i/j)):=V0 λi j _ _ _ _ _ hc q=>by
 have h1:(0:Int)<j:=hc.1
 have h2:j<1073741824:=hc.2
 exact floordiv_int (by omega) (by rw[Int.fdiv_eq_ediv_of_nonneg i (by omega)];exact q) (.inl (PyProof.noPylong_small (by omega)))
theorem Oy:mF X (binaryOp .Mod) (rI (λ_ j=>0<j) λi j=>.int (i % j)):=V0 λi j _ _ _ _ _ hc q=>by
 have h1:(0:Int)<j:=hc
 exact mod_int' (by omega) (by rw[Int.fmod_eq_emod_of_nonneg i (by omega)];exact q)
theorem KW:mF X (inplaceOp .Add) (KS λi j=>.int (i+j)):=Ot λ_ _ _ _ _ _ _ q=>iadd_int q
theorem Zf{f:Value->Sem Value}{g:Int->Int}
  (rule:∀(i:Int) (t:Tok) (s:Shared) (Q:Value->Shared->Prop) (E:Value->Shared->Prop),Q (.int (g i) s.toks) {s with toks:=s.toks+1}->wpAny (model X.prog X.w) X.A (f (.int i t)) Q E s):
  VZ X f (rU λi=>.int (g i)):=by
 intro pins s σ H x v Q I rx h
 obtain⟨i,rfl,q⟩:=h
 obtain⟨t,rfl⟩:=rx
 exact rule i t s _ _ ⟨.int (g i),H,I.tok _,⟨_,rfl⟩,q⟩
theorem Oz:VZ X (unaryOp .USub) (rU λi=>.int (-i)):=Zf λ_ _ _ _ _ q=>neg_int q
end
def Sl:V->V->Bool
 |.non,.non=>true|.non,.int _=>true|.int _,.non=>true|.non,.bl _=>true|.bl _,.non=>true|.non,.str _=>true|.str _,.non=>true
 |.int _,.int _=>true|.bl _,.bl _=>true|.str _,.str _=>true|.byt _,.byt _=>true
 |.int _,.str _=>true|.str _,.int _=>true|.bl _,.str _=>true|.str _,.bl _=>true
 |_,_=>false
def Zg:R2:=λx y H Q=>Sl x y=true/\Q (.bl (decide (x=y))) H
def Zh:R2:=λx y H Q=>Sl x y=true/\Q (.bl (!decide (x=y))) H
theorem Dl{i j:Int}:decide (V.int i=V.int j)=(i==j):=by
 rw[z04]
 simp
theorem GS{i j:Bool}:decide (V.bl i=V.bl j)=(i==j):=by
 rw[z04]
 simp
theorem Dm{i j:Str}:decide (V.str i=V.str j)=(i==j):=by
 rw[z04]
 simp
theorem Dn{i j:Array UInt8}:decide (V.byt i=V.byt j)=(i.toList==j.toList):=by
 rw[z04]
 cases i
 cases j
 simp
section
variable{X:Cx}{a b c:Expr}{ta tb tc:TE}{pos:Pos}
theorem cm{pins:List (Addr×Obj)}{σ:St}{H:Hp}{s:Shared}{Q:VK}{k k':Bool}(I:Inv X pins σ H s)(q:Q (.bl k) H)(e:k=k'):EP X pins σ Q (.bool k') s:=by
 subst e
 exact⟨.bl k,H,I,rfl,q⟩
theorem Sm:mF X (compareOp .Eq) Zg:=by
 intro pins s σ H x y v u Q I rx ry h
 obtain⟨hs,q⟩:=h
 cases x with
 |non=>
  cases rx
  cases y with
  |non=>cases ry;exact PySem.EqNone.eq_none_none (cm I q (by simp))
  |bl j=>cases ry;exact PySem.EqNone.eq_none_bool (cm I q (by simp))
  |int j=>obtain⟨t',rfl⟩:=ry;exact PySem.EqNone.eq_none_int (cm I q (by simp))
  |str j=>obtain⟨t',rfl⟩:=ry;exact PySem.EqNone.eq_none_str (cm I q (by simp))
  |_=>exact absurd (show false=true from hs) z0J
 |bl i=>
  cases rx
  cases y with
  |non=>cases ry;exact PySem.EqNone.eq_bool_none (cm I q (by simp))
  |bl j=>cases ry;exact eq_bool (cm I q GS)
  |str j=>obtain⟨t',rfl⟩:=ry;exact PySem.EqMixed.eq_bool_str (cm I q (by simp))
  |_=>exact absurd (show false=true from hs) z0J
 |int i=>
  obtain⟨t,rfl⟩:=rx
  cases y with
  |non=>cases ry;exact PySem.EqNone.eq_int_none (cm I q (by simp))
  |int j=>obtain⟨t',rfl⟩:=ry;exact eq_int (cm I q Dl)
  |str j=>obtain⟨t',rfl⟩:=ry;exact PySem.EqMixed.eq_int_str (cm I q (by simp))
  |_=>exact absurd (show false=true from hs) z0J
 |str i=>
  obtain⟨t,rfl⟩:=rx
  cases y with
  |non=>cases ry;exact PySem.EqNone.eq_str_none (cm I q (by simp))
  |bl j=>cases ry;exact PySem.EqMixed.eq_str_bool (cm I q (by simp))
  |int j=>obtain⟨t',rfl⟩:=ry;exact PySem.EqMixed.eq_str_int (cm I q (by simp))
  |str j=>obtain⟨t',rfl⟩:=ry;exact eq_str (cm I q Dm)
  |_=>exact absurd (show false=true from hs) z0J
 |byt i=>
  obtain⟨t,rfl⟩:=rx
  cases y with
  |byt j=>obtain⟨t',rfl⟩:=ry;exact PySem.W.eq_bytes (cm I q Dn)
  |_=>exact absurd (show false=true from hs) z0J
 |_=>cases y<;>exact absurd (show false=true from hs) z0J
theorem Sn:mF X (compareOp .NotEq) Zh:=by
 intro pins s σ H x y v u Q I rx ry h
 obtain⟨hs,q⟩:=h
 cases x with
 |non=>
  cases rx
  cases y with
  |non=>cases ry;exact PySem.EqNone.ne_none_none (cm I q (by simp))
  |bl j=>cases ry;exact PySem.EqNone.ne_none_bool (cm I q (by simp))
  |int j=>obtain⟨t',rfl⟩:=ry;exact PySem.EqNone.ne_none_int (cm I q (by simp))
  |str j=>obtain⟨t',rfl⟩:=ry;exact PySem.EqNone.ne_none_str (cm I q (by simp))
  |_=>exact absurd (show false=true from hs) z0J
 |bl i=>
  cases rx
  cases y with
  |non=>cases ry;exact PySem.EqNone.ne_bool_none (cm I q (by simp))
  |bl j=>cases ry;exact ne_bool (cm I q (congrArg not GS))
  |str j=>obtain⟨t',rfl⟩:=ry;exact PySem.EqMixed.ne_bool_str (cm I q (by simp))
  |_=>exact absurd (show false=true from hs) z0J
 |int i=>
  obtain⟨t,rfl⟩:=rx
  cases y with
  |non=>cases ry;exact PySem.EqNone.ne_int_none (cm I q (by simp))
  |int j=>obtain⟨t',rfl⟩:=ry;exact ne_int (cm I q (congrArg not Dl))
  |str j=>obtain⟨t',rfl⟩:=ry;exact PySem.EqMixed.ne_int_str (cm I q (by simp))
  |_=>exact absurd (show false=true from hs) z0J
 |str i=>
  obtain⟨t,rfl⟩:=rx
  cases y with
  |non=>cases ry;exact PySem.EqNone.ne_str_none (cm I q (by simp))
  |bl j=>cases ry;exact PySem.EqMixed.ne_str_bool (cm I q (by simp))
  |int j=>obtain⟨t',rfl⟩:=ry;exact PySem.EqMixed.ne_str_int (cm I q (by simp))
  |str j=>obtain⟨t',rfl⟩:=ry;exact ne_str (cm I q (congrArg not Dm))
  |_=>exact absurd (show false=true from hs) z0J
 |byt i=>
  obtain⟨t,rfl⟩:=rx
  cases y with
  |byt j=>obtain⟨t',rfl⟩:=ry;exact PySem.W.ne_bytes (cm I q (congrArg not Dn))
  |_=>exact absurd (show false=true from hs) z0J
 |_=>cases y<;>exact absurd (show false=true from hs) z0J
theorem So:mF X (compareOp .Lt) (KS λi j=>.bl (decide (i<j))):=Sk λ_ _ _ _ _ _ _ q=>lt_int q
theorem Sq:mF X (compareOp .Gt) (KS λi j=>.bl (decide (j<i))):=Sk λ_ _ _ _ _ _ _ q=>gt_int q
theorem EU:mF X (compareOp .Lt) (λx y H Q=>∃i j,x=.str i/\y=.str j/\Q (.bl (decide (i.cps.toList<j.cps.toList))) H):=by
 intro pins s σ H x y v u Q I rx ry h
 obtain⟨i,j,rfl,rfl,q⟩:=h
 obtain⟨t,rfl⟩:=rx
 obtain⟨t',rfl⟩:=ry
 exact lt_str (cm I q rfl)
theorem EV:mF X (compareOp .In) (λx y H Q=>∃i j,x=.str i/\y=.str j/\Q (.bl (!(Builtin.Str.occurrences j i 0 j.length 1).isEmpty)) H):=by
 intro pins s σ H x y v u Q I rx ry h
 obtain⟨i,j,rfl,rfl,q⟩:=h
 obtain⟨t,rfl⟩:=rx
 obtain⟨t',rfl⟩:=ry
 exact in_str (cm I q rfl)
theorem OA:mF X (compareOp .Is) (λx y H Q=>y=.non/\Q (.bl (decide (x=.non))) H):=by
 intro pins s σ H x y v u Q I rx ry h
 obtain⟨rfl,q⟩:=h
 cases ry
 refine is_none_gen (cm I q ?_)
 cases x<;>first
  |(cases rx;rfl)
  |(obtain⟨t,rfl⟩:=rx;rfl)
theorem mF.or{f:Value->Value->Sem Value}{r r':R2}(h:mF X f r)(h':mF X f r'):mF X f (λx y H Q=>r x y H Q\/r' x y H Q):=by
 intro pins s σ H x y v u Q I rx ry q
 rcases q with q|q
 ·exact h pins s σ H x y v u Q I rx ry q
 ·exact h' pins s σ H x y v u Q I rx ry q
theorem xR(b:Expr){op:CmpOp}(h:op≠.In:=by decide)(h2:op≠.NotIn:=by decide):behindInMarks op b=false:=by
 have e1:(op==CmpOp.In)=false:=by cases op<;>first|rfl|exact absurd rfl h
 have e2:(op==CmpOp.NotIn)=false:=by cases op<;>first|rfl|exact absurd rfl h2
 cases b<;>simp[behindInMarks,e1,e2]
theorem Dp{op:CmpOp}{r:R2}(ho:mF X (compareOp op) r)(ha:PE X a ta)(hb:PE X b tb)(hm:behindInMarks op b=false):PE X (.Compare a [op] [b] pos) (Oo r ta tb):=by
 intro pins s σ H Q I h
 exact wpAny_Compare1 (Oq ha hb I h λv u s2 x y H2 I2 rx ry q=>ho pins s2 σ H2 x y v u Q I2 rx ry q) hm
def MY(t:TE):TT:=λσ H Q=>t σ H λx H'=>∃k,x=.bl k/\Q k H'
theorem Dq{op:CmpOp}{r:R2}(ho:mF X (compareOp op) r)(ha:PE X a ta)(hb:PE X b tb)(hm:behindInMarks op b=false):PT X (.Compare a [op] [b] pos) (MY (Oo r ta tb)):=by
 intro pins s σ H Q I h
 refine wpAny_isTrue_Compare1 (dN (ha pins s σ H _ I h) λv s1 ⟨x,H1,I1,r1,q1⟩=>dN (hb pins s1 σ H1 _ I1 q1) λu s2 ⟨y,H2,I2,r2,q2⟩=>
  dN (ho pins s2 σ H2 x y v u _ I2 r1 r2 q2) λc s3 ⟨z,H3,I3,r3,k,e,q3⟩=>?_) hm
 subst e
 cases r3
 exact wpAny_truthy_bool ⟨H3,I3,q3⟩
theorem rK:(sizeLine:Nat)<2^63:=by rw[sizeLine_eq];decide
theorem BJ:mF X (binaryOp .Add) (λx y H Q=>∃i j,x=.str i/\y=.str j/\i.length+j.length<=sizeLine/\Q (.str (i++j)) H):=by
 intro pins s σ H x y v u Q I rx ry h
 obtain⟨i,j,rfl,rfl,hz,q⟩:=h
 obtain⟨t,rfl⟩:=rx
 obtain⟨t',rfl⟩:=ry
 exact add_str (λt' tk=>⟨.str (i++j),H,I.tok _,⟨_,rfl⟩,q⟩) hz
theorem vals1{x:V}{us:List Value}(r:Vals [x] us):∃u,us=[u]/\RelV x u:=by
 cases r with
 |cons r1 r2=>cases r2;exact⟨_,rfl,r1⟩
theorem vals2{x y:V}{us:List Value}(r:Vals [x,y] us):∃u w',us=[u,w']/\RelV x u/\RelV y w':=by
 cases r with
 |cons r1 r2=>
  cases r2 with
  |cons r3 r4=>cases r4;exact⟨_,_,rfl,r1,r3⟩
theorem EW(hc:X.calm=true):jd X (.builtin "max") (λxs H Q=>∃i j,xs=[.int i,.int j]/\Q (.int (if j>i then j else i)) H):=by
 intro pins s σ H xs us Q I r h
 obtain⟨i,j,rfl,q⟩:=h
 obtain⟨u,w',rfl,⟨t,rfl⟩,⟨t',rfl⟩⟩:=vals2 r
 refine max_two_ints (I.ok.hd hc) λh' tk k=>⟨_,H,I.kept k,?_,q⟩
 by_cases hj:j>i
 ·rw[if_pos hj,if_pos hj];exact⟨_,rfl⟩
 ·rw[if_neg hj,if_neg hj];exact⟨_,rfl⟩
theorem xS:jd X (.type "str") (λxs H Q=>∃i,xs=[.int i]/\i.natAbs.log2<1920/\Q (.str (toString i)) H):=by
 intro pins s σ H xs us Q I r h
 obtain⟨i,rfl,hz,q⟩:=h
 obtain⟨u,rfl,t,rfl⟩:=vals1 r
 exact PySem.P.str_of_int hz ⟨.str _,H,I.tok _,⟨_,rfl⟩,q⟩
end
structure BK(h:Heap)(x dx C:Addr)(mA:Str->Option Value):Prop where
 obj:h.get? x=some (PySem.W.instObj C dx)
 ns:h.Ns1 dx mA
 ne:dx≠x
theorem wH{h:Heap}{dx:Addr}{mA:Str->Option Value}(n:h.Ns1 dx mA):∃od,h.get? dx=some od/\∀name,PySem.W.lookIn name od=some (mA name):=by
 obtain⟨o,es,ep,ho,hd,hk,_,hm⟩:=n
 refine⟨o,ho,λname=>?_⟩
 have e:=hm name
 unfold nsFind findBy at e
 rw[<-Array.find?_toList]at e
 unfold PySem.W.lookIn
 rw[hd]
 dsimp only
 split
 ·rename_i y q
  rw[q]at e
  exact congrArg some e
 ·rename_i q
  rw[q]at e
  have a:es.toList.any (·.refKey)=false:=by
   rw[List.any_eq_false]
   intro y hy
   obtain⟨z,t,V2⟩:=hk y (z1T.mp hy)
   simp[DictEntry.refKey,V2]
  have a':¬es.toList.any (·.refKey)=true:=by rw[a];exact z0J
  rw[if_neg a']
  exact congrArg some e
theorem BK.look{h:Heap}{x dx C:Addr}{mA:Str->Option Value}(I:BK h x dx C mA):∃od,PySem.W.InstAt h x (PySem.W.instObj C dx) C (some od)/\∀name,PySem.W.lookIn name od=some (mA name):=
 let⟨od,ho,hl⟩:=wH I.ns
 ⟨od,⟨I.obj,rfl,rfl,ho⟩,hl⟩
section
variable{prog:Program}{w:World}{A:Around}{E:Value->Shared->Prop}{s:Shared}{K:PySem.W.Frag}{x dx C f:Addr}{mA:Str->Option Value}{name:Str}{v:Value}
theorem get_map{expr:Bool}{Q:Value->Shared->Prop}(X:K.In s.heap)(I:BK s.heap x dx C mA)(hg:PySem.W.plainGet K C name=true)(hh:PySem.W.hasDictIn K C=true)
  (ha:PySem.W.findIn K (.ref C) name=some none)(hv:mA name=some v)(Sr:PySem.W.handedIn v=true)(h:Q v {s with toks:=s.toks+1}):
  wpAny (model prog w) A (getAttr (.ref x) name expr) Q E s:=by
 obtain⟨od,J,hl⟩:=I.look
 exact PySem.W.get_value X J (z1j hg).1 (PySem.W.findObj_own hh ha rfl (by rw[hl,hv])) Sr h
theorem GU{pl:Sem Bool}{Q:Value×List Value->Shared->Prop}(X:K.In s.heap)(I:BK s.heap x dx C mA)(hg:PySem.W.plainGet K C name=true)
  (hf:PySem.W.findIn K (.ref C) name=some (some (.ref f)))(ht:PySem.W.isFn K (.ref f)=true)(hv:mA name=none)(h:Q (.ref f,[.ref x]) s):
  wpAny (model prog w) A (getMethod (.ref x) name pl) Q E s:=by
 obtain⟨od,J,hl⟩:=I.look
 exact PySem.W.method_fn X J (z1j hg).1 (z1j hg).2 hf (beq_iff_eq.mp ht) (by show(PySem.W.lookIn name od).map (·.isSome)=some false;rw[hl,hv];rfl) h
theorem KY{ns:List Str}{Q:Unit->Shared->Prop}(X:K.In s.heap)(I:BK s.heap x dx C mA)
  (hs:PySem.W.findIn K (.ref C) "__setattr__" =some (some (.builtin "object.__setattr__")))(hp:PySem.W.plainOver K C=true)(ht:PySem.W.takerIn K C name=some none)(hh:PySem.W.hasDictIn K C=true)
  (hw:PySem.Within mA ns)(V3:ns.length<=sizeLine)
  (h:∀h',BK h' x dx C (λy=>if y=name then some v else mA y)->Heap.SameBut dx s.heap h'->Q () {s with heap:=h',toks:=s.toks+2}):
  wpAny (model prog w) A (setAttr (.ref x) name v) Q E s:=by
 obtain⟨od,J,hl⟩:=I.look
 refine PySem.W.set_plain X J hs (PySem.W.osa_open (s:={s with toks:=s.toks+1}) (r:=none) X J hp ht λb=>?_)
 obtain⟨cd,hc,Bv⟩:=PySem.W.any_some hh
 have hx:s.heap.get? x=some ⟨.ref C,some dx,.plain,#[]⟩:=I.obj
 refine wpAny_bind (wpAny_pure (wpAny_bind (wpAny_bind (wpAny_loadPart hx (wpAny_bind (PySem.W.Looks.here (s:={s with toks:=s.toks+1}) (PySem.W.looks_clsIn X hc) ?_))))))
 rw[Bv]
 refine wpAny_pure (a:=some dx) (wpAny_bind (wpAny_pure (wpAny_bind ?_)))
 refine wpAny_nsSet1 (s:={s with toks:=s.toks+1}) I.ns λh' RA o9=>?_
 obtain⟨oD,esD,epD,Zi,Zj,Zk⟩:=RA.count (PySem.Within.cons name v hw)
 refine wpAny_bind (wpAny_lookBehind Zi (by rw[Zj];exact pastItsLine_dict (z0T Zk (by rw[Wk];omega))) ?_)
 exact wpAny_pure (h _ ⟨(o9.2 _ (Ne.symm I.ne)).trans I.obj,RA,I.ne⟩ o9)
theorem GV{R:Result->Shared->Prop}{vs:List Value}{kw:List (Str×Value)}(X:K.In s.heap)(hm:PySem.W.makesIn K C=true)
  (hi:PySem.W.findIn K (.ref C) "__init__" =some (some (.ref f)))(hf:PySem.W.typeIn K (.ref f)=some (.type "function"))
  (h:codeAny (model prog w) (A.under (.builtin "type.__call__" ⟨.ref C::vs,kw⟩)) (.call (.ref f) ⟨.ref (s.heap.objs.size+1)::vs,kw⟩) (PySem.W.InitBack (s.heap.objs.size+1) R)
    {s with heap:=(s.heap.push PySem.W.emptyDict).push (PySem.W.instObj C s.heap.objs.size)}):
  codeAny (model prog w) A (.call (.ref C) ⟨vs,kw⟩) R s:=by
 obtain⟨hh,g,d,t,os⟩:=s
 exact PySem.W.make_core (PySem.W.makes_of X hm) (PySem.W.looks_findIn X hi) (λself=>PySem.W.bind_fn X self hf) (.inl rfl) h
end
def mN(f:Str)(v:V):List (Str×V)->List (Str×V)
 |[]=>[(f,v)]
 |(g,x)::r=>if g=f then(g,v)::r else(g,x)::mN f v r
theorem sF(f g:Str)(v:V):∀fs:List (Str×V),(mN f v fs).lookup g=if g=f then some v else fs.lookup g
 |[]=>by
  show List.lookup g [(f,v)]=_
  by_cases h:g=f
  ·have hb:(g==f)=true:=beq_iff_eq.mpr h
   simp only[List.lookup,hb,if_pos h]
  ·have hb:(g==f)=false:=beq_eq_false_iff_ne.mpr h
   simp only[List.lookup,hb,if_neg h]
 |(k,x)::r=>by
  have ih:=sF f g v r
  rw[show mN f v ((k,x)::r)=(if k=f then(k,v)::r else(k,x)::mN f v r)from rfl]
  by_cases hk:k=f
  ·rw[if_pos hk]
   by_cases h:g=k
   ·have hb:(g==k)=true:=beq_iff_eq.mpr h
    simp only[List.lookup,hb,if_pos (h.trans hk)]
   ·have hb:(g==k)=false:=beq_eq_false_iff_ne.mpr h
    simp only[List.lookup,hb,if_neg (λe:g=f=>h (e.trans hk.symm))]
  ·rw[if_neg hk]
   by_cases h:g=k
   ·have hb:(g==k)=true:=beq_iff_eq.mpr h
    simp only[List.lookup,hb,if_neg (λe:g=f=>hk (h.symm.trans e))]
   ·have hb:(g==k)=false:=beq_eq_false_iff_ne.mpr h
    simp only[List.lookup,hb]
    exact ih
theorem rL(f:Str)(v:V):∀fs:List (Str×V),f∈(mN f v fs).map (·.1)/\∀g,g∈fs.map (·.1)->g∈(mN f v fs).map (·.1)
 |[]=>⟨by simp[mN],λg h=>by simp at h⟩
 |(k,x)::r=>by
  obtain⟨i1,i2⟩:=rL f v r
  rw[show mN f v ((k,x)::r)=(if k=f then(k,v)::r else(k,x)::mN f v r)from rfl]
  by_cases hk:k=f
  ·rw[if_pos hk]
   subst hk
   exact⟨by simp,λg h=>by simpa using h⟩
  ·rw[if_neg hk]
   refine⟨?_,λg h=>?_⟩
   ·rw[z0Q]
    exact X5 _ i1
   ·rw[z0Q]at h⊢
    rcases z0N.mp h with e|e
    ·exact z0N.mpr (.inl e)
    ·exact X5 _ (i2 g e)
theorem sG(f:Str)(v:V):∀fs:List (Str×V),(mN f v fs).length<=fs.length+1
 |[]=>by simp[mN]
 |(k,x)::r=>by
  have ih:=sG f v r
  rw[show mN f v ((k,x)::r)=(if k=f then(k,v)::r else(k,x)::mN f v r)from rfl]
  by_cases hk:k=f
  ·rw[if_pos hk,Wk,Wk];omega
  ·rw[if_neg hk,Wk,Wk];omega
theorem tE.some_of{v:V}{o:Option Value}(r:tE (some v) o):∃u,o=some u/\RelV v u:=by
 cases o with
 |none=>exact(show False from r).elim
 |some u=>exact⟨u,rfl,r⟩
theorem tE.none_of{o:Option Value}(r:tE none o):o=none:=by
 cases o with
 |none=>rfl
 |some u=>exact(show False from r).elim
theorem wI{v:V}{u:Value}(r:RelV v u):PySem.W.handedIn u=true:=by
 cases v with
 |non=>cases(show u=Value.none from r);rfl
 |bl b=>cases(show u=Value.bool b from r);rfl
 |int i=>obtain⟨t,e⟩:=(show∃t,u=Value.int i t from r);cases e;rfl
 |str x=>obtain⟨t,e⟩:=(show∃t,u=Value.str x t from r);cases e;rfl
 |byt b=>obtain⟨t,e⟩:=(show∃t,u=Value.bytes b t from r);cases e;rfl
 |flt b=>obtain⟨t,e⟩:=(show∃t,u=Value.float b t from r);cases e;rfl
 |ref a=>cases(show u=Value.ref a from r);rfl
 |ty n=>cases(show u=Value.type n from r);rfl
section
variable{P:Program}{w:World}{H H':Hp}{h h':Heap}{a C dx:Addr}{fs Ku:List (Str×V)}
theorem tT(dU:tF P w H h)(e:H a=some (.ins C dx fs)):∃mA,BK h a dx C mA/\(∀f,tE (fs.lookup f) (mA f))/\PySem.Within mA (fs.map (·.1))/\fs.length<=1000/\H dx=some (.own a):=by
 obtain⟨d,z,ne,ob,mA,n,r,q⟩:=(show eQ P w H h a (.ins C dx fs)from dU a _ e)
 exact⟨mA,⟨ob,n,ne⟩,r,q,z,d⟩
end
structure v9(K:PySem.W.Frag)(C:Addr):Prop where
 pg:PySem.W.plainGet K C Str.empty=true
 hd:PySem.W.hasDictIn K C=true
 po:PySem.W.plainOver K C=true
 sa:PySem.W.findIn K (.ref C) "__setattr__" =some (some (.builtin "object.__setattr__"))
theorem v9.get{K:PySem.W.Frag}{C:Addr}(c:v9 K C)(f:Str):PySem.W.plainGet K C f=true:=c.pg
def eS(K:PySem.W.Frag)(C:Addr)(f:Str):Prop:=PySem.W.findIn K (.ref C) f=some none
theorem eS.Ss{K:PySem.W.Frag}{C:Addr}{f:Str}(n:eS K C f):PySem.W.takerIn K C f=some none:=by
 unfold PySem.W.takerIn
 rw[show PySem.W.findIn K (.ref C) f=some none from n]
 rfl
structure Meth(K:PySem.W.Frag)(C:Addr)(m:Str)(f:Addr):Prop where
 at_:PySem.W.findIn K (.ref C) m=some (some (.ref f))
 fn:PySem.W.isFn K (.ref f)=true
 kp:PySem.W.keepIn K (.ref f)=true
section
variable{X:Cx}{pins:List (Addr×Obj)}{σ:St}{H:Hp}{s:Shared}{a C dx:Addr}{fs:List (Str×V)}{f:Str}{v:V}{A:Around}{E:Value->Shared->Prop}
theorem uy{b:Bool}{Q:Value->Shared->Prop}(I:Inv X pins σ H s)(e:H a=some (.ins C dx fs))(c:v9 X.K C)(n:eS X.K C f)(l:fs.lookup f=some v)
  (h:∀u s',Inv X pins σ H s'->RelV v u->Q u s'):wpAny (model X.prog X.w) A (getAttr (.ref a) f b) Q E s:=by
 obtain⟨mA,O,r,_,_,_⟩:=tT I.dU e
 obtain⟨u,hu,ru⟩:=tE.some_of (v:=v) (o:=mA f) (by rw[<-l];exact r f)
 exact get_map I.jc O (c.get f) c.hd n hu (wI ru) (h u _ (I.tok _) ru)
theorem k9{m:Str}{g:Addr}{pl:Sem Bool}{Q:Value×List Value->Shared->Prop}(I:Inv X pins σ H s)(e:H a=some (.ins C dx fs))(c:v9 X.K C)(k:Meth X.K C m g)(l:fs.lookup m=none)
  (h:Q (.ref g,[.ref a]) s):wpAny (model X.prog X.w) A (getMethod (.ref a) m pl) Q E s:=by
 obtain⟨mA,O,r,_,_,_⟩:=tT I.dU e
 have hn:mA m=none:=tE.none_of (by rw[<-l];exact r m)
 exact GU I.jc O (c.get m) k.at_ k.fn hn h
theorem uz{y:V}{u:Value}{Q:Unit->Shared->Prop}(I:Inv X pins σ H s)(e:H a=some (.ins C dx fs))(c:v9 X.K C)(n:eS X.K C f)(hl:fs.length<1000)(ry:RelV y u)
  (h:∀s',Inv X pins σ (upd H a (.ins C dx (mN f y fs))) s'->Q () s'):wpAny (model X.prog X.w) A (setAttr (.ref a) f u) Q E s:=by
 obtain⟨mA,O,r,wi,_,ho⟩:=tT I.dU e
 have hz:(fs.map (·.1)).length<=sizeLine:=by rw[X6,sizeLine_eq];omega
 refine KY I.jc O c.sa c.po n.Ss c.hd wi hz λh' O' sb=>h _ ?_
 have hd:∃o,h'.get? dx=some o:=let⟨o,_,_,e',_⟩:=O'.ns;⟨o,e'⟩
 refine I.write (x:=a) (e:=dx) (by rw[e];exact True.intro) (.inr ho) (λb q hb z=>(sb.2 b hb).trans z) hd ?_
 refine⟨by rw[au O.ne];exact ho,?_,O.ne,O'.obj,_,O'.ns,λg=>?_,λg hg=>?_⟩
 ·have:=sG f y fs;omega
 ·show tE ((mN f y fs).lookup g) (if g=f then some u else mA g)
  rw[sF]
  by_cases q:g=f
  ·rw[if_pos q,if_pos q];exact ry
  ·rw[if_neg q,if_neg q];exact r g
 ·by_cases q:g=f
  ·rw[q];exact(rL f y fs).1
  ·refine(rL f y fs).2 g (wi g λz=>hg ?_)
   show(if g=f then some u else mA g)=none
   rw[if_neg q];exact z
theorem Inv.made(I:Inv X pins σ H s):Inv X pins σ (upd (upd H s.heap.objs.size (.own (s.heap.objs.size+1))) (s.heap.objs.size+1) (.ins C s.heap.objs.size []))
  {s with heap:=(s.heap.push PySem.W.emptyDict).push (PySem.W.instObj C s.heap.objs.size)}:=by
 have e1:(s.heap.push PySem.W.emptyDict).get? s.heap.objs.size=some PySem.W.emptyDict:=z0H s.heap rfl
 have e2:((s.heap.push PySem.W.emptyDict).push (PySem.W.instObj C s.heap.objs.size)).get? (s.heap.objs.size+1)=some (PySem.W.instObj C s.heap.objs.size):=by
  have:=z0H (s.heap.push PySem.W.emptyDict) (o:=PySem.W.instObj C s.heap.objs.size) rfl
  rwa[z1D]at this
 have e3:(s.heap.push PySem.W.emptyDict).Ns s.heap.objs.size (λ_=>none):=⟨PySem.W.emptyDict,#[],_,e1,rfl,(λe he=>absurd he (by simp)),λ_=>rfl⟩
 have I1:=I.laid (a:=s.heap.objs.size) (o:=.own (s.heap.objs.size+1)) (h':=s.heap.push PySem.W.emptyDict) (t':=s.toks) (λb u q=>Zv _ q) (U5 _) ⟨_,e1⟩
 refine I1.laid (a:=s.heap.objs.size+1) (o:=.ins C s.heap.objs.size []) (t':=s.toks) (λb u q=>Zv _ q) (Nat.le_of_eq (z1D _ _)) ?_
 have ne:s.heap.objs.size≠s.heap.objs.size+1:=z0V (z1E _)
 refine⟨by rw[au ne,aC],z0S _,ne,e2,λ_=>none,(Heap.Ns1.of_empty e3).at λo q=>Zv _ q,λ_=>True.intro,λy hy=>absurd rfl hy⟩
theorem Dr{prog:Program}{w:World}{env:Env}{e:Expr}{f:Str}{pos:Pos}{s:Shared}{Q:Value->Shared->Prop}(hb:attributeBase e f env (eval e env)=eval e env)
  (h:wpAny (model prog w) A (eval e env) (λo s₁=>wpAny (model prog w) A (getAttr o f true) Q E s₁) E s):wpAny (model prog w) A (eval (.Attribute e f pos) env) Q E s:=
 Attribute_any_ h (by rw[arm_eval_Attribute,hb])
end
def V4(K:PySem.W.Frag)(ta:TE)(f:Str):TE:=λσ H Q=>ta σ H λx H1=>∃a C dx fs v,x=.ref a/\H1 a=some (.ins C dx fs)/\v9 K C/\eS K C f/\fs.lookup f=some v/\Q v H1
def KZ(K:PySem.W.Frag)(ta tv:TE)(f:Str):TS:=λD σ H=>tv σ H λy H1=>ta σ H1 λx H2=>∃a C dx fs,x=.ref a/\H2 a=some (.ins C dx fs)/\v9 K C/\eS K C f/\fs.length<1000/\
 D.nx σ (upd H2 a (.ins C dx (mN f y fs)))
def Su(X:Cx)(op:Operator)(rd:V->V->Hp->VK->Prop):Prop:=
 ∀(pins:List (Addr×Obj)) (s:Shared) (σ:St) (H:Hp) (x y:V) (u v:Value) (Q:VK),Inv X pins σ H s->RelV x u->RelV y v->rd x y H Q->wpAny (model X.prog X.w) X.A (inplaceOp op u v) (EP X pins σ Q) X.xe s
def K0(K:PySem.W.Frag)(ta tv:TE)(rd:V->V->Hp->VK->Prop)(f:Str):TS:=λD σ H=>ta σ H λx H1=>∃a C dx fs v,x=.ref a/\H1 a=some (.ins C dx fs)/\v9 K C/\eS K C f/\fs.lookup f=some v/\
 tv σ H1 λy H2=>rd v y H2 λz H3=>∃OB Ku,H3 a=some (.ins C OB Ku)/\Ku.length<1000/\D.nx σ (upd H3 a (.ins C OB (mN f z Ku)))
section
variable{X:Cx}{o e value:Expr}{f:Str}{pos pos' V5:Pos}{ta tv:TE}
theorem OC(he:PE X e ta)(hb:attributeBase e f X.env (eval e X.env)=eval e X.env):PE X (.Attribute e f pos) (V4 X.K ta f):=by
 intro pins s σ H Q I h
 refine Dr hb (dN (he pins s σ H _ I h) λu s1 cZ=>?_)
 obtain⟨x,H1,I1,rx,a,C,dx,fs,v,ex,ea,c,n,l,q⟩:=cZ
 subst ex
 obtain rfl:u=Value.ref a:=rx
 exact uy I1 ea c n l λu' s2 I2 ru=>⟨v,H1,I2,ru,q⟩
theorem rM(ha:PE X o ta)(hv:PE X value tv)(hs:swapsWith value (some (.Attribute o f pos')) pos.line X.env=pure false):PS X (.Assign [.Attribute o f pos'] value pos) (KZ X.K ta tv f):=by
 intro pins s σ H D I h
 refine plainObj_wpAny_Assign_Attribute (dN (hv pins s σ H _ I h) λu s1 ⟨y,H1,I1,ry,q⟩=>dN (ha pins s1 σ H1 _ I1 q) λov s2 cZ=>?_) hs
 obtain⟨x,H2,I2,rx,a,C,dx,fs,ex,ea,c,n,l,q2⟩:=cZ
 subst ex
 obtain rfl:ov=Value.ref a:=rx
 exact uz I2 ea c n l ry λs3 I3=>⟨σ,_,I3,q2⟩
theorem EX{op:Operator}{rd:V->V->Hp->VK->Prop}(ha:PE X o ta)(hv:PE X value tv)(V6:Su X op rd):PS X (.AugAssign (.Attribute o f V5) op value pos) (K0 X.K ta tv rd f):=by
 intro pins s σ H D I h
 refine wpAny_AugAssign_AttributeAny (dN (ha pins s σ H _ I h) λov s1 cZ=>?_)
 obtain⟨x,H1,I1,rx,a,C,dx,fs,v,ex,ea,c,n,l,q⟩:=cZ
 subst ex
 obtain rfl:ov=Value.ref a:=rx
 refine uy I1 ea c n l λu s2 I2 ru=>dN (hv pins s2 σ H1 _ I2 q) λw3 s3 ⟨y,H2,I3,ry,q3⟩=>dN (V6 pins s3 σ H2 v y u w3 _ I3 ru ry q3) λw4 s4 cZ=>?_
 obtain⟨z,H3,I4,rz,OB,Ku,Zl,l',q4⟩:=cZ
 exact uz I4 Zl c n l' rz λs5 I5=>⟨σ,_,I5,q4⟩
def V7:V->V->Hp->VK->Prop:=λx y H Q=>∃i j,x=.int i/\y=.int j/\Q (.int (i+j)) H
theorem OD:Su X .Add V7:=by
 rintro pins s σ H x y u v Q I rx ry ⟨i,j,rfl,rfl,q⟩
 obtain⟨t,rfl⟩:=(show∃t,u=Value.int i t from rx)
 obtain⟨t',rfl⟩:=(show∃t',v=Value.int j t' from ry)
 exact PyProof.Rows.iadd_int ⟨.int (i+j),H,I.tok _,⟨_,rfl⟩,q⟩
end
section
variable{X:Cx}{pins:List (Addr×Obj)}{σ:St}{H:Hp}{s:Shared}{A:Around}{E:Value->Shared->Prop}{Q:Value->Shared->Prop}{c:Value}{b:Bool}
inductive tI(K:PySem.W.Frag)(H:Hp):V->Value->Prop where
 |non:tI K H .non (.type "NoneType")
 |bl (x:Bool):tI K H (.bl x) (.type "bool")
 |int (i:Int):tI K H (.int i) (.type "int")
 |str (x:Str):tI K H (.str x) (.type "str")
 |flt (x:UInt64):tI K H (.flt x) (.type "float")
 |lst {a:Addr} {xs:List V} (e:H a=some (.lst xs)):tI K H (.ref a) (.type "list")
 |frz {a:Addr} {o:Obj} {xs:List V} (e:H a=some (.frz o (.lst xs))):tI K H (.ref a) (.type "list")
 |tup {a:Addr} {xs:List V} (e:H a=some (.tup xs)):tI K H (.ref a) (.type "tuple")
 |dK {a:Addr} {cW:List (Key×V)} (e:H a=some (.dK cW)):tI K H (.ref a) (.type "dict")
 |dT {a:Addr} {cW:List (List Key×V)} (e:H a=some (.dT cW)):tI K H (.ref a) (.type "dict")
 |ins {a C dx:Addr} {fs:List (Str×V)} (e:H a=some (.ins C dx fs)) (cl:v9 K C) (ha:PySem.W.findIn K (.ref C) "__class__" =some (some (.builtin "object.__class__")))
   (hn:PySem.W.specialIn K (.builtin "object.__class__") "__get__" =some (some (.builtin "getset_descriptor.__get__"))) (GW:PySem.W.takesIn K (.builtin "object.__class__")=some true)
   (hm:PySem.W.mroIn K C (.type "object")=some true):tI K H (.ref a) (.ref C)
theorem EY{x:V}{u t:Value}(I:Inv X pins σ H s)(rx:RelV x u)(ty:tI X.K H x t)(e:PySem.W.kitOne X.K t c=some b)(h:∀tk,Q (.bool b) {s with toks:=tk}):
  wpAny (model X.prog X.w) A (call (.builtin "isinstance") [u,c]) Q E s:=by
 cases ty with
 |non=>cases(show u=Value.none from rx);exact z0X PySem.W.kitx_none I.jc True.intro e (λz=>nomatch z) h
 |bl y=>cases(show u=Value.bool y from rx);exact z0X PySem.W.kitx_bool I.jc True.intro e (λz=>nomatch z) h
 |int i=>obtain⟨t,q⟩:=(show∃t,u=Value.int i t from rx);cases q;exact z0X PySem.W.kitx_int I.jc True.intro e (λz=>nomatch z) h
 |str y=>obtain⟨t,q⟩:=(show∃t,u=Value.str y t from rx);cases q;exact z0X PySem.W.kitx_str I.jc True.intro e (λz=>nomatch z) h
 |flt y=>obtain⟨t,q⟩:=(show∃t,u=Value.float y t from rx);cases q;exact z0X PySem.W.kitx_float I.jc True.intro e (λz=>nomatch z) h
 |@lst a xs ea=>
  cases(show u=Value.ref a from rx)
  obtain⟨_,_,n,_,h1⟩:=(show eQ X.prog X.w H s.heap a (.lst xs)from I.dU a _ ea)
  exact z0X z1r I.jc ⟨_,h1,rfl⟩ e (λz=>nomatch z) h
 |@frz a ob xs ea=>
  cases(show u=Value.ref a from rx)
  obtain⟨_,_,_,n,_,h1⟩:=(show eQ X.prog X.w H s.heap a (.frz ob (.lst xs))from I.dU a _ ea)
  exact z0X z1r I.jc ⟨_,h1,rfl⟩ e (λz=>nomatch z) h
 |@tup a xs ea=>
  cases(show u=Value.ref a from rx)
  obtain⟨_,_,_,p⟩:=(show eQ X.prog X.w H s.heap a (.tup xs)from I.dU a _ ea)
  obtain⟨o,h1,h2,_⟩:=p
  exact z0X PySem.W.kitx_tuple I.jc ⟨o,h1,h2⟩ e (λz=>nomatch z) h
 |@dK a cW ea=>
  cases(show u=Value.ref a from rx)
  obtain⟨_,_,vs,_,p⟩:=(show eQ X.prog X.w H s.heap a (.dK cW)from I.dU a _ ea)
  obtain⟨o,es,ep,h1,h2,_⟩:=p
  exact z0X PySem.W.kitx_dict I.jc ⟨o,h1,h2.1⟩ e (λz=>nomatch z) h
 |@dT a cW ea=>
  cases(show u=Value.ref a from rx)
  obtain⟨_,_,xs,_,o,es,ep,h1,h2,_⟩:=(show eQ X.prog X.w H s.heap a (.dT cW)from I.dU a _ ea)
  exact z0X PySem.W.kitx_dict I.jc ⟨o,h1,h2.1⟩ e (λz=>nomatch z) h
 |@ins a C dx fs ea cl ha hn GW hm=>
  cases(show u=Value.ref a from rx)
  obtain⟨mA,O,_⟩:=tT I.dU ea
  obtain⟨od,J,_⟩:=O.look
  exact z0X (PySem.W.kitx_own (cl.get _) cl.hd ha hn GW hm) I.jc J e (λz=>nomatch z) h
end
structure c8(k:Nat)(A:Around):Prop where
 hd:A.handled=none
 dp:A.depth+3*k+5<recursionLimit
 un:A.units+16*k+200<cLine
theorem c8.mono{j k:Nat}{A:Around}(r:c8 k A)(h:j<=k):c8 j A:=⟨r.hd,by have:=r.dp;omega,by have:=r.un;omega⟩
theorem c8.deeper{k:Nat}{A:Around}(r:c8 (k+1) A)(env:Env):c8 k (A.deeper env):=
 ⟨r.hd,by have:=r.dp;show A.depth+1+3*k+5<_;omega,by have:=r.un;show A.units+3+16*k+200<_;omega⟩
theorem BL{A:Around}{C:Addr}{us:List Value}{kw:List (Str×Value)}:(A.under (.builtin "type.__call__" ⟨.ref C::us,kw⟩)).depth=A.depth+1:=by
 first|rfl|simp[Around.under,Code.weight,Code.isCreation,Code.isGuard,Code.isCaller,Code.frames,Code.isFrame,guardIds]
theorem BM{A:Around}{C:Addr}{us:List Value}{kw:List (Str×Value)}:(A.under (.builtin "type.__call__" ⟨.ref C::us,kw⟩)).units=A.units+1:=by
 first|rfl|simp[Around.under,Code.cUnits,Code.frames,Code.isFrame]
theorem c8.make{k:Nat}{A:Around}(r:c8 (k+1) A)(C:Addr)(us:List Value)(kw:List (Str×Value)):c8 k (A.under (.builtin "type.__call__" ⟨.ref C::us,kw⟩)):=
 ⟨r.hd,by have:=r.dp;rw[BL];omega,by have:=r.un;rw[BM];omega⟩
theorem c8.depth{k:Nat}{A:Around}(r:c8 k A):A.depth<recursionLimit:=by have:=r.dp;omega
theorem c8.units{k:Nat}{A:Around}(r:c8 k A):A.units+64<cLine:=by have:=r.un;omega
def kc:TA:=λ_ H Q=>Q [] H
def eU(ta:TE)(tr:TA):TA:=λσ H Q=>ta σ H λx H1=>tr σ H1 λxs H2=>Q (x::xs) H2
section
variable{X:Cx}{e:Expr}{es:List Expr}{te:TE}{t:TA}{pos:Pos}
theorem bG:PA X [] kc:=λ_ _ _ _ H Q I h=>Calls.spliced_nil ⟨[],H,I,.nil,h⟩
theorem aG(ha:PE X e te)(hr:PA X es t)(hs:starEach (e::es) X.env=(false,eval e X.env)::starEach es X.env:=by rfl):PA X (e::es) (eU te t):=by
 intro pos pins s σ H Q I h
 rw[hs]
 show wpAny _ _ (spliced ((false,eval e X.env)::backTo pos (starEach es X.env))) _ _ s
 refine Calls.spliced_cons (dN (ha pins s σ H _ I h) λu s1 cZ=>?_)
 obtain⟨x,H1,I1,r1,q1⟩:=cZ
 exact dN (hr pos pins s1 σ H1 _ I1 q1) λus s2 ⟨xs,H2,I2,r2,q2⟩=>⟨x::xs,H2,I2,.cons r1 r2,q2⟩
def Sv(t:TA):TE:=λσ H Q=>t σ H λxs H1=>xs.length<=sizeLine/\∀p,H1 p=none->Q (.ref p) (upd H1 p (.tup xs))
def OE(t:TA):TE:=λσ H Q=>t σ H λxs H1=>xs.length<=sizeLine/\∀p,H1 p=none->Q (.ref p) (upd H1 p (.lst xs))
theorem GX{x1}(h:PA X es t):PE X (.Tuple es x1 pos) (Sv t):=by
 intro pins s σ H Q I hq
 refine wpAny_Tuple_spliced (dN (h pos pins s σ H _ I hq) λus s1 ⟨xs,H1,I1,r,z,q⟩=>⟨by rw[<-r.length];exact z,?_⟩)
 have hf:H1 s1.heap.objs.size=none:=I1.dU.fresh (U5 _)
 refine⟨.ref s1.heap.objs.size,upd H1 s1.heap.objs.size (.tup xs),I1.laid (t':=s1.toks) (λb u e=>Zv _ e) (U5 _) ?_,rfl,q _ hf⟩
 exact⟨⟨z,N2.new⟩,us,r,⟨_,z0H _ rfl,rfl,_,rfl⟩⟩
theorem uA(h:PA X es t):PE X (.List es pos) (OE t):=by
 intro pins s σ H Q I hq
 refine wpAny_List_spliced (dN (h pos pins s σ H _ I hq) λus s1 ⟨xs,H1,I1,r,z,q⟩=>⟨by rw[<-r.length];exact z,?_⟩)
 have hf:H1 s1.heap.objs.size=none:=I1.dU.fresh (U5 _)
 refine⟨.ref s1.heap.objs.size,upd H1 s1.heap.objs.size (.lst xs),I1.laid (t':=s1.toks) (λb u e=>Zv _ e) (U5 _) ?_,rfl,q _ hf⟩
 exact⟨z,us,0,r,z0H _ rfl⟩
end
abbrev Sp:=List V->Hp->VK->XK->Prop
abbrev Gv:=List Env->Hp->Shared->XK->Value->Shared->Prop
structure BN(P:Program)(w:World)(K:PySem.W.Frag)(mg:Str->Option Value)(base:Heap)(A:Around)(outer:List Env)(s:Shared)(H:Hp):Prop where
 frames:A.frames=some outer
 mod:Mod K mg base
 bs:∀b o,base.get? b=some o->s.heap.get? b=some o/\H b=none
 bsz:base.objs.size<=s.heap.objs.size
 funs:s.heap.FunFrames base outer
 frf:∀b∈jq outer,H b=none
 dU:tF P w H s.heap
 bare:AllBare s.gens
def CE(outer:List Env)(P:Program)(w:World)(H:Hp)(s:Shared)(Q:VK)(u:Value)(s':Shared):Prop:=
 ∃v H',s'.os=s.os/\AllBare s'.gens/\Un (jq outer) [] H H' s.heap s'.heap/\tF P w H' s'.heap/\RelV v u/\Q v H'
def CR(CX:Gv)(outer:List Env)(P:Program)(w:World)(H:Hp)(s:Shared)(Q:VK)(E:XK)(r:Result)(s':Shared):Prop:=
 match r with
 |.ok (.ret u)=>CE outer P w H s Q u s'
 |.ok _=>False
 |.error e=>CX outer H s E e s'
structure aK(P:Program)(w:World)(K:PySem.W.Frag)(mg:Str->Option Value)(base:Heap)(CX:Gv)(k:Nat)(f:Addr)(fd:FuncData)(ps:List Str)(sp:Sp):Prop where
 len:∀vs H Q E,sp vs H Q E->vs.length=ps.length
 run:∀(A:Around) (outer:List Env) (s:Shared) (H:Hp) (args:Args) (us:List Value) (vs:List V) (Q:VK) (E:XK),c8 k A->BN P w K mg base A outer s H->BindsTo s fd args (ps.zip us)->Vals vs us->sp vs H Q E->
  codeAny (model P w) A (.call (.ref f) args) (CR CX outer P w H s Q E) s
theorem aK.mono{P:Program}{w:World}{K:PySem.W.Frag}{mg:Str->Option Value}{base:Heap}{CX:Gv}{j k:Nat}{f:Addr}{fd:FuncData}{ps:List Str}{sp:Sp}(F:aK P w K mg base CX j f fd ps sp)(h:j<=k):
 aK P w K mg base CX k f fd ps sp:=⟨F.len,λA outer s H args us vs Q E hr=>F.run A outer s H args us vs Q E (hr.mono h)⟩
theorem BN.make{P:Program}{w:World}{K:PySem.W.Frag}{mg:Str->Option Value}{base:Heap}{A:Around}{outer:List Env}{s:Shared}{H:Hp}(e:BN P w K mg base A outer s H)(C:Addr)(us:List Value)(kw:List (Str×Value)):
 BN P w K mg base (A.under (.builtin "type.__call__" ⟨.ref C::us,kw⟩)) outer s H:=⟨by first|exact e.frames|(simpa[Around.under,Code.envs,Code.isFrame,pushEnvs]using e.frames),e.mod,e.bs,e.bsz,e.funs,e.frf,e.dU,e.bare⟩
section
variable{X:Cx}{pins:List (Addr×Obj)}{σ:St}{H:Hp}{s s':Shared}
theorem Inv.K1(I:Inv X pins σ H s):BN X.prog X.w X.K X.mg X.base X.A X.stack s H:=
 ⟨I.ok.frames,I.ok.mod,I.bs,z0T I.ok.bsz I.sz,I.stack,I.qh,I.dU,I.bare⟩
theorem Inv.after{Q:VK}{u:Value}(I:Inv X pins σ H s)(h:CE X.stack X.prog X.w H s Q u s'):EP X pins σ Q u s':=by
 obtain⟨v,H',os,bare,un,dU,r,q⟩:=h
 obtain⟨hh,g,d,t,Zm⟩:=s'
 obtain rfl:Zm=s.os:=os
 exact⟨v,H',I.call (h':=hh) (g':=g) (d':=d) (t':=t) (ch:=[]) un dU bare (λb z=>absurd z (by simp)),r,q⟩
end
def uB(sp:Sp)(dvs:List V)(E:XK)(t:TA):TE:=λσ H Q=>t σ H λvs H1=>sp (vs++dvs) H1 Q E
def MZ(C:Addr)(m:Str)(sp:Sp)(dvs:List V)(E:XK)(ta:TE)(t:TA):TE:=λσ H Q=>ta σ H λx H1=>∃a dx fs,x=.ref a/\H1 a=some (.ins C dx fs)/\fs.lookup m=none/\
 t σ H1 λvs H2=>sp (x::(vs++dvs)) H2 Q E
def M0(C:Addr)(sp:Sp)(dvs:List V)(E:XK)(t:TA):TE:=λσ H Q=>t σ H λvs H1=>∀x dx,H1 x=none->H1 dx=none->dx≠x->
 sp (.ref x::(vs++dvs)) (upd (upd H1 dx (.own x)) x (.ins C dx [])) (λv H2=>v=.non/\Q (.ref x) H2) E
def Binds(K:PySem.W.Frag)(fd:FuncData)(ps:List Str)(ds:List Value):Prop:=
 ∀(s:Shared) (us:List Value),K.In s.heap->(us++ds).length=ps.length->BindsTo s fd ⟨us,[]⟩ (ps.zip (us++ds))
theorem Binds.all{K:PySem.W.Frag}{fd:FuncData}{ps:List Str}(h:∀us:List Value,us.length=ps.length->bindArgs fd ⟨us,[]⟩=pure (ps.zip us)):Binds K fd ps []:=λs us _ hl=>by
 rw[z0Y]at hl⊢
 exact .of_eq (h us hl)
def Passes(CX:Gv)(X:Cx)(E:XK):Prop:=∀(pins:List (Addr×Obj)) (σ:St) (H:Hp) (s:Shared) (e:Value) (s':Shared),Inv X pins σ H s->CX X.stack H s E e s'->X.xe e s'
section
variable{X:Cx}{CX:Gv}{k:Nat}{f C:Addr}{fd:FuncData}{ps:List Str}{sp:Sp}{dvs:List V}{ds:List Value}{E:XK}{x m:Str}{p pos apos:Pos}{e o:Expr}{es:List Expr}{ta:TE}{t:TA}
theorem rN{pins:List (Addr×Obj)}{σ:St}{H:Hp}{s:Shared}{Q:VK}{us:List Value}{vs:List V}(F:aK X.prog X.w X.K X.mg X.base CX k f fd ps sp)(hr:c8 k X.A)(hb:Binds X.K fd ps ds)(hd:Vals dvs ds)(hx:Passes CX X E)
  (I:Inv X pins σ H s)(r:Vals vs us)(h:sp (vs++dvs) H Q E):wpAny (model X.prog X.w) X.A (call (.ref f) us) (EP X pins σ Q) X.xe s:=by
 have r2:Vals (vs++dvs) (us++ds):=r.append hd
 have hl:(us++ds).length=ps.length:=by rw[<-r2.length];exact F.len _ _ _ _ h
 refine wpAny_call (codeAny_mono (F.run X.A X.stack s H ⟨us,[]⟩ (us++ds) (vs++dvs) Q E hr I.K1 (hb s us I.jc hl) r2 h) λr s' hq=>?_)
 cases r with
 |error e=>exact hx pins σ H s e s' I hq
 |ok fl=>
  cases fl with
  |ret u=>exact I.after hq
  |next=>exact False.elim hq
  |brk=>exact False.elim hq
  |cont=>exact False.elim hq
theorem lg(F:aK X.prog X.w X.K X.mg X.base CX k f fd ps sp)(hr:c8 k X.A)(hg:Gl X x)(hm:X.mg x=some (.ref f))(hk:PySem.W.keepIn X.K (.ref f)=true)(hb:Binds X.K fd ps ds)(hd:Vals dvs ds)(hx:Passes CX X E)
  (ha:PA X (e::es) t)(mO:(x==("__debug__" :Str))=false:=by decide)(he:starEach (e::es) X.env=(false,eval e X.env)::starEach es X.env:=by rfl)(hpl:(backTo pos (starEach es X.env)).any (·.1)=false:=by rfl):
  PE X (.Call (.Name x p) (e::es) [] pos) (uB sp dvs E t):=by
 intro pins s σ H Q I h
 refine wpAny_Call_Name_kw (j3 I hg hm ?_ mO)
 refine z0x (h₀:=X.base) I.ok.mod.ES hk (dN (ha pos pins s σ H _ I h) λus s1 ⟨vs,H1,I1,r,q⟩=>⟨I1.jc,?_⟩) he hpl
 exact rN F hr hb hd hx I1 r q
theorem K2{pl:Sem Bool}(he:PE X o ta)(c:v9 X.K C)(hm:Meth X.K C m f)(F:aK X.prog X.w X.K X.mg X.base CX k f fd ps sp)(hr:c8 k X.A)(hb:Binds X.K fd ps ds)(hd:Vals dvs ds)(hx:Passes CX X E)(ha:PA X (e::es) t)
  (kJ:starEach (e::es) X.env=(false,eval e X.env)::starEach es X.env:=by rfl)(hpl:(backTo pos (starEach es X.env)).any (·.1)=false:=by rfl)
  (ht:eval (.Call (.Attribute o m apos) (e::es) [] pos) X.env=(do
    let ov<-eval o X.env
    standAt apos.atName
    let(f,first)<-holding [ov] (getMethod ov m pl)
    callWith pos f first (backTo pos (starEach (e::es) X.env)) (backToKw pos (keywordEach [] X.env))):=by rfl):
  PE X (.Call (.Attribute o m apos) (e::es) [] pos) (MZ C m sp dvs E ta t):=by
 intro pins s σ H Q I h
 refine z0y (pl:=pl) (dN (he pins s σ H _ I h) λu s1 cZ=>?_) ht
 obtain⟨x,H1,I1,rx,a,dx,fs,ex,ea,l,q⟩:=cZ
 subst ex
 obtain rfl:u=Value.ref a:=rx
 refine k9 I1 ea c hm l ?_
 refine z0x (first:=[.ref a]) (h₀:=X.base) I.ok.mod.ES hm.kp (dN (ha pos pins s1 σ H1 _ I1 q) λus s2 ⟨vs,H2,I2,r,q2⟩=>⟨I2.jc,?_⟩) kJ hpl
 exact rN (us:=.ref a::us) (vs:=.ref a::vs) F hr hb hd hx I2 (.cons rfl r) q2
theorem uC{pl:Sem Bool}(he:PE X o ta)(c:v9 X.K C)(hm:Meth X.K C m f)(F:aK X.prog X.w X.K X.mg X.base CX k f fd ps sp)(hr:c8 k X.A)(hb:Binds X.K fd ps ds)(hd:Vals dvs ds)(hx:Passes CX X E)
  (ht:eval (.Call (.Attribute o m apos) [] [] pos) X.env=(do
    let ov<-eval o X.env
    standAt apos.atName
    let(f,first)<-holding [ov] (getMethod ov m pl)
    callWith pos f first (backTo pos (starEach [] X.env)) (backToKw pos (keywordEach [] X.env))):=by rfl):
  PE X (.Call (.Attribute o m apos) [] [] pos) (MZ C m sp dvs E ta kc):=by
 intro pins s σ H Q I h
 refine z0y (pl:=pl) (dN (he pins s σ H _ I h) λu s1 cZ=>?_) ht
 obtain⟨x,H1,I1,rx,a,dx,fs,ex,ea,l,q⟩:=cZ
 subst ex
 obtain rfl:u=Value.ref a:=rx
 refine k9 I1 ea c hm l ?_
 exact PySem.W.callWith_K0 (first:=[.ref a]) I1.jc hm.kp (rN (us:=[.ref a]) (vs:=[.ref a]) F hr hb hd hx I1 (.cons rfl .nil) q)
structure Mk(K:PySem.W.Frag)(C f:Addr):Prop where
 makes:PySem.W.makesIn K C=true
 init:PySem.W.findIn K (.ref C) "__init__" =some (some (.ref f))
 fn:PySem.W.isFn K (.ref f)=true
 kp:PySem.W.keepIn K (.ref C)=true
theorem GY{pins:List (Addr×Obj)}{σ:St}{H:Hp}{s:Shared}{Q:VK}{us:List Value}{vs:List V}(M:Mk X.K C f)(F:aK X.prog X.w X.K X.mg X.base CX k f fd ps sp)(hr:c8 (k+1) X.A)(hb:Binds X.K fd ps ds)(hd:Vals dvs ds)
  (hx:Passes CX X E)(I:Inv X pins σ H s)(r:Vals vs us)
  (h:∀x dx,H x=none->H dx=none->dx≠x->sp (.ref x::(vs++dvs)) (upd (upd H dx (.own x)) x (.ins C dx [])) (λv H2=>v=.non/\Q (.ref x) H2) E):
  wpAny (model X.prog X.w) X.A (call (.ref C) us) (EP X pins σ Q) X.xe s:=by
 have hq:=h (s.heap.objs.size+1) s.heap.objs.size (I.dU.fresh (z1Y _)) (I.dU.fresh (U5 _)) (z0V (z1E _))
 have I2:=Inv.made (C:=C) I
 have r2:Vals (V.ref (s.heap.objs.size+1)::(vs++dvs)) (Value.ref (s.heap.objs.size+1)::(us++ds)):=.cons rfl (r.append hd)
 have hl:(Value.ref (s.heap.objs.size+1)::us++ds).length=ps.length:=by
  have e:=r2.length
  rw[F.len _ _ _ _ hq]at e
  exact e.symm
 refine wpAny_call (GV (f:=f) I.jc M.makes M.init (beq_iff_eq.mp M.fn) (codeAny_mono (F.run _ X.stack _ _ ⟨Value.ref (s.heap.objs.size+1)::us,[]⟩ (Value.ref (s.heap.objs.size+1)::(us++ds)) _ _ E (hr.make C us [])
  (I2.K1.make C us []) (hb _ (Value.ref (s.heap.objs.size+1)::us) I2.jc hl) r2 hq) λr s' GZ=>?_))
 cases r with
 |error e=>exact hx pins σ _ _ e s' I2 GZ
 |ok fl=>
  cases fl with
  |ret u=>
   obtain⟨v,H',I3,rv,ev,q3⟩:=I2.after GZ
   subst ev
   exact⟨rv,⟨V.ref (s.heap.objs.size+1),H',I3,rfl,q3⟩⟩
  |next=>exact False.elim GZ
  |brk=>exact False.elim GZ
  |cont=>exact False.elim GZ
theorem qp(M:Mk X.K C f)(F:aK X.prog X.w X.K X.mg X.base CX k f fd ps sp)(hr:c8 (k+1) X.A)(hg:Gl X x)(hm:X.mg x=some (.ref C))(hb:Binds X.K fd ps ds)(hd:Vals dvs ds)(hx:Passes CX X E)
  (ha:PA X (e::es) t)(mO:(x==("__debug__" :Str))=false:=by decide)(he:starEach (e::es) X.env=(false,eval e X.env)::starEach es X.env:=by rfl)(hpl:(backTo pos (starEach es X.env)).any (·.1)=false:=by rfl):
  PE X (.Call (.Name x p) (e::es) [] pos) (M0 C sp dvs E t):=by
 intro pins s σ H Q I h
 refine wpAny_Call_Name_kw (j3 I hg hm ?_ mO)
 refine z0x (h₀:=X.base) I.ok.mod.ES M.kp (dN (ha pos pins s σ H _ I h) λus s1 ⟨vs,H1,I1,r,q⟩=>⟨I1.jc,?_⟩) he hpl
 exact GY M F hr hb hd hx I1 r q
end
structure aU(N P:List Str)(sc:Scope):Prop where
 kind:sc.kind=.function
 co:sc.isCoroutine=false
 gen:sc.isGenerator=false
 nd:N.Nodup
 pre:N.take P.length=P
 par:∀x∈P,sc.names.lookup x=some .local\/sc.names.lookup x=some .cell
 nofree:∀y∈sc.names,y.2≠.free
theorem wJ{kindOf:Str->Option NameKind}{x:Str}:∀{binds:List (Str×Value)} {m:Str->Option Value},(∀v,(x,v)∉binds)->bindL kindOf binds m x=m x
 |[],_,_=>rfl
 |(n,v)::r,m,h=>by
  unfold bindL
  rw[wJ λw hw=>h w (X5 _ hw)]
  split
  ·have:x≠n:=by rintro rfl;exact h v RF
   simp[this]
  ·rfl
theorem wK{kindOf:Str->Option NameKind}{x:Str}:∀{binds:List (Str×Value)} {m:Str->Option Value},(∀v,(x,v)∉binds)->bindC kindOf binds m x=m x
 |[],_,_=>rfl
 |(n,v)::r,m,h=>by
  unfold bindC
  rw[wK λw hw=>h w (X5 _ hw)]
  split
  ·rfl
  ·have:x≠n:=by rintro rfl;exact h v RF
   simp[this]
theorem wL{kindOf:Str->Option NameKind}{x:Str}{v:Value}:∀{P:List Str} {vs:List Value} {i:Nat} {m:Str->Option Value},P.Nodup->P[i]?=some x->vs[i]?=some v->kindOf x=some .local->
  bindL kindOf (P.zip vs) m x=some v
 |[],_,_,_,_,h,_,_=>by simp at h
 |_::_,[],_,_,_,_,h,_=>by simp at h
 |p::P,w::vs,0,m,nd,h1,h2,hk=>by
  simp at h1 h2;subst h1;subst h2
  show bindL kindOf ((p,w)::P.zip vs) m p=_
  unfold bindL
  rw[wJ λv hv=>(z0c.mp nd).1 (z1w hv).1,if_pos hk]
  simp
 |p::P,w::vs,i+1,m,nd,h1,h2,hk=>by
  show bindL kindOf ((p,w)::P.zip vs) m x=_
  unfold bindL
  exact wL (i:=i) (z0c.mp nd).2 (by simpa using h1) (by simpa using h2) hk
theorem wM{kindOf:Str->Option NameKind}{x:Str}{v:Value}:∀{P:List Str} {vs:List Value} {i:Nat} {m:Str->Option Value},P.Nodup->P[i]?=some x->vs[i]?=some v->kindOf x≠some .local->
  bindC kindOf (P.zip vs) m x=some v
 |[],_,_,_,_,h,_,_=>by simp at h
 |_::_,[],_,_,_,_,h,_=>by simp at h
 |p::P,w::vs,0,m,nd,h1,h2,hk=>by
  simp at h1 h2;subst h1;subst h2
  show bindC kindOf ((p,w)::P.zip vs) m p=_
  unfold bindC
  rw[wK λv hv=>(z0c.mp nd).1 (z1w hv).1,if_neg hk]
  simp
 |p::P,w::vs,i+1,m,nd,h1,h2,hk=>by
  show bindC kindOf ((p,w)::P.zip vs) m x=_
  unfold bindC
  exact wM (i:=i) (z0c.mp nd).2 (by simpa using h1) (by simpa using h2) hk
def start(N:List Str)(vs:List V):St:=vs.map some++List.replicate (N.length-vs.length) none
def lh(CX:Gv)(P:Program)(w:World)(K:PySem.W.Frag)(mg:Str->Option Value)(base:Heap)(N:List Str)(qual:Str)(scope:Scope)(f:Addr)(cd:Value)(A:Around)(outer:List Env)(s:Shared)(H:Hp)(E:XK):Cx where
 prog:=P
 w:=w
 K:=K
 mg:=mg
 base:=base
 A:=A.deeper (envOfC qual scope s.heap.objs.size f cd)
 N:=N
 s₀:=s
 H₀:=H
 env:=envOfC qual scope s.heap.objs.size f cd
 outer:=outer
 stack:=envOfC qual scope s.heap.objs.size f cd::outer
 ex:=[]
 calm:=true
 fn:=λ_=>true
 pn:=[]
 xe:=λe s'=>wpAny (model P w) (A.deeper (envOfC qual scope s.heap.objs.size f cd)) (leaving (envOfC qual scope s.heap.objs.size f cd) e) (λ_ K3=>CX outer H s E e K3) (λe' K3=>CX outer H s E e' K3) s'
theorem zL{sc:Scope}{n:Nat}{x:Str}(h:sc.names.lookup x=some .cell):∃c,(cellsFrom n sc.names []).lookup x=some c:=by
 have q:=z1z sc.names n [] (.inl h)
 exact z1F.mp q
theorem EZ{CX:Gv}{P:Program}{w:World}{K:PySem.W.Frag}{mg:Str->Option Value}{base:Heap}{N ps:List Str}{qual:Str}{scope:Scope}{f:Addr}{cd:Value}{A:Around}{outer:List Env}{s s1:Shared}{H:Hp}{E:XK}{us:List Value}{vs:List V}
  (S:aU N ps scope)(hd:A.handled=none)(e0:BN P w K mg base A outer s H)(hl:vs.length=ps.length)(r:Vals vs us)
  (x:InCallC s s.heap.objs.size (bindL (envOfC qual scope s.heap.objs.size f cd).kindOf (ps.zip us) λ_=>none) (cellsFrom (s.heap.objs.size+1) scope.names []) (bindC (envOfC qual scope s.heap.objs.size f cd).kindOf (ps.zip us) λ_=>none) s1):
  Inv (lh CX P w K mg base N qual scope f cd A outer s H E) [] (start N vs) H s1:=by
 have hpl:ps.length<=N.length:=by have:=congrArg List.length S.pre;rw[z0a]at this;omega
 obtain⟨h1,tk,rfl,hk⟩:=x.done
 have Sw:∀b:Addr,b∉(lh CX P w K mg base N qual scope f cd A outer s H E).ex:=λb z=>absurd (show b∈([]:List Addr)from z) (by simp)
 refine⟨⟨e0.mod,S.kind,rfl,rfl,U5 _,λy z c h1 h2=>?_,λy hy=>?_,λy c _ h=>?_,λ_=>hd,Around.frames_deeper e0.frames,.inr ⟨rfl,rfl⟩,λb z=>absurd z (Sw b),e0.bs,e0.bsz,λb _ _=>Sw b,λb z=>absurd z (Sw b),e0.funs,e0.frf⟩,
  rfl,e0.bare,Un.kept hk,⟨_,x.toInCall.ns,λi y v h1 h2 h3=>?_⟩,λy c h=>⟨_,x.cell y c h⟩,e0.dU.fresh (U5 _),λy c h=>?_,λp hp=>absurd (show p∈([]:List (Addr×Obj))from hp) (by simp),e0.dU.kept hk,?_⟩
 ·exact name_of_addr x.apart (z0h h1) (z0h h2)
 ·have hy:scope.names.lookup y=some .cell\/scope.names.lookup y=some .free:=hy
  rcases hy with hy|hy
  ·exact zL hy
  ·exact absurd rfl (S.nofree _ (z0h hy))
 ·exact z2A (x.above y c (z0h h))
 ·have hi:i<vs.length:=by
    unfold start at h2
    by_cases hi:i<vs.length
    ·exact hi
    ·rw[z1n (by simpa using hi)]at h2
     rw[z1K]at h2
     split at h2<;>cases h2
  have ha:vs[i]?=some v:=by
   unfold start at h2
   rw[z1A (by simpa using hi),z0f]at h2
   cases e:vs[i]? with
   |none=>rw[e]at h2;cases h2
   |some a=>rw[e]at h2;cases h2;rfl
  obtain⟨u,hu,rv⟩:=r.get ha
  have hp:ps[i]?=some y:=by
   rw[<-S.pre,List.getElem?_take_of_lt (by omega)];exact h1
  have XZ:ps.Nodup:=by rw[<-S.pre];exact S.nd.sublist (List.take_sublist _ _)
  refine⟨u,rv,?_⟩
  rcases S.par y (z1g hp)with k|k
  ·exact .inl ⟨k,wL XZ hp hu k⟩
  ·obtain⟨c,e⟩:=zL (n:=s.heap.objs.size+1) k
   refine .inr ⟨.inl k,c,e,?_⟩
   have q:=x.cell y c e
   rw[wM XZ hp hu (by show scope.names.lookup y≠_;rw[k];decide)]at q
   exact q
 ·exact e0.dU.fresh (z2A (x.above y c (z0h h)))
 ·unfold start
  show _=N.length
  rw[z0E,X6,z1e]
  omega
theorem G0{CX:Gv}{P:Program}{w:World}{K:PySem.W.Frag}{mg:Str->Option Value}{base:Heap}{k:Nat}{f:Addr}{name qual:Str}{params:Arguments}{body:List Stmt}{scope:Scope}{dV kV doc pm cR ct oc:Value}{an od:Option Addr}
  {Kx:Array (Option Value)}{N ps:List Str}{sp:Sp}(lk:K.lookup f=some ⟨oc,od,.func (PySem.W.fnOf name qual params body scope dV kV doc pm an cR ct),Kx⟩)(j0:PySem.W.codeIn K cR qual=true)(S:aU N ps scope)
  (len:∀vs H Q E,sp vs H Q E->vs.length=ps.length)
  (zM:∀(A:Around) (outer:List Env) (s:Shared) (H:Hp) (vs:List V) (Q:VK) (E:XK),c8 k (A.deeper (envOfC qual scope s.heap.objs.size f cR))->sp vs H Q E->
    ∃t,xM (lh CX P w K mg base N qual scope f cR A outer s H E) body t/\t {nx:=λ_ H'=>Q .non H',rt:=Q} (start N vs) H):
  aK P w K mg base CX (k+1) f (PySem.W.fnOf name qual params body scope dV kV doc pm an cR ct) ps sp:=by
 refine⟨len,λA outer s H args us vs Q E hr e0 hb r RB=>?_⟩
 have hl:=len _ _ _ _ RB
 have KX:K.In s.heap:=e0.mod.ES.keeps λb o e=>(e0.bs b o e).1
 have lim:s.heap.NoLimit:=e0.mod.nolimit.keeps λb o e=>(e0.bs b o e).1
 have Sx:∀y∈ps.zip us,scope.names.lookup y.1=some .local\/(scope.names.lookup y.1=some .cell/\((cellsFrom (s.heap.objs.size+1) scope.names []).lookup y.1).isSome=true):=λ⟨n,v⟩ hy=>by
  rcases S.par n (z1w hy).1 with q|q
  ·exact .inl q
  ·exact .inr ⟨q,z1z _ _ _ (.inl q)⟩
 refine codeAny_call_function hr.depth (KX _ _ lk) rfl S.co S.gen rfl (PySem.W.codeRec_of KX j0) (hb _ _ _ _ ?_)
 refine wpAny_newFunctionEnv_cells S.kind Sx λenv he s1 x=>?_
 subst he
 refine⟨lim.keeps x.toInCall.keep,codeAny_func ?_⟩
 obtain⟨t,ht,hq⟩:=zM A outer s H vs Q E (hr.deeper _) RB
 have I:Inv (lh CX P w K mg base N qual scope f cR A outer s H E) [] (start N vs) H s1:=EZ S hr.hd e0 hl r x
 refine wpAny_mono (ht [] s1 (start N vs) H _ I hq) (λfl s' hs=>?_) λe s' hs=>hs
 have fin:∀{σ':St} {H':Hp} {v:V} {u:Value},Inv (lh CX P w K mg base N qual scope f cR A outer s H E) [] σ' H' s'->RelV v u->Q v H'->CE outer P w H s Q u s':=
  λ{σ' H' v u} J rv q=>⟨v,H',J.os,J.bare,J.base,J.dU,rv,q⟩
 cases fl with
 |ret u=>
  obtain⟨v,σ',H',J,rv,q⟩:=hs
  exact fin J rv q
 |next=>
  obtain⟨σ',H',J,q⟩:=hs
  exact fin (v:=V.non) (u:=Value.none) J rfl q
 |brk=>
  obtain⟨_,_,_,q⟩:=hs
  exact False.elim q
 |cont=>
  obtain⟨_,_,_,q⟩:=hs
  exact False.elim q
section
variable{X:Cx}{x:Str}{p pos:Pos}{e:Expr}{es:List Expr}{t:TA}{id T:String}{r:List V->Hp->VK->Prop}
def Sz(r:List V->Hp->VK->Prop)(t:TA):TE:=λσ H Q=>t σ H λvs H1=>r vs H1 Q
theorem je(hc:jd X (.builtin id) r)(hg:Gl X x)(hm:X.mg x=none)(hv:bootBuiltins x=some (.builtin id))(ha:PA X (e::es) t)(hn:x≠ "__name__" :=by decide)(mO:(x==("__debug__" :Str))=false:=by decide)
  (he:starEach (e::es) X.env=(false,eval e X.env)::starEach es X.env:=by rfl)(hpl:(backTo pos (starEach es X.env)).any (·.1)=false:=by rfl):PE X (.Call (.Name x p) (e::es) [] pos) (Sz r t):=by
 intro pins s σ H Q I h
 refine wpAny_Call_Name_kw (ux I hg hm hv ?_ hn mO)
 exact PyProof.Rows.callWith_builtin1 (dN (ha pos pins s σ H _ I h) λus s1 ⟨vs,H1,I1,r1,q1⟩=>hc pins s1 σ H1 vs us Q I1 r1 q1) he hpl
theorem kN(hc:jd X (.type T) r)(hg:Gl X x)(hm:X.mg x=none)(hv:bootBuiltins x=some (.type T))(ha:PA X (e::es) t)(hn:x≠ "__name__" :=by decide)(mO:(x==("__debug__" :Str))=false:=by decide)
  (he:starEach (e::es) X.env=(false,eval e X.env)::starEach es X.env:=by rfl)(hpl:(backTo pos (starEach es X.env)).any (·.1)=false:=by rfl):PE X (.Call (.Name x p) (e::es) [] pos) (Sz r t):=by
 intro pins s σ H Q I h
 refine wpAny_Call_Name_kw (ux I hg hm hv ?_ hn mO)
 exact PyProof.Rows.callWith_type1 (dN (ha pos pins s σ H _ I h) λus s1 ⟨vs,H1,I1,r1,q1⟩=>hc pins s1 σ H1 vs us Q I1 r1 q1) he hpl
end
end L2
namespace HT
open PySem PyProof.Rows
section
variable{prog:Program}{w:World}{A:Around}{E:Value->Shared->Prop}{s:Shared}
theorem K4{t b:Addr}{vs ws:List Value}{Q:Value->Shared->Prop}(ht:IsTup s.heap t vs.toArray)(hb:IsTup s.heap b ws.toArray)(hv:vs≠[])
  (h1:ws=[]->Q (.ref t) s)(h2:ws≠[]->Q (.ref s.heap.objs.size) {s with heap:=s.heap.push {cls:=.type "tuple",data:=.seq (vs++ws).toArray}})
  (V3:vs.length+ws.length<=sizeLine):wpAny (model prog w) A (binaryOp .Add (.ref t) (.ref b)) Q E s:=by
 obtain⟨⟨cls,dd,data,sl⟩,ho,hc,n,hd⟩:=id ht
 obtain⟨⟨Zn,X0,data2,X1⟩,RC,U1,n2,hd2⟩:=id hb
 simp only at hc hd U1 hd2
 subst hc hd U1 hd2
 have e:vs.toArray++ws.toArray=(vs++ws).toArray:=by simp
 by_cases hw:ws=[]
 ·exact concat_meets ⟨_,ho,rfl⟩ ⟨_,RC,rfl⟩ noFill_tuple_add seq_tuple_add z1Z z1V (z1U _ _)
   (tuple_addW1 t b vs.toArray ws.toArray n n2 dd X0 sl X1 (by simpa using hv) (by simp[hw])) ⟨ho,RC,h1 hw⟩
 ·refine concat_meets ⟨_,ho,rfl⟩ ⟨_,RC,rfl⟩ noFill_tuple_add seq_tuple_add z1Z z1V (z1U _ _)
    (tuple_addW2 t b vs.toArray ws.toArray n n2 dd X0 sl X1 (by simpa using hv) (by simpa using hw) (by rw[X4,X4];exact V3)) ⟨ho,RC,?_⟩
  rw[e]
  exact h2 hw
def jo(n d:Nat):Option Int->Nat
 |none=>d
 |some v=>if v<0 then(v+(n:Int)).toNat else min v.toNat n
theorem OF(n d:Nat)(hd:d<=n)(o:Option Int):jo n d o<=n:=by
 cases o with
 |none=>exact hd
 |some v=>
  show(if v<0 then(v+(n:Int)).toNat else min v.toNat n)<=n
  by_cases hv:v<0
  ·rw[if_pos hv];omega
  ·rw[if_neg hv];exact Nat.min_le_right _ _
theorem Ds(v:Int)(n d:Nat):(if v<0 then max (v+(n:Int)) 0 else min v (n:Int))=((jo n d (some v):Nat):Int):=by
 show(if v<0 then max (v+(n:Int)) 0 else min v (n:Int))=(((if v<0 then(v+(n:Int)).toNat else min v.toNat n):Nat):Int)
 by_cases hv:v<0
 ·simp only[if_pos hv];omega
 ·simp only[if_neg hv];omega
theorem BO(lo hi:Option Int)(n:Nat):Builtin.Slice.sliceAdjust lo hi 1 (n:Int)=(((jo n 0 lo:Nat):Int),((jo n n hi:Nat):Int)):=by
 have h1:¬((1:Int)<0):=by omega
 unfold Builtin.Slice.sliceAdjust
 simp only[h1,if_false]
 refine Prod.ext ?_ ?_
 ·cases lo with
  |none=>rfl
  |some v=>exact Ds v n 0
 ·cases hi with
  |none=>rfl
  |some v=>exact Ds v n n
theorem BP(i j:Nat):Builtin.Slice.slicePlaces (i:Int) (j:Int) 1=j-i:=by
 unfold Builtin.Slice.slicePlaces
 have h1:(1:Int)>0:=by omega
 simp only[h1,if_true,Int.ediv_one]
 split<;>omega
theorem uD{v:Value}{o:Option Int}{Q:Option Int->Shared->Prop}(p:IsPart v o)(h:Q o s):wpAny (model prog w) A (Builtin.Slice.slicePartIndex v) Q E s:=by
 cases p with
 |none=>exact slicePart_none h
 |int i t=>exact slicePart_int h
theorem rO{sl:Addr}{vl vu:Value}{lo hi:Option Int}{n:Nat}{Q:Int×Int×Nat->Shared->Prop}(hs:s.heap.IsSliceOf sl vl vu .none)(pl:IsPart vl lo)(pu:IsPart vu hi)
  (h:Q (((jo n 0 lo:Nat):Int),1,jo n n hi-jo n 0 lo) s):wpAny (model prog w) A (Builtin.Slice.sliceApplied (.ref sl) (pure (n:Int))) Q E s:=by
 obtain⟨os,SA,Gx,U2⟩:=id hs
 unfold Builtin.Slice.sliceApplied Builtin.Slice.sliceFields
 refine wpAny_bind (wpAny_bind (wpAny_field SA U2 (x:=vl) rfl (wpAny_bind (wpAny_field SA U2 (x:=vu) rfl (wpAny_bind (wpAny_field SA U2 (x:=.none) rfl (wpAny_pure ?_)))))))
 refine wpAny_bind (slicePart_none ?_)
 show wpAny _ _ (if((1:Int)==0)=true then _ else _) _ _ s
 rw[if_neg (by decide)]
 refine wpAny_bind (uD pl (wpAny_bind (uD pu (wpAny_bind (wpAny_pure ?_)))))
 show wpAny _ _ (match Builtin.Slice.sliceAdjust lo hi 1 (n:Int)with|(lo,hi)=>pure (lo,(1:Int),Builtin.Slice.slicePlaces lo hi 1)) _ _ s
 rw[BO lo hi n]
 show wpAny _ _ (pure (((jo n 0 lo:Nat):Int),(1:Int),Builtin.Slice.slicePlaces ((jo n 0 lo:Nat):Int) ((jo n n hi:Nat):Int) 1)) _ _ s
 rw[BP]
 exact wpAny_pure h
theorem G1(xs:Array Value)(i k:Nat):((List.range k).filterMap λ(m:Nat)=>xs[((i:Int)+(m:Int)*1).toNat]?).toArray=((xs.toList.drop i).take k).toArray:=by
 have e:(λ(m:Nat)=>xs[((i:Int)+(m:Int)*1).toNat]?)=λm=>xs[i+m]?:=by
  funext m
  have:((i:Int)+(m:Int)*1).toNat=i+m:=by omega
  rw[this]
 rw[e]
 have:=pick_run xs i k
 rw[List.filterMap_map]at this
 have e2:((λx=>xs[x]?)∘λx=>i+x)=λm=>xs[i+m]?:=rfl
 rw[e2]at this
 rw[this]
theorem qr{t sl:Addr}{items:Array Value}{vl vu:Value}{lo hi:Option Int}{Q:Value->Shared->Prop}(ht:IsTup s.heap t items)(hs:s.heap.IsSliceOf sl vl vu .none)(pl:IsPart vl lo)(pu:IsPart vu hi)
  (hw:¬(jo items.size 0 lo=0/\jo items.size items.size hi=items.size))
  (h:Q (.ref s.heap.objs.size) {s with heap:=s.heap.push {cls:=.type "tuple",data:=.seq ((items.toList.drop (jo items.size 0 lo)).take (jo items.size items.size hi-jo items.size 0 lo)).toArray}})
  (V3:items.size<=sizeLine):wpAny (model prog w) A (getItem (.ref t) (.ref sl)) Q E s:=by
 have Dt:sizeOk (.seq ((items.toList.drop (jo items.size 0 lo)).take (jo items.size items.size hi-jo items.size 0 lo)).toArray):=by
  show((items.toList.drop (jo items.size 0 lo)).take (jo items.size items.size hi-jo items.size 0 lo)).toArray.size<=sizeLine
  rw[X4,z0a,z0d,SR]
  omega
 have hj:jo items.size items.size hi<=items.size:=OF _ _ (U5 _) hi
 obtain⟨os,SA,Gx,U2⟩:=id hs
 have Zo:s.TypeIs (.ref sl) "slice" :=⟨os,SA,Gx⟩
 unfold getItem
 try with_reducible refine wpAny_holding ?_
 first|refine wpAny_bind (wpAny_pure ?_)|skip
 refine wpAny_bind (wpAny_sequenceKey ht.typeIs (by decide) ?_)
 refine wpAny_bind (wpAny_callSpecial?_slot (name:=Str.ofString "__getitem__") ht.typeIs PyProof.Rows.slot_tuple_getitem
  (wpAny_call_entry PyProof.Rows.slot_tuple_getitem ht.typeIs entry_tuple_getitem ?_ (args_tuple_getitem _ _)))
 show wpAny _ _ (Builtin.Tuple.tupleItemsOf (.ref t)>>=_) _ _ s
 refine wpAny_bind (tupleItemsOf_ ht ?_)
 refine wpAny_bind (wpAny_typeOf Zo ?_)
 rw[if_pos (by decide)]
 refine wpAny_bind (rO hs pl pu ?_)
 have K5:¬((((jo items.size 0 lo:Nat):Int)==0&&(1:Int)==1&&(jo items.size items.size hi-jo items.size 0 lo)==items.size)=true):=by
  intro q
  rw[z0F,z0F]at q
  have q1:((jo items.size 0 lo:Nat):Int)=0:=eq_of_beq q.1.1
  have q2:jo items.size items.size hi-jo items.size 0 lo=items.size:=eq_of_beq q.2
  exact hw ⟨by omega,by omega⟩
 show wpAny _ _ (if(((jo items.size 0 lo:Nat):Int)==0&&(1:Int)==1&&(jo items.size items.size hi-jo items.size 0 lo)==items.size)=true then _ else _) _ _ s
 rw[if_neg K5,G1]
 first
  |exact wpAny_bind (m:=Builtin.Tuple.tupleExact _) (wpAny_newObj_type (wpAny_pure ⟨_,rfl,wpAny_pure h⟩) Dt)
  |exact wpAny_bind (m:=Builtin.Tuple.tupleExact _) (wpAny_newObj_type (wpAny_bind (wpAny_pure (wpAny_pure ⟨_,rfl,wpAny_pure h⟩))) Dt)
  |exact wpAny_bind (wpAny_bind (m:=Builtin.Tuple.tupleExact _) (wpAny_newObj_type (wpAny_pure (wpAny_pure ⟨_,rfl,wpAny_pure h⟩)) Dt))
  |exact wpAny_bind (wpAny_bind (m:=Builtin.Tuple.tupleExact _) (wpAny_newObj_type (wpAny_pure ⟨_,rfl,wpAny_pure h⟩) Dt))
end
end HT
namespace L2
open PySem PySem.Spec PyProof.Rows
abbrev TO:=St->Hp->(Option Int->Hp->Prop)->Prop
def PO(X:Cx)(e:Option Expr)(t:TO):Prop:=
 ∀(pins:List (Addr×Obj)) (s:Shared) (σ:St) (H:Hp) (Q:Option Int->Hp->Prop),Inv X pins σ H s->t σ H Q->
  wpAny (model X.prog X.w) X.A (evalPart e X.env) (λu s'=>∃o H',Inv X pins σ H' s'/\IsPart u o/\Q o H') X.xe s
def K6:TO:=λ_ H Q=>Q none H
def SD(t:TE):TO:=λσ H Q=>t σ H λx H1=>∃i,x=.int i/\Q (some i) H1
theorem intsAre_of{ns:List Int}:∀{us:List Value},Vals (ns.map V.int) us->IntsAre us ns:=by
 induction ns with
 |nil=>intro us r;rw[z1t]at r;cases r;exact .nil
 |cons n ns ih=>
  intro us r
  rw[z0Q]at r
  cases r with
  |cons r1 r2=>
   obtain⟨t,e⟩:=r1
   subst e
   exact .cons n t (ih r2)
section
variable{X:Cx}{e:Expr}{te:TE}{lo hi:Option Expr}{tl th:TO}{pos p2:Pos}
theorem K7:PO X none K6:=by
 intro pins s σ H Q I h
 rw[evalPart_none]
 exact wpAny_pure ⟨none,H,I,.none,h⟩
theorem K8(h:PE X e te):PO X (some e) (SD te):=by
 intro pins s σ H Q I hw
 rw[evalPart_some]
 refine dN (h pins s σ H _ I hw) λu s1 cZ=>?_
 obtain⟨x,H1,I1,r1,q1⟩:=cZ
 obtain⟨i,rfl,q⟩:=q1
 obtain⟨t,rfl⟩:=r1
 exact⟨some i,H1,I1,.int i t,q⟩
def M1(X:Cx)(r:V->Option Int->Option Int->Hp->VK->Prop):Prop:=
 ∀(pins:List (Addr×Obj)) (s:Shared) (σ:St) (H:Hp) (x:V) (v vl vu:Value) (lo hi:Option Int) (sl:Addr) (Q:VK),Inv X pins σ H s->RelV x v->s.heap.IsSliceOf sl vl vu .none->IsPart vl lo->IsPart vu hi->r x lo hi H Q->
  ∃T id,typeLookup (.type T) "__getitem__" =pure (some (.builtin id))/\s.TypeIs v T/\wpAny (model X.prog X.w) X.A (getItem v (.ref sl)) (EP X pins σ Q) X.xe s
theorem M1.or{r r':V->Option Int->Option Int->Hp->VK->Prop}(h:M1 X r)(h':M1 X r'):M1 X (λx lo hi H Q=>r x lo hi H Q\/r' x lo hi H Q):=by
 intro pins s σ H x v vl vu lo hi sl Q I rx hs pl pu q
 rcases q with q|q
 ·exact h pins s σ H x v vl vu lo hi sl Q I rx hs pl pu q
 ·exact h' pins s σ H x v vl vu lo hi sl Q I rx hs pl pu q
def Zp(r:V->Option Int->Option Int->Hp->VK->Prop)(te:TE)(tl th:TO):TE:=λσ H Q=>te σ H λx H1=>tl σ H1 λl H2=>th σ H2 λu H3=>r x l u H3 Q
theorem uE{r:V->Option Int->Option Int->Hp->VK->Prop}(hr:M1 X r)(he:PE X e te)(hl:PO X lo tl)(hu:PO X hi th):PE X (.Subscript e (.Slice lo hi none p2) pos) (Zp r te tl th):=by
 intro pins s σ H Q I h
 refine Subscript_ (dN (he pins s σ H _ I h) λv s1 cZ=>?_)
 obtain⟨x,H1,I1,r1,q1⟩:=cZ
 refine wpAny_Slice (dN (hl pins s1 σ H1 _ I1 q1) λvl s2 ⟨l,H2,I2,pl,q2⟩=>dN (hu pins s2 σ H2 _ I2 q2) λvu s3 cZ=>?_)
 obtain⟨u,H3,I3,pu,q3⟩:=cZ
 rw[evalPart_none]
 refine wpAny_pure ?_
 have I4:Inv X pins σ H3 {s3 with heap:=s3.heap.push {cls:=.type "slice",data:=.fields #[vl,vu,.none]}}:=I3.kept (t':=s3.toks) λb ob q=>Zv _ q
 obtain⟨T,id,hT,ht,hg⟩:=hr pins {s3 with heap:=s3.heap.push {cls:=.type "slice",data:=.fields #[vl,vu,.none]}} σ H3 x v vl vu l u s3.heap.objs.size Q I4 r1 (Heap.IsSliceOf.new ..) pl pu q3
 show wpAny (model X.prog X.w) X.A (subscriptTail e (.Slice lo hi none p2) v (.ref s3.heap.objs.size)) (EP X pins σ Q) X.xe {s3 with heap:=s3.heap.push {cls:=.type "slice",data:=.fields #[vl,vu,.none]}}
 exact tail_any (ops:=[.ref s3.heap.objs.size,v]) ht hT hg (by with_unfolding_all rfl)
def zN(xs:List V)(lo hi:Option Int):List V:=(xs.drop (HT.jo xs.length 0 lo)).take (HT.jo xs.length xs.length hi-HT.jo xs.length 0 lo)
theorem sH(xs:List V)(lo hi:Option Int):(zN xs lo hi).length<=xs.length:=by
 unfold zN
 rw[z0a,z0d]
 omega
def V8(K:PySem.W.Frag):V->Option Int->Option Int->Hp->VK->Prop:=λx lo hi H Q=>∃a xs,x=.ref a/\kM K H a xs/\
 ¬(HT.jo xs.length 0 lo=0/\HT.jo xs.length xs.length hi=xs.length)/\∀p,H p=none->Q (.ref p) (upd H p (.tup (zN xs lo hi)))
theorem OG:M1 X (V8 X.K):=by
 intro pins s σ H x v vl vu lo hi sl Q I rx hs pl pu h
 obtain⟨a,xs,rfl,hx,hw,q⟩:=h
 cases rx
 obtain⟨its,r,ht,hz⟩:=I.tuple hx
 have hlen:its.toArray.size=xs.length:=by rw[X4];exact r.length.symm
 refine⟨"tuple",_,PyProof.Rows.slot_tuple_getitem.lookup,ht.typeIs,?_⟩
 refine HT.qr ht hs pl pu (by rw[hlen];exact hw) ?_ (by rw[hlen];exact hz)
 rw[hlen]
 refine⟨.ref s.heap.objs.size,_,I.laid (t':=s.toks) (o:=.tup (zN xs lo hi)) (λb ob q=>Zv _ q) (U5 _) ?_,rfl,q _ (I.dU.fresh (U5 _))⟩
 exact⟨⟨z0T (sH xs lo hi) hz,N2.new⟩,_,(r.drop (HT.jo xs.length 0 lo)).take (HT.jo xs.length xs.length hi-HT.jo xs.length 0 lo),IsTup.new _ _⟩
def SG(K:PySem.W.Frag):R2:=λx y H Q=>∃a b xs ys,x=.ref a/\y=.ref b/\kM K H a xs/\kM K H b ys/\xs≠[]/\xs.length+ys.length<=sizeLine/\
 (ys=[]->Q (.ref a) H)/\(ys≠[]->∀p,H p=none->Q (.ref p) (upd H p (.tup (xs++ys))))
theorem Vals.xT{xs:List V}{us:List Value}(r:Vals xs us):us=[]↔xs=[]:=by
 cases r with
 |nil=>simp
 |cons _ _=>simp
theorem K9:mF X (binaryOp .Add) (SG X.K):=by
 intro pins s σ H x y v u Q I rx ry h
 obtain⟨a,b,xs,ys,rfl,rfl,ha,hb,hx,hz,q1,q2⟩:=h
 cases rx
 cases ry
 obtain⟨its,r1,p1,_⟩:=I.tuple ha
 obtain⟨tJ,r2,p2,_⟩:=I.tuple hb
 refine HT.K4 p1 p2 (λz=>hx (r1.xT.mp z)) (λz=>⟨.ref a,H,I,rfl,q1 (r2.xT.mp z)⟩) (λz=>?_) (by rw[<-r1.length,<-r2.length];exact hz)
 refine⟨.ref s.heap.objs.size,_,I.laid (t':=s.toks) (o:=.tup (xs++ys)) (λb ob q=>Zv _ q) (U5 _) ?_,rfl,q2 (λw=>z (r2.xT.mpr w)) _ (I.dU.fresh (U5 _))⟩
 exact⟨⟨by rw[z0E];exact hz,N2.new⟩,_,r1.append r2,IsTup.new _ _⟩
end
def SH(n:Nat)(i:Int):Option Nat:=if 0<=i then(if i<n then some i.toNat else none)else if-(n:Int)<=i then some (i+n).toNat else none
def M3{α:Type}(xs:List α)(i:Int):Option α:=(SH xs.length i).bind λj=>xs[j]?
theorem Du{n:Nat}{i:Int}{j:Nat}(h:SH n i=some j):seqIndex? i n=some j/\j<n/\-(n:Int)<=i/\i<n:=by
 unfold SH at h
 by_cases h0:0<=i
 ·rw[if_pos h0]at h
  by_cases h1:i<n
  ·rw[if_pos h1]at h
   have e:i.toNat=j:=z0O h
   exact⟨by rw[seqIndex_of h0 h1,e],by omega,by omega,h1⟩
  ·rw[if_neg h1]at h;cases h
 ·rw[if_neg h0]at h
  by_cases h1:-(n:Int)<=i
  ·rw[if_pos h1]at h
   have e:(i+n).toNat=j:=z0O h
   exact⟨by rw[seqIndex_neg (by omega) h1,e],by omega,h1,by omega⟩
  ·rw[if_neg h1]at h;cases h
theorem xU{α:Type}{xs:List α}{i:Int}{v:α}(h:M3 xs i=some v):∃j,seqIndex? i xs.length=some j/\xs[j]?=some v/\j<xs.length/\-(xs.length:Int)<=i/\i<xs.length:=by
 unfold M3 at h
 cases e:SH xs.length i with
 |none=>rw[e]at h;cases h
 |some j=>
  rw[e]at h
  obtain⟨h1,h2,h3,h4⟩:=Du e
  exact⟨j,h1,h,h2,h3,h4⟩
def xV(b:Expr):Prop:=∀o i,subscripted b false o i=operate [o,i] (getItem o i)
def La(X:Cx)(r:R2):Prop:=
 ∀(value slice:Expr) (pins:List (Addr×Obj)) (s:Shared) (σ:St) (H:Hp) (x y:V) (v u:Value) (Q:VK),Inv X pins σ H s->RelV x v->RelV y u->r x y H Q->
  subscripted slice false v u=operate [v,u] (getItem v u)->wpAny (model X.prog X.w) X.A (subscriptTail value slice v u) (EP X pins σ Q) X.xe s
def SJ(X:Cx)(id:String)(r:V->List V->Hp->VK->Prop):Prop:=
 ∀(pins:List (Addr×Obj)) (s:Shared) (σ:St) (H:Hp) (x:V) (xs:List V) (v:Value) (us:List Value) (Q:VK),Inv X pins σ H s->RelV x v->Vals xs us->r x xs H Q->
  wpAny (model X.prog X.w) X.A (call (.builtin id) (v::us)) (EP X pins σ Q) X.xe s
section
variable{X:Cx}{a b:Expr}{ta tb:TE}{pos:Pos}
theorem La.or{r r':R2}(h:La X r)(h':La X r'):La X (λx y H Q=>r x y H Q\/r' x y H Q):=by
 intro value slice pins s σ H x y v u Q I rx ry q hs
 rcases q with q|q
 ·exact h value slice pins s σ H x y v u Q I rx ry q hs
 ·exact h' value slice pins s σ H x y v u Q I rx ry q hs
theorem M4{r:R2}(hr:La X r)(ha:PE X a ta)(hb:PE X b tb)(hs:xV b):PE X (.Subscript a b pos) (Oo r ta tb):=by
 intro pins s σ H Q I h
 exact Subscript_ (Oq ha hb I h λv u s2 x y H2 I2 rx ry q=>hr a b pins s2 σ H2 x y v u Q I2 rx ry q (hs _ _))
def SK(K:PySem.W.Frag):R2:=λx y H Q=>∃p xs i v,x=.ref p/\y=.int i/\mK K H p xs/\M3 xs i=some v/\Q v H
def SM(K:PySem.W.Frag):R2:=λx y H Q=>∃p xs i v,x=.ref p/\y=.int i/\kM K H p xs/\M3 xs i=some v/\Q v H
def SN:R2:=λx y H Q=>∃z i c,x=.str z/\y=.int i/\z.length<=sizeLine/\M3 z.cps.toList i=some c/\Q (.str ⟨#[c]⟩) H
theorem Dv:La X (SK X.K):=by
 intro value slice pins s σ H x y v u Q I rx ry h hs
 obtain⟨p,xs,i,z,rfl,rfl,hq,he,q⟩:=h
 cases rx
 obtain⟨t,rfl⟩:=ry
 obtain⟨its,r,pl,hz⟩:=I.list hq
 obtain⟨j,h1,h2,h3,h4,h5⟩:=xU he
 obtain⟨w,ew,RD⟩:=r.get h2
 have hl:=r.length
 have hn:=rK
 have fin:EP X pins σ Q w s:=⟨z,H,I,RD,q⟩
 by_cases h0:0<=i
 ·have hj:i.toNat=j:=by
    rw[seqIndex_of h0 h5]at h1
    exact z0O h1
  exact item_listR pl.isList h0 (by omega) (by rw[hj];simpa using ew) fin hs
 ·have hj:(i+(its.toArray.size:Int)).toNat=j:=by
    rw[seqIndex_neg (by omega) h4]at h1
    rw[X4,<-hl]
    exact z0O h1
  exact subscriptTail_builtinR (x:=w) pl.isList.typeIs slot_list_getitem.lookup
   (wpAny_getItem_list_neg (Q:=λr s'=>r=w/\EP X pins σ Q r s') pl.isList (by omega) (by rw[X4]<;>omega) (by omega) (by rw[hj];simpa using ew) ⟨rfl,fin⟩) hs
theorem OH:La X (SM X.K):=by
 intro value slice pins s σ H x y v u Q I rx ry h hs
 obtain⟨p,xs,i,z,rfl,rfl,hq,he,q⟩:=h
 cases rx
 obtain⟨t,rfl⟩:=ry
 obtain⟨its,r,pl,hz⟩:=I.tuple hq
 obtain⟨j,h1,h2,h3,h4,h5⟩:=xU he
 obtain⟨w,ew,RD⟩:=r.get h2
 have hl:=r.length
 have hn:=rK
 have fin:EP X pins σ Q w s:=⟨z,H,I,RD,q⟩
 exact subscriptTail_builtinR (x:=w) pl.typeIs slot_tuple_getitem.lookup
  (getItem_tuple (j:=j) (Q:=λr s'=>r=w/\EP X pins σ Q r s') pl (by omega) (by omega) (by rw[X4,<-hl];exact h1) (by simpa using ew) ⟨rfl,fin⟩) hs
theorem OI:La X SN:=by
 intro value slice pins s σ H x y v u Q I rx ry h hs
 obtain⟨z,i,c,rfl,rfl,hz,he,q⟩:=h
 obtain⟨t,rfl⟩:=rx
 obtain⟨t',rfl⟩:=ry
 obtain⟨j,h1,h2,h3,h4,h5⟩:=xU he
 have hl:z.cps.toList.length=z.length:=by simp[Str.length]
 rw[hl]at h1 h4 h5
 have hn:=rK
 exact tail_any (typeIs_str s z t) slot_str_getitem.lookup (getItem_str (c:=c) (by
  have e1:decide (i< -(2^63:Int))=false:=decide_eq_false (by omega)
  have e2:decide (i≥2^63)=false:=decide_eq_false (by omega)
  rw[e1,e2,Bool.or_false]) (by rw[h1];simpa using h2) ⟨.str ⟨#[c]⟩,H,I.tok _,⟨_,rfl⟩,q⟩) hs
def Zq(K:PySem.W.Frag):R2:=λx y H Q=>SK K x y H Q\/SM K x y H Q\/SN x y H Q
theorem OJ:La X (Zq X.K):=Dv.or (OH.or OI)
theorem BQ(its:List Value)(n j:Nat)(u:Value):Obj.mapSeq (·.setIfInBounds j u) {cls:=.type "list",data:=.seq its.toArray n}={cls:=.type "list",data:=.seq (its.set j u).toArray n}:=by
 simp[Obj.mapSeq]
theorem Inv.lst{pins:List (Addr×Obj)}{σ:St}{H:Hp}{s:Shared}{p:Addr}{xs:List V}(I:Inv X pins σ H s)(h:H p=some (.lst xs)):
  ∃(its:List Value) (n:Nat),Vals xs its/\s.heap.get? p=some {cls:=.type "list",data:=.seq its.toArray n}/\xs.length<=sizeLine:=by
 obtain⟨z,its,n,r,e⟩:=I.dU p _ h
 exact⟨its,n,r,e,z⟩
theorem Inv.OK{pins:List (Addr×Obj)}{σ:St}{H:Hp}{s:Shared}{p:Addr}{xs ys:List V}{its its':List Value}{n n':Nat}{f:Obj->Obj}(I:Inv X pins σ H s)(h:H p=some (.lst xs))
  (ho:s.heap.get? p=some {cls:=.type "list",data:=.seq its.toArray n})(hf:f {cls:=.type "list",data:=.seq its.toArray n}={cls:=.type "list",data:=.seq its'.toArray n'})(r:Vals ys its')(hz:ys.length<=sizeLine)(t:Nat):
  Inv X pins σ (upd H p (.lst ys)) {s with heap:=s.heap.update p f,toks:=t}:=by
 have e:(s.heap.update p f).get? p=some {cls:=.type "list",data:=.seq its'.toArray n'}:=by
  rw[z0o f ho (by rw[hf]<;>rfl),hf]
 refine I.write (x:=p) (e:=p) (by rw[h];trivial) (.inl rfl) (λb u hb q=>(z0Z _ _ (Ne.symm hb)).trans q) ⟨_,e⟩ ?_
 exact⟨hz,its',n',r,e⟩
def SO:V->V->V->Hp->(Hp->Prop)->Prop:=λo i v H Q=>∃p xs k j,o=.ref p/\i=.int k/\H p=some (.lst xs)/\SH xs.length k=some j/\Q (upd H p (.lst (xs.set j v)))
theorem set_list:Sd X SO:=by
 intro pins s σ H o i v ov iv u Q I ro ri rv h
 obtain⟨p,xs,k,j,rfl,rfl,hp,hj,q⟩:=h
 cases ro
 obtain⟨t,rfl⟩:=ri
 obtain⟨its,n,r,ho,hz⟩:=I.lst hp
 obtain⟨h1,h2,h3,h4⟩:=Du hj
 have hl:=r.length
 have hn:=rK
 have I':Inv X pins σ (upd H p (.lst (xs.set j v))) {s with heap:=s.heap.update p (Obj.mapSeq (·.setIfInBounds j u))}:=
  I.OK hp ho (BQ its n j u) (r.set rv j) (by rw[z0q];exact hz) s.toks
 by_cases h0:0<=k
 ·have hk:k.toNat=j:=by
    rw[seqIndex_of h0 h4]at h1
    exact z0O h1
  exact PySem.W.ki_setAt ho h0 (by omega) (by rw[X4,<-hl];exact h4) (by rw[hk];exact⟨_,I',q⟩)
 ·have hk:(k+(its.toArray.size:Int)).toNat=j:=by
    rw[seqIndex_neg (by omega) h3]at h1
    rw[X4,<-hl]
    exact z0O h1
  exact PySem.W.ki_setBack ho (by omega) (by rw[X4,<-hl];exact h3) (by omega) (by rw[hk];exact⟨_,I',q⟩)
theorem xW(lo hi:Option Int)(n:Nat):(sliceBounds lo hi none n).1=((HT.jo n 0 lo:Nat):Int)/\(sliceBounds lo hi none n).2.1=((HT.jo n n hi:Nat):Int)/\(sliceBounds lo hi none n).2.2=1:=by
 refine⟨?_,?_,rfl⟩
 ·cases lo with
  |none=>simp[sliceBounds,HT.jo]
  |some i=>
   simp only[sliceBounds,HT.jo,Option.getD_none,show(1:Int)>0 by decide,if_true]
   by_cases h:i<0
   ·simp only[h,if_true]<;>omega
   ·simp only[h,if_false]<;>omega
 ·cases hi with
  |none=>simp[sliceBounds,HT.jo]
  |some i=>
   simp only[sliceBounds,HT.jo,Option.getD_none,show(1:Int)>0 by decide,if_true]
   by_cases h:i<0
   ·simp only[h,if_true]<;>omega
   ·simp only[h,if_false]<;>omega
theorem wa(its:List Value)(lo hi:Option Int):slicePick its.toArray lo hi none=((its.drop (HT.jo its.length 0 lo)).take (HT.jo its.length its.length hi-HT.jo its.length 0 lo)).toArray:=by
 obtain⟨h1,h2,h3⟩:=xW lo hi its.toArray.size
 unfold slicePick
 rw[h1,h2,h3]
 simp only[sliceRange_one,pick_run,X4]<;>rfl
def V9(K:PySem.W.Frag):V->Option Int->Option Int->Hp->VK->Prop:=λx lo hi H Q=>∃a xs,x=.ref a/\mK K H a xs/\∀p,H p=none->Q (.ref p) (upd H p (.lst (zN xs lo hi)))
theorem Dw:M1 X (V9 X.K):=by
 intro pins s σ H x v vl vu lo hi sl Q I rx hs pl pu h
 obtain⟨a,xs,rfl,hx,q⟩:=h
 cases rx
 obtain⟨its,r,ht,hz⟩:=I.list hx
 have hlen:=r.length
 refine⟨"list",_,slot_list_getitem.lookup,ht.isList.typeIs,?_⟩
 refine wpAny_getItem_list_slice ht.isList hs pl pu .none (by simp) ?_ (by rw[X4]<;>omega)
 rw[wa,<-hlen]
 refine⟨.ref s.heap.objs.size,_,I.laid (t':=s.toks) (o:=.lst (zN xs lo hi)) (λb ob q=>Zv _ q) (U5 _) ?_,rfl,q _ (I.dU.fresh (U5 _))⟩
 exact⟨z0T (sH xs lo hi) hz,_,0,(r.drop (HT.jo xs.length 0 lo)).take (HT.jo xs.length xs.length hi-HT.jo xs.length 0 lo),z0H _ rfl⟩
def jM:V->Bool
 |.non=>true
 |.bl _=>true
 |.int _=>true
 |.str _=>true
 |_=>false
def Gy:V->V->Bool
 |.non,.non=>true
 |.bl a,.bl b=>a==b
 |.bl a,.int b=>(if a then 1 else 0)==b
 |.int a,.bl b=>a==(if b then 1 else 0)
 |.int a,.int b=>a==b
 |.str a,.str b=>a==b
 |_,_=>false
theorem G2{A:Around}{s:Shared}{y x:V}{u v:Value}(ry:RelV y u)(rx:RelV x v)(fy:jM y=true)(fx:jM x=true):SeqAt.EqAt A s u v (Gy y x):=by
 cases y with
 |non=>
  cases ry
  cases x with
  |non=>cases rx;exact SeqAt.EqAt.same _
  |bl b=>cases rx;exact SeqAt.EqAt.none_bool b
  |int b=>obtain⟨t,rfl⟩:=rx;exact SeqAt.EqAt.none_int b t
  |str b=>obtain⟨t,rfl⟩:=rx;exact SeqAt.EqAt.none_str b t
  |_=>exact absurd (show false=true from fx) z0J
 |bl a=>
  cases ry
  cases x with
  |non=>cases rx;exact SeqAt.EqAt.bool_none a
  |bl b=>cases rx;exact SeqAt.EqAt.bool_bool a b
  |int b=>obtain⟨t,rfl⟩:=rx;exact SeqAt.EqAt.bool_int a b t
  |str b=>obtain⟨t,rfl⟩:=rx;exact SeqAt.EqAt.bool_str a b t
  |_=>exact absurd (show false=true from fx) z0J
 |int a=>
  obtain⟨t',rfl⟩:=ry
  cases x with
  |non=>cases rx;exact SeqAt.EqAt.int_none a t'
  |bl b=>cases rx;exact SeqAt.EqAt.int_bool a t' b
  |int b=>obtain⟨t,rfl⟩:=rx;exact SeqAt.EqAt.int_int a t' b t
  |str b=>obtain⟨t,rfl⟩:=rx;exact SeqAt.EqAt.int_str a t' b t
  |_=>exact absurd (show false=true from fx) z0J
 |str a=>
  obtain⟨t',rfl⟩:=ry
  cases x with
  |non=>cases rx;exact SeqAt.EqAt.str_none a t'
  |bl b=>cases rx;exact SeqAt.EqAt.str_bool a t' b
  |int b=>obtain⟨t,rfl⟩:=rx;exact SeqAt.EqAt.str_int a t' b t
  |str b=>obtain⟨t,rfl⟩:=rx;exact SeqAt.EqAt.str_str a t' b t
  |_=>exact absurd (show false=true from fx) z0J
 |_=>exact absurd (show false=true from fy) z0J
def BU(x:V)(u:Value):Bool:=match u with
 |.none=>Gy .non x
 |.bool b=>Gy (.bl b) x
 |.int i _=>Gy (.int i) x
 |.str z _=>Gy (.str z) x
 |_=>false
theorem G3{x y:V}{u:Value}(r:RelV y u)(f:jM y=true):BU x u=Gy y x:=by
 cases y with
 |non=>cases r;rfl
 |bl b=>cases r;rfl
 |int i=>obtain⟨t,rfl⟩:=r;rfl
 |str z=>obtain⟨t,rfl⟩:=r;rfl
 |_=>exact absurd (show false=true from f) z0J
theorem qt{x:V}:∀{xs:List V} {us:List Value},Vals xs us->xs.all jM=true->us.any (BU x)=xs.any λy=>Gy y x
 |_,_,.nil,_=>rfl
 |y::xs,u::us,.cons r t,f=>by
  rw[z1a,z0F]at f
  rw[z1b,z1b,G3 r f.1,qt t f.2]
theorem mP{A:Around}{s:Shared}{x:V}{v:Value}(rx:RelV x v)(fx:jM x=true):∀{xs:List V} {us:List Value},Vals xs us->xs.all jM=true->∀u∈us,SeqAt.EqAt A s u v (BU x u)
 |_,_,.nil,_=>λu hu=>by cases hu
 |y::xs,u::us,.cons r t,f=>λu' hu=>by
  rw[z1a,z0F]at f
  rcases z0N.mp hu with rfl|hu
  ·rw[G3 r f.1];exact G2 r rx f.1 fx
  ·exact mP rx fx t f.2 u' hu
def U3(x:V)(xs:List V):Bool:=xs.any λy=>Gy y x
def U4(K:PySem.W.Frag)(neg:Bool):R2:=λx y H Q=>∃p xs,y=.ref p/\(mK K H p xs\/kM K H p xs)/\jM x=true/\xs.all jM=true/\Q (.bl (if neg then !U3 x xs else U3 x xs)) H
theorem E2:mF X (compareOp .In) (U4 X.K false):=by
 intro pins s σ H x y v u Q I rx ry h
 obtain⟨p,xs,rfl,hq,fx,fs,q⟩:=h
 cases ry
 rcases hq with hq|hq
 ·obtain⟨its,r,pl,hz⟩:=I.list hq
  refine SeqAt.in_listAt (BU x) pl.isList (λw hw=>mP rx fx r fs w (by simpa using hw)) ⟨.bl _,H,I,rfl,?_⟩
  rw[show its.toArray.any (BU x)=its.any (BU x) by simp,qt r fs]
  exact q
 ·obtain⟨its,r,pl,hz⟩:=I.tuple hq
  refine SeqAt.in_tupleAt (BU x) pl (λw hw=>mP rx fx r fs w (by simpa using hw)) ⟨.bl _,H,I,rfl,?_⟩
  rw[show its.toArray.any (BU x)=its.any (BU x) by simp,qt r fs]
  exact q
theorem xX:mF X (compareOp .NotIn) (U4 X.K true):=by
 intro pins s σ H x y v u Q I rx ry h
 obtain⟨p,xs,rfl,hq,fx,fs,q⟩:=h
 cases ry
 rcases hq with hq|hq
 ·obtain⟨its,r,pl,hz⟩:=I.list hq
  refine SeqAt.notIn_listAt (BU x) pl.isList (λw hw=>mP rx fx r fs w (by simpa using hw)) ⟨.bl _,H,I,rfl,?_⟩
  rw[show its.toArray.any (BU x)=its.any (BU x) by simp,qt r fs]
  exact q
 ·obtain⟨its,r,pl,hz⟩:=I.tuple hq
  refine SeqAt.notIn_tupleAt (BU x) pl (λw hw=>mP rx fx r fs w (by simpa using hw)) ⟨.bl _,H,I,rfl,?_⟩
  rw[show its.toArray.any (BU x)=its.any (BU x) by simp,qt r fs]
  exact q
theorem qu:jd X (.builtin "len") (λxs H Q=>∃p ys,xs=[.ref p]/\(mK X.K H p ys\/kM X.K H p ys)/\Q (.int ys.length) H):=by
 intro pins s σ H xs us Q I r h
 obtain⟨p,ys,rfl,hq,q⟩:=h
 obtain⟨u,rfl,rx⟩:=vals1 r
 cases rx
 have hn:=rK
 rcases hq with hq|hq
 ·obtain⟨its,r',pl,hz⟩:=I.list hq
  have hlen:=r'.length
  exact Calls.call_len_list pl.isList (by simp only[X4]<;>omega) ⟨.int ys.length,H,I.tok _,⟨s.toks+1,by rw[X4,hlen]⟩,q⟩
 ·obtain⟨its,r',pl,hz⟩:=I.tuple hq
  have hlen:=r'.length
  exact len_tuple pl (by simp only[X4]<;>omega) ⟨.int ys.length,H,I.tok _,⟨s.toks+1,by rw[X4,hlen]⟩,q⟩
theorem xY:jd X (.builtin "len") (λxs H Q=>∃z,xs=[.str z]/\z.length<=sizeLine/\Q (.int z.length) H):=by
 intro pins s σ H xs us Q I r h
 obtain⟨z,rfl,hz,q⟩:=h
 obtain⟨u,rfl,t,rfl⟩:=vals1 r
 have hn:=rK
 exact len_str (by omega) ⟨.int z.length,H,I.tok _,⟨_,rfl⟩,q⟩
theorem jd.or{f:Value}{r r':List V->Hp->VK->Prop}(h:jd X f r)(h':jd X f r'):jd X f (λxs H Q=>r xs H Q\/r' xs H Q):=by
 intro pins s σ H xs us Q I rs q
 rcases q with q|q
 ·exact h pins s σ H xs us Q I rs q
 ·exact h' pins s σ H xs us Q I rs q
theorem xZ:jd X (.type "list") (λxs H Q=>∃p ys,xs=[.ref p]/\(mK X.K H p ys\/kM X.K H p ys)/\∀l,H l=none->Q (.ref l) (upd H l (.lst ys))):=by
 intro pins s σ H xs us Q I r h
 obtain⟨p,ys,rfl,hq,q⟩:=h
 obtain⟨u,rfl,rx⟩:=vals1 r
 cases rx
 have fin:∀(its:List Value),Vals ys its->ys.length<=sizeLine->∀(h':Heap) (c':Nat),(∀b o',s.heap.get? b=some o'->h'.get? b=some o')->
   h'.get? s.heap.objs.size=some {cls:=.type "list",dict:=none,data:=.seq its.toArray c',slots:=#[]}->EP X pins σ Q (.ref s.heap.objs.size) {s with heap:=h'}:=λits r' hz h' c' kp e=>
  ⟨.ref s.heap.objs.size,_,I.laid (t':=s.toks) kp (U5 _) (show eQ X.prog X.w _ h' _ (.lst ys)from⟨hz,its,c',r',e⟩),rfl,q _ (I.dU.fresh (U5 _))⟩
 rcases hq with hq|hq
 ·obtain⟨its,r',pl,hz⟩:=I.list hq
  have hlen:=r'.length
  obtain⟨o,ho,hc,n,hd⟩:=pl.isList
  exact call_list_seq p (.inl rfl) ho hc hd (λh' c' kp e=>fin its r' hz h' c' kp e) (by simp only[X4]<;>omega)
 ·obtain⟨its,r',pl,hz⟩:=I.tuple hq
  have hlen:=r'.length
  obtain⟨o,ho,hc,n,hd⟩:=pl
  exact call_list_seq p (.inr rfl) ho hc hd (λh' c' kp e=>fin its r' hz h' c' kp e) (by simp only[X4]<;>omega)
theorem oJ:jd X (.type "tuple") (λxs H Q=>∃p ys,xs=[.ref p]/\((mK X.K H p ys/\∀l,H l=none->Q (.ref l) (upd H l (.tup ys)))\/(kM X.K H p ys/\Q (.ref p) H))):=by
 intro pins s σ H xs us Q I r h
 obtain⟨p,ys,rfl,h⟩:=h
 obtain⟨u,rfl,rx⟩:=vals1 r
 cases rx
 rcases h with⟨hq,q⟩|⟨hq,q⟩
 ·obtain⟨its,r',pl,hz⟩:=I.list hq
  have hlen:=r'.length
  refine call_tuple_list pl.isList (λh' kp=>?_) (by simp only[X4]<;>omega)
  have I1:Inv X pins σ H {s with heap:=h'}:=I.kept (t':=s.toks) kp
  have I2:Inv X pins σ (upd H h'.objs.size (.tup ys)) {s with heap:=h'.push {cls:=.type "tuple",data:=.seq its.toArray}}:=
   I1.laid (t':=s.toks) (λb o e=>Zv _ e) (U5 _) (show eQ X.prog X.w _ _ _ (.tup ys)from⟨⟨hz,N2.new⟩,its,r',IsTup.new _ _⟩)
  exact⟨.ref h'.objs.size,_,I2,rfl,q _ (I1.dU.fresh (U5 _))⟩
 ·obtain⟨its,r',pl,hz⟩:=I.tuple hq
  exact call_tuple_same pl ⟨.ref p,H,I,rfl,q⟩
def Wa(K:PySem.W.Frag)(T:String)(x:V)(H:Hp):Prop:=match x with
 |.str _=>T= "str"
 |.int _=>T= "int"
 |.ref p=>(T= "list" /\∃xs,mK K H p xs)\/(T= "tuple" /\∃o,K.lookup p=some o/\o.cls=.type "tuple" /\o.dict=none)\/
   (T= "dict" /\((∃cW,H p=some (.dK cW))\/∃cW,H p=some (.dT cW)))\/(T= "set" /\∃S n,H p=some (.set S n))
 |_=>False
theorem G4{pins:List (Addr×Obj)}{σ:St}{H:Hp}{s:Shared}{T:String}{x:V}{v:Value}(I:Inv X pins σ H s)(r:RelV x v)(ty:Wa X.K T x H):
  s.TypeIs v T/\∀a,v=.ref a->∃ob,s.heap.get? a=some ob/\ob.dict=none:=by
 cases x with
 |str z=>
  obtain⟨t,rfl⟩:=r
  cases(show T= "str" from ty)
  exact⟨typeIs_str s z t,λ_ e=>nomatch e⟩
 |int i=>
  obtain⟨t,rfl⟩:=r
  cases(show T= "int" from ty)
  exact⟨typeIs_int s i t,λ_ e=>nomatch e⟩
 |ref p=>
  cases r
  rcases ty with⟨rfl,xs,hq⟩|⟨rfl,o,hk,hc,hd⟩|⟨rfl,hk⟩|⟨rfl,S,n,hk⟩
  ·obtain⟨its,_,pl,_⟩:=I.list hq
   refine⟨pl.isList.typeIs,λa e=>?_⟩
   cases e
   obtain⟨o,n,e,c,hd,_⟩:=pl
   exact⟨o,e,hd⟩
  ·refine⟨⟨o,I.jc p o hk,hc⟩,λa e=>?_⟩
   cases e
   exact⟨o,I.jc _ o hk,hd⟩
  ·have z:∃o,s.heap.get? p=some o/\o.ExactDict:=by
     rcases hk with⟨cW,hk⟩|⟨cW,hk⟩
     ·obtain⟨_,_,_,_,o,_,_,e,ex,_⟩:=I.dU p _ hk
      exact⟨o,e,ex⟩
     ·obtain⟨_,_,_,_,o,_,_,e,ex,_⟩:=I.dU p _ hk
      exact⟨o,e,ex⟩
   obtain⟨o,e,ex⟩:=z
   refine⟨⟨o,e,ex.1⟩,λa e2=>?_⟩
   cases e2
   exact⟨o,e,ex.2.1⟩
  ·obtain⟨o,_,_,_,e,ex,_⟩:=I.dU p _ hk
   refine⟨⟨o,e,ex.1⟩,λa e2=>?_⟩
   cases e2
   exact⟨o,e,ex.2.1⟩
 |_=>exact False.elim ty
def SQ(K:PySem.W.Frag)(T:String)(r:V->List V->Hp->VK->Prop)(to:TE):TE:=λσ H Q=>to σ H λx H1=>Wa K T x H1/\r x [] H1 Q
def RE(K:PySem.W.Frag)(T:String)(r:V->List V->Hp->VK->Prop)(to:TE)(t:TA):TE:=λσ H Q=>to σ H λx H1=>Wa K T x H1/\t σ H1 λxs H2=>r x xs H2 Q
variable{o e:Expr}{es:List Expr}{to:TE}{t:TA}{name:Str}{apos bY:Pos}{T id:String}{r:V->List V->Hp->VK->Prop}
theorem G5(pa:PlainAttrs T)(slot:Slot T name id)(Wb:typeOf (.builtin id)=pure (.type "method_descriptor"))(hm:SJ X id r)(ho:PE X o to)
  (iF:attributeBase o name X.env (eval o X.env)=eval o X.env:=by rfl)(iG:(apos.endLine==bY.line)=true:=by rfl):PE X (.Call (.Attribute o name apos) [] [] bY) (SQ X.K T r to):=by
 intro pins s σ H Q I h
 refine wpAny_Call_method0_late iF iG (dN (ho pins s σ H _ I h) λv s1 cZ=>?_)
 obtain⟨x,H1,I1,r1,ty,q1⟩:=cZ
 obtain⟨h1,h2⟩:=G4 I1 r1 ty
 exact⟨T,id,pa,slot,Wb,h1,h2,Calls.callWith_builtin rfl (PySem.evalArgs_none (hm pins s1 σ H1 x [] v [] Q I1 r1 .nil q1))⟩
theorem wN(pa:PlainAttrs T)(slot:Slot T name id)(Wb:typeOf (.builtin id)=pure (.type "method_descriptor"))(hm:SJ X id r)(ho:PE X o to)(ha:PA X (e::es) t)
  (iF:attributeBase o name X.env (eval o X.env)=eval o X.env:=by rfl)
  (rP:((backTo bY (starEach (e::es) X.env)).all (λx=>!x.1)&&(backToKw bY (keywordEach [] X.env)).all (λx=>x.1.isSome)
    &&decide ((e::es).length+([]:List Keyword).length+(if([]:List Keyword).isEmpty then 0 else 1)<30))=true:=by rfl)
  (iG:(apos.endLine==bY.line)=true:=by rfl)(hs:starEach (e::es) X.env=(false,eval e X.env)::starEach es X.env:=by rfl)(OL:(backTo bY (starEach es X.env)).any (·.1)=false:=by rfl):
  PE X (.Call (.Attribute o name apos) (e::es) [] bY) (RE X.K T r to t):=by
 intro pins s σ H Q I h
 refine wpAny_Call_method_late iF rP iG rfl (dN (ho pins s σ H _ I h) λv s1 cZ=>?_)
 obtain⟨x,H1,I1,r1,ty,q1⟩:=cZ
 obtain⟨h1,h2⟩:=G4 I1 r1 ty
 refine⟨T,id,pa,slot,Wb,h1,h2,?_⟩
 have hA:=ha bY pins s1 σ H1 _ I1 q1
 rw[hs]at hA⊢
 refine Calls.callWith_builtin (by show(false||(backTo bY (starEach es X.env)).any (·.1))=false;rw[OL]<;>rfl) (Calls.evalArgs_plain ?_)
 exact dN hA λus s2 ⟨vs,H2,I2,r2,q2⟩=>hm pins s2 σ H2 x vs v us Q I2 r1 r2 q2
end
def Wc(X:Cx)(id:String)(r:V->List V->Hp->VK->Prop):Prop:=
 ∀(pins:List (Addr×Obj)) (s:Shared) (σ:St) (H:Hp) (x:V) (xs:List V) (v:Value) (us:List Value) (Q:VK),Inv X pins σ H s->RelV x v->Vals xs us->r x xs H Q->
  wpAny (model X.prog X.w) X.A (call (.builtin id) (v::us)) (EP X pins σ Q) X.xe s
theorem Vals.one{x:V}{us:List Value}(h:Vals [x] us):∃u,us=[u]/\RelV x u:=by
 cases h with
 |cons r t=>
  cases t
  exact⟨_,rfl,r⟩
theorem Vals.zero:∀{us:List Value},Vals [] us->us=[]
 |_,.nil=>rfl
theorem Vals.dropLast{xs:List V}{us:List Value}(h:Vals xs us):Vals xs.dropLast us.dropLast:=by
 induction h with
 |nil=>exact .nil
 |cons r t ih=>
  cases t with
  |nil=>exact .nil
  |cons q t'=>exact .cons r ih
theorem BV{α:Type}(l:List α):l.eraseIdx (l.length-1)=l.dropLast:=by
 induction l with
 |nil=>rfl
 |cons a r ih=>
  cases r with
  |nil=>rfl
  |cons b r=>
   have e:(a::b::r).length-1=((b::r).length-1)+1:=by
    have h1:(a::b::r).length=r.length+2:=rfl
    have h2:(b::r).length=r.length+1:=rfl
    omega
   rw[e,List.eraseIdx_cons_succ,ih]
   all_goals rfl
section
variable{X:Cx}{pins:List (Addr×Obj)}{σ:St}{H:Hp}{s:Shared}{l b:Addr}{xs ys zs:List V}
theorem Inv.OM{its its':List Value}{n:Nat}{f:Array Value->Array Value}{t':Nat}(I:Inv X pins σ H s)(hH:H l=some (.lst xs))
  (e:s.heap.get? l=some {cls:=.type "list",data:=.seq its.toArray n})(hf:f its.toArray=its'.toArray)(hv:Vals ys its')(hz:ys.length<=sizeLine):
  Inv X pins σ (upd H l (.lst ys)) {s with heap:=s.heap.update l (Obj.mapSeq f),toks:=t'}:=by
 have q:=PySem.IsL.update e f
 rw[hf]at q
 refine I.write (x:=l) (e:=l) (by rw[hH];exact trivial) (.inl rfl) (λb' u hb hu=>(z0Z s.heap (Obj.mapSeq f) (Ne.symm hb)).trans hu) ⟨_,q⟩ ?_
 exact⟨hz,its',_,hv,q⟩
theorem Inv.We{its:List Value}{t':Nat}(I:Inv X pins σ H s)(hv:Vals ys its)(hz:ys.length<=sizeLine):
  Inv X pins σ (upd H s.heap.objs.size (.lst ys)) {s with heap:=s.heap.push {cls:=.type "list",data:=.seq its.toArray},toks:=t'}:=
 I.laid (λ_ _ q=>Zv _ q) (U5 _) ⟨hz,its,0,hv,z0H _ rfl⟩
theorem Inv.fresh(I:Inv X pins σ H s):H s.heap.objs.size=none:=I.dU.fresh (U5 _)
theorem Inv.ON(I:Inv X pins σ H s)(hH:H l=some (.lst xs)):xs.length<=sizeLine/\∃(its:List Value) (n:Nat),Vals xs its/\xs.length=its.length/\s.heap.get? l=some {cls:=.type "list",data:=.seq its.toArray n}:=by
 obtain⟨z,its,n,r,e⟩:=I.dU l _ hH
 exact⟨z,its,n,r,r.length,e⟩
end
section
variable{X:Cx}
def qv:V->List V->Hp->VK->Prop:=λx vs H Q=>∃l xs y,x=.ref l/\vs=[y]/\H l=some (.lst xs)/\xs.length<sizeLine/\Q .non (upd H l (.lst (xs++[y])))
theorem oj:Wc X "list.append" qv:=by
 intro pins s σ H x vs v us Q I rx rv h
 obtain⟨l,xs,y,rfl,rfl,hH,hz,q⟩:=h
 cases rx
 obtain⟨u,rfl,ru⟩:=rv.one
 obtain⟨z,its,n,r,hl,e⟩:=I.ON hH
 refine call_meets F.slot_list_append ⟨_,e,rfl⟩ F.entry_list_append (F.args_list_append_2 _ _) (PySem.list_append l its.toArray n u (by rw[X4];omega)) ⟨e,?_⟩
 refine⟨.non,_,I.OM (its':=its++[u]) hH e (by simp) (r.append (.cons ru .nil)) ?_,rfl,q⟩
 rw[z0E,z0p]
 omega
def Wf:V->List V->Hp->VK->Prop:=λx vs H Q=>∃l xs y,x=.ref l/\vs=[]/\H l=some (.lst xs)/\xs[xs.length-1]?=some y/\Q y (upd H l (.lst xs.dropLast))
theorem OO:Wc X "list.pop" Wf:=by
 intro pins s σ H x vs v us Q I rx rv h
 obtain⟨l,xs,y,rfl,rfl,hH,hy,q⟩:=h
 cases rx
 have Wg:=rv.zero
 subst Wg
 obtain⟨z,its,n,r,hl,e⟩:=I.ON hH
 obtain⟨u,hu,ru⟩:=r.get hy
 have Wh:its.toArray[its.toArray.size-1]?=some u:=by
  show its.toArray[its.length-1]?=some u
  rw[<-z05,<-hl]
  exact hu
 refine call_meets F.slot_list_pop ⟨_,e,rfl⟩ F.entry_list_pop (F.args_list_pop_1 _) (MeetsSeq.list_pop_last l its.toArray n u Wh (by rw[X4];omega)) ⟨e,?_⟩
 refine⟨y,_,I.OM (its':=its.dropLast) hH e ?_ r.dropLast ?_,ru,q⟩
 ·show its.toArray.eraseIdxIfInBounds (its.toArray.size-1)=its.dropLast.toArray
  rw[X4,List.eraseIdxIfInBounds_toArray,BV]
 ·rw[List.length_dropLast]
  omega
def OP:V->List V->Hp->VK->Prop:=λx vs H Q=>∃l xs,x=.ref l/\vs=[]/\H l=some (.lst xs)/\Q .non (upd H l (.lst []))
theorem G6:Wc X "list.clear" OP:=by
 intro pins s σ H x vs v us Q I rx rv h
 obtain⟨l,xs,rfl,rfl,hH,q⟩:=h
 cases rx
 have Wg:=rv.zero
 subst Wg
 obtain⟨z,its,n,r,hl,e⟩:=I.ON hH
 refine call_meets F.slot_list_clear ⟨_,e,rfl⟩ F.entry_list_clear (F.args_list_clear_1 _) (AutoSeq1.list_clear_list_0 l its.toArray n (by rw[X4];omega)) ⟨e,?_⟩
 exact⟨.non,_,I.OM (its':=[]) (ys:=[]) hH e rfl .nil (z0S _),rfl,q⟩
end
end L2
namespace Att
open PySem PySem.W PySem.Calls PyProof.Rows
theorem tK{P:Params}{h:Heap}:∀(ns:List Int) (vs:List Value),WellAll P h vs (ns.map WData.int)->IntsAre vs ns:=by
 intro ns
 induction ns with
 |nil=>
  intro vs w
  rw[z1t]at w
  cases w
  exact .nil
 |cons n ns ih=>
  intro vs w
  rw[z0Q]at w
  cases w with
  |cons a b=>
   cases a
   exact .cons _ _ (ih _ b)
theorem E3{l:OpenLaw}{n:Nat}(hn:l.most=some n){P:Params}{h:Heap}{args:List WData}{vals:List Value}
  (Lb:l.row.toRowW.claim.pre args=true)(SS:WellAll P h vals args):
  ∃a vs ns,vals=[Value.ref a]/\args=[WData.list (ns.map WData.int)]/\h.get? a=some {cls:=.type "list",data:=.seq vs.toArray}/\IntsAre vs ns/\ns.length<=n:=by
 have Zr:WShape.hasAll [] args [.list .int]=true:=(pre_splitW Lb).1
 have hc:l.pre.holds [] {args:=args}=true:=(pre_splitW Lb).2
 obtain⟨d,r,rfl,h1,h2⟩:=hasAllW_cons Zr
 obtain rfl:=hasAllW_nil h2
 obtain⟨xs,rfl,h3⟩:=hasW_list h1
 obtain⟨ns,rfl⟩:=items_int h3
 have hlen:ns.length<=n:=by
  unfold OpenLaw.pre at hc
  have h4:(WTm.not (.lt (.lit (.int (n:Int))) (.len (.arg 0)))).holds [] {args:=[.list (ns.map .int)]}=true:=by
   have h4:=(holds_andW hc).1
   rw[hn]at h4
   exact h4
  have h5:=condW_of h4 (w_not (w_lt w_lit (w_len_list (w_arg rfl))))
  rw[X6]at h5
  refine Nat.le_of_not_lt λq=>?_
  have q':(n:Int)<((ns.length:Nat):Int):=by omega
  first
   |(rw[decide_eq_true q']at h5;exact absurd h5 (by decide))
   |(simp at h5;omega)
 cases SS with
 |cons w1 w2=>
  cases w2
  cases w1 with
  |list ho Wi=>exact⟨_,_,ns,rfl,rfl,ho,tK ns _ Wi,hlen⟩
theorem E4(l:OpenLaw)(args:List WData):l.row.toRowW.claim.post args (.bool true) args=true:=
 postW_of (r:=l.row.toRowW) (X:=(true==true))
  (show WShape.has [] (.bool true) .bool=true by first|rfl|decide|simp[WShape.has,WShape.arms,WShape.armsAll])
  (show(WTm.eq .res (.lit (.bool true))).value [] {args:=args,res:=some (.bool true),after:=args}=some (.bool (true==true))from w_eq_bool (w_res rfl) w_lit) rfl
theorem zO{l:OpenLaw}{n:Nat}{q:Program}{loose:List Str}{XP:(Str->Option Value)->Heap->Prop}{YP:World->Heap->Prop}{d:DefRec}
  (hn:l.most=some n)(Wj:d.params.defaults=[])
  (call:∀(w:World) (s₀ s₁:Shared) (mg mb:Str->Option Value) (fa:Addr) (o:Obj) (pm cd doc:Value) (a:Addr) (vs:List Value) (ns:List Int),
    Ground q loose [] XP w s₀ mg mb s₁.heap->YP w s₁.heap->
    s₁.heap.get? fa=some o->o.data=.func (docDef d.name d.params d.body d.scope pm cd doc)->s₁.heap.CodeRec cd d.name->mg d.name=some (.ref fa)->
    s₁.heap.get? a=some {cls:=.type "list",data:=.seq vs.toArray}->IntsAre vs ns->ns.length<=n->s₁.gens=#[]->
    codeAny (model l.prog w) callerA (.call (.ref fa) ⟨[.ref a],[]⟩) (λr s'=>r=.ok (.ret (.bool true))/\OldK s₁.heap s'.heap/\s'.os=s₁.os/\AllBare s'.gens) s₁):
  WalkO q loose XP YP l.row.toRowW d [] (λf vs=>PySem.call f vs):=by
 intro w s₀ s₁ mg mb G Y fa o pm cd doc dV kV ho hd j0 hD SU hg args vals as Lb Zs hrd SS X3
 obtain rfl:dV=.none:=Dflts.none hD Wj
 obtain rfl:kV=.none:=Dflts.noKw hD
 obtain⟨a,vs,ns,rfl,rfl,OQ,hints,hlen⟩:=E3 hn Lb SS
 refine enter_call (codeAny_mono (call w s₀ s₁ mg mb fa o pm cd doc a vs ns G Y ho (fd_plain hd) j0 SU OQ hints hlen hg) λr s' hq=>?_)
 obtain⟨rfl,h2,h3,h4⟩:=hq
 exact⟨.inl ⟨.bool true,.bool true,[],rfl,λ_=>rfl,.bool true,E4 l _,λ_=>⟨List.Pairwise.nil,λ_ hm=>(nomatch hm)⟩⟩,h2,h3,h4⟩
end Att
namespace L2
open PySem PySem.Spec PyProof.Rows
theorem wO:∀{vs:List Value} {ns:List Int},IntsAre vs ns->Vals (ns.map V.int) vs
 |_,_,.nil=>.nil
 |_,_,.cons n t h=>.cons ⟨t,rfl⟩ (wO h)
def SW(H:Hp):Prop:=∀b,H b=none\/∃o xs,H b=some (.frz o (.lst xs))
def om(s:Stmt):Arguments:=match s with
 |.FunctionDef _ a _ _ _ _ _ _ _ _=>a
 |_=>{posonlyargs:=[],args:=[],vararg:=none,kwonlyargs:=[],kw_defaults:=[],kwarg:=none,defaults:=[]}
def iH(s:Stmt):List Stmt:=match s with
 |.FunctionDef _ _ b _ _ _ _ _ _ _=>b
 |_=>[]
def ao(s:Stmt):Scope:=match s with
 |.FunctionDef _ _ _ _ _ _ sc _ _ _=>sc
 |_=>{kind:=.function,names:=[],isGenerator:=false,isCoroutine:=false}
abbrev cX:Gv:=λ_ _ _ _ _ _=>False
abbrev E0:XK:=λ_ _ _=>False
theorem jy{X:Cx}:Passes cX X E0:=λ_ _ _ _ _ _ _ h=>h.elim
structure rQ(K:PySem.W.Frag)(x qual:Str)(st:Stmt)(f:Addr)(fd:FuncData):Prop where
 ex:∃(oc:Value) (od:Option Addr) (kV doc pm:Value) (an:Option Addr) (cR ct:Value) (Kx:Array (Option Value)),
  fd=PySem.W.fnOf x qual (om st) (iH st) (ao st) .none kV doc pm an cR ct/\K.lookup f=some ⟨oc,od,.func fd,Kx⟩/\PySem.W.codeIn K cR qual=true
 kp:PySem.W.keepIn K (.ref f)=true
section
variable{P:Program}{w:World}{K:PySem.W.Frag}{mg:Str->Option Value}{base:Heap}
theorem rQ.ok{x qual:Str}{st:Stmt}{f:Addr}{fd:FuncData}{N ps:List Str}{k:Nat}{sp:Sp}(F:rQ K x qual st f fd)(S:aU N ps (ao st))(len:∀vs H Q E,sp vs H Q E->vs.length=ps.length)
  (zM:∀(cR:Value) (A:Around) (outer:List Env) (s:Shared) (H:Hp) (vs:List V) (Q:VK) (E:XK),c8 k (A.deeper (envOfC qual (ao st) s.heap.objs.size f cR))->sp vs H Q E->
    ∃t,xM (lh cX P w K mg base N qual (ao st) f cR A outer s H E).Kw (iH st) t/\t {nx:=λ_ H'=>Q .non H',rt:=Q} (start N vs) H):aK P w K mg base cX (k+1) f fd ps sp:=by
 obtain⟨oc,od,kV,doc,pm,an,cR,ct,Kx,rfl,lk,j0⟩:=F.ex
 refine G0 lk j0 S len λA outer s H vs Q E hr RB=>?_
 obtain⟨t,h,q⟩:=zM cR A outer s H vs Q E hr RB
 exact⟨t,h.Kw,q⟩
theorem rQ.binds{x qual:Str}{st:Stmt}{f:Addr}{fd:FuncData}{ps:List Str}(F:rQ K x qual st f fd)
  (h:∀(kV doc pm:Value) (an:Option Addr) (cR ct:Value) (us:List Value),us.length=ps.length->bindArgs (PySem.W.fnOf x qual (om st) (iH st) (ao st) .none kV doc pm an cR ct) ⟨us,[]⟩=pure (ps.zip us)):Binds K fd ps []:=by
 obtain⟨oc,od,kV,doc,pm,an,cR,ct,Kx,rfl,lk,j0⟩:=F.ex
 exact .all (h kV doc pm an cR ct)
theorem OS{x qual:Str}{st:Stmt}{f:Addr}{oc:Value}{od an:Option Addr}{Kx:Array (Option Value)}{kV doc pm cR ct:Value}(l:K.lookup f=some ⟨oc,od,.func (PySem.W.fnOf x qual (om st) (iH st) (ao st) .none kV doc pm an cR ct),Kx⟩)
 (c:PySem.W.codeIn K cR qual=true)(k:PySem.W.keepIn K (.ref f)=true):rQ K x qual st f (PySem.W.fnOf x qual (om st) (iH st) (ao st) .none kV doc pm an cR ct):=⟨⟨oc,od,kV,doc,pm,an,cR,ct,Kx,rfl,l,c⟩,k⟩
end
section
variable{X:Cx}
theorem pv(i:Nat){x:Str}{pos:Pos}(hN:X.N[i]?=some x:=by rfl)(hv:uq X.env.scope x:=by first|exact Or.inl rfl|exact Or.inr (Or.inl rfl)|exact Or.inr (Or.inr rfl))(hd:(x==("__debug__" :Str))=false:=by decide)
 (j0:(x==("__classdict__" :Str))=false:=by decide):PE X (.Name x pos) (fR i):=dm hN hv hd j0
end
theorem qw{A B:Prop}(h:B):if false=true then A else B:=by
 rw[if_neg z0J]
 exact h
theorem uF{A B:Prop}(h:A):if true=true then A else B:=by
 rw[if_pos rfl]
 exact h
def aE(H H':Hp):Prop:=∀b o,H b=some o->H' b=some o
theorem aE.refl(H:Hp):aE H H:=λ_ _ h=>h
theorem aE.trans{H H1 H2:Hp}(a:aE H H1)(b:aE H1 H2):aE H H2:=λc o h=>b c o (a c o h)
theorem aE.free{H H':Hp}(e:aE H H'){l:Addr}(h:H' l=Option.none):H l=Option.none:=by
 cases q:H l with
 |none=>rfl
 |some o=>
  rw[e l o q]at h
  cases h
def x8(sc:Scope)(env:Env):List (Str×Addr):=sc.names.foldl (λcs p=>if p.2=.free then(p.1,(env.cells.lookup p.1).getD 0)::cs else cs) []
theorem x9(env:Env):∀(ns:List (Str×NameKind)) (acc:List (Str×Addr)),(∀p∈ns,p.2=.free->∃c,env.cells.lookup p.1=some c)->
  (forIn ns acc (λ(x:Str×NameKind) (r:List (Str×Addr))=>match x with|(name,kind)=>if(kind==.free)=true then(do let c<-cellOf env name;pure (ForInStep.yield ((name,c)::r)))else pure (ForInStep.yield r)):Sem _)=
    pure (ns.foldl (λcs p=>if p.2=.free then(p.1,(env.cells.lookup p.1).getD 0)::cs else cs) acc)
 |[],acc,_=>rfl
 |(n,k)::ns,acc,h=>by
  rw[z1x]
  by_cases hk:k=.free
  ·subst hk
   obtain⟨c,hc⟩:=h (n,.free) (RF ..) rfl
   have e1:cellOf env n=pure c:=by
    unfold cellOf
    rw[hc]
   dsimp only
   rw[if_pos (by rfl),e1,pure_bind,pure_bind,z01,if_pos rfl,hc]
   exact x9 env ns _ λp hp=>h p (X5 _ hp)
  ·dsimp only
   rw[if_neg (by simpa using hk),pure_bind,z01,if_neg hk]
   exact x9 env ns _ λp hp=>h p (X5 _ hp)
theorem Dx{sc:Scope}{env:Env}(h:∀p∈sc.names,p.2=.free->∃c,env.cells.lookup p.1=some c):closureFor sc env=pure (x8 sc env):=by
 unfold closureFor x8
 have:=x9 env sc.names [] h
 exact(congrArg (λm:Sem (List (Str×Addr))=>m>>=λr=>pure r) this).trans rfl
theorem Dy(env:Env):∀(ns:List (Str×NameKind)) (acc:List (Str×Addr)) (y:Str) (c:Addr),(ns.foldl (λcs p=>if p.2=.free then(p.1,(env.cells.lookup p.1).getD 0)::cs else cs) acc).lookup y=some c->
  acc.lookup y=some c\/((y,NameKind.free)∈ns/\c=(env.cells.lookup y).getD 0)
 |[],acc,y,c,h=>.inl h
 |(n,k)::ns,acc,y,c,h=>by
  rw[z01]at h
  rcases Dy env ns _ y c h with h1|⟨h1,h2⟩
  ·by_cases hk:k=.free
   ·rw[if_pos hk,z0K]at h1
    by_cases hy:(y==n)=true
    ·rw[hy]at h1
     have e:y=n:=eq_of_beq hy
     subst e
     exact .inr ⟨by rw[hk];exact RF ..,(z0O h1).symm⟩
    ·rw[Bool.not_eq_true]at hy
     rw[hy]at h1
     exact .inl h1
   ·rw[if_neg hk]at h1
    exact .inl h1
  ·exact .inr ⟨X5 _ h1,h2⟩
theorem BW(env:Env):∀(ns:List (Str×NameKind)) (acc:List (Str×Addr)) (y:Str),((y,NameKind.free)∈ns\/∃c,acc.lookup y=some c)->∃c,(ns.foldl (λcs p=>if p.2=.free then(p.1,(env.cells.lookup p.1).getD 0)::cs else cs) acc).lookup y=some c
 |[],acc,y,h=>by
  rcases h with h|h
  ·cases h
  ·exact h
 |(n,k)::ns,acc,y,h=>by
  rw[z01]
  refine BW env ns _ y ?_
  rcases h with h|⟨c,h⟩
  ·rcases z0N.mp h with e|h
   ·injection e with e1 e2
    subst e1 e2
    rw[if_pos rfl,z0K]
    exact .inr ⟨_,by rw[beq_self_eq_true]⟩
   ·exact .inl h
  ·refine .inr ?_
   split
   ·rw[z0K]
    cases y==n with
    |true=>exact⟨_,rfl⟩
    |false=>exact⟨c,h⟩
   ·exact⟨c,h⟩
structure jN(zP:Scope)(N:List Str)(sc:Scope)(x:Str)(ys:List Str):Prop where
 kind:sc.kind=.function
 xloc:sc.names.lookup x=some .local
 nocell:∀p∈sc.names,p.2≠.cell
 locs:∀p∈sc.names,p.2=.local->sc.names.lookup p.1=some .local
 free:∀p∈sc.names,p.2=.free->zP.names.lookup p.1=some .cell\/zP.names.lookup p.1=some .free
 nd:(x::ys).Nodup
 len:ys.length=N.length
 pl:∀p∈ys.zip N,sc.names.lookup p.1=some .free->p.1=p.2
 nl:∀y∈ys,sc.names.lookup y≠some .local
def pd(zP:Scope)(N:List Str)(sc:Scope)(x:Str)(ys:List Str):Bool:=
 decide (sc.kind=.function)&&decide (sc.names.lookup x=some .local)&&decide (∀p∈sc.names,p.2≠.cell)&&decide (∀p∈sc.names,p.2=.local->sc.names.lookup p.1=some .local)&&
 decide (∀p∈sc.names,p.2=.free->zP.names.lookup p.1=some .cell\/zP.names.lookup p.1=some .free)&&decide ((x::ys).Nodup)&&decide (ys.length=N.length)&&
 decide (∀p∈ys.zip N,sc.names.lookup p.1=some .free->p.1=p.2)&&decide (∀y∈ys,sc.names.lookup y≠some .local)
theorem jN.of{zP:Scope}{N:List Str}{sc:Scope}{x:Str}{ys:List Str}(h:pd zP N sc x ys=true):jN zP N sc x ys:=by
 unfold pd at h
 simp only[z0F,decide_eq_true_eq]at h
 obtain⟨⟨⟨⟨⟨⟨⟨⟨h1,h2⟩,h3⟩,h4⟩,h5⟩,h6⟩,h7⟩,h8⟩,h9⟩:=h
 exact⟨h1,h2,h3,h4,h5,h6,h7,h8,h9⟩
def Cx.tL(X:Cx)(sc:Scope)(x:Str)(ys:List Str)(ex:List Addr)(C:Addr)(s:Shared)(H:Hp):Cx where
 prog:=X.prog
 w:=X.w
 K:=X.K
 mg:=X.mg
 base:=X.base
 A:=X.A
 N:=x::ys
 s₀:=s
 H₀:=H
 env:=compEnvC sc (x8 sc X.env) C X.env
 outer:=X.stack
 stack:=X.stack
 ex:=ex
 fn:=λ_=>false
 calm:=X.calm
 pn:=[]
 xe:=λ_ _=>False
theorem dE{env:Env}:∀{ns:List (Str×NameKind)} {y:Str} {k:NameKind},(ns.map λ(n,k)=>if(k==NameKind.free&&env.scope.kind==.function&&env.kindOf n==some .cell)then(n,NameKind.cell)else(n,k)).lookup y=some k->
  ns.lookup y=some k\/(ns.lookup y=some .free/\k=.cell)
 |[],y,k,h=>by cases h
 |(n,j)::ns,y,k,h=>by
  rw[z0Q]at h
  dsimp only at h
  cases hy:y==n with
  |true=>
   by_cases hc:(j==NameKind.free&&env.scope.kind==.function&&env.kindOf n==some .cell)=true
   ·rw[if_pos hc,z0K,hy]at h
    have hj:j=.free:=by
     simp only[z0F]at hc
     exact eq_of_beq hc.1.1
    refine .inr ⟨?_,(z0O h).symm⟩
    rw[z0K,hy,hj]
   ·rw[if_neg hc,z0K,hy]at h
    refine .inl ?_
    rw[z0K,hy]
    exact h
  |false=>
   have h':(ns.map λ(n,k)=>if(k==NameKind.free&&env.scope.kind==.function&&env.kindOf n==some .cell)then(n,NameKind.cell)else(n,k)).lookup y=some k:=by
    by_cases hc:(j==NameKind.free&&env.scope.kind==.function&&env.kindOf n==some .cell)=true
    ·rw[if_pos hc,z0K,hy]at h
     exact h
    ·rw[if_neg hc,z0K,hy]at h
     exact h
   rw[z0K,hy]
   exact dE h'
section
variable{X:Cx}{pins:List (Addr×Obj)}{σ:St}{H:Hp}{s:Shared}{sc:Scope}{x:Str}{ys:List Str}
theorem jN.cell(cs:jN X.env.scope X.N sc x ys)(I:Inv X pins σ H s){y:Str}(h:(y,NameKind.free)∈sc.names):∃c,X.env.cells.lookup y=some c:=I.ok.has y (cs.free _ h rfl)
theorem jN.cl(cs:jN X.env.scope X.N sc x ys)(I:Inv X pins σ H s){y:Str}{c:Addr}(h:(x8 sc X.env).lookup y=some c):X.env.cells.lookup y=some c/\(y,NameKind.free)∈sc.names:=by
 rcases Dy X.env sc.names [] y c h with h1|⟨h1,h2⟩
 ·cases h1
 ·obtain⟨d,hd⟩:=cs.cell I h1
  rw[hd]at h2
  rw[h2]
  exact⟨hd,h1⟩
theorem OT(cs:jN X.env.scope X.N sc x ys)(I:Inv X pins σ H s){fp:List Addr}(hf:∀b∈fp,rJ X pins H b)(tM:∀b∈fp,b<s.heap.objs.size){C:Addr}(hC:s.heap.objs.size<=C):(X.tL sc x ys fp C s H).Ok where
 mod:=I.ok.mod
 kind:=cs.kind
 glob:=I.ok.glob
 blt:=I.ok.blt
 above:=hC
 inj:=λy z c h1 h2=>I.ok.inj y z c (cs.cl I h1).1 (cs.cl I h2).1
 has:=λy hy=>by
  have Wh:(relabel sc X.env).names.lookup y=some .cell\/(relabel sc X.env).names.lookup y=some .free:=hy
  have hf:(y,NameKind.free)∈sc.names:=by
   rcases Wh with h|h
   ·rcases dE h with h1|⟨h1,_⟩
    ·exact absurd rfl (cs.nocell _ (z0h h1))
    ·exact z0h h1
   ·rcases dE h with h1|⟨h1,_⟩
    ·exact z0h h1
    ·exact z0h h1
  exact BW X.env sc.names [] y (.inl hf)
 cab:=λy c h=>by cases h
 hd:=I.ok.hd
 frames:=I.ok.frames
 stk:=.inl rfl
 exf:=λb hb=>⟨λe=>by
  have:=tM b hb
  rw[e]at this
  exact absurd (z0I this hC) (z0e _),λy c h=>(hf b hb).2.2.2.2.1 y c (cs.cl I h).1⟩
 bs:=I.bs
 bsz:=z0T I.ok.bsz I.sz
 noex:=λb o e hb=>by
  rcases(hf b hb).2.2.2.1 with h|h
  ·exact I.ok.noex b o e h
  ·exact absurd (z0I (z0A e) (z0T I.ok.bsz h)) (z0e _)
 exfs:=λb hb h=>(z0N.mp (I.BB b h)).elim (hf b hb).2.1 (hf b hb).2.2.1
 funs:=I.stack
 frf:=I.qh
end
def G7(X:Cx)(ifs:List Expr)(t:TT):Prop:=
 ∀(pins:List (Addr×Obj)) (s:Shared) (σ:St) (H:Hp) (Q:Bool->Hp->Prop),Inv X pins σ H s->t σ H Q->
  wpAny (model X.prog X.w) X.A (forIn ifs true λc r=>if r=true then do let ok<-isTrue c X.env (eval c X.env);pure (ForInStep.yield ok)else pure (ForInStep.yield r)) (TP X pins σ Q) X.xe s
theorem zQ{X:Cx}:G7 X [] (λ_ H Q=>Q true H):=λpins s σ H Q I h=>wpAny_tests_nil ⟨H,I,h⟩
theorem G8{X:Cx}{c:Expr}{t:TT}(h:PT X c t):G7 X [c] t:=λpins s σ H Q I q=>wpAny_tests_one (h pins s σ H Q I q)
def G9(wi:TI)(tt:TT)(te:TE):TE:=λσ H Q=>wi σ H λJ H1=>∃W:Nat->Nat->List V->Hp->Prop,(∃m,W 0 m [] H1)/\∀i m acc H,W i m acc H->
 (J.stop i H/\∀p,H p=none->Q (.ref p) (upd H p (.lst acc)))\/(J.go i H/\acc.length<sizeLine/\∀y H',J.yld i H y H'->tt (some y::σ) H' λb H2=>
   if b=true then te (some y::σ) H2 λz H3=>∃m',m'<m/\W (i+1) m' (acc++[z]) H3 else∃m',m'<m/\W (i+1) m' acc H2)
section
variable{X:Cx}{sc:Scope}{x:Str}{ys:List Str}{px:Pos}{elt iter:Expr}{ifs:List Expr}{pos:Pos}{wi:TI}{tt:TT}{te:TE}
def lobj(its:List Value)(n:Nat):Obj:={cls:=.type "list",data:=.seq its.toArray n}
theorem zR{M:Value->Env->Result->Shared->Prop}{pins:List (Addr×Obj)}{σ:St}{H:Hp}{s:Shared}{E:Value->Shared->Prop}(hc:X.calm=true)(cs:jN X.env.scope X.N sc x ys)(I:Inv X pins σ H s)
  (ht:∀ex C s H,G7 (X.tL sc x ys ex C s H) ifs tt)(he:∀ex C s H,PE (X.tL sc x ys ex C s H) elt te)
  {it:Addr}{fp:List Addr}{tn:Nat->Heap->Prop}{J:It}(T:Turn X.prog X.w X.K (.Name x px) J fp it tn)(st:tn 0 s.heap)(hf:∀b∈fp,rJ X pins H b)
  {W:Nat->Nat->List V->Hp->Prop}{m0:Nat}(w0:W 0 m0 [] H){F:List V->Hp->Prop}
  (turn:∀i m acc H,W i m acc H->(J.stop i H/\F acc H)\/(J.go i H/\acc.length<sizeLine/\∀y H',J.yld i H y H'->tt (some y::σ) H' λb H2=>
    if b=true then te (some y::σ) H2 λz H3=>∃m',m'<m/\W (i+1) m' (acc++[z]) H3 else∃m',m'<m/\W (i+1) m' acc H2))
  (hM:∀(D C:Addr) (oE:Env) (s':Shared) (acc:List V) (H':Hp) (its:List Value) (n:Nat),oE.locals=C->D≠C->s.heap.objs.size<=D->s.heap.objs.size<=C->Inv (X.tL sc x ys fp C s H) [(D,lobj its n)] (none::σ) H' s'->Vals acc its->acc.length<=sizeLine->F acc H'->
    M (.ref D) oE (.ok .next) s'):
  wpAny (model X.prog X.w) X.A (newList []) (λacc s₃=>wpAny (model X.prog X.w) X.A (newFunctionEnv sc X.env.globals (x8 sc X.env) [] X.env.qual none .none (some X.env)) (λoE s₄=>
   codeAny (model X.prog X.w) X.A (.compStart (.ListComp elt [⟨.Name x px,iter,ifs,0⟩] sc pos) 0 (.ref it) acc {oE with scope:=relabel sc X.env}) (M acc oE) s₄) E s₃) E s:=by
 have tM:∀b∈fp,b<s.heap.objs.size:=λb hb=>by
  obtain⟨o,e,_⟩:=T.obj 0 _ st b hb
  exact z0A e
 refine wpAny_newObj_type (wpAny_newFunctionEnv cs.nocell (by intro y hy;simp at hy) (λh1 RG U6=>?_) cs.kind)
 dsimp only at RG U6⊢
 generalize RH:s.heap.push {cls:=.type "list",dict:=none,data:=.seq ([]:List Value).toArray}=h2 at RG U6⊢
 have hC:h2.objs.size=s.heap.objs.size+1:=by rw[<-RH,z1D]
 have Ky:s.heap.objs.size≠h2.objs.size:=by omega
 have old:∀b o,s.heap.get? b=some o->h1.get? b=some o:=λb o e=>by
  have hb:=z0A e
  rw[U6.2 b (by rw[hC];exact z0V (Nat.lt_succ_of_lt hb))]
  exact Zv _ (RH▸Zv _ e)
 have hD:h1.get? s.heap.objs.size=some (lobj [] 0):=by
  rw[U6.2 _ Ky]
  exact Zv _ (RH▸z0H _ rfl)
 generalize hCe:h2.objs.size=C at*
 have OU:s.heap.objs.size<=C:=by omega
 have Ha:∀b,s.heap.objs.size<=b->H b=none:=λb hb=>I.dU.fresh hb
 have N4:∀b,s.heap.objs.size<=b->b∉jq X.stack:=λb hb z=>by
  obtain⟨_,o,ho,_⟩:=(I.stack).mem z
  exact absurd (z0I (z0A ho) hb) (z0e _)
 have I0:Inv (X.tL sc x ys fp C s H) [(s.heap.objs.size,lobj [] 0)] (none::σ) H {s with heap:=h1,toks:=s.toks+([]:List (Str×Value)).length}:=by
  refine⟨OT cs I hf tM OU,rfl,I.bare,Un.kept old,⟨_,RG,λi y v e1 e2 e3=>?_⟩,λy c e=>?_,Ha _ OU,λy c e=>I.freeC y c (cs.cl I e).1,λp hp=>?_,I.dU.kept old,?_⟩
  ·cases i with
   |zero=>cases e2
   |succ i=>
    have Wl:ys[i]?=some y:=e1
    have Zw:σ[i]?=some (some v):=e2
    have Gz:(relabel sc X.env).names.lookup y=some .local\/(relabel sc X.env).names.lookup y=some .cell\/(relabel sc X.env).names.lookup y=some .free:=e3
    have SX:sc.names.lookup y=some .free:=by
     rcases Gz with h|h|h
     ·rcases dE h with h1|⟨_,h1⟩
      ·exact absurd h1 (cs.nl y (z1g Wl))
      ·cases h1
     ·rcases dE h with h1|⟨h1,_⟩
      ·exact absurd rfl (cs.nocell _ (z0h h1))
      ·exact h1
     ·rcases dE h with h1|⟨h1,_⟩
      ·exact h1
      ·exact h1
    have hi:i<X.N.length:=by
     rw[<-cs.len]
     exact(z0C.mp Wl).1
    have hN:X.N[i]?=some y:=by
     have hz:(ys.zip X.N)[i]?=some (y,X.N[i]):=by
      rw[List.getElem?_zip_eq_some]
      exact⟨Wl,z0G hi⟩
     have:=cs.pl _ (z1g hz) SX
     dsimp only at this
     rw[this]
     exact z0G hi
    have OV:(y,NameKind.free)∈sc.names:=z0h SX
    obtain⟨m,hn,hl⟩:=I.loc
    obtain⟨u,r,lk⟩:=hl i y v hN Zw (.inr (cs.free _ OV rfl))
    refine⟨u,r,.inr ⟨?_,?_⟩⟩
    ·rcases Gz with h|h
     ·rcases dE h with h1|⟨_,h1⟩
      ·rw[SX]at h1
       cases h1
      ·cases h1
     ·exact h
    ·rcases lk with⟨k,_⟩|⟨_,c,e,z⟩
     ·rcases cs.free _ OV rfl with h|h
      ·have k':X.env.scope.names.lookup y=some .local:=k
       rw[h]at k'
       cases k'
      ·have k':X.env.scope.names.lookup y=some .local:=k
       rw[h]at k'
       cases k'
     ·obtain⟨c',Ry⟩:=BW X.env sc.names [] y (.inl OV)
      have:c'=c:=by
       have:=(cs.cl I (show(x8 sc X.env).lookup y=some c' from Ry)).1
       rw[e]at this
       exact(z0O this).symm
      subst this
      obtain⟨o,ho,hd⟩:=z
      exact⟨c',Ry,o,old _ _ ho,hd⟩
  ·obtain⟨v,o,ho,hd⟩:=I.cell y c (cs.cl I e).1
   exact⟨v,o,old _ _ ho,hd⟩
  ·obtain rfl:p=(s.heap.objs.size,lobj [] 0):=by simpa using(show p∈([]:List (Addr×Obj))++[(s.heap.objs.size,lobj [] 0)]from hp)
   exact⟨hD,Ha _ (U5 _),Ky,N4 _ (U5 _),λv z=>by cases z⟩
  ·show(none::σ).length=(x::ys).length
   rw[Wk,Wk,I.len,cs.len]
 have Wm:s.heap.objs.size∉fp:=λz=>z0e _ (tM _ z)
 have Wn:∀{qi:List (Addr×Obj)} {H':Hp} {s':Shared} {σ':St},Inv (X.tL sc x ys fp C s H) qi σ' H' s'->(∀b∈fp,H' b=none)->(∀p∈qi,p.1∉fp)->∀b∈fp,rJ (X.tL sc x ys fp C s H) qi H' b:=λ{qi H' s' σ'} I' hn hp b hb=>
  ⟨hn b hb,(I'.ok.exf b hb).1,I'.ok.exfs b hb,.inl hb,(I'.ok.exf b hb).2,λp RI z=>by
    have Wo:p∈qi:=by simpa using(show p∈([]:List (Addr×Obj))++qi from RI)
    exact hp p Wo (z▸hb)⟩
 have loop:∀s3:Shared,s3={s with heap:=h1,toks:=s.toks+([]:List (Str×Value)).length}->∀oE:Env,oE.locals=C->
   codeAny (model X.prog X.w) X.A (.compLoop (.ListComp elt [⟨.Name x px,iter,ifs,0⟩] sc pos) 0 (.ref it) (.ref s.heap.objs.size) (compEnvC sc (x8 sc X.env) C X.env)) (M (.ref s.heap.objs.size) oE) s3:=by
  rintro s3 rfl oE OW
  refine codeAny_compLoop_tests (λm s'=>∃i acc H' its n,Inv (X.tL sc x ys fp C s H) [(s.heap.objs.size,lobj its n)] (none::σ) H' s'/\Vals acc its/\acc.length<=sizeLine/\tn i s'.heap/\(∀b∈fp,H' b=none)/\W i m acc H') ?_ m0
   ⟨0,[],H,[],0,I0,.nil,z0S _,T.keep 0 _ _ st λb hb o e=>old b o e,λb hb=>(hf b hb).1,w0⟩
  rintro m s' ⟨i,acc,H',its,n,I1,rv,hz,M5,X7,w1⟩
  have Wq:∀p∈[(s.heap.objs.size,lobj its n)],p.1∉fp:=λp hp=>by
   obtain rfl:p=(s.heap.objs.size,lobj its n):=by simpa using hp
   exact Wm
  rcases turn i m acc H' w1 with⟨stop,fin⟩|⟨go,hz1,step⟩
  ·refine wpAny_mono (T.done (X.tL sc x ys fp C s H) rfl rfl rfl hc i _ s' _ H' (λ_ _=>False) I1 (Wn I1 X7 Wq) M5 stop) (λr s4 ⟨hr,I4⟩=>?_) (λ_ _ z=>z.elim)
   subst hr
   exact hM _ C oE s4 acc H' its n OW Ky (U5 _) OU I4 rv hz fin
  ·refine wpAny_mono (T.item (X.tL sc x ys fp C s H) rfl rfl rfl hc i _ s' _ H' (λ_ _=>False) I1 (Wn I1 X7 Wq) M5 go) (λr s4 cZ=>?_) (λ_ _ z=>z.elim)
   obtain⟨u,hr,h4⟩:=cZ
   subst hr
   dsimp only
   have e0:∀env:Env,(letOwnedTupleGo (.Name x px) (.ref it) u>>=λ_=>assign (.Name x px) env u)=assign (.Name x px) env u:=λenv=>by
    rw[show letOwnedTupleGo (.Name x px) (.ref it) u=pure ()from rfl,pure_bind]
   rw[<-e0]
   refine wpAny_bind (wpAny_mono h4 (λ_ s5 cZ=>?_) (λ_ _ z=>z.elim))
   obtain⟨y,H5,I5,r5,y5,Om,VX⟩:=cZ
   have VY:=I5.pinned (Wn I5 VX Wq) (T.obj _ _ Om)
   have xl:(X.tL sc x ys fp C s H).env.scope.names.lookup x=some .local:=lookup_relabel_local cs.xloc
   refine wpAny_assign_Name (kL VY cs.nd (i:=0) rfl (.inl xl) r5 (λs6 I6=>?_) (.inr xl))
   refine wpAny_mono (ht fp C s H _ s6 (some y::σ) H5 _ I6 (step y H5 y5)) (λb s7 cZ=>?_) (λ_ _ z=>z.elim)
   obtain⟨H7,I7,q7⟩:=cZ
   have M6:∀{H':Hp} {s':Shared} {σ':St} {pl:List (Addr×Obj)},Inv (X.tL sc x ys fp C s H) (pl++k7 fp s5.heap) σ' H' s'->tn (i+1) s'.heap/\∀b∈fp,H' b=none:=λ{H' s' σ' pl} I'=>by
    refine⟨T.keep _ _ _ Om λb hb o e=>(I'.pin (b,o) (z0P _ (z0P _ (k8 hb e)))).1,λb hb=>?_⟩
    obtain⟨o,e,d⟩:=T.obj _ _ Om b hb
    exact(I'.pin (b,o) (z0P _ (z0P _ (k8 hb e)))).2.1
   have wk:∀{H':Hp} {s':Shared} {pl:List (Addr×Obj)},Inv (X.tL sc x ys fp C s H) pl (some y::σ) H' s'->Inv (X.tL sc x ys fp C s H) pl (none::σ) H' s':=λ{H' s' pl} I'=>I'.weak (by simp) λj v e=>by
    cases j with
    |zero=>cases e
    |succ j=>exact e
   cases b with
   |false=>
    rw[if_neg z0J]at q7
    obtain⟨m',hm,w7⟩:=q7
    obtain⟨t7,f7⟩:=M6 I7
    exact⟨m',hm,i+1,acc,H7,its,n,wk I7.qm,rv,hz,t7,f7,w7⟩
   |true=>
    rw[if_pos rfl]at q7
    refine wpAny_mono (he fp C s H _ s7 (some y::σ) H7 _ I7 q7) (λu8 s8 ⟨z,H8,I8,r8,m',hm,w8⟩=>?_) (λ_ _ z=>z.elim)
    obtain⟨t8,f8⟩:=M6 I8
    obtain⟨p1,p2,p3,p4,p5⟩:=I8.pin (s.heap.objs.size,lobj its n) (z0P _ (z09 _ (z0U.mpr rfl)))
    have hl:=rv.length
    refine wpAny_list_append_plain (items:=its.toArray) ⟨n,p1⟩ (λh9 Zy sb9=>?_) (by rw[X4];omega)
    obtain⟨n9,e9⟩:=Zy
    have Zz:h9.get? s.heap.objs.size=some (lobj (its++[u8]) n9):=by
     rw[e9]
     unfold lobj
     simp
    have Ia:Inv (X.tL sc x ys fp C s H) (k7 fp s5.heap) (none::σ) H8 s8:=(wk I8).tS λp hp=>I8.pin p (z0P _ (z0P _ hp))
    have Ib:Inv (X.tL sc x ys fp C s H) (k7 fp s5.heap) (none::σ) H8 {s8 with heap:=h9,toks:=s8.toks}:=Ia.turned (it:=s.heap.objs.size) (λb o hb e=>(sb9.2 b hb).trans e) p2 p3 (.inr (U5 _))
     (λy c e z=>by
       obtain⟨v,o,ho,_⟩:=I.cell y c (cs.cl I e).1
       exact absurd (z0A ho) (by rw[z];exact z0e _))
     (λp hp z=>by
       have RI:p∈k7 fp s5.heap:=by simpa using(show p∈([]:List (Addr×Obj))++k7 fp s5.heap from hp)
       exact Wm (z▸(wG RI).1))
    refine⟨m',hm,i+1,acc++[z],H8,its++[u8],n9,Ib.tS λp hp=>?_,rv.append (.cons r8 .nil),?_,T.keep _ _ _ t8 λb hb o e=>?_,f8,w8⟩
    ·obtain rfl:p=(s.heap.objs.size,lobj (its++[u8]) n9):=by simpa using hp
     exact⟨Zz,p2,p3,p4,λv z=>by cases z⟩
    ·rw[z0E,z0p]
     omega
    ·exact(sb9.2 b (λz=>Wm (z▸hb))).trans e
 exact codeAny_compStart_list (loop _ rfl _ rfl) (T.self _ 0 _ _ _ (T.keep 0 _ _ st λb hb o e=>old b o e) (loop _ rfl _ rfl))
end
section
variable{X:Cx}{sc:Scope}{x:Str}{ys:List Str}{px:Pos}{elt iter:Expr}{ifs:List Expr}{pos:Pos}{wi:TI}{tt:TT}{te:TE}
theorem comp_back{pins:List (Addr×Obj)}{σ σ':St}{H H':Hp}{s s':Shared}(cs:jN X.env.scope X.N sc x ys)(I:Inv X pins σ H s){fp:List Addr}(hf:∀b∈fp,rJ X pins H b){D C:Addr}{its:List Value}{n:Nat}{acc:List V}
  (I':Inv (X.tL sc x ys fp C s H) [(D,lobj its n)] σ' H' s')(Ky:D≠C)(hD:s.heap.objs.size<=D)(hC:s.heap.objs.size<=C)(rv:Vals acc its)(hz:acc.length<=sizeLine){h':Heap}(sb:Heap.SameBut C s'.heap h'):
  Inv X pins σ (upd H' D (.lst acc)) {s' with heap:=h'}:=by
 obtain⟨p1,p2,p3,p4,p5⟩:=I'.pin (D,lobj its n) (z0P _ (z0U.mpr rfl))
 have below:∀b o,s.heap.get? b=some o->b≠D/\b≠C:=λb o e=>⟨z0V (z0I (z0A e) hD),z0V (z0I (z0A e) hC)⟩
 have U:Un (jq X.stack) fp H H' s.heap s'.heap:=I'.base
 have qj:H' C=none:=I'.free
 refine I.MV (ch:=fp) I'.os ⟨λb o e n hb hx=>?_,λb o e n hb hx=>?_,λb o e n hx=>?_,λb o e hx=>?_,λb xs e=>?_,λb o u e=>?_,λb ps e=>?_⟩ (λb o e=>?_) I'.bare λb hb=>⟨(hf b hb).2.2.2.1,(hf b hb).2.1,(hf b hb).2.2.2.2.1,(hf b hb).2.2.2.2.2⟩
 ·exact(sb.2 b (below b o e).2).trans (U.keep b o e n hb hx)
 ·obtain⟨sl,q⟩:=U.slot b o e n hb hx
  exact⟨sl,(sb.2 b (below b o e).2).trans q⟩
 ·rw[au (below b o e).1]
  exact U.free b o e n hx
 ·obtain⟨o',q⟩:=U.there b o e hx
  exact⟨o',(sb.2 b (below b o e).2).trans q⟩
 ·rw[au (cE (U.o8 b xs e) p2)]
  exact U.o8 b xs e
 ·rw[au (cE (U.oC b o u e) p2)]
  exact U.oC b o u e
 ·obtain⟨more,q⟩:=U.qg b ps e
  exact⟨more,by rw[au (cE q p2)];exact q⟩
 ·by_cases hb:b=D
  ·subst hb
   rw[aC]at e
   cases e
   exact⟨hz,its,n,rv,(sb.2 b Ky).trans p1⟩
  ·rw[au hb]at e
   refine(I'.dU b o e).oB (λc v hc q=>(sb.2 c ?_).trans q) (λc q=>?_) λc xs q=>?_
   ·rintro rfl
    rcases hc with hc|hc
    ·rw[hc,e]at qj
     cases qj
    ·rw[hc]at qj
     cases qj
   ·rw[au (cE q p2)]
    exact q
   ·rw[au (cE q p2)]
    exact q
theorem SameBut.Wr(a:Addr)(h:Heap):Heap.SameBut a h h:=⟨rfl,λ_ _=>rfl⟩
theorem Lc(hi:PI X (.Name x px) iter wi)(ys:List Str)(ht:∀ex C s H,G7 (X.tL sc x ys ex C s H) ifs tt)(he:∀ex C s H,PE (X.tL sc x ys ex C s H) elt te)(Gx:pd X.env.scope X.N sc x ys=true)(hc:X.calm=true:=by rfl)
  (hs:∀x,foldedSetIterable iter X.env x=pure x:=by intro _;rfl):PE X (.ListComp elt [⟨.Name x px,iter,ifs,0⟩] sc pos) (G9 wi tt te):=by
 have cs:=jN.of Gx
 intro pins s σ H Q I h
 rw[eval_ListComp]
 refine wpAny_comprehension_free (use:=none) (cl:=x8 sc X.env) rfl hs (Dx λp hp hk=>cs.cell I (by rw[<-hk];exact hp)) cs.kind cs.locs ?_
 refine dN (hi pins s σ H _ I h) λv s1 h1=>dN h1 λU0 s2 h2=>?_
 obtain⟨it,fp,tn,J,H2,rfl,I2,T,GR,f2,W,⟨m0,w0⟩,turn⟩:=h2
 refine zR (M:=λacc oE=>compPost (model X.prog X.w) X.A X.xe none (EP X pins σ Q) acc oE.locals) hc cs I2 ht he T GR f2 w0 (F:=λacc H=>∀p,H p=none->Q (.ref p) (upd H p (.lst acc))) turn λD C oE s' acc H' its n OW Ky hD hC I' rv hz q=>?_
 obtain⟨m,hn,_⟩:=I'.loc
 refine⟨m,by rw[OW];exact hn,λh' sb=>?_⟩
 rw[OW]at sb
 exact⟨.ref D,_,comp_back cs I2 f2 I' Ky hD hC rv hz sb,rfl,q D (I'.pin (D,lobj its n) (z0P _ (z0U.mpr rfl))).2.1⟩
theorem Dz{i:Nat}{y:Str}{py zS:Pos}(hN:X.N.Nodup)(OX:X.N[i]?=some y)(hy:X.env.scope.names.lookup y=some .local)(hi:PI X (.Name x px) iter wi)(ys:List Str)(ht:∀ex C s H,G7 (X.tL sc x ys ex C s H) ifs tt)(he:∀ex C s H,PE (X.tL sc x ys ex C s H) elt te)
  (Gx:pd X.env.scope X.N sc x ys=true)(hc:X.calm=true:=by rfl)(hs:∀x,foldedSetIterable iter X.env x=pure x:=by intro _;rfl)
  (OY:swapsWith (.ListComp elt [⟨.Name x px,iter,ifs,0⟩] sc pos) (some (.Name y py)) zS.line X.env=pure true:=by rfl):
  PS X (.Assign [.Name y py] (.ListComp elt [⟨.Name x px,iter,ifs,0⟩] sc pos) zS) (λD σ H=>G9 wi tt te σ H λv H1=>D.nx (σ.set i (some v)) H1):=by
 have cs:=jN.of Gx
 intro pins s σ H D I h
 rw[exec_Assign_Name_used _ _ _ _ OY]
 refine wpAny_bind (wpAny_standAt (wpAny_bind ?_))
 show wpAny _ X.A (do let _<-comprehension (.ListComp elt [⟨.Name x px,iter,ifs,0⟩] sc pos) sc X.env _ (newList []) false (eval iter X.env) (some (assign (.Name y py) X.env))) _ _ s
 refine wpAny_bind (wpAny_mono (wpAny_comprehension_free (use:=some (assign (.Name y py) X.env)) (cl:=x8 sc X.env) (Q:=λ_ s'=>SP X pins D .next s') rfl hs (Dx λp hp hk=>cs.cell I (by rw[<-hk];exact hp)) cs.kind cs.locs ?_) (λ_ s' hq=>wpAny_pure (wpAny_pure hq)) λ_ _ e=>e)
 refine dN (hi pins s σ H _ I h) λv s1 h1=>dN h1 λU0 s2 h2=>?_
 obtain⟨it,fp,tn,J,H2,rfl,I2,T,GR,f2,W,⟨m0,w0⟩,turn⟩:=h2
 refine zR (M:=λacc oE=>compPost (model X.prog X.w) X.A X.xe (some (assign (.Name y py) X.env)) (λ_ s'=>SP X pins D .next s') acc oE.locals) hc cs I2 ht he T GR f2 w0
  (F:=λacc H=>∀p,H p=none->D.nx (σ.set i (some (.ref p))) (upd H p (.lst acc))) turn λDa C oE s' acc H' its n OW Ky hD hC I' rv hz q=>?_
 obtain⟨m,hn,_⟩:=I'.loc
 have Io:=comp_back cs I2 f2 I' Ky hD hC rv hz (SameBut.Wr C s'.heap)
 have X8:C≠X.env.locals:=λe=>absurd (z0I I2.lt hC) (by rw[e];exact z0e _)
 have X9:∀z c,X.env.cells.lookup z=some c->c≠C:=λz c e e'=>by
  obtain⟨v,o,ho,_⟩:=I2.cell z c e
  exact absurd (z0I (z0A ho) hC) (by rw[e'];exact z0e _)
 refine wpAny_assign_Name (wC (v:=.ref Da) Io hN OX (.inl hy) rfl (λK3 ZA cZ=>?_) (.inr hy))
 obtain⟨a,sb,ha⟩:=cZ
 have ZC:C≠a:=by
  rcases ha with e|e
  ·rw[e]
   exact X8
  ·exact(X9 y a e).symm
 refine⟨m,by rw[OW];exact hn.sameBut sb ZC,λh' Yb=>?_⟩
 rw[OW]at Yb
 have qj:(upd H' Da (.lst acc)) C=none:=by
  rw[au Ky.symm]
  exact I'.free
 refine⟨_,_,ZA.turned (t':=K3.toks) (it:=C) (λb o hb e=>(Yb.2 b hb).trans e) qj X8 (.inr (z0T I2.sz hC)) X9 (λp hp e=>?_),q Da (I'.pin (Da,lobj its n) (z0P _ (z0U.mpr rfl))).2.1⟩
 exact absurd (z0I (z0A (I2.pin p hp).1) hC) (by rw[e];exact z0e _)
end
end L2
namespace L2
open PySem PySem.Spec PyProof.Rows PySem.SeqAt
section
variable{X:Cx}{pins:List (Addr×Obj)}{σ:St}{H:Hp}{s:Shared}{a b:Addr}{xs ys:List V}{A:Around}
theorem zT(I:Inv X pins σ H s)(ha:mK X.K H a xs)(hb:mK X.K H b ys)(hu:A.units<cLine)(q:Nat->Bool)
  (hq:∀(j:Nat) x y u v,xs[j]?=some x->ys[j]?=some y->RelV x u->RelV y v->EqAt A.in1 s u v (q j)):RcAt A s (.ref a) (.ref b) (decide (xs.length=ys.length)&&(List.range xs.length).all q):=by
 obtain⟨its,r1,p1,z1⟩:=I.list ha
 obtain⟨tJ,r2,p2,z2⟩:=I.list hb
 have l1:=r1.length
 have l2:=r2.length
 by_cases hl:xs.length=ys.length
 ·rw[decide_eq_true hl,z1o]
  have:=RcAt.lists (A:=A) (s:=s) (e:=q) p1.isList p2.isList (by rw[X4,X4];omega) hu λj h1 h2=>?_
  ·rw[X4,<-l1]at this
   exact this
  ·rw[X4]at h1 h2
   obtain⟨x,hx⟩:∃x,xs[j]?=some x:=⟨xs[j],z0G (by omega)⟩
   obtain⟨y,hy⟩:∃y,ys[j]?=some y:=⟨ys[j],z0G (by omega)⟩
   obtain⟨u,e1,ru⟩:=r1.get hx
   obtain⟨v,e2,rv⟩:=r2.get hy
   have f1:its.toArray[j]=u:=by
    have:=(z0C.mp e1).2
    simpa using this
   have f2:tJ.toArray[j]=v:=by
    have:=(z0C.mp e2).2
    simpa using this
   rw[f1,f2]
   exact hq j x y u v hx hy ru rv
 ·rw[decide_eq_false hl,z13]
  exact RcAt.lists_lengths p1.isList p2.isList (by rw[X4,X4];simp;omega) hu
theorem BX(I:Inv X pins σ H s)(ha:mK X.K H a xs)(hb:mK X.K H b ys)(hu:A.units<cLine)(q:Nat->Bool)
  (hq:∀(j:Nat) x y u v,xs[j]?=some x->ys[j]?=some y->RelV x u->RelV y v->EqAt A.in1 s u v (q j)):RcNeAt A s (.ref a) (.ref b) (!(decide (xs.length=ys.length)&&(List.range xs.length).all q)):=by
 obtain⟨its,r1,p1,z1⟩:=I.list ha
 obtain⟨tJ,r2,p2,z2⟩:=I.list hb
 have l1:=r1.length
 have l2:=r2.length
 by_cases hl:xs.length=ys.length
 ·rw[decide_eq_true hl,z1o]
  have:=RcNeAt.lists (A:=A) (s:=s) (e:=q) p1.isList p2.isList (by rw[X4,X4];omega) hu λj h1 h2=>?_
  ·rw[X4,<-l1]at this
   exact this
  ·rw[X4]at h1 h2
   obtain⟨x,hx⟩:∃x,xs[j]?=some x:=⟨xs[j],z0G (by omega)⟩
   obtain⟨y,hy⟩:∃y,ys[j]?=some y:=⟨ys[j],z0G (by omega)⟩
   obtain⟨u,e1,ru⟩:=r1.get hx
   obtain⟨v,e2,rv⟩:=r2.get hy
   have f1:its.toArray[j]=u:=by
    have:=(z0C.mp e1).2
    simpa using this
   have f2:tJ.toArray[j]=v:=by
    have:=(z0C.mp e2).2
    simpa using this
   rw[f1,f2]
   exact hq j x y u v hx hy ru rv
 ·rw[decide_eq_false hl,z13]
  exact RcNeAt.lists_lengths p1.isList p2.isList (by rw[X4,X4];simp;omega) hu
theorem range_all(bs:List Bool):(List.range bs.length).all (λi=>bs.getD i false)=bs.all id:=by
 rw[z04,z0M,z0M]
 constructor
 ·intro h b h1
  obtain⟨i,hi,e⟩:=List.mem_iff_getElem.mp h1
  have:=h i (z0l.mpr hi)
  rw[z0i,z0G hi,e]at this
  exact this
 ·intro h i h1
  have hi:=z0l.mp h1
  rw[z0i,z0G hi]
  exact h bs[i] (z1d hi)
end
end L2
namespace L2.D
open PySem
inductive PV where
 |non|bl(b:Bool)|int(i:Int)|str(x:Str)|lst(l:List PV)|tup(l:List PV)|ins(c:Nat)(l:List PV)
 deriving Inhabited
def flat:PV->Bool
 |.non=>true
 |.bl _=>true
 |.int _=>true
 |.str _=>true
 |_=>false
def Kz:PV->PV->Bool
 |.non,.non=>true
 |.bl a,.bl b=>a==b
 |.bl a,.int b=>(if a then 1 else 0)==b
 |.int a,.bl b=>a==(if b then 1 else 0)
 |.int a,.int b=>a==b
 |.str a,.str b=>a==b
 |_,_=>false
def tN(f:PV->PV->Option Bool):List PV->List PV->Option (List Bool)
 |a::l,b::m=>(f a b).bind λe=>(tN f l m).map (e::·)
 |_,_=>some []
def DF(f:PV->PV->Option Bool)(l m:List PV):Option Bool:=if l.length=m.length then(tN f l m).map λes=>es.all id else some false
def mG:Nat->PV->PV->Option Bool
 |n+1,.lst l,.lst m=>DF (mG n) l m
 |n+1,.tup l,.tup m=>if l.length=m.length then DF (mG n) l m else none
 |_,p,q=>if flat p&&flat q then some (Kz p q)else none
inductive Cn where
 |l(xs:List PV)|d(cW:List (Int×PV))
 deriving Inhabited
inductive Slot where
 |un|sh(p:PV)|own(c:Cn)|bw(l:List PV)
 deriving Inhabited
abbrev Slot.ow(l:List PV):Slot:=.own (.l l)
abbrev dO:=List Slot
abbrev Den:=dO->Option PV
def Slot.val:Slot->Option PV
 |.un=>none
 |.sh p=>some p
 |.own (.l l)=>some (.lst l)
 |.own (.d _)=>none
 |.bw l=>some (.lst l)
def Slot.Ws:Slot->Option PV
 |.sh p=>some p
 |_=>none
inductive Fl where
 |nx(ρ:dO)|rt(p:PV)|bk(ρ:dO)|ct(ρ:dO)
abbrev bE:=dO->Option Fl
abbrev de:=dO->Option Bool
abbrev eF:=dO->Option (List PV)
def dC(p:PV):Den:=λ_=>some p
def dV(i:Nat):Den:=λρ=>(ρ[i]?).bind Slot.val
def bZ(i:Nat):Den:=λρ=>(ρ[i]?).bind Slot.Ws
def bU(g:PV->Option PV)(a:Den):Den:=λρ=>(a ρ).bind g
def ae(g:PV->PV->Option PV)(a b:Den):Den:=λρ=>(a ρ).bind λx=>(b ρ).bind λy=>g x y
def aO:eF:=λ_=>some []
def ah(a:Den)(as:eF):eF:=λρ=>(a ρ).bind λx=>(as ρ).bind λxs=>some (x::xs)
def bP(F:List PV->Option PV)(as:eF):Den:=λρ=>(as ρ).bind F
def oF(as:eF):Den:=λρ=>(as ρ).bind λxs=>if xs.length<=sizeLine then some (.lst xs)else none
def jO(as:eF):Den:=λρ=>(as ρ).bind λxs=>if xs.length<=sizeLine then some (.tup xs)else none
def Ld:PV->Option Bool
 |.bl b=>some b
 |_=>none
def tV(a:Den):de:=λρ=>(a ρ).bind Ld
def rH(a b:de):de:=λρ=>(a ρ).bind λc=>if c then b ρ else some false
def xO(a b:de):de:=λρ=>(a ρ).bind λc=>if c then some true else b ρ
def vZ(a:de):de:=λρ=>(a ρ).map (!·)
def aW:PV->PV->Option PV
 |.int i,.int j=>some (.int (i+j))
 |.str x,.str y=>if x.length+y.length<=sizeLine then some (.str (x++y))else none
 |.lst l,.lst m=>if l.length+m.length<=sizeLine then some (.lst (l++m))else none
 |_,_=>none
def zK:PV->PV->Option PV
 |.int i,.int j=>some (.int (i-j))
 |_,_=>none
def zU(i j:Int):Bool:=(decide (-(2^64)<i)&&decide (i<2^64))||(decide (-(2^64)<j)&&decide (j<2^64))
def rR:PV->PV->Option PV
 |.int i,.int j=>if zU i j then some (.int (i*j))else none
 |_,_=>none
def jZ:PV->PV->Option PV
 |.int i,.int j=>if decide (0<j)&&decide (j<1073741824)then some (.int (i/j))else none
 |_,_=>none
def cJ:PV->PV->Option PV
 |.int i,.int j=>if decide (0<j)then some (.int (i % j))else none
 |_,_=>none
def mQ:PV->Option PV
 |.int i=>some (.int (-i))
 |_=>none
def eqT:PV->PV->Option Bool
 |.non,.non=>some true
 |.non,.int _=>some false
 |.non,.bl _=>some false
 |.non,.str _=>some false
 |.int _,.non=>some false
 |.bl _,.non=>some false
 |.str _,.non=>some false
 |.int a,.int b=>some (decide (a=b))
 |.bl a,.bl b=>some (decide (a=b))
 |.str a,.str b=>some (decide (a=b))
 |.int _,.str _=>some false
 |.str _,.int _=>some false
 |.bl _,.str _=>some false
 |.str _,.bl _=>some false
 |.lst l,.lst m=>mG 20 (.lst l) (.lst m)
 |.tup l,.tup m=>mG 20 (.tup l) (.tup m)
 |_,_=>none
def gM(a b:PV):Option PV:=(eqT a b).map PV.bl
def Yc(a b:PV):Option PV:=(eqT a b).map λe=>PV.bl !e
def yc:PV->PV->Option PV
 |.int i,.int j=>some (.bl (decide (i<j)))
 |_,_=>none
def KA:PV->PV->Option PV
 |.int i,.int j=>some (.bl (decide (j<i)))
 |_,_=>none
def E5:PV->Option PV
 |.non=>some (.bl true)
 |_=>some (.bl false)
def uG(x:PV)(l:List PV):Bool:=l.any λy=>Kz y x
def SY:PV->PV->Option PV
 |x,.lst l=>if flat x&&l.all flat then some (.bl (uG x l))else none
 |x,.tup l=>if flat x&&l.all flat then some (.bl (uG x l))else none
 |_,_=>none
def uH:PV->PV->Option PV
 |x,.lst l=>if flat x&&l.all flat then some (.bl (!uG x l))else none
 |x,.tup l=>if flat x&&l.all flat then some (.bl (!uG x l))else none
 |_,_=>none
def Le(n:Nat)(i:Int):Option Nat:=if 0<=i then(if i<n then some i.toNat else none)else if-(n:Int)<=i then some (i+n).toNat else none
def itemAt{α:Type}(l:List α)(i:Int):Option α:=(Le l.length i).bind λj=>l[j]?
def ie:PV->PV->Option PV
 |.lst l,.int i=>itemAt l i
 |.tup l,.int i=>itemAt l i
 |.str x,.int i=>if x.length<=sizeLine then(itemAt x.cps.toList i).map λc=>.str ⟨#[c]⟩else none
 |_,_=>none
def cL:PV->Option PV
 |.lst l=>some (.int l.length)
 |.tup l=>some (.int l.length)
 |.str x=>if x.length<=sizeLine then some (.int x.length)else none
 |_=>none
def wR:PV->Option PV
 |.lst l=>some (.lst l)
 |.tup l=>some (.lst l)
 |_=>none
def DH:PV->Nat
 |.int _=>0
 |.bl _=>1
 |.str _=>2
 |.lst _=>3
 |.tup _=>4
 |.non=>5
 |.ins _ _=>6
def BY(k:Nat)(p:PV):Bool:=DH p==k||(k==0&&DH p==1)
def RJ(k:Nat)(p:PV):Option PV:=if DH p=6 then none else some (.bl (BY k p))
def kO(n d:Nat):Option Int->Nat
 |none=>d
 |some i=>if i<0 then(i+n).toNat else min i.toNat n
def jP{α:Type}(l:List α)(lo hi:Option Int):List α:=(l.drop (kO l.length 0 lo)).take (kO l.length l.length hi-kO l.length 0 lo)
abbrev uI:=dO->Option (Option Int)
def cD:uI:=λ_=>some none
def S0:PV->Option Int
 |.int i=>some i
 |_=>none
def aX(a:Den):uI:=λρ=>(a ρ).bind λp=>(S0 p).map some
def DJ(a:Den)(lo hi:uI):Den:=λρ=>(a ρ).bind λx=>(lo ρ).bind λl=>(hi ρ).bind λh=>match x with
 |.lst xs=>some (.lst (jP xs l h))
 |_=>none
def Hb:PV->Option (List PV)
 |.lst l=>some l
 |_=>none
def Hc:PV->Option (List PV)
 |.tup l=>some l
 |_=>none
def nList(a:Den):eF:=λρ=>(a ρ).bind Hb
def OZ(a:Den):eF:=λρ=>(a ρ).bind Hc
def lq(lo:Int)(n:Nat):List PV:=(List.range n).map λk=>.int (lo+(k:Nat))
def zV(j:Int):Bool:=decide (-(2^62)<=j)&&decide (j<2^62)
def mR(a:Den):eF:=λρ=>(a ρ).bind λp=>(S0 p).bind λj=>if zV j then some (lq 0 j.toNat)else none
def jQ(c:de)(e:Den)(ρ:dO):List PV->Option (List PV)
 |[]=>some []
 |x::xs=>(c (.sh x::ρ)).bind λb=>if b then(e (.sh x::ρ)).bind λz=>(jQ c e ρ xs).map (z::·)else jQ c e ρ xs
def eY:de:=λ_=>some true
def eI(it:eF)(c:de)(e:Den):Den:=λρ=>(it ρ).bind λxs=>if xs.length<=sizeLine then(jQ c e ρ xs).map PV.lst else none
def dP:bE:=λρ=>some (.nx ρ)
def ba(a b:bE):bE:=λρ=>(a ρ).bind λf=>match f with
 |.nx ρ'=>b ρ'
 |f=>some f
def b9(i:Nat)(a:Den):bE:=λρ=>(a ρ).map λp=>.nx (ρ.set i (.sh p))
def qx(i:Nat)(a:Den):bE:=λρ=>(a ρ).bind λp=>(Hb p).map λl=>.nx (ρ.set i (.ow l))
def dh(a:Den):bE:=λρ=>(a ρ).map Fl.rt
def lu(t:de)(a b:bE):bE:=λρ=>(t ρ).bind λc=>if c then a ρ else b ρ
def uJ:bE:=λρ=>some (.bk ρ)
def Lf(i:Nat):bE:=λρ=>match ρ[i]? with
 |some (.own (.l l))=>some (.nx (ρ.set i (.sh (.lst l))))
 |_=>some (.nx ρ)
def yd(ρ:dO)(i:Nat):Option (List PV):=match ρ[i]? with
 |some (.own (.l l))=>some l
 |_=>none
def uK(i:Nat)(g:List PV->List PV->Option (List PV))(as:eF):bE:=λρ=>(as ρ).bind λxs=>(yd ρ i).bind λl=>(g l xs).map λl'=>.nx (ρ.set i (.ow l'))
def j4(l xs:List PV):Option (List PV):=match xs with
 |[x]=>if l.length<sizeLine then some (l++[x])else none
 |_=>none
def Hd(l xs:List PV):Option (List PV):=match xs with
 |[]=>some []
 |_=>none
abbrev uL:=PV->dO->Option dO
def dF(i:Nat):uL:=λp ρ=>some (ρ.set i (.sh p))
def rS(a b:uL):uL:=λp ρ=>match p with
 |.tup [x,y]=>(a x ρ).bind (b y)
 |_=>none
def forL(g:uL)(body:bE):List PV->bE
 |[]=>λρ=>some (.nx ρ)
 |x::xs=>λρ=>(g x ρ).bind λρ1=>(body ρ1).bind λf=>match f with
  |.nx ρ'=>forL g body xs ρ'
  |.ct ρ'=>forL g body xs ρ'
  |.bk ρ'=>some (.nx ρ')
  |.rt p=>some (.rt p)
def ye(it:eF)(g:uL)(body:bE):bE:=λρ=>(it ρ).bind λxs=>forL g body xs ρ
def gN(t:de)(body:bE):Nat->bE
 |0=>λ_=>none
 |n+1=>λρ=>(t ρ).bind λc=>if c then(body ρ).bind λf=>match f with
   |.nx ρ'=>gN t body n ρ'
   |.ct ρ'=>gN t body n ρ'
   |.bk ρ'=>some (.nx ρ')
   |.rt p=>some (.rt p)
  else some (.nx ρ)
def DK(a b:Den):Den:=λρ=>(a ρ).bind λx=>(Ld x).bind λc=>if c then b ρ else some (.bl false)
def S1(a b:Den):Den:=λρ=>(a ρ).bind λx=>(Ld x).bind λc=>if c then some (.bl true)else b ρ
def M7(a:Den):Den:=λρ=>(a ρ).bind λx=>(Ld x).map λc=>.bl !c
def M8(i:Nat):bE:=λρ=>(yd ρ i).map λl=>.rt (.lst l)
def tO(a b:PV):Option PV:=match a with
 |.tup _=>none
 |_=>Yc a b
def uM:List PV->Option (List Int)
 |[]=>some []
 |.int i::l=>(uM l).map (i::·)
 |_::_=>none
def BZ:PV->Option PV
 |.lst l=>some (.tup l)
 |.tup l=>some (.tup l)
 |_=>none
def ig(n:Nat)(ps:List PV):dO:=ps.map Slot.sh++List.replicate (n-ps.length) .un
def O0(fr:Bool):Fl->Option PV
 |.rt p=>some p
 |.nx _=>if fr then none else some .non
 |_=>none
def fn(fr:Bool)(n k:Nat)(body:bE)(ps:List PV):Option PV:=if ps.length=k then(body (ig n ps)).bind (O0 fr)else none
end L2.D
namespace L2.D
open PySem PySem.Spec PyProof.Rows
open Classical
structure Kl where
 adr:Nat->Addr
 fld:Nat->List Str
def SL(K:PySem.W.Frag)(H:Hp)(a:Addr)(xs:List V):Prop:=
 Rd H a (.lst xs)\/∃(its:List Value) (n:Nat),K.lookup a=some {cls:=.type "list",data:=.seq its.toArray n}/\its.length<=sizeLine/\Vals xs its
theorem SL.of{K:PySem.W.Frag}{H:Hp}{a:Addr}{xs:List V}(h:H a=some (.lst xs)):SL K H a xs:=.inl (.inl h)
theorem SL.sq{K:PySem.W.Frag}{H:Hp}{a:Addr}{xs:List V}(h:SL K H a xs):mK K H a xs:=by
 rcases h with h|⟨its,n,h1,h2,h3⟩
 ·exact .inl h
 ·exact .inr ⟨_,its.toArray,n,h1,rfl,rfl,rfl,by simpa using h2,by simpa using h3⟩
theorem _root_.L2.aE.sl{K:PySem.W.Frag}{H H':Hp}{a:Addr}{xs:List V}(e:aE H H')(h:SL K H a xs):SL K H' a xs:=by
 rcases h with(h|⟨o,h⟩)|h
 ·exact .inl (.inl (e _ _ h))
 ·exact .inl (.inr ⟨o,e _ _ h⟩)
 ·exact .inr h
theorem _root_.L2.Inv.sl{X:Cx}{pins:List (Addr×Obj)}{σ:St}{H:Hp}{s:Shared}{a:Addr}{xs:List V}(I:Inv X pins σ H s)(h:SL X.K H a xs):∃(its:List Value) (n:Nat),Vals xs its/\s.heap.get? a=some {cls:=.type "list",data:=.seq its.toArray n}/\xs.length<=sizeLine:=by
 rcases h with h|⟨its,n,h1,h2,h3⟩
 ·obtain⟨z,its,n,r,e⟩:=h.ok I.dU
  exact⟨its,n,r,e,z⟩
 ·exact⟨its,n,h3,I.jc a _ h1,by rw[h3.length];exact h2⟩
mutual
inductive Rep(K:PySem.W.Frag)(κ:Kl)(H:Hp):V->PV->Prop
 |non:Rep K κ H .non .non
 |bl (b:Bool):Rep K κ H (.bl b) (.bl b)
 |int (i:Int):Rep K κ H (.int i) (.int i)
 |str (x:Str):Rep K κ H (.str x) (.str x)
 |lst {a:Addr} {vs:List V} {l:List PV}:SL K H a vs->aZ K κ H vs l->Rep K κ H (.ref a) (.lst l)
 |tup {a:Addr} {vs:List V} {l:List PV}:kM K H a vs->aZ K κ H vs l->Rep K κ H (.ref a) (.tup l)
 |ins {a dx:Addr} {c:Nat} {vs:List V} {l:List PV}:H a=some (.ins (κ.adr c) dx ((κ.fld c).zip vs))->vs.length=(κ.fld c).length->aZ K κ H vs l->Rep K κ H (.ref a) (.ins c l)
inductive aZ(K:PySem.W.Frag)(κ:Kl)(H:Hp):List V->List PV->Prop
 |nil:aZ K κ H [] []
 |cons {v:V} {p:PV} {vs:List V} {l:List PV}:Rep K κ H v p->aZ K κ H vs l->aZ K κ H (v::vs) (p::l)
end
section
variable{K:PySem.W.Frag}{κ:Kl}{H H' H1:Hp}
theorem qy{a:Addr}{xs:List V}(e:aE H H')(h:kM K H a xs):kM K H' a xs:=by
 rcases h with(h|⟨o,h⟩)|h
 ·exact .inl (.inl (e _ _ h))
 ·exact .inl (.inr ⟨o,e _ _ h⟩)
 ·exact .inr h
mutual
theorem Rep.mono(e:aE H H'):∀{v:V} {p:PV},Rep K κ H v p->Rep K κ H' v p
 |_,_,.non=>.non
 |_,_,.bl b=>.bl b
 |_,_,.int i=>.int i
 |_,_,.str x=>.str x
 |_,_,.lst h r=>.lst (e.sl h) (aZ.mono e r)
 |_,_,.tup h r=>.tup (qy e h) (aZ.mono e r)
 |_,_,.ins h z r=>.ins (e _ _ h) z (aZ.mono e r)
theorem aZ.mono(e:aE H H'):∀{vs:List V} {l:List PV},aZ K κ H vs l->aZ K κ H' vs l
 |_,_,.nil=>.nil
 |_,_,.cons r t=>.cons (Rep.mono e r) (aZ.mono e t)
end
theorem aZ.length:∀{vs:List V} {l:List PV},aZ K κ H vs l->vs.length=l.length
 |_,_,.nil=>rfl
 |_,_,.cons _ t=>by rw[Wk,Wk,t.length]
theorem aZ.append:∀{vs ws:List V} {l m:List PV},aZ K κ H vs l->aZ K κ H ws m->aZ K κ H (vs++ws) (l++m)
 |_,_,_,_,.nil,s=>s
 |_,_,_,_,.cons r t,s=>.cons r (t.append s)
theorem aZ.get:∀{vs:List V} {l:List PV} {i:Nat} {p:PV},aZ K κ H vs l->l[i]?=some p->∃v,vs[i]?=some v/\Rep K κ H v p
 |_,_,_,_,.nil,e=>by simp at e
 |_,_,0,_,.cons r _,e=>by simp at e;subst e;exact⟨_,rfl,r⟩
 |_,_,i+1,p,.cons _ t,e=>by
  obtain⟨v,h1,h2⟩:=aZ.get (i:=i) (p:=p) t (by simpa using e)
  exact⟨v,by simpa using h1,h2⟩
theorem aZ.B0:∀{vs:List V} {l:List PV} {i:Nat} {v:V},aZ K κ H vs l->vs[i]?=some v->∃p,l[i]?=some p/\Rep K κ H v p
 |_,_,_,_,.nil,e=>by simp at e
 |_,_,0,_,.cons r _,e=>by simp at e;subst e;exact⟨_,rfl,r⟩
 |_,_,i+1,v,.cons _ t,e=>by
  obtain⟨p,h1,h2⟩:=aZ.B0 (i:=i) (v:=v) t (by simpa using e)
  exact⟨p,by simpa using h1,h2⟩
theorem aZ.take:∀{vs:List V} {l:List PV} (n:Nat),aZ K κ H vs l->aZ K κ H (vs.take n) (l.take n)
 |_,_,0,_=>.nil
 |_,_,_+1,.nil=>.nil
 |_,_,n+1,.cons r t=>.cons r (t.take n)
theorem aZ.drop:∀{vs:List V} {l:List PV} (n:Nat),aZ K κ H vs l->aZ K κ H (vs.drop n) (l.drop n)
 |_,_,0,r=>r
 |_,_,_+1,.nil=>.nil
 |_,_,n+1,.cons _ t=>t.drop n
theorem Rep.flat{v:V}{p:PV}(f:flat p=true)(r:Rep K κ H v p):Rep K κ H' v p:=by
 cases r with
 |non=>exact .non
 |bl b=>exact .bl b
 |int i=>exact .int i
 |str x=>exact .str x
 |lst _ _=>simp[D.flat]at f
 |tup _ _=>simp[D.flat]at f
 |ins _ _ _=>simp[D.flat]at f
end
def hide(A:Addr->Prop)(H:Hp):Hp:=λb=>if A b then none else H b
theorem bJ{A:Addr->Prop}{H:Hp}{b:Addr}(h:¬A b):hide A H b=H b:=if_neg h
theorem bV{A:Addr->Prop}{H:Hp}{b:Addr}{o:HO}(h:hide A H b=some o):¬A b/\H b=some o:=by
 unfold hide at h
 by_cases e:A b
 ·rw[if_pos e]at h
  cases h
 ·rw[if_neg e]at h
  exact⟨e,h⟩
theorem aV{A:Addr->Prop}{H H':Hp}(h:aE H H'):aE (hide A H) (hide A H'):=λb o e=>by
 obtain⟨h1,h2⟩:=bV e
 rw[bJ h1]
 exact h b o h2
theorem dX{A B:Addr->Prop}{H H':Hp}(h:aE H H')(s:∀b,B b->H b≠none->A b):aE (hide A H) (hide B H'):=λb o e=>by
 obtain⟨h1,h2⟩:=bV e
 rw[bJ λz=>h1 (s b z (by rw[h2];simp))]
 exact h b o h2
theorem aM{A:Addr->Prop}{H:Hp}:aE (hide A H) H:=λb o e=>(bV e).2
theorem qz{A:Addr->Prop}{H:Hp}{a:Addr}{o:HO}(h:A a):hide A (upd H a o)=hide A H:=by
 funext b
 unfold hide
 by_cases e:A b
 ·rw[if_pos e,if_pos e]
 ·rw[if_neg e,if_neg e]
  exact au λz=>e (z▸h)
theorem bM{H:Hp}{a:Addr}{o:HO}(h:H a=none):aE H (upd H a o):=λb u q=>by rw[au (cE q h)];exact q
def He:Cn->List V->HO
 |.l _,vs=>.lst vs
 |.d d,vs=>.dK (List.zipWith (λ(p:Int×PV) (v:V)=>((Sum.inl p.1:Key),v)) d vs)
def O1:Cn->List PV
 |.l l=>l
 |.d d=>d.map (·.2)
def yf(own:Nat->Addr)(ρ:dO):Addr->Prop:=λb=>∃i l,ρ[i]?=some (.own l)/\own i=b
def di(A:Addr->Prop)(own:Nat->Addr)(ρ:dO):Addr->Prop:=λb=>A b\/yf own ρ b
abbrev dD(A:Addr->Prop)(own:Nat->Addr)(ρ:dO)(H:Hp):Hp:=hide (di A own ρ) H
structure R(K:PySem.W.Frag)(κ:Kl)(G:Hp)(A:Addr->Prop)(bo:Nat->Option (Addr×List V))(own:Nat->Addr)(ρ:dO)(σ:St)(H:Hp):Prop where
 al:∀b,A b->G b≠none
 bg:∀i a vs,bo i=some (a,vs)->G a=some (.lst vs)
 same:aE G H
 sh:∀(i:Nat) p,ρ[i]?=some (.sh p)->∃v,σ[i]?=some (some v)/\Rep K κ (dD A own ρ H) v p
 ow:∀(i:Nat) l,ρ[i]?=some (.own l)->σ[i]?=some (some (.ref (own i)))/\G (own i)=none/\∃vs,H (own i)=some (He l vs)/\aZ K κ (dD A own ρ H) vs (O1 l)
 inj:∀(i j:Nat) l m,ρ[i]?=some (.own l)->ρ[j]?=some (.own m)->own i=own j->i=j
 bw:∀(i:Nat) l,ρ[i]?=some (.bw l)->∃a vs,bo i=some (a,vs)/\σ[i]?=some (some (.ref a))/\aZ K κ (dD A own ρ H) vs l
 len:σ.length=ρ.length
section
variable{K:PySem.W.Frag}{κ:Kl}{G G' H H' H1:Hp}{A:Addr->Prop}{bo:Nat->Option (Addr×List V)}{own dQ:Nat->Addr}{ρ ρ':dO}{σ σ':St}
theorem R.mono(r:R K κ G A bo own ρ σ H)(s:aE H H1):R K κ G A bo own ρ σ H1 where
 al:=r.al
 bg:=r.bg
 same:=r.same.trans s
 sh:=λi p e=>let⟨v,h1,h2⟩:=r.sh i p e;⟨v,h1,h2.mono (aV s)⟩
 ow:=λi l e=>let⟨h1,h2,vs,h3,h4⟩:=r.ow i l e;⟨h1,h2,vs,s _ _ h3,h4.mono (aV s)⟩
 inj:=r.inj
 bw:=λi l e=>let⟨a,vs,h1,h2,h3⟩:=r.bw i l e;⟨a,vs,h1,h2,h3.mono (aV s)⟩
 len:=r.len
theorem R.new(r:R K κ G A bo own ρ σ H){a:Addr}(h:H a=none):¬di A own ρ a:=by
 rintro(z|⟨i,l,h1,rfl⟩)
 ·cases e:G a with
  |none=>exact r.al a z e
  |some o=>
   rw[r.same _ _ e]at h
   cases h
 ·obtain⟨_,_,vs,h3,_⟩:=r.ow i l h1
  rw[h3]at h
  cases h
theorem R.Hf(r:R K κ G A bo own ρ σ H){b:Addr}(h:di A own ρ b):H b≠none:=λz=>r.new z h
def Gu(own:Nat->Addr)(ρ:dO)(H:Hp):Hp:=hide (yf own ρ) H
theorem zW:hide A (Gu own ρ H)=dD A own ρ H:=by
 funext b
 unfold Gu dD hide di
 by_cases h1:A b<;>by_cases h2:yf own ρ b<;>simp[h1,h2]
theorem R.gv(r:R K κ G A bo own ρ σ H):aE G (Gu own ρ H):=λb o e=>by
 unfold Gu
 rw[bJ]
 ·exact r.same _ _ e
 ·rintro⟨i,l,h1,rfl⟩
  rw[(r.ow i l h1).2.1]at e
  cases e
theorem R.big(r:R K κ G A bo own ρ σ H):R K κ (Gu own ρ H) A bo own ρ σ H where
 al:=λb h z=>by
  cases e:G b with
  |none=>exact r.al b h e
  |some o=>
   rw[r.gv _ _ e]at z
   cases z
 bg:=λi a vs h=>r.gv _ _ (r.bg i a vs h)
 same:=aM
 sh:=r.sh
 ow:=λi l e=>let⟨h1,h2,h3⟩:=r.ow i l e;⟨h1,by unfold Gu hide;rw[if_pos ⟨i,l,e,rfl⟩],h3⟩
 inj:=r.inj
 bw:=r.bw
 len:=r.len
theorem R.small(r:R K κ G' A bo own ρ σ H)(s:aE G G')(al:∀b,A b->G b≠none)(bg:∀i a vs,bo i=some (a,vs)->G a=some (.lst vs)):R K κ G A bo own ρ σ H where
 al:=al
 bg:=bg
 same:=s.trans r.same
 sh:=r.sh
 ow:=λi l e=>let⟨h1,h2,h3⟩:=r.ow i l e;⟨h1,s.free h2,h3⟩
 inj:=r.inj
 bw:=r.bw
 len:=r.len
theorem R.Lg(r:R K κ G A bo own ρ σ H):aE (hide A G) (dD A own ρ H):=λb o e=>by
 obtain⟨h1,h2⟩:=bV e
 rw[dD,bJ]
 ·exact r.same _ _ h2
 ·rintro(z|⟨i,l,h3,rfl⟩)
  ·exact h1 z
  ·rw[(r.ow i l h3).2.1]at h2
   cases h2
theorem Hg{i:Nat}{p:PV}{b:Addr}(h:yf own (ρ.set i (.sh p)) b):yf own ρ b:=by
 obtain⟨j,l,h1,h2⟩:=h
 rw[z0B]at h1
 split at h1
 ·split at h1<;>cases h1
 ·exact⟨j,l,h1,h2⟩
theorem oo{i:Nat}{p:PV}:aE (dD A own ρ H) (dD A own (ρ.set i (.sh p)) H):=dX (λ_ _ h=>h) λb h _=>by
 rcases h with h|h
 ·exact .inl h
 ·exact .inr (Hg h)
theorem R.set(r:R K κ G A bo own ρ σ H){i:Nat}{v:V}{p:PV}(h:Rep K κ (dD A own ρ H) v p):R K κ G A bo own (ρ.set i (.sh p)) (σ.set i (some v)) H:=by
 have ne:∀{j:Nat} {x:Slot},(ρ.set i (.sh p))[j]?=some x->x≠.sh p->i≠j/\ρ[j]?=some x:=λ{j x} e nx=>by
  rw[z0B]at e
  split at e
  ·split at e
   ·exact absurd (z0O e).symm nx
   ·cases e
  ·exact⟨by assumption,e⟩
 refine⟨r.al,r.bg,r.same,λj q e=>?_,λj l e=>?_,λj k l m e f=>?_,λj l e=>?_,by rw[z0q,z0q];exact r.len⟩
 ·by_cases hj:i=j
  ·subst hj
   rw[z0B]at e
   rw[if_pos rfl]at e
   split at e
   ·injection e with e
    injection e with e
    subst e
    exact⟨v,by rw[z0B,if_pos rfl,if_pos (by rw[r.len];assumption)],h.mono oo⟩
   ·cases e
  ·rw[z0B,if_neg hj]at e
   obtain⟨u,h1,h2⟩:=r.sh j q e
   exact⟨u,by rw[z0B,if_neg hj];exact h1,h2.mono oo⟩
 ·obtain⟨hj,e⟩:=ne e (by simp)
  obtain⟨h1,h2,vs,h3,h4⟩:=r.ow j l e
  exact⟨by rw[z0B,if_neg hj];exact h1,h2,vs,h3,h4.mono oo⟩
 ·exact r.inj j k l m (ne e (by simp)).2 (ne f (by simp)).2
 ·obtain⟨hj,e⟩:=ne e (by simp)
  obtain⟨a,vs,h1,h2,h3⟩:=r.bw j l e
  exact⟨a,vs,h1,by rw[z0B,if_neg hj];exact h2,h3.mono oo⟩
theorem R.S2(r:R K κ G A bo own ρ σ H){i:Nat}{a:Addr}{vs:List V}{l:Cn}(hG:G a=none)(hA:¬A a)(hj:∀(j:Nat) m,ρ[j]?=some (.own m)->j≠i->own j≠a)(s:aE (dD A own ρ H) (hide (λb=>di A own ρ b\/b=a) H1))(hk:∀b o,H b=some o->b≠a->H1 b=some o)
  (h1:H1 a=some (He l vs))(h2:aZ K κ (hide (λb=>di A own ρ b\/b=a) H1) vs (O1 l)):R K κ G A bo (λj=>if j=i then a else own j) (ρ.set i (.own l)) (σ.set i (some (.ref a))) H1:=by
 by_cases hi:i<ρ.length
 rotate_left
 ·rw[z1u (by omega),z1u (by rw[r.len];omega)]
  have oe:∀(j:Nat) x,ρ[j]?=some x->(if j=i then a else own j)=own j:=λj x e=>if_neg λz=>by
   have:=(z0C.mp e).1
   omega
  have se:di A (λj=>if j=i then a else own j) ρ=di A own ρ:=by
   funext b
   unfold di yf
   refine propext (or_congr Iff.rfl ⟨?_,?_⟩)
   ·rintro⟨j,m,e,z⟩
    exact⟨j,m,e,by rw[<-oe j _ e];exact z⟩
   ·rintro⟨j,m,e,z⟩
    exact⟨j,m,e,by show(if j=i then a else own j)=b;rw[oe j _ e];exact z⟩
  have sm:aE (dD A own ρ H) (dD A own ρ H1):=s.trans (dX (λ_ _ h=>h) λb h _=>.inl h)
  refine⟨r.al,r.bg,λb o e=>hk b o (r.same _ _ e) (λz=>by rw[z,hG]at e;cases e),λj q e=>?_,λj m e=>?_,λj k m n e f z=>?_,λj m e=>?_,r.len⟩
  ·obtain⟨u,z1,z2⟩:=r.sh j q e
   exact⟨u,z1,by rw[dD,se];exact z2.mono sm⟩
  ·rw[oe j _ e]
   obtain⟨z1,z2,ws,z3,z4⟩:=r.ow j m e
   have Hh:j≠i:=λz=>by
    have:=(z0C.mp e).1
    omega
   exact⟨z1,z2,ws,hk _ _ z3 (hj j m e Hh),by rw[dD,se];exact z4.mono sm⟩
  ·skip
   rw[oe j _ e,oe k _ f]at z
   exact r.inj j k m n e f z
  ·obtain⟨b,ws,z1,z2,z3⟩:=r.bw j m e
   exact⟨b,ws,z1,z2,by rw[dD,se];exact z3.mono sm⟩
 have S3:∀b,di A (λj=>if j=i then a else own j) (ρ.set i (.own l)) b->di A own ρ b\/b=a:=λb h=>by
  rcases h with h|⟨j,m,e,z⟩
  ·exact .inl (.inl h)
  ·by_cases Wt:j=i
   ·subst Wt
    try dsimp only at z
    rw[if_pos rfl]at z
    exact .inr z.symm
   ·dsimp only at z
    rw[if_neg Wt]at z
    rw[z0B,if_neg (Ne.symm Wt)]at e
    exact .inl (.inr ⟨j,m,e,z⟩)
 have sm:aE (hide (λb=>di A own ρ b\/b=a) H1) (dD A (λj=>if j=i then a else own j) (ρ.set i (.own l)) H1):=dX (λ_ _ h=>h) λb h _=>S3 b h
 have Wu:aE (dD A own ρ H) (dD A (λj=>if j=i then a else own j) (ρ.set i (.own l)) H1):=s.trans sm
 refine⟨r.al,r.bg,λb o e=>hk b o (r.same _ _ e) (λz=>by rw[z,hG]at e;cases e),λj q e=>?_,λj m e=>?_,λj k m n e f z=>?_,λj m e=>?_,by rw[z0q,z0q];exact r.len⟩
 ·by_cases wb:i=j
  ·subst wb
   rw[z0B,if_pos rfl,if_pos hi]at e
   cases e
  ·rw[z0B,if_neg wb]at e
   obtain⟨u,z1,z2⟩:=r.sh j q e
   exact⟨u,by rw[z0B,if_neg wb];exact z1,z2.mono Wu⟩
 ·by_cases wb:i=j
  ·subst wb
   rw[z0B,if_pos rfl,if_pos hi]at e
   injection e with e
   injection e with e
   subst e
   try dsimp only
   rw[if_pos rfl]
   exact⟨by rw[z0B,if_pos rfl,if_pos (by rw[r.len];exact hi)],hG,vs,h1,h2.mono sm⟩
  ·rw[z0B,if_neg wb]at e
   obtain⟨z1,z2,ws,z3,z4⟩:=r.ow j m e
   try dsimp only
   rw[if_neg (Ne.symm wb)]
   exact⟨by rw[z0B,if_neg wb];exact z1,z2,ws,hk _ _ z3 (hj j m e (Ne.symm wb)),z4.mono Wu⟩
 ·skip
  by_cases wb:i=j<;>by_cases O2:i=k
  ·rw[<-wb,<-O2]
  ·subst wb
   rw[z0B,if_neg O2]at f
   rw[if_pos rfl,if_neg (Ne.symm O2)]at z
   exact absurd z.symm (hj k n f (Ne.symm O2))
  ·subst O2
   rw[z0B,if_neg wb]at e
   rw[if_pos rfl,if_neg (Ne.symm wb)]at z
   exact absurd z (hj j m e (Ne.symm wb))
  ·rw[z0B,if_neg wb]at e
   rw[z0B,if_neg O2]at f
   rw[if_neg (Ne.symm wb),if_neg (Ne.symm O2)]at z
   exact r.inj j k m n e f z
 ·by_cases wb:i=j
  ·subst wb
   rw[z0B,if_pos rfl,if_pos hi]at e
   cases e
  ·rw[z0B,if_neg wb]at e
   obtain⟨b,ws,z1,z2,z3⟩:=r.bw j m e
   exact⟨b,ws,z1,by rw[z0B,if_neg wb];exact z2,z3.mono Wu⟩
end
end L2.D
namespace L2.D
open PySem PySem.Spec PyProof.Rows
open Classical
def BR(K:PySem.W.Frag)(κ:Kl)(hH H:Hp)(v:V)(p:PV):Prop:=Rep K κ hH v p\/∃a vs l,v=.ref a/\p=.lst l/\SL K H a vs/\aZ K κ hH vs l
def OR(K:PySem.W.Frag)(κ:Kl)(A:Addr->Prop)(H H':Hp)(v:V)(p:PV):Prop:=∃a vs l,v=.ref a/\p=.lst l/\H a=none/\H' a=some (.lst vs)/\aZ K κ (hide (λb=>A b\/b=a) H') vs l
def M9(K:PySem.W.Frag)(κ:Kl)(te:TE)(f:Den):Prop:=
 ∀{G A bo own ρ σ H p Q},R K κ G A bo own ρ σ H->f ρ=some p->(∀v H',aE H H'->Rep K κ (dD A own ρ H') v p->Q v H')->te σ H Q
def S4(K:PySem.W.Frag)(κ:Kl)(te:TE)(f:Den):Prop:=
 ∀{G A bo own ρ σ H p Q},R K κ G A bo own ρ σ H->f ρ=some p->(∀v H',aE H H'->BR K κ (dD A own ρ H') H' v p->Q v H')->te σ H Q
def Yd(K:PySem.W.Frag)(κ:Kl)(te:TE)(f:Den):Prop:=
 ∀{G A bo own ρ σ H p Q},R K κ G A bo own ρ σ H->f ρ=some p->(∀v H',aE H H'->OR K κ (di A own ρ) H H' v p->Q v H')->te σ H Q
def S5(K:PySem.W.Frag)(κ:Kl)(tt:TT)(f:de):Prop:=
 ∀{G A bo own ρ σ H b Q},R K κ G A bo own ρ σ H->f ρ=some b->(∀H',aE H H'->Q b H')->tt σ H Q
def DE(X:Cx)(κ:Kl)(e:Expr)(f:Den):Prop:=∃te,PE X e te/\M9 X.K κ te f
def DB(X:Cx)(κ:Kl)(e:Expr)(f:Den):Prop:=∃te,PE X e te/\S4 X.K κ te f
def DO(X:Cx)(κ:Kl)(e:Expr)(f:Den):Prop:=∃te,PE X e te/\Yd X.K κ te f
def DT(X:Cx)(κ:Kl)(e:Expr)(f:de):Prop:=∃tt,PT X e tt/\S5 X.K κ tt f
def DW(X:Cx)(κ:Kl)(e:Expr)(f:de):Prop:=∃tt,PW X e tt/\S5 X.K κ tt f
section
variable{K:PySem.W.Frag}{κ:Kl}{G hH Ye H H' H1:Hp}{A:Addr->Prop}{bo:Nat->Option (Addr×List V)}{own:Nat->Addr}{ρ:dO}{σ:St}{v:V}{p:PV}
theorem BR.mono(h:BR K κ hH H v p)(s1:aE hH Ye)(s2:aE H H'):BR K κ Ye H' v p:=by
 rcases h with h|⟨a,vs,l,h1,h2,h3,h4⟩
 ·exact .inl (h.mono s1)
 ·exact .inr ⟨a,vs,l,h1,h2,s2.sl h3,h4.mono s1⟩
theorem BR.Hi(h:BR K κ (hide A H) H v p)(s2:aE H H'):BR K κ (hide A H') H' v p:=h.mono (aV s2) s2
theorem BR.full(h:BR K κ hH H v p)(s:aE hH H):Rep K κ H v p:=by
 rcases h with h|⟨a,vs,l,rfl,rfl,h3,h4⟩
 ·exact h.mono s
 ·exact .lst h3 (h4.mono s)
theorem BR.lst{l:List PV}(h:BR K κ hH H v (.lst l))(s:aE hH H):∃a vs,v=.ref a/\SL K H a vs/\aZ K κ hH vs l:=by
 rcases h with h|⟨a,vs,l',h1,h2,h3,h4⟩
 ·cases h with
  |lst h1 h2=>exact⟨_,_,rfl,s.sl h1,h2⟩
 ·cases h2
  exact⟨a,vs,h1,h3,h4⟩
theorem BR.tup{l:List PV}(h:BR K κ hH H v (.tup l))(s:aE hH H):∃a vs,v=.ref a/\kM K H a vs/\aZ K κ hH vs l:=by
 rcases h with h|⟨a,vs,l',h1,h2,h3,h4⟩
 ·cases h with
  |tup h1 h2=>exact⟨_,_,rfl,qy s h1,h2⟩
 ·cases h2
theorem BR.int{i:Int}(h:BR K κ hH H v (.int i)):v=.int i:=by
 rcases h with h|⟨a,vs,l',h1,h2,h3,h4⟩
 ·cases h;rfl
 ·cases h2
theorem BR.str{i:Str}(h:BR K κ hH H v (.str i)):v=.str i:=by
 rcases h with h|⟨a,vs,l',h1,h2,h3,h4⟩
 ·cases h;rfl
 ·cases h2
theorem Rep.Ld{i:Bool}(h:Rep K κ hH v (.bl i)):v=.bl i:=by cases h;rfl
theorem R.zX(r:R K κ G A bo own ρ σ H){a:Addr}{vs:List V}{l:List PV}(h:H a=none)(q:aZ K κ (dD A own ρ H) vs l):OR K κ (di A own ρ) H (upd H a (.lst vs)) (.ref a) (.lst l):=
 ⟨a,vs,l,rfl,rfl,h,aC,by
   rw[qz (.inr rfl)]
   exact q.mono (dX (λ_ _ z=>z) λb z nz=>by
    rcases z with z|z
    ·exact z
    ·rw[z]at nz
     exact absurd h nz)⟩
theorem OR.rep(r:R K κ G A bo own ρ σ H)(h:OR K κ (di A own ρ) H H' v p):Rep K κ (dD A own ρ H') v p:=by
 obtain⟨a,vs,l,rfl,rfl,h1,h2,h3⟩:=h
 refine .lst (SL.of ?_) (h3.mono (dX (λ_ _ z=>z) λb z _=>.inl z))
 rw[dD,bJ (r.new h1)]
 exact h2
theorem R.S6(r:R K κ G A bo own ρ σ H){a:Addr}{vs:List V}{l:List PV}(h:H a=none)(q:aZ K κ (dD A own ρ H) vs l):Rep K κ (dD A own ρ (upd H a (.tup vs))) (.ref a) (.tup l):=by
 refine .tup (kM.of ?_) (q.mono (aV (bM h)))
 rw[dD,bJ (r.new h)]
 exact aC
theorem qA{ta tb:TE}{fa fb:Den}{α:Type}{g:PV->PV->Option α}{z:α}{Rr:V->V->Hp->Prop}(ha:S4 K κ ta fa)(hb:S4 K κ tb fb)(r:R K κ G A bo own ρ σ H)
  (e:((fa ρ).bind λx=>(fb ρ).bind λy=>g x y)=some z)(q:∀x y p q H',aE H H'->R K κ G A bo own ρ σ H'->BR K κ (dD A own ρ H') H' x p->BR K κ (dD A own ρ H') H' y q->g p q=some z->Rr x y H'):ta σ H λx H1=>tb σ H1 λy H2=>Rr x y H2:=by
 obtain⟨p1,e1,e⟩:=Zt.mp e
 obtain⟨p2,e2,e⟩:=Zt.mp e
 refine ha r e1 λx H1 s1 b1=>?_
 refine hb (r.mono s1) e2 λy H2 s2 b2=>?_
 exact q x y p1 p2 H2 (s1.trans s2) (r.mono (s1.trans s2)) (b1.Hi s2) b2 e
end
theorem DE.b{X:Cx}{κ:Kl}{ex:Expr}{f:Den}(h:DE X κ ex f):DB X κ ex f:=let⟨te,h1,h2⟩:=h;⟨te,h1,λr e q=>h2 r e λv H' s z=>q v H' s (.inl z)⟩
theorem DO.e{X:Cx}{κ:Kl}{ex:Expr}{f:Den}(h:DO X κ ex f):DE X κ ex f:=let⟨te,h1,h2⟩:=h;⟨te,h1,λr e q=>h2 r e λv H' s z=>q v H' s (z.rep r)⟩
theorem DO.b{X:Cx}{κ:Kl}{ex:Expr}{f:Den}(h:DO X κ ex f):DB X κ ex f:=h.e.b
section
variable{X:Cx}{κ:Kl}{e a b c:Expr}{f fa fb fc:Den}{pos:Pos}
theorem ak{i:Int}{j pos}:DE X κ (.Constant (.int i) j pos) (dC (.int i)):=⟨_,BC,λ{_ _ _ _ _ _ H _ _} r e q=>by cases e;exact q _ H (aE.refl _) (.int i)⟩
theorem Na{i:Bool}{j pos}:DE X κ (.Constant (.bool i) j pos) (dC (.bl i)):=⟨_,R5,λ{_ _ _ _ _ _ H _ _} r e q=>by cases e;exact q _ H (aE.refl _) (.bl i)⟩
theorem O3{j pos}:DE X κ (.Constant .none j pos) (dC .non):=⟨_,xN,λ{_ _ _ _ _ _ H _ _} r e q=>by cases e;exact q _ H (aE.refl _) .non⟩
theorem aI{i:Str}{j pos}:DE X κ (.Constant (.str i) j pos) (dC (.str i)):=⟨_,uw,λ{_ _ _ _ _ _ H _ _} r e q=>by cases e;exact q _ H (aE.refl _) (.str i)⟩
theorem aa(i:Nat){x:Str}{pos:Pos}(hN:X.N[i]?=some x:=by rfl)(hv:uq X.env.scope x:=by first|exact Or.inl rfl|exact Or.inr (Or.inl rfl)|exact Or.inr (Or.inr rfl))(hd:(x==("__debug__" :Str))=false:=by decide)
  (j0:(x==("__classdict__" :Str))=false:=by decide):DB X κ (.Name x pos) (dV i):=⟨_,dm hN hv hd j0,λ{G A bo own ρ σ H p Q} r e q=>by
 unfold dV at e
 obtain⟨s,e1,e2⟩:=Zt.mp e
 cases s with
 |un=>cases e2
 |sh p'=>
  cases e2
  obtain⟨v,h1,h2⟩:=r.sh i _ e1
  exact⟨v,h1,q v H (aE.refl _) (.inl h2)⟩
 |own c=>
  cases c with
  |d _=>cases e2
  |l l=>
  cases e2
  obtain⟨h1,_,vs,h3,h4⟩:=r.ow i _ e1
  exact⟨_,h1,q _ H (aE.refl _) (.inr ⟨_,vs,l,rfl,rfl,SL.of h3,h4⟩)⟩
 |bw l=>
  cases e2
  obtain⟨a,vs,h0,h1,h4⟩:=r.bw i _ e1
  exact⟨_,h1,q _ H (aE.refl _) (.inr ⟨_,vs,l,rfl,rfl,SL.of (r.same _ _ (r.bg _ _ _ h0)),h4⟩)⟩⟩
theorem aB(i:Nat){x:Str}{pos:Pos}(hN:X.N[i]?=some x:=by rfl)(hv:uq X.env.scope x:=by first|exact Or.inl rfl|exact Or.inr (Or.inl rfl)|exact Or.inr (Or.inr rfl))(hd:(x==("__debug__" :Str))=false:=by decide)
  (j0:(x==("__classdict__" :Str))=false:=by decide):DE X κ (.Name x pos) (bZ i):=⟨_,dm hN hv hd j0,λ{G A bo own ρ σ H p Q} r e q=>by
 unfold bZ at e
 obtain⟨s,e1,e2⟩:=Zt.mp e
 cases s with
 |un=>cases e2
 |sh p'=>
  cases e2
  obtain⟨v,h1,h2⟩:=r.sh i _ e1
  exact⟨v,h1,q v H (aE.refl _) h2⟩
 |own l=>cases e2
 |bw l=>cases e2⟩
theorem Hj{op:Operator}{C:Int->Int->Prop}{F:Int->Int->Int}{g:PV->PV->Option PV}(ho:mF X (binaryOp op) (rI C λi j=>.int (F i j)))(hg:∀p q z,g p q=some z->∃i j,p=.int i/\q=.int j/\C i j/\z=.int (F i j))
  (ha:DB X κ a fa)(hb:DB X κ b fb):DE X κ (.BinOp a op b pos) (ae g fa fb):=by
 obtain⟨ta,h1,h2⟩:=ha
 obtain⟨tb,h3,h4⟩:=hb
 refine⟨_,Dk ho h1 h3,λ{G A bo own ρ σ H p Q} r e q=>?_⟩
 refine qA h2 h4 r e λx y p1 p2 H' s r' b1 b2 e'=>?_
 obtain⟨i,j,rfl,rfl,hC,rfl⟩:=hg _ _ _ e'
 exact⟨i,j,b1.int,b2.int,hC,q _ H' s (.int _)⟩
theorem O4{op:Operator}{F:Int->Int->Int}{g:PV->PV->Option PV}(ho:mF X (binaryOp op) (KS λi j=>.int (F i j)))(hg:∀p q z,g p q=some z->∃i j,p=.int i/\q=.int j/\z=.int (F i j))
  (ha:DB X κ a fa)(hb:DB X κ b fb):DE X κ (.BinOp a op b pos) (ae g fa fb):=by
 obtain⟨ta,h1,h2⟩:=ha
 obtain⟨tb,h3,h4⟩:=hb
 refine⟨_,Dk ho h1 h3,λ{G A bo own ρ σ H p Q} r e q=>?_⟩
 refine qA h2 h4 r e λx y p1 p2 H' s r' b1 b2 e'=>?_
 obtain⟨i,j,rfl,rfl,rfl⟩:=hg _ _ _ e'
 exact⟨i,j,b1.int,b2.int,q _ H' s (.int _)⟩
theorem Hk(ha:DB X κ a fa)(hb:DB X κ b fb):DE X κ (.BinOp a .Sub b pos) (ae zK fa fb):=O4 Ow (λp q z h=>by
 (cases p<;>first|(cases h;done)|skip)<;>cases q<;>first|(cases h;exact⟨_,_,rfl,rfl,rfl⟩)|cases h) ha hb
theorem cb{α:Type}{c:Prop}[Decidable c]{x z:α}(h:(if c then some x else none)=some z):c/\x=z:=by
 split at h
 ·exact⟨by assumption,z0O h⟩
 ·cases h
theorem ke(ha:DB X κ a fa)(hb:DB X κ b fb):DE X κ (.BinOp a .FloorDiv b pos) (ae jZ fa fb):=Hj KU (λp q z h=>by
 (cases p<;>first|(cases h;done)|skip)<;>cases q<;>first|(cases h;done)|skip
 obtain⟨h1,h2⟩:=cb h
 simp only[z0F,decide_eq_true_eq]at h1
 exact⟨_,_,rfl,rfl,h1,h2.symm⟩) ha hb
theorem cy(ha:DB X κ a fa)(hb:DB X κ b fb):DE X κ (.BinOp a .Mod b pos) (ae cJ fa fb):=Hj Oy (λp q z h=>by
 (cases p<;>first|(cases h;done)|skip)<;>cases q<;>first|(cases h;done)|skip
 obtain⟨h1,h2⟩:=cb h
 simp only[z0F,decide_eq_true_eq]at h1
 exact⟨_,_,rfl,rfl,h1,h2.symm⟩) ha hb
theorem rT(ha:DB X κ a fa)(hb:DB X κ b fb):DE X κ (.BinOp a .Mult b pos) (ae rR fa fb):=Hj Ox (λp q z h=>by
 (cases p<;>first|(cases h;done)|skip)<;>cases q<;>first|(cases h;done)|skip
 obtain⟨h1,h2⟩:=cb h
 simp only[zU,z0r,z0F,decide_eq_true_eq]at h1
 exact⟨_,_,rfl,rfl,h1,h2.symm⟩) ha hb
theorem jR(ha:DB X κ a fa):DE X κ (.UnaryOp .USub a pos) (bU mQ fa):=by
 obtain⟨ta,h1,h2⟩:=ha
 refine⟨_,Sj Oz h1,λ{G A bo own ρ σ H p Q} r e q=>?_⟩
 obtain⟨p1,e1,e⟩:=Zt.mp e
 refine h2 r e1 λx H1 s1 b1=>?_
 cases p1<;>first|(cases e;done)|skip
 cases e
 exact⟨_,b1.int,q _ H1 s1 (.int _)⟩
theorem O5{K:PySem.W.Frag}:mF X (binaryOp .Add) (λx y H Q=>∃l b xs zs,x=.ref l/\y=.ref b/\SL X.K H l xs/\SL X.K H b zs/\xs.length+zs.length<=sizeLine/\∀p,H p=none->Q (.ref p) (upd H p (.lst (xs++zs)))):=by
 intro pins s σ H x y v u Q I rx ry h
 obtain⟨l,b,xs,zs,rfl,rfl,hH,hB,hz,q⟩:=h
 cases rx
 cases ry
 obtain⟨its,n,r,ho,z⟩:=I.sl hH
 obtain⟨tJ,n2,r2,RC,z2⟩:=I.sl hB
 have l1:=r.length
 have l2:=r2.length
 refine PySem.P.add_list ho RC ?_ (by rw[X4,X4];omega)
 have ea:its.toArray++tJ.toArray=(its++tJ).toArray:=by simp
 rw[ea]
 exact⟨.ref _,_,I.We (t':=s.toks) (r.append r2) (by rw[z0E];omega),rfl,q _ I.fresh⟩
theorem aF(ha:DB X κ a fa)(hb:DB X κ b fb):DE X κ (.BinOp a .Add b pos) (ae aW fa fb):=by
 obtain⟨ta,h1,h2⟩:=ha
 obtain⟨tb,h3,h4⟩:=hb
 refine⟨_,Dk (Ov.or (BJ.or (O5 (K:=X.K)))) h1 h3,λ{G A bo own ρ σ H p Q} r e q=>?_⟩
 refine qA h2 h4 r e λx y p1 p2 H' s r' b1 b2 e'=>?_
 (cases p1<;>first|(cases e';done)|skip)<;>cases p2<;>first|(cases e';done)|skip
 ·cases e'
  exact .inl ⟨_,_,b1.int,b2.int,q _ H' s (.int _)⟩
 ·obtain⟨h1,rfl⟩:=cb e'
  exact .inr (.inl ⟨_,_,b1.str,b2.str,h1,q _ H' s (.str _)⟩)
 ·obtain⟨h1,rfl⟩:=cb e'
  obtain⟨a1,S7,rfl,q1,w1⟩:=b1.lst aM
  obtain⟨a2,ZD,rfl,q2,w2⟩:=b2.lst aM
  refine .inr (.inr ⟨a1,a2,S7,ZD,rfl,rfl,q1,q2,by rw[w1.length,w2.length];exact h1,λp hp=>?_⟩)
  exact q _ _ (s.trans (bM hp)) ((r'.zX hp (w1.append w2)).rep r')
def DC(X:Cx)(κ:Kl)(op:CmpOp)(a b:Expr)(f:Den):Prop:=∃r ta tb,mF X (compareOp op) r/\PE X a ta/\PE X b tb/\M9 X.K κ (Oo r ta tb) f
theorem uN{op:CmpOp}(h:DC X κ op a b f)(hm:behindInMarks op b=false:=by first|exact xR _|with_unfolding_all rfl):DE X κ (.Compare a [op] [b] pos) f:=
 let⟨_,_,_,h1,h2,h3,h4⟩:=h;⟨_,Dp h1 h2 h3 hm,h4⟩
theorem DL{K:PySem.W.Frag}{te:TE}(h:M9 K κ te f):S5 K κ (MY te) (tV f):=λ{G A bo own ρ σ H b Q} r e q=>by
 obtain⟨p,e1,e2⟩:=Zt.mp e
 refine h r e1 λv H' s z=>?_
 cases p<;>first|(cases e2;done)|skip
 cases e2
 exact⟨_,z.Ld,q H' s⟩
theorem bj{op:CmpOp}(h:DC X κ op a b f)(hm:behindInMarks op b=false:=by first|exact xR _|with_unfolding_all rfl):DT X κ (.Compare a [op] [b] pos) (tV f):=
 let⟨_,_,_,h1,h2,h3,h4⟩:=h;⟨_,Dq h1 h2 h3 hm,DL h4⟩
theorem yg(h:DE X κ e f)(he:∀whole,isTrue e X.env whole=(do let v<-whole;standAt e.pos;holding [v] (truthy v)):=by intro _;rfl):DT X κ e (tV f):=
 let⟨_,h1,h2⟩:=h;⟨_,BD h1 he,DL h2⟩
theorem S8{op:CmpOp}{F:Int->Int->Bool}{g:PV->PV->Option PV}(ho:mF X (compareOp op) (KS λi j=>.bl (F i j)))(hg:∀p q z,g p q=some z->∃i j,p=.int i/\q=.int j/\z=.bl (F i j))
  (ha:DB X κ a fa)(hb:DB X κ b fb):DC X κ op a b (ae g fa fb):=by
 obtain⟨ta,h1,h2⟩:=ha
 obtain⟨tb,h3,h4⟩:=hb
 refine⟨_,_,_,ho,h1,h3,λ{G A bo own ρ σ H p Q} r e q=>?_⟩
 refine qA h2 h4 r e λx y p1 p2 H' s r' b1 b2 e'=>?_
 obtain⟨i,j,rfl,rfl,rfl⟩:=hg _ _ _ e'
 exact⟨i,j,b1.int,b2.int,q _ H' s (.bl _)⟩
theorem uO(ha:DB X κ a fa)(hb:DB X κ b fb):DC X κ .Lt a b (ae yc fa fb):=S8 So (λp q z h=>by
 (cases p<;>first|(cases h;done)|skip)<;>cases q<;>first|(cases h;exact⟨_,_,rfl,rfl,rfl⟩)|cases h) ha hb
theorem DM(ha:DB X κ a fa)(hb:DB X κ b fb):DC X κ .Gt a b (ae KA fa fb):=S8 Sq (λp q z h=>by
 (cases p<;>first|(cases h;done)|skip)<;>cases q<;>first|(cases h;exact⟨_,_,rfl,rfl,rfl⟩)|cases h) ha hb
variable{ft fu:de}{rest:List Expr}
theorem Hl(ha:DT X κ a ft):DT X κ (.UnaryOp .Not a pos) (vZ ft):=by
 obtain⟨ta,h1,h2⟩:=ha
 refine⟨_,GH h1,λ{G A bo own ρ σ H p Q} r e q=>?_⟩
 obtain⟨c,e1,rfl⟩:=Zu.mp e
 exact h2 r e1 λH' s=>q H' s
theorem tU(ha:DT X κ a ft):DW X κ (.BoolOp .And [a] pos) ft:=let⟨_,h1,h2⟩:=ha;⟨_,pw_and1 h1,h2⟩
theorem yh(ha:DT X κ a ft):DW X κ (.BoolOp .Or [a] pos) ft:=let⟨_,h1,h2⟩:=ha;⟨_,pw_or1 h1,h2⟩
theorem yi(ha:DT X κ a ft)(hb:DW X κ (.BoolOp .And (b::rest) pos) fu):DW X κ (.BoolOp .And (a::b::rest) pos) (rH ft fu):=by
 obtain⟨ta,h1,h2⟩:=ha
 obtain⟨tb,h3,h4⟩:=hb
 refine⟨_,pw_and h1 h3,λ{G A bo own ρ σ H p Q} r e q=>?_⟩
 obtain⟨c,e1,e2⟩:=Zt.mp e
 refine h2 r e1 λH1 s1=>?_
 cases c with
 |true=>exact h4 (r.mono s1) e2 λH2 s2=>q H2 (s1.trans s2)
 |false=>cases e2;exact q H1 s1
theorem wU(ha:DT X κ a ft)(hb:DW X κ (.BoolOp .Or (b::rest) pos) fu):DW X κ (.BoolOp .Or (a::b::rest) pos) (xO ft fu):=by
 obtain⟨ta,h1,h2⟩:=ha
 obtain⟨tb,h3,h4⟩:=hb
 refine⟨_,pw_or h1 h3,λ{G A bo own ρ σ H p Q} r e q=>?_⟩
 obtain⟨c,e1,e2⟩:=Zt.mp e
 refine h2 r e1 λH1 s1=>?_
 cases c with
 |false=>exact h4 (r.mono s1) e2 λH2 s2=>q H2 (s1.trans s2)
 |true=>cases e2;exact q H1 s1
theorem DW.t(h:DW X κ e ft):DT X κ e ft:=let⟨_,h1,h2⟩:=h;⟨_,h1.pt,h2⟩
theorem B2{op}(h:DE X κ a f):DE X κ (.BoolOp op [a] pos) f:=let⟨_,h1,h2⟩:=h;⟨_,GI h1,h2⟩
theorem yj(ha:DE X κ a fa)(hb:DE X κ (.BoolOp .And (b::rest) pos) fb):DE X κ (.BoolOp .And (a::b::rest) pos) (DK fa fb):=by
 obtain⟨ta,h1,h2⟩:=ha
 obtain⟨tb,h3,h4⟩:=hb
 refine⟨_,GJ h1 h3,λ{G A bo own ρ σ H p Q} r e q=>?_⟩
 obtain⟨x,e1,e2⟩:=Zt.mp e
 obtain⟨c,e3,e4⟩:=Zt.mp e2
 refine h2 r e1 λv H1 s1 z=>?_
 cases x<;>first|(cases e3;done)|skip
 cases e3
 refine⟨_,z.Ld,?_⟩
 cases c with
 |true=>exact h4 (r.mono s1) e4 λv H2 s2 z=>q v H2 (s1.trans s2) z
 |false=>cases e4;exact q _ H1 s1 (.bl _)
theorem O6(ha:DE X κ a fa)(hb:DE X κ (.BoolOp .Or (b::rest) pos) fb):DE X κ (.BoolOp .Or (a::b::rest) pos) (S1 fa fb):=by
 obtain⟨ta,h1,h2⟩:=ha
 obtain⟨tb,h3,h4⟩:=hb
 refine⟨_,R8 h1 h3,λ{G A bo own ρ σ H p Q} r e q=>?_⟩
 obtain⟨x,e1,e2⟩:=Zt.mp e
 obtain⟨c,e3,e4⟩:=Zt.mp e2
 refine h2 r e1 λv H1 s1 z=>?_
 cases x<;>first|(cases e3;done)|skip
 cases e3
 refine⟨_,z.Ld,?_⟩
 cases c with
 |false=>exact h4 (r.mono s1) e4 λv H2 s2 z=>q v H2 (s1.trans s2) z
 |true=>cases e4;exact q _ H1 s1 (.bl _)
theorem Lh(ha:DE X κ a fa):DE X κ (.UnaryOp .Not a pos) (M7 fa):=by
 obtain⟨ta,h1,h2⟩:=ha
 refine⟨_,Oa h1,λ{G A bo own ρ σ H p Q} r e q=>?_⟩
 obtain⟨x,e1,e2⟩:=Zt.mp e
 obtain⟨c,e3,rfl⟩:=Zu.mp e2
 refine h2 r e1 λv H1 s1 z=>?_
 cases x<;>first|(cases e3;done)|skip
 cases e3
 exact⟨_,z.Ld,q _ H1 s1 (.bl _)⟩
def DA(X:Cx)(κ:Kl)(es:List Expr)(f:eF):Prop:=∃ta,PA X es ta/\∀{G A bo own ρ σ H ps Q},R X.K κ G A bo own ρ σ H->f ρ=some ps->(∀vs H',aE H H'->aZ X.K κ (dD A own ρ H') vs ps->Q vs H')->ta σ H Q
variable{es:List Expr}{fs:eF}
theorem aN:DA X κ [] aO:=⟨_,bG,λ{G A bo own ρ σ H ps Q} r e q=>by cases e;exact q [] H (aE.refl _) .nil⟩
theorem ag(ha:DE X κ a fa)(hr:DA X κ es fs)(hs:starEach (a::es) X.env=(false,eval a X.env)::starEach es X.env:=by rfl):DA X κ (a::es) (ah fa fs):=by
 obtain⟨ta,h1,h2⟩:=ha
 obtain⟨tb,h3,h4⟩:=hr
 refine⟨_,aG h1 h3 hs,λ{G A bo own ρ σ H ps Q} r e q=>?_⟩
 obtain⟨x,e1,e2⟩:=Zt.mp e
 obtain⟨xs,e3,e4⟩:=Zt.mp e2
 cases e4
 refine h2 r e1 λv H1 s1 z1=>h4 (r.mono s1) e3 λvs H2 s2 z2=>q _ H2 (s1.trans s2) (.cons (z1.mono (aV s2)) z2)
theorem mS(h:DA X κ es fs):DO X κ (.List es pos) (oF fs):=by
 obtain⟨ta,h1,h2⟩:=h
 refine⟨_,uA h1,λ{G A bo own ρ σ H ps Q} r e q=>?_⟩
 obtain⟨x,e1,e2⟩:=Zt.mp e
 obtain⟨h3,rfl⟩:=cb e2
 refine h2 r e1 λvs H1 s1 z1=>⟨by rw[z1.length];exact h3,λp hp=>q _ _ (s1.trans (bM hp)) ?_⟩
 obtain⟨a,ws,l,w1,w2,w3,w4⟩:=(r.mono s1).zX hp z1
 refine⟨a,ws,l,w1,w2,?_,w4⟩
 cases w1
 exact s1.free hp
theorem ij{x1}(h:DA X κ es fs):DE X κ (.Tuple es x1 pos) (jO fs):=by
 obtain⟨ta,h1,h2⟩:=h
 refine⟨_,GX h1,λ{G A bo own ρ σ H ps Q} r e q=>?_⟩
 obtain⟨x,e1,e2⟩:=Zt.mp e
 obtain⟨h3,rfl⟩:=cb e2
 exact h2 r e1 λvs H1 s1 z1=>⟨by rw[z1.length];exact h3,λp hp=>q _ _ (s1.trans (bM hp)) ((r.mono s1).S6 hp z1)⟩
end
def RR(fr:Bool)(K:PySem.W.Frag)(κ:Kl)(A:Addr->Prop)(G H':Hp)(v:V)(p:PV):Prop:=if fr=true then OR K κ A G H' v p else Rep K κ (hide A H') v p
def Hm(K:PySem.W.Frag)(κ:Kl)(fr:Bool)(G:Hp)(A:Addr->Prop)(bo:Nat->Option (Addr×List V))(D:Ends):Fl->Prop
 |.nx ρ'=>∀dQ σ' H',R K κ G A bo dQ ρ' σ' H'->D.nx σ' H'
 |.bk ρ'=>∀dQ σ' H',R K κ G A bo dQ ρ' σ' H'->D.bk σ' H'
 |.ct ρ'=>∀dQ σ' H',R K κ G A bo dQ ρ' σ' H'->D.ct σ' H'
 |.rt p=>∀v H',aE G H'->RR fr K κ A G H' v p->D.rt v H'
def KC(K:PySem.W.Frag)(κ:Kl)(fr:Bool)(ts:TS)(g:bE):Prop:=
 ∀{G A bo own ρ σ H fl D},R K κ G A bo own ρ σ H->g ρ=some fl->Hm K κ fr G A bo D fl->ts D σ H
def DS(X:Cx)(κ:Kl)(fr:Bool)(st:Stmt)(g:bE):Prop:=∃ts,PS X st ts/\KC X.K κ fr ts g
def GA(X:Cx)(κ:Kl)(fr:Bool)(st:List Stmt)(g:bE):Prop:=∃ts,xM X st ts/\KC X.K κ fr ts g
theorem Wv{K:PySem.W.Frag}{κ:Kl}{G H H':Hp}{A B:Addr->Prop}{v:V}{p:PV}(h:OR K κ B H H' v p)(s:aE G H)(ZE:∀b,A b->B b):OR K κ A G H' v p:=by
 obtain⟨a,vs,l,h1,h2,h3,h4,h5⟩:=h
 exact⟨a,vs,l,h1,h2,s.free h3,h4,h5.mono (dX (λ_ _ z=>z) λb z _=>z.imp (ZE b) id)⟩
section
variable{X:Cx}{κ:Kl}{fr:Bool}{st:Stmt}{rest:List Stmt}{g g':bE}{e a b c:Expr}{f:Den}{ft:de}{pos:Pos}
theorem dn:GA X κ fr [] dP:=⟨_,cS,λ{G A bo own ρ σ H fl D} r e k=>by cases e;exact k own σ H r⟩
theorem Li{K:PySem.W.Frag}{t u:TS}(h1:KC K κ fr t g)(h2:KC K κ fr u g'):KC K κ fr (BE t u) (ba g g'):=λ{G A bo own ρ σ H fl D} r e k=>by
 obtain⟨f1,e1,e2⟩:=Zt.mp e
 refine h1 r e1 ?_
 cases f1 with
 |nx ρ'=>exact λdQ σ' H' r'=>h2 r' e2 k
 |rt p=>cases e2;exact k
 |bk ρ'=>cases e2;exact k
 |ct ρ'=>cases e2;exact k
theorem aq(h1:DS X κ fr st g)(h2:GA X κ fr rest g'):GA X κ fr (st::rest) (ba g g'):=
 let⟨_,a1,a2⟩:=h1;let⟨_,b1,b2⟩:=h2;⟨_,aQ a1 b1,Li a2 b2⟩
theorem aH(h1:DS X κ fr st g):GA X κ fr [st] g:=let⟨_,a1,a2⟩:=h1;⟨_,bx a1,a2⟩
theorem Lj{K:PySem.W.Frag}{u:TS}(i:Nat)(h2:KC K κ fr u g):KC K κ fr u (ba (Lf i) g):=λ{G A bo own ρ σ H fl D} r e k=>by
 obtain⟨f1,e1,e2⟩:=Zt.mp e
 unfold Lf at e1
 split at e1
 ·rename_i l h
  cases e1
  obtain⟨h1,h3,vs,h4,h5⟩:=r.ow i (.l l) h
  change H (own i)=some (.lst vs)at h4
  change aZ _ _ _ vs l at h5
  refine h2 (own:=own) (σ:=σ) (H:=H) ?_ e2 k
  have hi:i<ρ.length:=(z0C.mp h).1
  have s1:aE (dD A own ρ H) (dD A own (ρ.set i (.sh (.lst l))) H):=oo
  have Gu:dD A own (ρ.set i (.sh (.lst l))) H (own i)=some (.lst vs):=by
   rw[dD,bJ]
   ·exact h4
   ·rintro(z|⟨j,m,z1,z2⟩)
    ·exact r.al _ z h3
    ·by_cases hj:i=j
     ·subst hj
      rw[z0B,if_pos rfl,if_pos hi]at z1
      cases z1
     ·rw[z0B,if_neg hj]at z1
      exact hj (r.inj j i _ _ z1 h z2).symm
  refine⟨r.al,r.bg,r.same,λj q e=>?_,λj m e=>?_,λj k m n e f=>?_,λj m e=>?_,by rw[z0q];exact r.len⟩
  ·by_cases hj:i=j
   ·subst hj
    rw[z0B,if_pos rfl,if_pos hi]at e
    cases e
    exact⟨_,h1,.lst (SL.of Gu) (h5.mono s1)⟩
   ·rw[z0B,if_neg hj]at e
    obtain⟨v,z1,z2⟩:=r.sh j q e
    exact⟨v,z1,z2.mono s1⟩
  ·by_cases hj:i=j
   ·subst hj
    rw[z0B,if_pos rfl,if_pos hi]at e
    cases e
   ·rw[z0B,if_neg hj]at e
    obtain⟨z1,z2,ws,z3,z4⟩:=r.ow j m e
    exact⟨z1,z2,ws,z3,z4.mono s1⟩
  ·have ne:∀{j:Nat} {m:Cn},(ρ.set i (.sh (.lst l)))[j]?=some (.own m)->ρ[j]?=some (.own m):=λ{j m} z=>by
     rw[z0B]at z
     split at z
     ·first|cases z|(split at z<;>cases z)
     ·exact z
   exact r.inj j k m n (ne e) (ne f)
  ·by_cases hj:i=j
   ·subst hj
    rw[z0B,if_pos rfl,if_pos hi]at e
    cases e
   ·rw[z0B,if_neg hj]at e
    obtain⟨b,ws,z1,z2,z3⟩:=r.bw j m e
    exact⟨b,ws,z1,z2,z3.mono s1⟩
 ·cases e1
  exact h2 r e2 k
theorem Lk(i:Nat)(h:GA X κ fr rest g):GA X κ fr rest (ba (Lf i) g):=let⟨_,a1,a2⟩:=h;⟨_,a1,Lj i a2⟩
theorem Ho:DS X κ fr (.Break pos) uJ:=⟨_,GK,λ{G A bo own ρ σ H fl D} r e k=>by cases e;exact k own σ H r⟩
theorem bX(h:DE X κ e f):DS X κ false (.Return (some e) pos) (dh f):=by
 obtain⟨te,h1,h2⟩:=h
 refine⟨_,eR h1,λ{G A bo own ρ σ H fl D} r e k=>?_⟩
 obtain⟨p,e1,rfl⟩:=Zu.mp e
 refine h2 r e1 λv H' s z=>k v H' (r.same.trans s) ?_
 exact z.mono (dX (λ_ _ q=>q) λb q _=>.inl q)
theorem iW{ρ:dO}{i:Nat}{l:List PV}(h:yd ρ i=some l):ρ[i]?=some (.ow l):=by
 unfold yd at h
 split at h
 ·rename_i l' e
  cases h
  exact e
 ·cases h
theorem Ll(i:Nat){x:Str}{p':Pos}(hN:X.N[i]?=some x:=by rfl)(hv:uq X.env.scope x:=by first|exact Or.inl rfl|exact Or.inr (Or.inl rfl)|exact Or.inr (Or.inr rfl))(hd:(x==("__debug__" :Str))=false:=by decide)
  (j0:(x==("__classdict__" :Str))=false:=by decide):DS X κ true (.Return (some (.Name x p')) pos) (M8 i):=by
 refine⟨_,eR (dm hN hv hd j0),λ{G A bo own ρ σ H fl D} r e k=>?_⟩
 obtain⟨l,e1,rfl⟩:=Zu.mp e
 obtain⟨h1,h3,vs,h4,h5⟩:=r.ow i (.l l) (iW e1)
 change H (own i)=some (.lst vs)at h4
 change aZ _ _ _ vs l at h5
 refine⟨_,h1,k _ H r.same ?_⟩
 exact⟨own i,vs,l,rfl,rfl,h3,h4,h5.mono (dX (λ_ _ z=>z) λb z _=>by
  rcases z with z|z
  ·exact .inl z
  ·exact .inr ⟨i,.l l,iW e1,z.symm⟩)⟩
theorem gL{sa sb:List Stmt}(hc:DT X κ c ft)(ha:GA X κ fr sa g)(hb:GA X κ fr sb g'):DS X κ fr (.If c sa sb pos) (lu ft g g'):=by
 obtain⟨tc,h5,h6⟩:=hc
 obtain⟨ta,h1,h2⟩:=ha
 obtain⟨tb,h3,h4⟩:=hb
 refine⟨_,gV h5 h1 h3,λ{G A bo own ρ σ H fl D} r e k=>?_⟩
 obtain⟨c,e1,e2⟩:=Zt.mp e
 refine h6 r e1 λH1 s1=>?_
 cases c with
 |true=>exact h2 (r.mono s1) e2 k
 |false=>exact h4 (r.mono s1) e2 k
theorem bh(i:Nat){x:Str}{p':Pos}(hN:X.N.Nodup)(h:DE X κ e f)(hi:X.N[i]?=some x:=by rfl)(hx:Loc X.env.scope x:=by first|exact Or.inl rfl|exact Or.inr rfl)(hs:swapsWith e (some (.Name x p')) pos.line X.env=pure false:=by rfl)
  (hf:X.fn x=true\/X.env.scope.names.lookup x=some .local:=by first|exact .inl rfl|exact .inr rfl):DS X κ fr (.Assign [.Name x p'] e pos) (b9 i f):=by
 obtain⟨te,h1,h2⟩:=h
 refine⟨_,ic hN hi hx h1 hs hf,λ{G A bo own ρ σ H fl D} r e k=>?_⟩
 obtain⟨p,e1,rfl⟩:=Zu.mp e
 exact h2 r e1 λv H' s z=>k _ _ _ ((r.mono s).set z)
theorem R.O7{K:PySem.W.Frag}{G H H':Hp}{A:Addr->Prop}{bo:Nat->Option (Addr×List V)}{own:Nat->Addr}{ρ:dO}{σ:St}(r:R K κ G A bo own ρ σ H)(s:aE H H'){i:Nat}{v:V}{l:List PV}(z:OR K κ (di A own ρ) H H' v (.lst l)):
  ∃dQ,R K κ G A bo dQ (ρ.set i (.ow l)) (σ.set i (some v)) H':=by
 obtain⟨a,vs,l',rfl,z2,h3,h4,h5⟩:=z
 cases z2
 refine⟨_,r.S2 (r.same.free h3) (λq=>r.new h3 (.inl q)) (λj m e _ q=>r.new h3 (.inr ⟨j,m,e,q⟩)) ?_ (λb o q _=>s b o q) h4 h5⟩
 exact dX s λb w nz=>by
  rcases w with w|w
  ·exact w
  ·rw[w]at nz
   exact absurd h3 nz
theorem tW(i:Nat){x:Str}{p':Pos}(hN:X.N.Nodup)(h:DO X κ e f)(hi:X.N[i]?=some x:=by rfl)(hx:Loc X.env.scope x:=by first|exact Or.inl rfl|exact Or.inr rfl)(hs:swapsWith e (some (.Name x p')) pos.line X.env=pure false:=by rfl)
  (hf:X.fn x=true\/X.env.scope.names.lookup x=some .local:=by first|exact .inl rfl|exact .inr rfl):DS X κ fr (.Assign [.Name x p'] e pos) (qx i f):=by
 obtain⟨te,h1,h2⟩:=h
 refine⟨_,ic hN hi hx h1 hs hf,λ{G A bo own ρ σ H fl D} r e k=>?_⟩
 obtain⟨p,e1,e2⟩:=Zt.mp e
 obtain⟨l,e3,rfl⟩:=Zu.mp e2
 refine h2 r e1 λv H' s z=>?_
 cases p<;>first|(cases e3;done)|skip
 cases e3
 obtain⟨dQ,r'⟩:=r.O7 s (i:=i) z
 exact k _ _ _ r'
theorem R.Ww{K:PySem.W.Frag}{G H:Hp}{A:Addr->Prop}{bo:Nat->Option (Addr×List V)}{own:Nat->Addr}{ρ:dO}{σ:St}(r:R K κ G A bo own ρ σ H){i:Nat}{l l':Cn}{ws:List V}(h:ρ[i]?=some (.own l))(q:aZ K κ (dD A own ρ H) ws (O1 l')):
  ∃dQ,R K κ G A bo dQ (ρ.set i (.own l')) σ (upd H (own i) (He l' ws)):=by
 obtain⟨h1,h3,vs,h4,h5⟩:=r.ow i l h
 have e:σ.set i (some (.ref (own i)))=σ:=by
  obtain⟨hl,hx⟩:=z0C.mp h1
  rw[<-hx]
  exact List.set_getElem_self hl
 have hs:di A own ρ (own i):=.inr ⟨i,l,h,rfl⟩
 have he:hide (λb=>di A own ρ b\/b=own i) (upd H (own i) (He l' ws))=dD A own ρ H:=by
  rw[qz (.inr rfl)]
  congr 1
  funext b
  refine propext ⟨λz=>?_,.inl⟩
  rcases z with z|z
  ·exact z
  ·rw[z]
   exact hs
 have:=r.S2 (i:=i) (a:=own i) (vs:=ws) (l:=l') (H1:=upd H (own i) (He l' ws)) h3 (λz=>r.al _ z h3) (λj m e' hj z=>hj (r.inj j i _ _ e' h z)) (by rw[he];exact λ_ _ z=>z) (λb o z hb=>by rw[au hb];exact z) aC (by rw[he];exact q)
 rw[e]at this
 exact⟨_,this⟩
def Nb(K:PySem.W.Frag)(κ:Kl)(rm:V->List V->Hp->VK->Prop)(gm:List PV->List PV->Option (List PV)):Prop:=
 ∀{hH H:Hp} {a:Addr} {vs ws:List V} {l xs l':List PV} {Q:VK},aE hH H->H a=some (.lst vs)->aZ K κ hH vs l->aZ K κ hH ws xs->gm l xs=some l'->(∀us,aZ K κ hH us l'->Q .non (upd H a (.lst us)))->rm (.ref a) ws H Q
theorem R.mut{K:PySem.W.Frag}{G H:Hp}{A:Addr->Prop}{bo:Nat->Option (Addr×List V)}{own:Nat->Addr}{ρ:dO}{σ:St}(r:R K κ G A bo own ρ σ H){i:Nat}{l l':List PV}{ws:List V}(h:ρ[i]?=some (.ow l))(q:aZ K κ (dD A own ρ H) ws l'):
 ∃dQ,R K κ G A bo dQ (ρ.set i (.ow l')) σ (upd H (own i) (.lst ws)):=r.Ww (l:=.l l) (l':=.l l') h q
theorem Lm{K:PySem.W.Frag}{rm:V->List V->Hp->VK->Prop}{gm:List PV->List PV->Option (List PV)}{fs:eF}{ta:TA}(i:Nat)(hg:Nb K κ rm gm)
  (ha:∀{G A bo own ρ σ H ps Q},R K κ G A bo own ρ σ H->fs ρ=some ps->(∀vs H',aE H H'->aZ K κ (dD A own ρ H') vs ps->Q vs H')->ta σ H Q):KC K κ fr (qk (RE K "list" rm (fR i) ta)) (uK i gm fs):=λ{G A bo own ρ σ H fl D} r e k=>by
 obtain⟨xs,e1,e2⟩:=Zt.mp e
 obtain⟨l,e3,e4⟩:=Zt.mp e2
 obtain⟨l',e5,rfl⟩:=Zu.mp e4
 have Gz:=iW e3
 obtain⟨h1,h3,vs,h4,h5⟩:=r.ow i (.l l) Gz
 change H (own i)=some (.lst vs)at h4
 change aZ _ _ _ vs l at h5
 refine⟨_,h1,.inl ⟨rfl,vs,mK.of h4⟩,ha r e1 λws H2 s2 z2=>?_⟩
 refine hg aM (s2 _ _ h4) (h5.mono (aV s2)) z2 e5 λus z=>?_
 obtain⟨dQ,r'⟩:=(r.mono s2).mut Gz z
 exact k _ _ _ r'
theorem Hq{K:PySem.W.Frag}{rm:V->List V->Hp->VK->Prop}{gm:List PV->List PV->Option (List PV)}(i:Nat)(hg:Nb K κ rm gm):KC K κ fr (qk (SQ K "list" rm (fR i))) (uK i gm aO):=λ{G A bo own ρ σ H fl D} r e k=>by
 obtain⟨xs,e1,e2⟩:=Zt.mp e
 obtain⟨l,e3,e4⟩:=Zt.mp e2
 obtain⟨l',e5,rfl⟩:=Zu.mp e4
 have Gz:=iW e3
 obtain⟨h1,h3,vs,h4,h5⟩:=r.ow i (.l l) Gz
 change H (own i)=some (.lst vs)at h4
 change aZ _ _ _ vs l at h5
 cases e1
 refine⟨_,h1,.inl ⟨rfl,vs,mK.of h4⟩,?_⟩
 refine hg aM h4 h5 .nil e5 λus z=>?_
 obtain⟨dQ,r'⟩:=r.mut Gz z
 exact k _ _ _ r'
theorem oq{x:Str}{p' apos bY:Pos}{ee:Expr}{fs:eF}(i:Nat)(ha:DA X κ [ee] fs)(hN:X.N[i]?=some x:=by rfl)(hv:uq X.env.scope x:=by first|exact Or.inl rfl|exact Or.inr (Or.inl rfl)|exact Or.inr (Or.inr rfl))(hd:(x==("__debug__" :Str))=false:=by decide)
  (j0:(x==("__classdict__" :Str))=false:=by decide)(iF:attributeBase (.Name x p') "append" X.env (eval (.Name x p') X.env)=eval (.Name x p') X.env:=by rfl)
  (rP:((backTo bY (starEach [ee] X.env)).all (λx=>!x.1)&&(backToKw bY (keywordEach [] X.env)).all (λx=>x.1.isSome)
    &&decide ([ee].length+([]:List Keyword).length+(if([]:List Keyword).isEmpty then 0 else 1)<30))=true:=by rfl)
  (hs:swapsWith (.Call (.Attribute (.Name x p') "append" apos) [ee] [] bY) none pos.line X.env=pure false:=by rfl)(iG:(apos.endLine==bY.line)=true:=by rfl)(kJ:starEach [ee] X.env=(false,eval ee X.env)::starEach [] X.env:=by rfl):
  DS X κ fr (.Expr (.Call (.Attribute (.Name x p') "append" apos) [ee] [] bY) pos) (uK i j4 fs):=by
 obtain⟨ta,h1,h2⟩:=ha
 refine⟨_,g0 (wN z0t z1G z1H oj (dm hN hv hd j0) h1 iF rP iG kJ rfl) hs,Lm i ?_ h2⟩
 intro hH H a vs ws l xs l' Q s h3 h4 h5 h6 q
 unfold j4 at h6
 split at h6
 ·obtain⟨h7,rfl⟩:=cb h6
  cases h5 with
  |cons z t=>
   cases t
   exact⟨a,vs,_,rfl,rfl,h3,by rw[h4.length];exact h7,q _ (h4.append (.cons z .nil))⟩
 ·cases h6
theorem Hr{x:Str}{p' apos bY:Pos}(i:Nat)(hN:X.N[i]?=some x:=by rfl)(hv:uq X.env.scope x:=by first|exact Or.inl rfl|exact Or.inr (Or.inl rfl)|exact Or.inr (Or.inr rfl))(hd:(x==("__debug__" :Str))=false:=by decide)
  (j0:(x==("__classdict__" :Str))=false:=by decide)(iF:attributeBase (.Name x p') "clear" X.env (eval (.Name x p') X.env)=eval (.Name x p') X.env:=by rfl)
  (hs:swapsWith (.Call (.Attribute (.Name x p') "clear" apos) [] [] bY) none pos.line X.env=pure false:=by rfl)(iG:(apos.endLine==bY.line)=true:=by rfl):
  DS X κ fr (.Expr (.Call (.Attribute (.Name x p') "clear" apos) [] [] bY) pos) (uK i Hd aO):=by
 refine⟨_,g0 (G5 z0t PySem.F.slot_list_clear PySem.F.type_list_clear G6 (dm hN hv hd j0) iF iG) hs,Hq i ?_⟩
 intro hH H a vs ws l xs l' Q s h3 h4 h5 h6 q
 cases h5 with
 |cons _ _=>cases h6
 |nil=>
  cases h6
  exact⟨a,vs,rfl,rfl,h3,q [] .nil⟩
end
def yk(K:PySem.W.Frag)(κ:Kl)(Gs:Hp)(A:Addr->Prop)(J:It)(ps:List PV):Prop:=
 ∀(i:Nat) (H2:Hp),aE Gs H2->(∀p,ps[i]?=some p->J.go i H2/\∀x H3,J.yld i H2 x H3->aE H2 H3/\∀B:Addr->Prop,(∀b,B b->H2 b≠none)->aE (hide A Gs) (hide B H2)->Rep K κ (hide B H3) x p)/\(ps.length<=i->J.stop i H2)
def DI(X:Cx)(κ:Kl)(tg iter:Expr)(f:eF):Prop:=∃wi,PI X tg iter wi/\∀{G A bo own ρ σ H ps Q},R X.K κ G A bo own ρ σ H->f ρ=some ps->(∀J H',aE H H'->yk X.K κ (Gu own ρ H') A J ps->Q J H')->wi σ H Q
def O8(X:Cx)(κ:Kl)(tg iter:Expr)(f:eF):Prop:=∃wi,PI X tg iter wi/\∀{G A bo own ρ σ H ps Q},R X.K κ G A bo own ρ σ H->f ρ=some ps->(∀J H',aE H H'->yk X.K κ H' (di A own ρ) J ps->Q J H')->wi σ H Q
def DG(X:Cx)(κ:Kl)(tg:Expr)(g:uL):Prop:=∃tt,PG X tg tt/\∀{G A bo own ρ σ H p v ρ' Q},R X.K κ G A bo own ρ σ H->Rep X.K κ (dD A own ρ H) v p->g p ρ=some ρ'->(∀dQ σ',R X.K κ G A bo dQ ρ' σ' H->aE (dD A own ρ H) (dD A dQ ρ' H)->Q σ' H)->tt v σ H Q
section
variable{K:PySem.W.Frag}{κ:Kl}{Gs:Hp}{A:Addr->Prop}{a:Addr}{vs:List V}{l:List PV}
theorem wV(h:SL K Gs a vs)(q:aZ K κ (hide A Gs) vs l):yk K κ Gs A (VT K a) l:=λi H2 s=>by
 have h2:mK K H2 a vs:=(s.sl h).sq
 refine⟨λp e=>?_,λhl=>⟨vs,h2,by rw[q.length];exact hl⟩⟩
 obtain⟨v,e1,r1⟩:=q.get e
 refine⟨⟨vs,v,h2,e1⟩,λx H3 ⟨y1,y2⟩=>?_⟩
 subst y1
 have:=y2 vs h2
 rw[e1]at this
 cases this
 exact⟨aE.refl _,λB _ sb=>r1.mono sb⟩
theorem Hs(h:kM K Gs a vs)(q:aZ K κ (hide A Gs) vs l):yk K κ Gs A (VU K a) l:=λi H2 s=>by
 have h2:kM K H2 a vs:=qy s h
 refine⟨λp e=>?_,λhl=>⟨vs,h2,by rw[q.length];exact hl⟩⟩
 obtain⟨v,e1,r1⟩:=q.get e
 refine⟨⟨vs,v,h2,e1⟩,λx H3 ⟨y1,y2⟩=>?_⟩
 subst y1
 have:=y2 vs h2
 rw[e1]at this
 cases this
 exact⟨aE.refl _,λB _ sb=>r1.mono sb⟩
theorem B3{lo:Int}{n i:Nat}{p:PV}(h:(lq lo n)[i]?=some p):i<n/\p=.int (lo+(i:Nat)):=by
 unfold lq at h
 rw[z0f]at h
 obtain⟨k,h1,rfl⟩:=Zu.mp h
 obtain⟨h2,h3⟩:=z0C.mp h1
 rw[List.getElem_range]at h3
 subst h3
 exact⟨by simpa using h2,rfl⟩
theorem uP{lo:Int}{n:Nat}:yk K κ Gs A (Sg lo n) (lq lo n):=λi H2 s=>by
 refine⟨λp e=>?_,λhl=>show n<=i by simpa[lq]using hl⟩
 obtain⟨h1,rfl⟩:=B3 e
 refine⟨h1,λx H3 ⟨y1,y2⟩=>?_⟩
 subst y1 y2
 exact⟨aE.refl _,λB _ _=>.int _⟩
end
section
variable{X:Cx}{κ:Kl}{fr:Bool}{g:bE}{e a b c tg iter:Expr}{f fa fb:Den}{ft:de}{pos:Pos}{fi:eF}{gt gu:uL}{body:List Stmt}
theorem Ln{A:Addr->Prop}{own:Nat->Addr}{ρ:dO}{H:Hp}:aE (dD A own ρ H) (Gu own ρ H):=by
 rw[<-zW]
 exact aM
theorem DN(h:DE X κ e f):DI X κ tg e (nList f):=by
 obtain⟨te,h1,h2⟩:=h
 refine⟨_,Dj h1,λ{G A bo own ρ σ H ps Q} r e q=>?_⟩
 obtain⟨p,e1,e2⟩:=Zt.mp e
 refine h2 r e1 λv H' s z=>?_
 cases p<;>first|(cases e2;done)|skip
 cases e2
 cases z with
 |lst q1 q2=>exact⟨_,rfl,⟨_,((aM (A:=di A own ρ)).sl q1).sq⟩,q _ H' s (wV (Ln.sl q1) (by rw[zW];exact q2))⟩
theorem kP(h:DB X κ e f):O8 X κ tg e (nList f):=by
 obtain⟨te,h1,h2⟩:=h
 refine⟨_,Dj h1,λ{G A bo own ρ σ H ps Q} r e q=>?_⟩
 obtain⟨p,e1,e2⟩:=Zt.mp e
 refine h2 r e1 λv H' s z=>?_
 cases p<;>first|(cases e2;done)|skip
 cases e2
 obtain⟨a,vs,rfl,q1,q2⟩:=z.lst aM
 exact⟨_,rfl,⟨_,q1.sq⟩,q _ H' s (wV q1 q2)⟩
theorem Lo(h:DB X κ e f):O8 X κ tg e (OZ f):=by
 obtain⟨te,h1,h2⟩:=h
 refine⟨_,Oh h1,λ{G A bo own ρ σ H ps Q} r e q=>?_⟩
 obtain⟨p,e1,e2⟩:=Zt.mp e
 refine h2 r e1 λv H' s z=>?_
 cases p<;>first|(cases e2;done)|skip
 cases e2
 obtain⟨a,vs,rfl,q1,q2⟩:=z.tup aM
 exact⟨_,rfl,⟨_,q1⟩,q _ H' s (Hs q1 q2)⟩
theorem S9{K:PySem.W.Frag}{te:TE}(h2:S4 K κ te f){G A bo own ρ σ H ps}{Q:It->Hp->Prop}(r:R K κ G A bo own ρ σ H)(e:mR f ρ=some ps)(q:∀n H',aE H H'->ps=lq 0 n->Q (Sg 0 n) H'):MX (eU te kc) σ H Q:=by
 obtain⟨p,e1,e2⟩:=Zt.mp e
 obtain⟨j,e3,e4⟩:=Zt.mp e2
 obtain⟨h3,h4⟩:=cb e4
 simp only[zV,z0F,decide_eq_true_eq]at h3
 refine h2 r e1 λv H' s z=>?_
 cases p<;>first|(cases e3;done)|skip
 cases e3
 exact⟨_,by rw[z.int],h3.1,h3.2,q _ H' s h4.symm⟩
theorem DR{p pos:Pos}(h:DB X κ a f)(hm:X.mg "range" =none)(hg:Gl X "range" :=by rfl)(hs:starEach [a] X.env=[(false,eval a X.env)]:=by rfl):DI X κ tg (.Call (.Name "range" p) [a] [] pos) (mR f):=by
 obtain⟨te,h1,h2⟩:=h
 exact⟨_,wF hg hm (aG h1 bG hs) hs,λ{G A bo own ρ σ H ps Q} r e q=>S9 h2 r e λn H' s e'=>q _ H' s (by rw[e'];exact uP)⟩
theorem Ht{p pos:Pos}(h:DB X κ a f)(hm:X.mg "range" =none)(hg:Gl X "range" :=by rfl)(hs:starEach [a] X.env=[(false,eval a X.env)]:=by rfl):O8 X κ tg (.Call (.Name "range" p) [a] [] pos) (mR f):=by
 obtain⟨te,h1,h2⟩:=h
 exact⟨_,wF hg hm (aG h1 bG hs) hs,λ{G A bo own ρ σ H ps Q} r e q=>S9 h2 r e λn H' s e'=>q _ H' s (by rw[e'];exact uP)⟩
theorem i9(i:Nat){x:Str}(hN:X.N.Nodup)(hi:X.N[i]?=some x:=by rfl)(hx:Loc X.env.scope x:=by first|exact Or.inl rfl|exact Or.inr rfl)(hf:X.fn x=true\/X.env.scope.names.lookup x=some .local:=by first|exact .inl rfl|exact .inr rfl):DG X κ (.Name x pos) (dF i):=
 ⟨_,xP hN hi hx hf,λ{G A bo own ρ σ H p v ρ' Q} r z e q=>by cases e;exact q _ _ (r.set z) oo⟩
theorem Lp{k:Nat}(ha:DG X κ a gt)(hb:DG X κ b gu)(hc:X.calm=true:=by rfl)(hs:(assignEach [a,b] X.env).map (·.2)=assign a X.env::(assignEach [b] X.env).map (·.2):=by rfl)(o9:(assignEach [b] X.env).map (·.2)=assign b X.env::(assignEach [] X.env).map (·.2):=by rfl)
  (hn:(assignEach [a,b] X.env).length=2:=by rfl)(kJ:(assignEach [a,b] X.env).findIdx? (·.1)=none:=by rfl):DG X κ (.Tuple [a,b] k pos) (rS gt gu):=by
 obtain⟨ta,h1,h2⟩:=ha
 obtain⟨tb,h3,h4⟩:=hb
 refine⟨_,BF hc (mM h1 (mM h3 xQ o9) hs) hn kJ,λ{G A bo own ρ σ H p v ρ' Q} r z e q=>?_⟩
 unfold rS at e
 split at e
 ·rename_i x y
  obtain⟨ρ1,e1,e2⟩:=Zt.mp e
  cases z with
  |tup q1 q2=>
   cases q2 with
   |cons r1 q2=>
    cases q2 with
    |cons r2 q2=>
     cases q2
     refine⟨_,_,rfl,qy (aM (A:=di A own ρ)) q1,rfl,_,_,rfl,h2 r r1 e1 λdQ σ' r' s'=>?_⟩
     exact⟨_,_,rfl,h4 r' (r2.mono s') e2 λuQ σ2 r3 s3=>⟨rfl,q uQ σ2 r3 (s'.trans s3)⟩⟩
 ·cases e
end
section
variable{K:PySem.W.Frag}{κ:Kl}{fr:Bool}{gb:bE}{ft:de}{gt:uL}{fi:eF}
theorem E6{g:uL}{body:bE}{x:PV}{xs:List PV}{ρ:dO}{fl:Fl}(h:forL g body (x::xs) ρ=some fl):∃ρ1 f,g x ρ=some ρ1/\body ρ1=some f/\(match f with
  |.nx ρ'=>forL g body xs ρ'
  |.ct ρ'=>forL g body xs ρ'
  |.bk ρ'=>some (.nx ρ')
  |.rt p=>some (.rt p))=some fl:=by
 unfold forL at h
 obtain⟨ρ1,e1,e2⟩:=Zt.mp h
 obtain⟨f,e3,e4⟩:=Zt.mp e2
 exact⟨ρ1,f,e1,e3,e4⟩
theorem E7{J:It}{ps:List PV}{G:Hp}{A:Addr->Prop}{bo:Nat->Option (Addr×List V)}{tg:TG}{tb:TS}{D:Ends}{own:Nat->Addr}{ρ:dO}{σ:St}{H:Hp}{fl:Fl}
  (hI:yk K κ G A J ps)(hg:∀{own ρ σ H p v ρ' Q},R K κ G A bo own ρ σ H->Rep K κ (dD A own ρ H) v p->gt p ρ=some ρ'->(∀dQ σ',R K κ G A bo dQ ρ' σ' H->aE (dD A own ρ H) (dD A dQ ρ' H)->Q σ' H)->tg v σ H Q)
  (hb:KC K κ fr tb gb)(r:R K κ G A bo own ρ σ H)(e:forL gt gb ps ρ=some fl)(k:Hm K κ fr G A bo D fl):
  ∃W:Nat->Nat->St->Hp->Prop,(∃m,W 0 m σ H)/\∀i m σ H,W i m σ H->
   (J.stop i H/\D.nx σ H)\/(J.go i H/\∃N:St->Hp->Prop,(∀σ' H',N σ' H'->∃m',m'<m/\W (i+1) m' σ' H')/\∀x H',J.yld i H x H'->tg x σ H' λσ2 H2=>tb {D with nx:=N,ct:=N,bk:=D.nx} σ2 H2):=by
 refine⟨λi m σ H=>m=ps.length-i/\i<=ps.length/\∃own ρ,R K κ G A bo own ρ σ H/\forL gt gb (ps.drop i) ρ=some fl,⟨ps.length,by simp,z0S _,own,ρ,r,by simpa using e⟩,?_⟩
 rintro i m σ H ⟨rfl,hi,own,ρ,r,e⟩
 obtain⟨h1,h2⟩:=hI i H r.same
 by_cases tM:i<ps.length
 ·rw[z1B tM]at e
  obtain⟨ρ1,f,e1,e3,e4⟩:=E6 e
  obtain⟨h3,h4⟩:=h1 ps[i] (z0G tM)
  refine .inr ⟨h3,λσ' H'=>i+1<=ps.length/\∃own ρ,R K κ G A bo own ρ σ' H'/\forL gt gb (ps.drop (i+1)) ρ=some fl,λσ' H' ⟨q0,q⟩=>⟨ps.length-(i+1),by omega,rfl,q0,q⟩,λx H' y=>?_⟩
  obtain⟨s,q⟩:=h4 x H' y
  have r1:=r.mono s
  refine hg r1 (q (di A own ρ) (λb hb=>r.Hf hb) r.Lg) e1 λdQ σ' r2 _=>?_
  refine hb r2 e3 ?_
  cases f with
  |nx ρ'=>exact λuQ σ2 H2 r3=>⟨tM,uQ,ρ',r3,e4⟩
  |ct ρ'=>exact λuQ σ2 H2 r3=>⟨tM,uQ,ρ',r3,e4⟩
  |bk ρ'=>cases e4;exact k
  |rt p=>cases e4;exact k
 ·have hn:ps.drop i=[]:=z0v (by omega)
  rw[hn]at e
  cases e
  exact .inl ⟨h2 (by omega),k own σ H r⟩
theorem Hm.small{G G':Hp}{A:Addr->Prop}{bo:Nat->Option (Addr×List V)}{D:Ends}{fl:Fl}(k:Hm K κ fr G A bo D fl)(s:aE G G')(al:∀b,A b->G b≠none)(bg:∀i a vs,bo i=some (a,vs)->G a=some (.lst vs)):Hm K κ fr G' A bo D fl:=by
 cases fl with
 |nx ρ'=>exact λdQ σ' H' r=>k dQ σ' H' (r.small s al bg)
 |bk ρ'=>exact λdQ σ' H' r=>k dQ σ' H' (r.small s al bg)
 |ct ρ'=>exact λdQ σ' H' r=>k dQ σ' H' (r.small s al bg)
 |rt p=>
  intro v H' s' q
  refine k v H' (s.trans s') ?_
  unfold RR at q⊢
  split
  ·rename_i h
   rw[if_pos h]at q
   exact Wv q s λb z=>z
  ·rename_i h
   rw[if_neg h]at q
   exact q
end
section
variable{X:Cx}{κ:Kl}{fr:Bool}{g:bE}{e a b c tg iter:Expr}{f fa fb:Den}{ft:de}{pos:Pos}{fi:eF}{gt gu:uL}{body:List Stmt}
theorem uR(hi:DI X κ tg iter fi)(hg:DG X κ tg gt)(hb:GA X κ fr body g)(hp:PassesOwn (model X.prog X.w) X.A X.env X.xe:=by exact PassesOwn.never)(hc:X.calm=true:=by rfl)(hs:∀x,foldedSetIterable iter X.env x=pure x:=by intro _;rfl):DS X κ fr (.For tg iter body [] pos) (ye fi gt g):=by
 obtain⟨wi,h1,h2⟩:=hi
 obtain⟨tt,h3,h4⟩:=hg
 obtain⟨tb,h5,h6⟩:=hb
 refine⟨_,Oi hp hc h1 h3 h5 hs,λ{G A bo own ρ σ H fl D} r e k=>?_⟩
 obtain⟨ps,e1,e2⟩:=Zt.mp e
 refine h2 r e1 λJ H' s hI=>?_
 have r1:=r.mono s
 exact E7 hI h4 h6 r1.big e2 (k.small r1.gv r1.al r1.bg)
theorem zY(n:Nat)(hc:DT X κ c ft)(hb:GA X κ fr body g)(hp:PassesOwn (model X.prog X.w) X.A X.env X.xe:=by exact PassesOwn.never):DS X κ fr (.While c body [] pos) (gN ft g n):=by
 obtain⟨tc,h1,h2⟩:=hc
 obtain⟨tb,h3,h4⟩:=hb
 refine⟨_,ql hp h1 h3,λ{G A bo own ρ σ H fl D} r e k=>?_⟩
 refine⟨λm σ H=>∃own ρ,R X.K κ G A bo own ρ σ H/\gN ft g m ρ=some fl,⟨n,own,ρ,r,e⟩,?_⟩
 rintro m σ H ⟨own,ρ,r,e⟩
 cases m with
 |zero=>cases e
 |succ m=>
  unfold gN at e
  obtain⟨c,e1,e2⟩:=Zt.mp e
  refine h2 r e1 λH1 s1=>?_
  cases c with
  |false=>
   cases e2
   exact k own σ H1 (r.mono s1)
  |true=>
   obtain⟨f,e3,e4⟩:=Zt.mp e2
   refine⟨λσ' H'=>∃own ρ,R X.K κ G A bo own ρ σ' H'/\gN ft g m ρ=some fl,λσ' H' q=>⟨m,z1E m,q⟩,?_⟩
   refine h4 (r.mono s1) e3 ?_
   cases f with
   |nx ρ'=>exact λuQ σ2 H2 r3=>⟨uQ,ρ',r3,e4⟩
   |ct ρ'=>exact λuQ σ2 H2 r3=>⟨uQ,ρ',r3,e4⟩
   |bk ρ'=>cases e4;exact k
   |rt p=>cases e4;exact k
end
def Ta(K:PySem.W.Frag)(κ:Kl)(f:Den):TE:=λσ H Q=>∃G A bo own ρ p,R K κ G A bo own ρ σ H/\f ρ=some p/\∀v H',aE H H'->Rep K κ (dD A own ρ H') v p->Q v H'
def Tb(K:PySem.W.Frag)(κ:Kl)(f:de):TT:=λσ H Q=>∃G A bo own ρ b,R K κ G A bo own ρ σ H/\f ρ=some b/\∀H',aE H H'->Q b H'
theorem DE.pe{X:Cx}{κ:Kl}{e:Expr}{f:Den}(h:DE X κ e f):PE X e (Ta X.K κ f):=λpins s σ H Q I ⟨_,_,_,_,_,_,r,e,q⟩=>let⟨_,h1,h2⟩:=h;h1 pins s σ H Q I (h2 r e q)
theorem DT.pt{X:Cx}{κ:Kl}{e:Expr}{f:de}(h:DT X κ e f):PT X e (Tb X.K κ f):=λpins s σ H Q I ⟨_,_,_,_,_,_,r,e,q⟩=>let⟨_,h1,h2⟩:=h;h1 pins s σ H Q I (h2 r e q)
def Wy{α:Type}(f:Nat->α)(d:α):Nat->α
 |0=>d
 |i+1=>f i
section
variable{K:PySem.W.Frag}{κ:Kl}{G H:Hp}{A:Addr->Prop}{bo:Nat->Option (Addr×List V)}{own:Nat->Addr}{ρ:dO}{σ:St}{v:V}{p:PV}
theorem ou:di A (Wy own 0) (.sh p::ρ)=di A own ρ:=by
 funext b
 refine propext ⟨λz=>?_,λz=>?_⟩
 ·rcases z with z|⟨j,m,z1,z2⟩
  ·exact .inl z
  ·cases j with
   |zero=>simp at z1
   |succ j=>exact .inr ⟨j,m,by simpa using z1,z2⟩
 ·rcases z with z|⟨j,m,z1,z2⟩
  ·exact .inl z
  ·exact .inr ⟨j+1,m,by simpa using z1,z2⟩
theorem R.cons(r:R K κ G A bo own ρ σ H)(z:Rep K κ (dD A own ρ H) v p):R K κ G A (Wy bo none) (Wy own 0) (.sh p::ρ) (some v::σ) H where
 al:=r.al
 bg:=λi a vs e=>by
  cases i with
  |zero=>cases e
  |succ i=>exact r.bg i a vs e
 same:=r.same
 sh:=λi q e=>by
  rw[dD,ou]
  cases i with
  |zero=>
   simp at e
   subst e
   exact⟨v,rfl,z⟩
  |succ i=>exact r.sh i q (by simpa using e)
 ow:=λi l e=>by
  rw[dD,ou]
  cases i with
  |zero=>simp at e
  |succ i=>exact r.ow i l (by simpa using e)
 inj:=λi j l m e f q=>by
  cases i with
  |zero=>simp at e
  |succ i=>
   cases j with
   |zero=>simp at f
   |succ j=>rw[r.inj i j l m (by simpa using e) (by simpa using f) q]
 bw:=λi l e=>by
  rw[dD,ou]
  cases i with
  |zero=>simp at e
  |succ i=>exact r.bw i l (by simpa using e)
 len:=by rw[Wk,Wk,r.len]
theorem uS{wi:TI}{fi:eF}{c:de}{e:Den}(hi:∀{G A bo own ρ σ H ps Q},R K κ G A bo own ρ σ H->fi ρ=some ps->(∀J H',aE H H'->yk K κ H' (di A own ρ) J ps->Q J H')->wi σ H Q):
  Yd K κ (G9 wi (Tb K κ c) (Ta K κ e)) (eI fi c e):=λ{G A bo own ρ σ H p Q} r e0 q=>by
 obtain⟨ps,e1,e2⟩:=Zt.mp e0
 have h0:ps.length<=sizeLine/\(jQ c e ρ ps).map PV.lst=some p:=by
  split at e2
  ·exact⟨by assumption,e2⟩
  ·cases e2
 obtain⟨zs,e3,rfl⟩:=Zu.mp h0.2
 refine hi r e1 λJ H1 s1 hI=>?_
 refine⟨λi m acc H2=>m=ps.length-i/\i<=ps.length/\aE H1 H2/\acc.length<=i/\∃out rest,aZ K κ (dD A own ρ H2) acc out/\jQ c e ρ (ps.drop i)=some rest/\out++rest=zs,
  ⟨ps.length,by simp,z0S _,aE.refl _,z0S _,[],zs,.nil,by simpa using e3,rfl⟩,?_⟩
 rintro i m acc H2 ⟨rfl,Yg,s2,ha,out,rest,q1,q2,q3⟩
 obtain⟨h1,h2⟩:=hI i H2 s2
 have Nc:=s1.trans s2
 have r2:=r.mono Nc
 by_cases tM:i<ps.length
 ·rw[z1B tM]at q2
  obtain⟨h3,h4⟩:=h1 ps[i] (z0G tM)
  refine .inr ⟨h3,by omega,λy H3 hy=>?_⟩
  obtain⟨s3,q4⟩:=h4 y H3 hy
  have rep:=q4 (di A own ρ) (λb hb=>r2.Hf hb) (aV s2)
  have r3:=(r2.mono s3).cons rep
  unfold jQ at q2
  obtain⟨b,e4,e5⟩:=Zt.mp q2
  refine⟨_,_,_,_,_,_,r3,e4,λH4 s4=>?_⟩
  have r4:=r3.mono s4
  cases b with
  |true=>
   dsimp only
   rw[if_pos rfl]at e5⊢
   obtain⟨z,e6,e7⟩:=Zt.mp e5
   obtain⟨ws,e8,rfl⟩:=Zu.mp e7
   refine⟨_,_,_,_,_,_,r4,e6,λv H5 s5 q5=>?_⟩
   rw[dD,ou]at q5
   refine⟨ps.length-(i+1),by omega,rfl,tM,((s2.trans s3).trans s4).trans s5,by simp;omega,out++[z],ws,?_,e8,by rw[<-q3];simp⟩
   exact(q1.mono (aV ((s3.trans s4).trans s5))).append (.cons q5 .nil)
  |false=>
   dsimp only
   rw[if_neg z0J]at e5⊢
   exact⟨ps.length-(i+1),by omega,rfl,tM,(s2.trans s3).trans s4,by omega,out,rest,q1.mono (aV (s3.trans s4)),e5,q3⟩
 ·have hn:ps.drop i=[]:=z0v (by omega)
  rw[hn]at q2
  cases q2
  rw[z0Y]at q3
  subst q3
  refine .inl ⟨h2 (by omega),λp hp=>q _ _ (Nc.trans (bM hp)) ?_⟩
  obtain⟨a,ws,l,w1,w2,w3,w4⟩:=r2.zX hp q1
  refine⟨a,ws,l,w1,w2,?_,w4⟩
  cases w1
  exact Nc.free hp
end
section
variable{X:Cx}{κ:Kl}{fr:Bool}{sc:Scope}{x:Str}{px pos:Pos}{elt iter c:Expr}{fi:eF}{ft:de}{f:Den}
theorem lE(hi:O8 X κ (.Name x px) iter fi)(zP:Scope)(N0 ys:List Str)(he:∀ex C s H,DE (X.tL sc x ys ex C s H) κ elt f)(Hu:X.env.scope=zP:=by rfl)(Tc:X.N=N0:=by rfl)(Gx:pd zP N0 sc x ys=true:=by decide+kernel)(hc:X.calm=true:=by rfl)
  (hs:∀x,foldedSetIterable iter X.env x=pure x:=by intro _;rfl):DO X κ (.ListComp elt [⟨.Name x px,iter,[],0⟩] sc pos) (eI fi eY f):=by
 obtain⟨wi,h1,h2⟩:=hi
 refine⟨_,Lc h1 ys (tt:=Tb X.K κ eY) (te:=Ta X.K κ f) (λex C s H=>?_) (λex C s H=>(he ex C s H).pe) (by rw[Hu,Tc];exact Gx) hc hs,uS h2⟩
 intro pins s σ H Q I ⟨_,_,_,_,_,_,r,e,q⟩
 cases e
 exact zQ pins s σ H Q I (q _ (aE.refl _))
theorem E8(i:Nat){y:Str}{py zS:Pos}(hN:X.N.Nodup)(hi:O8 X κ (.Name x px) iter fi)(zP:Scope)(N0 ys:List Str)(ht:∀ex C s H,DT (X.tL sc x ys ex C s H) κ c ft)(he:∀ex C s H,DE (X.tL sc x ys ex C s H) κ elt f)(OX:X.N[i]?=some y:=by rfl)(hy:X.env.scope.names.lookup y=some .local:=by rfl)(Hu:X.env.scope=zP:=by rfl)(Tc:X.N=N0:=by rfl)(Gx:pd zP N0 sc x ys=true:=by decide+kernel)(hc:X.calm=true:=by rfl)
  (hs:∀x,foldedSetIterable iter X.env x=pure x:=by intro _;rfl)(OY:swapsWith (.ListComp elt [⟨.Name x px,iter,[c],0⟩] sc pos) (some (.Name y py)) zS.line X.env=pure true:=by rfl):
  DS X κ fr (.Assign [.Name y py] (.ListComp elt [⟨.Name x px,iter,[c],0⟩] sc pos) zS) (b9 i (eI fi ft f)):=by
 obtain⟨wi,h1,h2⟩:=hi
 refine⟨_,Dz hN OX hy h1 ys (tt:=Tb X.K κ ft) (te:=Ta X.K κ f) (λex C s H=>G8 (ht ex C s H).pt) (λex C s H=>(he ex C s H).pe) (by rw[Hu,Tc];exact Gx) hc hs OY,λ{G A bo own ρ σ H fl D} r e k=>?_⟩
 obtain⟨p,e1,rfl⟩:=Zu.mp e
 exact uS h2 r e1 λv H' s z=>k _ _ _ ((r.mono s).set (z.rep r))
end
def hR(K:PySem.W.Frag)(κ:Kl)(fr:Bool)(F:List PV->Option PV):Sp:=λvs H Q _=>∃(A:Addr->Prop) (ps:List PV) (p:PV),(∀b,A b->H b≠none)/\aZ K κ (hide A H) vs ps/\F ps=some p/\∀v H',aE H H'->RR fr K κ A H H' v p->Q v H'
section
variable{X:Cx}{κ:Kl}{fr:Bool}{k:Nat}{f:Addr}{fd:FuncData}{ps:List Str}{F:List PV->Option PV}{x:Str}{p pos:Pos}{e:Expr}{es:List Expr}{fs:eF}
theorem bO(FO:aK X.prog X.w X.K X.mg X.base cX k f fd ps (hR X.K κ false F))(hr:c8 k X.A)(hm:X.mg x=some (.ref f))(hk:PySem.W.keepIn X.K (.ref f)=true)(hb:Binds X.K fd ps [])(ha:DA X κ (e::es) fs)(hg:Gl X x:=by rfl)(mO:(x==("__debug__" :Str))=false:=by decide)
  (he:starEach (e::es) X.env=(false,eval e X.env)::starEach es X.env:=by rfl)(hpl:(backTo pos (starEach es X.env)).any (·.1)=false:=by rfl):DE X κ (.Call (.Name x p) (e::es) [] pos) (bP F fs):=by
 obtain⟨ta,h1,h2⟩:=ha
 refine⟨_,lg FO hr hg hm hk hb .nil jy h1 mO he hpl,λ{G A bo own ρ σ H p Q} r e q=>?_⟩
 obtain⟨xs,e1,e2⟩:=Zt.mp e
 refine h2 r e1 λvs H1 s1 z1=>?_
 rw[z0Y]
 exact⟨di A own ρ,xs,p,λb hb=>(r.mono s1).Hf hb,z1,e2,λv H' s z=>q v H' (s1.trans s) z⟩
theorem Lq(FO:aK X.prog X.w X.K X.mg X.base cX k f fd ps (hR X.K κ true F))(hr:c8 k X.A)(hm:X.mg x=some (.ref f))(hk:PySem.W.keepIn X.K (.ref f)=true)(hb:Binds X.K fd ps [])(ha:DA X κ (e::es) fs)(hg:Gl X x:=by rfl)(mO:(x==("__debug__" :Str))=false:=by decide)
  (he:starEach (e::es) X.env=(false,eval e X.env)::starEach es X.env:=by rfl)(hpl:(backTo pos (starEach es X.env)).any (·.1)=false:=by rfl):DO X κ (.Call (.Name x p) (e::es) [] pos) (bP F fs):=by
 obtain⟨ta,h1,h2⟩:=ha
 refine⟨_,lg FO hr hg hm hk hb .nil jy h1 mO he hpl,λ{G A bo own ρ σ H p Q} r e q=>?_⟩
 obtain⟨xs,e1,e2⟩:=Zt.mp e
 refine h2 r e1 λvs H1 s1 z1=>?_
 rw[z0Y]
 exact⟨di A own ρ,xs,p,λb hb=>(r.mono s1).Hf hb,z1,e2,λv H' s z=>q v H' (s1.trans s) (Wv z s1 λb w=>w)⟩
end
section
variable{P:Program}{w:World}{K:PySem.W.Frag}{mg:Str->Option Value}{base:Heap}{κ:Kl}{fr:Bool}
theorem pj{n:Nat}{ps:List PV}{i:Nat}{s:Slot}(h:(ig n ps)[i]?=some s):(∃p,ps[i]?=some p/\s=.sh p)\/s=.un:=by
 unfold ig at h
 rw[z1h]at h
 split at h
 ·rw[z0f]at h
  obtain⟨p,h1,h2⟩:=Zu.mp h
  exact .inl ⟨p,h1,h2.symm⟩
 ·rw[z1K]at h
  split at h
  ·exact .inr (z0O h).symm
  ·cases h
theorem R.entry{A:Addr->Prop}{H:Hp}{N:List Str}{vs:List V}{ps:List PV}(al:∀b,A b->H b≠none)(h:aZ K κ (hide A H) vs ps):R K κ H A (λ_=>none) (λ_=>0) (ig N.length ps) (start N vs) H:=by
 have no:∀{i:Nat} {l:Cn},(ig N.length ps)[i]?≠some (.own l):=λ{i l} e=>by
  rcases pj e with⟨p,_,z⟩|z<;>cases z
 have he:di A (λ_=>0) (ig N.length ps)=A:=by
  funext b
  refine propext ⟨λz=>?_,.inl⟩
  rcases z with z|⟨j,m,z1,z2⟩
  ·exact z
  ·exact absurd z1 no
 refine⟨al,λi a vs e=>(by cases e),λ_ _ z=>z,λi p e=>?_,λi l e=>absurd e no,λi j l m e=>absurd e no,λi l e=>?_,?_⟩
 ·rcases pj e with⟨p',h1,z⟩|z
  ·cases z
   obtain⟨v,h2,h3⟩:=h.get h1
   refine⟨v,?_,by rw[dD,he];exact h3⟩
   unfold start
   rw[z1A (by rw[X6];exact(z0C.mp h2).1),z0f,h2]
   rfl
  ·cases z
 ·rcases pj e with⟨p,_,z⟩|z<;>cases z
 ·unfold start ig
  simp[h.length]
theorem cA{x qual:Str}{st:Stmt}{f:Addr}{fd:FuncData}{N ps:List Str}{k:Nat}{g:bE}(F:rQ K x qual st f fd)(S:aU N ps (ao st))
  (hb:∀(cR:Value) (A:Around) (outer:List Env) (s:Shared) (H:Hp) (E:XK),c8 k (A.deeper (envOfC qual (ao st) s.heap.objs.size f cR))->GA (lh cX P w K mg base N qual (ao st) f cR A outer s H E).Kw κ fr (iH st) g):
  aK P w K mg base cX (k+1) f fd ps (hR K κ fr (fn fr N.length ps.length g)):=by
 refine F.ok S (λvs H Q E h=>?_) (λcR A outer s H vs Q E hr h=>?_)
 ·obtain⟨A,qs,p,_,h1,h2,_⟩:=h
  unfold fn at h2
  split at h2
  ·rw[h1.length]
   assumption
  ·cases h2
 ·obtain⟨A',qs,p,al,h1,h2,q⟩:=h
  obtain⟨ts,a1,a2⟩:=hb cR A outer s H E hr
  refine⟨ts,a1,?_⟩
  have h3:(g (ig N.length qs)).bind (O0 fr)=some p:=by
   unfold fn at h2
   split at h2
   ·exact h2
   ·cases h2
  obtain⟨fl,e1,e2⟩:=Zt.mp h3
  refine a2 (R.entry al h1) e1 ?_
  cases fl with
  |rt p'=>cases e2;exact q
  |nx ρ'=>
   cases fr with
   |true=>cases e2
   |false=>
    cases e2
    exact λdQ σ' H' r'=>q _ _ r'.same .non
  |bk ρ'=>cases e2
  |ct ρ'=>cases e2
end
end L2.D
namespace L2.D
open PySem PySem.Spec PyProof.Rows PySem.SeqAt
open Classical
section
variable{X:Cx}{pins:List (Addr×Obj)}{σ:St}{H:Hp}{s:Shared}{κ:Kl}
theorem mT{f:PV->PV->Option Bool}:∀{l m:List PV} {es:List Bool},tN f l m=some es->l.length=m.length->es.length=l.length
 |[],[],_,h,_=>by cases h;rfl
 |a::l,b::m,es,h,e=>by
  unfold tN at h
  obtain⟨c,h1,h2⟩:=Zt.mp h
  obtain⟨cs,h3,rfl⟩:=Zu.mp h2
  simp[mT h3 (by simpa using e)]
theorem qB{f:PV->PV->Option Bool}:∀{l m:List PV} {es:List Bool} {j:Nat} {p q:PV},tN f l m=some es->l[j]?=some p->m[j]?=some q->∃e,es[j]?=some e/\f p q=some e
 |[],_,_,_,_,_,_,hp,_=>by simp at hp
 |_::_,[],_,_,_,_,_,_,hq=>by simp at hq
 |a::l,b::m,es,0,p,q,h,hp,hq=>by
  unfold tN at h
  obtain⟨c,h1,h2⟩:=Zt.mp h
  obtain⟨cs,h3,rfl⟩:=Zu.mp h2
  simp at hp hq
  subst hp hq
  exact⟨c,rfl,h1⟩
 |a::l,b::m,es,j+1,p,q,h,hp,hq=>by
  unfold tN at h
  obtain⟨c,h1,h2⟩:=Zt.mp h
  obtain⟨cs,h3,rfl⟩:=Zu.mp h2
  obtain⟨e,h4,h5⟩:=qB (j:=j) h3 (by simpa using hp) (by simpa using hq)
  exact⟨e,by simpa using h4,h5⟩
theorem Hv:∀(n:Nat) (p:PV) (b:Bool),mG n p p=some b->b=true:=by
 intro n
 induction n with
 |zero=>
  intro p b h
  unfold mG at h
  cases p<;>simp[flat,Kz]at h<;>exact h
 |succ n ih=>
  have key:∀(l:List PV) (es:List Bool),tN (mG n) l l=some es->es.all id=true:=by
   intro l
   induction l with
   |nil=>intro es h;cases h;rfl
   |cons a l ZF=>
    intro es h
    unfold tN at h
    obtain⟨c,h1,h2⟩:=Zt.mp h
    obtain⟨cs,h3,rfl⟩:=Zu.mp h2
    simp[ih _ _ h1,ZF _ h3]
  intro p b h
  cases p with
  |lst l=>
   unfold mG DF at h
   rw[if_pos rfl]at h
   obtain⟨es,h1,rfl⟩:=Zu.mp h
   exact key l es h1
  |tup l=>
   unfold mG DF at h
   rw[if_pos rfl,if_pos rfl]at h
   obtain⟨es,h1,rfl⟩:=Zu.mp h
   exact key l es h1
  |_=>simp[mG,flat,Kz]at h<;>exact h
theorem Aa(I:Inv X pins σ H s){a:Addr}{xs ys:List V}(h:mK X.K H a xs)(h':kM X.K H a ys):False:=by
 obtain⟨_,_,p1,_⟩:=I.list h
 obtain⟨_,_,p2,_⟩:=I.tuple h'
 obtain⟨o,e1,c1,_⟩:=p1.isList
 obtain⟨o2,e2,c2,_⟩:=p2
 rw[e1]at e2
 cases e2
 rw[c1]at c2
 injection c2 with z
 exact absurd z (by decide)
mutual
theorem Rep.inj(I:Inv X pins σ H s):∀{v:V} {p q:PV},Rep X.K κ H v p->Rep X.K κ H v q->(∀n b,mG n p q=some b->p=q)
 |_,_,_,.non,.non=>λ_ _ _=>rfl
 |_,_,_,.bl _,.bl _=>λ_ _ _=>rfl
 |_,_,_,.int _,.int _=>λ_ _ _=>rfl
 |_,_,_,.str _,.str _=>λ_ _ _=>rfl
 |_,_,_,.lst h r,q=>λn b e=>by
  cases q with
  |lst h' r'=>
   have:=I.zI h.sq h'.sq
   subst this
   cases n with
   |zero=>simp[mG,flat]at e
   |succ n=>
    unfold mG DF at e
    split at e
    ·obtain⟨es,e1,_⟩:=Zu.mp e
     rw[aZ.inj I r r' n es e1]
    ·rename_i hl
     exact absurd (r.length.symm.trans r'.length) hl
  |tup h' _=>exact(Aa I h.sq h').elim
  |ins _ _ _=>cases n<;>simp[mG,flat]at e
 |_,_,_,.tup h r,q=>λn b e=>by
  cases q with
  |lst h' _=>exact(Aa I h'.sq h).elim
  |tup h' r'=>
   have:=I.wD h h'
   subst this
   cases n with
   |zero=>simp[mG,flat]at e
   |succ n=>
    unfold mG DF at e
    have hl:=r.length.symm.trans r'.length
    rw[if_pos hl,if_pos hl]at e
    obtain⟨es,e1,_⟩:=Zu.mp e
    rw[aZ.inj I r r' n es e1]
  |ins _ _ _=>cases n<;>simp[mG,flat]at e
 |_,_,_,.ins _ _ _,q=>λn b e=>by
  cases n<;>cases q<;>simp[mG,flat]at e
theorem aZ.inj(I:Inv X pins σ H s):∀{vs:List V} {l m:List PV},aZ X.K κ H vs l->aZ X.K κ H vs m->∀n es,tN (mG n) l m=some es->l=m
 |_,_,_,.nil,.nil=>λ_ _ _=>rfl
 |_,_,_,.cons r t,.cons r' t'=>λn es e=>by
  unfold tN at e
  obtain⟨c,h1,h2⟩:=Zt.mp e
  obtain⟨cs,h3,rfl⟩:=Zu.mp h2
  rw[Rep.inj I r r' n c h1,aZ.inj I t t' n cs h3]
end
theorem qC{es:List Bool}{n:Nat}(h:es.length=n):((List.range n).all λj=>es.getD j false)=es.all id:=by
 subst h
 exact range_all es
theorem Ab{A:Around}{a b:Addr}{xs ys:List V}(I:Inv X pins σ H s)(ha:kM X.K H a xs)(hb:kM X.K H b ys)(hl:xs.length=ys.length)(hu:A.units<cLine)(q:Nat->Bool)
  (hq:∀(j:Nat) x y u v,xs[j]?=some x->ys[j]?=some y->RelV x u->RelV y v->EqAt A.in1 s u v (q j)):RcAt A s (.ref a) (.ref b) ((List.range xs.length).all q):=by
 obtain⟨its,r1,p1,z1⟩:=I.tuple ha
 obtain⟨tJ,r2,p2,z2⟩:=I.tuple hb
 have l1:=r1.length
 have l2:=r2.length
 have:=RcAt.tuples (A:=A) (s:=s) (e:=q) (l:=a) (b:=b) p1 p2 hu λj h1 h2=>?_
 ·rw[X4,X4,<-l1,<-l2,<-hl,Nat.min_self,beq_self_eq_true,Bool.and_true]at this
  exact this
 ·rw[X4]at h1 h2
  obtain⟨x,hx⟩:∃x,xs[j]?=some x:=⟨xs[j],z0G (by omega)⟩
  obtain⟨y,hy⟩:∃y,ys[j]?=some y:=⟨ys[j],z0G (by omega)⟩
  obtain⟨u,e1,ru⟩:=r1.get hx
  obtain⟨v,e2,rv⟩:=r2.get hy
  have f1:its.toArray[j]=u:=by
   have:=(z0C.mp e1).2
   simpa using this
  have f2:tJ.toArray[j]=v:=by
   have:=(z0C.mp e2).2
   simpa using this
  rw[f1,f2]
  exact hq j x y u v hx hy ru rv
theorem DU{A:Around}{v w:V}{u u':Value}{p q:PV}(f:(flat p&&flat q)=true)(r1:Rep X.K κ H v p)(r2:Rep X.K κ H w q)(e1:RelV v u)(e2:RelV w u'):EqAt A s u u' (Kz p q):=by
 rw[z0F]at f
 have hv:jM v=true:=by cases r1<;>simp_all[flat,jM]
 have hw:jM w=true:=by cases r2<;>simp_all[flat,jM]
 have:Kz p q=Gy v w:=by cases r1<;>cases r2<;>simp_all[flat,Kz,Gy]
 rw[this]
 exact G2 e1 e2 hv hw
theorem Ac(I:Inv X pins σ H s):∀(n:Nat) {p q:PV} {v w:V} {u u':Value} {A:Around} {b:Bool},A.units+n<cLine->Rep X.K κ H v p->Rep X.K κ H w q->RelV v u->RelV w u'->mG n p q=some b->EqAt A s u u' b:=by
 intro n
 induction n with
 |zero=>
  intro p q v w u u' A b hu r1 r2 e1 e2 h
  unfold mG at h
  obtain⟨h1,rfl⟩:=cb h
  exact DU h1 r1 r2 e1 e2
 |succ n ih=>
  intro p q v w u u' A b hu r1 r2 e1 e2 h
  have Td:A.in1.units+n<cLine:=by
   have:A.in1.units=A.units+1:=rfl
   omega
  by_cases hf:(flat p&&flat q)=true
  ·have:mG (n+1) p q=some (Kz p q):=by
     cases p<;>cases q<;>simp_all[mG,flat]
   rw[this]at h
   cases h
   exact DU hf r1 r2 e1 e2
  ·by_cases O9:v=w
   ·subst O9
    have ZG:=Rep.inj I r1 r2 _ _ h
    subst ZG
    have hb:=Hv _ _ _ h
    subst hb
    cases r1 with
    |lst _ _=>cases e1;cases e2;exact EqAt.same _
    |tup _ _=>cases e1;cases e2;exact EqAt.same _
    |ins _ _ _=>cases e1;cases e2;exact EqAt.same _
    |_=>simp[flat]at hf
   ·have hr:∀{xs ys:List V} {l m:List PV} {es:List Bool},aZ X.K κ H xs l->aZ X.K κ H ys m->tN (mG n) l m=some es->∀(j:Nat) x y u v,xs[j]?=some x->ys[j]?=some y->RelV x u->RelV y v->EqAt A.in1 s u v (es.getD j false):=by
      intro xs ys l m es w1 w2 he j x y u v hx hy ru rv
      obtain⟨p1,g1,g2⟩:=w1.B0 hx
      obtain⟨p2,g3,g4⟩:=w2.B0 hy
      obtain⟨e,g5,g6⟩:=qB he g1 g3
      rw[z0i,g5]
      exact ih Td g2 g4 ru rv g6
    cases r1 with
    |@lst a vs l h1 w1=>
     cases q with
     |lst m=>
      cases r2 with
      |@lst b' Te _ h2 w2=>
       cases e1
       cases e2
       refine EqAt.of_refs (λz=>O9 (by rw[z])) ?_
       unfold mG DF at h
       split at h
       ·rename_i hl
        obtain⟨es,g1,rfl⟩:=Zu.mp h
        have g2:=mT g1 hl
        have:=zT I h1.sq h2.sq (A:=A) (by omega) (λj=>es.getD j false) (hr w1 w2 g1)
        rw[decide_eq_true (by rw[w1.length,w2.length];exact hl),z1o,qC (by rw[w1.length];exact g2)]at this
        exact this
       ·rename_i hl
        cases h
        obtain⟨its,k1,p1,z1⟩:=I.list h1.sq
        obtain⟨tJ,k2,p2,z2⟩:=I.list h2.sq
        have l1:=k1.length
        have l2:=k2.length
        have l3:=w1.length
        have l4:=w2.length
        exact RcAt.lists_lengths p1.isList p2.isList (by rw[X4,X4];simp;omega) (by omega)
     |_=>cases r2<;>simp[mG,flat]at h
    |@tup a vs l h1 w1=>
     cases q with
     |tup m=>
      cases r2 with
      |@tup b' Te _ h2 w2=>
       cases e1
       cases e2
       refine EqAt.of_refs (λz=>O9 (by rw[z])) ?_
       unfold mG DF at h
       split at h
       ·rename_i hl
        try rw[if_pos hl]at h
        obtain⟨es,g1,rfl⟩:=Zu.mp h
        have g2:=mT g1 hl
        have:=Ab I h1 h2 (A:=A) (by rw[w1.length,w2.length];exact hl) (by omega) (λj=>es.getD j false) (hr w1 w2 g1)
        rw[qC (by rw[w1.length];exact g2)]at this
        exact this
       ·cases h
     |_=>cases r2<;>simp[mG,flat]at h
    |ins _ _ _=>cases q<;>simp[mG,flat]at h
    |_=>cases r2<;>simp[mG,flat]at h hf
end
end L2.D
namespace L2.D
open PySem PySem.Spec PyProof.Rows PySem.SeqAt
open Classical
section
variable{X:Cx}{κ:Kl}{fr:Bool}{e a b c:Expr}{f fa fb fc:Den}{p pos:Pos}
def Tf(K:PySem.W.Frag)(κ:Kl)(neg:Bool):R2:=λx y H Q=>∃p q b,Rep K κ H x p/\Rep K κ H y q/\eqT p q=some b/\Q (.bl (if neg then !b else b)) H
theorem Ad{pins:List (Addr×Obj)}{σ:St}{H:Hp}{s:Shared}{A:Around}{a b:Addr}{vs ws:List V}{l m:List PV}{r:Bool}(I:Inv X pins σ H s)(hu:A.units+20<cLine)(h1:SL X.K H a vs)(w1:aZ X.K κ H vs l)(h2:SL X.K H b ws)(w2:aZ X.K κ H ws m)
  (h:mG 20 (.lst l) (.lst m)=some r):RcAt A s (.ref a) (.ref b) r/\RcNeAt A s (.ref a) (.ref b) (!r):=by
 unfold mG DF at h
 have Td:A.in1.units+19<cLine:=by
  have:A.in1.units=A.units+1:=rfl
  omega
 split at h
 ·rename_i hl
  obtain⟨es,g1,rfl⟩:=Zu.mp h
  have g2:=mT g1 hl
  have hr:∀(j:Nat) x y u v,vs[j]?=some x->ws[j]?=some y->RelV x u->RelV y v->EqAt A.in1 s u v (es.getD j false):=by
   intro j x y u v hx hy ru rv
   obtain⟨p1,k1,k2⟩:=w1.B0 hx
   obtain⟨p2,k3,k4⟩:=w2.B0 hy
   obtain⟨e,k5,k6⟩:=qB g1 k1 k3
   rw[z0i,k5]
   exact Ac I 19 Td k2 k4 ru rv k6
  have z1:=zT I h1.sq h2.sq (A:=A) (by omega) (λj=>es.getD j false) hr
  have z2:=BX I h1.sq h2.sq (A:=A) (by omega) (λj=>es.getD j false) hr
  rw[decide_eq_true (by rw[w1.length,w2.length];exact hl),z1o,qC (by rw[w1.length];exact g2)]at z1 z2
  exact⟨z1,z2⟩
 ·rename_i hl
  cases h
  obtain⟨its,k1,p1,z1⟩:=I.list h1.sq
  obtain⟨tJ,k2,p2,z2⟩:=I.list h2.sq
  have l1:=k1.length
  have l2:=k2.length
  have l3:=w1.length
  have l4:=w2.length
  exact⟨RcAt.lists_lengths p1.isList p2.isList (by rw[X4,X4];simp;omega) (by omega),RcNeAt.lists_lengths p1.isList p2.isList (by rw[X4,X4];simp;omega) (by omega)⟩
theorem Lr{pins:List (Addr×Obj)}{σ:St}{H:Hp}{s:Shared}{A:Around}{a b:Addr}{vs ws:List V}{l m:List PV}{r:Bool}(I:Inv X pins σ H s)(hu:A.units+20<cLine)(h1:kM X.K H a vs)(w1:aZ X.K κ H vs l)(h2:kM X.K H b ws)(w2:aZ X.K κ H ws m)
  (h:mG 20 (.tup l) (.tup m)=some r):RcAt A s (.ref a) (.ref b) r:=by
 unfold mG DF at h
 have Td:A.in1.units+19<cLine:=by
  have:A.in1.units=A.units+1:=rfl
  omega
 split at h
 ·rename_i hl
  try rw[if_pos hl]at h
  obtain⟨es,g1,rfl⟩:=Zu.mp h
  have g2:=mT g1 hl
  have hr:∀(j:Nat) x y u v,vs[j]?=some x->ws[j]?=some y->RelV x u->RelV y v->EqAt A.in1 s u v (es.getD j false):=by
   intro j x y u v hx hy ru rv
   obtain⟨p1,k1,k2⟩:=w1.B0 hx
   obtain⟨p2,k3,k4⟩:=w2.B0 hy
   obtain⟨e,k5,k6⟩:=qB g1 k1 k3
   rw[z0i,k5]
   exact Ac I 19 Td k2 k4 ru rv k6
  have z1:=Ab I h1 h2 (A:=A) (by rw[w1.length,w2.length];exact hl) (by omega) (λj=>es.getD j false) hr
  rw[qC (by rw[w1.length];exact g2)]at z1
  exact z1
 ·cases h
theorem Hw(hu:X.A.units+20<cLine):mF X (compareOp .Eq) (Tf X.K κ false):=by
 intro pins s σ H x y v u Q I rx ry h
 obtain⟨p,q,r,r1,r2,e,k⟩:=h
 cases p<;>cases q<;>first|cases e|skip
 all_goals first
  |(cases r1 with
   |lst h1 w1=>cases r2 with
    |lst h2 w2=>
     cases rx;cases ry
     exact(Ad I hu h1 w1 h2 w2 e).1 _ _ _ _ ⟨.bl r,H,I,rfl,k⟩)
  |(cases r1 with
   |tup h1 w1=>cases r2 with
    |tup h2 w2=>
     cases rx;cases ry
     exact Lr I hu h1 w1 h2 w2 e _ _ _ _ ⟨.bl r,H,I,rfl,k⟩)
  |(cases r1;cases r2;exact Sm pins s σ H _ _ v u Q I rx ry ⟨rfl,by simpa using k⟩)
theorem Hx(hu:X.A.units+20<cLine):mF X (compareOp .NotEq) (λx y H Q=>∃p q b,Rep X.K κ H x p/\Rep X.K κ H y q/\(∀l,p≠.tup l)/\eqT p q=some b/\Q (.bl (!b)) H):=by
 intro pins s σ H x y v u Q I rx ry h
 obtain⟨p,q,r,r1,r2,nt,e,k⟩:=h
 cases p<;>cases q<;>first|cases e|skip
 all_goals first
  |exact absurd rfl (nt _)
  |(cases r1 with
   |lst h1 w1=>cases r2 with
    |lst h2 w2=>
     cases rx;cases ry
     exact(Ad I hu h1 w1 h2 w2 e).2 _ _ _ _ ⟨.bl (!r),H,I,rfl,k⟩)
  |(cases r1;cases r2;exact Sn pins s σ H _ _ v u Q I rx ry ⟨rfl,by simpa using k⟩)
theorem Ls{A:Around}(h:A.units+64<cLine):A.units+20<cLine:=by omega
theorem dG{k:Nat}(hr:c8 k X.A)(ha:DB X κ a fa)(hb:DB X κ b fb):DC X κ .Eq a b (ae gM fa fb):=by
 obtain⟨ta,h1,h2⟩:=ha
 obtain⟨tb,h3,h4⟩:=hb
 refine⟨_,_,_,Hw (κ:=κ) (Ls hr.units),h1,h3,λ{G A bo own ρ σ H p Q} r e q=>?_⟩
 refine qA h2 h4 r e λx y p1 p2 H' s r' b1 b2 e'=>?_
 obtain⟨b,e1,rfl⟩:=Zu.mp e'
 exact⟨p1,p2,b,b1.full aM,b2.full aM,e1,q _ H' s (.bl _)⟩
theorem Hy{k:Nat}(hr:c8 k X.A)(ha:DB X κ a fa)(hb:DB X κ b fb):DC X κ .NotEq a b (ae tO fa fb):=by
 obtain⟨ta,h1,h2⟩:=ha
 obtain⟨tb,h3,h4⟩:=hb
 refine⟨_,_,_,Hx (κ:=κ) (Ls hr.units),h1,h3,λ{G A bo own ρ σ H p Q} r e q=>?_⟩
 refine qA h2 h4 r e λx y p1 p2 H' s r' b1 b2 e'=>?_
 have nt:∀l,p1≠.tup l:=λl z=>by rw[z]at e';cases e'
 have e2:Yc p1 p2=some p:=by cases p1<;>first|exact e'|exact absurd rfl (nt _)
 obtain⟨b,e1,rfl⟩:=Zu.mp e2
 exact⟨p1,p2,b,b1.full aM,b2.full aM,nt,e1,q _ H' s (.bl _)⟩
theorem Lu{K:PySem.W.Frag}{hH H:Hp}{x:V}{p:PV}(h:BR K κ hH H x p):E5 p=some (.bl (decide (x=.non))):=by
 rcases h with h|⟨a,vs,l,rfl,rfl,_⟩
 ·cases h<;>simp[E5]
 ·simp[E5]
theorem Hz{j pos'}(ha:DB X κ a fa):DC X κ .Is a (.Constant .none j pos') (bU E5 fa):=by
 obtain⟨ta,h1,h2⟩:=ha
 refine⟨_,_,_,OA,h1,xN,λ{G A bo own ρ σ H p Q} r e q=>?_⟩
 obtain⟨p1,e1,e2⟩:=Zt.mp e
 refine h2 r e1 λx H1 s1 b1=>?_
 rw[Lu b1]at e2
 cases e2
 exact⟨rfl,q _ H1 s1 (.bl _)⟩
theorem Nd{K:PySem.W.Frag}{H:Hp}:∀{vs:List V} {l:List PV},aZ K κ H vs l->l.all flat=true->vs.all jM=true
 |_,_,.nil,_=>rfl
 |_,_,.cons r t,h=>by
  rw[z1a,z0F]at h⊢
  refine⟨?_,Nd t h.2⟩
  cases r<;>simp_all[flat,jM]
theorem Tg{K:PySem.W.Frag}{H H':Hp}{v w:V}{p q:PV}(r1:Rep K κ H v p)(r2:Rep K κ H' w q)(f1:flat p=true)(f2:flat q=true):Kz p q=Gy v w:=by
 cases r1<;>cases r2<;>simp_all[flat,Kz,Gy]
theorem Nf{K:PySem.W.Frag}{H H':Hp}{v:V}{p:PV}(r:Rep K κ H v p)(f:flat p=true):∀{vs:List V} {l:List PV},aZ K κ H' vs l->l.all flat=true->uG p l=U3 v vs
 |_,_,.nil,_=>rfl
 |_,_,.cons r1 t,h=>by
  rw[z1a,z0F]at h
  have ih:=Nf r f t h.2
  unfold uG U3 at ih⊢
  rw[z1b,z1b,ih,Tg r1 r h.1 f]
theorem DV{neg:Bool}{K:PySem.W.Frag}{hH H':Hp}{x y:V}{p1 p2 p:PV}{Q:VK}(b1:BR K κ hH H' x p1)(b2:BR K κ hH H' y p2)(s:aE hH H')(e:(if neg then uH p1 p2 else SY p1 p2)=some p)(q:∀b,p=.bl b->Q (.bl b) H'):U4 K neg x y H' Q:=by
 have go:∀(l:List PV) (vs:List V) (a:Addr),y=.ref a->(mK K H' a vs\/kM K H' a vs)->aZ K κ hH vs l->(if(flat p1&&l.all flat)=true then some (PV.bl (if neg then !uG p1 l else uG p1 l))else none)=some p->U4 K neg x y H' Q:=by
  intro l vs a hy hs w e
  obtain⟨h1,h2⟩:=cb e
  rw[z0F]at h1
  have rx:=b1.full s
  refine⟨a,vs,hy,hs,?_,Nd w h1.2,?_⟩
  ·cases rx<;>simp_all[flat,jM]
  ·rw[Nf rx h1.1 w h1.2]at h2
   exact q _ h2.symm
 cases p2 with
 |lst l=>
  obtain⟨a,vs,rfl,q1,q2⟩:=b2.lst s
  exact go l vs a rfl (.inl q1.sq) q2 (by cases neg<;>exact e)
 |tup l=>
  obtain⟨a,vs,rfl,q1,q2⟩:=b2.tup s
  exact go l vs a rfl (.inr q1) q2 (by cases neg<;>exact e)
 |_=>cases neg<;>cases e
theorem Th(ha:DB X κ a fa)(hb:DB X κ b fb):DC X κ .In a b (ae SY fa fb):=by
 obtain⟨ta,h1,h2⟩:=ha
 obtain⟨tb,h3,h4⟩:=hb
 refine⟨_,_,_,E2,h1,h3,λ{G A bo own ρ σ H p Q} r e q=>?_⟩
 refine qA h2 h4 r e λx y p1 p2 H' s r' b1 b2 e'=>?_
 exact DV (neg:=false) b1 b2 aM e' λb z=>q _ H' s (by rw[z];exact .bl _)
theorem HB(ha:DB X κ a fa)(hb:DB X κ b fb):DC X κ .NotIn a b (ae uH fa fb):=by
 obtain⟨ta,h1,h2⟩:=ha
 obtain⟨tb,h3,h4⟩:=hb
 refine⟨_,_,_,xX,h1,h3,λ{G A bo own ρ σ H p Q} r e q=>?_⟩
 refine qA h2 h4 r e λx y p1 p2 H' s r' b1 b2 e'=>?_
 exact DV (neg:=true) b1 b2 aM e' λb z=>q _ H' s (by rw[z];exact .bl _)
theorem dR(ha:DB X κ a fa)(hm:X.mg "len" =none)(hg:Gl X "len" :=by rfl)(hs:starEach [a] X.env=(false,eval a X.env)::starEach [] X.env:=by rfl):DE X κ (.Call (.Name "len" p) [a] [] pos) (bU cL fa):=by
 obtain⟨ta,h1,h2⟩:=ha
 refine⟨_,je (qu.or xY) hg hm PySem.boot_len (aG h1 bG hs) (he:=hs),λ{G A bo own ρ σ H p Q} r e q=>?_⟩
 obtain⟨p1,e1,e2⟩:=Zt.mp e
 refine h2 r e1 λx H1 s1 b1=>?_
 cases p1<;>first|(cases e2;done)|skip
 ·obtain⟨z1,rfl⟩:=cb e2
  exact .inr ⟨_,by rw[b1.str],z1,q _ H1 s1 (.int _)⟩
 ·cases e2
  obtain⟨a,vs,rfl,q1,q2⟩:=b1.lst aM
  exact .inl ⟨a,vs,rfl,.inl q1.sq,q _ H1 s1 (by rw[q2.length];exact .int _)⟩
 ·cases e2
  obtain⟨a,vs,rfl,q1,q2⟩:=b1.tup aM
  exact .inl ⟨a,vs,rfl,.inr q1,q _ H1 s1 (by rw[q2.length];exact .int _)⟩
theorem DX(ha:DB X κ a fa)(hm:X.mg "list" =none)(hg:Gl X "list" :=by rfl)(hs:starEach [a] X.env=(false,eval a X.env)::starEach [] X.env:=by rfl):DO X κ (.Call (.Name "list" p) [a] [] pos) (bU wR fa):=by
 obtain⟨ta,h1,h2⟩:=ha
 refine⟨_,kN xZ hg hm PyProof.Rows.boot_list (aG h1 bG hs) (he:=hs),λ{G A bo own ρ σ H p Q} r e q=>?_⟩
 obtain⟨p1,e1,e2⟩:=Zt.mp e
 refine h2 r e1 λx H1 s1 b1=>?_
 have fin:∀{vs l n},H1 n=none->aZ X.K κ (dD A own ρ H1) vs l->p=.lst l->Q (.ref n) (upd H1 n (.lst vs)):=λ{vs l n} hn w z=>by
  subst z
  refine q _ _ (s1.trans (bM hn)) ?_
  obtain⟨a,ws,l,w1,w2,w3,w4⟩:=(r.mono s1).zX hn w
  refine⟨a,ws,l,w1,w2,?_,w4⟩
  cases w1
  exact s1.free hn
 cases p1<;>first|(cases e2;done)|skip
 ·obtain⟨a,vs,rfl,q1,q2⟩:=b1.lst aM
  exact⟨a,vs,rfl,.inl q1.sq,λn hn=>fin hn q2 (z0O e2).symm⟩
 ·obtain⟨a,vs,rfl,q1,q2⟩:=b1.tup aM
  exact⟨a,vs,rfl,.inr q1,λn hn=>fin hn q2 (z0O e2).symm⟩
theorem aZ.at{K:PySem.W.Frag}{H:Hp}{vs:List V}{l:List PV}{i:Int}{p:PV}(h:aZ K κ H vs l)(e:itemAt l i=some p):∃v,M3 vs i=some v/\Rep K κ H v p:=by
 obtain⟨j,e1,e2⟩:=Zt.mp e
 obtain⟨v,h1,h2⟩:=h.get e2
 refine⟨v,?_,h2⟩
 unfold M3
 rw[h.length]
 exact Zt.mpr ⟨j,e1,h1⟩
theorem cY(ha:DB X κ a fa)(hb:DB X κ b fb)(hs:xV b:=by intro _ _;rfl):DE X κ (.Subscript a b pos) (ae ie fa fb):=by
 obtain⟨ta,h1,h2⟩:=ha
 obtain⟨tb,h3,h4⟩:=hb
 refine⟨_,M4 OJ h1 h3 hs,λ{G A bo own ρ σ H p Q} r e q=>?_⟩
 refine qA h2 h4 r e λx y p1 p2 H' s r' b1 b2 e'=>?_
 (cases p1<;>first|(cases e';done)|skip)<;>cases p2<;>first|(cases e';done)|skip
 ·rename_i x' i'
  have e3:(if x'.length<=sizeLine then(itemAt x'.cps.toList i').map λc=>PV.str ⟨#[c]⟩else none)=some p:=e'
  have z1:x'.length<=sizeLine:=by
   by_cases z:x'.length<=sizeLine
   ·exact z
   ·rw[if_neg z]at e3
    cases e3
  have z2:((itemAt x'.cps.toList i').map λc=>PV.str ⟨#[c]⟩)=some p:=by
   rw[if_pos z1]at e3
   exact e3
  obtain⟨c,e2,rfl⟩:=Zu.mp z2
  exact .inr (.inr ⟨_,_,c,b1.str,b2.int,z1,e2,q _ H' s (.str _)⟩)
 ·obtain⟨a,vs,rfl,q1,q2⟩:=b1.lst aM
  obtain⟨v,z1,z2⟩:=q2.at e'
  exact .inl ⟨a,vs,_,v,rfl,b2.int,q1.sq,z1,q _ H' s z2⟩
 ·obtain⟨a,vs,rfl,q1,q2⟩:=b1.tup aM
  obtain⟨v,z1,z2⟩:=q2.at e'
  exact .inr (.inl ⟨a,vs,_,v,rfl,b2.int,q1,z1,q _ H' s z2⟩)
def DP(X:Cx)(κ:Kl)(e:Option Expr)(f:uI):Prop:=∃to,PO X e to/\∀{G A bo own ρ σ H o Q},R X.K κ G A bo own ρ σ H->f ρ=some o->(∀H',aE H H'->Q o H')->to σ H Q
theorem cM:DP X κ none cD:=⟨_,K7,λ{G A bo own ρ σ H o Q} r e q=>by cases e;exact q H (aE.refl _)⟩
theorem bA(ha:DB X κ a fa):DP X κ (some a) (aX fa):=by
 obtain⟨ta,h1,h2⟩:=ha
 refine⟨_,K8 h1,λ{G A bo own ρ σ H o Q} r e q=>?_⟩
 obtain⟨p,e1,e2⟩:=Zt.mp e
 obtain⟨i,e3,rfl⟩:=Zu.mp e2
 refine h2 r e1 λx H1 s1 b1=>?_
 cases p<;>first|(cases e3;done)|skip
 cases e3
 exact⟨_,b1.int,q H1 s1⟩
theorem aZ.cut{K:PySem.W.Frag}{H:Hp}{vs:List V}{l:List PV}(h:aZ K κ H vs l)(lo hi:Option Int):aZ K κ H (zN vs lo hi) (jP l lo hi):=by
 have e:∀n d o,HT.jo n d o=kO n d o:=λn d o=>by cases o<;>rfl
 unfold zN jP
 rw[h.length,e,e]
 exact(h.drop _).take _
theorem mU{p2:Pos}{lo hi:Option Expr}{fl fh:uI}(ha:DB X κ a fa)(hl:DP X κ lo fl)(hh:DP X κ hi fh):DO X κ (.Subscript a (.Slice lo hi none p2) pos) (DJ fa fl fh):=by
 obtain⟨ta,h1,h2⟩:=ha
 obtain⟨tl,h3,h4⟩:=hl
 obtain⟨th,h5,h6⟩:=hh
 refine⟨_,uE Dw h1 h3 h5,λ{G A bo own ρ σ H p Q} r e q=>?_⟩
 obtain⟨p1,e1,e2⟩:=Zt.mp e
 obtain⟨o1,e3,e4⟩:=Zt.mp e2
 obtain⟨o2,e5,e6⟩:=Zt.mp e4
 refine h2 r e1 λx H1 s1 b1=>h4 (r.mono s1) e3 λH2 s2=>h6 ((r.mono s1).mono s2) e5 λH3 s3=>?_
 cases p1<;>first|(cases e6;done)|skip
 cases e6
 have HE:=(s1.trans s2).trans s3
 obtain⟨a,vs,rfl,q1,q2⟩:=(b1.Hi (s2.trans s3)).lst aM
 refine⟨a,vs,rfl,q1.sq,λn hn=>q _ _ (HE.trans (bM hn)) ?_⟩
 obtain⟨a,ws,l,w1,w2,w3,w4⟩:=(r.mono HE).zX hn (q2.cut o1 o2)
 refine⟨a,ws,l,w1,w2,?_,w4⟩
 cases w1
 exact HE.free hn
def Ti:Nat->String
 |0=> "int"
 |1=> "bool"
 |2=> "str"
 |3=> "list"
 |4=> "tuple"
 |_=> "NoneType"
theorem Pc(K:PySem.W.Frag):∀j,j<6->∀k,k<5->PySem.W.kitOne K (.type (Ti j)) (.type (Ti k))=some (j==k||(k==0&&j==1)):=by
 intro j hj k hk
 rcases j with _|_|_|_|_|_|j<;>first|omega|(rcases k with _|_|_|_|_|k<;>first|omega|rfl)
theorem Ae(k:Nat)(hk:k<5):jd X (.builtin "isinstance") (λxs H Q=>∃x p,xs=[x,.ty (Ti k)]/\Rep X.K κ H x p/\DH p≠6/\Q (.bl (BY k p)) H):=by
 intro pins s σ H xs us Q I r h
 obtain⟨x,p,rfl,rp,h6,q⟩:=h
 obtain⟨u,c,rfl,ru,rc⟩:=vals2 r
 cases rc
 have fin:∀tk:Nat,EP X pins σ Q (.bool (BY k p)) {s with toks:=tk}:=λtk=>⟨.bl _,H,I.tok _,rfl,q⟩
 have KD:=λj hj=>Pc X.K j hj k hk
 cases rp with
 |non=>cases ru;exact z0X PySem.W.kitx_none I.jc True.intro (KD 5 (by decide)) (λz=>nomatch z) fin
 |bl b=>cases ru;exact z0X PySem.W.kitx_bool I.jc True.intro (KD 1 (by decide)) (λz=>nomatch z) fin
 |int i=>obtain⟨t,rfl⟩:=ru;exact z0X PySem.W.kitx_int I.jc True.intro (KD 0 (by decide)) (λz=>nomatch z) fin
 |str i=>obtain⟨t,rfl⟩:=ru;exact z0X PySem.W.kitx_str I.jc True.intro (KD 2 (by decide)) (λz=>nomatch z) fin
 |lst h1 _=>
  cases ru
  obtain⟨_,_,pl,_⟩:=I.list h1.sq
  obtain⟨o,ho,hc,_⟩:=pl.isList
  exact z0X z1r I.jc ⟨o,ho,hc⟩ (KD 3 (by decide)) (λz=>nomatch z) fin
 |tup h1 _=>
  cases ru
  obtain⟨_,_,pl,_⟩:=I.tuple h1
  obtain⟨o,ho,hc,_⟩:=pl
  exact z0X PySem.W.kitx_tuple I.jc ⟨o,ho,hc⟩ (KD 4 (by decide)) (λz=>nomatch z) fin
 |ins _ _ _=>exact absurd rfl h6
theorem wW{x:Str}{p2:Pos}(k:Nat)(hk:k<5)(hv:bootBuiltins x=some (.type (Ti k)))(ha:DB X κ a fa)(hm:X.mg "isinstance" =none)(HF:X.mg x=none)(hg:Gl X "isinstance")(Bw:Gl X x)(hn:x≠ "__name__")(hd:(x==("__debug__" :Str))=false)
  (hs:starEach [a,.Name x p2] X.env=(false,eval a X.env)::starEach [.Name x p2] X.env)(o9:starEach [.Name x p2] X.env=(false,eval (.Name x p2) X.env)::starEach [] X.env)(hpl:(backTo pos (starEach [.Name x p2] X.env)).any (·.1)=false):DE X κ (.Call (.Name "isinstance" p) [a,.Name x p2] [] pos) (bU (RJ k) fa):=by
 obtain⟨ta,h1,h2⟩:=ha
 refine⟨_,je (Ae (κ:=κ) k hk) hg hm PyProof.Rows.boot_isinstance (aG h1 (aG (Dg Bw HF hv (v:=.ty (Ti k)) rfl hn hd) bG o9) hs) (he:=hs) (hpl:=hpl),λ{G A bo own ρ σ H p Q} r e q=>?_⟩
 obtain⟨p1,e1,e2⟩:=Zt.mp e
 refine h2 r e1 λx H1 s1 b1=>?_
 unfold RJ at e2
 split at e2
 ·cases e2
 ·cases e2
  exact⟨_,p1,rfl,b1.full aM,by assumption,q _ H1 s1 (.bl _)⟩
end
def kl0:Kl:=⟨λ_=>0,λ_=>[]⟩
theorem E9{P:Program}{w:World}{K:PySem.W.Frag}{mg mb:Str->Option Value}{CX:Gv}{k:Nat}{fa a:Addr}{fd:FuncData}{x:Str}{sp:Sp}{s₁:Shared}{vs:List Value}{ns:List Int}
  (KX:K.In s₁.heap)(RG:s₁.heap.Ns mainGlobals mg)(hb:s₁.heap.Ns builtinsNs mb)(ZH:∀x:Str,x≠ "__name__" ->mb x=bootBuiltins x)(Wz:s₁.heap.NoLimit)(hg:s₁.gens=#[])
  (ha:s₁.heap.get? a=some {cls:=.type "list",data:=.seq vs.toArray})(hi:IntsAre vs ns)(hl:ns.length<=sizeLine)(hr:c8 k callerA)
  (F:∀base:Heap,K.In base->base.Ns mainGlobals mg->aK P w K mg base CX k fa fd [x] sp)(Tj:∀(s:Shared) (u:Value),BindsTo s fd ⟨[u],[]⟩ [(x,u)])
  (RB:∀H:Hp,SW H->SL K H a (ns.map V.int)->sp [.ref a] H (λv _=>v=.bl true) λ_ _ _=>False)
  (ZI:∀H e s',CX [] H s₁ (λ_ _ _=>False) e s'->False):
  codeAny (model P w) callerA (.call (.ref fa) ⟨[.ref a],[]⟩) (λr s'=>r=.ok (.ret (.bool true))/\OldK s₁.heap s'.heap/\s'.os=s₁.os/\AllBare s'.gens) s₁:=by
 have rv:=wO hi
 have WA:=hi.length
 have core:∀H:Hp,SW H->SL K H a (ns.map V.int)->tF P w H s₁.heap->(∀b,H b≠none->b=a)->(H a≠none->K.lookup a=none)->
   codeAny (model P w) callerA (.call (.ref fa) ⟨[.ref a],[]⟩) (λr s'=>r=.ok (.ret (.bool true))/\OldK s₁.heap s'.heap/\s'.os=s₁.os/\AllBare s'.gens) s₁:=by
  intro H hO hS dU hA hK
  have DY:∀{b:Addr} {o:Obj},s₁.heap.get? b=some o->H b=none->(xK s₁.heap H).get? b=some o:=λe n=>GD e n
  have Sw:∀{b:Addr} {o:Obj} {es:Array DictEntry} {ep:Nat},s₁.heap.get? b=some o->o.data=.dict es ep->H b=none:=λ{b o es ep} e d=>by
   cases q:H b with
   |none=>rfl
   |some u=>
    have e':b=a:=hA b (by rw[q];simp)
    subst e'
    rw[ha]at e;cases e
    have d':Data.seq vs.toArray _=Data.dict es ep:=d
    cases d'
  have U7:∀{b:Addr} {m:Str->Option Value},s₁.heap.Ns b m->(xK s₁.heap H).Ns b m:=λ{b m} ⟨o,es,ep,e,d,r⟩=>⟨o,es,ep,DY e (Sw e d),d,r⟩
  have Yh:K.In (xK s₁.heap H):=λb o e=>DY (KX b o e) (by
   cases q:H b with
   |none=>rfl
   |some u=>
    have e':b=a:=hA b (by rw[q];simp)
    subst e'
    rw[hK (by rw[q];simp)]at e;cases e)
  have hM:Mod K mg (xK s₁.heap H):=⟨Yh,U7 RG,⟨mb,U7 hb,ZH⟩,let⟨mc,h1,h2⟩:=Wz;⟨mc,U7 h1,h2⟩⟩
  have e0:BN P w K mg (xK s₁.heap H) callerA [] s₁ H:=⟨rfl,hM,λb o e=>KO e,Nat.le_of_eq (ER _ _),trivial,λb hb=>absurd (show b∈([]:List Addr)from hb) (by simp),dU,.of_eq hg⟩
  refine codeAny_mono ((F _ Yh (U7 RG)).run callerA [] s₁ H ⟨[.ref a],[]⟩ [.ref a] [.ref a] _ _ hr e0 (Tj s₁ (.ref a)) (.cons rfl .nil) (RB H hO hS)) λr s' h=>?_
  cases r with
  |error e=>exact(ZI H e s' h).elim
  |ok fl=>
   cases fl with
   |next=>exact False.elim h
   |brk=>exact False.elim h
   |cont=>exact False.elim h
   |ret u=>
    obtain⟨v,H',os,bare,un,WB,r',q⟩:=h
    have q':v=.bl true:=q
    subst q'
    obtain rfl:u=Value.bool true:=r'
    refine⟨rfl,OldK.of_keep λb o e=>?_,os,bare⟩
    cases q:H b with
    |none=>exact un.keep b o e q (by intro z;exact absurd (show b∈([]:List Addr)from z) (by simp)) (by simp)
    |some u=>
     rcases hO b with z|⟨ob,xs,z⟩
     ·rw[q]at z;cases z
     ·have z2:=un.oC b ob _ z
      obtain⟨e1,_⟩:=dU b _ z
      obtain⟨e2,_⟩:=WB b _ z2
      rw[e]at e1;cases e1
      exact e2
 cases hk:K.lookup a with
 |some o=>
  have e:=KX a o hk
  rw[ha]at e
  cases e
  refine core (λ_=>none) (λ_=>.inl rfl) (.inr ⟨vs,_,hk,by rw[WA];exact hl,rv⟩) (λb u z=>by have z':(none:Option HO)=some u:=z;cases z') (λb z=>absurd rfl z) λz=>absurd rfl z
 |none=>
  refine core (λb=>if b=a then some (.frz {cls:=.type "list",data:=.seq vs.toArray} (.lst (ns.map V.int)))else none) (λb=>?_) (.inl (.inr ⟨{cls:=.type "list",data:=.seq vs.toArray},if_pos rfl⟩)) (λb u z=>?_) (λb z=>?_) λ_=>hk
  ·by_cases hb:b=a
   ·exact .inr ⟨_,_,if_pos hb⟩
   ·exact .inl (if_neg hb)
  ·by_cases hb:b=a
   ·have z':=(if_pos hb).symm.trans z
    cases z'
    subst hb
    exact⟨ha,by rw[X6];exact hl,vs,_,rv,ha⟩
   ·have z':=(if_neg hb).symm.trans z
    cases z'
  ·by_cases hb:b=a
   ·exact hb
   ·exact absurd (if_neg hb) z
theorem ints_rep{K:PySem.W.Frag}{κ:Kl}{H:Hp}:∀ns:List Int,aZ K κ H (ns.map V.int) (ns.map PV.int)
 |[]=>.nil
 |n::ns=>.cons (.int n) (ints_rep ns)
section
variable{X:Cx}{κ:Kl}{fr:Bool}{e a b c:Expr}{f fa fb fc:Den}{p pos:Pos}
theorem HG{x:Str}{n:Int}(h:∃t,X.mg x=some (.int n t))(hg:Gl X x:=by rfl)(hd:(x==("__debug__" :Str))=false:=by decide):DE X κ (.Name x pos) (dC (.int n)):=by
 obtain⟨t,h⟩:=h
 exact⟨_,oi (v:=.int n) hg h ⟨t,rfl⟩ hd,λ{G A bo own ρ σ H p Q} r e q=>by cases e;exact q _ H (aE.refl _) (.int n)⟩
theorem we{p2:Pos}(ha:DB X κ a fa)(hm:X.mg "isinstance" =none)(HF:X.mg "int" =none)(hg:Gl X "isinstance" :=by rfl)(Bw:Gl X "int" :=by rfl)(hs:starEach [a,.Name "int" p2] X.env=(false,eval a X.env)::starEach [.Name "int" p2] X.env:=by rfl)(o9:starEach [.Name "int" p2] X.env=(false,eval (.Name "int" p2) X.env)::starEach [] X.env:=by rfl)
 (hpl:(backTo pos (starEach [.Name "int" p2] X.env)).any (·.1)=false:=by rfl):DE X κ (.Call (.Name "isinstance" p) [a,.Name "int" p2] [] pos) (bU (RJ 0) fa):=wW 0 (by decide) PyProof.Rows.boot_int ha hm HF hg Bw (by decide) (by decide) hs o9 hpl
theorem uU{p2:Pos}(ha:DB X κ a fa)(hm:X.mg "isinstance" =none)(HF:X.mg "bool" =none)(hg:Gl X "isinstance" :=by rfl)(Bw:Gl X "bool" :=by rfl)(hs:starEach [a,.Name "bool" p2] X.env=(false,eval a X.env)::starEach [.Name "bool" p2] X.env:=by rfl)(o9:starEach [.Name "bool" p2] X.env=(false,eval (.Name "bool" p2) X.env)::starEach [] X.env:=by rfl)
 (hpl:(backTo pos (starEach [.Name "bool" p2] X.env)).any (·.1)=false:=by rfl):DE X κ (.Call (.Name "isinstance" p) [a,.Name "bool" p2] [] pos) (bU (RJ 1) fa):=wW 1 (by decide) PyProof.Rows.boot_bool ha hm HF hg Bw (by decide) (by decide) hs o9 hpl
end
end L2.D
namespace L2.D
open PySem PySem.Spec PyProof.Rows
open Classical
section
variable{X:Cx}{pins:List (Addr×Obj)}{σ:St}{H:Hp}{s:Shared}{h':Heap}
theorem Ng{ch:List Addr}(hf:∀b∈ch,rJ X pins H b):∀b∈ch,(b∈X.ex\/X.s₀.heap.objs.size<=b)/\b≠X.env.locals/\(∀x c,X.env.cells.lookup x=some c->c≠b)/\∀p∈X.pn++pins,p.1≠b:=λb hb=>by
 obtain⟨f0,f1,f2,f3,f4,f5⟩:=hf b hb
 exact⟨f3,f1,f4,f5⟩
theorem _root_.L2.Inv.Lv{t':Nat}{ch:List Addr}(I:Inv X pins σ H s)(k:∀b o,b∉ch->s.heap.get? b=some o->h'.get? b=some o)(hf:∀b∈ch,rJ X pins H b):Inv X pins σ H {s with heap:=h',toks:=t'}:=by
 have MU:∀b u,H b=some u->b∉ch:=λb u e z=>by rw[(hf b z).1]at e;cases e
 refine I.step (g':=s.gens) (d':=s.drawn) (ch:=ch) (Ng hf) (λb o _ _ hc e _=>k b o hc e) (λb o _ _ hc e _=>⟨o.slots,k b o hc e⟩) (λ_ _ _ _ n=>n)
  (λb o hc e=>⟨o,k b o hc e⟩) (λ_ _ e=>e) (λ_ _ _ e=>e) (λb ps e=>⟨#[],by rw[e];simp⟩) (λm hm=>?_) (λb u e=>?_) I.bare
 ·obtain⟨o,es,ep,ho,r⟩:=hm
  exact⟨o,es,ep,k _ o (λz=>(hf _ z).2.1 rfl) ho,r⟩
 ·refine(I.dU b u e).oB (λc v hc q=>k c v ?_ q) (λ_ q=>q) λ_ _ q=>q
  rcases hc with z|z
  ·rw[z];exact MU b u e
  ·exact MU c _ z
theorem _root_.L2.Inv.Fb{t':Nat}{ch:List Addr}{u:HO}(I:Inv X pins σ H s)(k:∀b o,b∉ch->s.heap.get? b=some o->h'.get? b=some o)(hf:∀b∈ch,rJ X pins H b)
  (new:eQ X.prog X.w (upd H s.heap.objs.size u) h' s.heap.objs.size u):Inv X pins σ (upd H s.heap.objs.size u) {s with heap:=h',toks:=t'}:=by
 have fr:H s.heap.objs.size=none:=I.dU.fresh (U5 _)
 have MU:∀b u,H b=some u->b∉ch:=λb u e z=>by rw[(hf b z).1]at e;cases e
 have sm:aE H (upd H s.heap.objs.size u):=bM fr
 refine I.step (g':=s.gens) (d':=s.drawn) (ch:=ch) (Ng hf) (λb o _ _ hc e _=>k b o hc e) (λb o _ _ hc e _=>⟨o.slots,k b o hc e⟩) (λb o _ e n=>?_)
  (λb o hc e=>⟨o,k b o hc e⟩) (λ_ _ e=>sm _ _ e) (λ_ _ _ e=>sm _ _ e) (λb ps e=>⟨#[],by rw[sm _ _ e];simp⟩) (λm hm=>?_) (λb v e=>?_) I.bare
 ·rw[au (z0V (z0A e))]
  exact n
 ·obtain⟨o,es,ep,ho,r⟩:=hm
  exact⟨o,es,ep,k _ o (λz=>(hf _ z).2.1 rfl) ho,r⟩
 ·by_cases hb:b=s.heap.objs.size
  ·subst hb
   rw[aC]at e
   cases e
   exact new
  ·rw[au hb]at e
   refine(I.dU b v e).oB (λc v hc q=>k c v ?_ q) (λc q=>sm _ _ q) λc xs q=>sm _ _ q
   rcases hc with z|z
   ·rw[z];exact MU b _ e
   ·exact MU c _ z
end
end L2.D
namespace L2.D
open PySem PySem.Spec PyProof.Rows PySem.SeqAt
open Classical
section
variable{X:Cx}{κ:Kl}{fr:Bool}{pos:Pos}
theorem HH(i:Nat){y x:Str}{py px zS:Pos}{sc:Scope}{elt iter:Expr}{fi:eF}{f:Den}(hN:X.N.Nodup)(hi:O8 X κ (.Name x px) iter fi)(zP:Scope)(N0 ys:List Str)(he:∀ex C s H,DE (X.tL sc x ys ex C s H) κ elt f)(OX:X.N[i]?=some y:=by rfl)(hy:X.env.scope.names.lookup y=some .local:=by rfl)(Hu:X.env.scope=zP:=by rfl)(Tc:X.N=N0:=by rfl)(Gx:pd zP N0 sc x ys=true:=by decide+kernel)(hc:X.calm=true:=by rfl)
  (hs:∀x,foldedSetIterable iter X.env x=pure x:=by intro _;rfl)(OY:swapsWith (.ListComp elt [⟨.Name x px,iter,[],0⟩] sc pos) (some (.Name y py)) zS.line X.env=pure true:=by rfl):
  DS X κ fr (.Assign [.Name y py] (.ListComp elt [⟨.Name x px,iter,[],0⟩] sc pos) zS) (qx i (eI fi eY f)):=by
 obtain⟨wi,h1,h2⟩:=hi
 refine⟨_,Dz hN OX hy h1 ys (tt:=Tb X.K κ eY) (te:=Ta X.K κ f) (λex C s H=>?_) (λex C s H=>(he ex C s H).pe) (by rw[Hu,Tc];exact Gx) hc hs OY,λ{G A bo own ρ σ H fl D} r e k=>?_⟩
 ·intro pins s σ H Q I ⟨_,_,_,_,_,_,r,e,q⟩
  cases e
  exact zQ pins s σ H Q I (q _ (aE.refl _))
 ·obtain⟨p,e1,e2⟩:=Zt.mp e
  obtain⟨l,e3,rfl⟩:=Zu.mp e2
  refine uS h2 r e1 λv H' s z=>?_
  cases p<;>first|(cases e3;done)|skip
  cases e3
  obtain⟨dQ,r'⟩:=r.O7 s (i:=i) z
  exact k _ _ _ r'
end
end L2.D
namespace L2.D
open PySem PySem.Spec PyProof.Rows PySem.SeqAt
section
variable{X:Cx}{κ:Kl}{fr:Bool}{pos:Pos}{a e:Expr}{fa f:Den}
theorem HI{K:PySem.W.Frag}{H:Hp}:∀{vs:List V} {l:List PV} {ns:List Int},aZ K κ H vs l->uM l=some ns->vs=ns.map V.int
 |_,_,_,.nil,h=>by cases h;rfl
 |_,p::_,_,.cons r t,h=>by
  cases p<;>first|(cases h;done)|skip
  obtain⟨cs,h1,rfl⟩:=Zu.mp h
  cases r
  rw[z0Q,<-HI t h1]
end
end L2.D
namespace L2.D
open PySem
def Tn:PV->PV->Option PV
 |.int i,.int j=>some (.int (if j>i then j else i))
 |_,_=>none
def DZ:List uL->List PV->dO->Option dO
 |[],[],ρ=>some ρ
 |t::ts,p::ps,ρ=>(t p ρ).bind (DZ ts ps)
 |_,_,_=>none
def HJ(ts:List uL):uL:=λp ρ=>match p with
 |.tup l=>DZ ts l ρ
 |_=>none
def To(g:uL)(a:Den):bE:=λρ=>(a ρ).bind λp=>(g p ρ).map Fl.nx
section
variable{X:Cx}{κ:Kl}{a b c:Expr}{fa fb fc:Den}{pos:Pos}
theorem Pd{p:Pos}(ha:DB X κ a fa)(hb:DB X κ b fb)(hm:X.mg "max" =none)(hg:Gl X "max" :=by rfl)(hc:X.calm=true:=by rfl)(hs:starEach [a,b] X.env=(false,eval a X.env)::starEach [b] X.env:=by rfl)(o9:starEach [b] X.env=(false,eval b X.env)::starEach [] X.env:=by rfl)(hpl:(backTo pos (starEach [b] X.env)).any (·.1)=false:=by rfl):DE X κ (.Call (.Name "max" p) [a,b] [] pos) (ae Tn fa fb):=by
 obtain⟨ta,h1,h2⟩:=ha
 obtain⟨tb,h3,h4⟩:=hb
 refine⟨_,je (EW hc) hg hm (by decide+kernel) (aG h1 (aG h3 bG o9) hs) (he:=hs) (hpl:=hpl),λ{G A bo own ρ σ H p Q} r e q=>?_⟩
 refine qA h2 h4 r e λx y p1 p2 H1 s1 r1 b1 b2 e'=>?_
 cases p1<;>cases p2<;>first|(cases e';done)|skip
 cases e'
 exact⟨_,_,by rw[b1.int,b2.int],q _ H1 s1 (.int _)⟩
end
end L2.D
namespace L2
open PySem PySem.Spec PyProof.Rows
def Tp(i:Expr):Prop:=∀ov iv,subscripted i false ov iv=operate [ov,iv] (getItem ov iv)
theorem Lx{prog:Program}{w:World}{A:Around}{E:Value->Shared->Prop}{s:Shared}{env:Env}{value slice:Expr}{pos:Pos}{T id:String}{Q:Value->Shared->Prop}
  (hl:typeLookup (.type T) "__getitem__" =pure (some (.builtin id)))(hs:Tp slice)
  (h:wpAny (model prog w) A (eval value env) (λo s₁=>wpAny (model prog w) A (eval slice env) (λi s₂=>s₂.TypeIs o T/\wpAny (model prog w) A (getItem o i) Q E s₂) E s₁) E s):
  wpAny (model prog w) A (eval (.Subscript value slice pos) env) Q E s:=by
 refine Subscript_ (wpAny_mono h (λo s₁ h₁=>wpAny_mono h₁ (λi s₂ h₂=>?_) λ_ _ x=>x) λ_ _ x=>x)
 obtain⟨hT,h₂⟩:=h₂
 unfold subscriptTail
 refine wpAny_bind ?_
 rw[getitemInPython_of_ne hT.not_modules]
 refine wpAny_bind (wpAny_specialOf hT hl ?_)
 have fin:wpAny (model prog w) A (subscripted slice false o i) (λr s₃=>wpAny (model prog w) A (letTemporaryGo value o r>>=λ_=>pure r) Q E s₃) E s₂:=by
  rw[hs o i]
  exact wpAny_operating (wpAny_mono h₂ (λr s₃ h₃=>wpAny_bind (wpAny_letTemporaryGo (wpAny_pure h₃))) λ_ _ x=>x)
 first
  |exact wpAny_pure (wpAny_bind fin)
  |exact wpAny_bind (wpAny_pure (wpAny_bind fin))
  |exact wpAny_bind fin
end L2
namespace L2.D
open PySem PySem.Spec PyProof.Rows PySem.SeqAt
section
variable{X:Cx}{κ:Kl}{fr:Bool}{pos:Pos}{a b e k:Expr}{fa fb f fk:Den}
theorem Pe{tg:Expr}{gt:uL}(hg:DG X κ tg gt)(he:DE X κ e f)(hs:swapsWithSole [tg] e pos.line X.env=pure false:=by rfl)(hw:swappedStores [tg] e X.env=pure none:=by rfl)
  (Tq:(assignEach [tg] X.env).map (·.2)=[assign tg X.env]:=by rfl):DS X κ fr (.Assign [tg] e pos) (To gt f):=by
 obtain⟨te,h1,h2⟩:=he
 obtain⟨tt,h3,h4⟩:=hg
 refine⟨_,BG h1 h3 hs hw Tq,λ{G A bo own ρ σ H fl D} r e k=>?_⟩
 obtain⟨p,e1,e2⟩:=Zt.mp e
 obtain⟨ρ',e3,rfl⟩:=Zu.mp e2
 refine h2 r e1 λv H1 s1 z1=>?_
 exact h4 (r.mono s1) z1 e3 λdQ σ' r' _=>k _ _ _ r'
def U8(X:Cx)(κ:Kl)(ZJ:List Expr)(gs:List uL):Prop:=∃tt,Sb X ZJ tt/\∀{G A bo own ρ σ H ps vs ρ' Q},R X.K κ G A bo own ρ σ H->aZ X.K κ (dD A own ρ H) vs ps->DZ gs ps ρ=some ρ'->(∀dQ σ',R X.K κ G A bo dQ ρ' σ' H->aE (dD A own ρ H) (dD A dQ ρ' H)->Q σ' H)->tt vs σ H Q
theorem Ly:U8 X κ [] []:=⟨_,xQ,λ{G A bo own ρ σ H ps vs ρ' Q} r z e q=>by
 cases z with
 |nil=>cases e;exact⟨rfl,q _ _ r λ_ _ h=>h⟩
 |cons _ _=>cases e⟩
theorem qD{es:List Expr}{gt:uL}{gs:List uL}(ha:DG X κ a gt)(hb:U8 X κ es gs)(hs:(assignEach (a::es) X.env).map (·.2)=assign a X.env::(assignEach es X.env).map (·.2):=by rfl):U8 X κ (a::es) (gt::gs):=by
 obtain⟨ta,h1,h2⟩:=ha
 obtain⟨tb,h3,h4⟩:=hb
 refine⟨_,mM h1 h3 hs,λ{G A bo own ρ σ H ps vs ρ' Q} r z e q=>?_⟩
 cases z with
 |nil=>cases e
 |cons r1 rs=>
  obtain⟨ρ1,e1,e2⟩:=Zt.mp e
  refine⟨_,_,rfl,h2 r r1 e1 λdQ σ' r' s'=>?_⟩
  exact h4 r' (rs.mono s') e2 λuQ σ2 r2 s2=>q uQ σ2 r2 (s'.trans s2)
theorem wX:∀{gs:List uL} {ps:List PV} {ρ ρ':dO},DZ gs ps ρ=some ρ'->ps.length=gs.length
 |[],[],_,_,_=>rfl
 |[],_::_,_,_,e=>by cases e
 |_::_,[],_,_,e=>by cases e
 |t::ts,p::ps,ρ,ρ',e=>by
  obtain⟨ρ1,e1,e2⟩:=Zt.mp e
  rw[Wk,Wk,wX e2]
theorem Pf{es:List Expr}{gs:List uL}{k:Nat}(h:U8 X κ es gs)(hc:X.calm=true:=by rfl)(hn:(assignEach es X.env).length=gs.length:=by rfl)(kJ:(assignEach es X.env).findIdx? (·.1)=none:=by rfl):DG X κ (.Tuple es k pos) (HJ gs):=by
 obtain⟨tt,h1,h2⟩:=h
 refine⟨_,BF hc h1 hn kJ,λ{G A bo own ρ σ H p v ρ' Q} r z e q=>?_⟩
 unfold HJ at e
 split at e
 ·rename_i l
  cases z with
  |tup q1 q2=>
   refine⟨_,_,rfl,qy (aM (A:=di A own ρ)) q1,?_,h2 r q2 e q⟩
   rw[q2.length,wX e]
 ·cases e
end
end L2.D
namespace L2.D
open PySem
def bK(x:Str)(lo hi:Option Int)(st:Int):Str:=if(st==1&&(Builtin.Str.strSliceIndices lo hi st x.length).length==x.length)=true then x else⟨((Builtin.Str.strSliceIndices lo hi st x.length).filterMap (x.cps[·]?)).toArray⟩
def eX(a:Den)(lo hi:uI):Den:=λρ=>(a ρ).bind λx=>(lo ρ).bind λl=>(hi ρ).bind λh=>match x with
 |.lst xs=>some (.lst (jP xs l h))
 |.str y=>if y.length<=sizeLine then some (.str (bK y l h 1))else none
 |_=>none
def Pg:PV->Option PV
 |.str y=>if y.length<=sizeLine then some (.str (bK y none none (-1)))else none
 |_=>none
def HK:PV->PV->Option PV
 |.str x,.str y=>some (.int (Txt.find x y))
 |_,_=>none
def wY:List PV->Option (List Str)
 |[]=>some []
 |.str x::l=>(wY l).map (x::·)
 |_::_=>none
def Af:PV->PV->Option PV
 |.str x,.lst l=>(wY l).bind λts=>if JoinOk x ts then some (.str (Txt.join x ts))else none
 |_,_=>none
def Fd:PV->Option PV
 |.int i=>if decide (i.natAbs<1000000)then some (.str (toString i))else none
 |_=>none
def Tr:List Int->Option Int
 |[]=>none
 |x::l=>some (l.foldl (λa b=>if b>a then b else a) x)
end L2.D
namespace L2.D
open PySem PySem.Spec PyProof.Rows PySem.SeqAt
section
variable{X:Cx}{κ:Kl}{pos p2:Pos}{a b e:Expr}{fa fb:Den}
theorem Lz:SJ X "str.find" (λx xs H Q=>∃i j,x=.str i/\xs=[.str j]/\Q (.int (Txt.find i j)) H):=by
 intro pins s σ H x xs v us Q I rx r h
 obtain⟨i,j,rfl,rfl,q⟩:=h
 obtain⟨t,rfl⟩:=rx
 obtain⟨u,rfl,t',rfl⟩:=vals1 r
 exact SC.find ⟨.int _,H,I.tok _,⟨_,rfl⟩,q⟩
theorem D0{apos:Pos}(ha:DB X κ a fa)(hb:DB X κ b fb)(iF:attributeBase a "find" X.env (eval a X.env)=eval a X.env:=by rfl)
  (rP:((backTo pos (starEach [b] X.env)).all (λx=>!x.1)&&(backToKw pos (keywordEach [] X.env)).all (λx=>x.1.isSome)
    &&decide ([b].length+([]:List Keyword).length+(if([]:List Keyword).isEmpty then 0 else 1)<30))=true:=by rfl)
  (iG:(apos.endLine==pos.line)=true:=by rfl)(hs:starEach [b] X.env=(false,eval b X.env)::starEach [] X.env:=by rfl):DE X κ (.Call (.Attribute a "find" apos) [b] [] pos) (ae HK fa fb):=by
 obtain⟨ta,h1,h2⟩:=ha
 obtain⟨tb,h3,h4⟩:=hb
 refine⟨_,wN z10 PySem.F.slot_str_find PySem.F.type_str_find Lz h1 (aG h3 bG hs) iF rP iG hs,λ{G A bo own ρ σ H p Q} r e q=>?_⟩
 obtain⟨p1,e1,e2⟩:=Zt.mp e
 obtain⟨p2,e3,e4⟩:=Zt.mp e2
 (cases p1<;>first|(cases e4;done)|skip)<;>cases p2<;>first|(cases e4;done)|skip
 cases e4
 refine h2 r e1 λx H1 s1 b1=>?_
 rw[b1.str]
 refine⟨rfl,h4 (r.mono s1) e3 λy H2 s2 b2=>?_⟩
 rw[b2.str]
 exact⟨_,_,rfl,rfl,q _ H2 (s1.trans s2) (.int _)⟩
theorem wZ:∀{ts:List Str} {us:List Value},Vals (ts.map V.str) us->∃l:List (Str×Tok),us=strValues l/\l.map (·.1)=ts
 |[],_,.nil=>⟨[],rfl,rfl⟩
 |x::ts,_,.cons ⟨t,ht⟩ r=>by
  obtain⟨l,h1,h2⟩:=wZ r
  subst ht
  exact⟨(x,t)::l,by rw[h1];rfl,by rw[z0Q,h2]⟩
theorem HL{K:PySem.W.Frag}{H:Hp}:∀{vs:List V} {l:List PV} {ts:List Str},aZ K κ H vs l->wY l=some ts->vs=ts.map V.str
 |_,_,_,.nil,h=>by cases h;rfl
 |_,p::_,_,.cons r t,h=>by
  cases p<;>first|(cases h;done)|skip
  obtain⟨cs,h1,rfl⟩:=Zu.mp h
  cases r
  rw[z0Q,<-HL t h1]
theorem LA:SJ X "str.join" (λx xs H Q=>∃(i:Str) (p:Addr) (ts:List Str),x=.str i/\xs=[.ref p]/\mK X.K H p (ts.map V.str)/\JoinOk i ts=true/\Q (.str (Txt.join i ts)) H):=by
 intro pins s σ H x xs v us Q I rx r h
 obtain⟨i,p,ts,rfl,rfl,hq,ok,q⟩:=h
 obtain⟨t,rfl⟩:=rx
 obtain⟨u,rfl,ru⟩:=vals1 r
 cases ru
 obtain⟨its,rv,pl,hz⟩:=I.list hq
 obtain⟨l,rfl,hl⟩:=wZ rv
 exact SC.join pl.isList hl ok λt' k=>⟨.str _,H,I.tok _,⟨_,rfl⟩,q⟩
theorem D1{apos:Pos}(ha:DB X κ a fa)(hb:DB X κ b fb)(iF:attributeBase a "join" X.env (eval a X.env)=eval a X.env:=by rfl)
  (rP:((backTo pos (starEach [b] X.env)).all (λx=>!x.1)&&(backToKw pos (keywordEach [] X.env)).all (λx=>x.1.isSome)
    &&decide ([b].length+([]:List Keyword).length+(if([]:List Keyword).isEmpty then 0 else 1)<30))=true:=by rfl)
  (iG:(apos.endLine==pos.line)=true:=by rfl)(hs:starEach [b] X.env=(false,eval b X.env)::starEach [] X.env:=by rfl):DE X κ (.Call (.Attribute a "join" apos) [b] [] pos) (ae Af fa fb):=by
 obtain⟨ta,h1,h2⟩:=ha
 obtain⟨tb,h3,h4⟩:=hb
 refine⟨_,wN z10 PySem.F.slot_str_join PySem.F.type_str_join LA h1 (aG h3 bG hs) iF rP iG hs,λ{G A bo own ρ σ H p Q} r e q=>?_⟩
 obtain⟨p1,e1,e2⟩:=Zt.mp e
 obtain⟨p2,e3,e4⟩:=Zt.mp e2
 (cases p1<;>first|(cases e4;done)|skip)<;>cases p2<;>first|(cases e4;done)|skip
 obtain⟨ts,e5,e6⟩:=Zt.mp e4
 obtain⟨ok,rfl⟩:=cb e6
 refine h2 r e1 λx H1 s1 b1=>?_
 rw[b1.str]
 refine⟨rfl,h4 (r.mono s1) e3 λy H2 s2 b2=>?_⟩
 obtain⟨a,vs,rfl,q1,q2⟩:=b2.lst aM
 rw[HL q2 e5]at q1
 exact⟨_,a,ts,rfl,rfl,q1.sq,ok,q _ H2 (s1.trans s2) (.str _)⟩
theorem D2{p:Pos}(ha:DB X κ a fa)(hm:X.mg "str" =none)(hg:Gl X "str" :=by rfl)(hs:starEach [a] X.env=(false,eval a X.env)::starEach [] X.env:=by rfl):DE X κ (.Call (.Name "str" p) [a] [] pos) (bU Fd fa):=by
 obtain⟨ta,h1,h2⟩:=ha
 refine⟨_,kN xS hg hm (by decide+kernel) (aG h1 bG hs) (he:=hs),λ{G A bo own ρ σ H p Q} r e q=>?_⟩
 obtain⟨p1,e1,e2⟩:=Zt.mp e
 refine h2 r e1 λx H1 s1 b1=>?_
 cases p1<;>first|(cases e2;done)|skip
 obtain⟨ok,rfl⟩:=cb e2
 rw[decide_eq_true_eq]at ok
 refine⟨_,by rw[b1.int],?_,q _ H1 s1 (.str _)⟩
 rename_i i
 have:i.natAbs.log2<20:=by
  by_cases h0:i.natAbs=0
  ·rw[h0];decide
  ·exact(Nat.log2_lt h0).mpr (by omega)
 omega
theorem Ag{v:Value}{o:Option Int}(h:IsPart v o):∃l:Option (Int×Tok),v=partValue l/\l.map (·.1)=o:=by
 cases h with
 |none=>exact⟨none,rfl,rfl⟩
 |int i t=>exact⟨some (i,t),rfl,rfl⟩
theorem qE{α β:Type}(f:α->Option β):∀l:List α,(l.filterMap f).length<=l.length
 |[]=>U5 _
 |x::l=>by
  have:=qE f l
  rw[z0m]
  split
  ·rw[Wk];omega
  ·rw[Wk,Wk];omega
end
end L2.D
namespace L2.D
open PySem
def kQ(ft:Nat->List Str)(f:Str):PV->Option PV
 |.ins c l=>((ft c).zip l).lookup f
 |_=>none
def jA(Fs:Nat->List PV->Option PV)(o:Den)(as:eF):Den:=λρ=>(o ρ).bind λp=>match p with
 |.ins c l=>(as ρ).bind λxs=>Fs c (.ins c l::xs)
 |_=>none
def Ah:PV->Option PV
 |.str x=>some (.ins 0 [.str x])
 |_=>none
def Ai:PV->Option PV
 |.lst l=>some (.ins 1 [.int l.length,.tup l])
 |_=>none
def Aj:PV->Option PV
 |.lst l=>some (.ins 2 [.int 1,.tup l])
 |_=>none
def pq:PV->PV->Option PV
 |.int m,.lst l=>some (.ins 3 [.int m,.tup l])
 |_,_=>none
def RK(c:Nat):List Str:=if c=0 then["name"]else if c<4 then["wanted","parts"]else[]
def LB:PV->Option PV
 |.ins c _=>if decide (c<4)then some (.bl true)else none
 |_=>none
def oK:PV->Option PV
 |.lst l=>(uM l).bind λns=>(Tr ns).map PV.int
 |_=>none
end L2.D
namespace L2.D
open PySem PySem.Spec PyProof.Rows PySem.SeqAt
section
variable{K:PySem.W.Frag}{κ:Kl}{H:Hp}
theorem D3{f:Str}{p:PV}:∀{ns:List Str} {vs:List V} {l:List PV},aZ K κ H vs l->(ns.zip l).lookup f=some p->f∈ns/\∃v,(ns.zip vs).lookup f=some v/\Rep K κ H v p
 |[],_,_,_,h=>by cases h
 |n::ns,_,_,.nil,h=>by cases h
 |n::ns,_,_,.cons (v:=v) (p:=q) r t,h=>by
  rw[z03,z0K]at h
  rw[z03,z0K]
  by_cases e:f==n
  ·rw[e]at h⊢
   cases h
   exact⟨by rw[eq_of_beq e];exact RF ..,v,rfl,r⟩
  ·have e':(f==n)=false:=by simpa using e
   rw[e']at h⊢
   obtain⟨h1,h2⟩:=D3 t h
   exact⟨X5 _ h1,h2⟩
end
theorem BR.rep{K:PySem.W.Frag}{κ:Kl}{hH H:Hp}{v:V}{c:Nat}{l:List PV}(h:BR K κ hH H v (.ins c l)):Rep K κ hH v (.ins c l):=by
 rcases h with h|⟨a,vs,l',h1,h2,h3,h4⟩
 ·exact h
 ·cases h2
def HM(K:PySem.W.Frag)(κ:Kl)(f:Str):Prop:=∀c,f∈κ.fld c->v9 K (κ.adr c)/\eS K (κ.adr c) f
section
variable{X:Cx}{κ:Kl}{pos apos:Pos}{a b e o:Expr}{es:List Expr}{fa fb fo:Den}{fs:eF}{m:Str}
theorem Ph{f:Str}(ha:DB X κ a fa)(hf:HM X.K κ f)(hb:attributeBase a f X.env (eval a X.env)=eval a X.env:=by rfl):DE X κ (.Attribute a f pos) (bU (kQ κ.fld f) fa):=by
 obtain⟨ta,h1,h2⟩:=ha
 refine⟨_,OC h1 hb,λ{G A bo own ρ σ H p Q} r e q=>?_⟩
 obtain⟨p1,e1,e2⟩:=Zt.mp e
 refine h2 r e1 λx H1 s1 b1=>?_
 cases p1<;>first|(cases e2;done)|skip
 rename_i c l
 cases b1.rep with
 |ins h3 h4 h5=>
  obtain⟨h6,v,h7,h8⟩:=D3 h5 e2
  obtain⟨k1,k2⟩:=hf c h6
  exact⟨_,_,_,_,v,rfl,aM _ _ h3,k1,k2,h7,q v H1 s1 h8⟩
def B4(X:Cx)(m:Str)(ta:TE)(t:TA):TE:=λσ H Q=>ta σ H λx H1=>∃(a C dx:Addr) (fs:List (Str×V)) (f:Addr) (fd:FuncData) (ps:List Str) (sp:Sp) (k:Nat),x=.ref a/\H1 a=some (.ins C dx fs)/\v9 X.K C/\Meth X.K C m f/\fs.lookup m=none/\
 aK X.prog X.w X.K X.mg X.base cX k f fd ps sp/\c8 k X.A/\Binds X.K fd ps []/\t σ H1 λvs H2=>sp (x::vs) H2 Q E0
theorem Fe{pl:Sem Bool}{ta:TE}(he:PE X o ta)
  (ht:eval (.Call (.Attribute o m apos) [] [] pos) X.env=(do
    let ov<-eval o X.env
    standAt apos.atName
    let(f,first)<-holding [ov] (getMethod ov m pl)
    callWith pos f first (backTo pos (starEach [] X.env)) (backToKw pos (keywordEach [] X.env))):=by rfl):PE X (.Call (.Attribute o m apos) [] [] pos) (B4 X m ta kc):=by
 intro pins s σ H Q I h
 refine z0y (pl:=pl) (dN (he pins s σ H _ I h) λu s1 cZ=>?_) ht
 obtain⟨x,H1,I1,rx,a,C,dx,fs,f,fd,ps,sp,k,ex,ea,c,hm,l,F,hr,hb,q⟩:=cZ
 subst ex
 obtain rfl:u=Value.ref a:=rx
 refine k9 I1 ea c hm l ?_
 exact PySem.W.callWith_K0 (first:=[.ref a]) I1.jc hm.kp (rN (us:=[.ref a]) (vs:=[.ref a]) (ds:=[]) (dvs:=[]) F hr hb .nil jy I1 (.cons rfl .nil) q)
theorem HN{pl:Sem Bool}{ta:TE}{t:TA}(he:PE X o ta)(ha:PA X (e::es) t)
  (kJ:starEach (e::es) X.env=(false,eval e X.env)::starEach es X.env:=by rfl)(hpl:(backTo pos (starEach es X.env)).any (·.1)=false:=by rfl)
  (ht:eval (.Call (.Attribute o m apos) (e::es) [] pos) X.env=(do
    let ov<-eval o X.env
    standAt apos.atName
    let(f,first)<-holding [ov] (getMethod ov m pl)
    callWith pos f first (backTo pos (starEach (e::es) X.env)) (backToKw pos (keywordEach [] X.env))):=by rfl):PE X (.Call (.Attribute o m apos) (e::es) [] pos) (B4 X m ta t):=by
 intro pins s σ H Q I h
 refine z0y (pl:=pl) (dN (he pins s σ H _ I h) λu s1 cZ=>?_) ht
 obtain⟨x,H1,I1,rx,a,C,dx,fs,f,fd,ps,sp,k,ex,ea,c,hm,l,F,hr,hb,q⟩:=cZ
 subst ex
 obtain rfl:u=Value.ref a:=rx
 refine k9 I1 ea c hm l ?_
 refine z0x (first:=[.ref a]) (h₀:=X.base) I.ok.mod.ES hm.kp (dN (ha pos pins s1 σ H1 _ I1 q) λus s2 ⟨vs,H2,I2,r,q2⟩=>⟨I2.jc,?_⟩) kJ hpl
 refine rN (us:=.ref a::us) (vs:=.ref a::vs) (ds:=[]) (dvs:=[]) F hr hb .nil jy I2 (.cons rfl r) ?_
 rw[z0Y]
 exact q2
def ik(P:Program)(w:World)(K:PySem.W.Frag)(mg:Str->Option Value)(base:Heap)(κ:Kl)(fr:Bool)(m:Str)(k:Nat)(ps:List Str)(Fs:Nat->List PV->Option PV):Prop:=
 ∀c xs p,Fs c xs=some p->∃(f:Addr) (fd:FuncData),v9 K (κ.adr c)/\Meth K (κ.adr c) m f/\m∉κ.fld c/\aK P w K mg base cX k f fd ps (hR K κ fr (Fs c))/\Binds K fd ps []
theorem uV{α:Type}{f:Str}:∀{ns:List Str} {vs:List α},f∉ns->(ns.zip vs).lookup f=none
 |[],_,_=>rfl
 |n::ns,[],_=>rfl
 |n::ns,v::vs,h=>by
  rw[z03,z0K]
  have e:(f==n)=false:=by
   rw[beq_eq_false_iff_ne]
   exact λz=>h (z▸RF ..)
  rw[e]
  exact uV λz=>h (X5 _ z)
theorem Ak{fr:Bool}{k:Nat}{ps:List Str}{Fs:Nat->List PV->Option PV}{ta:TE}{t:TA}(M:ik X.prog X.w X.K X.mg X.base κ fr m k ps Fs)(hr:c8 k X.A)(h2:M9 X.K κ ta fo)
  (h4:∀{G A bo own ρ σ H ps Q},R X.K κ G A bo own ρ σ H->fs ρ=some ps->(∀vs H',aE H H'->aZ X.K κ (dD A own ρ H') vs ps->Q vs H')->t σ H Q)
  {G A bo own ρ σ H p}{Q:VK}(r:R X.K κ G A bo own ρ σ H)(e:jA Fs fo fs ρ=some p)(q:∀v H',aE H H'->RR fr X.K κ (di A own ρ) H H' v p->Q v H'):B4 X m ta t σ H Q:=by
 obtain⟨p1,e1,e2⟩:=Zt.mp e
 refine h2 r e1 λx H1 s1 z1=>?_
 cases p1<;>first|(cases e2;done)|skip
 rename_i c l
 obtain⟨xs,e3,e4⟩:=Zt.mp e2
 obtain⟨f,fd,k1,k2,k3,k4,k5⟩:=M c _ _ e4
 cases z1 with
 |ins h3 h5 h6=>
  refine⟨_,_,_,_,f,fd,ps,_,k,rfl,aM _ _ h3,k1,k2,uV k3,k4,hr,k5,h4 (r.mono s1) e3 λvs H2 s2 z2=>?_⟩
  refine⟨di A own ρ,_,p,λb hb=>((r.mono s1).mono s2).Hf hb,.cons ((Rep.ins h3 h5 h6).mono (aV s2)) z2,e4,λv H' s z=>q v H' ((s1.trans s2).trans s) ?_⟩
  unfold RR at z⊢
  split
  ·rename_i hh
   rw[if_pos hh]at z
   exact Wv z (s1.trans s2) λb w=>w
  ·rename_i hh
   rw[if_neg hh]at z
   exact z
theorem mV{k:Nat}{ps:List Str}{Fs:Nat->List PV->Option PV}{pl:Sem Bool}(M:ik X.prog X.w X.K X.mg X.base κ false m k ps Fs)(hr:c8 k X.A)(ho:DE X κ o fo)
  (ht:eval (.Call (.Attribute o m apos) [] [] pos) X.env=(do
    let ov<-eval o X.env
    standAt apos.atName
    let(f,first)<-holding [ov] (getMethod ov m pl)
    callWith pos f first (backTo pos (starEach [] X.env)) (backToKw pos (keywordEach [] X.env))):=by rfl):DE X κ (.Call (.Attribute o m apos) [] [] pos) (jA Fs fo aO):=by
 obtain⟨ta,h1,h2⟩:=ho
 refine⟨_,Fe h1 ht,λ{G A bo own ρ σ H p Q} r e q=>?_⟩
 exact Ak M hr h2 (λ{G A bo own ρ σ H ps Q} r e q=>by cases e;exact q [] H (aE.refl _) .nil) r e λv H' s z=>q v H' s z
theorem D4{k:Nat}{ps:List Str}{Fs:Nat->List PV->Option PV}{pl:Sem Bool}(M:ik X.prog X.w X.K X.mg X.base κ false m k ps Fs)(hr:c8 k X.A)(ho:DE X κ o fo)(ha:DA X κ (e::es) fs)
  (kJ:starEach (e::es) X.env=(false,eval e X.env)::starEach es X.env:=by rfl)(hpl:(backTo pos (starEach es X.env)).any (·.1)=false:=by rfl)
  (ht:eval (.Call (.Attribute o m apos) (e::es) [] pos) X.env=(do
    let ov<-eval o X.env
    standAt apos.atName
    let(f,first)<-holding [ov] (getMethod ov m pl)
    callWith pos f first (backTo pos (starEach (e::es) X.env)) (backToKw pos (keywordEach [] X.env))):=by rfl):DE X κ (.Call (.Attribute o m apos) (e::es) [] pos) (jA Fs fo fs):=by
 obtain⟨ta,h1,h2⟩:=ho
 obtain⟨t,h3,h4⟩:=ha
 refine⟨_,HN h1 h3 kJ hpl ht,λ{G A bo own ρ σ H p Q} r e q=>?_⟩
 exact Ak M hr h2 h4 r e λv H' s z=>q v H' s z
end
structure Nh(K:PySem.W.Frag)(C:Addr)(m:Str)(f:Addr):Prop where
 rd:∃mc,PySem.W.readsIn K C mc=true/\PySem.W.findCls K (.ref C) mc m=some (.val (.ref f))
 ga:PySem.W.specialIn K (.ref C) "__getattribute__" =some (some (.builtin "type.__getattribute__"))
 hd:PySem.W.handedIn (.ref f)=true
 kp:PySem.W.keepIn K (.ref f)=true
section
variable{X:Cx}{κ:Kl}{pos apos np:Pos}{a b e o:Expr}{es:List Expr}{fa fb fo:Den}{m cn:Str}{C f:Addr}{fd:FuncData}{ps:List Str}{sp:Sp}{k:Nat}{t:TA}
theorem uW{pl:Sem Bool}(c:Nh X.K C m f)(F:aK X.prog X.w X.K X.mg X.base cX k f fd ps sp)(hr:c8 k X.A)(hg:Gl X cn)(hm:X.mg cn=some (.ref C))(hb:Binds X.K fd ps [])(ha:PA X (e::es) t)(mO:(cn==("__debug__" :Str))=false:=by decide)
  (kJ:starEach (e::es) X.env=(false,eval e X.env)::starEach es X.env:=by rfl)(hpl:(backTo pos (starEach es X.env)).any (·.1)=false:=by rfl)
  (ht:eval (.Call (.Attribute (.Name cn np) m apos) (e::es) [] pos) X.env=(do
    let ov<-eval (.Name cn np) X.env
    standAt apos.atName
    let(f,first)<-holding [ov] (getMethod ov m pl)
    callWith pos f first (backTo pos (starEach (e::es) X.env)) (backToKw pos (keywordEach [] X.env))):=by rfl):PE X (.Call (.Attribute (.Name cn np) m apos) (e::es) [] pos) (uB sp [] E0 t):=by
 intro pins s σ H Q I h
 refine z0y (pl:=pl) (j3 I hg hm ?_ mO) ht
 obtain⟨mc,h1,h2⟩:=c.rd
 refine PySem.W.method_cls I.jc c.ga (PySem.W.cls_value I.jc h1 h2 c.hd ?_)
 have I1:Inv X pins σ H {s with toks:=s.toks+1}:=I.tok _
 refine z0x (first:=[]) (h₀:=X.base) I.ok.mod.ES c.kp (dN (ha pos pins _ σ H _ I1 h) λus s2 ⟨vs,H2,I2,r,q2⟩=>⟨I2.jc,?_⟩) kJ hpl
 exact rN (ds:=[]) (dvs:=[]) F hr hb .nil jy I2 r q2
end
def pw(C:Addr):Sp:=λvs H Q _=>∃x dx v,vs=[.ref x,v]/\H x=some (.ins C dx [])/\Q .non (upd H x (.ins C dx [("name",v)]))
def oM(K:PySem.W.Frag)(C:Addr):Sp:=λvs H Q _=>∃x dx v p ys,vs=[.ref x,v,.ref p]/\H x=some (.ins C dx [])/\SL K H p ys/\∀t,H t=none->Q .non (upd (upd (upd H x (.ins C dx [("wanted",v)])) t (.tup ys)) x (.ins C dx [("wanted",v),("parts",.ref t)]))
def mW(K:PySem.W.Frag)(C:Addr)(g:List V->Int):Sp:=λvs H Q _=>∃x dx p ys,vs=[.ref x,.ref p]/\H x=some (.ins C dx [])/\SL K H p ys/\∀t,H t=none->Q .non (upd (upd (upd H x (.ins C dx [("wanted",.int (g ys))])) t (.tup ys)) x (.ins C dx [("wanted",.int (g ys)),("parts",.ref t)]))
theorem Pj{K:PySem.W.Frag}{H:Hp}{x p C dx:Addr}{fs Ku:List (Str×V)}{ys:List V}(h:H x=some (.ins C dx fs))(q:SL K H p ys):SL K (upd H x (.ins C dx Ku)) p ys:=by
 rcases q with(q|⟨ob,q⟩)|q
 ·refine .inl (.inl ?_)
  rw[au]
  ·exact q
  ·rintro rfl
   rw[h]at q
   cases q
 ·refine .inl (.inr ⟨ob,?_⟩)
  rw[au]
  ·exact q
  ·rintro rfl
   rw[h]at q
   cases q
 ·exact .inr q
section
variable{K:PySem.W.Frag}{C:Addr}{κ:Kl}
abbrev WC(K:PySem.W.Frag):List V->Hp->VK->Prop:=λxs H Q=>∃p ys,xs=[.ref p]/\((mK K H p ys/\∀l,H l=none->Q (.ref l) (upd H l (.tup ys)))\/(kM K H p ys/\Q (.ref p) H))
abbrev WD(K:PySem.W.Frag):List V->Hp->VK->Prop:=λxs H Q=>∃p ys,xs=[.ref p]/\(mK K H p ys\/kM K H p ys)/\Q (.int ys.length) H
abbrev DQ(Q:VK):Ends:={nx:=λ_ H'=>Q .non H',rt:=Q}
theorem LC(cl:v9 K C)(na:eS K C "name"){vs:List V}{H:Hp}{Q:VK}{E:XK}(h:pw C vs H Q E):KZ K (fR 0) (fR 1) "name" (DQ Q) (start ["self","name"] vs) H:=by
 obtain⟨x,dx,v,rfl,hx,q⟩:=h
 exact⟨v,rfl,_,rfl,x,C,dx,[],rfl,hx,cl,na,by decide,q⟩
theorem Pk(cl:v9 K C)(na:eS K C "wanted")(nb:eS K C "parts"){vs:List V}{H:Hp}{Q:VK}{E:XK}(h:oM K C vs H Q E):
  BE (KZ K (fR 0) (fR 1) "wanted") (KZ K (fR 0) (Sz (WC K) (eU (fR 2) kc)) "parts") (DQ Q) (start ["self","wanted","parts"] vs) H:=by
 obtain⟨x,dx,v,p,ys,rfl,hx,hp,q⟩:=h
 refine⟨v,rfl,_,rfl,x,C,dx,[],rfl,hx,cl,na,by decide,?_⟩
 refine⟨_,rfl,p,ys,rfl,.inl ⟨(Pj hx hp).sq,λt ht=>?_⟩⟩
 have o6:x≠t:=by
  rintro rfl
  rw[aC]at ht
  cases ht
 have ZK:H t=none:=by
  rw[au (Ne.symm o6)]at ht
  exact ht
 refine⟨_,rfl,x,C,dx,[("wanted",v)],rfl,?_,cl,nb,(show(1:Nat)<1000 by decide),?_⟩
 ·rw[au o6]
  exact aC
 ·exact q t ZK
theorem HP{ta:TE}{g:List V->Int}(ht:∀{σ:St} {H:Hp} {Q:VK} {p:Addr} {ys:List V},σ[1]?=some (some (.ref p))->SL K H p ys->Q (.int (g ys)) H->ta σ H Q){vs:List V}{H:Hp}{Q:VK}{E:XK}(h:mW K C g vs H Q E):
  qk (uB (oM K C) [] E0 (eU (fR 0) (eU ta (eU (fR 1) kc)))) (DQ Q) (start ["self","parts"] vs) H:=by
 obtain⟨x,dx,p,ys,rfl,hx,hp,q⟩:=h
 refine⟨_,rfl,ht rfl hp ⟨_,rfl,?_⟩⟩
 exact⟨x,dx,.int (g ys),p,ys,rfl,hx,hp,λt ht=>q t ht⟩
theorem Pl{vs:List V}{H:Hp}{Q:VK}{E:XK}(h:oM K C vs H Q E):
  qk (uB (oM K C) [] E0 (eU (fR 0) (eU (fR 1) (eU (fR 2) kc)))) (DQ Q) (start ["self","many","parts"] vs) H:=by
 obtain⟨x,dx,v,p,ys,rfl,hx,hp,q⟩:=h
 refine⟨_,rfl,_,rfl,_,rfl,?_⟩
 exact⟨x,dx,v,p,ys,rfl,hx,hp,λt ht=>q t ht⟩
theorem HQ{vs:List V}{H:Hp}{Q:VK}{E:XK}(h:pw C vs H Q E):vs.length=2:=by
 obtain⟨x,dx,v,rfl,_⟩:=h
 rfl
theorem D5{vs:List V}{H:Hp}{Q:VK}{E:XK}(h:oM K C vs H Q E):vs.length=3:=by
 obtain⟨x,dx,v,p,ys,rfl,_⟩:=h
 rfl
theorem D6{g:List V->Int}{vs:List V}{H:Hp}{Q:VK}{E:XK}(h:mW K C g vs H Q E):vs.length=2:=by
 obtain⟨x,dx,p,ys,rfl,_⟩:=h
 rfl
theorem Pm{σ:St}{H:Hp}{Q:VK}{p:Addr}{ys:List V}(h:σ[1]?=some (some (.ref p)))(hp:SL K H p ys)(q:Q (.int (ys.length:Nat)) H):Sz (WD K) (eU (fR 1) kc) σ H Q:=⟨_,h,p,ys,rfl,.inl hp.sq,q⟩
theorem Pn{σ:St}{H:Hp}{Q:VK}{p:Addr}{ys:List V}(h:σ[1]?=some (some (.ref p)))(hp:SL K H p ys)(q:Q (.int 1) H):tC (.int 1) σ H Q:=q
end
section
variable{K:PySem.W.Frag}{κ:Kl}{G H H':Hp}{A:Addr->Prop}{bo:Nat->Option (Addr×List V)}{own:Nat->Addr}{ρ:dO}{σ:St}
theorem oy{C x dx:Addr}(hx:H x=none)(hd:H dx=none)(hn:dx≠x):aE H (upd (upd H dx (.own x)) x (.ins C dx [])):=(bM hd).trans (bM (by rw[au (Ne.symm hn)];exact hx))
theorem uX{C x dx:Addr}{fs Ku:List (Str×V)}{H0:Hp}(s:aE H0 H)(hx:H0 x=none):aE H0 (upd H x (.ins C dx Ku)):=λb o e=>by
 rw[au (cE e hx)]
 exact s b o e
theorem LD{x dx:Addr}{v:V}{p:PV}(r:R K κ G A bo own ρ σ H)(hf:κ.fld 0=[("name" :Str)])(hx:H x=none)(hd:H dx=none)(hn:dx≠x)(z:Rep K κ (dD A own ρ H) v p):
  aE H (upd (upd (upd H dx (.own x)) x (.ins (κ.adr 0) dx [])) x (.ins (κ.adr 0) dx [("name",v)]))/\Rep K κ (dD A own ρ (upd (upd (upd H dx (.own x)) x (.ins (κ.adr 0) dx [])) x (.ins (κ.adr 0) dx [("name",v)]))) (.ref x) (.ins 0 [p]):=by
 have s1:aE H (upd (upd (upd H dx (.own x)) x (.ins (κ.adr 0) dx [])) x (.ins (κ.adr 0) dx [("name",v)])):=uX (fs:=[]) (oy (C:=κ.adr 0) hx hd hn) hx
 refine⟨s1,.ins (c:=0) (dx:=dx) (vs:=[v]) ?_ (by rw[hf];rfl) (.cons (z.mono (aV s1)) .nil)⟩
 rw[dD,bJ (r.new hx),aC,hf]
 rfl
theorem HR{c:Nat}{x dx t:Addr}{v:V}{q:PV}{ys:List V}{l:List PV}(r:R K κ G A bo own ρ σ H)(hf:κ.fld c=[("wanted" :Str),("parts" :Str)])(hx:H x=none)(hd:H dx=none)(hn:dx≠x)(ht:upd (upd H dx (.own x)) x (.ins (κ.adr c) dx []) t=none)
  (zv:Rep K κ (dD A own ρ H) v q)(z:aZ K κ (dD A own ρ H) ys l):
  aE H (upd (upd (upd (upd (upd H dx (.own x)) x (.ins (κ.adr c) dx [])) x (.ins (κ.adr c) dx [("wanted",v)])) t (.tup ys)) x (.ins (κ.adr c) dx [("wanted",v),("parts",.ref t)]))/\
  Rep K κ (dD A own ρ (upd (upd (upd (upd (upd H dx (.own x)) x (.ins (κ.adr c) dx [])) x (.ins (κ.adr c) dx [("wanted",v)])) t (.tup ys)) x (.ins (κ.adr c) dx [("wanted",v),("parts",.ref t)]))) (.ref x) (.ins c [q,.tup l]):=by
 have s0:aE H (upd (upd H dx (.own x)) x (.ins (κ.adr c) dx [])):=oy (C:=κ.adr c) hx hd hn
 have o6:x≠t:=by
  rintro rfl
  rw[aC]at ht
  cases ht
 have Yi:H t=none:=s0.free ht
 have s1:aE H (upd (upd (upd H dx (.own x)) x (.ins (κ.adr c) dx [])) x (.ins (κ.adr c) dx [("wanted",v)])):=uX (fs:=[]) s0 hx
 have s2:aE H (upd (upd (upd (upd H dx (.own x)) x (.ins (κ.adr c) dx [])) x (.ins (κ.adr c) dx [("wanted",v)])) t (.tup ys)):=λb o e=>by
  rw[au (cE e Yi)]
  exact s1 b o e
 have s3:aE H (upd (upd (upd (upd (upd H dx (.own x)) x (.ins (κ.adr c) dx [])) x (.ins (κ.adr c) dx [("wanted",v)])) t (.tup ys)) x (.ins (κ.adr c) dx [("wanted",v),("parts",.ref t)])):=uX (fs:=[]) s2 hx
 refine⟨s3,.ins (c:=c) (dx:=dx) (vs:=[v,.ref t]) ?_ (by rw[hf];rfl) (.cons (zv.mono (aV s3)) (.cons (.tup (vs:=ys) (.inl (.inl ?_)) (z.mono (aV s3))) .nil))⟩
 ·rw[dD,bJ (r.new hx),aC,hf]
  rfl
 ·rw[dD,bJ (r.new Yi),au (Ne.symm o6)]
  exact aC
end
section
variable{X:Cx}{κ:Kl}{pos p:Pos}{a b:Expr}{fa fb:Den}{f:Addr}{fd:FuncData}{ps:List Str}{k:Nat}{x:Str}
theorem w9(M:Mk X.K (κ.adr 0) f)(F:aK X.prog X.w X.K X.mg X.base cX k f fd ps (pw (κ.adr 0)))(hf:κ.fld 0=[("name" :Str)])(hr:c8 (k+1) X.A)(hm:X.mg x=some (.ref (κ.adr 0)))(hb:Binds X.K fd ps [])(ha:DB X κ a fa)(hg:Gl X x:=by rfl)(mO:(x==("__debug__" :Str))=false:=by decide)
  (he:starEach [a] X.env=(false,eval a X.env)::starEach [] X.env:=by rfl):DE X κ (.Call (.Name x p) [a] [] pos) (bU Ah fa):=by
 obtain⟨ta,h1,h2⟩:=ha
 refine⟨_,qp M F hr hg hm hb .nil jy (aG h1 bG he) mO he,λ{G A bo own ρ σ H p Q} r e q=>?_⟩
 obtain⟨p1,e1,e2⟩:=Zt.mp e
 refine h2 r e1 λv H1 s1 b1=>?_
 cases p1<;>first|(cases e2;done)|skip
 cases e2
 intro y dy hy Po hn
 rw[b1.str]
 obtain⟨s3,z3⟩:=LD (r.mono s1) hf hy Po hn (.str _)
 exact⟨y,dy,_,rfl,aC,rfl,q _ _ (s1.trans s3) z3⟩
theorem D7{c:Nat}{g:List V->Int}{gP:List PV->Int}{ta:TE}(ZL:∀{vs:List V} {l:List PV},vs.length=l.length->g vs=gP l)(hf:κ.fld c=[("wanted" :Str),("parts" :Str)])(h2:S4 X.K κ ta fa):M9 X.K κ (M0 (κ.adr c) (mW X.K (κ.adr c) g) [] E0 (eU ta kc)) (bU (λp=>match p with|.lst l=>some (.ins c [.int (gP l),.tup l])|_=>none) fa):=λ{G A bo own ρ σ H p Q} r e q=>by
 obtain⟨p1,e1,e2⟩:=Zt.mp e
 refine h2 r e1 λv H1 s1 b1=>?_
 cases p1<;>first|(cases e2;done)|skip
 rename_i l
 cases e2
 obtain⟨a,ys,rfl,q1,q2⟩:=b1.lst aM
 intro y dy hy Po hn
 have s0:aE H1 (upd (upd H1 dy (.own y)) y (.ins (κ.adr c) dy [])):=oy (C:=κ.adr c) hy Po hn
 refine⟨y,dy,a,ys,rfl,aC,s0.sl q1,λt ht=>⟨rfl,?_⟩⟩
 rw[ZL q2.length]
 obtain⟨s3,z3⟩:=HR (r.mono s1) hf hy Po hn ht (.int (gP l)) q2
 exact q _ _ (s1.trans s3) z3
theorem Al(M:Mk X.K (κ.adr 1) f)(F:aK X.prog X.w X.K X.mg X.base cX k f fd ps (mW X.K (κ.adr 1) λys=>(ys.length:Nat)))(hf:κ.fld 1=[("wanted" :Str),("parts" :Str)])(hr:c8 (k+1) X.A)(hm:X.mg x=some (.ref (κ.adr 1)))(hb:Binds X.K fd ps [])(ha:DB X κ a fa)(hg:Gl X x:=by rfl)(mO:(x==("__debug__" :Str))=false:=by decide)
  (he:starEach [a] X.env=(false,eval a X.env)::starEach [] X.env:=by rfl):DE X κ (.Call (.Name x p) [a] [] pos) (bU Ai fa):=by
 obtain⟨ta,h1,h2⟩:=ha
 exact⟨_,qp M F hr hg hm hb .nil jy (aG h1 bG he) mO he,λ{G A bo own ρ σ H p Q} r e q=>D7 (c:=1) (g:=λys=>(ys.length:Nat)) (gP:=λl=>(l.length:Nat)) (λh=>by rw[h]) hf h2 r (by
  obtain⟨p1,e1,e2⟩:=Zt.mp e
  refine Zt.mpr ⟨p1,e1,?_⟩
  cases p1<;>first|(cases e2;done)|exact e2) q⟩
theorem Am(M:Mk X.K (κ.adr 2) f)(F:aK X.prog X.w X.K X.mg X.base cX k f fd ps (mW X.K (κ.adr 2) λ_=>1))(hf:κ.fld 2=[("wanted" :Str),("parts" :Str)])(hr:c8 (k+1) X.A)(hm:X.mg x=some (.ref (κ.adr 2)))(hb:Binds X.K fd ps [])(ha:DB X κ a fa)(hg:Gl X x:=by rfl)(mO:(x==("__debug__" :Str))=false:=by decide)
  (he:starEach [a] X.env=(false,eval a X.env)::starEach [] X.env:=by rfl):DE X κ (.Call (.Name x p) [a] [] pos) (bU Aj fa):=by
 obtain⟨ta,h1,h2⟩:=ha
 exact⟨_,qp M F hr hg hm hb .nil jy (aG h1 bG he) mO he,λ{G A bo own ρ σ H p Q} r e q=>D7 (c:=2) (g:=λ_=>1) (gP:=λ_=>1) (λ_=>rfl) hf h2 r (by
  obtain⟨p1,e1,e2⟩:=Zt.mp e
  refine Zt.mpr ⟨p1,e1,?_⟩
  cases p1<;>first|(cases e2;done)|exact e2) q⟩
theorem xa(M:Mk X.K (κ.adr 3) f)(F:aK X.prog X.w X.K X.mg X.base cX k f fd ps (oM X.K (κ.adr 3)))(hf:κ.fld 3=[("wanted" :Str),("parts" :Str)])(hr:c8 (k+1) X.A)(hm:X.mg x=some (.ref (κ.adr 3)))(hb:Binds X.K fd ps [])(ha:DB X κ a fa)(pA:DB X κ b fb)(hg:Gl X x:=by rfl)(mO:(x==("__debug__" :Str))=false:=by decide)
  (he:starEach [a,b] X.env=(false,eval a X.env)::starEach [b] X.env:=by rfl)(ZM:starEach [b] X.env=(false,eval b X.env)::starEach [] X.env:=by rfl)(hpl:(backTo pos (starEach [b] X.env)).any (·.1)=false:=by rfl):DE X κ (.Call (.Name x p) [a,b] [] pos) (ae pq fa fb):=by
 obtain⟨ta,h1,h2⟩:=ha
 obtain⟨tb,h3,h4⟩:=pA
 refine⟨_,qp M F hr hg hm hb .nil jy (aG h1 (aG h3 bG ZM) he) mO he hpl,λ{G A bo own ρ σ H p Q} r e q=>?_⟩
 refine qA h2 h4 r e λv u p1 p2 H1 s1 r1 b1 b2 e2=>?_
 (cases p1<;>first|(cases e2;done)|skip)<;>cases p2<;>first|(cases e2;done)|skip
 cases e2
 obtain⟨a,ys,rfl,q1,q2⟩:=b2.lst aM
 intro y dy hy Po hn
 have s0:aE H1 (upd (upd H1 dy (.own y)) y (.ins (κ.adr 3) dy [])):=oy (C:=κ.adr 3) hy Po hn
 rw[b1.int]
 refine⟨y,dy,_,a,ys,rfl,aC,s0.sl q1,λt ht=>⟨rfl,?_⟩⟩
 obtain⟨s3,z3⟩:=HR r1 hf hy Po hn ht (.int _) q2
 exact q _ _ (s1.trans s3) z3
end
structure Pp(K:PySem.W.Frag)(C CR:Addr):Prop where
 cl:v9 K C
 ha:PySem.W.findIn K (.ref C) "__class__" =some (some (.builtin "object.__class__"))
 hn:PySem.W.specialIn K (.builtin "object.__class__") "__get__" =some (some (.builtin "getset_descriptor.__get__"))
 GW:PySem.W.takesIn K (.builtin "object.__class__")=some true
 hm:PySem.W.mroIn K C (.type "object")=some true
 KD:PySem.W.kitOne K (.ref C) (.ref CR)=some true
section
variable{X:Cx}{κ:Kl}{pos p:Pos}{a b:Expr}{fa fb:Den}
theorem HS{CR:Addr}:jd X (.builtin "isinstance") (λxs H Q=>∃(a C dx:Addr) (fs:List (Str×V)),xs=[.ref a,.ref CR]/\H a=some (.ins C dx fs)/\Pp X.K C CR/\Q (.bl true) H):=by
 intro pins s σ H xs us Q I r h
 obtain⟨a,C,dx,fs,rfl,ha,ok,q⟩:=h
 cases r with
 |cons r1 r2=>
  cases r2 with
  |cons r2 r3=>
   cases r3
   cases r1
   cases r2
   exact EY (x:=.ref a) I rfl (.ins ha ok.cl ok.ha ok.hn ok.GW ok.hm) ok.KD λtk=>⟨.bl true,H,I.tok _,rfl,q⟩
theorem Pq{cn:Str}{p2:Pos}{CR:Addr}(ok:∀c,c<4->Pp X.K (κ.adr c) CR)(ha:DB X κ a fa)(hm:X.mg "isinstance" =none)(HF:X.mg cn=some (.ref CR))(hg:Gl X "isinstance" :=by rfl)(Bw:Gl X cn:=by rfl)(hd:(cn==("__debug__" :Str))=false:=by decide)
  (hs:starEach [a,.Name cn p2] X.env=(false,eval a X.env)::starEach [.Name cn p2] X.env:=by rfl)(o9:starEach [.Name cn p2] X.env=(false,eval (.Name cn p2) X.env)::starEach [] X.env:=by rfl)(hpl:(backTo pos (starEach [.Name cn p2] X.env)).any (·.1)=false:=by rfl):DE X κ (.Call (.Name "isinstance" p) [a,.Name cn p2] [] pos) (bU LB fa):=by
 obtain⟨ta,h1,h2⟩:=ha
 refine⟨_,je (HS (CR:=CR)) hg hm PyProof.Rows.boot_isinstance (aG h1 (aG (oi Bw HF (v:=.ref CR) rfl hd) bG o9) hs) (he:=hs) (hpl:=hpl),λ{G A bo own ρ σ H p Q} r e q=>?_⟩
 obtain⟨p1,e1,e2⟩:=Zt.mp e
 refine h2 r e1 λx H1 s1 b1=>?_
 cases p1<;>first|(cases e2;done)|skip
 obtain⟨hc,rfl⟩:=cb e2
 cases b1.rep with
 |ins h3 h4 h5=>exact⟨_,_,_,_,rfl,aM _ _ h3,ok _ (of_decide_eq_true hc),q _ H1 s1 (.bl _)⟩
theorem An(ha:DB X κ a fa)(hm:X.mg "tuple" =none)(hg:Gl X "tuple" :=by rfl)(hs:starEach [a] X.env=(false,eval a X.env)::starEach [] X.env:=by rfl):DE X κ (.Call (.Name "tuple" p) [a] [] pos) (bU BZ fa):=by
 obtain⟨ta,h1,h2⟩:=ha
 refine⟨_,kN oJ hg hm (by decide+kernel) (aG h1 bG hs) (he:=hs),λ{G A bo own ρ σ H p Q} r e q=>?_⟩
 obtain⟨p1,e1,e2⟩:=Zt.mp e
 refine h2 r e1 λx H1 s1 b1=>?_
 cases p1<;>first|(cases e2;done)|skip
 ·cases e2
  obtain⟨a,vs,rfl,q1,q2⟩:=b1.lst aM
  exact⟨a,vs,rfl,.inl ⟨q1.sq,λl hl=>q _ _ (s1.trans (bM hl)) ((r.mono s1).S6 hl q2)⟩⟩
 ·cases e2
  rcases b1 with b1|⟨_,_,_,_,z,_⟩
  ·cases b1 with
   |tup q1 q2=>exact⟨_,_,rfl,.inr ⟨qy aM q1,q _ H1 s1 (.tup q1 q2)⟩⟩
  ·cases z
theorem Ao(ns:List Int):∀n,n<ns.length->(ns.take (n+1)).tail.foldl (λa b=>if b>a then b else a) (ns.getD 0 0)=ns.getD (argBest (λi j=>decide (ns.getD i 0>ns.getD j 0)) n) 0
 |0,h=>by
  have:(ns.take 1).tail=[]:=by
   cases ns with
   |nil=>rfl
   |cons x l=>simp
  rw[this]
  rfl
 |n+1,h=>by
  have ih:=Ao ns n (by omega)
  have e:(ns.take (n+1+1)).tail=(ns.take (n+1)).tail++[ns.getD (n+1) 0]:=by
   rw[List.take_add_one,z0G h,List.tail_append_of_ne_nil,z0i,z0G h]
   ·rfl
   ·intro z
    have h2:(ns.take (n+1)).length=0:=by rw[z];rfl
    rw[z0a]at h2
    omega
  rw[e,List.foldl_append,ih]
  show(if ns.getD (n+1) 0>ns.getD (argBest _ n) 0 then _ else _)=ns.getD (if decide (ns.getD (n+1) 0>ns.getD (argBest _ n) 0)=true then n+1 else argBest _ n) 0
  by_cases hh:ns.getD (n+1) 0>ns.getD (argBest (λi j=>decide (ns.getD i 0>ns.getD j 0)) n) 0
  ·rw[if_pos hh,if_pos (decide_eq_true hh)]
  ·rw[if_neg hh,if_neg (by rw[decide_eq_false hh];decide)]
theorem xb:∀{us:List Value} {ns:List Int},IntsAre us ns->∃xs:List (Int×Tok),us=xs.map (λp=>Value.int p.1 p.2)/\xs.map (·.1)=ns
 |_,_,.nil=>⟨[],rfl,rfl⟩
 |_,_,.cons i t h=>by
  obtain⟨xs,h1,h2⟩:=xb h
  exact⟨(i,t)::xs,by rw[h1];rfl,by rw[z0Q,h2]⟩
theorem wg(hc:X.calm=true):jd X (.builtin "max") (λxs H Q=>∃(p:Addr) (ns:List Int) (m:Int),xs=[.ref p]/\mK X.K H p (ns.map V.int)/\Tr ns=some m/\Q (.int m) H):=by
 intro pins s σ H xs us Q I r h
 obtain⟨p,ns,m,rfl,hq,hm,q⟩:=h
 obtain⟨u,rfl,ru⟩:=vals1 r
 cases ru
 obtain⟨its,rv,pl,hz⟩:=I.list hq
 obtain⟨ts,rfl,ht⟩:=xb (intsAre_of rv)
 have hlen:ns.length=ts.length:=by rw[<-ht,X6]
 have h0:0<ns.length:=by
  cases ns with
  |nil=>cases hm
  |cons _ _=>simp
 have na:∀i,numAt ts.toArray i=ns.getD i 0:=λi=>by
  unfold numAt
  rw[<-ht,z0i,z0f]
  simp
 refine max_intList (xs:=ts.toArray) (I.ok.hd hc) (by simpa[intItems]using pl.isList) (by simpa using(hlen▸h0)) λv h' tk hv kp=>?_
 obtain⟨t,rfl⟩:=intItems_at hv
 have bm:=Ao ns (ns.length-1) (by omega)
 rw[show ns.length-1+1=ns.length by omega,z02]at bm
 have em:m=numAt ts.toArray (argBest (λi j=>decide (numAt ts.toArray i>numAt ts.toArray j)) (ts.toArray.size-1)):=by
  rw[na,X4,<-hlen,show(λi j=>decide (numAt ts.toArray i>numAt ts.toArray j))=λi j=>decide (ns.getD i 0>ns.getD j 0)from by funext i j;rw[na,na],<-bm]
  cases ns with
  |nil=>cases hm
  |cons x l=>
   cases hm
   rfl
 rw[<-em]
 exact⟨.int m,H,I.kept (t':=tk) kp,⟨_,rfl⟩,q⟩
theorem ym(ha:DB X κ a fa)(hm:X.mg "max" =none)(hg:Gl X "max" :=by rfl)(hc:X.calm=true:=by rfl)(hs:starEach [a] X.env=(false,eval a X.env)::starEach [] X.env:=by rfl):DE X κ (.Call (.Name "max" p) [a] [] pos) (bU oK fa):=by
 obtain⟨ta,h1,h2⟩:=ha
 refine⟨_,je (wg hc) hg hm (by decide+kernel) (aG h1 bG hs) (he:=hs),λ{G A bo own ρ σ H p Q} r e q=>?_⟩
 obtain⟨p1,e1,e2⟩:=Zt.mp e
 refine h2 r e1 λx H1 s1 b1=>?_
 cases p1<;>first|(cases e2;done)|skip
 obtain⟨ns,e3,e4⟩:=Zt.mp e2
 obtain⟨m,e5,rfl⟩:=Zu.mp e4
 obtain⟨a,vs,rfl,q1,q2⟩:=b1.lst aM
 rw[HI q2 e3]at q1
 exact⟨a,ns,m,rfl,q1.sq,e5,q _ H1 s1 (.int _)⟩
theorem Ap{l u st:Option (Int×Tok)}{y:Str}{t:Tok}{Q:Value->Shared->Prop}{s:Shared}(h0:(st.map (·.1)).getD 1≠0)(hy:y.length<=sizeLine)(q:∀t' k,Q (.str (bK y (l.map (·.1)) (u.map (·.1)) ((st.map (·.1)).getD 1)) t') {s with toks:=k}):(sliceMade y t l u st).post Q s:=by
 unfold sliceMade
 unfold bK at q
 unfold slicePicked
 split
 ·rename_i hh
  rw[if_pos hh]at q
  exact q t s.toks
 ·rename_i hh
  rw[if_neg hh]at q
  refine⟨?_,q _ _⟩
  show((Builtin.Str.strSliceIndices _ _ _ y.length).filterMap (y.cps[·]?)).toArray.size<=sizeLine
  rw[X4]
  have h1:=qE (y.cps[·]?) (Builtin.Str.strSliceIndices (l.map (·.1)) (u.map (·.1)) ((st.map (·.1)).getD 1) y.length)
  have h2:=sliceIndicesBy_le (l.map (·.1)) (u.map (·.1)) ((st.map (·.1)).getD 1) h0 y.length
  omega
theorem Pr:M1 X (λx lo hi H Q=>∃y,x=.str y/\y.length<=sizeLine/\Q (.str (bK y lo hi 1)) H):=by
 intro pins s σ H x v vl vu lo hi sl Q I rx hs pl pu h
 obtain⟨y,rfl,hy,q⟩:=h
 obtain⟨t,rfl⟩:=rx
 obtain⟨l,rfl,hl⟩:=Ag pl
 obtain⟨u,rfl,hu⟩:=Ag pu
 refine⟨"str",_,F.slot_str_getitem.lookup,typeIs_str _ _ _,wpAny_getItem_str_slice (l:=l) (u:=u) (st:=none) hs rfl (Ap (st:=none) (by decide) hy λt' k=>?_)⟩
 rw[hl,hu]
 exact⟨.str _,H,I.tok _,⟨_,rfl⟩,q⟩
theorem bH{p2:Pos}{lo hi:Option Expr}{fl fh:uI}(ha:DB X κ a fa)(hl:DP X κ lo fl)(hh:DP X κ hi fh):DE X κ (.Subscript a (.Slice lo hi none p2) pos) (eX fa fl fh):=by
 obtain⟨ta,h1,h2⟩:=ha
 obtain⟨tl,h3,h4⟩:=hl
 obtain⟨th,h5,h6⟩:=hh
 refine⟨_,uE (Dw.or Pr) h1 h3 h5,λ{G A bo own ρ σ H p Q} r e q=>?_⟩
 obtain⟨p1,e1,e2⟩:=Zt.mp e
 obtain⟨o1,e3,e4⟩:=Zt.mp e2
 obtain⟨o2,e5,e6⟩:=Zt.mp e4
 refine h2 r e1 λx H1 s1 b1=>h4 (r.mono s1) e3 λH2 s2=>h6 ((r.mono s1).mono s2) e5 λH3 s3=>?_
 have HE:=(s1.trans s2).trans s3
 cases p1<;>first|(cases e6;done)|skip
 ·obtain⟨hy,rfl⟩:=cb e6
  exact .inr ⟨_,by rw[b1.str],hy,q _ H3 HE (.str _)⟩
 ·cases e6
  obtain⟨a,vs,rfl,q1,q2⟩:=(b1.Hi (s2.trans s3)).lst aM
  exact .inl ⟨a,vs,rfl,q1.sq,λn hn=>q _ _ (HE.trans (bM hn)) (OR.rep (r.mono HE) ((r.mono HE).zX hn (q2.cut o1 o2)))⟩
end
section
variable{X:Cx}{κ:Kl}{pos p p2:Pos}{a b c e:Expr}{fa fb:Den}
theorem LF{te tc:TE}(he:PE X e te)(hc:PE X c tc):PE X (.Subscript e (.Slice none none (some c) p2) pos) (λσ H Q=>te σ H λx H1=>tc σ H1 λz H2=>∃y,x=.str y/\z=.int (-1)/\y.length<=sizeLine/\Q (.str (bK y none none (-1))) H2):=by
 intro pins s σ H Q I h
 refine Subscript_ (dN (he pins s σ H _ I h) λv s1 cZ=>?_)
 obtain⟨x,H1,I1,r1,q1⟩:=cZ
 refine wpAny_Slice ?_
 rw[evalPart_none]
 refine wpAny_pure (wpAny_pure ?_)
 rw[evalPart_some]
 refine dN (hc pins s1 σ H1 _ I1 q1) λu s3 cZ=>?_
 obtain⟨z,H3,I3,r3,y,ex,ez,hy,q⟩:=cZ
 subst ex ez
 obtain⟨t,rfl⟩:=r1
 obtain⟨t',rfl⟩:=r3
 have I4:Inv X pins σ H3 {s3 with heap:=s3.heap.push {cls:=.type "slice",data:=.fields #[.none,.none,.int (-1) t']}}:=I3.kept (t':=s3.toks) λb ob q=>Zv _ q
 show wpAny (model X.prog X.w) X.A (subscriptTail e (.Slice none none (some c) p2) (.str y t) (.ref s3.heap.objs.size)) (EP X pins σ Q) X.xe {s3 with heap:=s3.heap.push {cls:=.type "slice",data:=.fields #[.none,.none,.int (-1) t']}}
 refine tail_any (ops:=[.ref s3.heap.objs.size,.str y t]) (T:= "str") (typeIs_str _ _ _) F.slot_str_getitem.lookup ?_ (by with_unfolding_all rfl)
 refine wpAny_getItem_str_slice (l:=none) (u:=none) (st:=some (-1,t')) ⟨_,z0H _ rfl,rfl,rfl⟩ rfl (Ap (st:=some (-1,t')) (show(-1:Int)≠0 by decide) hy λt'' k=>?_)
 exact⟨.str _,H3,I4.tok _,⟨_,rfl⟩,q⟩
theorem LG(ha:DB X κ a fa)(hc:DB X κ c (bU mQ (dC (.int 1)))):DE X κ (.Subscript a (.Slice none none (some c) p2) pos) (bU Pg fa):=by
 obtain⟨ta,h1,h2⟩:=ha
 obtain⟨tc,h3,h4⟩:=hc
 refine⟨_,LF h1 h3,λ{G A bo own ρ σ H p Q} r e q=>?_⟩
 obtain⟨p1,e1,e2⟩:=Zt.mp e
 refine h2 r e1 λx H1 s1 b1=>h4 (r.mono s1) (p:=.int (-1)) rfl λz H2 s2 b2=>?_
 cases p1<;>first|(cases e2;done)|skip
 obtain⟨hy,rfl⟩:=cb e2
 exact⟨_,b1.str,b2.int,hy,q _ H2 (s1.trans s2) (.str _)⟩
end
theorem walkD2{l:PySem.W.OpenLaw}{n k:Nat}{q:Program}{loose:List Str}{XP:(Str->Option Value)->Heap->Prop}{YP:World->Heap->Prop}{d:DefRec}{K:Params->PySem.W.Frag}{x:Str}{F:List PV->Option PV}
  (hn:l.most=some n)(RA:n<=sizeLine)(Wj:d.params.defaults=[])(hr:c8 k callerA)
  (hY:∀(w:World) (h:Heap),YP w h->(K w.params).In h)
  (FF:∀(w:World) (mg:Str->Option Value) (fa:Addr) (h:Heap),(K w.params).In h->h.Ns mainGlobals mg->mg d.name=some (.ref fa)->
    ∃(κ:Kl) (fd:FuncData),(∀(s:Shared) (u:Value),BindsTo s fd ⟨[u],[]⟩ [(x,u)])/\
     ∀base:Heap,(K w.params).In base->base.Ns mainGlobals mg->aK l.prog w (K w.params) mg base cX k fa fd [x] (hR (K w.params) κ false F))
  (hF:∀ns:List Int,ns.length<=n->F [.lst (ns.map .int)]=some (.bl true)):
  PySem.W.WalkO q loose XP YP l.row.toRowW d [] (λf vs=>PySem.call f vs):=by
 refine Att.zO hn Wj λw s₀ s₁ mg mb fa o pm cd doc a vs ns G Y ho hd j0 SU OQ hints hlen hg=>?_
 have KX:=hY w _ Y
 obtain⟨κ,fd,hb,ZN⟩:=FF w mg fa _ KX G.T.g SU
 refine E9 KX G.T.g G.T.b G.T.builtins G.T.nolimit hg OQ hints (z0T hlen RA) hr ZN hb (λH hO hS=>?_) λH e s' z=>z
 have e:hide (λ_=>False) H=H:=by
  funext b
  exact bJ λz=>z
 refine⟨λ_=>False,[.lst (ns.map .int)],.bl true,λb z=>z.elim,.cons ?_ .nil,hF ns hlen,λv H' s z=>?_⟩
 ·rw[e]
  exact .lst hS (ints_rep ns)
 ·cases(show Rep (K w.params) κ _ v (.bl true)from z)
  rfl
theorem ik.mono{P:Program}{w:World}{K:PySem.W.Frag}{mg:Str->Option Value}{base:Heap}{κ:Kl}{fr:Bool}{m:Str}{j k:Nat}{ps:List Str}{Fs:Nat->List PV->Option PV}(M:ik P w K mg base κ fr m j ps Fs)(h:j<=k):ik P w K mg base κ fr m k ps Fs:=λc xs p e=>by
 obtain⟨f,fd,h1,h2,h3,h4,h5⟩:=M c xs p e
 exact⟨f,fd,h1,h2,h3,h4.mono h,h5⟩
structure Em(K:PySem.W.Frag)(x q:Str)(st:Stmt)(ps:List Str)(f:Addr)(fd:FuncData):Prop where
 F:L2.rQ K x q st f fd
 b:L2.Binds K fd ps []
def LH(s:Stmt)(j:Nat):Stmt:=match s with
 |.ClassDef _ _ _ b _ _ _ _ _ _ _=>b.getD j (.Pass ⟨0,0,0,0⟩)
 |_=>.Pass ⟨0,0,0,0⟩
section
variable{K:PySem.W.Frag}{mg:Str->Option Value}{κ:Kl}{CR CC fH fA fY fS fC:Addr}
theorem HU{c:Nat}{f:Str}(h:f∈RK c):(c=0/\f= "name")\/(0<c/\c<4/\(f= "wanted" \/f= "parts")):=by
 unfold RK at h
 split at h
 ·exact .inl ⟨by assumption,by simpa using h⟩
 ·split at h
  ·exact .inr ⟨by omega,by assumption,by simpa using h⟩
  ·cases h
end
theorem mH{α:Type}{us:List α}(h:us.length=1):∃a,us=[a]:=z11.mp h
theorem pB{α:Type}{us:List α}(h:us.length=2):∃a b,us=[a,b]:=match us,h with|[a,b],_=>⟨a,b,rfl⟩
theorem yn{α:Type}{us:List α}(h:us.length=3):∃a b c,us=[a,b,c]:=match us,h with|[a,b,c],_=>⟨a,b,c,rfl⟩
theorem Pt{α:Type}{us:List α}(h:us.length=4):∃a b c d,us=[a,b,c,d]:=match us,h with|[a,b,c,d],_=>⟨a,b,c,d,rfl⟩
end L2.D
namespace L2.D
open PySem
def toS:PV->Option Str
 |.str x=>some x
 |_=>none
theorem iI{p:PV}{x:Str}(h:toS p=some x):p=.str x:=by
 cases p<;>first|(cases h;done)|skip
 cases h
 rfl
def WE(x y:Str):Bool:=!(Builtin.Str.occurrences y x 0 y.length 1).isEmpty
def HV(p q:PV):Option PV:=(toS p).bind λx=>(toS q).bind λy=>some (.bl (WE x y))
def signs(x:Str):List PV:=x.cps.toList.map λc=>.str ⟨#[c]⟩
def Ts(a:Den):eF:=λρ=>(a ρ).bind λp=>(toS p).bind λx=>if x.cps.all (·<128)then some (signs x)else none
end L2.D
namespace L2.D
open PySem PySem.Spec PyProof.Rows PySem.SeqAt
section
variable{X:Cx}{κ:Kl}{a b c:Expr}{fa fb fc:Den}{pos:Pos}
theorem Pu(ha:DB X κ a fa)(hb:DB X κ b fb):DC X κ .In a b (ae HV fa fb):=by
 obtain⟨ta,h1,h2⟩:=ha
 obtain⟨tb,h3,h4⟩:=hb
 refine⟨_,_,_,EV,h1,h3,λ{G A bo own ρ σ H p Q} r e q=>?_⟩
 refine qA h2 h4 r e λx y p1 p2 H' s r' b1 b2 e'=>?_
 obtain⟨i,e1,e2⟩:=Zt.mp e'
 obtain⟨j,e3,e4⟩:=Zt.mp e2
 cases iI e1
 cases iI e3
 cases e4
 exact⟨i,j,b1.str,b2.str,q _ H' s (.bl _)⟩
theorem Aq{K:PySem.W.Frag}{H:Hp}:∀ts:List Str,aZ K κ H (ts.map V.str) (ts.map PV.str)
 |[]=>.nil
 |t::ts=>.cons (.str t) (Aq ts)
end
def WG(x:Str):It:=⟨λi _=>i<x.cps.size,λi H v H'=>H'=H/\∃c,x.cps[i]?=some c/\v=.str ⟨#[c]⟩,λi _=>x.cps.size<=i⟩
theorem HW{P:Program}{w:World}{K:PySem.W.Frag}{tg:Expr}(x:Str)(t:Tok)(it:Addr):Turn P w K tg (WG x) [it] it (λi h=>h.IsStrIter it "str_ascii_iterator" x t i) where
 mem:=by simp
 obj:=λi h st b hb=>by
  have e:b=it:=by simpa using hb
  subst e
  obtain⟨o,e,c,d⟩:=st
  exact⟨o,e,λv z=>by rw[d]at z;cases z⟩
 keep:=λi h h' st k=>by
  obtain⟨o,e,r⟩:=st
  exact⟨o,k it (by simp) o e,r⟩
 item:=by
  intro X hP hw hK hc i pins s σ H E I hf st hg
  subst hP hw hK
  have hi:i<x.cps.size:=hg
  obtain⟨f0,f1,f2,f3,f4,f5⟩:=hf it (by simp)
  refine wpAny_pyNext_ascii_item st (c:=x.cps[i]) (by simp[hi]) λh' GP sb=>?_
  have I1:Inv X pins σ H {s with heap:=h',toks:=s.toks+1}:=I.turned (t':=s.toks+1) (λb o hb e=>sb.extBut b o hb e) f0 f1 f3 f4 f5
  obtain⟨o,e,c,d⟩:=id GP
  exact⟨_,rfl,Di (s:={s with heap:=h',toks:=s.toks+1}) e c d (by decide) ⟨.str ⟨#[x.cps[i]]⟩,H,I1,⟨_,rfl⟩,⟨rfl,x.cps[i],by simp[hi],rfl⟩,GP,λb hb=>(hf b hb).1⟩⟩
 done:=by
  intro X hP hw hK hc i pins s σ H E I hf st hg
  subst hP hw hK
  obtain⟨f0,f1,f2,f3,f4,f5⟩:=hf it (by simp)
  have hi:x.cps.size<=i:=hg
  exact wpAny_pyNext_ascii_end (I.ok.hd hc) st (by simp;omega) λh' eb=>⟨rfl,I.turned (t':=s.toks) (λb o hb e=>eb b o hb e) f0 f1 f3 f4 f5⟩
 self:=λ_ _ _ _ _ st h=>wpAny_pyIter_striter_ascii st h
section
variable{X:Cx}{κ:Kl}{tg e:Expr}{f:Den}
theorem Pw{l:Expr}{tl:TE}(hl:PE X l tl):PI X tg l (λσ H R=>tl σ H λv H1=>∃x,v=.str x/\x.cps.all (·<128)=true/\R (WG x) H1):=by
 intro pins s σ H R I h
 refine dN (hl pins s σ H _ I h) λv s1 cZ=>?_
 obtain⟨y,H1,I1,r1,x,ex,hx,q⟩:=cZ
 subst ex
 obtain⟨t,rfl⟩:=r1
 refine wpAny_pyIter_ascii hx ?_
 refine⟨s1.heap.objs.size,[s1.heap.objs.size],_,_,H1,rfl,I1.kept (t':=s1.toks) λb o e=>Zv _ e,HW x t _,⟨_,z0H _ rfl,rfl,rfl⟩,λb hb=>?_,q⟩
 have e:b=s1.heap.objs.size:=by simpa using hb
 subst e
 exact I1.GO (U5 _) (I1.dU.fresh (U5 _))
theorem HY{K:PySem.W.Frag}{Gs:Hp}{A:Addr->Prop}(x:Str):yk K κ Gs A (WG x) (signs x):=λi H2 s=>by
 refine⟨λp e=>?_,λhl=>show x.cps.size<=i by simpa[signs]using hl⟩
 unfold signs at e
 rw[z0f]at e
 obtain⟨c,h1,rfl⟩:=Zu.mp e
 obtain⟨h2,h3⟩:=z0C.mp h1
 refine⟨show i<x.cps.size by simpa using h2,λv H3 cZ=>?_⟩
 obtain⟨y1,c',y2,y3⟩:=cZ
 subst y1 y3
 have:c'=c:=by
  rw[<-z05,h1]at y2
  exact(z0O y2).symm
 subst this
 exact⟨aE.refl _,λB _ _=>.str _⟩
theorem LJ(h:DB X κ e f):O8 X κ tg e (Ts f):=by
 obtain⟨te,h1,h2⟩:=h
 refine⟨_,Pw h1,λ{G A bo own ρ σ H ps Q} r e q=>?_⟩
 obtain⟨p,e1,e2⟩:=Zt.mp e
 obtain⟨x,e3,e4⟩:=Zt.mp e2
 cases iI e3
 obtain⟨hx,rfl⟩:=cb e4
 refine h2 r e1 λv H' s z=>?_
 exact⟨x,z.str,hx,q _ H' s (HY x)⟩
end
end L2.D
namespace L2.D
open PySem PySem.Spec PyProof.Rows PySem.SeqAt
open Classical
abbrev SI(h:Heap)(a:Addr)(x:Str)(t:Tok)(n:Nat):Prop:=h.IsStrIter a "str_ascii_iterator" x t n
theorem SI.up{h h':Heap}{a:Addr}{x:Str}{t:Tok}{n:Nat}(k:SI h a x t n)(up:∀o,h.get? a=some o->h'.get? a=some o):SI h' a x t n:=by
 obtain⟨o,e,r⟩:=k
 exact⟨o,up o e,r⟩
section
variable{prog:Program}{w:World}{A:Around}{E:Value->Shared->Prop}{s:Shared}{z TI TO i1 i2:Addr}{x y:Str}{t u:Tok}{n:Nat}{a b:Value}
theorem LK{c d:Nat}{Q:PySem.Fin->Shared->Prop}(D:ZipApart z TI TO i1 i2 TI TI)(z0:IsZip s.heap z TI TO .none)(p0:IsPair s.heap TI (.ref i1) (.ref i2))(q0:IsPair s.heap TO a b)(r1:SI s.heap i1 x t n)(r2:SI s.heap i2 y u n)(e1:x.cps[n]?=some c)(e2:y.cps[n]?=some d)
  (k:∀h' t1 t2 tk,IsZip h' z TI TO (rawInt s.heap.objs.size)->IsPair h' TO (.str ⟨#[c]⟩ t1) (.str ⟨#[d]⟩ t2)->SI h' i1 x t (n+1)->SI h' i2 y u (n+1)->IsPair h' s.heap.objs.size (.str ⟨#[c]⟩ t1) (.str ⟨#[d]⟩ t2)->(∀e o,e≠z->e≠TO->e≠i1->e≠i2->s.heap.get? e=some o->h'.get? e=some o)->Q (.done (.ret (.ref s.heap.objs.size))) {s with heap:=h',toks:=tk}):
  wpAny (model prog w) A (Builtin.«zip.__next__» ⟨[.ref z],[]⟩) Q E s:=by
 show wpAny _ _ (field (.ref z) 2>>=_) _ _ _
 refine wpAny_bind (wpAny_field z0 rfl (x:=.bool false) rfl ?_)
 show wpAny _ _ (field (.ref z) 3>>=_) _ _ _
 refine wpAny_bind (wpAny_field z0 rfl (x:=.ref TI) rfl (wpAny_bind (wpAny_seqItems p0 rfl ?_)))
 show wpAny _ _ (Builtin.SmallTypes.ownedTupleIsFree (.ref z)>>=_) _ _ _
 refine wpAny_bind ?_
 unfold Builtin.SmallTypes.ownedTupleIsFree
 refine wpAny_bind (wpAny_field z0 rfl (x:=.none) rfl (wpAny_pure ?_))
 simp only[if_true]
 refine wpAny_bind (wpAny_rule (wpAny_bind (wpAny_field z0 rfl (x:=.ref TO) rfl (wpAny_bind (wpAny_setField_rec z0 (by simp) λg1 z1 m1=>?_)))))
 have U9:IsZip g1 z TI TO .ellipsis:=z1
 refine wpAny_bind ?_
 simp only[List.zipIdx_cons,List.zipIdx_nil,z1x,List.forIn_nil]
 refine wpAny_bind (wpAny_bind (wpAny_onRaise ?_))
 show wpAny _ _ (Builtin.SmallTypes.nextOf (.ref i1)>>=_) _ _ _
 refine wpAny_bind (wpAny_nextOf_ascii_item (r1.extBut m1.extBut D.i1z) e1 λg2 k2 m2=>wpAny_pure ?_)
 have q2:IsPair g2 TO a b:=m2.extBut _ _ D.TOi1 (m1.extBut _ _ D.TOz q0)
 refine wpAny_bind (wpAny_seqItems q2 rfl (wpAny_bind (wpAny_updateSeq_pair q2 λg3 q3 m3=>?_)))
 refine wpAny_bind (wpAny_letGo (wpAny_pure (wpAny_bind (wpAny_bind (wpAny_onRaise ?_)))))
 show wpAny _ _ (Builtin.SmallTypes.nextOf (.ref i2)>>=_) _ _ _
 refine wpAny_bind (wpAny_nextOf_ascii_item (((r2.extBut m1.extBut D.i2z).extBut m2.extBut D.i12.symm).extBut m3.extBut D.TOi2.symm) e2 λg4 k4 m4=>wpAny_pure ?_)
 have q4:IsPair g4 TO (.str ⟨#[c]⟩ s.toks) b:=m4.extBut _ _ D.TOi2 q3
 refine wpAny_bind (wpAny_seqItems q4 rfl (wpAny_bind (wpAny_updateSeq_pair q4 λg5 q5 m5=>?_)))
 have Yj:IsPair g5 TO (.str ⟨#[c]⟩ s.toks) (.str ⟨#[d]⟩ (s.toks+1)):=q5
 refine wpAny_bind (wpAny_letGo (wpAny_pure (wpAny_pure (wpAny_bind (wpAny_seqItems Yj rfl (wpAny_bind (wpAny_newTuple ?_)))))))
 have sz:g5.objs.size=s.heap.objs.size:=by rw[m5.1,m4.1,m3.1,m2.1,m1.1]
 have z5:IsZip g5 z TI TO .ellipsis:=m5.extBut _ _ D.TOz.symm (m4.extBut _ _ D.i2z.symm (m3.extBut _ _ D.TOz.symm (m2.extBut _ _ D.i1z.symm U9)))
 have f5:∀e o,e≠z->e≠TO->e≠i1->e≠i2->s.heap.get? e=some o->g5.get? e=some o:=λe o c1 c2 c3 c4 h=>m5.extBut _ _ c2 (m4.extBut _ _ c4 (m3.extBut _ _ c2 (m2.extBut _ _ c3 (m1.extBut _ _ c1 h))))
 have k5:SI g5 i1 x t (n+1):=((k2.extBut m3.extBut D.TOi1.symm).extBut m4.extBut D.i12).extBut m5.extBut D.TOi1.symm
 have l5:SI g5 i2 y u (n+1):=k4.extBut m5.extBut D.TOi2.symm
 have lt:=z0A z5
 show wpAny _ _ (Builtin.SmallTypes.ownedTupleHandOut (.ref z) (.ref g5.objs.size)>>=_) _ _ _
 refine wpAny_bind ?_
 unfold Builtin.SmallTypes.ownedTupleHandOut
 have z6:IsZip (g5.push {cls:=.type "tuple",data:=.seq #[.str ⟨#[c]⟩ s.toks,.str ⟨#[d]⟩ (s.toks+1)]}) z TI TO .ellipsis:=Zv _ z5
 refine wpAny_bind (wpAny_setField_rec z6 (by simp) λg7 z7 m7=>?_)
 have ZO:IsZip g7 z TI TO (rawInt g5.objs.size):=z7
 refine wpAny_setField_rec ZO (by simp) λg8 z8 m8=>?_
 have Yk:IsZip g8 z TI TO (rawInt g5.objs.size):=z8
 have up:∀e o,e≠z->g5.get? e=some o->g8.get? e=some o:=λe o c1 h=>m8.extBut _ _ c1 (m7.extBut _ _ c1 (Zv _ h))
 have t8:IsPair g8 g5.objs.size (.str ⟨#[c]⟩ s.toks) (.str ⟨#[d]⟩ (s.toks+1)):=m8.extBut _ _ (z1O lt) (m7.extBut _ _ (z1O lt) (z0H _ rfl))
 rw[sz]at Yk t8
 refine wpAny_pure ?_
 show Q (.done (.ret (.ref g5.objs.size))) _
 rw[sz]
 exact k g8 _ _ _ Yk (up _ _ D.TOz Yj) (k5.up λo e=>up _ o D.i1z e) (l5.up λo e=>up _ o D.i2z e) t8 λe o c1 c2 c3 c4 h=>up e o c1 (f5 e o c1 c2 c3 c4 h)
theorem Px{Q:PySem.Fin->Shared->Prop}(hh:A.handled=none)(D:ZipApart z TI TO i1 i2 TI TI)(z0:IsZip s.heap z TI TO .none)(p0:IsPair s.heap TI (.ref i1) (.ref i2))(q0:IsPair s.heap TO a b)(r1:SI s.heap i1 x t n)(r2:SI s.heap i2 y u n)(e0:x.cps[n]?=none\/y.cps[n]?=none)
  (k:∀h' e tk,(∀f o,f≠z->f≠TO->f≠i1->f≠i2->s.heap.get? f=some o->h'.get? f=some o)->(∃o,h'.get? e=some o/\o.cls=.type "StopIteration")->E (.ref e) {s with heap:=h',toks:=tk}):
  wpAny (model prog w) A (Builtin.«zip.__next__» ⟨[.ref z],[]⟩) Q E s:=by
 show wpAny _ _ (field (.ref z) 2>>=_) _ _ _
 refine wpAny_bind (wpAny_field z0 rfl (x:=.bool false) rfl ?_)
 show wpAny _ _ (field (.ref z) 3>>=_) _ _ _
 refine wpAny_bind (wpAny_field z0 rfl (x:=.ref TI) rfl (wpAny_bind (wpAny_seqItems p0 rfl ?_)))
 show wpAny _ _ (Builtin.SmallTypes.ownedTupleIsFree (.ref z)>>=_) _ _ _
 refine wpAny_bind ?_
 unfold Builtin.SmallTypes.ownedTupleIsFree
 refine wpAny_bind (wpAny_field z0 rfl (x:=.none) rfl (wpAny_pure ?_))
 simp only[if_true]
 refine wpAny_bind (wpAny_rule (wpAny_bind (wpAny_field z0 rfl (x:=.ref TO) rfl (wpAny_bind (wpAny_setField_rec z0 (by simp) λg1 z1 m1=>?_)))))
 have U9:IsZip g1 z TI TO .ellipsis:=z1
 refine wpAny_bind ?_
 simp only[List.zipIdx_cons,List.zipIdx_nil,z1x,List.forIn_nil]
 refine wpAny_bind (wpAny_bind (wpAny_onRaise ?_))
 show wpAny _ _ (Builtin.SmallTypes.nextOf (.ref i1)>>=_) _ _ _
 cases ex:x.cps[n]? with
 |none=>
  refine wpAny_bind (wpAny_nextOf_ascii_end hh (r1.extBut m1.extBut D.i1z) ex λg2 e m2 he=>?_)
  obtain⟨oe,h1,h2⟩:=he
  have z2:IsZip g2 z TI TO .ellipsis:=m2 _ _ D.i1z.symm U9
  have ne:e≠z:=λv=>by subst v;rw[z2]at h1;cases h1;simp at h2
  exact wpAny_setField_rec z2 (by simp) λg3 _ m3=>k g3 e _ (λf o c1 _ c3 _ v=>m3.extBut _ _ c1 (m2 _ _ c3 (m1.extBut _ _ c1 v))) ⟨oe,m3.extBut _ _ ne h1,h2⟩
 |some c=>
  have ey:y.cps[n]?=none:=by rcases e0 with h|h;rw[ex]at h;cases h;exact h
  refine wpAny_bind (wpAny_nextOf_ascii_item (r1.extBut m1.extBut D.i1z) ex λg2 k2 m2=>wpAny_pure ?_)
  have q2:IsPair g2 TO a b:=m2.extBut _ _ D.TOi1 (m1.extBut _ _ D.TOz q0)
  refine wpAny_bind (wpAny_seqItems q2 rfl (wpAny_bind (wpAny_updateSeq_pair q2 λg3 q3 m3=>?_)))
  refine wpAny_bind (wpAny_letGo (wpAny_pure (wpAny_bind (wpAny_bind (wpAny_onRaise ?_)))))
  show wpAny _ _ (Builtin.SmallTypes.nextOf (.ref i2)>>=_) _ _ _
  refine wpAny_bind (wpAny_nextOf_ascii_end hh (((r2.extBut m1.extBut D.i2z).extBut m2.extBut D.i12.symm).extBut m3.extBut D.TOi2.symm) ey λg4 e m4 he=>?_)
  obtain⟨oe,h1,h2⟩:=he
  have z4:IsZip g4 z TI TO .ellipsis:=m4 _ _ D.i2z.symm (m3.extBut _ _ D.TOz.symm (m2.extBut _ _ D.i1z.symm U9))
  have ne:e≠z:=λv=>by subst v;rw[z4]at h1;cases h1;simp at h2
  exact wpAny_setField_rec z4 (by simp) λg5 _ m5=>k g5 e _ (λf o c1 c2 c3 c4 v=>m5.extBut _ _ c1 (m4 _ _ c4 (m3.extBut _ _ c2 (m2.extBut _ _ c3 (m1.extBut _ _ c1 v))))) ⟨oe,m5.extBut _ _ ne h1,h2⟩
theorem Ff{c d:Nat}{Q:Option Value->Shared->Prop}(D:ZipApart z TI TO i1 i2 TI TI)(z0:IsZip s.heap z TI TO .none)(p0:IsPair s.heap TI (.ref i1) (.ref i2))(q0:IsPair s.heap TO a b)(r1:SI s.heap i1 x t n)(r2:SI s.heap i2 y u n)(e1:x.cps[n]?=some c)(e2:y.cps[n]?=some d)
  (k:∀h' t1 t2 tk,IsZip h' z TI TO (rawInt s.heap.objs.size)->IsPair h' TO (.str ⟨#[c]⟩ t1) (.str ⟨#[d]⟩ t2)->SI h' i1 x t (n+1)->SI h' i2 y u (n+1)->IsPair h' s.heap.objs.size (.str ⟨#[c]⟩ t1) (.str ⟨#[d]⟩ t2)->(∀e o,e≠z->e≠TO->e≠i1->e≠i2->s.heap.get? e=some o->h'.get? e=some o)->Q (some (.ref s.heap.objs.size)) {s with heap:=h',toks:=tk}):
  wpAny (model prog w) A (pyNext (.ref z)) Q E s:=by
 have ty:s.TypeIs (.ref z) "zip" :=⟨_,z0,rfl⟩
 unfold pyNext
 exact wpAny_bind (wpAny_attempt (wpAny_callSpecial?_slot (name:=Str.ofString "__next__") ty F.slot_zip_next (wpAny_call_entry F.slot_zip_next ty F.entry_zip_next (LK D z0 p0 q0 r1 r2 e1 e2 λh' t1 t2 tk a1 a2 a3 a4 a5 a6=>⟨_,rfl,wpAny_pure (k h' t1 t2 tk a1 a2 a3 a4 a5 a6)⟩) (F.args_zip_next_1 _))))
theorem HZ{Q:Option Value->Shared->Prop}(hh:A.handled=none)(D:ZipApart z TI TO i1 i2 TI TI)(z0:IsZip s.heap z TI TO .none)(p0:IsPair s.heap TI (.ref i1) (.ref i2))(q0:IsPair s.heap TO a b)(r1:SI s.heap i1 x t n)(r2:SI s.heap i2 y u n)(e0:x.cps[n]?=none\/y.cps[n]?=none)
  (k:∀h' tk,(∀f o,f≠z->f≠TO->f≠i1->f≠i2->s.heap.get? f=some o->h'.get? f=some o)->Q none {s with heap:=h',toks:=tk}):wpAny (model prog w) A (pyNext (.ref z)) Q E s:=by
 have ty:s.TypeIs (.ref z) "zip" :=⟨_,z0,rfl⟩
 unfold pyNext
 refine wpAny_bind (wpAny_attempt (wpAny_callSpecial?_slot (name:=Str.ofString "__next__") ty F.slot_zip_next (wpAny_call_entry F.slot_zip_next ty F.entry_zip_next (Px hh D z0 p0 q0 r1 r2 e0 λh' e tk g he=>?_) (F.args_zip_next_1 _))))
 obtain⟨o,h1,h2⟩:=he
 exact wpAny_bind (wpAny_isInstance (T:= "StopIteration") (b:=true) ⟨o,h1,h2⟩ isSubtype_stop (wpAny_pure (k _ _ g)))
end
abbrev Py(h:Heap)(x:Str)(t:Tok):Heap:=h.push {cls:=.type "str_ascii_iterator",data:=.fields #[.str x t,.int 0 0]}
abbrev Va(h:Heap)(x:Str)(t:Tok)(y:Str)(u:Tok):Heap:=Py (Py h x t) y u
abbrev Vb(h:Heap)(x:Str)(t:Tok)(y:Str)(u:Tok):Heap:=(Va h x t y u).push {cls:=.type "tuple",data:=.seq #[.ref h.objs.size,.ref (Py h x t).objs.size]}
abbrev Vc(h:Heap)(x:Str)(t:Tok)(y:Str)(u:Tok):Heap:=(Vb h x t y u).push {cls:=.type "tuple",data:=.seq #[.none,.none]}
abbrev RL(h:Heap)(x:Str)(t:Tok)(y:Str)(u:Tok):Heap:=(Vc h x t y u).push {cls:=.type "zip",data:=.fields #[.none,.bool false,.bool false,.ref (Va h x t y u).objs.size,.ref (Vb h x t y u).objs.size]}
theorem Pz(x:Str)(t:Tok)(y:Str)(u:Tok)(hx:x.cps.all (·<128)=true)(hy:y.cps.all (·<128)=true):
  Meets (Builtin.«zip.__new__» ⟨[.type "zip",.str x t,.str y u],[]⟩) (λ_ R s=>R (.ok (.ret (.ref (Vc s.heap x t y u).objs.size))) {s with heap:=RL s.heap x t y u}):=
 .of_wp λprog w A R s h=>by
  obtain⟨hp,g,d,tk,os⟩:=s
  have ZP:=sub_zip
  have w1:=λ(prog:Program) (w:World) (A:Around) (E:Value->Shared->Prop) (s:Shared) (Q:Value->Shared->Prop) (q:Q (.ref s.heap.objs.size) {s with heap:=Py s.heap x t})=>wpAny_pyIter_ascii (prog:=prog) (w:=w) (A:=A) (E:=E) (s:=s) (t:=t) hx q
  have w2:=λ(prog:Program) (w:World) (A:Around) (E:Value->Shared->Prop) (s:Shared) (Q:Value->Shared->Prop) (q:Q (.ref s.heap.objs.size) {s with heap:=Py s.heap y u})=>wpAny_pyIter_ascii (prog:=prog) (w:=w) (A:=A) (E:=E) (s:=s) (t:=u) hy q
  wp_walk using w1,w2
  exact⟨_,rfl,h⟩
theorem Ic(n:Nat):ZipApart (n+4) (n+2) (n+3) n (n+1) (n+2) (n+2):=by
 refine⟨?_,?_,?_,?_,?_,?_,?_,?_,?_,?_,?_,?_,?_,?_,?_,?_,?_,?_⟩<;>(intro(e:(_:Nat)=_);omega)
theorem LL{prog:Program}{w:World}{A:Around}{E:Value->Shared->Prop}{s:Shared}{x y:Str}{t u:Tok}{Q:Value->Shared->Prop}(hx:x.cps.all (·<128)=true)(hy:y.cps.all (·<128)=true)
  (k:∀h',IsZip h' (s.heap.objs.size+4) (s.heap.objs.size+2) (s.heap.objs.size+3) .none->IsPair h' (s.heap.objs.size+2) (.ref s.heap.objs.size) (.ref (s.heap.objs.size+1))->IsPair h' (s.heap.objs.size+3) .none .none->SI h' s.heap.objs.size x t 0->SI h' (s.heap.objs.size+1) y u 0->
    (∀c o,s.heap.get? c=some o->h'.get? c=some o)->Q (.ref (s.heap.objs.size+4)) {s with heap:=h'}):wpAny (model prog w) A (call (.type "zip") [.str x t,.str y u]) Q E s:=by
 refine callType_new F.called_zip (by decide) (F.typeCall_zip_2 _ _) (F.newCall_zip_2 _ _) (λobj=>F.args_object_init_3 obj _ _) F.entry_zip_new (Pz x t y u hx hy) ?_
 have n1:(Py s.heap x t).objs.size=s.heap.objs.size+1:=z1D ..
 have n2:(Va s.heap x t y u).objs.size=s.heap.objs.size+2:=by rw[z1D,n1]
 have n3:(Vb s.heap x t y u).objs.size=s.heap.objs.size+3:=by rw[z1D,n2]
 have n4:(Vc s.heap x t y u).objs.size=s.heap.objs.size+4:=by rw[z1D,n3]
 have g5:(RL s.heap x t y u).get? (Vc s.heap x t y u).objs.size=some _:=z0H _ rfl
 have g4:(RL s.heap x t y u).get? (Vb s.heap x t y u).objs.size=some _:=Zv _ (z0H _ rfl)
 have g3:(RL s.heap x t y u).get? (Va s.heap x t y u).objs.size=some _:=Zv _ (Zv _ (z0H _ rfl))
 have g2:(RL s.heap x t y u).get? (Py s.heap x t).objs.size=some _:=Zv _ (Zv _ (Zv _ (z0H _ rfl)))
 have g1:(RL s.heap x t y u).get? s.heap.objs.size=some _:=Zv _ (Zv _ (Zv _ (Zv _ (z0H _ rfl))))
 show _/\_
 rw[n2,n3,n4]at g5
 rw[n1,n2]at g3
 rw[n3]at g4
 rw[n1]at g2
 rw[n4]
 exact⟨⟨_,g5,rfl⟩,k _ g5 g3 g4 ⟨_,g1,rfl,rfl⟩ ⟨_,g2,rfl,rfl⟩ λc o v=>Zv _ (Zv _ (Zv _ (Zv _ (Zv _ v))))⟩
def PD(x y:Str):It:=
 ⟨λi _=>i<x.cps.size/\i<y.cps.size,
  λi H v H'=>∃p c d,H p=none/\v=.ref p/\H'=upd H p (.tup [.str ⟨#[c]⟩,.str ⟨#[d]⟩])/\x.cps[i]?=some c/\y.cps[i]?=some d,
  λi _=>x.cps.size<=i\/y.cps.size<=i⟩
def ZQ(z TI TO i1 i2:Addr)(x y:Str)(t u:Tok)(i:Nat)(h:Heap):Prop:=IsZip h z TI TO .none/\IsPair h TI (.ref i1) (.ref i2)/\(∃a b,IsPair h TO a b)/\SI h i1 x t i/\SI h i2 y u i
theorem Fg{P:Program}{w:World}{K:PySem.W.Frag}{elts:List Expr}{x1:Nat}{pos:Pos}{z TI TO i1 i2:Addr}{x y:Str}{t u:Tok}(D:ZipApart z TI TO i1 i2 TI TI):
  Turn P w K (.Tuple elts x1 pos) (PD x y) [z,TI,TO,i1,i2] z (ZQ z TI TO i1 i2 x y t u) where
 mem:=by simp
 obj:=λi h st b hb=>by
  obtain⟨z0,p0,⟨a,c,q0⟩,⟨o1,e1,c1,d1⟩,⟨o2,e2,c2,d2⟩⟩:=st
  have pA:b=z\/b=TI\/b=TO\/b=i1\/b=i2:=by simpa using hb
  rcases pA with rfl|rfl|rfl|rfl|rfl
  ·exact⟨_,z0,λv q=>by cases q⟩
  ·exact⟨_,p0,λv q=>by cases q⟩
  ·exact⟨_,q0,λv q=>by cases q⟩
  ·exact⟨_,e1,λv q=>by rw[d1]at q;cases q⟩
  ·exact⟨_,e2,λv q=>by rw[d2]at q;cases q⟩
 keep:=λi h h' st k=>by
  obtain⟨z0,p0,⟨a,c,q0⟩,h1,h2⟩:=st
  exact⟨k _ (by simp) _ z0,k _ (by simp) _ p0,⟨a,c,k _ (by simp) _ q0⟩,h1.up λo e=>k _ (by simp) o e,h2.up λo e=>k _ (by simp) o e⟩
 item:=by
  intro X hP hw hK hc i pins s σ H E I hf st hg
  subst hP hw hK
  obtain⟨lx,ly⟩:i<x.cps.size/\i<y.cps.size:=hg
  obtain⟨z0,p0,⟨a,c,q0⟩,h1,h2⟩:=st
  refine Ff D z0 p0 q0 h1 h2 (c:=x.cps[i]) (d:=y.cps[i]) (by simp[lx]) (by simp[ly]) λh' t1 t2 tk a1 a2 a3 a4 a5 a7=>?_
  refine⟨.ref s.heap.objs.size,rfl,wpAny_letOwnedTupleGo_zip (s:={s with heap:=h',toks:=tk}) a1 λPF b1 b2=>?_⟩
  have ZR:z<s.heap.objs.size:=z0A z0
  have up:∀b o,b≠z->h'.get? b=some o->PF.get? b=some o:=λb o hb e=>(b2.2 b hb).trans e
  have kp:∀b o,b∉[z,TO,i1,i2]->s.heap.get? b=some o->PF.get? b=some o:=λb o hb e=>by
   have pA:b≠z/\b≠TO/\b≠i1/\b≠i2:=by simpa using hb
   exact up b o pA.1 (a7 b o pA.1 pA.2.1 pA.2.2.1 pA.2.2.2 e)
  have Tt:IsPair PF s.heap.objs.size (.str ⟨#[x.cps[i]]⟩ t1) (.str ⟨#[y.cps[i]]⟩ t2):=up _ _ (z1O ZR) a5
  have fr:H s.heap.objs.size=none:=I.dU.fresh (U5 _)
  refine⟨.ref s.heap.objs.size,upd H s.heap.objs.size (.tup [.str ⟨#[x.cps[i]]⟩,.str ⟨#[y.cps[i]]⟩]),?_,rfl,?_,?_,?_⟩
  ·refine I.Fb (t':=tk) (ch:=[z,TO,i1,i2]) kp (λb hb=>hf b ?_) ?_
   ·have pA:b=z\/b=TO\/b=i1\/b=i2:=by simpa using hb
    rcases pA with rfl|rfl|rfl|rfl<;>simp
   ·exact⟨⟨by show 2<=sizeLine;decide,⟨_,Tt,rfl⟩⟩,[_,_],.cons ⟨_,rfl⟩ (.cons ⟨_,rfl⟩ .nil),⟨_,Tt,rfl,_,rfl⟩⟩
  ·exact⟨_,_,_,fr,rfl,rfl,by simp[lx],by simp[ly]⟩
  ·exact⟨b1,up _ _ D.TIz (a7 _ _ D.TIz D.TITO D.TIi1 D.TIi2 p0),⟨_,_,up _ _ D.TOz a2⟩,a3.up λo e=>up _ _ D.i1z e,a4.up λo e=>up _ _ D.i2z e⟩
  ·intro b hb
   have:b<s.heap.objs.size:=by
    have pA:b=z\/b=TI\/b=TO\/b=i1\/b=i2:=by simpa using hb
    obtain⟨o1,e1,_⟩:=h1
    obtain⟨o2,e2,_⟩:=h2
    rcases pA with rfl|rfl|rfl|rfl|rfl
    ·exact z0A z0
    ·exact z0A p0
    ·exact z0A q0
    ·exact z0A e1
    ·exact z0A e2
   rw[au (z0V this)]
   exact(hf b hb).1
 done:=by
  intro X hP hw hK hc i pins s σ H E I hf st hg
  subst hP hw hK
  have WH:x.cps.size<=i\/y.cps.size<=i:=hg
  obtain⟨z0,p0,⟨a,c,q0⟩,h1,h2⟩:=st
  refine HZ (I.ok.hd hc) D z0 p0 q0 h1 h2 (by
   rcases WH with q|q
   ·exact .inl (by simp;omega)
   ·exact .inr (by simp;omega)) λh' tk k=>⟨rfl,I.Lv (t':=tk) (ch:=[z,TO,i1,i2]) (λb o hb e=>?_) λb hb=>hf b ?_⟩
  ·have pA:b≠z/\b≠TO/\b≠i1/\b≠i2:=by simpa using hb
   exact k b o pA.1 pA.2.1 pA.2.2.1 pA.2.2.2 e
  ·have pA:b=z\/b=TO\/b=i1\/b=i2:=by simpa using hb
   rcases pA with rfl|rfl|rfl|rfl<;>simp
 self:=λ_ _ _ _ _ st h=>wpAny_pyIter_zip st.1 h
section
variable{X:Cx}{κ:Kl}{a b:Expr}{fa fb:Den}{elts:List Expr}{x1:Nat}{tp:Pos}
def Tu(ta:TA):TI:=λσ H R=>ta σ H λvs H1=>∃x y,vs=[.str x,.str y]/\x.cps.all (·<128)=true/\y.cps.all (·<128)=true/\R (PD x y) H1
theorem LM{ta:TA}{p pos:Pos}(hg:Gl X "zip")(hm:X.mg "zip" =none)(ha:PA X [a,b] ta)(hs:starEach [a,b] X.env=[(false,eval a X.env),(false,eval b X.env)]:=by rfl)(o9:starEach [b] X.env=[(false,eval b X.env)]:=by rfl):
  PI X (.Tuple elts x1 tp) (.Call (.Name "zip" p) [a,b] [] pos) (Tu ta):=by
 intro pins s σ H R I h
 refine Call_ (ux I hg hm PyProof.Rows.boot_zip (PyProof.Rows.callWith_type1 (dN (ha pos pins s σ H _ I h) λus s1 cZ=>?_) (by rw[hs,o9]) (by rw[o9];rfl)))
 obtain⟨vs,H1,I1,r1,q1⟩:=cZ
 obtain⟨x,y,rfl,hx,hy,q⟩:=q1
 obtain⟨u1,u2,rfl,r1,r2⟩:=vals2 r1
 obtain⟨t,rfl⟩:=r1
 obtain⟨u,rfl⟩:=r2
 refine LL hx hy λh' hz ZS ZT ZU ZV hk=>?_
 refine wpAny_pyIter_zip (s:={s1 with heap:=h'}) hz ?_
 refine⟨s1.heap.objs.size+4,[s1.heap.objs.size+4,s1.heap.objs.size+2,s1.heap.objs.size+3,s1.heap.objs.size,s1.heap.objs.size+1],_,_,H1,rfl,I1.kept (t':=s1.toks) hk,Fg (Ic _),⟨hz,ZS,⟨_,_,ZT⟩,ZU,ZV⟩,λb hb=>?_,q⟩
 have pA:b=s1.heap.objs.size+4\/b=s1.heap.objs.size+2\/b=s1.heap.objs.size+3\/b=s1.heap.objs.size\/b=s1.heap.objs.size+1:=by simpa using hb
 have hle:s1.heap.objs.size<=b:=by rcases pA with rfl|rfl|rfl|rfl|rfl<;>omega
 exact I1.GO hle (I1.dU.fresh hle)
def Fh(x y:Str):List PV:=List.zipWith (λc d=>PV.tup [.str ⟨#[c]⟩,.str ⟨#[d]⟩]) x.cps.toList y.cps.toList
def D8(a b:Den):eF:=λρ=>(a ρ).bind λp=>(toS p).bind λx=>(b ρ).bind λq=>(toS q).bind λy=>if x.cps.all (·<128)&&y.cps.all (·<128)then some (Fh x y)else none
theorem Fi{K:PySem.W.Frag}{Gs:Hp}{A:Addr->Prop}(x y:Str):yk K κ Gs A (PD x y) (Fh x y):=λi H2 s=>by
 refine⟨λp e=>?_,λhl=>?_⟩
 ·unfold Fh at e
  rw[List.getElem?_zipWith]at e
  cases e1:x.cps.toList[i]? with
  |none=>rw[e1]at e;cases e
  |some c=>
   cases e2:y.cps.toList[i]? with
   |none=>rw[e1,e2]at e;cases e
   |some d=>
    rw[e1,e2]at e
    cases e
    have g1:x.cps[i]?=some c:=by rw[<-z05];exact e1
    have g2:y.cps[i]?=some d:=by rw[<-z05];exact e2
    refine⟨⟨(z0n.mp g1).1,(z0n.mp g2).1⟩,λz H3 ⟨p',c',d',y0,y1,y2,y3,y4⟩=>?_⟩
    subst y1 y2
    rw[g1]at y3
    rw[g2]at y4
    cases y3
    cases y4
    refine⟨bM y0,λB hB sb=>.tup (kM.of ?_) (.cons (.str _) (.cons (.str _) .nil))⟩
    rw[bJ λz=>hB _ z y0]
    exact aC
 ·unfold Fh at hl
  rw[List.length_zipWith]at hl
  show x.cps.size<=i\/y.cps.size<=i
  simp at hl
  omega
theorem LN{p pos:Pos}(ha:DE X κ a fa)(hb:DE X κ b fb)(hm:X.mg "zip" =none)(hg:Gl X "zip" :=by rfl)(hs:starEach [a,b] X.env=[(false,eval a X.env),(false,eval b X.env)]:=by rfl)(o9:starEach [b] X.env=[(false,eval b X.env)]:=by rfl):
  DI X κ (.Tuple elts x1 tp) (.Call (.Name "zip" p) [a,b] [] pos) (D8 fa fb):=by
 obtain⟨ta,h1,h2⟩:=ha
 obtain⟨tb,h3,h4⟩:=hb
 refine⟨_,LM hg hm (aG h1 (aG h3 bG o9) (by rw[hs,o9])) hs o9,λ{G A bo own ρ σ H ps Q} r e q=>?_⟩
 obtain⟨p1,e1,e2⟩:=Zt.mp e
 obtain⟨x,e3,e4⟩:=Zt.mp e2
 obtain⟨p2,e5,e6⟩:=Zt.mp e4
 obtain⟨y,e7,e8⟩:=Zt.mp e6
 obtain⟨WI,rfl⟩:=cb e8
 rw[z0F]at WI
 cases iI e3
 cases iI e7
 refine h2 r e1 λv H1 s1 z1=>h4 (r.mono s1) e5 λw H2 s2 z2=>?_
 cases z1
 cases z2
 exact⟨x,y,rfl,WI.1,WI.2,q _ H2 (s1.trans s2) (Fi x y)⟩
end
def qF(P:Params):List DictEntry->List (Str×Int)->Prop
 |[],[]=>True
 |e::es,(k,i)::cW=>(∃t u,e=⟨PyData.keyHash P k,.str k t,.int i u⟩)/\qF P es cW
 |_,_=>False
theorem qF.lit{P:Params}:∀{es:List DictEntry} {cW:List (Str×Int)},qF P es cW->PySem.W.KeysLit P es
 |[],[],_=>trivial
 |_::_,(k,i)::_,⟨⟨t,u,e⟩,h⟩=>⟨⟨k,t,by rw[e],by rw[e]⟩,h.lit⟩
theorem qF.find{P:Params}(s:Str):∀{es:List DictEntry} {cW:List (Str×Int)},qF P es cW->(es.find? (λd=>Value.isStrOf s d.key)=none/\cW.lookup s=none)\/∃e i u,es.find? (λd=>Value.isStrOf s d.key)=some e/\e.val=.int i u/\cW.lookup s=some i
 |[],[],_=>.inl ⟨rfl,rfl⟩
 |e::es,(k,i)::cW,⟨⟨t,u,eq⟩,h⟩=>by
  subst eq
  rw[List.find?_cons,z0K]
  have iff:Value.isStrOf s (.str k t)=(s==k):=by
   show(k==s)=(s==k)
   rw[z04,beq_iff_eq,beq_iff_eq]
   exact eq_comm
  show(match Value.isStrOf s (.str k t)with|true=>_|false=>_)=_/\_\/_
  by_cases hk:s=k
  ·have hb:(s==k)=true:=beq_iff_eq.mpr hk
   rw[hb]at iff
   refine .inr ⟨⟨PyData.keyHash P k,.str k t,.int i u⟩,i,u,?_,rfl,by rw[hb]⟩
   simp only[iff]
  ·have hb:(s==k)=false:=by rw[beq_eq_false_iff_ne];exact hk
   rw[hb]at iff
   simp only[iff,hb]
   exact h.find s
def Ar(P:Params)(K:PySem.W.Frag)(mg:Str->Option Value)(x:Str)(cW:List (Str×Int)):Prop:=∃(a:Addr) (es:Array DictEntry) (n:Nat),mg x=some (.ref a)/\K.lookup a=some ⟨.type "dict",none,.dict es n,#[]⟩/\qF P es.toList cW/\(a==sysModules)=false
def qG(cW:List (Str×Int))(p:PV):Option PV:=(toS p).map λs=>.bl !(cW.lookup s).isSome
def uY(cW:List (Str×Int))(p:PV):Option PV:=(toS p).bind λs=>(cW.lookup s).map PV.int
section
variable{X:Cx}{κ:Kl}{a:Expr}{fa:Den}{pos p0:Pos}{x:Str}{cW:List (Str×Int)}
theorem Ie{pins:List (Addr×Obj)}{σ:St}{H:Hp}{s:Shared}{d:Addr}{es:Array DictEntry}{n:Nat}(I:Inv X pins σ H s)(hk:X.K.lookup d=some ⟨.type "dict",none,.dict es n,#[]⟩)(he:qF X.w.params es.toList cW):s.heap.MapOf (strKind X.prog X.w) d (λk=>findBy Value.isStrOf es k):=PySem.W.mapOf_K I.jc hk he.lit
theorem D9{es:Array DictEntry}{P:Params}(he:qF P es.toList cW)(s:Str):(findBy Value.isStrOf es s=none/\cW.lookup s=none)\/∃i u,findBy Value.isStrOf es s=some (.int i u)/\cW.lookup s=some i:=by
 unfold findBy
 rw[<-Array.find?_toList]
 rcases he.find s with⟨h1,h2⟩|⟨e,i,u,h1,h2,h3⟩
 ·exact .inl ⟨by rw[h1];rfl,h2⟩
 ·exact .inr ⟨i,u,by rw[h1];show some e.val=_;rw[h2],h3⟩
theorem Fj{ty:TE}{d:Addr}{es:Array DictEntry}{n:Nat}(hk:X.K.lookup d=some ⟨.type "dict",none,.dict es n,#[]⟩)(he:qF X.w.params es.toList cW)(hd:(d==sysModules)=false):mF X (compareOp .NotIn) (λv u H Q=>∃s,v=.str s/\u=.ref d/\Q (.bl !(cW.lookup s).isSome) H):=by
 intro pins s σ H v u uv uu Q I rv ru h
 obtain⟨k,rfl,rfl,q⟩:=h
 obtain⟨t,rfl⟩:=rv
 cases ru
 refine wpAny_notIn_of (strKind_is X.prog X.w k t) hd (Ie I hk he) ?_
 have e:(findBy Value.isStrOf es k).isSome=(cW.lookup k).isSome:=by
  rcases D9 he k with⟨h1,h2⟩|⟨i,u,h1,h2⟩<;>rw[h1,h2]<;>rfl
 rw[e]
 exact⟨.bl !(cW.lookup k).isSome,H,I.kept (h':=s.heap) (t':=s.toks+1) (λ_ _ z=>z),rfl,q⟩
theorem Fm(D:Ar X.w.params X.K X.mg x cW)(ha:DB X κ a fa)(hg:Gl X x:=by rfl)(hx:(x==("__debug__" :Str))=false:=by decide):DC X κ .NotIn a (.Name x p0) (bU (qG cW) fa):=by
 obtain⟨d,es,n,h1,h2,h3,h4⟩:=D
 obtain⟨ta,k1,k2⟩:=ha
 refine⟨_,_,_,Fj (ty:=ta) h2 h3 h4,k1,oi (v:=.ref d) hg h1 rfl hx,λ{G A bo own ρ σ H p Q} r e q=>?_⟩
 obtain⟨p1,e1,e2⟩:=Zt.mp e
 obtain⟨s,e3,e4⟩:=Zu.mp e2
 cases iI e3
 cases e4
 exact k2 r e1 λv H' s' z=>⟨s,z.str,rfl,q _ H' s' (.bl _)⟩
theorem Ea(D:Ar X.w.params X.K X.mg x cW)(ha:DB X κ a fa)(hg:Gl X x:=by rfl)(hx:(x==("__debug__" :Str))=false:=by decide)(hs:Tp a:=by intro _ _;rfl):DE X κ (.Subscript (.Name x p0) a pos) (bU (uY cW) fa):=by
 obtain⟨d,es,n,h1,h2,h3,h4⟩:=D
 obtain⟨ta,k1,k2⟩:=ha
 refine⟨λσ H Q=>ta σ H λv H1=>∃s i,v=.str s/\cW.lookup s=some i/\Q (.int i) H1,?_,λ{G A bo own ρ σ H p Q} r e q=>?_⟩
 ·intro pins s σ H Q I h
  refine Lx PySem.F.slot_dict_getitem.lookup hs (dN (oi (v:=.ref d) (pos:=p0) hg h1 rfl hx pins s σ H (λv H1=>v=.ref d/\ta σ H1 λv H2=>∃s i,v=.str s/\cW.lookup s=some i/\Q (.int i) H2) I ⟨rfl,h⟩) λu s1 ⟨v,H1,I1,ru,ev,q1⟩=>dN (k1 pins s1 σ H1 _ I1 q1) λiv s2 cZ=>?_)
  obtain⟨y,H2,I2,ry,k,i,ey,hk,q2⟩:=cZ
  subst ev ey
  cases ru
  obtain⟨t,rfl⟩:=ry
  refine⟨⟨_,I2.jc _ _ h2,rfl⟩,?_⟩
  rcases D9 h3 k with⟨z1,z2⟩|⟨i',u,z1,z2⟩
  ·rw[z2]at hk;cases hk
  ·rw[z2]at hk
   obtain rfl:=z0O hk
   exact wpAny_getItem_of (strKind_is X.prog X.w k t) (Ie I2 h2 h3) z1 ⟨.int i',H2,I2.kept (h':=s2.heap) (t':=s2.toks+1) (λ_ _ z=>z),⟨u,rfl⟩,q2⟩
 ·obtain⟨p1,e1,e2⟩:=Zt.mp e
  obtain⟨s,e3,e4⟩:=Zt.mp e2
  obtain⟨i,e5,e6⟩:=Zu.mp e4
  cases iI e3
  cases e6
  exact k2 r e1 λv H' s' z=>⟨s,i,z.str,e5,q _ H' s' (.int _)⟩
end
theorem Au:typeLookup (.type "dict") "__len__" =pure (some (.builtin "dict.__len__")):=PySem.F.slot_dict_len.lookup
section
variable{prog:Program}{w:World}{A:Around}{E:Value->Shared->Prop}{s:Shared}{d S:Addr}{cW:List (Str×Value)}{ep:Nat}
abbrev Ig(prog:Program)(w:World)(cW:List (Str×Value)):Nat->Value->Prop:=λi v=>∃k x,cW[i]?=some (k,x)/\(strKind prog w).is k v=true
theorem Ih{R:Result->Shared->Prop}(hh:A.handled=none)(hd:(d==sysModules)=false)(res:Value)(c0:Nat)(hS:s.heap.get? S=some {cls:=.type "list",data:=.seq #[] c0})(m:s.heap.DictAt (strKind prog w) d cW ep)(ne:S≠d)
  (k:∀h' tk qH c',(∀b o,b≠S->s.heap.get? b=some o->h'.get? b=some o)->h'.get? S=some {cls:=.type "list",dict:=none,data:=.seq qH c',slots:=#[]}->ItemsOf (Ig prog w cW) qH cW.length->R (.ok (.ret res)) {s with heap:=h',toks:=tk})(hn:cW.length<=sizeLine):
  wpAny (model prog w) A.in1 (Builtin.List.listExtendWith (.ref S) (.ref d) res) (λfin s'=>match fin with|.done f=>R (.ok f) s'|.again c'=>c'.quiet=true/\codeAny (model prog w) A c' R s') (λe s'=>R (.error e) s') s:=by
 have ty:s.TypeIs (.ref d) "dict" :=m.dictOf.typeIs
 have lS:=z0A hS
 obtain⟨o,es,ho,_⟩:=id m
 have ld:=z0A ho
 unfold Builtin.List.listExtendWith
 refine wpAny_bind (wpAny_typeOf ty ?_)
 have f1:Builtin.List.listSameRef (.ref S) (.ref d)=false:=by simp[Builtin.List.listSameRef,ne]
 have f2:(Value.type "dict" ==Value.type "list")=false:=by decide
 have f3:(Value.type "dict" ==Value.type "tuple")=false:=by decide
 simp only[f1,f2,f3,Bool.or_false,Bool.false_eq_true,if_false]
 refine wpAny_bind (wpAny_pyIter_dict hd m ?_)
 have up:∀b ob,s.heap.get? b=some ob->(s.heap.push {cls:=.type "dict_keyiterator",data:=.fields #[.ref d,.int 0 0,.int cW.length 0,.int ep 0]}).get? b=some ob:=λb ob e=>Zv _ e
 have st:(s.heap.push {cls:=.type "dict_keyiterator",data:=.fields #[.ref d,.int 0 0,.int cW.length 0,.int ep 0]}).IsKeyIter s.heap.objs.size d 0 cW.length ep:=⟨_,z0H _ rfl,rfl,rfl⟩
 have m1:=m.at' λob e=>up d ob e
 refine wpAny_bind (wpAny_holding ?_)
 unfold Builtin.List.listLengthHint
 have WJ:Shared.TypeIs {s with heap:=s.heap.push {cls:=.type "dict_keyiterator",data:=.fields #[.ref d,.int 0 0,.int cW.length 0,.int ep 0]}} (.ref d) "dict" :=m1.dictOf.typeIs
 refine wpAny_bind (wpAny_specialOf WJ Au ?_)
 wp_delta
 refine wpAny_bind (wpAny_isInstance (b:=true) WJ (by rw[isSubtype_type];kernel_rfl) ?_)
 show wpAny _ _ (typeOf (Value.ref d)>>=_) _ _ _
 refine wpAny_bind (wpAny_typeOf WJ (wpAny_pure ?_))
 rw[if_pos (by decide)]
 have W:=(Walks.dictKeys (prog:=prog) (w:=w) (knd:=strKind prog w) (A:=A.in1) hh s.heap.objs.size d (z0V ld) cW ep).toS
 have nf:S∉[s.heap.objs.size,d]:=by
  simp only[z0N,List.not_mem_nil,or_false]
  exact λz=>z.elim (z0V lS) ne
 refine wpAny_bind (wpAny_rule (wpAny_bind ?_))
 show wpAny _ A.in1 (updateSeq S (·.push .none)>>=λ_=>updateSeq S (·.pop)) _ _ _
 refine wpAny_bind (wpAny_updateSeq (up _ _ hS) rfl ?_)
 have g2:=z0o (Obj.mapSeq (·.push Value.none)) (up _ _ hS) rfl
 refine wpAny_updateSeq (hz:=by seq_fits) g2 rfl ?_
 have g3:=z0o (Obj.mapSeq (·.pop)) g2 rfl
 generalize hH:((s.heap.push {cls:=.type "dict_keyiterator",data:=.fields #[.ref d,.int 0 0,.int cW.length 0,.int ep 0]}).update S (Obj.mapSeq (·.push Value.none))).update S (Obj.mapSeq (·.pop))=H3 at g3⊢
 have jY:∀b ob,b≠S->(s.heap.push {cls:=.type "dict_keyiterator",data:=.fields #[.ref d,.int 0 0,.int cW.length 0,.int ep 0]}).get? b=some ob->H3.get? b=some ob:=λb ob hb e=>by
  rw[<-hH]
  exact(z0Z _ _ (Ne.symm hb)).trans ((z0Z _ _ (Ne.symm hb)).trans e)
 refine wpAny_pure ⟨plainId_quiet F.plain_extend_loop _,codeAny_extend_loopS W hn _ nf _ cW.length 0 _ _ _ rfl (z0S _) ⟨st.at λob e=>jY _ ob (z1O lS) e,m1.at' λob e=>jY _ ob ne.symm e⟩ g3 (ItemsOf.nil _) λs' qH c' hm Tv Fn=>?_⟩
 rw[Moved.eq_with hm]
 refine k s'.heap s'.toks qH c' (λb ob hb e=>hm.heap b ob (λz=>?_) (jY b ob hb (up b ob e))) Tv Fn
 rcases z0N.mp z with z|z
 ·exact hb z
 ·exact absurd (z0A e) (by rw[z0U.mp z];exact z0e _)
theorem Fo{R:Result->Shared->Prop}(hh:A.handled=none)(hd:(d==sysModules)=false)(hS:s.heap.get? S=some {cls:=.type "list",data:=.seq #[]})(m:s.heap.DictAt (strKind prog w) d cW ep)(ne:S≠d)
  (k:∀h' tk qH c',(∀b o,b≠S->s.heap.get? b=some o->h'.get? b=some o)->h'.get? S=some {cls:=.type "list",dict:=none,data:=.seq qH c',slots:=#[]}->ItemsOf (Ig prog w cW) qH cW.length->R (.ok (.ret .none)) {s with heap:=h',toks:=tk})(hn:cW.length<=sizeLine):
  wpAny (model prog w) A.in1 (Builtin.«list.__init__» ⟨[.ref S,.ref d],[]⟩) (λfin s'=>match fin with|.done f=>R (.ok f) s'|.again c'=>c'.quiet=true/\codeAny (model prog w) A c' R s') (λe s'=>R (.error e) s') s:=by
 show wpAny _ _ (Builtin.List.listItems (.ref S)>>=λold=>Builtin.List.listUpdate (.ref S) (λ_=>#[])>>=λ_=>letGo old.toList.reverse>>=λ_=>Builtin.List.listExtendWith (.ref S) (.ref d) .none) _ _ s
 refine wpAny_bind ?_
 unfold Builtin.List.listItems
 refine wpAny_bind (wpAny_seqItems hS rfl (wpAny_pure ?_))
 show wpAny _ _ (updateSeq S (λ_=>#[])>>=λ_=>letGo (#[]:Array Value).toList.reverse>>=λ_=>Builtin.List.listExtendWith (.ref S) (.ref d) .none) _ _ s
 refine wpAny_bind (wpAny_updateSeq hS rfl ?_)
 have jY:∀b o,b≠S->s.heap.get? b=some o->(s.heap.update S (Obj.mapSeq (λ_=>(#[]:Array Value)))).get? b=some o:=λb o hb e=>(z0Z _ _ (Ne.symm hb)).trans e
 refine wpAny_bind (wpAny_letGo (Ih hh hd .none _ (z0o (Obj.mapSeq (λ_=>(#[]:Array Value))) hS rfl) (m.at' λo e=>jY d o ne.symm e) ne (λh' tk qH c' hk Tv Fn=>?_) hn))
 exact k h' tk qH c' (λb o hb e=>hk b o hb (jY b o hb e)) Tv Fn
theorem list_dict{Q:Value->Shared->Prop}(hh:A.handled=none)(hd:(d==sysModules)=false)(m:s.heap.DictAt (strKind prog w) d cW ep)(hn:cW.length<=sizeLine)
  (k:∀h' tk qH c',(∀b o,s.heap.get? b=some o->h'.get? b=some o)->h'.get? s.heap.objs.size=some {cls:=.type "list",dict:=none,data:=.seq qH c',slots:=#[]}->ItemsOf (Ig prog w cW) qH cW.length->Q (.ref s.heap.objs.size) {s with heap:=h',toks:=tk}):
  wpAny (model prog w) A (call (.type "list") [.ref d]) Q E s:=by
 obtain⟨o,es,ho,_⟩:=id m
 have ld:=z0A ho
 refine callType_codes (Q₁:=λobj s₁=>obj=.ref s.heap.objs.size/\s₁={s with heap:=s.heap.push {cls:=.type "list",data:=.seq #[]}}) F.called_list (F.typeCall_list_1 _) F.entry_list_init (code_list_new _ ⟨rfl,rfl⟩) λobj s₁ h₁=>?_
 obtain⟨rfl,rfl⟩:=h₁
 have hS:(s.heap.push {cls:=.type "list",data:=.seq #[]}).get? s.heap.objs.size=some {cls:=.type "list",data:=.seq #[]}:=z0H _ rfl
 refine⟨⟨_,hS,rfl⟩,F.args_list_init_2 _ _,Fo (A:=A.in1) hh hd hS (m.at' λo e=>Zv _ e) (z1O ld) (λh' tk qH c' hk Tv Fn=>?_) hn⟩
 exact⟨rfl,k h' tk qH c' (λb o e=>hk b o (z0V (z0A e)) (Zv _ e)) Tv Fn⟩
end
def u0:List DictEntry->List (Str×Int)->List (Str×Value)
 |e::es,(k,_)::cW=>(k,e.val)::u0 es cW
 |_,_=>[]
theorem qF.pairs{P:Params}{prog:Program}{w:World}:∀{es:List DictEntry} {cW:List (Str×Int)},qF P es cW->Pairs (strKind prog w) es (u0 es cW)/\(u0 es cW).map (·.1)=cW.map (·.1)
 |[],[],_=>⟨.nil,rfl⟩
 |e::es,(k,i)::cW,⟨⟨t,u,eq⟩,h⟩=>by
  obtain⟨a,b⟩:=h.pairs (prog:=prog) (w:=w)
  refine⟨.cons (kv:=(k,e.val)) ?_ rfl a,by show k::_=k::_;rw[b]⟩
  subst eq
  exact strKind_is prog w k t
section
variable{X:Cx}{κ:Kl}{pos p0 p:Pos}{x:Str}{cW:List (Str×Int)}
theorem LO{pins:List (Addr×Obj)}{σ:St}{H:Hp}{s:Shared}{d:Addr}{es:Array DictEntry}{n:Nat}(I:Inv X pins σ H s)(hk:X.K.lookup d=some ⟨.type "dict",none,.dict es n,#[]⟩)(he:qF X.w.params es.toList cW)(nd:(cW.map (·.1)).Nodup):s.heap.DictAt (strKind X.prog X.w) d (u0 es.toList cW) n:=by
 obtain⟨a,b⟩:=he.pairs (prog:=X.prog) (w:=X.w)
 refine⟨_,es,I.jc _ _ hk,⟨rfl,rfl,rfl⟩,rfl,λe hm=>?_,a,by rw[b];exact nd⟩
 obtain⟨k,t,e1,e2⟩:=he.lit.all e (z1T.mpr hm)
 exact⟨k,by rw[e1];exact strKind_is X.prog X.w k t,e2⟩
theorem Fq{prog:Program}{w:World}{k:Str}{v:Value}(h:(strKind prog w).is k v=true):∃t,v=.str k t:=by
 have h:Value.isStrOf k v=true:=h
 cases v with
 |str s t=>
  have h:(s==k)=true:=h
  exact⟨t,by rw[beq_iff_eq.mp h]⟩
 |_=>cases h
theorem xc:∀{us:List Value} {ks:List Str},us.length=ks.length->(∀(j:Nat) (v:Value),us[j]?=some v->∃k t,ks[j]?=some k/\v=Value.str k t)->Vals (ks.map V.str) us
 |[],[],_,_=>.nil
 |[],_::_,h,_=>by cases h
 |_::_,[],h,_=>by cases h
 |u::us,k::ks,h,f=>by
  obtain⟨k',t,e1,e2⟩:=f 0 u rfl
  cases e1
  exact .cons ⟨t,e2⟩ (xc (Nat.succ.inj h) λj v e=>f (j+1) v e)
theorem B5{d:Addr}{es:Array DictEntry}{n:Nat}(hc:X.calm=true)(hk:X.K.lookup d=some ⟨.type "dict",none,.dict es n,#[]⟩)(he:qF X.w.params es.toList cW)(hd:(d==sysModules)=false)(nd:(cW.map (·.1)).Nodup)(hl:cW.length<=1000):
  jd X (.type "list") (λxs H Q=>xs=[.ref d]/\∀l,H l=none->Q (.ref l) (upd H l (.lst ((cW.map (·.1)).map V.str)))):=by
 intro pins s σ H xs us Q I r h
 obtain⟨rfl,q⟩:=h
 obtain⟨u,rfl,rx⟩:=vals1 r
 cases rx
 obtain⟨_,pk⟩:=he.pairs (prog:=X.prog) (w:=X.w)
 have pl:(u0 es.toList cW).length=cW.length:=by
  have:=congrArg List.length pk
  simpa using this
 have zl:(1000:Nat)<=sizeLine:=by decide
 refine list_dict (I.ok.hd hc) hd (LO I hk he nd) (by omega) λh' tk acc c kp e hi=>?_
 have hv:Vals ((cW.map (·.1)).map V.str) acc.toList:=by
  refine xc ?_ λj v ej=>?_
  ·rw[SR,hi.1,pl,X6]
  ·obtain⟨k,y,e1,e2⟩:=hi.2 j v (by simpa using ej)
   obtain⟨t,e3⟩:=Fq e2
   refine⟨k,t,?_,e3⟩
   rw[<-pk,z0f,e1]
   rfl
 refine⟨.ref s.heap.objs.size,_,I.laid (t':=tk) kp (U5 _) (show eQ X.prog X.w _ h' _ (.lst ((cW.map (·.1)).map V.str))from⟨?_,acc.toList,c,hv,e⟩),rfl,q _ (I.dU.fresh (U5 _))⟩
 rw[X6,X6]
 omega
theorem Ii(D:Ar X.w.params X.K X.mg x cW)(nd:(cW.map (·.1)).Nodup)(hl:cW.length<=1000)(hm:X.mg "list" =none)(hg:Gl X "list" :=by rfl)(WK:Gl X x:=by rfl)(hx:(x==("__debug__" :Str))=false:=by decide)(hc:X.calm=true:=by rfl)(hs:starEach [.Name x p0] X.env=(false,eval (.Name x p0) X.env)::starEach [] X.env:=by rfl):
  DO X κ (.Call (.Name "list" p) [.Name x p0] [] pos) (dC (.lst ((cW.map (·.1)).map PV.str))):=by
 obtain⟨d,es,n,h1,h2,h3,h4⟩:=D
 refine⟨_,kN (B5 hc h2 h3 h4 nd hl) hg hm PyProof.Rows.boot_list (aG (oi (v:=.ref d) WK h1 rfl hx) bG hs) (he:=hs),λ{G A bo own ρ σ H p Q} r e q=>?_⟩
 cases e
 refine⟨rfl,λD hD=>?_⟩
 refine q _ _ (bM hD) ?_
 obtain⟨a,ws,l,w1,w2,w3,w4⟩:=r.zX hD (Aq (κ:=κ) (cW.map (·.1)))
 refine⟨a,ws,l,w1,w2,?_,w4⟩
 cases w1
 exact hD
end
structure Rg where
 ws:List PV
 sg:Str
def oN(c:Nat):List Str:=if c=4 then["words","signs","at"]else RK c
def Bx(t:Rg)(n:Int):PV:=.ins 4 [.lst t.ws,.str t.sg,.int n]
abbrev qo(κ:Kl)(dx:Addr)(vw:V)(t:Rg)(n:Int):HO:=.ins (κ.adr 4) dx [(("words" :Str),vw),(("signs" :Str),.str t.sg),(("at" :Str),.int n)]
def A1(A:Addr->Prop)(x:Addr):Addr->Prop:=λb=>A b\/b=x
def mJ(x:Addr):Addr->Prop:=λb=>b=x
def wQ(t:Rg)(n:Int)(ρ:dO):dO:=ρ.set 0 (.sh (Bx t n))
structure RQ(K:PySem.W.Frag)(κ:Kl)(G:Hp)(A:Addr->Prop)(x dx:Addr)(vw:V)(t:Rg)(n:Int)(own:Nat->Addr)(ρ:dO)(σ:St)(H:Hp):Prop where
 r:R K κ (upd G x (qo κ dx vw t n)) (A1 A x) (λ_=>none) own ρ σ H
 self:σ[0]?=some (some (.ref x))
 zero:ρ[0]?=some .un
 wsr:Rep K κ (hide (A1 A x) G) vw (.lst t.ws)
 na:¬A x
 gx:G x≠none
section
variable{K:PySem.W.Frag}{κ:Kl}{G H H':Hp}{A:Addr->Prop}{x dx:Addr}{vw:V}{t:Rg}{n n':Int}{own:Nat->Addr}{ρ:dO}{σ:St}
theorem RQ.ob(r:RQ K κ G A x dx vw t n own ρ σ H):H x=some (qo κ dx vw t n):=r.r.same x _ aC
theorem RQ.mono(r:RQ K κ G A x dx vw t n own ρ σ H)(s:aE H H'):RQ K κ G A x dx vw t n own ρ σ H':=⟨r.r.mono s,r.self,r.zero,r.wsr,r.na,r.gx⟩
theorem u5{G:Hp}{x b:Addr}{o:HO}(h:upd G x o b=none):b≠x/\G b=none:=by
 by_cases e:b=x
 ·subst e
  rw[aC]at h
  cases h
 ·rw[au e]at h
  exact⟨e,h⟩
theorem fU{b:Addr}{o:HO}(s:aE (hide (mJ x) H) (hide (mJ x) H'))(ne:b≠x)(h:H b=some o):H' b=some o:=by
 have e:hide (mJ x) H b=some o:=by rw[bJ (show¬mJ x b from ne)];exact h
 exact(bV (s b o e)).2
theorem RQ.turn(r:RQ K κ G A x dx vw t n own ρ σ H)(s:aE (hide (mJ x) H) (hide (mJ x) H'))(e:H' x=some (qo κ dx vw t n')):RQ K κ G A x dx vw t n' own ρ σ H':=by
 have sS:aE (dD (A1 A x) own ρ H) (dD (A1 A x) own ρ H'):=λb o h=>by
  obtain⟨nb,hb⟩:=bV h
  have ne:b≠x:=λz=>nb (.inl (.inr z))
  rw[dD,bJ nb]
  exact fU s ne hb
 refine⟨⟨λb h=>?_,λi a vs e=>(by cases e),λb o h=>?_,λi p h=>?_,λi l h=>?_,r.r.inj,λi l h=>?_,r.r.len⟩,r.self,r.zero,r.wsr,r.na,r.gx⟩
 ·intro z
  obtain⟨ne,z⟩:=u5 z
  have:=r.r.al b h
  rw[au ne]at this
  exact this z
 ·by_cases ne:b=x
  ·subst ne
   rw[aC]at h
   cases h
   exact e
  ·rw[au ne]at h
   exact fU s ne (r.r.same b o (by rw[au ne];exact h))
 ·obtain⟨v,h1,h2⟩:=r.r.sh i p h
  exact⟨v,h1,h2.mono sS⟩
 ·obtain⟨h1,h2,vs,h3,h4⟩:=r.r.ow i l h
  obtain⟨ne,h2⟩:=u5 h2
  exact⟨h1,by rw[au ne];exact h2,vs,fU s ne h3,h4.mono sS⟩
 ·obtain⟨a,vs,z,_⟩:=r.r.bw i l h
  cases z
theorem RQ.rd(hf:κ.fld 4=[("words" :Str),("signs" :Str),("at" :Str)])(r:RQ K κ G A x dx vw t n own ρ σ H):R K κ (upd G x (qo κ dx vw t n)) A (λ_=>none) own (wQ t n ρ) σ H:=by
 have h0:0<ρ.length:=(z0C.mp r.zero).1
 have at_:∀{i:Nat} {s:Slot},(wQ t n ρ)[i]?=some s->(i=0/\s=.sh (Bx t n))\/(i≠0/\ρ[i]?=some s):=λ{i s} e=>by
  unfold wQ at e
  by_cases hi:0=i
  ·subst hi
   rw[z0B,if_pos rfl,if_pos h0]at e
   exact .inl ⟨rfl,(z0O e).symm⟩
  ·rw[z0g hi]at e
   exact .inr ⟨Ne.symm hi,e⟩
 have Kw:∀{b:Addr},yf own (wQ t n ρ) b->(upd G x (qo κ dx vw t n)) b=none/\yf own ρ b:=λ{b} h=>by
  obtain⟨j,m,h1,h2⟩:=h
  rcases at_ h1 with⟨_,z⟩|⟨_,z⟩
  ·cases z
  ·refine⟨?_,j,m,z,h2⟩
   rw[<-h2]
   exact(r.r.ow j m z).2.1
 have sS:aE (dD (A1 A x) own ρ H) (dD A own (wQ t n ρ) H):=dX (λ_ _ z=>z) λb h _=>h.elim (λz=>.inl (.inl z)) λz=>.inr (Kw z).2
 refine⟨λb h=>r.r.al b (.inl h),λi a vs e=>(by cases e),r.r.same,λi p h=>?_,λi l h=>?_,λi j l m h1 h2=>?_,λi l h=>?_,?_⟩
 ·rcases at_ h with⟨h1,h2⟩|⟨h1,h2⟩
  ·subst h1
   cases h2
   refine⟨_,r.self,.ins (c:=4) (vs:=[vw,.str t.sg,.int n]) (dx:=dx) ?_ (by rw[hf];rfl) (.cons (r.wsr.mono λb o hb=>?_) (.cons (.str _) (.cons (.int _) .nil)))⟩
   ·rw[dD,bJ λz=>?_,r.ob,hf]
    ·rfl
    ·rcases z with z|z
     ·exact r.na z
     ·have:=(Kw z).1
      rw[aC]at this
      cases this
   ·obtain⟨nb,hb⟩:=bV hb
    have ne:b≠x:=λz=>nb (.inr z)
    have hu:upd G x (qo κ dx vw t n) b=some o:=by rw[au ne];exact hb
    rw[dD,bJ λz=>?_]
    ·exact r.r.same b o hu
    ·rcases z with z|z
     ·exact nb (.inl z)
     ·rw[(Kw z).1]at hu
      cases hu
  ·obtain⟨v,g1,g2⟩:=r.r.sh i p h2
   exact⟨v,g1,g2.mono sS⟩
 ·rcases at_ h with⟨_,z⟩|⟨_,z⟩
  ·cases z
  ·obtain⟨h1,h2,vs,h3,h4⟩:=r.r.ow i l z
   exact⟨h1,h2,vs,h3,h4.mono sS⟩
 ·rcases at_ h1 with⟨_,z⟩|⟨_,z⟩
  ·cases z
  ·rcases at_ h2 with⟨_,y⟩|⟨_,y⟩
   ·cases y
   ·exact r.r.inj i j l m z y
 ·rcases at_ h with⟨_,z⟩|⟨_,z⟩
  ·cases z
  ·obtain⟨a,vs,y,_⟩:=r.r.bw i l z
   cases y
 ·unfold wQ
  rw[z0q]
  exact r.r.len
theorem RQ.set(r:RQ K κ G A x dx vw t n own ρ σ H){i:Nat}(hi:i≠0){v:V}{p:PV}(z:Rep K κ (dD (A1 A x) own ρ H) v p):RQ K κ G A x dx vw t n own (ρ.set i (.sh p)) (σ.set i (some v)) H:=
 ⟨r.r.set z,by rw[z0g hi];exact r.self,by rw[z0g hi];exact r.zero,r.wsr,r.na,r.gx⟩
end
end L2.D
namespace L2.D
open PySem
structure B6(B:Heap)(l:List Env)(e:Addr)(c:Value)(dx:Option Addr)(fl:Value)(h:Heap):Prop where
 st:B.StaysIn h
 nw:B.get? e=none
 fr:h.FunFrames B l
 ob:∃o vs T q ts,h.get? e=some o/\o.cls=c/\o.dict=dx/\o.data=.fields vs/\vs[1]?=some (.ref T)/\B.get? T=none/\T≠e/\h.get? T=some q/\q.data=.fields ts/\ts[3]?=some fl
theorem xf(o:Obj)(f:Array Value->Array Value):(o.mapFields f).dict=o.dict:=by
 cases o with
 |mk c d dt sl=>cases dt<;>rfl
theorem PH(g:Heap)(tb:Obj)(nf:tb.isFreed=false){e:Addr}{o:Obj}{vs:Array Value}(ho:g.get? e=some o)(ov:o.data=.fields vs)(x:Value):
  (∀b u,b≠e->g.get? b=some u->((g.push tb).update e (Obj.mapFields (·.setIfInBounds 1 x))).get? b=some u)/\
  (∃o',((g.push tb).update e (Obj.mapFields (·.setIfInBounds 1 x))).get? e=some o'/\o'.cls=o.cls/\o'.dict=o.dict/\o'.data=.fields (vs.setIfInBounds 1 x))/\
  ((g.push tb).update e (Obj.mapFields (·.setIfInBounds 1 x))).get? g.objs.size=some tb:=by
 have d:=Obj.data_mapFields ov (·.setIfInBounds 1 x)
 have ne:e≠g.objs.size:=z0V (z0A ho)
 refine⟨λb u n q=>?_,⟨_,z0o _ (Zv _ ho) (Obj.isFreed_of_fields d),Obj.cls_mapFields _ _,xf _ _,d⟩,?_⟩
 ·rw[z0Z _ _ (Ne.symm n)]
  exact Zv _ q
 ·rw[z0Z _ _ ne]
  exact z0H g nf
section
variable{M:Model}{A:Around}{E:Value->Shared->Prop}{s:Shared}{B:Heap}{env:Env}{outer l:List Env}{L e:Addr}{c head:Value}{dx:Option Addr}{Q:Unit->Shared->Prop}
theorem Eb{o:Obj}{vs:Array Value}{y:Bool}(hA:A.frames=some (env::outer))(hL:env.frame=some L)(st:B.StaysIn s.heap)(nw:B.get? e=none)(fr:s.heap.FunFrames B (env::outer))
  (ho:s.heap.get? e=some o)(oc:o.cls=c)(od:o.dict=dx)(ov:o.data=.fields vs)(sz:1<vs.size)
  (k:∀h',B6 B (env::outer) e c dx (rawInt L) h'->s.heap.UpToSlots h'->Q () {s with heap:=h'}):
  wpAny M A (frameOf env>>=λa=>entryPlaceOf L y>>=λpl=>EntryCells.newEntry head a .none (rawInt L) .none pl>>=λb=>setField (.ref e) 1 b) Q E s:=by
 have ne:e∉(env::outer).filterMap (·.frame):=λz=>by
  obtain⟨_,o',h1,h2⟩:=fr.mem z
  rw[ho]at h1
  cases h1
  exact h2 vs ov
 refine wpAny_bind (wpAny_frameOf_fun hA fr hL λg gs=>?_)
 refine wpAny_bind (wpAny_entryPlaceOf λpl hp=>?_)
 unfold EntryCells.newEntry newFields
 refine wpAny_bind (wpAny_newObj_type ?_ (hp.sizeOk5 _ _ _ _ _))
 have h1:g.get? e=some o:=(gs.2.1 e ne).trans ho
 have h2:B.StaysIn g:=λb u q=>(gs.2.1 b λz=>by rw[(fr.mem z).1]at q;cases q).trans (st b u q)
 refine wpAny_setField (Zv _ h1) ov sz ?_
 have fin:∀tb:Obj,tb.isFreed=false->(∃ts,tb.data=.fields ts/\ts[3]?=some (rawInt L))->Q () {s with heap:=(g.push tb).update e (Obj.mapFields (·.setIfInBounds 1 (.ref g.objs.size)))}:=λtb nf ⟨ts,t1,t2⟩=>by
  obtain⟨k1,⟨o',k2,k3,k4,k5⟩,k6⟩:=PH g tb nf h1 ov (.ref g.objs.size)
  have nt:g.objs.size≠e:=z1O (z0A h1)
  have Av:∀b u,s.heap.get? b=some u->(∀ws,u.data≠.fields ws)->b≠e:=λb u q n z=>by
   rw[z,ho]at q
   cases q
   exact n vs ov
  refine k _ ⟨λb u q=>k1 b u (λz=>by rw[z,nw]at q;cases q) (h2 b u q),nw,fr.of_keeps λb u q n=>?_,o',_,g.objs.size,_,_,k2,k3.trans oc,k4.trans od,k5,by simp[sz],h2.fresh,nt,k6,t1,t2⟩ λb u q n=>?_
  ·obtain⟨sl,z⟩:=gs.2.2 b u q
   exact⟨_,k1 b _ (Av b u q n) z,rfl⟩
  ·obtain⟨sl,z⟩:=gs.2.2 b u q
   exact⟨sl,k1 b _ (Av b u q n) z⟩
 exact fin _ rfl ⟨_,rfl,by rcases hp with rfl|⟨_,_,_,_,_,_,_,rfl⟩<;>simp⟩
theorem Ft{o:Obj}{vs:Array Value}(hA:A.frames=some (env::outer))(hL:env.frame=some L)(st:B.StaysIn s.heap)(nw:B.get? e=none)(fr:s.heap.FunFrames B (env::outer))
  (ho:s.heap.get? e=some o)(oc:o.cls=c)(od:o.dict=dx)(ov:o.data=.fields vs)(h1:vs[1]?=some .none)
  (k:∀h',B6 B (env::outer) e c dx (rawInt L) h'->s.heap.UpToSlots h'->Q () {s with heap:=h'}):wpAny M A (noteFrame (.ref e) env) Q E s:=by
 unfold noteFrame
 simp only[hL]
 refine wpAny_bind (wpAny_field ho ov h1 ?_)
 rw[if_neg (by decide)]
 exact Eb hA hL st nw fr ho oc od ov (z0n.mp h1).1 k
theorem Aw(hA:A.frames=some (env::outer))(hL:env.frame=some L)(F:B6 B (env::outer) e c dx .none s.heap)
  (k:∀h',B6 B (env::outer) e c dx (rawInt L) h'->s.heap.UpToSlots h'->Q () {s with heap:=h'}):wpAny M A (noteFrame (.ref e) env) Q E s:=by
 obtain⟨st,nw,fr,o,vs,T,q,ts,h1,h2,h3,h4,h5,h6,h7,h8,h9,Vd⟩:=F
 unfold noteFrame
 simp only[hL]
 refine wpAny_bind (wpAny_field h1 h4 h5 ?_)
 rw[if_pos (by simp)]
 refine wpAny_bind (wpAny_field h8 h9 Vd ?_)
 rw[if_neg (by simp[rawInt])]
 refine wpAny_bind (wpAny_setField h8 h9 (z0n.mp Vd).1 ?_)
 have jY:∀b,b≠T->(s.heap.update T (Obj.mapFields (·.setIfInBounds 3 Value.none))).get? b=s.heap.get? b:=λb n=>z0Z _ _ (Ne.symm n)
 have Av:∀b u,s.heap.get? b=some u->(∀ws,u.data≠.fields ws)->b≠T:=λb u z n w=>by
  rw[w,h8]at z
  cases z
  exact n ts h9
 refine Eb hA hL (λb u z=>(jY b λw=>by rw[w,h6]at z;cases z).trans (st b u z)) nw (fr.of_keeps λb u z n=>⟨u,(jY b (Av b u z n)).trans z,rfl⟩) ((jY e (Ne.symm h7)).trans h1) h2 h3 h4 (z0n.mp h5).1 λh' F' up=>k h' F' λb u z n=>up b u ((jY b (Av b u z n)).trans z) n
theorem qI{fl:Value}(F:B6 B l e c dx fl s.heap)(k:∀h',B6 B l e c dx .none h'->s.heap.UpToSlots h'->Q () {s with heap:=h'}):wpAny M A (setFlight (.ref e) none) Q E s:=by
 obtain⟨st,nw,fr,o,vs,T,q,ts,h1,h2,h3,h4,h5,h6,h7,h8,h9,Vd⟩:=F
 have sz:3<ts.size:=(z0n.mp Vd).1
 unfold setFlight
 refine wpAny_bind (wpAny_field h1 h4 h5 ?_)
 rw[if_pos (by simp)]
 refine wpAny_setField h8 h9 sz ?_
 have jY:∀b,b≠T->(s.heap.update T (Obj.mapFields (·.setIfInBounds 3 ((none:Option Addr).elim Value.none λf=>rawInt f)))).get? b=s.heap.get? b:=λb n=>z0Z _ _ (Ne.symm n)
 have Av:∀b u,s.heap.get? b=some u->(∀ws,u.data≠.fields ws)->b≠T:=λb u z n w=>by
  rw[w,h8]at z
  cases z
  exact n ts h9
 exact k _ ⟨λb u z=>(jY b λw=>by rw[w,h6]at z;cases z).trans (st b u z),nw,fr.of_keeps λb u z n=>⟨u,(jY b (Av b u z n)).trans z,rfl⟩,o,vs,T,_,_,(jY e (Ne.symm h7)).trans h1,h2,h3,h4,h5,h6,h7,z0o _ h8 (Obj.isFreed_of_fields (Obj.data_mapFields h9 _)),Obj.data_mapFields h9 _,by simp[sz]⟩ λb u z n=>⟨u.slots,(jY b (Av b u z n)).trans z⟩
theorem B6.pop{fl:Value}{h:Heap}(F:B6 B (env::outer) e c dx fl h):B6 B outer e c dx fl h:=⟨F.st,F.nw,F.fr.2.2,F.ob⟩
theorem B7{o:Obj}{vs:Array Value}(hA:A.frames=some (env::outer))(hL:env.frame=some L)(st:B.StaysIn s.heap)(nw:B.get? e=none)(fr:s.heap.FunFrames B (env::outer))
  (ho:s.heap.get? e=some o)(oc:o.cls=c)(od:o.dict=dx)(ov:o.data=.fields vs)(h1:vs[1]?=some .none)
  (k:∀h',B6 B outer e c dx .none h'->s.heap.UpToSlots h'->Q () {s with heap:=h'}):wpAny M A (leaving env (.ref e)) Q E s:=by
 unfold leaving
 refine wpAny_bind (Ft hA hL st nw fr ho oc od ov h1 λh' F up=>?_)
 exact qI (s:={s with heap:=h'}) F λPF F' RM=>k PF F'.pop (up.trans RM)
theorem Fu(hA:A.frames=some (env::outer))(hL:env.frame=some L)(F:B6 B (env::outer) e c dx .none s.heap)
  (k:∀h',B6 B outer e c dx .none h'->s.heap.UpToSlots h'->Q () {s with heap:=h'}):wpAny M A (leaving env (.ref e)) Q E s:=by
 unfold leaving
 refine wpAny_bind (Aw hA hL F λh' F up=>?_)
 exact qI (s:={s with heap:=h'}) F λPF F' RM=>k PF F'.pop (up.trans RM)
end
theorem B6.at{B h:Heap}{l:List Env}{e:Addr}{c fl:Value}{dx:Option Addr}(F:B6 B l e c dx fl h):∃o vs,h.get? e=some o/\o.cls=c/\o.dict=dx/\o.data=.fields vs:=
 let⟨o,vs,_,_,_,h1,h2,h3,h4,_⟩:=F.ob
 ⟨o,vs,h1,h2,h3,h4⟩
end L2.D
namespace L2.D
open PySem PySem.Spec PyProof.Rows PySem.SeqAt
abbrev RN:List Value:=[.type "ValueError",.type "Exception",.type "BaseException",.type "object"]
end L2.D
namespace L2.D
open PySem PySem.W PySem.Spec PySem.Calls PyProof.Rows Builtin Builtin.ObjectAttr Builtin.Getset_descriptor
structure yo(K:Frag)(C:Addr):Prop where
 ga:findIn K (.ref C) "__getattribute__" =some (some (.builtin "BaseException.__getattribute__"))
 gh:findIn K (.ref C) "__getattr__" =some none
 ca:findIn K (.ref C) "__class__" =some (some (.builtin "object.__class__"))
 hn:specialIn K (.builtin "object.__class__") "__get__" =some (some (.builtin "getset_descriptor.__get__"))
 GW:takesIn K (.builtin "object.__class__")=some true
 hm:mroIn K C (.type "object")=some true
 hb:mroIn K C (.type "BaseException")=some true
 hc:(clsIn K C).isSome=true
def LP(C a:Addr)(h:Heap):Prop:=∃o,h.get? a=some o/\o.cls=.ref C
theorem LP.type{M:Model}{h:Heap}{C a:Addr}(I:LP C a h):Looks M h (typeOf (.ref a)) (.ref C):=by
 obtain⟨o,h1,h2⟩:=I
 rw[<-h2]
 exact(Looks.ld h1).andThen .now
theorem B8{K:Frag}{M:Model}{h:Heap}(X:K.In h){x t a g:Value}{name:Str}(ha:findIn K t name=some (some a))(hg:specialIn K a "__get__" =some (some g))(ht:takesIn K a=some true):Looks M h (find x t name) (.bind g a):=
 (looks_findIn (M:=M) X ha).andThen ((show Looks M h (getOf (some a)) (some g)from looks_specialIn X hg).andThen
   ((show Looks M h (dataDescriptor? (some a) (some g)) (some (g,a))from(looks_takesIn (M:=M) X ht).andThen .now).andThen (Looks.tag .now)))
section
variable{prog:Program}{w:World}{A:Around}{E:Value->Shared->Prop}{s:Shared}{K:Frag}{x C:Addr}
theorem Ij{tp:Value}{R:Result->Shared->Prop}(X:K.In s.heap)(I:LP C x s.heap)(hm:mroIn K C (.type "object")=some true)
  (told:R (.ok (.ret (.ref C))) s):codeAny (model prog w) A (.call (.builtin "getset_descriptor.__get__") ⟨[.builtin "object.__class__",.ref x,tp],[]⟩) R s:=by
 obtain⟨h0,gs,dw,Ni,PJ⟩:=s
 have PK:=I.type (M:=model prog w)
 have B9:=looks_mroIn (M:=model prog w) X hm
 refine codeAny_call_builtin KF.slot_gs.plain KF.entry_gs ?_
 refine KF.slot_gs.check _ _ _ _ _ _ _ _ KF.type_class (KF.args_gs _ _ _) ?_
 unfold Builtin.«getset_descriptor.__get__» descrGet;rw[dga_obj];refine wpAny_bind (wpAny_pure ?_)
 unfold descrGetter descrCheckInstance descrNameAndClass isInstance;simp only[KF.owner_class]
 repeat lk
 refine⟨Code.quiet_builtin _ (by decide+kernel),?_⟩
 refine codeAny_builtin KF.entry_class ?_;unfold Builtin.«object.__class__» shownTypeOf
 repeat lk
 exact told
theorem Ca{tk:Tok}{Q:Fin->Shared->Prop}(Z:yo K C)(X:K.In s.heap)(I:LP C x s.heap)(h:Q (.done (.ret (.ref C))) s):
  wpAny (model prog w) A (Builtin.«object.__getattribute__» ⟨[.ref x,.str "__class__" tk],[]⟩) Q E s:=by
 obtain⟨h0,gs,dw,Ni,PJ⟩:=s
 have PK:=I.type (M:=model prog w)
 have B9:=B8 (M:=model prog w) (x:=.ref x) X Z.ca Z.hn Z.GW
 unfold Builtin.«object.__getattribute__»;refine wpAny_bind (wpAny_pure (wpAny_bind (wpAny_pure (wpAny_bind (PK.at (wpAny_bind (B9.at ?_)))))))
 unfold bindTo
 refine wpAny_bind (wpAny_holding (wpAny_call (Ij X I Z.hm ?_)))
 exact wpAny_pure h
theorem Cb{M:Model}{Nj:Value}{Q:Unit->Shared->Prop}(Z:yo K C)(X:K.In s.heap)(I:LP C x s.heap)(hq:Q () s):wpAny M A (checkBuiltinCall "BaseException.__getattribute__" ⟨[.ref x,Nj],[]⟩) Q E s:=by
 obtain⟨h0,gs,dw,Ni,PJ⟩:=s
 have kd:builtinKind "BaseException.__getattribute__" =some .slot:=by decide+kernel
 have sp:splitId "BaseException.__getattribute__" =some ("BaseException","__getattribute__"):=by decide+kernel
 have PK:=I.type (M:=M)
 have B9:=looks_mroIn (M:=M) X Z.hb
 have LI:Looks M h0 (isInstance (.ref x) (.type "BaseException")) true:=PK.andThen B9
 have ha:=PySem.F.args_bexc_ga (.ref x) Nj
 simp only[checkBuiltinCall,kd,sp]
 refine wpAny_bind (LI.at ?_)
 repeat(first|wp_step)
 exact hq
theorem Fv{Q:Option Value->Shared->Prop}(Z:yo K C)(X:K.In s.heap)(I:LP C x s.heap)(h:Q (some (.ref C)) {s with toks:=s.toks+1}):wpAny (model prog w) A (getAttr? (.ref x) "__class__") Q E s:=by
 obtain⟨h0,gs,dw,Ni,PJ⟩:=s
 have PK:=I.type (M:=model prog w)
 have B9:=looks_findIn (M:=model prog w) X Z.ga
 have Tw:=looks_findIn (M:=model prog w) X Z.gh
 have f3:=z06.ga.bind (.ref x)
 unfold getAttr? getAttrBy? getAttrBy;refine wpAny_bind (wpAny_mkText (wpAny_bind (wpAny_attempt (wpAny_holding (wpAny_bind (PK.at (wpAny_bind (B9.at ?_))))))))
 have ZW:(onTheHeap (Value.ref C)&&Value.builtin "BaseException.__getattribute__" ==Value.builtin "object.__getattribute__")=false:=by
  rw[show(Value.builtin "BaseException.__getattribute__" ==Value.builtin "object.__getattribute__")=false from by decide+kernel]
  exact Bool.and_false _
 dsimp only
 rw[ZW]
 unfold getAttrByItsOwn hookBefore
 refine wpAny_bind (Tw.at ?_)
 refine wpAny_bind (wpAny_attempt (wpAny_holding ?_));unfold callGetattribute boundAndCalled
 rw[if_neg (by simp),f3]
 refine wpAny_bind (wpAny_pure (wpAny_call ?_))
 refine codeAny_call_builtin z06.ga.plain z14 (Cb Z X I (Ca (s:=⟨h0,gs,dw,Ni+1,PJ⟩) Z X I ?_))
 refine wpAny_pure ?_
 exact wpAny_pure h
end
theorem xg{K:Frag}{M:Model}{h:Heap}{D:Addr}(X:K.In h)(hc:(clsIn K D).isSome=true):Looks M h (isType (.ref D)) true:=by
 obtain⟨cd,e⟩:=z1F.mp hc
 unfold clsIn at e
 split at e
 ·rename_i ob
  intro _ _ _ _ kp q
  unfold isType loadHead
  refine wpAny_bind (wpAny_loadPart (kp _ _ (X _ _ ob)) ?_)
  exact wpAny_pure q
 ·cases e
theorem Ik{K:Frag}{x C:Addr}(Z:yo K C):KitX K (.ref x) (.ref C) (LP C x) where
 ty:=λ_ _ _ I=>I.type
 it:=λ_ _ X _=>xg X Z.hc
 ne:=λ_ tp _ _ _ _ X at_=>by
  obtain⟨cd,e⟩:=z1F.mp Z.hc
  cases hq:(Value.ref C==Value.ref tp)with
  |false=>rfl
  |true=>
   have ct:C=tp:=Value.ref.inj (beq_iff_eq.mp hq)
   subst ct
   unfold clsIn at e
   split at e
   ·rename_i ob
    cases(X _ _ ob).symm.trans at_
   ·cases e
 ca:=λX I k=>Fv Z X I k
theorem Ax{K:Frag}{M:Model}{A:Around}{E:Value->Shared->Prop}{s:Shared}{C D e:Addr}{Q:Bool->Shared->Prop}(X:K.In s.heap)(I:LP C e s.heap)(h1:instIn K (.ref D) (.type "tuple")=some false)(h2:(clsIn K D).isSome=true)(h3:mroIn K D (.type "BaseException")=some true)(h4:mroIn K C (.ref D)=some true)
  (hq:Q true s):wpAny M A (excMatches (.ref e) (.ref D)) Q E s:=by
 obtain⟨h0,gs,dw,Ni,PJ⟩:=s
 have PK:=I.type (M:=M)
 have B9:=looks_instIn (M:=M) X h1
 have Tw:=xg (M:=M) X h2
 have L3:=looks_mroIn (M:=M) X h3
 have L4:=looks_mroIn (M:=M) X h4
 unfold excMatches isExcClass
 repeat lk
 all_goals first|exact hq|skip
end L2.D
namespace L2.D
open PySem PySem.Spec PySem.W PySem.Calls PyProof.Rows
def GB(K:Frag)(C:Addr):Bool:=match K.lookup C with
 |some o=>(match o.cls,o.data with
  |.type t,.cls d=>t== "type" &&!d.hasDel&&(match d.mro with
   |.ref D::m=>D==C&&tailIn K RN m
   |_=>false)&&(match o.slots.toList with
   |[_,_,_,_,some (.builtin n),_]=>n== "ValueError.__new__"
   |_=>false)
  |_,_=>false)
 |_=>false
theorem yp{K:Frag}{C:Addr}(q:GB K C=true){h:Heap}(X:K.In h):∃(nm q:Str) (N:Addr) (bs bm:List Value) (LQ:Bool) (sn:List Str) (sub:List Value) (ab:Bool) (col:Option Bool) (dd:Option Addr) (k0 k1 k2 k3 k5:Option Value),
  h.get? C=some (excClassObj nm q C N bs bm LQ sn sub ab col dd k0 k1 k2 k3 k5 "ValueError.__new__")/\OwnTail h RN bm:=by
 unfold GB at q
 cases hl:K.lookup C with
 |none=>rw[hl]at q;cases q
 |some o=>
  rw[hl]at q
  dsimp only at q
  obtain⟨oc,od,ot,os⟩:=o
  dsimp only at q
  split at q
  ·rename_i t d
   simp only[z0F,beq_iff_eq,z1W]at q
   obtain⟨⟨⟨q1,q2⟩,q3⟩,q4⟩:=q
   subst q1
   cases d
   dsimp only at q2 q3
   subst q2
   split at q3
   ·rename_i D m
    simp only[z0F,beq_iff_eq]at q3
    obtain⟨q3,q5⟩:=q3
    subst q3
    split at q4
    ·rename_i a0 a1 a2 a3 n a5 es
     obtain rfl:n= "ValueError.__new__" :=beq_iff_eq.mp q4
     have e2:os=#[a0,a1,a2,a3,some (.builtin "ValueError.__new__"),a5]:=by rw[<-es]
     subst e2
     exact⟨_,_,_,_,_,_,_,_,_,_,_,_,_,_,_,_,X _ _ hl,tail_of_in X q5⟩
    ·cases q4
   ·cases q3
  ·cases q
section
variable{prog:Program}{w:World}{A:Around}{E:Value->Shared->Prop}{h:Heap}{g:Array GenState}{d:Drawn}{t:Nat}{os:OsState}{K:Frag}{C f:Addr}{us:List Value}{Q:Value->Shared->Prop}
theorem Fw(X:K.In h)(c:GB K C=true)(hi:findIn K (.ref C) "__init__" =some (some (.ref f)))(hf:typeIn K (.ref f)=some (.type "function"))(hl:us.length<=sizeLine)
  (k:∀h' e,h.objs.size<=e->Heap.MadeExcOf h h' e (.ref C) us->wpAny (model prog w) (A.under (.builtin "type.__call__" ⟨.ref C::us,[]⟩)) (call (.ref f) (.ref e::us)) (λr s'=>r=.none/\Q (.ref e) s') E ⟨h',g,d,t,os⟩):
  wpAny (model prog w) A (call (.ref C) us) Q E ⟨h,g,d,t,os⟩:=by
 obtain⟨nm,q,N,bs,bm,LQ,sn,sub,ab,col,dd,k0,k1,k2,k3,k5,c1,T⟩:=yp c X
 have l1:=tc_lookup
 have l2:=tc_bind (.ref C)
 have l3:(⟨h,g,d,t,os⟩:Shared).TypeIs (.ref C) "type" :=⟨_,c1,rfl⟩
 have FV:=z1p
 have hV:RN.contains (.type "ValueError")=true:=by decide+kernel
 refine wpAny_call (codeAny_of_tree ?_)
 show wpAny _ _ (callAny (.ref C) _) _ _ _
 repeat(any_goals(first|with_reducible refine wpAny_loadPart_at c1 ?_|assumption|wp_step))
 refine⟨rfl,codeAny_call_builtin_at (Code.quiet_builtin _ (by decide+kernel)) entry_typeCall (wpAny_check_type_call_sub c1 ?_)⟩
 repeat(first|with_reducible refine wpAny_madeBy_exc c1 ?_|with_reducible refine wpAny_loadPart_at c1 ?_|wp_step)
 refine codeAny_call_builtin_code (Code.quiet_builtin _ FV.quiet) (wpAny_check_new_subU (rest:=us) FV hV T c1 (codeAny_exc_new_subU (rest:=us) FV hV FV T c1 ?_ hl))
 have hp:∀b o,h.get? b=some o->((h.push {cls:=.type "tuple",data:=.seq us.toArray}).push {cls:=.ref C,data:=.fields #[.ref h.objs.size,.none,.none,.none,.bool false,.none]}).get? b=some o:=λb o e=>Zv _ (Zv _ e)
 have he:((h.push {cls:=.type "tuple",data:=.seq us.toArray}).push {cls:=.ref C,data:=.fields #[.ref h.objs.size,.none,.none,.none,.bool false,.none]}).get? (h.objs.size+1)=some {cls:=.ref C,data:=.fields #[.ref h.objs.size,.none,.none,.none,.bool false,.none]}:=by heap_get
 have ht:((h.push {cls:=.type "tuple",data:=.seq us.toArray}).push {cls:=.ref C,data:=.fields #[.ref h.objs.size,.none,.none,.none,.bool false,.none]}).get? h.objs.size=some {cls:=.type "tuple",data:=.seq us.toArray}:=Zv _ (Heap.get?_push_at rfl rfl)
 generalize((h.push {cls:=.type "tuple",data:=.seq us.toArray}).push {cls:=.ref C,data:=.fields #[.ref h.objs.size,.none,.none,.none,.bool false,.none]})=h2 at hp he ht⊢
 have hm:Heap.MadeExcOf h h2 (h.objs.size+1) (.ref C) us:=⟨hp,z1S (z1Y _),h.objs.size,he,z1S (U5 _),ht⟩
 have c2:=hp _ _ c1
 have X2:K.In h2:=X.keeps hp
 have cc:(Value.ref C::bm).contains (.ref C)=true:=by simp
 show wpAny _ _ _ _ _ _
 unfold isInstance
 repeat(first|(with_reducible refine wpAny_loadPart_at he ?_;dsimp only)|(refine wpAny_isSubtype_exc c2 ?_;rw[cc])|wp_step)
 show wpAny _ _ (typeLookup (.ref C) _) _ _ _
 refine(looks_findIn (M:=model prog w) X2 hi).at ?_
 refine wpAny_holding (wpAny_bind ((bind_fn X2 _ hf).at ?_))
 refine wpAny_bind (wpAny_mono (k h2 _ (z1Y _) hm) (λr s' hr=>?_) λ_ _ x=>x)
 obtain⟨rfl,hQ⟩:=hr
 wp_walk
 exact hQ
end
theorem Cc{M:Model}{A:Around}{E:Value->Shared->Prop}{s:Shared}{env:Env}{K:Frag}{C:Addr}{x:Sem Value}{Q:Flow->Shared->Prop}(c:GB K C=true)(hh:A.handled=none)
  (k:wpAny M A x (λv s1=>∃e o vs,v=.ref e/\K.In s1.heap/\s1.heap.get? e=some o/\o.cls=.ref C/\o.data=.fields vs/\vs[1]?=some .none/\E (.ref e) s1) E s):wpAny M A (raiseStmt env (some x) none) Q E s:=by
 unfold raiseStmt
 refine wpAny_bind (wpAny_mono k (λv s1 k1=>?_) λ_ _ z=>z)
 obtain⟨e,⟨oc,od,ot,os⟩,vs,rfl,X,he,rfl,rfl,h1,hE⟩:=k1
 obtain⟨nm,q,N,bs,bm,LQ,sn,sub,ab,col,dd,k0,k1,k2,k3,k5,c1,T⟩:=yp c X
 have cB:(Value.ref C::bm).contains (.type "BaseException")=true:=by rw[List.contains_cons,T.hasType (show RN.contains (.type "BaseException")=true by decide+kernel),Bool.or_true]
 obtain⟨hp,g,d,tk,os⟩:=s1
 repeat(first|with_reducible refine wpAny_loadPart_at he ?_|with_reducible refine wpAny_loadPart_at c1 ?_|(with_reducible refine wpAny_isSubtype_exc c1 ?_;rw[cB])|with_reducible refine wpAny_field he rfl h1 ?_|wp_step)
 exact wpAny_raiseNew_none hh hE
end L2.D
namespace L2.D
open PySem PySem.Spec PyProof.Rows PySem.SeqAt
open Classical
theorem Il{P:Program}{w:World}{H:Hp}{h:Heap}{a:Addr}{o:HO}(x:eQ P w H h a o):∃ob,h.get? a=some ob:=by
 cases o with
 |lst xs=>obtain⟨_,_,_,_,e⟩:=x;exact⟨_,e⟩
 |tup xs=>obtain⟨⟨_,ob,e,_⟩,_⟩:=x;exact⟨_,e⟩
 |dK cW=>obtain⟨_,_,_,_,o,_,_,e,_⟩:=x;exact⟨_,e⟩
 |dT cW=>obtain⟨_,_,_,_,o,_,_,e,_⟩:=x;exact⟨_,e⟩
 |set S n=>obtain⟨o,_,_,_,e,_⟩:=x;exact⟨_,e⟩
 |ins C dx fs=>obtain⟨_,_,_,e,_⟩:=x;exact⟨_,e⟩
 |own y=>obtain⟨_,e⟩:=x;exact⟨_,e⟩
 |xd fs=>obtain⟨_,⟨_,_,_,e,_⟩,_⟩:=x;exact⟨_,e⟩
 |rng lo hi=>obtain⟨_,_,_,e⟩:=x;exact⟨_,e⟩
 |frz ob u=>obtain⟨e,_⟩:=x;exact⟨_,e⟩
 |tbl ps=>exact⟨_,(show h.get? a=some _ from x)⟩
 |met f y=>exact⟨_,(show h.get? a=some _ from x)⟩
 |ext φ=>obtain⟨_,e,_⟩:=x;exact e
theorem Tx{env:Env}{outer:List Env}{b:Addr}(h:b∉jq (env::outer)):b∉jq outer:=λz=>h (by
 unfold jq at z⊢
 rw[z0m]
 split
 ·exact z
 ·exact X5 _ z)
section
variable{X:Cx}{pins:List (Addr×Obj)}{σ:St}{H1 H':Hp}{s1 s':Shared}{C e t:Addr}{B:Heap}
theorem PL{H:Hp}{s:Shared}{M:Model}{A:Around}{E:Value->Shared->Prop}{i:Nat}{x:Str}{pos:Pos}{Q:Unit->Shared->Prop}(I:Inv X pins σ H s)(hN:X.N.Nodup)(hi:X.N[i]?=some x)(hl:X.env.scope.names.lookup x=some .local)
  (h:∀s',Inv X pins (σ.set i none) H s'->Q () s'):wpAny M A (do bindName X.env x .none;unbindBehindTheSuite X.env x pos) Q E s:=by
 obtain⟨m,hn,X3⟩:=id I.loc
 refine wpAny_nameGoes_keeps hl hn (by rw[I.ok.kind];rfl) λh' v N6 hs=>?_
 have lt:∀b o,X.s₀.heap.get? b=some o->b≠X.env.locals:=λb o e=>z0V (z0I (z0A e) I.ok.above)
 refine h _ ⟨I.ok,I.os,I.bare,⟨λb o q n hb hx=>?_,λb o q n hb hx=>?_,I.base.free,λb o q hx=>?_,I.base.o8,I.base.oC,I.base.qg⟩,⟨_,N6,λj y v' e1 e2 e3=>?_⟩,λy c q=>?_,I.free,I.freeC,λp hp=>?_,λb u q=>?_,by rw[z0q];exact I.len⟩
 ·exact(hs.2 b (lt b o q)).trans (I.base.keep b o q n hb hx)
 ·obtain⟨sl,z⟩:=I.base.slot b o q n hb hx
  exact⟨sl,(hs.2 b (lt b o q)).trans z⟩
 ·obtain⟨o',z⟩:=I.base.there b o q hx
  exact⟨o',(hs.2 b (lt b o q)).trans z⟩
 ·by_cases hj:j=i
  ·subst hj
   rw[z0B]at e2
   rw[if_pos rfl]at e2
   split at e2<;>cases e2
  ·rw[z0g (Ne.symm hj)]at e2
   obtain⟨u,r,q⟩:=X3 j y v' e1 e2 e3
   have ZX:y≠x:=λz=>hj (ur hN (z▸e1) hi)
   refine⟨u,r,?_⟩
   rcases q with⟨k,q⟩|⟨k,c,q1,q2⟩
   ·exact .inl ⟨k,by show(if y=x then v else m y)=some u;rw[if_neg ZX];exact q⟩
   ·exact .inr ⟨k,c,q1,q2.sameBut hs (I.KP y c q1)⟩
 ·obtain⟨v,z⟩:=I.cell y c q
  exact⟨v,z.sameBut hs (I.KP y c q)⟩
 ·obtain⟨p1,p2,p3,p4,p5⟩:=I.pin p hp
  exact⟨(hs.2 _ p3).trans p1,p2,p3,p4,p5⟩
 ·refine(I.dU b u q).oB (λc v hc z=>(hs.2 c ?_).trans z) (λ_ z=>z) λ_ _ z=>z
  rintro rfl
  rcases hc with rfl|hc
  ·rw[I.free]at q;cases q
  ·rw[I.free]at hc;cases hc
end
abbrev Cx.mk'(X:Cx)(e:Addr):Cx:={X with A:=X.A.mark (some (.ref e)),calm:=false,xe:=λ_ _=>False}
theorem Inv.Yl{X:Cx}{pins:List (Addr×Obj)}{σ:St}{H:Hp}{s:Shared}(I:Inv X pins σ H s)(e:Addr):Inv (Cx.mk' X e) pins σ H s:=
 ⟨⟨I.ok.mod,I.ok.kind,I.ok.glob,I.ok.blt,I.ok.above,I.ok.inj,I.ok.has,I.ok.cab,λz=>(Bool.noConfusion z),I.ok.frames,I.ok.stk,I.ok.exf,I.ok.bs,I.ok.bsz,I.ok.noex,I.ok.exfs,I.ok.funs,I.ok.frf⟩,I.os,I.bare,I.base,I.loc,I.cell,I.free,I.freeC,I.pin,I.dU,I.len⟩
theorem Inv.Tz{X:Cx}{pins:List (Addr×Obj)}{σ:St}{H:Hp}{s:Shared}{e:Addr}(ok:X.Ok)(I:Inv (Cx.mk' X e) pins σ H s):Inv X pins σ H s:=
 ⟨ok,I.os,I.bare,I.base,I.loc,I.cell,I.free,I.freeC,I.pin,I.dU,I.len⟩
structure Below(K:PySem.W.Frag)(D C:Addr):Prop where
 h1:PySem.W.instIn K (.ref D) (.type "tuple")=some false
 h2:(PySem.W.clsIn K D).isSome=true
 h3:PySem.W.mroIn K D (.type "BaseException")=some true
 h4:PySem.W.mroIn K C (.ref D)=some true
section
variable{X:Cx}{κ:Kl}{Ex:Nat->Hp->Prop}{st:Stmt}{rest:List Stmt}{g g':bE}{e a b c tg iter:Expr}{f fa:Den}{ft:de}{pos:Pos}{fi:eF}{gt:uL}{body:List Stmt}
theorem PM{p1 p2 p3:Pos}{k k':Nat}{c c':Str}{ta:TE}(ha:PE X a ta)(hc:c.length<=1000)(Ry:c'.length<=1000)(hs:evalEach [.Constant (.str c') k' p3,.FormattedValue a (-1) none p1,.Constant (.str c) k p2] X.env=[eval (.Constant (.str c') k' p3) X.env,eval (.FormattedValue a (-1) none p1) X.env,eval (.Constant (.str c) k p2) X.env]:=by rfl):
  PE X (.JoinedStr [.Constant (.str c') k' p3,.FormattedValue a (-1) none p1,.Constant (.str c) k p2] pos) (λσ H Q=>ta σ H λx H1=>∃i,x=.int i/\i.natAbs<10^100/\∀out,Q (.str out) H1):=by
 intro pins s σ H Q I h
 have zl:(100000:Nat)<=sizeLine:=by decide
 have e0:(Str.empty:Str).length=0:=rfl
 refine wpAny_JoinedStr ?_
 rw[hs]
 show wpAny _ _ (eval (.Constant (.str c') k' p3) X.env) _ _ s
 refine dN (uw (X:=X) (x:=c') pins s σ H (λx H2=>x=.str c'/\H2=H) I ⟨rfl,rfl⟩) λv s1 cZ=>?_
 obtain⟨y,H0,I0,r0,ey,eH⟩:=cZ
 subst ey eH
 obtain⟨t0,rfl⟩:=r0
 refine⟨c',t0,rfl,by rw[strLen_append,e0];omega,?_⟩
 refine wpAny_FormattedValue_plain (dN (ha pins s1 σ H0 _ I0 h) λv s2 cZ=>?_)
 obtain⟨x,H1,I1,r1,i,ex,hz,q⟩:=cZ
 subst ex
 obtain⟨t,rfl⟩:=r1
 have hl:(Str.ofString (toString i)).length<=101:=by
  rw[PySem.ofString_length]
  exact int_text_length_le10 (k:=100) (by decide) hz
 refine wpAny_formatField_int ?_ ⟨_,_,rfl,by rw[strLen_append,strLen_append,e0];omega,?_⟩
 ·refine z0I (m:=400) ?_ (by decide)
  by_cases h0:i.natAbs=0
  ·rw[h0];decide
  ·exact(Nat.log2_lt h0).mpr (z0I hz (by
    have z:=Nat.pow_le_pow_left (show 10<=2^4 by decide) 100
    rw[<-Nat.pow_mul]at z
    exact z))
 ·show wpAny _ _ (eval (.Constant (.str c) k p2) X.env) _ _ _
  refine dN (uw (X:=X) (x:=c) pins _ σ H1 (λx H2=>x=.str c/\H2=H1) ((I1.tok _).tok _) ⟨rfl,rfl⟩) λv s3 cZ=>?_
  obtain⟨y,H2,I2,r2,ey,eH⟩:=cZ
  subst ey eH
  obtain⟨t2,rfl⟩:=r2
  have RO:(Str.empty++c'++Str.ofString (toString i)++c).length<=sizeLine:=by
   rw[strLen_append,strLen_append,strLen_append,e0]
   omega
  exact⟨c,t2,rfl,RO,RO,.str _,_,I2.tok _,⟨_,rfl⟩,q _⟩
end
section
variable{X:Cx}{p p1 p2 pos:Pos}{y cn:Str}
theorem lF{x c:Str}{p' apos bY:Pos}{j:Nat}(i:Nat)(hN:X.N[i]?=some x:=by rfl)(hv:uq X.env.scope x:=by first|exact Or.inl rfl|exact Or.inr (Or.inl rfl)|exact Or.inr (Or.inr rfl))(hd:(x==("__debug__" :Str))=false:=by decide)
  (j0:(x==("__classdict__" :Str))=false:=by decide)(iF:attributeBase (.Name x p') "append" X.env (eval (.Name x p') X.env)=eval (.Name x p') X.env:=by rfl)
  (rP:((backTo bY (starEach [.Constant (.str c) j p1] X.env)).all (λx=>!x.1)&&(backToKw bY (keywordEach [] X.env)).all (λx=>x.1.isSome)
    &&decide ([Expr.Constant (.str c) j p1].length+([]:List Keyword).length+(if([]:List Keyword).isEmpty then 0 else 1)<30))=true:=by rfl)
  (hs:swapsWith (.Call (.Attribute (.Name x p') "append" apos) [.Constant (.str c) j p1] [] bY) none pos.line X.env=pure false:=by rfl)(iG:(apos.endLine==bY.line)=true:=by rfl)(kJ:starEach [.Constant (.str c) j p1] X.env=(false,eval (.Constant (.str c) j p1) X.env)::starEach [] X.env:=by rfl):
  PS X (.Expr (.Call (.Attribute (.Name x p') "append" apos) [.Constant (.str c) j p1] [] bY) pos) (qk (RE X.K "list" qv (fR i) (eU (tC (.str c)) kc))):=
 g0 (wN z0t z1G z1H oj (dm hN hv hd j0) (aG uw bG kJ) iF rP iG kJ rfl) hs
end
def yq(C a:Addr)(dx:Option Addr)(h:Heap):Prop:=∃o vs,h.get? a=some o/\o.cls=.ref C/\o.dict=dx/\o.data=.fields vs/\vs[1]?=some .none
def Cd(C dx a:Addr)(h:Heap):Prop:=∃o vs,h.get? a=some o/\o.cls=.ref C/\o.dict=some dx/\o.data=.fields vs
def xn(C a:Addr)(dx:Option Addr):HO:=.ext (yq C a dx)
def xy(C dx a:Addr):HO:=.ext (Cd C dx a)
theorem Im{P:Program}{w:World}{H:Hp}{h:Heap}{C a:Addr}{dx:Option Addr}(x:yq C a dx h):eQ P w H h a (xn C a dx):=by
 obtain⟨o,vs,h1,h2⟩:=x
 exact⟨⟨o,vs,h1,h2⟩,⟨o,h1⟩,λg1 g2 ⟨o',Te,q1,q2⟩ k=>⟨o',Te,k o' q1,q2⟩⟩
theorem TB{P:Program}{w:World}{H:Hp}{h:Heap}{C dx a:Addr}(x:Cd C dx a h):eQ P w H h a (xy C dx a):=by
 obtain⟨o,vs,h1,h2⟩:=x
 exact⟨⟨o,vs,h1,h2⟩,⟨o,h1⟩,λg1 g2 ⟨o',Te,q1,q2⟩ k=>⟨o',Te,k o' q1,q2⟩⟩
theorem Ec{P:Program}{w:World}{H:Hp}{h:Heap}{C a:Addr}{dx:Option Addr}(x:eQ P w H h a (xn C a dx)):yq C a dx h:=x.1
theorem Ip{P:Program}{w:World}{H:Hp}{h:Heap}{C dx a:Addr}(x:eQ P w H h a (xy C dx a)):Cd C dx a h:=x.1
theorem Cd.x{C dx a:Addr}{h:Heap}(x:Cd C dx a h):LP C a h:=let⟨o,_,h1,h2,_⟩:=x;⟨o,h1,h2⟩
def wj(H:Hp)(e:Addr):Hp:=λb=>if b=e then none else H b
theorem xh{H:Hp}{e:Addr}:wj H e e=none:=if_pos rfl
theorem yr{H:Hp}{e b:Addr}(h:b≠e):wj H e b=H b:=if_neg h
theorem xi{H:Hp}{e b:Addr}{o:HO}(h:wj H e b=some o):b≠e/\H b=some o:=by
 by_cases z:b=e
 ·subst z
  rw[xh]at h
  cases h
 ·rw[yr z]at h
  exact⟨z,h⟩
theorem Fx{H:Hp}{e b:Addr}(h:H b=none):wj H e b=none:=by
 unfold wj
 split
 ·rfl
 ·exact h
structure WL(P:Program)(w:World)(outer:List Env)(H:Hp)(s:Shared)(C e dx:Addr)(s':Shared)(H':Hp)(B:Heap):Prop where
 os:s'.os=s.os
 bare:AllBare s'.gens
 un:Un (jq outer) [] H H' s.heap s'.heap
 dU:tF P w H' s'.heap
 Fy:B6 B outer e (.ref C) (some dx) .none s'.heap
 kp:∀b o,s.heap.get? b=some o->H b=none->b∉jq outer->B.get? b=some o
 th:∀b o,s.heap.get? b=some o->b∉jq outer->∃o',B.get? b=some o'
 tr:∀b u,H' b=some u->∃o',B.get? b=some o'
def kf(P:Program)(w:World):Gv:=λouter H s E ev s'=>∃(a C dx:Addr) (H':Hp) (B:Heap),ev=.ref a/\WL P w outer H s C a dx s' H' B/\E (.ref C) (some dx) H'
section
variable{P:Program}{w:World}{K:PySem.W.Frag}{mg:Str->Option Value}{base:Heap}{N:List Str}{qual:Str}{scope:Scope}{f:Addr}{cR:Value}{A:Around}{outer:List Env}{s₀:Shared}{H₀:Hp}{E:XK}
theorem leave_new{pins:List (Addr×Obj)}{σ:St}{H:Hp}{s:Shared}{e C dx:Addr}(I:Inv (lh (kf P w) P w K mg base N qual scope f cR A outer s₀ H₀ E) pins σ H s)(he:H e=some (xn C e (some dx)))(new:s₀.heap.get? e=none)(hE:E (.ref C) (some dx) (wj H e)):
  (lh (kf P w) P w K mg base N qual scope f cR A outer s₀ H₀ E).xe (.ref e) s:=by
 have FF:=I.stack
 have Fr:=I.ok.frames
 have sf:=I.qh
 change s.heap.FunFrames base (envOfC qual scope s₀.heap.objs.size f cR::outer)at FF
 change(A.deeper (envOfC qual scope s₀.heap.objs.size f cR)).frames=some (envOfC qual scope s₀.heap.objs.size f cR::outer)at Fr
 change∀b∈jq (envOfC qual scope s₀.heap.objs.size f cR::outer),H b=none at sf
 show wpAny (model P w) (A.deeper (envOfC qual scope s₀.heap.objs.size f cR)) (leaving (envOfC qual scope s₀.heap.objs.size f cR) (.ref e)) (λ_ K3=>kf P w outer H₀ s₀ E (.ref e) K3) _ s
 generalize WM:envOfC qual scope s₀.heap.objs.size f cR=env at FF Fr sf⊢
 have hf:env.frame=some s₀.heap.objs.size:=by rw[<-WM];rfl
 have mem:∀b,b∈jq (env::outer)->b=s₀.heap.objs.size\/b∈jq outer:=λb hb=>by
  unfold jq at hb
  rw[z0m,hf]at hb
  exact z0N.mp hb
 obtain⟨oe,vs,x1,x2,x3,x4,x5⟩:=Ec (I.dU e _ he)
 have ne:e∉jq (env::outer):=λz=>by rw[sf e z]at he;cases he
 refine B7 (B:=PySem.W.hideAll s.heap (e::jq (env::outer))) (outer:=outer) (L:=s₀.heap.objs.size) Fr hf (λb o q=>PySem.W.of_hideAll _ q) (PySem.W.hideAll_none _ (RF ..)) (PySem.W.funFrames_hide FF λen WN b hb=>X5 _ (z1M.mpr ⟨en,WN,hb⟩)) x1 x2 x3 x4 x5 λh2 Fy up=>?_
 have B1:∀b o,s.heap.get? b=some o->b≠e->b∉jq (env::outer)->(PySem.W.hideAll s.heap (e::jq (env::outer))).get? b=some o:=λb o q n1 n=>PySem.W.hideAll_get _ q λz=>(z0N.mp z).elim n1 n
 have RM:∀b o,s.heap.get? b=some o->b∈jq (env::outer)->∃sl,h2.get? b=some {o with slots:=sl}:=λb o q n=>by
  obtain⟨_,o',q',hd⟩:=FF.mem n
  rw[q]at q'
  cases q'
  exact up b o q hd
 have out:∀b o,s₀.heap.get? b=some o->b∉jq outer->b∉jq (env::outer):=λb o q n z=>by
  rcases mem b z with rfl|z
  ·exact absurd (z0A q) (z0e _)
  ·exact n z
 have WO:∀b,b∈jq outer->b∈jq (env::outer):=λb hb=>z0W λz=>Tx z hb
 have bk:=I.base.keep
 have bs:=I.base.slot
 have bf:=I.base.free
 have bt:=I.base.there
 change∀b o,s₀.heap.get? b=some o->H₀ b=none->b∉jq outer->b∉[]->s.heap.get? b=some o at bk
 change∀b o,s₀.heap.get? b=some o->H₀ b=none->b∈jq outer->b∉[]->∃sl,s.heap.get? b=some {o with slots:=sl}at bs
 change∀b o,s₀.heap.get? b=some o->b∉[]->∃o',s.heap.get? b=some o' at bt
 change∀b o,s₀.heap.get? b=some o->H₀ b=none->b∉[]->H b=none at bf
 have tk:∀b u,H b=some u->b∉jq (env::outer):=λb u q z=>by rw[sf b z]at q;cases q
 have old:∀b o,s₀.heap.get? b=some o->b≠e:=λb o q z=>by rw[z,new]at q;cases q
 have nx:∀b (o:HO),H b=some o->(∀φ,o≠.ext φ)->wj H e b=some o:=λb o q n=>by
  rw[yr λz=>?_]
  ·exact q
  ·rw[z,he]at q
   cases q
   exact n _ rfl
 refine⟨e,C,dx,wj H e,_,rfl,⟨I.os,I.bare,⟨λb o q n hb hx=>?_,λb o q n hb hx=>?_,λb o q n hx=>Fx (bf b o q n hx),λb o q hx=>?_,λb xs q=>nx b _ (I.base.o8 b xs q) (by simp),λb o u q=>nx b _ (I.base.oC b o u q) (by simp),λb ps q=>?_⟩,λb u q=>?_,Fy,λb o q n hb=>?_,λb o q hb=>?_,λb u q=>?_⟩,hE⟩
 ·exact Fy.st b o (B1 b o (bk b o q n hb hx) (old b o q) (out b o q hb))
 ·obtain⟨sl,q1⟩:=bs b o q n hb hx
  obtain⟨KQ,q2⟩:=RM b _ q1 (WO b hb)
  exact⟨KQ,q2⟩
 ·obtain⟨o',q1⟩:=bt b o q hx
  by_cases hb:b∈jq (env::outer)
  ·obtain⟨sl,q2⟩:=RM b o' q1 hb
   exact⟨_,q2⟩
  ·exact⟨o',Fy.st b o' (B1 b o' q1 (old b o q) hb)⟩
 ·obtain⟨more,z⟩:=I.base.qg b ps q
  exact⟨more,nx b _ z (by simp)⟩
 ·obtain⟨hb,q⟩:=xi q
  refine(I.dU b u q).oB (λc v hc z=>?_) (λc z=>nx c _ z (by simp)) λc xs z=>nx c _ z (by simp)
  refine Fy.st c v (B1 c v z ?_ ?_)
  ·rcases hc with rfl|hc
   ·exact hb
   ·intro y
    rw[y,he]at hc
    cases hc
  ·rcases hc with rfl|hc
   ·exact tk c u q
   ·exact tk c _ hc
 ·exact B1 b o (bk b o q n hb (by simp)) (old b o q) (out b o q hb)
 ·obtain⟨o',q1⟩:=bt b o q (by simp)
  exact⟨o',B1 b o' q1 (old b o q) (out b o q hb)⟩
 ·obtain⟨hb,q⟩:=xi q
  obtain⟨o',q1⟩:=Il (I.dU b u q)
  exact⟨o',B1 b o' q1 hb (tk b u q)⟩
theorem xj:Passes (kf P w) (lh (kf P w) P w K mg base N qual scope f cR A outer s₀ H₀ E) E:=by
 intro pins σ H s ev s' I hc
 obtain⟨e,C,dx,H',B,rfl,G,hE⟩:=hc
 have FF:=I.stack
 have Fr:=I.ok.frames
 have sf:=I.qh
 change s.heap.FunFrames base (envOfC qual scope s₀.heap.objs.size f cR::outer)at FF
 change(A.deeper (envOfC qual scope s₀.heap.objs.size f cR)).frames=some (envOfC qual scope s₀.heap.objs.size f cR::outer)at Fr
 change∀b∈jq (envOfC qual scope s₀.heap.objs.size f cR::outer),H b=none at sf
 change WL P w (envOfC qual scope s₀.heap.objs.size f cR::outer) H s C e dx s' H' B at G
 show wpAny (model P w) (A.deeper (envOfC qual scope s₀.heap.objs.size f cR)) (leaving (envOfC qual scope s₀.heap.objs.size f cR) (.ref e)) (λ_ K3=>kf P w outer H₀ s₀ E (.ref e) K3) _ s'
 generalize WM:envOfC qual scope s₀.heap.objs.size f cR=env at FF Fr sf G⊢
 have hf:env.frame=some s₀.heap.objs.size:=by rw[<-WM];rfl
 have mem:∀b,b∈jq (env::outer)->b=s₀.heap.objs.size\/b∈jq outer:=λb hb=>by
  unfold jq at hb
  rw[z0m,hf]at hb
  exact z0N.mp hb
 obtain⟨g1,g2,g3,g4,g5,g6,g7,g8⟩:=G
 refine Fu Fr hf g5 λh2 Fy up=>?_
 have out:∀b o,s₀.heap.get? b=some o->b∉jq outer->b∉jq (env::outer):=λb o q n z=>by
  rcases mem b z with rfl|z
  ·exact absurd (z0A q) (z0e _)
  ·exact n z
 have WO:∀b,b∈jq outer->b∈jq (env::outer):=λb hb=>z0W λz=>Tx z hb
 have bk:=I.base.keep
 have bs:=I.base.slot
 have bf:=I.base.free
 have bt:=I.base.there
 change∀b o,s₀.heap.get? b=some o->H₀ b=none->b∉jq outer->b∉[]->s.heap.get? b=some o at bk
 change∀b o,s₀.heap.get? b=some o->H₀ b=none->b∈jq outer->b∉[]->∃sl,s.heap.get? b=some {o with slots:=sl}at bs
 change∀b o,s₀.heap.get? b=some o->b∉[]->∃o',s.heap.get? b=some o' at bt
 change∀b o,s₀.heap.get? b=some o->H₀ b=none->b∉[]->H b=none at bf
 have oB:∀b o,B.get? b=some o->h2.get? b=some o:=Fy.st
 have slot:∀b o,s.heap.get? b=some o->H b=none->b∈jq (env::outer)->∃sl,h2.get? b=some {o with slots:=sl}:=λb o q n hb=>by
  obtain⟨sl,q1⟩:=g3.slot b o q n hb (by simp)
  obtain⟨_,o',q',hd⟩:=FF.mem hb
  rw[q]at q'
  cases q'
  obtain⟨KQ,q2⟩:=up b _ q1 hd
  exact⟨KQ,q2⟩
 refine⟨e,C,dx,H',B,rfl,⟨g1.trans I.os,g2,⟨λb o q n hb hx=>?_,λb o q n hb hx=>?_,λb o q n hx=>?_,λb o q hx=>?_,λb xs q=>g3.o8 b xs (I.base.o8 b xs q),λb o u q=>g3.oC b o u (I.base.oC b o u q),λb ps q=>?_⟩,λb u q=>?_,Fy,λb o q n hb=>?_,λb o q hb=>?_,g8⟩,hE⟩
 ·exact oB b o (g6 b o (bk b o q n hb (by simp)) (bf b o q n (by simp)) (out b o q hb))
 ·obtain⟨sl,q1⟩:=bs b o q n hb (by simp)
  obtain⟨KQ,q2⟩:=slot b _ q1 (bf b o q n (by simp)) (WO b hb)
  exact⟨KQ,q2⟩
 ·obtain⟨o',q1⟩:=bt b o q (by simp)
  exact g3.free b o' q1 (bf b o q n (by simp)) (by simp)
 ·obtain⟨o',q1⟩:=bt b o q (by simp)
  by_cases hb:b∈jq (env::outer)
  ·obtain⟨sl,q2⟩:=slot b o' q1 (sf b hb) hb
   exact⟨_,q2⟩
  ·obtain⟨Ym,q2⟩:=g7 b o' q1 hb
   exact⟨Ym,oB b Ym q2⟩
 ·obtain⟨more,z⟩:=I.base.qg b ps q
  obtain⟨TC,z'⟩:=g3.qg b _ z
  exact⟨more++TC,by rw[<-z1m];exact z'⟩
 ·refine(g4 b u q).oB (λc v hc z=>?_) (λ_ z=>z) λ_ _ z=>z
  obtain⟨o',z1⟩:∃o',B.get? c=some o':=by
   rcases hc with rfl|hc
   ·exact g8 c u q
   ·exact g8 c _ hc
  have z2:=g5.st c o' z1
  rw[z]at z2
  cases z2
  exact oB c v z1
 ·exact g6 b o (bk b o q n hb (by simp)) (bf b o q n (by simp)) (out b o q hb)
 ·obtain⟨o',q1⟩:=bt b o q (by simp)
  exact g7 b o' q1 (out b o q hb)
end
section
variable{X:Cx}{pins:List (Addr×Obj)}{σ:St}{H1 H':Hp}{s1 s':Shared}{C e dx:Addr}{B:Heap}
theorem Ee(I:Inv X pins σ H1 s1)(G:WL X.prog X.w X.stack H1 s1 C e dx s' H' B){h3:Heap}(sB:∀b o,B.get? b=some o->h3.get? b=some o)(up:s'.heap.UpToSlots h3)(he:Cd C dx e h3)(tk:Nat):
  H' e=none/\Inv X pins σ (upd H' e (xy C dx e)) {s' with heap:=h3,toks:=tk}:=by
 obtain⟨f1,f2,f3,f4⟩:=G.Fy
 have FF:=I.stack
 have ne:H' e=none:=by
  cases q:H' e with
  |none=>rfl
  |some u=>
   obtain⟨o',z⟩:=G.tr e u q
   rw[f2]at z
   cases z
 have new:s1.heap.get? e=none:=by
  cases q:s1.heap.get? e with
  |none=>rfl
  |some o=>
   by_cases hb:e∈jq X.stack
   ·obtain⟨_,o',q',hd⟩:=f3.mem hb
    obtain⟨oe,vs,T,oT,ts,z1,_,_,z2,_⟩:=f4
    rw[q']at z1
    cases z1
    exact absurd z2 (hd vs)
   ·obtain⟨o',z⟩:=G.th e o q hb
    rw[f2]at z
    cases z
 have slot:∀b o,s1.heap.get? b=some o->H1 b=none->b∈jq X.stack->∃sl,h3.get? b=some {o with slots:=sl}:=λb o q n hb=>by
  obtain⟨sl,q1⟩:=G.un.slot b o q n hb (by simp)
  obtain⟨_,o',q',hd⟩:=FF.mem hb
  rw[q]at q'
  cases q'
  obtain⟨KQ,q2⟩:=up b _ q1 hd
  exact⟨KQ,q2⟩
 have TF:∀b u,H' b=some u->b≠e:=λb u q z=>by rw[z,ne]at q;cases q
 refine⟨ne,I.MV (s':={s' with heap:=h3,toks:=tk}) (ch:=[]) G.os ⟨λb o q n hb _=>sB b o (G.kp b o q n hb),λb o q n hb _=>slot b o q n hb,λb o q n _=>?_,λb o q _=>?_,λb xs q=>?_,λb o u q=>?_,λb ps q=>?_⟩ (λb u q=>?_) G.bare (λb z=>absurd z (by simp))⟩
 ·rw[au λz=>by rw[z,new]at q;cases q]
  exact G.un.free b o q n (by simp)
 ·by_cases hb:b∈jq X.stack
  ·obtain⟨sl,z⟩:=slot b o q (I.qh b hb) hb
   exact⟨_,z⟩
  ·obtain⟨o',z⟩:=G.th b o q hb
   exact⟨o',sB b o' z⟩
 ·have z:=G.un.o8 b xs q
  rw[au (TF b _ z)]
  exact z
 ·have z:=G.un.oC b o u q
  rw[au (TF b _ z)]
  exact z
 ·obtain⟨more,z⟩:=G.un.qg b ps q
  exact⟨more,by rw[au (TF b _ z)];exact z⟩
 ·by_cases hb:b=e
  ·subst hb
   rw[aC]at q
   cases q
   exact TB he
  ·rw[au hb]at q
   refine(G.dU b u q).oB (λc v hc z=>?_) (λc z=>by rw[au (TF c _ z)];exact z) λc xs z=>by rw[au (TF c _ z)];exact z
   obtain⟨o',z1⟩:∃o',B.get? c=some o':=by
    rcases hc with rfl|hc
    ·exact G.tr c u q
    ·exact G.tr c _ hc
   have z2:=f1 c o' z1
   rw[z]at z2
   cases z2
   exact sB c v z1
end
def PN(D:Ends)(σ:St)(jn jz:Nat)(ok:Addr->Prop):XK:=λc d H2=>∃C dx,c=.ref C/\d=some dx/\ok C/\∀a,H2 a=none->D.nx (((σ.set jn (some (.ref a))).set jz (some (.ref a))).set jn none) (upd H2 a (xy C dx a))
section
variable{X:Cx}{k:Nat}{f DD:Addr}{fd:FuncData}{ps:List Str}{sp:Sp}{ta:TA}{a0:Expr}{as:List Expr}{y z n x fn:Str}{iy iz jn:Nat}{pf pc py pa px pz pn pb ph pos:Pos}
theorem LR(FO:aK X.prog X.w X.K X.mg X.base (kf X.prog X.w) k f fd ps sp)(hr:c8 k X.A)(hm:X.mg fn=some (.ref f))(hk:PySem.W.keepIn X.K (.ref f)=true)(hb:Binds X.K fd ps [])(ha:∀E1,PA (X.tG E1) (a0::as) ta)
  (hN:X.N.Nodup)(OX:X.N[iy]?=some y)(ZY:X.N[iz]?=some z)(Ef:X.N[jn]?=some n)(Yn:X.env.scope.names.lookup y=some .local)(Yo:X.env.scope.names.lookup z=some .local)(Ve:X.env.scope.names.lookup n=some .local)
  (kJ:X.stack=X.env::X.outer)(SX:X.env.frame=some X.env.locals)(hD:X.mg x=some (.ref DD))(hg:Gl X fn:=by rfl)(WK:Gl X x:=by rfl)(mO:(fn==("__debug__" :Str))=false:=by decide)(WQ:(x==("__debug__" :Str))=false:=by decide)(ZZ:(n==("__debug__" :Str))=false:=by decide)(Z0:(n==("__classdict__" :Str))=false:=by decide)
  (he:starEach (a0::as) X.env=(false,eval a0 X.env)::starEach as X.env:=by rfl)(hpl:(backTo pc (starEach as X.env)).any (·.1)=false:=by rfl)
  (hs:swapsWith (.Call (.Name fn pf) (a0::as) [] pc) (some (.Name y py)) pa.line X.env=pure false:=by rfl)(o9:swapsWith (.Name n pn) (some (.Name z pz)) pb.line X.env=pure false:=by rfl):
  PS X (.Try [.Assign [.Name y py] (.Call (.Name fn pf) (a0::as) [] pc) pa] [.ExceptHandler (some (.Name x px)) (some n) [.Assign [.Name z pz] (.Name n pn) pb] ph] [] [] pos)
   (λD σ H=>ta σ H λvs H1=>sp vs H1 (λv H2=>D.nx (σ.set iy (some v)) H2) (PN D σ jn iz (Below X.K DD))):=by
 intro pins s σ H D I h
 have ok:=I.ok
 let E1:Value->Shared->Prop:=λe s'=>∃H1 s1,Inv X pins σ H1 s1/\kf X.prog X.w X.stack H1 s1 (PN D σ jn iz (Below X.K DD)) e s'
 have TH:wpAny (model X.prog X.w) X.A (eval (.Call (.Name fn pf) (a0::as) [] pc) X.env) (EP X pins σ λv H2=>D.nx (σ.set iy (some v)) H2) E1 s:=by
  refine wpAny_Call_Name_kw (j3 I hg hm ?_ mO)
  refine z0x (h₀:=X.base) I.ok.mod.ES hk (dN (ha E1 pc pins s σ H _ (I.tG E1) h) λus s1 ⟨vs,H1,I1,r,q⟩=>⟨I1.kb.jc,?_⟩) he hpl
  have J:=I1.kb
  have hl:(us++[]).length=ps.length:=by rw[z0Y,<-r.length];exact FO.len _ _ _ _ q
  have pA:=hb s1 us J.jc hl
  rw[z0Y]at pA
  refine wpAny_call (codeAny_mono (FO.run X.A X.stack s1 H1 ⟨us,[]⟩ us vs _ _ hr J.K1 pA r q) λrr s' hq=>?_)
  cases rr with
  |error e=>exact⟨H1,s1,J,hq⟩
  |ok fl=>
   cases fl with
   |ret u=>exact J.after hq
   |next=>exact False.elim hq
   |brk=>exact False.elim hq
   |cont=>exact False.elim hq
 have zM:wpAny (model X.prog X.w) X.A (execs [.Assign [.Name y py] (.Call (.Name fn pf) (a0::as) [] pc) pa] X.env) (λfl s'=>fl=.next/\∃σ' H',Inv X pins σ' H' s'/\D.nx σ' H') E1 s:=by
  refine wpAny_execs_cons (wpAny_Assign_Name (dN TH λv s1 cZ=>?_) hs)
  obtain⟨u,H1,I1,r1,q1⟩:=cZ
  refine kL I1 hN OX (.inl Yn) r1 (λs2 I2=>?_) (.inr Yn)
  exact wpAny_execs_nil ⟨rfl,_,H1,I2,q1⟩
 refine wpAny_Try_except (wpAny_mono zM (λfl s' hq=>?_) λev s' hq=>?_)
 ·obtain⟨rfl,σ',H',I',q⟩:=hq
  exact wpAny_execs_nil ⟨σ',H',I',q⟩
 ·obtain⟨H1,s1,I1,e,C,dx,H',B,rfl,G,C',OB,hC,WR,Vf,Z1⟩:=hq
  cases hC
  cases WR
  have Fy:=G.Fy
  rw[kJ]at Fy
  have Z2:X.A.frames=some (X.env::X.outer):=by rw[<-kJ];exact ok.frames
  refine Aw (outer:=X.outer) Z2 SX Fy λh4 held Nk=>?_
  refine qI (s:={s' with heap:=h4}) held λh5 PQ Yp=>?_
  have c5:=Ee I1 G (h3:=h5) PQ.st (Nk.trans Yp) PQ.at s'.toks
  have I5:Inv X pins σ (upd H' e (xy C dx e)) {s' with heap:=h5}:=c5.2
  refine wpAny_handleBy_cons (codeAny_handlers_test ?_) (by intro q;cases q)
  refine j3 (X:=Cx.mk' X e) (Inv.Yl I5 e) WK hD ?_ WQ
  refine Ax (K:=X.K) I5.jc (Ip (I5.dU e _ aC)).x Vf.h1 Vf.h2 Vf.h3 Vf.h4 ?_
  refine codeAny_handlers_suite_as ?_
  refine qI (s:={s' with heap:=h5}) PQ λh6 TJ Z3=>?_
  have c6:=Ee I1 G (h3:=h6) TJ.st ((Nk.trans Yp).trans Z3) TJ.at s'.toks
  have I6:Inv X pins σ (upd H' e (xy C dx e)) {s' with heap:=h6}:=c6.2
  refine kL (X:=Cx.mk' X e) (Inv.Yl I6 e) hN Ef (.inl Ve) (v:=.ref e) rfl (λs7 I7=>?_) (.inr Ve)
  have Z4:jn<σ.length:=by rw[I.len];exact(z0C.mp Ef).1
  have di:=bx (ic (X:=Cx.mk' X e) (pos:=pb) (pos':=pz) hN ZY (.inl Yo) (dm (pos:=pn) Ef (.inl Ve) ZZ Z0) o9 (.inr Yo)) pins s7 (σ.set jn (some (.ref e))) (upd H' e (xy C dx e))
   {nx:=λσ' H2=>σ'=(σ.set jn (some (.ref e))).set iz (some (.ref e))/\H2=upd H' e (xy C dx e),rt:=λ_ _=>False} I7 ⟨.ref e,by rw[z1X Z4],rfl,rfl⟩
  refine wpAny_mono di (λfl s8 q8=>?_) λ_ _ z=>z.elim
  cases fl with
  |next=>
   obtain⟨σ8,H8,I8,rfl,rfl⟩:=q8
   refine PL (Inv.Tz ok I8) hN Ef Ve λs9 I9=>?_
   exact⟨_,_,I9,Z1 e c6.1⟩
  |ret u=>obtain⟨_,_,_,_,_,z⟩:=q8;exact z.elim
  |brk=>obtain⟨_,_,_,z⟩:=q8;exact z.elim
  |cont=>obtain⟨_,_,_,z⟩:=q8;exact z.elim
end
end L2.D
namespace L2.D
open PySem PySem.Spec PySem.W PySem.Calls PyProof.Rows Builtin Builtin.ObjectAttr
structure va(K:Frag)(C:Addr):Prop where
 ex:GB K C=true
 sa:findIn K (.ref C) "__setattr__" =some (some (.builtin "object.__setattr__"))
 at_:findIn K (.ref C) "at" =some none
 mro:∃S cd,clsIn K C=some cd/\cd.mro=.ref C::.ref S::RN/\cd.hasDict=true
 ga:findIn K (.ref C) "__getattribute__" =some (some (.builtin "BaseException.__getattribute__"))
 gh:findIn K (.ref C) "__getattr__" =some none
section
variable{prog:Program}{w:World}{A:Around}{E:Value->Shared->Prop}{s:Shared}{K:Frag}{C e:Addr}
theorem Fz{dx:Option Addr}{tv:Value}{Q:Value->Shared->Prop}(X:K.In s.heap)(c:GB K C=true)(x:yq C e dx s.heap)
  (k:∀h',yq C e dx h'->(∀b u,b≠e->s.heap.get? b=some u->h'.get? b=some u)->Q .none {s with heap:=h'}):wpAny (model prog w) A (call (.builtin "ValueError.__init__") [.ref e,tv]) Q E s:=by
 obtain⟨h,g,d,t,os⟩:=s
 obtain⟨nm,q,N,bs,bm,LQ,sn,sub,ab,col,dd,k0,k1,k2,k3,k5,c1,T⟩:=yp c X
 obtain⟨o,vs,he,oc,od,ov,v1⟩:=x
 have FV:=z1p
 have sz:1<vs.size:=(z0n.mp v1).1
 refine wpAny_call (codeAny_call_builtin FV.init.plain FV.initEntry (wpAny_check_init_subU FV T c1 he oc ?_))
 unfold Builtin.«BaseException.__init__»
 refine wpAny_bind (wpAny_newTuple ?_ (show(1:Nat)<=sizeLine by decide))
 unfold BaseException.bexcPut
 have h1:(h.push {cls:=.type "tuple",data:=.seq [tv].toArray}).get? e=some o:=Zv _ he
 refine wpAny_bind (wpAny_bind (wpAny_field h1 ov (x:=vs[0]) (by simp) (wpAny_bind (wpAny_setField h1 ov (by omega) ?_))))
 have d2:=Obj.data_mapFields ov (·.setIfInBounds 0 (.ref h.objs.size))
 have fin:yq C e dx ((h.push {cls:=.type "tuple",data:=.seq [tv].toArray}).update e (Obj.mapFields (·.setIfInBounds 0 (.ref h.objs.size)))):=
  ⟨_,_,z0o _ h1 (Obj.isFreed_of_fields d2),(Obj.cls_mapFields _ _).trans oc,(xf _ _).trans od,d2,by rw[Array.getElem?_setIfInBounds_ne (by decide)];exact v1⟩
 have kp:∀b u,b≠e->h.get? b=some u->((h.push {cls:=.type "tuple",data:=.seq [tv].toArray}).update e (Obj.mapFields (·.setIfInBounds 0 (.ref h.objs.size)))).get? b=some u:=λb u n z=>by
  rw[z0Z _ _ (Ne.symm n)]
  exact Zv _ z
 have k':=k _ fin kp
 generalize vs[0]=v0
 cases v0<;>(wp_walk;exact k')
theorem LS{h:Heap}{o:Obj}{vs:Array Value}(he:h.get? e=some o)(oc:o.cls=.ref C)(od:o.dict=none)(ov:o.data=.fields vs):PySem.W.InstAt h e o C none:=by
 refine⟨he,oc,?_,?_⟩
 ·unfold notCls
  rw[ov]
 ·rw[od]
  trivial
theorem LU{v:Value}{Q:Unit->Shared->Prop}(X:K.In s.heap)(c:va K C)(x:yq C e none s.heap)
  (k:∀h' od tk,yq C e (some s.heap.objs.size) h'->h'.get? s.heap.objs.size=some od->h'.Ns1 s.heap.objs.size (λy=>if y=("at" :Str)then some v else none)->(∀b u,b≠e->s.heap.get? b=some u->h'.get? b=some u)->Q () {s with heap:=h',toks:=tk}):
  wpAny (model prog w) A (setAttr (.ref e) "at" v) Q E s:=by
 obtain⟨o,vs,he,oc,od,ov,v1⟩:=x
 obtain⟨S,cd,m1,m2,m3⟩:=c.mro
 have I:=LS he oc od ov
 have SF:=PySem.F.store_object
 have SV:=PySem.F.store_ValueError
 refine PySem.W.set_plain X I c.sa ?_
 have hm:Looks (model prog w) s.heap (mroOf (.ref C)) cd.mro:=(looks_clsIn X m1).andThen .now
 have sub:Looks (model prog w) s.heap (isInstance (.ref e) (.type "object")) true:=I.type.andThen (looks_mroIn X (by unfold mroIn;rw[m1,z1c,m2];rfl))
 refine codeAny_call_builtin SF.slot.plain SF.entry (check_slot (s:={s with toks:=s.toks+1}) (i:= "object.__setattr__") (owner:= "object") (n:= "__setattr__") (self:=.ref e) (rest:=[.str "at" s.toks,v]) (kw:=[]) SF.kind SF.split sub (SF.args (.ref e) (.str "at" s.toks) v) ?_)
 rw[osa_eq,refuse_eq]
 refine wpAny_bind (wpAny_bind (I.type.here (s:={s with toks:=s.toks+1}) (wpAny_bind (hm.here (s:={s with toks:=s.toks+1}) ?_))))
 rw[m2,refuseLoop_ref,refuseLoop_ref,SV.passes]
 refine wpAny_pure (wpAny_bind (I.type.here (s:={s with toks:=s.toks+1}) (wpAny_bind ((looks_findIn X c.at_).here (s:={s with toks:=s.toks+1}) (wpAny_bind (wpAny_pure ?_))))))
 unfold storeInOwnDict
 refine wpAny_bind (wpAny_pure (wpAny_bind ?_))
 unfold ownDictForStores instanceDict
 refine wpAny_bind (wpAny_loadPart he ?_)
 rw[oc]
 refine wpAny_bind ((looks_clsIn X m1).here (s:={s with toks:=s.toks+1}) ?_)
 rw[m3,od,ov]
 have h1:(s.heap.push {cls:=.type "dict",data:=.dict #[]}).get? e=some o:=Zv _ he
 have ne:e≠s.heap.objs.size:=z0V (z0A he)
 refine wpAny_bind (wpAny_alloc (wpAny_bind (wpAny_update h1 (wpAny_pure ?_))))
 show wpAny _ _ (storeInDict s.heap.objs.size (.str "at" s.toks) "at" v) _ _ _
 obtain⟨g2,Bw⟩:∃g2,g2=(s.heap.push {cls:=.type "dict",data:=.dict #[]}).update e λo=>{cls:=o.cls,dict:=some s.heap.objs.size,data:=o.data,slots:=o.slots}:=⟨_,rfl⟩
 have e1:g2.get? s.heap.objs.size=some {cls:=.type "dict",data:=.dict #[]}:=by rw[Bw];exact(z0Z _ _ ne).trans (z0H s.heap rfl)
 have e2:g2.get? e=some {cls:=o.cls,dict:=some s.heap.objs.size,data:=o.data,slots:=o.slots}:=by
  rw[Bw]
  exact z0o _ h1 (Obj.isFreed_of_fields (o:={cls:=o.cls,dict:=some s.heap.objs.size,data:=o.data,slots:=o.slots}) ov)
 have e3:∀b u,b≠e->s.heap.get? b=some u->g2.get? b=some u:=λb u n z=>by rw[Bw];exact(z0Z _ _ (Ne.symm n)).trans (Zv _ z)
 rw[<-Bw]
 have e4:g2.Ns s.heap.objs.size (λ_=>none):=⟨_,#[],_,e1,rfl,λa z=>absurd z (by simp),λ_=>rfl⟩
 unfold storeInDict newKeyGuard
 refine wpAny_bind (wpAny_pure (wpAny_bind (wpAny_nsSet1 (Heap.Ns1.of_empty e4) λh' n1 sb=>?_)))
 obtain⟨oD,es,ep,d1,d2,d3⟩:=n1.count (Within.cons ("at" :Str) v Within.nil)
 refine wpAny_bind (wpAny_lookBehind d1 (by rw[d2];exact pastItsLine_dict (z0T d3 (Nat.le_add_left 1 sizeLine))) ?_)
 refine wpAny_pure ?_
 exact k h' oD _ ⟨_,vs,(sb.2 e ne).trans e2,oc,rfl,ov,v1⟩ d1 n1 λb u n z=>(sb.2 b (z0V (z0A z))).trans (e3 b u n z)
theorem LV{dx:Addr}{v:Value}{mA:Str->Option Value}{b:Bool}{Q:Value->Shared->Prop}(X:K.In s.heap)(c:va K C)(x:Cd C dx e s.heap)(n:s.heap.Ns1 dx mA)(hv:mA "at" =some v)(hh:handedIn v=true)
  (k:Q v {s with toks:=s.toks+1}):wpAny (model prog w) A (getAttr (.ref e) "at" b) Q E s:=by
 obtain⟨o,vs,he,oc,od,ov⟩:=x
 obtain⟨S,cd,m1,m2,m3⟩:=c.mro
 obtain⟨ob,n1,n2⟩:=wH n
 have I:PySem.W.InstAt s.heap e o C (some ob):=⟨he,oc,by unfold notCls;rw[ov],by rw[od];exact n1⟩
 have fo:findObj K C (some ob) "at" =some (.value v):=by
  unfold findObj PySem.W.ownOf
  rw[m1]
  show(findIn K (.ref C) "at").bind _=_
  rw[c.at_]
  show((if cd.hasDict=true then _ else _):Option (Option Value)).bind _=_
  rw[if_pos m3]
  show(lookIn "at" ob).bind _=_
  rw[n2 "at",hv]
  rfl
 obtain⟨h0,gs,dw,Ni,PJ⟩:=s
 have L:=looks_find (M:=model prog w) X I fo
 have T:=I.type (M:=model prog w)
 have l1:=looks_findIn (M:=model prog w) X c.ga
 have l2:=looks_findIn (M:=model prog w) X c.gh
 have f3:=z06.ga.bind (.ref e)
 have kd:builtinKind "BaseException.__getattribute__" =some .slot:=by decide+kernel
 have sp:splitId "BaseException.__getattribute__" =some ("BaseException","__getattribute__"):=by decide+kernel
 have Z5:Looks (model prog w) h0 (isInstance (.ref e) (.type "BaseException")) true:=T.andThen (looks_mroIn X (by unfold mroIn;rw[m1,z1c,m2];rfl))
 unfold getAttr getAttrBy
 refine wpAny_bind (wpAny_mkText (wpAny_holding (wpAny_bind (T.at (wpAny_bind (l1.at ?_))))))
 dsimp only
 rw[if_neg (by rw[show(Value.builtin "BaseException.__getattribute__" ==Value.builtin "object.__getattribute__")=false from by decide+kernel,Bool.and_false];exact z0J)]
 unfold getAttrByItsOwn hookBefore
 refine wpAny_bind (l2.at (wpAny_bind (wpAny_attempt (wpAny_holding ?_))))
 unfold callGetattribute boundAndCalled
 rw[if_neg (by simp[onTheHeap]),f3]
 refine wpAny_bind (wpAny_pure (wpAny_call ?_))
 refine codeAny_call_builtin z06.ga.plain z14 (check_slot (s:=⟨h0,gs,dw,Ni+1,PJ⟩) (i:= "BaseException.__getattribute__") (owner:= "BaseException") (n:= "__getattribute__") (self:=.ref e) (rest:=[.str "at" Ni]) (kw:=[]) kd sp Z5 (PySem.F.args_bexc_ga _ _) ?_)
 unfold Builtin.«object.__getattribute__»
 refine wpAny_bind (wpAny_pure (wpAny_bind (wpAny_pure (wpAny_bind (T.at (wpAny_bind (L.at ?_)))))))
 refine wpAny_pure ?_
 show wpAny _ _ (handedOut v) _ _ _
 rw[handedOut_of hh]
 exact wpAny_pure k
end
end L2.D
namespace L2.D
open PySem PySem.Spec PyProof.Rows PySem.SeqAt
open Classical
def KG(NR:Addr):Sp:=λvs H Q _=>∃(e:Addr) (n:Int),vs=[.ref e,.int n]/\n.natAbs<10^100/\H e=some (xn NR e none)/\∀dx,H dx=none->dx≠e->Q .non (upd (upd H dx (.xd [(("at" :Str),.int n)])) e (xn NR e (some dx)))
section
variable{X:Cx}{NR SE:Addr}{a:Expr}{ta:TE}{x cn:Str}{np bY pos p1 p2 apos:Pos}
theorem Iq{e1:Expr}{t1:TE}{pl:Sem Bool}(hf:∃mc,PySem.W.readsIn X.K SE mc=true/\PySem.W.findCls X.K (.ref SE) mc "__init__" =some (.val (.builtin "ValueError.__init__")))(Z6:PySem.W.specialIn X.K (.ref SE) "__getattribute__" =some (some (.builtin "type.__getattribute__")))(hm:X.mg cn=some (.ref SE))(h1:PE X e1 t1)(ha:PE X a ta)
  (hg:Gl X cn:=by rfl)(mO:(cn==("__debug__" :Str))=false:=by decide)
  (kJ:starEach [e1,a] X.env=(false,eval e1 X.env)::starEach [a] X.env:=by rfl)(WS:starEach [a] X.env=(false,eval a X.env)::starEach [] X.env:=by rfl)(hpl:(backTo bY (starEach [a] X.env)).any (·.1)=false:=by rfl)
  (hs:swapsWith (.Call (.Attribute (.Name cn np) "__init__" apos) [e1,a] [] bY) none pos.line X.env=pure false:=by rfl)
  (ht:eval (.Call (.Attribute (.Name cn np) "__init__" apos) [e1,a] [] bY) X.env=(do
    let ov<-eval (.Name cn np) X.env
    standAt apos.atName
    let(f,first)<-holding [ov] (getMethod ov "__init__" pl)
    callWith bY f first (backTo bY (starEach [e1,a] X.env)) (backToKw bY (keywordEach [] X.env))):=by rfl):
  PS X (.Expr (.Call (.Attribute (.Name cn np) "__init__" apos) [e1,a] [] bY) pos) (λD σ H=>t1 σ H λy H1=>ta σ H1 λ_ H2=>∃e C dx,y=.ref e/\H2 e=some (xn C e dx)/\GB X.K C=true/\D.nx σ (upd H2 e (xn C e dx))):=by
 intro pins s σ H D I h
 refine g0 (te:=λσ H Q=>t1 σ H λy H1=>ta σ H1 λ_ H2=>∃e C dx,y=.ref e/\H2 e=some (xn C e dx)/\GB X.K C=true/\Q .non (upd H2 e (xn C e dx))) ?_ hs pins s σ H D I h
 intro pins s σ H Q I h
 refine z0y (pl:=pl) (j3 I hg hm ?_ mO) ht
 obtain⟨mc,f1,f2⟩:=hf
 refine PySem.W.method_cls I.jc Z6 (PySem.W.cls_value I.jc f1 f2 (by decide+kernel) ?_)
 have I1:Inv X pins σ H {s with toks:=s.toks+1}:=I.tok _
 refine PyProof.Rows.callWith_builtin1 (dN (aG h1 (aG ha bG WS) kJ bY pins _ σ H (λvs H2=>match vs with
  |[y,_]=>∃e C dx,y=.ref e/\H2 e=some (xn C e dx)/\GB X.K C=true/\Q .non (upd H2 e (xn C e dx))
  |_=>False) I1 h) λus s1 ⟨vs,H2,I2,r2,q2⟩=>?_) kJ hpl
 obtain⟨y,z,e,C,dx,WT,ey,he,hc,q⟩:∃y z e C dx,vs=[y,z]/\y=.ref e/\H2 e=some (xn C e dx)/\GB X.K C=true/\Q .non (upd H2 e (xn C e dx)):=by
  match vs,q2 with
  |[y,z],⟨e,C,dx,h⟩=>exact⟨y,z,e,C,dx,rfl,h⟩
 subst WT ey
 cases r2 with
 |cons ra rb=>
 cases rb with
 |cons rc rd=>
 cases rd
 cases ra
 have ES:=I2.jc
 have Z7:=Ec (I2.dU e _ he)
 have fin:∀h',yq C e dx h'->(∀b u,b≠e->s1.heap.get? b=some u->h'.get? b=some u)->EP X pins σ Q .none {s1 with heap:=h'}:=λh' x' kp=>
  ⟨.non,upd H2 e (xn C e dx),I2.write (x:=e) (e:=e) (t':=s1.toks) (by rw[he];trivial) (.inl rfl) kp (let⟨o,_,z,_⟩:=x';⟨o,z⟩) (Im x'),rfl,q⟩
 exact Fz ES hc Z7 fin
theorem LW{tv:TE}(ha:PE X a ta){value:Expr}(hv:PE X value tv)(hs:swapsWith value (some (.Attribute a "at" p2)) pos.line X.env=pure false:=by rfl):
  PS X (.Assign [.Attribute a "at" p2] value pos) (λD σ H=>tv σ H λy H1=>ta σ H1 λx H2=>∃e C,x=.ref e/\H2 e=some (xn C e none)/\va X.K C/\∀dx,H2 dx=none->dx≠e->D.nx σ (upd (upd H2 dx (.xd [(("at" :Str),y)])) e (xn C e (some dx)))):=by
 intro pins s σ H D I h
 refine plainObj_wpAny_Assign_Attribute (dN (hv pins s σ H _ I h) λu s1 ⟨y,H1,I1,ry,q⟩=>dN (ha pins s1 σ H1 _ I1 q) λov s2 cZ=>?_) hs
 obtain⟨x,H2,I2,rx,e,C,ex,he,c,q2⟩:=cZ
 subst ex
 obtain rfl:ov=Value.ref e:=rx
 have hx:=Ec (I2.dU e _ he)
 refine LU I2.jc c hx λh' od tk x' e1 n1 kp=>?_
 have ne:s2.heap.objs.size≠e:=λz=>by
  obtain⟨o,_,h0,_⟩:=hx
  rw[<-z]at h0
  exact absurd (z0A h0) (z0e _)
 have fr:H2 s2.heap.objs.size=none:=I2.dU.fresh (U5 _)
 have J:=I2.laid (a:=s2.heap.objs.size) (o:=.xd [(("at" :Str),y)]) (h':=s2.heap.push od) (t':=tk) (λb u z=>Zv _ z) (U5 _) ⟨_,n1.at λo z=>by
  rw[e1]at z
  cases z
  refine z0H s2.heap ?_
  exact(Heap.get?_some_iff.mp e1).2,λf=>?_⟩
 ·refine⟨σ,_,?_,q2 _ fr ne⟩
  refine J.write (x:=e) (e:=e) (t':=tk) (h':=h') (by rw[au (Ne.symm ne),he];trivial) (.inl rfl) (λb u n z=>?_) (let⟨o,_,z,_⟩:=x';⟨o,z⟩) (Im x')
  by_cases hb:b=s2.heap.objs.size
  ·subst hb
   have:(s2.heap.push od).get? s2.heap.objs.size=some od:=z0H s2.heap (Heap.get?_some_iff.mp e1).2
   have z:(s2.heap.push od).get? s2.heap.objs.size=some u:=z
   rw[this]at z
   cases z
   exact e1
  ·have z:(s2.heap.push od).get? b=some u:=z
   rw[Heap.get?_push_ne _ _ _ hb]at z
   exact kp b u n z
 ·show tE (List.lookup f [(("at" :Str),y)]) (if f=("at" :Str)then some u else none)
  by_cases hf:f=("at" :Str)
  ·subst hf
   rw[if_pos rfl,z0K]
   simp only[beq_self_eq_true]
   exact ry
  ·rw[if_neg hf,z0K]
   have:(f==("at" :Str))=false:=beq_eq_false_iff_ne.mpr hf
   rw[this]
   exact True.intro
def yt(X:Cx)(NR:Addr)(E:XK):Prop:=∀pins σ H s e dx,Inv X pins σ H s->H e=some (xn NR e (some dx))->X.s₀.heap.get? e=none->E (.ref NR) (some dx) (wj H e)->X.xe (.ref e) s
theorem FA{k:Nat}{f:Addr}{fd:FuncData}{E:XK}(c:va X.K NR)(hi:PySem.W.findIn X.K (.ref NR) "__init__" =some (some (.ref f)))(N7:PySem.W.typeIn X.K (.ref f)=some (.type "function"))(WU:PySem.W.keepIn X.K (.ref NR)=true)
  (FO:aK X.prog X.w X.K X.mg X.base cX k f fd ["self","at"] (KG NR))(hr:c8 (k+1) X.A)(hb:Binds X.K fd ["self","at"] [])(hm:X.mg x=some (.ref NR))(ha:PE X a ta)(hx:yt X NR E)(hg:Gl X x:=by rfl)(hc:X.calm=true:=by rfl)(mO:(x==("__debug__" :Str))=false:=by decide)
  (hs:starEach [a] X.env=(false,eval a X.env)::starEach [] X.env:=by rfl)(hpl:(backTo bY (starEach [] X.env)).any (·.1)=false:=by rfl):
  PS X (.Raise (some (.Call (.Name x np) [a] [] bY)) none pos) (λD σ H=>ta σ H λv H1=>∃n,v=.int n/\n.natAbs<10^100/\∀d,H1 d=none->E (.ref NR) (some d) (upd H1 d (.xd [(("at" :Str),.int n)]))):=by
 intro pins s σ H D I h
 have ev:wpAny (model X.prog X.w) X.A (eval (.Call (.Name x np) [a] [] bY) X.env) (λv s1=>∃e o vs,v=.ref e/\X.K.In s1.heap/\s1.heap.get? e=some o/\o.cls=.ref NR/\o.data=.fields vs/\vs[1]?=some .none/\X.xe (.ref e) s1) X.xe s:=by
  refine wpAny_Call_Name_kw (j3 I hg hm ?_ mO)
  refine z0x (h₀:=X.base) I.ok.mod.ES WU (dN (aG ha bG hs bY pins s σ H (λvs H1=>match vs with
   |[v]=>∃n,v=.int n/\n.natAbs<10^100/\∀d,H1 d=none->E (.ref NR) (some d) (upd H1 d (.xd [(("at" :Str),.int n)]))
   |_=>False) I h) λus s1 ⟨vs,H1,I1,r,q⟩=>⟨I1.jc,?_⟩) hs hpl
  obtain⟨n,WT,hn,qq⟩:∃n,vs=[.int n]/\n.natAbs<10^100/\∀d,H1 d=none->E (.ref NR) (some d) (upd H1 d (.xd [(("at" :Str),.int n)])):=by
   match vs,q with
   |[v],⟨n,e,h⟩=>exact⟨n,by rw[e],h⟩
  subst WT
  have hl:us.length=1:=r.length.symm
  have zl:us.length<=sizeLine:=by rw[hl];decide
  have Z8:∀e,s1.heap.objs.size<=e->X.s₀.heap.get? e=none:=λe he=>z1S (z0T I1.sz he)
  have ES:=I1.jc
  obtain⟨hp,g,d,t,os⟩:=s1
  show wpAny _ _ (call (.ref NR) us) _ _ _
  refine Fw ES c.ex hi N7 zl λh' e hle Yq=>?_
  obtain⟨tt,ob,_,_⟩:=id Yq.there
  have I2:=I1.laid (a:=e) (o:=xn NR e none) (h':=h') (t':=t) Yq.keeps hle (Im ⟨_,_,ob,rfl,rfl,rfl,rfl⟩)
  have Z9:H1 e=none:=I1.dU.fresh hle
  have r2:Vals [V.ref e,.int n] (Value.ref e::us):=.cons rfl r
  have hq:KG NR [.ref e,.int n] (upd H1 e (xn NR e none)) (λv H3=>v=.non/\∃dx,H1 dx=none/\dx≠e/\H3=upd (upd (upd H1 e (xn NR e none)) dx (.xd [(("at" :Str),.int n)])) e (xn NR e (some dx))) E0:=by
   refine⟨e,n,rfl,hn,aC,λdx h1 h2=>⟨rfl,dx,?_,h2,rfl⟩⟩
   rw[au h2]at h1
   exact h1
  have pA:=hb _ (Value.ref e::us) I2.jc (by rw[z0Y,Wk,hl];rfl)
  rw[z0Y]at pA
  refine wpAny_call (codeAny_mono (FO.run _ X.stack _ _ ⟨Value.ref e::us,[]⟩ (Value.ref e::us) _ _ E0 (hr.make NR us []) (I2.K1.make NR us []) pA r2 hq) λrr s' GZ=>?_)
  cases rr with
  |error ee=>exact jy pins σ _ _ ee s' I2 GZ
  |ok fl=>
   cases fl with
   |ret u=>
    obtain⟨v,H3,I3,rv,ev,dx,d1,d2,d3⟩:=I2.after GZ
    subst ev
    have Yr:H3 e=some (xn NR e (some dx)):=by rw[d3];exact aC
    obtain⟨o,vs,k1,k2,k3,k4,k5⟩:=Ec (I3.dU e _ Yr)
    refine⟨rv,e,o,vs,rfl,I3.jc,k1,k2,k4,k5,hx pins σ H3 s' e dx I3 Yr (Z8 e hle) ?_⟩
    have ed:wj H3 e=upd H1 dx (.xd [(("at" :Str),.int n)]):=by
     funext b
     by_cases hb:b=e
     ·subst hb
      rw[xh,au (Ne.symm d2),Z9]
     ·rw[yr hb,d3,au hb]
      by_cases hd:b=dx
      ·subst hd
       rw[aC,aC]
      ·rw[au hd,au hd,au hb]
    rw[ed]
    exact qq dx d1
   |next=>exact False.elim GZ
   |brk=>exact False.elim GZ
   |cont=>exact False.elim GZ
 rw[arm_exec_Raise]
 refine wpAny_bind (wpAny_standAt (Cc c.ex (I.ok.hd hc) ?_))
 exact wpAny_bind (wpAny_mono ev (λv s3 h3=>wpAny_bind (wpAny_standAt (wpAny_pure h3))) λ_ _ z=>z)
theorem PR{K:PySem.W.Frag}(c:va K NR){vs:List V}{H:Hp}{Q:VK}{E:XK}(h:KG NR vs H Q E):
  BE (λD σ H=>fR 0 σ H λy H1=>(λσ H Q=>fR 1 σ H λx H1=>∃i,x=.int i/\i.natAbs<10^100/\∀out,Q (.str out) H1:TE) σ H1 λ_ H2=>∃e C dx,y=.ref e/\H2 e=some (xn C e dx)/\GB K C=true/\D.nx σ (upd H2 e (xn C e dx)))
   (λD σ H=>fR 1 σ H λy H1=>fR 0 σ H1 λx H2=>∃e C,x=.ref e/\H2 e=some (xn C e none)/\va K C/\∀dx,H2 dx=none->dx≠e->D.nx σ (upd (upd H2 dx (.xd [(("at" :Str),y)])) e (xn C e (some dx)))) (DQ Q) (start ["self","at"] vs) H:=by
 obtain⟨e,n,rfl,hn,he,q⟩:=h
 refine⟨.ref e,rfl,.int n,rfl,n,rfl,hn,λout=>⟨e,NR,none,rfl,he,c.ex,?_⟩⟩
 have eu:upd H e (xn NR e none)=H:=by
  funext b
  by_cases hb:b=e
  ·subst hb
   rw[aC,he]
  ·rw[au hb]
 rw[eu]
 exact⟨.int n,rfl,.ref e,rfl,e,NR,rfl,he,c,q⟩
theorem Ir(ha:PE X a ta)(hb:attributeBase a "at" X.env (eval a X.env)=eval a X.env:=by rfl):PE X (.Attribute a "at" pos) (λσ H Q=>ta σ H λy H1=>∃e C dx v,y=.ref e/\H1 e=some (xy C dx e)/\H1 dx=some (.xd [(("at" :Str),v)])/\va X.K C/\Q v H1):=by
 intro pins s σ H Q I h
 refine Dr hb (dN (ha pins s σ H _ I h) λu s1 cZ=>?_)
 obtain⟨y,H1,I1,ry,e,C,dx,v,ey,he,hd,c,q⟩:=cZ
 subst ey
 obtain rfl:u=Value.ref e:=ry
 obtain⟨mA,n1,n2⟩:=I1.dU dx _ hd
 have n3:=n2 "at"
 rw[z0K,beq_self_eq_true]at n3
 obtain⟨w,hw,RD⟩:=tE.some_of (v:=v) (o:=mA "at") n3
 exact LV I1.jc c (Ip (I1.dU e _ he)) n1 hw (wI RD) ⟨v,H1,I1.tok _,RD,q⟩
end
def tP(n:Int):PV:=.ins 1003 [.int n]
def jK:PV->Option Int
 |.ins 1003 [.int n]=>some n
 |_=>none
theorem Ay{p:PV}(h:flat p=true):jK p=none:=by
 cases p<;>first|rfl|cases h
abbrev dY:=Rg->Int->dO->Option (Int×Fl)
abbrev mC:=Rg->Int->dO->Option (Int×PV)
abbrev FQ:=Rg->Int->List PV->Option (Int×PV)
def kR:dY:=λ_ n ρ=>some (n,.nx ρ)
def iX:dY:=λ_ n _=>if decide (n.natAbs<10^100)then some (n,.rt (tP n))else none
def fK(a b:dY):dY:=λt n ρ=>(a t n ρ).bind λq=>match q with
 |(m,.nx ρ')=>b t m ρ'
 |(m,.rt p)=>some (m,.rt p)
 |_=>none
def vb(i:Nat)(f:Den):dY:=λt n ρ=>(f (wQ t n ρ)).bind λp=>if flat p then some (n,.nx (ρ.set i (.sh p)))else none
def Ce(f:Den):dY:=λt n ρ=>(f (wQ t n ρ)).bind λp=>(S0 p).map λk=>(n+k,.nx ρ)
def Az(c:de)(a b:dY):dY:=λt n ρ=>(c (wQ t n ρ)).bind λk=>if k then a t n ρ else b t n ρ
def AA(f:Den):dY:=λt n ρ=>(f (wQ t n ρ)).bind λp=>if flat p then some (n,.rt p)else none
def xk(f:Den):dY:=λ_ n ρ=>(f ρ).bind λp=>if(jK p).isSome then none else some (n,.rt p)
def xm(i:Nat):dY:=λ_ n ρ=>(yd ρ i).map λl=>(n,.rt (.lst l))
def iY(c:de)(body:dY):Nat->dY
 |0=>λ_ _ _=>none
 |k+1=>λt n ρ=>(c (wQ t n ρ)).bind λb=>if b then(body t n ρ).bind λq=>match q with
  |(m,.nx ρ')=>iY c body k t m ρ'
  |(m,.rt p)=>some (m,.rt p)
  |_=>none
  else some (n,.nx ρ)
def fP(F:FQ)(as:eF):mC:=λt n ρ=>(as (wQ t n ρ)).bind λps=>if ps.all flat then F t n ps else none
def mD(g:mC):dY:=λt n ρ=>(g t n ρ).map λq=>if(jK q.2).isSome then(q.1,.rt q.2)else(q.1,.nx ρ)
def sI(i:Nat)(g:mC):dY:=λt n ρ=>(g t n ρ).bind λq=>if(jK q.2).isSome then some (q.1,.rt q.2)else if flat q.2 then some (q.1,.nx (ρ.set i (.sh q.2)))else none
def RX(fr:Bool)(K:PySem.W.Frag)(κ:Kl)(S:Addr->Prop)(H H':Hp)(v:V)(p:PV):Prop:=if fr then OR K κ S H H' v p else Rep K κ (hide S H') v p
structure Wx where
 C:Addr
 E:XK
def j5(W:Wx)(κ:Kl)(G:Hp)(x dx:Addr)(vw:V)(t:Rg)(n m:Int):Prop:=∀d H,aE (hide (mJ x) G) (hide (mJ x) H)->H x=some (qo κ dx vw t n)->G d=none->H d=some (.xd [(("at" :Str),.int m)])->W.E (.ref W.C) (some d) H
def qJ(K:PySem.W.Frag)(κ:Kl)(W:Wx)(fr:Bool)(G:Hp)(A:Addr->Prop)(x dx:Addr)(vw:V)(t:Rg)(D:Ends):Int×Fl->Prop
 |(n,.nx ρ)=>∀own σ H,RQ K κ G A x dx vw t n own ρ σ H->D.nx σ H
 |(n,.rt p)=>match jK p with
  |some m=>j5 W κ G x dx vw t n m
  |none=>∀v H,aE (hide (mJ x) G) (hide (mJ x) H)->H x=some (qo κ dx vw t n)->RX fr K κ (A1 A x) G H v p->D.rt v H
 |_=>False
def Ys(K:PySem.W.Frag)(κ:Kl)(W:Wx)(fr:Bool)(ts:TS)(g:dY):Prop:=
 ∀{G A x dx vw t n own ρ σ H q D},RQ K κ G A x dx vw t n own ρ σ H->g t n ρ=some q->qJ K κ W fr G A x dx vw t D q->ts D σ H
def QS(X:Cx)(κ:Kl)(W:Wx)(fr:Bool)(st:Stmt)(g:dY):Prop:=∃ts,PS X st ts/\Ys X.K κ W fr ts g
def Nl(X:Cx)(κ:Kl)(W:Wx)(fr:Bool)(st:List Stmt)(g:dY):Prop:=∃ts,xM X st ts/\Ys X.K κ W fr ts g
def QvE(K:PySem.W.Frag)(κ:Kl)(W:Wx)(fr:Bool)(te:TE)(g:mC):Prop:=
 ∀{G A x dx vw t n own ρ σ H n' p Q},RQ K κ G A x dx vw t n own ρ σ H->g t n ρ=some (n',p)->(match jK p with
  |some m=>j5 W κ H x dx vw t n' m
  |none=>∀v H',RQ K κ G A x dx vw t n' own ρ σ H'->aE (hide (mJ x) H) (hide (mJ x) H')->RX fr K κ (di (A1 A x) own ρ) H H' v p->Q v H')->te σ H Q
def QE(X:Cx)(κ:Kl)(W:Wx)(fr:Bool)(e:Expr)(g:mC):Prop:=∃te,PE X e te/\QvE X.K κ W fr te g
def wm(K:PySem.W.Frag)(κ:Kl)(NR:Addr)(fr:Bool)(F:FQ):Sp:=λvs H Q E=>∃(A:Addr->Prop) (x dx:Addr) (vw:V) (t:Rg) (n n':Int) (ws:List V) (ps:List PV) (p:PV),vs=.ref x::ws/\(∀b,A b->H b≠none)/\¬A x/\H x=some (qo κ dx vw t n)/\Rep K κ (hide (A1 A x) H) vw (.lst t.ws)/\aZ K κ (hide (A1 A x) H) ws ps/\F t n ps=some (n',p)/\
 match jK p with
 |some m=>j5 ⟨NR,E⟩ κ H x dx vw t n' m
 |none=>∀v H',aE (hide (mJ x) H) (hide (mJ x) H')->H' x=some (qo κ dx vw t n')->RX fr K κ (A1 A x) H H' v p->Q v H'
theorem j5.Yt{W:Wx}{κ:Kl}{G H:Hp}{x dx:Addr}{vw:V}{t:Rg}{n m:Int}(h:j5 W κ G x dx vw t n m)(s:aE (hide (mJ x) G) (hide (mJ x) H))(hx:G x≠none):j5 W κ H x dx vw t n m:=λd H' s' o' hd Bv=>by
 refine h d H' (s.trans s') o' ?_ Bv
 cases z:G d with
 |none=>rfl
 |some o=>
  by_cases e:d=x
  ·subst e
   rw[o']at Bv
   cases Bv
  ·have:=fU s e z
   rw[hd]at this
   cases this
structure Cq(K:PySem.W.Frag)(κ:Kl):Prop where
 fld:κ.fld 4=[("words" :Str),("signs" :Str),("at" :Str)]
 cls:v9 K (κ.adr 4)
 n3:eS K (κ.adr 4) "at"
section
variable{K:PySem.W.Frag}{κ:Kl}{G H H':Hp}{A:Addr->Prop}{x dx:Addr}{vw:V}{t:Rg}{n n':Int}{own:Nat->Addr}{ρ:dO}{σ:St}
theorem tX:A1 (di A own ρ) x=di (A1 A x) own ρ:=by
 funext b
 refine propext ⟨?_,?_⟩
 ·rintro((z|z)|z)
  ·exact .inl (.inl z)
  ·exact .inr z
  ·exact .inl (.inr z)
 ·rintro((z|z)|z)
  ·exact .inl (.inl z)
  ·exact .inr z
  ·exact .inl (.inr z)
theorem RQ.ox(r:RQ K κ G A x dx vw t n own ρ σ H):¬yf own ρ x:=by
 rintro⟨j,m,h1,h2⟩
 have:=(r.r.ow j m h1).2.1
 rw[h2,aC]at this
 cases this
theorem RQ.words(r:RQ K κ G A x dx vw t n own ρ σ H):Rep K κ (dD (A1 A x) own ρ H) vw (.lst t.ws):=by
 refine r.wsr.mono λb o hb=>?_
 obtain⟨nb,hb⟩:=bV hb
 have ne:b≠x:=λz=>nb (.inr z)
 have hu:upd G x (qo κ dx vw t n) b=some o:=by rw[au ne];exact hb
 rw[dD,bJ λz=>?_]
 ·exact r.r.same b o hu
 ·rcases z with z|⟨j,m,h1,h2⟩
  ·exact nb z
  ·have:=(r.r.ow j m h1).2.1
   rw[h2,hu]at this
   cases this
theorem RQ.frame(r:RQ K κ G A x dx vw t n own ρ σ H):aE (hide (mJ x) G) (hide (mJ x) H):=λb o h=>by
 obtain⟨nb,hb⟩:=bV h
 rw[bJ nb]
 exact r.r.same b o (by rw[au nb];exact hb)
end
section
variable{K:PySem.W.Frag}{κ:Kl}{W:Wx}{fr:Bool}{G:Hp}{A:Addr->Prop}{x dx:Addr}{vw:V}{t:Rg}{D:Ends}{n:Int}{p:PV}
theorem qJ.out(k:qJ K κ W fr G A x dx vw t D (n,.rt p))(h:jK p=none):∀v H,aE (hide (mJ x) G) (hide (mJ x) H)->H x=some (qo κ dx vw t n)->RX fr K κ (A1 A x) G H v p->D.rt v H:=by
 unfold qJ at k
 simp only[h]at k
 exact k
end
section
variable{X:Cx}{κ:Kl}{W:Wx}{fr:Bool}{st:Stmt}{rest body Yu:List Stmt}{g g':dY}{ge:mC}{a b c e kk:Expr}{es:List Expr}{f fk fa:Den}{fs:eF}{ft:de}{pos p1 p2 p3 sp apos bY:Pos}{y m:Str}{py:Pos}
theorem qK:Nl X κ W fr [] kR:=⟨_,cS,λ{G A x dx vw t n own ρ σ H q D} r e k=>by cases e;exact k own σ H r⟩
theorem eV(h1:QS X κ W fr st g)(h2:Nl X κ W fr rest g'):Nl X κ W fr (st::rest) (fK g g'):=by
 obtain⟨t1,a1,a2⟩:=h1
 obtain⟨t2,b1,b2⟩:=h2
 refine⟨_,aQ a1 b1,λ{G A x dx vw t n own ρ σ H q D} r e k=>?_⟩
 obtain⟨⟨n1,fl⟩,e1,e2⟩:=Zt.mp e
 refine a2 r e1 ?_
 cases fl with
 |nx ρ'=>exact λdQ σ' H' r'=>b2 r' e2 k
 |rt p=>cases e2;exact k
 |_=>cases e2
theorem iJ(h1:QS X κ W fr st g):Nl X κ W fr [st] g:=let⟨_,a1,a2⟩:=h1;⟨_,bx a1,a2⟩
theorem Eg(C:Cq X.K κ)(i:Nat)(hN:X.N.Nodup)(he:DE X κ e f)(hi:X.N[i]?=some y:=by rfl)(Nm:i≠0:=by decide)(hx:Loc X.env.scope y:=by first|exact Or.inl rfl|exact Or.inr rfl)(hs:swapsWith e (some (.Name y py)) pos.line X.env=pure false:=by rfl)
  (hf:X.fn y=true\/X.env.scope.names.lookup y=some .local:=by first|exact .inl rfl|exact .inr rfl):QS X κ W fr (.Assign [.Name y py] e pos) (vb i f):=by
 obtain⟨te,h1,h2⟩:=he
 refine⟨_,ic hN hi hx h1 hs hf,λ{G A x dx vw t n own ρ σ H q D} r e k=>?_⟩
 obtain⟨p,e1,e2⟩:=Zt.mp e
 obtain⟨Iu,e3⟩:=cb e2
 cases e3
 refine h2 (r.rd C.fld) e1 λv H' s z=>?_
 exact k _ _ _ ((r.mono s).set Nm (Rep.flat Iu z))
theorem Iv(C:Cq X.K κ)(he:DE X κ e f)(h0:X.N[0]?=some ("self" :Str):=by rfl)(hv:uq X.env.scope "self" :=by first|exact Or.inl rfl|exact Or.inr (Or.inl rfl)|exact Or.inr (Or.inr rfl)):QS X κ W fr (.AugAssign (.Attribute (.Name "self" p1) "at" p2) .Add e pos) (Ce f):=by
 obtain⟨te,h1,h2⟩:=he
 refine⟨_,EX (dm h0 hv) h1 OD,λ{G A x dx vw t n own ρ σ H q D} r e k=>?_⟩
 obtain⟨p,e1,e2⟩:=Zt.mp e
 obtain⟨j,e3,rfl⟩:=Zu.mp e2
 cases p<;>first|(cases e3;done)|skip
 cases e3
 refine⟨_,r.self,x,_,dx,_,.int n,rfl,r.ob,C.cls,C.n3,rfl,h2 (r.rd C.fld) e1 λv H' s z=>?_⟩
 cases z
 have r1:=r.mono s
 refine⟨n,j,rfl,rfl,dx,_,r1.ob,(show(3:Nat)<1000 by decide),k own σ _ (r1.turn ?_ aC)⟩
 rw[qz (show mJ x x from rfl)]
 exact λ_ _ z=>z
theorem AB(C:Cq X.K κ)(hc:DT X κ c ft)(ha:Nl X κ W fr body g)(hb:Nl X κ W fr Yu g'):QS X κ W fr (.If c body Yu pos) (Az ft g g'):=by
 obtain⟨tc,h1,h2⟩:=hc
 obtain⟨t1,a1,a2⟩:=ha
 obtain⟨t2,b1,b2⟩:=hb
 refine⟨_,gV h1 a1 b1,λ{G A x dx vw t n own ρ σ H q D} r e k=>?_⟩
 obtain⟨z,e1,e2⟩:=Zt.mp e
 refine h2 (r.rd C.fld) e1 λH' s=>?_
 cases z with
 |true=>exact a2 (r.mono s) e2 k
 |false=>exact b2 (r.mono s) e2 k
theorem LX(C:Cq X.K κ)(he:DE X κ e f):QS X κ W false (.Return (some e) pos) (AA f):=by
 obtain⟨te,h1,h2⟩:=he
 refine⟨_,eR h1,λ{G A x dx vw t n own ρ σ H q D} r e k=>?_⟩
 obtain⟨p,e1,e2⟩:=Zt.mp e
 obtain⟨Iu,e3⟩:=cb e2
 cases e3
 exact h2 (r.rd C.fld) e1 λv H' s z=>k.out (Ay Iu) v H' (r.mono s).frame (r.mono s).ob (Rep.flat Iu z)
theorem LY(he:DE X κ e f):QS X κ W false (.Return (some e) pos) (xk f):=by
 obtain⟨te,h1,h2⟩:=he
 refine⟨_,eR h1,λ{G A x dx vw t n own ρ σ H q D} r e k=>?_⟩
 obtain⟨p,e1,e2⟩:=Zt.mp e
 split at e2
 ·cases e2
 rename_i hx
 cases e2
 exact h2 r.r e1 λv H' s z=>k.out (by simpa using hx) v H' (r.mono s).frame (r.mono s).ob (z.mono (dX (λ_ _ q=>q) λb q _=>.inl q))
theorem LZ(i:Nat)(hN:X.N[i]?=some y:=by rfl)(hv:uq X.env.scope y:=by first|exact Or.inl rfl|exact Or.inr (Or.inl rfl)|exact Or.inr (Or.inr rfl))(hd:(y==("__debug__" :Str))=false:=by decide)
  (j0:(y==("__classdict__" :Str))=false:=by decide):QS X κ W true (.Return (some (.Name y py)) pos) (xm i):=by
 refine⟨_,eR (dm hN hv hd j0),λ{G A x dx vw t n own ρ σ H q D} r e k=>?_⟩
 obtain⟨l,e1,rfl⟩:=Zu.mp e
 obtain⟨h1,h3,vs,h4,h5⟩:=r.r.ow i (.l l) (iW e1)
 change H (own i)=some (.lst vs)at h4
 change aZ _ _ _ vs l at h5
 obtain⟨_,h3⟩:=u5 h3
 refine⟨_,h1,k.out rfl _ H r.frame r.ob ?_⟩
 exact⟨own i,vs,l,rfl,rfl,h3,h4,h5.mono (dX (λ_ _ z=>z) λb z _=>by
  rcases z with z|z
  ·exact .inl z
  ·exact .inr ⟨i,.l l,iW e1,z.symm⟩)⟩
theorem Iw(C:Cq X.K κ)(n0:Nat)(hc:DT X κ c ft)(hb:Nl X κ W fr body g)(hp:PassesOwn (model X.prog X.w) X.A X.env X.xe):QS X κ W fr (.While c body [] pos) (iY ft g n0):=by
 obtain⟨tc,h1,h2⟩:=hc
 obtain⟨tb,h3,h4⟩:=hb
 refine⟨_,ql hp h1 h3,λ{G A x dx vw t n own ρ σ H q D} r e k=>?_⟩
 refine⟨λm σ H=>∃n own ρ,RQ X.K κ G A x dx vw t n own ρ σ H/\iY ft g m t n ρ=some q,⟨n0,n,own,ρ,r,e⟩,?_⟩
 rintro m σ H ⟨n,own,ρ,r,e⟩
 cases m with
 |zero=>cases e
 |succ m=>
  unfold iY at e
  obtain⟨c,e1,e2⟩:=Zt.mp e
  refine h2 (r.rd C.fld) e1 λH1 s1=>?_
  cases c with
  |false=>
   cases e2
   exact k own σ H1 (r.mono s1)
  |true=>
   obtain⟨⟨n1,fl⟩,e3,e4⟩:=Zt.mp e2
   refine⟨λσ' H'=>∃n own ρ,RQ X.K κ G A x dx vw t n own ρ σ' H'/\iY ft g m t n ρ=some q,λσ' H' z=>⟨m,z1E m,z⟩,?_⟩
   refine h4 (r.mono s1) e3 ?_
   cases fl with
   |nx ρ'=>exact λdQ σ' H' r'=>⟨n1,dQ,ρ',r',e4⟩
   |rt p=>
    cases e4
    exact k
   |_=>cases e4
end
def tY(fr:Bool)(n k:Nat)(body:dY):FQ:=λt m ps=>if ps.length+1=k then(body t m (.un::(ps.map Slot.sh++List.replicate (n-k) .un))).bind λq=>match q with
 |(m',.rt p)=>some (m',p)
 |(m',.nx _)=>if fr then none else some (m',.non)
 |_=>none
 else none
theorem iU{α:Type}{c:Prop}[Decidable c]{o:Option α}{z:α}(h:(if c then o else none)=some z):c/\o=some z:=by
 split at h
 ·exact⟨by assumption,h⟩
 ·cases h
theorem AD{K:PySem.W.Frag}{κ:Kl}{H1 H2:Hp}:∀{vs:List V} {l:List PV},l.all flat=true->aZ K κ H1 vs l->aZ K κ H2 vs l
 |_,_,_,.nil=>.nil
 |_::_,_,h,.cons q1 q2=>by
  rw[z1a,z0F]at h
  exact .cons (Rep.flat h.1 q1) (AD h.2 q2)
theorem RX.big{fr:Bool}{K:PySem.W.Frag}{κ:Kl}{S:Addr->Prop}{H H1 H2:Hp}{v:V}{p:PV}(s:aE H H1)(z:RX fr K κ S H1 H2 v p):RX fr K κ S H H2 v p:=by
 cases fr with
 |false=>exact z
 |true=>
  obtain⟨a,vs,l,h1,h2,h3,h4,h5⟩:=(show OR K κ S H1 H2 v p from z)
  exact⟨a,vs,l,h1,h2,s.free h3,h4,h5⟩
theorem qJ.ex{K:PySem.W.Frag}{κ:Kl}{W:Wx}{fr:Bool}{G H:Hp}{A:Addr->Prop}{x dx:Addr}{vw:V}{t:Rg}{D:Ends}{n n' m:Int}{p:PV}{own:Nat->Addr}{ρ:dO}{σ:St}(k:qJ K κ W fr G A x dx vw t D (n',.rt p))(hx:jK p=some m)(r:RQ K κ G A x dx vw t n own ρ σ H):j5 W κ H x dx vw t n' m:=by
 unfold qJ at k
 simp only[hx]at k
 exact k.Yt r.frame r.gx
section
variable{X:Cx}{κ:Kl}{W:Wx}{fr:Bool}{e:Expr}{es:List Expr}{fs:eF}{ge:mC}{pos p1 apos bY py:Pos}{y m:Str}
theorem tZ{F:FQ}{k:Nat}{fo:Addr}{fd:FuncData}{ps:List Str}{pl:Sem Bool}(C:Cq X.K κ)(hm:Meth X.K (κ.adr 4) m fo)(FO:aK X.prog X.w X.K X.mg X.base (kf X.prog X.w) k fo fd ps (wm X.K κ W.C fr F))(hp:Passes (kf X.prog X.w) X W.E)(hr:c8 k X.A)(hb:Binds X.K fd ps [])(ha:DA X κ (e::es) fs)
  (h0:X.N[0]?=some ("self" :Str):=by rfl)(hv:uq X.env.scope "self" :=by first|exact Or.inl rfl|exact Or.inr (Or.inl rfl)|exact Or.inr (Or.inr rfl))
  (hn:∀u1 u2 u3:V,List.lookup m [(("words" :Str),u1),(("signs" :Str),u2),(("at" :Str),u3)]=none:=by intros;rfl)
  (kJ:starEach (e::es) X.env=(false,eval e X.env)::starEach es X.env:=by rfl)(hpl:(backTo bY (starEach es X.env)).any (·.1)=false:=by rfl)
  (ht:eval (.Call (.Attribute (.Name "self" p1) m apos) (e::es) [] bY) X.env=(do
    let ov<-eval (.Name "self" p1) X.env
    standAt apos.atName
    let(f,first)<-holding [ov] (getMethod ov m pl)
    callWith bY f first (backTo bY (starEach (e::es) X.env)) (backToKw bY (keywordEach [] X.env))):=by rfl):QE X κ W fr (.Call (.Attribute (.Name "self" p1) m apos) (e::es) [] bY) (fP F fs):=by
 obtain⟨ta,h1,h2⟩:=ha
 refine⟨_,K2 (pl:=pl) (dm h0 hv) C.cls hm FO hr hb .nil hp h1 kJ hpl ht,λ{G A x dx vw t n own ρ σ H n' p Q} r e k=>?_⟩
 obtain⟨ps,e1,e2⟩:=Zt.mp e
 obtain⟨Iu,e3⟩:=iU e2
 refine⟨_,r.self,x,dx,_,rfl,r.ob,hn _ _ _,h2 (r.rd C.fld) e1 λvs H1 s z=>?_⟩
 have r1:=r.mono s
 refine⟨di A own ρ,x,dx,vw,t,n,n',vs,ps,p,by rw[z0Y],λb hb=>?_,λz=>z.elim r1.na r1.ox,r1.ob,by rw[tX];exact r1.words,AD Iu z,e3,?_⟩
 ·rcases hb with hb|⟨i,l,g1,g2⟩
  ·intro zn
   have:=r1.r.al b (.inl hb)
   exact this (r1.r.same.free zn)
  ·obtain⟨_,_,vs,g3,_⟩:=r1.r.ow i l g1
   rw[<-g2,g3]
   exact λz=>by cases z
 ·cases hx:jK p with
  |some m=>
   rw[hx]at k
   exact k.Yt (aV s) (by rw[r.ob];exact λz=>by cases z)
  |none=>
   rw[hx]at k
   intro v H2 s2 o2 z2
   rw[tX]at z2
   exact k v H2 (r1.turn s2 o2) ((aV s).trans s2) (z2.big s)
theorem vc{F:FQ}{k:Nat}{fo:Addr}{fd:FuncData}{ps:List Str}{pl:Sem Bool}(C:Cq X.K κ)(hm:Meth X.K (κ.adr 4) m fo)(FO:aK X.prog X.w X.K X.mg X.base (kf X.prog X.w) k fo fd ps (wm X.K κ W.C fr F))(hp:Passes (kf X.prog X.w) X W.E)(hr:c8 k X.A)(hb:Binds X.K fd ps [])
  (h0:X.N[0]?=some ("self" :Str):=by rfl)(hv:uq X.env.scope "self" :=by first|exact Or.inl rfl|exact Or.inr (Or.inl rfl)|exact Or.inr (Or.inr rfl))
  (hn:∀u1 u2 u3:V,List.lookup m [(("words" :Str),u1),(("signs" :Str),u2),(("at" :Str),u3)]=none:=by intros;rfl)
  (ht:eval (.Call (.Attribute (.Name "self" p1) m apos) [] [] bY) X.env=(do
    let ov<-eval (.Name "self" p1) X.env
    standAt apos.atName
    let(f,first)<-holding [ov] (getMethod ov m pl)
    callWith bY f first (backTo bY (starEach [] X.env)) (backToKw bY (keywordEach [] X.env))):=by rfl):QE X κ W fr (.Call (.Attribute (.Name "self" p1) m apos) [] [] bY) (fP F aO):=by
 refine⟨_,uC (pl:=pl) (dm h0 hv) C.cls hm FO hr hb .nil hp ht,λ{G A x dx vw t n own ρ σ H n' p Q} r1 e k=>?_⟩
 obtain⟨ps,e1,e2⟩:=Zt.mp e
 obtain⟨Iu,e3⟩:=iU e2
 cases e1
 refine⟨_,r1.self,x,dx,_,rfl,r1.ob,hn _ _ _,?_⟩
 refine⟨di A own ρ,x,dx,vw,t,n,n',[],[],p,rfl,λb hb=>?_,λz=>z.elim r1.na r1.ox,r1.ob,by rw[tX];exact r1.words,.nil,e3,?_⟩
 ·rcases hb with hb|⟨i,l,g1,g2⟩
  ·intro zn
   have:=r1.r.al b (.inl hb)
   exact this (r1.r.same.free zn)
  ·obtain⟨_,_,vs,g3,_⟩:=r1.r.ow i l g1
   rw[<-g2,g3]
   exact λz=>by cases z
 ·cases hx:jK p with
  |some m=>
   rw[hx]at k
   exact k
  |none=>
   rw[hx]at k
   intro v H2 s2 o2 z2
   rw[tX]at z2
   exact k v H2 (r1.turn s2 o2) s2 z2
theorem yu{fe:Bool}(h:QE X κ W fe e ge)(hs:swapsWith e none pos.line X.env=pure false:=by rfl):QS X κ W fr (.Expr e pos) (mD ge):=by
 obtain⟨te,h1,h2⟩:=h
 refine⟨_,g0 h1 hs,λ{G A x dx vw t n own ρ σ H q D} r e k=>?_⟩
 obtain⟨⟨n',p⟩,e1,e2⟩:=Zu.mp e
 refine h2 r e1 ?_
 cases hx:jK p with
 |some m=>
  rw[if_pos (by simp[hx])]at e2
  subst e2
  exact qJ.ex k hx r
 |none=>
  rw[if_neg (by simp[hx])]at e2
  subst e2
  exact λv H' r' _ _=>k own σ H' r'
theorem L0(i:Nat)(hN:X.N.Nodup)(h:QE X κ W false e ge)(hi:X.N[i]?=some y:=by rfl)(Nm:i≠0:=by decide)(hx:Loc X.env.scope y:=by first|exact Or.inl rfl|exact Or.inr rfl)(hs:swapsWith e (some (.Name y py)) pos.line X.env=pure false:=by rfl)
  (hf:X.fn y=true\/X.env.scope.names.lookup y=some .local:=by first|exact .inl rfl|exact .inr rfl):QS X κ W fr (.Assign [.Name y py] e pos) (sI i ge):=by
 obtain⟨te,h1,h2⟩:=h
 refine⟨_,ic hN hi hx h1 hs hf,λ{G A x dx vw t n own ρ σ H q D} r e k=>?_⟩
 obtain⟨⟨n',p⟩,e1,e2⟩:=Zt.mp e
 refine h2 r e1 ?_
 cases hx:jK p with
 |some m=>
  rw[if_pos (by simp[hx])]at e2
  cases e2
  exact qJ.ex k hx r
 |none=>
  rw[if_neg (by simp[hx])]at e2
  obtain⟨Iu,e3⟩:=cb e2
  cases e3
  refine λv H' r' _ z=>k _ _ _ (r'.set Nm ?_)
  exact z
end
section
variable{X:Cx}{κ:Kl}{W:Wx}{fr:Bool}{a:Expr}{fa:Den}{x:Str}{np bY pos:Pos}
theorem qL{k:Nat}{f:Addr}{fd:FuncData}(C:Cq X.K κ)(c:va X.K W.C)(hi:PySem.W.findIn X.K (.ref W.C) "__init__" =some (some (.ref f)))(N7:PySem.W.typeIn X.K (.ref f)=some (.type "function"))(WU:PySem.W.keepIn X.K (.ref W.C)=true)
  (FO:aK X.prog X.w X.K X.mg X.base cX k f fd ["self","at"] (KG W.C))(hr:c8 (k+1) X.A)(hb:Binds X.K fd ["self","at"] [])(hm:X.mg x=some (.ref W.C))(hx:yt X W.C W.E)(ha:DE X κ a fa)(hf:∀t n ρ,fa (wQ t n (.un::ρ))=some (.int n))(hg:Gl X x:=by rfl)(hc:X.calm=true:=by rfl)(mO:(x==("__debug__" :Str))=false:=by decide)
  (hs:starEach [a] X.env=(false,eval a X.env)::starEach [] X.env:=by rfl)(hpl:(backTo bY (starEach [] X.env)).any (·.1)=false:=by rfl):QS X κ W fr (.Raise (some (.Call (.Name x np) [a] [] bY)) none pos) iX:=by
 obtain⟨ta,h1,h2⟩:=ha
 refine⟨_,FA c hi N7 WU FO hr hb hm h1 hx hg hc mO hs hpl,λ{G A x dx vw t n own ρ σ H q D} r e kk=>?_⟩
 unfold iX at e
 obtain⟨hn,e1⟩:=iU e
 cases e1
 obtain⟨ρ',hρ⟩:∃ρ',ρ=.un::ρ':=by
  have h0:=r.zero
  cases ρ with
  |nil=>cases h0
  |cons s ρ'=>cases h0;exact⟨ρ',rfl⟩
 have ev:fa (wQ t n ρ)=some (.int n):=by rw[hρ];exact hf t n ρ'
 refine h2 (r.rd C.fld) ev λv H' s z=>?_
 cases z
 have r':=r.mono s
 refine⟨n,rfl,of_decide_eq_true hn,λd hd=>?_⟩
 have kx:j5 W κ G x dx vw t n n:=kk
 have OB:d≠x:=λz=>by rw[z,r'.ob]at hd;cases hd
 refine kx d _ (r'.frame.trans λb o hb=>?_) ?_ ?_ aC
 ·obtain⟨nb,hb⟩:=bV hb
  rw[bJ nb,au λz=>by rw[z,hd]at hb;cases hb]
  exact hb
 ·rw[au (Ne.symm OB)]
  exact r'.ob
 ·cases zg:G d with
  |none=>rfl
  |some o=>
   have:=fU r'.frame OB zg
   rw[hd]at this
   cases this
end
section
variable{P:Program}{w:World}{K:PySem.W.Frag}{mg:Str->Option Value}{base:Heap}{κ:Kl}{fr:Bool}
theorem RQ.entry{H:Hp}{N:List Str}{k:Nat}{A:Addr->Prop}{x dx:Addr}{vw:V}{t:Rg}{n:Int}{ws:List V}{ps:List PV}(hk:ps.length+1=k)(al:∀b,A b->H b≠none)(na:¬A x)(ob:H x=some (qo κ dx vw t n))(hw:Rep K κ (hide (A1 A x) H) vw (.lst t.ws))(h:aZ K κ (hide (A1 A x) H) ws ps):
  RQ K κ H A x dx vw t n (λ_=>0) (.un::(ps.map Slot.sh++List.replicate (N.length-k) .un)) (start N (.ref x::ws)) H:=by
 have hl:=h.length
 have eu:upd H x (qo κ dx vw t n)=H:=by
  funext b
  by_cases e:b=x
  ·subst e
   rw[aC,ob]
  ·rw[au e]
 have slot:∀{i:Nat} {s:Slot},(.un::(ps.map Slot.sh++List.replicate (N.length-k) .un):dO)[i]?=some s->s=.un\/∃p j,s=.sh p/\i=j+1/\ps[j]?=some p:=λ{i s} e=>by
  cases i with
  |zero=>cases e;exact .inl rfl
  |succ i=>
   rw[z1L,z1h]at e
   split at e
   ·rw[z0f]at e
    obtain⟨q,e1,e2⟩:=Zu.mp e
    exact .inr ⟨q,i,e2.symm,rfl,e1⟩
   ·rw[z1K]at e
    split at e
    ·cases e;exact .inl rfl
    ·cases e
 have vY:∀{i:Nat} {l:Cn},(.un::(ps.map Slot.sh++List.replicate (N.length-k) .un):dO)[i]?≠some (.own l):=λ{i l} e=>by
  rcases slot e with z|⟨_,_,z,_⟩<;>cases z
 have hh:dD (A1 A x) (λ_=>0) (.un::(ps.map Slot.sh++List.replicate (N.length-k) .un)) H=hide (A1 A x) H:=by
  unfold dD
  congr 1
  funext b
  refine propext ⟨λz=>z.elim id λ⟨j,m,z,_⟩=>absurd z vY,λz=>.inl z⟩
 refine⟨⟨λb hb=>?_,λi a vs e=>(by cases e),by rw[eu];exact λ_ _ z=>z,λi p e=>?_,λi l e=>absurd e vY,λi j l m e=>absurd e vY,λi l e=>?_,?_⟩,rfl,rfl,hw,na,by rw[ob];exact λz=>by cases z⟩
 ·rw[eu]
  rcases hb with hb|hb
  ·exact al b hb
  ·rw[hb,ob]
   exact λz=>by cases z
 ·rcases slot e with z|⟨q,j,z,rfl,e1⟩
  ·cases z
  ·cases z
   obtain⟨v,h1,h2⟩:=h.get e1
   refine⟨v,?_,by rw[hh];exact h2⟩
   unfold start
   rw[z0Q,List.cons_append,z1L,z1A (by rw[X6];exact(z0C.mp h1).1),z0f,h1]
   rfl
 ·rcases slot e with z|⟨_,_,z,_⟩<;>cases z
 ·unfold start
  simp only[z0E,X6,Wk,z1e,hl]
  rw[hk]
  omega
theorem AE{x qual:Str}{st:Stmt}{f:Addr}{fd:FuncData}{N ps:List Str}{k:Nat}{g:dY}(NR:Addr)(F:rQ K x qual st f fd)(S:aU N ps (ao st))
  (hb:∀(cR:Value) (A:Around) (outer:List Env) (s:Shared) (H:Hp) (E:XK),c8 k (A.deeper (envOfC qual (ao st) s.heap.objs.size f cR))->
    PassesOwn (model P w) (lh (kf P w) P w K mg base N qual (ao st) f cR A outer s H E).A (lh (kf P w) P w K mg base N qual (ao st) f cR A outer s H E).env (lh (kf P w) P w K mg base N qual (ao st) f cR A outer s H E).xe->
    Passes (kf P w) (lh (kf P w) P w K mg base N qual (ao st) f cR A outer s H E) E->
    yt (lh (kf P w) P w K mg base N qual (ao st) f cR A outer s H E) NR E->
    Nl (lh (kf P w) P w K mg base N qual (ao st) f cR A outer s H E) κ ⟨NR,E⟩ fr (iH st) g):
  aK P w K mg base (kf P w) (k+1) f fd ps (wm K κ NR fr (tY fr N.length ps.length g)):=by
 obtain⟨oc,od,kV,doc,pm,an,cR,ct,Kx,rfl,lk,j0⟩:=F.ex
 refine G0 lk j0 S (λvs H Q E h=>?_) λA outer s H vs Q E hr h=>?_
 ·obtain⟨A',x,dx,vw,t,n,n',ws,qs,p,rfl,_,_,_,_,h1,h2,_⟩:=h
  unfold tY at h2
  obtain⟨hk,_⟩:=iU h2
  rw[Wk,h1.length]
  exact hk
 ·obtain⟨A',x,dx,vw,t,n,n',ws,qs,p,rfl,al,na,ob,hw,h1,h2,q⟩:=h
  obtain⟨ts,a1,a2⟩:=hb cR A outer s H E hr PassesOwn.leaving xj λpins σ H1 s1 e dx I he hn hE=>leave_new I he hn hE
  refine⟨ts,a1,?_⟩
  unfold tY at h2
  obtain⟨hk,h3⟩:=iU h2
  obtain⟨⟨m,fl⟩,e1,e2⟩:=Zt.mp h3
  refine a2 (RQ.entry hk al na ob hw h1) e1 ?_
  cases fl with
  |nx ρ'=>
   cases fr with
   |true=>cases e2
   |false=>
    cases e2
    exact λdQ σ' H' r'=>q .non H' r'.frame r'.ob .non
  |rt p'=>
   cases e2
   exact q
  |_=>cases e2
end
def pC(i:Nat)(g:mC):dY:=λt n ρ=>(g t n ρ).map λq=>if(jK q.2).isSome then(q.1,.rt q.2)else(q.1,.nx (ρ.set i (.ow [q.2])))
def Cf(i:Nat)(g:mC):dY:=λt n ρ=>(yd ρ i).bind λl=>(g t n ρ).bind λq=>if(jK q.2).isSome then some (q.1,.rt q.2)else if l.length<sizeLine then some (q.1,.nx (ρ.set i (.ow (l++[q.2]))))else none
def vd(F:List PV->Option PV)(f:Den)(g:mC):dY:=λt n ρ=>(f (wQ t n ρ)).bind λa=>if flat a then(g t n ρ).bind λq=>if(jK q.2).isSome then some (q.1,.rt q.2)else(F [a,q.2]).bind λp=>if(jK p).isSome then none else some (q.1,.rt p)else none
section
variable{X:Cx}{κ:Kl}{W:Wx}{fr:Bool}{e a:Expr}{es:List Expr}{fa:Den}{ge:mC}{pos p1 p' apos bY py lp:Pos}{x y:Str}
theorem Iy(i:Nat)(hN:X.N.Nodup)(h:QE X κ W false e ge)(hi:X.N[i]?=some y:=by rfl)(Nm:i≠0:=by decide)(hx:Loc X.env.scope y:=by first|exact Or.inl rfl|exact Or.inr rfl)(hs:swapsWith (.List [e] lp) (some (.Name y py)) pos.line X.env=pure false:=by rfl)
  (hf:X.fn y=true\/X.env.scope.names.lookup y=some .local:=by first|exact .inl rfl|exact .inr rfl)(kJ:starEach [e] X.env=(false,eval e X.env)::starEach [] X.env:=by rfl):QS X κ W fr (.Assign [.Name y py] (.List [e] lp) pos) (pC i ge):=by
 obtain⟨te,h1,h2⟩:=h
 refine⟨_,ic hN hi hx (uA (aG h1 bG kJ)) hs hf,λ{G A x dx vw t n own ρ σ H q D} r e k=>?_⟩
 obtain⟨⟨n',p⟩,e1,e2⟩:=Zu.mp e
 refine h2 r e1 ?_
 cases hx:jK p with
 |some m=>
  rw[if_pos (by simp[hx])]at e2
  subst e2
  exact k.ex hx r
 |none=>
 rw[if_neg (by simp[hx])]at e2
 subst e2
 refine λv H1 r1 s1 z=>⟨(show(1:Nat)<=sizeLine by decide),λb hb=>?_⟩
 obtain⟨dQ,r'⟩:=r1.r.O7 (i:=i) (bM hb) (r1.r.zX hb (.cons (show Rep X.K κ (dD (A1 A x) own ρ H1) v p from z) .nil))
 exact k dQ _ _ ⟨r',by rw[z0g Nm];exact r1.self,by rw[z0g Nm];exact r1.zero,r1.wsr,r1.na,r1.gx⟩
theorem PU(i:Nat)(h:QE X κ W false e ge)(hN:X.N[i]?=some y:=by rfl)(Nm:i≠0:=by decide)(hv:uq X.env.scope y:=by first|exact Or.inl rfl|exact Or.inr (Or.inl rfl)|exact Or.inr (Or.inr rfl))(hd:(y==("__debug__" :Str))=false:=by decide)
  (j0:(y==("__classdict__" :Str))=false:=by decide)(iF:attributeBase (.Name y p') "append" X.env (eval (.Name y p') X.env)=eval (.Name y p') X.env:=by rfl)
  (rP:((backTo bY (starEach [e] X.env)).all (λx=>!x.1)&&(backToKw bY (keywordEach [] X.env)).all (λx=>x.1.isSome)
    &&decide ([e].length+([]:List Keyword).length+(if([]:List Keyword).isEmpty then 0 else 1)<30))=true:=by rfl)
  (hs:swapsWith (.Call (.Attribute (.Name y p') "append" apos) [e] [] bY) none pos.line X.env=pure false:=by rfl)(iG:(apos.endLine==bY.line)=true:=by rfl)(kJ:starEach [e] X.env=(false,eval e X.env)::starEach [] X.env:=by rfl):
  QS X κ W fr (.Expr (.Call (.Attribute (.Name y p') "append" apos) [e] [] bY) pos) (Cf i ge):=by
 obtain⟨te,h1,h2⟩:=h
 refine⟨_,g0 (wN z0t z1G z1H oj (dm hN hv hd j0) (aG h1 bG kJ) iF rP iG kJ rfl) hs,λ{G A x dx vw t n own ρ σ H q D} r e k=>?_⟩
 obtain⟨l,e3,e4⟩:=Zt.mp e
 obtain⟨⟨n',p⟩,e1,e5⟩:=Zt.mp e4
 have Gz:=iW e3
 obtain⟨g1,g3,vs,g4,g5⟩:=r.r.ow i (.l l) Gz
 change H (own i)=some (.lst vs)at g4
 refine⟨_,g1,.inl ⟨rfl,vs,mK.of g4⟩,h2 r e1 ?_⟩
 cases hx:jK p with
 |some m=>
  rw[if_pos (by simp[hx])]at e5
  cases e5
  exact k.ex hx r
 |none=>
 rw[if_neg (by simp[hx])]at e5
 obtain⟨hl,e6⟩:=iU e5
 cases e6
 intro v H1 r1 s1 z
 obtain⟨_,_,S7,g6,g7⟩:=r1.r.ow i (.l l) Gz
 change H1 (own i)=some (.lst S7)at g6
 change aZ _ _ _ S7 l at g7
 obtain⟨dQ,r'⟩:=r1.r.mut Gz (g7.append (.cons (show Rep X.K κ (dD (A1 A x) own ρ H1) v p from z) .nil))
 refine⟨own i,S7,_,rfl,rfl,g6,by rw[g7.length];exact hl,k dQ σ _ ⟨r',r1.self,by rw[z0g Nm];exact r1.zero,r1.wsr,r1.na,r1.gx⟩⟩
theorem L1{F:List PV->Option PV}{k:Nat}{f:Addr}{fd:FuncData}{ps:List Str}(C:Cq X.K κ)(FO:aK X.prog X.w X.K X.mg X.base cX k f fd ps (hR X.K κ false F))(hr:c8 k X.A)(hm:X.mg x=some (.ref f))(hk:PySem.W.keepIn X.K (.ref f)=true)(hb:Binds X.K fd ps [])(ha:DE X κ a fa)(h:QE X κ W true e ge)(hg:Gl X x:=by rfl)(mO:(x==("__debug__" :Str))=false:=by decide)
  (he:starEach [a,e] X.env=(false,eval a X.env)::starEach [e] X.env:=by rfl)(kJ:starEach [e] X.env=(false,eval e X.env)::starEach [] X.env:=by rfl)(hpl:(backTo bY (starEach [e] X.env)).any (·.1)=false:=by rfl):QS X κ W false (.Return (some (.Call (.Name x p1) [a,e] [] bY)) pos) (vd F fa ge):=by
 obtain⟨ta,k1,k2⟩:=ha
 obtain⟨te,h1,h2⟩:=h
 refine⟨_,eR (lg FO hr hg hm hk hb .nil jy (aG k1 (aG h1 bG kJ) he) mO he hpl),λ{G A x dx vw t n own ρ σ H q D} r e k=>?_⟩
 obtain⟨p0,e1,e2⟩:=Zt.mp e
 obtain⟨Iu,e3⟩:=iU e2
 obtain⟨⟨n',p2⟩,e4,e5⟩:=Zt.mp e3
 refine k2 (r.rd C.fld) e1 λv0 H0 s0 z0=>h2 (r.mono s0) e4 ?_
 cases hx:jK p2 with
 |some m=>
  rw[if_pos (by simp[hx])]at e5
  cases e5
  exact k.ex hx (r.mono s0)
 |none=>
 rw[if_neg (by simp[hx])]at e5
 obtain⟨p,e6,e7⟩:=Zt.mp e5
 split at e7
 ·cases e7
 rename_i hp
 cases e7
 intro v H1 r1 s1 z
 have zr:Rep X.K κ (dD (A1 A x) own ρ H1) v p2:=by
  obtain⟨b,vs,l,w1,w2,w3,w4,w5⟩:=(show OR X.K κ (di (A1 A x) own ρ) H0 H1 v p2 from z)
  subst w1 w2
  refine .lst (SL.of ?_) (w5.mono (dX (λ_ _ q=>q) λc q _=>.inl q))
  rw[dD,bJ λq=>(r.mono s0).r.Hf q w3]
  exact w4
 refine⟨di (A1 A x) own ρ,[p0,p2],p,λb hb=>r1.r.Hf hb,.cons (Rep.flat Iu z0) (.cons zr .nil),e6,λv' H2 s2 z2=>?_⟩
 have r2:=r1.mono s2
 exact k.out (by simpa using hp) v' H2 r2.frame r2.ob (z2.mono (dX (λ_ _ q=>q) λb q _=>.inl q))
end
section
variable{K:PySem.W.Frag}{κ:Kl}{G H H':Hp}{A:Addr->Prop}{x:Addr}{own:Nat->Addr}{ρ:dO}{σ:St}{o o':HO}
theorem ve(s:aE (hide (mJ x) H) (hide (mJ x) H')):aE (dD (A1 A x) own ρ H) (dD (A1 A x) own ρ H'):=λb u h=>by
 obtain⟨nb,hb⟩:=bV h
 rw[dD,bJ nb]
 exact fU s (λz=>nb (.inl (.inr z))) hb
theorem R.TK(r:R K κ (upd G x o) (A1 A x) (λ_=>none) own ρ σ H)(s:aE (hide (mJ x) H) (hide (mJ x) H'))(e:H' x=some o'):R K κ (upd G x o') (A1 A x) (λ_=>none) own ρ σ H':=by
 refine⟨λb h=>?_,λi a vs e=>(by cases e),λb u h=>?_,λi p h=>?_,λi l h=>?_,r.inj,λi l h=>?_,r.len⟩
 ·intro z
  obtain⟨ne,z⟩:=u5 z
  have:=r.al b h
  rw[au ne]at this
  exact this z
 ·by_cases ne:b=x
  ·subst ne
   rw[aC]at h
   cases h
   exact e
  ·rw[au ne]at h
   exact fU s ne (r.same b u (by rw[au ne];exact h))
 ·obtain⟨v,h1,h2⟩:=r.sh i p h
  exact⟨v,h1,h2.mono (ve s)⟩
 ·obtain⟨h1,h2,vs,h3,h4⟩:=r.ow i l h
  obtain⟨ne,h2⟩:=u5 h2
  exact⟨h1,by rw[au ne];exact h2,vs,fU s ne h3,h4.mono (ve s)⟩
 ·obtain⟨a,vs,z,_⟩:=r.bw i l h
  cases z
theorem Iz(h:H x=some o):upd H x o=H:=by
 funext b
 by_cases e:b=x
 ·subst e
  rw[aC,h]
 ·rw[au e]
theorem R.PX{N:List Str}{k:Nat}{ws:List V}{ps:List PV}(hk:ps.length+1=k)(al:∀b,A b->H b≠none)(ob:H x=some o)(h:aZ K κ (hide (A1 A x) H) ws ps):
  R K κ (upd H x o) (A1 A x) (λ_=>none) (λ_=>0) (.un::(ps.map Slot.sh++List.replicate (N.length-k) .un)) (start N (.ref x::ws)) H/\dD (A1 A x) (λ_=>0) (.un::(ps.map Slot.sh++List.replicate (N.length-k) .un))=hide (A1 A x):=by
 have hl:=h.length
 have slot:∀{i:Nat} {s:Slot},(.un::(ps.map Slot.sh++List.replicate (N.length-k) .un):dO)[i]?=some s->s=.un\/∃p j,s=.sh p/\i=j+1/\ps[j]?=some p:=λ{i s} e=>by
  cases i with
  |zero=>cases e;exact .inl rfl
  |succ i=>
   rw[z1L,z1h]at e
   split at e
   ·rw[z0f]at e
    obtain⟨q,e1,e2⟩:=Zu.mp e
    exact .inr ⟨q,i,e2.symm,rfl,e1⟩
   ·rw[z1K]at e
    split at e
    ·cases e;exact .inl rfl
    ·cases e
 have vY:∀{i:Nat} {l:Cn},(.un::(ps.map Slot.sh++List.replicate (N.length-k) .un):dO)[i]?≠some (.own l):=λ{i l} e=>by
  rcases slot e with z|⟨_,_,z,_⟩<;>cases z
 have hh:dD (A1 A x) (λ_=>0) (.un::(ps.map Slot.sh++List.replicate (N.length-k) .un))=hide (A1 A x):=by
  funext H
  unfold dD
  congr 1
  funext b
  refine propext ⟨λz=>z.elim id λ⟨j,m,z,_⟩=>absurd z vY,λz=>.inl z⟩
 refine⟨⟨λb hb=>?_,λi a vs e=>(by cases e),by rw[Iz ob];exact λ_ _ z=>z,λi p e=>?_,λi l e=>absurd e vY,λi j l m e=>absurd e vY,λi l e=>?_,?_⟩,hh⟩
 ·rw[Iz ob]
  rcases hb with hb|hb
  ·exact al b hb
  ·rw[hb,ob]
   exact λz=>by cases z
 ·rcases slot e with z|⟨q,j,z,rfl,e1⟩
  ·cases z
  ·cases z
   obtain⟨v,h1,h2⟩:=h.get e1
   refine⟨v,?_,by rw[hh];exact h2⟩
   unfold start
   rw[z0Q,List.cons_append,z1L,z1A (by rw[X6];exact(z0C.mp h1).1),z0f,h1]
   rfl
 ·rcases slot e with z|⟨_,_,z,_⟩<;>cases z
 ·unfold start
  simp only[z0E,X6,Wk,z1e,hl]
  rw[hk]
  omega
end
def xq(n k:Nat)(f1 f2:Den)(ps:List PV):Option Rg:=if ps.length+1=k then(f1 (.un::(ps.map Slot.sh++List.replicate (n-k) .un))).bind λa=>(f2 (.un::(ps.map Slot.sh++List.replicate (n-k) .un))).bind λb=>match a,b with
 |.lst ws,.str s=>some ⟨ws,s⟩
 |_,_=>none
 else none
def L5(K:PySem.W.Frag)(κ:Kl)(F:List PV->Option Rg):Sp:=λvs H Q _=>∃(A:Addr->Prop) (x dx:Addr) (ws:List V) (ps:List PV) (t:Rg),vs=.ref x::ws/\(∀b,A b->H b≠none)/\¬A x/\H x=some (.ins (κ.adr 4) dx [])/\aZ K κ (hide (A1 A x) H) ws ps/\F ps=some t/\
 ∀vw H',aE (hide (mJ x) H) (hide (mJ x) H')->H' x=some (qo κ dx vw t 0)->Rep K κ (hide (A1 A x) H') vw (.lst t.ws)->Q .non H'
structure Yv(K:PySem.W.Frag)(κ:Kl):Prop where
 n1:eS K (κ.adr 4) "words"
 n2:eS K (κ.adr 4) "signs"
def QvI(K:PySem.W.Frag)(κ:Kl)(ts:TS)(f1 f2:Den):Prop:=∀{A x dx own ρ σ H l0 s0 D},R K κ (upd H x (.ins (κ.adr 4) dx [])) (A1 A x) (λ_=>none) own ρ σ H->dD (A1 A x) own ρ=hide (A1 A x)->σ[0]?=some (some (.ref x))->H x=some (.ins (κ.adr 4) dx [])->f1 ρ=some (.lst l0)->f2 ρ=some (.str s0)->
 (∀v σ' H',aE (hide (mJ x) H) (hide (mJ x) H')->H' x=some (qo κ dx v ⟨l0,s0⟩ 0)->Rep K κ (hide (A1 A x) H') v (.lst l0)->D.nx σ' H')->ts D σ H
def QI(X:Cx)(κ:Kl)(WV:List Stmt)(f1 f2:Den):Prop:=∃ts,xM X WV ts/\QvI X.K κ ts f1 f2
theorem TL{X:Cx}{κ:Kl}{f1 f2:Den}{e1 e2:Expr}{a1 a2 a4 b1 b2 b4 c1 c2 c4 c5:Pos}{j:Nat}(C:Cq X.K κ)(C2:Yv X.K κ)(d1:DE X κ e1 f1)(d2:DE X κ e2 f2)(h0:X.N[0]?=some ("self" :Str):=by rfl)(hv:uq X.env.scope "self" :=by first|exact Or.inl rfl|exact Or.inr (Or.inl rfl)|exact Or.inr (Or.inr rfl))
  (w1:swapsWith e1 (some (.Attribute (.Name "self" a1) "words" a2)) a4.line X.env=pure false:=by rfl)(w2:swapsWith e2 (some (.Attribute (.Name "self" b1) "signs" b2)) b4.line X.env=pure false:=by rfl)(w3:swapsWith (.Constant (.int 0) j c5) (some (.Attribute (.Name "self" c1) "at" c2)) c4.line X.env=pure false:=by rfl):
  QI X κ [.Assign [.Attribute (.Name "self" a1) "words" a2] e1 a4,.Assign [.Attribute (.Name "self" b1) "signs" b2] e2 b4,.Assign [.Attribute (.Name "self" c1) "at" c2] (.Constant (.int 0) j c5) c4] f1 f2:=by
 obtain⟨t1,p1,q1⟩:=d1
 obtain⟨t2,p2,q2⟩:=d2
 refine⟨_,aQ (rM (dm h0 hv) p1 w1) (aQ (rM (dm h0 hv) p2 w2) (bx (rM (dm h0 hv) BC w3))),?_⟩
 intro A x dx own ρ σ H l0 s0 D r hh self ob e3 e4 q
 refine q1 r e3 λv1 H1 s1 z1=>?_
 have r1:=r.mono s1
 have y1:Rep X.K κ (hide (A1 A x) H1) v1 (.lst l0):=by
  have:=z1
  rwa[hh]at this
 refine⟨_,self,x,_,dx,_,rfl,s1 _ _ ob,C.cls,C2.n1,(show(0:Nat)<1000 by decide),?_⟩
 have u1:∀{Hn:Hp} {on:HO},aE (hide (mJ x) Hn) (hide (mJ x) (upd Hn x on)):=λ{Hn on}=>by
  rw[qz (show mJ x x from rfl)]
  exact λ_ _ z=>z
 have r2:=r1.TK (o':=.ins (κ.adr 4) dx [(("words" :Str),v1)]) u1 aC
 refine q2 r2 e4 λv2 H2 s2 z2=>?_
 cases z2
 have r3:=r2.mono s2
 have y2:=(y1.mono (hh▸ve (own:=own) (ρ:=ρ) (u1 (on:=.ins (κ.adr 4) dx [(("words" :Str),v1)])))).mono (aV s2)
 refine⟨_,self,x,_,dx,_,rfl,s2 _ _ aC,C.cls,C2.n2,(show(1:Nat)<1000 by decide),?_⟩
 refine⟨_,self,x,_,dx,_,rfl,aC,C.cls,C.n3,(show(2:Nat)<1000 by decide),?_⟩
 have sA:aE (hide (mJ x) H) (hide (mJ x) H1):=aV s1
 have sB:aE (hide (mJ x) H1) (hide (mJ x) H2):=u1.trans (aV s2)
 refine q v1 σ _ ((sA.trans sB).trans (u1.trans u1)) aC (y2.mono λb o hb=>?_)
 obtain⟨nb,hb⟩:=bV hb
 have ne:b≠x:=λz=>nb (.inr z)
 rw[bJ nb,au ne,au ne]
 exact hb
section
variable{P:Program}{w:World}{K:PySem.W.Frag}{mg:Str->Option Value}{base:Heap}{κ:Kl}
theorem FC{x qual:Str}{st:Stmt}{f:Addr}{fd:FuncData}{N ps:List Str}{k:Nat}{f1 f2:Den}(F:rQ K x qual st f fd)(S:aU N ps (ao st))
  (hb:∀(cR:Value) (A:Around) (outer:List Env) (s:Shared) (H:Hp) (E:XK),c8 k (A.deeper (envOfC qual (ao st) s.heap.objs.size f cR))->QI (lh cX P w K mg base N qual (ao st) f cR A outer s H E).Kw κ (iH st) f1 f2):
  aK P w K mg base cX (k+1) f fd ps (L5 K κ (xq N.length ps.length f1 f2)):=by
 refine F.ok S (λvs H Q E h=>?_) (λcR A outer s H vs Q E hr h=>?_)
 ·obtain⟨A',x,dx,ws,qs,t,rfl,_,_,_,h1,h2,_⟩:=h
  unfold xq at h2
  obtain⟨hk,_⟩:=iU h2
  rw[Wk,h1.length]
  exact hk
 ·obtain⟨A',x,dx,ws,qs,t,rfl,al,na,ob,h1,h2,q⟩:=h
  obtain⟨ts,a1,a2⟩:=hb cR A outer s H E hr
  refine⟨ts,a1,?_⟩
  unfold xq at h2
  obtain⟨hk,h3⟩:=iU h2
  obtain⟨pa,e3,h4⟩:=Zt.mp h3
  obtain⟨pb,e4,h5⟩:=Zt.mp h4
  cases pa<;>first|(cases h5;done)|skip
  cases pb<;>first|(cases h5;done)|skip
  rename_i l0 s0
  cases h5
  obtain⟨r,hh⟩:=R.PX (N:=N) hk al ob h1
  exact a2 r hh rfl ob e3 e4 λv σ' H' s' o' z=>q v H' s' o' z
end
def IA(i j:Nat)(FI:List PV->Option Rg)(FT FE:FQ)(as:eF):Den:=λρ=>if i<ρ.length/\j<ρ.length then(as ρ).bind λps=>(FI ps).bind λt=>(FT t 0 []).bind λq=>if(jK q.2).isSome then some q.2 else(FE t q.1 []).map λz=>if(jK z.2).isSome then z.2 else q.2 else none
def Eh(W:Wx)(G:Hp)(m:Int):Prop:=∀d H',aE G H'->G d=none->H' d=some (.xd [(("at" :Str),.int m)])->W.E (.ref W.C) (some d) H'
def Vg(K:PySem.W.Frag)(κ:Kl)(NR:Addr)(F:List PV->Option PV):Sp:=λvs H Q E=>∃(A:Addr->Prop) (ps:List PV) (p:PV),(∀b,A b->H b≠none)/\aZ K κ (hide A H) vs ps/\F ps=some p/\
 match jK p with
 |some m=>Eh ⟨NR,E⟩ H m
 |none=>∀v H',aE H H'->Rep K κ (hide A H') v p->Q v H'
def Yw(X:Cx)(κ:Kl)(W:Wx)(WV:List Stmt)(g:Den):Prop:=∃ts,xM X WV ts/\∀{G A own ρ σ H p D},R X.K κ G A (λ_=>none) own ρ σ H->g ρ=some p->(match jK p with
 |some m=>Eh W G m
 |none=>∀v H',aE G H'->Rep X.K κ (hide A H') v p->D.rt v H')->ts D σ H
section
variable{X:Cx}{κ:Kl}{W:Wx}{a b:Expr}{fs:eF}{x y z m1 m2:Str}{p pos p1 py pz q1 q2 q3 q4 q5 q6 q7 q8 q9 q0:Pos}
theorem IB{FI:List PV->Option Rg}{FT FE:FQ}{k1 k2 k3:Nat}{f1 f2 f3:Addr}{Yx Yy Yz:FuncData}{YA YB YC:List Str}{YD YE:Sem Bool}(C:Cq X.K κ)(i j:Nat)(hN:X.N.Nodup)
  (M:Mk X.K (κ.adr 4) f1)(FO1:aK X.prog X.w X.K X.mg X.base cX k1 f1 Yx YA (L5 X.K κ FI))(hr1:c8 (k1+1) X.A)(WW:X.mg x=some (.ref (κ.adr 4)))(TM:Binds X.K Yx YA [])
  (HF:Meth X.K (κ.adr 4) m1 f2)(By:Passes (kf X.prog X.w) X W.E)(FO2:aK X.prog X.w X.K X.mg X.base (kf X.prog X.w) k2 f2 Yy YB (wm X.K κ W.C false FT))(hr2:c8 k2 X.A)(TN:Binds X.K Yy YB [])
  (hm3:Meth X.K (κ.adr 4) m2 f3)(FO3:aK X.prog X.w X.K X.mg X.base (kf X.prog X.w) k3 f3 Yz YC (wm X.K κ W.C false FE))(hr3:c8 k3 X.A)(hb3:Binds X.K Yz YC [])(ha:DA X κ [a,b] fs)
  (hi:X.N[i]?=some y:=by rfl)(hj:X.N[j]?=some z:=by rfl)(hij:i≠j:=by decide)(hx:Loc X.env.scope y:=by first|exact Or.inl rfl|exact Or.inr rfl)(hxz:Loc X.env.scope z:=by first|exact Or.inl rfl|exact Or.inr rfl)
  (hv:uq X.env.scope y:=by first|exact Or.inl rfl|exact Or.inr (Or.inl rfl)|exact Or.inr (Or.inr rfl))(hvz:uq X.env.scope z:=by first|exact Or.inl rfl|exact Or.inr (Or.inl rfl)|exact Or.inr (Or.inr rfl))(hd:(y==("__debug__" :Str))=false:=by decide)(j0:(y==("__classdict__" :Str))=false:=by decide)(hdz:(z==("__debug__" :Str))=false:=by decide)(hcz:(z==("__classdict__" :Str))=false:=by decide)
  (hf:X.fn y=true\/X.env.scope.names.lookup y=some .local:=by first|exact .inl rfl|exact .inr rfl)(hfz:X.fn z=true\/X.env.scope.names.lookup z=some .local:=by first|exact .inl rfl|exact .inr rfl)
  (hg:Gl X x:=by rfl)(mO:(x==("__debug__" :Str))=false:=by decide)
  (he:starEach [a,b] X.env=(false,eval a X.env)::starEach [b] X.env:=by rfl)(hpl:(backTo pos (starEach [b] X.env)).any (·.1)=false:=by rfl)
  (Vh:swapsWith (.Call (.Name x p) [a,b] [] pos) (some (.Name y py)) p1.line X.env=pure false:=by rfl)
  (PY:∀u1 u2 u3:V,List.lookup m1 [(("words" :Str),u1),(("signs" :Str),u2),(("at" :Str),u3)]=none:=by intros;rfl)(RA:∀u1 u2 u3:V,List.lookup m2 [(("words" :Str),u1),(("signs" :Str),u2),(("at" :Str),u3)]=none:=by intros;rfl)
  (ht1:eval (.Call (.Attribute (.Name y q1) m1 q2) [] [] q3) X.env=(do
    let ov<-eval (.Name y q1) X.env
    standAt q2.atName
    let(f,first)<-holding [ov] (getMethod ov m1 YD)
    callWith q3 f first (backTo q3 (starEach [] X.env)) (backToKw q3 (keywordEach [] X.env))):=by rfl)
  (ht2:eval (.Call (.Attribute (.Name y q5) m2 q6) [] [] q7) X.env=(do
    let ov<-eval (.Name y q5) X.env
    standAt q6.atName
    let(f,first)<-holding [ov] (getMethod ov m2 YE)
    callWith q7 f first (backTo q7 (starEach [] X.env)) (backToKw q7 (keywordEach [] X.env))):=by rfl)
  (o9:swapsWith (.Call (.Attribute (.Name y q1) m1 q2) [] [] q3) (some (.Name z pz)) q4.line X.env=pure false:=by rfl)
  (hs3:swapsWith (.Call (.Attribute (.Name y q5) m2 q6) [] [] q7) none q8.line X.env=pure false:=by rfl):
  Yw X κ W [.Assign [.Name y py] (.Call (.Name x p) [a,b] [] pos) p1,.Assign [.Name z pz] (.Call (.Attribute (.Name y q1) m1 q2) [] [] q3) q4,.Expr (.Call (.Attribute (.Name y q5) m2 q6) [] [] q7) q8,.Return (some (.Name z q0)) q9] (IA i j FI FT FE fs):=by
 obtain⟨ta,h1,h2⟩:=ha
 refine⟨_,aQ (ic hN hi hx (qp M FO1 hr1 hg WW TM .nil jy h1 mO he hpl) Vh hf) (aQ (ic hN hj hxz (uC (pl:=YD) (dm hi hv hd j0) C.cls HF FO2 hr2 TN .nil By ht1) o9 hfz) (aQ (g0 (uC (pl:=YE) (dm hi hv hd j0) C.cls hm3 FO3 hr3 hb3 .nil By ht2) hs3) (bx (eR (dm hj hvz hdz hcz))))),λ{G A own ρ σ H p D} r e' q=>?_⟩
 obtain⟨⟨li,lj⟩,e'⟩:=iU e'
 obtain⟨qs,e1,e2⟩:=Zt.mp e'
 obtain⟨t,e3,e4⟩:=Zt.mp e2
 obtain⟨⟨n1,pr⟩,e5,e6⟩:=Zt.mp e4
 refine h2 r e1 λvs H1 s1 z1=>?_
 intro x dx RY WQ Hh
 have r1:=r.mono s1
 rw[z0Y]
 generalize RH:upd (upd H1 dx (.own x)) x (.ins (κ.adr 4) dx [])=H2
 have g1:H2 x=some (.ins (κ.adr 4) dx []):=by rw[<-RH];exact aC
 have g2:∀b o,H1 b=some o->b≠x/\H2 b=some o:=λb o q=>by
  have n1:b≠x:=cE q RY
  rw[<-RH,au n1,au (cE q WQ)]
  exact⟨n1,q⟩
 have g3:∀b,H2 b=none->H1 b=none:=λb q=>by
  cases z:H1 b with
  |none=>rfl
  |some o=>rw[(g2 b o z).2]at q;cases q
 have nx:¬di A own ρ x:=λz=>r1.Hf z RY
 refine⟨di A own ρ,x,dx,vs,qs,t,rfl,λb hb z=>r1.Hf hb (g3 b z),nx,g1,z1.mono λb o w=>?_,e3,λvw H3 s3 o3 w3=>⟨rfl,?_⟩⟩
 ·obtain⟨w1,w2⟩:=bV w
  obtain⟨w3,w4⟩:=g2 b o w2
  rw[bJ λz=>z.elim w1 w3]
  exact w4
 ·have YF:∀b,di A own ρ b->H3 b≠none:=λb hb z=>by
    cases z1:H1 b with
    |none=>exact r1.Hf hb z1
    |some o=>
     obtain⟨w1,w2⟩:=g2 b o z1
     rw[fU s3 w1 w2]at z
     cases z
  have si:(σ.set i (some (.ref x)))[i]?=some (some (.ref x)):=by rw[z0B,if_pos rfl,if_pos (by rw[r.len];exact li)]
  refine⟨.ref x,si,x,dx,_,rfl,o3,PY _ _ _,?_⟩
  refine⟨di A own ρ,x,dx,vw,t,0,n1,[],[],pr,rfl,YF,nx,o3,w3,.nil,e5,?_⟩
  have RP:∀b o,G b=some o->b≠x/\H3 b=some o:=λb o hb=>by
   obtain⟨y1,y2⟩:=g2 b o (r1.same b o hb)
   exact⟨y1,fU s3 y1 y2⟩
  have free:∀{Hn:Hp} {d:Addr},(∀b o,G b=some o->Hn b=some o)->Hn d=none->G d=none:=λ{Hn d} up z=>by
   cases zg:G d with
   |none=>rfl
   |some o=>rw[up d o zg]at z;cases z
  cases hx:jK pr with
  |some m=>
   rw[if_pos (by simp[hx])]at e6
   cases e6
   rw[hx]at q
   exact λd H' s' o' hd Bv=>q d H' (λb o hb=>fU s' (RP b o hb).1 (RP b o hb).2) (free (λb o hb=>(RP b o hb).2) hd) Bv
  |none=>
  rw[if_neg (by simp[hx])]at e6
  obtain⟨⟨n2,pe⟩,e7,e8⟩:=Zu.mp e6
  intro v H4 s4 o4 w4
  have al4:∀b,di A own ρ b->H4 b≠none:=λb hb z=>by
   cases z3:H3 b with
   |none=>exact YF b hb z3
   |some o=>
    have ne:b≠x:=λq=>nx (q▸hb)
    rw[fU s4 ne z3]at z
    cases z
  have si2:((σ.set i (some (.ref x))).set j (some v))[i]?=some (some (.ref x)):=by rw[z0g (Ne.symm hij)];exact si
  have sj:((σ.set i (some (.ref x))).set j (some v))[j]?=some (some v):=by rw[z0B,if_pos rfl,if_pos (by rw[z0q,r.len];exact lj)]
  refine⟨.ref x,si2,x,dx,_,rfl,o4,RA _ _ _,?_⟩
  have w5:Rep X.K κ (hide (A1 (di A own ρ) x) H4) vw (.lst t.ws):=w3.mono λb o hb=>by
   obtain⟨nb,hb⟩:=bV hb
   rw[bJ nb]
   exact fU s4 (λz=>nb (.inr z)) hb
  refine⟨di A own ρ,x,dx,vw,t,n1,n2,[],[],pe,rfl,al4,nx,o4,w5,.nil,e7,?_⟩
  have Nk:∀b o,G b=some o->b≠x/\H4 b=some o:=λb o hb=>⟨(RP b o hb).1,fU s4 (RP b o hb).1 (RP b o hb).2⟩
  cases hy:jK pe with
  |some m=>
   rw[if_pos (by simp[hy])]at e8
   subst e8
   rw[hy]at q
   exact λd H' s' o' hd Bv=>q d H' (λb o hb=>fU s' (Nk b o hb).1 (Nk b o hb).2) (free (λb o hb=>(Nk b o hb).2) hd) Bv
  |none=>
  rw[if_neg (by simp[hy])]at e8
  subst e8
  rw[hx]at q
  intro v5 H5 s5 o5 w6
  refine⟨_,sj,q v H5 (λb o hb=>?_) ?_⟩
  ·exact fU s5 (Nk b o hb).1 (Nk b o hb).2
  ·show Rep X.K κ (hide A H5) v pr
   refine(show Rep X.K κ (hide (A1 (di A own ρ) x) H4) v pr from w4).mono λb o hb=>?_
   obtain⟨nb,hb⟩:=bV hb
   rw[bJ λz=>nb (.inl (.inl z))]
   exact fU s5 (λz=>nb (.inr z)) hb
end
section
variable{P:Program}{w:World}{K:PySem.W.Frag}{mg:Str->Option Value}{base:Heap}{κ:Kl}
theorem TQ{x qual:Str}{st:Stmt}{f:Addr}{fd:FuncData}{N ps:List Str}{k:Nat}{g:Den}(NR:Addr)(F:rQ K x qual st f fd)(S:aU N ps (ao st))
  (hb:∀(cR:Value) (A:Around) (outer:List Env) (s:Shared) (H:Hp) (E:XK),c8 k (A.deeper (envOfC qual (ao st) s.heap.objs.size f cR))->
    Passes (kf P w) (lh (kf P w) P w K mg base N qual (ao st) f cR A outer s H E) E->
    Yw (lh (kf P w) P w K mg base N qual (ao st) f cR A outer s H E) κ ⟨NR,E⟩ (iH st) g):
  aK P w K mg base (kf P w) (k+1) f fd ps (Vg K κ NR λqs=>if qs.length=ps.length then g (ig N.length qs)else none):=by
 obtain⟨oc,od,kV,doc,pm,an,cR,ct,Kx,rfl,lk,j0⟩:=F.ex
 refine G0 lk j0 S (λvs H Q E h=>?_) λA outer s H vs Q E hr h=>?_
 ·obtain⟨A,qs,p,_,h1,h2,_⟩:=h
  rw[h1.length]
  exact(iU h2).1
 ·obtain⟨A',qs,p,al,h1,h2,q⟩:=h
  obtain⟨ts,a1,a2⟩:=hb cR A outer s H E hr xj
  exact⟨ts,a1,a2 (R.entry al h1) (iU h2).2 q⟩
end
end L2.D
namespace L2.D
open PySem PySem.Spec PyProof.Rows PySem.SeqAt
structure pD(K:PySem.W.Frag)(mg:Str->Option Value)(κ:Kl)(CR CC fH fA fY fS fC:Addr):Prop where
 fld:κ.fld=oN
 cls:∀c,c<4->v9 K (κ.adr c)
 nn:eS K (κ.adr 0) "name"
 nw:∀c,0<c->c<4->eS K (κ.adr c) "wanted"
 np:∀c,0<c->c<4->eS K (κ.adr c) "parts"
 kH:Mk K (κ.adr 0) fH
 kA:Mk K (κ.adr 1) fA
 kY:Mk K (κ.adr 2) fY
 kS:Mk K (κ.adr 3) fS
 gH:mg "Hand" =some (.ref (κ.adr 0))
 gA:mg "All" =some (.ref (κ.adr 1))
 gY:mg "Any" =some (.ref (κ.adr 2))
 gS:mg "Some" =some (.ref (κ.adr 3))
 cf:Nh K CC "__init__" fC
 gC:mg "Counting" =some (.ref CC)
 isR:∀c,c<4->Pp K (κ.adr c) CR
 gR:mg "Rule" =some (.ref CR)
 rc:v9 K (κ.adr 4)
 r1:eS K (κ.adr 4) "words"
 r2:eS K (κ.adr 4) "signs"
 r3:eS K (κ.adr 4) "at"
section
variable{K:PySem.W.Frag}{mg:Str->Option Value}{κ:Kl}{CR CC fH fA fY fS fC:Addr}
theorem FD{c:Nat}{f:Str}(h:f∈oN c):(c=4/\(f= "words" \/f= "signs" \/f= "at"))\/f∈RK c:=by
 unfold oN at h
 split at h
 ·exact .inl ⟨by assumption,by simpa using h⟩
 ·exact .inr h
theorem pD.jB(C:pD K mg κ CR CC fH fA fY fS fC)(f:Str):HM K κ f:=λc h=>by
 rw[C.fld]at h
 rcases FD h with⟨rfl,rfl|rfl|rfl⟩|h
 ·exact⟨C.rc,C.r1⟩
 ·exact⟨C.rc,C.r2⟩
 ·exact⟨C.rc,C.r3⟩
 ·rcases HU h with⟨rfl,rfl⟩|⟨h1,h2,rfl|rfl⟩
  ·exact⟨C.cls 0 (by decide),C.nn⟩
  ·exact⟨C.cls c h2,C.nw c h1 h2⟩
  ·exact⟨C.cls c h2,C.np c h1 h2⟩
theorem pD.q(C:pD K mg κ CR CC fH fA fY fS fC):Cq K κ:=⟨by rw[C.fld];rfl,C.rc,C.r3⟩
theorem pD.q2(C:pD K mg κ CR CC fH fA fY fS fC):Yv K κ:=⟨C.r1,C.r2⟩
end
theorem eJ{X:Cx}{κ:Kl}{pos:Pos}{a:Expr}{fa:Den}{f:Str}(hκ:κ.fld=oN)(hf:HM X.K κ f)(ha:DB X κ a fa)(hb:attributeBase a f X.env (eval a X.env)=eval a X.env:=by rfl):DE X κ (.Attribute a f pos) (bU (kQ oN f) fa):=by
 rw[<-hκ]
 exact Ph ha hf hb
def sJ(F:List PV->Option PV):Nat->List PV->Option PV:=λc=>if c=4 then F else λ_=>none
theorem sL{P:Program}{w:World}{K:PySem.W.Frag}{mg:Str->Option Value}{base:Heap}{κ:Kl}{fr:Bool}{m:Str}{k:Nat}{ps:List Str}{f:Addr}{fd:FuncData}{F:List PV->Option PV}(hc:v9 K (κ.adr 4))(hf:κ.fld=oN)(hm:Meth K (κ.adr 4) m f)(FO:aK P w K mg base cX k f fd ps (hR K κ fr F))(hb:Binds K fd ps [])(hn:m∉oN 4:=by decide):ik P w K mg base κ fr m k ps (sJ F):=λc xs p e=>by
 unfold sJ at e
 split at e
 ·rename_i h
  subst h
  exact⟨f,fd,hc,hm,by rw[hf];exact hn,by unfold sJ;rw[if_pos rfl];exact FO,hb⟩
 ·cases e
def Ei:PV->PV->Option PV
 |.int i,.int j=>some (.int (i+j))
 |_,_=>none
section
variable{X:Cx}{κ:Kl}{fr:Bool}{pos:Pos}{a e:Expr}{fa f:Den}
theorem AF(i:Nat){x:Str}{p':Pos}(hN:X.N.Nodup)(he:DB X κ e f)(hi:X.N[i]?=some x:=by rfl)(hx:Loc X.env.scope x:=by first|exact Or.inl rfl|exact Or.inr rfl)
  (hf:X.fn x=true\/X.env.scope.names.lookup x=some .local:=by first|exact .inl rfl|exact .inr rfl):DS X κ fr (.AugAssign (.Name x p') .Add e pos) (b9 i (ae Ei (dV i) f)):=by
 obtain⟨te,h1,h2⟩:=he
 refine⟨_,Of hN hi hx h1 KW hf,λ{G A bo own ρ σ H fl D} r e k=>?_⟩
 obtain⟨p,e1,rfl⟩:=Zu.mp e
 obtain⟨p1,e2,e3⟩:=Zt.mp e1
 obtain⟨p2,e4,e5⟩:=Zt.mp e3
 unfold dV at e2
 obtain⟨s,e6,e7⟩:=Zt.mp e2
 cases p1<;>first|(cases e5;done)|skip
 cases p2<;>first|(cases e5;done)|skip
 cases e5
 cases s with
 |un=>cases e7
 |own l=>cases l<;>cases e7
 |bw l=>cases e7
 |sh p'=>
  cases e7
  obtain⟨v,h3,h4⟩:=r.sh i _ e6
  cases h4
  refine⟨_,h3,h2 r e4 λv2 H1 s1 z1=>?_⟩
  exact⟨_,_,rfl,z1.int,k _ _ _ ((r.mono s1).set (.int _))⟩
end
end L2.D
namespace L2.D.Rq
open PySem
def mE:List (Str×Int):=[("all(",1),("any(",1),("1 of (",1),("2 of (",2),("3 of (",3),("4 of (",4),("5 of (",5),("6 of (",6),("7 of (",7),("8 of (",8)]
def kF:List PV:=[.str "all(",.str "any(",.str "1 of (",.str "2 of (",.str "3 of (",.str "4 of (",.str "5 of (",.str "6 of (",.str "7 of (",.str "8 of ("]
def jS:bE:=(ba (b9 2 (dC (.int 0))) (ba (ye (D8 (bZ 0) (bZ 1)) (rS (dF 3) (dF 4)) (ba (lu (tV (ae tO (dV 3) (dV 4))) uJ dP) (b9 2 (ae Ei (dV 2) (dC (.int 1)))))) (dh (bZ 2))))
def cU:List PV->Option PV:=fn false 5 2 jS
def vf:Den:=bU (kQ oN "signs") (dV 0)
def mI:Den:=bU (kQ oN "at") (dV 0)
def AG:Den:=bU (kQ oN "words") (dV 0)
def yv:bE:=dh (ae gM (eX vf (aX mI) (aX (ae aW mI (dC (.int 1))))) (dV 1))
def hU:List PV->Option PV:=fn false 2 2 yv
def mX:dY:=fK (vb 1 (eX vf (aX mI) cD)) (fK (vb 2 (bU oK (eI (nList AG) eY (bP cU (ah (bZ 2) (ah (bZ 0) aO)))))) (fK (Ce (bZ 2)) (fK (Az (tV (ae uH (eX (dV 1) cD (aX (dV 2))) AG)) iX kR) (AA (eX (dV 1) cD (aX (dV 2)))))))
def dZ:FQ:=tY false 3 1 mX
def mY:dY:=fK (Az (vZ (tV (jA (sJ hU) (bZ 0) (ah (bZ 1) aO)))) iX kR) (Ce (dC (.int 1)))
def cH:FQ:=tY false 2 2 mY
def ia:bE:=(ba (lu (tV (ae gM (dV 0) (dC (.str "all(")))) (dh (bU Ai (dV 1))) dP) (ba (lu (tV (ae gM (dV 0) (dC (.str "any(")))) (dh (bU Aj (dV 1))) dP) (dh (ae pq (bU (uY mE) (dV 0)) (dV 1)))))
def bQ:List PV->Option PV:=fn false 2 2 ia
def kg:de:=xO (tV (ae yc (bU cL (dV 2)) (dV 1))) (vZ (tV (jA (sJ hU) (bZ 0) (ah (dC (.str ")")) aO))))
def jT(FT:FQ):dY:=fK (Az (tV (ae gM (bU cL (dV 2)) (dC (.int 8)))) iX kR) (fK (mD (fP cH (ah (dC (.str ",")) aO))) (fK (mD (fP cH (ah (dC (.str " ")) aO))) (Cf 2 (fP FT aO))))
def dq(FT:FQ):dY:=fK (pC 2 (fP FT aO)) (fK (iY kg (jT FT) 10) (fK (mD (fP cH (ah (dC (.str ")")) aO))) (xm 2)))
def jf(FP:FQ):dY:=fK (sI 1 (fP dZ aO)) (fK (Az (tV (bU (qG mE) (dV 1))) (xk (bU Ah (dV 1))) kR) (vd bQ (bZ 1) (fP FP (ah (bU (uY mE) (dV 1)) aO))))
def bF:Nat->FQ
 |0=>λ_ _ _=>none
 |n+1=>tY false 2 1 (jf (tY true 3 2 (dq (bF n))))
def pE:dY:=Az (tV (ae yc mI (bU cL vf))) iX kR
def fz:FQ:=tY false 1 1 pE
def mZ:List PV->Option Rg:=xq 3 3 (ae aW (bU wR (dV 1)) (dC (.lst kF))) (bZ 2)
def Cg:Den:=IA 2 3 mZ (bF 24) fz (ah (bZ 0) (ah (bZ 1) aO))
def il:List PV->Option PV:=λqs=>if qs.length=2 then Cg (ig 4 qs)else none
end L2.D.Rq
namespace L2.D.Rq
def gG:List Nat->List Nat->Nat
 |a::x,b::y=>if a=b then gG x y+1 else 0
 |_,_=>0
theorem yw:∀(w post:List Nat),gG (w++post) w=w.length
 |[],post=>by cases post<;>rfl
 |a::w,post=>by
  show(if a=a then gG (w++post) w+1 else 0)=_
  rw[if_pos rfl,yw w post,Wk]
theorem IC:∀{w post v:List Nat},(∀c p v',post=c::p->v≠w++c::v')->gG (w++post) v<=w.length
 |[],[],v,_=>by
  cases v<;>exact U5 _
 |[],c::p,[],_=>U5 _
 |[],c::p,b::v,h=>by
  show(if c=b then gG p v+1 else 0)<=0
  rw[if_neg λe=>h c p v rfl (by rw[e];rfl)]
  exact U5 _
 |a::w,post,[],_=>z0S _
 |a::w,post,b::v,h=>by
  show(if a=b then gG (w++post) v+1 else 0)<=_
  split
  ·rename_i e
   have:=IC (w:=w) (post:=post) (v:=v) λc p v' e1 e2=>h c p v' e1 (by rw[e2,e];rfl)
   rw[Wk]
   omega
  ·exact z0S _
theorem Ej:∀(x v:List Nat),gG x v<=v.length/\gG x v<=x.length
 |[],v=>by cases v<;>simp[gG]
 |a::x,[]=>by simp[gG]
 |a::x,b::v=>by
  show(if a=b then gG x v+1 else 0)<=_/\(if a=b then gG x v+1 else 0)<=_
  have:=Ej x v
  split<;>simp<;>omega
theorem AH:∀(x v:List Nat),x.take (gG x v)=v.take (gG x v)
 |[],v=>by cases v<;>simp[gG]
 |a::x,[]=>by simp[gG]
 |a::x,b::v=>by
  show(a::x).take (if a=b then gG x v+1 else 0)=(b::v).take (if a=b then gG x v+1 else 0)
  split
  ·rename_i e
   rw[List.take_succ_cons,List.take_succ_cons,AH x v,e]
  ·rfl
theorem ID{x v:List Nat}(h:gG x v=v.length):∃post,x=v++post:=by
 have:=AH x v
 rw[h,z02]at this
 refine⟨x.drop v.length,?_⟩
 have h2:=z1f v.length x
 rw[this]at h2
 exact h2.symm
def AI(c:Nat):Prop:=97<=c/\c<=122
instance(c:Nat):Decidable (AI c):=inferInstanceAs (Decidable (_/\_))
def AJ(v post:List Nat):Prop:=v.getLast?=some 40\/∀c p,post=c::p->¬AI c
structure Wd(names ops:List (List Nat)):Prop where
 ne:∀v∈names,v≠[]
 let_:∀v∈names,∀c∈v,AI c
 op:∀v∈ops,∃u,v=u++[40]/\40∉u
 one:∀v∈ops,∀w∈ops,∀u,v=w++u->u=[]
 non:∀v∈ops,∀w∈names,∀u,v=w++u->(∀c p,u=c::p->¬AI c)->False
variable{names ops:List (List Nat)}
theorem Wd.Vi(W:Wd names ops){v:List Nat}(h:v∈names):40∉v:=λz=>by
 have:=W.let_ v h 40 z
 unfold AI at this
 omega
theorem Wd.last(W:Wd names ops){v:List Nat}(h:v∈ops):v.getLast?=some 40:=by
 obtain⟨u,rfl,_⟩:=W.op v h
 simp
theorem Wd.Ek(W:Wd names ops){v:List Nat}(h:v∈names):v.getLast?≠some 40:=λz=>W.Vi h (List.mem_of_getLast? z)
theorem Wd.best(W:Wd names ops){v w post:List Nat}(hv:v∈names++ops)(hw:w∈names++ops)(he:AJ v post):gG (v++post) w<=v.length:=by
 refine IC λc p w' e1 e2=>?_
 rcases z0L.mp hv with hv|hv
 ·
  have nl:¬AI c:=by
   rcases he with he|he
   ·exact absurd he (W.Ek hv)
   ·exact he c p e1
  rcases z0L.mp hw with hw|hw
  ·exact nl (W.let_ w hw c (by rw[e2];simp))
  ·exact W.non w hw v hv (c::w') e2 λd q e=>by cases e;exact nl
 ·
  rcases z0L.mp hw with hw|hw
  ·obtain⟨u,rfl,_⟩:=W.op v hv
   exact W.Vi hw (by rw[e2];simp)
  ·have:=W.one w hw v hv (c::w') e2
   cases this
theorem Wd.PZ(W:Wd names ops){x v:List Nat}{m:Nat}(hm:∀w∈names++ops,gG x w<=m)(hx:m<=x.length)(hv:v∈names++ops)(e:x.take m=v)(no:∀w∈names++ops,∀post,x=w++post->¬AJ w post):
  v∈names/\v.length=m/\∃c p,x.drop m=c::p/\AI c:=by
 have hl:v.length=m:=by rw[<-e,z0a];omega
 have ex:x=v++x.drop m:=by rw[<-e];simp
 have n:=no v hv _ ex
 unfold AJ at n
 rcases z0L.mp hv with hv|hv
 ·refine⟨hv,hl,?_⟩
  cases hd:x.drop m with
  |nil=>
   refine absurd (Or.inr λc p z=>?_) n
   rw[hd]at z
   cases z
  |cons c p=>
   refine⟨c,p,rfl,z0W λnl=>n (.inr λc' p' z=>?_)⟩
   rw[hd]at z
   cases z
   exact nl
 ·exact absurd (.inl (W.last hv)) n
end L2.D.Rq
namespace L2.D.Rq
structure Sy(τ:Type) where
 x:List Nat
 names:List (List Nat)
 ops:List (List Nat)
 few:List Nat->Option Nat
 fl:List Nat->Int
 hand:List Nat->τ
 cnt:List Nat->List τ->τ
section
variable{τ:Type}(S:Sy τ)
def Sy.ws:List (List Nat):=S.names++S.ops
def Sy.M(n:Nat):Nat:=(S.ws.map (gG (S.x.drop n))).foldr max 0
def Sy.word(n:Nat):Nat×Option (List Nat):=(n+S.M n,if(S.x.drop n).take (S.M n)∈S.ws then some ((S.x.drop n).take (S.M n))else none)
def Sy.parts(rd:Nat->Option (Nat×Option τ))(f:Nat):Nat->List τ->Nat->Option (Nat×Option (List τ))
 |0,_,_=>none
 |j+1,fJ,n=>if fJ.length<f\/S.x[n]?≠some 41 then
   if fJ.length=8 then some (n,none)
   else if S.x[n]?≠some 44 then some (n,none)
   else if S.x[n+1]?≠some 32 then some (n+1,none)
   else match rd (n+2)with
    |none=>none
    |some (n',none)=>some (n',none)
    |some (n',some t)=>Sy.parts rd f j (fJ++[t]) n'
  else some (n+1,some fJ)
def Sy.rule:Nat->Nat->Option (Nat×Option τ)
 |0,_=>none
 |m+1,n=>match S.word n with
  |(n',none)=>some (n',none)
  |(n',some w)=>match S.few w with
   |none=>some (n',some (S.hand w))
   |some f=>match Sy.rule m n' with
    |none=>none
    |some (n1,none)=>some (n1,none)
    |some (n1,some t)=>match S.parts (Sy.rule m) f 10 [t] n1 with
     |none=>none
     |some (n2,none)=>some (n2,none)
     |some (n2,some ts)=>some (n2,some (S.cnt w ts))
abbrev Pile:=List (Int×Int)
def Sy.oG:Nat->Pile->(Nat×Nat)×Pile
 |n,[]=>((n,if n=S.x.length then 2 else 1),[])
 |n,(f,c)::p=>if S.x[n]?=some 44/\c+1<8 then(if S.x[n+1]?=some 32 then((n+2,0),(f,c+1)::p)else((n+1,1),(f,c+1)::p))
  else if S.x[n]?≠some 41\/c+1<f then((n,1),(f,c+1)::p)else Sy.oG (n+1) p
def Sy.scan(tok:Nat->Nat×Option (List Nat)):Nat->Nat->Pile->Option (Option Nat)
 |0,_,_=>none
 |k+1,n,p=>match tok n with
  |(b,none)=>some (some (n+b))
  |(_,some w)=>if w.getLast?=some 40 then Sy.scan tok k (n+w.length) ((S.fl w,0)::p)else match S.oG (n+w.length) p with
   |((a,1),_)=>some (some a)
   |((_,2),_)=>some none
   |((a,_),p')=>Sy.scan tok k a p'
structure AK(tok:Nat->Nat×Option (List Nat)):Prop where
 b:∀n,n<=S.x.length->(tok n).1=S.M n
 y:∀n w,n<=S.x.length->(tok n).2=some w->w∈S.ws/\∃post,S.x.drop n=w++post/\AJ w post
 n:∀n,n<=S.x.length->(tok n).2=none->∀w∈S.ws,∀post,S.x.drop n=w++post->¬AJ w post
def iC(l:List Nat):Int:=(l.count 40:Nat)-(l.count 41:Nat)
theorem j6(a b:List Nat):iC (a++b)=iC a+iC b:=by
 unfold iC
 rw[List.count_append,List.count_append]
 omega
structure WX(g:Nat->List Nat->τ->Prop):Prop where
 W:Wd S.names S.ops
 fn:∀v∈S.names,S.few v=none
 fo:∀v∈S.ops,∃f,S.few v=some f/\∀c:Nat,((c:Int)+1<S.fl v↔c+1<f)
 oc:∀v∈S.ops,iC v=1
 hand:∀v∈S.names,g 0 v (S.hand v)
 cnt:∀v∈S.ops,∀f,S.few v=some f->∀d (t:List Nat) (r:τ) (ts:List (List Nat×τ)),ts.length+1<=8->f<=ts.length+1->g d t r->(∀q∈ts,g d q.1 q.2)->g (d+1) (v++(t++(ts.flatMap (λq:List Nat×τ=>44::32::q.1)++[41]))) (S.cnt v (r::ts.map (·.2)))
end
section
variable{τ:Type}{S:Sy τ}
theorem L6{n:Nat}{w:List Nat}(h:w∈S.ws):gG (S.x.drop n) w<=S.M n:=by
 unfold Sy.M
 revert h
 generalize S.ws=l
 intro h
 induction l with
 |nil=>cases h
 |cons a l ih=>
  rw[z0Q,List.foldr_cons]
  rcases z0N.mp h with rfl|h
  ·exact Nat.le_max_left _ _
  ·exact z0T (ih h) (Nat.le_max_right _ _)
theorem L7{n m:Nat}(h:∀w∈S.ws,gG (S.x.drop n) w<=m):S.M n<=m:=by
 unfold Sy.M
 revert h
 generalize S.ws=l
 intro h
 induction l with
 |nil=>exact z0S _
 |cons a l ih=>
  rw[z0Q,List.foldr_cons]
  exact Nat.max_le.mpr ⟨h a (RF ..),ih λw hw=>h w (X5 _ hw)⟩
theorem IE(n:Nat):S.M n<=(S.x.drop n).length:=L7 λw _=>(Ej _ _).2
theorem L8(W:Wd S.names S.ops){n:Nat}{w post:List Nat}(hw:w∈S.ws)(e:S.x.drop n=w++post)(he:AJ w post):S.M n=w.length/\S.word n=(n+w.length,some w):=by
 have hM:S.M n=w.length:=by
  refine z1y (L7 λv hv=>?_) ?_
  ·rw[e]
   exact W.best hw hv he
  ·have:=L6 (n:=n) hw
   rw[e,yw]at this
   exact this
 refine⟨hM,?_⟩
 have ht:(S.x.drop n).take w.length=w:=by rw[e];simp
 unfold Sy.word
 rw[hM,ht,if_pos hw]
theorem L9(W:Wd S.names S.ops){n:Nat}(no:∀w∈S.ws,∀post,S.x.drop n=w++post->¬AJ w post):
  S.word n=(n+S.M n,none)\/∃v∈S.names,S.word n=(n+S.M n,some v)/\v.length=S.M n/\(∃post,S.x.drop n=v++post)/\∃c p,S.x.drop (n+S.M n)=c::p/\AI c:=by
 by_cases h:(S.x.drop n).take (S.M n)∈S.ws
 ·obtain⟨h1,h2,c,p,h3,h4⟩:=W.PZ (λw hw=>L6 hw) (IE n) h rfl no
  refine .inr ⟨_,h1,?_,h2,⟨(S.x.drop n).drop (S.M n),(z1f _ _).symm⟩,c,p,by rw[<-z1k];exact h3,h4⟩
  unfold Sy.word
  rw[if_pos h]
 ·refine .inl ?_
  unfold Sy.word
  rw[if_neg h]
variable{tok:Nat->Nat×Option (List Nat)}
def SV(S:Sy τ)(tok:Nat->Nat×Option (List Nat))(n:Nat)(p:Pile)(r:Option Nat):Prop:=∀k,S.x.length+1-n<=k->n<=S.x.length->S.scan tok k n p=some r
def AV(S:Sy τ)(tok:Nat->Nat×Option (List Nat))(n:Nat)(p:Pile)(r:Option Nat):Prop:=match S.oG n p with
 |((a,1),_)=>r=some a
 |((_,2),_)=>r=none
 |((a,_),p')=>a<=S.x.length->SV S tok a p' r
theorem AL{x:List Nat}{n c:Nat}{p:List Nat}(h:x.drop n=c::p):x[n]?=some c:=by
 have:=List.getElem?_drop (xs:=x) (i:=n) (j:=0)
 rw[h]at this
 simpa using this.symm
theorem qM{x:List Nat}{n c:Nat}(h:x[n]?=some c):x.drop n=c::x.drop (n+1):=by
 obtain⟨h1,h2⟩:=z0C.mp h
 rw[z1B h1,h2]
theorem take_drop{x w post:List Nat}{n:Nat}(hn:n<=x.length)(h:x.drop n=w++post):x.take (n+w.length)=x.take n++w/\n+w.length<=x.length:=by
 have hl:=congrArg List.length h
 rw[z0d,z0E]at hl
 refine⟨?_,by omega⟩
 rw[z16,h]
 simp
theorem Ci{n c:Nat}{q:List Nat}(h:S.x.drop n=c::q)(hc:AI c)(p:Pile):(S.oG n p).1=(n,1):=by
 have hg:=AL h
 have hl:=congrArg List.length h
 rw[z0d,Wk]at hl
 unfold AI at hc
 cases p with
 |nil=>
  show(n,if n=S.x.length then 2 else 1)=_
  rw[if_neg (by omega)]
 |cons a p=>
  obtain⟨f,d⟩:=a
  unfold Sy.oG
  rw[hg,if_neg (λz=>by have:=z0O z.1;omega),if_pos (.inl λz=>by have:=z0O z;omega)]
theorem AV.ua{n a:Nat}{p:Pile}{r:Option Nat}(h:(S.oG n p).1=(a,1))(hr:r=some a):AV S tok n p r:=by
 unfold AV
 rcases hb:S.oG n p with⟨⟨a',w⟩,p'⟩
 rw[hb]at h
 cases h
 exact hr
theorem vg{x:List Nat}{n c:Nat}(h:x[n]?=some c):n<x.length:=(z0C.mp h).1
theorem Cj:∀(p:Pile) {n a w:Nat} {p':Pile},S.oG n p=((a,w),p')->w≠1->w≠2->n<=a/\a<=S.x.length
 |[],n,a,w,p',h,h1,h2=>by
  have h:((n,if n=S.x.length then 2 else 1),[])=((a,w),p'):=h
  cases h
  split at h2
  ·exact absurd rfl h2
  ·rename_i Hh
   rw[if_neg Hh]at h1
   exact absurd rfl h1
 |(f,c)::p,n,a,w,p',h,h1,h2=>by
  unfold Sy.oG at h
  split at h
  ·rename_i hc
   split at h
   ·rename_i hd
    cases h
    have:=vg hd
    omega
   ·cases h
    exact absurd rfl h1
  ·split at h
   ·cases h
    exact absurd rfl h1
   ·have:=Cj p h h1 h2
    omega
theorem xr{n:Nat}{p:Pile}{r:Option Nat}{w:List Nat}(T:AK S tok)(hn:n<=S.x.length)(ht:(tok n).2=some w)(hw:0<w.length)
  (h:n+w.length<=S.x.length->if w.getLast?=some 40 then SV S tok (n+w.length) ((S.fl w,0)::p) r else AV S tok (n+w.length) p r):SV S tok n p r:=by
 intro k hk _
 obtain⟨_,post,e,_⟩:=T.y n w hn ht
 obtain⟨_,hl⟩:=take_drop hn e
 have h:=h hl
 cases k with
 |zero=>omega
 |succ k=>
  unfold Sy.scan
  rcases GW:tok n with⟨b,o⟩
  rw[GW]at ht
  dsimp only at ht
  subst ht
  dsimp only
  by_cases hq:w.getLast?=some 40
  ·rw[if_pos hq]at h⊢
   exact h k (by omega) hl
  ·rw[if_neg hq]at h⊢
   unfold AV at h
   split at h
   ·subst h
    rfl
   ·subst h
    rfl
   ·rename_i a' w' p' n1 n2 heq
    have ha:=Cj p heq n1 n2
    exact h ha.2 k (by omega) ha.2
theorem El{n:Nat}{p:Pile}(T:AK S tok)(hn:n<=S.x.length)(ht:(tok n).2=none):SV S tok n p (some (n+S.M n)):=by
 intro k hk _
 cases k with
 |zero=>omega
 |succ k=>
  unfold Sy.scan
  rcases GW:tok n with⟨b,o⟩
  rw[GW]at ht
  dsimp only at ht
  subst ht
  have:=T.b n hn
  rw[GW]at this
  dsimp only at this⊢
  rw[this]
def Out(S:Sy τ)(tok:Nat->Nat×Option (List Nat))(g:Nat->List Nat->τ->Prop)(d n:Nat)(r:Nat×Option τ):Prop:=match r with
 |(e,none)=>∀p,SV S tok n p (some e)
 |(n',some t)=>n'<=S.x.length/\iC (S.x.take n')=iC (S.x.take n)/\(∃y,S.x.drop n=y++S.x.drop n'/\n'=n+y.length/\g d y t)/\∀p o,AV S tok n' p o->SV S tok n p o
def WY(S:Sy τ)(tok:Nat->Nat×Option (List Nat))(g:Nat->List Nat->τ->Prop)(d n:Nat)(f':Int)(fJ:List τ)(f:Nat)(r:Nat×Option (List τ)):Prop:=match r with
 |(e,none)=>∀p,AV S tok n ((f',(fJ.length:Int)-1)::p) (some e)
 |(n',some l)=>n'<=S.x.length/\iC (S.x.take n')=iC (S.x.take n)-1/\(∃ts:List (List Nat×τ),l=fJ++ts.map (·.2)/\l.length<=8/\f<=l.length/\(∀q∈ts,g d q.1 q.2)/\S.x.drop n=(ts.flatMap (λq:List Nat×τ=>44::32::q.1)++[41])++S.x.drop n'/\n'=n+(ts.flatMap (λq:List Nat×τ=>44::32::q.1)++[41]).length)/\∀p o,AV S tok n' p o->AV S tok n ((f',(fJ.length:Int)-1)::p) o
theorem AM{x w:List Nat}{n:Nat}{post:List Nat}(hn:n<=x.length)(h:x.drop n=w++post):iC (x.take (n+w.length))=iC (x.take n)+iC w:=by
 rw[(take_drop hn h).1,j6]
theorem xt{g:Nat->List Nat->τ->Prop}{d f:Nat}{f':Int}(hf:∀c:Nat,((c:Int)+1<f'↔c+1<f)){rd:Nat->Option (Nat×Option τ)}{b0:Int}
  (ih:∀n,n<=S.x.length->iC (S.x.take n)=b0->∃r,rd n=some r/\Out S tok g d n r):
  ∀(j:Nat) (fJ:List τ) (n:Nat),1<=fJ.length->fJ.length<=8->9<=j+fJ.length->n<=S.x.length->iC (S.x.take n)=b0->∃r,S.parts rd f j fJ n=some r/\WY S tok g d n f' fJ f r
 |0,fJ,n,h1,h8,hj,hn,hb=>by omega
 |j+1,fJ,n,h1,h8,hj,hn,hb=>by
  have hc:((fJ.length:Int)-1+1<f')↔fJ.length<f:=by
   have:=hf (fJ.length-1)
   rw[show((fJ.length-1:Nat):Int)=(fJ.length:Int)-1 by omega,show fJ.length-1+1=fJ.length by omega]at this
   exact this
  have YG:(fJ.length:Int)-1+1<8↔fJ.length<8:=by omega
  unfold Sy.parts
  by_cases hgo:fJ.length<f\/S.x[n]?≠some 41
  ·rw[if_pos hgo]
   have fail:(¬(S.x[n]?=some 44/\fJ.length<8))->∀p,(S.oG n ((f',(fJ.length:Int)-1)::p)).1=(n,1):=λK5 p=>by
    unfold Sy.oG
    rw[if_neg (λz=>K5 ⟨z.1,YG.mp z.2⟩),if_pos (hgo.elim (λz=>.inr (hc.mpr z)) .inl)]
   by_cases h9:fJ.length=8
   ·rw[if_pos h9]
    exact⟨_,rfl,λp=>AV.ua (fail (λz=>by omega) p) rfl⟩
   rw[if_neg h9]
   by_cases Ck:S.x[n]?≠some 44
   ·rw[if_pos Ck]
    exact⟨_,rfl,λp=>AV.ua (fail (λz=>Ck z.1) p) rfl⟩
   rw[if_neg Ck]
   have Ck:S.x[n]?=some 44:=z0W Ck
   have go:∀p,S.oG n ((f',(fJ.length:Int)-1)::p)=if S.x[n+1]?=some 32 then((n+2,0),(f',(fJ.length:Int)-1+1)::p)else((n+1,1),(f',(fJ.length:Int)-1+1)::p):=λp=>by
    rw[Sy.oG,if_pos ⟨Ck,YG.mpr (by omega)⟩]
   by_cases xu:S.x[n+1]?≠some 32
   ·rw[if_pos xu]
    exact⟨_,rfl,λp=>AV.ua (a:=n+1) (by rw[go p,if_neg xu]) rfl⟩
   rw[if_neg xu]
   have xu:S.x[n+1]?=some 32:=z0W xu
   have d1:S.x.drop n=[44,32]++S.x.drop (n+2):=by rw[qM Ck,qM xu];rfl
   obtain⟨_,hl⟩:=take_drop hn d1
   have TN:iC (S.x.take (n+2))=b0:=by
    have:=AM hn d1
    rw[hb]at this
    refine this.trans ?_
    show b0+iC [44,32]=b0
    have:iC [44,32]=0:=by decide
    omega
   have gv:∀p o,SV S tok (n+2) ((f',(fJ.length:Int))::p) o->AV S tok n ((f',(fJ.length:Int)-1)::p) o:=λp o h=>by
    unfold AV
    rw[go p,if_pos xu]
    show n+2<=S.x.length->_
    intro _
    rw[show(fJ.length:Int)-1+1=fJ.length by omega]
    exact h
   obtain⟨⟨n',o⟩,e1,e2⟩:=ih (n+2) hl TN
   rw[e1]
   cases o with
   |none=>
    exact⟨_,rfl,λp=>gv p _ (e2 _)⟩
   |some t=>
    obtain⟨k1,k2,⟨y,k3,k4,k5⟩,k6⟩:=e2
    obtain⟨r,r1,r2⟩:=xt hf ih j (fJ++[t]) n' (by simp) (by rw[z0E];simp;omega) (by rw[z0E];simp;omega) k1 (k2.trans TN)
    refine⟨r,r1,?_⟩
    obtain⟨e,o⟩:=r
    have mH:((fJ++[t]).length:Int)-1=fJ.length:=by rw[z0E];simp
    cases o with
    |none=>
     intro p
     have:=r2 p
     rw[mH]at this
     exact gv p _ (k6 _ _ this)
    |some l=>
     obtain⟨q1,q2,⟨ts,q3,q4,q5,q6,q7,q8⟩,q9⟩:=r2
     refine⟨q1,by rw[q2,k2,TN,hb],⟨(y,t)::ts,by rw[q3];simp,q4,q5,λq hq=>?_,?_,?_⟩,λp o h=>?_⟩
     ·rcases z0N.mp hq with rfl|hq
      ·exact k5
      ·exact q6 q hq
     ·rw[d1,k3,q7]
      simp
     ·rw[q8,k4]
      simp
      omega
     ·have:=q9 p o h
      rw[mH]at this
      exact gv p _ (k6 _ _ this)
  ·rw[if_neg hgo]
   have Nn:S.x[n]?=some 41:=z0W λz=>hgo (.inr z)
   have hnf:¬fJ.length<f:=λz=>hgo (.inl z)
   have d1:S.x.drop n=[41]++S.x.drop (n+1):=by rw[qM Nn];rfl
   obtain⟨_,hl⟩:=take_drop hn d1
   refine⟨_,rfl,hl,?_,⟨[],by simp,h8,by omega,(λq hq=>by cases hq),d1,rfl⟩,λp o h=>?_⟩
   ·have:=AM hn d1
    refine this.trans ?_
    show iC (S.x.take n)+iC [41]=iC (S.x.take n)-1
    have:iC [41]=-1:=by decide
    omega
   ·unfold AV at h⊢
    rw[show S.oG n ((f',(fJ.length:Int)-1)::p)=S.oG (n+1) p by
     rw[Sy.oG,if_neg (λz=>by rw[Nn]at z;cases z.1),if_neg (λz=>z.elim (λy=>y Nn) λy=>hnf (hc.mp y))]]
    exact h
theorem AN{g:Nat->List Nat->τ->Prop}(O:WX S g)(T:AK S tok)(gm:∀d d' t r,d<=d'->g d t r->g d' t r)(L:Nat)(hL:∀k,iC (S.x.take k)<=L):
  ∀(m n:Nat),n<=S.x.length->(L:Int)+2<=m+iC (S.x.take n)->∃r,S.rule m n=some r/\Out S tok g (m-1) n r
 |0,n,hn,hm=>by have:=hL n;omega
 |m+1,n,hn,hm=>by
  have w0:∀w∈S.ws,0<w.length:=λw hw=>by
   rcases z0L.mp hw with hw|hw
   ·exact List.length_pos_iff.mpr (O.W.ne w hw)
   ·obtain⟨u,rfl,_⟩:=O.W.op w hw
    simp
  cases ht:(tok n).2 with
  |none=>
   rcases L9 O.W (T.n n hn ht)with hw|⟨v,hv,hw,YH,⟨post,hp⟩,c,q,YI,U1⟩
   ·refine⟨(n+S.M n,none),by unfold Sy.rule;rw[hw],λp=>El T hn ht⟩
   ·refine⟨(n+S.M n,some (S.hand v)),by unfold Sy.rule;rw[hw];dsimp only;rw[O.fn v hv],?_⟩
    rw[<-YH]at YI⊢
    obtain⟨a1,a2⟩:=take_drop hn hp
    have hd:S.x.drop (n+v.length)=post:=by rw[<-z1k,hp];simp
    refine⟨a2,?_,⟨v,by rw[hd];exact hp,rfl,gm 0 _ _ _ (z0S _) (O.hand v hv)⟩,λp o h=>?_⟩
    ·rw[a1,j6]
     have:iC v=0:=by
      unfold iC
      rw[z0z.mpr (O.W.Vi hv),z0z.mpr λz=>by have:=O.W.let_ v hv 41 z;unfold AI at this;omega]
      rfl
     omega
    ·have:=Ci YI U1 p
     unfold AV at h
     rcases hb:S.oG (n+v.length) p with⟨⟨a',w'⟩,p'⟩
     rw[hb]at this h
     cases this
     have h:o=some (n+v.length):=h
     rw[h,YH]
     exact El T hn ht
  |some w=>
   obtain⟨hw,post,hp,he⟩:=T.y n w hn ht
   obtain⟨hM,Vj⟩:=L8 O.W hw hp he
   obtain⟨a1,a2⟩:=take_drop hn hp
   have hd:S.x.drop (n+w.length)=post:=by rw[<-z1k,hp];simp
   have RI:S.x.drop n=w++S.x.drop (n+w.length):=by rw[hd];exact hp
   rcases z0L.mp hw with hv|hv
   ·refine⟨(n+w.length,some (S.hand w)),by unfold Sy.rule;rw[Vj];dsimp only;rw[O.fn w hv],a2,?_,⟨w,RI,rfl,gm 0 _ _ _ (z0S _) (O.hand w hv)⟩,λp o h=>?_⟩
    ·rw[a1,j6]
     have:iC w=0:=by
      unfold iC
      rw[z0z.mpr (O.W.Vi hv),z0z.mpr λz=>by have:=O.W.let_ w hv 41 z;unfold AI at this;omega]
      rfl
     omega
    ·refine xr T hn ht (w0 w hw) λ_=>?_
     rw[if_neg (O.W.Ek hv)]
     exact h
   ·obtain⟨f,hf,hff⟩:=O.fo w hv
    have TM:iC (S.x.take (n+w.length))=iC (S.x.take n)+1:=by rw[a1,j6,O.oc w hv]
    have IF:∀p o,SV S tok (n+w.length) ((S.fl w,0)::p) o->SV S tok n p o:=λp o h=>by
     refine xr T hn ht (w0 w hw) λ_=>?_
     rw[if_pos (O.W.last hv)]
     exact h
    have ih:=λn' h1 (h2:iC (S.x.take n')=iC (S.x.take n)+1)=>AN O T gm L hL m n' h1 (by rw[h2];push_cast at hm;omega)
    obtain⟨⟨n1,o1⟩,e1,e2⟩:=ih (n+w.length) a2 TM
    cases o1 with
    |none=>
     refine⟨(n1,none),by unfold Sy.rule;rw[Vj];dsimp only;rw[hf];dsimp only;rw[e1],λp=>IF p _ (e2 _)⟩
    |some t=>
     obtain⟨k1,k2,⟨y,k3,k4,k5⟩,k6⟩:=e2
     obtain⟨⟨n2,o2⟩,r1,r2⟩:=xt (tok:=tok) (d:=m-1) hff (rd:=S.rule m) (b0:=iC (S.x.take n)+1) (g:=g) (λn' h1 h2=>ih n' h1 h2) 10 [t] n1 (by simp) (by simp) (by simp) k1 (k2.trans TM)
     cases o2 with
     |none=>
      refine⟨(n2,none),by unfold Sy.rule;rw[Vj];dsimp only;rw[hf];dsimp only;rw[e1];dsimp only;rw[r1],λp=>IF p _ (k6 _ _ (r2 p))⟩
     |some l=>
      obtain⟨q1,q2,⟨ts,q3,q4,q5,q6,q7,q8⟩,q9⟩:=r2
      refine⟨(n2,some (S.cnt w l)),by unfold Sy.rule;rw[Vj];dsimp only;rw[hf];dsimp only;rw[e1];dsimp only;rw[r1],q1,by rw[q2,k2,TM];omega,⟨w++(y++(ts.flatMap (λq:List Nat×τ=>44::32::q.1)++[41])),?_,?_,?_⟩,λp o h=>IF p _ (k6 _ _ (q9 p o h))⟩
      ·rw[RI,k3,q7]
       simp
      ·rw[q8,k4]
       simp
       omega
      ·have m1:1<=m:=by
         cases m with
         |zero=>cases e1
         |succ m=>omega
       have hl:l=t::ts.map (·.2):=q3
       rw[hl]at q4 q5⊢
       have:=O.cnt w hv f hf (m-1) y t ts (by simpa using q4) (by simpa using q5) k5 q6
       rw[show m-1+1=m+1-1 by omega]at this
       exact this
theorem Ma{g:Nat->List Nat->τ->Prop}(O:WX S g)(T:AK S tok)(gm:∀d d' t r,d<=d'->g d t r->g d' t r)(L:Nat)(hL:∀k,iC (S.x.take k)<=L){m k:Nat}(hm:L+2<=m)(hk:S.x.length+1<=k):
  ∃r,S.rule m 0=some r/\match r with
   |(e,none)=>S.scan tok k 0 []=some (some e)
   |(n',some t)=>n'<=S.x.length/\(n'<S.x.length->S.scan tok k 0 []=some (some n'))/\(n'=S.x.length->S.scan tok k 0 []=some none/\g (m-1) S.x t):=by
 obtain⟨⟨n',o⟩,e1,e2⟩:=AN O T gm L hL m 0 (z0S _) (by
  have:iC (S.x.take 0)=0:=by rw[z1l];rfl
  rw[this]
  omega)
 refine⟨_,e1,?_⟩
 cases o with
 |none=>exact e2 [] k (by omega) (z0S _)
 |some t=>
  obtain⟨k1,_,⟨y,k3,k4,k5⟩,k6⟩:=e2
  refine⟨k1,λh=>k6 [] (some n') (AV.ua (a:=n') ?_ rfl) k (by omega) (z0S _),λh=>⟨k6 [] none ?_ k (by omega) (z0S _),?_⟩⟩
  ·show(n',if n'=S.x.length then 2 else 1)=_
   rw[if_neg (by omega)]
  ·unfold AV
   rw[show S.oG n' []=((n',if n'=S.x.length then 2 else 1),[])from rfl,if_pos h]
   rfl
  ·rw[z1P,h,z1v,z0Y]at k3
   rw[k3]
   exact k5
end
end L2.D.Rq
namespace L2.D.Sh
open PySem
def kh:bE:=(ba (lu (tV (ae yc (dV 1) (bU cL (dV 0)))) (dh (ae ie (dV 0) (dV 1))) dP) (dh (dC (.int 0))))
end L2.D.Sh
namespace L2.D
theorem WZ{n:Nat}(h:n<=100000):zV (n:Int)=true:=by
 unfold zV
 simp
 omega
end L2.D
namespace L2.D
open PySem
theorem xv:∀xs:List Int,uM (xs.map PV.int)=some xs
 |[]=>rfl
 |x::xs=>by
  rw[z0Q]
  unfold uM
  rw[xv xs]
  rfl
abbrev vh(l:List Nat):PV:=.lst (l.map λ(n:Nat)=>PV.int (n:Int))
theorem En(g:uL)(body:bE)(x:PV)(xs:List PV)(ρ:dO):forL g body (x::xs) ρ=(g x ρ).bind λρ1=>(body ρ1).bind λf=>match f with
 |.nx ρ'=>forL g body xs ρ'
 |.ct ρ'=>forL g body xs ρ'
 |.bk ρ'=>some (.nx ρ')
 |.rt p=>some (.rt p):=rfl
abbrev Fca:=fn false 2 2 Sh.kh
theorem AO{it:eF}{c:de}{e:Den}{ρ:dO}{xs zs:List PV}(h1:it ρ=some xs)(h2:xs.length<=sizeLine)(h3:jQ c e ρ xs=some zs):eI it c e ρ=some (.lst zs):=by
 unfold eI
 rw[h1]
 show(if xs.length<=sizeLine then _ else none)=_
 rw[if_pos h2,h3]
 rfl
theorem qN{it:eF}{g:uL}{body:bE}{ρ:dO}{xs:List PV}(h:it ρ=some xs):ye it g body ρ=forL g body xs ρ:=by
 unfold ye
 rw[h]
 rfl
theorem vi{a:Den}{ρ:dO}{l:List PV}(h:a ρ=some (.lst l)):nList a ρ=some l:=by
 unfold nList
 rw[h]
 rfl
theorem av{a b:bE}{ρ ρ':dO}(h:a ρ=some (.nx ρ')):ba a b ρ=b ρ':=by
 unfold ba
 rw[h]
 rfl
theorem j7{a b:bE}{ρ:dO}{p:PV}(h:a ρ=some (.rt p)):ba a b ρ=some (.rt p):=by
 unfold ba
 rw[h]
 rfl
theorem iV{t:de}{a b:bE}{ρ:dO}(h:t ρ=some true):lu t a b ρ=a ρ:=by
 unfold lu
 rw[h]
 rfl
theorem iD{t:de}{a b:bE}{ρ:dO}(h:t ρ=some false):lu t a b ρ=b ρ:=by
 unfold lu
 rw[h]
 rfl
theorem aP{i:Nat}{a:Den}{ρ:dO}{p:PV}(h:a ρ=some p):b9 i a ρ=some (.nx (ρ.set i (.sh p))):=by
 unfold b9
 rw[h]
 rfl
theorem m9{i:Nat}{a:Den}{ρ:dO}{l:List PV}(h:a ρ=some (.lst l)):qx i a ρ=some (.nx (ρ.set i (.ow l))):=by
 unfold qx
 rw[h]
 rfl
theorem dr{a:Den}{ρ:dO}{p:PV}(h:a ρ=some p):dh a ρ=some (.rt p):=by
 unfold dh
 rw[h]
 rfl
theorem bu{F:List PV->Option PV}{as:eF}{ρ:dO}{ps:List PV}(h:as ρ=some ps):bP F as ρ=F ps:=by
 unfold bP
 rw[h]
 rfl
theorem cq{a:Den}{ρ:dO}{b:Bool}(h:a ρ=some (.bl b)):tV a ρ=some b:=by
 unfold tV
 rw[h]
 rfl
theorem yx{t:de}{ρ:dO}{b:Bool}(h:t ρ=some b):vZ t ρ=some (!b):=by
 unfold vZ
 rw[h]
 rfl
theorem vj{a b:de}{ρ:dO}(h:a ρ=some false):xO a b ρ=b ρ:=by
 unfold xO
 rw[h]
 rfl
theorem IG{a b:de}{ρ:dO}(h:a ρ=some true):xO a b ρ=some true:=by
 unfold xO
 rw[h]
 rfl
theorem Cm{a b:de}{ρ:dO}(h:a ρ=some true):rH a b ρ=b ρ:=by
 unfold rH
 rw[h]
 rfl
theorem IH{a b:de}{ρ:dO}(h:a ρ=some false):rH a b ρ=some false:=by
 unfold rH
 rw[h]
 rfl
theorem af{g:PV->PV->Option PV}{a b:Den}{ρ:dO}{x y:PV}(h1:a ρ=some x)(h2:b ρ=some y):ae g a b ρ=g x y:=by
 unfold ae
 rw[h1]
 show(b ρ).bind _=_
 rw[h2]
 rfl
theorem cK{g:PV->Option PV}{a:Den}{ρ:dO}{x:PV}(h1:a ρ=some x):bU g a ρ=g x:=by
 unfold bU
 rw[h1]
 rfl
theorem II{a:Den}{ρ:dO}{j:Int}(h1:a ρ=some (.int j))(h2:zV j=true):mR a ρ=some (lq 0 j.toNat):=by
 unfold mR
 rw[h1]
 simp only[z1c,S0]
 rw[if_pos h2]
theorem Mb(i j:Int):gM (.int i) (.int j)=some (.bl (decide (i=j))):=rfl
theorem d0{fr:Bool}{n k:Nat}{body:bE}{ps:List PV}{p:PV}(h:ps.length=k)(e:body (ig n ps)=some (.rt p)):fn fr n k body ps=some p:=by
 unfold fn
 rw[if_pos h,e]
 rfl
theorem jD(ns:List Int)(k:Nat):Fca [.lst (ns.map PV.int),.int k]=some (.int (ns.getD k 0)):=by
 have t:tV (ae yc (dV 1) (bU cL (dV 0))) [.sh (.lst (ns.map PV.int)),.sh (.int k)]=some (decide (k<ns.length)):=by
  refine cq ((af (x:=.int k) (y:=.int ((ns.map PV.int).length:Nat)) rfl rfl).trans ?_)
  show some (PV.bl (decide ((k:Int)<(((ns.map PV.int).length:Nat):Int))))=_
  rw[X6]
  congr 2
  rw[decide_eq_decide]
  omega
 by_cases h:k<ns.length
 ·rw[decide_eq_true h]at t
  have e:itemAt (ns.map PV.int) (k:Int)=some (.int (ns.getD k 0)):=by simp[itemAt,Le,h]
  exact d0 rfl (j7 ((iV t).trans (dr ((af (x:=.lst (ns.map PV.int)) (y:=.int k) rfl rfl).trans e))))
 ·rw[decide_eq_false h]at t
  have h2:ns.getD k 0=0:=by
   rw[z0i,List.getElem?_eq_none (by omega)]
   rfl
  rw[h2]
  exact d0 rfl ((av ((iD t).trans rfl)).trans (dr rfl))
theorem ng{fr:Bool}{n k:Nat}{f:Den}{ps:List PV}{p:PV}(h:ps.length=k)(e:f (ig n ps)=some p):fn fr n k (dh f) ps=some p:=by
 unfold fn
 rw[if_pos h]
 unfold dh
 rw[e]
 rfl
abbrev pl(l:List Nat):List PV:=l.map λ(n:Nat)=>PV.int (n:Int)
theorem IJ(l:List Nat):uM (pl l)=some (l.map λ(n:Nat)=>(n:Int)):=by
 have:pl l=(l.map λ(n:Nat)=>(n:Int)).map PV.int:=by
  rw[z1I]
  rfl
 rw[this,xv]
theorem vk{α β:Type}(f:α->β)(l:List α)(lo hi:Option Int):jP (l.map f) lo hi=(jP l lo hi).map f:=by
 unfold jP
 rw[X6,<-z17,<-z18]
abbrev jr(ns:List Int):PV:=.lst (ns.map PV.int)
theorem ub(a b:Nat):gM (.int a) (.int b)=some (.bl (decide (a=b))):=by
 rw[Mb]
 congr 2
 rw[decide_eq_decide]
 omega
theorem cw(x:Int){n:Nat}(h:0<n):cJ (.int x) (.int n)=some (.int (((x %(n:Int)).toNat:Nat):Int)):=by
 show(if decide (0<(n:Int))then some (PV.int (x %(n:Int)))else none)=_
 rw[if_pos (decide_eq_true (by omega))]
 have:=z1N x (show(n:Int)≠0 by omega)
 congr 2
 omega
theorem mod_lt(x:Int){n:Nat}(h:0<n):(x %(n:Int)).toNat<n:=by
 have:=z00 x (show(0:Int)<n by omega)
 omega
theorem Co(n:Nat):lq 0 n=pl (List.range n):=by
 unfold lq
 refine List.map_congr_left λk _=>?_
 rw[Int.zero_add]
theorem vm{a:Den}{ρ:dO}{n:Nat}(h:a ρ=some (.int n))(hn:n<=100000):mR a ρ=some (pl (List.range n)):=by
 rw[II h (WZ hn),z0j,Co]
theorem AQ{t:de}{body:bE}{n:Nat}{ρ:dO}(h:t ρ=some false):gN t body (n+1) ρ=some (.nx ρ):=by
 unfold gN
 rw[h]
 rfl
theorem AR{t:de}{body:bE}{n:Nat}{ρ ρ':dO}(h:t ρ=some true)(hb:body ρ=some (.nx ρ')):gN t body (n+1) ρ=gN t body n ρ':=by
 conv=>lhs;unfold gN
 rw[h]
 show(body ρ).bind _=_
 rw[hb]
 rfl
theorem aA{a:Den}{as:eF}{ρ:dO}{x:PV}{xs:List PV}(h1:a ρ=some x)(h2:as ρ=some xs):ah a as ρ=some (x::xs):=by
 unfold ah
 rw[h1,h2]
 rfl
theorem Eo{as:eF}{ρ:dO}{xs:List PV}(h:as ρ=some xs)(hl:xs.length<=5000):oF as ρ=some (.lst xs):=by
 have zl:(5000:Nat)<=sizeLine:=by decide
 unfold oF
 rw[h]
 show(if xs.length<=sizeLine then some (PV.lst xs)else none)=_
 rw[if_pos (by omega)]
theorem cI(a b:Str):(a++b).length=a.length+b.length:=by
 show(a.cps++b.cps).size=_
 rw[z1s]
 rfl
theorem rV(a b c:Str):(a++b)++c=a++(b++c):=by
 show Str.mk ((a.cps++b.cps)++c.cps)=Str.mk (a.cps++(b.cps++c.cps))
 rw[z1m]
theorem Np{α β:Type}(f:α->Option β):∀l:List α,(l.filterMap f).length<=l.length
 |[]=>U5 _
 |x::l=>by
  have:=Np f l
  rw[z0m]
  split
  ·rw[Wk];omega
  ·rw[Wk,Wk];omega
theorem js(x:Str)(lo hi:Option Int){st:Int}(h0:st≠0):(bK x lo hi st).length<=x.length:=by
 unfold bK
 split
 ·exact U5 _
 ·show((Builtin.Str.strSliceIndices lo hi st x.length).filterMap (x.cps[·]?)).toArray.size<=_
  rw[X4]
  have h1:=Np (x.cps[·]?) (Builtin.Str.strSliceIndices lo hi st x.length)
  have h2:=sliceIndicesBy_le lo hi st h0 x.length
  omega
theorem IK{α β:Type}(f:α->Option β):∀l:List α,(∀x∈l,(f x).isSome=true)->(l.filterMap f).length=l.length
 |[],_=>rfl
 |x::l,h=>by
  have ih:=IK f l λy hy=>h y (X5 _ hy)
  obtain⟨z,hz⟩:=z1F.mp (h x (RF ..))
  rw[z0m,hz,Wk,Wk,ih]
theorem yz(x:Str)(n:Nat)(h:n<=x.length):(bK x none (some (n:Int)) 1).length=n:=by
 have e:Builtin.Str.strSliceIndices none (some (n:Int)) 1 x.length=(List.range n).map (0+·):=by
  have:=z0s 0 n
  rw[z1i]at this
  rw[<-this]
  unfold Builtin.Str.strSliceIndices
  simp only
  congr 1
  rw[if_pos (by decide),if_neg (by omega)]
  omega
 unfold bK
 rw[e]
 split
 ·rename_i hh
  rw[z0F,beq_iff_eq,beq_iff_eq,X6,z0u]at hh
  omega
 ·show(((List.range n).map (0+·)).filterMap (x.cps[·]?)).toArray.size=n
  rw[X4,IK,X6,z0u]
  intro i hi
  obtain⟨k,hk,rfl⟩:=z0R.mp hi
  have:=z0l.mp hk
  have hl:0+k<x.cps.size:=by
   have:x.cps.size=x.length:=rfl
   omega
  have VM:k<x.cps.size:=by omega
  simp[VM]
def oH:Str:= "abcdefghijklmnopqrstuvwxyz"
theorem IL:oH.length=26:=by decide+kernel
theorem Qa{x:Str}{i:Nat}(h:i<x.length)(hx:x.length<=5000):∃y:Str,y.length=1/\ie (.str x) (.int i)=some (.str y):=by
 have zl:(5000:Nat)<=sizeLine:=by decide
 have hl:i<x.cps.toList.length:=by
  rw[SR]
  exact h
 have:itemAt x.cps.toList (i:Int)=some (x.cps.toList[i]'hl):=by
  unfold itemAt Le
  rw[if_pos (by omega),if_pos (by omega)]
  show x.cps.toList[(i:Int).toNat]?=_
  rw[z0j,z0G hl]
 refine⟨⟨#[x.cps.toList[i]'hl]⟩,rfl,?_⟩
 show(if x.length<=sizeLine then(itemAt x.cps.toList (i:Int)).map (λc=>PV.str ⟨#[c]⟩)else none)=_
 rw[if_pos (by omega),this]
 rfl
theorem bC(a b:Str)(h:a.length+b.length<=100000):aW (.str a) (.str b)=some (.str (a++b)):=by
 have zl:(100000:Nat)<=sizeLine:=by decide
 show(if a.length+b.length<=sizeLine then some (PV.str (a++b))else none)=_
 rw[if_pos (by omega)]
theorem cV{A:Den}{lo hi:uI}{ρ:dO}{y:Str}{l h:Option Int}(hA:A ρ=some (.str y))(hl:lo ρ=some l)(hh:hi ρ=some h)(hy:y.length<=100000):eX A lo hi ρ=some (.str (bK y l h 1)):=by
 have zl:(100000:Nat)<=sizeLine:=by decide
 unfold eX
 rw[hA,hl,hh]
 show(if y.length<=sizeLine then some (PV.str (bK y l h 1))else none)=_
 rw[if_pos (by omega)]
theorem jL{a b:Int}(h1:-100000000000<=a)(h2:a<=100000000000):rR (.int a) (.int b)=some (.int (a*b)):=by
 have:zU a b=true:=by
  unfold zU
  rw[z0r,z0F]
  exact .inl ⟨decide_eq_true (by omega),decide_eq_true (by omega)⟩
 show(if zU a b then some (PV.int (a*b))else none)=_
 rw[if_pos this]
theorem nh(a:Int){n:Int}(h:0<n):cJ (.int a) (.int n)=some (.int (a % n)):=by
 show(if decide (0<n)then some (PV.int (a % n))else none)=_
 rw[if_pos (decide_eq_true h)]
def As(x:Str):Prop:=∀c∈x.cps.toList,c<128
theorem IM{x:Str}(h:As x):x.cps.all (·<128)=true:=by
 rw[<-Array.all_toList,z0M]
 exact λc hc=>decide_eq_true (h c hc)
theorem Qb{a b:Str}(ha:As a)(hb:As b):As (a++b):=λc hc=>by
 have e:(a++b).cps.toList=a.cps.toList++b.cps.toList:=z1J
 rw[e]at hc
 rcases z0L.mp hc with h|h
 ·exact ha c h
 ·exact hb c h
theorem Qc{x:Str}(h:As x)(lo hi:Option Int)(st:Int):As (bK x lo hi st):=by
 unfold bK
 split
 ·exact h
 ·intro c hc
  have hc:c∈(Builtin.Str.strSliceIndices lo hi st x.length).filterMap (x.cps[·]?):=hc
  obtain⟨i,_,e⟩:=z1M.mp hc
  exact h c (by rw[z1T];exact z15 e)
def Qd(x:Str):Bool:=x.cps.toList.all λc=>decide (c<128)
theorem qO{x:Str}(h:Qd x=true):As x:=λc hc=>of_decide_eq_true (z0M.mp h c hc)
def kept:List PV:=[.str "all",.str "any",.str "of"]
structure It where
 o:PV
 s:PV
 t:Str
 d:Nat
def It.p(i:It):PV:=.tup [i.o,i.s,.str i.t,.int (i.d:Nat)]
def wt(l:List It):Nat:=(l.map λi=>i.t.length+2).sum
theorem vn(l m:List It):wt (l++m)=wt l+wt m:=by
 unfold wt
 rw[z0b,List.sum_append]
theorem vo(i:It):wt [i]=i.t.length+2:=by
 unfold wt
 simp
theorem yA(i:It)(l:List It):wt (i::l)=i.t.length+2+wt l:=by
 unfold wt
 rw[z0Q,z1q]
theorem AS{α:Type}{e:Den}{ρ:dO}(v f:α->PV):∀(xs:List α),(∀x∈xs,e (.sh (v x)::ρ)=some (f x))->jQ eY e ρ (xs.map v)=some (xs.map f)
 |[],_=>rfl
 |x::xs,h=>by
  have ih:=AS v f xs λy hy=>h y (X5 _ hy)
  show((some true).bind λb=>if b then(e (.sh (v x)::ρ)).bind λz=>(jQ eY e ρ (xs.map v)).map (z::·)else jQ eY e ρ (xs.map v))=_
  rw[h x (RF ..),ih]
  rfl
theorem jg{α:Type}{it:eF}{e:Den}{ρ:dO}(v f:α->PV){xs:List α}(h1:it ρ=some (xs.map v))(h2:xs.length<=5000)(h3:∀x∈xs,e (.sh (v x)::ρ)=some (f x)):eI it eY e ρ=some (.lst (xs.map f)):=by
 have zl:(5000:Nat)<=sizeLine:=by decide
 exact AO h1 (by rw[X6];omega) (AS v f xs h3)
theorem xw:∀ts:List Str,wY (ts.map PV.str)=some ts
 |[]=>rfl
 |t::ts=>by
  show(wY (ts.map PV.str)).map (t::·)=_
  rw[xw ts]
  rfl
theorem joinOk_of(sep:Str)(ts:List Str)(h:(ts.map λt=>t.length+sep.length).sum<=100000):JoinOk sep ts=true:=by
 have zl:(100000:Nat)<=sizeLine:=by decide
 have key:∀(ts:List Str) (a:Nat),ts.foldl (λacc t=>acc+t.length+sep.length) a=a+(ts.map λt=>t.length+sep.length).sum:=by
  intro ts
  induction ts with
  |nil=>intro a;rfl
  |cons t ts ih=>
   intro a
   rw[z01,ih,z0Q,z1q]
   omega
 unfold JoinOk Builtin.Str.tooLong
 rw[List.foldl_toArray',key]
 ·simp
  omega
 ·rfl
theorem join_le(sep:Str):∀ts:List Str,(Txt.join sep ts).length<=(ts.map λt=>t.length+sep.length).sum
 |[]=>z0S _
 |t::ts=>by
  have key:∀(ts:List Str) (a:Array Nat),(ts.foldl (λacc (p:Str)=>acc++sep.cps++p.cps) a).size=a.size+(ts.map λt=>t.length+sep.length).sum:=by
   intro ts
   induction ts with
   |nil=>intro a;rfl
   |cons t ts ih=>
    intro a
    rw[z01,ih,z0Q,z1q,z1s,z1s]
    have:t.cps.size=t.length:=rfl
    have:sep.cps.size=sep.length:=rfl
    omega
  show(ts.foldl (λacc (p:Str)=>acc++sep.cps++p.cps) t.cps).size<=_
  rw[key,z0Q,z1q]
  have:t.cps.size=t.length:=rfl
  omega
theorem xA(sep:Str)(ts:List Str)(h:(ts.map λt=>t.length+sep.length).sum<=100000):Af (.str sep) (.lst (ts.map PV.str))=some (.str (Txt.join sep ts)):=by
 show(wY (ts.map PV.str)).bind _=_
 rw[xw]
 show(if JoinOk sep ts then some (PV.str (Txt.join sep ts))else none)=_
 rw[if_pos (joinOk_of sep ts h)]
theorem fold_max:∀(ds:List Nat) (a:Nat),∃M:Nat,(ds.map λ(n:Nat)=>(n:Int)).foldl (λa b=>if b>a then b else a) (a:Int)=(M:Int)/\a<=M/\(∀x∈ds,x<=M)/\(M=a\/M∈ds)
 |[],a=>⟨a,rfl,U5 _,by simp,.inl rfl⟩
 |d::ds,a=>by
  rw[z0Q,z01]
  by_cases h:d>a
  ·have e:(if(d:Int)>(a:Int)then(d:Int)else(a:Int))=(d:Int):=if_pos (by omega)
   rw[e]
   obtain⟨M,h1,h2,h3,h4⟩:=fold_max ds d
   refine⟨M,h1,by omega,λx hx=>?_,?_⟩
   ·rcases z0N.mp hx with rfl|hx
    ·exact h2
    ·exact h3 x hx
   ·rcases h4 with rfl|h4
    ·exact .inr (RF ..)
    ·exact .inr (X5 _ h4)
  ·have e:(if(d:Int)>(a:Int)then(d:Int)else(a:Int))=(a:Int):=if_neg (by omega)
   rw[e]
   obtain⟨M,h1,h2,h3,h4⟩:=fold_max ds a
   refine⟨M,h1,h2,λx hx=>?_,?_⟩
   ·rcases z0N.mp hx with rfl|hx
    ·omega
    ·exact h3 x hx
   ·rcases h4 with rfl|h4
    ·exact .inl rfl
    ·exact .inr (X5 _ h4)
theorem vp(ds:List Nat)(h:ds≠[]):∃M:Nat,oK (vh ds)=some (.int (M:Nat))/\(∀x∈ds,x<=M)/\M∈ds:=by
 cases ds with
 |nil=>exact absurd rfl h
 |cons d ds=>
  obtain⟨M,h1,h2,h3,h4⟩:=fold_max ds d
  refine⟨M,?_,λx hx=>?_,?_⟩
  ·show(uM (pl (d::ds))).bind _=_
   rw[IJ]
   show(some ((ds.map λ(n:Nat)=>(n:Int)).foldl (λa b=>if b>a then b else a) (d:Int))).map PV.int=_
   rw[h1]
   rfl
  ·rcases z0N.mp hx with rfl|hx
   ·exact h2
   ·exact h3 x hx
  ·rcases h4 with rfl|h4
   ·exact RF ..
   ·exact X5 _ h4
theorem AU{α:Type}(l:List α)(j:Nat)(h:0<j):jP l (some (-(j:Int))) none=l.drop (l.length-j):=by
 unfold jP kO
 simp only
 rw[if_pos (by omega)]
 have:(-(j:Int)+(l.length:Int)).toNat=l.length-j:=by omega
 rw[this,z0w (by rw[z0d];exact U5 _)]
theorem Mc{α:Type}(l:List α)(j:Nat)(h:0<j):jP l none (some (-(j:Int)))=l.take (l.length-j):=by
 unfold jP kO
 simp only
 rw[if_pos (by omega)]
 have:(-(j:Int)+(l.length:Int)).toNat=l.length-j:=by omega
 rw[this,z1P,z1i]
theorem IP{α:Type}(l:List α)(j:Nat)(h:j<=l.length):jP l none (some (j:Int))=l.take j:=by
 unfold jP kO
 simp only
 rw[if_neg (by omega),z1P,z1i,z0j,Nat.min_eq_left h]
theorem vq{A:Den}{lo hi:uI}{ρ:dO}{l:List PV}{a b:Option Int}(hA:A ρ=some (.lst l))(hl:lo ρ=some a)(hh:hi ρ=some b):DJ A lo hi ρ=some (.lst (jP l a b)):=by
 unfold DJ
 rw[hA,hl,hh]
 rfl
theorem jE{as:eF}{ρ:dO}{xs:List PV}(h:as ρ=some xs)(hl:xs.length<=5000):jO as ρ=some (.tup xs):=by
 have zl:(5000:Nat)<=sizeLine:=by decide
 unfold jO
 rw[h]
 show(if xs.length<=sizeLine then some (PV.tup xs)else none)=_
 rw[if_pos (by omega)]
end L2.D
namespace L2.D.Rq
open PySem
theorem Qe(c d:Nat):tO (.str ⟨#[c]⟩) (.str ⟨#[d]⟩)=some (.bl (!decide (c=d))):=by
 show some (PV.bl (!decide ((⟨#[c]⟩:Str)=⟨#[d]⟩)))=_
 congr 3
 rw[decide_eq_decide]
 constructor
 ·intro h
  injection h with h
  injection h with h
  exact(z19 h).1
 ·rintro rfl
  rfl
abbrev Cp:bE:=(ba (lu (tV (ae tO (dV 3) (dV 4))) uJ dP) (b9 2 (ae Ei (dV 2) (dC (.int 1)))))
theorem vt(s0 s1:Slot):∀(xs ys:List Nat) (k:Int) (s3 s4:Slot),∃t3 t4,forL (rS (dF 3) (dF 4)) Cp (List.zipWith (λc d=>PV.tup [.str ⟨#[c]⟩,.str ⟨#[d]⟩]) xs ys) [s0,s1,.sh (.int k),s3,s4]=some (.nx [s0,s1,.sh (.int (k+(gG xs ys:Nat))),t3,t4])
 |[],ys,k,s3,s4=>⟨s3,s4,by
  show some (Fl.nx [s0,s1,.sh (.int k),s3,s4])=_
  rw[show gG [] ys=0 by unfold gG;rfl]
  simp⟩
 |_::_,[],k,s3,s4=>⟨s3,s4,by
  show some (Fl.nx [s0,s1,.sh (.int k),s3,s4])=_
  simp[gG]⟩
 |a::xs,b::ys,k,s3,s4=>by
  rw[List.zipWith_cons_cons,En]
  have hg:rS (dF 3) (dF 4) (.tup [.str ⟨#[a]⟩,.str ⟨#[b]⟩]) [s0,s1,.sh (.int k),s3,s4]=some [s0,s1,.sh (.int k),.sh (.str ⟨#[a]⟩),.sh (.str ⟨#[b]⟩)]:=rfl
  rw[hg]
  have ht:tV (ae tO (dV 3) (dV 4)) [s0,s1,.sh (.int k),.sh (.str ⟨#[a]⟩),.sh (.str ⟨#[b]⟩)]=some (!decide (a=b)):=cq ((af (x:=.str ⟨#[a]⟩) (y:=.str ⟨#[b]⟩) rfl rfl).trans (Qe a b))
  by_cases h:a=b
  ·rw[decide_eq_true h]at ht
   have hb:Cp [s0,s1,.sh (.int k),.sh (.str ⟨#[a]⟩),.sh (.str ⟨#[b]⟩)]=some (.nx [s0,s1,.sh (.int (k+1)),.sh (.str ⟨#[a]⟩),.sh (.str ⟨#[b]⟩)]):=(av ((iD ht).trans rfl)).trans rfl
   obtain⟨t3,t4,e⟩:=vt s0 s1 xs ys (k+1) (.sh (.str ⟨#[a]⟩)) (.sh (.str ⟨#[b]⟩))
   refine⟨t3,t4,?_⟩
   show(Cp [s0,s1,.sh (.int k),.sh (.str ⟨#[a]⟩),.sh (.str ⟨#[b]⟩)]).bind _=_
   rw[hb]
   refine e.trans ?_
   have el:gG (a::xs) (b::ys)=gG xs ys+1:=by
    show(if a=b then gG xs ys+1 else 0)=_
    rw[if_pos h]
   rw[el]
   have:k+1+((gG xs ys:Nat):Int)=k+((gG xs ys+1:Nat):Int):=by omega
   rw[this]
  ·rw[decide_eq_false h]at ht
   have hb:Cp [s0,s1,.sh (.int k),.sh (.str ⟨#[a]⟩),.sh (.str ⟨#[b]⟩)]=some (.bk [s0,s1,.sh (.int k),.sh (.str ⟨#[a]⟩),.sh (.str ⟨#[b]⟩)]):=by
    show(lu (tV (ae tO (dV 3) (dV 4))) uJ dP [s0,s1,.sh (.int k),.sh (.str ⟨#[a]⟩),.sh (.str ⟨#[b]⟩)]).bind _=_
    rw[iV ht]
    rfl
   refine⟨.sh (.str ⟨#[a]⟩),.sh (.str ⟨#[b]⟩),?_⟩
   show(Cp [s0,s1,.sh (.int k),.sh (.str ⟨#[a]⟩),.sh (.str ⟨#[b]⟩)]).bind _=_
   rw[hb]
   have el:gG (a::xs) (b::ys)=0:=by
    show(if a=b then gG xs ys+1 else 0)=_
    rw[if_neg h]
   rw[el]
   show some (Fl.nx [s0,s1,.sh (.int k),.sh (.str ⟨#[a]⟩),.sh (.str ⟨#[b]⟩)])=_
   have:k+((0:Nat):Int)=k:=by omega
   rw[this]
theorem FG{x y:Str}(hx:As x)(hy:As y):cU [.str x,.str y]=some (.int (gG x.cps.toList y.cps.toList:Nat)):=by
 refine d0 rfl ?_
 refine(av (aP (p:=.int 0) rfl)).trans ?_
 have it:D8 (bZ 0) (bZ 1) [.sh (.str x),.sh (.str y),.sh (.int 0),.un,.un]=some (Fh x y):=by
  show(if x.cps.all (·<128)&&y.cps.all (·<128)then some (Fh x y)else none)=_
  rw[IM hx,IM hy]
  rfl
 obtain⟨t3,t4,e⟩:=vt (.sh (.str x)) (.sh (.str y)) x.cps.toList y.cps.toList 0 .un .un
 refine(av ((qN it).trans e)).trans ?_
 refine dr ?_
 show some (PV.int (0+(gG x.cps.toList y.cps.toList:Nat)))=_
 rw[Int.zero_add]
section
variable{t:Rg}{n m:Int}{ρ ρ':dO}{a b:dY}{f:Den}{p:PV}{q:Int×Fl}
theorem eK(h:a t n ρ=some (m,.nx ρ')):fK a b t n ρ=b t m ρ':=by
 unfold fK
 rw[h]
 rfl
theorem AW{i:Nat}(h:f (wQ t n ρ)=some p)(hf:flat p=true):vb i f t n ρ=some (n,.nx (ρ.set i (.sh p))):=by
 unfold vb
 rw[h]
 show(if flat p=true then _ else _)=_
 rw[if_pos hf]
theorem Ep{k:Int}(h:f (wQ t n ρ)=some (.int k)):Ce f t n ρ=some (n+k,.nx ρ):=by
 unfold Ce
 rw[h]
 rfl
theorem AX{c:de}(h:c (wQ t n ρ)=some true):Az c a b t n ρ=a t n ρ:=by
 unfold Az
 rw[h]
 rfl
theorem AY{c:de}(h:c (wQ t n ρ)=some false):Az c a b t n ρ=b t n ρ:=by
 unfold Az
 rw[h]
 rfl
theorem IQ(h:f (wQ t n ρ)=some p)(hf:flat p=true):AA f t n ρ=some (n,.rt p):=by
 unfold AA
 rw[h]
 show(if flat p=true then _ else _)=_
 rw[if_pos hf]
theorem jU{fr:Bool}{N k:Nat}{g:dY}{ps:List PV}(h:ps.length+1=k)(e:g t n (.un::(ps.map Slot.sh++List.replicate (N-k) .un))=some (m,.rt p)):tY fr N k g t n ps=some (m,p):=by
 unfold tY
 rw[if_pos h,e]
 rfl
theorem IS{N k:Nat}{g:dY}{ps:List PV}(h:ps.length+1=k)(e:g t n (.un::(ps.map Slot.sh++List.replicate (N-k) .un))=some (m,.nx ρ')):tY false N k g t n ps=some (m,.non):=by
 unfold tY
 rw[if_pos h,e]
 rfl
end
theorem W0:(("words" :Str)==("words" :Str))=true:=by decide+kernel
theorem W2:(("signs" :Str)==("words" :Str))=false:=by decide+kernel
theorem W3:(("signs" :Str)==("signs" :Str))=true:=by decide+kernel
theorem W4:(("at" :Str)==("words" :Str))=false:=by decide+kernel
theorem W5:(("at" :Str)==("signs" :Str))=false:=by decide+kernel
theorem W6:(("at" :Str)==("at" :Str))=true:=by decide+kernel
theorem Qf(t:Rg)(n:Int):kQ oN "words" (Bx t n)=some (.lst t.ws):=by
 show List.lookup ("words" :Str) [(("words" :Str),PV.lst t.ws),(("signs" :Str),.str t.sg),(("at" :Str),.int n)]=_
 rw[z0K,W0]
theorem IT(t:Rg)(n:Int):kQ oN "signs" (Bx t n)=some (.str t.sg):=by
 show List.lookup ("signs" :Str) [(("words" :Str),PV.lst t.ws),(("signs" :Str),.str t.sg),(("at" :Str),.int n)]=_
 rw[z0K,W2,z0K,W3]
theorem IU(t:Rg)(n:Int):kQ oN "at" (Bx t n)=some (.int n):=by
 show List.lookup ("at" :Str) [(("words" :Str),PV.lst t.ws),(("signs" :Str),.str t.sg),(("at" :Str),.int n)]=_
 rw[z0K,W4,z0K,W5,z0K,W6]
section
variable(t:Rg)(n:Int)(ρ:dO)
theorem Nq:vf (wQ t n (.un::ρ))=some (.str t.sg):=(cK (x:=Bx t n) rfl).trans (IT t n)
theorem IV:mI (wQ t n (.un::ρ))=some (.int n):=(cK (x:=Bx t n) rfl).trans (IU t n)
theorem Nr:AG (wQ t n (.un::ρ))=some (.lst t.ws):=(cK (x:=Bx t n) rfl).trans (Qf t n)
end
end L2.D.Rq
namespace L2.D
open PySem PySem.Spec PyProof.Rows PySem.SeqAt
def FH(p q:PV):Option PV:=(toS p).bind λx=>(toS q).map λy=>.bl (decide (x.cps.toList<y.cps.toList))
def Md(p q:PV):Option PV:=(toS p).bind λx=>(toS q).map λy=>.bl (decide (y.cps.toList<x.cps.toList))
section
variable{X:Cx}{κ:Kl}{a b:Expr}{fa fb:Den}{pos:Pos}
theorem Qg(ha:DB X κ a fa)(hb:DB X κ b fb):DC X κ .Lt a b (ae FH fa fb):=by
 obtain⟨ta,h1,h2⟩:=ha
 obtain⟨tb,h3,h4⟩:=hb
 refine⟨_,_,_,EU,h1,h3,λ{G A bo own ρ σ H p Q} r e q=>?_⟩
 refine qA h2 h4 r e λx y p1 p2 H' s r' b1 b2 e'=>?_
 obtain⟨i,e1,e2⟩:=Zt.mp e'
 obtain⟨j,e3,rfl⟩:=Zu.mp e2
 cases iI e1
 cases iI e3
 exact⟨i,j,b1.str,b2.str,q _ H' s (.bl _)⟩
theorem Qh:mF X (compareOp .Gt) (λx y H Q=>∃i j,x=.str i/\y=.str j/\Q (.bl (decide (j.cps.toList<i.cps.toList))) H):=by
 intro pins s σ H x y v u Q I rx ry h
 obtain⟨i,j,rfl,rfl,q⟩:=h
 obtain⟨t,rfl⟩:=rx
 obtain⟨t',rfl⟩:=ry
 exact P.gt_str (cm I q rfl)
theorem Qi(ha:DB X κ a fa)(hb:DB X κ b fb):DC X κ .Gt a b (ae Md fa fb):=by
 obtain⟨ta,h1,h2⟩:=ha
 obtain⟨tb,h3,h4⟩:=hb
 refine⟨_,_,_,Qh,h1,h3,λ{G A bo own ρ σ H p Q} r e q=>?_⟩
 refine qA h2 h4 r e λx y p1 p2 H' s r' b1 b2 e'=>?_
 obtain⟨i,e1,e2⟩:=Zt.mp e'
 obtain⟨j,e3,rfl⟩:=Zu.mp e2
 cases iI e1
 cases iI e3
 exact⟨i,j,b1.str,b2.str,q _ H' s (.bl _)⟩
end
end L2.D
namespace L2.D.Rq
open PySem
theorem IW{α:Type}(l:List α)(a:Nat):∀k,a+k<=l.length->((List.range k).map (a+·)).filterMap (l[·]?)=(l.drop a).take k
 |0,_=>by simp
 |k+1,h=>by
  have ih:=IW l a k (by omega)
  rw[List.range_succ,z0b,List.filterMap_append,ih,List.take_succ]
  congr 1
  have tM:a+k<l.length:=by omega
  rw[z0Q,z1t,z0m,z0G tM,List.getElem?_drop,z0G tM]
  rfl
theorem rW{x:Str}{lo hi:Option Int}{a b:Nat}(hab:a<=b)(hb:b<=x.length)(e:Builtin.Str.strSliceIndices lo hi 1 x.length=(List.range (b-a)).map (a+·)):(bK x lo hi 1).cps.toList=(x.cps.toList.drop a).take (b-a):=by
 have hl:x.cps.toList.length=x.length:=SR
 unfold bK
 rw[e]
 split
 ·rename_i hh
  rw[z0F,beq_iff_eq,beq_iff_eq,X6,z0u]at hh
  have ha:a=0:=by omega
  have pA:b=x.length:=by omega
  subst ha
  rw[z1P,z0w (by omega)]
 ·have:=IW x.cps.toList a (b-a) (by omega)
  rw[<-this]
  show((((List.range (b-a)).map (a+·)).filterMap (x.cps[·]?)).toArray).toList=_
  simp only[z05]
theorem Me(n len:Nat)(h:n<=len):Builtin.Str.strSliceIndices (some (n:Int)) none 1 len=(List.range (len-n)).map (n+·):=by
 have:=z0s n len
 rw[<-this]
 unfold Builtin.Str.strSliceIndices
 simp only
 congr 1
 rw[if_pos (by decide),if_neg (by omega)]
 omega
theorem TR(n len:Nat)(h:n<=len):Builtin.Str.strSliceIndices none (some (n:Int)) 1 len=(List.range (n-0)).map (0+·):=by
 have:=z0s 0 n
 rw[<-this]
 unfold Builtin.Str.strSliceIndices
 simp only
 congr 1
 rw[if_pos (by decide),if_neg (by omega)]
 omega
theorem IX(a b len:Nat)(h:a<=b)(hb:b<=len):Builtin.Str.strSliceIndices (some (a:Int)) (some (b:Int)) 1 len=(List.range (b-a)).map (a+·):=by
 have:=z0s a b
 rw[<-this]
 unfold Builtin.Str.strSliceIndices
 simp only
 congr 1
 ·rw[if_pos (by decide),if_neg (by omega)]
  omega
 ·rw[if_pos (by decide),if_neg (by omega)]
  omega
theorem AZ{x:Str}{n:Nat}(h:n<=x.length):(bK x (some (n:Int)) none 1).cps.toList=x.cps.toList.drop n:=by
 rw[rW h (U5 _) (Me n x.length h),z0w]
 rw[z0d,show x.cps.toList.length=x.length from SR]
 exact U5 _
theorem vv{x:Str}{n:Nat}(h:n<=x.length):(bK x none (some (n:Int)) 1).cps.toList=x.cps.toList.take n:=by
 rw[rW (z0S n) h (TR n x.length h),z1P,z1i]
def ops:List Str:=["all(","any(","1 of (","2 of (","3 of (","4 of (","5 of (","6 of (","7 of (","8 of ("]
abbrev jC(names:List Str):List PV:=(names++ops).map PV.str
abbrev one(c:Nat):Str:=⟨#[c]⟩
abbrev aJ(x:Str):List Nat:=x.cps.toList
abbrev pF(l:List Nat):Str:=⟨l.toArray⟩
theorem j8(x:Str):pF (aJ x)=x:=by
 cases x
 rfl
theorem qP{x y:Str}(h:x.cps.toList=y.cps.toList):x=y:=by
 cases x
 cases y
 simp only[Str.mk.injEq]
 exact Array.toList_inj.mp h
def TU:List Nat->Int
 |c::_=>if 48<=c/\c<=56 then(c:Int)-48 else-1
 |[]=>-1
def sy(names:List Str)(sg:Str):Sy PV where
 x:=aJ sg
 names:=names.map aJ
 ops:=ops.map aJ
 few:=λw=>(mE.lookup (pF w)).map Int.toNat
 fl:=TU
 hand:=λw=>.ins 0 [.str (pF w)]
 cnt:=λw ts=>(bQ [.str (pF w),.lst ts]).getD .non
theorem yB{names:List Str}{sg:Str}{l:List Nat}:l∈(sy names sg).ws↔pF l∈names++ops:=by
 show l∈names.map aJ++ops.map aJ↔_
 rw[<-z0b,z0R]
 constructor
 ·rintro⟨x,h1,rfl⟩
  rw[j8]
  exact h1
 ·intro h
  exact⟨_,h,rfl⟩
theorem Mf(ws:List Str)(w:Str):uH (.str w) (.lst (ws.map PV.str))=some (.bl (!decide (w∈ws))):=by
 have a:(ws.map PV.str).all flat=true:=z0M.mpr λp hp=>by
  obtain⟨y,_,rfl⟩:=z0R.mp hp
  rfl
 have b:uG (.str w) (ws.map PV.str)=decide (w∈ws):=by
  rw[z04,decide_eq_true_iff]
  unfold uG
  rw[List.any_eq_true]
  constructor
  ·rintro⟨p,hp,h⟩
   obtain⟨y,hy,rfl⟩:=z0R.mp hp
   have h:(y==w)=true:=h
   rw[<-beq_iff_eq.mp h]
   exact hy
  ·intro h
   refine⟨.str w,z0R.mpr ⟨w,h,rfl⟩,?_⟩
   show(w==w)=true
   simp
 show(if flat (.str w)&&(ws.map PV.str).all flat then some (PV.bl (!uG (.str w) (ws.map PV.str)))else none)=_
 rw[a,b]
 rfl
section
variable{t:Rg}{n m:Int}{ρ ρ':dO}{g:mC}{f:Den}{p:PV}
theorem jF{a b:dY}(h:a t n ρ=some (m,.rt p)):fK a b t n ρ=some (m,.rt p):=by
 unfold fK
 rw[h]
 rfl
theorem oz{n:Nat}(h:n<=1000000):iX t (n:Nat) ρ=some (((n:Nat):Int),.rt (tP (n:Nat))):=by
 unfold iX
 rw[if_pos]
 have:(1000000:Nat)<10^100:=by decide
 simp only[decide_eq_true_eq]
 omega
theorem IY(h:f ρ=some p)(hx:jK p=none):xk f t n ρ=some (n,.rt p):=by
 unfold xk
 rw[h]
 show(if(jK p).isSome=true then _ else _)=_
 rw[hx]
 rfl
theorem jV{F:FQ}{as:eF}{ps:List PV}(h:as (wQ t n ρ)=some ps)(hf:ps.all flat=true):fP F as t n ρ=F t n ps:=by
 unfold fP
 rw[h]
 show(if ps.all flat=true then _ else _)=_
 rw[if_pos hf]
theorem IZ{i:Nat}(h:g t n ρ=some (m,p))(hf:flat p=true):sI i g t n ρ=some (m,.nx (ρ.set i (.sh p))):=by
 unfold sI
 rw[h]
 show(if(jK p).isSome=true then _ else _)=_
 rw[Ay hf]
 show(if flat p=true then _ else _)=_
 rw[if_pos hf]
theorem Ja{i:Nat}{e:Int}(h:g t n ρ=some (m,tP e)):sI i g t n ρ=some (m,.rt (tP e)):=by
 unfold sI
 rw[h]
 rfl
theorem kT(h:g t n ρ=some (m,p))(hx:jK p=none):mD g t n ρ=some (m,.nx ρ):=by
 unfold mD
 rw[h]
 show some (if(jK p).isSome=true then _ else _)=_
 rw[hx]
 rfl
theorem A0{e:Int}(h:g t n ρ=some (m,tP e)):mD g t n ρ=some (m,.rt (tP e)):=by
 unfold mD
 rw[h]
 rfl
theorem Mg{i:Nat}{l:List PV}(ho:yd ρ i=some l)(h:g t n ρ=some (m,p))(hx:jK p=none)(hl:l.length<sizeLine):Cf i g t n ρ=some (m,.nx (ρ.set i (.ow (l++[p])))):=by
 unfold Cf
 rw[ho]
 show((g t n ρ).bind _)=_
 rw[h]
 show(if(jK p).isSome=true then _ else _)=_
 rw[hx]
 show(if l.length<sizeLine then _ else _)=_
 rw[if_pos hl]
theorem Mh{i:Nat}{l:List PV}{e:Int}(ho:yd ρ i=some l)(h:g t n ρ=some (m,tP e)):Cf i g t n ρ=some (m,.rt (tP e)):=by
 unfold Cf
 rw[ho]
 show((g t n ρ).bind _)=_
 rw[h]
 rfl
theorem FJ{i:Nat}(h:g t n ρ=some (m,p))(hx:jK p=none):pC i g t n ρ=some (m,.nx (ρ.set i (.ow [p]))):=by
 unfold pC
 rw[h]
 show some (if(jK p).isSome=true then _ else _)=_
 rw[hx]
 rfl
theorem FK{i:Nat}{e:Int}(h:g t n ρ=some (m,tP e)):pC i g t n ρ=some (m,.rt (tP e)):=by
 unfold pC
 rw[h]
 rfl
theorem Jb{i:Nat}{l:List PV}(h:yd ρ i=some l):xm i t n ρ=some (n,.rt (.lst l)):=by
 unfold xm
 rw[h]
 rfl
theorem Jc{F:List PV->Option PV}{a r:PV}(h1:f (wQ t n ρ)=some a)(ha:flat a=true)(h2:g t n ρ=some (m,p))(hp:jK p=none)(h3:F [a,p]=some r)(hr:jK r=none):vd F f g t n ρ=some (m,.rt r):=by
 unfold vd
 rw[h1]
 show(if flat a=true then _ else _)=_
 rw[if_pos ha,h2]
 show(if(jK p).isSome=true then _ else _)=_
 rw[hp]
 show(F [a,p]).bind _=_
 rw[h3]
 show(if(jK r).isSome=true then _ else _)=_
 rw[hr]
 rfl
theorem A2{F:List PV->Option PV}{a:PV}{e:Int}(h1:f (wQ t n ρ)=some a)(ha:flat a=true)(h2:g t n ρ=some (m,tP e)):vd F f g t n ρ=some (m,.rt (tP e)):=by
 unfold vd
 rw[h1]
 show(if flat a=true then _ else _)=_
 rw[if_pos ha,h2]
 rfl
end
def TV:Nat×Option (List Nat)->Int×PV
 |(n,some w)=>(((n:Nat):Int),.str (pF w))
 |(n,none)=>(((n:Nat):Int),tP (n:Nat))
theorem Qj{names:List Str}{sg:Str}{n:Nat}(hs:As sg)(Mi:∀v∈names++ops,As v)(hl:(names++ops).length<=5000)(hlen:sg.length<=100000)(hn:n<=sg.length):
  dZ ⟨jC names,sg⟩ (n:Nat) []=some (TV ((sy names sg).word n)):=by
 obtain⟨rest,Er⟩:∃r,r=bK sg (some (n:Int)) none 1:=⟨_,rfl⟩
 have er:rest.cps.toList=(aJ sg).drop n:=by rw[Er,AZ hn]
 have ar:As rest:=by rw[Er];exact Qc hs _ _ _
 have lr:rest.length<=sg.length:=by rw[Er];exact js _ _ _ (by decide)
 have lr':rest.cps.toList.length=rest.length:=SR
 obtain⟨M,hM⟩:∃M,M=(sy names sg).M n:=⟨_,rfl⟩
 have lM:M<=rest.length:=by
  rw[hM,<-lr',er]
  exact IE n
 have c1:eX vf (aX mI) cD (wQ ⟨jC names,sg⟩ (n:Nat) [.un,.un,.un])=some (.str rest):=by
  rw[Er]
  refine cV (Nq _ _ _) (l:=some (n:Int)) ?_ rfl hlen
  show(mI (wQ ⟨jC names,sg⟩ (n:Nat) [.un,.un,.un])).bind _=_
  rw[IV]
  rfl
 have c2:bU oK (eI (nList AG) eY (bP cU (ah (bZ 2) (ah (bZ 0) aO)))) (wQ ⟨jC names,sg⟩ (n:Nat) [.un,.sh (.str rest),.un])=some (.int (M:Nat)):=by
  have dc:eI (nList AG) eY (bP cU (ah (bZ 2) (ah (bZ 0) aO))) (wQ ⟨jC names,sg⟩ (n:Nat) [.un,.sh (.str rest),.un])=some (.lst ((names++ops).map λv=>.int (gG rest.cps.toList v.cps.toList:Nat))):=by
   refine jg PV.str (λv=>.int (gG rest.cps.toList v.cps.toList:Nat)) (vi (Nr _ _ _)) hl λv hv=>?_
   exact(bu (ps:=[.str rest,.str v]) rfl).trans (FG ar (Mi v hv))
  refine(cK dc).trans ?_
  have ne:(names++ops).map (λv=>gG rest.cps.toList v.cps.toList)≠[]:=λz=>by
   rw[List.map_eq_nil_iff,List.append_eq_nil_iff]at z
   exact absurd z.2 (by unfold ops;simp)
  obtain⟨N,h1,h2,h3⟩:=vp _ ne
  have ep:vh ((names++ops).map λv=>gG rest.cps.toList v.cps.toList)=.lst ((names++ops).map λv=>.int (gG rest.cps.toList v.cps.toList:Nat)):=by
   unfold vh
   rw[z1I]
   rfl
  rw[ep]at h1
  rw[h1]
  have:N=M:=by
   rw[hM]
   refine z1y ?_ (L7 λw hw=>?_)
   ·obtain⟨v,hv,ev⟩:=z0R.mp h3
    rw[<-ev,er]
    exact L6 (S:=sy names sg) (n:=n) (yB.mpr (by rw[j8];exact hv))
   ·have:=h2 _ (z0R.mpr ⟨pF w,yB.mp hw,rfl⟩)
    rw[er]at this
    exact this
  rw[this]
 have c3:∀k:Int,eX (dV 1) cD (aX (dV 2)) (wQ ⟨jC names,sg⟩ k [.un,.sh (.str rest),.sh (.int (M:Nat))])=some (.str (pF (((aJ sg).drop n).take M))):=λk=>by
  refine(cV (y:=rest) (l:=none) (h:=some ((M:Nat):Int)) rfl rfl rfl (by omega)).trans ?_
  have:bK rest none (some ((M:Nat):Int)) 1=pF (((aJ sg).drop n).take M):=qP (by rw[vv lM,er])
  rw[this]
 have e3:((n:Nat):Int)+((M:Nat):Int)=((n+M:Nat):Int):=by omega
 have dec:decide (pF (((aJ sg).drop n).take M)∈names++ops)=decide (((aJ sg).drop n).take M∈(sy names sg).ws):=by
  rw[decide_eq_decide]
  exact yB.symm
 have hw:(sy names sg).word n=(n+M,if((aJ sg).drop n).take M∈(sy names sg).ws then some (((aJ sg).drop n).take M)else none):=by
  rw[hM]
  rfl
 rw[hw]
 refine jU rfl ?_
 refine(eK (AW c1 rfl)).trans ?_
 refine(eK (AW c2 rfl)).trans ?_
 refine(eK (Ep (k:=(M:Nat)) rfl)).trans ?_
 rw[e3]
 have ct:=cq ((af (c3 ((n+M:Nat):Int)) (Nr _ _ _)).trans ((Mf (names++ops) _).trans (by rw[dec])))
 by_cases Ef:((aJ sg).drop n).take M∈(sy names sg).ws
 ·rw[decide_eq_true Ef]at ct
  rw[if_pos Ef]
  refine(eK ((AY ct).trans rfl)).trans ?_
  exact IQ (c3 _) rfl
 ·rw[decide_eq_false Ef]at ct
  rw[if_neg Ef]
  exact jF ((AX ct).trans (oz (by omega)))
theorem beyond(x:Str)(lo hi:Nat)(h:x.length<=lo)(hh:lo<=hi):(bK x (some (lo:Int)) (some (hi:Int)) 1).cps.toList=[]:=by
 have e:Builtin.Str.strSliceIndices (some (lo:Int)) (some (hi:Int)) 1 x.length=(List.range (x.length-x.length)).map (x.length+·):=by
  have:=z0s x.length x.length
  rw[<-this]
  unfold Builtin.Str.strSliceIndices
  simp only
  congr 1
  ·rw[if_pos (by decide),if_neg (by omega)]
   omega
  ·rw[if_pos (by decide),if_neg (by omega)]
   omega
 rw[rW (U5 _) (U5 _) e,z2B,z1l]
theorem yC(sg:Str)(n c:Nat):(bK sg (some (n:Int)) (some ((n+1:Nat):Int)) 1=one c)↔(sg.cps.toList.drop n).head?=some c:=by
 have hl:sg.cps.toList.length=sg.length:=SR
 by_cases h:n<sg.length
 ·have e:(bK sg (some (n:Int)) (some ((n+1:Nat):Int)) 1).cps.toList=(sg.cps.toList.drop n).take 1:=by
    have:=rW (x:=sg) (a:=n) (b:=n+1) (by omega) (by omega) (IX n (n+1) sg.length (by omega) (by omega))
    rw[this]
    congr 1
    omega
  constructor
  ·intro z
   rw[z]at e
   cases hd:sg.cps.toList.drop n with
   |nil=>rw[hd]at e;cases e
   |cons a l=>
    rw[hd]at e
    have:[c]=[a]:=e
    rw[(z19 this).1]
    rfl
  ·intro z
   refine qP (e.trans ?_)
   cases hd:sg.cps.toList.drop n with
   |nil=>rw[hd]at z;cases z
   |cons a l=>
    rw[hd]at z
    cases z
    rfl
 ·have e:=beyond sg n (n+1) (by omega) (by omega)
  have hd:sg.cps.toList.drop n=[]:=z0v (by omega)
  constructor
  ·intro z
   rw[z]at e
   cases e
  ·intro z
   rw[hd]at z
   cases z
theorem Jd{ws:List PV}{sg:Str}{n c:Nat}(hlen:sg.length<=100000):hU [Bx ⟨ws,sg⟩ (n:Nat),.str (one c)]=some (.bl (decide ((sg.cps.toList.drop n).head?=some c))):=by
 have hl:sg.cps.toList.length=sg.length:=SR
 refine ng rfl ?_
 have c1:eX vf (aX mI) (aX (ae aW mI (dC (.int 1)))) [.sh (Bx ⟨ws,sg⟩ (n:Nat)),.sh (.str (one c))]=some (.str (bK sg (some (n:Int)) (some ((n+1:Nat):Int)) 1)):=by
  have a1:mI [.sh (Bx ⟨ws,sg⟩ (n:Nat)),.sh (.str (one c))]=some (.int (n:Nat)):=(cK (x:=Bx ⟨ws,sg⟩ (n:Nat)) rfl).trans (IU _ _)
  refine cV (y:=sg) ((cK (x:=Bx ⟨ws,sg⟩ (n:Nat)) rfl).trans (IT _ _)) (l:=some (n:Int)) (h:=some ((n+1:Nat):Int)) ?_ ?_ hlen
  ·show(mI [.sh (Bx ⟨ws,sg⟩ (n:Nat)),.sh (.str (one c))]).bind _=_
   rw[a1]
   rfl
  ·show(ae aW mI (dC (.int 1)) [.sh (Bx ⟨ws,sg⟩ (n:Nat)),.sh (.str (one c))]).bind _=_
   rw[(af (x:=.int (n:Nat)) (y:=.int 1) a1 rfl).trans rfl]
   show some (some ((n:Int)+1))=_
   rfl
 refine(af c1 (y:=.str (one c)) rfl).trans ?_
 show some (PV.bl (decide (bK sg (some (n:Int)) (some ((n+1:Nat):Int)) 1=one c)))=_
 congr 2
 rw[decide_eq_decide]
 exact yC sg n c
theorem vx(l:List Nat)(n:Nat):(l.drop n).head?=l[n]?:=by
 rw[List.head?_drop]
theorem Es{ws:List PV}{sg:Str}{n c:Nat}(hlen:sg.length<=100000):hU [Bx ⟨ws,sg⟩ (n:Nat),.str (one c)]=some (.bl (decide ((aJ sg)[n]?=some c))):=by
 rw[Jd hlen,vx]
theorem Qk{ws:List PV}{sg:Str}{n c:Nat}(hlen:sg.length<=100000)(hn:n<=sg.length):cH ⟨ws,sg⟩ (n:Nat) [.str (one c)]=some (if(aJ sg)[n]?=some c then(((n+1:Nat):Int),.non)else(((n:Nat):Int),tP (n:Nat))):=by
 have m:jA (sJ hU) (bZ 0) (ah (bZ 1) aO) (wQ ⟨ws,sg⟩ (n:Nat) [.un,.sh (.str (one c))])=some (.bl (decide ((aJ sg)[n]?=some c))):=Es (ws:=ws) (sg:=sg) (n:=n) (c:=c) hlen
 by_cases h:(aJ sg)[n]?=some c
 ·rw[if_pos h]
  rw[decide_eq_true h]at m
  refine IS (ρ':=[.un,.sh (.str (one c))]) rfl ?_
  refine(eK ((AY (yx (b:=true) (cq m))).trans rfl)).trans ?_
  exact Ep (k:=1) rfl
 ·rw[if_neg h]
  rw[decide_eq_false h]at m
  refine jU rfl ?_
  exact jF ((AX (yx (b:=false) (cq m))).trans (oz (by omega)))
def Mj:Nat×Option PV->Int×PV
 |(n,some p)=>(((n:Nat):Int),p)
 |(n,none)=>(((n:Nat):Int),tP (n:Nat))
def Cln(S:Sy PV)(rd:Nat->Option (Nat×Option PV)):Prop:=∀n r,n<=S.x.length->rd n=some r->r.1<=S.x.length/\∀p,r.2=some p->jK p=none
abbrev Nt:dY:=fK (mD (fP cH (ah (dC (.str ")")) aO))) (xm 2)
def encL:Nat×Option (List PV)->Int×Fl
 |(n,some l)=>(((n:Nat):Int),.rt (.lst l))
 |(n,none)=>(((n:Nat):Int),.rt (tP (n:Nat)))
theorem A3:((")" :Str))=one 41:=by decide+kernel
theorem Nu:(("," :Str))=one 44:=by decide+kernel
theorem Nv:((" " :Str))=one 32:=by decide+kernel
theorem Je{ws:List PV}{sg x:Str}{n c:Nat}(hx:x=one c)(hlen:sg.length<=100000)(hn:n<=sg.length)(ρ:dO):fP cH (ah (dC (.str x)) aO) ⟨ws,sg⟩ (n:Nat) ρ=some (if(aJ sg)[n]?=some c then(((n+1:Nat):Int),.non)else(((n:Nat):Int),tP (n:Nat))):=by
 subst hx
 exact(jV (ps:=[.str (one c)]) rfl rfl).trans (Qk hlen hn)
theorem Et{names:List Str}{FT:FQ}{sg:Str}(hlen:sg.length<=100000){f:Nat}{rd:Nat->Option (Nat×Option PV)}(hC:Cln (sy names sg) rd)(hF:∀n r,n<=sg.length->rd n=some r->FT ⟨jC names,sg⟩ (n:Nat) []=some (Mj r)):
  ∀(j:Nat) (fJ:List PV) (n:Nat) (r:Nat×Option (List PV)),fJ.length<=8->n<=sg.length->(sy names sg).parts rd f j fJ n=some r->
   fK (iY kg (jT FT) j) Nt ⟨jC names,sg⟩ (n:Nat) [.un,.sh (.int (f:Nat)),.ow fJ]=some (encL r)/\r.1<=sg.length
 |0,fJ,n,r,h8,hn,h=>by cases h
 |j+1,fJ,n,r,h8,hn,h=>by
  have zl:(5000:Nat)<=sizeLine:=by decide
  have ex:(sy names sg).x=aJ sg:=rfl
  have el:(aJ sg).length=sg.length:=SR
  have l1:∀m:Int,bU cL (dV 2) (wQ ⟨jC names,sg⟩ m [.un,.sh (.int (f:Nat)),.ow fJ])=some (.int (fJ.length:Nat)):=λm=>rfl
  have c1:kg (wQ ⟨jC names,sg⟩ (n:Nat) [.un,.sh (.int (f:Nat)),.ow fJ])=some (decide (fJ.length<f\/(aJ sg)[n]?≠some 41)):=by
   by_cases tM:fJ.length<f
   ·rw[decide_eq_true (.inl tM)]
    refine IG (cq ((af (l1 _) (y:=.int (f:Nat)) rfl).trans ?_))
    show some (PV.bl (decide ((fJ.length:Int)<(f:Int))))=_
    rw[decide_eq_true (by omega)]
   ·refine(vj (cq ((af (l1 _) (y:=.int (f:Nat)) rfl).trans ?_))).trans ?_
    ·show some (PV.bl (decide ((fJ.length:Int)<(f:Int))))=_
     rw[decide_eq_false (by omega)]
    ·have:=Es (ws:=jC names) (sg:=sg) (n:=n) (c:=41) hlen
     refine(yx (cq (b:=decide ((aJ sg)[n]?=some 41)) ?_)).trans ?_
     ·rw[A3]
      exact this
     ·congr 1
      by_cases hq:(aJ sg)[n]?=some 41
      ·rw[decide_eq_true hq,decide_eq_false (λz=>z.elim tM λy=>y hq)]
       rfl
      ·rw[decide_eq_false hq,decide_eq_true (.inr hq)]
       rfl
  unfold Sy.parts at h
  rw[ex]at h
  by_cases hgo:fJ.length<f\/(aJ sg)[n]?≠some 41
  ·rw[if_pos hgo]at h
   rw[decide_eq_true hgo]at c1
   have step:∀{m:Int} {fl:Fl},jT FT ⟨jC names,sg⟩ (n:Nat) [.un,.sh (.int (f:Nat)),.ow fJ]=some (m,fl)->iY kg (jT FT) (j+1) ⟨jC names,sg⟩ (n:Nat) [.un,.sh (.int (f:Nat)),.ow fJ]=(match fl with
     |.nx ρ'=>iY kg (jT FT) j ⟨jC names,sg⟩ m ρ'
     |.rt p=>some (m,.rt p)
     |_=>none):=λ{m fl} hq=>by
    rw[iY]
    show((kg (wQ ⟨jC names,sg⟩ (n:Nat) [.un,.sh (.int (f:Nat)),.ow fJ])).bind _)=_
    rw[c1]
    show((jT FT ⟨jC names,sg⟩ (n:Nat) [.un,.sh (.int (f:Nat)),.ow fJ]).bind _)=_
    rw[hq]
    cases fl<;>rfl
   have fin:∀{m:Nat},jT FT ⟨jC names,sg⟩ (n:Nat) [.un,.sh (.int (f:Nat)),.ow fJ]=some (((m:Nat):Int),.rt (tP (m:Nat)))->fK (iY kg (jT FT) (j+1)) Nt ⟨jC names,sg⟩ (n:Nat) [.un,.sh (.int (f:Nat)),.ow fJ]=some (encL (m,none)):=λ{m} hq=>jF (step hq)
   have i8:∀b,decide (fJ.length=8)=b->tV (ae gM (bU cL (dV 2)) (dC (.int 8))) (wQ ⟨jC names,sg⟩ (n:Nat) [.un,.sh (.int (f:Nat)),.ow fJ])=some b:=λb hb=>by
    refine cq ((af (l1 _) (y:=.int 8) rfl).trans ?_)
    show some (PV.bl (decide ((fJ.length:Int)=8)))=_
    rw[<-hb]
    congr 2
    rw[decide_eq_decide]
    omega
   by_cases h9:fJ.length=8
   ·rw[if_pos h9]at h
    cases h
    exact⟨fin (jF ((AX (i8 true (decide_eq_true h9))).trans (oz (by omega)))),hn⟩
   rw[if_neg h9]at h
   have s0:∀{b:dY},fK (Az (tV (ae gM (bU cL (dV 2)) (dC (.int 8)))) iX kR) b ⟨jC names,sg⟩ (n:Nat) [.un,.sh (.int (f:Nat)),.ow fJ]=b ⟨jC names,sg⟩ (n:Nat) [.un,.sh (.int (f:Nat)),.ow fJ]:=λ{b}=>eK ((AY (i8 false (decide_eq_false h9))).trans rfl)
   have RS:=Je (ws:=jC names) Nu hlen hn [.un,.sh (.int (f:Nat)),.ow fJ]
   by_cases Ck:(aJ sg)[n]?≠some 44
   ·rw[if_pos Ck]at h
    cases h
    rw[if_neg Ck]at RS
    exact⟨fin (s0.trans (jF (A0 RS))),hn⟩
   rw[if_neg Ck]at h
   have Ck:(aJ sg)[n]?=some 44:=z0W Ck
   rw[if_pos Ck]at RS
   have n1:n+1<=sg.length:=by
    have:=vg Ck
    omega
   have TX:=Je (ws:=jC names) Nv hlen n1 [.un,.sh (.int (f:Nat)),.ow fJ]
   by_cases xu:(aJ sg)[n+1]?≠some 32
   ·rw[if_pos xu]at h
    cases h
    rw[if_neg xu]at TX
    exact⟨fin (s0.trans ((eK (kT RS rfl)).trans (jF (A0 TX)))),n1⟩
   rw[if_neg xu]at h
   have xu:(aJ sg)[n+1]?=some 32:=z0W xu
   rw[if_pos xu]at TX
   have n2:n+2<=sg.length:=by
    have:=vg xu
    omega
   cases hr:rd (n+2)with
   |none=>rw[hr]at h;cases h
   |some q=>
    rw[hr]at h
    have gF:=hF (n+2) q n2 hr
    obtain⟨q1,q2⟩:=hC (n+2) q (by rw[ex,el];exact n2) hr
    rw[ex,el]at q1
    obtain⟨n',o⟩:=q
    have gq:fP FT aO ⟨jC names,sg⟩ ((n+1+1:Nat):Int) [.un,.sh (.int (f:Nat)),.ow fJ]=some (Mj (n',o)):=(jV (ps:=[]) rfl rfl).trans gF
    cases o with
    |none=>
     cases h
     exact⟨fin (s0.trans ((eK (kT RS rfl)).trans ((eK (kT TX rfl)).trans (Mh (l:=fJ) rfl gq)))),q1⟩
    |some p=>
     have hx:=q2 p rfl
     have b1:jT FT ⟨jC names,sg⟩ (n:Nat) [.un,.sh (.int (f:Nat)),.ow fJ]=some (((n':Nat):Int),.nx [.un,.sh (.int (f:Nat)),.ow (fJ++[p])]):=s0.trans ((eK (kT RS rfl)).trans ((eK (kT TX rfl)).trans (Mg (l:=fJ) rfl gq hx (by omega))))
     obtain⟨i1,i2⟩:=Et hlen hC hF j (fJ++[p]) n' r (by rw[z0E];simp;omega) q1 h
     refine⟨?_,i2⟩
     rw[<-i1]
     unfold fK
     rw[step b1]
  ·rw[if_neg hgo]at h
   rw[decide_eq_false hgo]at c1
   cases h
   have Nn:(aJ sg)[n]?=some 41:=z0W λz=>hgo (.inr z)
   have n1:n+1<=sg.length:=by
    have:=vg Nn
    omega
   have YJ:=Je (ws:=jC names) A3 hlen hn [.un,.sh (.int (f:Nat)),.ow fJ]
   rw[if_pos Nn]at YJ
   refine⟨?_,n1⟩
   refine(eK (ρ':=[.un,.sh (.int (f:Nat)),.ow fJ]) (m:=(n:Nat)) ?_).trans ?_
   ·rw[iY]
    show((kg (wQ ⟨jC names,sg⟩ (n:Nat) [.un,.sh (.int (f:Nat)),.ow fJ])).bind _)=_
    rw[c1]
    rfl
   ·exact(eK (kT YJ rfl)).trans (Jb rfl)
end L2.D.Rq
namespace L2.D
open PySem PySem.Spec PyProof.Rows PySem.SeqAt
open Classical
open Rq (Pile)
def A4(q:Int×Int):PV:=.lst [.int q.1,.int q.2]
def sM(p:Pile):PV:=.lst (p.reverse.map A4)
def Cells(H:Hp):List Addr->Pile->Prop
 |[],[]=>True
 |a::as,q::p=>H a=some (.lst [.int q.1,.int q.2])/\Cells H as p
 |_,_=>False
structure lG(H:Hp)(pl:Addr)(as:List Addr)(p:Pile):Prop where
 at_:H pl=some (.lst (as.reverse.map V.ref))
 cs:Cells H as p
 nd:(pl::as).Nodup
section
variable{H H':Hp}{pl:Addr}{K:PySem.W.Frag}{κ:Kl}
theorem Cells.mono:∀{as:List Addr} {p:Pile},Cells H as p->(∀a∈as,∀o,H a=some o->H' a=some o)->Cells H' as p
 |[],[],_,_=>trivial
 |[],_::_,h,_=>h.elim
 |_::_,[],h,_=>h.elim
 |a::as,q::p,h,s=>⟨s a (RF ..) _ h.1,h.2.mono λb hb=>s b (X5 _ hb)⟩
theorem Cells.length:∀{as:List Addr} {p:Pile},Cells H as p->as.length=p.length
 |[],[],_=>rfl
 |[],_::_,h=>h.elim
 |_::_,[],h=>h.elim
 |a::as,q::p,h=>by rw[Wk,Wk,h.2.length]
theorem lG.mono{as:List Addr}{p:Pile}(h:lG H pl as p)(s:aE H H'):lG H' pl as p:=⟨s _ _ h.at_,h.cs.mono λa _ o e=>s a o e,h.nd⟩
theorem aZ.app{vs us:List V}{l m:List PV}(h1:aZ K κ H vs l)(h2:aZ K κ H us m):aZ K κ H (vs++us) (l++m):=by
 induction vs generalizing l with
 |nil=>cases h1;exact h2
 |cons v vs ih=>
  cases h1 with
  |cons a b=>exact .cons a (ih b)
theorem Cells.TY:∀{as:List Addr} {p:Pile},Cells H as p->aZ K κ H (as.reverse.map V.ref) (p.reverse.map A4)
 |[],[],_=>.nil
 |[],_::_,h=>h.elim
 |_::_,[],h=>h.elim
 |a::as,q::p,h=>by
  rw[z07,z0b,z07,z0b]
  exact aZ.app h.2.TY (.cons (.lst (SL.of h.1) (.cons (.int _) (.cons (.int _) .nil))) .nil)
theorem lG.rep{as:List Addr}{p:Pile}(h:lG H pl as p):Rep K κ H (.ref pl) (sM p):=.lst (SL.of h.at_) h.cs.TY
theorem R.fresh{ρ:dO}{σ:St}(hs:∀(i:Nat) s,ρ[i]?=some s->s=.un\/∃p v,s=.sh p/\σ[i]?=some (some v)/\Rep K κ H v p)(hl:σ.length=ρ.length):
  R K κ H (λ_=>False) (λ_=>none) (λ_=>0) ρ σ H/\∀H',dD (λ_=>False) (λ_=>0) ρ H'=H':=by
 have no:∀{i:Nat} {c:Cn},ρ[i]?≠some (.own c):=λ{i c} e=>by rcases hs i _ e with z|⟨_,_,z,_⟩<;>cases z
 have hh:∀H',dD (λ_=>False) (λ_=>0) ρ H'=H':=λH'=>by
  funext b
  exact bJ λz=>z.elim id λ⟨j,m,z,_⟩=>no z
 refine⟨⟨λb z=>z.elim,λi a vs e=>(by cases e),λ_ _ z=>z,λi p e=>?_,λi l e=>absurd e no,λi j l m e=>absurd e no,λi l e=>?_,hl⟩,hh⟩
 ·rcases hs i _ e with z|⟨q,v,z,h1,h2⟩
  ·cases z
  ·cases z
   exact⟨v,h1,by rw[hh];exact h2⟩
 ·rcases hs i _ e with z|⟨_,_,z,_⟩<;>cases z
end
theorem yD{α:Type}(l:List α)(a:α):itemAt (l++[a]) (-1)=some a:=by
 unfold itemAt Le
 rw[if_neg (by decide),if_pos (by rw[z0E];simp;omega)]
 show(l++[a])[(-1+((l++[a]).length:Int)).toNat]?=_
 rw[z0E,show(-1+(((l.length+[a].length:Nat)):Int)).toNat=l.length by simp;omega]
 simp
theorem Ml{α:Type}(l:List α)(a:α):M3 (l++[a]) (-1)=some a:=yD l a
abbrev wo:Den:=ae ie (dV 2) (bU mQ (dC (.int 1)))
section
variable{s0 s1 s3:Slot}{f c:Int}{p:Pile}
theorem Jf:wo [s0,s1,.sh (sM ((f,c)::p)),s3]=some (A4 (f,c)):=by
 show itemAt (((f,c)::p).reverse.map A4) (-1)=_
 rw[z07,z0b]
 exact yD _ _
theorem yE:ae ie wo (dC (.int 1)) [s0,s1,.sh (sM ((f,c)::p)),s3]=some (.int c):=(af Jf (y:=.int 1) rfl).trans rfl
theorem Mm:ae ie wo (dC (.int 0)) [s0,s1,.sh (sM ((f,c)::p)),s3]=some (.int f):=(af Jf (y:=.int 0) rfl).trans rfl
theorem ne_nil:tV (ae tO (dV 2) (oF aO)) [s0,s1,.sh (sM p),s3]=some (decide (p≠[])):=by
 have zl:(0:Nat)<=sizeLine:=z0S _
 have e1:oF aO [s0,s1,.sh (sM p),s3]=some (.lst []):=by
  show(if(0:Nat)<=sizeLine then some (PV.lst [])else none)=_
  rw[if_pos zl]
 refine cq ((af (x:=sM p) rfl e1).trans ?_)
 show(DF (mG 19) (p.reverse.map A4) []).map (λe=>PV.bl !e)=_
 unfold DF
 cases p with
 |nil=>rfl
 |cons a p=>
  rw[if_neg (by simp)]
  rfl
end
def oO:Nat->Str
 |0=> "goes on"
 |1=> "fails"
 |_=> "ends"
def Mn(K:PySem.W.Frag):Sp:=λvs H Q _=>∃(S:Rq.Sy PV) (x:Str) (n:Nat) (pl:Addr) (as:List Addr) (p p':Pile) (a w:Nat),vs=[.str x,.int (n:Nat),.ref pl]/\S.x=x.cps.toList/\x.length<=100000/\n<=x.length/\lG H pl as p/\S.oG n p=((a,w),p')/\
 ∀t H' ni,aE (hide (·∈pl::as) H) (hide (·∈pl::as) H')->lG H' pl ni p'->(∀b∈ni,b∈as)->kM K H' t [.int (a:Nat),.str (oO w)]->Q (.ref t) H'
theorem Ql(x:Str)(n c:Nat):decide (bK x (some (n:Int)) (some ((n+1:Nat):Int)) 1=(⟨#[c]⟩:Str))=decide (x.cps.toList[n]?=some c):=by
 rw[decide_eq_decide,<-Rq.vx]
 exact Rq.yC x n c
abbrev TZ:Den:=eX (dV 0) (aX (dV 1)) (aX (ae aW (dV 1) (dC (.int 1))))
abbrev Nw:Den:=eX (dV 0) (aX (ae aW (dV 1) (dC (.int 1)))) (aX (ae aW (dV 1) (dC (.int 2))))
abbrev YK:de:=rH (tV (ae gM (dV 3) (dC (.str ",")))) (tV (ae yc (ae ie wo (dC (.int 1))) (dC (.int 8))))
abbrev YL:de:=tV (ae gM Nw (dC (.str " ")))
abbrev YM:de:=xO (tV (ae tO (dV 3) (dC (.str ")")))) (tV (ae yc (ae ie wo (dC (.int 1))) (ae ie wo (dC (.int 0)))))
abbrev vy(a:Den)(w:Str):Den:=jO (ah a (ah (dC (.str w)) aO))
def RT:Option Str->Slot
 |some y=>.sh (.str y)
 |none=>.un
structure P4(x:Str)(n:Nat)(pl:Addr)(as:List Addr)(p:Pile)(y:Option Str)(σ:St)(H:Hp):Prop where
 e:σ=[some (.str x),some (.int (n:Nat)),some (.ref pl),y.map V.str]
 p:lG H pl as p
abbrev ρ4(x:Str)(n:Nat)(p:Pile)(y:Option Str):dO:=[.sh (.str x),.sh (.int (n:Nat)),.sh (sM p),RT y]
section
variable{K:PySem.W.Frag}{κ:Kl}{x:Str}{n:Nat}{pl:Addr}{as:List Addr}{p:Pile}{y:Option Str}{σ:St}{H H':Hp}
theorem P4.mono(h:P4 x n pl as p y σ H)(s:aE H H'):P4 x n pl as p y σ H':=⟨h.e,h.p.mono s⟩
theorem P4.r(h:P4 x n pl as p y σ H):R K κ H (λ_=>False) (λ_=>none) (λ_=>0) (ρ4 x n p y) σ H/\∀H',dD (λ_=>False) (λ_=>0) (ρ4 x n p y) H'=H':=by
 have e:=h.e
 subst e
 refine R.fresh (λi s hs=>?_) rfl
 match i,hs with
 |0,rfl=>exact .inr ⟨_,_,rfl,rfl,.str x⟩
 |1,rfl=>exact .inr ⟨_,_,rfl,rfl,.int _⟩
 |2,rfl=>exact .inr ⟨_,_,rfl,rfl,h.p.rep⟩
 |3,hs=>
  have hs:some (RT y)=some s:=hs
  cases hs
  cases y with
  |none=>exact .inl rfl
  |some y=>exact .inr ⟨_,_,rfl,rfl,.str y⟩
 |i+4,hs=>cases hs
theorem P4.ev{te:TE}{f:Den}{q:PV}{Q:VK}(h:P4 x n pl as p y σ H)(he:M9 K κ te f)(hf:f (ρ4 x n p y)=some q)(k:∀v H',aE H H'->Rep K κ H' v q->Q v H'):te σ H Q:=by
 obtain⟨r,hh⟩:=h.r (K:=K) (κ:=κ)
 exact he r hf λv H' s z=>k v H' s (by rw[hh]at z;exact z)
theorem P4.Cr{tt:TT}{f:de}{b:Bool}{Q:Bool->Hp->Prop}(h:P4 x n pl as p y σ H)(he:S5 K κ tt f)(hf:f (ρ4 x n p y)=some b)(k:∀H',aE H H'->Q b H'):tt σ H Q:=he (h.r (K:=K) (κ:=κ)).1 hf k
end
def BS(X:Cx)(κ:Kl)(st:Stmt)(go:Str->Nat->Addr->List Addr->Pile->Option Str->(Hp->Hp->Prop)->Nat->List Addr->Pile->Option Str->Prop):Prop:=
 ∃ts,PS X st ts/\∀{x n pl as p y σ H D F n' ni p' y'},P4 x n pl as p y σ H->go x n pl as p y F n' ni p' y'->(∀σ' H',P4 x n' pl ni p' y' σ' H'->F H H'->D.nx σ' H')->ts D σ H
section
variable{X:Cx}{κ:Kl}{e i1 i2:Expr}{f:Den}{p1 p2 p3 pos p5 p' apos bY:Pos}{xp xs:Str}
theorem Mo(he:DE X κ e (ae aW (ae ie wo (dC (.int 1))) (dC (.int 1))))(h1:DE X κ i1 (bU mQ (dC (.int 1))))(h2:DE X κ i2 (dC (.int 1)))(hN:X.N[2]?=some xp:=by rfl)(hv:uq X.env.scope xp:=by first|exact Or.inl rfl|exact Or.inr (Or.inl rfl)|exact Or.inr (Or.inr rfl))(hd:(xp==("__debug__" :Str))=false:=by decide)(j0:(xp==("__classdict__" :Str))=false:=by decide)(hp:xV i1:=by intro _ _;rfl)
  (ha:∀v,assign (.Subscript (.Subscript (.Name xp p1) i1 p2) i2 p3) X.env v=(do
    let ov<-holding [v] (eval (.Subscript (.Name xp p1) i1 p2) X.env)
    let iv<-holding [v,ov] (eval i2 X.env)
    standAt p3
    holding [v,ov,iv] (setItem ov iv v)
    release [v,ov,iv] []):=by intro _;rfl)
  (hs:swapsWithSole [.Subscript (.Subscript (.Name xp p1) i1 p2) i2 p3] e pos.line X.env=pure false:=by rfl)(hw:swappedStores [.Subscript (.Subscript (.Name xp p1) i1 p2) i2 p3] e X.env=pure none:=by rfl)
  (Tq:(assignEach [.Subscript (.Subscript (.Name xp p1) i1 p2) i2 p3] X.env).map (·.2)=[assign (.Subscript (.Subscript (.Name xp p1) i1 p2) i2 p3) X.env]:=by rfl):
  BS X κ (.Assign [.Subscript (.Subscript (.Name xp p1) i1 p2) i2 p3] e pos) (λx n pl as p y F n' ni p' y'=>∃g c q,p=(g,c)::q/\p'=(g,c+1)::q/\n'=n/\ni=as/\y'=y/\F=λH H'=>aE (hide (·∈pl::as) H) (hide (·∈pl::as) H')):=by
 obtain⟨te,a1,b1⟩:=he
 obtain⟨t1,a2,b2⟩:=h1
 obtain⟨t2,a3,b3⟩:=h2
 refine⟨_,BG a1 (Oe (M4 Dv (dm hN hv hd j0) a2 hp) a3 set_list ha) hs hw Tq,?_⟩
 rintro x n pl as p y σ H D F n' ni p' y' P ⟨g,c,q,rfl,rfl,rfl,rfl,rfl,rfl⟩ k
 refine P.ev b1 ((af yE (y:=.int 1) rfl).trans rfl) λv H1 s1 z1=>?_
 cases z1
 have P1:=P.mono s1
 have e2:σ[2]?=some (some (.ref pl)):=by rw[P.e];rfl
 refine⟨.ref pl,e2,P1.ev b2 (q:=.int (-1)) rfl λv2 H2 s2 z2=>?_⟩
 cases z2
 have P2:=P1.mono s2
 have hc:=P2.p.cs
 cases ni with
 |nil=>exact hc.elim
 |cons a as=>
  have RU:=P2.p.at_
  rw[z07,z0b]at RU
  refine⟨pl,_,-1,.ref a,rfl,rfl,mK.of RU,Ml _ _,?_⟩
  refine P2.ev b3 (q:=.int 1) rfl λv3 H3 s3 z3=>?_
  cases z3
  have P3:=P2.mono s3
  have YN:=P3.p.cs
  refine⟨a,_,1,1,rfl,rfl,YN.1,rfl,?_⟩
  have nd:=P3.p.nd
  have n1:a≠pl:=λz=>by
   rw[z0c]at nd
   exact nd.1 (by rw[z];exact RF ..)
  have n2:a∉as:=by
   rw[z0c,z0c]at nd
   exact nd.2.1
  refine k _ _ ⟨P.e,⟨?_,⟨aC,YN.2.mono λb hb o z=>?_⟩,nd⟩⟩ ?_
  ·rw[au (Ne.symm n1)]
   exact P3.p.at_
  ·rw[au (λw:b=a=>n2 (w▸hb))]
   exact z
  ·refine(aV ((s1.trans s2).trans s3)).trans λb o hb=>?_
   obtain⟨nb,hb⟩:=bV hb
   rw[bJ nb,au λw=>nb (by rw[w];exact X5 _ (RF ..))]
   exact hb
theorem Mp(nd:X.N.Nodup)(he:DE X κ e f)(hi:X.N[3]?=some xs:=by rfl)(hx:Loc X.env.scope xs:=by first|exact Or.inl rfl|exact Or.inr rfl)(hs:swapsWith e (some (.Name xs p5)) pos.line X.env=pure false:=by rfl)
  (hf:X.fn xs=true\/X.env.scope.names.lookup xs=some .local:=by first|exact .inl rfl|exact .inr rfl):
  BS X κ (.Assign [.Name xs p5] e pos) (λx n pl as p y F n' ni p' y'=>∃z,f (ρ4 x n p y)=some (.str z)/\p'=p/\n'=n/\ni=as/\y'=some z/\F=aE):=by
 obtain⟨te,a1,b1⟩:=he
 refine⟨_,ic nd hi hx a1 hs hf,?_⟩
 rintro x n pl as p y σ H D F n' ni p' y' P ⟨z,hz,rfl,rfl,rfl,rfl,rfl⟩ k
 refine P.ev b1 hz λv H1 s1 z1=>?_
 cases z1
 refine k _ _ ⟨?_,(P.mono s1).p⟩ s1
 rw[P.e]
 rfl
theorem T4(nd:X.N.Nodup)(he:DE X κ e f)(hi:X.N[1]?=some xs:=by rfl)(hx:Loc X.env.scope xs:=by first|exact Or.inl rfl|exact Or.inr rfl)(hs:swapsWith e (some (.Name xs p5)) pos.line X.env=pure false:=by rfl)
  (hf:X.fn xs=true\/X.env.scope.names.lookup xs=some .local:=by first|exact .inl rfl|exact .inr rfl):
  BS X κ (.Assign [.Name xs p5] e pos) (λx n pl as p y F n' ni p' y'=>f (ρ4 x n p y)=some (.int (n':Nat))/\p'=p/\ni=as/\y'=y/\F=aE):=by
 obtain⟨te,a1,b1⟩:=he
 refine⟨_,ic nd hi hx a1 hs hf,?_⟩
 rintro x n pl as p y σ H D F n' ni p' y' P ⟨hz,rfl,rfl,rfl,rfl⟩ k
 refine P.ev b1 hz λv H1 s1 z1=>?_
 cases z1
 refine k _ _ ⟨?_,(P.mono s1).p⟩ s1
 rw[P.e]
 rfl
theorem Qm(hN:X.N[2]?=some xp:=by rfl)(hv:uq X.env.scope xp:=by first|exact Or.inl rfl|exact Or.inr (Or.inl rfl)|exact Or.inr (Or.inr rfl))(hd:(xp==("__debug__" :Str))=false:=by decide)(j0:(xp==("__classdict__" :Str))=false:=by decide)
  (iF:attributeBase (.Name xp p') "pop" X.env (eval (.Name xp p') X.env)=eval (.Name xp p') X.env:=by rfl)(iG:(apos.endLine==bY.line)=true:=by rfl)(hs:swapsWith (.Call (.Attribute (.Name xp p') "pop" apos) [] [] bY) none pos.line X.env=pure false:=by rfl):
  BS X κ (.Expr (.Call (.Attribute (.Name xp p') "pop" apos) [] [] bY) pos) (λx n pl as p y F n' ni p' y'=>∃c,p=c::p'/\ni=as.tail/\n'=n/\y'=y/\F=λH H'=>aE (hide (·∈pl::as) H) (hide (·∈pl::as) H')):=by
 refine⟨_,g0 (G5 z0t PySem.F.slot_list_pop PySem.F.type_list_pop OO (dm hN hv hd j0) iF iG) hs,?_⟩
 rintro x n pl as p y σ H D F n' ni p' y' P ⟨c,rfl,rfl,rfl,rfl,rfl⟩ k
 have e2:σ[2]?=some (some (.ref pl)):=by rw[P.e];rfl
 have hc:=P.p.cs
 cases as with
 |nil=>exact hc.elim
 |cons a as=>
  have RU:=P.p.at_
  rw[z07,z0b]at RU
  have nd:=P.p.nd
  refine⟨.ref pl,e2,.inl ⟨rfl,_,mK.of RU⟩,pl,_,.ref a,rfl,rfl,RU,by simp,?_⟩
  refine k _ _ ⟨P.e,⟨?_,hc.2.mono λb hb o z=>?_,?_⟩⟩ λb o hb=>?_
  ·rw[aC]
   simp
  ·rw[au λw=>by
     rw[z0c]at nd
     exact nd.1 (by rw[<-w];exact X5 _ hb)]
   exact z
  ·rw[z0c,z0c]at nd
   rw[List.tail_cons,z0c]
   exact⟨λz=>nd.1 (X5 _ z),nd.2.2⟩
  ·obtain⟨nb,hb⟩:=bV hb
   rw[bJ nb,au λw=>nb (by rw[w];exact RF ..)]
   exact hb
end
abbrev jW(x:Str)(n:Nat):Str:=bK x (some (n:Int)) (some ((n+1:Nat):Int)) 1
section
variable{x:Str}{n:Nat}{p:Pile}{y:Option Str}{f c:Int}
theorem Qn(hl:x.length<=100000):TZ (ρ4 x n p y)=some (.str (jW x n)):=cV (y:=x) (l:=some (n:Int)) (h:=some ((n+1:Nat):Int)) rfl rfl rfl hl
theorem go_eq:YK (ρ4 x n ((f,c)::p) (some (jW x n)))=some (decide (x.cps.toList[n]?=some 44/\c<8)):=by
 have e1:tV (ae gM (dV 3) (dC (.str ","))) (ρ4 x n ((f,c)::p) (some (jW x n)))=some (decide (x.cps.toList[n]?=some 44)):=by
  refine cq ((af (x:=.str (jW x n)) (y:=.str ",") rfl rfl).trans ?_)
  show some (PV.bl (decide (jW x n= ",")))=_
  rw[Rq.Nu,Ql]
 have e2:tV (ae yc (ae ie wo (dC (.int 1))) (dC (.int 8))) (ρ4 x n ((f,c)::p) (some (jW x n)))=some (decide (c<8)):=cq ((af yE (y:=.int 8) rfl).trans rfl)
 show((tV (ae gM (dV 3) (dC (.str ","))) (ρ4 x n ((f,c)::p) (some (jW x n)))).bind _)=_
 rw[e1]
 by_cases h:x.cps.toList[n]?=some 44
 ·rw[decide_eq_true h]
  refine e2.trans ?_
  congr 1
  rw[decide_eq_decide]
  exact⟨λz=>⟨h,z⟩,λz=>z.2⟩
 ·rw[decide_eq_false h,decide_eq_false (λz=>h z.1)]
  rfl
theorem T5(hl:x.length<=100000):YL (ρ4 x n p y)=some (decide (x.cps.toList[n+1]?=some 32)):=by
 have e1:Nw (ρ4 x n p y)=some (.str (jW x (n+1))):=cV (y:=x) (l:=some ((n+1:Nat):Int)) (h:=some ((n+1+1:Nat):Int)) rfl rfl (by
  show some (some ((n:Int)+2))=_
  rw[show((n+1+1:Nat):Int)=(n:Int)+2 by omega]) hl
 refine cq ((af e1 (y:=.str " ") rfl).trans ?_)
 show some (PV.bl (decide (jW x (n+1)= " ")))=_
 rw[Rq.Nv,Ql]
theorem T6:YM (ρ4 x n ((f,c)::p) (some (jW x n)))=some (decide (x.cps.toList[n]?≠some 41\/c<f)):=by
 have e1:tV (ae tO (dV 3) (dC (.str ")"))) (ρ4 x n ((f,c)::p) (some (jW x n)))=some (!decide (x.cps.toList[n]?=some 41)):=by
  refine cq ((af (x:=.str (jW x n)) (y:=.str ")") rfl rfl).trans ?_)
  show some (PV.bl (!decide (jW x n= ")")))=_
  rw[Rq.A3,Ql]
 have e2:tV (ae yc (ae ie wo (dC (.int 1))) (ae ie wo (dC (.int 0)))) (ρ4 x n ((f,c)::p) (some (jW x n)))=some (decide (c<f)):=cq ((af yE Mm).trans rfl)
 show((tV (ae tO (dV 3) (dC (.str ")"))) (ρ4 x n ((f,c)::p) (some (jW x n)))).bind _)=_
 rw[e1]
 by_cases h:x.cps.toList[n]?=some 41
 ·rw[decide_eq_true h]
  refine e2.trans ?_
  congr 1
  rw[decide_eq_decide]
  exact⟨λz=>.inr z,λz=>z.elim (λw=>absurd h w) id⟩
 ·rw[decide_eq_false h,decide_eq_true (.inl h)]
  rfl
theorem Mq{a:Den}{m:Nat}{w:Str}(h:a (ρ4 x n p y)=some (.int (m:Nat))):vy a w (ρ4 x n p y)=some (.tup [.int (m:Nat),.str w]):=by
 have zl:(2:Nat)<=sizeLine:=by decide
 show((ah a (ah (dC (.str w)) aO) (ρ4 x n p y)).bind _)=_
 rw[aA h (aA (x:=.str w) rfl rfl)]
 show(if(2:Nat)<=sizeLine then some (PV.tup [.int (m:Nat),.str w])else none)=_
 rw[if_pos zl]
end
section
variable{X:Cx}{κ:Kl}{e0 e3 e4 e5 e6 e7 e8 Qo YO YQ:Expr}{M5 GR Ol YR:Stmt}{p7 p8 p9 p10 p11 p12 p19 p20 p21 p22:Pos}
theorem A5{vs:List V}{H:Hp}{Q:VK}{E:XK}{N:List Str}(hlen:N.length=4)(hp:PassesOwn (model X.prog X.w) X.A X.env X.xe)
  (c0:DT X κ e0 (tV (ae tO (dV 2) (oF aO))))(s1:BS X κ M5 (λx n pl as p y F n' ni p' y'=>∃g c q,p=(g,c)::q/\p'=(g,c+1)::q/\n'=n/\ni=as/\y'=y/\F=λH H'=>aE (hide (·∈pl::as) H) (hide (·∈pl::as) H')))
  (s2:BS X κ GR (λx n pl as p y F n' ni p' y'=>∃z,TZ (ρ4 x n p y)=some (.str z)/\p'=p/\n'=n/\ni=as/\y'=some z/\F=aE))(c3:DT X κ e3 YK)(c4:DT X κ e4 YL)
  (d5:DE X κ e5 (vy (ae aW (dV 1) (dC (.int 2))) "goes on"))(d6:DE X κ e6 (vy (ae aW (dV 1) (dC (.int 1))) "fails"))(c7:DT X κ e7 YM)(d8:DE X κ e8 (vy (bZ 1) "fails"))
  (s3:BS X κ Ol (λx n pl as p y F n' ni p' y'=>∃c,p=c::p'/\ni=as.tail/\n'=n/\y'=y/\F=λH H'=>aE (hide (·∈pl::as) H) (hide (·∈pl::as) H')))
  (s4:BS X κ YR (λx n pl as p y F n' ni p' y'=>ae aW (dV 1) (dC (.int 1)) (ρ4 x n p y)=some (.int (n':Nat))/\p'=p/\ni=as/\y'=y/\F=aE))
  (c10:DT X κ Qo (tV (ae gM (dV 1) (bU cL (dV 0)))))(d11:DE X κ YO (vy (bZ 1) "ends"))(d12:DE X κ YQ (vy (bZ 1) "fails"))
  (h:Mn X.K vs H Q E):∃ts,xM X [.While e0 [M5,GR,.If e3 [.If e4 [.Return (some e5) p7] [] p8,.Return (some e6) p9] [] p10,.If e7 [.Return (some e8) p11] [] p12,Ol,YR] [] p19,.If Qo [.Return (some YO) p20] [] p21,.Return (some YQ) p22] ts/\ts {nx:=λ_ H'=>Q .non H',rt:=Q} (start N vs) H:=by
 obtain⟨t0,a0,b0⟩:=c0
 obtain⟨t1,a1,b1⟩:=s1
 obtain⟨t2,a2,b2⟩:=s2
 obtain⟨t3,a3,b3⟩:=c3
 obtain⟨t4,a4,b4⟩:=c4
 obtain⟨t5,a5,b5⟩:=d5
 obtain⟨t6,a6,b6⟩:=d6
 obtain⟨t7,a7,b7⟩:=c7
 obtain⟨t8,a8,b8⟩:=d8
 obtain⟨u3,a13,b13⟩:=s3
 obtain⟨u4,a14,b14⟩:=s4
 obtain⟨T7,a10,b10⟩:=c10
 obtain⟨t11,a11,b11⟩:=d11
 obtain⟨t12,a12,b12⟩:=d12
 refine⟨_,aQ (ql hp a0 (aQ a1 (aQ a2 (aQ (gV a3 (aQ (gV a4 (bx (eR a5)) cS) (bx (eR a6))) cS) (aQ (gV a7 (bx (eR a8)) cS) (aQ a13 (bx a14))))))) (aQ (gV a10 (bx (eR a11)) cS) (bx (eR a12))),?_⟩
 obtain⟨S,x,n,pl,as,p,p',a,w,rfl,hS,hl,hn,hP,hB,q⟩:=h
 have zl:(100000:Nat)<=sizeLine:=by decide
 have YS:S.x.length=x.length:=by rw[hS];exact SR
 have es:start N [.str x,.int (n:Nat),.ref pl]=[some (.str x),some (.int (n:Nat)),some (.ref pl),none]:=by
  show[some (V.str x),some (V.int (n:Nat)),some (V.ref pl)]++List.replicate (N.length-3) none=_
  rw[hlen]
  rfl
 rw[es]
 have tell:∀{n1:Nat} {Jg:List Addr} {p1:Pile} {y:Option Str} {σ:St} {H1:Hp} {te:TE} {d:Den} {m:Nat} {wd:Nat},P4 x n1 pl Jg p1 y σ H1->aE (hide (·∈pl::as) H) (hide (·∈pl::as) H1)->(∀b∈Jg,b∈as)->M9 X.K κ te (vy d (oO wd))->d (ρ4 x n1 p1 y)=some (.int (m:Nat))->((a,w),p')=((m,wd),p1)->te σ H1 Q:=λ{n1 Jg p1 y σ H1 te d m wd} P1 F1 sub ev hd e=>by
  cases e
  refine P1.ev ev (Mq hd) λv H2 s2 z=>?_
  cases z with
  |tup z1 z2=>
   cases z2 with
   |cons y1 y2=>
    cases y1
    cases y2 with
    |cons y1 y2=>
     cases y1
     cases y2
     exact q _ H2 Jg (F1.trans (aV s2)) (P1.mono s2).p sub z1
 refine⟨λm σ H1=>∃n1 Jg p1 y,P4 x n1 pl Jg p1 y σ H1/\m=p1.length/\S.oG n1 p1=((a,w),p')/\n1<=x.length/\aE (hide (·∈pl::as) H) (hide (·∈pl::as) H1)/\∀b∈Jg,b∈as,⟨_,n,as,p,none,⟨rfl,hP⟩,rfl,hB,hn,λ_ _ z=>z,λ_ z=>z⟩,?_⟩
 rintro m σ H1 ⟨n1,Jg,p1,y,P1,rfl,hb,PY,F1,sub⟩
 refine P1.Cr b0 ne_nil λH2 s2=>?_
 have P2:=P1.mono s2
 have F2:=F1.trans (aV (A:=(·∈pl::as)) s2)
 have big:∀{G G':Hp} {ni:List Addr},(∀b∈ni,b∈as)->aE (hide (·∈pl::ni) G) (hide (·∈pl::ni) G')->aE (hide (·∈pl::as) G) (hide (·∈pl::as) G'):=λ{G G' ni} sb s b o hb=>by
  obtain⟨nb,hb⟩:=bV hb
  rw[bJ nb]
  have:¬b∈pl::ni:=λz=>nb ((z0N.mp z).elim (λy=>y▸RF ..) λy=>X5 _ (sb b y))
  have:=s b o (by rw[bJ this];exact hb)
  exact(bV this).2
 cases p1 with
 |nil=>
  rw[decide_eq_false (λz=>z rfl)]
  rw[if_neg z0J]
  have hb:((n1,if n1=S.x.length then 2 else 1),[])=((a,w),p'):=hb
  have hlen:bU cL (dV 0) (ρ4 x n1 [] y)=some (.int (x.length:Nat)):=(cK (x:=.str x) rfl).trans (if_pos (z0T hl zl))
  have ht:tV (ae gM (dV 1) (bU cL (dV 0))) (ρ4 x n1 [] y)=some (decide (n1=x.length)):=by
   refine cq ((af (x:=.int (n1:Nat)) rfl hlen).trans ?_)
   show some (PV.bl (decide ((n1:Int)=(x.length:Int))))=_
   congr 2
   rw[decide_eq_decide]
   omega
  refine P2.Cr b10 ht λH3 s3=>?_
  have P3:=P2.mono s3
  have F3:=F2.trans (aV (A:=(·∈pl::as)) s3)
  by_cases he:n1=x.length
  ·rw[decide_eq_true he]
   rw[if_pos (by rw[YS];exact he)]at hb
   exact uF (tell (wd:=2) P3 F3 sub b11 rfl hb.symm)
  ·rw[decide_eq_false he]
   rw[if_neg (by rw[YS];exact he)]at hb
   exact qw (tell (wd:=1) P3 F3 sub b12 rfl hb.symm)
 |cons fc r=>
  obtain⟨f,c⟩:=fc
  rw[decide_eq_true (λz=>by cases z)]
  rw[if_pos rfl]
  rw[Rq.Sy.oG,hS]at hb
  refine⟨λσ' H'=>∃n1 Jg y,P4 x n1 pl Jg r y σ' H'/\S.oG n1 r=((a,w),p')/\n1<=x.length/\aE (hide (·∈pl::as) H) (hide (·∈pl::as) H')/\∀b∈Jg,b∈as,λσ' H' ⟨n2,as2,y2,h1,h2,h3,h4,h5⟩=>⟨r.length,z1E _,n2,as2,r,y2,h1,rfl,h2,h3,h4,h5⟩,?_⟩
  refine b1 P2 ⟨f,c,r,rfl,rfl,rfl,rfl,rfl,rfl⟩ λσ3 H3 P3 F3=>?_
  have F3:=F2.trans (big sub F3)
  refine b2 P3 ⟨_,Qn hl,rfl,rfl,rfl,rfl,rfl⟩ λσ4 H4 YT F4=>?_
  have F4:=F3.trans (aV (A:=(·∈pl::as)) F4)
  refine YT.Cr b3 go_eq λH5 s5=>?_
  have P5:=YT.mono s5
  have F5:=F4.trans (aV (A:=(·∈pl::as)) s5)
  by_cases hgo:x.cps.toList[n1]?=some 44/\c+1<8
  ·rw[decide_eq_true hgo]
   rw[if_pos hgo]at hb
   refine uF (P5.Cr b4 (T5 hl) λH6 s6=>?_)
   have P6:=P5.mono s6
   have F6:=F5.trans (aV (A:=(·∈pl::as)) s6)
   by_cases xu:x.cps.toList[n1+1]?=some 32
   ·rw[decide_eq_true xu]
    rw[if_pos xu]at hb
    exact uF (tell (m:=n1+2) (wd:=0) P6 F6 sub b5 rfl hb.symm)
   ·rw[decide_eq_false xu]
    rw[if_neg xu]at hb
    exact qw (tell (m:=n1+1) (wd:=1) P6 F6 sub b6 rfl hb.symm)
  ·rw[decide_eq_false hgo]
   rw[if_neg hgo]at hb
   refine qw (P5.Cr b7 T6 λH6 s6=>?_)
   have P6:=P5.mono s6
   have F6:=F5.trans (aV (A:=(·∈pl::as)) s6)
   by_cases K5:x.cps.toList[n1]?≠some 41\/c+1<f
   ·rw[decide_eq_true K5]
    rw[if_pos K5]at hb
    exact uF (tell (wd:=1) P6 F6 sub b8 rfl hb.symm)
   ·rw[decide_eq_false K5]
    rw[if_neg K5]at hb
    refine qw (b13 P6 ⟨_,rfl,rfl,rfl,rfl,rfl⟩ λσ7 H7 P7 F7=>?_)
    have F7:=F6.trans (big sub F7)
    refine b14 P7 (n':=n1+1) ⟨rfl,rfl,rfl,rfl,rfl⟩ λσ8 H8 P8 F8=>?_
    have F8:=F7.trans (aV (A:=(·∈pl::as)) F8)
    refine⟨n1+1,_,_,P8,hb,?_,F8,λb pA=>sub b (List.mem_of_mem_tail pA)⟩
    have Nn:x.cps.toList[n1]?=some 41:=z0W λz=>K5 (.inl z)
    have:=Rq.vg Nn
    rw[show x.cps.toList.length=x.length from SR]at this
    omega
end
def YU:Option Int->Slot
 |some y=>.sh (.int y)
 |none=>.un
abbrev ρ7(rp:PV)(x:Str)(n:Nat)(b:Option Int)(w wd:Option Str):dO:=[.sh rp,.sh (.str x),.un,.sh (.int (n:Nat)),YU b,RT w,RT wd]
structure P7(K:PySem.W.Frag)(κ:Kl)(H0:Hp)(rp:PV)(v0:V)(x:Str)(n:Nat)(pl:Addr)(as:List Addr)(p:Pile)(b:Option Int)(w wd:Option Str)(σ:St)(H:Hp):Prop where
 e:σ=[some v0,some (.str x),some (.ref pl),some (.int (n:Nat)),b.map V.int,w.map V.str,wd.map V.str]
 p:lG H pl as p
 s:aE H0 H
 r0:Rep K κ H0 v0 rp
 nw:∀a∈pl::as,H0 a=none
section
variable{K:PySem.W.Frag}{κ:Kl}{H0:Hp}{rp:PV}{v0:V}{x:Str}{n:Nat}{pl:Addr}{as:List Addr}{p:Pile}{b:Option Int}{w wd:Option Str}{σ:St}{H H':Hp}
theorem P7.mono(h:P7 K κ H0 rp v0 x n pl as p b w wd σ H)(s:aE H H'):P7 K κ H0 rp v0 x n pl as p b w wd σ H':=⟨h.e,h.p.mono s,h.s.trans s,h.r0,h.nw⟩
theorem P7.r(h:P7 K κ H0 rp v0 x n pl as p b w wd σ H):R K κ H (λ_=>False) (λ_=>none) (λ_=>0) (ρ7 rp x n b w wd) σ H/\∀H',dD (λ_=>False) (λ_=>0) (ρ7 rp x n b w wd) H'=H':=by
 have e:=h.e
 subst e
 refine R.fresh (λi s hs=>?_) rfl
 match i,hs with
 |0,rfl=>exact .inr ⟨_,_,rfl,rfl,h.r0.mono h.s⟩
 |1,rfl=>exact .inr ⟨_,_,rfl,rfl,.str x⟩
 |2,rfl=>exact .inl rfl
 |3,rfl=>exact .inr ⟨_,_,rfl,rfl,.int _⟩
 |4,hs=>
  have hs:some (YU b)=some s:=hs
  cases hs
  cases b with
  |none=>exact .inl rfl
  |some y=>exact .inr ⟨_,_,rfl,rfl,.int y⟩
 |5,hs=>
  have hs:some (RT w)=some s:=hs
  cases hs
  cases w with
  |none=>exact .inl rfl
  |some y=>exact .inr ⟨_,_,rfl,rfl,.str y⟩
 |6,hs=>
  have hs:some (RT wd)=some s:=hs
  cases hs
  cases wd with
  |none=>exact .inl rfl
  |some y=>exact .inr ⟨_,_,rfl,rfl,.str y⟩
 |i+7,hs=>cases hs
theorem P7.ev{te:TE}{f:Den}{q:PV}{Q:VK}(h:P7 K κ H0 rp v0 x n pl as p b w wd σ H)(he:M9 K κ te f)(hf:f (ρ7 rp x n b w wd)=some q)(k:∀v H',aE H H'->Rep K κ H' v q->Q v H'):te σ H Q:=by
 obtain⟨r,hh⟩:=h.r
 exact he r hf λv H' s z=>k v H' s (by rw[hh]at z;exact z)
theorem P7.Cr{tt:TT}{f:de}{c:Bool}{Q:Bool->Hp->Prop}(h:P7 K κ H0 rp v0 x n pl as p b w wd σ H)(he:S5 K κ tt f)(hf:f (ρ7 rp x n b w wd)=some c)(k:∀H',aE H H'->Q c H'):tt σ H Q:=he h.r.1 hf k
end
theorem Jh{K:PySem.W.Frag}{κ:Kl}{H:Hp}{v:V}{i:Int}{y:Str}(z:Rep K κ H v (.tup [.int i,.str y])):∃t,v=.ref t/\kM K H t [.int i,.str y]:=by
 cases z with
 |tup z1 z2=>
  cases z2 with
  |cons y1 y2=>
   cases y1
   cases y2 with
   |cons y1 y2=>
    cases y1
    cases y2
    exact⟨_,rfl,z1⟩
section
variable{X:Cx}{κ:Kl}{e:Expr}{pos p' apos bY tp sp pa pb p1:Pos}{a b xp:Str}{n1:Nat}
abbrev T8(X:Cx)(i j:Nat):TG:=Sf X.K 2 (GL (mL i) (GL (mL j) Se))
theorem yF{i j:Nat}{t:Addr}{u w:V}{σ:St}{H:Hp}{Q:St->Hp->Prop}(h:kM X.K H t [u,w])(k:Q ((σ.set i (some u)).set j (some w)) H):T8 X i j (.ref t) σ H Q:=⟨t,[u,w],rfl,h,rfl,u,[w],rfl,w,[],rfl,rfl,k⟩
theorem Ji(i j:Nat)(nd:X.N.Nodup)(hia:X.N[i]?=some a:=by rfl)(hib:X.N[j]?=some b:=by rfl)
  (Vx:Loc X.env.scope a:=by first|exact Or.inl rfl|exact Or.inr rfl)(Vy:Loc X.env.scope b:=by first|exact Or.inl rfl|exact Or.inr rfl)
  (W7:X.fn a=true\/X.env.scope.names.lookup a=some .local:=by first|exact .inl rfl|exact .inr rfl)(hfb:X.fn b=true\/X.env.scope.names.lookup b=some .local:=by first|exact .inl rfl|exact .inr rfl)
  (hc:X.calm=true:=by rfl)(hs:(assignEach [.Name a pa,.Name b pb] X.env).map (·.2)=assign (.Name a pa) X.env::(assignEach [.Name b pb] X.env).map (·.2):=by rfl)(o9:(assignEach [.Name b pb] X.env).map (·.2)=assign (.Name b pb) X.env::(assignEach [] X.env).map (·.2):=by rfl)
  (hn:(assignEach [.Name a pa,.Name b pb] X.env).length=2:=by rfl)(kJ:(assignEach [.Name a pa,.Name b pb] X.env).findIdx? (·.1)=none:=by rfl)
  (OY:swapsWithSole [.Tuple [.Name a pa,.Name b pb] n1 tp] e sp.line X.env=pure false:=by rfl)(hw:swappedStores [.Tuple [.Name a pa,.Name b pb] n1 tp] e X.env=pure none:=by rfl)
  (Tq:(assignEach [.Tuple [.Name a pa,.Name b pb] n1 tp] X.env).map (·.2)=[assign (.Tuple [.Name a pa,.Name b pb] n1 tp) X.env]:=by rfl):
  ∀te,PE X e te->PS X (.Assign [.Tuple [.Name a pa,.Name b pb] n1 tp] e sp) (tH te (T8 X i j)):=
 λte h=>BG h (BF hc (mM (xP nd hia Vx W7) (mM (xP nd hib Vy hfb) xQ o9) hs) hn kJ) OY hw Tq
theorem Nx(i:Nat)(nd:X.N.Nodup)(hi:X.N[i]?=some a:=by rfl)(hx:Loc X.env.scope a:=by first|exact Or.inl rfl|exact Or.inr rfl)(hs:swapsWith e (some (.Name a pa)) pos.line X.env=pure false:=by rfl)
 (hf:X.fn a=true\/X.env.scope.names.lookup a=some .local:=by first|exact .inl rfl|exact .inr rfl):∀te,PE X e te->PS X (.Assign [.Name a pa] e pos) (tH te (mL i)):=λte h=>ic nd hi hx h hs hf
theorem T9(i:Nat)(hN:X.N[i]?=some xp:=by rfl)(hv:uq X.env.scope xp:=by first|exact Or.inl rfl|exact Or.inr (Or.inl rfl)|exact Or.inr (Or.inr rfl))(hd:(xp==("__debug__" :Str))=false:=by decide)
  (j0:(xp==("__classdict__" :Str))=false:=by decide)(iF:attributeBase (.Name xp p') "append" X.env (eval (.Name xp p') X.env)=eval (.Name xp p') X.env:=by rfl)
  (rP:((backTo bY (starEach [e] X.env)).all (λx=>!x.1)&&(backToKw bY (keywordEach [] X.env)).all (λx=>x.1.isSome)
    &&decide ([e].length+([]:List Keyword).length+(if([]:List Keyword).isEmpty then 0 else 1)<30))=true:=by rfl)
  (hs:swapsWith (.Call (.Attribute (.Name xp p') "append" apos) [e] [] bY) none pos.line X.env=pure false:=by rfl)(iG:(apos.endLine==bY.line)=true:=by rfl)(kJ:starEach [e] X.env=(false,eval e X.env)::starEach [] X.env:=by rfl):
  ∀te,PE X e te->PS X (.Expr (.Call (.Attribute (.Name xp p') "append" apos) [e] [] bY) pos) (qk (RE X.K "list" qv (fR i) (eU te kc))):=
 λte h=>g0 (wN z0t z1G z1H oj (dm hN hv hd j0) (aG h bG kJ) iF rP iG kJ rfl) hs
end
theorem Jj{S:Rq.Sy PV}:∀(p:Pile) {n a w:Nat} {p':Pile},S.oG n p=((a,w),p')->w<=2
 |[],n,a,w,p',h=>by
  have h:((n,if n=S.x.length then 2 else 1),[])=((a,w),p'):=h
  cases h
  split<;>omega
 |(f,c)::p,n,a,w,p',h=>by
  unfold Rq.Sy.oG at h
  split at h
  ·split at h
   ·cases h;omega
   ·cases h;omega
  ·split at h
   ·cases h;omega
   ·exact Jj p h
def Vk(x:Str):Rq.Sy PV:=⟨x.cps.toList,[],[],λ_=>none,λ_=>0,λ_=>.non,λ_ _=>.non⟩
abbrev Eu:de:=tV (ae gM (ae ie (dV 5) (bU mQ (dC (.int 1)))) (dC (.str "(")))
abbrev FN:Den:=ae HK (dC (.str "012345678")) (ae ie (dV 5) (dC (.int 0)))
def lD(w:Str):Option Bool:=Eu [.un,.un,.un,.un,.un,.sh (.str w),.un]
def fD(w:Str):Option Int:=(FN [.un,.un,.un,.un,.un,.sh (.str w),.un]).bind S0
def qQ(F:List PV->Option PV)(rp:PV)(x:Str):Nat->Nat->Pile->Option (Option Nat)
 |0,_,_=>none
 |k+1,n,p=>match F [rp,.str x,.int (n:Nat)]with
  |some (.tup [.int b,.str w])=>if w= "" then(if 0<=b then some (some (n+b.toNat))else none)
   else if n+w.length<=x.length/\p.length<50000 then match lD w with
    |some true=>(match fD w with
     |some g=>qQ F rp x k (n+w.length) ((g,0)::p)
     |none=>none)
    |some false=>(match(Vk x).oG (n+w.length) p with
     |((a,1),_)=>some (some a)
     |((_,2),_)=>some none
     |((a,_),p')=>qQ F rp x k a p')
    |none=>none
   else none
  |_=>none
def Jk:Option Nat->PV
 |none=>.non
 |some n=>.int (n:Nat)
def qR(F:List PV->Option PV):List PV->Option PV
 |[rp,.str x]=>if x.length<=100000 then(qQ F rp x 20000 0 []).map Jk else none
 |_=>none
theorem FU{F:List PV->Option PV}{ps:List PV}{p:PV}(h:qR F ps=some p):ps.length=2:=by
 unfold qR at h
 split at h
 ·rfl
 ·cases h
section
variable{X:Cx}{κ:Kl}{eZ eT e1 c1 r1 e2 c2 eL e4 c3 r3 c4 r4:Expr}{YV M5 s1 s2 s3 s4:Stmt}{q1 q2 q3 q4 q5 q6 q7 q8 q9 q10:Pos}{FT:List PV->Option PV}
theorem Cs{vs:List V}{H:Hp}{Q:VK}{E:XK}{N:List Str}(hlen:N.length=7)(hp:PassesOwn (model X.prog X.w) X.A X.env X.xe)
  (a0:PS X YV (tH (OE kc) (mL 2)))(zZ:DE X κ eZ (dC (.int 0)))(a1:∀te,PE X eZ te->PS X M5 (tH te (mL 3)))(dT:DT X κ eT (tV (dC (.bl true))))
  (d1:DE X κ e1 (bP FT (ah (bZ 0) (ah (bZ 1) (ah (bZ 3) aO)))))(k1:∀te,PE X e1 te->PS X s1 (tH te (T8 X 4 5)))(t1:DT X κ c1 (tV (ae gM (dV 5) (dC (.str "")))))(o1:DE X κ r1 (ae aW (dV 3) (dV 4)))
  (d2:DE X κ e2 (ae aW (dV 3) (bU cL (dV 5))))(k2:∀te,PE X e2 te->PS X s2 (tH te (mL 3)))(t2:DT X κ c2 Eu)(dL:DO X κ eL (oF (ah FN (ah (dC (.int 0)) aO))))(k3:∀te,PE X eL te->PS X s3 (qk (RE X.K "list" qv (fR 2) (eU te kc))))
  (d4:PE X e4 (uB (Mn X.K) [] E0 (eU (fR 1) (eU (fR 3) (eU (fR 2) kc)))))(k4:∀te,PE X e4 te->PS X s4 (tH te (T8 X 3 6)))(t3:DT X κ c3 (tV (ae gM (dV 6) (dC (.str "fails")))))(o3:DE X κ r3 (bZ 3))(t4:DT X κ c4 (tV (ae gM (dV 6) (dC (.str "ends")))))(o4:DE X κ r4 (dC .non))
  (h:hR X.K κ false (qR FT) vs H Q E):∃ts,xM X [YV,M5,.While eT [s1,.If c1 [.Return (some r1) q1] [] q2,s2,.If c2 [s3,.Continue q3] [] q4,s4,.If c3 [.Return (some r3) q5] [] q6,.If c4 [.Return (some r4) q7] [] q8] [] q9] ts/\ts {nx:=λ_ H'=>Q .non H',rt:=Q} (start N vs) H:=by
 obtain⟨uZ,az,bz⟩:=zZ
 obtain⟨uT,aT,bT⟩:=dT
 obtain⟨u1,f1,g1⟩:=d1
 obtain⟨v1,f2,g2⟩:=t1
 obtain⟨v2,f3,g3⟩:=o1
 obtain⟨u2,f4,g4⟩:=d2
 obtain⟨v3,f5,g5⟩:=t2
 obtain⟨u3,f6,g6⟩:=dL
 obtain⟨v4,f7,g7⟩:=t3
 obtain⟨v5,f8,g8⟩:=o3
 obtain⟨v6,f9,g9⟩:=t4
 obtain⟨v7,f10,g10⟩:=o4
 refine⟨_,aQ a0 (aQ (a1 _ az) (bx (ql hp aT (aQ (k1 _ f1) (aQ (gV f2 (bx (eR f3)) cS) (aQ (k2 _ f4) (aQ (gV f5 (aQ (k3 _ f6) (bx zJ)) cS) (aQ (k4 _ d4) (aQ (gV f7 (bx (eR f8)) cS) (bx (gV f9 (bx (eR f10)) cS))))))))))),?_⟩
 obtain⟨A,ps,pr,al,hv,hF,q⟩:=h
 have zl:(100000:Nat)<=sizeLine:=by decide
 unfold qR at hF
 split at hF
 rotate_left
 ·cases hF
 rename_i rp x
 obtain⟨hl,hF⟩:=iU hF
 obtain⟨r,hr,rfl⟩:=Zu.mp hF
 cases hv with
 |cons h0 hv=>
 cases hv with
 |cons h1 hv=>
 cases hv
 cases h1
 rename_i v0
 have YW:Rep X.K κ H v0 rp:=h0.mono λb o z=>(bV z).2
 have es:start N [v0,.str x]=[some v0,some (.str x),none,none,none,none,none]:=by
  show[some v0,some (V.str x)]++List.replicate (N.length-2) none=_
  rw[hlen]
  rfl
 rw[es]
 have fin:∀{v:V} {H':Hp},aE H H'->Rep X.K κ H' v (Jk r)->Q v H':=λ{v H'} s z=>q v H' s (show Rep X.K κ (hide A H') v (Jk r)from Rep.flat (by cases r<;>rfl) z)
 refine⟨z0S _,λpl hpl=>?_⟩
 have R0:R X.K κ (upd H pl (.lst [])) (λ_=>False) (λ_=>none) (λ_=>0) [.sh rp,.sh (.str x),.un,.un,.un,.un,.un] [some v0,some (.str x),some (.ref pl),none,none,none,none] (upd H pl (.lst [])):=by
  refine(R.fresh (λi s hs=>?_) rfl).1
  match i,hs with
  |0,rfl=>exact .inr ⟨_,_,rfl,rfl,YW.mono (bM hpl)⟩
  |1,rfl=>exact .inr ⟨_,_,rfl,rfl,.str x⟩
  |2,rfl=>exact .inl rfl
  |3,rfl=>exact .inl rfl
  |4,rfl=>exact .inl rfl
  |5,rfl=>exact .inl rfl
  |6,rfl=>exact .inl rfl
  |i+7,hs=>cases hs
 refine bz R0 rfl λv H1 s1 z1=>?_
 cases z1
 have P0:P7 X.K κ H rp v0 x 0 pl [] [] none none none [some v0,some (.str x),some (.ref pl),some (.int (0:Nat)),none,none,none] H1:=⟨rfl,⟨s1 _ _ aC,trivial,by simp⟩,(bM hpl).trans s1,YW,λa ha=>by rw[z0U.mp ha];exact hpl⟩
 refine⟨λm σ H2=>∃n as p b w wd,P7 X.K κ H rp v0 x n pl as p b w wd σ H2/\qQ FT rp x m n p=some r,⟨20000,0,[],[],none,none,none,P0,hr⟩,?_⟩
 rintro m σ H2 ⟨n,as,p,b,w,wd,P,hs⟩
 refine P.Cr bT rfl λH3 s3=>?_
 rw[if_pos rfl]
 have P:=P.mono s3
 cases m with
 |zero=>cases hs
 |succ m=>
  refine⟨λσ' H'=>∃n as p b w wd,P7 X.K κ H rp v0 x n pl as p b w wd σ' H'/\qQ FT rp x m n p=some r,λσ' H' z=>⟨m,z1E m,z⟩,?_⟩
  unfold qQ at hs
  split at hs
  rotate_left
  ·cases hs
  rename_i bb ww hq
  refine P.ev g1 (q:=.tup [.int bb,.str ww]) ((bu (ps:=[rp,.str x,.int (n:Nat)]) rfl).trans hq) λv H4 s4 z4=>?_
  obtain⟨t,hvt,z5⟩:=Jh z4
  subst hvt
  have P4:=P.mono s4
  refine yF z5 ?_
  have P5:P7 X.K κ H rp v0 x n pl as p (some bb) (some ww) wd ((σ.set 4 (some (.int bb))).set 5 (some (.str ww))) H4:=⟨by rw[P4.e];rfl,P4.p,P4.s,P4.r0,P4.nw⟩
  have Cr:tV (ae gM (dV 5) (dC (.str ""))) (ρ7 rp x n (some bb) (some ww) wd)=some (decide (ww= "")):=cq ((af (x:=.str ww) (y:=.str "") rfl rfl).trans rfl)
  refine P5.Cr g2 Cr λH6 s6=>?_
  have P6:=P5.mono s6
  by_cases hw:ww= ""
  ·rw[if_pos hw]at hs
   rw[decide_eq_true hw]
   obtain⟨W8,hs⟩:=iU hs
   cases hs
   refine uF (P6.ev g3 (q:=.int ((n+bb.toNat:Nat):Int)) ?_ λv H7 s7 z7=>fin (P6.s.trans s7) z7)
   refine(af (x:=.int (n:Nat)) (y:=.int bb) rfl rfl).trans ?_
   show some (PV.int ((n:Int)+bb))=_
   rw[show(n:Int)+bb=((n+bb.toNat:Nat):Int) by omega]
  ·rw[if_neg hw]at hs
   rw[decide_eq_false hw]
   obtain⟨⟨SS,aa1⟩,hs⟩:=iU hs
   refine qw ?_
   have e2:ae aW (dV 3) (bU cL (dV 5)) (ρ7 rp x n (some bb) (some ww) wd)=some (.int ((n+ww.length:Nat):Int)):=by
    refine(af (x:=.int (n:Nat)) (y:=.int (ww.length:Nat)) rfl ((cK (x:=.str ww) rfl).trans (if_pos (by omega)))).trans ?_
    show some (PV.int ((n:Int)+(ww.length:Int)))=_
    rw[show(n:Int)+(ww.length:Int)=((n+ww.length:Nat):Int) by omega]
   refine P6.ev g4 e2 λv H7 s7 z7=>?_
   cases z7
   have Ua:P7 X.K κ H rp v0 x (n+ww.length) pl as p (some bb) (some ww) wd (((σ.set 4 (some (.int bb))).set 5 (some (.str ww))).set 3 (some (.int ((n+ww.length:Nat):Int)))) H7:=⟨by rw[P6.e];rfl,(P6.mono s7).p,(P6.mono s7).s,P6.r0,P6.nw⟩
   unfold mL
   generalize(((σ.set 4 (some (.int bb))).set 5 (some (.str ww))).set 3 (some (.int ((n+ww.length:Nat):Int))))=σ7 at Ua⊢
   split at hs
   ·
    rename_i W9
    split at hs
    rotate_left
    ·cases hs
    rename_i g YX
    have Qp:Eu (ρ7 rp x (n+ww.length) (some bb) (some ww) wd)=some true:=W9
    refine Ua.Cr g5 Qp λH8 s8=>?_
    refine uF ?_
    have P8:=Ua.mono s8
    have e3:σ7[2]?=some (some (.ref pl)):=by rw[P8.e];rfl
    refine⟨.ref pl,e3,.inl ⟨rfl,_,mK.of P8.p.at_⟩,?_⟩
    have ef:FN (ρ7 rp x (n+ww.length) (some bb) (some ww) wd)=some (.int g):=by
     unfold fD at YX
     obtain⟨q0,y1,y2⟩:=Zt.mp YX
     have y1:FN (ρ7 rp x (n+ww.length) (some bb) (some ww) wd)=some q0:=y1
     rw[y1]
     cases q0<;>first|(cases y2;done)|skip
     cases y2
     rfl
    have el:oF (ah FN (ah (dC (.int 0)) aO)) (ρ7 rp x (n+ww.length) (some bb) (some ww) wd)=some (.lst [.int g,.int 0]):=by
     show((ah FN (ah (dC (.int 0)) aO) (ρ7 rp x (n+ww.length) (some bb) (some ww) wd)).bind _)=_
     rw[aA ef (aA (x:=.int 0) rfl rfl)]
     show(if(2:Nat)<=sizeLine then some (PV.lst [.int g,.int 0])else none)=_
     rw[if_pos (z0T (by decide) zl)]
    obtain⟨r8,hh8⟩:=P8.r
    refine g6 r8 el λv H9 s9 z9=>?_
    obtain⟨a9,vs9,l9,y1,y2,y3,y4,y5⟩:=z9
    subst y1
    cases y2
    have y5:vs9=[.int g,.int 0]:=by
     cases y5 with
     |cons x1 x2=>
      cases x1
      cases x2 with
      |cons x1 x2=>
       cases x1
       cases x2
       rfl
    subst y5
    have P9:=P8.mono s9
    have na:a9∉pl::as:=λz=>by
     rcases z0N.mp z with z|z
     ·rw[z,P8.p.at_]at y3
      cases y3
     ·have:∀{as:List Addr} {p:Pile},Cells H8 as p->a9∈as->H8 a9≠none:=λ{as}=>by
        induction as with
        |nil=>intro p _ z;cases z
        |cons c as ih=>
         intro p hc z
         cases p with
         |nil=>exact hc.elim
         |cons c' p=>
          rcases z0N.mp z with rfl|z
          ·rw[hc.1]
           exact λw=>by cases w
          ·exact ih hc.2 z
      exact this P8.p.cs z y3
    have hcl:as.length=p.length:=P8.p.cs.length
    refine⟨pl,_,.ref a9,rfl,rfl,P9.p.at_,by rw[X6,List.length_reverse,hcl];omega,?_⟩
    refine⟨n+ww.length,a9::as,(g,0)::p,some bb,some ww,wd,⟨P8.e,⟨?_,⟨?_,P9.p.cs.mono λc hc o z=>?_⟩,?_⟩,λc o z=>?_,P8.r0,λc hc=>?_⟩,hs⟩
    ·rw[aC,z07,z0b]
     rfl
    ·rw[au λz=>na (by rw[z];exact RF ..)]
     exact y4
    ·rw[au λz=>by
       have:=P9.p.nd
       rw[z0c]at this
       exact this.1 (by rw[<-z];exact hc)]
     exact z
    ·have:=P9.p.nd
     rw[z0c]at this
     rw[z0c,z0c]
     refine⟨λz=>?_,λz=>na (X5 _ z),this.2⟩
     rcases z0N.mp z with z|z
     ·exact na (by rw[z];exact RF ..)
     ·exact this.1 z
    ·rw[au λy=>by rw[y,P8.nw pl (RF ..)]at z;cases z]
     exact P9.s c o z
    ·rcases z0N.mp hc with rfl|hc
     ·exact P8.nw _ (RF ..)
     ·rcases z0N.mp hc with rfl|hc
      ·cases z:H c with
       |none=>rfl
       |some o=>rw[P8.s c o z]at y3;cases y3
      ·exact P8.nw _ (X5 _ hc)
   ·
    rename_i W9
    have Qp:Eu (ρ7 rp x (n+ww.length) (some bb) (some ww) wd)=some false:=W9
    refine Ua.Cr g5 Qp λH8 s8=>?_
    refine qw ?_
    have P8:=Ua.mono s8
    have e1:σ7[1]?=some (some (.str x)):=by rw[P8.e];rfl
    have e2:σ7[2]?=some (some (.ref pl)):=by rw[P8.e];rfl
    have e3:σ7[3]?=some (some (.int ((n+ww.length:Nat):Int))):=by rw[P8.e];rfl
    refine⟨.str x,e1,_,e3,.ref pl,e2,?_⟩
    rcases Xa:(Vk x).oG (n+ww.length) p with⟨⟨a',w'⟩,p'⟩
    refine⟨Vk x,x,n+ww.length,pl,as,p,p',a',w',rfl,rfl,hl,SS,P8.p,Xa,λt H9 ni s9 P9 sub z9=>yF z9 ?_⟩
    have s09:aE H H9:=λc o z=>by
     have nc:c∉pl::as:=λy=>by rw[P8.nw c y]at z;cases z
     have:=s9 c o (by rw[bJ nc];exact P8.s c o z)
     exact(bV this).2
    have PA:P7 X.K κ H rp v0 x a' pl ni p' (some bb) (some ww) (some (oO w')) ((σ7.set 3 (some (.int (a':Nat)))).set 6 (some (.str (oO w')))) H9:=⟨by rw[P8.e];rfl,P9,s09,P8.r0,λc hc=>(z0N.mp hc).elim (λy=>by rw[y];exact P8.nw _ (RF ..)) λy=>P8.nw _ (X5 _ (sub c y))⟩
    have tf:tV (ae gM (dV 6) (dC (.str "fails"))) (ρ7 rp x a' (some bb) (some ww) (some (oO w')))=some (decide (oO w'= "fails")):=cq ((af (x:=.str (oO w')) (y:=.str "fails") rfl rfl).trans rfl)
    have te:tV (ae gM (dV 6) (dC (.str "ends"))) (ρ7 rp x a' (some bb) (some ww) (some (oO w')))=some (decide (oO w'= "ends")):=cq ((af (x:=.str (oO w')) (y:=.str "ends") rfl rfl).trans rfl)
    rw[Xa]at hs
    refine PA.Cr g7 tf λHA sA=>?_
    have PB:=PA.mono sA
    have hw2:=Jj p Xa
    match w',hw2 with
    |0,_=>
     rw[decide_eq_false (by decide+kernel)]
     refine qw (PB.Cr g9 te λHC sC=>?_)
     rw[decide_eq_false (by decide+kernel)]
     exact qw ⟨a',ni,p',_,_,_,PB.mono sC,hs⟩
    |1,_=>
     rw[decide_eq_true (by decide+kernel)]
     cases hs
     exact uF (PB.ev g8 (q:=.int (a':Nat)) rfl λv HC sC zC=>fin (PB.s.trans sC) zC)
    |2,_=>
     rw[decide_eq_false (by decide+kernel)]
     refine qw (PB.Cr g9 te λHC sC=>?_)
     rw[decide_eq_true (by decide+kernel)]
     have PC:=PB.mono sC
     cases hs
     exact uF (PC.ev g10 (q:=.non) rfl λv HD sD zD=>fin (PC.s.trans sD) zD)
    |w'+3,h=>omega
   ·cases hs
end
end L2.D
namespace L2.D
open PySem PySem.Spec PyProof.Rows PySem.SeqAt
open Classical
def Mr(K:PySem.W.Frag)(κ:Kl)(NR:Addr)(F:List PV->Option PV):Sp:=λvs H Q _=>∃(A:Addr->Prop) (ps:List PV) (p:PV),(∀b,A b->H b≠none)/\aZ K κ (hide A H) vs ps/\F ps=some p/\
 match jK p with
 |some m=>∀t a dx H',aE H H'->kM K H' t [.non,.ref a]->H' a=some (xy NR dx a)->H' dx=some (.xd [(("at" :Str),.int m)])->Q (.ref t) H'
 |none=>∀t v H',aE H H'->kM K H' t [v,.non]->Rep K κ (hide A H') v p->Q (.ref t) H'
theorem Jl{K:PySem.W.Frag}{κ:Kl}{NR DD:Addr}{F:List PV->Option PV}{N:List Str}{vs:List V}{H:Hp}{Q:VK}{E:XK}(hN:N.length=5)(hB:Below K DD NR)(h2:∀ps p,F ps=some p->ps.length=2)(h:Mr K κ NR F vs H Q E):
  BE (tH (tC .non) (mL 2)) (BE (tH (tC .non) (mL 3)) (BE (λD σ H=>eU (fR 0) (eU (fR 1) kc) σ H λvs H1=>Vg K κ NR F vs H1 (λv H2=>D.nx (σ.set 3 (some v)) H2) (PN D σ 4 2 (Below K DD)))
   (Sa (Sv (eU (fR 3) (eU (fR 2) kc)))))) {nx:=λ_ H'=>Q .non H',rt:=Q} (start N vs) H:=by
 obtain⟨A,ps,p,al,hv,hF,q⟩:=h
 have hl:=h2 _ _ hF
 match ps,hv,hl with
 |[x,y],.cons (v:=v) hx (.cons (v:=u) hy .nil),_=>
 have es:start N [v,u]=[some v,some u,none,none,none]:=by
  show[some v,some u]++List.replicate (N.length-2) none=_
  rw[hN]
  rfl
 rw[es]
 refine⟨v,rfl,u,rfl,A,[x,y],p,al,.cons hx (.cons hy .nil),hF,?_⟩
 have z2:(2:Nat)<=sizeLine:=by decide
 cases hk:jK p with
 |none=>
  rw[hk]at q
  intro w H' s r
  refine⟨w,rfl,.non,rfl,z2,λt ht=>?_⟩
  exact q t w _ (s.trans (bM ht)) (.inl (.inl aC)) (r.mono (aV (bM ht)))
 |some m=>
  rw[hk]at q
  intro d H' s hd Bv
  refine⟨NR,d,rfl,rfl,hB,λa ha=>?_⟩
  refine⟨.non,rfl,.ref a,rfl,z2,λt ht=>?_⟩
  have ta:t≠a:=λz=>by rw[z,aC]at ht;cases ht
  have da:d≠a:=λw=>by rw[w,ha]at Bv;cases Bv
  have td:t≠d:=λz=>by rw[z,au da,Bv]at ht;cases ht
  refine q t a d _ (s.trans ((bM ha).trans (bM ht))) (.inl (.inl aC)) ?_ ?_
  ·rw[au (Ne.symm ta),aC]
  ·rw[au (Ne.symm td),au da]
   exact Bv
def Ub(K:PySem.W.Frag)(cv:V)(cu:Value):List V->Hp->VK->Prop:=λxs H Q=>∃(a C dx:Addr) (b:Bool),xs=[.ref a,cv]/\H a=some (xy C dx a)/\yo K C/\PySem.W.kitOne K (.ref C) cu=some b/\Q (.bl b) H
abbrev Jm(K:PySem.W.Frag)(cv:V)(cu:Value):TT:=tB (Sz (Ub K cv cu) (eU (fR 0) (eU (tC cv) kc)))
section
variable{X:Cx}{p p1 p2 pos:Pos}{y cn:Str}
theorem A6{cv:V}{cu:Value}(rc:RelV cv cu)(hcu:∀u,RelV cv u->u=cu):jd X (.builtin "isinstance") (Ub X.K cv cu):=by
 intro pins s σ H xs us Q I r h
 obtain⟨a,C,dx,b,rfl,ha,Z,KD,q⟩:=h
 cases r with
 |cons r1 r2=>
  cases r2 with
  |cons r2 r3=>
   cases r3
   cases r1
   cases hcu _ r2
   exact z0X (Ik Z) I.jc (Ip (I.dU a _ ha)).x KD (λz=>nomatch z) λtk=>⟨.bl b,H,I.tok _,rfl,q⟩
theorem nj{D:Addr}(hm:X.mg "isinstance" =none)(hD:X.mg cn=some (.ref D))(hN:X.N[0]?=some y:=by rfl)(hv:uq X.env.scope y:=by first|exact Or.inl rfl|exact Or.inr (Or.inl rfl)|exact Or.inr (Or.inr rfl))(hg:Gl X "isinstance" :=by rfl)(Bw:Gl X cn:=by rfl)(hd:(y==("__debug__" :Str))=false:=by decide)(j0:(y==("__classdict__" :Str))=false:=by decide)(hd2:(cn==("__debug__" :Str))=false:=by decide)
  (hs:starEach [.Name y p1,.Name cn p2] X.env=(false,eval (.Name y p1) X.env)::starEach [.Name cn p2] X.env:=by rfl)(o9:starEach [.Name cn p2] X.env=(false,eval (.Name cn p2) X.env)::starEach [] X.env:=by rfl)(hpl:(backTo pos (starEach [.Name cn p2] X.env)).any (·.1)=false:=by rfl)(he:∀whole,isTrue (.Call (.Name "isinstance" p) [.Name y p1,.Name cn p2] [] pos) X.env whole=(do let v<-whole;standAt (Expr.Call (.Name "isinstance" p) [.Name y p1,.Name cn p2] [] pos).pos;holding [v] (truthy v)):=by intro _;rfl):
  PT X (.Call (.Name "isinstance" p) [.Name y p1,.Name cn p2] [] pos) (Jm X.K (.ref D) (.ref D)):=
 BD (je (A6 (cv:=.ref D) (cu:=.ref D) rfl λu z=>z) hg hm PyProof.Rows.boot_isinstance (aG (dm hN hv hd j0) (aG (oi Bw hD (v:=.ref D) rfl hd2) bG o9) hs) (he:=hs) (hpl:=hpl)) he
theorem Ms{T:String}(hm:X.mg "isinstance" =none)(hD:X.mg cn=none)(hb:bootBuiltins cn=some (.type T))(hN:X.N[0]?=some y:=by rfl)(hv:uq X.env.scope y:=by first|exact Or.inl rfl|exact Or.inr (Or.inl rfl)|exact Or.inr (Or.inr rfl))(hg:Gl X "isinstance" :=by rfl)(Bw:Gl X cn:=by rfl)(hd:(y==("__debug__" :Str))=false:=by decide)(j0:(y==("__classdict__" :Str))=false:=by decide)(hd2:(cn==("__debug__" :Str))=false:=by decide)(hn:cn≠ "__name__" :=by decide)
  (hs:starEach [.Name y p1,.Name cn p2] X.env=(false,eval (.Name y p1) X.env)::starEach [.Name cn p2] X.env:=by rfl)(o9:starEach [.Name cn p2] X.env=(false,eval (.Name cn p2) X.env)::starEach [] X.env:=by rfl)(hpl:(backTo pos (starEach [.Name cn p2] X.env)).any (·.1)=false:=by rfl)(he:∀whole,isTrue (.Call (.Name "isinstance" p) [.Name y p1,.Name cn p2] [] pos) X.env whole=(do let v<-whole;standAt (Expr.Call (.Name "isinstance" p) [.Name y p1,.Name cn p2] [] pos).pos;holding [v] (truthy v)):=by intro _;rfl):
  PT X (.Call (.Name "isinstance" p) [.Name y p1,.Name cn p2] [] pos) (Jm X.K (.ty T) (.type T)):=
 BD (je (A6 (cv:=.ty T) (cu:=.type T) rfl λu z=>z) hg hm PyProof.Rows.boot_isinstance (aG (dm hN hv hd j0) (aG (Dg Bw hD hb (v:=.ty T) rfl hn hd2) bG o9) hs) (he:=hs) (hpl:=hpl)) he
end
def Qq(NR:Addr)(x:Str):Sp:=λvs H Q _=>∃(a dx:Addr),vs=[.ref a]/\H a=some (xy NR dx a)/\∀p,H p=none->Q (.ref p) (upd H p (.lst [.str x]))
section
variable{K:PySem.W.Frag}{cv:V}{cu:Value}{t:TS}{D:Ends}{a q C dx:Addr}{H:Hp}{xs:List V}{c:Str}
theorem vz(ha:H a=some (xy C dx a))(Z:yo K C)(hk:PySem.W.kitOne K (.ref C) cu=some false)(h:D.nx [some (.ref a),some (.ref q)] H):KR (Jm K cv cu) t Dh D [some (.ref a),some (.ref q)] H:=
 ⟨.ref a,rfl,a,C,dx,false,rfl,ha,Z,hk,false,rfl,qw h⟩
theorem Qr(ha:H a=some (xy C dx a))(Z:yo K C)(hk:PySem.W.kitOne K (.ref C) cu=some true)(hq:H q=some (.lst xs))(hl:xs.length<100)(h:D.nx [some (.ref a),some (.ref q)] (upd H q (.lst (xs++[.str c])))):
  KR (Jm K cv cu) (qk (RE K "list" qv (fR 1) (eU (tC (.str c)) kc))) Dh D [some (.ref a),some (.ref q)] H:=
 have zl:(100:Nat)<=sizeLine:=by decide
 ⟨.ref a,rfl,a,C,dx,true,rfl,ha,Z,hk,true,rfl,uF ⟨.ref q,rfl,.inl ⟨rfl,xs,mK.of hq⟩,q,xs,.str c,rfl,rfl,hq,z0I hl zl,h⟩⟩
theorem Jo(ha:H a=some (xy C dx a))(Z:yo K C)(hk:PySem.W.kitOne K (.ref C) cu=some true)(h:D.nx [some (.ref a),some (.ref q)] H):KR (L2.vZ (Jm K cv cu)) t Dh D [some (.ref a),some (.ref q)] H:=
 ⟨.ref a,rfl,a,C,dx,true,rfl,ha,Z,hk,true,rfl,qw h⟩
end
theorem R.Xb{K:PySem.W.Frag}{κ:Kl}{G H:Hp}{A:Addr->Prop}{bo:Nat->Option (Addr×List V)}{own:Nat->Addr}{ρ:dO}{σ:St}{i:Nat}{z:Option V}(r:R K κ G A bo own ρ σ H)(h:ρ[i]?=some .un):R K κ G A bo own ρ (σ.set i z) H:=by
 have ne:∀{j:Nat} {s:Slot},ρ[j]?=some s->s≠.un->(σ.set i z)[j]?=σ[j]?:=λ{j s} e n=>by
  rw[z0g λw=>?_]
  rw[w,e]at h
  cases h
  exact n rfl
 refine⟨r.al,r.bg,r.same,λj p e=>?_,λj l e=>?_,r.inj,λj l e=>?_,by rw[z0q];exact r.len⟩
 ·rw[ne e (by simp)]
  exact r.sh j p e
 ·rw[ne e (by simp)]
  exact r.ow j l e
 ·rw[ne e (by simp)]
  exact r.bw j l e
def xB(FR:List PV->Option PV)(TT:Nat->List PV->Option PV):bE:=λρ=>match ρ with
 |[_,.sh rp,_,_,_,_,.sh (.str x),_,.sh d,_,.un]=>(FR [rp,.str x]).bind λp=>(match jK p with
  |none=>(match d,p with
   |.non,.ins c l=>if c<4 then(match TT c [.ins c l]with
     |some (.str y)=>some (.rt (.bl (decide (y=x))))
     |_=>none)else none
   |_,_=>none)
  |some m=>(match d with
   |.int d=>some (.rt (.bl (decide (m=d))))
   |_=>none))
 |_=>none
abbrev Xc(X:Cx)(κ:Kl):R2:=λx y H Q=>∃p q b,Rep X.K κ H x p/\Rep X.K κ H y q/\(∀l,p≠.tup l)/\eqT p q=some b/\Q (.bl (!b)) H
abbrev Uc(X:Cx)(i:Nat):TE:=λσ H Q=>fR i σ H λy H1=>∃e C dx v,y=.ref e/\H1 e=some (xy C dx e)/\H1 dx=some (.xd [(("at" :Str),v)])/\va X.K C/\Q v H1
section
variable{X:Cx}{κ:Kl}{NR:Addr}{FR FW:List PV->Option PV}{TT:Nat->List PV->Option PV}{a1 a2 c2 r2 c3 r3 r4:Expr}{s1:Stmt}{q1 q2 q3 q4 q5 p pos:Pos}{x:Str}{k:Nat}{f:Addr}{fd:FuncData}{ps:List Str}
theorem Jp(FO:aK X.prog X.w X.K X.mg X.base cX k f fd ps (Mr X.K κ NR FR))(hr:c8 k X.A)(hm:X.mg x=some (.ref f))(hk:PySem.W.keepIn X.K (.ref f)=true)(hb:Binds X.K fd ps [])(c:va X.K NR)(dA:DA X κ [a1,a2] (ah (bZ 1) (ah (bZ 6) aO)))
  (k1:∀te,PE X (.Call (.Name x p) [a1,a2] [] pos) te->PS X s1 (tH te (T8 X 9 10)))(t2:DT X κ c2 (tV (bU E5 (dV 8))))(o2:DE X κ r2 (DK (bU E5 (dV 10)) (DK (bU LB (dV 9)) (ae gM (jA TT (bZ 9) aO) (dV 6)))))
  (t3:PT X c3 (L2.xO (tB (R6 (fR 10))) (tB (Oo (Xc X κ) (uB (Qq NR "NoRule") [] E0 (eU (fR 10) kc)) (OE (eU (tC (.str "NoRule")) kc))))))(o3:DE X κ r3 (dC (.bl false)))
  (hW:∀m:Int,FW [.int m]=some (.bl true))(o4:PE X r4 (MW (uB (hR X.K κ false FW) [] E0 (eU (Uc X 10) kc)) (Oo (Tf X.K κ false) (Uc X 10) (fR 8))))
  (hg:Gl X x:=by rfl)(mO:(x==("__debug__" :Str))=false:=by decide)(he:starEach [a1,a2] X.env=(false,eval a1 X.env)::starEach [a2] X.env:=by rfl)(hpl:(backTo pos (starEach [a2] X.env)).any (·.1)=false:=by rfl):
  GA X κ false [s1,.If c2 [.Return (some r2) q1] [] q2,.If c3 [.Return (some r3) q3] [] q4,.Return (some r4) q5] (xB FR TT):=by
 obtain⟨ta,h1,h2⟩:=dA
 obtain⟨u2,f2,g2⟩:=t2
 obtain⟨v2,f3,g3⟩:=o2
 obtain⟨v3,f4,g4⟩:=o3
 refine⟨_,aQ (k1 _ (lg FO hr hg hm hk hb .nil jy h1 mO he hpl)) (aQ (gV f2 (bx (eR f3)) cS) (aQ (gV t3 (bx (eR f4)) cS) (bx (eR o4)))),λ{G A bo own ρ σ H fl D} r e kk=>?_⟩
 unfold xB at e
 split at e
 rotate_left
 ·cases e
 rename_i ρ0 z0 rp z2 z3 z4 z5 xx z7 d z9
 obtain⟨p,e1,e2⟩:=Zt.mp e
 refine h2 r (aA (x:=rp) rfl (aA (x:=.str xx) rfl rfl)) λvs H1 s1 w1=>?_
 have r1:=r.mono s1
 rw[z0Y]
 have el:σ.length=11:=r.len
 refine⟨di A own _,_,p,λb hb=>r1.Hf hb,w1,e1,?_⟩
 cases hx:jK p with
 |none=>
  rw[hx]at e2
  intro t v H2 s2 y1 y2
  refine yF y1 ?_
  dsimp only at e2
  split at e2
  ·rename_i cc ll
   obtain⟨hc,e3⟩:=iU e2
   split at e3
   rotate_left
   ·cases e3
   rename_i yy hT
   cases e3
   have r2:=((r1.mono s2).set (i:=9) (v:=v) (p:=.ins cc ll) y2).set (i:=10) (v:=.non) (p:=.non) .non
   refine g2 r2 (b:=true) rfl λH3 s3=>uF ?_
   have r3:=r2.mono s3
   refine g3 r3 (p:=.bl (decide (yy=xx))) ?_ λv H4 s4 z=>kk v H4 (r3.same.trans s4) (show Rep X.K κ (hide A H4) v _ from Rep.flat rfl z)
   have ir:bU LB (dV 9) [z0,.sh rp,z2,z3,z4,z5,.sh (.str xx),z7,.sh .non,.sh (.ins cc ll),.sh .non]=some (.bl true):=by
    show(if decide (cc<4)then some (PV.bl true)else none)=_
    rw[if_pos (decide_eq_true hc)]
   have mt:jA TT (bZ 9) aO [z0,.sh rp,z2,z3,z4,z5,.sh (.str xx),z7,.sh .non,.sh (.ins cc ll),.sh .non]=some (.str yy):=hT
   have eq:ae gM (jA TT (bZ 9) aO) (dV 6) [z0,.sh rp,z2,z3,z4,z5,.sh (.str xx),z7,.sh .non,.sh (.ins cc ll),.sh .non]=some (.bl (decide (yy=xx))):=(af mt (y:=.str xx) rfl).trans rfl
   show((bU LB (dV 9) [z0,.sh rp,z2,z3,z4,z5,.sh (.str xx),z7,.sh .non,.sh (.ins cc ll),.sh .non]).bind _)=_
   rw[ir]
   exact eq
  ·cases e2
 |some m=>
  rw[hx]at e2
  intro t a dx H2 s2 y1 ha hd
  refine yF y1 ?_
  dsimp only at e2
  split at e2
  ·rename_i dd
   cases e2
   have r2:=((r1.mono s2).set (i:=9) (v:=.non) (p:=.non) .non).Xb (i:=10) (z:=some (.ref a)) rfl
   refine g2 r2 (b:=false) rfl λH3 s3=>qw ?_
   have r3:=r2.mono s3
   have Qo:((σ.set 9 (some .non)).set 10 (some (.ref a)))[10]?=some (some (.ref a)):=by rw[z0B,if_pos rfl,if_pos (by rw[z0q,el];decide)]
   obtain⟨v8,e8,z8⟩:=r3.sh 8 (.int dd) rfl
   cases z8
   have YY:=s3 _ _ ha
   have hd3:=s3 _ _ hd
   refine⟨.ref a,Qo,false,rfl,qw ⟨.ref a,Qo,a,dx,rfl,YY,λl1 hl1=>⟨(show(1:Nat)<=sizeLine by decide),λl2 RO=>?_⟩⟩⟩
   have n12:l2≠l1:=λz=>by rw[z,aC]at RO;cases RO
   have sA:=bM (o:=.lst [.str ("NoRule" :Str)]) hl1
   have sB:=bM (o:=.lst [.str ("NoRule" :Str)]) RO
   have nt:∀l,PV.lst [.str ("NoRule" :Str)]≠.tup l:=λl z=>(by cases z)
   have eqn:eqT (.lst [.str "NoRule"]) (.lst [.str "NoRule"])=some true:=by
    show mG 20 (.lst [.str ("NoRule" :Str)]) (.lst [.str "NoRule"])=some true
    decide+kernel
   refine⟨.lst [.str "NoRule"],.lst [.str "NoRule"],true,.lst (SL.of (sB _ _ aC)) (.cons (.str _) .nil),.lst (SL.of aC) (.cons (.str _) .nil),nt,eqn,false,rfl,qw ?_⟩
   have YZ:=sB _ _ (sA _ _ YY)
   have Y0:=sB _ _ (sA _ _ hd3)
   refine⟨.ref a,Qo,a,NR,dx,.int m,rfl,YZ,Y0,c,λ_=>False,[.int m],.bl true,λb z=>z.elim,.cons (.int m) .nil,hW m,λv H5 s5 z5=>?_⟩
   have z5:Rep X.K κ (hide (λ_=>False) H5) v (.bl true):=z5
   cases z5
   refine⟨true,rfl,uF ⟨.ref a,Qo,a,NR,dx,.int m,rfl,s5 _ _ YZ,s5 _ _ Y0,c,.int dd,e8,.int m,.int dd,decide (m=dd),.int m,.int dd,rfl,?_⟩⟩
   exact kk _ H5 (r3.same.trans ((sA.trans sB).trans s5)) (show Rep X.K κ (hide A H5) _ _ from .bl _)
  ·cases e2
end
end L2.D
namespace HT
open PySem PySem.Spec PyProof.Rows
section
variable{prog:Program}{w:World}{A:Around}{E:Value->Shared->Prop}{s:Shared}
theorem Jq{t b:Addr}{ws:List Value}{Q:Value->Shared->Prop}(ht:IsTup s.heap t ([]:List Value).toArray)(hb:IsTup s.heap b ws.toArray)(h1:Q (.ref b) s):wpAny (model prog w) A (binaryOp .Add (.ref t) (.ref b)) Q E s:=by
 obtain⟨⟨c0,dd,dat,sl⟩,ho,hc,n,hd⟩:=id ht
 obtain⟨⟨e2c,e2d,e2t,e2s⟩,p1,p2,e2n,p3⟩:=id hb
 simp only at hc hd p2 p3
 subst hc hd p2 p3
 exact concat_meets ⟨_,ho,rfl⟩ ⟨_,p1,rfl⟩ noFill_tuple_add seq_tuple_add z1Z z1V (z1U _ _)
  (tuple_addW0 t b ([]:List Value).toArray ws.toArray n e2n dd e2d sl e2s (by simp)) ⟨ho,p1,h1⟩
end
end HT
namespace L2.D
open PySem PySem.Spec PyProof.Rows PySem.SeqAt
def Ct(a:Den)(lo hi:uI):Den:=λρ=>(a ρ).bind λx=>(lo ρ).bind λl=>(hi ρ).bind λh=>match x with
 |.tup xs=>if kO xs.length 0 l=0/\kO xs.length xs.length h=xs.length then none else some (.tup (jP xs l h))
 |_=>none
def Jr:PV->PV->Option PV
 |.tup l,.tup m=>if l.length+m.length<=sizeLine then some (.tup (l++m))else none
 |_,_=>none
section
variable{X:Cx}{κ:Kl}{pos p2:Pos}{a b c e:Expr}{fa fb:Den}{lo hi:Option Expr}{fl fh:uI}
theorem Ew{K:PySem.W.Frag}{κ:Kl}{G H:Hp}{A:Addr->Prop}{bo:Nat->Option (Addr×List V)}{own:Nat->Addr}{ρ:dO}{σ:St}{n:Addr}{vs:List V}{l:List PV}(r:R K κ G A bo own ρ σ H)(h:H n=none)(q:aZ K κ (dD A own ρ H) vs l):Rep K κ (dD A own ρ (upd H n (.tup vs))) (.ref n) (.tup l):=by
 refine .tup (.inl (.inl ?_)) (q.mono (aV (bM h)))
 rw[dD,bJ (r.new h)]
 exact aC
theorem xC(ha:DE X κ a fa)(hl:DP X κ lo fl)(hh:DP X κ hi fh):DE X κ (.Subscript a (.Slice lo hi none p2) pos) (Ct fa fl fh):=by
 obtain⟨ta,h1,h2⟩:=ha
 obtain⟨tl,h3,h4⟩:=hl
 obtain⟨th,h5,h6⟩:=hh
 refine⟨_,uE OG h1 h3 h5,λ{G A bo own ρ σ H p Q} r e q=>?_⟩
 obtain⟨p1,e1,e2⟩:=Zt.mp e
 obtain⟨o1,e3,e4⟩:=Zt.mp e2
 obtain⟨o2,e5,e6⟩:=Zt.mp e4
 refine h2 r e1 λx H1 s1 b1=>h4 (r.mono s1) e3 λH2 s2=>h6 ((r.mono s1).mono s2) e5 λH3 s3=>?_
 cases p1<;>first|(cases e6;done)|skip
 rename_i xs
 have Xd:(if kO xs.length 0 o1=0/\kO xs.length xs.length o2=xs.length then none else some (PV.tup (jP xs o1 o2)))=some p:=e6
 split at Xd
 ·cases Xd
 rename_i hw
 cases Xd
 have HE:=(s1.trans s2).trans s3
 have b3:=b1.mono (aV (s2.trans s3))
 cases b3 with
 |tup q1 q2=>
  rename_i a vs
  have hlen:=q2.length
  refine⟨a,vs,rfl,qy aM q1,by rw[hlen];exact hw,λn hn=>q _ _ (HE.trans (bM hn)) (Ew (r.mono HE) hn (q2.cut o1 o2))⟩
theorem Js:mF X (binaryOp .Add) (λx y H Q=>∃a b xs ys,x=.ref a/\y=.ref b/\kM X.K H a xs/\kM X.K H b ys/\xs.length+ys.length<=sizeLine/\(xs=[]->Q (.ref b) H)/\(xs≠[]->ys=[]->Q (.ref a) H)/\(xs≠[]->ys≠[]->∀p,H p=none->Q (.ref p) (upd H p (.tup (xs++ys))))):=by
 intro pins s σ H x y v u Q I rx ry h
 obtain⟨a,b,xs,ys,rfl,rfl,ha,hb,hz,q0,q1,q2⟩:=h
 by_cases hx:xs=[]
 ·subst hx
  cases rx
  cases ry
  obtain⟨its,r1,p1,_⟩:=I.tuple ha
  obtain⟨tJ,r2,p2,_⟩:=I.tuple hb
  cases r1
  exact HT.Jq p1 p2 ⟨.ref b,H,I,rfl,q0 rfl⟩
 ·exact K9 pins s σ H _ _ v u Q I rx ry ⟨a,b,xs,ys,rfl,rfl,ha,hb,hx,hz,q1 hx,q2 hx⟩
theorem Mt(ha:DE X κ a fa)(hb:DE X κ b fb):DE X κ (.BinOp a .Add b pos) (ae Jr fa fb):=by
 obtain⟨ta,h1,h2⟩:=ha
 obtain⟨tb,h3,h4⟩:=hb
 refine⟨_,Dk Js h1 h3,λ{G A bo own ρ σ H p Q} r e q=>?_⟩
 obtain⟨p1,e1,e2⟩:=Zt.mp e
 obtain⟨p2,e3,e4⟩:=Zt.mp e2
 refine h2 r e1 λx H1 s1 b1=>h4 (r.mono s1) e3 λy H2 s2 b2=>?_
 (cases p1<;>first|(cases e4;done)|skip)<;>cases p2<;>first|(cases e4;done)|skip
 rename_i l m
 obtain⟨hz,rfl⟩:=cb (show(if l.length+m.length<=sizeLine then some (PV.tup (l++m))else none)=some p from e4)
 have Nc:=s1.trans s2
 have b1':=b1.mono (aV s2)
 cases b1' with
 |tup q1 q2=>
  rename_i a1 vs
  cases b2 with
  |tup q3 q4=>
   rename_i a2 ws
   have l1:=q2.length
   have l2:=q4.length
   refine⟨a1,a2,vs,ws,rfl,rfl,qy aM q1,qy aM q3,by rw[l1,l2];exact hz,λhv=>?_,λhv hw=>?_,λhv hw n hn=>?_⟩
   ·subst hv
    cases q2
    exact q _ H2 Nc (.tup q3 q4)
   ·subst hw
    cases q4
    have q':=q (.ref a1) H2 Nc
    rw[z0Y]at q'
    exact q' (.tup q1 q2)
   ·exact q _ _ (Nc.trans (bM hn)) (Ew (r.mono Nc) hn (q2.append q4))
end
end L2.D
namespace L2.D
open PySem
def Lw(x:Str):Prop:=∀c∈x.cps.toList,97<=c/\c<=122
theorem Lw.as{x:Str}(h:Lw x):As x:=λc hc=>by have:=h c hc;omega
theorem yG{a b:Str}(ha:Lw a)(hb:Lw b):Lw (a++b):=λc hc=>by
 have e:(a++b).cps.toList=a.cps.toList++b.cps.toList:=z1J
 rw[e]at hc
 rcases z0L.mp hc with h|h
 ·exact ha c h
 ·exact hb c h
theorem yH{x:Str}(h:Lw x)(lo hi:Option Int)(st:Int):Lw (bK x lo hi st):=by
 unfold bK
 split
 ·exact h
 ·intro c hc
  have hc:c∈(Builtin.Str.strSliceIndices lo hi st x.length).filterMap (x.cps[·]?):=hc
  obtain⟨i,_,e⟩:=z1M.mp hc
  exact h c (by rw[z1T];exact z15 e)
def Xe(x:Str):Bool:=x.cps.toList.all λc=>decide (97<=c)&&decide (c<=122)
theorem Jt{x:Str}(h:Xe x=true):Lw x:=λc hc=>by
 have:=z0M.mp h c hc
 simpa using this
def lH(i:Nat):Str:=⟨#[97+i]⟩
theorem Ey{i:Nat}(h:i<26):Lw (lH i):=λc hc=>by
 have:c=97+i:=by simpa[lH]using hc
 omega
theorem Ju:((List.range 26).all λi=>itemAt oH.cps.toList (i:Int)==some (97+i))=true:=by decide+kernel
theorem xD{i:Nat}(h:i<26):ie (.str oH) (.int i)=some (.str (lH i)):=by
 have zl:(5000:Nat)<=sizeLine:=by decide
 have hc:=beq_iff_eq.mp (z0M.mp Ju i (z0l.mpr h))
 show(if oH.length<=sizeLine then(itemAt oH.cps.toList (i:Int)).map (λc=>PV.str ⟨#[c]⟩)else none)=_
 rw[if_pos (by rw[IL];omega),hc]
 rfl
def Cu:List Nat->List Nat->Nat
 |x::l,y::m=>(if x=y then 0 else 1)+Cu l m
 |_,_=>0
theorem vA:∀l:List Nat,Cu l l=0
 |[]=>rfl
 |x::l=>by
  show(if x=x then 0 else 1)+Cu l l=0
  rw[if_pos rfl,vA l]
theorem Ez(a b:List Nat):∀l:List Nat,Cu (l++a) (l++b)=Cu a b
 |[]=>rfl
 |x::l=>by
  show(if x=x then 0 else 1)+Cu (l++a) (l++b)=_
  rw[if_pos rfl,Ez a b l,Nat.zero_add]
theorem Mu(A C:Str){i j:Nat}(h:i≠j):Cu ((A++lH i)++C).cps.toList ((A++lH j)++C).cps.toList=1:=by
 have e:∀k,((A++lH k)++C).cps.toList=A.cps.toList++((97+k)::C.cps.toList):=λk=>by
  show((A.cps++#[97+k])++C.cps).toList=_
  simp
 rw[e,e,Ez]
 show(if 97+i=97+j then 0 else 1)+Cu C.cps.toList C.cps.toList=1
 rw[if_neg (by omega),vA]
def fin(y:Str):Str:=if uG (.str y) kept=true then bK y none none (-1)else y
def Qs:List Str:=["all","any","of"]
theorem Qt:(Qs.all λx=>Xe (bK x none none (-1))&&decide ((bK x none none (-1)).length=x.length)&&!decide (Cu x.cps.toList (bK x none none (-1)).cps.toList=1)&&!decide (Cu (bK x none none (-1)).cps.toList x.cps.toList=1)&&Qs.all λy=>!decide (Cu x.cps.toList y.cps.toList=1))=true:=by decide+kernel
theorem A7{x:Str}:∀{ts:List Str},uG (.str x) (ts.map PV.str)=decide (x∈ts)
 |[]=>by simp[uG]
 |t::ts=>by
  have ih:=A7 (x:=x) (ts:=ts)
  unfold uG at ih⊢
  rw[z0Q,z1b,ih]
  show((t==x)||decide (x∈ts))=_
  by_cases h:t=x
  ·subst h
   simp
  ·rw[beq_eq_false_iff_ne.mpr h]
   simp[z0N,Ne.symm h]
theorem nk{x:Str}:uG (.str x) kept=decide (x∈Qs):=A7 (ts:=Qs)
theorem EA{x:Str}(h:uG (.str x) kept=true):Lw (bK x none none (-1))/\(bK x none none (-1)).length=x.length/\Cu x.cps.toList (bK x none none (-1)).cps.toList≠1/\Cu (bK x none none (-1)).cps.toList x.cps.toList≠1/\∀y,uG (.str y) kept=true->Cu x.cps.toList y.cps.toList≠1:=by
 rw[nk]at h
 have:=z0M.mp Qt x (of_decide_eq_true h)
 simp only[z0F,z1W,decide_eq_false_iff_not,decide_eq_true_eq]at this
 obtain⟨⟨⟨⟨h1,h2⟩,h3⟩,h4⟩,h5⟩:=this
 refine⟨Jt h1,h2,h3,h4,λy hy=>?_⟩
 rw[nk]at hy
 have:=z0M.mp h5 y (of_decide_eq_true hy)
 simpa using this
theorem uc(x:Str):(fin x).length=x.length:=by
 unfold fin
 split
 ·rename_i h
  exact(EA h).2.1
 ·rfl
theorem Qu{x:Str}(h:Lw x):Lw (fin x):=by
 unfold fin
 split
 ·rename_i h
  exact(EA h).1
 ·exact h
theorem Qv{x y:Str}(h:Cu x.cps.toList y.cps.toList=1):fin x≠fin y:=by
 unfold fin
 split
 ·rename_i hx
  obtain⟨_,_,h3,_,h5⟩:=EA hx
  split
  ·rename_i hy
   exact absurd h (h5 y hy)
  ·intro e
   rw[e]at h3
   exact h3 h
 ·split
  ·rename_i hy
   obtain⟨_,_,_,h4,_⟩:=EA hy
   intro e
   rw[<-e]at h4
   exact h4 h
  ·intro e
   rw[e,vA]at h
   cases h
end L2.D
namespace L2.D.Rq
open PySem
theorem Mv{x y:Str}(h:x≠y){a b:Den}{ρ:dO}(ha:a ρ=some (.str x))(hb:b ρ=some (.str y)):tV (ae gM a b) ρ=some false:=by
 refine cq ((af ha hb).trans ?_)
 show some (PV.bl (decide (x=y)))=_
 rw[decide_eq_false h]
theorem Qw{x:Str}{a b:Den}{ρ:dO}(ha:a ρ=some (.str x))(hb:b ρ=some (.str x)):tV (ae gM a b) ρ=some true:=by
 refine cq ((af ha hb).trans ?_)
 show some (PV.bl (decide (x=x)))=_
 rw[decide_eq_true rfl]
def Ny(v:Str)(l:List PV):Option PV:=if v= "all(" then some (.ins 1 [.int (l.length:Nat),.tup l])else if v= "any(" then some (.ins 2 [.int 1,.tup l])else(mE.lookup v).map λk=>.ins 3 [.int k,.tup l]
theorem Qx(v:Str)(l:List PV):bQ [.str v,.lst l]=Ny v l:=by
 unfold Ny
 by_cases h1:v= "all("
 ·subst h1
  rw[if_pos rfl]
  refine d0 rfl ?_
  exact j7 ((iV (Qw rfl rfl)).trans (dr rfl))
 rw[if_neg h1]
 by_cases h2:v= "any("
 ·subst h2
  rw[if_pos rfl]
  refine d0 rfl ?_
  refine(av ((iD (Mv h1 rfl rfl)).trans rfl)).trans ?_
  exact j7 ((iV (Qw rfl rfl)).trans (dr rfl))
 rw[if_neg h2]
 have e:ia (ig 2 [.str v,.lst l])=(ae pq (bU (uY mE) (dV 0)) (dV 1) (ig 2 [.str v,.lst l])).map Fl.rt:=by
  refine(av ((iD (Mv h1 rfl rfl)).trans rfl)).trans ?_
  exact(av ((iD (Mv h2 rfl rfl)).trans rfl)).trans rfl
 unfold bQ fn
 rw[if_pos (show[PV.str v,PV.lst l].length=2 from rfl),e]
 show(((((mE.lookup v).map PV.int).bind λx=>pq x (.lst l)).map Fl.rt).bind (O0 false))=_
 cases mE.lookup v<;>rfl
theorem Jv{v:Str}{l:List PV}{p:PV}(h:Ny v l=some p):jK p=none:=by
 unfold Ny at h
 split at h
 ·cases h;rfl
 split at h
 ·cases h;rfl
 obtain⟨k,_,rfl⟩:=Zu.mp h
 rfl
theorem Qy:(mE.all λq=>decide (0<=q.2))=true:=by decide+kernel
theorem vB{α:Type}{v:Str}:∀{l:List (Str×α)} {k:α},l.lookup v=some k->(v,k)∈l
 |[],_,h=>by cases h
 |(u,i)::l,k,h=>by
  rw[z0K]at h
  split at h
  ·rename_i e
   cases h
   rw[beq_iff_eq.mp e]
   exact RF ..
  ·exact X5 _ (vB h)
theorem Qz{v:Str}{k:Int}(h:mE.lookup v=some k):k=(k.toNat:Nat):=by
 have:=z0M.mp Qy _ (vB h)
 have:0<=k:=by simpa using this
 omega
theorem Jw{v:Str}{k:Int}(h:mE.lookup v=some k)(l:List PV):∃p,Ny v l=some p:=by
 unfold Ny
 split
 ·exact⟨_,rfl⟩
 split
 ·exact⟨_,rfl⟩
 rw[h]
 exact⟨_,rfl⟩
theorem Cv{names:List Str}{sg:Str}(hs:As sg)(Mi:∀v∈names++ops,As v)(hl:(names++ops).length<=5000)(hlen:sg.length<=100000):
  ∀(m n:Nat) (r:Nat×Option PV),n<=sg.length->(sy names sg).rule m n=some r->bF m ⟨jC names,sg⟩ (n:Nat) []=some (Mj r)/\r.1<=sg.length/\∀p,r.2=some p->jK p=none
 |0,n,r,hn,h=>by cases h
 |m+1,n,r,hn,h=>by
  have el:(aJ sg).length=sg.length:=SR
  have ex:(sy names sg).x=aJ sg:=rfl
  have ih:=Cv hs Mi hl hlen m
  have w1:=Qj (n:=n) hs Mi hl hlen hn
  have w2:n+(sy names sg).M n<=sg.length:=by
   have:=IE (S:=sy names sg) n
   rw[ex,z0d,el]at this
   omega
  unfold Sy.rule at h
  rcases hw:(sy names sg).word n with⟨n',o⟩
  have N6:n'<=sg.length:=by
   have:((sy names sg).word n).1=n':=by rw[hw]
   rw[<-this]
   exact w2
  rw[hw]at h w1
  have wc:fP dZ aO ⟨jC names,sg⟩ (n:Nat) [.un,.un]=some (TV (n',o)):=(jV (ps:=[]) rfl rfl).trans w1
  show tY false 2 1 (jf (tY true 3 2 (dq (bF m)))) ⟨jC names,sg⟩ (n:Nat) []=_/\_
  cases o with
  |none=>
   cases h
   exact⟨jU rfl (jF (Ja wc)),N6,λp z=>by cases z⟩
  |some w=>
   dsimp only at h
   have s1:∀{b:dY},fK (sI 1 (fP dZ aO)) b ⟨jC names,sg⟩ (n:Nat) [.un,.un]=b ⟨jC names,sg⟩ (n':Nat) [.un,.sh (.str (pF w))]:=λ{b}=>eK (IZ wc rfl)
   have Ef:bU (qG mE) (dV 1) (wQ ⟨jC names,sg⟩ (n':Nat) [.un,.sh (.str (pF w))])=some (.bl !(mE.lookup (pF w)).isSome):=rfl
   have hf:(sy names sg).few w=(mE.lookup (pF w)).map Int.toNat:=rfl
   cases hk:mE.lookup (pF w)with
   |none=>
    rw[hf,hk]at h
    cases h
    rw[hk]at Ef
    refine⟨jU rfl (s1.trans (jF ((AX (cq Ef)).trans (IY rfl rfl)))),N6,λp z=>by cases z;rfl⟩
   |some k=>
    rw[hf,hk]at h
    rw[hk]at Ef
    have hkn:=Qz hk
    rw[Option.map_some]at h
    dsimp only at h
    generalize hfk:k.toNat=f at h
    have ga:(ah (bU (uY mE) (dV 1)) aO) (wQ ⟨jC names,sg⟩ (n':Nat) [.un,.sh (.str (pF w))])=some [.int (f:Nat)]:=by
     refine aA ((cK (x:=.str (pF w)) rfl).trans ?_) rfl
     show(mE.lookup (pF w)).map PV.int=_
     rw[hk,hkn,hfk]
     rfl
    have s2:∀{b:dY},fK (Az (tV (bU (qG mE) (dV 1))) (xk (bU Ah (dV 1))) kR) b ⟨jC names,sg⟩ (n':Nat) [.un,.sh (.str (pF w))]=b ⟨jC names,sg⟩ (n':Nat) [.un,.sh (.str (pF w))]:=λ{b}=>eK ((AY (cq Ef)).trans rfl)
    cases hr:(sy names sg).rule m n' with
    |none=>rw[hr]at h;cases h
    |some q=>
     rw[hr]at h
     obtain⟨i1,i2,i3⟩:=ih n' q N6 hr
     obtain⟨n1,o1⟩:=q
     have gq:fP (bF m) aO ⟨jC names,sg⟩ (n':Nat) [.un,.sh (.int (f:Nat)),.un]=some (Mj (n1,o1)):=(jV (ps:=[]) rfl rfl).trans i1
     cases o1 with
     |none=>
      cases h
      have gp:tY true 3 2 (dq (bF m)) ⟨jC names,sg⟩ (n':Nat) [.int (f:Nat)]=some (((n1:Nat):Int),tP (n1:Nat)):=jU rfl (jF (FK gq))
      exact⟨jU rfl (s1.trans (s2.trans (A2 (a:=.str (pF w)) rfl rfl ((jV ga rfl).trans gp)))),i2,λp z=>by cases z⟩
     |some t=>
      dsimp only at h
      cases hp:(sy names sg).parts ((sy names sg).rule m) f 10 [t] n1 with
      |none=>rw[hp]at h;cases h
      |some q=>
       rw[hp]at h
       obtain⟨j1,j2⟩:=Et (names:=names) (FT:=bF m) hlen (f:=f) (rd:=(sy names sg).rule m) (λa b c d=>by
        obtain⟨_,x2,x3⟩:=ih a b (by rw[ex,el]at c;exact c) d
        exact⟨by rw[ex,el];exact x2,x3⟩) (λa b c d=>(ih a b c d).1) 10 [t] n1 q (by simp) i2 hp
       have Y1:dq (bF m) ⟨jC names,sg⟩ (n':Nat) [.un,.sh (.int (f:Nat)),.un]=some (encL q):=(eK (FJ gq (i3 t rfl))).trans j1
       obtain⟨n2,o2⟩:=q
       cases o2 with
       |none=>
        cases h
        have gp:tY true 3 2 (dq (bF m)) ⟨jC names,sg⟩ (n':Nat) [.int (f:Nat)]=some (((n2:Nat):Int),tP (n2:Nat)):=jU rfl Y1
        exact⟨jU rfl (s1.trans (s2.trans (A2 (a:=.str (pF w)) rfl rfl ((jV ga rfl).trans gp)))),j2,λp z=>by cases z⟩
       |some l=>
        cases h
        have gp:tY true 3 2 (dq (bF m)) ⟨jC names,sg⟩ (n':Nat) [.int (f:Nat)]=some (((n2:Nat):Int),.lst l):=jU rfl Y1
        obtain⟨p,cp⟩:=Jw hk l
        have hc:(sy names sg).cnt w l=p:=by
         show(bQ [.str (pF w),.lst l]).getD .non=p
         rw[Qx,cp]
         rfl
        rw[hc]
        exact⟨jU rfl (s1.trans (s2.trans (Jc (a:=.str (pF w)) rfl rfl ((jV ga rfl).trans gp) rfl ((Qx _ _).trans cp) (Jv cp)))),j2,λq z=>by cases z;exact Jv cp⟩
def Mw(len:Nat):Nat×Option PV->PV
 |(e,none)=>tP (e:Nat)
 |(n,some p)=>if n<len then tP (n:Nat)else p
theorem QA{names:List Str}{sg:Str}(hs:As sg)(Mi:∀v∈names++ops,As v)(hl:(names++ops).length<=5000)(hlen:sg.length<=100000){r:Nat×Option PV}(h:(sy names sg).rule 24 0=some r):
  il [.tup (names.map PV.str),.str sg]=some (Mw sg.length r):=by
 have zl:(100000:Nat)<=sizeLine:=by decide
 obtain⟨f2,f4,f5⟩:=Cv hs Mi hl hlen 24 0 r (z0S _) h
 have f1:mZ [.tup (names.map PV.str),.str sg]=some ⟨jC names,sg⟩:=by
  have a1:ae aW (bU wR (dV 1)) (dC (.lst kF)) [.un,.sh (.tup (names.map PV.str)),.sh (.str sg)]=some (.lst (jC names)):=by
   refine(af (x:=.lst (names.map PV.str)) (y:=.lst kF) rfl rfl).trans ?_
   show(if(names.map PV.str).length+kF.length<=sizeLine then some (PV.lst (names.map PV.str++kF))else none)=_
   rw[if_pos (by rw[X6];rw[z0E]at hl;have:kF.length=10:=rfl;omega)]
   unfold jC
   rw[z0b]
   rfl
  unfold mZ xq
  show((ae aW (bU wR (dV 1)) (dC (.lst kF)) [.un,.sh (.tup (names.map PV.str)),.sh (.str sg)]).bind _)=_
  rw[a1]
  rfl
 show(if 2<4/\3<4 then((mZ [.tup (names.map PV.str),.str sg]).bind _)else none)=_
 rw[if_pos ⟨by decide,by decide⟩,f1]
 show((bF 24 ⟨jC names,sg⟩ ((0:Nat):Int) []).bind _)=_
 rw[f2]
 obtain⟨n,o⟩:=r
 cases o with
 |none=>rfl
 |some p=>
  have hx:=f5 p rfl
  have ht:tV (ae yc mI (bU cL vf)) (wQ ⟨jC names,sg⟩ (n:Nat) [.un])=some (decide (n<sg.length)):=by
   refine cq ((af (x:=.int (n:Nat)) (y:=.int (sg.length:Nat)) (IV _ _ _) ((cK (Nq _ _ _)).trans (if_pos (z0T hlen zl)))).trans ?_)
   show some (PV.bl (decide ((n:Int)<(sg.length:Int))))=_
   congr 2
   rw[decide_eq_decide]
   omega
  show(if(jK p).isSome=true then some p else(fz ⟨jC names,sg⟩ (n:Nat) []).map _)=_
  rw[hx]
  show((fz ⟨jC names,sg⟩ (n:Nat) []).map _)=_
  by_cases tM:n<sg.length
  ·rw[decide_eq_true tM]at ht
   have f3:fz ⟨jC names,sg⟩ (n:Nat) []=some (((n:Nat):Int),tP (n:Nat)):=jU rfl ((AX ht).trans (oz (by omega)))
   rw[f3]
   show some (tP (n:Nat))=some (if n<sg.length then _ else _)
   rw[if_pos tM]
  ·rw[decide_eq_false tM]at ht
   have f3:fz ⟨jC names,sg⟩ (n:Nat) []=some (((n:Nat):Int),.non):=IS (ρ':=[.un]) rfl ((AY ht).trans rfl)
   rw[f3]
   show some p=some (if n<sg.length then _ else _)
   rw[if_neg tM]
end L2.D.Rq
namespace L2.D.My
open PySem
def sN(bq:Nat->List PV->Option PV):bE:=(dh (ae aW (ae aW (dC (.str "all(")) (jA bq (bZ 0) aO)) (dC (.str ")"))))
def sO(bq:Nat->List PV->Option PV):bE:=(dh (ae aW (ae aW (dC (.str "any(")) (jA bq (bZ 0) aO)) (dC (.str ")"))))
def cx(fN:Nat->List PV->Option PV):bE:=(dh (ae Af (dC (.str ", ")) (eI (OZ (bU (kQ oN "parts") (dV 0))) eY (jA fN (bZ 0) aO))))
def qS:bE:=(dh (bU (kQ oN "name") (dV 0)))
def qT(bq:Nat->List PV->Option PV):bE:=(dh (ae aW (ae aW (ae aW (bU Fd (bU (kQ oN "wanted") (dV 0))) (dC (.str " of ("))) (jA bq (bZ 0) aO)) (dC (.str ")"))))
def gI(fN:Nat->List PV->Option PV):Nat->List PV->Option PV
 |1=>fn false 1 1 (cx fN)
 |2=>fn false 1 1 (cx fN)
 |3=>fn false 1 1 (cx fN)
 |_=>λ_=>none
def jG:Nat->Nat->List PV->Option PV
 |0,_=>λ_=>none
 |n+1,0=>fn false 1 1 (qS)
 |n+1,1=>fn false 1 1 (sN (gI (jG n)))
 |n+1,2=>fn false 1 1 (sO (gI (jG n)))
 |n+1,3=>fn false 1 1 (qT (gI (jG n)))
 |_+1,_=>λ_=>none
def fN:Nat->List PV->Option PV:=jG 24
def kh:bE:=(ba (lu (tV (ae yc (dV 1) (bU cL (dV 0)))) (dh (ae ie (dV 0) (dV 1))) dP) (dh (dC (.int 0))))
def F_law_cell_at:List PV->Option PV:=fn false 2 2 (kh)
def Cw:bE:=(ba (b9 4 (dC (.str "abcdefghijklmnopqrstuvwxyz"))) (ba (b9 5 (ae ie (dV 4) (ae cJ (ae aW (ae HK (dV 4) (ae ie (dV 0) (dV 1))) (ae rR (dC (.int 3)) (dV 3))) (dC (.int 26))))) (dh (ae aW (ae aW (eX (dV 0) cD (aX (dV 1))) (dV 5)) (eX (dV 0) (aX (ae aW (dV 1) (dC (.int 1)))) (aX (dV 2)))))))
def cF:List PV->Option PV:=fn false 6 4 (Cw)
def lI:bE:=(ba (b9 2 (ae cJ (ae aW (ae aW (ae aW (ae rR (dV 2) (dV 2)) (ae rR (dC (.int 48271)) (dV 2))) (dV 4)) (dC (.int 1))) (dC (.int 2147483647)))) (b9 3 (ae aW (dV 3) (ae ie (dC (.str "abcdefghijklmnopqrstuvwxyz")) (ae cJ (dV 2) (dC (.int 26)))))))
def Cy:bE:=(ba (b9 2 (ae cJ (ae aW (ae rR (ae cJ (dV 0) (dC (.int 2147483647))) (dC (.int 16807))) (dC (.int 11))) (dC (.int 2147483647)))) (ba (b9 3 (dC (.str ""))) (ba (ye (mR (dV 1)) (dF 4) lI) (dh (bZ 3)))))
def F_law_base:List PV->Option PV:=fn false 5 2 (Cy)
def ki(F_law_cell_at cF F_law_base:List PV->Option PV):bE:=(ba (b9 10 (bP cF (ah (bZ 7) (ah (ae cJ (ae jZ (dV 3) (dC (.int 80))) (dV 4)) (ah (bZ 4) (ah (bZ 9) aO)))))) (ba (lu (tV (ae gM (ae cJ (ae jZ (dV 3) (dC (.int 20))) (dC (.int 4))) (dC (.int 1)))) (b9 10 (eX (dV 7) cD (aX (ae aW (dV 9) (dC (.int 1)))))) dP) (ba (lu (tV (ae SY (dV 10) (jO (ah (dC (.str "all")) (ah (dC (.str "any")) (ah (dC (.str "of")) aO)))))) (b9 10 (bU Pg (dV 10))) dP) (uK 8 j4 (ah (bZ 10) aO)))))
def sP(F_law_cell_at cF F_law_base:List PV->Option PV):bE:=(ba (b9 3 (bP F_law_cell_at (ah (bZ 0) (ah (bZ 1) aO)))) (ba (b9 4 (ae aW (dC (.int 1)) (ae cJ (dV 3) (dC (.int 20))))) (ba (b9 5 (bP F_law_cell_at (ah (bZ 0) (ah (ae aW (dV 1) (dC (.int 1))) aO)))) (ba (b9 6 (ae ie (oF (ah (dC (.str "")) (ah (dC (.str "")) (ah (dC (.str "all")) (ah (dC (.str "")) (ah (dC (.str "any")) (ah (dC (.str "")) (ah (dC (.str "of")) (ah (dC (.str "al")) aO))))))))) (ae cJ (dV 5) (dC (.int 8))))) (ba (b9 7 (eX (ae aW (dV 6) (bP F_law_base (ah (ae jZ (dV 5) (dC (.int 8))) (ah (dC (.int 20)) aO)))) cD (aX (dC (.int 20))))) (ba (qx 8 (oF aO)) (ba (ye (mR (dV 2)) (dF 9) (ki F_law_cell_at cF F_law_base)) (M8 8))))))))
def iE:List PV->Option PV:=fn true 11 3 (sP F_law_cell_at cF F_law_base)
def Cz(iE F_law_cell_at:List PV->Option PV):bE:=(dh (bU BZ (bP iE (ah (bZ 0) (ah (dC (.int 2)) (ah (ae aW (dC (.int 1)) (ae cJ (bP F_law_cell_at (ah (bZ 0) (ah (dC (.int 0)) aO))) (dC (.int 6)))) aO))))))
def iZ:List PV->Option PV:=fn false 1 1 (Cz iE F_law_cell_at)
def wq:bE:=(ba (qx 3 (eI (nList (dV 2)) eY (ae ie (dV 0) (dC (.int 0))))) (ba (b9 4 (bU BZ (eI (nList (dV 2)) eY (ae ie (dV 0) (dC (.int 1)))))) (ba (b9 5 (ae aW (ae Af (dC (.str ", ")) (eI (nList (dV 2)) eY (ae ie (dV 0) (dC (.int 2))))) (dC (.str ")")))) (ba (b9 6 (ae aW (dC (.int 1)) (bU oK (eI (nList (dV 2)) eY (ae ie (dV 0) (dC (.int 3))))))) (ba (lu (tV (ae gM (dV 0) (dC (.int 0)))) (b9 7 (jO (ah (bU Ai (dV 3)) (ah (jO (ah (dC (.str "all")) (ah (bZ 4) aO))) (ah (ae aW (dC (.str "all(")) (dV 5)) (ah (bZ 6) aO)))))) (lu (tV (ae gM (dV 0) (dC (.int 1)))) (b9 7 (jO (ah (bU Aj (dV 3)) (ah (jO (ah (dC (.str "any")) (ah (bZ 4) aO))) (ah (ae aW (dC (.str "any(")) (dV 5)) (ah (bZ 6) aO)))))) (b9 7 (jO (ah (ae pq (dV 1) (dV 3)) (ah (jO (ah (dC (.str "some")) (ah (bZ 1) (ah (bZ 4) aO)))) (ah (ae aW (ae aW (bU Fd (dV 1)) (dC (.str " of ("))) (dV 5)) (ah (bZ 6) aO)))))))) (ba (uK 3 Hd aO) (dh (bZ 7))))))))
def aD:List PV->Option PV:=fn false 8 3 (wq)
def jX(aD:List PV->Option PV):bE:=(ba (b9 2 (ae cJ (ae aW (ae rR (dV 2) (dV 2)) (ae rR (dC (.int 48271)) (dV 2))) (dC (.int 2147483647)))) (ba (b9 3 (DJ (dV 0) (aX (bU mQ (dC (.int 8)))) cD)) (ba (qx 0 (DJ (dV 0) cD (aX (bU mQ (dC (.int 8)))))) (uK 0 j4 (ah (bP aD (ah (ae cJ (dV 2) (dC (.int 3))) (ah (ae aW (dC (.int 1)) (ae cJ (ae jZ (dV 2) (dC (.int 3))) (bU cL (dV 3)))) (ah (bZ 3) aO)))) aO)))))
def qU(aD:List PV->Option PV):bE:=(ba (b9 2 (ae aW (dC (.int 1)) (ae cJ (dV 1) (dC (.int 2147483646))))) (ba (gN (tV (ae KA (bU cL (dV 0)) (dC (.int 1)))) (jX aD) 1000) (dh (ae ie (dV 0) (dC (.int 0))))))
def F_law_folded:List PV->Option PV:=fn false 4 2 (qU aD)
def CA:bE:=(dh (jO (ah (bU Ah (dV 0)) (ah (jO (ah (dC (.str "hand")) (ah (bZ 0) aO))) (ah (bZ 0) (ah (dC (.int 0)) aO))))))
def cG:List PV->Option PV:=fn false 1 1 (CA)
def kj(F_law_folded cG F_law_cell_at aD:List PV->Option PV):bE:=(ba (b9 7 (DJ (dV 4) (aX (bU mQ (ae aW (dC (.int 1)) (ae cJ (ae jZ (dV 6) (dC (.int 9))) (dC (.int 8)))))) cD)) (ba (b9 8 (bU oK (eI (nList (dV 7)) eY (ae ie (dV 0) (dC (.int 3)))))) (lu (xO (tV (ae yc (ae cJ (dV 6) (dC (.int 9))) (dC (.int 6)))) (xO (tV (ae KA (dV 8) (dC (.int 11)))) (tV (ae KA (dV 5) (dC (.int 13)))))) (uK 4 j4 (ah (bP cG (ah (ae ie (dV 3) (ae cJ (ae jZ (dV 6) (dC (.int 9))) (bU cL (dV 3)))) aO)) aO)) (ba (qx 4 (DJ (dV 4) cD (aX (ae zK (bU cL (dV 4)) (bU cL (dV 7)))))) (ba (uK 4 j4 (ah (bP aD (ah (ae zK (ae cJ (dV 6) (dC (.int 9))) (dC (.int 6))) (ah (ae aW (dC (.int 1)) (ae cJ (ae jZ (dV 6) (dC (.int 72))) (bU cL (dV 7)))) (ah (bZ 7) aO)))) aO)) (b9 5 (ae aW (dV 5) (dC (.int 1)))))))))
def sQ(F_law_folded cG F_law_cell_at aD:List PV->Option PV):bE:=(ba (qx 4 (oF (ah (bP cG (ah (ae ie (dV 3) (ae cJ (bP F_law_cell_at (ah (bZ 0) (ah (bZ 1) aO))) (bU cL (dV 3)))) aO)) aO))) (ba (b9 5 (dC (.int 0))) (ba (ye (nList (DJ (dV 0) (aX (ae aW (dV 1) (dC (.int 1)))) (aX (ae aW (dV 1) (dV 2))))) (dF 6) (kj F_law_folded cG F_law_cell_at aD)) (ba (Lf 4) (dh (bP F_law_folded (ah (bZ 4) (ah (bP F_law_cell_at (ah (bZ 0) (ah (dC (.int 1)) aO))) aO))))))))
def fV:List PV->Option PV:=fn false 9 4 (sQ F_law_folded cG F_law_cell_at aD)
def tQ:bE:=(ba (b9 4 (eI (mR (bU cL (dV 0))) (tV (ae HV (ae ie (dV 1) (dV 0)) (dV 2))) (bZ 0))) (ba (lu (tV (ae gM (dV 4) (oF aO))) (dh (ae aW (dV 0) (dV 2))) dP) (ba (b9 5 (ae ie (dV 4) (ae cJ (dV 3) (bU cL (dV 4))))) (ba (lu (tV (ae gM (dV 1) (dC (.str ")")))) (dh (ae aW (ae aW (eX (dV 0) cD (aX (dV 5))) (dV 2)) (eX (dV 0) (aX (dV 5)) cD))) dP) (dh (ae aW (ae aW (eX (dV 0) cD (aX (dV 5))) (dV 2)) (eX (dV 0) (aX (ae aW (dV 5) (dC (.int 1)))) cD)))))))
def df:List PV->Option PV:=fn false 6 4 (tQ)
def wu:bE:=(ba (b9 1 (dC (.str " !\"#$&'()*+,-./0123456789:;<=>?@ABCDEFGHIJKLMNOPQRSTUVWXYZ[\\]^_`{|}~"))) (dh (ae ie (dV 1) (ae cJ (dV 0) (bU cL (dV 1))))))
def fL:List PV->Option PV:=fn false 2 1 (wu)
def CB(fL:List PV->Option PV):bE:=(ba (lu (tV (ae gM (ae cJ (dV 0) (dC (.int 3))) (dC (.int 0)))) (dh (ae ie (dC (.str "(), of123456789al0")) (ae cJ (ae jZ (dV 0) (dC (.int 3))) (dC (.int 18))))) dP) (ba (lu (tV (ae gM (ae cJ (dV 0) (dC (.int 3))) (dC (.int 1)))) (dh (ae ie (dC (.str "abcdefghijklmnopqrstuvwxyz")) (ae cJ (ae jZ (dV 0) (dC (.int 3))) (dC (.int 26))))) dP) (dh (bP fL (ah (ae jZ (dV 0) (dC (.int 3))) aO)))))
def ip:List PV->Option PV:=fn false 1 1 (CB fL)
def yI(F_law_cell_at df ip:List PV->Option PV):bE:=(ba (b9 3 (ae cJ (bP F_law_cell_at (ah (bZ 0) (ah (dC (.int 4)) aO))) (dC (.int 9)))) (ba (b9 4 (bP F_law_cell_at (ah (bZ 0) (ah (dC (.int 5)) aO)))) (ba (b9 5 (ae cJ (bP F_law_cell_at (ah (bZ 0) (ah (dC (.int 30)) aO))) (ae aW (bU cL (dV 2)) (dC (.int 1))))) (ba (lu (tV (ae gM (dV 3) (dC (.int 1)))) (dh (ae aW (ae aW (eX (dV 2) cD (aX (dV 5))) (bP ip (ah (bZ 4) aO))) (eX (dV 2) (aX (dV 5)) cD))) dP) (ba (lu (tV (ae gM (dV 3) (dC (.int 2)))) (dh (ae aW (ae aW (eX (dV 2) cD (aX (dV 5))) (bP ip (ah (bZ 4) aO))) (eX (dV 2) (aX (ae aW (dV 5) (dC (.int 1)))) cD))) dP) (ba (lu (tV (ae gM (dV 3) (dC (.int 3)))) (dh (ae aW (eX (dV 2) cD (aX (dV 5))) (eX (dV 2) (aX (ae aW (dV 5) (dC (.int 1)))) cD))) dP) (ba (lu (tV (ae gM (dV 3) (dC (.int 4)))) (dh (eX (dV 2) cD (aX (dV 5)))) dP) (ba (lu (tV (ae gM (dV 3) (dC (.int 5)))) (dh (bP df (ah (bZ 2) (ah (dC (.str ")")) (ah (ae aW (dC (.str ", ")) (ae ie (dV 1) (ae cJ (dV 4) (bU cL (dV 1))))) (ah (bP F_law_cell_at (ah (bZ 0) (ah (dC (.int 30)) aO))) aO)))))) dP) (ba (lu (tV (ae gM (dV 3) (dC (.int 6)))) (dh (bP df (ah (bZ 2) (ah (dC (.str "12345678")) (ah (ae ie (dC (.str "0123456789")) (ae cJ (dV 4) (dC (.int 10)))) (ah (bP F_law_cell_at (ah (bZ 0) (ah (dC (.int 30)) aO))) aO)))))) dP) (ba (lu (tV (ae gM (dV 3) (dC (.int 7)))) (dh (ae aW (dV 2) (ae ie (oF (ah (dC (.str ")")) (ah (dC (.str ", ")) (ah (dC (.str " ")) (ah (ae ie (dV 1) (dC (.int 0))) (ah (dC (.str "(")) aO)))))) (ae cJ (dV 4) (dC (.int 5)))))) dP) (dh (bZ 2))))))))))))
def gJ:List PV->Option PV:=fn false 6 3 (yI F_law_cell_at df ip)
def kl:bE:=(b9 3 (ae aW (dV 3) (dC (.int 1))))
def A8:bE:=(ba (b9 3 (dC (.int 0))) (ba (gN (rH (tV (ae yc (dV 3) (bU cL (dV 2)))) (tV (ae gM (eX (dV 0) (aX (ae aW (dV 1) (dV 3))) (aX (ae aW (ae aW (dV 1) (dV 3)) (dC (.int 1))))) (ae ie (dV 2) (dV 3))))) kl 1000) (dh (bZ 3))))
def dz:List PV->Option PV:=fn false 4 3 (A8)
def km(dz:List PV->Option PV):bE:=(ba (b9 7 (bP dz (ah (bZ 1) (ah (bZ 2) (ah (bZ 6) aO))))) (ba (b9 3 (ae Tn (dV 3) (dV 7))) (ba (b9 8 (eX (dV 1) (aX (ae aW (dV 2) (dV 7))) (aX (ae aW (ae aW (dV 2) (dV 7)) (dC (.int 1)))))) (ba (b9 9 (S1 (ae gM (ae ie (dV 6) (bU mQ (dC (.int 1)))) (dC (.str "("))) (ae gM (dV 8) (dC (.str ""))))) (lu (rH (tV (ae gM (dV 7) (bU cL (dV 6)))) (xO (tV (bZ 9)) (xO (tV (ae FH (dV 8) (dC (.str "a")))) (tV (ae Md (dV 8) (dC (.str "z"))))))) (b9 4 (bZ 6)) dP)))))
def A9(dz:List PV->Option PV):bE:=(ba (b9 3 (dC (.int 0))) (ba (b9 4 (dC (.str ""))) (ba (b9 5 (ae aW (oF (ah (dC (.str "all(")) (ah (dC (.str "any(")) aO))) (bU wR (dV 0)))) (ba (b9 5 (ae aW (dV 5) (eI (Ts (dC (.str "12345678"))) eY (ae aW (dV 0) (dC (.str " of (")))))) (ba (ye (nList (bZ 5)) (dF 6) (km dz)) (dh (jO (ah (bZ 3) (ah (bZ 4) aO)))))))))
def fW:List PV->Option PV:=fn false 10 3 (A9 dz)
def d7:List PV->Option PV:=qR fW
def mE:List (Str×Int):=[("all(",1),("any(",1),("1 of (",1),("2 of (",2),("3 of (",3),("4 of (",4),("5 of (",5),("6 of (",6),("7 of (",7),("8 of (",8)]
def kF:List PV:=[.str "all(",.str "any(",.str "1 of (",.str "2 of (",.str "3 of (",.str "4 of (",.str "5 of (",.str "6 of (",.str "7 of (",.str "8 of ("]
def jS:bE:=(ba (b9 2 (dC (.int 0))) (ba (ye (D8 (bZ 0) (bZ 1)) (rS (dF 3) (dF 4)) (ba (lu (tV (ae tO (dV 3) (dV 4))) uJ dP) (b9 2 (ae Ei (dV 2) (dC (.int 1)))))) (dh (bZ 2))))
def cU:List PV->Option PV:=fn false 5 2 jS
def vf:Den:=bU (kQ oN "signs") (dV 0)
def mI:Den:=bU (kQ oN "at") (dV 0)
def AG:Den:=bU (kQ oN "words") (dV 0)
def yv:bE:=dh (ae gM (eX vf (aX mI) (aX (ae aW mI (dC (.int 1))))) (dV 1))
def hU:List PV->Option PV:=fn false 2 2 yv
def mX:dY:=fK (vb 1 (eX vf (aX mI) cD)) (fK (vb 2 (bU oK (eI (nList AG) eY (bP cU (ah (bZ 2) (ah (bZ 0) aO)))))) (fK (Ce (bZ 2)) (fK (Az (tV (ae uH (eX (dV 1) cD (aX (dV 2))) AG)) iX kR) (AA (eX (dV 1) cD (aX (dV 2)))))))
def dZ:FQ:=tY false 3 1 mX
def mY:dY:=fK (Az (vZ (tV (jA (sJ hU) (bZ 0) (ah (bZ 1) aO)))) iX kR) (Ce (dC (.int 1)))
def cH:FQ:=tY false 2 2 mY
def ia:bE:=(ba (lu (tV (ae gM (dV 0) (dC (.str "all(")))) (dh (bU Ai (dV 1))) dP) (ba (lu (tV (ae gM (dV 0) (dC (.str "any(")))) (dh (bU Aj (dV 1))) dP) (dh (ae pq (bU (uY mE) (dV 0)) (dV 1)))))
def bQ:List PV->Option PV:=fn false 2 2 ia
def kg:de:=xO (tV (ae yc (bU cL (dV 2)) (dV 1))) (vZ (tV (jA (sJ hU) (bZ 0) (ah (dC (.str ")")) aO))))
def jT(FT:FQ):dY:=fK (Az (tV (ae gM (bU cL (dV 2)) (dC (.int 8)))) iX kR) (fK (mD (fP cH (ah (dC (.str ",")) aO))) (fK (mD (fP cH (ah (dC (.str " ")) aO))) (Cf 2 (fP FT aO))))
def dq(FT:FQ):dY:=fK (pC 2 (fP FT aO)) (fK (iY kg (jT FT) 10) (fK (mD (fP cH (ah (dC (.str ")")) aO))) (xm 2)))
def jf(FP:FQ):dY:=fK (sI 1 (fP dZ aO)) (fK (Az (tV (bU (qG mE) (dV 1))) (xk (bU Ah (dV 1))) kR) (vd bQ (bZ 1) (fP FP (ah (bU (uY mE) (dV 1)) aO))))
def bF:Nat->FQ
 |0=>λ_ _ _=>none
 |n+1=>tY false 2 1 (jf (tY true 3 2 (dq (bF n))))
def pE:dY:=Az (tV (ae yc mI (bU cL vf))) iX kR
def fz:FQ:=tY false 1 1 pE
def mZ:List PV->Option Rg:=xq 3 3 (ae aW (bU wR (dV 1)) (dC (.lst kF))) (bZ 2)
def Cg:Den:=IA 2 3 mZ (bF 24) fz (ah (bZ 0) (ah (bZ 1) aO))
def il:List PV->Option PV:=λqs=>if qs.length=2 then Cg (ig 4 qs)else none
def Ba:bE:=(dh (DK (bU (RJ 0) (dV 0)) (M7 (bU (RJ 1) (dV 0)))))
def nq:List PV->Option PV:=fn false 1 1 (Ba)
def Ud(iZ fV gJ d7 F_law_cell_at il:List PV->Option PV)(fN:Nat->List PV->Option PV):bE:=(ba (b9 1 (bP iZ (ah (bZ 0) aO))) (ba (To (HJ [(dF 2),(dF 3),(dF 4),(dF 5)]) (bP fV (ah (bZ 0) (ah (dC (.int 6)) (ah (dC (.int 24)) (ah (bZ 1) aO)))))) (ba (b9 6 (bP gJ (ah (bZ 0) (ah (bZ 1) (ah (bZ 4) aO))))) (ba (lu (rH (tV (ae gM (ae cJ (bP F_law_cell_at (ah (bZ 0) (ah (dC (.int 4)) aO))) (dC (.int 9))) (dC (.int 8)))) (tV (ae KA (bU cL (dV 1)) (dC (.int 1))))) (ba (b9 7 (ae cJ (bP F_law_cell_at (ah (bZ 0) (ah (dC (.int 5)) aO))) (bU cL (dV 1)))) (b9 1 (ae Jr (Ct (bZ 1) cD (aX (dV 7))) (Ct (bZ 1) (aX (ae aW (dV 7) (dC (.int 1)))) cD)))) dP) (ba (b9 8 (bP d7 (ah (bZ 1) (ah (bZ 6) aO)))) (xB il fN))))))
def EB:List PV->Option PV:=fn false 11 1 (Ud iZ fV gJ d7 F_law_cell_at il fN)
def top(i:Nat):Stmt:=PySem.Challenge.pw_signright_k23_where_a_text_fails.main.body.getD i (.Pass ⟨0,0,0,0⟩)
def bR(i j:Nat):Stmt:=LH (top i) j
structure Bl(K:PySem.W.Frag)(mg:Str->Option Value):Prop where
 ValueError:mg "ValueError" =none
 bool:mg "bool" =none
 int:mg "int" =none
 isinstance:mg "isinstance" =none
 len:mg "len" =none
 list:mg "list" =none
 max:mg "max" =none
 range:mg "range" =none
 str:mg "str" =none
 tuple:mg "tuple" =none
 zip:mg "zip" =none
 g_MOST_PARTS:∃t,mg "MOST_PARTS" =some (.int 8 t)
def FL(K:PySem.W.Frag)(f:Addr)(x q:Str)(st:Stmt):Prop:=∃(oc:Value) (od:Option Addr) (sl:Array (Option Value)) (kV dc pm:Value) (an:Option Addr) (cd ct:Value),K.lookup f=some ⟨oc,od,.func (PySem.W.fnOf x q (om st) (iH st) (ao st) .none kV dc pm an cd ct),sl⟩/\PySem.W.codeIn K cd q=true/\PySem.W.keepIn K (.ref f)=true
theorem kK{K:PySem.W.Frag}{f:Addr}{x q:Str}{st:Stmt}{oc kV dc pm cd ct:Value}{od an:Option Addr}{sl:Array (Option Value)}(l:K.lookup f=some ⟨oc,od,.func (PySem.W.fnOf x q (om st) (iH st) (ao st) .none kV dc pm an cd ct),sl⟩)(c:PySem.W.codeIn K cd q=true)(k:PySem.W.keepIn K (.ref f)=true):FL K f x q st:=⟨_,_,_,_,_,_,_,_,_,l,c,k⟩
theorem aY{K:PySem.W.Frag}{f:Addr}{x q:Str}{st:Stmt}(h:FL K f x q st):∃fd,L2.rQ K x q st f fd:=by
 obtain⟨_,_,_,_,_,_,_,_,_,l,c,k⟩:=h
 exact⟨_,OS l c k⟩
structure Ed(K:PySem.W.Frag)(mg:Str->Option Value)(x:Str)(st:Stmt)(ps:List Str)(f:Addr)(fd:FuncData):Prop where
 F:L2.rQ K x x st f fd
 b:L2.Binds K fd ps []
 m:mg x=some (.ref f)
structure Zx(K:PySem.W.Frag)(mg:Str->Option Value)(aS dj dk cO ai eN cz cP cQ jH:Addr):Prop where
 m_SignError:mg "SignError" =some (.ref aS)
 m_NoRoll:mg "NoRoll" =some (.ref dj)
 m_NoHand:mg "NoHand" =some (.ref dk)
 m_NoGroup:mg "NoGroup" =some (.ref cO)
 m_NoRule:mg "NoRule" =some (.ref ai)
 m_NoDay:mg "NoDay" =some (.ref eN)
 m_NoDeputy:mg "NoDeputy" =some (.ref cz)
 m_NoEntry:mg "NoEntry" =some (.ref cP)
 m_Unruled:mg "Unruled" =some (.ref cQ)
 st:va K ai
 x:yo K ai
 b:Below K aS ai
 k_NoRoll:PySem.W.kitOne K (.ref ai) (.ref dj)=some false
 k_NoHand:PySem.W.kitOne K (.ref ai) (.ref dk)=some false
 k_NoGroup:PySem.W.kitOne K (.ref ai) (.ref cO)=some false
 k_NoRule:PySem.W.kitOne K (.ref ai) (.ref ai)=some true
 k_NoDay:PySem.W.kitOne K (.ref ai) (.ref eN)=some false
 k_NoDeputy:PySem.W.kitOne K (.ref ai) (.ref cz)=some false
 k_NoEntry:PySem.W.kitOne K (.ref ai) (.ref cP)=some false
 k_Unruled:PySem.W.kitOne K (.ref ai) (.ref cQ)=some false
 k_ValueError:PySem.W.kitOne K (.ref ai) (.type "ValueError")=some true
 hi:PySem.W.findIn K (.ref ai) "__init__" =some (some (.ref jH))
 hf:PySem.W.typeIn K (.ref jH)=some (.type "function")
 kp:PySem.W.keepIn K (.ref ai)=true
 rd:∃mc,PySem.W.readsIn K aS mc=true/\PySem.W.findCls K (.ref aS) mc "__init__" =some (.val (.builtin "ValueError.__init__"))
 ga:PySem.W.specialIn K (.ref aS) "__getattribute__" =some (some (.builtin "type.__getattribute__"))
section
variable{P:Program}{w:World}{K:PySem.W.Frag}{mg:Str->Option Value}{base:Heap}{κ:Kl}{CR CC gK gO gQ gU fT jH aS dj dk cO ai eN cz cP cQ:Addr}{oP sR sT sU xE kU:FuncData}{d9 eg ay du dv bD iq iu fX iw cT fB ix fZ dg eG iA fE gc gd fF gf vC iB gg gi Bb:Addr}{jI jJ cN ja jb bI jh ji iK jj dH gW jk iL eW gj jl gX iN iO gZ iP yJ jm iQ iR yK:FuncData}
theorem qV:aU ["self"] ["self"] (ao (bR 15 2)):=⟨rfl,rfl,rfl,by decide+kernel,rfl,by decide+kernel,by decide+kernel⟩
theorem yL{k0:Nat}{bq:Nat->List PV->Option PV}(Nz:1<=k0)(B:Bl K mg)(gk:Em K "text" "All.text" (bR 15 2) ["self"] d9 jI)(C:pD K mg κ CR CC gK gO gQ gU fT)(cC:ik P w K mg base κ false "text_of_parts" k0 ["self"] bq):aK P w K mg base cX (k0+1) d9 jI ["self"] (hR K κ false (fn false 1 1 (sN bq))):=
 cA gk.F qV λcR A outer s H E hr=>have nd:=qV.nd;(aH (bX (aF (DE.b (aF (DE.b aI) (DE.b (mV cC hr (aB 0))))) (DE.b aI))))
theorem qW:aU ["self"] ["self"] (ao (bR 16 2)):=⟨rfl,rfl,rfl,by decide+kernel,rfl,by decide+kernel,by decide+kernel⟩
theorem yM{k0:Nat}{bq:Nat->List PV->Option PV}(Nz:1<=k0)(B:Bl K mg)(gn:Em K "text" "Any.text" (bR 16 2) ["self"] eg jJ)(C:pD K mg κ CR CC gK gO gQ gU fT)(cC:ik P w K mg base κ false "text_of_parts" k0 ["self"] bq):aK P w K mg base cX (k0+1) eg jJ ["self"] (hR K κ false (fn false 1 1 (sO bq))):=
 cA gn.F qW λcR A outer s H E hr=>have nd:=qW.nd;(aH (bX (aF (DE.b (aF (DE.b aI) (DE.b (mV cC hr (aB 0))))) (DE.b aI))))
theorem gr:aU ["self"] ["self"] (ao (bR 14 4)):=⟨rfl,rfl,rfl,by decide+kernel,rfl,by decide+kernel,by decide+kernel⟩
theorem dI{k0:Nat}{fN:Nat->List PV->Option PV}(Nz:1<=k0)(B:Bl K mg)(aL:Em K "text_of_parts" "Counting.text_of_parts" (bR 14 4) ["self"] ay cN)(C:pD K mg κ CR CC gK gO gQ gU fT)(lK:ik P w K mg base κ false "text" k0 ["self"] fN):aK P w K mg base cX (k0+1) ay cN ["self"] (hR K κ false (fn false 1 1 (cx fN))):=
 cA aL.F gr λcR A outer s H E hr=>have nd:=gr.nd;(aH (bX (D1 (DE.b aI) (DO.b (lE (Lo (DE.b (eJ C.fld (C.jB _) (aa 0)))) (ao (bR 14 4)) ["self"] ["self"] (λex C s H=>(mV lK hr (aB 0))))))))
theorem oQ:aU ["self"] ["self"] (ao (bR 13 2)):=⟨rfl,rfl,rfl,by decide+kernel,rfl,by decide+kernel,by decide+kernel⟩
theorem wx{k0:Nat}(Nz:1<=k0)(B:Bl K mg)(fG:Em K "text" "Hand.text" (bR 13 2) ["self"] du ja)(C:pD K mg κ CR CC gK gO gQ gU fT):aK P w K mg base cX (k0+1) du ja ["self"] (hR K κ false (fn false 1 1 (qS))):=
 cA fG.F oQ λcR A outer s H E hr=>have nd:=oQ.nd;(aH (bX (eJ C.fld (C.jB _) (aa 0))))
theorem oR:aU ["self"] ["self"] (ao (bR 17 2)):=⟨rfl,rfl,rfl,by decide+kernel,rfl,by decide+kernel,by decide+kernel⟩
theorem wy{k0:Nat}{bq:Nat->List PV->Option PV}(Nz:1<=k0)(B:Bl K mg)(fI:Em K "text" "Some.text" (bR 17 2) ["self"] dv jb)(C:pD K mg κ CR CC gK gO gQ gU fT)(cC:ik P w K mg base κ false "text_of_parts" k0 ["self"] bq):aK P w K mg base cX (k0+1) dv jb ["self"] (hR K κ false (fn false 1 1 (qT bq))):=
 cA fI.F oR λcR A outer s H E hr=>have nd:=oR.nd;(aH (bX (aF (DE.b (aF (DE.b (aF (DE.b (D2 (DE.b (eJ C.fld (C.jB _) (aa 0))) B.str)) (DE.b aI))) (DE.b (mV cC hr (aB 0))))) (DE.b aI))))
theorem nr:aU ["_law_script","_law_k"] ["_law_script","_law_k"] (ao (top 26)):=⟨rfl,rfl,rfl,by decide+kernel,rfl,by decide+kernel,by decide+kernel⟩
theorem vD(B:Bl K mg)(aj:Ed K mg "_law_cell_at" (top 26) ["_law_script","_law_k"] bD bI):aK P w K mg base cX 1 bD bI ["_law_script","_law_k"] (hR K κ false F_law_cell_at):=
 cA aj.F nr λcR A outer s H E hr=>have nd:=nr.nd;(aq (gL (bj (uO (aa 1) (DE.b (dR (aa 0) B.len)))) (aH (bX (cY (aa 0) (aa 1)))) dn) (aH (bX ak)))
theorem sV:aU ["_law_base_here","_law_place","_law_size","_law_k","_law_letters","_law_other"] ["_law_base_here","_law_place","_law_size","_law_k"] (ao (top 28)):=⟨rfl,rfl,rfl,by decide+kernel,rfl,by decide+kernel,by decide+kernel⟩
theorem Bc(B:Bl K mg)(gw:Ed K mg "_law_name" (top 28) ["_law_base_here","_law_place","_law_size","_law_k"] iq jh):aK P w K mg base cX 1 iq jh ["_law_base_here","_law_place","_law_size","_law_k"] (hR K κ false cF):=
 cA gw.F sV λcR A outer s H E hr=>have nd:=sV.nd;(aq (bh 4 nd aI) (aq (bh 5 nd (cY (aa 4) (DE.b (cy (DE.b (aF (DE.b (D0 (aa 4) (DE.b (cY (aa 0) (aa 1))))) (DE.b (rT (DE.b ak) (aa 3))))) (DE.b ak))))) (aH (bX (aF (DE.b (aF (DE.b (bH (aa 0) cM (bA (aa 1)))) (aa 5))) (DE.b (bH (aa 0) (bA (DE.b (aF (aa 1) (DE.b ak)))) (bA (aa 2)))))))))
theorem sW:aU ["_law_cell","_law_size","_law_number","_law_found","_law_k"] ["_law_cell","_law_size"] (ao (top 27)):=⟨rfl,rfl,rfl,by decide+kernel,rfl,by decide+kernel,by decide+kernel⟩
theorem Bd(B:Bl K mg)(gy:Ed K mg "_law_base" (top 27) ["_law_cell","_law_size"] iu ji):aK P w K mg base cX 1 iu ji ["_law_cell","_law_size"] (hR K κ false F_law_base):=
 cA gy.F sW λcR A outer s H E hr=>have nd:=sW.nd;(aq (bh 2 nd (cy (DE.b (aF (DE.b (rT (DE.b (cy (aa 0) (DE.b ak))) (DE.b ak))) (DE.b ak))) (DE.b ak))) (aq (bh 3 nd aI) (aq (uR (DR (aa 1) B.range) (i9 4 nd) (aq (bh 2 nd (cy (DE.b (aF (DE.b (aF (DE.b (aF (DE.b (rT (aa 2) (aa 2))) (DE.b (rT (DE.b ak) (aa 2))))) (aa 4))) (DE.b ak))) (DE.b ak))) (aH (bh 3 nd (aF (aa 3) (DE.b (cY (DE.b aI) (DE.b (cy (aa 2) (DE.b ak)))))))))) (aH (bX (aB 3))))))
theorem qX:aU ["_law_script","_law_at","_law_many","_law_cell","_law_size","_law_more","_law_word","_law_base_here","_law_names_here","_law_k","_law_name_here"] ["_law_script","_law_at","_law_many"] (ao (top 29)):=⟨rfl,rfl,rfl,by decide+kernel,rfl,by decide+kernel,by decide+kernel⟩
theorem yN(B:Bl K mg)(ff:Ed K mg "_law_names" (top 29) ["_law_script","_law_at","_law_many"] fX iK)(aj:Ed K mg "_law_cell_at" (top 26) ["_law_script","_law_k"] bD bI)(aR:aK P w K mg base cX 1 bD bI ["_law_script","_law_k"] (hR K κ false F_law_cell_at))(gw:Ed K mg "_law_name" (top 28) ["_law_base_here","_law_place","_law_size","_law_k"] iq jh)(pG:aK P w K mg base cX 1 iq jh ["_law_base_here","_law_place","_law_size","_law_k"] (hR K κ false cF))(gy:Ed K mg "_law_base" (top 27) ["_law_cell","_law_size"] iu ji)(pH:aK P w K mg base cX 1 iu ji ["_law_cell","_law_size"] (hR K κ false F_law_base)):aK P w K mg base cX 2 fX iK ["_law_script","_law_at","_law_many"] (hR K κ true iE):=
 cA ff.F qX λcR A outer s H E hr=>have nd:=qX.nd;(aq (bh 3 nd (bO (aR.mono (by decide)) hr aj.m aj.F.kp aj.b (ag (aB 0) (ag (aB 1) aN)))) (aq (bh 4 nd (aF (DE.b ak) (DE.b (cy (aa 3) (DE.b ak))))) (aq (bh 5 nd (bO (aR.mono (by decide)) hr aj.m aj.F.kp aj.b (ag (aB 0) (ag (aF (aa 1) (DE.b ak)) aN)))) (aq (bh 6 nd (cY (DO.b (mS (ag aI (ag aI (ag aI (ag aI (ag aI (ag aI (ag aI (ag aI aN)))))))))) (DE.b (cy (aa 5) (DE.b ak))))) (aq (bh 7 nd (bH (DE.b (aF (aa 6) (DE.b (bO (pH.mono (by decide)) hr gy.m gy.F.kp gy.b (ag (ke (aa 5) (DE.b ak)) (ag ak aN)))))) cM (bA (DE.b ak)))) (aq (tW 8 nd (mS aN)) (aq (uR (DR (aa 2) B.range) (i9 9 nd) (aq (bh 10 nd (bO (pG.mono (by decide)) hr gw.m gw.F.kp gw.b (ag (aB 7) (ag (cy (DE.b (ke (aa 3) (DE.b ak))) (aa 4)) (ag (aB 4) (ag (aB 9) aN)))))) (aq (gL (bj (dG hr (DE.b (cy (DE.b (ke (aa 3) (DE.b ak))) (DE.b ak))) (DE.b ak))) (aH (bh 10 nd (bH (aa 7) cM (bA (DE.b (aF (aa 9) (DE.b ak))))))) dn) (aq (gL (bj (Th (aa 10) (DE.b (ij (ag aI (ag aI (ag aI aN))))))) (aH (bh 10 nd (LG (aa 10) (DE.b (jR (DE.b ak)))))) dn) (aH (oq 8 (ag (aB 10) aN))))))) (aH (Ll 8)))))))))
theorem sX:aU ["_law_script"] ["_law_script"] (ao (top 30)):=⟨rfl,rfl,rfl,by decide+kernel,rfl,by decide+kernel,by decide+kernel⟩
theorem Be(B:Bl K mg)(gz:Ed K mg "_law_roll" (top 30) ["_law_script"] iw jj)(ff:Ed K mg "_law_names" (top 29) ["_law_script","_law_at","_law_many"] fX iK)(nu:aK P w K mg base cX 2 fX iK ["_law_script","_law_at","_law_many"] (hR K κ true iE))(aj:Ed K mg "_law_cell_at" (top 26) ["_law_script","_law_k"] bD bI)(aR:aK P w K mg base cX 1 bD bI ["_law_script","_law_k"] (hR K κ false F_law_cell_at)):aK P w K mg base cX 3 iw jj ["_law_script"] (hR K κ false iZ):=
 cA gz.F sX λcR A outer s H E hr=>have nd:=sX.nd;(aH (bX (An (DO.b (Lq (nu.mono (by decide)) hr ff.m ff.F.kp ff.b (ag (aB 0) (ag ak (ag (aF (DE.b ak) (DE.b (cy (DE.b (bO (aR.mono (by decide)) hr aj.m aj.F.kp aj.b (ag (aB 0) (ag ak aN)))) (DE.b ak)))) aN))))) B.tuple)))
theorem nv:aU ["_law_kind","_law_many","_law_items","_law_parts","_law_shapes","_law_texts","_law_deep","_law_found"] ["_law_kind","_law_many","_law_items"] (ao (top 32)):=⟨rfl,rfl,rfl,by decide+kernel,rfl,by decide+kernel,by decide+kernel⟩
theorem vE(B:Bl K mg)(bW:Ed K mg "_law_counted" (top 32) ["_law_kind","_law_many","_law_items"] cT dH)(C:pD K mg κ CR CC gK gO gQ gU fT)(FX:aK P w K mg base cX 2 gO sR ["self","parts"] (mW K (κ.adr 1) λys=>(ys.length:Nat)))(FY:Binds K sR ["self","parts"] [])(FZ:aK P w K mg base cX 2 gQ sT ["self","parts"] (mW K (κ.adr 2) λ_=>1))(F0:Binds K sT ["self","parts"] [])(F9:aK P w K mg base cX 2 gU sU ["self","many","parts"] (oM K (κ.adr 3)))(Ga:Binds K sU ["self","many","parts"] []):aK P w K mg base cX 6 cT dH ["_law_kind","_law_many","_law_items"] (hR K κ false aD):=
 cA bW.F nv λcR A outer s H E hr=>have nd:=nv.nd;(aq (HH 3 nd (kP (aa 2)) (ao (top 32)) ["_law_kind","_law_many","_law_items","_law_parts","_law_shapes","_law_texts","_law_deep","_law_found"] ["_law_kind","_law_many","_law_items","_law_parts","_law_shapes","_law_texts","_law_deep","_law_found"] (λex C s H=>(cY (aa 0) (DE.b ak)))) (aq (bh 4 nd (An (DO.b (lE (kP (aa 2)) (ao (top 32)) ["_law_kind","_law_many","_law_items","_law_parts","_law_shapes","_law_texts","_law_deep","_law_found"] ["_law_kind","_law_many","_law_items","_law_parts","_law_shapes","_law_texts","_law_deep","_law_found"] (λex C s H=>(cY (aa 0) (DE.b ak))))) B.tuple)) (aq (bh 5 nd (aF (DE.b (D1 (DE.b aI) (DO.b (lE (kP (aa 2)) (ao (top 32)) ["_law_kind","_law_many","_law_items","_law_parts","_law_shapes","_law_texts","_law_deep","_law_found"] ["_law_kind","_law_many","_law_items","_law_parts","_law_shapes","_law_texts","_law_deep","_law_found"] (λex C s H=>(cY (aa 0) (DE.b ak))))))) (DE.b aI))) (aq (bh 6 nd (aF (DE.b ak) (DE.b (ym (DO.b (lE (kP (aa 2)) (ao (top 32)) ["_law_kind","_law_many","_law_items","_law_parts","_law_shapes","_law_texts","_law_deep","_law_found"] ["_law_kind","_law_many","_law_items","_law_parts","_law_shapes","_law_texts","_law_deep","_law_found"] (λex C s H=>(cY (aa 0) (DE.b ak))))) B.max)))) (aq (gL (bj (dG hr (aa 0) (DE.b ak))) (aH (bh 7 nd (ij (ag (Al C.kA FX (by rw[C.fld];rfl) (hr.mono (by decide)) C.gA FY (aa 3)) (ag (ij (ag aI (ag (aB 4) aN))) (ag (aF (DE.b aI) (aa 5)) (ag (aB 6) aN))))))) (aH (gL (bj (dG hr (aa 0) (DE.b ak))) (aH (bh 7 nd (ij (ag (Am C.kY FZ (by rw[C.fld];rfl) (hr.mono (by decide)) C.gY F0 (aa 3)) (ag (ij (ag aI (ag (aB 4) aN))) (ag (aF (DE.b aI) (aa 5)) (ag (aB 6) aN))))))) (aH (bh 7 nd (ij (ag (xa C.kS F9 (by rw[C.fld];rfl) (hr.mono (by decide)) C.gS Ga (aa 1) (aa 3)) (ag (ij (ag aI (ag (aB 1) (ag (aB 4) aN)))) (ag (aF (DE.b (aF (DE.b (D2 (aa 1) B.str)) (DE.b aI))) (aa 5)) (ag (aB 6) aN)))))))))) (aq (Hr 3) (aH (bX (aB 7)))))))))
theorem oS:aU ["_law_pile","_law_cell","_law_number","_law_items"] ["_law_pile","_law_cell"] (ao (top 33)):=⟨rfl,rfl,rfl,by decide+kernel,rfl,by decide+kernel,by decide+kernel⟩
theorem wz(B:Bl K mg)(eh:Ed K mg "_law_folded" (top 33) ["_law_pile","_law_cell"] fB gW)(bW:Ed K mg "_law_counted" (top 32) ["_law_kind","_law_many","_law_items"] cT dH)(fM:aK P w K mg base cX 6 cT dH ["_law_kind","_law_many","_law_items"] (hR K κ false aD)):aK P w K mg base cX 7 fB gW ["_law_pile","_law_cell"] (hR K κ false F_law_folded):=
 cA eh.F oS λcR A outer s H E hr=>have nd:=oS.nd;(aq (bh 2 nd (aF (DE.b ak) (DE.b (cy (aa 1) (DE.b ak))))) (aq (zY 1000 (bj (DM (DE.b (dR (aa 0) B.len)) (DE.b ak))) (aq (bh 2 nd (cy (DE.b (aF (DE.b (rT (aa 2) (aa 2))) (DE.b (rT (DE.b ak) (aa 2))))) (DE.b ak))) (aq (bh 3 nd (DO.e (mU (aa 0) (bA (DE.b (jR (DE.b ak)))) cM))) (aq (tW 0 nd (mU (aa 0) cM (bA (DE.b (jR (DE.b ak)))))) (aH (oq 0 (ag (bO (fM.mono (by decide)) hr bW.m bW.F.kp bW.b (ag (cy (aa 2) (DE.b ak)) (ag (aF (DE.b ak) (DE.b (cy (DE.b (ke (aa 2) (DE.b ak))) (DE.b (dR (aa 3) B.len))))) (ag (aB 3) aN)))) aN))))))) (aH (bX (cY (aa 0) (DE.b ak))))))
theorem sY:aU ["_law_name_here"] ["_law_name_here"] (ao (top 31)):=⟨rfl,rfl,rfl,by decide+kernel,rfl,by decide+kernel,by decide+kernel⟩
theorem Bf(B:Bl K mg)(dJ:Ed K mg "_law_hand" (top 31) ["_law_name_here"] ix jk)(C:pD K mg κ CR CC gK gO gQ gU fT)(yO:aK P w K mg base cX 1 gK oP ["self","name"] (pw (κ.adr 0)))(yP:Binds K oP ["self","name"] []):aK P w K mg base cX 6 ix jk ["_law_name_here"] (hR K κ false cG):=
 cA dJ.F sY λcR A outer s H E hr=>have nd:=sY.nd;(aH (bX (ij (ag (w9 C.kH yO (by rw[C.fld];rfl) (hr.mono (by decide)) C.gH yP (aa 0)) (ag (ij (ag aI (ag (aB 0) aN))) (ag (aB 0) (ag ak aN)))))))
theorem qY:aU ["_law_script","_law_at","_law_size","_law_roll_here","_law_pile","_law_heads","_law_cell","_law_items","_law_deep"] ["_law_script","_law_at","_law_size","_law_roll_here"] (ao (top 34)):=⟨rfl,rfl,rfl,by decide+kernel,rfl,by decide+kernel,by decide+kernel⟩
theorem yQ(B:Bl K mg)(fg:Ed K mg "_law_built" (top 34) ["_law_script","_law_at","_law_size","_law_roll_here"] fZ iL)(eh:Ed K mg "_law_folded" (top 33) ["_law_pile","_law_cell"] fB gW)(lL:aK P w K mg base cX 7 fB gW ["_law_pile","_law_cell"] (hR K κ false F_law_folded))(dJ:Ed K mg "_law_hand" (top 31) ["_law_name_here"] ix jk)(lN:aK P w K mg base cX 6 ix jk ["_law_name_here"] (hR K κ false cG))(aj:Ed K mg "_law_cell_at" (top 26) ["_law_script","_law_k"] bD bI)(aR:aK P w K mg base cX 1 bD bI ["_law_script","_law_k"] (hR K κ false F_law_cell_at))(bW:Ed K mg "_law_counted" (top 32) ["_law_kind","_law_many","_law_items"] cT dH)(fM:aK P w K mg base cX 6 cT dH ["_law_kind","_law_many","_law_items"] (hR K κ false aD)):aK P w K mg base cX 8 fZ iL ["_law_script","_law_at","_law_size","_law_roll_here"] (hR K κ false fV):=
 cA fg.F qY λcR A outer s H E hr=>have nd:=qY.nd;(aq (tW 4 nd (mS (ag (bO (lN.mono (by decide)) hr dJ.m dJ.F.kp dJ.b (ag (cY (aa 3) (DE.b (cy (DE.b (bO (aR.mono (by decide)) hr aj.m aj.F.kp aj.b (ag (aB 0) (ag (aB 1) aN)))) (DE.b (dR (aa 3) B.len))))) aN)) aN))) (aq (bh 5 nd ak) (aq (uR (DN (DO.e (mU (aa 0) (bA (DE.b (aF (aa 1) (DE.b ak)))) (bA (DE.b (aF (aa 1) (aa 2))))))) (i9 6 nd) (aq (bh 7 nd (DO.e (mU (aa 4) (bA (DE.b (jR (DE.b (aF (DE.b ak) (DE.b (cy (DE.b (ke (aa 6) (DE.b ak))) (DE.b ak)))))))) cM))) (aq (bh 8 nd (ym (DO.b (lE (kP (aa 7)) (ao (top 34)) ["_law_script","_law_at","_law_size","_law_roll_here","_law_pile","_law_heads","_law_cell","_law_items","_law_deep"] ["_law_script","_law_at","_law_size","_law_roll_here","_law_pile","_law_heads","_law_cell","_law_items","_law_deep"] (λex C s H=>(cY (aa 0) (DE.b ak))))) B.max)) (aH (gL (DW.t (wU (bj (uO (DE.b (cy (aa 6) (DE.b ak))) (DE.b ak))) (wU (bj (DM (aa 8) (DE.b ak))) (yh (bj (DM (aa 5) (DE.b ak))))))) (aH (oq 4 (ag (bO (lN.mono (by decide)) hr dJ.m dJ.F.kp dJ.b (ag (cY (aa 3) (DE.b (cy (DE.b (ke (aa 6) (DE.b ak))) (DE.b (dR (aa 3) B.len))))) aN)) aN))) (aq (tW 4 nd (mU (aa 4) cM (bA (DE.b (Hk (DE.b (dR (aa 4) B.len)) (DE.b (dR (aa 7) B.len))))))) (aq (oq 4 (ag (bO (fM.mono (by decide)) hr bW.m bW.F.kp bW.b (ag (Hk (DE.b (cy (aa 6) (DE.b ak))) (DE.b ak)) (ag (aF (DE.b ak) (DE.b (cy (DE.b (ke (aa 6) (DE.b ak))) (DE.b (dR (aa 7) B.len))))) (ag (aB 7) aN)))) aN)) (aH (bh 5 nd (aF (aa 5) (DE.b ak))))))))))) (Lk 4 (aH (bX (bO (lL.mono (by decide)) hr eh.m eh.F.kp eh.b (ag (aB 4) (ag (bO (aR.mono (by decide)) hr aj.m aj.F.kp aj.b (ag (aB 0) (ag ak aN))) aN)))))))))
theorem kW:aU ["_law_text","_law_signs","_law_other","_law_cell","_law_places","_law_at"] ["_law_text","_law_signs","_law_other","_law_cell"] (ao (top 39)):=⟨rfl,rfl,rfl,by decide+kernel,rfl,by decide+kernel,by decide+kernel⟩
theorem rX(B:Bl K mg)(bS:Ed K mg "_law_exchanged" (top 39) ["_law_text","_law_signs","_law_other","_law_cell"] dg eW):aK P w K mg base cX 1 dg eW ["_law_text","_law_signs","_law_other","_law_cell"] (hR K κ false df):=
 cA bS.F kW λcR A outer s H E hr=>have nd:=kW.nd;(aq (E8 4 nd (Ht (DE.b (dR (aa 0) B.len)) B.range) (ao (top 39)) ["_law_text","_law_signs","_law_other","_law_cell","_law_places","_law_at"] ["_law_text","_law_signs","_law_other","_law_cell","_law_places","_law_at"] (λex C s H=>(bj (Pu (DE.b (cY (aa 1) (aa 0))) (aa 2)))) (λex C s H=>(aB 0))) (aq (gL (bj (dG hr (aa 4) (DO.b (mS aN)))) (aH (bX (aF (aa 0) (aa 2)))) dn) (aq (bh 5 nd (cY (aa 4) (DE.b (cy (aa 3) (DE.b (dR (aa 4) B.len)))))) (aq (gL (bj (dG hr (aa 1) (DE.b aI))) (aH (bX (aF (DE.b (aF (DE.b (bH (aa 0) cM (bA (aa 5)))) (aa 2))) (DE.b (bH (aa 0) (bA (aa 5)) cM))))) dn) (aH (bX (aF (DE.b (aF (DE.b (bH (aa 0) cM (bA (aa 5)))) (aa 2))) (DE.b (bH (aa 0) (bA (DE.b (aF (aa 5) (DE.b ak)))) cM)))))))))
theorem ny:aU ["_law_cell","_law_signs"] ["_law_cell"] (ao (top 37)):=⟨rfl,rfl,rfl,by decide+kernel,rfl,by decide+kernel,by decide+kernel⟩
theorem vF(B:Bl K mg)(dB:Ed K mg "_law_foreign" (top 37) ["_law_cell"] eG gj):aK P w K mg base cX 1 eG gj ["_law_cell"] (hR K κ false fL):=
 cA dB.F ny λcR A outer s H E hr=>have nd:=ny.nd;(aq (bh 1 nd aI) (aH (bX (cY (aa 1) (DE.b (cy (aa 0) (DE.b (dR (aa 1) B.len))))))))
theorem sZ:aU ["_law_cell"] ["_law_cell"] (ao (top 38)):=⟨rfl,rfl,rfl,by decide+kernel,rfl,by decide+kernel,by decide+kernel⟩
theorem Bg(B:Bl K mg)(dM:Ed K mg "_law_sign" (top 38) ["_law_cell"] iA jl)(dB:Ed K mg "_law_foreign" (top 37) ["_law_cell"] eG gj)(kn:aK P w K mg base cX 1 eG gj ["_law_cell"] (hR K κ false fL)):aK P w K mg base cX 2 iA jl ["_law_cell"] (hR K κ false ip):=
 cA dM.F sZ λcR A outer s H E hr=>have nd:=sZ.nd;(aq (gL (bj (dG hr (DE.b (cy (aa 0) (DE.b ak))) (DE.b ak))) (aH (bX (cY (DE.b aI) (DE.b (cy (DE.b (ke (aa 0) (DE.b ak))) (DE.b ak)))))) dn) (aq (gL (bj (dG hr (DE.b (cy (aa 0) (DE.b ak))) (DE.b ak))) (aH (bX (cY (DE.b aI) (DE.b (cy (DE.b (ke (aa 0) (DE.b ak))) (DE.b ak)))))) dn) (aH (bX (bO (kn.mono (by decide)) hr dB.m dB.F.kp dB.b (ag (ke (aa 0) (DE.b ak)) aN))))))
theorem oU:aU ["_law_script","_law_roll_here","_law_text","_law_way","_law_cell","_law_at"] ["_law_script","_law_roll_here","_law_text"] (ao (top 40)):=⟨rfl,rfl,rfl,by decide+kernel,rfl,by decide+kernel,by decide+kernel⟩
theorem wA(B:Bl K mg)(eC:Ed K mg "_law_spoilt" (top 40) ["_law_script","_law_roll_here","_law_text"] fE gX)(aj:Ed K mg "_law_cell_at" (top 26) ["_law_script","_law_k"] bD bI)(aR:aK P w K mg base cX 1 bD bI ["_law_script","_law_k"] (hR K κ false F_law_cell_at))(bS:Ed K mg "_law_exchanged" (top 39) ["_law_text","_law_signs","_law_other","_law_cell"] dg eW)(ib:aK P w K mg base cX 1 dg eW ["_law_text","_law_signs","_law_other","_law_cell"] (hR K κ false df))(dM:Ed K mg "_law_sign" (top 38) ["_law_cell"] iA jl)(lO:aK P w K mg base cX 2 iA jl ["_law_cell"] (hR K κ false ip)):aK P w K mg base cX 3 fE gX ["_law_script","_law_roll_here","_law_text"] (hR K κ false gJ):=
 cA eC.F oU λcR A outer s H E hr=>have nd:=oU.nd;(aq (bh 3 nd (cy (DE.b (bO (aR.mono (by decide)) hr aj.m aj.F.kp aj.b (ag (aB 0) (ag ak aN)))) (DE.b ak))) (aq (bh 4 nd (bO (aR.mono (by decide)) hr aj.m aj.F.kp aj.b (ag (aB 0) (ag ak aN)))) (aq (bh 5 nd (cy (DE.b (bO (aR.mono (by decide)) hr aj.m aj.F.kp aj.b (ag (aB 0) (ag ak aN)))) (DE.b (aF (DE.b (dR (aa 2) B.len)) (DE.b ak))))) (aq (gL (bj (dG hr (aa 3) (DE.b ak))) (aH (bX (aF (DE.b (aF (DE.b (bH (aa 2) cM (bA (aa 5)))) (DE.b (bO (lO.mono (by decide)) hr dM.m dM.F.kp dM.b (ag (aB 4) aN))))) (DE.b (bH (aa 2) (bA (aa 5)) cM))))) dn) (aq (gL (bj (dG hr (aa 3) (DE.b ak))) (aH (bX (aF (DE.b (aF (DE.b (bH (aa 2) cM (bA (aa 5)))) (DE.b (bO (lO.mono (by decide)) hr dM.m dM.F.kp dM.b (ag (aB 4) aN))))) (DE.b (bH (aa 2) (bA (DE.b (aF (aa 5) (DE.b ak)))) cM))))) dn) (aq (gL (bj (dG hr (aa 3) (DE.b ak))) (aH (bX (aF (DE.b (bH (aa 2) cM (bA (aa 5)))) (DE.b (bH (aa 2) (bA (DE.b (aF (aa 5) (DE.b ak)))) cM))))) dn) (aq (gL (bj (dG hr (aa 3) (DE.b ak))) (aH (bX (bH (aa 2) cM (bA (aa 5))))) dn) (aq (gL (bj (dG hr (aa 3) (DE.b ak))) (aH (bX (bO (ib.mono (by decide)) hr bS.m bS.F.kp bS.b (ag (aB 2) (ag aI (ag (aF (DE.b aI) (DE.b (cY (aa 1) (DE.b (cy (aa 4) (DE.b (dR (aa 1) B.len))))))) (ag (bO (aR.mono (by decide)) hr aj.m aj.F.kp aj.b (ag (aB 0) (ag ak aN))) aN))))))) dn) (aq (gL (bj (dG hr (aa 3) (DE.b ak))) (aH (bX (bO (ib.mono (by decide)) hr bS.m bS.F.kp bS.b (ag (aB 2) (ag aI (ag (cY (DE.b aI) (DE.b (cy (aa 4) (DE.b ak)))) (ag (bO (aR.mono (by decide)) hr aj.m aj.F.kp aj.b (ag (aB 0) (ag ak aN))) aN))))))) dn) (aq (gL (bj (dG hr (aa 3) (DE.b ak))) (aH (bX (aF (aa 2) (DE.b (cY (DO.b (mS (ag aI (ag aI (ag aI (ag (cY (aa 1) (DE.b ak)) (ag aI aN))))))) (DE.b (cy (aa 4) (DE.b ak)))))))) dn) (aH (bX (aB 2)))))))))))))
theorem qZ:aU ["_law_text","_law_at","_law_other","_law_many"] ["_law_text","_law_at","_law_other"] (ao (top 41)):=⟨rfl,rfl,rfl,by decide+kernel,rfl,by decide+kernel,by decide+kernel⟩
theorem yR(B:Bl K mg)(fj:Ed K mg "_law_alike" (top 41) ["_law_text","_law_at","_law_other"] gc iN):aK P w K mg base cX 1 gc iN ["_law_text","_law_at","_law_other"] (hR K κ false dz):=
 cA fj.F qZ λcR A outer s H E hr=>have nd:=qZ.nd;(aq (bh 3 nd ak) (aq (zY 1000 (DW.t (yi (bj (uO (aa 3) (DE.b (dR (aa 2) B.len)))) (tU (bj (dG hr (DE.b (bH (aa 0) (bA (DE.b (aF (aa 1) (aa 3)))) (bA (DE.b (aF (DE.b (aF (aa 1) (aa 3))) (DE.b ak)))))) (DE.b (cY (aa 2) (aa 3)))))))) (aH (bh 3 nd (aF (aa 3) (DE.b ak))))) (aH (bX (aB 3)))))
theorem rf:aU ["_law_roll_here","_law_text","_law_at","_law_best","_law_whole_here","_law_others","_law_other","_law_many","_law_behind_here","_law_ends"] ["_law_roll_here","_law_text","_law_at"] (ao (top 42)):=⟨rfl,rfl,rfl,by decide+kernel,rfl,by decide+kernel,by decide+kernel⟩
theorem yS(B:Bl K mg)(fm:Ed K mg "_law_token" (top 42) ["_law_roll_here","_law_text","_law_at"] gd iO)(fj:Ed K mg "_law_alike" (top 41) ["_law_text","_law_at","_law_other"] gc iN)(nA:aK P w K mg base cX 1 gc iN ["_law_text","_law_at","_law_other"] (hR K κ false dz)):aK P w K mg base cX 2 gd iO ["_law_roll_here","_law_text","_law_at"] (hR K κ false fW):=
 cA fm.F rf λcR A outer s H E hr=>have nd:=rf.nd;(aq (bh 3 nd ak) (aq (bh 4 nd aI) (aq (bh 5 nd (aF (DO.b (mS (ag aI (ag aI aN)))) (DO.b (DX (aa 0) B.list)))) (aq (bh 5 nd (aF (aa 5) (DO.b (lE (LJ (DE.b aI)) (ao (top 42)) ["_law_roll_here","_law_text","_law_at","_law_best","_law_whole_here","_law_others","_law_other","_law_many","_law_behind_here","_law_ends"] ["_law_roll_here","_law_text","_law_at","_law_best","_law_whole_here","_law_others","_law_other","_law_many","_law_behind_here","_law_ends"] (λex C s H=>(aF (aa 0) (DE.b aI))))))) (aq (uR (DN (aB 5)) (i9 6 nd) (aq (bh 7 nd (bO (nA.mono (by decide)) hr fj.m fj.F.kp fj.b (ag (aB 1) (ag (aB 2) (ag (aB 6) aN))))) (aq (bh 3 nd (Pd (aa 3) (aa 7) B.max)) (aq (bh 8 nd (bH (aa 1) (bA (DE.b (aF (aa 2) (aa 7)))) (bA (DE.b (aF (DE.b (aF (aa 2) (aa 7))) (DE.b ak)))))) (aq (bh 9 nd (O6 (uN (dG hr (DE.b (cY (aa 6) (DE.b (jR (DE.b ak))))) (DE.b aI))) (B2 (uN (dG hr (aa 8) (DE.b aI)))))) (aH (gL (DW.t (yi (bj (dG hr (aa 7) (DE.b (dR (aa 6) B.len)))) (tU (DW.t (wU (yg (aB 9)) (wU (bj (Qg (aa 8) (DE.b aI))) (yh (bj (Qi (aa 8) (DE.b aI)))))))))) (aH (bh 4 nd (aB 6))) dn))))))) (aH (bX (ij (ag (aB 3) (ag (aB 4) aN))))))))))
theorem oV:aU ["_law_text","_law_at","_law_pile","_law_sign_here"] ["_law_text","_law_at","_law_pile"] (ao (top 43)):=⟨rfl,rfl,rfl,by decide+kernel,rfl,by decide+kernel,by decide+kernel⟩
theorem wB(B:Bl K mg)(eD:Ed K mg "_law_behind" (top 43) ["_law_text","_law_at","_law_pile"] fF gZ):aK P w K mg base cX 1 fF gZ ["_law_text","_law_at","_law_pile"] (Mn K):=
 eD.F.ok oV (λvs H Q E h=>by obtain⟨_,_,_,_,_,_,_,_,_,rfl,_⟩:=h;rfl) λcR A outer s H vs Q E hr h=>have nd:=oV.nd;
  A5 (κ:=⟨λ_=>0,λ_=>[]⟩) rfl PassesOwn.never (bj (Hy hr (aa 2) (DO.b (mS aN)))) (Mo (aF (DE.b (cY (DE.b (cY (aa 2) (DE.b (jR (DE.b ak))))) (DE.b ak))) (DE.b ak)) (jR (DE.b ak)) ak) (Mp nd (bH (aa 0) (bA (aa 1)) (bA (DE.b (aF (aa 1) (DE.b ak)))))) (DW.t (yi (bj (dG hr (aa 3) (DE.b aI))) (tU (bj (uO (DE.b (cY (DE.b (cY (aa 2) (DE.b (jR (DE.b ak))))) (DE.b ak))) (DE.b ak)))))) (bj (dG hr (DE.b (bH (aa 0) (bA (DE.b (aF (aa 1) (DE.b ak)))) (bA (DE.b (aF (aa 1) (DE.b ak)))))) (DE.b aI))) (ij (ag (aF (aa 1) (DE.b ak)) (ag aI aN))) (ij (ag (aF (aa 1) (DE.b ak)) (ag aI aN))) (DW.t (wU (bj (Hy hr (aa 3) (DE.b aI))) (yh (bj (uO (DE.b (cY (DE.b (cY (aa 2) (DE.b (jR (DE.b ak))))) (DE.b ak))) (DE.b (cY (DE.b (cY (aa 2) (DE.b (jR (DE.b ak))))) (DE.b ak)))))))) (ij (ag (aB 1) (ag aI aN))) Qm (T4 nd (aF (aa 1) (DE.b ak))) (bj (dG hr (aa 1) (DE.b (dR (aa 0) B.len)))) (ij (ag (aB 1) (ag aI aN))) (ij (ag (aB 1) (ag aI aN))) h
theorem rg:aU ["_law_roll_here","_law_text","_law_pile","_law_at","_law_best","_law_whole_here","_law_word"] ["_law_roll_here","_law_text"] (ao (top 44)):=⟨rfl,rfl,rfl,by decide+kernel,rfl,by decide+kernel,by decide+kernel⟩
theorem yT(B:Bl K mg)(fq:Ed K mg "_law_fails" (top 44) ["_law_roll_here","_law_text"] gf iP)(fm:Ed K mg "_law_token" (top 42) ["_law_roll_here","_law_text","_law_at"] gd iO)(nB:aK P w K mg base cX 2 gd iO ["_law_roll_here","_law_text","_law_at"] (hR K κ false fW))(eD:Ed K mg "_law_behind" (top 43) ["_law_text","_law_at","_law_pile"] fF gZ)(lP:aK P w K mg base cX 1 fF gZ ["_law_text","_law_at","_law_pile"] (Mn K)):aK P w K mg base cX 3 gf iP ["_law_roll_here","_law_text"] (hR K κ false d7):=
 fq.F.ok rg (λvs H Q E h=>by obtain⟨A,ps,p,_,h1,h2,_⟩:=h;rw[h1.length];exact FU h2) λcR A outer s H vs Q E hr h=>have nd:=rg.nd;
  Cs (κ:=κ) (FT:=fW) rfl PassesOwn.never (ic (i:=2) nd rfl (.inl rfl) (uA bG)) ak (Nx 3 nd) (yg Na) (bO (nB.mono (by decide)) hr fm.m fm.F.kp fm.b (ag (aB 0) (ag (aB 1) (ag (aB 3) aN)))) (Ji 4 5 nd) (bj (dG hr (aa 5) (DE.b aI))) (aF (aa 3) (aa 4)) (aF (aa 3) (DE.b (dR (aa 5) B.len))) (Nx 3 nd) (bj (dG hr (DE.b (cY (aa 5) (DE.b (jR (DE.b ak))))) (DE.b aI))) (mS (ag (D0 (DE.b aI) (DE.b (cY (aa 5) (DE.b ak)))) (ag ak aN))) (T9 2) (lg (lP.mono (by decide)) hr (by rfl) eD.m eD.F.kp eD.b .nil jy (aG (pv 1) (aG (pv 3) (aG (pv 2) bG)))) (Ji 3 6 nd) (bj (dG hr (aa 6) (DE.b aI))) (aB 3) (bj (dG hr (aa 6) (DE.b aI))) O3 h
theorem Mx(t:Rg)(n:Int)(ρ:dO):bU (kQ oN "at") (dV 0) (wQ t n (.un::ρ))=some (.int n):=Rq.IV t n ρ
variable{yU vG rY vH:Addr}{xF vI rh vJ:FuncData}
theorem NA:aU ["text","word","signs","one","two"] ["text","word"] (ao (top 21)):=⟨rfl,rfl,rfl,by decide+kernel,rfl,by decide+kernel,by decide+kernel⟩
theorem Ue(hz:mg "zip" =none)(F:rQ K "shared_signs" "shared_signs" (top 21) yU xF):aK P w K mg base cX 1 yU xF ["text","word"] (hR K κ false cU):=
 cA F NA λcR A outer s H E hr=>have nd:=NA.nd;(aq (bh 2 nd ak) (aq (uR (LN (aB 0) (aB 1) hz) (Lp (i9 3 nd) (i9 4 nd)) (aq (gL (bj (Hy hr (aa 3) (aa 4))) (aH Ho) dn) (aH (AF 2 nd (DE.b ak))))) (aH (bX (aB 2)))))
theorem NB:aU ["self","sign"] ["self","sign"] (ao (bR 23 2)):=⟨rfl,rfl,rfl,by decide+kernel,rfl,by decide+kernel,by decide+kernel⟩
theorem Ug(C:pD K mg κ CR CC gK gO gQ gU fT)(F:rQ K "comes" "Reading.comes" (bR 23 2) rY rh):aK P w K mg base cX 1 rY rh ["self","sign"] (hR K κ false hU):=
 cA F NB λcR A outer s H E hr=>have nd:=NB.nd;(aH (bX (uN (dG hr (DE.b (bH (DE.b (eJ C.fld (C.jB _) (aa 0))) (bA (DE.b (eJ C.fld (C.jB _) (aa 0)))) (bA (DE.b (aF (DE.b (eJ C.fld (C.jB _) (aa 0))) (DE.b ak)))))) (aa 1)))))
theorem NC:aU ["self","rest","reach"] ["self"] (ao (bR 23 1)):=⟨rfl,rfl,rfl,by decide+kernel,rfl,by decide+kernel,by decide+kernel⟩
theorem Uh(hmx:mg "max" =none)(Z:Zx K mg aS dj dk cO ai eN cz cP cQ jH)(GN:aK P w K mg base cX 1 jH kU ["self","at"] (KG ai))(bN:Binds K kU ["self","at"] [])(C:pD K mg κ CR CC gK gO gQ gU fT)(F:rQ K "take_word" "Reading.take_word" (bR 23 1) vG vI)
  (Fs:rQ K "shared_signs" "shared_signs" (top 21) yU xF)(ms:mg "shared_signs" =some (.ref yU))(bs:Binds K xF ["text","word"] [])(Gs:aK P w K mg base cX 1 yU xF ["text","word"] (hR K κ false cU)):aK P w K mg base (kf P w) 3 vG vI ["self"] (wm K κ ai false dZ):=
 AE ai F NC λcR A outer s H E hr hp By hx=>have nd:=NC.nd;have q:=C.q;(eV (Eg q 1 nd (bH (DE.b (eJ C.fld (C.jB _) (aa 0))) (bA (DE.b (eJ C.fld (C.jB _) (aa 0)))) cM)) (eV (Eg q 2 nd (ym (DO.b (lE (kP (DE.b (eJ C.fld (C.jB _) (aa 0)))) (ao (bR 23 1)) ["self","rest","reach"] ["self","rest","reach"] (λex C s H=>(bO (Gs.mono (by decide)) hr ms Fs.kp bs (ag (aB 2) (ag (aB 0) aN)))))) hmx)) (eV (Iv q (aB 2)) (eV (AB q (bj (HB (DE.b (bH (aa 1) cM (bA (aa 2)))) (DE.b (eJ C.fld (C.jB _) (aa 0))))) (iJ (qL q Z.st Z.hi Z.hf Z.kp GN (hr.mono (by decide)) bN Z.m_NoRule hx (eJ C.fld (C.jB _) (aa 0)) Mx)) qK) (iJ (LX q (bH (aa 1) cM (bA (aa 2)))))))))
theorem ND:aU ["self","sign"] ["self","sign"] (ao (bR 23 3)):=⟨rfl,rfl,rfl,by decide+kernel,rfl,by decide+kernel,by decide+kernel⟩
theorem Ui(Z:Zx K mg aS dj dk cO ai eN cz cP cQ jH)(GN:aK P w K mg base cX 1 jH kU ["self","at"] (KG ai))(bN:Binds K kU ["self","at"] [])(C:pD K mg κ CR CC gK gO gQ gU fT)(F:rQ K "take_sign" "Reading.take_sign" (bR 23 3) vH vJ)(hm:Meth K (κ.adr 4) "comes" rY)(bc:Binds K rh ["self","sign"] [])(Gc:aK P w K mg base cX 1 rY rh ["self","sign"] (hR K κ false hU)):aK P w K mg base (kf P w) 3 vH vJ ["self","sign"] (wm K κ ai false cH):=
 AE ai F ND λcR A outer s H E hr hp By hx=>have nd:=ND.nd;have q:=C.q;have M:=(sL C.rc C.fld hm Gc bc).mono (show 1<=2 by decide);(eV (AB q (Hl (yg (D4 M hr (aB 0) (ag (aB 1) aN)))) (iJ (qL q Z.st Z.hi Z.hf Z.kp GN (hr.mono (by decide)) bN Z.m_NoRule hx (eJ C.fld (C.jB _) (aa 0)) Mx)) qK) (iJ (Iv q ak)))
variable{tR vK rj yV yW Uj fi:Addr}{rk vL oW Bh Bi NF oP sR sT sU:FuncData}
theorem NG:aU ["opening","parts"] ["opening","parts"] (ao (top 22)):=⟨rfl,rfl,rfl,by decide+kernel,rfl,by decide+kernel,by decide+kernel⟩
theorem Uk(C:pD K mg κ CR CC gK gO gQ gU fT)(D:Ar w.params K mg "FEWEST_PARTS" mE)(F:rQ K "counting_rule" "counting_rule" (top 22) tR rk)
  (FX:aK P w K mg base cX 2 gO sR ["self","parts"] (mW K (κ.adr 1) λys=>(ys.length:Nat)))(FY:Binds K sR ["self","parts"] [])(FZ:aK P w K mg base cX 2 gQ sT ["self","parts"] (mW K (κ.adr 2) λ_=>1))(F0:Binds K sT ["self","parts"] [])(F9:aK P w K mg base cX 2 gU sU ["self","many","parts"] (oM K (κ.adr 3)))(Ga:Binds K sU ["self","many","parts"] []):aK P w K mg base cX 5 tR rk ["opening","parts"] (hR K κ false bQ):=
 cA F NG λcR A outer s H E hr=>have nd:=NG.nd;(aq (gL (bj (dG hr (aa 0) (DE.b aI))) (aH (bX (Al C.kA FX (by rw[C.fld];rfl) (hr.mono (by decide)) C.gA FY (aa 1)))) dn) (aq (gL (bj (dG hr (aa 0) (DE.b aI))) (aH (bX (Am C.kY FZ (by rw[C.fld];rfl) (hr.mono (by decide)) C.gY F0 (aa 1)))) dn) (aH (bX (xa C.kS F9 (by rw[C.fld];rfl) (hr.mono (by decide)) C.gS Ga (DE.b (Ea D (aa 0))) (aa 1))))))
theorem NH:aU ["self"] ["self"] (ao (bR 23 6)):=⟨rfl,rfl,rfl,by decide+kernel,rfl,by decide+kernel,by decide+kernel⟩
theorem Ul(hl:mg "len" =none)(Z:Zx K mg aS dj dk cO ai eN cz cP cQ jH)(GN:aK P w K mg base cX 1 jH kU ["self","at"] (KG ai))(bN:Binds K kU ["self","at"] [])(C:pD K mg κ CR CC gK gO gQ gU fT)(F:rQ K "take_end" "Reading.take_end" (bR 23 6) yV Bh):aK P w K mg base (kf P w) 3 yV Bh ["self"] (wm K κ ai false fz):=
 AE ai F NH λcR A outer s H E hr hp By hx=>have nd:=NH.nd;have q:=C.q;(iJ (AB q (bj (uO (DE.b (eJ C.fld (C.jB _) (aa 0))) (DE.b (dR (DE.b (eJ C.fld (C.jB _) (aa 0))) hl)))) (iJ (qL q Z.st Z.hi Z.hf Z.kp GN (hr.mono (by decide)) bN Z.m_NoRule hx (eJ C.fld (C.jB _) (aa 0)) Mx)) qK))
theorem NI:aU ["self","fewest","parts"] ["self","fewest"] (ao (bR 23 4)):=⟨rfl,rfl,rfl,by decide+kernel,rfl,by decide+kernel,by decide+kernel⟩
theorem Um{FT:FQ}{k:Nat}(hk:3<=k)(hl:mg "len" =none)(hM:∃t,mg "MOST_PARTS" =some (.int 8 t))(Z:Zx K mg aS dj dk cO ai eN cz cP cQ jH)(GN:aK P w K mg base cX 1 jH kU ["self","at"] (KG ai))(bN:Binds K kU ["self","at"] [])(C:pD K mg κ CR CC gK gO gQ gU fT)(F:rQ K "take_parts" "Reading.take_parts" (bR 23 4) vK vL)
  (mc:Meth K (κ.adr 4) "comes" rY)(bc:Binds K rh ["self","sign"] [])(Gc:aK P w K mg base cX 1 rY rh ["self","sign"] (hR K κ false hU))(ms:Meth K (κ.adr 4) "take_sign" vH)(bs:Binds K vJ ["self","sign"] [])(Gs:aK P w K mg base (kf P w) 3 vH vJ ["self","sign"] (wm K κ ai false cH))
  (mr:Meth K (κ.adr 4) "take_rule" rj)(br:Binds K oW ["self"] [])(Gr:aK P w K mg base (kf P w) k rj oW ["self"] (wm K κ ai false FT)):aK P w K mg base (kf P w) (k+1) vK vL ["self","fewest"] (wm K κ ai true (tY true 3 2 (dq FT))):=
 AE ai F NI λcR A outer s H E hr hp By hx=>have nd:=NI.nd;have q:=C.q;have M:=(sL C.rc C.fld mc Gc bc).mono (z0T (by decide) hk);have Gs:=Gs.mono hk;(eV (Iy 2 nd (vc q mr Gr By hr br)) (eV (Iw q 10 (DW.t (wU (bj (uO (DE.b (dR (aa 2) hl)) (aa 1))) (yh (Hl (yg (D4 M hr (aB 0) (ag aI aN))))))) (eV (AB q (bj (dG hr (DE.b (dR (aa 2) hl)) (DE.b (HG hM)))) (iJ (qL q Z.st Z.hi Z.hf Z.kp GN (hr.mono (z0T (by decide) hk)) bN Z.m_NoRule hx (eJ C.fld (C.jB _) (aa 0)) Mx)) qK) (eV (yu (tZ q ms Gs By hr bs (ag aI aN))) (eV (yu (tZ q ms Gs By hr bs (ag aI aN))) (iJ (PU 2 (vc q mr Gr By hr br)))))) hp) (eV (yu (tZ q ms Gs By hr bs (ag aI aN))) (iJ (LZ 2)))))
theorem NJ:aU ["self","word"] ["self"] (ao (bR 23 5)):=⟨rfl,rfl,rfl,by decide+kernel,rfl,by decide+kernel,by decide+kernel⟩
theorem Uo{FP:FQ}{k:Nat}(hk:5<=k)(C:pD K mg κ CR CC gK gO gQ gU fT)(D:Ar w.params K mg "FEWEST_PARTS" mE)(F:rQ K "take_rule" "Reading.take_rule" (bR 23 5) rj oW)(yO:aK P w K mg base cX 1 gK oP ["self","name"] (pw (κ.adr 0)))(yP:Binds K oP ["self","name"] [])
  (mw:Meth K (κ.adr 4) "take_word" vG)(bw:Binds K vI ["self"] [])(Gw:aK P w K mg base (kf P w) 3 vG vI ["self"] (wm K κ ai false dZ))(Fc:rQ K "counting_rule" "counting_rule" (top 22) tR rk)(Vl:mg "counting_rule" =some (.ref tR))(Vm:Binds K rk ["opening","parts"] [])(Vn:aK P w K mg base cX 5 tR rk ["opening","parts"] (hR K κ false bQ))
  (mp:Meth K (κ.adr 4) "take_parts" vK)(bp:Binds K vL ["self","fewest"] [])(Gp:aK P w K mg base (kf P w) k vK vL ["self","fewest"] (wm K κ ai true FP)):aK P w K mg base (kf P w) (k+1) rj oW ["self"] (wm K κ ai false (tY false 2 1 (jf FP))):=
 AE ai F NJ λcR A outer s H E hr hp By hx=>have nd:=NJ.nd;have q:=C.q;(eV (L0 1 nd (vc q mw (Gw.mono (z0T (by decide) hk)) By hr bw)) (eV (AB q (bj (Fm D (aa 1))) (iJ (LY (w9 C.kH yO (by rw[C.fld];rfl) (hr.mono (z0T (by decide) hk)) C.gH yP (aa 1)))) qK) (iJ (L1 q (Vn.mono hk) hr Vl Fc.kp Vm (aB 1) (tZ q mp Gp By hr bp (ag (Ea D (aa 1)) aN))))))
theorem CD{k:Nat}{f:Addr}{fd:FuncData}{ps:List Str}{fr:Bool}{NR:Addr}{CX:Gv}:aK P w K mg base CX k f fd ps (wm K κ NR fr λ_ _ _=>none):=
 have no:∀{vs:List V} {H:Hp} {Q:VK} {E:XK},wm K κ NR fr (λ_ _ _=>none) vs H Q E->False:=λ⟨_,_,_,_,_,_,_,_,_,_,_,_,_,_,_,_,z,_⟩=>by cases z
 ⟨λ_ _ _ _ h=>(no h).elim,λ_ _ _ _ _ _ _ _ _ _ _ _ _ h=>(no h).elim⟩
theorem Jx(hl:mg "len" =none)(hM:∃t,mg "MOST_PARTS" =some (.int 8 t))(Z:Zx K mg aS dj dk cO ai eN cz cP cQ jH)(GN:aK P w K mg base cX 1 jH kU ["self","at"] (KG ai))(bN:Binds K kU ["self","at"] [])(C:pD K mg κ CR CC gK gO gQ gU fT)(D:Ar w.params K mg "FEWEST_PARTS" mE)(F:rQ K "take_rule" "Reading.take_rule" (bR 23 5) rj oW)(Fp:rQ K "take_parts" "Reading.take_parts" (bR 23 4) vK vL)(yO:aK P w K mg base cX 1 gK oP ["self","name"] (pw (κ.adr 0)))(yP:Binds K oP ["self","name"] [])
  (mw:Meth K (κ.adr 4) "take_word" vG)(bw:Binds K vI ["self"] [])(Gw:aK P w K mg base (kf P w) 3 vG vI ["self"] (wm K κ ai false dZ))(Fc:rQ K "counting_rule" "counting_rule" (top 22) tR rk)(Vl:mg "counting_rule" =some (.ref tR))(Vm:Binds K rk ["opening","parts"] [])(Vn:aK P w K mg base cX 5 tR rk ["opening","parts"] (hR K κ false bQ))
  (mc:Meth K (κ.adr 4) "comes" rY)(bc:Binds K rh ["self","sign"] [])(Gc:aK P w K mg base cX 1 rY rh ["self","sign"] (hR K κ false hU))(ms:Meth K (κ.adr 4) "take_sign" vH)(bs:Binds K vJ ["self","sign"] [])(Gs:aK P w K mg base (kf P w) 3 vH vJ ["self","sign"] (wm K κ ai false cH))
  (mr:Meth K (κ.adr 4) "take_rule" rj)(br:Binds K oW ["self"] [])(mp:Meth K (κ.adr 4) "take_parts" vK)(bp:Binds K vL ["self","fewest"] []):∀n:Nat,aK P w K mg base (kf P w) (4+2*n) rj oW ["self"] (wm K κ ai false (bF n))
 |0=>CD
 |n+1=>Uo (k:=4+2*n+1) (by omega) C D F yO yP mw bw Gw Fc Vl Vm Vn mp bp (Um (by omega) hl hM Z GN bN C Fp mc bc Gc ms bs Gs mr br (Jx hl hM Z GN bN C D F Fp yO yP mw bw Gw Fc Vl Vm Vn mc bc Gc ms bs Gs mr br mp bp n))
theorem NK:aU ["self","roll","text"] ["self","roll","text"] (ao (bR 23 0)):=⟨rfl,rfl,rfl,by decide+kernel,rfl,by decide+kernel,by decide+kernel⟩
theorem Jy:(mE.map (·.1)).Nodup:=by decide+kernel
theorem Up(hL:mg "list" =none)(C:pD K mg κ CR CC gK gO gQ gU fT)(D:Ar w.params K mg "FEWEST_PARTS" mE)(F:rQ K "__init__" "Reading.__init__" (bR 23 0) yW Bi):aK P w K mg base cX 1 yW Bi ["self","roll","text"] (L5 K κ mZ):=
 FC F NK λcR A outer s H E hr=>have nd:=NK.nd;TL C.q C.q2 (aF (DO.b (DX (aa 1) hL)) (DO.b (Ii D Jy (by decide) hL))) (aB 2)
theorem NL:aU ["roll","text","reading","rule"] ["roll","text"] (ao (top 24)):=⟨rfl,rfl,rfl,by decide+kernel,rfl,by decide+kernel,by decide+kernel⟩
theorem Uq(C:pD K mg κ CR CC gK gO gQ gU fT)(F:rQ K "read" "read" (top 24) Uj NF)(M:Mk K (κ.adr 4) yW)(gm:mg "Reading" =some (.ref (κ.adr 4)))(bi:Binds K Bi ["self","roll","text"] [])(Gi:aK P w K mg base cX 1 yW Bi ["self","roll","text"] (L5 K κ mZ))
  (mr:Meth K (κ.adr 4) "take_rule" rj)(br:Binds K oW ["self"] [])(Gr:aK P w K mg base (kf P w) 52 rj oW ["self"] (wm K κ ai false (bF 24)))(me:Meth K (κ.adr 4) "take_end" yV)(be:Binds K Bh ["self"] [])(Ge:aK P w K mg base (kf P w) 3 yV Bh ["self"] (wm K κ ai false fz)):aK P w K mg base (kf P w) 53 Uj NF ["roll","text"] (Vg K κ ai il):=
 TQ ai F NL λcR A outer s H E hr By=>have nd:=NL.nd;IB (W:=⟨ai,E⟩) C.q 2 3 nd M (Gi.mono (by decide:1<=51)) hr gm bi mr By Gr hr br me (Ge.mono (by decide:3<=52)) hr be (ag (aB 0) (ag (aB 1) aN))
theorem tj:aU ["_law_roll_here","_law_text","_law_caught","_law_told","_law_e"] ["_law_roll_here","_law_text"] (ao (top 45)):=⟨rfl,rfl,rfl,by decide+kernel,rfl,by decide+kernel,by decide+kernel⟩
theorem Bj(B:Bl K mg)(gB:Ed K mg "_law_read" (top 45) ["_law_roll_here","_law_text"] iB jm)(Z:Zx K mg aS dj dk cO ai eN cz cP cQ jH)(rZ:Ed K mg "read" (top 24) ["roll","text"] vC yJ)(CF:aK P w K mg base (kf P w) 53 vC yJ ["roll","text"] (Vg K κ ai il)):aK P w K mg base cX 54 iB jm ["_law_roll_here","_law_text"] (Mr K κ ai il):=
 gB.F.ok tj (λvs H Q E h=>by obtain⟨A,ps,p,_,h1,h2,_⟩:=h;rw[h1.length];exact(iU h2).1) λcR A outer s H vs Q E hr h=>have nd:=tj.nd;
  ⟨_,aQ (ic (i:=2) nd rfl (.inl rfl) xN) (aQ (ic (i:=3) nd rfl (.inl rfl) xN) (aQ (LR (iy:=3) (iz:=2) (jn:=4) (DD:=aS) (CF.mono (by decide)) hr rZ.m rZ.F.kp rZ.b (λE1=>aG (pv 0) (aG (pv 1) bG)) nd rfl rfl rfl rfl rfl rfl rfl rfl Z.m_SignError) (bx (eR (GX (aG (pv 3) (aG (pv 2) bG))))))),
    Jl rfl Z.b (λps p e=>(iU e).1) h⟩
theorem rl:aU ["_law_found"] ["_law_found"] (ao (top 35)):=⟨rfl,rfl,rfl,by decide+kernel,rfl,by decide+kernel,by decide+kernel⟩
theorem yX(B:Bl K mg)(fv:Ed K mg "_law_whole" (top 35) ["_law_found"] gg iQ):aK P w K mg base cX 1 gg iQ ["_law_found"] (hR K κ false nq):=
 cA fv.F rl λcR A outer s H E hr=>have nd:=rl.nd;(aH (bX (yj (we (aa 0) B.isinstance B.int) (B2 (Lh (uU (aa 0) B.isinstance B.bool))))))
theorem rn:aU ["_law_e","_law_found"] ["_law_e"] (ao (top 36)):=⟨rfl,rfl,rfl,by decide+kernel,rfl,by decide+kernel,by decide+kernel⟩
theorem yY(B:Bl K mg)(fw:Ed K mg "_law_kinds" (top 36) ["_law_e"] gi iR)(Z:Zx K mg aS dj dk cO ai eN cz cP cQ jH):aK P w K mg base cX 1 gi iR ["_law_e"] (Qq ai "NoRule"):=
 fw.F.ok rn (λvs H Q E h=>by obtain⟨a,dx,rfl,_⟩:=h;rfl) λcR A outer s H vs Q E hr h=>by
  have nd:=rn.nd
  obtain⟨a,dx,rfl,ha,q⟩:=h
  refine⟨_,aQ (ic (i:=1) nd rfl (.inl rfl) (uA bG)) (aQ (gV (nj B.isinstance Z.m_NoRoll) (bx (lF 1)) cS) (aQ (gV (nj B.isinstance Z.m_NoHand) (bx (lF 1)) cS) (aQ (gV (nj B.isinstance Z.m_NoGroup) (bx (lF 1)) cS) (aQ (gV (nj B.isinstance Z.m_NoRule) (bx (lF 1)) cS) (aQ (gV (nj B.isinstance Z.m_NoDay) (bx (lF 1)) cS) (aQ (gV (nj B.isinstance Z.m_NoDeputy) (bx (lF 1)) cS) (aQ (gV (nj B.isinstance Z.m_NoEntry) (bx (lF 1)) cS) (aQ (gV (nj B.isinstance Z.m_Unruled) (bx (lF 1)) cS) (aQ (gV (GH (Ms (T:= "ValueError") B.isinstance B.ValueError (by decide+kernel))) (bx (lF 1)) cS) (bx (eR (pv 1)))))))))))),z0S _,λp hp=>?_⟩
  have pa:a≠p:=λz=>by rw[z,hp]at ha;cases ha
  have h1:∀l,upd H p l a=H a:=λl=>au pa
  refine vz (C:=ai) (dx:=dx) (by first|exact(h1 _).trans ha|exact(au pa).trans ((h1 _).trans ha)) Z.x Z.k_NoRoll ?_
  refine vz (C:=ai) (dx:=dx) (by first|exact(h1 _).trans ha|exact(au pa).trans ((h1 _).trans ha)) Z.x Z.k_NoHand ?_
  refine vz (C:=ai) (dx:=dx) (by first|exact(h1 _).trans ha|exact(au pa).trans ((h1 _).trans ha)) Z.x Z.k_NoGroup ?_
  refine Qr (C:=ai) (dx:=dx) (xs:=[]) (by first|exact(h1 _).trans ha|exact(au pa).trans ((h1 _).trans ha)) Z.x Z.k_NoRule aC (by decide) ?_
  refine vz (C:=ai) (dx:=dx) (by first|exact(h1 _).trans ha|exact(au pa).trans ((h1 _).trans ha)) Z.x Z.k_NoDay ?_
  refine vz (C:=ai) (dx:=dx) (by first|exact(h1 _).trans ha|exact(au pa).trans ((h1 _).trans ha)) Z.x Z.k_NoDeputy ?_
  refine vz (C:=ai) (dx:=dx) (by first|exact(h1 _).trans ha|exact(au pa).trans ((h1 _).trans ha)) Z.x Z.k_NoEntry ?_
  refine vz (C:=ai) (dx:=dx) (by first|exact(h1 _).trans ha|exact(au pa).trans ((h1 _).trans ha)) Z.x Z.k_Unruled ?_
  refine Jo (C:=ai) (dx:=dx) (by first|exact(h1 _).trans ha|exact(au pa).trans ((h1 _).trans ha)) Z.x Z.k_ValueError ?_
  refine⟨.ref p,rfl,?_⟩
  have e:=q p hp
  rw[<-KN (o:=.lst [])]at e
  exact e
theorem Jz:aU ["_law_script","_law_roll_here","_law_rule","_law_shape","_law_good","_law_deep","_law_text","_law_at","_law_due","_law_told","_law_caught"] ["_law_script"] (ao (top 46)):=⟨rfl,rfl,rfl,by decide+kernel,rfl,by decide+kernel,by decide+kernel⟩
theorem QB(B:Bl K mg)(JA:Ed K mg "law" (top 46) ["_law_script"] Bb yK)(Z:Zx K mg aS dj dk cO ai eN cz cP cQ jH)(C:pD K mg κ CR CC gK gO gQ gU fT)(lK:ik P w K mg base κ false "text" 49 ["self"] fN)(gz:Ed K mg "_law_roll" (top 30) ["_law_script"] iw jj)(pI:aK P w K mg base cX 3 iw jj ["_law_script"] (hR K κ false iZ))(fg:Ed K mg "_law_built" (top 34) ["_law_script","_law_at","_law_size","_law_roll_here"] fZ iL)(nC:aK P w K mg base cX 8 fZ iL ["_law_script","_law_at","_law_size","_law_roll_here"] (hR K κ false fV))(eC:Ed K mg "_law_spoilt" (top 40) ["_law_script","_law_roll_here","_law_text"] fE gX)(lQ:aK P w K mg base cX 3 fE gX ["_law_script","_law_roll_here","_law_text"] (hR K κ false gJ))(fq:Ed K mg "_law_fails" (top 44) ["_law_roll_here","_law_text"] gf iP)(nD:aK P w K mg base cX 3 gf iP ["_law_roll_here","_law_text"] (hR K κ false d7))(gB:Ed K mg "_law_read" (top 45) ["_law_roll_here","_law_text"] iB jm)(pJ:aK P w K mg base cX 54 iB jm ["_law_roll_here","_law_text"] (Mr K κ ai il))(fv:Ed K mg "_law_whole" (top 35) ["_law_found"] gg iQ)(nE:aK P w K mg base cX 1 gg iQ ["_law_found"] (hR K κ false nq))(aj:Ed K mg "_law_cell_at" (top 26) ["_law_script","_law_k"] bD bI)(aR:aK P w K mg base cX 1 bD bI ["_law_script","_law_k"] (hR K κ false F_law_cell_at))(fw:Ed K mg "_law_kinds" (top 36) ["_law_e"] gi iR)(nF:aK P w K mg base cX 1 gi iR ["_law_e"] (Qq ai "NoRule")):aK P w K mg base cX 55 Bb yK ["_law_script"] (hR K κ false EB):=
 cA JA.F Jz λcR A outer s H E hr=>have nd:=Jz.nd;(aq (bh 1 nd (bO (pI.mono (by decide)) hr gz.m gz.F.kp gz.b (ag (aB 0) aN))) (aq (Pe (Pf (qD (i9 2 nd) (qD (i9 3 nd) (qD (i9 4 nd) (qD (i9 5 nd) Ly))))) (bO (nC.mono (by decide)) hr fg.m fg.F.kp fg.b (ag (aB 0) (ag ak (ag ak (ag (aB 1) aN)))))) (aq (bh 6 nd (bO (lQ.mono (by decide)) hr eC.m eC.F.kp eC.b (ag (aB 0) (ag (aB 1) (ag (aB 4) aN))))) (aq (gL (DW.t (yi (bj (dG hr (DE.b (cy (DE.b (bO (aR.mono (by decide)) hr aj.m aj.F.kp aj.b (ag (aB 0) (ag ak aN)))) (DE.b ak))) (DE.b ak))) (tU (bj (DM (DE.b (dR (aa 1) B.len)) (DE.b ak)))))) (aq (bh 7 nd (cy (DE.b (bO (aR.mono (by decide)) hr aj.m aj.F.kp aj.b (ag (aB 0) (ag ak aN)))) (DE.b (dR (aa 1) B.len)))) (aH (bh 1 nd (Mt (xC (aB 1) cM (bA (aa 7))) (xC (aB 1) (bA (DE.b (aF (aa 7) (DE.b ak)))) cM))))) dn) (aq (bh 8 nd (bO (nD.mono (by decide)) hr fq.m fq.F.kp fq.b (ag (aB 1) (ag (aB 6) aN)))) (Jp (NR:=ai) (FW:=nq) (pJ.mono (by decide)) hr gB.m gB.F.kp gB.b Z.st (ag (aB 1) (ag (aB 6) aN)) (Ji 9 10 nd) (bj (Hz (aa 8))) (yj (uN (Hz (aa 10))) (yj (Pq C.isR (aa 9) B.isinstance C.gR) (B2 (uN (dG hr (DE.b (mV (lK.mono (by decide)) hr (aB 9))) (aa 6)))))) ((pw_or (N9 (N8 (pv 10))) (pw_or1 (Dq (Hx (κ:=κ) (Ls hr.units)) (lg (nF.mono (by decide)) hr (by rfl) fw.m fw.F.kp fw.b .nil jy (aG (pv 10) bG)) (uA (aG uw bG)) (xR _)))).pt) Na (λm=>rfl) (GJ (lg (nE.mono (by decide)) hr (by rfl) fv.m fv.F.kp fv.b .nil jy (aG (Ir (pv 10)) bG)) (GI (Dp (Hw (κ:=κ) (Ls hr.units)) (Ir (pv 10)) (pv 8) (xR _))))))))))
theorem Bk(B:Bl K mg)(C:pD K mg κ CR CC gK gO gQ gU fT)(gk:Em K "text" "All.text" (bR 15 2) ["self"] d9 jI)(gn:Em K "text" "Any.text" (bR 16 2) ["self"] eg jJ)(aL:Em K "text_of_parts" "Counting.text_of_parts" (bR 14 4) ["self"] ay cN)(fG:Em K "text" "Hand.text" (bR 13 2) ["self"] du ja)(fI:Em K "text" "Some.text" (bR 17 2) ["self"] dv jb)(j9:Meth K (κ.adr 0) "text" du)(lR:Meth K (κ.adr 1) "text" d9)(lT:Meth K (κ.adr 2) "text" eg)(ka:Meth K (κ.adr 3) "text" dv)(eO:Meth K (κ.adr 1) "text_of_parts" ay)(eP:Meth K (κ.adr 2) "text_of_parts" ay)(eE:Meth K (κ.adr 3) "text_of_parts" ay):∀n:Nat,ik P w K mg base κ false "text" (1+2*n) ["self"] (jG n)
 |0=>λc xs p h=>by cases h
 |n+1=>by
  have lK:=Bk B C gk gn aL fG fI j9 lR lT ka eO eP eE n
  have Vo:1<=1+2*n+1:=by omega
  have Nz:1<=1+2*n:=by omega
  have cC:ik P w K mg base κ false "text_of_parts" (1+2*n+1) ["self"] (gI (jG n)):=λc xs p h=>match c,h with
   |1,_=>⟨_,_,C.cls 1 (by decide),eO,by rw[C.fld];decide,dI Nz B aL C lK,aL.b⟩
   |2,_=>⟨_,_,C.cls 2 (by decide),eP,by rw[C.fld];decide,dI Nz B aL C lK,aL.b⟩
   |3,_=>⟨_,_,C.cls 3 (by decide),eE,by rw[C.fld];decide,dI Nz B aL C lK,aL.b⟩
   |0,h=>by cases h
   |_+4,h=>by cases h
  exact λc xs p h=>match c,h with
   |0,_=>⟨_,_,C.cls 0 (by decide),j9,by rw[C.fld];decide,wx Vo B fG C,fG.b⟩
   |1,_=>⟨_,_,C.cls 1 (by decide),lR,by rw[C.fld];decide,yL Vo B gk C cC,gk.b⟩
   |2,_=>⟨_,_,C.cls 2 (by decide),lT,by rw[C.fld];decide,yM Vo B gn C cC,gn.b⟩
   |3,_=>⟨_,_,C.cls 3 (by decide),ka,by rw[C.fld];decide,wy Vo B fI C cC,fI.b⟩
   |_+4,h=>by cases h
theorem Ur:aU ["self","name"] ["self","name"] (ao (bR 13 0)):=⟨rfl,rfl,rfl,by decide+kernel,rfl,by decide+kernel,by decide+kernel⟩
theorem Us:aU ["self","parts"] ["self","parts"] (ao (bR 15 0)):=⟨rfl,rfl,rfl,by decide+kernel,rfl,by decide+kernel,by decide+kernel⟩
theorem Ut:aU ["self","parts"] ["self","parts"] (ao (bR 16 0)):=⟨rfl,rfl,rfl,by decide+kernel,rfl,by decide+kernel,by decide+kernel⟩
theorem Uu:aU ["self","many","parts"] ["self","many","parts"] (ao (bR 17 0)):=⟨rfl,rfl,rfl,by decide+kernel,rfl,by decide+kernel,by decide+kernel⟩
theorem Uv:aU ["self","wanted","parts"] ["self","wanted","parts"] (ao (bR 14 0)):=⟨rfl,rfl,rfl,by decide+kernel,rfl,by decide+kernel,by decide+kernel⟩
theorem Uw(B:Bl K mg)(C:pD K mg κ CR CC gK gO gQ gU fT)(d:Em K "__init__" "Hand.__init__" (bR 13 0) ["self","name"] gK oP):aK P w K mg base cX 1 gK oP ["self","name"] (pw (κ.adr 0)):=
 d.F.ok Ur (λvs H Q E h=>HQ h) λcR A outer s H vs Q E hr h=>⟨_,bx (rM (pv 0) (pv 1) rfl),LC (C.cls 0 (by decide)) C.nn h⟩
theorem JB(B:Bl K mg)(C:pD K mg κ CR CC gK gO gQ gU fT)(c:Nat)(h0:0<c)(h4:c<4)(d:Em K "__init__" "Counting.__init__" (bR 14 0) ["self","wanted","parts"] fT xE):aK P w K mg base cX 1 fT xE ["self","wanted","parts"] (oM K (κ.adr c)):=
 d.F.ok Uv (λvs H Q E h=>D5 h) λcR A outer s H vs Q E hr h=>⟨_,aQ (rM (pv 0) (pv 1) rfl) (bx (rM (pv 0) (kN oJ (by rfl) B.tuple (by decide+kernel) (aG (pv 2) bG)) rfl)),Pk (C.cls c h4) (C.nw c h0 h4) (C.np c h0 h4) h⟩
theorem Ux(B:Bl K mg)(C:pD K mg κ CR CC gK gO gQ gU fT)(dC:Em K "__init__" "Counting.__init__" (bR 14 0) ["self","wanted","parts"] fT xE)(d:Em K "__init__" "All.__init__" (bR 15 0) ["self","parts"] gO sR):aK P w K mg base cX 2 gO sR ["self","parts"] (mW K (κ.adr 1) λys=>(ys.length:Nat)):=
 d.F.ok Us (λvs H Q E h=>D6 h) λcR A outer s H vs Q E hr h=>⟨_,bx (g0 (uW C.cf (JB B C 1 (by decide) (by decide) dC) hr (by rfl) C.gC dC.b (aG (pv 0) (aG (je qu (by rfl) B.len PySem.boot_len (aG (pv 1) bG)) (aG (pv 1) bG))))),HP Pm h⟩
theorem Uy(B:Bl K mg)(C:pD K mg κ CR CC gK gO gQ gU fT)(dC:Em K "__init__" "Counting.__init__" (bR 14 0) ["self","wanted","parts"] fT xE)(d:Em K "__init__" "Any.__init__" (bR 16 0) ["self","parts"] gQ sT):aK P w K mg base cX 2 gQ sT ["self","parts"] (mW K (κ.adr 2) λ_=>1):=
 d.F.ok Ut (λvs H Q E h=>D6 h) λcR A outer s H vs Q E hr h=>⟨_,bx (g0 (uW C.cf (JB B C 2 (by decide) (by decide) dC) hr (by rfl) C.gC dC.b (aG (pv 0) (aG BC (aG (pv 1) bG))))),HP Pn h⟩
theorem Uz(B:Bl K mg)(C:pD K mg κ CR CC gK gO gQ gU fT)(dC:Em K "__init__" "Counting.__init__" (bR 14 0) ["self","wanted","parts"] fT xE)(d:Em K "__init__" "Some.__init__" (bR 17 0) ["self","many","parts"] gU sU):aK P w K mg base cX 2 gU sU ["self","many","parts"] (oM K (κ.adr 3)):=
 d.F.ok Uu (λvs H Q E h=>D5 h) λcR A outer s H vs Q E hr h=>⟨_,bx (g0 (uW C.cf (JB B C 3 (by decide) (by decide) dC) hr (by rfl) C.gC dC.b (aG (pv 0) (aG (pv 1) (aG (pv 2) bG))))),Pl h⟩
theorem UA:aU ["self","at"] ["self","at"] (ao (bR 6 0)):=⟨rfl,rfl,rfl,by decide+kernel,rfl,by decide+kernel,by decide+kernel⟩
theorem UB(Z:Zx K mg aS dj dk cO ai eN cz cP cQ jH)(d:Em K "__init__" "NoRule.__init__" (bR 6 0) ["self","at"] jH kU):aK P w K mg base cX 1 jH kU ["self","at"] (KG ai):=
 d.F.ok UA (λvs H Q E h=>by obtain⟨e,n,rfl,_⟩:=h;rfl) λcR A outer s H vs Q E hr h=>⟨_,aQ (Iq Z.rd Z.ga Z.m_SignError (pv 0) (PM (pv 1) (by decide+kernel) (by decide+kernel))) (bx (LW (pv 0) (pv 1))),PR Z.st h⟩
end
section
variable{l:PySem.W.OpenLaw}{w:World}{K:PySem.W.Frag}{h:Heap}{mg:Str->Option Value}
theorem all_mk{fa:Addr}(X:K.In h)(G:h.Ns mainGlobals mg)(W7:mg "law" =some (.ref fa))
  {r9 i7 c_Hand c_All c_Any c_Some c_Reading:Addr}
  {yW:Addr}
  {vG:Addr}
  {rY:Addr}
  {vH:Addr}
  {vK:Addr}
  {rj:Addr}
  {yV:Addr}
  {yU:Addr}
  {tR:Addr}
  {Mz:Addr}{JC:Array DictEntry}{UC:Nat}
  {aS dj dk cO ai eN cz cP cQ:Addr}
  {MA QC:ClassData}{jH:Addr}
  {gK:Addr}
  {gO:Addr}
  {gQ:Addr}
  {gU:Addr}
  {fT:Addr}
  {d9:Addr}
  {eg:Addr}
  {ay:Addr}
  {du:Addr}
  {dv:Addr}
  {bD:Addr}
  {iq:Addr}
  {iu:Addr}
  {fX:Addr}
  {iw:Addr}
  {cT:Addr}
  {fB:Addr}
  {ix:Addr}
  {fZ:Addr}
  {dg:Addr}
  {eG:Addr}
  {iA:Addr}
  {fE:Addr}
  {gc:Addr}
  {gd:Addr}
  {fF:Addr}
  {gf:Addr}
  {vC:Addr}
  {iB:Addr}
  {gg:Addr}
  {gi:Addr}
  {Bb:Addr}
  {yZ:Tok}
  (CG:PySem.W.nsIn K mainGlobals "Rule" =some (some (.ref r9)))
  (pK:PySem.W.nsIn K mainGlobals "Counting" =some (some (.ref i7)))
  (CH:PySem.W.nsIn K mainGlobals "Hand" =some (some (.ref c_Hand)))
  (JD:PySem.W.nsIn K mainGlobals "All" =some (some (.ref c_All)))
  (JE:PySem.W.nsIn K mainGlobals "Any" =some (some (.ref c_Any)))
  (CI:PySem.W.nsIn K mainGlobals "Some" =some (some (.ref c_Some)))
  (sd:PySem.W.nsIn K mainGlobals "Reading" =some (some (.ref c_Reading)))
  (ud:PySem.W.plainGet K c_Hand Str.empty=true)
  (ue:PySem.W.hasDictIn K c_Hand=true)
  (uf:PySem.W.plainOver K c_Hand=true)
  (ug:PySem.W.findIn K (.ref c_Hand) "__setattr__" =some (some (.builtin "object.__setattr__")))
  (y6:PySem.W.makesIn K c_Hand=true)
  (y7:PySem.W.keepIn K (.ref c_Hand)=true)
  (y8:PySem.W.findIn K (.ref c_Hand) "__class__" =some (some (.builtin "object.__class__")))
  (y9:PySem.W.mroIn K c_Hand (.type "object")=some true)
  (za:PySem.W.kitOne K (.ref c_Hand) (.ref r9)=some true)
  (nG:PySem.W.findIn K (.ref c_Hand) "name" =some none)
  (zb:PySem.W.plainGet K c_All Str.empty=true)
  (zc:PySem.W.hasDictIn K c_All=true)
  (zd:PySem.W.plainOver K c_All=true)
  (ze:PySem.W.findIn K (.ref c_All) "__setattr__" =some (some (.builtin "object.__setattr__")))
  (CJ:PySem.W.makesIn K c_All=true)
  (CK:PySem.W.keepIn K (.ref c_All)=true)
  (CL:PySem.W.findIn K (.ref c_All) "__class__" =some (some (.builtin "object.__class__")))
  (CM:PySem.W.mroIn K c_All (.type "object")=some true)
  (CN:PySem.W.kitOne K (.ref c_All) (.ref r9)=some true)
  (lU:PySem.W.findIn K (.ref c_All) "wanted" =some none)
  (nH:PySem.W.findIn K (.ref c_All) "parts" =some none)
  (zf:PySem.W.plainGet K c_Any Str.empty=true)
  (zh:PySem.W.hasDictIn K c_Any=true)
  (zi:PySem.W.plainOver K c_Any=true)
  (zj:PySem.W.findIn K (.ref c_Any) "__setattr__" =some (some (.builtin "object.__setattr__")))
  (CO:PySem.W.makesIn K c_Any=true)
  (CP:PySem.W.keepIn K (.ref c_Any)=true)
  (CQ:PySem.W.findIn K (.ref c_Any) "__class__" =some (some (.builtin "object.__class__")))
  (CS:PySem.W.mroIn K c_Any (.type "object")=some true)
  (CT:PySem.W.kitOne K (.ref c_Any) (.ref r9)=some true)
  (lV:PySem.W.findIn K (.ref c_Any) "wanted" =some none)
  (nI:PySem.W.findIn K (.ref c_Any) "parts" =some none)
  (uh:PySem.W.plainGet K c_Some Str.empty=true)
  (ui:PySem.W.hasDictIn K c_Some=true)
  (uj:PySem.W.plainOver K c_Some=true)
  (uk:PySem.W.findIn K (.ref c_Some) "__setattr__" =some (some (.builtin "object.__setattr__")))
  (zk:PySem.W.makesIn K c_Some=true)
  (zm:PySem.W.keepIn K (.ref c_Some)=true)
  (zo:PySem.W.findIn K (.ref c_Some) "__class__" =some (some (.builtin "object.__class__")))
  (zp:PySem.W.mroIn K c_Some (.type "object")=some true)
  (zq:PySem.W.kitOne K (.ref c_Some) (.ref r9)=some true)
  (ko:PySem.W.findIn K (.ref c_Some) "wanted" =some none)
  (lX:PySem.W.findIn K (.ref c_Some) "parts" =some none)
  (pL:PySem.W.plainGet K c_Reading Str.empty=true)
  (pM:PySem.W.hasDictIn K c_Reading=true)
  (pN:PySem.W.plainOver K c_Reading=true)
  (pO:PySem.W.findIn K (.ref c_Reading) "__setattr__" =some (some (.builtin "object.__setattr__")))
  (pP:PySem.W.makesIn K c_Reading=true)
  (pQ:PySem.W.keepIn K (.ref c_Reading)=true)
  (jt:PySem.W.findIn K (.ref c_Reading) "words" =some none)
  (ju:PySem.W.findIn K (.ref c_Reading) "signs" =some none)
  (lZ:PySem.W.findIn K (.ref c_Reading) "at" =some none)
  (EC:PySem.W.findIn K (.ref c_Reading) "__init__" =some (some (.ref yW)))
  (ED:PySem.W.isFn K (.ref yW)=true)
  (QD:FL K yW "__init__" "Reading.__init__" (bR 23 0))
  (JF:PySem.W.findIn K (.ref c_Reading) "take_word" =some (some (.ref vG)))
  (JG:PySem.W.isFn K (.ref vG)=true)
  (QF:FL K vG "take_word" "Reading.take_word" (bR 23 1))
  (JH:PySem.W.findIn K (.ref c_Reading) "comes" =some (some (.ref rY)))
  (JI:PySem.W.isFn K (.ref rY)=true)
  (QG:FL K rY "comes" "Reading.comes" (bR 23 2))
  (JJ:PySem.W.findIn K (.ref c_Reading) "take_sign" =some (some (.ref vH)))
  (JK:PySem.W.isFn K (.ref vH)=true)
  (QH:FL K vH "take_sign" "Reading.take_sign" (bR 23 3))
  (JL:PySem.W.findIn K (.ref c_Reading) "take_parts" =some (some (.ref vK)))
  (JM:PySem.W.isFn K (.ref vK)=true)
  (QJ:FL K vK "take_parts" "Reading.take_parts" (bR 23 4))
  (JN:PySem.W.findIn K (.ref c_Reading) "take_rule" =some (some (.ref rj)))
  (JO:PySem.W.isFn K (.ref rj)=true)
  (QK:FL K rj "take_rule" "Reading.take_rule" (bR 23 5))
  (JP:PySem.W.findIn K (.ref c_Reading) "take_end" =some (some (.ref yV)))
  (JQ:PySem.W.isFn K (.ref yV)=true)
  (QL:FL K yV "take_end" "Reading.take_end" (bR 23 6))
  (QM:PySem.W.nsIn K mainGlobals "shared_signs" =some (some (.ref yU)))
  (QN:FL K yU "shared_signs" "shared_signs" (top 21))
  (QO:PySem.W.nsIn K mainGlobals "counting_rule" =some (some (.ref tR)))
  (QP:FL K tR "counting_rule" "counting_rule" (top 22))
  (QQ:PySem.W.nsIn K mainGlobals "FEWEST_PARTS" =some (some (.ref Mz)))
  (QR:K.lookup Mz=some ⟨.type "dict",none,.dict JC UC,#[]⟩)
  (QT:qF w.params JC.toList mE)
  (QU:(Mz==sysModules)=false)
  (nJ:PySem.W.nsIn K mainGlobals "SignError" =some (some (.ref aS)))
  (vM:PySem.W.nsIn K mainGlobals "NoRoll" =some (some (.ref dj)))
  (vN:PySem.W.nsIn K mainGlobals "NoHand" =some (some (.ref dk)))
  (sk:PySem.W.nsIn K mainGlobals "NoGroup" =some (some (.ref cO)))
  (vO:PySem.W.nsIn K mainGlobals "NoRule" =some (some (.ref ai)))
  (zu:PySem.W.nsIn K mainGlobals "NoDay" =some (some (.ref eN)))
  (pR:PySem.W.nsIn K mainGlobals "NoDeputy" =some (some (.ref cz)))
  (so:PySem.W.nsIn K mainGlobals "NoEntry" =some (some (.ref cP)))
  (sr:PySem.W.nsIn K mainGlobals "Unruled" =some (some (.ref cQ)))
  (Xf:PySem.W.instIn K (.ref aS) (.type "tuple")=some false)
  (Xg:PySem.W.clsIn K aS=some MA)
  (Xh:PySem.W.mroIn K aS (.type "BaseException")=some true)
  (b4_:PySem.W.mroIn K ai (.ref aS)=some true)
  (Xi:GB K ai=true)
  (QV:PySem.W.findIn K (.ref ai) "__setattr__" =some (some (.builtin "object.__setattr__")))
  (QW:PySem.W.findIn K (.ref ai) "at" =some none)
  (Vp:PySem.W.clsIn K ai=some QC)
  (QX:QC.mro=.ref ai::.ref aS::RN)
  (QY:QC.hasDict=true)
  (Vq:PySem.W.findIn K (.ref ai) "__getattribute__" =some (some (.builtin "BaseException.__getattribute__")))
  (Vr:PySem.W.findIn K (.ref ai) "__getattr__" =some none)
  (Xj:PySem.W.findIn K (.ref ai) "__class__" =some (some (.builtin "object.__class__")))
  (Xk:PySem.W.mroIn K ai (.type "object")=some true)
  (Xl:PySem.W.mroIn K ai (.type "BaseException")=some true)
  (su:PySem.W.kitOne K (.ref ai) (.ref dj)=some false)
  (sv:PySem.W.kitOne K (.ref ai) (.ref dk)=some false)
  (pS:PySem.W.kitOne K (.ref ai) (.ref cO)=some false)
  (sx:PySem.W.kitOne K (.ref ai) (.ref ai)=some true)
  (vP:PySem.W.kitOne K (.ref ai) (.ref eN)=some false)
  (nK:PySem.W.kitOne K (.ref ai) (.ref cz)=some false)
  (pT:PySem.W.kitOne K (.ref ai) (.ref cP)=some false)
  (pU:PySem.W.kitOne K (.ref ai) (.ref cQ)=some false)
  (kq:PySem.W.kitOne K (.ref ai) (.type "ValueError")=some true)
  (fiN:PySem.W.findIn K (.ref ai) "__init__" =some (some (.ref jH)))
  (fnN:PySem.W.isFn K (.ref jH)=true)
  (kcN:PySem.W.keepIn K (.ref ai)=true)
  (QZ:FL K jH "__init__" "NoRule.__init__" (bR 6 0))
  (rdN:PySem.W.readsIn K aS (.type "type")=true)
  (fcN:PySem.W.findCls K (.ref aS) (.type "type") "__init__" =some (.val (.builtin "ValueError.__init__")))
  (gaN:PySem.W.specialIn K (.ref aS) "__getattribute__" =some (some (.builtin "type.__getattribute__")))
  (Q0:PySem.W.specialIn K (.builtin "object.__class__") "__get__" =some (some (.builtin "getset_descriptor.__get__")))
  (Q1:PySem.W.takesIn K (.builtin "object.__class__")=some true)
  (fiH:PySem.W.findIn K (.ref c_Hand) "__init__" =some (some (.ref gK)))
  (fnH:PySem.W.isFn K (.ref gK)=true)
  (Q2:FL K gK "__init__" "Hand.__init__" (bR 13 0))
  (fiA:PySem.W.findIn K (.ref c_All) "__init__" =some (some (.ref gO)))
  (fnA:PySem.W.isFn K (.ref gO)=true)
  (Q3:FL K gO "__init__" "All.__init__" (bR 15 0))
  (fiY:PySem.W.findIn K (.ref c_Any) "__init__" =some (some (.ref gQ)))
  (fnY:PySem.W.isFn K (.ref gQ)=true)
  (Q4:FL K gQ "__init__" "Any.__init__" (bR 16 0))
  (fiS:PySem.W.findIn K (.ref c_Some) "__init__" =some (some (.ref gU)))
  (fnS:PySem.W.isFn K (.ref gU)=true)
  (Q5:FL K gU "__init__" "Some.__init__" (bR 17 0))
  (fiC:PySem.W.findIn K (.ref i7) "__init__" =some (some (.ref fT)))
  (fnC:PySem.W.isFn K (.ref fT)=true)
  (Q6:FL K fT "__init__" "Counting.__init__" (bR 14 0))
  (rdC:PySem.W.readsIn K i7 (.type "type")=true)
  (fcC:PySem.W.findCls K (.ref i7) (.type "type") "__init__" =some (.val (.ref fT)))
  (gaC:PySem.W.specialIn K (.ref i7) "__getattribute__" =some (some (.builtin "type.__getattribute__")))
  (hdC:PySem.W.handedIn (.ref fT)=true)
  (nL:PySem.W.findIn K (.ref c_All) "text" =some (some (.ref d9)))
  (l6:PySem.W.isFn K (.ref d9)=true)
  (nM:FL K d9 "text" "All.text" (bR 15 2))
  (nN:PySem.W.findIn K (.ref c_Any) "text" =some (some (.ref eg)))
  (l7:PySem.W.isFn K (.ref eg)=true)
  (nO:FL K eg "text" "Any.text" (bR 16 2))
  (gD:PySem.W.findIn K (.ref c_All) "text_of_parts" =some (some (.ref ay)))
  (gE:PySem.W.findIn K (.ref c_Any) "text_of_parts" =some (some (.ref ay)))
  (fO:PySem.W.findIn K (.ref c_Some) "text_of_parts" =some (some (.ref ay)))
  (cg:PySem.W.isFn K (.ref ay)=true)
  (dS:FL K ay "text_of_parts" "Counting.text_of_parts" (bR 14 4))
  (l8:PySem.W.findIn K (.ref c_Hand) "text" =some (some (.ref du)))
  (kr:PySem.W.isFn K (.ref du)=true)
  (md:FL K du "text" "Hand.text" (bR 13 2))
  (mf:PySem.W.findIn K (.ref c_Some) "text" =some (some (.ref dv)))
  (ku:PySem.W.isFn K (.ref dv)=true)
  (mh:FL K dv "text" "Some.text" (bR 17 2))
  (ky:PySem.W.nsIn K mainGlobals "_law_cell_at" =some (some (.ref bD)))
  (kz:FL K bD "_law_cell_at" "_law_cell_at" (top 26))
  (pV:PySem.W.nsIn K mainGlobals "_law_name" =some (some (.ref iq)))
  (pW:FL K iq "_law_name" "_law_name" (top 28))
  (pX:PySem.W.nsIn K mainGlobals "_law_base" =some (some (.ref iu)))
  (pY:FL K iu "_law_base" "_law_base" (top 27))
  (nP:PySem.W.nsIn K mainGlobals "_law_names" =some (some (.ref fX)))
  (nQ:FL K fX "_law_names" "_law_names" (top 29))
  (pZ:PySem.W.nsIn K mainGlobals "_law_roll" =some (some (.ref iw)))
  (p6:FL K iw "_law_roll" "_law_roll" (top 30))
  (kB:PySem.W.nsIn K mainGlobals "_law_counted" =some (some (.ref cT)))
  (kC:FL K cT "_law_counted" "_law_counted" (top 32))
  (mi:PySem.W.nsIn K mainGlobals "_law_folded" =some (some (.ref fB)))
  (mj:FL K fB "_law_folded" "_law_folded" (top 33))
  (qa:PySem.W.nsIn K mainGlobals "_law_hand" =some (some (.ref ix)))
  (qb:FL K ix "_law_hand" "_law_hand" (top 31))
  (nR:PySem.W.nsIn K mainGlobals "_law_built" =some (some (.ref fZ)))
  (nS:FL K fZ "_law_built" "_law_built" (top 34))
  (jv:PySem.W.nsIn K mainGlobals "_law_exchanged" =some (some (.ref dg)))
  (jw:FL K dg "_law_exchanged" "_law_exchanged" (top 39))
  (kD:PySem.W.nsIn K mainGlobals "_law_foreign" =some (some (.ref eG)))
  (kE:FL K eG "_law_foreign" "_law_foreign" (top 37))
  (qc:PySem.W.nsIn K mainGlobals "_law_sign" =some (some (.ref iA)))
  (qd:FL K iA "_law_sign" "_law_sign" (top 38))
  (ml:PySem.W.nsIn K mainGlobals "_law_spoilt" =some (some (.ref fE)))
  (mm:FL K fE "_law_spoilt" "_law_spoilt" (top 40))
  (nT:PySem.W.nsIn K mainGlobals "_law_alike" =some (some (.ref gc)))
  (nU:FL K gc "_law_alike" "_law_alike" (top 41))
  (nV:PySem.W.nsIn K mainGlobals "_law_token" =some (some (.ref gd)))
  (nW:FL K gd "_law_token" "_law_token" (top 42))
  (mn:PySem.W.nsIn K mainGlobals "_law_behind" =some (some (.ref fF)))
  (mq:FL K fF "_law_behind" "_law_behind" (top 43))
  (nX:PySem.W.nsIn K mainGlobals "_law_fails" =some (some (.ref gf)))
  (nY:FL K gf "_law_fails" "_law_fails" (top 44))
  (CU:PySem.W.nsIn K mainGlobals "read" =some (some (.ref vC)))
  (CV:FL K vC "read" "read" (top 24))
  (qe:PySem.W.nsIn K mainGlobals "_law_read" =some (some (.ref iB)))
  (qf:FL K iB "_law_read" "_law_read" (top 45))
  (nZ:PySem.W.nsIn K mainGlobals "_law_whole" =some (some (.ref gg)))
  (n5:FL K gg "_law_whole" "_law_whole" (top 35))
  (n6:PySem.W.nsIn K mainGlobals "_law_kinds" =some (some (.ref gi)))
  (n8:FL K gi "_law_kinds" "_law_kinds" (top 36))
  (EE:PySem.W.nsIn K mainGlobals "law" =some (some (.ref Bb)))
  (JR:FL K Bb "law" "law" (top 46))
  (mv:PySem.W.nsIn K mainGlobals "ValueError" =some none)
  (CW:PySem.W.nsIn K mainGlobals "bool" =some none)
  (JS:PySem.W.nsIn K mainGlobals "int" =some none)
  (mx:PySem.W.nsIn K mainGlobals "isinstance" =some none)
  (JT:PySem.W.nsIn K mainGlobals "len" =some none)
  (CY:PySem.W.nsIn K mainGlobals "list" =some none)
  (JU:PySem.W.nsIn K mainGlobals "max" =some none)
  (zw:PySem.W.nsIn K mainGlobals "range" =some none)
  (JV:PySem.W.nsIn K mainGlobals "str" =some none)
  (zx:PySem.W.nsIn K mainGlobals "tuple" =some none)
  (JW:PySem.W.nsIn K mainGlobals "zip" =some none)
  (my:PySem.W.nsIn K mainGlobals "MOST_PARTS" =some (some (.int 8 yZ)))
  :∃(κ:Kl) (fd:FuncData),(∀(s:Shared) (v:Value),BindsTo s fd ⟨[v],[]⟩ [("_law_script",v)])/\∀base:Heap,K.In base->base.Ns mainGlobals mg->aK l.prog w K mg base cX 55 fa fd ["_law_script"] (hR K κ false EB):=by
 have e:=W7.symm.trans (z0D X G EE)
 cases e
 obtain⟨jI,mz⟩:=aY nM
 have gk:Em K "text" "All.text" (bR 15 2) ["self"] _ _:=⟨mz,mz.binds (ps:=["self"]) λ_ _ _ _ _ _ us hl=>by obtain⟨a0,rfl⟩:=mH hl;rfl⟩
 obtain⟨jJ,mB⟩:=aY nO
 have gn:Em K "text" "Any.text" (bR 16 2) ["self"] _ _:=⟨mB,mB.binds (ps:=["self"]) λ_ _ _ _ _ _ us hl=>by obtain⟨a0,rfl⟩:=mH hl;rfl⟩
 obtain⟨cN,cj⟩:=aY dS
 have aL:Em K "text_of_parts" "Counting.text_of_parts" (bR 14 4) ["self"] _ _:=⟨cj,cj.binds (ps:=["self"]) λ_ _ _ _ _ _ us hl=>by obtain⟨a0,rfl⟩:=mH hl;rfl⟩
 obtain⟨ja,kG⟩:=aY md
 have fG:Em K "text" "Hand.text" (bR 13 2) ["self"] _ _:=⟨kG,kG.binds (ps:=["self"]) λ_ _ _ _ _ _ us hl=>by obtain⟨a0,rfl⟩:=mH hl;rfl⟩
 obtain⟨jb,kI⟩:=aY mh
 have fI:Em K "text" "Some.text" (bR 17 2) ["self"] _ _:=⟨kI,kI.binds (ps:=["self"]) λ_ _ _ _ _ _ us hl=>by obtain⟨a0,rfl⟩:=mH hl;rfl⟩
 obtain⟨bI,oa⟩:=aY kz
 have aj:Ed K mg "_law_cell_at" (top 26) ["_law_script","_law_k"] _ _:=⟨oa,oa.binds (ps:=["_law_script","_law_k"]) λ_ _ _ _ _ _ us hl=>by obtain⟨a0,a1,rfl⟩:=pB hl;rfl,z0D X G ky⟩
 obtain⟨jh,tm⟩:=aY pW
 have gw:Ed K mg "_law_name" (top 28) ["_law_base_here","_law_place","_law_size","_law_k"] _ _:=⟨tm,tm.binds (ps:=["_law_base_here","_law_place","_law_size","_law_k"]) λ_ _ _ _ _ _ us hl=>by obtain⟨a0,a1,a2,a3,rfl⟩:=Pt hl;rfl,z0D X G pV⟩
 obtain⟨ji,tq⟩:=aY pY
 have gy:Ed K mg "_law_base" (top 27) ["_law_cell","_law_size"] _ _:=⟨tq,tq.binds (ps:=["_law_cell","_law_size"]) λ_ _ _ _ _ _ us hl=>by obtain⟨a0,a1,rfl⟩:=pB hl;rfl,z0D X G pX⟩
 obtain⟨iK,rq⟩:=aY nQ
 have ff:Ed K mg "_law_names" (top 29) ["_law_script","_law_at","_law_many"] _ _:=⟨rq,rq.binds (ps:=["_law_script","_law_at","_law_many"]) λ_ _ _ _ _ _ us hl=>by obtain⟨a0,a1,a2,rfl⟩:=yn hl;rfl,z0D X G nP⟩
 obtain⟨jj,tu⟩:=aY p6
 have gz:Ed K mg "_law_roll" (top 30) ["_law_script"] _ _:=⟨tu,tu.binds (ps:=["_law_script"]) λ_ _ _ _ _ _ us hl=>by obtain⟨a0,rfl⟩:=mH hl;rfl,z0D X G pZ⟩
 obtain⟨dH,og⟩:=aY kC
 have bW:Ed K mg "_law_counted" (top 32) ["_law_kind","_law_many","_law_items"] _ _:=⟨og,og.binds (ps:=["_law_kind","_law_many","_law_items"]) λ_ _ _ _ _ _ us hl=>by obtain⟨a0,a1,a2,rfl⟩:=yn hl;rfl,z0D X G kB⟩
 obtain⟨gW,oX⟩:=aY mj
 have eh:Ed K mg "_law_folded" (top 33) ["_law_pile","_law_cell"] _ _:=⟨oX,oX.binds (ps:=["_law_pile","_law_cell"]) λ_ _ _ _ _ _ us hl=>by obtain⟨a0,a1,rfl⟩:=pB hl;rfl,z0D X G mi⟩
 obtain⟨jk,tw⟩:=aY qb
 have dJ:Ed K mg "_law_hand" (top 31) ["_law_name_here"] _ _:=⟨tw,tw.binds (ps:=["_law_name_here"]) λ_ _ _ _ _ _ us hl=>by obtain⟨a0,rfl⟩:=mH hl;rfl,z0D X G qa⟩
 obtain⟨iL,rA⟩:=aY nS
 have fg:Ed K mg "_law_built" (top 34) ["_law_script","_law_at","_law_size","_law_roll_here"] _ _:=⟨rA,rA.binds (ps:=["_law_script","_law_at","_law_size","_law_roll_here"]) λ_ _ _ _ _ _ us hl=>by obtain⟨a0,a1,a2,a3,rfl⟩:=Pt hl;rfl,z0D X G nR⟩
 obtain⟨eW,kX⟩:=aY jw
 have bS:Ed K mg "_law_exchanged" (top 39) ["_law_text","_law_signs","_law_other","_law_cell"] _ _:=⟨kX,kX.binds (ps:=["_law_text","_law_signs","_law_other","_law_cell"]) λ_ _ _ _ _ _ us hl=>by obtain⟨a0,a1,a2,a3,rfl⟩:=Pt hl;rfl,z0D X G jv⟩
 obtain⟨gj,oh⟩:=aY kE
 have dB:Ed K mg "_law_foreign" (top 37) ["_law_cell"] _ _:=⟨oh,oh.binds (ps:=["_law_cell"]) λ_ _ _ _ _ _ us hl=>by obtain⟨a0,rfl⟩:=mH hl;rfl,z0D X G kD⟩
 obtain⟨jl,tx⟩:=aY qd
 have dM:Ed K mg "_law_sign" (top 38) ["_law_cell"] _ _:=⟨tx,tx.binds (ps:=["_law_cell"]) λ_ _ _ _ _ _ us hl=>by obtain⟨a0,rfl⟩:=mH hl;rfl,z0D X G qc⟩
 obtain⟨gX,oY⟩:=aY mm
 have eC:Ed K mg "_law_spoilt" (top 40) ["_law_script","_law_roll_here","_law_text"] _ _:=⟨oY,oY.binds (ps:=["_law_script","_law_roll_here","_law_text"]) λ_ _ _ _ _ _ us hl=>by obtain⟨a0,a1,a2,rfl⟩:=yn hl;rfl,z0D X G ml⟩
 obtain⟨iN,rB⟩:=aY nU
 have fj:Ed K mg "_law_alike" (top 41) ["_law_text","_law_at","_law_other"] _ _:=⟨rB,rB.binds (ps:=["_law_text","_law_at","_law_other"]) λ_ _ _ _ _ _ us hl=>by obtain⟨a0,a1,a2,rfl⟩:=yn hl;rfl,z0D X G nT⟩
 obtain⟨iO,rC⟩:=aY nW
 have fm:Ed K mg "_law_token" (top 42) ["_law_roll_here","_law_text","_law_at"] _ _:=⟨rC,rC.binds (ps:=["_law_roll_here","_law_text","_law_at"]) λ_ _ _ _ _ _ us hl=>by obtain⟨a0,a1,a2,rfl⟩:=yn hl;rfl,z0D X G nV⟩
 obtain⟨gZ,oZ⟩:=aY mq
 have eD:Ed K mg "_law_behind" (top 43) ["_law_text","_law_at","_law_pile"] _ _:=⟨oZ,oZ.binds (ps:=["_law_text","_law_at","_law_pile"]) λ_ _ _ _ _ _ us hl=>by obtain⟨a0,a1,a2,rfl⟩:=yn hl;rfl,z0D X G mn⟩
 obtain⟨iP,rD⟩:=aY nY
 have fq:Ed K mg "_law_fails" (top 44) ["_law_roll_here","_law_text"] _ _:=⟨rD,rD.binds (ps:=["_law_roll_here","_law_text"]) λ_ _ _ _ _ _ us hl=>by obtain⟨a0,a1,rfl⟩:=pB hl;rfl,z0D X G nX⟩
 obtain⟨yJ,EF⟩:=aY CV
 have rZ:Ed K mg "read" (top 24) ["roll","text"] _ _:=⟨EF,EF.binds (ps:=["roll","text"]) λ_ _ _ _ _ _ us hl=>by obtain⟨a0,a1,rfl⟩:=pB hl;rfl,z0D X G CU⟩
 obtain⟨jm,tD⟩:=aY qf
 have gB:Ed K mg "_law_read" (top 45) ["_law_roll_here","_law_text"] _ _:=⟨tD,tD.binds (ps:=["_law_roll_here","_law_text"]) λ_ _ _ _ _ _ us hl=>by obtain⟨a0,a1,rfl⟩:=pB hl;rfl,z0D X G qe⟩
 obtain⟨iQ,rE⟩:=aY n5
 have fv:Ed K mg "_law_whole" (top 35) ["_law_found"] _ _:=⟨rE,rE.binds (ps:=["_law_found"]) λ_ _ _ _ _ _ us hl=>by obtain⟨a0,rfl⟩:=mH hl;rfl,z0D X G nZ⟩
 obtain⟨iR,rF⟩:=aY n8
 have fw:Ed K mg "_law_kinds" (top 36) ["_law_e"] _ _:=⟨rF,rF.binds (ps:=["_law_e"]) λ_ _ _ _ _ _ us hl=>by obtain⟨a0,rfl⟩:=mH hl;rfl,z0D X G n6⟩
 obtain⟨yK,CZ⟩:=aY JR
 have JA:Ed K mg "law" (top 46) ["_law_script"] _ _:=⟨CZ,CZ.binds (ps:=["_law_script"]) λ_ _ _ _ _ _ us hl=>by obtain⟨a0,rfl⟩:=mH hl;rfl,z0D X G EE⟩
 obtain⟨oP,NM⟩:=aY Q2
 have UD:Em K "__init__" "Hand.__init__" (bR 13 0) ["self","name"] _ _:=⟨NM,NM.binds (ps:=["self","name"]) λ_ _ _ _ _ _ us hl=>by obtain⟨a0,a1,rfl⟩:=pB hl;rfl⟩
 obtain⟨sR,NN⟩:=aY Q3
 have UE:Em K "__init__" "All.__init__" (bR 15 0) ["self","parts"] _ _:=⟨NN,NN.binds (ps:=["self","parts"]) λ_ _ _ _ _ _ us hl=>by obtain⟨a0,a1,rfl⟩:=pB hl;rfl⟩
 obtain⟨sT,NO⟩:=aY Q4
 have UG:Em K "__init__" "Any.__init__" (bR 16 0) ["self","parts"] _ _:=⟨NO,NO.binds (ps:=["self","parts"]) λ_ _ _ _ _ _ us hl=>by obtain⟨a0,a1,rfl⟩:=pB hl;rfl⟩
 obtain⟨sU,NP⟩:=aY Q5
 have UH:Em K "__init__" "Some.__init__" (bR 17 0) ["self","many","parts"] _ _:=⟨NP,NP.binds (ps:=["self","many","parts"]) λ_ _ _ _ _ _ us hl=>by obtain⟨a0,a1,a2,rfl⟩:=yn hl;rfl⟩
 obtain⟨xE,JX⟩:=aY Q6
 have Q7:Em K "__init__" "Counting.__init__" (bR 14 0) ["self","wanted","parts"] _ _:=⟨JX,JX.binds (ps:=["self","wanted","parts"]) λ_ _ _ _ _ _ us hl=>by obtain⟨a0,a1,a2,rfl⟩:=yn hl;rfl⟩
 have B:Bl K mg:=⟨z0k X G mv,z0k X G CW,z0k X G JS,z0k X G mx,z0k X G JT,z0k X G CY,z0k X G JU,z0k X G zw,z0k X G JV,z0k X G zx,z0k X G JW,⟨_,z0D X G my⟩⟩
 let κ:Kl:=⟨λc=>match c with|0=>c_Hand|1=>c_All|2=>c_Any|3=>c_Some|_=>c_Reading,oN⟩
 have C:pD K mg κ r9 i7 gK gO gQ gU fT:=⟨rfl,λc hc=>match c,hc with|0,_=>⟨ud,ue,uf,ug⟩|1,_=>⟨zb,zc,zd,ze⟩|2,_=>⟨zf,zh,zi,zj⟩|3,_=>⟨uh,ui,uj,uk⟩|_+4,hc=>absurd hc (by omega),nG,λc h0 hc=>match c,h0,hc with|0,h0,_=>absurd h0 (by omega)|1,_,_=>lU|2,_,_=>lV|3,_,_=>ko|_+4,_,hc=>absurd hc (by omega),λc h0 hc=>match c,h0,hc with|0,h0,_=>absurd h0 (by omega)|1,_,_=>nH|2,_,_=>nI|3,_,_=>lX|_+4,_,hc=>absurd hc (by omega),⟨y6,fiH,fnH,y7⟩,⟨CJ,fiA,fnA,CK⟩,⟨CO,fiY,fnY,CP⟩,⟨zk,fiS,fnS,zm⟩,z0D X G CH,z0D X G JD,z0D X G JE,z0D X G CI,⟨⟨_,rdC,fcC⟩,gaC,hdC,JX.kp⟩,z0D X G pK,λc hc=>match c,hc with|0,_=>⟨⟨ud,ue,uf,ug⟩,y8,Q0,Q1,y9,za⟩|1,_=>⟨⟨zb,zc,zd,ze⟩,CL,Q0,Q1,CM,CN⟩|2,_=>⟨⟨zf,zh,zi,zj⟩,CQ,Q0,Q1,CS,CT⟩|3,_=>⟨⟨uh,ui,uj,uk⟩,zo,Q0,Q1,zp,zq⟩|_+4,hc=>absurd hc (by omega),z0D X G CG,⟨pL,pM,pN,pO⟩,jt,ju,lZ⟩
 obtain⟨Bi,JY⟩:=aY QD
 have Xm:=JY.binds (ps:=["self","roll","text"]) (λ_ _ _ _ _ _ us hl=>by obtain⟨a0,a1,a2,rfl⟩:=yn hl;rfl)
 have abh:Meth K (κ.adr 4) "__init__" yW:=⟨EC,ED,JY.kp⟩
 obtain⟨vI,JZ⟩:=aY QF
 have Xn:=JZ.binds (ps:=["self"]) (λ_ _ _ _ _ _ us hl=>by obtain⟨a0,rfl⟩:=mH hl;rfl)
 have Xo:Meth K (κ.adr 4) "take_word" vG:=⟨JF,JG,JZ.kp⟩
 obtain⟨rh,J0⟩:=aY QG
 have UI:=J0.binds (ps:=["self","sign"]) (λ_ _ _ _ _ _ us hl=>by obtain⟨a0,a1,rfl⟩:=pB hl;rfl)
 have UJ:Meth K (κ.adr 4) "comes" rY:=⟨JH,JI,J0.kp⟩
 obtain⟨vJ,J1⟩:=aY QH
 have Xp:=J1.binds (ps:=["self","sign"]) (λ_ _ _ _ _ _ us hl=>by obtain⟨a0,a1,rfl⟩:=pB hl;rfl)
 have Xq:Meth K (κ.adr 4) "take_sign" vH:=⟨JJ,JK,J1.kp⟩
 obtain⟨vL,J2⟩:=aY QJ
 have Xr:=J2.binds (ps:=["self","fewest"]) (λ_ _ _ _ _ _ us hl=>by obtain⟨a0,a1,rfl⟩:=pB hl;rfl)
 have Xs:Meth K (κ.adr 4) "take_parts" vK:=⟨JL,JM,J2.kp⟩
 obtain⟨oW,J3⟩:=aY QK
 have UK:=J3.binds (ps:=["self"]) (λ_ _ _ _ _ _ us hl=>by obtain⟨a0,rfl⟩:=mH hl;rfl)
 have UL:Meth K (κ.adr 4) "take_rule" rj:=⟨JN,JO,J3.kp⟩
 obtain⟨Bh,J4⟩:=aY QL
 have Xu:=J4.binds (ps:=["self"]) (λ_ _ _ _ _ _ us hl=>by obtain⟨a0,rfl⟩:=mH hl;rfl)
 have Xv:Meth K (κ.adr 4) "take_end" yV:=⟨JP,JQ,J4.kp⟩
 obtain⟨xF,J5⟩:=aY QN
 have Cp:=J5.binds (ps:=["text","word"]) (λ_ _ _ _ _ _ us hl=>by obtain⟨a0,a1,rfl⟩:=pB hl;rfl)
 have Xw:mg "shared_signs" =some (.ref yU):=z0D X G QM
 obtain⟨rk,J6⟩:=aY QP
 have Xx:=J6.binds (ps:=["opening","parts"]) (λ_ _ _ _ _ _ us hl=>by obtain⟨a0,a1,rfl⟩:=pB hl;rfl)
 have Xy:mg "counting_rule" =some (.ref tR):=z0D X G QO
 obtain⟨kU,NQ⟩:=aY QZ
 have UM:Em K "__init__" "NoRule.__init__" (bR 6 0) ["self","at"] _ _:=⟨NQ,NQ.binds (ps:=["self","at"]) λ_ _ _ _ _ _ us hl=>by obtain⟨a0,a1,rfl⟩:=pB hl;rfl⟩
 have Z:Zx K mg aS dj dk cO ai eN cz cP cQ jH:=⟨z0D X G nJ,z0D X G vM,z0D X G vN,z0D X G sk,z0D X G vO,z0D X G zu,z0D X G pR,z0D X G so,z0D X G sr,⟨Xi,QV,QW,⟨_,_,Vp,QX,QY⟩,Vq,Vr⟩,⟨Vq,Vr,Xj,Q0,Q1,Xk,Xl,by rw[Vp];rfl⟩,⟨Xf,by rw[Xg];rfl,Xh,b4_⟩,su,sv,pS,sx,vP,nK,pT,pU,kq,fiN,beq_iff_eq.mp fnN,kcN,⟨_,rdN,fcN⟩,gaN⟩
 have D:Ar w.params K mg "FEWEST_PARTS" mE:=⟨Mz,JC,UC,z0D X G QQ,QR,QT,QU⟩
 refine⟨κ,yK,λs v=>(by obtain⟨_,_,_,_,_,_,_,_,_,e,_⟩:=CZ.ex;rw[e];exact .of_eq rfl),λbase _ _=>?_⟩
 have yO:=Uw (P:=l.prog) (w:=w) (base:=base) B C UD
 have yP:=UD.b
 have FX:=Ux (P:=l.prog) (w:=w) (base:=base) B C Q7 UE
 have FY:=UE.b
 have FZ:=Uy (P:=l.prog) (w:=w) (base:=base) B C Q7 UG
 have F0:=UG.b
 have F9:=Uz (P:=l.prog) (w:=w) (base:=base) B C Q7 UH
 have Ga:=UH.b
 have j9:Meth K (κ.adr 0) "text" du:=⟨l8,kr,kG.kp⟩
 have lR:Meth K (κ.adr 1) "text" d9:=⟨nL,l6,mz.kp⟩
 have lT:Meth K (κ.adr 2) "text" eg:=⟨nN,l7,mB.kp⟩
 have ka:Meth K (κ.adr 3) "text" dv:=⟨mf,ku,kI.kp⟩
 have eO:Meth K (κ.adr 1) "text_of_parts" ay:=⟨gD,cg,cj.kp⟩
 have eP:Meth K (κ.adr 2) "text_of_parts" ay:=⟨gE,cg,cj.kp⟩
 have eE:Meth K (κ.adr 3) "text_of_parts" ay:=⟨fO,cg,cj.kp⟩
 have lK:ik l.prog w K mg base κ false "text" 49 _ fN:=Bk (P:=l.prog) (w:=w) (base:=base) B C gk gn aL fG fI j9 lR lT ka eO eP eE 24
 have aR:=vD (P:=l.prog) (w:=w) (base:=base) (κ:=κ) B aj
 have pG:=Bc (P:=l.prog) (w:=w) (base:=base) (κ:=κ) B gw
 have pH:=Bd (P:=l.prog) (w:=w) (base:=base) (κ:=κ) B gy
 have nu:=yN (P:=l.prog) (w:=w) (base:=base) (κ:=κ) B ff aj aR gw pG gy pH
 have pI:=Be (P:=l.prog) (w:=w) (base:=base) (κ:=κ) B gz ff nu aj aR
 have fM:=vE (P:=l.prog) (w:=w) (base:=base) (κ:=κ) B bW C FX FY FZ F0 F9 Ga
 have lL:=wz (P:=l.prog) (w:=w) (base:=base) (κ:=κ) B eh bW fM
 have lN:=Bf (P:=l.prog) (w:=w) (base:=base) (κ:=κ) B dJ C yO yP
 have nC:=yQ (P:=l.prog) (w:=w) (base:=base) (κ:=κ) B fg eh lL dJ lN aj aR bW fM
 have ib:=rX (P:=l.prog) (w:=w) (base:=base) (κ:=κ) B bS
 have kn:=vF (P:=l.prog) (w:=w) (base:=base) (κ:=κ) B dB
 have lO:=Bg (P:=l.prog) (w:=w) (base:=base) (κ:=κ) B dM dB kn
 have lQ:=wA (P:=l.prog) (w:=w) (base:=base) (κ:=κ) B eC aj aR bS ib dM lO
 have nA:=yR (P:=l.prog) (w:=w) (base:=base) (κ:=κ) B fj
 have nB:=yS (P:=l.prog) (w:=w) (base:=base) (κ:=κ) B fm fj nA
 have lP:=wB (P:=l.prog) (w:=w) (base:=base) B eD
 have nD:=yT (P:=l.prog) (w:=w) (base:=base) (κ:=κ) B fq fm nB eD lP
 have GN:=UB (P:=l.prog) (w:=w) (base:=base) Z UM
 have bN:=UM.b
 have Xz:=Ue (P:=l.prog) (w:=w) (base:=base) (κ:=κ) B.zip J5
 have UN:=Ug (P:=l.prog) (w:=w) (base:=base) (κ:=κ) C J0
 have XA:=Uh (P:=l.prog) (w:=w) (base:=base) (κ:=κ) B.max Z GN bN C JZ J5 Xw Cp Xz
 have XB:=Ui (P:=l.prog) (w:=w) (base:=base) (κ:=κ) Z GN bN C J1 UJ UI UN
 have XC:=Uk (P:=l.prog) (w:=w) (base:=base) (κ:=κ) C D J6 FX FY FZ F0 F9 Ga
 have XD:=Ul (P:=l.prog) (w:=w) (base:=base) (κ:=κ) B.len Z GN bN C J4
 have XE:=Jx (P:=l.prog) (w:=w) (base:=base) (κ:=κ) B.len B.g_MOST_PARTS Z GN bN C D J3 J2 yO yP Xo Xn XA J6 Xy Xx XC UJ UI UN Xq Xp XB UL UK Xs Xr 24
 have XF:=Up (P:=l.prog) (w:=w) (base:=base) (κ:=κ) B.list C D JY
 have CF:=Uq (P:=l.prog) (w:=w) (base:=base) (κ:=κ) C rZ.F ⟨pP,EC,ED,pQ⟩ (z0D X G sd) Xm XF UL UK XE Xv Xu XD
 have pJ:=Bj (P:=l.prog) (w:=w) (base:=base) (κ:=κ) B gB Z rZ CF
 have nE:=yX (P:=l.prog) (w:=w) (base:=base) (κ:=κ) B fv
 have nF:=yY (P:=l.prog) (w:=w) (base:=base) B fw Z
 have UO:=QB (P:=l.prog) (w:=w) (base:=base) (κ:=κ) B JA Z C lK gz pI fg nC eC lQ fq nD gB pJ fv nE aj aR fw nF
 exact UO
end
def Bz(x:Str):Prop:=Lw x/\1<=x.length/\x.length<=50/\uG (.str x) kept=false
theorem um{i:Nat}{body:bE}{x:PV}{xs:List PV}{ρ ρ':dO}(h:body (ρ.set i (.sh x))=some (.nx ρ')):forL (dF i) body (x::xs) ρ=forL (dF i) body xs ρ':=by
 rw[En]
 show(body (ρ.set i (.sh x))).bind _=_
 rw[h]
 rfl
theorem Gb(x:Str)(n:Nat)(h:x.length<=n):(bK x none (some (n:Int)) 1).length=x.length:=by
 have e:Builtin.Str.strSliceIndices none (some (n:Int)) 1 x.length=(List.range x.length).map (0+·):=by
  have:=z0s 0 x.length
  rw[z1i]at this
  rw[<-this]
  unfold Builtin.Str.strSliceIndices
  simp only
  congr 1
  rw[if_pos (by decide),if_neg (by omega)]
  omega
 unfold bK
 rw[e]
 rw[if_pos (by rw[X6,z0u];simp)]
theorem Gd(s0 s1:Slot){m:Int}(h0:0<=m)(h1:m<2147483647){x:Str}(hx:x.length<=100)(k:Nat):∃m' x',0<=m'/\m'<2147483647/\x'.length=x.length+1/\(Lw x->Lw x')/\lI [s0,s1,.sh (.int m),.sh (.str x),.sh (.int k)]=some (.nx [s0,s1,.sh (.int m'),.sh (.str x'),.sh (.int k)]):=by
 have e1:ae cJ (ae aW (ae aW (ae aW (ae rR (dV 2) (dV 2)) (ae rR (dC (.int 48271)) (dV 2))) (dV 4)) (dC (.int 1))) (dC (.int 2147483647)) [s0,s1,.sh (.int m),.sh (.str x),.sh (.int k)]=some (.int ((m*m+48271*m+k+1) % 2147483647)):=by
  refine(af (x:=.int (m*m+48271*m+k+1)) (y:=.int 2147483647) ?_ rfl).trans (nh _ (by decide))
  refine(af (x:=.int (m*m+48271*m+k)) (y:=.int 1) ?_ rfl).trans rfl
  refine(af (x:=.int (m*m+48271*m)) (y:=.int k) ?_ rfl).trans rfl
  refine(af ((af (x:=.int m) (y:=.int m) rfl rfl).trans (jL (by omega) (by omega))) ((af (x:=.int 48271) (y:=.int m) rfl rfl).trans (jL (by omega) (by omega)))).trans rfl
 have b1:=z1N (m*m+48271*m+k+1) (show(2147483647:Int)≠0 by decide)
 have b2:=z00 (m*m+48271*m+k+1) (show(0:Int)<2147483647 by decide)
 generalize(m*m+48271*m+k+1) % 2147483647=m' at e1 b1 b2
 have b3:=mod_lt m' (n:=26) (by decide)
 have ey:=xD b3
 refine⟨m',x++lH ((m' %((26:Nat):Int)).toNat),b1,b2,by rw[cI];rfl,λh=>yG h (Ey b3),(av (aP e1)).trans (aP ?_)⟩
 refine(af (x:=.str x) (y:=.str (lH ((m' %((26:Nat):Int)).toNat))) rfl ?_).trans (bC _ _ (by show x.length+1<=_;omega))
 exact(af (x:=.str oH) rfl ((af (x:=.int m') (y:=.int ((26:Nat):Int)) rfl rfl).trans (cw _ (by decide)))).trans ey
theorem Bm(s0 s1:Slot):∀(ks:List Nat) (m:Int) (x:Str) (s4:Slot),0<=m->m<2147483647->x.length+ks.length<=100->
  ∃m' x' t4,x'.length=x.length+ks.length/\(Lw x->Lw x')/\forL (dF 4) lI (pl ks) [s0,s1,.sh (.int m),.sh (.str x),s4]=some (.nx [s0,s1,.sh (.int m'),.sh (.str x'),t4])
 |[],m,x,s4,_,_,_=>⟨m,x,s4,rfl,id,rfl⟩
 |k::ks,m,x,s4,h0,h1,h2=>by
  rw[Wk]at h2
  obtain⟨m1,x1,a1,a2,a3,a5,a4⟩:=Gd s0 s1 h0 h1 (x:=x) (by omega) k
  obtain⟨m2,x2,t4,b1,b3,b2⟩:=Bm s0 s1 ks m1 x1 (.sh (.int k)) a1 a2 (by omega)
  refine⟨m2,x2,t4,by rw[b1,a3,Wk];omega,λh=>b3 (a5 h),Eq.trans ?_ b2⟩
  exact um (i:=4) (x:=.int k) (xs:=pl ks) (ρ:=[s0,s1,.sh (.int m),.sh (.str x),s4]) a4
theorem MB(c:Int):∃x:Str,x.length=20/\Lw x/\F_law_base [.int c,.int 20]=some (.str x):=by
 have b1:=z1N c (show(2147483647:Int)≠0 by decide)
 have b2:=z00 c (show(0:Int)<2147483647 by decide)
 have e1:ae cJ (ae aW (ae rR (ae cJ (dV 0) (dC (.int 2147483647))) (dC (.int 16807))) (dC (.int 11))) (dC (.int 2147483647)) [.sh (.int c),.sh (.int 20),.un,.un,.un]=some (.int ((c % 2147483647*16807+11) % 2147483647)):=by
  refine(af (x:=.int (c % 2147483647*16807+11)) (y:=.int 2147483647) ?_ rfl).trans (nh _ (by decide))
  refine(af (x:=.int (c % 2147483647*16807)) (y:=.int 11) ?_ rfl).trans rfl
  exact(af (x:=.int (c % 2147483647)) (y:=.int 16807) ((af (x:=.int c) (y:=.int 2147483647) rfl rfl).trans (nh _ (by decide))) rfl).trans (jL (by omega) (by omega))
 have b3:=z1N (c % 2147483647*16807+11) (show(2147483647:Int)≠0 by decide)
 have b4:=z00 (c % 2147483647*16807+11) (show(0:Int)<2147483647 by decide)
 generalize(c % 2147483647*16807+11) % 2147483647=m at e1 b3 b4
 obtain⟨m',x',t4,h1,h3,h2⟩:=Bm (.sh (.int c)) (.sh (.int 20)) (List.range 20) m "" .un b3 b4 (by decide)
 refine⟨x',by rw[h1];decide,h3 (Jt (by decide+kernel)),d0 rfl ?_⟩
 refine(av (aP e1)).trans ((av (aP (p:=.str "") rfl)).trans ?_)
 exact(av ((qN (vm (n:=20) rfl (by decide))).trans h2)).trans rfl
theorem MC{b:Str}{place size:Nat}(h1:place<b.length)(h2:b.length<=100):∃F:Int,∀k:Nat,k<=1000->cF [.str b,.int place,.int size,.int k]=some (.str ((bK b none (some (place:Int)) 1++lH ((F+3*(k:Int)) %((26:Nat):Int)).toNat)++bK b (some ((place+1:Nat):Int)) (some (size:Int)) 1)):=by
 obtain⟨c,hc,ec⟩:=Qa (x:=b) (i:=place) h1 (by omega)
 refine⟨Txt.find oH c,λk h3=>?_⟩
 have b3:=mod_lt (Txt.find oH c+3*(k:Int)) (n:=26) (by decide)
 have ey:=xD b3
 have c1:=js b none (some (place:Int)) (st:=1) (by decide)
 have c2:=js b (some ((place+1:Nat):Int)) (some (size:Int)) (st:=1) (by decide)
 refine d0 rfl ?_
 refine(av (aP (p:=.str oH) rfl)).trans ((av (aP (p:=.str (lH ((Txt.find oH c+3*(k:Int)) %((26:Nat):Int)).toNat)) ?_)).trans (dr ?_))
 ·refine(af (x:=.str oH) rfl ((af (x:=.int (Txt.find oH c+3*(k:Int))) (y:=.int ((26:Nat):Int)) ?_ rfl).trans (cw _ (by decide)))).trans ey
  refine(af (x:=.int (Txt.find oH c)) (y:=.int (3*(k:Int))) ?_ ((af (x:=.int 3) (y:=.int k) rfl rfl).trans (jL (by decide) (by decide)))).trans rfl
  exact(af (x:=.str oH) rfl ((af (x:=.str b) (y:=.int place) rfl rfl).trans ec)).trans rfl
 ·have hj:∀j,(lH j).length=1:=λ_=>rfl
  have hj:=hj ((Txt.find oH c+3*(k:Int)) %((26:Nat):Int)).toNat
  refine(af ((af (y:=.str (lH ((Txt.find oH c+3*(k:Int)) %((26:Nat):Int)).toNat)) (cV (y:=b) rfl rfl rfl (by omega)) rfl).trans (bC _ _ (by omega))) (cV (y:=b) (l:=some ((place+1:Nat):Int)) rfl rfl rfl (by omega))).trans (bC _ _ (by rw[cI];omega))
def vQ:List PV:=[.str "",.str "",.str "all",.str "",.str "any",.str "",.str "of",.str "al"]
theorem Gf:((List.range 8).all λi=>match itemAt vQ (i:Int)with|some (.str w)=>decide (w.length<=3)&&Xe w|_=>false)=true:=by decide+kernel
theorem J7{i:Nat}(h:i<8):∃w:Str,w.length<=3/\Lw w/\ie (.lst vQ) (.int i)=some (.str w):=by
 have:=z0M.mp Gf i (z0l.mpr h)
 show∃w:Str,w.length<=3/\Lw w/\itemAt vQ (i:Int)=some (.str w)
 split at this
 ·rename_i w e
  rw[z0F]at this
  exact⟨w,of_decide_eq_true this.1,Jt this.2,e⟩
 ·cases this
def y2(cell:Int)(b:Str)(place size:Nat)(F:Int)(k:Nat):Str:=if decide (cell/20 % 4=1)=true then bK b none (some ((k+1:Nat):Int)) 1 else(bK b none (some (place:Int)) 1++lH ((F+3*(k:Int)) %((26:Nat):Int)).toNat)++bK b (some ((place+1:Nat):Int)) (some (size:Int)) 1
theorem NS{cell:Int}{b:Str}{place size:Nat}{F:Int}(hb:b.length=20)(ab:Lw b)(k:Nat):Lw (y2 cell b place size F k)/\1<=(y2 cell b place size F k).length/\(y2 cell b place size F k).length<=50:=by
 have c1:=js b none (some (place:Int)) (st:=1) (by decide)
 have c2:=js b (some ((place+1:Nat):Int)) (some (size:Int)) (st:=1) (by decide)
 have c3:=js b none (some ((k+1:Nat):Int)) (st:=1) (by decide)
 unfold y2
 split
 ·refine⟨yH ab _ _ _,?_,by omega⟩
  by_cases hk2:k+1<=b.length
  ·rw[yz b (k+1) hk2];omega
  ·rw[Gb b (k+1) (by omega)];omega
 ·have hj:(lH ((F+3*(k:Int)) %((26:Nat):Int)).toNat).length=1:=rfl
  exact⟨yG (yG (yH ab _ _ _) (Ey (mod_lt _ (by decide)))) (yH ab _ _ _),by rw[cI,cI,hj];omega,by rw[cI,cI,hj];omega⟩
theorem UP{cell:Int}{b:Str}{place size:Nat}{F:Int}(hb:b.length=20){j k:Nat}(hj:j<6)(hk:k<6)(h:j≠k):fin (y2 cell b place size F j)≠fin (y2 cell b place size F k):=by
 unfold y2
 cases decide (cell/20 % 4=1)with
 |true=>
  rw[if_pos rfl,if_pos rfl]
  intro e
  have:=congrArg Str.length e
  rw[uc,uc,yz b (j+1) (by omega),yz b (k+1) (by omega)]at this
  omega
 |false=>
  rw[if_neg Bool.noConfusion,if_neg Bool.noConfusion]
  exact Qv (Mu _ _ (by omega))
theorem J8:(Qs.all λx=>!decide (bK x none none (-1)∈Qs))=true:=by decide+kernel
theorem J9(y:Str):uG (.str (fin y)) kept=false:=by
 unfold fin
 by_cases h:uG (.str y) kept=true
 ·rw[if_pos h,nk]
  rw[nk]at h
  have:=z0M.mp J8 y (of_decide_eq_true h)
  simpa using this
 ·rw[if_neg h]
  simpa using h
section
variable{F_law_cell_at cF F_law_base:List PV->Option PV}(hC:∀(ns:List Int) (k:Nat),F_law_cell_at [jr ns,.int k]=some (.int (ns.getD k 0)))
 (hB:∀c:Int,∃x:Str,x.length=20/\Lw x/\F_law_base [.int c,.int 20]=some (.str x))
theorem C0(s0 s1 s2 s5 s6:Slot)(cell:Int){s:Nat}(Vs:0<s){b:Str}(hb:b.length=20)(ab:Lw b){F:Int}(acc:List Str)(Fn:acc.length<=1000)(k:Nat)(BA:Slot)
  (e1:cF [.str b,.int ((cell/80 %(s:Int)).toNat:Nat),.int s,.int k]=some (.str ((bK b none (some ((cell/80 %(s:Int)).toNat:Int)) 1++lH ((F+3*(k:Int)) %((26:Nat):Int)).toNat)++bK b (some (((cell/80 %(s:Int)).toNat+1:Nat):Int)) (some (s:Int)) 1))):
  ki F_law_cell_at cF F_law_base [s0,s1,s2,.sh (.int cell),.sh (.int s),s5,s6,.sh (.str b),.ow (acc.map PV.str),.sh (.int k),BA]=some (.nx [s0,s1,s2,.sh (.int cell),.sh (.int s),s5,s6,.sh (.str b),.ow ((acc++[fin (y2 cell b (cell/80 %(s:Int)).toNat s F k)]).map PV.str),.sh (.int k),.sh (.str (fin (y2 cell b (cell/80 %(s:Int)).toNat s F k)))]):=by
 have zl:(5000:Nat)<=sizeLine:=by decide
 obtain⟨_,_,l2⟩:=NS (cell:=cell) (place:=(cell/80 %(s:Int)).toNat) (size:=s) (F:=F) hb ab k
 have GR:(lu (tV (ae gM (ae cJ (ae jZ (dV 3) (dC (.int 20))) (dC (.int 4))) (dC (.int 1)))) (b9 10 (eX (dV 7) cD (aX (ae aW (dV 9) (dC (.int 1)))))) dP) [s0,s1,s2,.sh (.int cell),.sh (.int s),s5,s6,.sh (.str b),.ow (acc.map PV.str),.sh (.int k),.sh (.str ((bK b none (some ((cell/80 %(s:Int)).toNat:Int)) 1++lH ((F+3*(k:Int)) %((26:Nat):Int)).toNat)++bK b (some (((cell/80 %(s:Int)).toNat+1:Nat):Int)) (some (s:Int)) 1))]=some (.nx [s0,s1,s2,.sh (.int cell),.sh (.int s),s5,s6,.sh (.str b),.ow (acc.map PV.str),.sh (.int k),.sh (.str (y2 cell b (cell/80 %(s:Int)).toNat s F k))]):=by
  unfold y2
  generalize((bK b none (some ((cell/80 %(s:Int)).toNat:Int)) 1++lH ((F+3*(k:Int)) %((26:Nat):Int)).toNat)++bK b (some (((cell/80 %(s:Int)).toNat+1:Nat):Int)) (some (s:Int)) 1)=y1
  have t:tV (ae gM (ae cJ (ae jZ (dV 3) (dC (.int 20))) (dC (.int 4))) (dC (.int 1))) [s0,s1,s2,.sh (.int cell),.sh (.int s),s5,s6,.sh (.str b),.ow (acc.map PV.str),.sh (.int k),.sh (.str y1)]=some (decide (cell/20 % 4=1)):=cq rfl
  cases hd:decide (cell/20 % 4=1)
  ·rw[hd]at t
   exact(iD t).trans rfl
  ·rw[hd]at t
   refine(iV t).trans (aP ?_)
   exact cV (y:=b) (h:=some ((k+1:Nat):Int)) rfl rfl rfl (by omega)
 generalize y2 cell b (cell/80 %(s:Int)).toNat s F k=y at GR l2
 have Ol:(lu (tV (ae SY (dV 10) (jO (ah (dC (.str "all")) (ah (dC (.str "any")) (ah (dC (.str "of")) aO)))))) (b9 10 (bU Pg (dV 10))) dP) [s0,s1,s2,.sh (.int cell),.sh (.int s),s5,s6,.sh (.str b),.ow (acc.map PV.str),.sh (.int k),.sh (.str y)]=some (.nx [s0,s1,s2,.sh (.int cell),.sh (.int s),s5,s6,.sh (.str b),.ow (acc.map PV.str),.sh (.int k),.sh (.str (fin y))]):=by
  have tt:jO (ah (dC (.str "all")) (ah (dC (.str "any")) (ah (dC (.str "of")) aO))) [s0,s1,s2,.sh (.int cell),.sh (.int s),s5,s6,.sh (.str b),.ow (acc.map PV.str),.sh (.int k),.sh (.str y)]=some (.tup kept):=by
   show(if(3:Nat)<=sizeLine then some (PV.tup kept)else none)=_
   rw[if_pos (by omega)]
  have t:tV (ae SY (dV 10) (jO (ah (dC (.str "all")) (ah (dC (.str "any")) (ah (dC (.str "of")) aO))))) [s0,s1,s2,.sh (.int cell),.sh (.int s),s5,s6,.sh (.str b),.ow (acc.map PV.str),.sh (.int k),.sh (.str y)]=some (uG (.str y) kept):=cq ((af (x:=.str y) rfl tt).trans rfl)
  unfold fin
  cases hd:uG (.str y) kept
  ·rw[hd]at t
   exact(iD t).trans rfl
  ·rw[hd]at t
   refine(iV t).trans (aP ?_)
   show(if y.length<=sizeLine then some (PV.str (bK y none none (-1)))else none)=_
   rw[if_pos (by omega)]
   rfl
 refine(av (aP ((bu (aA (x:=.str b) rfl (aA ((af (x:=.int (cell/80)) (y:=.int s) rfl rfl).trans (cw _ Vs)) (aA (x:=.int s) rfl (aA (x:=.int k) rfl rfl))))).trans e1))).trans ?_
 refine(av GR).trans ((av Ol).trans ?_)
 show((if(acc.map PV.str).length<sizeLine then some (acc.map PV.str++[PV.str (fin y)])else none).map λl'=>Fl.nx [s0,s1,s2,.sh (.int cell),.sh (.int s),s5,s6,.sh (.str b),.ow l',.sh (.int k),.sh (.str (fin y))])=_
 rw[if_pos (by rw[X6];omega),z0b]
 rfl
theorem xG(s0 s1 s2 s5 s6:Slot)(cell:Int){s:Nat}(Vs:0<s){b:Str}(hb:b.length=20)(ab:Lw b){F:Int}
  (e1:∀k:Nat,k<=1000->cF [.str b,.int ((cell/80 %(s:Int)).toNat:Nat),.int s,.int k]=some (.str ((bK b none (some ((cell/80 %(s:Int)).toNat:Int)) 1++lH ((F+3*(k:Int)) %((26:Nat):Int)).toNat)++bK b (some (((cell/80 %(s:Int)).toNat+1:Nat):Int)) (some (s:Int)) 1))):
  ∀(ks:List Nat) (acc:List Str) (s9 BA:Slot),(∀k∈ks,k<=1000)->acc.length+ks.length<=1000->
  ∃(t9 T7:Slot),forL (dF 9) (ki F_law_cell_at cF F_law_base) (pl ks) [s0,s1,s2,.sh (.int cell),.sh (.int s),s5,s6,.sh (.str b),.ow (acc.map PV.str),s9,BA]=some (.nx [s0,s1,s2,.sh (.int cell),.sh (.int s),s5,s6,.sh (.str b),.ow ((acc++ks.map λk=>fin (y2 cell b (cell/80 %(s:Int)).toNat s F k)).map PV.str),t9,T7])
 |[],acc,s9,BA,_,_=>⟨s9,BA,by rw[z1t,z0Y];rfl⟩
 |k::ks,acc,s9,BA,h1,h2=>by
  rw[Wk]at h2
  have e:=C0 (F_law_cell_at:=F_law_cell_at) (F_law_base:=F_law_base) s0 s1 s2 s5 s6 cell Vs hb ab acc (by omega) k BA (e1 k (h1 k (RF ..)))
  obtain⟨t9,T7,q3⟩:=xG s0 s1 s2 s5 s6 cell Vs hb ab e1 ks (acc++[fin (y2 cell b (cell/80 %(s:Int)).toNat s F k)]) (.sh (.int k)) (.sh (.str (fin (y2 cell b (cell/80 %(s:Int)).toNat s F k)))) (λx hx=>h1 x (X5 _ hx)) (by rw[z0E,z0p];omega)
  rw[z08,List.singleton_append]at q3
  refine⟨t9,T7,Eq.trans ?_ q3⟩
  exact um (i:=9) (x:=.int k) (xs:=pl ks) (ρ:=[s0,s1,s2,.sh (.int cell),.sh (.int s),s5,s6,.sh (.str b),.ow (acc.map PV.str),s9,BA]) e
include hC hB in
theorem Gg(hN:∀{b:Str} {place size:Nat},place<b.length->b.length<=100->∃F:Int,∀k:Nat,k<=1000->cF [.str b,.int place,.int size,.int k]=some (.str ((bK b none (some (place:Int)) 1++lH ((F+3*(k:Int)) %((26:Nat):Int)).toNat)++bK b (some ((place+1:Nat):Int)) (some (size:Int)) 1)))
  (ns:List Int)(a many:Nat)(hm:many<=6):∃f:Nat->Str,(∀k,Bz (f k))/\(∀j k,j<6->k<6->j≠k->f j≠f k)/\fn true 11 3 (sP F_law_cell_at cF F_law_base) [jr ns,.int a,.int many]=some (.lst (((List.range many).map f).map PV.str)):=by
 have zl:(5000:Nat)<=sizeLine:=by decide
 have hs:=mod_lt (ns.getD a 0) (n:=20) (by decide)
 have hw:=mod_lt (ns.getD (a+1) 0) (n:=8) (by decide)
 obtain⟨w,lw,aw,ew⟩:=J7 hw
 obtain⟨x,lx,ax,ex⟩:=hB (ns.getD (a+1) 0/8)
 have lb:(bK (w++x) none (some ((20:Nat):Int)) 1).length=20:=yz (w++x) 20 (by rw[cI];omega)
 have ab:Lw (bK (w++x) none (some ((20:Nat):Int)) 1):=yH (yG aw ax) _ _ _
 generalize eb:bK (w++x) none (some ((20:Nat):Int)) 1=b at lb ab
 have hp:=mod_lt (ns.getD a 0/80) (n:=1+(ns.getD a 0 %((20:Nat):Int)).toNat) (by omega)
 obtain⟨F,hF⟩:=hN (b:=b) (place:=(ns.getD a 0/80 %((1+(ns.getD a 0 %((20:Nat):Int)).toNat:Nat):Int)).toNat) (size:=1+(ns.getD a 0 %((20:Nat):Int)).toNat) (by omega) (by omega)
 obtain⟨t9,T7,q3⟩:=xG (F_law_cell_at:=F_law_cell_at) (F_law_base:=F_law_base) (.sh (jr ns)) (.sh (.int a)) (.sh (.int many)) (.sh (.int (ns.getD (a+1) 0))) (.sh (.str w)) (ns.getD a 0) (s:=1+(ns.getD a 0 %((20:Nat):Int)).toNat) (by omega) lb ab hF (List.range many) [] .un .un (λk hk=>by have:=z0l.mp hk;omega) (by rw[z0u];simp;omega)
 rw[List.nil_append]at q3
 refine⟨λk=>fin (y2 (ns.getD a 0) b (ns.getD a 0/80 %((1+(ns.getD a 0 %((20:Nat):Int)).toNat:Nat):Int)).toNat (1+(ns.getD a 0 %((20:Nat):Int)).toNat) F k),λk=>?_,λj k hj hk h=>UP lb hj hk h,d0 rfl ?_⟩
 ·obtain⟨o1,o2,o3⟩:=NS (cell:=ns.getD a 0) (place:=(ns.getD a 0/80 %((1+(ns.getD a 0 %((20:Nat):Int)).toNat:Nat):Int)).toNat) (size:=1+(ns.getD a 0 %((20:Nat):Int)).toNat) (F:=F) lb ab k
  exact⟨Qu o1,by rw[uc];exact o2,by rw[uc];exact o3,J9 _⟩
 refine(av (aP ((bu (ps:=[jr ns,.int a]) rfl).trans (hC ns a)))).trans ?_
 refine(av (aP (p:=.int ((1+(ns.getD a 0 %((20:Nat):Int)).toNat:Nat):Int)) ((af (x:=.int ((1:Nat):Int)) rfl ((af (x:=.int (ns.getD a 0)) (y:=.int ((20:Nat):Int)) rfl rfl).trans (cw _ (by decide)))).trans rfl))).trans ?_
 refine(av (aP ((bu (ps:=[jr ns,.int ((a+1:Nat):Int)]) rfl).trans (hC ns (a+1))))).trans ?_
 generalize ns.getD (a+1) 0=more at*
 generalize ns.getD a 0=cell at*
 have ew':ae ie (oF (ah (dC (.str "")) (ah (dC (.str "")) (ah (dC (.str "all")) (ah (dC (.str "")) (ah (dC (.str "any")) (ah (dC (.str "")) (ah (dC (.str "of")) (ah (dC (.str "al")) aO))))))))) (ae cJ (dV 5) (dC (.int 8))) [.sh (jr ns),.sh (.int a),.sh (.int many),.sh (.int cell),.sh (.int ((1+(cell %((20:Nat):Int)).toNat:Nat):Int)),.sh (.int more),.un,.un,.un,.un,.un]=some (.str w):=by
  refine(af (x:=.lst vQ) ?_ ((af (x:=.int more) (y:=.int ((8:Nat):Int)) rfl rfl).trans (cw _ (by decide)))).trans ew
  show(if(8:Nat)<=sizeLine then some (PV.lst vQ)else none)=_
  rw[if_pos (by omega)]
 refine(av (aP ew')).trans ?_
 refine(av (aP (p:=.str b) ?_)).trans ?_
 ·rw[<-eb]
  refine cV (h:=some ((20:Nat):Int)) ((af (x:=.str w) (y:=.str x) rfl ?_).trans (bC _ _ (by omega))) rfl rfl (by rw[cI];omega)
  exact(bu (ps:=[.int (more/8),.int 20]) rfl).trans ex
 refine(av (m9 (l:=[]) rfl)).trans ?_
 exact(av ((qN (vm (n:=many) rfl (by omega))).trans q3)).trans rfl
end
theorem Ka(ns:List Int)(a many:Nat)(hm:many<=6):∃f:Nat->Str,(∀k,Bz (f k))/\(∀j k,j<6->k<6->j≠k->f j≠f k)/\iE [jr ns,.int a,.int many]=some (.lst (((List.range many).map f).map PV.str)):=Gg jD MB MC ns a many hm
abbrev Bn:Str:= ", "
abbrev oA:Str:= ")"
def Jn(its:List It):Str:=Txt.join Bn (its.map It.t)
theorem C1(its:List It):((its.map It.t).map λt=>t.length+Bn.length).sum=wt its:=by
 unfold wt
 rw[z1I]
 rfl
theorem EG(its:List It):(Jn its).length<=wt its:=by
 have:=join_le Bn (its.map It.t)
 rw[C1]at this
 exact this
structure Vt(names:List Str)(Ok:It->Prop):Prop where
 hand:∀x∈names,Ok ⟨.ins 0 [.str x],.tup [.str "hand",.str x],x,0⟩
 all:∀(its:List It) (n:Nat),its≠[]->its.length<=8->wt its<=50000->(∀i∈its,Ok i/\i.d<=n)->Ok ⟨.ins 1 [.int (its.length:Nat),.tup (its.map It.o)],.tup [.str "all",.tup (its.map It.s)],("all(" :Str)++(Jn its++oA),1+n⟩
 any:∀(its:List It) (n:Nat),its≠[]->its.length<=8->wt its<=50000->(∀i∈its,Ok i/\i.d<=n)->Ok ⟨.ins 2 [.int 1,.tup (its.map It.o)],.tup [.str "any",.tup (its.map It.s)],("any(" :Str)++(Jn its++oA),1+n⟩
 some:∀(its:List It) (n m:Nat),its≠[]->its.length<=8->wt its<=50000->(∀i∈its,Ok i/\i.d<=n)->1<=m->m<=its.length->Ok ⟨.ins 3 [.int (m:Nat),.tup (its.map It.o)],.tup [.str "some",.int (m:Nat),.tup (its.map It.s)],((toString (m:Int):Str)++(" of (" :Str))++(Jn its++oA),1+n⟩
theorem MD:((List.range 9).all λm=>decide ((toString (m:Int):Str).length<=1))=true:=by decide+kernel
theorem Kb{m:Nat}(h:m<=8):(toString (m:Int):Str).length<=1:=of_decide_eq_true (z0M.mp MD m (z0l.mpr (by omega)))
theorem Bo(i:It)(s:List Slot)(k:Nat)(p:PV)(h:[i.o,i.s,.str i.t,.int (i.d:Nat)][k]?=some p):ae ie (dV 0) (dC (.int (k:Nat))) (.sh i.p::s)=some p:=by
 have hk:k<4:=(z0C.mp h).1
 show itemAt [i.o,i.s,.str i.t,.int (i.d:Nat)] (k:Int)=some p
 unfold itemAt Le
 rw[if_pos (by omega),if_pos (by show(k:Int)<((4:Nat):Int);omega)]
 show[i.o,i.s,.str i.t,.int (i.d:Nat)][(k:Int).toNat]?=_
 rw[z0j]
 exact h
theorem vR{names:List Str}{Ok:It->Prop}(B:Vt names Ok){kind m:Nat}(hk:kind<3){its:List It}(h0:its≠[])(h8:its.length<=8)(hw:wt its<=50000)(WW:1<=m)(HF:m<=its.length)(ho:∀i∈its,Ok i):
  ∃r:It,Ok r/\(∃i∈its,r.d=1+i.d)/\r.t.length+2<=wt its+10/\aD [.int kind,.int m,.lst (its.map It.p)]=some r.p:=by
 have zl:(100000:Nat)<=sizeLine:=by decide
 obtain⟨M,eM,XG,Y2⟩:=vp (its.map It.d) (by simpa using h0)
 obtain⟨iM,hiM,eiM⟩:=z0R.mp Y2
 have hn:∀i∈its,Ok i/\i.d<=M:=λi hi=>⟨ho i hi,XG _ (z0R.mpr ⟨i,hi,rfl⟩)⟩
 have lJ:=EG its
 have l1:=Kb (m:=m) (by omega)
 have c0:∀s3 s4 s5 s6 s7,eI (nList (dV 2)) eY (ae ie (dV 0) (dC (.int 0))) [.sh (.int kind),.sh (.int m),.sh (.lst (its.map It.p)),s3,s4,s5,s6,s7]=some (.lst (its.map It.o)):=λs3 s4 s5 s6 s7=>jg It.p It.o rfl (by omega) λi _=>Bo i _ 0 _ rfl
 have c1:∀s3 s4 s5 s6 s7,eI (nList (dV 2)) eY (ae ie (dV 0) (dC (.int 1))) [.sh (.int kind),.sh (.int m),.sh (.lst (its.map It.p)),s3,s4,s5,s6,s7]=some (.lst (its.map It.s)):=λs3 s4 s5 s6 s7=>jg It.p It.s rfl (by omega) λi _=>Bo i _ 1 _ rfl
 have c2:∀s3 s4 s5 s6 s7,eI (nList (dV 2)) eY (ae ie (dV 0) (dC (.int 2))) [.sh (.int kind),.sh (.int m),.sh (.lst (its.map It.p)),s3,s4,s5,s6,s7]=some (.lst (its.map λi=>.str i.t)):=λs3 s4 s5 s6 s7=>jg It.p (λi=>.str i.t) rfl (by omega) λi _=>Bo i _ 2 _ rfl
 have c3:∀s3 s4 s5 s6 s7,eI (nList (dV 2)) eY (ae ie (dV 0) (dC (.int 3))) [.sh (.int kind),.sh (.int m),.sh (.lst (its.map It.p)),s3,s4,s5,s6,s7]=some (.lst (its.map λi=>.int (i.d:Nat))):=λs3 s4 s5 s6 s7=>jg It.p (λi=>.int (i.d:Nat)) rfl (by omega) λi _=>Bo i _ 3 _ rfl
 have hJ:Af (.str Bn) (.lst (its.map λi=>.str i.t))=some (.str (Jn its)):=by
  have:=xA Bn (its.map It.t) (by rw[C1];omega)
  rw[z1I]at this
  exact this
 have XH:oK (.lst (its.map λi=>.int (i.d:Nat)))=some (.int (M:Nat)):=by
  have e:vh (its.map It.d)=.lst (its.map λi=>.int (i.d:Nat)):=by
   unfold vh
   rw[z1I]
   rfl
  rw[<-e]
  exact eM
 have fin:∀(r:It),Ok r->r.d=1+M->r.t.length+2<=wt its+10->(lu (tV (ae gM (dV 0) (dC (.int 0)))) (b9 7 (jO (ah (bU Ai (dV 3)) (ah (jO (ah (dC (.str "all")) (ah (bZ 4) aO))) (ah (ae aW (dC (.str "all(")) (dV 5)) (ah (bZ 6) aO)))))) (lu (tV (ae gM (dV 0) (dC (.int 1)))) (b9 7 (jO (ah (bU Aj (dV 3)) (ah (jO (ah (dC (.str "any")) (ah (bZ 4) aO))) (ah (ae aW (dC (.str "any(")) (dV 5)) (ah (bZ 6) aO)))))) (b9 7 (jO (ah (ae pq (dV 1) (dV 3)) (ah (jO (ah (dC (.str "some")) (ah (bZ 1) (ah (bZ 4) aO)))) (ah (ae aW (ae aW (bU Fd (dV 1)) (dC (.str " of ("))) (dV 5)) (ah (bZ 6) aO))))))))
   [.sh (.int kind),.sh (.int m),.sh (.lst (its.map It.p)),.ow (its.map It.o),.sh (.tup (its.map It.s)),.sh (.str (Jn its++oA)),.sh (.int ((1+M:Nat):Int)),.un]=some (.nx [.sh (.int kind),.sh (.int m),.sh (.lst (its.map It.p)),.ow (its.map It.o),.sh (.tup (its.map It.s)),.sh (.str (Jn its++oA)),.sh (.int ((1+M:Nat):Int)),.sh r.p])->
   ∃r:It,Ok r/\(∃i∈its,r.d=1+i.d)/\r.t.length+2<=wt its+10/\aD [.int kind,.int m,.lst (its.map It.p)]=some r.p:=λr h1 h2 h3 h4=>by
  refine⟨r,h1,⟨iM,hiM,by rw[h2,eiM]⟩,h3,d0 rfl ?_⟩
  refine(av (m9 (c0 _ _ _ _ _))).trans ?_
  refine(av (aP (p:=.tup (its.map It.s)) ((cK (c1 _ _ _ _ _)).trans rfl))).trans ?_
  refine(av (aP (p:=.str (Jn its++oA)) ((af (y:=.str oA) ((af (x:=.str Bn) rfl (c2 _ _ _ _ _)).trans hJ) rfl).trans (bC _ _ (by have:oA.length=1:=rfl;omega))))).trans ?_
  refine(av (aP (p:=.int ((1+M:Nat):Int)) ((af (x:=.int ((1:Nat):Int)) rfl ((cK (c3 _ _ _ _ _)).trans XH)).trans rfl))).trans ?_
  refine(av h4).trans ?_
  exact(av (ρ':=[.sh (.int kind),.sh (.int m),.sh (.lst (its.map It.p)),.ow [],.sh (.tup (its.map It.s)),.sh (.str (Jn its++oA)),.sh (.int ((1+M:Nat):Int)),.sh r.p]) rfl).trans rfl
 have T:∀(k:Nat) s7,tV (ae gM (dV 0) (dC (.int k))) [.sh (.int kind),.sh (.int m),.sh (.lst (its.map It.p)),.ow (its.map It.o),.sh (.tup (its.map It.s)),.sh (.str (Jn its++oA)),.sh (.int ((1+M:Nat):Int)),s7]=some (decide (kind=k)):=λk s7=>cq ((af (x:=.int kind) (y:=.int k) rfl rfl).trans (ub _ _))
 have lB:(Jn its++oA).length=(Jn its).length+1:=by rw[cI];rfl
 have lA:("all(" :Str).length=4:=by decide+kernel
 have lY:("any(" :Str).length=4:=by decide+kernel
 have lS:(" of (" :Str).length=5:=by decide+kernel
 by_cases k0:kind=0
 ·refine fin ⟨.ins 1 [.int (its.length:Nat),.tup (its.map It.o)],.tup [.str "all",.tup (its.map It.s)],("all(" :Str)++(Jn its++oA),1+M⟩ (B.all its M h0 h8 hw hn) rfl (by show(("all(" :Str)++(Jn its++oA)).length+2<=_;rw[cI,lB,lA];omega) ((iV ((T 0 _).trans (by rw[decide_eq_true k0]))).trans (aP ?_))
  refine jE (aA (x:=.ins 1 [.int (its.length:Nat),.tup (its.map It.o)]) ?_ (aA (x:=.tup [.str "all",.tup (its.map It.s)]) (jE (xs:=[.str "all",.tup (its.map It.s)]) rfl (by simp)) (aA ((af (x:=.str "all(") (y:=.str (Jn its++oA)) rfl rfl).trans (bC _ _ (by rw[lB,lA];omega))) (aA (x:=.int ((1+M:Nat):Int)) rfl rfl)))) (by simp)
  show some (PV.ins 1 [.int ((its.map It.o).length:Nat),.tup (its.map It.o)])=_
  rw[X6]
 ·by_cases k1:kind=1
  ·refine fin ⟨.ins 2 [.int 1,.tup (its.map It.o)],.tup [.str "any",.tup (its.map It.s)],("any(" :Str)++(Jn its++oA),1+M⟩ (B.any its M h0 h8 hw hn) rfl (by show(("any(" :Str)++(Jn its++oA)).length+2<=_;rw[cI,lB,lY];omega) ((iD ((T 0 _).trans (by rw[decide_eq_false k0]))).trans ((iV ((T 1 _).trans (by rw[decide_eq_true k1]))).trans (aP ?_)))
   exact jE (aA (x:=.ins 2 [.int 1,.tup (its.map It.o)]) rfl (aA (x:=.tup [.str "any",.tup (its.map It.s)]) (jE (xs:=[.str "any",.tup (its.map It.s)]) rfl (by simp)) (aA ((af (x:=.str "any(") (y:=.str (Jn its++oA)) rfl rfl).trans (bC _ _ (by rw[lB,lY];omega))) (aA (x:=.int ((1+M:Nat):Int)) rfl rfl)))) (by simp)
  ·have kJ:Fd (.int (m:Nat))=some (.str (toString (m:Int))):=by
     show(if decide ((m:Int).natAbs<1000000)then some (PV.str (toString (m:Int)))else none)=_
     rw[if_pos (decide_eq_true (by omega))]
   refine fin ⟨.ins 3 [.int (m:Nat),.tup (its.map It.o)],.tup [.str "some",.int (m:Nat),.tup (its.map It.s)],((toString (m:Int):Str)++(" of (" :Str))++(Jn its++oA),1+M⟩ (B.some its M m h0 h8 hw hn WW HF) rfl (by show(((toString (m:Int):Str)++(" of (" :Str))++(Jn its++oA)).length+2<=_;rw[cI,cI,lB,lS];omega) ((iD ((T 0 _).trans (by rw[decide_eq_false k0]))).trans ((iD ((T 1 _).trans (by rw[decide_eq_false k1]))).trans (aP ?_)))
   refine jE (aA (x:=.ins 3 [.int (m:Nat),.tup (its.map It.o)]) rfl (aA (x:=.tup [.str "some",.int (m:Nat),.tup (its.map It.s)]) (jE (xs:=[.str "some",.int (m:Nat),.tup (its.map It.s)]) rfl (by simp)) (aA ((af (y:=.str (Jn its++oA)) ((af (x:=.str (toString (m:Int))) (y:=.str " of (") ((cK (x:=.int (m:Nat)) rfl).trans kJ) rfl).trans (bC _ _ (by rw[lS];omega))) rfl).trans (bC _ _ (by rw[cI,lB,lS];omega))) (aA (x:=.int ((1+M:Nat):Int)) rfl rfl)))) (by simp)
theorem Kc:∀P:List It,P.length*2<=wt P
 |[]=>z0S _
 |i::P=>by
  have:=Kc P
  rw[yA,Wk]
  omega
theorem ends(P:List It)(j:Nat):P.take (P.length-j)++P.drop (P.length-j)=P:=z1f ..
section
variable{Ok:It->Prop}{aD:List PV->Option PV}
 (hF:∀{kind m:Nat},kind<3->∀{its:List It},its≠[]->its.length<=8->wt its<=50000->1<=m->m<=its.length->(∀i∈its,Ok i)->∃r:It,Ok r/\(∃i∈its,r.d=1+i.d)/\r.t.length+2<=wt its+10/\aD [.int kind,.int m,.lst (its.map It.p)]=some r.p)
include hF
theorem Gh{P:List It}(h2:2<=P.length)(hP:∀i∈P,Ok i){D W:Nat}(hd:∀i∈P,i.d<=D)(hw:wt P<=W)(hW:W<=49000){s0:Slot}(hs:s0=.sh (.lst (P.map It.p))\/s0=.ow (P.map It.p))(s1:Slot){n:Int}(Vu:0<=n)(PY:n<2147483647)(s3:Slot):
  ∃(Q:List It) (n':Int) (t3:Slot),Q.length+1=P.length-min 8 P.length+2/\(∀i∈Q,Ok i)/\(∀i∈Q,i.d<=D+1)/\wt Q<=W+10/\0<=n'/\n'<2147483647/\jX aD [s0,s1,.sh (.int n),s3]=some (.nx [.ow (Q.map It.p),s1,.sh (.int n'),t3]):=by
 have zl:(100000:Nat)<=sizeLine:=by decide
 have v0:∀r1 r2 r3,dV 0 [s0,r1,r2,r3]=some (.lst (P.map It.p)):=λr1 r2 r3=>by
  rcases hs with rfl|rfl<;>rfl
 have e1:ae cJ (ae aW (ae rR (dV 2) (dV 2)) (ae rR (dC (.int 48271)) (dV 2))) (dC (.int 2147483647)) [s0,s1,.sh (.int n),s3]=some (.int ((n*n+48271*n) % 2147483647)):=
  (af (x:=.int (n*n+48271*n)) (y:=.int 2147483647) ((af ((af (x:=.int n) (y:=.int n) rfl rfl).trans (jL (by omega) (by omega))) ((af (x:=.int 48271) (y:=.int n) rfl rfl).trans (jL (by omega) (by omega)))).trans rfl) rfl).trans (nh _ (by decide))
 have b1:=z1N (n*n+48271*n) (show(2147483647:Int)≠0 by decide)
 have b2:=z00 (n*n+48271*n) (show(0:Int)<2147483647 by decide)
 generalize(n*n+48271*n) % 2147483647=n' at e1 b1 b2
 have es:=ends P 8
 generalize eA:P.take (P.length-8)=Pa at es
 generalize eB:P.drop (P.length-8)=Pb at es
 have lb:Pb.length=min 8 P.length:=by rw[<-eB,z0d];omega
 have la:Pa.length=P.length-8:=by rw[<-eA,z0a];omega
 have mb:∀i∈Pb,i∈P:=λi hi=>by rw[<-es];exact z0P _ hi
 have ma:∀i∈Pa,i∈P:=λi hi=>by rw[<-es];exact z09 _ hi
 have hwt:wt Pa+wt Pb=wt P:=by rw[<-vn,es]
 have hk:=mod_lt n' (n:=3) (by decide)
 have hm:=mod_lt (n'/3) (n:=Pb.length) (by omega)
 obtain⟨r,r1,⟨i,hi,r2⟩,r3,r4⟩:=hF (kind:=(n' %((3:Nat):Int)).toNat) (m:=1+(n'/3 %(Pb.length:Int)).toNat) hk (its:=Pb) (λz=>by rw[z]at lb;simp at lb;omega) (by omega) (by omega) (by omega) (by omega) λi hi=>hP i (mb i hi)
 refine⟨Pa++[r],n',.sh (.lst (Pb.map It.p)),by rw[z0E,z0p];omega,λx hx=>?_,λx hx=>?_,by rw[vn,vo];omega,b1,b2,?_⟩
 ·rcases z0L.mp hx with hx|hx
  ·exact hP x (ma x hx)
  ·obtain rfl:=z0U.mp hx
   exact r1
 ·rcases z0L.mp hx with hx|hx
  ·have:=hd x (ma x hx)
   omega
  ·obtain rfl:=z0U.mp hx
   have:=hd i (mb i hi)
   omega
 ·refine(av (aP e1)).trans ?_
  have e3:DJ (dV 0) (aX (bU mQ (dC (.int 8)))) cD [s0,s1,.sh (.int n'),s3]=some (.lst (Pb.map It.p)):=by
   refine(vq (a:=some (-((8:Nat):Int))) (v0 _ _ _) rfl rfl).trans ?_
   rw[AU _ 8 (by decide),X6,<-z17,eB]
  refine(av (aP e3)).trans ?_
  have e4:DJ (dV 0) cD (aX (bU mQ (dC (.int 8)))) [s0,s1,.sh (.int n'),.sh (.lst (Pb.map It.p))]=some (.lst (Pa.map It.p)):=by
   refine(vq (b:=some (-((8:Nat):Int))) (v0 _ _ _) rfl rfl).trans ?_
   rw[Mc _ 8 (by decide),X6,<-z18,eA]
  refine(av (m9 e4)).trans ?_
  have e5:bP aD (ah (ae cJ (dV 2) (dC (.int 3))) (ah (ae aW (dC (.int 1)) (ae cJ (ae jZ (dV 2) (dC (.int 3))) (bU cL (dV 3)))) (ah (bZ 3) aO))) [.ow (Pa.map It.p),s1,.sh (.int n'),.sh (.lst (Pb.map It.p))]=some r.p:=by
   refine(bu (aA ((af (x:=.int n') (y:=.int ((3:Nat):Int)) rfl rfl).trans (cw _ (by decide))) (aA (x:=.int ((1+(n'/3 %(Pb.length:Int)).toNat:Nat):Int)) ?_ (aA (x:=.lst (Pb.map It.p)) rfl rfl)))).trans r4
   refine(af (x:=.int ((1:Nat):Int)) rfl ((af (x:=.int (n'/3)) (y:=.int (Pb.length:Nat)) rfl ?_).trans (cw _ (by omega)))).trans rfl
   show some (PV.int ((Pb.map It.p).length:Nat))=_
   rw[X6]
  show((ah (bP aD (ah (ae cJ (dV 2) (dC (.int 3))) (ah (ae aW (dC (.int 1)) (ae cJ (ae jZ (dV 2) (dC (.int 3))) (bU cL (dV 3)))) (ah (bZ 3) aO)))) aO) [.ow (Pa.map It.p),s1,.sh (.int n'),.sh (.lst (Pb.map It.p))]).bind _=_
  rw[aA e5 rfl]
  show((if(Pa.map It.p).length<sizeLine then some (Pa.map It.p++[r.p])else none).map λl'=>Fl.nx [.ow l',s1,.sh (.int n'),.sh (.lst (Pb.map It.p))])=_
  have wl:=Kc P
  rw[if_pos (by rw[X6];omega),z0b]
  rfl
theorem xH(s1:Slot):∀(k:Nat) {P:List It} (h1:1<=P.length) (hk:P.length<=1+7*k) (hP:∀i∈P,Ok i) {D W:Nat} (hd:∀i∈P,i.d<=D) (hw:wt P<=W) (hW:W+10*k<=49000) {s0:Slot} (hs:s0=.sh (.lst (P.map It.p))\/s0=.ow (P.map It.p)) {n:Int} (Vu:0<=n) (PY:n<2147483647) (s3:Slot) (f:Nat) (hf:k<f),
  ∃(r:It) (t0 t2 t3:Slot),(t0=.sh (.lst [r.p])\/t0=.ow [r.p])/\Ok r/\(r.d<=D+k/\r.t.length+2<=W+10*k)/\gN (tV (ae KA (bU cL (dV 0)) (dC (.int 1)))) (jX aD) f [s0,s1,.sh (.int n),s3]=some (.nx [t0,s1,t2,t3])
 |k,P,h1,hk,hP,D,W,hd,hw,hW,s0,hs,n,Vu,PY,s3,0,hf=>by omega
 |k,P,h1,hk,hP,D,W,hd,hw,hW,s0,hs,n,Vu,PY,s3,f+1,hf=>by
  have v0:∀r1 r2 r3,dV 0 [s0,r1,r2,r3]=some (.lst (P.map It.p)):=λr1 r2 r3=>by
   rcases hs with rfl|rfl<;>rfl
  have t:tV (ae KA (bU cL (dV 0)) (dC (.int 1))) [s0,s1,.sh (.int n),s3]=some (decide (1<P.length)):=by
   refine cq ((af (x:=.int (P.length:Nat)) (y:=.int 1) ((cK (v0 _ _ _)).trans ?_) rfl).trans ?_)
   ·show some (PV.int ((P.map It.p).length:Nat))=_
    rw[X6]
   ·show some (PV.bl (decide ((1:Int)<(P.length:Int))))=_
    congr 2
    rw[decide_eq_decide]
    omega
  by_cases h2:1<P.length
  ·rw[decide_eq_true h2]at t
   match k,hk with
   |0,hk=>omega
   |k+1,hk=>
    obtain⟨Q,n',t3,q1,q2,q3,q4,q5,q6,q7⟩:=Gh hF (P:=P) (by omega) hP hd hw (by omega) hs s1 Vu PY s3
    obtain⟨r,t0,t2,t3',a1,a2,a3,a4⟩:=xH s1 k (P:=Q) (by omega) (by omega) q2 (D:=D+1) (W:=W+10) q3 q4 (by omega) (s0:=.ow (Q.map It.p)) (.inr rfl) q5 q6 t3 f (by omega)
    exact⟨r,t0,t2,t3',a1,a2,⟨by omega,by omega⟩,(AR t q7).trans a4⟩
  ·rw[decide_eq_false h2]at t
   obtain⟨r,rfl⟩:∃r,P=[r]:=z11.mp (by omega)
   exact⟨r,s0,.sh (.int n),s3,hs,hP r (RF ..),⟨by have:=hd r (RF ..);omega,by rw[vo]at hw;omega⟩,AQ t⟩
theorem C3{P:List It}(h1:1<=P.length)(h57:P.length<=57)(hP:∀i∈P,Ok i){D:Nat}(hd:∀i∈P,i.d<=D)(hw:wt P<=10000)(c:Int):∃r:It,Ok r/\(r.d<=D+8/\r.t.length<=11000)/\fn false 4 2 (qU aD) [.lst (P.map It.p),.int c]=some r.p:=by
 have b1:=z1N c (show(2147483646:Int)≠0 by decide)
 have b2:=z00 c (show(0:Int)<2147483646 by decide)
 obtain⟨r,t0,t2,t3,a1,a2,a3,a4⟩:=xH hF (.sh (.int c)) 8 (P:=P) h1 (by omega) hP hd hw (by omega) (s0:=.sh (.lst (P.map It.p))) (.inl rfl) (n:=1+c % 2147483646) (by omega) (by omega) .un 1000 (by decide)
 refine⟨r,a2,⟨by omega,by omega⟩,d0 rfl ?_⟩
 refine(av (aP (p:=.int (1+c % 2147483646)) ((af (x:=.int 1) rfl ((af (x:=.int c) (y:=.int 2147483646) rfl rfl).trans (nh _ (by decide)))).trans rfl))).trans ?_
 refine(av a4).trans (dr ?_)
 rcases a1 with rfl|rfl<;>rfl
end
theorem EH(x:Str):cG [.str x]=some (It.p ⟨.ins 0 [.str x],.tup [.str "hand",.str x],x,0⟩):=by
 refine ng rfl ?_
 exact jE (aA (x:=.ins 0 [.str x]) rfl (aA (x:=.tup [.str "hand",.str x]) (jE (xs:=[.str "hand",.str x]) rfl (by simp)) (aA (x:=.str x) rfl (aA (x:=.int ((0:Nat):Int)) rfl rfl)))) (by simp)
structure Pile(Ok:It->Prop)(k:Nat)(P:List It):Prop where
 pos:1<=P.length
 len:P.length<=1+k
 ok:∀i∈P,Ok i
 dp:∀i∈P,i.d<=12
 wt:wt P<=60*(1+k)
section
variable{names:List Str}{Ok:It->Prop}(B:Vt names Ok)(hn:∀x∈names,x.length<=50){F_law_folded cG F_law_cell_at aD:List PV->Option PV}
 (hH:∀x:Str,cG [.str x]=some (It.p ⟨.ins 0 [.str x],.tup [.str "hand",.str x],x,0⟩))
 (hF:∀{kind m:Nat},kind<3->∀{its:List It},its≠[]->its.length<=8->wt its<=50000->1<=m->m<=its.length->(∀i∈its,Ok i)->∃r:It,Ok r/\(∃i∈its,r.d=1+i.d)/\r.t.length+2<=wt its+10/\aD [.int kind,.int m,.lst (its.map It.p)]=some r.p)
include B hn hH
theorem zy(h0:names≠[])(c:Int){A L:Den}{ρ:dO}(hA:A ρ=some (.tup (names.map PV.str)))(hL:L ρ=some (.int c)):∃x∈names,ae ie A (ae cJ L (bU cL A)) ρ=some (.str x):=by
 have hl:0<names.length:=List.length_pos_iff.mpr h0
 have hi:=mod_lt c hl
 refine⟨names[(c %(names.length:Int)).toNat],z1d hi,?_⟩
 refine(af hA ((af hL ((cK hA).trans ?_)).trans (cw c hl))).trans ?_
 ·show some (PV.int ((names.map PV.str).length:Nat))=_
  rw[X6]
 ·show itemAt (names.map PV.str) (((c %(names.length:Int)).toNat:Nat):Int)=_
  unfold itemAt Le
  rw[if_pos (by omega),if_pos (by rw[X6];omega)]
  show(names.map PV.str)[(((c %(names.length:Int)).toNat:Nat):Int).toNat]?=_
  rw[z0j,z0f,z0G hi]
  rfl
include hF
theorem C4(h0:names≠[])(s0 s1 s2:Slot)(cell:Int){k:Nat}(hk:k<=100){P:List It}(hP:Pile Ok k P)(heads:Nat)(s7 s8:Slot):
  ∃(Q:List It) (vS:Nat) (t7 t8:Slot),Pile Ok (k+1) Q/\kj F_law_folded cG F_law_cell_at aD [s0,s1,s2,.sh (.tup (names.map PV.str)),.ow (P.map It.p),.sh (.int (heads:Nat)),.sh (.int cell),s7,s8]=some (.nx [s0,s1,s2,.sh (.tup (names.map PV.str)),.ow (Q.map It.p),.sh (.int (vS:Nat)),.sh (.int cell),t7,t8]):=by
 have zl:(100000:Nat)<=sizeLine:=by decide
 obtain⟨p1,p2,p3,p4,p5⟩:=hP
 have hj:=mod_lt (cell/9) (n:=8) (by decide)
 generalize ej:1+(cell/9 %((8:Nat):Int)).toNat=j at*
 have es:=ends P j
 generalize eA:P.take (P.length-j)=Pa at es
 generalize eB:P.drop (P.length-j)=Pb at es
 have lb:Pb.length=min j P.length:=by rw[<-eB,z0d];omega
 have la:Pa.length=P.length-j:=by rw[<-eA,z0a];omega
 have mb:∀i∈Pb,i∈P:=λi hi=>by rw[<-es];exact z0P _ hi
 have ma:∀i∈Pa,i∈P:=λi hi=>by rw[<-es];exact z09 _ hi
 have hwt:L2.D.wt Pa+L2.D.wt Pb=L2.D.wt P:=by rw[<-vn,es]
 have e1:DJ (dV 4) (aX (bU mQ (ae aW (dC (.int 1)) (ae cJ (ae jZ (dV 6) (dC (.int 9))) (dC (.int 8)))))) cD [s0,s1,s2,.sh (.tup (names.map PV.str)),.ow (P.map It.p),.sh (.int (heads:Nat)),.sh (.int cell),s7,s8]=some (.lst (Pb.map It.p)):=by
  have eo:(aX (bU mQ (ae aW (dC (.int 1)) (ae cJ (ae jZ (dV 6) (dC (.int 9))) (dC (.int 8)))))) [s0,s1,s2,.sh (.tup (names.map PV.str)),.ow (P.map It.p),.sh (.int (heads:Nat)),.sh (.int cell),s7,s8]=some (some (-(j:Int))):=by
   have:bU mQ (ae aW (dC (.int 1)) (ae cJ (ae jZ (dV 6) (dC (.int 9))) (dC (.int 8)))) [s0,s1,s2,.sh (.tup (names.map PV.str)),.ow (P.map It.p),.sh (.int (heads:Nat)),.sh (.int cell),s7,s8]=some (.int (-(j:Int))):=by
    refine(cK (x:=.int (j:Int)) ?_).trans rfl
    rw[<-ej]
    exact(af (x:=.int ((1:Nat):Int)) rfl ((af (x:=.int (cell/9)) (y:=.int ((8:Nat):Int)) rfl rfl).trans (cw _ (by decide)))).trans rfl
   unfold aX
   rw[this]
   rfl
  refine(vq (l:=P.map It.p) rfl eo rfl).trans ?_
  rw[AU _ j (by omega),X6,<-z17,eB]
 have W8:Pb≠[]:=λz=>by rw[z]at lb;simp at lb;omega
 obtain⟨M,eM,XG,Y2⟩:=vp (Pb.map It.d) (by simpa using W8)
 have c3:∀s8,eI (nList (dV 7)) eY (ae ie (dV 0) (dC (.int 3))) [s0,s1,s2,.sh (.tup (names.map PV.str)),.ow (P.map It.p),.sh (.int (heads:Nat)),.sh (.int cell),.sh (.lst (Pb.map It.p)),s8]=some (.lst (Pb.map λi=>.int (i.d:Nat))):=λs8=>jg It.p (λi=>.int (i.d:Nat)) rfl (by omega) λi _=>Bo i _ 3 _ rfl
 have XH:oK (.lst (Pb.map λi=>.int (i.d:Nat)))=some (.int (M:Nat)):=by
  have e:vh (Pb.map It.d)=.lst (Pb.map λi=>.int (i.d:Nat)):=by
   unfold vh
   rw[z1I]
   rfl
  rw[<-e]
  exact eM
 have app:∀(Z:List It) (r:It) (s5 s7 s8:Slot),Z.length<=1000->∀{E:Den},E [s0,s1,s2,.sh (.tup (names.map PV.str)),.ow (Z.map It.p),s5,.sh (.int cell),s7,s8]=some r.p->uK 4 j4 (ah E aO) [s0,s1,s2,.sh (.tup (names.map PV.str)),.ow (Z.map It.p),s5,.sh (.int cell),s7,s8]=some (.nx [s0,s1,s2,.sh (.tup (names.map PV.str)),.ow ((Z++[r]).map It.p),s5,.sh (.int cell),s7,s8]):=λZ r s5 s7 s8 hZ E hE=>by
  show((ah E aO) [s0,s1,s2,.sh (.tup (names.map PV.str)),.ow (Z.map It.p),s5,.sh (.int cell),s7,s8]).bind _=_
  rw[aA hE rfl]
  show((if(Z.map It.p).length<sizeLine then some (Z.map It.p++[r.p])else none).map λl'=>Fl.nx [s0,s1,s2,.sh (.tup (names.map PV.str)),.ow l',s5,.sh (.int cell),s7,s8])=_
  rw[if_pos (by rw[X6];omega),z0b]
  rfl
 have T1:tV (ae yc (ae cJ (dV 6) (dC (.int 9))) (dC (.int 6))) [s0,s1,s2,.sh (.tup (names.map PV.str)),.ow (P.map It.p),.sh (.int (heads:Nat)),.sh (.int cell),.sh (.lst (Pb.map It.p)),.sh (.int (M:Nat))]=some (decide (cell % 9<6)):=cq rfl
 have T2:tV (ae KA (dV 8) (dC (.int 11))) [s0,s1,s2,.sh (.tup (names.map PV.str)),.ow (P.map It.p),.sh (.int (heads:Nat)),.sh (.int cell),.sh (.lst (Pb.map It.p)),.sh (.int (M:Nat))]=some (decide ((11:Int)<(M:Int))):=cq rfl
 have T3:tV (ae KA (dV 5) (dC (.int 13))) [s0,s1,s2,.sh (.tup (names.map PV.str)),.ow (P.map It.p),.sh (.int (heads:Nat)),.sh (.int cell),.sh (.lst (Pb.map It.p)),.sh (.int (M:Nat))]=some (decide ((13:Int)<(heads:Int))):=cq rfl
 have pre:∀{fl:Fl} {X:bE},X [s0,s1,s2,.sh (.tup (names.map PV.str)),.ow (P.map It.p),.sh (.int (heads:Nat)),.sh (.int cell),.sh (.lst (Pb.map It.p)),.sh (.int (M:Nat))]=some fl->(ba (b9 7 (DJ (dV 4) (aX (bU mQ (ae aW (dC (.int 1)) (ae cJ (ae jZ (dV 6) (dC (.int 9))) (dC (.int 8)))))) cD)) (ba (b9 8 (bU oK (eI (nList (dV 7)) eY (ae ie (dV 0) (dC (.int 3)))))) X)) [s0,s1,s2,.sh (.tup (names.map PV.str)),.ow (P.map It.p),.sh (.int (heads:Nat)),.sh (.int cell),s7,s8]=some fl:=λhX=>(av (aP e1)).trans ((av (aP ((cK (c3 _)).trans XH))).trans hX)
 have vT:∃(Q:List It) (vS:Nat) (t7 t8:Slot),Pile Ok (k+1) Q/\(uK 4 j4 (ah (bP cG (ah (ae ie (dV 3) (ae cJ (ae jZ (dV 6) (dC (.int 9))) (bU cL (dV 3)))) aO)) aO)) [s0,s1,s2,.sh (.tup (names.map PV.str)),.ow (P.map It.p),.sh (.int (heads:Nat)),.sh (.int cell),.sh (.lst (Pb.map It.p)),.sh (.int (M:Nat))]=some (.nx [s0,s1,s2,.sh (.tup (names.map PV.str)),.ow (Q.map It.p),.sh (.int (vS:Nat)),.sh (.int cell),t7,t8]):=by
  obtain⟨x,hx,ex⟩:=zy B hn hH h0 (cell/9) (A:=dV 3) (L:=ae jZ (dV 6) (dC (.int 9))) (ρ:=[s0,s1,s2,.sh (.tup (names.map PV.str)),.ow (P.map It.p),.sh (.int (heads:Nat)),.sh (.int cell),.sh (.lst (Pb.map It.p)),.sh (.int (M:Nat))]) rfl rfl
  have hl:=hn x hx
  refine⟨P++[⟨.ins 0 [.str x],.tup [.str "hand",.str x],x,0⟩],heads,_,_,⟨by rw[z0E];omega,by rw[z0E,z0p];omega,λi hi=>?_,λi hi=>?_,by rw[vn,vo];show _+(x.length+2)<=_;omega⟩,app P _ _ _ _ (by omega) ((bu (aA ex rfl)).trans (hH x))⟩
  ·rcases z0L.mp hi with hi|hi
   ·exact p3 i hi
   ·obtain rfl:=z0U.mp hi
    exact B.hand x hx
  ·rcases z0L.mp hi with hi|hi
   ·exact p4 i hi
   ·obtain rfl:=z0U.mp hi
    exact z0S _
 by_cases g1:cell % 9<6
 ·obtain⟨Q,h',t7,t8,q1,q2⟩:=vT
  exact⟨Q,h',t7,t8,q1,pre ((iV (IG (T1.trans (by rw[decide_eq_true g1])))).trans q2)⟩
 ·by_cases g2:(11:Int)<(M:Int)
  ·obtain⟨Q,h',t7,t8,q1,q2⟩:=vT
   exact⟨Q,h',t7,t8,q1,pre ((iV ((vj (T1.trans (by rw[decide_eq_false g1]))).trans (IG (T2.trans (by rw[decide_eq_true g2]))))).trans q2)⟩
  ·by_cases g3:(13:Int)<(heads:Int)
   ·obtain⟨Q,h',t7,t8,q1,q2⟩:=vT
    exact⟨Q,h',t7,t8,q1,pre ((iV ((vj (T1.trans (by rw[decide_eq_false g1]))).trans ((vj (T2.trans (by rw[decide_eq_false g2]))).trans (T3.trans (by rw[decide_eq_true g3]))))).trans q2)⟩
   ·have c9:=z00 cell (show(0:Int)<9 by decide)
    have hm:=mod_lt (cell/72) (n:=Pb.length) (by omega)
    have ek:cell % 9-6=(((cell % 9-6).toNat:Nat):Int):=by omega
    obtain⟨r,r1,⟨i,hi,r2⟩,r3,r4⟩:=hF (kind:=(cell % 9-6).toNat) (m:=1+(cell/72 %(Pb.length:Int)).toNat) (by omega) (its:=Pb) W8 (by omega) (by omega) (by omega) (by omega) λi hi=>p3 i (mb i hi)
    have hMd:i.d<=M:=XG _ (z0R.mpr ⟨i,hi,rfl⟩)
    refine⟨Pa++[r],heads+1,.sh (.lst (Pb.map It.p)),.sh (.int (M:Nat)),⟨by rw[z0E,z0p];omega,by rw[z0E,z0p];omega,λx hx=>?_,λx hx=>?_,by rw[vn,vo];omega⟩,pre ((iD ((vj (T1.trans (by rw[decide_eq_false g1]))).trans ((vj (T2.trans (by rw[decide_eq_false g2]))).trans (T3.trans (by rw[decide_eq_false g3]))))).trans ?_)⟩
    ·rcases z0L.mp hx with hx|hx
     ·exact p3 x (ma x hx)
     ·obtain rfl:=z0U.mp hx
      exact r1
    ·rcases z0L.mp hx with hx|hx
     ·exact p4 x (ma x hx)
     ·obtain rfl:=z0U.mp hx
      omega
    ·have e4:DJ (dV 4) cD (aX (ae zK (bU cL (dV 4)) (bU cL (dV 7)))) [s0,s1,s2,.sh (.tup (names.map PV.str)),.ow (P.map It.p),.sh (.int (heads:Nat)),.sh (.int cell),.sh (.lst (Pb.map It.p)),.sh (.int (M:Nat))]=some (.lst (Pa.map It.p)):=by
       have eo:(aX (ae zK (bU cL (dV 4)) (bU cL (dV 7)))) [s0,s1,s2,.sh (.tup (names.map PV.str)),.ow (P.map It.p),.sh (.int (heads:Nat)),.sh (.int cell),.sh (.lst (Pb.map It.p)),.sh (.int (M:Nat))]=some (some ((P.length-j:Nat):Int)):=by
        show some (some (((P.map It.p).length:Int)-((Pb.map It.p).length:Int)))=_
        rw[X6,X6,lb]
        congr 2
        omega
       refine(vq (l:=P.map It.p) rfl rfl eo).trans ?_
       rw[IP _ _ (by rw[X6];omega),<-z18,eA]
     refine(av (m9 e4)).trans ?_
     have e5:bP aD (ah (ae zK (ae cJ (dV 6) (dC (.int 9))) (dC (.int 6))) (ah (ae aW (dC (.int 1)) (ae cJ (ae jZ (dV 6) (dC (.int 72))) (bU cL (dV 7)))) (ah (bZ 7) aO))) [s0,s1,s2,.sh (.tup (names.map PV.str)),.ow (Pa.map It.p),.sh (.int (heads:Nat)),.sh (.int cell),.sh (.lst (Pb.map It.p)),.sh (.int (M:Nat))]=some r.p:=by
      refine(bu (aA (x:=.int (((cell % 9-6).toNat:Nat):Int)) ?_ (aA (x:=.int ((1+(cell/72 %(Pb.length:Int)).toNat:Nat):Int)) ?_ (aA (x:=.lst (Pb.map It.p)) rfl rfl)))).trans r4
      ·rw[<-ek]
       rfl
      ·refine(af (x:=.int ((1:Nat):Int)) rfl ((af (x:=.int (cell/72)) (y:=.int (Pb.length:Nat)) rfl ?_).trans (cw _ (by omega)))).trans rfl
       show some (PV.int ((Pb.map It.p).length:Nat))=_
       rw[X6]
     refine(av (app Pa r _ _ _ (by omega) e5)).trans ?_
     exact aP rfl
theorem xI(h0:names≠[])(s0 s1 s2:Slot):∀(cs:List Int) (k:Nat) (hk:k+cs.length<=100) {P:List It} (hP:Pile Ok k P) (heads:Nat) (s6 s7 s8:Slot),
  ∃(Q:List It) (vS:Nat) (t6 t7 t8:Slot),Pile Ok (k+cs.length) Q/\forL (dF 6) (kj F_law_folded cG F_law_cell_at aD) (cs.map PV.int) [s0,s1,s2,.sh (.tup (names.map PV.str)),.ow (P.map It.p),.sh (.int (heads:Nat)),s6,s7,s8]=some (.nx [s0,s1,s2,.sh (.tup (names.map PV.str)),.ow (Q.map It.p),.sh (.int (vS:Nat)),t6,t7,t8])
 |[],k,hk,P,hP,heads,s6,s7,s8=>⟨P,heads,s6,s7,s8,hP,rfl⟩
 |c::cs,k,hk,P,hP,heads,s6,s7,s8=>by
  rw[Wk]at hk
  obtain⟨Q,h1,t7,t8,q1,q2⟩:=C4 B hn hH hF h0 s0 s1 s2 c (by omega) hP heads s7 s8
  obtain⟨Q',h2,u6,u7,u8,q3,q4⟩:=xI h0 s0 s1 s2 cs (k+1) (by omega) q1 h1 (.sh (.int c)) t7 t8
  refine⟨Q',h2,u6,u7,u8,?_,Eq.trans ?_ q4⟩
  ·rw[Wk,show k+(cs.length+1)=k+1+cs.length by omega]
   exact q3
  ·exact um (i:=6) (x:=.int c) (xs:=cs.map PV.int) (ρ:=[s0,s1,s2,.sh (.tup (names.map PV.str)),.ow (P.map It.p),.sh (.int (heads:Nat)),s6,s7,s8]) q2
theorem Gj(h0:names≠[])(hC:∀(ns:List Int) (k:Nat),F_law_cell_at [jr ns,.int k]=some (.int (ns.getD k 0)))
  (hL:∀{P:List It},1<=P.length->P.length<=57->(∀i∈P,Ok i)->∀{D:Nat},(∀i∈P,i.d<=D)->L2.D.wt P<=10000->∀c:Int,∃r:It,Ok r/\(r.d<=D+8/\r.t.length<=11000)/\F_law_folded [.lst (P.map It.p),.int c]=some r.p)
  (ns:List Int)(a size:Nat)(Vh:1<=size)(hs:size<=50):∃r:It,Ok r/\(r.d<=20/\r.t.length<=11000)/\fn false 9 4 (sQ F_law_folded cG F_law_cell_at aD) [jr ns,.int a,.int size,.tup (names.map PV.str)]=some r.p:=by
 have zl:(100000:Nat)<=sizeLine:=by decide
 obtain⟨x,hx,ex⟩:=zy B hn hH h0 (ns.getD a 0) (A:=dV 3) (L:=bP F_law_cell_at (ah (bZ 0) (ah (bZ 1) aO))) (ρ:=[.sh (jr ns),.sh (.int a),.sh (.int size),.sh (.tup (names.map PV.str)),.un,.un,.un,.un,.un]) rfl ((bu (ps:=[jr ns,.int a]) rfl).trans (hC ns a))
 have hl:=hn x hx
 have cl:(jP ns (some ((a+1:Nat):Int)) (some ((a+size:Nat):Int))).length<=49:=by
  unfold jP kO
  simp only
  rw[if_neg (by omega),if_neg (by omega),z0a,z0d,z0j,z0j]
  omega
 generalize ecs:jP ns (some ((a+1:Nat):Int)) (some ((a+size:Nat):Int))=cs at cl
 have hP0:Pile Ok 0 [⟨.ins 0 [.str x],.tup [.str "hand",.str x],x,0⟩]:=⟨by simp,by simp,λi hi=>by
  obtain rfl:=z0U.mp hi
  exact B.hand x hx,λi hi=>by
  obtain rfl:=z0U.mp hi
  exact z0S _,by rw[vo];show x.length+2<=_;omega⟩
 obtain⟨Q,h',t6,t7,t8,q1,q2⟩:=xI B hn hH hF (F_law_folded:=F_law_folded) (F_law_cell_at:=F_law_cell_at) h0 (.sh (jr ns)) (.sh (.int a)) (.sh (.int size)) cs 0 (by omega) hP0 0 .un .un .un
 obtain⟨p1,p2,p3,p4,p5⟩:=q1
 obtain⟨r,r1,r2,r3⟩:=hL (P:=Q) p1 (by omega) p3 p4 (by omega) (ns.getD 1 0)
 refine⟨r,r1,⟨by omega,by omega⟩,d0 rfl ?_⟩
 refine(av (m9 (l:=[It.p ⟨.ins 0 [.str x],.tup [.str "hand",.str x],x,0⟩]) (Eo (aA ((bu (aA ex rfl)).trans (hH x)) rfl) (by simp)))).trans ?_
 refine(av (aP (p:=.int ((0:Nat):Int)) rfl)).trans ?_
 have ei:nList (DJ (dV 0) (aX (ae aW (dV 1) (dC (.int 1)))) (aX (ae aW (dV 1) (dV 2)))) [.sh (jr ns),.sh (.int a),.sh (.int size),.sh (.tup (names.map PV.str)),.ow [It.p ⟨.ins 0 [.str x],.tup [.str "hand",.str x],x,0⟩],.sh (.int ((0:Nat):Int)),.un,.un,.un]=some (cs.map PV.int):=by
  refine vi ((vq (l:=ns.map PV.int) (a:=some ((a+1:Nat):Int)) (b:=some ((a+size:Nat):Int)) rfl rfl rfl).trans ?_)
  rw[vk,ecs]
 refine(av ((qN ei).trans q2)).trans ?_
 refine(av (ρ':=[.sh (jr ns),.sh (.int a),.sh (.int size),.sh (.tup (names.map PV.str)),.sh (.lst (Q.map It.p)),.sh (.int (h':Nat)),t6,t7,t8]) rfl).trans ?_
 exact dr ((bu (aA (x:=.lst (Q.map It.p)) rfl (aA ((bu (ps:=[jr ns,.int ((1:Nat):Int)]) rfl).trans (hC ns 1)) rfl))).trans r3)
end
theorem Kd{names:List Str}{Ok:It->Prop}(B:Vt names Ok)(hn:∀x∈names,x.length<=50)(h0:names≠[])(ns:List Int)(a size:Nat)(Vh:1<=size)(hs:size<=50):∃r:It,Ok r/\(r.d<=20/\r.t.length<=11000)/\fV [jr ns,.int a,.int size,.tup (names.map PV.str)]=some r.p:=
 Gj B hn EH (vR B) h0 jD (C3 (vR B)) ns a size Vh hs
end L2.D.My
namespace L2.D.My
open PySem Rq
abbrev Vv:de:=rH (tV (ae yc (dV 3) (bU cL (dV 2)))) (tV (ae gM (eX (dV 0) (aX (ae aW (dV 1) (dV 3))) (aX (ae aW (ae aW (dV 1) (dV 3)) (dC (.int 1))))) (ae ie (dV 2) (dV 3))))
theorem Ke{x:Str}{n:Nat}(hl:x.length<=100000){a:Den}{ρ:dO}{o:Den}(h0:o ρ=some (.str x))(ha:a ρ=some (.int (n:Nat))):eX o (aX a) (aX (ae aW a (dC (.int 1)))) ρ=some (.str (bK x (some (n:Int)) (some ((n+1:Nat):Int)) 1)):=by
 refine cV (y:=x) (l:=some (n:Int)) (h:=some ((n+1:Nat):Int)) h0 ?_ ?_ hl
 ·show(a ρ).bind _=_
  rw[ha]
  rfl
 ·show(ae aW a (dC (.int 1)) ρ).bind _=_
  rw[(af ha (y:=.int 1) rfl).trans rfl]
  rfl
theorem C5{w:Str}{k:Nat}(hk:k<w.length)(hl:w.length<=100000):ie (.str w) (.int (k:Nat))=some (.str ⟨#[(aJ w)[k]'(by rw[show(aJ w).length=w.length from SR];exact hk)]⟩):=by
 have zl:(100000:Nat)<=sizeLine:=by decide
 have el:(aJ w).length=w.length:=SR
 show(if w.length<=sizeLine then(itemAt w.cps.toList (k:Int)).map λc=>PV.str ⟨#[c]⟩else none)=_
 rw[if_pos (by omega)]
 have:itemAt w.cps.toList (k:Int)=some ((aJ w)[k]'(by omega)):=by
  unfold itemAt Le
  rw[if_pos (by omega),if_pos (by show(k:Int)<((aJ w).length:Int);omega)]
  show w.cps.toList[(k:Int).toNat]?=_
  rw[z0j,z0G]
 rw[this]
 rfl
theorem EI{x w:Str}{n:Nat}(hl:x.length<=100000)(hw:w.length<=900):∀(m k:Nat),k+m=w.length->∀f,m<f->
  gN Vv kl f [.sh (.str x),.sh (.int (n:Nat)),.sh (.str w),.sh (.int (k:Nat))]=some (.nx [.sh (.str x),.sh (.int (n:Nat)),.sh (.str w),.sh (.int ((k+gG ((aJ x).drop (n+k)) ((aJ w).drop k):Nat):Int))])
 |m,k,hm,0,hf=>absurd hf (by omega)
 |0,k,hm,f+1,hf=>by
  have el:(aJ w).length=w.length:=SR
  have zl:(100000:Nat)<=sizeLine:=by decide
  have t1:tV (ae yc (dV 3) (bU cL (dV 2))) [.sh (.str x),.sh (.int (n:Nat)),.sh (.str w),.sh (.int (k:Nat))]=some false:=by
   refine cq ((af (x:=.int (k:Nat)) (y:=.int (w.length:Nat)) rfl ((cK (x:=.str w) rfl).trans (if_pos (by omega)))).trans ?_)
   show some (PV.bl (decide ((k:Int)<(w.length:Int))))=_
   rw[decide_eq_false (by omega)]
  have t2:Vv [.sh (.str x),.sh (.int (n:Nat)),.sh (.str w),.sh (.int (k:Nat))]=some false:=IH t1
  rw[z0v (as:=aJ w) (by omega)]
  have:gG ((aJ x).drop (n+k)) []=0:=by cases(aJ x).drop (n+k)<;>rfl
  rw[this]
  unfold gN
  rw[t2]
  rfl
 |m+1,k,hm,f+1,hf=>by
  have el:(aJ w).length=w.length:=SR
  have zl:(100000:Nat)<=sizeLine:=by decide
  have hk:k<(aJ w).length:=by omega
  have t1:tV (ae yc (dV 3) (bU cL (dV 2))) [.sh (.str x),.sh (.int (n:Nat)),.sh (.str w),.sh (.int (k:Nat))]=some true:=by
   refine cq ((af (x:=.int (k:Nat)) (y:=.int (w.length:Nat)) rfl ((cK (x:=.str w) rfl).trans (if_pos (by omega)))).trans ?_)
   show some (PV.bl (decide ((k:Int)<(w.length:Int))))=_
   rw[decide_eq_true (by omega)]
  have t3:tV (ae gM (eX (dV 0) (aX (ae aW (dV 1) (dV 3))) (aX (ae aW (ae aW (dV 1) (dV 3)) (dC (.int 1))))) (ae ie (dV 2) (dV 3))) [.sh (.str x),.sh (.int (n:Nat)),.sh (.str w),.sh (.int (k:Nat))]=some (decide ((aJ x)[n+k]?=some ((aJ w)[k]))):=by
   refine cq ((af (Ke (n:=n+k) hl (x:=x) rfl rfl) ((af (x:=.str w) (y:=.int (k:Nat)) rfl rfl).trans (C5 (by omega) (by omega)))).trans ?_)
   show some (PV.bl (decide (bK x (some ((n+k:Nat):Int)) (some ((n+k+1:Nat):Int)) 1=one (aJ w)[k])))=_
   congr 2
   rw[decide_eq_decide,<-vx]
   exact yC x (n+k) _
  have t2:=(Cm (b:=_) t1).trans t3
  have dw:(aJ w).drop k=(aJ w)[k]::(aJ w).drop (k+1):=z1B hk
  by_cases he:(aJ x)[n+k]?=some ((aJ w)[k])
  ·rw[decide_eq_true he]at t2
   have ih:=EI hl hw m (k+1) (by omega) f (by omega) (n:=n)
   have dx:(aJ x).drop (n+k)=(aJ w)[k]::(aJ x).drop (n+(k+1)):=qM he
   have e2:gG ((aJ x).drop (n+k)) ((aJ w).drop k)=gG ((aJ x).drop (n+(k+1))) ((aJ w).drop (k+1))+1:=by
    rw[dx,dw]
    show(if(aJ w)[k]=(aJ w)[k]then _ else _)=_
    rw[if_pos rfl]
   rw[e2]
   have b1:kl [.sh (.str x),.sh (.int (n:Nat)),.sh (.str w),.sh (.int (k:Nat))]=some (.nx [.sh (.str x),.sh (.int (n:Nat)),.sh (.str w),.sh (.int ((k+1:Nat):Int))]):=aP ((af (x:=.int (k:Nat)) (y:=.int 1) rfl rfl).trans rfl)
   refine(AR (t:=Vv) t2 b1).trans (ih.trans ?_)
   rw[show k+1+gG ((aJ x).drop (n+(k+1))) ((aJ w).drop (k+1))=k+(gG ((aJ x).drop (n+(k+1))) ((aJ w).drop (k+1))+1) by omega]
  ·rw[decide_eq_false he]at t2
   have e2:gG ((aJ x).drop (n+k)) ((aJ w).drop k)=0:=by
    rw[dw]
    cases hd:(aJ x).drop (n+k)with
    |nil=>rfl
    |cons c r=>
     show(if c=(aJ w)[k]then _ else _)=_
     rw[if_neg λz=>he (by rw[<-z];exact AL hd)]
   rw[e2]
   exact AQ (t:=Vv) t2
theorem Kf{x w:Str}{n:Nat}(hl:x.length<=100000)(hw:w.length<=900):dz [.str x,.int (n:Nat),.str w]=some (.int (gG ((aJ x).drop n) (aJ w):Nat)):=by
 refine d0 rfl ?_
 refine(av (aP (p:=.int ((0:Nat):Int)) rfl)).trans ?_
 refine(av (EI hl hw w.length 0 (by omega) 1000 (by omega))).trans ?_
 refine dr ?_
 show some (PV.int ((0+gG ((aJ x).drop (n+0)) ((aJ w).drop 0):Nat):Int))=_
 rw[Nat.zero_add,Nat.add_zero,z1P]
theorem Gk(x:Str)(n:Nat):aJ (bK x (some (n:Int)) (some ((n+1:Nat):Int)) 1)=((aJ x).drop n).take 1:=by
 have el:(aJ x).length=x.length:=SR
 by_cases h:n<x.length
 ·have:=rW (x:=x) (a:=n) (b:=n+1) (by omega) (by omega) (IX n (n+1) x.length (by omega) (by omega))
  refine this.trans ?_
  congr 1
  omega
 ·have e:=beyond x n (n+1) (by omega) (by omega)
  rw[z0v (by omega)]
  exact e
theorem EJ{w:Str}{l:List Nat}{c:Nat}(h:aJ w=l++[c])(hl:w.length<=100000):ie (.str w) (.int (-1))=some (.str (one c)):=by
 have zl:(100000:Nat)<=sizeLine:=by decide
 show(if w.length<=sizeLine then(itemAt w.cps.toList (-1)).map λc=>PV.str ⟨#[c]⟩else none)=_
 rw[if_pos (by omega),show w.cps.toList=l++[c]from h,yD]
 rfl
theorem one_inj(c d:Nat):decide (one c=one d)=decide (c=d):=by
 rw[decide_eq_decide]
 constructor
 ·intro h
  injection h with h
  injection h with h
  exact(z19 h).1
 ·rintro rfl
  rfl
theorem NT:(("(" :Str))=one 40:=by decide+kernel
theorem UQ:aJ ("a" :Str)=[97]:=by decide+kernel
theorem UR:aJ ("z" :Str)=[122]:=by decide+kernel
theorem ME:aJ ("" :Str)=[]:=by decide+kernel
section
variable{x v:Str}{n:Nat}
abbrev vU(x:Str)(n:Nat):Str:=bK x (some (n:Int)) (some ((n+1:Nat):Int)) 1
def Bp(x v:Str)(n:Nat):Bool:=decide (gG ((aJ x).drop n) (aJ v)=v.length)&&(decide ((aJ v).getLast?=some 40)||decide (vU x (n+gG ((aJ x).drop n) (aJ v))= "")||decide (aJ (vU x (n+gG ((aJ x).drop n) (aJ v)))<aJ "a")||decide (aJ "z" <aJ (vU x (n+gG ((aJ x).drop n) (aJ v)))))
theorem Kg:Bp x v n=true↔∃post,(aJ x).drop n=aJ v++post/\AJ (aJ v) post:=by
 have ev:(aJ v).length=v.length:=SR
 unfold Bp
 rw[z0F,z0r,z0r,z0r,decide_eq_true_iff,decide_eq_true_iff,decide_eq_true_iff,decide_eq_true_iff,decide_eq_true_iff]
 have key:gG ((aJ x).drop n) (aJ v)=v.length->∀post,(aJ x).drop n=aJ v++post->aJ (vU x (n+gG ((aJ x).drop n) (aJ v)))=post.take 1:=λh post e=>by
  rw[Gk,h,<-ev,<-z1k,e]
  simp
 constructor
 ·rintro⟨h1,h2⟩
  obtain⟨post,e⟩:=ID (h1.trans ev.symm)
  have k:=key h1 post e
  refine⟨post,e,?_⟩
  rcases h2 with((h2|h2)|h2)|h2
  ·exact .inl h2
  ·right
   intro c p hp
   rw[h2,ME,hp]at k
   cases k
  ·right
   intro c p hp
   rw[k,hp,UQ]at h2
   unfold AI
   have:[c]<[97]:=h2
   have:c<97:=by
    rw[z1Q]at this
    rcases this with h|⟨_,h⟩
    ·exact h
    ·exact absurd h (List.not_lt_nil _)
   omega
  ·right
   intro c p hp
   rw[k,hp,UR]at h2
   unfold AI
   have:[122]<[c]:=h2
   have:122<c:=by
    rw[z1Q]at this
    rcases this with h|⟨_,h⟩
    ·exact h
    ·exact absurd h (List.not_lt_nil _)
   omega
 ·rintro⟨post,e,he⟩
  have h1:gG ((aJ x).drop n) (aJ v)=v.length:=by rw[e,yw,ev]
  have k:=key h1 post e
  refine⟨h1,?_⟩
  rcases he with he|he
  ·exact .inl (.inl (.inl he))
  ·cases post with
   |nil=>exact .inl (.inl (.inr (qP (by rw[show(vU x (n+gG ((aJ x).drop n) (aJ v))).cps.toList=[]from k];exact ME.symm))))
   |cons c p=>
    have:=he c p rfl
    unfold AI at this
    by_cases hc:c<97
    ·refine .inl (.inr ?_)
     rw[k,UQ]
     exact z1Q.mpr (.inl hc)
    ·refine .inr ?_
     rw[k,UR]
     exact z1Q.mpr (.inl (by omega))
end
abbrev Q8:de:=rH (tV (ae gM (dV 7) (bU cL (dV 6)))) (xO (tV (bZ 9)) (xO (tV (ae FH (dV 8) (dC (.str "a")))) (tV (ae Md (dV 8) (dC (.str "z"))))))
theorem C6{x:Str}{n:Nat}(hl:x.length<=100000)(s0 s5 s7 s8 s9:Slot)(b:Nat)(w v:Str)(hv:v.length<=900)(Y3:aJ v≠[]):
  ∃t7 t8 t9,km dz [s0,.sh (.str x),.sh (.int (n:Nat)),.sh (.int (b:Nat)),.sh (.str w),s5,.sh (.str v),s7,s8,s9]=some (.nx [s0,.sh (.str x),.sh (.int (n:Nat)),.sh (.int ((max b (gG ((aJ x).drop n) (aJ v)):Nat):Int)),.sh (.str (if Bp x v n then v else w)),s5,.sh (.str v),t7,t8,t9]):=by
 have zl:(100000:Nat)<=sizeLine:=by decide
 have ev:(aJ v).length=v.length:=SR
 obtain⟨m,hm⟩:∃m,m=gG ((aJ x).drop n) (aJ v):=⟨_,rfl⟩
 obtain⟨l,c,hc⟩:∃l c,aJ v=l++[c]:=⟨(aJ v).dropLast,(aJ v).getLast Y3,(z1R Y3).symm⟩
 have Kh:(aJ v).getLast?=some c:=by rw[hc];simp
 refine⟨.sh (.int (m:Nat)),.sh (.str (vU x (n+m))),.sh (.bl (decide (c=40)||decide (vU x (n+m)= ""))),?_⟩
 refine(av (aP ((bu (ps:=[.str x,.int (n:Nat),.str v]) rfl).trans (Kf hl hv)))).trans ?_
 rw[<-hm]
 refine(av (aP (p:=.int ((max b m:Nat):Int)) ?_)).trans ?_
 ·refine(af (x:=.int (b:Nat)) (y:=.int (m:Nat)) rfl rfl).trans ?_
  show some (PV.int _)=_
  congr 2
  simp only[Int.max_def,Nat.max_def]
  split<;>split<;>omega
 refine(av (aP (p:=.str (vU x (n+m))) ?_)).trans ?_
 ·exact Ke (n:=n+m) hl (x:=x) rfl rfl
 refine(av (aP (p:=.bl (decide (c=40)||decide (vU x (n+m)= ""))) ?_)).trans ?_
 ·have e1:ae gM (ae ie (dV 6) (bU mQ (dC (.int 1)))) (dC (.str "(")) [s0,.sh (.str x),.sh (.int (n:Nat)),.sh (.int ((max b m:Nat):Int)),.sh (.str w),s5,.sh (.str v),.sh (.int (m:Nat)),.sh (.str (vU x (n+m))),s9]=some (.bl (decide (c=40))):=by
    refine(af ((af (x:=.str v) (y:=.int (-1)) rfl rfl).trans (EJ hc (by omega))) (y:=.str "(") rfl).trans ?_
    show some (PV.bl (decide (one c= "(")))=_
    rw[NT,one_inj]
  show((ae gM (ae ie (dV 6) (bU mQ (dC (.int 1)))) (dC (.str "(")) [s0,.sh (.str x),.sh (.int (n:Nat)),.sh (.int ((max b m:Nat):Int)),.sh (.str w),s5,.sh (.str v),.sh (.int (m:Nat)),.sh (.str (vU x (n+m))),s9]).bind _)=_
  rw[e1]
  cases decide (c=40)with
  |true=>rfl
  |false=>rfl
 have t:Q8 [s0,.sh (.str x),.sh (.int (n:Nat)),.sh (.int ((max b m:Nat):Int)),.sh (.str w),s5,.sh (.str v),.sh (.int (m:Nat)),.sh (.str (vU x (n+m))),.sh (.bl (decide (c=40)||decide (vU x (n+m)= "")))]=some (Bp x v n):=by
  have t1:tV (ae gM (dV 7) (bU cL (dV 6))) [s0,.sh (.str x),.sh (.int (n:Nat)),.sh (.int ((max b m:Nat):Int)),.sh (.str w),s5,.sh (.str v),.sh (.int (m:Nat)),.sh (.str (vU x (n+m))),.sh (.bl (decide (c=40)||decide (vU x (n+m)= "")))]=some (decide (m=v.length)):=by
   refine cq ((af (x:=.int (m:Nat)) (y:=.int (v.length:Nat)) rfl ((cK (x:=.str v) rfl).trans (if_pos (by omega)))).trans ?_)
   show some (PV.bl (decide ((m:Int)=(v.length:Int))))=_
   congr 2
   rw[decide_eq_decide]
   omega
  unfold Bp
  rw[Kh,<-hm]
  have Rz:decide (some c=some 40)=decide (c=40):=by rw[decide_eq_decide];exact⟨λz=>z0O z,λz=>by rw[z]⟩
  rw[Rz]
  show((tV (ae gM (dV 7) (bU cL (dV 6))) [s0,.sh (.str x),.sh (.int (n:Nat)),.sh (.int ((max b m:Nat):Int)),.sh (.str w),s5,.sh (.str v),.sh (.int (m:Nat)),.sh (.str (vU x (n+m))),.sh (.bl (decide (c=40)||decide (vU x (n+m)= "")))]).bind _)=_
  rw[t1]
  cases decide (m=v.length)with
  |false=>rfl
  |true=>
   cases decide (c=40)with
   |true=>rfl
   |false=>
    cases hb:decide (vU x (n+m)= "")with
    |true=>rfl
    |false=>
     show(xO (tV (bZ 9)) (xO (tV (ae FH (dV 8) (dC (.str "a")))) (tV (ae Md (dV 8) (dC (.str "z"))))) [s0,.sh (.str x),.sh (.int (n:Nat)),.sh (.int ((max b m:Nat):Int)),.sh (.str w),s5,.sh (.str v),.sh (.int (m:Nat)),.sh (.str (vU x (n+m))),.sh (.bl (false||false))])=_
     have t2:tV (ae FH (dV 8) (dC (.str "a"))) [s0,.sh (.str x),.sh (.int (n:Nat)),.sh (.int ((max b m:Nat):Int)),.sh (.str w),s5,.sh (.str v),.sh (.int (m:Nat)),.sh (.str (vU x (n+m))),.sh (.bl (false||false))]=some (decide (aJ (vU x (n+m))<aJ "a")):=cq rfl
     refine(vj (cq rfl)).trans ?_
     show((tV (ae FH (dV 8) (dC (.str "a"))) [s0,.sh (.str x),.sh (.int (n:Nat)),.sh (.int ((max b m:Nat):Int)),.sh (.str w),s5,.sh (.str v),.sh (.int (m:Nat)),.sh (.str (vU x (n+m))),.sh (.bl (false||false))]).bind _)=_
     rw[t2]
     cases decide (aJ (vU x (n+m))<aJ "a")<;>rfl
 cases hw:Bp x v n with
 |true=>
  rw[hw]at t
  exact(iV t).trans (aP rfl)
 |false=>
  rw[hw]at t
  exact(iD t).trans rfl
def tf(x:Str)(n:Nat):List Str->Nat->Str->Nat×Str
 |[],b,w=>(b,w)
 |v::vs,b,w=>tf x n vs (max b (gG ((aJ x).drop n) (aJ v))) (if Bp x v n then v else w)
theorem xJ{x:Str}{n:Nat}(hl:x.length<=100000)(s0 s5:Slot):∀(vs:List Str) (b:Nat) (w:Str) (s6 s7 s8 s9:Slot),(∀v∈vs,v.length<=900/\aJ v≠[])->
  ∃t6 t7 t8 t9,forL (dF 6) (km dz) (vs.map PV.str) [s0,.sh (.str x),.sh (.int (n:Nat)),.sh (.int (b:Nat)),.sh (.str w),s5,s6,s7,s8,s9]=some (.nx [s0,.sh (.str x),.sh (.int (n:Nat)),.sh (.int ((tf x n vs b w).1:Nat)),.sh (.str (tf x n vs b w).2),s5,t6,t7,t8,t9])
 |[],b,w,s6,s7,s8,s9,_=>⟨s6,s7,s8,s9,rfl⟩
 |v::vs,b,w,s6,s7,s8,s9,h=>by
  obtain⟨h1,h2⟩:=h v (RF ..)
  obtain⟨t7,t8,t9,e⟩:=C6 hl (n:=n) s0 s5 s7 s8 s9 b w v h1 h2
  obtain⟨u6,u7,u8,u9,f⟩:=xJ hl s0 s5 vs (max b (gG ((aJ x).drop n) (aJ v))) (if Bp x v n then v else w) (.sh (.str v)) t7 t8 t9 λu hu=>h u (X5 _ hu)
  refine⟨u6,u7,u8,u9,Eq.trans ?_ f⟩
  exact um (i:=6) (x:=.str v) (xs:=vs.map PV.str) (ρ:=[s0,.sh (.str x),.sh (.int (n:Nat)),.sh (.int (b:Nat)),.sh (.str w),s5,s6,s7,s8,s9]) e
theorem US{x:Str}{n:Nat}:∀(vs:List Str) (b:Nat) (w:Str),b<=(tf x n vs b w).1/\(∀v∈vs,gG ((aJ x).drop n) (aJ v)<=(tf x n vs b w).1)/\∀m,b<=m->(∀v∈vs,gG ((aJ x).drop n) (aJ v)<=m)->(tf x n vs b w).1<=m
 |[],b,w=>⟨U5 _,(λv hv=>by cases hv),λm h _=>h⟩
 |v::vs,b,w=>by
  obtain⟨h1,h2,h3⟩:=US (x:=x) (n:=n) vs (max b (gG ((aJ x).drop n) (aJ v))) (if Bp x v n then v else w)
  refine⟨z0T (Nat.le_max_left _ _) h1,λu hu=>?_,λm hm hv=>h3 m (Nat.max_le.mpr ⟨hm,hv v (RF ..)⟩) λu hu=>hv u (X5 _ hu)⟩
  rcases z0N.mp hu with rfl|hu
  ·exact z0T (Nat.le_max_right _ _) h1
  ·exact h2 u hu
theorem Q9{x:Str}{n:Nat}:∀(vs:List Str) (b:Nat) (w:Str),((tf x n vs b w).2=w/\∀v∈vs,Bp x v n=false)\/((tf x n vs b w).2∈vs/\Bp x (tf x n vs b w).2 n=true)
 |[],b,w=>.inl ⟨rfl,λv hv=>by cases hv⟩
 |v::vs,b,w=>by
  have ih:=Q9 (x:=x) (n:=n) vs (max b (gG ((aJ x).drop n) (aJ v))) (if Bp x v n then v else w)
  show((tf x n vs (max b (gG ((aJ x).drop n) (aJ v))) (if Bp x v n then v else w)).2=w/\_)\/((tf x n vs (max b (gG ((aJ x).drop n) (aJ v))) (if Bp x v n then v else w)).2∈v::vs/\Bp x (tf x n vs (max b (gG ((aJ x).drop n) (aJ v))) (if Bp x v n then v else w)).2 n=true)
  rcases ih with⟨h1,h2⟩|⟨h1,h2⟩
  ·cases hw:Bp x v n with
   |true=>
    rw[hw]at h1
    rw[if_pos rfl]at h1⊢
    refine .inr ⟨by rw[h1];exact RF ..,by rw[h1];exact hw⟩
   |false=>
    rw[hw]at h1
    rw[if_neg Bool.noConfusion]at h1⊢
    refine .inl ⟨h1,λu hu=>?_⟩
    rcases z0N.mp hu with rfl|hu
    ·exact hw
    ·exact h2 u hu
  ·exact .inr ⟨X5 _ h1,h2⟩
def Ra:List Str:=["1 of (","2 of (","3 of (","4 of (","5 of (","6 of (","7 of (","8 of ("]
def Rb:List Str:=["all(","any("]
def jY(names:List Str):List Str:=Rb++names++Ra
theorem rG{names:List Str}{v:Str}:v∈jY names↔v∈names++ops:=by
 have:ops=Rb++Ra:=rfl
 unfold jY
 rw[this]
 simp only[z0L]
 constructor
 ·rintro((h|h)|h)
  ·exact .inr (.inl h)
  ·exact .inl h
  ·exact .inr (.inr h)
 ·rintro(h|h|h)
  ·exact .inl (.inr h)
  ·exact .inl (.inl h)
  ·exact .inr h
theorem MF:(ops.all λv=>decide (v.length<=900)&&decide (aJ v≠[]))=true:=by decide+kernel
theorem zz{names:List Str}(hN:∀x∈names,Bz x):∀v∈jY names,v.length<=900/\aJ v≠[]:=λv hv=>by
 rcases z0L.mp (rG.mp hv)with h|h
 ·obtain⟨_,h1,h2,_⟩:=hN v h
  have ev:(aJ v).length=v.length:=SR
  exact⟨by omega,λz=>by rw[z]at ev;simp at ev;omega⟩
 ·have:=z0M.mp MF v h
  rw[z0F]at this
  exact⟨of_decide_eq_true this.1,of_decide_eq_true this.2⟩
theorem Rc:aJ ("12345678" :Str)=[49,50,51,52,53,54,55,56]:=by decide+kernel
theorem Rf:Ra=[49,50,51,52,53,54,55,56].map λc=>one c++(" of (" :Str):=by decide+kernel
theorem Ki{x:Str}{n:Nat}{names:List Str}(hl:x.length<=100000)(hN:∀x∈names,Bz x)(h6:names.length<=6):
  fW [.tup (names.map PV.str),.str x,.int (n:Nat)]=some (.tup [.int ((tf x n (jY names) 0 "").1:Nat),.str (tf x n (jY names) 0 "").2]):=by
 have zl:(100000:Nat)<=sizeLine:=by decide
 obtain⟨t6,t7,t8,t9,f⟩:=xJ hl (n:=n) (.sh (.tup (names.map PV.str))) (.sh (.lst ((jY names).map PV.str))) (jY names) 0 "" .un .un .un .un (zz hN)
 refine d0 rfl ?_
 refine(av (aP (p:=.int ((0:Nat):Int)) rfl)).trans ?_
 refine(av (aP (p:=.str "") rfl)).trans ?_
 refine(av (aP (p:=.lst ((Rb++names).map PV.str)) ?_)).trans ?_
 ·refine(af (x:=.lst [.str "all(",.str "any("]) (y:=.lst (names.map PV.str)) ?_ rfl).trans ?_
  ·show(if(2:Nat)<=sizeLine then some (PV.lst [.str "all(",.str "any("])else none)=_
   rw[if_pos (by omega)]
  ·show(if([PV.str "all(",.str "any("]).length+(names.map PV.str).length<=sizeLine then some (PV.lst ([PV.str "all(",.str "any("]++names.map PV.str))else none)=_
   rw[if_pos (by rw[X6];simp;omega),z0b]
   rfl
 refine(av (aP (p:=.lst ((jY names).map PV.str)) ?_)).trans ?_
 ·refine(af (x:=.lst ((Rb++names).map PV.str)) (y:=.lst (Ra.map PV.str)) rfl ?_).trans ?_
  ·refine(jg (λc=>.str (one c)) (λc=>.str (one c++(" of (" :Str))) (xs:=[49,50,51,52,53,54,55,56]) ?_ (by decide) λc _=>?_).trans ?_
   ·show(if("12345678" :Str).cps.all (·<128)then some (signs ("12345678" :Str))else none)=_
    rw[if_pos (by decide+kernel)]
    show some ((aJ ("12345678" :Str)).map λc=>PV.str (one c))=_
    rw[Rc]
   ·refine(af (x:=.str (one c)) (y:=.str " of (") rfl rfl).trans (bC _ _ ?_)
    have:(" of (" :Str).length=5:=by decide+kernel
    show 1+(" of (" :Str).length<=_
    omega
   ·rw[Rf,z1I]
    rfl
  ·show(if((Rb++names).map PV.str).length+(Ra.map PV.str).length<=sizeLine then some (PV.lst ((Rb++names).map PV.str++Ra.map PV.str))else none)=_
   rw[if_pos (by rw[X6,X6,z0E];have:Ra.length=8:=rfl;have:Rb.length=2:=rfl;omega),<-z0b]
   rfl
 refine(av ((qN (xs:=(jY names).map PV.str) (vi (l:=(jY names).map PV.str) rfl)).trans f)).trans ?_
 exact dr (jE (aA (x:=.int ((tf x n (jY names) 0 "").1:Nat)) rfl (aA (x:=.str (tf x n (jY names) 0 "").2) rfl rfl)) (by simp))
def Gm(names:List Str)(x:Str)(n:Nat):Nat×Option (List Nat):=((tf x n (jY names) 0 "").1,if(tf x n (jY names) 0 "").2= "" then none else some (aJ (tf x n (jY names) 0 "").2))
theorem vV{names:List Str}{x:Str}{w:List Nat}:w∈(sy names x).ws↔∃v∈jY names,aJ v=w:=by
 rw[yB]
 constructor
 ·intro h
  exact⟨_,rG.mpr h,rfl⟩
 ·rintro⟨v,h,rfl⟩
  rw[j8]
  exact rG.mp h
theorem XI{v:Str}(h:aJ v≠[]):v≠ "" :=λz=>h (by rw[z];exact ME)
theorem Kj{names:List Str}(hN:∀x∈names,Bz x)(x:Str):AK (sy names x) (Gm names x) where
 b:=λn _=>by
  obtain⟨_,h2,h3⟩:=US (x:=x) (n:=n) (jY names) 0 ""
  refine z1y (h3 _ (z0S _) λv hv=>?_) (L7 λw hw=>?_)
  ·exact L6 (S:=sy names x) (n:=n) (vV.mpr ⟨v,hv,rfl⟩)
  ·obtain⟨v,hv,rfl⟩:=vV.mp hw
   exact h2 v hv
 y:=λn w _ h=>by
  have h:(if(tf x n (jY names) 0 "").2= "" then none else some (aJ (tf x n (jY names) 0 "").2))=some w:=h
  split at h
  ·cases h
  rename_i Hh
  cases h
  rcases Q9 (x:=x) (n:=n) (jY names) 0 "" with⟨h1,_⟩|⟨h1,h2⟩
  ·exact absurd h1 Hh
  ·exact⟨vV.mpr ⟨_,h1,rfl⟩,Kg.mp h2⟩
 n:=λn _ h w hw post e he=>by
  have h:(if(tf x n (jY names) 0 "").2= "" then none else some (aJ (tf x n (jY names) 0 "").2))=none:=h
  split at h
  rotate_left
  ·cases h
  rename_i Hh
  obtain⟨v,hv,rfl⟩:=vV.mp hw
  have:=Kg.mpr ⟨post,e,he⟩
  rcases Q9 (x:=x) (n:=n) (jY names) 0 "" with⟨_,h1⟩|⟨h1,_⟩
  ·rw[h1 v hv]at this
   cases this
  ·exact XI (zz hN _ h1).2 Hh
theorem uo:(ops.all λv=>decide ((aJ v).getLast?=some 40)&&decide (40∉(aJ v).dropLast)&&decide (iC (aJ v)=1)&&decide (fD v=some (TU (aJ v)))&&(match Rq.mE.lookup v with|some k=>(decide (k=TU (aJ v))&&decide (1<=k))||(decide (TU (aJ v)=-1)&&decide (k=1))|none=>false))=true:=by decide+kernel
theorem MG:(ops.all λv=>ops.all λw=>!decide (aJ v≠aJ w/\(aJ w).isPrefixOf (aJ v)=true))=true:=by decide+kernel
theorem MH:(ops.all λv=>(List.range (aJ v).length).all λk=>let u:=(aJ v).take (k+1);u.any (λc=>!decide (AI c))||decide (pF u∈Qs)||(match(aJ v)[k+1]? with|some c=>decide (AI c)|none=>false))=true:=by decide+kernel
theorem EK{names:List Str}(hN:∀x∈names,Bz x)(x:Str):Wd (sy names x).names (sy names x).ops where
 ne:=λv hv=>by
  obtain⟨u,hu,rfl⟩:=z0R.mp hv
  exact(zz hN u (rG.mpr (z0L.mpr (.inl hu)))).2
 let_:=λv hv c hc=>by
  obtain⟨u,hu,rfl⟩:=z0R.mp hv
  exact(hN u hu).1 c hc
 op:=λv hv=>by
  obtain⟨u,hu,rfl⟩:=z0R.mp hv
  have:=z0M.mp uo u hu
  simp only[z0F,decide_eq_true_eq]at this
  obtain⟨⟨⟨⟨h1,h2⟩,_⟩,_⟩,_⟩:=this
  have Hh:aJ u≠[]:=λz=>by rw[z]at h1;cases h1
  have:=z1R Hh
  rw[List.getLast?_eq_some_getLast Hh]at h1
  rw[z0O h1]at this
  exact⟨_,this.symm,h2⟩
 one:=λv' Sr w' XJ u e=>by
  obtain⟨v,hv,rfl⟩:=z0R.mp Sr
  obtain⟨w,hw,rfl⟩:=z0R.mp XJ
  have:=z0M.mp (z0M.mp MG v hv) w hw
  rw[z1W,decide_eq_false_iff_not]at this
  have pr:(aJ w).isPrefixOf (aJ v)=true:=List.isPrefixOf_iff_prefix.mpr ⟨u,e.symm⟩
  have eq:aJ v=aJ w:=z0W λz=>this ⟨z,pr⟩
  rw[eq]at e
  have:=congrArg List.length e
  rw[z0E]at this
  exact List.length_eq_zero_iff.mp (by omega)
 non:=λv' Sr w' XJ u e hu=>by
  obtain⟨v,hv,rfl⟩:=z0R.mp Sr
  obtain⟨w,hw,rfl⟩:=z0R.mp XJ
  obtain⟨h1,h2,_,h4⟩:=hN w hw
  have ew:(aJ w).length=w.length:=SR
  have hl:=congrArg List.length e
  rw[z0E]at hl
  have:=z0M.mp (z0M.mp MH v hv) (w.length-1) (z0l.mpr (by omega))
  rw[show w.length-1+1=(aJ w).length by omega]at this
  have et:(aJ v).take (aJ w).length=aJ w:=by rw[e];simp
  rw[et,z0r,z0r]at this
  rcases this with(z|z)|z
  ·obtain⟨c,hc,h⟩:=List.any_eq_true.mp z
   rw[z1W,decide_eq_false_iff_not]at h
   exact h (h1 c hc)
  ·rw[j8]at z
   rw[nk]at h4
   rw[h4]at z
   cases z
  ·rw[e,z1n (U5 _),z2B]at z
   cases u with
   |nil=>cases z
   |cons c p=>exact hu c p rfl (of_decide_eq_true z)
theorem XM{w:Str}(h0:aJ w≠[])(h:w.length<=900):lD w=some (decide ((aJ w).getLast?=some 40)):=by
 obtain⟨l,c,hc⟩:∃l c,aJ w=l++[c]:=⟨(aJ w).dropLast,(aJ w).getLast h0,(z1R h0).symm⟩
 have Kh:(aJ w).getLast?=some c:=by rw[hc];simp
 rw[Kh]
 have Rz:decide (some c=some 40)=decide (c=40):=by rw[decide_eq_decide];exact⟨λz=>z0O z,λz=>by rw[z]⟩
 rw[Rz]
 refine cq ((af ((af (x:=.str w) (y:=.int (-1)) rfl rfl).trans (EJ hc (by omega))) (y:=.str "(") rfl).trans ?_)
 show some (PV.bl (decide (one c= "(")))=_
 rw[NT,one_inj]
theorem NU{S T:Sy PV}(h:S.x=T.x):∀(p:Rq.Pile) (n:Nat),S.oG n p=T.oG n p
 |[],n=>by
  unfold Sy.oG
  rw[h]
 |(f,c)::p,n=>by
  unfold Sy.oG
  rw[h,NU h p (n+1)]
theorem EL{S:Sy PV}:∀(p:Rq.Pile) {n a w:Nat} {p':Rq.Pile},S.oG n p=((a,w),p')->p'.length<=p.length
 |[],n,a,w,p',h=>by
  have h:((n,if n=S.x.length then 2 else 1),[])=((a,w),p'):=h
  cases h
  exact U5 _
 |(f,c)::p,n,a,w,p',h=>by
  unfold Sy.oG at h
  split at h
  ·split at h<;>(cases h;exact U5 _)
  ·split at h
   ·cases h;exact U5 _
   ·exact z0T (EL p h) (z1Y _)
theorem zA{names:List Str}{x:Str}(hl:x.length<=100000)(hN:∀x∈names,Bz x)(h6:names.length<=6):
  ∀(k n:Nat) (p:Rq.Pile),n<=x.length->p.length+k<=50000->qQ fW (.tup (names.map PV.str)) x k n p=(sy names x).scan (Gm names x) k n p
 |0,n,p,_,_=>rfl
 |k+1,n,p,hn,hp=>by
  have ex:(aJ x).length=x.length:=SR
  have T:=Kj hN x
  unfold qQ Sy.scan
  rw[Ki hl hN h6]
  have et:Gm names x n=((tf x n (jY names) 0 "").1,if(tf x n (jY names) 0 "").2= "" then none else some (aJ (tf x n (jY names) 0 "").2)):=rfl
  by_cases h0:(tf x n (jY names) 0 "").2= ""
  ·rw[et]
   rw[if_pos h0]
   dsimp only
   rw[if_pos h0,if_pos (Int.natCast_nonneg _),z0j]
  ·have t2:(Gm names x n).2=some (aJ (tf x n (jY names) 0 "").2):=by rw[et];exact if_neg h0
   obtain⟨y1,post,y2,y3⟩:=T.y n _ (by show n<=(aJ x).length;omega) t2
   rw[et]
   rw[if_neg h0]
   dsimp only
   rw[if_neg h0]
   generalize(tf x n (jY names) 0 "").2=w at*
   have ew:(aJ w).length=w.length:=SR
   obtain⟨_,hle⟩:=take_drop (x:=aJ x) (by omega) y2
   rw[ew,ex]at hle
   rw[if_pos ⟨hle,by omega⟩]
   obtain⟨v,hv,O9⟩:=vV.mp y1
   have O9:v=w:=qP O9
   subst O9
   obtain⟨q1,q2⟩:=zz hN v hv
   rw[XM q2 q1]
   by_cases UT:(aJ v).getLast?=some 40
   ·rw[decide_eq_true UT,if_pos UT]
    dsimp only
    have V6:v∈ops:=by
     rcases z0L.mp (rG.mp hv)with h|h
     ·exact absurd UT ((EK hN x).Ek (z0R.mpr ⟨v,h,rfl⟩))
     ·exact h
    have:=z0M.mp uo v V6
    simp only[z0F,decide_eq_true_eq]at this
    obtain⟨⟨⟨⟨_,_⟩,_⟩,h4⟩,_⟩:=this
    rw[h4,ew]
    exact zA hl hN h6 k _ _ hle (by rw[Wk];omega)
   ·rw[decide_eq_false UT,if_neg UT]
    dsimp only
    rw[ew,NU (S:=Vk x) (T:=sy names x) rfl]
    rcases hb:(sy names x).oG (n+v.length) p with⟨⟨a,w⟩,p'⟩
    have hw:=Jj p hb
    match w,hw with
    |1,_=>rfl
    |2,_=>rfl
    |0,_=>
     have:=Cj p hb (by decide) (by decide)
     have hlp:=EL p hb
     exact zA hl hN h6 k _ _ (by have:=this.2;rw[show(sy names x).x.length=x.length from ex]at this;exact this) (by omega)
theorem Rh:(("parts" :Str)==("wanted" :Str))=false:=by decide+kernel
theorem Ri:(("parts" :Str)==("parts" :Str))=true:=by decide+kernel
theorem Rj:(("wanted" :Str)==("wanted" :Str))=true:=by decide+kernel
theorem Rk:(("name" :Str)==("name" :Str))=true:=by decide+kernel
theorem Kk(p:PV):kQ oN "name" (.ins 0 [p])=some p:=by
 show List.lookup ("name" :Str) [("name",p)]=_
 rw[z0K,Rk]
theorem C7{c:Nat}(h0:0<c)(h4:c<4)(w q:PV):kQ oN "wanted" (.ins c [w,q])=some w:=by
 have e:oN c=[("wanted" :Str),("parts" :Str)]:=by
  unfold oN RK
  rw[if_neg (by omega),if_neg (by omega),if_pos h4]
 show List.lookup ("wanted" :Str) ((oN c).zip [w,q])=_
 rw[e,z03,z0K,Rj]
theorem Gn{c:Nat}(h0:0<c)(h4:c<4)(w q:PV):kQ oN "parts" (.ins c [w,q])=some q:=by
 have e:oN c=[("wanted" :Str),("parts" :Str)]:=by
  unfold oN RK
  rw[if_neg (by omega),if_neg (by omega),if_pos h4]
 show List.lookup ("parts" :Str) ((oN c).zip [w,q])=_
 rw[e,z03,z0K,Rh,z03,z0K,Ri]
def Ok(i:It):Prop:=∃c l,i.o=.ins c l/\c<4/\∀m,i.d<=m->jG (m+1) c [i.o]=some (.str i.t)
theorem MI(x:Str)(s:PV):Ok ⟨.ins 0 [.str x],s,x,0⟩:=
 ⟨0,_,rfl,by decide,λm _=>ng rfl ((cK (x:=.ins 0 [.str x]) rfl).trans (Kk _))⟩
section
variable{its:List It}{n:Nat}(h8:its.length<=8)(hw:wt its<=50000)(hi:∀i∈its,Ok i/\i.d<=n)
include h8 hw hi
theorem vW{m c:Nat}(hm:n<m)(h0:0<c)(h4:c<4)(w:PV):fn false 1 1 (cx (jG m)) [.ins c [w,.tup (its.map It.o)]]=some (.str (Jn its)):=by
 refine ng rfl ?_
 have dc:eI (OZ (bU (kQ oN "parts") (dV 0))) eY (jA (jG m) (bZ 0) aO) [.sh (.ins c [w,.tup (its.map It.o)])]=some (.lst (its.map λi=>.str i.t)):=by
  refine jg It.o (λi=>.str i.t) ?_ (by omega) λi Yg=>?_
  ·show((bU (kQ oN "parts") (dV 0)) [.sh (.ins c [w,.tup (its.map It.o)])]).bind Hc=_
   rw[(cK (x:=.ins c [w,.tup (its.map It.o)]) rfl).trans (Gn h0 h4 _ _)]
   rfl
  ·obtain⟨⟨ci,l,e,_,hs⟩,hd⟩:=hi i Yg
   obtain⟨k,rfl⟩:∃k,m=k+1:=⟨m-1,by omega⟩
   have:=hs k (by omega)
   rw[e]at this⊢
   exact this
 refine(af (x:=.str Bn) rfl dc).trans ?_
 have:=xA Bn (its.map It.t) (by rw[C1];omega)
 rw[z1I]at this
 exact this
theorem Rl(s:PV):Ok ⟨.ins 1 [.int (its.length:Nat),.tup (its.map It.o)],s,("all(" :Str)++(Jn its++oA),1+n⟩:=by
 have lJ:=EG its
 have lA:("all(" :Str).length=4:=by decide+kernel
 have lC:oA.length=1:=rfl
 refine⟨1,_,rfl,by decide,λm hm=>?_⟩
 have e:=vW h8 hw hi (m:=m) (c:=1) (by have:1+n<=m:=hm;omega) (by decide) (by decide) (.int (its.length:Nat))
 rw[<-rV]
 exact ng rfl ((af (y:=.str oA) ((af (x:=.str "all(") (y:=.str (Jn its)) rfl e).trans (bC _ _ (by omega))) rfl).trans (bC _ _ (by rw[cI];omega)))
theorem Rm(s:PV):Ok ⟨.ins 2 [.int 1,.tup (its.map It.o)],s,("any(" :Str)++(Jn its++oA),1+n⟩:=by
 have lJ:=EG its
 have lA:("any(" :Str).length=4:=by decide+kernel
 have lC:oA.length=1:=rfl
 refine⟨2,_,rfl,by decide,λm hm=>?_⟩
 have e:=vW h8 hw hi (m:=m) (c:=2) (by have:1+n<=m:=hm;omega) (by decide) (by decide) (.int 1)
 rw[<-rV]
 exact ng rfl ((af (y:=.str oA) ((af (x:=.str "any(") (y:=.str (Jn its)) rfl e).trans (bC _ _ (by omega))) rfl).trans (bC _ _ (by rw[cI];omega)))
theorem MJ(s:PV){w:Nat}(h2:w<=its.length):Ok ⟨.ins 3 [.int (w:Nat),.tup (its.map It.o)],s,((toString (w:Int):Str)++(" of (" :Str))++(Jn its++oA),1+n⟩:=by
 have lJ:=EG its
 have lS:(" of (" :Str).length=5:=by decide+kernel
 have lW:=Kb (m:=w) (by omega)
 have lC:oA.length=1:=rfl
 refine⟨3,_,rfl,by decide,λm hm=>?_⟩
 have e:=vW h8 hw hi (m:=m) (c:=3) (by have:1+n<=m:=hm;omega) (by decide) (by decide) (.int (w:Nat))
 have kJ:Fd (.int (w:Nat))=some (.str (toString (w:Int))):=by
  show(if decide ((w:Int).natAbs<1000000)then some (PV.str (toString (w:Int)))else none)=_
  rw[if_pos (decide_eq_true (by omega))]
 rw[<-rV]
 refine ng rfl ((af (y:=.str oA) ((af (x:=.str ((toString (w:Int):Str)++(" of (" :Str))) (y:=.str (Jn its)) ?_ e).trans (bC _ _ (by rw[cI];omega))) rfl).trans (bC _ _ (by rw[cI,cI];omega)))
 exact(af (x:=.str (toString (w:Int))) (y:=.str " of (") ((cK ((cK (x:=.ins 3 [.int (w:Nat),.tup (its.map It.o)]) rfl).trans (C7 (by decide) (by decide) _ _))).trans kJ) rfl).trans (bC _ _ (by omega))
end
def kZ:List It->List Nat
 |[]=>[]
 |i::l=>44::32::(aJ i.t++kZ l)
theorem Rn:((", " :Str)).cps.toList=[44,32]:=by decide+kernel
theorem A3:aJ (")" :Str)=[41]:=by decide+kernel
theorem Bq:∀(rest:List It) (a:Array Nat),(((rest.map It.t).foldl (λacc (p:Str)=>acc++(", " :Str).cps++p.cps) a)).toList=a.toList++kZ rest
 |[],a=>by simp[kZ]
 |i::l,a=>by
  rw[z0Q,z01,Bq l,z1J,z1J,Rn]
  show _=a.toList++44::32::(i.t.cps.toList++kZ l)
  simp
theorem Ro(i:It)(rest:List It):aJ (Jn (i::rest))=aJ i.t++kZ rest:=by
 show(((rest.map It.t).foldl (λacc (p:Str)=>acc++(", " :Str).cps++p.cps) i.t.cps)).toList=_
 exact Bq rest i.t.cps
theorem fQ(x y:Str):aJ (x++y)=aJ x++aJ y:=by
 show(x.cps++y.cps).toList=_
 exact z1J ..
theorem C8(w:Str)(i:It)(rest:List It):aJ (w++(Jn (i::rest)++oA))=aJ w++(aJ i.t++(kZ rest++[41])):=by
 rw[fQ,fQ,Ro,A3,z08]
theorem Br:∀l:List It,(kZ l).length=wt l
 |[]=>rfl
 |i::l=>by
  have e1:(aJ i.t).length=i.t.length:=SR
  show(44::32::(aJ i.t++kZ l)).length=_
  rw[Wk,Wk,z0E,Br l,yA,e1]
  omega
def gT(d:Nat)(t:List Nat)(r:PV):Prop:=t.length<=20000->∃i:It,Ok i/\i.o=r/\aJ i.t=t/\i.d<=d
theorem Km{d:Nat}:∀(ts:List (List Nat×PV)),(ts.flatMap (λq:List Nat×PV=>44::32::q.1)).length<=20000->(∀q∈ts,gT d q.1 q.2)->∃its:List It,its.map It.o=ts.map (·.2)/\kZ its=ts.flatMap (λq:List Nat×PV=>44::32::q.1)/\(∀i∈its,Ok i/\i.d<=d)/\its.length=ts.length
 |[],_,_=>⟨[],rfl,rfl,(λi hi=>by cases hi),rfl⟩
 |q::ts,hl,h=>by
  rw[List.flatMap_cons,z0E,Wk,Wk]at hl
  obtain⟨i,i1,i2,i3,i4⟩:=h q (RF ..) (by omega)
  obtain⟨its,t1,t2,t3,t4⟩:=Km ts (by omega) λq hq=>h q (X5 _ hq)
  refine⟨i::its,by rw[z0Q,z0Q,t1,i2],?_,λj hj=>?_,by rw[Wk,Wk,t4]⟩
  ·show 44::32::(aJ i.t++kZ its)=_
   rw[i3,t2,List.flatMap_cons]
   rfl
  ·rcases z0N.mp hj with rfl|hj
   ·exact⟨i1,i4⟩
   ·exact t3 j hj
theorem MK:(ops.all λv=>decide (v= "all(")||decide (v= "any(")||(match Rq.mE.lookup v with|some k=>decide (v=(toString ((k.toNat:Nat):Int):Str)++(" of (" :Str))&&decide (k=(k.toNat:Nat))|none=>false))=true:=by decide+kernel
theorem okw{names:List Str}(hN:∀x∈names,Bz x)(x:Str):WX (sy names x) gT where
 W:=EK hN x
 fn:=λv hv=>by
  obtain⟨u,hu,rfl⟩:=z0R.mp hv
  show(Rq.mE.lookup (pF (aJ u))).map Int.toNat=none
  rw[j8]
  cases hk:Rq.mE.lookup u with
  |none=>rfl
  |some k=>
   have hm:=vB hk
   have:u∈ops:=by
    have:(u,k).1∈Rq.mE.map (·.1):=z0R.mpr ⟨_,hm,rfl⟩
    exact this
   exact absurd ((EK hN x).last (z0R.mpr ⟨u,this,rfl⟩)) ((EK hN x).Ek (z0R.mpr ⟨u,hu,rfl⟩))
 fo:=λv hv=>by
  obtain⟨u,hu,rfl⟩:=z0R.mp hv
  have:=z0M.mp uo u hu
  simp only[z0F]at this
  obtain⟨_,h5⟩:=this
  show∃f,(Rq.mE.lookup (pF (aJ u))).map Int.toNat=some f/\∀c:Nat,((c:Int)+1<TU (aJ u)↔c+1<f)
  rw[j8]
  cases hk:Rq.mE.lookup u with
  |none=>rw[hk]at h5;cases h5
  |some k=>
   rw[hk]at h5
   dsimp only at h5
   rw[z0r,z0F,z0F,decide_eq_true_iff,decide_eq_true_iff,decide_eq_true_iff,decide_eq_true_iff]at h5
   refine⟨k.toNat,rfl,λc=>?_⟩
   omega
 oc:=λv hv=>by
  obtain⟨u,hu,rfl⟩:=z0R.mp hv
  have:=z0M.mp uo u hu
  simp only[z0F,decide_eq_true_eq]at this
  exact this.1.1.2
 hand:=λv hv _=>⟨⟨.ins 0 [.str (pF v)],.non,pF v,0⟩,MI _ _,rfl,rfl,U5 _⟩
 cnt:=λv hv f hf d t r ts h8 Iu ht hts hlen=>by
  obtain⟨u,hu,rfl⟩:=z0R.mp hv
  simp only[z0E,z0p]at hlen
  obtain⟨i,i1,i2,i3,i4⟩:=ht (by omega)
  obtain⟨its,t1,t2,t3,t4⟩:=Km ts (by omega) hts
  have q1:(i::its).length<=8:=by rw[Wk,t4];omega
  have e1:(aJ i.t).length=i.t.length:=SR
  have q2:wt (i::its)<=50000:=by
   rw[yA,<-Br,t2,<-e1,i3]
   omega
  have q3:∀j∈i::its,Ok j/\j.d<=d:=λj hj=>by
   rcases z0N.mp hj with rfl|hj
   ·exact⟨i1,i4⟩
   ·exact t3 j hj
  have eo:(i::its).map It.o=r::ts.map (·.2):=by rw[z0Q,i2,t1]
  have et:∀w:Str,aJ (w++(Jn (i::its)++oA))=aJ w++(t++(ts.flatMap (λq:List Nat×PV=>44::32::q.1)++[41])):=λw=>by rw[C8,i3,t2]
  have hc:(sy names x).cnt (aJ u) (r::ts.map (·.2))=(Ny u ((i::its).map It.o)).getD .non:=by
   show(Rq.bQ [.str (pF (aJ u)),.lst (r::ts.map (·.2))]).getD .non=_
   rw[j8,Qx,eo]
  rw[hc]
  have ck:=z0M.mp MK u hu
  rw[z0r,z0r,decide_eq_true_iff,decide_eq_true_iff]at ck
  unfold Ny
  by_cases h1:u= "all("
  ·rw[if_pos h1,X6]
   subst h1
   exact⟨_,Rl q1 q2 q3 .non,rfl,et _,by show 1+d<=d+1;omega⟩
  rw[if_neg h1]
  by_cases h2:u= "any("
  ·rw[if_pos h2]
   subst h2
   exact⟨_,Rm q1 q2 q3 .non,rfl,et _,by show 1+d<=d+1;omega⟩
  rw[if_neg h2]
  have ck:=ck.resolve_left λz=>z.elim h1 h2
  have hf:(Rq.mE.lookup (pF (aJ u))).map Int.toNat=some f:=hf
  rw[j8]at hf
  cases hk:Rq.mE.lookup u with
  |none=>rw[hk]at ck;cases ck
  |some k=>
   rw[hk]at ck hf
   dsimp only at ck
   rw[z0F,decide_eq_true_iff,decide_eq_true_iff]at ck
   have hf:k.toNat=f:=z0O hf
   obtain⟨c1,c2⟩:=ck
   rw[hf]at c1 c2
   have:=MJ q1 q2 q3 .non (w:=f) (by rw[Wk,t4];omega)
   rw[<-c1,<-c2]at this
   exact⟨_,this,rfl,et _,by show 1+d<=d+1;omega⟩
def PB(l:List Nat)(b m:Int):Prop:=iC l=b/\∀k,iC (l.take k)<=m
theorem PB.app{a c:List Nat}{b1 m1 b2 m2 b m:Int}(h1:PB a b1 m1)(h2:PB c b2 m2)(hb:b=b1+b2)(k1:m1<=m)(k2:b1+m2<=m):PB (a++c) b m:=by
 refine⟨by rw[j6,h1.1,h2.1,hb],λk=>?_⟩
 rw[List.take_append]
 by_cases h:k<=a.length
 ·rw[show k-a.length=0 by omega,z1l,z0Y]
  have:=h1.2 k
  omega
 ·rw[z0w (by omega),j6,h1.1]
  have:=h2.2 (k-a.length)
  omega
theorem Kn:∀l:List Nat,iC l<=(l.count 40:Nat):=λl=>by unfold iC;omega
theorem EM(l:List Nat):iC l<=(l.length:Nat):=by
 have:=Kn l
 have:=List.count_le_length (a:=40) (l:=l)
 omega
theorem PB.of{l:List Nat}{b m:Int}(h1:iC l=b)(h2:((List.range (l.length+1)).all λk=>decide (iC (l.take k)<=m))=true):PB l b m:=by
 refine⟨h1,λk=>?_⟩
 by_cases h:k<=l.length
 ·exact of_decide_eq_true (z0M.mp h2 k (z0l.mpr (by omega)))
 ·rw[z0w (by omega)]
  have:=of_decide_eq_true (z0M.mp h2 l.length (z0l.mpr (by omega)))
  rw[z02]at this
  exact this
theorem ML{x:Str}(h:Lw x):PB (aJ x) 0 0:=by
 have z:∀l:List Nat,(∀c∈l,97<=c/\c<=122)->iC l=0:=λl hl=>by
  unfold iC
  rw[z0z.mpr (λz=>by have:=hl 40 z;omega),z0z.mpr (λz=>by have:=hl 41 z;omega)]
  rfl
 exact⟨z _ h,λk=>by rw[z _ λc hc=>h c (z1C hc)];exact Int.le_refl _⟩
theorem Bs{n:Nat}:∀(l:List It),(∀i∈l,PB (aJ i.t) 0 i.d/\i.d<=n)->PB (kZ l) 0 n
 |[],_=>⟨rfl,λk=>by show iC (([]:List Nat).take k)<=_;rw[List.take_nil];show(0:Int)<=_;omega⟩
 |i::l,h=>by
  obtain⟨h1,h2⟩:=h i (RF ..)
  have a:PB [44,32] 0 0:=PB.of (by decide) (by decide)
  show PB ([44,32]++(aJ i.t++kZ l)) 0 n
  refine PB.app a (PB.app h1 (Bs l λj hj=>h j (X5 _ hj)) (b:=0) (m:=n) rfl ?_ ?_) rfl ?_ ?_<;>omega
def XN(i:It):Prop:=PB (aJ i.t) 0 i.d/\As i.t
theorem Bt:∀{l:List It},(∀i∈l,As i.t)->∀c∈kZ l,c<128
 |[],_,c,hc=>by cases hc
 |i::l,h,c,hc=>by
  rcases z0N.mp hc with rfl|hc
  ·decide
  rcases z0N.mp hc with rfl|hc
  ·decide
  rcases z0L.mp hc with hc|hc
  ·exact h i (RF ..) c hc
  ·exact Bt (λj hj=>h j (X5 _ hj)) c hc
theorem C9{w:Str}(hw:PB (aJ w) 1 1)(ha:As w){its:List It}(h0:its≠[]){n:Nat}(hi:∀i∈its,XN i/\i.d<=n)(o s:PV):XN ⟨o,s,w++(Jn its++oA),1+n⟩:=by
 cases its with
 |nil=>exact absurd rfl h0
 |cons i l=>
  obtain⟨⟨h1,h2⟩,h3⟩:=hi i (RF ..)
  refine⟨?_,λc hc=>?_⟩
  ·show PB (aJ (w++(Jn (i::l)++oA))) 0 ((1+n:Nat):Int)
   rw[C8]
   have a:PB [41] (-1) 0:=PB.of (by decide) (by decide)
   have tl:=Bs l λj hj=>⟨(hi j (X5 _ hj)).1.1,(hi j (X5 _ hj)).2⟩
   refine PB.app hw (PB.app h1 (PB.app tl a (b:=-1) (m:=n) (by omega) (by omega) (by omega)) (b:=-1) (m:=n) (by omega) (by omega) (by omega)) (by omega) (by omega) (by omega)
  ·have hc:c∈aJ (w++(Jn (i::l)++oA)):=hc
   rw[C8]at hc
   rcases z0L.mp hc with hc|hc
   ·exact ha c hc
   rcases z0L.mp hc with hc|hc
   ·exact h2 c hc
   rcases z0L.mp hc with hc|hc
   ·exact Bt (λj hj=>(hi j (X5 _ hj)).1.2) c hc
   ·rw[z0U.mp hc]
    decide
theorem MM:(ops.all λv=>Qd v&&decide (iC (aJ v)=1)&&((List.range ((aJ v).length+1)).all λk=>decide (iC ((aJ v).take k)<=1)))=true:=by decide+kernel
theorem RV{v:Str}(h:v∈ops):PB (aJ v) 1 1/\As v:=by
 have:=z0M.mp MM v h
 rw[z0F,z0F,decide_eq_true_iff]at this
 exact⟨PB.of this.1.2 this.2,qO this.1.1⟩
theorem MN:((List.range 9).all λm=>decide (m=0)||decide (((toString (m:Int):Str)++(" of (" :Str))∈ops))=true:=by decide+kernel
theorem Y4{names:List Str}(hN:∀x∈names,Bz x):Vt names XN where
 hand:=λx hx=>⟨ML (hN x hx).1,(hN x hx).1.as⟩
 all:=λits n h0 h8 hw hi=>C9 (RV (by decide+kernel)).1 (RV (by decide+kernel)).2 h0 hi _ _
 any:=λits n h0 h8 hw hi=>C9 (RV (by decide+kernel)).1 (RV (by decide+kernel)).2 h0 hi _ _
 some:=λits n m h0 h8 hw hi h1 h2=>by
  have:=z0M.mp MN m (z0l.mpr (by omega))
  rw[z0r,decide_eq_true_iff,decide_eq_true_iff]at this
  have:=RV (this.resolve_left (by omega))
  exact C9 this.1 this.2 h0 hi _ _
def Sp(y:Str):Prop:=As y/\y.length<=11100/\∀k,iC ((aJ y).take k)<=22
structure Rp(z:Str):Prop where
 as:As z
 len:z.length<=60
 le:∀k,iC ((aJ z).take k)<=1
theorem zB{c:Nat}(h:c<128):Rp (one c):=⟨λd hd=>by rw[z0U.mp hd];exact h,by show 1<=60;omega,λk=>by
 have:=EM (([c]:List Nat).take k)
 have:(([c]:List Nat).take k).length<=1:=by rw[z0a];exact Nat.min_le_right _ _
 show iC (([c]:List Nat).take k)<=1
 omega⟩
theorem in_of{z:Str}(h:40∉aJ z)(ha:As z)(hl:z.length<=60):Rp z:=⟨ha,hl,λk=>by
 have:=Kn ((aJ z).take k)
 rw[z0z.mpr λw=>h (z1C w)]at this
 omega⟩
section
variable{t:Str}(at_:As t)(GC:t.length<=11000)(bt:∀k,iC ((aJ t).take k)<=20)
include at_ GC bt
theorem sE{z y:Str}(hz:Rp z){a b:Nat}(h1:a<=b)(h2:b<=a+1)(e:aJ y=(aJ t).take a++(aJ z++(aJ t).drop b)):Sp y:=by
 have ly:(aJ y).length=y.length:=SR
 have lt:(aJ t).length=t.length:=SR
 have lz:(aJ z).length=z.length:=SR
 refine⟨λc hc=>?_,?_,λk=>?_⟩
 ·have hc:c∈aJ y:=hc
  rw[e]at hc
  rcases z0L.mp hc with hc|hc
  ·exact at_ c (z1C hc)
  rcases z0L.mp hc with hc|hc
  ·exact hz.as c hc
  ·exact at_ c (List.mem_of_mem_drop hc)
 ·rw[<-ly,e,z0E,z0E,z0a,z0d]
  have:=hz.len
  omega
 ·have d:∀j,iC (((aJ t).drop b).take j)<=20-iC ((aJ t).take b):=λj=>by
    have:=bt (b+j)
    rw[z16,j6]at this
    omega
  have ab:iC ((aJ t).take a)<=iC ((aJ t).take b)+1:=by
   obtain⟨j,rfl⟩:∃j,b=a+j:=⟨b-a,by omega⟩
   rw[z16,j6]
   have hc:∀l:List Nat,-(l.length:Int)<=iC l:=λl=>by
    unfold iC
    have:=List.count_le_length (a:=41) (l:=l)
    omega
   have:=hc (((aJ t).drop a).take j)
   have:(((aJ t).drop a).take j).length<=1:=by rw[z0a];omega
   omega
  have zt:iC (aJ z)<=1:=by
   have:=hz.le (aJ z).length
   rw[z02]at this
   exact this
  rw[e]
  refine(PB.app (a:=(aJ t).take a) (c:=aJ z++(aJ t).drop b) (m1:=20) (m2:=22-iC ((aJ t).take a)) (b:=_) (m:=22) ⟨rfl,λj=>?_⟩ ⟨rfl,?_⟩ rfl (by omega) (by omega)).2 k
  ·rw[List.take_take]
   exact bt _
  ·have h0:=bt a
   exact(PB.app (a:=aJ z) (c:=(aJ t).drop b) (m1:=1) (m2:=20-iC ((aJ t).take b)) (b:=_) (m:=22-iC ((aJ t).take a)) ⟨rfl,hz.le⟩ ⟨rfl,d⟩ rfl (by omega) (by omega)).2
theorem EN{y:Str}{a:Nat}(e:aJ y=(aJ t).take a):Sp y:=by
 have ly:(aJ y).length=y.length:=SR
 have lt:(aJ t).length=t.length:=SR
 refine⟨λc hc=>?_,?_,λk=>?_⟩
 ·have hc:c∈aJ y:=hc
  rw[e]at hc
  exact at_ c (z1C hc)
 ·rw[<-ly,e,z0a]
  omega
 ·rw[e,List.take_take]
  have:=bt (min k a)
  omega
end
theorem vX(x:Str)(n:Nat):aJ (bK x (some (n:Int)) none 1)=(aJ x).drop n:=by
 have el:(aJ x).length=x.length:=SR
 by_cases h:n<=x.length
 ·exact AZ h
 ·have e:Builtin.Str.strSliceIndices (some (n:Int)) none 1 x.length=(List.range (x.length-x.length)).map (x.length+·):=by
    have:=z0s x.length x.length
    rw[<-this]
    unfold Builtin.Str.strSliceIndices
    simp only
    congr 1
    rw[if_pos (by decide),if_neg (by omega)]
    omega
  rw[z0v (by omega)]
  have:=rW (U5 _) (U5 _) e
  rw[z2B,z1l]at this
  exact this
theorem zE{w:Str}(ha:As w)(hl:w.length<=100000){n:Nat}(hn:w.length=n)(h0:0<n)(c:Int):∃d,d<128/\ie (.str w) (.int (((c %(n:Int)).toNat:Nat):Int))=some (.str (one d)):=by
 have h:=mod_lt c h0
 exact⟨_,ha _ (z1d _),C5 (w:=w) (k:=(c %(n:Int)).toNat) (by omega) hl⟩
def Ko:Str:= " !\"#$&'()*+,-./0123456789:;<=>?@ABCDEFGHIJKLMNOPQRSTUVWXYZ[\\]^_`{|}~"
theorem Rt:0<Ko.length/\Ko.length<=1000/\Qd Ko=true:=by decide+kernel
theorem Dc(c:Int):∃d,d<128/\fL [.int c]=some (.str (one d)):=by
 have zl:(100000:Nat)<=sizeLine:=by decide
 obtain⟨h0,h1,h2⟩:=Rt
 obtain⟨d,hd,e⟩:=zE (qO h2) (by omega) rfl h0 c
 have gl:cL (.str Ko)=some (.int (Ko.length:Nat)):=by
  show(if Ko.length<=sizeLine then some (PV.int Ko.length)else none)=_
  rw[if_pos (by omega)]
 refine⟨d,hd,d0 rfl ((av (aP (p:=.str Ko) rfl)).trans (dr ?_))⟩
 exact(af (x:=.str Ko) rfl ((af (x:=.int c) (y:=.int (Ko.length:Nat)) rfl ((cK (x:=.str Ko) rfl).trans gl)).trans (cw _ h0))).trans e
def XO:Str:= "(), of123456789al0"
theorem zF:XO.length=18/\Qd XO=true:=by decide+kernel
def XQ:Str:= "abcdefghijklmnopqrstuvwxyz"
theorem zG:XQ.length=26/\Qd XQ=true:=by decide+kernel
theorem sign_eq(c:Int):∃d,d<128/\ip [.int c]=some (.str (one d)):=by
 have t:∀k:Nat,tV (ae gM (ae cJ (dV 0) (dC (.int 3))) (dC (.int (k:Nat)))) [.sh (.int c)]=some (decide ((c %((3:Nat):Int)).toNat=k)):=λk=>cq ((af (y:=.int (k:Nat)) ((af (x:=.int c) (y:=.int ((3:Nat):Int)) rfl rfl).trans (cw _ (by decide))) rfl).trans (ub _ _))
 by_cases h0:(c %((3:Nat):Int)).toNat=0
 ·obtain⟨d,hd,e⟩:=zE (qO zF.2) (by rw[zF.1];decide) zF.1 (by decide) (c/3)
  refine⟨d,hd,d0 rfl (j7 ((iV ((t 0).trans (by rw[decide_eq_true h0]))).trans (dr ?_)))⟩
  exact(af (x:=.str XO) rfl ((af (x:=.int (c/3)) (y:=.int ((18:Nat):Int)) rfl rfl).trans (cw _ (by decide)))).trans e
 by_cases h1:(c %((3:Nat):Int)).toNat=1
 ·obtain⟨d,hd,e⟩:=zE (qO zG.2) (by rw[zG.1];decide) zG.1 (by decide) (c/3)
  refine⟨d,hd,d0 rfl ((av ((iD ((t 0).trans (by rw[decide_eq_false h0]))).trans rfl)).trans (j7 ((iV ((t 1).trans (by rw[decide_eq_true h1]))).trans (dr ?_))))⟩
  exact(af (x:=.str XQ) rfl ((af (x:=.int (c/3)) (y:=.int ((26:Nat):Int)) rfl rfl).trans (cw _ (by decide)))).trans e
 ·obtain⟨d,hd,e⟩:=Dc (c/3)
  refine⟨d,hd,d0 rfl ((av ((iD ((t 0).trans (by rw[decide_eq_false h0]))).trans rfl)).trans ((av ((iD ((t 1).trans (by rw[decide_eq_false h1]))).trans rfl)).trans (dr ?_)))⟩
  exact(bu (ps:=[.int (c/3)]) rfl).trans e
theorem Bu{c:de}{ρ:dO}:∀(l:List Nat),(∀k∈l,∃b,c (.sh (.int (k:Nat))::ρ)=some b)->∃l':List Nat,(∀k∈l',k∈l)/\jQ c (bZ 0) ρ (pl l)=some (pl l')
 |[],_=>⟨[],(λk hk=>by cases hk),rfl⟩
 |a::l,h=>by
  obtain⟨b,hb⟩:=h a (RF ..)
  obtain⟨l',h1,h2⟩:=Bu l λk hk=>h k (X5 _ hk)
  cases b with
  |true=>
   refine⟨a::l',λk hk=>?_,?_⟩
   ·rcases z0N.mp hk with rfl|hk
    ·exact RF ..
    ·exact X5 _ (h1 k hk)
   ·show((c (.sh (.int (a:Nat))::ρ)).bind λb=>if b then(bZ 0 (.sh (.int (a:Nat))::ρ)).bind λz=>(jQ c (bZ 0) ρ (pl l)).map (z::·)else jQ c (bZ 0) ρ (pl l))=_
    rw[hb,h2]
    rfl
  |false=>
   refine⟨l',λk hk=>X5 _ (h1 k hk),?_⟩
   show((c (.sh (.int (a:Nat))::ρ)).bind λb=>if b then(bZ 0 (.sh (.int (a:Nat))::ρ)).bind λz=>(jQ c (bZ 0) ρ (pl l)).map (z::·)else jQ c (bZ 0) ρ (pl l))=_
   rw[hb,h2]
   rfl
theorem Kp{x:Str}(h:x.length<=100000):cL (.str x)=some (.int (x.length:Nat)):=by
 have zl:(100000:Nat)<=sizeLine:=by decide
 show(if x.length<=sizeLine then some (PV.int x.length)else none)=_
 rw[if_pos (by omega)]
theorem EO{t sg z:Str}(c:Int)(ht:t.length<=11000)(hz:z.length<=60):∃(a b:Nat) (y:Str),a<=b/\b<=a+1/\aJ y=(aJ t).take a++(aJ z++(aJ t).drop b)/\df [.str t,.str sg,.str z,.int c]=some (.str y):=by
 have zl:(100000:Nat)<=sizeLine:=by decide
 have et:(aJ t).length=t.length:=SR
 obtain⟨l,hl,el⟩:=Bu (c:=tV (ae HV (ae ie (dV 1) (dV 0)) (dV 2))) (ρ:=[.sh (.str t),.sh (.str sg),.sh (.str z),.sh (.int c),.un,.un]) (List.range t.length) λk hk=>by
  have hk:=z0l.mp hk
  exact⟨_,cq ((af (y:=.str sg) ((af (x:=.str t) (y:=.int (k:Nat)) rfl rfl).trans (C5 hk (by omega))) rfl).trans rfl)⟩
 have e0:eI (mR (bU cL (dV 0))) (tV (ae HV (ae ie (dV 1) (dV 0)) (dV 2))) (bZ 0) [.sh (.str t),.sh (.str sg),.sh (.str z),.sh (.int c),.un,.un]=some (.lst (pl l)):=
  AO (vm (n:=t.length) ((cK (x:=.str t) rfl).trans (Kp (by omega))) (by omega)) (by rw[X6,z0u];omega) el
 have st:∀{b:bE},ba (b9 4 (eI (mR (bU cL (dV 0))) (tV (ae HV (ae ie (dV 1) (dV 0)) (dV 2))) (bZ 0))) b [.sh (.str t),.sh (.str sg),.sh (.str z),.sh (.int c),.un,.un]=b [.sh (.str t),.sh (.str sg),.sh (.str z),.sh (.int c),.sh (.lst (pl l)),.un]:=λ{b}=>av (aP e0)
 cases l with
 |nil=>
  refine⟨t.length,t.length,t++z,U5 _,by omega,?_,d0 rfl (st.trans (j7 ((iV (cq ((af (x:=.lst []) (y:=.lst []) rfl rfl).trans rfl))).trans (dr ((af (x:=.str t) (y:=.str z) rfl rfl).trans (bC _ _ (by omega)))))))⟩
  rw[fQ,<-et,z02,z1v,z0Y]
 |cons a0 l=>
  have hL:0<(a0::l).length:=by simp
  have hi:=mod_lt c hL
  generalize ek:(c %(((a0::l).length:Nat):Int)).toNat=k at hi
  obtain⟨a,ea⟩:∃a,a=(a0::l)[k]:=⟨_,rfl⟩
  have ha:a<t.length:=z0l.mp (hl a (by rw[ea];exact z1d hi))
  have n1:tV (ae gM (dV 4) (oF aO)) [.sh (.str t),.sh (.str sg),.sh (.str z),.sh (.int c),.sh (.lst (pl (a0::l))),.un]=some false:=by
   refine cq ((af (x:=.lst (pl (a0::l))) (y:=.lst []) rfl rfl).trans ?_)
   show(DF (mG 19) (pl (a0::l)) []).map PV.bl=_
   unfold DF
   rw[if_neg (by simp)]
   rfl
  have e5:ae ie (dV 4) (ae cJ (dV 3) (bU cL (dV 4))) [.sh (.str t),.sh (.str sg),.sh (.str z),.sh (.int c),.sh (.lst (pl (a0::l))),.un]=some (.int (a:Nat)):=by
   refine(af (x:=.lst (pl (a0::l))) (y:=.int (k:Nat)) rfl ((af (x:=.int c) (y:=.int ((a0::l).length:Nat)) rfl ?_).trans ((cw _ hL).trans (by rw[ek])))).trans ?_
   ·refine(cK (x:=.lst (pl (a0::l))) rfl).trans ?_
    show some (PV.int ((pl (a0::l)).length:Nat))=_
    rw[X6]
   ·show itemAt (pl (a0::l)) ((k:Nat):Int)=_
    unfold itemAt Le
    rw[if_pos (by omega),if_pos (by rw[X6];omega)]
    show(pl (a0::l))[((k:Nat):Int).toNat]?=_
    rw[z0j,z0f,z0G hi,ea]
    rfl
  have l1:=js t none (some (a:Int)) (st:=1) (by decide)
  have l2:=js t (some (a:Int)) none (st:=1) (by decide)
  have l3:=js t (some ((a+1:Nat):Int)) none (st:=1) (by decide)
  have e1:aJ (bK t none (some (a:Int)) 1)=(aJ t).take a:=vv (x:=t) (by omega)
  by_cases hs:sg= ")"
  ·refine⟨a,a,(bK t none (some (a:Int)) 1++z)++bK t (some (a:Int)) none 1,U5 _,by omega,by rw[fQ,fQ,e1,vX,z08],d0 rfl (st.trans ?_)⟩
   refine(av ((iD n1).trans rfl)).trans ((av (aP e5)).trans (j7 ((iV ?_).trans (dr ?_))))
   ·subst hs
    exact Qw (x:= ")") rfl rfl
   ·exact(af ((af (y:=.str z) (cV (y:=t) (l:=none) (h:=some (a:Int)) rfl rfl rfl (by omega)) rfl).trans (bC _ _ (by omega))) (cV (y:=t) (l:=some (a:Int)) (h:=none) rfl rfl rfl (by omega))).trans (bC _ _ (by rw[cI];omega))
  ·refine⟨a,a+1,(bK t none (some (a:Int)) 1++z)++bK t (some ((a+1:Nat):Int)) none 1,by omega,by omega,by rw[fQ,fQ,e1,vX,z08],d0 rfl (st.trans ?_)⟩
   refine(av ((iD n1).trans rfl)).trans ((av (aP e5)).trans ((av ((iD (Mv hs rfl rfl)).trans rfl)).trans (dr ?_)))
   exact(af ((af (y:=.str z) (cV (y:=t) (l:=none) (h:=some (a:Int)) rfl rfl rfl (by omega)) rfl).trans (bC _ _ (by omega))) (cV (y:=t) (l:=some ((a+1:Nat):Int)) (h:=none) rfl rfl rfl (by omega))).trans (bC _ _ (by rw[cI];omega))
theorem Kq{x:Str}(h:Bz x):Rp ((", " :Str)++x):=by
 obtain⟨h1,h2,h3,h4⟩:=h
 have l2:(", " :Str).length=2:=by decide+kernel
 refine in_of (λz=>?_) (Qb (qO (by decide+kernel)) h1.as) (by rw[cI];omega)
 rw[fQ]at z
 rcases z0L.mp z with z|z
 ·exact absurd z (by decide+kernel)
 ·have:=h1 40 z
  omega
theorem MO{x:Str}(h:Bz x):Rp x:=in_of (λz=>by have:=h.1 40 z;omega) h.1.as (by have:=h.2.2.1;omega)
def BA:Str:= "0123456789"
theorem zH:BA.length=10/\Qd BA=true:=by decide+kernel
theorem MP(x0:Str)(h:Bz x0){k:Nat}(hk:k<5):∃z,Rp z/\itemAt [PV.str ")",.str ", ",.str " ",.str x0,.str "("] (k:Int)=some (.str z):=by
 have o:∀z:Str,Qd z=true->z.length=1->Rp z:=λz ha hl=>⟨qO ha,by omega,λk=>by
  have e:(aJ z).length=z.length:=SR
  have:=EM ((aJ z).take k)
  have:((aJ z).take k).length<=1:=by rw[z0a];omega
  omega⟩
 match k,hk with
 |0,_=>exact⟨_,o ")" (by decide+kernel) (by decide+kernel),rfl⟩
 |1,_=>exact⟨_,in_of (z:= ", ") (by decide+kernel) (qO (by decide+kernel)) (by decide+kernel),rfl⟩
 |2,_=>exact⟨_,o " " (by decide+kernel) (by decide+kernel),rfl⟩
 |3,_=>exact⟨_,MO h,rfl⟩
 |4,_=>exact⟨_,o "(" (by decide+kernel) (by decide+kernel),rfl⟩
theorem Gq{names:List Str}(hN:∀x∈names,Bz x)(h0:names≠[]){t:Str}(at_:As t)(GC:t.length<=11000)(bt:∀k,iC ((aJ t).take k)<=20)(ns:List Int):
  ∃y,Sp y/\gJ [jr ns,.tup (names.map PV.str),.str t]=some (.str y):=by
 have zl:(100000:Nat)<=sizeLine:=by decide
 have hm:=mod_lt (ns.getD 4 0) (n:=9) (by decide)
 have hp:=mod_lt (ns.getD 30 0) (n:=t.length+1) (by omega)
 generalize em:(ns.getD 4 0 %((9:Nat):Int)).toNat=m at hm
 generalize ep:(ns.getD 30 0 %((t.length+1:Nat):Int)).toNat=p at hp
 have s1:∀{b:bE},ba (b9 3 (ae cJ (bP F_law_cell_at (ah (bZ 0) (ah (dC (.int 4)) aO))) (dC (.int 9)))) b [.sh (jr ns),.sh (.tup (names.map PV.str)),.sh (.str t),.un,.un,.un]=b [.sh (jr ns),.sh (.tup (names.map PV.str)),.sh (.str t),.sh (.int (m:Nat)),.un,.un]:=λ{b}=>
  av (aP ((af (y:=.int ((9:Nat):Int)) ((bu (ps:=[jr ns,.int (4:Nat)]) rfl).trans (jD ns 4)) rfl).trans ((cw _ (by decide)).trans (by rw[em]))))
 have s2:∀{b:bE},ba (b9 4 (bP F_law_cell_at (ah (bZ 0) (ah (dC (.int 5)) aO)))) b [.sh (jr ns),.sh (.tup (names.map PV.str)),.sh (.str t),.sh (.int (m:Nat)),.un,.un]=b [.sh (jr ns),.sh (.tup (names.map PV.str)),.sh (.str t),.sh (.int (m:Nat)),.sh (.int (ns.getD 5 0)),.un]:=λ{b}=>
  av (aP ((bu (ps:=[jr ns,.int (5:Nat)]) rfl).trans (jD ns 5)))
 have s3:∀{b:bE},ba (b9 5 (ae cJ (bP F_law_cell_at (ah (bZ 0) (ah (dC (.int 30)) aO))) (ae aW (bU cL (dV 2)) (dC (.int 1))))) b [.sh (jr ns),.sh (.tup (names.map PV.str)),.sh (.str t),.sh (.int (m:Nat)),.sh (.int (ns.getD 5 0)),.un]=b [.sh (jr ns),.sh (.tup (names.map PV.str)),.sh (.str t),.sh (.int (m:Nat)),.sh (.int (ns.getD 5 0)),.sh (.int (p:Nat))]:=λ{b}=>
  av (aP ((af (y:=.int ((t.length+1:Nat):Int)) ((bu (ps:=[jr ns,.int (30:Nat)]) rfl).trans (jD ns 30)) ((af (y:=.int ((1:Nat):Int)) ((cK (x:=.str t) rfl).trans (Kp (by omega))) rfl).trans rfl)).trans ((cw _ (by omega)).trans (by rw[ep]))))
 generalize ns.getD 5 0=c5 at s2 s3
 have XR:∀s3 s4 s5,bP F_law_cell_at (ah (bZ 0) (ah (dC (.int 30)) aO)) [.sh (jr ns),.sh (.tup (names.map PV.str)),.sh (.str t),s3,s4,s5]=some (.int (ns.getD 30 0)):=λs3 s4 s5=>(bu (ps:=[jr ns,.int (30:Nat)]) rfl).trans (jD ns 30)
 generalize ns.getD 30 0=UU at XR
 have T:∀k:Nat,tV (ae gM (dV 3) (dC (.int (k:Nat)))) [.sh (jr ns),.sh (.tup (names.map PV.str)),.sh (.str t),.sh (.int (m:Nat)),.sh (.int c5),.sh (.int (p:Nat))]=some (decide (m=k)):=λk=>cq ((af (x:=.int (m:Nat)) (y:=.int (k:Nat)) rfl rfl).trans (ub _ _))
 have no:∀(k:Nat) {a b:bE},m≠k->ba (lu (tV (ae gM (dV 3) (dC (.int (k:Nat))))) a dP) b [.sh (jr ns),.sh (.tup (names.map PV.str)),.sh (.str t),.sh (.int (m:Nat)),.sh (.int c5),.sh (.int (p:Nat))]=b [.sh (jr ns),.sh (.tup (names.map PV.str)),.sh (.str t),.sh (.int (m:Nat)),.sh (.int c5),.sh (.int (p:Nat))]:=λk {a b} h=>av ((iD ((T k).trans (by rw[decide_eq_false h]))).trans rfl)
 have yes:∀(k:Nat) {f:Den} {b:bE} {q:PV},m=k->f [.sh (jr ns),.sh (.tup (names.map PV.str)),.sh (.str t),.sh (.int (m:Nat)),.sh (.int c5),.sh (.int (p:Nat))]=some q->ba (lu (tV (ae gM (dV 3) (dC (.int (k:Nat))))) (dh f) dP) b [.sh (jr ns),.sh (.tup (names.map PV.str)),.sh (.str t),.sh (.int (m:Nat)),.sh (.int c5),.sh (.int (p:Nat))]=some (.rt q):=λk {f b q} h hq=>j7 ((iV ((T k).trans (by rw[decide_eq_true h]))).trans (dr hq))
 have l1:=js t none (some (p:Int)) (st:=1) (by decide)
 have l2:=js t (some (p:Int)) none (st:=1) (by decide)
 have l3:=js t (some ((p+1:Nat):Int)) none (st:=1) (by decide)
 have k1:eX (dV 2) cD (aX (dV 5)) [.sh (jr ns),.sh (.tup (names.map PV.str)),.sh (.str t),.sh (.int (m:Nat)),.sh (.int c5),.sh (.int (p:Nat))]=some (.str (bK t none (some (p:Int)) 1)):=cV (y:=t) (l:=none) (h:=some (p:Int)) rfl rfl rfl (by omega)
 have k2:eX (dV 2) (aX (dV 5)) cD [.sh (jr ns),.sh (.tup (names.map PV.str)),.sh (.str t),.sh (.int (m:Nat)),.sh (.int c5),.sh (.int (p:Nat))]=some (.str (bK t (some (p:Int)) none 1)):=cV (y:=t) (l:=some (p:Int)) (h:=none) rfl rfl rfl (by omega)
 have k3:eX (dV 2) (aX (ae aW (dV 5) (dC (.int 1)))) cD [.sh (jr ns),.sh (.tup (names.map PV.str)),.sh (.str t),.sh (.int (m:Nat)),.sh (.int c5),.sh (.int (p:Nat))]=some (.str (bK t (some ((p+1:Nat):Int)) none 1)):=cV (y:=t) (l:=some ((p+1:Nat):Int)) (h:=none) rfl rfl rfl (by omega)
 have e1:aJ (bK t none (some (p:Int)) 1)=(aJ t).take p:=vv (x:=t) (by omega)
 by_cases m1:m=1
 ·obtain⟨d,hd,ed⟩:=sign_eq c5
  refine⟨(bK t none (some (p:Int)) 1++one d)++bK t (some (p:Int)) none 1,sE at_ GC bt (zB hd) (U5 p) (by omega) (by rw[fQ,fQ,e1,vX,z08]),d0 rfl (s1.trans (s2.trans (s3.trans ?_)))⟩
  have ld:(one d).length=1:=rfl
  exact yes 1 m1 ((af ((af k1 ((bu (ps:=[.int c5]) rfl).trans ed)).trans (bC _ _ (by omega))) k2).trans (bC _ _ (by rw[cI];omega)))
 by_cases m2:m=2
 ·obtain⟨d,hd,ed⟩:=sign_eq c5
  refine⟨(bK t none (some (p:Int)) 1++one d)++bK t (some ((p+1:Nat):Int)) none 1,sE at_ GC bt (zB hd) (z1Y p) (U5 _) (by rw[fQ,fQ,e1,vX,z08]),d0 rfl (s1.trans (s2.trans (s3.trans ((no 1 m1).trans ?_))))⟩
  have ld:(one d).length=1:=rfl
  exact yes 2 m2 ((af ((af k1 ((bu (ps:=[.int c5]) rfl).trans ed)).trans (bC _ _ (by omega))) k3).trans (bC _ _ (by rw[cI];omega)))
 by_cases m3:m=3
 ·refine⟨bK t none (some (p:Int)) 1++bK t (some ((p+1:Nat):Int)) none 1,sE at_ GC bt (z:= "") (in_of (by decide+kernel) (qO (by decide+kernel)) (by decide+kernel)) (z1Y p) (U5 _) (by rw[fQ,e1,vX,ME,List.nil_append]),d0 rfl (s1.trans (s2.trans (s3.trans ((no 1 m1).trans ((no 2 m2).trans ?_)))))⟩
  exact yes 3 m3 ((af k1 k3).trans (bC _ _ (by omega)))
 by_cases m4:m=4
 ·exact⟨bK t none (some (p:Int)) 1,EN at_ GC bt e1,d0 rfl (s1.trans (s2.trans (s3.trans ((no 1 m1).trans ((no 2 m2).trans ((no 3 m3).trans (yes 4 m4 k1)))))))⟩
 by_cases m5:m=5
 ·obtain⟨x,hx,ex⟩:=zy (Y4 hN) (λx hx=>(hN x hx).2.2.1) EH h0 c5 (A:=dV 1) (L:=dV 4) (ρ:=[.sh (jr ns),.sh (.tup (names.map PV.str)),.sh (.str t),.sh (.int (m:Nat)),.sh (.int c5),.sh (.int (p:Nat))]) rfl rfl
  have hi:=Kq (hN x hx)
  obtain⟨a,b,y,q1,q2,q3,q4⟩:=EO (sg:= ")") UU GC hi.len
  refine⟨y,sE at_ GC bt hi q1 q2 q3,d0 rfl (s1.trans (s2.trans (s3.trans ((no 1 m1).trans ((no 2 m2).trans ((no 3 m3).trans ((no 4 m4).trans ?_)))))))⟩
  have lx:=(hN x hx).2.2.1
  have l2:(", " :Str).length=2:=by decide+kernel
  exact yes 5 m5 ((bu (aA (x:=.str t) rfl (aA (x:=.str ")") rfl (aA ((af (x:=.str ", ") rfl ex).trans (bC _ _ (by omega))) (aA (XR _ _ _) rfl))))).trans q4)
 by_cases m6:m=6
 ·obtain⟨d,hd,ed⟩:=zE (qO zH.2) (by rw[zH.1];decide) zH.1 (by decide) c5
  obtain⟨a,b,y,q1,q2,q3,q4⟩:=EO (sg:= "12345678") (z:=one d) UU GC (zB hd).len
  refine⟨y,sE at_ GC bt (zB hd) q1 q2 q3,d0 rfl (s1.trans (s2.trans (s3.trans ((no 1 m1).trans ((no 2 m2).trans ((no 3 m3).trans ((no 4 m4).trans ((no 5 m5).trans ?_))))))))⟩
  exact yes 6 m6 ((bu (aA (x:=.str t) rfl (aA (x:=.str "12345678") rfl (aA ((af (x:=.str BA) rfl ((af (x:=.int c5) (y:=.int ((10:Nat):Int)) rfl rfl).trans (cw _ (by decide)))).trans ed) (aA (XR _ _ _) rfl))))).trans q4)
 by_cases m7:m=7
 ·obtain⟨x0,xs,rfl⟩:∃x0 xs,names=x0::xs:=by
    cases names with
    |nil=>exact absurd rfl h0
    |cons a b=>exact⟨a,b,rfl⟩
  obtain⟨z,hz,ez⟩:=MP x0 (hN x0 (RF ..)) (mod_lt c5 (n:=5) (by decide))
  have et:(aJ t).length=t.length:=SR
  refine⟨t++z,sE at_ GC bt hz (U5 t.length) (by omega) (by rw[fQ,<-et,z02,z1v,z0Y]),d0 rfl (s1.trans (s2.trans (s3.trans ((no 1 m1).trans ((no 2 m2).trans ((no 3 m3).trans ((no 4 m4).trans ((no 5 m5).trans ((no 6 m6).trans ?_)))))))))⟩
  have lz:=hz.len
  have i0:ae ie (dV 1) (dC (.int 0)) [.sh (jr ns),.sh (.tup ((x0::xs).map PV.str)),.sh (.str t),.sh (.int (m:Nat)),.sh (.int c5),.sh (.int (p:Nat))]=some (.str x0):=by
   show itemAt ((x0::xs).map PV.str) 0=_
   unfold itemAt Le
   rw[if_pos (by omega),if_pos (by rw[X6,Wk];omega)]
   rfl
  refine yes 7 m7 ((af (x:=.str t) rfl ((af (x:=.lst [.str ")",.str ", ",.str " ",.str x0,.str "("]) ?_ ((af (x:=.int c5) (y:=.int ((5:Nat):Int)) rfl rfl).trans (cw _ (by decide)))).trans ez)).trans (bC _ _ (by omega)))
  exact Eo (aA (x:=.str ")") rfl (aA (x:=.str ", ") rfl (aA (x:=.str " ") rfl (aA i0 (aA (x:=.str "(") rfl rfl))))) (by simp)
 ·exact⟨t,EN at_ GC bt (a:=t.length) (by rw[show t.length=(aJ t).length from SR.symm,z02]),d0 rfl (s1.trans (s2.trans (s3.trans ((no 1 m1).trans ((no 2 m2).trans ((no 3 m3).trans ((no 4 m4).trans ((no 5 m5).trans ((no 6 m6).trans ((no 7 m7).trans (dr rfl)))))))))))⟩
theorem MQ(ns:List Int):∃xs:List Str,xs≠[]/\xs.length<=6/\(∀x∈xs,Bz x)/\iZ [jr ns]=some (.tup (xs.map PV.str)):=by
 have hz:=mod_lt (ns.getD 0 0) (n:=6) (by decide)
 obtain⟨f,h1,h2,h3⟩:=Ka ns 2 (1+(ns.getD 0 0 %((6:Nat):Int)).toNat) (by omega)
 refine⟨_,λz=>?_,?_,λx hx=>?_,ng rfl ((cK ((bu (aA (x:=jr ns) rfl (aA (x:=.int (2:Nat)) rfl (aA (x:=.int ((1+(ns.getD 0 0 %((6:Nat):Int)).toNat:Nat):Int)) ?_ rfl)))).trans h3)).trans rfl)⟩
 ·have:=congrArg List.length z
  rw[X6,z0u]at this
  simp at this
 ·rw[X6,z0u]
  omega
 ·obtain⟨k,_,rfl⟩:=z0R.mp hx
  exact h1 k
 ·exact(af (x:=.int ((1:Nat):Int)) rfl ((af (y:=.int ((6:Nat):Int)) ((bu (ps:=[jr ns,.int (0:Nat)]) rfl).trans (jD ns 0)) rfl).trans (cw _ (by decide)))).trans rfl
theorem MR{names:List Str}(hN:∀x∈names,Bz x)(h6:names.length<=6){y:Str}(hy:Sp y)(s0 s2 s3 s4 s5 s7:Slot):
  ∃d,d7 [.tup (names.map PV.str),.str y]=some d/\xB il fN [s0,.sh (.tup (names.map PV.str)),s2,s3,s4,s5,.sh (.str y),s7,.sh d,.un,.un]=some (.rt (.bl true)):=by
 obtain⟨ya,yl,yb⟩:=hy
 have ey:(aJ y).length=y.length:=SR
 have Mi:∀v∈names++ops,As v:=λv hv=>by
  rcases z0L.mp hv with h|h
  ·exact(hN v h).1.as
  ·exact(RV h).2
 have hl:(names++ops).length<=5000:=by
  rw[z0E]
  have:ops.length=10:=rfl
  omega
 obtain⟨r,r1,r2⟩:=Ma (okw hN y) (Kj hN y) (λd d' t r h g hl=>by
  obtain⟨i,i1,i2,i3,i4⟩:=g hl
  exact⟨i,i1,i2,i3,by omega⟩) 22 yb (m:=24) (k:=20000) (by decide) (by show(aJ y).length+1<=_;omega)
 have rd:il [.tup (names.map PV.str),.str y]=some (Mw y.length r):=QA ya Mi hl (by omega) r1
 obtain⟨_,_,q3⟩:=Cv ya Mi hl (by omega:y.length<=100000) 24 0 r (z0S _) r1
 have fa:∀o,(sy names y).scan (Gm names y) 20000 0 []=some o->d7 [.tup (names.map PV.str),.str y]=some (Jk o):=λo ho=>by
  show(if y.length<=100000 then(qQ fW (.tup (names.map PV.str)) y 20000 0 []).map Jk else none)=_
  rw[if_pos (by omega),zA (by omega) hN h6 20000 0 [] (z0S _) (by decide),ho]
  rfl
 have bad:∀e:Nat,Mw y.length r=tP (e:Nat)->(sy names y).scan (Gm names y) 20000 0 []=some (some e)->∃d,d7 [.tup (names.map PV.str),.str y]=some d/\xB il fN [s0,.sh (.tup (names.map PV.str)),s2,s3,s4,s5,.sh (.str y),s7,.sh d,.un,.un]=some (.rt (.bl true)):=λe he hs=>by
  refine⟨_,fa _ hs,?_⟩
  rw[he]at rd
  show((il [.tup (names.map PV.str),.str y]).bind _)=_
  rw[rd]
  show some (Fl.rt (.bl (decide (((e:Nat):Int)=((e:Nat):Int)))))=_
  rw[decide_eq_true rfl]
 obtain⟨n',o⟩:=r
 cases o with
 |none=>exact bad n' rfl r2
 |some p=>
  obtain⟨a1,a2,a3⟩:=r2
  have a1:n'<=(aJ y).length:=a1
  by_cases h:n'<(aJ y).length
  ·refine bad n' ?_ (a2 h)
   show(if n'<y.length then _ else _)=_
   rw[if_pos (by omega)]
  ·obtain⟨b1,b2⟩:=a3 (by show n'=(aJ y).length;omega)
   obtain⟨i,⟨c,l,i1,i2,i3⟩,i4,i5,i6⟩:=b2 (by show(aJ y).length<=_;omega)
   refine⟨_,fa _ b1,?_⟩
   have e:Mw y.length (n',some p)=p:=by
    show(if n'<y.length then _ else _)=_
    rw[if_neg (by omega)]
   rw[e]at rd
   have hx:=q3 p rfl
   have hT:=i3 23 (by have:i.d<=23:=i6;omega)
   have hit:i.t=y:=qP i5
   rw[hit,i1]at hT
   rw[i1]at i4
   subst i4
   show((il [.tup (names.map PV.str),.str y]).bind _)=_
   rw[rd]
   show(match jK (.ins c l)with|none=>_|some m=>_)=_
   rw[hx]
   show(if c<4 then _ else _)=_
   rw[if_pos i2]
   have hT:fN c [.ins c l]=some (.str y):=hT
   rw[hT]
   show some (Fl.rt (.bl (decide (y=y))))=_
   rw[decide_eq_true rfl]
theorem Ru{names:List Str}{k:Nat}(hk:k<names.length)(h6:names.length<=6){s0 s2 s3 s4 s5 s6 s8 s9 BA:Slot}:
  ae Jr (Ct (bZ 1) cD (aX (dV 7))) (Ct (bZ 1) (aX (ae aW (dV 7) (dC (.int 1)))) cD) [s0,.sh (.tup (names.map PV.str)),s2,s3,s4,s5,s6,.sh (.int (k:Nat)),s8,s9,BA]=some (.tup ((names.take k++names.drop (k+1)).map PV.str)):=by
 have zl:(100000:Nat)<=sizeLine:=by decide
 have ln:(names.map PV.str).length=names.length:=X6 ..
 have a1:Ct (bZ 1) cD (aX (dV 7)) [s0,.sh (.tup (names.map PV.str)),s2,s3,s4,s5,s6,.sh (.int (k:Nat)),s8,s9,BA]=some (.tup ((names.take k).map PV.str)):=by
  show(if kO (names.map PV.str).length 0 none=0/\kO (names.map PV.str).length (names.map PV.str).length (some ((k:Nat):Int))=(names.map PV.str).length then none else some (PV.tup (jP (names.map PV.str) none (some ((k:Nat):Int)))))=_
  have e:kO (names.map PV.str).length (names.map PV.str).length (some ((k:Nat):Int))=k:=by
   unfold kO
   simp only
   rw[if_neg (by omega),z0j,ln]
   omega
  rw[e,if_neg (by omega),vk]
  unfold jP
  rw[ln]at e
  rw[e]
  rfl
 have a2:Ct (bZ 1) (aX (ae aW (dV 7) (dC (.int 1)))) cD [s0,.sh (.tup (names.map PV.str)),s2,s3,s4,s5,s6,.sh (.int (k:Nat)),s8,s9,BA]=some (.tup ((names.drop (k+1)).map PV.str)):=by
  show(if kO (names.map PV.str).length 0 (some ((k+1:Nat):Int))=0/\kO (names.map PV.str).length (names.map PV.str).length none=(names.map PV.str).length then none else some (PV.tup (jP (names.map PV.str) (some ((k+1:Nat):Int)) none)))=_
  have e:kO (names.map PV.str).length 0 (some ((k+1:Nat):Int))=k+1:=by
   unfold kO
   simp only
   rw[if_neg (by omega),z0j,ln]
   omega
  rw[e,if_neg (by omega),vk]
  unfold jP
  rw[ln]at e
  rw[e]
  show some (PV.tup (((names.drop (k+1)).take (names.length-(k+1))).map PV.str))=_
  rw[z0w (by rw[z0d];omega)]
 refine(af a1 a2).trans ?_
 show(if((names.take k).map PV.str).length+((names.drop (k+1)).map PV.str).length<=sizeLine then some (PV.tup ((names.take k).map PV.str++(names.drop (k+1)).map PV.str))else none)=_
 rw[if_pos (by rw[X6,X6,z0a,z0d];omega),z0b]
theorem law_true(ns:List Int)(h:ns.length<=63):EB [.lst (ns.map .int)]=some (.bl true):=by
 obtain⟨xs,x0,x6,xo,ex⟩:=MQ ns
 obtain⟨r,⟨r1,r2⟩,⟨r4,r5⟩,r6⟩:=Kd (Y4 xo) (λx hx=>(xo x hx).2.2.1) x0 ns 6 24 (by decide) (by decide)
 obtain⟨y,hy,ey⟩:=Gq xo x0 r2 r5 (λk=>by have:=r1.2 k;omega) ns
 refine d0 rfl ?_
 refine(av (aP ((bu (ps:=[jr ns]) rfl).trans ex))).trans ?_
 refine(av (ρ':=[.sh (jr ns),.sh (.tup (xs.map PV.str)),.sh r.o,.sh r.s,.sh (.str r.t),.sh (.int (r.d:Nat)),.un,.un,.un,.un,.un]) ?_).trans ?_
 ·show((bP fV _ _).bind _)=_
  rw[(bu (ps:=[jr ns,.int (6:Nat),.int (24:Nat),.tup (xs.map PV.str)]) rfl).trans r6]
  rfl
 refine(av (aP ((bu (ps:=[jr ns,.tup (xs.map PV.str),.str r.t]) rfl).trans ey))).trans ?_
 have hm:=mod_lt (ns.getD 4 0) (n:=9) (by decide)
 have t1:tV (ae gM (ae cJ (bP F_law_cell_at (ah (bZ 0) (ah (dC (.int 4)) aO))) (dC (.int 9))) (dC (.int 8))) [.sh (jr ns),.sh (.tup (xs.map PV.str)),.sh r.o,.sh r.s,.sh (.str r.t),.sh (.int (r.d:Nat)),.sh (.str y),.un,.un,.un,.un]=some (decide ((ns.getD 4 0 %((9:Nat):Int)).toNat=8)):=
  cq ((af (y:=.int ((8:Nat):Int)) ((af (y:=.int ((9:Nat):Int)) ((bu (ps:=[jr ns,.int (4:Nat)]) rfl).trans (jD ns 4)) rfl).trans (cw _ (by decide))) rfl).trans (ub _ _))
 have ln:(xs.map PV.str).length=xs.length:=X6 ..
 have t2:tV (ae KA (bU cL (dV 1)) (dC (.int 1))) [.sh (jr ns),.sh (.tup (xs.map PV.str)),.sh r.o,.sh r.s,.sh (.str r.t),.sh (.int (r.d:Nat)),.sh (.str y),.un,.un,.un,.un]=some (decide (1<xs.length)):=by
  refine cq ((af (x:=.int ((xs.map PV.str).length:Nat)) (y:=.int 1) rfl rfl).trans ?_)
  show some (PV.bl (decide ((((xs.map PV.str).length:Nat):Int)>1)))=_
  rw[ln]
  congr 2
  rw[decide_eq_decide]
  omega
 have done:∀{names:List Str} {s7:Slot},(∀x∈names,Bz x)->names.length<=6->ba (b9 8 (bP d7 (ah (bZ 1) (ah (bZ 6) aO)))) (xB il fN) [.sh (jr ns),.sh (.tup (names.map PV.str)),.sh r.o,.sh r.s,.sh (.str r.t),.sh (.int (r.d:Nat)),.sh (.str y),s7,.un,.un,.un]=some (.rt (.bl true)):=λ{names s7} h1 h2=>by
  obtain⟨d,d1,d2⟩:=MR h1 h2 hy (.sh (jr ns)) (.sh r.o) (.sh r.s) (.sh (.str r.t)) (.sh (.int (r.d:Nat))) s7
  exact(av (aP ((bu (ps:=[.tup (names.map PV.str),.str y]) rfl).trans d1))).trans d2
 by_cases h8:(ns.getD 4 0 %((9:Nat):Int)).toNat=8/\1<xs.length
 ·rw[decide_eq_true h8.1]at t1
  rw[decide_eq_true h8.2]at t2
  have hk:=mod_lt (ns.getD 5 0) (n:=xs.length) (by omega)
  generalize ek:(ns.getD 5 0 %((xs.length:Nat):Int)).toNat=k at hk
  refine(av ((iV ((Cm t1).trans t2)).trans ((av (aP (p:=.int (k:Nat)) ?_)).trans (aP (Ru hk x6))))).trans ?_
  ·refine(af (y:=.int (xs.length:Nat)) ((bu (ps:=[jr ns,.int (5:Nat)]) rfl).trans (jD ns 5)) ?_).trans ((cw _ (by omega)).trans (by rw[ek]))
   refine(cK (x:=.tup (xs.map PV.str)) rfl).trans ?_
   show some (PV.int ((xs.map PV.str).length:Nat))=_
   rw[ln]
  ·refine done (λx hx=>?_) (by rw[z0E,z0a,z0d];omega)
   rcases z0L.mp hx with hx|hx
   ·exact xo x (z1C hx)
   ·exact xo x (List.mem_of_mem_drop hx)
 ·refine(av ((iD ?_).trans rfl)).trans (done xo x6)
  by_cases h1:(ns.getD 4 0 %((9:Nat):Int)).toNat=8
  ·rw[decide_eq_true h1]at t1
   exact(Cm t1).trans (t2.trans (by rw[decide_eq_false λz=>h8 ⟨h1,z⟩]))
  ·rw[decide_eq_false h1]at t1
   exact IH t1
end L2.D.My
open PySem PySem.W PyProof.Rows
theorem PySem.Challenge.cw_signright_k23_where_a_text_fails_holds : PySem.Challenge.rw_signright_k23_where_a_text_fails.Holds := by
  w_on
  refine PySem.W.holds_law (by kernel_rfl) fun abt => ?_
  refine PySem.W.holds_open (q := L2.D.My.Rw) (loose := ["FEWEST_PARTS"]) (Xt := L2.D.My.VA) (XP := XL L2.D.My.Rw []) (Yf := Hook.obs (kHook L2.D.My.Ks L2.D.My.Kt L2.D.My.KI)) (Ya := Hook.val (kHook L2.D.My.Ks L2.D.My.Kt L2.D.My.KI)) (YP := Hook.says (kHook L2.D.My.Ks L2.D.My.Kt L2.D.My.KI)) (N := 20000) L2.D.My.Zb (Hook.of (kHook L2.D.My.Ks L2.D.My.Kt L2.D.My.KI)) (Hook.keeps (kHook L2.D.My.Ks L2.D.My.Kt L2.D.My.KI)) (fun s e => xl_of s (Bool.and_eq_true_iff.mp e).1) XL.keeps (by rfl) (by rfl) (by rfl) (fun s e => recFacts_of (Bool.and_eq_true_iff.mp e).2) (by rfl) (by first | assumption | decide +kernel) (by decide +kernel) ⟨rfl, rfl, rfl, rfl, rfl, by decide +kernel⟩ ?hw ?hc
  (case hw => w_witness2)
  k_fill
  refine L2.D.walkD2 (l := PySem.Challenge.rw_signright_k23_where_a_text_fails) (k := 55) (x := "_law_script") (F := L2.D.My.EB) rfl (by decide) rfl ⟨rfl, by decide, by decide⟩ (fun w h Y => PySem.W.kIn_of Y) ?F L2.D.My.law_true
  case F =>
    intro w mg fa h KX G SU
    refine' L2.D.My.all_mk KX G SU ?CG ?pK ?CH ?JD ?JE ?CI ?sd ?ud ?ue ?uf ?ug ?y6 ?y7 ?y8 ?y9 ?za ?nG ?zb ?zc ?zd ?ze ?CJ ?CK ?CL ?CM ?CN ?lU ?nH ?zf ?zh ?zi ?zj ?CO ?CP ?CQ ?CS ?CT ?lV ?nI ?uh ?ui ?uj ?uk ?zk ?zm ?zo ?zp ?zq ?ko ?lX ?pL ?pM ?pN ?pO ?pP ?pQ ?jt ?ju ?lZ ?EC ?ED ?QD ?JF ?JG ?QF ?JH ?JI ?QG ?JJ ?JK ?QH ?JL ?JM ?QJ ?JN ?JO ?QK ?JP ?JQ ?QL ?QM ?QN ?QO ?QP ?QQ ?QR ?QT ?QU ?nJ ?vM ?vN ?sk ?vO ?zu ?pR ?so ?sr ?Xf ?Xg ?Xh ?b4_ ?Xi ?QV ?QW ?Vp ?QX ?QY ?Vq ?Vr ?Xj ?Xk ?Xl ?su ?sv ?pS ?sx ?vP ?nK ?pT ?pU ?kq ?fiN ?fnN ?kcN ?QZ ?rdN ?fcN ?gaN ?Q0 ?Q1 ?fiH ?fnH ?Q2 ?fiA ?fnA ?Q3 ?fiY ?fnY ?Q4 ?fiS ?fnS ?Q5 ?fiC ?fnC ?Q6 ?rdC ?fcC ?gaC ?hdC ?nL ?l6 ?nM ?nN ?l7 ?nO ?gD ?gE ?fO ?cg ?dS ?l8 ?kr ?md ?mf ?ku ?mh ?ky ?kz ?pV ?pW ?pX ?pY ?nP ?nQ ?pZ ?p6 ?kB ?kC ?mi ?mj ?qa ?qb ?nR ?nS ?jv ?jw ?kD ?kE ?qc ?qd ?ml ?mm ?nT ?nU ?nV ?nW ?mn ?mq ?nX ?nY ?CU ?CV ?qe ?qf ?nZ ?n5 ?n6 ?n8 ?EE ?JR ?mv ?CW ?JS ?mx ?JT ?CY ?JU ?zw ?JV ?zx ?JW ?my
    (case CG => k_is)
    (case pK => k_is)
    (case CH => k_is)
    (case JD => k_is)
    (case JE => k_is)
    (case CI => k_is)
    (case sd => k_is)
    (case ud => k_is)
    (case ue => k_is)
    (case uf => k_is)
    (case ug => k_is)
    (case y6 => k_is)
    (case y7 => k_is)
    (case y8 => k_is)
    (case y9 => k_is)
    (case za => kit_is)
    (case nG => k_is)
    (case zb => k_is)
    (case zc => k_is)
    (case zd => k_is)
    (case ze => k_is)
    (case CJ => k_is)
    (case CK => k_is)
    (case CL => k_is)
    (case CM => k_is)
    (case CN => kit_is)
    (case lU => k_is)
    (case nH => k_is)
    (case zf => k_is)
    (case zh => k_is)
    (case zi => k_is)
    (case zj => k_is)
    (case CO => k_is)
    (case CP => k_is)
    (case CQ => k_is)
    (case CS => k_is)
    (case CT => kit_is)
    (case lV => k_is)
    (case nI => k_is)
    (case uh => k_is)
    (case ui => k_is)
    (case uj => k_is)
    (case uk => k_is)
    (case zk => k_is)
    (case zm => k_is)
    (case zo => k_is)
    (case zp => k_is)
    (case zq => kit_is)
    (case ko => k_is)
    (case lX => k_is)
    (case pL => k_is)
    (case pM => k_is)
    (case pN => k_is)
    (case pO => k_is)
    (case pP => k_is)
    (case pQ => k_is)
    (case jt => k_is)
    (case ju => k_is)
    (case lZ => k_is)
    (case EC => k_is)
    (case ED => k_is)
    (case QD => apply L2.D.My.kK <;> k_is)
    (case JF => k_is)
    (case JG => k_is)
    (case QF => apply L2.D.My.kK <;> k_is)
    (case JH => k_is)
    (case JI => k_is)
    (case QG => apply L2.D.My.kK <;> k_is)
    (case JJ => k_is)
    (case JK => k_is)
    (case QH => apply L2.D.My.kK <;> k_is)
    (case JL => k_is)
    (case JM => k_is)
    (case QJ => apply L2.D.My.kK <;> k_is)
    (case JN => k_is)
    (case JO => k_is)
    (case QK => apply L2.D.My.kK <;> k_is)
    (case JP => k_is)
    (case JQ => k_is)
    (case QL => apply L2.D.My.kK <;> k_is)
    (case QM => k_is)
    (case QN => apply L2.D.My.kK <;> k_is)
    (case QO => k_is)
    (case QP => apply L2.D.My.kK <;> k_is)
    (case QQ => k_is)
    (case QR => k_is)
    (case QT => exact ⟨⟨_, _, rfl⟩, ⟨_, _, rfl⟩, ⟨_, _, rfl⟩, ⟨_, _, rfl⟩, ⟨_, _, rfl⟩, ⟨_, _, rfl⟩, ⟨_, _, rfl⟩, ⟨_, _, rfl⟩, ⟨_, _, rfl⟩, ⟨_, _, rfl⟩, trivial⟩)
    (case QU => rfl)
    (case nJ => k_is)
    (case vM => k_is)
    (case vN => k_is)
    (case sk => k_is)
    (case vO => k_is)
    (case zu => k_is)
    (case pR => k_is)
    (case so => k_is)
    (case sr => k_is)
    (case Xf => k_is)
    (case Xg => k_is)
    (case Xh => k_is)
    (case b4_ => k_is)
    (case Xi => kernel_rfl)
    (case QV => k_is)
    (case QW => k_is)
    (case Vp => k_is)
    (case QX => rfl)
    (case QY => rfl)
    (case Vq => k_is)
    (case Vr => k_is)
    (case Xj => k_is)
    (case Xk => k_is)
    (case Xl => k_is)
    (case su => kit_is)
    (case sv => kit_is)
    (case pS => kit_is)
    (case sx => kit_is)
    (case vP => kit_is)
    (case nK => kit_is)
    (case pT => kit_is)
    (case pU => kit_is)
    (case kq => kit_is)
    (case fiN => k_is)
    (case fnN => k_is)
    (case kcN => k_is)
    (case QZ => apply L2.D.My.kK <;> k_is)
    (case rdN => k_is)
    (case fcN => k_is)
    (case gaN => k_is)
    (case Q0 => k_is)
    (case Q1 => k_is)
    (case fiH => k_is)
    (case fnH => k_is)
    (case Q2 => apply L2.D.My.kK <;> k_is)
    (case fiA => k_is)
    (case fnA => k_is)
    (case Q3 => apply L2.D.My.kK <;> k_is)
    (case fiY => k_is)
    (case fnY => k_is)
    (case Q4 => apply L2.D.My.kK <;> k_is)
    (case fiS => k_is)
    (case fnS => k_is)
    (case Q5 => apply L2.D.My.kK <;> k_is)
    (case fiC => k_is)
    (case fnC => k_is)
    (case Q6 => apply L2.D.My.kK <;> k_is)
    (case rdC => k_is)
    (case fcC => k_is)
    (case gaC => k_is)
    (case hdC => rfl)
    (case nL => k_is)
    (case l6 => k_is)
    (case nM => apply L2.D.My.kK <;> k_is)
    (case nN => k_is)
    (case l7 => k_is)
    (case nO => apply L2.D.My.kK <;> k_is)
    (case gD => k_is)
    (case gE => k_is)
    (case fO => k_is)
    (case cg => k_is)
    (case dS => apply L2.D.My.kK <;> k_is)
    (case l8 => k_is)
    (case kr => k_is)
    (case md => apply L2.D.My.kK <;> k_is)
    (case mf => k_is)
    (case ku => k_is)
    (case mh => apply L2.D.My.kK <;> k_is)
    (case ky => k_is)
    (case kz => apply L2.D.My.kK <;> k_is)
    (case pV => k_is)
    (case pW => apply L2.D.My.kK <;> k_is)
    (case pX => k_is)
    (case pY => apply L2.D.My.kK <;> k_is)
    (case nP => k_is)
    (case nQ => apply L2.D.My.kK <;> k_is)
    (case pZ => k_is)
    (case p6 => apply L2.D.My.kK <;> k_is)
    (case kB => k_is)
    (case kC => apply L2.D.My.kK <;> k_is)
    (case mi => k_is)
    (case mj => apply L2.D.My.kK <;> k_is)
    (case qa => k_is)
    (case qb => apply L2.D.My.kK <;> k_is)
    (case nR => k_is)
    (case nS => apply L2.D.My.kK <;> k_is)
    (case jv => k_is)
    (case jw => apply L2.D.My.kK <;> k_is)
    (case kD => k_is)
    (case kE => apply L2.D.My.kK <;> k_is)
    (case qc => k_is)
    (case qd => apply L2.D.My.kK <;> k_is)
    (case ml => k_is)
    (case mm => apply L2.D.My.kK <;> k_is)
    (case nT => k_is)
    (case nU => apply L2.D.My.kK <;> k_is)
    (case nV => k_is)
    (case nW => apply L2.D.My.kK <;> k_is)
    (case mn => k_is)
    (case mq => apply L2.D.My.kK <;> k_is)
    (case nX => k_is)
    (case nY => apply L2.D.My.kK <;> k_is)
    (case CU => k_is)
    (case CV => apply L2.D.My.kK <;> k_is)
    (case qe => k_is)
    (case qf => apply L2.D.My.kK <;> k_is)
    (case nZ => k_is)
    (case n5 => apply L2.D.My.kK <;> k_is)
    (case n6 => k_is)
    (case n8 => apply L2.D.My.kK <;> k_is)
    (case EE => k_is)
    (case JR => apply L2.D.My.kK <;> k_is)
    (case mv => k_is)
    (case CW => k_is)
    (case JS => k_is)
    (case mx => k_is)
    (case JT => k_is)
    (case CY => k_is)
    (case JU => k_is)
    (case zw => k_is)
    (case JV => k_is)
    (case zx => k_is)
    (case JW => k_is)
    (case my => k_is)
