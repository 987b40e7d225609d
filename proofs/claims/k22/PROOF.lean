import PyProof.Rows.All
import Wide.All
import OpenK.AllK
import Wide.FinOn
import Lean
import PyProof.EqAt
import PyProof.EqKinds
import PyProof.TupleCall
import PyProof.Rows.SortPure
import PySem.Builtin.Int.W1All
import PySem.Sem
import PyProof.StrBlockL
import PyProof.SliceStr2
import PyProof.StrCalls2
import PyProof.WalkInts
import PyProof.Rows.StrStep
import PyProof.FactsAll.tuple_0
import PyProof.FactsAll.tuple_2
import PyProof.FactsAll.tuple_3
import PyProof.FString5
import PyProof.StrOps2
import PyProof.StrWalks
import PyProof.Draws
import PyProof.DictWalks
import PyProof.ListStr
import PyProof.StrLawsIdx
import PyProof.SliceList
import PySem.Challenge.RW_signright_k22_rules_read
set_option Elab.async false
set_option linter.all false
set_option maxRecDepth 100000
set_option maxHeartbeats 0
set_option genSizeOf false
set_option genSizeOfSpec false
local macro_rules | `(tactic| omega) => `(tactic| lia)
namespace HX
open PySem PySem.W
noncomputable def EX(st:SharedT->Thread->Option (SharedT×Thread))(ok:Thread->Bool)(n:Nat):SharedT->Thread->Option SharedT:=
 Nat.rec (motive:=λ_=>SharedT->Thread->Option SharedT) (λ_ _=>none) (λ_ ih s t=>match through t with
  |true=>some s
  |false=>match ok t with
   |false=>none
   |true=>match st s t with
    |some (s',t')=>ih s' t'
    |none=>none) n
theorem Cb{tb:String->Option Builtin}{p:Program}{w:World}{m:Nat}{ann:Option Value}(n:Nat):∀(a z:SharedT) (t:Thread),EX (stepT (denote tb) p w) (stepOk m ann) n a t=some z->topRun tb p w m ann n a.abs t=some z.abs:=by
 induction n with
 |zero=>exact λ_ _ _ e=>nomatch e
 |succ n ih=>
  intro a z t
  rw[topRun]
  change(match through t with|true=>some a|false=>match stepOk m ann t with|false=>none|true=>match stepT (denote tb) p w a t with|some (b,u)=>EX (stepT (denote tb) p w) (stepOk m ann) n b u|none=>none)=_->_
  cases through t
  ·cases stepOk m ann t
   ·exact λe=>nomatch e
   ·rcases q:stepT (denote tb) p w a t with _|⟨b,u⟩
    ·exact λe=>nomatch e
    ·dsimp only;rw[stepT_spec q];exact ih _ _ _
  ·intro e;cases e;rfl
noncomputable def HL:List Obj->Nat->BT->BT
 |[],_,t=>t
 |o::r,n,t=>HL r (n+1) (t.ins n o)
noncomputable def HM(P:Params):BT:=HL (boot_heap P).objs.toList 0 .nil
theorem EY(P:Params):absHeap (HM P) 11 {}=boot_heap P:=by kernel_rfl
noncomputable def D6(p:Program)(N:Nat)(w:World)(os:OsState):Option SharedT:=
 EX (Fast.tw10156331382660048174 (Fast.tw11892475500146522536 Fast.tw14364793385576792824) p w) (Fast.tw6613529449190102663 11 ((boot_heap w.params).nsMap mainGlobals "__annotations__")) N ⟨HM w.params,11,{},Array.mk [],boot_drawn,boot_toks,os⟩ (topStub p)
theorem Nk{p:Program}{N:Nat}{w:World}{os:OsState}{z:SharedT}(h:D6 p N w os=some z):topRun treeTable p w 11 ((boot_heap w.params).nsMap mainGlobals "__annotations__") N ⟨boot_heap w.params,Array.mk [],boot_drawn,boot_toks,os⟩ (topStub p)=some z.abs:=by
 unfold D6 at h
 rw[<-Fast.te10156331382660048174,<-Fast.te11892475500146522536,<-Fast.te14364793385576792824,<-Fast.te6613529449190102663]at h
 have:=Cb _ _ _ _ h
 unfold SharedT.abs at this
 dsimp only at this
 rw[EY]at this
 exact this
noncomputable abbrev KC(p:Program)(w:World)(z:Shared):Bool:=staticsOk (importedModules p.main.body) (boot_heap w.params) z.heap&&namesBound p z.heap&&gensDone z&&laidKept (boot_heap w.params) z.heap
theorem Nl{p q:Program}{loose:List Str}{Xt:Shared->Bool}{α:Type}{Yf:Shared->α}{Ya:World->α}{N:Nat}
  (h1:opening p=plainProg p.main.scope.names)(h2:Nat.ble 600 N=true)(h3:∀s,fenceModules? p s=some s)
  (c:∀w os,(D6 p N w os).map (λz=>KC p w z.abs)=some true)
  (v:∀w os,(D6 p N w os).map (λz=>Fast.tw4187177175401517315 q loose (importedModules p.main.body) Xt true z.abs)=some (openGood q loose))
  (y:∀w os,(D6 p N w os).map (λz=>Yf z.abs)=some (Ya w)):LeftO p q loose Xt Yf Ya N:=λw=>by
 obtain⟨⟨h,gs,d,k,os⟩,e,e'⟩:=Option.map_eq_some_iff.mp (boot_open h1 h2 h3 w)
 obtain⟨rfl,rfl,rfl,rfl⟩:h=boot_heap w.params/\gs=Array.mk []/\d=boot_drawn/\k=boot_toks:=by simpa using e'
 have hc:=c w os
 have hv:=v w os
 have hy:=y w os
 rw[<-Fast.te4187177175401517315]at hv
 obtain⟨z,ez,hc⟩:=Option.map_eq_some_iff.mp hc
 rw[ez,Option.map_some,Option.some.injEq]at hv hy
 have r:=Nk ez
 have t:topFrom treeTable p w N ⟨boot_heap w.params,Array.mk [],boot_drawn,boot_toks,os⟩=some z.abs:=by
  unfold topFrom
  dsimp only
  rw[show((boot_heap w.params).isNs mainGlobals&&(Array.mk []:Array GenState).size==0)=true from by kernel_rfl,show(boot_heap w.params).objs.size=11 from by kernel_rfl,r]
  show(match KC p w z.abs with|true=>_|false=>_)=_
  rw[hc]
 unfold openEnds
 rw[e]
 rw[Option.bind_some,t]
 exact congrArg some (Prod.ext hv hy)
end HX
namespace L2.D.My
open PySem
noncomputable abbrev BY:=PySem.Challenge.pw_signright_k22_rules_read
noncomputable def qy(i:Nat):Stmt:=BY.main.body.getD i (.Pass ⟨0,0,0,0⟩)
noncomputable def k7(i j:Nat):Stmt:=match qy i with
 |.ClassDef (body:=b) ..=>b.getD j (.Pass ⟨0,0,0,0⟩)
 |_=>.Pass ⟨0,0,0,0⟩
noncomputable def Nm(s:Stmt):Arguments:=match s with
 |.FunctionDef (args:=a) ..=>a
 |_=>⟨[],[],none,[],[],none,[]⟩
noncomputable def Nn(s:Stmt):List Stmt:=match s with
 |.FunctionDef (body:=b) ..=>b
 |_=>[]
noncomputable def Np(s:Stmt):Scope:=match s with
 |.FunctionDef (scope:=b) ..=>b
 |_=>default
noncomputable abbrev oE:Value:=.none
noncomputable abbrev jB(s:Str)(t:Tok):Value:=.str s t
noncomputable abbrev bM(a:Addr):Value:=.ref a
noncomputable abbrev bS(P:Params)(s:Str)(t:Tok)(v:Value):DictEntry:=⟨PyData.keyHash P s,.str s t,v⟩
noncomputable abbrev MD(n q:Str)(t:Nat)(l:List Value):Obj:=⟨.type "code",none,.fields (.str n t::.str q (t+1)::.str "/claim/cut.py" (t+2)::l).toArray,#[]⟩
noncomputable abbrev Nq(n q:Str)(st:Stmt)(dV kV doc pm:Value)(an:Option Addr)(cd ct:Value):Obj:=⟨.type "function",none,.func (PySem.W.fnOf n q (Nm st) (Nn st) (Np st) dV kV doc pm an cd ct),#[]⟩
noncomputable abbrev iN(n q:Str)(t:Nat)(L k:Int)(a:Nat)(i:Int)(j:Nat):Obj:=MD n q t [.int L 0,.int k 0,.int 0 0,.int 0 0,.int 3 0,bM a,.bool true,.int 181 0,bM (a+1),oE,bM (a+2),bM (a+3),bM (a+4),.int i 0,.int L 0,jB "/claim/cut.py" j]
noncomputable abbrev HN(n q:Str)(t:Nat)(L k:Int)(a:Nat)(i:Int)(j:Nat):Obj:=MD n q t [.int L 0,.int k 0,.int 0 0,.int 0 0,.int 3 0,bM a,.bool true,.int 181 0,bM (a+1),oE,oE,oE,bM (a+2),.int i 0,.int L 0,jB "/claim/cut.py" j]
noncomputable abbrev g0(n q:Str)(st:Stmt)(m:Str)(t a:Nat):Obj:=Nq n q st oE oE oE (jB m t) none (bM a) oE
noncomputable def KD(l:List Stmt):List Nat->List Stmt
 |[]=>[]
 |i::r=>match l[i]? with
  |some s=>s::KD l r
  |none=>KD l r
noncomputable def Hw:Program:={BY with main:={BY.main with body:=KD BY.main.body [0,2,3,5,6,7,8,9,10,12,13,14,15,16,17,19,20,21,22,23,24,25,26,27,28,29]}}
noncomputable def BZ(P:Params):PySem.W.Frag:=
 (nat_lit 2,⟨oE,none,.dict #[] 0,#[]⟩)::
 (nat_lit 3,⟨(.type "dict"),none,.dict (List.toArray [bS P "__name__" 165 (jB "law_signright_k22_rules_read" 661),bS P "__doc__" 166 oE,bS P "__package__" 167 oE,bS P "__loader__" 168 (.builtin "__main__.__loader__#opaque"),bS P "__spec__" 169 oE,bS P "__annotations__" 170 (bM 6),bS P "__builtins__" 171 (bM 4),bS P "__file__" 173 (jB "/claim/cut.py" 172),bS P "__cached__" 174 oE,bS P "_wall" 193 (bM 21),bS P "SignError" 213 (bM 31),bS P "NoRule" 238 (bM 51),bS P "Rule" 291 (bM 91),bS P "Hand" 347 (bM 140),bS P "Counting" 403 (bM 183),bS P "All" 441 (bM 216),bS P "Any" 479 (bM 249),bS P "Some" 518 (bM 282),bS P "MOST_PARTS" 522 (.int 8 521),bS P "FEWEST_PARTS" 553 (bM 285),bS P "shared_signs" 564 (bM 292),bS P "counting_rule" 572 (bM 299),bS P "Reading" 650 (bM 356),bS P "read" 660 (bM 367),bS P "_law_cell_at" 670 (bM 374),bS P "_law_base" 681 (bM 381),bS P "_law_name" 693 (bM 388),bS P "_law_names" 710 (bM 395),bS P "_law_roll" 717 (bM 402),bS P "_law_hand" 724 (bM 409),bS P "_law_counted" 730 (bM 414),bS P "_law_folded" 740 (bM 421),bS P "_law_built" 746 (bM 426),bS P "_law_same" 755 (bM 433),bS P "law" 770 (bM 440)]) 35,#[]⟩)::
 (nat_lit 20,iN "_wall" "_wall" 187 1 1 15 191 192)::
 (nat_lit 21,g0 "_wall" "_wall" (qy 0) "__main__" 164 20)::
 (nat_lit 30,⟨(.type "dict"),none,.dict (List.toArray [bS P "__module__" 203 (jB "signright.errors" 194),bS P "__firstlineno__" 207 (.int 5 206),bS P "__static_attributes__" 208 (bM 29),bS P "__weakref__" 210 (bM 32),bS P "__doc__" 211 oE]) 3,#[]⟩)::
 (nat_lit 31,⟨(.type "type"),none,.cls ⟨"SignError",[(.type "ValueError")],[(bM 31),(.type "ValueError"),(.type "Exception"),(.type "BaseException"),(.type "object")],30,"SignError",true,[],[(bM 51)],false,none,false⟩,#[some (bM 22),none,some (jB "SignError" 196),some (jB "SignError" 204),some (.builtin "ValueError.__new__"),some (.bool true)]⟩)::
 (nat_lit 32,⟨(.type "getset_descriptor"),none,.fields (List.toArray [(jB "__weakref__" 209),(bM 31),(.builtin "ExceptionGroup.__weakref__"),oE]),#[]⟩)::
 (nat_lit 47,iN "__init__" "NoRule.__init__" 226 9 2 42 231 232)::
 (nat_lit 48,g0 "__init__" "NoRule.__init__" (k7 3 0) "signright.errors" 194 47)::
 (nat_lit 50,⟨(.type "dict"),none,.dict (List.toArray [bS P "__module__" 221 (jB "signright.errors" 194),bS P "__firstlineno__" 225 (.int 7 224),bS P "__init__" 233 (bM 48),bS P "__static_attributes__" 235 (bM 49),bS P "__doc__" 236 oE]) 2,#[]⟩)::
 (nat_lit 51,⟨(.type "type"),none,.cls ⟨"NoRule",[(bM 31)],[(bM 51),(bM 31),(.type "ValueError"),(.type "Exception"),(.type "BaseException"),(.type "object")],50,"NoRule",true,[],[],false,none,false⟩,#[some (bM 35),none,some (jB "NoRule" 214),some (jB "NoRule" 222),some (.builtin "ValueError.__new__"),some (.bool true)]⟩)::
 (nat_lit 66,iN "shape" "Rule.shape" 253 15 1 61 257 258)::
 (nat_lit 67,g0 "shape" "Rule.shape" (k7 5 0) "signright.rules" 239 66)::
 (nat_lit 73,iN "text" "Rule.text" 260 18 1 68 264 265)::
 (nat_lit 74,g0 "text" "Rule.text" (k7 5 1) "signright.rules" 239 73)::
 (nat_lit 80,iN "lets" "Rule.lets" 267 21 3 75 273 274)::
 (nat_lit 81,g0 "lets" "Rule.lets" (k7 5 2) "signright.rules" 239 80)::
 (nat_lit 87,iN "ladder" "Rule.ladder" 276 24 2 82 281 282)::
 (nat_lit 88,g0 "ladder" "Rule.ladder" (k7 5 3) "signright.rules" 239 87)::
 (nat_lit 90,⟨(.type "dict"),none,.dict (List.toArray [bS P "__module__" 248 (jB "signright.rules" 239),bS P "__firstlineno__" 252 (.int 13 251),bS P "shape" 259 (bM 67),bS P "text" 266 (bM 74),bS P "lets" 275 (bM 81),bS P "ladder" 283 (bM 88),bS P "__static_attributes__" 284 (bM 89),bS P "__dict__" 286 (bM 92),bS P "__weakref__" 288 (bM 93),bS P "__doc__" 289 oE]) 4,#[]⟩)::
 (nat_lit 91,⟨(.type "type"),none,.cls ⟨"Rule",[(.type "object")],[(bM 91),(.type "object")],90,"Rule",true,[],[(bM 140),(bM 183)],false,none,false⟩,#[none,none,some (jB "Rule" 241),some (jB "Rule" 249),some (.builtin "object.__new__"),some (.bool true)]⟩)::
 (nat_lit 92,⟨(.type "getset_descriptor"),none,.fields (List.toArray [(jB "__dict__" 285),(bM 91),(.builtin "function.__dict__"),(.builtin "function.__dict__#set")]),#[]⟩)::
 (nat_lit 93,⟨(.type "getset_descriptor"),none,.fields (List.toArray [(jB "__weakref__" 287),(bM 91),(.builtin "ExceptionGroup.__weakref__"),oE]),#[]⟩)::
 (nat_lit 108,iN "__init__" "Hand.__init__" 304 28 2 103 309 310)::
 (nat_lit 109,g0 "__init__" "Hand.__init__" (k7 6 0) "signright.rules" 239 108)::
 (nat_lit 115,iN "shape" "Hand.shape" 312 31 1 110 316 317)::
 (nat_lit 116,g0 "shape" "Hand.shape" (k7 6 1) "signright.rules" 239 115)::
 (nat_lit 122,iN "text" "Hand.text" 319 34 1 117 323 324)::
 (nat_lit 123,g0 "text" "Hand.text" (k7 6 2) "signright.rules" 239 122)::
 (nat_lit 129,iN "lets" "Hand.lets" 326 37 3 124 332 333)::
 (nat_lit 130,g0 "lets" "Hand.lets" (k7 6 3) "signright.rules" 239 129)::
 (nat_lit 136,iN "ladder" "Hand.ladder" 335 40 2 131 340 341)::
 (nat_lit 137,g0 "ladder" "Hand.ladder" (k7 6 4) "signright.rules" 239 136)::
 (nat_lit 139,⟨(.type "dict"),none,.dict (List.toArray [bS P "__module__" 299 (jB "signright.rules" 239),bS P "__firstlineno__" 303 (.int 26 302),bS P "__init__" 311 (bM 109),bS P "shape" 318 (bM 116),bS P "text" 325 (bM 123),bS P "lets" 334 (bM 130),bS P "ladder" 342 (bM 137),bS P "__static_attributes__" 344 (bM 138),bS P "__doc__" 345 oE]) 2,#[]⟩)::
 (nat_lit 140,⟨(.type "type"),none,.cls ⟨"Hand",[(bM 91)],[(bM 140),(bM 91),(.type "object")],139,"Hand",true,[],[],false,none,false⟩,#[some (bM 96),none,some (jB "Hand" 292),some (jB "Hand" 300),some (.builtin "object.__new__"),some (.bool true)]⟩)::
 (nat_lit 155,iN "__init__" "Counting.__init__" 360 44 3 150 366 367)::
 (nat_lit 156,g0 "__init__" "Counting.__init__" (k7 7 0) "signright.rules" 239 155)::
 (nat_lit 162,iN "lets" "Counting.lets" 369 48 3 157 375 376)::
 (nat_lit 163,g0 "lets" "Counting.lets" (k7 7 1) "signright.rules" 239 162)::
 (nat_lit 169,iN "ladder" "Counting.ladder" 378 51 2 164 383 384)::
 (nat_lit 170,g0 "ladder" "Counting.ladder" (k7 7 2) "signright.rules" 239 169)::
 (nat_lit 174,HN "shapes_of_parts" "Counting.shapes_of_parts" 386 54 1 171 389 390)::
 (nat_lit 175,g0 "shapes_of_parts" "Counting.shapes_of_parts" (k7 7 3) "signright.rules" 239 174)::
 (nat_lit 179,HN "text_of_parts" "Counting.text_of_parts" 392 57 1 176 395 396)::
 (nat_lit 180,g0 "text_of_parts" "Counting.text_of_parts" (k7 7 4) "signright.rules" 239 179)::
 (nat_lit 182,⟨(.type "dict"),none,.dict (List.toArray [bS P "__module__" 355 (jB "signright.rules" 239),bS P "__firstlineno__" 359 (.int 42 358),bS P "__init__" 368 (bM 156),bS P "lets" 377 (bM 163),bS P "ladder" 385 (bM 170),bS P "shapes_of_parts" 391 (bM 175),bS P "text_of_parts" 397 (bM 180),bS P "__static_attributes__" 400 (bM 181),bS P "__doc__" 401 oE]) 2,#[]⟩)::
 (nat_lit 183,⟨(.type "type"),none,.cls ⟨"Counting",[(bM 91)],[(bM 183),(bM 91),(.type "object")],182,"Counting",true,[],[(bM 216),(bM 249),(bM 282)],false,none,false⟩,#[some (bM 143),none,some (jB "Counting" 348),some (jB "Counting" 356),some (.builtin "object.__new__"),some (.bool true)]⟩)::
 (nat_lit 198,iN "__init__" "All.__init__" 416 61 2 193 421 422)::
 (nat_lit 199,g0 "__init__" "All.__init__" (k7 8 0) "signright.rules" 239 198)::
 (nat_lit 205,iN "shape" "All.shape" 424 64 1 200 428 429)::
 (nat_lit 206,g0 "shape" "All.shape" (k7 8 1) "signright.rules" 239 205)::
 (nat_lit 212,iN "text" "All.text" 431 67 1 207 435 436)::
 (nat_lit 213,g0 "text" "All.text" (k7 8 2) "signright.rules" 239 212)::
 (nat_lit 215,⟨(.type "dict"),none,.dict (List.toArray [bS P "__module__" 411 (jB "signright.rules" 239),bS P "__firstlineno__" 415 (.int 59 414),bS P "__init__" 423 (bM 199),bS P "shape" 430 (bM 206),bS P "text" 437 (bM 213),bS P "__static_attributes__" 438 (bM 214),bS P "__doc__" 439 oE]) 2,#[]⟩)::
 (nat_lit 216,⟨(.type "type"),none,.cls ⟨"All",[(bM 183)],[(bM 216),(bM 183),(bM 91),(.type "object")],215,"All",true,[],[],false,none,false⟩,#[some (bM 186),none,some (jB "All" 404),some (jB "All" 412),some (.builtin "object.__new__"),some (.bool true)]⟩)::
 (nat_lit 231,iN "__init__" "Any.__init__" 454 71 2 226 459 460)::
 (nat_lit 232,g0 "__init__" "Any.__init__" (k7 9 0) "signright.rules" 239 231)::
 (nat_lit 238,iN "shape" "Any.shape" 462 74 1 233 466 467)::
 (nat_lit 239,g0 "shape" "Any.shape" (k7 9 1) "signright.rules" 239 238)::
 (nat_lit 245,iN "text" "Any.text" 469 77 1 240 473 474)::
 (nat_lit 246,g0 "text" "Any.text" (k7 9 2) "signright.rules" 239 245)::
 (nat_lit 248,⟨(.type "dict"),none,.dict (List.toArray [bS P "__module__" 449 (jB "signright.rules" 239),bS P "__firstlineno__" 453 (.int 69 452),bS P "__init__" 461 (bM 232),bS P "shape" 468 (bM 239),bS P "text" 475 (bM 246),bS P "__static_attributes__" 476 (bM 247),bS P "__doc__" 477 oE]) 2,#[]⟩)::
 (nat_lit 249,⟨(.type "type"),none,.cls ⟨"Any",[(bM 183)],[(bM 249),(bM 183),(bM 91),(.type "object")],248,"Any",true,[],[],false,none,false⟩,#[some (bM 219),none,some (jB "Any" 442),some (jB "Any" 450),some (.builtin "object.__new__"),some (.bool true)]⟩)::
 (nat_lit 264,iN "__init__" "Some.__init__" 492 81 3 259 498 499)::
 (nat_lit 265,g0 "__init__" "Some.__init__" (k7 10 0) "signright.rules" 239 264)::
 (nat_lit 271,iN "shape" "Some.shape" 501 84 1 266 505 506)::
 (nat_lit 272,g0 "shape" "Some.shape" (k7 10 1) "signright.rules" 239 271)::
 (nat_lit 278,iN "text" "Some.text" 508 87 1 273 512 513)::
 (nat_lit 279,g0 "text" "Some.text" (k7 10 2) "signright.rules" 239 278)::
 (nat_lit 281,⟨(.type "dict"),none,.dict (List.toArray [bS P "__module__" 487 (jB "signright.rules" 239),bS P "__firstlineno__" 491 (.int 79 490),bS P "__init__" 500 (bM 265),bS P "shape" 507 (bM 272),bS P "text" 514 (bM 279),bS P "__static_attributes__" 515 (bM 280),bS P "__doc__" 516 oE]) 2,#[]⟩)::
 (nat_lit 282,⟨(.type "type"),none,.cls ⟨"Some",[(bM 183)],[(bM 282),(bM 183),(bM 91),(.type "object")],281,"Some",true,[],[],false,none,false⟩,#[some (bM 252),none,some (jB "Some" 480),some (jB "Some" 488),some (.builtin "object.__new__"),some (.bool true)]⟩)::
 (nat_lit 285,⟨(.type "dict"),none,.dict (List.toArray [bS P "all(" 523 (.int 1 524),bS P "any(" 525 (.int 1 526),bS P "1 of (" 527 (.int 1 528),bS P "2 of (" 529 (.int 2 530),bS P "3 of (" 531 (.int 3 532),bS P "4 of (" 533 (.int 4 534),bS P "5 of (" 535 (.int 5 536),bS P "6 of (" 537 (.int 6 538),bS P "7 of (" 539 (.int 7 540),bS P "8 of (" 541 (.int 8 542)]) 10,#[]⟩)::
 (nat_lit 291,iN "shared_signs" "shared_signs" 554 92 2 286 562 563)::
 (nat_lit 292,g0 "shared_signs" "shared_signs" (qy 14) "signright.reader" 519 291)::
 (nat_lit 298,iN "counting_rule" "counting_rule" 565 99 2 293 570 571)::
 (nat_lit 299,g0 "counting_rule" "counting_rule" (qy 15) "signright.reader" 519 298)::
 (nat_lit 312,iN "__init__" "Reading.__init__" 585 107 3 307 591 592)::
 (nat_lit 313,g0 "__init__" "Reading.__init__" (k7 16 0) "signright.reader" 519 312)::
 (nat_lit 317,HN "take_word" "Reading.take_word" 594 112 1 314 597 598)::
 (nat_lit 318,g0 "take_word" "Reading.take_word" (k7 16 1) "signright.reader" 519 317)::
 (nat_lit 324,iN "comes" "Reading.comes" 600 120 2 319 605 606)::
 (nat_lit 325,g0 "comes" "Reading.comes" (k7 16 2) "signright.reader" 519 324)::
 (nat_lit 331,iN "take_sign" "Reading.take_sign" 608 123 2 326 613 614)::
 (nat_lit 332,g0 "take_sign" "Reading.take_sign" (k7 16 3) "signright.reader" 519 331)::
 (nat_lit 338,iN "take_parts" "Reading.take_parts" 616 128 2 333 622 623)::
 (nat_lit 339,g0 "take_parts" "Reading.take_parts" (k7 16 4) "signright.reader" 519 338)::
 (nat_lit 345,iN "take_rule" "Reading.take_rule" 625 139 1 340 630 631)::
 (nat_lit 346,g0 "take_rule" "Reading.take_rule" (k7 16 5) "signright.reader" 519 345)::
 (nat_lit 352,iN "take_end" "Reading.take_end" 633 145 1 347 637 638)::
 (nat_lit 353,g0 "take_end" "Reading.take_end" (k7 16 6) "signright.reader" 519 352)::
 (nat_lit 355,⟨(.type "dict"),none,.dict (List.toArray [bS P "__module__" 580 (jB "signright.reader" 519),bS P "__firstlineno__" 584 (.int 105 583),bS P "__init__" 593 (bM 313),bS P "take_word" 599 (bM 318),bS P "comes" 607 (bM 325),bS P "take_sign" 615 (bM 332),bS P "take_parts" 624 (bM 339),bS P "take_rule" 632 (bM 346),bS P "take_end" 639 (bM 353),bS P "__static_attributes__" 643 (bM 354),bS P "__dict__" 645 (bM 357),bS P "__weakref__" 647 (bM 358),bS P "__doc__" 648 oE]) 4,#[]⟩)::
 (nat_lit 356,⟨(.type "type"),none,.cls ⟨"Reading",[(.type "object")],[(bM 356),(.type "object")],355,"Reading",true,[],[],false,none,false⟩,#[none,none,some (jB "Reading" 573),some (jB "Reading" 581),some (.builtin "object.__new__"),some (.bool true)]⟩)::
 (nat_lit 357,⟨(.type "getset_descriptor"),none,.fields (List.toArray [(jB "__dict__" 644),(bM 356),(.builtin "function.__dict__"),(.builtin "function.__dict__#set")]),#[]⟩)::
 (nat_lit 358,⟨(.type "getset_descriptor"),none,.fields (List.toArray [(jB "__weakref__" 646),(bM 356),(.builtin "ExceptionGroup.__weakref__"),oE]),#[]⟩)::
 (nat_lit 366,iN "read" "read" 651 148 2 361 658 659)::
 (nat_lit 367,g0 "read" "read" (qy 17) "signright.reader" 519 366)::
 (nat_lit 373,iN "_law_cell_at" "_law_cell_at" 663 154 2 368 668 669)::
 (nat_lit 374,g0 "_law_cell_at" "_law_cell_at" (qy 19) "law_signright_k22_rules_read" 661 373)::
 (nat_lit 380,iN "_law_base" "_law_base" 671 158 2 375 679 680)::
 (nat_lit 381,g0 "_law_base" "_law_base" (qy 20) "law_signright_k22_rules_read" 661 380)::
 (nat_lit 387,iN "_law_name" "_law_name" 682 165 4 382 691 692)::
 (nat_lit 388,g0 "_law_name" "_law_name" (qy 21) "law_signright_k22_rules_read" 661 387)::
 (nat_lit 394,iN "_law_names" "_law_names" 694 169 3 389 708 709)::
 (nat_lit 395,g0 "_law_names" "_law_names" (qy 22) "law_signright_k22_rules_read" 661 394)::
 (nat_lit 401,iN "_law_roll" "_law_roll" 711 184 1 396 715 716)::
 (nat_lit 402,g0 "_law_roll" "_law_roll" (qy 23) "law_signright_k22_rules_read" 661 401)::
 (nat_lit 408,iN "_law_hand" "_law_hand" 718 186 1 403 722 723)::
 (nat_lit 409,g0 "_law_hand" "_law_hand" (qy 24) "law_signright_k22_rules_read" 661 408)::
 (nat_lit 413,HN "_law_counted" "_law_counted" 725 188 3 410 728 729)::
 (nat_lit 414,g0 "_law_counted" "_law_counted" (qy 25) "law_signright_k22_rules_read" 661 413)::
 (nat_lit 420,iN "_law_folded" "_law_folded" 731 201 2 415 738 739)::
 (nat_lit 421,g0 "_law_folded" "_law_folded" (qy 26) "law_signright_k22_rules_read" 661 420)::
 (nat_lit 425,HN "_law_built" "_law_built" 741 209 4 422 744 745)::
 (nat_lit 426,g0 "_law_built" "_law_built" (qy 27) "law_signright_k22_rules_read" 661 425)::
 (nat_lit 432,iN "_law_same" "_law_same" 747 222 2 427 753 754)::
 (nat_lit 433,g0 "_law_same" "_law_same" (qy 28) "law_signright_k22_rules_read" 661 432)::
 (nat_lit 439,iN "law" "law" 756 239 1 434 768 769)::
 (nat_lit 440,g0 "law" "law" (qy 29) "law_signright_k22_rules_read" 661 439)::[]
noncomputable abbrev B0:List Addr:=[2,3,20,21,30,31,32,47,48,50,51,66,67,73,74,80,81,87,88,90,91,92,93,108,109,115,116,122,123,129,130,136,137,139,140,155,156,162,163,169,170,174,175,179,180,182,183,198,199,205,206,212,213,215,216,231,232,238,239,245,246,248,249,264,265,271,272,278,279,281,282,285,291,292,298,299,312,313,317,318,324,325,331,332,338,339,345,346,352,353,355,356,357,358,366,367,373,374,380,381,387,388,394,395,401,402,408,409,413,414,420,421,425,426,432,433,439,440]
theorem Cc:∀P,B0=(BZ P).map (·.1):=λ_=>by kernel_rfl
noncomputable abbrev KG(s:Shared):Bool:=PySem.W.xlAt Hw [] s&&PySem.W.recOk (PySem.W.RowW.records (PySem.W.OpenRow.toRowW (PySem.Challenge.rw_signright_k22_rules_read).row)) s
noncomputable abbrev wX(w:World):Prop:=∀os,(HX.D6 BY 20000 w os).map (λz=>HX.KC BY w z.abs)=some true
theorem HP:∀w:World,wX (w.withFollow "special-get-raises" false):=by intro w os;kernel_rfl
theorem HQ:∀w:World,wX (w.withFollow "special-get-raises" true):=by intro w os;kernel_rfl
theorem KH:∀w,wX w:=PySem.W.byRow2 "special-get-raises" (P:=wX) HP HQ
noncomputable abbrev Cd(w:World):Prop:=∀os,(HX.D6 BY 20000 w os).map (λz=>PySem.W.Fast.tw4187177175401517315 Hw ["FEWEST_PARTS"] (importedModules BY.main.body) KG true z.abs)=some (PySem.W.openGood Hw ["FEWEST_PARTS"])
theorem KI:∀w:World,Cd (w.withFollow "special-get-raises" false):=by intro w os;kernel_rfl
theorem KJ:∀w:World,Cd (w.withFollow "special-get-raises" true):=by intro w os;kernel_rfl
theorem Nr:∀w,Cd w:=PySem.W.byRow2 "special-get-raises" (P:=Cd) KI KJ
noncomputable abbrev Ce(w:World):Prop:=∀os,(HX.D6 BY 20000 w os).map (λz=>(PySem.W.kHook BZ B0 Cc).obs z.abs)=some ((PySem.W.kHook BZ B0 Cc).val w)
theorem KL:∀w:World,Ce (w.withFollow "special-get-raises" false):=by intro w os;kernel_rfl
theorem KN:∀w:World,Ce (w.withFollow "special-get-raises" true):=by intro w os;kernel_rfl
theorem Nt:∀w,Ce w:=PySem.W.byRow2 "special-get-raises" (P:=Ce) KL KN
theorem Nu:PySem.W.LeftO BY Hw ["FEWEST_PARTS"] KG (PySem.W.kHook BZ B0 Cc).obs (PySem.W.kHook BZ B0 Cc).val 20000:=HX.Nl (by kernel_rfl) (by kernel_rfl) (λs=>by kernel_rfl) KH Nr Nt
end L2.D.My
namespace L2
open PySem PySem.Spec PyProof.Rows
noncomputable abbrev Key:=Sum Int Str
noncomputable def D7:Key->Value->Bool
 |.inl k,v=>Value.isInt k v
 |.inr x,v=>Value.isStrOf x v
noncomputable def KO(w:World):Key->Int
 |.inl k=>hashInt k
 |.inr x=>hashStr w x
theorem cQ:∀{k:Key} {v:Value},D7 k v=true->(∃i t,k=Sum.inl i/\v=Value.int i t)\/(∃x t,k=Sum.inr x/\v=Value.str x t)
 |.inl i,v,h=>by
  obtain⟨t,e⟩:=Value.isInt_shape (k:=i) (v:=v) h
  exact .inl ⟨i,t,rfl,e⟩
 |.inr x,v,h=>by
  obtain⟨t,e⟩:=Value.isStrOf_shape (x:=x) (v:=v) h
  exact .inr ⟨x,t,rfl,e⟩
theorem EZ(a b:Int):decide ((Sum.inl a:Key)=Sum.inl b)=(a==b):=by
 by_cases e:a=b
 ·subst e;simp
 ·have h:¬(Sum.inl a:Key)=Sum.inl b:=λq=>e (Sum.inl.inj q)
  rw[decide_eq_false h]
  exact(beq_eq_false_iff_ne.mpr e).symm
theorem E1(a b:Str):decide ((Sum.inr a:Key)=Sum.inr b)=decide (a=b):=by
 by_cases e:a=b
 ·subst e;simp
 ·have h:¬(Sum.inr a:Key)=Sum.inr b:=λq=>e (Sum.inr.inj q)
  rw[decide_eq_false h,decide_eq_false e]
theorem E2(a:Int)(b:Str):decide ((Sum.inl a:Key)=Sum.inr b)=false:=decide_eq_false (λq=>nomatch q)
theorem E3(a:Str)(b:Int):decide ((Sum.inr a:Key)=Sum.inl b)=false:=decide_eq_false (λq=>nomatch q)
noncomputable def wY(prog:Program)(w:World):PySem.KeyKind prog w Key where
 is:=D7
 hash:=KO w
 inj:=λv a b ha hb=>by
  rcases cQ ha with⟨i,t,rfl,rfl⟩|⟨x,t,rfl,rfl⟩
  ·rcases cQ hb with⟨j,u,rfl,e⟩|⟨y,u,rfl,e⟩
   ·injection e with e1 _;rw[e1]
   ·exact nomatch e
  ·rcases cQ hb with⟨j,u,rfl,e⟩|⟨y,u,rfl,e⟩
   ·exact nomatch e
   ·injection e with e1 _;rw[e1]
 byValue:=λk v h=>by
  rcases cQ h with⟨i,t,rfl,rfl⟩|⟨x,t,rfl,rfl⟩<;>rfl
 pyHash:=λhv h=>by
  rcases cQ hv with⟨i,t,rfl,rfl⟩|⟨x,t,rfl,rfl⟩
  ·exact wpAny_pyHash_int h
  ·exact wpAny_pyHash_str h
 eqBool:=λhu hv h=>by
  rcases cQ hu with⟨i,t,rfl,rfl⟩|⟨x,t,rfl,rfl⟩
  ·rcases cQ hv with⟨j,u,rfl,rfl⟩|⟨y,u,rfl,rfl⟩
   ·rw[EZ]at h;exact wpAny_eqBool_int h
   ·rw[E2]at h;exact SeqAt.EqAt.int_str i t y u _ _ _ _ h
  ·rcases cQ hv with⟨j,u,rfl,rfl⟩|⟨y,u,rfl,rfl⟩
   ·rw[E3]at h;exact SeqAt.EqAt.str_int x t j u _ _ _ _ h
   ·rw[E1]at h;exact wpAny_eqBool_str h
 «strs»:=λk x t v h=>by
  rcases cQ h with⟨i,u,rfl,e⟩|⟨y,u,rfl,e⟩
  ·exact nomatch e
  ·injection e with e1 _
   subst e1
   cases v<;>rfl
inductive V where
 |non|bl(b:Bool)|int(i:Int)|str(x:Str)|byt(b:Array UInt8)|flt(b:UInt64)|ref(a:Addr)|ty(n:String)
 deriving DecidableEq
noncomputable def RelV:V->Value->Prop
 |.non,u=>u=Value.none
 |.bl b,u=>u=Value.bool b
 |.int i,u=>∃t,u=Value.int i t
 |.str x,u=>∃t,u=Value.str x t
 |.byt b,u=>∃t,u=Value.bytes b t
 |.flt b,u=>∃t,u=Value.float b t
 |.ref a,u=>u=Value.ref a
 |.ty n,u=>u=Value.type n
noncomputable abbrev Vals:List V->List Value->Prop:=Paired RelV
theorem Vals.length{xs:List V}{us:List Value}(r:Vals xs us):xs.length=us.length:=Paired.length r
theorem Vals.get:∀{xs:List V} {us:List Value} {i:Nat} {x:V},Vals xs us->xs[i]?=some x->∃u,us[i]?=some u/\RelV x u
 |_,_,_,_,.nil,e=>by simp at e
 |_,_,0,_,.cons r _,e=>by simp at e;subst e;exact⟨_,rfl,r⟩
 |_,_,i+1,x,.cons _ t,e=>by
  obtain⟨u,h1,h2⟩:=Vals.get (i:=i) (x:=x) t (by simpa using e)
  exact⟨u,by simpa using h1,h2⟩
theorem Vals.append:∀{xs ys:List V} {us ws:List Value},Vals xs us->Vals ys ws->Vals (xs++ys) (us++ws)
 |_,_,_,_,.nil,s=>s
 |_,_,_,_,.cons r t,s=>.cons r (Vals.append t s)
theorem Vals.take:∀{xs:List V} {us:List Value} (n:Nat),Vals xs us->Vals (xs.take n) (us.take n)
 |_,_,0,_=>.nil
 |_,_,_+1,.nil=>.nil
 |_,_,n+1,.cons r t=>.cons r (Vals.take n t)
theorem Vals.drop:∀{xs:List V} {us:List Value} (n:Nat),Vals xs us->Vals (xs.drop n) (us.drop n)
 |_,_,0,r=>r
 |_,_,_+1,.nil=>.nil
 |_,_,n+1,.cons _ t=>Vals.drop n t
noncomputable def qz:Option V->Option Value->Prop
 |some v,some u=>RelV v u
 |none,none=>True
 |_,_=>False
noncomputable def KV{κ:Type}:List (κ×V)->List (κ×Value)->Prop:=Paired λ(p:κ×V) (q:κ×Value)=>p.1=q.1/\RelV p.2 q.2
noncomputable def kV:Key->V
 |.inl i=>.int i
 |.inr x=>.str x
inductive HO where
 |lst(xs:List V)
 |tup(xs:List V)
 |dK(b9:List (Key×V))|dT(b9:List (List Key×V))
 |set(S:Int->Bool)(n:Nat)
 |ins(C dx:Addr)(fs:List (Str×V))
 |own(x:Addr)
 |xd(fs:List (Str×V))
 |met(f x:Addr)
 |rng(lo hi:Int)
 |frz(o:Obj)(u:HO)
 |tbl(ps:Array Value)
 |ext(φ:Heap->Prop)
noncomputable abbrev Hp:=Addr->Option HO
noncomputable def upd(H:Hp)(a:Addr)(o:HO):Hp:=λb=>if b=a then some o else H b
theorem aM{H:Hp}{a:Addr}{o:HO}:upd H a o a=some o:=by unfold upd;rw[if_pos rfl]
theorem aF{H:Hp}{a b:Addr}{o:HO}(h:b≠a):upd H a o b=H b:=by unfold upd;rw[if_neg h]
theorem bF{H:Hp}{a b:Addr}{o:HO}(h:H a=some o)(h':H b=none):a≠b:=by
 intro e;subst e;rw[h]at h';cases h'
section
variable(P:Program)(w:World)
noncomputable def HR(h:Heap)(a:Addr):Prop:=∃o,h.get? a=some o/\o.dict=none
noncomputable def eH(H:Hp)(h:Heap)(a:Addr):HO->Prop
 |.lst xs=>xs.length<=sizeLine/\∃(its:List Value) (n:Nat),Vals xs its/\h.get? a=some {cls:=.type "list",data:=.seq its.toArray n}
 |.tup xs=>(xs.length<=sizeLine/\HR h a)/\∃its:List Value,Vals xs its/\IsTup h a its.toArray
 |.dK b9=>b9.length<=sizeLine/\(a==sysModules)=false/\∃vs,KV b9 vs/\h.DictOf (wY P w) a vs
 |.dT b9=>b9.length<=sizeLine/\(a==sysModules)=false/\∃xs:List (List Key×Addr×Value),
   Paired (λ(p:List Key×V) (q:List Key×Addr×Value)=>p.1=q.1/\H q.2.1=some (.tup (p.1.map kV))/\RelV p.2 q.2.2) b9 xs/\
   ∃o es ep,h.get? a=some o/\o.ExactDict/\o.data=.dict es ep/\es.toList=xs.map (entryOfKey (tupleKind (wY P w)))/\(xs.map (·.1)).Nodup
 |.set S n=>h.SetOf (intKind P w) a S n
 |.ins C dx fs=>H dx=some (.own a)/\fs.length<=1000/\dx≠a/\h.get? a=some (PySem.W.instObj C dx)/\
   ∃mA,h.Ns1 dx mA/\(∀f,qz (fs.lookup f) (mA f))/\PySem.Within mA (fs.map (·.1))
 |.own _=>∃o,h.get? a=some o
 |.xd fs=>∃mA,h.Ns1 a mA/\∀f,qz (fs.lookup f) (mA f)
 |.rng lo hi=>∃t u v,h.get? a=some {cls:=.type "range",data:=.fields #[.int lo t,.int hi u,.int 1 v]}
 |.frz o u=>h.get? a=some o/\eH H h a u
 |.tbl ps=>h.get? a=some {cls:=.none,data:=.fields ps}
 |.met f x=>h.get? a=some (PySem.W.methodObj (.ref f) (.ref x))
 |.ext φ=>φ h/\(∃o,h.get? a=some o)/\∀h1 h2:Heap,φ h1->(∀o,h1.get? a=some o->h2.get? a=some o)->φ h2
noncomputable def oM(H:Hp)(h:Heap):Prop:=∀a o,H a=some o->eH P w H h a o
end
section
variable{P:Program}{w:World}{H H':Hp}{h h':Heap}{a:Addr}{o:HO}
theorem eH.lt(x:eH P w H h a o):a<h.objs.size:=by
 cases o with
 |lst xs=>obtain⟨_,_,_,_,e⟩:=x;exact Heap.lt_size e
 |tup xs=>obtain⟨_,_,_,p⟩:=x;exact p.lt
 |dK b9=>obtain⟨_,_,_,_,o,_,_,e,_⟩:=x;exact Heap.lt_size e
 |dT b9=>obtain⟨_,_,_,_,o,_,_,e,_⟩:=x;exact Heap.lt_size e
 |set S n=>obtain⟨o,_,_,_,e,_⟩:=x;exact Heap.lt_size e
 |ins C dx fs=>obtain⟨_,_,_,e,_⟩:=x;exact Heap.lt_size e
 |own y=>obtain⟨_,e⟩:=x;exact Heap.lt_size e
 |xd fs=>obtain⟨_,⟨_,_,_,e,_⟩,_⟩:=x;exact Heap.lt_size e
 |rng lo hi=>obtain⟨_,_,_,e⟩:=x;exact Heap.lt_size e
 |frz ob u=>obtain⟨e,_⟩:=x;exact Heap.lt_size e
 |tbl ps=>exact Heap.lt_size (show h.get? a=some _ from x)
 |met f y=>exact Heap.lt_size (show h.get? a=some _ from x)
 |ext φ=>obtain⟨_,⟨_,e⟩,_⟩:=x;exact Heap.lt_size e
theorem Paired.HS{α β:Type}{F G:α->β->Prop}:∀{l₁:List α} {l₂:List β},Paired F l₁ l₂->(∀a b,F a b->G a b)->Paired G l₁ l₂
 |_,_,.nil,_=>.nil
 |_,_,.cons r t,f=>.cons (f _ _ r) (Paired.HS t f)
theorem eH.tT(x:eH P w H h a o)(k:∀b u,(b=a\/H b=some (.own a))->h.get? b=some u->h'.get? b=some u)
  (ho:∀b,H b=some (.own a)->H' b=some (.own a))(ht:∀b xs,H b=some (.tup xs)->H' b=some (.tup xs)):eH P w H' h' a o:=by
 induction o with
 |lst xs=>obtain⟨z,its,n,r,e⟩:=x;exact⟨z,its,n,r,k _ _ (.inl rfl) e⟩
 |tup xs=>obtain⟨⟨z,od,ed,hd⟩,its,r,ob,e,c⟩:=x;exact⟨⟨z,od,k _ _ (.inl rfl) ed,hd⟩,its,r,ob,k _ _ (.inl rfl) e,c⟩
 |dK b9=>obtain⟨z,y,vs,r,ob,es,ep,e,c⟩:=x;exact⟨z,y,vs,r,ob,es,ep,k _ _ (.inl rfl) e,c⟩
 |dT b9=>
  obtain⟨z,y,xs,r,ob,es,ep,e,c⟩:=x
  exact⟨z,y,xs,Paired.HS r λp q z=>⟨z.1,ht _ _ z.2.1,z.2.2⟩,ob,es,ep,k _ _ (.inl rfl) e,c⟩
 |set S n=>obtain⟨ob,es,ep,t,e,c⟩:=x;exact⟨ob,es,ep,t,k _ _ (.inl rfl) e,c⟩
 |ins C dx fs=>
  obtain⟨d,z,ne,e,mA,⟨od,es,ep,e2,c⟩,r⟩:=x
  exact⟨ho _ d,z,ne,k _ _ (.inl rfl) e,mA,⟨od,es,ep,k _ _ (.inr d) e2,c⟩,r⟩
 |own y=>obtain⟨ob,e⟩:=x;exact⟨ob,k _ _ (.inl rfl) e⟩
 |xd fs=>obtain⟨mA,⟨od,es,ep,e,c⟩,r⟩:=x;exact⟨mA,⟨od,es,ep,k _ _ (.inl rfl) e,c⟩,r⟩
 |rng lo hi=>obtain⟨t,u,v,e⟩:=x;exact⟨t,u,v,k _ _ (.inl rfl) e⟩
 |frz ob u ih=>obtain⟨e,q⟩:=x;exact⟨k _ _ (.inl rfl) e,ih q⟩
 |tbl ps=>
  have e:h.get? a=some {cls:=.none,data:=.fields ps}:=x
  show h'.get? a=some {cls:=.none,data:=.fields ps}
  exact k a _ (.inl rfl) e
 |met f y=>
  have e:h.get? a=some (PySem.W.methodObj (.ref f) (.ref y)):=x
  show h'.get? a=some (PySem.W.methodObj (.ref f) (.ref y))
  exact k a _ (.inl rfl) e
 |ext φ=>obtain⟨p,⟨o,e⟩,st⟩:=x;exact⟨st _ _ p λo q=>k _ _ (.inl rfl) q,⟨o,k _ _ (.inl rfl) e⟩,st⟩
theorem oM.lt(x:oM P w H h)(e:H a=some o):a<h.objs.size:=(x a o e).lt
theorem oM.fresh(x:oM P w H h)(e:h.objs.size<=a):H a=none:=by
 cases q:H a with
 |none=>rfl
 |some u=>exact absurd (Nat.lt_of_lt_of_le (x.lt q) e) (Nat.lt_irrefl _)
theorem oM.kept(x:oM P w H h)(k:∀b u,h.get? b=some u->h'.get? b=some u):oM P w H h':=λa o e=>
 (x a o e).tT (λb u _ q=>k b u q) (λ_ q=>q) λ_ _ q=>q
theorem oM.laid(x:oM P w H h)(k:∀b u,h.get? b=some u->h'.get? b=some u)(hp:h.objs.size<=a)(new:eH P w (upd H a o) h' a o):oM P w (upd H a o) h':=λb u e=>by
 have hn:=x.fresh hp
 by_cases hb:b=a
 ·subst hb;rw[aM]at e;cases e;exact new
 ·rw[aF hb]at e
  exact(x b u e).tT (λc v _ q=>k c v q) (λc q=>by rw[aF (bF q hn)];exact q) λc xs q=>by rw[aF (bF q hn)];exact q
end
noncomputable def Rd(H:Hp)(a:Addr)(u:HO):Prop:=H a=some u\/∃o,H a=some (.frz o u)
theorem Rd.ok{P:Program}{w:World}{H:Hp}{h:Heap}{a:Addr}{u:HO}(r:Rd H a u)(x:oM P w H h):eH P w H h a u:=by
 rcases r with r|⟨o,r⟩
 ·exact x a u r
 ·obtain⟨_,q⟩:=x a _ r
  exact q
noncomputable def J7:Option HO->Prop
 |some (.lst _)=>True
 |some (.dK _)=>True
 |some (.dT _)=>True
 |some (.set _ _)=>True
 |some (.ins _ _ _)=>True
 |some (.ext _)=>True
 |_=>False
section
variable{P:Program}{w:World}{H:Hp}{h h':Heap}{x e:Addr}{o':HO}
theorem oM.write(ok:oM P w H h)(mu:J7 (H x))(he:e=x\/H e=some (.own x))(k:∀b u,b≠e->h.get? b=some u->h'.get? b=some u)(Hx:∃u,h'.get? e=some u)
  (new:eH P w (upd H x o') h' x o'):oM P w (upd H x o') h':=λb u q=>by
 have qA:∀c y,H c=some (.own y)->c≠x:=λc y r z=>by subst z;rw[r]at mu;exact mu
 have KP:∀c xs,H c=some (.tup xs)->c≠x:=λc xs r z=>by subst z;rw[r]at mu;exact mu
 by_cases hb:b=x
 ·subst hb;rw[aM]at q;cases q;exact new
 ·rw[aF hb]at q
  by_cases E4:b=e
  ·have q':H b=some (.own x):=by
     rcases he with z|z
     ·exact absurd (E4.trans z) hb
     ·rw[E4];exact z
   rw[q]at q';cases q'
   obtain⟨v,hv⟩:=Hx
   exact⟨v,by rw[E4];exact hv⟩
  ·refine(ok b u q).tT (λc v hc r=>k c v ?_ r) (λc r=>by rw[aF (qA c b r)];exact r) λc xs r=>by rw[aF (KP c xs r)];exact r
   rcases hc with rfl|hc
   ·exact E4
   ·rintro rfl
    rcases he with z|z
    ·exact qA c b hc z
    ·rw[hc]at z;cases z;exact hb rfl
end
structure Un(fs ex:List Addr)(H H':Hp)(h h':Heap):Prop where
 keep:∀b o,h.get? b=some o->H b=none->b∉fs->b∉ex->h'.get? b=some o
 slot:∀b o,h.get? b=some o->H b=none->b∈fs->b∉ex->∃sl,h'.get? b=some {o with slots:=sl}
 free:∀b o,h.get? b=some o->H b=none->b∉ex->H' b=none
 there:∀b o,h.get? b=some o->b∉ex->∃o',h'.get? b=some o'
 qB:∀b xs,H b=some (.tup xs)->H' b=some (.tup xs)
 pd:∀b o u,H b=some (.frz o u)->H' b=some (.frz o u)
 rM:∀b ps,H b=some (.tbl ps)->∃more,H' b=some (.tbl (ps++more))
section
variable{fs B1 ex O9:List Addr}{H H1 H2:Hp}{h h1 h2 h':Heap}{a x e:Addr}{o:HO}
theorem Un.any(u:Un fs ex H H1 h h1){b:Addr}{ob:Obj}(q:h.get? b=some ob)(n:H b=none)(hx:b∉ex):∃sl,h1.get? b=some {ob with slots:=sl}:=by
 by_cases hb:b∈fs
 ·exact u.slot b ob q n hb hx
 ·exact⟨ob.slots,u.keep b ob q n hb hx⟩
theorem Un.kept(k:∀b u,h.get? b=some u->h'.get? b=some u):Un fs ex H H h h':=
 ⟨λb ob q _ _ _=>k b ob q,λb ob q _ _ _=>⟨ob.slots,k b ob q⟩,λ_ _ _ n _=>n,λb ob q _=>⟨ob,k b ob q⟩,λ_ _ q=>q,λ_ _ _ q=>q,λ_ ps q=>⟨#[],by rw[q];simp⟩⟩
theorem Un.refl:Un fs ex H H h h:=Un.kept λ_ _ q=>q
theorem Un.laid(k:∀b u,h.get? b=some u->h'.get? b=some u)(hp:h.objs.size<=a)(hn:H a=none):Un fs ex H (upd H a o) h h' where
 keep:=λb u q _ _ _=>k b u q
 slot:=λb u q _ _ _=>⟨u.slots,k b u q⟩
 free:=λb u q n _=>by rw[aF (Nat.ne_of_lt (Nat.lt_of_lt_of_le (Heap.lt_size q) hp))];exact n
 there:=λb u q _=>⟨u,k b u q⟩
 qB:=λb xs q=>by rw[aF (bF q hn)];exact q
 pd:=λb u xs q=>by rw[aF (bF q hn)];exact q
 rM:=λb ps q=>⟨#[],by rw[aF (bF q hn),q];simp⟩
theorem Un.write(mu:J7 (H x))(he:e=x\/H e=some (.own x))(k:∀b u,b≠e->h.get? b=some u->h'.get? b=some u)(Hx:∃u,h'.get? e=some u):Un fs ex H (upd H x o) h h':=by
 have hx:∀b,H b=none->b≠x:=λb n z=>by subst z;rw[n]at mu;exact mu
 have hb:∀b,H b=none->b≠e:=λb n z=>by
  subst z
  rcases he with r|r
  ·exact hx b n r
  ·rw[n]at r;cases r
 have hm:∀b u,H b=some u->¬J7 (some u)->b≠x:=λb u q nm z=>by subst z;rw[q]at mu;exact nm mu
 refine⟨λb u q n _ _=>k b u (hb b n) q,λb u q n _ _=>⟨u.slots,k b u (hb b n) q⟩,λb u q n _=>by rw[aF (hx b n)];exact n,λb u q _=>?_,
  λb xs q=>by rw[aF (hm b _ q λz=>z)];exact q,λb u xs q=>by rw[aF (hm b _ q λz=>z)];exact q,λb ps q=>⟨#[],by rw[aF (hm b _ q λz=>z),q];simp⟩⟩
 by_cases E4:b=e
 ·subst E4;exact Hx
 ·exact⟨u,k b u E4 q⟩
end
noncomputable def J8(h:Heap)(H:Hp):List Addr:=(List.range h.objs.size).filter λa=>(H a).isSome
noncomputable def rN(h:Heap)(H:Hp):Heap:=PySem.W.hideAll h (J8 h H)
theorem yg(h:Heap)(H:Hp):(rN h H).objs.size=h.objs.size:=PySem.W.hideAll_size _ _
theorem zi{h:Heap}{H:Hp}{b:Addr}{o:Obj}(e:h.get? b=some o)(n:H b=none):(rN h H).get? b=some o:=
 PySem.W.hideAll_get _ e λhm=>by
  have q:(H b).isSome=true:=(List.mem_filter.mp hm).2
  rw[n]at q;simp at q
theorem Cf{h:Heap}{H:Hp}{b:Addr}{o:Obj}(e:(rN h H).get? b=some o):h.get? b=some o/\H b=none:=by
 have e':h.get? b=some o:=PySem.W.of_hideAll (J8 h H) e
 refine⟨e',?_⟩
 cases q:H b with
 |none=>rfl
 |some x=>
  have hm:b∈J8 h H:=List.mem_filter.mpr ⟨List.mem_range.mpr (Heap.lt_size e'),by simp[q]⟩
  have z:(rN h H).get? b=none:=PySem.W.hideAll_none (J8 h H) hm
  rw[z]at e;cases e
structure Mod(K:PySem.W.Frag)(mg:Str->Option Value)(base:Heap):Prop where
 kin:K.In base
 glob:base.Ns mainGlobals mg
 blt:∃mb,base.Ns builtinsNs mb/\∀x:Str,x≠ "__name__" ->mb x=bootBuiltins x
 nolimit:base.NoLimit
structure Cx where
 prog:Program
 w:World
 K:PySem.W.Frag
 mg:Str->Option Value
 base:Heap
 A:Around
 N:List Str
 s₀:Shared
 H₀:Hp
 env:Env
 outer:List Env
 stack:List Env
 ex:List Addr
 fn:Str->Bool
 calm:Bool
 pn:List (Addr×Obj)
 xe:Value->Shared->Prop
noncomputable def yh(l:List Env):List Addr:=l.filterMap (·.frame)
noncomputable abbrev Cx.fs(X:Cx):List Addr:=yh X.outer
noncomputable def tU(sc:Scope)(x:Str):Prop:=sc.names.lookup x=some .local\/sc.names.lookup x=some .cell\/sc.names.lookup x=some .free
noncomputable def Loc(sc:Scope)(x:Str):Prop:=sc.names.lookup x=some .local\/sc.names.lookup x=some .cell
noncomputable def Look(env:Env)(h:Heap)(m:Str->Option Value)(x:Str)(u:Value):Prop:=
 (env.kindOf x=some .local/\m x=some u)\/((env.kindOf x=some .cell\/env.kindOf x=some .free)/\∃c,env.cells.lookup x=some c/\h.IsCell c (some u))
structure Cx.Ok(X:Cx):Prop where
 mod:Mod X.K X.mg X.base
 kind:X.env.scope.kind=.function
 glob:X.env.globals=mainGlobals
 blt:X.env.builtins=builtinsNs
 above:X.s₀.heap.objs.size<=X.env.locals
 inj:∀x y c,X.env.cells.lookup x=some c->X.env.cells.lookup y=some c->x=y
 has:∀x,(X.env.kindOf x=some .cell\/X.env.kindOf x=some .free)->∃c,X.env.cells.lookup x=some c
 cab:∀x c,X.fn x=true->X.env.cells.lookup x=some c->X.s₀.heap.objs.size<=c
 hd:X.calm=true->X.A.handled=none
 frames:X.A.frames=some X.stack
 stk:X.stack=X.outer\/(X.stack=X.env::X.outer/\X.env.frame=some X.env.locals)
 exf:∀b∈X.ex,b≠X.env.locals/\∀x c,X.env.cells.lookup x=some c->c≠b
 bs:∀b o,X.base.get? b=some o->X.s₀.heap.get? b=some o/\X.H₀ b=none
 bsz:X.base.objs.size<=X.s₀.heap.objs.size
 noex:∀b o,X.base.get? b=some o->b∉X.ex
 exfs:∀b∈X.ex,b∉X.fs
 funs:X.s₀.heap.FunFrames X.base X.outer
 frf:∀b∈X.fs,X.H₀ b=none
structure Inv(X:Cx)(pins:List (Addr×Obj))(σ:List (Option V))(H:Hp)(s:Shared):Prop where
 ok:X.Ok
 os:s.os=X.s₀.os
 bare:AllBare s.gens
 base:Un X.fs X.ex X.H₀ H X.s₀.heap s.heap
 loc:∃m,s.heap.Ns X.env.locals m/\∀(i:Nat) (x:Str) (v:V),X.N[i]?=some x->σ[i]?=some (some v)->tU X.env.scope x->∃u,RelV v u/\Look X.env s.heap m x u
 cell:∀x c,X.env.cells.lookup x=some c->∃v,s.heap.IsCell c v
 free:H X.env.locals=none
 freeC:∀x c,X.env.cells.lookup x=some c->H c=none
 pin:∀p∈X.pn++pins,s.heap.get? p.1=some p.2/\H p.1=none/\p.1≠X.env.locals/\p.1∉X.fs/\∀v,p.2.data≠.cell v
 eF:oM X.prog X.w H s.heap
 len:σ.length=X.N.length
section
variable{X:Cx}{pins:List (Addr×Obj)}{σ:List (Option V)}{H H':Hp}{s:Shared}{h':Heap}
theorem Cx.Ok.KQ(ok:X.Ok){b:Addr}{o:Obj}(e:X.base.get? b=some o):b∉X.fs:=λhb=>by
 have:=(ok.funs.mem hb).1
 rw[e]at this;cases this
theorem Inv.bs(I:Inv X pins σ H s):∀b o,X.base.get? b=some o->s.heap.get? b=some o/\H b=none:=λb o e=>
 ⟨I.base.keep b o (I.ok.bs b o e).1 (I.ok.bs b o e).2 (I.ok.KQ e) (I.ok.noex b o e),I.base.free b o (I.ok.bs b o e).1 (I.ok.bs b o e).2 (I.ok.noex b o e)⟩
theorem Inv.bk(I:Inv X pins σ H s):∀b o,X.base.get? b=some o->s.heap.get? b=some o:=λb o e=>(I.bs b o e).1
theorem Inv.mod(I:Inv X pins σ H s):Mod X.K X.mg X.base:=I.ok.mod
theorem Inv.iU(I:Inv X pins σ H s):X.K.In s.heap:=I.ok.mod.kin.keeps I.bk
theorem Inv.lt(I:Inv X pins σ H s):X.env.locals<s.heap.objs.size:=let⟨_,hn,_⟩:=I.loc;hn.lt
theorem Inv.sz(I:Inv X pins σ H s):X.s₀.heap.objs.size<=s.heap.objs.size:=Nat.le_trans I.ok.above (Nat.le_of_lt I.lt)
theorem Inv.E5(I:Inv X pins σ H s){a:Addr}(h:s.heap.objs.size<=a):a∉X.fs:=λhb=>by
 obtain⟨_,o,ho,_⟩:=I.ok.funs.mem hb
 exact absurd (Nat.lt_of_lt_of_le (Heap.lt_size ho) (Nat.le_trans I.sz h)) (Nat.lt_irrefl _)
theorem Inv.E6(I:Inv X pins σ H s):∀x c,X.env.cells.lookup x=some c->c≠X.env.locals:=λx c e z=>by
 obtain⟨v,o,ho,hd⟩:=I.cell x c e
 obtain⟨m,⟨o',es,ep,E7,HU,_⟩,_⟩:=I.loc
 rw[z,E7]at ho;cases ho;rw[HU]at hd;cases hd
theorem Inv.funs(I:Inv X pins σ H s):s.heap.FunFrames X.base X.outer:=by
 have all:∀(l:List Env),(∀b∈yh l,b∈X.fs)->X.s₀.heap.FunFrames X.base l->s.heap.FunFrames X.base l:=by
  intro l
  induction l with
  |nil=>intro _ _;trivial
  |cons env r ih=>
   intro hs hl
   obtain⟨hk,⟨L,o,hf,hn,ho,hd⟩,hr⟩:=hl
   have hL:L∈X.fs:=hs L (by unfold yh;rw[List.filterMap_cons,hf];exact List.mem_cons_self)
   obtain⟨sl,e⟩:=I.base.slot L o ho (I.ok.frf L hL) hL λz=>I.ok.exfs L z hL
   exact⟨hk,⟨L,_,hf,hn,e,hd⟩,ih (λb hb=>hs b (by unfold yh;rw[List.filterMap_cons,hf];exact List.mem_cons_of_mem _ hb)) hr⟩
 exact all X.outer (λ_ hb=>hb) I.ok.funs
theorem Inv.stack(I:Inv X pins σ H s):s.heap.FunFrames X.base X.stack:=by
 rcases I.ok.stk with e|⟨e,hf⟩
 ·rw[e];exact I.funs
 ·rw[e]
  obtain⟨m,hn,_⟩:=I.loc
  refine .cons (by rw[I.ok.kind];decide) hf hn ?_ I.funs
  exact Heap.get?_none_of_le (Nat.le_trans I.ok.bsz I.ok.above)
theorem Inv.vE(I:Inv X pins σ H s):∀b∈yh X.stack,b∈X.env.locals::X.fs:=λb hb=>by
 rcases I.ok.stk with e|⟨e,hf⟩
 ·rw[e]at hb;exact List.mem_cons_of_mem _ hb
 ·rw[e]at hb
  unfold yh at hb
  rw[List.filterMap_cons,hf]at hb
  exact hb
theorem Inv.wZ(I:Inv X pins σ H s):∀b∈yh X.stack,H b=none:=λb hb=>by
 rcases List.mem_cons.mp (I.vE b hb)with e|hb
 ·rw[e];exact I.free
 ·obtain⟨_,o,ho,_⟩:=I.ok.funs.mem hb
  exact I.base.free b o ho (I.ok.frf b hb) λz=>I.ok.exfs b z hb
theorem Inv.step{g':Array GenState}{t':Nat}{d':Drawn}{ch:List Addr}(I:Inv X pins σ H s)
  (B2:∀b∈ch,(b∈X.ex\/X.s₀.heap.objs.size<=b)/\b≠X.env.locals/\(∀x c,X.env.cells.lookup x=some c->c≠b)/\∀p∈X.pn++pins,p.1≠b)
  (keep:∀b o,b≠X.env.locals->b∉X.fs->b∉ch->s.heap.get? b=some o->H b=none->h'.get? b=some o)
  (slot:∀b o,b≠X.env.locals->b∈X.fs->b∉ch->s.heap.get? b=some o->H b=none->∃sl,h'.get? b=some {o with slots:=sl})(free:∀b o,b∉ch->s.heap.get? b=some o->H b=none->H' b=none)
  (there:∀b o,b∉ch->s.heap.get? b=some o->∃o',h'.get? b=some o')
  (qB:∀b xs,H b=some (.tup xs)->H' b=some (.tup xs))(pd:∀b o u,H b=some (.frz o u)->H' b=some (.frz o u))(rM:∀b ps,H b=some (.tbl ps)->∃more,H' b=some (.tbl (ps++more)))
  (ns:∀m,s.heap.Ns X.env.locals m->h'.Ns X.env.locals m)(eF:oM X.prog X.w H' h')(hg:AllBare g'):
  Inv X pins σ H' {s with heap:=h',gens:=g',drawn:=d',toks:=t'}:=by
 have ME:∀b o,X.s₀.heap.get? b=some o->b≠X.env.locals:=λb o e=>Nat.ne_of_lt (Nat.lt_of_lt_of_le (Heap.lt_size e) I.ok.above)
 have J9:∀b o,X.s₀.heap.get? b=some o->b∉X.ex->b∉ch:=λb o e hx hb=>by
  rcases(B2 b hb).1 with z|z
  ·exact hx z
  ·exact absurd (Nat.lt_of_lt_of_le (Heap.lt_size e) z) (Nat.lt_irrefl _)
 have cellK:∀x c,X.env.cells.lookup x=some c->∀v,s.heap.IsCell c v->h'.IsCell c v:=λx c e v ⟨o,ho,hd⟩=>by
  have HV:c∉ch:=λz=>(B2 c z).2.2.1 x c e rfl
  by_cases hc:c∈X.fs
  ·obtain⟨sl,q⟩:=slot c o (I.E6 x c e) hc HV ho (I.freeC x c e)
   exact⟨_,q,hd⟩
  ·exact⟨o,keep c o (I.E6 x c e) hc HV ho (I.freeC x c e),hd⟩
 refine⟨I.ok,I.os,hg,⟨λb o e n hb hx=>?_,λb o e n hb hx=>?_,λb o e n hx=>?_,λb o e hx=>?_,λb xs e=>qB b xs (I.base.qB b xs e),λb o xs e=>pd b o xs (I.base.pd b o xs e),λb ps e=>?_⟩,?_,λx c e=>?_,?_,λx c e=>?_,λp hp=>?_,eF,I.len⟩
 ·exact keep b o (ME b o e) hb (J9 b o e hx) (I.base.keep b o e n hb hx) (I.base.free b o e n hx)
 ·obtain⟨sl,e1⟩:=I.base.slot b o e n hb hx
  obtain⟨Nv,e2⟩:=slot b _ (ME b o e) hb (J9 b o e hx) e1 (I.base.free b o e n hx)
  exact⟨Nv,e2⟩
 ·obtain⟨o',e1⟩:=I.base.there b o e hx
  exact free b o' (J9 b o e hx) e1 (I.base.free b o e n hx)
 ·obtain⟨o',e1⟩:=I.base.there b o e hx
  exact there b o' (J9 b o e hx) e1
 ·obtain⟨m1,e1⟩:=I.base.rM b ps e
  obtain⟨m2,e2⟩:=rM b _ e1
  exact⟨m1++m2,by rw[e2,Array.append_assoc]⟩
 ·obtain⟨m,hn,hl⟩:=I.loc
  refine⟨m,ns m hn,λi x v e1 e2 e3=>?_⟩
  obtain⟨u,r,l⟩:=hl i x v e1 e2 e3
  refine⟨u,r,?_⟩
  rcases l with l|⟨k,c,e,z⟩
  ·exact .inl l
  ·exact .inr ⟨k,c,e,cellK x c e _ z⟩
 ·obtain⟨v,z⟩:=I.cell x c e
  exact⟨v,cellK x c e v z⟩
 ·obtain⟨m,⟨o,_,_,ho,_⟩,_⟩:=I.loc
  exact free _ o (λz=>(B2 _ z).2.1 rfl) ho I.free
 ·obtain⟨v,o,ho,hd⟩:=I.cell x c e
  exact free c o (λz=>(B2 c z).2.2.1 x c e rfl) ho (I.freeC x c e)
 ·obtain⟨e,n,ne,nf,d⟩:=I.pin p hp
  have HV:p.1∉ch:=λz=>(B2 p.1 z).2.2.2 p hp rfl
  exact⟨keep p.1 p.2 ne nf HV e n,free p.1 p.2 HV e n,ne,nf,d⟩
theorem Inv.un{t':Nat}(I:Inv X pins σ H s)(u:Un X.fs [] H H' s.heap h')(eF:oM X.prog X.w H' h'):Inv X pins σ H' {s with heap:=h',toks:=t'}:=by
 obtain⟨m,⟨o,es,ep,ho,r⟩,_⟩:=id I.loc
 obtain⟨sl,hL⟩:=u.any ho I.free (by simp)
 exact I.step (g':=s.gens) (d':=s.drawn) (ch:=[]) (λ_ z=>nomatch z) (λb o _ hb _ e n=>u.keep b o e n hb (by simp)) (λb o _ hb _ e n=>u.slot b o e n hb (by simp)) (λb o _ e n=>u.free b o e n (by simp)) (λb o _ e=>u.there b o e (by simp)) u.qB u.pd u.rM (λm' hm=>by
  obtain⟨o',KR,KS,E7,r'⟩:=hm
  rw[ho]at E7;cases E7
  exact⟨_,KR,KS,hL,r'⟩) eF I.bare
theorem Inv.call{g':Array GenState}{t':Nat}{d':Drawn}{ch:List Addr}(I:Inv X pins σ H s)(u:Un (yh X.stack) ch H H' s.heap h')(eF:oM X.prog X.w H' h')(hg:AllBare g')
  (B2:∀b∈ch,(b∈X.ex\/X.s₀.heap.objs.size<=b)/\b≠X.env.locals/\(∀x c,X.env.cells.lookup x=some c->c≠b)/\∀p∈X.pn++pins,p.1≠b):
  Inv X pins σ H' {s with heap:=h',gens:=g',drawn:=d',toks:=t'}:=by
 obtain⟨m,⟨o,es,ep,ho,r⟩,_⟩:=id I.loc
 obtain⟨sl,hL⟩:=u.any ho I.free λz=>(B2 _ z).2.1 rfl
 exact I.step (ch:=ch) B2 (λb o hL hb hc e n=>u.keep b o e n (λz=>(List.mem_cons.mp (I.vE b z)).elim hL hb) hc) (λb o _ _ hc e n=>u.any e n hc) (λb o hc e n=>u.free b o e n hc) (λb o hc e=>u.there b o e hc) u.qB u.pd u.rM (λm' hm=>by
  obtain⟨o',KR,KS,E7,r'⟩:=hm
  rw[ho]at E7;cases E7
  exact⟨_,KR,KS,hL,r'⟩) eF hg
theorem Inv.turned{t':Nat}{it:Addr}(I:Inv X pins σ H s)(k:∀b o,b≠it->s.heap.get? b=some o->h'.get? b=some o)(hn:H it=none)(hL:it≠X.env.locals)
  (h1:it∈X.ex\/X.s₀.heap.objs.size<=it)(h2:∀x c,X.env.cells.lookup x=some c->c≠it)(h3:∀p∈X.pn++pins,p.1≠it):Inv X pins σ H {s with heap:=h',toks:=t'}:=by
 have D8:∀b u,H b=some u->b≠it:=λb u e z=>by rw[z,hn]at e;cases e
 refine I.step (g':=s.gens) (d':=s.drawn) (ch:=[it]) (λb hb=>?_) (λb o _ _ hc e _=>k b o (λz=>hc (by simp[z])) e) (λb o _ _ hc e _=>⟨o.slots,k b o (λz=>hc (by simp[z])) e⟩) (λ_ _ _ _ n=>n)
  (λb o hc e=>⟨o,k b o (λz=>hc (by simp[z])) e⟩) (λ_ _ e=>e) (λ_ _ _ e=>e) (λb ps e=>⟨#[],by rw[e];simp⟩) (λm hm=>?_) (λb u e=>?_) I.bare
 ·have e:b=it:=by simpa using hb
  subst e
  exact⟨h1,hL,h2,h3⟩
 ·obtain⟨o,es,ep,ho,r⟩:=hm
  exact⟨o,es,ep,k _ o (Ne.symm hL) ho,r⟩
 ·refine(I.eF b u e).tT (λc v hc q=>k c v ?_ q) (λ_ q=>q) λ_ _ q=>q
  rcases hc with z|z
  ·rw[z];exact D8 b u e
  ·exact D8 c _ z
theorem Inv.tok(I:Inv X pins σ H s)(t:Nat):Inv X pins σ H {s with toks:=t}:=I.un (h':=s.heap) (t':=t) Un.refl I.eF
theorem Inv.kept{t':Nat}(I:Inv X pins σ H s)(k:∀b u,s.heap.get? b=some u->h'.get? b=some u):Inv X pins σ H {s with heap:=h',toks:=t'}:=I.un (Un.kept k) (I.eF.kept k)
theorem Inv.laid{a:Addr}{o:HO}{t':Nat}(I:Inv X pins σ H s)(k:∀b u,s.heap.get? b=some u->h'.get? b=some u)(hp:s.heap.objs.size<=a)(new:eH X.prog X.w (upd H a o) h' a o):
 Inv X pins σ (upd H a o) {s with heap:=h',toks:=t'}:=I.un (Un.laid k hp (I.eF.fresh hp)) (I.eF.laid k hp new)
theorem Inv.write{x e:Addr}{o:HO}{t':Nat}(I:Inv X pins σ H s)(mu:J7 (H x))(he:e=x\/H e=some (.own x))(k:∀b u,b≠e->s.heap.get? b=some u->h'.get? b=some u)(Hx:∃u,h'.get? e=some u)
 (new:eH X.prog X.w (upd H x o) h' x o):Inv X pins σ (upd H x o) {s with heap:=h',toks:=t'}:=I.un (Un.write mu he k Hx) (I.eF.write mu he k Hx new)
theorem Inv.weak{σ':List (Option V)}(I:Inv X pins σ H s)(hl:σ'.length=σ.length)(w:∀(i:Nat) v,σ'[i]?=some (some v)->σ[i]?=some (some v)):Inv X pins σ' H s:=
 ⟨I.ok,I.os,I.bare,I.base,let⟨m,hn,KU⟩:=I.loc;⟨m,hn,λi x v e1 e2 e3=>KU i x v e1 (w i v e2) e3⟩,I.cell,I.free,I.freeC,I.pin,I.eF,hl.trans I.len⟩
theorem Inv.oN{l9:List (Addr×Obj)}(I:Inv X pins σ H s)(h:∀p∈l9,s.heap.get? p.1=some p.2/\H p.1=none/\p.1≠X.env.locals/\p.1∉X.fs/\∀v,p.2.data≠.cell v):Inv X l9 σ H s:=
 ⟨I.ok,I.os,I.bare,I.base,I.loc,I.cell,I.free,I.freeC,λp hp=>(List.mem_append.mp hp).elim (λz=>I.pin p (List.mem_append_left _ z)) (h p),I.eF,I.len⟩
theorem tW{N:List Str}(hN:N.Nodup){i j:Nat}{x:Str}(a:N[i]?=some x)(b:N[j]?=some x):i=j:=by
 obtain⟨h1,e1⟩:=List.getElem?_eq_some_iff.mp a
 obtain⟨h2,e2⟩:=List.getElem?_eq_some_iff.mp b
 exact(List.getElem_inj hN).mp (e1.trans e2.symm)
theorem qR{M:Model}{A:Around}{E:Value->Shared->Prop}{i:Nat}{x:Str}{v:V}{u:Value}{Q:Unit->Shared->Prop}(I:Inv X pins σ H s)(hN:X.N.Nodup)(hi:X.N[i]?=some x)(hx:Loc X.env.scope x)(r:RelV v u)
  (h:∀s',Inv X pins (σ.set i (some v)) H s'->(∃a,Heap.SameBut a s.heap s'.heap/\(a=X.env.locals\/X.env.cells.lookup x=some a))->Q () s')(hf:X.fn x=true\/X.env.scope.names.lookup x=some .local:=by first|exact .inl rfl|exact .inr rfl|assumption):wpAny M A (storeName X.env x u) Q E s:=by
 obtain⟨m,hn,hl⟩:=id I.loc
 have KW:(X.env.scope.kind==.class||(X.env.scope.kind==.module&&X.env.locals !=X.env.globals))=false:=by rw[I.ok.kind];rfl
 have MF:i<σ.length:=by rw[I.len];exact(List.getElem?_eq_some_iff.mp hi).1
 have E6:=I.E6
 have tracked:∀{a:Addr} {h':Heap},(∃o,s.heap.get? a=some o/\H a=none)->Heap.SameBut a s.heap h'->oM X.prog X.w H h':=λ{a h'} ha hs b ob e=>by
  obtain⟨_,_,md⟩:=ha
  refine(I.eF b ob e).tT (λc w' hc q=>(hs.2 c ?_).trans q) (λ_ q=>q) λ_ _ q=>q
  rintro rfl
  rcases hc with rfl|hc
  ·rw[md]at e;cases e
  ·rw[md]at hc;cases hc
 rcases hx with hk|hk
 ·refine wpAny_storeName_local hk hn (λh' Nw hs=>?_) KW
  obtain⟨oL,_,_,Nx,_⟩:=id hn
  refine h _ ⟨I.ok,I.os,I.bare,⟨λb o e n hb hx=>?_,λb o e n hb hx=>?_,I.base.free,λb o e hx=>?_,I.base.qB,I.base.pd,I.base.rM⟩,⟨_,Nw,λj y v' e1 e2 e3=>?_⟩,λy c e=>?_,I.free,I.freeC,λp hp=>?_,tracked ⟨oL,Nx,I.free⟩ hs,by simpa using I.len⟩ ⟨_,hs,.inl rfl⟩
  ·exact(hs.2 b (Nat.ne_of_lt (Nat.lt_of_lt_of_le (Heap.lt_size e) I.ok.above))).trans (I.base.keep b o e n hb hx)
  ·obtain⟨sl,e1⟩:=I.base.slot b o e n hb hx
   exact⟨sl,(hs.2 b (Nat.ne_of_lt (Nat.lt_of_lt_of_le (Heap.lt_size e) I.ok.above))).trans e1⟩
  ·obtain⟨o',e1⟩:=I.base.there b o e hx
   exact⟨o',(hs.2 b (Nat.ne_of_lt (Nat.lt_of_lt_of_le (Heap.lt_size e) I.ok.above))).trans e1⟩
  ·by_cases hj:j=i
   ·subst hj
    rw[hi]at e1;cases e1
    rw[List.getElem?_set_self MF]at e2
    cases e2
    exact⟨u,r,.inl ⟨hk,by simp⟩⟩
   ·rw[List.getElem?_set_ne (Ne.symm hj)]at e2
    obtain⟨u',r',q⟩:=hl j y v' e1 e2 e3
    refine⟨u',r',?_⟩
    rcases q with⟨k,e⟩|⟨k,c,e,z⟩
    ·refine .inl ⟨k,?_⟩
     have:y≠x:=λe=>hj (tW hN e1 (e▸hi))
     simp[this,e]
    ·exact .inr ⟨k,c,e,z.sameBut hs (E6 y c e)⟩
  ·obtain⟨w',z⟩:=I.cell y c e
   exact⟨w',z.sameBut hs (E6 y c e)⟩
  ·obtain⟨e,n,ne,nf,d⟩:=I.pin p hp
   exact⟨(hs.2 p.1 ne).trans e,n,ne,nf,d⟩
 ·have KY:X.fn x=true:=by
    rcases hf with z|z
    ·exact z
    ·rw[z]at hk;cases hk
  obtain⟨c,hc⟩:=I.ok.has x (.inl hk)
  obtain⟨w',z⟩:=I.cell x c hc
  refine wpAny_storeName_cell I.ok.kind hk hc z (λh' HW hs=>?_)
  obtain⟨oc,MG,KZ⟩:=id z
  refine h {s with heap:=h'} ⟨I.ok,I.os,I.bare,⟨λb o e n hb hx=>?_,λb o e n hb hx=>?_,I.base.free,λb o e hx=>?_,I.base.qB,I.base.pd,I.base.rM⟩,⟨m,hn.sameBut hs (Ne.symm (E6 x c hc)),λj y v' e1 e2 e3=>?_⟩,λy c' e=>?_,I.free,I.freeC,λp hp=>?_,tracked ⟨oc,MG,I.freeC x c hc⟩ hs,by simpa using I.len⟩ ⟨c,hs,.inr hc⟩
  ·exact(hs.2 b (Nat.ne_of_lt (Nat.lt_of_lt_of_le (Heap.lt_size e) (I.ok.cab x c KY hc)))).trans (I.base.keep b o e n hb hx)
  ·obtain⟨sl,e1⟩:=I.base.slot b o e n hb hx
   exact⟨sl,(hs.2 b (Nat.ne_of_lt (Nat.lt_of_lt_of_le (Heap.lt_size e) (I.ok.cab x c KY hc)))).trans e1⟩
  ·obtain⟨o',e1⟩:=I.base.there b o e hx
   exact⟨o',(hs.2 b (Nat.ne_of_lt (Nat.lt_of_lt_of_le (Heap.lt_size e) (I.ok.cab x c KY hc)))).trans e1⟩
  ·by_cases hj:j=i
   ·subst hj
    rw[hi]at e1;cases e1
    rw[List.getElem?_set_self MF]at e2
    cases e2
    exact⟨u,r,.inr ⟨.inl hk,c,hc,HW⟩⟩
   ·rw[List.getElem?_set_ne (Ne.symm hj)]at e2
    obtain⟨u',r',q⟩:=hl j y v' e1 e2 e3
    refine⟨u',r',?_⟩
    rcases q with q|⟨k,c',e,z'⟩
    ·exact .inl q
    ·refine .inr ⟨k,c',e,z'.sameBut hs ?_⟩
     rintro rfl
     exact hj (tW hN e1 (I.ok.inj _ _ _ e hc▸hi))
  ·by_cases MH:c'=c
   ·subst MH;exact⟨_,HW⟩
   ·obtain⟨w2,z2⟩:=I.cell y c' e
    exact⟨w2,z2.sameBut hs MH⟩
  ·obtain⟨e,n,ne,nf,d⟩:=I.pin p hp
   refine⟨(hs.2 p.1 ?_).trans e,n,ne,nf,d⟩
   intro q
   rw[q,MG]at e
   have q':oc=p.2:=Option.some.inj e
   exact d w' (by rw[<-q'];exact KZ)
theorem mf{M:Model}{A:Around}{E:Value->Shared->Prop}{i:Nat}{x:Str}{v:V}{u:Value}{Q:Unit->Shared->Prop}(I:Inv X pins σ H s)(hN:X.N.Nodup)(hi:X.N[i]?=some x)(hx:Loc X.env.scope x)(r:RelV v u)
  (h:∀s',Inv X pins (σ.set i (some v)) H s'->Q () s')(hf:X.fn x=true\/X.env.scope.names.lookup x=some .local:=by first|exact .inl rfl|exact .inr rfl|assumption):wpAny M A (storeName X.env x u) Q E s:=
 qR I hN hi hx r (λs' I' _=>h s' I') hf
theorem Inv.HY{s':Shared}{ch:List Addr}(I:Inv X pins σ H s)(ho:s'.os=s.os)(u:Un (yh X.stack) ch H H' s.heap s'.heap)(eF:oM X.prog X.w H' s'.heap)(hg:AllBare s'.gens)
  (B2:∀b∈ch,(b∈X.ex\/X.s₀.heap.objs.size<=b)/\b≠X.env.locals/\(∀x c,X.env.cells.lookup x=some c->c≠b)/\∀p∈X.pn++pins,p.1≠b):Inv X pins σ H' s':=by
 obtain⟨h',g',d',t',o'⟩:=s'
 have e:o'=s.os:=ho
 subst e
 exact I.call (g':=g') (t':=t') (d':=d') u eF hg B2
end
noncomputable abbrev XK:=Value->Option Addr->Hp->Prop
noncomputable abbrev St:=List (Option V)
noncomputable abbrev VK:=V->Hp->Prop
noncomputable abbrev TE:=St->Hp->VK->Prop
noncomputable abbrev TT:=St->Hp->(Bool->Hp->Prop)->Prop
noncomputable abbrev TA:=St->Hp->(List V->Hp->Prop)->Prop
structure Ends where
 nx:St->Hp->Prop
 rt:VK
 bk:St->Hp->Prop:=λ_ _=>False
 ct:St->Hp->Prop:=λ_ _=>False
noncomputable abbrev TS:=Ends->St->Hp->Prop
noncomputable def EP(X:Cx)(pins:List (Addr×Obj))(σ:St)(Q:VK)(u:Value)(s':Shared):Prop:=∃v H',Inv X pins σ H' s'/\RelV v u/\Q v H'
noncomputable def TP(X:Cx)(pins:List (Addr×Obj))(σ:St)(Q:Bool->Hp->Prop)(b:Bool)(s':Shared):Prop:=∃H',Inv X pins σ H' s'/\Q b H'
noncomputable def AP(X:Cx)(pins:List (Addr×Obj))(σ:St)(Q:List V->Hp->Prop)(us:List Value)(s':Shared):Prop:=∃vs H',Inv X pins σ H' s'/\Vals vs us/\Q vs H'
noncomputable def SP(X:Cx)(pins:List (Addr×Obj))(D:Ends)(f:Flow)(s':Shared):Prop:=
 match f with
 |.next=>∃σ' H',Inv X pins σ' H' s'/\D.nx σ' H'
 |.brk=>∃σ' H',Inv X pins σ' H' s'/\D.bk σ' H'
 |.cont=>∃σ' H',Inv X pins σ' H' s'/\D.ct σ' H'
 |.ret u=>∃v σ' H',Inv X pins σ' H' s'/\RelV v u/\D.rt v H'
noncomputable def PE(X:Cx)(e:Expr)(t:TE):Prop:=
 ∀(pins:List (Addr×Obj)) (s:Shared) (σ:St) (H:Hp) (Q:VK),Inv X pins σ H s->t σ H Q->wpAny (model X.prog X.w) X.A (eval e X.env) (EP X pins σ Q) X.xe s
noncomputable def PT(X:Cx)(e:Expr)(t:TT):Prop:=
 ∀(pins:List (Addr×Obj)) (s:Shared) (σ:St) (H:Hp) (Q:Bool->Hp->Prop),Inv X pins σ H s->t σ H Q->wpAny (model X.prog X.w) X.A (isTrue e X.env (eval e X.env)) (TP X pins σ Q) X.xe s
noncomputable def PW(X:Cx)(e:Expr)(t:TT):Prop:=
 ∀(whole:Sem Value) (pins:List (Addr×Obj)) (s:Shared) (σ:St) (H:Hp) (Q:Bool->Hp->Prop),Inv X pins σ H s->t σ H Q->wpAny (model X.prog X.w) X.A (isTrue e X.env whole) (TP X pins σ Q) X.xe s
theorem PW.pt{X:Cx}{e:Expr}{t:TT}(h:PW X e t):PT X e t:=h _
noncomputable def PA(X:Cx)(es:List Expr)(t:TA):Prop:=
 ∀(pos:Pos) (pins:List (Addr×Obj)) (s:Shared) (σ:St) (H:Hp) (Q:List V->Hp->Prop),Inv X pins σ H s->t σ H Q->wpAny (model X.prog X.w) X.A (spliced (backTo pos (starEach es X.env))) (AP X pins σ Q) X.xe s
noncomputable def PS(X:Cx)(st:Stmt)(t:TS):Prop:=
 ∀(pins:List (Addr×Obj)) (s:Shared) (σ:St) (H:Hp) (D:Ends),Inv X pins σ H s->t D σ H->wpAny (model X.prog X.w) X.A (exec st X.env) (SP X pins D) X.xe s
noncomputable def vC(X:Cx)(st:List Stmt)(t:TS):Prop:=
 ∀(pins:List (Addr×Obj)) (s:Shared) (σ:St) (H:Hp) (D:Ends),Inv X pins σ H s->t D σ H->wpAny (model X.prog X.w) X.A (execs st X.env) (SP X pins D) X.xe s
theorem dZ{α:Type}{t:Sem α}{Q Q':α->Shared->Prop}{M:Model}{A:Around}{E:Value->Shared->Prop}{s:Shared}(h:wpAny M A t Q E s)(hQ:∀a s,Q a s->Q' a s):wpAny M A t Q' E s:=wpAny_mono h hQ λ_ _ x=>x
section
variable{X:Cx}
noncomputable def kx(i:Nat):TE:=λσ H Q=>∃v,σ[i]?=some (some v)/\Q v H
noncomputable def tC(v:V):TE:=λ_ H Q=>Q v H
theorem d0{i:Nat}{x:Str}{pos:Pos}(hN:X.N[i]?=some x)(hv:tU X.env.scope x)(hd:(x==("__debug__" :Str))=false:=by decide)(nc:(x==("__classdict__" :Str))=false:=by decide):PE X (.Name x pos) (kx i):=by
 intro pins s σ H Q I h
 obtain⟨v,e,h⟩:=h
 obtain⟨m,hn,hl⟩:=I.loc
 obtain⟨u,r,l⟩:=hl i x v hN e hv
 have fin:EP X pins σ Q u s:=⟨v,H,I,r,h⟩
 rcases l with⟨hk,hm⟩|⟨hk,c,hc,w9⟩
 ·exact wpAny_Name (wpAny_loadName_local I.ok.kind hk hn hm fin) hd
 ·rcases hk with hk|hk
  ·exact wpAny_Name (wpAny_loadName_cell I.ok.kind hk hc w9 fin) hd
  ·exact wpAny_Name (wpAny_loadName_free I.ok.kind hk hc w9 fin nc) hd
theorem vF{i j pos}:PE X (.Constant (.int i) j pos) (tC (.int i)):=λ_ _ _ H _ I h=>wpAny_Constant_int ⟨.int i,H,I.tok _,⟨_,rfl⟩,h⟩
theorem HZ{b j pos}:PE X (.Constant (.bool b) j pos) (tC (.bl b)):=λ_ _ _ H _ I h=>Constant_bool ⟨.bl b,H,I,rfl,h⟩
theorem E8{j pos}:PE X (.Constant .none j pos) (tC .non):=λ_ _ _ H _ I h=>Constant_none ⟨.non,H,I,rfl,h⟩
theorem E9{x j pos}:PE X (.Constant (.str x) j pos) (tC (.str x)):=λ_ _ _ H _ I h=>Calls.Constant_str ⟨.str x,H,I.tok _,⟨_,rfl⟩,h⟩
noncomputable def Gl(X:Cx)(x:Str):Prop:=X.env.kindOf x=some .globalImplicit
theorem oO{E:Value->Shared->Prop}{pins:List (Addr×Obj)}{s:Shared}{σ:St}{H:Hp}{x:Str}{u:Value}{pos:Pos}{Q:Value->Shared->Prop}(I:Inv X pins σ H s)(hg:Gl X x)(hm:X.mg x=some u)(h:Q u s)
  (hd:(x==("__debug__" :Str))=false:=by decide):wpAny (model X.prog X.w) X.A (eval (.Name x pos) X.env) Q E s:=
 Calls.Name_function_global I.ok.kind hg (Calls.loadGlobal_global (by rw[I.ok.glob];exact I.mod.glob.keeps I.bk) hm h) hd
theorem pf{E:Value->Shared->Prop}{pins:List (Addr×Obj)}{s:Shared}{σ:St}{H:Hp}{x:Str}{u:Value}{pos:Pos}{Q:Value->Shared->Prop}(I:Inv X pins σ H s)(hg:Gl X x)(hm:X.mg x=none)(hv:bootBuiltins x=some u)(h:Q u s)
  (hn:x≠ "__name__" :=by decide)(hd:(x==("__debug__" :Str))=false:=by decide):wpAny (model X.prog X.w) X.A (eval (.Name x pos) X.env) Q E s:=by
 obtain⟨mb,h1,h2⟩:=I.mod.blt
 exact Calls.Name_function_global I.ok.kind hg (Calls.loadGlobal_builtin (by rw[I.ok.glob];exact I.mod.glob.keeps I.bk) hm (by rw[I.ok.blt];exact h1.keeps I.bk) ((h2 x hn).trans hv) h) hd
theorem mh{x:Str}{v:V}{u:Value}{pos:Pos}(hg:Gl X x)(hm:X.mg x=some u)(r:RelV v u)(hd:(x==("__debug__" :Str))=false:=by decide):PE X (.Name x pos) (tC v):=
 λ_ _ _ H _ I h=>oO I hg hm ⟨v,H,I,r,h⟩ hd
theorem Cg{x:Str}{v:V}{u:Value}{pos:Pos}(hg:Gl X x)(hm:X.mg x=none)(hv:bootBuiltins x=some u)(r:RelV v u)(hn:x≠ "__name__" :=by decide)(hd:(x==("__debug__" :Str))=false:=by decide):PE X (.Name x pos) (tC v):=
 λ_ _ _ H _ I h=>pf I hg hm hv ⟨v,H,I,r,h⟩ hn hd
variable{a b:Expr}{ta tb:TE}{pos:Pos}
noncomputable def tB(t:TE):TT:=λσ H Q=>t σ H λx H1=>∃c,x=.bl c/\Q c H1
theorem Fb{e:Expr}{t:TE}(h:PE X e t)(he:∀whole,isTrue e X.env whole=(do let v<-whole;standAt e.pos;holding [v] (truthy v)):=by intro _;rfl):PT X e (tB t):=by
 intro pins s σ H Q I hw
 refine isTrue_plain (dZ (h pins s σ H _ I hw) λv s1 dS=>?_) (he _)
 obtain⟨x,H1,I1,r1,q1⟩:=dS
 obtain⟨d,rfl,q⟩:=q1
 cases r1
 exact wpAny_truthy_bool ⟨H1,I1,q⟩
variable{tA MI:TT}{rest:List Expr}
noncomputable def tX(t u:TT):TT:=λσ H Q=>t σ H λc H1=>if c=true then Q true H1 else u σ H1 Q
noncomputable def mi(t:TT):TT:=λσ H Q=>t σ H λc H1=>Q (!c) H1
theorem pw_or1(ha:PT X a tA):PW X (.BoolOp .Or [a] pos) tA:=by
 intro wh pins s σ H Q I h
 refine isTrue_or (dZ (ha pins s σ H Q I h) λc s1 e=>?_)
 cases c with
 |false=>exact isTrue_or_nil e
 |true=>exact e
theorem pw_or(ha:PT X a tA)(hb:PW X (.BoolOp .Or (b::rest) pos) MI):PW X (.BoolOp .Or (a::b::rest) pos) (tX tA MI):=by
 intro wh pins s σ H Q I h
 refine isTrue_or (dZ (ha pins s σ H _ I h) λc s1 ⟨H1,I1,q1⟩=>?_)
 cases c with
 |true=>exact⟨H1,I1,q1⟩
 |false=>exact hb wh pins s1 σ H1 Q I1 q1
theorem Fd(ha:PT X a tA):PT X (.UnaryOp .Not a pos) (mi tA):=by
 intro pins s σ H Q I h
 exact isTrue_not (ha pins s σ H (λc H1=>Q (!c) H1) I h)
noncomputable def H9(ta tb:TE):TE:=λσ H Q=>ta σ H λx H1=>∃c,x=.bl c/\if c=true then tb σ H1 Q else Q (.bl false) H1
noncomputable def Ic(ta:TE):TE:=λσ H Q=>ta σ H λx H1=>∃c,x=.bl c/\Q (.bl (!c)) H1
theorem Fe{op}{t:TE}(h:PE X a t):PE X (.BoolOp op [a] pos) t:=λpins s σ H Q I hw=>BoolOp_one (h pins s σ H Q I hw)
theorem Ff(ha:PE X a ta)(hb:PE X (.BoolOp .And (b::rest) pos) tb):PE X (.BoolOp .And (a::b::rest) pos) (H9 ta tb):=by
 intro pins s σ H Q I h
 refine BoolOp_and (dZ (ha pins s σ H _ I h) λv s1 dS=>?_)
 obtain⟨x,H1,I1,r1,q1⟩:=dS
 obtain⟨c,rfl,q1⟩:=q1
 cases r1
 refine wpAny_truthy_bool ?_
 cases c with
 |true=>exact hb pins s1 σ H1 Q I1 q1
 |false=>exact⟨.bl false,H1,I1,rfl,q1⟩
theorem Fg(ha:PE X a ta):PE X (.UnaryOp .Not a pos) (Ic ta):=by
 intro pins s σ H Q I h
 refine UnaryOp_ (dZ (ha pins s σ H _ I h) λv s1 dS=>?_)
 obtain⟨x,H1,I1,r1,q1⟩:=dS
 obtain⟨c,rfl,q1⟩:=q1
 cases r1
 exact not_of (wpAny_truthy_bool ⟨.bl (!c),H1,I1,rfl,q1⟩)
end
noncomputable def k8(K:PySem.W.Frag)(H:Hp)(a:Addr)(xs:List V):Prop:=
 Rd H a (.lst xs)\/
  ∃(o:Obj) (its:Array Value) (n:Nat),K.lookup a=some o/\o.cls=.type "list" /\o.dict=none/\o.data=.seq its n/\its.size<=sizeLine/\Vals xs its.toList
noncomputable def k9(K:PySem.W.Frag)(H:Hp)(a:Addr)(xs:List V):Prop:=
 Rd H a (.tup xs)\/
  ∃(o:Obj) (its:Array Value) (n:Nat),K.lookup a=some o/\o.cls=.type "tuple" /\o.data=.seq its n/\(its.size<=sizeLine/\o.dict=none)/\Vals xs its.toList
noncomputable def K0:Value->Option V
 |.none=>some .non
 |.bool b=>some (.bl b)
 |.int i _=>some (.int i)
 |.str x _=>some (.str x)
 |.bytes b _=>some (.byt b)
 |.float b _=>some (.flt b)
 |.ref a=>some (.ref a)
 |.type n=>some (.ty n)
 |_=>none
theorem RelV.abs{x:V}{u:Value}(r:RelV x u):K0 u=some x:=by
 cases x with
 |non=>cases r;rfl
 |bl _=>cases r;rfl
 |int _=>obtain⟨t,rfl⟩:=r;rfl
 |str _=>obtain⟨t,rfl⟩:=r;rfl
 |byt _=>obtain⟨t,rfl⟩:=r;rfl
 |flt _=>obtain⟨t,rfl⟩:=r;rfl
 |ref _=>cases r;rfl
 |ty _=>cases r;rfl
theorem RelV.inj{x y:V}{u:Value}(r:RelV x u)(q:RelV y u):x=y:=Option.some.inj (r.abs.symm.trans q.abs)
theorem Vals.inj:∀{xs ys:List V} {us:List Value},Vals xs us->Vals ys us->xs=ys
 |_,_,_,.nil,.nil=>rfl
 |_,_,_,.cons r t,.cons r' t'=>by rw[r.inj r',Vals.inj t t']
section
variable{X:Cx}{pins:List (Addr×Obj)}{σ:St}{H:Hp}{s:Shared}{a:Addr}{xs ys:List V}
theorem k8.of{K:PySem.W.Frag}(h:H a=some (.lst xs)):k8 K H a xs:=.inl (.inl h)
theorem k9.of{K:PySem.W.Frag}(h:H a=some (.tup xs)):k9 K H a xs:=.inl (.inl h)
theorem Inv.list(I:Inv X pins σ H s)(h:k8 X.K H a xs):∃its:List Value,Vals xs its/\PlainL s.heap a its.toArray/\xs.length<=sizeLine:=by
 rcases h with h|⟨o,its,n,hk,hc,hd,hs,hz,r⟩
 ·obtain⟨z,its,n,r,e⟩:=h.ok I.eF
  exact⟨its,r,⟨_,n,e,rfl,rfl,rfl⟩,z⟩
 ·refine⟨its.toList,r,⟨o,n,I.iU a o hk,hc,hd,by simpa using hs⟩,?_⟩
  have e:=r.length
  simp only[Array.length_toList]at e
  omega
theorem Inv.tuple(I:Inv X pins σ H s)(h:k9 X.K H a xs):∃its:List Value,Vals xs its/\IsTup s.heap a its.toArray/\xs.length<=sizeLine:=by
 rcases h with h|⟨o,its,n,hk,hc,hs,hz,r⟩
 ·obtain⟨z,its,r,p⟩:=h.ok I.eF
  exact⟨its,r,p,z.1⟩
 ·refine⟨its.toList,r,⟨o,I.iU a o hk,hc,n,by simpa using hs⟩,?_⟩
  have e:=r.length
  simp only[Array.length_toList]at e
  omega
theorem HR.new{h:Heap}{its:Array Value}{n:Nat}:HR (h.push {cls:=.type "tuple",data:=.seq its n}) h.objs.size:=⟨_,Heap.get?_push_size _ rfl,rfl⟩
theorem Inv.tY(I:Inv X pins σ H s)(h:k8 X.K H a xs)(h':k8 X.K H a ys):xs=ys:=by
 obtain⟨its,r,⟨o,n,e,_,_,d⟩,_⟩:=I.list h
 obtain⟨its',r',⟨o',n',e',_,_,d'⟩,_⟩:=I.list h'
 rw[e]at e';cases e'
 rw[d]at d'
 injection d' with d1 _
 have:its=its':=by simpa using congrArg Array.toList d1
 subst this
 exact r.inj r'
theorem Inv.qS(I:Inv X pins σ H s)(h:k9 X.K H a xs)(h':k9 X.K H a ys):xs=ys:=by
 obtain⟨its,r,⟨o,e,_,n,d⟩,_⟩:=I.tuple h
 obtain⟨its',r',⟨o',e',_,n',d'⟩,_⟩:=I.tuple h'
 rw[e]at e';cases e'
 rw[d]at d'
 injection d' with d1 _
 have:its=its':=by simpa using congrArg Array.toList d1
 subst this
 exact r.inj r'
end
noncomputable abbrev Cx.qC(X:Cx)(E:Value->Shared->Prop):Cx:={X with xe:=E}
noncomputable abbrev Cx.zj(X:Cx):Cx:=X.qC λ_ _=>False
theorem Cx.Ok.qC{X:Cx}(ok:X.Ok)(E:Value->Shared->Prop):(X.qC E).Ok:=
 ⟨ok.mod,ok.kind,ok.glob,ok.blt,ok.above,ok.inj,ok.has,ok.cab,ok.hd,ok.frames,ok.stk,ok.exf,ok.bs,ok.bsz,ok.noex,ok.exfs,ok.funs,ok.frf⟩
theorem Cx.Ok.jF{X:Cx}{E:Value->Shared->Prop}(ok:(X.qC E).Ok):X.Ok:=
 ⟨ok.mod,ok.kind,ok.glob,ok.blt,ok.above,ok.inj,ok.has,ok.cab,ok.hd,ok.frames,ok.stk,ok.exf,ok.bs,ok.bsz,ok.noex,ok.exfs,ok.funs,ok.frf⟩
section
variable{X:Cx}{pins:List (Addr×Obj)}{σ:St}{H:Hp}{s:Shared}{E:Value->Shared->Prop}
theorem Inv.qC(I:Inv X pins σ H s)(E:Value->Shared->Prop):Inv (X.qC E) pins σ H s:=⟨I.ok.qC E,I.os,I.bare,I.base,I.loc,I.cell,I.free,I.freeC,I.pin,I.eF,I.len⟩
theorem Inv.jF(I:Inv (X.qC E) pins σ H s):Inv X pins σ H s:=⟨I.ok.jF,I.os,I.bare,I.base,I.loc,I.cell,I.free,I.freeC,I.pin,I.eF,I.len⟩
theorem SP.jF{D:Ends}{f:Flow}{s':Shared}(h:SP (X.qC E) pins D f s'):SP X pins D f s':=by
 cases f with
 |next=>obtain⟨σ',H',I,q⟩:=h;exact⟨σ',H',I.jF,q⟩
 |brk=>obtain⟨σ',H',I,q⟩:=h;exact⟨σ',H',I.jF,q⟩
 |cont=>obtain⟨σ',H',I,q⟩:=h;exact⟨σ',H',I.jF,q⟩
 |ret u=>obtain⟨v,σ',H',I,r,q⟩:=h;exact⟨v,σ',H',I.jF,r,q⟩
theorem vC.zj{st:List Stmt}{t:TS}(h:vC X.zj st t):vC X st t:=λpins s σ H D I hw=>
 wpAny_mono (h pins s σ H D (I.qC _) hw) (λ_ _ q=>q.jF) λ_ _ z=>False.elim z
end
section
variable{X:Cx}{st:Stmt}{rest:List Stmt}{t u:TS}{e:Expr}{te:TE}{pos:Pos}
noncomputable def Ie:TS:=λD σ H=>D.nx σ H
noncomputable def Fh(t u:TS):TS:=λD σ H=>t {D with nx:=u D} σ H
theorem xa:vC X [] Ie:=λ_ _ σ H _ I h=>wpAny_execs_nil ⟨σ,H,I,h⟩
theorem fU(h1:PS X st t)(h2:vC X rest u):vC X (st::rest) (Fh t u):=by
 intro pins s σ H D I h
 refine wpAny_execs_cons (dZ (h1 pins s σ H {D with nx:=u D} I h) λf s1 q=>?_)
 cases f with
 |next=>
  obtain⟨σ',H',I',q⟩:=q
  exact h2 pins s1 σ' H' D I' q
 |ret v=>exact q
 |brk=>exact q
 |cont=>exact q
theorem gj(h1:PS X st t):vC X [st] t:=by
 intro pins s σ H D I h
 refine wpAny_execs_cons (dZ (h1 pins s σ H D I h) λf s1 q=>?_)
 cases f with
 |next=>exact wpAny_execs_nil q
 |ret v=>exact q
 |brk=>exact q
 |cont=>exact q
noncomputable def Fi:TS:=λD σ H=>D.bk σ H
theorem zk:PS X (.Break pos) Fi:=λ_ _ σ H _ I h=>wpAny_Break ⟨σ,H,I,h⟩
theorem Inv.quiet{pins:List (Addr×Obj)}{σ:St}{H:Hp}{s:Shared}(I:Inv X pins σ H s):interactive X.env=false:=by simp[interactive,I.ok.kind]
noncomputable def tZ(te:TE):TS:=λD σ H=>te σ H λ_ H1=>D.nx σ H1
theorem g9(he:PE X e te)(hs:swapsWith e none pos.line X.env=pure false:=by rfl):PS X (.Expr e pos) (tZ te):=by
 intro pins s σ H D I h
 exact wpAny_Expr_any (dZ (he pins s σ H _ I h) λv s1 ⟨x,H1,I1,r1,q1⟩=>⟨σ,H1,I1,q1⟩) I.quiet hs
noncomputable def K1(te:TE):TS:=λD σ H=>te σ H D.rt
theorem lg(he:PE X e te):PS X (.Return (some e) pos) (K1 te):=by
 intro pins s σ H D I h
 exact wpAny_Return_some (dZ (he pins s σ H _ I h) λv s1 ⟨x,H1,I1,r1,q1⟩=>⟨x,σ,H1,I1,r1,q1⟩)
noncomputable def K2(c:TT)(t u:TS):TS:=λD σ H=>c σ H λb H1=>if b=true then t D σ H1 else u D σ H1
theorem D9{c:Expr}{a b:List Stmt}{tc:TT}(hc:PT X c tc)(ha:vC X a t)(hb:vC X b u):PS X (.If c a b pos) (K2 tc t u):=by
 intro pins s σ H D I h
 refine wpAny_If (dZ (hc pins s σ H _ I h) λd s1 ⟨H1,I1,q1⟩=>?_)
 cases d with
 |true=>exact ha pins s1 σ H1 D I1 q1
 |false=>exact hb pins s1 σ H1 D I1 q1
noncomputable def Fj:TS:=λ_ _ _=>False
theorem zm:PS X st Fj:=λ_ _ _ _ _ _ h=>h.elim
end
noncomputable abbrev TG:=V->St->Hp->(St->Hp->Prop)->Prop
noncomputable abbrev Fm:=List V->St->Hp->(St->Hp->Prop)->Prop
noncomputable def PG(X:Cx)(target:Expr)(t:TG):Prop:=
 ∀(pins:List (Addr×Obj)) (s:Shared) (σ:St) (H:Hp) (v:V) (u:Value) (Q:St->Hp->Prop),Inv X pins σ H s->RelV v u->t v σ H Q->
  wpAny (model X.prog X.w) X.A (assign target X.env u) (λ_ s'=>∃σ' H',Inv X pins σ' H' s'/\Q σ' H') X.xe s
noncomputable def Ig(X:Cx)(ts:List Expr)(t:Fm):Prop:=
 ∀(pins:List (Addr×Obj)) (s:Shared) (σ:St) (H:Hp) (vs:List V) (us:List Value) (Q:St->Hp->Prop),Inv X pins σ H s->Vals vs us->t vs σ H Q->
  wpAny (model X.prog X.w) X.A (assignInOrder ((assignEach ts X.env).map (·.2)) us) (λ_ s'=>∃σ' H',Inv X pins σ' H' s'/\Q σ' H') X.xe s
noncomputable abbrev K3:=V->V->Hp->VK->Prop
noncomputable def Ny(X:Cx)(op:Operator)(t:K3):Prop:=
 ∀(pins:List (Addr×Obj)) (s:Shared) (σ:St) (H:Hp) (x y:V) (v u:Value) (Q:VK),Inv X pins σ H s->RelV x v->RelV y u->t x y H Q->
  wpAny (model X.prog X.w) X.A (inplaceOp op v u) (EP X pins σ Q) X.xe s
section
variable{X:Cx}{pos:Pos}
noncomputable def Ea(i:Nat):TG:=λv σ H Q=>Q (σ.set i (some v)) H
theorem Ci{i:Nat}{x:Str}(hN:X.N.Nodup)(hi:X.N[i]?=some x)(hx:Loc X.env.scope x)(hf:X.fn x=true\/X.env.scope.names.lookup x=some .local:=by first|exact .inl rfl|exact .inr rfl|assumption):PG X (.Name x pos) (Ea i):=by
 intro pins s σ H v u Q I r h
 exact wpAny_assign_Name (mf I hN hi hx r (λs' I'=>⟨_,H,I',h⟩) hf)
noncomputable def K4:Fm:=λvs σ H Q=>vs=[]/\Q σ H
noncomputable def Ih(t:TG)(u:Fm):Fm:=λvs σ H Q=>∃v r,vs=v::r/\t v σ H λσ' H'=>u r σ' H' Q
theorem xb:Ig X [] K4:=by
 intro pins s σ H vs us Q I r h
 obtain⟨e,h⟩:=h
 subst e
 cases r
 exact assignInOrder_nil ⟨σ,H,I,h⟩
theorem ph{e:Expr}{es:List Expr}{t:TG}{u:Fm}(h1:PG X e t)(h2:Ig X es u)
  (hs:(assignEach (e::es) X.env).map (·.2)=assign e X.env::(assignEach es X.env).map (·.2):=by rfl):Ig X (e::es) (Ih t u):=by
 intro pins s σ H vs us Q I r h
 obtain⟨v,vr,e1,h⟩:=h
 subst e1
 cases r with
 |cons r rr=>
  rw[hs]
  refine assignInOrder_cons (dZ (h1 pins s σ H _ _ _ I r h) λ_ s1 dS=>?_)
  obtain⟨σ1,H1,I1,q1⟩:=dS
  exact h2 pins s1 σ1 H1 _ _ Q I1 rr q1
noncomputable def K5(K:PySem.W.Frag)(n:Nat)(t:Fm):TG:=λv σ H Q=>∃a xs,v=.ref a/\k9 K H a xs/\xs.length=n/\t xs σ H Q
theorem zo{es:List Expr}{k:Nat}{t:Fm}{n:Nat}(hc:X.calm=true)(h:Ig X es t)
  (hn:(assignEach es X.env).length=n:=by rfl)(ng:(assignEach es X.env).findIdx? (·.1)=none:=by rfl):PG X (.Tuple es k pos) (K5 X.K n t):=by
 intro pins s σ H v u Q I r hw
 obtain⟨a,xs,e1,hq,hl,hw⟩:=hw
 subst e1
 cases r
 obtain⟨its,rv,ht,hz⟩:=I.tuple hq
 refine assign_Tuple_tuple (I.ok.hd hc) ht (by simp[hn,<-hl,rv.length]) ng λh' hx=>?_
 have I1:Inv X pins σ H {s with heap:=h'}:=I.kept (t':=s.toks) λb o e=>hx b o (Nat.ne_of_lt (Heap.lt_size e)) e
 exact h pins _ σ H xs _ Q I1 (by simpa using rv) hw
noncomputable def Ii(te:TE)(g:TG):TS:=λD σ H=>te σ H λx H1=>g x σ H1 D.nx
theorem Fn{tg e:Expr}{te:TE}{g:TG}(he:PE X e te)(hg:PG X tg g)(hs:swapsWithSole [tg] e pos.line X.env=pure false:=by rfl)(hw:swappedStores [tg] e X.env=pure none:=by rfl)
  (h1:(assignEach [tg] X.env).map (·.2)=[assign tg X.env]:=by rfl):PS X (.Assign [tg] e pos) (Ii te g):=by
 intro pins s σ H D I h
 refine wpAny_Assign_stores (dZ (he pins s σ H _ I h) λv s1 dS=>?_) hs hw
 obtain⟨x,H1,I1,r1,q1⟩:=dS
 rw[h1]
 exact dZ (hg pins s1 σ H1 x v _ I1 r1 q1) λ_ s2 q=>q
theorem lh{i:Nat}{x:Str}{e:Expr}{te:TE}{pos':Pos}(hN:X.N.Nodup)(hi:X.N[i]?=some x)(hx:Loc X.env.scope x)(he:PE X e te)(hs:swapsWith e (some (.Name x pos')) pos.line X.env=pure false:=by rfl)(hf:X.fn x=true\/X.env.scope.names.lookup x=some .local:=by first|exact .inl rfl|exact .inr rfl|assumption):
  PS X (.Assign [.Name x pos'] e pos) (Ii te (Ea i)):=by
 intro pins s σ H D I h
 refine wpAny_Assign_Name (dZ (he pins s σ H _ I h) λv s1 dS=>?_) hs
 obtain⟨y,H1,I1,r1,q1⟩:=dS
 exact mf I1 hN hi hx r1 (λs2 I2=>⟨_,H1,I2,q1⟩) hf
noncomputable def K6(i:Nat)(te:TE)(ti:K3):TS:=λD σ H=>∃x,σ[i]?=some (some x)/\te σ H λy H1=>ti x y H1 λz H2=>D.nx (σ.set i (some z)) H2
theorem Fo{i:Nat}{x:Str}{e:Expr}{te:TE}{op:Operator}{ti:K3}{pos':Pos}(hN:X.N.Nodup)(hi:X.N[i]?=some x)(hx:Loc X.env.scope x)(he:PE X e te)(ho:Ny X op ti)(hf:X.fn x=true\/X.env.scope.names.lookup x=some .local:=by first|exact .inl rfl|exact .inr rfl|assumption):
  PS X (.AugAssign (.Name x pos') op e pos) (K6 i te ti):=by
 intro pins s σ H D I h
 obtain⟨v,e1,h⟩:=h
 obtain⟨m,hn,hl⟩:=I.loc
 have zd:tU X.env.scope x:=by rcases hx with k|k;exact .inl k;exact .inr (.inl k)
 obtain⟨u,r,l⟩:=hl i x v hi e1 zd
 refine wpAny_AugAssign_Name ?_
 have go:wpAny (model X.prog X.w) X.A (eval e X.env) (λw s₂=>wpAny (model X.prog X.w) X.A (inplaceOp op u w) (λr s₃=>wpAny (model X.prog X.w) X.A (storeName X.env x r) (λ_=>SP X pins D .next) X.xe s₃) X.xe s₂) X.xe s:=by
  refine dZ (he pins s σ H _ I h) λw s1 dS=>?_
  obtain⟨y,H1,I1,r1,q1⟩:=dS
  refine dZ (ho pins s1 σ H1 v y u w _ I1 r r1 q1) λz s2 dS=>?_
  obtain⟨zv,H2,I2,r2,q2⟩:=dS
  exact mf I2 hN hi hx r2 (λs3 I3=>⟨_,H2,I3,q2⟩) hf
 rcases l with⟨hk,hm⟩|⟨hk,c,hc,w9⟩
 ·exact wpAny_loadName_local I.ok.kind hk hn hm go
 ·rcases hk with hk|hk
  ·exact wpAny_loadName_cell I.ok.kind hk hc w9 go
  ·rcases hx with k|k
   ·have:X.env.scope.names.lookup x=some .free:=hk
    rw[k]at this;cases this
   ·have:X.env.scope.names.lookup x=some .free:=hk
    rw[k]at this;cases this
end
section
variable{X:Cx}{pos:Pos}
noncomputable def Fq(c:TT)(tb:TS):TS:=λD σ H=>∃W:Nat->St->Hp->Prop,(∃m,W m σ H)/\∀m σ H,W m σ H->
 c σ H λb H1=>if b=true then∃N:St->Hp->Prop,(∀σ' H',N σ' H'->∃m',m'<m/\W m' σ' H')/\tb {D with nx:=N,ct:=N,bk:=D.nx} σ H1 else D.nx σ H1
theorem t5{c:Expr}{body:List Stmt}{tc:TT}{tb:TS}(hp:PassesOwn (model X.prog X.w) X.A X.env X.xe)(hc:PT X c tc)(hb:vC X body tb):PS X (.While c body [] pos) (Fq tc tb):=by
 intro pins s σ H D I h
 obtain⟨W,⟨m0,w0⟩,turn⟩:=h
 refine wpAny_While (codeAny_whileLoop (λn s'=>∃σ' H',Inv X pins σ' H' s'/\W n σ' H') ?_ m0 ⟨σ,H,I,w0⟩)
 rintro n s1 ⟨σ1,H1,I1,w1⟩
 refine wpAny_passesOwn hp (dZ (hc pins s1 σ1 H1 _ I1 (turn n σ1 H1 w1)) λb s2 ⟨H2,I2,q2⟩=>?_)
 cases b with
 |true=>
  obtain⟨N,hN,q2⟩:=q2
  rw[if_pos rfl]
  refine wpAny_passesOwn hp (dZ (hb pins s2 σ1 H2 _ I2 q2) λf s3 q3=>?_)
  cases f with
  |next=>
   obtain⟨σ3,H3,I3,n3⟩:=q3
   obtain⟨m',hm,w3⟩:=hN σ3 H3 n3
   exact⟨m',hm,σ3,H3,I3,w3⟩
  |cont=>
   obtain⟨σ3,H3,I3,n3⟩:=q3
   obtain⟨m',hm,w3⟩:=hN σ3 H3 n3
   exact⟨m',hm,σ3,H3,I3,w3⟩
  |brk=>exact q3
  |ret v=>exact q3
 |false=>
  rw[if_neg Bool.false_ne_true]
  exact wpAny_execs_nil ⟨σ1,H2,I2,q2⟩
end
structure It where
 go:Nat->Hp->Prop
 yld:Nat->Hp->V->Hp->Prop
 stop:Nat->Hp->Prop
noncomputable def nj(X:Cx)(pins:List (Addr×Obj))(H:Hp)(b:Addr):Prop:=
 H b=none/\b≠X.env.locals/\b∉X.fs/\(b∈X.ex\/X.s₀.heap.objs.size<=b)/\(∀x c,X.env.cells.lookup x=some c->c≠b)/\∀p∈X.pn++pins,p.1≠b
theorem Inv.Cj{X:Cx}{pins:List (Addr×Obj)}{σ:St}{H H':Hp}{s:Shared}{b:Addr}(I:Inv X pins σ H s)(hb:s.heap.objs.size<=b)(hn:H' b=none):nj X pins H' b:=by
 refine⟨hn,Nat.ne_of_gt (Nat.lt_of_lt_of_le I.lt hb),I.E5 hb,.inr (Nat.le_trans I.sz hb),λx c e z=>?_,λp hp z=>?_⟩
 ·obtain⟨v,q⟩:=I.cell x c e
  exact absurd (Nat.lt_of_lt_of_le q.lt (by rw[z];exact hb)) (Nat.lt_irrefl _)
 ·exact absurd (Nat.lt_of_lt_of_le (Heap.lt_size (I.pin p hp).1) (by rw[z];exact hb)) (Nat.lt_irrefl _)
structure Turn(P:Program)(w:World)(K:PySem.W.Frag)(tg:Expr)(J:It)(fp:List Addr)(it:Addr)(tn:Nat->Heap->Prop):Prop where
 mem:it∈fp
 obj:∀i h,tn i h->∀b∈fp,∃o,h.get? b=some o/\∀v,o.data≠.cell v
 keep:∀i h h',tn i h->(∀b∈fp,∀o,h.get? b=some o->h'.get? b=some o)->tn i h'
 item:∀(X:Cx),X.prog=P->X.w=w->X.K=K->X.calm=true->∀(i:Nat) (pins:List (Addr×Obj)) (s:Shared) (σ:St) (H:Hp) (E:Value->Shared->Prop),Inv X pins σ H s->(∀b∈fp,nj X pins H b)->tn i s.heap->J.go i H->
  wpAny (model P w) X.A (pyNext (.ref it)) (λr s1=>∃u,r=some u/\
   wpAny (model P w) X.A (letOwnedTupleGo tg (.ref it) u) (λ_ s2=>∃x H',Inv X pins σ H' s2/\RelV x u/\J.yld i H x H'/\tn (i+1) s2.heap/\∀b∈fp,H' b=none) E s1) E s
 done:∀(X:Cx),X.prog=P->X.w=w->X.K=K->X.calm=true->∀(i:Nat) (pins:List (Addr×Obj)) (s:Shared) (σ:St) (H:Hp) (E:Value->Shared->Prop),Inv X pins σ H s->(∀b∈fp,nj X pins H b)->tn i s.heap->J.stop i H->
  wpAny (model P w) X.A (pyNext (.ref it)) (λr s1=>r=none/\Inv X pins σ H s1) E s
 self:∀(A:Around) (i:Nat) (s:Shared) (Q:Value->Shared->Prop) (E:Value->Shared->Prop),tn i s.heap->Q (.ref it) s->wpAny (model P w) A (pyIter (.ref it)) Q E s
noncomputable abbrev TI:=St->Hp->(It->Hp->Prop)->Prop
noncomputable def MJ(X:Cx)(pins:List (Addr×Obj))(σ:St)(tg:Expr)(R:It->Hp->Prop)(Ka:Value)(s2:Shared):Prop:=
 ∃(it:Addr) (fp:List Addr) (tn:Nat->Heap->Prop) (J:It) (H':Hp),Ka=.ref it/\Inv X pins σ H' s2/\Turn X.prog X.w X.K tg J fp it tn/\tn 0 s2.heap/\(∀b∈fp,nj X pins H' b)/\R J H'
noncomputable def PI(X:Cx)(tg iter:Expr)(wi:TI):Prop:=
 ∀(pins:List (Addr×Obj)) (s:Shared) (σ:St) (H:Hp) (R:It->Hp->Prop),Inv X pins σ H s->wi σ H R->
  wpAny (model X.prog X.w) X.A (eval iter X.env) (λv s1=>wpAny (model X.prog X.w) X.A (pyIter v) (MJ X pins σ tg R) X.xe s1) X.xe s
theorem zp{M:Model}{A:Around}{E:Value->Shared->Prop}{s:Shared}{tg:Expr}{it:Addr}{u:Value}{o:Obj}{n:String}{vs:Array Value}{Q:Unit->Shared->Prop}(ho:s.heap.get? it=some o)(hc:o.cls=.type n)(hd:o.data=.fields vs)
  (hn:["enumerate","zip","dict_itemiterator","dict_reverseitemiterator","odict_iterator","itertools.zip_longest","itertools.pairwise"].contains n=false)(hQ:Q () s):wpAny M A (letOwnedTupleGo tg (.ref it) u) Q E s:=by
 unfold letOwnedTupleGo
 cases tg<;>first
  |exact wpAny_pure hQ
  |(cases u<;>first
     |exact wpAny_pure hQ
     |(refine wpAny_bind (wpAny_load ho ?_)
       rw[hc,hd]
       show wpAny M A (if(["enumerate","zip","dict_itemiterator","dict_reverseitemiterator","odict_iterator","itertools.zip_longest","itertools.pairwise"].contains n&&vs[0]?==some (rawInt _))=true then _ else _) Q E s
       rw[if_neg (by intro h;rw[hn,Bool.false_and]at h;cases h)]
       exact wpAny_pure hQ))
noncomputable def K7(K:PySem.W.Frag)(a:Addr):It:=
 ⟨λi H=>∃xs x,k8 K H a xs/\xs[i]?=some x,λi H x H'=>H'=H/\∀xs,k8 K H a xs->xs[i]?=some x,λi H=>∃xs,k8 K H a xs/\xs.length<=i⟩
noncomputable def K8(K:PySem.W.Frag)(a:Addr):It:=
 ⟨λi H=>∃xs x,k9 K H a xs/\xs[i]?=some x,λi H x H'=>H'=H/\∀xs,k9 K H a xs->xs[i]?=some x,λi H=>∃xs,k9 K H a xs/\xs.length<=i⟩
noncomputable def Ij(lo:Int)(n:Nat):It:=⟨λi _=>i<n,λi H x H'=>H'=H/\x=.int (lo+i),λi _=>n<=i⟩
theorem yi{P:Program}{w:World}{K:PySem.W.Frag}{tg:Expr}(a it:Addr):Turn P w K tg (K7 K a) [it] it (λi h=>h.IsListIter it a i) where
 mem:=by simp
 obj:=λi h st b hb=>by
  have e:b=it:=by simpa using hb
  subst e
  obtain⟨o,e,c,d⟩:=st
  exact⟨o,e,λv z=>by rw[d]at z;cases z⟩
 keep:=λi h h' st k=>st.at λo e=>k it (by simp) o e
 item:=by
  intro X hP hw hK hc i pins s σ H E I hf st hg
  subst hP hw hK
  obtain⟨xs,x,hq,hx⟩:=hg
  obtain⟨its,rv,p,hz⟩:=I.list hq
  obtain⟨u,hu,ru⟩:=rv.get hx
  obtain⟨f0,f1,f2,f3,f4,f5⟩:=hf it (by simp)
  refine wpAny_pyNext_list_item st p.isList (x:=u) (by simpa using hu) λh' Eb sb=>?_
  have I1:Inv X pins σ H {s with heap:=h'}:=I.turned (t':=s.toks) (λb o hb e=>(sb.2 b hb).trans e) f0 f1 f3 f4 f5
  obtain⟨o,e,c,d⟩:=id Eb
  exact⟨u,rfl,zp (s:={s with heap:=h'}) e c d (by decide) ⟨x,H,I1,ru,⟨rfl,λys hy=>by rw[I.tY hy hq];exact hx⟩,Eb,λb hb=>(hf b hb).1⟩⟩
 done:=by
  intro X hP hw hK hc i pins s σ H E I hf st hg
  subst hP hw hK
  obtain⟨xs,hq,hx⟩:=hg
  obtain⟨its,rv,p,hz⟩:=I.list hq
  obtain⟨f0,f1,f2,f3,f4,f5⟩:=hf it (by simp)
  have hl:=rv.length
  exact wpAny_pyNext_list_end (I.ok.hd hc) st p.isList (by simp;omega) λh' eb=>⟨rfl,I.turned (t':=s.toks) (λb o hb e=>eb b o hb e) f0 f1 f3 f4 f5⟩
 self:=λ_ _ _ _ _ st h=>wpAny_pyIter_listiter st h
theorem vG{P:Program}{w:World}{K:PySem.W.Frag}{tg:Expr}(a it:Addr):Turn P w K tg (K8 K a) [it] it (λi h=>h.IsTupleIter it a i) where
 mem:=by simp
 obj:=λi h st b hb=>by
  have e:b=it:=by simpa using hb
  subst e
  obtain⟨o,e,c,d⟩:=st
  exact⟨o,e,λv z=>by rw[d]at z;cases z⟩
 keep:=λi h h' st k=>st.at λo e=>k it (by simp) o e
 item:=by
  intro X hP hw hK hc i pins s σ H E I hf st hg
  subst hP hw hK
  obtain⟨xs,x,hq,hx⟩:=hg
  obtain⟨its,rv,p,hz⟩:=I.tuple hq
  obtain⟨u,hu,ru⟩:=rv.get hx
  obtain⟨f0,f1,f2,f3,f4,f5⟩:=hf it (by simp)
  refine wpAny_pyNext_tuple_item st (show s.heap.IsTuple a its.toArray from p) (x:=u) (by simpa using hu) λh' Eb sb=>?_
  have I1:Inv X pins σ H {s with heap:=h'}:=I.turned (t':=s.toks) (λb o hb e=>(sb.2 b hb).trans e) f0 f1 f3 f4 f5
  obtain⟨o,e,c,d⟩:=id Eb
  exact⟨u,rfl,zp (s:={s with heap:=h'}) e c d (by decide) ⟨x,H,I1,ru,⟨rfl,λys hy=>by rw[I.qS hy hq];exact hx⟩,Eb,λb hb=>(hf b hb).1⟩⟩
 done:=by
  intro X hP hw hK hc i pins s σ H E I hf st hg
  subst hP hw hK
  obtain⟨xs,hq,hx⟩:=hg
  obtain⟨its,rv,p,hz⟩:=I.tuple hq
  obtain⟨f0,f1,f2,f3,f4,f5⟩:=hf it (by simp)
  have hl:=rv.length
  exact wpAny_pyNext_tuple_end (I.ok.hd hc) st (show s.heap.IsTuple a its.toArray from p) (by simp;omega) λh' eb=>⟨rfl,I.turned (t':=s.toks) (λb o hb e=>eb b o hb e) f0 f1 f3 f4 f5⟩
 self:=λ_ _ _ _ _ st h=>wpAny_pyIter_tupleiter st h
theorem vH{P:Program}{w:World}{K:PySem.W.Frag}{tg:Expr}(it:Addr)(lo:Int)(n:Nat):Turn P w K tg (Ij lo n) [it] it (λi h=>IsRangeIter h it (lo+(i:Nat)*1) ((n:Int)-(i:Nat)) 1) where
 mem:=by simp
 obj:=λi h st b hb=>by
  have e:b=it:=by simpa using hb
  subst e
  exact⟨_,st,λv z=>by
   have z':Data.fields _=Data.cell v:=z
   cases z'⟩
 keep:=λi h h' st k=>k it (by simp) _ st
 item:=by
  intro X hP hw hK hc i pins s σ H E I hf st hg
  subst hP hw hK
  obtain⟨f0,f1,f2,f3,f4,f5⟩:=hf it (by simp)
  have W:=Walks.range (prog:=X.prog) (w:=X.w) (I.ok.hd hc) it lo 1 n
  refine W.item i s _ _ hg st λv h' tk hv Eb kk=>?_
  obtain⟨t,rfl⟩:=hv
  have I1:Inv X pins σ H {s with heap:=h',toks:=tk}:=I.turned (λb o hb e=>kk b o (by simpa using hb) e) f0 f1 f3 f4 f5
  refine⟨_,rfl,zp (s:={s with heap:=h',toks:=tk}) (n:= "range_iterator") Eb rfl rfl (by decide) ⟨.int (lo+i),H,I1,⟨t,?_⟩,⟨rfl,rfl⟩,Eb,λb hb=>(hf b hb).1⟩⟩
  rw[Int.mul_one]
 done:=by
  intro X hP hw hK hc i pins s σ H E I hf st hg
  subst hP hw hK
  obtain⟨f0,f1,f2,f3,f4,f5⟩:=hf it (by simp)
  exact wpAny_pyNext_range_end (I.ok.hd hc) st (by have:n<=i:=hg;omega) λh' eb=>⟨rfl,I.turned (t':=s.toks) (λb o hb e=>eb b o hb e) f0 f1 f3 f4 f5⟩
 self:=λ_ _ _ _ _ st h=>wpAny_pyIter_rangeiter st h
section
variable{X:Cx}{tg:Expr}
noncomputable def Ik(K:PySem.W.Frag)(tl:TE):TI:=λσ H R=>tl σ H λx H1=>∃a,x=.ref a/\(∃xs,k8 K H1 a xs)/\R (K7 K a) H1
noncomputable def K9(K:PySem.W.Frag)(tl:TE):TI:=λσ H R=>tl σ H λx H1=>∃a,x=.ref a/\(∃xs,k9 K H1 a xs)/\R (K8 K a) H1
theorem xc{l:Expr}{tl:TE}(hl:PE X l tl):PI X tg l (Ik X.K tl):=by
 intro pins s σ H R I h
 refine dZ (hl pins s σ H _ I h) λv s1 dS=>?_
 obtain⟨x,H1,I1,r1,q1⟩:=dS
 obtain⟨a,e,⟨xs,hq⟩,q⟩:=q1
 subst e
 cases r1
 obtain⟨its,rv,p,hz⟩:=I1.list hq
 refine wpAny_pyIter_list p.isList ?_
 refine⟨s1.heap.objs.size,[s1.heap.objs.size],_,_,H1,rfl,I1.kept (t':=s1.toks) λb o e=>Heap.get?_push_of_some _ e,yi a _,⟨_,Heap.get?_push_size _ rfl,rfl,rfl⟩,λb hb=>?_,q⟩
 have e:b=s1.heap.objs.size:=by simpa using hb
 subst e
 exact I1.Cj (Nat.le_refl _) (I1.eF.fresh (Nat.le_refl _))
theorem Ft{l:Expr}{tl:TE}(hl:PE X l tl):PI X tg l (K9 X.K tl):=by
 intro pins s σ H R I h
 refine dZ (hl pins s σ H _ I h) λv s1 dS=>?_
 obtain⟨x,H1,I1,r1,q1⟩:=dS
 obtain⟨a,e,⟨xs,hq⟩,q⟩:=q1
 subst e
 cases r1
 obtain⟨its,rv,p,hz⟩:=I1.tuple hq
 refine wpAny_pyIter_tuple (show s1.heap.IsTuple a its.toArray from p) ?_
 refine⟨s1.heap.objs.size,[s1.heap.objs.size],_,_,H1,rfl,I1.kept (t':=s1.toks) λb o e=>Heap.get?_push_of_some _ e,vG a _,⟨_,Heap.get?_push_size _ rfl,rfl,rfl⟩,λb hb=>?_,q⟩
 have e:b=s1.heap.objs.size:=by simpa using hb
 subst e
 exact I1.Cj (Nat.le_refl _) (I1.eF.fresh (Nat.le_refl _))
theorem zq{pins:List (Addr×Obj)}{σ:St}{H:Hp}{s:Shared}{R:It->Hp->Prop}{E:Value->Shared->Prop}{lo hi:Int}{t u v:Tok}{tk:Nat}(I:Inv X pins σ H s)(h1:-(2^62)<=lo)(h2:lo<2^62)(h3:-(2^62)<=hi)(h4:hi<2^62)
  (q:R (Ij lo (hi-lo).toNat) H):wpAny (model X.prog X.w) X.A (pyIter (.ref s.heap.objs.size)) (MJ X pins σ tg R) E {s with heap:=s.heap.push {cls:=.type "range",data:=.fields #[.int lo t,.int hi u,.int 1 v]},toks:=tk}:=by
 refine wpAny_pyIter_range (IsRange.new ..) (small_one h1 h2 h3 h4) ?_
 have I1:Inv X pins σ H {s with heap:=s.heap.push {cls:=.type "range",data:=.fields #[.int lo t,.int hi u,.int 1 v]},toks:=tk}:=I.kept λb o e=>Heap.get?_push_of_some _ e
 refine⟨(s.heap.push {cls:=.type "range",data:=.fields #[.int lo t,.int hi u,.int 1 v]}).objs.size,[(s.heap.push {cls:=.type "range",data:=.fields #[.int lo t,.int hi u,.int 1 v]}).objs.size],_,_,H,rfl,
  I1.kept (t':=tk) λb o e=>Heap.get?_push_of_some _ e,vH _ lo (hi-lo).toNat,?_,λb hb=>?_,q⟩
 ·have e1:lo+((0:Nat):Int)*1=lo:=by simp
  have e2:(((hi-lo).toNat:Nat):Int)-((0:Nat):Int)=Builtin.Range.rangeSize lo hi 1:=by rw[rangeSize_one];split<;>omega
  show IsRangeIter _ _ (lo+((0:Nat):Int)*1) ((((hi-lo).toNat:Nat):Int)-((0:Nat):Int)) 1
  rw[e1,e2]
  exact Heap.get?_push_size _ rfl
 ·have e:b=(s.heap.push {cls:=.type "range",data:=.fields #[.int lo t,.int hi u,.int 1 v]}).objs.size:=by simpa using hb
  subst e
  exact I1.Cj (Nat.le_refl _) (I1.eF.fresh (Nat.le_refl _))
noncomputable def Ec(ta:TA):TI:=λσ H R=>ta σ H λvs H1=>∃j:Int,vs=[.int j]/\-(2^62)<=j/\j<2^62/\R (Ij 0 j.toNat) H1
theorem yj{a:Expr}{ta:TA}{p pos:Pos}(hg:Gl X "range")(hm:X.mg "range" =none)(ha:PA X [a] ta)(hs:starEach [a] X.env=[(false,eval a X.env)]:=by rfl):PI X tg (.Call (.Name "range" p) [a] [] pos) (Ec ta):=by
 intro pins s σ H R I h
 refine Call_ (pf I hg hm boot_range (PyProof.Rows.callWith_type1 (dZ (ha pos pins s σ H _ I h) λus s1 dS=>?_) hs rfl))
 obtain⟨vs,H1,I1,r1,q1⟩:=dS
 obtain⟨j,e,q1,q2,q⟩:=q1
 subst e
 cases r1 with
 |cons r rr=>
  cases rr
  obtain⟨t,rfl⟩:=r
  exact call_range_1 (zq I1 (by omega) (by omega) q1 q2 (by simpa using q))
noncomputable def La(wi:TI)(g:TG)(tb:TS):TS:=λD σ H=>wi σ H λJ H1=>∃W:Nat->Nat->St->Hp->Prop,(∃m,W 0 m σ H1)/\∀i m σ H,W i m σ H->
 (J.stop i H/\D.nx σ H)\/(J.go i H/\∃N:St->Hp->Prop,(∀σ' H',N σ' H'->∃m',m'<m/\W (i+1) m' σ' H')/\∀x H',J.yld i H x H'->g x σ H' λσ2 H2=>tb {D with nx:=N,ct:=N,bk:=D.nx} σ2 H2)
noncomputable def iW(fp:List Addr)(h:Heap):List (Addr×Obj):=fp.filterMap λb=>(h.get? b).map λo=>(b,o)
theorem iX{fp:List Addr}{h:Heap}{b:Addr}{o:Obj}(hb:b∈fp)(e:h.get? b=some o):(b,o)∈iW fp h:=List.mem_filterMap.mpr ⟨b,hb,by rw[e];rfl⟩
theorem qT{fp:List Addr}{h:Heap}{p:Addr×Obj}(hp:p∈iW fp h):p.1∈fp/\h.get? p.1=some p.2:=by
 obtain⟨b,hb,e⟩:=List.mem_filterMap.mp hp
 cases q:h.get? b with
 |none=>rw[q]at e;cases e
 |some o=>
  rw[q]at e
  have e':(b,o)=p:=Option.some.inj e
  subst e'
  exact⟨hb,q⟩
theorem Inv.pinned{pins:List (Addr×Obj)}{σ:St}{H:Hp}{s:Shared}{fp:List Addr}(I:Inv X pins σ H s)(hf:∀b∈fp,nj X pins H b)(ho:∀b∈fp,∃o,s.heap.get? b=some o/\∀v,o.data≠.cell v):Inv X (pins++iW fp s.heap) σ H s:=
 I.oN λp hp=>(List.mem_append.mp hp).elim (λz=>I.pin p (List.mem_append_right _ z)) λz=>by
  obtain⟨hb,e⟩:=qT z
  obtain⟨f0,f1,f2,_⟩:=hf p.1 hb
  obtain⟨o,e',d⟩:=ho p.1 hb
  rw[e]at e';cases e'
  exact⟨e,f0,f1,f2,d⟩
theorem Inv.mj{pins pl:List (Addr×Obj)}{σ:St}{H:Hp}{s:Shared}(I:Inv X (pins++pl) σ H s):Inv X pins σ H s:=I.oN λp hp=>I.pin p (List.mem_append_right _ (List.mem_append_left _ hp))
theorem Fu{iter:Expr}{body:List Stmt}{wi:TI}{g:TG}{tb:TS}{pos:Pos}(hp:PassesOwn (model X.prog X.w) X.A X.env X.xe)(hc:X.calm=true)(hi:PI X tg iter wi)(hg:PG X tg g)(hb:vC X body tb)
  (hs:∀x,foldedSetIterable iter X.env x=pure x:=by intro _;rfl):PS X (.For tg iter body [] pos) (La wi g tb):=by
 intro pins s σ H D I h
 refine wpAny_For (dZ (hi pins s σ H _ I h) λv s1 h1=>dZ h1 λKa s2 h2=>?_) hs
 obtain⟨it,fp,tn,J,H2,e,I2,T,Ee,f2,W,⟨m0,w0⟩,turn⟩:=h2
 subst e
 have Fv:∀{H':Hp},(∀b∈fp,H' b=none)->∀b∈fp,nj X pins H' b:=λhn b hb=>⟨hn b hb,(f2 b hb).2⟩
 refine codeAny_forLoop_any (λn s'=>∃i σ' H',Inv X pins σ' H' s'/\tn i s'.heap/\(∀b∈fp,H' b=none)/\W i n σ' H') ?_ m0 ⟨0,σ,H2,I2,Ee,λb hb=>(f2 b hb).1,w0⟩
 rintro n s3 ⟨i,σ3,H3,I3,Kb,MK,w3⟩
 rcases turn i n σ3 H3 w3 with⟨stop,qn⟩|⟨go,N,hN,step⟩
 ·refine wpAny_passesOwn hp (dZ (T.done X rfl rfl rfl hc i pins s3 σ3 H3 X.xe I3 (Fv MK) Kb stop) λr s4 ⟨hr,I4⟩=>?_)
  subst hr
  exact wpAny_execs_nil ⟨σ3,H3,I4,qn⟩
 ·refine wpAny_passesOwn hp (dZ (T.item X rfl rfl rfl hc i pins s3 σ3 H3 X.xe I3 (Fv MK) Kb go) λr s4 dS=>?_)
  obtain⟨u,hr,h4⟩:=dS
  subst hr
  refine wpAny_passesOwn hp (dZ h4 λ_ s5 dS=>?_)
  obtain⟨x,H5,I5,r5,y5,Fw,Lb⟩:=dS
  have Lc:=I5.pinned (Fv Lb) (T.obj _ _ Fw)
  refine wpAny_passesOwn hp (dZ (hg _ s5 σ3 H5 x u _ Lc r5 (step x H5 y5)) λ_ s6 dS=>?_)
  obtain⟨σ6,H6,I6,q6⟩:=dS
  refine wpAny_passesOwn hp (dZ (hb _ s6 σ6 H6 _ I6 q6) λf s7 q7=>?_)
  have again:∀{σ7:St} {H7:Hp},Inv X (pins++iW fp s5.heap) σ7 H7 s7->N σ7 H7->∃m,m<n/\∃i σ' H',Inv X pins σ' H' s7/\tn i s7.heap/\(∀b∈fp,H' b=none)/\W i m σ' H':=λ{σ7 H7} I7 n7=>by
   obtain⟨m',hm,w7⟩:=hN σ7 H7 n7
   refine⟨m',hm,i+1,σ7,H7,I7.mj,T.keep _ _ _ Fw λb hb o e=>(I7.pin (b,o) (List.mem_append_right _ (List.mem_append_right _ (iX hb e)))).1,λb hb=>?_,w7⟩
   obtain⟨o,e,d⟩:=T.obj _ _ Fw b hb
   exact(I7.pin (b,o) (List.mem_append_right _ (List.mem_append_right _ (iX hb e)))).2.1
  cases f with
  |next=>obtain⟨σ7,H7,I7,n7⟩:=q7;exact again I7 n7
  |cont=>obtain⟨σ7,H7,I7,n7⟩:=q7;exact again I7 n7
  |brk=>obtain⟨σ7,H7,I7,q7⟩:=q7;exact⟨σ7,H7,I7.mj,q7⟩
  |ret v=>obtain⟨x7,σ7,H7,I7,r7,q7⟩:=q7;exact⟨x7,σ7,H7,I7.mj,r7,q7⟩
end
noncomputable abbrev R2:=V->V->Hp->VK->Prop
noncomputable def kD(X:Cx)(f:Value->Value->Sem Value)(r:R2):Prop:=
 ∀(pins:List (Addr×Obj)) (s:Shared) (σ:St) (H:Hp) (x y:V) (v u:Value) (Q:VK),Inv X pins σ H s->RelV x v->RelV y u->r x y H Q->
  wpAny (model X.prog X.w) X.A (f v u) (EP X pins σ Q) X.xe s
noncomputable def Ld(X:Cx)(f:Value->Sem Value)(r:V->Hp->VK->Prop):Prop:=
 ∀(pins:List (Addr×Obj)) (s:Shared) (σ:St) (H:Hp) (x:V) (v:Value) (Q:VK),Inv X pins σ H s->RelV x v->r x H Q->
  wpAny (model X.prog X.w) X.A (f v) (EP X pins σ Q) X.xe s
noncomputable def gE(X:Cx)(f:Value)(r:List V->Hp->VK->Prop):Prop:=
 ∀(pins:List (Addr×Obj)) (s:Shared) (σ:St) (H:Hp) (xs:List V) (us:List Value) (Q:VK),Inv X pins σ H s->Vals xs us->r xs H Q->
  wpAny (model X.prog X.w) X.A (call f us) (EP X pins σ Q) X.xe s
noncomputable def Il(r:R2)(ta tb:TE):TE:=λσ H Q=>ta σ H λx H1=>tb σ H1 λy H2=>r x y H2 Q
noncomputable def Nz(r:V->Hp->VK->Prop)(ta:TE):TE:=λσ H Q=>ta σ H λx H1=>r x H1 Q
noncomputable def rI(C:Int->Int->Prop)(g:Int->Int->V):R2:=λx y H Q=>∃i j,x=.int i/\y=.int j/\C i j/\Q (g i j) H
noncomputable def Ck(g:Int->Int->V):R2:=λx y H Q=>∃i j,x=.int i/\y=.int j/\Q (g i j) H
noncomputable def rU(g:Int->V):V->Hp->VK->Prop:=λx H Q=>∃i,x=.int i/\Q (g i) H
section
variable{X:Cx}{a b c:Expr}{ta tb tc:TE}{pos:Pos}
theorem Fx(ha:PE X a ta)(hb:PE X b tb){pins:List (Addr×Obj)}{s:Shared}{σ:St}{H:Hp}{R:V->V->Hp->Prop}(I:Inv X pins σ H s)
  (h:ta σ H λx H1=>tb σ H1 λy H2=>R x y H2){Q:Value->Shared->Prop}{f:Value->Value->Sem Value}
  (hf:∀v u s2 x y H2,Inv X pins σ H2 s2->RelV x v->RelV y u->R x y H2->wpAny (model X.prog X.w) X.A (f v u) Q X.xe s2):
  wpAny (model X.prog X.w) X.A (eval a X.env) (λv s₁=>wpAny (model X.prog X.w) X.A (eval b X.env) (λu s₂=>wpAny (model X.prog X.w) X.A (f v u) Q X.xe s₂) X.xe s₁) X.xe s:=by
 refine dZ (ha pins s σ H _ I h) λv s1 dS=>?_
 obtain⟨x,H1,I1,r1,q1⟩:=dS
 refine dZ (hb pins s1 σ H1 _ I1 q1) λu s2 dS=>?_
 obtain⟨y,H2,I2,r2,q2⟩:=dS
 exact hf v u s2 x y H2 I2 r1 r2 q2
theorem zt{op:Operator}{r:R2}(ho:kD X (binaryOp op) r)(ha:PE X a ta)(hb:PE X b tb):PE X (.BinOp a op b pos) (Il r ta tb):=by
 intro pins s σ H Q I h
 exact wpAny_BinOp (Fx ha hb I h λv u s2 x y H2 I2 rx ry q=>ho pins s2 σ H2 x y v u Q I2 rx ry q)
theorem Im{op:UnaryOp}{r:V->Hp->VK->Prop}(ho:Ld X (unaryOp op) r)(ha:PE X a ta):PE X (.UnaryOp op a pos) (Nz r ta):=by
 intro pins s σ H Q I h
 exact UnaryOp_ (dZ (ha pins s σ H _ I h) λv s1 ⟨x,H1,I1,r1,q1⟩=>ho pins s1 σ H1 x v Q I1 r1 q1)
theorem Le{f:Value->Value->Sem Value}{C:Int->Int->Prop}{g:Int->Int->Int}
  (rule:∀(i j:Int) (t u:Tok) (s:Shared) (Q:Value->Shared->Prop) (E:Value->Shared->Prop),C i j->Q (.int (g i j) s.toks) {s with toks:=s.toks+1}->wpAny (model X.prog X.w) X.A (f (.int i t) (.int j u)) Q E s):
  kD X f (rI C λi j=>.int (g i j)):=by
 intro pins s σ H x y v u Q I rx ry h
 obtain⟨i,j,rfl,rfl,hc,q⟩:=h
 obtain⟨t,rfl⟩:=rx
 obtain⟨t',rfl⟩:=ry
 exact rule i j t t' s _ _ hc ⟨.int (g i j),H,I.tok _,⟨_,rfl⟩,q⟩
theorem Fy{f:Value->Value->Sem Value}{g:Int->Int->Int}
  (rule:∀(i j:Int) (t u:Tok) (s:Shared) (Q:Value->Shared->Prop) (E:Value->Shared->Prop),Q (.int (g i j) s.toks) {s with toks:=s.toks+1}->wpAny (model X.prog X.w) X.A (f (.int i t) (.int j u)) Q E s):
  kD X f (Ck λi j=>.int (g i j)):=by
 intro pins s σ H x y v u Q I rx ry h
 obtain⟨i,j,rfl,rfl,q⟩:=h
 obtain⟨t,rfl⟩:=rx
 obtain⟨t',rfl⟩:=ry
 exact rule i j t t' s _ _ ⟨.int (g i j),H,I.tok _,⟨_,rfl⟩,q⟩
theorem Ip{f:Value->Value->Sem Value}{g:Int->Int->Bool}
  (rule:∀(i j:Int) (t u:Tok) (s:Shared) (Q:Value->Shared->Prop) (E:Value->Shared->Prop),Q (.bool (g i j)) s->wpAny (model X.prog X.w) X.A (f (.int i t) (.int j u)) Q E s):
  kD X f (Ck λi j=>.bl (g i j)):=by
 intro pins s σ H x y v u Q I rx ry h
 obtain⟨i,j,rfl,rfl,q⟩:=h
 obtain⟨t,rfl⟩:=rx
 obtain⟨t',rfl⟩:=ry
 exact rule i j t t' s _ _ ⟨.bl (g i j),H,I,rfl,q⟩
noncomputable def Lf(i j:Int):Prop:=0<j/\j<1073741824
noncomputable def Fz(i j:Int):Prop:=(-(2^64)<i/\i<2^64)\/(-(2^64)<j/\j<2^64)
theorem Fz.ok{i j:Int}(h:Fz i j):IntMulOk i j:=by
 rcases h with⟨h1,h2⟩|⟨h1,h2⟩
 ·exact .of_left (intBits_le_64 h1 h2)
 ·exact .of_right (intBits_le_64 h1 h2)
theorem FA:kD X (binaryOp .Add) (Ck λi j=>.int (i+j)):=Fy λ_ _ _ _ _ _ _ q=>add_int q
theorem FC:kD X (binaryOp .Sub) (Ck λi j=>.int (i-j)):=Fy λ_ _ _ _ _ _ _ q=>sub_int q
theorem FD:kD X (binaryOp .Mult) (rI Fz λi j=>.int (i*j)):=Le λ_ _ _ _ _ _ _ hc q=>mul_int q hc.ok
theorem Cm:kD X (binaryOp .FloorDiv) (rI Lf λi j=>.int (i/j)):=Le λi j _ _ _ _ _ hc q=>by
 have h1:(0:Int)<j:=hc.1
 have h2:j<1073741824:=hc.2
 exact floordiv_int (by omega) (by rw[Int.fdiv_eq_ediv_of_nonneg i (by omega)];exact q) (.inl (PyProof.noPylong_small (by omega)))
theorem FG:kD X (binaryOp .Mod) (rI (λ_ j=>0<j) λi j=>.int (i % j)):=Le λi j _ _ _ _ _ hc q=>by
 have h1:(0:Int)<j:=hc
 exact mod_int' (by omega) (by rw[Int.fmod_eq_emod_of_nonneg i (by omega)];exact q)
theorem Co:kD X (inplaceOp .Add) (Ck λi j=>.int (i+j)):=Fy λ_ _ _ _ _ _ _ q=>iadd_int q
theorem NA{f:Value->Sem Value}{g:Int->Int}
  (rule:∀(i:Int) (t:Tok) (s:Shared) (Q:Value->Shared->Prop) (E:Value->Shared->Prop),Q (.int (g i) s.toks) {s with toks:=s.toks+1}->wpAny (model X.prog X.w) X.A (f (.int i t)) Q E s):
  Ld X f (rU λi=>.int (g i)):=by
 intro pins s σ H x v Q I rx h
 obtain⟨i,rfl,q⟩:=h
 obtain⟨t,rfl⟩:=rx
 exact rule i t s _ _ ⟨.int (g i),H,I.tok _,⟨_,rfl⟩,q⟩
theorem FH:Ld X (unaryOp .USub) (rU λi=>.int (-i)):=NA λ_ _ _ _ _ q=>neg_int q
end
noncomputable def Iq:V->V->Bool
 |.non,.non=>true|.non,.int _=>true|.int _,.non=>true|.non,.bl _=>true|.bl _,.non=>true|.non,.str _=>true|.str _,.non=>true
 |.int _,.int _=>true|.bl _,.bl _=>true|.str _,.str _=>true|.byt _,.byt _=>true
 |.int _,.str _=>true|.str _,.int _=>true|.bl _,.str _=>true|.str _,.bl _=>true
 |_,_=>false
noncomputable def NB:R2:=λx y H Q=>Iq x y=true/\Q (.bl (decide (x=y))) H
noncomputable def NC:R2:=λx y H Q=>Iq x y=true/\Q (.bl (!decide (x=y))) H
theorem xf{i j:Int}:decide (V.int i=V.int j)=(i==j):=by
 rw[Bool.eq_iff_iff]
 simp
theorem zu{i j:Bool}:decide (V.bl i=V.bl j)=(i==j):=by
 rw[Bool.eq_iff_iff]
 simp
theorem xg{i j:Str}:decide (V.str i=V.str j)=(i==j):=by
 rw[Bool.eq_iff_iff]
 simp
theorem xh{i j:Array UInt8}:decide (V.byt i=V.byt j)=(i.toList==j.toList):=by
 rw[Bool.eq_iff_iff]
 cases i
 cases j
 simp
section
variable{X:Cx}{a b c:Expr}{ta tb tc:TE}{pos:Pos}
theorem bG{pins:List (Addr×Obj)}{σ:St}{H:Hp}{s:Shared}{Q:VK}{k k':Bool}(I:Inv X pins σ H s)(q:Q (.bl k) H)(e:k=k'):EP X pins σ Q (.bool k') s:=by
 subst e
 exact⟨.bl k,H,I,rfl,q⟩
theorem Ir:kD X (compareOp .Eq) NB:=by
 intro pins s σ H x y v u Q I rx ry h
 obtain⟨hs,q⟩:=h
 cases x with
 |non=>
  cases rx
  cases y with
  |non=>cases ry;exact PySem.EqNone.eq_none_none (bG I q (by simp))
  |bl j=>cases ry;exact PySem.EqNone.eq_none_bool (bG I q (by simp))
  |int j=>obtain⟨t',rfl⟩:=ry;exact PySem.EqNone.eq_none_int (bG I q (by simp))
  |str j=>obtain⟨t',rfl⟩:=ry;exact PySem.EqNone.eq_none_str (bG I q (by simp))
  |_=>exact absurd (show false=true from hs) Bool.false_ne_true
 |bl i=>
  cases rx
  cases y with
  |non=>cases ry;exact PySem.EqNone.eq_bool_none (bG I q (by simp))
  |bl j=>cases ry;exact eq_bool (bG I q zu)
  |str j=>obtain⟨t',rfl⟩:=ry;exact PySem.EqMixed.eq_bool_str (bG I q (by simp))
  |_=>exact absurd (show false=true from hs) Bool.false_ne_true
 |int i=>
  obtain⟨t,rfl⟩:=rx
  cases y with
  |non=>cases ry;exact PySem.EqNone.eq_int_none (bG I q (by simp))
  |int j=>obtain⟨t',rfl⟩:=ry;exact eq_int (bG I q xf)
  |str j=>obtain⟨t',rfl⟩:=ry;exact PySem.EqMixed.eq_int_str (bG I q (by simp))
  |_=>exact absurd (show false=true from hs) Bool.false_ne_true
 |str i=>
  obtain⟨t,rfl⟩:=rx
  cases y with
  |non=>cases ry;exact PySem.EqNone.eq_str_none (bG I q (by simp))
  |bl j=>cases ry;exact PySem.EqMixed.eq_str_bool (bG I q (by simp))
  |int j=>obtain⟨t',rfl⟩:=ry;exact PySem.EqMixed.eq_str_int (bG I q (by simp))
  |str j=>obtain⟨t',rfl⟩:=ry;exact eq_str (bG I q xg)
  |_=>exact absurd (show false=true from hs) Bool.false_ne_true
 |byt i=>
  obtain⟨t,rfl⟩:=rx
  cases y with
  |byt j=>obtain⟨t',rfl⟩:=ry;exact PySem.W.eq_bytes (bG I q xh)
  |_=>exact absurd (show false=true from hs) Bool.false_ne_true
 |_=>cases y<;>exact absurd (show false=true from hs) Bool.false_ne_true
theorem Iu:kD X (compareOp .NotEq) NC:=by
 intro pins s σ H x y v u Q I rx ry h
 obtain⟨hs,q⟩:=h
 cases x with
 |non=>
  cases rx
  cases y with
  |non=>cases ry;exact PySem.EqNone.ne_none_none (bG I q (by simp))
  |bl j=>cases ry;exact PySem.EqNone.ne_none_bool (bG I q (by simp))
  |int j=>obtain⟨t',rfl⟩:=ry;exact PySem.EqNone.ne_none_int (bG I q (by simp))
  |str j=>obtain⟨t',rfl⟩:=ry;exact PySem.EqNone.ne_none_str (bG I q (by simp))
  |_=>exact absurd (show false=true from hs) Bool.false_ne_true
 |bl i=>
  cases rx
  cases y with
  |non=>cases ry;exact PySem.EqNone.ne_bool_none (bG I q (by simp))
  |bl j=>cases ry;exact ne_bool (bG I q (congrArg not zu))
  |str j=>obtain⟨t',rfl⟩:=ry;exact PySem.EqMixed.ne_bool_str (bG I q (by simp))
  |_=>exact absurd (show false=true from hs) Bool.false_ne_true
 |int i=>
  obtain⟨t,rfl⟩:=rx
  cases y with
  |non=>cases ry;exact PySem.EqNone.ne_int_none (bG I q (by simp))
  |int j=>obtain⟨t',rfl⟩:=ry;exact ne_int (bG I q (congrArg not xf))
  |str j=>obtain⟨t',rfl⟩:=ry;exact PySem.EqMixed.ne_int_str (bG I q (by simp))
  |_=>exact absurd (show false=true from hs) Bool.false_ne_true
 |str i=>
  obtain⟨t,rfl⟩:=rx
  cases y with
  |non=>cases ry;exact PySem.EqNone.ne_str_none (bG I q (by simp))
  |bl j=>cases ry;exact PySem.EqMixed.ne_str_bool (bG I q (by simp))
  |int j=>obtain⟨t',rfl⟩:=ry;exact PySem.EqMixed.ne_str_int (bG I q (by simp))
  |str j=>obtain⟨t',rfl⟩:=ry;exact ne_str (bG I q (congrArg not xg))
  |_=>exact absurd (show false=true from hs) Bool.false_ne_true
 |byt i=>
  obtain⟨t,rfl⟩:=rx
  cases y with
  |byt j=>obtain⟨t',rfl⟩:=ry;exact PySem.W.ne_bytes (bG I q (congrArg not xh))
  |_=>exact absurd (show false=true from hs) Bool.false_ne_true
 |_=>cases y<;>exact absurd (show false=true from hs) Bool.false_ne_true
theorem Iv:kD X (compareOp .Lt) (Ck λi j=>.bl (decide (i<j))):=Ip λ_ _ _ _ _ _ _ q=>lt_int q
theorem Iw:kD X (compareOp .Gt) (Ck λi j=>.bl (decide (j<i))):=Ip λ_ _ _ _ _ _ _ q=>gt_int q
theorem FJ:kD X (compareOp .Is) (λx y H Q=>y=.non/\Q (.bl (decide (x=.non))) H):=by
 intro pins s σ H x y v u Q I rx ry h
 obtain⟨rfl,q⟩:=h
 cases ry
 refine is_none_gen (bG I q ?_)
 cases x<;>first
  |(cases rx;rfl)
  |(obtain⟨t,rfl⟩:=rx;rfl)
theorem kD.or{f:Value->Value->Sem Value}{r r':R2}(h:kD X f r)(h':kD X f r'):kD X f (λx y H Q=>r x y H Q\/r' x y H Q):=by
 intro pins s σ H x y v u Q I rx ry q
 rcases q with q|q
 ·exact h pins s σ H x y v u Q I rx ry q
 ·exact h' pins s σ H x y v u Q I rx ry q
theorem zw(b:Expr){op:CmpOp}(h:op≠.In:=by decide)(h2:op≠.NotIn:=by decide):behindInMarks op b=false:=by
 have e1:(op==CmpOp.In)=false:=by cases op<;>first|rfl|exact absurd rfl h
 have e2:(op==CmpOp.NotIn)=false:=by cases op<;>first|rfl|exact absurd rfl h2
 cases b<;>simp[behindInMarks,e1,e2]
theorem Cp{op:CmpOp}{r:R2}(ho:kD X (compareOp op) r)(ha:PE X a ta)(hb:PE X b tb)(hm:behindInMarks op b=false):PE X (.Compare a [op] [b] pos) (Il r ta tb):=by
 intro pins s σ H Q I h
 exact wpAny_Compare1 (Fx ha hb I h λv u s2 x y H2 I2 rx ry q=>ho pins s2 σ H2 x y v u Q I2 rx ry q) hm
noncomputable def Ef(t:TE):TT:=λσ H Q=>t σ H λx H'=>∃k,x=.bl k/\Q k H'
theorem Cr{op:CmpOp}{r:R2}(ho:kD X (compareOp op) r)(ha:PE X a ta)(hb:PE X b tb)(hm:behindInMarks op b=false):PT X (.Compare a [op] [b] pos) (Ef (Il r ta tb)):=by
 intro pins s σ H Q I h
 refine wpAny_isTrue_Compare1 (dZ (ha pins s σ H _ I h) λv s1 ⟨x,H1,I1,r1,q1⟩=>dZ (hb pins s1 σ H1 _ I1 q1) λu s2 ⟨y,H2,I2,r2,q2⟩=>
  dZ (ho pins s2 σ H2 x y v u _ I2 r1 r2 q2) λc s3 ⟨z,H3,I3,r3,k,e,q3⟩=>?_) hm
 subst e
 cases r3
 exact wpAny_truthy_bool ⟨H3,I3,q3⟩
theorem pj:(sizeLine:Nat)<2^63:=by rw[sizeLine_eq];decide
theorem vI:kD X (binaryOp .Add) (λx y H Q=>∃i j,x=.str i/\y=.str j/\i.length+j.length<=sizeLine/\Q (.str (i++j)) H):=by
 intro pins s σ H x y v u Q I rx ry h
 obtain⟨i,j,rfl,rfl,hz,q⟩:=h
 obtain⟨t,rfl⟩:=rx
 obtain⟨t',rfl⟩:=ry
 exact add_str (λt' tk=>⟨.str (i++j),H,I.tok _,⟨_,rfl⟩,q⟩) hz
theorem vals1{x:V}{us:List Value}(r:Vals [x] us):∃u,us=[u]/\RelV x u:=by
 cases r with
 |cons r1 r2=>cases r2;exact⟨_,rfl,r1⟩
theorem vals2{x y:V}{us:List Value}(r:Vals [x,y] us):∃u w',us=[u,w']/\RelV x u/\RelV y w':=by
 cases r with
 |cons r1 r2=>
  cases r2 with
  |cons r3 r4=>cases r4;exact⟨_,_,rfl,r1,r3⟩
theorem rO:gE X (.type "str") (λxs H Q=>∃i,xs=[.int i]/\i.natAbs.log2<1920/\Q (.str (toString i)) H):=by
 intro pins s σ H xs us Q I r h
 obtain⟨i,rfl,hz,q⟩:=h
 obtain⟨u,rfl,t,rfl⟩:=vals1 r
 exact PySem.P.str_of_int hz ⟨.str _,H,I.tok _,⟨_,rfl⟩,q⟩
end
structure vJ(h:Heap)(x dx C:Addr)(mA:Str->Option Value):Prop where
 obj:h.get? x=some (PySem.W.instObj C dx)
 ns:h.Ns1 dx mA
 ne:dx≠x
theorem yk{h:Heap}{dx:Addr}{mA:Str->Option Value}(n:h.Ns1 dx mA):∃od,h.get? dx=some od/\∀name,PySem.W.lookIn name od=some (mA name):=by
 obtain⟨o,es,ep,ho,hd,hk,_,hm⟩:=n
 refine⟨o,ho,λname=>?_⟩
 have e:=hm name
 unfold nsFind findBy at e
 rw[<-Array.find?_toList]at e
 unfold PySem.W.lookIn
 rw[hd]
 dsimp only
 split
 ·rename_i y q
  rw[q]at e
  exact congrArg some e
 ·rename_i q
  rw[q]at e
  have a:es.toList.any (·.refKey)=false:=by
   rw[List.any_eq_false]
   intro y hy
   obtain⟨z,t,Lg⟩:=hk y (Array.mem_toList_iff.mp hy)
   simp[DictEntry.refKey,Lg]
  have a':¬es.toList.any (·.refKey)=true:=by rw[a];exact Bool.false_ne_true
  rw[if_neg a']
  exact congrArg some e
theorem vJ.look{h:Heap}{x dx C:Addr}{mA:Str->Option Value}(I:vJ h x dx C mA):∃od,PySem.W.InstAt h x (PySem.W.instObj C dx) C (some od)/\∀name,PySem.W.lookIn name od=some (mA name):=
 let⟨od,ho,hl⟩:=yk I.ns
 ⟨od,⟨I.obj,rfl,rfl,ho⟩,hl⟩
section
variable{prog:Program}{w:World}{A:Around}{E:Value->Shared->Prop}{s:Shared}{K:PySem.W.Frag}{x dx C f:Addr}{mA:Str->Option Value}{name:Str}{v:Value}
theorem get_map{expr:Bool}{Q:Value->Shared->Prop}(X:K.In s.heap)(I:vJ s.heap x dx C mA)(hg:PySem.W.plainGet K C name=true)(hh:PySem.W.hasDictIn K C=true)
  (ha:PySem.W.findIn K (.ref C) name=some none)(hv:mA name=some v)(ND:PySem.W.handedIn v=true)(h:Q v {s with toks:=s.toks+1}):
  wpAny (model prog w) A (getAttr (.ref x) name expr) Q E s:=by
 obtain⟨od,J,hl⟩:=I.look
 exact PySem.W.get_value X J (PySem.W.plainGet_of hg).1 (PySem.W.findObj_own hh ha rfl (by rw[hl,hv])) ND h
theorem zx{pl:Sem Bool}{Q:Value×List Value->Shared->Prop}(X:K.In s.heap)(I:vJ s.heap x dx C mA)(hg:PySem.W.plainGet K C name=true)
  (hf:PySem.W.findIn K (.ref C) name=some (some (.ref f)))(ht:PySem.W.isFn K (.ref f)=true)(hv:mA name=none)(h:Q (.ref f,[.ref x]) s):
  wpAny (model prog w) A (getMethod (.ref x) name pl) Q E s:=by
 obtain⟨od,J,hl⟩:=I.look
 exact PySem.W.method_fn X J (PySem.W.plainGet_of hg).1 (PySem.W.plainGet_of hg).2 hf (beq_iff_eq.mp ht) (by show(PySem.W.lookIn name od).map (·.isSome)=some false;rw[hl,hv];rfl) h
theorem Cs{ns:List Str}{Q:Unit->Shared->Prop}(X:K.In s.heap)(I:vJ s.heap x dx C mA)
  (hs:PySem.W.findIn K (.ref C) "__setattr__" =some (some (.builtin "object.__setattr__")))(hp:PySem.W.plainOver K C=true)(ht:PySem.W.takerIn K C name=some none)(hh:PySem.W.hasDictIn K C=true)
  (hw:PySem.Within mA ns)(Pc:ns.length<=sizeLine)
  (h:∀h',vJ h' x dx C (λy=>if y=name then some v else mA y)->Heap.SameBut dx s.heap h'->Q () {s with heap:=h',toks:=s.toks+2}):
  wpAny (model prog w) A (setAttr (.ref x) name v) Q E s:=by
 obtain⟨od,J,hl⟩:=I.look
 refine PySem.W.set_plain X J hs (PySem.W.osa_open (s:={s with toks:=s.toks+1}) (r:=none) X J hp ht λb=>?_)
 obtain⟨cd,hc,HU⟩:=PySem.W.any_some hh
 have hx:s.heap.get? x=some ⟨.ref C,some dx,.plain,#[]⟩:=I.obj
 refine wpAny_bind (wpAny_pure (wpAny_bind (wpAny_bind (wpAny_loadPart hx (wpAny_bind (PySem.W.Looks.here (s:={s with toks:=s.toks+1}) (PySem.W.looks_clsIn X hc) ?_))))))
 rw[HU]
 refine wpAny_pure (a:=some dx) (wpAny_bind (wpAny_pure (wpAny_bind ?_)))
 refine wpAny_nsSet1 (s:={s with toks:=s.toks+1}) I.ns λh' Hy nk=>?_
 obtain⟨oD,Pd,Pe,NF,NG,NH⟩:=Hy.count (PySem.Within.cons name v hw)
 refine wpAny_bind (wpAny_lookBehind NF (by rw[NG];exact pastItsLine_dict (Nat.le_trans NH (by rw[List.length_cons];omega))) ?_)
 exact wpAny_pure (h _ ⟨(nk.2 _ (Ne.symm I.ne)).trans I.obj,Hy,I.ne⟩ nk)
theorem zy{R:Result->Shared->Prop}{vs:List Value}{kw:List (Str×Value)}(X:K.In s.heap)(hm:PySem.W.makesIn K C=true)
  (hi:PySem.W.findIn K (.ref C) "__init__" =some (some (.ref f)))(hf:PySem.W.typeIn K (.ref f)=some (.type "function"))
  (h:codeAny (model prog w) (A.under (.builtin "type.__call__" ⟨.ref C::vs,kw⟩)) (.call (.ref f) ⟨.ref (s.heap.objs.size+1)::vs,kw⟩) (PySem.W.InitBack (s.heap.objs.size+1) R)
    {s with heap:=(s.heap.push PySem.W.emptyDict).push (PySem.W.instObj C s.heap.objs.size)}):
  codeAny (model prog w) A (.call (.ref C) ⟨vs,kw⟩) R s:=by
 obtain⟨hh,g,d,t,os⟩:=s
 exact PySem.W.make_core (PySem.W.makes_of X hm) (PySem.W.looks_findIn X hi) (λself=>PySem.W.bind_fn X self hf) (.inl rfl) h
end
noncomputable def jG(f:Str)(v:V):List (Str×V)->List (Str×V)
 |[]=>[(f,v)]
 |(g,x)::r=>if g=f then(g,v)::r else(g,x)::jG f v r
theorem nU(f g:Str)(v:V):∀fs:List (Str×V),(jG f v fs).lookup g=if g=f then some v else fs.lookup g
 |[]=>by
  show List.lookup g [(f,v)]=_
  by_cases h:g=f
  ·have hb:(g==f)=true:=beq_iff_eq.mpr h
   simp only[List.lookup,hb,if_pos h]
  ·have hb:(g==f)=false:=beq_eq_false_iff_ne.mpr h
   simp only[List.lookup,hb,if_neg h]
 |(k,x)::r=>by
  have ih:=nU f g v r
  rw[show jG f v ((k,x)::r)=(if k=f then(k,v)::r else(k,x)::jG f v r)from rfl]
  by_cases hk:k=f
  ·rw[if_pos hk]
   by_cases h:g=k
   ·have hb:(g==k)=true:=beq_iff_eq.mpr h
    simp only[List.lookup,hb,if_pos (h.trans hk)]
   ·have hb:(g==k)=false:=beq_eq_false_iff_ne.mpr h
    simp only[List.lookup,hb,if_neg (λe:g=f=>h (e.trans hk.symm))]
  ·rw[if_neg hk]
   by_cases h:g=k
   ·have hb:(g==k)=true:=beq_iff_eq.mpr h
    simp only[List.lookup,hb,if_neg (λe:g=f=>hk (h.symm.trans e))]
   ·have hb:(g==k)=false:=beq_eq_false_iff_ne.mpr h
    simp only[List.lookup,hb]
    exact ih
theorem nq(f:Str)(v:V):∀fs:List (Str×V),f∈(jG f v fs).map (·.1)/\∀g,g∈fs.map (·.1)->g∈(jG f v fs).map (·.1)
 |[]=>⟨by simp[jG],λg h=>by simp at h⟩
 |(k,x)::r=>by
  obtain⟨i1,i2⟩:=nq f v r
  rw[show jG f v ((k,x)::r)=(if k=f then(k,v)::r else(k,x)::jG f v r)from rfl]
  by_cases hk:k=f
  ·rw[if_pos hk]
   subst hk
   exact⟨by simp,λg h=>by simpa using h⟩
  ·rw[if_neg hk]
   refine⟨?_,λg h=>?_⟩
   ·rw[List.map_cons]
    exact List.mem_cons_of_mem _ i1
   ·rw[List.map_cons]at h⊢
    rcases List.mem_cons.mp h with e|e
    ·exact List.mem_cons.mpr (.inl e)
    ·exact List.mem_cons_of_mem _ (i2 g e)
theorem nV(f:Str)(v:V):∀fs:List (Str×V),(jG f v fs).length<=fs.length+1
 |[]=>by simp[jG]
 |(k,x)::r=>by
  have ih:=nV f v r
  rw[show jG f v ((k,x)::r)=(if k=f then(k,v)::r else(k,x)::jG f v r)from rfl]
  by_cases hk:k=f
  ·rw[if_pos hk,List.length_cons,List.length_cons];omega
  ·rw[if_neg hk,List.length_cons,List.length_cons];omega
theorem qz.some_of{v:V}{o:Option Value}(r:qz (some v) o):∃u,o=some u/\RelV v u:=by
 cases o with
 |none=>exact(show False from r).elim
 |some u=>exact⟨u,rfl,r⟩
theorem qz.none_of{o:Option Value}(r:qz none o):o=none:=by
 cases o with
 |none=>rfl
 |some u=>exact(show False from r).elim
theorem yl{v:V}{u:Value}(r:RelV v u):PySem.W.handedIn u=true:=by
 cases v with
 |non=>cases(show u=Value.none from r);rfl
 |bl b=>cases(show u=Value.bool b from r);rfl
 |int i=>obtain⟨t,e⟩:=(show∃t,u=Value.int i t from r);cases e;rfl
 |str x=>obtain⟨t,e⟩:=(show∃t,u=Value.str x t from r);cases e;rfl
 |byt b=>obtain⟨t,e⟩:=(show∃t,u=Value.bytes b t from r);cases e;rfl
 |flt b=>obtain⟨t,e⟩:=(show∃t,u=Value.float b t from r);cases e;rfl
 |ref a=>cases(show u=Value.ref a from r);rfl
 |ty n=>cases(show u=Value.type n from r);rfl
section
variable{P:Program}{w:World}{H H':Hp}{h h':Heap}{a C dx:Addr}{fs B1:List (Str×V)}
theorem oP(eF:oM P w H h)(e:H a=some (.ins C dx fs)):∃mA,vJ h a dx C mA/\(∀f,qz (fs.lookup f) (mA f))/\PySem.Within mA (fs.map (·.1))/\fs.length<=1000/\H dx=some (.own a):=by
 obtain⟨d,z,ne,ob,mA,n,r,q⟩:=(show eH P w H h a (.ins C dx fs)from eF a _ e)
 exact⟨mA,⟨ob,n,ne⟩,r,q,z,d⟩
end
structure qD(K:PySem.W.Frag)(C:Addr):Prop where
 pg:PySem.W.plainGet K C Str.empty=true
 hd:PySem.W.hasDictIn K C=true
 po:PySem.W.plainOver K C=true
 sa:PySem.W.findIn K (.ref C) "__setattr__" =some (some (.builtin "object.__setattr__"))
theorem qD.get{K:PySem.W.Frag}{C:Addr}(c:qD K C)(f:Str):PySem.W.plainGet K C f=true:=c.pg
noncomputable def df(K:PySem.W.Frag)(C:Addr)(f:Str):Prop:=PySem.W.findIn K (.ref C) f=some none
theorem df.Iy{K:PySem.W.Frag}{C:Addr}{f:Str}(n:df K C f):PySem.W.takerIn K C f=some none:=by
 unfold PySem.W.takerIn
 rw[show PySem.W.findIn K (.ref C) f=some none from n]
 rfl
structure Meth(K:PySem.W.Frag)(C:Addr)(m:Str)(f:Addr):Prop where
 at_:PySem.W.findIn K (.ref C) m=some (some (.ref f))
 fn:PySem.W.isFn K (.ref f)=true
 kp:PySem.W.keepIn K (.ref f)=true
section
variable{X:Cx}{pins:List (Addr×Obj)}{σ:St}{H:Hp}{s:Shared}{a C dx:Addr}{fs:List (Str×V)}{f:Str}{v:V}{A:Around}{E:Value->Shared->Prop}
theorem pq{b:Bool}{Q:Value->Shared->Prop}(I:Inv X pins σ H s)(e:H a=some (.ins C dx fs))(c:qD X.K C)(n:df X.K C f)(l:fs.lookup f=some v)
  (h:∀u s',Inv X pins σ H s'->RelV v u->Q u s'):wpAny (model X.prog X.w) A (getAttr (.ref a) f b) Q E s:=by
 obtain⟨mA,O,r,_,_,_⟩:=oP I.eF e
 obtain⟨u,hu,ru⟩:=qz.some_of (v:=v) (o:=mA f) (by rw[<-l];exact r f)
 exact get_map I.iU O (c.get f) c.hd n hu (yl ru) (h u _ (I.tok _) ru)
theorem iY{m:Str}{g:Addr}{pl:Sem Bool}{Q:Value×List Value->Shared->Prop}(I:Inv X pins σ H s)(e:H a=some (.ins C dx fs))(c:qD X.K C)(k:Meth X.K C m g)(l:fs.lookup m=none)
  (h:Q (.ref g,[.ref a]) s):wpAny (model X.prog X.w) A (getMethod (.ref a) m pl) Q E s:=by
 obtain⟨mA,O,r,_,_,_⟩:=oP I.eF e
 have hn:mA m=none:=qz.none_of (by rw[<-l];exact r m)
 exact zx I.iU O (c.get m) k.at_ k.fn hn h
theorem pw{y:V}{u:Value}{Q:Unit->Shared->Prop}(I:Inv X pins σ H s)(e:H a=some (.ins C dx fs))(c:qD X.K C)(n:df X.K C f)(hl:fs.length<1000)(ry:RelV y u)
  (h:∀s',Inv X pins σ (upd H a (.ins C dx (jG f y fs))) s'->Q () s'):wpAny (model X.prog X.w) A (setAttr (.ref a) f u) Q E s:=by
 obtain⟨mA,O,r,wi,_,ho⟩:=oP I.eF e
 have hz:(fs.map (·.1)).length<=sizeLine:=by rw[List.length_map,sizeLine_eq];omega
 refine Cs I.iU O c.sa c.po n.Iy c.hd wi hz λh' O' sb=>h _ ?_
 have hd:∃o,h'.get? dx=some o:=let⟨o,_,_,e',_⟩:=O'.ns;⟨o,e'⟩
 refine I.write (x:=a) (e:=dx) (by rw[e];exact True.intro) (.inr ho) (λb q hb z=>(sb.2 b hb).trans z) hd ?_
 refine⟨by rw[aF O.ne];exact ho,?_,O.ne,O'.obj,_,O'.ns,λg=>?_,λg hg=>?_⟩
 ·have:=nV f y fs;omega
 ·show qz ((jG f y fs).lookup g) (if g=f then some u else mA g)
  rw[nU]
  by_cases q:g=f
  ·rw[if_pos q,if_pos q];exact ry
  ·rw[if_neg q,if_neg q];exact r g
 ·by_cases q:g=f
  ·rw[q];exact(nq f y fs).1
  ·refine(nq f y fs).2 g (wi g λz=>hg ?_)
   show(if g=f then some u else mA g)=none
   rw[if_neg q];exact z
theorem Inv.made(I:Inv X pins σ H s):Inv X pins σ (upd (upd H s.heap.objs.size (.own (s.heap.objs.size+1))) (s.heap.objs.size+1) (.ins C s.heap.objs.size []))
  {s with heap:=(s.heap.push PySem.W.emptyDict).push (PySem.W.instObj C s.heap.objs.size)}:=by
 have e1:(s.heap.push PySem.W.emptyDict).get? s.heap.objs.size=some PySem.W.emptyDict:=Heap.get?_push_size s.heap rfl
 have e2:((s.heap.push PySem.W.emptyDict).push (PySem.W.instObj C s.heap.objs.size)).get? (s.heap.objs.size+1)=some (PySem.W.instObj C s.heap.objs.size):=by
  have:=Heap.get?_push_size (s.heap.push PySem.W.emptyDict) (o:=PySem.W.instObj C s.heap.objs.size) rfl
  rwa[Heap.size_push]at this
 have e3:(s.heap.push PySem.W.emptyDict).Ns s.heap.objs.size (λ_=>none):=⟨PySem.W.emptyDict,#[],_,e1,rfl,(λe he=>absurd he (by simp)),λ_=>rfl⟩
 have I1:=I.laid (a:=s.heap.objs.size) (o:=.own (s.heap.objs.size+1)) (h':=s.heap.push PySem.W.emptyDict) (t':=s.toks) (λb u q=>Heap.get?_push_of_some _ q) (Nat.le_refl _) ⟨_,e1⟩
 refine I1.laid (a:=s.heap.objs.size+1) (o:=.ins C s.heap.objs.size []) (t':=s.toks) (λb u q=>Heap.get?_push_of_some _ q) (Nat.le_of_eq (Heap.size_push _ _)) ?_
 have ne:s.heap.objs.size≠s.heap.objs.size+1:=Nat.ne_of_lt (Nat.lt_succ_self _)
 refine⟨by rw[aF ne,aM],Nat.zero_le _,ne,e2,λ_=>none,(Heap.Ns1.of_empty e3).at λo q=>Heap.get?_push_of_some _ q,λ_=>True.intro,λy hy=>absurd rfl hy⟩
theorem Ct{prog:Program}{w:World}{env:Env}{e:Expr}{f:Str}{pos:Pos}{s:Shared}{Q:Value->Shared->Prop}(hb:attributeBase e f env (eval e env)=eval e env)
  (h:wpAny (model prog w) A (eval e env) (λo s₁=>wpAny (model prog w) A (getAttr o f true) Q E s₁) E s):wpAny (model prog w) A (eval (.Attribute e f pos) env) Q E s:=
 Attribute_any_ h (by rw[arm_eval_Attribute,hb])
end
noncomputable def Lh(K:PySem.W.Frag)(ta:TE)(f:Str):TE:=λσ H Q=>ta σ H λx H1=>∃a C dx fs v,x=.ref a/\H1 a=some (.ins C dx fs)/\qD K C/\df K C f/\fs.lookup f=some v/\Q v H1
noncomputable def Cu(K:PySem.W.Frag)(ta tv:TE)(f:Str):TS:=λD σ H=>tv σ H λy H1=>ta σ H1 λx H2=>∃a C dx fs,x=.ref a/\H2 a=some (.ins C dx fs)/\qD K C/\df K C f/\fs.length<1000/\
 D.nx σ (upd H2 a (.ins C dx (jG f y fs)))
noncomputable def Iz(X:Cx)(op:Operator)(rd:V->V->Hp->VK->Prop):Prop:=
 ∀(pins:List (Addr×Obj)) (s:Shared) (σ:St) (H:Hp) (x y:V) (u v:Value) (Q:VK),Inv X pins σ H s->RelV x u->RelV y v->rd x y H Q->wpAny (model X.prog X.w) X.A (inplaceOp op u v) (EP X pins σ Q) X.xe s
noncomputable def Cv(K:PySem.W.Frag)(ta tv:TE)(rd:V->V->Hp->VK->Prop)(f:Str):TS:=λD σ H=>ta σ H λx H1=>∃a C dx fs v,x=.ref a/\H1 a=some (.ins C dx fs)/\qD K C/\df K C f/\fs.lookup f=some v/\
 tv σ H1 λy H2=>rd v y H2 λz H3=>∃Li B1,H3 a=some (.ins C Li B1)/\B1.length<1000/\D.nx σ (upd H3 a (.ins C Li (jG f z B1)))
section
variable{X:Cx}{o e value:Expr}{f:Str}{pos pos' Lj:Pos}{ta tv:TE}
theorem FK(he:PE X e ta)(hb:attributeBase e f X.env (eval e X.env)=eval e X.env):PE X (.Attribute e f pos) (Lh X.K ta f):=by
 intro pins s σ H Q I h
 refine Ct hb (dZ (he pins s σ H _ I h) λu s1 dS=>?_)
 obtain⟨x,H1,I1,rx,a,C,dx,fs,v,ex,ea,c,n,l,q⟩:=dS
 subst ex
 obtain rfl:u=Value.ref a:=rx
 exact pq I1 ea c n l λu' s2 I2 ru=>⟨v,H1,I2,ru,q⟩
theorem nr(ha:PE X o ta)(hv:PE X value tv)(hs:swapsWith value (some (.Attribute o f pos')) pos.line X.env=pure false):PS X (.Assign [.Attribute o f pos'] value pos) (Cu X.K ta tv f):=by
 intro pins s σ H D I h
 refine plainObj_wpAny_Assign_Attribute (dZ (hv pins s σ H _ I h) λu s1 ⟨y,H1,I1,ry,q⟩=>dZ (ha pins s1 σ H1 _ I1 q) λov s2 dS=>?_) hs
 obtain⟨x,H2,I2,rx,a,C,dx,fs,ex,ea,c,n,l,q2⟩:=dS
 subst ex
 obtain rfl:ov=Value.ref a:=rx
 exact pw I2 ea c n l ry λs3 I3=>⟨σ,_,I3,q2⟩
theorem ym{op:Operator}{rd:V->V->Hp->VK->Prop}(ha:PE X o ta)(hv:PE X value tv)(NI:Iz X op rd):PS X (.AugAssign (.Attribute o f Lj) op value pos) (Cv X.K ta tv rd f):=by
 intro pins s σ H D I h
 refine wpAny_AugAssign_AttributeAny (dZ (ha pins s σ H _ I h) λov s1 dS=>?_)
 obtain⟨x,H1,I1,rx,a,C,dx,fs,v,ex,ea,c,n,l,q⟩:=dS
 subst ex
 obtain rfl:ov=Value.ref a:=rx
 refine pq I1 ea c n l λu s2 I2 ru=>dZ (hv pins s2 σ H1 _ I2 q) λw3 s3 ⟨y,H2,I3,ry,q3⟩=>dZ (NI pins s3 σ H2 v y u w3 _ I3 ru ry q3) λw4 s4 dS=>?_
 obtain⟨z,H3,I4,rz,Li,B1,NJ,l',q4⟩:=dS
 exact pw I4 NJ c n l' rz λs5 I5=>⟨σ,_,I5,q4⟩
noncomputable def Lk:V->V->Hp->VK->Prop:=λx y H Q=>∃i j,x=.int i/\y=.int j/\Q (.int (i+j)) H
theorem FN:Iz X .Add Lk:=by
 rintro pins s σ H x y u v Q I rx ry ⟨i,j,rfl,rfl,q⟩
 obtain⟨t,rfl⟩:=(show∃t,u=Value.int i t from rx)
 obtain⟨t',rfl⟩:=(show∃t',v=Value.int j t' from ry)
 exact PyProof.Rows.iadd_int ⟨.int (i+j),H,I.tok _,⟨_,rfl⟩,q⟩
end
section
variable{X:Cx}{pins:List (Addr×Obj)}{σ:St}{H:Hp}{s:Shared}{A:Around}{E:Value->Shared->Prop}{Q:Value->Shared->Prop}{c:Value}{b:Bool}
inductive oF(K:PySem.W.Frag)(H:Hp):V->Value->Prop where
 |non:oF K H .non (.type "NoneType")
 |bl (x:Bool):oF K H (.bl x) (.type "bool")
 |int (i:Int):oF K H (.int i) (.type "int")
 |str (x:Str):oF K H (.str x) (.type "str")
 |flt (x:UInt64):oF K H (.flt x) (.type "float")
 |lst {a:Addr} {xs:List V} (e:H a=some (.lst xs)):oF K H (.ref a) (.type "list")
 |frz {a:Addr} {o:Obj} {xs:List V} (e:H a=some (.frz o (.lst xs))):oF K H (.ref a) (.type "list")
 |tup {a:Addr} {xs:List V} (e:H a=some (.tup xs)):oF K H (.ref a) (.type "tuple")
 |dK {a:Addr} {b9:List (Key×V)} (e:H a=some (.dK b9)):oF K H (.ref a) (.type "dict")
 |dT {a:Addr} {b9:List (List Key×V)} (e:H a=some (.dT b9)):oF K H (.ref a) (.type "dict")
 |ins {a C dx:Addr} {fs:List (Str×V)} (e:H a=some (.ins C dx fs)) (cl:qD K C) (ha:PySem.W.findIn K (.ref C) "__class__" =some (some (.builtin "object.__class__")))
   (hn:PySem.W.specialIn K (.builtin "object.__class__") "__get__" =some (some (.builtin "getset_descriptor.__get__"))) (Kc:PySem.W.takesIn K (.builtin "object.__class__")=some true)
   (hm:PySem.W.mroIn K C (.type "object")=some true):oF K H (.ref a) (.ref C)
theorem yn{x:V}{u t:Value}(I:Inv X pins σ H s)(rx:RelV x u)(ty:oF X.K H x t)(e:PySem.W.kitOne X.K t c=some b)(h:∀tk,Q (.bool b) {s with toks:=tk}):
  wpAny (model X.prog X.w) A (call (.builtin "isinstance") [u,c]) Q E s:=by
 cases ty with
 |non=>cases(show u=Value.none from rx);exact PySem.W.kia_one PySem.W.kitx_none I.iU True.intro e (λz=>nomatch z) h
 |bl y=>cases(show u=Value.bool y from rx);exact PySem.W.kia_one PySem.W.kitx_bool I.iU True.intro e (λz=>nomatch z) h
 |int i=>obtain⟨t,q⟩:=(show∃t,u=Value.int i t from rx);cases q;exact PySem.W.kia_one PySem.W.kitx_int I.iU True.intro e (λz=>nomatch z) h
 |str y=>obtain⟨t,q⟩:=(show∃t,u=Value.str y t from rx);cases q;exact PySem.W.kia_one PySem.W.kitx_str I.iU True.intro e (λz=>nomatch z) h
 |flt y=>obtain⟨t,q⟩:=(show∃t,u=Value.float y t from rx);cases q;exact PySem.W.kia_one PySem.W.kitx_float I.iU True.intro e (λz=>nomatch z) h
 |@lst a xs ea=>
  cases(show u=Value.ref a from rx)
  obtain⟨_,_,n,_,h1⟩:=(show eH X.prog X.w H s.heap a (.lst xs)from I.eF a _ ea)
  exact PySem.W.kia_one PySem.W.kitx_list I.iU ⟨_,h1,rfl⟩ e (λz=>nomatch z) h
 |@frz a ob xs ea=>
  cases(show u=Value.ref a from rx)
  obtain⟨_,_,_,n,_,h1⟩:=(show eH X.prog X.w H s.heap a (.frz ob (.lst xs))from I.eF a _ ea)
  exact PySem.W.kia_one PySem.W.kitx_list I.iU ⟨_,h1,rfl⟩ e (λz=>nomatch z) h
 |@tup a xs ea=>
  cases(show u=Value.ref a from rx)
  obtain⟨_,_,_,p⟩:=(show eH X.prog X.w H s.heap a (.tup xs)from I.eF a _ ea)
  obtain⟨o,h1,h2,_⟩:=p
  exact PySem.W.kia_one PySem.W.kitx_tuple I.iU ⟨o,h1,h2⟩ e (λz=>nomatch z) h
 |@dK a b9 ea=>
  cases(show u=Value.ref a from rx)
  obtain⟨_,_,vs,_,p⟩:=(show eH X.prog X.w H s.heap a (.dK b9)from I.eF a _ ea)
  obtain⟨o,es,ep,h1,h2,_⟩:=p
  exact PySem.W.kia_one PySem.W.kitx_dict I.iU ⟨o,h1,h2.1⟩ e (λz=>nomatch z) h
 |@dT a b9 ea=>
  cases(show u=Value.ref a from rx)
  obtain⟨_,_,xs,_,o,es,ep,h1,h2,_⟩:=(show eH X.prog X.w H s.heap a (.dT b9)from I.eF a _ ea)
  exact PySem.W.kia_one PySem.W.kitx_dict I.iU ⟨o,h1,h2.1⟩ e (λz=>nomatch z) h
 |@ins a C dx fs ea cl ha hn Kc hm=>
  cases(show u=Value.ref a from rx)
  obtain⟨mA,O,_⟩:=oP I.eF ea
  obtain⟨od,J,_⟩:=O.look
  exact PySem.W.kia_one (PySem.W.kitx_own (cl.get _) cl.hd ha hn Kc hm) I.iU J e (λz=>nomatch z) h
end
structure cM(k:Nat)(A:Around):Prop where
 hd:A.handled=none
 dp:A.depth+3*k+5<recursionLimit
 un:A.units+16*k+200<cLine
theorem cM.mono{j k:Nat}{A:Around}(r:cM k A)(h:j<=k):cM j A:=⟨r.hd,by have:=r.dp;omega,by have:=r.un;omega⟩
theorem cM.deeper{k:Nat}{A:Around}(r:cM (k+1) A)(env:Env):cM k (A.deeper env):=
 ⟨r.hd,by have:=r.dp;show A.depth+1+3*k+5<_;omega,by have:=r.un;show A.units+3+16*k+200<_;omega⟩
theorem vK{A:Around}{C:Addr}{us:List Value}{kw:List (Str×Value)}:(A.under (.builtin "type.__call__" ⟨.ref C::us,kw⟩)).depth=A.depth+1:=by
 first|rfl|simp[Around.under,Code.weight,Code.isCreation,Code.isGuard,Code.isCaller,Code.frames,Code.isFrame,guardIds]
theorem vL{A:Around}{C:Addr}{us:List Value}{kw:List (Str×Value)}:(A.under (.builtin "type.__call__" ⟨.ref C::us,kw⟩)).units=A.units+1:=by
 first|rfl|simp[Around.under,Code.cUnits,Code.frames,Code.isFrame]
theorem cM.make{k:Nat}{A:Around}(r:cM (k+1) A)(C:Addr)(us:List Value)(kw:List (Str×Value)):cM k (A.under (.builtin "type.__call__" ⟨.ref C::us,kw⟩)):=
 ⟨r.hd,by have:=r.dp;rw[vK];omega,by have:=r.un;rw[vL];omega⟩
theorem cM.depth{k:Nat}{A:Around}(r:cM k A):A.depth<recursionLimit:=by have:=r.dp;omega
theorem cM.units{k:Nat}{A:Around}(r:cM k A):A.units+64<cLine:=by have:=r.un;omega
noncomputable def rP:TA:=λ_ H Q=>Q [] H
noncomputable def jH(ta:TE)(tr:TA):TA:=λσ H Q=>ta σ H λx H1=>tr σ H1 λxs H2=>Q (x::xs) H2
section
variable{X:Cx}{e:Expr}{es:List Expr}{te:TE}{t:TA}{pos:Pos}
theorem cc:PA X [] rP:=λ_ _ _ _ H Q I h=>Calls.spliced_nil ⟨[],H,I,.nil,h⟩
theorem aQ(ha:PE X e te)(hr:PA X es t)(hs:starEach (e::es) X.env=(false,eval e X.env)::starEach es X.env:=by rfl):PA X (e::es) (jH te t):=by
 intro pos pins s σ H Q I h
 rw[hs]
 show wpAny _ _ (spliced ((false,eval e X.env)::backTo pos (starEach es X.env))) _ _ s
 refine Calls.spliced_cons (dZ (ha pins s σ H _ I h) λu s1 dS=>?_)
 obtain⟨x,H1,I1,r1,q1⟩:=dS
 exact dZ (hr pos pins s1 σ H1 _ I1 q1) λus s2 ⟨xs,H2,I2,r2,q2⟩=>⟨x::xs,H2,I2,.cons r1 r2,q2⟩
noncomputable def Ll(t:TA):TE:=λσ H Q=>t σ H λxs H1=>xs.length<=sizeLine/\∀p,H1 p=none->Q (.ref p) (upd H1 p (.tup xs))
noncomputable def Lm(t:TA):TE:=λσ H Q=>t σ H λxs H1=>xs.length<=sizeLine/\∀p,H1 p=none->Q (.ref p) (upd H1 p (.lst xs))
theorem FR{x1}(h:PA X es t):PE X (.Tuple es x1 pos) (Ll t):=by
 intro pins s σ H Q I hq
 refine wpAny_Tuple_spliced (dZ (h pos pins s σ H _ I hq) λus s1 ⟨xs,H1,I1,r,z,q⟩=>⟨by rw[<-r.length];exact z,?_⟩)
 have hf:H1 s1.heap.objs.size=none:=I1.eF.fresh (Nat.le_refl _)
 refine⟨.ref s1.heap.objs.size,upd H1 s1.heap.objs.size (.tup xs),I1.laid (t':=s1.toks) (λb u e=>Heap.get?_push_of_some _ e) (Nat.le_refl _) ?_,rfl,q _ hf⟩
 exact⟨⟨z,HR.new⟩,us,r,⟨_,Heap.get?_push_size _ rfl,rfl,_,rfl⟩⟩
theorem zz(h:PA X es t):PE X (.List es pos) (Lm t):=by
 intro pins s σ H Q I hq
 refine wpAny_List_spliced (dZ (h pos pins s σ H _ I hq) λus s1 ⟨xs,H1,I1,r,z,q⟩=>⟨by rw[<-r.length];exact z,?_⟩)
 have hf:H1 s1.heap.objs.size=none:=I1.eF.fresh (Nat.le_refl _)
 refine⟨.ref s1.heap.objs.size,upd H1 s1.heap.objs.size (.lst xs),I1.laid (t':=s1.toks) (λb u e=>Heap.get?_push_of_some _ e) (Nat.le_refl _) ?_,rfl,q _ hf⟩
 exact⟨z,us,0,r,Heap.get?_push_size _ rfl⟩
end
noncomputable abbrev Sp:=List V->Hp->VK->XK->Prop
noncomputable abbrev B3:=List Env->Hp->Shared->XK->Value->Shared->Prop
structure vM(P:Program)(w:World)(K:PySem.W.Frag)(mg:Str->Option Value)(base:Heap)(A:Around)(outer:List Env)(s:Shared)(H:Hp):Prop where
 frames:A.frames=some outer
 mod:Mod K mg base
 bs:∀b o,base.get? b=some o->s.heap.get? b=some o/\H b=none
 bsz:base.objs.size<=s.heap.objs.size
 funs:s.heap.FunFrames base outer
 frf:∀b∈yh outer,H b=none
 eF:oM P w H s.heap
 bare:AllBare s.gens
noncomputable def CE(outer:List Env)(P:Program)(w:World)(H:Hp)(s:Shared)(Q:VK)(u:Value)(s':Shared):Prop:=
 ∃v H',s'.os=s.os/\AllBare s'.gens/\Un (yh outer) [] H H' s.heap s'.heap/\oM P w H' s'.heap/\RelV v u/\Q v H'
noncomputable def CR(CX:B3)(outer:List Env)(P:Program)(w:World)(H:Hp)(s:Shared)(Q:VK)(E:XK)(r:Result)(s':Shared):Prop:=
 match r with
 |.ok (.ret u)=>CE outer P w H s Q u s'
 |.ok _=>False
 |.error e=>CX outer H s E e s'
structure aH(P:Program)(w:World)(K:PySem.W.Frag)(mg:Str->Option Value)(base:Heap)(CX:B3)(k:Nat)(f:Addr)(fd:FuncData)(ps:List Str)(sp:Sp):Prop where
 len:∀vs H Q E,sp vs H Q E->vs.length=ps.length
 run:∀(A:Around) (outer:List Env) (s:Shared) (H:Hp) (args:Args) (us:List Value) (vs:List V) (Q:VK) (E:XK),cM k A->vM P w K mg base A outer s H->BindsTo s fd args (ps.zip us)->Vals vs us->sp vs H Q E->
  codeAny (model P w) A (.call (.ref f) args) (CR CX outer P w H s Q E) s
theorem aH.mono{P:Program}{w:World}{K:PySem.W.Frag}{mg:Str->Option Value}{base:Heap}{CX:B3}{j k:Nat}{f:Addr}{fd:FuncData}{ps:List Str}{sp:Sp}(F:aH P w K mg base CX j f fd ps sp)(h:j<=k):
 aH P w K mg base CX k f fd ps sp:=⟨F.len,λA outer s H args us vs Q E hr=>F.run A outer s H args us vs Q E (hr.mono h)⟩
theorem vM.make{P:Program}{w:World}{K:PySem.W.Frag}{mg:Str->Option Value}{base:Heap}{A:Around}{outer:List Env}{s:Shared}{H:Hp}(e:vM P w K mg base A outer s H)(C:Addr)(us:List Value)(kw:List (Str×Value)):
 vM P w K mg base (A.under (.builtin "type.__call__" ⟨.ref C::us,kw⟩)) outer s H:=⟨by first|exact e.frames|(simpa[Around.under,Code.envs,Code.isFrame,pushEnvs]using e.frames),e.mod,e.bs,e.bsz,e.funs,e.frf,e.eF,e.bare⟩
section
variable{X:Cx}{pins:List (Addr×Obj)}{σ:St}{H:Hp}{s s':Shared}
theorem Inv.IA(I:Inv X pins σ H s):vM X.prog X.w X.K X.mg X.base X.A X.stack s H:=
 ⟨I.ok.frames,I.ok.mod,I.bs,Nat.le_trans I.ok.bsz I.sz,I.stack,I.wZ,I.eF,I.bare⟩
theorem Inv.after{Q:VK}{u:Value}(I:Inv X pins σ H s)(h:CE X.stack X.prog X.w H s Q u s'):EP X pins σ Q u s':=by
 obtain⟨v,H',os,bare,un,eF,r,q⟩:=h
 obtain⟨hh,g,d,t,NK⟩:=s'
 obtain rfl:NK=s.os:=os
 exact⟨v,H',I.call (h':=hh) (g':=g) (d':=d) (t':=t) (ch:=[]) un eF bare (λb z=>absurd z (by simp)),r,q⟩
end
noncomputable def xi(sp:Sp)(dvs:List V)(E:XK)(t:TA):TE:=λσ H Q=>t σ H λvs H1=>sp (vs++dvs) H1 Q E
noncomputable def Eg(C:Addr)(m:Str)(sp:Sp)(dvs:List V)(E:XK)(ta:TE)(t:TA):TE:=λσ H Q=>ta σ H λx H1=>∃a dx fs,x=.ref a/\H1 a=some (.ins C dx fs)/\fs.lookup m=none/\
 t σ H1 λvs H2=>sp (x::(vs++dvs)) H2 Q E
noncomputable def Eh(C:Addr)(sp:Sp)(dvs:List V)(E:XK)(t:TA):TE:=λσ H Q=>t σ H λvs H1=>∀x dx,H1 x=none->H1 dx=none->dx≠x->
 sp (.ref x::(vs++dvs)) (upd (upd H1 dx (.own x)) x (.ins C dx [])) (λv H2=>v=.non/\Q (.ref x) H2) E
noncomputable def Binds(K:PySem.W.Frag)(fd:FuncData)(ps:List Str)(ds:List Value):Prop:=
 ∀(s:Shared) (us:List Value),K.In s.heap->(us++ds).length=ps.length->BindsTo s fd ⟨us,[]⟩ (ps.zip (us++ds))
theorem Binds.all{K:PySem.W.Frag}{fd:FuncData}{ps:List Str}(h:∀us:List Value,us.length=ps.length->bindArgs fd ⟨us,[]⟩=pure (ps.zip us)):Binds K fd ps []:=λs us _ hl=>by
 rw[List.append_nil]at hl⊢
 exact .of_eq (h us hl)
noncomputable def Passes(CX:B3)(X:Cx)(E:XK):Prop:=∀(pins:List (Addr×Obj)) (σ:St) (H:Hp) (s:Shared) (e:Value) (s':Shared),Inv X pins σ H s->CX X.stack H s E e s'->X.xe e s'
section
variable{X:Cx}{CX:B3}{k:Nat}{f C:Addr}{fd:FuncData}{ps:List Str}{sp:Sp}{dvs:List V}{ds:List Value}{E:XK}{x m:Str}{p pos apos:Pos}{e o:Expr}{es:List Expr}{ta:TE}{t:TA}
theorem nu{pins:List (Addr×Obj)}{σ:St}{H:Hp}{s:Shared}{Q:VK}{us:List Value}{vs:List V}(F:aH X.prog X.w X.K X.mg X.base CX k f fd ps sp)(hr:cM k X.A)(hb:Binds X.K fd ps ds)(hd:Vals dvs ds)(hx:Passes CX X E)
  (I:Inv X pins σ H s)(r:Vals vs us)(h:sp (vs++dvs) H Q E):wpAny (model X.prog X.w) X.A (call (.ref f) us) (EP X pins σ Q) X.xe s:=by
 have r2:Vals (vs++dvs) (us++ds):=r.append hd
 have hl:(us++ds).length=ps.length:=by rw[<-r2.length];exact F.len _ _ _ _ h
 refine wpAny_call (codeAny_mono (F.run X.A X.stack s H ⟨us,[]⟩ (us++ds) (vs++dvs) Q E hr I.IA (hb s us I.iU hl) r2 h) λr s' hq=>?_)
 cases r with
 |error e=>exact hx pins σ H s e s' I hq
 |ok fl=>
  cases fl with
  |ret u=>exact I.after hq
  |next=>exact False.elim hq
  |brk=>exact False.elim hq
  |cont=>exact False.elim hq
theorem rQ(F:aH X.prog X.w X.K X.mg X.base CX k f fd ps sp)(hr:cM k X.A)(hg:Gl X x)(hm:X.mg x=some (.ref f))(hk:PySem.W.keepIn X.K (.ref f)=true)(hb:Binds X.K fd ps ds)(hd:Vals dvs ds)(hx:Passes CX X E)
  (ha:PA X (e::es) t)(oG:(x==("__debug__" :Str))=false:=by decide)(he:starEach (e::es) X.env=(false,eval e X.env)::starEach es X.env:=by rfl)(hpl:(backTo pos (starEach es X.env)).any (·.1)=false:=by rfl):
  PE X (.Call (.Name x p) (e::es) [] pos) (xi sp dvs E t):=by
 intro pins s σ H Q I h
 refine wpAny_Call_Name_kw (oO I hg hm ?_ oG)
 refine PySem.W.callWith_K (h₀:=X.base) I.ok.mod.kin hk (dZ (ha pos pins s σ H _ I h) λus s1 ⟨vs,H1,I1,r,q⟩=>⟨I1.iU,?_⟩) he hpl
 exact nu F hr hb hd hx I1 r q
theorem Cw{pl:Sem Bool}(he:PE X o ta)(c:qD X.K C)(hm:Meth X.K C m f)(F:aH X.prog X.w X.K X.mg X.base CX k f fd ps sp)(hr:cM k X.A)(hb:Binds X.K fd ps ds)(hd:Vals dvs ds)(hx:Passes CX X E)(ha:PA X (e::es) t)
  (ng:starEach (e::es) X.env=(false,eval e X.env)::starEach es X.env:=by rfl)(hpl:(backTo pos (starEach es X.env)).any (·.1)=false:=by rfl)
  (ht:eval (.Call (.Attribute o m apos) (e::es) [] pos) X.env=(do
    let ov<-eval o X.env
    standAt apos.atName
    let(f,first)<-holding [ov] (getMethod ov m pl)
    callWith pos f first (backTo pos (starEach (e::es) X.env)) (backToKw pos (keywordEach [] X.env))):=by rfl):
  PE X (.Call (.Attribute o m apos) (e::es) [] pos) (Eg C m sp dvs E ta t):=by
 intro pins s σ H Q I h
 refine PySem.W.methodCall_KW (pl:=pl) (dZ (he pins s σ H _ I h) λu s1 dS=>?_) ht
 obtain⟨x,H1,I1,rx,a,dx,fs,ex,ea,l,q⟩:=dS
 subst ex
 obtain rfl:u=Value.ref a:=rx
 refine iY I1 ea c hm l ?_
 refine PySem.W.callWith_K (first:=[.ref a]) (h₀:=X.base) I.ok.mod.kin hm.kp (dZ (ha pos pins s1 σ H1 _ I1 q) λus s2 ⟨vs,H2,I2,r,q2⟩=>⟨I2.iU,?_⟩) ng hpl
 exact nu (us:=.ref a::us) (vs:=.ref a::vs) F hr hb hd hx I2 (.cons rfl r) q2
theorem pA{pl:Sem Bool}(he:PE X o ta)(c:qD X.K C)(hm:Meth X.K C m f)(F:aH X.prog X.w X.K X.mg X.base CX k f fd ps sp)(hr:cM k X.A)(hb:Binds X.K fd ps ds)(hd:Vals dvs ds)(hx:Passes CX X E)
  (ht:eval (.Call (.Attribute o m apos) [] [] pos) X.env=(do
    let ov<-eval o X.env
    standAt apos.atName
    let(f,first)<-holding [ov] (getMethod ov m pl)
    callWith pos f first (backTo pos (starEach [] X.env)) (backToKw pos (keywordEach [] X.env))):=by rfl):
  PE X (.Call (.Attribute o m apos) [] [] pos) (Eg C m sp dvs E ta rP):=by
 intro pins s σ H Q I h
 refine PySem.W.methodCall_KW (pl:=pl) (dZ (he pins s σ H _ I h) λu s1 dS=>?_) ht
 obtain⟨x,H1,I1,rx,a,dx,fs,ex,ea,l,q⟩:=dS
 subst ex
 obtain rfl:u=Value.ref a:=rx
 refine iY I1 ea c hm l ?_
 exact PySem.W.callWith_K0 (first:=[.ref a]) I1.iU hm.kp (nu (us:=[.ref a]) (vs:=[.ref a]) F hr hb hd hx I1 (.cons rfl .nil) q)
structure Mk(K:PySem.W.Frag)(C f:Addr):Prop where
 makes:PySem.W.makesIn K C=true
 init:PySem.W.findIn K (.ref C) "__init__" =some (some (.ref f))
 fn:PySem.W.isFn K (.ref f)=true
 kp:PySem.W.keepIn K (.ref C)=true
theorem zA{pins:List (Addr×Obj)}{σ:St}{H:Hp}{s:Shared}{Q:VK}{us:List Value}{vs:List V}(M:Mk X.K C f)(F:aH X.prog X.w X.K X.mg X.base CX k f fd ps sp)(hr:cM (k+1) X.A)(hb:Binds X.K fd ps ds)(hd:Vals dvs ds)
  (hx:Passes CX X E)(I:Inv X pins σ H s)(r:Vals vs us)
  (h:∀x dx,H x=none->H dx=none->dx≠x->sp (.ref x::(vs++dvs)) (upd (upd H dx (.own x)) x (.ins C dx [])) (λv H2=>v=.non/\Q (.ref x) H2) E):
  wpAny (model X.prog X.w) X.A (call (.ref C) us) (EP X pins σ Q) X.xe s:=by
 have hq:=h (s.heap.objs.size+1) s.heap.objs.size (I.eF.fresh (Nat.le_succ _)) (I.eF.fresh (Nat.le_refl _)) (Nat.ne_of_lt (Nat.lt_succ_self _))
 have I2:=Inv.made (C:=C) I
 have r2:Vals (V.ref (s.heap.objs.size+1)::(vs++dvs)) (Value.ref (s.heap.objs.size+1)::(us++ds)):=.cons rfl (r.append hd)
 have hl:(Value.ref (s.heap.objs.size+1)::us++ds).length=ps.length:=by
  have e:=r2.length
  rw[F.len _ _ _ _ hq]at e
  exact e.symm
 refine wpAny_call (zy (f:=f) I.iU M.makes M.init (beq_iff_eq.mp M.fn) (codeAny_mono (F.run _ X.stack _ _ ⟨Value.ref (s.heap.objs.size+1)::us,[]⟩ (Value.ref (s.heap.objs.size+1)::(us++ds)) _ _ E (hr.make C us [])
  (I2.IA.make C us []) (hb _ (Value.ref (s.heap.objs.size+1)::us) I2.iU hl) r2 hq) λr s' IB=>?_))
 cases r with
 |error e=>exact hx pins σ _ _ e s' I2 IB
 |ok fl=>
  cases fl with
  |ret u=>
   obtain⟨v,H',I3,rv,ev,q3⟩:=I2.after IB
   subst ev
   exact⟨rv,⟨V.ref (s.heap.objs.size+1),H',I3,rfl,q3⟩⟩
  |next=>exact False.elim IB
  |brk=>exact False.elim IB
  |cont=>exact False.elim IB
theorem ml(M:Mk X.K C f)(F:aH X.prog X.w X.K X.mg X.base CX k f fd ps sp)(hr:cM (k+1) X.A)(hg:Gl X x)(hm:X.mg x=some (.ref C))(hb:Binds X.K fd ps ds)(hd:Vals dvs ds)(hx:Passes CX X E)
  (ha:PA X (e::es) t)(oG:(x==("__debug__" :Str))=false:=by decide)(he:starEach (e::es) X.env=(false,eval e X.env)::starEach es X.env:=by rfl)(hpl:(backTo pos (starEach es X.env)).any (·.1)=false:=by rfl):
  PE X (.Call (.Name x p) (e::es) [] pos) (Eh C sp dvs E t):=by
 intro pins s σ H Q I h
 refine wpAny_Call_Name_kw (oO I hg hm ?_ oG)
 refine PySem.W.callWith_K (h₀:=X.base) I.ok.mod.kin M.kp (dZ (ha pos pins s σ H _ I h) λus s1 ⟨vs,H1,I1,r,q⟩=>⟨I1.iU,?_⟩) he hpl
 exact zA M F hr hb hd hx I1 r q
end
structure aJ(N P:List Str)(sc:Scope):Prop where
 kind:sc.kind=.function
 co:sc.isCoroutine=false
 gen:sc.isGenerator=false
 nd:N.Nodup
 pre:N.take P.length=P
 par:∀x∈P,sc.names.lookup x=some .local\/sc.names.lookup x=some .cell
 nofree:∀y∈sc.names,y.2≠.free
theorem qU{kindOf:Str->Option NameKind}{x:Str}:∀{binds:List (Str×Value)} {m:Str->Option Value},(∀v,(x,v)∉binds)->bindL kindOf binds m x=m x
 |[],_,_=>rfl
 |(n,v)::r,m,h=>by
  unfold bindL
  rw[qU λw hw=>h w (List.mem_cons_of_mem _ hw)]
  split
  ·have:x≠n:=by rintro rfl;exact h v List.mem_cons_self
   simp[this]
  ·rfl
theorem qV{kindOf:Str->Option NameKind}{x:Str}:∀{binds:List (Str×Value)} {m:Str->Option Value},(∀v,(x,v)∉binds)->bindC kindOf binds m x=m x
 |[],_,_=>rfl
 |(n,v)::r,m,h=>by
  unfold bindC
  rw[qV λw hw=>h w (List.mem_cons_of_mem _ hw)]
  split
  ·rfl
  ·have:x≠n:=by rintro rfl;exact h v List.mem_cons_self
   simp[this]
theorem qW{kindOf:Str->Option NameKind}{x:Str}{v:Value}:∀{P:List Str} {vs:List Value} {i:Nat} {m:Str->Option Value},P.Nodup->P[i]?=some x->vs[i]?=some v->kindOf x=some .local->
  bindL kindOf (P.zip vs) m x=some v
 |[],_,_,_,_,h,_,_=>by simp at h
 |_::_,[],_,_,_,_,h,_=>by simp at h
 |p::P,w::vs,0,m,nd,h1,h2,hk=>by
  simp at h1 h2;subst h1;subst h2
  show bindL kindOf ((p,w)::P.zip vs) m p=_
  unfold bindL
  rw[qU λv hv=>(List.nodup_cons.mp nd).1 (List.of_mem_zip hv).1,if_pos hk]
  simp
 |p::P,w::vs,i+1,m,nd,h1,h2,hk=>by
  show bindL kindOf ((p,w)::P.zip vs) m x=_
  unfold bindL
  exact qW (i:=i) (List.nodup_cons.mp nd).2 (by simpa using h1) (by simpa using h2) hk
theorem qX{kindOf:Str->Option NameKind}{x:Str}{v:Value}:∀{P:List Str} {vs:List Value} {i:Nat} {m:Str->Option Value},P.Nodup->P[i]?=some x->vs[i]?=some v->kindOf x≠some .local->
  bindC kindOf (P.zip vs) m x=some v
 |[],_,_,_,_,h,_,_=>by simp at h
 |_::_,[],_,_,_,_,h,_=>by simp at h
 |p::P,w::vs,0,m,nd,h1,h2,hk=>by
  simp at h1 h2;subst h1;subst h2
  show bindC kindOf ((p,w)::P.zip vs) m p=_
  unfold bindC
  rw[qV λv hv=>(List.nodup_cons.mp nd).1 (List.of_mem_zip hv).1,if_neg hk]
  simp
 |p::P,w::vs,i+1,m,nd,h1,h2,hk=>by
  show bindC kindOf ((p,w)::P.zip vs) m x=_
  unfold bindC
  exact qX (i:=i) (List.nodup_cons.mp nd).2 (by simpa using h1) (by simpa using h2) hk
noncomputable def start(N:List Str)(vs:List V):St:=vs.map some++List.replicate (N.length-vs.length) none
noncomputable def rR(CX:B3)(P:Program)(w:World)(K:PySem.W.Frag)(mg:Str->Option Value)(base:Heap)(N:List Str)(qual:Str)(scope:Scope)(f:Addr)(cd:Value)(A:Around)(outer:List Env)(s:Shared)(H:Hp)(E:XK):Cx where
 prog:=P
 w:=w
 K:=K
 mg:=mg
 base:=base
 A:=A.deeper (envOfC qual scope s.heap.objs.size f cd)
 N:=N
 s₀:=s
 H₀:=H
 env:=envOfC qual scope s.heap.objs.size f cd
 outer:=outer
 stack:=envOfC qual scope s.heap.objs.size f cd::outer
 ex:=[]
 calm:=true
 fn:=λ_=>true
 pn:=[]
 xe:=λe s'=>wpAny (model P w) (A.deeper (envOfC qual scope s.heap.objs.size f cd)) (leaving (envOfC qual scope s.heap.objs.size f cd) e) (λ_ IC=>CX outer H s E e IC) (λe' IC=>CX outer H s E e' IC) s'
theorem ua{sc:Scope}{n:Nat}{x:Str}(h:sc.names.lookup x=some .cell):∃c,(cellsFrom n sc.names []).lookup x=some c:=by
 have q:=PySem.W.cellsFrom_some sc.names n [] (.inl h)
 exact Option.isSome_iff_exists.mp q
theorem yo{CX:B3}{P:Program}{w:World}{K:PySem.W.Frag}{mg:Str->Option Value}{base:Heap}{N ps:List Str}{qual:Str}{scope:Scope}{f:Addr}{cd:Value}{A:Around}{outer:List Env}{s s1:Shared}{H:Hp}{E:XK}{us:List Value}{vs:List V}
  (S:aJ N ps scope)(hd:A.handled=none)(e0:vM P w K mg base A outer s H)(hl:vs.length=ps.length)(r:Vals vs us)
  (x:InCallC s s.heap.objs.size (bindL (envOfC qual scope s.heap.objs.size f cd).kindOf (ps.zip us) λ_=>none) (cellsFrom (s.heap.objs.size+1) scope.names []) (bindC (envOfC qual scope s.heap.objs.size f cd).kindOf (ps.zip us) λ_=>none) s1):
  Inv (rR CX P w K mg base N qual scope f cd A outer s H E) [] (start N vs) H s1:=by
 have hpl:ps.length<=N.length:=by have:=congrArg List.length S.pre;rw[List.length_take]at this;omega
 obtain⟨h1,tk,rfl,hk⟩:=x.done
 have ID:∀b:Addr,b∉(rR CX P w K mg base N qual scope f cd A outer s H E).ex:=λb z=>absurd (show b∈([]:List Addr)from z) (by simp)
 refine⟨⟨e0.mod,S.kind,rfl,rfl,Nat.le_refl _,λy z c h1 h2=>?_,λy hy=>?_,λy c _ h=>?_,λ_=>hd,Around.frames_deeper e0.frames,.inr ⟨rfl,rfl⟩,λb z=>absurd z (ID b),e0.bs,e0.bsz,λb _ _=>ID b,λb z=>absurd z (ID b),e0.funs,e0.frf⟩,
  rfl,e0.bare,Un.kept hk,⟨_,x.toInCall.ns,λi y v h1 h2 h3=>?_⟩,λy c h=>⟨_,x.cell y c h⟩,e0.eF.fresh (Nat.le_refl _),λy c h=>?_,λp hp=>absurd (show p∈([]:List (Addr×Obj))from hp) (by simp),e0.eF.kept hk,?_⟩
 ·exact name_of_addr x.apart (PySem.mem_of_lookup h1) (PySem.mem_of_lookup h2)
 ·have hy:scope.names.lookup y=some .cell\/scope.names.lookup y=some .free:=hy
  rcases hy with hy|hy
  ·exact ua hy
  ·exact absurd rfl (S.nofree _ (PySem.mem_of_lookup hy))
 ·exact Nat.le_of_lt (x.above y c (PySem.mem_of_lookup h))
 ·have hi:i<vs.length:=by
    unfold start at h2
    by_cases hi:i<vs.length
    ·exact hi
    ·rw[List.getElem?_append_right (by simpa using hi)]at h2
     rw[List.getElem?_replicate]at h2
     split at h2<;>cases h2
  have ha:vs[i]?=some v:=by
   unfold start at h2
   rw[List.getElem?_append_left (by simpa using hi),List.getElem?_map]at h2
   cases e:vs[i]? with
   |none=>rw[e]at h2;cases h2
   |some a=>rw[e]at h2;cases h2;rfl
  obtain⟨u,hu,rv⟩:=r.get ha
  have hp:ps[i]?=some y:=by
   rw[<-S.pre,List.getElem?_take_of_lt (by omega)];exact h1
  have ML:ps.Nodup:=by rw[<-S.pre];exact S.nd.sublist (List.take_sublist _ _)
  refine⟨u,rv,?_⟩
  rcases S.par y (List.mem_of_getElem? hp)with k|k
  ·exact .inl ⟨k,qW ML hp hu k⟩
  ·obtain⟨c,e⟩:=ua (n:=s.heap.objs.size+1) k
   refine .inr ⟨.inl k,c,e,?_⟩
   have q:=x.cell y c e
   rw[qX ML hp hu (by show scope.names.lookup y≠_;rw[k];decide)]at q
   exact q
 ·exact e0.eF.fresh (Nat.le_of_lt (x.above y c (PySem.mem_of_lookup h)))
 ·unfold start
  show _=N.length
  rw[List.length_append,List.length_map,List.length_replicate]
  omega
theorem IE{CX:B3}{P:Program}{w:World}{K:PySem.W.Frag}{mg:Str->Option Value}{base:Heap}{k:Nat}{f:Addr}{name qual:Str}{params:Arguments}{body:List Stmt}{scope:Scope}{dV kV doc pm dO ct oc:Value}{an od:Option Addr}
  {Ei:Array (Option Value)}{N ps:List Str}{sp:Sp}(lk:K.lookup f=some ⟨oc,od,.func (PySem.W.fnOf name qual params body scope dV kV doc pm an dO ct),Ei⟩)(nc:PySem.W.codeIn K dO qual=true)(S:aJ N ps scope)
  (len:∀vs H Q E,sp vs H Q E->vs.length=ps.length)
  (zB:∀(A:Around) (outer:List Env) (s:Shared) (H:Hp) (vs:List V) (Q:VK) (E:XK),cM k (A.deeper (envOfC qual scope s.heap.objs.size f dO))->sp vs H Q E->
    ∃t,vC (rR CX P w K mg base N qual scope f dO A outer s H E) body t/\t {nx:=λ_ H'=>Q .non H',rt:=Q} (start N vs) H):
  aH P w K mg base CX (k+1) f (PySem.W.fnOf name qual params body scope dV kV doc pm an dO ct) ps sp:=by
 refine⟨len,λA outer s H args us vs Q E hr e0 hb r Hz=>?_⟩
 have hl:=len _ _ _ _ Hz
 have KX:K.In s.heap:=e0.mod.kin.keeps λb o e=>(e0.bs b o e).1
 have lim:s.heap.NoLimit:=e0.mod.nolimit.keeps λb o e=>(e0.bs b o e).1
 have IF:∀y∈ps.zip us,scope.names.lookup y.1=some .local\/(scope.names.lookup y.1=some .cell/\((cellsFrom (s.heap.objs.size+1) scope.names []).lookup y.1).isSome=true):=λ⟨n,v⟩ hy=>by
  rcases S.par n (List.of_mem_zip hy).1 with q|q
  ·exact .inl q
  ·exact .inr ⟨q,PySem.W.cellsFrom_some _ _ _ (.inl q)⟩
 refine codeAny_call_function hr.depth (KX _ _ lk) rfl S.co S.gen rfl (PySem.W.codeRec_of KX nc) (hb _ _ _ _ ?_)
 refine wpAny_newFunctionEnv_cells S.kind IF λenv he s1 x=>?_
 subst he
 refine⟨lim.keeps x.toInCall.keep,codeAny_func ?_⟩
 obtain⟨t,ht,hq⟩:=zB A outer s H vs Q E (hr.deeper _) Hz
 have I:Inv (rR CX P w K mg base N qual scope f dO A outer s H E) [] (start N vs) H s1:=yo S hr.hd e0 hl r x
 refine wpAny_mono (ht [] s1 (start N vs) H _ I hq) (λfl s' hs=>?_) λe s' hs=>hs
 have fin:∀{σ':St} {H':Hp} {v:V} {u:Value},Inv (rR CX P w K mg base N qual scope f dO A outer s H E) [] σ' H' s'->RelV v u->Q v H'->CE outer P w H s Q u s':=
  λ{σ' H' v u} J rv q=>⟨v,H',J.os,J.bare,J.base,J.eF,rv,q⟩
 cases fl with
 |ret u=>
  obtain⟨v,σ',H',J,rv,q⟩:=hs
  exact fin J rv q
 |next=>
  obtain⟨σ',H',J,q⟩:=hs
  exact fin (v:=V.non) (u:=Value.none) J rfl q
 |brk=>
  obtain⟨_,_,_,q⟩:=hs
  exact False.elim q
 |cont=>
  obtain⟨_,_,_,q⟩:=hs
  exact False.elim q
section
variable{X:Cx}{x:Str}{p pos:Pos}{e:Expr}{es:List Expr}{t:TA}{id T:String}{r:List V->Hp->VK->Prop}
noncomputable def Kd(r:List V->Hp->VK->Prop)(t:TA):TE:=λσ H Q=>t σ H λvs H1=>r vs H1 Q
theorem jI(hc:gE X (.builtin id) r)(hg:Gl X x)(hm:X.mg x=none)(hv:bootBuiltins x=some (.builtin id))(ha:PA X (e::es) t)(hn:x≠ "__name__" :=by decide)(oG:(x==("__debug__" :Str))=false:=by decide)
  (he:starEach (e::es) X.env=(false,eval e X.env)::starEach es X.env:=by rfl)(hpl:(backTo pos (starEach es X.env)).any (·.1)=false:=by rfl):PE X (.Call (.Name x p) (e::es) [] pos) (Kd r t):=by
 intro pins s σ H Q I h
 refine wpAny_Call_Name_kw (pf I hg hm hv ?_ hn oG)
 exact PyProof.Rows.callWith_builtin1 (dZ (ha pos pins s σ H _ I h) λus s1 ⟨vs,H1,I1,r1,q1⟩=>hc pins s1 σ H1 vs us Q I1 r1 q1) he hpl
theorem iO(hc:gE X (.type T) r)(hg:Gl X x)(hm:X.mg x=none)(hv:bootBuiltins x=some (.type T))(ha:PA X (e::es) t)(hn:x≠ "__name__" :=by decide)(oG:(x==("__debug__" :Str))=false:=by decide)
  (he:starEach (e::es) X.env=(false,eval e X.env)::starEach es X.env:=by rfl)(hpl:(backTo pos (starEach es X.env)).any (·.1)=false:=by rfl):PE X (.Call (.Name x p) (e::es) [] pos) (Kd r t):=by
 intro pins s σ H Q I h
 refine wpAny_Call_Name_kw (pf I hg hm hv ?_ hn oG)
 exact PyProof.Rows.callWith_type1 (dZ (ha pos pins s σ H _ I h) λus s1 ⟨vs,H1,I1,r1,q1⟩=>hc pins s1 σ H1 vs us Q I1 r1 q1) he hpl
end
end L2
namespace HT
open PySem PyProof.Rows
section
variable{prog:Program}{w:World}{A:Around}{E:Value->Shared->Prop}{s:Shared}
noncomputable def vD(n d:Nat):Option Int->Nat
 |none=>d
 |some v=>if v<0 then(v+(n:Int)).toNat else min v.toNat n
end
end HT
namespace L2
open PySem PySem.Spec PyProof.Rows
noncomputable abbrev TO:=St->Hp->(Option Int->Hp->Prop)->Prop
noncomputable def PO(X:Cx)(e:Option Expr)(t:TO):Prop:=
 ∀(pins:List (Addr×Obj)) (s:Shared) (σ:St) (H:Hp) (Q:Option Int->Hp->Prop),Inv X pins σ H s->t σ H Q->
  wpAny (model X.prog X.w) X.A (evalPart e X.env) (λu s'=>∃o H',Inv X pins σ H' s'/\IsPart u o/\Q o H') X.xe s
noncomputable def Cy:TO:=λ_ H Q=>Q none H
noncomputable def IG(t:TE):TO:=λσ H Q=>t σ H λx H1=>∃i,x=.int i/\Q (some i) H1
theorem intsAre_of{ns:List Int}:∀{us:List Value},Vals (ns.map V.int) us->IntsAre us ns:=by
 induction ns with
 |nil=>intro us r;rw[List.map_nil]at r;cases r;exact .nil
 |cons n ns ih=>
  intro us r
  rw[List.map_cons]at r
  cases r with
  |cons r1 r2=>
   obtain⟨t,e⟩:=r1
   subst e
   exact .cons n t (ih r2)
section
variable{X:Cx}{e:Expr}{te:TE}{lo hi:Option Expr}{tl th:TO}{pos p2:Pos}
theorem Cz:PO X none Cy:=by
 intro pins s σ H Q I h
 rw[evalPart_none]
 exact wpAny_pure ⟨none,H,I,.none,h⟩
theorem CA(h:PE X e te):PO X (some e) (IG te):=by
 intro pins s σ H Q I hw
 rw[evalPart_some]
 refine dZ (h pins s σ H _ I hw) λu s1 dS=>?_
 obtain⟨x,H1,I1,r1,q1⟩:=dS
 obtain⟨i,rfl,q⟩:=q1
 obtain⟨t,rfl⟩:=r1
 exact⟨some i,H1,I1,.int i t,q⟩
noncomputable def FU(X:Cx)(r:V->Option Int->Option Int->Hp->VK->Prop):Prop:=
 ∀(pins:List (Addr×Obj)) (s:Shared) (σ:St) (H:Hp) (x:V) (v vl vu:Value) (lo hi:Option Int) (sl:Addr) (Q:VK),Inv X pins σ H s->RelV x v->s.heap.IsSliceOf sl vl vu .none->IsPart vl lo->IsPart vu hi->r x lo hi H Q->
  ∃T id,typeLookup (.type T) "__getitem__" =pure (some (.builtin id))/\s.TypeIs v T/\wpAny (model X.prog X.w) X.A (getItem v (.ref sl)) (EP X pins σ Q) X.xe s
theorem FU.or{r r':V->Option Int->Option Int->Hp->VK->Prop}(h:FU X r)(h':FU X r'):FU X (λx lo hi H Q=>r x lo hi H Q\/r' x lo hi H Q):=by
 intro pins s σ H x v vl vu lo hi sl Q I rx hs pl pu q
 rcases q with q|q
 ·exact h pins s σ H x v vl vu lo hi sl Q I rx hs pl pu q
 ·exact h' pins s σ H x v vl vu lo hi sl Q I rx hs pl pu q
noncomputable def NL(r:V->Option Int->Option Int->Hp->VK->Prop)(te:TE)(tl th:TO):TE:=λσ H Q=>te σ H λx H1=>tl σ H1 λl H2=>th σ H2 λu H3=>r x l u H3 Q
theorem ub{r:V->Option Int->Option Int->Hp->VK->Prop}(hr:FU X r)(he:PE X e te)(hl:PO X lo tl)(hu:PO X hi th):PE X (.Subscript e (.Slice lo hi none p2) pos) (NL r te tl th):=by
 intro pins s σ H Q I h
 refine Subscript_ (dZ (he pins s σ H _ I h) λv s1 dS=>?_)
 obtain⟨x,H1,I1,r1,q1⟩:=dS
 refine wpAny_Slice (dZ (hl pins s1 σ H1 _ I1 q1) λvl s2 ⟨l,H2,I2,pl,q2⟩=>dZ (hu pins s2 σ H2 _ I2 q2) λvu s3 dS=>?_)
 obtain⟨u,H3,I3,pu,q3⟩:=dS
 rw[evalPart_none]
 refine wpAny_pure ?_
 have I4:Inv X pins σ H3 {s3 with heap:=s3.heap.push {cls:=.type "slice",data:=.fields #[vl,vu,.none]}}:=I3.kept (t':=s3.toks) λb ob q=>Heap.get?_push_of_some _ q
 obtain⟨T,id,hT,ht,hg⟩:=hr pins {s3 with heap:=s3.heap.push {cls:=.type "slice",data:=.fields #[vl,vu,.none]}} σ H3 x v vl vu l u s3.heap.objs.size Q I4 r1 (Heap.IsSliceOf.new ..) pl pu q3
 show wpAny (model X.prog X.w) X.A (subscriptTail e (.Slice lo hi none p2) v (.ref s3.heap.objs.size)) (EP X pins σ Q) X.xe {s3 with heap:=s3.heap.push {cls:=.type "slice",data:=.fields #[vl,vu,.none]}}
 exact tail_any (ops:=[.ref s3.heap.objs.size,v]) ht hT hg (by with_unfolding_all rfl)
noncomputable def yp(xs:List V)(lo hi:Option Int):List V:=(xs.drop (HT.vD xs.length 0 lo)).take (HT.vD xs.length xs.length hi-HT.vD xs.length 0 lo)
theorem uc(xs:List V)(lo hi:Option Int):(yp xs lo hi).length<=xs.length:=by
 unfold yp
 rw[List.length_take,List.length_drop]
 omega
end
noncomputable def Ke(n:Nat)(i:Int):Option Nat:=if 0<=i then(if i<n then some i.toNat else none)else if-(n:Int)<=i then some (i+n).toNat else none
noncomputable def FV{α:Type}(xs:List α)(i:Int):Option α:=(Ke xs.length i).bind λj=>xs[j]?
theorem CB{n:Nat}{i:Int}{j:Nat}(h:Ke n i=some j):seqIndex? i n=some j/\j<n/\-(n:Int)<=i/\i<n:=by
 unfold Ke at h
 by_cases h0:0<=i
 ·rw[if_pos h0]at h
  by_cases h1:i<n
  ·rw[if_pos h1]at h
   have e:i.toNat=j:=Option.some.inj h
   exact⟨by rw[seqIndex_of h0 h1,e],by omega,by omega,h1⟩
  ·rw[if_neg h1]at h;cases h
 ·rw[if_neg h0]at h
  by_cases h1:-(n:Int)<=i
  ·rw[if_pos h1]at h
   have e:(i+n).toNat=j:=Option.some.inj h
   exact⟨by rw[seqIndex_neg (by omega) h1,e],by omega,h1,by omega⟩
  ·rw[if_neg h1]at h;cases h
theorem rS{α:Type}{xs:List α}{i:Int}{v:α}(h:FV xs i=some v):∃j,seqIndex? i xs.length=some j/\xs[j]?=some v/\j<xs.length/\-(xs.length:Int)<=i/\i<xs.length:=by
 unfold FV at h
 cases e:Ke xs.length i with
 |none=>rw[e]at h;cases h
 |some j=>
  rw[e]at h
  obtain⟨h1,h2,h3,h4⟩:=CB e
  exact⟨j,h1,h,h2,h3,h4⟩
noncomputable def xj(b:Expr):Prop:=∀o i,subscripted b false o i=operate [o,i] (getItem o i)
noncomputable def CD(X:Cx)(r:R2):Prop:=
 ∀(value slice:Expr) (pins:List (Addr×Obj)) (s:Shared) (σ:St) (H:Hp) (x y:V) (v u:Value) (Q:VK),Inv X pins σ H s->RelV x v->RelV y u->r x y H Q->
  subscripted slice false v u=operate [v,u] (getItem v u)->wpAny (model X.prog X.w) X.A (subscriptTail value slice v u) (EP X pins σ Q) X.xe s
noncomputable def IH(X:Cx)(id:String)(r:V->List V->Hp->VK->Prop):Prop:=
 ∀(pins:List (Addr×Obj)) (s:Shared) (σ:St) (H:Hp) (x:V) (xs:List V) (v:Value) (us:List Value) (Q:VK),Inv X pins σ H s->RelV x v->Vals xs us->r x xs H Q->
  wpAny (model X.prog X.w) X.A (call (.builtin id) (v::us)) (EP X pins σ Q) X.xe s
section
variable{X:Cx}{a b:Expr}{ta tb:TE}{pos:Pos}
theorem CD.or{r r':R2}(h:CD X r)(h':CD X r'):CD X (λx y H Q=>r x y H Q\/r' x y H Q):=by
 intro value slice pins s σ H x y v u Q I rx ry q hs
 rcases q with q|q
 ·exact h value slice pins s σ H x y v u Q I rx ry q hs
 ·exact h' value slice pins s σ H x y v u Q I rx ry q hs
theorem II{r:R2}(hr:CD X r)(ha:PE X a ta)(hb:PE X b tb)(hs:xj b):PE X (.Subscript a b pos) (Il r ta tb):=by
 intro pins s σ H Q I h
 exact Subscript_ (Fx ha hb I h λv u s2 x y H2 I2 rx ry q=>hr a b pins s2 σ H2 x y v u Q I2 rx ry q (hs _ _))
noncomputable def IJ(K:PySem.W.Frag):R2:=λx y H Q=>∃p xs i v,x=.ref p/\y=.int i/\k8 K H p xs/\FV xs i=some v/\Q v H
noncomputable def IK(K:PySem.W.Frag):R2:=λx y H Q=>∃p xs i v,x=.ref p/\y=.int i/\k9 K H p xs/\FV xs i=some v/\Q v H
noncomputable def IL:R2:=λx y H Q=>∃z i c,x=.str z/\y=.int i/\z.length<=sizeLine/\FV z.cps.toList i=some c/\Q (.str ⟨#[c]⟩) H
theorem CF:CD X (IJ X.K):=by
 intro value slice pins s σ H x y v u Q I rx ry h hs
 obtain⟨p,xs,i,z,rfl,rfl,hq,he,q⟩:=h
 cases rx
 obtain⟨t,rfl⟩:=ry
 obtain⟨its,r,pl,hz⟩:=I.list hq
 obtain⟨j,h1,h2,h3,h4,h5⟩:=rS he
 obtain⟨w,ew,Ln⟩:=r.get h2
 have hl:=r.length
 have hn:=pj
 have fin:EP X pins σ Q w s:=⟨z,H,I,Ln,q⟩
 by_cases h0:0<=i
 ·have hj:i.toNat=j:=by
    rw[seqIndex_of h0 h5]at h1
    exact Option.some.inj h1
  exact item_listR pl.isList h0 (by omega) (by rw[hj];simpa using ew) fin hs
 ·have hj:(i+(its.toArray.size:Int)).toNat=j:=by
    rw[seqIndex_neg (by omega) h4]at h1
    rw[List.size_toArray,<-hl]
    exact Option.some.inj h1
  exact subscriptTail_builtinR (x:=w) pl.isList.typeIs slot_list_getitem.lookup
   (wpAny_getItem_list_neg (Q:=λr s'=>r=w/\EP X pins σ Q r s') pl.isList (by omega) (by rw[List.size_toArray]<;>omega) (by omega) (by rw[hj];simpa using ew) ⟨rfl,fin⟩) hs
theorem FW:CD X (IK X.K):=by
 intro value slice pins s σ H x y v u Q I rx ry h hs
 obtain⟨p,xs,i,z,rfl,rfl,hq,he,q⟩:=h
 cases rx
 obtain⟨t,rfl⟩:=ry
 obtain⟨its,r,pl,hz⟩:=I.tuple hq
 obtain⟨j,h1,h2,h3,h4,h5⟩:=rS he
 obtain⟨w,ew,Ln⟩:=r.get h2
 have hl:=r.length
 have hn:=pj
 have fin:EP X pins σ Q w s:=⟨z,H,I,Ln,q⟩
 exact subscriptTail_builtinR (x:=w) pl.typeIs slot_tuple_getitem.lookup
  (getItem_tuple (j:=j) (Q:=λr s'=>r=w/\EP X pins σ Q r s') pl (by omega) (by omega) (by rw[List.size_toArray,<-hl];exact h1) (by simpa using ew) ⟨rfl,fin⟩) hs
theorem FX:CD X IL:=by
 intro value slice pins s σ H x y v u Q I rx ry h hs
 obtain⟨z,i,c,rfl,rfl,hz,he,q⟩:=h
 obtain⟨t,rfl⟩:=rx
 obtain⟨t',rfl⟩:=ry
 obtain⟨j,h1,h2,h3,h4,h5⟩:=rS he
 have hl:z.cps.toList.length=z.length:=by simp[Str.length]
 rw[hl]at h1 h4 h5
 have hn:=pj
 exact tail_any (typeIs_str s z t) slot_str_getitem.lookup (getItem_str (c:=c) (by
  have e1:decide (i< -(2^63:Int))=false:=decide_eq_false (by omega)
  have e2:decide (i≥2^63)=false:=decide_eq_false (by omega)
  rw[e1,e2,Bool.or_false]) (by rw[h1];simpa using h2) ⟨.str ⟨#[c]⟩,H,I.tok _,⟨_,rfl⟩,q⟩) hs
noncomputable def NM(K:PySem.W.Frag):R2:=λx y H Q=>IJ K x y H Q\/IK K x y H Q\/IL x y H Q
theorem FY:CD X (NM X.K):=CF.or (FW.or FX)
theorem rT(lo hi:Option Int)(n:Nat):(sliceBounds lo hi none n).1=((HT.vD n 0 lo:Nat):Int)/\(sliceBounds lo hi none n).2.1=((HT.vD n n hi:Nat):Int)/\(sliceBounds lo hi none n).2.2=1:=by
 refine⟨?_,?_,rfl⟩
 ·cases lo with
  |none=>simp[sliceBounds,HT.vD]
  |some i=>
   simp only[sliceBounds,HT.vD,Option.getD_none,show(1:Int)>0 by decide,if_true]
   by_cases h:i<0
   ·simp only[h,if_true]<;>omega
   ·simp only[h,if_false]<;>omega
 ·cases hi with
  |none=>simp[sliceBounds,HT.vD]
  |some i=>
   simp only[sliceBounds,HT.vD,Option.getD_none,show(1:Int)>0 by decide,if_true]
   by_cases h:i<0
   ·simp only[h,if_true]<;>omega
   ·simp only[h,if_false]<;>omega
theorem qE(its:List Value)(lo hi:Option Int):slicePick its.toArray lo hi none=((its.drop (HT.vD its.length 0 lo)).take (HT.vD its.length its.length hi-HT.vD its.length 0 lo)).toArray:=by
 obtain⟨h1,h2,h3⟩:=rT lo hi its.toArray.size
 unfold slicePick
 rw[h1,h2,h3]
 simp only[sliceRange_one,pick_run,List.size_toArray]<;>rfl
noncomputable def Lo(K:PySem.W.Frag):V->Option Int->Option Int->Hp->VK->Prop:=λx lo hi H Q=>∃a xs,x=.ref a/\k8 K H a xs/\∀p,H p=none->Q (.ref p) (upd H p (.lst (yp xs lo hi)))
theorem xk:FU X (Lo X.K):=by
 intro pins s σ H x v vl vu lo hi sl Q I rx hs pl pu h
 obtain⟨a,xs,rfl,hx,q⟩:=h
 cases rx
 obtain⟨its,r,ht,hz⟩:=I.list hx
 have hlen:=r.length
 refine⟨"list",_,slot_list_getitem.lookup,ht.isList.typeIs,?_⟩
 refine wpAny_getItem_list_slice ht.isList hs pl pu .none (by simp) ?_ (by rw[List.size_toArray]<;>omega)
 rw[qE,<-hlen]
 refine⟨.ref s.heap.objs.size,_,I.laid (t':=s.toks) (o:=.lst (yp xs lo hi)) (λb ob q=>Heap.get?_push_of_some _ q) (Nat.le_refl _) ?_,rfl,q _ (I.eF.fresh (Nat.le_refl _))⟩
 exact⟨Nat.le_trans (uc xs lo hi) hz,_,0,(r.drop (HT.vD xs.length 0 lo)).take (HT.vD xs.length xs.length hi-HT.vD xs.length 0 lo),Heap.get?_push_size _ rfl⟩
noncomputable def gF:V->Bool
 |.non=>true
 |.bl _=>true
 |.int _=>true
 |.str _=>true
 |_=>false
noncomputable def ze:V->V->Bool
 |.non,.non=>true
 |.bl a,.bl b=>a==b
 |.bl a,.int b=>(if a then 1 else 0)==b
 |.int a,.bl b=>a==(if b then 1 else 0)
 |.int a,.int b=>a==b
 |.str a,.str b=>a==b
 |_,_=>false
theorem zC{A:Around}{s:Shared}{y x:V}{u v:Value}(ry:RelV y u)(rx:RelV x v)(fy:gF y=true)(fx:gF x=true):SeqAt.EqAt A s u v (ze y x):=by
 cases y with
 |non=>
  cases ry
  cases x with
  |non=>cases rx;exact SeqAt.EqAt.same _
  |bl b=>cases rx;exact SeqAt.EqAt.none_bool b
  |int b=>obtain⟨t,rfl⟩:=rx;exact SeqAt.EqAt.none_int b t
  |str b=>obtain⟨t,rfl⟩:=rx;exact SeqAt.EqAt.none_str b t
  |_=>exact absurd (show false=true from fx) Bool.false_ne_true
 |bl a=>
  cases ry
  cases x with
  |non=>cases rx;exact SeqAt.EqAt.bool_none a
  |bl b=>cases rx;exact SeqAt.EqAt.bool_bool a b
  |int b=>obtain⟨t,rfl⟩:=rx;exact SeqAt.EqAt.bool_int a b t
  |str b=>obtain⟨t,rfl⟩:=rx;exact SeqAt.EqAt.bool_str a b t
  |_=>exact absurd (show false=true from fx) Bool.false_ne_true
 |int a=>
  obtain⟨t',rfl⟩:=ry
  cases x with
  |non=>cases rx;exact SeqAt.EqAt.int_none a t'
  |bl b=>cases rx;exact SeqAt.EqAt.int_bool a t' b
  |int b=>obtain⟨t,rfl⟩:=rx;exact SeqAt.EqAt.int_int a t' b t
  |str b=>obtain⟨t,rfl⟩:=rx;exact SeqAt.EqAt.int_str a t' b t
  |_=>exact absurd (show false=true from fx) Bool.false_ne_true
 |str a=>
  obtain⟨t',rfl⟩:=ry
  cases x with
  |non=>cases rx;exact SeqAt.EqAt.str_none a t'
  |bl b=>cases rx;exact SeqAt.EqAt.str_bool a t' b
  |int b=>obtain⟨t,rfl⟩:=rx;exact SeqAt.EqAt.str_int a t' b t
  |str b=>obtain⟨t,rfl⟩:=rx;exact SeqAt.EqAt.str_str a t' b t
  |_=>exact absurd (show false=true from fx) Bool.false_ne_true
 |_=>exact absurd (show false=true from fy) Bool.false_ne_true
noncomputable def vN(x:V)(u:Value):Bool:=match u with
 |.none=>ze .non x
 |.bool b=>ze (.bl b) x
 |.int i _=>ze (.int i) x
 |.str z _=>ze (.str z) x
 |_=>false
theorem zD{x y:V}{u:Value}(r:RelV y u)(f:gF y=true):vN x u=ze y x:=by
 cases y with
 |non=>cases r;rfl
 |bl b=>cases r;rfl
 |int i=>obtain⟨t,rfl⟩:=r;rfl
 |str z=>obtain⟨t,rfl⟩:=r;rfl
 |_=>exact absurd (show false=true from f) Bool.false_ne_true
theorem mm{x:V}:∀{xs:List V} {us:List Value},Vals xs us->xs.all gF=true->us.any (vN x)=xs.any λy=>ze y x
 |_,_,.nil,_=>rfl
 |y::xs,u::us,.cons r t,f=>by
  rw[List.all_cons,Bool.and_eq_true]at f
  rw[List.any_cons,List.any_cons,zD r f.1,mm t f.2]
theorem jJ{A:Around}{s:Shared}{x:V}{v:Value}(rx:RelV x v)(fx:gF x=true):∀{xs:List V} {us:List Value},Vals xs us->xs.all gF=true->∀u∈us,SeqAt.EqAt A s u v (vN x u)
 |_,_,.nil,_=>λu hu=>by cases hu
 |y::xs,u::us,.cons r t,f=>λu' hu=>by
  rw[List.all_cons,Bool.and_eq_true]at f
  rcases List.mem_cons.mp hu with rfl|hu
  ·rw[zD r f.1];exact zC r rx f.1 fx
  ·exact jJ rx fx t f.2 u' hu
noncomputable def Kf(x:V)(xs:List V):Bool:=xs.any λy=>ze y x
noncomputable def Kg(K:PySem.W.Frag)(neg:Bool):R2:=λx y H Q=>∃p xs,y=.ref p/\(k8 K H p xs\/k9 K H p xs)/\gF x=true/\xs.all gF=true/\Q (.bl (if neg then !Kf x xs else Kf x xs)) H
theorem yq:kD X (compareOp .In) (Kg X.K false):=by
 intro pins s σ H x y v u Q I rx ry h
 obtain⟨p,xs,rfl,hq,fx,fs,q⟩:=h
 cases ry
 rcases hq with hq|hq
 ·obtain⟨its,r,pl,hz⟩:=I.list hq
  refine SeqAt.in_listAt (vN x) pl.isList (λw hw=>jJ rx fx r fs w (by simpa using hw)) ⟨.bl _,H,I,rfl,?_⟩
  rw[show its.toArray.any (vN x)=its.any (vN x) by simp,mm r fs]
  exact q
 ·obtain⟨its,r,pl,hz⟩:=I.tuple hq
  refine SeqAt.in_tupleAt (vN x) pl (λw hw=>jJ rx fx r fs w (by simpa using hw)) ⟨.bl _,H,I,rfl,?_⟩
  rw[show its.toArray.any (vN x)=its.any (vN x) by simp,mm r fs]
  exact q
theorem rV:kD X (compareOp .NotIn) (Kg X.K true):=by
 intro pins s σ H x y v u Q I rx ry h
 obtain⟨p,xs,rfl,hq,fx,fs,q⟩:=h
 cases ry
 rcases hq with hq|hq
 ·obtain⟨its,r,pl,hz⟩:=I.list hq
  refine SeqAt.notIn_listAt (vN x) pl.isList (λw hw=>jJ rx fx r fs w (by simpa using hw)) ⟨.bl _,H,I,rfl,?_⟩
  rw[show its.toArray.any (vN x)=its.any (vN x) by simp,mm r fs]
  exact q
 ·obtain⟨its,r,pl,hz⟩:=I.tuple hq
  refine SeqAt.notIn_tupleAt (vN x) pl (λw hw=>jJ rx fx r fs w (by simpa using hw)) ⟨.bl _,H,I,rfl,?_⟩
  rw[show its.toArray.any (vN x)=its.any (vN x) by simp,mm r fs]
  exact q
theorem mn:gE X (.builtin "len") (λxs H Q=>∃p ys,xs=[.ref p]/\(k8 X.K H p ys\/k9 X.K H p ys)/\Q (.int ys.length) H):=by
 intro pins s σ H xs us Q I r h
 obtain⟨p,ys,rfl,hq,q⟩:=h
 obtain⟨u,rfl,rx⟩:=vals1 r
 cases rx
 have hn:=pj
 rcases hq with hq|hq
 ·obtain⟨its,r',pl,hz⟩:=I.list hq
  have hlen:=r'.length
  exact Calls.call_len_list pl.isList (by simp only[List.size_toArray]<;>omega) ⟨.int ys.length,H,I.tok _,⟨s.toks+1,by rw[List.size_toArray,hlen]⟩,q⟩
 ·obtain⟨its,r',pl,hz⟩:=I.tuple hq
  have hlen:=r'.length
  exact len_tuple pl (by simp only[List.size_toArray]<;>omega) ⟨.int ys.length,H,I.tok _,⟨s.toks+1,by rw[List.size_toArray,hlen]⟩,q⟩
theorem rW:gE X (.builtin "len") (λxs H Q=>∃z,xs=[.str z]/\z.length<=sizeLine/\Q (.int z.length) H):=by
 intro pins s σ H xs us Q I r h
 obtain⟨z,rfl,hz,q⟩:=h
 obtain⟨u,rfl,t,rfl⟩:=vals1 r
 have hn:=pj
 exact len_str (by omega) ⟨.int z.length,H,I.tok _,⟨_,rfl⟩,q⟩
theorem gE.or{f:Value}{r r':List V->Hp->VK->Prop}(h:gE X f r)(h':gE X f r'):gE X f (λxs H Q=>r xs H Q\/r' xs H Q):=by
 intro pins s σ H xs us Q I rs q
 rcases q with q|q
 ·exact h pins s σ H xs us Q I rs q
 ·exact h' pins s σ H xs us Q I rs q
theorem rX:gE X (.type "list") (λxs H Q=>∃p ys,xs=[.ref p]/\(k8 X.K H p ys\/k9 X.K H p ys)/\∀l,H l=none->Q (.ref l) (upd H l (.lst ys))):=by
 intro pins s σ H xs us Q I r h
 obtain⟨p,ys,rfl,hq,q⟩:=h
 obtain⟨u,rfl,rx⟩:=vals1 r
 cases rx
 have fin:∀(its:List Value),Vals ys its->ys.length<=sizeLine->∀(h':Heap) (c':Nat),(∀b o',s.heap.get? b=some o'->h'.get? b=some o')->
   h'.get? s.heap.objs.size=some {cls:=.type "list",dict:=none,data:=.seq its.toArray c',slots:=#[]}->EP X pins σ Q (.ref s.heap.objs.size) {s with heap:=h'}:=λits r' hz h' c' kp e=>
  ⟨.ref s.heap.objs.size,_,I.laid (t':=s.toks) kp (Nat.le_refl _) (show eH X.prog X.w _ h' _ (.lst ys)from⟨hz,its,c',r',e⟩),rfl,q _ (I.eF.fresh (Nat.le_refl _))⟩
 rcases hq with hq|hq
 ·obtain⟨its,r',pl,hz⟩:=I.list hq
  have hlen:=r'.length
  obtain⟨o,ho,hc,n,hd⟩:=pl.isList
  exact call_list_seq p (.inl rfl) ho hc hd (λh' c' kp e=>fin its r' hz h' c' kp e) (by simp only[List.size_toArray]<;>omega)
 ·obtain⟨its,r',pl,hz⟩:=I.tuple hq
  have hlen:=r'.length
  obtain⟨o,ho,hc,n,hd⟩:=pl
  exact call_list_seq p (.inr rfl) ho hc hd (λh' c' kp e=>fin its r' hz h' c' kp e) (by simp only[List.size_toArray]<;>omega)
theorem kE:gE X (.type "tuple") (λxs H Q=>∃p ys,xs=[.ref p]/\((k8 X.K H p ys/\∀l,H l=none->Q (.ref l) (upd H l (.tup ys)))\/(k9 X.K H p ys/\Q (.ref p) H))):=by
 intro pins s σ H xs us Q I r h
 obtain⟨p,ys,rfl,h⟩:=h
 obtain⟨u,rfl,rx⟩:=vals1 r
 cases rx
 rcases h with⟨hq,q⟩|⟨hq,q⟩
 ·obtain⟨its,r',pl,hz⟩:=I.list hq
  have hlen:=r'.length
  refine call_tuple_list pl.isList (λh' kp=>?_) (by simp only[List.size_toArray]<;>omega)
  have I1:Inv X pins σ H {s with heap:=h'}:=I.kept (t':=s.toks) kp
  have I2:Inv X pins σ (upd H h'.objs.size (.tup ys)) {s with heap:=h'.push {cls:=.type "tuple",data:=.seq its.toArray}}:=
   I1.laid (t':=s.toks) (λb o e=>Heap.get?_push_of_some _ e) (Nat.le_refl _) (show eH X.prog X.w _ _ _ (.tup ys)from⟨⟨hz,HR.new⟩,its,r',IsTup.new _ _⟩)
  exact⟨.ref h'.objs.size,_,I2,rfl,q _ (I1.eF.fresh (Nat.le_refl _))⟩
 ·obtain⟨its,r',pl,hz⟩:=I.tuple hq
  exact call_tuple_same pl ⟨.ref p,H,I,rfl,q⟩
noncomputable def Lp(K:PySem.W.Frag)(T:String)(x:V)(H:Hp):Prop:=match x with
 |.str _=>T= "str"
 |.int _=>T= "int"
 |.ref p=>(T= "list" /\∃xs,k8 K H p xs)\/(T= "tuple" /\∃o,K.lookup p=some o/\o.cls=.type "tuple" /\o.dict=none)\/
   (T= "dict" /\((∃b9,H p=some (.dK b9))\/∃b9,H p=some (.dT b9)))\/(T= "set" /\∃S n,H p=some (.set S n))
 |_=>False
theorem zE{pins:List (Addr×Obj)}{σ:St}{H:Hp}{s:Shared}{T:String}{x:V}{v:Value}(I:Inv X pins σ H s)(r:RelV x v)(ty:Lp X.K T x H):
  s.TypeIs v T/\∀a,v=.ref a->∃ob,s.heap.get? a=some ob/\ob.dict=none:=by
 cases x with
 |str z=>
  obtain⟨t,rfl⟩:=r
  cases(show T= "str" from ty)
  exact⟨typeIs_str s z t,λ_ e=>nomatch e⟩
 |int i=>
  obtain⟨t,rfl⟩:=r
  cases(show T= "int" from ty)
  exact⟨typeIs_int s i t,λ_ e=>nomatch e⟩
 |ref p=>
  cases r
  rcases ty with⟨rfl,xs,hq⟩|⟨rfl,o,hk,hc,hd⟩|⟨rfl,hk⟩|⟨rfl,S,n,hk⟩
  ·obtain⟨its,_,pl,_⟩:=I.list hq
   refine⟨pl.isList.typeIs,λa e=>?_⟩
   cases e
   obtain⟨o,n,e,c,hd,_⟩:=pl
   exact⟨o,e,hd⟩
  ·refine⟨⟨o,I.iU p o hk,hc⟩,λa e=>?_⟩
   cases e
   exact⟨o,I.iU _ o hk,hd⟩
  ·have z:∃o,s.heap.get? p=some o/\o.ExactDict:=by
     rcases hk with⟨b9,hk⟩|⟨b9,hk⟩
     ·obtain⟨_,_,_,_,o,_,_,e,ex,_⟩:=I.eF p _ hk
      exact⟨o,e,ex⟩
     ·obtain⟨_,_,_,_,o,_,_,e,ex,_⟩:=I.eF p _ hk
      exact⟨o,e,ex⟩
   obtain⟨o,e,ex⟩:=z
   refine⟨⟨o,e,ex.1⟩,λa e2=>?_⟩
   cases e2
   exact⟨o,e,ex.2.1⟩
  ·obtain⟨o,_,_,_,e,ex,_⟩:=I.eF p _ hk
   refine⟨⟨o,e,ex.1⟩,λa e2=>?_⟩
   cases e2
   exact⟨o,e,ex.2.1⟩
 |_=>exact False.elim ty
noncomputable def IM(K:PySem.W.Frag)(T:String)(r:V->List V->Hp->VK->Prop)(to:TE):TE:=λσ H Q=>to σ H λx H1=>Lp K T x H1/\r x [] H1 Q
noncomputable def MM(K:PySem.W.Frag)(T:String)(r:V->List V->Hp->VK->Prop)(to:TE)(t:TA):TE:=λσ H Q=>to σ H λx H1=>Lp K T x H1/\t σ H1 λxs H2=>r x xs H2 Q
variable{o e:Expr}{es:List Expr}{to:TE}{t:TA}{name:Str}{apos dm:Pos}{T id:String}{r:V->List V->Hp->VK->Prop}
theorem FZ(pa:PlainAttrs T)(slot:Slot T name id)(Lq:typeOf (.builtin id)=pure (.type "method_descriptor"))(hm:IH X id r)(ho:PE X o to)
  (iP:attributeBase o name X.env (eval o X.env)=eval o X.env:=by rfl)(iQ:(apos.endLine==dm.line)=true:=by rfl):PE X (.Call (.Attribute o name apos) [] [] dm) (IM X.K T r to):=by
 intro pins s σ H Q I h
 refine wpAny_Call_method0_late iP iQ (dZ (ho pins s σ H _ I h) λv s1 dS=>?_)
 obtain⟨x,H1,I1,r1,ty,q1⟩:=dS
 obtain⟨h1,h2⟩:=zE I1 r1 ty
 exact⟨T,id,pa,slot,Lq,h1,h2,Calls.callWith_builtin rfl (PySem.evalArgs_none (hm pins s1 σ H1 x [] v [] Q I1 r1 .nil q1))⟩
theorem xm(pa:PlainAttrs T)(slot:Slot T name id)(Lq:typeOf (.builtin id)=pure (.type "method_descriptor"))(hm:IH X id r)(ho:PE X o to)(ha:PA X (e::es) t)
  (iP:attributeBase o name X.env (eval o X.env)=eval o X.env:=by rfl)
  (rY:((backTo dm (starEach (e::es) X.env)).all (λx=>!x.1)&&(backToKw dm (keywordEach [] X.env)).all (λx=>x.1.isSome)
    &&decide ((e::es).length+([]:List Keyword).length+(if([]:List Keyword).isEmpty then 0 else 1)<30))=true:=by rfl)
  (iQ:(apos.endLine==dm.line)=true:=by rfl)(hs:starEach (e::es) X.env=(false,eval e X.env)::starEach es X.env:=by rfl)(F0:(backTo dm (starEach es X.env)).any (·.1)=false:=by rfl):
  PE X (.Call (.Attribute o name apos) (e::es) [] dm) (MM X.K T r to t):=by
 intro pins s σ H Q I h
 refine wpAny_Call_method_late iP rY iQ rfl (dZ (ho pins s σ H _ I h) λv s1 dS=>?_)
 obtain⟨x,H1,I1,r1,ty,q1⟩:=dS
 obtain⟨h1,h2⟩:=zE I1 r1 ty
 refine⟨T,id,pa,slot,Lq,h1,h2,?_⟩
 have hA:=ha dm pins s1 σ H1 _ I1 q1
 rw[hs]at hA⊢
 refine Calls.callWith_builtin (by show(false||(backTo dm (starEach es X.env)).any (·.1))=false;rw[F0]<;>rfl) (Calls.evalArgs_plain ?_)
 exact dZ hA λus s2 ⟨vs,H2,I2,r2,q2⟩=>hm pins s2 σ H2 x vs v us Q I2 r1 r2 q2
end
noncomputable def MN(X:Cx)(id:String)(r:V->List V->Hp->VK->Prop):Prop:=
 ∀(pins:List (Addr×Obj)) (s:Shared) (σ:St) (H:Hp) (x:V) (xs:List V) (v:Value) (us:List Value) (Q:VK),Inv X pins σ H s->RelV x v->Vals xs us->r x xs H Q->
  wpAny (model X.prog X.w) X.A (call (.builtin id) (v::us)) (EP X pins σ Q) X.xe s
theorem Vals.one{x:V}{us:List Value}(h:Vals [x] us):∃u,us=[u]/\RelV x u:=by
 cases h with
 |cons r t=>
  cases t
  exact⟨_,rfl,r⟩
theorem Vals.zero:∀{us:List Value},Vals [] us->us=[]
 |_,.nil=>rfl
section
variable{X:Cx}{pins:List (Addr×Obj)}{σ:St}{H:Hp}{s:Shared}{l b:Addr}{xs ys zs:List V}
theorem Inv.IQ{its its':List Value}{n:Nat}{f:Array Value->Array Value}{t':Nat}(I:Inv X pins σ H s)(hH:H l=some (.lst xs))
  (e:s.heap.get? l=some {cls:=.type "list",data:=.seq its.toArray n})(hf:f its.toArray=its'.toArray)(hv:Vals ys its')(hz:ys.length<=sizeLine):
  Inv X pins σ (upd H l (.lst ys)) {s with heap:=s.heap.update l (Obj.mapSeq f),toks:=t'}:=by
 have q:=PySem.IsL.update e f
 rw[hf]at q
 refine I.write (x:=l) (e:=l) (by rw[hH];exact trivial) (.inl rfl) (λb' u hb hu=>(Heap.get?_update_other s.heap (Obj.mapSeq f) (Ne.symm hb)).trans hu) ⟨_,q⟩ ?_
 exact⟨hz,its',_,hv,q⟩
theorem Inv.Lr{its:List Value}{t':Nat}(I:Inv X pins σ H s)(hv:Vals ys its)(hz:ys.length<=sizeLine):
  Inv X pins σ (upd H s.heap.objs.size (.lst ys)) {s with heap:=s.heap.push {cls:=.type "list",data:=.seq its.toArray},toks:=t'}:=
 I.laid (λ_ _ q=>Heap.get?_push_of_some _ q) (Nat.le_refl _) ⟨hz,its,0,hv,Heap.get?_push_size _ rfl⟩
theorem Inv.fresh(I:Inv X pins σ H s):H s.heap.objs.size=none:=I.eF.fresh (Nat.le_refl _)
theorem Inv.IS(I:Inv X pins σ H s)(hH:H l=some (.lst xs)):xs.length<=sizeLine/\∃(its:List Value) (n:Nat),Vals xs its/\xs.length=its.length/\s.heap.get? l=some {cls:=.type "list",data:=.seq its.toArray n}:=by
 obtain⟨z,its,n,r,e⟩:=I.eF l _ hH
 exact⟨z,its,n,r,r.length,e⟩
end
section
variable{X:Cx}
noncomputable def CG:V->List V->Hp->VK->Prop:=λx vs H Q=>∃l xs y,x=.ref l/\vs=[y]/\H l=some (.lst xs)/\xs.length<sizeLine/\Q .non (upd H l (.lst (xs++[y])))
theorem qY:MN X "list.append" CG:=by
 intro pins s σ H x vs v us Q I rx rv h
 obtain⟨l,xs,y,rfl,rfl,hH,hz,q⟩:=h
 cases rx
 obtain⟨u,rfl,ru⟩:=rv.one
 obtain⟨z,its,n,r,hl,e⟩:=I.IS hH
 refine call_meets F.slot_list_append ⟨_,e,rfl⟩ F.entry_list_append (F.args_list_append_2 _ _) (PySem.list_append l its.toArray n u (by rw[List.size_toArray];omega)) ⟨e,?_⟩
 refine⟨.non,_,I.IQ (its':=its++[u]) hH e (by simp) (r.append (.cons ru .nil)) ?_,rfl,q⟩
 rw[List.length_append,List.length_singleton]
 omega
noncomputable def F1:V->List V->Hp->VK->Prop:=λx vs H Q=>∃l xs,x=.ref l/\vs=[]/\H l=some (.lst xs)/\Q .non (upd H l (.lst []))
theorem zF:MN X "list.clear" F1:=by
 intro pins s σ H x vs v us Q I rx rv h
 obtain⟨l,xs,rfl,rfl,hH,q⟩:=h
 cases rx
 have NN:=rv.zero
 subst NN
 obtain⟨z,its,n,r,hl,e⟩:=I.IS hH
 refine call_meets F.slot_list_clear ⟨_,e,rfl⟩ F.entry_list_clear (F.args_list_clear_1 _) (AutoSeq1.list_clear_list_0 l its.toArray n (by rw[List.size_toArray];omega)) ⟨e,?_⟩
 exact⟨.non,_,I.IQ (its':=[]) (ys:=[]) hH e rfl .nil (Nat.zero_le _),rfl,q⟩
end
end L2
namespace Att
open PySem PySem.W PySem.Calls PyProof.Rows
theorem oH{P:Params}{h:Heap}:∀(ns:List Int) (vs:List Value),WellAll P h vs (ns.map WData.int)->IntsAre vs ns:=by
 intro ns
 induction ns with
 |nil=>
  intro vs w
  rw[List.map_nil]at w
  cases w
  exact .nil
 |cons n ns ih=>
  intro vs w
  rw[List.map_cons]at w
  cases w with
  |cons a b=>
   cases a
   exact .cons _ _ (ih _ b)
theorem yr{l:OpenLaw}{n:Nat}(hn:l.most=some n){P:Params}{h:Heap}{args:List WData}{vals:List Value}
  (CH:l.row.toRowW.claim.pre args=true)(Ls:WellAll P h vals args):
  ∃a vs ns,vals=[Value.ref a]/\args=[WData.list (ns.map WData.int)]/\h.get? a=some {cls:=.type "list",data:=.seq vs.toArray}/\IntsAre vs ns/\ns.length<=n:=by
 have NO:WShape.hasAll [] args [.list .int]=true:=(pre_splitW CH).1
 have hc:l.pre.holds [] {args:=args}=true:=(pre_splitW CH).2
 obtain⟨d,r,rfl,h1,h2⟩:=hasAllW_cons NO
 obtain rfl:=hasAllW_nil h2
 obtain⟨xs,rfl,h3⟩:=hasW_list h1
 obtain⟨ns,rfl⟩:=items_int h3
 have hlen:ns.length<=n:=by
  unfold OpenLaw.pre at hc
  have h4:(WTm.not (.lt (.lit (.int (n:Int))) (.len (.arg 0)))).holds [] {args:=[.list (ns.map .int)]}=true:=by
   have h4:=(holds_andW hc).1
   rw[hn]at h4
   exact h4
  have h5:=condW_of h4 (w_not (w_lt w_lit (w_len_list (w_arg rfl))))
  rw[List.length_map]at h5
  refine Nat.le_of_not_lt λq=>?_
  have q':(n:Int)<((ns.length:Nat):Int):=by omega
  first
   |(rw[decide_eq_true q']at h5;exact absurd h5 (by decide))
   |(simp at h5;omega)
 cases Ls with
 |cons w1 w2=>
  cases w2
  cases w1 with
  |list ho Lu=>exact⟨_,_,ns,rfl,rfl,ho,oH ns _ Lu,hlen⟩
theorem yt(l:OpenLaw)(args:List WData):l.row.toRowW.claim.post args (.bool true) args=true:=
 postW_of (r:=l.row.toRowW) (X:=(true==true))
  (show WShape.has [] (.bool true) .bool=true by first|rfl|decide|simp[WShape.has,WShape.arms,WShape.armsAll])
  (show(WTm.eq .res (.lit (.bool true))).value [] {args:=args,res:=some (.bool true),after:=args}=some (.bool (true==true))from w_eq_bool (w_res rfl) w_lit) rfl
theorem ud{l:OpenLaw}{n:Nat}{q:Program}{loose:List Str}{XP:(Str->Option Value)->Heap->Prop}{YP:World->Heap->Prop}{d:DefRec}
  (hn:l.most=some n)(Lv:d.params.defaults=[])
  (call:∀(w:World) (s₀ s₁:Shared) (mg mb:Str->Option Value) (fa:Addr) (o:Obj) (pm cd doc:Value) (a:Addr) (vs:List Value) (ns:List Int),
    Ground q loose [] XP w s₀ mg mb s₁.heap->YP w s₁.heap->
    s₁.heap.get? fa=some o->o.data=.func (docDef d.name d.params d.body d.scope pm cd doc)->s₁.heap.CodeRec cd d.name->mg d.name=some (.ref fa)->
    s₁.heap.get? a=some {cls:=.type "list",data:=.seq vs.toArray}->IntsAre vs ns->ns.length<=n->s₁.gens=#[]->
    codeAny (model l.prog w) callerA (.call (.ref fa) ⟨[.ref a],[]⟩) (λr s'=>r=.ok (.ret (.bool true))/\OldK s₁.heap s'.heap/\s'.os=s₁.os/\AllBare s'.gens) s₁):
  WalkO q loose XP YP l.row.toRowW d [] (λf vs=>PySem.call f vs):=by
 intro w s₀ s₁ mg mb G Y fa o pm cd doc dV kV ho hd nc hD IT hg args vals as CH NP Pf Ls Pg
 obtain rfl:dV=.none:=Dflts.none hD Lv
 obtain rfl:kV=.none:=Dflts.noKw hD
 obtain⟨a,vs,ns,rfl,rfl,F2,hints,hlen⟩:=yr hn CH Ls
 refine enter_call (codeAny_mono (call w s₀ s₁ mg mb fa o pm cd doc a vs ns G Y ho (fd_plain hd) nc IT F2 hints hlen hg) λr s' hq=>?_)
 obtain⟨rfl,h2,h3,h4⟩:=hq
 exact⟨.inl ⟨.bool true,.bool true,[],rfl,λ_=>rfl,.bool true,yt l _,λ_=>⟨List.Pairwise.nil,λ_ hm=>(nomatch hm)⟩⟩,h2,h3,h4⟩
end Att
namespace L2
open PySem PySem.Spec PyProof.Rows
theorem qZ:∀{vs:List Value} {ns:List Int},IntsAre vs ns->Vals (ns.map V.int) vs
 |_,_,.nil=>.nil
 |_,_,.cons n t h=>.cons ⟨t,rfl⟩ (qZ h)
noncomputable def IU(H:Hp):Prop:=∀b,H b=none\/∃o xs,H b=some (.frz o (.lst xs))
noncomputable def kh(s:Stmt):Arguments:=match s with
 |.FunctionDef _ a _ _ _ _ _ _ _ _=>a
 |_=>{posonlyargs:=[],args:=[],vararg:=none,kwonlyargs:=[],kw_defaults:=[],kwarg:=none,defaults:=[]}
noncomputable def fN(s:Stmt):List Stmt:=match s with
 |.FunctionDef _ _ b _ _ _ _ _ _ _=>b
 |_=>[]
noncomputable def aj(s:Stmt):Scope:=match s with
 |.FunctionDef _ _ _ _ _ _ sc _ _ _=>sc
 |_=>{kind:=.function,names:=[],isGenerator:=false,isCoroutine:=false}
noncomputable abbrev b8:B3:=λ_ _ _ _ _ _=>False
noncomputable abbrev E0:XK:=λ_ _ _=>False
theorem gG{X:Cx}:Passes b8 X E0:=λ_ _ _ _ _ _ _ h=>h.elim
structure nW(K:PySem.W.Frag)(x qual:Str)(st:Stmt)(f:Addr)(fd:FuncData):Prop where
 ex:∃(oc:Value) (od:Option Addr) (kV doc pm:Value) (an:Option Addr) (dO ct:Value) (Ei:Array (Option Value)),
  fd=PySem.W.fnOf x qual (kh st) (fN st) (aj st) .none kV doc pm an dO ct/\K.lookup f=some ⟨oc,od,.func fd,Ei⟩/\PySem.W.codeIn K dO qual=true
 kp:PySem.W.keepIn K (.ref f)=true
section
variable{P:Program}{w:World}{K:PySem.W.Frag}{mg:Str->Option Value}{base:Heap}
theorem nW.ok{x qual:Str}{st:Stmt}{f:Addr}{fd:FuncData}{N ps:List Str}{k:Nat}{sp:Sp}(F:nW K x qual st f fd)(S:aJ N ps (aj st))(len:∀vs H Q E,sp vs H Q E->vs.length=ps.length)
  (zB:∀(dO:Value) (A:Around) (outer:List Env) (s:Shared) (H:Hp) (vs:List V) (Q:VK) (E:XK),cM k (A.deeper (envOfC qual (aj st) s.heap.objs.size f dO))->sp vs H Q E->
    ∃t,vC (rR b8 P w K mg base N qual (aj st) f dO A outer s H E).zj (fN st) t/\t {nx:=λ_ H'=>Q .non H',rt:=Q} (start N vs) H):aH P w K mg base b8 (k+1) f fd ps sp:=by
 obtain⟨oc,od,kV,doc,pm,an,dO,ct,Ei,rfl,lk,nc⟩:=F.ex
 refine IE lk nc S len λA outer s H vs Q E hr Hz=>?_
 obtain⟨t,h,q⟩:=zB dO A outer s H vs Q E hr Hz
 exact⟨t,h.zj,q⟩
theorem nW.binds{x qual:Str}{st:Stmt}{f:Addr}{fd:FuncData}{ps:List Str}(F:nW K x qual st f fd)
  (h:∀(kV doc pm:Value) (an:Option Addr) (dO ct:Value) (us:List Value),us.length=ps.length->bindArgs (PySem.W.fnOf x qual (kh st) (fN st) (aj st) .none kV doc pm an dO ct) ⟨us,[]⟩=pure (ps.zip us)):Binds K fd ps []:=by
 obtain⟨oc,od,kV,doc,pm,an,dO,ct,Ei,rfl,lk,nc⟩:=F.ex
 exact .all (h kV doc pm an dO ct)
theorem F3{x qual:Str}{st:Stmt}{f:Addr}{oc:Value}{od an:Option Addr}{Ei:Array (Option Value)}{kV doc pm dO ct:Value}(l:K.lookup f=some ⟨oc,od,.func (PySem.W.fnOf x qual (kh st) (fN st) (aj st) .none kV doc pm an dO ct),Ei⟩)
 (c:PySem.W.codeIn K dO qual=true)(k:PySem.W.keepIn K (.ref f)=true):nW K x qual st f (PySem.W.fnOf x qual (kh st) (fN st) (aj st) .none kV doc pm an dO ct):=⟨⟨oc,od,kV,doc,pm,an,dO,ct,Ei,rfl,l,c⟩,k⟩
end
section
variable{X:Cx}
theorem pv(i:Nat){x:Str}{pos:Pos}(hN:X.N[i]?=some x:=by rfl)(hv:tU X.env.scope x:=by first|exact Or.inl rfl|exact Or.inr (Or.inl rfl)|exact Or.inr (Or.inr rfl))(hd:(x==("__debug__" :Str))=false:=by decide)
 (nc:(x==("__classdict__" :Str))=false:=by decide):PE X (.Name x pos) (kx i):=d0 hN hv hd nc
end
noncomputable def aE(H H':Hp):Prop:=∀b o,H b=some o->H' b=some o
theorem aE.refl(H:Hp):aE H H:=λ_ _ h=>h
theorem aE.trans{H H1 H2:Hp}(a:aE H H1)(b:aE H1 H2):aE H H2:=λc o h=>b c o (a c o h)
theorem aE.free{H H':Hp}(e:aE H H'){l:Addr}(h:H' l=Option.none):H l=Option.none:=by
 cases q:H l with
 |none=>rfl
 |some o=>
  rw[e l o q]at h
  cases h
noncomputable def rZ(sc:Scope)(env:Env):List (Str×Addr):=sc.names.foldl (λcs p=>if p.2=.free then(p.1,(env.cells.lookup p.1).getD 0)::cs else cs) []
theorem r0(env:Env):∀(ns:List (Str×NameKind)) (acc:List (Str×Addr)),(∀p∈ns,p.2=.free->∃c,env.cells.lookup p.1=some c)->
  (forIn ns acc (λ(x:Str×NameKind) (r:List (Str×Addr))=>match x with|(name,kind)=>if(kind==.free)=true then(do let c<-cellOf env name;pure (ForInStep.yield ((name,c)::r)))else pure (ForInStep.yield r)):Sem _)=
    pure (ns.foldl (λcs p=>if p.2=.free then(p.1,(env.cells.lookup p.1).getD 0)::cs else cs) acc)
 |[],acc,_=>rfl
 |(n,k)::ns,acc,h=>by
  rw[List.forIn_cons]
  by_cases hk:k=.free
  ·subst hk
   obtain⟨c,hc⟩:=h (n,.free) (List.mem_cons_self ..) rfl
   have e1:cellOf env n=pure c:=by
    unfold cellOf
    rw[hc]
   dsimp only
   rw[if_pos (by rfl),e1,pure_bind,pure_bind,List.foldl_cons,if_pos rfl,hc]
   exact r0 env ns _ λp hp=>h p (List.mem_cons_of_mem _ hp)
  ·dsimp only
   rw[if_neg (by simpa using hk),pure_bind,List.foldl_cons,if_neg hk]
   exact r0 env ns _ λp hp=>h p (List.mem_cons_of_mem _ hp)
theorem xn{sc:Scope}{env:Env}(h:∀p∈sc.names,p.2=.free->∃c,env.cells.lookup p.1=some c):closureFor sc env=pure (rZ sc env):=by
 unfold closureFor rZ
 have:=r0 env sc.names [] h
 exact(congrArg (λm:Sem (List (Str×Addr))=>m>>=λr=>pure r) this).trans rfl
theorem xp(env:Env):∀(ns:List (Str×NameKind)) (acc:List (Str×Addr)) (y:Str) (c:Addr),(ns.foldl (λcs p=>if p.2=.free then(p.1,(env.cells.lookup p.1).getD 0)::cs else cs) acc).lookup y=some c->
  acc.lookup y=some c\/((y,NameKind.free)∈ns/\c=(env.cells.lookup y).getD 0)
 |[],acc,y,c,h=>.inl h
 |(n,k)::ns,acc,y,c,h=>by
  rw[List.foldl_cons]at h
  rcases xp env ns _ y c h with h1|⟨h1,h2⟩
  ·by_cases hk:k=.free
   ·rw[if_pos hk,List.lookup_cons]at h1
    by_cases hy:(y==n)=true
    ·rw[hy]at h1
     have e:y=n:=eq_of_beq hy
     subst e
     exact .inr ⟨by rw[hk];exact List.mem_cons_self ..,(Option.some.inj h1).symm⟩
    ·rw[Bool.not_eq_true]at hy
     rw[hy]at h1
     exact .inl h1
   ·rw[if_neg hk]at h1
    exact .inl h1
  ·exact .inr ⟨List.mem_cons_of_mem _ h1,h2⟩
theorem vO(env:Env):∀(ns:List (Str×NameKind)) (acc:List (Str×Addr)) (y:Str),((y,NameKind.free)∈ns\/∃c,acc.lookup y=some c)->∃c,(ns.foldl (λcs p=>if p.2=.free then(p.1,(env.cells.lookup p.1).getD 0)::cs else cs) acc).lookup y=some c
 |[],acc,y,h=>by
  rcases h with h|h
  ·cases h
  ·exact h
 |(n,k)::ns,acc,y,h=>by
  rw[List.foldl_cons]
  refine vO env ns _ y ?_
  rcases h with h|⟨c,h⟩
  ·rcases List.mem_cons.mp h with e|h
   ·injection e with e1 e2
    subst e1 e2
    rw[if_pos rfl,List.lookup_cons]
    exact .inr ⟨_,by rw[beq_self_eq_true]⟩
   ·exact .inl h
  ·refine .inr ?_
   split
   ·rw[List.lookup_cons]
    cases y==n with
    |true=>exact⟨_,rfl⟩
    |false=>exact⟨c,h⟩
   ·exact⟨c,h⟩
structure gI(xq:Scope)(N:List Str)(sc:Scope)(x:Str)(ys:List Str):Prop where
 kind:sc.kind=.function
 xloc:sc.names.lookup x=some .local
 nocell:∀p∈sc.names,p.2≠.cell
 locs:∀p∈sc.names,p.2=.local->sc.names.lookup p.1=some .local
 free:∀p∈sc.names,p.2=.free->xq.names.lookup p.1=some .cell\/xq.names.lookup p.1=some .free
 nd:(x::ys).Nodup
 len:ys.length=N.length
 pl:∀p∈ys.zip N,sc.names.lookup p.1=some .free->p.1=p.2
 nl:∀y∈ys,sc.names.lookup y≠some .local
noncomputable def nv(xq:Scope)(N:List Str)(sc:Scope)(x:Str)(ys:List Str):Bool:=
 decide (sc.kind=.function)&&decide (sc.names.lookup x=some .local)&&decide (∀p∈sc.names,p.2≠.cell)&&decide (∀p∈sc.names,p.2=.local->sc.names.lookup p.1=some .local)&&
 decide (∀p∈sc.names,p.2=.free->xq.names.lookup p.1=some .cell\/xq.names.lookup p.1=some .free)&&decide ((x::ys).Nodup)&&decide (ys.length=N.length)&&
 decide (∀p∈ys.zip N,sc.names.lookup p.1=some .free->p.1=p.2)&&decide (∀y∈ys,sc.names.lookup y≠some .local)
theorem gI.of{xq:Scope}{N:List Str}{sc:Scope}{x:Str}{ys:List Str}(h:nv xq N sc x ys=true):gI xq N sc x ys:=by
 unfold nv at h
 simp only[Bool.and_eq_true,decide_eq_true_eq]at h
 obtain⟨⟨⟨⟨⟨⟨⟨⟨h1,h2⟩,h3⟩,h4⟩,h5⟩,h6⟩,h7⟩,h8⟩,h9⟩:=h
 exact⟨h1,h2,h3,h4,h5,h6,h7,h8,h9⟩
noncomputable def Cx.pB(X:Cx)(sc:Scope)(x:Str)(ys:List Str)(ex:List Addr)(C:Addr)(s:Shared)(H:Hp):Cx where
 prog:=X.prog
 w:=X.w
 K:=X.K
 mg:=X.mg
 base:=X.base
 A:=X.A
 N:=x::ys
 s₀:=s
 H₀:=H
 env:=compEnvC sc (rZ sc X.env) C X.env
 outer:=X.stack
 stack:=X.stack
 ex:=ex
 fn:=λ_=>false
 calm:=X.calm
 pn:=[]
 xe:=λ_ _=>False
theorem cA{env:Env}:∀{ns:List (Str×NameKind)} {y:Str} {k:NameKind},(ns.map λ(n,k)=>if(k==NameKind.free&&env.scope.kind==.function&&env.kindOf n==some .cell)then(n,NameKind.cell)else(n,k)).lookup y=some k->
  ns.lookup y=some k\/(ns.lookup y=some .free/\k=.cell)
 |[],y,k,h=>by cases h
 |(n,j)::ns,y,k,h=>by
  rw[List.map_cons]at h
  dsimp only at h
  cases hy:y==n with
  |true=>
   by_cases hc:(j==NameKind.free&&env.scope.kind==.function&&env.kindOf n==some .cell)=true
   ·rw[if_pos hc,List.lookup_cons,hy]at h
    have hj:j=.free:=by
     simp only[Bool.and_eq_true]at hc
     exact eq_of_beq hc.1.1
    refine .inr ⟨?_,(Option.some.inj h).symm⟩
    rw[List.lookup_cons,hy,hj]
   ·rw[if_neg hc,List.lookup_cons,hy]at h
    refine .inl ?_
    rw[List.lookup_cons,hy]
    exact h
  |false=>
   have h':(ns.map λ(n,k)=>if(k==NameKind.free&&env.scope.kind==.function&&env.kindOf n==some .cell)then(n,NameKind.cell)else(n,k)).lookup y=some k:=by
    by_cases hc:(j==NameKind.free&&env.scope.kind==.function&&env.kindOf n==some .cell)=true
    ·rw[if_pos hc,List.lookup_cons,hy]at h
     exact h
    ·rw[if_neg hc,List.lookup_cons,hy]at h
     exact h
   rw[List.lookup_cons,hy]
   exact cA h'
section
variable{X:Cx}{pins:List (Addr×Obj)}{σ:St}{H:Hp}{s:Shared}{sc:Scope}{x:Str}{ys:List Str}
theorem gI.cell(cs:gI X.env.scope X.N sc x ys)(I:Inv X pins σ H s){y:Str}(h:(y,NameKind.free)∈sc.names):∃c,X.env.cells.lookup y=some c:=I.ok.has y (cs.free _ h rfl)
theorem gI.cl(cs:gI X.env.scope X.N sc x ys)(I:Inv X pins σ H s){y:Str}{c:Addr}(h:(rZ sc X.env).lookup y=some c):X.env.cells.lookup y=some c/\(y,NameKind.free)∈sc.names:=by
 rcases xp X.env sc.names [] y c h with h1|⟨h1,h2⟩
 ·cases h1
 ·obtain⟨d,hd⟩:=cs.cell I h1
  rw[hd]at h2
  rw[h2]
  exact⟨hd,h1⟩
theorem F4(cs:gI X.env.scope X.N sc x ys)(I:Inv X pins σ H s){fp:List Addr}(hf:∀b∈fp,nj X pins H b)(tS:∀b∈fp,b<s.heap.objs.size){C:Addr}(hC:s.heap.objs.size<=C):(X.pB sc x ys fp C s H).Ok where
 mod:=I.ok.mod
 kind:=cs.kind
 glob:=I.ok.glob
 blt:=I.ok.blt
 above:=hC
 inj:=λy z c h1 h2=>I.ok.inj y z c (cs.cl I h1).1 (cs.cl I h2).1
 has:=λy hy=>by
  have NT:(relabel sc X.env).names.lookup y=some .cell\/(relabel sc X.env).names.lookup y=some .free:=hy
  have hf:(y,NameKind.free)∈sc.names:=by
   rcases NT with h|h
   ·rcases cA h with h1|⟨h1,_⟩
    ·exact absurd rfl (cs.nocell _ (PySem.mem_of_lookup h1))
    ·exact PySem.mem_of_lookup h1
   ·rcases cA h with h1|⟨h1,_⟩
    ·exact PySem.mem_of_lookup h1
    ·exact PySem.mem_of_lookup h1
  exact vO X.env sc.names [] y (.inl hf)
 cab:=λy c h=>by cases h
 hd:=I.ok.hd
 frames:=I.ok.frames
 stk:=.inl rfl
 exf:=λb hb=>⟨λe=>by
  have:=tS b hb
  rw[e]at this
  exact absurd (Nat.lt_of_lt_of_le this hC) (Nat.lt_irrefl _),λy c h=>(hf b hb).2.2.2.2.1 y c (cs.cl I h).1⟩
 bs:=I.bs
 bsz:=Nat.le_trans I.ok.bsz I.sz
 noex:=λb o e hb=>by
  rcases(hf b hb).2.2.2.1 with h|h
  ·exact I.ok.noex b o e h
  ·exact absurd (Nat.lt_of_lt_of_le (Heap.lt_size e) (Nat.le_trans I.ok.bsz h)) (Nat.lt_irrefl _)
 exfs:=λb hb h=>(List.mem_cons.mp (I.vE b h)).elim (hf b hb).2.1 (hf b hb).2.2.1
 funs:=I.stack
 frf:=I.wZ
end
noncomputable def CI(X:Cx)(ifs:List Expr)(t:TT):Prop:=
 ∀(pins:List (Addr×Obj)) (s:Shared) (σ:St) (H:Hp) (Q:Bool->Hp->Prop),Inv X pins σ H s->t σ H Q->
  wpAny (model X.prog X.w) X.A (forIn ifs true λc r=>if r=true then do let ok<-isTrue c X.env (eval c X.env);pure (ForInStep.yield ok)else pure (ForInStep.yield r)) (TP X pins σ Q) X.xe s
theorem ue{X:Cx}:CI X [] (λ_ H Q=>Q true H):=λpins s σ H Q I h=>wpAny_tests_nil ⟨H,I,h⟩
noncomputable def zG(wi:TI)(tt:TT)(te:TE):TE:=λσ H Q=>wi σ H λJ H1=>∃W:Nat->Nat->List V->Hp->Prop,(∃m,W 0 m [] H1)/\∀i m acc H,W i m acc H->
 (J.stop i H/\∀p,H p=none->Q (.ref p) (upd H p (.lst acc)))\/(J.go i H/\acc.length<sizeLine/\∀y H',J.yld i H y H'->tt (some y::σ) H' λb H2=>
   if b=true then te (some y::σ) H2 λz H3=>∃m',m'<m/\W (i+1) m' (acc++[z]) H3 else∃m',m'<m/\W (i+1) m' acc H2)
section
variable{X:Cx}{sc:Scope}{x:Str}{ys:List Str}{px:Pos}{elt iter:Expr}{ifs:List Expr}{pos:Pos}{wi:TI}{tt:TT}{te:TE}
noncomputable def lobj(its:List Value)(n:Nat):Obj:={cls:=.type "list",data:=.seq its.toArray n}
theorem uf{M:Value->Env->Result->Shared->Prop}{pins:List (Addr×Obj)}{σ:St}{H:Hp}{s:Shared}{E:Value->Shared->Prop}(hc:X.calm=true)(cs:gI X.env.scope X.N sc x ys)(I:Inv X pins σ H s)
  (ht:∀ex C s H,CI (X.pB sc x ys ex C s H) ifs tt)(he:∀ex C s H,PE (X.pB sc x ys ex C s H) elt te)
  {it:Addr}{fp:List Addr}{tn:Nat->Heap->Prop}{J:It}(T:Turn X.prog X.w X.K (.Name x px) J fp it tn)(st:tn 0 s.heap)(hf:∀b∈fp,nj X pins H b)
  {W:Nat->Nat->List V->Hp->Prop}{m0:Nat}(w0:W 0 m0 [] H){F:List V->Hp->Prop}
  (turn:∀i m acc H,W i m acc H->(J.stop i H/\F acc H)\/(J.go i H/\acc.length<sizeLine/\∀y H',J.yld i H y H'->tt (some y::σ) H' λb H2=>
    if b=true then te (some y::σ) H2 λz H3=>∃m',m'<m/\W (i+1) m' (acc++[z]) H3 else∃m',m'<m/\W (i+1) m' acc H2))
  (hM:∀(D C:Addr) (ky:Env) (s':Shared) (acc:List V) (H':Hp) (its:List Value) (n:Nat),ky.locals=C->D≠C->s.heap.objs.size<=D->s.heap.objs.size<=C->Inv (X.pB sc x ys fp C s H) [(D,lobj its n)] (none::σ) H' s'->Vals acc its->acc.length<=sizeLine->F acc H'->
    M (.ref D) ky (.ok .next) s'):
  wpAny (model X.prog X.w) X.A (newList []) (λacc s₃=>wpAny (model X.prog X.w) X.A (newFunctionEnv sc X.env.globals (rZ sc X.env) [] X.env.qual none .none (some X.env)) (λky s₄=>
   codeAny (model X.prog X.w) X.A (.compStart (.ListComp elt [⟨.Name x px,iter,ifs,0⟩] sc pos) 0 (.ref it) acc {ky with scope:=relabel sc X.env}) (M acc ky) s₄) E s₃) E s:=by
 have tS:∀b∈fp,b<s.heap.objs.size:=λb hb=>by
  obtain⟨o,e,_⟩:=T.obj 0 _ st b hb
  exact Heap.lt_size e
 refine wpAny_newObj_type (wpAny_newFunctionEnv cs.nocell (by intro y hy;simp at hy) (λh1 HB Ki=>?_) cs.kind)
 dsimp only at HB Ki⊢
 generalize HC:s.heap.push {cls:=.type "list",dict:=none,data:=.seq ([]:List Value).toArray}=h2 at HB Ki⊢
 have hC:h2.objs.size=s.heap.objs.size+1:=by rw[<-HC,Heap.size_push]
 have B4:s.heap.objs.size≠h2.objs.size:=by omega
 have old:∀b o,s.heap.get? b=some o->h1.get? b=some o:=λb o e=>by
  have hb:=Heap.lt_size e
  rw[Ki.2 b (by rw[hC];exact Nat.ne_of_lt (Nat.lt_succ_of_lt hb))]
  exact Heap.get?_push_of_some _ (HC▸Heap.get?_push_of_some _ e)
 have hD:h1.get? s.heap.objs.size=some (lobj [] 0):=by
  rw[Ki.2 _ B4]
  exact Heap.get?_push_of_some _ (HC▸Heap.get?_push_size _ rfl)
 generalize Pk:h2.objs.size=C at*
 have F5:s.heap.objs.size<=C:=by omega
 have zH:∀b,s.heap.objs.size<=b->H b=none:=λb hb=>I.eF.fresh hb
 have E5:∀b,s.heap.objs.size<=b->b∉yh X.stack:=λb hb z=>by
  obtain⟨_,o,ho,_⟩:=(I.stack).mem z
  exact absurd (Nat.lt_of_lt_of_le (Heap.lt_size ho) hb) (Nat.lt_irrefl _)
 have I0:Inv (X.pB sc x ys fp C s H) [(s.heap.objs.size,lobj [] 0)] (none::σ) H {s with heap:=h1,toks:=s.toks+([]:List (Str×Value)).length}:=by
  refine⟨F4 cs I hf tS F5,rfl,I.bare,Un.kept old,⟨_,HB,λi y v e1 e2 e3=>?_⟩,λy c e=>?_,zH _ F5,λy c e=>I.freeC y c (cs.cl I e).1,λp hp=>?_,I.eF.kept old,?_⟩
  ·cases i with
   |zero=>cases e2
   |succ i=>
    have Ly:ys[i]?=some y:=e1
    have NU:σ[i]?=some (some v):=e2
    have zf:(relabel sc X.env).names.lookup y=some .local\/(relabel sc X.env).names.lookup y=some .cell\/(relabel sc X.env).names.lookup y=some .free:=e3
    have Lz:sc.names.lookup y=some .free:=by
     rcases zf with h|h|h
     ·rcases cA h with h1|⟨_,h1⟩
      ·exact absurd h1 (cs.nl y (List.mem_of_getElem? Ly))
      ·cases h1
     ·rcases cA h with h1|⟨h1,_⟩
      ·exact absurd rfl (cs.nocell _ (PySem.mem_of_lookup h1))
      ·exact h1
     ·rcases cA h with h1|⟨h1,_⟩
      ·exact h1
      ·exact h1
    have hi:i<X.N.length:=by
     rw[<-cs.len]
     exact(List.getElem?_eq_some_iff.mp Ly).1
    have hN:X.N[i]?=some y:=by
     have hz:(ys.zip X.N)[i]?=some (y,X.N[i]):=by
      rw[List.getElem?_zip_eq_some]
      exact⟨Ly,List.getElem?_eq_getElem hi⟩
     have:=cs.pl _ (List.mem_of_getElem? hz) Lz
     dsimp only at this
     rw[this]
     exact List.getElem?_eq_getElem hi
    have F6:(y,NameKind.free)∈sc.names:=PySem.mem_of_lookup Lz
    obtain⟨m,hn,hl⟩:=I.loc
    obtain⟨u,r,lk⟩:=hl i y v hN NU (.inr (cs.free _ F6 rfl))
    refine⟨u,r,.inr ⟨?_,?_⟩⟩
    ·rcases zf with h|h
     ·rcases cA h with h1|⟨_,h1⟩
      ·rw[Lz]at h1
       cases h1
      ·cases h1
     ·exact h
    ·rcases lk with⟨k,_⟩|⟨_,c,e,z⟩
     ·rcases cs.free _ F6 rfl with h|h
      ·have k':X.env.scope.names.lookup y=some .local:=k
       rw[h]at k'
       cases k'
      ·have k':X.env.scope.names.lookup y=some .local:=k
       rw[h]at k'
       cases k'
     ·obtain⟨c',HW⟩:=vO X.env sc.names [] y (.inl F6)
      have:c'=c:=by
       have:=(cs.cl I (show(rZ sc X.env).lookup y=some c' from HW)).1
       rw[e]at this
       exact(Option.some.inj this).symm
      subst this
      obtain⟨o,ho,hd⟩:=z
      exact⟨c',HW,o,old _ _ ho,hd⟩
  ·obtain⟨v,o,ho,hd⟩:=I.cell y c (cs.cl I e).1
   exact⟨v,o,old _ _ ho,hd⟩
  ·obtain rfl:p=(s.heap.objs.size,lobj [] 0):=by simpa using(show p∈([]:List (Addr×Obj))++[(s.heap.objs.size,lobj [] 0)]from hp)
   exact⟨hD,zH _ (Nat.le_refl _),B4,E5 _ (Nat.le_refl _),λv z=>by cases z⟩
  ·show(none::σ).length=(x::ys).length
   rw[List.length_cons,List.length_cons,I.len,cs.len]
 have LA:s.heap.objs.size∉fp:=λz=>Nat.lt_irrefl _ (tS _ z)
 have LB:∀{l9:List (Addr×Obj)} {H':Hp} {s':Shared} {σ':St},Inv (X.pB sc x ys fp C s H) l9 σ' H' s'->(∀b∈fp,H' b=none)->(∀p∈l9,p.1∉fp)->∀b∈fp,nj (X.pB sc x ys fp C s H) l9 H' b:=λ{l9 H' s' σ'} I' hn hp b hb=>
  ⟨hn b hb,(I'.ok.exf b hb).1,I'.ok.exfs b hb,.inl hb,(I'.ok.exf b hb).2,λp LC z=>by
    have LD:p∈l9:=by simpa using(show p∈([]:List (Addr×Obj))++l9 from LC)
    exact hp p LD (z▸hb)⟩
 have loop:∀s3:Shared,s3={s with heap:=h1,toks:=s.toks+([]:List (Str×Value)).length}->∀ky:Env,ky.locals=C->
   codeAny (model X.prog X.w) X.A (.compLoop (.ListComp elt [⟨.Name x px,iter,ifs,0⟩] sc pos) 0 (.ref it) (.ref s.heap.objs.size) (compEnvC sc (rZ sc X.env) C X.env)) (M (.ref s.heap.objs.size) ky) s3:=by
  rintro s3 rfl ky F7
  refine codeAny_compLoop_tests (λm s'=>∃i acc H' its n,Inv (X.pB sc x ys fp C s H) [(s.heap.objs.size,lobj its n)] (none::σ) H' s'/\Vals acc its/\acc.length<=sizeLine/\tn i s'.heap/\(∀b∈fp,H' b=none)/\W i m acc H') ?_ m0
   ⟨0,[],H,[],0,I0,.nil,Nat.zero_le _,T.keep 0 _ _ st λb hb o e=>old b o e,λb hb=>(hf b hb).1,w0⟩
  rintro m s' ⟨i,acc,H',its,n,I1,rv,hz,MR,MS,w1⟩
  have LF:∀p∈[(s.heap.objs.size,lobj its n)],p.1∉fp:=λp hp=>by
   obtain rfl:p=(s.heap.objs.size,lobj its n):=by simpa using hp
   exact LA
  rcases turn i m acc H' w1 with⟨stop,fin⟩|⟨go,Pl,step⟩
  ·refine wpAny_mono (T.done (X.pB sc x ys fp C s H) rfl rfl rfl hc i _ s' _ H' (λ_ _=>False) I1 (LB I1 MS LF) MR stop) (λr s4 ⟨hr,I4⟩=>?_) (λ_ _ z=>z.elim)
   subst hr
   exact hM _ C ky s4 acc H' its n F7 B4 (Nat.le_refl _) F5 I4 rv hz fin
  ·refine wpAny_mono (T.item (X.pB sc x ys fp C s H) rfl rfl rfl hc i _ s' _ H' (λ_ _=>False) I1 (LB I1 MS LF) MR go) (λr s4 dS=>?_) (λ_ _ z=>z.elim)
   obtain⟨u,hr,h4⟩:=dS
   subst hr
   dsimp only
   have e0:∀env:Env,(letOwnedTupleGo (.Name x px) (.ref it) u>>=λ_=>assign (.Name x px) env u)=assign (.Name x px) env u:=λenv=>by
    rw[show letOwnedTupleGo (.Name x px) (.ref it) u=pure ()from rfl,pure_bind]
   rw[<-e0]
   refine wpAny_bind (wpAny_mono h4 (λ_ s5 dS=>?_) (λ_ _ z=>z.elim))
   obtain⟨y,H5,I5,r5,y5,Fw,Lb⟩:=dS
   have Lc:=I5.pinned (LB I5 Lb LF) (T.obj _ _ Fw)
   have xl:(X.pB sc x ys fp C s H).env.scope.names.lookup x=some .local:=lookup_relabel_local cs.xloc
   refine wpAny_assign_Name (mf Lc cs.nd (i:=0) rfl (.inl xl) r5 (λs6 I6=>?_) (.inr xl))
   refine wpAny_mono (ht fp C s H _ s6 (some y::σ) H5 _ I6 (step y H5 y5)) (λb s7 dS=>?_) (λ_ _ z=>z.elim)
   obtain⟨H7,I7,q7⟩:=dS
   have Ej:∀{H':Hp} {s':Shared} {σ':St} {pl:List (Addr×Obj)},Inv (X.pB sc x ys fp C s H) (pl++iW fp s5.heap) σ' H' s'->tn (i+1) s'.heap/\∀b∈fp,H' b=none:=λ{H' s' σ' pl} I'=>by
    refine⟨T.keep _ _ _ Fw λb hb o e=>(I'.pin (b,o) (List.mem_append_right _ (List.mem_append_right _ (iX hb e)))).1,λb hb=>?_⟩
    obtain⟨o,e,d⟩:=T.obj _ _ Fw b hb
    exact(I'.pin (b,o) (List.mem_append_right _ (List.mem_append_right _ (iX hb e)))).2.1
   have wk:∀{H':Hp} {s':Shared} {pl:List (Addr×Obj)},Inv (X.pB sc x ys fp C s H) pl (some y::σ) H' s'->Inv (X.pB sc x ys fp C s H) pl (none::σ) H' s':=λ{H' s' pl} I'=>I'.weak (by simp) λj v e=>by
    cases j with
    |zero=>cases e
    |succ j=>exact e
   cases b with
   |false=>
    rw[if_neg Bool.false_ne_true]at q7
    obtain⟨m',hm,w7⟩:=q7
    obtain⟨t7,f7⟩:=Ej I7
    exact⟨m',hm,i+1,acc,H7,its,n,wk I7.mj,rv,hz,t7,f7,w7⟩
   |true=>
    rw[if_pos rfl]at q7
    refine wpAny_mono (he fp C s H _ s7 (some y::σ) H7 _ I7 q7) (λu8 s8 ⟨z,H8,I8,r8,m',hm,w8⟩=>?_) (λ_ _ z=>z.elim)
    obtain⟨t8,f8⟩:=Ej I8
    obtain⟨p1,p2,p3,p4,p5⟩:=I8.pin (s.heap.objs.size,lobj its n) (List.mem_append_right _ (List.mem_append_left _ (List.mem_singleton.mpr rfl)))
    have hl:=rv.length
    refine wpAny_list_append_plain (items:=its.toArray) ⟨n,p1⟩ (λh9 NV sb9=>?_) (by rw[List.size_toArray];omega)
    obtain⟨n9,e9⟩:=NV
    have NW:h9.get? s.heap.objs.size=some (lobj (its++[u8]) n9):=by
     rw[e9]
     unfold lobj
     simp
    have Ia:Inv (X.pB sc x ys fp C s H) (iW fp s5.heap) (none::σ) H8 s8:=(wk I8).oN λp hp=>I8.pin p (List.mem_append_right _ (List.mem_append_right _ hp))
    have Ib:Inv (X.pB sc x ys fp C s H) (iW fp s5.heap) (none::σ) H8 {s8 with heap:=h9,toks:=s8.toks}:=Ia.turned (it:=s.heap.objs.size) (λb o hb e=>(sb9.2 b hb).trans e) p2 p3 (.inr (Nat.le_refl _))
     (λy c e z=>by
       obtain⟨v,o,ho,_⟩:=I.cell y c (cs.cl I e).1
       exact absurd (Heap.lt_size ho) (by rw[z];exact Nat.lt_irrefl _))
     (λp hp z=>by
       have LC:p∈iW fp s5.heap:=by simpa using(show p∈([]:List (Addr×Obj))++iW fp s5.heap from hp)
       exact LA (z▸(qT LC).1))
    refine⟨m',hm,i+1,acc++[z],H8,its++[u8],n9,Ib.oN λp hp=>?_,rv.append (.cons r8 .nil),?_,T.keep _ _ _ t8 λb hb o e=>?_,f8,w8⟩
    ·obtain rfl:p=(s.heap.objs.size,lobj (its++[u8]) n9):=by simpa using hp
     exact⟨NW,p2,p3,p4,λv z=>by cases z⟩
    ·rw[List.length_append,List.length_singleton]
     omega
    ·exact(sb9.2 b (λz=>LA (z▸hb))).trans e
 exact codeAny_compStart_list (loop _ rfl _ rfl) (T.self _ 0 _ _ _ (T.keep 0 _ _ st λb hb o e=>old b o e) (loop _ rfl _ rfl))
end
section
variable{X:Cx}{sc:Scope}{x:Str}{ys:List Str}{px:Pos}{elt iter:Expr}{ifs:List Expr}{pos:Pos}{wi:TI}{tt:TT}{te:TE}
theorem comp_back{pins:List (Addr×Obj)}{σ σ':St}{H H':Hp}{s s':Shared}(cs:gI X.env.scope X.N sc x ys)(I:Inv X pins σ H s){fp:List Addr}(hf:∀b∈fp,nj X pins H b){D C:Addr}{its:List Value}{n:Nat}{acc:List V}
  (I':Inv (X.pB sc x ys fp C s H) [(D,lobj its n)] σ' H' s')(B4:D≠C)(hD:s.heap.objs.size<=D)(hC:s.heap.objs.size<=C)(rv:Vals acc its)(hz:acc.length<=sizeLine){h':Heap}(sb:Heap.SameBut C s'.heap h'):
  Inv X pins σ (upd H' D (.lst acc)) {s' with heap:=h'}:=by
 obtain⟨p1,p2,p3,p4,p5⟩:=I'.pin (D,lobj its n) (List.mem_append_right _ (List.mem_singleton.mpr rfl))
 have below:∀b o,s.heap.get? b=some o->b≠D/\b≠C:=λb o e=>⟨Nat.ne_of_lt (Nat.lt_of_lt_of_le (Heap.lt_size e) hD),Nat.ne_of_lt (Nat.lt_of_lt_of_le (Heap.lt_size e) hC)⟩
 have U:Un (yh X.stack) fp H H' s.heap s'.heap:=I'.base
 have md:H' C=none:=I'.free
 refine I.HY (ch:=fp) I'.os ⟨λb o e n hb hx=>?_,λb o e n hb hx=>?_,λb o e n hx=>?_,λb o e hx=>?_,λb xs e=>?_,λb o u e=>?_,λb ps e=>?_⟩ (λb o e=>?_) I'.bare λb hb=>⟨(hf b hb).2.2.2.1,(hf b hb).2.1,(hf b hb).2.2.2.2.1,(hf b hb).2.2.2.2.2⟩
 ·exact(sb.2 b (below b o e).2).trans (U.keep b o e n hb hx)
 ·obtain⟨sl,q⟩:=U.slot b o e n hb hx
  exact⟨sl,(sb.2 b (below b o e).2).trans q⟩
 ·rw[aF (below b o e).1]
  exact U.free b o e n hx
 ·obtain⟨o',q⟩:=U.there b o e hx
  exact⟨o',(sb.2 b (below b o e).2).trans q⟩
 ·rw[aF (bF (U.qB b xs e) p2)]
  exact U.qB b xs e
 ·rw[aF (bF (U.pd b o u e) p2)]
  exact U.pd b o u e
 ·obtain⟨more,q⟩:=U.rM b ps e
  exact⟨more,by rw[aF (bF q p2)];exact q⟩
 ·by_cases hb:b=D
  ·subst hb
   rw[aM]at e
   cases e
   exact⟨hz,its,n,rv,(sb.2 b B4).trans p1⟩
  ·rw[aF hb]at e
   refine(I'.eF b o e).tT (λc v hc q=>(sb.2 c ?_).trans q) (λc q=>?_) λc xs q=>?_
   ·rintro rfl
    rcases hc with hc|hc
    ·rw[hc,e]at md
     cases md
    ·rw[hc]at md
     cases md
   ·rw[aF (bF q p2)]
    exact q
   ·rw[aF (bF q p2)]
    exact q
theorem SameBut.LG(a:Addr)(h:Heap):Heap.SameBut a h h:=⟨rfl,λ_ _=>rfl⟩
theorem CJ(hi:PI X (.Name x px) iter wi)(ys:List Str)(ht:∀ex C s H,CI (X.pB sc x ys ex C s H) ifs tt)(he:∀ex C s H,PE (X.pB sc x ys ex C s H) elt te)(F8:nv X.env.scope X.N sc x ys=true)(hc:X.calm=true:=by rfl)
  (hs:∀x,foldedSetIterable iter X.env x=pure x:=by intro _;rfl):PE X (.ListComp elt [⟨.Name x px,iter,ifs,0⟩] sc pos) (zG wi tt te):=by
 have cs:=gI.of F8
 intro pins s σ H Q I h
 rw[eval_ListComp]
 refine wpAny_comprehension_free (use:=none) (cl:=rZ sc X.env) rfl hs (xn λp hp hk=>cs.cell I (by rw[<-hk];exact hp)) cs.kind cs.locs ?_
 refine dZ (hi pins s σ H _ I h) λv s1 h1=>dZ h1 λKa s2 h2=>?_
 obtain⟨it,fp,tn,J,H2,rfl,I2,T,Ee,f2,W,⟨m0,w0⟩,turn⟩:=h2
 refine uf (M:=λacc ky=>compPost (model X.prog X.w) X.A X.xe none (EP X pins σ Q) acc ky.locals) hc cs I2 ht he T Ee f2 w0 (F:=λacc H=>∀p,H p=none->Q (.ref p) (upd H p (.lst acc))) turn λD C ky s' acc H' its n F7 B4 hD hC I' rv hz q=>?_
 obtain⟨m,hn,_⟩:=I'.loc
 refine⟨m,by rw[F7];exact hn,λh' sb=>?_⟩
 rw[F7]at sb
 exact⟨.ref D,_,comp_back cs I2 f2 I' B4 hD hC rv hz sb,rfl,q D (I'.pin (D,lobj its n) (List.mem_append_right _ (List.mem_singleton.mpr rfl))).2.1⟩
theorem CK{i:Nat}{y:Str}{py zI:Pos}(hN:X.N.Nodup)(LH:X.N[i]?=some y)(hy:X.env.scope.names.lookup y=some .local)(hi:PI X (.Name x px) iter wi)(ys:List Str)(ht:∀ex C s H,CI (X.pB sc x ys ex C s H) ifs tt)(he:∀ex C s H,PE (X.pB sc x ys ex C s H) elt te)
  (F8:nv X.env.scope X.N sc x ys=true)(hc:X.calm=true:=by rfl)(hs:∀x,foldedSetIterable iter X.env x=pure x:=by intro _;rfl)
  (LI:swapsWith (.ListComp elt [⟨.Name x px,iter,ifs,0⟩] sc pos) (some (.Name y py)) zI.line X.env=pure true:=by rfl):
  PS X (.Assign [.Name y py] (.ListComp elt [⟨.Name x px,iter,ifs,0⟩] sc pos) zI) (λD σ H=>zG wi tt te σ H λv H1=>D.nx (σ.set i (some v)) H1):=by
 have cs:=gI.of F8
 intro pins s σ H D I h
 rw[exec_Assign_Name_used _ _ _ _ LI]
 refine wpAny_bind (wpAny_standAt (wpAny_bind ?_))
 show wpAny _ X.A (do let _<-comprehension (.ListComp elt [⟨.Name x px,iter,ifs,0⟩] sc pos) sc X.env _ (newList []) false (eval iter X.env) (some (assign (.Name y py) X.env))) _ _ s
 refine wpAny_bind (wpAny_mono (wpAny_comprehension_free (use:=some (assign (.Name y py) X.env)) (cl:=rZ sc X.env) (Q:=λ_ s'=>SP X pins D .next s') rfl hs (xn λp hp hk=>cs.cell I (by rw[<-hk];exact hp)) cs.kind cs.locs ?_) (λ_ s' hq=>wpAny_pure (wpAny_pure hq)) λ_ _ e=>e)
 refine dZ (hi pins s σ H _ I h) λv s1 h1=>dZ h1 λKa s2 h2=>?_
 obtain⟨it,fp,tn,J,H2,rfl,I2,T,Ee,f2,W,⟨m0,w0⟩,turn⟩:=h2
 refine uf (M:=λacc ky=>compPost (model X.prog X.w) X.A X.xe (some (assign (.Name y py) X.env)) (λ_ s'=>SP X pins D .next s') acc ky.locals) hc cs I2 ht he T Ee f2 w0
  (F:=λacc H=>∀p,H p=none->D.nx (σ.set i (some (.ref p))) (upd H p (.lst acc))) turn λDa C ky s' acc H' its n F7 B4 hD hC I' rv hz q=>?_
 obtain⟨m,hn,_⟩:=I'.loc
 have Io:=comp_back cs I2 f2 I' B4 hD hC rv hz (SameBut.LG C s'.heap)
 have MT:C≠X.env.locals:=λe=>absurd (Nat.lt_of_lt_of_le I2.lt hC) (by rw[e];exact Nat.lt_irrefl _)
 have MU:∀z c,X.env.cells.lookup z=some c->c≠C:=λz c e e'=>by
  obtain⟨v,o,ho,_⟩:=I2.cell z c e
  exact absurd (Nat.lt_of_lt_of_le (Heap.lt_size ho) hC) (by rw[e'];exact Nat.lt_irrefl _)
 refine wpAny_assign_Name (qR (v:=.ref Da) Io hN LH (.inl hy) rfl (λIC NX dS=>?_) (.inr hy))
 obtain⟨a,sb,ha⟩:=dS
 have NY:C≠a:=by
  rcases ha with e|e
  ·rw[e]
   exact MT
  ·exact(MU y a e).symm
 refine⟨m,by rw[F7];exact hn.sameBut sb NY,λh' MV=>?_⟩
 rw[F7]at MV
 have md:(upd H' Da (.lst acc)) C=none:=by
  rw[aF B4.symm]
  exact I'.free
 refine⟨_,_,NX.turned (t':=IC.toks) (it:=C) (λb o hb e=>(MV.2 b hb).trans e) md MT (.inr (Nat.le_trans I2.sz hC)) MU (λp hp e=>?_),q Da (I'.pin (Da,lobj its n) (List.mem_append_right _ (List.mem_singleton.mpr rfl))).2.1⟩
 exact absurd (Nat.lt_of_lt_of_le (Heap.lt_size (I2.pin p hp).1) hC) (by rw[e];exact Nat.lt_irrefl _)
end
end L2
namespace L2
open PySem PySem.Spec PyProof.Rows PySem.SeqAt
section
variable{X:Cx}{pins:List (Addr×Obj)}{σ:St}{H:Hp}{s:Shared}{a b:Addr}{xs ys:List V}{A:Around}
theorem ug(I:Inv X pins σ H s)(ha:k8 X.K H a xs)(hb:k8 X.K H b ys)(hu:A.units<cLine)(q:Nat->Bool)
  (hq:∀(j:Nat) x y u v,xs[j]?=some x->ys[j]?=some y->RelV x u->RelV y v->EqAt A.in1 s u v (q j)):RcAt A s (.ref a) (.ref b) (decide (xs.length=ys.length)&&(List.range xs.length).all q):=by
 obtain⟨its,r1,p1,z1⟩:=I.list ha
 obtain⟨qF,r2,p2,z2⟩:=I.list hb
 have l1:=r1.length
 have l2:=r2.length
 by_cases hl:xs.length=ys.length
 ·rw[decide_eq_true hl,Bool.true_and]
  have:=RcAt.lists (A:=A) (s:=s) (e:=q) p1.isList p2.isList (by rw[List.size_toArray,List.size_toArray];omega) hu λj h1 h2=>?_
  ·rw[List.size_toArray,<-l1]at this
   exact this
  ·rw[List.size_toArray]at h1 h2
   obtain⟨x,hx⟩:∃x,xs[j]?=some x:=⟨xs[j],List.getElem?_eq_getElem (by omega)⟩
   obtain⟨y,hy⟩:∃y,ys[j]?=some y:=⟨ys[j],List.getElem?_eq_getElem (by omega)⟩
   obtain⟨u,e1,ru⟩:=r1.get hx
   obtain⟨v,e2,rv⟩:=r2.get hy
   have f1:its.toArray[j]=u:=by
    have:=(List.getElem?_eq_some_iff.mp e1).2
    simpa using this
   have f2:qF.toArray[j]=v:=by
    have:=(List.getElem?_eq_some_iff.mp e2).2
    simpa using this
   rw[f1,f2]
   exact hq j x y u v hx hy ru rv
 ·rw[decide_eq_false hl,Bool.false_and]
  exact RcAt.lists_lengths p1.isList p2.isList (by rw[List.size_toArray,List.size_toArray];simp;omega) hu
theorem vP(I:Inv X pins σ H s)(ha:k8 X.K H a xs)(hb:k8 X.K H b ys)(hu:A.units<cLine)(q:Nat->Bool)
  (hq:∀(j:Nat) x y u v,xs[j]?=some x->ys[j]?=some y->RelV x u->RelV y v->EqAt A.in1 s u v (q j)):RcNeAt A s (.ref a) (.ref b) (!(decide (xs.length=ys.length)&&(List.range xs.length).all q)):=by
 obtain⟨its,r1,p1,z1⟩:=I.list ha
 obtain⟨qF,r2,p2,z2⟩:=I.list hb
 have l1:=r1.length
 have l2:=r2.length
 by_cases hl:xs.length=ys.length
 ·rw[decide_eq_true hl,Bool.true_and]
  have:=RcNeAt.lists (A:=A) (s:=s) (e:=q) p1.isList p2.isList (by rw[List.size_toArray,List.size_toArray];omega) hu λj h1 h2=>?_
  ·rw[List.size_toArray,<-l1]at this
   exact this
  ·rw[List.size_toArray]at h1 h2
   obtain⟨x,hx⟩:∃x,xs[j]?=some x:=⟨xs[j],List.getElem?_eq_getElem (by omega)⟩
   obtain⟨y,hy⟩:∃y,ys[j]?=some y:=⟨ys[j],List.getElem?_eq_getElem (by omega)⟩
   obtain⟨u,e1,ru⟩:=r1.get hx
   obtain⟨v,e2,rv⟩:=r2.get hy
   have f1:its.toArray[j]=u:=by
    have:=(List.getElem?_eq_some_iff.mp e1).2
    simpa using this
   have f2:qF.toArray[j]=v:=by
    have:=(List.getElem?_eq_some_iff.mp e2).2
    simpa using this
   rw[f1,f2]
   exact hq j x y u v hx hy ru rv
 ·rw[decide_eq_false hl,Bool.false_and]
  exact RcNeAt.lists_lengths p1.isList p2.isList (by rw[List.size_toArray,List.size_toArray];simp;omega) hu
theorem range_all(bs:List Bool):(List.range bs.length).all (λi=>bs.getD i false)=bs.all id:=by
 rw[Bool.eq_iff_iff,List.all_eq_true,List.all_eq_true]
 constructor
 ·intro h b h1
  obtain⟨i,hi,e⟩:=List.mem_iff_getElem.mp h1
  have:=h i (List.mem_range.mpr hi)
  rw[List.getD_eq_getElem?_getD,List.getElem?_eq_getElem hi,e]at this
  exact this
 ·intro h i h1
  have hi:=List.mem_range.mp h1
  rw[List.getD_eq_getElem?_getD,List.getElem?_eq_getElem hi]
  exact h bs[i] (List.getElem_mem hi)
end
end L2
namespace L2.D
open PySem
inductive PV where
 |non|bl(b:Bool)|int(i:Int)|str(x:Str)|lst(l:List PV)|tup(l:List PV)|ins(c:Nat)(l:List PV)
 deriving Inhabited
noncomputable def flat:PV->Bool
 |.non=>true
 |.bl _=>true
 |.int _=>true
 |.str _=>true
 |_=>false
noncomputable def B5:PV->PV->Bool
 |.non,.non=>true
 |.bl a,.bl b=>a==b
 |.bl a,.int b=>(if a then 1 else 0)==b
 |.int a,.bl b=>a==(if b then 1 else 0)
 |.int a,.int b=>a==b
 |.str a,.str b=>a==b
 |_,_=>false
noncomputable def oI(f:PV->PV->Option Bool):List PV->List PV->Option (List Bool)
 |a::l,b::m=>(f a b).bind λe=>(oI f l m).map (e::·)
 |_,_=>some []
noncomputable def B6(f:PV->PV->Option Bool)(l m:List PV):Option Bool:=if l.length=m.length then(oI f l m).map λes=>es.all id else some false
noncomputable def ki:Nat->PV->PV->Option Bool
 |n+1,.lst l,.lst m=>B6 (ki n) l m
 |n+1,.tup l,.tup m=>if l.length=m.length then B6 (ki n) l m else none
 |_,p,q=>if flat p&&flat q then some (B5 p q)else none
inductive Cn where
 |l(xs:List PV)|d(b9:List (Int×PV))
 deriving Inhabited
inductive Slot where
 |un|sh(p:PV)|own(c:Cn)|bw(l:List PV)
 deriving Inhabited
noncomputable abbrev Slot.ow(l:List PV):Slot:=.own (.l l)
noncomputable abbrev c8:=List Slot
noncomputable abbrev Den:=c8->Option PV
noncomputable def Slot.val:Slot->Option PV
 |.un=>none
 |.sh p=>some p
 |.own (.l l)=>some (.lst l)
 |.own (.d _)=>none
 |.bw l=>some (.lst l)
noncomputable def Slot.LJ:Slot->Option PV
 |.sh p=>some p
 |_=>none
inductive Fl where
 |nx(ρ:c8)|rt(p:PV)|bk(ρ:c8)|ct(ρ:c8)
noncomputable abbrev aU:=c8->Option Fl
noncomputable abbrev dX:=c8->Option Bool
noncomputable abbrev dg:=c8->Option (List PV)
noncomputable def dC(p:PV):Den:=λ_=>some p
noncomputable def dV(i:Nat):Den:=λρ=>(ρ[i]?).bind Slot.val
noncomputable def cI(i:Nat):Den:=λρ=>(ρ[i]?).bind Slot.LJ
noncomputable def a8(g:PV->Option PV)(a:Den):Den:=λρ=>(a ρ).bind g
noncomputable def af(g:PV->PV->Option PV)(a b:Den):Den:=λρ=>(a ρ).bind λx=>(b ρ).bind λy=>g x y
noncomputable def aK:dg:=λ_=>some []
noncomputable def ae(a:Den)(as:dg):dg:=λρ=>(a ρ).bind λx=>(as ρ).bind λxs=>some (x::xs)
noncomputable def cj(F:List PV->Option PV)(as:dg):Den:=λρ=>(as ρ).bind F
noncomputable def vQ(as:dg):Den:=λρ=>(as ρ).bind λxs=>if xs.length<=sizeLine then some (.lst xs)else none
noncomputable def gd(as:dg):Den:=λρ=>(as ρ).bind λxs=>if xs.length<=sizeLine then some (.tup xs)else none
noncomputable def F9:PV->Option Bool
 |.bl b=>some b
 |_=>none
noncomputable def tV(a:Den):dX:=λρ=>(a ρ).bind F9
noncomputable def tX(a b:dX):dX:=λρ=>(a ρ).bind λc=>if c then some true else b ρ
noncomputable def mi(a:dX):dX:=λρ=>(a ρ).map (!·)
noncomputable def bB:PV->PV->Option PV
 |.int i,.int j=>some (.int (i+j))
 |.str x,.str y=>if x.length+y.length<=sizeLine then some (.str (x++y))else none
 |.lst l,.lst m=>if l.length+m.length<=sizeLine then some (.lst (l++m))else none
 |_,_=>none
noncomputable def yu:PV->PV->Option PV
 |.int i,.int j=>some (.int (i-j))
 |_,_=>none
noncomputable def uh(i j:Int):Bool:=(decide (-(2^64)<i)&&decide (i<2^64))||(decide (-(2^64)<j)&&decide (j<2^64))
noncomputable def ny:PV->PV->Option PV
 |.int i,.int j=>if uh i j then some (.int (i*j))else none
 |_,_=>none
noncomputable def iZ:PV->PV->Option PV
 |.int i,.int j=>if decide (0<j)&&decide (j<1073741824)then some (.int (i/j))else none
 |_,_=>none
noncomputable def cX:PV->PV->Option PV
 |.int i,.int j=>if decide (0<j)then some (.int (i % j))else none
 |_,_=>none
noncomputable def pC:PV->Option PV
 |.int i=>some (.int (-i))
 |_=>none
noncomputable def eqT:PV->PV->Option Bool
 |.non,.non=>some true
 |.non,.int _=>some false
 |.non,.bl _=>some false
 |.non,.str _=>some false
 |.int _,.non=>some false
 |.bl _,.non=>some false
 |.str _,.non=>some false
 |.int a,.int b=>some (decide (a=b))
 |.bl a,.bl b=>some (decide (a=b))
 |.str a,.str b=>some (decide (a=b))
 |.int _,.str _=>some false
 |.str _,.int _=>some false
 |.bl _,.str _=>some false
 |.str _,.bl _=>some false
 |.lst l,.lst m=>ki 20 (.lst l) (.lst m)
 |.tup l,.tup m=>ki 20 (.tup l) (.tup m)
 |_,_=>none
noncomputable def nh(a b:PV):Option PV:=(eqT a b).map PV.bl
noncomputable def MW(a b:PV):Option PV:=(eqT a b).map λe=>PV.bl !e
noncomputable def B7:PV->PV->Option PV
 |.int i,.int j=>some (.bl (decide (i<j)))
 |_,_=>none
noncomputable def Ek:PV->PV->Option PV
 |.int i,.int j=>some (.bl (decide (j<i)))
 |_,_=>none
noncomputable def ui:PV->Option PV
 |.non=>some (.bl true)
 |_=>some (.bl false)
noncomputable def r9(x:PV)(l:List PV):Bool:=l.any λy=>B5 y x
noncomputable def IV:PV->PV->Option PV
 |x,.lst l=>if flat x&&l.all flat then some (.bl (r9 x l))else none
 |x,.tup l=>if flat x&&l.all flat then some (.bl (r9 x l))else none
 |_,_=>none
noncomputable def pD:PV->PV->Option PV
 |x,.lst l=>if flat x&&l.all flat then some (.bl (!r9 x l))else none
 |x,.tup l=>if flat x&&l.all flat then some (.bl (!r9 x l))else none
 |_,_=>none
noncomputable def HD(n:Nat)(i:Int):Option Nat:=if 0<=i then(if i<n then some i.toNat else none)else if-(n:Int)<=i then some (i+n).toNat else none
noncomputable def itemAt{α:Type}(l:List α)(i:Int):Option α:=(HD l.length i).bind λj=>l[j]?
noncomputable def kj:PV->PV->Option PV
 |.lst l,.int i=>itemAt l i
 |.tup l,.int i=>itemAt l i
 |.str x,.int i=>if x.length<=sizeLine then(itemAt x.cps.toList i).map λc=>.str ⟨#[c]⟩else none
 |_,_=>none
noncomputable def dY:PV->Option PV
 |.lst l=>some (.int l.length)
 |.tup l=>some (.int l.length)
 |.str x=>if x.length<=sizeLine then some (.int x.length)else none
 |_=>none
noncomputable def uj:PV->Option PV
 |.lst l=>some (.lst l)
 |.tup l=>some (.lst l)
 |_=>none
noncomputable def xr:PV->Nat
 |.int _=>0
 |.bl _=>1
 |.str _=>2
 |.lst _=>3
 |.tup _=>4
 |.non=>5
 |.ins _ _=>6
noncomputable def vR(k:Nat)(p:PV):Bool:=xr p==k||(k==0&&xr p==1)
noncomputable def kl(k:Nat)(p:PV):Option PV:=if xr p=6 then none else some (.bl (vR k p))
noncomputable def uk(n d:Nat):Option Int->Nat
 |none=>d
 |some i=>if i<0 then(i+n).toNat else min i.toNat n
noncomputable def jK{α:Type}(l:List α)(lo hi:Option Int):List α:=(l.drop (uk l.length 0 lo)).take (uk l.length l.length hi-uk l.length 0 lo)
noncomputable abbrev sd:=c8->Option (Option Int)
noncomputable def eI:sd:=λ_=>some none
noncomputable def Kj:PV->Option Int
 |.int i=>some i
 |_=>none
noncomputable def bT(a:Den):sd:=λρ=>(a ρ).bind λp=>(Kj p).map some
noncomputable def xt(a:Den)(lo hi:sd):Den:=λρ=>(a ρ).bind λx=>(lo ρ).bind λl=>(hi ρ).bind λh=>match x with
 |.lst xs=>some (.lst (jK xs l h))
 |_=>none
noncomputable def zJ:PV->Option (List PV)
 |.lst l=>some l
 |_=>none
noncomputable def vS:PV->Option (List PV)
 |.tup l=>some l
 |_=>none
noncomputable def nList(a:Den):dg:=λρ=>(a ρ).bind zJ
noncomputable def zK(a:Den):dg:=λρ=>(a ρ).bind vS
noncomputable def i3(lo:Int)(n:Nat):List PV:=(List.range n).map λk=>.int (lo+(k:Nat))
noncomputable def um(j:Int):Bool:=decide (-(2^62)<=j)&&decide (j<2^62)
noncomputable def kG(a:Den):dg:=λρ=>(a ρ).bind λp=>(Kj p).bind λj=>if um j then some (i3 0 j.toNat)else none
noncomputable def kI(c:dX)(e:Den)(ρ:c8):List PV->Option (List PV)
 |[]=>some []
 |x::xs=>(c (.sh x::ρ)).bind λb=>if b then(e (.sh x::ρ)).bind λz=>(kI c e ρ xs).map (z::·)else kI c e ρ xs
noncomputable def dh:dX:=λ_=>some true
noncomputable def dP(it:dg)(c:dX)(e:Den):Den:=λρ=>(it ρ).bind λxs=>if xs.length<=sizeLine then(kI c e ρ xs).map PV.lst else none
noncomputable def cB:aU:=λρ=>some (.nx ρ)
noncomputable def aX(a b:aU):aU:=λρ=>(a ρ).bind λf=>match f with
 |.nx ρ'=>b ρ'
 |f=>some f
noncomputable def cN(i:Nat)(a:Den):aU:=λρ=>(a ρ).map λp=>.nx (ρ.set i (.sh p))
noncomputable def mq(i:Nat)(a:Den):aU:=λρ=>(a ρ).bind λp=>(zJ p).map λl=>.nx (ρ.set i (.ow l))
noncomputable def bV(a:Den):aU:=λρ=>(a ρ).map Fl.rt
noncomputable def iV(t:dX)(a b:aU):aU:=λρ=>(t ρ).bind λc=>if c then a ρ else b ρ
noncomputable def pE:aU:=λρ=>some (.bk ρ)
noncomputable def CL(i:Nat):aU:=λρ=>match ρ[i]? with
 |some (.own (.l l))=>some (.nx (ρ.set i (.sh (.lst l))))
 |_=>some (.nx ρ)
noncomputable def uo(ρ:c8)(i:Nat):Option (List PV):=match ρ[i]? with
 |some (.own (.l l))=>some l
 |_=>none
noncomputable def pF(i:Nat)(g:List PV->List PV->Option (List PV))(as:dg):aU:=λρ=>(as ρ).bind λxs=>(uo ρ i).bind λl=>(g l xs).map λl'=>.nx (ρ.set i (.ow l'))
noncomputable def hU(l xs:List PV):Option (List PV):=match xs with
 |[x]=>if l.length<sizeLine then some (l++[x])else none
 |_=>none
noncomputable def zL(l xs:List PV):Option (List PV):=match xs with
 |[]=>some []
 |_=>none
noncomputable abbrev qx:=PV->c8->Option c8
noncomputable def bW(i:Nat):qx:=λp ρ=>some (ρ.set i (.sh p))
noncomputable def nA(a b:qx):qx:=λp ρ=>match p with
 |.tup [x,y]=>(a x ρ).bind (b y)
 |_=>none
noncomputable def forL(g:qx)(body:aU):List PV->aU
 |[]=>λρ=>some (.nx ρ)
 |x::xs=>λρ=>(g x ρ).bind λρ1=>(body ρ1).bind λf=>match f with
  |.nx ρ'=>forL g body xs ρ'
  |.ct ρ'=>forL g body xs ρ'
  |.bk ρ'=>some (.nx ρ')
  |.rt p=>some (.rt p)
noncomputable def pG(it:dg)(g:qx)(body:aU):aU:=λρ=>(it ρ).bind λxs=>forL g body xs ρ
noncomputable def fG(t:dX)(body:aU):Nat->aU
 |0=>λ_=>none
 |n+1=>λρ=>(t ρ).bind λc=>if c then(body ρ).bind λf=>match f with
   |.nx ρ'=>fG t body n ρ'
   |.ct ρ'=>fG t body n ρ'
   |.bk ρ'=>some (.nx ρ')
   |.rt p=>some (.rt p)
  else some (.nx ρ)
noncomputable def iR(a b:Den):Den:=λρ=>(a ρ).bind λx=>(F9 x).bind λc=>if c then b ρ else some (.bl false)
noncomputable def zM(a:Den):Den:=λρ=>(a ρ).bind λx=>(F9 x).map λc=>.bl !c
noncomputable def El(i:Nat):aU:=λρ=>(uo ρ i).map λl=>.rt (.lst l)
noncomputable def kz(a b:PV):Option PV:=match a with
 |.tup _=>none
 |_=>MW a b
noncomputable def pH:List PV->Option (List Int)
 |[]=>some []
 |.int i::l=>(pH l).map (i::·)
 |_::_=>none
noncomputable def sf:PV->Option PV
 |.lst l=>some (.tup l)
 |.tup l=>some (.tup l)
 |_=>none
noncomputable def ij(n:Nat)(ps:List PV):c8:=ps.map Slot.sh++List.replicate (n-ps.length) .un
noncomputable def IW(fr:Bool):Fl->Option PV
 |.rt p=>some p
 |.nx _=>if fr then none else some .non
 |_=>none
noncomputable def fn(fr:Bool)(n k:Nat)(body:aU)(ps:List PV):Option PV:=if ps.length=k then(body (ij n ps)).bind (IW fr)else none
noncomputable def xu:List qx->List PV->c8->Option c8
 |[],[],ρ=>some ρ
 |t::ts,p::ps,ρ=>(t p ρ).bind (xu ts ps)
 |_,_,_=>none
noncomputable def zN(ts:List qx):qx:=λp ρ=>match p with
 |.tup l=>xu ts l ρ
 |_=>none
noncomputable def IX(g:qx)(a:Den):aU:=λρ=>(a ρ).bind λp=>(g p ρ).map Fl.nx
noncomputable def bU(x:Str)(lo hi:Option Int)(st:Int):Str:=if(st==1&&(Builtin.Str.strSliceIndices lo hi st x.length).length==x.length)=true then x else⟨((Builtin.Str.strSliceIndices lo hi st x.length).filterMap (x.cps[·]?)).toArray⟩
noncomputable def i4(a:Den)(lo hi:sd):Den:=λρ=>(a ρ).bind λx=>(lo ρ).bind λl=>(hi ρ).bind λh=>match x with
 |.lst xs=>some (.lst (jK xs l h))
 |.str y=>if y.length<=sizeLine then some (.str (bU y l h 1))else none
 |_=>none
noncomputable def Ga:PV->Option PV
 |.str y=>if y.length<=sizeLine then some (.str (bU y none none (-1)))else none
 |_=>none
noncomputable def En:PV->PV->Option PV
 |.str x,.str y=>some (.int (Txt.find x y))
 |_,_=>none
noncomputable def ra:List PV->Option (List Str)
 |[]=>some []
 |.str x::l=>(ra l).map (x::·)
 |_::_=>none
noncomputable def uq:PV->PV->Option PV
 |.str x,.lst l=>(ra l).bind λts=>if JoinOk x ts then some (.str (Txt.join x ts))else none
 |_,_=>none
noncomputable def yv:PV->Option PV
 |.int i=>if decide (i.natAbs<1000000)then some (.str (toString i))else none
 |_=>none
noncomputable def IY:List Int->Option Int
 |[]=>none
 |x::l=>some (l.foldl (λa b=>if b>a then b else a) x)
noncomputable def gk(ft:Nat->List Str)(f:Str):PV->Option PV
 |.ins c l=>((ft c).zip l).lookup f
 |_=>none
noncomputable def eJ(Fs:Nat->List PV->Option PV)(o:Den)(as:dg):Den:=λρ=>(o ρ).bind λp=>match p with
 |.ins c l=>(as ρ).bind λxs=>Fs c (.ins c l::xs)
 |_=>none
noncomputable def xv:PV->Option PV
 |.str x=>some (.ins 0 [.str x])
 |_=>none
noncomputable def ur:PV->Option PV
 |.lst l=>some (.ins 1 [.int l.length,.tup l])
 |_=>none
noncomputable def uw:PV->Option PV
 |.lst l=>some (.ins 2 [.int 1,.tup l])
 |_=>none
noncomputable def pI:PV->PV->Option PV
 |.int m,.lst l=>some (.ins 3 [.int m,.tup l])
 |_,_=>none
noncomputable def HE(c:Nat):List Str:=if c=0 then["name"]else if c<4 then["wanted","parts"]else[]
noncomputable def Gb:PV->Option PV
 |.ins c _=>if decide (c<4)then some (.bl true)else none
 |_=>none
noncomputable def kJ:PV->Option PV
 |.lst l=>(pH l).bind λns=>(IY ns).map PV.int
 |_=>none
noncomputable def toS:PV->Option Str
 |.str x=>some x
 |_=>none
theorem oQ{p:PV}{x:Str}(h:toS p=some x):p=.str x:=by
 cases p<;>first|(cases h;done)|skip
 cases h
 rfl
end L2.D
namespace L2.D
open PySem PySem.Spec PyProof.Rows
open Classical
structure Kl where
 adr:Nat->Addr
 fld:Nat->List Str
noncomputable def SL(K:PySem.W.Frag)(H:Hp)(a:Addr)(xs:List V):Prop:=
 Rd H a (.lst xs)\/∃(its:List Value) (n:Nat),K.lookup a=some {cls:=.type "list",data:=.seq its.toArray n}/\its.length<=sizeLine/\Vals xs its
theorem SL.of{K:PySem.W.Frag}{H:Hp}{a:Addr}{xs:List V}(h:H a=some (.lst xs)):SL K H a xs:=.inl (.inl h)
theorem SL.sq{K:PySem.W.Frag}{H:Hp}{a:Addr}{xs:List V}(h:SL K H a xs):k8 K H a xs:=by
 rcases h with h|⟨its,n,h1,h2,h3⟩
 ·exact .inl h
 ·exact .inr ⟨_,its.toArray,n,h1,rfl,rfl,rfl,by simpa using h2,by simpa using h3⟩
theorem _root_.L2.aE.sl{K:PySem.W.Frag}{H H':Hp}{a:Addr}{xs:List V}(e:aE H H')(h:SL K H a xs):SL K H' a xs:=by
 rcases h with(h|⟨o,h⟩)|h
 ·exact .inl (.inl (e _ _ h))
 ·exact .inl (.inr ⟨o,e _ _ h⟩)
 ·exact .inr h
theorem _root_.L2.Inv.sl{X:Cx}{pins:List (Addr×Obj)}{σ:St}{H:Hp}{s:Shared}{a:Addr}{xs:List V}(I:Inv X pins σ H s)(h:SL X.K H a xs):∃(its:List Value) (n:Nat),Vals xs its/\s.heap.get? a=some {cls:=.type "list",data:=.seq its.toArray n}/\xs.length<=sizeLine:=by
 rcases h with h|⟨its,n,h1,h2,h3⟩
 ·obtain⟨z,its,n,r,e⟩:=h.ok I.eF
  exact⟨its,n,r,e,z⟩
 ·exact⟨its,n,h3,I.iU a _ h1,by rw[h3.length];exact h2⟩
mutual
inductive Rep(K:PySem.W.Frag)(κ:Kl)(H:Hp):V->PV->Prop
 |non:Rep K κ H .non .non
 |bl (b:Bool):Rep K κ H (.bl b) (.bl b)
 |int (i:Int):Rep K κ H (.int i) (.int i)
 |str (x:Str):Rep K κ H (.str x) (.str x)
 |lst {a:Addr} {vs:List V} {l:List PV}:SL K H a vs->aO K κ H vs l->Rep K κ H (.ref a) (.lst l)
 |tup {a:Addr} {vs:List V} {l:List PV}:k9 K H a vs->aO K κ H vs l->Rep K κ H (.ref a) (.tup l)
 |ins {a dx:Addr} {c:Nat} {vs:List V} {l:List PV}:H a=some (.ins (κ.adr c) dx ((κ.fld c).zip vs))->vs.length=(κ.fld c).length->aO K κ H vs l->Rep K κ H (.ref a) (.ins c l)
inductive aO(K:PySem.W.Frag)(κ:Kl)(H:Hp):List V->List PV->Prop
 |nil:aO K κ H [] []
 |cons {v:V} {p:PV} {vs:List V} {l:List PV}:Rep K κ H v p->aO K κ H vs l->aO K κ H (v::vs) (p::l)
end
section
variable{K:PySem.W.Frag}{κ:Kl}{H H' H1:Hp}
theorem rb{a:Addr}{xs:List V}(e:aE H H')(h:k9 K H a xs):k9 K H' a xs:=by
 rcases h with(h|⟨o,h⟩)|h
 ·exact .inl (.inl (e _ _ h))
 ·exact .inl (.inr ⟨o,e _ _ h⟩)
 ·exact .inr h
mutual
theorem Rep.mono(e:aE H H'):∀{v:V} {p:PV},Rep K κ H v p->Rep K κ H' v p
 |_,_,.non=>.non
 |_,_,.bl b=>.bl b
 |_,_,.int i=>.int i
 |_,_,.str x=>.str x
 |_,_,.lst h r=>.lst (e.sl h) (aO.mono e r)
 |_,_,.tup h r=>.tup (rb e h) (aO.mono e r)
 |_,_,.ins h z r=>.ins (e _ _ h) z (aO.mono e r)
theorem aO.mono(e:aE H H'):∀{vs:List V} {l:List PV},aO K κ H vs l->aO K κ H' vs l
 |_,_,.nil=>.nil
 |_,_,.cons r t=>.cons (Rep.mono e r) (aO.mono e t)
end
theorem aO.length:∀{vs:List V} {l:List PV},aO K κ H vs l->vs.length=l.length
 |_,_,.nil=>rfl
 |_,_,.cons _ t=>by rw[List.length_cons,List.length_cons,t.length]
theorem aO.append:∀{vs ws:List V} {l m:List PV},aO K κ H vs l->aO K κ H ws m->aO K κ H (vs++ws) (l++m)
 |_,_,_,_,.nil,s=>s
 |_,_,_,_,.cons r t,s=>.cons r (t.append s)
theorem aO.get:∀{vs:List V} {l:List PV} {i:Nat} {p:PV},aO K κ H vs l->l[i]?=some p->∃v,vs[i]?=some v/\Rep K κ H v p
 |_,_,_,_,.nil,e=>by simp at e
 |_,_,0,_,.cons r _,e=>by simp at e;subst e;exact⟨_,rfl,r⟩
 |_,_,i+1,p,.cons _ t,e=>by
  obtain⟨v,h1,h2⟩:=aO.get (i:=i) (p:=p) t (by simpa using e)
  exact⟨v,by simpa using h1,h2⟩
theorem aO.vT:∀{vs:List V} {l:List PV} {i:Nat} {v:V},aO K κ H vs l->vs[i]?=some v->∃p,l[i]?=some p/\Rep K κ H v p
 |_,_,_,_,.nil,e=>by simp at e
 |_,_,0,_,.cons r _,e=>by simp at e;subst e;exact⟨_,rfl,r⟩
 |_,_,i+1,v,.cons _ t,e=>by
  obtain⟨p,h1,h2⟩:=aO.vT (i:=i) (v:=v) t (by simpa using e)
  exact⟨p,by simpa using h1,h2⟩
theorem aO.take:∀{vs:List V} {l:List PV} (n:Nat),aO K κ H vs l->aO K κ H (vs.take n) (l.take n)
 |_,_,0,_=>.nil
 |_,_,_+1,.nil=>.nil
 |_,_,n+1,.cons r t=>.cons r (t.take n)
theorem aO.drop:∀{vs:List V} {l:List PV} (n:Nat),aO K κ H vs l->aO K κ H (vs.drop n) (l.drop n)
 |_,_,0,r=>r
 |_,_,_+1,.nil=>.nil
 |_,_,n+1,.cons _ t=>t.drop n
theorem Rep.flat{v:V}{p:PV}(f:flat p=true)(r:Rep K κ H v p):Rep K κ H' v p:=by
 cases r with
 |non=>exact .non
 |bl b=>exact .bl b
 |int i=>exact .int i
 |str x=>exact .str x
 |lst _ _=>simp[D.flat]at f
 |tup _ _=>simp[D.flat]at f
 |ins _ _ _=>simp[D.flat]at f
end
noncomputable def hide(A:Addr->Prop)(H:Hp):Hp:=λb=>if A b then none else H b
theorem bK{A:Addr->Prop}{H:Hp}{b:Addr}(h:¬A b):hide A H b=H b:=if_neg h
theorem cb{A:Addr->Prop}{H:Hp}{b:Addr}{o:HO}(h:hide A H b=some o):¬A b/\H b=some o:=by
 unfold hide at h
 by_cases e:A b
 ·rw[if_pos e]at h
  cases h
 ·rw[if_neg e]at h
  exact⟨e,h⟩
theorem bu{A:Addr->Prop}{H H':Hp}(h:aE H H'):aE (hide A H) (hide A H'):=λb o e=>by
 obtain⟨h1,h2⟩:=cb e
 rw[bK h1]
 exact h b o h2
theorem cR{A B:Addr->Prop}{H H':Hp}(h:aE H H')(s:∀b,B b->H b≠none->A b):aE (hide A H) (hide B H'):=λb o e=>by
 obtain⟨h1,h2⟩:=cb e
 rw[bK λz=>h1 (s b z (by rw[h2];simp))]
 exact h b o h2
theorem aD{A:Addr->Prop}{H:Hp}:aE (hide A H) H:=λb o e=>(cb e).2
theorem mv{A:Addr->Prop}{H:Hp}{a:Addr}{o:HO}(h:A a):hide A (upd H a o)=hide A H:=by
 funext b
 unfold hide
 by_cases e:A b
 ·rw[if_pos e,if_pos e]
 ·rw[if_neg e,if_neg e]
  exact aF λz=>e (z▸h)
theorem cC{H:Hp}{a:Addr}{o:HO}(h:H a=none):aE H (upd H a o):=λb u q=>by rw[aF (bF q h)];exact q
noncomputable def zO:Cn->List V->HO
 |.l _,vs=>.lst vs
 |.d d,vs=>.dK (List.zipWith (λ(p:Int×PV) (v:V)=>((Sum.inl p.1:Key),v)) d vs)
noncomputable def Gd:Cn->List PV
 |.l l=>l
 |.d d=>d.map (·.2)
noncomputable def sk(own:Nat->Addr)(ρ:c8):Addr->Prop:=λb=>∃i l,ρ[i]?=some (.own l)/\own i=b
noncomputable def cD(A:Addr->Prop)(own:Nat->Addr)(ρ:c8):Addr->Prop:=λb=>A b\/sk own ρ b
noncomputable abbrev cS(A:Addr->Prop)(own:Nat->Addr)(ρ:c8)(H:Hp):Hp:=hide (cD A own ρ) H
structure R(K:PySem.W.Frag)(κ:Kl)(G:Hp)(A:Addr->Prop)(bo:Nat->Option (Addr×List V))(own:Nat->Addr)(ρ:c8)(σ:St)(H:Hp):Prop where
 al:∀b,A b->G b≠none
 bg:∀i a vs,bo i=some (a,vs)->G a=some (.lst vs)
 same:aE G H
 sh:∀(i:Nat) p,ρ[i]?=some (.sh p)->∃v,σ[i]?=some (some v)/\Rep K κ (cS A own ρ H) v p
 ow:∀(i:Nat) l,ρ[i]?=some (.own l)->σ[i]?=some (some (.ref (own i)))/\G (own i)=none/\∃vs,H (own i)=some (zO l vs)/\aO K κ (cS A own ρ H) vs (Gd l)
 inj:∀(i j:Nat) l m,ρ[i]?=some (.own l)->ρ[j]?=some (.own m)->own i=own j->i=j
 bw:∀(i:Nat) l,ρ[i]?=some (.bw l)->∃a vs,bo i=some (a,vs)/\σ[i]?=some (some (.ref a))/\aO K κ (cS A own ρ H) vs l
 len:σ.length=ρ.length
section
variable{K:PySem.W.Frag}{κ:Kl}{G G' H H' H1:Hp}{A:Addr->Prop}{bo:Nat->Option (Addr×List V)}{own cO:Nat->Addr}{ρ ρ':c8}{σ σ':St}
theorem R.mono(r:R K κ G A bo own ρ σ H)(s:aE H H1):R K κ G A bo own ρ σ H1 where
 al:=r.al
 bg:=r.bg
 same:=r.same.trans s
 sh:=λi p e=>let⟨v,h1,h2⟩:=r.sh i p e;⟨v,h1,h2.mono (bu s)⟩
 ow:=λi l e=>let⟨h1,h2,vs,h3,h4⟩:=r.ow i l e;⟨h1,h2,vs,s _ _ h3,h4.mono (bu s)⟩
 inj:=r.inj
 bw:=λi l e=>let⟨a,vs,h1,h2,h3⟩:=r.bw i l e;⟨a,vs,h1,h2,h3.mono (bu s)⟩
 len:=r.len
theorem R.new(r:R K κ G A bo own ρ σ H){a:Addr}(h:H a=none):¬cD A own ρ a:=by
 rintro(z|⟨i,l,h1,rfl⟩)
 ·cases e:G a with
  |none=>exact r.al a z e
  |some o=>
   rw[r.same _ _ e]at h
   cases h
 ·obtain⟨_,_,vs,h3,_⟩:=r.ow i l h1
  rw[h3]at h
  cases h
theorem R.B8(r:R K κ G A bo own ρ σ H){b:Addr}(h:cD A own ρ b):H b≠none:=λz=>r.new z h
noncomputable def zd(own:Nat->Addr)(ρ:c8)(H:Hp):Hp:=hide (sk own ρ) H
theorem ux:hide A (zd own ρ H)=cS A own ρ H:=by
 funext b
 unfold zd cS hide cD
 by_cases h1:A b<;>by_cases h2:sk own ρ b<;>simp[h1,h2]
theorem R.gv(r:R K κ G A bo own ρ σ H):aE G (zd own ρ H):=λb o e=>by
 unfold zd
 rw[bK]
 ·exact r.same _ _ e
 ·rintro⟨i,l,h1,rfl⟩
  rw[(r.ow i l h1).2.1]at e
  cases e
theorem R.big(r:R K κ G A bo own ρ σ H):R K κ (zd own ρ H) A bo own ρ σ H where
 al:=λb h z=>by
  cases e:G b with
  |none=>exact r.al b h e
  |some o=>
   rw[r.gv _ _ e]at z
   cases z
 bg:=λi a vs h=>r.gv _ _ (r.bg i a vs h)
 same:=aD
 sh:=r.sh
 ow:=λi l e=>let⟨h1,h2,h3⟩:=r.ow i l e;⟨h1,by unfold zd hide;rw[if_pos ⟨i,l,e,rfl⟩],h3⟩
 inj:=r.inj
 bw:=r.bw
 len:=r.len
theorem R.small(r:R K κ G' A bo own ρ σ H)(s:aE G G')(al:∀b,A b->G b≠none)(bg:∀i a vs,bo i=some (a,vs)->G a=some (.lst vs)):R K κ G A bo own ρ σ H where
 al:=al
 bg:=bg
 same:=s.trans r.same
 sh:=r.sh
 ow:=λi l e=>let⟨h1,h2,h3⟩:=r.ow i l e;⟨h1,s.free h2,h3⟩
 inj:=r.inj
 bw:=r.bw
 len:=r.len
theorem R.CM(r:R K κ G A bo own ρ σ H):aE (hide A G) (cS A own ρ H):=λb o e=>by
 obtain⟨h1,h2⟩:=cb e
 rw[cS,bK]
 ·exact r.same _ _ h2
 ·rintro(z|⟨i,l,h3,rfl⟩)
  ·exact h1 z
  ·rw[(r.ow i l h3).2.1]at h2
   cases h2
theorem zP{i:Nat}{p:PV}{b:Addr}(h:sk own (ρ.set i (.sh p)) b):sk own ρ b:=by
 obtain⟨j,l,h1,h2⟩:=h
 rw[List.getElem?_set]at h1
 split at h1
 ·split at h1<;>cases h1
 ·exact⟨j,l,h1,h2⟩
theorem km{i:Nat}{p:PV}:aE (cS A own ρ H) (cS A own (ρ.set i (.sh p)) H):=cR (λ_ _ h=>h) λb h _=>by
 rcases h with h|h
 ·exact .inl h
 ·exact .inr (zP h)
theorem R.set(r:R K κ G A bo own ρ σ H){i:Nat}{v:V}{p:PV}(h:Rep K κ (cS A own ρ H) v p):R K κ G A bo own (ρ.set i (.sh p)) (σ.set i (some v)) H:=by
 have ne:∀{j:Nat} {x:Slot},(ρ.set i (.sh p))[j]?=some x->x≠.sh p->i≠j/\ρ[j]?=some x:=λ{j x} e nx=>by
  rw[List.getElem?_set]at e
  split at e
  ·split at e
   ·exact absurd (Option.some.inj e).symm nx
   ·cases e
  ·exact⟨by assumption,e⟩
 refine⟨r.al,r.bg,r.same,λj q e=>?_,λj l e=>?_,λj k l m e f=>?_,λj l e=>?_,by rw[List.length_set,List.length_set];exact r.len⟩
 ·by_cases hj:i=j
  ·subst hj
   rw[List.getElem?_set]at e
   rw[if_pos rfl]at e
   split at e
   ·injection e with e
    injection e with e
    subst e
    exact⟨v,by rw[List.getElem?_set,if_pos rfl,if_pos (by rw[r.len];assumption)],h.mono km⟩
   ·cases e
  ·rw[List.getElem?_set,if_neg hj]at e
   obtain⟨u,h1,h2⟩:=r.sh j q e
   exact⟨u,by rw[List.getElem?_set,if_neg hj];exact h1,h2.mono km⟩
 ·obtain⟨hj,e⟩:=ne e (by simp)
  obtain⟨h1,h2,vs,h3,h4⟩:=r.ow j l e
  exact⟨by rw[List.getElem?_set,if_neg hj];exact h1,h2,vs,h3,h4.mono km⟩
 ·exact r.inj j k l m (ne e (by simp)).2 (ne f (by simp)).2
 ·obtain⟨hj,e⟩:=ne e (by simp)
  obtain⟨a,vs,h1,h2,h3⟩:=r.bw j l e
  exact⟨a,vs,h1,by rw[List.getElem?_set,if_neg hj];exact h2,h3.mono km⟩
theorem R.IZ(r:R K κ G A bo own ρ σ H){i:Nat}{a:Addr}{vs:List V}{l:Cn}(hG:G a=none)(hA:¬A a)(hj:∀(j:Nat) m,ρ[j]?=some (.own m)->j≠i->own j≠a)(s:aE (cS A own ρ H) (hide (λb=>cD A own ρ b\/b=a) H1))(hk:∀b o,H b=some o->b≠a->H1 b=some o)
  (h1:H1 a=some (zO l vs))(h2:aO K κ (hide (λb=>cD A own ρ b\/b=a) H1) vs (Gd l)):R K κ G A bo (λj=>if j=i then a else own j) (ρ.set i (.own l)) (σ.set i (some (.ref a))) H1:=by
 by_cases hi:i<ρ.length
 rotate_left
 ·rw[List.set_eq_of_length_le (by omega),List.set_eq_of_length_le (by rw[r.len];omega)]
  have oe:∀(j:Nat) x,ρ[j]?=some x->(if j=i then a else own j)=own j:=λj x e=>if_neg λz=>by
   have:=(List.getElem?_eq_some_iff.mp e).1
   omega
  have se:cD A (λj=>if j=i then a else own j) ρ=cD A own ρ:=by
   funext b
   unfold cD sk
   refine propext (or_congr Iff.rfl ⟨?_,?_⟩)
   ·rintro⟨j,m,e,z⟩
    exact⟨j,m,e,by rw[<-oe j _ e];exact z⟩
   ·rintro⟨j,m,e,z⟩
    exact⟨j,m,e,by show(if j=i then a else own j)=b;rw[oe j _ e];exact z⟩
  have sm:aE (cS A own ρ H) (cS A own ρ H1):=s.trans (cR (λ_ _ h=>h) λb h _=>.inl h)
  refine⟨r.al,r.bg,λb o e=>hk b o (r.same _ _ e) (λz=>by rw[z,hG]at e;cases e),λj q e=>?_,λj m e=>?_,λj k m n e f z=>?_,λj m e=>?_,r.len⟩
  ·obtain⟨u,z1,z2⟩:=r.sh j q e
   exact⟨u,z1,by rw[cS,se];exact z2.mono sm⟩
  ·rw[oe j _ e]
   obtain⟨z1,z2,ws,z3,z4⟩:=r.ow j m e
   have MX:j≠i:=λz=>by
    have:=(List.getElem?_eq_some_iff.mp e).1
    omega
   exact⟨z1,z2,ws,hk _ _ z3 (hj j m e MX),by rw[cS,se];exact z4.mono sm⟩
  ·skip
   rw[oe j _ e,oe k _ f]at z
   exact r.inj j k m n e f z
  ·obtain⟨b,ws,z1,z2,z3⟩:=r.bw j m e
   exact⟨b,ws,z1,z2,by rw[cS,se];exact z3.mono sm⟩
 have I9:∀b,cD A (λj=>if j=i then a else own j) (ρ.set i (.own l)) b->cD A own ρ b\/b=a:=λb h=>by
  rcases h with h|⟨j,m,e,z⟩
  ·exact .inl (.inl h)
  ·by_cases LK:j=i
   ·subst LK
    try dsimp only at z
    rw[if_pos rfl]at z
    exact .inr z.symm
   ·dsimp only at z
    rw[if_neg LK]at z
    rw[List.getElem?_set,if_neg (Ne.symm LK)]at e
    exact .inl (.inr ⟨j,m,e,z⟩)
 have sm:aE (hide (λb=>cD A own ρ b\/b=a) H1) (cS A (λj=>if j=i then a else own j) (ρ.set i (.own l)) H1):=cR (λ_ _ h=>h) λb h _=>I9 b h
 have LL:aE (cS A own ρ H) (cS A (λj=>if j=i then a else own j) (ρ.set i (.own l)) H1):=s.trans sm
 refine⟨r.al,r.bg,λb o e=>hk b o (r.same _ _ e) (λz=>by rw[z,hG]at e;cases e),λj q e=>?_,λj m e=>?_,λj k m n e f z=>?_,λj m e=>?_,by rw[List.length_set,List.length_set];exact r.len⟩
 ·by_cases qG:i=j
  ·subst qG
   rw[List.getElem?_set,if_pos rfl,if_pos hi]at e
   cases e
  ·rw[List.getElem?_set,if_neg qG]at e
   obtain⟨u,z1,z2⟩:=r.sh j q e
   exact⟨u,by rw[List.getElem?_set,if_neg qG];exact z1,z2.mono LL⟩
 ·by_cases qG:i=j
  ·subst qG
   rw[List.getElem?_set,if_pos rfl,if_pos hi]at e
   injection e with e
   injection e with e
   subst e
   try dsimp only
   rw[if_pos rfl]
   exact⟨by rw[List.getElem?_set,if_pos rfl,if_pos (by rw[r.len];exact hi)],hG,vs,h1,h2.mono sm⟩
  ·rw[List.getElem?_set,if_neg qG]at e
   obtain⟨z1,z2,ws,z3,z4⟩:=r.ow j m e
   try dsimp only
   rw[if_neg (Ne.symm qG)]
   exact⟨by rw[List.getElem?_set,if_neg qG];exact z1,z2,ws,hk _ _ z3 (hj j m e (Ne.symm qG)),z4.mono LL⟩
 ·skip
  by_cases qG:i=j<;>by_cases B9:i=k
  ·rw[<-qG,<-B9]
  ·subst qG
   rw[List.getElem?_set,if_neg B9]at f
   rw[if_pos rfl,if_neg (Ne.symm B9)]at z
   exact absurd z.symm (hj k n f (Ne.symm B9))
  ·subst B9
   rw[List.getElem?_set,if_neg qG]at e
   rw[if_pos rfl,if_neg (Ne.symm qG)]at z
   exact absurd z (hj j m e (Ne.symm qG))
  ·rw[List.getElem?_set,if_neg qG]at e
   rw[List.getElem?_set,if_neg B9]at f
   rw[if_neg (Ne.symm qG),if_neg (Ne.symm B9)]at z
   exact r.inj j k m n e f z
 ·by_cases qG:i=j
  ·subst qG
   rw[List.getElem?_set,if_pos rfl,if_pos hi]at e
   cases e
  ·rw[List.getElem?_set,if_neg qG]at e
   obtain⟨b,ws,z1,z2,z3⟩:=r.bw j m e
   exact⟨b,ws,z1,by rw[List.getElem?_set,if_neg qG];exact z2,z3.mono LL⟩
end
end L2.D
namespace L2.D
open PySem PySem.Spec PyProof.Rows
open Classical
noncomputable def BR(K:PySem.W.Frag)(κ:Kl)(hH H:Hp)(v:V)(p:PV):Prop:=Rep K κ hH v p\/∃a vs l,v=.ref a/\p=.lst l/\SL K H a vs/\aO K κ hH vs l
noncomputable def OR(K:PySem.W.Frag)(κ:Kl)(A:Addr->Prop)(H H':Hp)(v:V)(p:PV):Prop:=∃a vs l,v=.ref a/\p=.lst l/\H a=none/\H' a=some (.lst vs)/\aO K κ (hide (λb=>A b\/b=a) H') vs l
noncomputable def Ja(K:PySem.W.Frag)(κ:Kl)(te:TE)(f:Den):Prop:=
 ∀{G A bo own ρ σ H p Q},R K κ G A bo own ρ σ H->f ρ=some p->(∀v H',aE H H'->Rep K κ (cS A own ρ H') v p->Q v H')->te σ H Q
noncomputable def Jb(K:PySem.W.Frag)(κ:Kl)(te:TE)(f:Den):Prop:=
 ∀{G A bo own ρ σ H p Q},R K κ G A bo own ρ σ H->f ρ=some p->(∀v H',aE H H'->BR K κ (cS A own ρ H') H' v p->Q v H')->te σ H Q
noncomputable def MY(K:PySem.W.Frag)(κ:Kl)(te:TE)(f:Den):Prop:=
 ∀{G A bo own ρ σ H p Q},R K κ G A bo own ρ σ H->f ρ=some p->(∀v H',aE H H'->OR K κ (cD A own ρ) H H' v p->Q v H')->te σ H Q
noncomputable def LM(K:PySem.W.Frag)(κ:Kl)(tt:TT)(f:dX):Prop:=
 ∀{G A bo own ρ σ H b Q},R K κ G A bo own ρ σ H->f ρ=some b->(∀H',aE H H'->Q b H')->tt σ H Q
noncomputable def DE(X:Cx)(κ:Kl)(e:Expr)(f:Den):Prop:=∃te,PE X e te/\Ja X.K κ te f
noncomputable def DB(X:Cx)(κ:Kl)(e:Expr)(f:Den):Prop:=∃te,PE X e te/\Jb X.K κ te f
noncomputable def DO(X:Cx)(κ:Kl)(e:Expr)(f:Den):Prop:=∃te,PE X e te/\MY X.K κ te f
noncomputable def DT(X:Cx)(κ:Kl)(e:Expr)(f:dX):Prop:=∃tt,PT X e tt/\LM X.K κ tt f
noncomputable def DW(X:Cx)(κ:Kl)(e:Expr)(f:dX):Prop:=∃tt,PW X e tt/\LM X.K κ tt f
section
variable{K:PySem.W.Frag}{κ:Kl}{G hH MZ H H' H1:Hp}{A:Addr->Prop}{bo:Nat->Option (Addr×List V)}{own:Nat->Addr}{ρ:c8}{σ:St}{v:V}{p:PV}
theorem BR.mono(h:BR K κ hH H v p)(s1:aE hH MZ)(s2:aE H H'):BR K κ MZ H' v p:=by
 rcases h with h|⟨a,vs,l,h1,h2,h3,h4⟩
 ·exact .inl (h.mono s1)
 ·exact .inr ⟨a,vs,l,h1,h2,s2.sl h3,h4.mono s1⟩
theorem BR.zQ(h:BR K κ (hide A H) H v p)(s2:aE H H'):BR K κ (hide A H') H' v p:=h.mono (bu s2) s2
theorem BR.full(h:BR K κ hH H v p)(s:aE hH H):Rep K κ H v p:=by
 rcases h with h|⟨a,vs,l,rfl,rfl,h3,h4⟩
 ·exact h.mono s
 ·exact .lst h3 (h4.mono s)
theorem BR.lst{l:List PV}(h:BR K κ hH H v (.lst l))(s:aE hH H):∃a vs,v=.ref a/\SL K H a vs/\aO K κ hH vs l:=by
 rcases h with h|⟨a,vs,l',h1,h2,h3,h4⟩
 ·cases h with
  |lst h1 h2=>exact⟨_,_,rfl,s.sl h1,h2⟩
 ·cases h2
  exact⟨a,vs,h1,h3,h4⟩
theorem BR.tup{l:List PV}(h:BR K κ hH H v (.tup l))(s:aE hH H):∃a vs,v=.ref a/\k9 K H a vs/\aO K κ hH vs l:=by
 rcases h with h|⟨a,vs,l',h1,h2,h3,h4⟩
 ·cases h with
  |tup h1 h2=>exact⟨_,_,rfl,rb s h1,h2⟩
 ·cases h2
theorem BR.int{i:Int}(h:BR K κ hH H v (.int i)):v=.int i:=by
 rcases h with h|⟨a,vs,l',h1,h2,h3,h4⟩
 ·cases h;rfl
 ·cases h2
theorem BR.str{i:Str}(h:BR K κ hH H v (.str i)):v=.str i:=by
 rcases h with h|⟨a,vs,l',h1,h2,h3,h4⟩
 ·cases h;rfl
 ·cases h2
theorem Rep.F9{i:Bool}(h:Rep K κ hH v (.bl i)):v=.bl i:=by cases h;rfl
theorem R.uy(r:R K κ G A bo own ρ σ H){a:Addr}{vs:List V}{l:List PV}(h:H a=none)(q:aO K κ (cS A own ρ H) vs l):OR K κ (cD A own ρ) H (upd H a (.lst vs)) (.ref a) (.lst l):=
 ⟨a,vs,l,rfl,rfl,h,aM,by
   rw[mv (.inr rfl)]
   exact q.mono (cR (λ_ _ z=>z) λb z nz=>by
    rcases z with z|z
    ·exact z
    ·rw[z]at nz
     exact absurd h nz)⟩
theorem OR.rep(r:R K κ G A bo own ρ σ H)(h:OR K κ (cD A own ρ) H H' v p):Rep K κ (cS A own ρ H') v p:=by
 obtain⟨a,vs,l,rfl,rfl,h1,h2,h3⟩:=h
 refine .lst (SL.of ?_) (h3.mono (cR (λ_ _ z=>z) λb z _=>.inl z))
 rw[cS,bK (r.new h1)]
 exact h2
theorem R.Jc(r:R K κ G A bo own ρ σ H){a:Addr}{vs:List V}{l:List PV}(h:H a=none)(q:aO K κ (cS A own ρ H) vs l):Rep K κ (cS A own ρ (upd H a (.tup vs))) (.ref a) (.tup l):=by
 refine .tup (k9.of ?_) (q.mono (bu (cC h)))
 rw[cS,bK (r.new h)]
 exact aM
theorem qH{ta tb:TE}{fa fb:Den}{α:Type}{g:PV->PV->Option α}{z:α}{Rr:V->V->Hp->Prop}(ha:Jb K κ ta fa)(hb:Jb K κ tb fb)(r:R K κ G A bo own ρ σ H)
  (e:((fa ρ).bind λx=>(fb ρ).bind λy=>g x y)=some z)(q:∀x y p q H',aE H H'->R K κ G A bo own ρ σ H'->BR K κ (cS A own ρ H') H' x p->BR K κ (cS A own ρ H') H' y q->g p q=some z->Rr x y H'):ta σ H λx H1=>tb σ H1 λy H2=>Rr x y H2:=by
 obtain⟨p1,e1,e⟩:=Option.bind_eq_some_iff.mp e
 obtain⟨p2,e2,e⟩:=Option.bind_eq_some_iff.mp e
 refine ha r e1 λx H1 s1 b1=>?_
 refine hb (r.mono s1) e2 λy H2 s2 b2=>?_
 exact q x y p1 p2 H2 (s1.trans s2) (r.mono (s1.trans s2)) (b1.zQ s2) b2 e
end
theorem DE.b{X:Cx}{κ:Kl}{ex:Expr}{f:Den}(h:DE X κ ex f):DB X κ ex f:=let⟨te,h1,h2⟩:=h;⟨te,h1,λr e q=>h2 r e λv H' s z=>q v H' s (.inl z)⟩
theorem DO.e{X:Cx}{κ:Kl}{ex:Expr}{f:Den}(h:DO X κ ex f):DE X κ ex f:=let⟨te,h1,h2⟩:=h;⟨te,h1,λr e q=>h2 r e λv H' s z=>q v H' s (z.rep r)⟩
theorem DO.b{X:Cx}{κ:Kl}{ex:Expr}{f:Den}(h:DO X κ ex f):DB X κ ex f:=h.e.b
section
variable{X:Cx}{κ:Kl}{e a b c:Expr}{f fa fb fc:Den}{pos:Pos}
theorem ay{i:Int}{j pos}:DE X κ (.Constant (.int i) j pos) (dC (.int i)):=⟨_,vF,λ{_ _ _ _ _ _ H _ _} r e q=>by cases e;exact q _ H (aE.refl _) (.int i)⟩
theorem pJ{i:Bool}{j pos}:DE X κ (.Constant (.bool i) j pos) (dC (.bl i)):=⟨_,HZ,λ{_ _ _ _ _ _ H _ _} r e q=>by cases e;exact q _ H (aE.refl _) (.bl i)⟩
theorem aV{i:Str}{j pos}:DE X κ (.Constant (.str i) j pos) (dC (.str i)):=⟨_,E9,λ{_ _ _ _ _ _ H _ _} r e q=>by cases e;exact q _ H (aE.refl _) (.str i)⟩
theorem aa(i:Nat){x:Str}{pos:Pos}(hN:X.N[i]?=some x:=by rfl)(hv:tU X.env.scope x:=by first|exact Or.inl rfl|exact Or.inr (Or.inl rfl)|exact Or.inr (Or.inr rfl))(hd:(x==("__debug__" :Str))=false:=by decide)
  (nc:(x==("__classdict__" :Str))=false:=by decide):DB X κ (.Name x pos) (dV i):=⟨_,d0 hN hv hd nc,λ{G A bo own ρ σ H p Q} r e q=>by
 unfold dV at e
 obtain⟨s,e1,e2⟩:=Option.bind_eq_some_iff.mp e
 cases s with
 |un=>cases e2
 |sh p'=>
  cases e2
  obtain⟨v,h1,h2⟩:=r.sh i _ e1
  exact⟨v,h1,q v H (aE.refl _) (.inl h2)⟩
 |own c=>
  cases c with
  |d _=>cases e2
  |l l=>
  cases e2
  obtain⟨h1,_,vs,h3,h4⟩:=r.ow i _ e1
  exact⟨_,h1,q _ H (aE.refl _) (.inr ⟨_,vs,l,rfl,rfl,SL.of h3,h4⟩)⟩
 |bw l=>
  cases e2
  obtain⟨a,vs,h0,h1,h4⟩:=r.bw i _ e1
  exact⟨_,h1,q _ H (aE.refl _) (.inr ⟨_,vs,l,rfl,rfl,SL.of (r.same _ _ (r.bg _ _ _ h0)),h4⟩)⟩⟩
theorem aI(i:Nat){x:Str}{pos:Pos}(hN:X.N[i]?=some x:=by rfl)(hv:tU X.env.scope x:=by first|exact Or.inl rfl|exact Or.inr (Or.inl rfl)|exact Or.inr (Or.inr rfl))(hd:(x==("__debug__" :Str))=false:=by decide)
  (nc:(x==("__classdict__" :Str))=false:=by decide):DE X κ (.Name x pos) (cI i):=⟨_,d0 hN hv hd nc,λ{G A bo own ρ σ H p Q} r e q=>by
 unfold cI at e
 obtain⟨s,e1,e2⟩:=Option.bind_eq_some_iff.mp e
 cases s with
 |un=>cases e2
 |sh p'=>
  cases e2
  obtain⟨v,h1,h2⟩:=r.sh i _ e1
  exact⟨v,h1,q v H (aE.refl _) h2⟩
 |own l=>cases e2
 |bw l=>cases e2⟩
theorem zR{op:Operator}{C:Int->Int->Prop}{F:Int->Int->Int}{g:PV->PV->Option PV}(ho:kD X (binaryOp op) (rI C λi j=>.int (F i j)))(hg:∀p q z,g p q=some z->∃i j,p=.int i/\q=.int j/\C i j/\z=.int (F i j))
  (ha:DB X κ a fa)(hb:DB X κ b fb):DE X κ (.BinOp a op b pos) (af g fa fb):=by
 obtain⟨ta,h1,h2⟩:=ha
 obtain⟨tb,h3,h4⟩:=hb
 refine⟨_,zt ho h1 h3,λ{G A bo own ρ σ H p Q} r e q=>?_⟩
 refine qH h2 h4 r e λx y p1 p2 H' s r' b1 b2 e'=>?_
 obtain⟨i,j,rfl,rfl,hC,rfl⟩:=hg _ _ _ e'
 exact⟨i,j,b1.int,b2.int,hC,q _ H' s (.int _)⟩
theorem Gf{op:Operator}{F:Int->Int->Int}{g:PV->PV->Option PV}(ho:kD X (binaryOp op) (Ck λi j=>.int (F i j)))(hg:∀p q z,g p q=some z->∃i j,p=.int i/\q=.int j/\z=.int (F i j))
  (ha:DB X κ a fa)(hb:DB X κ b fb):DE X κ (.BinOp a op b pos) (af g fa fb):=by
 obtain⟨ta,h1,h2⟩:=ha
 obtain⟨tb,h3,h4⟩:=hb
 refine⟨_,zt ho h1 h3,λ{G A bo own ρ σ H p Q} r e q=>?_⟩
 refine qH h2 h4 r e λx y p1 p2 H' s r' b1 b2 e'=>?_
 obtain⟨i,j,rfl,rfl,rfl⟩:=hg _ _ _ e'
 exact⟨i,j,b1.int,b2.int,q _ H' s (.int _)⟩
theorem zS(ha:DB X κ a fa)(hb:DB X κ b fb):DE X κ (.BinOp a .Sub b pos) (af yu fa fb):=Gf FC (λp q z h=>by
 (cases p<;>first|(cases h;done)|skip)<;>cases q<;>first|(cases h;exact⟨_,_,rfl,rfl,rfl⟩)|cases h) ha hb
theorem bx{α:Type}{c:Prop}[Decidable c]{x z:α}(h:(if c then some x else none)=some z):c/\x=z:=by
 split at h
 ·exact⟨by assumption,Option.some.inj h⟩
 ·cases h
theorem ll(ha:DB X κ a fa)(hb:DB X κ b fb):DE X κ (.BinOp a .FloorDiv b pos) (af iZ fa fb):=zR Cm (λp q z h=>by
 (cases p<;>first|(cases h;done)|skip)<;>cases q<;>first|(cases h;done)|skip
 obtain⟨h1,h2⟩:=bx h
 simp only[Bool.and_eq_true,decide_eq_true_eq]at h1
 exact⟨_,_,rfl,rfl,h1,h2.symm⟩) ha hb
theorem di(ha:DB X κ a fa)(hb:DB X κ b fb):DE X κ (.BinOp a .Mod b pos) (af cX fa fb):=zR FG (λp q z h=>by
 (cases p<;>first|(cases h;done)|skip)<;>cases q<;>first|(cases h;done)|skip
 obtain⟨h1,h2⟩:=bx h
 simp only[Bool.and_eq_true,decide_eq_true_eq]at h1
 exact⟨_,_,rfl,rfl,h1,h2.symm⟩) ha hb
theorem nB(ha:DB X κ a fa)(hb:DB X κ b fb):DE X κ (.BinOp a .Mult b pos) (af ny fa fb):=zR FD (λp q z h=>by
 (cases p<;>first|(cases h;done)|skip)<;>cases q<;>first|(cases h;done)|skip
 obtain⟨h1,h2⟩:=bx h
 simp only[uh,Bool.or_eq_true,Bool.and_eq_true,decide_eq_true_eq]at h1
 exact⟨_,_,rfl,rfl,h1,h2.symm⟩) ha hb
theorem so(ha:DB X κ a fa):DE X κ (.UnaryOp .USub a pos) (a8 pC fa):=by
 obtain⟨ta,h1,h2⟩:=ha
 refine⟨_,Im FH h1,λ{G A bo own ρ σ H p Q} r e q=>?_⟩
 obtain⟨p1,e1,e⟩:=Option.bind_eq_some_iff.mp e
 refine h2 r e1 λx H1 s1 b1=>?_
 cases p1<;>first|(cases e;done)|skip
 cases e
 exact⟨_,b1.int,q _ H1 s1 (.int _)⟩
theorem Gg{K:PySem.W.Frag}:kD X (binaryOp .Add) (λx y H Q=>∃l b xs zs,x=.ref l/\y=.ref b/\SL X.K H l xs/\SL X.K H b zs/\xs.length+zs.length<=sizeLine/\∀p,H p=none->Q (.ref p) (upd H p (.lst (xs++zs)))):=by
 intro pins s σ H x y v u Q I rx ry h
 obtain⟨l,b,xs,zs,rfl,rfl,hH,hB,hz,q⟩:=h
 cases rx
 cases ry
 obtain⟨its,n,r,ho,z⟩:=I.sl hH
 obtain⟨qF,n2,r2,NZ,z2⟩:=I.sl hB
 have l1:=r.length
 have l2:=r2.length
 refine PySem.P.add_list ho NZ ?_ (by rw[List.size_toArray,List.size_toArray];omega)
 have ea:its.toArray++qF.toArray=(its++qF).toArray:=by simp
 rw[ea]
 exact⟨.ref _,_,I.Lr (t':=s.toks) (r.append r2) (by rw[List.length_append];omega),rfl,q _ I.fresh⟩
theorem ba(ha:DB X κ a fa)(hb:DB X κ b fb):DE X κ (.BinOp a .Add b pos) (af bB fa fb):=by
 obtain⟨ta,h1,h2⟩:=ha
 obtain⟨tb,h3,h4⟩:=hb
 refine⟨_,zt (FA.or (vI.or (Gg (K:=X.K)))) h1 h3,λ{G A bo own ρ σ H p Q} r e q=>?_⟩
 refine qH h2 h4 r e λx y p1 p2 H' s r' b1 b2 e'=>?_
 (cases p1<;>first|(cases e';done)|skip)<;>cases p2<;>first|(cases e';done)|skip
 ·cases e'
  exact .inl ⟨_,_,b1.int,b2.int,q _ H' s (.int _)⟩
 ·obtain⟨h1,rfl⟩:=bx e'
  exact .inr (.inl ⟨_,_,b1.str,b2.str,h1,q _ H' s (.str _)⟩)
 ·obtain⟨h1,rfl⟩:=bx e'
  obtain⟨a1,Jd,rfl,q1,w1⟩:=b1.lst aD
  obtain⟨a2,N1,rfl,q2,w2⟩:=b2.lst aD
  refine .inr (.inr ⟨a1,a2,Jd,N1,rfl,rfl,q1,q2,by rw[w1.length,w2.length];exact h1,λp hp=>?_⟩)
  exact q _ _ (s.trans (cC hp)) ((r'.uy hp (w1.append w2)).rep r')
noncomputable def DC(X:Cx)(κ:Kl)(op:CmpOp)(a b:Expr)(f:Den):Prop:=∃r ta tb,kD X (compareOp op) r/\PE X a ta/\PE X b tb/\Ja X.K κ (Il r ta tb) f
theorem nC{op:CmpOp}(h:DC X κ op a b f)(hm:behindInMarks op b=false:=by first|exact zw _|with_unfolding_all rfl):DE X κ (.Compare a [op] [b] pos) f:=
 let⟨_,_,_,h1,h2,h3,h4⟩:=h;⟨_,Cp h1 h2 h3 hm,h4⟩
theorem xw{K:PySem.W.Frag}{te:TE}(h:Ja K κ te f):LM K κ (Ef te) (tV f):=λ{G A bo own ρ σ H b Q} r e q=>by
 obtain⟨p,e1,e2⟩:=Option.bind_eq_some_iff.mp e
 refine h r e1 λv H' s z=>?_
 cases p<;>first|(cases e2;done)|skip
 cases e2
 exact⟨_,z.F9,q H' s⟩
theorem cY{op:CmpOp}(h:DC X κ op a b f)(hm:behindInMarks op b=false:=by first|exact zw _|with_unfolding_all rfl):DT X κ (.Compare a [op] [b] pos) (tV f):=
 let⟨_,_,_,h1,h2,h3,h4⟩:=h;⟨_,Cr h1 h2 h3 hm,xw h4⟩
theorem gJ(h:DE X κ e f)(he:∀whole,isTrue e X.env whole=(do let v<-whole;standAt e.pos;holding [v] (truthy v)):=by intro _;rfl):DT X κ e (tV f):=
 let⟨_,h1,h2⟩:=h;⟨_,Fb h1 he,xw h2⟩
theorem Je{op:CmpOp}{F:Int->Int->Bool}{g:PV->PV->Option PV}(ho:kD X (compareOp op) (Ck λi j=>.bl (F i j)))(hg:∀p q z,g p q=some z->∃i j,p=.int i/\q=.int j/\z=.bl (F i j))
  (ha:DB X κ a fa)(hb:DB X κ b fb):DC X κ op a b (af g fa fb):=by
 obtain⟨ta,h1,h2⟩:=ha
 obtain⟨tb,h3,h4⟩:=hb
 refine⟨_,_,_,ho,h1,h3,λ{G A bo own ρ σ H p Q} r e q=>?_⟩
 refine qH h2 h4 r e λx y p1 p2 H' s r' b1 b2 e'=>?_
 obtain⟨i,j,rfl,rfl,rfl⟩:=hg _ _ _ e'
 exact⟨i,j,b1.int,b2.int,q _ H' s (.bl _)⟩
theorem xx(ha:DB X κ a fa)(hb:DB X κ b fb):DC X κ .Lt a b (af B7 fa fb):=Je Iv (λp q z h=>by
 (cases p<;>first|(cases h;done)|skip)<;>cases q<;>first|(cases h;exact⟨_,_,rfl,rfl,rfl⟩)|cases h) ha hb
theorem zT(ha:DB X κ a fa)(hb:DB X κ b fb):DC X κ .Gt a b (af Ek fa fb):=Je Iw (λp q z h=>by
 (cases p<;>first|(cases h;done)|skip)<;>cases q<;>first|(cases h;exact⟨_,_,rfl,rfl,rfl⟩)|cases h) ha hb
variable{ft fu:dX}{rest:List Expr}
theorem nD(ha:DT X κ a ft):DT X κ (.UnaryOp .Not a pos) (mi ft):=by
 obtain⟨ta,h1,h2⟩:=ha
 refine⟨_,Fd h1,λ{G A bo own ρ σ H p Q} r e q=>?_⟩
 obtain⟨c,e1,rfl⟩:=Option.map_eq_some_iff.mp e
 exact h2 r e1 λH' s=>q H' s
theorem nE(ha:DT X κ a ft):DW X κ (.BoolOp .Or [a] pos) ft:=let⟨_,h1,h2⟩:=ha;⟨_,pw_or1 h1,h2⟩
theorem pK(ha:DT X κ a ft)(hb:DW X κ (.BoolOp .Or (b::rest) pos) fu):DW X κ (.BoolOp .Or (a::b::rest) pos) (tX ft fu):=by
 obtain⟨ta,h1,h2⟩:=ha
 obtain⟨tb,h3,h4⟩:=hb
 refine⟨_,pw_or h1 h3,λ{G A bo own ρ σ H p Q} r e q=>?_⟩
 obtain⟨c,e1,e2⟩:=Option.bind_eq_some_iff.mp e
 refine h2 r e1 λH1 s1=>?_
 cases c with
 |false=>exact h4 (r.mono s1) e2 λH2 s2=>q H2 (s1.trans s2)
 |true=>cases e2;exact q H1 s1
theorem DW.t(h:DW X κ e ft):DT X κ e ft:=let⟨_,h1,h2⟩:=h;⟨_,h1.pt,h2⟩
theorem sr{op}(h:DE X κ a f):DE X κ (.BoolOp op [a] pos) f:=let⟨_,h1,h2⟩:=h;⟨_,Fe h1,h2⟩
theorem mx(ha:DE X κ a fa)(hb:DE X κ (.BoolOp .And (b::rest) pos) fb):DE X κ (.BoolOp .And (a::b::rest) pos) (iR fa fb):=by
 obtain⟨ta,h1,h2⟩:=ha
 obtain⟨tb,h3,h4⟩:=hb
 refine⟨_,Ff h1 h3,λ{G A bo own ρ σ H p Q} r e q=>?_⟩
 obtain⟨x,e1,e2⟩:=Option.bind_eq_some_iff.mp e
 obtain⟨c,e3,e4⟩:=Option.bind_eq_some_iff.mp e2
 refine h2 r e1 λv H1 s1 z=>?_
 cases x<;>first|(cases e3;done)|skip
 cases e3
 refine⟨_,z.F9,?_⟩
 cases c with
 |true=>exact h4 (r.mono s1) e4 λv H2 s2 z=>q v H2 (s1.trans s2) z
 |false=>cases e4;exact q _ H1 s1 (.bl _)
theorem CN(ha:DE X κ a fa):DE X κ (.UnaryOp .Not a pos) (zM fa):=by
 obtain⟨ta,h1,h2⟩:=ha
 refine⟨_,Fg h1,λ{G A bo own ρ σ H p Q} r e q=>?_⟩
 obtain⟨x,e1,e2⟩:=Option.bind_eq_some_iff.mp e
 obtain⟨c,e3,rfl⟩:=Option.map_eq_some_iff.mp e2
 refine h2 r e1 λv H1 s1 z=>?_
 cases x<;>first|(cases e3;done)|skip
 cases e3
 exact⟨_,z.F9,q _ H1 s1 (.bl _)⟩
noncomputable def DA(X:Cx)(κ:Kl)(es:List Expr)(f:dg):Prop:=∃ta,PA X es ta/\∀{G A bo own ρ σ H ps Q},R X.K κ G A bo own ρ σ H->f ρ=some ps->(∀vs H',aE H H'->aO X.K κ (cS A own ρ H') vs ps->Q vs H')->ta σ H Q
variable{es:List Expr}{fs:dg}
theorem aP:DA X κ [] aK:=⟨_,cc,λ{G A bo own ρ σ H ps Q} r e q=>by cases e;exact q [] H (aE.refl _) .nil⟩
theorem ag(ha:DE X κ a fa)(hr:DA X κ es fs)(hs:starEach (a::es) X.env=(false,eval a X.env)::starEach es X.env:=by rfl):DA X κ (a::es) (ae fa fs):=by
 obtain⟨ta,h1,h2⟩:=ha
 obtain⟨tb,h3,h4⟩:=hr
 refine⟨_,aQ h1 h3 hs,λ{G A bo own ρ σ H ps Q} r e q=>?_⟩
 obtain⟨x,e1,e2⟩:=Option.bind_eq_some_iff.mp e
 obtain⟨xs,e3,e4⟩:=Option.bind_eq_some_iff.mp e2
 cases e4
 refine h2 r e1 λv H1 s1 z1=>h4 (r.mono s1) e3 λvs H2 s2 z2=>q _ H2 (s1.trans s2) (.cons (z1.mono (bu s2)) z2)
theorem vU(h:DA X κ es fs):DO X κ (.List es pos) (vQ fs):=by
 obtain⟨ta,h1,h2⟩:=h
 refine⟨_,zz h1,λ{G A bo own ρ σ H ps Q} r e q=>?_⟩
 obtain⟨x,e1,e2⟩:=Option.bind_eq_some_iff.mp e
 obtain⟨h3,rfl⟩:=bx e2
 refine h2 r e1 λvs H1 s1 z1=>⟨by rw[z1.length];exact h3,λp hp=>q _ _ (s1.trans (cC hp)) ?_⟩
 obtain⟨a,ws,l,w1,w2,w3,w4⟩:=(r.mono s1).uy hp z1
 refine⟨a,ws,l,w1,w2,?_,w4⟩
 cases w1
 exact s1.free hp
theorem fI{x1}(h:DA X κ es fs):DE X κ (.Tuple es x1 pos) (gd fs):=by
 obtain⟨ta,h1,h2⟩:=h
 refine⟨_,FR h1,λ{G A bo own ρ σ H ps Q} r e q=>?_⟩
 obtain⟨x,e1,e2⟩:=Option.bind_eq_some_iff.mp e
 obtain⟨h3,rfl⟩:=bx e2
 exact h2 r e1 λvs H1 s1 z1=>⟨by rw[z1.length];exact h3,λp hp=>q _ _ (s1.trans (cC hp)) ((r.mono s1).Jc hp z1)⟩
end
noncomputable def RR(fr:Bool)(K:PySem.W.Frag)(κ:Kl)(A:Addr->Prop)(G H':Hp)(v:V)(p:PV):Prop:=if fr=true then OR K κ A G H' v p else Rep K κ (hide A H') v p
noncomputable def zU(K:PySem.W.Frag)(κ:Kl)(fr:Bool)(G:Hp)(A:Addr->Prop)(bo:Nat->Option (Addr×List V))(D:Ends):Fl->Prop
 |.nx ρ'=>∀cO σ' H',R K κ G A bo cO ρ' σ' H'->D.nx σ' H'
 |.bk ρ'=>∀cO σ' H',R K κ G A bo cO ρ' σ' H'->D.bk σ' H'
 |.ct ρ'=>∀cO σ' H',R K κ G A bo cO ρ' σ' H'->D.ct σ' H'
 |.rt p=>∀v H',aE G H'->RR fr K κ A G H' v p->D.rt v H'
noncomputable def Ca(K:PySem.W.Frag)(κ:Kl)(fr:Bool)(ts:TS)(g:aU):Prop:=
 ∀{G A bo own ρ σ H fl D},R K κ G A bo own ρ σ H->g ρ=some fl->zU K κ fr G A bo D fl->ts D σ H
noncomputable def DS(X:Cx)(κ:Kl)(fr:Bool)(st:Stmt)(g:aU):Prop:=∃ts,PS X st ts/\Ca X.K κ fr ts g
noncomputable def zg(X:Cx)(κ:Kl)(fr:Bool)(st:List Stmt)(g:aU):Prop:=∃ts,vC X st ts/\Ca X.K κ fr ts g
theorem LN{K:PySem.W.Frag}{κ:Kl}{G H H':Hp}{A B:Addr->Prop}{v:V}{p:PV}(h:OR K κ B H H' v p)(s:aE G H)(N2:∀b,A b->B b):OR K κ A G H' v p:=by
 obtain⟨a,vs,l,h1,h2,h3,h4,h5⟩:=h
 exact⟨a,vs,l,h1,h2,s.free h3,h4,h5.mono (cR (λ_ _ z=>z) λb z _=>z.imp (N2 b) id)⟩
section
variable{X:Cx}{κ:Kl}{fr:Bool}{st:Stmt}{rest:List Stmt}{g g':aU}{e a b c:Expr}{f:Den}{ft:dX}{pos:Pos}
theorem du:zg X κ fr [] cB:=⟨_,xa,λ{G A bo own ρ σ H fl D} r e k=>by cases e;exact k own σ H r⟩
theorem CO{K:PySem.W.Frag}{t u:TS}(h1:Ca K κ fr t g)(h2:Ca K κ fr u g'):Ca K κ fr (Fh t u) (aX g g'):=λ{G A bo own ρ σ H fl D} r e k=>by
 obtain⟨f1,e1,e2⟩:=Option.bind_eq_some_iff.mp e
 refine h1 r e1 ?_
 cases f1 with
 |nx ρ'=>exact λcO σ' H' r'=>h2 r' e2 k
 |rt p=>cases e2;exact k
 |bk ρ'=>cases e2;exact k
 |ct ρ'=>cases e2;exact k
theorem ao(h1:DS X κ fr st g)(h2:zg X κ fr rest g'):zg X κ fr (st::rest) (aX g g'):=
 let⟨_,a1,a2⟩:=h1;let⟨_,b1,b2⟩:=h2;⟨_,fU a1 b1,CO a2 b2⟩
theorem aC(h1:DS X κ fr st g):zg X κ fr [st] g:=let⟨_,a1,a2⟩:=h1;⟨_,gj a1,a2⟩
theorem CP{K:PySem.W.Frag}{u:TS}(i:Nat)(h2:Ca K κ fr u g):Ca K κ fr u (aX (CL i) g):=λ{G A bo own ρ σ H fl D} r e k=>by
 obtain⟨f1,e1,e2⟩:=Option.bind_eq_some_iff.mp e
 unfold CL at e1
 split at e1
 ·rename_i l h
  cases e1
  obtain⟨h1,h3,vs,h4,h5⟩:=r.ow i (.l l) h
  change H (own i)=some (.lst vs)at h4
  change aO _ _ _ vs l at h5
  refine h2 (own:=own) (σ:=σ) (H:=H) ?_ e2 k
  have hi:i<ρ.length:=(List.getElem?_eq_some_iff.mp h).1
  have s1:aE (cS A own ρ H) (cS A own (ρ.set i (.sh (.lst l))) H):=km
  have zd:cS A own (ρ.set i (.sh (.lst l))) H (own i)=some (.lst vs):=by
   rw[cS,bK]
   ·exact h4
   ·rintro(z|⟨j,m,z1,z2⟩)
    ·exact r.al _ z h3
    ·by_cases hj:i=j
     ·subst hj
      rw[List.getElem?_set,if_pos rfl,if_pos hi]at z1
      cases z1
     ·rw[List.getElem?_set,if_neg hj]at z1
      exact hj (r.inj j i _ _ z1 h z2).symm
  refine⟨r.al,r.bg,r.same,λj q e=>?_,λj m e=>?_,λj k m n e f=>?_,λj m e=>?_,by rw[List.length_set];exact r.len⟩
  ·by_cases hj:i=j
   ·subst hj
    rw[List.getElem?_set,if_pos rfl,if_pos hi]at e
    cases e
    exact⟨_,h1,.lst (SL.of zd) (h5.mono s1)⟩
   ·rw[List.getElem?_set,if_neg hj]at e
    obtain⟨v,z1,z2⟩:=r.sh j q e
    exact⟨v,z1,z2.mono s1⟩
  ·by_cases hj:i=j
   ·subst hj
    rw[List.getElem?_set,if_pos rfl,if_pos hi]at e
    cases e
   ·rw[List.getElem?_set,if_neg hj]at e
    obtain⟨z1,z2,ws,z3,z4⟩:=r.ow j m e
    exact⟨z1,z2,ws,z3,z4.mono s1⟩
  ·have ne:∀{j:Nat} {m:Cn},(ρ.set i (.sh (.lst l)))[j]?=some (.own m)->ρ[j]?=some (.own m):=λ{j m} z=>by
     rw[List.getElem?_set]at z
     split at z
     ·first|cases z|(split at z<;>cases z)
     ·exact z
   exact r.inj j k m n (ne e) (ne f)
  ·by_cases hj:i=j
   ·subst hj
    rw[List.getElem?_set,if_pos rfl,if_pos hi]at e
    cases e
   ·rw[List.getElem?_set,if_neg hj]at e
    obtain⟨b,ws,z1,z2,z3⟩:=r.bw j m e
    exact⟨b,ws,z1,z2,z3.mono s1⟩
 ·cases e1
  exact h2 r e2 k
theorem CQ(i:Nat)(h:zg X κ fr rest g):zg X κ fr rest (aX (CL i) g):=let⟨_,a1,a2⟩:=h;⟨_,a1,CP i a2⟩
theorem zV:DS X κ fr (.Break pos) pE:=⟨_,zk,λ{G A bo own ρ σ H fl D} r e k=>by cases e;exact k own σ H r⟩
theorem bh(h:DE X κ e f):DS X κ false (.Return (some e) pos) (bV f):=by
 obtain⟨te,h1,h2⟩:=h
 refine⟨_,lg h1,λ{G A bo own ρ σ H fl D} r e k=>?_⟩
 obtain⟨p,e1,rfl⟩:=Option.map_eq_some_iff.mp e
 refine h2 r e1 λv H' s z=>k v H' (r.same.trans s) ?_
 exact z.mono (cR (λ_ _ q=>q) λb q _=>.inl q)
theorem fJ{ρ:c8}{i:Nat}{l:List PV}(h:uo ρ i=some l):ρ[i]?=some (.ow l):=by
 unfold uo at h
 split at h
 ·rename_i l' e
  cases h
  exact e
 ·cases h
theorem CS(i:Nat){x:Str}{p':Pos}(hN:X.N[i]?=some x:=by rfl)(hv:tU X.env.scope x:=by first|exact Or.inl rfl|exact Or.inr (Or.inl rfl)|exact Or.inr (Or.inr rfl))(hd:(x==("__debug__" :Str))=false:=by decide)
  (nc:(x==("__classdict__" :Str))=false:=by decide):DS X κ true (.Return (some (.Name x p')) pos) (El i):=by
 refine⟨_,lg (d0 hN hv hd nc),λ{G A bo own ρ σ H fl D} r e k=>?_⟩
 obtain⟨l,e1,rfl⟩:=Option.map_eq_some_iff.mp e
 obtain⟨h1,h3,vs,h4,h5⟩:=r.ow i (.l l) (fJ e1)
 change H (own i)=some (.lst vs)at h4
 change aO _ _ _ vs l at h5
 refine⟨_,h1,k _ H r.same ?_⟩
 exact⟨own i,vs,l,rfl,rfl,h3,h4,h5.mono (cR (λ_ _ z=>z) λb z _=>by
  rcases z with z|z
  ·exact .inl z
  ·exact .inr ⟨i,.l l,fJ e1,z.symm⟩)⟩
theorem fD{sa sb:List Stmt}(hc:DT X κ c ft)(ha:zg X κ fr sa g)(hb:zg X κ fr sb g'):DS X κ fr (.If c sa sb pos) (iV ft g g'):=by
 obtain⟨tc,h5,h6⟩:=hc
 obtain⟨ta,h1,h2⟩:=ha
 obtain⟨tb,h3,h4⟩:=hb
 refine⟨_,D9 h5 h1 h3,λ{G A bo own ρ σ H fl D} r e k=>?_⟩
 obtain⟨c,e1,e2⟩:=Option.bind_eq_some_iff.mp e
 refine h6 r e1 λH1 s1=>?_
 cases c with
 |true=>exact h2 (r.mono s1) e2 k
 |false=>exact h4 (r.mono s1) e2 k
theorem bH(i:Nat){x:Str}{p':Pos}(hN:X.N.Nodup)(h:DE X κ e f)(hi:X.N[i]?=some x:=by rfl)(hx:Loc X.env.scope x:=by first|exact Or.inl rfl|exact Or.inr rfl)(hs:swapsWith e (some (.Name x p')) pos.line X.env=pure false:=by rfl)
  (hf:X.fn x=true\/X.env.scope.names.lookup x=some .local:=by first|exact .inl rfl|exact .inr rfl):DS X κ fr (.Assign [.Name x p'] e pos) (cN i f):=by
 obtain⟨te,h1,h2⟩:=h
 refine⟨_,lh hN hi hx h1 hs hf,λ{G A bo own ρ σ H fl D} r e k=>?_⟩
 obtain⟨p,e1,rfl⟩:=Option.map_eq_some_iff.mp e
 exact h2 r e1 λv H' s z=>k _ _ _ ((r.mono s).set z)
theorem R.Gh{K:PySem.W.Frag}{G H H':Hp}{A:Addr->Prop}{bo:Nat->Option (Addr×List V)}{own:Nat->Addr}{ρ:c8}{σ:St}(r:R K κ G A bo own ρ σ H)(s:aE H H'){i:Nat}{v:V}{l:List PV}(z:OR K κ (cD A own ρ) H H' v (.lst l)):
  ∃cO,R K κ G A bo cO (ρ.set i (.ow l)) (σ.set i (some v)) H':=by
 obtain⟨a,vs,l',rfl,z2,h3,h4,h5⟩:=z
 cases z2
 refine⟨_,r.IZ (r.same.free h3) (λq=>r.new h3 (.inl q)) (λj m e _ q=>r.new h3 (.inr ⟨j,m,e,q⟩)) ?_ (λb o q _=>s b o q) h4 h5⟩
 exact cR s λb w nz=>by
  rcases w with w|w
  ·exact w
  ·rw[w]at nz
   exact absurd h3 nz
theorem oR(i:Nat){x:Str}{p':Pos}(hN:X.N.Nodup)(h:DO X κ e f)(hi:X.N[i]?=some x:=by rfl)(hx:Loc X.env.scope x:=by first|exact Or.inl rfl|exact Or.inr rfl)(hs:swapsWith e (some (.Name x p')) pos.line X.env=pure false:=by rfl)
  (hf:X.fn x=true\/X.env.scope.names.lookup x=some .local:=by first|exact .inl rfl|exact .inr rfl):DS X κ fr (.Assign [.Name x p'] e pos) (mq i f):=by
 obtain⟨te,h1,h2⟩:=h
 refine⟨_,lh hN hi hx h1 hs hf,λ{G A bo own ρ σ H fl D} r e k=>?_⟩
 obtain⟨p,e1,e2⟩:=Option.bind_eq_some_iff.mp e
 obtain⟨l,e3,rfl⟩:=Option.map_eq_some_iff.mp e2
 refine h2 r e1 λv H' s z=>?_
 cases p<;>first|(cases e3;done)|skip
 cases e3
 obtain⟨cO,r'⟩:=r.Gh s (i:=i) z
 exact k _ _ _ r'
theorem R.LO{K:PySem.W.Frag}{G H:Hp}{A:Addr->Prop}{bo:Nat->Option (Addr×List V)}{own:Nat->Addr}{ρ:c8}{σ:St}(r:R K κ G A bo own ρ σ H){i:Nat}{l l':Cn}{ws:List V}(h:ρ[i]?=some (.own l))(q:aO K κ (cS A own ρ H) ws (Gd l')):
  ∃cO,R K κ G A bo cO (ρ.set i (.own l')) σ (upd H (own i) (zO l' ws)):=by
 obtain⟨h1,h3,vs,h4,h5⟩:=r.ow i l h
 have e:σ.set i (some (.ref (own i)))=σ:=by
  obtain⟨hl,hx⟩:=List.getElem?_eq_some_iff.mp h1
  rw[<-hx]
  exact List.set_getElem_self hl
 have hs:cD A own ρ (own i):=.inr ⟨i,l,h,rfl⟩
 have he:hide (λb=>cD A own ρ b\/b=own i) (upd H (own i) (zO l' ws))=cS A own ρ H:=by
  rw[mv (.inr rfl)]
  congr 1
  funext b
  refine propext ⟨λz=>?_,.inl⟩
  rcases z with z|z
  ·exact z
  ·rw[z]
   exact hs
 have:=r.IZ (i:=i) (a:=own i) (vs:=ws) (l:=l') (H1:=upd H (own i) (zO l' ws)) h3 (λz=>r.al _ z h3) (λj m e' hj z=>hj (r.inj j i _ _ e' h z)) (by rw[he];exact λ_ _ z=>z) (λb o z hb=>by rw[aF hb];exact z) aM (by rw[he];exact q)
 rw[e]at this
 exact⟨_,this⟩
noncomputable def Eo(K:PySem.W.Frag)(κ:Kl)(rm:V->List V->Hp->VK->Prop)(gm:List PV->List PV->Option (List PV)):Prop:=
 ∀{hH H:Hp} {a:Addr} {vs ws:List V} {l xs l':List PV} {Q:VK},aE hH H->H a=some (.lst vs)->aO K κ hH vs l->aO K κ hH ws xs->gm l xs=some l'->(∀us,aO K κ hH us l'->Q .non (upd H a (.lst us)))->rm (.ref a) ws H Q
theorem R.mut{K:PySem.W.Frag}{G H:Hp}{A:Addr->Prop}{bo:Nat->Option (Addr×List V)}{own:Nat->Addr}{ρ:c8}{σ:St}(r:R K κ G A bo own ρ σ H){i:Nat}{l l':List PV}{ws:List V}(h:ρ[i]?=some (.ow l))(q:aO K κ (cS A own ρ H) ws l'):
 ∃cO,R K κ G A bo cO (ρ.set i (.ow l')) σ (upd H (own i) (.lst ws)):=r.LO (l:=.l l) (l':=.l l') h q
theorem CT{K:PySem.W.Frag}{rm:V->List V->Hp->VK->Prop}{gm:List PV->List PV->Option (List PV)}{fs:dg}{ta:TA}(i:Nat)(hg:Eo K κ rm gm)
  (ha:∀{G A bo own ρ σ H ps Q},R K κ G A bo own ρ σ H->fs ρ=some ps->(∀vs H',aE H H'->aO K κ (cS A own ρ H') vs ps->Q vs H')->ta σ H Q):Ca K κ fr (tZ (MM K "list" rm (kx i) ta)) (pF i gm fs):=λ{G A bo own ρ σ H fl D} r e k=>by
 obtain⟨xs,e1,e2⟩:=Option.bind_eq_some_iff.mp e
 obtain⟨l,e3,e4⟩:=Option.bind_eq_some_iff.mp e2
 obtain⟨l',e5,rfl⟩:=Option.map_eq_some_iff.mp e4
 have zf:=fJ e3
 obtain⟨h1,h3,vs,h4,h5⟩:=r.ow i (.l l) zf
 change H (own i)=some (.lst vs)at h4
 change aO _ _ _ vs l at h5
 refine⟨_,h1,.inl ⟨rfl,vs,k8.of h4⟩,ha r e1 λws H2 s2 z2=>?_⟩
 refine hg aD (s2 _ _ h4) (h5.mono (bu s2)) z2 e5 λus z=>?_
 obtain⟨cO,r'⟩:=(r.mono s2).mut zf z
 exact k _ _ _ r'
theorem zW{K:PySem.W.Frag}{rm:V->List V->Hp->VK->Prop}{gm:List PV->List PV->Option (List PV)}(i:Nat)(hg:Eo K κ rm gm):Ca K κ fr (tZ (IM K "list" rm (kx i))) (pF i gm aK):=λ{G A bo own ρ σ H fl D} r e k=>by
 obtain⟨xs,e1,e2⟩:=Option.bind_eq_some_iff.mp e
 obtain⟨l,e3,e4⟩:=Option.bind_eq_some_iff.mp e2
 obtain⟨l',e5,rfl⟩:=Option.map_eq_some_iff.mp e4
 have zf:=fJ e3
 obtain⟨h1,h3,vs,h4,h5⟩:=r.ow i (.l l) zf
 change H (own i)=some (.lst vs)at h4
 change aO _ _ _ vs l at h5
 cases e1
 refine⟨_,h1,.inl ⟨rfl,vs,k8.of h4⟩,?_⟩
 refine hg aD h4 h5 .nil e5 λus z=>?_
 obtain⟨cO,r'⟩:=r.mut zf z
 exact k _ _ _ r'
theorem kn{x:Str}{p' apos dm:Pos}{ee:Expr}{fs:dg}(i:Nat)(ha:DA X κ [ee] fs)(hN:X.N[i]?=some x:=by rfl)(hv:tU X.env.scope x:=by first|exact Or.inl rfl|exact Or.inr (Or.inl rfl)|exact Or.inr (Or.inr rfl))(hd:(x==("__debug__" :Str))=false:=by decide)
  (nc:(x==("__classdict__" :Str))=false:=by decide)(iP:attributeBase (.Name x p') "append" X.env (eval (.Name x p') X.env)=eval (.Name x p') X.env:=by rfl)
  (rY:((backTo dm (starEach [ee] X.env)).all (λx=>!x.1)&&(backToKw dm (keywordEach [] X.env)).all (λx=>x.1.isSome)
    &&decide ([ee].length+([]:List Keyword).length+(if([]:List Keyword).isEmpty then 0 else 1)<30))=true:=by rfl)
  (hs:swapsWith (.Call (.Attribute (.Name x p') "append" apos) [ee] [] dm) none pos.line X.env=pure false:=by rfl)(iQ:(apos.endLine==dm.line)=true:=by rfl)(ng:starEach [ee] X.env=(false,eval ee X.env)::starEach [] X.env:=by rfl):
  DS X κ fr (.Expr (.Call (.Attribute (.Name x p') "append" apos) [ee] [] dm) pos) (pF i hU fs):=by
 obtain⟨ta,h1,h2⟩:=ha
 refine⟨_,g9 (xm PySem.F.plainAttrs_list PySem.F.slot_list_append PySem.F.type_list_append qY (d0 hN hv hd nc) h1 iP rY iQ ng rfl) hs,CT i ?_ h2⟩
 intro hH H a vs ws l xs l' Q s h3 h4 h5 h6 q
 unfold hU at h6
 split at h6
 ·obtain⟨h7,rfl⟩:=bx h6
  cases h5 with
  |cons z t=>
   cases t
   exact⟨a,vs,_,rfl,rfl,h3,by rw[h4.length];exact h7,q _ (h4.append (.cons z .nil))⟩
 ·cases h6
theorem zX{x:Str}{p' apos dm:Pos}(i:Nat)(hN:X.N[i]?=some x:=by rfl)(hv:tU X.env.scope x:=by first|exact Or.inl rfl|exact Or.inr (Or.inl rfl)|exact Or.inr (Or.inr rfl))(hd:(x==("__debug__" :Str))=false:=by decide)
  (nc:(x==("__classdict__" :Str))=false:=by decide)(iP:attributeBase (.Name x p') "clear" X.env (eval (.Name x p') X.env)=eval (.Name x p') X.env:=by rfl)
  (hs:swapsWith (.Call (.Attribute (.Name x p') "clear" apos) [] [] dm) none pos.line X.env=pure false:=by rfl)(iQ:(apos.endLine==dm.line)=true:=by rfl):
  DS X κ fr (.Expr (.Call (.Attribute (.Name x p') "clear" apos) [] [] dm) pos) (pF i zL aK):=by
 refine⟨_,g9 (FZ PySem.F.plainAttrs_list PySem.F.slot_list_clear PySem.F.type_list_clear zF (d0 hN hv hd nc) iP iQ) hs,zW i ?_⟩
 intro hH H a vs ws l xs l' Q s h3 h4 h5 h6 q
 cases h5 with
 |cons _ _=>cases h6
 |nil=>
  cases h6
  exact⟨a,vs,rfl,rfl,h3,q [] .nil⟩
end
noncomputable def uz(K:PySem.W.Frag)(κ:Kl)(Gs:Hp)(A:Addr->Prop)(J:It)(ps:List PV):Prop:=
 ∀(i:Nat) (H2:Hp),aE Gs H2->(∀p,ps[i]?=some p->J.go i H2/\∀x H3,J.yld i H2 x H3->aE H2 H3/\∀B:Addr->Prop,(∀b,B b->H2 b≠none)->aE (hide A Gs) (hide B H2)->Rep K κ (hide B H3) x p)/\(ps.length<=i->J.stop i H2)
noncomputable def DI(X:Cx)(κ:Kl)(tg iter:Expr)(f:dg):Prop:=∃wi,PI X tg iter wi/\∀{G A bo own ρ σ H ps Q},R X.K κ G A bo own ρ σ H->f ρ=some ps->(∀J H',aE H H'->uz X.K κ (zd own ρ H') A J ps->Q J H')->wi σ H Q
noncomputable def Kk(X:Cx)(κ:Kl)(tg iter:Expr)(f:dg):Prop:=∃wi,PI X tg iter wi/\∀{G A bo own ρ σ H ps Q},R X.K κ G A bo own ρ σ H->f ρ=some ps->(∀J H',aE H H'->uz X.K κ H' (cD A own ρ) J ps->Q J H')->wi σ H Q
noncomputable def DG(X:Cx)(κ:Kl)(tg:Expr)(g:qx):Prop:=∃tt,PG X tg tt/\∀{G A bo own ρ σ H p v ρ' Q},R X.K κ G A bo own ρ σ H->Rep X.K κ (cS A own ρ H) v p->g p ρ=some ρ'->(∀cO σ',R X.K κ G A bo cO ρ' σ' H->aE (cS A own ρ H) (cS A cO ρ' H)->Q σ' H)->tt v σ H Q
section
variable{K:PySem.W.Frag}{κ:Kl}{Gs:Hp}{A:Addr->Prop}{a:Addr}{vs:List V}{l:List PV}
theorem rf(h:SL K Gs a vs)(q:aO K κ (hide A Gs) vs l):uz K κ Gs A (K7 K a) l:=λi H2 s=>by
 have h2:k8 K H2 a vs:=(s.sl h).sq
 refine⟨λp e=>?_,λhl=>⟨vs,h2,by rw[q.length];exact hl⟩⟩
 obtain⟨v,e1,r1⟩:=q.get e
 refine⟨⟨vs,v,h2,e1⟩,λx H3 ⟨y1,y2⟩=>?_⟩
 subst y1
 have:=y2 vs h2
 rw[e1]at this
 cases this
 exact⟨aE.refl _,λB _ sb=>r1.mono sb⟩
theorem zY(h:k9 K Gs a vs)(q:aO K κ (hide A Gs) vs l):uz K κ Gs A (K8 K a) l:=λi H2 s=>by
 have h2:k9 K H2 a vs:=rb s h
 refine⟨λp e=>?_,λhl=>⟨vs,h2,by rw[q.length];exact hl⟩⟩
 obtain⟨v,e1,r1⟩:=q.get e
 refine⟨⟨vs,v,h2,e1⟩,λx H3 ⟨y1,y2⟩=>?_⟩
 subst y1
 have:=y2 vs h2
 rw[e1]at this
 cases this
 exact⟨aE.refl _,λB _ sb=>r1.mono sb⟩
theorem vV{lo:Int}{n i:Nat}{p:PV}(h:(i3 lo n)[i]?=some p):i<n/\p=.int (lo+(i:Nat)):=by
 unfold i3 at h
 rw[List.getElem?_map]at h
 obtain⟨k,h1,rfl⟩:=Option.map_eq_some_iff.mp h
 obtain⟨h2,h3⟩:=List.getElem?_eq_some_iff.mp h1
 rw[List.getElem_range]at h3
 subst h3
 exact⟨by simpa using h2,rfl⟩
theorem vW{lo:Int}{n:Nat}:uz K κ Gs A (Ij lo n) (i3 lo n):=λi H2 s=>by
 refine⟨λp e=>?_,λhl=>show n<=i by simpa[i3]using hl⟩
 obtain⟨h1,rfl⟩:=vV e
 refine⟨h1,λx H3 ⟨y1,y2⟩=>?_⟩
 subst y1 y2
 exact⟨aE.refl _,λB _ _=>.int _⟩
end
section
variable{X:Cx}{κ:Kl}{fr:Bool}{g:aU}{e a b c tg iter:Expr}{f fa fb:Den}{ft:dX}{pos:Pos}{fi:dg}{gt gu:qx}{body:List Stmt}
theorem CU{A:Addr->Prop}{own:Nat->Addr}{ρ:c8}{H:Hp}:aE (cS A own ρ H) (zd own ρ H):=by
 rw[<-ux]
 exact aD
theorem CV(h:DE X κ e f):DI X κ tg e (nList f):=by
 obtain⟨te,h1,h2⟩:=h
 refine⟨_,xc h1,λ{G A bo own ρ σ H ps Q} r e q=>?_⟩
 obtain⟨p,e1,e2⟩:=Option.bind_eq_some_iff.mp e
 refine h2 r e1 λv H' s z=>?_
 cases p<;>first|(cases e2;done)|skip
 cases e2
 cases z with
 |lst q1 q2=>exact⟨_,rfl,⟨_,((aD (A:=cD A own ρ)).sl q1).sq⟩,q _ H' s (rf (CU.sl q1) (by rw[ux];exact q2))⟩
theorem iS(h:DB X κ e f):Kk X κ tg e (nList f):=by
 obtain⟨te,h1,h2⟩:=h
 refine⟨_,xc h1,λ{G A bo own ρ σ H ps Q} r e q=>?_⟩
 obtain⟨p,e1,e2⟩:=Option.bind_eq_some_iff.mp e
 refine h2 r e1 λv H' s z=>?_
 cases p<;>first|(cases e2;done)|skip
 cases e2
 obtain⟨a,vs,rfl,q1,q2⟩:=z.lst aD
 exact⟨_,rfl,⟨_,q1.sq⟩,q _ H' s (rf q1 q2)⟩
theorem xy(h:DB X κ e f):Kk X κ tg e (zK f):=by
 obtain⟨te,h1,h2⟩:=h
 refine⟨_,Ft h1,λ{G A bo own ρ σ H ps Q} r e q=>?_⟩
 obtain⟨p,e1,e2⟩:=Option.bind_eq_some_iff.mp e
 refine h2 r e1 λv H' s z=>?_
 cases p<;>first|(cases e2;done)|skip
 cases e2
 obtain⟨a,vs,rfl,q1,q2⟩:=z.tup aD
 exact⟨_,rfl,⟨_,q1⟩,q _ H' s (zY q1 q2)⟩
theorem LP{K:PySem.W.Frag}{te:TE}(h2:Jb K κ te f){G A bo own ρ σ H ps}{Q:It->Hp->Prop}(r:R K κ G A bo own ρ σ H)(e:kG f ρ=some ps)(q:∀n H',aE H H'->ps=i3 0 n->Q (Ij 0 n) H'):Ec (jH te rP) σ H Q:=by
 obtain⟨p,e1,e2⟩:=Option.bind_eq_some_iff.mp e
 obtain⟨j,e3,e4⟩:=Option.bind_eq_some_iff.mp e2
 obtain⟨h3,h4⟩:=bx e4
 simp only[um,Bool.and_eq_true,decide_eq_true_eq]at h3
 refine h2 r e1 λv H' s z=>?_
 cases p<;>first|(cases e3;done)|skip
 cases e3
 exact⟨_,by rw[z.int],h3.1,h3.2,q _ H' s h4.symm⟩
theorem oS{p pos:Pos}(h:DB X κ a f)(hm:X.mg "range" =none)(hg:Gl X "range" :=by rfl)(hs:starEach [a] X.env=[(false,eval a X.env)]:=by rfl):DI X κ tg (.Call (.Name "range" p) [a] [] pos) (kG f):=by
 obtain⟨te,h1,h2⟩:=h
 exact⟨_,yj hg hm (aQ h1 cc hs) hs,λ{G A bo own ρ σ H ps Q} r e q=>LP h2 r e λn H' s e'=>q _ H' s (by rw[e'];exact vW)⟩
theorem eZ(i:Nat){x:Str}(hN:X.N.Nodup)(hi:X.N[i]?=some x:=by rfl)(hx:Loc X.env.scope x:=by first|exact Or.inl rfl|exact Or.inr rfl)(hf:X.fn x=true\/X.env.scope.names.lookup x=some .local:=by first|exact .inl rfl|exact .inr rfl):DG X κ (.Name x pos) (bW i):=
 ⟨_,Ci hN hi hx hf,λ{G A bo own ρ σ H p v ρ' Q} r z e q=>by cases e;exact q _ _ (r.set z) km⟩
theorem CW{k:Nat}(ha:DG X κ a gt)(hb:DG X κ b gu)(hc:X.calm=true:=by rfl)(hs:(assignEach [a,b] X.env).map (·.2)=assign a X.env::(assignEach [b] X.env).map (·.2):=by rfl)(nk:(assignEach [b] X.env).map (·.2)=assign b X.env::(assignEach [] X.env).map (·.2):=by rfl)
  (hn:(assignEach [a,b] X.env).length=2:=by rfl)(ng:(assignEach [a,b] X.env).findIdx? (·.1)=none:=by rfl):DG X κ (.Tuple [a,b] k pos) (nA gt gu):=by
 obtain⟨ta,h1,h2⟩:=ha
 obtain⟨tb,h3,h4⟩:=hb
 refine⟨_,zo hc (ph h1 (ph h3 xb nk) hs) hn ng,λ{G A bo own ρ σ H p v ρ' Q} r z e q=>?_⟩
 unfold nA at e
 split at e
 ·rename_i x y
  obtain⟨ρ1,e1,e2⟩:=Option.bind_eq_some_iff.mp e
  cases z with
  |tup q1 q2=>
   cases q2 with
   |cons r1 q2=>
    cases q2 with
    |cons r2 q2=>
     cases q2
     refine⟨_,_,rfl,rb (aD (A:=cD A own ρ)) q1,rfl,_,_,rfl,h2 r r1 e1 λcO σ' r' s'=>?_⟩
     exact⟨_,_,rfl,h4 r' (r2.mono s') e2 λpL σ2 r3 s3=>⟨rfl,q pL σ2 r3 (s'.trans s3)⟩⟩
 ·cases e
end
section
variable{K:PySem.W.Frag}{κ:Kl}{fr:Bool}{gb:aU}{ft:dX}{gt:qx}{fi:dg}
theorem yw{g:qx}{body:aU}{x:PV}{xs:List PV}{ρ:c8}{fl:Fl}(h:forL g body (x::xs) ρ=some fl):∃ρ1 f,g x ρ=some ρ1/\body ρ1=some f/\(match f with
  |.nx ρ'=>forL g body xs ρ'
  |.ct ρ'=>forL g body xs ρ'
  |.bk ρ'=>some (.nx ρ')
  |.rt p=>some (.rt p))=some fl:=by
 unfold forL at h
 obtain⟨ρ1,e1,e2⟩:=Option.bind_eq_some_iff.mp h
 obtain⟨f,e3,e4⟩:=Option.bind_eq_some_iff.mp e2
 exact⟨ρ1,f,e1,e3,e4⟩
theorem yx{J:It}{ps:List PV}{G:Hp}{A:Addr->Prop}{bo:Nat->Option (Addr×List V)}{tg:TG}{tb:TS}{D:Ends}{own:Nat->Addr}{ρ:c8}{σ:St}{H:Hp}{fl:Fl}
  (hI:uz K κ G A J ps)(hg:∀{own ρ σ H p v ρ' Q},R K κ G A bo own ρ σ H->Rep K κ (cS A own ρ H) v p->gt p ρ=some ρ'->(∀cO σ',R K κ G A bo cO ρ' σ' H->aE (cS A own ρ H) (cS A cO ρ' H)->Q σ' H)->tg v σ H Q)
  (hb:Ca K κ fr tb gb)(r:R K κ G A bo own ρ σ H)(e:forL gt gb ps ρ=some fl)(k:zU K κ fr G A bo D fl):
  ∃W:Nat->Nat->St->Hp->Prop,(∃m,W 0 m σ H)/\∀i m σ H,W i m σ H->
   (J.stop i H/\D.nx σ H)\/(J.go i H/\∃N:St->Hp->Prop,(∀σ' H',N σ' H'->∃m',m'<m/\W (i+1) m' σ' H')/\∀x H',J.yld i H x H'->tg x σ H' λσ2 H2=>tb {D with nx:=N,ct:=N,bk:=D.nx} σ2 H2):=by
 refine⟨λi m σ H=>m=ps.length-i/\i<=ps.length/\∃own ρ,R K κ G A bo own ρ σ H/\forL gt gb (ps.drop i) ρ=some fl,⟨ps.length,by simp,Nat.zero_le _,own,ρ,r,by simpa using e⟩,?_⟩
 rintro i m σ H ⟨rfl,hi,own,ρ,r,e⟩
 obtain⟨h1,h2⟩:=hI i H r.same
 by_cases tS:i<ps.length
 ·rw[List.drop_eq_getElem_cons tS]at e
  obtain⟨ρ1,f,e1,e3,e4⟩:=yw e
  obtain⟨h3,h4⟩:=h1 ps[i] (List.getElem?_eq_getElem tS)
  refine .inr ⟨h3,λσ' H'=>i+1<=ps.length/\∃own ρ,R K κ G A bo own ρ σ' H'/\forL gt gb (ps.drop (i+1)) ρ=some fl,λσ' H' ⟨q0,q⟩=>⟨ps.length-(i+1),by omega,rfl,q0,q⟩,λx H' y=>?_⟩
  obtain⟨s,q⟩:=h4 x H' y
  have r1:=r.mono s
  refine hg r1 (q (cD A own ρ) (λb hb=>r.B8 hb) r.CM) e1 λcO σ' r2 _=>?_
  refine hb r2 e3 ?_
  cases f with
  |nx ρ'=>exact λpL σ2 H2 r3=>⟨tS,pL,ρ',r3,e4⟩
  |ct ρ'=>exact λpL σ2 H2 r3=>⟨tS,pL,ρ',r3,e4⟩
  |bk ρ'=>cases e4;exact k
  |rt p=>cases e4;exact k
 ·have hn:ps.drop i=[]:=List.drop_eq_nil_of_le (by omega)
  rw[hn]at e
  cases e
  exact .inl ⟨h2 (by omega),k own σ H r⟩
theorem zU.small{G G':Hp}{A:Addr->Prop}{bo:Nat->Option (Addr×List V)}{D:Ends}{fl:Fl}(k:zU K κ fr G A bo D fl)(s:aE G G')(al:∀b,A b->G b≠none)(bg:∀i a vs,bo i=some (a,vs)->G a=some (.lst vs)):zU K κ fr G' A bo D fl:=by
 cases fl with
 |nx ρ'=>exact λcO σ' H' r=>k cO σ' H' (r.small s al bg)
 |bk ρ'=>exact λcO σ' H' r=>k cO σ' H' (r.small s al bg)
 |ct ρ'=>exact λcO σ' H' r=>k cO σ' H' (r.small s al bg)
 |rt p=>
  intro v H' s' q
  refine k v H' (s.trans s') ?_
  unfold RR at q⊢
  split
  ·rename_i h
   rw[if_pos h]at q
   exact LN q s λb z=>z
  ·rename_i h
   rw[if_neg h]at q
   exact q
end
section
variable{X:Cx}{κ:Kl}{fr:Bool}{g:aU}{e a b c tg iter:Expr}{f fa fb:Den}{ft:dX}{pos:Pos}{fi:dg}{gt gu:qx}{body:List Stmt}
theorem nF(hi:DI X κ tg iter fi)(hg:DG X κ tg gt)(hb:zg X κ fr body g)(hp:PassesOwn (model X.prog X.w) X.A X.env X.xe:=by exact PassesOwn.never)(hc:X.calm=true:=by rfl)(hs:∀x,foldedSetIterable iter X.env x=pure x:=by intro _;rfl):DS X κ fr (.For tg iter body [] pos) (pG fi gt g):=by
 obtain⟨wi,h1,h2⟩:=hi
 obtain⟨tt,h3,h4⟩:=hg
 obtain⟨tb,h5,h6⟩:=hb
 refine⟨_,Fu hp hc h1 h3 h5 hs,λ{G A bo own ρ σ H fl D} r e k=>?_⟩
 obtain⟨ps,e1,e2⟩:=Option.bind_eq_some_iff.mp e
 refine h2 r e1 λJ H' s hI=>?_
 have r1:=r.mono s
 exact yx hI h4 h6 r1.big e2 (k.small r1.gv r1.al r1.bg)
theorem zZ(n:Nat)(hc:DT X κ c ft)(hb:zg X κ fr body g)(hp:PassesOwn (model X.prog X.w) X.A X.env X.xe:=by exact PassesOwn.never):DS X κ fr (.While c body [] pos) (fG ft g n):=by
 obtain⟨tc,h1,h2⟩:=hc
 obtain⟨tb,h3,h4⟩:=hb
 refine⟨_,t5 hp h1 h3,λ{G A bo own ρ σ H fl D} r e k=>?_⟩
 refine⟨λm σ H=>∃own ρ,R X.K κ G A bo own ρ σ H/\fG ft g m ρ=some fl,⟨n,own,ρ,r,e⟩,?_⟩
 rintro m σ H ⟨own,ρ,r,e⟩
 cases m with
 |zero=>cases e
 |succ m=>
  unfold fG at e
  obtain⟨c,e1,e2⟩:=Option.bind_eq_some_iff.mp e
  refine h2 r e1 λH1 s1=>?_
  cases c with
  |false=>
   cases e2
   exact k own σ H1 (r.mono s1)
  |true=>
   obtain⟨f,e3,e4⟩:=Option.bind_eq_some_iff.mp e2
   refine⟨λσ' H'=>∃own ρ,R X.K κ G A bo own ρ σ' H'/\fG ft g m ρ=some fl,λσ' H' q=>⟨m,Nat.lt_succ_self m,q⟩,?_⟩
   refine h4 (r.mono s1) e3 ?_
   cases f with
   |nx ρ'=>exact λpL σ2 H2 r3=>⟨pL,ρ',r3,e4⟩
   |ct ρ'=>exact λpL σ2 H2 r3=>⟨pL,ρ',r3,e4⟩
   |bk ρ'=>cases e4;exact k
   |rt p=>cases e4;exact k
end
noncomputable def Km(K:PySem.W.Frag)(κ:Kl)(f:Den):TE:=λσ H Q=>∃G A bo own ρ p,R K κ G A bo own ρ σ H/\f ρ=some p/\∀v H',aE H H'->Rep K κ (cS A own ρ H') v p->Q v H'
noncomputable def LQ(K:PySem.W.Frag)(κ:Kl)(f:dX):TT:=λσ H Q=>∃G A bo own ρ b,R K κ G A bo own ρ σ H/\f ρ=some b/\∀H',aE H H'->Q b H'
theorem DE.pe{X:Cx}{κ:Kl}{e:Expr}{f:Den}(h:DE X κ e f):PE X e (Km X.K κ f):=λpins s σ H Q I ⟨_,_,_,_,_,_,r,e,q⟩=>let⟨_,h1,h2⟩:=h;h1 pins s σ H Q I (h2 r e q)
noncomputable def LR{α:Type}(f:Nat->α)(d:α):Nat->α
 |0=>d
 |i+1=>f i
section
variable{K:PySem.W.Frag}{κ:Kl}{G H:Hp}{A:Addr->Prop}{bo:Nat->Option (Addr×List V)}{own:Nat->Addr}{ρ:c8}{σ:St}{v:V}{p:PV}
theorem ko:cD A (LR own 0) (.sh p::ρ)=cD A own ρ:=by
 funext b
 refine propext ⟨λz=>?_,λz=>?_⟩
 ·rcases z with z|⟨j,m,z1,z2⟩
  ·exact .inl z
  ·cases j with
   |zero=>simp at z1
   |succ j=>exact .inr ⟨j,m,by simpa using z1,z2⟩
 ·rcases z with z|⟨j,m,z1,z2⟩
  ·exact .inl z
  ·exact .inr ⟨j+1,m,by simpa using z1,z2⟩
theorem R.cons(r:R K κ G A bo own ρ σ H)(z:Rep K κ (cS A own ρ H) v p):R K κ G A (LR bo none) (LR own 0) (.sh p::ρ) (some v::σ) H where
 al:=r.al
 bg:=λi a vs e=>by
  cases i with
  |zero=>cases e
  |succ i=>exact r.bg i a vs e
 same:=r.same
 sh:=λi q e=>by
  rw[cS,ko]
  cases i with
  |zero=>
   simp at e
   subst e
   exact⟨v,rfl,z⟩
  |succ i=>exact r.sh i q (by simpa using e)
 ow:=λi l e=>by
  rw[cS,ko]
  cases i with
  |zero=>simp at e
  |succ i=>exact r.ow i l (by simpa using e)
 inj:=λi j l m e f q=>by
  cases i with
  |zero=>simp at e
  |succ i=>
   cases j with
   |zero=>simp at f
   |succ j=>rw[r.inj i j l m (by simpa using e) (by simpa using f) q]
 bw:=λi l e=>by
  rw[cS,ko]
  cases i with
  |zero=>simp at e
  |succ i=>exact r.bw i l (by simpa using e)
 len:=by rw[List.length_cons,List.length_cons,r.len]
theorem uA{wi:TI}{fi:dg}{c:dX}{e:Den}(hi:∀{G A bo own ρ σ H ps Q},R K κ G A bo own ρ σ H->fi ρ=some ps->(∀J H',aE H H'->uz K κ H' (cD A own ρ) J ps->Q J H')->wi σ H Q):
  MY K κ (zG wi (LQ K κ c) (Km K κ e)) (dP fi c e):=λ{G A bo own ρ σ H p Q} r e0 q=>by
 obtain⟨ps,e1,e2⟩:=Option.bind_eq_some_iff.mp e0
 have h0:ps.length<=sizeLine/\(kI c e ρ ps).map PV.lst=some p:=by
  split at e2
  ·exact⟨by assumption,e2⟩
  ·cases e2
 obtain⟨zs,e3,rfl⟩:=Option.map_eq_some_iff.mp h0.2
 refine hi r e1 λJ H1 s1 hI=>?_
 refine⟨λi m acc H2=>m=ps.length-i/\i<=ps.length/\aE H1 H2/\acc.length<=i/\∃out rest,aO K κ (cS A own ρ H2) acc out/\kI c e ρ (ps.drop i)=some rest/\out++rest=zs,
  ⟨ps.length,by simp,Nat.zero_le _,aE.refl _,Nat.zero_le _,[],zs,.nil,by simpa using e3,rfl⟩,?_⟩
 rintro i m acc H2 ⟨rfl,HF,s2,ha,out,rest,q1,q2,q3⟩
 obtain⟨h1,h2⟩:=hI i H2 s2
 have LS:=s1.trans s2
 have r2:=r.mono LS
 by_cases tS:i<ps.length
 ·rw[List.drop_eq_getElem_cons tS]at q2
  obtain⟨h3,h4⟩:=h1 ps[i] (List.getElem?_eq_getElem tS)
  refine .inr ⟨h3,by omega,λy H3 hy=>?_⟩
  obtain⟨s3,q4⟩:=h4 y H3 hy
  have rep:=q4 (cD A own ρ) (λb hb=>r2.B8 hb) (bu s2)
  have r3:=(r2.mono s3).cons rep
  unfold kI at q2
  obtain⟨b,e4,e5⟩:=Option.bind_eq_some_iff.mp q2
  refine⟨_,_,_,_,_,_,r3,e4,λH4 s4=>?_⟩
  have r4:=r3.mono s4
  cases b with
  |true=>
   dsimp only
   rw[if_pos rfl]at e5⊢
   obtain⟨z,e6,e7⟩:=Option.bind_eq_some_iff.mp e5
   obtain⟨ws,e8,rfl⟩:=Option.map_eq_some_iff.mp e7
   refine⟨_,_,_,_,_,_,r4,e6,λv H5 s5 q5=>?_⟩
   rw[cS,ko]at q5
   refine⟨ps.length-(i+1),by omega,rfl,tS,((s2.trans s3).trans s4).trans s5,by simp;omega,out++[z],ws,?_,e8,by rw[<-q3];simp⟩
   exact(q1.mono (bu ((s3.trans s4).trans s5))).append (.cons q5 .nil)
  |false=>
   dsimp only
   rw[if_neg Bool.false_ne_true]at e5⊢
   exact⟨ps.length-(i+1),by omega,rfl,tS,(s2.trans s3).trans s4,by omega,out,rest,q1.mono (bu (s3.trans s4)),e5,q3⟩
 ·have hn:ps.drop i=[]:=List.drop_eq_nil_of_le (by omega)
  rw[hn]at q2
  cases q2
  rw[List.append_nil]at q3
  subst q3
  refine .inl ⟨h2 (by omega),λp hp=>q _ _ (LS.trans (cC hp)) ?_⟩
  obtain⟨a,ws,l,w1,w2,w3,w4⟩:=r2.uy hp q1
  refine⟨a,ws,l,w1,w2,?_,w4⟩
  cases w1
  exact LS.free hp
end
section
variable{X:Cx}{κ:Kl}{fr:Bool}{sc:Scope}{x:Str}{px pos:Pos}{elt iter c:Expr}{fi:dg}{ft:dX}{f:Den}
theorem i5(hi:Kk X κ (.Name x px) iter fi)(xq:Scope)(N0 ys:List Str)(he:∀ex C s H,DE (X.pB sc x ys ex C s H) κ elt f)(Gj:X.env.scope=xq:=by rfl)(LU:X.N=N0:=by rfl)(F8:nv xq N0 sc x ys=true:=by decide+kernel)(hc:X.calm=true:=by rfl)
  (hs:∀x,foldedSetIterable iter X.env x=pure x:=by intro _;rfl):DO X κ (.ListComp elt [⟨.Name x px,iter,[],0⟩] sc pos) (dP fi dh f):=by
 obtain⟨wi,h1,h2⟩:=hi
 refine⟨_,CJ h1 ys (tt:=LQ X.K κ dh) (te:=Km X.K κ f) (λex C s H=>?_) (λex C s H=>(he ex C s H).pe) (by rw[Gj,LU];exact F8) hc hs,uA h2⟩
 intro pins s σ H Q I ⟨_,_,_,_,_,_,r,e,q⟩
 cases e
 exact ue pins s σ H Q I (q _ (aE.refl _))
end
noncomputable def fE(K:PySem.W.Frag)(κ:Kl)(fr:Bool)(F:List PV->Option PV):Sp:=λvs H Q _=>∃(A:Addr->Prop) (ps:List PV) (p:PV),(∀b,A b->H b≠none)/\aO K κ (hide A H) vs ps/\F ps=some p/\∀v H',aE H H'->RR fr K κ A H H' v p->Q v H'
section
variable{X:Cx}{κ:Kl}{fr:Bool}{k:Nat}{f:Addr}{fd:FuncData}{ps:List Str}{F:List PV->Option PV}{x:Str}{p pos:Pos}{e:Expr}{es:List Expr}{fs:dg}
theorem cJ(FO:aH X.prog X.w X.K X.mg X.base b8 k f fd ps (fE X.K κ false F))(hr:cM k X.A)(hm:X.mg x=some (.ref f))(hk:PySem.W.keepIn X.K (.ref f)=true)(hb:Binds X.K fd ps [])(ha:DA X κ (e::es) fs)(hg:Gl X x:=by rfl)(oG:(x==("__debug__" :Str))=false:=by decide)
  (he:starEach (e::es) X.env=(false,eval e X.env)::starEach es X.env:=by rfl)(hpl:(backTo pos (starEach es X.env)).any (·.1)=false:=by rfl):DE X κ (.Call (.Name x p) (e::es) [] pos) (cj F fs):=by
 obtain⟨ta,h1,h2⟩:=ha
 refine⟨_,rQ FO hr hg hm hk hb .nil gG h1 oG he hpl,λ{G A bo own ρ σ H p Q} r e q=>?_⟩
 obtain⟨xs,e1,e2⟩:=Option.bind_eq_some_iff.mp e
 refine h2 r e1 λvs H1 s1 z1=>?_
 rw[List.append_nil]
 exact⟨cD A own ρ,xs,p,λb hb=>(r.mono s1).B8 hb,z1,e2,λv H' s z=>q v H' (s1.trans s) z⟩
theorem CY(FO:aH X.prog X.w X.K X.mg X.base b8 k f fd ps (fE X.K κ true F))(hr:cM k X.A)(hm:X.mg x=some (.ref f))(hk:PySem.W.keepIn X.K (.ref f)=true)(hb:Binds X.K fd ps [])(ha:DA X κ (e::es) fs)(hg:Gl X x:=by rfl)(oG:(x==("__debug__" :Str))=false:=by decide)
  (he:starEach (e::es) X.env=(false,eval e X.env)::starEach es X.env:=by rfl)(hpl:(backTo pos (starEach es X.env)).any (·.1)=false:=by rfl):DO X κ (.Call (.Name x p) (e::es) [] pos) (cj F fs):=by
 obtain⟨ta,h1,h2⟩:=ha
 refine⟨_,rQ FO hr hg hm hk hb .nil gG h1 oG he hpl,λ{G A bo own ρ σ H p Q} r e q=>?_⟩
 obtain⟨xs,e1,e2⟩:=Option.bind_eq_some_iff.mp e
 refine h2 r e1 λvs H1 s1 z1=>?_
 rw[List.append_nil]
 exact⟨cD A own ρ,xs,p,λb hb=>(r.mono s1).B8 hb,z1,e2,λv H' s z=>q v H' (s1.trans s) (LN z s1 λb w=>w)⟩
end
section
variable{P:Program}{w:World}{K:PySem.W.Frag}{mg:Str->Option Value}{base:Heap}{κ:Kl}{fr:Bool}
theorem lq{n:Nat}{ps:List PV}{i:Nat}{s:Slot}(h:(ij n ps)[i]?=some s):(∃p,ps[i]?=some p/\s=.sh p)\/s=.un:=by
 unfold ij at h
 rw[List.getElem?_append]at h
 split at h
 ·rw[List.getElem?_map]at h
  obtain⟨p,h1,h2⟩:=Option.map_eq_some_iff.mp h
  exact .inl ⟨p,h1,h2.symm⟩
 ·rw[List.getElem?_replicate]at h
  split at h
  ·exact .inr (Option.some.inj h).symm
  ·cases h
theorem R.entry{A:Addr->Prop}{H:Hp}{N:List Str}{vs:List V}{ps:List PV}(al:∀b,A b->H b≠none)(h:aO K κ (hide A H) vs ps):R K κ H A (λ_=>none) (λ_=>0) (ij N.length ps) (start N vs) H:=by
 have no:∀{i:Nat} {l:Cn},(ij N.length ps)[i]?≠some (.own l):=λ{i l} e=>by
  rcases lq e with⟨p,_,z⟩|z<;>cases z
 have he:cD A (λ_=>0) (ij N.length ps)=A:=by
  funext b
  refine propext ⟨λz=>?_,.inl⟩
  rcases z with z|⟨j,m,z1,z2⟩
  ·exact z
  ·exact absurd z1 no
 refine⟨al,λi a vs e=>(by cases e),λ_ _ z=>z,λi p e=>?_,λi l e=>absurd e no,λi j l m e=>absurd e no,λi l e=>?_,?_⟩
 ·rcases lq e with⟨p',h1,z⟩|z
  ·cases z
   obtain⟨v,h2,h3⟩:=h.get h1
   refine⟨v,?_,by rw[cS,he];exact h3⟩
   unfold start
   rw[List.getElem?_append_left (by rw[List.length_map];exact(List.getElem?_eq_some_iff.mp h2).1),List.getElem?_map,h2]
   rfl
  ·cases z
 ·rcases lq e with⟨p,_,z⟩|z<;>cases z
 ·unfold start ij
  simp[h.length]
theorem bC{x qual:Str}{st:Stmt}{f:Addr}{fd:FuncData}{N ps:List Str}{k:Nat}{g:aU}(F:nW K x qual st f fd)(S:aJ N ps (aj st))
  (hb:∀(dO:Value) (A:Around) (outer:List Env) (s:Shared) (H:Hp) (E:XK),cM k (A.deeper (envOfC qual (aj st) s.heap.objs.size f dO))->zg (rR b8 P w K mg base N qual (aj st) f dO A outer s H E).zj κ fr (fN st) g):
  aH P w K mg base b8 (k+1) f fd ps (fE K κ fr (fn fr N.length ps.length g)):=by
 refine F.ok S (λvs H Q E h=>?_) (λdO A outer s H vs Q E hr h=>?_)
 ·obtain⟨A,qs,p,_,h1,h2,_⟩:=h
  unfold fn at h2
  split at h2
  ·rw[h1.length]
   assumption
  ·cases h2
 ·obtain⟨A',qs,p,al,h1,h2,q⟩:=h
  obtain⟨ts,a1,a2⟩:=hb dO A outer s H E hr
  refine⟨ts,a1,?_⟩
  have h3:(g (ij N.length qs)).bind (IW fr)=some p:=by
   unfold fn at h2
   split at h2
   ·exact h2
   ·cases h2
  obtain⟨fl,e1,e2⟩:=Option.bind_eq_some_iff.mp h3
  refine a2 (R.entry al h1) e1 ?_
  cases fl with
  |rt p'=>cases e2;exact q
  |nx ρ'=>
   cases fr with
   |true=>cases e2
   |false=>
    cases e2
    exact λcO σ' H' r'=>q _ _ r'.same .non
  |bk ρ'=>cases e2
  |ct ρ'=>cases e2
end
end L2.D
namespace L2.D
open PySem PySem.Spec PyProof.Rows PySem.SeqAt
open Classical
section
variable{X:Cx}{pins:List (Addr×Obj)}{σ:St}{H:Hp}{s:Shared}{κ:Kl}
theorem jL{f:PV->PV->Option Bool}:∀{l m:List PV} {es:List Bool},oI f l m=some es->l.length=m.length->es.length=l.length
 |[],[],_,h,_=>by cases h;rfl
 |a::l,b::m,es,h,e=>by
  unfold oI at h
  obtain⟨c,h1,h2⟩:=Option.bind_eq_some_iff.mp h
  obtain⟨cs,h3,rfl⟩:=Option.map_eq_some_iff.mp h2
  simp[jL h3 (by simpa using e)]
theorem my{f:PV->PV->Option Bool}:∀{l m:List PV} {es:List Bool} {j:Nat} {p q:PV},oI f l m=some es->l[j]?=some p->m[j]?=some q->∃e,es[j]?=some e/\f p q=some e
 |[],_,_,_,_,_,_,hp,_=>by simp at hp
 |_::_,[],_,_,_,_,_,_,hq=>by simp at hq
 |a::l,b::m,es,0,p,q,h,hp,hq=>by
  unfold oI at h
  obtain⟨c,h1,h2⟩:=Option.bind_eq_some_iff.mp h
  obtain⟨cs,h3,rfl⟩:=Option.map_eq_some_iff.mp h2
  simp at hp hq
  subst hp hq
  exact⟨c,rfl,h1⟩
 |a::l,b::m,es,j+1,p,q,h,hp,hq=>by
  unfold oI at h
  obtain⟨c,h1,h2⟩:=Option.bind_eq_some_iff.mp h
  obtain⟨cs,h3,rfl⟩:=Option.map_eq_some_iff.mp h2
  obtain⟨e,h4,h5⟩:=my (j:=j) h3 (by simpa using hp) (by simpa using hq)
  exact⟨e,by simpa using h4,h5⟩
theorem z9:∀(n:Nat) (p:PV) (b:Bool),ki n p p=some b->b=true:=by
 intro n
 induction n with
 |zero=>
  intro p b h
  unfold ki at h
  cases p<;>simp[flat,B5]at h<;>exact h
 |succ n ih=>
  have key:∀(l:List PV) (es:List Bool),oI (ki n) l l=some es->es.all id=true:=by
   intro l
   induction l with
   |nil=>intro es h;cases h;rfl
   |cons a l N3=>
    intro es h
    unfold oI at h
    obtain⟨c,h1,h2⟩:=Option.bind_eq_some_iff.mp h
    obtain⟨cs,h3,rfl⟩:=Option.map_eq_some_iff.mp h2
    simp[ih _ _ h1,N3 _ h3]
  intro p b h
  cases p with
  |lst l=>
   unfold ki B6 at h
   rw[if_pos rfl]at h
   obtain⟨es,h1,rfl⟩:=Option.map_eq_some_iff.mp h
   exact key l es h1
  |tup l=>
   unfold ki B6 at h
   rw[if_pos rfl,if_pos rfl]at h
   obtain⟨es,h1,rfl⟩:=Option.map_eq_some_iff.mp h
   exact key l es h1
  |_=>simp[ki,flat,B5]at h<;>exact h
theorem uB(I:Inv X pins σ H s){a:Addr}{xs ys:List V}(h:k8 X.K H a xs)(h':k9 X.K H a ys):False:=by
 obtain⟨_,_,p1,_⟩:=I.list h
 obtain⟨_,_,p2,_⟩:=I.tuple h'
 obtain⟨o,e1,c1,_⟩:=p1.isList
 obtain⟨o2,e2,c2,_⟩:=p2
 rw[e1]at e2
 cases e2
 rw[c1]at c2
 injection c2 with z
 exact absurd z (by decide)
mutual
theorem Rep.inj(I:Inv X pins σ H s):∀{v:V} {p q:PV},Rep X.K κ H v p->Rep X.K κ H v q->(∀n b,ki n p q=some b->p=q)
 |_,_,_,.non,.non=>λ_ _ _=>rfl
 |_,_,_,.bl _,.bl _=>λ_ _ _=>rfl
 |_,_,_,.int _,.int _=>λ_ _ _=>rfl
 |_,_,_,.str _,.str _=>λ_ _ _=>rfl
 |_,_,_,.lst h r,q=>λn b e=>by
  cases q with
  |lst h' r'=>
   have:=I.tY h.sq h'.sq
   subst this
   cases n with
   |zero=>simp[ki,flat]at e
   |succ n=>
    unfold ki B6 at e
    split at e
    ·obtain⟨es,e1,_⟩:=Option.map_eq_some_iff.mp e
     rw[aO.inj I r r' n es e1]
    ·rename_i hl
     exact absurd (r.length.symm.trans r'.length) hl
  |tup h' _=>exact(uB I h.sq h').elim
  |ins _ _ _=>cases n<;>simp[ki,flat]at e
 |_,_,_,.tup h r,q=>λn b e=>by
  cases q with
  |lst h' _=>exact(uB I h'.sq h).elim
  |tup h' r'=>
   have:=I.qS h h'
   subst this
   cases n with
   |zero=>simp[ki,flat]at e
   |succ n=>
    unfold ki B6 at e
    have hl:=r.length.symm.trans r'.length
    rw[if_pos hl,if_pos hl]at e
    obtain⟨es,e1,_⟩:=Option.map_eq_some_iff.mp e
    rw[aO.inj I r r' n es e1]
  |ins _ _ _=>cases n<;>simp[ki,flat]at e
 |_,_,_,.ins _ _ _,q=>λn b e=>by
  cases n<;>cases q<;>simp[ki,flat]at e
theorem aO.inj(I:Inv X pins σ H s):∀{vs:List V} {l m:List PV},aO X.K κ H vs l->aO X.K κ H vs m->∀n es,oI (ki n) l m=some es->l=m
 |_,_,_,.nil,.nil=>λ_ _ _=>rfl
 |_,_,_,.cons r t,.cons r' t'=>λn es e=>by
  unfold oI at e
  obtain⟨c,h1,h2⟩:=Option.bind_eq_some_iff.mp e
  obtain⟨cs,h3,rfl⟩:=Option.map_eq_some_iff.mp h2
  rw[Rep.inj I r r' n c h1,aO.inj I t t' n cs h3]
end
theorem mz{es:List Bool}{n:Nat}(h:es.length=n):((List.range n).all λj=>es.getD j false)=es.all id:=by
 subst h
 exact range_all es
theorem uC{A:Around}{a b:Addr}{xs ys:List V}(I:Inv X pins σ H s)(ha:k9 X.K H a xs)(hb:k9 X.K H b ys)(hl:xs.length=ys.length)(hu:A.units<cLine)(q:Nat->Bool)
  (hq:∀(j:Nat) x y u v,xs[j]?=some x->ys[j]?=some y->RelV x u->RelV y v->EqAt A.in1 s u v (q j)):RcAt A s (.ref a) (.ref b) ((List.range xs.length).all q):=by
 obtain⟨its,r1,p1,z1⟩:=I.tuple ha
 obtain⟨qF,r2,p2,z2⟩:=I.tuple hb
 have l1:=r1.length
 have l2:=r2.length
 have:=RcAt.tuples (A:=A) (s:=s) (e:=q) (l:=a) (b:=b) p1 p2 hu λj h1 h2=>?_
 ·rw[List.size_toArray,List.size_toArray,<-l1,<-l2,<-hl,Nat.min_self,beq_self_eq_true,Bool.and_true]at this
  exact this
 ·rw[List.size_toArray]at h1 h2
  obtain⟨x,hx⟩:∃x,xs[j]?=some x:=⟨xs[j],List.getElem?_eq_getElem (by omega)⟩
  obtain⟨y,hy⟩:∃y,ys[j]?=some y:=⟨ys[j],List.getElem?_eq_getElem (by omega)⟩
  obtain⟨u,e1,ru⟩:=r1.get hx
  obtain⟨v,e2,rv⟩:=r2.get hy
  have f1:its.toArray[j]=u:=by
   have:=(List.getElem?_eq_some_iff.mp e1).2
   simpa using this
  have f2:qF.toArray[j]=v:=by
   have:=(List.getElem?_eq_some_iff.mp e2).2
   simpa using this
  rw[f1,f2]
  exact hq j x y u v hx hy ru rv
theorem xA{A:Around}{v w:V}{u u':Value}{p q:PV}(f:(flat p&&flat q)=true)(r1:Rep X.K κ H v p)(r2:Rep X.K κ H w q)(e1:RelV v u)(e2:RelV w u'):EqAt A s u u' (B5 p q):=by
 rw[Bool.and_eq_true]at f
 have hv:gF v=true:=by cases r1<;>simp_all[flat,gF]
 have hw:gF w=true:=by cases r2<;>simp_all[flat,gF]
 have:B5 p q=ze v w:=by cases r1<;>cases r2<;>simp_all[flat,B5,ze]
 rw[this]
 exact zC e1 e2 hv hw
theorem uD(I:Inv X pins σ H s):∀(n:Nat) {p q:PV} {v w:V} {u u':Value} {A:Around} {b:Bool},A.units+n<cLine->Rep X.K κ H v p->Rep X.K κ H w q->RelV v u->RelV w u'->ki n p q=some b->EqAt A s u u' b:=by
 intro n
 induction n with
 |zero=>
  intro p q v w u u' A b hu r1 r2 e1 e2 h
  unfold ki at h
  obtain⟨h1,rfl⟩:=bx h
  exact xA h1 r1 r2 e1 e2
 |succ n ih=>
  intro p q v w u u' A b hu r1 r2 e1 e2 h
  have Jf:A.in1.units+n<cLine:=by
   have:A.in1.units=A.units+1:=rfl
   omega
  by_cases hf:(flat p&&flat q)=true
  ·have:ki (n+1) p q=some (B5 p q):=by
     cases p<;>cases q<;>simp_all[ki,flat]
   rw[this]at h
   cases h
   exact xA hf r1 r2 e1 e2
  ·by_cases hvw:v=w
   ·subst hvw
    have N4:=Rep.inj I r1 r2 _ _ h
    subst N4
    have hb:=z9 _ _ _ h
    subst hb
    cases r1 with
    |lst _ _=>cases e1;cases e2;exact EqAt.same _
    |tup _ _=>cases e1;cases e2;exact EqAt.same _
    |ins _ _ _=>cases e1;cases e2;exact EqAt.same _
    |_=>simp[flat]at hf
   ·have hr:∀{xs ys:List V} {l m:List PV} {es:List Bool},aO X.K κ H xs l->aO X.K κ H ys m->oI (ki n) l m=some es->∀(j:Nat) x y u v,xs[j]?=some x->ys[j]?=some y->RelV x u->RelV y v->EqAt A.in1 s u v (es.getD j false):=by
      intro xs ys l m es w1 w2 he j x y u v hx hy ru rv
      obtain⟨p1,g1,g2⟩:=w1.vT hx
      obtain⟨p2,g3,g4⟩:=w2.vT hy
      obtain⟨e,g5,g6⟩:=my he g1 g3
      rw[List.getD_eq_getElem?_getD,g5]
      exact ih Jf g2 g4 ru rv g6
    cases r1 with
    |@lst a vs l h1 w1=>
     cases q with
     |lst m=>
      cases r2 with
      |@lst b' N5 _ h2 w2=>
       cases e1
       cases e2
       refine EqAt.of_refs (λz=>hvw (by rw[z])) ?_
       unfold ki B6 at h
       split at h
       ·rename_i hl
        obtain⟨es,g1,rfl⟩:=Option.map_eq_some_iff.mp h
        have g2:=jL g1 hl
        have:=ug I h1.sq h2.sq (A:=A) (by omega) (λj=>es.getD j false) (hr w1 w2 g1)
        rw[decide_eq_true (by rw[w1.length,w2.length];exact hl),Bool.true_and,mz (by rw[w1.length];exact g2)]at this
        exact this
       ·rename_i hl
        cases h
        obtain⟨its,k1,p1,z1⟩:=I.list h1.sq
        obtain⟨qF,k2,p2,z2⟩:=I.list h2.sq
        have l1:=k1.length
        have l2:=k2.length
        have l3:=w1.length
        have l4:=w2.length
        exact RcAt.lists_lengths p1.isList p2.isList (by rw[List.size_toArray,List.size_toArray];simp;omega) (by omega)
     |_=>cases r2<;>simp[ki,flat]at h
    |@tup a vs l h1 w1=>
     cases q with
     |tup m=>
      cases r2 with
      |@tup b' N5 _ h2 w2=>
       cases e1
       cases e2
       refine EqAt.of_refs (λz=>hvw (by rw[z])) ?_
       unfold ki B6 at h
       split at h
       ·rename_i hl
        try rw[if_pos hl]at h
        obtain⟨es,g1,rfl⟩:=Option.map_eq_some_iff.mp h
        have g2:=jL g1 hl
        have:=uC I h1 h2 (A:=A) (by rw[w1.length,w2.length];exact hl) (by omega) (λj=>es.getD j false) (hr w1 w2 g1)
        rw[mz (by rw[w1.length];exact g2)]at this
        exact this
       ·cases h
     |_=>cases r2<;>simp[ki,flat]at h
    |ins _ _ _=>cases q<;>simp[ki,flat]at h
    |_=>cases r2<;>simp[ki,flat]at h hf
end
end L2.D
namespace L2.D
open PySem PySem.Spec PyProof.Rows PySem.SeqAt
open Classical
section
variable{X:Cx}{κ:Kl}{fr:Bool}{e a b c:Expr}{f fa fb fc:Den}{p pos:Pos}
noncomputable def LV(K:PySem.W.Frag)(κ:Kl)(neg:Bool):R2:=λx y H Q=>∃p q b,Rep K κ H x p/\Rep K κ H y q/\eqT p q=some b/\Q (.bl (if neg then !b else b)) H
theorem uE{pins:List (Addr×Obj)}{σ:St}{H:Hp}{s:Shared}{A:Around}{a b:Addr}{vs ws:List V}{l m:List PV}{r:Bool}(I:Inv X pins σ H s)(hu:A.units+20<cLine)(h1:SL X.K H a vs)(w1:aO X.K κ H vs l)(h2:SL X.K H b ws)(w2:aO X.K κ H ws m)
  (h:ki 20 (.lst l) (.lst m)=some r):RcAt A s (.ref a) (.ref b) r/\RcNeAt A s (.ref a) (.ref b) (!r):=by
 unfold ki B6 at h
 have Jf:A.in1.units+19<cLine:=by
  have:A.in1.units=A.units+1:=rfl
  omega
 split at h
 ·rename_i hl
  obtain⟨es,g1,rfl⟩:=Option.map_eq_some_iff.mp h
  have g2:=jL g1 hl
  have hr:∀(j:Nat) x y u v,vs[j]?=some x->ws[j]?=some y->RelV x u->RelV y v->EqAt A.in1 s u v (es.getD j false):=by
   intro j x y u v hx hy ru rv
   obtain⟨p1,k1,k2⟩:=w1.vT hx
   obtain⟨p2,k3,k4⟩:=w2.vT hy
   obtain⟨e,k5,k6⟩:=my g1 k1 k3
   rw[List.getD_eq_getElem?_getD,k5]
   exact uD I 19 Jf k2 k4 ru rv k6
  have z1:=ug I h1.sq h2.sq (A:=A) (by omega) (λj=>es.getD j false) hr
  have z2:=vP I h1.sq h2.sq (A:=A) (by omega) (λj=>es.getD j false) hr
  rw[decide_eq_true (by rw[w1.length,w2.length];exact hl),Bool.true_and,mz (by rw[w1.length];exact g2)]at z1 z2
  exact⟨z1,z2⟩
 ·rename_i hl
  cases h
  obtain⟨its,k1,p1,z1⟩:=I.list h1.sq
  obtain⟨qF,k2,p2,z2⟩:=I.list h2.sq
  have l1:=k1.length
  have l2:=k2.length
  have l3:=w1.length
  have l4:=w2.length
  exact⟨RcAt.lists_lengths p1.isList p2.isList (by rw[List.size_toArray,List.size_toArray];simp;omega) (by omega),RcNeAt.lists_lengths p1.isList p2.isList (by rw[List.size_toArray,List.size_toArray];simp;omega) (by omega)⟩
theorem CZ{pins:List (Addr×Obj)}{σ:St}{H:Hp}{s:Shared}{A:Around}{a b:Addr}{vs ws:List V}{l m:List PV}{r:Bool}(I:Inv X pins σ H s)(hu:A.units+20<cLine)(h1:k9 X.K H a vs)(w1:aO X.K κ H vs l)(h2:k9 X.K H b ws)(w2:aO X.K κ H ws m)
  (h:ki 20 (.tup l) (.tup m)=some r):RcAt A s (.ref a) (.ref b) r:=by
 unfold ki B6 at h
 have Jf:A.in1.units+19<cLine:=by
  have:A.in1.units=A.units+1:=rfl
  omega
 split at h
 ·rename_i hl
  try rw[if_pos hl]at h
  obtain⟨es,g1,rfl⟩:=Option.map_eq_some_iff.mp h
  have g2:=jL g1 hl
  have hr:∀(j:Nat) x y u v,vs[j]?=some x->ws[j]?=some y->RelV x u->RelV y v->EqAt A.in1 s u v (es.getD j false):=by
   intro j x y u v hx hy ru rv
   obtain⟨p1,k1,k2⟩:=w1.vT hx
   obtain⟨p2,k3,k4⟩:=w2.vT hy
   obtain⟨e,k5,k6⟩:=my g1 k1 k3
   rw[List.getD_eq_getElem?_getD,k5]
   exact uD I 19 Jf k2 k4 ru rv k6
  have z1:=uC I h1 h2 (A:=A) (by rw[w1.length,w2.length];exact hl) (by omega) (λj=>es.getD j false) hr
  rw[mz (by rw[w1.length];exact g2)]at z1
  exact z1
 ·cases h
theorem Gk(hu:X.A.units+20<cLine):kD X (compareOp .Eq) (LV X.K κ false):=by
 intro pins s σ H x y v u Q I rx ry h
 obtain⟨p,q,r,r1,r2,e,k⟩:=h
 cases p<;>cases q<;>first|cases e|skip
 all_goals first
  |(cases r1 with
   |lst h1 w1=>cases r2 with
    |lst h2 w2=>
     cases rx;cases ry
     exact(uE I hu h1 w1 h2 w2 e).1 _ _ _ _ ⟨.bl r,H,I,rfl,k⟩)
  |(cases r1 with
   |tup h1 w1=>cases r2 with
    |tup h2 w2=>
     cases rx;cases ry
     exact CZ I hu h1 w1 h2 w2 e _ _ _ _ ⟨.bl r,H,I,rfl,k⟩)
  |(cases r1;cases r2;exact Ir pins s σ H _ _ v u Q I rx ry ⟨rfl,by simpa using k⟩)
theorem Gm(hu:X.A.units+20<cLine):kD X (compareOp .NotEq) (λx y H Q=>∃p q b,Rep X.K κ H x p/\Rep X.K κ H y q/\(∀l,p≠.tup l)/\eqT p q=some b/\Q (.bl (!b)) H):=by
 intro pins s σ H x y v u Q I rx ry h
 obtain⟨p,q,r,r1,r2,nt,e,k⟩:=h
 cases p<;>cases q<;>first|cases e|skip
 all_goals first
  |exact absurd rfl (nt _)
  |(cases r1 with
   |lst h1 w1=>cases r2 with
    |lst h2 w2=>
     cases rx;cases ry
     exact(uE I hu h1 w1 h2 w2 e).2 _ _ _ _ ⟨.bl (!r),H,I,rfl,k⟩)
  |(cases r1;cases r2;exact Iu pins s σ H _ _ v u Q I rx ry ⟨rfl,by simpa using k⟩)
theorem Jg{A:Around}(h:A.units+64<cLine):A.units+20<cLine:=by omega
theorem kK{k:Nat}(hr:cM k X.A)(ha:DB X κ a fa)(hb:DB X κ b fb):DC X κ .Eq a b (af nh fa fb):=by
 obtain⟨ta,h1,h2⟩:=ha
 obtain⟨tb,h3,h4⟩:=hb
 refine⟨_,_,_,Gk (κ:=κ) (Jg hr.units),h1,h3,λ{G A bo own ρ σ H p Q} r e q=>?_⟩
 refine qH h2 h4 r e λx y p1 p2 H' s r' b1 b2 e'=>?_
 obtain⟨b,e1,rfl⟩:=Option.map_eq_some_iff.mp e'
 exact⟨p1,p2,b,b1.full aD,b2.full aD,e1,q _ H' s (.bl _)⟩
theorem uF{k:Nat}(hr:cM k X.A)(ha:DB X κ a fa)(hb:DB X κ b fb):DC X κ .NotEq a b (af kz fa fb):=by
 obtain⟨ta,h1,h2⟩:=ha
 obtain⟨tb,h3,h4⟩:=hb
 refine⟨_,_,_,Gm (κ:=κ) (Jg hr.units),h1,h3,λ{G A bo own ρ σ H p Q} r e q=>?_⟩
 refine qH h2 h4 r e λx y p1 p2 H' s r' b1 b2 e'=>?_
 have nt:∀l,p1≠.tup l:=λl z=>by rw[z]at e';cases e'
 have e2:MW p1 p2=some p:=by cases p1<;>first|exact e'|exact absurd rfl (nt _)
 obtain⟨b,e1,rfl⟩:=Option.map_eq_some_iff.mp e2
 exact⟨p1,p2,b,b1.full aD,b2.full aD,nt,e1,q _ H' s (.bl _)⟩
theorem C0{K:PySem.W.Frag}{hH H:Hp}{x:V}{p:PV}(h:BR K κ hH H x p):ui p=some (.bl (decide (x=.non))):=by
 rcases h with h|⟨a,vs,l,rfl,rfl,_⟩
 ·cases h<;>simp[ui]
 ·simp[ui]
theorem Aa{j pos'}(ha:DB X κ a fa):DC X κ .Is a (.Constant .none j pos') (a8 ui fa):=by
 obtain⟨ta,h1,h2⟩:=ha
 refine⟨_,_,_,FJ,h1,E8,λ{G A bo own ρ σ H p Q} r e q=>?_⟩
 obtain⟨p1,e1,e2⟩:=Option.bind_eq_some_iff.mp e
 refine h2 r e1 λx H1 s1 b1=>?_
 rw[C0 b1]at e2
 cases e2
 exact⟨rfl,q _ H1 s1 (.bl _)⟩
theorem Ep{K:PySem.W.Frag}{H:Hp}:∀{vs:List V} {l:List PV},aO K κ H vs l->l.all flat=true->vs.all gF=true
 |_,_,.nil,_=>rfl
 |_,_,.cons r t,h=>by
  rw[List.all_cons,Bool.and_eq_true]at h⊢
  refine⟨?_,Ep t h.2⟩
  cases r<;>simp_all[flat,gF]
theorem Jh{K:PySem.W.Frag}{H H':Hp}{v w:V}{p q:PV}(r1:Rep K κ H v p)(r2:Rep K κ H' w q)(f1:flat p=true)(f2:flat q=true):B5 p q=ze v w:=by
 cases r1<;>cases r2<;>simp_all[flat,B5,ze]
theorem Er{K:PySem.W.Frag}{H H':Hp}{v:V}{p:PV}(r:Rep K κ H v p)(f:flat p=true):∀{vs:List V} {l:List PV},aO K κ H' vs l->l.all flat=true->r9 p l=Kf v vs
 |_,_,.nil,_=>rfl
 |_,_,.cons r1 t,h=>by
  rw[List.all_cons,Bool.and_eq_true]at h
  have ih:=Er r f t h.2
  unfold r9 Kf at ih⊢
  rw[List.any_cons,List.any_cons,ih,Jh r1 r h.1 f]
theorem xB{neg:Bool}{K:PySem.W.Frag}{hH H':Hp}{x y:V}{p1 p2 p:PV}{Q:VK}(b1:BR K κ hH H' x p1)(b2:BR K κ hH H' y p2)(s:aE hH H')(e:(if neg then pD p1 p2 else IV p1 p2)=some p)(q:∀b,p=.bl b->Q (.bl b) H'):Kg K neg x y H' Q:=by
 have go:∀(l:List PV) (vs:List V) (a:Addr),y=.ref a->(k8 K H' a vs\/k9 K H' a vs)->aO K κ hH vs l->(if(flat p1&&l.all flat)=true then some (PV.bl (if neg then !r9 p1 l else r9 p1 l))else none)=some p->Kg K neg x y H' Q:=by
  intro l vs a hy hs w e
  obtain⟨h1,h2⟩:=bx e
  rw[Bool.and_eq_true]at h1
  have rx:=b1.full s
  refine⟨a,vs,hy,hs,?_,Ep w h1.2,?_⟩
  ·cases rx<;>simp_all[flat,gF]
  ·rw[Er rx h1.1 w h1.2]at h2
   exact q _ h2.symm
 cases p2 with
 |lst l=>
  obtain⟨a,vs,rfl,q1,q2⟩:=b2.lst s
  exact go l vs a rfl (.inl q1.sq) q2 (by cases neg<;>exact e)
 |tup l=>
  obtain⟨a,vs,rfl,q1,q2⟩:=b2.tup s
  exact go l vs a rfl (.inr q1) q2 (by cases neg<;>exact e)
 |_=>cases neg<;>cases e
theorem Ji(ha:DB X κ a fa)(hb:DB X κ b fb):DC X κ .In a b (af IV fa fb):=by
 obtain⟨ta,h1,h2⟩:=ha
 obtain⟨tb,h3,h4⟩:=hb
 refine⟨_,_,_,yq,h1,h3,λ{G A bo own ρ σ H p Q} r e q=>?_⟩
 refine qH h2 h4 r e λx y p1 p2 H' s r' b1 b2 e'=>?_
 exact xB (neg:=false) b1 b2 aD e' λb z=>q _ H' s (by rw[z];exact .bl _)
theorem Ab(ha:DB X κ a fa)(hb:DB X κ b fb):DC X κ .NotIn a b (af pD fa fb):=by
 obtain⟨ta,h1,h2⟩:=ha
 obtain⟨tb,h3,h4⟩:=hb
 refine⟨_,_,_,rV,h1,h3,λ{G A bo own ρ σ H p Q} r e q=>?_⟩
 refine qH h2 h4 r e λx y p1 p2 H' s r' b1 b2 e'=>?_
 exact xB (neg:=true) b1 b2 aD e' λb z=>q _ H' s (by rw[z];exact .bl _)
theorem ff(ha:DB X κ a fa)(hm:X.mg "len" =none)(hg:Gl X "len" :=by rfl)(hs:starEach [a] X.env=(false,eval a X.env)::starEach [] X.env:=by rfl):DE X κ (.Call (.Name "len" p) [a] [] pos) (a8 dY fa):=by
 obtain⟨ta,h1,h2⟩:=ha
 refine⟨_,jI (mn.or rW) hg hm PySem.boot_len (aQ h1 cc hs) (he:=hs),λ{G A bo own ρ σ H p Q} r e q=>?_⟩
 obtain⟨p1,e1,e2⟩:=Option.bind_eq_some_iff.mp e
 refine h2 r e1 λx H1 s1 b1=>?_
 cases p1<;>first|(cases e2;done)|skip
 ·obtain⟨z1,rfl⟩:=bx e2
  exact .inr ⟨_,by rw[b1.str],z1,q _ H1 s1 (.int _)⟩
 ·cases e2
  obtain⟨a,vs,rfl,q1,q2⟩:=b1.lst aD
  exact .inl ⟨a,vs,rfl,.inl q1.sq,q _ H1 s1 (by rw[q2.length];exact .int _)⟩
 ·cases e2
  obtain⟨a,vs,rfl,q1,q2⟩:=b1.tup aD
  exact .inl ⟨a,vs,rfl,.inr q1,q _ H1 s1 (by rw[q2.length];exact .int _)⟩
theorem C1(ha:DB X κ a fa)(hm:X.mg "list" =none)(hg:Gl X "list" :=by rfl)(hs:starEach [a] X.env=(false,eval a X.env)::starEach [] X.env:=by rfl):DO X κ (.Call (.Name "list" p) [a] [] pos) (a8 uj fa):=by
 obtain⟨ta,h1,h2⟩:=ha
 refine⟨_,iO rX hg hm PyProof.Rows.boot_list (aQ h1 cc hs) (he:=hs),λ{G A bo own ρ σ H p Q} r e q=>?_⟩
 obtain⟨p1,e1,e2⟩:=Option.bind_eq_some_iff.mp e
 refine h2 r e1 λx H1 s1 b1=>?_
 have fin:∀{vs l n},H1 n=none->aO X.K κ (cS A own ρ H1) vs l->p=.lst l->Q (.ref n) (upd H1 n (.lst vs)):=λ{vs l n} hn w z=>by
  subst z
  refine q _ _ (s1.trans (cC hn)) ?_
  obtain⟨a,ws,l,w1,w2,w3,w4⟩:=(r.mono s1).uy hn w
  refine⟨a,ws,l,w1,w2,?_,w4⟩
  cases w1
  exact s1.free hn
 cases p1<;>first|(cases e2;done)|skip
 ·obtain⟨a,vs,rfl,q1,q2⟩:=b1.lst aD
  exact⟨a,vs,rfl,.inl q1.sq,λn hn=>fin hn q2 (Option.some.inj e2).symm⟩
 ·obtain⟨a,vs,rfl,q1,q2⟩:=b1.tup aD
  exact⟨a,vs,rfl,.inr q1,λn hn=>fin hn q2 (Option.some.inj e2).symm⟩
theorem aO.at{K:PySem.W.Frag}{H:Hp}{vs:List V}{l:List PV}{i:Int}{p:PV}(h:aO K κ H vs l)(e:itemAt l i=some p):∃v,FV vs i=some v/\Rep K κ H v p:=by
 obtain⟨j,e1,e2⟩:=Option.bind_eq_some_iff.mp e
 obtain⟨v,h1,h2⟩:=h.get e2
 refine⟨v,?_,h2⟩
 unfold FV
 rw[h.length]
 exact Option.bind_eq_some_iff.mpr ⟨j,e1,h1⟩
theorem gK(ha:DB X κ a fa)(hb:DB X κ b fb)(hs:xj b:=by intro _ _;rfl):DE X κ (.Subscript a b pos) (af kj fa fb):=by
 obtain⟨ta,h1,h2⟩:=ha
 obtain⟨tb,h3,h4⟩:=hb
 refine⟨_,II FY h1 h3 hs,λ{G A bo own ρ σ H p Q} r e q=>?_⟩
 refine qH h2 h4 r e λx y p1 p2 H' s r' b1 b2 e'=>?_
 (cases p1<;>first|(cases e';done)|skip)<;>cases p2<;>first|(cases e';done)|skip
 ·rename_i x' i'
  have e3:(if x'.length<=sizeLine then(itemAt x'.cps.toList i').map λc=>PV.str ⟨#[c]⟩else none)=some p:=e'
  have z1:x'.length<=sizeLine:=by
   by_cases z:x'.length<=sizeLine
   ·exact z
   ·rw[if_neg z]at e3
    cases e3
  have z2:((itemAt x'.cps.toList i').map λc=>PV.str ⟨#[c]⟩)=some p:=by
   rw[if_pos z1]at e3
   exact e3
  obtain⟨c,e2,rfl⟩:=Option.map_eq_some_iff.mp z2
  exact .inr (.inr ⟨_,_,c,b1.str,b2.int,z1,e2,q _ H' s (.str _)⟩)
 ·obtain⟨a,vs,rfl,q1,q2⟩:=b1.lst aD
  obtain⟨v,z1,z2⟩:=q2.at e'
  exact .inl ⟨a,vs,_,v,rfl,b2.int,q1.sq,z1,q _ H' s z2⟩
 ·obtain⟨a,vs,rfl,q1,q2⟩:=b1.tup aD
  obtain⟨v,z1,z2⟩:=q2.at e'
  exact .inr (.inl ⟨a,vs,_,v,rfl,b2.int,q1,z1,q _ H' s z2⟩)
noncomputable def DP(X:Cx)(κ:Kl)(e:Option Expr)(f:sd):Prop:=∃to,PO X e to/\∀{G A bo own ρ σ H o Q},R X.K κ G A bo own ρ σ H->f ρ=some o->(∀H',aE H H'->Q o H')->to σ H Q
theorem fO:DP X κ none eI:=⟨_,Cz,λ{G A bo own ρ σ H o Q} r e q=>by cases e;exact q H (aE.refl _)⟩
theorem da(ha:DB X κ a fa):DP X κ (some a) (bT fa):=by
 obtain⟨ta,h1,h2⟩:=ha
 refine⟨_,CA h1,λ{G A bo own ρ σ H o Q} r e q=>?_⟩
 obtain⟨p,e1,e2⟩:=Option.bind_eq_some_iff.mp e
 obtain⟨i,e3,rfl⟩:=Option.map_eq_some_iff.mp e2
 refine h2 r e1 λx H1 s1 b1=>?_
 cases p<;>first|(cases e3;done)|skip
 cases e3
 exact⟨_,b1.int,q H1 s1⟩
theorem aO.cut{K:PySem.W.Frag}{H:Hp}{vs:List V}{l:List PV}(h:aO K κ H vs l)(lo hi:Option Int):aO K κ H (yp vs lo hi) (jK l lo hi):=by
 have e:∀n d o,HT.vD n d o=uk n d o:=λn d o=>by cases o<;>rfl
 unfold yp jK
 rw[h.length,e,e]
 exact(h.drop _).take _
theorem jM{p2:Pos}{lo hi:Option Expr}{fl fh:sd}(ha:DB X κ a fa)(hl:DP X κ lo fl)(hh:DP X κ hi fh):DO X κ (.Subscript a (.Slice lo hi none p2) pos) (xt fa fl fh):=by
 obtain⟨ta,h1,h2⟩:=ha
 obtain⟨tl,h3,h4⟩:=hl
 obtain⟨th,h5,h6⟩:=hh
 refine⟨_,ub xk h1 h3 h5,λ{G A bo own ρ σ H p Q} r e q=>?_⟩
 obtain⟨p1,e1,e2⟩:=Option.bind_eq_some_iff.mp e
 obtain⟨o1,e3,e4⟩:=Option.bind_eq_some_iff.mp e2
 obtain⟨o2,e5,e6⟩:=Option.bind_eq_some_iff.mp e4
 refine h2 r e1 λx H1 s1 b1=>h4 (r.mono s1) e3 λH2 s2=>h6 ((r.mono s1).mono s2) e5 λH3 s3=>?_
 cases p1<;>first|(cases e6;done)|skip
 cases e6
 have Es:=(s1.trans s2).trans s3
 obtain⟨a,vs,rfl,q1,q2⟩:=(b1.zQ (s2.trans s3)).lst aD
 refine⟨a,vs,rfl,q1.sq,λn hn=>q _ _ (Es.trans (cC hn)) ?_⟩
 obtain⟨a,ws,l,w1,w2,w3,w4⟩:=(r.mono Es).uy hn (q2.cut o1 o2)
 refine⟨a,ws,l,w1,w2,?_,w4⟩
 cases w1
 exact Es.free hn
noncomputable def Jj:Nat->String
 |0=> "int"
 |1=> "bool"
 |2=> "str"
 |3=> "list"
 |4=> "tuple"
 |_=> "NoneType"
theorem Gn(K:PySem.W.Frag):∀j,j<6->∀k,k<5->PySem.W.kitOne K (.type (Jj j)) (.type (Jj k))=some (j==k||(k==0&&j==1)):=by
 intro j hj k hk
 rcases j with _|_|_|_|_|_|j<;>first|omega|(rcases k with _|_|_|_|_|k<;>first|omega|rfl)
theorem uG(k:Nat)(hk:k<5):gE X (.builtin "isinstance") (λxs H Q=>∃x p,xs=[x,.ty (Jj k)]/\Rep X.K κ H x p/\xr p≠6/\Q (.bl (vR k p)) H):=by
 intro pins s σ H xs us Q I r h
 obtain⟨x,p,rfl,rp,h6,q⟩:=h
 obtain⟨u,c,rfl,ru,rc⟩:=vals2 r
 cases rc
 have fin:∀tk:Nat,EP X pins σ Q (.bool (vR k p)) {s with toks:=tk}:=λtk=>⟨.bl _,H,I.tok _,rfl,q⟩
 have Et:=λj hj=>Gn X.K j hj k hk
 cases rp with
 |non=>cases ru;exact PySem.W.kia_one PySem.W.kitx_none I.iU True.intro (Et 5 (by decide)) (λz=>nomatch z) fin
 |bl b=>cases ru;exact PySem.W.kia_one PySem.W.kitx_bool I.iU True.intro (Et 1 (by decide)) (λz=>nomatch z) fin
 |int i=>obtain⟨t,rfl⟩:=ru;exact PySem.W.kia_one PySem.W.kitx_int I.iU True.intro (Et 0 (by decide)) (λz=>nomatch z) fin
 |str i=>obtain⟨t,rfl⟩:=ru;exact PySem.W.kia_one PySem.W.kitx_str I.iU True.intro (Et 2 (by decide)) (λz=>nomatch z) fin
 |lst h1 _=>
  cases ru
  obtain⟨_,_,pl,_⟩:=I.list h1.sq
  obtain⟨o,ho,hc,_⟩:=pl.isList
  exact PySem.W.kia_one PySem.W.kitx_list I.iU ⟨o,ho,hc⟩ (Et 3 (by decide)) (λz=>nomatch z) fin
 |tup h1 _=>
  cases ru
  obtain⟨_,_,pl,_⟩:=I.tuple h1
  obtain⟨o,ho,hc,_⟩:=pl
  exact PySem.W.kia_one PySem.W.kitx_tuple I.iU ⟨o,ho,hc⟩ (Et 4 (by decide)) (λz=>nomatch z) fin
 |ins _ _ _=>exact absurd rfl h6
theorem iT{x:Str}{p2:Pos}(k:Nat)(hk:k<5)(hv:bootBuiltins x=some (.type (Jj k)))(ha:DB X κ a fa)(hm:X.mg "isinstance" =none)(uH:X.mg x=none)(hg:Gl X "isinstance")(yy:Gl X x)(hn:x≠ "__name__")(hd:(x==("__debug__" :Str))=false)
  (hs:starEach [a,.Name x p2] X.env=(false,eval a X.env)::starEach [.Name x p2] X.env)(nk:starEach [.Name x p2] X.env=(false,eval (.Name x p2) X.env)::starEach [] X.env)(hpl:(backTo pos (starEach [.Name x p2] X.env)).any (·.1)=false):DE X κ (.Call (.Name "isinstance" p) [a,.Name x p2] [] pos) (a8 (kl k) fa):=by
 obtain⟨ta,h1,h2⟩:=ha
 refine⟨_,jI (uG (κ:=κ) k hk) hg hm PyProof.Rows.boot_isinstance (aQ h1 (aQ (Cg yy uH hv (v:=.ty (Jj k)) rfl hn hd) cc nk) hs) (he:=hs) (hpl:=hpl),λ{G A bo own ρ σ H p Q} r e q=>?_⟩
 obtain⟨p1,e1,e2⟩:=Option.bind_eq_some_iff.mp e
 refine h2 r e1 λx H1 s1 b1=>?_
 unfold kl at e2
 split at e2
 ·cases e2
 ·cases e2
  exact⟨_,p1,rfl,b1.full aD,by assumption,q _ H1 s1 (.bl _)⟩
end
noncomputable def Pm:Kl:=⟨λ_=>0,λ_=>[]⟩
theorem yz{P:Program}{w:World}{K:PySem.W.Frag}{mg mb:Str->Option Value}{CX:B3}{k:Nat}{fa a:Addr}{fd:FuncData}{x:Str}{sp:Sp}{s₁:Shared}{vs:List Value}{ns:List Int}
  (KX:K.In s₁.heap)(HB:s₁.heap.Ns mainGlobals mg)(hb:s₁.heap.Ns builtinsNs mb)(N6:∀x:Str,x≠ "__name__" ->mb x=bootBuiltins x)(LW:s₁.heap.NoLimit)(hg:s₁.gens=#[])
  (ha:s₁.heap.get? a=some {cls:=.type "list",data:=.seq vs.toArray})(hi:IntsAre vs ns)(hl:ns.length<=sizeLine)(hr:cM k callerA)
  (F:∀base:Heap,K.In base->base.Ns mainGlobals mg->aH P w K mg base CX k fa fd [x] sp)(Jk:∀(s:Shared) (u:Value),BindsTo s fd ⟨[u],[]⟩ [(x,u)])
  (Hz:∀H:Hp,IU H->SL K H a (ns.map V.int)->sp [.ref a] H (λv _=>v=.bl true) λ_ _ _=>False)
  (N7:∀H e s',CX [] H s₁ (λ_ _ _=>False) e s'->False):
  codeAny (model P w) callerA (.call (.ref fa) ⟨[.ref a],[]⟩) (λr s'=>r=.ok (.ret (.bool true))/\OldK s₁.heap s'.heap/\s'.os=s₁.os/\AllBare s'.gens) s₁:=by
 have rv:=qZ hi
 have LX:=hi.length
 have core:∀H:Hp,IU H->SL K H a (ns.map V.int)->oM P w H s₁.heap->(∀b,H b≠none->b=a)->(H a≠none->K.lookup a=none)->
   codeAny (model P w) callerA (.call (.ref fa) ⟨[.ref a],[]⟩) (λr s'=>r=.ok (.ret (.bool true))/\OldK s₁.heap s'.heap/\s'.os=s₁.os/\AllBare s'.gens) s₁:=by
  intro H hO hS eF hA hK
  have xC:∀{b:Addr} {o:Obj},s₁.heap.get? b=some o->H b=none->(rN s₁.heap H).get? b=some o:=λe n=>zi e n
  have ID:∀{b:Addr} {o:Obj} {es:Array DictEntry} {ep:Nat},s₁.heap.get? b=some o->o.data=.dict es ep->H b=none:=λ{b o es ep} e d=>by
   cases q:H b with
   |none=>rfl
   |some u=>
    have e':b=a:=hA b (by rw[q];simp)
    subst e'
    rw[ha]at e;cases e
    have d':Data.seq vs.toArray _=Data.dict es ep:=d
    cases d'
  have Kn:∀{b:Addr} {m:Str->Option Value},s₁.heap.Ns b m->(rN s₁.heap H).Ns b m:=λ{b m} ⟨o,es,ep,e,d,r⟩=>⟨o,es,ep,xC e (ID e d),d,r⟩
  have M0:K.In (rN s₁.heap H):=λb o e=>xC (KX b o e) (by
   cases q:H b with
   |none=>rfl
   |some u=>
    have e':b=a:=hA b (by rw[q];simp)
    subst e'
    rw[hK (by rw[q];simp)]at e;cases e)
  have hM:Mod K mg (rN s₁.heap H):=⟨M0,Kn HB,⟨mb,Kn hb,N6⟩,let⟨mc,h1,h2⟩:=LW;⟨mc,Kn h1,h2⟩⟩
  have e0:vM P w K mg (rN s₁.heap H) callerA [] s₁ H:=⟨rfl,hM,λb o e=>Cf e,Nat.le_of_eq (yg _ _),trivial,λb hb=>absurd (show b∈([]:List Addr)from hb) (by simp),eF,.of_eq hg⟩
  refine codeAny_mono ((F _ M0 (Kn HB)).run callerA [] s₁ H ⟨[.ref a],[]⟩ [.ref a] [.ref a] _ _ hr e0 (Jk s₁ (.ref a)) (.cons rfl .nil) (Hz H hO hS)) λr s' h=>?_
  cases r with
  |error e=>exact(N7 H e s' h).elim
  |ok fl=>
   cases fl with
   |next=>exact False.elim h
   |brk=>exact False.elim h
   |cont=>exact False.elim h
   |ret u=>
    obtain⟨v,H',os,bare,un,LY,r',q⟩:=h
    have q':v=.bl true:=q
    subst q'
    obtain rfl:u=Value.bool true:=r'
    refine⟨rfl,OldK.of_keep λb o e=>?_,os,bare⟩
    cases q:H b with
    |none=>exact un.keep b o e q (by intro z;exact absurd (show b∈([]:List Addr)from z) (by simp)) (by simp)
    |some u=>
     rcases hO b with z|⟨ob,xs,z⟩
     ·rw[q]at z;cases z
     ·have z2:=un.pd b ob _ z
      obtain⟨e1,_⟩:=eF b _ z
      obtain⟨e2,_⟩:=LY b _ z2
      rw[e]at e1;cases e1
      exact e2
 cases hk:K.lookup a with
 |some o=>
  have e:=KX a o hk
  rw[ha]at e
  cases e
  refine core (λ_=>none) (λ_=>.inl rfl) (.inr ⟨vs,_,hk,by rw[LX];exact hl,rv⟩) (λb u z=>by have z':(none:Option HO)=some u:=z;cases z') (λb z=>absurd rfl z) λz=>absurd rfl z
 |none=>
  refine core (λb=>if b=a then some (.frz {cls:=.type "list",data:=.seq vs.toArray} (.lst (ns.map V.int)))else none) (λb=>?_) (.inl (.inr ⟨{cls:=.type "list",data:=.seq vs.toArray},if_pos rfl⟩)) (λb u z=>?_) (λb z=>?_) λ_=>hk
  ·by_cases hb:b=a
   ·exact .inr ⟨_,_,if_pos hb⟩
   ·exact .inl (if_neg hb)
  ·by_cases hb:b=a
   ·have z':=(if_pos hb).symm.trans z
    cases z'
    subst hb
    exact⟨ha,by rw[List.length_map];exact hl,vs,_,rv,ha⟩
   ·have z':=(if_neg hb).symm.trans z
    cases z'
  ·by_cases hb:b=a
   ·exact hb
   ·exact absurd (if_neg hb) z
theorem ints_rep{K:PySem.W.Frag}{κ:Kl}{H:Hp}:∀ns:List Int,aO K κ H (ns.map V.int) (ns.map PV.int)
 |[]=>.nil
 |n::ns=>.cons (.int n) (ints_rep ns)
section
variable{X:Cx}{κ:Kl}{fr:Bool}{e a b c:Expr}{f fa fb fc:Den}{p pos:Pos}
theorem Ac{x:Str}{n:Int}(h:∃t,X.mg x=some (.int n t))(hg:Gl X x:=by rfl)(hd:(x==("__debug__" :Str))=false:=by decide):DE X κ (.Name x pos) (dC (.int n)):=by
 obtain⟨t,h⟩:=h
 exact⟨_,mh (v:=.int n) hg h ⟨t,rfl⟩ hd,λ{G A bo own ρ σ H p Q} r e q=>by cases e;exact q _ H (aE.refl _) (.int n)⟩
theorem kL{p2:Pos}(ha:DB X κ a fa)(hm:X.mg "isinstance" =none)(uH:X.mg "int" =none)(hg:Gl X "isinstance" :=by rfl)(yy:Gl X "int" :=by rfl)(hs:starEach [a,.Name "int" p2] X.env=(false,eval a X.env)::starEach [.Name "int" p2] X.env:=by rfl)(nk:starEach [.Name "int" p2] X.env=(false,eval (.Name "int" p2) X.env)::starEach [] X.env:=by rfl)
 (hpl:(backTo pos (starEach [.Name "int" p2] X.env)).any (·.1)=false:=by rfl):DE X κ (.Call (.Name "isinstance" p) [a,.Name "int" p2] [] pos) (a8 (kl 0) fa):=iT 0 (by decide) PyProof.Rows.boot_int ha hm uH hg yy (by decide) (by decide) hs nk hpl
theorem gL{p2:Pos}(ha:DB X κ a fa)(hm:X.mg "isinstance" =none)(uH:X.mg "bool" =none)(hg:Gl X "isinstance" :=by rfl)(yy:Gl X "bool" :=by rfl)(hs:starEach [a,.Name "bool" p2] X.env=(false,eval a X.env)::starEach [.Name "bool" p2] X.env:=by rfl)(nk:starEach [.Name "bool" p2] X.env=(false,eval (.Name "bool" p2) X.env)::starEach [] X.env:=by rfl)
 (hpl:(backTo pos (starEach [.Name "bool" p2] X.env)).any (·.1)=false:=by rfl):DE X κ (.Call (.Name "isinstance" p) [a,.Name "bool" p2] [] pos) (a8 (kl 1) fa):=iT 1 (by decide) PyProof.Rows.boot_bool ha hm uH hg yy (by decide) (by decide) hs nk hpl
theorem ik{p2:Pos}(ha:DB X κ a fa)(hm:X.mg "isinstance" =none)(uH:X.mg "str" =none)(hg:Gl X "isinstance" :=by rfl)(yy:Gl X "str" :=by rfl)(hs:starEach [a,.Name "str" p2] X.env=(false,eval a X.env)::starEach [.Name "str" p2] X.env:=by rfl)(nk:starEach [.Name "str" p2] X.env=(false,eval (.Name "str" p2) X.env)::starEach [] X.env:=by rfl)
 (hpl:(backTo pos (starEach [.Name "str" p2] X.env)).any (·.1)=false:=by rfl):DE X κ (.Call (.Name "isinstance" p) [a,.Name "str" p2] [] pos) (a8 (kl 2) fa):=iT 2 (by decide) PyProof.Rows.boot_str ha hm uH hg yy (by decide) (by decide) hs nk hpl
theorem gM{p2:Pos}(ha:DB X κ a fa)(hm:X.mg "isinstance" =none)(uH:X.mg "list" =none)(hg:Gl X "isinstance" :=by rfl)(yy:Gl X "list" :=by rfl)(hs:starEach [a,.Name "list" p2] X.env=(false,eval a X.env)::starEach [.Name "list" p2] X.env:=by rfl)(nk:starEach [.Name "list" p2] X.env=(false,eval (.Name "list" p2) X.env)::starEach [] X.env:=by rfl)
 (hpl:(backTo pos (starEach [.Name "list" p2] X.env)).any (·.1)=false:=by rfl):DE X κ (.Call (.Name "isinstance" p) [a,.Name "list" p2] [] pos) (a8 (kl 3) fa):=iT 3 (by decide) PyProof.Rows.boot_list ha hm uH hg yy (by decide) (by decide) hs nk hpl
theorem gf{p2:Pos}(ha:DB X κ a fa)(hm:X.mg "isinstance" =none)(uH:X.mg "tuple" =none)(hg:Gl X "isinstance" :=by rfl)(yy:Gl X "tuple" :=by rfl)(hs:starEach [a,.Name "tuple" p2] X.env=(false,eval a X.env)::starEach [.Name "tuple" p2] X.env:=by rfl)(nk:starEach [.Name "tuple" p2] X.env=(false,eval (.Name "tuple" p2) X.env)::starEach [] X.env:=by rfl)
 (hpl:(backTo pos (starEach [.Name "tuple" p2] X.env)).any (·.1)=false:=by rfl):DE X κ (.Call (.Name "isinstance" p) [a,.Name "tuple" p2] [] pos) (a8 (kl 4) fa):=iT 4 (by decide) PyProof.Rows.boot_tuple ha hm uH hg yy (by decide) (by decide) hs nk hpl
end
end L2.D
namespace L2.D
open PySem PySem.Spec PyProof.Rows
open Classical
section
variable{X:Cx}{pins:List (Addr×Obj)}{σ:St}{H:Hp}{s:Shared}{h':Heap}
theorem Eu{ch:List Addr}(hf:∀b∈ch,nj X pins H b):∀b∈ch,(b∈X.ex\/X.s₀.heap.objs.size<=b)/\b≠X.env.locals/\(∀x c,X.env.cells.lookup x=some c->c≠b)/\∀p∈X.pn++pins,p.1≠b:=λb hb=>by
 obtain⟨f0,f1,f2,f3,f4,f5⟩:=hf b hb
 exact⟨f3,f1,f4,f5⟩
theorem _root_.L2.Inv.C3{t':Nat}{ch:List Addr}(I:Inv X pins σ H s)(k:∀b o,b∉ch->s.heap.get? b=some o->h'.get? b=some o)(hf:∀b∈ch,nj X pins H b):Inv X pins σ H {s with heap:=h',toks:=t'}:=by
 have D8:∀b u,H b=some u->b∉ch:=λb u e z=>by rw[(hf b z).1]at e;cases e
 refine I.step (g':=s.gens) (d':=s.drawn) (ch:=ch) (Eu hf) (λb o _ _ hc e _=>k b o hc e) (λb o _ _ hc e _=>⟨o.slots,k b o hc e⟩) (λ_ _ _ _ n=>n)
  (λb o hc e=>⟨o,k b o hc e⟩) (λ_ _ e=>e) (λ_ _ _ e=>e) (λb ps e=>⟨#[],by rw[e];simp⟩) (λm hm=>?_) (λb u e=>?_) I.bare
 ·obtain⟨o,es,ep,ho,r⟩:=hm
  exact⟨o,es,ep,k _ o (λz=>(hf _ z).2.1 rfl) ho,r⟩
 ·refine(I.eF b u e).tT (λc v hc q=>k c v ?_ q) (λ_ q=>q) λ_ _ q=>q
  rcases hc with z|z
  ·rw[z];exact D8 b u e
  ·exact D8 c _ z
theorem _root_.L2.Inv.yA{t':Nat}{ch:List Addr}{u:HO}(I:Inv X pins σ H s)(k:∀b o,b∉ch->s.heap.get? b=some o->h'.get? b=some o)(hf:∀b∈ch,nj X pins H b)
  (new:eH X.prog X.w (upd H s.heap.objs.size u) h' s.heap.objs.size u):Inv X pins σ (upd H s.heap.objs.size u) {s with heap:=h',toks:=t'}:=by
 have fr:H s.heap.objs.size=none:=I.eF.fresh (Nat.le_refl _)
 have D8:∀b u,H b=some u->b∉ch:=λb u e z=>by rw[(hf b z).1]at e;cases e
 have sm:aE H (upd H s.heap.objs.size u):=cC fr
 refine I.step (g':=s.gens) (d':=s.drawn) (ch:=ch) (Eu hf) (λb o _ _ hc e _=>k b o hc e) (λb o _ _ hc e _=>⟨o.slots,k b o hc e⟩) (λb o _ e n=>?_)
  (λb o hc e=>⟨o,k b o hc e⟩) (λ_ _ e=>sm _ _ e) (λ_ _ _ e=>sm _ _ e) (λb ps e=>⟨#[],by rw[sm _ _ e];simp⟩) (λm hm=>?_) (λb v e=>?_) I.bare
 ·rw[aF (Nat.ne_of_lt (Heap.lt_size e))]
  exact n
 ·obtain⟨o,es,ep,ho,r⟩:=hm
  exact⟨o,es,ep,k _ o (λz=>(hf _ z).2.1 rfl) ho,r⟩
 ·by_cases hb:b=s.heap.objs.size
  ·subst hb
   rw[aM]at e
   cases e
   exact new
  ·rw[aF hb]at e
   refine(I.eF b v e).tT (λc v hc q=>k c v ?_ q) (λc q=>sm _ _ q) λc xs q=>sm _ _ q
   rcases hc with z|z
   ·rw[z];exact D8 b _ e
   ·exact D8 c _ z
end
end L2.D
namespace L2.D
open PySem PySem.Spec PyProof.Rows PySem.SeqAt
open Classical
section
variable{X:Cx}{κ:Kl}{fr:Bool}{pos:Pos}
theorem Ad(i:Nat){y x:Str}{py px zI:Pos}{sc:Scope}{elt iter:Expr}{fi:dg}{f:Den}(hN:X.N.Nodup)(hi:Kk X κ (.Name x px) iter fi)(xq:Scope)(N0 ys:List Str)(he:∀ex C s H,DE (X.pB sc x ys ex C s H) κ elt f)(LH:X.N[i]?=some y:=by rfl)(hy:X.env.scope.names.lookup y=some .local:=by rfl)(Gj:X.env.scope=xq:=by rfl)(LU:X.N=N0:=by rfl)(F8:nv xq N0 sc x ys=true:=by decide+kernel)(hc:X.calm=true:=by rfl)
  (hs:∀x,foldedSetIterable iter X.env x=pure x:=by intro _;rfl)(LI:swapsWith (.ListComp elt [⟨.Name x px,iter,[],0⟩] sc pos) (some (.Name y py)) zI.line X.env=pure true:=by rfl):
  DS X κ fr (.Assign [.Name y py] (.ListComp elt [⟨.Name x px,iter,[],0⟩] sc pos) zI) (mq i (dP fi dh f)):=by
 obtain⟨wi,h1,h2⟩:=hi
 refine⟨_,CK hN LH hy h1 ys (tt:=LQ X.K κ dh) (te:=Km X.K κ f) (λex C s H=>?_) (λex C s H=>(he ex C s H).pe) (by rw[Gj,LU];exact F8) hc hs LI,λ{G A bo own ρ σ H fl D} r e k=>?_⟩
 ·intro pins s σ H Q I ⟨_,_,_,_,_,_,r,e,q⟩
  cases e
  exact ue pins s σ H Q I (q _ (aE.refl _))
 ·obtain⟨p,e1,e2⟩:=Option.bind_eq_some_iff.mp e
  obtain⟨l,e3,rfl⟩:=Option.map_eq_some_iff.mp e2
  refine uA h2 r e1 λv H' s z=>?_
  cases p<;>first|(cases e3;done)|skip
  cases e3
  obtain⟨cO,r'⟩:=r.Gh s (i:=i) z
  exact k _ _ _ r'
end
end L2.D
namespace L2.D
open PySem
theorem yB{P:Program}{w:World}{K:PySem.W.Frag}{mg:Str->Option Value}{base:Heap}{κ:Kl}{fr:Bool}{k:Nat}{f:Addr}{fd:FuncData}{ps:List Str}:aH P w K mg base b8 k f fd ps (fE K κ fr λ_=>none):=
 have no:∀{vs:List V} {H:Hp} {Q:VK} {E:XK},fE K κ fr (λ_=>none) vs H Q E->False:=λ⟨_,_,_,_,_,h2,_⟩=>by cases h2
 ⟨λ_ _ _ _ h=>(no h).elim,λ_ _ _ _ _ _ _ _ _ _ _ _ _ h=>(no h).elim⟩
end L2.D
namespace L2.D
open PySem PySem.Spec PyProof.Rows PySem.SeqAt
section
variable{X:Cx}{κ:Kl}{fr:Bool}{pos:Pos}{a e:Expr}{fa f:Den}
theorem Ae{K:PySem.W.Frag}{H:Hp}:∀{vs:List V} {l:List PV} {ns:List Int},aO K κ H vs l->pH l=some ns->vs=ns.map V.int
 |_,_,_,.nil,h=>by cases h;rfl
 |_,p::_,_,.cons r t,h=>by
  cases p<;>first|(cases h;done)|skip
  obtain⟨cs,h1,rfl⟩:=Option.map_eq_some_iff.mp h
  cases r
  rw[List.map_cons,<-Ae t h1]
end
end L2.D
namespace L2
open PySem PySem.Spec PyProof.Rows
noncomputable def Jl(i:Expr):Prop:=∀ov iv,subscripted i false ov iv=operate [ov,iv] (getItem ov iv)
theorem C4{prog:Program}{w:World}{A:Around}{E:Value->Shared->Prop}{s:Shared}{env:Env}{value slice:Expr}{pos:Pos}{T id:String}{Q:Value->Shared->Prop}
  (hl:typeLookup (.type T) "__getitem__" =pure (some (.builtin id)))(hs:Jl slice)
  (h:wpAny (model prog w) A (eval value env) (λo s₁=>wpAny (model prog w) A (eval slice env) (λi s₂=>s₂.TypeIs o T/\wpAny (model prog w) A (getItem o i) Q E s₂) E s₁) E s):
  wpAny (model prog w) A (eval (.Subscript value slice pos) env) Q E s:=by
 refine Subscript_ (wpAny_mono h (λo s₁ h₁=>wpAny_mono h₁ (λi s₂ h₂=>?_) λ_ _ x=>x) λ_ _ x=>x)
 obtain⟨hT,h₂⟩:=h₂
 unfold subscriptTail
 refine wpAny_bind ?_
 rw[getitemInPython_of_ne hT.not_modules]
 refine wpAny_bind (wpAny_specialOf hT hl ?_)
 have fin:wpAny (model prog w) A (subscripted slice false o i) (λr s₃=>wpAny (model prog w) A (letTemporaryGo value o r>>=λ_=>pure r) Q E s₃) E s₂:=by
  rw[hs o i]
  exact wpAny_operating (wpAny_mono h₂ (λr s₃ h₃=>wpAny_bind (wpAny_letTemporaryGo (wpAny_pure h₃))) λ_ _ x=>x)
 first
  |exact wpAny_pure (wpAny_bind fin)
  |exact wpAny_bind (wpAny_pure (wpAny_bind fin))
  |exact wpAny_bind fin
end L2
namespace L2.D
open PySem PySem.Spec PyProof.Rows PySem.SeqAt
section
variable{X:Cx}{κ:Kl}{fr:Bool}{pos:Pos}{a b e k:Expr}{fa fb f fk:Den}
theorem Gq{tg:Expr}{gt:qx}(hg:DG X κ tg gt)(he:DE X κ e f)(hs:swapsWithSole [tg] e pos.line X.env=pure false:=by rfl)(hw:swappedStores [tg] e X.env=pure none:=by rfl)
  (N8:(assignEach [tg] X.env).map (·.2)=[assign tg X.env]:=by rfl):DS X κ fr (.Assign [tg] e pos) (IX gt f):=by
 obtain⟨te,h1,h2⟩:=he
 obtain⟨tt,h3,h4⟩:=hg
 refine⟨_,Fn h1 h3 hs hw N8,λ{G A bo own ρ σ H fl D} r e k=>?_⟩
 obtain⟨p,e1,e2⟩:=Option.bind_eq_some_iff.mp e
 obtain⟨ρ',e3,rfl⟩:=Option.map_eq_some_iff.mp e2
 refine h2 r e1 λv H1 s1 z1=>?_
 exact h4 (r.mono s1) z1 e3 λcO σ' r' _=>k _ _ _ r'
noncomputable def Ko(X:Cx)(κ:Kl)(N9:List Expr)(gs:List qx):Prop:=∃tt,Ig X N9 tt/\∀{G A bo own ρ σ H ps vs ρ' Q},R X.K κ G A bo own ρ σ H->aO X.K κ (cS A own ρ H) vs ps->xu gs ps ρ=some ρ'->(∀cO σ',R X.K κ G A bo cO ρ' σ' H->aE (cS A own ρ H) (cS A cO ρ' H)->Q σ' H)->tt vs σ H Q
theorem C5:Ko X κ [] []:=⟨_,xb,λ{G A bo own ρ σ H ps vs ρ' Q} r z e q=>by
 cases z with
 |nil=>cases e;exact⟨rfl,q _ _ r λ_ _ h=>h⟩
 |cons _ _=>cases e⟩
theorem mB{es:List Expr}{gt:qx}{gs:List qx}(ha:DG X κ a gt)(hb:Ko X κ es gs)(hs:(assignEach (a::es) X.env).map (·.2)=assign a X.env::(assignEach es X.env).map (·.2):=by rfl):Ko X κ (a::es) (gt::gs):=by
 obtain⟨ta,h1,h2⟩:=ha
 obtain⟨tb,h3,h4⟩:=hb
 refine⟨_,ph h1 h3 hs,λ{G A bo own ρ σ H ps vs ρ' Q} r z e q=>?_⟩
 cases z with
 |nil=>cases e
 |cons r1 rs=>
  obtain⟨ρ1,e1,e2⟩:=Option.bind_eq_some_iff.mp e
  refine⟨_,_,rfl,h2 r r1 e1 λcO σ' r' s'=>?_⟩
  exact h4 r' (rs.mono s') e2 λpL σ2 r2 s2=>q pL σ2 r2 (s'.trans s2)
theorem rg:∀{gs:List qx} {ps:List PV} {ρ ρ':c8},xu gs ps ρ=some ρ'->ps.length=gs.length
 |[],[],_,_,_=>rfl
 |[],_::_,_,_,e=>by cases e
 |_::_,[],_,_,e=>by cases e
 |t::ts,p::ps,ρ,ρ',e=>by
  obtain⟨ρ1,e1,e2⟩:=Option.bind_eq_some_iff.mp e
  rw[List.length_cons,List.length_cons,rg e2]
theorem Gu{es:List Expr}{gs:List qx}{k:Nat}(h:Ko X κ es gs)(hc:X.calm=true:=by rfl)(hn:(assignEach es X.env).length=gs.length:=by rfl)(ng:(assignEach es X.env).findIdx? (·.1)=none:=by rfl):DG X κ (.Tuple es k pos) (zN gs):=by
 obtain⟨tt,h1,h2⟩:=h
 refine⟨_,zo hc h1 hn ng,λ{G A bo own ρ σ H p v ρ' Q} r z e q=>?_⟩
 unfold zN at e
 split at e
 ·rename_i l
  cases z with
  |tup q1 q2=>
   refine⟨_,_,rfl,rb (aD (A:=cD A own ρ)) q1,?_,h2 r q2 e q⟩
   rw[q2.length,rg e]
 ·cases e
end
section
variable{X:Cx}{κ:Kl}{pos p2:Pos}{a b e:Expr}{fa fb:Den}
theorem C6:IH X "str.find" (λx xs H Q=>∃i j,x=.str i/\xs=[.str j]/\Q (.int (Txt.find i j)) H):=by
 intro pins s σ H x xs v us Q I rx r h
 obtain⟨i,j,rfl,rfl,q⟩:=h
 obtain⟨t,rfl⟩:=rx
 obtain⟨u,rfl,t',rfl⟩:=vals1 r
 exact SC.find ⟨.int _,H,I.tok _,⟨_,rfl⟩,q⟩
theorem C7{apos:Pos}(ha:DB X κ a fa)(hb:DB X κ b fb)(iP:attributeBase a "find" X.env (eval a X.env)=eval a X.env:=by rfl)
  (rY:((backTo pos (starEach [b] X.env)).all (λx=>!x.1)&&(backToKw pos (keywordEach [] X.env)).all (λx=>x.1.isSome)
    &&decide ([b].length+([]:List Keyword).length+(if([]:List Keyword).isEmpty then 0 else 1)<30))=true:=by rfl)
  (iQ:(apos.endLine==pos.line)=true:=by rfl)(hs:starEach [b] X.env=(false,eval b X.env)::starEach [] X.env:=by rfl):DE X κ (.Call (.Attribute a "find" apos) [b] [] pos) (af En fa fb):=by
 obtain⟨ta,h1,h2⟩:=ha
 obtain⟨tb,h3,h4⟩:=hb
 refine⟨_,xm PySem.F.plainAttrs_str PySem.F.slot_str_find PySem.F.type_str_find C6 h1 (aQ h3 cc hs) iP rY iQ hs,λ{G A bo own ρ σ H p Q} r e q=>?_⟩
 obtain⟨p1,e1,e2⟩:=Option.bind_eq_some_iff.mp e
 obtain⟨p2,e3,e4⟩:=Option.bind_eq_some_iff.mp e2
 (cases p1<;>first|(cases e4;done)|skip)<;>cases p2<;>first|(cases e4;done)|skip
 cases e4
 refine h2 r e1 λx H1 s1 b1=>?_
 rw[b1.str]
 refine⟨rfl,h4 (r.mono s1) e3 λy H2 s2 b2=>?_⟩
 rw[b2.str]
 exact⟨_,_,rfl,rfl,q _ H2 (s1.trans s2) (.int _)⟩
theorem rh:∀{ts:List Str} {us:List Value},Vals (ts.map V.str) us->∃l:List (Str×Tok),us=strValues l/\l.map (·.1)=ts
 |[],_,.nil=>⟨[],rfl,rfl⟩
 |x::ts,_,.cons ⟨t,ht⟩ r=>by
  obtain⟨l,h1,h2⟩:=rh r
  subst ht
  exact⟨(x,t)::l,by rw[h1];rfl,by rw[List.map_cons,h2]⟩
theorem Af{K:PySem.W.Frag}{H:Hp}:∀{vs:List V} {l:List PV} {ts:List Str},aO K κ H vs l->ra l=some ts->vs=ts.map V.str
 |_,_,_,.nil,h=>by cases h;rfl
 |_,p::_,_,.cons r t,h=>by
  cases p<;>first|(cases h;done)|skip
  obtain⟨cs,h1,rfl⟩:=Option.map_eq_some_iff.mp h
  cases r
  rw[List.map_cons,<-Af t h1]
theorem C8:IH X "str.join" (λx xs H Q=>∃(i:Str) (p:Addr) (ts:List Str),x=.str i/\xs=[.ref p]/\k8 X.K H p (ts.map V.str)/\JoinOk i ts=true/\Q (.str (Txt.join i ts)) H):=by
 intro pins s σ H x xs v us Q I rx r h
 obtain⟨i,p,ts,rfl,rfl,hq,ok,q⟩:=h
 obtain⟨t,rfl⟩:=rx
 obtain⟨u,rfl,ru⟩:=vals1 r
 cases ru
 obtain⟨its,rv,pl,hz⟩:=I.list hq
 obtain⟨l,rfl,hl⟩:=rh rv
 exact SC.join pl.isList hl ok λt' k=>⟨.str _,H,I.tok _,⟨_,rfl⟩,q⟩
theorem xD{apos:Pos}(ha:DB X κ a fa)(hb:DB X κ b fb)(iP:attributeBase a "join" X.env (eval a X.env)=eval a X.env:=by rfl)
  (rY:((backTo pos (starEach [b] X.env)).all (λx=>!x.1)&&(backToKw pos (keywordEach [] X.env)).all (λx=>x.1.isSome)
    &&decide ([b].length+([]:List Keyword).length+(if([]:List Keyword).isEmpty then 0 else 1)<30))=true:=by rfl)
  (iQ:(apos.endLine==pos.line)=true:=by rfl)(hs:starEach [b] X.env=(false,eval b X.env)::starEach [] X.env:=by rfl):DE X κ (.Call (.Attribute a "join" apos) [b] [] pos) (af uq fa fb):=by
 obtain⟨ta,h1,h2⟩:=ha
 obtain⟨tb,h3,h4⟩:=hb
 refine⟨_,xm PySem.F.plainAttrs_str PySem.F.slot_str_join PySem.F.type_str_join C8 h1 (aQ h3 cc hs) iP rY iQ hs,λ{G A bo own ρ σ H p Q} r e q=>?_⟩
 obtain⟨p1,e1,e2⟩:=Option.bind_eq_some_iff.mp e
 obtain⟨p2,e3,e4⟩:=Option.bind_eq_some_iff.mp e2
 (cases p1<;>first|(cases e4;done)|skip)<;>cases p2<;>first|(cases e4;done)|skip
 obtain⟨ts,e5,e6⟩:=Option.bind_eq_some_iff.mp e4
 obtain⟨ok,rfl⟩:=bx e6
 refine h2 r e1 λx H1 s1 b1=>?_
 rw[b1.str]
 refine⟨rfl,h4 (r.mono s1) e3 λy H2 s2 b2=>?_⟩
 obtain⟨a,vs,rfl,q1,q2⟩:=b2.lst aD
 rw[Af q2 e5]at q1
 exact⟨_,a,ts,rfl,rfl,q1.sq,ok,q _ H2 (s1.trans s2) (.str _)⟩
theorem xE{p:Pos}(ha:DB X κ a fa)(hm:X.mg "str" =none)(hg:Gl X "str" :=by rfl)(hs:starEach [a] X.env=(false,eval a X.env)::starEach [] X.env:=by rfl):DE X κ (.Call (.Name "str" p) [a] [] pos) (a8 yv fa):=by
 obtain⟨ta,h1,h2⟩:=ha
 refine⟨_,iO rO hg hm (by decide+kernel) (aQ h1 cc hs) (he:=hs),λ{G A bo own ρ σ H p Q} r e q=>?_⟩
 obtain⟨p1,e1,e2⟩:=Option.bind_eq_some_iff.mp e
 refine h2 r e1 λx H1 s1 b1=>?_
 cases p1<;>first|(cases e2;done)|skip
 obtain⟨ok,rfl⟩:=bx e2
 rw[decide_eq_true_eq]at ok
 refine⟨_,by rw[b1.int],?_,q _ H1 s1 (.str _)⟩
 rename_i i
 have:i.natAbs.log2<20:=by
  by_cases h0:i.natAbs=0
  ·rw[h0];decide
  ·exact(Nat.log2_lt h0).mpr (by omega)
 omega
theorem uI{v:Value}{o:Option Int}(h:IsPart v o):∃l:Option (Int×Tok),v=partValue l/\l.map (·.1)=o:=by
 cases h with
 |none=>exact⟨none,rfl,rfl⟩
 |int i t=>exact⟨some (i,t),rfl,rfl⟩
theorem mC{α β:Type}(f:α->Option β):∀l:List α,(l.filterMap f).length<=l.length
 |[]=>Nat.le_refl _
 |x::l=>by
  have:=mC f l
  rw[List.filterMap_cons]
  split
  ·rw[List.length_cons];omega
  ·rw[List.length_cons,List.length_cons];omega
end
section
variable{K:PySem.W.Frag}{κ:Kl}{H:Hp}
theorem xF{f:Str}{p:PV}:∀{ns:List Str} {vs:List V} {l:List PV},aO K κ H vs l->(ns.zip l).lookup f=some p->f∈ns/\∃v,(ns.zip vs).lookup f=some v/\Rep K κ H v p
 |[],_,_,_,h=>by cases h
 |n::ns,_,_,.nil,h=>by cases h
 |n::ns,_,_,.cons (v:=v) (p:=q) r t,h=>by
  rw[List.zip_cons_cons,List.lookup_cons]at h
  rw[List.zip_cons_cons,List.lookup_cons]
  by_cases e:f==n
  ·rw[e]at h⊢
   cases h
   exact⟨by rw[eq_of_beq e];exact List.mem_cons_self ..,v,rfl,r⟩
  ·have e':(f==n)=false:=by simpa using e
   rw[e']at h⊢
   obtain⟨h1,h2⟩:=xF t h
   exact⟨List.mem_cons_of_mem _ h1,h2⟩
end
theorem BR.rep{K:PySem.W.Frag}{κ:Kl}{hH H:Hp}{v:V}{c:Nat}{l:List PV}(h:BR K κ hH H v (.ins c l)):Rep K κ hH v (.ins c l):=by
 rcases h with h|⟨a,vs,l',h1,h2,h3,h4⟩
 ·exact h
 ·cases h2
noncomputable def Ag(K:PySem.W.Frag)(κ:Kl)(f:Str):Prop:=∀c,f∈κ.fld c->qD K (κ.adr c)/\df K (κ.adr c) f
section
variable{X:Cx}{κ:Kl}{pos apos:Pos}{a b e o:Expr}{es:List Expr}{fa fb fo:Den}{fs:dg}{m:Str}
theorem Gv{f:Str}(ha:DB X κ a fa)(hf:Ag X.K κ f)(hb:attributeBase a f X.env (eval a X.env)=eval a X.env:=by rfl):DE X κ (.Attribute a f pos) (a8 (gk κ.fld f) fa):=by
 obtain⟨ta,h1,h2⟩:=ha
 refine⟨_,FK h1 hb,λ{G A bo own ρ σ H p Q} r e q=>?_⟩
 obtain⟨p1,e1,e2⟩:=Option.bind_eq_some_iff.mp e
 refine h2 r e1 λx H1 s1 b1=>?_
 cases p1<;>first|(cases e2;done)|skip
 rename_i c l
 cases b1.rep with
 |ins h3 h4 h5=>
  obtain⟨h6,v,h7,h8⟩:=xF h5 e2
  obtain⟨k1,k2⟩:=hf c h6
  exact⟨_,_,_,_,v,rfl,aD _ _ h3,k1,k2,h7,q v H1 s1 h8⟩
noncomputable def vX(X:Cx)(m:Str)(ta:TE)(t:TA):TE:=λσ H Q=>ta σ H λx H1=>∃(a C dx:Addr) (fs:List (Str×V)) (f:Addr) (fd:FuncData) (ps:List Str) (sp:Sp) (k:Nat),x=.ref a/\H1 a=some (.ins C dx fs)/\qD X.K C/\Meth X.K C m f/\fs.lookup m=none/\
 aH X.prog X.w X.K X.mg X.base b8 k f fd ps sp/\cM k X.A/\Binds X.K fd ps []/\t σ H1 λvs H2=>sp (x::vs) H2 Q E0
theorem yC{pl:Sem Bool}{ta:TE}(he:PE X o ta)
  (ht:eval (.Call (.Attribute o m apos) [] [] pos) X.env=(do
    let ov<-eval o X.env
    standAt apos.atName
    let(f,first)<-holding [ov] (getMethod ov m pl)
    callWith pos f first (backTo pos (starEach [] X.env)) (backToKw pos (keywordEach [] X.env))):=by rfl):PE X (.Call (.Attribute o m apos) [] [] pos) (vX X m ta rP):=by
 intro pins s σ H Q I h
 refine PySem.W.methodCall_KW (pl:=pl) (dZ (he pins s σ H _ I h) λu s1 dS=>?_) ht
 obtain⟨x,H1,I1,rx,a,C,dx,fs,f,fd,ps,sp,k,ex,ea,c,hm,l,F,hr,hb,q⟩:=dS
 subst ex
 obtain rfl:u=Value.ref a:=rx
 refine iY I1 ea c hm l ?_
 exact PySem.W.callWith_K0 (first:=[.ref a]) I1.iU hm.kp (nu (us:=[.ref a]) (vs:=[.ref a]) (ds:=[]) (dvs:=[]) F hr hb .nil gG I1 (.cons rfl .nil) q)
theorem Ah{pl:Sem Bool}{ta:TE}{t:TA}(he:PE X o ta)(ha:PA X (e::es) t)
  (ng:starEach (e::es) X.env=(false,eval e X.env)::starEach es X.env:=by rfl)(hpl:(backTo pos (starEach es X.env)).any (·.1)=false:=by rfl)
  (ht:eval (.Call (.Attribute o m apos) (e::es) [] pos) X.env=(do
    let ov<-eval o X.env
    standAt apos.atName
    let(f,first)<-holding [ov] (getMethod ov m pl)
    callWith pos f first (backTo pos (starEach (e::es) X.env)) (backToKw pos (keywordEach [] X.env))):=by rfl):PE X (.Call (.Attribute o m apos) (e::es) [] pos) (vX X m ta t):=by
 intro pins s σ H Q I h
 refine PySem.W.methodCall_KW (pl:=pl) (dZ (he pins s σ H _ I h) λu s1 dS=>?_) ht
 obtain⟨x,H1,I1,rx,a,C,dx,fs,f,fd,ps,sp,k,ex,ea,c,hm,l,F,hr,hb,q⟩:=dS
 subst ex
 obtain rfl:u=Value.ref a:=rx
 refine iY I1 ea c hm l ?_
 refine PySem.W.callWith_K (first:=[.ref a]) (h₀:=X.base) I.ok.mod.kin hm.kp (dZ (ha pos pins s1 σ H1 _ I1 q) λus s2 ⟨vs,H2,I2,r,q2⟩=>⟨I2.iU,?_⟩) ng hpl
 refine nu (us:=.ref a::us) (vs:=.ref a::vs) (ds:=[]) (dvs:=[]) F hr hb .nil gG I2 (.cons rfl r) ?_
 rw[List.append_nil]
 exact q2
noncomputable def cE(P:Program)(w:World)(K:PySem.W.Frag)(mg:Str->Option Value)(base:Heap)(κ:Kl)(fr:Bool)(m:Str)(k:Nat)(ps:List Str)(Fs:Nat->List PV->Option PV):Prop:=
 ∀c xs p,Fs c xs=some p->∃(f:Addr) (fd:FuncData),qD K (κ.adr c)/\Meth K (κ.adr c) m f/\m∉κ.fld c/\aH P w K mg base b8 k f fd ps (fE K κ fr (Fs c))/\Binds K fd ps []
theorem pM{α:Type}{f:Str}:∀{ns:List Str} {vs:List α},f∉ns->(ns.zip vs).lookup f=none
 |[],_,_=>rfl
 |n::ns,[],_=>rfl
 |n::ns,v::vs,h=>by
  rw[List.zip_cons_cons,List.lookup_cons]
  have e:(f==n)=false:=by
   rw[beq_eq_false_iff_ne]
   exact λz=>h (z▸List.mem_cons_self ..)
  rw[e]
  exact pM λz=>h (List.mem_cons_of_mem _ z)
theorem uJ{fr:Bool}{k:Nat}{ps:List Str}{Fs:Nat->List PV->Option PV}{ta:TE}{t:TA}(M:cE X.prog X.w X.K X.mg X.base κ fr m k ps Fs)(hr:cM k X.A)(h2:Ja X.K κ ta fo)
  (h4:∀{G A bo own ρ σ H ps Q},R X.K κ G A bo own ρ σ H->fs ρ=some ps->(∀vs H',aE H H'->aO X.K κ (cS A own ρ H') vs ps->Q vs H')->t σ H Q)
  {G A bo own ρ σ H p}{Q:VK}(r:R X.K κ G A bo own ρ σ H)(e:eJ Fs fo fs ρ=some p)(q:∀v H',aE H H'->RR fr X.K κ (cD A own ρ) H H' v p->Q v H'):vX X m ta t σ H Q:=by
 obtain⟨p1,e1,e2⟩:=Option.bind_eq_some_iff.mp e
 refine h2 r e1 λx H1 s1 z1=>?_
 cases p1<;>first|(cases e2;done)|skip
 rename_i c l
 obtain⟨xs,e3,e4⟩:=Option.bind_eq_some_iff.mp e2
 obtain⟨f,fd,k1,k2,k3,k4,k5⟩:=M c _ _ e4
 cases z1 with
 |ins h3 h5 h6=>
  refine⟨_,_,_,_,f,fd,ps,_,k,rfl,aD _ _ h3,k1,k2,pM k3,k4,hr,k5,h4 (r.mono s1) e3 λvs H2 s2 z2=>?_⟩
  refine⟨cD A own ρ,_,p,λb hb=>((r.mono s1).mono s2).B8 hb,.cons ((Rep.ins h3 h5 h6).mono (bu s2)) z2,e4,λv H' s z=>q v H' ((s1.trans s2).trans s) ?_⟩
  unfold RR at z⊢
  split
  ·rename_i hh
   rw[if_pos hh]at z
   exact LN z (s1.trans s2) λb w=>w
  ·rename_i hh
   rw[if_neg hh]at z
   exact z
theorem eK{k:Nat}{ps:List Str}{Fs:Nat->List PV->Option PV}{pl:Sem Bool}(M:cE X.prog X.w X.K X.mg X.base κ false m k ps Fs)(hr:cM k X.A)(ho:DE X κ o fo)
  (ht:eval (.Call (.Attribute o m apos) [] [] pos) X.env=(do
    let ov<-eval o X.env
    standAt apos.atName
    let(f,first)<-holding [ov] (getMethod ov m pl)
    callWith pos f first (backTo pos (starEach [] X.env)) (backToKw pos (keywordEach [] X.env))):=by rfl):DE X κ (.Call (.Attribute o m apos) [] [] pos) (eJ Fs fo aK):=by
 obtain⟨ta,h1,h2⟩:=ho
 refine⟨_,yC h1 ht,λ{G A bo own ρ σ H p Q} r e q=>?_⟩
 exact uJ M hr h2 (λ{G A bo own ρ σ H ps Q} r e q=>by cases e;exact q [] H (aE.refl _) .nil) r e λv H' s z=>q v H' s z
theorem xG{k:Nat}{ps:List Str}{Fs:Nat->List PV->Option PV}{pl:Sem Bool}(M:cE X.prog X.w X.K X.mg X.base κ false m k ps Fs)(hr:cM k X.A)(ho:DE X κ o fo)(ha:DA X κ (e::es) fs)
  (ng:starEach (e::es) X.env=(false,eval e X.env)::starEach es X.env:=by rfl)(hpl:(backTo pos (starEach es X.env)).any (·.1)=false:=by rfl)
  (ht:eval (.Call (.Attribute o m apos) (e::es) [] pos) X.env=(do
    let ov<-eval o X.env
    standAt apos.atName
    let(f,first)<-holding [ov] (getMethod ov m pl)
    callWith pos f first (backTo pos (starEach (e::es) X.env)) (backToKw pos (keywordEach [] X.env))):=by rfl):DE X κ (.Call (.Attribute o m apos) (e::es) [] pos) (eJ Fs fo fs):=by
 obtain⟨ta,h1,h2⟩:=ho
 obtain⟨t,h3,h4⟩:=ha
 refine⟨_,Ah h1 h3 ng hpl ht,λ{G A bo own ρ σ H p Q} r e q=>?_⟩
 exact uJ M hr h2 h4 r e λv H' s z=>q v H' s z
end
structure Ew(K:PySem.W.Frag)(C:Addr)(m:Str)(f:Addr):Prop where
 rd:∃mc,PySem.W.readsIn K C mc=true/\PySem.W.findCls K (.ref C) mc m=some (.val (.ref f))
 ga:PySem.W.specialIn K (.ref C) "__getattribute__" =some (some (.builtin "type.__getattribute__"))
 hd:PySem.W.handedIn (.ref f)=true
 kp:PySem.W.keepIn K (.ref f)=true
section
variable{X:Cx}{κ:Kl}{pos apos np:Pos}{a b e o:Expr}{es:List Expr}{fa fb fo:Den}{m cn:Str}{C f:Addr}{fd:FuncData}{ps:List Str}{sp:Sp}{k:Nat}{t:TA}
theorem pN{pl:Sem Bool}(c:Ew X.K C m f)(F:aH X.prog X.w X.K X.mg X.base b8 k f fd ps sp)(hr:cM k X.A)(hg:Gl X cn)(hm:X.mg cn=some (.ref C))(hb:Binds X.K fd ps [])(ha:PA X (e::es) t)(oG:(cn==("__debug__" :Str))=false:=by decide)
  (ng:starEach (e::es) X.env=(false,eval e X.env)::starEach es X.env:=by rfl)(hpl:(backTo pos (starEach es X.env)).any (·.1)=false:=by rfl)
  (ht:eval (.Call (.Attribute (.Name cn np) m apos) (e::es) [] pos) X.env=(do
    let ov<-eval (.Name cn np) X.env
    standAt apos.atName
    let(f,first)<-holding [ov] (getMethod ov m pl)
    callWith pos f first (backTo pos (starEach (e::es) X.env)) (backToKw pos (keywordEach [] X.env))):=by rfl):PE X (.Call (.Attribute (.Name cn np) m apos) (e::es) [] pos) (xi sp [] E0 t):=by
 intro pins s σ H Q I h
 refine PySem.W.methodCall_KW (pl:=pl) (oO I hg hm ?_ oG) ht
 obtain⟨mc,h1,h2⟩:=c.rd
 refine PySem.W.method_cls I.iU c.ga (PySem.W.cls_value I.iU h1 h2 c.hd ?_)
 have I1:Inv X pins σ H {s with toks:=s.toks+1}:=I.tok _
 refine PySem.W.callWith_K (first:=[]) (h₀:=X.base) I.ok.mod.kin c.kp (dZ (ha pos pins _ σ H _ I1 h) λus s2 ⟨vs,H2,I2,r,q2⟩=>⟨I2.iU,?_⟩) ng hpl
 exact nu (ds:=[]) (dvs:=[]) F hr hb .nil gG I2 r q2
end
noncomputable def lu(C:Addr):Sp:=λvs H Q _=>∃x dx v,vs=[.ref x,v]/\H x=some (.ins C dx [])/\Q .non (upd H x (.ins C dx [("name",v)]))
noncomputable def kM(K:PySem.W.Frag)(C:Addr):Sp:=λvs H Q _=>∃x dx v p ys,vs=[.ref x,v,.ref p]/\H x=some (.ins C dx [])/\SL K H p ys/\∀t,H t=none->Q .non (upd (upd (upd H x (.ins C dx [("wanted",v)])) t (.tup ys)) x (.ins C dx [("wanted",v),("parts",.ref t)]))
noncomputable def jN(K:PySem.W.Frag)(C:Addr)(g:List V->Int):Sp:=λvs H Q _=>∃x dx p ys,vs=[.ref x,.ref p]/\H x=some (.ins C dx [])/\SL K H p ys/\∀t,H t=none->Q .non (upd (upd (upd H x (.ins C dx [("wanted",.int (g ys))])) t (.tup ys)) x (.ins C dx [("wanted",.int (g ys)),("parts",.ref t)]))
theorem Gx{K:PySem.W.Frag}{H:Hp}{x p C dx:Addr}{fs B1:List (Str×V)}{ys:List V}(h:H x=some (.ins C dx fs))(q:SL K H p ys):SL K (upd H x (.ins C dx B1)) p ys:=by
 rcases q with(q|⟨ob,q⟩)|q
 ·refine .inl (.inl ?_)
  rw[aF]
  ·exact q
  ·rintro rfl
   rw[h]at q
   cases q
 ·refine .inl (.inr ⟨ob,?_⟩)
  rw[aF]
  ·exact q
  ·rintro rfl
   rw[h]at q
   cases q
 ·exact .inr q
section
variable{K:PySem.W.Frag}{C:Addr}{κ:Kl}
noncomputable abbrev LZ(K:PySem.W.Frag):List V->Hp->VK->Prop:=λxs H Q=>∃p ys,xs=[.ref p]/\((k8 K H p ys/\∀l,H l=none->Q (.ref l) (upd H l (.tup ys)))\/(k9 K H p ys/\Q (.ref p) H))
noncomputable abbrev L0(K:PySem.W.Frag):List V->Hp->VK->Prop:=λxs H Q=>∃p ys,xs=[.ref p]/\(k8 K H p ys\/k9 K H p ys)/\Q (.int ys.length) H
noncomputable abbrev DQ(Q:VK):Ends:={nx:=λ_ H'=>Q .non H',rt:=Q}
theorem C9(cl:qD K C)(na:df K C "name"){vs:List V}{H:Hp}{Q:VK}{E:XK}(h:lu C vs H Q E):Cu K (kx 0) (kx 1) "name" (DQ Q) (start ["self","name"] vs) H:=by
 obtain⟨x,dx,v,rfl,hx,q⟩:=h
 exact⟨v,rfl,_,rfl,x,C,dx,[],rfl,hx,cl,na,by decide,q⟩
theorem Gy(cl:qD K C)(na:df K C "wanted")(nb:df K C "parts"){vs:List V}{H:Hp}{Q:VK}{E:XK}(h:kM K C vs H Q E):
  Fh (Cu K (kx 0) (kx 1) "wanted") (Cu K (kx 0) (Kd (LZ K) (jH (kx 2) rP)) "parts") (DQ Q) (start ["self","wanted","parts"] vs) H:=by
 obtain⟨x,dx,v,p,ys,rfl,hx,hp,q⟩:=h
 refine⟨v,rfl,_,rfl,x,C,dx,[],rfl,hx,cl,na,by decide,?_⟩
 refine⟨_,rfl,p,ys,rfl,.inl ⟨(Gx hx hp).sq,λt ht=>?_⟩⟩
 have qy:x≠t:=by
  rintro rfl
  rw[aM]at ht
  cases ht
 have Oa:H t=none:=by
  rw[aF (Ne.symm qy)]at ht
  exact ht
 refine⟨_,rfl,x,C,dx,[("wanted",v)],rfl,?_,cl,nb,(show(1:Nat)<1000 by decide),?_⟩
 ·rw[aF qy]
  exact aM
 ·exact q t Oa
theorem Ai{ta:TE}{g:List V->Int}(ht:∀{σ:St} {H:Hp} {Q:VK} {p:Addr} {ys:List V},σ[1]?=some (some (.ref p))->SL K H p ys->Q (.int (g ys)) H->ta σ H Q){vs:List V}{H:Hp}{Q:VK}{E:XK}(h:jN K C g vs H Q E):
  tZ (xi (kM K C) [] E0 (jH (kx 0) (jH ta (jH (kx 1) rP)))) (DQ Q) (start ["self","parts"] vs) H:=by
 obtain⟨x,dx,p,ys,rfl,hx,hp,q⟩:=h
 refine⟨_,rfl,ht rfl hp ⟨_,rfl,?_⟩⟩
 exact⟨x,dx,.int (g ys),p,ys,rfl,hx,hp,λt ht=>q t ht⟩
theorem Gz{vs:List V}{H:Hp}{Q:VK}{E:XK}(h:kM K C vs H Q E):
  tZ (xi (kM K C) [] E0 (jH (kx 0) (jH (kx 1) (jH (kx 2) rP)))) (DQ Q) (start ["self","many","parts"] vs) H:=by
 obtain⟨x,dx,v,p,ys,rfl,hx,hp,q⟩:=h
 refine⟨_,rfl,_,rfl,_,rfl,?_⟩
 exact⟨x,dx,v,p,ys,rfl,hx,hp,λt ht=>q t ht⟩
theorem Aj{vs:List V}{H:Hp}{Q:VK}{E:XK}(h:lu C vs H Q E):vs.length=2:=by
 obtain⟨x,dx,v,rfl,_⟩:=h
 rfl
theorem xH{vs:List V}{H:Hp}{Q:VK}{E:XK}(h:kM K C vs H Q E):vs.length=3:=by
 obtain⟨x,dx,v,p,ys,rfl,_⟩:=h
 rfl
theorem xI{g:List V->Int}{vs:List V}{H:Hp}{Q:VK}{E:XK}(h:jN K C g vs H Q E):vs.length=2:=by
 obtain⟨x,dx,p,ys,rfl,_⟩:=h
 rfl
theorem GA{σ:St}{H:Hp}{Q:VK}{p:Addr}{ys:List V}(h:σ[1]?=some (some (.ref p)))(hp:SL K H p ys)(q:Q (.int (ys.length:Nat)) H):Kd (L0 K) (jH (kx 1) rP) σ H Q:=⟨_,h,p,ys,rfl,.inl hp.sq,q⟩
theorem GB{σ:St}{H:Hp}{Q:VK}{p:Addr}{ys:List V}(h:σ[1]?=some (some (.ref p)))(hp:SL K H p ys)(q:Q (.int 1) H):tC (.int 1) σ H Q:=q
end
section
variable{K:PySem.W.Frag}{κ:Kl}{G H H':Hp}{A:Addr->Prop}{bo:Nat->Option (Addr×List V)}{own:Nat->Addr}{ρ:c8}{σ:St}
theorem kq{C x dx:Addr}(hx:H x=none)(hd:H dx=none)(hn:dx≠x):aE H (upd (upd H dx (.own x)) x (.ins C dx [])):=(cC hd).trans (cC (by rw[aF (Ne.symm hn)];exact hx))
theorem pO{C x dx:Addr}{fs B1:List (Str×V)}{H0:Hp}(s:aE H0 H)(hx:H0 x=none):aE H0 (upd H x (.ins C dx B1)):=λb o e=>by
 rw[aF (bF e hx)]
 exact s b o e
theorem Dc{x dx:Addr}{v:V}{p:PV}(r:R K κ G A bo own ρ σ H)(hf:κ.fld 0=[("name" :Str)])(hx:H x=none)(hd:H dx=none)(hn:dx≠x)(z:Rep K κ (cS A own ρ H) v p):
  aE H (upd (upd (upd H dx (.own x)) x (.ins (κ.adr 0) dx [])) x (.ins (κ.adr 0) dx [("name",v)]))/\Rep K κ (cS A own ρ (upd (upd (upd H dx (.own x)) x (.ins (κ.adr 0) dx [])) x (.ins (κ.adr 0) dx [("name",v)]))) (.ref x) (.ins 0 [p]):=by
 have s1:aE H (upd (upd (upd H dx (.own x)) x (.ins (κ.adr 0) dx [])) x (.ins (κ.adr 0) dx [("name",v)])):=pO (fs:=[]) (kq (C:=κ.adr 0) hx hd hn) hx
 refine⟨s1,.ins (c:=0) (dx:=dx) (vs:=[v]) ?_ (by rw[hf];rfl) (.cons (z.mono (bu s1)) .nil)⟩
 rw[cS,bK (r.new hx),aM,hf]
 rfl
theorem Ak{c:Nat}{x dx t:Addr}{v:V}{q:PV}{ys:List V}{l:List PV}(r:R K κ G A bo own ρ σ H)(hf:κ.fld c=[("wanted" :Str),("parts" :Str)])(hx:H x=none)(hd:H dx=none)(hn:dx≠x)(ht:upd (upd H dx (.own x)) x (.ins (κ.adr c) dx []) t=none)
  (zv:Rep K κ (cS A own ρ H) v q)(z:aO K κ (cS A own ρ H) ys l):
  aE H (upd (upd (upd (upd (upd H dx (.own x)) x (.ins (κ.adr c) dx [])) x (.ins (κ.adr c) dx [("wanted",v)])) t (.tup ys)) x (.ins (κ.adr c) dx [("wanted",v),("parts",.ref t)]))/\
  Rep K κ (cS A own ρ (upd (upd (upd (upd (upd H dx (.own x)) x (.ins (κ.adr c) dx [])) x (.ins (κ.adr c) dx [("wanted",v)])) t (.tup ys)) x (.ins (κ.adr c) dx [("wanted",v),("parts",.ref t)]))) (.ref x) (.ins c [q,.tup l]):=by
 have s0:aE H (upd (upd H dx (.own x)) x (.ins (κ.adr c) dx [])):=kq (C:=κ.adr c) hx hd hn
 have qy:x≠t:=by
  rintro rfl
  rw[aM]at ht
  cases ht
 have M1:H t=none:=s0.free ht
 have s1:aE H (upd (upd (upd H dx (.own x)) x (.ins (κ.adr c) dx [])) x (.ins (κ.adr c) dx [("wanted",v)])):=pO (fs:=[]) s0 hx
 have s2:aE H (upd (upd (upd (upd H dx (.own x)) x (.ins (κ.adr c) dx [])) x (.ins (κ.adr c) dx [("wanted",v)])) t (.tup ys)):=λb o e=>by
  rw[aF (bF e M1)]
  exact s1 b o e
 have s3:aE H (upd (upd (upd (upd (upd H dx (.own x)) x (.ins (κ.adr c) dx [])) x (.ins (κ.adr c) dx [("wanted",v)])) t (.tup ys)) x (.ins (κ.adr c) dx [("wanted",v),("parts",.ref t)])):=pO (fs:=[]) s2 hx
 refine⟨s3,.ins (c:=c) (dx:=dx) (vs:=[v,.ref t]) ?_ (by rw[hf];rfl) (.cons (zv.mono (bu s3)) (.cons (.tup (vs:=ys) (.inl (.inl ?_)) (z.mono (bu s3))) .nil))⟩
 ·rw[cS,bK (r.new hx),aM,hf]
  rfl
 ·rw[cS,bK (r.new M1),aF (Ne.symm qy)]
  exact aM
end
section
variable{X:Cx}{κ:Kl}{pos p:Pos}{a b:Expr}{fa fb:Den}{f:Addr}{fd:FuncData}{ps:List Str}{k:Nat}{x:Str}
theorem ri(M:Mk X.K (κ.adr 0) f)(F:aH X.prog X.w X.K X.mg X.base b8 k f fd ps (lu (κ.adr 0)))(hf:κ.fld 0=[("name" :Str)])(hr:cM (k+1) X.A)(hm:X.mg x=some (.ref (κ.adr 0)))(hb:Binds X.K fd ps [])(ha:DB X κ a fa)(hg:Gl X x:=by rfl)(oG:(x==("__debug__" :Str))=false:=by decide)
  (he:starEach [a] X.env=(false,eval a X.env)::starEach [] X.env:=by rfl):DE X κ (.Call (.Name x p) [a] [] pos) (a8 xv fa):=by
 obtain⟨ta,h1,h2⟩:=ha
 refine⟨_,ml M F hr hg hm hb .nil gG (aQ h1 cc he) oG he,λ{G A bo own ρ σ H p Q} r e q=>?_⟩
 obtain⟨p1,e1,e2⟩:=Option.bind_eq_some_iff.mp e
 refine h2 r e1 λv H1 s1 b1=>?_
 cases p1<;>first|(cases e2;done)|skip
 cases e2
 intro y dy hy GC hn
 rw[b1.str]
 obtain⟨s3,z3⟩:=Dc (r.mono s1) hf hy GC hn (.str _)
 exact⟨y,dy,_,rfl,aM,rfl,q _ _ (s1.trans s3) z3⟩
theorem xJ{c:Nat}{g:List V->Int}{gP:List PV->Int}{ta:TE}(Ob:∀{vs:List V} {l:List PV},vs.length=l.length->g vs=gP l)(hf:κ.fld c=[("wanted" :Str),("parts" :Str)])(h2:Jb X.K κ ta fa):Ja X.K κ (Eh (κ.adr c) (jN X.K (κ.adr c) g) [] E0 (jH ta rP)) (a8 (λp=>match p with|.lst l=>some (.ins c [.int (gP l),.tup l])|_=>none) fa):=λ{G A bo own ρ σ H p Q} r e q=>by
 obtain⟨p1,e1,e2⟩:=Option.bind_eq_some_iff.mp e
 refine h2 r e1 λv H1 s1 b1=>?_
 cases p1<;>first|(cases e2;done)|skip
 rename_i l
 cases e2
 obtain⟨a,ys,rfl,q1,q2⟩:=b1.lst aD
 intro y dy hy GC hn
 have s0:aE H1 (upd (upd H1 dy (.own y)) y (.ins (κ.adr c) dy [])):=kq (C:=κ.adr c) hy GC hn
 refine⟨y,dy,a,ys,rfl,aM,s0.sl q1,λt ht=>⟨rfl,?_⟩⟩
 rw[Ob q2.length]
 obtain⟨s3,z3⟩:=Ak (r.mono s1) hf hy GC hn ht (.int (gP l)) q2
 exact q _ _ (s1.trans s3) z3
theorem uK(M:Mk X.K (κ.adr 1) f)(F:aH X.prog X.w X.K X.mg X.base b8 k f fd ps (jN X.K (κ.adr 1) λys=>(ys.length:Nat)))(hf:κ.fld 1=[("wanted" :Str),("parts" :Str)])(hr:cM (k+1) X.A)(hm:X.mg x=some (.ref (κ.adr 1)))(hb:Binds X.K fd ps [])(ha:DB X κ a fa)(hg:Gl X x:=by rfl)(oG:(x==("__debug__" :Str))=false:=by decide)
  (he:starEach [a] X.env=(false,eval a X.env)::starEach [] X.env:=by rfl):DE X κ (.Call (.Name x p) [a] [] pos) (a8 ur fa):=by
 obtain⟨ta,h1,h2⟩:=ha
 exact⟨_,ml M F hr hg hm hb .nil gG (aQ h1 cc he) oG he,λ{G A bo own ρ σ H p Q} r e q=>xJ (c:=1) (g:=λys=>(ys.length:Nat)) (gP:=λl=>(l.length:Nat)) (λh=>by rw[h]) hf h2 r (by
  obtain⟨p1,e1,e2⟩:=Option.bind_eq_some_iff.mp e
  refine Option.bind_eq_some_iff.mpr ⟨p1,e1,?_⟩
  cases p1<;>first|(cases e2;done)|exact e2) q⟩
theorem uL(M:Mk X.K (κ.adr 2) f)(F:aH X.prog X.w X.K X.mg X.base b8 k f fd ps (jN X.K (κ.adr 2) λ_=>1))(hf:κ.fld 2=[("wanted" :Str),("parts" :Str)])(hr:cM (k+1) X.A)(hm:X.mg x=some (.ref (κ.adr 2)))(hb:Binds X.K fd ps [])(ha:DB X κ a fa)(hg:Gl X x:=by rfl)(oG:(x==("__debug__" :Str))=false:=by decide)
  (he:starEach [a] X.env=(false,eval a X.env)::starEach [] X.env:=by rfl):DE X κ (.Call (.Name x p) [a] [] pos) (a8 uw fa):=by
 obtain⟨ta,h1,h2⟩:=ha
 exact⟨_,ml M F hr hg hm hb .nil gG (aQ h1 cc he) oG he,λ{G A bo own ρ σ H p Q} r e q=>xJ (c:=2) (g:=λ_=>1) (gP:=λ_=>1) (λ_=>rfl) hf h2 r (by
  obtain⟨p1,e1,e2⟩:=Option.bind_eq_some_iff.mp e
  refine Option.bind_eq_some_iff.mpr ⟨p1,e1,?_⟩
  cases p1<;>first|(cases e2;done)|exact e2) q⟩
theorem rj(M:Mk X.K (κ.adr 3) f)(F:aH X.prog X.w X.K X.mg X.base b8 k f fd ps (kM X.K (κ.adr 3)))(hf:κ.fld 3=[("wanted" :Str),("parts" :Str)])(hr:cM (k+1) X.A)(hm:X.mg x=some (.ref (κ.adr 3)))(hb:Binds X.K fd ps [])(ha:DB X κ a fa)(pP:DB X κ b fb)(hg:Gl X x:=by rfl)(oG:(x==("__debug__" :Str))=false:=by decide)
  (he:starEach [a,b] X.env=(false,eval a X.env)::starEach [b] X.env:=by rfl)(Oc:starEach [b] X.env=(false,eval b X.env)::starEach [] X.env:=by rfl)(hpl:(backTo pos (starEach [b] X.env)).any (·.1)=false:=by rfl):DE X κ (.Call (.Name x p) [a,b] [] pos) (af pI fa fb):=by
 obtain⟨ta,h1,h2⟩:=ha
 obtain⟨tb,h3,h4⟩:=pP
 refine⟨_,ml M F hr hg hm hb .nil gG (aQ h1 (aQ h3 cc Oc) he) oG he hpl,λ{G A bo own ρ σ H p Q} r e q=>?_⟩
 refine qH h2 h4 r e λv u p1 p2 H1 s1 r1 b1 b2 e2=>?_
 (cases p1<;>first|(cases e2;done)|skip)<;>cases p2<;>first|(cases e2;done)|skip
 cases e2
 obtain⟨a,ys,rfl,q1,q2⟩:=b2.lst aD
 intro y dy hy GC hn
 have s0:aE H1 (upd (upd H1 dy (.own y)) y (.ins (κ.adr 3) dy [])):=kq (C:=κ.adr 3) hy GC hn
 rw[b1.int]
 refine⟨y,dy,_,a,ys,rfl,aM,s0.sl q1,λt ht=>⟨rfl,?_⟩⟩
 obtain⟨s3,z3⟩:=Ak r1 hf hy GC hn ht (.int _) q2
 exact q _ _ (s1.trans s3) z3
end
structure GD(K:PySem.W.Frag)(C CR:Addr):Prop where
 cl:qD K C
 ha:PySem.W.findIn K (.ref C) "__class__" =some (some (.builtin "object.__class__"))
 hn:PySem.W.specialIn K (.builtin "object.__class__") "__get__" =some (some (.builtin "getset_descriptor.__get__"))
 Kc:PySem.W.takesIn K (.builtin "object.__class__")=some true
 hm:PySem.W.mroIn K C (.type "object")=some true
 Et:PySem.W.kitOne K (.ref C) (.ref CR)=some true
section
variable{X:Cx}{κ:Kl}{pos p:Pos}{a b:Expr}{fa fb:Den}
theorem Al{CR:Addr}:gE X (.builtin "isinstance") (λxs H Q=>∃(a C dx:Addr) (fs:List (Str×V)),xs=[.ref a,.ref CR]/\H a=some (.ins C dx fs)/\GD X.K C CR/\Q (.bl true) H):=by
 intro pins s σ H xs us Q I r h
 obtain⟨a,C,dx,fs,rfl,ha,ok,q⟩:=h
 cases r with
 |cons r1 r2=>
  cases r2 with
  |cons r2 r3=>
   cases r3
   cases r1
   cases r2
   exact yn (x:=.ref a) I rfl (.ins ha ok.cl ok.ha ok.hn ok.Kc ok.hm) ok.Et λtk=>⟨.bl true,H,I.tok _,rfl,q⟩
theorem GF{cn:Str}{p2:Pos}{CR:Addr}(ok:∀c,c<4->GD X.K (κ.adr c) CR)(ha:DB X κ a fa)(hm:X.mg "isinstance" =none)(uH:X.mg cn=some (.ref CR))(hg:Gl X "isinstance" :=by rfl)(yy:Gl X cn:=by rfl)(hd:(cn==("__debug__" :Str))=false:=by decide)
  (hs:starEach [a,.Name cn p2] X.env=(false,eval a X.env)::starEach [.Name cn p2] X.env:=by rfl)(nk:starEach [.Name cn p2] X.env=(false,eval (.Name cn p2) X.env)::starEach [] X.env:=by rfl)(hpl:(backTo pos (starEach [.Name cn p2] X.env)).any (·.1)=false:=by rfl):DE X κ (.Call (.Name "isinstance" p) [a,.Name cn p2] [] pos) (a8 Gb fa):=by
 obtain⟨ta,h1,h2⟩:=ha
 refine⟨_,jI (Al (CR:=CR)) hg hm PyProof.Rows.boot_isinstance (aQ h1 (aQ (mh yy uH (v:=.ref CR) rfl hd) cc nk) hs) (he:=hs) (hpl:=hpl),λ{G A bo own ρ σ H p Q} r e q=>?_⟩
 obtain⟨p1,e1,e2⟩:=Option.bind_eq_some_iff.mp e
 refine h2 r e1 λx H1 s1 b1=>?_
 cases p1<;>first|(cases e2;done)|skip
 obtain⟨hc,rfl⟩:=bx e2
 cases b1.rep with
 |ins h3 h4 h5=>exact⟨_,_,_,_,rfl,aD _ _ h3,ok _ (of_decide_eq_true hc),q _ H1 s1 (.bl _)⟩
theorem pQ(ha:DB X κ a fa)(hm:X.mg "tuple" =none)(hg:Gl X "tuple" :=by rfl)(hs:starEach [a] X.env=(false,eval a X.env)::starEach [] X.env:=by rfl):DE X κ (.Call (.Name "tuple" p) [a] [] pos) (a8 sf fa):=by
 obtain⟨ta,h1,h2⟩:=ha
 refine⟨_,iO kE hg hm (by decide+kernel) (aQ h1 cc hs) (he:=hs),λ{G A bo own ρ σ H p Q} r e q=>?_⟩
 obtain⟨p1,e1,e2⟩:=Option.bind_eq_some_iff.mp e
 refine h2 r e1 λx H1 s1 b1=>?_
 cases p1<;>first|(cases e2;done)|skip
 ·cases e2
  obtain⟨a,vs,rfl,q1,q2⟩:=b1.lst aD
  exact⟨a,vs,rfl,.inl ⟨q1.sq,λl hl=>q _ _ (s1.trans (cC hl)) ((r.mono s1).Jc hl q2)⟩⟩
 ·cases e2
  rcases b1 with b1|⟨_,_,_,_,z,_⟩
  ·cases b1 with
   |tup q1 q2=>exact⟨_,_,rfl,.inr ⟨rb aD q1,q _ H1 s1 (.tup q1 q2)⟩⟩
  ·cases z
theorem uM(ns:List Int):∀n,n<ns.length->(ns.take (n+1)).tail.foldl (λa b=>if b>a then b else a) (ns.getD 0 0)=ns.getD (argBest (λi j=>decide (ns.getD i 0>ns.getD j 0)) n) 0
 |0,h=>by
  have:(ns.take 1).tail=[]:=by
   cases ns with
   |nil=>rfl
   |cons x l=>simp
  rw[this]
  rfl
 |n+1,h=>by
  have ih:=uM ns n (by omega)
  have e:(ns.take (n+1+1)).tail=(ns.take (n+1)).tail++[ns.getD (n+1) 0]:=by
   rw[List.take_add_one,List.getElem?_eq_getElem h,List.tail_append_of_ne_nil,List.getD_eq_getElem?_getD,List.getElem?_eq_getElem h]
   ·rfl
   ·intro z
    have h2:(ns.take (n+1)).length=0:=by rw[z];rfl
    rw[List.length_take]at h2
    omega
  rw[e,List.foldl_append,ih]
  show(if ns.getD (n+1) 0>ns.getD (argBest _ n) 0 then _ else _)=ns.getD (if decide (ns.getD (n+1) 0>ns.getD (argBest _ n) 0)=true then n+1 else argBest _ n) 0
  by_cases hh:ns.getD (n+1) 0>ns.getD (argBest (λi j=>decide (ns.getD i 0>ns.getD j 0)) n) 0
  ·rw[if_pos hh,if_pos (decide_eq_true hh)]
  ·rw[if_neg hh,if_neg (by rw[decide_eq_false hh];decide)]
theorem rk:∀{us:List Value} {ns:List Int},IntsAre us ns->∃xs:List (Int×Tok),us=xs.map (λp=>Value.int p.1 p.2)/\xs.map (·.1)=ns
 |_,_,.nil=>⟨[],rfl,rfl⟩
 |_,_,.cons i t h=>by
  obtain⟨xs,h1,h2⟩:=rk h
  exact⟨(i,t)::xs,by rw[h1];rfl,by rw[List.map_cons,h2]⟩
theorem qI(hc:X.calm=true):gE X (.builtin "max") (λxs H Q=>∃(p:Addr) (ns:List Int) (m:Int),xs=[.ref p]/\k8 X.K H p (ns.map V.int)/\IY ns=some m/\Q (.int m) H):=by
 intro pins s σ H xs us Q I r h
 obtain⟨p,ns,m,rfl,hq,hm,q⟩:=h
 obtain⟨u,rfl,ru⟩:=vals1 r
 cases ru
 obtain⟨its,rv,pl,hz⟩:=I.list hq
 obtain⟨ts,rfl,ht⟩:=rk (intsAre_of rv)
 have hlen:ns.length=ts.length:=by rw[<-ht,List.length_map]
 have h0:0<ns.length:=by
  cases ns with
  |nil=>cases hm
  |cons _ _=>simp
 have na:∀i,numAt ts.toArray i=ns.getD i 0:=λi=>by
  unfold numAt
  rw[<-ht,List.getD_eq_getElem?_getD,List.getElem?_map]
  simp
 refine max_intList (xs:=ts.toArray) (I.ok.hd hc) (by simpa[intItems]using pl.isList) (by simpa using(hlen▸h0)) λv h' tk hv kp=>?_
 obtain⟨t,rfl⟩:=intItems_at hv
 have bm:=uM ns (ns.length-1) (by omega)
 rw[show ns.length-1+1=ns.length by omega,List.take_length]at bm
 have em:m=numAt ts.toArray (argBest (λi j=>decide (numAt ts.toArray i>numAt ts.toArray j)) (ts.toArray.size-1)):=by
  rw[na,List.size_toArray,<-hlen,show(λi j=>decide (numAt ts.toArray i>numAt ts.toArray j))=λi j=>decide (ns.getD i 0>ns.getD j 0)from by funext i j;rw[na,na],<-bm]
  cases ns with
  |nil=>cases hm
  |cons x l=>
   cases hm
   rfl
 rw[<-em]
 exact⟨.int m,H,I.kept (t':=tk) kp,⟨_,rfl⟩,q⟩
theorem su(ha:DB X κ a fa)(hm:X.mg "max" =none)(hg:Gl X "max" :=by rfl)(hc:X.calm=true:=by rfl)(hs:starEach [a] X.env=(false,eval a X.env)::starEach [] X.env:=by rfl):DE X κ (.Call (.Name "max" p) [a] [] pos) (a8 kJ fa):=by
 obtain⟨ta,h1,h2⟩:=ha
 refine⟨_,jI (qI hc) hg hm (by decide+kernel) (aQ h1 cc hs) (he:=hs),λ{G A bo own ρ σ H p Q} r e q=>?_⟩
 obtain⟨p1,e1,e2⟩:=Option.bind_eq_some_iff.mp e
 refine h2 r e1 λx H1 s1 b1=>?_
 cases p1<;>first|(cases e2;done)|skip
 obtain⟨ns,e3,e4⟩:=Option.bind_eq_some_iff.mp e2
 obtain⟨m,e5,rfl⟩:=Option.map_eq_some_iff.mp e4
 obtain⟨a,vs,rfl,q1,q2⟩:=b1.lst aD
 rw[Ae q2 e3]at q1
 exact⟨a,ns,m,rfl,q1.sq,e5,q _ H1 s1 (.int _)⟩
theorem uN{l u st:Option (Int×Tok)}{y:Str}{t:Tok}{Q:Value->Shared->Prop}{s:Shared}(h0:(st.map (·.1)).getD 1≠0)(hy:y.length<=sizeLine)(q:∀t' k,Q (.str (bU y (l.map (·.1)) (u.map (·.1)) ((st.map (·.1)).getD 1)) t') {s with toks:=k}):(sliceMade y t l u st).post Q s:=by
 unfold sliceMade
 unfold bU at q
 unfold slicePicked
 split
 ·rename_i hh
  rw[if_pos hh]at q
  exact q t s.toks
 ·rename_i hh
  rw[if_neg hh]at q
  refine⟨?_,q _ _⟩
  show((Builtin.Str.strSliceIndices _ _ _ y.length).filterMap (y.cps[·]?)).toArray.size<=sizeLine
  rw[List.size_toArray]
  have h1:=mC (y.cps[·]?) (Builtin.Str.strSliceIndices (l.map (·.1)) (u.map (·.1)) ((st.map (·.1)).getD 1) y.length)
  have h2:=sliceIndicesBy_le (l.map (·.1)) (u.map (·.1)) ((st.map (·.1)).getD 1) h0 y.length
  omega
theorem GG:FU X (λx lo hi H Q=>∃y,x=.str y/\y.length<=sizeLine/\Q (.str (bU y lo hi 1)) H):=by
 intro pins s σ H x v vl vu lo hi sl Q I rx hs pl pu h
 obtain⟨y,rfl,hy,q⟩:=h
 obtain⟨t,rfl⟩:=rx
 obtain⟨l,rfl,hl⟩:=uI pl
 obtain⟨u,rfl,hu⟩:=uI pu
 refine⟨"str",_,F.slot_str_getitem.lookup,typeIs_str _ _ _,wpAny_getItem_str_slice (l:=l) (u:=u) (st:=none) hs rfl (uN (st:=none) (by decide) hy λt' k=>?_)⟩
 rw[hl,hu]
 exact⟨.str _,H,I.tok _,⟨_,rfl⟩,q⟩
theorem eX{p2:Pos}{lo hi:Option Expr}{fl fh:sd}(ha:DB X κ a fa)(hl:DP X κ lo fl)(hh:DP X κ hi fh):DE X κ (.Subscript a (.Slice lo hi none p2) pos) (i4 fa fl fh):=by
 obtain⟨ta,h1,h2⟩:=ha
 obtain⟨tl,h3,h4⟩:=hl
 obtain⟨th,h5,h6⟩:=hh
 refine⟨_,ub (xk.or GG) h1 h3 h5,λ{G A bo own ρ σ H p Q} r e q=>?_⟩
 obtain⟨p1,e1,e2⟩:=Option.bind_eq_some_iff.mp e
 obtain⟨o1,e3,e4⟩:=Option.bind_eq_some_iff.mp e2
 obtain⟨o2,e5,e6⟩:=Option.bind_eq_some_iff.mp e4
 refine h2 r e1 λx H1 s1 b1=>h4 (r.mono s1) e3 λH2 s2=>h6 ((r.mono s1).mono s2) e5 λH3 s3=>?_
 have Es:=(s1.trans s2).trans s3
 cases p1<;>first|(cases e6;done)|skip
 ·obtain⟨hy,rfl⟩:=bx e6
  exact .inr ⟨_,by rw[b1.str],hy,q _ H3 Es (.str _)⟩
 ·cases e6
  obtain⟨a,vs,rfl,q1,q2⟩:=(b1.zQ (s2.trans s3)).lst aD
  exact .inl ⟨a,vs,rfl,q1.sq,λn hn=>q _ _ (Es.trans (cC hn)) (OR.rep (r.mono Es) ((r.mono Es).uy hn (q2.cut o1 o2)))⟩
end
section
variable{X:Cx}{κ:Kl}{pos p p2:Pos}{a b c e:Expr}{fa fb:Den}
theorem Dd{te tc:TE}(he:PE X e te)(hc:PE X c tc):PE X (.Subscript e (.Slice none none (some c) p2) pos) (λσ H Q=>te σ H λx H1=>tc σ H1 λz H2=>∃y,x=.str y/\z=.int (-1)/\y.length<=sizeLine/\Q (.str (bU y none none (-1))) H2):=by
 intro pins s σ H Q I h
 refine Subscript_ (dZ (he pins s σ H _ I h) λv s1 dS=>?_)
 obtain⟨x,H1,I1,r1,q1⟩:=dS
 refine wpAny_Slice ?_
 rw[evalPart_none]
 refine wpAny_pure (wpAny_pure ?_)
 rw[evalPart_some]
 refine dZ (hc pins s1 σ H1 _ I1 q1) λu s3 dS=>?_
 obtain⟨z,H3,I3,r3,y,ex,ez,hy,q⟩:=dS
 subst ex ez
 obtain⟨t,rfl⟩:=r1
 obtain⟨t',rfl⟩:=r3
 have I4:Inv X pins σ H3 {s3 with heap:=s3.heap.push {cls:=.type "slice",data:=.fields #[.none,.none,.int (-1) t']}}:=I3.kept (t':=s3.toks) λb ob q=>Heap.get?_push_of_some _ q
 show wpAny (model X.prog X.w) X.A (subscriptTail e (.Slice none none (some c) p2) (.str y t) (.ref s3.heap.objs.size)) (EP X pins σ Q) X.xe {s3 with heap:=s3.heap.push {cls:=.type "slice",data:=.fields #[.none,.none,.int (-1) t']}}
 refine tail_any (ops:=[.ref s3.heap.objs.size,.str y t]) (T:= "str") (typeIs_str _ _ _) F.slot_str_getitem.lookup ?_ (by with_unfolding_all rfl)
 refine wpAny_getItem_str_slice (l:=none) (u:=none) (st:=some (-1,t')) ⟨_,Heap.get?_push_size _ rfl,rfl,rfl⟩ rfl (uN (st:=some (-1,t')) (show(-1:Int)≠0 by decide) hy λPn k=>?_)
 exact⟨.str _,H3,I4.tok _,⟨_,rfl⟩,q⟩
theorem De(ha:DB X κ a fa)(hc:DB X κ c (a8 pC (dC (.int 1)))):DE X κ (.Subscript a (.Slice none none (some c) p2) pos) (a8 Ga fa):=by
 obtain⟨ta,h1,h2⟩:=ha
 obtain⟨tc,h3,h4⟩:=hc
 refine⟨_,Dd h1 h3,λ{G A bo own ρ σ H p Q} r e q=>?_⟩
 obtain⟨p1,e1,e2⟩:=Option.bind_eq_some_iff.mp e
 refine h2 r e1 λx H1 s1 b1=>h4 (r.mono s1) (p:=.int (-1)) rfl λz H2 s2 b2=>?_
 cases p1<;>first|(cases e2;done)|skip
 obtain⟨hy,rfl⟩:=bx e2
 exact⟨_,b1.str,b2.int,hy,q _ H2 (s1.trans s2) (.str _)⟩
end
theorem walkD2{l:PySem.W.OpenLaw}{n k:Nat}{q:Program}{loose:List Str}{XP:(Str->Option Value)->Heap->Prop}{YP:World->Heap->Prop}{d:DefRec}{K:Params->PySem.W.Frag}{x:Str}{F:List PV->Option PV}
  (hn:l.most=some n)(Hy:n<=sizeLine)(Lv:d.params.defaults=[])(hr:cM k callerA)
  (hY:∀(w:World) (h:Heap),YP w h->(K w.params).In h)
  (FF:∀(w:World) (mg:Str->Option Value) (fa:Addr) (h:Heap),(K w.params).In h->h.Ns mainGlobals mg->mg d.name=some (.ref fa)->
    ∃(κ:Kl) (fd:FuncData),(∀(s:Shared) (u:Value),BindsTo s fd ⟨[u],[]⟩ [(x,u)])/\
     ∀base:Heap,(K w.params).In base->base.Ns mainGlobals mg->aH l.prog w (K w.params) mg base b8 k fa fd [x] (fE (K w.params) κ false F))
  (hF:∀ns:List Int,ns.length<=n->F [.lst (ns.map .int)]=some (.bl true)):
  PySem.W.WalkO q loose XP YP l.row.toRowW d [] (λf vs=>PySem.call f vs):=by
 refine Att.ud hn Lv λw s₀ s₁ mg mb fa o pm cd doc a vs ns G Y ho hd nc IT F2 hints hlen hg=>?_
 have KX:=hY w _ Y
 obtain⟨κ,fd,hb,Od⟩:=FF w mg fa _ KX G.T.g IT
 refine yz KX G.T.g G.T.b G.T.builtins G.T.nolimit hg F2 hints (Nat.le_trans hlen Hy) hr Od hb (λH hO hS=>?_) λH e s' z=>z
 have e:hide (λ_=>False) H=H:=by
  funext b
  exact bK λz=>z
 refine⟨λ_=>False,[.lst (ns.map .int)],.bl true,λb z=>z.elim,.cons ?_ .nil,hF ns hlen,λv H' s z=>?_⟩
 ·rw[e]
  exact .lst hS (ints_rep ns)
 ·cases(show Rep (K w.params) κ _ v (.bl true)from z)
  rfl
theorem cE.mono{P:Program}{w:World}{K:PySem.W.Frag}{mg:Str->Option Value}{base:Heap}{κ:Kl}{fr:Bool}{m:Str}{j k:Nat}{ps:List Str}{Fs:Nat->List PV->Option PV}(M:cE P w K mg base κ fr m j ps Fs)(h:j<=k):cE P w K mg base κ fr m k ps Fs:=λc xs p e=>by
 obtain⟨f,fd,h1,h2,h3,h4,h5⟩:=M c xs p e
 exact⟨f,fd,h1,h2,h3,h4.mono h,h5⟩
structure Em(K:PySem.W.Frag)(x q:Str)(st:Stmt)(ps:List Str)(f:Addr)(fd:FuncData):Prop where
 F:L2.nW K x q st f fd
 b:L2.Binds K fd ps []
noncomputable def Df(s:Stmt)(j:Nat):Stmt:=match s with
 |.ClassDef _ _ _ b _ _ _ _ _ _ _=>b.getD j (.Pass ⟨0,0,0,0⟩)
 |_=>.Pass ⟨0,0,0,0⟩
section
variable{K:PySem.W.Frag}{mg:Str->Option Value}{κ:Kl}{CR CC fH fA fY fS fC:Addr}
theorem Am{c:Nat}{f:Str}(h:f∈HE c):(c=0/\f= "name")\/(0<c/\c<4/\(f= "wanted" \/f= "parts")):=by
 unfold HE at h
 split at h
 ·exact .inl ⟨by assumption,by simpa using h⟩
 ·split at h
  ·exact .inr ⟨by omega,by assumption,by simpa using h⟩
  ·cases h
end
theorem kB{α:Type}{us:List α}(h:us.length=1):∃a,us=[a]:=List.length_eq_one_iff.mp h
theorem nG{α:Type}{us:List α}(h:us.length=2):∃a b,us=[a,b]:=match us,h with|[a,b],_=>⟨a,b,rfl⟩
theorem An{α:Type}{us:List α}(h:us.length=3):∃a b c,us=[a,b,c]:=match us,h with|[a,b,c],_=>⟨a,b,c,rfl⟩
theorem Jm{α:Type}{us:List α}(h:us.length=4):∃a b c d,us=[a,b,c,d]:=match us,h with|[a,b,c,d],_=>⟨a,b,c,d,rfl⟩
section
variable{X:Cx}{κ:Kl}{a b c:Expr}{fa fb fc:Den}{pos:Pos}
theorem uO{K:PySem.W.Frag}{H:Hp}:∀ts:List Str,aO K κ H (ts.map V.str) (ts.map PV.str)
 |[]=>.nil
 |t::ts=>.cons (.str t) (uO ts)
end
end L2.D
namespace L2.D
open PySem PySem.Spec PyProof.Rows PySem.SeqAt
open Classical
noncomputable abbrev SI(h:Heap)(a:Addr)(x:Str)(t:Tok)(n:Nat):Prop:=h.IsStrIter a "str_ascii_iterator" x t n
theorem SI.up{h h':Heap}{a:Addr}{x:Str}{t:Tok}{n:Nat}(k:SI h a x t n)(up:∀o,h.get? a=some o->h'.get? a=some o):SI h' a x t n:=by
 obtain⟨o,e,r⟩:=k
 exact⟨o,up o e,r⟩
section
variable{prog:Program}{w:World}{A:Around}{E:Value->Shared->Prop}{s:Shared}{z TI TO i1 i2:Addr}{x y:Str}{t u:Tok}{n:Nat}{a b:Value}
theorem Dg{c d:Nat}{Q:PySem.Fin->Shared->Prop}(D:ZipApart z TI TO i1 i2 TI TI)(z0:IsZip s.heap z TI TO .none)(p0:IsPair s.heap TI (.ref i1) (.ref i2))(q0:IsPair s.heap TO a b)(r1:SI s.heap i1 x t n)(r2:SI s.heap i2 y u n)(e1:x.cps[n]?=some c)(e2:y.cps[n]?=some d)
  (k:∀h' t1 t2 tk,IsZip h' z TI TO (rawInt s.heap.objs.size)->IsPair h' TO (.str ⟨#[c]⟩ t1) (.str ⟨#[d]⟩ t2)->SI h' i1 x t (n+1)->SI h' i2 y u (n+1)->IsPair h' s.heap.objs.size (.str ⟨#[c]⟩ t1) (.str ⟨#[d]⟩ t2)->(∀e o,e≠z->e≠TO->e≠i1->e≠i2->s.heap.get? e=some o->h'.get? e=some o)->Q (.done (.ret (.ref s.heap.objs.size))) {s with heap:=h',toks:=tk}):
  wpAny (model prog w) A (Builtin.«zip.__next__» ⟨[.ref z],[]⟩) Q E s:=by
 show wpAny _ _ (field (.ref z) 2>>=_) _ _ _
 refine wpAny_bind (wpAny_field z0 rfl (x:=.bool false) rfl ?_)
 show wpAny _ _ (field (.ref z) 3>>=_) _ _ _
 refine wpAny_bind (wpAny_field z0 rfl (x:=.ref TI) rfl (wpAny_bind (wpAny_seqItems p0 rfl ?_)))
 show wpAny _ _ (Builtin.SmallTypes.ownedTupleIsFree (.ref z)>>=_) _ _ _
 refine wpAny_bind ?_
 unfold Builtin.SmallTypes.ownedTupleIsFree
 refine wpAny_bind (wpAny_field z0 rfl (x:=.none) rfl (wpAny_pure ?_))
 simp only[if_true]
 refine wpAny_bind (wpAny_rule (wpAny_bind (wpAny_field z0 rfl (x:=.ref TO) rfl (wpAny_bind (wpAny_setField_rec z0 (by simp) λg1 z1 m1=>?_)))))
 have Kp:IsZip g1 z TI TO .ellipsis:=z1
 refine wpAny_bind ?_
 simp only[List.zipIdx_cons,List.zipIdx_nil,List.forIn_cons,List.forIn_nil]
 refine wpAny_bind (wpAny_bind (wpAny_onRaise ?_))
 show wpAny _ _ (Builtin.SmallTypes.nextOf (.ref i1)>>=_) _ _ _
 refine wpAny_bind (wpAny_nextOf_ascii_item (r1.extBut m1.extBut D.i1z) e1 λg2 k2 m2=>wpAny_pure ?_)
 have q2:IsPair g2 TO a b:=m2.extBut _ _ D.TOi1 (m1.extBut _ _ D.TOz q0)
 refine wpAny_bind (wpAny_seqItems q2 rfl (wpAny_bind (wpAny_updateSeq_pair q2 λg3 q3 m3=>?_)))
 refine wpAny_bind (wpAny_letGo (wpAny_pure (wpAny_bind (wpAny_bind (wpAny_onRaise ?_)))))
 show wpAny _ _ (Builtin.SmallTypes.nextOf (.ref i2)>>=_) _ _ _
 refine wpAny_bind (wpAny_nextOf_ascii_item (((r2.extBut m1.extBut D.i2z).extBut m2.extBut D.i12.symm).extBut m3.extBut D.TOi2.symm) e2 λg4 k4 m4=>wpAny_pure ?_)
 have q4:IsPair g4 TO (.str ⟨#[c]⟩ s.toks) b:=m4.extBut _ _ D.TOi2 q3
 refine wpAny_bind (wpAny_seqItems q4 rfl (wpAny_bind (wpAny_updateSeq_pair q4 λg5 q5 m5=>?_)))
 have M3:IsPair g5 TO (.str ⟨#[c]⟩ s.toks) (.str ⟨#[d]⟩ (s.toks+1)):=q5
 refine wpAny_bind (wpAny_letGo (wpAny_pure (wpAny_pure (wpAny_bind (wpAny_seqItems M3 rfl (wpAny_bind (wpAny_newTuple ?_)))))))
 have sz:g5.objs.size=s.heap.objs.size:=by rw[m5.1,m4.1,m3.1,m2.1,m1.1]
 have z5:IsZip g5 z TI TO .ellipsis:=m5.extBut _ _ D.TOz.symm (m4.extBut _ _ D.i2z.symm (m3.extBut _ _ D.TOz.symm (m2.extBut _ _ D.i1z.symm Kp)))
 have f5:∀e o,e≠z->e≠TO->e≠i1->e≠i2->s.heap.get? e=some o->g5.get? e=some o:=λe o c1 c2 c3 c4 h=>m5.extBut _ _ c2 (m4.extBut _ _ c4 (m3.extBut _ _ c2 (m2.extBut _ _ c3 (m1.extBut _ _ c1 h))))
 have k5:SI g5 i1 x t (n+1):=((k2.extBut m3.extBut D.TOi1.symm).extBut m4.extBut D.i12).extBut m5.extBut D.TOi1.symm
 have l5:SI g5 i2 y u (n+1):=k4.extBut m5.extBut D.TOi2.symm
 have lt:=Heap.lt_size z5
 show wpAny _ _ (Builtin.SmallTypes.ownedTupleHandOut (.ref z) (.ref g5.objs.size)>>=_) _ _ _
 refine wpAny_bind ?_
 unfold Builtin.SmallTypes.ownedTupleHandOut
 have z6:IsZip (g5.push {cls:=.type "tuple",data:=.seq #[.str ⟨#[c]⟩ s.toks,.str ⟨#[d]⟩ (s.toks+1)]}) z TI TO .ellipsis:=Heap.get?_push_of_some _ z5
 refine wpAny_bind (wpAny_setField_rec z6 (by simp) λg7 z7 m7=>?_)
 have Oe:IsZip g7 z TI TO (rawInt g5.objs.size):=z7
 refine wpAny_setField_rec Oe (by simp) λg8 z8 m8=>?_
 have M4:IsZip g8 z TI TO (rawInt g5.objs.size):=z8
 have up:∀e o,e≠z->g5.get? e=some o->g8.get? e=some o:=λe o c1 h=>m8.extBut _ _ c1 (m7.extBut _ _ c1 (Heap.get?_push_of_some _ h))
 have t8:IsPair g8 g5.objs.size (.str ⟨#[c]⟩ s.toks) (.str ⟨#[d]⟩ (s.toks+1)):=m8.extBut _ _ (Nat.ne_of_gt lt) (m7.extBut _ _ (Nat.ne_of_gt lt) (Heap.get?_push_size _ rfl))
 rw[sz]at M4 t8
 refine wpAny_pure ?_
 show Q (.done (.ret (.ref g5.objs.size))) _
 rw[sz]
 exact k g8 _ _ _ M4 (up _ _ D.TOz M3) (k5.up λo e=>up _ o D.i1z e) (l5.up λo e=>up _ o D.i2z e) t8 λe o c1 c2 c3 c4 h=>up e o c1 (f5 e o c1 c2 c3 c4 h)
theorem GH{Q:PySem.Fin->Shared->Prop}(hh:A.handled=none)(D:ZipApart z TI TO i1 i2 TI TI)(z0:IsZip s.heap z TI TO .none)(p0:IsPair s.heap TI (.ref i1) (.ref i2))(q0:IsPair s.heap TO a b)(r1:SI s.heap i1 x t n)(r2:SI s.heap i2 y u n)(e0:x.cps[n]?=none\/y.cps[n]?=none)
  (k:∀h' e tk,(∀f o,f≠z->f≠TO->f≠i1->f≠i2->s.heap.get? f=some o->h'.get? f=some o)->(∃o,h'.get? e=some o/\o.cls=.type "StopIteration")->E (.ref e) {s with heap:=h',toks:=tk}):
  wpAny (model prog w) A (Builtin.«zip.__next__» ⟨[.ref z],[]⟩) Q E s:=by
 show wpAny _ _ (field (.ref z) 2>>=_) _ _ _
 refine wpAny_bind (wpAny_field z0 rfl (x:=.bool false) rfl ?_)
 show wpAny _ _ (field (.ref z) 3>>=_) _ _ _
 refine wpAny_bind (wpAny_field z0 rfl (x:=.ref TI) rfl (wpAny_bind (wpAny_seqItems p0 rfl ?_)))
 show wpAny _ _ (Builtin.SmallTypes.ownedTupleIsFree (.ref z)>>=_) _ _ _
 refine wpAny_bind ?_
 unfold Builtin.SmallTypes.ownedTupleIsFree
 refine wpAny_bind (wpAny_field z0 rfl (x:=.none) rfl (wpAny_pure ?_))
 simp only[if_true]
 refine wpAny_bind (wpAny_rule (wpAny_bind (wpAny_field z0 rfl (x:=.ref TO) rfl (wpAny_bind (wpAny_setField_rec z0 (by simp) λg1 z1 m1=>?_)))))
 have Kp:IsZip g1 z TI TO .ellipsis:=z1
 refine wpAny_bind ?_
 simp only[List.zipIdx_cons,List.zipIdx_nil,List.forIn_cons,List.forIn_nil]
 refine wpAny_bind (wpAny_bind (wpAny_onRaise ?_))
 show wpAny _ _ (Builtin.SmallTypes.nextOf (.ref i1)>>=_) _ _ _
 cases ex:x.cps[n]? with
 |none=>
  refine wpAny_bind (wpAny_nextOf_ascii_end hh (r1.extBut m1.extBut D.i1z) ex λg2 e m2 he=>?_)
  obtain⟨oe,h1,h2⟩:=he
  have z2:IsZip g2 z TI TO .ellipsis:=m2 _ _ D.i1z.symm Kp
  have ne:e≠z:=λv=>by subst v;rw[z2]at h1;cases h1;simp at h2
  exact wpAny_setField_rec z2 (by simp) λg3 _ m3=>k g3 e _ (λf o c1 _ c3 _ v=>m3.extBut _ _ c1 (m2 _ _ c3 (m1.extBut _ _ c1 v))) ⟨oe,m3.extBut _ _ ne h1,h2⟩
 |some c=>
  have ey:y.cps[n]?=none:=by rcases e0 with h|h;rw[ex]at h;cases h;exact h
  refine wpAny_bind (wpAny_nextOf_ascii_item (r1.extBut m1.extBut D.i1z) ex λg2 k2 m2=>wpAny_pure ?_)
  have q2:IsPair g2 TO a b:=m2.extBut _ _ D.TOi1 (m1.extBut _ _ D.TOz q0)
  refine wpAny_bind (wpAny_seqItems q2 rfl (wpAny_bind (wpAny_updateSeq_pair q2 λg3 q3 m3=>?_)))
  refine wpAny_bind (wpAny_letGo (wpAny_pure (wpAny_bind (wpAny_bind (wpAny_onRaise ?_)))))
  show wpAny _ _ (Builtin.SmallTypes.nextOf (.ref i2)>>=_) _ _ _
  refine wpAny_bind (wpAny_nextOf_ascii_end hh (((r2.extBut m1.extBut D.i2z).extBut m2.extBut D.i12.symm).extBut m3.extBut D.TOi2.symm) ey λg4 e m4 he=>?_)
  obtain⟨oe,h1,h2⟩:=he
  have z4:IsZip g4 z TI TO .ellipsis:=m4 _ _ D.i2z.symm (m3.extBut _ _ D.TOz.symm (m2.extBut _ _ D.i1z.symm Kp))
  have ne:e≠z:=λv=>by subst v;rw[z4]at h1;cases h1;simp at h2
  exact wpAny_setField_rec z4 (by simp) λg5 _ m5=>k g5 e _ (λf o c1 c2 c3 c4 v=>m5.extBut _ _ c1 (m4 _ _ c4 (m3.extBut _ _ c2 (m2.extBut _ _ c3 (m1.extBut _ _ c1 v))))) ⟨oe,m5.extBut _ _ ne h1,h2⟩
theorem yD{c d:Nat}{Q:Option Value->Shared->Prop}(D:ZipApart z TI TO i1 i2 TI TI)(z0:IsZip s.heap z TI TO .none)(p0:IsPair s.heap TI (.ref i1) (.ref i2))(q0:IsPair s.heap TO a b)(r1:SI s.heap i1 x t n)(r2:SI s.heap i2 y u n)(e1:x.cps[n]?=some c)(e2:y.cps[n]?=some d)
  (k:∀h' t1 t2 tk,IsZip h' z TI TO (rawInt s.heap.objs.size)->IsPair h' TO (.str ⟨#[c]⟩ t1) (.str ⟨#[d]⟩ t2)->SI h' i1 x t (n+1)->SI h' i2 y u (n+1)->IsPair h' s.heap.objs.size (.str ⟨#[c]⟩ t1) (.str ⟨#[d]⟩ t2)->(∀e o,e≠z->e≠TO->e≠i1->e≠i2->s.heap.get? e=some o->h'.get? e=some o)->Q (some (.ref s.heap.objs.size)) {s with heap:=h',toks:=tk}):
  wpAny (model prog w) A (pyNext (.ref z)) Q E s:=by
 have ty:s.TypeIs (.ref z) "zip" :=⟨_,z0,rfl⟩
 unfold pyNext
 exact wpAny_bind (wpAny_attempt (wpAny_callSpecial?_slot (name:=Str.ofString "__next__") ty F.slot_zip_next (wpAny_call_entry F.slot_zip_next ty F.entry_zip_next (Dg D z0 p0 q0 r1 r2 e1 e2 λh' t1 t2 tk a1 a2 a3 a4 a5 a6=>⟨_,rfl,wpAny_pure (k h' t1 t2 tk a1 a2 a3 a4 a5 a6)⟩) (F.args_zip_next_1 _))))
theorem Ao{Q:Option Value->Shared->Prop}(hh:A.handled=none)(D:ZipApart z TI TO i1 i2 TI TI)(z0:IsZip s.heap z TI TO .none)(p0:IsPair s.heap TI (.ref i1) (.ref i2))(q0:IsPair s.heap TO a b)(r1:SI s.heap i1 x t n)(r2:SI s.heap i2 y u n)(e0:x.cps[n]?=none\/y.cps[n]?=none)
  (k:∀h' tk,(∀f o,f≠z->f≠TO->f≠i1->f≠i2->s.heap.get? f=some o->h'.get? f=some o)->Q none {s with heap:=h',toks:=tk}):wpAny (model prog w) A (pyNext (.ref z)) Q E s:=by
 have ty:s.TypeIs (.ref z) "zip" :=⟨_,z0,rfl⟩
 unfold pyNext
 refine wpAny_bind (wpAny_attempt (wpAny_callSpecial?_slot (name:=Str.ofString "__next__") ty F.slot_zip_next (wpAny_call_entry F.slot_zip_next ty F.entry_zip_next (GH hh D z0 p0 q0 r1 r2 e0 λh' e tk g he=>?_) (F.args_zip_next_1 _))))
 obtain⟨o,h1,h2⟩:=he
 exact wpAny_bind (wpAny_isInstance (T:= "StopIteration") (b:=true) ⟨o,h1,h2⟩ isSubtype_stop (wpAny_pure (k _ _ g)))
end
noncomputable abbrev GI(h:Heap)(x:Str)(t:Tok):Heap:=h.push {cls:=.type "str_ascii_iterator",data:=.fields #[.str x t,.int 0 0]}
noncomputable abbrev Kq(h:Heap)(x:Str)(t:Tok)(y:Str)(u:Tok):Heap:=GI (GI h x t) y u
noncomputable abbrev Kr(h:Heap)(x:Str)(t:Tok)(y:Str)(u:Tok):Heap:=(Kq h x t y u).push {cls:=.type "tuple",data:=.seq #[.ref h.objs.size,.ref (GI h x t).objs.size]}
noncomputable abbrev Ks(h:Heap)(x:Str)(t:Tok)(y:Str)(u:Tok):Heap:=(Kr h x t y u).push {cls:=.type "tuple",data:=.seq #[.none,.none]}
noncomputable abbrev HG(h:Heap)(x:Str)(t:Tok)(y:Str)(u:Tok):Heap:=(Ks h x t y u).push {cls:=.type "zip",data:=.fields #[.none,.bool false,.bool false,.ref (Kq h x t y u).objs.size,.ref (Kr h x t y u).objs.size]}
theorem GJ(x:Str)(t:Tok)(y:Str)(u:Tok)(hx:x.cps.all (·<128)=true)(hy:y.cps.all (·<128)=true):
  Meets (Builtin.«zip.__new__» ⟨[.type "zip",.str x t,.str y u],[]⟩) (λ_ R s=>R (.ok (.ret (.ref (Ks s.heap x t y u).objs.size))) {s with heap:=HG s.heap x t y u}):=
 .of_wp λprog w A R s h=>by
  obtain⟨hp,g,d,tk,os⟩:=s
  have Of:=sub_zip
  have w1:=λ(prog:Program) (w:World) (A:Around) (E:Value->Shared->Prop) (s:Shared) (Q:Value->Shared->Prop) (q:Q (.ref s.heap.objs.size) {s with heap:=GI s.heap x t})=>wpAny_pyIter_ascii (prog:=prog) (w:=w) (A:=A) (E:=E) (s:=s) (t:=t) hx q
  have w2:=λ(prog:Program) (w:World) (A:Around) (E:Value->Shared->Prop) (s:Shared) (Q:Value->Shared->Prop) (q:Q (.ref s.heap.objs.size) {s with heap:=GI s.heap y u})=>wpAny_pyIter_ascii (prog:=prog) (w:=w) (A:=A) (E:=E) (s:=s) (t:=u) hy q
  wp_walk using w1,w2
  exact⟨_,rfl,h⟩
theorem Ap(n:Nat):ZipApart (n+4) (n+2) (n+3) n (n+1) (n+2) (n+2):=by
 refine⟨?_,?_,?_,?_,?_,?_,?_,?_,?_,?_,?_,?_,?_,?_,?_,?_,?_,?_⟩<;>(intro(e:(_:Nat)=_);omega)
theorem Dh{prog:Program}{w:World}{A:Around}{E:Value->Shared->Prop}{s:Shared}{x y:Str}{t u:Tok}{Q:Value->Shared->Prop}(hx:x.cps.all (·<128)=true)(hy:y.cps.all (·<128)=true)
  (k:∀h',IsZip h' (s.heap.objs.size+4) (s.heap.objs.size+2) (s.heap.objs.size+3) .none->IsPair h' (s.heap.objs.size+2) (.ref s.heap.objs.size) (.ref (s.heap.objs.size+1))->IsPair h' (s.heap.objs.size+3) .none .none->SI h' s.heap.objs.size x t 0->SI h' (s.heap.objs.size+1) y u 0->
    (∀c o,s.heap.get? c=some o->h'.get? c=some o)->Q (.ref (s.heap.objs.size+4)) {s with heap:=h'}):wpAny (model prog w) A (call (.type "zip") [.str x t,.str y u]) Q E s:=by
 refine callType_new F.called_zip (by decide) (F.typeCall_zip_2 _ _) (F.newCall_zip_2 _ _) (λobj=>F.args_object_init_3 obj _ _) F.entry_zip_new (GJ x t y u hx hy) ?_
 have n1:(GI s.heap x t).objs.size=s.heap.objs.size+1:=Heap.size_push ..
 have n2:(Kq s.heap x t y u).objs.size=s.heap.objs.size+2:=by rw[Heap.size_push,n1]
 have n3:(Kr s.heap x t y u).objs.size=s.heap.objs.size+3:=by rw[Heap.size_push,n2]
 have n4:(Ks s.heap x t y u).objs.size=s.heap.objs.size+4:=by rw[Heap.size_push,n3]
 have g5:(HG s.heap x t y u).get? (Ks s.heap x t y u).objs.size=some _:=Heap.get?_push_size _ rfl
 have g4:(HG s.heap x t y u).get? (Kr s.heap x t y u).objs.size=some _:=Heap.get?_push_of_some _ (Heap.get?_push_size _ rfl)
 have g3:(HG s.heap x t y u).get? (Kq s.heap x t y u).objs.size=some _:=Heap.get?_push_of_some _ (Heap.get?_push_of_some _ (Heap.get?_push_size _ rfl))
 have g2:(HG s.heap x t y u).get? (GI s.heap x t).objs.size=some _:=Heap.get?_push_of_some _ (Heap.get?_push_of_some _ (Heap.get?_push_of_some _ (Heap.get?_push_size _ rfl)))
 have g1:(HG s.heap x t y u).get? s.heap.objs.size=some _:=Heap.get?_push_of_some _ (Heap.get?_push_of_some _ (Heap.get?_push_of_some _ (Heap.get?_push_of_some _ (Heap.get?_push_size _ rfl))))
 show _/\_
 rw[n2,n3,n4]at g5
 rw[n1,n2]at g3
 rw[n3]at g4
 rw[n1]at g2
 rw[n4]
 exact⟨⟨_,g5,rfl⟩,k _ g5 g3 g4 ⟨_,g1,rfl,rfl⟩ ⟨_,g2,rfl,rfl⟩ λc o v=>Heap.get?_push_of_some _ (Heap.get?_push_of_some _ (Heap.get?_push_of_some _ (Heap.get?_push_of_some _ (Heap.get?_push_of_some _ v))))⟩
noncomputable def GK(x y:Str):It:=
 ⟨λi _=>i<x.cps.size/\i<y.cps.size,
  λi H v H'=>∃p c d,H p=none/\v=.ref p/\H'=upd H p (.tup [.str ⟨#[c]⟩,.str ⟨#[d]⟩])/\x.cps[i]?=some c/\y.cps[i]?=some d,
  λi _=>x.cps.size<=i\/y.cps.size<=i⟩
noncomputable def Og(z TI TO i1 i2:Addr)(x y:Str)(t u:Tok)(i:Nat)(h:Heap):Prop:=IsZip h z TI TO .none/\IsPair h TI (.ref i1) (.ref i2)/\(∃a b,IsPair h TO a b)/\SI h i1 x t i/\SI h i2 y u i
theorem yE{P:Program}{w:World}{K:PySem.W.Frag}{elts:List Expr}{x1:Nat}{pos:Pos}{z TI TO i1 i2:Addr}{x y:Str}{t u:Tok}(D:ZipApart z TI TO i1 i2 TI TI):
  Turn P w K (.Tuple elts x1 pos) (GK x y) [z,TI,TO,i1,i2] z (Og z TI TO i1 i2 x y t u) where
 mem:=by simp
 obj:=λi h st b hb=>by
  obtain⟨z0,p0,⟨a,c,q0⟩,⟨o1,e1,c1,d1⟩,⟨o2,e2,c2,d2⟩⟩:=st
  have pP:b=z\/b=TI\/b=TO\/b=i1\/b=i2:=by simpa using hb
  rcases pP with rfl|rfl|rfl|rfl|rfl
  ·exact⟨_,z0,λv q=>by cases q⟩
  ·exact⟨_,p0,λv q=>by cases q⟩
  ·exact⟨_,q0,λv q=>by cases q⟩
  ·exact⟨_,e1,λv q=>by rw[d1]at q;cases q⟩
  ·exact⟨_,e2,λv q=>by rw[d2]at q;cases q⟩
 keep:=λi h h' st k=>by
  obtain⟨z0,p0,⟨a,c,q0⟩,h1,h2⟩:=st
  exact⟨k _ (by simp) _ z0,k _ (by simp) _ p0,⟨a,c,k _ (by simp) _ q0⟩,h1.up λo e=>k _ (by simp) o e,h2.up λo e=>k _ (by simp) o e⟩
 item:=by
  intro X hP hw hK hc i pins s σ H E I hf st hg
  subst hP hw hK
  obtain⟨lx,ly⟩:i<x.cps.size/\i<y.cps.size:=hg
  obtain⟨z0,p0,⟨a,c,q0⟩,h1,h2⟩:=st
  refine yD D z0 p0 q0 h1 h2 (c:=x.cps[i]) (d:=y.cps[i]) (by simp[lx]) (by simp[ly]) λh' t1 t2 tk a1 a2 a3 a4 a5 a7=>?_
  refine⟨.ref s.heap.objs.size,rfl,wpAny_letOwnedTupleGo_zip (s:={s with heap:=h',toks:=tk}) a1 λL1 b1 b2=>?_⟩
  have Oh:z<s.heap.objs.size:=Heap.lt_size z0
  have up:∀b o,b≠z->h'.get? b=some o->L1.get? b=some o:=λb o hb e=>(b2.2 b hb).trans e
  have kp:∀b o,b∉[z,TO,i1,i2]->s.heap.get? b=some o->L1.get? b=some o:=λb o hb e=>by
   have pP:b≠z/\b≠TO/\b≠i1/\b≠i2:=by simpa using hb
   exact up b o pP.1 (a7 b o pP.1 pP.2.1 pP.2.2.1 pP.2.2.2 e)
  have Jo:IsPair L1 s.heap.objs.size (.str ⟨#[x.cps[i]]⟩ t1) (.str ⟨#[y.cps[i]]⟩ t2):=up _ _ (Nat.ne_of_gt Oh) a5
  have fr:H s.heap.objs.size=none:=I.eF.fresh (Nat.le_refl _)
  refine⟨.ref s.heap.objs.size,upd H s.heap.objs.size (.tup [.str ⟨#[x.cps[i]]⟩,.str ⟨#[y.cps[i]]⟩]),?_,rfl,?_,?_,?_⟩
  ·refine I.yA (t':=tk) (ch:=[z,TO,i1,i2]) kp (λb hb=>hf b ?_) ?_
   ·have pP:b=z\/b=TO\/b=i1\/b=i2:=by simpa using hb
    rcases pP with rfl|rfl|rfl|rfl<;>simp
   ·exact⟨⟨by show 2<=sizeLine;decide,⟨_,Jo,rfl⟩⟩,[_,_],.cons ⟨_,rfl⟩ (.cons ⟨_,rfl⟩ .nil),⟨_,Jo,rfl,_,rfl⟩⟩
  ·exact⟨_,_,_,fr,rfl,rfl,by simp[lx],by simp[ly]⟩
  ·exact⟨b1,up _ _ D.TIz (a7 _ _ D.TIz D.TITO D.TIi1 D.TIi2 p0),⟨_,_,up _ _ D.TOz a2⟩,a3.up λo e=>up _ _ D.i1z e,a4.up λo e=>up _ _ D.i2z e⟩
  ·intro b hb
   have:b<s.heap.objs.size:=by
    have pP:b=z\/b=TI\/b=TO\/b=i1\/b=i2:=by simpa using hb
    obtain⟨o1,e1,_⟩:=h1
    obtain⟨o2,e2,_⟩:=h2
    rcases pP with rfl|rfl|rfl|rfl|rfl
    ·exact Heap.lt_size z0
    ·exact Heap.lt_size p0
    ·exact Heap.lt_size q0
    ·exact Heap.lt_size e1
    ·exact Heap.lt_size e2
   rw[aF (Nat.ne_of_lt this)]
   exact(hf b hb).1
 done:=by
  intro X hP hw hK hc i pins s σ H E I hf st hg
  subst hP hw hK
  have L3:x.cps.size<=i\/y.cps.size<=i:=hg
  obtain⟨z0,p0,⟨a,c,q0⟩,h1,h2⟩:=st
  refine Ao (I.ok.hd hc) D z0 p0 q0 h1 h2 (by
   rcases L3 with q|q
   ·exact .inl (by simp;omega)
   ·exact .inr (by simp;omega)) λh' tk k=>⟨rfl,I.C3 (t':=tk) (ch:=[z,TO,i1,i2]) (λb o hb e=>?_) λb hb=>hf b ?_⟩
  ·have pP:b≠z/\b≠TO/\b≠i1/\b≠i2:=by simpa using hb
   exact k b o pP.1 pP.2.1 pP.2.2.1 pP.2.2.2 e
  ·have pP:b=z\/b=TO\/b=i1\/b=i2:=by simpa using hb
   rcases pP with rfl|rfl|rfl|rfl<;>simp
 self:=λ_ _ _ _ _ st h=>wpAny_pyIter_zip st.1 h
section
variable{X:Cx}{κ:Kl}{a b:Expr}{fa fb:Den}{elts:List Expr}{x1:Nat}{tp:Pos}
noncomputable def Jp(ta:TA):TI:=λσ H R=>ta σ H λvs H1=>∃x y,vs=[.str x,.str y]/\x.cps.all (·<128)=true/\y.cps.all (·<128)=true/\R (GK x y) H1
theorem Di{ta:TA}{p pos:Pos}(hg:Gl X "zip")(hm:X.mg "zip" =none)(ha:PA X [a,b] ta)(hs:starEach [a,b] X.env=[(false,eval a X.env),(false,eval b X.env)]:=by rfl)(nk:starEach [b] X.env=[(false,eval b X.env)]:=by rfl):
  PI X (.Tuple elts x1 tp) (.Call (.Name "zip" p) [a,b] [] pos) (Jp ta):=by
 intro pins s σ H R I h
 refine Call_ (pf I hg hm PyProof.Rows.boot_zip (PyProof.Rows.callWith_type1 (dZ (ha pos pins s σ H _ I h) λus s1 dS=>?_) (by rw[hs,nk]) (by rw[nk];rfl)))
 obtain⟨vs,H1,I1,r1,q1⟩:=dS
 obtain⟨x,y,rfl,hx,hy,q⟩:=q1
 obtain⟨u1,u2,rfl,r1,r2⟩:=vals2 r1
 obtain⟨t,rfl⟩:=r1
 obtain⟨u,rfl⟩:=r2
 refine Dh hx hy λh' hz Oi Oj Ol Om hk=>?_
 refine wpAny_pyIter_zip (s:={s1 with heap:=h'}) hz ?_
 refine⟨s1.heap.objs.size+4,[s1.heap.objs.size+4,s1.heap.objs.size+2,s1.heap.objs.size+3,s1.heap.objs.size,s1.heap.objs.size+1],_,_,H1,rfl,I1.kept (t':=s1.toks) hk,yE (Ap _),⟨hz,Oi,⟨_,_,Oj⟩,Ol,Om⟩,λb hb=>?_,q⟩
 have pP:b=s1.heap.objs.size+4\/b=s1.heap.objs.size+2\/b=s1.heap.objs.size+3\/b=s1.heap.objs.size\/b=s1.heap.objs.size+1:=by simpa using hb
 have hle:s1.heap.objs.size<=b:=by rcases pP with rfl|rfl|rfl|rfl|rfl<;>omega
 exact I1.Cj hle (I1.eF.fresh hle)
noncomputable def yF(x y:Str):List PV:=List.zipWith (λc d=>PV.tup [.str ⟨#[c]⟩,.str ⟨#[d]⟩]) x.cps.toList y.cps.toList
noncomputable def xK(a b:Den):dg:=λρ=>(a ρ).bind λp=>(toS p).bind λx=>(b ρ).bind λq=>(toS q).bind λy=>if x.cps.all (·<128)&&y.cps.all (·<128)then some (yF x y)else none
theorem yG{K:PySem.W.Frag}{Gs:Hp}{A:Addr->Prop}(x y:Str):uz K κ Gs A (GK x y) (yF x y):=λi H2 s=>by
 refine⟨λp e=>?_,λhl=>?_⟩
 ·unfold yF at e
  rw[List.getElem?_zipWith]at e
  cases e1:x.cps.toList[i]? with
  |none=>rw[e1]at e;cases e
  |some c=>
   cases e2:y.cps.toList[i]? with
   |none=>rw[e1,e2]at e;cases e
   |some d=>
    rw[e1,e2]at e
    cases e
    have g1:x.cps[i]?=some c:=by rw[<-Array.getElem?_toList];exact e1
    have g2:y.cps[i]?=some d:=by rw[<-Array.getElem?_toList];exact e2
    refine⟨⟨(Array.getElem?_eq_some_iff.mp g1).1,(Array.getElem?_eq_some_iff.mp g2).1⟩,λz H3 ⟨p',c',d',y0,y1,y2,y3,y4⟩=>?_⟩
    subst y1 y2
    rw[g1]at y3
    rw[g2]at y4
    cases y3
    cases y4
    refine⟨cC y0,λB hB sb=>.tup (k9.of ?_) (.cons (.str _) (.cons (.str _) .nil))⟩
    rw[bK λz=>hB _ z y0]
    exact aM
 ·unfold yF at hl
  rw[List.length_zipWith]at hl
  show x.cps.size<=i\/y.cps.size<=i
  simp at hl
  omega
theorem Dj{p pos:Pos}(ha:DE X κ a fa)(hb:DE X κ b fb)(hm:X.mg "zip" =none)(hg:Gl X "zip" :=by rfl)(hs:starEach [a,b] X.env=[(false,eval a X.env),(false,eval b X.env)]:=by rfl)(nk:starEach [b] X.env=[(false,eval b X.env)]:=by rfl):
  DI X κ (.Tuple elts x1 tp) (.Call (.Name "zip" p) [a,b] [] pos) (xK fa fb):=by
 obtain⟨ta,h1,h2⟩:=ha
 obtain⟨tb,h3,h4⟩:=hb
 refine⟨_,Di hg hm (aQ h1 (aQ h3 cc nk) (by rw[hs,nk])) hs nk,λ{G A bo own ρ σ H ps Q} r e q=>?_⟩
 obtain⟨p1,e1,e2⟩:=Option.bind_eq_some_iff.mp e
 obtain⟨x,e3,e4⟩:=Option.bind_eq_some_iff.mp e2
 obtain⟨p2,e5,e6⟩:=Option.bind_eq_some_iff.mp e4
 obtain⟨y,e7,e8⟩:=Option.bind_eq_some_iff.mp e6
 obtain⟨L4,rfl⟩:=bx e8
 rw[Bool.and_eq_true]at L4
 cases oQ e3
 cases oQ e7
 refine h2 r e1 λv H1 s1 z1=>h4 (r.mono s1) e5 λw H2 s2 z2=>?_
 cases z1
 cases z2
 exact⟨x,y,rfl,L4.1,L4.2,q _ H2 (s1.trans s2) (yG x y)⟩
end
noncomputable def mD(P:Params):List DictEntry->List (Str×Int)->Prop
 |[],[]=>True
 |e::es,(k,i)::b9=>(∃t u,e=⟨PyData.keyHash P k,.str k t,.int i u⟩)/\mD P es b9
 |_,_=>False
theorem mD.lit{P:Params}:∀{es:List DictEntry} {b9:List (Str×Int)},mD P es b9->PySem.W.KeysLit P es
 |[],[],_=>trivial
 |_::_,(k,i)::_,⟨⟨t,u,e⟩,h⟩=>⟨⟨k,t,by rw[e],by rw[e]⟩,h.lit⟩
theorem mD.find{P:Params}(s:Str):∀{es:List DictEntry} {b9:List (Str×Int)},mD P es b9->(es.find? (λd=>Value.isStrOf s d.key)=none/\b9.lookup s=none)\/∃e i u,es.find? (λd=>Value.isStrOf s d.key)=some e/\e.val=.int i u/\b9.lookup s=some i
 |[],[],_=>.inl ⟨rfl,rfl⟩
 |e::es,(k,i)::b9,⟨⟨t,u,eq⟩,h⟩=>by
  subst eq
  rw[List.find?_cons,List.lookup_cons]
  have iff:Value.isStrOf s (.str k t)=(s==k):=by
   show(k==s)=(s==k)
   rw[Bool.eq_iff_iff,beq_iff_eq,beq_iff_eq]
   exact eq_comm
  show(match Value.isStrOf s (.str k t)with|true=>_|false=>_)=_/\_\/_
  by_cases hk:s=k
  ·have hb:(s==k)=true:=beq_iff_eq.mpr hk
   rw[hb]at iff
   refine .inr ⟨⟨PyData.keyHash P k,.str k t,.int i u⟩,i,u,?_,rfl,by rw[hb]⟩
   simp only[iff]
  ·have hb:(s==k)=false:=by rw[beq_eq_false_iff_ne];exact hk
   rw[hb]at iff
   simp only[iff,hb]
   exact h.find s
noncomputable def uP(P:Params)(K:PySem.W.Frag)(mg:Str->Option Value)(x:Str)(b9:List (Str×Int)):Prop:=∃(a:Addr) (es:Array DictEntry) (n:Nat),mg x=some (.ref a)/\K.lookup a=some ⟨.type "dict",none,.dict es n,#[]⟩/\mD P es.toList b9/\(a==sysModules)=false
noncomputable def sv(b9:List (Str×Int))(p:PV):Option PV:=(toS p).map λs=>.bl !(b9.lookup s).isSome
noncomputable def uQ(b9:List (Str×Int))(p:PV):Option PV:=(toS p).bind λs=>(b9.lookup s).map PV.int
section
variable{X:Cx}{κ:Kl}{a:Expr}{fa:Den}{pos p0:Pos}{x:Str}{b9:List (Str×Int)}
theorem Aq{pins:List (Addr×Obj)}{σ:St}{H:Hp}{s:Shared}{d:Addr}{es:Array DictEntry}{n:Nat}(I:Inv X pins σ H s)(hk:X.K.lookup d=some ⟨.type "dict",none,.dict es n,#[]⟩)(he:mD X.w.params es.toList b9):s.heap.MapOf (strKind X.prog X.w) d (λk=>findBy Value.isStrOf es k):=PySem.W.mapOf_K I.iU hk he.lit
theorem xM{es:Array DictEntry}{P:Params}(he:mD P es.toList b9)(s:Str):(findBy Value.isStrOf es s=none/\b9.lookup s=none)\/∃i u,findBy Value.isStrOf es s=some (.int i u)/\b9.lookup s=some i:=by
 unfold findBy
 rw[<-Array.find?_toList]
 rcases he.find s with⟨h1,h2⟩|⟨e,i,u,h1,h2,h3⟩
 ·exact .inl ⟨by rw[h1];rfl,h2⟩
 ·exact .inr ⟨i,u,by rw[h1];show some e.val=_;rw[h2],h3⟩
theorem yH{ty:TE}{d:Addr}{es:Array DictEntry}{n:Nat}(hk:X.K.lookup d=some ⟨.type "dict",none,.dict es n,#[]⟩)(he:mD X.w.params es.toList b9)(hd:(d==sysModules)=false):kD X (compareOp .NotIn) (λv u H Q=>∃s,v=.str s/\u=.ref d/\Q (.bl !(b9.lookup s).isSome) H):=by
 intro pins s σ H v u uv uu Q I rv ru h
 obtain⟨k,rfl,rfl,q⟩:=h
 obtain⟨t,rfl⟩:=rv
 cases ru
 refine wpAny_notIn_of (strKind_is X.prog X.w k t) hd (Aq I hk he) ?_
 have e:(findBy Value.isStrOf es k).isSome=(b9.lookup k).isSome:=by
  rcases xM he k with⟨h1,h2⟩|⟨i,u,h1,h2⟩<;>rw[h1,h2]<;>rfl
 rw[e]
 exact⟨.bl !(b9.lookup k).isSome,H,I.kept (h':=s.heap) (t':=s.toks+1) (λ_ _ z=>z),rfl,q⟩
theorem yI(D:uP X.w.params X.K X.mg x b9)(ha:DB X κ a fa)(hg:Gl X x:=by rfl)(hx:(x==("__debug__" :Str))=false:=by decide):DC X κ .NotIn a (.Name x p0) (a8 (sv b9) fa):=by
 obtain⟨d,es,n,h1,h2,h3,h4⟩:=D
 obtain⟨ta,k1,k2⟩:=ha
 refine⟨_,_,_,yH (ty:=ta) h2 h3 h4,k1,mh (v:=.ref d) hg h1 rfl hx,λ{G A bo own ρ σ H p Q} r e q=>?_⟩
 obtain⟨p1,e1,e2⟩:=Option.bind_eq_some_iff.mp e
 obtain⟨s,e3,e4⟩:=Option.map_eq_some_iff.mp e2
 cases oQ e3
 cases e4
 exact k2 r e1 λv H' s' z=>⟨s,z.str,rfl,q _ H' s' (.bl _)⟩
theorem xN(D:uP X.w.params X.K X.mg x b9)(ha:DB X κ a fa)(hg:Gl X x:=by rfl)(hx:(x==("__debug__" :Str))=false:=by decide)(hs:Jl a:=by intro _ _;rfl):DE X κ (.Subscript (.Name x p0) a pos) (a8 (uQ b9) fa):=by
 obtain⟨d,es,n,h1,h2,h3,h4⟩:=D
 obtain⟨ta,k1,k2⟩:=ha
 refine⟨λσ H Q=>ta σ H λv H1=>∃s i,v=.str s/\b9.lookup s=some i/\Q (.int i) H1,?_,λ{G A bo own ρ σ H p Q} r e q=>?_⟩
 ·intro pins s σ H Q I h
  refine C4 PySem.F.slot_dict_getitem.lookup hs (dZ (mh (v:=.ref d) (pos:=p0) hg h1 rfl hx pins s σ H (λv H1=>v=.ref d/\ta σ H1 λv H2=>∃s i,v=.str s/\b9.lookup s=some i/\Q (.int i) H2) I ⟨rfl,h⟩) λu s1 ⟨v,H1,I1,ru,ev,q1⟩=>dZ (k1 pins s1 σ H1 _ I1 q1) λiv s2 dS=>?_)
  obtain⟨y,H2,I2,ry,k,i,ey,hk,q2⟩:=dS
  subst ev ey
  cases ru
  obtain⟨t,rfl⟩:=ry
  refine⟨⟨_,I2.iU _ _ h2,rfl⟩,?_⟩
  rcases xM h3 k with⟨z1,z2⟩|⟨i',u,z1,z2⟩
  ·rw[z2]at hk;cases hk
  ·rw[z2]at hk
   obtain rfl:=Option.some.inj hk
   exact wpAny_getItem_of (strKind_is X.prog X.w k t) (Aq I2 h2 h3) z1 ⟨.int i',H2,I2.kept (h':=s2.heap) (t':=s2.toks+1) (λ_ _ z=>z),⟨u,rfl⟩,q2⟩
 ·obtain⟨p1,e1,e2⟩:=Option.bind_eq_some_iff.mp e
  obtain⟨s,e3,e4⟩:=Option.bind_eq_some_iff.mp e2
  obtain⟨i,e5,e6⟩:=Option.map_eq_some_iff.mp e4
  cases oQ e3
  cases e6
  exact k2 r e1 λv H' s' z=>⟨s,i,z.str,e5,q _ H' s' (.int _)⟩
end
theorem uR:typeLookup (.type "dict") "__len__" =pure (some (.builtin "dict.__len__")):=PySem.F.slot_dict_len.lookup
section
variable{prog:Program}{w:World}{A:Around}{E:Value->Shared->Prop}{s:Shared}{d S:Addr}{b9:List (Str×Value)}{ep:Nat}
noncomputable abbrev Ar(prog:Program)(w:World)(b9:List (Str×Value)):Nat->Value->Prop:=λi v=>∃k x,b9[i]?=some (k,x)/\(strKind prog w).is k v=true
theorem Au{R:Result->Shared->Prop}(hh:A.handled=none)(hd:(d==sysModules)=false)(res:Value)(c0:Nat)(hS:s.heap.get? S=some {cls:=.type "list",data:=.seq #[] c0})(m:s.heap.DictAt (strKind prog w) d b9 ep)(ne:S≠d)
  (k:∀h' tk mE c',(∀b o,b≠S->s.heap.get? b=some o->h'.get? b=some o)->h'.get? S=some {cls:=.type "list",dict:=none,data:=.seq mE c',slots:=#[]}->ItemsOf (Ar prog w b9) mE b9.length->R (.ok (.ret res)) {s with heap:=h',toks:=tk})(hn:b9.length<=sizeLine):
  wpAny (model prog w) A.in1 (Builtin.List.listExtendWith (.ref S) (.ref d) res) (λfin s'=>match fin with|.done f=>R (.ok f) s'|.again c'=>c'.quiet=true/\codeAny (model prog w) A c' R s') (λe s'=>R (.error e) s') s:=by
 have ty:s.TypeIs (.ref d) "dict" :=m.dictOf.typeIs
 have lS:=Heap.lt_size hS
 obtain⟨o,es,ho,_⟩:=id m
 have ld:=Heap.lt_size ho
 unfold Builtin.List.listExtendWith
 refine wpAny_bind (wpAny_typeOf ty ?_)
 have f1:Builtin.List.listSameRef (.ref S) (.ref d)=false:=by simp[Builtin.List.listSameRef,ne]
 have f2:(Value.type "dict" ==Value.type "list")=false:=by decide
 have f3:(Value.type "dict" ==Value.type "tuple")=false:=by decide
 simp only[f1,f2,f3,Bool.or_false,Bool.false_eq_true,if_false]
 refine wpAny_bind (wpAny_pyIter_dict hd m ?_)
 have up:∀b ob,s.heap.get? b=some ob->(s.heap.push {cls:=.type "dict_keyiterator",data:=.fields #[.ref d,.int 0 0,.int b9.length 0,.int ep 0]}).get? b=some ob:=λb ob e=>Heap.get?_push_of_some _ e
 have st:(s.heap.push {cls:=.type "dict_keyiterator",data:=.fields #[.ref d,.int 0 0,.int b9.length 0,.int ep 0]}).IsKeyIter s.heap.objs.size d 0 b9.length ep:=⟨_,Heap.get?_push_size _ rfl,rfl,rfl⟩
 have m1:=m.at' λob e=>up d ob e
 refine wpAny_bind (wpAny_holding ?_)
 unfold Builtin.List.listLengthHint
 have L5:Shared.TypeIs {s with heap:=s.heap.push {cls:=.type "dict_keyiterator",data:=.fields #[.ref d,.int 0 0,.int b9.length 0,.int ep 0]}} (.ref d) "dict" :=m1.dictOf.typeIs
 refine wpAny_bind (wpAny_specialOf L5 uR ?_)
 wp_delta
 refine wpAny_bind (wpAny_isInstance (b:=true) L5 (by rw[isSubtype_type];kernel_rfl) ?_)
 show wpAny _ _ (typeOf (Value.ref d)>>=_) _ _ _
 refine wpAny_bind (wpAny_typeOf L5 (wpAny_pure ?_))
 rw[if_pos (by decide)]
 have W:=(Walks.dictKeys (prog:=prog) (w:=w) (knd:=strKind prog w) (A:=A.in1) hh s.heap.objs.size d (Nat.ne_of_lt ld) b9 ep).toS
 have nf:S∉[s.heap.objs.size,d]:=by
  simp only[List.mem_cons,List.not_mem_nil,or_false]
  exact λz=>z.elim (Nat.ne_of_lt lS) ne
 refine wpAny_bind (wpAny_rule (wpAny_bind ?_))
 show wpAny _ A.in1 (updateSeq S (·.push .none)>>=λ_=>updateSeq S (·.pop)) _ _ _
 refine wpAny_bind (wpAny_updateSeq (up _ _ hS) rfl ?_)
 have g2:=Heap.get?_update_self (Obj.mapSeq (·.push Value.none)) (up _ _ hS) rfl
 refine wpAny_updateSeq (hz:=by seq_fits) g2 rfl ?_
 have g3:=Heap.get?_update_self (Obj.mapSeq (·.pop)) g2 rfl
 generalize hH:((s.heap.push {cls:=.type "dict_keyiterator",data:=.fields #[.ref d,.int 0 0,.int b9.length 0,.int ep 0]}).update S (Obj.mapSeq (·.push Value.none))).update S (Obj.mapSeq (·.pop))=H3 at g3⊢
 have HH:∀b ob,b≠S->(s.heap.push {cls:=.type "dict_keyiterator",data:=.fields #[.ref d,.int 0 0,.int b9.length 0,.int ep 0]}).get? b=some ob->H3.get? b=some ob:=λb ob hb e=>by
  rw[<-hH]
  exact(Heap.get?_update_other _ _ (Ne.symm hb)).trans ((Heap.get?_update_other _ _ (Ne.symm hb)).trans e)
 refine wpAny_pure ⟨plainId_quiet F.plain_extend_loop _,codeAny_extend_loopS W hn _ nf _ b9.length 0 _ _ _ rfl (Nat.zero_le _) ⟨st.at λob e=>HH _ ob (Nat.ne_of_gt lS) e,m1.at' λob e=>HH _ ob ne.symm e⟩ g3 (ItemsOf.nil _) λs' mE c' hm Jq yJ=>?_⟩
 rw[Moved.eq_with hm]
 refine k s'.heap s'.toks mE c' (λb ob hb e=>hm.heap b ob (λz=>?_) (HH b ob hb (up b ob e))) Jq yJ
 rcases List.mem_cons.mp z with z|z
 ·exact hb z
 ·exact absurd (Heap.lt_size e) (by rw[List.mem_singleton.mp z];exact Nat.lt_irrefl _)
theorem yK{R:Result->Shared->Prop}(hh:A.handled=none)(hd:(d==sysModules)=false)(hS:s.heap.get? S=some {cls:=.type "list",data:=.seq #[]})(m:s.heap.DictAt (strKind prog w) d b9 ep)(ne:S≠d)
  (k:∀h' tk mE c',(∀b o,b≠S->s.heap.get? b=some o->h'.get? b=some o)->h'.get? S=some {cls:=.type "list",dict:=none,data:=.seq mE c',slots:=#[]}->ItemsOf (Ar prog w b9) mE b9.length->R (.ok (.ret .none)) {s with heap:=h',toks:=tk})(hn:b9.length<=sizeLine):
  wpAny (model prog w) A.in1 (Builtin.«list.__init__» ⟨[.ref S,.ref d],[]⟩) (λfin s'=>match fin with|.done f=>R (.ok f) s'|.again c'=>c'.quiet=true/\codeAny (model prog w) A c' R s') (λe s'=>R (.error e) s') s:=by
 show wpAny _ _ (Builtin.List.listItems (.ref S)>>=λold=>Builtin.List.listUpdate (.ref S) (λ_=>#[])>>=λ_=>letGo old.toList.reverse>>=λ_=>Builtin.List.listExtendWith (.ref S) (.ref d) .none) _ _ s
 refine wpAny_bind ?_
 unfold Builtin.List.listItems
 refine wpAny_bind (wpAny_seqItems hS rfl (wpAny_pure ?_))
 show wpAny _ _ (updateSeq S (λ_=>#[])>>=λ_=>letGo (#[]:Array Value).toList.reverse>>=λ_=>Builtin.List.listExtendWith (.ref S) (.ref d) .none) _ _ s
 refine wpAny_bind (wpAny_updateSeq hS rfl ?_)
 have HH:∀b o,b≠S->s.heap.get? b=some o->(s.heap.update S (Obj.mapSeq (λ_=>(#[]:Array Value)))).get? b=some o:=λb o hb e=>(Heap.get?_update_other _ _ (Ne.symm hb)).trans e
 refine wpAny_bind (wpAny_letGo (Au hh hd .none _ (Heap.get?_update_self (Obj.mapSeq (λ_=>(#[]:Array Value))) hS rfl) (m.at' λo e=>HH d o ne.symm e) ne (λh' tk mE c' hk Jq yJ=>?_) hn))
 exact k h' tk mE c' (λb o hb e=>hk b o hb (HH b o hb e)) Jq yJ
theorem list_dict{Q:Value->Shared->Prop}(hh:A.handled=none)(hd:(d==sysModules)=false)(m:s.heap.DictAt (strKind prog w) d b9 ep)(hn:b9.length<=sizeLine)
  (k:∀h' tk mE c',(∀b o,s.heap.get? b=some o->h'.get? b=some o)->h'.get? s.heap.objs.size=some {cls:=.type "list",dict:=none,data:=.seq mE c',slots:=#[]}->ItemsOf (Ar prog w b9) mE b9.length->Q (.ref s.heap.objs.size) {s with heap:=h',toks:=tk}):
  wpAny (model prog w) A (call (.type "list") [.ref d]) Q E s:=by
 obtain⟨o,es,ho,_⟩:=id m
 have ld:=Heap.lt_size ho
 refine callType_codes (Q₁:=λobj s₁=>obj=.ref s.heap.objs.size/\s₁={s with heap:=s.heap.push {cls:=.type "list",data:=.seq #[]}}) F.called_list (F.typeCall_list_1 _) F.entry_list_init (code_list_new _ ⟨rfl,rfl⟩) λobj s₁ h₁=>?_
 obtain⟨rfl,rfl⟩:=h₁
 have hS:(s.heap.push {cls:=.type "list",data:=.seq #[]}).get? s.heap.objs.size=some {cls:=.type "list",data:=.seq #[]}:=Heap.get?_push_size _ rfl
 refine⟨⟨_,hS,rfl⟩,F.args_list_init_2 _ _,yK (A:=A.in1) hh hd hS (m.at' λo e=>Heap.get?_push_of_some _ e) (Nat.ne_of_gt ld) (λh' tk mE c' hk Jq yJ=>?_) hn⟩
 exact⟨rfl,k h' tk mE c' (λb o e=>hk b o (Nat.ne_of_lt (Heap.lt_size e)) (Heap.get?_push_of_some _ e)) Jq yJ⟩
end
noncomputable def pR:List DictEntry->List (Str×Int)->List (Str×Value)
 |e::es,(k,_)::b9=>(k,e.val)::pR es b9
 |_,_=>[]
theorem mD.pairs{P:Params}{prog:Program}{w:World}:∀{es:List DictEntry} {b9:List (Str×Int)},mD P es b9->Pairs (strKind prog w) es (pR es b9)/\(pR es b9).map (·.1)=b9.map (·.1)
 |[],[],_=>⟨.nil,rfl⟩
 |e::es,(k,i)::b9,⟨⟨t,u,eq⟩,h⟩=>by
  obtain⟨a,b⟩:=h.pairs (prog:=prog) (w:=w)
  refine⟨.cons (kv:=(k,e.val)) ?_ rfl a,by show k::_=k::_;rw[b]⟩
  subst eq
  exact strKind_is prog w k t
section
variable{X:Cx}{κ:Kl}{pos p0 p:Pos}{x:Str}{b9:List (Str×Int)}
theorem Dk{pins:List (Addr×Obj)}{σ:St}{H:Hp}{s:Shared}{d:Addr}{es:Array DictEntry}{n:Nat}(I:Inv X pins σ H s)(hk:X.K.lookup d=some ⟨.type "dict",none,.dict es n,#[]⟩)(he:mD X.w.params es.toList b9)(nd:(b9.map (·.1)).Nodup):s.heap.DictAt (strKind X.prog X.w) d (pR es.toList b9) n:=by
 obtain⟨a,b⟩:=he.pairs (prog:=X.prog) (w:=X.w)
 refine⟨_,es,I.iU _ _ hk,⟨rfl,rfl,rfl⟩,rfl,λe hm=>?_,a,by rw[b];exact nd⟩
 obtain⟨k,t,e1,e2⟩:=he.lit.all e (Array.mem_toList_iff.mpr hm)
 exact⟨k,by rw[e1];exact strKind_is X.prog X.w k t,e2⟩
theorem yL{prog:Program}{w:World}{k:Str}{v:Value}(h:(strKind prog w).is k v=true):∃t,v=.str k t:=by
 have h:Value.isStrOf k v=true:=h
 cases v with
 |str s t=>
  have h:(s==k)=true:=h
  exact⟨t,by rw[beq_iff_eq.mp h]⟩
 |_=>cases h
theorem rl:∀{us:List Value} {ks:List Str},us.length=ks.length->(∀(j:Nat) (v:Value),us[j]?=some v->∃k t,ks[j]?=some k/\v=Value.str k t)->Vals (ks.map V.str) us
 |[],[],_,_=>.nil
 |[],_::_,h,_=>by cases h
 |_::_,[],h,_=>by cases h
 |u::us,k::ks,h,f=>by
  obtain⟨k',t,e1,e2⟩:=f 0 u rfl
  cases e1
  exact .cons ⟨t,e2⟩ (rl (Nat.succ.inj h) λj v e=>f (j+1) v e)
theorem vY{d:Addr}{es:Array DictEntry}{n:Nat}(hc:X.calm=true)(hk:X.K.lookup d=some ⟨.type "dict",none,.dict es n,#[]⟩)(he:mD X.w.params es.toList b9)(hd:(d==sysModules)=false)(nd:(b9.map (·.1)).Nodup)(hl:b9.length<=1000):
  gE X (.type "list") (λxs H Q=>xs=[.ref d]/\∀l,H l=none->Q (.ref l) (upd H l (.lst ((b9.map (·.1)).map V.str)))):=by
 intro pins s σ H xs us Q I r h
 obtain⟨rfl,q⟩:=h
 obtain⟨u,rfl,rx⟩:=vals1 r
 cases rx
 obtain⟨_,pk⟩:=he.pairs (prog:=X.prog) (w:=X.w)
 have pl:(pR es.toList b9).length=b9.length:=by
  have:=congrArg List.length pk
  simpa using this
 have zl:(1000:Nat)<=sizeLine:=by decide
 refine list_dict (I.ok.hd hc) hd (Dk I hk he nd) (by omega) λh' tk acc c kp e hi=>?_
 have hv:Vals ((b9.map (·.1)).map V.str) acc.toList:=by
  refine rl ?_ λj v ej=>?_
  ·rw[Array.length_toList,hi.1,pl,List.length_map]
  ·obtain⟨k,y,e1,e2⟩:=hi.2 j v (by simpa using ej)
   obtain⟨t,e3⟩:=yL e2
   refine⟨k,t,?_,e3⟩
   rw[<-pk,List.getElem?_map,e1]
   rfl
 refine⟨.ref s.heap.objs.size,_,I.laid (t':=tk) kp (Nat.le_refl _) (show eH X.prog X.w _ h' _ (.lst ((b9.map (·.1)).map V.str))from⟨?_,acc.toList,c,hv,e⟩),rfl,q _ (I.eF.fresh (Nat.le_refl _))⟩
 rw[List.length_map,List.length_map]
 omega
theorem Av(D:uP X.w.params X.K X.mg x b9)(nd:(b9.map (·.1)).Nodup)(hl:b9.length<=1000)(hm:X.mg "list" =none)(hg:Gl X "list" :=by rfl)(Oo:Gl X x:=by rfl)(hx:(x==("__debug__" :Str))=false:=by decide)(hc:X.calm=true:=by rfl)(hs:starEach [.Name x p0] X.env=(false,eval (.Name x p0) X.env)::starEach [] X.env:=by rfl):
  DO X κ (.Call (.Name "list" p) [.Name x p0] [] pos) (dC (.lst ((b9.map (·.1)).map PV.str))):=by
 obtain⟨d,es,n,h1,h2,h3,h4⟩:=D
 refine⟨_,iO (vY hc h2 h3 h4 nd hl) hg hm PyProof.Rows.boot_list (aQ (mh (v:=.ref d) Oo h1 rfl hx) cc hs) (he:=hs),λ{G A bo own ρ σ H p Q} r e q=>?_⟩
 cases e
 refine⟨rfl,λD hD=>?_⟩
 refine q _ _ (cC hD) ?_
 obtain⟨a,ws,l,w1,w2,w3,w4⟩:=r.uy hD (uO (κ:=κ) (b9.map (·.1)))
 refine⟨a,ws,l,w1,w2,?_,w4⟩
 cases w1
 exact hD
end
structure Rg where
 ws:List PV
 sg:Str
noncomputable def jD(c:Nat):List Str:=if c=4 then["words","signs","at"]else HE c
noncomputable def vZ(t:Rg)(n:Int):PV:=.ins 4 [.lst t.ws,.str t.sg,.int n]
noncomputable abbrev qo(κ:Kl)(dx:Addr)(vw:V)(t:Rg)(n:Int):HO:=.ins (κ.adr 4) dx [(("words" :Str),vw),(("signs" :Str),.str t.sg),(("at" :Str),.int n)]
noncomputable def A1(A:Addr->Prop)(x:Addr):Addr->Prop:=λb=>A b\/b=x
noncomputable def l8(x:Addr):Addr->Prop:=λb=>b=x
noncomputable def wQ(t:Rg)(n:Int)(ρ:c8):c8:=ρ.set 0 (.sh (vZ t n))
structure RQ(K:PySem.W.Frag)(κ:Kl)(G:Hp)(A:Addr->Prop)(x dx:Addr)(vw:V)(t:Rg)(n:Int)(own:Nat->Addr)(ρ:c8)(σ:St)(H:Hp):Prop where
 r:R K κ (upd G x (qo κ dx vw t n)) (A1 A x) (λ_=>none) own ρ σ H
 self:σ[0]?=some (some (.ref x))
 zero:ρ[0]?=some .un
 wsr:Rep K κ (hide (A1 A x) G) vw (.lst t.ws)
 na:¬A x
 gx:G x≠none
section
variable{K:PySem.W.Frag}{κ:Kl}{G H H':Hp}{A:Addr->Prop}{x dx:Addr}{vw:V}{t:Rg}{n n':Int}{own:Nat->Addr}{ρ:c8}{σ:St}
theorem RQ.ob(r:RQ K κ G A x dx vw t n own ρ σ H):H x=some (qo κ dx vw t n):=r.r.same x _ aM
theorem RQ.mono(r:RQ K κ G A x dx vw t n own ρ σ H)(s:aE H H'):RQ K κ G A x dx vw t n own ρ σ H':=⟨r.r.mono s,r.self,r.zero,r.wsr,r.na,r.gx⟩
theorem pS{G:Hp}{x b:Addr}{o:HO}(h:upd G x o b=none):b≠x/\G b=none:=by
 by_cases e:b=x
 ·subst e
  rw[aM]at h
  cases h
 ·rw[aF e]at h
  exact⟨e,h⟩
theorem fK{b:Addr}{o:HO}(s:aE (hide (l8 x) H) (hide (l8 x) H'))(ne:b≠x)(h:H b=some o):H' b=some o:=by
 have e:hide (l8 x) H b=some o:=by rw[bK (show¬l8 x b from ne)];exact h
 exact(cb (s b o e)).2
theorem RQ.turn(r:RQ K κ G A x dx vw t n own ρ σ H)(s:aE (hide (l8 x) H) (hide (l8 x) H'))(e:H' x=some (qo κ dx vw t n')):RQ K κ G A x dx vw t n' own ρ σ H':=by
 have sS:aE (cS (A1 A x) own ρ H) (cS (A1 A x) own ρ H'):=λb o h=>by
  obtain⟨nb,hb⟩:=cb h
  have ne:b≠x:=λz=>nb (.inl (.inr z))
  rw[cS,bK nb]
  exact fK s ne hb
 refine⟨⟨λb h=>?_,λi a vs e=>(by cases e),λb o h=>?_,λi p h=>?_,λi l h=>?_,r.r.inj,λi l h=>?_,r.r.len⟩,r.self,r.zero,r.wsr,r.na,r.gx⟩
 ·intro z
  obtain⟨ne,z⟩:=pS z
  have:=r.r.al b h
  rw[aF ne]at this
  exact this z
 ·by_cases ne:b=x
  ·subst ne
   rw[aM]at h
   cases h
   exact e
  ·rw[aF ne]at h
   exact fK s ne (r.r.same b o (by rw[aF ne];exact h))
 ·obtain⟨v,h1,h2⟩:=r.r.sh i p h
  exact⟨v,h1,h2.mono sS⟩
 ·obtain⟨h1,h2,vs,h3,h4⟩:=r.r.ow i l h
  obtain⟨ne,h2⟩:=pS h2
  exact⟨h1,by rw[aF ne];exact h2,vs,fK s ne h3,h4.mono sS⟩
 ·obtain⟨a,vs,z,_⟩:=r.r.bw i l h
  cases z
theorem RQ.rd(hf:κ.fld 4=[("words" :Str),("signs" :Str),("at" :Str)])(r:RQ K κ G A x dx vw t n own ρ σ H):R K κ (upd G x (qo κ dx vw t n)) A (λ_=>none) own (wQ t n ρ) σ H:=by
 have h0:0<ρ.length:=(List.getElem?_eq_some_iff.mp r.zero).1
 have at_:∀{i:Nat} {s:Slot},(wQ t n ρ)[i]?=some s->(i=0/\s=.sh (vZ t n))\/(i≠0/\ρ[i]?=some s):=λ{i s} e=>by
  unfold wQ at e
  by_cases hi:0=i
  ·subst hi
   rw[List.getElem?_set,if_pos rfl,if_pos h0]at e
   exact .inl ⟨rfl,(Option.some.inj e).symm⟩
  ·rw[List.getElem?_set_ne hi]at e
   exact .inr ⟨Ne.symm hi,e⟩
 have zj:∀{b:Addr},sk own (wQ t n ρ) b->(upd G x (qo κ dx vw t n)) b=none/\sk own ρ b:=λ{b} h=>by
  obtain⟨j,m,h1,h2⟩:=h
  rcases at_ h1 with⟨_,z⟩|⟨_,z⟩
  ·cases z
  ·refine⟨?_,j,m,z,h2⟩
   rw[<-h2]
   exact(r.r.ow j m z).2.1
 have sS:aE (cS (A1 A x) own ρ H) (cS A own (wQ t n ρ) H):=cR (λ_ _ z=>z) λb h _=>h.elim (λz=>.inl (.inl z)) λz=>.inr (zj z).2
 refine⟨λb h=>r.r.al b (.inl h),λi a vs e=>(by cases e),r.r.same,λi p h=>?_,λi l h=>?_,λi j l m h1 h2=>?_,λi l h=>?_,?_⟩
 ·rcases at_ h with⟨h1,h2⟩|⟨h1,h2⟩
  ·subst h1
   cases h2
   refine⟨_,r.self,.ins (c:=4) (vs:=[vw,.str t.sg,.int n]) (dx:=dx) ?_ (by rw[hf];rfl) (.cons (r.wsr.mono λb o hb=>?_) (.cons (.str _) (.cons (.int _) .nil)))⟩
   ·rw[cS,bK λz=>?_,r.ob,hf]
    ·rfl
    ·rcases z with z|z
     ·exact r.na z
     ·have:=(zj z).1
      rw[aM]at this
      cases this
   ·obtain⟨nb,hb⟩:=cb hb
    have ne:b≠x:=λz=>nb (.inr z)
    have hu:upd G x (qo κ dx vw t n) b=some o:=by rw[aF ne];exact hb
    rw[cS,bK λz=>?_]
    ·exact r.r.same b o hu
    ·rcases z with z|z
     ·exact nb (.inl z)
     ·rw[(zj z).1]at hu
      cases hu
  ·obtain⟨v,g1,g2⟩:=r.r.sh i p h2
   exact⟨v,g1,g2.mono sS⟩
 ·rcases at_ h with⟨_,z⟩|⟨_,z⟩
  ·cases z
  ·obtain⟨h1,h2,vs,h3,h4⟩:=r.r.ow i l z
   exact⟨h1,h2,vs,h3,h4.mono sS⟩
 ·rcases at_ h1 with⟨_,z⟩|⟨_,z⟩
  ·cases z
  ·rcases at_ h2 with⟨_,y⟩|⟨_,y⟩
   ·cases y
   ·exact r.r.inj i j l m z y
 ·rcases at_ h with⟨_,z⟩|⟨_,z⟩
  ·cases z
  ·obtain⟨a,vs,y,_⟩:=r.r.bw i l z
   cases y
 ·unfold wQ
  rw[List.length_set]
  exact r.r.len
theorem RQ.set(r:RQ K κ G A x dx vw t n own ρ σ H){i:Nat}(hi:i≠0){v:V}{p:PV}(z:Rep K κ (cS (A1 A x) own ρ H) v p):RQ K κ G A x dx vw t n own (ρ.set i (.sh p)) (σ.set i (some v)) H:=
 ⟨r.r.set z,by rw[List.getElem?_set_ne hi];exact r.self,by rw[List.getElem?_set_ne hi];exact r.zero,r.wsr,r.na,r.gx⟩
end
noncomputable abbrev dn:=Rg->Int->c8->Option (Int×Fl)
noncomputable abbrev hV:=Rg->Int->c8->Option (Int×PV)
noncomputable abbrev FQ:=Rg->Int->List PV->Option (Int×PV)
noncomputable def jO:dn:=λ_ n ρ=>some (n,.nx ρ)
noncomputable def i6:dn:=λ_ _ _=>none
noncomputable def eQ(a b:dn):dn:=λt n ρ=>(a t n ρ).bind λq=>match q with
 |(m,.nx ρ')=>b t m ρ'
 |(m,.rt p)=>some (m,.rt p)
 |_=>none
noncomputable def pT(i:Nat)(f:Den):dn:=λt n ρ=>(f (wQ t n ρ)).bind λp=>if flat p then some (n,.nx (ρ.set i (.sh p)))else none
noncomputable def v3(f:Den):dn:=λt n ρ=>(f (wQ t n ρ)).bind λp=>(Kj p).map λk=>(n+k,.nx ρ)
noncomputable def v7(c:dX)(a b:dn):dn:=λt n ρ=>(c (wQ t n ρ)).bind λk=>if k then a t n ρ else b t n ρ
noncomputable def uS(f:Den):dn:=λt n ρ=>(f (wQ t n ρ)).bind λp=>if flat p then some (n,.rt p)else none
noncomputable def uT(f:Den):dn:=λ_ n ρ=>(f ρ).map λp=>(n,.rt p)
noncomputable def uU(i:Nat):dn:=λ_ n ρ=>(uo ρ i).map λl=>(n,.rt (.lst l))
noncomputable def il(c:dX)(body:dn):Nat->dn
 |0=>λ_ _ _=>none
 |k+1=>λt n ρ=>(c (wQ t n ρ)).bind λb=>if b then(body t n ρ).bind λq=>match q with
  |(m,.nx ρ')=>il c body k t m ρ'
  |_=>none
  else some (n,.nx ρ)
noncomputable def fF(F:FQ)(as:dg):hV:=λt n ρ=>(as (wQ t n ρ)).bind λps=>if ps.all flat then F t n ps else none
noncomputable def mF(g:hV):dn:=λt n ρ=>(g t n ρ).map λq=>(q.1,.nx ρ)
noncomputable def uV(i:Nat)(g:hV):dn:=λt n ρ=>(g t n ρ).bind λq=>if flat q.2 then some (q.1,.nx (ρ.set i (.sh q.2)))else none
noncomputable def RX(fr:Bool)(K:PySem.W.Frag)(κ:Kl)(S:Addr->Prop)(H H':Hp)(v:V)(p:PV):Prop:=if fr then OR K κ S H H' v p else Rep K κ (hide S H') v p
noncomputable def Jr(K:PySem.W.Frag)(κ:Kl)(fr:Bool)(G:Hp)(A:Addr->Prop)(x dx:Addr)(vw:V)(t:Rg)(D:Ends):Int×Fl->Prop
 |(n,.nx ρ)=>∀own σ H,RQ K κ G A x dx vw t n own ρ σ H->D.nx σ H
 |(n,.rt p)=>∀v H,aE (hide (l8 x) G) (hide (l8 x) H)->H x=some (qo κ dx vw t n)->RX fr K κ (A1 A x) G H v p->D.rt v H
 |_=>False
noncomputable def M5(K:PySem.W.Frag)(κ:Kl)(fr:Bool)(ts:TS)(g:dn):Prop:=
 ∀{G A x dx vw t n own ρ σ H q D},RQ K κ G A x dx vw t n own ρ σ H->g t n ρ=some q->Jr K κ fr G A x dx vw t D q->ts D σ H
noncomputable def QS(X:Cx)(κ:Kl)(fr:Bool)(st:Stmt)(g:dn):Prop:=∃ts,PS X st ts/\M5 X.K κ fr ts g
noncomputable def Ex(X:Cx)(κ:Kl)(fr:Bool)(st:List Stmt)(g:dn):Prop:=∃ts,vC X st ts/\M5 X.K κ fr ts g
noncomputable def Oq(K:PySem.W.Frag)(κ:Kl)(fr:Bool)(te:TE)(g:hV):Prop:=
 ∀{G A x dx vw t n own ρ σ H n' p Q},RQ K κ G A x dx vw t n own ρ σ H->g t n ρ=some (n',p)->(∀v H',RQ K κ G A x dx vw t n' own ρ σ H'->aE (hide (l8 x) H) (hide (l8 x) H')->RX fr K κ (cD (A1 A x) own ρ) H H' v p->Q v H')->te σ H Q
noncomputable def QE(X:Cx)(κ:Kl)(fr:Bool)(e:Expr)(g:hV):Prop:=∃te,PE X e te/\Oq X.K κ fr te g
noncomputable def qJ(K:PySem.W.Frag)(κ:Kl)(fr:Bool)(F:FQ):Sp:=λvs H Q _=>∃(A:Addr->Prop) (x dx:Addr) (vw:V) (t:Rg) (n n':Int) (ws:List V) (ps:List PV) (p:PV),vs=.ref x::ws/\(∀b,A b->H b≠none)/\¬A x/\H x=some (qo κ dx vw t n)/\Rep K κ (hide (A1 A x) H) vw (.lst t.ws)/\aO K κ (hide (A1 A x) H) ws ps/\F t n ps=some (n',p)/\
 ∀v H',aE (hide (l8 x) H) (hide (l8 x) H')->H' x=some (qo κ dx vw t n')->RX fr K κ (A1 A x) H H' v p->Q v H'
structure Cq(K:PySem.W.Frag)(κ:Kl):Prop where
 fld:κ.fld 4=[("words" :Str),("signs" :Str),("at" :Str)]
 cls:qD K (κ.adr 4)
 n3:df K (κ.adr 4) "at"
section
variable{K:PySem.W.Frag}{κ:Kl}{G H H':Hp}{A:Addr->Prop}{x dx:Addr}{vw:V}{t:Rg}{n n':Int}{own:Nat->Addr}{ρ:c8}{σ:St}
theorem oT:A1 (cD A own ρ) x=cD (A1 A x) own ρ:=by
 funext b
 refine propext ⟨?_,?_⟩
 ·rintro((z|z)|z)
  ·exact .inl (.inl z)
  ·exact .inr z
  ·exact .inl (.inr z)
 ·rintro((z|z)|z)
  ·exact .inl (.inl z)
  ·exact .inr z
  ·exact .inl (.inr z)
theorem RQ.ox(r:RQ K κ G A x dx vw t n own ρ σ H):¬sk own ρ x:=by
 rintro⟨j,m,h1,h2⟩
 have:=(r.r.ow j m h1).2.1
 rw[h2,aM]at this
 cases this
theorem RQ.words(r:RQ K κ G A x dx vw t n own ρ σ H):Rep K κ (cS (A1 A x) own ρ H) vw (.lst t.ws):=by
 refine r.wsr.mono λb o hb=>?_
 obtain⟨nb,hb⟩:=cb hb
 have ne:b≠x:=λz=>nb (.inr z)
 have hu:upd G x (qo κ dx vw t n) b=some o:=by rw[aF ne];exact hb
 rw[cS,bK λz=>?_]
 ·exact r.r.same b o hu
 ·rcases z with z|⟨j,m,h1,h2⟩
  ·exact nb z
  ·have:=(r.r.ow j m h1).2.1
   rw[h2,hu]at this
   cases this
theorem RQ.frame(r:RQ K κ G A x dx vw t n own ρ σ H):aE (hide (l8 x) G) (hide (l8 x) H):=λb o h=>by
 obtain⟨nb,hb⟩:=cb h
 rw[bK nb]
 exact r.r.same b o (by rw[aF nb];exact hb)
end
section
variable{X:Cx}{κ:Kl}{fr:Bool}{st:Stmt}{rest body M6:List Stmt}{g g':dn}{ge:hV}{a b c e kk:Expr}{es:List Expr}{f fk fa:Den}{fs:dg}{ft:dX}{pos p1 p2 p3 sp apos dm:Pos}{y m:Str}{py:Pos}
theorem mG:Ex X κ fr [] jO:=⟨_,xa,λ{G A x dx vw t n own ρ σ H q D} r e k=>by cases e;exact k own σ H r⟩
theorem dj(h1:QS X κ fr st g)(h2:Ex X κ fr rest g'):Ex X κ fr (st::rest) (eQ g g'):=by
 obtain⟨t1,a1,a2⟩:=h1
 obtain⟨t2,b1,b2⟩:=h2
 refine⟨_,fU a1 b1,λ{G A x dx vw t n own ρ σ H q D} r e k=>?_⟩
 obtain⟨⟨n1,fl⟩,e1,e2⟩:=Option.bind_eq_some_iff.mp e
 refine a2 r e1 ?_
 cases fl with
 |nx ρ'=>exact λcO σ' H' r'=>b2 r' e2 k
 |rt p=>cases e2;exact k
 |_=>cases e2
theorem fg(h1:QS X κ fr st g):Ex X κ fr [st] g:=let⟨_,a1,a2⟩:=h1;⟨_,gj a1,a2⟩
theorem mH:QS X κ fr st i6:=⟨_,zm,λ{G A x dx vw t n own ρ σ H q D} r e k=>by cases e⟩
theorem xO(C:Cq X.K κ)(i:Nat)(hN:X.N.Nodup)(he:DE X κ e f)(hi:X.N[i]?=some y:=by rfl)(Ey:i≠0:=by decide)(hx:Loc X.env.scope y:=by first|exact Or.inl rfl|exact Or.inr rfl)(hs:swapsWith e (some (.Name y py)) pos.line X.env=pure false:=by rfl)
  (hf:X.fn y=true\/X.env.scope.names.lookup y=some .local:=by first|exact .inl rfl|exact .inr rfl):QS X κ fr (.Assign [.Name y py] e pos) (pT i f):=by
 obtain⟨te,h1,h2⟩:=he
 refine⟨_,lh hN hi hx h1 hs hf,λ{G A x dx vw t n own ρ σ H q D} r e k=>?_⟩
 obtain⟨p,e1,e2⟩:=Option.bind_eq_some_iff.mp e
 obtain⟨Dl,e3⟩:=bx e2
 cases e3
 refine h2 (r.rd C.fld) e1 λv H' s z=>?_
 exact k _ _ _ ((r.mono s).set Ey (Rep.flat Dl z))
theorem Aw(C:Cq X.K κ)(he:DE X κ e f)(h0:X.N[0]?=some ("self" :Str):=by rfl)(hv:tU X.env.scope "self" :=by first|exact Or.inl rfl|exact Or.inr (Or.inl rfl)|exact Or.inr (Or.inr rfl)):QS X κ fr (.AugAssign (.Attribute (.Name "self" p1) "at" p2) .Add e pos) (v3 f):=by
 obtain⟨te,h1,h2⟩:=he
 refine⟨_,ym (d0 h0 hv) h1 FN,λ{G A x dx vw t n own ρ σ H q D} r e k=>?_⟩
 obtain⟨p,e1,e2⟩:=Option.bind_eq_some_iff.mp e
 obtain⟨j,e3,rfl⟩:=Option.map_eq_some_iff.mp e2
 cases p<;>first|(cases e3;done)|skip
 cases e3
 refine⟨_,r.self,x,_,dx,_,.int n,rfl,r.ob,C.cls,C.n3,rfl,h2 (r.rd C.fld) e1 λv H' s z=>?_⟩
 cases z
 have r1:=r.mono s
 refine⟨n,j,rfl,rfl,dx,_,r1.ob,(show(3:Nat)<1000 by decide),k own σ _ (r1.turn ?_ aM)⟩
 rw[mv (show l8 x x from rfl)]
 exact λ_ _ z=>z
theorem uW(C:Cq X.K κ)(hc:DT X κ c ft)(ha:Ex X κ fr body g)(hb:Ex X κ fr M6 g'):QS X κ fr (.If c body M6 pos) (v7 ft g g'):=by
 obtain⟨tc,h1,h2⟩:=hc
 obtain⟨t1,a1,a2⟩:=ha
 obtain⟨t2,b1,b2⟩:=hb
 refine⟨_,D9 h1 a1 b1,λ{G A x dx vw t n own ρ σ H q D} r e k=>?_⟩
 obtain⟨z,e1,e2⟩:=Option.bind_eq_some_iff.mp e
 refine h2 (r.rd C.fld) e1 λH' s=>?_
 cases z with
 |true=>exact a2 (r.mono s) e2 k
 |false=>exact b2 (r.mono s) e2 k
theorem Dm(C:Cq X.K κ)(he:DE X κ e f):QS X κ false (.Return (some e) pos) (uS f):=by
 obtain⟨te,h1,h2⟩:=he
 refine⟨_,lg h1,λ{G A x dx vw t n own ρ σ H q D} r e k=>?_⟩
 obtain⟨p,e1,e2⟩:=Option.bind_eq_some_iff.mp e
 obtain⟨Dl,e3⟩:=bx e2
 cases e3
 exact h2 (r.rd C.fld) e1 λv H' s z=>k v H' (r.mono s).frame (r.mono s).ob (Rep.flat Dl z)
theorem Dn(he:DE X κ e f):QS X κ false (.Return (some e) pos) (uT f):=by
 obtain⟨te,h1,h2⟩:=he
 refine⟨_,lg h1,λ{G A x dx vw t n own ρ σ H q D} r e k=>?_⟩
 obtain⟨p,e1,rfl⟩:=Option.map_eq_some_iff.mp e
 exact h2 r.r e1 λv H' s z=>k v H' (r.mono s).frame (r.mono s).ob (z.mono (cR (λ_ _ q=>q) λb q _=>.inl q))
theorem Dp(i:Nat)(hN:X.N[i]?=some y:=by rfl)(hv:tU X.env.scope y:=by first|exact Or.inl rfl|exact Or.inr (Or.inl rfl)|exact Or.inr (Or.inr rfl))(hd:(y==("__debug__" :Str))=false:=by decide)
  (nc:(y==("__classdict__" :Str))=false:=by decide):QS X κ true (.Return (some (.Name y py)) pos) (uU i):=by
 refine⟨_,lg (d0 hN hv hd nc),λ{G A x dx vw t n own ρ σ H q D} r e k=>?_⟩
 obtain⟨l,e1,rfl⟩:=Option.map_eq_some_iff.mp e
 obtain⟨h1,h3,vs,h4,h5⟩:=r.r.ow i (.l l) (fJ e1)
 change H (own i)=some (.lst vs)at h4
 change aO _ _ _ vs l at h5
 obtain⟨_,h3⟩:=pS h3
 refine⟨_,h1,k _ H r.frame r.ob ?_⟩
 exact⟨own i,vs,l,rfl,rfl,h3,h4,h5.mono (cR (λ_ _ z=>z) λb z _=>by
  rcases z with z|z
  ·exact .inl z
  ·exact .inr ⟨i,.l l,fJ e1,z.symm⟩)⟩
theorem Ax(C:Cq X.K κ)(n0:Nat)(hc:DT X κ c ft)(hb:Ex X κ fr body g)(hp:PassesOwn (model X.prog X.w) X.A X.env X.xe:=by exact PassesOwn.never):QS X κ fr (.While c body [] pos) (il ft g n0):=by
 obtain⟨tc,h1,h2⟩:=hc
 obtain⟨tb,h3,h4⟩:=hb
 refine⟨_,t5 hp h1 h3,λ{G A x dx vw t n own ρ σ H q D} r e k=>?_⟩
 refine⟨λm σ H=>∃n own ρ,RQ X.K κ G A x dx vw t n own ρ σ H/\il ft g m t n ρ=some q,⟨n0,n,own,ρ,r,e⟩,?_⟩
 rintro m σ H ⟨n,own,ρ,r,e⟩
 cases m with
 |zero=>cases e
 |succ m=>
  unfold il at e
  obtain⟨c,e1,e2⟩:=Option.bind_eq_some_iff.mp e
  refine h2 (r.rd C.fld) e1 λH1 s1=>?_
  cases c with
  |false=>
   cases e2
   exact k own σ H1 (r.mono s1)
  |true=>
   obtain⟨⟨n1,fl⟩,e3,e4⟩:=Option.bind_eq_some_iff.mp e2
   refine⟨λσ' H'=>∃n own ρ,RQ X.K κ G A x dx vw t n own ρ σ' H'/\il ft g m t n ρ=some q,λσ' H' z=>⟨m,Nat.lt_succ_self m,z⟩,?_⟩
   refine h4 (r.mono s1) e3 ?_
   cases fl with
   |nx ρ'=>exact λcO σ' H' r'=>⟨n1,cO,ρ',r',e4⟩
   |_=>cases e4
end
noncomputable def oJ(fr:Bool)(n k:Nat)(body:dn):FQ:=λt m ps=>if ps.length+1=k then(body t m (.un::(ps.map Slot.sh++List.replicate (n-k) .un))).bind λq=>match q with
 |(m',.rt p)=>some (m',p)
 |(m',.nx _)=>if fr then none else some (m',.non)
 |_=>none
 else none
theorem mI{α:Type}{c:Prop}[Decidable c]{o:Option α}{z:α}(h:(if c then o else none)=some z):c/\o=some z:=by
 split at h
 ·exact⟨by assumption,h⟩
 ·cases h
theorem uX{K:PySem.W.Frag}{κ:Kl}{H1 H2:Hp}:∀{vs:List V} {l:List PV},l.all flat=true->aO K κ H1 vs l->aO K κ H2 vs l
 |_,_,_,.nil=>.nil
 |_::_,_,h,.cons q1 q2=>by
  rw[List.all_cons,Bool.and_eq_true]at h
  exact .cons (Rep.flat h.1 q1) (uX h.2 q2)
theorem RX.big{fr:Bool}{K:PySem.W.Frag}{κ:Kl}{S:Addr->Prop}{H H1 H2:Hp}{v:V}{p:PV}(s:aE H H1)(z:RX fr K κ S H1 H2 v p):RX fr K κ S H H2 v p:=by
 cases fr with
 |false=>exact z
 |true=>
  obtain⟨a,vs,l,h1,h2,h3,h4,h5⟩:=(show OR K κ S H1 H2 v p from z)
  exact⟨a,vs,l,h1,h2,s.free h3,h4,h5⟩
section
variable{X:Cx}{κ:Kl}{fr:Bool}{e:Expr}{es:List Expr}{fs:dg}{ge:hV}{pos p1 apos dm py:Pos}{y m:Str}
theorem oU{F:FQ}{k:Nat}{fo:Addr}{fd:FuncData}{ps:List Str}{pl:Sem Bool}(C:Cq X.K κ)(hm:Meth X.K (κ.adr 4) m fo)(FO:aH X.prog X.w X.K X.mg X.base b8 k fo fd ps (qJ X.K κ fr F))(hr:cM k X.A)(hb:Binds X.K fd ps [])(ha:DA X κ (e::es) fs)
  (h0:X.N[0]?=some ("self" :Str):=by rfl)(hv:tU X.env.scope "self" :=by first|exact Or.inl rfl|exact Or.inr (Or.inl rfl)|exact Or.inr (Or.inr rfl))
  (hn:∀u1 u2 u3:V,List.lookup m [(("words" :Str),u1),(("signs" :Str),u2),(("at" :Str),u3)]=none:=by intros;rfl)
  (ng:starEach (e::es) X.env=(false,eval e X.env)::starEach es X.env:=by rfl)(hpl:(backTo dm (starEach es X.env)).any (·.1)=false:=by rfl)
  (ht:eval (.Call (.Attribute (.Name "self" p1) m apos) (e::es) [] dm) X.env=(do
    let ov<-eval (.Name "self" p1) X.env
    standAt apos.atName
    let(f,first)<-holding [ov] (getMethod ov m pl)
    callWith dm f first (backTo dm (starEach (e::es) X.env)) (backToKw dm (keywordEach [] X.env))):=by rfl):QE X κ fr (.Call (.Attribute (.Name "self" p1) m apos) (e::es) [] dm) (fF F fs):=by
 obtain⟨ta,h1,h2⟩:=ha
 refine⟨_,Cw (pl:=pl) (d0 h0 hv) C.cls hm FO hr hb .nil gG h1 ng hpl ht,λ{G A x dx vw t n own ρ σ H n' p Q} r e k=>?_⟩
 obtain⟨ps,e1,e2⟩:=Option.bind_eq_some_iff.mp e
 obtain⟨Dl,e3⟩:=mI e2
 refine⟨_,r.self,x,dx,_,rfl,r.ob,hn _ _ _,h2 (r.rd C.fld) e1 λvs H1 s z=>?_⟩
 have r1:=r.mono s
 refine⟨cD A own ρ,x,dx,vw,t,n,n',vs,ps,p,by rw[List.append_nil],λb hb=>?_,λz=>z.elim r1.na r1.ox,r1.ob,by rw[oT];exact r1.words,uX Dl z,e3,λv H2 s2 o2 z2=>?_⟩
 ·rcases hb with hb|⟨i,l,g1,g2⟩
  ·intro zn
   have:=r1.r.al b (.inl hb)
   exact this (r1.r.same.free zn)
  ·obtain⟨_,_,vs,g3,_⟩:=r1.r.ow i l g1
   rw[<-g2,g3]
   exact λz=>by cases z
 ·rw[oT]at z2
  exact k v H2 (r1.turn s2 o2) ((bu s).trans s2) (z2.big s)
theorem pU{F:FQ}{k:Nat}{fo:Addr}{fd:FuncData}{ps:List Str}{pl:Sem Bool}(C:Cq X.K κ)(hm:Meth X.K (κ.adr 4) m fo)(FO:aH X.prog X.w X.K X.mg X.base b8 k fo fd ps (qJ X.K κ fr F))(hr:cM k X.A)(hb:Binds X.K fd ps [])
  (h0:X.N[0]?=some ("self" :Str):=by rfl)(hv:tU X.env.scope "self" :=by first|exact Or.inl rfl|exact Or.inr (Or.inl rfl)|exact Or.inr (Or.inr rfl))
  (hn:∀u1 u2 u3:V,List.lookup m [(("words" :Str),u1),(("signs" :Str),u2),(("at" :Str),u3)]=none:=by intros;rfl)
  (ht:eval (.Call (.Attribute (.Name "self" p1) m apos) [] [] dm) X.env=(do
    let ov<-eval (.Name "self" p1) X.env
    standAt apos.atName
    let(f,first)<-holding [ov] (getMethod ov m pl)
    callWith dm f first (backTo dm (starEach [] X.env)) (backToKw dm (keywordEach [] X.env))):=by rfl):QE X κ fr (.Call (.Attribute (.Name "self" p1) m apos) [] [] dm) (fF F aK):=by
 refine⟨_,pA (pl:=pl) (d0 h0 hv) C.cls hm FO hr hb .nil gG ht,λ{G A x dx vw t n own ρ σ H n' p Q} r1 e k=>?_⟩
 obtain⟨ps,e1,e2⟩:=Option.bind_eq_some_iff.mp e
 obtain⟨Dl,e3⟩:=mI e2
 cases e1
 refine⟨_,r1.self,x,dx,_,rfl,r1.ob,hn _ _ _,?_⟩
 refine⟨cD A own ρ,x,dx,vw,t,n,n',[],[],p,rfl,λb hb=>?_,λz=>z.elim r1.na r1.ox,r1.ob,by rw[oT];exact r1.words,.nil,e3,λv H2 s2 o2 z2=>?_⟩
 ·rcases hb with hb|⟨i,l,g1,g2⟩
  ·intro zn
   have:=r1.r.al b (.inl hb)
   exact this (r1.r.same.free zn)
  ·obtain⟨_,_,vs,g3,_⟩:=r1.r.ow i l g1
   rw[<-g2,g3]
   exact λz=>by cases z
 ·rw[oT]at z2
  exact k v H2 (r1.turn s2 o2) s2 z2
theorem sx{fe:Bool}(h:QE X κ fe e ge)(hs:swapsWith e none pos.line X.env=pure false:=by rfl):QS X κ fr (.Expr e pos) (mF ge):=by
 obtain⟨te,h1,h2⟩:=h
 refine⟨_,g9 h1 hs,λ{G A x dx vw t n own ρ σ H q D} r e k=>?_⟩
 obtain⟨⟨n',p⟩,e1,rfl⟩:=Option.map_eq_some_iff.mp e
 exact h2 r e1 λv H' r' _ _=>k own σ H' r'
theorem Dq(i:Nat)(hN:X.N.Nodup)(h:QE X κ false e ge)(hi:X.N[i]?=some y:=by rfl)(Ey:i≠0:=by decide)(hx:Loc X.env.scope y:=by first|exact Or.inl rfl|exact Or.inr rfl)(hs:swapsWith e (some (.Name y py)) pos.line X.env=pure false:=by rfl)
  (hf:X.fn y=true\/X.env.scope.names.lookup y=some .local:=by first|exact .inl rfl|exact .inr rfl):QS X κ fr (.Assign [.Name y py] e pos) (uV i ge):=by
 obtain⟨te,h1,h2⟩:=h
 refine⟨_,lh hN hi hx h1 hs hf,λ{G A x dx vw t n own ρ σ H q D} r e k=>?_⟩
 obtain⟨⟨n',p⟩,e1,e2⟩:=Option.bind_eq_some_iff.mp e
 obtain⟨Dl,e3⟩:=bx e2
 cases e3
 refine h2 r e1 λv H' r' _ z=>k _ _ _ (r'.set Ey ?_)
 exact z
end
section
variable{P:Program}{w:World}{K:PySem.W.Frag}{mg:Str->Option Value}{base:Heap}{κ:Kl}{fr:Bool}
theorem RQ.entry{H:Hp}{N:List Str}{k:Nat}{A:Addr->Prop}{x dx:Addr}{vw:V}{t:Rg}{n:Int}{ws:List V}{ps:List PV}(hk:ps.length+1=k)(al:∀b,A b->H b≠none)(na:¬A x)(ob:H x=some (qo κ dx vw t n))(hw:Rep K κ (hide (A1 A x) H) vw (.lst t.ws))(h:aO K κ (hide (A1 A x) H) ws ps):
  RQ K κ H A x dx vw t n (λ_=>0) (.un::(ps.map Slot.sh++List.replicate (N.length-k) .un)) (start N (.ref x::ws)) H:=by
 have hl:=h.length
 have eu:upd H x (qo κ dx vw t n)=H:=by
  funext b
  by_cases e:b=x
  ·subst e
   rw[aM,ob]
  ·rw[aF e]
 have slot:∀{i:Nat} {s:Slot},(.un::(ps.map Slot.sh++List.replicate (N.length-k) .un):c8)[i]?=some s->s=.un\/∃p j,s=.sh p/\i=j+1/\ps[j]?=some p:=λ{i s} e=>by
  cases i with
  |zero=>cases e;exact .inl rfl
  |succ i=>
   rw[List.getElem?_cons_succ,List.getElem?_append]at e
   split at e
   ·rw[List.getElem?_map]at e
    obtain⟨q,e1,e2⟩:=Option.map_eq_some_iff.mp e
    exact .inr ⟨q,i,e2.symm,rfl,e1⟩
   ·rw[List.getElem?_replicate]at e
    split at e
    ·cases e;exact .inl rfl
    ·cases e
 have qA:∀{i:Nat} {l:Cn},(.un::(ps.map Slot.sh++List.replicate (N.length-k) .un):c8)[i]?≠some (.own l):=λ{i l} e=>by
  rcases slot e with z|⟨_,_,z,_⟩<;>cases z
 have hh:cS (A1 A x) (λ_=>0) (.un::(ps.map Slot.sh++List.replicate (N.length-k) .un)) H=hide (A1 A x) H:=by
  unfold cS
  congr 1
  funext b
  refine propext ⟨λz=>z.elim id λ⟨j,m,z,_⟩=>absurd z qA,λz=>.inl z⟩
 refine⟨⟨λb hb=>?_,λi a vs e=>(by cases e),by rw[eu];exact λ_ _ z=>z,λi p e=>?_,λi l e=>absurd e qA,λi j l m e=>absurd e qA,λi l e=>?_,?_⟩,rfl,rfl,hw,na,by rw[ob];exact λz=>by cases z⟩
 ·rw[eu]
  rcases hb with hb|hb
  ·exact al b hb
  ·rw[hb,ob]
   exact λz=>by cases z
 ·rcases slot e with z|⟨q,j,z,rfl,e1⟩
  ·cases z
  ·cases z
   obtain⟨v,h1,h2⟩:=h.get e1
   refine⟨v,?_,by rw[hh];exact h2⟩
   unfold start
   rw[List.map_cons,List.cons_append,List.getElem?_cons_succ,List.getElem?_append_left (by rw[List.length_map];exact(List.getElem?_eq_some_iff.mp h1).1),List.getElem?_map,h1]
   rfl
 ·rcases slot e with z|⟨_,_,z,_⟩<;>cases z
 ·unfold start
  simp only[List.length_append,List.length_map,List.length_cons,List.length_replicate,hl]
  rw[hk]
  omega
theorem uY{x qual:Str}{st:Stmt}{f:Addr}{fd:FuncData}{N ps:List Str}{k:Nat}{g:dn}(F:nW K x qual st f fd)(S:aJ N ps (aj st))
  (hb:∀(dO:Value) (A:Around) (outer:List Env) (s:Shared) (H:Hp) (E:XK),cM k (A.deeper (envOfC qual (aj st) s.heap.objs.size f dO))->Ex (rR b8 P w K mg base N qual (aj st) f dO A outer s H E).zj κ fr (fN st) g):
  aH P w K mg base b8 (k+1) f fd ps (qJ K κ fr (oJ fr N.length ps.length g)):=by
 refine F.ok S (λvs H Q E h=>?_) (λdO A outer s H vs Q E hr h=>?_)
 ·obtain⟨A',x,dx,vw,t,n,n',ws,qs,p,rfl,_,_,_,_,h1,h2,_⟩:=h
  unfold oJ at h2
  obtain⟨hk,_⟩:=mI h2
  rw[List.length_cons,h1.length]
  exact hk
 ·obtain⟨A',x,dx,vw,t,n,n',ws,qs,p,rfl,al,na,ob,hw,h1,h2,q⟩:=h
  obtain⟨ts,a1,a2⟩:=hb dO A outer s H E hr
  refine⟨ts,a1,?_⟩
  unfold oJ at h2
  obtain⟨hk,h3⟩:=mI h2
  obtain⟨⟨m,fl⟩,e1,e2⟩:=Option.bind_eq_some_iff.mp h3
  refine a2 (RQ.entry hk al na ob hw h1) e1 ?_
  cases fl with
  |nx ρ'=>
   cases fr with
   |true=>cases e2
   |false=>
    cases e2
    exact λcO σ' H' r'=>q .non H' r'.frame r'.ob .non
  |rt p'=>
   cases e2
   exact λv H' s' o' z=>q v H' s' o' z
  |_=>cases e2
end
noncomputable def pV(i:Nat)(g:hV):dn:=λt n ρ=>(g t n ρ).map λq=>(q.1,.nx (ρ.set i (.ow [q.2])))
noncomputable def Ay(i:Nat)(g:hV):dn:=λt n ρ=>(uo ρ i).bind λl=>(g t n ρ).bind λq=>if l.length<sizeLine then some (q.1,.nx (ρ.set i (.ow (l++[q.2]))))else none
noncomputable def uZ(F:List PV->Option PV)(f:Den)(g:hV):dn:=λt n ρ=>(f (wQ t n ρ)).bind λa=>if flat a then(g t n ρ).bind λq=>(F [a,q.2]).map λp=>(q.1,.rt p)else none
section
variable{X:Cx}{κ:Kl}{fr:Bool}{e a:Expr}{es:List Expr}{fa:Den}{ge:hV}{pos p1 p' apos dm py lp:Pos}{x y:Str}
theorem Az(i:Nat)(hN:X.N.Nodup)(h:QE X κ false e ge)(hi:X.N[i]?=some y:=by rfl)(Ey:i≠0:=by decide)(hx:Loc X.env.scope y:=by first|exact Or.inl rfl|exact Or.inr rfl)(hs:swapsWith (.List [e] lp) (some (.Name y py)) pos.line X.env=pure false:=by rfl)
  (hf:X.fn y=true\/X.env.scope.names.lookup y=some .local:=by first|exact .inl rfl|exact .inr rfl)(ng:starEach [e] X.env=(false,eval e X.env)::starEach [] X.env:=by rfl):QS X κ fr (.Assign [.Name y py] (.List [e] lp) pos) (pV i ge):=by
 obtain⟨te,h1,h2⟩:=h
 refine⟨_,lh hN hi hx (zz (aQ h1 cc ng)) hs hf,λ{G A x dx vw t n own ρ σ H q D} r e k=>?_⟩
 obtain⟨⟨n',p⟩,e1,rfl⟩:=Option.map_eq_some_iff.mp e
 refine h2 r e1 λv H1 r1 s1 z=>⟨(show(1:Nat)<=sizeLine by decide),λb hb=>?_⟩
 obtain⟨cO,r'⟩:=r1.r.Gh (i:=i) (cC hb) (r1.r.uy hb (.cons (show Rep X.K κ (cS (A1 A x) own ρ H1) v p from z) .nil))
 exact k cO _ _ ⟨r',by rw[List.getElem?_set_ne Ey];exact r1.self,by rw[List.getElem?_set_ne Ey];exact r1.zero,r1.wsr,r1.na,r1.gx⟩
theorem GL(i:Nat)(h:QE X κ false e ge)(hN:X.N[i]?=some y:=by rfl)(Ey:i≠0:=by decide)(hv:tU X.env.scope y:=by first|exact Or.inl rfl|exact Or.inr (Or.inl rfl)|exact Or.inr (Or.inr rfl))(hd:(y==("__debug__" :Str))=false:=by decide)
  (nc:(y==("__classdict__" :Str))=false:=by decide)(iP:attributeBase (.Name y p') "append" X.env (eval (.Name y p') X.env)=eval (.Name y p') X.env:=by rfl)
  (rY:((backTo dm (starEach [e] X.env)).all (λx=>!x.1)&&(backToKw dm (keywordEach [] X.env)).all (λx=>x.1.isSome)
    &&decide ([e].length+([]:List Keyword).length+(if([]:List Keyword).isEmpty then 0 else 1)<30))=true:=by rfl)
  (hs:swapsWith (.Call (.Attribute (.Name y p') "append" apos) [e] [] dm) none pos.line X.env=pure false:=by rfl)(iQ:(apos.endLine==dm.line)=true:=by rfl)(ng:starEach [e] X.env=(false,eval e X.env)::starEach [] X.env:=by rfl):
  QS X κ fr (.Expr (.Call (.Attribute (.Name y p') "append" apos) [e] [] dm) pos) (Ay i ge):=by
 obtain⟨te,h1,h2⟩:=h
 refine⟨_,g9 (xm PySem.F.plainAttrs_list PySem.F.slot_list_append PySem.F.type_list_append qY (d0 hN hv hd nc) (aQ h1 cc ng) iP rY iQ ng rfl) hs,λ{G A x dx vw t n own ρ σ H q D} r e k=>?_⟩
 obtain⟨l,e3,e4⟩:=Option.bind_eq_some_iff.mp e
 obtain⟨⟨n',p⟩,e1,e5⟩:=Option.bind_eq_some_iff.mp e4
 obtain⟨hl,e6⟩:=mI e5
 cases e6
 have zf:=fJ e3
 obtain⟨g1,g3,vs,g4,g5⟩:=r.r.ow i (.l l) zf
 change H (own i)=some (.lst vs)at g4
 refine⟨_,g1,.inl ⟨rfl,vs,k8.of g4⟩,h2 r e1 λv H1 r1 s1 z=>?_⟩
 obtain⟨_,_,Jd,g6,g7⟩:=r1.r.ow i (.l l) zf
 change H1 (own i)=some (.lst Jd)at g6
 change aO _ _ _ Jd l at g7
 obtain⟨cO,r'⟩:=r1.r.mut zf (g7.append (.cons (show Rep X.K κ (cS (A1 A x) own ρ H1) v p from z) .nil))
 refine⟨own i,Jd,_,rfl,rfl,g6,by rw[g7.length];exact hl,k cO σ _ ⟨r',r1.self,by rw[List.getElem?_set_ne Ey];exact r1.zero,r1.wsr,r1.na,r1.gx⟩⟩
theorem Dr{F:List PV->Option PV}{k:Nat}{f:Addr}{fd:FuncData}{ps:List Str}(C:Cq X.K κ)(FO:aH X.prog X.w X.K X.mg X.base b8 k f fd ps (fE X.K κ false F))(hr:cM k X.A)(hm:X.mg x=some (.ref f))(hk:PySem.W.keepIn X.K (.ref f)=true)(hb:Binds X.K fd ps [])(ha:DE X κ a fa)(h:QE X κ true e ge)(hg:Gl X x:=by rfl)(oG:(x==("__debug__" :Str))=false:=by decide)
  (he:starEach [a,e] X.env=(false,eval a X.env)::starEach [e] X.env:=by rfl)(ng:starEach [e] X.env=(false,eval e X.env)::starEach [] X.env:=by rfl)(hpl:(backTo dm (starEach [e] X.env)).any (·.1)=false:=by rfl):QS X κ false (.Return (some (.Call (.Name x p1) [a,e] [] dm)) pos) (uZ F fa ge):=by
 obtain⟨ta,k1,k2⟩:=ha
 obtain⟨te,h1,h2⟩:=h
 refine⟨_,lg (rQ FO hr hg hm hk hb .nil gG (aQ k1 (aQ h1 cc ng) he) oG he hpl),λ{G A x dx vw t n own ρ σ H q D} r e k=>?_⟩
 obtain⟨p0,e1,e2⟩:=Option.bind_eq_some_iff.mp e
 obtain⟨Dl,e3⟩:=mI e2
 obtain⟨⟨n',p2⟩,e4,e5⟩:=Option.bind_eq_some_iff.mp e3
 obtain⟨p,e6,rfl⟩:=Option.map_eq_some_iff.mp e5
 refine k2 (r.rd C.fld) e1 λv0 H0 s0 z0=>h2 (r.mono s0) e4 λv H1 r1 s1 z=>?_
 have zr:Rep X.K κ (cS (A1 A x) own ρ H1) v p2:=by
  obtain⟨b,vs,l,w1,w2,w3,w4,w5⟩:=(show OR X.K κ (cD (A1 A x) own ρ) H0 H1 v p2 from z)
  subst w1 w2
  refine .lst (SL.of ?_) (w5.mono (cR (λ_ _ q=>q) λc q _=>.inl q))
  rw[cS,bK λq=>(r.mono s0).r.B8 q w3]
  exact w4
 refine⟨cD (A1 A x) own ρ,[p0,p2],p,λb hb=>r1.r.B8 hb,.cons (Rep.flat Dl z0) (.cons zr .nil),e6,λv' H2 s2 z2=>?_⟩
 have r2:=r1.mono s2
 exact k v' H2 r2.frame r2.ob (z2.mono (cR (λ_ _ q=>q) λb q _=>.inl q))
end
section
variable{K:PySem.W.Frag}{κ:Kl}{G H H':Hp}{A:Addr->Prop}{x:Addr}{own:Nat->Addr}{ρ:c8}{σ:St}{o o':HO}
theorem pW(s:aE (hide (l8 x) H) (hide (l8 x) H')):aE (cS (A1 A x) own ρ H) (cS (A1 A x) own ρ H'):=λb u h=>by
 obtain⟨nb,hb⟩:=cb h
 rw[cS,bK nb]
 exact fK s (λz=>nb (.inl (.inr z))) hb
theorem R.Js(r:R K κ (upd G x o) (A1 A x) (λ_=>none) own ρ σ H)(s:aE (hide (l8 x) H) (hide (l8 x) H'))(e:H' x=some o'):R K κ (upd G x o') (A1 A x) (λ_=>none) own ρ σ H':=by
 refine⟨λb h=>?_,λi a vs e=>(by cases e),λb u h=>?_,λi p h=>?_,λi l h=>?_,r.inj,λi l h=>?_,r.len⟩
 ·intro z
  obtain⟨ne,z⟩:=pS z
  have:=r.al b h
  rw[aF ne]at this
  exact this z
 ·by_cases ne:b=x
  ·subst ne
   rw[aM]at h
   cases h
   exact e
  ·rw[aF ne]at h
   exact fK s ne (r.same b u (by rw[aF ne];exact h))
 ·obtain⟨v,h1,h2⟩:=r.sh i p h
  exact⟨v,h1,h2.mono (pW s)⟩
 ·obtain⟨h1,h2,vs,h3,h4⟩:=r.ow i l h
  obtain⟨ne,h2⟩:=pS h2
  exact⟨h1,by rw[aF ne];exact h2,vs,fK s ne h3,h4.mono (pW s)⟩
 ·obtain⟨a,vs,z,_⟩:=r.bw i l h
  cases z
theorem AA(h:H x=some o):upd H x o=H:=by
 funext b
 by_cases e:b=x
 ·subst e
  rw[aM,h]
 ·rw[aF e]
theorem R.GN{N:List Str}{k:Nat}{ws:List V}{ps:List PV}(hk:ps.length+1=k)(al:∀b,A b->H b≠none)(ob:H x=some o)(h:aO K κ (hide (A1 A x) H) ws ps):
  R K κ (upd H x o) (A1 A x) (λ_=>none) (λ_=>0) (.un::(ps.map Slot.sh++List.replicate (N.length-k) .un)) (start N (.ref x::ws)) H/\cS (A1 A x) (λ_=>0) (.un::(ps.map Slot.sh++List.replicate (N.length-k) .un))=hide (A1 A x):=by
 have hl:=h.length
 have slot:∀{i:Nat} {s:Slot},(.un::(ps.map Slot.sh++List.replicate (N.length-k) .un):c8)[i]?=some s->s=.un\/∃p j,s=.sh p/\i=j+1/\ps[j]?=some p:=λ{i s} e=>by
  cases i with
  |zero=>cases e;exact .inl rfl
  |succ i=>
   rw[List.getElem?_cons_succ,List.getElem?_append]at e
   split at e
   ·rw[List.getElem?_map]at e
    obtain⟨q,e1,e2⟩:=Option.map_eq_some_iff.mp e
    exact .inr ⟨q,i,e2.symm,rfl,e1⟩
   ·rw[List.getElem?_replicate]at e
    split at e
    ·cases e;exact .inl rfl
    ·cases e
 have qA:∀{i:Nat} {l:Cn},(.un::(ps.map Slot.sh++List.replicate (N.length-k) .un):c8)[i]?≠some (.own l):=λ{i l} e=>by
  rcases slot e with z|⟨_,_,z,_⟩<;>cases z
 have hh:cS (A1 A x) (λ_=>0) (.un::(ps.map Slot.sh++List.replicate (N.length-k) .un))=hide (A1 A x):=by
  funext H
  unfold cS
  congr 1
  funext b
  refine propext ⟨λz=>z.elim id λ⟨j,m,z,_⟩=>absurd z qA,λz=>.inl z⟩
 refine⟨⟨λb hb=>?_,λi a vs e=>(by cases e),by rw[AA ob];exact λ_ _ z=>z,λi p e=>?_,λi l e=>absurd e qA,λi j l m e=>absurd e qA,λi l e=>?_,?_⟩,hh⟩
 ·rw[AA ob]
  rcases hb with hb|hb
  ·exact al b hb
  ·rw[hb,ob]
   exact λz=>by cases z
 ·rcases slot e with z|⟨q,j,z,rfl,e1⟩
  ·cases z
  ·cases z
   obtain⟨v,h1,h2⟩:=h.get e1
   refine⟨v,?_,by rw[hh];exact h2⟩
   unfold start
   rw[List.map_cons,List.cons_append,List.getElem?_cons_succ,List.getElem?_append_left (by rw[List.length_map];exact(List.getElem?_eq_some_iff.mp h1).1),List.getElem?_map,h1]
   rfl
 ·rcases slot e with z|⟨_,_,z,_⟩<;>cases z
 ·unfold start
  simp only[List.length_append,List.length_map,List.length_cons,List.length_replicate,hl]
  rw[hk]
  omega
end
noncomputable def rn(n k:Nat)(f1 f2:Den)(ps:List PV):Option Rg:=if ps.length+1=k then(f1 (.un::(ps.map Slot.sh++List.replicate (n-k) .un))).bind λa=>(f2 (.un::(ps.map Slot.sh++List.replicate (n-k) .un))).bind λb=>match a,b with
 |.lst ws,.str s=>some ⟨ws,s⟩
 |_,_=>none
 else none
noncomputable def Ds(K:PySem.W.Frag)(κ:Kl)(F:List PV->Option Rg):Sp:=λvs H Q _=>∃(A:Addr->Prop) (x dx:Addr) (ws:List V) (ps:List PV) (t:Rg),vs=.ref x::ws/\(∀b,A b->H b≠none)/\¬A x/\H x=some (.ins (κ.adr 4) dx [])/\aO K κ (hide (A1 A x) H) ws ps/\F ps=some t/\
 ∀vw H',aE (hide (l8 x) H) (hide (l8 x) H')->H' x=some (qo κ dx vw t 0)->Rep K κ (hide (A1 A x) H') vw (.lst t.ws)->Q .non H'
structure M7(K:PySem.W.Frag)(κ:Kl):Prop where
 n1:df K (κ.adr 4) "words"
 n2:df K (κ.adr 4) "signs"
noncomputable def Ot(K:PySem.W.Frag)(κ:Kl)(ts:TS)(f1 f2:Den):Prop:=∀{A x dx own ρ σ H l0 s0 D},R K κ (upd H x (.ins (κ.adr 4) dx [])) (A1 A x) (λ_=>none) own ρ σ H->cS (A1 A x) own ρ=hide (A1 A x)->σ[0]?=some (some (.ref x))->H x=some (.ins (κ.adr 4) dx [])->f1 ρ=some (.lst l0)->f2 ρ=some (.str s0)->
 (∀v σ' H',aE (hide (l8 x) H) (hide (l8 x) H')->H' x=some (qo κ dx v ⟨l0,s0⟩ 0)->Rep K κ (hide (A1 A x) H') v (.lst l0)->D.nx σ' H')->ts D σ H
noncomputable def QI(X:Cx)(κ:Kl)(Ou:List Stmt)(f1 f2:Den):Prop:=∃ts,vC X Ou ts/\Ot X.K κ ts f1 f2
theorem Jt{X:Cx}{κ:Kl}{f1 f2:Den}{e1 e2:Expr}{a1 a2 a4 b1 b2 b4 c1 c2 c4 c5:Pos}{j:Nat}(C:Cq X.K κ)(C2:M7 X.K κ)(d1:DE X κ e1 f1)(d2:DE X κ e2 f2)(h0:X.N[0]?=some ("self" :Str):=by rfl)(hv:tU X.env.scope "self" :=by first|exact Or.inl rfl|exact Or.inr (Or.inl rfl)|exact Or.inr (Or.inr rfl))
  (w1:swapsWith e1 (some (.Attribute (.Name "self" a1) "words" a2)) a4.line X.env=pure false:=by rfl)(w2:swapsWith e2 (some (.Attribute (.Name "self" b1) "signs" b2)) b4.line X.env=pure false:=by rfl)(w3:swapsWith (.Constant (.int 0) j c5) (some (.Attribute (.Name "self" c1) "at" c2)) c4.line X.env=pure false:=by rfl):
  QI X κ [.Assign [.Attribute (.Name "self" a1) "words" a2] e1 a4,.Assign [.Attribute (.Name "self" b1) "signs" b2] e2 b4,.Assign [.Attribute (.Name "self" c1) "at" c2] (.Constant (.int 0) j c5) c4] f1 f2:=by
 obtain⟨t1,p1,q1⟩:=d1
 obtain⟨t2,p2,q2⟩:=d2
 refine⟨_,fU (nr (d0 h0 hv) p1 w1) (fU (nr (d0 h0 hv) p2 w2) (gj (nr (d0 h0 hv) vF w3))),?_⟩
 intro A x dx own ρ σ H l0 s0 D r hh self ob e3 e4 q
 refine q1 r e3 λv1 H1 s1 z1=>?_
 have r1:=r.mono s1
 have y1:Rep X.K κ (hide (A1 A x) H1) v1 (.lst l0):=by
  have:=z1
  rwa[hh]at this
 refine⟨_,self,x,_,dx,_,rfl,s1 _ _ ob,C.cls,C2.n1,(show(0:Nat)<1000 by decide),?_⟩
 have u1:∀{Hn:Hp} {on:HO},aE (hide (l8 x) Hn) (hide (l8 x) (upd Hn x on)):=λ{Hn on}=>by
  rw[mv (show l8 x x from rfl)]
  exact λ_ _ z=>z
 have r2:=r1.Js (o':=.ins (κ.adr 4) dx [(("words" :Str),v1)]) u1 aM
 refine q2 r2 e4 λv2 H2 s2 z2=>?_
 cases z2
 have r3:=r2.mono s2
 have y2:=(y1.mono (hh▸pW (own:=own) (ρ:=ρ) (u1 (on:=.ins (κ.adr 4) dx [(("words" :Str),v1)])))).mono (bu s2)
 refine⟨_,self,x,_,dx,_,rfl,s2 _ _ aM,C.cls,C2.n2,(show(1:Nat)<1000 by decide),?_⟩
 refine⟨_,self,x,_,dx,_,rfl,aM,C.cls,C.n3,(show(2:Nat)<1000 by decide),?_⟩
 have sA:aE (hide (l8 x) H) (hide (l8 x) H1):=bu s1
 have sB:aE (hide (l8 x) H1) (hide (l8 x) H2):=u1.trans (bu s2)
 refine q v1 σ _ ((sA.trans sB).trans (u1.trans u1)) aM (y2.mono λb o hb=>?_)
 obtain⟨nb,hb⟩:=cb hb
 have ne:b≠x:=λz=>nb (.inr z)
 rw[bK nb,aF ne,aF ne]
 exact hb
section
variable{P:Program}{w:World}{K:PySem.W.Frag}{mg:Str->Option Value}{base:Heap}{κ:Kl}
theorem yM{x qual:Str}{st:Stmt}{f:Addr}{fd:FuncData}{N ps:List Str}{k:Nat}{f1 f2:Den}(F:nW K x qual st f fd)(S:aJ N ps (aj st))
  (hb:∀(dO:Value) (A:Around) (outer:List Env) (s:Shared) (H:Hp) (E:XK),cM k (A.deeper (envOfC qual (aj st) s.heap.objs.size f dO))->QI (rR b8 P w K mg base N qual (aj st) f dO A outer s H E).zj κ (fN st) f1 f2):
  aH P w K mg base b8 (k+1) f fd ps (Ds K κ (rn N.length ps.length f1 f2)):=by
 refine F.ok S (λvs H Q E h=>?_) (λdO A outer s H vs Q E hr h=>?_)
 ·obtain⟨A',x,dx,ws,qs,t,rfl,_,_,_,h1,h2,_⟩:=h
  unfold rn at h2
  obtain⟨hk,_⟩:=mI h2
  rw[List.length_cons,h1.length]
  exact hk
 ·obtain⟨A',x,dx,ws,qs,t,rfl,al,na,ob,h1,h2,q⟩:=h
  obtain⟨ts,a1,a2⟩:=hb dO A outer s H E hr
  refine⟨ts,a1,?_⟩
  unfold rn at h2
  obtain⟨hk,h3⟩:=mI h2
  obtain⟨pa,e3,h4⟩:=Option.bind_eq_some_iff.mp h3
  obtain⟨pb,e4,h5⟩:=Option.bind_eq_some_iff.mp h4
  cases pa<;>first|(cases h5;done)|skip
  cases pb<;>first|(cases h5;done)|skip
  rename_i l0 s0
  cases h5
  obtain⟨r,hh⟩:=R.GN (N:=N) hk al ob h1
  exact a2 r hh rfl ob e3 e4 λv σ' H' s' o' z=>q v H' s' o' z
end
noncomputable def AB(i j:Nat)(FI:List PV->Option Rg)(FT FE:FQ)(as:dg):aU:=λρ=>if i<ρ.length/\j<ρ.length then(as ρ).bind λps=>(FI ps).bind λt=>(FT t 0 []).bind λq=>(FE t q.1 []).map λ_=>.rt q.2 else none
section
variable{X:Cx}{κ:Kl}{a b:Expr}{fs:dg}{x y z m1 m2:Str}{p pos p1 py pz q1 q2 q3 q4 q5 q6 q7 q8 q9 q0:Pos}
theorem AD{FI:List PV->Option Rg}{FT FE:FQ}{k1 k2 k3:Nat}{f1 f2 f3:Addr}{M8 M9 Na:FuncData}{Nb Nc Nd:List Str}{Nf Ng:Sem Bool}(C:Cq X.K κ)(i j:Nat)(hN:X.N.Nodup)
  (M:Mk X.K (κ.adr 4) f1)(Ov:aH X.prog X.w X.K X.mg X.base b8 k1 f1 M8 Nb (Ds X.K κ FI))(Ow:cM (k1+1) X.A)(L6:X.mg x=some (.ref (κ.adr 4)))(Ox:Binds X.K M8 Nb [])
  (uH:Meth X.K (κ.adr 4) m1 f2)(Oy:aH X.prog X.w X.K X.mg X.base b8 k2 f2 M9 Nc (qJ X.K κ false FT))(Oz:cM k2 X.A)(OA:Binds X.K M9 Nc [])
  (OB:Meth X.K (κ.adr 4) m2 f3)(OC:aH X.prog X.w X.K X.mg X.base b8 k3 f3 Na Nd (qJ X.K κ false FE))(OD:cM k3 X.A)(OE:Binds X.K Na Nd [])(ha:DA X κ [a,b] fs)
  (hi:X.N[i]?=some y:=by rfl)(hj:X.N[j]?=some z:=by rfl)(OF:i≠j:=by decide)(hx:Loc X.env.scope y:=by first|exact Or.inl rfl|exact Or.inr rfl)(OG:Loc X.env.scope z:=by first|exact Or.inl rfl|exact Or.inr rfl)
  (hv:tU X.env.scope y:=by first|exact Or.inl rfl|exact Or.inr (Or.inl rfl)|exact Or.inr (Or.inr rfl))(OH:tU X.env.scope z:=by first|exact Or.inl rfl|exact Or.inr (Or.inl rfl)|exact Or.inr (Or.inr rfl))(hd:(y==("__debug__" :Str))=false:=by decide)(nc:(y==("__classdict__" :Str))=false:=by decide)(OI:(z==("__debug__" :Str))=false:=by decide)(OJ:(z==("__classdict__" :Str))=false:=by decide)
  (hf:X.fn y=true\/X.env.scope.names.lookup y=some .local:=by first|exact .inl rfl|exact .inr rfl)(OK:X.fn z=true\/X.env.scope.names.lookup z=some .local:=by first|exact .inl rfl|exact .inr rfl)
  (hg:Gl X x:=by rfl)(oG:(x==("__debug__" :Str))=false:=by decide)
  (he:starEach [a,b] X.env=(false,eval a X.env)::starEach [b] X.env:=by rfl)(hpl:(backTo pos (starEach [b] X.env)).any (·.1)=false:=by rfl)
  (Kt:swapsWith (.Call (.Name x p) [a,b] [] pos) (some (.Name y py)) p1.line X.env=pure false:=by rfl)
  (HI:∀u1 u2 u3:V,List.lookup m1 [(("words" :Str),u1),(("signs" :Str),u2),(("at" :Str),u3)]=none:=by intros;rfl)(Hy:∀u1 u2 u3:V,List.lookup m2 [(("words" :Str),u1),(("signs" :Str),u2),(("at" :Str),u3)]=none:=by intros;rfl)
  (OL:eval (.Call (.Attribute (.Name y q1) m1 q2) [] [] q3) X.env=(do
    let ov<-eval (.Name y q1) X.env
    standAt q2.atName
    let(f,first)<-holding [ov] (getMethod ov m1 Nf)
    callWith q3 f first (backTo q3 (starEach [] X.env)) (backToKw q3 (keywordEach [] X.env))):=by rfl)
  (OM:eval (.Call (.Attribute (.Name y q5) m2 q6) [] [] q7) X.env=(do
    let ov<-eval (.Name y q5) X.env
    standAt q6.atName
    let(f,first)<-holding [ov] (getMethod ov m2 Ng)
    callWith q7 f first (backTo q7 (starEach [] X.env)) (backToKw q7 (keywordEach [] X.env))):=by rfl)
  (nk:swapsWith (.Call (.Attribute (.Name y q1) m1 q2) [] [] q3) (some (.Name z pz)) q4.line X.env=pure false:=by rfl)
  (ON:swapsWith (.Call (.Attribute (.Name y q5) m2 q6) [] [] q7) none q8.line X.env=pure false:=by rfl):
  zg X κ false [.Assign [.Name y py] (.Call (.Name x p) [a,b] [] pos) p1,.Assign [.Name z pz] (.Call (.Attribute (.Name y q1) m1 q2) [] [] q3) q4,.Expr (.Call (.Attribute (.Name y q5) m2 q6) [] [] q7) q8,.Return (some (.Name z q0)) q9] (AB i j FI FT FE fs):=by
 obtain⟨ta,h1,h2⟩:=ha
 refine⟨_,fU (lh hN hi hx (ml M Ov Ow hg L6 Ox .nil gG h1 oG he hpl) Kt hf) (fU (lh hN hj OG (pA (pl:=Nf) (d0 hi hv hd nc) C.cls uH Oy Oz OA .nil gG OL) nk OK) (fU (g9 (pA (pl:=Ng) (d0 hi hv hd nc) C.cls OB OC OD OE .nil gG OM) ON) (gj (lg (d0 hj OH OI OJ))))),λ{G A bo own ρ σ H fl D} r e' q=>?_⟩
 obtain⟨⟨li,lj⟩,e'⟩:=mI e'
 obtain⟨qs,e1,e2⟩:=Option.bind_eq_some_iff.mp e'
 obtain⟨t,e3,e4⟩:=Option.bind_eq_some_iff.mp e2
 obtain⟨⟨n1,pr⟩,e5,e6⟩:=Option.bind_eq_some_iff.mp e4
 obtain⟨⟨n2,pe⟩,e7,rfl⟩:=Option.map_eq_some_iff.mp e6
 refine h2 r e1 λvs H1 s1 z1=>?_
 intro x dx HM OO MX
 have r1:=r.mono s1
 rw[List.append_nil]
 generalize HC:upd (upd H1 dx (.own x)) x (.ins (κ.adr 4) dx [])=H2
 have g1:H2 x=some (.ins (κ.adr 4) dx []):=by rw[<-HC];exact aM
 have g2:∀b o,H1 b=some o->b≠x/\H2 b=some o:=λb o q=>by
  have n1:b≠x:=bF q HM
  rw[<-HC,aF n1,aF (bF q OO)]
  exact⟨n1,q⟩
 have g3:∀b,H2 b=none->H1 b=none:=λb q=>by
  cases z:H1 b with
  |none=>rfl
  |some o=>rw[(g2 b o z).2]at q;cases q
 have nx:¬cD A own ρ x:=λz=>r1.B8 z HM
 refine⟨cD A own ρ,x,dx,vs,qs,t,rfl,λb hb z=>r1.B8 hb (g3 b z),nx,g1,z1.mono λb o w=>?_,e3,λvw H3 s3 o3 w3=>⟨rfl,?_⟩⟩
 ·obtain⟨w1,w2⟩:=cb w
  obtain⟨w3,w4⟩:=g2 b o w2
  rw[bK λz=>z.elim w1 w3]
  exact w4
 ·have Nh:∀b,cD A own ρ b->H3 b≠none:=λb hb z=>by
    cases z1:H1 b with
    |none=>exact r1.B8 hb z1
    |some o=>
     obtain⟨w1,w2⟩:=g2 b o z1
     rw[fK s3 w1 w2]at z
     cases z
  have si:(σ.set i (some (.ref x)))[i]?=some (some (.ref x)):=by rw[List.getElem?_set,if_pos rfl,if_pos (by rw[r.len];exact li)]
  refine⟨.ref x,si,x,dx,_,rfl,o3,HI _ _ _,?_⟩
  refine⟨cD A own ρ,x,dx,vw,t,0,n1,[],[],pr,rfl,Nh,nx,o3,w3,.nil,e5,λv H4 s4 o4 w4=>?_⟩
  have OP:∀b,cD A own ρ b->H4 b≠none:=λb hb z=>by
   cases z3:H3 b with
   |none=>exact Nh b hb z3
   |some o=>
    have ne:b≠x:=λq=>nx (q▸hb)
    rw[fK s4 ne z3]at z
    cases z
  have OQ:((σ.set i (some (.ref x))).set j (some v))[i]?=some (some (.ref x)):=by rw[List.getElem?_set_ne (Ne.symm OF)];exact si
  have sj:((σ.set i (some (.ref x))).set j (some v))[j]?=some (some v):=by rw[List.getElem?_set,if_pos rfl,if_pos (by rw[List.length_set,r.len];exact lj)]
  refine⟨.ref x,OQ,x,dx,_,rfl,o4,Hy _ _ _,?_⟩
  have w5:Rep X.K κ (hide (A1 (cD A own ρ) x) H4) vw (.lst t.ws):=w3.mono λb o hb=>by
   obtain⟨nb,hb⟩:=cb hb
   rw[bK nb]
   exact fK s4 (λz=>nb (.inr z)) hb
  refine⟨cD A own ρ,x,dx,vw,t,n1,n2,[],[],pe,rfl,OP,nx,o4,w5,.nil,e7,λv5 H5 s5 o5 w6=>?_⟩
  refine⟨_,sj,q v H5 (λb o hb=>?_) ?_⟩
  ·obtain⟨y1,y2⟩:=g2 b o (r1.same b o hb)
   exact fK s5 y1 (fK s4 y1 (fK s3 y1 y2))
  ·show Rep X.K κ (hide A H5) v pr
   refine(show Rep X.K κ (hide (A1 (cD A own ρ) x) H4) v pr from w4).mono λb o hb=>?_
   obtain⟨nb,hb⟩:=cb hb
   rw[bK λz=>nb (.inl (.inl z))]
   exact fK s5 (λz=>nb (.inr z)) hb
end
end L2.D
namespace L2.D
open PySem PySem.Spec PyProof.Rows PySem.SeqAt
structure jC(K:PySem.W.Frag)(mg:Str->Option Value)(κ:Kl)(CR CC fH fA fY fS fC:Addr):Prop where
 fld:κ.fld=jD
 cls:∀c,c<4->qD K (κ.adr c)
 nn:df K (κ.adr 0) "name"
 nw:∀c,0<c->c<4->df K (κ.adr c) "wanted"
 np:∀c,0<c->c<4->df K (κ.adr c) "parts"
 kH:Mk K (κ.adr 0) fH
 kA:Mk K (κ.adr 1) fA
 kY:Mk K (κ.adr 2) fY
 kS:Mk K (κ.adr 3) fS
 gH:mg "Hand" =some (.ref (κ.adr 0))
 gA:mg "All" =some (.ref (κ.adr 1))
 gY:mg "Any" =some (.ref (κ.adr 2))
 gS:mg "Some" =some (.ref (κ.adr 3))
 cf:Ew K CC "__init__" fC
 gC:mg "Counting" =some (.ref CC)
 isR:∀c,c<4->GD K (κ.adr c) CR
 gR:mg "Rule" =some (.ref CR)
 rc:qD K (κ.adr 4)
 r1:df K (κ.adr 4) "words"
 r2:df K (κ.adr 4) "signs"
 r3:df K (κ.adr 4) "at"
section
variable{K:PySem.W.Frag}{mg:Str->Option Value}{κ:Kl}{CR CC fH fA fY fS fC:Addr}
theorem yN{c:Nat}{f:Str}(h:f∈jD c):(c=4/\(f= "words" \/f= "signs" \/f= "at"))\/f∈HE c:=by
 unfold jD at h
 split at h
 ·exact .inl ⟨by assumption,by simpa using h⟩
 ·exact .inr h
theorem jC.gN(C:jC K mg κ CR CC fH fA fY fS fC)(f:Str):Ag K κ f:=λc h=>by
 rw[C.fld]at h
 rcases yN h with⟨rfl,rfl|rfl|rfl⟩|h
 ·exact⟨C.rc,C.r1⟩
 ·exact⟨C.rc,C.r2⟩
 ·exact⟨C.rc,C.r3⟩
 ·rcases Am h with⟨rfl,rfl⟩|⟨h1,h2,rfl|rfl⟩
  ·exact⟨C.cls 0 (by decide),C.nn⟩
  ·exact⟨C.cls c h2,C.nw c h1 h2⟩
  ·exact⟨C.cls c h2,C.np c h1 h2⟩
theorem jC.q(C:jC K mg κ CR CC fH fA fY fS fC):Cq K κ:=⟨by rw[C.fld];rfl,C.rc,C.r3⟩
theorem jC.q2(C:jC K mg κ CR CC fH fA fY fS fC):M7 K κ:=⟨C.r1,C.r2⟩
end
theorem dv{X:Cx}{κ:Kl}{pos:Pos}{a:Expr}{fa:Den}{f:Str}(hκ:κ.fld=jD)(hf:Ag X.K κ f)(ha:DB X κ a fa)(hb:attributeBase a f X.env (eval a X.env)=eval a X.env:=by rfl):DE X κ (.Attribute a f pos) (a8 (gk jD f) fa):=by
 rw[<-hκ]
 exact Gv ha hf hb
noncomputable def nX(F:List PV->Option PV):Nat->List PV->Option PV:=λc=>if c=4 then F else λ_=>none
theorem nY{P:Program}{w:World}{K:PySem.W.Frag}{mg:Str->Option Value}{base:Heap}{κ:Kl}{fr:Bool}{m:Str}{k:Nat}{ps:List Str}{f:Addr}{fd:FuncData}{F:List PV->Option PV}(hc:qD K (κ.adr 4))(hf:κ.fld=jD)(hm:Meth K (κ.adr 4) m f)(FO:aH P w K mg base b8 k f fd ps (fE K κ fr F))(hb:Binds K fd ps [])(hn:m∉jD 4:=by decide):cE P w K mg base κ fr m k ps (nX F):=λc xs p e=>by
 unfold nX at e
 split at e
 ·rename_i h
  subst h
  exact⟨f,fd,hc,hm,by rw[hf];exact hn,by unfold nX;rw[if_pos rfl];exact FO,hb⟩
 ·cases e
noncomputable def xP:PV->PV->Option PV
 |.int i,.int j=>some (.int (i+j))
 |_,_=>none
section
variable{X:Cx}{κ:Kl}{fr:Bool}{pos:Pos}{a e:Expr}{fa f:Den}
theorem u0(i:Nat){x:Str}{p':Pos}(hN:X.N.Nodup)(he:DB X κ e f)(hi:X.N[i]?=some x:=by rfl)(hx:Loc X.env.scope x:=by first|exact Or.inl rfl|exact Or.inr rfl)
  (hf:X.fn x=true\/X.env.scope.names.lookup x=some .local:=by first|exact .inl rfl|exact .inr rfl):DS X κ fr (.AugAssign (.Name x p') .Add e pos) (cN i (af xP (dV i) f)):=by
 obtain⟨te,h1,h2⟩:=he
 refine⟨_,Fo hN hi hx h1 Co hf,λ{G A bo own ρ σ H fl D} r e k=>?_⟩
 obtain⟨p,e1,rfl⟩:=Option.map_eq_some_iff.mp e
 obtain⟨p1,e2,e3⟩:=Option.bind_eq_some_iff.mp e1
 obtain⟨p2,e4,e5⟩:=Option.bind_eq_some_iff.mp e3
 unfold dV at e2
 obtain⟨s,e6,e7⟩:=Option.bind_eq_some_iff.mp e2
 cases p1<;>first|(cases e5;done)|skip
 cases p2<;>first|(cases e5;done)|skip
 cases e5
 cases s with
 |un=>cases e7
 |own l=>cases l<;>cases e7
 |bw l=>cases e7
 |sh p'=>
  cases e7
  obtain⟨v,h3,h4⟩:=r.sh i _ e6
  cases h4
  refine⟨_,h3,h2 r e4 λv2 H1 s1 z1=>?_⟩
  exact⟨_,_,rfl,z1.int,k _ _ _ ((r.mono s1).set (.int _))⟩
end
end L2.D
namespace L2.D
theorem L7{n:Nat}(h:n<=100000):um (n:Int)=true:=by
 unfold um
 simp
 omega
end L2.D
namespace L2.D
open PySem
theorem ro:∀xs:List Int,pH (xs.map PV.int)=some xs
 |[]=>rfl
 |x::xs=>by
  rw[List.map_cons]
  unfold pH
  rw[ro xs]
  rfl
noncomputable abbrev pX(l:List Nat):PV:=.lst (l.map λ(n:Nat)=>PV.int (n:Int))
theorem sy(g:qx)(body:aU)(x:PV)(xs:List PV)(ρ:c8):forL g body (x::xs) ρ=(g x ρ).bind λρ1=>(body ρ1).bind λf=>match f with
 |.nx ρ'=>forL g body xs ρ'
 |.ct ρ'=>forL g body xs ρ'
 |.bk ρ'=>some (.nx ρ')
 |.rt p=>some (.rt p):=rfl
end L2.D
namespace L2.D.Sh
open PySem
noncomputable def ip:aU:=(aX (iV (tV (af B7 (dV 1) (a8 dY (dV 0)))) (bV (af kj (dV 0) (dV 1))) cB) (bV (dC (.int 0))))
noncomputable def gn(aS:List PV->Option PV):aU:=(iV (mi (tV (cj aS (ae (af kj (dV 0) (dV 2)) (ae (af kj (dV 1) (dV 2)) aK))))) (bV (dC (.bl false))) cB)
noncomputable def lz(aS:List PV->Option PV):aU:=(aX (iV (tX (tV (a8 (kl 4) (dV 1))) (tV (a8 (kl 3) (dV 1)))) (aX (iV (tX (tV (af kz (a8 (kl 4) (dV 0)) (a8 (kl 4) (dV 1)))) (tV (af kz (a8 (kl 3) (dV 0)) (a8 (kl 3) (dV 1))))) (bV (dC (.bl false))) cB) (aX (iV (tV (af kz (a8 dY (dV 0)) (a8 dY (dV 1)))) (bV (dC (.bl false))) cB) (aX (pG (kG (a8 dY (dV 1))) (bW 2) (gn aS)) (bV (dC (.bl true)))))) cB) (aX (iV (tV (a8 (kl 1) (dV 1))) (bV (iR (a8 (kl 1) (dV 0)) (af nh (dV 0) (dV 1)))) cB) (aX (iV (tV (a8 (kl 0) (dV 1))) (bV (iR (a8 (kl 0) (dV 0)) (iR (zM (a8 (kl 1) (dV 0))) (af nh (dV 0) (dV 1))))) cB) (aX (iV (tV (a8 (kl 2) (dV 1))) (bV (iR (a8 (kl 2) (dV 0)) (af nh (dV 0) (dV 1)))) cB) (bV (iR (a8 ui (dV 1)) (a8 ui (dV 0))))))))
end L2.D.Sh
namespace L2.D
open PySem
noncomputable abbrev OS:=fn false 2 2 Sh.ip
theorem AE{it:dg}{c:dX}{e:Den}{ρ:c8}{xs zs:List PV}(h1:it ρ=some xs)(h2:xs.length<=sizeLine)(h3:kI c e ρ xs=some zs):dP it c e ρ=some (.lst zs):=by
 unfold dP
 rw[h1]
 show(if xs.length<=sizeLine then _ else none)=_
 rw[if_pos h2,h3]
 rfl
theorem kr{it:dg}{g:qx}{body:aU}{ρ:c8}{xs:List PV}(h:it ρ=some xs):pG it g body ρ=forL g body xs ρ:=by
 unfold pG
 rw[h]
 rfl
theorem u4{a:Den}{ρ:c8}{l:List PV}(h:a ρ=some (.lst l)):nList a ρ=some l:=by
 unfold nList
 rw[h]
 rfl
theorem az{a b:aU}{ρ ρ':c8}(h:a ρ=some (.nx ρ')):aX a b ρ=b ρ':=by
 unfold aX
 rw[h]
 rfl
theorem ku{a b:aU}{ρ:c8}{p:PV}(h:a ρ=some (.rt p)):aX a b ρ=some (.rt p):=by
 unfold aX
 rw[h]
 rfl
theorem ia{t:dX}{a b:aU}{ρ:c8}(h:t ρ=some true):iV t a b ρ=a ρ:=by
 unfold iV
 rw[h]
 rfl
theorem eL{t:dX}{a b:aU}{ρ:c8}(h:t ρ=some false):iV t a b ρ=b ρ:=by
 unfold iV
 rw[h]
 rfl
theorem aW{i:Nat}{a:Den}{ρ:c8}{p:PV}(h:a ρ=some p):cN i a ρ=some (.nx (ρ.set i (.sh p))):=by
 unfold cN
 rw[h]
 rfl
theorem jP{i:Nat}{a:Den}{ρ:c8}{l:List PV}(h:a ρ=some (.lst l)):mq i a ρ=some (.nx (ρ.set i (.ow l))):=by
 unfold mq
 rw[h]
 rfl
theorem fj{a:Den}{ρ:c8}{p:PV}(h:a ρ=some p):bV a ρ=some (.rt p):=by
 unfold bV
 rw[h]
 rfl
theorem bO{F:List PV->Option PV}{as:dg}{ρ:c8}{ps:List PV}(h:as ρ=some ps):cj F as ρ=F ps:=by
 unfold cj
 rw[h]
 rfl
theorem bN{a:Den}{ρ:c8}{b:Bool}(h:a ρ=some (.bl b)):tV a ρ=some b:=by
 unfold tV
 rw[h]
 rfl
theorem i7{t:dX}{ρ:c8}{b:Bool}(h:t ρ=some b):mi t ρ=some (!b):=by
 unfold mi
 rw[h]
 rfl
theorem jA{a b:dX}{ρ:c8}(h:a ρ=some false):tX a b ρ=b ρ:=by
 unfold tX
 rw[h]
 rfl
theorem xQ{a b:dX}{ρ:c8}(h:a ρ=some true):tX a b ρ=some true:=by
 unfold tX
 rw[h]
 rfl
theorem ah{g:PV->PV->Option PV}{a b:Den}{ρ:c8}{x y:PV}(h1:a ρ=some x)(h2:b ρ=some y):af g a b ρ=g x y:=by
 unfold af
 rw[h1]
 show(b ρ).bind _=_
 rw[h2]
 rfl
theorem bX{g:PV->Option PV}{a:Den}{ρ:c8}{x:PV}(h1:a ρ=some x):a8 g a ρ=g x:=by
 unfold a8
 rw[h1]
 rfl
theorem AF{a:Den}{ρ:c8}{j:Int}(h1:a ρ=some (.int j))(h2:um j=true):kG a ρ=some (i3 0 j.toNat):=by
 unfold kG
 rw[h1]
 simp only[Option.bind_some,Kj]
 rw[if_pos h2]
theorem Dt(i j:Int):nh (.int i) (.int j)=some (.bl (decide (i=j))):=rfl
theorem Du(i j:Int):kz (.int i) (.int j)=some (.bl (!decide (i=j))):=rfl
theorem fV{fr:Bool}{n k:Nat}{body:aU}{ps:List PV}{p:PV}(h:ps.length=k)(e:body (ij n ps)=some (.rt p)):fn fr n k body ps=some p:=by
 unfold fn
 rw[if_pos h,e]
 rfl
theorem sC(ns:List Int)(k:Nat):OS [.lst (ns.map PV.int),.int k]=some (.int (ns.getD k 0)):=by
 have t:tV (af B7 (dV 1) (a8 dY (dV 0))) [.sh (.lst (ns.map PV.int)),.sh (.int k)]=some (decide (k<ns.length)):=by
  refine bN ((ah (x:=.int k) (y:=.int ((ns.map PV.int).length:Nat)) rfl rfl).trans ?_)
  show some (PV.bl (decide ((k:Int)<(((ns.map PV.int).length:Nat):Int))))=_
  rw[List.length_map]
  congr 2
  rw[decide_eq_decide]
  omega
 by_cases h:k<ns.length
 ·rw[decide_eq_true h]at t
  have e:itemAt (ns.map PV.int) (k:Int)=some (.int (ns.getD k 0)):=by simp[itemAt,HD,h]
  exact fV rfl (ku ((ia t).trans (fj ((ah (x:=.lst (ns.map PV.int)) (y:=.int k) rfl rfl).trans e))))
 ·rw[decide_eq_false h]at t
  have h2:ns.getD k 0=0:=by
   rw[List.getD_eq_getElem?_getD,List.getElem?_eq_none (by omega)]
   rfl
  rw[h2]
  exact fV rfl ((az ((eL t).trans rfl)).trans (fj rfl))
theorem fL{fr:Bool}{n k:Nat}{f:Den}{ps:List PV}{p:PV}(h:ps.length=k)(e:f (ij n ps)=some p):fn fr n k (bV f) ps=some p:=by
 unfold fn
 rw[if_pos h]
 unfold bV
 rw[e]
 rfl
noncomputable abbrev pl(l:List Nat):List PV:=l.map λ(n:Nat)=>PV.int (n:Int)
theorem AG(l:List Nat):pH (pl l)=some (l.map λ(n:Nat)=>(n:Int)):=by
 have:pl l=(l.map λ(n:Nat)=>(n:Int)).map PV.int:=by
  rw[List.map_map]
  rfl
 rw[this,ro]
theorem GO{l:List Nat}{x:PV}(h:x∈pl l):∃n∈l,x=.int (n:Nat):=by
 obtain⟨n,hn,rfl⟩:=List.mem_map.mp h
 exact⟨n,hn,rfl⟩
theorem rq{i:Nat}{body:aU}:∀(xs:List PV) (ρ:c8),(∀x∈xs,body (ρ.set i (.sh x))=some (.nx (ρ.set i (.sh x))))->∃s,forL (bW i) body xs ρ=some (.nx (ρ.set i s))
 |[],ρ,_=>by
  by_cases h:i<ρ.length
  ·exact⟨ρ[i],by rw[List.set_getElem_self];rfl⟩
  ·exact⟨.un,by rw[List.set_eq_of_length_le (by omega)];rfl⟩
 |x::xs,ρ,h=>by
  obtain⟨s,e⟩:=rq xs (ρ.set i (.sh x)) (λy hy=>by
   rw[List.set_set]
   exact h y (List.mem_cons_of_mem _ hy))
  refine⟨s,?_⟩
  rw[sy]
  show((body (ρ.set i (.sh x))).bind _)=_
  rw[h x (List.mem_cons_self ..)]
  show forL (bW i) body xs (ρ.set i (.sh x))=_
  rw[e,List.set_set]
theorem AH{α β:Type}(f:α->β)(l:List α)(lo hi:Option Int):jK (l.map f) lo hi=(jK l lo hi).map f:=by
 unfold jK
 rw[List.length_map,<-List.map_drop,<-List.map_take]
noncomputable abbrev ni(ns:List Int):PV:=.lst (ns.map PV.int)
theorem xR(a b:Nat):nh (.int a) (.int b)=some (.bl (decide (a=b))):=by
 rw[Dt]
 congr 2
 rw[decide_eq_decide]
 omega
theorem Dv(a b:Nat):kz (.int a) (.int b)=some (.bl (!decide (a=b))):=by
 rw[Du]
 congr 3
 rw[decide_eq_decide]
 omega
theorem d4(x:Int){n:Nat}(h:0<n):cX (.int x) (.int n)=some (.int (((x %(n:Int)).toNat:Nat):Int)):=by
 show(if decide (0<(n:Int))then some (PV.int (x %(n:Int)))else none)=_
 rw[if_pos (decide_eq_true (by omega))]
 have:=Int.emod_nonneg x (show(n:Int)≠0 by omega)
 congr 2
 omega
theorem mod_lt(x:Int){n:Nat}(h:0<n):(x %(n:Int)).toNat<n:=by
 have:=Int.emod_lt_of_pos x (show(0:Int)<n by omega)
 omega
theorem v8(n:Nat):i3 0 n=pl (List.range n):=by
 unfold i3
 refine List.map_congr_left λk _=>?_
 rw[Int.zero_add]
theorem mJ{a:Den}{ρ:c8}{n:Nat}(h:a ρ=some (.int n))(hn:n<=100000):kG a ρ=some (pl (List.range n)):=by
 rw[AF h (L7 hn),Int.toNat_natCast,v8]
theorem AI{t:dX}{body:aU}{n:Nat}{ρ:c8}(h:t ρ=some false):fG t body (n+1) ρ=some (.nx ρ):=by
 unfold fG
 rw[h]
 rfl
theorem AJ{t:dX}{body:aU}{n:Nat}{ρ ρ':c8}(h:t ρ=some true)(hb:body ρ=some (.nx ρ')):fG t body (n+1) ρ=fG t body n ρ':=by
 conv=>lhs;unfold fG
 rw[h]
 show(body ρ).bind _=_
 rw[hb]
 rfl
theorem au{a:Den}{as:dg}{ρ:c8}{x:PV}{xs:List PV}(h1:a ρ=some x)(h2:as ρ=some xs):ae a as ρ=some (x::xs):=by
 unfold ae
 rw[h1,h2]
 rfl
theorem Dw{as:dg}{ρ:c8}{xs:List PV}(h:as ρ=some xs)(hl:xs.length<=5000):vQ as ρ=some (.lst xs):=by
 have zl:(5000:Nat)<=sizeLine:=by decide
 unfold vQ
 rw[h]
 show(if xs.length<=sizeLine then some (PV.lst xs)else none)=_
 rw[if_pos (by omega)]
theorem same_int{F:List PV->Option PV}(a:Nat):fn false 3 2 (Sh.lz F) [.int a,.int a]=some (.bl true):=by
 refine fV rfl ?_
 refine(az (eL ((jA (bN rfl)).trans (bN rfl)))).trans ?_
 refine(az (eL (bN rfl))).trans ?_
 refine ku ((ia (bN rfl)).trans (fj ?_))
 show af nh (dV 0) (dV 1) [.sh (.int a),.sh (.int a),.un]=_
 refine(ah (x:=.int a) (y:=.int a) rfl rfl).trans ?_
 rw[xR,decide_eq_true rfl]
theorem Dx{a b:Den}{ρ:c8}(h:a ρ=some (.bl true)):iR a b ρ=b ρ:=by
 unfold iR
 rw[h]
 rfl
theorem cm(a b:Str):(a++b).length=a.length+b.length:=by
 show(a.cps++b.cps).size=_
 rw[Array.size_append]
 rfl
theorem nH(a b c:Str):(a++b)++c=a++(b++c):=by
 show Str.mk ((a.cps++b.cps)++c.cps)=Str.mk (a.cps++(b.cps++c.cps))
 rw[Array.append_assoc]
theorem Ez{α β:Type}(f:α->Option β):∀l:List α,(l.filterMap f).length<=l.length
 |[]=>Nat.le_refl _
 |x::l=>by
  have:=Ez f l
  rw[List.filterMap_cons]
  split
  ·rw[List.length_cons];omega
  ·rw[List.length_cons,List.length_cons];omega
theorem nI(x:Str)(lo hi:Option Int){st:Int}(h0:st≠0):(bU x lo hi st).length<=x.length:=by
 unfold bU
 split
 ·exact Nat.le_refl _
 ·show((Builtin.Str.strSliceIndices lo hi st x.length).filterMap (x.cps[·]?)).toArray.size<=_
  rw[List.size_toArray]
  have h1:=Ez (x.cps[·]?) (Builtin.Str.strSliceIndices lo hi st x.length)
  have h2:=sliceIndicesBy_le lo hi st h0 x.length
  omega
theorem AK{α β:Type}(f:α->Option β):∀l:List α,(∀x∈l,(f x).isSome=true)->(l.filterMap f).length=l.length
 |[],_=>rfl
 |x::l,h=>by
  have ih:=AK f l λy hy=>h y (List.mem_cons_of_mem _ hy)
  obtain⟨z,hz⟩:=Option.isSome_iff_exists.mp (h x (List.mem_cons_self ..))
  rw[List.filterMap_cons,hz,List.length_cons,List.length_cons,ih]
theorem sD(x:Str)(n:Nat)(h:n<=x.length):(bU x none (some (n:Int)) 1).length=n:=by
 have e:Builtin.Str.strSliceIndices none (some (n:Int)) 1 x.length=(List.range n).map (0+·):=by
  have:=PySem.sliceRange_one 0 n
  rw[Nat.sub_zero]at this
  rw[<-this]
  unfold Builtin.Str.strSliceIndices
  simp only
  congr 1
  rw[if_pos (by decide),if_neg (by omega)]
  omega
 unfold bU
 rw[e]
 split
 ·rename_i hh
  rw[Bool.and_eq_true,beq_iff_eq,beq_iff_eq,List.length_map,List.length_range]at hh
  omega
 ·show(((List.range n).map (0+·)).filterMap (x.cps[·]?)).toArray.size=n
  rw[List.size_toArray,AK,List.length_map,List.length_range]
  intro i hi
  obtain⟨k,hk,rfl⟩:=List.mem_map.mp hi
  have:=List.mem_range.mp hk
  have hl:0+k<x.cps.size:=by
   have:x.cps.size=x.length:=rfl
   omega
  have KU:k<x.cps.size:=by omega
  simp[KU]
noncomputable def kC:Str:= "abcdefghijklmnopqrstuvwxyz"
theorem AL:kC.length=26:=by decide+kernel
theorem GP{x:Str}{i:Nat}(h:i<x.length)(hx:x.length<=5000):∃y:Str,y.length=1/\kj (.str x) (.int i)=some (.str y):=by
 have zl:(5000:Nat)<=sizeLine:=by decide
 have hl:i<x.cps.toList.length:=by
  rw[Array.length_toList]
  exact h
 have:itemAt x.cps.toList (i:Int)=some (x.cps.toList[i]'hl):=by
  unfold itemAt HD
  rw[if_pos (by omega),if_pos (by omega)]
  show x.cps.toList[(i:Int).toNat]?=_
  rw[Int.toNat_natCast,List.getElem?_eq_getElem hl]
 refine⟨⟨#[x.cps.toList[i]'hl]⟩,rfl,?_⟩
 show(if x.length<=sizeLine then(itemAt x.cps.toList (i:Int)).map (λc=>PV.str ⟨#[c]⟩)else none)=_
 rw[if_pos (by omega),this]
 rfl
theorem ck(a b:Str)(h:a.length+b.length<=100000):bB (.str a) (.str b)=some (.str (a++b)):=by
 have zl:(100000:Nat)<=sizeLine:=by decide
 show(if a.length+b.length<=sizeLine then some (PV.str (a++b))else none)=_
 rw[if_pos (by omega)]
theorem gO{A:Den}{lo hi:sd}{ρ:c8}{y:Str}{l h:Option Int}(hA:A ρ=some (.str y))(hl:lo ρ=some l)(hh:hi ρ=some h)(hy:y.length<=100000):i4 A lo hi ρ=some (.str (bU y l h 1)):=by
 have zl:(100000:Nat)<=sizeLine:=by decide
 unfold i4
 rw[hA,hl,hh]
 show(if y.length<=sizeLine then some (PV.str (bU y l h 1))else none)=_
 rw[if_pos (by omega)]
theorem gB{a b:Int}(h1:-100000000000<=a)(h2:a<=100000000000):ny (.int a) (.int b)=some (.int (a*b)):=by
 have:uh a b=true:=by
  unfold uh
  rw[Bool.or_eq_true,Bool.and_eq_true]
  exact .inl ⟨decide_eq_true (by omega),decide_eq_true (by omega)⟩
 show(if uh a b then some (PV.int (a*b))else none)=_
 rw[if_pos this]
theorem jQ(a:Int){n:Int}(h:0<n):cX (.int a) (.int n)=some (.int (a % n)):=by
 show(if decide (0<n)then some (PV.int (a % n))else none)=_
 rw[if_pos (decide_eq_true h)]
structure It where
 o:PV
 s:PV
 t:Str
 d:Nat
noncomputable def It.p(i:It):PV:=.tup [i.o,i.s,.str i.t,.int (i.d:Nat)]
noncomputable def wt(l:List It):Nat:=(l.map λi=>i.t.length+2).sum
theorem pY(l m:List It):wt (l++m)=wt l+wt m:=by
 unfold wt
 rw[List.map_append,List.sum_append]
theorem pZ(i:It):wt [i]=i.t.length+2:=by
 unfold wt
 simp
theorem Dy(i:It)(l:List It):wt (i::l)=i.t.length+2+wt l:=by
 unfold wt
 rw[List.map_cons,List.sum_cons]
theorem u5{α:Type}{e:Den}{ρ:c8}(v f:α->PV):∀(xs:List α),(∀x∈xs,e (.sh (v x)::ρ)=some (f x))->kI dh e ρ (xs.map v)=some (xs.map f)
 |[],_=>rfl
 |x::xs,h=>by
  have ih:=u5 v f xs λy hy=>h y (List.mem_cons_of_mem _ hy)
  show((some true).bind λb=>if b then(e (.sh (v x)::ρ)).bind λz=>(kI dh e ρ (xs.map v)).map (z::·)else kI dh e ρ (xs.map v))=_
  rw[h x (List.mem_cons_self ..),ih]
  rfl
theorem fW{α:Type}{it:dg}{e:Den}{ρ:c8}(v f:α->PV){xs:List α}(h1:it ρ=some (xs.map v))(h2:xs.length<=5000)(h3:∀x∈xs,e (.sh (v x)::ρ)=some (f x)):dP it dh e ρ=some (.lst (xs.map f)):=by
 have zl:(5000:Nat)<=sizeLine:=by decide
 exact AE h1 (by rw[List.length_map];omega) (u5 v f xs h3)
theorem rA:∀ts:List Str,ra (ts.map PV.str)=some ts
 |[]=>rfl
 |t::ts=>by
  show(ra (ts.map PV.str)).map (t::·)=_
  rw[rA ts]
  rfl
theorem joinOk_of(sep:Str)(ts:List Str)(h:(ts.map λt=>t.length+sep.length).sum<=100000):JoinOk sep ts=true:=by
 have zl:(100000:Nat)<=sizeLine:=by decide
 have key:∀(ts:List Str) (a:Nat),ts.foldl (λacc t=>acc+t.length+sep.length) a=a+(ts.map λt=>t.length+sep.length).sum:=by
  intro ts
  induction ts with
  |nil=>intro a;rfl
  |cons t ts ih=>
   intro a
   rw[List.foldl_cons,ih,List.map_cons,List.sum_cons]
   omega
 unfold JoinOk Builtin.Str.tooLong
 rw[List.foldl_toArray',key]
 ·simp
  omega
 ·rfl
theorem join_le(sep:Str):∀ts:List Str,(Txt.join sep ts).length<=(ts.map λt=>t.length+sep.length).sum
 |[]=>Nat.zero_le _
 |t::ts=>by
  have key:∀(ts:List Str) (a:Array Nat),(ts.foldl (λacc (p:Str)=>acc++sep.cps++p.cps) a).size=a.size+(ts.map λt=>t.length+sep.length).sum:=by
   intro ts
   induction ts with
   |nil=>intro a;rfl
   |cons t ts ih=>
    intro a
    rw[List.foldl_cons,ih,List.map_cons,List.sum_cons,Array.size_append,Array.size_append]
    have:t.cps.size=t.length:=rfl
    have:sep.cps.size=sep.length:=rfl
    omega
  show(ts.foldl (λacc (p:Str)=>acc++sep.cps++p.cps) t.cps).size<=_
  rw[key,List.map_cons,List.sum_cons]
  have:t.cps.size=t.length:=rfl
  omega
theorem rB(sep:Str)(ts:List Str)(h:(ts.map λt=>t.length+sep.length).sum<=100000):uq (.str sep) (.lst (ts.map PV.str))=some (.str (Txt.join sep ts)):=by
 show(ra (ts.map PV.str)).bind _=_
 rw[rA]
 show(if JoinOk sep ts then some (PV.str (Txt.join sep ts))else none)=_
 rw[if_pos (joinOk_of sep ts h)]
theorem fold_max:∀(ds:List Nat) (a:Nat),∃M:Nat,(ds.map λ(n:Nat)=>(n:Int)).foldl (λa b=>if b>a then b else a) (a:Int)=(M:Int)/\a<=M/\(∀x∈ds,x<=M)/\(M=a\/M∈ds)
 |[],a=>⟨a,rfl,Nat.le_refl _,by simp,.inl rfl⟩
 |d::ds,a=>by
  rw[List.map_cons,List.foldl_cons]
  by_cases h:d>a
  ·have e:(if(d:Int)>(a:Int)then(d:Int)else(a:Int))=(d:Int):=if_pos (by omega)
   rw[e]
   obtain⟨M,h1,h2,h3,h4⟩:=fold_max ds d
   refine⟨M,h1,by omega,λx hx=>?_,?_⟩
   ·rcases List.mem_cons.mp hx with rfl|hx
    ·exact h2
    ·exact h3 x hx
   ·rcases h4 with rfl|h4
    ·exact .inr (List.mem_cons_self ..)
    ·exact .inr (List.mem_cons_of_mem _ h4)
  ·have e:(if(d:Int)>(a:Int)then(d:Int)else(a:Int))=(a:Int):=if_neg (by omega)
   rw[e]
   obtain⟨M,h1,h2,h3,h4⟩:=fold_max ds a
   refine⟨M,h1,h2,λx hx=>?_,?_⟩
   ·rcases List.mem_cons.mp hx with rfl|hx
    ·omega
    ·exact h3 x hx
   ·rcases h4 with rfl|h4
    ·exact .inl rfl
    ·exact .inr (List.mem_cons_of_mem _ h4)
theorem p6(ds:List Nat)(h:ds≠[]):∃M:Nat,kJ (pX ds)=some (.int (M:Nat))/\(∀x∈ds,x<=M)/\M∈ds:=by
 cases ds with
 |nil=>exact absurd rfl h
 |cons d ds=>
  obtain⟨M,h1,h2,h3,h4⟩:=fold_max ds d
  refine⟨M,?_,λx hx=>?_,?_⟩
  ·show(pH (pl (d::ds))).bind _=_
   rw[AG]
   show(some ((ds.map λ(n:Nat)=>(n:Int)).foldl (λa b=>if b>a then b else a) (d:Int))).map PV.int=_
   rw[h1]
   rfl
  ·rcases List.mem_cons.mp hx with rfl|hx
   ·exact h2
   ·exact h3 x hx
  ·rcases h4 with rfl|h4
   ·exact List.mem_cons_self ..
   ·exact List.mem_cons_of_mem _ h4
theorem u9{α:Type}(l:List α)(j:Nat)(h:0<j):jK l (some (-(j:Int))) none=l.drop (l.length-j):=by
 unfold jK uk
 simp only
 rw[if_pos (by omega)]
 have:(-(j:Int)+(l.length:Int)).toNat=l.length-j:=by omega
 rw[this,List.take_of_length_le (by rw[List.length_drop];exact Nat.le_refl _)]
theorem Dz{α:Type}(l:List α)(j:Nat)(h:0<j):jK l none (some (-(j:Int)))=l.take (l.length-j):=by
 unfold jK uk
 simp only
 rw[if_pos (by omega)]
 have:(-(j:Int)+(l.length:Int)).toNat=l.length-j:=by omega
 rw[this,List.drop_zero,Nat.sub_zero]
theorem AM{α:Type}(l:List α)(j:Nat)(h:j<=l.length):jK l none (some (j:Int))=l.take j:=by
 unfold jK uk
 simp only
 rw[if_neg (by omega),List.drop_zero,Nat.sub_zero,Int.toNat_natCast,Nat.min_eq_left h]
theorem p7{A:Den}{lo hi:sd}{ρ:c8}{l:List PV}{a b:Option Int}(hA:A ρ=some (.lst l))(hl:lo ρ=some a)(hh:hi ρ=some b):xt A lo hi ρ=some (.lst (jK l a b)):=by
 unfold xt
 rw[hA,hl,hh]
 rfl
theorem eP{as:dg}{ρ:c8}{xs:List PV}(h:as ρ=some xs)(hl:xs.length<=5000):gd as ρ=some (.tup xs):=by
 have zl:(5000:Nat)<=sizeLine:=by decide
 unfold gd
 rw[h]
 show(if xs.length<=sizeLine then some (PV.tup xs)else none)=_
 rw[if_pos (by omega)]
noncomputable def As(x:Str):Prop:=∀c∈x.cps.toList,c<128
theorem AN{x:Str}(h:As x):x.cps.all (·<128)=true:=by
 rw[<-Array.all_toList,List.all_eq_true]
 exact λc hc=>decide_eq_true (h c hc)
theorem nJ{a b:Str}(ha:As a)(hb:As b):As (a++b):=λc hc=>by
 have e:(a++b).cps.toList=a.cps.toList++b.cps.toList:=Array.toList_append
 rw[e]at hc
 rcases List.mem_append.mp hc with h|h
 ·exact ha c h
 ·exact hb c h
theorem GQ{x:Str}(h:As x)(lo hi:Option Int)(st:Int):As (bU x lo hi st):=by
 unfold bU
 split
 ·exact h
 ·intro c hc
  have hc:c∈(Builtin.Str.strSliceIndices lo hi st x.length).filterMap (x.cps[·]?):=hc
  obtain⟨i,_,e⟩:=List.mem_filterMap.mp hc
  exact h c (by rw[Array.mem_toList_iff];exact Array.mem_of_getElem? e)
noncomputable def OT(x:Str):Bool:=x.cps.toList.all λc=>decide (c<128)
theorem va{x:Str}(h:OT x=true):As x:=λc hc=>of_decide_eq_true (List.all_eq_true.mp h c hc)
noncomputable def kept:List PV:=[.str "all",.str "any",.str "of"]
noncomputable def Lw(x:Str):Prop:=∀c∈x.cps.toList,97<=c/\c<=122
theorem Lw.as{x:Str}(h:Lw x):As x:=λc hc=>by have:=h c hc;omega
theorem sE{a b:Str}(ha:Lw a)(hb:Lw b):Lw (a++b):=λc hc=>by
 have e:(a++b).cps.toList=a.cps.toList++b.cps.toList:=Array.toList_append
 rw[e]at hc
 rcases List.mem_append.mp hc with h|h
 ·exact ha c h
 ·exact hb c h
theorem sF{x:Str}(h:Lw x)(lo hi:Option Int)(st:Int):Lw (bU x lo hi st):=by
 unfold bU
 split
 ·exact h
 ·intro c hc
  have hc:c∈(Builtin.Str.strSliceIndices lo hi st x.length).filterMap (x.cps[·]?):=hc
  obtain⟨i,_,e⟩:=List.mem_filterMap.mp hc
  exact h c (by rw[Array.mem_toList_iff];exact Array.mem_of_getElem? e)
noncomputable def L8(x:Str):Bool:=x.cps.toList.all λc=>decide (97<=c)&&decide (c<=122)
theorem AO{x:Str}(h:L8 x=true):Lw x:=λc hc=>by
 have:=List.all_eq_true.mp h c hc
 simpa using this
noncomputable def i8(i:Nat):Str:=⟨#[97+i]⟩
theorem xS{i:Nat}(h:i<26):Lw (i8 i):=λc hc=>by
 have:c=97+i:=by simpa[i8]using hc
 omega
theorem AQ:((List.range 26).all λi=>itemAt kC.cps.toList (i:Int)==some (97+i))=true:=by decide+kernel
theorem rC{i:Nat}(h:i<26):kj (.str kC) (.int i)=some (.str (i8 i)):=by
 have zl:(5000:Nat)<=sizeLine:=by decide
 have hc:=beq_iff_eq.mp (List.all_eq_true.mp AQ i (List.mem_range.mpr h))
 show(if kC.length<=sizeLine then(itemAt kC.cps.toList (i:Int)).map (λc=>PV.str ⟨#[c]⟩)else none)=_
 rw[if_pos (by rw[AL];omega),hc]
 rfl
noncomputable def v9:List Nat->List Nat->Nat
 |x::l,y::m=>(if x=y then 0 else 1)+v9 l m
 |_,_=>0
theorem p8:∀l:List Nat,v9 l l=0
 |[]=>rfl
 |x::l=>by
  show(if x=x then 0 else 1)+v9 l l=0
  rw[if_pos rfl,p8 l]
theorem xT(a b:List Nat):∀l:List Nat,v9 (l++a) (l++b)=v9 a b
 |[]=>rfl
 |x::l=>by
  show(if x=x then 0 else 1)+v9 (l++a) (l++b)=_
  rw[if_pos rfl,xT a b l,Nat.zero_add]
theorem DD(A C:Str){i j:Nat}(h:i≠j):v9 ((A++i8 i)++C).cps.toList ((A++i8 j)++C).cps.toList=1:=by
 have e:∀k,((A++i8 k)++C).cps.toList=A.cps.toList++((97+k)::C.cps.toList):=λk=>by
  show((A.cps++#[97+k])++C.cps).toList=_
  simp
 rw[e,e,xT]
 show(if 97+i=97+j then 0 else 1)+v9 C.cps.toList C.cps.toList=1
 rw[if_neg (by omega),p8]
noncomputable def fin(y:Str):Str:=if r9 (.str y) kept=true then bU y none none (-1)else y
noncomputable def Ku:List Str:=["all","any","of"]
theorem GR:(Ku.all λx=>L8 (bU x none none (-1))&&decide ((bU x none none (-1)).length=x.length)&&!decide (v9 x.cps.toList (bU x none none (-1)).cps.toList=1)&&!decide (v9 (bU x none none (-1)).cps.toList x.cps.toList=1)&&Ku.all λy=>!decide (v9 x.cps.toList y.cps.toList=1))=true:=by decide+kernel
theorem vb{x:Str}:∀{ts:List Str},r9 (.str x) (ts.map PV.str)=decide (x∈ts)
 |[]=>by simp[r9]
 |t::ts=>by
  have ih:=vb (x:=x) (ts:=ts)
  unfold r9 at ih⊢
  rw[List.map_cons,List.any_cons,ih]
  show((t==x)||decide (x∈ts))=_
  by_cases h:t=x
  ·subst h
   simp
  ·rw[beq_eq_false_iff_ne.mpr h]
   simp[List.mem_cons,Ne.symm h]
theorem vc{x:Str}:r9 (.str x) kept=decide (x∈Ku):=vb (ts:=Ku)
theorem xU{x:Str}(h:r9 (.str x) kept=true):Lw (bU x none none (-1))/\(bU x none none (-1)).length=x.length/\v9 x.cps.toList (bU x none none (-1)).cps.toList≠1/\v9 (bU x none none (-1)).cps.toList x.cps.toList≠1/\∀y,r9 (.str y) kept=true->v9 x.cps.toList y.cps.toList≠1:=by
 rw[vc]at h
 have:=List.all_eq_true.mp GR x (of_decide_eq_true h)
 simp only[Bool.and_eq_true,Bool.not_eq_true',decide_eq_false_iff_not,decide_eq_true_eq]at this
 obtain⟨⟨⟨⟨h1,h2⟩,h3⟩,h4⟩,h5⟩:=this
 refine⟨AO h1,h2,h3,h4,λy hy=>?_⟩
 rw[vc]at hy
 have:=List.all_eq_true.mp h5 y (of_decide_eq_true hy)
 simpa using this
theorem oV(x:Str):(fin x).length=x.length:=by
 unfold fin
 split
 ·rename_i h
  exact(xU h).2.1
 ·rfl
theorem GS{x:Str}(h:Lw x):Lw (fin x):=by
 unfold fin
 split
 ·rename_i h
  exact(xU h).1
 ·exact h
theorem GU{x y:Str}(h:v9 x.cps.toList y.cps.toList=1):fin x≠fin y:=by
 unfold fin
 split
 ·rename_i hx
  obtain⟨_,_,h3,_,h5⟩:=xU hx
  split
  ·rename_i hy
   exact absurd h (h5 y hy)
  ·intro e
   rw[e]at h3
   exact h3 h
 ·split
  ·rename_i hy
   obtain⟨_,_,_,h4,_⟩:=xU hy
   intro e
   rw[<-e]at h4
   exact h4 h
  ·intro e
   rw[e,p8]at h
   cases h
end L2.D
namespace L2.D.Rq
open PySem
noncomputable def mK:List (Str×Int):=[("all(",1),("any(",1),("1 of (",1),("2 of (",2),("3 of (",3),("4 of (",4),("5 of (",5),("6 of (",6),("7 of (",7),("8 of (",8)]
noncomputable def kF:List PV:=[.str "all(",.str "any(",.str "1 of (",.str "2 of (",.str "3 of (",.str "4 of (",.str "5 of (",.str "6 of (",.str "7 of (",.str "8 of ("]
noncomputable def gQ:aU:=(aX (cN 2 (dC (.int 0))) (aX (pG (xK (cI 0) (cI 1)) (nA (bW 3) (bW 4)) (aX (iV (tV (af kz (dV 3) (dV 4))) pE cB) (cN 2 (af xP (dV 2) (dC (.int 1)))))) (bV (cI 2))))
noncomputable def b5:List PV->Option PV:=fn false 5 2 gQ
noncomputable def qK:Den:=a8 (gk jD "signs") (dV 0)
noncomputable def jR:Den:=a8 (gk jD "at") (dV 0)
noncomputable def vd:Den:=a8 (gk jD "words") (dV 0)
noncomputable def sG:aU:=bV (af nh (i4 qK (bT jR) (bT (af bB jR (dC (.int 1))))) (dV 1))
noncomputable def fm:List PV->Option PV:=fn false 2 2 sG
noncomputable def jS:dn:=eQ (pT 1 (i4 qK (bT jR) eI)) (eQ (pT 2 (a8 kJ (dP (nList vd) dh (cj b5 (ae (cI 2) (ae (cI 0) aK)))))) (eQ (v3 (cI 2)) (eQ (v7 (tV (af pD (i4 (dV 1) eI (bT (dV 2))) vd)) i6 jO) (uS (i4 (dV 1) eI (bT (dV 2)))))))
noncomputable def d5:FQ:=oJ false 3 1 jS
noncomputable def jT:dn:=eQ (v7 (mi (tV (eJ (nX fm) (cI 0) (ae (cI 1) aK)))) i6 jO) (v3 (dC (.int 1)))
noncomputable def b6:FQ:=oJ false 2 2 jT
noncomputable def gg:aU:=(aX (iV (tV (af nh (dV 0) (dC (.str "all(")))) (bV (a8 ur (dV 1))) cB) (aX (iV (tV (af nh (dV 0) (dC (.str "any(")))) (bV (a8 uw (dV 1))) cB) (bV (af pI (a8 (uQ mK) (dV 0)) (dV 1)))))
noncomputable def aT:List PV->Option PV:=fn false 2 2 gg
noncomputable def nK:dX:=tX (tV (af B7 (a8 dY (dV 2)) (dV 1))) (mi (tV (eJ (nX fm) (cI 0) (ae (dC (.str ")")) aK))))
noncomputable def nL(FT:FQ):dn:=eQ (v7 (tV (af nh (a8 dY (dV 2)) (dC (.int 8)))) i6 jO) (eQ (mF (fF b6 (ae (dC (.str ",")) aK))) (eQ (mF (fF b6 (ae (dC (.str " ")) aK))) (Ay 2 (fF FT aK))))
noncomputable def dw(FT:FQ):dn:=eQ (pV 2 (fF FT aK)) (eQ (il nK (nL FT) 10) (eQ (mF (fF b6 (ae (dC (.str ")")) aK))) (uU 2)))
noncomputable def d6(FP:FQ):dn:=eQ (uV 1 (fF d5 aK)) (eQ (v7 (tV (a8 (sv mK) (dV 1))) (uT (a8 xv (dV 1))) jO) (uZ aT (cI 1) (fF FP (ae (a8 (uQ mK) (dV 1)) aK))))
noncomputable def cp:Nat->FQ
 |0=>λ_ _ _=>none
 |n+1=>oJ false 2 1 (d6 (oJ true 3 2 (dw (cp n))))
noncomputable def lD:dn:=v7 (tV (af B7 jR (a8 dY qK))) i6 jO
noncomputable def eR:FQ:=oJ false 1 1 lD
noncomputable def jU:List PV->Option Rg:=rn 3 3 (af bB (a8 uj (dV 1)) (dC (.lst kF))) (cI 2)
noncomputable def wa:aU:=AB 2 3 jU (cp 24) eR (ae (cI 0) (ae (cI 1) aK))
noncomputable def eS:List PV->Option PV:=fn false 4 2 wa
noncomputable def nM:List Nat->List Nat->Nat
 |a::x,b::y=>if a=b then nM x y+1 else 0
 |_,_=>0
theorem GV(c d:Nat):kz (.str ⟨#[c]⟩) (.str ⟨#[d]⟩)=some (.bl (!decide (c=d))):=by
 show some (PV.bl (!decide ((⟨#[c]⟩:Str)=⟨#[d]⟩)))=_
 congr 3
 rw[decide_eq_decide]
 constructor
 ·intro h
  injection h with h
  injection h with h
  exact(List.cons.inj h).1
 ·rintro rfl
  rfl
noncomputable abbrev wb:aU:=(aX (iV (tV (af kz (dV 3) (dV 4))) pE cB) (cN 2 (af xP (dV 2) (dC (.int 1)))))
theorem p9(s0 s1:Slot):∀(xs ys:List Nat) (k:Int) (s3 s4:Slot),∃t3 t4,forL (nA (bW 3) (bW 4)) wb (List.zipWith (λc d=>PV.tup [.str ⟨#[c]⟩,.str ⟨#[d]⟩]) xs ys) [s0,s1,.sh (.int k),s3,s4]=some (.nx [s0,s1,.sh (.int (k+(nM xs ys:Nat))),t3,t4])
 |[],ys,k,s3,s4=>⟨s3,s4,by
  show some (Fl.nx [s0,s1,.sh (.int k),s3,s4])=_
  rw[show nM [] ys=0 by unfold nM;rfl]
  simp⟩
 |_::_,[],k,s3,s4=>⟨s3,s4,by
  show some (Fl.nx [s0,s1,.sh (.int k),s3,s4])=_
  simp[nM]⟩
 |a::xs,b::ys,k,s3,s4=>by
  rw[List.zipWith_cons_cons,sy]
  have hg:nA (bW 3) (bW 4) (.tup [.str ⟨#[a]⟩,.str ⟨#[b]⟩]) [s0,s1,.sh (.int k),s3,s4]=some [s0,s1,.sh (.int k),.sh (.str ⟨#[a]⟩),.sh (.str ⟨#[b]⟩)]:=rfl
  rw[hg]
  have ht:tV (af kz (dV 3) (dV 4)) [s0,s1,.sh (.int k),.sh (.str ⟨#[a]⟩),.sh (.str ⟨#[b]⟩)]=some (!decide (a=b)):=bN ((ah (x:=.str ⟨#[a]⟩) (y:=.str ⟨#[b]⟩) rfl rfl).trans (GV a b))
  by_cases h:a=b
  ·rw[decide_eq_true h]at ht
   have hb:wb [s0,s1,.sh (.int k),.sh (.str ⟨#[a]⟩),.sh (.str ⟨#[b]⟩)]=some (.nx [s0,s1,.sh (.int (k+1)),.sh (.str ⟨#[a]⟩),.sh (.str ⟨#[b]⟩)]):=(az ((eL ht).trans rfl)).trans rfl
   obtain⟨t3,t4,e⟩:=p9 s0 s1 xs ys (k+1) (.sh (.str ⟨#[a]⟩)) (.sh (.str ⟨#[b]⟩))
   refine⟨t3,t4,?_⟩
   show(wb [s0,s1,.sh (.int k),.sh (.str ⟨#[a]⟩),.sh (.str ⟨#[b]⟩)]).bind _=_
   rw[hb]
   refine e.trans ?_
   have el:nM (a::xs) (b::ys)=nM xs ys+1:=by
    show(if a=b then nM xs ys+1 else 0)=_
    rw[if_pos h]
   rw[el]
   have:k+1+((nM xs ys:Nat):Int)=k+((nM xs ys+1:Nat):Int):=by omega
   rw[this]
  ·rw[decide_eq_false h]at ht
   have hb:wb [s0,s1,.sh (.int k),.sh (.str ⟨#[a]⟩),.sh (.str ⟨#[b]⟩)]=some (.bk [s0,s1,.sh (.int k),.sh (.str ⟨#[a]⟩),.sh (.str ⟨#[b]⟩)]):=by
    show(iV (tV (af kz (dV 3) (dV 4))) pE cB [s0,s1,.sh (.int k),.sh (.str ⟨#[a]⟩),.sh (.str ⟨#[b]⟩)]).bind _=_
    rw[ia ht]
    rfl
   refine⟨.sh (.str ⟨#[a]⟩),.sh (.str ⟨#[b]⟩),?_⟩
   show(wb [s0,s1,.sh (.int k),.sh (.str ⟨#[a]⟩),.sh (.str ⟨#[b]⟩)]).bind _=_
   rw[hb]
   have el:nM (a::xs) (b::ys)=0:=by
    show(if a=b then nM xs ys+1 else 0)=_
    rw[if_neg h]
   rw[el]
   show some (Fl.nx [s0,s1,.sh (.int k),.sh (.str ⟨#[a]⟩),.sh (.str ⟨#[b]⟩)])=_
   have:k+((0:Nat):Int)=k:=by omega
   rw[this]
theorem yO{x y:Str}(hx:As x)(hy:As y):b5 [.str x,.str y]=some (.int (nM x.cps.toList y.cps.toList:Nat)):=by
 refine fV rfl ?_
 refine(az (aW (p:=.int 0) rfl)).trans ?_
 have it:xK (cI 0) (cI 1) [.sh (.str x),.sh (.str y),.sh (.int 0),.un,.un]=some (yF x y):=by
  show(if x.cps.all (·<128)&&y.cps.all (·<128)then some (yF x y)else none)=_
  rw[AN hx,AN hy]
  rfl
 obtain⟨t3,t4,e⟩:=p9 (.sh (.str x)) (.sh (.str y)) x.cps.toList y.cps.toList 0 .un .un
 refine(az ((kr it).trans e)).trans ?_
 refine fj ?_
 show some (PV.int (0+(nM x.cps.toList y.cps.toList:Nat)))=_
 rw[Int.zero_add]
section
variable{t:Rg}{n m:Int}{ρ ρ':c8}{a b:dn}{f:Den}{p:PV}{q:Int×Fl}
theorem dW(h:a t n ρ=some (m,.nx ρ')):eQ a b t n ρ=b t m ρ':=by
 unfold eQ
 rw[h]
 rfl
theorem ve{i:Nat}(h:f (wQ t n ρ)=some p)(hf:flat p=true):pT i f t n ρ=some (n,.nx (ρ.set i (.sh p))):=by
 unfold pT
 rw[h]
 show(if flat p=true then _ else _)=_
 rw[if_pos hf]
theorem xV{k:Int}(h:f (wQ t n ρ)=some (.int k)):v3 f t n ρ=some (n+k,.nx ρ):=by
 unfold v3
 rw[h]
 rfl
theorem Ju{c:dX}(h:c (wQ t n ρ)=some true):v7 c a b t n ρ=a t n ρ:=by
 unfold v7
 rw[h]
 rfl
theorem vf{c:dX}(h:c (wQ t n ρ)=some false):v7 c a b t n ρ=b t n ρ:=by
 unfold v7
 rw[h]
 rfl
theorem AR(h:f (wQ t n ρ)=some p)(hf:flat p=true):uS f t n ρ=some (n,.rt p):=by
 unfold uS
 rw[h]
 show(if flat p=true then _ else _)=_
 rw[if_pos hf]
theorem sH{fr:Bool}{N k:Nat}{g:dn}{ps:List PV}(h:ps.length+1=k)(e:g t n (.un::(ps.map Slot.sh++List.replicate (N-k) .un))=some (m,.rt p)):oJ fr N k g t n ps=some (m,p):=by
 unfold oJ
 rw[if_pos h,e]
 rfl
theorem AS{N k:Nat}{g:dn}{ps:List PV}(h:ps.length+1=k)(e:g t n (.un::(ps.map Slot.sh++List.replicate (N-k) .un))=some (m,.nx ρ')):oJ false N k g t n ps=some (m,.non):=by
 unfold oJ
 rw[if_pos h,e]
 rfl
end
theorem L9:(("words" :Str)==("words" :Str))=true:=by decide+kernel
theorem Ma:(("signs" :Str)==("words" :Str))=false:=by decide+kernel
theorem Mb:(("signs" :Str)==("signs" :Str))=true:=by decide+kernel
theorem Mc:(("at" :Str)==("words" :Str))=false:=by decide+kernel
theorem Md:(("at" :Str)==("signs" :Str))=false:=by decide+kernel
theorem Me:(("at" :Str)==("at" :Str))=true:=by decide+kernel
theorem GW(t:Rg)(n:Int):gk jD "words" (vZ t n)=some (.lst t.ws):=by
 show List.lookup ("words" :Str) [(("words" :Str),PV.lst t.ws),(("signs" :Str),.str t.sg),(("at" :Str),.int n)]=_
 rw[List.lookup_cons,L9]
theorem AU(t:Rg)(n:Int):gk jD "signs" (vZ t n)=some (.str t.sg):=by
 show List.lookup ("signs" :Str) [(("words" :Str),PV.lst t.ws),(("signs" :Str),.str t.sg),(("at" :Str),.int n)]=_
 rw[List.lookup_cons,Ma,List.lookup_cons,Mb]
theorem AV(t:Rg)(n:Int):gk jD "at" (vZ t n)=some (.int n):=by
 show List.lookup ("at" :Str) [(("words" :Str),PV.lst t.ws),(("signs" :Str),.str t.sg),(("at" :Str),.int n)]=_
 rw[List.lookup_cons,Mc,List.lookup_cons,Md,List.lookup_cons,Me]
section
variable(t:Rg)(n:Int)(ρ:c8)
theorem EA:qK (wQ t n (.un::ρ))=some (.str t.sg):=(bX (x:=vZ t n) rfl).trans (AU t n)
theorem EB:jR (wQ t n (.un::ρ))=some (.int n):=(bX (x:=vZ t n) rfl).trans (AV t n)
theorem EC:vd (wQ t n (.un::ρ))=some (.lst t.ws):=(bX (x:=vZ t n) rfl).trans (GW t n)
end
theorem AW{α:Type}(l:List α)(a:Nat):∀k,a+k<=l.length->((List.range k).map (a+·)).filterMap (l[·]?)=(l.drop a).take k
 |0,_=>by simp
 |k+1,h=>by
  have ih:=AW l a k (by omega)
  rw[List.range_succ,List.map_append,List.filterMap_append,ih,List.take_succ]
  congr 1
  have tS:a+k<l.length:=by omega
  rw[List.map_cons,List.map_nil,List.filterMap_cons,List.getElem?_eq_getElem tS,List.getElem?_drop,List.getElem?_eq_getElem tS]
  rfl
theorem sI{x:Str}{lo hi:Option Int}{a b:Nat}(Po:a<=b)(hb:b<=x.length)(e:Builtin.Str.strSliceIndices lo hi 1 x.length=(List.range (b-a)).map (a+·)):(bU x lo hi 1).cps.toList=(x.cps.toList.drop a).take (b-a):=by
 have hl:x.cps.toList.length=x.length:=Array.length_toList
 unfold bU
 rw[e]
 split
 ·rename_i hh
  rw[Bool.and_eq_true,beq_iff_eq,beq_iff_eq,List.length_map,List.length_range]at hh
  have ha:a=0:=by omega
  have pP:b=x.length:=by omega
  subst ha
  rw[List.drop_zero,List.take_of_length_le (by omega)]
 ·have:=AW x.cps.toList a (b-a) (by omega)
  rw[<-this]
  show((((List.range (b-a)).map (a+·)).filterMap (x.cps[·]?)).toArray).toList=_
  simp only[Array.getElem?_toList]
theorem DF(n len:Nat)(h:n<=len):Builtin.Str.strSliceIndices (some (n:Int)) none 1 len=(List.range (len-n)).map (n+·):=by
 have:=PySem.sliceRange_one n len
 rw[<-this]
 unfold Builtin.Str.strSliceIndices
 simp only
 congr 1
 rw[if_pos (by decide),if_neg (by omega)]
 omega
theorem Jv(n len:Nat)(h:n<=len):Builtin.Str.strSliceIndices none (some (n:Int)) 1 len=(List.range (n-0)).map (0+·):=by
 have:=PySem.sliceRange_one 0 n
 rw[<-this]
 unfold Builtin.Str.strSliceIndices
 simp only
 congr 1
 rw[if_pos (by decide),if_neg (by omega)]
 omega
theorem GX(a b len:Nat)(h:a<=b)(hb:b<=len):Builtin.Str.strSliceIndices (some (a:Int)) (some (b:Int)) 1 len=(List.range (b-a)).map (a+·):=by
 have:=PySem.sliceRange_one a b
 rw[<-this]
 unfold Builtin.Str.strSliceIndices
 simp only
 congr 1
 ·rw[if_pos (by decide),if_neg (by omega)]
  omega
 ·rw[if_pos (by decide),if_neg (by omega)]
  omega
theorem AX{x:Str}{n:Nat}(h:n<=x.length):(bU x (some (n:Int)) none 1).cps.toList=x.cps.toList.drop n:=by
 rw[sI h (Nat.le_refl _) (DF n x.length h),List.take_of_length_le]
 rw[List.length_drop,show x.cps.toList.length=x.length from Array.length_toList]
 exact Nat.le_refl _
theorem AY{x:Str}{n:Nat}(h:n<=x.length):(bU x none (some (n:Int)) 1).cps.toList=x.cps.toList.take n:=by
 rw[sI (Nat.zero_le n) h (Jv n x.length h),List.drop_zero,Nat.sub_zero]
theorem xW:∀(w post:List Nat),nM (w++post) w=w.length
 |[],post=>by cases post<;>rfl
 |a::w,post=>by
  show(if a=a then nM (w++post) w+1 else 0)=_
  rw[if_pos rfl,xW w post,List.length_cons]
theorem xX{x y:Str}(h:x.cps.toList=y.cps.toList):x=y:=by
 cases x
 cases y
 simp only[Str.mk.injEq]
 exact Array.toList_inj.mp h
theorem AZ{ws:List Str}{w:Str}(h:w∈ws):pD (.str w) (.lst (ws.map PV.str))=some (.bl false):=by
 have a:(ws.map PV.str).all flat=true:=List.all_eq_true.mpr λp hp=>by
  obtain⟨y,_,rfl⟩:=List.mem_map.mp hp
  rfl
 have b:r9 (.str w) (ws.map PV.str)=true:=List.any_eq_true.mpr ⟨.str w,List.mem_map.mpr ⟨w,h,rfl⟩,by
  show(w==w)=true
  simp⟩
 show(if flat (.str w)&&(ws.map PV.str).all flat then some (PV.bl (!r9 (.str w) (ws.map PV.str)))else none)=_
 rw[a,b]
 rfl
theorem xY{ws:List Str}{sg w:Str}{n:Nat}{post:List Nat}(hs:As sg)(OU:∀v∈ws,As v)(hl:ws.length<=5000)(hlen:sg.length<=100000)(hn:n<=sg.length)(hw:w∈ws)(hr:sg.cps.toList.drop n=w.cps.toList++post)(hm:∀v∈ws,nM (w.cps.toList++post) v.cps.toList<=w.length):
  d5 ⟨ws.map PV.str,sg⟩ (n:Nat) []=some (((n+w.length:Nat):Int),.str w):=by
 have e0:w.cps.toList.length=w.length:=Array.length_toList
 obtain⟨rest,xZ⟩:∃r,r=bU sg (some (n:Int)) none 1:=⟨_,rfl⟩
 have er:rest.cps.toList=w.cps.toList++post:=by rw[xZ,AX hn,hr]
 have ar:As rest:=by rw[xZ];exact GQ hs _ _ _
 have lr:rest.length<=sg.length:=by rw[xZ];exact nI _ _ _ (by decide)
 have lw:w.length<=rest.length:=by
  have:rest.cps.toList.length=rest.length:=Array.length_toList
  rw[er,List.length_append]at this
  omega
 have c1:i4 qK (bT jR) eI (wQ ⟨ws.map PV.str,sg⟩ (n:Nat) [.un,.un,.un])=some (.str rest):=by
  rw[xZ]
  refine gO (EA _ _ _) (l:=some (n:Int)) ?_ rfl hlen
  show(jR (wQ ⟨ws.map PV.str,sg⟩ (n:Nat) [.un,.un,.un])).bind _=_
  rw[EB]
  rfl
 have c2:a8 kJ (dP (nList vd) dh (cj b5 (ae (cI 2) (ae (cI 0) aK)))) (wQ ⟨ws.map PV.str,sg⟩ (n:Nat) [.un,.sh (.str rest),.un])=some (.int (w.length:Nat)):=by
  have dc:dP (nList vd) dh (cj b5 (ae (cI 2) (ae (cI 0) aK))) (wQ ⟨ws.map PV.str,sg⟩ (n:Nat) [.un,.sh (.str rest),.un])=some (.lst (ws.map λv=>.int (nM rest.cps.toList v.cps.toList:Nat))):=by
   refine fW PV.str (λv=>.int (nM rest.cps.toList v.cps.toList:Nat)) (u4 (EC _ _ _)) hl λv hv=>?_
   exact(bO (ps:=[.str rest,.str v]) rfl).trans (yO ar (OU v hv))
  refine(bX dc).trans ?_
  have ne:ws.map (λv=>nM rest.cps.toList v.cps.toList)≠[]:=λz=>by
   rw[List.map_eq_nil_iff]at z
   rw[z]at hw
   cases hw
  obtain⟨M,h1,h2,h3⟩:=p6 _ ne
  have ep:pX (ws.map λv=>nM rest.cps.toList v.cps.toList)=.lst (ws.map λv=>.int (nM rest.cps.toList v.cps.toList:Nat)):=by
   unfold pX
   rw[List.map_map]
   rfl
  rw[ep]at h1
  rw[h1]
  have m1:=h2 _ (List.mem_map.mpr ⟨w,hw,rfl⟩)
  obtain⟨v,hv,ev⟩:=List.mem_map.mp h3
  have m2:=hm v hv
  rw[er]at m1 ev
  rw[xW,e0]at m1
  have:M=w.length:=by omega
  rw[this]
 have c3:∀k:Int,i4 (dV 1) eI (bT (dV 2)) (wQ ⟨ws.map PV.str,sg⟩ k [.un,.sh (.str rest),.sh (.int (w.length:Nat))])=some (.str w):=λk=>by
  refine(gO (y:=rest) (l:=none) (h:=some ((w.length:Nat):Int)) rfl rfl rfl (by omega)).trans ?_
  have:bU rest none (some ((w.length:Nat):Int)) 1=w:=xX (by
   rw[AY lw,er,List.take_append_of_le_length (by omega),List.take_of_length_le (by omega)])
  rw[this]
 refine sH rfl ?_
 refine(dW (ve c1 rfl)).trans ?_
 refine(dW (ve c2 rfl)).trans ?_
 refine(dW (xV (k:=(w.length:Nat)) rfl)).trans ?_
 refine(dW ((vf (bN ((ah (c3 _) (EC _ _ _)).trans (AZ hw)))).trans rfl)).trans ?_
 refine(AR (c3 _) rfl).trans ?_
 have:((n:Nat):Int)+((w.length:Nat):Int)=((n+w.length:Nat):Int):=by omega
 rw[this]
noncomputable abbrev one(c:Nat):Str:=⟨#[c]⟩
theorem beyond(x:Str)(lo hi:Nat)(h:x.length<=lo)(hh:lo<=hi):(bU x (some (lo:Int)) (some (hi:Int)) 1).cps.toList=[]:=by
 have e:Builtin.Str.strSliceIndices (some (lo:Int)) (some (hi:Int)) 1 x.length=(List.range (x.length-x.length)).map (x.length+·):=by
  have:=PySem.sliceRange_one x.length x.length
  rw[<-this]
  unfold Builtin.Str.strSliceIndices
  simp only
  congr 1
  ·rw[if_pos (by decide),if_neg (by omega)]
   omega
  ·rw[if_pos (by decide),if_neg (by omega)]
   omega
 rw[sI (Nat.le_refl _) (Nat.le_refl _) e,Nat.sub_self,List.take_zero]
theorem qa{ws:List PV}{sg:Str}{n c:Nat}(hlen:sg.length<=100000):fm [vZ ⟨ws,sg⟩ (n:Nat),.str (one c)]=some (.bl (decide ((sg.cps.toList.drop n).head?=some c))):=by
 have hl:sg.cps.toList.length=sg.length:=Array.length_toList
 refine fL rfl ?_
 have c1:i4 qK (bT jR) (bT (af bB jR (dC (.int 1)))) [.sh (vZ ⟨ws,sg⟩ (n:Nat)),.sh (.str (one c))]=some (.str (bU sg (some (n:Int)) (some ((n+1:Nat):Int)) 1)):=by
  have a1:jR [.sh (vZ ⟨ws,sg⟩ (n:Nat)),.sh (.str (one c))]=some (.int (n:Nat)):=(bX (x:=vZ ⟨ws,sg⟩ (n:Nat)) rfl).trans (AV _ _)
  refine gO (y:=sg) ((bX (x:=vZ ⟨ws,sg⟩ (n:Nat)) rfl).trans (AU _ _)) (l:=some (n:Int)) (h:=some ((n+1:Nat):Int)) ?_ ?_ hlen
  ·show(jR [.sh (vZ ⟨ws,sg⟩ (n:Nat)),.sh (.str (one c))]).bind _=_
   rw[a1]
   rfl
  ·show(af bB jR (dC (.int 1)) [.sh (vZ ⟨ws,sg⟩ (n:Nat)),.sh (.str (one c))]).bind _=_
   rw[(ah (x:=.int (n:Nat)) (y:=.int 1) a1 rfl).trans rfl]
   show some (some ((n:Int)+1))=_
   rfl
 refine(ah c1 (y:=.str (one c)) rfl).trans ?_
 show some (PV.bl (decide (bU sg (some (n:Int)) (some ((n+1:Nat):Int)) 1=one c)))=_
 congr 2
 rw[decide_eq_decide]
 by_cases h:n<sg.length
 ·have e:(bU sg (some (n:Int)) (some ((n+1:Nat):Int)) 1).cps.toList=(sg.cps.toList.drop n).take 1:=by
    have:=sI (x:=sg) (a:=n) (b:=n+1) (by omega) (by omega) (GX n (n+1) sg.length (by omega) (by omega))
    rw[this]
    congr 1
    omega
  constructor
  ·intro z
   rw[z]at e
   cases hd:sg.cps.toList.drop n with
   |nil=>rw[hd]at e;cases e
   |cons a l=>
    rw[hd]at e
    have:[c]=[a]:=e
    rw[(List.cons.inj this).1]
    rfl
  ·intro z
   refine xX (e.trans ?_)
   cases hd:sg.cps.toList.drop n with
   |nil=>rw[hd]at z;cases z
   |cons a l=>
    rw[hd]at z
    cases z
    rfl
 ·have e:=beyond sg n (n+1) (by omega) (by omega)
  have hd:sg.cps.toList.drop n=[]:=List.drop_eq_nil_of_le (by omega)
  constructor
  ·intro z
   rw[z]at e
   cases e
  ·intro z
   rw[hd]at z
   cases z
theorem sign_eq{ws:List PV}{sg:Str}{n c:Nat}{r:List Nat}(hlen:sg.length<=100000)(h:sg.cps.toList.drop n=c::r):b6 ⟨ws,sg⟩ (n:Nat) [.str (one c)]=some (((n+1:Nat):Int),.non):=by
 refine AS (ρ':=[.un,.sh (.str (one c))]) rfl ?_
 have m:eJ (nX fm) (cI 0) (ae (cI 1) aK) (wQ ⟨ws,sg⟩ (n:Nat) [.un,.sh (.str (one c))])=some (.bl true):=by
  have:=qa (ws:=ws) (sg:=sg) (n:=n) (c:=c) hlen
  rw[h]at this
  have e:decide ((c::r).head?=some c)=true:=decide_eq_true rfl
  rw[e]at this
  exact this
 refine(dW ((vf (i7 (b:=true) (bN m))).trans rfl)).trans ?_
 exact xV (k:=1) rfl
theorem wc:∀{w post v:List Nat},(∀c p v',post=c::p->v≠w++c::v')->nM (w++post) v<=w.length
 |[],[],v,_=>by
  cases v<;>exact Nat.le_refl _
 |[],c::p,[],_=>Nat.le_refl _
 |[],c::p,b::v,h=>by
  show(if c=b then nM p v+1 else 0)<=0
  rw[if_neg λe=>h c p v rfl (by rw[e];rfl)]
  exact Nat.le_refl _
 |a::w,post,[],_=>Nat.zero_le _
 |a::w,post,b::v,h=>by
  show(if a=b then nM (w++post) v+1 else 0)<=_
  split
  ·rename_i e
   have:=wc (w:=w) (post:=post) (v:=v) λc p v' e1 e2=>h c p v' e1 (by rw[e2,e];rfl)
   rw[List.length_cons]
   omega
  ·exact Nat.zero_le _
noncomputable def Behind(post:List Nat):Prop:=∀c p,post=c::p->c=44\/c=41
noncomputable def ops:List Str:=["all(","any(","1 of (","2 of (","3 of (","4 of (","5 of (","6 of (","7 of (","8 of ("]
noncomputable def x3(x:Str):Prop:=∀c∈x.cps.toList,c≠44/\c≠41
theorem DH:(ops.all λx=>x.cps.toList.all λc=>decide (c≠44)&&decide (c≠41)&&decide (c<128))=true:=by decide+kernel
theorem nN{x:Str}(h:x∈ops):x3 x/\As x:=by
 have h1:=List.all_eq_true.mp DH x h
 refine⟨λc hc=>?_,λc hc=>?_⟩<;>
 ·have h2:=List.all_eq_true.mp h1 c hc
  simp only[Bool.and_eq_true,decide_eq_true_eq]at h2
  first|exact⟨h2.1.1,h2.1.2⟩|exact h2.2
theorem wd{w v:Str}{post:List Nat}(hb:Behind post)(hv:x3 v):nM (w.cps.toList++post) v.cps.toList<=w.length:=by
 have e0:w.cps.toList.length=w.length:=Array.length_toList
 rw[<-e0]
 refine wc λc p v' e1 e2=>?_
 have hc:=hv c (by rw[e2];simp)
 rcases hb c p e1 with z|z
 ·exact hc.1 z
 ·exact hc.2 z
theorem GY:(ops.all λx=>x.cps.toList.contains 40&&ops.all λy=>!(decide (y.cps.toList.take x.cps.toList.length=x.cps.toList)&&decide (x.cps.toList.length<y.cps.toList.length)))=true:=by decide+kernel
theorem A0{w v:Str}{post:List Nat}(hw:w∈ops)(hv:v∈ops\/40∉v.cps.toList):nM (w.cps.toList++post) v.cps.toList<=w.length:=by
 have e0:w.cps.toList.length=w.length:=Array.length_toList
 have h1:=List.all_eq_true.mp GY w hw
 rw[Bool.and_eq_true]at h1
 rw[<-e0]
 refine wc λc p v' _ e2=>?_
 rcases hv with hv|hv
 ·have h2:=List.all_eq_true.mp h1.2 v hv
  have a1:v.cps.toList.take w.cps.toList.length=w.cps.toList:=by rw[e2,List.take_left'];rfl
  have a2:w.cps.toList.length<v.cps.toList.length:=by rw[e2,List.length_append,List.length_cons];omega
  rw[decide_eq_true a1,decide_eq_true a2]at h2
  cases h2
 ·refine hv ?_
  rw[e2]
  exact List.mem_append_left _ (List.contains_iff_mem.mp h1.1)
structure sJ(x:Str):Prop where
 as:As x
 ne:x3 x
 no:40∉x.cps.toList
noncomputable abbrev sL(names:List Str):List PV:=(names++ops).map PV.str
section
variable{t:Rg}{n m:Int}{ρ ρ':c8}{g:hV}{f:Den}{p:PV}
theorem vg{i:Nat}(h:g t n ρ=some (m,p))(hf:flat p=true):uV i g t n ρ=some (m,.nx (ρ.set i (.sh p))):=by
 unfold uV
 rw[h]
 show(if flat p=true then _ else _)=_
 rw[if_pos hf]
theorem A2(h:f ρ=some p):uT f t n ρ=some (n,.rt p):=by
 unfold uT
 rw[h]
 rfl
theorem DJ{a b:dn}(h:a t n ρ=some (m,.rt p)):eQ a b t n ρ=some (m,.rt p):=by
 unfold eQ
 rw[h]
 rfl
theorem fX{F:FQ}{as:dg}{ps:List PV}(h:as (wQ t n ρ)=some ps)(hf:ps.all flat=true):fF F as t n ρ=F t n ps:=by
 unfold fF
 rw[h]
 show(if ps.all flat=true then _ else _)=_
 rw[if_pos hf]
theorem qb(h:g t n ρ=some (m,p)):mF g t n ρ=some (m,.nx ρ):=by
 unfold mF
 rw[h]
 rfl
end
theorem DK:(mK.all λq=>q.1.cps.toList.contains 40)=true:=by decide+kernel
theorem yP{x:Str}(h:40∉x.cps.toList):mK.lookup x=none:=by
 have hk:∀q∈mK,q.1≠x:=λq hq e=>by
  have:=List.all_eq_true.mp DK q hq
  rw[e]at this
  exact h (List.contains_iff_mem.mp this)
 revert hk
 generalize mK=l
 induction l with
 |nil=>intro _;rfl
 |cons q l ih=>
  intro hk
  obtain⟨k,i⟩:=q
  rw[List.lookup_cons]
  have:(x==k)=false:=by
   rw[beq_eq_false_iff_ne]
   exact λe=>hk (k,i) (List.mem_cons_self ..) e.symm
  rw[this]
  exact ih λq hq=>hk q (List.mem_cons_of_mem _ hq)
theorem A3{names:List Str}(hN:∀x∈names,sJ x):∀v∈names++ops,As v:=λv hv=>(List.mem_append.mp hv).elim (λh=>(hN v h).as) λh=>(nN h).2
theorem yQ{names:List Str}(hN:∀x∈names,sJ x):∀v∈names++ops,x3 v:=λv hv=>(List.mem_append.mp hv).elim (λh=>(hN v h).ne) λh=>(nN h).1
theorem yR{names:List Str}(hN:∀x∈names,sJ x)(hl:names.length<=1000){x:Str}(hx:x∈names){sg:Str}{n:Nat}{post:List Nat}(hs:As sg)(hlen:sg.length<=100000)(hn:n<=sg.length)(hr:sg.cps.toList.drop n=x.cps.toList++post)(hb:Behind post)(FP:FQ):
  oJ false 2 1 (d6 FP) ⟨sL names,sg⟩ (n:Nat) []=some (((n+x.length:Nat):Int),.ins 0 [.str x]):=by
 have w1:=xY (ws:=names++ops) (n:=n) hs (A3 hN) (by rw[List.length_append];have:ops.length=10:=rfl;omega) hlen hn (List.mem_append_left _ hx) hr λv hv=>wd hb (yQ hN v hv)
 refine sH rfl ?_
 refine(dW (vg ((fX (ps:=[]) rfl rfl).trans w1) rfl)).trans ?_
 refine DJ ((Ju ?_).trans (A2 rfl))
 refine bN ((bX (x:=.str x) rfl).trans ?_)
 show some (PV.bl !(mK.lookup x).isSome)=_
 rw[yP (hN x hx).no]
 rfl
noncomputable def nO(names:List Str)(F:FQ)(i:It):Prop:=∀{sg:Str} {n:Nat} {post:List Nat},As sg->sg.length<=100000->n<=sg.length->sg.cps.toList.drop n=i.t.cps.toList++post->Behind post->F ⟨sL names,sg⟩ (n:Nat) []=some (((n+i.t.length:Nat):Int),i.o)
noncomputable def eN:List It->List Nat
 |[]=>[]
 |i::l=>44::32::(i.t.cps.toList++eN l)
noncomputable def jV:List It->Nat
 |[]=>0
 |i::l=>2+i.t.length+jV l
theorem mL(l:List It)(post:List Nat):Behind (eN l++41::post):=by
 intro c p e
 cases l with
 |nil=>exact .inr (List.cons.inj e).1.symm
 |cons i l=>exact .inl (List.cons.inj e).1.symm
theorem gD{l a b:List Nat}{n:Nat}(h:l.drop n=a++b):l.drop (n+a.length)=b:=by
 rw[<-List.drop_drop,h,List.drop_left']
 rfl
section
variable{t:Rg}{n m:Int}{ρ:c8}{g:hV}{p:PV}
theorem DL{i:Nat}{l:List PV}(ho:uo ρ i=some l)(h:g t n ρ=some (m,p))(hl:l.length<sizeLine):Ay i g t n ρ=some (m,.nx (ρ.set i (.ow (l++[p])))):=by
 unfold Ay
 rw[ho]
 show((g t n ρ).bind _)=_
 rw[h]
 show(if l.length<sizeLine then _ else _)=_
 rw[if_pos hl]
end
theorem qc{names:List Str}{FT:FQ}{sg:Str}(hs:As sg)(hlen:sg.length<=100000){few:Nat}{post:List Nat}:∀(rest nZ:List It) (n k:Nat),(∀i∈rest,nO names FT i)->nZ.length+rest.length<=8->few<=nZ.length+rest.length->rest.length<k->n<=sg.length->sg.cps.toList.drop n=eN rest++41::post->
  il nK (nL FT) k ⟨sL names,sg⟩ (n:Nat) [.un,.sh (.int (few:Nat)),.ow (nZ.map It.o)]=some (((n+jV rest:Nat):Int),.nx [.un,.sh (.int (few:Nat)),.ow ((nZ++rest).map It.o)])
 |[],nZ,n,0,_,_,_,h,_,_=>absurd h (by omega)
 |_::_,nZ,n,0,_,_,_,h,_,_=>absurd h (by omega)
 |[],nZ,n,k+1,hi,h8,hf,hk,hn,hd=>by
  have l1:a8 dY (dV 2) (wQ ⟨sL names,sg⟩ (n:Nat) [.un,.sh (.int (few:Nat)),.ow (nZ.map It.o)])=some (.int (nZ.length:Nat)):=by
   show some (PV.int ((nZ.map It.o).length:Nat))=_
   rw[List.length_map]
  have c1:nK (wQ ⟨sL names,sg⟩ (n:Nat) [.un,.sh (.int (few:Nat)),.ow (nZ.map It.o)])=some false:=by
   refine(jA (bN ((ah l1 (y:=.int (few:Nat)) rfl).trans ?_))).trans (i7 (b:=true) (bN ?_))
   ·show some (PV.bl (decide ((nZ.length:Int)<(few:Int))))=_
    rw[decide_eq_false (by simp at hf;omega)]
   ·have:=qa (ws:=sL names) (sg:=sg) (n:=n) (c:=41) hlen
    rw[hd]at this
    exact this
  unfold il
  rw[c1,List.append_nil]
  rfl
 |i::rest,nZ,n,k+1,hi,h8,hf,hk,hn,hd=>by
  have zl:(5000:Nat)<=sizeLine:=by decide
  have e0:i.t.cps.toList.length=i.t.length:=Array.length_toList
  have el:sg.cps.toList.length=sg.length:=Array.length_toList
  rw[List.length_cons]at h8 hf hk
  have l1:∀m:Int,a8 dY (dV 2) (wQ ⟨sL names,sg⟩ m [.un,.sh (.int (few:Nat)),.ow (nZ.map It.o)])=some (.int (nZ.length:Nat)):=λm=>by
   show some (PV.int ((nZ.map It.o).length:Nat))=_
   rw[List.length_map]
  have c1:nK (wQ ⟨sL names,sg⟩ (n:Nat) [.un,.sh (.int (few:Nat)),.ow (nZ.map It.o)])=some true:=by
   by_cases tS:nZ.length<few
   ·refine xQ (bN ((ah (l1 _) (y:=.int (few:Nat)) rfl).trans ?_))
    show some (PV.bl (decide ((nZ.length:Int)<(few:Int))))=_
    rw[decide_eq_true (by omega)]
   ·refine(jA (bN ((ah (l1 _) (y:=.int (few:Nat)) rfl).trans ?_))).trans (i7 (b:=false) (bN ?_))
    ·show some (PV.bl (decide ((nZ.length:Int)<(few:Int))))=_
     rw[decide_eq_false (by omega)]
    ·have:=qa (ws:=sL names) (sg:=sg) (n:=n) (c:=41) hlen
     rw[hd]at this
     exact this
  have d1:sg.cps.toList.drop n=44::(32::(i.t.cps.toList++eN rest)++41::post):=hd
  have d2:sg.cps.toList.drop (n+1)=32::((i.t.cps.toList++eN rest)++41::post):=gD (a:=[44]) d1
  have d3:sg.cps.toList.drop (n+1+1)=i.t.cps.toList++(eN rest++41::post):=(gD (a:=[32]) d2).trans (List.append_assoc ..)
  have n3:n+1+1<=sg.length:=by
   have:=congrArg List.length d1
   rw[List.length_drop,List.length_cons,List.length_append,List.length_cons]at this
   omega
  have n4:n+1+1+i.t.length<=sg.length:=by
   have:=congrArg List.length d3
   rw[List.length_drop,List.length_append]at this
   omega
  have b1:nL FT ⟨sL names,sg⟩ (n:Nat) [.un,.sh (.int (few:Nat)),.ow (nZ.map It.o)]=some (((n+1+1+i.t.length:Nat):Int),.nx [.un,.sh (.int (few:Nat)),.ow ((nZ++[i]).map It.o)]):=by
   refine(dW ((vf (bN ((ah (l1 _) (y:=.int 8) rfl).trans ?_))).trans rfl)).trans ?_
   ·show some (PV.bl (decide ((nZ.length:Int)=8)))=_
    rw[decide_eq_false (by omega)]
   refine(dW (qb ((fX (ps:=[.str (one 44)]) rfl rfl).trans (sign_eq hlen d1)))).trans ?_
   refine(dW (qb ((fX (ps:=[.str (one 32)]) rfl rfl).trans (sign_eq hlen d2)))).trans ?_
   refine(DL (l:=nZ.map It.o) rfl ((fX (ps:=[]) rfl rfl).trans (hi i (List.mem_cons_self ..) hs hlen n3 d3 (mL rest post))) (by rw[List.length_map];omega)).trans ?_
   rw[List.map_append]
   rfl
  have ih:=qc hs hlen (few:=few) (post:=post) rest (nZ++[i]) (n+1+1+i.t.length) k (λj hj=>hi j (List.mem_cons_of_mem _ hj)) (by rw[List.length_append];simp;omega) (by rw[List.length_append];simp;omega) (by omega) n4 (by rw[<-e0];exact gD d3)
  unfold il
  rw[c1]
  show((nL FT ⟨sL names,sg⟩ (n:Nat) [.un,.sh (.int (few:Nat)),.ow (nZ.map It.o)]).bind _)=_
  rw[b1]
  refine ih.trans ?_
  rw[List.append_assoc]
  have:n+1+1+i.t.length+jV rest=n+jV (i::rest):=by
   show _=n+(2+i.t.length+jV rest)
   omega
  rw[this]
  rfl
section
variable{t:Rg}{n m:Int}{ρ:c8}{g:hV}{p:PV}
theorem yS{i:Nat}(h:g t n ρ=some (m,p)):pV i g t n ρ=some (m,.nx (ρ.set i (.ow [p]))):=by
 unfold pV
 rw[h]
 rfl
theorem A4{i:Nat}{l:List PV}(h:uo ρ i=some l):uU i t n ρ=some (n,.rt (.lst l)):=by
 unfold uU
 rw[h]
 rfl
theorem A5{F:List PV->Option PV}{f:Den}{a r:PV}(h1:f (wQ t n ρ)=some a)(ha:flat a=true)(h2:g t n ρ=some (m,p))(h3:F [a,p]=some r):uZ F f g t n ρ=some (m,.rt r):=by
 unfold uZ
 rw[h1]
 show(if flat a=true then _ else _)=_
 rw[if_pos ha,h2]
 show(F [a,p]).map _=_
 rw[h3]
 rfl
end
theorem A6{names:List Str}{FT:FQ}{sg:Str}(hs:As sg)(hlen:sg.length<=100000){few n:Nat}{post:List Nat}{i:It}{rest:List It}(hi:∀j∈i::rest,nO names FT j)(h8:rest.length+1<=8)(hf:few<=rest.length+1)(hn:n<=sg.length)(hd:sg.cps.toList.drop n=i.t.cps.toList++(eN rest++41::post)):
  oJ true 3 2 (dw FT) ⟨sL names,sg⟩ (n:Nat) [.int (few:Nat)]=some (((n+i.t.length+jV rest+1:Nat):Int),.lst ((i::rest).map It.o)):=by
 have e0:i.t.cps.toList.length=i.t.length:=Array.length_toList
 have el:sg.cps.toList.length=sg.length:=Array.length_toList
 have d1:sg.cps.toList.drop (n+i.t.length)=eN rest++41::post:=by
  rw[<-e0]
  exact gD hd
 have n1:n+i.t.length<=sg.length:=by
  have:=congrArg List.length hd
  rw[List.length_drop,List.length_append]at this
  omega
 have tl:(eN rest).length=jV rest:=by
  clear hd d1 h8 hf hi
  induction rest with
  |nil=>rfl
  |cons j l ih=>
   show(44::32::(j.t.cps.toList++eN l)).length=2+j.t.length+jV l
   have e1:j.t.cps.toList.length=j.t.length:=Array.length_toList
   rw[List.length_cons,List.length_cons,List.length_append,ih,e1]
   omega
 have d2:sg.cps.toList.drop (n+i.t.length+jV rest)=41::post:=by
  rw[<-tl]
  exact gD d1
 refine sH rfl ?_
 refine(dW (yS (p:=i.o) ((fX (ps:=[]) rfl rfl).trans (hi i (List.mem_cons_self ..) hs hlen hn hd (mL rest post))))).trans ?_
 refine(dW (qc hs hlen (few:=few) (post:=post) rest [i] (n+i.t.length) 10 (λj hj=>hi j (List.mem_cons_of_mem _ hj)) (by simp;omega) (by simp;omega) (by omega) n1 d1)).trans ?_
 refine(dW (qb ((fX (ps:=[.str (one 41)]) rfl rfl).trans (sign_eq hlen d2)))).trans ?_
 exact A4 rfl
theorem A7{names:List Str}(hN:∀x∈names,sJ x)(hl:names.length<=1000){FT:FQ}{sg:Str}(hs:As sg)(hlen:sg.length<=100000){w:Str}(hw:w∈ops){few n:Nat}(hk:mK.lookup w=some (few:Int)){post:List Nat}{i:It}{rest:List It}{r:PV}(hi:∀j∈i::rest,nO names FT j)(h8:rest.length+1<=8)(hf:few<=rest.length+1)(hn:n<=sg.length)
  (hd:sg.cps.toList.drop n=w.cps.toList++(i.t.cps.toList++(eN rest++41::post)))(hc:aT [.str w,.lst ((i::rest).map It.o)]=some r):
  oJ false 2 1 (d6 (oJ true 3 2 (dw FT))) ⟨sL names,sg⟩ (n:Nat) []=some (((n+w.length+i.t.length+jV rest+1:Nat):Int),r):=by
 have e0:w.cps.toList.length=w.length:=Array.length_toList
 have el:sg.cps.toList.length=sg.length:=Array.length_toList
 have w1:=xY (ws:=names++ops) (n:=n) hs (A3 hN) (by rw[List.length_append];have:ops.length=10:=rfl;omega) hlen hn (List.mem_append_right _ hw) hd λv hv=>A0 hw ((List.mem_append.mp hv).elim (λh=>.inr (hN v h).no) .inl)
 have n1:n+w.length<=sg.length:=by
  have:=congrArg List.length hd
  rw[List.length_drop,List.length_append]at this
  omega
 have d1:sg.cps.toList.drop (n+w.length)=i.t.cps.toList++(eN rest++41::post):=by
  rw[<-e0]
  exact gD hd
 refine sH rfl ?_
 refine(dW (vg ((fX (ps:=[]) rfl rfl).trans w1) rfl)).trans ?_
 refine(dW ((vf (bN ((bX (x:=.str w) rfl).trans ?_))).trans rfl)).trans ?_
 ·show some (PV.bl !(mK.lookup w).isSome)=_
  rw[hk]
  rfl
 refine A5 (a:=.str w) rfl rfl ((fX (ps:=[.int (few:Nat)]) ?_ rfl).trans (A6 hs hlen hi h8 hf n1 d1)) hc
 refine au ((bX (x:=.str w) rfl).trans ?_) rfl
 show(mK.lookup w).map PV.int=_
 rw[hk]
 rfl
theorem GZ{x y:Str}(h:x≠y){a b:Den}{ρ:c8}(ha:a ρ=some (.str x))(hb:b ρ=some (.str y)):tV (af nh a b) ρ=some false:=by
 refine bN ((ah ha hb).trans ?_)
 show some (PV.bl (decide (x=y)))=_
 rw[decide_eq_false h]
theorem Jw{x:Str}{a b:Den}{ρ:c8}(ha:a ρ=some (.str x))(hb:b ρ=some (.str x)):tV (af nh a b) ρ=some true:=by
 refine bN ((ah ha hb).trans ?_)
 show some (PV.bl (decide (x=x)))=_
 rw[decide_eq_true rfl]
theorem G0(l:List PV):aT [.str "all(",.lst l]=some (.ins 1 [.int (l.length:Nat),.tup l]):=by
 refine fV rfl ?_
 exact ku ((ia (Jw rfl rfl)).trans (fj rfl))
theorem ya:("any(" :Str)≠ "all(" :=by decide+kernel
theorem G1(l:List PV):aT [.str "any(",.lst l]=some (.ins 2 [.int 1,.tup l]):=by
 refine fV rfl ?_
 refine(az ((eL (GZ ya rfl rfl)).trans rfl)).trans ?_
 exact ku ((ia (Jw rfl rfl)).trans (fj rfl))
noncomputable def zh(m:Nat):Str:=(toString (m:Int):Str)++(" of (" :Str)
theorem DM:((List.range 8).all λk=>ops.contains (zh (k+1))&&decide (mK.lookup (zh (k+1))=some ((k+1:Nat):Int))&&!decide (zh (k+1)= "all(")&&!decide (zh (k+1)= "any("))=true:=by decide+kernel
theorem sM{m:Nat}(h1:1<=m)(h8:m<=8):zh m∈ops/\mK.lookup (zh m)=some (m:Int)/\zh m≠ "all(" /\zh m≠ "any(" :=by
 have:=List.all_eq_true.mp DM (m-1) (List.mem_range.mpr (by omega))
 rw[show m-1+1=m by omega]at this
 simp only[Bool.and_eq_true,Bool.not_eq_true',decide_eq_true_eq,decide_eq_false_iff_not,List.contains_iff_mem]at this
 exact⟨this.1.1.1,this.1.1.2,this.1.2,this.2⟩
theorem DN{m:Nat}(h1:1<=m)(h8:m<=8)(l:List PV):aT [.str (zh m),.lst l]=some (.ins 3 [.int (m:Nat),.tup l]):=by
 obtain⟨_,a2,a3,a4⟩:=sM h1 h8
 refine fV rfl ?_
 refine(az ((eL (GZ a3 rfl rfl)).trans rfl)).trans ?_
 refine(az ((eL (GZ a4 rfl rfl)).trans rfl)).trans ?_
 refine fj ((ah (x:=.int (m:Nat)) (y:=.lst l) ((bX (x:=.str (zh m)) rfl).trans ?_) rfl).trans rfl)
 show(mK.lookup (zh m)).map PV.int=_
 rw[a2]
 rfl
theorem A8:("all(" :Str)∈ops/\mK.lookup ("all(" :Str)=some ((1:Nat):Int):=by decide+kernel
theorem A9:("any(" :Str)∈ops/\mK.lookup ("any(" :Str)=some ((1:Nat):Int):=by decide+kernel
theorem G2:((", " :Str)).cps.toList=[44,32]:=by decide+kernel
theorem vh:∀(rest:List It) (a:Array Nat),(((rest.map It.t).foldl (λacc (p:Str)=>acc++(", " :Str).cps++p.cps) a)).toList=a.toList++eN rest
 |[],a=>by simp[eN]
 |i::l,a=>by
  rw[List.map_cons,List.foldl_cons,vh l,Array.toList_append,Array.toList_append,G2]
  show _=a.toList++44::32::(i.t.cps.toList++eN l)
  simp
theorem Ba(i:It)(rest:List It):(Txt.join (", " :Str) ((i::rest).map It.t)).cps.toList=i.t.cps.toList++eN rest:=by
 show(((rest.map It.t).foldl (λacc (p:Str)=>acc++(", " :Str).cps++p.cps) i.t.cps)).toList=_
 exact vh rest i.t.cps
theorem rD:∀rest:List It,(eN rest).length=jV rest
 |[]=>rfl
 |j::l=>by
  show(44::32::(j.t.cps.toList++eN l)).length=2+j.t.length+jV l
  have e1:j.t.cps.toList.length=j.t.length:=Array.length_toList
  rw[List.length_cons,List.length_cons,List.length_append,rD l,e1]
  omega
theorem x4(x y:Str):(x++y).cps.toList=x.cps.toList++y.cps.toList:=by
 show(x.cps++y.cps).toList=_
 exact Array.toList_append ..
theorem Jx:((")" :Str)).cps.toList=[41]:=by decide+kernel
theorem yT{names:List Str}(hN:∀x∈names,sJ x)(hl:names.length<=1000){FT:FQ}{w:Str}(hw:w∈ops){few:Nat}(hk:mK.lookup w=some (few:Int)){its:List It}{r s:PV}{d:Nat}(h0:its≠[])(hi:∀j∈its,nO names FT j)(h8:its.length<=8)(hf:few<=its.length)(hc:aT [.str w,.lst (its.map It.o)]=some r):
  nO names (oJ false 2 1 (d6 (oJ true 3 2 (dw FT)))) ⟨r,s,w++(Txt.join (", " :Str) (its.map It.t)++(")" :Str)),d⟩:=by
 intro sg n post hs hlen hn hd hb
 cases its with
 |nil=>exact absurd rfl h0
 |cons i rest=>
  have e:(w++(Txt.join (", " :Str) ((i::rest).map It.t)++(")" :Str))).cps.toList=w.cps.toList++((i.t.cps.toList++eN rest)++[41]):=by
   rw[x4,x4,Ba,Jx]
  have HU:sg.cps.toList.drop n=w.cps.toList++(i.t.cps.toList++(eN rest++41::post)):=by
   rw[hd]
   show(w++(Txt.join (", " :Str) ((i::rest).map It.t)++(")" :Str))).cps.toList++post=_
   rw[e]
   simp
  refine(A7 hN hl hs hlen hw hk hi h8 hf hn HU hc).trans ?_
  have el:(w++(Txt.join (", " :Str) ((i::rest).map It.t)++(")" :Str))).length=w.length+i.t.length+jV rest+1:=by
   have h1:(w++(Txt.join (", " :Str) ((i::rest).map It.t)++(")" :Str))).cps.toList.length=(w++(Txt.join (", " :Str) ((i::rest).map It.t)++(")" :Str))).length:=Array.length_toList
   rw[<-h1,e,List.length_append,List.length_append,List.length_append,rD]
   have e1:w.cps.toList.length=w.length:=Array.length_toList
   have e2:i.t.cps.toList.length=i.t.length:=Array.length_toList
   rw[e1,e2]
   show w.length+(i.t.length+jV rest+1)=_
   omega
  show some (((n+w.length+i.t.length+jV rest+1:Nat):Int),r)=some (((n+(w++(Txt.join (", " :Str) ((i::rest).map It.t)++(")" :Str))).length:Nat):Int),r)
  rw[el]
  have:n+w.length+i.t.length+jV rest+1=n+(w.length+i.t.length+jV rest+1):=by omega
  rw[this]
noncomputable def Bb(names:List Str)(i:It):Prop:=∀m,i.d<=m->nO names (cp (m+1)) i
section
variable{names:List Str}(hN:∀x∈names,sJ x)(hl:names.length<=1000)
include hN hl
theorem Bc{x:Str}(hx:x∈names){s:PV}:Bb names ⟨.ins 0 [.str x],s,x,0⟩:=λm _=>λ{sg n post} hs hlen hn hd hb=>yR hN hl hx hs hlen hn hd hb _
theorem sN{w:Str}(hw:w∈ops){few:Nat}(hk:mK.lookup w=some (few:Int)){its:List It}{r s:PV}{n:Nat}(h0:its≠[])(h8:its.length<=8)(hf:few<=its.length)(hi:∀i∈its,Bb names i/\i.d<=n)(hc:aT [.str w,.lst (its.map It.o)]=some r):
  Bb names ⟨r,s,w++(Txt.join (", " :Str) (its.map It.t)++(")" :Str)),1+n⟩:=λm hm=>by
 have Mf:1+n<=m:=hm
 obtain⟨k,rfl⟩:∃k,m=k+1:=⟨m-1,by omega⟩
 exact @λsg n0 post hs hlen hn hd hb=>yT (s:=s) (d:=1+n) hN hl hw hk h0 (λj hj=>(hi j hj).1 k (by have:=(hi j hj).2;omega)) h8 hf hc (sg:=sg) (n:=n0) (post:=post) hs hlen hn hd hb
theorem DR{its:List It}{s:PV}{n:Nat}(h0:its≠[])(h8:its.length<=8)(hi:∀i∈its,Bb names i/\i.d<=n):Bb names ⟨.ins 1 [.int (its.length:Nat),.tup (its.map It.o)],s,("all(" :Str)++(Txt.join (", " :Str) (its.map It.t)++(")" :Str)),1+n⟩:=
 sN hN hl A8.1 A8.2 h0 h8 (by cases its with|nil=>exact absurd rfl h0|cons _ _=>simp) hi ((G0 _).trans (by rw[List.length_map]))
theorem DU{its:List It}{s:PV}{n:Nat}(h0:its≠[])(h8:its.length<=8)(hi:∀i∈its,Bb names i/\i.d<=n):Bb names ⟨.ins 2 [.int 1,.tup (its.map It.o)],s,("any(" :Str)++(Txt.join (", " :Str) (its.map It.t)++(")" :Str)),1+n⟩:=
 sN hN hl A9.1 A9.2 h0 h8 (by cases its with|nil=>exact absurd rfl h0|cons _ _=>simp) hi (G1 _)
theorem Bd{its:List It}{s:PV}{n m:Nat}(h0:its≠[])(h8:its.length<=8)(hi:∀i∈its,Bb names i/\i.d<=n)(h1:1<=m)(hm:m<=its.length):Bb names ⟨.ins 3 [.int (m:Nat),.tup (its.map It.o)],s,zh m++(Txt.join (", " :Str) (its.map It.t)++(")" :Str)),1+n⟩:=
 sN hN hl (sM h1 (by omega)).1 (sM h1 (by omega)).2.1 h0 h8 hm hi (DN h1 (by omega) _)
theorem DV{i:It}(hi:Bb names i)(hd:i.d<=22)(hs:As i.t)(hlen:i.t.length<=100000):eS [.tup (names.map PV.str),.str i.t]=some i.o:=by
 have zl:(100000:Nat)<=sizeLine:=by decide
 have el:i.t.cps.toList.length=i.t.length:=Array.length_toList
 have f1:jU [.tup (names.map PV.str),.str i.t]=some ⟨sL names,i.t⟩:=by
  have a1:af bB (a8 uj (dV 1)) (dC (.lst kF)) [.un,.sh (.tup (names.map PV.str)),.sh (.str i.t)]=some (.lst (sL names)):=by
   refine(ah (x:=.lst (names.map PV.str)) (y:=.lst kF) rfl rfl).trans ?_
   show(if(names.map PV.str).length+kF.length<=sizeLine then some (PV.lst (names.map PV.str++kF))else none)=_
   rw[if_pos (by rw[List.length_map];have:kF.length=10:=rfl;omega)]
   unfold sL
   rw[List.map_append]
   rfl
  unfold jU rn
  show((af bB (a8 uj (dV 1)) (dC (.lst kF)) [.un,.sh (.tup (names.map PV.str)),.sh (.str i.t)]).bind _)=_
  rw[a1]
  rfl
 have f2:=hi 23 (by omega) (sg:=i.t) (n:=0) (post:=[]) hs hlen (Nat.zero_le _) (by rw[List.drop_zero,List.append_nil]) (λc p e=>by cases e)
 have f3:eR ⟨sL names,i.t⟩ ((0+i.t.length:Nat):Int) []=some (((0+i.t.length:Nat):Int),.non):=by
  refine AS (ρ':=[.un]) rfl ((vf (bN ?_)).trans rfl)
  refine(ah (x:=.int ((0+i.t.length:Nat):Int)) (y:=.int (i.t.length:Nat)) (EB _ _ _) ((bX (EA _ _ _)).trans (if_pos (Nat.le_trans hlen zl)))).trans ?_
  show some (PV.bl (decide (((0+i.t.length:Nat):Int)<(i.t.length:Int))))=_
  rw[decide_eq_false (by omega)]
 refine fV rfl ?_
 show(if 2<4/\3<4 then _ else none)=_
 rw[if_pos ⟨by decide,by decide⟩]
 show((jU [.tup (names.map PV.str),.str i.t]).bind _)=_
 rw[f1]
 show((cp 24 ⟨sL names,i.t⟩ ((0:Nat):Int) []).bind _)=_
 rw[f2]
 show((eR ⟨sL names,i.t⟩ ((0+i.t.length:Nat):Int) []).map _)=_
 rw[f3]
 rfl
end
end L2.D.Rq
namespace L2.D.My
open PySem
noncomputable def mM(aG:Nat->List PV->Option PV):aU:=(bV (gd (ae (dC (.str "all")) (ae (eJ aG (cI 0) aK) aK))))
noncomputable def n5(aN:Nat->List PV->Option PV):aU:=(bV (af bB (af bB (dC (.str "all(")) (eJ aN (cI 0) aK)) (dC (.str ")"))))
noncomputable def mN(aG:Nat->List PV->Option PV):aU:=(bV (gd (ae (dC (.str "any")) (ae (eJ aG (cI 0) aK) aK))))
noncomputable def n6(aN:Nat->List PV->Option PV):aU:=(bV (af bB (af bB (dC (.str "any(")) (eJ aN (cI 0) aK)) (dC (.str ")"))))
noncomputable def bb(bL:Nat->List PV->Option PV):aU:=(bV (a8 sf (dP (zK (a8 (gk jD "parts") (dV 0))) dh (eJ bL (cI 0) aK))))
noncomputable def bt(cq:Nat->List PV->Option PV):aU:=(bV (af uq (dC (.str ", ")) (dP (zK (a8 (gk jD "parts") (dV 0))) dh (eJ cq (cI 0) aK))))
noncomputable def kN:aU:=(bV (gd (ae (dC (.str "hand")) (ae (a8 (gk jD "name") (dV 0)) aK))))
noncomputable def mO:aU:=(bV (a8 (gk jD "name") (dV 0)))
noncomputable def kO(aG:Nat->List PV->Option PV):aU:=(bV (gd (ae (dC (.str "some")) (ae (a8 (gk jD "wanted") (dV 0)) (ae (eJ aG (cI 0) aK) aK)))))
noncomputable def mP(aN:Nat->List PV->Option PV):aU:=(bV (af bB (af bB (af bB (a8 yv (a8 (gk jD "wanted") (dV 0))) (dC (.str " of ("))) (eJ aN (cI 0) aK)) (dC (.str ")"))))
noncomputable def dz(bL:Nat->List PV->Option PV):Nat->List PV->Option PV
 |1=>fn false 1 1 (bb bL)
 |2=>fn false 1 1 (bb bL)
 |3=>fn false 1 1 (bb bL)
 |_=>λ_=>none
noncomputable def fq:Nat->Nat->List PV->Option PV
 |0,_=>λ_=>none
 |n+1,0=>fn false 1 1 (kN)
 |n+1,1=>fn false 1 1 (mM (dz (fq n)))
 |n+1,2=>fn false 1 1 (mN (dz (fq n)))
 |n+1,3=>fn false 1 1 (kO (dz (fq n)))
 |_+1,_=>λ_=>none
noncomputable def bL:Nat->List PV->Option PV:=fq 24
noncomputable def eG(cq:Nat->List PV->Option PV):Nat->List PV->Option PV
 |1=>fn false 1 1 (bt cq)
 |2=>fn false 1 1 (bt cq)
 |3=>fn false 1 1 (bt cq)
 |_=>λ_=>none
noncomputable def gp:Nat->Nat->List PV->Option PV
 |0,_=>λ_=>none
 |n+1,0=>fn false 1 1 (mO)
 |n+1,1=>fn false 1 1 (n5 (eG (gp n)))
 |n+1,2=>fn false 1 1 (n6 (eG (gp n)))
 |n+1,3=>fn false 1 1 (mP (eG (gp n)))
 |_+1,_=>λ_=>none
noncomputable def cq:Nat->List PV->Option PV:=gp 24
noncomputable def ip:aU:=(aX (iV (tV (af B7 (dV 1) (a8 dY (dV 0)))) (bV (af kj (dV 0) (dV 1))) cB) (bV (dC (.int 0))))
noncomputable def F_law_cell_at:List PV->Option PV:=fn false 2 2 (ip)
noncomputable def we:aU:=(aX (cN 4 (dC (.str "abcdefghijklmnopqrstuvwxyz"))) (aX (cN 5 (af kj (dV 4) (af cX (af bB (af En (dV 4) (af kj (dV 0) (dV 1))) (af ny (dC (.int 3)) (dV 3))) (dC (.int 26))))) (bV (af bB (af bB (i4 (dV 0) eI (bT (dV 1))) (dV 5)) (i4 (dV 0) (bT (af bB (dV 1) (dC (.int 1)))) (bT (dV 2)))))))
noncomputable def bI:List PV->Option PV:=fn false 6 4 (we)
noncomputable def i9:aU:=(aX (cN 2 (af cX (af bB (af bB (af bB (af ny (dV 2) (dV 2)) (af ny (dC (.int 48271)) (dV 2))) (dV 4)) (dC (.int 1))) (dC (.int 2147483647)))) (cN 3 (af bB (dV 3) (af kj (dC (.str "abcdefghijklmnopqrstuvwxyz")) (af cX (dV 2) (dC (.int 26)))))))
noncomputable def wg:aU:=(aX (cN 2 (af cX (af bB (af ny (af cX (dV 0) (dC (.int 2147483647))) (dC (.int 16807))) (dC (.int 11))) (dC (.int 2147483647)))) (aX (cN 3 (dC (.str ""))) (aX (pG (kG (dV 1)) (bW 4) i9) (bV (cI 3)))))
noncomputable def F_law_base:List PV->Option PV:=fn false 5 2 (wg)
noncomputable def iq(F_law_cell_at bI F_law_base:List PV->Option PV):aU:=(aX (cN 10 (cj bI (ae (cI 7) (ae (af cX (af iZ (dV 3) (dC (.int 80))) (dV 4)) (ae (cI 4) (ae (cI 9) aK)))))) (aX (iV (tV (af nh (af cX (af iZ (dV 3) (dC (.int 20))) (dC (.int 4))) (dC (.int 1)))) (cN 10 (i4 (dV 7) eI (bT (af bB (dV 9) (dC (.int 1)))))) cB) (aX (iV (tV (af IV (dV 10) (gd (ae (dC (.str "all")) (ae (dC (.str "any")) (ae (dC (.str "of")) aK)))))) (cN 10 (a8 Ga (dV 10))) cB) (pF 8 hU (ae (cI 10) aK)))))
noncomputable def n8(F_law_cell_at bI F_law_base:List PV->Option PV):aU:=(aX (cN 3 (cj F_law_cell_at (ae (cI 0) (ae (cI 1) aK)))) (aX (cN 4 (af bB (dC (.int 1)) (af cX (dV 3) (dC (.int 20))))) (aX (cN 5 (cj F_law_cell_at (ae (cI 0) (ae (af bB (dV 1) (dC (.int 1))) aK)))) (aX (cN 6 (af kj (vQ (ae (dC (.str "")) (ae (dC (.str "")) (ae (dC (.str "all")) (ae (dC (.str "")) (ae (dC (.str "any")) (ae (dC (.str "")) (ae (dC (.str "of")) (ae (dC (.str "al")) aK))))))))) (af cX (dV 5) (dC (.int 8))))) (aX (cN 7 (i4 (af bB (dV 6) (cj F_law_base (ae (af iZ (dV 5) (dC (.int 8))) (ae (dC (.int 20)) aK)))) eI (bT (dC (.int 20))))) (aX (mq 8 (vQ aK)) (aX (pG (kG (dV 2)) (bW 9) (iq F_law_cell_at bI F_law_base)) (El 8))))))))
noncomputable def eY:List PV->Option PV:=fn true 11 3 (n8 F_law_cell_at bI F_law_base)
noncomputable def wj(eY F_law_cell_at:List PV->Option PV):aU:=(bV (a8 sf (cj eY (ae (cI 0) (ae (dC (.int 2)) (ae (af bB (dC (.int 1)) (af cX (cj F_law_cell_at (ae (cI 0) (ae (dC (.int 0)) aK))) (dC (.int 6)))) aK))))))
noncomputable def F_law_roll:List PV->Option PV:=fn false 1 1 (wj eY F_law_cell_at)
noncomputable def qL:aU:=(aX (mq 3 (dP (nList (dV 2)) dh (af kj (dV 0) (dC (.int 0))))) (aX (cN 4 (a8 sf (dP (nList (dV 2)) dh (af kj (dV 0) (dC (.int 1)))))) (aX (cN 5 (af bB (af uq (dC (.str ", ")) (dP (nList (dV 2)) dh (af kj (dV 0) (dC (.int 2))))) (dC (.str ")")))) (aX (cN 6 (af bB (dC (.int 1)) (a8 kJ (dP (nList (dV 2)) dh (af kj (dV 0) (dC (.int 3))))))) (aX (iV (tV (af nh (dV 0) (dC (.int 0)))) (cN 7 (gd (ae (a8 ur (dV 3)) (ae (gd (ae (dC (.str "all")) (ae (cI 4) aK))) (ae (af bB (dC (.str "all(")) (dV 5)) (ae (cI 6) aK)))))) (iV (tV (af nh (dV 0) (dC (.int 1)))) (cN 7 (gd (ae (a8 uw (dV 3)) (ae (gd (ae (dC (.str "any")) (ae (cI 4) aK))) (ae (af bB (dC (.str "any(")) (dV 5)) (ae (cI 6) aK)))))) (cN 7 (gd (ae (af pI (dV 1) (dV 3)) (ae (gd (ae (dC (.str "some")) (ae (cI 1) (ae (cI 4) aK)))) (ae (af bB (af bB (a8 yv (dV 1)) (dC (.str " of ("))) (dV 5)) (ae (cI 6) aK)))))))) (aX (pF 3 zL aK) (bV (cI 7))))))))
noncomputable def aq:List PV->Option PV:=fn false 8 3 (qL)
noncomputable def gT(aq:List PV->Option PV):aU:=(aX (cN 2 (af cX (af bB (af ny (dV 2) (dV 2)) (af ny (dC (.int 48271)) (dV 2))) (dC (.int 2147483647)))) (aX (cN 3 (xt (dV 0) (bT (a8 pC (dC (.int 8)))) eI)) (aX (mq 0 (xt (dV 0) eI (bT (a8 pC (dC (.int 8)))))) (pF 0 hU (ae (cj aq (ae (af cX (dV 2) (dC (.int 3))) (ae (af bB (dC (.int 1)) (af cX (af iZ (dV 2) (dC (.int 3))) (a8 dY (dV 3)))) (ae (cI 3) aK)))) aK)))))
noncomputable def mQ(aq:List PV->Option PV):aU:=(aX (cN 2 (af bB (dC (.int 1)) (af cX (dV 1) (dC (.int 2147483646))))) (aX (fG (tV (af Ek (a8 dY (dV 0)) (dC (.int 1)))) (gT aq) 1000) (bV (af kj (dV 0) (dC (.int 0))))))
noncomputable def F_law_folded:List PV->Option PV:=fn false 4 2 (mQ aq)
noncomputable def wm:aU:=(bV (gd (ae (a8 xv (dV 0)) (ae (gd (ae (dC (.str "hand")) (ae (cI 0) aK))) (ae (cI 0) (ae (dC (.int 0)) aK))))))
noncomputable def bJ:List PV->Option PV:=fn false 1 1 (wm)
noncomputable def ir(F_law_folded bJ F_law_cell_at aq:List PV->Option PV):aU:=(aX (cN 7 (xt (dV 4) (bT (a8 pC (af bB (dC (.int 1)) (af cX (af iZ (dV 6) (dC (.int 9))) (dC (.int 8)))))) eI)) (aX (cN 8 (a8 kJ (dP (nList (dV 7)) dh (af kj (dV 0) (dC (.int 3)))))) (iV (tX (tV (af B7 (af cX (dV 6) (dC (.int 9))) (dC (.int 6)))) (tX (tV (af Ek (dV 8) (dC (.int 11)))) (tV (af Ek (dV 5) (dC (.int 13)))))) (pF 4 hU (ae (cj bJ (ae (af kj (dV 3) (af cX (af iZ (dV 6) (dC (.int 9))) (a8 dY (dV 3)))) aK)) aK)) (aX (mq 4 (xt (dV 4) eI (bT (af yu (a8 dY (dV 4)) (a8 dY (dV 7)))))) (aX (pF 4 hU (ae (cj aq (ae (af yu (af cX (dV 6) (dC (.int 9))) (dC (.int 6))) (ae (af bB (dC (.int 1)) (af cX (af iZ (dV 6) (dC (.int 72))) (a8 dY (dV 7)))) (ae (cI 7) aK)))) aK)) (cN 5 (af bB (dV 5) (dC (.int 1)))))))))
noncomputable def oa(F_law_folded bJ F_law_cell_at aq:List PV->Option PV):aU:=(aX (mq 4 (vQ (ae (cj bJ (ae (af kj (dV 3) (af cX (cj F_law_cell_at (ae (cI 0) (ae (cI 1) aK))) (a8 dY (dV 3)))) aK)) aK))) (aX (cN 5 (dC (.int 0))) (aX (pG (nList (xt (dV 0) (bT (af bB (dV 1) (dC (.int 1)))) (bT (af bB (dV 1) (dV 2))))) (bW 6) (ir F_law_folded bJ F_law_cell_at aq)) (aX (CL 4) (bV (cj F_law_folded (ae (cI 4) (ae (cj F_law_cell_at (ae (cI 0) (ae (dC (.int 1)) aK))) aK))))))))
noncomputable def F_law_built:List PV->Option PV:=fn false 9 4 (oa F_law_folded bJ F_law_cell_at aq)
noncomputable def mK:List (Str×Int):=[("all(",1),("any(",1),("1 of (",1),("2 of (",2),("3 of (",3),("4 of (",4),("5 of (",5),("6 of (",6),("7 of (",7),("8 of (",8)]
noncomputable def kF:List PV:=[.str "all(",.str "any(",.str "1 of (",.str "2 of (",.str "3 of (",.str "4 of (",.str "5 of (",.str "6 of (",.str "7 of (",.str "8 of ("]
noncomputable def gQ:aU:=(aX (cN 2 (dC (.int 0))) (aX (pG (xK (cI 0) (cI 1)) (nA (bW 3) (bW 4)) (aX (iV (tV (af kz (dV 3) (dV 4))) pE cB) (cN 2 (af xP (dV 2) (dC (.int 1)))))) (bV (cI 2))))
noncomputable def b5:List PV->Option PV:=fn false 5 2 gQ
noncomputable def qK:Den:=a8 (gk jD "signs") (dV 0)
noncomputable def jR:Den:=a8 (gk jD "at") (dV 0)
noncomputable def vd:Den:=a8 (gk jD "words") (dV 0)
noncomputable def sG:aU:=bV (af nh (i4 qK (bT jR) (bT (af bB jR (dC (.int 1))))) (dV 1))
noncomputable def fm:List PV->Option PV:=fn false 2 2 sG
noncomputable def jS:dn:=eQ (pT 1 (i4 qK (bT jR) eI)) (eQ (pT 2 (a8 kJ (dP (nList vd) dh (cj b5 (ae (cI 2) (ae (cI 0) aK)))))) (eQ (v3 (cI 2)) (eQ (v7 (tV (af pD (i4 (dV 1) eI (bT (dV 2))) vd)) i6 jO) (uS (i4 (dV 1) eI (bT (dV 2)))))))
noncomputable def d5:FQ:=oJ false 3 1 jS
noncomputable def jT:dn:=eQ (v7 (mi (tV (eJ (nX fm) (cI 0) (ae (cI 1) aK)))) i6 jO) (v3 (dC (.int 1)))
noncomputable def b6:FQ:=oJ false 2 2 jT
noncomputable def gg:aU:=(aX (iV (tV (af nh (dV 0) (dC (.str "all(")))) (bV (a8 ur (dV 1))) cB) (aX (iV (tV (af nh (dV 0) (dC (.str "any(")))) (bV (a8 uw (dV 1))) cB) (bV (af pI (a8 (uQ mK) (dV 0)) (dV 1)))))
noncomputable def aT:List PV->Option PV:=fn false 2 2 gg
noncomputable def nK:dX:=tX (tV (af B7 (a8 dY (dV 2)) (dV 1))) (mi (tV (eJ (nX fm) (cI 0) (ae (dC (.str ")")) aK))))
noncomputable def nL(FT:FQ):dn:=eQ (v7 (tV (af nh (a8 dY (dV 2)) (dC (.int 8)))) i6 jO) (eQ (mF (fF b6 (ae (dC (.str ",")) aK))) (eQ (mF (fF b6 (ae (dC (.str " ")) aK))) (Ay 2 (fF FT aK))))
noncomputable def dw(FT:FQ):dn:=eQ (pV 2 (fF FT aK)) (eQ (il nK (nL FT) 10) (eQ (mF (fF b6 (ae (dC (.str ")")) aK))) (uU 2)))
noncomputable def d6(FP:FQ):dn:=eQ (uV 1 (fF d5 aK)) (eQ (v7 (tV (a8 (sv mK) (dV 1))) (uT (a8 xv (dV 1))) jO) (uZ aT (cI 1) (fF FP (ae (a8 (uQ mK) (dV 1)) aK))))
noncomputable def cp:Nat->FQ
 |0=>λ_ _ _=>none
 |n+1=>oJ false 2 1 (d6 (oJ true 3 2 (dw (cp n))))
noncomputable def lD:dn:=v7 (tV (af B7 jR (a8 dY qK))) i6 jO
noncomputable def eR:FQ:=oJ false 1 1 lD
noncomputable def jU:List PV->Option Rg:=rn 3 3 (af bB (a8 uj (dV 1)) (dC (.lst kF))) (cI 2)
noncomputable def wa:aU:=AB 2 3 jU (cp 24) eR (ae (cI 0) (ae (cI 1) aK))
noncomputable def eS:List PV->Option PV:=fn false 4 2 wa
noncomputable def gn(aS:List PV->Option PV):aU:=(iV (mi (tV (cj aS (ae (af kj (dV 0) (dV 2)) (ae (af kj (dV 1) (dV 2)) aK))))) (bV (dC (.bl false))) cB)
noncomputable def lz(aS:List PV->Option PV):aU:=(aX (iV (tX (tV (a8 (kl 4) (dV 1))) (tV (a8 (kl 3) (dV 1)))) (aX (iV (tX (tV (af kz (a8 (kl 4) (dV 0)) (a8 (kl 4) (dV 1)))) (tV (af kz (a8 (kl 3) (dV 0)) (a8 (kl 3) (dV 1))))) (bV (dC (.bl false))) cB) (aX (iV (tV (af kz (a8 dY (dV 0)) (a8 dY (dV 1)))) (bV (dC (.bl false))) cB) (aX (pG (kG (a8 dY (dV 1))) (bW 2) (gn aS)) (bV (dC (.bl true)))))) cB) (aX (iV (tV (a8 (kl 1) (dV 1))) (bV (iR (a8 (kl 1) (dV 0)) (af nh (dV 0) (dV 1)))) cB) (aX (iV (tV (a8 (kl 0) (dV 1))) (bV (iR (a8 (kl 0) (dV 0)) (iR (zM (a8 (kl 1) (dV 0))) (af nh (dV 0) (dV 1))))) cB) (aX (iV (tV (a8 (kl 2) (dV 1))) (bV (iR (a8 (kl 2) (dV 0)) (af nh (dV 0) (dV 1)))) cB) (bV (iR (a8 ui (dV 1)) (a8 ui (dV 0))))))))
noncomputable def b7:Nat->List PV->Option PV
 |0=>λ_=>none
 |n+1=>fn false 3 2 (lz (b7 n))
noncomputable def aS:List PV->Option PV:=b7 50
noncomputable def sO(F_law_roll F_law_built eS aS:List PV->Option PV)(bL cq:Nat->List PV->Option PV):aU:=(aX (cN 7 (cj eS (ae (cI 1) (ae (cI 4) aK)))) (aX (iV (tX (mi (tV (a8 Gb (dV 7)))) (mi (tV (cj aS (ae (eJ bL (cI 7) aK) (ae (cI 3) aK)))))) (bV (dC (.bl false))) cB) (aX (cN 8 (eJ cq (cI 7) aK)) (iV (tX (mi (tV (a8 (kl 2) (dV 8)))) (tV (af kz (dV 8) (dV 4)))) (bV (dC (.bl false))) cB))))
noncomputable def ED(F_law_roll F_law_built eS aS:List PV->Option PV)(bL cq:Nat->List PV->Option PV):aU:=(aX (cN 1 (cj F_law_roll (ae (cI 0) aK))) (aX (IX (zN [(bW 2),(bW 3),(bW 4),(bW 5)]) (cj F_law_built (ae (cI 0) (ae (dC (.int 6)) (ae (dC (.int 24)) (ae (cI 1) aK)))))) (aX (pG (kG (dC (.int 2))) (bW 6) (sO F_law_roll F_law_built eS aS bL cq)) (bV (dC (.bl true))))))
noncomputable def x5:List PV->Option PV:=fn false 9 1 (ED F_law_roll F_law_built eS aS bL cq)
noncomputable def top(i:Nat):Stmt:=PySem.Challenge.pw_signright_k22_rules_read.main.body.getD i (.Pass ⟨0,0,0,0⟩)
noncomputable def aL(i j:Nat):Stmt:=Df (top i) j
structure Bl(K:PySem.W.Frag)(mg:Str->Option Value):Prop where
 bool:mg "bool" =none
 int:mg "int" =none
 isinstance:mg "isinstance" =none
 len:mg "len" =none
 list:mg "list" =none
 max:mg "max" =none
 range:mg "range" =none
 str:mg "str" =none
 tuple:mg "tuple" =none
 zip:mg "zip" =none
 g_MOST_PARTS:∃t,mg "MOST_PARTS" =some (.int 8 t)
noncomputable def FL(K:PySem.W.Frag)(f:Addr)(x q:Str)(st:Stmt):Prop:=∃(oc:Value) (od:Option Addr) (sl:Array (Option Value)) (kV dc pm:Value) (an:Option Addr) (cd ct:Value),K.lookup f=some ⟨oc,od,.func (PySem.W.fnOf x q (kh st) (fN st) (aj st) .none kV dc pm an cd ct),sl⟩/\PySem.W.codeIn K cd q=true/\PySem.W.keepIn K (.ref f)=true
theorem jE{K:PySem.W.Frag}{f:Addr}{x q:Str}{st:Stmt}{oc kV dc pm cd ct:Value}{od an:Option Addr}{sl:Array (Option Value)}(l:K.lookup f=some ⟨oc,od,.func (PySem.W.fnOf x q (kh st) (fN st) (aj st) .none kV dc pm an cd ct),sl⟩)(c:PySem.W.codeIn K cd q=true)(k:PySem.W.keepIn K (.ref f)=true):FL K f x q st:=⟨_,_,_,_,_,_,_,_,_,l,c,k⟩
theorem aR{K:PySem.W.Frag}{f:Addr}{x q:Str}{st:Stmt}(h:FL K f x q st):∃fd,L2.nW K x q st f fd:=by
 obtain⟨_,_,_,_,_,_,_,_,_,l,c,k⟩:=h
 exact⟨_,F3 l c k⟩
structure Ed(K:PySem.W.Frag)(mg:Str->Option Value)(x:Str)(st:Stmt)(ps:List Str)(f:Addr)(fd:FuncData):Prop where
 F:L2.nW K x x st f fd
 b:L2.Binds K fd ps []
 m:mg x=some (.ref f)
section
variable{P:Program}{w:World}{K:PySem.W.Frag}{mg:Str->Option Value}{base:Heap}{κ:Kl}{CR CC dq dA dB dD c7:Addr}{kP og oh oi rE:FuncData}{cu cT cv cU ai ak bY cw bZ cx bz eT eU d7 eV b0 dE eW d8 qd dF vi:Addr}{fP gq fQ gr bD bP fv fR fw fT bQ fZ f6 fz f9 cF eO gc fB sP d9 sQ:FuncData}
theorem kQ:aJ ["self"] ["self"] (aj (aL 8 1)):=⟨rfl,rfl,rfl,by decide+kernel,rfl,by decide+kernel,by decide+kernel⟩
theorem qM{k0:Nat}{aG:Nat->List PV->Option PV}(vj:1<=k0)(B:Bl K mg)(dG:Em K "shape" "All.shape" (aL 8 1) ["self"] cu fP)(C:jC K mg κ CR CC dq dA dB dD c7)(bf:cE P w K mg base κ false "shapes_of_parts" k0 ["self"] aG):aH P w K mg base b8 (k0+1) cu fP ["self"] (fE K κ false (fn false 1 1 (mM aG))):=
 bC dG.F kQ λdO A outer s H E hr=>have nd:=kQ.nd;(aC (bh (fI (ag aV (ag (eK bf hr (aI 0)) aP)))))
theorem mR:aJ ["self"] ["self"] (aj (aL 8 2)):=⟨rfl,rfl,rfl,by decide+kernel,rfl,by decide+kernel,by decide+kernel⟩
theorem sR{k0:Nat}{aN:Nat->List PV->Option PV}(vj:1<=k0)(B:Bl K mg)(ef:Em K "text" "All.text" (aL 8 2) ["self"] cT gq)(C:jC K mg κ CR CC dq dA dB dD c7)(bE:cE P w K mg base κ false "text_of_parts" k0 ["self"] aN):aH P w K mg base b8 (k0+1) cT gq ["self"] (fE K κ false (fn false 1 1 (n5 aN))):=
 bC ef.F mR λdO A outer s H E hr=>have nd:=mR.nd;(aC (bh (ba (DE.b (ba (DE.b aV) (DE.b (eK bE hr (aI 0))))) (DE.b aV))))
theorem kR:aJ ["self"] ["self"] (aj (aL 9 1)):=⟨rfl,rfl,rfl,by decide+kernel,rfl,by decide+kernel,by decide+kernel⟩
theorem qN{k0:Nat}{aG:Nat->List PV->Option PV}(vj:1<=k0)(B:Bl K mg)(dH:Em K "shape" "Any.shape" (aL 9 1) ["self"] cv fQ)(C:jC K mg κ CR CC dq dA dB dD c7)(bf:cE P w K mg base κ false "shapes_of_parts" k0 ["self"] aG):aH P w K mg base b8 (k0+1) cv fQ ["self"] (fE K κ false (fn false 1 1 (mN aG))):=
 bC dH.F kR λdO A outer s H E hr=>have nd:=kR.nd;(aC (bh (fI (ag aV (ag (eK bf hr (aI 0)) aP)))))
theorem mS:aJ ["self"] ["self"] (aj (aL 9 2)):=⟨rfl,rfl,rfl,by decide+kernel,rfl,by decide+kernel,by decide+kernel⟩
theorem sT{k0:Nat}{aN:Nat->List PV->Option PV}(vj:1<=k0)(B:Bl K mg)(eg:Em K "text" "Any.text" (aL 9 2) ["self"] cU gr)(C:jC K mg κ CR CC dq dA dB dD c7)(bE:cE P w K mg base κ false "text_of_parts" k0 ["self"] aN):aH P w K mg base b8 (k0+1) cU gr ["self"] (fE K κ false (fn false 1 1 (n6 aN))):=
 bC eg.F mS λdO A outer s H E hr=>have nd:=mS.nd;(aC (bh (ba (DE.b (ba (DE.b aV) (DE.b (eK bE hr (aI 0))))) (DE.b aV))))
theorem dQ:aJ ["self"] ["self"] (aj (aL 7 3)):=⟨rfl,rfl,rfl,by decide+kernel,rfl,by decide+kernel,by decide+kernel⟩
theorem cg{k0:Nat}{bL:Nat->List PV->Option PV}(vj:1<=k0)(B:Bl K mg)(av:Em K "shapes_of_parts" "Counting.shapes_of_parts" (aL 7 3) ["self"] ai bD)(C:jC K mg κ CR CC dq dA dB dD c7)(gw:cE P w K mg base κ false "shape" k0 ["self"] bL):aH P w K mg base b8 (k0+1) ai bD ["self"] (fE K κ false (fn false 1 1 (bb bL))):=
 bC av.F dQ λdO A outer s H E hr=>have nd:=dQ.nd;(aC (bh (pQ (DO.b (i5 (xy (DE.b (dv C.fld (C.gN _) (aa 0)))) (aj (aL 7 3)) ["self"] ["self"] (λex C s H=>(eK gw hr (aI 0))))) B.tuple)))
theorem eh:aJ ["self"] ["self"] (aj (aL 7 4)):=⟨rfl,rfl,rfl,by decide+kernel,rfl,by decide+kernel,by decide+kernel⟩
theorem cG{k0:Nat}{cq:Nat->List PV->Option PV}(vj:1<=k0)(B:Bl K mg)(aA:Em K "text_of_parts" "Counting.text_of_parts" (aL 7 4) ["self"] ak bP)(C:jC K mg κ CR CC dq dA dB dD c7)(ja:cE P w K mg base κ false "text" k0 ["self"] cq):aH P w K mg base b8 (k0+1) ak bP ["self"] (fE K κ false (fn false 1 1 (bt cq))):=
 bC aA.F eh λdO A outer s H E hr=>have nd:=eh.nd;(aC (bh (xD (DE.b aV) (DO.b (i5 (xy (DE.b (dv C.fld (C.gN _) (aa 0)))) (aj (aL 7 4)) ["self"] ["self"] (λex C s H=>(eK ja hr (aI 0))))))))
theorem jW:aJ ["self"] ["self"] (aj (aL 6 1)):=⟨rfl,rfl,rfl,by decide+kernel,rfl,by decide+kernel,by decide+kernel⟩
theorem qe{k0:Nat}(vj:1<=k0)(B:Bl K mg)(cZ:Em K "shape" "Hand.shape" (aL 6 1) ["self"] bY fv)(C:jC K mg κ CR CC dq dA dB dD c7):aH P w K mg base b8 (k0+1) bY fv ["self"] (fE K κ false (fn false 1 1 (kN))):=
 bC cZ.F jW λdO A outer s H E hr=>have nd:=jW.nd;(aC (bh (fI (ag aV (ag (dv C.fld (C.gN _) (aa 0)) aP)))))
theorem kT:aJ ["self"] ["self"] (aj (aL 6 2)):=⟨rfl,rfl,rfl,by decide+kernel,rfl,by decide+kernel,by decide+kernel⟩
theorem qO{k0:Nat}(vj:1<=k0)(B:Bl K mg)(dI:Em K "text" "Hand.text" (aL 6 2) ["self"] cw fR)(C:jC K mg κ CR CC dq dA dB dD c7):aH P w K mg base b8 (k0+1) cw fR ["self"] (fE K κ false (fn false 1 1 (mO))):=
 bC dI.F kT λdO A outer s H E hr=>have nd:=kT.nd;(aC (bh (dv C.fld (C.gN _) (aa 0))))
theorem jX:aJ ["self"] ["self"] (aj (aL 10 1)):=⟨rfl,rfl,rfl,by decide+kernel,rfl,by decide+kernel,by decide+kernel⟩
theorem qf{k0:Nat}{aG:Nat->List PV->Option PV}(vj:1<=k0)(B:Bl K mg)(c6:Em K "shape" "Some.shape" (aL 10 1) ["self"] bZ fw)(C:jC K mg κ CR CC dq dA dB dD c7)(bf:cE P w K mg base κ false "shapes_of_parts" k0 ["self"] aG):aH P w K mg base b8 (k0+1) bZ fw ["self"] (fE K κ false (fn false 1 1 (kO aG))):=
 bC c6.F jX λdO A outer s H E hr=>have nd:=jX.nd;(aC (bh (fI (ag aV (ag (dv C.fld (C.gN _) (aa 0)) (ag (eK bf hr (aI 0)) aP))))))
theorem kU:aJ ["self"] ["self"] (aj (aL 10 2)):=⟨rfl,rfl,rfl,by decide+kernel,rfl,by decide+kernel,by decide+kernel⟩
theorem qP{k0:Nat}{aN:Nat->List PV->Option PV}(vj:1<=k0)(B:Bl K mg)(dJ:Em K "text" "Some.text" (aL 10 2) ["self"] cx fT)(C:jC K mg κ CR CC dq dA dB dD c7)(bE:cE P w K mg base κ false "text_of_parts" k0 ["self"] aN):aH P w K mg base b8 (k0+1) cx fT ["self"] (fE K κ false (fn false 1 1 (mP aN))):=
 bC dJ.F kU λdO A outer s H E hr=>have nd:=kU.nd;(aC (bh (ba (DE.b (ba (DE.b (ba (DE.b (xE (DE.b (dv C.fld (C.gN _) (aa 0))) B.str)) (DE.b aV))) (DE.b (eK bE hr (aI 0))))) (DE.b aV))))
theorem jY:aJ ["_law_script","_law_k"] ["_law_script","_law_k"] (aj (top 19)):=⟨rfl,rfl,rfl,by decide+kernel,rfl,by decide+kernel,by decide+kernel⟩
theorem qg(B:Bl K mg)(aB:Ed K mg "_law_cell_at" (top 19) ["_law_script","_law_k"] bz bQ):aH P w K mg base b8 1 bz bQ ["_law_script","_law_k"] (fE K κ false F_law_cell_at):=
 bC aB.F jY λdO A outer s H E hr=>have nd:=jY.nd;(ao (fD (cY (xx (aa 1) (DE.b (ff (aa 0) B.len)))) (aC (bh (gK (aa 0) (aa 1)))) du) (aC (bh ay)))
theorem oj:aJ ["_law_base_here","_law_place","_law_size","_law_k","_law_letters","_law_other"] ["_law_base_here","_law_place","_law_size","_law_k"] (aj (top 21)):=⟨rfl,rfl,rfl,by decide+kernel,rfl,by decide+kernel,by decide+kernel⟩
theorem vk(B:Bl K mg)(en:Ed K mg "_law_name" (top 21) ["_law_base_here","_law_place","_law_size","_law_k"] eT fZ):aH P w K mg base b8 1 eT fZ ["_law_base_here","_law_place","_law_size","_law_k"] (fE K κ false bI):=
 bC en.F oj λdO A outer s H E hr=>have nd:=oj.nd;(ao (bH 4 nd aV) (ao (bH 5 nd (gK (aa 4) (DE.b (di (DE.b (ba (DE.b (C7 (aa 4) (DE.b (gK (aa 0) (aa 1))))) (DE.b (nB (DE.b ay) (aa 3))))) (DE.b ay))))) (aC (bh (ba (DE.b (ba (DE.b (eX (aa 0) fO (da (aa 1)))) (aa 5))) (DE.b (eX (aa 0) (da (DE.b (ba (aa 1) (DE.b ay)))) (da (aa 2)))))))))
theorem om:aJ ["_law_cell","_law_size","_law_number","_law_found","_law_k"] ["_law_cell","_law_size"] (aj (top 20)):=⟨rfl,rfl,rfl,by decide+kernel,rfl,by decide+kernel,by decide+kernel⟩
theorem vm(B:Bl K mg)(et:Ed K mg "_law_base" (top 20) ["_law_cell","_law_size"] eU f6):aH P w K mg base b8 1 eU f6 ["_law_cell","_law_size"] (fE K κ false F_law_base):=
 bC et.F om λdO A outer s H E hr=>have nd:=om.nd;(ao (bH 2 nd (di (DE.b (ba (DE.b (nB (DE.b (di (aa 0) (DE.b ay))) (DE.b ay))) (DE.b ay))) (DE.b ay))) (ao (bH 3 nd aV) (ao (nF (oS (aa 1) B.range) (eZ 4 nd) (ao (bH 2 nd (di (DE.b (ba (DE.b (ba (DE.b (ba (DE.b (nB (aa 2) (aa 2))) (DE.b (nB (DE.b ay) (aa 2))))) (aa 4))) (DE.b ay))) (DE.b ay))) (aC (bH 3 nd (ba (aa 3) (DE.b (gK (DE.b aV) (DE.b (di (aa 2) (DE.b ay)))))))))) (aC (bh (aI 3))))))
theorem mT:aJ ["_law_script","_law_at","_law_many","_law_cell","_law_size","_law_more","_law_word","_law_base_here","_law_names_here","_law_k","_law_name_here"] ["_law_script","_law_at","_law_many"] (aj (top 22)):=⟨rfl,rfl,rfl,by decide+kernel,rfl,by decide+kernel,by decide+kernel⟩
theorem sU(B:Bl K mg)(dr:Ed K mg "_law_names" (top 22) ["_law_script","_law_at","_law_many"] d7 fz)(aB:Ed K mg "_law_cell_at" (top 19) ["_law_script","_law_k"] bz bQ)(bA:aH P w K mg base b8 1 bz bQ ["_law_script","_law_k"] (fE K κ false F_law_cell_at))(en:Ed K mg "_law_name" (top 21) ["_law_base_here","_law_place","_law_size","_law_k"] eT fZ)(lE:aH P w K mg base b8 1 eT fZ ["_law_base_here","_law_place","_law_size","_law_k"] (fE K κ false bI))(et:Ed K mg "_law_base" (top 20) ["_law_cell","_law_size"] eU f6)(lF:aH P w K mg base b8 1 eU f6 ["_law_cell","_law_size"] (fE K κ false F_law_base)):aH P w K mg base b8 2 d7 fz ["_law_script","_law_at","_law_many"] (fE K κ true eY):=
 bC dr.F mT λdO A outer s H E hr=>have nd:=mT.nd;(ao (bH 3 nd (cJ (bA.mono (by decide)) hr aB.m aB.F.kp aB.b (ag (aI 0) (ag (aI 1) aP)))) (ao (bH 4 nd (ba (DE.b ay) (DE.b (di (aa 3) (DE.b ay))))) (ao (bH 5 nd (cJ (bA.mono (by decide)) hr aB.m aB.F.kp aB.b (ag (aI 0) (ag (ba (aa 1) (DE.b ay)) aP)))) (ao (bH 6 nd (gK (DO.b (vU (ag aV (ag aV (ag aV (ag aV (ag aV (ag aV (ag aV (ag aV aP)))))))))) (DE.b (di (aa 5) (DE.b ay))))) (ao (bH 7 nd (eX (DE.b (ba (aa 6) (DE.b (cJ (lF.mono (by decide)) hr et.m et.F.kp et.b (ag (ll (aa 5) (DE.b ay)) (ag ay aP)))))) fO (da (DE.b ay)))) (ao (oR 8 nd (vU aP)) (ao (nF (oS (aa 2) B.range) (eZ 9 nd) (ao (bH 10 nd (cJ (lE.mono (by decide)) hr en.m en.F.kp en.b (ag (aI 7) (ag (di (DE.b (ll (aa 3) (DE.b ay))) (aa 4)) (ag (aI 4) (ag (aI 9) aP)))))) (ao (fD (cY (kK hr (DE.b (di (DE.b (ll (aa 3) (DE.b ay))) (DE.b ay))) (DE.b ay))) (aC (bH 10 nd (eX (aa 7) fO (da (DE.b (ba (aa 9) (DE.b ay))))))) du) (ao (fD (cY (Ji (aa 10) (DE.b (fI (ag aV (ag aV (ag aV aP))))))) (aC (bH 10 nd (De (aa 10) (DE.b (so (DE.b ay)))))) du) (aC (kn 8 (ag (aI 10) aP))))))) (aC (CS 8)))))))))
theorem oo:aJ ["_law_script"] ["_law_script"] (aj (top 23)):=⟨rfl,rfl,rfl,by decide+kernel,rfl,by decide+kernel,by decide+kernel⟩
theorem vn(B:Bl K mg)(eC:Ed K mg "_law_roll" (top 23) ["_law_script"] eV f9)(dr:Ed K mg "_law_names" (top 22) ["_law_script","_law_at","_law_many"] d7 fz)(jZ:aH P w K mg base b8 2 d7 fz ["_law_script","_law_at","_law_many"] (fE K κ true eY))(aB:Ed K mg "_law_cell_at" (top 19) ["_law_script","_law_k"] bz bQ)(bA:aH P w K mg base b8 1 bz bQ ["_law_script","_law_k"] (fE K κ false F_law_cell_at)):aH P w K mg base b8 3 eV f9 ["_law_script"] (fE K κ false F_law_roll):=
 bC eC.F oo λdO A outer s H E hr=>have nd:=oo.nd;(aC (bh (pQ (DO.b (CY (jZ.mono (by decide)) hr dr.m dr.F.kp dr.b (ag (aI 0) (ag ay (ag (ba (DE.b ay) (DE.b (di (DE.b (cJ (bA.mono (by decide)) hr aB.m aB.F.kp aB.b (ag (aI 0) (ag ay aP)))) (DE.b ay)))) aP))))) B.tuple)))
theorem j0:aJ ["_law_kind","_law_many","_law_items","_law_parts","_law_shapes","_law_texts","_law_deep","_law_found"] ["_law_kind","_law_many","_law_items"] (aj (top 25)):=⟨rfl,rfl,rfl,by decide+kernel,rfl,by decide+kernel,by decide+kernel⟩
theorem qh(B:Bl K mg)(a9:Ed K mg "_law_counted" (top 25) ["_law_kind","_law_many","_law_items"] b0 cF)(C:jC K mg κ CR CC dq dA dB dD c7)(yU:aH P w K mg base b8 2 dA og ["self","parts"] (jN K (κ.adr 1) λys=>(ys.length:Nat)))(yV:Binds K og ["self","parts"] [])(yW:aH P w K mg base b8 2 dB oh ["self","parts"] (jN K (κ.adr 2) λ_=>1))(yX:Binds K oh ["self","parts"] [])(yY:aH P w K mg base b8 2 dD oi ["self","many","parts"] (kM K (κ.adr 3)))(yZ:Binds K oi ["self","many","parts"] []):aH P w K mg base b8 6 b0 cF ["_law_kind","_law_many","_law_items"] (fE K κ false aq):=
 bC a9.F j0 λdO A outer s H E hr=>have nd:=j0.nd;(ao (Ad 3 nd (iS (aa 2)) (aj (top 25)) ["_law_kind","_law_many","_law_items","_law_parts","_law_shapes","_law_texts","_law_deep","_law_found"] ["_law_kind","_law_many","_law_items","_law_parts","_law_shapes","_law_texts","_law_deep","_law_found"] (λex C s H=>(gK (aa 0) (DE.b ay)))) (ao (bH 4 nd (pQ (DO.b (i5 (iS (aa 2)) (aj (top 25)) ["_law_kind","_law_many","_law_items","_law_parts","_law_shapes","_law_texts","_law_deep","_law_found"] ["_law_kind","_law_many","_law_items","_law_parts","_law_shapes","_law_texts","_law_deep","_law_found"] (λex C s H=>(gK (aa 0) (DE.b ay))))) B.tuple)) (ao (bH 5 nd (ba (DE.b (xD (DE.b aV) (DO.b (i5 (iS (aa 2)) (aj (top 25)) ["_law_kind","_law_many","_law_items","_law_parts","_law_shapes","_law_texts","_law_deep","_law_found"] ["_law_kind","_law_many","_law_items","_law_parts","_law_shapes","_law_texts","_law_deep","_law_found"] (λex C s H=>(gK (aa 0) (DE.b ay))))))) (DE.b aV))) (ao (bH 6 nd (ba (DE.b ay) (DE.b (su (DO.b (i5 (iS (aa 2)) (aj (top 25)) ["_law_kind","_law_many","_law_items","_law_parts","_law_shapes","_law_texts","_law_deep","_law_found"] ["_law_kind","_law_many","_law_items","_law_parts","_law_shapes","_law_texts","_law_deep","_law_found"] (λex C s H=>(gK (aa 0) (DE.b ay))))) B.max)))) (ao (fD (cY (kK hr (aa 0) (DE.b ay))) (aC (bH 7 nd (fI (ag (uK C.kA yU (by rw[C.fld];rfl) (hr.mono (by decide)) C.gA yV (aa 3)) (ag (fI (ag aV (ag (aI 4) aP))) (ag (ba (DE.b aV) (aa 5)) (ag (aI 6) aP))))))) (aC (fD (cY (kK hr (aa 0) (DE.b ay))) (aC (bH 7 nd (fI (ag (uL C.kY yW (by rw[C.fld];rfl) (hr.mono (by decide)) C.gY yX (aa 3)) (ag (fI (ag aV (ag (aI 4) aP))) (ag (ba (DE.b aV) (aa 5)) (ag (aI 6) aP))))))) (aC (bH 7 nd (fI (ag (rj C.kS yY (by rw[C.fld];rfl) (hr.mono (by decide)) C.gS yZ (aa 1) (aa 3)) (ag (fI (ag aV (ag (aI 1) (ag (aI 4) aP)))) (ag (ba (DE.b (ba (DE.b (xE (aa 1) B.str)) (DE.b aV))) (aa 5)) (ag (aI 6) aP)))))))))) (ao (zX 3) (aC (bh (aI 7)))))))))
theorem kW:aJ ["_law_pile","_law_cell","_law_number","_law_items"] ["_law_pile","_law_cell"] (aj (top 26)):=⟨rfl,rfl,rfl,by decide+kernel,rfl,by decide+kernel,by decide+kernel⟩
theorem qQ(B:Bl K mg)(cV:Ed K mg "_law_folded" (top 26) ["_law_pile","_law_cell"] dE eO)(a9:Ed K mg "_law_counted" (top 25) ["_law_kind","_law_many","_law_items"] b0 cF)(dR:aH P w K mg base b8 6 b0 cF ["_law_kind","_law_many","_law_items"] (fE K κ false aq)):aH P w K mg base b8 7 dE eO ["_law_pile","_law_cell"] (fE K κ false F_law_folded):=
 bC cV.F kW λdO A outer s H E hr=>have nd:=kW.nd;(ao (bH 2 nd (ba (DE.b ay) (DE.b (di (aa 1) (DE.b ay))))) (ao (zZ 1000 (cY (zT (DE.b (ff (aa 0) B.len)) (DE.b ay))) (ao (bH 2 nd (di (DE.b (ba (DE.b (nB (aa 2) (aa 2))) (DE.b (nB (DE.b ay) (aa 2))))) (DE.b ay))) (ao (bH 3 nd (DO.e (jM (aa 0) (da (DE.b (so (DE.b ay)))) fO))) (ao (oR 0 nd (jM (aa 0) fO (da (DE.b (so (DE.b ay)))))) (aC (kn 0 (ag (cJ (dR.mono (by decide)) hr a9.m a9.F.kp a9.b (ag (di (aa 2) (DE.b ay)) (ag (ba (DE.b ay) (DE.b (di (DE.b (ll (aa 2) (DE.b ay))) (DE.b (ff (aa 3) B.len))))) (ag (aI 3) aP)))) aP))))))) (aC (bh (gK (aa 0) (DE.b ay))))))
theorem oq:aJ ["_law_name_here"] ["_law_name_here"] (aj (top 24)):=⟨rfl,rfl,rfl,by decide+kernel,rfl,by decide+kernel,by decide+kernel⟩
theorem vo(B:Bl K mg)(cH:Ed K mg "_law_hand" (top 24) ["_law_name_here"] eW gc)(C:jC K mg κ CR CC dq dA dB dD c7)(sV:aH P w K mg base b8 1 dq kP ["self","name"] (lu (κ.adr 0)))(sW:Binds K kP ["self","name"] []):aH P w K mg base b8 6 eW gc ["_law_name_here"] (fE K κ false bJ):=
 bC cH.F oq λdO A outer s H E hr=>have nd:=oq.nd;(aC (bh (fI (ag (ri C.kH sV (by rw[C.fld];rfl) (hr.mono (by decide)) C.gH sW (aa 0)) (ag (fI (ag aV (ag (aI 0) aP))) (ag (aI 0) (ag ay aP)))))))
theorem mU:aJ ["_law_script","_law_at","_law_size","_law_roll_here","_law_pile","_law_heads","_law_cell","_law_items","_law_deep"] ["_law_script","_law_at","_law_size","_law_roll_here"] (aj (top 27)):=⟨rfl,rfl,rfl,by decide+kernel,rfl,by decide+kernel,by decide+kernel⟩
theorem sX(B:Bl K mg)(dt:Ed K mg "_law_built" (top 27) ["_law_script","_law_at","_law_size","_law_roll_here"] d8 fB)(cV:Ed K mg "_law_folded" (top 26) ["_law_pile","_law_cell"] dE eO)(jb:aH P w K mg base b8 7 dE eO ["_law_pile","_law_cell"] (fE K κ false F_law_folded))(cH:Ed K mg "_law_hand" (top 24) ["_law_name_here"] eW gc)(jc:aH P w K mg base b8 6 eW gc ["_law_name_here"] (fE K κ false bJ))(aB:Ed K mg "_law_cell_at" (top 19) ["_law_script","_law_k"] bz bQ)(bA:aH P w K mg base b8 1 bz bQ ["_law_script","_law_k"] (fE K κ false F_law_cell_at))(a9:Ed K mg "_law_counted" (top 25) ["_law_kind","_law_many","_law_items"] b0 cF)(dR:aH P w K mg base b8 6 b0 cF ["_law_kind","_law_many","_law_items"] (fE K κ false aq)):aH P w K mg base b8 8 d8 fB ["_law_script","_law_at","_law_size","_law_roll_here"] (fE K κ false F_law_built):=
 bC dt.F mU λdO A outer s H E hr=>have nd:=mU.nd;(ao (oR 4 nd (vU (ag (cJ (jc.mono (by decide)) hr cH.m cH.F.kp cH.b (ag (gK (aa 3) (DE.b (di (DE.b (cJ (bA.mono (by decide)) hr aB.m aB.F.kp aB.b (ag (aI 0) (ag (aI 1) aP)))) (DE.b (ff (aa 3) B.len))))) aP)) aP))) (ao (bH 5 nd ay) (ao (nF (CV (DO.e (jM (aa 0) (da (DE.b (ba (aa 1) (DE.b ay)))) (da (DE.b (ba (aa 1) (aa 2))))))) (eZ 6 nd) (ao (bH 7 nd (DO.e (jM (aa 4) (da (DE.b (so (DE.b (ba (DE.b ay) (DE.b (di (DE.b (ll (aa 6) (DE.b ay))) (DE.b ay)))))))) fO))) (ao (bH 8 nd (su (DO.b (i5 (iS (aa 7)) (aj (top 27)) ["_law_script","_law_at","_law_size","_law_roll_here","_law_pile","_law_heads","_law_cell","_law_items","_law_deep"] ["_law_script","_law_at","_law_size","_law_roll_here","_law_pile","_law_heads","_law_cell","_law_items","_law_deep"] (λex C s H=>(gK (aa 0) (DE.b ay))))) B.max)) (aC (fD (DW.t (pK (cY (xx (DE.b (di (aa 6) (DE.b ay))) (DE.b ay))) (pK (cY (zT (aa 8) (DE.b ay))) (nE (cY (zT (aa 5) (DE.b ay))))))) (aC (kn 4 (ag (cJ (jc.mono (by decide)) hr cH.m cH.F.kp cH.b (ag (gK (aa 3) (DE.b (di (DE.b (ll (aa 6) (DE.b ay))) (DE.b (ff (aa 3) B.len))))) aP)) aP))) (ao (oR 4 nd (jM (aa 4) fO (da (DE.b (zS (DE.b (ff (aa 4) B.len)) (DE.b (ff (aa 7) B.len))))))) (ao (kn 4 (ag (cJ (dR.mono (by decide)) hr a9.m a9.F.kp a9.b (ag (zS (DE.b (di (aa 6) (DE.b ay))) (DE.b ay)) (ag (ba (DE.b ay) (DE.b (di (DE.b (ll (aa 6) (DE.b ay))) (DE.b (ff (aa 7) B.len))))) (ag (aI 7) aP)))) aP)) (aC (bH 5 nd (ba (aa 5) (DE.b ay))))))))))) (CQ 4 (aC (bh (cJ (jb.mono (by decide)) hr cV.m cV.F.kp cV.b (ag (aI 4) (ag (cJ (bA.mono (by decide)) hr aB.m aB.F.kp aB.b (ag (aI 0) (ag ay aP))) aP)))))))))
variable{sY qi nP qj:Addr}{rF qk mV ql:FuncData}
theorem EE:aJ ["text","word","signs","one","two"] ["text","word"] (aj (top 14)):=⟨rfl,rfl,rfl,by decide+kernel,rfl,by decide+kernel,by decide+kernel⟩
theorem Jy(hz:mg "zip" =none)(F:nW K "shared_signs" "shared_signs" (top 14) sY rF):aH P w K mg base b8 1 sY rF ["text","word"] (fE K κ false b5):=
 bC F EE λdO A outer s H E hr=>have nd:=EE.nd;(ao (bH 2 nd ay) (ao (nF (Dj (aI 0) (aI 1) hz) (CW (eZ 3 nd) (eZ 4 nd)) (ao (fD (cY (uF hr (aa 3) (aa 4))) (aC zV) du) (aC (u0 2 nd (DE.b ay))))) (aC (bh (aI 2)))))
theorem EF:aJ ["self","sign"] ["self","sign"] (aj (aL 16 2)):=⟨rfl,rfl,rfl,by decide+kernel,rfl,by decide+kernel,by decide+kernel⟩
theorem Jz(C:jC K mg κ CR CC dq dA dB dD c7)(F:nW K "comes" "Reading.comes" (aL 16 2) nP mV):aH P w K mg base b8 1 nP mV ["self","sign"] (fE K κ false fm):=
 bC F EF λdO A outer s H E hr=>have nd:=EF.nd;(aC (bh (nC (kK hr (DE.b (eX (DE.b (dv C.fld (C.gN _) (aa 0))) (da (DE.b (dv C.fld (C.gN _) (aa 0)))) (da (DE.b (ba (DE.b (dv C.fld (C.gN _) (aa 0))) (DE.b ay)))))) (aa 1)))))
theorem EG:aJ ["self","rest","reach"] ["self"] (aj (aL 16 1)):=⟨rfl,rfl,rfl,by decide+kernel,rfl,by decide+kernel,by decide+kernel⟩
theorem JA(OV:mg "max" =none)(C:jC K mg κ CR CC dq dA dB dD c7)(F:nW K "take_word" "Reading.take_word" (aL 16 1) qi qk)
  (Fs:nW K "shared_signs" "shared_signs" (top 14) sY rF)(ms:mg "shared_signs" =some (.ref sY))(bs:Binds K rF ["text","word"] [])(Gs:aH P w K mg base b8 1 sY rF ["text","word"] (fE K κ false b5)):aH P w K mg base b8 2 qi qk ["self"] (qJ K κ false d5):=
 uY F EG λdO A outer s H E hr=>have nd:=EG.nd;have q:=C.q;(dj (xO q 1 nd (eX (DE.b (dv C.fld (C.gN _) (aa 0))) (da (DE.b (dv C.fld (C.gN _) (aa 0)))) fO)) (dj (xO q 2 nd (su (DO.b (i5 (iS (DE.b (dv C.fld (C.gN _) (aa 0)))) (aj (aL 16 1)) ["self","rest","reach"] ["self","rest","reach"] (λex C s H=>(cJ (Gs.mono (by decide)) hr ms Fs.kp bs (ag (aI 2) (ag (aI 0) aP)))))) OV)) (dj (Aw q (aI 2)) (dj (uW q (cY (Ab (DE.b (eX (aa 1) fO (da (aa 2)))) (DE.b (dv C.fld (C.gN _) (aa 0))))) (fg mH) mG) (fg (Dm q (eX (aa 1) fO (da (aa 2)))))))))
theorem EH:aJ ["self","sign"] ["self","sign"] (aj (aL 16 3)):=⟨rfl,rfl,rfl,by decide+kernel,rfl,by decide+kernel,by decide+kernel⟩
theorem JB(C:jC K mg κ CR CC dq dA dB dD c7)(F:nW K "take_sign" "Reading.take_sign" (aL 16 3) qj ql)(hm:Meth K (κ.adr 4) "comes" nP)(bc:Binds K mV ["self","sign"] [])(Gc:aH P w K mg base b8 1 nP mV ["self","sign"] (fE K κ false fm)):aH P w K mg base b8 2 qj ql ["self","sign"] (qJ K κ false b6):=
 uY F EH λdO A outer s H E hr=>have nd:=EH.nd;have q:=C.q;have M:=nY C.rc C.fld hm Gc bc;(dj (uW q (nD (gJ (xG M hr (aI 0) (ag (aI 1) aP)))) (fg mH) mG) (fg (Aw q ay)))
variable{oK qm mW sZ td JC fi:Addr}{mX qp kX vp vq EI kP og oh oi:FuncData}
theorem EJ:aJ ["opening","parts"] ["opening","parts"] (aj (top 15)):=⟨rfl,rfl,rfl,by decide+kernel,rfl,by decide+kernel,by decide+kernel⟩
theorem JD(C:jC K mg κ CR CC dq dA dB dD c7)(D:uP w.params K mg "FEWEST_PARTS" mK)(F:nW K "counting_rule" "counting_rule" (top 15) oK mX)
  (yU:aH P w K mg base b8 2 dA og ["self","parts"] (jN K (κ.adr 1) λys=>(ys.length:Nat)))(yV:Binds K og ["self","parts"] [])(yW:aH P w K mg base b8 2 dB oh ["self","parts"] (jN K (κ.adr 2) λ_=>1))(yX:Binds K oh ["self","parts"] [])(yY:aH P w K mg base b8 2 dD oi ["self","many","parts"] (kM K (κ.adr 3)))(yZ:Binds K oi ["self","many","parts"] []):aH P w K mg base b8 5 oK mX ["opening","parts"] (fE K κ false aT):=
 bC F EJ λdO A outer s H E hr=>have nd:=EJ.nd;(ao (fD (cY (kK hr (aa 0) (DE.b aV))) (aC (bh (uK C.kA yU (by rw[C.fld];rfl) (hr.mono (by decide)) C.gA yV (aa 1)))) du) (ao (fD (cY (kK hr (aa 0) (DE.b aV))) (aC (bh (uL C.kY yW (by rw[C.fld];rfl) (hr.mono (by decide)) C.gY yX (aa 1)))) du) (aC (bh (rj C.kS yY (by rw[C.fld];rfl) (hr.mono (by decide)) C.gS yZ (DE.b (xN D (aa 0))) (aa 1))))))
theorem EK:aJ ["self"] ["self"] (aj (aL 16 6)):=⟨rfl,rfl,rfl,by decide+kernel,rfl,by decide+kernel,by decide+kernel⟩
theorem JE(hl:mg "len" =none)(C:jC K mg κ CR CC dq dA dB dD c7)(F:nW K "take_end" "Reading.take_end" (aL 16 6) sZ vp):aH P w K mg base b8 1 sZ vp ["self"] (qJ K κ false eR):=
 uY F EK λdO A outer s H E hr=>have nd:=EK.nd;have q:=C.q;(fg (uW q (cY (xx (DE.b (dv C.fld (C.gN _) (aa 0))) (DE.b (ff (DE.b (dv C.fld (C.gN _) (aa 0))) hl)))) (fg mH) mG))
theorem EL:aJ ["self","fewest","parts"] ["self","fewest"] (aj (aL 16 4)):=⟨rfl,rfl,rfl,by decide+kernel,rfl,by decide+kernel,by decide+kernel⟩
theorem JF{FT:FQ}{k:Nat}(hk:2<=k)(hl:mg "len" =none)(hM:∃t,mg "MOST_PARTS" =some (.int 8 t))(C:jC K mg κ CR CC dq dA dB dD c7)(F:nW K "take_parts" "Reading.take_parts" (aL 16 4) qm qp)
  (mc:Meth K (κ.adr 4) "comes" nP)(bc:Binds K mV ["self","sign"] [])(Gc:aH P w K mg base b8 1 nP mV ["self","sign"] (fE K κ false fm))(ms:Meth K (κ.adr 4) "take_sign" qj)(bs:Binds K ql ["self","sign"] [])(Gs:aH P w K mg base b8 2 qj ql ["self","sign"] (qJ K κ false b6))
  (mr:Meth K (κ.adr 4) "take_rule" mW)(br:Binds K kX ["self"] [])(Gr:aH P w K mg base b8 k mW kX ["self"] (qJ K κ false FT)):aH P w K mg base b8 (k+1) qm qp ["self","fewest"] (qJ K κ true (oJ true 3 2 (dw FT))):=
 uY F EL λdO A outer s H E hr=>have nd:=EL.nd;have q:=C.q;have M:=(nY C.rc C.fld mc Gc bc).mono (Nat.le_trans (by decide) hk);have Gs:=Gs.mono hk;(dj (Az 2 nd (pU q mr Gr hr br)) (dj (Ax q 10 (DW.t (pK (cY (xx (DE.b (ff (aa 2) hl)) (aa 1))) (nE (nD (gJ (xG M hr (aI 0) (ag aV aP))))))) (dj (uW q (cY (kK hr (DE.b (ff (aa 2) hl)) (DE.b (Ac hM)))) (fg mH) mG) (dj (sx (oU q ms Gs hr bs (ag aV aP))) (dj (sx (oU q ms Gs hr bs (ag aV aP))) (fg (GL 2 (pU q mr Gr hr br))))))) (dj (sx (oU q ms Gs hr bs (ag aV aP))) (fg (Dp 2)))))
theorem EM:aJ ["self","word"] ["self"] (aj (aL 16 5)):=⟨rfl,rfl,rfl,by decide+kernel,rfl,by decide+kernel,by decide+kernel⟩
theorem JG{FP:FQ}{k:Nat}(hk:5<=k)(C:jC K mg κ CR CC dq dA dB dD c7)(D:uP w.params K mg "FEWEST_PARTS" mK)(F:nW K "take_rule" "Reading.take_rule" (aL 16 5) mW kX)(sV:aH P w K mg base b8 1 dq kP ["self","name"] (lu (κ.adr 0)))(sW:Binds K kP ["self","name"] [])
  (mw:Meth K (κ.adr 4) "take_word" qi)(bw:Binds K qk ["self"] [])(Gw:aH P w K mg base b8 2 qi qk ["self"] (qJ K κ false d5))(Fc:nW K "counting_rule" "counting_rule" (top 15) oK mX)(Kv:mg "counting_rule" =some (.ref oK))(Kw:Binds K mX ["opening","parts"] [])(Kx:aH P w K mg base b8 5 oK mX ["opening","parts"] (fE K κ false aT))
  (mp:Meth K (κ.adr 4) "take_parts" qm)(bp:Binds K qp ["self","fewest"] [])(Gp:aH P w K mg base b8 k qm qp ["self","fewest"] (qJ K κ true FP)):aH P w K mg base b8 (k+1) mW kX ["self"] (qJ K κ false (oJ false 2 1 (d6 FP))):=
 uY F EM λdO A outer s H E hr=>have nd:=EM.nd;have q:=C.q;(dj (Dq 1 nd (pU q mw (Gw.mono (Nat.le_trans (by decide) hk)) hr bw)) (dj (uW q (cY (yI D (aa 1))) (fg (Dn (ri C.kH sV (by rw[C.fld];rfl) (hr.mono (Nat.le_trans (by decide) hk)) C.gH sW (aa 1)))) mG) (fg (Dr q (Kx.mono hk) hr Kv Fc.kp Kw (aI 1) (oU q mp Gp hr bp (ag (xN D (aa 1)) aP))))))
theorem wo{k:Nat}{f:Addr}{fd:FuncData}{ps:List Str}{fr:Bool}:aH P w K mg base b8 k f fd ps (qJ K κ fr λ_ _ _=>none):=
 have no:∀{vs:List V} {H:Hp} {Q:VK} {E:XK},qJ K κ fr (λ_ _ _=>none) vs H Q E->False:=λ⟨_,_,_,_,_,_,_,_,_,_,_,_,_,_,_,_,z,_⟩=>by cases z
 ⟨λ_ _ _ _ h=>(no h).elim,λ_ _ _ _ _ _ _ _ _ _ _ _ _ h=>(no h).elim⟩
theorem Be(hl:mg "len" =none)(hM:∃t,mg "MOST_PARTS" =some (.int 8 t))(C:jC K mg κ CR CC dq dA dB dD c7)(D:uP w.params K mg "FEWEST_PARTS" mK)(F:nW K "take_rule" "Reading.take_rule" (aL 16 5) mW kX)(Fp:nW K "take_parts" "Reading.take_parts" (aL 16 4) qm qp)(sV:aH P w K mg base b8 1 dq kP ["self","name"] (lu (κ.adr 0)))(sW:Binds K kP ["self","name"] [])
  (mw:Meth K (κ.adr 4) "take_word" qi)(bw:Binds K qk ["self"] [])(Gw:aH P w K mg base b8 2 qi qk ["self"] (qJ K κ false d5))(Fc:nW K "counting_rule" "counting_rule" (top 15) oK mX)(Kv:mg "counting_rule" =some (.ref oK))(Kw:Binds K mX ["opening","parts"] [])(Kx:aH P w K mg base b8 5 oK mX ["opening","parts"] (fE K κ false aT))
  (mc:Meth K (κ.adr 4) "comes" nP)(bc:Binds K mV ["self","sign"] [])(Gc:aH P w K mg base b8 1 nP mV ["self","sign"] (fE K κ false fm))(ms:Meth K (κ.adr 4) "take_sign" qj)(bs:Binds K ql ["self","sign"] [])(Gs:aH P w K mg base b8 2 qj ql ["self","sign"] (qJ K κ false b6))
  (mr:Meth K (κ.adr 4) "take_rule" mW)(br:Binds K kX ["self"] [])(mp:Meth K (κ.adr 4) "take_parts" qm)(bp:Binds K qp ["self","fewest"] []):∀n:Nat,aH P w K mg base b8 (4+2*n) mW kX ["self"] (qJ K κ false (cp n))
 |0=>wo
 |n+1=>JG (k:=4+2*n+1) (by omega) C D F sV sW mw bw Gw Fc Kv Kw Kx mp bp (JF (by omega) hl hM C Fp mc bc Gc ms bs Gs mr br (Be hl hM C D F Fp sV sW mw bw Gw Fc Kv Kw Kx mc bc Gc ms bs Gs mr br mp bp n))
theorem EN:aJ ["self","roll","text"] ["self","roll","text"] (aj (aL 16 0)):=⟨rfl,rfl,rfl,by decide+kernel,rfl,by decide+kernel,by decide+kernel⟩
theorem Bf:(mK.map (·.1)).Nodup:=by decide+kernel
theorem JH(hL:mg "list" =none)(C:jC K mg κ CR CC dq dA dB dD c7)(D:uP w.params K mg "FEWEST_PARTS" mK)(F:nW K "__init__" "Reading.__init__" (aL 16 0) td vq):aH P w K mg base b8 1 td vq ["self","roll","text"] (Ds K κ jU):=
 yM F EN λdO A outer s H E hr=>have nd:=EN.nd;Jt C.q C.q2 (ba (DO.b (C1 (aa 1) hL)) (DO.b (Av D Bf (by decide) hL))) (aI 2)
theorem EO:aJ ["roll","text","reading","rule"] ["roll","text"] (aj (top 17)):=⟨rfl,rfl,rfl,by decide+kernel,rfl,by decide+kernel,by decide+kernel⟩
theorem JI(C:jC K mg κ CR CC dq dA dB dD c7)(F:nW K "read" "read" (top 17) JC EI)(M:Mk K (κ.adr 4) td)(gm:mg "Reading" =some (.ref (κ.adr 4)))(bi:Binds K vq ["self","roll","text"] [])(Gi:aH P w K mg base b8 1 td vq ["self","roll","text"] (Ds K κ jU))
  (mr:Meth K (κ.adr 4) "take_rule" mW)(br:Binds K kX ["self"] [])(Gr:aH P w K mg base b8 52 mW kX ["self"] (qJ K κ false (cp 24)))(me:Meth K (κ.adr 4) "take_end" sZ)(be:Binds K vp ["self"] [])(Ge:aH P w K mg base b8 1 sZ vp ["self"] (qJ K κ false eR)):aH P w K mg base b8 53 JC EI ["roll","text"] (fE K κ false eS):=
 bC F EO λdO A outer s H E hr=>have nd:=EO.nd;AD C.q 2 3 nd M (Gi.mono (by decide:1<=51)) hr gm bi mr Gr hr br me (Ge.mono (by decide:1<=52)) hr be (ag (aI 0) (ag (aI 1) aP))
theorem ot:aJ ["_law_found","_law_due","_law_k"] ["_law_found","_law_due"] (aj (top 28)):=⟨rfl,rfl,rfl,by decide+kernel,rfl,by decide+kernel,by decide+kernel⟩
theorem mY(B:Bl K mg)(bR:Ed K mg "_law_same" (top 28) ["_law_found","_law_due"] dF d9):∀n:Nat,aH P w K mg base b8 n dF d9 ["_law_found","_law_due"] (fE K κ false (b7 n))
 |0=>yB
 |n+1=>have gU:=mY B bR n;bC bR.F ot λdO A outer s H E hr=>have nd:=ot.nd;(ao (fD (DW.t (pK (gJ (gf (aa 1) B.isinstance B.tuple)) (nE (gJ (gM (aa 1) B.isinstance B.list))))) (ao (fD (DW.t (pK (cY (uF hr (DE.b (gf (aa 0) B.isinstance B.tuple)) (DE.b (gf (aa 1) B.isinstance B.tuple)))) (nE (cY (uF hr (DE.b (gM (aa 0) B.isinstance B.list)) (DE.b (gM (aa 1) B.isinstance B.list))))))) (aC (bh pJ)) du) (ao (fD (cY (uF hr (DE.b (ff (aa 0) B.len)) (DE.b (ff (aa 1) B.len)))) (aC (bh pJ)) du) (ao (nF (oS (DE.b (ff (aa 1) B.len)) B.range) (eZ 2 nd) (aC (fD (nD (gJ (cJ gU hr bR.m bR.F.kp bR.b (ag (gK (aa 0) (aa 2)) (ag (gK (aa 1) (aa 2)) aP))))) (aC (bh pJ)) du))) (aC (bh pJ))))) du) (ao (fD (gJ (gL (aa 1) B.isinstance B.bool)) (aC (bh (mx (gL (aa 0) B.isinstance B.bool) (sr (nC (kK hr (aa 0) (aa 1))))))) du) (ao (fD (gJ (kL (aa 1) B.isinstance B.int)) (aC (bh (mx (kL (aa 0) B.isinstance B.int) (mx (CN (gL (aa 0) B.isinstance B.bool)) (sr (nC (kK hr (aa 0) (aa 1)))))))) du) (ao (fD (gJ (ik (aa 1) B.isinstance B.str)) (aC (bh (mx (ik (aa 0) B.isinstance B.str) (sr (nC (kK hr (aa 0) (aa 1))))))) du) (aC (bh (mx (nC (Aa (aa 1))) (sr (nC (Aa (aa 0)))))))))))
theorem vt(B:Bl K mg)(bR:Ed K mg "_law_same" (top 28) ["_law_found","_law_due"] dF d9):aH P w K mg base b8 50 dF d9 ["_law_found","_law_due"] (fE K κ false aS):=mY B bR 50
theorem Bg:aJ ["_law_script","_law_roll_here","_law_rule","_law_shape","_law_text","_law_deep","_law_k","_law_found","_law_told"] ["_law_script"] (aj (top 29)):=⟨rfl,rfl,rfl,by decide+kernel,rfl,by decide+kernel,by decide+kernel⟩
theorem G3(B:Bl K mg)(Bh:Ed K mg "law" (top 29) ["_law_script"] vi sQ)(C:jC K mg κ CR CC dq dA dB dD c7)(gw:cE P w K mg base κ false "shape" 49 ["self"] bL)(ja:cE P w K mg base κ false "text" 49 ["self"] cq)(eC:Ed K mg "_law_roll" (top 23) ["_law_script"] eV f9)(lG:aH P w K mg base b8 3 eV f9 ["_law_script"] (fE K κ false F_law_roll))(dt:Ed K mg "_law_built" (top 27) ["_law_script","_law_at","_law_size","_law_roll_here"] d8 fB)(j1:aH P w K mg base b8 8 d8 fB ["_law_script","_law_at","_law_size","_law_roll_here"] (fE K κ false F_law_built))(nQ:Ed K mg "read" (top 17) ["roll","text"] qd sP)(wq:aH P w K mg base b8 53 qd sP ["roll","text"] (fE K κ false eS))(bR:Ed K mg "_law_same" (top 28) ["_law_found","_law_due"] dF d9)(gU:aH P w K mg base b8 50 dF d9 ["_law_found","_law_due"] (fE K κ false aS)):aH P w K mg base b8 54 vi sQ ["_law_script"] (fE K κ false x5):=
 bC Bh.F Bg λdO A outer s H E hr=>have nd:=Bg.nd;(ao (bH 1 nd (cJ (lG.mono (by decide)) hr eC.m eC.F.kp eC.b (ag (aI 0) aP))) (ao (Gq (Gu (mB (eZ 2 nd) (mB (eZ 3 nd) (mB (eZ 4 nd) (mB (eZ 5 nd) C5))))) (cJ (j1.mono (by decide)) hr dt.m dt.F.kp dt.b (ag (aI 0) (ag ay (ag ay (ag (aI 1) aP)))))) (ao (nF (oS (DE.b ay) B.range) (eZ 6 nd) (ao (bH 7 nd (cJ (wq.mono (by decide)) hr nQ.m nQ.F.kp nQ.b (ag (aI 1) (ag (aI 4) aP)))) (ao (fD (DW.t (pK (nD (gJ (GF C.isR (aa 7) B.isinstance C.gR))) (nE (nD (gJ (cJ (gU.mono (by decide)) hr bR.m bR.F.kp bR.b (ag (eK (gw.mono (by decide)) hr (aI 7)) (ag (aI 3) aP)))))))) (aC (bh pJ)) du) (ao (bH 8 nd (eK (ja.mono (by decide)) hr (aI 7))) (aC (fD (DW.t (pK (nD (gJ (ik (aa 8) B.isinstance B.str))) (nE (cY (uF hr (aa 8) (aa 4)))))) (aC (bh pJ)) du)))))) (aC (bh pJ)))))
theorem rG(B:Bl K mg)(C:jC K mg κ CR CC dq dA dB dD c7)(dG:Em K "shape" "All.shape" (aL 8 1) ["self"] cu fP)(dH:Em K "shape" "Any.shape" (aL 9 1) ["self"] cv fQ)(av:Em K "shapes_of_parts" "Counting.shapes_of_parts" (aL 7 3) ["self"] ai bD)(cZ:Em K "shape" "Hand.shape" (aL 6 1) ["self"] bY fv)(c6:Em K "shape" "Some.shape" (aL 10 1) ["self"] bZ fw)(gy:Meth K (κ.adr 0) "shape" bY)(ib:Meth K (κ.adr 1) "shape" cu)(ic:Meth K (κ.adr 2) "shape" cv)(gz:Meth K (κ.adr 3) "shape" bZ)(cK:Meth K (κ.adr 1) "shapes_of_parts" ai)(cL:Meth K (κ.adr 2) "shapes_of_parts" ai)(cy:Meth K (κ.adr 3) "shapes_of_parts" ai):∀n:Nat,cE P w K mg base κ false "shape" (1+2*n) ["self"] (fq n)
 |0=>λc xs p h=>by cases h
 |n+1=>by
  have gw:=rG B C dG dH av cZ c6 gy ib ic gz cK cL cy n
  have DX:1<=1+2*n+1:=by omega
  have vj:1<=1+2*n:=by omega
  have bf:cE P w K mg base κ false "shapes_of_parts" (1+2*n+1) ["self"] (dz (fq n)):=λc xs p h=>match c,h with
   |1,_=>⟨_,_,C.cls 1 (by decide),cK,by rw[C.fld];decide,cg vj B av C gw,av.b⟩
   |2,_=>⟨_,_,C.cls 2 (by decide),cL,by rw[C.fld];decide,cg vj B av C gw,av.b⟩
   |3,_=>⟨_,_,C.cls 3 (by decide),cy,by rw[C.fld];decide,cg vj B av C gw,av.b⟩
   |0,h=>by cases h
   |_+4,h=>by cases h
  exact λc xs p h=>match c,h with
   |0,_=>⟨_,_,C.cls 0 (by decide),gy,by rw[C.fld];decide,qe DX B cZ C,cZ.b⟩
   |1,_=>⟨_,_,C.cls 1 (by decide),ib,by rw[C.fld];decide,qM DX B dG C bf,dG.b⟩
   |2,_=>⟨_,_,C.cls 2 (by decide),ic,by rw[C.fld];decide,qN DX B dH C bf,dH.b⟩
   |3,_=>⟨_,_,C.cls 3 (by decide),gz,by rw[C.fld];decide,qf DX B c6 C bf,c6.b⟩
   |_+4,h=>by cases h
theorem vv(B:Bl K mg)(C:jC K mg κ CR CC dq dA dB dD c7)(ef:Em K "text" "All.text" (aL 8 2) ["self"] cT gq)(eg:Em K "text" "Any.text" (aL 9 2) ["self"] cU gr)(aA:Em K "text_of_parts" "Counting.text_of_parts" (aL 7 4) ["self"] ak bP)(dI:Em K "text" "Hand.text" (aL 6 2) ["self"] cw fR)(dJ:Em K "text" "Some.text" (aL 10 2) ["self"] cx fT)(ie:Meth K (κ.adr 0) "text" cw)(jd:Meth K (κ.adr 1) "text" cT)(je:Meth K (κ.adr 2) "text" cU)(ig:Meth K (κ.adr 3) "text" cx)(dd:Meth K (κ.adr 1) "text_of_parts" ak)(de:Meth K (κ.adr 2) "text_of_parts" ak)(cW:Meth K (κ.adr 3) "text_of_parts" ak):∀n:Nat,cE P w K mg base κ false "text" (1+2*n) ["self"] (gp n)
 |0=>λc xs p h=>by cases h
 |n+1=>by
  have ja:=vv B C ef eg aA dI dJ ie jd je ig dd de cW n
  have DX:1<=1+2*n+1:=by omega
  have vj:1<=1+2*n:=by omega
  have bE:cE P w K mg base κ false "text_of_parts" (1+2*n+1) ["self"] (eG (gp n)):=λc xs p h=>match c,h with
   |1,_=>⟨_,_,C.cls 1 (by decide),dd,by rw[C.fld];decide,cG vj B aA C ja,aA.b⟩
   |2,_=>⟨_,_,C.cls 2 (by decide),de,by rw[C.fld];decide,cG vj B aA C ja,aA.b⟩
   |3,_=>⟨_,_,C.cls 3 (by decide),cW,by rw[C.fld];decide,cG vj B aA C ja,aA.b⟩
   |0,h=>by cases h
   |_+4,h=>by cases h
  exact λc xs p h=>match c,h with
   |0,_=>⟨_,_,C.cls 0 (by decide),ie,by rw[C.fld];decide,qO DX B dI C,dI.b⟩
   |1,_=>⟨_,_,C.cls 1 (by decide),jd,by rw[C.fld];decide,sR DX B ef C bE,ef.b⟩
   |2,_=>⟨_,_,C.cls 2 (by decide),je,by rw[C.fld];decide,sT DX B eg C bE,eg.b⟩
   |3,_=>⟨_,_,C.cls 3 (by decide),ig,by rw[C.fld];decide,qP DX B dJ C bE,dJ.b⟩
   |_+4,h=>by cases h
theorem JJ:aJ ["self","name"] ["self","name"] (aj (aL 6 0)):=⟨rfl,rfl,rfl,by decide+kernel,rfl,by decide+kernel,by decide+kernel⟩
theorem JK:aJ ["self","parts"] ["self","parts"] (aj (aL 8 0)):=⟨rfl,rfl,rfl,by decide+kernel,rfl,by decide+kernel,by decide+kernel⟩
theorem JL:aJ ["self","parts"] ["self","parts"] (aj (aL 9 0)):=⟨rfl,rfl,rfl,by decide+kernel,rfl,by decide+kernel,by decide+kernel⟩
theorem JM:aJ ["self","many","parts"] ["self","many","parts"] (aj (aL 10 0)):=⟨rfl,rfl,rfl,by decide+kernel,rfl,by decide+kernel,by decide+kernel⟩
theorem JN:aJ ["self","wanted","parts"] ["self","wanted","parts"] (aj (aL 7 0)):=⟨rfl,rfl,rfl,by decide+kernel,rfl,by decide+kernel,by decide+kernel⟩
theorem JO(B:Bl K mg)(C:jC K mg κ CR CC dq dA dB dD c7)(d:Em K "__init__" "Hand.__init__" (aL 6 0) ["self","name"] dq kP):aH P w K mg base b8 1 dq kP ["self","name"] (lu (κ.adr 0)):=
 d.F.ok JJ (λvs H Q E h=>Aj h) λdO A outer s H vs Q E hr h=>⟨_,gj (nr (pv 0) (pv 1) rfl),C9 (C.cls 0 (by decide)) C.nn h⟩
theorem Bi(B:Bl K mg)(C:jC K mg κ CR CC dq dA dB dD c7)(c:Nat)(h0:0<c)(h4:c<4)(d:Em K "__init__" "Counting.__init__" (aL 7 0) ["self","wanted","parts"] c7 rE):aH P w K mg base b8 1 c7 rE ["self","wanted","parts"] (kM K (κ.adr c)):=
 d.F.ok JN (λvs H Q E h=>xH h) λdO A outer s H vs Q E hr h=>⟨_,fU (nr (pv 0) (pv 1) rfl) (gj (nr (pv 0) (iO kE (by rfl) B.tuple (by decide+kernel) (aQ (pv 2) cc)) rfl)),Gy (C.cls c h4) (C.nw c h0 h4) (C.np c h0 h4) h⟩
theorem JP(B:Bl K mg)(C:jC K mg κ CR CC dq dA dB dD c7)(dC:Em K "__init__" "Counting.__init__" (aL 7 0) ["self","wanted","parts"] c7 rE)(d:Em K "__init__" "All.__init__" (aL 8 0) ["self","parts"] dA og):aH P w K mg base b8 2 dA og ["self","parts"] (jN K (κ.adr 1) λys=>(ys.length:Nat)):=
 d.F.ok JK (λvs H Q E h=>xI h) λdO A outer s H vs Q E hr h=>⟨_,gj (g9 (pN C.cf (Bi B C 1 (by decide) (by decide) dC) hr (by rfl) C.gC dC.b (aQ (pv 0) (aQ (jI mn (by rfl) B.len PySem.boot_len (aQ (pv 1) cc)) (aQ (pv 1) cc))))),Ai GA h⟩
theorem JQ(B:Bl K mg)(C:jC K mg κ CR CC dq dA dB dD c7)(dC:Em K "__init__" "Counting.__init__" (aL 7 0) ["self","wanted","parts"] c7 rE)(d:Em K "__init__" "Any.__init__" (aL 9 0) ["self","parts"] dB oh):aH P w K mg base b8 2 dB oh ["self","parts"] (jN K (κ.adr 2) λ_=>1):=
 d.F.ok JL (λvs H Q E h=>xI h) λdO A outer s H vs Q E hr h=>⟨_,gj (g9 (pN C.cf (Bi B C 2 (by decide) (by decide) dC) hr (by rfl) C.gC dC.b (aQ (pv 0) (aQ vF (aQ (pv 1) cc))))),Ai GB h⟩
theorem JR(B:Bl K mg)(C:jC K mg κ CR CC dq dA dB dD c7)(dC:Em K "__init__" "Counting.__init__" (aL 7 0) ["self","wanted","parts"] c7 rE)(d:Em K "__init__" "Some.__init__" (aL 10 0) ["self","many","parts"] dD oi):aH P w K mg base b8 2 dD oi ["self","many","parts"] (kM K (κ.adr 3)):=
 d.F.ok JM (λvs H Q E h=>xH h) λdO A outer s H vs Q E hr h=>⟨_,gj (g9 (pN C.cf (Bi B C 3 (by decide) (by decide) dC) hr (by rfl) C.gC dC.b (aQ (pv 0) (aQ (pv 1) (aQ (pv 2) cc))))),Gz h⟩
end
section
variable{l:PySem.W.OpenLaw}{w:World}{K:PySem.W.Frag}{h:Heap}{mg:Str->Option Value}
theorem all_mk{fa:Addr}(X:K.In h)(G:h.Ns mainGlobals mg)(OW:mg "law" =some (.ref fa))
  {nR fM c_Hand c_All c_Any c_Some c_Reading:Addr}
  {td:Addr}
  {qi:Addr}
  {nP:Addr}
  {qj:Addr}
  {qm:Addr}
  {mW:Addr}
  {sZ:Addr}
  {sY:Addr}
  {oK:Addr}
  {DY:Addr}{Bj:Array DictEntry}{JS:Nat}
  {dq:Addr}
  {dA:Addr}
  {dB:Addr}
  {dD:Addr}
  {c7:Addr}
  {cu:Addr}
  {cT:Addr}
  {cv:Addr}
  {cU:Addr}
  {ai:Addr}
  {ak:Addr}
  {bY:Addr}
  {cw:Addr}
  {bZ:Addr}
  {cx:Addr}
  {bz:Addr}
  {eT:Addr}
  {eU:Addr}
  {d7:Addr}
  {eV:Addr}
  {b0:Addr}
  {dE:Addr}
  {eW:Addr}
  {d8:Addr}
  {qd:Addr}
  {dF:Addr}
  {vi:Addr}
  {tf:Tok}
  (wu:PySem.W.nsIn K mainGlobals "Rule" =some (some (.ref nR)))
  (lH:PySem.W.nsIn K mainGlobals "Counting" =some (some (.ref fM)))
  (wx:PySem.W.nsIn K mainGlobals "Hand" =some (some (.ref c_Hand)))
  (Bk:PySem.W.nsIn K mainGlobals "All" =some (some (.ref c_All)))
  (Bm:PySem.W.nsIn K mainGlobals "Any" =some (some (.ref c_Any)))
  (wy:PySem.W.nsIn K mainGlobals "Some" =some (some (.ref c_Some)))
  (nS:PySem.W.nsIn K mainGlobals "Reading" =some (some (.ref c_Reading)))
  (oW:PySem.W.plainGet K c_Hand Str.empty=true)
  (oX:PySem.W.hasDictIn K c_Hand=true)
  (oY:PySem.W.plainOver K c_Hand=true)
  (oZ:PySem.W.findIn K (.ref c_Hand) "__setattr__" =some (some (.builtin "object.__setattr__")))
  (tj:PySem.W.makesIn K c_Hand=true)
  (tm:PySem.W.keepIn K (.ref c_Hand)=true)
  (tq:PySem.W.findIn K (.ref c_Hand) "__class__" =some (some (.builtin "object.__class__")))
  (tu:PySem.W.mroIn K c_Hand (.type "object")=some true)
  (tw:PySem.W.kitOne K (.ref c_Hand) (.ref nR)=some true)
  (j2:PySem.W.findIn K (.ref c_Hand) "name" =some none)
  (tx:PySem.W.plainGet K c_All Str.empty=true)
  (tD:PySem.W.hasDictIn K c_All=true)
  (tE:PySem.W.plainOver K c_All=true)
  (tF:PySem.W.findIn K (.ref c_All) "__setattr__" =some (some (.builtin "object.__setattr__")))
  (wz:PySem.W.makesIn K c_All=true)
  (wA:PySem.W.keepIn K (.ref c_All)=true)
  (wB:PySem.W.findIn K (.ref c_All) "__class__" =some (some (.builtin "object.__class__")))
  (wC:PySem.W.mroIn K c_All (.type "object")=some true)
  (wD:PySem.W.kitOne K (.ref c_All) (.ref nR)=some true)
  (jf:PySem.W.findIn K (.ref c_All) "wanted" =some none)
  (j3:PySem.W.findIn K (.ref c_All) "parts" =some none)
  (tG:PySem.W.plainGet K c_Any Str.empty=true)
  (tH:PySem.W.hasDictIn K c_Any=true)
  (tI:PySem.W.plainOver K c_Any=true)
  (tJ:PySem.W.findIn K (.ref c_Any) "__setattr__" =some (some (.builtin "object.__setattr__")))
  (wF:PySem.W.makesIn K c_Any=true)
  (wG:PySem.W.keepIn K (.ref c_Any)=true)
  (wH:PySem.W.findIn K (.ref c_Any) "__class__" =some (some (.builtin "object.__class__")))
  (wI:PySem.W.mroIn K c_Any (.type "object")=some true)
  (wJ:PySem.W.kitOne K (.ref c_Any) (.ref nR)=some true)
  (jg:PySem.W.findIn K (.ref c_Any) "wanted" =some none)
  (j4:PySem.W.findIn K (.ref c_Any) "parts" =some none)
  (o6:PySem.W.plainGet K c_Some Str.empty=true)
  (o7:PySem.W.hasDictIn K c_Some=true)
  (o8:PySem.W.plainOver K c_Some=true)
  (o9:PySem.W.findIn K (.ref c_Some) "__setattr__" =some (some (.builtin "object.__setattr__")))
  (tK:PySem.W.makesIn K c_Some=true)
  (tL:PySem.W.keepIn K (.ref c_Some)=true)
  (tM:PySem.W.findIn K (.ref c_Some) "__class__" =some (some (.builtin "object.__class__")))
  (tN:PySem.W.mroIn K c_Some (.type "object")=some true)
  (tO:PySem.W.kitOne K (.ref c_Some) (.ref nR)=some true)
  (iu:PySem.W.findIn K (.ref c_Some) "wanted" =some none)
  (jh:PySem.W.findIn K (.ref c_Some) "parts" =some none)
  (lI:PySem.W.plainGet K c_Reading Str.empty=true)
  (lK:PySem.W.hasDictIn K c_Reading=true)
  (lL:PySem.W.plainOver K c_Reading=true)
  (lM:PySem.W.findIn K (.ref c_Reading) "__setattr__" =some (some (.builtin "object.__setattr__")))
  (lN:PySem.W.makesIn K c_Reading=true)
  (lO:PySem.W.keepIn K (.ref c_Reading)=true)
  (gh:PySem.W.findIn K (.ref c_Reading) "words" =some none)
  (gi:PySem.W.findIn K (.ref c_Reading) "signs" =some none)
  (ji:PySem.W.findIn K (.ref c_Reading) "at" =some none)
  (x8:PySem.W.findIn K (.ref c_Reading) "__init__" =some (some (.ref td)))
  (x9:PySem.W.isFn K (.ref td)=true)
  (G4:FL K td "__init__" "Reading.__init__" (aL 16 0))
  (Bn:PySem.W.findIn K (.ref c_Reading) "take_word" =some (some (.ref qi)))
  (Bo:PySem.W.isFn K (.ref qi)=true)
  (G5:FL K qi "take_word" "Reading.take_word" (aL 16 1))
  (Bp:PySem.W.findIn K (.ref c_Reading) "comes" =some (some (.ref nP)))
  (Bq:PySem.W.isFn K (.ref nP)=true)
  (G6:FL K nP "comes" "Reading.comes" (aL 16 2))
  (Br:PySem.W.findIn K (.ref c_Reading) "take_sign" =some (some (.ref qj)))
  (Bs:PySem.W.isFn K (.ref qj)=true)
  (G7:FL K qj "take_sign" "Reading.take_sign" (aL 16 3))
  (Bt:PySem.W.findIn K (.ref c_Reading) "take_parts" =some (some (.ref qm)))
  (Bu:PySem.W.isFn K (.ref qm)=true)
  (G8:FL K qm "take_parts" "Reading.take_parts" (aL 16 4))
  (Bv:PySem.W.findIn K (.ref c_Reading) "take_rule" =some (some (.ref mW)))
  (Bw:PySem.W.isFn K (.ref mW)=true)
  (G9:FL K mW "take_rule" "Reading.take_rule" (aL 16 5))
  (Bx:PySem.W.findIn K (.ref c_Reading) "take_end" =some (some (.ref sZ)))
  (By:PySem.W.isFn K (.ref sZ)=true)
  (Ha:FL K sZ "take_end" "Reading.take_end" (aL 16 6))
  (Hb:PySem.W.nsIn K mainGlobals "shared_signs" =some (some (.ref sY)))
  (Hc:FL K sY "shared_signs" "shared_signs" (top 14))
  (Hd:PySem.W.nsIn K mainGlobals "counting_rule" =some (some (.ref oK)))
  (He:FL K oK "counting_rule" "counting_rule" (top 15))
  (Hf:PySem.W.nsIn K mainGlobals "FEWEST_PARTS" =some (some (.ref DY)))
  (Hg:K.lookup DY=some ⟨.type "dict",none,.dict Bj JS,#[]⟩)
  (Hh:mD w.params Bj.toList mK)
  (Hi:(DY==sysModules)=false)
  (HJ:PySem.W.specialIn K (.builtin "object.__class__") "__get__" =some (some (.builtin "getset_descriptor.__get__")))
  (HK:PySem.W.takesIn K (.builtin "object.__class__")=some true)
  (fiH:PySem.W.findIn K (.ref c_Hand) "__init__" =some (some (.ref dq)))
  (fnH:PySem.W.isFn K (.ref dq)=true)
  (Hj:FL K dq "__init__" "Hand.__init__" (aL 6 0))
  (fiA:PySem.W.findIn K (.ref c_All) "__init__" =some (some (.ref dA)))
  (fnA:PySem.W.isFn K (.ref dA)=true)
  (Hk:FL K dA "__init__" "All.__init__" (aL 8 0))
  (fiY:PySem.W.findIn K (.ref c_Any) "__init__" =some (some (.ref dB)))
  (fnY:PySem.W.isFn K (.ref dB)=true)
  (Hl:FL K dB "__init__" "Any.__init__" (aL 9 0))
  (fiS:PySem.W.findIn K (.ref c_Some) "__init__" =some (some (.ref dD)))
  (fnS:PySem.W.isFn K (.ref dD)=true)
  (Hm:FL K dD "__init__" "Some.__init__" (aL 10 0))
  (fiC:PySem.W.findIn K (.ref fM) "__init__" =some (some (.ref c7)))
  (fnC:PySem.W.isFn K (.ref c7)=true)
  (Ho:FL K c7 "__init__" "Counting.__init__" (aL 7 0))
  (rdC:PySem.W.readsIn K fM (.type "type")=true)
  (fcC:PySem.W.findCls K (.ref fM) (.type "type") "__init__" =some (.val (.ref c7)))
  (gaC:PySem.W.specialIn K (.ref fM) "__getattribute__" =some (some (.builtin "type.__getattribute__")))
  (hdC:PySem.W.handedIn (.ref c7)=true)
  (jj:PySem.W.findIn K (.ref c_All) "shape" =some (some (.ref cu)))
  (iw:PySem.W.isFn K (.ref cu)=true)
  (jk:FL K cu "shape" "All.shape" (aL 8 1))
  (j5:PySem.W.findIn K (.ref c_All) "text" =some (some (.ref cT)))
  (jl:PySem.W.isFn K (.ref cT)=true)
  (j6:FL K cT "text" "All.text" (aL 8 2))
  (jm:PySem.W.findIn K (.ref c_Any) "shape" =some (some (.ref cv)))
  (ix:PySem.W.isFn K (.ref cv)=true)
  (jn:FL K cv "shape" "Any.shape" (aL 9 1))
  (j7:PySem.W.findIn K (.ref c_Any) "text" =some (some (.ref cU)))
  (jo:PySem.W.isFn K (.ref cU)=true)
  (j8:FL K cU "text" "Any.text" (aL 9 2))
  (dM:PySem.W.findIn K (.ref c_All) "shapes_of_parts" =some (some (.ref ai)))
  (dN:PySem.W.findIn K (.ref c_Any) "shapes_of_parts" =some (some (.ref ai)))
  (dk:PySem.W.findIn K (.ref c_Some) "shapes_of_parts" =some (some (.ref ai)))
  (aY:PySem.W.isFn K (.ref ai)=true)
  (cz:FL K ai "shapes_of_parts" "Counting.shapes_of_parts" (aL 7 3))
  (eD:PySem.W.findIn K (.ref c_All) "text_of_parts" =some (some (.ref ak)))
  (eE:PySem.W.findIn K (.ref c_Any) "text_of_parts" =some (some (.ref ak)))
  (dU:PySem.W.findIn K (.ref c_Some) "text_of_parts" =some (some (.ref ak)))
  (bj:PySem.W.isFn K (.ref ak)=true)
  (cP:FL K ak "text_of_parts" "Counting.text_of_parts" (aL 7 4))
  (iy:PySem.W.findIn K (.ref c_Hand) "shape" =some (some (.ref bY)))
  (gV:PySem.W.isFn K (.ref bY)=true)
  (iz:FL K bY "shape" "Hand.shape" (aL 6 1))
  (jq:PySem.W.findIn K (.ref c_Hand) "text" =some (some (.ref cw)))
  (iA:PySem.W.isFn K (.ref cw)=true)
  (jr:FL K cw "text" "Hand.text" (aL 6 2))
  (iB:PySem.W.findIn K (.ref c_Some) "shape" =some (some (.ref bZ)))
  (gW:PySem.W.isFn K (.ref bZ)=true)
  (iC:FL K bZ "shape" "Some.shape" (aL 10 1))
  (js:PySem.W.findIn K (.ref c_Some) "text" =some (some (.ref cx)))
  (iD:PySem.W.isFn K (.ref cx)=true)
  (jt:FL K cx "text" "Some.text" (aL 10 2))
  (iE:PySem.W.nsIn K mainGlobals "_law_cell_at" =some (some (.ref bz)))
  (iF:FL K bz "_law_cell_at" "_law_cell_at" (top 19))
  (lP:PySem.W.nsIn K mainGlobals "_law_name" =some (some (.ref eT)))
  (lQ:FL K eT "_law_name" "_law_name" (top 21))
  (lR:PySem.W.nsIn K mainGlobals "_law_base" =some (some (.ref eU)))
  (lT:FL K eU "_law_base" "_law_base" (top 20))
  (j9:PySem.W.nsIn K mainGlobals "_law_names" =some (some (.ref d7)))
  (ka:FL K d7 "_law_names" "_law_names" (top 22))
  (lU:PySem.W.nsIn K mainGlobals "_law_roll" =some (some (.ref eV)))
  (lV:FL K eV "_law_roll" "_law_roll" (top 23))
  (iG:PySem.W.nsIn K mainGlobals "_law_counted" =some (some (.ref b0)))
  (iH:FL K b0 "_law_counted" "_law_counted" (top 25))
  (ju:PySem.W.nsIn K mainGlobals "_law_folded" =some (some (.ref dE)))
  (jv:FL K dE "_law_folded" "_law_folded" (top 26))
  (lX:PySem.W.nsIn K mainGlobals "_law_hand" =some (some (.ref eW)))
  (lZ:FL K eW "_law_hand" "_law_hand" (top 24))
  (kb:PySem.W.nsIn K mainGlobals "_law_built" =some (some (.ref d8)))
  (kc:FL K d8 "_law_built" "_law_built" (top 27))
  (wK:PySem.W.nsIn K mainGlobals "read" =some (some (.ref qd)))
  (wL:FL K qd "read" "read" (top 17))
  (l6:PySem.W.nsIn K mainGlobals "_law_same" =some (some (.ref dF)))
  (l7:FL K dF "_law_same" "_law_same" (top 28))
  (yb:PySem.W.nsIn K mainGlobals "law" =some (some (.ref vi)))
  (Bz:FL K vi "law" "law" (top 29))
  (wM:PySem.W.nsIn K mainGlobals "bool" =some none)
  (BA:PySem.W.nsIn K mainGlobals "int" =some none)
  (jw:PySem.W.nsIn K mainGlobals "isinstance" =some none)
  (BB:PySem.W.nsIn K mainGlobals "len" =some none)
  (wN:PySem.W.nsIn K mainGlobals "list" =some none)
  (BC:PySem.W.nsIn K mainGlobals "max" =some none)
  (tP:PySem.W.nsIn K mainGlobals "range" =some none)
  (BD:PySem.W.nsIn K mainGlobals "str" =some none)
  (tQ:PySem.W.nsIn K mainGlobals "tuple" =some none)
  (BE:PySem.W.nsIn K mainGlobals "zip" =some none)
  (jx:PySem.W.nsIn K mainGlobals "MOST_PARTS" =some (some (.int 8 tf)))
  :∃(κ:Kl) (fd:FuncData),(∀(s:Shared) (v:Value),BindsTo s fd ⟨[v],[]⟩ [("_law_script",v)])/\∀base:Heap,K.In base->base.Ns mainGlobals mg->aH l.prog w K mg base b8 54 fa fd ["_law_script"] (fE K κ false x5):=by
 have e:=OW.symm.trans (PySem.W.mg_of X G yb)
 cases e
 obtain⟨fP,iI⟩:=aR jk
 have dG:Em K "shape" "All.shape" (aL 8 1) ["self"] _ _:=⟨iI,iI.binds (ps:=["self"]) λ_ _ _ _ _ _ us hl=>by obtain⟨a0,rfl⟩:=kB hl;rfl⟩
 obtain⟨gq,jy⟩:=aR j6
 have ef:Em K "text" "All.text" (aL 8 2) ["self"] _ _:=⟨jy,jy.binds (ps:=["self"]) λ_ _ _ _ _ _ us hl=>by obtain⟨a0,rfl⟩:=kB hl;rfl⟩
 obtain⟨fQ,iJ⟩:=aR jn
 have dH:Em K "shape" "Any.shape" (aL 9 1) ["self"] _ _:=⟨iJ,iJ.binds (ps:=["self"]) λ_ _ _ _ _ _ us hl=>by obtain⟨a0,rfl⟩:=kB hl;rfl⟩
 obtain⟨gr,jz⟩:=aR j8
 have eg:Em K "text" "Any.text" (aL 9 2) ["self"] _ _:=⟨jz,jz.binds (ps:=["self"]) λ_ _ _ _ _ _ us hl=>by obtain⟨a0,rfl⟩:=kB hl;rfl⟩
 obtain⟨bD,aZ⟩:=aR cz
 have av:Em K "shapes_of_parts" "Counting.shapes_of_parts" (aL 7 3) ["self"] _ _:=⟨aZ,aZ.binds (ps:=["self"]) λ_ _ _ _ _ _ us hl=>by obtain⟨a0,rfl⟩:=kB hl;rfl⟩
 obtain⟨bP,bq⟩:=aR cP
 have aA:Em K "text_of_parts" "Counting.text_of_parts" (aL 7 4) ["self"] _ _:=⟨bq,bq.binds (ps:=["self"]) λ_ _ _ _ _ _ us hl=>by obtain⟨a0,rfl⟩:=kB hl;rfl⟩
 obtain⟨fv,gX⟩:=aR iz
 have cZ:Em K "shape" "Hand.shape" (aL 6 1) ["self"] _ _:=⟨gX,gX.binds (ps:=["self"]) λ_ _ _ _ _ _ us hl=>by obtain⟨a0,rfl⟩:=kB hl;rfl⟩
 obtain⟨fR,iK⟩:=aR jr
 have dI:Em K "text" "Hand.text" (aL 6 2) ["self"] _ _:=⟨iK,iK.binds (ps:=["self"]) λ_ _ _ _ _ _ us hl=>by obtain⟨a0,rfl⟩:=kB hl;rfl⟩
 obtain⟨fw,gZ⟩:=aR iC
 have c6:Em K "shape" "Some.shape" (aL 10 1) ["self"] _ _:=⟨gZ,gZ.binds (ps:=["self"]) λ_ _ _ _ _ _ us hl=>by obtain⟨a0,rfl⟩:=kB hl;rfl⟩
 obtain⟨fT,iL⟩:=aR jt
 have dJ:Em K "text" "Some.text" (aL 10 2) ["self"] _ _:=⟨iL,iL.binds (ps:=["self"]) λ_ _ _ _ _ _ us hl=>by obtain⟨a0,rfl⟩:=kB hl;rfl⟩
 obtain⟨bQ,kd⟩:=aR iF
 have aB:Ed K mg "_law_cell_at" (top 19) ["_law_script","_law_k"] _ _:=⟨kd,kd.binds (ps:=["_law_script","_law_k"]) λ_ _ _ _ _ _ us hl=>by obtain⟨a0,a1,rfl⟩:=nG hl;rfl,PySem.W.mg_of X G iE⟩
 obtain⟨fZ,ou⟩:=aR lQ
 have en:Ed K mg "_law_name" (top 21) ["_law_base_here","_law_place","_law_size","_law_k"] _ _:=⟨ou,ou.binds (ps:=["_law_base_here","_law_place","_law_size","_law_k"]) λ_ _ _ _ _ _ us hl=>by obtain⟨a0,a1,a2,a3,rfl⟩:=Jm hl;rfl,PySem.W.mg_of X G lP⟩
 obtain⟨f6,oy⟩:=aR lT
 have et:Ed K mg "_law_base" (top 20) ["_law_cell","_law_size"] _ _:=⟨oy,oy.binds (ps:=["_law_cell","_law_size"]) λ_ _ _ _ _ _ us hl=>by obtain⟨a0,a1,rfl⟩:=nG hl;rfl,PySem.W.mg_of X G lR⟩
 obtain⟨fz,mZ⟩:=aR ka
 have dr:Ed K mg "_law_names" (top 22) ["_law_script","_law_at","_law_many"] _ _:=⟨mZ,mZ.binds (ps:=["_law_script","_law_at","_law_many"]) λ_ _ _ _ _ _ us hl=>by obtain⟨a0,a1,a2,rfl⟩:=An hl;rfl,PySem.W.mg_of X G j9⟩
 obtain⟨f9,oz⟩:=aR lV
 have eC:Ed K mg "_law_roll" (top 23) ["_law_script"] _ _:=⟨oz,oz.binds (ps:=["_law_script"]) λ_ _ _ _ _ _ us hl=>by obtain⟨a0,rfl⟩:=kB hl;rfl,PySem.W.mg_of X G lU⟩
 obtain⟨cF,ke⟩:=aR iH
 have a9:Ed K mg "_law_counted" (top 25) ["_law_kind","_law_many","_law_items"] _ _:=⟨ke,ke.binds (ps:=["_law_kind","_law_many","_law_items"]) λ_ _ _ _ _ _ us hl=>by obtain⟨a0,a1,a2,rfl⟩:=An hl;rfl,PySem.W.mg_of X G iG⟩
 obtain⟨eO,kZ⟩:=aR jv
 have cV:Ed K mg "_law_folded" (top 26) ["_law_pile","_law_cell"] _ _:=⟨kZ,kZ.binds (ps:=["_law_pile","_law_cell"]) λ_ _ _ _ _ _ us hl=>by obtain⟨a0,a1,rfl⟩:=nG hl;rfl,PySem.W.mg_of X G ju⟩
 obtain⟨gc,oA⟩:=aR lZ
 have cH:Ed K mg "_law_hand" (top 24) ["_law_name_here"] _ _:=⟨oA,oA.binds (ps:=["_law_name_here"]) λ_ _ _ _ _ _ us hl=>by obtain⟨a0,rfl⟩:=kB hl;rfl,PySem.W.mg_of X G lX⟩
 obtain⟨fB,m6⟩:=aR kc
 have dt:Ed K mg "_law_built" (top 27) ["_law_script","_law_at","_law_size","_law_roll_here"] _ _:=⟨m6,m6.binds (ps:=["_law_script","_law_at","_law_size","_law_roll_here"]) λ_ _ _ _ _ _ us hl=>by obtain⟨a0,a1,a2,a3,rfl⟩:=Jm hl;rfl,PySem.W.mg_of X G kb⟩
 obtain⟨sP,yc⟩:=aR wL
 have nQ:Ed K mg "read" (top 17) ["roll","text"] _ _:=⟨yc,yc.binds (ps:=["roll","text"]) λ_ _ _ _ _ _ us hl=>by obtain⟨a0,a1,rfl⟩:=nG hl;rfl,PySem.W.mg_of X G wK⟩
 obtain⟨d9,oB⟩:=aR l7
 have bR:Ed K mg "_law_same" (top 28) ["_law_found","_law_due"] _ _:=⟨oB,oB.binds (ps:=["_law_found","_law_due"]) λ_ _ _ _ _ _ us hl=>by obtain⟨a0,a1,rfl⟩:=nG hl;rfl,PySem.W.mg_of X G l6⟩
 obtain⟨sQ,wO⟩:=aR Bz
 have Bh:Ed K mg "law" (top 29) ["_law_script"] _ _:=⟨wO,wO.binds (ps:=["_law_script"]) λ_ _ _ _ _ _ us hl=>by obtain⟨a0,rfl⟩:=kB hl;rfl,PySem.W.mg_of X G yb⟩
 obtain⟨kP,ER⟩:=aR Hj
 have JT:Em K "__init__" "Hand.__init__" (aL 6 0) ["self","name"] _ _:=⟨ER,ER.binds (ps:=["self","name"]) λ_ _ _ _ _ _ us hl=>by obtain⟨a0,a1,rfl⟩:=nG hl;rfl⟩
 obtain⟨og,ES⟩:=aR Hk
 have JU:Em K "__init__" "All.__init__" (aL 8 0) ["self","parts"] _ _:=⟨ES,ES.binds (ps:=["self","parts"]) λ_ _ _ _ _ _ us hl=>by obtain⟨a0,a1,rfl⟩:=nG hl;rfl⟩
 obtain⟨oh,ET⟩:=aR Hl
 have JV:Em K "__init__" "Any.__init__" (aL 9 0) ["self","parts"] _ _:=⟨ET,ET.binds (ps:=["self","parts"]) λ_ _ _ _ _ _ us hl=>by obtain⟨a0,a1,rfl⟩:=nG hl;rfl⟩
 obtain⟨oi,EU⟩:=aR Hm
 have JW:Em K "__init__" "Some.__init__" (aL 10 0) ["self","many","parts"] _ _:=⟨EU,EU.binds (ps:=["self","many","parts"]) λ_ _ _ _ _ _ us hl=>by obtain⟨a0,a1,a2,rfl⟩:=An hl;rfl⟩
 obtain⟨rE,BF⟩:=aR Ho
 have Hq:Em K "__init__" "Counting.__init__" (aL 7 0) ["self","wanted","parts"] _ _:=⟨BF,BF.binds (ps:=["self","wanted","parts"]) λ_ _ _ _ _ _ us hl=>by obtain⟨a0,a1,a2,rfl⟩:=An hl;rfl⟩
 have B:Bl K mg:=⟨PySem.W.mg_none_of X G wM,PySem.W.mg_none_of X G BA,PySem.W.mg_none_of X G jw,PySem.W.mg_none_of X G BB,PySem.W.mg_none_of X G wN,PySem.W.mg_none_of X G BC,PySem.W.mg_none_of X G tP,PySem.W.mg_none_of X G BD,PySem.W.mg_none_of X G tQ,PySem.W.mg_none_of X G BE,⟨_,PySem.W.mg_of X G jx⟩⟩
 let κ:Kl:=⟨λc=>match c with|0=>c_Hand|1=>c_All|2=>c_Any|3=>c_Some|_=>c_Reading,jD⟩
 have C:jC K mg κ nR fM dq dA dB dD c7:=⟨rfl,λc hc=>match c,hc with|0,_=>⟨oW,oX,oY,oZ⟩|1,_=>⟨tx,tD,tE,tF⟩|2,_=>⟨tG,tH,tI,tJ⟩|3,_=>⟨o6,o7,o8,o9⟩|_+4,hc=>absurd hc (by omega),j2,λc h0 hc=>match c,h0,hc with|0,h0,_=>absurd h0 (by omega)|1,_,_=>jf|2,_,_=>jg|3,_,_=>iu|_+4,_,hc=>absurd hc (by omega),λc h0 hc=>match c,h0,hc with|0,h0,_=>absurd h0 (by omega)|1,_,_=>j3|2,_,_=>j4|3,_,_=>jh|_+4,_,hc=>absurd hc (by omega),⟨tj,fiH,fnH,tm⟩,⟨wz,fiA,fnA,wA⟩,⟨wF,fiY,fnY,wG⟩,⟨tK,fiS,fnS,tL⟩,PySem.W.mg_of X G wx,PySem.W.mg_of X G Bk,PySem.W.mg_of X G Bm,PySem.W.mg_of X G wy,⟨⟨_,rdC,fcC⟩,gaC,hdC,BF.kp⟩,PySem.W.mg_of X G lH,λc hc=>match c,hc with|0,_=>⟨⟨oW,oX,oY,oZ⟩,tq,HJ,HK,tu,tw⟩|1,_=>⟨⟨tx,tD,tE,tF⟩,wB,HJ,HK,wC,wD⟩|2,_=>⟨⟨tG,tH,tI,tJ⟩,wH,HJ,HK,wI,wJ⟩|3,_=>⟨⟨o6,o7,o8,o9⟩,tM,HJ,HK,tN,tO⟩|_+4,hc=>absurd hc (by omega),PySem.W.mg_of X G wu,⟨lI,lK,lL,lM⟩,gh,gi,ji⟩
 obtain⟨vq,BG⟩:=aR G4
 have Mg:=BG.binds (ps:=["self","roll","text"]) (λ_ _ _ _ _ _ us hl=>by obtain⟨a0,a1,a2,rfl⟩:=An hl;rfl)
 have OX:Meth K (κ.adr 4) "__init__" td:=⟨x8,x9,BG.kp⟩
 obtain⟨qk,BH⟩:=aR G5
 have Mh:=BH.binds (ps:=["self"]) (λ_ _ _ _ _ _ us hl=>by obtain⟨a0,rfl⟩:=kB hl;rfl)
 have Mi:Meth K (κ.adr 4) "take_word" qi:=⟨Bn,Bo,BH.kp⟩
 obtain⟨mV,BI⟩:=aR G6
 have JX:=BI.binds (ps:=["self","sign"]) (λ_ _ _ _ _ _ us hl=>by obtain⟨a0,a1,rfl⟩:=nG hl;rfl)
 have JY:Meth K (κ.adr 4) "comes" nP:=⟨Bp,Bq,BI.kp⟩
 obtain⟨ql,BJ⟩:=aR G7
 have Mj:=BJ.binds (ps:=["self","sign"]) (λ_ _ _ _ _ _ us hl=>by obtain⟨a0,a1,rfl⟩:=nG hl;rfl)
 have Ml:Meth K (κ.adr 4) "take_sign" qj:=⟨Br,Bs,BJ.kp⟩
 obtain⟨qp,BK⟩:=aR G8
 have Mm:=BK.binds (ps:=["self","fewest"]) (λ_ _ _ _ _ _ us hl=>by obtain⟨a0,a1,rfl⟩:=nG hl;rfl)
 have Mn:Meth K (κ.adr 4) "take_parts" qm:=⟨Bt,Bu,BK.kp⟩
 obtain⟨kX,BL⟩:=aR G9
 have JZ:=BL.binds (ps:=["self"]) (λ_ _ _ _ _ _ us hl=>by obtain⟨a0,rfl⟩:=kB hl;rfl)
 have J0:Meth K (κ.adr 4) "take_rule" mW:=⟨Bv,Bw,BL.kp⟩
 obtain⟨vp,BM⟩:=aR Ha
 have Mo:=BM.binds (ps:=["self"]) (λ_ _ _ _ _ _ us hl=>by obtain⟨a0,rfl⟩:=kB hl;rfl)
 have Mp:Meth K (κ.adr 4) "take_end" sZ:=⟨Bx,By,BM.kp⟩
 obtain⟨rF,BN⟩:=aR Hc
 have wb:=BN.binds (ps:=["text","word"]) (λ_ _ _ _ _ _ us hl=>by obtain⟨a0,a1,rfl⟩:=nG hl;rfl)
 have Mq:mg "shared_signs" =some (.ref sY):=PySem.W.mg_of X G Hb
 obtain⟨mX,BO⟩:=aR He
 have Mr:=BO.binds (ps:=["opening","parts"]) (λ_ _ _ _ _ _ us hl=>by obtain⟨a0,a1,rfl⟩:=nG hl;rfl)
 have Ms:mg "counting_rule" =some (.ref oK):=PySem.W.mg_of X G Hd
 have D:uP w.params K mg "FEWEST_PARTS" mK:=⟨DY,Bj,JS,PySem.W.mg_of X G Hf,Hg,Hh,Hi⟩
 refine⟨κ,sQ,λs v=>(by obtain⟨_,_,_,_,_,_,_,_,_,e,_⟩:=wO.ex;rw[e];exact .of_eq rfl),λbase _ _=>?_⟩
 have sV:=JO (P:=l.prog) (w:=w) (base:=base) B C JT
 have sW:=JT.b
 have yU:=JP (P:=l.prog) (w:=w) (base:=base) B C Hq JU
 have yV:=JU.b
 have yW:=JQ (P:=l.prog) (w:=w) (base:=base) B C Hq JV
 have yX:=JV.b
 have yY:=JR (P:=l.prog) (w:=w) (base:=base) B C Hq JW
 have yZ:=JW.b
 have gy:Meth K (κ.adr 0) "shape" bY:=⟨iy,gV,gX.kp⟩
 have ib:Meth K (κ.adr 1) "shape" cu:=⟨jj,iw,iI.kp⟩
 have ic:Meth K (κ.adr 2) "shape" cv:=⟨jm,ix,iJ.kp⟩
 have gz:Meth K (κ.adr 3) "shape" bZ:=⟨iB,gW,gZ.kp⟩
 have cK:Meth K (κ.adr 1) "shapes_of_parts" ai:=⟨dM,aY,aZ.kp⟩
 have cL:Meth K (κ.adr 2) "shapes_of_parts" ai:=⟨dN,aY,aZ.kp⟩
 have cy:Meth K (κ.adr 3) "shapes_of_parts" ai:=⟨dk,aY,aZ.kp⟩
 have gw:cE l.prog w K mg base κ false "shape" 49 _ bL:=rG (P:=l.prog) (w:=w) (base:=base) B C dG dH av cZ c6 gy ib ic gz cK cL cy 24
 have ie:Meth K (κ.adr 0) "text" cw:=⟨jq,iA,iK.kp⟩
 have jd:Meth K (κ.adr 1) "text" cT:=⟨j5,jl,jy.kp⟩
 have je:Meth K (κ.adr 2) "text" cU:=⟨j7,jo,jz.kp⟩
 have ig:Meth K (κ.adr 3) "text" cx:=⟨js,iD,iL.kp⟩
 have dd:Meth K (κ.adr 1) "text_of_parts" ak:=⟨eD,bj,bq.kp⟩
 have de:Meth K (κ.adr 2) "text_of_parts" ak:=⟨eE,bj,bq.kp⟩
 have cW:Meth K (κ.adr 3) "text_of_parts" ak:=⟨dU,bj,bq.kp⟩
 have ja:cE l.prog w K mg base κ false "text" 49 _ cq:=vv (P:=l.prog) (w:=w) (base:=base) B C ef eg aA dI dJ ie jd je ig dd de cW 24
 have bA:=qg (P:=l.prog) (w:=w) (base:=base) (κ:=κ) B aB
 have lE:=vk (P:=l.prog) (w:=w) (base:=base) (κ:=κ) B en
 have lF:=vm (P:=l.prog) (w:=w) (base:=base) (κ:=κ) B et
 have jZ:=sU (P:=l.prog) (w:=w) (base:=base) (κ:=κ) B dr aB bA en lE et lF
 have lG:=vn (P:=l.prog) (w:=w) (base:=base) (κ:=κ) B eC dr jZ aB bA
 have dR:=qh (P:=l.prog) (w:=w) (base:=base) (κ:=κ) B a9 C yU yV yW yX yY yZ
 have jb:=qQ (P:=l.prog) (w:=w) (base:=base) (κ:=κ) B cV a9 dR
 have jc:=vo (P:=l.prog) (w:=w) (base:=base) (κ:=κ) B cH C sV sW
 have j1:=sX (P:=l.prog) (w:=w) (base:=base) (κ:=κ) B dt cV jb cH jc aB bA a9 dR
 have Mt:=Jy (P:=l.prog) (w:=w) (base:=base) (κ:=κ) B.zip BN
 have J1:=Jz (P:=l.prog) (w:=w) (base:=base) (κ:=κ) C BI
 have Mu:=JA (P:=l.prog) (w:=w) (base:=base) (κ:=κ) B.max C BH BN Mq wb Mt
 have Mv:=JB (P:=l.prog) (w:=w) (base:=base) (κ:=κ) C BJ JY JX J1
 have Mw:=JD (P:=l.prog) (w:=w) (base:=base) (κ:=κ) C D BO yU yV yW yX yY yZ
 have Mx:=JE (P:=l.prog) (w:=w) (base:=base) (κ:=κ) B.len C BM
 have Mz:=Be (P:=l.prog) (w:=w) (base:=base) (κ:=κ) B.len B.g_MOST_PARTS C D BL BK sV sW Mi Mh Mu BO Ms Mr Mw JY JX J1 Ml Mj Mv J0 JZ Mn Mm 24
 have MA:=JH (P:=l.prog) (w:=w) (base:=base) (κ:=κ) B.list C D BG
 have wq:=JI (P:=l.prog) (w:=w) (base:=base) (κ:=κ) C nQ.F ⟨lN,x8,x9,lO⟩ (PySem.W.mg_of X G nS) Mg MA J0 JZ Mz Mp Mo Mx
 have gU:=vt (P:=l.prog) (w:=w) (base:=base) (κ:=κ) B bR
 have J2:=G3 (P:=l.prog) (w:=w) (base:=base) (κ:=κ) B Bh C gw ja eC lG dt j1 nQ wq bR gU
 exact J2
end
noncomputable def J3(x:Str):Prop:=Lw x/\1<=x.length/\x.length<=50
theorem m9{i:Nat}{body:aU}{x:PV}{xs:List PV}{ρ ρ':c8}(h:body (ρ.set i (.sh x))=some (.nx ρ')):forL (bW i) body (x::xs) ρ=forL (bW i) body xs ρ':=by
 rw[sy]
 show(body (ρ.set i (.sh x))).bind _=_
 rw[h]
 rfl
theorem y6(x:Str)(n:Nat)(h:x.length<=n):(bU x none (some (n:Int)) 1).length=x.length:=by
 have e:Builtin.Str.strSliceIndices none (some (n:Int)) 1 x.length=(List.range x.length).map (0+·):=by
  have:=PySem.sliceRange_one 0 x.length
  rw[Nat.sub_zero]at this
  rw[<-this]
  unfold Builtin.Str.strSliceIndices
  simp only
  congr 1
  rw[if_pos (by decide),if_neg (by omega)]
  omega
 unfold bU
 rw[e]
 rw[if_pos (by rw[List.length_map,List.length_range];simp)]
theorem y7(s0 s1:Slot){m:Int}(h0:0<=m)(h1:m<2147483647){x:Str}(hx:x.length<=100)(k:Nat):∃m' x',0<=m'/\m'<2147483647/\x'.length=x.length+1/\(Lw x->Lw x')/\i9 [s0,s1,.sh (.int m),.sh (.str x),.sh (.int k)]=some (.nx [s0,s1,.sh (.int m'),.sh (.str x'),.sh (.int k)]):=by
 have e1:af cX (af bB (af bB (af bB (af ny (dV 2) (dV 2)) (af ny (dC (.int 48271)) (dV 2))) (dV 4)) (dC (.int 1))) (dC (.int 2147483647)) [s0,s1,.sh (.int m),.sh (.str x),.sh (.int k)]=some (.int ((m*m+48271*m+k+1) % 2147483647)):=by
  refine(ah (x:=.int (m*m+48271*m+k+1)) (y:=.int 2147483647) ?_ rfl).trans (jQ _ (by decide))
  refine(ah (x:=.int (m*m+48271*m+k)) (y:=.int 1) ?_ rfl).trans rfl
  refine(ah (x:=.int (m*m+48271*m)) (y:=.int k) ?_ rfl).trans rfl
  refine(ah ((ah (x:=.int m) (y:=.int m) rfl rfl).trans (gB (by omega) (by omega))) ((ah (x:=.int 48271) (y:=.int m) rfl rfl).trans (gB (by omega) (by omega)))).trans rfl
 have b1:=Int.emod_nonneg (m*m+48271*m+k+1) (show(2147483647:Int)≠0 by decide)
 have b2:=Int.emod_lt_of_pos (m*m+48271*m+k+1) (show(0:Int)<2147483647 by decide)
 generalize(m*m+48271*m+k+1) % 2147483647=m' at e1 b1 b2
 have b3:=mod_lt m' (n:=26) (by decide)
 have ey:=rC b3
 refine⟨m',x++i8 ((m' %((26:Nat):Int)).toNat),b1,b2,by rw[cm];rfl,λh=>sE h (xS b3),(az (aW e1)).trans (aW ?_)⟩
 refine(ah (x:=.str x) (y:=.str (i8 ((m' %((26:Nat):Int)).toNat))) rfl ?_).trans (ck _ _ (by show x.length+1<=_;omega))
 exact(ah (x:=.str kC) rfl ((ah (x:=.int m') (y:=.int ((26:Nat):Int)) rfl rfl).trans (d4 _ (by decide)))).trans ey
theorem vx(s0 s1:Slot):∀(ks:List Nat) (m:Int) (x:Str) (s4:Slot),0<=m->m<2147483647->x.length+ks.length<=100->
  ∃m' x' t4,x'.length=x.length+ks.length/\(Lw x->Lw x')/\forL (bW 4) i9 (pl ks) [s0,s1,.sh (.int m),.sh (.str x),s4]=some (.nx [s0,s1,.sh (.int m'),.sh (.str x'),t4])
 |[],m,x,s4,_,_,_=>⟨m,x,s4,rfl,id,rfl⟩
 |k::ks,m,x,s4,h0,h1,h2=>by
  rw[List.length_cons]at h2
  obtain⟨m1,x1,a1,a2,a3,a5,a4⟩:=y7 s0 s1 h0 h1 (x:=x) (by omega) k
  obtain⟨m2,x2,t4,b1,b3,b2⟩:=vx s0 s1 ks m1 x1 (.sh (.int k)) a1 a2 (by omega)
  refine⟨m2,x2,t4,by rw[b1,a3,List.length_cons];omega,λh=>b3 (a5 h),Eq.trans ?_ b2⟩
  exact m9 (i:=4) (x:=.int k) (xs:=pl ks) (ρ:=[s0,s1,.sh (.int m),.sh (.str x),s4]) a4
theorem DZ(c:Int):∃x:Str,x.length=20/\Lw x/\F_law_base [.int c,.int 20]=some (.str x):=by
 have b1:=Int.emod_nonneg c (show(2147483647:Int)≠0 by decide)
 have b2:=Int.emod_lt_of_pos c (show(0:Int)<2147483647 by decide)
 have e1:af cX (af bB (af ny (af cX (dV 0) (dC (.int 2147483647))) (dC (.int 16807))) (dC (.int 11))) (dC (.int 2147483647)) [.sh (.int c),.sh (.int 20),.un,.un,.un]=some (.int ((c % 2147483647*16807+11) % 2147483647)):=by
  refine(ah (x:=.int (c % 2147483647*16807+11)) (y:=.int 2147483647) ?_ rfl).trans (jQ _ (by decide))
  refine(ah (x:=.int (c % 2147483647*16807)) (y:=.int 11) ?_ rfl).trans rfl
  exact(ah (x:=.int (c % 2147483647)) (y:=.int 16807) ((ah (x:=.int c) (y:=.int 2147483647) rfl rfl).trans (jQ _ (by decide))) rfl).trans (gB (by omega) (by omega))
 have b3:=Int.emod_nonneg (c % 2147483647*16807+11) (show(2147483647:Int)≠0 by decide)
 have b4:=Int.emod_lt_of_pos (c % 2147483647*16807+11) (show(0:Int)<2147483647 by decide)
 generalize(c % 2147483647*16807+11) % 2147483647=m at e1 b3 b4
 obtain⟨m',x',t4,h1,h3,h2⟩:=vx (.sh (.int c)) (.sh (.int 20)) (List.range 20) m "" .un b3 b4 (by decide)
 refine⟨x',by rw[h1];decide,h3 (AO (by decide+kernel)),fV rfl ?_⟩
 refine(az (aW e1)).trans ((az (aW (p:=.str "") rfl)).trans ?_)
 exact(az ((kr (mJ (n:=20) rfl (by decide))).trans h2)).trans rfl
theorem D0{b:Str}{place size:Nat}(h1:place<b.length)(h2:b.length<=100):∃F:Int,∀k:Nat,k<=1000->bI [.str b,.int place,.int size,.int k]=some (.str ((bU b none (some (place:Int)) 1++i8 ((F+3*(k:Int)) %((26:Nat):Int)).toNat)++bU b (some ((place+1:Nat):Int)) (some (size:Int)) 1)):=by
 obtain⟨c,hc,ec⟩:=GP (x:=b) (i:=place) h1 (by omega)
 refine⟨Txt.find kC c,λk h3=>?_⟩
 have b3:=mod_lt (Txt.find kC c+3*(k:Int)) (n:=26) (by decide)
 have ey:=rC b3
 have c1:=nI b none (some (place:Int)) (st:=1) (by decide)
 have c2:=nI b (some ((place+1:Nat):Int)) (some (size:Int)) (st:=1) (by decide)
 refine fV rfl ?_
 refine(az (aW (p:=.str kC) rfl)).trans ((az (aW (p:=.str (i8 ((Txt.find kC c+3*(k:Int)) %((26:Nat):Int)).toNat)) ?_)).trans (fj ?_))
 ·refine(ah (x:=.str kC) rfl ((ah (x:=.int (Txt.find kC c+3*(k:Int))) (y:=.int ((26:Nat):Int)) ?_ rfl).trans (d4 _ (by decide)))).trans ey
  refine(ah (x:=.int (Txt.find kC c)) (y:=.int (3*(k:Int))) ?_ ((ah (x:=.int 3) (y:=.int k) rfl rfl).trans (gB (by decide) (by decide)))).trans rfl
  exact(ah (x:=.str kC) rfl ((ah (x:=.str b) (y:=.int place) rfl rfl).trans ec)).trans rfl
 ·have hj:∀j,(i8 j).length=1:=λ_=>rfl
  have hj:=hj ((Txt.find kC c+3*(k:Int)) %((26:Nat):Int)).toNat
  refine(ah ((ah (y:=.str (i8 ((Txt.find kC c+3*(k:Int)) %((26:Nat):Int)).toNat)) (gO (y:=b) rfl rfl rfl (by omega)) rfl).trans (ck _ _ (by omega))) (gO (y:=b) (l:=some ((place+1:Nat):Int)) rfl rfl rfl (by omega))).trans (ck _ _ (by rw[cm];omega))
noncomputable def qq:List PV:=[.str "",.str "",.str "all",.str "",.str "any",.str "",.str "of",.str "al"]
theorem y8:((List.range 8).all λi=>match itemAt qq (i:Int)with|some (.str w)=>decide (w.length<=3)&&L8 w|_=>false)=true:=by decide+kernel
theorem BP{i:Nat}(h:i<8):∃w:Str,w.length<=3/\Lw w/\kj (.lst qq) (.int i)=some (.str w):=by
 have:=List.all_eq_true.mp y8 i (List.mem_range.mpr h)
 show∃w:Str,w.length<=3/\Lw w/\itemAt qq (i:Int)=some (.str w)
 split at this
 ·rename_i w e
  rw[Bool.and_eq_true]at this
  exact⟨w,of_decide_eq_true this.1,AO this.2,e⟩
 ·cases this
noncomputable def y2(cell:Int)(b:Str)(place size:Nat)(F:Int)(k:Nat):Str:=if decide (cell/20 % 4=1)=true then bU b none (some ((k+1:Nat):Int)) 1 else(bU b none (some (place:Int)) 1++i8 ((F+3*(k:Int)) %((26:Nat):Int)).toNat)++bU b (some ((place+1:Nat):Int)) (some (size:Int)) 1
theorem EV{cell:Int}{b:Str}{place size:Nat}{F:Int}(hb:b.length=20)(ab:Lw b)(k:Nat):J3 (y2 cell b place size F k):=by
 have c1:=nI b none (some (place:Int)) (st:=1) (by decide)
 have c2:=nI b (some ((place+1:Nat):Int)) (some (size:Int)) (st:=1) (by decide)
 have c3:=nI b none (some ((k+1:Nat):Int)) (st:=1) (by decide)
 unfold y2
 split
 ·refine⟨sF ab _ _ _,?_,by omega⟩
  by_cases OY:k+1<=b.length
  ·rw[sD b (k+1) OY];omega
  ·rw[y6 b (k+1) (by omega)];omega
 ·have hj:(i8 ((F+3*(k:Int)) %((26:Nat):Int)).toNat).length=1:=rfl
  exact⟨sE (sE (sF ab _ _ _) (xS (mod_lt _ (by decide)))) (sF ab _ _ _),by rw[cm,cm,hj];omega,by rw[cm,cm,hj];omega⟩
theorem J4{cell:Int}{b:Str}{place size:Nat}{F:Int}(hb:b.length=20){j k:Nat}(hj:j<6)(hk:k<6)(h:j≠k):fin (y2 cell b place size F j)≠fin (y2 cell b place size F k):=by
 unfold y2
 cases decide (cell/20 % 4=1)with
 |true=>
  rw[if_pos rfl,if_pos rfl]
  intro e
  have:=congrArg Str.length e
  rw[oV,oV,sD b (j+1) (by omega),sD b (k+1) (by omega)]at this
  omega
 |false=>
  rw[if_neg Bool.noConfusion,if_neg Bool.noConfusion]
  exact GU (DD _ _ (by omega))
section
variable{F_law_cell_at bI F_law_base:List PV->Option PV}(hC:∀(ns:List Int) (k:Nat),F_law_cell_at [ni ns,.int k]=some (.int (ns.getD k 0)))
 (hB:∀c:Int,∃x:Str,x.length=20/\Lw x/\F_law_base [.int c,.int 20]=some (.str x))
theorem wR(s0 s1 s2 s5 s6:Slot)(cell:Int){s:Nat}(Ky:0<s){b:Str}(hb:b.length=20)(ab:Lw b){F:Int}(acc:List Str)(yJ:acc.length<=1000)(k:Nat)(EW:Slot)
  (e1:bI [.str b,.int ((cell/80 %(s:Int)).toNat:Nat),.int s,.int k]=some (.str ((bU b none (some ((cell/80 %(s:Int)).toNat:Int)) 1++i8 ((F+3*(k:Int)) %((26:Nat):Int)).toNat)++bU b (some (((cell/80 %(s:Int)).toNat+1:Nat):Int)) (some (s:Int)) 1))):
  iq F_law_cell_at bI F_law_base [s0,s1,s2,.sh (.int cell),.sh (.int s),s5,s6,.sh (.str b),.ow (acc.map PV.str),.sh (.int k),EW]=some (.nx [s0,s1,s2,.sh (.int cell),.sh (.int s),s5,s6,.sh (.str b),.ow ((acc++[fin (y2 cell b (cell/80 %(s:Int)).toNat s F k)]).map PV.str),.sh (.int k),.sh (.str (fin (y2 cell b (cell/80 %(s:Int)).toNat s F k)))]):=by
 have zl:(5000:Nat)<=sizeLine:=by decide
 obtain⟨_,_,l2⟩:=EV (cell:=cell) (place:=(cell/80 %(s:Int)).toNat) (size:=s) (F:=F) hb ab k
 have Ee:(iV (tV (af nh (af cX (af iZ (dV 3) (dC (.int 20))) (dC (.int 4))) (dC (.int 1)))) (cN 10 (i4 (dV 7) eI (bT (af bB (dV 9) (dC (.int 1)))))) cB) [s0,s1,s2,.sh (.int cell),.sh (.int s),s5,s6,.sh (.str b),.ow (acc.map PV.str),.sh (.int k),.sh (.str ((bU b none (some ((cell/80 %(s:Int)).toNat:Int)) 1++i8 ((F+3*(k:Int)) %((26:Nat):Int)).toNat)++bU b (some (((cell/80 %(s:Int)).toNat+1:Nat):Int)) (some (s:Int)) 1))]=some (.nx [s0,s1,s2,.sh (.int cell),.sh (.int s),s5,s6,.sh (.str b),.ow (acc.map PV.str),.sh (.int k),.sh (.str (y2 cell b (cell/80 %(s:Int)).toNat s F k))]):=by
  unfold y2
  generalize((bU b none (some ((cell/80 %(s:Int)).toNat:Int)) 1++i8 ((F+3*(k:Int)) %((26:Nat):Int)).toNat)++bU b (some (((cell/80 %(s:Int)).toNat+1:Nat):Int)) (some (s:Int)) 1)=y1
  have t:tV (af nh (af cX (af iZ (dV 3) (dC (.int 20))) (dC (.int 4))) (dC (.int 1))) [s0,s1,s2,.sh (.int cell),.sh (.int s),s5,s6,.sh (.str b),.ow (acc.map PV.str),.sh (.int k),.sh (.str y1)]=some (decide (cell/20 % 4=1)):=bN rfl
  cases hd:decide (cell/20 % 4=1)
  ·rw[hd]at t
   exact(eL t).trans rfl
  ·rw[hd]at t
   refine(ia t).trans (aW ?_)
   exact gO (y:=b) (h:=some ((k+1:Nat):Int)) rfl rfl rfl (by omega)
 generalize y2 cell b (cell/80 %(s:Int)).toNat s F k=y at Ee l2
 have Kb:(iV (tV (af IV (dV 10) (gd (ae (dC (.str "all")) (ae (dC (.str "any")) (ae (dC (.str "of")) aK)))))) (cN 10 (a8 Ga (dV 10))) cB) [s0,s1,s2,.sh (.int cell),.sh (.int s),s5,s6,.sh (.str b),.ow (acc.map PV.str),.sh (.int k),.sh (.str y)]=some (.nx [s0,s1,s2,.sh (.int cell),.sh (.int s),s5,s6,.sh (.str b),.ow (acc.map PV.str),.sh (.int k),.sh (.str (fin y))]):=by
  have tt:gd (ae (dC (.str "all")) (ae (dC (.str "any")) (ae (dC (.str "of")) aK))) [s0,s1,s2,.sh (.int cell),.sh (.int s),s5,s6,.sh (.str b),.ow (acc.map PV.str),.sh (.int k),.sh (.str y)]=some (.tup kept):=by
   show(if(3:Nat)<=sizeLine then some (PV.tup kept)else none)=_
   rw[if_pos (by omega)]
  have t:tV (af IV (dV 10) (gd (ae (dC (.str "all")) (ae (dC (.str "any")) (ae (dC (.str "of")) aK))))) [s0,s1,s2,.sh (.int cell),.sh (.int s),s5,s6,.sh (.str b),.ow (acc.map PV.str),.sh (.int k),.sh (.str y)]=some (r9 (.str y) kept):=bN ((ah (x:=.str y) rfl tt).trans rfl)
  unfold fin
  cases hd:r9 (.str y) kept
  ·rw[hd]at t
   exact(eL t).trans rfl
  ·rw[hd]at t
   refine(ia t).trans (aW ?_)
   show(if y.length<=sizeLine then some (PV.str (bU y none none (-1)))else none)=_
   rw[if_pos (by omega)]
   rfl
 refine(az (aW ((bO (au (x:=.str b) rfl (au ((ah (x:=.int (cell/80)) (y:=.int s) rfl rfl).trans (d4 _ Ky)) (au (x:=.int s) rfl (au (x:=.int k) rfl rfl))))).trans e1))).trans ?_
 refine(az Ee).trans ((az Kb).trans ?_)
 show((if(acc.map PV.str).length<sizeLine then some (acc.map PV.str++[PV.str (fin y)])else none).map λl'=>Fl.nx [s0,s1,s2,.sh (.int cell),.sh (.int s),s5,s6,.sh (.str b),.ow l',.sh (.int k),.sh (.str (fin y))])=_
 rw[if_pos (by rw[List.length_map];omega),List.map_append]
 rfl
theorem rH(s0 s1 s2 s5 s6:Slot)(cell:Int){s:Nat}(Ky:0<s){b:Str}(hb:b.length=20)(ab:Lw b){F:Int}
  (e1:∀k:Nat,k<=1000->bI [.str b,.int ((cell/80 %(s:Int)).toNat:Nat),.int s,.int k]=some (.str ((bU b none (some ((cell/80 %(s:Int)).toNat:Int)) 1++i8 ((F+3*(k:Int)) %((26:Nat):Int)).toNat)++bU b (some (((cell/80 %(s:Int)).toNat+1:Nat):Int)) (some (s:Int)) 1))):
  ∀(ks:List Nat) (acc:List Str) (s9 EW:Slot),(∀k∈ks,k<=1000)->acc.length+ks.length<=1000->
  ∃(t9 Kz:Slot),forL (bW 9) (iq F_law_cell_at bI F_law_base) (pl ks) [s0,s1,s2,.sh (.int cell),.sh (.int s),s5,s6,.sh (.str b),.ow (acc.map PV.str),s9,EW]=some (.nx [s0,s1,s2,.sh (.int cell),.sh (.int s),s5,s6,.sh (.str b),.ow ((acc++ks.map λk=>fin (y2 cell b (cell/80 %(s:Int)).toNat s F k)).map PV.str),t9,Kz])
 |[],acc,s9,EW,_,_=>⟨s9,EW,by rw[List.map_nil,List.append_nil];rfl⟩
 |k::ks,acc,s9,EW,h1,h2=>by
  rw[List.length_cons]at h2
  have e:=wR (F_law_cell_at:=F_law_cell_at) (F_law_base:=F_law_base) s0 s1 s2 s5 s6 cell Ky hb ab acc (by omega) k EW (e1 k (h1 k (List.mem_cons_self ..)))
  obtain⟨t9,Kz,q3⟩:=rH s0 s1 s2 s5 s6 cell Ky hb ab e1 ks (acc++[fin (y2 cell b (cell/80 %(s:Int)).toNat s F k)]) (.sh (.int k)) (.sh (.str (fin (y2 cell b (cell/80 %(s:Int)).toNat s F k)))) (λx hx=>h1 x (List.mem_cons_of_mem _ hx)) (by rw[List.length_append,List.length_singleton];omega)
  rw[List.append_assoc,List.singleton_append]at q3
  refine⟨t9,Kz,Eq.trans ?_ q3⟩
  exact m9 (i:=9) (x:=.int k) (xs:=pl ks) (ρ:=[s0,s1,s2,.sh (.int cell),.sh (.int s),s5,s6,.sh (.str b),.ow (acc.map PV.str),s9,EW]) e
include hC hB in
theorem y9(hN:∀{b:Str} {place size:Nat},place<b.length->b.length<=100->∃F:Int,∀k:Nat,k<=1000->bI [.str b,.int place,.int size,.int k]=some (.str ((bU b none (some (place:Int)) 1++i8 ((F+3*(k:Int)) %((26:Nat):Int)).toNat)++bU b (some ((place+1:Nat):Int)) (some (size:Int)) 1)))
  (ns:List Int)(a many:Nat)(hm:many<=6):∃f:Nat->Str,(∀k,J3 (f k))/\(∀j k,j<6->k<6->j≠k->f j≠f k)/\fn true 11 3 (n8 F_law_cell_at bI F_law_base) [ni ns,.int a,.int many]=some (.lst (((List.range many).map f).map PV.str)):=by
 have zl:(5000:Nat)<=sizeLine:=by decide
 have hs:=mod_lt (ns.getD a 0) (n:=20) (by decide)
 have hw:=mod_lt (ns.getD (a+1) 0) (n:=8) (by decide)
 obtain⟨w,lw,aw,ew⟩:=BP hw
 obtain⟨x,lx,ax,ex⟩:=hB (ns.getD (a+1) 0/8)
 have lb:(bU (w++x) none (some ((20:Nat):Int)) 1).length=20:=sD (w++x) 20 (by rw[cm];omega)
 have ab:Lw (bU (w++x) none (some ((20:Nat):Int)) 1):=sF (sE aw ax) _ _ _
 generalize eb:bU (w++x) none (some ((20:Nat):Int)) 1=b at lb ab
 have hp:=mod_lt (ns.getD a 0/80) (n:=1+(ns.getD a 0 %((20:Nat):Int)).toNat) (by omega)
 obtain⟨F,hF⟩:=hN (b:=b) (place:=(ns.getD a 0/80 %((1+(ns.getD a 0 %((20:Nat):Int)).toNat:Nat):Int)).toNat) (size:=1+(ns.getD a 0 %((20:Nat):Int)).toNat) (by omega) (by omega)
 obtain⟨t9,Kz,q3⟩:=rH (F_law_cell_at:=F_law_cell_at) (F_law_base:=F_law_base) (.sh (ni ns)) (.sh (.int a)) (.sh (.int many)) (.sh (.int (ns.getD (a+1) 0))) (.sh (.str w)) (ns.getD a 0) (s:=1+(ns.getD a 0 %((20:Nat):Int)).toNat) (by omega) lb ab hF (List.range many) [] .un .un (λk hk=>by have:=List.mem_range.mp hk;omega) (by rw[List.length_range];simp;omega)
 rw[List.nil_append]at q3
 refine⟨λk=>fin (y2 (ns.getD a 0) b (ns.getD a 0/80 %((1+(ns.getD a 0 %((20:Nat):Int)).toNat:Nat):Int)).toNat (1+(ns.getD a 0 %((20:Nat):Int)).toNat) F k),λk=>?_,λj k hj hk h=>J4 lb hj hk h,fV rfl ?_⟩
 ·obtain⟨o1,o2,o3⟩:=EV (cell:=ns.getD a 0) (place:=(ns.getD a 0/80 %((1+(ns.getD a 0 %((20:Nat):Int)).toNat:Nat):Int)).toNat) (size:=1+(ns.getD a 0 %((20:Nat):Int)).toNat) (F:=F) lb ab k
  exact⟨GS o1,by rw[oV];exact o2,by rw[oV];exact o3⟩
 refine(az (aW ((bO (ps:=[ni ns,.int a]) rfl).trans (hC ns a)))).trans ?_
 refine(az (aW (p:=.int ((1+(ns.getD a 0 %((20:Nat):Int)).toNat:Nat):Int)) ((ah (x:=.int ((1:Nat):Int)) rfl ((ah (x:=.int (ns.getD a 0)) (y:=.int ((20:Nat):Int)) rfl rfl).trans (d4 _ (by decide)))).trans rfl))).trans ?_
 refine(az (aW ((bO (ps:=[ni ns,.int ((a+1:Nat):Int)]) rfl).trans (hC ns (a+1))))).trans ?_
 generalize ns.getD (a+1) 0=more at*
 generalize ns.getD a 0=cell at*
 have OZ:af kj (vQ (ae (dC (.str "")) (ae (dC (.str "")) (ae (dC (.str "all")) (ae (dC (.str "")) (ae (dC (.str "any")) (ae (dC (.str "")) (ae (dC (.str "of")) (ae (dC (.str "al")) aK))))))))) (af cX (dV 5) (dC (.int 8))) [.sh (ni ns),.sh (.int a),.sh (.int many),.sh (.int cell),.sh (.int ((1+(cell %((20:Nat):Int)).toNat:Nat):Int)),.sh (.int more),.un,.un,.un,.un,.un]=some (.str w):=by
  refine(ah (x:=.lst qq) ?_ ((ah (x:=.int more) (y:=.int ((8:Nat):Int)) rfl rfl).trans (d4 _ (by decide)))).trans ew
  show(if(8:Nat)<=sizeLine then some (PV.lst qq)else none)=_
  rw[if_pos (by omega)]
 refine(az (aW OZ)).trans ?_
 refine(az (aW (p:=.str b) ?_)).trans ?_
 ·rw[<-eb]
  refine gO (h:=some ((20:Nat):Int)) ((ah (x:=.str w) (y:=.str x) rfl ?_).trans (ck _ _ (by omega))) rfl rfl (by rw[cm];omega)
  exact(bO (ps:=[.int (more/8),.int 20]) rfl).trans ex
 refine(az (jP (l:=[]) rfl)).trans ?_
 exact(az ((kr (mJ (n:=many) rfl (by omega))).trans q3)).trans rfl
end
theorem BQ(ns:List Int)(a many:Nat)(hm:many<=6):∃f:Nat->Str,(∀k,J3 (f k))/\(∀j k,j<6->k<6->j≠k->f j≠f k)/\eY [ni ns,.int a,.int many]=some (.lst (((List.range many).map f).map PV.str)):=y9 sC DZ D0 ns a many hm
noncomputable abbrev vy:Str:= ", "
noncomputable abbrev oC:Str:= ")"
noncomputable def Jn(its:List It):Str:=Txt.join vy (its.map It.t)
theorem wU(its:List It):((its.map It.t).map λt=>t.length+vy.length).sum=wt its:=by
 unfold wt
 rw[List.map_map]
 rfl
theorem yd(its:List It):(Jn its).length<=wt its:=by
 have:=join_le vy (its.map It.t)
 rw[wU]at this
 exact this
structure J5(names:List Str)(Ok:It->Prop):Prop where
 hand:∀x∈names,Ok ⟨.ins 0 [.str x],.tup [.str "hand",.str x],x,0⟩
 all:∀(its:List It) (n:Nat),its≠[]->its.length<=8->wt its<=50000->(∀i∈its,Ok i/\i.d<=n)->Ok ⟨.ins 1 [.int (its.length:Nat),.tup (its.map It.o)],.tup [.str "all",.tup (its.map It.s)],("all(" :Str)++(Jn its++oC),1+n⟩
 any:∀(its:List It) (n:Nat),its≠[]->its.length<=8->wt its<=50000->(∀i∈its,Ok i/\i.d<=n)->Ok ⟨.ins 2 [.int 1,.tup (its.map It.o)],.tup [.str "any",.tup (its.map It.s)],("any(" :Str)++(Jn its++oC),1+n⟩
 some:∀(its:List It) (n m:Nat),its≠[]->its.length<=8->wt its<=50000->(∀i∈its,Ok i/\i.d<=n)->1<=m->m<=its.length->Ok ⟨.ins 3 [.int (m:Nat),.tup (its.map It.o)],.tup [.str "some",.int (m:Nat),.tup (its.map It.s)],((toString (m:Int):Str)++(" of (" :Str))++(Jn its++oC),1+n⟩
theorem D1:((List.range 9).all λm=>decide ((toString (m:Int):Str).length<=1))=true:=by decide+kernel
theorem BS{m:Nat}(h:m<=8):(toString (m:Int):Str).length<=1:=of_decide_eq_true (List.all_eq_true.mp D1 m (List.mem_range.mpr (by omega)))
theorem vz(i:It)(s:List Slot)(k:Nat)(p:PV)(h:[i.o,i.s,.str i.t,.int (i.d:Nat)][k]?=some p):af kj (dV 0) (dC (.int (k:Nat))) (.sh i.p::s)=some p:=by
 have hk:k<4:=(List.getElem?_eq_some_iff.mp h).1
 show itemAt [i.o,i.s,.str i.t,.int (i.d:Nat)] (k:Int)=some p
 unfold itemAt HD
 rw[if_pos (by omega),if_pos (by show(k:Int)<((4:Nat):Int);omega)]
 show[i.o,i.s,.str i.t,.int (i.d:Nat)][(k:Int).toNat]?=_
 rw[Int.toNat_natCast]
 exact h
theorem qr{names:List Str}{Ok:It->Prop}(B:J5 names Ok){kind m:Nat}(hk:kind<3){its:List It}(h0:its≠[])(h8:its.length<=8)(hw:wt its<=50000)(L6:1<=m)(uH:m<=its.length)(ho:∀i∈its,Ok i):
  ∃r:It,Ok r/\(∃i∈its,r.d=1+i.d)/\r.t.length+2<=wt its+10/\aq [.int kind,.int m,.lst (its.map It.p)]=some r.p:=by
 have zl:(100000:Nat)<=sizeLine:=by decide
 obtain⟨M,eM,MB,Ni⟩:=p6 (its.map It.d) (by simpa using h0)
 obtain⟨iM,O0,O1⟩:=List.mem_map.mp Ni
 have hn:∀i∈its,Ok i/\i.d<=M:=λi hi=>⟨ho i hi,MB _ (List.mem_map.mpr ⟨i,hi,rfl⟩)⟩
 have lJ:=yd its
 have l1:=BS (m:=m) (by omega)
 have c0:∀s3 s4 s5 s6 s7,dP (nList (dV 2)) dh (af kj (dV 0) (dC (.int 0))) [.sh (.int kind),.sh (.int m),.sh (.lst (its.map It.p)),s3,s4,s5,s6,s7]=some (.lst (its.map It.o)):=λs3 s4 s5 s6 s7=>fW It.p It.o rfl (by omega) λi _=>vz i _ 0 _ rfl
 have c1:∀s3 s4 s5 s6 s7,dP (nList (dV 2)) dh (af kj (dV 0) (dC (.int 1))) [.sh (.int kind),.sh (.int m),.sh (.lst (its.map It.p)),s3,s4,s5,s6,s7]=some (.lst (its.map It.s)):=λs3 s4 s5 s6 s7=>fW It.p It.s rfl (by omega) λi _=>vz i _ 1 _ rfl
 have c2:∀s3 s4 s5 s6 s7,dP (nList (dV 2)) dh (af kj (dV 0) (dC (.int 2))) [.sh (.int kind),.sh (.int m),.sh (.lst (its.map It.p)),s3,s4,s5,s6,s7]=some (.lst (its.map λi=>.str i.t)):=λs3 s4 s5 s6 s7=>fW It.p (λi=>.str i.t) rfl (by omega) λi _=>vz i _ 2 _ rfl
 have c3:∀s3 s4 s5 s6 s7,dP (nList (dV 2)) dh (af kj (dV 0) (dC (.int 3))) [.sh (.int kind),.sh (.int m),.sh (.lst (its.map It.p)),s3,s4,s5,s6,s7]=some (.lst (its.map λi=>.int (i.d:Nat))):=λs3 s4 s5 s6 s7=>fW It.p (λi=>.int (i.d:Nat)) rfl (by omega) λi _=>vz i _ 3 _ rfl
 have hJ:uq (.str vy) (.lst (its.map λi=>.str i.t))=some (.str (Jn its)):=by
  have:=rB vy (its.map It.t) (by rw[wU];omega)
  rw[List.map_map]at this
  exact this
 have MC:kJ (.lst (its.map λi=>.int (i.d:Nat)))=some (.int (M:Nat)):=by
  have e:pX (its.map It.d)=.lst (its.map λi=>.int (i.d:Nat)):=by
   unfold pX
   rw[List.map_map]
   rfl
  rw[<-e]
  exact eM
 have fin:∀(r:It),Ok r->r.d=1+M->r.t.length+2<=wt its+10->(iV (tV (af nh (dV 0) (dC (.int 0)))) (cN 7 (gd (ae (a8 ur (dV 3)) (ae (gd (ae (dC (.str "all")) (ae (cI 4) aK))) (ae (af bB (dC (.str "all(")) (dV 5)) (ae (cI 6) aK)))))) (iV (tV (af nh (dV 0) (dC (.int 1)))) (cN 7 (gd (ae (a8 uw (dV 3)) (ae (gd (ae (dC (.str "any")) (ae (cI 4) aK))) (ae (af bB (dC (.str "any(")) (dV 5)) (ae (cI 6) aK)))))) (cN 7 (gd (ae (af pI (dV 1) (dV 3)) (ae (gd (ae (dC (.str "some")) (ae (cI 1) (ae (cI 4) aK)))) (ae (af bB (af bB (a8 yv (dV 1)) (dC (.str " of ("))) (dV 5)) (ae (cI 6) aK))))))))
   [.sh (.int kind),.sh (.int m),.sh (.lst (its.map It.p)),.ow (its.map It.o),.sh (.tup (its.map It.s)),.sh (.str (Jn its++oC)),.sh (.int ((1+M:Nat):Int)),.un]=some (.nx [.sh (.int kind),.sh (.int m),.sh (.lst (its.map It.p)),.ow (its.map It.o),.sh (.tup (its.map It.s)),.sh (.str (Jn its++oC)),.sh (.int ((1+M:Nat):Int)),.sh r.p])->
   ∃r:It,Ok r/\(∃i∈its,r.d=1+i.d)/\r.t.length+2<=wt its+10/\aq [.int kind,.int m,.lst (its.map It.p)]=some r.p:=λr h1 h2 h3 h4=>by
  refine⟨r,h1,⟨iM,O0,by rw[h2,O1]⟩,h3,fV rfl ?_⟩
  refine(az (jP (c0 _ _ _ _ _))).trans ?_
  refine(az (aW (p:=.tup (its.map It.s)) ((bX (c1 _ _ _ _ _)).trans rfl))).trans ?_
  refine(az (aW (p:=.str (Jn its++oC)) ((ah (y:=.str oC) ((ah (x:=.str vy) rfl (c2 _ _ _ _ _)).trans hJ) rfl).trans (ck _ _ (by have:oC.length=1:=rfl;omega))))).trans ?_
  refine(az (aW (p:=.int ((1+M:Nat):Int)) ((ah (x:=.int ((1:Nat):Int)) rfl ((bX (c3 _ _ _ _ _)).trans MC)).trans rfl))).trans ?_
  refine(az h4).trans ?_
  exact(az (ρ':=[.sh (.int kind),.sh (.int m),.sh (.lst (its.map It.p)),.ow [],.sh (.tup (its.map It.s)),.sh (.str (Jn its++oC)),.sh (.int ((1+M:Nat):Int)),.sh r.p]) rfl).trans rfl
 have T:∀(k:Nat) s7,tV (af nh (dV 0) (dC (.int k))) [.sh (.int kind),.sh (.int m),.sh (.lst (its.map It.p)),.ow (its.map It.o),.sh (.tup (its.map It.s)),.sh (.str (Jn its++oC)),.sh (.int ((1+M:Nat):Int)),s7]=some (decide (kind=k)):=λk s7=>bN ((ah (x:=.int kind) (y:=.int k) rfl rfl).trans (xR _ _))
 have lB:(Jn its++oC).length=(Jn its).length+1:=by rw[cm];rfl
 have lA:("all(" :Str).length=4:=by decide+kernel
 have lY:("any(" :Str).length=4:=by decide+kernel
 have lS:(" of (" :Str).length=5:=by decide+kernel
 by_cases k0:kind=0
 ·refine fin ⟨.ins 1 [.int (its.length:Nat),.tup (its.map It.o)],.tup [.str "all",.tup (its.map It.s)],("all(" :Str)++(Jn its++oC),1+M⟩ (B.all its M h0 h8 hw hn) rfl (by show(("all(" :Str)++(Jn its++oC)).length+2<=_;rw[cm,lB,lA];omega) ((ia ((T 0 _).trans (by rw[decide_eq_true k0]))).trans (aW ?_))
  refine eP (au (x:=.ins 1 [.int (its.length:Nat),.tup (its.map It.o)]) ?_ (au (x:=.tup [.str "all",.tup (its.map It.s)]) (eP (xs:=[.str "all",.tup (its.map It.s)]) rfl (by simp)) (au ((ah (x:=.str "all(") (y:=.str (Jn its++oC)) rfl rfl).trans (ck _ _ (by rw[lB,lA];omega))) (au (x:=.int ((1+M:Nat):Int)) rfl rfl)))) (by simp)
  show some (PV.ins 1 [.int ((its.map It.o).length:Nat),.tup (its.map It.o)])=_
  rw[List.length_map]
 ·by_cases k1:kind=1
  ·refine fin ⟨.ins 2 [.int 1,.tup (its.map It.o)],.tup [.str "any",.tup (its.map It.s)],("any(" :Str)++(Jn its++oC),1+M⟩ (B.any its M h0 h8 hw hn) rfl (by show(("any(" :Str)++(Jn its++oC)).length+2<=_;rw[cm,lB,lY];omega) ((eL ((T 0 _).trans (by rw[decide_eq_false k0]))).trans ((ia ((T 1 _).trans (by rw[decide_eq_true k1]))).trans (aW ?_)))
   exact eP (au (x:=.ins 2 [.int 1,.tup (its.map It.o)]) rfl (au (x:=.tup [.str "any",.tup (its.map It.s)]) (eP (xs:=[.str "any",.tup (its.map It.s)]) rfl (by simp)) (au ((ah (x:=.str "any(") (y:=.str (Jn its++oC)) rfl rfl).trans (ck _ _ (by rw[lB,lY];omega))) (au (x:=.int ((1+M:Nat):Int)) rfl rfl)))) (by simp)
  ·have ng:yv (.int (m:Nat))=some (.str (toString (m:Int))):=by
     show(if decide ((m:Int).natAbs<1000000)then some (PV.str (toString (m:Int)))else none)=_
     rw[if_pos (decide_eq_true (by omega))]
   refine fin ⟨.ins 3 [.int (m:Nat),.tup (its.map It.o)],.tup [.str "some",.int (m:Nat),.tup (its.map It.s)],((toString (m:Int):Str)++(" of (" :Str))++(Jn its++oC),1+M⟩ (B.some its M m h0 h8 hw hn L6 uH) rfl (by show(((toString (m:Int):Str)++(" of (" :Str))++(Jn its++oC)).length+2<=_;rw[cm,cm,lB,lS];omega) ((eL ((T 0 _).trans (by rw[decide_eq_false k0]))).trans ((eL ((T 1 _).trans (by rw[decide_eq_false k1]))).trans (aW ?_)))
   refine eP (au (x:=.ins 3 [.int (m:Nat),.tup (its.map It.o)]) rfl (au (x:=.tup [.str "some",.int (m:Nat),.tup (its.map It.s)]) (eP (xs:=[.str "some",.int (m:Nat),.tup (its.map It.s)]) rfl (by simp)) (au ((ah (y:=.str (Jn its++oC)) ((ah (x:=.str (toString (m:Int))) (y:=.str " of (") ((bX (x:=.int (m:Nat)) rfl).trans ng) rfl).trans (ck _ _ (by rw[lS];omega))) rfl).trans (ck _ _ (by rw[cm,lB,lS];omega))) (au (x:=.int ((1+M:Nat):Int)) rfl rfl)))) (by simp)
theorem BU:∀P:List It,P.length*2<=wt P
 |[]=>Nat.zero_le _
 |i::P=>by
  have:=BU P
  rw[Dy,List.length_cons]
  omega
theorem ends(P:List It)(j:Nat):P.take (P.length-j)++P.drop (P.length-j)=P:=List.take_append_drop ..
section
variable{Ok:It->Prop}{aq:List PV->Option PV}
 (hF:∀{kind m:Nat},kind<3->∀{its:List It},its≠[]->its.length<=8->wt its<=50000->1<=m->m<=its.length->(∀i∈its,Ok i)->∃r:It,Ok r/\(∃i∈its,r.d=1+i.d)/\r.t.length+2<=wt its+10/\aq [.int kind,.int m,.lst (its.map It.p)]=some r.p)
include hF
theorem za{P:List It}(h2:2<=P.length)(hP:∀i∈P,Ok i){D W:Nat}(hd:∀i∈P,i.d<=D)(hw:wt P<=W)(hW:W<=49000){s0:Slot}(hs:s0=.sh (.lst (P.map It.p))\/s0=.ow (P.map It.p))(s1:Slot){n:Int}(KA:0<=n)(HI:n<2147483647)(s3:Slot):
  ∃(Q:List It) (n':Int) (t3:Slot),Q.length+1=P.length-min 8 P.length+2/\(∀i∈Q,Ok i)/\(∀i∈Q,i.d<=D+1)/\wt Q<=W+10/\0<=n'/\n'<2147483647/\gT aq [s0,s1,.sh (.int n),s3]=some (.nx [.ow (Q.map It.p),s1,.sh (.int n'),t3]):=by
 have zl:(100000:Nat)<=sizeLine:=by decide
 have v0:∀r1 r2 r3,dV 0 [s0,r1,r2,r3]=some (.lst (P.map It.p)):=λr1 r2 r3=>by
  rcases hs with rfl|rfl<;>rfl
 have e1:af cX (af bB (af ny (dV 2) (dV 2)) (af ny (dC (.int 48271)) (dV 2))) (dC (.int 2147483647)) [s0,s1,.sh (.int n),s3]=some (.int ((n*n+48271*n) % 2147483647)):=
  (ah (x:=.int (n*n+48271*n)) (y:=.int 2147483647) ((ah ((ah (x:=.int n) (y:=.int n) rfl rfl).trans (gB (by omega) (by omega))) ((ah (x:=.int 48271) (y:=.int n) rfl rfl).trans (gB (by omega) (by omega)))).trans rfl) rfl).trans (jQ _ (by decide))
 have b1:=Int.emod_nonneg (n*n+48271*n) (show(2147483647:Int)≠0 by decide)
 have b2:=Int.emod_lt_of_pos (n*n+48271*n) (show(0:Int)<2147483647 by decide)
 generalize(n*n+48271*n) % 2147483647=n' at e1 b1 b2
 have es:=ends P 8
 generalize eA:P.take (P.length-8)=Pa at es
 generalize eB:P.drop (P.length-8)=Pb at es
 have lb:Pb.length=min 8 P.length:=by rw[<-eB,List.length_drop];omega
 have la:Pa.length=P.length-8:=by rw[<-eA,List.length_take];omega
 have mb:∀i∈Pb,i∈P:=λi hi=>by rw[<-es];exact List.mem_append_right _ hi
 have ma:∀i∈Pa,i∈P:=λi hi=>by rw[<-es];exact List.mem_append_left _ hi
 have O2:wt Pa+wt Pb=wt P:=by rw[<-pY,es]
 have hk:=mod_lt n' (n:=3) (by decide)
 have hm:=mod_lt (n'/3) (n:=Pb.length) (by omega)
 obtain⟨r,r1,⟨i,hi,r2⟩,r3,r4⟩:=hF (kind:=(n' %((3:Nat):Int)).toNat) (m:=1+(n'/3 %(Pb.length:Int)).toNat) hk (its:=Pb) (λz=>by rw[z]at lb;simp at lb;omega) (by omega) (by omega) (by omega) (by omega) λi hi=>hP i (mb i hi)
 refine⟨Pa++[r],n',.sh (.lst (Pb.map It.p)),by rw[List.length_append,List.length_singleton];omega,λx hx=>?_,λx hx=>?_,by rw[pY,pZ];omega,b1,b2,?_⟩
 ·rcases List.mem_append.mp hx with hx|hx
  ·exact hP x (ma x hx)
  ·obtain rfl:=List.mem_singleton.mp hx
   exact r1
 ·rcases List.mem_append.mp hx with hx|hx
  ·have:=hd x (ma x hx)
   omega
  ·obtain rfl:=List.mem_singleton.mp hx
   have:=hd i (mb i hi)
   omega
 ·refine(az (aW e1)).trans ?_
  have e3:xt (dV 0) (bT (a8 pC (dC (.int 8)))) eI [s0,s1,.sh (.int n'),s3]=some (.lst (Pb.map It.p)):=by
   refine(p7 (a:=some (-((8:Nat):Int))) (v0 _ _ _) rfl rfl).trans ?_
   rw[u9 _ 8 (by decide),List.length_map,<-List.map_drop,eB]
  refine(az (aW e3)).trans ?_
  have e4:xt (dV 0) eI (bT (a8 pC (dC (.int 8)))) [s0,s1,.sh (.int n'),.sh (.lst (Pb.map It.p))]=some (.lst (Pa.map It.p)):=by
   refine(p7 (b:=some (-((8:Nat):Int))) (v0 _ _ _) rfl rfl).trans ?_
   rw[Dz _ 8 (by decide),List.length_map,<-List.map_take,eA]
  refine(az (jP e4)).trans ?_
  have e5:cj aq (ae (af cX (dV 2) (dC (.int 3))) (ae (af bB (dC (.int 1)) (af cX (af iZ (dV 2) (dC (.int 3))) (a8 dY (dV 3)))) (ae (cI 3) aK))) [.ow (Pa.map It.p),s1,.sh (.int n'),.sh (.lst (Pb.map It.p))]=some r.p:=by
   refine(bO (au ((ah (x:=.int n') (y:=.int ((3:Nat):Int)) rfl rfl).trans (d4 _ (by decide))) (au (x:=.int ((1+(n'/3 %(Pb.length:Int)).toNat:Nat):Int)) ?_ (au (x:=.lst (Pb.map It.p)) rfl rfl)))).trans r4
   refine(ah (x:=.int ((1:Nat):Int)) rfl ((ah (x:=.int (n'/3)) (y:=.int (Pb.length:Nat)) rfl ?_).trans (d4 _ (by omega)))).trans rfl
   show some (PV.int ((Pb.map It.p).length:Nat))=_
   rw[List.length_map]
  show((ae (cj aq (ae (af cX (dV 2) (dC (.int 3))) (ae (af bB (dC (.int 1)) (af cX (af iZ (dV 2) (dC (.int 3))) (a8 dY (dV 3)))) (ae (cI 3) aK)))) aK) [.ow (Pa.map It.p),s1,.sh (.int n'),.sh (.lst (Pb.map It.p))]).bind _=_
  rw[au e5 rfl]
  show((if(Pa.map It.p).length<sizeLine then some (Pa.map It.p++[r.p])else none).map λl'=>Fl.nx [.ow l',s1,.sh (.int n'),.sh (.lst (Pb.map It.p))])=_
  have wl:=BU P
  rw[if_pos (by rw[List.length_map];omega),List.map_append]
  rfl
theorem rJ(s1:Slot):∀(k:Nat) {P:List It} (h1:1<=P.length) (hk:P.length<=1+7*k) (hP:∀i∈P,Ok i) {D W:Nat} (hd:∀i∈P,i.d<=D) (hw:wt P<=W) (hW:W+10*k<=49000) {s0:Slot} (hs:s0=.sh (.lst (P.map It.p))\/s0=.ow (P.map It.p)) {n:Int} (KA:0<=n) (HI:n<2147483647) (s3:Slot) (f:Nat) (hf:k<f),
  ∃(r:It) (t0 t2 t3:Slot),(t0=.sh (.lst [r.p])\/t0=.ow [r.p])/\Ok r/\(r.d<=D+k/\r.t.length+2<=W+10*k)/\fG (tV (af Ek (a8 dY (dV 0)) (dC (.int 1)))) (gT aq) f [s0,s1,.sh (.int n),s3]=some (.nx [t0,s1,t2,t3])
 |k,P,h1,hk,hP,D,W,hd,hw,hW,s0,hs,n,KA,HI,s3,0,hf=>by omega
 |k,P,h1,hk,hP,D,W,hd,hw,hW,s0,hs,n,KA,HI,s3,f+1,hf=>by
  have v0:∀r1 r2 r3,dV 0 [s0,r1,r2,r3]=some (.lst (P.map It.p)):=λr1 r2 r3=>by
   rcases hs with rfl|rfl<;>rfl
  have t:tV (af Ek (a8 dY (dV 0)) (dC (.int 1))) [s0,s1,.sh (.int n),s3]=some (decide (1<P.length)):=by
   refine bN ((ah (x:=.int (P.length:Nat)) (y:=.int 1) ((bX (v0 _ _ _)).trans ?_) rfl).trans ?_)
   ·show some (PV.int ((P.map It.p).length:Nat))=_
    rw[List.length_map]
   ·show some (PV.bl (decide ((1:Int)<(P.length:Int))))=_
    congr 2
    rw[decide_eq_decide]
    omega
  by_cases h2:1<P.length
  ·rw[decide_eq_true h2]at t
   match k,hk with
   |0,hk=>omega
   |k+1,hk=>
    obtain⟨Q,n',t3,q1,q2,q3,q4,q5,q6,q7⟩:=za hF (P:=P) (by omega) hP hd hw (by omega) hs s1 KA HI s3
    obtain⟨r,t0,t2,O3,a1,a2,a3,a4⟩:=rJ s1 k (P:=Q) (by omega) (by omega) q2 (D:=D+1) (W:=W+10) q3 q4 (by omega) (s0:=.ow (Q.map It.p)) (.inr rfl) q5 q6 t3 f (by omega)
    exact⟨r,t0,t2,O3,a1,a2,⟨by omega,by omega⟩,(AJ t q7).trans a4⟩
  ·rw[decide_eq_false h2]at t
   obtain⟨r,rfl⟩:∃r,P=[r]:=List.length_eq_one_iff.mp (by omega)
   exact⟨r,s0,.sh (.int n),s3,hs,hP r (List.mem_cons_self ..),⟨by have:=hd r (List.mem_cons_self ..);omega,by rw[pZ]at hw;omega⟩,AI t⟩
theorem wV{P:List It}(h1:1<=P.length)(Pp:P.length<=57)(hP:∀i∈P,Ok i){D:Nat}(hd:∀i∈P,i.d<=D)(hw:wt P<=10000)(c:Int):∃r:It,Ok r/\(r.d<=D+8/\r.t.length<=11000)/\fn false 4 2 (mQ aq) [.lst (P.map It.p),.int c]=some r.p:=by
 have b1:=Int.emod_nonneg c (show(2147483646:Int)≠0 by decide)
 have b2:=Int.emod_lt_of_pos c (show(0:Int)<2147483646 by decide)
 obtain⟨r,t0,t2,t3,a1,a2,a3,a4⟩:=rJ hF (.sh (.int c)) 8 (P:=P) h1 (by omega) hP hd hw (by omega) (s0:=.sh (.lst (P.map It.p))) (.inl rfl) (n:=1+c % 2147483646) (by omega) (by omega) .un 1000 (by decide)
 refine⟨r,a2,⟨by omega,by omega⟩,fV rfl ?_⟩
 refine(az (aW (p:=.int (1+c % 2147483646)) ((ah (x:=.int 1) rfl ((ah (x:=.int c) (y:=.int 2147483646) rfl rfl).trans (jQ _ (by decide)))).trans rfl))).trans ?_
 refine(az a4).trans (fj ?_)
 rcases a1 with rfl|rfl<;>rfl
end
theorem D2(x:Str):bJ [.str x]=some (It.p ⟨.ins 0 [.str x],.tup [.str "hand",.str x],x,0⟩):=by
 refine fL rfl ?_
 exact eP (au (x:=.ins 0 [.str x]) rfl (au (x:=.tup [.str "hand",.str x]) (eP (xs:=[.str "hand",.str x]) rfl (by simp)) (au (x:=.str x) rfl (au (x:=.int ((0:Nat):Int)) rfl rfl)))) (by simp)
structure zb(Ok:It->Prop)(k:Nat)(P:List It):Prop where
 pos:1<=P.length
 len:P.length<=1+k
 ok:∀i∈P,Ok i
 dp:∀i∈P,i.d<=12
 wt:wt P<=60*(1+k)
section
variable{names:List Str}{Ok:It->Prop}(B:J5 names Ok)(hn:∀x∈names,x.length<=50){F_law_folded bJ F_law_cell_at aq:List PV->Option PV}
 (hH:∀x:Str,bJ [.str x]=some (It.p ⟨.ins 0 [.str x],.tup [.str "hand",.str x],x,0⟩))
 (hF:∀{kind m:Nat},kind<3->∀{its:List It},its≠[]->its.length<=8->wt its<=50000->1<=m->m<=its.length->(∀i∈its,Ok i)->∃r:It,Ok r/\(∃i∈its,r.d=1+i.d)/\r.t.length+2<=wt its+10/\aq [.int kind,.int m,.lst (its.map It.p)]=some r.p)
include B hn hH
theorem ye(h0:names≠[])(c:Int){A L:Den}{ρ:c8}(hA:A ρ=some (.tup (names.map PV.str)))(hL:L ρ=some (.int c)):∃x∈names,af kj A (af cX L (a8 dY A)) ρ=some (.str x):=by
 have hl:0<names.length:=List.length_pos_iff.mpr h0
 have hi:=mod_lt c hl
 refine⟨names[(c %(names.length:Int)).toNat],List.getElem_mem hi,?_⟩
 refine(ah hA ((ah hL ((bX hA).trans ?_)).trans (d4 c hl))).trans ?_
 ·show some (PV.int ((names.map PV.str).length:Nat))=_
  rw[List.length_map]
 ·show itemAt (names.map PV.str) (((c %(names.length:Int)).toNat:Nat):Int)=_
  unfold itemAt HD
  rw[if_pos (by omega),if_pos (by rw[List.length_map];omega)]
  show(names.map PV.str)[(((c %(names.length:Int)).toNat:Nat):Int).toNat]?=_
  rw[Int.toNat_natCast,List.getElem?_map,List.getElem?_eq_getElem hi]
  rfl
include hF
theorem wW(h0:names≠[])(s0 s1 s2:Slot)(cell:Int){k:Nat}(hk:k<=100){P:List It}(hP:zb Ok k P)(heads:Nat)(s7 s8:Slot):
  ∃(Q:List It) (qt:Nat) (t7 t8:Slot),zb Ok (k+1) Q/\ir F_law_folded bJ F_law_cell_at aq [s0,s1,s2,.sh (.tup (names.map PV.str)),.ow (P.map It.p),.sh (.int (heads:Nat)),.sh (.int cell),s7,s8]=some (.nx [s0,s1,s2,.sh (.tup (names.map PV.str)),.ow (Q.map It.p),.sh (.int (qt:Nat)),.sh (.int cell),t7,t8]):=by
 have zl:(100000:Nat)<=sizeLine:=by decide
 obtain⟨p1,p2,p3,p4,p5⟩:=hP
 have hj:=mod_lt (cell/9) (n:=8) (by decide)
 generalize ej:1+(cell/9 %((8:Nat):Int)).toNat=j at*
 have es:=ends P j
 generalize eA:P.take (P.length-j)=Pa at es
 generalize eB:P.drop (P.length-j)=Pb at es
 have lb:Pb.length=min j P.length:=by rw[<-eB,List.length_drop];omega
 have la:Pa.length=P.length-j:=by rw[<-eA,List.length_take];omega
 have mb:∀i∈Pb,i∈P:=λi hi=>by rw[<-es];exact List.mem_append_right _ hi
 have ma:∀i∈Pa,i∈P:=λi hi=>by rw[<-es];exact List.mem_append_left _ hi
 have O2:L2.D.wt Pa+L2.D.wt Pb=L2.D.wt P:=by rw[<-pY,es]
 have e1:xt (dV 4) (bT (a8 pC (af bB (dC (.int 1)) (af cX (af iZ (dV 6) (dC (.int 9))) (dC (.int 8)))))) eI [s0,s1,s2,.sh (.tup (names.map PV.str)),.ow (P.map It.p),.sh (.int (heads:Nat)),.sh (.int cell),s7,s8]=some (.lst (Pb.map It.p)):=by
  have eo:(bT (a8 pC (af bB (dC (.int 1)) (af cX (af iZ (dV 6) (dC (.int 9))) (dC (.int 8)))))) [s0,s1,s2,.sh (.tup (names.map PV.str)),.ow (P.map It.p),.sh (.int (heads:Nat)),.sh (.int cell),s7,s8]=some (some (-(j:Int))):=by
   have:a8 pC (af bB (dC (.int 1)) (af cX (af iZ (dV 6) (dC (.int 9))) (dC (.int 8)))) [s0,s1,s2,.sh (.tup (names.map PV.str)),.ow (P.map It.p),.sh (.int (heads:Nat)),.sh (.int cell),s7,s8]=some (.int (-(j:Int))):=by
    refine(bX (x:=.int (j:Int)) ?_).trans rfl
    rw[<-ej]
    exact(ah (x:=.int ((1:Nat):Int)) rfl ((ah (x:=.int (cell/9)) (y:=.int ((8:Nat):Int)) rfl rfl).trans (d4 _ (by decide)))).trans rfl
   unfold bT
   rw[this]
   rfl
  refine(p7 (l:=P.map It.p) rfl eo rfl).trans ?_
  rw[u9 _ j (by omega),List.length_map,<-List.map_drop,eB]
 have Nj:Pb≠[]:=λz=>by rw[z]at lb;simp at lb;omega
 obtain⟨M,eM,MB,Ni⟩:=p6 (Pb.map It.d) (by simpa using Nj)
 have c3:∀s8,dP (nList (dV 7)) dh (af kj (dV 0) (dC (.int 3))) [s0,s1,s2,.sh (.tup (names.map PV.str)),.ow (P.map It.p),.sh (.int (heads:Nat)),.sh (.int cell),.sh (.lst (Pb.map It.p)),s8]=some (.lst (Pb.map λi=>.int (i.d:Nat))):=λs8=>fW It.p (λi=>.int (i.d:Nat)) rfl (by omega) λi _=>vz i _ 3 _ rfl
 have MC:kJ (.lst (Pb.map λi=>.int (i.d:Nat)))=some (.int (M:Nat)):=by
  have e:pX (Pb.map It.d)=.lst (Pb.map λi=>.int (i.d:Nat)):=by
   unfold pX
   rw[List.map_map]
   rfl
  rw[<-e]
  exact eM
 have app:∀(Z:List It) (r:It) (s5 s7 s8:Slot),Z.length<=1000->∀{E:Den},E [s0,s1,s2,.sh (.tup (names.map PV.str)),.ow (Z.map It.p),s5,.sh (.int cell),s7,s8]=some r.p->pF 4 hU (ae E aK) [s0,s1,s2,.sh (.tup (names.map PV.str)),.ow (Z.map It.p),s5,.sh (.int cell),s7,s8]=some (.nx [s0,s1,s2,.sh (.tup (names.map PV.str)),.ow ((Z++[r]).map It.p),s5,.sh (.int cell),s7,s8]):=λZ r s5 s7 s8 hZ E hE=>by
  show((ae E aK) [s0,s1,s2,.sh (.tup (names.map PV.str)),.ow (Z.map It.p),s5,.sh (.int cell),s7,s8]).bind _=_
  rw[au hE rfl]
  show((if(Z.map It.p).length<sizeLine then some (Z.map It.p++[r.p])else none).map λl'=>Fl.nx [s0,s1,s2,.sh (.tup (names.map PV.str)),.ow l',s5,.sh (.int cell),s7,s8])=_
  rw[if_pos (by rw[List.length_map];omega),List.map_append]
  rfl
 have T1:tV (af B7 (af cX (dV 6) (dC (.int 9))) (dC (.int 6))) [s0,s1,s2,.sh (.tup (names.map PV.str)),.ow (P.map It.p),.sh (.int (heads:Nat)),.sh (.int cell),.sh (.lst (Pb.map It.p)),.sh (.int (M:Nat))]=some (decide (cell % 9<6)):=bN rfl
 have T2:tV (af Ek (dV 8) (dC (.int 11))) [s0,s1,s2,.sh (.tup (names.map PV.str)),.ow (P.map It.p),.sh (.int (heads:Nat)),.sh (.int cell),.sh (.lst (Pb.map It.p)),.sh (.int (M:Nat))]=some (decide ((11:Int)<(M:Int))):=bN rfl
 have T3:tV (af Ek (dV 5) (dC (.int 13))) [s0,s1,s2,.sh (.tup (names.map PV.str)),.ow (P.map It.p),.sh (.int (heads:Nat)),.sh (.int cell),.sh (.lst (Pb.map It.p)),.sh (.int (M:Nat))]=some (decide ((13:Int)<(heads:Int))):=bN rfl
 have pre:∀{fl:Fl} {X:aU},X [s0,s1,s2,.sh (.tup (names.map PV.str)),.ow (P.map It.p),.sh (.int (heads:Nat)),.sh (.int cell),.sh (.lst (Pb.map It.p)),.sh (.int (M:Nat))]=some fl->(aX (cN 7 (xt (dV 4) (bT (a8 pC (af bB (dC (.int 1)) (af cX (af iZ (dV 6) (dC (.int 9))) (dC (.int 8)))))) eI)) (aX (cN 8 (a8 kJ (dP (nList (dV 7)) dh (af kj (dV 0) (dC (.int 3)))))) X)) [s0,s1,s2,.sh (.tup (names.map PV.str)),.ow (P.map It.p),.sh (.int (heads:Nat)),.sh (.int cell),s7,s8]=some fl:=λhX=>(az (aW e1)).trans ((az (aW ((bX (c3 _)).trans MC))).trans hX)
 have qu:∃(Q:List It) (qt:Nat) (t7 t8:Slot),zb Ok (k+1) Q/\(pF 4 hU (ae (cj bJ (ae (af kj (dV 3) (af cX (af iZ (dV 6) (dC (.int 9))) (a8 dY (dV 3)))) aK)) aK)) [s0,s1,s2,.sh (.tup (names.map PV.str)),.ow (P.map It.p),.sh (.int (heads:Nat)),.sh (.int cell),.sh (.lst (Pb.map It.p)),.sh (.int (M:Nat))]=some (.nx [s0,s1,s2,.sh (.tup (names.map PV.str)),.ow (Q.map It.p),.sh (.int (qt:Nat)),.sh (.int cell),t7,t8]):=by
  obtain⟨x,hx,ex⟩:=ye B hn hH h0 (cell/9) (A:=dV 3) (L:=af iZ (dV 6) (dC (.int 9))) (ρ:=[s0,s1,s2,.sh (.tup (names.map PV.str)),.ow (P.map It.p),.sh (.int (heads:Nat)),.sh (.int cell),.sh (.lst (Pb.map It.p)),.sh (.int (M:Nat))]) rfl rfl
  have hl:=hn x hx
  refine⟨P++[⟨.ins 0 [.str x],.tup [.str "hand",.str x],x,0⟩],heads,_,_,⟨by rw[List.length_append];omega,by rw[List.length_append,List.length_singleton];omega,λi hi=>?_,λi hi=>?_,by rw[pY,pZ];show _+(x.length+2)<=_;omega⟩,app P _ _ _ _ (by omega) ((bO (au ex rfl)).trans (hH x))⟩
  ·rcases List.mem_append.mp hi with hi|hi
   ·exact p3 i hi
   ·obtain rfl:=List.mem_singleton.mp hi
    exact B.hand x hx
  ·rcases List.mem_append.mp hi with hi|hi
   ·exact p4 i hi
   ·obtain rfl:=List.mem_singleton.mp hi
    exact Nat.zero_le _
 by_cases g1:cell % 9<6
 ·obtain⟨Q,h',t7,t8,q1,q2⟩:=qu
  exact⟨Q,h',t7,t8,q1,pre ((ia (xQ (T1.trans (by rw[decide_eq_true g1])))).trans q2)⟩
 ·by_cases g2:(11:Int)<(M:Int)
  ·obtain⟨Q,h',t7,t8,q1,q2⟩:=qu
   exact⟨Q,h',t7,t8,q1,pre ((ia ((jA (T1.trans (by rw[decide_eq_false g1]))).trans (xQ (T2.trans (by rw[decide_eq_true g2]))))).trans q2)⟩
  ·by_cases g3:(13:Int)<(heads:Int)
   ·obtain⟨Q,h',t7,t8,q1,q2⟩:=qu
    exact⟨Q,h',t7,t8,q1,pre ((ia ((jA (T1.trans (by rw[decide_eq_false g1]))).trans ((jA (T2.trans (by rw[decide_eq_false g2]))).trans (T3.trans (by rw[decide_eq_true g3]))))).trans q2)⟩
   ·have c9:=Int.emod_lt_of_pos cell (show(0:Int)<9 by decide)
    have hm:=mod_lt (cell/72) (n:=Pb.length) (by omega)
    have ek:cell % 9-6=(((cell % 9-6).toNat:Nat):Int):=by omega
    obtain⟨r,r1,⟨i,hi,r2⟩,r3,r4⟩:=hF (kind:=(cell % 9-6).toNat) (m:=1+(cell/72 %(Pb.length:Int)).toNat) (by omega) (its:=Pb) Nj (by omega) (by omega) (by omega) (by omega) λi hi=>p3 i (mb i hi)
    have Pq:i.d<=M:=MB _ (List.mem_map.mpr ⟨i,hi,rfl⟩)
    refine⟨Pa++[r],heads+1,.sh (.lst (Pb.map It.p)),.sh (.int (M:Nat)),⟨by rw[List.length_append,List.length_singleton];omega,by rw[List.length_append,List.length_singleton];omega,λx hx=>?_,λx hx=>?_,by rw[pY,pZ];omega⟩,pre ((eL ((jA (T1.trans (by rw[decide_eq_false g1]))).trans ((jA (T2.trans (by rw[decide_eq_false g2]))).trans (T3.trans (by rw[decide_eq_false g3]))))).trans ?_)⟩
    ·rcases List.mem_append.mp hx with hx|hx
     ·exact p3 x (ma x hx)
     ·obtain rfl:=List.mem_singleton.mp hx
      exact r1
    ·rcases List.mem_append.mp hx with hx|hx
     ·exact p4 x (ma x hx)
     ·obtain rfl:=List.mem_singleton.mp hx
      omega
    ·have e4:xt (dV 4) eI (bT (af yu (a8 dY (dV 4)) (a8 dY (dV 7)))) [s0,s1,s2,.sh (.tup (names.map PV.str)),.ow (P.map It.p),.sh (.int (heads:Nat)),.sh (.int cell),.sh (.lst (Pb.map It.p)),.sh (.int (M:Nat))]=some (.lst (Pa.map It.p)):=by
       have eo:(bT (af yu (a8 dY (dV 4)) (a8 dY (dV 7)))) [s0,s1,s2,.sh (.tup (names.map PV.str)),.ow (P.map It.p),.sh (.int (heads:Nat)),.sh (.int cell),.sh (.lst (Pb.map It.p)),.sh (.int (M:Nat))]=some (some ((P.length-j:Nat):Int)):=by
        show some (some (((P.map It.p).length:Int)-((Pb.map It.p).length:Int)))=_
        rw[List.length_map,List.length_map,lb]
        congr 2
        omega
       refine(p7 (l:=P.map It.p) rfl rfl eo).trans ?_
       rw[AM _ _ (by rw[List.length_map];omega),<-List.map_take,eA]
     refine(az (jP e4)).trans ?_
     have e5:cj aq (ae (af yu (af cX (dV 6) (dC (.int 9))) (dC (.int 6))) (ae (af bB (dC (.int 1)) (af cX (af iZ (dV 6) (dC (.int 72))) (a8 dY (dV 7)))) (ae (cI 7) aK))) [s0,s1,s2,.sh (.tup (names.map PV.str)),.ow (Pa.map It.p),.sh (.int (heads:Nat)),.sh (.int cell),.sh (.lst (Pb.map It.p)),.sh (.int (M:Nat))]=some r.p:=by
      refine(bO (au (x:=.int (((cell % 9-6).toNat:Nat):Int)) ?_ (au (x:=.int ((1+(cell/72 %(Pb.length:Int)).toNat:Nat):Int)) ?_ (au (x:=.lst (Pb.map It.p)) rfl rfl)))).trans r4
      ·rw[<-ek]
       rfl
      ·refine(ah (x:=.int ((1:Nat):Int)) rfl ((ah (x:=.int (cell/72)) (y:=.int (Pb.length:Nat)) rfl ?_).trans (d4 _ (by omega)))).trans rfl
       show some (PV.int ((Pb.map It.p).length:Nat))=_
       rw[List.length_map]
     refine(az (app Pa r _ _ _ (by omega) e5)).trans ?_
     exact aW rfl
theorem rK(h0:names≠[])(s0 s1 s2:Slot):∀(cs:List Int) (k:Nat) (hk:k+cs.length<=100) {P:List It} (hP:zb Ok k P) (heads:Nat) (s6 s7 s8:Slot),
  ∃(Q:List It) (qt:Nat) (t6 t7 t8:Slot),zb Ok (k+cs.length) Q/\forL (bW 6) (ir F_law_folded bJ F_law_cell_at aq) (cs.map PV.int) [s0,s1,s2,.sh (.tup (names.map PV.str)),.ow (P.map It.p),.sh (.int (heads:Nat)),s6,s7,s8]=some (.nx [s0,s1,s2,.sh (.tup (names.map PV.str)),.ow (Q.map It.p),.sh (.int (qt:Nat)),t6,t7,t8])
 |[],k,hk,P,hP,heads,s6,s7,s8=>⟨P,heads,s6,s7,s8,hP,rfl⟩
 |c::cs,k,hk,P,hP,heads,s6,s7,s8=>by
  rw[List.length_cons]at hk
  obtain⟨Q,h1,t7,t8,q1,q2⟩:=wW B hn hH hF h0 s0 s1 s2 c (by omega) hP heads s7 s8
  obtain⟨Q',h2,u6,u7,u8,q3,q4⟩:=rK h0 s0 s1 s2 cs (k+1) (by omega) q1 h1 (.sh (.int c)) t7 t8
  refine⟨Q',h2,u6,u7,u8,?_,Eq.trans ?_ q4⟩
  ·rw[List.length_cons,show k+(cs.length+1)=k+1+cs.length by omega]
   exact q3
  ·exact m9 (i:=6) (x:=.int c) (xs:=cs.map PV.int) (ρ:=[s0,s1,s2,.sh (.tup (names.map PV.str)),.ow (P.map It.p),.sh (.int (heads:Nat)),s6,s7,s8]) q2
theorem zc(h0:names≠[])(hC:∀(ns:List Int) (k:Nat),F_law_cell_at [ni ns,.int k]=some (.int (ns.getD k 0)))
  (hL:∀{P:List It},1<=P.length->P.length<=57->(∀i∈P,Ok i)->∀{D:Nat},(∀i∈P,i.d<=D)->L2.D.wt P<=10000->∀c:Int,∃r:It,Ok r/\(r.d<=D+8/\r.t.length<=11000)/\F_law_folded [.lst (P.map It.p),.int c]=some r.p)
  (ns:List Int)(a size:Nat)(Kt:1<=size)(hs:size<=50):∃r:It,Ok r/\(r.d<=20/\r.t.length<=11000)/\fn false 9 4 (oa F_law_folded bJ F_law_cell_at aq) [ni ns,.int a,.int size,.tup (names.map PV.str)]=some r.p:=by
 have zl:(100000:Nat)<=sizeLine:=by decide
 obtain⟨x,hx,ex⟩:=ye B hn hH h0 (ns.getD a 0) (A:=dV 3) (L:=cj F_law_cell_at (ae (cI 0) (ae (cI 1) aK))) (ρ:=[.sh (ni ns),.sh (.int a),.sh (.int size),.sh (.tup (names.map PV.str)),.un,.un,.un,.un,.un]) rfl ((bO (ps:=[ni ns,.int a]) rfl).trans (hC ns a))
 have hl:=hn x hx
 have cl:(jK ns (some ((a+1:Nat):Int)) (some ((a+size:Nat):Int))).length<=49:=by
  unfold jK uk
  simp only
  rw[if_neg (by omega),if_neg (by omega),List.length_take,List.length_drop,Int.toNat_natCast,Int.toNat_natCast]
  omega
 generalize O4:jK ns (some ((a+1:Nat):Int)) (some ((a+size:Nat):Int))=cs at cl
 have O5:zb Ok 0 [⟨.ins 0 [.str x],.tup [.str "hand",.str x],x,0⟩]:=⟨by simp,by simp,λi hi=>by
  obtain rfl:=List.mem_singleton.mp hi
  exact B.hand x hx,λi hi=>by
  obtain rfl:=List.mem_singleton.mp hi
  exact Nat.zero_le _,by rw[pZ];show x.length+2<=_;omega⟩
 obtain⟨Q,h',t6,t7,t8,q1,q2⟩:=rK B hn hH hF (F_law_folded:=F_law_folded) (F_law_cell_at:=F_law_cell_at) h0 (.sh (ni ns)) (.sh (.int a)) (.sh (.int size)) cs 0 (by omega) O5 0 .un .un .un
 obtain⟨p1,p2,p3,p4,p5⟩:=q1
 obtain⟨r,r1,r2,r3⟩:=hL (P:=Q) p1 (by omega) p3 p4 (by omega) (ns.getD 1 0)
 refine⟨r,r1,⟨by omega,by omega⟩,fV rfl ?_⟩
 refine(az (jP (l:=[It.p ⟨.ins 0 [.str x],.tup [.str "hand",.str x],x,0⟩]) (Dw (au ((bO (au ex rfl)).trans (hH x)) rfl) (by simp)))).trans ?_
 refine(az (aW (p:=.int ((0:Nat):Int)) rfl)).trans ?_
 have ei:nList (xt (dV 0) (bT (af bB (dV 1) (dC (.int 1)))) (bT (af bB (dV 1) (dV 2)))) [.sh (ni ns),.sh (.int a),.sh (.int size),.sh (.tup (names.map PV.str)),.ow [It.p ⟨.ins 0 [.str x],.tup [.str "hand",.str x],x,0⟩],.sh (.int ((0:Nat):Int)),.un,.un,.un]=some (cs.map PV.int):=by
  refine u4 ((p7 (l:=ns.map PV.int) (a:=some ((a+1:Nat):Int)) (b:=some ((a+size:Nat):Int)) rfl rfl rfl).trans ?_)
  rw[AH,O4]
 refine(az ((kr ei).trans q2)).trans ?_
 refine(az (ρ':=[.sh (ni ns),.sh (.int a),.sh (.int size),.sh (.tup (names.map PV.str)),.sh (.lst (Q.map It.p)),.sh (.int (h':Nat)),t6,t7,t8]) rfl).trans ?_
 exact fj ((bO (au (x:=.lst (Q.map It.p)) rfl (au ((bO (ps:=[ni ns,.int ((1:Nat):Int)]) rfl).trans (hC ns 1)) rfl))).trans r3)
end
theorem BV{names:List Str}{Ok:It->Prop}(B:J5 names Ok)(hn:∀x∈names,x.length<=50)(h0:names≠[])(ns:List Int)(a size:Nat)(Kt:1<=size)(hs:size<=50):∃r:It,Ok r/\(r.d<=20/\r.t.length<=11000)/\F_law_built [ni ns,.int a,.int size,.tup (names.map PV.str)]=some r.p:=
 zc B hn D2 (qr B) h0 sC (wV (qr B)) ns a size Kt hs
theorem same_str(m:Nat)(x:Str):b7 (m+1) [.str x,.str x]=some (.bl true):=by
 refine fV rfl ?_
 refine(az ((eL ((jA (bN rfl)).trans (bN rfl))).trans rfl)).trans ?_
 refine(az ((eL (bN rfl)).trans rfl)).trans ?_
 refine(az ((eL (bN rfl)).trans rfl)).trans ?_
 refine ku ((ia (bN rfl)).trans (fj ?_))
 refine(Dx rfl).trans ((ah (x:=.str x) (y:=.str x) rfl rfl).trans ?_)
 show some (PV.bl (decide (x=x)))=_
 rw[decide_eq_true rfl]
theorem BW(m a:Nat):b7 (m+1) [.int (a:Nat),.int (a:Nat)]=some (.bl true):=same_int (F:=b7 m) a
theorem kf{m:Nat}{l:List PV}(h:∀p∈l,b7 m [p,p]=some (.bl true))(hl:l.length<=5000):b7 (m+1) [.tup l,.tup l]=some (.bl true):=by
 refine fV rfl ?_
 refine ku ((ia (xQ (bN rfl))).trans ?_)
 refine(az ((eL ((jA (bN rfl)).trans (bN rfl))).trans rfl)).trans ?_
 refine(az ((eL (bN ((ah (x:=.int (l.length:Nat)) (y:=.int (l.length:Nat)) rfl rfl).trans ?_))).trans rfl)).trans ?_
 ·rw[Dv,decide_eq_true rfl]
  rfl
 obtain⟨t,f⟩:=rq (i:=2) (body:=gn (b7 m)) (pl (List.range l.length)) [.sh (.tup l),.sh (.tup l),.un] (by
  intro x hx
  obtain⟨k,hk,rfl⟩:=GO hx
  have B9:=List.mem_range.mp hk
  have it:itemAt l ((k:Nat):Int)=some l[k]:=by
   unfold itemAt HD
   rw[if_pos (by omega),if_pos (by omega)]
   show l[((k:Nat):Int).toNat]?=_
   rw[Int.toNat_natCast,List.getElem?_eq_getElem B9]
  have i0:af kj (dV 0) (dV 2) [.sh (.tup l),.sh (.tup l),.sh (.int (k:Nat))]=some l[k]:=it
  have i1:af kj (dV 1) (dV 2) [.sh (.tup l),.sh (.tup l),.sh (.int (k:Nat))]=some l[k]:=it
  exact(eL (i7 (b:=true) (bN ((bO (au i0 (au i1 rfl))).trans (h _ (List.getElem_mem B9)))))).trans rfl)
 exact(az ((kr (mJ (n:=l.length) rfl (by omega))).trans f)).trans rfl
theorem Hr:(("parts" :Str)==("wanted" :Str))=false:=by decide+kernel
theorem Hs:(("parts" :Str)==("parts" :Str))=true:=by decide+kernel
theorem Ht:(("wanted" :Str)==("wanted" :Str))=true:=by decide+kernel
theorem Hu:(("name" :Str)==("name" :Str))=true:=by decide+kernel
theorem vA(p:PV):gk jD "name" (.ins 0 [p])=some p:=by
 show List.lookup ("name" :Str) [("name",p)]=_
 rw[List.lookup_cons,Hu]
theorem qv{c:Nat}(h0:0<c)(h4:c<4)(w q:PV):gk jD "wanted" (.ins c [w,q])=some w:=by
 have e:jD c=[("wanted" :Str),("parts" :Str)]:=by
  unfold jD HE
  rw[if_neg (by omega),if_neg (by omega),if_pos h4]
 show List.lookup ("wanted" :Str) ((jD c).zip [w,q])=_
 rw[e,List.zip_cons_cons,List.lookup_cons,Ht]
theorem rL{c:Nat}(h0:0<c)(h4:c<4)(w q:PV):gk jD "parts" (.ins c [w,q])=some q:=by
 have e:jD c=[("wanted" :Str),("parts" :Str)]:=by
  unfold jD HE
  rw[if_neg (by omega),if_neg (by omega),if_pos h4]
 show List.lookup ("parts" :Str) ((jD c).zip [w,q])=_
 rw[e,List.zip_cons_cons,List.lookup_cons,Hr,List.zip_cons_cons,List.lookup_cons,Hs]
noncomputable def Ok(i:It):Prop:=∃c l,i.o=.ins c l/\c<4/\(∀m,i.d<=m->fq (m+1) c [i.o]=some i.s/\gp (m+1) c [i.o]=some (.str i.t))/\∀m,2*i.d+2<=m->b7 m [i.s,i.s]=some (.bl true)
theorem yf(x:Str):Ok ⟨.ins 0 [.str x],.tup [.str "hand",.str x],x,0⟩:=by
 refine⟨0,_,rfl,by decide,λm _=>⟨?_,?_⟩,λm hm=>?_⟩
 ·exact fL rfl (eP (au (x:=.str "hand") rfl (au ((bX (x:=.ins 0 [.str x]) rfl).trans (vA _)) rfl)) (by simp))
 ·exact fL rfl ((bX (x:=.ins 0 [.str x]) rfl).trans (vA _))
 ·obtain⟨k,rfl⟩:∃k,m=k+2:=⟨m-2,by omega⟩
  refine kf (λp hp=>?_) (by simp)
  simp only[List.mem_cons,List.not_mem_nil,or_false]at hp
  rcases hp with rfl|rfl<;>exact same_str _ _
section
variable{its:List It}{n:Nat}(h8:its.length<=8)(hw:wt its<=50000)(hi:∀i∈its,Ok i/\i.d<=n)
include h8 hw hi
theorem nT{m c:Nat}(hm:n<m)(h0:0<c)(h4:c<4)(w:PV):fn false 1 1 (bb (fq m)) [.ins c [w,.tup (its.map It.o)]]=some (.tup (its.map It.s)):=by
 refine fL rfl ?_
 have dc:dP (zK (a8 (gk jD "parts") (dV 0))) dh (eJ (fq m) (cI 0) aK) [.sh (.ins c [w,.tup (its.map It.o)])]=some (.lst (its.map It.s)):=by
  refine fW It.o It.s ?_ (by omega) λi HF=>?_
  ·show((a8 (gk jD "parts") (dV 0)) [.sh (.ins c [w,.tup (its.map It.o)])]).bind vS=_
   rw[(bX (x:=.ins c [w,.tup (its.map It.o)]) rfl).trans (rL h0 h4 _ _)]
   rfl
  ·obtain⟨⟨ci,l,e,_,hs,_⟩,hd⟩:=hi i HF
   obtain⟨k,rfl⟩:∃k,m=k+1:=⟨m-1,by omega⟩
   have:=(hs k (by omega)).1
   rw[e]at this⊢
   exact this
 exact(bX dc).trans rfl
theorem qw{m c:Nat}(hm:n<m)(h0:0<c)(h4:c<4)(w:PV):fn false 1 1 (bt (gp m)) [.ins c [w,.tup (its.map It.o)]]=some (.str (Jn its)):=by
 refine fL rfl ?_
 have dc:dP (zK (a8 (gk jD "parts") (dV 0))) dh (eJ (gp m) (cI 0) aK) [.sh (.ins c [w,.tup (its.map It.o)])]=some (.lst (its.map λi=>.str i.t)):=by
  refine fW It.o (λi=>.str i.t) ?_ (by omega) λi HF=>?_
  ·show((a8 (gk jD "parts") (dV 0)) [.sh (.ins c [w,.tup (its.map It.o)])]).bind vS=_
   rw[(bX (x:=.ins c [w,.tup (its.map It.o)]) rfl).trans (rL h0 h4 _ _)]
   rfl
  ·obtain⟨⟨ci,l,e,_,hs,_⟩,hd⟩:=hi i HF
   obtain⟨k,rfl⟩:∃k,m=k+1:=⟨m-1,by omega⟩
   have:=(hs k (by omega)).2
   rw[e]at this⊢
   exact this
 refine(ah (x:=.str vy) rfl dc).trans ?_
 have:=rB vy (its.map It.t) (by rw[wU];omega)
 rw[List.map_map]at this
 exact this
theorem kg{m:Nat}(hm:2*n+3<=m):b7 m [.tup (its.map It.s),.tup (its.map It.s)]=some (.bl true):=by
 obtain⟨k,rfl⟩:∃k,m=k+1:=⟨m-1,by omega⟩
 refine kf (λp hp=>?_) (by rw[List.length_map];omega)
 obtain⟨i,HF,rfl⟩:=List.mem_map.mp hp
 obtain⟨⟨_,_,_,_,_,hq⟩,hd⟩:=hi i HF
 exact hq k (by omega)
end
theorem Hv(names:List Str):J5 names Ok where
 hand:=λx _=>yf x
 all:=λits n h0 h8 hw hi=>by
  have lJ:=yd its
  have lA:("all(" :Str).length=4:=by decide+kernel
  have lC:oC.length=1:=rfl
  refine⟨1,_,rfl,by decide,λm hm=>⟨?_,?_⟩,λm hm=>?_⟩
  ·refine fL rfl (eP (au (x:=.str "all") rfl (au (x:=.tup (its.map It.s)) ?_ rfl)) (by simp))
   exact nT h8 hw hi (m:=m) (c:=1) (by have:1+n<=m:=hm;omega) (by decide) (by decide) _
  ·have e:=qw h8 hw hi (m:=m) (c:=1) (by have:1+n<=m:=hm;omega) (by decide) (by decide) (.int (its.length:Nat))
   rw[<-nH]
   exact fL rfl ((ah (y:=.str oC) ((ah (x:=.str "all(") (y:=.str (Jn its)) rfl e).trans (ck _ _ (by omega))) rfl).trans (ck _ _ (by rw[cm];omega)))
  ·have Mf:2*(1+n)+2<=m:=hm
   obtain⟨k,rfl⟩:∃k,m=k+2:=⟨m-2,by omega⟩
   refine kf (λp hp=>?_) (by simp)
   simp only[List.mem_cons,List.not_mem_nil,or_false]at hp
   rcases hp with rfl|rfl
   ·exact same_str _ _
   ·exact kg h8 hw hi (by omega)
 any:=λits n h0 h8 hw hi=>by
  have lJ:=yd its
  have lA:("any(" :Str).length=4:=by decide+kernel
  have lC:oC.length=1:=rfl
  refine⟨2,_,rfl,by decide,λm hm=>⟨?_,?_⟩,λm hm=>?_⟩
  ·refine fL rfl (eP (au (x:=.str "any") rfl (au (x:=.tup (its.map It.s)) ?_ rfl)) (by simp))
   exact nT h8 hw hi (m:=m) (c:=2) (by have:1+n<=m:=hm;omega) (by decide) (by decide) _
  ·have e:=qw h8 hw hi (m:=m) (c:=2) (by have:1+n<=m:=hm;omega) (by decide) (by decide) (.int 1)
   rw[<-nH]
   exact fL rfl ((ah (y:=.str oC) ((ah (x:=.str "any(") (y:=.str (Jn its)) rfl e).trans (ck _ _ (by omega))) rfl).trans (ck _ _ (by rw[cm];omega)))
  ·have Mf:2*(1+n)+2<=m:=hm
   obtain⟨k,rfl⟩:∃k,m=k+2:=⟨m-2,by omega⟩
   refine kf (λp hp=>?_) (by simp)
   simp only[List.mem_cons,List.not_mem_nil,or_false]at hp
   rcases hp with rfl|rfl
   ·exact same_str _ _
   ·exact kg h8 hw hi (by omega)
 some:=λits n w h0 h8 hw hi h1 h2=>by
  have lJ:=yd its
  have lS:(" of (" :Str).length=5:=by decide+kernel
  have lW:=BS (m:=w) (by omega)
  have lC:oC.length=1:=rfl
  refine⟨3,_,rfl,by decide,λm hm=>⟨?_,?_⟩,λm hm=>?_⟩
  ·refine fL rfl (eP (au (x:=.str "some") rfl (au (x:=.int (w:Nat)) ((bX (x:=.ins 3 [.int (w:Nat),.tup (its.map It.o)]) rfl).trans (qv (by decide) (by decide) _ _)) (au (x:=.tup (its.map It.s)) ?_ rfl))) (by simp))
   exact nT h8 hw hi (m:=m) (c:=3) (by have:1+n<=m:=hm;omega) (by decide) (by decide) _
  ·have e:=qw h8 hw hi (m:=m) (c:=3) (by have:1+n<=m:=hm;omega) (by decide) (by decide) (.int (w:Nat))
   have ng:yv (.int (w:Nat))=some (.str (toString (w:Int))):=by
    show(if decide ((w:Int).natAbs<1000000)then some (PV.str (toString (w:Int)))else none)=_
    rw[if_pos (decide_eq_true (by omega))]
   rw[<-nH]
   refine fL rfl ((ah (y:=.str oC) ((ah (x:=.str ((toString (w:Int):Str)++(" of (" :Str))) (y:=.str (Jn its)) ?_ e).trans (ck _ _ (by rw[cm];omega))) rfl).trans (ck _ _ (by rw[cm,cm];omega)))
   exact(ah (x:=.str (toString (w:Int))) (y:=.str " of (") ((bX ((bX (x:=.ins 3 [.int (w:Nat),.tup (its.map It.o)]) rfl).trans (qv (by decide) (by decide) _ _))).trans ng) rfl).trans (ck _ _ (by omega))
  ·have Mf:2*(1+n)+2<=m:=hm
   obtain⟨k,rfl⟩:∃k,m=k+2:=⟨m-2,by omega⟩
   refine kf (λp hp=>?_) (by simp)
   simp only[List.mem_cons,List.not_mem_nil,or_false]at hp
   rcases hp with rfl|rfl|rfl
   ·exact same_str _ _
   ·exact BW _ _
   ·exact kg h8 hw hi (by omega)
theorem vB:∀{l:List It},(∀i∈l,As i.t)->∀c∈Rq.eN l,c<128
 |[],_,c,hc=>by cases hc
 |i::l,h,c,hc=>by
  rcases List.mem_cons.mp hc with rfl|hc
  ·decide
  rcases List.mem_cons.mp hc with rfl|hc
  ·decide
  rcases List.mem_append.mp hc with hc|hc
  ·exact h i (List.mem_cons_self ..) c hc
  ·exact vB (λj hj=>h j (List.mem_cons_of_mem _ hj)) c hc
theorem tR{its:List It}(h:∀i∈its,As i.t)(h0:its≠[]):As (Txt.join (", " :Str) (its.map It.t)):=by
 cases its with
 |nil=>exact absurd rfl h0
 |cons i rest=>
  intro c hc
  rw[Rq.Ba]at hc
  rcases List.mem_append.mp hc with hc|hc
  ·exact h i (List.mem_cons_self ..) c hc
  ·exact vB (λj hj=>h j (List.mem_cons_of_mem _ hj)) c hc
noncomputable def O6(names:List Str)(i:It):Prop:=Ok i/\Rq.Bb names i/\As i.t
theorem O7{names:List Str}(hN:∀x∈names,Rq.sJ x)(hl:names.length<=1000):J5 names (O6 names) where
 hand:=λx hx=>⟨yf x,Rq.Bc hN hl hx,(hN x hx).as⟩
 all:=λits n h0 h8 hw hi=>⟨(Hv names).all its n h0 h8 hw λi h=>⟨(hi i h).1.1,(hi i h).2⟩,Rq.DR hN hl h0 h8 λi h=>⟨(hi i h).1.2.1,(hi i h).2⟩,nJ (va (by decide+kernel)) (nJ (tR (λi h=>(hi i h).1.2.2) h0) (va (by decide+kernel)))⟩
 any:=λits n h0 h8 hw hi=>⟨(Hv names).any its n h0 h8 hw λi h=>⟨(hi i h).1.1,(hi i h).2⟩,Rq.DU hN hl h0 h8 λi h=>⟨(hi i h).1.2.1,(hi i h).2⟩,nJ (va (by decide+kernel)) (nJ (tR (λi h=>(hi i h).1.2.2) h0) (va (by decide+kernel)))⟩
 some:=λits n m h0 h8 hw hi h1 h2=>⟨(Hv names).some its n m h0 h8 hw (λi h=>⟨(hi i h).1.1,(hi i h).2⟩) h1 h2,Rq.Bd hN hl h0 h8 (λi h=>⟨(hi i h).1.2.1,(hi i h).2⟩) h1 h2,nJ (Rq.nN (Rq.sM h1 (by omega)).1).2 (nJ (tR (λi h=>(hi i h).1.2.2) h0) (va (by decide+kernel)))⟩
section
variable{F_law_roll F_law_built eS aS:List PV->Option PV}{bL cq:Nat->List PV->Option PV}
theorem BX{names:PV}{i:It}(hR:eS [names,.str i.t]=some i.o)(hT:∃c l,i.o=.ins c l/\c<4/\bL c [i.o]=some i.s/\cq c [i.o]=some (.str i.t))(h3:aS [i.s,i.s]=some (.bl true))(s0 s2 s5 s6 s7 s8:Slot):
  sO F_law_roll F_law_built eS aS bL cq [s0,.sh names,s2,.sh i.s,.sh (.str i.t),s5,s6,s7,s8]=some (.nx [s0,.sh names,s2,.sh i.s,.sh (.str i.t),s5,s6,.sh i.o,.sh (.str i.t)]):=by
 obtain⟨c,l,e,hc,h1,h2⟩:=hT
 obtain⟨o,s,t,d⟩:=i
 simp only at e h1 h2 h3 hR⊢
 subst e
 refine(az (aW ((bO (ps:=[names,.str t]) rfl).trans hR))).trans ?_
 have r:a8 Gb (dV 7) [s0,.sh names,s2,.sh s,.sh (.str t),s5,s6,.sh (.ins c l),s8]=some (.bl true):=by
  show(if decide (c<4)then some (PV.bl true)else none)=_
  rw[if_pos (decide_eq_true hc)]
 have m1:eJ bL (cI 7) aK [s0,.sh names,s2,.sh s,.sh (.str t),s5,s6,.sh (.ins c l),s8]=some s:=h1
 have m2:eJ cq (cI 7) aK [s0,.sh names,s2,.sh s,.sh (.str t),s5,s6,.sh (.ins c l),s8]=some (.str t):=h2
 refine(az ((eL ((jA (i7 (b:=true) (bN r))).trans (i7 (b:=true) (bN ((bO (au m1 (au (x:=s) rfl rfl))).trans h3))))).trans rfl)).trans ?_
 refine(az (aW m2)).trans ?_
 refine(eL ((jA (i7 (b:=true) (bN rfl))).trans (bN ((ah (x:=.str t) (y:=.str t) rfl rfl).trans ?_)))).trans rfl
 show some (PV.bl (!decide (t=t)))=_
 rw[decide_eq_true rfl]
 rfl
theorem D3{names:List Str}{r:It}{ns:List Int}(hT:∃c l,r.o=.ins c l/\c<4/\bL c [r.o]=some r.s/\cq c [r.o]=some (.str r.t))(hE:aS [r.s,r.s]=some (.bl true))
  (hR:F_law_roll [ni ns]=some (.tup (names.map PV.str)))
  (hB:F_law_built [ni ns,.int (6:Nat),.int (24:Nat),.tup (names.map PV.str)]=some r.p)
  (hD:eS [.tup (names.map PV.str),.str r.t]=some r.o):fn false 9 1 (ED F_law_roll F_law_built eS aS bL cq) [ni ns]=some (.bl true):=by
 refine fV rfl ?_
 refine(az (aW ((bO (ps:=[ni ns]) rfl).trans hR))).trans ?_
 refine(az (ρ':=[.sh (ni ns),.sh (.tup (names.map PV.str)),.sh r.o,.sh r.s,.sh (.str r.t),.sh (.int (r.d:Nat)),.un,.un,.un]) ?_).trans ?_
 ·show((cj F_law_built _ _).bind _)=_
  rw[(bO (ps:=[ni ns,.int (6:Nat),.int (24:Nat),.tup (names.map PV.str)]) rfl).trans hB]
  rfl
 have step:=λs6 s7 s8=>BX (F_law_roll:=F_law_roll) (F_law_built:=F_law_built) hD hT hE (.sh (ni ns)) (.sh r.o) (.sh (.int (r.d:Nat))) s6 s7 s8
 have f:forL (bW 6) (sO F_law_roll F_law_built eS aS bL cq) (pl (List.range 2)) [.sh (ni ns),.sh (.tup (names.map PV.str)),.sh r.o,.sh r.s,.sh (.str r.t),.sh (.int (r.d:Nat)),.un,.un,.un]=some (.nx [.sh (ni ns),.sh (.tup (names.map PV.str)),.sh r.o,.sh r.s,.sh (.str r.t),.sh (.int (r.d:Nat)),.sh (.int (1:Nat)),.sh r.o,.sh (.str r.t)]):=by
  refine(m9 (i:=6) (x:=.int (0:Nat)) (xs:=pl [1]) (step (.sh (.int (0:Nat))) .un .un)).trans ?_
  refine(m9 (i:=6) (x:=.int (1:Nat)) (xs:=pl []) (step (.sh (.int (1:Nat))) (.sh r.o) (.sh (.str r.t)))).trans ?_
  rfl
 exact(az ((kr (mJ (n:=2) rfl (by decide))).trans f)).trans rfl
end
theorem J6{x:Str}(h:J3 x):Rq.sJ x:=⟨h.1.as,λc hc=>by have:=h.1 c hc;omega,λz=>by have:=h.1 _ z;omega⟩
theorem D4(ns:List Int):∃xs:List Str,xs≠[]/\xs.length<=6/\(∀x∈xs,J3 x)/\F_law_roll [ni ns]=some (.tup (xs.map PV.str)):=by
 have hz:=mod_lt (ns.getD 0 0) (n:=6) (by decide)
 obtain⟨f,h1,h2,h3⟩:=BQ ns 2 (1+(ns.getD 0 0 %((6:Nat):Int)).toNat) (by omega)
 refine⟨_,λz=>?_,?_,λx hx=>?_,fL rfl ((bX ((bO (au (x:=ni ns) rfl (au (x:=.int (2:Nat)) rfl (au (x:=.int ((1+(ns.getD 0 0 %((6:Nat):Int)).toNat:Nat):Int)) ?_ rfl)))).trans h3)).trans rfl)⟩
 ·have:=congrArg List.length z
  rw[List.length_map,List.length_range]at this
  simp at this
 ·rw[List.length_map,List.length_range]
  omega
 ·obtain⟨k,_,rfl⟩:=List.mem_map.mp hx
  exact h1 k
 ·exact(ah (x:=.int ((1:Nat):Int)) rfl ((ah (y:=.int ((6:Nat):Int)) ((bO (ps:=[ni ns,.int (0:Nat)]) rfl).trans (sC ns 0)) rfl).trans (d4 _ (by decide)))).trans rfl
theorem tabs(i:It)(h:Ok i)(hd:i.d<=20):∃c l,i.o=.ins c l/\c<4/\bL c [i.o]=some i.s/\cq c [i.o]=some (.str i.t):=by
 obtain⟨c,l,e,hc,hs,_⟩:=h
 exact⟨c,l,e,hc,(hs 23 (by omega)).1,(hs 23 (by omega)).2⟩
theorem D5(i:It)(h:Ok i)(hd:i.d<=20):aS [i.s,i.s]=some (.bl true):=by
 obtain⟨c,l,e,hc,_,hq⟩:=h
 exact hq 50 (by omega)
theorem law_true(ns:List Int)(h:ns.length<=63):x5 [.lst (ns.map .int)]=some (.bl true):=by
 obtain⟨xs,x0,x6,xo,ex⟩:=D4 ns
 have hN:∀x∈xs,Rq.sJ x:=λx hx=>J6 (xo x hx)
 have hl:xs.length<=1000:=by omega
 obtain⟨r,⟨r1,r2,r3⟩,⟨r4,r5⟩,r6⟩:=BV (O7 hN hl) (λx hx=>(xo x hx).2.2) x0 ns 6 24 (by decide) (by decide)
 exact D3 (tabs r r1 r4) (D5 r r1 r4) ex r6 (Rq.DV hN hl r2 (by omega) r3 (by omega))
end L2.D.My
open PySem PySem.W PyProof.Rows
theorem PySem.Challenge.cw_signright_k22_rules_read_holds : PySem.Challenge.rw_signright_k22_rules_read.Holds := by
  w_on
  refine PySem.W.holds_law (by kernel_rfl) fun O8 => ?_
  refine PySem.W.holds_open (q := L2.D.My.Hw) (loose := ["FEWEST_PARTS"]) (Xt := L2.D.My.KG) (XP := XL L2.D.My.Hw []) (Yf := Hook.obs (kHook L2.D.My.BZ L2.D.My.B0 L2.D.My.Cc)) (Ya := Hook.val (kHook L2.D.My.BZ L2.D.My.B0 L2.D.My.Cc)) (YP := Hook.says (kHook L2.D.My.BZ L2.D.My.B0 L2.D.My.Cc)) (N := 20000) L2.D.My.Nu (Hook.of (kHook L2.D.My.BZ L2.D.My.B0 L2.D.My.Cc)) (Hook.keeps (kHook L2.D.My.BZ L2.D.My.B0 L2.D.My.Cc)) (fun s e => xl_of s (Bool.and_eq_true_iff.mp e).1) XL.keeps (by rfl) (by rfl) (by rfl) (fun s e => recFacts_of (Bool.and_eq_true_iff.mp e).2) (by rfl) (by first | assumption | decide +kernel) (by decide +kernel) ⟨rfl, rfl, rfl, rfl, rfl, by decide +kernel⟩ ?hw ?hc
  (case hw => w_witness2)
  k_fill
  refine L2.D.walkD2 (l := PySem.Challenge.rw_signright_k22_rules_read) (k := 54) (x := "_law_script") (F := L2.D.My.x5) rfl (by decide) rfl ⟨rfl, by decide, by decide⟩ (fun w h Y => PySem.W.kIn_of Y) ?F L2.D.My.law_true
  case F =>
    intro w mg fa h KX G IT
    refine' L2.D.My.all_mk KX G IT ?wu ?lH ?wx ?Bk ?Bm ?wy ?nS ?oW ?oX ?oY ?oZ ?tj ?tm ?tq ?tu ?tw ?j2 ?tx ?tD ?tE ?tF ?wz ?wA ?wB ?wC ?wD ?jf ?j3 ?tG ?tH ?tI ?tJ ?wF ?wG ?wH ?wI ?wJ ?jg ?j4 ?o6 ?o7 ?o8 ?o9 ?tK ?tL ?tM ?tN ?tO ?iu ?jh ?lI ?lK ?lL ?lM ?lN ?lO ?gh ?gi ?ji ?x8 ?x9 ?G4 ?Bn ?Bo ?G5 ?Bp ?Bq ?G6 ?Br ?Bs ?G7 ?Bt ?Bu ?G8 ?Bv ?Bw ?G9 ?Bx ?By ?Ha ?Hb ?Hc ?Hd ?He ?Hf ?Hg ?Hh ?Hi ?HJ ?HK ?fiH ?fnH ?Hj ?fiA ?fnA ?Hk ?fiY ?fnY ?Hl ?fiS ?fnS ?Hm ?fiC ?fnC ?Ho ?rdC ?fcC ?gaC ?hdC ?jj ?iw ?jk ?j5 ?jl ?j6 ?jm ?ix ?jn ?j7 ?jo ?j8 ?dM ?dN ?dk ?aY ?cz ?eD ?eE ?dU ?bj ?cP ?iy ?gV ?iz ?jq ?iA ?jr ?iB ?gW ?iC ?js ?iD ?jt ?iE ?iF ?lP ?lQ ?lR ?lT ?j9 ?ka ?lU ?lV ?iG ?iH ?ju ?jv ?lX ?lZ ?kb ?kc ?wK ?wL ?l6 ?l7 ?yb ?Bz ?wM ?BA ?jw ?BB ?wN ?BC ?tP ?BD ?tQ ?BE ?jx
    (case wu => k_is)
    (case lH => k_is)
    (case wx => k_is)
    (case Bk => k_is)
    (case Bm => k_is)
    (case wy => k_is)
    (case nS => k_is)
    (case oW => k_is)
    (case oX => k_is)
    (case oY => k_is)
    (case oZ => k_is)
    (case tj => k_is)
    (case tm => k_is)
    (case tq => k_is)
    (case tu => k_is)
    (case tw => kit_is)
    (case j2 => k_is)
    (case tx => k_is)
    (case tD => k_is)
    (case tE => k_is)
    (case tF => k_is)
    (case wz => k_is)
    (case wA => k_is)
    (case wB => k_is)
    (case wC => k_is)
    (case wD => kit_is)
    (case jf => k_is)
    (case j3 => k_is)
    (case tG => k_is)
    (case tH => k_is)
    (case tI => k_is)
    (case tJ => k_is)
    (case wF => k_is)
    (case wG => k_is)
    (case wH => k_is)
    (case wI => k_is)
    (case wJ => kit_is)
    (case jg => k_is)
    (case j4 => k_is)
    (case o6 => k_is)
    (case o7 => k_is)
    (case o8 => k_is)
    (case o9 => k_is)
    (case tK => k_is)
    (case tL => k_is)
    (case tM => k_is)
    (case tN => k_is)
    (case tO => kit_is)
    (case iu => k_is)
    (case jh => k_is)
    (case lI => k_is)
    (case lK => k_is)
    (case lL => k_is)
    (case lM => k_is)
    (case lN => k_is)
    (case lO => k_is)
    (case gh => k_is)
    (case gi => k_is)
    (case ji => k_is)
    (case x8 => k_is)
    (case x9 => k_is)
    (case G4 => apply L2.D.My.jE <;> k_is)
    (case Bn => k_is)
    (case Bo => k_is)
    (case G5 => apply L2.D.My.jE <;> k_is)
    (case Bp => k_is)
    (case Bq => k_is)
    (case G6 => apply L2.D.My.jE <;> k_is)
    (case Br => k_is)
    (case Bs => k_is)
    (case G7 => apply L2.D.My.jE <;> k_is)
    (case Bt => k_is)
    (case Bu => k_is)
    (case G8 => apply L2.D.My.jE <;> k_is)
    (case Bv => k_is)
    (case Bw => k_is)
    (case G9 => apply L2.D.My.jE <;> k_is)
    (case Bx => k_is)
    (case By => k_is)
    (case Ha => apply L2.D.My.jE <;> k_is)
    (case Hb => k_is)
    (case Hc => apply L2.D.My.jE <;> k_is)
    (case Hd => k_is)
    (case He => apply L2.D.My.jE <;> k_is)
    (case Hf => k_is)
    (case Hg => k_is)
    (case Hh => exact ⟨⟨_, _, rfl⟩, ⟨_, _, rfl⟩, ⟨_, _, rfl⟩, ⟨_, _, rfl⟩, ⟨_, _, rfl⟩, ⟨_, _, rfl⟩, ⟨_, _, rfl⟩, ⟨_, _, rfl⟩, ⟨_, _, rfl⟩, ⟨_, _, rfl⟩, trivial⟩)
    (case Hi => rfl)
    (case HJ => k_is)
    (case HK => k_is)
    (case fiH => k_is)
    (case fnH => k_is)
    (case Hj => apply L2.D.My.jE <;> k_is)
    (case fiA => k_is)
    (case fnA => k_is)
    (case Hk => apply L2.D.My.jE <;> k_is)
    (case fiY => k_is)
    (case fnY => k_is)
    (case Hl => apply L2.D.My.jE <;> k_is)
    (case fiS => k_is)
    (case fnS => k_is)
    (case Hm => apply L2.D.My.jE <;> k_is)
    (case fiC => k_is)
    (case fnC => k_is)
    (case Ho => apply L2.D.My.jE <;> k_is)
    (case rdC => k_is)
    (case fcC => k_is)
    (case gaC => k_is)
    (case hdC => rfl)
    (case jj => k_is)
    (case iw => k_is)
    (case jk => apply L2.D.My.jE <;> k_is)
    (case j5 => k_is)
    (case jl => k_is)
    (case j6 => apply L2.D.My.jE <;> k_is)
    (case jm => k_is)
    (case ix => k_is)
    (case jn => apply L2.D.My.jE <;> k_is)
    (case j7 => k_is)
    (case jo => k_is)
    (case j8 => apply L2.D.My.jE <;> k_is)
    (case dM => k_is)
    (case dN => k_is)
    (case dk => k_is)
    (case aY => k_is)
    (case cz => apply L2.D.My.jE <;> k_is)
    (case eD => k_is)
    (case eE => k_is)
    (case dU => k_is)
    (case bj => k_is)
    (case cP => apply L2.D.My.jE <;> k_is)
    (case iy => k_is)
    (case gV => k_is)
    (case iz => apply L2.D.My.jE <;> k_is)
    (case jq => k_is)
    (case iA => k_is)
    (case jr => apply L2.D.My.jE <;> k_is)
    (case iB => k_is)
    (case gW => k_is)
    (case iC => apply L2.D.My.jE <;> k_is)
    (case js => k_is)
    (case iD => k_is)
    (case jt => apply L2.D.My.jE <;> k_is)
    (case iE => k_is)
    (case iF => apply L2.D.My.jE <;> k_is)
    (case lP => k_is)
    (case lQ => apply L2.D.My.jE <;> k_is)
    (case lR => k_is)
    (case lT => apply L2.D.My.jE <;> k_is)
    (case j9 => k_is)
    (case ka => apply L2.D.My.jE <;> k_is)
    (case lU => k_is)
    (case lV => apply L2.D.My.jE <;> k_is)
    (case iG => k_is)
    (case iH => apply L2.D.My.jE <;> k_is)
    (case ju => k_is)
    (case jv => apply L2.D.My.jE <;> k_is)
    (case lX => k_is)
    (case lZ => apply L2.D.My.jE <;> k_is)
    (case kb => k_is)
    (case kc => apply L2.D.My.jE <;> k_is)
    (case wK => k_is)
    (case wL => apply L2.D.My.jE <;> k_is)
    (case l6 => k_is)
    (case l7 => apply L2.D.My.jE <;> k_is)
    (case yb => k_is)
    (case Bz => apply L2.D.My.jE <;> k_is)
    (case wM => k_is)
    (case BA => k_is)
    (case jw => k_is)
    (case BB => k_is)
    (case wN => k_is)
    (case BC => k_is)
    (case tP => k_is)
    (case BD => k_is)
    (case tQ => k_is)
    (case BE => k_is)
    (case jx => k_is)
