import PyProof.Rows.All
import Wide.All
import OpenK.AllK
import Wide.FinOn
import Lean
import PyProof.EqAt
import PyProof.EqKinds
import PyProof.TupleCall
import PyProof.Rows.SortPure
import PySem.Builtin.Int.W1All
import PySem.Sem
import PyProof.StrBlockL
import PyProof.SliceStr2
import PyProof.StrCalls2
import PyProof.WalkInts
import PyProof.Rows.StrStep
import PyProof.FactsAll.tuple_0
import PyProof.FactsAll.tuple_2
import PyProof.FactsAll.tuple_3
import PyProof.FString5
import PyProof.StrOps2
import PyProof.StrWalks
import PyProof.FString
import PyProof.FString4
import PyProof.ReprStr
import PyProof.ExcClass3
import PyProof.ExcBaseAll.ValueError
import KE.KIsAll
import OpenK.KDescr
import OpenK.KOwn
import PyProof.ExcArgsOwn
import PyProof.RulesAs
import PyProof.NsDelKeeps
import PyProof.StationsW
import PyProof.FitsInt
import PyProof.StrLawsRepr
import PyProof.PassesOwn
import PyProof.StrCalls
import PyProof.FactsAll.list_3
import PyProof.Draws
import PyProof.DictWalks
import PyProof.ListStr
import PyProof.StrLawsIdx
import PyProof.SliceList
import PySem.Challenge.RW_signright_k72_whole_two_rules
set_option Elab.async false
set_option linter.all false
set_option maxRecDepth 100000
set_option maxHeartbeats 0
set_option genSizeOf false
set_option genSizeOfSpec false
local macro_rules | `(tactic| omega) => `(tactic| lia)
namespace HX
open PySem PySem.W
noncomputable def Oq(st:SharedT->Thread->Option (SharedT×Thread))(ok:Thread->Bool)(n:Nat):SharedT->Thread->Option SharedT:=
 Nat.rec (motive:=λ_=>SharedT->Thread->Option SharedT) (λ_ _=>none) (λ_ ih s t=>match through t with
  |true=>some s
  |false=>match ok t with
   |false=>none
   |true=>match st s t with
    |some (s',t')=>ih s' t'
    |none=>none) n
theorem Ld{tb:String->Option Builtin}{p:Program}{w:World}{m:Nat}{ann:Option Value}(n:Nat):∀(a z:SharedT) (t:Thread),Oq (stepT (denote tb) p w) (stepOk m ann) n a t=some z->topRun tb p w m ann n a.abs t=some z.abs:=by
 induction n with
 |zero=>exact λ_ _ _ e=>nomatch e
 |succ n ih=>
  intro a z t
  rw[topRun]
  change(match through t with|true=>some a|false=>match stepOk m ann t with|false=>none|true=>match stepT (denote tb) p w a t with|some (b,u)=>Oq (stepT (denote tb) p w) (stepOk m ann) n b u|none=>none)=_->_
  cases through t
  ·cases stepOk m ann t
   ·exact λe=>nomatch e
   ·rcases q:stepT (denote tb) p w a t with _|⟨b,u⟩
    ·exact λe=>nomatch e
    ·dsimp only;rw[stepT_spec q];exact ih _ _ _
  ·intro e;cases e;rfl
noncomputable def Sb:List Obj->Nat->BT->BT
 |[],_,t=>t
 |o::r,n,t=>Sb r (n+1) (t.ins n o)
noncomputable def Nj(P:Params):BT:=Sb (boot_heap P).objs.toList 0 .nil
theorem Ot(P:Params):absHeap (Nj P) 11 {}=boot_heap P:=by kernel_rfl
noncomputable def Nk(p:Program)(N:Nat)(w:World)(os:OsState):Option SharedT:=
 Oq (Fast.tw10156331382660048174 (Fast.tw11892475500146522536 Fast.tw14364793385576792824) p w) (Fast.tw6613529449190102663 11 ((boot_heap w.params).nsMap mainGlobals "__annotations__")) N ⟨Nj w.params,11,{},Array.mk [],boot_drawn,boot_toks,os⟩ (topStub p)
theorem Yt{p:Program}{N:Nat}{w:World}{os:OsState}{z:SharedT}(h:Nk p N w os=some z):topRun treeTable p w 11 ((boot_heap w.params).nsMap mainGlobals "__annotations__") N ⟨boot_heap w.params,Array.mk [],boot_drawn,boot_toks,os⟩ (topStub p)=some z.abs:=by
 unfold Nk at h
 rw[<-Fast.te10156331382660048174,<-Fast.te11892475500146522536,<-Fast.te14364793385576792824,<-Fast.te6613529449190102663]at h
 have:=Ld _ _ _ _ h
 unfold SharedT.abs at this
 dsimp only at this
 rw[Ot]at this
 exact this
noncomputable abbrev Vk(p:Program)(w:World)(z:Shared):Bool:=staticsOk (importedModules p.main.body) (boot_heap w.params) z.heap&&namesBound p z.heap&&gensDone z&&laidKept (boot_heap w.params) z.heap
theorem Yu{p q:Program}{loose:List Str}{Xt:Shared->Bool}{α:Type}{Yf:Shared->α}{Ya:World->α}{N:Nat}
  (h1:opening p=plainProg p.main.scope.names)(h2:Nat.ble 600 N=true)(h3:∀s,fenceModules? p s=some s)
  (c:∀w os,(Nk p N w os).map (λz=>Vk p w z.abs)=some true)
  (v:∀w os,(Nk p N w os).map (λz=>Fast.tw4187177175401517315 q loose (importedModules p.main.body) Xt true z.abs)=some (openGood q loose))
  (y:∀w os,(Nk p N w os).map (λz=>Yf z.abs)=some (Ya w)):LeftO p q loose Xt Yf Ya N:=λw=>by
 obtain⟨⟨h,gs,d,k,os⟩,e,e'⟩:=Option.map_eq_some_iff.mp (boot_open h1 h2 h3 w)
 obtain⟨rfl,rfl,rfl,rfl⟩:h=boot_heap w.params/\gs=Array.mk []/\d=boot_drawn/\k=boot_toks:=by simpa using e'
 have hc:=c w os
 have hv:=v w os
 have hy:=y w os
 rw[<-Fast.te4187177175401517315]at hv
 obtain⟨z,ez,hc⟩:=Option.map_eq_some_iff.mp hc
 rw[ez,Option.map_some,Option.some.injEq]at hv hy
 have r:=Yt ez
 have t:topFrom treeTable p w N ⟨boot_heap w.params,Array.mk [],boot_drawn,boot_toks,os⟩=some z.abs:=by
  unfold topFrom
  dsimp only
  rw[show((boot_heap w.params).isNs mainGlobals&&(Array.mk []:Array GenState).size==0)=true from by kernel_rfl,show(boot_heap w.params).objs.size=11 from by kernel_rfl,r]
  show(match Vk p w z.abs with|true=>_|false=>_)=_
  rw[hc]
 unfold openEnds
 rw[e]
 rw[Option.bind_some,t]
 exact congrArg some (Prod.ext hv hy)
end HX
namespace L2.D.My
open PySem
noncomputable abbrev KU:=PySem.Challenge.pw_signright_k72_whole_two_rules
noncomputable def lq(i:Nat):Stmt:=KU.main.body.getD i (.Pass ⟨0,0,0,0⟩)
noncomputable def nr(i j:Nat):Stmt:=match lq i with
 |.ClassDef (body:=b) ..=>b.getD j (.Pass ⟨0,0,0,0⟩)
 |_=>.Pass ⟨0,0,0,0⟩
noncomputable def Yv(s:Stmt):Arguments:=match s with
 |.FunctionDef (args:=a) ..=>a
 |_=>⟨[],[],none,[],[],none,[]⟩
noncomputable def Yw(s:Stmt):List Stmt:=match s with
 |.FunctionDef (body:=b) ..=>b
 |_=>[]
noncomputable def Yx(s:Stmt):Scope:=match s with
 |.FunctionDef (scope:=b) ..=>b
 |_=>default
noncomputable abbrev qh:Value:=.none
noncomputable abbrev jn(s:Str)(t:Tok):Value:=.str s t
noncomputable abbrev bD(a:Addr):Value:=.ref a
noncomputable abbrev bG(P:Params)(s:Str)(t:Tok)(v:Value):DictEntry:=⟨PyData.keyHash P s,.str s t,v⟩
noncomputable abbrev Xx(n q:Str)(t:Nat)(l:List Value):Obj:=⟨.type "code",none,.fields (.str n t::.str q (t+1)::.str "/claim/cut.py" (t+2)::l).toArray,#[]⟩
noncomputable abbrev Yy(n q:Str)(st:Stmt)(dV kV doc pm:Value)(an:Option Addr)(cd ct:Value):Obj:=⟨.type "function",none,.func (PySem.W.fnOf n q (Yv st) (Yw st) (Yx st) dV kV doc pm an cd ct),#[]⟩
noncomputable abbrev iT(n q:Str)(t:Nat)(L k:Int)(a:Nat)(i:Int)(j:Nat):Obj:=Xx n q t [.int L 0,.int k 0,.int 0 0,.int 0 0,.int 3 0,bD a,.bool true,.int 181 0,bD (a+1),qh,bD (a+2),bD (a+3),bD (a+4),.int i 0,.int L 0,jn "/claim/cut.py" j]
noncomputable abbrev EK(n q:Str)(t:Nat)(L k:Int)(a:Nat)(i:Int)(j:Nat):Obj:=Xx n q t [.int L 0,.int k 0,.int 0 0,.int 0 0,.int 3 0,bD a,.bool true,.int 181 0,bD (a+1),qh,qh,qh,bD (a+2),.int i 0,.int L 0,jn "/claim/cut.py" j]
noncomputable abbrev fP(n q:Str)(st:Stmt)(m:Str)(t a:Nat):Obj:=Yy n q st qh qh qh (jn m t) none (bD a) qh
noncomputable def Vl(l:List Stmt):List Nat->List Stmt
 |[]=>[]
 |i::r=>match l[i]? with
  |some s=>s::Vl l r
  |none=>Vl l r
noncomputable def RB:Program:={KU with main:={KU.main with body:=Vl KU.main.body [0,2,3,4,5,7,8,9,10,11,12,13,14,15,16,17,19,20,21,22,23,25,26,27,28,29,30,32,33,34,35,36,37,39,40,41,42,43,44,45,46,47,48,49,50]}}
noncomputable def KW(P:Params):PySem.W.Frag:=
 (nat_lit 2,⟨qh,none,.dict #[] 0,#[]⟩)::
 (nat_lit 3,⟨(.type "dict"),none,.dict (List.toArray [bG P "__name__" 165 (jn "law_signright_k72_whole_two_rules" 800),bG P "__doc__" 166 qh,bG P "__package__" 167 qh,bG P "__loader__" 168 (.builtin "__main__.__loader__#opaque"),bG P "__spec__" 169 qh,bG P "__annotations__" 170 (bD 6),bG P "__builtins__" 171 (bD 4),bG P "__file__" 173 (jn "/claim/cut.py" 172),bG P "__cached__" 174 qh,bG P "_wall" 193 (bD 21),bG P "SignError" 213 (bD 31),bG P "NoRoll" 229 (bD 44),bG P "NoHand" 245 (bD 56),bG P "NoRule" 270 (bD 75),bG P "MOST_HANDS" 274 (.int 6 273),bG P "MOST_SIGNS" 276 (.int 20 275),bG P "KEPT_WORDS" 280 (bD 78),bG P "is_name" 286 (bD 83),bG P "roll_of" 295 (bD 90),bG P "has_hand" 303 (bD 97),bG P "hands_of" 309 (bD 102),bG P "group_of" 319 (bD 109),bG P "place" 327 (bD 116),bG P "within" 335 (bD 123),bG P "groups_of" 342 (bD 130),bG P "lets" 350 (bD 135),bG P "least" 359 (bD 142),bG P "letting" 365 (bD 147),bG P "some" 371 (bD 152),bG P "parted" 381 (bD 159),bG P "Rule" 434 (bD 197),bG P "Hand" 490 (bD 246),bG P "Counting" 542 (bD 287),bG P "All" 580 (bD 320),bG P "Any" 618 (bD 353),bG P "Some" 657 (bD 386),bG P "MOST_PARTS" 661 (.int 8 660),bG P "FEWEST_PARTS" 692 (bD 389),bG P "shared_signs" 703 (bD 396),bG P "counting_rule" 711 (bD 403),bG P "Reading" 789 (bD 460),bG P "read" 799 (bD 471),bG P "_law_cell_at" 809 (bD 478),bG P "_law_hands" 815 (bD 483),bG P "_law_before" 827 (bD 490),bG P "_law_base" 838 (bD 497),bG P "_law_name" 850 (bD 504),bG P "_law_names" 867 (bD 511),bG P "_law_rule" 881 (bD 518),bG P "_law_text" 887 (bD 523),bG P "_law_holds" 893 (bD 528),bG P "_law_whole" 900 (bD 535),bG P "_law_second" 910 (bD 542),bG P "law" 916 (bD 547)]) 54,#[]⟩)::
 (nat_lit 20,iT "_wall" "_wall" 187 1 1 15 191 192)::
 (nat_lit 21,fP "_wall" "_wall" (lq 0) "__main__" 164 20)::
 (nat_lit 30,⟨(.type "dict"),none,.dict (List.toArray [bG P "__module__" 203 (jn "signright.errors" 194),bG P "__firstlineno__" 207 (.int 5 206),bG P "__static_attributes__" 208 (bD 29),bG P "__weakref__" 210 (bD 32),bG P "__doc__" 211 qh]) 3,#[]⟩)::
 (nat_lit 31,⟨(.type "type"),none,.cls ⟨"SignError",[(.type "ValueError")],[(bD 31),(.type "ValueError"),(.type "Exception"),(.type "BaseException"),(.type "object")],30,"SignError",true,[],[(bD 44),(bD 56),(bD 75)],false,none,false⟩,#[some (bD 22),none,some (jn "SignError" 196),some (jn "SignError" 204),some (.builtin "ValueError.__new__"),some (.bool true)]⟩)::
 (nat_lit 32,⟨(.type "getset_descriptor"),none,.fields (List.toArray [(jn "__weakref__" 209),(bD 31),(.builtin "ExceptionGroup.__weakref__"),qh]),#[]⟩)::
 (nat_lit 43,⟨(.type "dict"),none,.dict (List.toArray [bG P "__module__" 221 (jn "signright.errors" 194),bG P "__firstlineno__" 225 (.int 7 224),bG P "__static_attributes__" 226 (bD 42),bG P "__doc__" 227 qh]) 2,#[]⟩)::
 (nat_lit 44,⟨(.type "type"),none,.cls ⟨"NoRoll",[(bD 31)],[(bD 44),(bD 31),(.type "ValueError"),(.type "Exception"),(.type "BaseException"),(.type "object")],43,"NoRoll",true,[],[],false,none,false⟩,#[some (bD 35),none,some (jn "NoRoll" 214),some (jn "NoRoll" 222),some (.builtin "ValueError.__new__"),some (.bool true)]⟩)::
 (nat_lit 55,⟨(.type "dict"),none,.dict (List.toArray [bG P "__module__" 237 (jn "signright.errors" 194),bG P "__firstlineno__" 241 (.int 9 240),bG P "__static_attributes__" 242 (bD 54),bG P "__doc__" 243 qh]) 2,#[]⟩)::
 (nat_lit 56,⟨(.type "type"),none,.cls ⟨"NoHand",[(bD 31)],[(bD 56),(bD 31),(.type "ValueError"),(.type "Exception"),(.type "BaseException"),(.type "object")],55,"NoHand",true,[],[],false,none,false⟩,#[some (bD 47),none,some (jn "NoHand" 230),some (jn "NoHand" 238),some (.builtin "ValueError.__new__"),some (.bool true)]⟩)::
 (nat_lit 71,iT "__init__" "NoRule.__init__" 258 13 2 66 263 264)::
 (nat_lit 72,fP "__init__" "NoRule.__init__" (nr 5 0) "signright.errors" 194 71)::
 (nat_lit 74,⟨(.type "dict"),none,.dict (List.toArray [bG P "__module__" 253 (jn "signright.errors" 194),bG P "__firstlineno__" 257 (.int 11 256),bG P "__init__" 265 (bD 72),bG P "__static_attributes__" 267 (bD 73),bG P "__doc__" 268 qh]) 2,#[]⟩)::
 (nat_lit 75,⟨(.type "type"),none,.cls ⟨"NoRule",[(bD 31)],[(bD 75),(bD 31),(.type "ValueError"),(.type "Exception"),(.type "BaseException"),(.type "object")],74,"NoRule",true,[],[],false,none,false⟩,#[some (bD 59),none,some (jn "NoRule" 246),some (jn "NoRule" 254),some (.builtin "ValueError.__new__"),some (.bool true)]⟩)::
 (nat_lit 78,⟨.type "tuple",none,.seq (List.toArray [(jn "all" 277),(jn "any" 278),(jn "of" 279)]) 0,#[]⟩)::
 (nat_lit 82,EK "is_name" "is_name" 281 20 1 79 284 285)::
 (nat_lit 83,fP "is_name" "is_name" (lq 10) "signright.hands" 271 82)::
 (nat_lit 89,iT "roll_of" "roll_of" 287 24 1 84 293 294)::
 (nat_lit 90,fP "roll_of" "roll_of" (lq 11) "signright.hands" 271 89)::
 (nat_lit 96,iT "has_hand" "has_hand" 296 35 2 91 301 302)::
 (nat_lit 97,fP "has_hand" "has_hand" (lq 12) "signright.hands" 271 96)::
 (nat_lit 101,EK "hands_of" "hands_of" 304 37 1 98 307 308)::
 (nat_lit 102,fP "hands_of" "hands_of" (lq 13) "signright.hands" 271 101)::
 (nat_lit 108,iT "group_of" "group_of" 310 39 2 103 317 318)::
 (nat_lit 109,fP "group_of" "group_of" (lq 14) "signright.hands" 271 108)::
 (nat_lit 115,iT "place" "place" 320 46 1 110 325 326)::
 (nat_lit 116,fP "place" "place" (lq 15) "signright.hands" 271 115)::
 (nat_lit 122,iT "within" "within" 328 49 2 117 333 334)::
 (nat_lit 123,fP "within" "within" (lq 16) "signright.hands" 271 122)::
 (nat_lit 129,iT "groups_of" "groups_of" 336 51 1 124 340 341)::
 (nat_lit 130,fP "groups_of" "groups_of" (lq 17) "signright.hands" 271 129)::
 (nat_lit 134,EK "lets" "lets" 345 54 2 131 348 349)::
 (nat_lit 135,fP "lets" "lets" (lq 19) "signright.ladders" 343 134)::
 (nat_lit 141,iT "least" "least" 351 56 1 136 357 358)::
 (nat_lit 142,fP "least" "least" (lq 20) "signright.ladders" 343 141)::
 (nat_lit 146,EK "letting" "letting" 360 62 2 143 363 364)::
 (nat_lit 147,fP "letting" "letting" (lq 21) "signright.ladders" 343 146)::
 (nat_lit 151,EK "some" "some" 366 64 2 148 369 370)::
 (nat_lit 152,fP "some" "some" (lq 22) "signright.ladders" 343 151)::
 (nat_lit 158,iT "parted" "parted" 372 66 3 153 379 380)::
 (nat_lit 159,fP "parted" "parted" (lq 23) "signright.ladders" 343 158)::
 (nat_lit 172,iT "shape" "Rule.shape" 396 74 1 167 400 401)::
 (nat_lit 173,fP "shape" "Rule.shape" (nr 25 0) "signright.rules" 382 172)::
 (nat_lit 179,iT "text" "Rule.text" 403 77 1 174 407 408)::
 (nat_lit 180,fP "text" "Rule.text" (nr 25 1) "signright.rules" 382 179)::
 (nat_lit 186,iT "lets" "Rule.lets" 410 80 3 181 416 417)::
 (nat_lit 187,fP "lets" "Rule.lets" (nr 25 2) "signright.rules" 382 186)::
 (nat_lit 193,iT "ladder" "Rule.ladder" 419 83 2 188 424 425)::
 (nat_lit 194,fP "ladder" "Rule.ladder" (nr 25 3) "signright.rules" 382 193)::
 (nat_lit 196,⟨(.type "dict"),none,.dict (List.toArray [bG P "__module__" 391 (jn "signright.rules" 382),bG P "__firstlineno__" 395 (.int 72 394),bG P "shape" 402 (bD 173),bG P "text" 409 (bD 180),bG P "lets" 418 (bD 187),bG P "ladder" 426 (bD 194),bG P "__static_attributes__" 427 (bD 195),bG P "__dict__" 429 (bD 198),bG P "__weakref__" 431 (bD 199),bG P "__doc__" 432 qh]) 4,#[]⟩)::
 (nat_lit 197,⟨(.type "type"),none,.cls ⟨"Rule",[(.type "object")],[(bD 197),(.type "object")],196,"Rule",true,[],[(bD 246),(bD 287)],false,none,false⟩,#[none,none,some (jn "Rule" 384),some (jn "Rule" 392),some (.builtin "object.__new__"),some (.bool true)]⟩)::
 (nat_lit 198,⟨(.type "getset_descriptor"),none,.fields (List.toArray [(jn "__dict__" 428),(bD 197),(.builtin "function.__dict__"),(.builtin "function.__dict__#set")]),#[]⟩)::
 (nat_lit 199,⟨(.type "getset_descriptor"),none,.fields (List.toArray [(jn "__weakref__" 430),(bD 197),(.builtin "ExceptionGroup.__weakref__"),qh]),#[]⟩)::
 (nat_lit 214,iT "__init__" "Hand.__init__" 447 87 2 209 452 453)::
 (nat_lit 215,fP "__init__" "Hand.__init__" (nr 26 0) "signright.rules" 382 214)::
 (nat_lit 221,iT "shape" "Hand.shape" 455 90 1 216 459 460)::
 (nat_lit 222,fP "shape" "Hand.shape" (nr 26 1) "signright.rules" 382 221)::
 (nat_lit 228,iT "text" "Hand.text" 462 93 1 223 466 467)::
 (nat_lit 229,fP "text" "Hand.text" (nr 26 2) "signright.rules" 382 228)::
 (nat_lit 235,iT "lets" "Hand.lets" 469 96 3 230 475 476)::
 (nat_lit 236,fP "lets" "Hand.lets" (nr 26 3) "signright.rules" 382 235)::
 (nat_lit 242,iT "ladder" "Hand.ladder" 478 99 2 237 483 484)::
 (nat_lit 243,fP "ladder" "Hand.ladder" (nr 26 4) "signright.rules" 382 242)::
 (nat_lit 245,⟨(.type "dict"),none,.dict (List.toArray [bG P "__module__" 442 (jn "signright.rules" 382),bG P "__firstlineno__" 446 (.int 85 445),bG P "__init__" 454 (bD 215),bG P "shape" 461 (bD 222),bG P "text" 468 (bD 229),bG P "lets" 477 (bD 236),bG P "ladder" 485 (bD 243),bG P "__static_attributes__" 487 (bD 244),bG P "__doc__" 488 qh]) 2,#[]⟩)::
 (nat_lit 246,⟨(.type "type"),none,.cls ⟨"Hand",[(bD 197)],[(bD 246),(bD 197),(.type "object")],245,"Hand",true,[],[],false,none,false⟩,#[some (bD 202),none,some (jn "Hand" 435),some (jn "Hand" 443),some (.builtin "object.__new__"),some (.bool true)]⟩)::
 (nat_lit 261,iT "__init__" "Counting.__init__" 503 103 3 256 509 510)::
 (nat_lit 262,fP "__init__" "Counting.__init__" (nr 27 0) "signright.rules" 382 261)::
 (nat_lit 266,EK "lets" "Counting.lets" 512 107 3 263 515 516)::
 (nat_lit 267,fP "lets" "Counting.lets" (nr 27 1) "signright.rules" 382 266)::
 (nat_lit 271,EK "ladder" "Counting.ladder" 518 111 2 268 521 522)::
 (nat_lit 272,fP "ladder" "Counting.ladder" (nr 27 2) "signright.rules" 382 271)::
 (nat_lit 278,iT "shapes_of_parts" "Counting.shapes_of_parts" 524 114 1 273 528 529)::
 (nat_lit 279,fP "shapes_of_parts" "Counting.shapes_of_parts" (nr 27 3) "signright.rules" 382 278)::
 (nat_lit 283,EK "text_of_parts" "Counting.text_of_parts" 531 117 1 280 534 535)::
 (nat_lit 284,fP "text_of_parts" "Counting.text_of_parts" (nr 27 4) "signright.rules" 382 283)::
 (nat_lit 286,⟨(.type "dict"),none,.dict (List.toArray [bG P "__module__" 498 (jn "signright.rules" 382),bG P "__firstlineno__" 502 (.int 101 501),bG P "__init__" 511 (bD 262),bG P "lets" 517 (bD 267),bG P "ladder" 523 (bD 272),bG P "shapes_of_parts" 530 (bD 279),bG P "text_of_parts" 536 (bD 284),bG P "__static_attributes__" 539 (bD 285),bG P "__doc__" 540 qh]) 2,#[]⟩)::
 (nat_lit 287,⟨(.type "type"),none,.cls ⟨"Counting",[(bD 197)],[(bD 287),(bD 197),(.type "object")],286,"Counting",true,[],[(bD 320),(bD 353),(bD 386)],false,none,false⟩,#[some (bD 249),none,some (jn "Counting" 491),some (jn "Counting" 499),some (.builtin "object.__new__"),some (.bool true)]⟩)::
 (nat_lit 302,iT "__init__" "All.__init__" 555 121 2 297 560 561)::
 (nat_lit 303,fP "__init__" "All.__init__" (nr 28 0) "signright.rules" 382 302)::
 (nat_lit 309,iT "shape" "All.shape" 563 124 1 304 567 568)::
 (nat_lit 310,fP "shape" "All.shape" (nr 28 1) "signright.rules" 382 309)::
 (nat_lit 316,iT "text" "All.text" 570 127 1 311 574 575)::
 (nat_lit 317,fP "text" "All.text" (nr 28 2) "signright.rules" 382 316)::
 (nat_lit 319,⟨(.type "dict"),none,.dict (List.toArray [bG P "__module__" 550 (jn "signright.rules" 382),bG P "__firstlineno__" 554 (.int 119 553),bG P "__init__" 562 (bD 303),bG P "shape" 569 (bD 310),bG P "text" 576 (bD 317),bG P "__static_attributes__" 577 (bD 318),bG P "__doc__" 578 qh]) 2,#[]⟩)::
 (nat_lit 320,⟨(.type "type"),none,.cls ⟨"All",[(bD 287)],[(bD 320),(bD 287),(bD 197),(.type "object")],319,"All",true,[],[],false,none,false⟩,#[some (bD 290),none,some (jn "All" 543),some (jn "All" 551),some (.builtin "object.__new__"),some (.bool true)]⟩)::
 (nat_lit 335,iT "__init__" "Any.__init__" 593 131 2 330 598 599)::
 (nat_lit 336,fP "__init__" "Any.__init__" (nr 29 0) "signright.rules" 382 335)::
 (nat_lit 342,iT "shape" "Any.shape" 601 134 1 337 605 606)::
 (nat_lit 343,fP "shape" "Any.shape" (nr 29 1) "signright.rules" 382 342)::
 (nat_lit 349,iT "text" "Any.text" 608 137 1 344 612 613)::
 (nat_lit 350,fP "text" "Any.text" (nr 29 2) "signright.rules" 382 349)::
 (nat_lit 352,⟨(.type "dict"),none,.dict (List.toArray [bG P "__module__" 588 (jn "signright.rules" 382),bG P "__firstlineno__" 592 (.int 129 591),bG P "__init__" 600 (bD 336),bG P "shape" 607 (bD 343),bG P "text" 614 (bD 350),bG P "__static_attributes__" 615 (bD 351),bG P "__doc__" 616 qh]) 2,#[]⟩)::
 (nat_lit 353,⟨(.type "type"),none,.cls ⟨"Any",[(bD 287)],[(bD 353),(bD 287),(bD 197),(.type "object")],352,"Any",true,[],[],false,none,false⟩,#[some (bD 323),none,some (jn "Any" 581),some (jn "Any" 589),some (.builtin "object.__new__"),some (.bool true)]⟩)::
 (nat_lit 368,iT "__init__" "Some.__init__" 631 141 3 363 637 638)::
 (nat_lit 369,fP "__init__" "Some.__init__" (nr 30 0) "signright.rules" 382 368)::
 (nat_lit 375,iT "shape" "Some.shape" 640 144 1 370 644 645)::
 (nat_lit 376,fP "shape" "Some.shape" (nr 30 1) "signright.rules" 382 375)::
 (nat_lit 382,iT "text" "Some.text" 647 147 1 377 651 652)::
 (nat_lit 383,fP "text" "Some.text" (nr 30 2) "signright.rules" 382 382)::
 (nat_lit 385,⟨(.type "dict"),none,.dict (List.toArray [bG P "__module__" 626 (jn "signright.rules" 382),bG P "__firstlineno__" 630 (.int 139 629),bG P "__init__" 639 (bD 369),bG P "shape" 646 (bD 376),bG P "text" 653 (bD 383),bG P "__static_attributes__" 654 (bD 384),bG P "__doc__" 655 qh]) 2,#[]⟩)::
 (nat_lit 386,⟨(.type "type"),none,.cls ⟨"Some",[(bD 287)],[(bD 386),(bD 287),(bD 197),(.type "object")],385,"Some",true,[],[],false,none,false⟩,#[some (bD 356),none,some (jn "Some" 619),some (jn "Some" 627),some (.builtin "object.__new__"),some (.bool true)]⟩)::
 (nat_lit 389,⟨(.type "dict"),none,.dict (List.toArray [bG P "all(" 662 (.int 1 663),bG P "any(" 664 (.int 1 665),bG P "1 of (" 666 (.int 1 667),bG P "2 of (" 668 (.int 2 669),bG P "3 of (" 670 (.int 3 671),bG P "4 of (" 672 (.int 4 673),bG P "5 of (" 674 (.int 5 675),bG P "6 of (" 676 (.int 6 677),bG P "7 of (" 678 (.int 7 679),bG P "8 of (" 680 (.int 8 681)]) 10,#[]⟩)::
 (nat_lit 395,iT "shared_signs" "shared_signs" 693 152 2 390 701 702)::
 (nat_lit 396,fP "shared_signs" "shared_signs" (lq 34) "signright.reader" 658 395)::
 (nat_lit 402,iT "counting_rule" "counting_rule" 704 159 2 397 709 710)::
 (nat_lit 403,fP "counting_rule" "counting_rule" (lq 35) "signright.reader" 658 402)::
 (nat_lit 416,iT "__init__" "Reading.__init__" 724 167 3 411 730 731)::
 (nat_lit 417,fP "__init__" "Reading.__init__" (nr 36 0) "signright.reader" 658 416)::
 (nat_lit 421,EK "take_word" "Reading.take_word" 733 172 1 418 736 737)::
 (nat_lit 422,fP "take_word" "Reading.take_word" (nr 36 1) "signright.reader" 658 421)::
 (nat_lit 428,iT "comes" "Reading.comes" 739 180 2 423 744 745)::
 (nat_lit 429,fP "comes" "Reading.comes" (nr 36 2) "signright.reader" 658 428)::
 (nat_lit 435,iT "take_sign" "Reading.take_sign" 747 183 2 430 752 753)::
 (nat_lit 436,fP "take_sign" "Reading.take_sign" (nr 36 3) "signright.reader" 658 435)::
 (nat_lit 442,iT "take_parts" "Reading.take_parts" 755 188 2 437 761 762)::
 (nat_lit 443,fP "take_parts" "Reading.take_parts" (nr 36 4) "signright.reader" 658 442)::
 (nat_lit 449,iT "take_rule" "Reading.take_rule" 764 199 1 444 769 770)::
 (nat_lit 450,fP "take_rule" "Reading.take_rule" (nr 36 5) "signright.reader" 658 449)::
 (nat_lit 456,iT "take_end" "Reading.take_end" 772 205 1 451 776 777)::
 (nat_lit 457,fP "take_end" "Reading.take_end" (nr 36 6) "signright.reader" 658 456)::
 (nat_lit 459,⟨(.type "dict"),none,.dict (List.toArray [bG P "__module__" 719 (jn "signright.reader" 658),bG P "__firstlineno__" 723 (.int 165 722),bG P "__init__" 732 (bD 417),bG P "take_word" 738 (bD 422),bG P "comes" 746 (bD 429),bG P "take_sign" 754 (bD 436),bG P "take_parts" 763 (bD 443),bG P "take_rule" 771 (bD 450),bG P "take_end" 778 (bD 457),bG P "__static_attributes__" 782 (bD 458),bG P "__dict__" 784 (bD 461),bG P "__weakref__" 786 (bD 462),bG P "__doc__" 787 qh]) 4,#[]⟩)::
 (nat_lit 460,⟨(.type "type"),none,.cls ⟨"Reading",[(.type "object")],[(bD 460),(.type "object")],459,"Reading",true,[],[],false,none,false⟩,#[none,none,some (jn "Reading" 712),some (jn "Reading" 720),some (.builtin "object.__new__"),some (.bool true)]⟩)::
 (nat_lit 461,⟨(.type "getset_descriptor"),none,.fields (List.toArray [(jn "__dict__" 783),(bD 460),(.builtin "function.__dict__"),(.builtin "function.__dict__#set")]),#[]⟩)::
 (nat_lit 462,⟨(.type "getset_descriptor"),none,.fields (List.toArray [(jn "__weakref__" 785),(bD 460),(.builtin "ExceptionGroup.__weakref__"),qh]),#[]⟩)::
 (nat_lit 470,iT "read" "read" 790 208 2 465 797 798)::
 (nat_lit 471,fP "read" "read" (lq 37) "signright.reader" 658 470)::
 (nat_lit 477,iT "_law_cell_at" "_law_cell_at" 802 214 2 472 807 808)::
 (nat_lit 478,fP "_law_cell_at" "_law_cell_at" (lq 39) "law_signright_k72_whole_two_rules" 800 477)::
 (nat_lit 482,EK "_law_hands" "_law_hands" 810 218 1 479 813 814)::
 (nat_lit 483,fP "_law_hands" "_law_hands" (lq 40) "law_signright_k72_whole_two_rules" 800 482)::
 (nat_lit 489,iT "_law_before" "_law_before" 816 220 2 484 825 826)::
 (nat_lit 490,fP "_law_before" "_law_before" (lq 41) "law_signright_k72_whole_two_rules" 800 489)::
 (nat_lit 496,iT "_law_base" "_law_base" 828 229 2 491 836 837)::
 (nat_lit 497,fP "_law_base" "_law_base" (lq 42) "law_signright_k72_whole_two_rules" 800 496)::
 (nat_lit 503,iT "_law_name" "_law_name" 839 236 4 498 848 849)::
 (nat_lit 504,fP "_law_name" "_law_name" (lq 43) "law_signright_k72_whole_two_rules" 800 503)::
 (nat_lit 510,iT "_law_names" "_law_names" 851 240 3 505 865 866)::
 (nat_lit 511,fP "_law_names" "_law_names" (lq 44) "law_signright_k72_whole_two_rules" 800 510)::
 (nat_lit 517,iT "_law_rule" "_law_rule" 868 255 2 512 879 880)::
 (nat_lit 518,fP "_law_rule" "_law_rule" (lq 45) "law_signright_k72_whole_two_rules" 800 517)::
 (nat_lit 522,EK "_law_text" "_law_text" 882 277 1 519 885 886)::
 (nat_lit 523,fP "_law_text" "_law_text" (lq 46) "law_signright_k72_whole_two_rules" 800 522)::
 (nat_lit 527,EK "_law_holds" "_law_holds" 888 284 3 524 891 892)::
 (nat_lit 528,fP "_law_holds" "_law_holds" (lq 47) "law_signright_k72_whole_two_rules" 800 527)::
 (nat_lit 534,iT "_law_whole" "_law_whole" 894 293 1 529 898 899)::
 (nat_lit 535,fP "_law_whole" "_law_whole" (lq 48) "law_signright_k72_whole_two_rules" 800 534)::
 (nat_lit 541,iT "_law_second" "_law_second" 901 295 4 536 908 909)::
 (nat_lit 542,fP "_law_second" "_law_second" (lq 49) "law_signright_k72_whole_two_rules" 800 541)::
 (nat_lit 546,EK "law" "law" 911 301 1 543 914 915)::
 (nat_lit 547,fP "law" "law" (lq 50) "law_signright_k72_whole_two_rules" 800 546)::[]
noncomputable abbrev KY:List Addr:=[2,3,20,21,30,31,32,43,44,55,56,71,72,74,75,78,82,83,89,90,96,97,101,102,108,109,115,116,122,123,129,130,134,135,141,142,146,147,151,152,158,159,172,173,179,180,186,187,193,194,196,197,198,199,214,215,221,222,228,229,235,236,242,243,245,246,261,262,266,267,271,272,278,279,283,284,286,287,302,303,309,310,316,317,319,320,335,336,342,343,349,350,352,353,368,369,375,376,382,383,385,386,389,395,396,402,403,416,417,421,422,428,429,435,436,442,443,449,450,456,457,459,460,461,462,470,471,477,478,482,483,489,490,496,497,503,504,510,511,517,518,522,523,527,528,534,535,541,542,546,547]
theorem Le:∀P,KY=(KW P).map (·.1):=λ_=>by kernel_rfl
noncomputable abbrev Vm(s:Shared):Bool:=PySem.W.xlAt RB [] s&&PySem.W.recOk (PySem.W.RowW.records (PySem.W.OpenRow.toRowW (PySem.Challenge.rw_signright_k72_whole_two_rules).row)) s
noncomputable abbrev Dc(w:World):Prop:=∀os,(HX.Nk KU 20000 w os).map (λz=>HX.Vk KU w z.abs)=some true
theorem Se:∀w:World,Dc (w.withFollow "special-get-raises" false):=by intro w os;kernel_rfl
theorem Sf:∀w:World,Dc (w.withFollow "special-get-raises" true):=by intro w os;kernel_rfl
theorem Vn:∀w,Dc w:=PySem.W.byRow2 "special-get-raises" (P:=Dc) Se Sf
noncomputable abbrev Lf(w:World):Prop:=∀os,(HX.Nk KU 20000 w os).map (λz=>PySem.W.Fast.tw4187177175401517315 RB ["FEWEST_PARTS"] (importedModules KU.main.body) Vm true z.abs)=some (PySem.W.openGood RB ["FEWEST_PARTS"])
theorem Vo:∀w:World,Lf (w.withFollow "special-get-raises" false):=by intro w os;kernel_rfl
theorem Vp:∀w:World,Lf (w.withFollow "special-get-raises" true):=by intro w os;kernel_rfl
theorem Yz:∀w,Lf w:=PySem.W.byRow2 "special-get-raises" (P:=Lf) Vo Vp
noncomputable abbrev Lg(w:World):Prop:=∀os,(HX.Nk KU 20000 w os).map (λz=>(PySem.W.kHook KW KY Le).obs z.abs)=some ((PySem.W.kHook KW KY Le).val w)
theorem Vq:∀w:World,Lg (w.withFollow "special-get-raises" false):=by intro w os;kernel_rfl
theorem Vr:∀w:World,Lg (w.withFollow "special-get-raises" true):=by intro w os;kernel_rfl
theorem YA:∀w,Lg w:=PySem.W.byRow2 "special-get-raises" (P:=Lg) Vq Vr
theorem YB:PySem.W.LeftO KU RB ["FEWEST_PARTS"] Vm (PySem.W.kHook KW KY Le).obs (PySem.W.kHook KW KY Le).val 20000:=HX.Yu (by kernel_rfl) (by kernel_rfl) (λs=>by kernel_rfl) Vn Yz YA
end L2.D.My
namespace L2
open PySem PySem.Spec PyProof.Rows
noncomputable abbrev Key:=Sum Int Str
noncomputable def Nl:Key->Value->Bool
 |.inl k,v=>Value.isInt k v
 |.inr x,v=>Value.isStrOf x v
noncomputable def Vs(w:World):Key->Int
 |.inl k=>hashInt k
 |.inr x=>hashStr w x
theorem cQ:∀{k:Key} {v:Value},Nl k v=true->(∃i t,k=Sum.inl i/\v=Value.int i t)\/(∃x t,k=Sum.inr x/\v=Value.str x t)
 |.inl i,v,h=>by
  obtain⟨t,e⟩:=Value.isInt_shape (k:=i) (v:=v) h
  exact .inl ⟨i,t,rfl,e⟩
 |.inr x,v,h=>by
  obtain⟨t,e⟩:=Value.isStrOf_shape (x:=x) (v:=v) h
  exact .inr ⟨x,t,rfl,e⟩
theorem Ou(a b:Int):decide ((Sum.inl a:Key)=Sum.inl b)=(a==b):=by
 by_cases e:a=b
 ·subst e;simp
 ·have h:¬(Sum.inl a:Key)=Sum.inl b:=λq=>e (Sum.inl.inj q)
  rw[decide_eq_false h]
  exact(beq_eq_false_iff_ne.mpr e).symm
theorem Ov(a b:Str):decide ((Sum.inr a:Key)=Sum.inr b)=decide (a=b):=by
 by_cases e:a=b
 ·subst e;simp
 ·have h:¬(Sum.inr a:Key)=Sum.inr b:=λq=>e (Sum.inr.inj q)
  rw[decide_eq_false h,decide_eq_false e]
theorem Ow(a:Int)(b:Str):decide ((Sum.inl a:Key)=Sum.inr b)=false:=decide_eq_false (λq=>nomatch q)
theorem Ox(a:Str)(b:Int):decide ((Sum.inr a:Key)=Sum.inl b)=false:=decide_eq_false (λq=>nomatch q)
noncomputable def Dd(prog:Program)(w:World):PySem.KeyKind prog w Key where
 is:=Nl
 hash:=Vs w
 inj:=λv a b ha hb=>by
  rcases cQ ha with⟨i,t,rfl,rfl⟩|⟨x,t,rfl,rfl⟩
  ·rcases cQ hb with⟨j,u,rfl,e⟩|⟨y,u,rfl,e⟩
   ·injection e with e1 _;rw[e1]
   ·exact nomatch e
  ·rcases cQ hb with⟨j,u,rfl,e⟩|⟨y,u,rfl,e⟩
   ·exact nomatch e
   ·injection e with e1 _;rw[e1]
 byValue:=λk v h=>by
  rcases cQ h with⟨i,t,rfl,rfl⟩|⟨x,t,rfl,rfl⟩<;>rfl
 pyHash:=λhv h=>by
  rcases cQ hv with⟨i,t,rfl,rfl⟩|⟨x,t,rfl,rfl⟩
  ·exact wpAny_pyHash_int h
  ·exact wpAny_pyHash_str h
 eqBool:=λhu hv h=>by
  rcases cQ hu with⟨i,t,rfl,rfl⟩|⟨x,t,rfl,rfl⟩
  ·rcases cQ hv with⟨j,u,rfl,rfl⟩|⟨y,u,rfl,rfl⟩
   ·rw[Ou]at h;exact wpAny_eqBool_int h
   ·rw[Ow]at h;exact SeqAt.EqAt.int_str i t y u _ _ _ _ h
  ·rcases cQ hv with⟨j,u,rfl,rfl⟩|⟨y,u,rfl,rfl⟩
   ·rw[Ox]at h;exact SeqAt.EqAt.str_int x t j u _ _ _ _ h
   ·rw[Ov]at h;exact wpAny_eqBool_str h
 «strs»:=λk x t v h=>by
  rcases cQ h with⟨i,u,rfl,e⟩|⟨y,u,rfl,e⟩
  ·exact nomatch e
  ·injection e with e1 _
   subst e1
   cases v<;>rfl
inductive V where
 |non|bl(b:Bool)|int(i:Int)|str(x:Str)|byt(b:Array UInt8)|flt(b:UInt64)|ref(a:Addr)|ty(n:String)
 deriving DecidableEq
noncomputable def RelV:V->Value->Prop
 |.non,u=>u=Value.none
 |.bl b,u=>u=Value.bool b
 |.int i,u=>∃t,u=Value.int i t
 |.str x,u=>∃t,u=Value.str x t
 |.byt b,u=>∃t,u=Value.bytes b t
 |.flt b,u=>∃t,u=Value.float b t
 |.ref a,u=>u=Value.ref a
 |.ty n,u=>u=Value.type n
noncomputable abbrev Vals:List V->List Value->Prop:=Paired RelV
theorem Vals.length{xs:List V}{us:List Value}(r:Vals xs us):xs.length=us.length:=Paired.length r
theorem Vals.get:∀{xs:List V} {us:List Value} {i:Nat} {x:V},Vals xs us->xs[i]?=some x->∃u,us[i]?=some u/\RelV x u
 |_,_,_,_,.nil,e=>by simp at e
 |_,_,0,_,.cons r _,e=>by simp at e;subst e;exact⟨_,rfl,r⟩
 |_,_,i+1,x,.cons _ t,e=>by
  obtain⟨u,h1,h2⟩:=Vals.get (i:=i) (x:=x) t (by simpa using e)
  exact⟨u,by simpa using h1,h2⟩
theorem Vals.append:∀{xs ys:List V} {us ws:List Value},Vals xs us->Vals ys ws->Vals (xs++ys) (us++ws)
 |_,_,_,_,.nil,s=>s
 |_,_,_,_,.cons r t,s=>.cons r (Vals.append t s)
theorem Vals.take:∀{xs:List V} {us:List Value} (n:Nat),Vals xs us->Vals (xs.take n) (us.take n)
 |_,_,0,_=>.nil
 |_,_,_+1,.nil=>.nil
 |_,_,n+1,.cons r t=>.cons r (Vals.take n t)
theorem Vals.drop:∀{xs:List V} {us:List Value} (n:Nat),Vals xs us->Vals (xs.drop n) (us.drop n)
 |_,_,0,r=>r
 |_,_,_+1,.nil=>.nil
 |_,_,n+1,.cons _ t=>Vals.drop n t
noncomputable def ve:Option V->Option Value->Prop
 |some v,some u=>RelV v u
 |none,none=>True
 |_,_=>False
noncomputable def KV{κ:Type}:List (κ×V)->List (κ×Value)->Prop:=Paired λ(p:κ×V) (q:κ×Value)=>p.1=q.1/\RelV p.2 q.2
noncomputable def kV:Key->V
 |.inl i=>.int i
 |.inr x=>.str x
inductive HO where
 |lst(xs:List V)
 |tup(xs:List V)
 |dK(cF:List (Key×V))|dT(cF:List (List Key×V))
 |set(S:Int->Bool)(n:Nat)
 |ins(C dx:Addr)(fs:List (Str×V))
 |own(x:Addr)
 |xd(fs:List (Str×V))
 |met(f x:Addr)
 |rng(lo hi:Int)
 |frz(o:Obj)(u:HO)
 |tbl(ps:Array Value)
 |ext(φ:Heap->Prop)
noncomputable abbrev Hp:=Addr->Option HO
noncomputable def upd(H:Hp)(a:Addr)(o:HO):Hp:=λb=>if b=a then some o else H b
theorem aO{H:Hp}{a:Addr}{o:HO}:upd H a o a=some o:=by unfold upd;rw[if_pos rfl]
theorem aL{H:Hp}{a b:Addr}{o:HO}(h:b≠a):upd H a o b=H b:=by unfold upd;rw[if_neg h]
theorem bR{H:Hp}{a b:Addr}{o:HO}(h:H a=some o)(h':H b=none):a≠b:=by
 intro e;subst e;rw[h]at h';cases h'
section
variable(P:Program)(w:World)
noncomputable def RC(h:Heap)(a:Addr):Prop:=∃o,h.get? a=some o/\o.dict=none
noncomputable def hU(H:Hp)(h:Heap)(a:Addr):HO->Prop
 |.lst xs=>xs.length<=sizeLine/\∃(its:List Value) (n:Nat),Vals xs its/\h.get? a=some {cls:=.type "list",data:=.seq its.toArray n}
 |.tup xs=>(xs.length<=sizeLine/\RC h a)/\∃its:List Value,Vals xs its/\IsTup h a its.toArray
 |.dK cF=>cF.length<=sizeLine/\(a==sysModules)=false/\∃vs,KV cF vs/\h.DictOf (Dd P w) a vs
 |.dT cF=>cF.length<=sizeLine/\(a==sysModules)=false/\∃xs:List (List Key×Addr×Value),
   Paired (λ(p:List Key×V) (q:List Key×Addr×Value)=>p.1=q.1/\H q.2.1=some (.tup (p.1.map kV))/\RelV p.2 q.2.2) cF xs/\
   ∃o es ep,h.get? a=some o/\o.ExactDict/\o.data=.dict es ep/\es.toList=xs.map (entryOfKey (tupleKind (Dd P w)))/\(xs.map (·.1)).Nodup
 |.set S n=>h.SetOf (intKind P w) a S n
 |.ins C dx fs=>H dx=some (.own a)/\fs.length<=1000/\dx≠a/\h.get? a=some (PySem.W.instObj C dx)/\
   ∃mA,h.Ns1 dx mA/\(∀f,ve (fs.lookup f) (mA f))/\PySem.Within mA (fs.map (·.1))
 |.own _=>∃o,h.get? a=some o
 |.xd fs=>∃mA,h.Ns1 a mA/\∀f,ve (fs.lookup f) (mA f)
 |.rng lo hi=>∃t u v,h.get? a=some {cls:=.type "range",data:=.fields #[.int lo t,.int hi u,.int 1 v]}
 |.frz o u=>h.get? a=some o/\hU H h a u
 |.tbl ps=>h.get? a=some {cls:=.none,data:=.fields ps}
 |.met f x=>h.get? a=some (PySem.W.methodObj (.ref f) (.ref x))
 |.ext φ=>φ h/\(∃o,h.get? a=some o)/\∀h1 h2:Heap,φ h1->(∀o,h1.get? a=some o->h2.get? a=some o)->φ h2
noncomputable def sr(H:Hp)(h:Heap):Prop:=∀a o,H a=some o->hU P w H h a o
end
section
variable{P:Program}{w:World}{H H':Hp}{h h':Heap}{a:Addr}{o:HO}
theorem hU.lt(x:hU P w H h a o):a<h.objs.size:=by
 cases o with
 |lst xs=>obtain⟨_,_,_,_,e⟩:=x;exact Heap.lt_size e
 |tup xs=>obtain⟨_,_,_,p⟩:=x;exact p.lt
 |dK cF=>obtain⟨_,_,_,_,o,_,_,e,_⟩:=x;exact Heap.lt_size e
 |dT cF=>obtain⟨_,_,_,_,o,_,_,e,_⟩:=x;exact Heap.lt_size e
 |set S n=>obtain⟨o,_,_,_,e,_⟩:=x;exact Heap.lt_size e
 |ins C dx fs=>obtain⟨_,_,_,e,_⟩:=x;exact Heap.lt_size e
 |own y=>obtain⟨_,e⟩:=x;exact Heap.lt_size e
 |xd fs=>obtain⟨_,⟨_,_,_,e,_⟩,_⟩:=x;exact Heap.lt_size e
 |rng lo hi=>obtain⟨_,_,_,e⟩:=x;exact Heap.lt_size e
 |frz ob u=>obtain⟨e,_⟩:=x;exact Heap.lt_size e
 |tbl ps=>exact Heap.lt_size (show h.get? a=some _ from x)
 |met f y=>exact Heap.lt_size (show h.get? a=some _ from x)
 |ext φ=>obtain⟨_,⟨_,e⟩,_⟩:=x;exact Heap.lt_size e
theorem Paired.Sg{α β:Type}{F G:α->β->Prop}:∀{l₁:List α} {l₂:List β},Paired F l₁ l₂->(∀a b,F a b->G a b)->Paired G l₁ l₂
 |_,_,.nil,_=>.nil
 |_,_,.cons r t,f=>.cons (f _ _ r) (Paired.Sg t f)
theorem hU.xc(x:hU P w H h a o)(k:∀b u,(b=a\/H b=some (.own a))->h.get? b=some u->h'.get? b=some u)
  (ho:∀b,H b=some (.own a)->H' b=some (.own a))(ht:∀b xs,H b=some (.tup xs)->H' b=some (.tup xs)):hU P w H' h' a o:=by
 induction o with
 |lst xs=>obtain⟨z,its,n,r,e⟩:=x;exact⟨z,its,n,r,k _ _ (.inl rfl) e⟩
 |tup xs=>obtain⟨⟨z,od,ed,hd⟩,its,r,ob,e,c⟩:=x;exact⟨⟨z,od,k _ _ (.inl rfl) ed,hd⟩,its,r,ob,k _ _ (.inl rfl) e,c⟩
 |dK cF=>obtain⟨z,y,vs,r,ob,es,ep,e,c⟩:=x;exact⟨z,y,vs,r,ob,es,ep,k _ _ (.inl rfl) e,c⟩
 |dT cF=>
  obtain⟨z,y,xs,r,ob,es,ep,e,c⟩:=x
  exact⟨z,y,xs,Paired.Sg r λp q z=>⟨z.1,ht _ _ z.2.1,z.2.2⟩,ob,es,ep,k _ _ (.inl rfl) e,c⟩
 |set S n=>obtain⟨ob,es,ep,t,e,c⟩:=x;exact⟨ob,es,ep,t,k _ _ (.inl rfl) e,c⟩
 |ins C dx fs=>
  obtain⟨d,z,ne,e,mA,⟨od,es,ep,e2,c⟩,r⟩:=x
  exact⟨ho _ d,z,ne,k _ _ (.inl rfl) e,mA,⟨od,es,ep,k _ _ (.inr d) e2,c⟩,r⟩
 |own y=>obtain⟨ob,e⟩:=x;exact⟨ob,k _ _ (.inl rfl) e⟩
 |xd fs=>obtain⟨mA,⟨od,es,ep,e,c⟩,r⟩:=x;exact⟨mA,⟨od,es,ep,k _ _ (.inl rfl) e,c⟩,r⟩
 |rng lo hi=>obtain⟨t,u,v,e⟩:=x;exact⟨t,u,v,k _ _ (.inl rfl) e⟩
 |frz ob u ih=>obtain⟨e,q⟩:=x;exact⟨k _ _ (.inl rfl) e,ih q⟩
 |tbl ps=>
  have e:h.get? a=some {cls:=.none,data:=.fields ps}:=x
  show h'.get? a=some {cls:=.none,data:=.fields ps}
  exact k a _ (.inl rfl) e
 |met f y=>
  have e:h.get? a=some (PySem.W.methodObj (.ref f) (.ref y)):=x
  show h'.get? a=some (PySem.W.methodObj (.ref f) (.ref y))
  exact k a _ (.inl rfl) e
 |ext φ=>obtain⟨p,⟨o,e⟩,st⟩:=x;exact⟨st _ _ p λo q=>k _ _ (.inl rfl) q,⟨o,k _ _ (.inl rfl) e⟩,st⟩
theorem sr.lt(x:sr P w H h)(e:H a=some o):a<h.objs.size:=(x a o e).lt
theorem sr.fresh(x:sr P w H h)(e:h.objs.size<=a):H a=none:=by
 cases q:H a with
 |none=>rfl
 |some u=>exact absurd (Nat.lt_of_lt_of_le (x.lt q) e) (Nat.lt_irrefl _)
theorem sr.kept(x:sr P w H h)(k:∀b u,h.get? b=some u->h'.get? b=some u):sr P w H h':=λa o e=>
 (x a o e).xc (λb u _ q=>k b u q) (λ_ q=>q) λ_ _ q=>q
theorem sr.laid(x:sr P w H h)(k:∀b u,h.get? b=some u->h'.get? b=some u)(hp:h.objs.size<=a)(new:hU P w (upd H a o) h' a o):sr P w (upd H a o) h':=λb u e=>by
 have hn:=x.fresh hp
 by_cases hb:b=a
 ·subst hb;rw[aO]at e;cases e;exact new
 ·rw[aL hb]at e
  exact(x b u e).xc (λc v _ q=>k c v q) (λc q=>by rw[aL (bR q hn)];exact q) λc xs q=>by rw[aL (bR q hn)];exact q
end
noncomputable def Rd(H:Hp)(a:Addr)(u:HO):Prop:=H a=some u\/∃o,H a=some (.frz o u)
theorem Rd.ok{P:Program}{w:World}{H:Hp}{h:Heap}{a:Addr}{u:HO}(r:Rd H a u)(x:sr P w H h):hU P w H h a u:=by
 rcases r with r|⟨o,r⟩
 ·exact x a u r
 ·obtain⟨_,q⟩:=x a _ r
  exact q
noncomputable def UG:Option HO->Prop
 |some (.lst _)=>True
 |some (.dK _)=>True
 |some (.dT _)=>True
 |some (.set _ _)=>True
 |some (.ins _ _ _)=>True
 |some (.ext _)=>True
 |_=>False
section
variable{P:Program}{w:World}{H:Hp}{h h':Heap}{x e:Addr}{o':HO}
theorem sr.write(ok:sr P w H h)(mu:UG (H x))(he:e=x\/H e=some (.own x))(k:∀b u,b≠e->h.get? b=some u->h'.get? b=some u)(RD:∃u,h'.get? e=some u)
  (new:hU P w (upd H x o') h' x o'):sr P w (upd H x o') h':=λb u q=>by
 have vf:∀c y,H c=some (.own y)->c≠x:=λc y r z=>by subst z;rw[r]at mu;exact mu
 have Vt:∀c xs,H c=some (.tup xs)->c≠x:=λc xs r z=>by subst z;rw[r]at mu;exact mu
 by_cases hb:b=x
 ·subst hb;rw[aO]at q;cases q;exact new
 ·rw[aL hb]at q
  by_cases Oy:b=e
  ·have q':H b=some (.own x):=by
     rcases he with z|z
     ·exact absurd (Oy.trans z) hb
     ·rw[Oy];exact z
   rw[q]at q';cases q'
   obtain⟨v,hv⟩:=RD
   exact⟨v,by rw[Oy];exact hv⟩
  ·refine(ok b u q).xc (λc v hc r=>k c v ?_ r) (λc r=>by rw[aL (vf c b r)];exact r) λc xs r=>by rw[aL (Vt c xs r)];exact r
   rcases hc with rfl|hc
   ·exact Oy
   ·rintro rfl
    rcases he with z|z
    ·exact vf c b hc z
    ·rw[hc]at z;cases z;exact hb rfl
end
structure Un(fs ex:List Addr)(H H':Hp)(h h':Heap):Prop where
 keep:∀b o,h.get? b=some o->H b=none->b∉fs->b∉ex->h'.get? b=some o
 slot:∀b o,h.get? b=some o->H b=none->b∈fs->b∉ex->∃sl,h'.get? b=some {o with slots:=sl}
 free:∀b o,h.get? b=some o->H b=none->b∉ex->H' b=none
 there:∀b o,h.get? b=some o->b∉ex->∃o',h'.get? b=some o'
 vg:∀b xs,H b=some (.tup xs)->H' b=some (.tup xs)
 sT:∀b o u,H b=some (.frz o u)->H' b=some (.frz o u)
 xf:∀b ps,H b=some (.tbl ps)->∃more,H' b=some (.tbl (ps++more))
section
variable{fs KZ ex ex':List Addr}{H H1 H2:Hp}{h h1 h2 h':Heap}{a x e:Addr}{o:HO}
theorem Un.any(u:Un fs ex H H1 h h1){b:Addr}{ob:Obj}(q:h.get? b=some ob)(n:H b=none)(hx:b∉ex):∃sl,h1.get? b=some {ob with slots:=sl}:=by
 by_cases hb:b∈fs
 ·exact u.slot b ob q n hb hx
 ·exact⟨ob.slots,u.keep b ob q n hb hx⟩
theorem Un.kept(k:∀b u,h.get? b=some u->h'.get? b=some u):Un fs ex H H h h':=
 ⟨λb ob q _ _ _=>k b ob q,λb ob q _ _ _=>⟨ob.slots,k b ob q⟩,λ_ _ _ n _=>n,λb ob q _=>⟨ob,k b ob q⟩,λ_ _ q=>q,λ_ _ _ q=>q,λ_ ps q=>⟨#[],by rw[q];simp⟩⟩
theorem Un.refl:Un fs ex H H h h:=Un.kept λ_ _ q=>q
theorem Un.laid(k:∀b u,h.get? b=some u->h'.get? b=some u)(hp:h.objs.size<=a)(hn:H a=none):Un fs ex H (upd H a o) h h' where
 keep:=λb u q _ _ _=>k b u q
 slot:=λb u q _ _ _=>⟨u.slots,k b u q⟩
 free:=λb u q n _=>by rw[aL (Nat.ne_of_lt (Nat.lt_of_lt_of_le (Heap.lt_size q) hp))];exact n
 there:=λb u q _=>⟨u,k b u q⟩
 vg:=λb xs q=>by rw[aL (bR q hn)];exact q
 sT:=λb u xs q=>by rw[aL (bR q hn)];exact q
 xf:=λb ps q=>⟨#[],by rw[aL (bR q hn),q];simp⟩
theorem Un.write(mu:UG (H x))(he:e=x\/H e=some (.own x))(k:∀b u,b≠e->h.get? b=some u->h'.get? b=some u)(RD:∃u,h'.get? e=some u):Un fs ex H (upd H x o) h h':=by
 have hx:∀b,H b=none->b≠x:=λb n z=>by subst z;rw[n]at mu;exact mu
 have hb:∀b,H b=none->b≠e:=λb n z=>by
  subst z
  rcases he with r|r
  ·exact hx b n r
  ·rw[n]at r;cases r
 have hm:∀b u,H b=some u->¬UG (some u)->b≠x:=λb u q nm z=>by subst z;rw[q]at mu;exact nm mu
 refine⟨λb u q n _ _=>k b u (hb b n) q,λb u q n _ _=>⟨u.slots,k b u (hb b n) q⟩,λb u q n _=>by rw[aL (hx b n)];exact n,λb u q _=>?_,
  λb xs q=>by rw[aL (hm b _ q λz=>z)];exact q,λb u xs q=>by rw[aL (hm b _ q λz=>z)];exact q,λb ps q=>⟨#[],by rw[aL (hm b _ q λz=>z),q];simp⟩⟩
 by_cases Oy:b=e
 ·subst Oy;exact RD
 ·exact⟨u,k b u Oy q⟩
end
noncomputable def UH(h:Heap)(H:Hp):List Addr:=(List.range h.objs.size).filter λa=>(H a).isSome
noncomputable def xg(h:Heap)(H:Hp):Heap:=PySem.W.hideAll h (UH h H)
theorem EL(h:Heap)(H:Hp):(xg h H).objs.size=h.objs.size:=PySem.W.hideAll_size _ _
theorem G0{h:Heap}{H:Hp}{b:Addr}{o:Obj}(e:h.get? b=some o)(n:H b=none):(xg h H).get? b=some o:=
 PySem.W.hideAll_get _ e λhm=>by
  have q:(H b).isSome=true:=(List.mem_filter.mp hm).2
  rw[n]at q;simp at q
theorem Lh{h:Heap}{H:Hp}{b:Addr}{o:Obj}(e:(xg h H).get? b=some o):h.get? b=some o/\H b=none:=by
 have e':h.get? b=some o:=PySem.W.of_hideAll (UH h H) e
 refine⟨e',?_⟩
 cases q:H b with
 |none=>rfl
 |some x=>
  have hm:b∈UH h H:=List.mem_filter.mpr ⟨List.mem_range.mpr (Heap.lt_size e'),by simp[q]⟩
  have z:(xg h H).get? b=none:=PySem.W.hideAll_none (UH h H) hm
  rw[z]at e;cases e
structure Mod(K:PySem.W.Frag)(mg:Str->Option Value)(base:Heap):Prop where
 kin:K.In base
 glob:base.Ns mainGlobals mg
 blt:∃mb,base.Ns builtinsNs mb/\∀x:Str,x≠ "__name__" ->mb x=bootBuiltins x
 nolimit:base.NoLimit
structure Cx where
 prog:Program
 w:World
 K:PySem.W.Frag
 mg:Str->Option Value
 base:Heap
 A:Around
 N:List Str
 s₀:Shared
 H₀:Hp
 env:Env
 outer:List Env
 stack:List Env
 ex:List Addr
 fn:Str->Bool
 calm:Bool
 pn:List (Addr×Obj)
 xe:Value->Shared->Prop
noncomputable def EM(l:List Env):List Addr:=l.filterMap (·.frame)
noncomputable abbrev Cx.fs(X:Cx):List Addr:=EM X.outer
noncomputable def Bh(sc:Scope)(x:Str):Prop:=sc.names.lookup x=some .local\/sc.names.lookup x=some .cell\/sc.names.lookup x=some .free
noncomputable def Loc(sc:Scope)(x:Str):Prop:=sc.names.lookup x=some .local\/sc.names.lookup x=some .cell
noncomputable def Look(env:Env)(h:Heap)(m:Str->Option Value)(x:Str)(u:Value):Prop:=
 (env.kindOf x=some .local/\m x=some u)\/((env.kindOf x=some .cell\/env.kindOf x=some .free)/\∃c,env.cells.lookup x=some c/\h.IsCell c (some u))
structure Cx.Ok(X:Cx):Prop where
 mod:Mod X.K X.mg X.base
 kind:X.env.scope.kind=.function
 glob:X.env.globals=mainGlobals
 blt:X.env.builtins=builtinsNs
 above:X.s₀.heap.objs.size<=X.env.locals
 inj:∀x y c,X.env.cells.lookup x=some c->X.env.cells.lookup y=some c->x=y
 has:∀x,(X.env.kindOf x=some .cell\/X.env.kindOf x=some .free)->∃c,X.env.cells.lookup x=some c
 cab:∀x c,X.fn x=true->X.env.cells.lookup x=some c->X.s₀.heap.objs.size<=c
 hd:X.calm=true->X.A.handled=none
 frames:X.A.frames=some X.stack
 stk:X.stack=X.outer\/(X.stack=X.env::X.outer/\X.env.frame=some X.env.locals)
 exf:∀b∈X.ex,b≠X.env.locals/\∀x c,X.env.cells.lookup x=some c->c≠b
 bs:∀b o,X.base.get? b=some o->X.s₀.heap.get? b=some o/\X.H₀ b=none
 bsz:X.base.objs.size<=X.s₀.heap.objs.size
 noex:∀b o,X.base.get? b=some o->b∉X.ex
 exfs:∀b∈X.ex,b∉X.fs
 funs:X.s₀.heap.FunFrames X.base X.outer
 frf:∀b∈X.fs,X.H₀ b=none
structure Inv(X:Cx)(pins:List (Addr×Obj))(σ:List (Option V))(H:Hp)(s:Shared):Prop where
 ok:X.Ok
 os:s.os=X.s₀.os
 bare:AllBare s.gens
 base:Un X.fs X.ex X.H₀ H X.s₀.heap s.heap
 loc:∃m,s.heap.Ns X.env.locals m/\∀(i:Nat) (x:Str) (v:V),X.N[i]?=some x->σ[i]?=some (some v)->Bh X.env.scope x->∃u,RelV v u/\Look X.env s.heap m x u
 cell:∀x c,X.env.cells.lookup x=some c->∃v,s.heap.IsCell c v
 free:H X.env.locals=none
 freeC:∀x c,X.env.cells.lookup x=some c->H c=none
 pin:∀p∈X.pn++pins,s.heap.get? p.1=some p.2/\H p.1=none/\p.1≠X.env.locals/\p.1∉X.fs/\∀v,p.2.data≠.cell v
 dZ:sr X.prog X.w H s.heap
 len:σ.length=X.N.length
section
variable{X:Cx}{pins:List (Addr×Obj)}{σ:List (Option V)}{H H':Hp}{s:Shared}{h':Heap}
theorem Cx.Ok.Vu(ok:X.Ok){b:Addr}{o:Obj}(e:X.base.get? b=some o):b∉X.fs:=λhb=>by
 have:=(ok.funs.mem hb).1
 rw[e]at this;cases this
theorem Inv.bs(I:Inv X pins σ H s):∀b o,X.base.get? b=some o->s.heap.get? b=some o/\H b=none:=λb o e=>
 ⟨I.base.keep b o (I.ok.bs b o e).1 (I.ok.bs b o e).2 (I.ok.Vu e) (I.ok.noex b o e),I.base.free b o (I.ok.bs b o e).1 (I.ok.bs b o e).2 (I.ok.noex b o e)⟩
theorem Inv.bk(I:Inv X pins σ H s):∀b o,X.base.get? b=some o->s.heap.get? b=some o:=λb o e=>(I.bs b o e).1
theorem Inv.mod(I:Inv X pins σ H s):Mod X.K X.mg X.base:=I.ok.mod
theorem Inv.oB(I:Inv X pins σ H s):X.K.In s.heap:=I.ok.mod.kin.keeps I.bk
theorem Inv.lt(I:Inv X pins σ H s):X.env.locals<s.heap.objs.size:=let⟨_,hn,_⟩:=I.loc;hn.lt
theorem Inv.sz(I:Inv X pins σ H s):X.s₀.heap.objs.size<=s.heap.objs.size:=Nat.le_trans I.ok.above (Nat.le_of_lt I.lt)
theorem Inv.Li(I:Inv X pins σ H s){a:Addr}(h:s.heap.objs.size<=a):a∉X.fs:=λhb=>by
 obtain⟨_,o,ho,_⟩:=I.ok.funs.mem hb
 exact absurd (Nat.lt_of_lt_of_le (Heap.lt_size ho) (Nat.le_trans I.sz h)) (Nat.lt_irrefl _)
theorem Inv.Oz(I:Inv X pins σ H s):∀x c,X.env.cells.lookup x=some c->c≠X.env.locals:=λx c e z=>by
 obtain⟨v,o,ho,hd⟩:=I.cell x c e
 obtain⟨m,⟨o',es,ep,G1,Si,_⟩,_⟩:=I.loc
 rw[z,G1]at ho;cases ho;rw[Si]at hd;cases hd
theorem Inv.funs(I:Inv X pins σ H s):s.heap.FunFrames X.base X.outer:=by
 have all:∀(l:List Env),(∀b∈EM l,b∈X.fs)->X.s₀.heap.FunFrames X.base l->s.heap.FunFrames X.base l:=by
  intro l
  induction l with
  |nil=>intro _ _;trivial
  |cons env r ih=>
   intro hs hl
   obtain⟨hk,⟨L,o,hf,hn,ho,hd⟩,hr⟩:=hl
   have hL:L∈X.fs:=hs L (by unfold EM;rw[List.filterMap_cons,hf];exact List.mem_cons_self)
   obtain⟨sl,e⟩:=I.base.slot L o ho (I.ok.frf L hL) hL λz=>I.ok.exfs L z hL
   exact⟨hk,⟨L,_,hf,hn,e,hd⟩,ih (λb hb=>hs b (by unfold EM;rw[List.filterMap_cons,hf];exact List.mem_cons_of_mem _ hb)) hr⟩
 exact all X.outer (λ_ hb=>hb) I.ok.funs
theorem Inv.stack(I:Inv X pins σ H s):s.heap.FunFrames X.base X.stack:=by
 rcases I.ok.stk with e|⟨e,hf⟩
 ·rw[e];exact I.funs
 ·rw[e]
  obtain⟨m,hn,_⟩:=I.loc
  refine .cons (by rw[I.ok.kind];decide) hf hn ?_ I.funs
  exact Heap.get?_none_of_le (Nat.le_trans I.ok.bsz I.ok.above)
theorem Inv.Bo(I:Inv X pins σ H s):∀b∈EM X.stack,b∈X.env.locals::X.fs:=λb hb=>by
 rcases I.ok.stk with e|⟨e,hf⟩
 ·rw[e]at hb;exact List.mem_cons_of_mem _ hb
 ·rw[e]at hb
  unfold EM at hb
  rw[List.filterMap_cons,hf]at hb
  exact hb
theorem Inv.De(I:Inv X pins σ H s):∀b∈EM X.stack,H b=none:=λb hb=>by
 rcases List.mem_cons.mp (I.Bo b hb)with e|hb
 ·rw[e];exact I.free
 ·obtain⟨_,o,ho,_⟩:=I.ok.funs.mem hb
  exact I.base.free b o ho (I.ok.frf b hb) λz=>I.ok.exfs b z hb
theorem Inv.step{g':Array GenState}{t':Nat}{d':Drawn}{ch:List Addr}(I:Inv X pins σ H s)
  (K5:∀b∈ch,(b∈X.ex\/X.s₀.heap.objs.size<=b)/\b≠X.env.locals/\(∀x c,X.env.cells.lookup x=some c->c≠b)/\∀p∈X.pn++pins,p.1≠b)
  (keep:∀b o,b≠X.env.locals->b∉X.fs->b∉ch->s.heap.get? b=some o->H b=none->h'.get? b=some o)
  (slot:∀b o,b≠X.env.locals->b∈X.fs->b∉ch->s.heap.get? b=some o->H b=none->∃sl,h'.get? b=some {o with slots:=sl})(free:∀b o,b∉ch->s.heap.get? b=some o->H b=none->H' b=none)
  (there:∀b o,b∉ch->s.heap.get? b=some o->∃o',h'.get? b=some o')
  (vg:∀b xs,H b=some (.tup xs)->H' b=some (.tup xs))(sT:∀b o u,H b=some (.frz o u)->H' b=some (.frz o u))(xf:∀b ps,H b=some (.tbl ps)->∃more,H' b=some (.tbl (ps++more)))
  (ns:∀m,s.heap.Ns X.env.locals m->h'.Ns X.env.locals m)(dZ:sr X.prog X.w H' h')(hg:AllBare g'):
  Inv X pins σ H' {s with heap:=h',gens:=g',drawn:=d',toks:=t'}:=by
 have Xy:∀b o,X.s₀.heap.get? b=some o->b≠X.env.locals:=λb o e=>Nat.ne_of_lt (Nat.lt_of_lt_of_le (Heap.lt_size e) I.ok.above)
 have UI:∀b o,X.s₀.heap.get? b=some o->b∉X.ex->b∉ch:=λb o e hx hb=>by
  rcases(K5 b hb).1 with z|z
  ·exact hx z
  ·exact absurd (Nat.lt_of_lt_of_le (Heap.lt_size e) z) (Nat.lt_irrefl _)
 have cellK:∀x c,X.env.cells.lookup x=some c->∀v,s.heap.IsCell c v->h'.IsCell c v:=λx c e v ⟨o,ho,hd⟩=>by
  have Sj:c∉ch:=λz=>(K5 c z).2.2.1 x c e rfl
  by_cases hc:c∈X.fs
  ·obtain⟨sl,q⟩:=slot c o (I.Oz x c e) hc Sj ho (I.freeC x c e)
   exact⟨_,q,hd⟩
  ·exact⟨o,keep c o (I.Oz x c e) hc Sj ho (I.freeC x c e),hd⟩
 refine⟨I.ok,I.os,hg,⟨λb o e n hb hx=>?_,λb o e n hb hx=>?_,λb o e n hx=>?_,λb o e hx=>?_,λb xs e=>vg b xs (I.base.vg b xs e),λb o xs e=>sT b o xs (I.base.sT b o xs e),λb ps e=>?_⟩,?_,λx c e=>?_,?_,λx c e=>?_,λp hp=>?_,dZ,I.len⟩
 ·exact keep b o (Xy b o e) hb (UI b o e hx) (I.base.keep b o e n hb hx) (I.base.free b o e n hx)
 ·obtain⟨sl,e1⟩:=I.base.slot b o e n hb hx
  obtain⟨YC,e2⟩:=slot b _ (Xy b o e) hb (UI b o e hx) e1 (I.base.free b o e n hx)
  exact⟨YC,e2⟩
 ·obtain⟨o',e1⟩:=I.base.there b o e hx
  exact free b o' (UI b o e hx) e1 (I.base.free b o e n hx)
 ·obtain⟨o',e1⟩:=I.base.there b o e hx
  exact there b o' (UI b o e hx) e1
 ·obtain⟨m1,e1⟩:=I.base.xf b ps e
  obtain⟨m2,e2⟩:=xf b _ e1
  exact⟨m1++m2,by rw[e2,Array.append_assoc]⟩
 ·obtain⟨m,hn,hl⟩:=I.loc
  refine⟨m,ns m hn,λi x v e1 e2 e3=>?_⟩
  obtain⟨u,r,l⟩:=hl i x v e1 e2 e3
  refine⟨u,r,?_⟩
  rcases l with l|⟨k,c,e,z⟩
  ·exact .inl l
  ·exact .inr ⟨k,c,e,cellK x c e _ z⟩
 ·obtain⟨v,z⟩:=I.cell x c e
  exact⟨v,cellK x c e v z⟩
 ·obtain⟨m,⟨o,_,_,ho,_⟩,_⟩:=I.loc
  exact free _ o (λz=>(K5 _ z).2.1 rfl) ho I.free
 ·obtain⟨v,o,ho,hd⟩:=I.cell x c e
  exact free c o (λz=>(K5 c z).2.2.1 x c e rfl) ho (I.freeC x c e)
 ·obtain⟨e,n,ne,nf,d⟩:=I.pin p hp
  have Sj:p.1∉ch:=λz=>(K5 p.1 z).2.2.2 p hp rfl
  exact⟨keep p.1 p.2 ne nf Sj e n,free p.1 p.2 Sj e n,ne,nf,d⟩
theorem Inv.un{t':Nat}(I:Inv X pins σ H s)(u:Un X.fs [] H H' s.heap h')(dZ:sr X.prog X.w H' h'):Inv X pins σ H' {s with heap:=h',toks:=t'}:=by
 obtain⟨m,⟨o,es,ep,ho,r⟩,_⟩:=id I.loc
 obtain⟨sl,hL⟩:=u.any ho I.free (by simp)
 exact I.step (g':=s.gens) (d':=s.drawn) (ch:=[]) (λ_ z=>nomatch z) (λb o _ hb _ e n=>u.keep b o e n hb (by simp)) (λb o _ hb _ e n=>u.slot b o e n hb (by simp)) (λb o _ e n=>u.free b o e n (by simp)) (λb o _ e=>u.there b o e (by simp)) u.vg u.sT u.xf (λm' hm=>by
  obtain⟨o',Vv,Vw,G1,r'⟩:=hm
  rw[ho]at G1;cases G1
  exact⟨_,Vv,Vw,hL,r'⟩) dZ I.bare
theorem Inv.call{g':Array GenState}{t':Nat}{d':Drawn}{ch:List Addr}(I:Inv X pins σ H s)(u:Un (EM X.stack) ch H H' s.heap h')(dZ:sr X.prog X.w H' h')(hg:AllBare g')
  (K5:∀b∈ch,(b∈X.ex\/X.s₀.heap.objs.size<=b)/\b≠X.env.locals/\(∀x c,X.env.cells.lookup x=some c->c≠b)/\∀p∈X.pn++pins,p.1≠b):
  Inv X pins σ H' {s with heap:=h',gens:=g',drawn:=d',toks:=t'}:=by
 obtain⟨m,⟨o,es,ep,ho,r⟩,_⟩:=id I.loc
 obtain⟨sl,hL⟩:=u.any ho I.free λz=>(K5 _ z).2.1 rfl
 exact I.step (ch:=ch) K5 (λb o hL hb hc e n=>u.keep b o e n (λz=>(List.mem_cons.mp (I.Bo b z)).elim hL hb) hc) (λb o _ _ hc e n=>u.any e n hc) (λb o hc e n=>u.free b o e n hc) (λb o hc e=>u.there b o e hc) u.vg u.sT u.xf (λm' hm=>by
  obtain⟨o',Vv,Vw,G1,r'⟩:=hm
  rw[ho]at G1;cases G1
  exact⟨_,Vv,Vw,hL,r'⟩) dZ hg
theorem Inv.turned{t':Nat}{it:Addr}(I:Inv X pins σ H s)(k:∀b o,b≠it->s.heap.get? b=some o->h'.get? b=some o)(hn:H it=none)(hL:it≠X.env.locals)
  (h1:it∈X.ex\/X.s₀.heap.objs.size<=it)(h2:∀x c,X.env.cells.lookup x=some c->c≠it)(h3:∀p∈X.pn++pins,p.1≠it):Inv X pins σ H {s with heap:=h',toks:=t'}:=by
 have Nm:∀b u,H b=some u->b≠it:=λb u e z=>by rw[z,hn]at e;cases e
 refine I.step (g':=s.gens) (d':=s.drawn) (ch:=[it]) (λb hb=>?_) (λb o _ _ hc e _=>k b o (λz=>hc (by simp[z])) e) (λb o _ _ hc e _=>⟨o.slots,k b o (λz=>hc (by simp[z])) e⟩) (λ_ _ _ _ n=>n)
  (λb o hc e=>⟨o,k b o (λz=>hc (by simp[z])) e⟩) (λ_ _ e=>e) (λ_ _ _ e=>e) (λb ps e=>⟨#[],by rw[e];simp⟩) (λm hm=>?_) (λb u e=>?_) I.bare
 ·have e:b=it:=by simpa using hb
  subst e
  exact⟨h1,hL,h2,h3⟩
 ·obtain⟨o,es,ep,ho,r⟩:=hm
  exact⟨o,es,ep,k _ o (Ne.symm hL) ho,r⟩
 ·refine(I.dZ b u e).xc (λc v hc q=>k c v ?_ q) (λ_ q=>q) λ_ _ q=>q
  rcases hc with z|z
  ·rw[z];exact Nm b u e
  ·exact Nm c _ z
theorem Inv.tok(I:Inv X pins σ H s)(t:Nat):Inv X pins σ H {s with toks:=t}:=I.un (h':=s.heap) (t':=t) Un.refl I.dZ
theorem Inv.kept{t':Nat}(I:Inv X pins σ H s)(k:∀b u,s.heap.get? b=some u->h'.get? b=some u):Inv X pins σ H {s with heap:=h',toks:=t'}:=I.un (Un.kept k) (I.dZ.kept k)
theorem Inv.laid{a:Addr}{o:HO}{t':Nat}(I:Inv X pins σ H s)(k:∀b u,s.heap.get? b=some u->h'.get? b=some u)(hp:s.heap.objs.size<=a)(new:hU X.prog X.w (upd H a o) h' a o):
 Inv X pins σ (upd H a o) {s with heap:=h',toks:=t'}:=I.un (Un.laid k hp (I.dZ.fresh hp)) (I.dZ.laid k hp new)
theorem Inv.write{x e:Addr}{o:HO}{t':Nat}(I:Inv X pins σ H s)(mu:UG (H x))(he:e=x\/H e=some (.own x))(k:∀b u,b≠e->s.heap.get? b=some u->h'.get? b=some u)(RD:∃u,h'.get? e=some u)
 (new:hU X.prog X.w (upd H x o) h' x o):Inv X pins σ (upd H x o) {s with heap:=h',toks:=t'}:=I.un (Un.write mu he k RD) (I.dZ.write mu he k RD new)
theorem Inv.weak{σ':List (Option V)}(I:Inv X pins σ H s)(hl:σ'.length=σ.length)(w:∀(i:Nat) v,σ'[i]?=some (some v)->σ[i]?=some (some v)):Inv X pins σ' H s:=
 ⟨I.ok,I.os,I.bare,I.base,let⟨m,hn,RE⟩:=I.loc;⟨m,hn,λi x v e1 e2 e3=>RE i x v e1 (w i v e2) e3⟩,I.cell,I.free,I.freeC,I.pin,I.dZ,hl.trans I.len⟩
theorem Inv.fR{oC:List (Addr×Obj)}(I:Inv X pins σ H s)(h:∀p∈oC,s.heap.get? p.1=some p.2/\H p.1=none/\p.1≠X.env.locals/\p.1∉X.fs/\∀v,p.2.data≠.cell v):Inv X oC σ H s:=
 ⟨I.ok,I.os,I.bare,I.base,I.loc,I.cell,I.free,I.freeC,λp hp=>(List.mem_append.mp hp).elim (λz=>I.pin p (List.mem_append_left _ z)) (h p),I.dZ,I.len⟩
theorem zj{N:List Str}(hN:N.Nodup){i j:Nat}{x:Str}(a:N[i]?=some x)(b:N[j]?=some x):i=j:=by
 obtain⟨h1,e1⟩:=List.getElem?_eq_some_iff.mp a
 obtain⟨h2,e2⟩:=List.getElem?_eq_some_iff.mp b
 exact(List.getElem_inj hN).mp (e1.trans e2.symm)
theorem EN{M:Model}{A:Around}{E:Value->Shared->Prop}{i:Nat}{x:Str}{v:V}{u:Value}{Q:Unit->Shared->Prop}(I:Inv X pins σ H s)(hN:X.N.Nodup)(hi:X.N[i]?=some x)(hx:Loc X.env.scope x)(r:RelV v u)
  (h:∀s',Inv X pins (σ.set i (some v)) H s'->(∃a,Heap.SameBut a s.heap s'.heap/\(a=X.env.locals\/X.env.cells.lookup x=some a))->Q () s')(hf:X.fn x=true\/X.env.scope.names.lookup x=some .local:=by first|exact .inl rfl|exact .inr rfl|assumption):wpAny M A (storeName X.env x u) Q E s:=by
 obtain⟨m,hn,hl⟩:=id I.loc
 have Vx:(X.env.scope.kind==.class||(X.env.scope.kind==.module&&X.env.locals !=X.env.globals))=false:=by rw[I.ok.kind];rfl
 have Xz:i<σ.length:=by rw[I.len];exact(List.getElem?_eq_some_iff.mp hi).1
 have Oz:=I.Oz
 have tracked:∀{a:Addr} {h':Heap},(∃o,s.heap.get? a=some o/\H a=none)->Heap.SameBut a s.heap h'->sr X.prog X.w H h':=λ{a h'} ha hs b ob e=>by
  obtain⟨_,_,sU⟩:=ha
  refine(I.dZ b ob e).xc (λc w' hc q=>(hs.2 c ?_).trans q) (λ_ q=>q) λ_ _ q=>q
  rintro rfl
  rcases hc with rfl|hc
  ·rw[sU]at e;cases e
  ·rw[sU]at hc;cases hc
 rcases hx with hk|hk
 ·refine wpAny_storeName_local hk hn (λh' YD hs=>?_) Vx
  obtain⟨oL,_,_,Vy,_⟩:=id hn
  refine h _ ⟨I.ok,I.os,I.bare,⟨λb o e n hb hx=>?_,λb o e n hb hx=>?_,I.base.free,λb o e hx=>?_,I.base.vg,I.base.sT,I.base.xf⟩,⟨_,YD,λj y v' e1 e2 e3=>?_⟩,λy c e=>?_,I.free,I.freeC,λp hp=>?_,tracked ⟨oL,Vy,I.free⟩ hs,by simpa using I.len⟩ ⟨_,hs,.inl rfl⟩
  ·exact(hs.2 b (Nat.ne_of_lt (Nat.lt_of_lt_of_le (Heap.lt_size e) I.ok.above))).trans (I.base.keep b o e n hb hx)
  ·obtain⟨sl,e1⟩:=I.base.slot b o e n hb hx
   exact⟨sl,(hs.2 b (Nat.ne_of_lt (Nat.lt_of_lt_of_le (Heap.lt_size e) I.ok.above))).trans e1⟩
  ·obtain⟨o',e1⟩:=I.base.there b o e hx
   exact⟨o',(hs.2 b (Nat.ne_of_lt (Nat.lt_of_lt_of_le (Heap.lt_size e) I.ok.above))).trans e1⟩
  ·by_cases hj:j=i
   ·subst hj
    rw[hi]at e1;cases e1
    rw[List.getElem?_set_self Xz]at e2
    cases e2
    exact⟨u,r,.inl ⟨hk,by simp⟩⟩
   ·rw[List.getElem?_set_ne (Ne.symm hj)]at e2
    obtain⟨u',r',q⟩:=hl j y v' e1 e2 e3
    refine⟨u',r',?_⟩
    rcases q with⟨k,e⟩|⟨k,c,e,z⟩
    ·refine .inl ⟨k,?_⟩
     have:y≠x:=λe=>hj (zj hN e1 (e▸hi))
     simp[this,e]
    ·exact .inr ⟨k,c,e,z.sameBut hs (Oz y c e)⟩
  ·obtain⟨w',z⟩:=I.cell y c e
   exact⟨w',z.sameBut hs (Oz y c e)⟩
  ·obtain⟨e,n,ne,nf,d⟩:=I.pin p hp
   exact⟨(hs.2 p.1 ne).trans e,n,ne,nf,d⟩
 ·have Vz:X.fn x=true:=by
    rcases hf with z|z
    ·exact z
    ·rw[z]at hk;cases hk
  obtain⟨c,hc⟩:=I.ok.has x (.inl hk)
  obtain⟨w',z⟩:=I.cell x c hc
  refine wpAny_storeName_cell I.ok.kind hk hc z (λh' Sk hs=>?_)
  obtain⟨oc,XA,VA⟩:=id z
  refine h {s with heap:=h'} ⟨I.ok,I.os,I.bare,⟨λb o e n hb hx=>?_,λb o e n hb hx=>?_,I.base.free,λb o e hx=>?_,I.base.vg,I.base.sT,I.base.xf⟩,⟨m,hn.sameBut hs (Ne.symm (Oz x c hc)),λj y v' e1 e2 e3=>?_⟩,λy c' e=>?_,I.free,I.freeC,λp hp=>?_,tracked ⟨oc,XA,I.freeC x c hc⟩ hs,by simpa using I.len⟩ ⟨c,hs,.inr hc⟩
  ·exact(hs.2 b (Nat.ne_of_lt (Nat.lt_of_lt_of_le (Heap.lt_size e) (I.ok.cab x c Vz hc)))).trans (I.base.keep b o e n hb hx)
  ·obtain⟨sl,e1⟩:=I.base.slot b o e n hb hx
   exact⟨sl,(hs.2 b (Nat.ne_of_lt (Nat.lt_of_lt_of_le (Heap.lt_size e) (I.ok.cab x c Vz hc)))).trans e1⟩
  ·obtain⟨o',e1⟩:=I.base.there b o e hx
   exact⟨o',(hs.2 b (Nat.ne_of_lt (Nat.lt_of_lt_of_le (Heap.lt_size e) (I.ok.cab x c Vz hc)))).trans e1⟩
  ·by_cases hj:j=i
   ·subst hj
    rw[hi]at e1;cases e1
    rw[List.getElem?_set_self Xz]at e2
    cases e2
    exact⟨u,r,.inr ⟨.inl hk,c,hc,Sk⟩⟩
   ·rw[List.getElem?_set_ne (Ne.symm hj)]at e2
    obtain⟨u',r',q⟩:=hl j y v' e1 e2 e3
    refine⟨u',r',?_⟩
    rcases q with q|⟨k,c',e,z'⟩
    ·exact .inl q
    ·refine .inr ⟨k,c',e,z'.sameBut hs ?_⟩
     rintro rfl
     exact hj (zj hN e1 (I.ok.inj _ _ _ e hc▸hi))
  ·by_cases XB:c'=c
   ·subst XB;exact⟨_,Sk⟩
   ·obtain⟨w2,z2⟩:=I.cell y c' e
    exact⟨w2,z2.sameBut hs XB⟩
  ·obtain⟨e,n,ne,nf,d⟩:=I.pin p hp
   refine⟨(hs.2 p.1 ?_).trans e,n,ne,nf,d⟩
   intro q
   rw[q,XA]at e
   have q':oc=p.2:=Option.some.inj e
   exact d w' (by rw[<-q'];exact VA)
theorem oE{M:Model}{A:Around}{E:Value->Shared->Prop}{i:Nat}{x:Str}{v:V}{u:Value}{Q:Unit->Shared->Prop}(I:Inv X pins σ H s)(hN:X.N.Nodup)(hi:X.N[i]?=some x)(hx:Loc X.env.scope x)(r:RelV v u)
  (h:∀s',Inv X pins (σ.set i (some v)) H s'->Q () s')(hf:X.fn x=true\/X.env.scope.names.lookup x=some .local:=by first|exact .inl rfl|exact .inr rfl|assumption):wpAny M A (storeName X.env x u) Q E s:=
 EN I hN hi hx r (λs' I' _=>h s' I') hf
theorem Inv.Sl{s':Shared}{ch:List Addr}(I:Inv X pins σ H s)(ho:s'.os=s.os)(u:Un (EM X.stack) ch H H' s.heap s'.heap)(dZ:sr X.prog X.w H' s'.heap)(hg:AllBare s'.gens)
  (K5:∀b∈ch,(b∈X.ex\/X.s₀.heap.objs.size<=b)/\b≠X.env.locals/\(∀x c,X.env.cells.lookup x=some c->c≠b)/\∀p∈X.pn++pins,p.1≠b):Inv X pins σ H' s':=by
 obtain⟨h',g',d',t',o'⟩:=s'
 have e:o'=s.os:=ho
 subst e
 exact I.call (g':=g') (t':=t') (d':=d') u dZ hg K5
end
noncomputable abbrev XK:=Value->Option Addr->Hp->Prop
noncomputable abbrev St:=List (Option V)
noncomputable abbrev VK:=V->Hp->Prop
noncomputable abbrev TE:=St->Hp->VK->Prop
noncomputable abbrev TT:=St->Hp->(Bool->Hp->Prop)->Prop
noncomputable abbrev TA:=St->Hp->(List V->Hp->Prop)->Prop
structure Ends where
 nx:St->Hp->Prop
 rt:VK
 bk:St->Hp->Prop:=λ_ _=>False
 ct:St->Hp->Prop:=λ_ _=>False
noncomputable abbrev TS:=Ends->St->Hp->Prop
noncomputable def EP(X:Cx)(pins:List (Addr×Obj))(σ:St)(Q:VK)(u:Value)(s':Shared):Prop:=∃v H',Inv X pins σ H' s'/\RelV v u/\Q v H'
noncomputable def TP(X:Cx)(pins:List (Addr×Obj))(σ:St)(Q:Bool->Hp->Prop)(b:Bool)(s':Shared):Prop:=∃H',Inv X pins σ H' s'/\Q b H'
noncomputable def AP(X:Cx)(pins:List (Addr×Obj))(σ:St)(Q:List V->Hp->Prop)(us:List Value)(s':Shared):Prop:=∃vs H',Inv X pins σ H' s'/\Vals vs us/\Q vs H'
noncomputable def SP(X:Cx)(pins:List (Addr×Obj))(D:Ends)(f:Flow)(s':Shared):Prop:=
 match f with
 |.next=>∃σ' H',Inv X pins σ' H' s'/\D.nx σ' H'
 |.brk=>∃σ' H',Inv X pins σ' H' s'/\D.bk σ' H'
 |.cont=>∃σ' H',Inv X pins σ' H' s'/\D.ct σ' H'
 |.ret u=>∃v σ' H',Inv X pins σ' H' s'/\RelV v u/\D.rt v H'
noncomputable def PE(X:Cx)(e:Expr)(t:TE):Prop:=
 ∀(pins:List (Addr×Obj)) (s:Shared) (σ:St) (H:Hp) (Q:VK),Inv X pins σ H s->t σ H Q->wpAny (model X.prog X.w) X.A (eval e X.env) (EP X pins σ Q) X.xe s
noncomputable def PT(X:Cx)(e:Expr)(t:TT):Prop:=
 ∀(pins:List (Addr×Obj)) (s:Shared) (σ:St) (H:Hp) (Q:Bool->Hp->Prop),Inv X pins σ H s->t σ H Q->wpAny (model X.prog X.w) X.A (isTrue e X.env (eval e X.env)) (TP X pins σ Q) X.xe s
noncomputable def PW(X:Cx)(e:Expr)(t:TT):Prop:=
 ∀(whole:Sem Value) (pins:List (Addr×Obj)) (s:Shared) (σ:St) (H:Hp) (Q:Bool->Hp->Prop),Inv X pins σ H s->t σ H Q->wpAny (model X.prog X.w) X.A (isTrue e X.env whole) (TP X pins σ Q) X.xe s
theorem PW.pt{X:Cx}{e:Expr}{t:TT}(h:PW X e t):PT X e t:=h _
noncomputable def PA(X:Cx)(es:List Expr)(t:TA):Prop:=
 ∀(pos:Pos) (pins:List (Addr×Obj)) (s:Shared) (σ:St) (H:Hp) (Q:List V->Hp->Prop),Inv X pins σ H s->t σ H Q->wpAny (model X.prog X.w) X.A (spliced (backTo pos (starEach es X.env))) (AP X pins σ Q) X.xe s
noncomputable def PS(X:Cx)(st:Stmt)(t:TS):Prop:=
 ∀(pins:List (Addr×Obj)) (s:Shared) (σ:St) (H:Hp) (D:Ends),Inv X pins σ H s->t D σ H->wpAny (model X.prog X.w) X.A (exec st X.env) (SP X pins D) X.xe s
noncomputable def Bi(X:Cx)(st:List Stmt)(t:TS):Prop:=
 ∀(pins:List (Addr×Obj)) (s:Shared) (σ:St) (H:Hp) (D:Ends),Inv X pins σ H s->t D σ H->wpAny (model X.prog X.w) X.A (execs st X.env) (SP X pins D) X.xe s
theorem de{α:Type}{t:Sem α}{Q Q':α->Shared->Prop}{M:Model}{A:Around}{E:Value->Shared->Prop}{s:Shared}(h:wpAny M A t Q E s)(hQ:∀a s,Q a s->Q' a s):wpAny M A t Q' E s:=wpAny_mono h hQ λ_ _ x=>x
section
variable{X:Cx}
noncomputable def nu(i:Nat):TE:=λσ H Q=>∃v,σ[i]?=some (some v)/\Q v H
noncomputable def tC(v:V):TE:=λ_ H Q=>Q v H
theorem eN{i:Nat}{x:Str}{pos:Pos}(hN:X.N[i]?=some x)(hv:Bh X.env.scope x)(hd:(x==("__debug__" :Str))=false:=by decide)(rh:(x==("__classdict__" :Str))=false:=by decide):PE X (.Name x pos) (nu i):=by
 intro pins s σ H Q I h
 obtain⟨v,e,h⟩:=h
 obtain⟨m,hn,hl⟩:=I.loc
 obtain⟨u,r,l⟩:=hl i x v hN e hv
 have fin:EP X pins σ Q u s:=⟨v,H,I,r,h⟩
 rcases l with⟨hk,hm⟩|⟨hk,c,hc,Df⟩
 ·exact wpAny_Name (wpAny_loadName_local I.ok.kind hk hn hm fin) hd
 ·rcases hk with hk|hk
  ·exact wpAny_Name (wpAny_loadName_cell I.ok.kind hk hc Df fin) hd
  ·exact wpAny_Name (wpAny_loadName_free I.ok.kind hk hc Df fin rh) hd
theorem Bp{i j pos}:PE X (.Constant (.int i) j pos) (tC (.int i)):=λ_ _ _ H _ I h=>wpAny_Constant_int ⟨.int i,H,I.tok _,⟨_,rfl⟩,h⟩
theorem Sn{b j pos}:PE X (.Constant (.bool b) j pos) (tC (.bl b)):=λ_ _ _ H _ I h=>Constant_bool ⟨.bl b,H,I,rfl,h⟩
theorem G2{j pos}:PE X (.Constant .none j pos) (tC .non):=λ_ _ _ H _ I h=>Constant_none ⟨.non,H,I,rfl,h⟩
theorem OA{x j pos}:PE X (.Constant (.str x) j pos) (tC (.str x)):=λ_ _ _ H _ I h=>Calls.Constant_str ⟨.str x,H,I.tok _,⟨_,rfl⟩,h⟩
noncomputable def Gl(X:Cx)(x:Str):Prop:=X.env.kindOf x=some .globalImplicit
theorem su{E:Value->Shared->Prop}{pins:List (Addr×Obj)}{s:Shared}{σ:St}{H:Hp}{x:Str}{u:Value}{pos:Pos}{Q:Value->Shared->Prop}(I:Inv X pins σ H s)(hg:Gl X x)(hm:X.mg x=some u)(h:Q u s)
  (hd:(x==("__debug__" :Str))=false:=by decide):wpAny (model X.prog X.w) X.A (eval (.Name x pos) X.env) Q E s:=
 Calls.Name_function_global I.ok.kind hg (Calls.loadGlobal_global (by rw[I.ok.glob];exact I.mod.glob.keeps I.bk) hm h) hd
theorem lu{E:Value->Shared->Prop}{pins:List (Addr×Obj)}{s:Shared}{σ:St}{H:Hp}{x:Str}{u:Value}{pos:Pos}{Q:Value->Shared->Prop}(I:Inv X pins σ H s)(hg:Gl X x)(hm:X.mg x=none)(hv:bootBuiltins x=some u)(h:Q u s)
  (hn:x≠ "__name__" :=by decide)(hd:(x==("__debug__" :Str))=false:=by decide):wpAny (model X.prog X.w) X.A (eval (.Name x pos) X.env) Q E s:=by
 obtain⟨mb,h1,h2⟩:=I.mod.blt
 exact Calls.Name_function_global I.ok.kind hg (Calls.loadGlobal_builtin (by rw[I.ok.glob];exact I.mod.glob.keeps I.bk) hm (by rw[I.ok.blt];exact h1.keeps I.bk) ((h2 x hn).trans hv) h) hd
theorem mG{x:Str}{v:V}{u:Value}{pos:Pos}(hg:Gl X x)(hm:X.mg x=some u)(r:RelV v u)(hd:(x==("__debug__" :Str))=false:=by decide):PE X (.Name x pos) (tC v):=
 λ_ _ _ H _ I h=>su I hg hm ⟨v,H,I,r,h⟩ hd
theorem Lj{x:Str}{v:V}{u:Value}{pos:Pos}(hg:Gl X x)(hm:X.mg x=none)(hv:bootBuiltins x=some u)(r:RelV v u)(hn:x≠ "__name__" :=by decide)(hd:(x==("__debug__" :Str))=false:=by decide):PE X (.Name x pos) (tC v):=
 λ_ _ _ H _ I h=>lu I hg hm hv ⟨v,H,I,r,h⟩ hn hd
variable{a b:Expr}{ta tb:TE}{pos:Pos}
noncomputable def tB(t:TE):TT:=λσ H Q=>t σ H λx H1=>∃c,x=.bl c/\Q c H1
theorem OB{e:Expr}{t:TE}(h:PE X e t)(he:∀whole,isTrue e X.env whole=(do let v<-whole;standAt e.pos;holding [v] (truthy v)):=by intro _;rfl):PT X e (tB t):=by
 intro pins s σ H Q I hw
 refine isTrue_plain (de (h pins s σ H _ I hw) λv s1 cv=>?_) (he _)
 obtain⟨x,H1,I1,r1,q1⟩:=cv
 obtain⟨d,rfl,q⟩:=q1
 cases r1
 exact wpAny_truthy_bool ⟨H1,I1,q⟩
variable{tA XC:TT}{rest:List Expr}
noncomputable def Bj(t u:TT):TT:=λσ H Q=>t σ H λc H1=>if c=true then Q true H1 else u σ H1 Q
noncomputable def lz(t:TT):TT:=λσ H Q=>t σ H λc H1=>Q (!c) H1
theorem pw_or1(ha:PT X a tA):PW X (.BoolOp .Or [a] pos) tA:=by
 intro wh pins s σ H Q I h
 refine isTrue_or (de (ha pins s σ H Q I h) λc s1 e=>?_)
 cases c with
 |false=>exact isTrue_or_nil e
 |true=>exact e
theorem pw_or(ha:PT X a tA)(hb:PW X (.BoolOp .Or (b::rest) pos) XC):PW X (.BoolOp .Or (a::b::rest) pos) (Bj tA XC):=by
 intro wh pins s σ H Q I h
 refine isTrue_or (de (ha pins s σ H _ I h) λc s1 ⟨H1,I1,q1⟩=>?_)
 cases c with
 |true=>exact⟨H1,I1,q1⟩
 |false=>exact hb wh pins s1 σ H1 Q I1 q1
theorem OC(ha:PT X a tA):PT X (.UnaryOp .Not a pos) (lz tA):=by
 intro pins s σ H Q I h
 exact isTrue_not (ha pins s σ H (λc H1=>Q (!c) H1) I h)
noncomputable def So(ta tb:TE):TE:=λσ H Q=>ta σ H λx H1=>∃c,x=.bl c/\if c=true then tb σ H1 Q else Q (.bl false) H1
noncomputable def Sq(ta:TE):TE:=λσ H Q=>ta σ H λx H1=>∃c,x=.bl c/\Q (.bl (!c)) H1
theorem OD{op}{t:TE}(h:PE X a t):PE X (.BoolOp op [a] pos) t:=λpins s σ H Q I hw=>BoolOp_one (h pins s σ H Q I hw)
theorem OE(ha:PE X a ta)(hb:PE X (.BoolOp .And (b::rest) pos) tb):PE X (.BoolOp .And (a::b::rest) pos) (So ta tb):=by
 intro pins s σ H Q I h
 refine BoolOp_and (de (ha pins s σ H _ I h) λv s1 cv=>?_)
 obtain⟨x,H1,I1,r1,q1⟩:=cv
 obtain⟨c,rfl,q1⟩:=q1
 cases r1
 refine wpAny_truthy_bool ?_
 cases c with
 |true=>exact hb pins s1 σ H1 Q I1 q1
 |false=>exact⟨.bl false,H1,I1,rfl,q1⟩
theorem OF(ha:PE X a ta):PE X (.UnaryOp .Not a pos) (Sq ta):=by
 intro pins s σ H Q I h
 refine UnaryOp_ (de (ha pins s σ H _ I h) λv s1 cv=>?_)
 obtain⟨x,H1,I1,r1,q1⟩:=cv
 obtain⟨c,rfl,q1⟩:=q1
 cases r1
 exact not_of (wpAny_truthy_bool ⟨.bl (!c),H1,I1,rfl,q1⟩)
end
noncomputable def iE(K:PySem.W.Frag)(H:Hp)(a:Addr)(xs:List V):Prop:=
 Rd H a (.lst xs)\/
  ∃(o:Obj) (its:Array Value) (n:Nat),K.lookup a=some o/\o.cls=.type "list" /\o.dict=none/\o.data=.seq its n/\its.size<=sizeLine/\Vals xs its.toList
noncomputable def ll(K:PySem.W.Frag)(H:Hp)(a:Addr)(xs:List V):Prop:=
 Rd H a (.tup xs)\/
  ∃(o:Obj) (its:Array Value) (n:Nat),K.lookup a=some o/\o.cls=.type "tuple" /\o.data=.seq its n/\(its.size<=sizeLine/\o.dict=none)/\Vals xs its.toList
noncomputable def VB:Value->Option V
 |.none=>some .non
 |.bool b=>some (.bl b)
 |.int i _=>some (.int i)
 |.str x _=>some (.str x)
 |.bytes b _=>some (.byt b)
 |.float b _=>some (.flt b)
 |.ref a=>some (.ref a)
 |.type n=>some (.ty n)
 |_=>none
theorem RelV.abs{x:V}{u:Value}(r:RelV x u):VB u=some x:=by
 cases x with
 |non=>cases r;rfl
 |bl _=>cases r;rfl
 |int _=>obtain⟨t,rfl⟩:=r;rfl
 |str _=>obtain⟨t,rfl⟩:=r;rfl
 |byt _=>obtain⟨t,rfl⟩:=r;rfl
 |flt _=>obtain⟨t,rfl⟩:=r;rfl
 |ref _=>cases r;rfl
 |ty _=>cases r;rfl
theorem RelV.inj{x y:V}{u:Value}(r:RelV x u)(q:RelV y u):x=y:=Option.some.inj (r.abs.symm.trans q.abs)
theorem Vals.inj:∀{xs ys:List V} {us:List Value},Vals xs us->Vals ys us->xs=ys
 |_,_,_,.nil,.nil=>rfl
 |_,_,_,.cons r t,.cons r' t'=>by rw[r.inj r',Vals.inj t t']
section
variable{X:Cx}{pins:List (Addr×Obj)}{σ:St}{H:Hp}{s:Shared}{a:Addr}{xs ys:List V}
theorem iE.of{K:PySem.W.Frag}(h:H a=some (.lst xs)):iE K H a xs:=.inl (.inl h)
theorem ll.of{K:PySem.W.Frag}(h:H a=some (.tup xs)):ll K H a xs:=.inl (.inl h)
theorem Inv.list(I:Inv X pins σ H s)(h:iE X.K H a xs):∃its:List Value,Vals xs its/\PlainL s.heap a its.toArray/\xs.length<=sizeLine:=by
 rcases h with h|⟨o,its,n,hk,hc,hd,hs,hz,r⟩
 ·obtain⟨z,its,n,r,e⟩:=h.ok I.dZ
  exact⟨its,r,⟨_,n,e,rfl,rfl,rfl⟩,z⟩
 ·refine⟨its.toList,r,⟨o,n,I.oB a o hk,hc,hd,by simpa using hs⟩,?_⟩
  have e:=r.length
  simp only[Array.length_toList]at e
  omega
theorem Inv.tuple(I:Inv X pins σ H s)(h:ll X.K H a xs):∃its:List Value,Vals xs its/\IsTup s.heap a its.toArray/\xs.length<=sizeLine:=by
 rcases h with h|⟨o,its,n,hk,hc,hs,hz,r⟩
 ·obtain⟨z,its,r,p⟩:=h.ok I.dZ
  exact⟨its,r,p,z.1⟩
 ·refine⟨its.toList,r,⟨o,I.oB a o hk,hc,n,by simpa using hs⟩,?_⟩
  have e:=r.length
  simp only[Array.length_toList]at e
  omega
theorem Inv.OG(I:Inv X pins σ H s)(h:ll X.K H a xs):RC s.heap a:=by
 rcases h with h|⟨o,its,n,hk,hc,hs,hz,r⟩
 ·obtain⟨z,its,r,p⟩:=h.ok I.dZ
  exact z.2
 ·exact⟨o,I.oB a o hk,hz.2⟩
theorem RC.new{h:Heap}{its:Array Value}{n:Nat}:RC (h.push {cls:=.type "tuple",data:=.seq its n}) h.objs.size:=⟨_,Heap.get?_push_size _ rfl,rfl⟩
theorem Inv.lB(I:Inv X pins σ H s)(h:iE X.K H a xs)(h':iE X.K H a ys):xs=ys:=by
 obtain⟨its,r,⟨o,n,e,_,_,d⟩,_⟩:=I.list h
 obtain⟨its',r',⟨o',n',e',_,_,d'⟩,_⟩:=I.list h'
 rw[e]at e';cases e'
 rw[d]at d'
 injection d' with d1 _
 have:its=its':=by simpa using congrArg Array.toList d1
 subst this
 exact r.inj r'
theorem Inv.vL(I:Inv X pins σ H s)(h:ll X.K H a xs)(h':ll X.K H a ys):xs=ys:=by
 obtain⟨its,r,⟨o,e,_,n,d⟩,_⟩:=I.tuple h
 obtain⟨its',r',⟨o',e',_,n',d'⟩,_⟩:=I.tuple h'
 rw[e]at e';cases e'
 rw[d]at d'
 injection d' with d1 _
 have:its=its':=by simpa using congrArg Array.toList d1
 subst this
 exact r.inj r'
end
noncomputable abbrev Cx.vh(X:Cx)(E:Value->Shared->Prop):Cx:={X with xe:=E}
noncomputable abbrev Cx.G3(X:Cx):Cx:=X.vh λ_ _=>False
theorem Cx.Ok.vh{X:Cx}(ok:X.Ok)(E:Value->Shared->Prop):(X.vh E).Ok:=
 ⟨ok.mod,ok.kind,ok.glob,ok.blt,ok.above,ok.inj,ok.has,ok.cab,ok.hd,ok.frames,ok.stk,ok.exf,ok.bs,ok.bsz,ok.noex,ok.exfs,ok.funs,ok.frf⟩
theorem Cx.Ok.lD{X:Cx}{E:Value->Shared->Prop}(ok:(X.vh E).Ok):X.Ok:=
 ⟨ok.mod,ok.kind,ok.glob,ok.blt,ok.above,ok.inj,ok.has,ok.cab,ok.hd,ok.frames,ok.stk,ok.exf,ok.bs,ok.bsz,ok.noex,ok.exfs,ok.funs,ok.frf⟩
section
variable{X:Cx}{pins:List (Addr×Obj)}{σ:St}{H:Hp}{s:Shared}{E:Value->Shared->Prop}
theorem Inv.vh(I:Inv X pins σ H s)(E:Value->Shared->Prop):Inv (X.vh E) pins σ H s:=⟨I.ok.vh E,I.os,I.bare,I.base,I.loc,I.cell,I.free,I.freeC,I.pin,I.dZ,I.len⟩
theorem Inv.lD(I:Inv (X.vh E) pins σ H s):Inv X pins σ H s:=⟨I.ok.lD,I.os,I.bare,I.base,I.loc,I.cell,I.free,I.freeC,I.pin,I.dZ,I.len⟩
theorem SP.lD{D:Ends}{f:Flow}{s':Shared}(h:SP (X.vh E) pins D f s'):SP X pins D f s':=by
 cases f with
 |next=>obtain⟨σ',H',I,q⟩:=h;exact⟨σ',H',I.lD,q⟩
 |brk=>obtain⟨σ',H',I,q⟩:=h;exact⟨σ',H',I.lD,q⟩
 |cont=>obtain⟨σ',H',I,q⟩:=h;exact⟨σ',H',I.lD,q⟩
 |ret u=>obtain⟨v,σ',H',I,r,q⟩:=h;exact⟨v,σ',H',I.lD,r,q⟩
theorem Bi.G3{st:List Stmt}{t:TS}(h:Bi X.G3 st t):Bi X st t:=λpins s σ H D I hw=>
 wpAny_mono (h pins s σ H D (I.vh _) hw) (λ_ _ q=>q.lD) λ_ _ z=>False.elim z
end
section
variable{X:Cx}{st:Stmt}{rest:List Stmt}{t u:TS}{e:Expr}{te:TE}{pos:Pos}
noncomputable def Sr:TS:=λD σ H=>D.nx σ H
noncomputable def OH(t u:TS):TS:=λD σ H=>t {D with nx:=u D} σ H
theorem Dg:Bi X [] Sr:=λ_ _ σ H _ I h=>wpAny_execs_nil ⟨σ,H,I,h⟩
theorem hV(h1:PS X st t)(h2:Bi X rest u):Bi X (st::rest) (OH t u):=by
 intro pins s σ H D I h
 refine wpAny_execs_cons (de (h1 pins s σ H {D with nx:=u D} I h) λf s1 q=>?_)
 cases f with
 |next=>
  obtain⟨σ',H',I',q⟩:=q
  exact h2 pins s1 σ' H' D I' q
 |ret v=>exact q
 |brk=>exact q
 |cont=>exact q
theorem iF(h1:PS X st t):Bi X [st] t:=by
 intro pins s σ H D I h
 refine wpAny_execs_cons (de (h1 pins s σ H D I h) λf s1 q=>?_)
 cases f with
 |next=>exact wpAny_execs_nil q
 |ret v=>exact q
 |brk=>exact q
 |cont=>exact q
noncomputable def OI:TS:=λD σ H=>D.bk σ H
theorem G4:PS X (.Break pos) OI:=λ_ _ σ H _ I h=>wpAny_Break ⟨σ,H,I,h⟩
theorem Inv.quiet{pins:List (Addr×Obj)}{σ:St}{H:Hp}{s:Shared}(I:Inv X pins σ H s):interactive X.env=false:=by simp[interactive,I.ok.kind]
noncomputable def Dh(te:TE):TS:=λD σ H=>te σ H λ_ H1=>D.nx σ H1
theorem ke(he:PE X e te)(hs:swapsWith e none pos.line X.env=pure false:=by rfl):PS X (.Expr e pos) (Dh te):=by
 intro pins s σ H D I h
 exact wpAny_Expr_any (de (he pins s σ H _ I h) λv s1 ⟨x,H1,I1,r1,q1⟩=>⟨σ,H1,I1,q1⟩) I.quiet hs
noncomputable def VC(te:TE):TS:=λD σ H=>te σ H D.rt
theorem lE(he:PE X e te):PS X (.Return (some e) pos) (VC te):=by
 intro pins s σ H D I h
 exact wpAny_Return_some (de (he pins s σ H _ I h) λv s1 ⟨x,H1,I1,r1,q1⟩=>⟨x,σ,H1,I1,r1,q1⟩)
noncomputable def VD(c:TT)(t u:TS):TS:=λD σ H=>c σ H λb H1=>if b=true then t D σ H1 else u D σ H1
theorem Nn{c:Expr}{a b:List Stmt}{tc:TT}(hc:PT X c tc)(ha:Bi X a t)(hb:Bi X b u):PS X (.If c a b pos) (VD tc t u):=by
 intro pins s σ H D I h
 refine wpAny_If (de (hc pins s σ H _ I h) λd s1 ⟨H1,I1,q1⟩=>?_)
 cases d with
 |true=>exact ha pins s1 σ H1 D I1 q1
 |false=>exact hb pins s1 σ H1 D I1 q1
noncomputable def OJ:TS:=λ_ _ _=>False
theorem zk:PS X st OJ:=λ_ _ _ _ _ _ h=>h.elim
end
noncomputable abbrev TG:=V->St->Hp->(St->Hp->Prop)->Prop
noncomputable abbrev OK:=List V->St->Hp->(St->Hp->Prop)->Prop
noncomputable def PG(X:Cx)(target:Expr)(t:TG):Prop:=
 ∀(pins:List (Addr×Obj)) (s:Shared) (σ:St) (H:Hp) (v:V) (u:Value) (Q:St->Hp->Prop),Inv X pins σ H s->RelV v u->t v σ H Q->
  wpAny (model X.prog X.w) X.A (assign target X.env u) (λ_ s'=>∃σ' H',Inv X pins σ' H' s'/\Q σ' H') X.xe s
noncomputable def UJ(X:Cx)(ts:List Expr)(t:OK):Prop:=
 ∀(pins:List (Addr×Obj)) (s:Shared) (σ:St) (H:Hp) (vs:List V) (us:List Value) (Q:St->Hp->Prop),Inv X pins σ H s->Vals vs us->t vs σ H Q->
  wpAny (model X.prog X.w) X.A (assignInOrder ((assignEach ts X.env).map (·.2)) us) (λ_ s'=>∃σ' H',Inv X pins σ' H' s'/\Q σ' H') X.xe s
noncomputable abbrev VE:=V->V->Hp->VK->Prop
noncomputable def YE(X:Cx)(op:Operator)(t:VE):Prop:=
 ∀(pins:List (Addr×Obj)) (s:Shared) (σ:St) (H:Hp) (x y:V) (v u:Value) (Q:VK),Inv X pins σ H s->RelV x v->RelV y u->t x y H Q->
  wpAny (model X.prog X.w) X.A (inplaceOp op v u) (EP X pins σ Q) X.xe s
section
variable{X:Cx}{pos:Pos}
noncomputable def Np(i:Nat):TG:=λv σ H Q=>Q (σ.set i (some v)) H
theorem Lk{i:Nat}{x:Str}(hN:X.N.Nodup)(hi:X.N[i]?=some x)(hx:Loc X.env.scope x)(hf:X.fn x=true\/X.env.scope.names.lookup x=some .local:=by first|exact .inl rfl|exact .inr rfl|assumption):PG X (.Name x pos) (Np i):=by
 intro pins s σ H v u Q I r h
 exact wpAny_assign_Name (oE I hN hi hx r (λs' I'=>⟨_,H,I',h⟩) hf)
noncomputable def VF:OK:=λvs σ H Q=>vs=[]/\Q σ H
noncomputable def Ss(t:TG)(u:OK):OK:=λvs σ H Q=>∃v r,vs=v::r/\t v σ H λσ' H'=>u r σ' H' Q
theorem Ll:UJ X [] VF:=by
 intro pins s σ H vs us Q I r h
 obtain⟨e,h⟩:=h
 subst e
 cases r
 exact assignInOrder_nil ⟨σ,H,I,h⟩
theorem zm{e:Expr}{es:List Expr}{t:TG}{u:OK}(h1:PG X e t)(h2:UJ X es u)
  (hs:(assignEach (e::es) X.env).map (·.2)=assign e X.env::(assignEach es X.env).map (·.2):=by rfl):UJ X (e::es) (Ss t u):=by
 intro pins s σ H vs us Q I r h
 obtain⟨v,vr,e1,h⟩:=h
 subst e1
 cases r with
 |cons r rr=>
  rw[hs]
  refine assignInOrder_cons (de (h1 pins s σ H _ _ _ I r h) λ_ s1 cv=>?_)
  obtain⟨σ1,H1,I1,q1⟩:=cv
  exact h2 pins s1 σ1 H1 _ _ Q I1 rr q1
noncomputable def VG(K:PySem.W.Frag)(n:Nat)(t:OK):TG:=λv σ H Q=>∃a xs,v=.ref a/\ll K H a xs/\xs.length=n/\t xs σ H Q
theorem OL{es:List Expr}{k:Nat}{t:OK}{n:Nat}(hc:X.calm=true)(h:UJ X es t)
  (hn:(assignEach es X.env).length=n:=by rfl)(ri:(assignEach es X.env).findIdx? (·.1)=none:=by rfl):PG X (.Tuple es k pos) (VG X.K n t):=by
 intro pins s σ H v u Q I r hw
 obtain⟨a,xs,e1,hq,hl,hw⟩:=hw
 subst e1
 cases r
 obtain⟨its,rv,ht,hz⟩:=I.tuple hq
 refine assign_Tuple_tuple (I.ok.hd hc) ht (by simp[hn,<-hl,rv.length]) ri λh' hx=>?_
 have I1:Inv X pins σ H {s with heap:=h'}:=I.kept (t':=s.toks) λb o e=>hx b o (Nat.ne_of_lt (Heap.lt_size e)) e
 exact h pins _ σ H xs _ Q I1 (by simpa using rv) hw
noncomputable def VH(te:TE)(g:TG):TS:=λD σ H=>te σ H λx H1=>g x σ H1 D.nx
theorem nv{i:Nat}{x:Str}{e:Expr}{te:TE}{pos':Pos}(hN:X.N.Nodup)(hi:X.N[i]?=some x)(hx:Loc X.env.scope x)(he:PE X e te)(hs:swapsWith e (some (.Name x pos')) pos.line X.env=pure false:=by rfl)(hf:X.fn x=true\/X.env.scope.names.lookup x=some .local:=by first|exact .inl rfl|exact .inr rfl|assumption):
  PS X (.Assign [.Name x pos'] e pos) (VH te (Np i)):=by
 intro pins s σ H D I h
 refine wpAny_Assign_Name (de (he pins s σ H _ I h) λv s1 cv=>?_) hs
 obtain⟨y,H1,I1,r1,q1⟩:=cv
 exact oE I1 hN hi hx r1 (λs2 I2=>⟨_,H1,I2,q1⟩) hf
noncomputable def VI(i:Nat)(te:TE)(ti:VE):TS:=λD σ H=>∃x,σ[i]?=some (some x)/\te σ H λy H1=>ti x y H1 λz H2=>D.nx (σ.set i (some z)) H2
theorem OM{i:Nat}{x:Str}{e:Expr}{te:TE}{op:Operator}{ti:VE}{pos':Pos}(hN:X.N.Nodup)(hi:X.N[i]?=some x)(hx:Loc X.env.scope x)(he:PE X e te)(ho:YE X op ti)(hf:X.fn x=true\/X.env.scope.names.lookup x=some .local:=by first|exact .inl rfl|exact .inr rfl|assumption):
  PS X (.AugAssign (.Name x pos') op e pos) (VI i te ti):=by
 intro pins s σ H D I h
 obtain⟨v,e1,h⟩:=h
 obtain⟨m,hn,hl⟩:=I.loc
 have K7:Bh X.env.scope x:=by rcases hx with k|k;exact .inl k;exact .inr (.inl k)
 obtain⟨u,r,l⟩:=hl i x v hi e1 K7
 refine wpAny_AugAssign_Name ?_
 have go:wpAny (model X.prog X.w) X.A (eval e X.env) (λw s₂=>wpAny (model X.prog X.w) X.A (inplaceOp op u w) (λr s₃=>wpAny (model X.prog X.w) X.A (storeName X.env x r) (λ_=>SP X pins D .next) X.xe s₃) X.xe s₂) X.xe s:=by
  refine de (he pins s σ H _ I h) λw s1 cv=>?_
  obtain⟨y,H1,I1,r1,q1⟩:=cv
  refine de (ho pins s1 σ H1 v y u w _ I1 r r1 q1) λz s2 cv=>?_
  obtain⟨zv,H2,I2,r2,q2⟩:=cv
  exact oE I2 hN hi hx r2 (λs3 I3=>⟨_,H2,I3,q2⟩) hf
 rcases l with⟨hk,hm⟩|⟨hk,c,hc,Df⟩
 ·exact wpAny_loadName_local I.ok.kind hk hn hm go
 ·rcases hk with hk|hk
  ·exact wpAny_loadName_cell I.ok.kind hk hc Df go
  ·rcases hx with k|k
   ·have:X.env.scope.names.lookup x=some .free:=hk
    rw[k]at this;cases this
   ·have:X.env.scope.names.lookup x=some .free:=hk
    rw[k]at this;cases this
end
section
variable{X:Cx}{pos:Pos}
noncomputable def ON(c:TT)(tb:TS):TS:=λD σ H=>∃W:Nat->St->Hp->Prop,(∃m,W m σ H)/\∀m σ H,W m σ H->
 c σ H λb H1=>if b=true then∃N:St->Hp->Prop,(∀σ' H',N σ' H'->∃m',m'<m/\W m' σ' H')/\tb {D with nx:=N,ct:=N,bk:=D.nx} σ H1 else D.nx σ H1
theorem zo{c:Expr}{body:List Stmt}{tc:TT}{tb:TS}(hp:PassesOwn (model X.prog X.w) X.A X.env X.xe)(hc:PT X c tc)(hb:Bi X body tb):PS X (.While c body [] pos) (ON tc tb):=by
 intro pins s σ H D I h
 obtain⟨W,⟨m0,w0⟩,turn⟩:=h
 refine wpAny_While (codeAny_whileLoop (λn s'=>∃σ' H',Inv X pins σ' H' s'/\W n σ' H') ?_ m0 ⟨σ,H,I,w0⟩)
 rintro n s1 ⟨σ1,H1,I1,w1⟩
 refine wpAny_passesOwn hp (de (hc pins s1 σ1 H1 _ I1 (turn n σ1 H1 w1)) λb s2 ⟨H2,I2,q2⟩=>?_)
 cases b with
 |true=>
  obtain⟨N,hN,q2⟩:=q2
  rw[if_pos rfl]
  refine wpAny_passesOwn hp (de (hb pins s2 σ1 H2 _ I2 q2) λf s3 q3=>?_)
  cases f with
  |next=>
   obtain⟨σ3,H3,I3,n3⟩:=q3
   obtain⟨m',hm,w3⟩:=hN σ3 H3 n3
   exact⟨m',hm,σ3,H3,I3,w3⟩
  |cont=>
   obtain⟨σ3,H3,I3,n3⟩:=q3
   obtain⟨m',hm,w3⟩:=hN σ3 H3 n3
   exact⟨m',hm,σ3,H3,I3,w3⟩
  |brk=>exact q3
  |ret v=>exact q3
 |false=>
  rw[if_neg Bool.false_ne_true]
  exact wpAny_execs_nil ⟨σ1,H2,I2,q2⟩
end
structure It where
 go:Nat->Hp->Prop
 yld:Nat->Hp->V->Hp->Prop
 stop:Nat->Hp->Prop
noncomputable def qi(X:Cx)(pins:List (Addr×Obj))(H:Hp)(b:Addr):Prop:=
 H b=none/\b≠X.env.locals/\b∉X.fs/\(b∈X.ex\/X.s₀.heap.objs.size<=b)/\(∀x c,X.env.cells.lookup x=some c->c≠b)/\∀p∈X.pn++pins,p.1≠b
theorem Inv.EO{X:Cx}{pins:List (Addr×Obj)}{σ:St}{H H':Hp}{s:Shared}{b:Addr}(I:Inv X pins σ H s)(hb:s.heap.objs.size<=b)(hn:H' b=none):qi X pins H' b:=by
 refine⟨hn,Nat.ne_of_gt (Nat.lt_of_lt_of_le I.lt hb),I.Li hb,.inr (Nat.le_trans I.sz hb),λx c e z=>?_,λp hp z=>?_⟩
 ·obtain⟨v,q⟩:=I.cell x c e
  exact absurd (Nat.lt_of_lt_of_le q.lt (by rw[z];exact hb)) (Nat.lt_irrefl _)
 ·exact absurd (Nat.lt_of_lt_of_le (Heap.lt_size (I.pin p hp).1) (by rw[z];exact hb)) (Nat.lt_irrefl _)
structure Turn(P:Program)(w:World)(K:PySem.W.Frag)(tg:Expr)(J:It)(fp:List Addr)(it:Addr)(tn:Nat->Heap->Prop):Prop where
 mem:it∈fp
 obj:∀i h,tn i h->∀b∈fp,∃o,h.get? b=some o/\∀v,o.data≠.cell v
 keep:∀i h h',tn i h->(∀b∈fp,∀o,h.get? b=some o->h'.get? b=some o)->tn i h'
 item:∀(X:Cx),X.prog=P->X.w=w->X.K=K->X.calm=true->∀(i:Nat) (pins:List (Addr×Obj)) (s:Shared) (σ:St) (H:Hp) (E:Value->Shared->Prop),Inv X pins σ H s->(∀b∈fp,qi X pins H b)->tn i s.heap->J.go i H->
  wpAny (model P w) X.A (pyNext (.ref it)) (λr s1=>∃u,r=some u/\
   wpAny (model P w) X.A (letOwnedTupleGo tg (.ref it) u) (λ_ s2=>∃x H',Inv X pins σ H' s2/\RelV x u/\J.yld i H x H'/\tn (i+1) s2.heap/\∀b∈fp,H' b=none) E s1) E s
 done:∀(X:Cx),X.prog=P->X.w=w->X.K=K->X.calm=true->∀(i:Nat) (pins:List (Addr×Obj)) (s:Shared) (σ:St) (H:Hp) (E:Value->Shared->Prop),Inv X pins σ H s->(∀b∈fp,qi X pins H b)->tn i s.heap->J.stop i H->
  wpAny (model P w) X.A (pyNext (.ref it)) (λr s1=>r=none/\Inv X pins σ H s1) E s
 self:∀(A:Around) (i:Nat) (s:Shared) (Q:Value->Shared->Prop) (E:Value->Shared->Prop),tn i s.heap->Q (.ref it) s->wpAny (model P w) A (pyIter (.ref it)) Q E s
noncomputable abbrev TI:=St->Hp->(It->Hp->Prop)->Prop
noncomputable def XD(X:Cx)(pins:List (Addr×Obj))(σ:St)(tg:Expr)(R:It->Hp->Prop)(VJ:Value)(s2:Shared):Prop:=
 ∃(it:Addr) (fp:List Addr) (tn:Nat->Heap->Prop) (J:It) (H':Hp),VJ=.ref it/\Inv X pins σ H' s2/\Turn X.prog X.w X.K tg J fp it tn/\tn 0 s2.heap/\(∀b∈fp,qi X pins H' b)/\R J H'
noncomputable def PI(X:Cx)(tg iter:Expr)(wi:TI):Prop:=
 ∀(pins:List (Addr×Obj)) (s:Shared) (σ:St) (H:Hp) (R:It->Hp->Prop),Inv X pins σ H s->wi σ H R->
  wpAny (model X.prog X.w) X.A (eval iter X.env) (λv s1=>wpAny (model X.prog X.w) X.A (pyIter v) (XD X pins σ tg R) X.xe s1) X.xe s
theorem Di{M:Model}{A:Around}{E:Value->Shared->Prop}{s:Shared}{tg:Expr}{it:Addr}{u:Value}{o:Obj}{n:String}{vs:Array Value}{Q:Unit->Shared->Prop}(ho:s.heap.get? it=some o)(hc:o.cls=.type n)(hd:o.data=.fields vs)
  (hn:["enumerate","zip","dict_itemiterator","dict_reverseitemiterator","odict_iterator","itertools.zip_longest","itertools.pairwise"].contains n=false)(hQ:Q () s):wpAny M A (letOwnedTupleGo tg (.ref it) u) Q E s:=by
 unfold letOwnedTupleGo
 cases tg<;>first
  |exact wpAny_pure hQ
  |(cases u<;>first
     |exact wpAny_pure hQ
     |(refine wpAny_bind (wpAny_load ho ?_)
       rw[hc,hd]
       show wpAny M A (if(["enumerate","zip","dict_itemiterator","dict_reverseitemiterator","odict_iterator","itertools.zip_longest","itertools.pairwise"].contains n&&vs[0]?==some (rawInt _))=true then _ else _) Q E s
       rw[if_neg (by intro h;rw[hn,Bool.false_and]at h;cases h)]
       exact wpAny_pure hQ))
noncomputable def VL(K:PySem.W.Frag)(a:Addr):It:=
 ⟨λi H=>∃xs x,iE K H a xs/\xs[i]?=some x,λi H x H'=>H'=H/\∀xs,iE K H a xs->xs[i]?=some x,λi H=>∃xs,iE K H a xs/\xs.length<=i⟩
noncomputable def VM(K:PySem.W.Frag)(a:Addr):It:=
 ⟨λi H=>∃xs x,ll K H a xs/\xs[i]?=some x,λi H x H'=>H'=H/\∀xs,ll K H a xs->xs[i]?=some x,λi H=>∃xs,ll K H a xs/\xs.length<=i⟩
noncomputable def Su(lo:Int)(n:Nat):It:=⟨λi _=>i<n,λi H x H'=>H'=H/\x=.int (lo+i),λi _=>n<=i⟩
theorem ER{P:Program}{w:World}{K:PySem.W.Frag}{tg:Expr}(a it:Addr):Turn P w K tg (VL K a) [it] it (λi h=>h.IsListIter it a i) where
 mem:=by simp
 obj:=λi h st b hb=>by
  have e:b=it:=by simpa using hb
  subst e
  obtain⟨o,e,c,d⟩:=st
  exact⟨o,e,λv z=>by rw[d]at z;cases z⟩
 keep:=λi h h' st k=>st.at λo e=>k it (by simp) o e
 item:=by
  intro X hP hw hK hc i pins s σ H E I hf st hg
  subst hP hw hK
  obtain⟨xs,x,hq,hx⟩:=hg
  obtain⟨its,rv,p,hz⟩:=I.list hq
  obtain⟨u,hu,ru⟩:=rv.get hx
  obtain⟨f0,f1,f2,f3,f4,f5⟩:=hf it (by simp)
  refine wpAny_pyNext_list_item st p.isList (x:=u) (by simpa using hu) λh' aV sb=>?_
  have I1:Inv X pins σ H {s with heap:=h'}:=I.turned (t':=s.toks) (λb o hb e=>(sb.2 b hb).trans e) f0 f1 f3 f4 f5
  obtain⟨o,e,c,d⟩:=id aV
  exact⟨u,rfl,Di (s:={s with heap:=h'}) e c d (by decide) ⟨x,H,I1,ru,⟨rfl,λys hy=>by rw[I.lB hy hq];exact hx⟩,aV,λb hb=>(hf b hb).1⟩⟩
 done:=by
  intro X hP hw hK hc i pins s σ H E I hf st hg
  subst hP hw hK
  obtain⟨xs,hq,hx⟩:=hg
  obtain⟨its,rv,p,hz⟩:=I.list hq
  obtain⟨f0,f1,f2,f3,f4,f5⟩:=hf it (by simp)
  have hl:=rv.length
  exact wpAny_pyNext_list_end (I.ok.hd hc) st p.isList (by simp;omega) λh' eb=>⟨rfl,I.turned (t':=s.toks) (λb o hb e=>eb b o hb e) f0 f1 f3 f4 f5⟩
 self:=λ_ _ _ _ _ st h=>wpAny_pyIter_listiter st h
theorem Bq{P:Program}{w:World}{K:PySem.W.Frag}{tg:Expr}(a it:Addr):Turn P w K tg (VM K a) [it] it (λi h=>h.IsTupleIter it a i) where
 mem:=by simp
 obj:=λi h st b hb=>by
  have e:b=it:=by simpa using hb
  subst e
  obtain⟨o,e,c,d⟩:=st
  exact⟨o,e,λv z=>by rw[d]at z;cases z⟩
 keep:=λi h h' st k=>st.at λo e=>k it (by simp) o e
 item:=by
  intro X hP hw hK hc i pins s σ H E I hf st hg
  subst hP hw hK
  obtain⟨xs,x,hq,hx⟩:=hg
  obtain⟨its,rv,p,hz⟩:=I.tuple hq
  obtain⟨u,hu,ru⟩:=rv.get hx
  obtain⟨f0,f1,f2,f3,f4,f5⟩:=hf it (by simp)
  refine wpAny_pyNext_tuple_item st (show s.heap.IsTuple a its.toArray from p) (x:=u) (by simpa using hu) λh' aV sb=>?_
  have I1:Inv X pins σ H {s with heap:=h'}:=I.turned (t':=s.toks) (λb o hb e=>(sb.2 b hb).trans e) f0 f1 f3 f4 f5
  obtain⟨o,e,c,d⟩:=id aV
  exact⟨u,rfl,Di (s:={s with heap:=h'}) e c d (by decide) ⟨x,H,I1,ru,⟨rfl,λys hy=>by rw[I.vL hy hq];exact hx⟩,aV,λb hb=>(hf b hb).1⟩⟩
 done:=by
  intro X hP hw hK hc i pins s σ H E I hf st hg
  subst hP hw hK
  obtain⟨xs,hq,hx⟩:=hg
  obtain⟨its,rv,p,hz⟩:=I.tuple hq
  obtain⟨f0,f1,f2,f3,f4,f5⟩:=hf it (by simp)
  have hl:=rv.length
  exact wpAny_pyNext_tuple_end (I.ok.hd hc) st (show s.heap.IsTuple a its.toArray from p) (by simp;omega) λh' eb=>⟨rfl,I.turned (t':=s.toks) (λb o hb e=>eb b o hb e) f0 f1 f3 f4 f5⟩
 self:=λ_ _ _ _ _ st h=>wpAny_pyIter_tupleiter st h
theorem Br{P:Program}{w:World}{K:PySem.W.Frag}{tg:Expr}(it:Addr)(lo:Int)(n:Nat):Turn P w K tg (Su lo n) [it] it (λi h=>IsRangeIter h it (lo+(i:Nat)*1) ((n:Int)-(i:Nat)) 1) where
 mem:=by simp
 obj:=λi h st b hb=>by
  have e:b=it:=by simpa using hb
  subst e
  exact⟨_,st,λv z=>by
   have z':Data.fields _=Data.cell v:=z
   cases z'⟩
 keep:=λi h h' st k=>k it (by simp) _ st
 item:=by
  intro X hP hw hK hc i pins s σ H E I hf st hg
  subst hP hw hK
  obtain⟨f0,f1,f2,f3,f4,f5⟩:=hf it (by simp)
  have W:=Walks.range (prog:=X.prog) (w:=X.w) (I.ok.hd hc) it lo 1 n
  refine W.item i s _ _ hg st λv h' tk hv aV kk=>?_
  obtain⟨t,rfl⟩:=hv
  have I1:Inv X pins σ H {s with heap:=h',toks:=tk}:=I.turned (λb o hb e=>kk b o (by simpa using hb) e) f0 f1 f3 f4 f5
  refine⟨_,rfl,Di (s:={s with heap:=h',toks:=tk}) (n:= "range_iterator") aV rfl rfl (by decide) ⟨.int (lo+i),H,I1,⟨t,?_⟩,⟨rfl,rfl⟩,aV,λb hb=>(hf b hb).1⟩⟩
  rw[Int.mul_one]
 done:=by
  intro X hP hw hK hc i pins s σ H E I hf st hg
  subst hP hw hK
  obtain⟨f0,f1,f2,f3,f4,f5⟩:=hf it (by simp)
  exact wpAny_pyNext_range_end (I.ok.hd hc) st (by have:n<=i:=hg;omega) λh' eb=>⟨rfl,I.turned (t':=s.toks) (λb o hb e=>eb b o hb e) f0 f1 f3 f4 f5⟩
 self:=λ_ _ _ _ _ st h=>wpAny_pyIter_rangeiter st h
section
variable{X:Cx}{tg:Expr}
noncomputable def Sv(K:PySem.W.Frag)(tl:TE):TI:=λσ H R=>tl σ H λx H1=>∃a,x=.ref a/\(∃xs,iE K H1 a xs)/\R (VL K a) H1
noncomputable def VN(K:PySem.W.Frag)(tl:TE):TI:=λσ H R=>tl σ H λx H1=>∃a,x=.ref a/\(∃xs,ll K H1 a xs)/\R (VM K a) H1
theorem Dj{l:Expr}{tl:TE}(hl:PE X l tl):PI X tg l (Sv X.K tl):=by
 intro pins s σ H R I h
 refine de (hl pins s σ H _ I h) λv s1 cv=>?_
 obtain⟨x,H1,I1,r1,q1⟩:=cv
 obtain⟨a,e,⟨xs,hq⟩,q⟩:=q1
 subst e
 cases r1
 obtain⟨its,rv,p,hz⟩:=I1.list hq
 refine wpAny_pyIter_list p.isList ?_
 refine⟨s1.heap.objs.size,[s1.heap.objs.size],_,_,H1,rfl,I1.kept (t':=s1.toks) λb o e=>Heap.get?_push_of_some _ e,ER a _,⟨_,Heap.get?_push_size _ rfl,rfl,rfl⟩,λb hb=>?_,q⟩
 have e:b=s1.heap.objs.size:=by simpa using hb
 subst e
 exact I1.EO (Nat.le_refl _) (I1.dZ.fresh (Nat.le_refl _))
theorem OO{l:Expr}{tl:TE}(hl:PE X l tl):PI X tg l (VN X.K tl):=by
 intro pins s σ H R I h
 refine de (hl pins s σ H _ I h) λv s1 cv=>?_
 obtain⟨x,H1,I1,r1,q1⟩:=cv
 obtain⟨a,e,⟨xs,hq⟩,q⟩:=q1
 subst e
 cases r1
 obtain⟨its,rv,p,hz⟩:=I1.tuple hq
 refine wpAny_pyIter_tuple (show s1.heap.IsTuple a its.toArray from p) ?_
 refine⟨s1.heap.objs.size,[s1.heap.objs.size],_,_,H1,rfl,I1.kept (t':=s1.toks) λb o e=>Heap.get?_push_of_some _ e,Bq a _,⟨_,Heap.get?_push_size _ rfl,rfl,rfl⟩,λb hb=>?_,q⟩
 have e:b=s1.heap.objs.size:=by simpa using hb
 subst e
 exact I1.EO (Nat.le_refl _) (I1.dZ.fresh (Nat.le_refl _))
theorem G5{pins:List (Addr×Obj)}{σ:St}{H:Hp}{s:Shared}{R:It->Hp->Prop}{E:Value->Shared->Prop}{lo hi:Int}{t u v:Tok}{tk:Nat}(I:Inv X pins σ H s)(h1:-(2^62)<=lo)(h2:lo<2^62)(h3:-(2^62)<=hi)(h4:hi<2^62)
  (q:R (Su lo (hi-lo).toNat) H):wpAny (model X.prog X.w) X.A (pyIter (.ref s.heap.objs.size)) (XD X pins σ tg R) E {s with heap:=s.heap.push {cls:=.type "range",data:=.fields #[.int lo t,.int hi u,.int 1 v]},toks:=tk}:=by
 refine wpAny_pyIter_range (IsRange.new ..) (small_one h1 h2 h3 h4) ?_
 have I1:Inv X pins σ H {s with heap:=s.heap.push {cls:=.type "range",data:=.fields #[.int lo t,.int hi u,.int 1 v]},toks:=tk}:=I.kept λb o e=>Heap.get?_push_of_some _ e
 refine⟨(s.heap.push {cls:=.type "range",data:=.fields #[.int lo t,.int hi u,.int 1 v]}).objs.size,[(s.heap.push {cls:=.type "range",data:=.fields #[.int lo t,.int hi u,.int 1 v]}).objs.size],_,_,H,rfl,
  I1.kept (t':=tk) λb o e=>Heap.get?_push_of_some _ e,Br _ lo (hi-lo).toNat,?_,λb hb=>?_,q⟩
 ·have e1:lo+((0:Nat):Int)*1=lo:=by simp
  have e2:(((hi-lo).toNat:Nat):Int)-((0:Nat):Int)=Builtin.Range.rangeSize lo hi 1:=by rw[rangeSize_one];split<;>omega
  show IsRangeIter _ _ (lo+((0:Nat):Int)*1) ((((hi-lo).toNat:Nat):Int)-((0:Nat):Int)) 1
  rw[e1,e2]
  exact Heap.get?_push_size _ rfl
 ·have e:b=(s.heap.push {cls:=.type "range",data:=.fields #[.int lo t,.int hi u,.int 1 v]}).objs.size:=by simpa using hb
  subst e
  exact I1.EO (Nat.le_refl _) (I1.dZ.fresh (Nat.le_refl _))
noncomputable def Nq(ta:TA):TI:=λσ H R=>ta σ H λvs H1=>∃j:Int,vs=[.int j]/\-(2^62)<=j/\j<2^62/\R (Su 0 j.toNat) H1
theorem vM{a:Expr}{ta:TA}{p pos:Pos}(hg:Gl X "range")(hm:X.mg "range" =none)(ha:PA X [a] ta)(hs:starEach [a] X.env=[(false,eval a X.env)]:=by rfl):PI X tg (.Call (.Name "range" p) [a] [] pos) (Nq ta):=by
 intro pins s σ H R I h
 refine Call_ (lu I hg hm boot_range (PyProof.Rows.callWith_type1 (de (ha pos pins s σ H _ I h) λus s1 cv=>?_) hs rfl))
 obtain⟨vs,H1,I1,r1,q1⟩:=cv
 obtain⟨j,e,q1,q2,q⟩:=q1
 subst e
 cases r1 with
 |cons r rr=>
  cases rr
  obtain⟨t,rfl⟩:=r
  exact call_range_1 (G5 I1 (by omega) (by omega) q1 q2 (by simpa using q))
noncomputable def VO(wi:TI)(g:TG)(tb:TS):TS:=λD σ H=>wi σ H λJ H1=>∃W:Nat->Nat->St->Hp->Prop,(∃m,W 0 m σ H1)/\∀i m σ H,W i m σ H->
 (J.stop i H/\D.nx σ H)\/(J.go i H/\∃N:St->Hp->Prop,(∀σ' H',N σ' H'->∃m',m'<m/\W (i+1) m' σ' H')/\∀x H',J.yld i H x H'->g x σ H' λσ2 H2=>tb {D with nx:=N,ct:=N,bk:=D.nx} σ2 H2)
noncomputable def kf(fp:List Addr)(h:Heap):List (Addr×Obj):=fp.filterMap λb=>(h.get? b).map λo=>(b,o)
theorem kg{fp:List Addr}{h:Heap}{b:Addr}{o:Obj}(hb:b∈fp)(e:h.get? b=some o):(b,o)∈kf fp h:=List.mem_filterMap.mpr ⟨b,hb,by rw[e];rfl⟩
theorem vN{fp:List Addr}{h:Heap}{p:Addr×Obj}(hp:p∈kf fp h):p.1∈fp/\h.get? p.1=some p.2:=by
 obtain⟨b,hb,e⟩:=List.mem_filterMap.mp hp
 cases q:h.get? b with
 |none=>rw[q]at e;cases e
 |some o=>
  rw[q]at e
  have e':(b,o)=p:=Option.some.inj e
  subst e'
  exact⟨hb,q⟩
theorem Inv.pinned{pins:List (Addr×Obj)}{σ:St}{H:Hp}{s:Shared}{fp:List Addr}(I:Inv X pins σ H s)(hf:∀b∈fp,qi X pins H b)(ho:∀b∈fp,∃o,s.heap.get? b=some o/\∀v,o.data≠.cell v):Inv X (pins++kf fp s.heap) σ H s:=
 I.fR λp hp=>(List.mem_append.mp hp).elim (λz=>I.pin p (List.mem_append_right _ z)) λz=>by
  obtain⟨hb,e⟩:=vN z
  obtain⟨f0,f1,f2,_⟩:=hf p.1 hb
  obtain⟨o,e',d⟩:=ho p.1 hb
  rw[e]at e';cases e'
  exact⟨e,f0,f1,f2,d⟩
theorem Inv.oF{pins pl:List (Addr×Obj)}{σ:St}{H:Hp}{s:Shared}(I:Inv X (pins++pl) σ H s):Inv X pins σ H s:=I.fR λp hp=>I.pin p (List.mem_append_right _ (List.mem_append_left _ hp))
theorem OP{iter:Expr}{body:List Stmt}{wi:TI}{g:TG}{tb:TS}{pos:Pos}(hp:PassesOwn (model X.prog X.w) X.A X.env X.xe)(hc:X.calm=true)(hi:PI X tg iter wi)(hg:PG X tg g)(hb:Bi X body tb)
  (hs:∀x,foldedSetIterable iter X.env x=pure x:=by intro _;rfl):PS X (.For tg iter body [] pos) (VO wi g tb):=by
 intro pins s σ H D I h
 refine wpAny_For (de (hi pins s σ H _ I h) λv s1 h1=>de h1 λVJ s2 h2=>?_) hs
 obtain⟨it,fp,tn,J,H2,e,I2,T,bX,f2,W,⟨m0,w0⟩,turn⟩:=h2
 subst e
 have OQ:∀{H':Hp},(∀b∈fp,H' b=none)->∀b∈fp,qi X pins H' b:=λhn b hb=>⟨hn b hb,(f2 b hb).2⟩
 refine codeAny_forLoop_any (λn s'=>∃i σ' H',Inv X pins σ' H' s'/\tn i s'.heap/\(∀b∈fp,H' b=none)/\W i n σ' H') ?_ m0 ⟨0,σ,H2,I2,bX,λb hb=>(f2 b hb).1,w0⟩
 rintro n s3 ⟨i,σ3,H3,I3,sv,XE,w3⟩
 rcases turn i n σ3 H3 w3 with⟨stop,qn⟩|⟨go,N,hN,step⟩
 ·refine wpAny_passesOwn hp (de (T.done X rfl rfl rfl hc i pins s3 σ3 H3 X.xe I3 (OQ XE) sv stop) λr s4 ⟨hr,I4⟩=>?_)
  subst hr
  exact wpAny_execs_nil ⟨σ3,H3,I4,qn⟩
 ·refine wpAny_passesOwn hp (de (T.item X rfl rfl rfl hc i pins s3 σ3 H3 X.xe I3 (OQ XE) sv go) λr s4 cv=>?_)
  obtain⟨u,hr,h4⟩:=cv
  subst hr
  refine wpAny_passesOwn hp (de h4 λ_ s5 cv=>?_)
  obtain⟨x,H5,I5,r5,y5,kh,VP⟩:=cv
  have VQ:=I5.pinned (OQ VP) (T.obj _ _ kh)
  refine wpAny_passesOwn hp (de (hg _ s5 σ3 H5 x u _ VQ r5 (step x H5 y5)) λ_ s6 cv=>?_)
  obtain⟨σ6,H6,I6,q6⟩:=cv
  refine wpAny_passesOwn hp (de (hb _ s6 σ6 H6 _ I6 q6) λf s7 q7=>?_)
  have again:∀{σ7:St} {H7:Hp},Inv X (pins++kf fp s5.heap) σ7 H7 s7->N σ7 H7->∃m,m<n/\∃i σ' H',Inv X pins σ' H' s7/\tn i s7.heap/\(∀b∈fp,H' b=none)/\W i m σ' H':=λ{σ7 H7} I7 n7=>by
   obtain⟨m',hm,w7⟩:=hN σ7 H7 n7
   refine⟨m',hm,i+1,σ7,H7,I7.oF,T.keep _ _ _ kh λb hb o e=>(I7.pin (b,o) (List.mem_append_right _ (List.mem_append_right _ (kg hb e)))).1,λb hb=>?_,w7⟩
   obtain⟨o,e,d⟩:=T.obj _ _ kh b hb
   exact(I7.pin (b,o) (List.mem_append_right _ (List.mem_append_right _ (kg hb e)))).2.1
  cases f with
  |next=>obtain⟨σ7,H7,I7,n7⟩:=q7;exact again I7 n7
  |cont=>obtain⟨σ7,H7,I7,n7⟩:=q7;exact again I7 n7
  |brk=>obtain⟨σ7,H7,I7,q7⟩:=q7;exact⟨σ7,H7,I7.oF,q7⟩
  |ret v=>obtain⟨x7,σ7,H7,I7,r7,q7⟩:=q7;exact⟨x7,σ7,H7,I7.oF,r7,q7⟩
end
noncomputable abbrev R2:=V->V->Hp->VK->Prop
noncomputable def js(X:Cx)(f:Value->Value->Sem Value)(r:R2):Prop:=
 ∀(pins:List (Addr×Obj)) (s:Shared) (σ:St) (H:Hp) (x y:V) (v u:Value) (Q:VK),Inv X pins σ H s->RelV x v->RelV y u->r x y H Q->
  wpAny (model X.prog X.w) X.A (f v u) (EP X pins σ Q) X.xe s
noncomputable def VR(X:Cx)(f:Value->Sem Value)(r:V->Hp->VK->Prop):Prop:=
 ∀(pins:List (Addr×Obj)) (s:Shared) (σ:St) (H:Hp) (x:V) (v:Value) (Q:VK),Inv X pins σ H s->RelV x v->r x H Q->
  wpAny (model X.prog X.w) X.A (f v) (EP X pins σ Q) X.xe s
noncomputable def hX(X:Cx)(f:Value)(r:List V->Hp->VK->Prop):Prop:=
 ∀(pins:List (Addr×Obj)) (s:Shared) (σ:St) (H:Hp) (xs:List V) (us:List Value) (Q:VK),Inv X pins σ H s->Vals xs us->r xs H Q->
  wpAny (model X.prog X.w) X.A (call f us) (EP X pins σ Q) X.xe s
noncomputable def Sw(r:R2)(ta tb:TE):TE:=λσ H Q=>ta σ H λx H1=>tb σ H1 λy H2=>r x y H2 Q
noncomputable def YF(r:V->Hp->VK->Prop)(ta:TE):TE:=λσ H Q=>ta σ H λx H1=>r x H1 Q
noncomputable def rI(C:Int->Int->Prop)(g:Int->Int->V):R2:=λx y H Q=>∃i j,x=.int i/\y=.int j/\C i j/\Q (g i j) H
noncomputable def Bt(g:Int->Int->V):R2:=λx y H Q=>∃i j,x=.int i/\y=.int j/\Q (g i j) H
noncomputable def rU(g:Int->V):V->Hp->VK->Prop:=λx H Q=>∃i,x=.int i/\Q (g i) H
section
variable{X:Cx}{a b c:Expr}{ta tb tc:TE}{pos:Pos}
theorem OS(ha:PE X a ta)(hb:PE X b tb){pins:List (Addr×Obj)}{s:Shared}{σ:St}{H:Hp}{R:V->V->Hp->Prop}(I:Inv X pins σ H s)
  (h:ta σ H λx H1=>tb σ H1 λy H2=>R x y H2){Q:Value->Shared->Prop}{f:Value->Value->Sem Value}
  (hf:∀v u s2 x y H2,Inv X pins σ H2 s2->RelV x v->RelV y u->R x y H2->wpAny (model X.prog X.w) X.A (f v u) Q X.xe s2):
  wpAny (model X.prog X.w) X.A (eval a X.env) (λv s₁=>wpAny (model X.prog X.w) X.A (eval b X.env) (λu s₂=>wpAny (model X.prog X.w) X.A (f v u) Q X.xe s₂) X.xe s₁) X.xe s:=by
 refine de (ha pins s σ H _ I h) λv s1 cv=>?_
 obtain⟨x,H1,I1,r1,q1⟩:=cv
 refine de (hb pins s1 σ H1 _ I1 q1) λu s2 cv=>?_
 obtain⟨y,H2,I2,r2,q2⟩:=cv
 exact hf v u s2 x y H2 I2 r1 r2 q2
theorem G6{op:Operator}{r:R2}(ho:js X (binaryOp op) r)(ha:PE X a ta)(hb:PE X b tb):PE X (.BinOp a op b pos) (Sw r ta tb):=by
 intro pins s σ H Q I h
 exact wpAny_BinOp (OS ha hb I h λv u s2 x y H2 I2 rx ry q=>ho pins s2 σ H2 x y v u Q I2 rx ry q)
theorem Sx{op:UnaryOp}{r:V->Hp->VK->Prop}(ho:VR X (unaryOp op) r)(ha:PE X a ta):PE X (.UnaryOp op a pos) (YF r ta):=by
 intro pins s σ H Q I h
 exact UnaryOp_ (de (ha pins s σ H _ I h) λv s1 ⟨x,H1,I1,r1,q1⟩=>ho pins s1 σ H1 x v Q I1 r1 q1)
theorem RF{f:Value->Value->Sem Value}{C:Int->Int->Prop}{g:Int->Int->Int}
  (rule:∀(i j:Int) (t u:Tok) (s:Shared) (Q:Value->Shared->Prop) (E:Value->Shared->Prop),C i j->Q (.int (g i j) s.toks) {s with toks:=s.toks+1}->wpAny (model X.prog X.w) X.A (f (.int i t) (.int j u)) Q E s):
  js X f (rI C λi j=>.int (g i j)):=by
 intro pins s σ H x y v u Q I rx ry h
 obtain⟨i,j,rfl,rfl,hc,q⟩:=h
 obtain⟨t,rfl⟩:=rx
 obtain⟨t',rfl⟩:=ry
 exact rule i j t t' s _ _ hc ⟨.int (g i j),H,I.tok _,⟨_,rfl⟩,q⟩
theorem G7{f:Value->Value->Sem Value}{g:Int->Int->Int}
  (rule:∀(i j:Int) (t u:Tok) (s:Shared) (Q:Value->Shared->Prop) (E:Value->Shared->Prop),Q (.int (g i j) s.toks) {s with toks:=s.toks+1}->wpAny (model X.prog X.w) X.A (f (.int i t) (.int j u)) Q E s):
  js X f (Bt λi j=>.int (g i j)):=by
 intro pins s σ H x y v u Q I rx ry h
 obtain⟨i,j,rfl,rfl,q⟩:=h
 obtain⟨t,rfl⟩:=rx
 obtain⟨t',rfl⟩:=ry
 exact rule i j t t' s _ _ ⟨.int (g i j),H,I.tok _,⟨_,rfl⟩,q⟩
theorem Lm{f:Value->Value->Sem Value}{g:Int->Int->Bool}
  (rule:∀(i j:Int) (t u:Tok) (s:Shared) (Q:Value->Shared->Prop) (E:Value->Shared->Prop),Q (.bool (g i j)) s->wpAny (model X.prog X.w) X.A (f (.int i t) (.int j u)) Q E s):
  js X f (Bt λi j=>.bl (g i j)):=by
 intro pins s σ H x y v u Q I rx ry h
 obtain⟨i,j,rfl,rfl,q⟩:=h
 obtain⟨t,rfl⟩:=rx
 obtain⟨t',rfl⟩:=ry
 exact rule i j t t' s _ _ ⟨.bl (g i j),H,I,rfl,q⟩
noncomputable def VS(i j:Int):Prop:=0<j/\j<1073741824
noncomputable def Sy(i j:Int):Prop:=0<=j/\j<=1000000/\i.natAbs<2^64
noncomputable def OT(i j:Int):Prop:=(-(2^64)<i/\i<2^64)\/(-(2^64)<j/\j<2^64)
theorem OT.ok{i j:Int}(h:OT i j):IntMulOk i j:=by
 rcases h with⟨h1,h2⟩|⟨h1,h2⟩
 ·exact .of_left (intBits_le_64 h1 h2)
 ·exact .of_right (intBits_le_64 h1 h2)
theorem Bu(k:Nat):(0:Int)<=2^k:=by
 rw[two_pow_cast]
 exact Int.natCast_nonneg _
theorem OU:js X (binaryOp .Add) (Bt λi j=>.int (i+j)):=G7 λ_ _ _ _ _ _ _ q=>add_int q
theorem OV:js X (binaryOp .Sub) (Bt λi j=>.int (i-j)):=G7 λ_ _ _ _ _ _ _ q=>sub_int q
theorem OW:js X (binaryOp .Mult) (rI OT λi j=>.int (i*j)):=RF λ_ _ _ _ _ _ _ hc q=>mul_int q hc.ok
theorem Ln:js X (binaryOp .FloorDiv) (rI VS λi j=>.int (i/j)):=RF λi j _ _ _ _ _ hc q=>by
 have h1:(0:Int)<j:=hc.1
 have h2:j<1073741824:=hc.2
 exact floordiv_int (by omega) (by rw[Int.fdiv_eq_ediv_of_nonneg i (by omega)];exact q) (.inl (PyProof.noPylong_small (by omega)))
theorem OX:js X (binaryOp .Mod) (rI (λ_ j=>0<j) λi j=>.int (i % j)):=RF λi j _ _ _ _ _ hc q=>by
 have h1:(0:Int)<j:=hc
 exact mod_int' (by omega) (by rw[Int.fmod_eq_emod_of_nonneg i (by omega)];exact q)
theorem OY:js X (binaryOp .Pow) (rI Sy λi j=>.int (i^j.toNat)):=RF λ_ _ _ _ _ _ _ hc q=>pow_int_small hc.1 hc.2.1 hc.2.2 q
theorem OZ:js X (binaryOp .LShift) (rI Sy λi j=>.int (i*2^j.toNat)):=RF λ_ _ _ _ _ _ _ hc q=>lshift_int_small hc.1 hc.2.1 hc.2.2 q
theorem O0:js X (binaryOp .RShift) (rI (λ_ j=>0<=j) λi j=>.int (i/2^j.toNat)):=RF λi j _ _ _ _ _ hc q=>
 rshift_int hc (by rw[Int.fdiv_eq_ediv_of_nonneg i (Bu _)];exact q)
theorem O1:js X (binaryOp .BitAnd) (Bt λi j=>.int (Builtin.bitAnd i j)):=G7 λ_ _ _ _ _ _ _ q=>and_int q
theorem Sz:js X (binaryOp .BitOr) (Bt λi j=>.int (Builtin.bitOr i j)):=G7 λ_ _ _ _ _ _ _ q=>or_int q
theorem Lo:js X (inplaceOp .Add) (Bt λi j=>.int (i+j)):=G7 λ_ _ _ _ _ _ _ q=>iadd_int q
theorem YG{f:Value->Sem Value}{g:Int->Int}
  (rule:∀(i:Int) (t:Tok) (s:Shared) (Q:Value->Shared->Prop) (E:Value->Shared->Prop),Q (.int (g i) s.toks) {s with toks:=s.toks+1}->wpAny (model X.prog X.w) X.A (f (.int i t)) Q E s):
  VR X f (rU λi=>.int (g i)):=by
 intro pins s σ H x v Q I rx h
 obtain⟨i,rfl,q⟩:=h
 obtain⟨t,rfl⟩:=rx
 exact rule i t s _ _ ⟨.int (g i),H,I.tok _,⟨_,rfl⟩,q⟩
theorem O2:VR X (unaryOp .USub) (rU λi=>.int (-i)):=YG λ_ _ _ _ _ q=>neg_int q
end
noncomputable def SA:V->V->Bool
 |.non,.non=>true|.non,.int _=>true|.int _,.non=>true|.non,.bl _=>true|.bl _,.non=>true|.non,.str _=>true|.str _,.non=>true
 |.int _,.int _=>true|.bl _,.bl _=>true|.str _,.str _=>true|.byt _,.byt _=>true
 |.int _,.str _=>true|.str _,.int _=>true|.bl _,.str _=>true|.str _,.bl _=>true
 |_,_=>false
noncomputable def YH:R2:=λx y H Q=>SA x y=true/\Q (.bl (decide (x=y))) H
noncomputable def YI:R2:=λx y H Q=>SA x y=true/\Q (.bl (!decide (x=y))) H
theorem Dk{i j:Int}:decide (V.int i=V.int j)=(i==j):=by
 rw[Bool.eq_iff_iff]
 simp
theorem G8{i j:Bool}:decide (V.bl i=V.bl j)=(i==j):=by
 rw[Bool.eq_iff_iff]
 simp
theorem Dl{i j:Str}:decide (V.str i=V.str j)=(i==j):=by
 rw[Bool.eq_iff_iff]
 simp
theorem Dm{i j:Array UInt8}:decide (V.byt i=V.byt j)=(i.toList==j.toList):=by
 rw[Bool.eq_iff_iff]
 cases i
 cases j
 simp
section
variable{X:Cx}{a b c:Expr}{ta tb tc:TE}{pos:Pos}
theorem bN{pins:List (Addr×Obj)}{σ:St}{H:Hp}{s:Shared}{Q:VK}{k k':Bool}(I:Inv X pins σ H s)(q:Q (.bl k) H)(e:k=k'):EP X pins σ Q (.bool k') s:=by
 subst e
 exact⟨.bl k,H,I,rfl,q⟩
theorem SD:js X (compareOp .Eq) YH:=by
 intro pins s σ H x y v u Q I rx ry h
 obtain⟨hs,q⟩:=h
 cases x with
 |non=>
  cases rx
  cases y with
  |non=>cases ry;exact PySem.EqNone.eq_none_none (bN I q (by simp))
  |bl j=>cases ry;exact PySem.EqNone.eq_none_bool (bN I q (by simp))
  |int j=>obtain⟨t',rfl⟩:=ry;exact PySem.EqNone.eq_none_int (bN I q (by simp))
  |str j=>obtain⟨t',rfl⟩:=ry;exact PySem.EqNone.eq_none_str (bN I q (by simp))
  |_=>exact absurd (show false=true from hs) Bool.false_ne_true
 |bl i=>
  cases rx
  cases y with
  |non=>cases ry;exact PySem.EqNone.eq_bool_none (bN I q (by simp))
  |bl j=>cases ry;exact eq_bool (bN I q G8)
  |str j=>obtain⟨t',rfl⟩:=ry;exact PySem.EqMixed.eq_bool_str (bN I q (by simp))
  |_=>exact absurd (show false=true from hs) Bool.false_ne_true
 |int i=>
  obtain⟨t,rfl⟩:=rx
  cases y with
  |non=>cases ry;exact PySem.EqNone.eq_int_none (bN I q (by simp))
  |int j=>obtain⟨t',rfl⟩:=ry;exact eq_int (bN I q Dk)
  |str j=>obtain⟨t',rfl⟩:=ry;exact PySem.EqMixed.eq_int_str (bN I q (by simp))
  |_=>exact absurd (show false=true from hs) Bool.false_ne_true
 |str i=>
  obtain⟨t,rfl⟩:=rx
  cases y with
  |non=>cases ry;exact PySem.EqNone.eq_str_none (bN I q (by simp))
  |bl j=>cases ry;exact PySem.EqMixed.eq_str_bool (bN I q (by simp))
  |int j=>obtain⟨t',rfl⟩:=ry;exact PySem.EqMixed.eq_str_int (bN I q (by simp))
  |str j=>obtain⟨t',rfl⟩:=ry;exact eq_str (bN I q Dl)
  |_=>exact absurd (show false=true from hs) Bool.false_ne_true
 |byt i=>
  obtain⟨t,rfl⟩:=rx
  cases y with
  |byt j=>obtain⟨t',rfl⟩:=ry;exact PySem.W.eq_bytes (bN I q Dm)
  |_=>exact absurd (show false=true from hs) Bool.false_ne_true
 |_=>cases y<;>exact absurd (show false=true from hs) Bool.false_ne_true
theorem SE:js X (compareOp .NotEq) YI:=by
 intro pins s σ H x y v u Q I rx ry h
 obtain⟨hs,q⟩:=h
 cases x with
 |non=>
  cases rx
  cases y with
  |non=>cases ry;exact PySem.EqNone.ne_none_none (bN I q (by simp))
  |bl j=>cases ry;exact PySem.EqNone.ne_none_bool (bN I q (by simp))
  |int j=>obtain⟨t',rfl⟩:=ry;exact PySem.EqNone.ne_none_int (bN I q (by simp))
  |str j=>obtain⟨t',rfl⟩:=ry;exact PySem.EqNone.ne_none_str (bN I q (by simp))
  |_=>exact absurd (show false=true from hs) Bool.false_ne_true
 |bl i=>
  cases rx
  cases y with
  |non=>cases ry;exact PySem.EqNone.ne_bool_none (bN I q (by simp))
  |bl j=>cases ry;exact ne_bool (bN I q (congrArg not G8))
  |str j=>obtain⟨t',rfl⟩:=ry;exact PySem.EqMixed.ne_bool_str (bN I q (by simp))
  |_=>exact absurd (show false=true from hs) Bool.false_ne_true
 |int i=>
  obtain⟨t,rfl⟩:=rx
  cases y with
  |non=>cases ry;exact PySem.EqNone.ne_int_none (bN I q (by simp))
  |int j=>obtain⟨t',rfl⟩:=ry;exact ne_int (bN I q (congrArg not Dk))
  |str j=>obtain⟨t',rfl⟩:=ry;exact PySem.EqMixed.ne_int_str (bN I q (by simp))
  |_=>exact absurd (show false=true from hs) Bool.false_ne_true
 |str i=>
  obtain⟨t,rfl⟩:=rx
  cases y with
  |non=>cases ry;exact PySem.EqNone.ne_str_none (bN I q (by simp))
  |bl j=>cases ry;exact PySem.EqMixed.ne_str_bool (bN I q (by simp))
  |int j=>obtain⟨t',rfl⟩:=ry;exact PySem.EqMixed.ne_str_int (bN I q (by simp))
  |str j=>obtain⟨t',rfl⟩:=ry;exact ne_str (bN I q (congrArg not Dl))
  |_=>exact absurd (show false=true from hs) Bool.false_ne_true
 |byt i=>
  obtain⟨t,rfl⟩:=rx
  cases y with
  |byt j=>obtain⟨t',rfl⟩:=ry;exact PySem.W.ne_bytes (bN I q (congrArg not Dm))
  |_=>exact absurd (show false=true from hs) Bool.false_ne_true
 |_=>cases y<;>exact absurd (show false=true from hs) Bool.false_ne_true
theorem SF:js X (compareOp .Lt) (Bt λi j=>.bl (decide (i<j))):=Lm λ_ _ _ _ _ _ _ q=>lt_int q
theorem Nr:js X (compareOp .LtE) (Bt λi j=>.bl (decide (i<=j))):=Lm λ_ _ _ _ _ _ _ q=>le_int q
theorem SG:js X (compareOp .Gt) (Bt λi j=>.bl (decide (j<i))):=Lm λ_ _ _ _ _ _ _ q=>gt_int q
theorem SH:js X (compareOp .GtE) (Bt λi j=>.bl (decide (j<=i))):=Lm λ_ _ _ _ _ _ _ q=>ge_int q
theorem O3:js X (compareOp .Is) (λx y H Q=>y=.non/\Q (.bl (decide (x=.non))) H):=by
 intro pins s σ H x y v u Q I rx ry h
 obtain⟨rfl,q⟩:=h
 cases ry
 refine is_none_gen (bN I q ?_)
 cases x<;>first
  |(cases rx;rfl)
  |(obtain⟨t,rfl⟩:=rx;rfl)
theorem js.or{f:Value->Value->Sem Value}{r r':R2}(h:js X f r)(h':js X f r'):js X f (λx y H Q=>r x y H Q\/r' x y H Q):=by
 intro pins s σ H x y v u Q I rx ry q
 rcases q with q|q
 ·exact h pins s σ H x y v u Q I rx ry q
 ·exact h' pins s σ H x y v u Q I rx ry q
theorem G9(b:Expr){op:CmpOp}(h:op≠.In:=by decide)(h2:op≠.NotIn:=by decide):behindInMarks op b=false:=by
 have e1:(op==CmpOp.In)=false:=by cases op<;>first|rfl|exact absurd rfl h
 have e2:(op==CmpOp.NotIn)=false:=by cases op<;>first|rfl|exact absurd rfl h2
 cases b<;>simp[behindInMarks,e1,e2]
theorem Lp{op:CmpOp}{r:R2}(ho:js X (compareOp op) r)(ha:PE X a ta)(hb:PE X b tb)(hm:behindInMarks op b=false):PE X (.Compare a [op] [b] pos) (Sw r ta tb):=by
 intro pins s σ H Q I h
 exact wpAny_Compare1 (OS ha hb I h λv u s2 x y H2 I2 rx ry q=>ho pins s2 σ H2 x y v u Q I2 rx ry q) hm
noncomputable def Ha(t:TE):TT:=λσ H Q=>t σ H λx H'=>∃k,x=.bl k/\Q k H'
theorem Lq{op:CmpOp}{r:R2}(ho:js X (compareOp op) r)(ha:PE X a ta)(hb:PE X b tb)(hm:behindInMarks op b=false):PT X (.Compare a [op] [b] pos) (Ha (Sw r ta tb)):=by
 intro pins s σ H Q I h
 refine wpAny_isTrue_Compare1 (de (ha pins s σ H _ I h) λv s1 ⟨x,H1,I1,r1,q1⟩=>de (hb pins s1 σ H1 _ I1 q1) λu s2 ⟨y,H2,I2,r2,q2⟩=>
  de (ho pins s2 σ H2 x y v u _ I2 r1 r2 q2) λc s3 ⟨z,H3,I3,r3,k,e,q3⟩=>?_) hm
 subst e
 cases r3
 exact wpAny_truthy_bool ⟨H3,I3,q3⟩
noncomputable def xh(r r':R2)(ta tb tc:TE):TE:=λσ H Q=>ta σ H λx H1=>tb σ H1 λy H2=>r x y H2 λz H3=>∃k,z=.bl k/\
 (if k=true then tc σ H3 λw' H4=>r' y w' H4 Q else Q (.bl false) H3)
theorem Hb{op O4:CmpOp}{r r':R2}(ho:js X (compareOp op) r)(G1:js X (compareOp O4) r')(ha:PE X a ta)(hb:PE X b tb)(hc:PE X c tc)
  (hm:lastMarks [op,O4] [b,c]=false:=by with_unfolding_all rfl):PE X (.Compare a [op,O4] [b,c] pos) (xh r r' ta tb tc):=by
 intro pins s σ H Q I h
 refine Compare_chain (de (ha pins s σ H _ I h) λv s1 ⟨x,H1,I1,r1,q1⟩=>chain_link (de (hb pins s1 σ H1 _ I1 q1) λu s2 ⟨y,H2,I2,r2,q2⟩=>
  de (ho pins s2 σ H2 x y v u _ I2 r1 r2 q2) λd s3 ⟨z,H3,I3,r3,k,e,q3⟩=>?_)) hm
 subst e
 cases r3
 refine wpAny_truthy_bool ?_
 cases k with
 |false=>exact ite_ff ⟨.bl false,H3,I3,rfl,q3⟩
 |true=>exact ite_tt (chain_last (de (hc pins s3 σ H3 _ I3 q3) λw' s4 ⟨z',H4,I4,r4,q4⟩=>G1 pins s4 σ H4 y z' u w' Q I4 r2 r4 q4))
theorem Hc{op O4:CmpOp}{r r':R2}(ho:js X (compareOp op) r)(G1:js X (compareOp O4) r')(ha:PE X a ta)(hb:PE X b tb)(hc:PE X c tc)
  (hm:lastMarks [op,O4] [b,c]=false:=by with_unfolding_all rfl):PT X (.Compare a [op,O4] [b,c] pos) (Ha (xh r r' ta tb tc)):=by
 intro pins s σ H Q I h
 refine isTrue_chain (de (ha pins s σ H _ I h) λv s1 ⟨x,H1,I1,r1,q1⟩=>test_link (de (hb pins s1 σ H1 _ I1 q1) λu s2 ⟨y,H2,I2,r2,q2⟩=>
  de (ho pins s2 σ H2 x y v u _ I2 r1 r2 q2) λd s3 ⟨z,H3,I3,r3,k,e,q3⟩=>?_)) hm
 subst e
 cases r3
 refine wpAny_truthy_bool ?_
 cases k with
 |false=>
  obtain⟨k',e',q'⟩:=q3
  cases e'
  exact ite_ff ⟨H3,I3,q'⟩
 |true=>
  refine ite_tt (test_last (de (hc pins s3 σ H3 _ I3 q3) λw' s4 ⟨z',H4,I4,r4,q4⟩=>de (G1 pins s4 σ H4 y z' u w' _ I4 r2 r4 q4) λd' s5 cv=>?_))
  obtain⟨z2,H5,I5,r5,k2,e2,q5⟩:=cv
  subst e2
  cases r5
  exact wpAny_truthy_bool ⟨H5,I5,q5⟩
theorem sV:(sizeLine:Nat)<2^63:=by rw[sizeLine_eq];decide
theorem Bv:js X (binaryOp .Add) (λx y H Q=>∃i j,x=.str i/\y=.str j/\i.length+j.length<=sizeLine/\Q (.str (i++j)) H):=by
 intro pins s σ H x y v u Q I rx ry h
 obtain⟨i,j,rfl,rfl,hz,q⟩:=h
 obtain⟨t,rfl⟩:=rx
 obtain⟨t',rfl⟩:=ry
 exact add_str (λt' tk=>⟨.str (i++j),H,I.tok _,⟨_,rfl⟩,q⟩) hz
theorem vals1{x:V}{us:List Value}(r:Vals [x] us):∃u,us=[u]/\RelV x u:=by
 cases r with
 |cons r1 r2=>cases r2;exact⟨_,rfl,r1⟩
theorem vals2{x y:V}{us:List Value}(r:Vals [x,y] us):∃u w',us=[u,w']/\RelV x u/\RelV y w':=by
 cases r with
 |cons r1 r2=>
  cases r2 with
  |cons r3 r4=>cases r4;exact⟨_,_,rfl,r1,r3⟩
theorem ES(hc:X.calm=true):hX X (.builtin "min") (λxs H Q=>∃i j,xs=[.int i,.int j]/\Q (.int (if j<i then j else i)) H):=by
 intro pins s σ H xs us Q I r h
 obtain⟨i,j,rfl,q⟩:=h
 obtain⟨u,w',rfl,⟨t,rfl⟩,⟨t',rfl⟩⟩:=vals2 r
 refine min_two_ints (I.ok.hd hc) λh' tk k=>⟨_,H,I.kept k,?_,q⟩
 by_cases hj:j<i
 ·rw[if_pos hj,if_pos hj];exact⟨_,rfl⟩
 ·rw[if_neg hj,if_neg hj];exact⟨_,rfl⟩
theorem xi:hX X (.type "str") (λxs H Q=>∃i,xs=[.int i]/\i.natAbs.log2<1920/\Q (.str (toString i)) H):=by
 intro pins s σ H xs us Q I r h
 obtain⟨i,rfl,hz,q⟩:=h
 obtain⟨u,rfl,t,rfl⟩:=vals1 r
 exact PySem.P.str_of_int hz ⟨.str _,H,I.tok _,⟨_,rfl⟩,q⟩
end
structure Bw(h:Heap)(x dx C:Addr)(mA:Str->Option Value):Prop where
 obj:h.get? x=some (PySem.W.instObj C dx)
 ns:h.Ns1 dx mA
 ne:dx≠x
theorem ET{h:Heap}{dx:Addr}{mA:Str->Option Value}(n:h.Ns1 dx mA):∃od,h.get? dx=some od/\∀name,PySem.W.lookIn name od=some (mA name):=by
 obtain⟨o,es,ep,ho,hd,hk,_,hm⟩:=n
 refine⟨o,ho,λname=>?_⟩
 have e:=hm name
 unfold nsFind findBy at e
 rw[<-Array.find?_toList]at e
 unfold PySem.W.lookIn
 rw[hd]
 dsimp only
 split
 ·rename_i y q
  rw[q]at e
  exact congrArg some e
 ·rename_i q
  rw[q]at e
  have a:es.toList.any (·.refKey)=false:=by
   rw[List.any_eq_false]
   intro y hy
   obtain⟨z,t,vi⟩:=hk y (Array.mem_toList_iff.mp hy)
   simp[DictEntry.refKey,vi]
  have a':¬es.toList.any (·.refKey)=true:=by rw[a];exact Bool.false_ne_true
  rw[if_neg a']
  exact congrArg some e
theorem Bw.look{h:Heap}{x dx C:Addr}{mA:Str->Option Value}(I:Bw h x dx C mA):∃od,PySem.W.InstAt h x (PySem.W.instObj C dx) C (some od)/\∀name,PySem.W.lookIn name od=some (mA name):=
 let⟨od,ho,hl⟩:=ET I.ns
 ⟨od,⟨I.obj,rfl,rfl,ho⟩,hl⟩
section
variable{prog:Program}{w:World}{A:Around}{E:Value->Shared->Prop}{s:Shared}{K:PySem.W.Frag}{x dx C f:Addr}{mA:Str->Option Value}{name:Str}{v:Value}
theorem get_map{expr:Bool}{Q:Value->Shared->Prop}(X:K.In s.heap)(I:Bw s.heap x dx C mA)(hg:PySem.W.plainGet K C name=true)(hh:PySem.W.hasDictIn K C=true)
  (ha:PySem.W.findIn K (.ref C) name=some none)(hv:mA name=some v)(UK:PySem.W.handedIn v=true)(h:Q v {s with toks:=s.toks+1}):
  wpAny (model prog w) A (getAttr (.ref x) name expr) Q E s:=by
 obtain⟨od,J,hl⟩:=I.look
 exact PySem.W.get_value X J (PySem.W.plainGet_of hg).1 (PySem.W.findObj_own hh ha rfl (by rw[hl,hv])) UK h
theorem Hd{pl:Sem Bool}{Q:Value×List Value->Shared->Prop}(X:K.In s.heap)(I:Bw s.heap x dx C mA)(hg:PySem.W.plainGet K C name=true)
  (hf:PySem.W.findIn K (.ref C) name=some (some (.ref f)))(ht:PySem.W.isFn K (.ref f)=true)(hv:mA name=none)(h:Q (.ref f,[.ref x]) s):
  wpAny (model prog w) A (getMethod (.ref x) name pl) Q E s:=by
 obtain⟨od,J,hl⟩:=I.look
 exact PySem.W.method_fn X J (PySem.W.plainGet_of hg).1 (PySem.W.plainGet_of hg).2 hf (beq_iff_eq.mp ht) (by show(PySem.W.lookIn name od).map (·.isSome)=some false;rw[hl,hv];rfl) h
theorem Lr{ns:List Str}{Q:Unit->Shared->Prop}(X:K.In s.heap)(I:Bw s.heap x dx C mA)
  (hs:PySem.W.findIn K (.ref C) "__setattr__" =some (some (.builtin "object.__setattr__")))(hp:PySem.W.plainOver K C=true)(ht:PySem.W.takerIn K C name=some none)(hh:PySem.W.hasDictIn K C=true)
  (hw:PySem.Within mA ns)(qd:ns.length<=sizeLine)
  (h:∀h',Bw h' x dx C (λy=>if y=name then some v else mA y)->Heap.SameBut dx s.heap h'->Q () {s with heap:=h',toks:=s.toks+2}):
  wpAny (model prog w) A (setAttr (.ref x) name v) Q E s:=by
 obtain⟨od,J,hl⟩:=I.look
 refine PySem.W.set_plain X J hs (PySem.W.osa_open (s:={s with toks:=s.toks+1}) (r:=none) X J hp ht λb=>?_)
 obtain⟨cd,hc,Si⟩:=PySem.W.any_some hh
 have hx:s.heap.get? x=some ⟨.ref C,some dx,.plain,#[]⟩:=I.obj
 refine wpAny_bind (wpAny_pure (wpAny_bind (wpAny_bind (wpAny_loadPart hx (wpAny_bind (PySem.W.Looks.here (s:={s with toks:=s.toks+1}) (PySem.W.looks_clsIn X hc) ?_))))))
 rw[Si]
 refine wpAny_pure (a:=some dx) (wpAny_bind (wpAny_pure (wpAny_bind ?_)))
 refine wpAny_nsSet1 (s:={s with toks:=s.toks+1}) I.ns λh' RG qe=>?_
 obtain⟨oD,esD,epD,YJ,YK,YL⟩:=RG.count (PySem.Within.cons name v hw)
 refine wpAny_bind (wpAny_lookBehind YJ (by rw[YK];exact pastItsLine_dict (Nat.le_trans YL (by rw[List.length_cons];omega))) ?_)
 exact wpAny_pure (h _ ⟨(qe.2 _ (Ne.symm I.ne)).trans I.obj,RG,I.ne⟩ qe)
theorem He{R:Result->Shared->Prop}{vs:List Value}{kw:List (Str×Value)}(X:K.In s.heap)(hm:PySem.W.makesIn K C=true)
  (hi:PySem.W.findIn K (.ref C) "__init__" =some (some (.ref f)))(hf:PySem.W.typeIn K (.ref f)=some (.type "function"))
  (h:codeAny (model prog w) (A.under (.builtin "type.__call__" ⟨.ref C::vs,kw⟩)) (.call (.ref f) ⟨.ref (s.heap.objs.size+1)::vs,kw⟩) (PySem.W.InitBack (s.heap.objs.size+1) R)
    {s with heap:=(s.heap.push PySem.W.emptyDict).push (PySem.W.instObj C s.heap.objs.size)}):
  codeAny (model prog w) A (.call (.ref C) ⟨vs,kw⟩) R s:=by
 obtain⟨hh,g,d,t,os⟩:=s
 exact PySem.W.make_core (PySem.W.makes_of X hm) (PySem.W.looks_findIn X hi) (λself=>PySem.W.bind_fn X self hf) (.inl rfl) h
end
noncomputable def lF(f:Str)(v:V):List (Str×V)->List (Str×V)
 |[]=>[(f,v)]
 |(g,x)::r=>if g=f then(g,v)::r else(g,x)::lF f v r
theorem rj(f g:Str)(v:V):∀fs:List (Str×V),(lF f v fs).lookup g=if g=f then some v else fs.lookup g
 |[]=>by
  show List.lookup g [(f,v)]=_
  by_cases h:g=f
  ·have hb:(g==f)=true:=beq_iff_eq.mpr h
   simp only[List.lookup,hb,if_pos h]
  ·have hb:(g==f)=false:=beq_eq_false_iff_ne.mpr h
   simp only[List.lookup,hb,if_neg h]
 |(k,x)::r=>by
  have ih:=rj f g v r
  rw[show lF f v ((k,x)::r)=(if k=f then(k,v)::r else(k,x)::lF f v r)from rfl]
  by_cases hk:k=f
  ·rw[if_pos hk]
   by_cases h:g=k
   ·have hb:(g==k)=true:=beq_iff_eq.mpr h
    simp only[List.lookup,hb,if_pos (h.trans hk)]
   ·have hb:(g==k)=false:=beq_eq_false_iff_ne.mpr h
    simp only[List.lookup,hb,if_neg (λe:g=f=>h (e.trans hk.symm))]
  ·rw[if_neg hk]
   by_cases h:g=k
   ·have hb:(g==k)=true:=beq_iff_eq.mpr h
    simp only[List.lookup,hb,if_neg (λe:g=f=>hk (h.symm.trans e))]
   ·have hb:(g==k)=false:=beq_eq_false_iff_ne.mpr h
    simp only[List.lookup,hb]
    exact ih
theorem qj(f:Str)(v:V):∀fs:List (Str×V),f∈(lF f v fs).map (·.1)/\∀g,g∈fs.map (·.1)->g∈(lF f v fs).map (·.1)
 |[]=>⟨by simp[lF],λg h=>by simp at h⟩
 |(k,x)::r=>by
  obtain⟨i1,i2⟩:=qj f v r
  rw[show lF f v ((k,x)::r)=(if k=f then(k,v)::r else(k,x)::lF f v r)from rfl]
  by_cases hk:k=f
  ·rw[if_pos hk]
   subst hk
   exact⟨by simp,λg h=>by simpa using h⟩
  ·rw[if_neg hk]
   refine⟨?_,λg h=>?_⟩
   ·rw[List.map_cons]
    exact List.mem_cons_of_mem _ i1
   ·rw[List.map_cons]at h⊢
    rcases List.mem_cons.mp h with e|e
    ·exact List.mem_cons.mpr (.inl e)
    ·exact List.mem_cons_of_mem _ (i2 g e)
theorem ro(f:Str)(v:V):∀fs:List (Str×V),(lF f v fs).length<=fs.length+1
 |[]=>by simp[lF]
 |(k,x)::r=>by
  have ih:=ro f v r
  rw[show lF f v ((k,x)::r)=(if k=f then(k,v)::r else(k,x)::lF f v r)from rfl]
  by_cases hk:k=f
  ·rw[if_pos hk,List.length_cons,List.length_cons];omega
  ·rw[if_neg hk,List.length_cons,List.length_cons];omega
theorem ve.some_of{v:V}{o:Option Value}(r:ve (some v) o):∃u,o=some u/\RelV v u:=by
 cases o with
 |none=>exact(show False from r).elim
 |some u=>exact⟨u,rfl,r⟩
theorem ve.none_of{o:Option Value}(r:ve none o):o=none:=by
 cases o with
 |none=>rfl
 |some u=>exact(show False from r).elim
theorem EU{v:V}{u:Value}(r:RelV v u):PySem.W.handedIn u=true:=by
 cases v with
 |non=>cases(show u=Value.none from r);rfl
 |bl b=>cases(show u=Value.bool b from r);rfl
 |int i=>obtain⟨t,e⟩:=(show∃t,u=Value.int i t from r);cases e;rfl
 |str x=>obtain⟨t,e⟩:=(show∃t,u=Value.str x t from r);cases e;rfl
 |byt b=>obtain⟨t,e⟩:=(show∃t,u=Value.bytes b t from r);cases e;rfl
 |flt b=>obtain⟨t,e⟩:=(show∃t,u=Value.float b t from r);cases e;rfl
 |ref a=>cases(show u=Value.ref a from r);rfl
 |ty n=>cases(show u=Value.type n from r);rfl
section
variable{P:Program}{w:World}{H H':Hp}{h h':Heap}{a C dx:Addr}{fs KZ:List (Str×V)}
theorem xj(dZ:sr P w H h)(e:H a=some (.ins C dx fs)):∃mA,Bw h a dx C mA/\(∀f,ve (fs.lookup f) (mA f))/\PySem.Within mA (fs.map (·.1))/\fs.length<=1000/\H dx=some (.own a):=by
 obtain⟨d,z,ne,ob,mA,n,r,q⟩:=(show hU P w H h a (.ins C dx fs)from dZ a _ e)
 exact⟨mA,⟨ob,n,ne⟩,r,q,z,d⟩
end
structure vO(K:PySem.W.Frag)(C:Addr):Prop where
 pg:PySem.W.plainGet K C Str.empty=true
 hd:PySem.W.hasDictIn K C=true
 po:PySem.W.plainOver K C=true
 sa:PySem.W.findIn K (.ref C) "__setattr__" =some (some (.builtin "object.__setattr__"))
theorem vO.get{K:PySem.W.Frag}{C:Addr}(c:vO K C)(f:Str):PySem.W.plainGet K C f=true:=c.pg
noncomputable def dg(K:PySem.W.Frag)(C:Addr)(f:Str):Prop:=PySem.W.findIn K (.ref C) f=some none
theorem dg.SJ{K:PySem.W.Frag}{C:Addr}{f:Str}(n:dg K C f):PySem.W.takerIn K C f=some none:=by
 unfold PySem.W.takerIn
 rw[show PySem.W.findIn K (.ref C) f=some none from n]
 rfl
structure Meth(K:PySem.W.Frag)(C:Addr)(m:Str)(f:Addr):Prop where
 at_:PySem.W.findIn K (.ref C) m=some (some (.ref f))
 fn:PySem.W.isFn K (.ref f)=true
 kp:PySem.W.keepIn K (.ref f)=true
section
variable{X:Cx}{pins:List (Addr×Obj)}{σ:St}{H:Hp}{s:Shared}{a C dx:Addr}{fs:List (Str×V)}{f:Str}{v:V}{A:Around}{E:Value->Shared->Prop}
theorem sW{b:Bool}{Q:Value->Shared->Prop}(I:Inv X pins σ H s)(e:H a=some (.ins C dx fs))(c:vO X.K C)(n:dg X.K C f)(l:fs.lookup f=some v)
  (h:∀u s',Inv X pins σ H s'->RelV v u->Q u s'):wpAny (model X.prog X.w) A (getAttr (.ref a) f b) Q E s:=by
 obtain⟨mA,O,r,_,_,_⟩:=xj I.dZ e
 obtain⟨u,hu,ru⟩:=ve.some_of (v:=v) (o:=mA f) (by rw[<-l];exact r f)
 exact get_map I.oB O (c.get f) c.hd n hu (EU ru) (h u _ (I.tok _) ru)
theorem ny{m:Str}{g:Addr}{pl:Sem Bool}{Q:Value×List Value->Shared->Prop}(I:Inv X pins σ H s)(e:H a=some (.ins C dx fs))(c:vO X.K C)(k:Meth X.K C m g)(l:fs.lookup m=none)
  (h:Q (.ref g,[.ref a]) s):wpAny (model X.prog X.w) A (getMethod (.ref a) m pl) Q E s:=by
 obtain⟨mA,O,r,_,_,_⟩:=xj I.dZ e
 have hn:mA m=none:=ve.none_of (by rw[<-l];exact r m)
 exact Hd I.oB O (c.get m) k.at_ k.fn hn h
theorem sX{y:V}{u:Value}{Q:Unit->Shared->Prop}(I:Inv X pins σ H s)(e:H a=some (.ins C dx fs))(c:vO X.K C)(n:dg X.K C f)(hl:fs.length<1000)(ry:RelV y u)
  (h:∀s',Inv X pins σ (upd H a (.ins C dx (lF f y fs))) s'->Q () s'):wpAny (model X.prog X.w) A (setAttr (.ref a) f u) Q E s:=by
 obtain⟨mA,O,r,wi,_,ho⟩:=xj I.dZ e
 have hz:(fs.map (·.1)).length<=sizeLine:=by rw[List.length_map,sizeLine_eq];omega
 refine Lr I.oB O c.sa c.po n.SJ c.hd wi hz λh' O' sb=>h _ ?_
 have hd:∃o,h'.get? dx=some o:=let⟨o,_,_,e',_⟩:=O'.ns;⟨o,e'⟩
 refine I.write (x:=a) (e:=dx) (by rw[e];exact True.intro) (.inr ho) (λb q hb z=>(sb.2 b hb).trans z) hd ?_
 refine⟨by rw[aL O.ne];exact ho,?_,O.ne,O'.obj,_,O'.ns,λg=>?_,λg hg=>?_⟩
 ·have:=ro f y fs;omega
 ·show ve ((lF f y fs).lookup g) (if g=f then some u else mA g)
  rw[rj]
  by_cases q:g=f
  ·rw[if_pos q,if_pos q];exact ry
  ·rw[if_neg q,if_neg q];exact r g
 ·by_cases q:g=f
  ·rw[q];exact(qj f y fs).1
  ·refine(qj f y fs).2 g (wi g λz=>hg ?_)
   show(if g=f then some u else mA g)=none
   rw[if_neg q];exact z
theorem Inv.made(I:Inv X pins σ H s):Inv X pins σ (upd (upd H s.heap.objs.size (.own (s.heap.objs.size+1))) (s.heap.objs.size+1) (.ins C s.heap.objs.size []))
  {s with heap:=(s.heap.push PySem.W.emptyDict).push (PySem.W.instObj C s.heap.objs.size)}:=by
 have e1:(s.heap.push PySem.W.emptyDict).get? s.heap.objs.size=some PySem.W.emptyDict:=Heap.get?_push_size s.heap rfl
 have e2:((s.heap.push PySem.W.emptyDict).push (PySem.W.instObj C s.heap.objs.size)).get? (s.heap.objs.size+1)=some (PySem.W.instObj C s.heap.objs.size):=by
  have:=Heap.get?_push_size (s.heap.push PySem.W.emptyDict) (o:=PySem.W.instObj C s.heap.objs.size) rfl
  rwa[Heap.size_push]at this
 have e3:(s.heap.push PySem.W.emptyDict).Ns s.heap.objs.size (λ_=>none):=⟨PySem.W.emptyDict,#[],_,e1,rfl,(λe he=>absurd he (by simp)),λ_=>rfl⟩
 have I1:=I.laid (a:=s.heap.objs.size) (o:=.own (s.heap.objs.size+1)) (h':=s.heap.push PySem.W.emptyDict) (t':=s.toks) (λb u q=>Heap.get?_push_of_some _ q) (Nat.le_refl _) ⟨_,e1⟩
 refine I1.laid (a:=s.heap.objs.size+1) (o:=.ins C s.heap.objs.size []) (t':=s.toks) (λb u q=>Heap.get?_push_of_some _ q) (Nat.le_of_eq (Heap.size_push _ _)) ?_
 have ne:s.heap.objs.size≠s.heap.objs.size+1:=Nat.ne_of_lt (Nat.lt_succ_self _)
 refine⟨by rw[aL ne,aO],Nat.zero_le _,ne,e2,λ_=>none,(Heap.Ns1.of_empty e3).at λo q=>Heap.get?_push_of_some _ q,λ_=>True.intro,λy hy=>absurd rfl hy⟩
theorem Ls{prog:Program}{w:World}{env:Env}{e:Expr}{f:Str}{pos:Pos}{s:Shared}{Q:Value->Shared->Prop}(hb:attributeBase e f env (eval e env)=eval e env)
  (h:wpAny (model prog w) A (eval e env) (λo s₁=>wpAny (model prog w) A (getAttr o f true) Q E s₁) E s):wpAny (model prog w) A (eval (.Attribute e f pos) env) Q E s:=
 Attribute_any_ h (by rw[arm_eval_Attribute,hb])
end
noncomputable def VT(K:PySem.W.Frag)(ta:TE)(f:Str):TE:=λσ H Q=>ta σ H λx H1=>∃a C dx fs v,x=.ref a/\H1 a=some (.ins C dx fs)/\vO K C/\dg K C f/\fs.lookup f=some v/\Q v H1
noncomputable def Lu(K:PySem.W.Frag)(ta tv:TE)(f:Str):TS:=λD σ H=>tv σ H λy H1=>ta σ H1 λx H2=>∃a C dx fs,x=.ref a/\H2 a=some (.ins C dx fs)/\vO K C/\dg K C f/\fs.length<1000/\
 D.nx σ (upd H2 a (.ins C dx (lF f y fs)))
noncomputable def SK(X:Cx)(op:Operator)(rd:V->V->Hp->VK->Prop):Prop:=
 ∀(pins:List (Addr×Obj)) (s:Shared) (σ:St) (H:Hp) (x y:V) (u v:Value) (Q:VK),Inv X pins σ H s->RelV x u->RelV y v->rd x y H Q->wpAny (model X.prog X.w) X.A (inplaceOp op u v) (EP X pins σ Q) X.xe s
noncomputable def Lv(K:PySem.W.Frag)(ta tv:TE)(rd:V->V->Hp->VK->Prop)(f:Str):TS:=λD σ H=>ta σ H λx H1=>∃a C dx fs v,x=.ref a/\H1 a=some (.ins C dx fs)/\vO K C/\dg K C f/\fs.lookup f=some v/\
 tv σ H1 λy H2=>rd v y H2 λz H3=>∃VU KZ,H3 a=some (.ins C VU KZ)/\KZ.length<1000/\D.nx σ (upd H3 a (.ins C VU (lF f z KZ)))
section
variable{X:Cx}{o e value:Expr}{f:Str}{pos pos' VV:Pos}{ta tv:TE}
theorem O5(he:PE X e ta)(hb:attributeBase e f X.env (eval e X.env)=eval e X.env):PE X (.Attribute e f pos) (VT X.K ta f):=by
 intro pins s σ H Q I h
 refine Ls hb (de (he pins s σ H _ I h) λu s1 cv=>?_)
 obtain⟨x,H1,I1,rx,a,C,dx,fs,v,ex,ea,c,n,l,q⟩:=cv
 subst ex
 obtain rfl:u=Value.ref a:=rx
 exact sW I1 ea c n l λu' s2 I2 ru=>⟨v,H1,I2,ru,q⟩
theorem qk(ha:PE X o ta)(hv:PE X value tv)(hs:swapsWith value (some (.Attribute o f pos')) pos.line X.env=pure false):PS X (.Assign [.Attribute o f pos'] value pos) (Lu X.K ta tv f):=by
 intro pins s σ H D I h
 refine plainObj_wpAny_Assign_Attribute (de (hv pins s σ H _ I h) λu s1 ⟨y,H1,I1,ry,q⟩=>de (ha pins s1 σ H1 _ I1 q) λov s2 cv=>?_) hs
 obtain⟨x,H2,I2,rx,a,C,dx,fs,ex,ea,c,n,l,q2⟩:=cv
 subst ex
 obtain rfl:ov=Value.ref a:=rx
 exact sX I2 ea c n l ry λs3 I3=>⟨σ,_,I3,q2⟩
theorem EV{op:Operator}{rd:V->V->Hp->VK->Prop}(ha:PE X o ta)(hv:PE X value tv)(YM:SK X op rd):PS X (.AugAssign (.Attribute o f VV) op value pos) (Lv X.K ta tv rd f):=by
 intro pins s σ H D I h
 refine wpAny_AugAssign_AttributeAny (de (ha pins s σ H _ I h) λov s1 cv=>?_)
 obtain⟨x,H1,I1,rx,a,C,dx,fs,v,ex,ea,c,n,l,q⟩:=cv
 subst ex
 obtain rfl:ov=Value.ref a:=rx
 refine sW I1 ea c n l λu s2 I2 ru=>de (hv pins s2 σ H1 _ I2 q) λw3 s3 ⟨y,H2,I3,ry,q3⟩=>de (YM pins s3 σ H2 v y u w3 _ I3 ru ry q3) λw4 s4 cv=>?_
 obtain⟨z,H3,I4,rz,VU,KZ,YN,l',q4⟩:=cv
 exact sX I4 YN c n l' rz λs5 I5=>⟨σ,_,I5,q4⟩
noncomputable def VW:V->V->Hp->VK->Prop:=λx y H Q=>∃i j,x=.int i/\y=.int j/\Q (.int (i+j)) H
theorem O6:SK X .Add VW:=by
 rintro pins s σ H x y u v Q I rx ry ⟨i,j,rfl,rfl,q⟩
 obtain⟨t,rfl⟩:=(show∃t,u=Value.int i t from rx)
 obtain⟨t',rfl⟩:=(show∃t',v=Value.int j t' from ry)
 exact PyProof.Rows.iadd_int ⟨.int (i+j),H,I.tok _,⟨_,rfl⟩,q⟩
end
structure b7(k:Nat)(A:Around):Prop where
 hd:A.handled=none
 dp:A.depth+3*k+5<recursionLimit
 un:A.units+16*k+200<cLine
theorem b7.mono{j k:Nat}{A:Around}(r:b7 k A)(h:j<=k):b7 j A:=⟨r.hd,by have:=r.dp;omega,by have:=r.un;omega⟩
theorem b7.deeper{k:Nat}{A:Around}(r:b7 (k+1) A)(env:Env):b7 k (A.deeper env):=
 ⟨r.hd,by have:=r.dp;show A.depth+1+3*k+5<_;omega,by have:=r.un;show A.units+3+16*k+200<_;omega⟩
theorem b7.in1{k:Nat}{A:Around}(r:b7 (k+1) A):b7 k A.in1:=
 ⟨r.hd,by have:=r.dp;show A.depth+3*k+5<_;omega,by have:=r.un;show A.units+1+16*k+200<_;omega⟩
theorem Bx{A:Around}{C:Addr}{us:List Value}{kw:List (Str×Value)}:(A.under (.builtin "type.__call__" ⟨.ref C::us,kw⟩)).depth=A.depth+1:=by
 first|rfl|simp[Around.under,Code.weight,Code.isCreation,Code.isGuard,Code.isCaller,Code.frames,Code.isFrame,guardIds]
theorem By{A:Around}{C:Addr}{us:List Value}{kw:List (Str×Value)}:(A.under (.builtin "type.__call__" ⟨.ref C::us,kw⟩)).units=A.units+1:=by
 first|rfl|simp[Around.under,Code.cUnits,Code.frames,Code.isFrame]
theorem b7.make{k:Nat}{A:Around}(r:b7 (k+1) A)(C:Addr)(us:List Value)(kw:List (Str×Value)):b7 k (A.under (.builtin "type.__call__" ⟨.ref C::us,kw⟩)):=
 ⟨r.hd,by have:=r.dp;rw[Bx];omega,by have:=r.un;rw[By];omega⟩
theorem b7.depth{k:Nat}{A:Around}(r:b7 k A):A.depth<recursionLimit:=by have:=r.dp;omega
theorem b7.units{k:Nat}{A:Around}(r:b7 k A):A.units+64<cLine:=by have:=r.un;omega
noncomputable def xk:TA:=λ_ H Q=>Q [] H
noncomputable def k7(ta:TE)(tr:TA):TA:=λσ H Q=>ta σ H λx H1=>tr σ H1 λxs H2=>Q (x::xs) H2
section
variable{X:Cx}{e:Expr}{es:List Expr}{te:TE}{t:TA}{pos:Pos}
theorem bJ:PA X [] xk:=λ_ _ _ _ H Q I h=>Calls.spliced_nil ⟨[],H,I,.nil,h⟩
theorem aM(ha:PE X e te)(hr:PA X es t)(hs:starEach (e::es) X.env=(false,eval e X.env)::starEach es X.env:=by rfl):PA X (e::es) (k7 te t):=by
 intro pos pins s σ H Q I h
 rw[hs]
 show wpAny _ _ (spliced ((false,eval e X.env)::backTo pos (starEach es X.env))) _ _ s
 refine Calls.spliced_cons (de (ha pins s σ H _ I h) λu s1 cv=>?_)
 obtain⟨x,H1,I1,r1,q1⟩:=cv
 exact de (hr pos pins s1 σ H1 _ I1 q1) λus s2 ⟨xs,H2,I2,r2,q2⟩=>⟨x::xs,H2,I2,.cons r1 r2,q2⟩
noncomputable def VX(t:TA):TE:=λσ H Q=>t σ H λxs H1=>xs.length<=sizeLine/\∀p,H1 p=none->Q (.ref p) (upd H1 p (.tup xs))
noncomputable def VY(t:TA):TE:=λσ H Q=>t σ H λxs H1=>xs.length<=sizeLine/\∀p,H1 p=none->Q (.ref p) (upd H1 p (.lst xs))
theorem O7{x1}(h:PA X es t):PE X (.Tuple es x1 pos) (VX t):=by
 intro pins s σ H Q I hq
 refine wpAny_Tuple_spliced (de (h pos pins s σ H _ I hq) λus s1 ⟨xs,H1,I1,r,z,q⟩=>⟨by rw[<-r.length];exact z,?_⟩)
 have hf:H1 s1.heap.objs.size=none:=I1.dZ.fresh (Nat.le_refl _)
 refine⟨.ref s1.heap.objs.size,upd H1 s1.heap.objs.size (.tup xs),I1.laid (t':=s1.toks) (λb u e=>Heap.get?_push_of_some _ e) (Nat.le_refl _) ?_,rfl,q _ hf⟩
 exact⟨⟨z,RC.new⟩,us,r,⟨_,Heap.get?_push_size _ rfl,rfl,_,rfl⟩⟩
theorem Hf(h:PA X es t):PE X (.List es pos) (VY t):=by
 intro pins s σ H Q I hq
 refine wpAny_List_spliced (de (h pos pins s σ H _ I hq) λus s1 ⟨xs,H1,I1,r,z,q⟩=>⟨by rw[<-r.length];exact z,?_⟩)
 have hf:H1 s1.heap.objs.size=none:=I1.dZ.fresh (Nat.le_refl _)
 refine⟨.ref s1.heap.objs.size,upd H1 s1.heap.objs.size (.lst xs),I1.laid (t':=s1.toks) (λb u e=>Heap.get?_push_of_some _ e) (Nat.le_refl _) ?_,rfl,q _ hf⟩
 exact⟨z,us,0,r,Heap.get?_push_size _ rfl⟩
end
noncomputable abbrev Sp:=List V->Hp->VK->XK->Prop
noncomputable abbrev Hg:=List Env->Hp->Shared->XK->Value->Shared->Prop
structure Bz(P:Program)(w:World)(K:PySem.W.Frag)(mg:Str->Option Value)(base:Heap)(A:Around)(outer:List Env)(s:Shared)(H:Hp):Prop where
 frames:A.frames=some outer
 mod:Mod K mg base
 bs:∀b o,base.get? b=some o->s.heap.get? b=some o/\H b=none
 bsz:base.objs.size<=s.heap.objs.size
 funs:s.heap.FunFrames base outer
 frf:∀b∈EM outer,H b=none
 dZ:sr P w H s.heap
 bare:AllBare s.gens
noncomputable def CE(outer:List Env)(P:Program)(w:World)(H:Hp)(s:Shared)(Q:VK)(u:Value)(s':Shared):Prop:=
 ∃v H',s'.os=s.os/\AllBare s'.gens/\Un (EM outer) [] H H' s.heap s'.heap/\sr P w H' s'.heap/\RelV v u/\Q v H'
noncomputable def CR(CX:Hg)(outer:List Env)(P:Program)(w:World)(H:Hp)(s:Shared)(Q:VK)(E:XK)(r:Result)(s':Shared):Prop:=
 match r with
 |.ok (.ret u)=>CE outer P w H s Q u s'
 |.ok _=>False
 |.error e=>CX outer H s E e s'
structure aG(P:Program)(w:World)(K:PySem.W.Frag)(mg:Str->Option Value)(base:Heap)(CX:Hg)(k:Nat)(f:Addr)(fd:FuncData)(ps:List Str)(sp:Sp):Prop where
 len:∀vs H Q E,sp vs H Q E->vs.length=ps.length
 run:∀(A:Around) (outer:List Env) (s:Shared) (H:Hp) (args:Args) (us:List Value) (vs:List V) (Q:VK) (E:XK),b7 k A->Bz P w K mg base A outer s H->BindsTo s fd args (ps.zip us)->Vals vs us->sp vs H Q E->
  codeAny (model P w) A (.call (.ref f) args) (CR CX outer P w H s Q E) s
theorem aG.mono{P:Program}{w:World}{K:PySem.W.Frag}{mg:Str->Option Value}{base:Heap}{CX:Hg}{j k:Nat}{f:Addr}{fd:FuncData}{ps:List Str}{sp:Sp}(F:aG P w K mg base CX j f fd ps sp)(h:j<=k):
 aG P w K mg base CX k f fd ps sp:=⟨F.len,λA outer s H args us vs Q E hr=>F.run A outer s H args us vs Q E (hr.mono h)⟩
theorem Bz.make{P:Program}{w:World}{K:PySem.W.Frag}{mg:Str->Option Value}{base:Heap}{A:Around}{outer:List Env}{s:Shared}{H:Hp}(e:Bz P w K mg base A outer s H)(C:Addr)(us:List Value)(kw:List (Str×Value)):
 Bz P w K mg base (A.under (.builtin "type.__call__" ⟨.ref C::us,kw⟩)) outer s H:=⟨by first|exact e.frames|(simpa[Around.under,Code.envs,Code.isFrame,pushEnvs]using e.frames),e.mod,e.bs,e.bsz,e.funs,e.frf,e.dZ,e.bare⟩
section
variable{X:Cx}{pins:List (Addr×Obj)}{σ:St}{H:Hp}{s s':Shared}
theorem Inv.SM(I:Inv X pins σ H s):Bz X.prog X.w X.K X.mg X.base X.A X.stack s H:=
 ⟨I.ok.frames,I.ok.mod,I.bs,Nat.le_trans I.ok.bsz I.sz,I.stack,I.De,I.dZ,I.bare⟩
theorem Inv.after{Q:VK}{u:Value}(I:Inv X pins σ H s)(h:CE X.stack X.prog X.w H s Q u s'):EP X pins σ Q u s':=by
 obtain⟨v,H',os,bare,un,dZ,r,q⟩:=h
 obtain⟨hh,g,d,t,YO⟩:=s'
 obtain rfl:YO=s.os:=os
 exact⟨v,H',I.call (h':=hh) (g':=g) (d':=d) (t':=t) (ch:=[]) un dZ bare (λb z=>absurd z (by simp)),r,q⟩
end
noncomputable def Dp(sp:Sp)(dvs:List V)(E:XK)(t:TA):TE:=λσ H Q=>t σ H λvs H1=>sp (vs++dvs) H1 Q E
noncomputable def Nt(C:Addr)(m:Str)(sp:Sp)(dvs:List V)(E:XK)(ta:TE)(t:TA):TE:=λσ H Q=>ta σ H λx H1=>∃a dx fs,x=.ref a/\H1 a=some (.ins C dx fs)/\fs.lookup m=none/\
 t σ H1 λvs H2=>sp (x::(vs++dvs)) H2 Q E
noncomputable def Nu(C:Addr)(sp:Sp)(dvs:List V)(E:XK)(t:TA):TE:=λσ H Q=>t σ H λvs H1=>∀x dx,H1 x=none->H1 dx=none->dx≠x->
 sp (.ref x::(vs++dvs)) (upd (upd H1 dx (.own x)) x (.ins C dx [])) (λv H2=>v=.non/\Q (.ref x) H2) E
noncomputable def Binds(K:PySem.W.Frag)(fd:FuncData)(ps:List Str)(ds:List Value):Prop:=
 ∀(s:Shared) (us:List Value),K.In s.heap->(us++ds).length=ps.length->BindsTo s fd ⟨us,[]⟩ (ps.zip (us++ds))
theorem Binds.all{K:PySem.W.Frag}{fd:FuncData}{ps:List Str}(h:∀us:List Value,us.length=ps.length->bindArgs fd ⟨us,[]⟩=pure (ps.zip us)):Binds K fd ps []:=λs us _ hl=>by
 rw[List.append_nil]at hl⊢
 exact .of_eq (h us hl)
noncomputable def Passes(CX:Hg)(X:Cx)(E:XK):Prop:=∀(pins:List (Addr×Obj)) (σ:St) (H:Hp) (s:Shared) (e:Value) (s':Shared),Inv X pins σ H s->CX X.stack H s E e s'->X.xe e s'
section
variable{X:Cx}{CX:Hg}{k:Nat}{f C:Addr}{fd:FuncData}{ps:List Str}{sp:Sp}{dvs:List V}{ds:List Value}{E:XK}{x m:Str}{p pos apos:Pos}{e o:Expr}{es:List Expr}{ta:TE}{t:TA}
theorem qm{pins:List (Addr×Obj)}{σ:St}{H:Hp}{s:Shared}{Q:VK}{us:List Value}{vs:List V}(F:aG X.prog X.w X.K X.mg X.base CX k f fd ps sp)(hr:b7 k X.A)(hb:Binds X.K fd ps ds)(hd:Vals dvs ds)(hx:Passes CX X E)
  (I:Inv X pins σ H s)(r:Vals vs us)(h:sp (vs++dvs) H Q E):wpAny (model X.prog X.w) X.A (call (.ref f) us) (EP X pins σ Q) X.xe s:=by
 have r2:Vals (vs++dvs) (us++ds):=r.append hd
 have hl:(us++ds).length=ps.length:=by rw[<-r2.length];exact F.len _ _ _ _ h
 refine wpAny_call (codeAny_mono (F.run X.A X.stack s H ⟨us,[]⟩ (us++ds) (vs++dvs) Q E hr I.SM (hb s us I.oB hl) r2 h) λr s' hq=>?_)
 cases r with
 |error e=>exact hx pins σ H s e s' I hq
 |ok fl=>
  cases fl with
  |ret u=>exact I.after hq
  |next=>exact False.elim hq
  |brk=>exact False.elim hq
  |cont=>exact False.elim hq
theorem sx(F:aG X.prog X.w X.K X.mg X.base CX k f fd ps sp)(hr:b7 k X.A)(hg:Gl X x)(hm:X.mg x=some (.ref f))(hk:PySem.W.keepIn X.K (.ref f)=true)(hb:Binds X.K fd ps ds)(hd:Vals dvs ds)(hx:Passes CX X E)
  (ha:PA X (e::es) t)(qp:(x==("__debug__" :Str))=false:=by decide)(he:starEach (e::es) X.env=(false,eval e X.env)::starEach es X.env:=by rfl)(hpl:(backTo pos (starEach es X.env)).any (·.1)=false:=by rfl):
  PE X (.Call (.Name x p) (e::es) [] pos) (Dp sp dvs E t):=by
 intro pins s σ H Q I h
 refine wpAny_Call_Name_kw (su I hg hm ?_ qp)
 refine PySem.W.callWith_K (h₀:=X.base) I.ok.mod.kin hk (de (ha pos pins s σ H _ I h) λus s1 ⟨vs,H1,I1,r,q⟩=>⟨I1.oB,?_⟩) he hpl
 exact qm F hr hb hd hx I1 r q
theorem Lx{pl:Sem Bool}(he:PE X o ta)(c:vO X.K C)(hm:Meth X.K C m f)(F:aG X.prog X.w X.K X.mg X.base CX k f fd ps sp)(hr:b7 k X.A)(hb:Binds X.K fd ps ds)(hd:Vals dvs ds)(hx:Passes CX X E)(ha:PA X (e::es) t)
  (ri:starEach (e::es) X.env=(false,eval e X.env)::starEach es X.env:=by rfl)(hpl:(backTo pos (starEach es X.env)).any (·.1)=false:=by rfl)
  (ht:eval (.Call (.Attribute o m apos) (e::es) [] pos) X.env=(do
    let ov<-eval o X.env
    standAt apos.atName
    let(f,first)<-holding [ov] (getMethod ov m pl)
    callWith pos f first (backTo pos (starEach (e::es) X.env)) (backToKw pos (keywordEach [] X.env))):=by rfl):
  PE X (.Call (.Attribute o m apos) (e::es) [] pos) (Nt C m sp dvs E ta t):=by
 intro pins s σ H Q I h
 refine PySem.W.methodCall_KW (pl:=pl) (de (he pins s σ H _ I h) λu s1 cv=>?_) ht
 obtain⟨x,H1,I1,rx,a,dx,fs,ex,ea,l,q⟩:=cv
 subst ex
 obtain rfl:u=Value.ref a:=rx
 refine ny I1 ea c hm l ?_
 refine PySem.W.callWith_K (first:=[.ref a]) (h₀:=X.base) I.ok.mod.kin hm.kp (de (ha pos pins s1 σ H1 _ I1 q) λus s2 ⟨vs,H2,I2,r,q2⟩=>⟨I2.oB,?_⟩) ri hpl
 exact qm (us:=.ref a::us) (vs:=.ref a::vs) F hr hb hd hx I2 (.cons rfl r) q2
theorem sY{pl:Sem Bool}(he:PE X o ta)(c:vO X.K C)(hm:Meth X.K C m f)(F:aG X.prog X.w X.K X.mg X.base CX k f fd ps sp)(hr:b7 k X.A)(hb:Binds X.K fd ps ds)(hd:Vals dvs ds)(hx:Passes CX X E)
  (ht:eval (.Call (.Attribute o m apos) [] [] pos) X.env=(do
    let ov<-eval o X.env
    standAt apos.atName
    let(f,first)<-holding [ov] (getMethod ov m pl)
    callWith pos f first (backTo pos (starEach [] X.env)) (backToKw pos (keywordEach [] X.env))):=by rfl):
  PE X (.Call (.Attribute o m apos) [] [] pos) (Nt C m sp dvs E ta xk):=by
 intro pins s σ H Q I h
 refine PySem.W.methodCall_KW (pl:=pl) (de (he pins s σ H _ I h) λu s1 cv=>?_) ht
 obtain⟨x,H1,I1,rx,a,dx,fs,ex,ea,l,q⟩:=cv
 subst ex
 obtain rfl:u=Value.ref a:=rx
 refine ny I1 ea c hm l ?_
 exact PySem.W.callWith_K0 (first:=[.ref a]) I1.oB hm.kp (qm (us:=[.ref a]) (vs:=[.ref a]) F hr hb hd hx I1 (.cons rfl .nil) q)
structure Mk(K:PySem.W.Frag)(C f:Addr):Prop where
 makes:PySem.W.makesIn K C=true
 init:PySem.W.findIn K (.ref C) "__init__" =some (some (.ref f))
 fn:PySem.W.isFn K (.ref f)=true
 kp:PySem.W.keepIn K (.ref C)=true
theorem Hh{pins:List (Addr×Obj)}{σ:St}{H:Hp}{s:Shared}{Q:VK}{us:List Value}{vs:List V}(M:Mk X.K C f)(F:aG X.prog X.w X.K X.mg X.base CX k f fd ps sp)(hr:b7 (k+1) X.A)(hb:Binds X.K fd ps ds)(hd:Vals dvs ds)
  (hx:Passes CX X E)(I:Inv X pins σ H s)(r:Vals vs us)
  (h:∀x dx,H x=none->H dx=none->dx≠x->sp (.ref x::(vs++dvs)) (upd (upd H dx (.own x)) x (.ins C dx [])) (λv H2=>v=.non/\Q (.ref x) H2) E):
  wpAny (model X.prog X.w) X.A (call (.ref C) us) (EP X pins σ Q) X.xe s:=by
 have hq:=h (s.heap.objs.size+1) s.heap.objs.size (I.dZ.fresh (Nat.le_succ _)) (I.dZ.fresh (Nat.le_refl _)) (Nat.ne_of_lt (Nat.lt_succ_self _))
 have I2:=Inv.made (C:=C) I
 have r2:Vals (V.ref (s.heap.objs.size+1)::(vs++dvs)) (Value.ref (s.heap.objs.size+1)::(us++ds)):=.cons rfl (r.append hd)
 have hl:(Value.ref (s.heap.objs.size+1)::us++ds).length=ps.length:=by
  have e:=r2.length
  rw[F.len _ _ _ _ hq]at e
  exact e.symm
 refine wpAny_call (He (f:=f) I.oB M.makes M.init (beq_iff_eq.mp M.fn) (codeAny_mono (F.run _ X.stack _ _ ⟨Value.ref (s.heap.objs.size+1)::us,[]⟩ (Value.ref (s.heap.objs.size+1)::(us++ds)) _ _ E (hr.make C us [])
  (I2.SM.make C us []) (hb _ (Value.ref (s.heap.objs.size+1)::us) I2.oB hl) r2 hq) λr s' SN=>?_))
 cases r with
 |error e=>exact hx pins σ _ _ e s' I2 SN
 |ok fl=>
  cases fl with
  |ret u=>
   obtain⟨v,H',I3,rv,ev,q3⟩:=I2.after SN
   subst ev
   exact⟨rv,⟨V.ref (s.heap.objs.size+1),H',I3,rfl,q3⟩⟩
  |next=>exact False.elim SN
  |brk=>exact False.elim SN
  |cont=>exact False.elim SN
theorem oG(M:Mk X.K C f)(F:aG X.prog X.w X.K X.mg X.base CX k f fd ps sp)(hr:b7 (k+1) X.A)(hg:Gl X x)(hm:X.mg x=some (.ref C))(hb:Binds X.K fd ps ds)(hd:Vals dvs ds)(hx:Passes CX X E)
  (ha:PA X (e::es) t)(qp:(x==("__debug__" :Str))=false:=by decide)(he:starEach (e::es) X.env=(false,eval e X.env)::starEach es X.env:=by rfl)(hpl:(backTo pos (starEach es X.env)).any (·.1)=false:=by rfl):
  PE X (.Call (.Name x p) (e::es) [] pos) (Nu C sp dvs E t):=by
 intro pins s σ H Q I h
 refine wpAny_Call_Name_kw (su I hg hm ?_ qp)
 refine PySem.W.callWith_K (h₀:=X.base) I.ok.mod.kin M.kp (de (ha pos pins s σ H _ I h) λus s1 ⟨vs,H1,I1,r,q⟩=>⟨I1.oB,?_⟩) he hpl
 exact Hh M F hr hb hd hx I1 r q
end
noncomputable def PK(X:Cx)(SO:List Keyword)(t:TA):Prop:=
 ∀(pos:Pos) (pins:List (Addr×Obj)) (s:Shared) (σ:St) (H:Hp) (Q:List V->Hp->Prop),Inv X pins σ H s->t σ H Q->wpAny (model X.prog X.w) X.A (evalAll ((backToKw pos (keywordEach SO X.env)).map (·.2))) (AP X pins σ Q) X.xe s
section
variable{X:Cx}{CX:Hg}{k:Nat}{f C:Addr}{fd:FuncData}{ps ks:List Str}{sp:Sp}{E:XK}{x m:Str}{p pos apos kpos:Pos}{e o:Expr}{es:List Expr}{SO:List Keyword}{te ta:TE}{t tk:TA}{nm:Option Str}
theorem O8:PK X [] xk:=λ_ _ _ _ H Q I h=>wpAny_evalAll_nil ⟨[],H,I,.nil,h⟩
theorem Ly(ha:PE X e te)(hr:PK X SO t):PK X (⟨nm,e,kpos⟩::SO) (k7 te t):=by
 intro pos pins s σ H Q I h
 show wpAny _ _ (evalAll ((do let v<-eval e X.env;standAt pos;pure v)::(backToKw pos (keywordEach SO X.env)).map (·.2))) _ _ s
 refine wpAny_evalAll_cons (wpAny_bind (de (ha pins s σ H _ I h) λu s1 ⟨x,H1,I1,r1,q1⟩=>wpAny_bind (wpAny_standAt (wpAny_pure ?_))))
 exact de (hr pos pins s1 σ H1 _ I1 q1) λus s2 ⟨xs,H2,I2,r2,q2⟩=>⟨x::xs,H2,I2,.cons r1 r2,q2⟩
variable{g:List Value->List Value->List Value}{gV:List V->List V->List V}
end
structure aK(N P:List Str)(sc:Scope):Prop where
 kind:sc.kind=.function
 co:sc.isCoroutine=false
 gen:sc.isGenerator=false
 nd:N.Nodup
 pre:N.take P.length=P
 par:∀x∈P,sc.names.lookup x=some .local\/sc.names.lookup x=some .cell
 nofree:∀y∈sc.names,y.2≠.free
theorem vP{kindOf:Str->Option NameKind}{x:Str}:∀{binds:List (Str×Value)} {m:Str->Option Value},(∀v,(x,v)∉binds)->bindL kindOf binds m x=m x
 |[],_,_=>rfl
 |(n,v)::r,m,h=>by
  unfold bindL
  rw[vP λw hw=>h w (List.mem_cons_of_mem _ hw)]
  split
  ·have:x≠n:=by rintro rfl;exact h v List.mem_cons_self
   simp[this]
  ·rfl
theorem vQ{kindOf:Str->Option NameKind}{x:Str}:∀{binds:List (Str×Value)} {m:Str->Option Value},(∀v,(x,v)∉binds)->bindC kindOf binds m x=m x
 |[],_,_=>rfl
 |(n,v)::r,m,h=>by
  unfold bindC
  rw[vQ λw hw=>h w (List.mem_cons_of_mem _ hw)]
  split
  ·rfl
  ·have:x≠n:=by rintro rfl;exact h v List.mem_cons_self
   simp[this]
theorem vR{kindOf:Str->Option NameKind}{x:Str}{v:Value}:∀{P:List Str} {vs:List Value} {i:Nat} {m:Str->Option Value},P.Nodup->P[i]?=some x->vs[i]?=some v->kindOf x=some .local->
  bindL kindOf (P.zip vs) m x=some v
 |[],_,_,_,_,h,_,_=>by simp at h
 |_::_,[],_,_,_,_,h,_=>by simp at h
 |p::P,w::vs,0,m,nd,h1,h2,hk=>by
  simp at h1 h2;subst h1;subst h2
  show bindL kindOf ((p,w)::P.zip vs) m p=_
  unfold bindL
  rw[vP λv hv=>(List.nodup_cons.mp nd).1 (List.of_mem_zip hv).1,if_pos hk]
  simp
 |p::P,w::vs,i+1,m,nd,h1,h2,hk=>by
  show bindL kindOf ((p,w)::P.zip vs) m x=_
  unfold bindL
  exact vR (i:=i) (List.nodup_cons.mp nd).2 (by simpa using h1) (by simpa using h2) hk
theorem vS{kindOf:Str->Option NameKind}{x:Str}{v:Value}:∀{P:List Str} {vs:List Value} {i:Nat} {m:Str->Option Value},P.Nodup->P[i]?=some x->vs[i]?=some v->kindOf x≠some .local->
  bindC kindOf (P.zip vs) m x=some v
 |[],_,_,_,_,h,_,_=>by simp at h
 |_::_,[],_,_,_,_,h,_=>by simp at h
 |p::P,w::vs,0,m,nd,h1,h2,hk=>by
  simp at h1 h2;subst h1;subst h2
  show bindC kindOf ((p,w)::P.zip vs) m p=_
  unfold bindC
  rw[vQ λv hv=>(List.nodup_cons.mp nd).1 (List.of_mem_zip hv).1,if_neg hk]
  simp
 |p::P,w::vs,i+1,m,nd,h1,h2,hk=>by
  show bindC kindOf ((p,w)::P.zip vs) m x=_
  unfold bindC
  exact vS (i:=i) (List.nodup_cons.mp nd).2 (by simpa using h1) (by simpa using h2) hk
noncomputable def start(N:List Str)(vs:List V):St:=vs.map some++List.replicate (N.length-vs.length) none
noncomputable def xm(CX:Hg)(P:Program)(w:World)(K:PySem.W.Frag)(mg:Str->Option Value)(base:Heap)(N:List Str)(qual:Str)(scope:Scope)(f:Addr)(cd:Value)(A:Around)(outer:List Env)(s:Shared)(H:Hp)(E:XK):Cx where
 prog:=P
 w:=w
 K:=K
 mg:=mg
 base:=base
 A:=A.deeper (envOfC qual scope s.heap.objs.size f cd)
 N:=N
 s₀:=s
 H₀:=H
 env:=envOfC qual scope s.heap.objs.size f cd
 outer:=outer
 stack:=envOfC qual scope s.heap.objs.size f cd::outer
 ex:=[]
 calm:=true
 fn:=λ_=>true
 pn:=[]
 xe:=λe s'=>wpAny (model P w) (A.deeper (envOfC qual scope s.heap.objs.size f cd)) (leaving (envOfC qual scope s.heap.objs.size f cd) e) (λ_ VZ=>CX outer H s E e VZ) (λe' VZ=>CX outer H s E e' VZ) s'
theorem zp{sc:Scope}{n:Nat}{x:Str}(h:sc.names.lookup x=some .cell):∃c,(cellsFrom n sc.names []).lookup x=some c:=by
 have q:=PySem.W.cellsFrom_some sc.names n [] (.inl h)
 exact Option.isSome_iff_exists.mp q
theorem EW{CX:Hg}{P:Program}{w:World}{K:PySem.W.Frag}{mg:Str->Option Value}{base:Heap}{N ps:List Str}{qual:Str}{scope:Scope}{f:Addr}{cd:Value}{A:Around}{outer:List Env}{s s1:Shared}{H:Hp}{E:XK}{us:List Value}{vs:List V}
  (S:aK N ps scope)(hd:A.handled=none)(e0:Bz P w K mg base A outer s H)(hl:vs.length=ps.length)(r:Vals vs us)
  (x:InCallC s s.heap.objs.size (bindL (envOfC qual scope s.heap.objs.size f cd).kindOf (ps.zip us) λ_=>none) (cellsFrom (s.heap.objs.size+1) scope.names []) (bindC (envOfC qual scope s.heap.objs.size f cd).kindOf (ps.zip us) λ_=>none) s1):
  Inv (xm CX P w K mg base N qual scope f cd A outer s H E) [] (start N vs) H s1:=by
 have hpl:ps.length<=N.length:=by have:=congrArg List.length S.pre;rw[List.length_take]at this;omega
 obtain⟨h1,tk,rfl,hk⟩:=x.done
 have SQ:∀b:Addr,b∉(xm CX P w K mg base N qual scope f cd A outer s H E).ex:=λb z=>absurd (show b∈([]:List Addr)from z) (by simp)
 refine⟨⟨e0.mod,S.kind,rfl,rfl,Nat.le_refl _,λy z c h1 h2=>?_,λy hy=>?_,λy c _ h=>?_,λ_=>hd,Around.frames_deeper e0.frames,.inr ⟨rfl,rfl⟩,λb z=>absurd z (SQ b),e0.bs,e0.bsz,λb _ _=>SQ b,λb z=>absurd z (SQ b),e0.funs,e0.frf⟩,
  rfl,e0.bare,Un.kept hk,⟨_,x.toInCall.ns,λi y v h1 h2 h3=>?_⟩,λy c h=>⟨_,x.cell y c h⟩,e0.dZ.fresh (Nat.le_refl _),λy c h=>?_,λp hp=>absurd (show p∈([]:List (Addr×Obj))from hp) (by simp),e0.dZ.kept hk,?_⟩
 ·exact name_of_addr x.apart (PySem.mem_of_lookup h1) (PySem.mem_of_lookup h2)
 ·have hy:scope.names.lookup y=some .cell\/scope.names.lookup y=some .free:=hy
  rcases hy with hy|hy
  ·exact zp hy
  ·exact absurd rfl (S.nofree _ (PySem.mem_of_lookup hy))
 ·exact Nat.le_of_lt (x.above y c (PySem.mem_of_lookup h))
 ·have hi:i<vs.length:=by
    unfold start at h2
    by_cases hi:i<vs.length
    ·exact hi
    ·rw[List.getElem?_append_right (by simpa using hi)]at h2
     rw[List.getElem?_replicate]at h2
     split at h2<;>cases h2
  have ha:vs[i]?=some v:=by
   unfold start at h2
   rw[List.getElem?_append_left (by simpa using hi),List.getElem?_map]at h2
   cases e:vs[i]? with
   |none=>rw[e]at h2;cases h2
   |some a=>rw[e]at h2;cases h2;rfl
  obtain⟨u,hu,rv⟩:=r.get ha
  have hp:ps[i]?=some y:=by
   rw[<-S.pre,List.getElem?_take_of_lt (by omega)];exact h1
  have XF:ps.Nodup:=by rw[<-S.pre];exact S.nd.sublist (List.take_sublist _ _)
  refine⟨u,rv,?_⟩
  rcases S.par y (List.mem_of_getElem? hp)with k|k
  ·exact .inl ⟨k,vR XF hp hu k⟩
  ·obtain⟨c,e⟩:=zp (n:=s.heap.objs.size+1) k
   refine .inr ⟨.inl k,c,e,?_⟩
   have q:=x.cell y c e
   rw[vS XF hp hu (by show scope.names.lookup y≠_;rw[k];decide)]at q
   exact q
 ·exact e0.dZ.fresh (Nat.le_of_lt (x.above y c (PySem.mem_of_lookup h)))
 ·unfold start
  show _=N.length
  rw[List.length_append,List.length_map,List.length_replicate]
  omega
theorem SR{CX:Hg}{P:Program}{w:World}{K:PySem.W.Frag}{mg:Str->Option Value}{base:Heap}{k:Nat}{f:Addr}{name qual:Str}{params:Arguments}{body:List Stmt}{scope:Scope}{dV kV doc pm dh ct oc:Value}{an od:Option Addr}
  {Nv:Array (Option Value)}{N ps:List Str}{sp:Sp}(lk:K.lookup f=some ⟨oc,od,.func (PySem.W.fnOf name qual params body scope dV kV doc pm an dh ct),Nv⟩)(rh:PySem.W.codeIn K dh qual=true)(S:aK N ps scope)
  (len:∀vs H Q E,sp vs H Q E->vs.length=ps.length)
  (Hi:∀(A:Around) (outer:List Env) (s:Shared) (H:Hp) (vs:List V) (Q:VK) (E:XK),b7 k (A.deeper (envOfC qual scope s.heap.objs.size f dh))->sp vs H Q E->
    ∃t,Bi (xm CX P w K mg base N qual scope f dh A outer s H E) body t/\t {nx:=λ_ H'=>Q .non H',rt:=Q} (start N vs) H):
  aG P w K mg base CX (k+1) f (PySem.W.fnOf name qual params body scope dV kV doc pm an dh ct) ps sp:=by
 refine⟨len,λA outer s H args us vs Q E hr e0 hb r Nw=>?_⟩
 have hl:=len _ _ _ _ Nw
 have KX:K.In s.heap:=e0.mod.kin.keeps λb o e=>(e0.bs b o e).1
 have lim:s.heap.NoLimit:=e0.mod.nolimit.keeps λb o e=>(e0.bs b o e).1
 have SS:∀y∈ps.zip us,scope.names.lookup y.1=some .local\/(scope.names.lookup y.1=some .cell/\((cellsFrom (s.heap.objs.size+1) scope.names []).lookup y.1).isSome=true):=λ⟨n,v⟩ hy=>by
  rcases S.par n (List.of_mem_zip hy).1 with q|q
  ·exact .inl q
  ·exact .inr ⟨q,PySem.W.cellsFrom_some _ _ _ (.inl q)⟩
 refine codeAny_call_function hr.depth (KX _ _ lk) rfl S.co S.gen rfl (PySem.W.codeRec_of KX rh) (hb _ _ _ _ ?_)
 refine wpAny_newFunctionEnv_cells S.kind SS λenv he s1 x=>?_
 subst he
 refine⟨lim.keeps x.toInCall.keep,codeAny_func ?_⟩
 obtain⟨t,ht,hq⟩:=Hi A outer s H vs Q E (hr.deeper _) Nw
 have I:Inv (xm CX P w K mg base N qual scope f dh A outer s H E) [] (start N vs) H s1:=EW S hr.hd e0 hl r x
 refine wpAny_mono (ht [] s1 (start N vs) H _ I hq) (λfl s' hs=>?_) λe s' hs=>hs
 have fin:∀{σ':St} {H':Hp} {v:V} {u:Value},Inv (xm CX P w K mg base N qual scope f dh A outer s H E) [] σ' H' s'->RelV v u->Q v H'->CE outer P w H s Q u s':=
  λ{σ' H' v u} J rv q=>⟨v,H',J.os,J.bare,J.base,J.dZ,rv,q⟩
 cases fl with
 |ret u=>
  obtain⟨v,σ',H',J,rv,q⟩:=hs
  exact fin J rv q
 |next=>
  obtain⟨σ',H',J,q⟩:=hs
  exact fin (v:=V.non) (u:=Value.none) J rfl q
 |brk=>
  obtain⟨_,_,_,q⟩:=hs
  exact False.elim q
 |cont=>
  obtain⟨_,_,_,q⟩:=hs
  exact False.elim q
section
variable{X:Cx}{x:Str}{p pos:Pos}{e:Expr}{es:List Expr}{t:TA}{id T:String}{r:List V->Hp->VK->Prop}
noncomputable def UL(r:List V->Hp->VK->Prop)(t:TA):TE:=λσ H Q=>t σ H λvs H1=>r vs H1 Q
theorem iU(hc:hX X (.builtin id) r)(hg:Gl X x)(hm:X.mg x=none)(hv:bootBuiltins x=some (.builtin id))(ha:PA X (e::es) t)(hn:x≠ "__name__" :=by decide)(qp:(x==("__debug__" :Str))=false:=by decide)
  (he:starEach (e::es) X.env=(false,eval e X.env)::starEach es X.env:=by rfl)(hpl:(backTo pos (starEach es X.env)).any (·.1)=false:=by rfl):PE X (.Call (.Name x p) (e::es) [] pos) (UL r t):=by
 intro pins s σ H Q I h
 refine wpAny_Call_Name_kw (lu I hg hm hv ?_ hn qp)
 exact PyProof.Rows.callWith_builtin1 (de (ha pos pins s σ H _ I h) λus s1 ⟨vs,H1,I1,r1,q1⟩=>hc pins s1 σ H1 vs us Q I1 r1 q1) he hpl
theorem jY(hc:hX X (.type T) r)(hg:Gl X x)(hm:X.mg x=none)(hv:bootBuiltins x=some (.type T))(ha:PA X (e::es) t)(hn:x≠ "__name__" :=by decide)(qp:(x==("__debug__" :Str))=false:=by decide)
  (he:starEach (e::es) X.env=(false,eval e X.env)::starEach es X.env:=by rfl)(hpl:(backTo pos (starEach es X.env)).any (·.1)=false:=by rfl):PE X (.Call (.Name x p) (e::es) [] pos) (UL r t):=by
 intro pins s σ H Q I h
 refine wpAny_Call_Name_kw (lu I hg hm hv ?_ hn qp)
 exact PyProof.Rows.callWith_type1 (de (ha pos pins s σ H _ I h) λus s1 ⟨vs,H1,I1,r1,q1⟩=>hc pins s1 σ H1 vs us Q I1 r1 q1) he hpl
end
end L2
namespace HT
open PySem PyProof.Rows
noncomputable def lexLt:List Int->List Int->Bool
 |[],[]=>false
 |[],_::_=>true
 |_::_,[]=>false
 |x::xs,y::ys=>if x=y then lexLt xs ys else decide (x<y)
theorem nA(x y:Int)(xs ys:List Int):lexLt (x::xs) (y::ys)=if x=y then lexLt xs ys else decide (x<y):=rfl
theorem vj:lexLt [] []=false:=rfl
theorem sZ(y:Int)(ys:List Int):lexLt [] (y::ys)=true:=rfl
theorem td(x:Int)(xs:List Int):lexLt (x::xs) []=false:=rfl
theorem Hj(A:Around)(s:Shared)(a:Int)(t:Tok)(c:Int)(u:Tok):∃e,SeqAt.EqAt A s (.int a t) (.int c u) e/\(e=true↔a=c):=
 ⟨(a==c),SeqAt.EqAt.int_int a t c u,by simp⟩
theorem Hk(A:Around)(s:Shared)(a:Int)(t:Tok)(c:Int)(u:Tok)(prog:Program)(w:World)(E:Value->Shared->Prop)(Q:Value->Shared->Prop)(h:Q (.bool (decide (a<c))) s):
  wpAny (model prog w) A (richCompare .Lt (.int a t) (.int c u)) Q E s:=
 (PyProof.Rows.lt_int h:wpAny (model prog w) A (compareOp .Lt (.int a t) (.int c u)) Q E s)
section
variable{prog:Program}{w:World}{A:Around}{E:Value->Shared->Prop}{s:Shared}
noncomputable def Bk(n d:Nat):Option Int->Nat
 |none=>d
 |some v=>if v<0 then(v+(n:Int)).toNat else min v.toNat n
end
end HT
namespace L2
open PySem PySem.Spec PyProof.Rows
noncomputable abbrev TO:=St->Hp->(Option Int->Hp->Prop)->Prop
noncomputable def PO(X:Cx)(e:Option Expr)(t:TO):Prop:=
 ∀(pins:List (Addr×Obj)) (s:Shared) (σ:St) (H:Hp) (Q:Option Int->Hp->Prop),Inv X pins σ H s->t σ H Q->
  wpAny (model X.prog X.w) X.A (evalPart e X.env) (λu s'=>∃o H',Inv X pins σ H' s'/\IsPart u o/\Q o H') X.xe s
noncomputable def Lz:TO:=λ_ H Q=>Q none H
noncomputable def SU(t:TE):TO:=λσ H Q=>t σ H λx H1=>∃i,x=.int i/\Q (some i) H1
theorem intsAre_of{ns:List Int}:∀{us:List Value},Vals (ns.map V.int) us->IntsAre us ns:=by
 induction ns with
 |nil=>intro us r;rw[List.map_nil]at r;cases r;exact .nil
 |cons n ns ih=>
  intro us r
  rw[List.map_cons]at r
  cases r with
  |cons r1 r2=>
   obtain⟨t,e⟩:=r1
   subst e
   exact .cons n t (ih r2)
section
variable{X:Cx}{e:Expr}{te:TE}{lo hi:Option Expr}{tl th:TO}{pos p2:Pos}
theorem LA:PO X none Lz:=by
 intro pins s σ H Q I h
 rw[evalPart_none]
 exact wpAny_pure ⟨none,H,I,.none,h⟩
theorem LB(h:PE X e te):PO X (some e) (SU te):=by
 intro pins s σ H Q I hw
 rw[evalPart_some]
 refine de (h pins s σ H _ I hw) λu s1 cv=>?_
 obtain⟨x,H1,I1,r1,q1⟩:=cv
 obtain⟨i,rfl,q⟩:=q1
 obtain⟨t,rfl⟩:=r1
 exact⟨some i,H1,I1,.int i t,q⟩
noncomputable def O9(X:Cx)(r:V->Option Int->Option Int->Hp->VK->Prop):Prop:=
 ∀(pins:List (Addr×Obj)) (s:Shared) (σ:St) (H:Hp) (x:V) (v vl vu:Value) (lo hi:Option Int) (sl:Addr) (Q:VK),Inv X pins σ H s->RelV x v->s.heap.IsSliceOf sl vl vu .none->IsPart vl lo->IsPart vu hi->r x lo hi H Q->
  ∃T id,typeLookup (.type T) "__getitem__" =pure (some (.builtin id))/\s.TypeIs v T/\wpAny (model X.prog X.w) X.A (getItem v (.ref sl)) (EP X pins σ Q) X.xe s
theorem O9.or{r r':V->Option Int->Option Int->Hp->VK->Prop}(h:O9 X r)(h':O9 X r'):O9 X (λx lo hi H Q=>r x lo hi H Q\/r' x lo hi H Q):=by
 intro pins s σ H x v vl vu lo hi sl Q I rx hs pl pu q
 rcases q with q|q
 ·exact h pins s σ H x v vl vu lo hi sl Q I rx hs pl pu q
 ·exact h' pins s σ H x v vl vu lo hi sl Q I rx hs pl pu q
noncomputable def YQ(r:V->Option Int->Option Int->Hp->VK->Prop)(te:TE)(tl th:TO):TE:=λσ H Q=>te σ H λx H1=>tl σ H1 λl H2=>th σ H2 λu H3=>r x l u H3 Q
theorem zq{r:V->Option Int->Option Int->Hp->VK->Prop}(hr:O9 X r)(he:PE X e te)(hl:PO X lo tl)(hu:PO X hi th):PE X (.Subscript e (.Slice lo hi none p2) pos) (YQ r te tl th):=by
 intro pins s σ H Q I h
 refine Subscript_ (de (he pins s σ H _ I h) λv s1 cv=>?_)
 obtain⟨x,H1,I1,r1,q1⟩:=cv
 refine wpAny_Slice (de (hl pins s1 σ H1 _ I1 q1) λvl s2 ⟨l,H2,I2,pl,q2⟩=>de (hu pins s2 σ H2 _ I2 q2) λvu s3 cv=>?_)
 obtain⟨u,H3,I3,pu,q3⟩:=cv
 rw[evalPart_none]
 refine wpAny_pure ?_
 have I4:Inv X pins σ H3 {s3 with heap:=s3.heap.push {cls:=.type "slice",data:=.fields #[vl,vu,.none]}}:=I3.kept (t':=s3.toks) λb ob q=>Heap.get?_push_of_some _ q
 obtain⟨T,id,hT,ht,hg⟩:=hr pins {s3 with heap:=s3.heap.push {cls:=.type "slice",data:=.fields #[vl,vu,.none]}} σ H3 x v vl vu l u s3.heap.objs.size Q I4 r1 (Heap.IsSliceOf.new ..) pl pu q3
 show wpAny (model X.prog X.w) X.A (subscriptTail e (.Slice lo hi none p2) v (.ref s3.heap.objs.size)) (EP X pins σ Q) X.xe {s3 with heap:=s3.heap.push {cls:=.type "slice",data:=.fields #[vl,vu,.none]}}
 exact tail_any (ops:=[.ref s3.heap.objs.size,v]) ht hT hg (by with_unfolding_all rfl)
noncomputable def EX(xs:List V)(lo hi:Option Int):List V:=(xs.drop (HT.Bk xs.length 0 lo)).take (HT.Bk xs.length xs.length hi-HT.Bk xs.length 0 lo)
theorem zt(xs:List V)(lo hi:Option Int):(EX xs lo hi).length<=xs.length:=by
 unfold EX
 rw[List.length_take,List.length_drop]
 omega
end
noncomputable def UM(n:Nat)(i:Int):Option Nat:=if 0<=i then(if i<n then some i.toNat else none)else if-(n:Int)<=i then some (i+n).toNat else none
noncomputable def Pc{α:Type}(xs:List α)(i:Int):Option α:=(UM xs.length i).bind λj=>xs[j]?
theorem LC{n:Nat}{i:Int}{j:Nat}(h:UM n i=some j):seqIndex? i n=some j/\j<n/\-(n:Int)<=i/\i<n:=by
 unfold UM at h
 by_cases h0:0<=i
 ·rw[if_pos h0]at h
  by_cases h1:i<n
  ·rw[if_pos h1]at h
   have e:i.toNat=j:=Option.some.inj h
   exact⟨by rw[seqIndex_of h0 h1,e],by omega,by omega,h1⟩
  ·rw[if_neg h1]at h;cases h
 ·rw[if_neg h0]at h
  by_cases h1:-(n:Int)<=i
  ·rw[if_pos h1]at h
   have e:(i+n).toNat=j:=Option.some.inj h
   exact⟨by rw[seqIndex_neg (by omega) h1,e],by omega,h1,by omega⟩
  ·rw[if_neg h1]at h;cases h
theorem xn{α:Type}{xs:List α}{i:Int}{v:α}(h:Pc xs i=some v):∃j,seqIndex? i xs.length=some j/\xs[j]?=some v/\j<xs.length/\-(xs.length:Int)<=i/\i<xs.length:=by
 unfold Pc at h
 cases e:UM xs.length i with
 |none=>rw[e]at h;cases h
 |some j=>
  rw[e]at h
  obtain⟨h1,h2,h3,h4⟩:=LC e
  exact⟨j,h1,h,h2,h3,h4⟩
noncomputable def Dq(b:Expr):Prop:=∀o i,subscripted b false o i=operate [o,i] (getItem o i)
noncomputable def LD(X:Cx)(r:R2):Prop:=
 ∀(value slice:Expr) (pins:List (Addr×Obj)) (s:Shared) (σ:St) (H:Hp) (x y:V) (v u:Value) (Q:VK),Inv X pins σ H s->RelV x v->RelV y u->r x y H Q->
  subscripted slice false v u=operate [v,u] (getItem v u)->wpAny (model X.prog X.w) X.A (subscriptTail value slice v u) (EP X pins σ Q) X.xe s
noncomputable def Pd(X:Cx)(id:String)(r:V->List V->Hp->VK->Prop):Prop:=
 ∀(pins:List (Addr×Obj)) (s:Shared) (σ:St) (H:Hp) (x:V) (xs:List V) (v:Value) (us:List Value) (Q:VK),Inv X pins σ H s->RelV x v->Vals xs us->r x xs H Q->
  wpAny (model X.prog X.w) X.A (call (.builtin id) (v::us)) (EP X pins σ Q) X.xe s
section
variable{X:Cx}{a b:Expr}{ta tb:TE}{pos:Pos}
theorem LD.or{r r':R2}(h:LD X r)(h':LD X r'):LD X (λx y H Q=>r x y H Q\/r' x y H Q):=by
 intro value slice pins s σ H x y v u Q I rx ry q hs
 rcases q with q|q
 ·exact h value slice pins s σ H x y v u Q I rx ry q hs
 ·exact h' value slice pins s σ H x y v u Q I rx ry q hs
theorem SV{r:R2}(hr:LD X r)(ha:PE X a ta)(hb:PE X b tb)(hs:Dq b):PE X (.Subscript a b pos) (Sw r ta tb):=by
 intro pins s σ H Q I h
 exact Subscript_ (OS ha hb I h λv u s2 x y H2 I2 rx ry q=>hr a b pins s2 σ H2 x y v u Q I2 rx ry q (hs _ _))
noncomputable def SW(K:PySem.W.Frag):R2:=λx y H Q=>∃p xs i v,x=.ref p/\y=.int i/\iE K H p xs/\Pc xs i=some v/\Q v H
noncomputable def SX(K:PySem.W.Frag):R2:=λx y H Q=>∃p xs i v,x=.ref p/\y=.int i/\ll K H p xs/\Pc xs i=some v/\Q v H
noncomputable def SY:R2:=λx y H Q=>∃z i c,x=.str z/\y=.int i/\z.length<=sizeLine/\Pc z.cps.toList i=some c/\Q (.str ⟨#[c]⟩) H
theorem LF:LD X (SW X.K):=by
 intro value slice pins s σ H x y v u Q I rx ry h hs
 obtain⟨p,xs,i,z,rfl,rfl,hq,he,q⟩:=h
 cases rx
 obtain⟨t,rfl⟩:=ry
 obtain⟨its,r,pl,hz⟩:=I.list hq
 obtain⟨j,h1,h2,h3,h4,h5⟩:=xn he
 obtain⟨w,ew,V0⟩:=r.get h2
 have hl:=r.length
 have hn:=sV
 have fin:EP X pins σ Q w s:=⟨z,H,I,V0,q⟩
 by_cases h0:0<=i
 ·have hj:i.toNat=j:=by
    rw[seqIndex_of h0 h5]at h1
    exact Option.some.inj h1
  exact item_listR pl.isList h0 (by omega) (by rw[hj];simpa using ew) fin hs
 ·have hj:(i+(its.toArray.size:Int)).toNat=j:=by
    rw[seqIndex_neg (by omega) h4]at h1
    rw[List.size_toArray,<-hl]
    exact Option.some.inj h1
  exact subscriptTail_builtinR (x:=w) pl.isList.typeIs slot_list_getitem.lookup
   (wpAny_getItem_list_neg (Q:=λr s'=>r=w/\EP X pins σ Q r s') pl.isList (by omega) (by rw[List.size_toArray]<;>omega) (by omega) (by rw[hj];simpa using ew) ⟨rfl,fin⟩) hs
theorem Pe:LD X (SX X.K):=by
 intro value slice pins s σ H x y v u Q I rx ry h hs
 obtain⟨p,xs,i,z,rfl,rfl,hq,he,q⟩:=h
 cases rx
 obtain⟨t,rfl⟩:=ry
 obtain⟨its,r,pl,hz⟩:=I.tuple hq
 obtain⟨j,h1,h2,h3,h4,h5⟩:=xn he
 obtain⟨w,ew,V0⟩:=r.get h2
 have hl:=r.length
 have hn:=sV
 have fin:EP X pins σ Q w s:=⟨z,H,I,V0,q⟩
 exact subscriptTail_builtinR (x:=w) pl.typeIs slot_tuple_getitem.lookup
  (getItem_tuple (j:=j) (Q:=λr s'=>r=w/\EP X pins σ Q r s') pl (by omega) (by omega) (by rw[List.size_toArray,<-hl];exact h1) (by simpa using ew) ⟨rfl,fin⟩) hs
theorem Pf:LD X SY:=by
 intro value slice pins s σ H x y v u Q I rx ry h hs
 obtain⟨z,i,c,rfl,rfl,hz,he,q⟩:=h
 obtain⟨t,rfl⟩:=rx
 obtain⟨t',rfl⟩:=ry
 obtain⟨j,h1,h2,h3,h4,h5⟩:=xn he
 have hl:z.cps.toList.length=z.length:=by simp[Str.length]
 rw[hl]at h1 h4 h5
 have hn:=sV
 exact tail_any (typeIs_str s z t) slot_str_getitem.lookup (getItem_str (c:=c) (by
  have e1:decide (i< -(2^63:Int))=false:=decide_eq_false (by omega)
  have e2:decide (i≥2^63)=false:=decide_eq_false (by omega)
  rw[e1,e2,Bool.or_false]) (by rw[h1];simpa using h2) ⟨.str ⟨#[c]⟩,H,I.tok _,⟨_,rfl⟩,q⟩) hs
noncomputable def YR(K:PySem.W.Frag):R2:=λx y H Q=>SW K x y H Q\/SX K x y H Q\/SY x y H Q
theorem Pg:LD X (YR X.K):=LF.or (Pe.or Pf)
theorem xo(lo hi:Option Int)(n:Nat):(sliceBounds lo hi none n).1=((HT.Bk n 0 lo:Nat):Int)/\(sliceBounds lo hi none n).2.1=((HT.Bk n n hi:Nat):Int)/\(sliceBounds lo hi none n).2.2=1:=by
 refine⟨?_,?_,rfl⟩
 ·cases lo with
  |none=>simp[sliceBounds,HT.Bk]
  |some i=>
   simp only[sliceBounds,HT.Bk,Option.getD_none,show(1:Int)>0 by decide,if_true]
   by_cases h:i<0
   ·simp only[h,if_true]<;>omega
   ·simp only[h,if_false]<;>omega
 ·cases hi with
  |none=>simp[sliceBounds,HT.Bk]
  |some i=>
   simp only[sliceBounds,HT.Bk,Option.getD_none,show(1:Int)>0 by decide,if_true]
   by_cases h:i<0
   ·simp only[h,if_true]<;>omega
   ·simp only[h,if_false]<;>omega
theorem vk(its:List Value)(lo hi:Option Int):slicePick its.toArray lo hi none=((its.drop (HT.Bk its.length 0 lo)).take (HT.Bk its.length its.length hi-HT.Bk its.length 0 lo)).toArray:=by
 obtain⟨h1,h2,h3⟩:=xo lo hi its.toArray.size
 unfold slicePick
 rw[h1,h2,h3]
 simp only[sliceRange_one,pick_run,List.size_toArray]<;>rfl
noncomputable def V1(K:PySem.W.Frag):V->Option Int->Option Int->Hp->VK->Prop:=λx lo hi H Q=>∃a xs,x=.ref a/\iE K H a xs/\∀p,H p=none->Q (.ref p) (upd H p (.lst (EX xs lo hi)))
theorem Dr:O9 X (V1 X.K):=by
 intro pins s σ H x v vl vu lo hi sl Q I rx hs pl pu h
 obtain⟨a,xs,rfl,hx,q⟩:=h
 cases rx
 obtain⟨its,r,ht,hz⟩:=I.list hx
 have hlen:=r.length
 refine⟨"list",_,slot_list_getitem.lookup,ht.isList.typeIs,?_⟩
 refine wpAny_getItem_list_slice ht.isList hs pl pu .none (by simp) ?_ (by rw[List.size_toArray]<;>omega)
 rw[vk,<-hlen]
 refine⟨.ref s.heap.objs.size,_,I.laid (t':=s.toks) (o:=.lst (EX xs lo hi)) (λb ob q=>Heap.get?_push_of_some _ q) (Nat.le_refl _) ?_,rfl,q _ (I.dZ.fresh (Nat.le_refl _))⟩
 exact⟨Nat.le_trans (zt xs lo hi) hz,_,0,(r.drop (HT.Bk xs.length 0 lo)).take (HT.Bk xs.length xs.length hi-HT.Bk xs.length 0 lo),Heap.get?_push_size _ rfl⟩
noncomputable def iV:V->Bool
 |.non=>true
 |.bl _=>true
 |.int _=>true
 |.str _=>true
 |_=>false
noncomputable def GU:V->V->Bool
 |.non,.non=>true
 |.bl a,.bl b=>a==b
 |.bl a,.int b=>(if a then 1 else 0)==b
 |.int a,.bl b=>a==(if b then 1 else 0)
 |.int a,.int b=>a==b
 |.str a,.str b=>a==b
 |_,_=>false
theorem Hl{A:Around}{s:Shared}{y x:V}{u v:Value}(ry:RelV y u)(rx:RelV x v)(fy:iV y=true)(fx:iV x=true):SeqAt.EqAt A s u v (GU y x):=by
 cases y with
 |non=>
  cases ry
  cases x with
  |non=>cases rx;exact SeqAt.EqAt.same _
  |bl b=>cases rx;exact SeqAt.EqAt.none_bool b
  |int b=>obtain⟨t,rfl⟩:=rx;exact SeqAt.EqAt.none_int b t
  |str b=>obtain⟨t,rfl⟩:=rx;exact SeqAt.EqAt.none_str b t
  |_=>exact absurd (show false=true from fx) Bool.false_ne_true
 |bl a=>
  cases ry
  cases x with
  |non=>cases rx;exact SeqAt.EqAt.bool_none a
  |bl b=>cases rx;exact SeqAt.EqAt.bool_bool a b
  |int b=>obtain⟨t,rfl⟩:=rx;exact SeqAt.EqAt.bool_int a b t
  |str b=>obtain⟨t,rfl⟩:=rx;exact SeqAt.EqAt.bool_str a b t
  |_=>exact absurd (show false=true from fx) Bool.false_ne_true
 |int a=>
  obtain⟨t',rfl⟩:=ry
  cases x with
  |non=>cases rx;exact SeqAt.EqAt.int_none a t'
  |bl b=>cases rx;exact SeqAt.EqAt.int_bool a t' b
  |int b=>obtain⟨t,rfl⟩:=rx;exact SeqAt.EqAt.int_int a t' b t
  |str b=>obtain⟨t,rfl⟩:=rx;exact SeqAt.EqAt.int_str a t' b t
  |_=>exact absurd (show false=true from fx) Bool.false_ne_true
 |str a=>
  obtain⟨t',rfl⟩:=ry
  cases x with
  |non=>cases rx;exact SeqAt.EqAt.str_none a t'
  |bl b=>cases rx;exact SeqAt.EqAt.str_bool a t' b
  |int b=>obtain⟨t,rfl⟩:=rx;exact SeqAt.EqAt.str_int a t' b t
  |str b=>obtain⟨t,rfl⟩:=rx;exact SeqAt.EqAt.str_str a t' b t
  |_=>exact absurd (show false=true from fx) Bool.false_ne_true
 |_=>exact absurd (show false=true from fy) Bool.false_ne_true
noncomputable def BA(x:V)(u:Value):Bool:=match u with
 |.none=>GU .non x
 |.bool b=>GU (.bl b) x
 |.int i _=>GU (.int i) x
 |.str z _=>GU (.str z) x
 |_=>false
theorem Hm{x y:V}{u:Value}(r:RelV y u)(f:iV y=true):BA x u=GU y x:=by
 cases y with
 |non=>cases r;rfl
 |bl b=>cases r;rfl
 |int i=>obtain⟨t,rfl⟩:=r;rfl
 |str z=>obtain⟨t,rfl⟩:=r;rfl
 |_=>exact absurd (show false=true from f) Bool.false_ne_true
theorem oH{x:V}:∀{xs:List V} {us:List Value},Vals xs us->xs.all iV=true->us.any (BA x)=xs.any λy=>GU y x
 |_,_,.nil,_=>rfl
 |y::xs,u::us,.cons r t,f=>by
  rw[List.all_cons,Bool.and_eq_true]at f
  rw[List.any_cons,List.any_cons,Hm r f.1,oH t f.2]
theorem lG{A:Around}{s:Shared}{x:V}{v:Value}(rx:RelV x v)(fx:iV x=true):∀{xs:List V} {us:List Value},Vals xs us->xs.all iV=true->∀u∈us,SeqAt.EqAt A s u v (BA x u)
 |_,_,.nil,_=>λu hu=>by cases hu
 |y::xs,u::us,.cons r t,f=>λu' hu=>by
  rw[List.all_cons,Bool.and_eq_true]at f
  rcases List.mem_cons.mp hu with rfl|hu
  ·rw[Hm r f.1];exact Hl r rx f.1 fx
  ·exact lG rx fx t f.2 u' hu
noncomputable def UN(x:V)(xs:List V):Bool:=xs.any λy=>GU y x
noncomputable def UO(K:PySem.W.Frag)(neg:Bool):R2:=λx y H Q=>∃p xs,y=.ref p/\(iE K H p xs\/ll K H p xs)/\iV x=true/\xs.all iV=true/\Q (.bl (if neg then !UN x xs else UN x xs)) H
theorem EY:js X (compareOp .In) (UO X.K false):=by
 intro pins s σ H x y v u Q I rx ry h
 obtain⟨p,xs,rfl,hq,fx,fs,q⟩:=h
 cases ry
 rcases hq with hq|hq
 ·obtain⟨its,r,pl,hz⟩:=I.list hq
  refine SeqAt.in_listAt (BA x) pl.isList (λw hw=>lG rx fx r fs w (by simpa using hw)) ⟨.bl _,H,I,rfl,?_⟩
  rw[show its.toArray.any (BA x)=its.any (BA x) by simp,oH r fs]
  exact q
 ·obtain⟨its,r,pl,hz⟩:=I.tuple hq
  refine SeqAt.in_tupleAt (BA x) pl (λw hw=>lG rx fx r fs w (by simpa using hw)) ⟨.bl _,H,I,rfl,?_⟩
  rw[show its.toArray.any (BA x)=its.any (BA x) by simp,oH r fs]
  exact q
theorem xp:js X (compareOp .NotIn) (UO X.K true):=by
 intro pins s σ H x y v u Q I rx ry h
 obtain⟨p,xs,rfl,hq,fx,fs,q⟩:=h
 cases ry
 rcases hq with hq|hq
 ·obtain⟨its,r,pl,hz⟩:=I.list hq
  refine SeqAt.notIn_listAt (BA x) pl.isList (λw hw=>lG rx fx r fs w (by simpa using hw)) ⟨.bl _,H,I,rfl,?_⟩
  rw[show its.toArray.any (BA x)=its.any (BA x) by simp,oH r fs]
  exact q
 ·obtain⟨its,r,pl,hz⟩:=I.tuple hq
  refine SeqAt.notIn_tupleAt (BA x) pl (λw hw=>lG rx fx r fs w (by simpa using hw)) ⟨.bl _,H,I,rfl,?_⟩
  rw[show its.toArray.any (BA x)=its.any (BA x) by simp,oH r fs]
  exact q
theorem oI:hX X (.builtin "len") (λxs H Q=>∃p ys,xs=[.ref p]/\(iE X.K H p ys\/ll X.K H p ys)/\Q (.int ys.length) H):=by
 intro pins s σ H xs us Q I r h
 obtain⟨p,ys,rfl,hq,q⟩:=h
 obtain⟨u,rfl,rx⟩:=vals1 r
 cases rx
 have hn:=sV
 rcases hq with hq|hq
 ·obtain⟨its,r',pl,hz⟩:=I.list hq
  have hlen:=r'.length
  exact Calls.call_len_list pl.isList (by simp only[List.size_toArray]<;>omega) ⟨.int ys.length,H,I.tok _,⟨s.toks+1,by rw[List.size_toArray,hlen]⟩,q⟩
 ·obtain⟨its,r',pl,hz⟩:=I.tuple hq
  have hlen:=r'.length
  exact len_tuple pl (by simp only[List.size_toArray]<;>omega) ⟨.int ys.length,H,I.tok _,⟨s.toks+1,by rw[List.size_toArray,hlen]⟩,q⟩
theorem xq:hX X (.builtin "len") (λxs H Q=>∃z,xs=[.str z]/\z.length<=sizeLine/\Q (.int z.length) H):=by
 intro pins s σ H xs us Q I r h
 obtain⟨z,rfl,hz,q⟩:=h
 obtain⟨u,rfl,t,rfl⟩:=vals1 r
 have hn:=sV
 exact len_str (by omega) ⟨.int z.length,H,I.tok _,⟨_,rfl⟩,q⟩
theorem hX.or{f:Value}{r r':List V->Hp->VK->Prop}(h:hX X f r)(h':hX X f r'):hX X f (λxs H Q=>r xs H Q\/r' xs H Q):=by
 intro pins s σ H xs us Q I rs q
 rcases q with q|q
 ·exact h pins s σ H xs us Q I rs q
 ·exact h' pins s σ H xs us Q I rs q
theorem xr:hX X (.type "list") (λxs H Q=>∃p ys,xs=[.ref p]/\(iE X.K H p ys\/ll X.K H p ys)/\∀l,H l=none->Q (.ref l) (upd H l (.lst ys))):=by
 intro pins s σ H xs us Q I r h
 obtain⟨p,ys,rfl,hq,q⟩:=h
 obtain⟨u,rfl,rx⟩:=vals1 r
 cases rx
 have fin:∀(its:List Value),Vals ys its->ys.length<=sizeLine->∀(h':Heap) (c':Nat),(∀b o',s.heap.get? b=some o'->h'.get? b=some o')->
   h'.get? s.heap.objs.size=some {cls:=.type "list",dict:=none,data:=.seq its.toArray c',slots:=#[]}->EP X pins σ Q (.ref s.heap.objs.size) {s with heap:=h'}:=λits r' hz h' c' kp e=>
  ⟨.ref s.heap.objs.size,_,I.laid (t':=s.toks) kp (Nat.le_refl _) (show hU X.prog X.w _ h' _ (.lst ys)from⟨hz,its,c',r',e⟩),rfl,q _ (I.dZ.fresh (Nat.le_refl _))⟩
 rcases hq with hq|hq
 ·obtain⟨its,r',pl,hz⟩:=I.list hq
  have hlen:=r'.length
  obtain⟨o,ho,hc,n,hd⟩:=pl.isList
  exact call_list_seq p (.inl rfl) ho hc hd (λh' c' kp e=>fin its r' hz h' c' kp e) (by simp only[List.size_toArray]<;>omega)
 ·obtain⟨its,r',pl,hz⟩:=I.tuple hq
  have hlen:=r'.length
  obtain⟨o,ho,hc,n,hd⟩:=pl
  exact call_list_seq p (.inr rfl) ho hc hd (λh' c' kp e=>fin its r' hz h' c' kp e) (by simp only[List.size_toArray]<;>omega)
theorem mX:hX X (.type "tuple") (λxs H Q=>∃p ys,xs=[.ref p]/\((iE X.K H p ys/\∀l,H l=none->Q (.ref l) (upd H l (.tup ys)))\/(ll X.K H p ys/\Q (.ref p) H))):=by
 intro pins s σ H xs us Q I r h
 obtain⟨p,ys,rfl,h⟩:=h
 obtain⟨u,rfl,rx⟩:=vals1 r
 cases rx
 rcases h with⟨hq,q⟩|⟨hq,q⟩
 ·obtain⟨its,r',pl,hz⟩:=I.list hq
  have hlen:=r'.length
  refine call_tuple_list pl.isList (λh' kp=>?_) (by simp only[List.size_toArray]<;>omega)
  have I1:Inv X pins σ H {s with heap:=h'}:=I.kept (t':=s.toks) kp
  have I2:Inv X pins σ (upd H h'.objs.size (.tup ys)) {s with heap:=h'.push {cls:=.type "tuple",data:=.seq its.toArray}}:=
   I1.laid (t':=s.toks) (λb o e=>Heap.get?_push_of_some _ e) (Nat.le_refl _) (show hU X.prog X.w _ _ _ (.tup ys)from⟨⟨hz,RC.new⟩,its,r',IsTup.new _ _⟩)
  exact⟨.ref h'.objs.size,_,I2,rfl,q _ (I1.dZ.fresh (Nat.le_refl _))⟩
 ·obtain⟨its,r',pl,hz⟩:=I.tuple hq
  exact call_tuple_same pl ⟨.ref p,H,I,rfl,q⟩
noncomputable def V2(K:PySem.W.Frag)(T:String)(x:V)(H:Hp):Prop:=match x with
 |.str _=>T= "str"
 |.int _=>T= "int"
 |.ref p=>(T= "list" /\∃xs,iE K H p xs)\/(T= "tuple" /\∃o,K.lookup p=some o/\o.cls=.type "tuple" /\o.dict=none)\/
   (T= "dict" /\((∃cF,H p=some (.dK cF))\/∃cF,H p=some (.dT cF)))\/(T= "set" /\∃S n,H p=some (.set S n))
 |_=>False
theorem Ho{pins:List (Addr×Obj)}{σ:St}{H:Hp}{s:Shared}{T:String}{x:V}{v:Value}(I:Inv X pins σ H s)(r:RelV x v)(ty:V2 X.K T x H):
  s.TypeIs v T/\∀a,v=.ref a->∃ob,s.heap.get? a=some ob/\ob.dict=none:=by
 cases x with
 |str z=>
  obtain⟨t,rfl⟩:=r
  cases(show T= "str" from ty)
  exact⟨typeIs_str s z t,λ_ e=>nomatch e⟩
 |int i=>
  obtain⟨t,rfl⟩:=r
  cases(show T= "int" from ty)
  exact⟨typeIs_int s i t,λ_ e=>nomatch e⟩
 |ref p=>
  cases r
  rcases ty with⟨rfl,xs,hq⟩|⟨rfl,o,hk,hc,hd⟩|⟨rfl,hk⟩|⟨rfl,S,n,hk⟩
  ·obtain⟨its,_,pl,_⟩:=I.list hq
   refine⟨pl.isList.typeIs,λa e=>?_⟩
   cases e
   obtain⟨o,n,e,c,hd,_⟩:=pl
   exact⟨o,e,hd⟩
  ·refine⟨⟨o,I.oB p o hk,hc⟩,λa e=>?_⟩
   cases e
   exact⟨o,I.oB _ o hk,hd⟩
  ·have z:∃o,s.heap.get? p=some o/\o.ExactDict:=by
     rcases hk with⟨cF,hk⟩|⟨cF,hk⟩
     ·obtain⟨_,_,_,_,o,_,_,e,ex,_⟩:=I.dZ p _ hk
      exact⟨o,e,ex⟩
     ·obtain⟨_,_,_,_,o,_,_,e,ex,_⟩:=I.dZ p _ hk
      exact⟨o,e,ex⟩
   obtain⟨o,e,ex⟩:=z
   refine⟨⟨o,e,ex.1⟩,λa e2=>?_⟩
   cases e2
   exact⟨o,e,ex.2.1⟩
  ·obtain⟨o,_,_,_,e,ex,_⟩:=I.dZ p _ hk
   refine⟨⟨o,e,ex.1⟩,λa e2=>?_⟩
   cases e2
   exact⟨o,e,ex.2.1⟩
 |_=>exact False.elim ty
noncomputable def V3(K:PySem.W.Frag)(T:String)(r:V->List V->Hp->VK->Prop)(to:TE):TE:=λσ H Q=>to σ H λx H1=>V2 K T x H1/\r x [] H1 Q
noncomputable def XG(K:PySem.W.Frag)(T:String)(r:V->List V->Hp->VK->Prop)(to:TE)(t:TA):TE:=λσ H Q=>to σ H λx H1=>V2 K T x H1/\t σ H1 λxs H2=>r x xs H2 Q
variable{o e:Expr}{es:List Expr}{to:TE}{t:TA}{name:Str}{apos dw:Pos}{T id:String}{r:V->List V->Hp->VK->Prop}
theorem Ph(pa:PlainAttrs T)(slot:Slot T name id)(V4:typeOf (.builtin id)=pure (.type "method_descriptor"))(hm:Pd X id r)(ho:PE X o to)
  (fT:attributeBase o name X.env (eval o X.env)=eval o X.env:=by rfl)(fU:(apos.endLine==dw.line)=true:=by rfl):PE X (.Call (.Attribute o name apos) [] [] dw) (V3 X.K T r to):=by
 intro pins s σ H Q I h
 refine wpAny_Call_method0_late fT fU (de (ho pins s σ H _ I h) λv s1 cv=>?_)
 obtain⟨x,H1,I1,r1,ty,q1⟩:=cv
 obtain⟨h1,h2⟩:=Ho I1 r1 ty
 exact⟨T,id,pa,slot,V4,h1,h2,Calls.callWith_builtin rfl (PySem.evalArgs_none (hm pins s1 σ H1 x [] v [] Q I1 r1 .nil q1))⟩
theorem zu(pa:PlainAttrs T)(slot:Slot T name id)(V4:typeOf (.builtin id)=pure (.type "method_descriptor"))(hm:Pd X id r)(ho:PE X o to)(ha:PA X (e::es) t)
  (fT:attributeBase o name X.env (eval o X.env)=eval o X.env:=by rfl)
  (nB:((backTo dw (starEach (e::es) X.env)).all (λx=>!x.1)&&(backToKw dw (keywordEach [] X.env)).all (λx=>x.1.isSome)
    &&decide ((e::es).length+([]:List Keyword).length+(if([]:List Keyword).isEmpty then 0 else 1)<30))=true:=by rfl)
  (fU:(apos.endLine==dw.line)=true:=by rfl)(hs:starEach (e::es) X.env=(false,eval e X.env)::starEach es X.env:=by rfl)(Pj:(backTo dw (starEach es X.env)).any (·.1)=false:=by rfl):
  PE X (.Call (.Attribute o name apos) (e::es) [] dw) (XG X.K T r to t):=by
 intro pins s σ H Q I h
 refine wpAny_Call_method_late fT nB fU rfl (de (ho pins s σ H _ I h) λv s1 cv=>?_)
 obtain⟨x,H1,I1,r1,ty,q1⟩:=cv
 obtain⟨h1,h2⟩:=Ho I1 r1 ty
 refine⟨T,id,pa,slot,V4,h1,h2,?_⟩
 have hA:=ha dw pins s1 σ H1 _ I1 q1
 rw[hs]at hA⊢
 refine Calls.callWith_builtin (by show(false||(backTo dw (starEach es X.env)).any (·.1))=false;rw[Pj]<;>rfl) (Calls.evalArgs_plain ?_)
 exact de hA λus s2 ⟨vs,H2,I2,r2,q2⟩=>hm pins s2 σ H2 x vs v us Q I2 r1 r2 q2
end
noncomputable def YS(X:Cx)(id:String)(r:V->List V->Hp->VK->Prop):Prop:=
 ∀(pins:List (Addr×Obj)) (s:Shared) (σ:St) (H:Hp) (x:V) (xs:List V) (v:Value) (us:List Value) (Q:VK),Inv X pins σ H s->RelV x v->Vals xs us->r x xs H Q->
  wpAny (model X.prog X.w) X.A (call (.builtin id) (v::us)) (EP X pins σ Q) X.xe s
theorem Vals.one{x:V}{us:List Value}(h:Vals [x] us):∃u,us=[u]/\RelV x u:=by
 cases h with
 |cons r t=>
  cases t
  exact⟨_,rfl,r⟩
theorem Vals.two{x y:V}{us:List Value}(h:Vals [x,y] us):∃u v,us=[u,v]/\RelV x u/\RelV y v:=by
 cases h with
 |cons r t=>
  cases t with
  |cons q t=>
   cases t
   exact⟨_,_,rfl,r,q⟩
section
variable{X:Cx}{pins:List (Addr×Obj)}{σ:St}{H:Hp}{s:Shared}{l b:Addr}{xs ys zs:List V}
theorem Inv.V5{its its':List Value}{n:Nat}{f:Array Value->Array Value}{t':Nat}(I:Inv X pins σ H s)(hH:H l=some (.lst xs))
  (e:s.heap.get? l=some {cls:=.type "list",data:=.seq its.toArray n})(hf:f its.toArray=its'.toArray)(hv:Vals ys its')(hz:ys.length<=sizeLine):
  Inv X pins σ (upd H l (.lst ys)) {s with heap:=s.heap.update l (Obj.mapSeq f),toks:=t'}:=by
 have q:=PySem.IsL.update e f
 rw[hf]at q
 refine I.write (x:=l) (e:=l) (by rw[hH];exact trivial) (.inl rfl) (λb' u hb hu=>(Heap.get?_update_other s.heap (Obj.mapSeq f) (Ne.symm hb)).trans hu) ⟨_,q⟩ ?_
 exact⟨hz,its',_,hv,q⟩
theorem Inv.V6{its:List Value}{t':Nat}(I:Inv X pins σ H s)(hv:Vals ys its)(hz:ys.length<=sizeLine):
  Inv X pins σ (upd H s.heap.objs.size (.lst ys)) {s with heap:=s.heap.push {cls:=.type "list",data:=.seq its.toArray},toks:=t'}:=
 I.laid (λ_ _ q=>Heap.get?_push_of_some _ q) (Nat.le_refl _) ⟨hz,its,0,hv,Heap.get?_push_size _ rfl⟩
theorem Inv.fresh(I:Inv X pins σ H s):H s.heap.objs.size=none:=I.dZ.fresh (Nat.le_refl _)
theorem Inv.V7(I:Inv X pins σ H s)(hH:H l=some (.lst xs)):xs.length<=sizeLine/\∃(its:List Value) (n:Nat),Vals xs its/\xs.length=its.length/\s.heap.get? l=some {cls:=.type "list",data:=.seq its.toArray n}:=by
 obtain⟨z,its,n,r,e⟩:=I.dZ l _ hH
 exact⟨z,its,n,r,r.length,e⟩
end
section
variable{X:Cx}
noncomputable def LG:V->List V->Hp->VK->Prop:=λx vs H Q=>∃l xs y,x=.ref l/\vs=[y]/\H l=some (.lst xs)/\xs.length<sizeLine/\Q .non (upd H l (.lst (xs++[y])))
theorem vT:YS X "list.append" LG:=by
 intro pins s σ H x vs v us Q I rx rv h
 obtain⟨l,xs,y,rfl,rfl,hH,hz,q⟩:=h
 cases rx
 obtain⟨u,rfl,ru⟩:=rv.one
 obtain⟨z,its,n,r,hl,e⟩:=I.V7 hH
 refine call_meets F.slot_list_append ⟨_,e,rfl⟩ F.entry_list_append (F.args_list_append_2 _ _) (PySem.list_append l its.toArray n u (by rw[List.size_toArray];omega)) ⟨e,?_⟩
 refine⟨.non,_,I.V5 (its':=its++[u]) hH e (by simp) (r.append (.cons ru .nil)) ?_,rfl,q⟩
 rw[List.length_append,List.length_singleton]
 omega
end
end L2
namespace Att
open PySem PySem.W PySem.Calls PyProof.Rows
theorem r0{P:Params}{h:Heap}:∀(ns:List Int) (vs:List Value),WellAll P h vs (ns.map WData.int)->IntsAre vs ns:=by
 intro ns
 induction ns with
 |nil=>
  intro vs w
  rw[List.map_nil]at w
  cases w
  exact .nil
 |cons n ns ih=>
  intro vs w
  rw[List.map_cons]at w
  cases w with
  |cons a b=>
   cases a
   exact .cons _ _ (ih _ b)
theorem EZ{l:OpenLaw}{n:Nat}(hn:l.most=some n){P:Params}{h:Heap}{args:List WData}{vals:List Value}
  (LH:l.row.toRowW.claim.pre args=true)(V8:WellAll P h vals args):
  ∃a vs ns,vals=[Value.ref a]/\args=[WData.list (ns.map WData.int)]/\h.get? a=some {cls:=.type "list",data:=.seq vs.toArray}/\IntsAre vs ns/\ns.length<=n:=by
 have YT:WShape.hasAll [] args [.list .int]=true:=(pre_splitW LH).1
 have hc:l.pre.holds [] {args:=args}=true:=(pre_splitW LH).2
 obtain⟨d,r,rfl,h1,h2⟩:=hasAllW_cons YT
 obtain rfl:=hasAllW_nil h2
 obtain⟨xs,rfl,h3⟩:=hasW_list h1
 obtain⟨ns,rfl⟩:=items_int h3
 have hlen:ns.length<=n:=by
  unfold OpenLaw.pre at hc
  have h4:(WTm.not (.lt (.lit (.int (n:Int))) (.len (.arg 0)))).holds [] {args:=[.list (ns.map .int)]}=true:=by
   have h4:=(holds_andW hc).1
   rw[hn]at h4
   exact h4
  have h5:=condW_of h4 (w_not (w_lt w_lit (w_len_list (w_arg rfl))))
  rw[List.length_map]at h5
  refine Nat.le_of_not_lt λq=>?_
  have q':(n:Int)<((ns.length:Nat):Int):=by omega
  first
   |(rw[decide_eq_true q']at h5;exact absurd h5 (by decide))
   |(simp at h5;omega)
 cases V8 with
 |cons w1 w2=>
  cases w2
  cases w1 with
  |list ho xt=>exact⟨_,_,ns,rfl,rfl,ho,r0 ns _ xt,hlen⟩
theorem E1(l:OpenLaw)(args:List WData):l.row.toRowW.claim.post args (.bool true) args=true:=
 postW_of (r:=l.row.toRowW) (X:=(true==true))
  (show WShape.has [] (.bool true) .bool=true by first|rfl|decide|simp[WShape.has,WShape.arms,WShape.armsAll])
  (show(WTm.eq .res (.lit (.bool true))).value [] {args:=args,res:=some (.bool true),after:=args}=some (.bool (true==true))from w_eq_bool (w_res rfl) w_lit) rfl
theorem zw{l:OpenLaw}{n:Nat}{q:Program}{loose:List Str}{XP:(Str->Option Value)->Heap->Prop}{YP:World->Heap->Prop}{d:DefRec}
  (hn:l.most=some n)(V9:d.params.defaults=[])
  (call:∀(w:World) (s₀ s₁:Shared) (mg mb:Str->Option Value) (fa:Addr) (o:Obj) (pm cd doc:Value) (a:Addr) (vs:List Value) (ns:List Int),
    Ground q loose [] XP w s₀ mg mb s₁.heap->YP w s₁.heap->
    s₁.heap.get? fa=some o->o.data=.func (docDef d.name d.params d.body d.scope pm cd doc)->s₁.heap.CodeRec cd d.name->mg d.name=some (.ref fa)->
    s₁.heap.get? a=some {cls:=.type "list",data:=.seq vs.toArray}->IntsAre vs ns->ns.length<=n->s₁.gens=#[]->
    codeAny (model l.prog w) callerA (.call (.ref fa) ⟨[.ref a],[]⟩) (λr s'=>r=.ok (.ret (.bool true))/\OldK s₁.heap s'.heap/\s'.os=s₁.os/\AllBare s'.gens) s₁):
  WalkO q loose XP YP l.row.toRowW d [] (λf vs=>PySem.call f vs):=by
 intro w s₀ s₁ mg mb G Y fa o pm cd doc dV kV ho hd rh hD S1 hg args vals as LH YU hrd V8 hlo
 obtain rfl:dV=.none:=Dflts.none hD V9
 obtain rfl:kV=.none:=Dflts.noKw hD
 obtain⟨a,vs,ns,rfl,rfl,Pk,hints,hlen⟩:=EZ hn LH V8
 refine enter_call (codeAny_mono (call w s₀ s₁ mg mb fa o pm cd doc a vs ns G Y ho (fd_plain hd) rh S1 Pk hints hlen hg) λr s' hq=>?_)
 obtain⟨rfl,h2,h3,h4⟩:=hq
 exact⟨.inl ⟨.bool true,.bool true,[],rfl,λ_=>rfl,.bool true,E1 l _,λ_=>⟨List.Pairwise.nil,λ_ hm=>(nomatch hm)⟩⟩,h2,h3,h4⟩
end Att
namespace L2
open PySem PySem.Spec PyProof.Rows
theorem qq:∀{vs:List Value} {ns:List Int},IntsAre vs ns->Vals (ns.map V.int) vs
 |_,_,.nil=>.nil
 |_,_,.cons n t h=>.cons ⟨t,rfl⟩ (qq h)
noncomputable def S2(H:Hp):Prop:=∀b,H b=none\/∃o xs,H b=some (.frz o (.lst xs))
noncomputable def mH(s:Stmt):Arguments:=match s with
 |.FunctionDef _ a _ _ _ _ _ _ _ _=>a
 |_=>{posonlyargs:=[],args:=[],vararg:=none,kwonlyargs:=[],kw_defaults:=[],kwarg:=none,defaults:=[]}
noncomputable def gX(s:Stmt):List Stmt:=match s with
 |.FunctionDef _ _ b _ _ _ _ _ _ _=>b
 |_=>[]
noncomputable def ao(s:Stmt):Scope:=match s with
 |.FunctionDef _ _ _ _ _ _ sc _ _ _=>sc
 |_=>{kind:=.function,names:=[],isGenerator:=false,isCoroutine:=false}
noncomputable abbrev bL:Hg:=λ_ _ _ _ _ _=>False
noncomputable abbrev E0:XK:=λ_ _ _=>False
theorem iA{X:Cx}:Passes bL X E0:=λ_ _ _ _ _ _ _ h=>h.elim
structure rq(K:PySem.W.Frag)(x qual:Str)(st:Stmt)(f:Addr)(fd:FuncData):Prop where
 ex:∃(oc:Value) (od:Option Addr) (kV doc pm:Value) (an:Option Addr) (dh ct:Value) (Nv:Array (Option Value)),
  fd=PySem.W.fnOf x qual (mH st) (gX st) (ao st) .none kV doc pm an dh ct/\K.lookup f=some ⟨oc,od,.func fd,Nv⟩/\PySem.W.codeIn K dh qual=true
 kp:PySem.W.keepIn K (.ref f)=true
section
variable{P:Program}{w:World}{K:PySem.W.Frag}{mg:Str->Option Value}{base:Heap}
theorem rq.ok{x qual:Str}{st:Stmt}{f:Addr}{fd:FuncData}{N ps:List Str}{k:Nat}{sp:Sp}(F:rq K x qual st f fd)(S:aK N ps (ao st))(len:∀vs H Q E,sp vs H Q E->vs.length=ps.length)
  (Hi:∀(dh:Value) (A:Around) (outer:List Env) (s:Shared) (H:Hp) (vs:List V) (Q:VK) (E:XK),b7 k (A.deeper (envOfC qual (ao st) s.heap.objs.size f dh))->sp vs H Q E->
    ∃t,Bi (xm bL P w K mg base N qual (ao st) f dh A outer s H E).G3 (gX st) t/\t {nx:=λ_ H'=>Q .non H',rt:=Q} (start N vs) H):aG P w K mg base bL (k+1) f fd ps sp:=by
 obtain⟨oc,od,kV,doc,pm,an,dh,ct,Nv,rfl,lk,rh⟩:=F.ex
 refine SR lk rh S len λA outer s H vs Q E hr Nw=>?_
 obtain⟨t,h,q⟩:=Hi dh A outer s H vs Q E hr Nw
 exact⟨t,h.G3,q⟩
theorem rq.binds{x qual:Str}{st:Stmt}{f:Addr}{fd:FuncData}{ps:List Str}(F:rq K x qual st f fd)
  (h:∀(kV doc pm:Value) (an:Option Addr) (dh ct:Value) (us:List Value),us.length=ps.length->bindArgs (PySem.W.fnOf x qual (mH st) (gX st) (ao st) .none kV doc pm an dh ct) ⟨us,[]⟩=pure (ps.zip us)):Binds K fd ps []:=by
 obtain⟨oc,od,kV,doc,pm,an,dh,ct,Nv,rfl,lk,rh⟩:=F.ex
 exact .all (h kV doc pm an dh ct)
theorem Pl{x qual:Str}{st:Stmt}{f:Addr}{oc:Value}{od an:Option Addr}{Nv:Array (Option Value)}{kV doc pm dh ct:Value}(l:K.lookup f=some ⟨oc,od,.func (PySem.W.fnOf x qual (mH st) (gX st) (ao st) .none kV doc pm an dh ct),Nv⟩)
 (c:PySem.W.codeIn K dh qual=true)(k:PySem.W.keepIn K (.ref f)=true):rq K x qual st f (PySem.W.fnOf x qual (mH st) (gX st) (ao st) .none kV doc pm an dh ct):=⟨⟨oc,od,kV,doc,pm,an,dh,ct,Nv,rfl,l,c⟩,k⟩
end
section
variable{X:Cx}
theorem pv(i:Nat){x:Str}{pos:Pos}(hN:X.N[i]?=some x:=by rfl)(hv:Bh X.env.scope x:=by first|exact Or.inl rfl|exact Or.inr (Or.inl rfl)|exact Or.inr (Or.inr rfl))(hd:(x==("__debug__" :Str))=false:=by decide)
 (rh:(x==("__classdict__" :Str))=false:=by decide):PE X (.Name x pos) (nu i):=eN hN hv hd rh
end
noncomputable def aI(H H':Hp):Prop:=∀b o,H b=some o->H' b=some o
theorem aI.refl(H:Hp):aI H H:=λ_ _ h=>h
theorem aI.trans{H H1 H2:Hp}(a:aI H H1)(b:aI H1 H2):aI H H2:=λc o h=>b c o (a c o h)
theorem aI.free{H H':Hp}(e:aI H H'){l:Addr}(h:H' l=Option.none):H l=Option.none:=by
 cases q:H l with
 |none=>rfl
 |some o=>
  rw[e l o q]at h
  cases h
end L2
namespace TS
open PySem PyProof.Rows
noncomputable def zx(prog:Program)(w:World)(A:Around)(E:Value->Shared->Prop)(s:Shared)(kd:SortKind)(G:Keyed->Prop)(rk:Keyed->Nat):Prop:=
 ∀(p q:Keyed) (st:SortSt) (Q:Option Bool->SortSt->Prop),kindOf st=kd->G p->G q->Q (some (decide (rk p<rk q))) st->wpS (model prog w) A E s (lt' p q) Q st
noncomputable def R(rk:Keyed->Nat)(xs:Array Keyed)(i:Nat):Nat:=match xs[i]? with
 |some p=>rk p
 |none=>0
noncomputable def Gd(G:Keyed->Prop)(xs:Array Keyed):Prop:=∀p∈xs.toList,G p
theorem Gd.at{G:Keyed->Prop}{rk:Keyed->Nat}{xs:Array Keyed}(h:Gd G xs){i:Nat}(hi:i<xs.size):∃p,xs[i]?=some p/\G p/\R rk xs i=rk p:=by
 refine⟨xs[i],getElem?_pos xs i hi,h _ (by simp),?_⟩
 unfold R
 rw[getElem?_pos xs i hi]
theorem BB{rk:Keyed->Nat}{xs:Array Keyed}{i:Nat}{p:Keyed}(h:xs[i]?=some p):R rk xs i=rk p:=by
 unfold R
 rw[h]
noncomputable def ki(rk:Keyed->Nat)(left:Bool)(key:Keyed)(xs:Array Keyed)(base i:Nat):Bool:=
 if left then decide (R rk xs (base+i)<rk key)else !decide (rk key<R rk xs (base+i))
noncomputable def oJ:Bool->Keyed->Array Keyed->Nat->Nat->Nat->StateT SortSt Sem (Option Nat):=sortPriv% PySem.Builtin.gallop
noncomputable def Hq:Array Keyed->Array Keyed->StateT SortSt Sem (Array Keyed):=sortPriv% PySem.Builtin.mergeLo
noncomputable def Hr:Array Keyed->Array Keyed->StateT SortSt Sem (Array Keyed):=sortPriv% PySem.Builtin.mergeHi
noncomputable def oK:Nat->StateT SortSt Sem Unit:=sortPriv% PySem.Builtin.setMinGallop
section
variable{prog:Program}{w:World}{A:Around}{E:Value->Shared->Prop}{s:Shared}{kd:SortKind}{G:Keyed->Prop}{rk:Keyed->Nat}
theorem bY{xs:Array Keyed}{i:Nat}{p:Keyed}{Q:Keyed->SortSt->Prop}{st:SortSt}{M:Model}(h:xs[i]?=some p)(q:Q p st):wpS M A E s (elem' xs i) Q st:=by
 rw[elem'_eq,h]
 exact wpS_pure q
theorem tf(C:zx prog w A E s kd G rk){left:Bool}{key:Keyed}{xs:Array Keyed}{base i:Nat}{st:SortSt}{Q:Option Bool->SortSt->Prop}(hk:kindOf st=kd)(hG:Gd G xs)(vi:G key)(hi:base+i<xs.size)
  (q:Q (some (ki rk left key xs base i)) st):wpS (model prog w) A E s (elem' xs (base+i)>>=λx=>if left=true then lt' x key else lt' key x>>=λr=>pure (Option.map (λb=>!b) r)) Q st:=by
 obtain⟨p,e,g,r⟩:=hG.at (rk:=rk) hi
 refine wpS_bind (bY e ?_)
 unfold ki at q
 rw[r]at q
 cases left with
 |true=>
  rw[if_pos rfl]at q⊢
  exact C p key st Q hk g vi q
 |false=>
  rw[if_neg (by decide)]at q⊢
  exact wpS_bind (C key p st _ hk vi g (wpS_pure q))
theorem zy{M:Model}{n:Nat}{f:Nat->Option (Option Nat)×Nat×Nat->StateT SortSt Sem (ForInStep (Option (Option Nat)×Nat×Nat))}{p:Nat->Bool}{st:SortSt}{Q:Option (Option Nat)×Nat×Nat->SortSt->Prop}
  (hs:∀(x lo hi:Nat) Q',lo<hi->hi<=n->Q' (ForInStep.yield (none,if p (lo+(hi-lo)/2)=true then lo+(hi-lo)/2+1 else lo,if p (lo+(hi-lo)/2)=true then hi else lo+(hi-lo)/2)) st->wpS M A E s (f x (none,lo,hi)) Q' st)
  (hd:∀(x lo hi:Nat) Q',hi<=lo->Q' (ForInStep.done (none,lo,hi)) st->wpS M A E s (f x (none,lo,hi)) Q' st)
  (mono:∀i j,i<=j->j<n->p j=true->p i=true){lo hi:Nat}(h1:lo<=hi)(h2:hi<=n)(h3:∀i,i<lo->p i=true)(h4:∀i,hi<=i->i<n->p i=false)
  (q:∀k,k<=n->(∀i,i<k->p i=true)->(∀i,k<=i->i<n->p i=false)->Q (none,k,k) st):wpS M A E s (forIn [:n] (none,lo,hi) f) Q st:=by
 refine wpS_forRange (I:=λx c aV=>aV=st/\∃l h,c=(none,l,h)/\l<=h/\h<=n/\h-l<=n-x/\(∀i,i<l->p i=true)/\∀i,h<=i->i<n->p i=false) ?_ ?_ ⟨rfl,lo,hi,rfl,h1,h2,by omega,h3,h4⟩
 ·rintro x c aV-hx ⟨rfl,l,h,rfl,a1,a2,a3,a4,a5⟩
  by_cases jW:l<h
  ·refine hs x l h _ jW a2 ?_
   have hm:l+(h-l)/2<h:=by omega
   cases e:p (l+(h-l)/2)with
   |true=>
    refine⟨rfl,l+(h-l)/2+1,h,by simp,by omega,a2,by omega,λi hi=>?_,a5⟩
    exact mono i (l+(h-l)/2) (by omega) (by omega) e
   |false=>
    refine⟨rfl,l,l+(h-l)/2,by simp,by omega,by omega,by omega,a4,λi b1 b2=>?_⟩
    cases e2:p i with
    |false=>rfl
    |true=>
     rw[mono _ i b1 b2 e2]at e
     cases e
  ·refine hd x l h _ (by omega) ?_
   obtain rfl:l=h:=by omega
   exact q l a2 a4 a5
 ·rintro c aV ⟨rfl,l,h,rfl,a1,a2,a3,a4,a5⟩
  obtain rfl:l=h:=by omega
  exact q l a2 a4 a5
theorem zz{M:Model}{n mx:Nat}{f:Nat->Option (Option Nat)×Nat×Nat->StateT SortSt Sem (ForInStep (Option (Option Nat)×Nat×Nat))}{g:Nat->Bool}{st:SortSt}{Q:Option (Option Nat)×Nat×Nat->SortSt->Prop}(h1:1<=mx)(hn:mx<=n)
  (hd:∀(x l o:Nat) Q',mx<=o->Q' (ForInStep.done (none,l,o)) st->wpS M A E s (f x (none,l,o)) Q' st)
  (hs:∀(x l o:Nat) Q',o<mx->Q' (if g o=true then ForInStep.yield (none,o,2*o+1)else ForInStep.done (none,l,o)) st->wpS M A E s (f x (none,l,o)) Q' st)
  (q:∀l o,l<o->l<mx->(l=0\/g l=true)->(mx<=o\/(o<mx/\g o=false))->Q (none,l,o) st):wpS M A E s (forIn [:n] (none,0,1) f) Q st:=by
 refine wpS_forRange (I:=λx c aV=>aV=st/\∃l o,c=(none,l,o)/\l<o/\l<mx/\x+1<=o/\(l=0\/g l=true)) ?_ ?_ ⟨rfl,0,1,rfl,by omega,by omega,by omega,.inl rfl⟩
 ·rintro x c aV-hx ⟨rfl,l,o,rfl,a1,a2,a3,a4⟩
  by_cases jW:o<mx
  ·refine hs x l o _ jW ?_
   cases e:g o with
   |true=>exact⟨rfl,o,2*o+1,rfl,by omega,jW,by omega,.inr e⟩
   |false=>exact q l o a1 a2 a4 (.inr ⟨jW,e⟩)
  ·exact hd x l o _ (by omega) (q l o a1 a2 a4 (.inl (by omega)))
 ·rintro c aV ⟨rfl,l,o,rfl,a1,a2,a3,a4⟩
  exact q l o a1 a2 a4 (.inl (by omega))
theorem iN(C:zx prog w A E s kd G rk){left:Bool}{key:Keyed}{xs:Array Keyed}{base n hint:Nat}{st:SortSt}{Q:Option Nat->SortSt->Prop}(hk:kindOf st=kd)(hG:Gd G xs)(vi:G key)(hb:base+n<=xs.size)(hh:hint<n)
  (mono:∀i j,i<=j->j<n->ki rk left key xs base j=true->ki rk left key xs base i=true)
  (q:∀k,k<=n->(∀i,i<k->ki rk left key xs base i=true)->(∀i,k<=i->i<n->ki rk left key xs base i=false)->Q (some k) st):wpS (model prog w) A E s (oJ left key xs base n hint) Q st:=by
 have Hs:∀i j,i<=j->j<n->ki rk left key xs base i=false->ki rk left key xs base j=false:=λi j h1 h2 h3=>by
  cases e:ki rk left key xs base j with
  |false=>rfl
  |true=>
   rw[mono i j h1 h2 e]at h3
   cases h3
 refine wpS_bind (tf C hk hG vi (by omega) ?_)
 cases e0:ki rk left key xs base hint with
 |true=>
  refine wpS_bind (zz (n:=n) (mx:=n-hint) (g:=λo=>ki rk left key xs base (hint+o)) (by omega) (by omega) (λx l o Q' ho q'=>?_) (λx l o Q' ho q'=>?_) λl o a1 a2 a3 a4=>?_)
  ·dsimp only
   rw[if_pos ho]
   exact wpS_pure q'
  ·dsimp only
   rw[if_neg (by omega)]
   refine wpS_bind (tf C hk hG vi (by omega) ?_)
   cases e:ki rk left key xs base (hint+o)with
   |true=>
    rw[e]at q'
    exact wpS_pure q'
   |false=>
    rw[e]at q'
    exact wpS_pure q'
  ·refine wpS_bind (zy (p:=λi=>ki rk left key xs base i) (λx lo hi Q' b1 b2 q'=>?_) (λx lo hi Q' b1 q'=>?_) mono (lo:=hint+l+1) (hi:=hint+min o (n-hint)) (by omega) (by omega) (λi hi=>?_) (λi b1 b2=>?_) λk c1 c2 c3=>?_)
   ·dsimp only
    rw[if_neg (by omega)]
    refine wpS_bind (tf C hk hG vi (by omega) ?_)
    cases e:ki rk left key xs base (lo+(hi-lo)/2)with
    |true=>
     rw[e]at q'
     exact wpS_pure q'
    |false=>
     rw[e]at q'
     exact wpS_pure q'
   ·dsimp only
    rw[if_pos b1]
    exact wpS_pure q'
   ·rcases a3 with a3|a3
    ·exact mono i hint (by omega) hh e0
    ·exact mono i (hint+l) (by omega) (by omega) a3
   ·rcases a4 with a4|⟨a4,a5⟩
    ·omega
    ·exact Hs (hint+o) i (by omega) b2 a5
   ·exact wpS_pure (q k c1 c2 c3)
 |false=>
  refine wpS_bind (zz (n:=n) (mx:=hint+1) (g:=λo=>!ki rk left key xs base (hint-o)) (by omega) (by omega) (λx l o Q' ho q'=>?_) (λx l o Q' ho q'=>?_) λl o a1 a2 a3 a4=>?_)
  ·dsimp only
   rw[if_pos ho]
   exact wpS_pure q'
  ·dsimp only
   rw[if_neg (by omega)]
   refine wpS_bind (tf C hk hG vi (by omega) ?_)
   cases e:ki rk left key xs base (hint-o)with
   |true=>
    rw[e]at q'
    exact wpS_pure q'
   |false=>
    rw[e]at q'
    exact wpS_pure q'
  ·refine wpS_bind (zy (p:=λi=>ki rk left key xs base i) (λx lo hi Q' b1 b2 q'=>?_) (λx lo hi Q' b1 q'=>?_) mono (lo:=hint+1-min o (hint+1)) (hi:=hint-l) (by omega) (by omega) (λi hi=>?_) (λi b1 b2=>?_) λk c1 c2 c3=>?_)
   ·dsimp only
    rw[if_neg (by omega)]
    refine wpS_bind (tf C hk hG vi (by omega) ?_)
    cases e:ki rk left key xs base (lo+(hi-lo)/2)with
    |true=>
     rw[e]at q'
     exact wpS_pure q'
    |false=>
     rw[e]at q'
     exact wpS_pure q'
   ·dsimp only
    rw[if_pos b1]
    exact wpS_pure q'
   ·rcases a4 with a4|⟨a4,a5⟩
    ·omega
    ·refine mono i (hint-o) (by omega) (by omega) ?_
     simpa using a5
   ·rcases a3 with a3|a3
    ·exact Hs hint i (by omega) b2 e0
    ·exact Hs (hint-l) i (by omega) b2 (by simpa using a3)
   ·exact wpS_pure (q k c1 c2 c3)
end
noncomputable def Sd(rk:Keyed->Nat)(l:List Keyed):Prop:=l.Pairwise λp q=>rk p<=rk q
theorem Sd.sub{rk:Keyed->Nat}{l m:List Keyed}(h:Sd rk m)(hs:l.Sublist m):Sd rk l:=List.Pairwise.sublist hs h
theorem Sd.left{rk:Keyed->Nat}{l m:List Keyed}(h:Sd rk (l++m)):Sd rk l:=h.sub (List.sublist_append_left _ _)
theorem Sd.right{rk:Keyed->Nat}{l m:List Keyed}(h:Sd rk (l++m)):Sd rk m:=h.sub (List.sublist_append_right _ _)
theorem Sd.vU{rk:Keyed->Nat}{l m:List Keyed}(h:Sd rk (l++m)):∀x∈l,∀y∈m,rk x<=rk y:=(List.pairwise_append.mp h).2.2
theorem Sd.app{rk:Keyed->Nat}{l m:List Keyed}(h1:Sd rk l)(h2:Sd rk m)(h3:∀x∈l,∀y∈m,rk x<=rk y):Sd rk (l++m):=List.pairwise_append.mpr ⟨h1,h2,h3⟩
theorem Sd.nil{rk:Keyed->Nat}:Sd rk []:=List.Pairwise.nil
theorem Sd.one{rk:Keyed->Nat}(p:Keyed):Sd rk [p]:=List.pairwise_singleton _ _
theorem xu{rk:Keyed->Nat}{xs:Array Keyed}{i:Nat}{p:Keyed}(h:xs.toList[i]?=some p):R rk xs i=rk p:=BB (by simpa using h)
theorem cR{xs:Array Keyed}{i:Nat}(h:i<xs.size):∃p,xs.toList[i]?=some p/\xs[i]?=some p/\p∈xs.toList:=⟨xs[i],by simp[h],by simp[h],by simp⟩
theorem eJ{l:List Keyed}{x:Keyed}{i k:Nat}(h:x∈(l.drop i).take k):∃j,j<k/\l[i+j]?=some x:=by
 obtain⟨j,hj,e⟩:=List.mem_iff_getElem.mp h
 rw[List.getElem_take,List.getElem_drop]at e
 rw[List.length_take,List.length_drop]at hj
 exact⟨j,by omega,List.getElem?_eq_some_iff.mpr ⟨by omega,e⟩⟩
theorem jZ{l:List Keyed}{x:Keyed}{i:Nat}(h:x∈l.drop i):∃j,l[i+j]?=some x:=by
 obtain⟨j,hj,e⟩:=List.mem_iff_getElem.mp h
 rw[List.getElem_drop]at e
 rw[List.length_drop]at hj
 exact⟨j,List.getElem?_eq_some_iff.mpr ⟨by omega,e⟩⟩
theorem tj{l:List Keyed}{x:Keyed}{i:Nat}(h:x∈l.take i):∃j,j<i/\l[j]?=some x:=by
 have h':x∈(l.drop 0).take i:=by simpa using h
 simpa using eJ h'
theorem tm{rk:Keyed->Nat}{l:List Keyed}(h:Sd rk l){i j:Nat}{p q:Keyed}(vc:i<=j)(hp:l[i]?=some p)(hq:l[j]?=some q):rk p<=rk q:=by
 obtain⟨h1,e1⟩:=List.getElem?_eq_some_iff.mp hp
 obtain⟨h2,e2⟩:=List.getElem?_eq_some_iff.mp hq
 rcases Nat.lt_or_ge i j with hl|hl
 ·have:=List.pairwise_iff_getElem.mp h i j h1 h2 hl
  rw[e1,e2]at this
  exact this
 ·obtain rfl:i=j:=by omega
  rw[hp]at hq
  cases hq
  exact Nat.le_refl _
theorem sC{rk:Keyed->Nat}{l:List Keyed}{b:Nat}(h:Sd rk (l.drop b)){i j:Nat}{p q:Keyed}(vc:i<=j)(hp:l[b+i]?=some p)(hq:l[b+j]?=some q):rk p<=rk q:=
 tm h vc (by simpa using hp) (by simpa using hq)
theorem Ds{rk:Keyed->Nat}{l:List Keyed}{b:Nat}(h:Sd rk (l.take b)){i j:Nat}{p q:Keyed}(vc:i<=j)(hj:j<b)(hp:l[i]?=some p)(hq:l[j]?=some q):rk p<=rk q:=
 tm h vc (by rw[List.getElem?_take,if_pos (by omega)];exact hp) (by rw[List.getElem?_take,if_pos (by omega)];exact hq)
structure ML(rk:Keyed->Nat)(la lb o:List Keyed)(ia ib:Nat):Prop where
 pm:o.Perm (la.take ia++lb.take ib)
 sa:Sd rk (o++la.drop ia)
 sb:Sd rk (o++lb.drop ib)
theorem ML.ga{rk:Keyed->Nat}{la lb o:List Keyed}{ia ib:Nat}(m:ML rk la lb o ia ib)(k:Nat)(h:∀x∈(la.drop ia).take k,∀y∈lb.drop ib,rk x<=rk y):ML rk la lb (o++(la.drop ia).take k) (ia+k) ib:=by
 have e:(la.drop ia).take k++la.drop (ia+k)=la.drop ia:=by rw[<-List.drop_drop,List.take_append_drop]
 refine⟨?_,?_,?_⟩
 ·rw[List.take_add]
  refine(m.pm.append_right _).trans ?_
  rw[List.append_assoc,List.append_assoc]
  exact List.Perm.append_left _ List.perm_append_comm
 ·rw[List.append_assoc,e]
  exact m.sa
 ·refine Sd.app ?_ m.sb.right λx hx y hy=>?_
  ·have:=m.sa
   rw[<-e,<-List.append_assoc]at this
   exact this.left
  ·rcases List.mem_append.mp hx with hx|hx
   ·exact m.sb.vU x hx y hy
   ·exact h x hx y hy
theorem ML.swap{rk:Keyed->Nat}{la lb o:List Keyed}{ia ib:Nat}(m:ML rk la lb o ia ib):ML rk lb la o ib ia:=⟨m.pm.trans List.perm_append_comm,m.sb,m.sa⟩
theorem ML.gb{rk:Keyed->Nat}{la lb o:List Keyed}{ia ib:Nat}(m:ML rk la lb o ia ib)(k:Nat)(h:∀x∈(lb.drop ib).take k,∀y∈la.drop ia,rk x<=rk y):ML rk la lb (o++(lb.drop ib).take k) ia (ib+k):=(m.swap.ga k h).swap
theorem jt{l:List Keyed}{i:Nat}{p:Keyed}(h:l[i]?=some p):(l.drop i).take 1=[p]:=by
 obtain⟨h1,e1⟩:=List.getElem?_eq_some_iff.mp h
 rw[List.drop_eq_getElem_cons h1,e1]
 rfl
theorem ML.pa{rk:Keyed->Nat}{la lb o:List Keyed}{ia ib:Nat}(m:ML rk la lb o ia ib){p q:Keyed}(hp:la[ia]?=some p)(hq:lb[ib]?=some q)(h:rk p<=rk q):ML rk la lb (o++[p]) (ia+1) ib:=by
 have:=m.ga 1 (λx hx y hy=>by
  rw[jt hp]at hx
  obtain rfl:x=p:=by simpa using hx
  obtain⟨j,e⟩:=jZ hy
  exact Nat.le_trans h (sC m.sb.right (Nat.zero_le j) hq e))
 rw[jt hp]at this
 exact this
theorem ML.pb{rk:Keyed->Nat}{la lb o:List Keyed}{ia ib:Nat}(m:ML rk la lb o ia ib){p q:Keyed}(hp:la[ia]?=some p)(hq:lb[ib]?=some q)(h:rk q<=rk p):ML rk la lb (o++[q]) ia (ib+1):=(m.swap.pa hq hp h).swap
noncomputable def Mg(rk:Keyed->Nat)(la lb:List Keyed)(o:Array Keyed):Prop:=o.toList.Perm (la++lb)/\Sd rk o.toList
theorem mI{xs:Array Keyed}{i:Nat}:(xs.extract i xs.size).toList=xs.toList.drop i:=by
 rw[Array.toList_extract]
 unfold List.extract
 rw[List.take_of_length_le]
 rw[List.length_drop,Array.length_toList]
 exact Nat.le_refl _
theorem j0{xs:Array Keyed}{i k:Nat}:(xs.extract i (i+k)).toList=(xs.toList.drop i).take k:=by
 rw[Array.toList_extract]
 unfold List.extract
 congr 1
 omega
theorem ML.vV{rk:Keyed->Nat}{a b o:Array Keyed}{ia ib:Nat}(m:ML rk a.toList b.toList o.toList ia ib)(h:ib=b.size):Mg rk a.toList b.toList (o++a.extract ia a.size++b.extract ib b.size):=by
 unfold Mg
 rw[Array.toList_append,Array.toList_append,mI,mI]
 have e:b.toList.drop ib=[]:=List.drop_eq_nil_of_le (by simp[h])
 have e2:b.toList.take ib=b.toList:=List.take_of_length_le (by simp[h])
 have q:=m.pm
 rw[e2]at q
 rw[e,List.append_nil]
 refine⟨?_,m.sa⟩
 refine(q.append_right _).trans ?_
 refine(List.perm_append_comm.append_right _).trans ?_
 rw[List.append_assoc,List.take_append_drop]
 exact List.perm_append_comm
theorem ML.vW{rk:Keyed->Nat}{a b o:Array Keyed}{ia ib:Nat}(m:ML rk a.toList b.toList o.toList ia ib)(h:ia=a.size):Mg rk a.toList b.toList (o++a.extract ia a.size++b.extract ib b.size):=by
 unfold Mg
 rw[Array.toList_append,Array.toList_append,mI,mI]
 have e:a.toList.drop ia=[]:=List.drop_eq_nil_of_le (by simp[h])
 have e2:a.toList.take ia=a.toList:=List.take_of_length_le (by simp[h])
 have q:=m.pm
 rw[e2]at q
 rw[e,List.append_nil]
 refine⟨?_,m.sb⟩
 refine(q.append_right _).trans ?_
 rw[List.append_assoc,List.take_append_drop]
theorem ML.last{rk:Keyed->Nat}{a b o:Array Keyed}{ia ib:Nat}(m:ML rk a.toList b.toList o.toList ia ib)(h:ia+1=a.size){z:Keyed}(hz:a.toList[ia]?=some z)(hb:∀y∈b.toList,rk y<=rk z):
  Mg rk a.toList b.toList (o++b.extract ib b.size++a.extract ia a.size):=by
 unfold Mg
 rw[Array.toList_append,Array.toList_append,mI,mI]
 have e:a.toList.drop ia=[z]:=by
  rw[<-jt hz,List.take_of_length_le]
  simp
  omega
 refine⟨?_,?_⟩
 ·refine((m.pm.append_right _).append_right _).trans ?_
  rw[List.append_assoc,List.append_assoc]
  have e1:a.toList++b.toList=a.toList.take ia++(a.toList.drop ia++b.toList):=by rw[<-List.append_assoc,List.take_append_drop]
  rw[e1]
  refine List.Perm.append_left _ ?_
  rw[<-List.append_assoc,List.take_append_drop]
  exact List.perm_append_comm
 ·refine Sd.app m.sb m.sa.right λx hx y hy=>?_
  rcases List.mem_append.mp hx with hx|hx
  ·exact m.sa.vU x hx y hy
  ·rw[e]at hy
   obtain rfl:y=z:=by simpa using hy
   exact hb x (List.mem_of_mem_drop hx)
structure Sm(st aV:SortSt):Prop where
 k:kindOf aV=kindOf st
 a:arrOf aV=arrOf st
 p:pendingOf aV=pendingOf st
 f:failedOf aV=failedOf st
theorem Sm.refl(st:SortSt):Sm st st:=⟨rfl,rfl,rfl,rfl⟩
theorem Sm.trans{st aV Ht:SortSt}(x:Sm st aV)(y:Sm aV Ht):Sm st Ht:=⟨y.k.trans x.k,y.a.trans x.a,y.p.trans x.p,y.f.trans x.f⟩
section
variable{prog:Program}{w:World}{A:Around}{E:Value->Shared->Prop}{s:Shared}{kd:SortKind}{G:Keyed->Prop}{rk:Keyed->Nat}
theorem qr{M:Model}{g:Nat}{st:SortSt}{Q:Unit->SortSt->Prop}(q:∀aV,Sm st aV->Q () aV):wpS M A E s (oK g) Q st:=wpS_modify (q _ ⟨rfl,rfl,rfl,rfl⟩)
theorem tq{key:Keyed}{xs:Array Keyed}{b n:Nat}(h:Sd rk (xs.toList.drop b))(hn:b+n<=xs.size)(left:Bool):∀i j,i<=j->j<n->ki rk left key xs b j=true->ki rk left key xs b i=true:=by
 intro i j vc hj
 obtain⟨p,p1,p2,p3⟩:=cR (xs:=xs) (i:=b+i) (by omega)
 obtain⟨q,q1,q2,q3⟩:=cR (xs:=xs) (i:=b+j) (by omega)
 have:=sC h vc p1 q1
 unfold ki
 rw[BB p2,BB q2]
 cases left<;>simp<;>omega
theorem tu{key:Keyed}{xs:Array Keyed}{n:Nat}(h:Sd rk (xs.toList.take n))(hn:n<=xs.size)(left:Bool):∀i j,i<=j->j<n->ki rk left key xs 0 j=true->ki rk left key xs 0 i=true:=by
 intro i j vc hj
 obtain⟨p,p1,p2,p3⟩:=cR (xs:=xs) (i:=0+i) (by omega)
 obtain⟨q,q1,q2,q3⟩:=cR (xs:=xs) (i:=0+j) (by omega)
 have:=Ds h (i:=0+i) (j:=0+j) (by omega) (by omega) p1 q1
 unfold ki
 rw[BB p2,BB q2]
 cases left<;>simp<;>omega
theorem vX{key p:Keyed}{xs:Array Keyed}{b i:Nat}(hp:xs.toList[b+i]?=some p):ki rk true key xs b i=decide (rk p<rk key):=by
 unfold ki
 rw[xu hp]
 rfl
theorem vY{key p:Keyed}{xs:Array Keyed}{b i:Nat}(hp:xs.toList[b+i]?=some p):ki rk false key xs b i=decide (rk p<=rk key):=by
 unfold ki
 rw[xu hp,if_neg (by decide)]
 by_cases h:rk p<=rk key
 ·rw[decide_eq_true h,decide_eq_false (by omega)]
  rfl
 ·rw[decide_eq_false h,decide_eq_true (by omega)]
  rfl
end
section
variable{prog:Program}{w:World}{A:Around}{E:Value->Shared->Prop}{s:Shared}{kd:SortKind}{G:Keyed->Prop}{rk:Keyed->Nat}
theorem bq{M:Model}{α:Type}{c:Prop}[Decidable c]{x y:StateT SortSt Sem α}{st:SortSt}{Q:α->SortSt->Prop}(h1:c->wpS M A E s x Q st)(h2:¬c->wpS M A E s y Q st):wpS M A E s (if c then x else y) Q st:=by
 by_cases h:c
 ·rw[if_pos h]
  exact h1 h
 ·rw[if_neg h]
  exact h2 h
theorem ML.tw{a b o:Array Keyed}{ia ib:Nat}(m:ML rk a.toList b.toList o.toList ia ib){p:Keyed}(hp:a.toList[ia]?=some p)(h:∀y∈b.toList.drop ib,rk p<=rk y):ML rk a.toList b.toList (o.push p).toList (ia+1) ib:=by
 have:=m.ga 1 (λx hx y hy=>by
  rw[jt hp]at hx
  obtain rfl:x=p:=by simpa using hx
  exact h y hy)
 rw[jt hp]at this
 rw[Array.toList_push]
 exact this
theorem ML.Dt{a b o:Array Keyed}{ia ib:Nat}(m:ML rk a.toList b.toList o.toList ia ib){p:Keyed}(hp:b.toList[ib]?=some p)(h:∀y∈a.toList.drop ia,rk p<=rk y):ML rk a.toList b.toList (o.push p).toList ia (ib+1):=(m.swap.tw hp h).swap
theorem ML.Pm{a b o:Array Keyed}{ia ib:Nat}(m:ML rk a.toList b.toList o.toList ia ib)(k:Nat){p:Keyed}(hp:b.toList[ib]?=some p)(h:∀i,i<k->ki rk false p a ia i=true):ML rk a.toList b.toList (o++a.extract ia (ia+k)).toList (ia+k) ib:=by
 rw[Array.toList_append,j0]
 refine m.ga k λx hx y hy=>?_
 obtain⟨j,hj,ej⟩:=eJ hx
 obtain⟨i,ei⟩:=jZ hy
 have q1:=h j hj
 rw[vY ej]at q1
 exact Nat.le_trans (of_decide_eq_true q1) (sC m.sb.right (Nat.zero_le i) hp ei)
theorem ML.Pn{a b o:Array Keyed}{ia ib:Nat}(m:ML rk a.toList b.toList o.toList ia ib)(k:Nat){p:Keyed}(hp:a.toList[ia]?=some p)(h:∀i,i<k->ki rk true p b ib i=true):ML rk a.toList b.toList (o++b.extract ib (ib+k)).toList ia (ib+k):=by
 rw[Array.toList_append,j0]
 refine m.gb k λx hx y hy=>?_
 obtain⟨j,hj,ej⟩:=eJ hx
 obtain⟨i,ei⟩:=jZ hy
 have q1:=h j hj
 rw[vX ej]at q1
 exact Nat.le_trans (Nat.le_of_lt (of_decide_eq_true q1)) (sC m.sa.right (Nat.zero_le i) hp ei)
theorem Po{a:Array Keyed}{ia k n:Nat}{p:Keyed}(h:∀i,k<=i->i<n->ki rk false p a ia i=false)(hn:ia+n=a.size):∀y∈a.toList.drop (ia+k),rk p<=rk y:=λy hy=>by
 obtain⟨j,e⟩:=jZ hy
 have hj:=(List.getElem?_eq_some_iff.mp e).1
 rw[Array.length_toList]at hj
 have e':a.toList[ia+(k+j)]?=some y:=by rw[<-Nat.add_assoc];exact e
 have q:=h (k+j) (by omega) (by omega)
 rw[vY e']at q
 have:=of_decide_eq_false q
 omega
theorem Pp{a:Array Keyed}{ia k n:Nat}{p:Keyed}(h:∀i,k<=i->i<n->ki rk true p a ia i=false)(hn:ia+n=a.size):∀y∈a.toList.drop (ia+k),rk p<=rk y:=λy hy=>by
 obtain⟨j,e⟩:=jZ hy
 have hj:=(List.getElem?_eq_some_iff.mp e).1
 rw[Array.length_toList]at hj
 have e':a.toList[ia+(k+j)]?=some y:=by rw[<-Nat.add_assoc];exact e
 have q:=h (k+j) (by omega) (by omega)
 rw[vX e']at q
 have:=of_decide_eq_false q
 omega
noncomputable abbrev LT:=Option (Array Keyed)×Array Keyed×Nat×Nat×Nat×Nat×Nat
noncomputable abbrev LM:=StateT SortSt Sem (ForInStep LT)
noncomputable abbrev Wb(a b o:Array Keyed)(i j g ac bc:Nat):LM:=elem' a i>>=λz=>if(i+1+1==a.size)=true then pure (.done (some (o.push z++b.extract j b.size++a.extract (i+1) a.size),o.push z,i+1,j,g,ac,bc))else if(decide (ac<7)&&decide (bc<7))=true then pure (.done (none,o.push z,i+1,j,g,ac,bc))else pure (.yield (none,o.push z,i+1,j,g,ac,bc))
noncomputable abbrev Pq(a b o:Array Keyed)(i kb g ac:Nat)(x:Keyed)(j:Nat):LM:=if j>0 then(if(kb+1+j==b.size)=true then pure (.done (some (o.push x++b.extract (kb+1) (kb+1+j)++a.extract i a.size++b.extract (kb+1+j) b.size),o.push x++b.extract (kb+1) (kb+1+j),i,kb+1+j,g,ac,j))else Wb a b (o.push x++b.extract (kb+1) (kb+1+j)) i (kb+1+j) g ac j)else Wb a b (o.push x) i (kb+1) g ac j
noncomputable abbrev Wc(a b o:Array Keyed)(i kb g ac bc:Nat)(K:Keyed->Keyed->Option Nat->LM):LM:=elem' b kb>>=λx=>if(kb+1==b.size)=true then pure (.done (some (o.push x++a.extract i a.size++b.extract (kb+1) b.size),o.push x,i,kb+1,g,ac,bc))else elem' a i>>=λy=>oJ true y b (kb+1) (b.size-(kb+1)) 0>>=K x y
noncomputable abbrev Wd(a b o:Array Keyed)(ka kb g bc k:Nat)(K1 K2:Keyed->Keyed->Option Nat->LM):LM:=if k>0 then(if(ka+k+1==a.size)=true then pure (.done (some (o++a.extract ka (ka+k)++b.extract kb b.size++a.extract (ka+k) a.size),o++a.extract ka (ka+k),ka+k,kb,g,k,bc))else if(ka+k==a.size)=true then pure (.done (some (o++a.extract ka (ka+k)++a.extract (ka+k) a.size++b.extract kb b.size),o++a.extract ka (ka+k),ka+k,kb,g,k,bc))else Wc a b (o++a.extract ka (ka+k)) (ka+k) kb g k bc K1)else Wc a b o ka kb g k bc K2
noncomputable abbrev We(a b:Array Keyed)(ka kb:Nat)(K:Keyed->Option Nat->LM):LM:=elem' b kb>>=λx=>oJ false x a ka (a.size-ka) 0>>=K x
noncomputable def S3(rk:Keyed->Nat)(a b:Array Keyed)(st:SortSt)(n:Nat)(c:LT)(sv:SortSt):Prop:=Sm st sv/\∃o ka kb g ac bc,c=(none,o,ka,kb,g,ac,bc)/\ML rk a.toList b.toList o.toList ka kb/\ka+1<a.size/\kb<b.size/\n<=ka+kb
noncomputable def S4(rk:Keyed->Nat)(a b:Array Keyed)(st:SortSt)(n:Nat)(c:LT)(sv:SortSt):Prop:=Sm st sv/\((∃r rest,c=(some r,rest)/\Mg rk a.toList b.toList r)\/∃o ka kb g ac bc,c=(none,o,ka,kb,g,ac,bc)/\ML rk a.toList b.toList o.toList ka kb/\ka+1<a.size/\kb<b.size/\n<=ka+kb)
theorem Nx{a b o:Array Keyed}{st mJ:SortSt}{i j g ac bc n:Nat}{pa:Keyed}{M:Model}{R:ForInStep LT->SortSt->Prop}(hD:∀c aV,S4 rk a b st n c aV->R (.done c) aV)(hY:∀c aV,S3 rk a b st n c aV->R (.yield c) aV)(iW:∀{o:Array Keyed} {ia ib:Nat},ML rk a.toList b.toList o.toList ia ib->ia+1=a.size->Mg rk a.toList b.toList (o++b.extract ib b.size++a.extract ia a.size))(qt:Sm st mJ)
  (m:ML rk a.toList b.toList o.toList i j)(hl:i+1<a.size)(hj:j<b.size)(hn:n<=i+1+j)(zA:a.toList[i]?=some pa)(zB:a[i]?=some pa)(rn:∀y∈b.toList.drop j,rk pa<=rk y):
  wpS M A E s (Wb a b o i j g ac bc) R mJ:=by
 have m7:=m.tw zA rn
 refine wpS_bind (bY zB ?_)
 refine bq (λe4=>wpS_pure (hD _ _ ⟨qt,.inl ⟨_,_,rfl,iW m7 (by simpa using e4)⟩⟩)) (λe4=>?_)
 have RE:=hl
 refine bq (λe5=>wpS_pure (hD _ _ ⟨qt,.inr ⟨_,_,_,_,_,_,rfl,m7,?_,hj,?_⟩⟩)) (λe5=>wpS_pure (hY _ _ ⟨qt,_,_,_,_,_,_,rfl,m7,?_,hj,?_⟩))
 all_goals
  simp at e4
  omega
theorem Ny(C:zx prog w A E s kd G rk){a b o:Array Keyed}{st mJ:SortSt}{i kb g ac bc n:Nat}{pb:Keyed}{R:ForInStep LT->SortSt->Prop}{K:Keyed->Keyed->Option Nat->LM}(hK:∀x y j,K x y (some j)=Pq a b o i kb g ac x j)(hD:∀c aV,S4 rk a b st n c aV->R (.done c) aV)(hY:∀c aV,S3 rk a b st n c aV->R (.yield c) aV)(Hu:kindOf mJ=kd)(ga:Gd G a)(gb:Gd G b)(iW:∀{o:Array Keyed} {ia ib:Nat},ML rk a.toList b.toList o.toList ia ib->ia+1=a.size->Mg rk a.toList b.toList (o++b.extract ib b.size++a.extract ia a.size))(qt:Sm st mJ)
  (mm:ML rk a.toList b.toList o.toList i kb)(hl:i+1<a.size)(f2:kb<b.size)(hn:n<=i+kb)(vZ:b.toList[kb]?=some pb)(xv:b[kb]?=some pb)(rr:∀y∈a.toList.drop i,rk pb<=rk y):
  wpS (model prog w) A E s (Wc a b o i kb g ac bc K) R mJ:=by
 have m5:=mm.Dt vZ rr
 refine wpS_bind (bY xv ?_)
 refine bq (λd1=>wpS_pure (hD _ _ ⟨qt,.inl ⟨_,_,rfl,m5.vV (by simpa using d1)⟩⟩)) (λd1=>?_)
 have UQ:kb+1<b.size:=by
  simp at d1
  omega
 obtain⟨pa,zA,zB,Pr⟩:=cR (xs:=a) (Nat.lt_of_succ_lt hl)
 refine wpS_bind (bY zB (wpS_bind (iN C (left:=true) (key:=pa) (xs:=b) (base:=kb+1) (n:=b.size-(kb+1)) (hint:=0) Hu gb (ga _ Pr) (by omega) (by omega) (tq m5.sb.right (by omega) true) λj j1 j2 j3=>?_)))
 rw[hK]
 have m6:=m5.Pn j zA j2
 have r6:∀y∈b.toList.drop (kb+1+j),rk pa<=rk y:=Pp j3 (by omega)
 refine bq (λjp=>bq (λe3=>wpS_pure (hD _ _ ⟨qt,.inl ⟨_,_,rfl,m6.vV (by simpa using e3)⟩⟩)) λe3=>?_) (λjp=>?_)
 ·have hn:kb+1+j<b.size:=by
    simp at e3
    omega
  exact Nx hD hY iW qt m6 hl hn (by omega) zA zB r6
 ·obtain rfl:j=0:=by omega
  exact Nx hD hY iW qt m5 hl UQ (by omega) zA zB r6
theorem Nz(C:zx prog w A E s kd G rk){a b o:Array Keyed}{st mJ:SortSt}{ka kb g bc n:Nat}{R:ForInStep LT->SortSt->Prop}{K0:Keyed->Option Nat->LM}{K1 K2:Nat->Keyed->Keyed->Option Nat->LM}(Pt:∀x k,K0 x (some k)=Wd a b o ka kb g bc k (K1 k) (K2 k))
  (Pu:∀k x y j,K1 k x y (some j)=Pq a b (o++a.extract ka (ka+k)) (ka+k) kb g k x j)(Pw:∀k x y j,K2 k x y (some j)=Pq a b o ka kb g k x j)(hD:∀c aV,S4 rk a b st n c aV->R (.done c) aV)(hY:∀c aV,S3 rk a b st n c aV->R (.yield c) aV)(Hu:kindOf mJ=kd)(ga:Gd G a)(gb:Gd G b)(iW:∀{o:Array Keyed} {ia ib:Nat},ML rk a.toList b.toList o.toList ia ib->ia+1=a.size->Mg rk a.toList b.toList (o++b.extract ib b.size++a.extract ia a.size))(qt:Sm st mJ)
  (m3:ML rk a.toList b.toList o.toList ka kb)(f1:ka+1<a.size)(f2:kb<b.size)(f3:n<=ka+kb):
  wpS (model prog w) A E s (We a b ka kb K0) R mJ:=by
 obtain⟨pb,vZ,xv,LI⟩:=cR (xs:=b) (i:=kb) (by omega)
 refine wpS_bind (bY xv (wpS_bind (iN C (left:=false) (key:=pb) (xs:=a) (base:=ka) (n:=a.size-ka) (hint:=0) Hu ga (gb _ LI) (by omega) (by omega) (tq m3.sa.right (by omega) false) λk k1 k2 k3=>?_)))
 rw[Pt]
 have m4:=m3.Pm k vZ k2
 have r4:∀y∈a.toList.drop (ka+k),rk pb<=rk y:=Po k3 (by omega)
 refine bq (λkp=>bq (λe1=>wpS_pure (hD _ _ ⟨qt,.inl ⟨_,_,rfl,iW m4 (by simpa using e1)⟩⟩)) λe1=>bq (λe2=>wpS_pure (hD _ _ ⟨qt,.inl ⟨_,_,rfl,m4.vW (by simpa using e2)⟩⟩)) λe2=>?_) (λkp=>?_)
 ·have hl:ka+k+1<a.size:=by
    simp at e1 e2
    omega
  exact Ny C (Pu k) hD hY Hu ga gb iW qt m4 hl f2 (by omega) vZ xv r4
 ·obtain rfl:k=0:=by omega
  exact Ny C (Pw 0) hD hY Hu ga gb iW qt m3 f1 f2 f3 vZ xv r4
theorem LJ(C:zx prog w A E s kd G rk){a b:Array Keyed}{st bX:SortSt}{lo hi n:Nat}{c0:LT}{f:Nat->LT->LM}{K0 L0:Array Keyed->Nat->Nat->Nat->Nat->Nat->Keyed->Option Nat->LM}{K1 K2 L1 L2:Array Keyed->Nat->Nat->Nat->Nat->Nat->Nat->Keyed->Keyed->Option Nat->LM}
  (hf:∀y o ka kb g ac bc,f y (none,o,ka,kb,g,ac,bc)=(if g>1 then oK (g-1)>>=λ_=>We a b ka kb (K0 o ka kb g ac bc)else oK g>>=λ_=>We a b ka kb (L0 o ka kb g ac bc)))
  (Pt:∀o ka kb g ac bc x k,K0 o ka kb g ac bc x (some k)=Wd a b o ka kb (g-1) bc k (K1 o ka kb g ac bc k) (K2 o ka kb g ac bc k))(Pu:∀o ka kb g ac bc k x y j,K1 o ka kb g ac bc k x y (some j)=Pq a b (o++a.extract ka (ka+k)) (ka+k) kb (g-1) k x j)(Pw:∀o ka kb g ac bc k x y j,K2 o ka kb g ac bc k x y (some j)=Pq a b o ka kb (g-1) k x j)
  (Wf:∀o ka kb g ac bc x k,L0 o ka kb g ac bc x (some k)=Wd a b o ka kb g bc k (L1 o ka kb g ac bc k) (L2 o ka kb g ac bc k))(Wg:∀o ka kb g ac bc k x y j,L1 o ka kb g ac bc k x y (some j)=Pq a b (o++a.extract ka (ka+k)) (ka+k) kb g k x j)(Wh:∀o ka kb g ac bc k x y j,L2 o ka kb g ac bc k x y (some j)=Pq a b o ka kb g k x j)
  (hk:kindOf st=kd)(ga:Gd G a)(gb:Gd G b)(iW:∀{o:Array Keyed} {ia ib:Nat},ML rk a.toList b.toList o.toList ia ib->ia+1=a.size->Mg rk a.toList b.toList (o++b.extract ib b.size++a.extract ia a.size))(h:S3 rk a b st n c0 bX):
  wpS (model prog w) A E s (forIn [lo:hi] c0 f) (S4 rk a b st n) bX:=by
 refine wpS_forRange (I:=λ_=>S3 rk a b st n) (Q:=S4 rk a b st n) ?gstep ?gfin h
 case gfin=>
  rintro c sv ⟨xw,r⟩
  exact⟨xw,.inr r⟩
 case gstep=>
  rintro y c sv-hy ⟨xw,o3,ka,kb,g,ac,bc,rfl,m3,f1,f2,f3⟩
  rw[hf]
  refine bq (λ_=>wpS_bind (qr λmJ BC=>?_)) (λ_=>wpS_bind (qr λmJ BC=>?_))
  ·exact Nz C (n:=n) (λx k=>Pt o3 ka kb g ac bc x k) (λk x y j=>Pu o3 ka kb g ac bc k x y j) (λk x y j=>Pw o3 ka kb g ac bc k x y j) (λ_ _ h=>h) (λ_ _ h=>h) ((xw.trans BC).k.trans hk) ga gb iW (xw.trans BC) m3 f1 f2 f3
  ·exact Nz C (n:=n) (λx k=>Wf o3 ka kb g ac bc x k) (λk x y j=>Wg o3 ka kb g ac bc k x y j) (λk x y j=>Wh o3 ka kb g ac bc k x y j) (λ_ _ h=>h) (λ_ _ h=>h) ((xw.trans BC).k.trans hk) ga gb iW (xw.trans BC) m3 f1 f2 f3
theorem BD(C:zx prog w A E s kd G rk){a b:Array Keyed}{st:SortSt}{Q:Array Keyed->SortSt->Prop}(hk:kindOf st=kd)(ga:Gd G a)(gb:Gd G b)(sa:Sd rk a.toList)(sb:Sd rk b.toList)(na:1<=a.size)(nb:1<=b.size)
  {p0 q0 z:Keyed}(YY:a.toList[0]?=some p0)(cv:b.toList[0]?=some q0)(h0:rk q0<=rk p0)(hz:a.toList[a.size-1]?=some z)(Wi:∀y∈b.toList,rk y<=rk z)
  (q:∀o aV,Sm st aV->Mg rk a.toList b.toList o->Q o aV):wpS (model prog w) A E s (Hq a b) Q st:=by
 refine wpS_bind (wpS_lift (wpAny_rule ⟨rfl,?_⟩))
 refine wpS_bind (bY (p:=q0) (by simpa using cv) ?_)
 have m0:ML rk a.toList b.toList (#[q0]:Array Keyed).toList 0 1:=by
  refine⟨?_,?_,?_⟩
  ·have:=jt cv
   simp at this
   simp[this]
  ·refine Sd.app (Sd.one q0) (by simpa using sa) λx hx y hy=>?_
   obtain rfl:x=q0:=by simpa using hx
   obtain⟨j,e⟩:=jZ hy
   exact Nat.le_trans h0 (tm sa (Nat.zero_le _) YY e)
  ·have e:[q0]++b.toList.drop 1=b.toList:=by
     obtain⟨h1,e1⟩:=List.getElem?_eq_some_iff.mp cv
     have:=List.drop_eq_getElem_cons h1
     rw[e1]at this
     simpa using this.symm
   show Sd rk ([q0]++b.toList.drop 1)
   rw[e]
   exact sb
 by_cases c1:1=b.size
 ·rw[if_pos (by simpa using c1)]
  exact wpS_pure (q _ _ (Sm.refl _) (m0.vV c1))
 rw[if_neg (by simpa using c1)]
 have iW:∀{o:Array Keyed} {ia ib:Nat},ML rk a.toList b.toList o.toList ia ib->ia+1=a.size->Mg rk a.toList b.toList (o++b.extract ib b.size++a.extract ia a.size):=λ{o ia ib} m e=>m.last e (by rw[show ia=a.size-1 by omega];exact hz) Wi
 by_cases c2:0+1=a.size
 ·rw[if_pos (by simpa using c2)]
  exact wpS_pure (q _ _ (Sm.refl _) (iW m0 c2))
 rw[if_neg (by simpa using c2)]
 refine wpS_bind (wpS_get ?_)
 dsimp only
 refine wpS_bind (wpS_mono (wpS_forRange (I:=λx c aV=>Sm st aV/\∃o ia ib g,c=(none,o,ia,ib,g)/\ML rk a.toList b.toList o.toList ia ib/\ia+1<a.size/\ib<b.size/\x+1<=ia+ib)
  (Q:=λc aV=>Sm st aV/\∃r rest,c=(some r,rest)/\Mg rk a.toList b.toList r) ?step ?fin ⟨Sm.refl _,_,0,1,_,rfl,m0,by omega,by omega,by omega⟩) ?post)
 case post=>
  rintro c aV ⟨sm,r,rest,rfl,mg⟩
  exact wpS_pure (q r aV sm mg)
 case fin=>
  rintro c aV ⟨-,o,ia,ib,g,-,-,h1,h2,h3⟩
  omega
 case step=>
  rintro x c aV-hx ⟨sm,o,ia,ib,g,rfl,m,h1,h2,h3⟩
  dsimp only
  refine wpS_bind (wpS_mono (wpS_forRange (I:=λy c bX=>Sm st bX/\∃o ja jb ac bc,c=(none,o,ja,jb,ac,bc)/\ML rk a.toList b.toList o.toList ja jb/\ja+1<a.size/\jb<b.size/\ia+ib+y<=ja+jb)
   (Q:=λc bX=>Sm st bX/\((∃r rest,c=(some r,rest)/\Mg rk a.toList b.toList r)\/∃o ja jb ac bc,c=(none,o,ja,jb,ac,bc)/\ML rk a.toList b.toList o.toList ja jb/\ja+1<a.size/\jb<b.size/\ia+ib+1<=ja+jb))
   ?istep ?ifin ⟨sm,_,ia,ib,0,0,rfl,m,h1,h2,by omega⟩) ?ipost)
  case ifin=>
   rintro c bX ⟨-,o,ja,jb,ac,bc,-,-,g1,g2,g3⟩
   omega
  case istep=>
   rintro y c bX-hy ⟨qf,o2,ja,jb,ac,bc,rfl,m2,g1,g2,g3⟩
   dsimp only
   obtain⟨pa,zA,zB,Pr⟩:=cR (xs:=a) (i:=ja) (by omega)
   obtain⟨pb,vZ,xv,LI⟩:=cR (xs:=b) (i:=jb) (by omega)
   refine wpS_bind (bY xv (wpS_bind (bY zB (wpS_bind (C pb pa bX _ (qf.k.trans hk) (gb _ LI) (ga _ Pr) ?_)))))
   by_cases hw:rk pb<rk pa
   ·rw[decide_eq_true hw]
    refine wpS_bind (bY xv ?_)
    have m3:ML rk a.toList b.toList (o2.push pb).toList ja (jb+1):=by
     rw[Array.toList_push]
     exact m2.pb zA vZ (Nat.le_of_lt hw)
    by_cases d1:jb+1=b.size
    ·rw[if_pos (by simpa using d1)]
     exact wpS_pure ⟨qf,.inl ⟨_,_,rfl,m3.vV d1⟩⟩
    rw[if_neg (by simpa using d1)]
    by_cases d2:bc+1≥g
    ·rw[if_pos d2]
     exact wpS_pure ⟨qf,.inr ⟨_,ja,jb+1,_,_,rfl,m3,g1,by omega,by omega⟩⟩
    ·rw[if_neg d2]
     exact wpS_pure ⟨qf,_,ja,jb+1,_,_,rfl,m3,g1,by omega,by omega⟩
   ·rw[decide_eq_false hw]
    refine wpS_bind (bY zB ?_)
    have m3:ML rk a.toList b.toList (o2.push pa).toList (ja+1) jb:=by
     rw[Array.toList_push]
     exact m2.pa zA vZ (by omega)
    by_cases d1:ja+1+1=a.size
    ·rw[if_pos (by simpa using d1)]
     exact wpS_pure ⟨qf,.inl ⟨_,_,rfl,iW m3 d1⟩⟩
    rw[if_neg (by simpa using d1)]
    by_cases d2:ac+1≥g
    ·rw[if_pos d2]
     exact wpS_pure ⟨qf,.inr ⟨_,ja+1,jb,_,_,rfl,m3,by omega,g2,by omega⟩⟩
    ·rw[if_neg d2]
     exact wpS_pure ⟨qf,_,ja+1,jb,_,_,rfl,m3,by omega,g2,by omega⟩
  case ipost=>
   rintro c bX ⟨qf,⟨r,rest,rfl,mg⟩|⟨o2,ja,jb,ac,bc,rfl,m2,g1,g2,g3⟩⟩
   ·exact wpS_pure ⟨qf,_,_,rfl,mg⟩
   dsimp only
   refine wpS_bind (wpS_lift (wpAny_rule ⟨rfl,?_⟩))
   refine wpS_bind (wpS_mono (LJ C (n:=ja+jb) (λ_ _ _ _ _ _ _=>rfl) (λ_ _ _ _ _ _ _ _=>rfl) (λ_ _ _ _ _ _ _ _ _ _=>rfl) (λ_ _ _ _ _ _ _ _ _ _=>rfl) (λ_ _ _ _ _ _ _ _=>rfl) (λ_ _ _ _ _ _ _ _ _ _=>rfl) (λ_ _ _ _ _ _ _ _ _ _=>rfl) hk ga gb iW ⟨qf,_,ja,jb,_,_,_,rfl,m2,g1,g2,by omega⟩) ?gpost)
   case gpost=>
    rintro c sv ⟨xw,⟨r,rest,rfl,mg⟩|⟨o3,ka,kb,g,ac,bc,rfl,m3,f1,f2,f3⟩⟩
    ·exact wpS_pure ⟨xw,_,_,rfl,mg⟩
    dsimp only
    refine wpS_bind (qr λmJ BC=>wpS_pure ⟨xw.trans BC,_,ka,kb,_,rfl,m3,f1,f2,by omega⟩)
end
structure MH(rk:Keyed->Nat)(la lb o:List Keyed)(na nb:Nat):Prop where
 pm:o.Perm (la.drop na++lb.drop nb)
 sa:Sd rk (la.take na++o)
 sb:Sd rk (lb.take nb++o)
theorem LK(l:List Keyed){i n:Nat}(h:i<=n):l.take n=l.take i++(l.drop i).take (n-i):=by
 rw[<-List.take_add]
 congr 1
 omega
theorem Du(l:List Keyed){i n:Nat}(h:i<=n):l.drop i=(l.drop i).take (n-i)++l.drop n:=by
 have:l.drop n=(l.drop i).drop (n-i):=by
  rw[List.drop_drop]
  congr 1
  omega
 rw[this,List.take_append_drop]
theorem MH.ga{rk:Keyed->Nat}{la lb o:List Keyed}{na nb:Nat}(m:MH rk la lb o na nb)(i:Nat)(hi:i<=na)(h:∀x∈(la.drop i).take (na-i),∀y∈lb.take nb,rk y<=rk x):MH rk la lb ((la.drop i).take (na-i)++o) i nb:=by
 have e:=LK la hi
 refine⟨?_,?_,?_⟩
 ·refine(m.pm.append_left _).trans ?_
  rw[<-List.append_assoc,<-Du la hi]
 ·rw[<-List.append_assoc,<-e]
  exact m.sa
 ·have s1:=m.sa
  rw[e,List.append_assoc]at s1
  refine Sd.app m.sb.left s1.right λx hx y hy=>?_
  rcases List.mem_append.mp hy with hy|hy
  ·exact h y hy x hx
  ·exact m.sb.vU x hx y hy
theorem MH.swap{rk:Keyed->Nat}{la lb o:List Keyed}{na nb:Nat}(m:MH rk la lb o na nb):MH rk lb la o nb na:=⟨m.pm.trans List.perm_append_comm,m.sb,m.sa⟩
theorem zC{l:List Keyed}{n:Nat}{p:Keyed}(hn:1<=n)(h:l[n-1]?=some p):(l.drop (n-1)).take (n-(n-1))=[p]:=by
 rw[show n-(n-1)=1 by omega]
 exact jt h
section
variable{prog:Program}{w:World}{A:Around}{E:Value->Shared->Prop}{s:Shared}{kd:SortKind}{G:Keyed->Prop}{rk:Keyed->Nat}
theorem MH.tw{a b o:Array Keyed}{na nb:Nat}(m:MH rk a.toList b.toList o.toList.reverse na nb)(hn:1<=na){p:Keyed}(hp:a.toList[na-1]?=some p)(h:∀y∈b.toList.take nb,rk y<=rk p):MH rk a.toList b.toList (o.push p).toList.reverse (na-1) nb:=by
 have:=m.ga (na-1) (by omega) (λx hx y hy=>by
  rw[zC hn hp]at hx
  obtain rfl:x=p:=by simpa using hx
  exact h y hy)
 rw[zC hn hp]at this
 rw[Array.toList_push,List.reverse_append]
 exact this
theorem MH.Dt{a b o:Array Keyed}{na nb:Nat}(m:MH rk a.toList b.toList o.toList.reverse na nb)(hn:1<=nb){p:Keyed}(hp:b.toList[nb-1]?=some p)(h:∀y∈a.toList.take na,rk y<=rk p):MH rk a.toList b.toList (o.push p).toList.reverse na (nb-1):=(m.swap.tw hn hp h).swap
theorem zD{xs o:Array Keyed}{i n:Nat}(h:i<=n):(o++(xs.extract i n).reverse).toList.reverse=(xs.toList.drop i).take (n-i)++o.toList.reverse:=by
 rw[Array.toList_append,List.reverse_append,Array.toList_reverse,List.reverse_reverse]
 congr 1
 have:=j0 (xs:=xs) (i:=i) (k:=n-i)
 rw[show i+(n-i)=n by omega]at this
 exact this
theorem le_last{l:List Keyed}{n:Nat}{p y:Keyed}(h:Sd rk (l.take n))(hn:1<=n)(hp:l[n-1]?=some p)(hy:y∈l.take n):rk y<=rk p:=by
 obtain⟨j,hj,e⟩:=tj hy
 exact Ds h (by omega) (by omega) e hp
theorem MH.Pm{a b o:Array Keyed}{na nb i:Nat}(m:MH rk a.toList b.toList o.toList.reverse na nb)(hi:i<=na){p:Keyed}(hn:1<=nb)(hp:b.toList[nb-1]?=some p)(h:∀j,i<=j->j<na->ki rk false p a 0 j=false):MH rk a.toList b.toList (o++(a.extract i na).reverse).toList.reverse i nb:=by
 rw[zD hi]
 refine m.ga i hi λx hx y hy=>?_
 obtain⟨j,hj,ej⟩:=eJ hx
 have q1:=h (i+j) (by omega) (by omega)
 rw[vY (by rw[Nat.zero_add];exact ej)]at q1
 have q2:=of_decide_eq_false q1
 have q3:=le_last m.sb.left hn hp hy
 omega
theorem MH.Pn{a b o:Array Keyed}{na nb i:Nat}(m:MH rk a.toList b.toList o.toList.reverse na nb)(hi:i<=nb){p:Keyed}(hn:1<=na)(hp:a.toList[na-1]?=some p)(h:∀j,i<=j->j<nb->ki rk true p b 0 j=false):MH rk a.toList b.toList (o++(b.extract i nb).reverse).toList.reverse na i:=by
 rw[zD hi]
 refine(m.swap.ga i hi λx hx y hy=>?_).swap
 obtain⟨j,hj,ej⟩:=eJ hx
 have q1:=h (i+j) (by omega) (by omega)
 rw[vX (by rw[Nat.zero_add];exact ej)]at q1
 have q2:=of_decide_eq_false q1
 have q3:=le_last m.sa.left hn hp hy
 omega
theorem Px{a:Array Keyed}{k:Nat}{p:Keyed}(h:∀i,i<k->ki rk false p a 0 i=true):∀y∈a.toList.take k,rk y<=rk p:=λy hy=>by
 obtain⟨j,hj,e⟩:=tj hy
 have q:=h j hj
 rw[vY (by rw[Nat.zero_add];exact e)]at q
 exact of_decide_eq_true q
theorem Py{a:Array Keyed}{k:Nat}{p:Keyed}(h:∀i,i<k->ki rk true p a 0 i=true):∀y∈a.toList.take k,rk y<=rk p:=λy hy=>by
 obtain⟨j,hj,e⟩:=tj hy
 have q:=h j hj
 rw[vX (by rw[Nat.zero_add];exact e)]at q
 exact Nat.le_of_lt (of_decide_eq_true q)
theorem j4{xs:Array Keyed}{n:Nat}:(xs.extract 0 n).toList=xs.toList.take n:=by
 have:=j0 (xs:=xs) (i:=0) (k:=n)
 simpa using this
theorem MH.vW{a b o:Array Keyed}{na nb:Nat}(m:MH rk a.toList b.toList o.toList.reverse na nb)(h:na=0):Mg rk a.toList b.toList (a.extract 0 na++b.extract 0 nb++o.reverse):=by
 unfold Mg
 rw[Array.toList_append,Array.toList_append,j4,j4,Array.toList_reverse]
 have q:=m.pm
 subst h
 rw[List.drop_zero]at q
 rw[List.take_zero,List.nil_append]
 refine⟨?_,m.sb⟩
 refine(q.append_left _).trans ?_
 refine List.perm_append_comm.trans ?_
 rw[List.append_assoc]
 refine List.Perm.append_left _ (List.perm_append_comm.trans ?_)
 rw[List.take_append_drop]
theorem MH.vV{a b o:Array Keyed}{na nb:Nat}(m:MH rk a.toList b.toList o.toList.reverse na nb)(h:nb=0):Mg rk a.toList b.toList (a.extract 0 na++b.extract 0 nb++o.reverse):=by
 unfold Mg
 rw[Array.toList_append,Array.toList_append,j4,j4,Array.toList_reverse]
 have q:=m.pm
 subst h
 rw[List.drop_zero]at q
 rw[List.take_zero,List.append_nil]
 refine⟨?_,m.sa⟩
 refine(q.append_left _).trans ?_
 rw[<-List.append_assoc,List.take_append_drop]
theorem MH.first{a b o:Array Keyed}{na nb:Nat}(m:MH rk a.toList b.toList o.toList.reverse na nb)(h:nb=1){z:Keyed}(hz:b.toList[0]?=some z)(ha:∀y∈a.toList,rk z<=rk y):Mg rk a.toList b.toList (b.extract 0 nb++a.extract 0 na++o.reverse):=by
 unfold Mg
 rw[Array.toList_append,Array.toList_append,j4,j4,Array.toList_reverse]
 subst h
 have e:b.toList.take 1=[z]:=by
  have:=jt hz
  simpa using this
 refine⟨?_,?_⟩
 ·refine(m.pm.append_left _).trans ?_
  have e1:a.toList++b.toList=a.toList++(b.toList.take 1++b.toList.drop 1):=by rw[List.take_append_drop]
  have e2:(b.toList.take 1++a.toList.take na)++(a.toList.drop na++b.toList.drop 1)=b.toList.take 1++(a.toList++b.toList.drop 1):=by
   rw[List.append_assoc,<-List.append_assoc (a.toList.take na),List.take_append_drop]
  rw[e1,e2,<-List.append_assoc,<-List.append_assoc]
  exact List.perm_append_comm.append_right _
 ·rw[List.append_assoc]
  refine Sd.app m.sb.left m.sa λx hx y hy=>?_
  rw[e]at hx
  obtain rfl:x=z:=by simpa using hx
  rcases List.mem_append.mp hy with hy|hy
  ·exact ha y (List.mem_of_mem_take hy)
  ·exact m.sb.vU x (by rw[e];simp) y hy
noncomputable abbrev HT:=Option (Array Keyed)×Nat×Nat×Array Keyed×Nat×Nat×Nat
noncomputable abbrev HM:=StateT SortSt Sem (ForInStep HT)
noncomputable abbrev Wj(a b o:Array Keyed)(i j g ac bc:Nat):HM:=elem' a (i-1)>>=λz=>if(i-1==0)=true then pure (.done (some (a.extract 0 (i-1)++b.extract 0 j++(o.push z).reverse),i-1,j,o.push z,g,ac,bc))else if(decide (ac<7)&&decide (bc<7))=true then pure (.done (none,i-1,j,o.push z,g,ac,bc))else pure (.yield (none,i-1,j,o.push z,g,ac,bc))
noncomputable abbrev Pz(a b o:Array Keyed)(k kb g ac:Nat)(x:Keyed)(j:Nat):HM:=if kb-1-j>0 then(if(j==1)=true then pure (.done (some (b.extract 0 j++a.extract 0 k++(o.push x++(b.extract j (kb-1)).reverse).reverse),k,j,o.push x++(b.extract j (kb-1)).reverse,g,ac,kb-1-j))else if(j==0)=true then pure (.done (some (a.extract 0 k++b.extract 0 j++(o.push x++(b.extract j (kb-1)).reverse).reverse),k,j,o.push x++(b.extract j (kb-1)).reverse,g,ac,kb-1-j))else Wj a b (o.push x++(b.extract j (kb-1)).reverse) k j g ac (kb-1-j))else Wj a b (o.push x) k (kb-1) g ac (kb-1-j)
noncomputable abbrev Wk(a b o:Array Keyed)(k kb g ac bc:Nat)(K:Keyed->Keyed->Option Nat->HM):HM:=elem' b (kb-1)>>=λx=>if(kb-1==1)=true then pure (.done (some (b.extract 0 (kb-1)++a.extract 0 k++(o.push x).reverse),k,kb-1,o.push x,g,ac,bc))else elem' a (k-1)>>=λy=>oJ true y b 0 (kb-1) (kb-1-1)>>=K x y
noncomputable abbrev Wl(a b o:Array Keyed)(ka kb g bc k:Nat)(K1 K2:Keyed->Keyed->Option Nat->HM):HM:=if ka-k>0 then(if(k==0)=true then pure (.done (some (a.extract 0 k++b.extract 0 kb++(o++(a.extract k ka).reverse).reverse),k,kb,o++(a.extract k ka).reverse,g,ka-k,bc))else Wk a b (o++(a.extract k ka).reverse) k kb g (ka-k) bc K1)else Wk a b o ka kb g (ka-k) bc K2
noncomputable abbrev Wm(a b:Array Keyed)(ka kb:Nat)(K:Keyed->Option Nat->HM):HM:=elem' b (kb-1)>>=λx=>oJ false x a 0 ka (ka-1)>>=K x
noncomputable def S5(rk:Keyed->Nat)(a b:Array Keyed)(st:SortSt)(n:Nat)(c:HT)(sv:SortSt):Prop:=
 Sm st sv/\∃ka kb o g ac bc,c=(none,ka,kb,o,g,ac,bc)/\MH rk a.toList b.toList o.toList.reverse ka kb/\1<=ka/\2<=kb/\ka<=a.size/\kb<=b.size/\ka+kb<=n
noncomputable def S6(rk:Keyed->Nat)(a b:Array Keyed)(st:SortSt)(n:Nat)(c:HT)(sv:SortSt):Prop:=
 Sm st sv/\((∃r rest,c=(some r,rest)/\Mg rk a.toList b.toList r)\/∃ka kb o g ac bc,c=(none,ka,kb,o,g,ac,bc)/\MH rk a.toList b.toList o.toList.reverse ka kb/\1<=ka/\2<=kb/\ka<=a.size/\kb<=b.size/\ka+kb<=n)
theorem NA{a b o:Array Keyed}{st mJ:SortSt}{i j g ac bc n:Nat}{pa:Keyed}{M:Model}{R:ForInStep HT->SortSt->Prop}(hD:∀c aV,S6 rk a b st n c aV->R (.done c) aV)(hY:∀c aV,S5 rk a b st n c aV->R (.yield c) aV)(qt:Sm st mJ)(m:MH rk a.toList b.toList o.toList.reverse i j)(hi:1<=i)(ia:i<=a.size)(hj:2<=j)(jb:j<=b.size)(hn:i-1+j<=n)
  (zA:a.toList[i-1]?=some pa)(zB:a[i-1]?=some pa)(rn:∀y∈b.toList.take j,rk y<=rk pa):
  wpS M A E s (Wj a b o i j g ac bc) R mJ:=by
 have m7:=m.tw hi zA rn
 refine wpS_bind (bY zB ?_)
 refine bq (λe4=>wpS_pure (hD _ _ ⟨qt,.inl ⟨_,_,rfl,m7.vW (by simpa using e4)⟩⟩)) (λe4=>?_)
 have e4':¬i-1=0:=by simpa using e4
 refine bq (λe5=>wpS_pure (hD _ _ ⟨qt,.inr ⟨_,_,_,_,_,_,rfl,m7,?_,hj,?_,?_,?_⟩⟩)) (λe5=>wpS_pure (hY _ _ ⟨qt,_,_,_,_,_,_,rfl,m7,?_,hj,?_,?_,?_⟩))
 all_goals omega
theorem NB(C:zx prog w A E s kd G rk){a b o:Array Keyed}{st mJ:SortSt}{k kb g ac bc n:Nat}{pb q0:Keyed}{R:ForInStep HT->SortSt->Prop}{K:Keyed->Keyed->Option Nat->HM}(hK:∀x y j,K x y (some j)=Pz a b o k kb g ac x j)(hD:∀c aV,S6 rk a b st n c aV->R (.done c) aV)(hY:∀c aV,S5 rk a b st n c aV->R (.yield c) aV)(Hu:kindOf mJ=kd)(ga:Gd G a)(gb:Gd G b)(cv:b.toList[0]?=some q0)(h0:∀y∈a.toList,rk q0<=rk y)(qt:Sm st mJ)
  (mm:MH rk a.toList b.toList o.toList.reverse k kb)(hl:1<=k)(ha:k<=a.size)(f2:2<=kb)(f4:kb<=b.size)(hn:k+kb<=n)(vZ:b.toList[kb-1]?=some pb)(xv:b[kb-1]?=some pb)(rr:∀y∈a.toList.take k,rk y<=rk pb):
  wpS (model prog w) A E s (Wk a b o k kb g ac bc K) R mJ:=by
 have m5:=mm.Dt (by omega) vZ rr
 refine wpS_bind (bY xv ?_)
 refine bq (λd1=>wpS_pure (hD _ _ ⟨qt,.inl ⟨_,_,rfl,m5.first (by simpa using d1) cv h0⟩⟩)) (λd1=>?_)
 have UQ:¬kb-1=1:=by simpa using d1
 obtain⟨pa,zA,zB,Pr⟩:=cR (xs:=a) (i:=k-1) (by omega)
 refine wpS_bind (bY zB (wpS_bind (iN C (left:=true) (key:=pa) (xs:=b) (base:=0) (n:=kb-1) (hint:=kb-1-1) Hu gb (ga _ Pr) (by omega) (by omega) (tu m5.sb.left (by omega) true) λj j1 j2 j3=>?_)))
 rw[hK]
 have m6:=m5.Pn j1 hl zA j3
 have r6:∀y∈b.toList.take j,rk y<=rk pa:=Py j2
 refine bq (λjp=>bq (λe3=>wpS_pure (hD _ _ ⟨qt,.inl ⟨_,_,rfl,m6.first (by simpa using e3) cv h0⟩⟩)) λe3=>bq (λe4=>wpS_pure (hD _ _ ⟨qt,.inl ⟨_,_,rfl,m6.vV (by simpa using e4)⟩⟩)) λe4=>?_) (λjp=>?_)
 ·have hn:2<=j:=by
    have:¬j=1:=by simpa using e3
    have:¬j=0:=by simpa using e4
    omega
  exact NA (o:=o.push pb++(b.extract j (kb-1)).reverse) (i:=k) (j:=j) (g:=g) (ac:=ac) (bc:=kb-1-j) (n:=n) (pa:=pa) hD hY qt m6 hl ha hn (by omega) (by omega) zA zB r6
 ·obtain rfl:j=kb-1:=by omega
  exact NA (o:=o.push pb) (i:=k) (j:=kb-1) (g:=g) (ac:=ac) (bc:=kb-1-(kb-1)) (n:=n) (pa:=pa) hD hY qt m5 hl ha (by omega) (by omega) (by omega) zA zB r6
theorem NC(C:zx prog w A E s kd G rk){a b o:Array Keyed}{st mJ:SortSt}{ka kb g bc n:Nat}{q0:Keyed}{R:ForInStep HT->SortSt->Prop}{K0:Keyed->Option Nat->HM}{K1 K2:Nat->Keyed->Keyed->Option Nat->HM}(Pt:∀x k,K0 x (some k)=Wl a b o ka kb g bc k (K1 k) (K2 k))
  (Pu:∀k x y j,K1 k x y (some j)=Pz a b (o++(a.extract k ka).reverse) k kb g (ka-k) x j)(Pw:∀k x y j,K2 k x y (some j)=Pz a b o ka kb g (ka-k) x j)(hD:∀c aV,S6 rk a b st n c aV->R (.done c) aV)(hY:∀c aV,S5 rk a b st n c aV->R (.yield c) aV)(Hu:kindOf mJ=kd)(ga:Gd G a)(gb:Gd G b)(cv:b.toList[0]?=some q0)(h0:∀y∈a.toList,rk q0<=rk y)(qt:Sm st mJ)
  (m3:MH rk a.toList b.toList o.toList.reverse ka kb)(f1:1<=ka)(f2:2<=kb)(f3:ka<=a.size)(f4:kb<=b.size)(f5:ka+kb<=n):
  wpS (model prog w) A E s (Wm a b ka kb K0) R mJ:=by
 obtain⟨pb,vZ,xv,LI⟩:=cR (xs:=b) (i:=kb-1) (by omega)
 refine wpS_bind (bY xv (wpS_bind (iN C (left:=false) (key:=pb) (xs:=a) (base:=0) (n:=ka) (hint:=ka-1) Hu ga (gb _ LI) (by omega) (by omega) (tu m3.sa.left (by omega) false) λk k1 k2 k3=>?_)))
 rw[Pt]
 have m4:=m3.Pm k1 (by omega) vZ k3
 have r4:∀y∈a.toList.take k,rk y<=rk pb:=Px k2
 refine bq (λkp=>bq (λe1=>wpS_pure (hD _ _ ⟨qt,.inl ⟨_,_,rfl,m4.vW (by simpa using e1)⟩⟩)) λe1=>?_) (λkp=>?_)
 ·have hl:1<=k:=by
    have:¬k=0:=by simpa using e1
    omega
  exact NB C (Pu k) hD hY Hu ga gb cv h0 qt m4 hl (by omega) f2 f4 (by omega) vZ xv r4
 ·obtain rfl:k=ka:=by omega
  exact NB C (Pw k) hD hY Hu ga gb cv h0 qt m3 f1 f3 f2 f4 f5 vZ xv r4
theorem LL(C:zx prog w A E s kd G rk){a b:Array Keyed}{st bX:SortSt}{lo hi n:Nat}{c0:HT}{q0:Keyed}{f:Nat->HT->HM}{K0 L0:Nat->Nat->Array Keyed->Nat->Nat->Nat->Keyed->Option Nat->HM}{K1 K2 L1 L2:Nat->Nat->Array Keyed->Nat->Nat->Nat->Nat->Keyed->Keyed->Option Nat->HM}
  (hf:∀y ka kb o g ac bc,f y (none,ka,kb,o,g,ac,bc)=(if g>1 then oK (g-1)>>=λ_=>Wm a b ka kb (K0 ka kb o g ac bc)else oK g>>=λ_=>Wm a b ka kb (L0 ka kb o g ac bc)))
  (Pt:∀ka kb o g ac bc x k,K0 ka kb o g ac bc x (some k)=Wl a b o ka kb (g-1) bc k (K1 ka kb o g ac bc k) (K2 ka kb o g ac bc k))(Pu:∀ka kb o g ac bc k x y j,K1 ka kb o g ac bc k x y (some j)=Pz a b (o++(a.extract k ka).reverse) k kb (g-1) (ka-k) x j)(Pw:∀ka kb o g ac bc k x y j,K2 ka kb o g ac bc k x y (some j)=Pz a b o ka kb (g-1) (ka-k) x j)
  (Wf:∀ka kb o g ac bc x k,L0 ka kb o g ac bc x (some k)=Wl a b o ka kb g bc k (L1 ka kb o g ac bc k) (L2 ka kb o g ac bc k))(Wg:∀ka kb o g ac bc k x y j,L1 ka kb o g ac bc k x y (some j)=Pz a b (o++(a.extract k ka).reverse) k kb g (ka-k) x j)(Wh:∀ka kb o g ac bc k x y j,L2 ka kb o g ac bc k x y (some j)=Pz a b o ka kb g (ka-k) x j)
  (hk:kindOf st=kd)(ga:Gd G a)(gb:Gd G b)(cv:b.toList[0]?=some q0)(h0:∀y∈a.toList,rk q0<=rk y)(h:S5 rk a b st n c0 bX):
  wpS (model prog w) A E s (forIn [lo:hi] c0 f) (S6 rk a b st n) bX:=by
 refine wpS_forRange (I:=λ_=>S5 rk a b st n) (Q:=S6 rk a b st n) ?gstep ?gfin h
 case gfin=>
  rintro c sv ⟨xw,r⟩
  exact⟨xw,.inr r⟩
 case gstep=>
  rintro y c sv-hy ⟨xw,ka,kb,o3,g,ac,bc,rfl,m3,f1,f2,f3,f4,f5⟩
  rw[hf]
  refine bq (λ_=>wpS_bind (qr λmJ BC=>?_)) (λ_=>wpS_bind (qr λmJ BC=>?_))
  ·exact NC C (n:=n) (λx k=>Pt ka kb o3 g ac bc x k) (λk x y j=>Pu ka kb o3 g ac bc k x y j) (λk x y j=>Pw ka kb o3 g ac bc k x y j) (λ_ _ h=>h) (λ_ _ h=>h) ((xw.trans BC).k.trans hk) ga gb cv h0 (xw.trans BC) m3 f1 f2 f3 f4 f5
  ·exact NC C (n:=n) (λx k=>Wf ka kb o3 g ac bc x k) (λk x y j=>Wg ka kb o3 g ac bc k x y j) (λk x y j=>Wh ka kb o3 g ac bc k x y j) (λ_ _ h=>h) (λ_ _ h=>h) ((xw.trans BC).k.trans hk) ga gb cv h0 (xw.trans BC) m3 f1 f2 f3 f4 f5
theorem BE(C:zx prog w A E s kd G rk){a b:Array Keyed}{st:SortSt}{Q:Array Keyed->SortSt->Prop}(hk:kindOf st=kd)(ga:Gd G a)(gb:Gd G b)(sa:Sd rk a.toList)(sb:Sd rk b.toList)(na:1<=a.size)(nb:1<=b.size)
  {q0 z:Keyed}(cv:b.toList[0]?=some q0)(h0:∀y∈a.toList,rk q0<=rk y)(hz:a.toList[a.size-1]?=some z)(Wi:∀y∈b.toList,rk y<=rk z)
  (q:∀o aV,Sm st aV->Mg rk a.toList b.toList o->Q o aV):wpS (model prog w) A E s (Hr a b) Q st:=by
 refine wpS_bind (wpS_lift (wpAny_rule ⟨rfl,?_⟩))
 refine wpS_bind (bY (p:=z) (by simpa using hz) ?_)
 have fa:a.toList.take a.size=a.toList:=List.take_of_length_le (by simp)
 have fb:b.toList.take b.size=b.toList:=List.take_of_length_le (by simp)
 have YZ:MH rk a.toList b.toList (#[]:Array Keyed).toList.reverse a.size b.size:=by
  refine⟨?_,?_,?_⟩
  ·rw[List.drop_eq_nil_of_le (by simp),List.drop_eq_nil_of_le (by simp)]
   exact List.Perm.refl _
  ·rw[fa]
   simpa using sa
  ·rw[fb]
   simpa using sb
 have m0:MH rk a.toList b.toList (#[z]:Array Keyed).toList.reverse (a.size-1) b.size:=YZ.tw na hz (by rw[fb];exact Wi)
 have Hv:∀{o:Array Keyed} {ia ib:Nat},MH rk a.toList b.toList o.toList.reverse ia ib->ib=1->Mg rk a.toList b.toList (b.extract 0 ib++a.extract 0 ia++o.reverse):=λ{o ia ib} m e=>m.first e cv h0
 refine bq (λc1=>wpS_pure (q _ _ (Sm.refl _) (m0.vW (by simpa using c1)))) (λc1=>?_)
 refine bq (λc2=>wpS_pure (q _ _ (Sm.refl _) (Hv m0 (by simpa using c2)))) (λc2=>?_)
 have c1':¬a.size-1=0:=by simpa using c1
 have c2':¬b.size=1:=by simpa using c2
 refine wpS_bind (wpS_get ?_)
 dsimp only
 refine wpS_bind (wpS_mono (wpS_forRange (I:=λx c aV=>Sm st aV/\∃ia ib o g,c=(none,ia,ib,o,g)/\MH rk a.toList b.toList o.toList.reverse ia ib/\1<=ia/\2<=ib/\ia<=a.size/\ib<=b.size/\ia+ib+x+1<=a.size+b.size)
  (Q:=λc aV=>Sm st aV/\∃r rest,c=(some r,rest)/\Mg rk a.toList b.toList r) ?step ?fin ⟨Sm.refl _,a.size-1,b.size,_,_,rfl,m0,by omega,by omega,by omega,by omega,by omega⟩) ?post)
 case post=>
  rintro c aV ⟨sm,r,rest,rfl,mg⟩
  exact wpS_pure (q r aV sm mg)
 case fin=>
  rintro c aV ⟨-,ia,ib,o,g,-,-,h1,h2,h3,h4,h5⟩
  omega
 case step=>
  rintro x c aV-hx ⟨sm,ia,ib,o,g,rfl,m,h1,h2,h3,h4,h5⟩
  dsimp only
  refine wpS_bind (wpS_mono (wpS_forRange (I:=λy c bX=>Sm st bX/\∃ja jb o ac bc,c=(none,ja,jb,o,ac,bc)/\MH rk a.toList b.toList o.toList.reverse ja jb/\1<=ja/\2<=jb/\ja<=a.size/\jb<=b.size/\ja+jb+y<=ia+ib)
   (Q:=λc bX=>Sm st bX/\((∃r rest,c=(some r,rest)/\Mg rk a.toList b.toList r)\/∃ja jb o ac bc,c=(none,ja,jb,o,ac,bc)/\MH rk a.toList b.toList o.toList.reverse ja jb/\1<=ja/\2<=jb/\ja<=a.size/\jb<=b.size/\ja+jb+1<=ia+ib))
   ?istep ?ifin ⟨sm,ia,ib,_,0,0,rfl,m,h1,h2,h3,h4,by omega⟩) ?ipost)
  case ifin=>
   rintro c bX ⟨-,ja,jb,o,ac,bc,-,-,g1,g2,g3,g4,g5⟩
   omega
  case istep=>
   rintro y c bX-hy ⟨qf,ja,jb,o2,ac,bc,rfl,m2,g1,g2,g3,g4,g5⟩
   dsimp only
   obtain⟨pa,zA,zB,Pr⟩:=cR (xs:=a) (i:=ja-1) (by omega)
   obtain⟨pb,vZ,xv,LI⟩:=cR (xs:=b) (i:=jb-1) (by omega)
   refine wpS_bind (bY xv (wpS_bind (bY zB (wpS_bind (C pb pa bX _ (qf.k.trans hk) (gb _ LI) (ga _ Pr) ?_)))))
   by_cases hw:rk pb<rk pa
   ·rw[decide_eq_true hw]
    refine wpS_bind (bY zB ?_)
    have m3:=m2.tw g1 zA λy hy=>Nat.le_trans (le_last m2.sb.left (by omega) vZ hy) (Nat.le_of_lt hw)
    refine bq (λd1=>wpS_pure ⟨qf,.inl ⟨_,_,rfl,m3.vW (by simpa using d1)⟩⟩) (λd1=>?_)
    have UQ:¬ja-1=0:=by simpa using d1
    refine bq (λd2=>wpS_pure ⟨qf,.inr ⟨ja-1,jb,_,_,_,rfl,m3,by omega,by omega,by omega,by omega,by omega⟩⟩) (λd2=>wpS_pure ⟨qf,ja-1,jb,_,_,_,rfl,m3,by omega,by omega,by omega,by omega,by omega⟩)
   ·rw[decide_eq_false hw]
    refine wpS_bind (bY xv ?_)
    have m3:=m2.Dt (by omega) vZ λy hy=>Nat.le_trans (le_last m2.sa.left g1 zA hy) (by omega)
    refine bq (λd1=>wpS_pure ⟨qf,.inl ⟨_,_,rfl,Hv m3 (by simpa using d1)⟩⟩) (λd1=>?_)
    have UQ:¬jb-1=1:=by simpa using d1
    refine bq (λd2=>wpS_pure ⟨qf,.inr ⟨ja,jb-1,_,_,_,rfl,m3,by omega,by omega,by omega,by omega,by omega⟩⟩) (λd2=>wpS_pure ⟨qf,ja,jb-1,_,_,_,rfl,m3,by omega,by omega,by omega,by omega,by omega⟩)
  case ipost=>
   rintro c bX ⟨qf,⟨r,rest,rfl,mg⟩|⟨ja,jb,o2,ac,bc,rfl,m2,g1,g2,g3,g4,g5⟩⟩
   ·exact wpS_pure ⟨qf,_,_,rfl,mg⟩
   dsimp only
   refine wpS_bind (wpS_lift (wpAny_rule ⟨rfl,?_⟩))
   refine wpS_bind (wpS_mono (LL C (n:=ja+jb) (λ_ _ _ _ _ _ _=>rfl) (λ_ _ _ _ _ _ _ _=>rfl) (λ_ _ _ _ _ _ _ _ _ _=>rfl) (λ_ _ _ _ _ _ _ _ _ _=>rfl) (λ_ _ _ _ _ _ _ _=>rfl) (λ_ _ _ _ _ _ _ _ _ _=>rfl) (λ_ _ _ _ _ _ _ _ _ _=>rfl) hk ga gb cv h0 ⟨qf,ja,jb,_,_,_,_,rfl,m2,g1,g2,g3,g4,by omega⟩) ?gpost)
   case gpost=>
    rintro c sv ⟨xw,⟨r,rest,rfl,mg⟩|⟨ka,kb,o3,g,ac,bc,rfl,m3,f1,f2,f3,f4,f5⟩⟩
    ·exact wpS_pure ⟨xw,_,_,rfl,mg⟩
    dsimp only
    refine wpS_bind (qr λmJ BC=>wpS_pure ⟨xw.trans BC,ka,kb,_,_,rfl,m3,f1,f2,f3,f4,by omega⟩)
end
theorem dX{l:List Keyed}{b n i:Nat}(h:i<n):((l.drop b).take n)[i]?=l[b+i]?:=by
 rw[List.getElem?_take,if_pos h,List.getElem?_drop]
theorem zE{l m:List Keyed}{b n:Nat}(h:∀i,b<=i->i<b+n->l[i]?=m[i]?):(l.drop b).take n=(m.drop b).take n:=by
 apply List.ext_getElem?
 intro i
 rw[List.getElem?_take,List.getElem?_take]
 split
 ·rw[List.getElem?_drop,List.getElem?_drop]
  exact h _ (by omega) (by omega)
 ·rfl
theorem ju{l:List Keyed}{b n:Nat}(h:b+n<=l.length):((l.drop b).take n).length=n:=by
 rw[List.length_take,List.length_drop]
 omega
theorem Dv(p:Nat):∀(m:List Keyed) (xs:Array Keyed) (c:Nat),p+c+m.length<=xs.size->
  ((m.zipIdx c).foldl (λa x=>a.setIfInBounds (p+x.2) x.1) xs).toList=xs.toList.take (p+c)++m++xs.toList.drop (p+c+m.length)
 |[],xs,c,h=>by simp
 |y::m,xs,c,h=>by
  rw[List.zipIdx_cons,List.foldl_cons]
  rw[List.length_cons]at h
  have ih:=Dv p m (xs.setIfInBounds (p+c) y) (c+1) (by rw[Array.size_setIfInBounds];omega)
  dsimp only
  rw[ih,Array.toList_setIfInBounds,show p+(c+1)=p+c+1 by omega]
  have h1:(xs.toList.set (p+c) y).take (p+c+1)=xs.toList.take (p+c)++[y]:=by
   rw[List.take_add_one,List.take_set_of_le (Nat.le_refl _),List.getElem?_set_self (by rw[Array.length_toList];omega)]
   rfl
  have h2:(xs.toList.set (p+c) y).drop (p+c+1+m.length)=xs.toList.drop (p+c+(y::m).length):=by
   rw[List.drop_set_of_lt (by omega),List.length_cons]
   congr 1
   omega
  rw[h1,h2,List.append_assoc,List.append_assoc,List.append_assoc]
  rfl
theorem gw(l:List Keyed)(b n m:Nat):(l.drop b).take (n+m)=(l.drop b).take n++(l.drop (b+n)).take m:=by rw[List.take_add,List.drop_drop]
theorem qu(l:List Keyed)(b n:Nat):l=l.take b++(l.drop b).take n++l.drop (b+n):=by
 rw[List.append_assoc,<-List.drop_drop,List.take_append_drop,List.take_append_drop]
theorem xx{l:List Keyed}{b n i:Nat}{p:Keyed}(h:l[b+i]?=some p)(hi:i<n):p∈(l.drop b).take n:=List.mem_of_getElem? (by rw[dX hi];exact h)
theorem PB{M:Model}{A:Around}{E:Value->Shared->Prop}{s:Shared}{st aV:SortSt}{Q:PUnit->SortSt->Prop}(h:Q ⟨⟩ aV):wpS M A E s (set aV:StateT SortSt Sem PUnit) Q st:=by
 unfold wpS
 rw[StateT.run_set]
 exact wpAny_pure ⟨rfl,h⟩
section
variable{prog:Program}{w:World}{A:Around}{E:Value->Shared->Prop}{s:Shared}{kd:SortKind}{G:Keyed->Prop}{rk:Keyed->Nat}
theorem tx{key:Keyed}{xs:Array Keyed}{b n:Nat}(h:Sd rk ((xs.toList.drop b).take n))(hn:b+n<=xs.size)(left:Bool):∀i j,i<=j->j<n->ki rk left key xs b j=true->ki rk left key xs b i=true:=by
 intro i j vc hj
 obtain⟨p,p1,p2,p3⟩:=cR (xs:=xs) (i:=b+i) (by omega)
 obtain⟨q,q1,q2,q3⟩:=cR (xs:=xs) (i:=b+j) (by omega)
 have:=tm h vc (by rw[dX (by omega)];exact p1) (by rw[dX hj];exact q1)
 unfold ki
 rw[BB p2,BB q2]
 cases left<;>simp<;>omega
theorem BF(C:zx prog w A E s kd G rk){i sa na pw nb UR:Nat}{st:SortSt}{Q:Bool->SortSt->Prop}(hk:kindOf st=kd)(gG:Gd G (arrOf st))(hf:failedOf st=none)
  (h1:(pendingOf st)[i]?=some (sa,na,pw))(h2:(pendingOf st)[i+1]?=some (sa+na,nb,UR))(h3:1<=na)(h4:1<=nb)(h5:sa+na+nb<=(arrOf st).size)
  (s1:Sd rk (((arrOf st).toList.drop sa).take na))(s2:Sd rk (((arrOf st).toList.drop (sa+na)).take nb))
  (q:∀aV m,kindOf aV=kd->failedOf aV=none->pendingOf aV=((pendingOf st).setIfInBounds i (sa,na+nb,pw)).eraseIdxIfInBounds (i+1)->
    (arrOf aV).toList=(arrOf st).toList.take sa++m++(arrOf st).toList.drop (sa+na+nb)->m.Perm (((arrOf st).toList.drop sa).take (na+nb))->Sd rk m->Q true aV):wpS (model prog w) A E s (mergeAt' i) Q st:=by
 refine wpS_bind (wpS_get ?_)
 rw[show(sortPriv% PySem.Builtin.SortState.pending) st=pendingOf st from rfl]
 rw[h1,h2]
 dsimp only
 refine wpS_bind (PB ?_)
 obtain⟨pb,vZ,xv,LI⟩:=cR (xs:=arrOf st) (i:=sa+na) (by omega)
 refine wpS_bind (bY xv (wpS_bind (iN C (left:=false) (key:=pb) (xs:=arrOf st) (base:=sa) (n:=na) (hint:=0) hk gG (gG _ LI) (by omega) (by omega) (tx s1 (by omega) false) λk k1 k2 k3=>?_)))
 dsimp only
 have b0:∀y∈((arrOf st).toList.drop (sa+na)).take nb,rk pb<=rk y:=λy hy=>by
  obtain⟨j,hj,e⟩:=eJ hy
  exact tm s2 (Nat.zero_le j) (by rw[dX (by omega)];exact vZ) (by rw[dX hj];exact e)
 have a1:∀x∈((arrOf st).toList.drop sa).take k,rk x<=rk pb:=λx hx=>by
  obtain⟨j,hj,e⟩:=eJ hx
  have q1:=k2 j hj
  rw[vY e]at q1
  exact of_decide_eq_true q1
 refine bq (λe1=>?_) (λe1=>?_)
 ·obtain rfl:k=na:=by
    have:na-k=0:=by simpa using e1
    omega
  refine wpS_pure (q _ (((arrOf st).toList.drop sa).take (k+nb)) hk hf rfl ?_ (List.Perm.refl _) ?_)
  ·rw[Nat.add_assoc]
   exact qu _ _ _
  ·rw[gw]
   exact Sd.app s1 s2 λx hx y hy=>Nat.le_trans (a1 x hx) (b0 y hy)
 have US:¬na-k=0:=by simpa using e1
 have gk:=k3 k (Nat.le_refl _) (by omega)
 obtain⟨pz,XM,Y0,Y1⟩:=cR (xs:=arrOf st) (i:=sa+k+(na-k)-1) (by omega)
 refine wpS_bind (bY Y0 (wpS_bind (iN C (left:=true) (key:=pz) (xs:=arrOf st) (base:=sa+na) (n:=nb) (hint:=nb-1) hk gG (gG _ Y1) (by omega) (by omega) (tx s2 (by omega) true) λj j1 j2 j3=>?_)))
 have Wn:(arrOf st).toList[sa+(na-1)]?=some pz:=by rw[<-XM];congr 1;omega
 have az:∀x∈((arrOf st).toList.drop sa).take na,rk x<=rk pz:=λx hx=>by
  obtain⟨i,hi,e⟩:=eJ hx
  exact tm s1 (show i<=na-1 by omega) (by rw[dX hi];exact e) (by rw[dX (by omega)];exact Wn)
 have b2:∀y∈((arrOf st).toList.drop (sa+na+j)).take (nb-j),rk pz<=rk y:=λy hy=>by
  obtain⟨i,hi,e⟩:=eJ hy
  have q1:=j3 (j+i) (by omega) (by omega)
  rw[vX (by rw[<-Nat.add_assoc];exact e)]at q1
  have:=of_decide_eq_false q1
  omega
 refine bq (λe2=>?_) (λe2=>?_)
 ·obtain rfl:j=0:=by simpa using e2
  refine wpS_pure (q _ (((arrOf st).toList.drop sa).take (na+nb)) hk hf rfl ?_ (List.Perm.refl _) ?_)
  ·rw[Nat.add_assoc]
   exact qu _ _ _
  ·rw[gw]
   exact Sd.app s1 s2 λx hx y hy=>Nat.le_trans (az x hx) (b2 y hy)
 have XN:¬j=0:=by simpa using e2
 have ex:((arrOf st).extract (sa+k) (sa+na)).toList=((arrOf st).toList.drop (sa+k)).take (na-k):=by
  rw[show sa+na=sa+k+(na-k) by omega]
  exact j0
 have ey:((arrOf st).extract (sa+na) (sa+na+j)).toList=((arrOf st).toList.drop (sa+na)).take j:=j0
 have RI:=s1
 have S7:=s2
 rw[show na=k+(na-k) by omega,gw]at RI
 rw[show nb=j+(nb-j) by omega,gw]at S7
 have xl:((arrOf st).extract (sa+k) (sa+na)).size=na-k:=by
  rw[<-Array.length_toList,ex,ju (by rw[Array.length_toList];omega)]
 have yl:((arrOf st).extract (sa+na) (sa+na+j)).size=j:=by
  rw[<-Array.length_toList,ey,ju (by rw[Array.length_toList];omega)]
 have gx:Gd G ((arrOf st).extract (sa+k) (sa+na)):=λp hp=>gG p (by
  rw[ex]at hp
  exact List.mem_of_mem_drop (List.mem_of_mem_take hp))
 have gy:Gd G ((arrOf st).extract (sa+na) (sa+na+j)):=λp hp=>gG p (by
  rw[ey]at hp
  exact List.mem_of_mem_drop (List.mem_of_mem_take hp))
 obtain⟨pk,UT,pk2,pk3⟩:=cR (xs:=arrOf st) (i:=sa+k) (by omega)
 rw[vY UT]at gk
 have gk':=of_decide_eq_false gk
 have XO:((arrOf st).extract (sa+na) (sa+na+j)).toList[0]?=some pb:=by
  rw[ey,dX (by omega)]
  exact vZ
 have Nj:((arrOf st).extract (sa+k) (sa+na)).toList[0]?=some pk:=by
  rw[ex,dX (by omega)]
  exact UT
 have UU:((arrOf st).extract (sa+k) (sa+na)).toList[((arrOf st).extract (sa+k) (sa+na)).size-1]?=some pz:=by
  rw[xl,ex,dX (by omega),<-XM]
  congr 1
  omega
 have XQ:∀y∈((arrOf st).extract (sa+na) (sa+na+j)).toList,rk y<=rk pz:=λy hy=>by
  rw[ey]at hy
  obtain⟨i,hi,e⟩:=eJ hy
  have q1:=j2 i hi
  rw[vX e]at q1
  exact Nat.le_of_lt (of_decide_eq_true q1)
 have XR:∀x∈((arrOf st).extract (sa+k) (sa+na)).toList,rk pb<=rk x:=λx hx=>by
  rw[ex]at hx
  obtain⟨i,hi,e⟩:=eJ hx
  have:=tm RI.right (Nat.zero_le i) (by rw[dX (by omega)];exact UT) (by rw[dX hi];exact e)
  omega
 have fin:∀(o:Array Keyed) (bX:SortSt),kindOf bX=kd->arrOf bX=arrOf st->failedOf bX=none->pendingOf bX=((pendingOf st).setIfInBounds i (sa,na+nb,pw)).eraseIdxIfInBounds (i+1)->
   Mg rk ((arrOf st).extract (sa+k) (sa+na)).toList ((arrOf st).extract (sa+na) (sa+na+j)).toList o->
   Q true (SortSt.mk' (kindOf bX) (o.toList.zipIdx.foldl (λa x=>a.setIfInBounds (sa+k+x.2) x.1) (arrOf bX)) (pendingOf bX) (gallopOf bX) (failedOf bX)):=by
  intro o bX t1 t2 t3 t4 mg
  obtain⟨pm,so⟩:=mg
  rw[ex,ey]at pm
  have ol:o.toList.length=na-k+j:=by
   rw[pm.length_eq,List.length_append,ju (by rw[Array.length_toList];omega),ju (by rw[Array.length_toList];omega)]
  refine q _ (((arrOf st).toList.drop sa).take k++o.toList++((arrOf st).toList.drop (sa+na+j)).take (nb-j)) t1 t3 t4 ?_ ?_ ?_
  ·show(o.toList.zipIdx.foldl (λa x=>a.setIfInBounds (sa+k+x.2) x.1) (arrOf bX)).toList=_
   rw[Dv (sa+k) o.toList (arrOf bX) 0 (by rw[t2,ol];omega),t2,ol]
   have f1:(arrOf st).toList.take (sa+k+0)=(arrOf st).toList.take sa++((arrOf st).toList.drop sa).take k:=by rw[Nat.add_zero,List.take_add]
   have f2:(arrOf st).toList.drop (sa+k+0+(na-k+j))=((arrOf st).toList.drop (sa+na+j)).take (nb-j)++(arrOf st).toList.drop (sa+na+nb):=by
    rw[show sa+k+0+(na-k+j)=sa+na+j by omega]
    have:=Du (arrOf st).toList (show sa+na+j<=sa+na+nb by omega)
    rw[show sa+na+nb-(sa+na+j)=nb-j by omega]at this
    exact this
   rw[f1,f2]
   simp only[List.append_assoc]
  ·have g1:((arrOf st).toList.drop sa).take (na+nb)=((arrOf st).toList.drop sa).take k++(((arrOf st).toList.drop (sa+k)).take (na-k)++((arrOf st).toList.drop (sa+na)).take j)++((arrOf st).toList.drop (sa+na+j)).take (nb-j):=by
     rw[gw _ sa na nb]
     have u1:=gw (arrOf st).toList sa k (na-k)
     have u2:=gw (arrOf st).toList (sa+na) j (nb-j)
     rw[show k+(na-k)=na by omega]at u1
     rw[show j+(nb-j)=nb by omega]at u2
     rw[u1,u2]
     simp only[List.append_assoc]
   rw[g1]
   exact(pm.append_left _).append_right _
  ·have hA:∀x∈((arrOf st).toList.drop sa).take k,∀y∈o.toList,rk x<=rk y:=λx hx y hy=>by
     rcases List.mem_append.mp (pm.mem_iff.mp hy)with hy|hy
     ·exact RI.vU x hx y hy
     ·refine Nat.le_trans (a1 x hx) (b0 y ?_)
      obtain⟨i,hi,e⟩:=eJ hy
      exact xx e (by omega)
   have hB:∀x∈o.toList,∀y∈((arrOf st).toList.drop (sa+na+j)).take (nb-j),rk x<=rk y:=λx hx y hy=>by
    rcases List.mem_append.mp (pm.mem_iff.mp hx)with hx|hx
    ·refine Nat.le_trans (az x ?_) (b2 y hy)
     obtain⟨i,hi,e⟩:=eJ hx
     exact xx (i:=k+i) (by rw[<-Nat.add_assoc];exact e) (by omega)
    ·exact S7.vU x hx y hy
   refine Sd.app (Sd.app RI.left so hA) S7.right λx hx y hy=>?_
   rcases List.mem_append.mp hx with hx|hx
   ·exact Nat.le_trans (a1 x hx) (Nat.le_trans (XR pk (List.mem_of_getElem? Nj)) (Nat.le_trans (az pk (xx UT (by omega))) (b2 y hy)))
   ·exact hB x hx y hy
 refine bq (λe3=>?_) (λe3=>?_)
 ·refine wpS_bind (BD C hk gx gy (by rw[ex];exact RI.right) (by rw[ey];exact S7.left) (by rw[xl];omega) (by rw[yl];omega) Nj XO (by omega) UU XQ λo bX sm mg=>?_)
  refine wpS_bind (wpS_modify (wpS_bind (wpS_get (wpS_pure ?_))))
  have ff:failedOf bX=none:=sm.f.trans hf
  have:=fin o bX (sm.k.trans hk) sm.a ff sm.p mg
  show Q (Option.isNone (failedOf bX)) _
  rw[ff]
  exact this
 ·refine wpS_bind (BE C hk gx gy (by rw[ex];exact RI.right) (by rw[ey];exact S7.left) (by rw[xl];omega) (by rw[yl];omega) XO XR UU XQ λo bX sm mg=>?_)
  refine wpS_bind (wpS_modify (wpS_bind (wpS_get (wpS_pure ?_))))
  have ff:failedOf bX=none:=sm.f.trans hf
  have:=fin o bX (sm.k.trans hk) sm.a ff sm.p mg
  show Q (Option.isNone (failedOf bX)) _
  rw[ff]
  exact this
end
structure Bs(kd:SortKind)(a₀:Array Keyed)(st:SortSt):Prop where
 pm:(arrOf st).Perm a₀
 k:kindOf st=kd
 f:failedOf st=none
theorem Bs.size{kd:SortKind}{a₀:Array Keyed}{st:SortSt}(B:Bs kd a₀ st):(arrOf st).size=a₀.size:=B.pm.size_eq
theorem Bs.gd{kd:SortKind}{a₀:Array Keyed}{st:SortSt}{G:Keyed->Prop}(B:Bs kd a₀ st)(g:Gd G a₀):Gd G (arrOf st):=λp hp=>g p ((Array.perm_iff_toList_perm.mp B.pm).mem_iff.mp hp)
theorem Bs.arr{kd:SortKind}{a₀:Array Keyed}{st:SortSt}(B:Bs kd a₀ st){xs:Array Keyed}(h:xs.Perm (arrOf st)):Bs kd a₀ (setArr st xs):=⟨h.trans B.pm,B.k,B.f⟩
noncomputable def Up(rk:Keyed->Nat)(xs:Array Keyed)(lo hi:Nat):Prop:=∀i j,lo<=i->i<=j->j<hi->R rk xs i<=R rk xs j
noncomputable def Dn(rk:Keyed->Nat)(xs:Array Keyed)(lo hi:Nat):Prop:=∀i j,lo<=i->i<=j->j<hi->R rk xs j<=R rk xs i
noncomputable def Kp(lo:Nat)(st aV:SortSt):Prop:=(∀k,k<lo->(arrOf aV)[k]?=(arrOf st)[k]?)/\pendingOf aV=pendingOf st
theorem Kp.refl(lo:Nat)(st:SortSt):Kp lo st st:=⟨λ_ _=>rfl,rfl⟩
theorem Kp.trans{lo:Nat}{st aV Ht:SortSt}(x:Kp lo st aV)(y:Kp lo aV Ht):Kp lo st Ht:=⟨λk h=>(y.1 k h).trans (x.1 k h),y.2.trans x.2⟩
theorem oM{rk:Keyed->Nat}{xs ys:Array Keyed}{i j:Nat}(h:xs[i]?=ys[j]?):R rk xs i=R rk ys j:=by
 unfold R
 rw[h]
theorem Up.sd{rk:Keyed->Nat}{xs:Array Keyed}{lo n:Nat}(h:Up rk xs lo (lo+n))(hn:lo+n<=xs.size):Sd rk ((xs.toList.drop lo).take n):=by
 refine List.pairwise_iff_getElem.mpr λi j hi hj vc=>?_
 have hl:((xs.toList.drop lo).take n).length=n:=ju (by rw[Array.length_toList];exact hn)
 have q:=h (lo+i) (lo+j) (by omega) (by omega) (by omega)
 rw[xu (p:=((xs.toList.drop lo).take n)[i]) (by rw[<-dX (n:=n) (by omega)];exact List.getElem?_eq_getElem hi),xu (p:=((xs.toList.drop lo).take n)[j]) (by rw[<-dX (n:=n) (by omega)];exact List.getElem?_eq_getElem hj)]at q
 exact q
theorem Hw{rk:Keyed->Nat}{xs:Array Keyed}{i j:Nat}(hj:j<=xs.size)(k:Nat):R rk (mirror xs i j ((j-i)/2)) k=if i<=k/\k<j then R rk xs (i+j-1-k)else R rk xs k:=by
 have e:=getElem?_mirror_all (i:=i) hj k
 split
 ·rename_i h
  rw[if_pos h]at e
  exact oM e
 ·rename_i h
  rw[if_neg h]at e
  exact oM e
theorem lH{rk:Keyed->Nat}{xs:Array Keyed}{i j:Nat}(hj:j<=xs.size)(h:∀k,i<=k->k<j->R rk xs k=R rk xs (j-1))(k:Nat):R rk (mirror xs i j ((j-i)/2)) k=R rk xs k:=by
 rw[Hw hj]
 split
 ·rw[h _ (by omega) (by omega),h k (by omega) (by omega)]
 ·rfl
theorem ND{rk:Keyed->Nat}{xs:Array Keyed}{src d:Nat}(hs:src<xs.size)(hd:d<=src)(k:Nat):R rk (bubble xs src d) k=if k=src-d then R rk xs src else if src-d<k/\k<=src then R rk xs (k-1)else R rk xs k:=by
 have e:=getElem?_bubble hs d hd k
 by_cases h1:k=src-d
 ·rw[if_pos h1]at e
  rw[if_pos h1]
  exact oM e
 ·rw[if_neg h1]at e
  rw[if_neg h1]
  by_cases h2:src-d<k/\k<=src
  ·rw[if_pos h2]at e
   rw[if_pos h2]
   exact oM e
  ·rw[if_neg h2]at e
   rw[if_neg h2]
   exact oM e
section
variable{prog:Program}{w:World}{A:Around}{E:Value->Shared->Prop}{s:Shared}{kd:SortKind}{G:Keyed->Prop}{rk:Keyed->Nat}{a₀:Array Keyed}
theorem v3(C:zx prog w A E s kd G rk)(g:Gd G a₀){st:SortSt}(B:Bs kd a₀ st){i j:Nat}{Q:Option Bool->SortSt->Prop}(hi:i<a₀.size)(hj:j<a₀.size)(q:Q (some (decide (R rk (arrOf st) i<R rk (arrOf st) j))) st):wpS (model prog w) A E s (ltAt' i j) Q st:=by
 obtain⟨p,p1,p2,p3⟩:=(B.gd g).at (rk:=rk) (i:=i) (by rw[B.size];exact hi)
 obtain⟨r,r1,r2,r3⟩:=(B.gd g).at (rk:=rk) (i:=j) (by rw[B.size];exact hj)
 rw[p3,r3]at q
 rw[ltAt'_eq]
 exact wpS_bind (wpS_get (wpS_bind (bY p1 (wpS_bind (bY r1 (C p r st Q B.k p2 r2 q))))))
theorem xy{M:Model}{i j:Nat}{st:SortSt}{Q:Unit->SortSt->Prop}(q:Q () (setArr st (mirror (arrOf st) i j ((j-i)/2)))):wpS M A E s (reverseSlice' i j) Q st:=by
 rw[reverseSlice'_eq]
 exact wpS_modify q
theorem vm(C:zx prog w A E s kd G rk)(g:Gd G a₀){lo n ok:Nat}{st:SortSt}{Q:Bool->SortSt->Prop}(B:Bs kd a₀ st)(hn:lo+n<=a₀.size)(dZ:ok<=n)(h1:1<=ok)(u:Up rk (arrOf st) lo (lo+ok))
  (q:∀aV,Bs kd a₀ aV->Kp lo st aV->Up rk (arrOf aV) lo (lo+n)->Q true aV):wpS (model prog w) A E s (binarySort' lo n ok) Q st:=by
 rw[binarySort'_eq]
 refine wpS_bind (wpS_mono (wpS_forRange (I:=λk c aV=>c=(none,())/\k<=n/\Bs kd a₀ aV/\Kp lo st aV/\Up rk (arrOf aV) lo (lo+k))
  (Q:=λc aV=>c=(none,())/\Bs kd a₀ aV/\Kp lo st aV/\Up rk (arrOf aV) lo (lo+n)) ?step ?fin ⟨rfl,by omega,B,Kp.refl _ _,by rw[show max ok 1=ok by omega];exact u⟩) ?post)
 case post=>
  rintro c aV ⟨rfl,x1,x2,x3⟩
  exact wpS_pure (q aV x1 x2 x3)
 case fin=>
  rintro c aV ⟨rfl,h2,x1,x2,x3⟩
  rw[show max (max ok 1) n=n by omega]at x3
  exact⟨rfl,x1,x2,x3⟩
 case step=>
  rintro k c aV hk1 hkn ⟨rfl,-,B1,K1,u1⟩
  have NF:lo+k<a₀.size:=by omega
  refine wpS_bind (wpS_mono (wpS_forRange (I:=λx c bX=>bX=aV/\∃l r,c=(none,l,r)/\l<=r/\r<=k/\r-l<=k-x/\(∀i,i<l->R rk (arrOf aV) (lo+i)<=R rk (arrOf aV) (lo+k))/\∀i,r<=i->i<k->R rk (arrOf aV) (lo+k)<R rk (arrOf aV) (lo+i))
   (Q:=λc bX=>bX=aV/\∃l r,c=(none,l,r)/\l<=k/\(∀i,i<l->R rk (arrOf aV) (lo+i)<=R rk (arrOf aV) (lo+k))/\∀i,l<=i->i<k->R rk (arrOf aV) (lo+k)<R rk (arrOf aV) (lo+i)) ?istep ?ifin
   ⟨rfl,0,k,rfl,by omega,by omega,by omega,λi hi=>by omega,λi h1 h2=>by omega⟩) ?ipost)
  case ifin=>
   rintro c bX ⟨rfl,l,r,rfl,a1,a2,a3,a4,a5⟩
   obtain rfl:l=r:=by omega
   exact⟨rfl,l,l,rfl,a2,a4,a5⟩
  case istep=>
   rintro x c bX-hx ⟨rfl,l,r,rfl,a1,a2,a3,a4,a5⟩
   dsimp only
   refine bq (λd=>?_) (λd=>?_)
   ·obtain rfl:l=r:=by omega
    exact wpS_pure ⟨rfl,l,l,rfl,a2,a4,a5⟩
   ·refine wpS_bind (v3 C g B1 NF (by omega) ?_)
    by_cases hl:R rk (arrOf bX) (lo+k)<R rk (arrOf bX) (lo+(l+r)/2)
    ·rw[decide_eq_true hl]
     refine wpS_pure ⟨rfl,l,(l+r)/2,rfl,by omega,by omega,by omega,a4,λi b1 b2=>?_⟩
     exact Nat.lt_of_lt_of_le hl (u1 _ _ (by omega) (by omega) (by omega))
    ·rw[decide_eq_false hl]
     refine wpS_pure ⟨rfl,(l+r)/2+1,r,rfl,by omega,by omega,by omega,λi b1=>?_,a5⟩
     exact Nat.le_trans (u1 (lo+i) (lo+(l+r)/2) (by omega) (by omega) (by omega)) (by omega)
  case ipost=>
   rintro c bX ⟨rfl,l,r,rfl,a1,a2,a3⟩
   dsimp only
   rw[moveDown'_eq]
   have qd:lo+k<(arrOf bX).size:=by rw[B1.size];exact NF
   refine wpS_bind (wpS_modify (wpS_pure ⟨rfl,by omega,B1.arr (bubble_perm _ _ _),K1.trans ⟨λi hi=>?_,rfl⟩,?_⟩))
   ·show(bubble (arrOf bX) (lo+k) (lo+k-(lo+l)))[i]?=_
    rw[getElem?_bubble qd _ (by omega),if_neg (by omega),if_neg (by omega)]
   ·intro i j h1 h2 h3
    show R rk (bubble (arrOf bX) (lo+k) (lo+k-(lo+l))) i<=R rk (bubble (arrOf bX) (lo+k) (lo+k-(lo+l))) j
    rw[ND qd (by omega),ND qd (by omega),show lo+k-(lo+k-(lo+l))=lo+l by omega]
    have v1:∀i,lo<=i->i<lo+l->R rk (arrOf bX) i<=R rk (arrOf bX) (lo+k):=λi b1 b2=>by
     have:=a2 (i-lo) (by omega)
     rw[show lo+(i-lo)=i by omega]at this
     exact this
    have v2:∀i,lo+l<=i->i<lo+k->R rk (arrOf bX) (lo+k)<=R rk (arrOf bX) i:=λi b1 b2=>by
     have:=a3 (i-lo) (by omega) (by omega)
     rw[show lo+(i-lo)=i by omega]at this
     exact Nat.le_of_lt this
    repeat' split
    all_goals first
     |(exfalso;omega)
     |exact Nat.le_refl _
     |exact v1 _ (by omega) (by omega)
     |exact v2 _ (by omega) (by omega)
     |exact u1 _ _ (by omega) (by omega) (by omega)
end
section
variable{prog:Program}{w:World}{A:Around}{E:Value->Shared->Prop}{s:Shared}{kd:SortKind}{G:Keyed->Prop}{rk:Keyed->Nat}{a₀:Array Keyed}
theorem Up.more{xs:Array Keyed}{lo x:Nat}(u:Up rk xs lo (lo+x))(h1:1<=x)(h:¬R rk xs (lo+x)<R rk xs (lo+x-1)):Up rk xs lo (lo+(x+1)):=λi j a b c=>by
 by_cases hj:j<lo+x
 ·exact u i j a b hj
 ·obtain rfl:j=lo+x:=by omega
  by_cases hi:i=lo+x
  ·subst hi
   exact Nat.le_refl _
  ·exact Nat.le_trans (u i (lo+x-1) a (by omega) (by omega)) (by omega)
theorem Up.one{xs:Array Keyed}(lo:Nat):Up rk xs lo (lo+1):=λi j a b c=>by
 obtain rfl:i=j:=by omega
 exact Nat.le_refl _
theorem PC{xs:Array Keyed}{lo x:Nat}(d:Dn rk xs lo (lo+x))(h:lo+x<=xs.size):Up rk (mirror xs lo (lo+x) ((lo+x-lo)/2)) lo (lo+x):=λi j a b c=>by
 rw[Hw h,Hw h,if_pos (by omega),if_pos (by omega)]
 exact d _ _ (by omega) (by omega) (by omega)
theorem zF(C:zx prog w A E s kd G rk)(g:Gd G a₀){lo nC:Nat}{st:SortSt}{Q:Option Nat->SortSt->Prop}(B:Bs kd a₀ st)(hn:lo+nC<=a₀.size)(h1:1<=nC)
  (q:∀m aV,Bs kd a₀ aV->Kp lo st aV->1<=m->m<=nC->Up rk (arrOf aV) lo (lo+m)->Q (some m) aV):wpS (model prog w) A E s (countRun' lo nC) Q st:=by
 rw[countRun'_eq]
 refine wpS_bind (wpS_mono (wpS_forRange (I:=λx c aV=>aV=st/\c=(none,x)/\x<=nC/\Up rk (arrOf st) lo (lo+x))
  (Q:=λc aV=>aV=st/\∃n,c=(none,n)/\1<=n/\n<=nC/\Up rk (arrOf st) lo (lo+n)/\(n=nC\/R rk (arrOf st) (lo+n)<R rk (arrOf st) (lo+n-1))) ?step ?fin ⟨rfl,rfl,h1,Up.one lo⟩) ?post)
 case fin=>
  rintro c aV ⟨rfl,rfl,h2,u⟩
  rw[show max 1 nC=nC by omega]at u h2⊢
  exact⟨rfl,nC,rfl,h1,Nat.le_refl _,u,.inl rfl⟩
 case step=>
  rintro x c aV Wo Y2 ⟨rfl,rfl,h2,u⟩
  dsimp only
  refine wpS_bind (v3 C g B (by omega) (by omega) ?_)
  by_cases hl:R rk (arrOf aV) (lo+x)<R rk (arrOf aV) (lo+x-1)
  ·rw[decide_eq_true hl]
   exact wpS_pure ⟨rfl,x,rfl,Wo,by omega,u,.inr hl⟩
  ·rw[decide_eq_false hl]
   exact wpS_pure ⟨rfl,rfl,by omega,u.more Wo hl⟩
 case post=>
  rintro c aV ⟨rfl,n,rfl,n1,n2,u,Y3⟩
  dsimp only
  refine bq (λe=>wpS_pure (q n aV B (Kp.refl _ _) n1 n2 u)) (λe=>?_)
  have e':¬n=nC:=by simpa using e
  have jW:=Y3.resolve_left e'
  have qd:lo+n<=(arrOf aV).size:=by rw[B.size];omega
  refine bq (λgt=>wpS_bind (v3 C g B (by omega) (by omega) ?_)) (λgt=>?_)
  by_cases hr:R rk (arrOf aV) lo<R rk (arrOf aV) (lo+n-1)
  ·rw[decide_eq_true hr]
   exact wpS_pure (q n aV B (Kp.refl _ _) n1 n2 u)
  rw[decide_eq_false hr]
  refine wpS_bind (xy ?_)
  have all:∀k,lo<=k->k<lo+n->R rk (arrOf aV) k=R rk (arrOf aV) (lo+n-1):=λk k1 k2=>by
   have x1:=u lo k (Nat.le_refl _) k1 k2
   have x2:=u k (lo+n-1) k1 (by omega) (by omega)
   omega
  have B2:=B.arr (mirror_perm (arrOf aV) lo (lo+n) ((lo+n-lo)/2))
  have K2:Kp lo aV (setArr aV (mirror (arrOf aV) lo (lo+n) ((lo+n-lo)/2))):=⟨λk hk=>by
   show(mirror (arrOf aV) lo (lo+n) ((lo+n-lo)/2))[k]?=_
   rw[getElem?_mirror_all qd,if_neg (by omega)],rfl⟩
  have d2:Dn rk (arrOf (setArr aV (mirror (arrOf aV) lo (lo+n) ((lo+n-lo)/2)))) lo (lo+(n+1)):=λi j a b c=>by
   show R rk (mirror (arrOf aV) lo (lo+n) ((lo+n-lo)/2)) j<=R rk (mirror (arrOf aV) lo (lo+n) ((lo+n-lo)/2)) i
   rw[lH qd all,lH qd all]
   by_cases hj:j<lo+n
   ·rw[all i (by omega) (by omega),all j (by omega) hj]
    exact Nat.le_refl _
   ·obtain rfl:j=lo+n:=by omega
    by_cases hi:i=lo+n
    ·subst hi
     exact Nat.le_refl _
    ·rw[all i a (by omega)]
     omega
  rotate_left
  obtain rfl:n=1:=by omega
  have B2:=B
  have K2:=Kp.refl lo aV
  have d2:Dn rk (arrOf aV) lo (lo+(1+1)):=λi j a b c=>by
   by_cases hi:i=j
   ·subst hi
    exact Nat.le_refl _
   ·obtain rfl:i=lo:=by omega
    obtain rfl:j=i+1:=by omega
    rw[show i+1-1=i by omega]at jW
    exact Nat.le_of_lt jW
  all_goals
   refine wpS_bind (wpS_lift (wpAny_rule ⟨rfl,?_⟩))
   refine wpS_bind (wpS_mono (wpS_forRange (I:=λx c bX=>∃xA,c=(none,x,xA)/\x<=nC/\Bs kd a₀ bX/\Kp lo aV bX/\Dn rk (arrOf bX) lo (lo+x)/\xA+1<=x/\∀i,lo+x-(xA+1)<=i->i<lo+x->R rk (arrOf bX) i=R rk (arrOf bX) (lo+x-1))
    (Q:=λc bX=>∃x xA,c=(none,x,xA)/\1<=x/\x<=nC/\Bs kd a₀ bX/\Kp lo aV bX/\Dn rk (arrOf bX) lo (lo+x)/\xA+1<=x/\∀i,lo+x-(xA+1)<=i->i<lo+x->R rk (arrOf bX) i=R rk (arrOf bX) (lo+x-1))
    (λx c bX Wo Y2 hI=>?_) (λc bX hI=>?_) ⟨0,rfl,by omega,B2,K2,d2,by omega,λi a b=>by congr 1;omega⟩) (λc bX hI=>?_))
   ·obtain⟨xA,rfl,y1,B3,K3,d3,y2,y3⟩:=hI
    dsimp only
    have NG:lo+x<=(arrOf bX).size:=by rw[B3.size];omega
    refine wpS_bind (v3 C g B3 (by omega) (by omega) ?_)
    by_cases hl:R rk (arrOf bX) (lo+x)<R rk (arrOf bX) (lo+x-1)
    ·rw[decide_eq_true hl]
     have ext:∀xs:Array Keyed,(∀k,R rk xs k=R rk (arrOf bX) k)->Dn rk xs lo (lo+(x+1)):=λxs hk i j a b c=>by
      rw[hk,hk]
      by_cases hj:j<lo+x
      ·exact d3 i j a b hj
      ·obtain rfl:j=lo+x:=by omega
       by_cases hi:i=lo+x
       ·subst hi
        exact Nat.le_refl _
       ·exact Nat.le_trans (Nat.le_of_lt hl) (d3 i (lo+x-1) a (by omega) (by omega))
     refine bq (λ_=>?_) (λz=>absurd rfl z)
     refine bq (λz=>wpS_bind (xy (wpS_pure ?_))) (λz=>wpS_pure ?_)
     ·refine⟨0,rfl,by omega,B3.arr (mirror_perm _ _ _ _),K3.trans ⟨λk hk=>?_,rfl⟩,ext _ (lH NG y3),by omega,λi a b=>by congr 1;omega⟩
      show(mirror (arrOf bX) _ _ _)[k]?=_
      rw[getElem?_mirror_all NG,if_neg (by omega)]
     ·exact⟨0,rfl,by omega,B3,K3,ext _ (λ_=>rfl),by omega,λi a b=>by congr 1;omega⟩
    ·rw[decide_eq_false hl]
     refine wpS_bind (v3 C g B3 (by omega) (by omega) ?_)
     by_cases XS:R rk (arrOf bX) (lo+x-1)<R rk (arrOf bX) (lo+x)
     ·rw[decide_eq_true XS]
      exact wpS_pure ⟨x,xA,rfl,by omega,by omega,B3,K3,d3,y2,y3⟩
     ·rw[decide_eq_false XS]
      have ee:R rk (arrOf bX) (lo+x)=R rk (arrOf bX) (lo+x-1):=by omega
      refine wpS_pure ⟨xA+1,rfl,by omega,B3,K3,λi j a b c=>?_,by omega,λi a b=>?_⟩
      ·by_cases hj:j<lo+x
       ·exact d3 i j a b hj
       ·obtain rfl:j=lo+x:=by omega
        by_cases hi:i=lo+x
        ·subst hi
         exact Nat.le_refl _
        ·rw[ee]
         exact d3 i (lo+x-1) a (by omega) (by omega)
      ·rw[show lo+(x+1)-1=lo+x by omega]
       by_cases hi:i=lo+x
       ·rw[hi]
       ·rw[ee]
        exact y3 i (by omega) (by omega)
   ·obtain⟨xA,rfl,y1,B3,K3,d3,y2,y3⟩:=hI
    exact⟨_,xA,rfl,by omega,y1,B3,K3,d3,y2,y3⟩
   ·obtain⟨x,xA,rfl,y0,y1,B3,K3,d3,y2,y3⟩:=hI
    dsimp only
    have NG:lo+x<=(arrOf bX).size:=by rw[B3.size];omega
    refine bq (λz=>wpS_bind (xy ?_)) (λz=>?_)
    have B4:=B3.arr (mirror_perm (arrOf bX) (lo+x-(xA+1)) (lo+x) ((lo+x-(lo+x-(xA+1)))/2))
    have K4:Kp lo aV (setArr bX (mirror (arrOf bX) (lo+x-(xA+1)) (lo+x) ((lo+x-(lo+x-(xA+1)))/2))):=K3.trans ⟨λk hk=>by
     show(mirror (arrOf bX) _ _ _)[k]?=_
     rw[getElem?_mirror_all NG,if_neg (by omega)],rfl⟩
    have d4:Dn rk (arrOf (setArr bX (mirror (arrOf bX) (lo+x-(xA+1)) (lo+x) ((lo+x-(lo+x-(xA+1)))/2)))) lo (lo+x):=λi j a b c=>by
     show R rk (mirror (arrOf bX) _ _ _) j<=R rk (mirror (arrOf bX) _ _ _) i
     rw[lH NG y3,lH NG y3]
     exact d3 i j a b c
    rotate_left
    have B4:=B3
    have K4:=K3
    have d4:=d3
    all_goals
     refine wpS_bind (xy ?_)
     have hs4:=B4.size
     have Y4:lo+x<=a₀.size:=by omega
     have B5:=B4.arr (mirror_perm _ lo (lo+x) ((lo+x-lo)/2))
     refine wpS_bind (wpS_mono (wpS_forRange (I:=λy c kh=>c=(none,y)/\y<=nC/\Bs kd a₀ kh/\Kp lo aV kh/\Up rk (arrOf kh) lo (lo+y))
      (Q:=λc kh=>∃y,c=(none,y)/\1<=y/\y<=nC/\Bs kd a₀ kh/\Kp lo aV kh/\Up rk (arrOf kh) lo (lo+y))
      (λy c kh hy1 hy2 hI=>?_) (λc kh hI=>?_) ⟨rfl,y1,B5,K4.trans ⟨λk hk=>?_,rfl⟩,λi j a b c=>?_⟩) (λc kh hI=>?_))
     ·obtain⟨rfl,z1,B6,K6,u6⟩:=hI
      dsimp only
      refine wpS_bind (v3 C g B6 (by omega) (by omega) ?_)
      by_cases hl:R rk (arrOf kh) (lo+y)<R rk (arrOf kh) (lo+y-1)
      ·rw[decide_eq_true hl]
       exact wpS_pure ⟨y,rfl,by omega,by omega,B6,K6,u6⟩
      ·rw[decide_eq_false hl]
       exact wpS_pure ⟨rfl,by omega,B6,K6,u6.more (by omega) hl⟩
     ·obtain⟨rfl,z1,B6,K6,u6⟩:=hI
      exact⟨_,rfl,by omega,z1,B6,K6,u6⟩
     ·show(mirror _ lo (lo+x) _)[k]?=_
      rw[getElem?_mirror_all (by omega),if_neg (by omega)]
     ·exact PC d4 (by omega) i j a b c
     ·obtain⟨y,rfl,z0,z1,B6,K6,u6⟩:=hI
      exact wpS_pure (q y kh B6 K6 z0 z1 u6)
end
noncomputable def Rn(rk:Keyed->Nat)(l:List Keyed):Nat->List (Nat×Nat×Nat)->Nat->Prop
 |b,[],e=>b=e
 |b,r::rs,e=>r.1=b/\1<=r.2.1/\Sd rk ((l.drop b).take r.2.1)/\Rn rk l (b+r.2.1) rs e
theorem Rn.le{rk:Keyed->Nat}{l:List Keyed}:∀{rs:List (Nat×Nat×Nat)} {b e:Nat},Rn rk l b rs e->b+rs.length<=e
 |[],b,e,h=>by
  have h':b=e:=h
  simp[h']
 |r::rs,b,e,h=>by
  obtain⟨h1,h2,h3,h4⟩:=h
  have:=h4.le
  rw[List.length_cons]
  omega
theorem Rn.app{rk:Keyed->Nat}{l:List Keyed}:∀{us vs:List (Nat×Nat×Nat)} {b e:Nat},Rn rk l b (us++vs) e↔∃m,Rn rk l b us m/\Rn rk l m vs e
 |[],vs,b,e=>⟨λh=>⟨b,rfl,h⟩,λ⟨m,h1,h2⟩=>by
  have Y5:b=m:=h1
  subst Y5
  exact h2⟩
 |r::us,vs,b,e=>by
  constructor
  ·rintro⟨h1,h2,h3,h4⟩
   obtain⟨m,h5,h6⟩:=Rn.app.mp h4
   exact⟨m,⟨h1,h2,h3,h5⟩,h6⟩
  ·rintro⟨m,⟨h1,h2,h3,h5⟩,h6⟩
   exact⟨h1,h2,h3,Rn.app.mpr ⟨m,h5,h6⟩⟩
theorem Rn.same{rk:Keyed->Nat}{l l':List Keyed}:∀{rs:List (Nat×Nat×Nat)} {b e:Nat},Rn rk l b rs e->(∀i,b<=i->i<e->l[i]?=l'[i]?)->Rn rk l' b rs e
 |[],b,e,h,_=>h
 |r::rs,b,e,h,s=>by
  obtain⟨h1,h2,h3,h4⟩:=h
  have hl:=h4.le
  refine⟨h1,h2,?_,h4.same λi a c=>s i (by omega) c⟩
  rw[<-zE λi a c=>s i a (by omega)]
  exact h3
theorem Rn.mod{rk:Keyed->Nat}{l:List Keyed}(f:Nat×Nat×Nat->Nat×Nat×Nat)(hf:∀r,(f r).1=r.1/\(f r).2.1=r.2.1):∀{rs:List (Nat×Nat×Nat)} {b e:Nat} (i:Nat),Rn rk l b rs e->Rn rk l b (rs.modify i f) e
 |[],b,e,i,h=>by
  rw[List.modify_nil]
  exact h
 |r::rs,b,e,0,h=>by
  rw[List.modify_zero_cons]
  obtain⟨h1,h2,h3,h4⟩:=h
  refine⟨(hf r).1.trans h1,?_,?_,?_⟩
  ·rw[(hf r).2]
   exact h2
  ·rw[(hf r).2]
   exact h3
  ·rw[(hf r).2]
   exact h4
 |r::rs,b,e,i+1,h=>by
  rw[List.modify_succ_cons]
  obtain⟨h1,h2,h3,h4⟩:=h
  exact⟨h1,h2,h3,h4.mod f hf i⟩
theorem Rn.join{rk:Keyed->Nat}{l l' m:List Keyed}{us vs:List (Nat×Nat×Nat)}{e sa na pw nb UR:Nat}(h:Rn rk l 0 (us++(sa,na,pw)::(sa+na,nb,UR)::vs) e)(hl:sa+na+nb<=l.length)
  (e':l'=l.take sa++m++l.drop (sa+na+nb))(pm:m.Perm ((l.drop sa).take (na+nb)))(sm:Sd rk m):Rn rk l' 0 (us++(sa,na+nb,pw)::vs) e:=by
 obtain⟨b,h1,h2⟩:=Rn.app.mp h
 obtain⟨h3,h4,h5,h6⟩:=h2
 obtain⟨h7,h8,h9,Y6⟩:=h6
 have Y7:sa=b:=h3
 subst Y7
 have ml:m.length=na+nb:=by rw[pm.length_eq,ju (by omega)]
 have tl:(l.take sa).length=sa:=by rw[List.length_take];omega
 have lo:∀i,i<sa->l[i]?=l'[i]?:=λi hi=>by
  rw[e',List.append_assoc,List.getElem?_append_left (by omega),List.getElem?_take,if_pos hi]
 have hi:∀i,sa+na+nb<=i->l[i]?=l'[i]?:=λi hi=>by
  rw[e',List.getElem?_append_right (by rw[List.length_append];omega),List.length_append,List.getElem?_drop]
  congr 1
  omega
 refine Rn.app.mpr ⟨sa,h1.same λi _ c=>lo i c,rfl,Nat.le_trans h4 (Nat.le_add_right _ _),?_,?_⟩
 ·have:(l'.drop sa).take (na+nb)=m:=by
    rw[e',List.append_assoc,List.drop_append_of_le_length (by omega),List.drop_eq_nil_of_le (by omega),List.nil_append,List.take_append_of_le_length (by omega),List.take_of_length_le (by omega)]
  show Sd rk ((l'.drop sa).take (na+nb))
  rw[this]
  exact sm
 ·show Rn rk l' (sa+(na+nb)) vs e
  rw[<-Nat.add_assoc]
  exact Y6.same λi a _=>hi i a
theorem E2{α:Type}{p:Array α}{i:Nat}{x y:α}(h1:p[i]?=some x)(h2:p[i+1]?=some y)(z:α):∃us vs,p.toList=us++x::y::vs/\((p.setIfInBounds i z).eraseIdxIfInBounds (i+1)).toList=us++z::vs/\us.length=i:=by
 have k1:p.toList[i]?=some x:=by simpa using h1
 have k2:p.toList[i+1]?=some y:=by simpa using h2
 obtain⟨l1,e1⟩:=List.getElem?_eq_some_iff.mp k1
 obtain⟨l2,e2⟩:=List.getElem?_eq_some_iff.mp k2
 have d:p.toList.drop i=x::y::p.toList.drop (i+1+1):=by rw[List.drop_eq_getElem_cons l1,List.drop_eq_getElem_cons l2,e1,e2]
 have e:p.toList=p.toList.take i++x::y::p.toList.drop (i+1+1):=by rw[<-d,List.take_append_drop]
 have tl:(p.toList.take i).length=i:=by rw[List.length_take];omega
 refine⟨p.toList.take i,p.toList.drop (i+1+1),e,?_,tl⟩
 rw[Array.toList_eraseIdxIfInBounds,Array.toList_setIfInBounds]
 have:p.toList.set i z=p.toList.take i++z::y::p.toList.drop (i+1+1):=by
  rw[e]
  rw[List.set_append_right _ _ (by omega),tl,Nat.sub_self]
  simp[tl]
  exact congrArg (List.drop (i+1+1)) e
 rw[this,List.eraseIdx_append_of_length_le (by omega),tl,show i+1-i=1 by omega]
 rfl
section
variable{prog:Program}{w:World}{A:Around}{E:Value->Shared->Prop}{s:Shared}{kd:SortKind}{G:Keyed->Prop}{rk:Keyed->Nat}{a₀:Array Keyed}
theorem Dw(C:zx prog w A E s kd G rk)(g:Gd G a₀){st:SortSt}{Q:Bool->SortSt->Prop}{i e:Nat}(B:Bs kd a₀ st)(r:Rn rk (arrOf st).toList 0 (pendingOf st).toList e)(he:e<=a₀.size)(hi:i+1<(pendingOf st).size)
  (q:∀aV,Bs kd a₀ aV->Rn rk (arrOf aV).toList 0 (pendingOf aV).toList e->(pendingOf aV).size+1=(pendingOf st).size->(∀k,e<=k->(arrOf aV).toList[k]?=(arrOf st).toList[k]?)->Q true aV):wpS (model prog w) A E s (mergeAt' i) Q st:=by
 obtain⟨⟨sa,na,pw⟩,e1⟩:∃x,(pendingOf st)[i]?=some x:=⟨_,getElem?_pos _ i (by omega)⟩
 obtain⟨⟨sb,nb,UR⟩,e2⟩:∃x,(pendingOf st)[i+1]?=some x:=⟨_,getElem?_pos _ (i+1) hi⟩
 obtain⟨us,vs,p1,p2,p3⟩:=E2 e1 e2 (sa,na+nb,pw)
 have r':=r
 rw[p1]at r'
 obtain⟨b,h1,h2,h3,h4,h5,h6,h7,h8⟩:=Rn.app.mp r'
 have hb:sa=b:=h2
 subst hb
 have Wq:sb=sa+na:=h5
 subst Wq
 have hle:=h8.le
 have qd:=B.size
 dsimp only at h3 h4 h6 h7 hle
 refine BF C B.k (B.gd g) B.f e1 e2 h3 h6 (by omega) h4 h7 λaV m k1 k2 k3 k4 k5 k6=>?_
 have Y8:(arrOf aV).toList.Perm (arrOf st).toList:=by
  rw[k4]
  have:=qu (arrOf st).toList sa (na+nb)
  rw[<-Nat.add_assoc]at this
  conv=>rhs;rw[this]
  exact(k5.append_left _).append_right _
 refine q aV ⟨(Array.perm_iff_toList_perm.mpr Y8).trans B.pm,k1,k2⟩ ?_ ?_ λk hk=>?_
 ·rw[k3,p2]
  exact Rn.join r' (by rw[Array.length_toList];omega) k4 k5 k6
 ·rw[k3,<-Array.length_toList,p2,<-Array.length_toList,p1]
  simp only[List.length_append,List.length_cons]
  omega
 ·rw[k4,List.getElem?_append_right (by rw[List.length_append,List.length_take,k5.length_eq,ju (by rw[Array.length_toList];omega)];omega),List.getElem?_drop]
  congr 1
  rw[List.length_append,List.length_take,k5.length_eq,ju (by rw[Array.length_toList];omega),Array.length_toList]
  omega
theorem PD{c:Prop}[Decidable c]{a b n:Nat}(h1:a+1<n)(h2:b+1<n):(if c then a else b)+1<n:=by
 split
 ·exact h1
 ·exact h2
theorem Dx{st:SortSt}{lo n x:Nat}(B:Bs kd a₀ st)(r:Rn rk (arrOf st).toList 0 (pendingOf st).toList lo)(sd:Sd rk (((arrOf st).toList.drop lo).take n))(h1:1<=n)(hn:lo+n<=a₀.size)(hx:x<=lo\/lo=a₀.size):
  ∃S8,((none:Option Unit),lo+n)=(none,S8)/\Bs kd a₀ (setPending st ((pendingOf st).push (lo,n,0)))/\S8<=a₀.size/\(x+1<=S8\/S8=a₀.size)/\Rn rk (arrOf (setPending st ((pendingOf st).push (lo,n,0)))).toList 0 (pendingOf (setPending st ((pendingOf st).push (lo,n,0)))).toList S8:=by
 refine⟨lo+n,rfl,⟨B.pm,B.k,B.f⟩,hn,by omega,?_⟩
 show Rn rk (arrOf st).toList 0 ((pendingOf st).push (lo,n,0)).toList (lo+n)
 rw[Array.toList_push]
 exact Rn.app.mpr ⟨lo,r,rfl,h1,sd,rfl⟩
theorem zG(C:zx prog w A E s kd G rk)(g:Gd G a₀){st:SortSt}{Q:Unit->SortSt->Prop}(B:Bs kd a₀ st)(hp:pendingOf st=#[])
  (q:∀aV,Bs kd a₀ aV->Sd rk (arrOf aV).toList->Q () aV):wpS (model prog w) A E s sortRuns' Q st:=by
 rw[sortRuns'_eq]
 refine wpS_bind (wpS_get ?_)
 dsimp only
 rw[B.size]
 refine wpS_bind (wpS_mono (wpS_forRange (I:=λx c aV=>∃lo,c=(none,lo)/\Bs kd a₀ aV/\lo<=a₀.size/\(x<=lo\/lo=a₀.size)/\Rn rk (arrOf aV).toList 0 (pendingOf aV).toList lo)
  (Q:=λc aV=>∃lo,c=(none,lo)/\lo=a₀.size/\Bs kd a₀ aV/\Rn rk (arrOf aV).toList 0 (pendingOf aV).toList lo) ?step ?fin ⟨0,rfl,B,Nat.zero_le _,.inl (Nat.le_refl _),by rw[hp];rfl⟩) ?post)
 case fin=>
  rintro c aV ⟨lo,rfl,B1,h1,h2,r1⟩
  exact⟨lo,rfl,by omega,B1,r1⟩
 case step=>
  rintro x c aV-hx ⟨lo,rfl,B1,h1,h2,r1⟩
  dsimp only
  refine bq (λd=>wpS_pure ⟨lo,rfl,by omega,B1,r1⟩) (λd=>?_)
  have d':lo<a₀.size:=by omega
  refine wpS_bind (zF C g B1 (by omega) (by omega) λm bX B2 K2 m1 m2 u2=>?_)
  dsimp only
  have keepR:∀{sv:SortSt},Kp lo aV sv->Rn rk (arrOf sv).toList 0 (pendingOf sv).toList lo:=λ{sv} K=>by
   rw[K.2]
   refine r1.same λi _ hi=>?_
   rw[Array.getElem?_toList,Array.getElem?_toList]
   exact(K.1 i hi).symm
  refine bq (λz=>wpS_bind (wpS_lift (wpAny_rule ⟨rfl,wpS_bind (vm C g (n:=min (a₀.size-lo) (minRun' a₀.size a₀.size 0)) B2 (by omega) (by omega) m1 u2 λmJ B4 K3 u4=>bq (λy=>absurd y (by decide)) λy=>?_)⟩))) (λz=>?_)
  have hn:lo+min (a₀.size-lo) (minRun' a₀.size a₀.size 0)<=a₀.size:=by omega
  have RJ:1<=min (a₀.size-lo) (minRun' a₀.size a₀.size 0):=by omega
  have K4:=K2.trans K3
  generalize min (a₀.size-lo) (minRun' a₀.size a₀.size 0)=nn at hn RJ u4⊢
  rotate_left
  have hn:lo+m<=a₀.size:=by omega
  have RJ:1<=m:=m1
  obtain⟨mJ,rfl⟩:∃mJ,mJ=bX:=⟨_,rfl⟩
  obtain⟨nn,rfl⟩:∃nn,nn=m:=⟨_,rfl⟩
  have K4:=K2
  have B4:=B2
  have u4:=u2
  all_goals
   refine wpS_bind (wpS_get ?_)
   have r4:=keepR K4
   have s4:=u4.sd (by rw[B4.size];exact hn)
   cases eb:(pendingOf mJ).back? with
   |none=>exact wpS_bind (wpS_modify (wpS_pure (Dx B4 r4 s4 RJ hn h2)))
   |some top=>
    obtain⟨s1,n1,p1⟩:=top
    dsimp only
    refine wpS_bind (wpS_mono (wpS_forRange (I:=λ_ c kh=>c=(none,())/\Bs kd a₀ kh/\Rn rk (arrOf kh).toList 0 (pendingOf kh).toList lo/\∀k,lo<=k->(arrOf kh).toList[k]?=(arrOf mJ).toList[k]?)
     (Q:=λc kh=>c=(none,())/\Bs kd a₀ kh/\Rn rk (arrOf kh).toList 0 (pendingOf kh).toList lo/\∀k,lo<=k->(arrOf kh).toList[k]?=(arrOf mJ).toList[k]?) (λy c kh _ hy hI=>?_) (λ_ _ hI=>hI) ⟨rfl,B4,r4,λ_ _=>rfl⟩) (λc kh hI=>?_))
    ·obtain⟨rfl,B5,r5,k5⟩:=hI
     refine wpS_bind (wpS_get ?_)
     by_cases hs:(pendingOf kh).size>1
     ·rw[if_pos hs]
      obtain⟨⟨f1,f2,XT⟩,e5⟩:∃z,(pendingOf kh)[(pendingOf kh).size-2]?=some z:=⟨_,getElem?_pos _ _ (by omega)⟩
      rw[e5]
      dsimp only
      refine bq (λ_=>wpS_pure ⟨rfl,B5,r5,k5⟩) (λ_=>?_)
      exact wpS_bind (Dw C g B5 r5 h1 (by omega) λst6 B6 r6 _ k6=>bq (λy=>absurd y (by decide)) λ_=>wpS_pure ⟨rfl,B6,r6,λk hk=>(k6 k hk).trans (k5 k hk)⟩)
     ·rw[if_neg hs]
      exact wpS_pure ⟨rfl,B5,r5,k5⟩
    ·obtain⟨rfl,B5,r5,k5⟩:=hI
     dsimp only
     refine wpS_bind (wpS_modify (wpS_bind (wpS_modify (wpS_pure ?_))))
     refine Dx (st:=setPending kh _) ⟨B5.pm,B5.k,B5.f⟩ ?_ ?_ RJ hn h2
     ·show Rn rk (arrOf kh).toList 0 ((pendingOf kh).modify _ _).toList lo
      rw[Array.toList_modify]
      refine Rn.mod _ ?_ _ r5
      exact λ_=>⟨rfl,rfl⟩
     ·have:=s4
      rw[zE λi a _=>(k5 i a).symm]at this
      exact this
 case post=>
  rintro c aV ⟨lo,rfl,rfl,B1,r1⟩
  dsimp only
  refine wpS_bind (wpS_mono (wpS_forRange (I:=λx c bX=>c=(none,())/\Bs kd a₀ bX/\Rn rk (arrOf bX).toList 0 (pendingOf bX).toList a₀.size/\((pendingOf bX).size+x<=a₀.size\/(pendingOf bX).size<=1))
   (Q:=λc bX=>c=(none,())/\Bs kd a₀ bX/\Rn rk (arrOf bX).toList 0 (pendingOf bX).toList a₀.size/\(pendingOf bX).size<=1) (λx c bX _ hx hI=>?_) (λc bX hI=>?_) ⟨rfl,B1,r1,?_⟩) (λc bX hI=>?_))
  ·obtain⟨rfl,B2,r2,h2⟩:=hI
   refine wpS_bind (wpS_get ?_)
   refine bq (λd=>wpS_pure ⟨rfl,B2,r2,d⟩) (λd=>?_)
   refine wpS_bind (Dw C g B2 r2 (Nat.le_refl _) ?_ λsv B3 r3 h3 _=>bq (λy=>absurd y (by decide)) λ_=>wpS_pure ⟨rfl,B3,r3,by omega⟩)
   exact PD (by omega) (by omega)
  ·obtain⟨rfl,B2,r2,h2⟩:=hI
   exact⟨rfl,B2,r2,by omega⟩
  ·have:=r1.le
   rw[Array.length_toList]at this
   exact .inl (by omega)
  ·obtain⟨rfl,B2,r2,h2⟩:=hI
   dsimp only
   refine wpS_pure (q bX B2 ?_)
   have hl:(pendingOf bX).toList.length<=1:=by rw[Array.length_toList];exact h2
   have qd:(arrOf bX).toList.length=a₀.size:=by rw[Array.length_toList,B2.size]
   cases e:(pendingOf bX).toList with
   |nil=>
    rw[e]at r2
    have z:0=a₀.size:=r2
    have:(arrOf bX).toList=[]:=List.eq_nil_of_length_eq_zero (by omega)
    rw[this]
    exact Sd.nil
   |cons r rs=>
    cases rs with
    |cons _ _=>
     rw[e]at hl
     simp at hl
    |nil=>
     rw[e]at r2
     obtain⟨y1,y2,y3,y4⟩:=r2
     have y4':0+r.2.1=a₀.size:=y4
     rw[List.drop_zero,List.take_of_length_le (by omega)]at y3
     exact y3
end
end TS
namespace L2
open PySem PySem.Spec PyProof.Rows
noncomputable def zH(sc:Scope)(env:Env):List (Str×Addr):=sc.names.foldl (λcs p=>if p.2=.free then(p.1,(env.cells.lookup p.1).getD 0)::cs else cs) []
theorem xB(env:Env):∀(ns:List (Str×NameKind)) (acc:List (Str×Addr)),(∀p∈ns,p.2=.free->∃c,env.cells.lookup p.1=some c)->
  (forIn ns acc (λ(x:Str×NameKind) (r:List (Str×Addr))=>match x with|(name,kind)=>if(kind==.free)=true then(do let c<-cellOf env name;pure (ForInStep.yield ((name,c)::r)))else pure (ForInStep.yield r)):Sem _)=
    pure (ns.foldl (λcs p=>if p.2=.free then(p.1,(env.cells.lookup p.1).getD 0)::cs else cs) acc)
 |[],acc,_=>rfl
 |(n,k)::ns,acc,h=>by
  rw[List.forIn_cons]
  by_cases hk:k=.free
  ·subst hk
   obtain⟨c,hc⟩:=h (n,.free) (List.mem_cons_self ..) rfl
   have e1:cellOf env n=pure c:=by
    unfold cellOf
    rw[hc]
   dsimp only
   rw[if_pos (by rfl),e1,pure_bind,pure_bind,List.foldl_cons,if_pos rfl,hc]
   exact xB env ns _ λp hp=>h p (List.mem_cons_of_mem _ hp)
  ·dsimp only
   rw[if_neg (by simpa using hk),pure_bind,List.foldl_cons,if_neg hk]
   exact xB env ns _ λp hp=>h p (List.mem_cons_of_mem _ hp)
theorem LN{sc:Scope}{env:Env}(h:∀p∈sc.names,p.2=.free->∃c,env.cells.lookup p.1=some c):closureFor sc env=pure (zH sc env):=by
 unfold closureFor zH
 have:=xB env sc.names [] h
 exact(congrArg (λm:Sem (List (Str×Addr))=>m>>=λr=>pure r) this).trans rfl
theorem Dy(env:Env):∀(ns:List (Str×NameKind)) (acc:List (Str×Addr)) (y:Str) (c:Addr),(ns.foldl (λcs p=>if p.2=.free then(p.1,(env.cells.lookup p.1).getD 0)::cs else cs) acc).lookup y=some c->
  acc.lookup y=some c\/((y,NameKind.free)∈ns/\c=(env.cells.lookup y).getD 0)
 |[],acc,y,c,h=>.inl h
 |(n,k)::ns,acc,y,c,h=>by
  rw[List.foldl_cons]at h
  rcases Dy env ns _ y c h with h1|⟨h1,h2⟩
  ·by_cases hk:k=.free
   ·rw[if_pos hk,List.lookup_cons]at h1
    by_cases hy:(y==n)=true
    ·rw[hy]at h1
     have e:y=n:=eq_of_beq hy
     subst e
     exact .inr ⟨by rw[hk];exact List.mem_cons_self ..,(Option.some.inj h1).symm⟩
    ·rw[Bool.not_eq_true]at hy
     rw[hy]at h1
     exact .inl h1
   ·rw[if_neg hk]at h1
    exact .inl h1
  ·exact .inr ⟨List.mem_cons_of_mem _ h1,h2⟩
theorem BG(env:Env):∀(ns:List (Str×NameKind)) (acc:List (Str×Addr)) (y:Str),((y,NameKind.free)∈ns\/∃c,acc.lookup y=some c)->∃c,(ns.foldl (λcs p=>if p.2=.free then(p.1,(env.cells.lookup p.1).getD 0)::cs else cs) acc).lookup y=some c
 |[],acc,y,h=>by
  rcases h with h|h
  ·cases h
  ·exact h
 |(n,k)::ns,acc,y,h=>by
  rw[List.foldl_cons]
  refine BG env ns _ y ?_
  rcases h with h|⟨c,h⟩
  ·rcases List.mem_cons.mp h with e|h
   ·injection e with e1 e2
    subst e1 e2
    rw[if_pos rfl,List.lookup_cons]
    exact .inr ⟨_,by rw[beq_self_eq_true]⟩
   ·exact .inl h
  ·refine .inr ?_
   split
   ·rw[List.lookup_cons]
    cases y==n with
    |true=>exact⟨_,rfl⟩
    |false=>exact⟨c,h⟩
   ·exact⟨c,h⟩
structure jC(Dz:Scope)(N:List Str)(sc:Scope)(x:Str)(ys:List Str):Prop where
 kind:sc.kind=.function
 xloc:sc.names.lookup x=some .local
 nocell:∀p∈sc.names,p.2≠.cell
 locs:∀p∈sc.names,p.2=.local->sc.names.lookup p.1=some .local
 free:∀p∈sc.names,p.2=.free->Dz.names.lookup p.1=some .cell\/Dz.names.lookup p.1=some .free
 nd:(x::ys).Nodup
 len:ys.length=N.length
 pl:∀p∈ys.zip N,sc.names.lookup p.1=some .free->p.1=p.2
 nl:∀y∈ys,sc.names.lookup y≠some .local
noncomputable def tD(Dz:Scope)(N:List Str)(sc:Scope)(x:Str)(ys:List Str):Bool:=
 decide (sc.kind=.function)&&decide (sc.names.lookup x=some .local)&&decide (∀p∈sc.names,p.2≠.cell)&&decide (∀p∈sc.names,p.2=.local->sc.names.lookup p.1=some .local)&&
 decide (∀p∈sc.names,p.2=.free->Dz.names.lookup p.1=some .cell\/Dz.names.lookup p.1=some .free)&&decide ((x::ys).Nodup)&&decide (ys.length=N.length)&&
 decide (∀p∈ys.zip N,sc.names.lookup p.1=some .free->p.1=p.2)&&decide (∀y∈ys,sc.names.lookup y≠some .local)
theorem jC.of{Dz:Scope}{N:List Str}{sc:Scope}{x:Str}{ys:List Str}(h:tD Dz N sc x ys=true):jC Dz N sc x ys:=by
 unfold tD at h
 simp only[Bool.and_eq_true,decide_eq_true_eq]at h
 obtain⟨⟨⟨⟨⟨⟨⟨⟨h1,h2⟩,h3⟩,h4⟩,h5⟩,h6⟩,h7⟩,h8⟩,h9⟩:=h
 exact⟨h1,h2,h3,h4,h5,h6,h7,h8,h9⟩
noncomputable def Cx.vd(X:Cx)(sc:Scope)(x:Str)(ys:List Str)(ex:List Addr)(C:Addr)(s:Shared)(H:Hp):Cx where
 prog:=X.prog
 w:=X.w
 K:=X.K
 mg:=X.mg
 base:=X.base
 A:=X.A
 N:=x::ys
 s₀:=s
 H₀:=H
 env:=compEnvC sc (zH sc X.env) C X.env
 outer:=X.stack
 stack:=X.stack
 ex:=ex
 fn:=λ_=>false
 calm:=X.calm
 pn:=[]
 xe:=λ_ _=>False
theorem cG{env:Env}:∀{ns:List (Str×NameKind)} {y:Str} {k:NameKind},(ns.map λ(n,k)=>if(k==NameKind.free&&env.scope.kind==.function&&env.kindOf n==some .cell)then(n,NameKind.cell)else(n,k)).lookup y=some k->
  ns.lookup y=some k\/(ns.lookup y=some .free/\k=.cell)
 |[],y,k,h=>by cases h
 |(n,j)::ns,y,k,h=>by
  rw[List.map_cons]at h
  dsimp only at h
  cases hy:y==n with
  |true=>
   by_cases hc:(j==NameKind.free&&env.scope.kind==.function&&env.kindOf n==some .cell)=true
   ·rw[if_pos hc,List.lookup_cons,hy]at h
    have hj:j=.free:=by
     simp only[Bool.and_eq_true]at hc
     exact eq_of_beq hc.1.1
    refine .inr ⟨?_,(Option.some.inj h).symm⟩
    rw[List.lookup_cons,hy,hj]
   ·rw[if_neg hc,List.lookup_cons,hy]at h
    refine .inl ?_
    rw[List.lookup_cons,hy]
    exact h
  |false=>
   have h':(ns.map λ(n,k)=>if(k==NameKind.free&&env.scope.kind==.function&&env.kindOf n==some .cell)then(n,NameKind.cell)else(n,k)).lookup y=some k:=by
    by_cases hc:(j==NameKind.free&&env.scope.kind==.function&&env.kindOf n==some .cell)=true
    ·rw[if_pos hc,List.lookup_cons,hy]at h
     exact h
    ·rw[if_neg hc,List.lookup_cons,hy]at h
     exact h
   rw[List.lookup_cons,hy]
   exact cG h'
section
variable{X:Cx}{pins:List (Addr×Obj)}{σ:St}{H:Hp}{s:Shared}{sc:Scope}{x:Str}{ys:List Str}
theorem jC.cell(cs:jC X.env.scope X.N sc x ys)(I:Inv X pins σ H s){y:Str}(h:(y,NameKind.free)∈sc.names):∃c,X.env.cells.lookup y=some c:=I.ok.has y (cs.free _ h rfl)
theorem jC.cl(cs:jC X.env.scope X.N sc x ys)(I:Inv X pins σ H s){y:Str}{c:Addr}(h:(zH sc X.env).lookup y=some c):X.env.cells.lookup y=some c/\(y,NameKind.free)∈sc.names:=by
 rcases Dy X.env sc.names [] y c h with h1|⟨h1,h2⟩
 ·cases h1
 ·obtain⟨d,hd⟩:=cs.cell I h1
  rw[hd]at h2
  rw[h2]
  exact⟨hd,h1⟩
theorem PF(cs:jC X.env.scope X.N sc x ys)(I:Inv X pins σ H s){fp:List Addr}(hf:∀b∈fp,qi X pins H b)(jW:∀b∈fp,b<s.heap.objs.size){C:Addr}(hC:s.heap.objs.size<=C):(X.vd sc x ys fp C s H).Ok where
 mod:=I.ok.mod
 kind:=cs.kind
 glob:=I.ok.glob
 blt:=I.ok.blt
 above:=hC
 inj:=λy z c h1 h2=>I.ok.inj y z c (cs.cl I h1).1 (cs.cl I h2).1
 has:=λy hy=>by
  have Y9:(relabel sc X.env).names.lookup y=some .cell\/(relabel sc X.env).names.lookup y=some .free:=hy
  have hf:(y,NameKind.free)∈sc.names:=by
   rcases Y9 with h|h
   ·rcases cG h with h1|⟨h1,_⟩
    ·exact absurd rfl (cs.nocell _ (PySem.mem_of_lookup h1))
    ·exact PySem.mem_of_lookup h1
   ·rcases cG h with h1|⟨h1,_⟩
    ·exact PySem.mem_of_lookup h1
    ·exact PySem.mem_of_lookup h1
  exact BG X.env sc.names [] y (.inl hf)
 cab:=λy c h=>by cases h
 hd:=I.ok.hd
 frames:=I.ok.frames
 stk:=.inl rfl
 exf:=λb hb=>⟨λe=>by
  have:=jW b hb
  rw[e]at this
  exact absurd (Nat.lt_of_lt_of_le this hC) (Nat.lt_irrefl _),λy c h=>(hf b hb).2.2.2.2.1 y c (cs.cl I h).1⟩
 bs:=I.bs
 bsz:=Nat.le_trans I.ok.bsz I.sz
 noex:=λb o e hb=>by
  rcases(hf b hb).2.2.2.1 with h|h
  ·exact I.ok.noex b o e h
  ·exact absurd (Nat.lt_of_lt_of_le (Heap.lt_size e) (Nat.le_trans I.ok.bsz h)) (Nat.lt_irrefl _)
 exfs:=λb hb h=>(List.mem_cons.mp (I.Bo b h)).elim (hf b hb).2.1 (hf b hb).2.2.1
 funs:=I.stack
 frf:=I.De
end
noncomputable def LO(X:Cx)(ifs:List Expr)(t:TT):Prop:=
 ∀(pins:List (Addr×Obj)) (s:Shared) (σ:St) (H:Hp) (Q:Bool->Hp->Prop),Inv X pins σ H s->t σ H Q->
  wpAny (model X.prog X.w) X.A (forIn ifs true λc r=>if r=true then do let ok<-isTrue c X.env (eval c X.env);pure (ForInStep.yield ok)else pure (ForInStep.yield r)) (TP X pins σ Q) X.xe s
theorem Hx{X:Cx}:LO X [] (λ_ H Q=>Q true H):=λpins s σ H Q I h=>wpAny_tests_nil ⟨H,I,h⟩
theorem Hy{X:Cx}{c:Expr}{t:TT}(h:PT X c t):LO X [c] t:=λpins s σ H Q I q=>wpAny_tests_one (h pins s σ H Q I q)
noncomputable def NH(wi:TI)(tt:TT)(te:TE):TE:=λσ H Q=>wi σ H λJ H1=>∃W:Nat->Nat->List V->Hp->Prop,(∃m,W 0 m [] H1)/\∀i m acc H,W i m acc H->
 (J.stop i H/\∀p,H p=none->Q (.ref p) (upd H p (.lst acc)))\/(J.go i H/\acc.length<sizeLine/\∀y H',J.yld i H y H'->tt (some y::σ) H' λb H2=>
   if b=true then te (some y::σ) H2 λz H3=>∃m',m'<m/\W (i+1) m' (acc++[z]) H3 else∃m',m'<m/\W (i+1) m' acc H2)
section
variable{X:Cx}{sc:Scope}{x:Str}{ys:List Str}{px:Pos}{elt iter:Expr}{ifs:List Expr}{pos:Pos}{wi:TI}{tt:TT}{te:TE}
noncomputable def lobj(its:List Value)(n:Nat):Obj:={cls:=.type "list",data:=.seq its.toArray n}
theorem Hz{M:Value->Env->Result->Shared->Prop}{pins:List (Addr×Obj)}{σ:St}{H:Hp}{s:Shared}{E:Value->Shared->Prop}(hc:X.calm=true)(cs:jC X.env.scope X.N sc x ys)(I:Inv X pins σ H s)
  (ht:∀ex C s H,LO (X.vd sc x ys ex C s H) ifs tt)(he:∀ex C s H,PE (X.vd sc x ys ex C s H) elt te)
  {it:Addr}{fp:List Addr}{tn:Nat->Heap->Prop}{J:It}(T:Turn X.prog X.w X.K (.Name x px) J fp it tn)(st:tn 0 s.heap)(hf:∀b∈fp,qi X pins H b)
  {W:Nat->Nat->List V->Hp->Prop}{m0:Nat}(w0:W 0 m0 [] H){F:List V->Hp->Prop}
  (turn:∀i m acc H,W i m acc H->(J.stop i H/\F acc H)\/(J.go i H/\acc.length<sizeLine/\∀y H',J.yld i H y H'->tt (some y::σ) H' λb H2=>
    if b=true then te (some y::σ) H2 λz H3=>∃m',m'<m/\W (i+1) m' (acc++[z]) H3 else∃m',m'<m/\W (i+1) m' acc H2))
  (hM:∀(D C:Addr) (qv:Env) (s':Shared) (acc:List V) (H':Hp) (its:List Value) (n:Nat),qv.locals=C->D≠C->s.heap.objs.size<=D->s.heap.objs.size<=C->Inv (X.vd sc x ys fp C s H) [(D,lobj its n)] (none::σ) H' s'->Vals acc its->acc.length<=sizeLine->F acc H'->
    M (.ref D) qv (.ok .next) s'):
  wpAny (model X.prog X.w) X.A (newList []) (λacc s₃=>wpAny (model X.prog X.w) X.A (newFunctionEnv sc X.env.globals (zH sc X.env) [] X.env.qual none .none (some X.env)) (λqv s₄=>
   codeAny (model X.prog X.w) X.A (.compStart (.ListComp elt [⟨.Name x px,iter,ifs,0⟩] sc pos) 0 (.ref it) acc {qv with scope:=relabel sc X.env}) (M acc qv) s₄) E s₃) E s:=by
 have jW:∀b∈fp,b<s.heap.objs.size:=λb hb=>by
  obtain⟨o,e,_⟩:=T.obj 0 _ st b hb
  exact Heap.lt_size e
 refine wpAny_newObj_type (wpAny_newFunctionEnv cs.nocell (by intro y hy;simp at hy) (λh1 RK UW=>?_) cs.kind)
 dsimp only at RK UW⊢
 generalize RL:s.heap.push {cls:=.type "list",dict:=none,data:=.seq ([]:List Value).toArray}=h2 at RK UW⊢
 have hC:h2.objs.size=s.heap.objs.size+1:=by rw[<-RL,Heap.size_push]
 have PH:s.heap.objs.size≠h2.objs.size:=by omega
 have old:∀b o,s.heap.get? b=some o->h1.get? b=some o:=λb o e=>by
  have hb:=Heap.lt_size e
  rw[UW.2 b (by rw[hC];exact Nat.ne_of_lt (Nat.lt_succ_of_lt hb))]
  exact Heap.get?_push_of_some _ (RL▸Heap.get?_push_of_some _ e)
 have hD:h1.get? s.heap.objs.size=some (lobj [] 0):=by
  rw[UW.2 _ PH]
  exact Heap.get?_push_of_some _ (RL▸Heap.get?_push_size _ rfl)
 generalize hCe:h2.objs.size=C at*
 have PJ:s.heap.objs.size<=C:=by omega
 have HA:∀b,s.heap.objs.size<=b->H b=none:=λb hb=>I.dZ.fresh hb
 have Li:∀b,s.heap.objs.size<=b->b∉EM X.stack:=λb hb z=>by
  obtain⟨_,o,ho,_⟩:=(I.stack).mem z
  exact absurd (Nat.lt_of_lt_of_le (Heap.lt_size ho) hb) (Nat.lt_irrefl _)
 have I0:Inv (X.vd sc x ys fp C s H) [(s.heap.objs.size,lobj [] 0)] (none::σ) H {s with heap:=h1,toks:=s.toks+([]:List (Str×Value)).length}:=by
  refine⟨PF cs I hf jW PJ,rfl,I.bare,Un.kept old,⟨_,RK,λi y v e1 e2 e3=>?_⟩,λy c e=>?_,HA _ PJ,λy c e=>I.freeC y c (cs.cl I e).1,λp hp=>?_,I.dZ.kept old,?_⟩
  ·cases i with
   |zero=>cases e2
   |succ i=>
    have US:ys[i]?=some y:=e1
    have XN:σ[i]?=some (some v):=e2
    have LP:(relabel sc X.env).names.lookup y=some .local\/(relabel sc X.env).names.lookup y=some .cell\/(relabel sc X.env).names.lookup y=some .free:=e3
    have Wr:sc.names.lookup y=some .free:=by
     rcases LP with h|h|h
     ·rcases cG h with h1|⟨_,h1⟩
      ·exact absurd h1 (cs.nl y (List.mem_of_getElem? US))
      ·cases h1
     ·rcases cG h with h1|⟨h1,_⟩
      ·exact absurd rfl (cs.nocell _ (PySem.mem_of_lookup h1))
      ·exact h1
     ·rcases cG h with h1|⟨h1,_⟩
      ·exact h1
      ·exact h1
    have hi:i<X.N.length:=by
     rw[<-cs.len]
     exact(List.getElem?_eq_some_iff.mp US).1
    have hN:X.N[i]?=some y:=by
     have hz:(ys.zip X.N)[i]?=some (y,X.N[i]):=by
      rw[List.getElem?_zip_eq_some]
      exact⟨US,List.getElem?_eq_getElem hi⟩
     have:=cs.pl _ (List.mem_of_getElem? hz) Wr
     dsimp only at this
     rw[this]
     exact List.getElem?_eq_getElem hi
    have PL:(y,NameKind.free)∈sc.names:=PySem.mem_of_lookup Wr
    obtain⟨m,hn,hl⟩:=I.loc
    obtain⟨u,r,lk⟩:=hl i y v hN XN (.inr (cs.free _ PL rfl))
    refine⟨u,r,.inr ⟨?_,?_⟩⟩
    ·rcases LP with h|h
     ·rcases cG h with h1|⟨_,h1⟩
      ·rw[Wr]at h1
       cases h1
      ·cases h1
     ·exact h
    ·rcases lk with⟨k,_⟩|⟨_,c,e,z⟩
     ·rcases cs.free _ PL rfl with h|h
      ·have k':X.env.scope.names.lookup y=some .local:=k
       rw[h]at k'
       cases k'
      ·have k':X.env.scope.names.lookup y=some .local:=k
       rw[h]at k'
       cases k'
     ·obtain⟨c',Sk⟩:=BG X.env sc.names [] y (.inl PL)
      have:c'=c:=by
       have:=(cs.cl I (show(zH sc X.env).lookup y=some c' from Sk)).1
       rw[e]at this
       exact(Option.some.inj this).symm
      subst this
      obtain⟨o,ho,hd⟩:=z
      exact⟨c',Sk,o,old _ _ ho,hd⟩
  ·obtain⟨v,o,ho,hd⟩:=I.cell y c (cs.cl I e).1
   exact⟨v,o,old _ _ ho,hd⟩
  ·obtain rfl:p=(s.heap.objs.size,lobj [] 0):=by simpa using(show p∈([]:List (Addr×Obj))++[(s.heap.objs.size,lobj [] 0)]from hp)
   exact⟨hD,HA _ (Nat.le_refl _),PH,Li _ (Nat.le_refl _),λv z=>by cases z⟩
  ·show(none::σ).length=(x::ys).length
   rw[List.length_cons,List.length_cons,I.len,cs.len]
 have Ws:s.heap.objs.size∉fp:=λz=>Nat.lt_irrefl _ (jW _ z)
 have Wt:∀{oC:List (Addr×Obj)} {H':Hp} {s':Shared} {σ':St},Inv (X.vd sc x ys fp C s H) oC σ' H' s'->(∀b∈fp,H' b=none)->(∀p∈oC,p.1∉fp)->∀b∈fp,qi (X.vd sc x ys fp C s H) oC H' b:=λ{oC H' s' σ'} I' hn hp b hb=>
  ⟨hn b hb,(I'.ok.exf b hb).1,I'.ok.exfs b hb,.inl hb,(I'.ok.exf b hb).2,λp PM z=>by
    have Wu:p∈oC:=by simpa using(show p∈([]:List (Addr×Obj))++oC from PM)
    exact hp p Wu (z▸hb)⟩
 have loop:∀s3:Shared,s3={s with heap:=h1,toks:=s.toks+([]:List (Str×Value)).length}->∀qv:Env,qv.locals=C->
   codeAny (model X.prog X.w) X.A (.compLoop (.ListComp elt [⟨.Name x px,iter,ifs,0⟩] sc pos) 0 (.ref it) (.ref s.heap.objs.size) (compEnvC sc (zH sc X.env) C X.env)) (M (.ref s.heap.objs.size) qv) s3:=by
  rintro s3 rfl qv UX
  refine codeAny_compLoop_tests (λm s'=>∃i acc H' its n,Inv (X.vd sc x ys fp C s H) [(s.heap.objs.size,lobj its n)] (none::σ) H' s'/\Vals acc its/\acc.length<=sizeLine/\tn i s'.heap/\(∀b∈fp,H' b=none)/\W i m acc H') ?_ m0
   ⟨0,[],H,[],0,I0,.nil,Nat.zero_le _,T.keep 0 _ _ st λb hb o e=>old b o e,λb hb=>(hf b hb).1,w0⟩
  rintro m s' ⟨i,acc,H',its,n,I1,rv,hz,XU,XW,w1⟩
  have Wv:∀p∈[(s.heap.objs.size,lobj its n)],p.1∉fp:=λp hp=>by
   obtain rfl:p=(s.heap.objs.size,lobj its n):=by simpa using hp
   exact Ws
  rcases turn i m acc H' w1 with⟨stop,fin⟩|⟨go,UY,step⟩
  ·refine wpAny_mono (T.done (X.vd sc x ys fp C s H) rfl rfl rfl hc i _ s' _ H' (λ_ _=>False) I1 (Wt I1 XW Wv) XU stop) (λr s4 ⟨hr,I4⟩=>?_) (λ_ _ z=>z.elim)
   subst hr
   exact hM _ C qv s4 acc H' its n UX PH (Nat.le_refl _) PJ I4 rv hz fin
  ·refine wpAny_mono (T.item (X.vd sc x ys fp C s H) rfl rfl rfl hc i _ s' _ H' (λ_ _=>False) I1 (Wt I1 XW Wv) XU go) (λr s4 cv=>?_) (λ_ _ z=>z.elim)
   obtain⟨u,hr,h4⟩:=cv
   subst hr
   dsimp only
   have e0:∀env:Env,(letOwnedTupleGo (.Name x px) (.ref it) u>>=λ_=>assign (.Name x px) env u)=assign (.Name x px) env u:=λenv=>by
    rw[show letOwnedTupleGo (.Name x px) (.ref it) u=pure ()from rfl,pure_bind]
   rw[<-e0]
   refine wpAny_bind (wpAny_mono h4 (λ_ s5 cv=>?_) (λ_ _ z=>z.elim))
   obtain⟨y,H5,I5,r5,y5,kh,VP⟩:=cv
   have VQ:=I5.pinned (Wt I5 VP Wv) (T.obj _ _ kh)
   have xl:(X.vd sc x ys fp C s H).env.scope.names.lookup x=some .local:=lookup_relabel_local cs.xloc
   refine wpAny_assign_Name (oE VQ cs.nd (i:=0) rfl (.inl xl) r5 (λs6 I6=>?_) (.inr xl))
   refine wpAny_mono (ht fp C s H _ s6 (some y::σ) H5 _ I6 (step y H5 y5)) (λb s7 cv=>?_) (λ_ _ z=>z.elim)
   obtain⟨H7,I7,q7⟩:=cv
   have NI:∀{H':Hp} {s':Shared} {σ':St} {pl:List (Addr×Obj)},Inv (X.vd sc x ys fp C s H) (pl++kf fp s5.heap) σ' H' s'->tn (i+1) s'.heap/\∀b∈fp,H' b=none:=λ{H' s' σ' pl} I'=>by
    refine⟨T.keep _ _ _ kh λb hb o e=>(I'.pin (b,o) (List.mem_append_right _ (List.mem_append_right _ (kg hb e)))).1,λb hb=>?_⟩
    obtain⟨o,e,d⟩:=T.obj _ _ kh b hb
    exact(I'.pin (b,o) (List.mem_append_right _ (List.mem_append_right _ (kg hb e)))).2.1
   have wk:∀{H':Hp} {s':Shared} {pl:List (Addr×Obj)},Inv (X.vd sc x ys fp C s H) pl (some y::σ) H' s'->Inv (X.vd sc x ys fp C s H) pl (none::σ) H' s':=λ{H' s' pl} I'=>I'.weak (by simp) λj v e=>by
    cases j with
    |zero=>cases e
    |succ j=>exact e
   cases b with
   |false=>
    rw[if_neg Bool.false_ne_true]at q7
    obtain⟨m',hm,w7⟩:=q7
    obtain⟨t7,f7⟩:=NI I7
    exact⟨m',hm,i+1,acc,H7,its,n,wk I7.oF,rv,hz,t7,f7,w7⟩
   |true=>
    rw[if_pos rfl]at q7
    refine wpAny_mono (he fp C s H _ s7 (some y::σ) H7 _ I7 q7) (λu8 s8 ⟨z,H8,I8,r8,m',hm,w8⟩=>?_) (λ_ _ z=>z.elim)
    obtain⟨t8,f8⟩:=NI I8
    obtain⟨p1,p2,p3,p4,p5⟩:=I8.pin (s.heap.objs.size,lobj its n) (List.mem_append_right _ (List.mem_append_left _ (List.mem_singleton.mpr rfl)))
    have hl:=rv.length
    refine wpAny_list_append_plain (items:=its.toArray) ⟨n,p1⟩ (λh9 Za sb9=>?_) (by rw[List.size_toArray];omega)
    obtain⟨n9,e9⟩:=Za
    have Zb:h9.get? s.heap.objs.size=some (lobj (its++[u8]) n9):=by
     rw[e9]
     unfold lobj
     simp
    have Ia:Inv (X.vd sc x ys fp C s H) (kf fp s5.heap) (none::σ) H8 s8:=(wk I8).fR λp hp=>I8.pin p (List.mem_append_right _ (List.mem_append_right _ hp))
    have Ib:Inv (X.vd sc x ys fp C s H) (kf fp s5.heap) (none::σ) H8 {s8 with heap:=h9,toks:=s8.toks}:=Ia.turned (it:=s.heap.objs.size) (λb o hb e=>(sb9.2 b hb).trans e) p2 p3 (.inr (Nat.le_refl _))
     (λy c e z=>by
       obtain⟨v,o,ho,_⟩:=I.cell y c (cs.cl I e).1
       exact absurd (Heap.lt_size ho) (by rw[z];exact Nat.lt_irrefl _))
     (λp hp z=>by
       have PM:p∈kf fp s5.heap:=by simpa using(show p∈([]:List (Addr×Obj))++kf fp s5.heap from hp)
       exact Ws (z▸(vN PM).1))
    refine⟨m',hm,i+1,acc++[z],H8,its++[u8],n9,Ib.fR λp hp=>?_,rv.append (.cons r8 .nil),?_,T.keep _ _ _ t8 λb hb o e=>?_,f8,w8⟩
    ·obtain rfl:p=(s.heap.objs.size,lobj (its++[u8]) n9):=by simpa using hp
     exact⟨Zb,p2,p3,p4,λv z=>by cases z⟩
    ·rw[List.length_append,List.length_singleton]
     omega
    ·exact(sb9.2 b (λz=>Ws (z▸hb))).trans e
 exact codeAny_compStart_list (loop _ rfl _ rfl) (T.self _ 0 _ _ _ (T.keep 0 _ _ st λb hb o e=>old b o e) (loop _ rfl _ rfl))
end
section
variable{X:Cx}{sc:Scope}{x:Str}{ys:List Str}{px:Pos}{elt iter:Expr}{ifs:List Expr}{pos:Pos}{wi:TI}{tt:TT}{te:TE}
theorem comp_back{pins:List (Addr×Obj)}{σ σ':St}{H H':Hp}{s s':Shared}(cs:jC X.env.scope X.N sc x ys)(I:Inv X pins σ H s){fp:List Addr}(hf:∀b∈fp,qi X pins H b){D C:Addr}{its:List Value}{n:Nat}{acc:List V}
  (I':Inv (X.vd sc x ys fp C s H) [(D,lobj its n)] σ' H' s')(PH:D≠C)(hD:s.heap.objs.size<=D)(hC:s.heap.objs.size<=C)(rv:Vals acc its)(hz:acc.length<=sizeLine){h':Heap}(sb:Heap.SameBut C s'.heap h'):
  Inv X pins σ (upd H' D (.lst acc)) {s' with heap:=h'}:=by
 obtain⟨p1,p2,p3,p4,p5⟩:=I'.pin (D,lobj its n) (List.mem_append_right _ (List.mem_singleton.mpr rfl))
 have below:∀b o,s.heap.get? b=some o->b≠D/\b≠C:=λb o e=>⟨Nat.ne_of_lt (Nat.lt_of_lt_of_le (Heap.lt_size e) hD),Nat.ne_of_lt (Nat.lt_of_lt_of_le (Heap.lt_size e) hC)⟩
 have U:Un (EM X.stack) fp H H' s.heap s'.heap:=I'.base
 have sU:H' C=none:=I'.free
 refine I.Sl (ch:=fp) I'.os ⟨λb o e n hb hx=>?_,λb o e n hb hx=>?_,λb o e n hx=>?_,λb o e hx=>?_,λb xs e=>?_,λb o u e=>?_,λb ps e=>?_⟩ (λb o e=>?_) I'.bare λb hb=>⟨(hf b hb).2.2.2.1,(hf b hb).2.1,(hf b hb).2.2.2.2.1,(hf b hb).2.2.2.2.2⟩
 ·exact(sb.2 b (below b o e).2).trans (U.keep b o e n hb hx)
 ·obtain⟨sl,q⟩:=U.slot b o e n hb hx
  exact⟨sl,(sb.2 b (below b o e).2).trans q⟩
 ·rw[aL (below b o e).1]
  exact U.free b o e n hx
 ·obtain⟨o',q⟩:=U.there b o e hx
  exact⟨o',(sb.2 b (below b o e).2).trans q⟩
 ·rw[aL (bR (U.vg b xs e) p2)]
  exact U.vg b xs e
 ·rw[aL (bR (U.sT b o u e) p2)]
  exact U.sT b o u e
 ·obtain⟨more,q⟩:=U.xf b ps e
  exact⟨more,by rw[aL (bR q p2)];exact q⟩
 ·by_cases hb:b=D
  ·subst hb
   rw[aO]at e
   cases e
   exact⟨hz,its,n,rv,(sb.2 b PH).trans p1⟩
  ·rw[aL hb]at e
   refine(I'.dZ b o e).xc (λc v hc q=>(sb.2 c ?_).trans q) (λc q=>?_) λc xs q=>?_
   ·rintro rfl
    rcases hc with hc|hc
    ·rw[hc,e]at sU
     cases sU
    ·rw[hc]at sU
     cases sU
   ·rw[aL (bR q p2)]
    exact q
   ·rw[aL (bR q p2)]
    exact q
theorem DD(hi:PI X (.Name x px) iter wi)(ys:List Str)(ht:∀ex C s H,LO (X.vd sc x ys ex C s H) ifs tt)(he:∀ex C s H,PE (X.vd sc x ys ex C s H) elt te)(S9:tD X.env.scope X.N sc x ys=true)(hc:X.calm=true:=by rfl)
  (hs:∀x,foldedSetIterable iter X.env x=pure x:=by intro _;rfl):PE X (.ListComp elt [⟨.Name x px,iter,ifs,0⟩] sc pos) (NH wi tt te):=by
 have cs:=jC.of S9
 intro pins s σ H Q I h
 rw[eval_ListComp]
 refine wpAny_comprehension_free (use:=none) (cl:=zH sc X.env) rfl hs (LN λp hp hk=>cs.cell I (by rw[<-hk];exact hp)) cs.kind cs.locs ?_
 refine de (hi pins s σ H _ I h) λv s1 h1=>de h1 λVJ s2 h2=>?_
 obtain⟨it,fp,tn,J,H2,rfl,I2,T,bX,f2,W,⟨m0,w0⟩,turn⟩:=h2
 refine Hz (M:=λacc qv=>compPost (model X.prog X.w) X.A X.xe none (EP X pins σ Q) acc qv.locals) hc cs I2 ht he T bX f2 w0 (F:=λacc H=>∀p,H p=none->Q (.ref p) (upd H p (.lst acc))) turn λD C qv s' acc H' its n UX PH hD hC I' rv hz q=>?_
 obtain⟨m,hn,_⟩:=I'.loc
 refine⟨m,by rw[UX];exact hn,λh' sb=>?_⟩
 rw[UX]at sb
 exact⟨.ref D,_,comp_back cs I2 f2 I' PH hD hC rv hz sb,rfl,q D (I'.pin (D,lobj its n) (List.mem_append_right _ (List.mem_singleton.mpr rfl))).2.1⟩
end
end L2
namespace L2
open PySem PySem.Spec PyProof.Rows PySem.SeqAt
section
variable{X:Cx}{pins:List (Addr×Obj)}{σ:St}{H:Hp}{s:Shared}{a b:Addr}{xs ys:List V}{A:Around}
theorem tE(I:Inv X pins σ H s)(ha:iE X.K H a xs)(hb:iE X.K H b ys)(hu:A.units<cLine)(q:Nat->Bool)
  (hq:∀(j:Nat) x y u v,xs[j]?=some x->ys[j]?=some y->RelV x u->RelV y v->EqAt A.in1 s u v (q j)):RcAt A s (.ref a) (.ref b) (decide (xs.length=ys.length)&&(List.range xs.length).all q):=by
 obtain⟨its,r1,p1,z1⟩:=I.list ha
 obtain⟨mU,r2,p2,z2⟩:=I.list hb
 have l1:=r1.length
 have l2:=r2.length
 by_cases hl:xs.length=ys.length
 ·rw[decide_eq_true hl,Bool.true_and]
  have:=RcAt.lists (A:=A) (s:=s) (e:=q) p1.isList p2.isList (by rw[List.size_toArray,List.size_toArray];omega) hu λj h1 h2=>?_
  ·rw[List.size_toArray,<-l1]at this
   exact this
  ·rw[List.size_toArray]at h1 h2
   obtain⟨x,hx⟩:∃x,xs[j]?=some x:=⟨xs[j],List.getElem?_eq_getElem (by omega)⟩
   obtain⟨y,hy⟩:∃y,ys[j]?=some y:=⟨ys[j],List.getElem?_eq_getElem (by omega)⟩
   obtain⟨u,e1,ru⟩:=r1.get hx
   obtain⟨v,e2,rv⟩:=r2.get hy
   have f1:its.toArray[j]=u:=by
    have:=(List.getElem?_eq_some_iff.mp e1).2
    simpa using this
   have f2:mU.toArray[j]=v:=by
    have:=(List.getElem?_eq_some_iff.mp e2).2
    simpa using this
   rw[f1,f2]
   exact hq j x y u v hx hy ru rv
 ·rw[decide_eq_false hl,Bool.false_and]
  exact RcAt.lists_lengths p1.isList p2.isList (by rw[List.size_toArray,List.size_toArray];simp;omega) hu
theorem BH(I:Inv X pins σ H s)(ha:iE X.K H a xs)(hb:iE X.K H b ys)(hu:A.units<cLine)(q:Nat->Bool)
  (hq:∀(j:Nat) x y u v,xs[j]?=some x->ys[j]?=some y->RelV x u->RelV y v->EqAt A.in1 s u v (q j)):RcNeAt A s (.ref a) (.ref b) (!(decide (xs.length=ys.length)&&(List.range xs.length).all q)):=by
 obtain⟨its,r1,p1,z1⟩:=I.list ha
 obtain⟨mU,r2,p2,z2⟩:=I.list hb
 have l1:=r1.length
 have l2:=r2.length
 by_cases hl:xs.length=ys.length
 ·rw[decide_eq_true hl,Bool.true_and]
  have:=RcNeAt.lists (A:=A) (s:=s) (e:=q) p1.isList p2.isList (by rw[List.size_toArray,List.size_toArray];omega) hu λj h1 h2=>?_
  ·rw[List.size_toArray,<-l1]at this
   exact this
  ·rw[List.size_toArray]at h1 h2
   obtain⟨x,hx⟩:∃x,xs[j]?=some x:=⟨xs[j],List.getElem?_eq_getElem (by omega)⟩
   obtain⟨y,hy⟩:∃y,ys[j]?=some y:=⟨ys[j],List.getElem?_eq_getElem (by omega)⟩
   obtain⟨u,e1,ru⟩:=r1.get hx
   obtain⟨v,e2,rv⟩:=r2.get hy
   have f1:its.toArray[j]=u:=by
    have:=(List.getElem?_eq_some_iff.mp e1).2
    simpa using this
   have f2:mU.toArray[j]=v:=by
    have:=(List.getElem?_eq_some_iff.mp e2).2
    simpa using this
   rw[f1,f2]
   exact hq j x y u v hx hy ru rv
 ·rw[decide_eq_false hl,Bool.false_and]
  exact RcNeAt.lists_lengths p1.isList p2.isList (by rw[List.size_toArray,List.size_toArray];simp;omega) hu
theorem HB{α:Type}[DecidableEq α]{ns ms:List α}:(decide (ns.length=ms.length)&&(List.range ns.length).all λj=>decide (ns[j]?=ms[j]?))=decide (ns=ms):=by
 by_cases e:ns=ms
 ·subst e
  simp
 ·rw[decide_eq_false e]
  by_cases hl:ns.length=ms.length
  ·rw[decide_eq_true hl,Bool.true_and]
   rw[<-Bool.not_eq_true,List.all_eq_true]
   intro h
   apply e
   apply List.ext_getElem?
   intro i
   by_cases hi:i<ns.length
   ·exact of_decide_eq_true (h i (List.mem_range.mpr hi))
   ·rw[List.getElem?_eq_none (by omega),List.getElem?_eq_none (by omega)]
  ·rw[decide_eq_false hl]
   rfl
theorem E3{α:Type}[DecidableEq α]{ns ms:List α}{f:α->V}:(decide ((ns.map f).length=(ms.map f).length)&&(List.range (ns.map f).length).all λj=>decide (ns[j]?=ms[j]?))=decide (ns=ms):=by
 rw[List.length_map,List.length_map]
 exact HB
theorem zI{ns:List Int}{j:Nat}{x:V}(h:(ns.map V.int)[j]?=some x):∃n,ns[j]?=some n/\x=.int n:=by
 rw[List.getElem?_map]at h
 cases e:ns[j]? with
 |none=>
  rw[e]at h
  cases h
 |some n=>
  rw[e]at h
  exact⟨n,rfl,(Option.some.inj h).symm⟩
theorem E4{ns ms:List Int}(A:Around):∀(j:Nat) x y u v,(ns.map V.int)[j]?=some x->(ms.map V.int)[j]?=some y->RelV x u->RelV y v->EqAt A s u v (decide (ns[j]?=ms[j]?)):=by
 intro j x y u v hx hy ru rv
 obtain⟨n,e1,rfl⟩:=zI hx
 obtain⟨m,e2,rfl⟩:=zI hy
 obtain⟨t,rfl⟩:=ru
 obtain⟨t',rfl⟩:=rv
 have:decide (ns[j]?=ms[j]?)=(n==m):=by
  rw[e1,e2]
  by_cases h:n=m
  ·subst h
   simp
  ·rw[decide_eq_false (by simpa using h)]
   exact(beq_eq_false_iff_ne.mpr h).symm
 rw[this]
 exact EqAt.int_int n t m t'
theorem E5{ns ms:List Int}(I:Inv X pins σ H s)(ha:iE X.K H a (ns.map V.int))(hb:iE X.K H b (ms.map V.int))(hu:A.units<cLine):RcAt A s (.ref a) (.ref b) (decide (ns=ms)):=by
 have:=tE I ha hb hu (λj=>decide (ns[j]?=ms[j]?)) (E4 A.in1)
 rw[E3]at this
 exact this
theorem DF:∀{ns ms:List Int},ns.map V.int=ms.map V.int->ns=ms
 |[],[],_=>rfl
 |[],_::_,h=>by cases h
 |_::_,[],h=>by cases h
 |n::ns,m::ms,h=>by
  rw[List.map_cons,List.map_cons]at h
  injection h with h1 h2
  injection h1 with h1
  rw[h1,DF h2]
theorem E6{ns ms:List Int}(I:Inv X pins σ H s)(ha:iE X.K H a (ns.map V.int))(hb:iE X.K H b (ms.map V.int))(hu:A.units<cLine):EqAt A s (.ref a) (.ref b) (decide (ns=ms)):=by
 by_cases e:a=b
 ·subst e
  rw[decide_eq_true (DF (I.lB ha hb))]
  exact EqAt.same _
 ·exact EqAt.of_refs e (E5 I ha hb hu)
theorem LQ{bs:List Bool}{j:Nat}{x:V}(h:(bs.map V.bl)[j]?=some x):∃n,bs[j]?=some n/\x=.bl n:=by
 rw[List.getElem?_map]at h
 cases e:bs[j]? with
 |none=>
  rw[e]at h
  cases h
 |some n=>
  rw[e]at h
  exact⟨n,rfl,(Option.some.inj h).symm⟩
theorem range_any(bs:List Bool):(List.range bs.length).any (λi=>bs.getD i false)=bs.any id:=by
 rw[Bool.eq_iff_iff,List.any_eq_true,List.any_eq_true]
 constructor
 ·rintro⟨i,h1,h2⟩
  have hi:=List.mem_range.mp h1
  refine⟨bs[i],List.getElem_mem hi,?_⟩
  rw[List.getD_eq_getElem?_getD,List.getElem?_eq_getElem hi]at h2
  exact h2
 ·rintro⟨b,h1,h2⟩
  obtain⟨i,hi,e⟩:=List.mem_iff_getElem.mp h1
  refine⟨i,List.mem_range.mpr hi,?_⟩
  rw[List.getD_eq_getElem?_getD,List.getElem?_eq_getElem hi,e]
  exact h2
theorem range_all(bs:List Bool):(List.range bs.length).all (λi=>bs.getD i false)=bs.all id:=by
 rw[Bool.eq_iff_iff,List.all_eq_true,List.all_eq_true]
 constructor
 ·intro h b h1
  obtain⟨i,hi,e⟩:=List.mem_iff_getElem.mp h1
  have:=h i (List.mem_range.mpr hi)
  rw[List.getD_eq_getElem?_getD,List.getElem?_eq_getElem hi,e]at this
  exact this
 ·intro h i h1
  have hi:=List.mem_range.mp h1
  rw[List.getD_eq_getElem?_getD,List.getElem?_eq_getElem hi]
  exact h bs[i] (List.getElem_mem hi)
theorem zJ{bs:List Bool}{its:List Value}(r:Vals (bs.map V.bl) its){prog:Program}{w:World}{A:Around}:TruthOf prog w A (λi v=>its.toArray[i]?=some v) (λi=>bs.getD i false):=by
 intro i v s Q E hv h
 have UK:its[i]?=some v:=by simpa using hv
 have hl:=r.length
 have hi:=(List.getElem?_eq_some_iff.mp UK).1
 rw[List.length_map]at hl
 obtain⟨x,hx⟩:∃x,(bs.map V.bl)[i]?=some x:=⟨(bs.map V.bl)[i]'(by rw[List.length_map];omega),List.getElem?_eq_getElem _⟩
 obtain⟨u,e,ru⟩:=r.get hx
 rw[UK]at e
 cases e
 obtain⟨n,e2,rfl⟩:=LQ hx
 cases ru
 have h':Q (bs.getD i false) s:=h
 rw[List.getD_eq_getElem?_getD,e2]at h'
 exact wpAny_truthy_bool h'
theorem zK(hc:X.calm=true):hX X (.builtin "any") (λxs H Q=>∃(p:Addr) (bs:List Bool),xs=[.ref p]/\iE X.K H p (bs.map V.bl)/\Q (.bl (bs.any id)) H):=by
 intro pins s σ H xs us Q I r h
 obtain⟨p,bs,rfl,hq,q⟩:=h
 obtain⟨u,rfl,ru⟩:=vals1 r
 cases ru
 obtain⟨its,rv,pl,hz⟩:=I.list hq
 have Bm:p≠s.heap.objs.size:=by
  obtain⟨o,ho,_⟩:=pl.isList
  exact Nat.ne_of_lt (Heap.lt_size ho)
 have hh:X.A.in1.handled=none:=I.ok.hd hc
 refine call_any_walk (wpAny_pyIter_list pl.isList ⟨s.heap.objs.size,_,_,_,_,_,(λi=>bs.getD i false),rfl,Walks.list hh s.heap.objs.size p Bm its.toArray,?_,zJ rv,λh' tk k=>?_⟩)
 ·exact⟨⟨_,Heap.get?_push_size _ rfl,rfl,rfl⟩,pl.isList.at λo e=>Heap.get?_push_of_some _ e⟩
 ·have hl:=rv.length
  rw[List.length_map]at hl
  rw[List.size_toArray,<-hl,range_any]
  refine⟨.bl _,H,I.kept (t':=tk) λb o e=>k b o (λz=>?_) (Heap.get?_push_of_some _ e),rfl,q⟩
  obtain rfl:b=s.heap.objs.size:=by simpa using z
  exact Nat.lt_irrefl _ (Heap.lt_size e)
theorem zL(hc:X.calm=true):hX X (.builtin "all") (λxs H Q=>∃(p:Addr) (bs:List Bool),xs=[.ref p]/\iE X.K H p (bs.map V.bl)/\Q (.bl (bs.all id)) H):=by
 intro pins s σ H xs us Q I r h
 obtain⟨p,bs,rfl,hq,q⟩:=h
 obtain⟨u,rfl,ru⟩:=vals1 r
 cases ru
 obtain⟨its,rv,pl,hz⟩:=I.list hq
 have Bm:p≠s.heap.objs.size:=by
  obtain⟨o,ho,_⟩:=pl.isList
  exact Nat.ne_of_lt (Heap.lt_size ho)
 have hh:X.A.in1.handled=none:=I.ok.hd hc
 refine call_all_walk (wpAny_pyIter_list pl.isList ⟨s.heap.objs.size,_,_,_,_,_,(λi=>bs.getD i false),rfl,Walks.list hh s.heap.objs.size p Bm its.toArray,?_,zJ rv,λh' tk k=>?_⟩)
 ·exact⟨⟨_,Heap.get?_push_size _ rfl,rfl,rfl⟩,pl.isList.at λo e=>Heap.get?_push_of_some _ e⟩
 ·have hl:=rv.length
  rw[List.length_map]at hl
  rw[List.size_toArray,<-hl,range_all]
  refine⟨.bl _,H,I.kept (t':=tk) λb o e=>k b o (λz=>?_) (Heap.get?_push_of_some _ e),rfl,q⟩
  obtain rfl:b=s.heap.objs.size:=by simpa using z
  exact Nat.lt_irrefl _ (Heap.lt_size e)
theorem LR:Pd X "int.bit_length" (λx vs H Q=>∃i,x=.int i/\vs=[]/\Q (.int (Builtin.Int.intBits i:Nat)) H):=by
 intro pins s σ H x vs v us Q I rx rv h
 obtain⟨i,rfl,rfl,q⟩:=h
 obtain⟨t,rfl⟩:=rx
 cases rv
 exact call_gives F.slot_int_bit_length (typeIs_int s i t) F.entry_int_bit_length (F.args_int_bit_length_1 _) (AutoIntG2.int_bit_length_int_0 i t) ⟨.int _,H,I.tok _,⟨_,rfl⟩,q⟩
end
section
open PySem.AutoSeq1 (wpAny_loadPart')
open PySem.MeetsSeq PySem.MeetsSeq2 PySem.MeetsSeq3
theorem LS(l b:Addr)(items dz:Array Value)(n n2:Nat)(dd RM:Option Addr)(sl RN:Array (Option Value))(ns ms:List Int)(hi:IntsAre items.toList ns)(hj:IntsAre dz.toList ms)(k:Nat):
  ∀i:Nat,items.size-i=k->i<=items.size->i<=dz.size->Meets (Builtin.«list.__eq__.loop» ⟨[.ref l,.ref b,rawInt i,rawInt 0],[]⟩)
   (λA R s=>s.heap.get? l=some {cls:=.type "list",dict:=dd,data:=.seq items n,slots:=sl}/\s.heap.get? b=some {cls:=.type "list",dict:=RM,data:=.seq dz n2,slots:=RN}/\
     R (.ok (.ret (.bool (HT.lexLt (ns.drop i) (ms.drop i))))) s):=by
 have z1:items.size=ns.length:=by rw[<-hi.length];simp
 have z2:dz.size=ms.length:=by rw[<-hj.length];simp
 induction k with
 |zero=>
  intro i hk h1 h2 prog w A R s h
  obtain⟨hp,g,d,tk,os⟩:=s;obtain⟨hl,hb,h⟩:=h
  wp_walk using wpAny_loadPart' hl,wpAny_loadPart' hb
  have e1:items[((i:Nat):Int).toNat]?=none:=by simp;omega
  have d1:ns.drop i=[]:=List.drop_eq_nil_of_le (by omega)
  rw[d1]at h
  have hv:HT.lexLt [] (ms.drop i)=decide (items.size<dz.size):=by
   by_cases hm:i<ms.length
   ·rw[List.drop_eq_getElem_cons hm,HT.sZ]
    exact(decide_eq_true (by omega)).symm
   ·rw[List.drop_eq_nil_of_le (by omega),HT.vj]
    exact(decide_eq_false (by omega)).symm
  rw[hv]at h
  rw[e1]
  wp_walk using wpAny_loadPart' hl,wpAny_loadPart' hb
  exact h
 |succ k ih=>
  intro i hk h1 h2 prog w A R s h
  obtain⟨hp,g,d,tk,os⟩:=s;obtain⟨hl,hb,h⟩:=h
  wp_walk using wpAny_loadPart' hl,wpAny_loadPart' hb
  have jW:i<items.size:=by omega
  have e1:items[((i:Nat):Int).toNat]?=some items[i]:=by simp[jW]
  have dn:ns.drop i=ns[i]::ns.drop (i+1):=List.drop_eq_getElem_cons (by omega)
  by_cases hm:i<dz.size
  ·have e2:dz[((i:Nat):Int).toNat]?=some dz[i]:=by simp[hm]
   have dm:ms.drop i=ms[i]::ms.drop (i+1):=List.drop_eq_getElem_cons (by omega)
   rw[dn,dm,HT.nA]at h
   rw[e1,e2]
   obtain⟨t,f1⟩:=hi.get i ns[i] (List.getElem?_eq_getElem (by omega))
   obtain⟨u,f2⟩:=hj.get i ms[i] (List.getElem?_eq_getElem (by omega))
   have XX:items[i]=.int ns[i] t:=by
    have:=(List.getElem?_eq_some_iff.mp f1).2
    simpa using this
   have XY:dz[i]=.int ms[i] u:=by
    have:=(List.getElem?_eq_some_iff.mp f2).2
    simpa using this
   have hc:((i:Int)+1)=((i+1:Nat):Int):=by push_cast;rfl
   rw[XX,XY]
   obtain⟨e,he,Ta⟩:=HT.Hj A.in1 ⟨hp,g,d,tk,os⟩ ns[i] t ms[i] u
   refine wpAny_bind (he prog w _ _ ?_)
   cases e with
   |true=>
    rw[if_pos (Ta.mp rfl)]at h
    wp_walk
    rw[hc]
    exact⟨plainId_quiet plain_eq_loop _,codeAny_builtin entry_eq_loop (by
     rw[Around.under_plainId plain_eq_loop _]
     exact ih (i+1) (by omega) (by omega) (by omega) prog w A R _ ⟨hl,hb,h⟩)⟩
   |false=>
    rw[if_neg (λq=>absurd (Ta.mpr q) Bool.false_ne_true)]at h
    wp_walk using wpAny_loadPart' hl,wpAny_loadPart' hb
    rw[e1,e2]
    rw[XX,XY]
    have Zc:=HT.Hk A.in1 ⟨hp,g,d,tk,os⟩ ns[i] t ms[i] u prog w
    wp_walk using Zc
    exact h
  ·have e2:dz[((i:Nat):Int).toNat]?=none:=by simp;omega
   have dm:ms.drop i=[]:=List.drop_eq_nil_of_le (by omega)
   rw[dn,dm,HT.td]at h
   have hv:false=decide (items.size<dz.size):=(decide_eq_false (by omega)).symm
   rw[hv]at h
   rw[e1,e2]
   wp_walk using wpAny_loadPart' hl,wpAny_loadPart' hb
   exact h
theorem xC(l b:Addr)(items dz:Array Value)(n n2:Nat)(dd RM:Option Addr)(sl RN:Array (Option Value))(ns ms:List Int)(hi:IntsAre items.toList ns)(hj:IntsAre dz.toList ms):
  Meets (Builtin.«list.__lt__» ⟨[.ref l,.ref b],[]⟩)
   (λA R s=>s.heap.get? l=some {cls:=.type "list",dict:=dd,data:=.seq items n,slots:=sl}/\s.heap.get? b=some {cls:=.type "list",dict:=RM,data:=.seq dz n2,slots:=RN}/\
     R (.ok (.ret (.bool (HT.lexLt ns ms)))) s):=by
 intro prog w A R s h
 obtain⟨hp,g,d,tk,os⟩:=s;obtain⟨hl,hb,h⟩:=h
 have f3:=AutoSeq1.sub_list_list
 wp_walk using wpAny_loadPart' hl,wpAny_loadPart' hb
 exact⟨plainId_quiet plain_eq_loop _,codeAny_builtin entry_eq_loop (by
  rw[Around.under_plainId plain_eq_loop _]
  exact LS l b items dz n n2 dd RM sl RN ns ms hi hj _ 0 rfl (Nat.zero_le _) (Nat.zero_le _) prog w A R _ ⟨hl,hb,by simpa using h⟩)⟩
noncomputable def Tb(A:Around)(s:Shared)(y x:Value)(r:Bool):Prop:=
 ∀(prog:Program) (w:World) (E:Value->Shared->Prop) (Q:Value->Shared->Prop),Q (.bool r) s->wpAny (model prog w) A (richCompare .Lt y x) Q E s
theorem BI{A:Around}{s:Shared}{l b:Addr}{items dz:Array Value}{ns ms:List Int}(hl:s.heap.IsList l items)(hb:s.heap.IsList b dz)(hi:IntsAre items.toList ns)(hj:IntsAre dz.toList ms)(hu:A.units<cLine):Tb A s (.ref l) (.ref b) (HT.lexLt ns ms):=λprog w E Q h=>by
 obtain⟨⟨cls,dd,data,sl⟩,ho,hc,n,hd⟩:=id hl
 obtain⟨⟨Zd,RM,data2,RN⟩,UZ,U0,n2,hd2⟩:=id hb
 simp only at hc hd U0 hd2
 subst hc hd U0 hd2
 exact richCompare_meets_room (op:=.Lt) ⟨_,ho,rfl⟩ ⟨_,UZ,rfl⟩ PySem.F.slot_list_lt PySem.F.entry_list_lt (PySem.F.args_list_lt_2 _ _) (xC l b items dz n n2 dd RM sl RN ns ms hi hj)
  ⟨ho,UZ,⟨(λx=>nomatch x),h⟩⟩ hu
end
end L2
namespace Mt
noncomputable def sub(a b:Nat):Bool:=(a&&&b)==a
noncomputable def oN(g:Nat):List Nat:=(List.range 6).filter λh=>g.testBit h
noncomputable def Ww(g:Nat):Nat:=(oN g).foldl (λn h=>n+2^(5-h)) 0
noncomputable def rank(g:Nat):Nat:=(oN g).length*64+(63-Ww g)
noncomputable def zM(p:Nat->Nat->Bool):Bool:=(List.range 64).all λa=>(List.range 64).all λb=>p a b
theorem oO{p:Nat->Nat->Bool}(h:zM p=true){a b:Nat}(ha:a<64)(hb:b<64):p a b=true:=by
 have h1:=List.all_eq_true.mp h a (List.mem_range.mpr ha)
 exact List.all_eq_true.mp h1 b (List.mem_range.mpr hb)
theorem zN{a b:Nat}(ha:a<64)(hb:b<64)(e:rank a=rank b):a=b:=by
 have h:zM (λa b=>!(rank a==rank b)||a==b)=true:=by decide+kernel
 have:=oO h ha hb
 rw[e]at this
 simpa using this
theorem HC{a b:Nat}(ha:a<64)(hb:b<64)(s:sub a b=true):rank a<=rank b:=by
 have h:zM (λa b=>!(sub a b)||decide (rank a<=rank b))=true:=by decide+kernel
 have:=oO h ha hb
 rw[s]at this
 simpa using this
theorem oP(a:Nat):sub a a=true:=by simp[sub]
theorem xD{a b:Nat}:sub a b=true↔a&&&b=a:=by simp[sub]
theorem mK{a b c:Nat}(h1:sub a b=true)(h2:sub b c=true):sub a c=true:=by
 rw[xD]at*
 rw[<-h1,Nat.and_assoc,h2]
theorem HD{a b:Nat}(h1:sub a b=true)(h2:sub b a=true):a=b:=by
 rw[xD]at*
 rw[<-h1,Nat.and_comm,h2]
noncomputable def lets(l:List Nat)(g:Nat):Bool:=l.any λr=>sub r g
theorem d0{l:List Nat}{g:Nat}:lets l g=true↔∃r∈l,sub r g=true:=List.any_eq_true
structure RO(l:List Nat):Prop where
 ord:l.Pairwise λa b=>rank a<rank b
 anti:∀a∈l,∀b∈l,sub a b=true->a=b
 small:∀a∈l,a<64
noncomputable def kj(acc:List Nat)(g:Nat):List Nat:=if lets acc g then acc else acc++[g]
noncomputable def tF(ss:List Nat):List Nat:=ss.foldl kj []
structure Cl(pre acc:List Nat):Prop where
 zO:RO acc
 mem:∀r∈acc,r∈pre
 cov:∀g∈pre,lets acc g=true
theorem Cl.nil:Cl [] []:=⟨⟨List.Pairwise.nil,by simp,by simp⟩,by simp,by simp⟩
theorem HE(l m:List Nat)(g:Nat):lets (l++m) g=(lets l g||lets m g):=by simp[lets]
theorem Cl.step{pre acc:List Nat}{g:Nat}(h:Cl pre acc)(hg:g<64)(hs:∀r∈pre,rank r<=rank g):Cl (pre++[g]) (kj acc g):=by
 unfold kj
 by_cases hl:lets acc g=true
 ·rw[if_pos hl]
  refine⟨h.zO,λr hr=>List.mem_append_left _ (h.mem r hr),λx hx=>?_⟩
  rcases List.mem_append.mp hx with hx|hx
  ·exact h.cov x hx
  ·obtain rfl:x=g:=by simpa using hx
   exact hl
 ·rw[if_neg hl]
  have hn:∀r∈acc,¬sub r g=true:=λr hr z=>hl (d0.mpr ⟨r,hr,z⟩)
  have jW:∀r∈acc,rank r<rank g:=λr hr=>by
   have h1:=hs r (h.mem r hr)
   rcases Nat.lt_or_ge (rank r) (rank g)with h2|h2
   ·exact h2
   ·have:=zN (h.zO.small r hr) hg (by omega)
    subst this
    exact absurd (oP r) (hn r hr)
  refine⟨⟨?_,?_,?_⟩,?_,?_⟩
  ·refine List.pairwise_append.mpr ⟨h.zO.ord,List.pairwise_singleton _ _,λa ha b hb=>?_⟩
   obtain rfl:b=g:=by simpa using hb
   exact jW a ha
  ·intro a ha b hb s
   rcases List.mem_append.mp ha with U1|U1
   ·rcases List.mem_append.mp hb with K8|K8
    ·exact h.zO.anti a U1 b K8 s
    ·have e:b=g:=by simpa using K8
     rw[e]at s
     exact absurd s (hn a U1)
   ·have e:a=g:=by simpa using U1
    rcases List.mem_append.mp hb with K8|K8
    ·rw[e]at s
     have h1:=HC hg (h.zO.small b K8) s
     have h2:=jW b K8
     omega
    ·have e2:b=g:=by simpa using K8
     rw[e,e2]
  ·intro a ha
   rcases List.mem_append.mp ha with ha|ha
   ·exact h.zO.small a ha
   ·obtain rfl:a=g:=by simpa using ha
    exact hg
  ·intro r hr
   rcases List.mem_append.mp hr with hr|hr
   ·exact List.mem_append_left _ (h.mem r hr)
   ·exact List.mem_append_right _ hr
  ·intro x hx
   rw[HE]
   rcases List.mem_append.mp hx with hx|hx
   ·rw[h.cov x hx]
    rfl
   ·obtain rfl:x=g:=by simpa using hx
    simp[lets,oP]
theorem HF{ss:List Nat}(BJ:∀g∈ss,g<64)(hs:ss.Pairwise λa b=>rank a<=rank b):Cl ss (tF ss):=by
 have go:∀(post pre:List Nat) (acc:List Nat),pre++post=ss->Cl pre acc->Cl ss (post.foldl kj acc):=by
  intro post
  induction post with
  |nil=>
   intro pre acc e h
   rw[List.append_nil]at e
   rw[<-e]
   exact h
  |cons g post ih=>
   intro pre acc e h
   rw[List.foldl_cons]
   refine ih (pre++[g]) _ (by rw[List.append_assoc];exact e) (h.step (BJ g ?_) λr hr=>?_)
   ·rw[<-e]
    simp
   ·rw[<-e]at hs
    exact(List.pairwise_append.mp hs).2.2 r hr g (by simp)
 exact go ss [] [] rfl Cl.nil
theorem Cl.lets{pre acc:List Nat}(h:Cl pre acc)(g:Nat):Mt.lets acc g=Mt.lets pre g:=by
 rw[Bool.eq_iff_iff,d0,d0]
 constructor
 ·rintro⟨r,h1,h2⟩
  exact⟨r,h.mem r h1,h2⟩
 ·rintro⟨r,h1,h2⟩
  obtain⟨q,h3,h4⟩:=d0.mp (h.cov r h1)
  exact⟨q,h3,mK h4 h2⟩
theorem v7:∀{l m:List Nat},l.Pairwise (λa b=>rank a<rank b)->m.Pairwise (λa b=>rank a<rank b)->(∀x,x∈l↔x∈m)->l=m
 |[],[],_,_,_=>rfl
 |[],y::m,_,_,h=>absurd ((h y).mpr (List.mem_cons_self ..)) (by simp)
 |x::l,[],_,_,h=>absurd ((h x).mp (List.mem_cons_self ..)) (by simp)
 |x::l,y::m,h1,h2,h=>by
  obtain⟨a1,a2⟩:=List.pairwise_cons.mp h1
  obtain⟨b1,b2⟩:=List.pairwise_cons.mp h2
  have e:x=y:=by
   rcases List.mem_cons.mp ((h x).mp (List.mem_cons_self ..))with e|e
   ·exact e
   ·rcases List.mem_cons.mp ((h y).mpr (List.mem_cons_self ..))with e'|e'
    ·exact e'.symm
    ·have:=b1 x e
     have:=a1 y e'
     omega
  subst e
  rw[v7 a2 b2 λz=>?_]
  constructor
  ·intro hz
   rcases List.mem_cons.mp ((h z).mp (List.mem_cons_of_mem _ hz))with e|e
   ·subst e
    have:=a1 z hz
    omega
   ·exact e
  ·intro hz
   rcases List.mem_cons.mp ((h z).mpr (List.mem_cons_of_mem _ hz))with e|e
   ·subst e
    have:=b1 z hz
    omega
   ·exact e
theorem qw{l:List Nat}{r:Nat}(h:r∈l):lets l r=true:=d0.mpr ⟨r,h,oP r⟩
end Mt
namespace L2.D
open PySem
inductive PV where
 |non|bl(b:Bool)|int(i:Int)|str(x:Str)|lst(l:List PV)|tup(l:List PV)|ins(c:Nat)(l:List PV)
 deriving Inhabited
noncomputable def flat:PV->Bool
 |.non=>true
 |.bl _=>true
 |.int _=>true
 |.str _=>true
 |_=>false
noncomputable def K9:PV->PV->Bool
 |.non,.non=>true
 |.bl a,.bl b=>a==b
 |.bl a,.int b=>(if a then 1 else 0)==b
 |.int a,.bl b=>a==(if b then 1 else 0)
 |.int a,.int b=>a==b
 |.str a,.str b=>a==b
 |_,_=>false
noncomputable def nD(f:PV->PV->Option Bool):List PV->List PV->Option (List Bool)
 |a::l,b::m=>(f a b).bind λe=>(nD f l m).map (e::·)
 |_,_=>some []
noncomputable def GV(f:PV->PV->Option Bool)(l m:List PV):Option Bool:=if l.length=m.length then(nD f l m).map λes=>es.all id else some false
noncomputable def j5:Nat->PV->PV->Option Bool
 |n+1,.lst l,.lst m=>GV (j5 n) l m
 |n+1,.tup l,.tup m=>if l.length=m.length then GV (j5 n) l m else none
 |_,p,q=>if flat p&&flat q then some (K9 p q)else none
inductive Cn where
 |l(xs:List PV)|d(cF:List (Int×PV))
 deriving Inhabited
inductive Slot where
 |un|sh(p:PV)|own(c:Cn)|bw(l:List PV)
 deriving Inhabited
noncomputable abbrev Slot.ow(l:List PV):Slot:=.own (.l l)
noncomputable abbrev cH:=List Slot
noncomputable abbrev Den:=cH->Option PV
noncomputable def Slot.val:Slot->Option PV
 |.un=>none
 |.sh p=>some p
 |.own (.l l)=>some (.lst l)
 |.own (.d _)=>none
 |.bw l=>some (.lst l)
noncomputable def Slot.E7:Slot->Option PV
 |.sh p=>some p
 |_=>none
inductive Fl where
 |nx(ρ:cH)|rt(p:PV)|bk(ρ:cH)|ct(ρ:cH)
noncomputable abbrev aT:=cH->Option Fl
noncomputable abbrev c9:=cH->Option Bool
noncomputable abbrev cC:=cH->Option (List PV)
noncomputable def dC(p:PV):Den:=λ_=>some p
noncomputable def dV(i:Nat):Den:=λρ=>(ρ[i]?).bind Slot.val
noncomputable def aR(i:Nat):Den:=λρ=>(ρ[i]?).bind Slot.E7
noncomputable def bb(g:PV->Option PV)(a:Den):Den:=λρ=>(a ρ).bind g
noncomputable def ag(g:PV->PV->Option PV)(a b:Den):Den:=λρ=>(a ρ).bind λx=>(b ρ).bind λy=>g x y
noncomputable def ay:cC:=λ_=>some []
noncomputable def aa(a:Den)(as:cC):cC:=λρ=>(a ρ).bind λx=>(as ρ).bind λxs=>some (x::xs)
noncomputable def aH(F:List PV->Option PV)(as:cC):Den:=λρ=>(as ρ).bind F
noncomputable def xE(F:List PV->Option PV)(as:cC):Den:=λρ=>(as ρ).bind λxs=>(F xs).bind λp=>if flat p then some p else none
noncomputable def lI(as:cC):Den:=λρ=>(as ρ).bind λxs=>if xs.length<=sizeLine then some (.lst xs)else none
noncomputable def fV(as:cC):Den:=λρ=>(as ρ).bind λxs=>if xs.length<=sizeLine then some (.tup xs)else none
noncomputable def E8:PV->Option Bool
 |.bl b=>some b
 |_=>none
noncomputable def tV(a:Den):c9:=λρ=>(a ρ).bind E8
noncomputable def Bj(a b:c9):c9:=λρ=>(a ρ).bind λc=>if c then some true else b ρ
noncomputable def lz(a:c9):c9:=λρ=>(a ρ).map (!·)
noncomputable def dA:PV->PV->Option PV
 |.int i,.int j=>some (.int (i+j))
 |.str x,.str y=>if x.length+y.length<=sizeLine then some (.str (x++y))else none
 |.lst l,.lst m=>if l.length+m.length<=sizeLine then some (.lst (l++m))else none
 |_,_=>none
noncomputable def jo:PV->PV->Option PV
 |.int i,.int j=>some (.int (i-j))
 |_,_=>none
noncomputable def zP(i j:Int):Bool:=(decide (-(2^64)<i)&&decide (i<2^64))||(decide (-(2^64)<j)&&decide (j<2^64))
noncomputable def BK:PV->PV->Option PV
 |.int i,.int j=>if zP i j then some (.int (i*j))else none
 |_,_=>none
noncomputable def oQ:PV->PV->Option PV
 |.int i,.int j=>if decide (0<j)&&decide (j<1073741824)then some (.int (i/j))else none
 |_,_=>none
noncomputable def fW:PV->PV->Option PV
 |.int i,.int j=>if decide (0<j)then some (.int (i % j))else none
 |_,_=>none
noncomputable def mY(i j:Int):Bool:=decide (0<=j)&&decide (j<=1000000)&&decide (i.natAbs<2^64)
noncomputable def LU:PV->PV->Option PV
 |.int i,.int j=>if mY i j then some (.int (i^j.toNat))else none
 |_,_=>none
noncomputable def zQ:PV->PV->Option PV
 |.int i,.int j=>if mY i j then some (.int (i*2^j.toNat))else none
 |_,_=>none
noncomputable def E9:PV->PV->Option PV
 |.int i,.int j=>if decide (0<=j)then some (.int (i/2^j.toNat))else none
 |_,_=>none
noncomputable def xF:PV->PV->Option PV
 |.int i,.int j=>some (.int (Builtin.bitAnd i j))
 |_,_=>none
noncomputable def XZ:PV->PV->Option PV
 |.int i,.int j=>some (.int (Builtin.bitOr i j))
 |_,_=>none
noncomputable def qx:PV->Option PV
 |.int i=>some (.int (-i))
 |_=>none
noncomputable def eqT:PV->PV->Option Bool
 |.non,.non=>some true
 |.non,.int _=>some false
 |.non,.bl _=>some false
 |.non,.str _=>some false
 |.int _,.non=>some false
 |.bl _,.non=>some false
 |.str _,.non=>some false
 |.int a,.int b=>some (decide (a=b))
 |.bl a,.bl b=>some (decide (a=b))
 |.str a,.str b=>some (decide (a=b))
 |.int _,.str _=>some false
 |.str _,.int _=>some false
 |.bl _,.str _=>some false
 |.str _,.bl _=>some false
 |.lst l,.lst m=>j5 20 (.lst l) (.lst m)
 |.tup l,.tup m=>j5 20 (.tup l) (.tup m)
 |_,_=>none
noncomputable def iG(a b:PV):Option PV:=(eqT a b).map PV.bl
noncomputable def RP(a b:PV):Option PV:=(eqT a b).map λe=>PV.bl !e
noncomputable def qy:PV->PV->Option PV
 |.int i,.int j=>some (.bl (decide (i<j)))
 |_,_=>none
noncomputable def RS:PV->PV->Option PV
 |.int i,.int j=>some (.bl (decide (j<i)))
 |_,_=>none
noncomputable def Tc:PV->PV->Option PV
 |.int i,.int j=>some (.bl (decide (j<=i)))
 |_,_=>none
noncomputable def vn:PV->Option PV
 |.non=>some (.bl true)
 |_=>some (.bl false)
noncomputable def k8(x:PV)(l:List PV):Bool:=l.any λy=>K9 y x
noncomputable def LV:PV->PV->Option PV
 |x,.lst l=>if flat x&&l.all flat then some (.bl (k8 x l))else none
 |x,.tup l=>if flat x&&l.all flat then some (.bl (k8 x l))else none
 |_,_=>none
noncomputable def jD:PV->PV->Option PV
 |x,.lst l=>if flat x&&l.all flat then some (.bl (!k8 x l))else none
 |x,.tup l=>if flat x&&l.all flat then some (.bl (!k8 x l))else none
 |_,_=>none
noncomputable def RT(n:Nat)(i:Int):Option Nat:=if 0<=i then(if i<n then some i.toNat else none)else if-(n:Int)<=i then some (i+n).toNat else none
noncomputable def itemAt{α:Type}(l:List α)(i:Int):Option α:=(RT l.length i).bind λj=>l[j]?
noncomputable def jq:PV->PV->Option PV
 |.lst l,.int i=>itemAt l i
 |.tup l,.int i=>itemAt l i
 |.str x,.int i=>if x.length<=sizeLine then(itemAt x.cps.toList i).map λc=>.str ⟨#[c]⟩else none
 |_,_=>none
noncomputable def bj:PV->Option PV
 |.lst l=>some (.int l.length)
 |.tup l=>some (.int l.length)
 |.str x=>if x.length<=sizeLine then some (.int x.length)else none
 |_=>none
noncomputable def v8:PV->Option PV
 |.lst l=>some (.lst l)
 |.tup l=>some (.lst l)
 |_=>none
noncomputable def bools:List PV->Option (List Bool)
 |[]=>some []
 |.bl b::l=>(bools l).map (b::·)
 |_::_=>none
noncomputable def LW:PV->Option PV
 |.lst l=>(bools l).map λbs=>.bl (bs.any id)
 |_=>none
noncomputable def Td:PV->Option PV
 |.lst l=>(bools l).map λbs=>.bl (bs.all id)
 |_=>none
noncomputable def HG:PV->Option PV
 |.int i=>some (.int (Builtin.Int.intBits i:Nat))
 |_=>none
noncomputable def DH:PV->Nat
 |.int _=>0
 |.bl _=>1
 |.str _=>2
 |.lst _=>3
 |.tup _=>4
 |.non=>5
 |.ins _ _=>6
noncomputable def BL(k:Nat)(p:PV):Bool:=DH p==k||(k==0&&DH p==1)
noncomputable def RU(k:Nat)(p:PV):Option PV:=if DH p=6 then none else some (.bl (BL k p))
noncomputable def xG(n d:Nat):Option Int->Nat
 |none=>d
 |some i=>if i<0 then(i+n).toNat else min i.toNat n
noncomputable def nE{α:Type}(l:List α)(lo hi:Option Int):List α:=(l.drop (xG l.length 0 lo)).take (xG l.length l.length hi-xG l.length 0 lo)
noncomputable abbrev xH:=cH->Option (Option Int)
noncomputable def dR:xH:=λ_=>some none
noncomputable def GW:PV->Option Int
 |.int i=>some i
 |_=>none
noncomputable def bO(a:Den):xH:=λρ=>(a ρ).bind λp=>(GW p).map some
noncomputable def v9(a:Den)(lo hi:xH):Den:=λρ=>(a ρ).bind λx=>(lo ρ).bind λl=>(hi ρ).bind λh=>match x with
 |.lst xs=>some (.lst (nE xs l h))
 |_=>none
noncomputable def nF:PV->Option (List PV)
 |.lst l=>some l
 |_=>none
noncomputable def xI:PV->Option (List PV)
 |.tup l=>some l
 |_=>none
noncomputable def nList(a:Den):cC:=λρ=>(a ρ).bind nF
noncomputable def xJ(a:Den):cC:=λρ=>(a ρ).bind xI
noncomputable def iq(lo:Int)(n:Nat):List PV:=(List.range n).map λk=>.int (lo+(k:Nat))
noncomputable def wa(j:Int):Bool:=decide (-(2^62)<=j)&&decide (j<2^62)
noncomputable def iB(a:Den):cC:=λρ=>(a ρ).bind λp=>(GW p).bind λj=>if wa j then some (iq 0 j.toNat)else none
noncomputable def BM(a b:Den):cC:=λρ=>(a ρ).bind λp=>(b ρ).bind λq=>(nF p).bind λl=>(nF q).bind λm=>some (List.zipWith (λx y=>PV.tup [x,y]) l m)
noncomputable def fX(c:c9)(e:Den)(ρ:cH):List PV->Option (List PV)
 |[]=>some []
 |x::xs=>(c (.sh x::ρ)).bind λb=>if b then(e (.sh x::ρ)).bind λz=>(fX c e ρ xs).map (z::·)else fX c e ρ xs
noncomputable def d5:c9:=λ_=>some true
noncomputable def b9(it:cC)(c:c9)(e:Den):Den:=λρ=>(it ρ).bind λxs=>if xs.length<=sizeLine then(fX c e ρ xs).map PV.lst else none
noncomputable def bA:aT:=λρ=>some (.nx ρ)
noncomputable def aN(a b:aT):aT:=λρ=>(a ρ).bind λf=>match f with
 |.nx ρ'=>b ρ'
 |f=>some f
noncomputable def bP(i:Nat)(a:Den):aT:=λρ=>(a ρ).map λp=>.nx (ρ.set i (.sh p))
noncomputable def k9(i:Nat)(a:Den):aT:=λρ=>(a ρ).bind λp=>(nF p).map λl=>.nx (ρ.set i (.ow l))
noncomputable def a8(a:Den):aT:=λρ=>(a ρ).map Fl.rt
noncomputable def fQ(t:c9)(a b:aT):aT:=λρ=>(t ρ).bind λc=>if c then a ρ else b ρ
noncomputable def tG:aT:=λρ=>some (.bk ρ)
noncomputable def vo(ρ:cH)(i:Nat):Option (List PV):=match ρ[i]? with
 |some (.own (.l l))=>some l
 |_=>none
noncomputable def oR(i:Nat)(g:List PV->List PV->Option (List PV))(as:cC):aT:=λρ=>(as ρ).bind λxs=>(vo ρ i).bind λl=>(g l xs).map λl'=>.nx (ρ.set i (.ow l'))
noncomputable def dB(l xs:List PV):Option (List PV):=match xs with
 |[x]=>if l.length<sizeLine then some (l++[x])else none
 |_=>none
noncomputable abbrev GX:=PV->cH->Option cH
noncomputable def bh(i:Nat):GX:=λp ρ=>some (ρ.set i (.sh p))
noncomputable def ir(a b:GX):GX:=λp ρ=>match p with
 |.tup [x,y]=>(a x ρ).bind (b y)
 |_=>none
noncomputable def forL(g:GX)(body:aT):List PV->aT
 |[]=>λρ=>some (.nx ρ)
 |x::xs=>λρ=>(g x ρ).bind λρ1=>(body ρ1).bind λf=>match f with
  |.nx ρ'=>forL g body xs ρ'
  |.ct ρ'=>forL g body xs ρ'
  |.bk ρ'=>some (.nx ρ')
  |.rt p=>some (.rt p)
noncomputable def jE(it:cC)(g:GX)(body:aT):aT:=λρ=>(it ρ).bind λxs=>forL g body xs ρ
noncomputable def fZ(t:c9)(body:aT):Nat->aT
 |0=>λ_=>none
 |n+1=>λρ=>(t ρ).bind λc=>if c then(body ρ).bind λf=>match f with
   |.nx ρ'=>fZ t body n ρ'
   |.ct ρ'=>fZ t body n ρ'
   |.bk ρ'=>some (.nx ρ')
   |.rt p=>some (.rt p)
  else some (.nx ρ)
noncomputable def qz:List Int->List Int->Bool
 |[],[]=>false
 |[],_::_=>true
 |_::_,[]=>false
 |x::xs,y::ys=>if x=y then qz xs ys else decide (x<y)
noncomputable def NJ(a b:Den):Den:=λρ=>(a ρ).bind λx=>(E8 x).bind λc=>if c then b ρ else some (.bl false)
noncomputable def NK(a:Den):Den:=λρ=>(a ρ).bind λx=>(E8 x).map λc=>.bl !c
noncomputable def DJ(i:Nat):aT:=λρ=>(vo ρ i).map λl=>.rt (.lst l)
noncomputable def gz(a b:PV):Option PV:=match a with
 |.tup _=>none
 |_=>RP a b
noncomputable def iC:List PV->Option (List Int)
 |[]=>some []
 |.int i::l=>(iC l).map (i::·)
 |_::_=>none
noncomputable def jF:PV->Option PV
 |.lst l=>some (.tup l)
 |.tup l=>some (.tup l)
 |_=>none
noncomputable def Fb(rk:Int->Nat)(x:Int):List Int->List Int
 |[]=>[x]
 |y::l=>if rk x<=rk y then x::y::l else y::Fb rk x l
noncomputable def f6(rk:Int->Nat):List Int->List Int
 |[]=>[]
 |x::l=>Fb rk x (f6 rk l)
noncomputable def jr(n:Int):Nat:=Mt.rank n.toNat
noncomputable def qg(n:Int):Bool:=decide (0<=n)&&decide (n<64)
noncomputable def lK(ns:List Int):Bool:=ns.all qg&&decide (ns.length<=5000)
noncomputable def rA(it:cC):Den:=λρ=>(it ρ).bind λl=>(iC l).bind λns=>if lK ns then some (.lst ((f6 jr ns).map PV.int))else none
noncomputable def f9(F:List PV->Option PV):Prop:=∃(kI:Int->Int) (kL:Int->List Int),(∀n,qg n=true->F [.int n]=some (.tup [.int (kI n),.lst ((kL n).map PV.int)]))/\
 ∀n m,qg n=true->qg m=true->(if kI n=kI m then qz (kL n) (kL m)else decide (kI n<kI m))=decide (jr n<jr m)
noncomputable def gB(n:Nat)(ps:List PV):cH:=ps.map Slot.sh++List.replicate (n-ps.length) .un
noncomputable def xK(fr:Bool):Fl->Option PV
 |.rt p=>some p
 |.nx _=>if fr then none else some .non
 |_=>none
noncomputable def fn(fr:Bool)(n k:Nat)(body:aT)(ps:List PV):Option PV:=if ps.length=k then(body (gB n ps)).bind (xK fr)else none
noncomputable def hZ(fa fb fc:Den):Den:=λρ=>(fa ρ).bind λx=>(fb ρ).bind λy=>(GW x).bind λi=>(GW y).bind λj=>if i<=j then(fc ρ).bind λz=>(GW z).map λk=>.bl (decide (j<=k))else some (.bl false)
noncomputable def Fd:PV->PV->Option PV
 |.int i,.int j=>some (.int (if j<i then j else i))
 |_,_=>none
noncomputable def bZ(x:Str)(lo hi:Option Int)(st:Int):Str:=if(st==1&&(Builtin.Str.strSliceIndices lo hi st x.length).length==x.length)=true then x else⟨((Builtin.Str.strSliceIndices lo hi st x.length).filterMap (x.cps[·]?)).toArray⟩
noncomputable def kl(a:Den)(lo hi:xH):Den:=λρ=>(a ρ).bind λx=>(lo ρ).bind λl=>(hi ρ).bind λh=>match x with
 |.lst xs=>some (.lst (nE xs l h))
 |.str y=>if y.length<=sizeLine then some (.str (bZ y l h 1))else none
 |_=>none
noncomputable def PN:PV->Option PV
 |.str y=>if y.length<=sizeLine then some (.str (bZ y none none (-1)))else none
 |_=>none
noncomputable def NL:PV->PV->Option PV
 |.str x,.str y=>some (.int (Txt.find x y))
 |_,_=>none
noncomputable def mZ:List PV->Option (List Str)
 |[]=>some []
 |.str x::l=>(mZ l).map (x::·)
 |_::_=>none
noncomputable def DK:PV->PV->Option PV
 |.str x,.lst l=>(mZ l).bind λts=>if JoinOk x ts then some (.str (Txt.join x ts))else none
 |_,_=>none
noncomputable def PQ:PV->Option PV
 |.int i=>if decide (i.natAbs<1000000)then some (.str (toString i))else none
 |_=>none
noncomputable def Te:List Int->Option Int
 |[]=>none
 |x::l=>some (l.foldl (λa b=>if b>a then b else a) x)
noncomputable def km(ft:Nat->List Str)(f:Str):PV->Option PV
 |.ins c l=>((ft c).zip l).lookup f
 |_=>none
noncomputable def j6(Fs:Nat->List PV->Option PV)(o:Den)(as:cC):Den:=λρ=>(o ρ).bind λp=>match p with
 |.ins c l=>(as ρ).bind λxs=>Fs c (.ins c l::xs)
 |_=>none
noncomputable def HH:PV->Option PV
 |.str x=>some (.ins 0 [.str x])
 |_=>none
noncomputable def HI:PV->Option PV
 |.lst l=>some (.ins 1 [.int l.length,.tup l])
 |_=>none
noncomputable def HJ:PV->Option PV
 |.lst l=>some (.ins 2 [.int 1,.tup l])
 |_=>none
noncomputable def BN:PV->PV->Option PV
 |.int m,.lst l=>some (.ins 3 [.int m,.tup l])
 |_,_=>none
noncomputable def RV(c:Nat):List Str:=if c=0 then["name"]else if c<4 then["wanted","parts"]else[]
noncomputable def zR:PV->Option PV
 |.lst l=>(iC l).bind λns=>(Te ns).map PV.int
 |_=>none
noncomputable def tH:aT:=λ_=>none
noncomputable def dW(x:Str):List Str->Nat
 |[]=>0
 |y::l=>if y=x then 0 else 1+dW x l
noncomputable def BO:PV->PV->Option PV
 |.tup l,.str x=>(mZ l).bind λts=>if decide (x∈ts)then some (.int (dW x ts:Nat))else none
 |_,_=>none
noncomputable def toS:PV->Option Str
 |.str x=>some x
 |_=>none
theorem jv{p:PV}{x:Str}(h:toS p=some x):p=.str x:=by
 cases p<;>first|(cases h;done)|skip
 cases h
 rfl
noncomputable def Fe(x y:Str):Bool:=!decide (y.cps.toList<x.cps.toList)
noncomputable def gD(fa fb fc:Den):Den:=λρ=>(fa ρ).bind λx=>(fb ρ).bind λy=>(toS x).bind λi=>(toS y).bind λj=>if Fe i j then(fc ρ).bind λz=>(toS z).bind λk=>some (.bl (Fe j k))else some (.bl false)
noncomputable def signs(x:Str):List PV:=x.cps.toList.map λc=>.str ⟨#[c]⟩
noncomputable def LX(a:Den):cC:=λρ=>(a ρ).bind λp=>(toS p).bind λx=>if x.cps.all (·<128)then some (signs x)else none
theorem tI(rk:Int->Nat)(x:Int):∀l:List Int,(Fb rk x l).Perm (x::l)
 |[]=>List.Perm.refl _
 |y::l=>by
  unfold Fb
  split
  ·exact List.Perm.refl _
  ·exact((tI rk x l).cons y).trans (List.Perm.swap x y l)
theorem iO(rk:Int->Nat):∀l:List Int,(f6 rk l).Perm l
 |[]=>List.Perm.refl _
 |x::l=>(tI rk x (f6 rk l)).trans ((iO rk l).cons x)
theorem tJ(rk:Int->Nat)(x:Int):∀l:List Int,l.Pairwise (λa b=>rk a<=rk b)->(Fb rk x l).Pairwise (λa b=>rk a<=rk b)
 |[],_=>List.pairwise_singleton _ _
 |y::l,h=>by
  unfold Fb
  obtain⟨h1,h2⟩:=List.pairwise_cons.mp h
  split
  ·rename_i HK
   refine List.pairwise_cons.mpr ⟨λz hz=>?_,h⟩
   rcases List.mem_cons.mp hz with rfl|hz
   ·exact HK
   ·exact Nat.le_trans HK (h1 z hz)
  ·rename_i HK
   refine List.pairwise_cons.mpr ⟨λz hz=>?_,tJ rk x l h2⟩
   rcases List.mem_cons.mp ((tI rk x l).mem_iff.mp hz)with rfl|hz
   ·omega
   ·exact h1 z hz
theorem lL(rk:Int->Nat):∀l:List Int,(f6 rk l).Pairwise (λa b=>rk a<=rk b)
 |[]=>List.Pairwise.nil
 |x::l=>tJ rk x _ (lL rk l)
theorem LY{n m:Int}(h1:qg n=true)(h2:qg m=true)(e:jr n=jr m):n=m:=by
 unfold qg at h1 h2
 simp only[Bool.and_eq_true,decide_eq_true_eq]at h1 h2
 have:=Mt.zN (a:=n.toNat) (b:=m.toNat) (by omega) (by omega) e
 omega
theorem rB:∀{l m:List Int},l.Perm m->l.Pairwise (λa b=>jr a<=jr b)->m.Pairwise (λa b=>jr a<=jr b)->(∀n∈m,qg n=true)->l=m
 |[],[],_,_,_,_=>rfl
 |[],_::_,p,_,_,_=>by have:=p.length_eq;simp at this
 |_::_,[],p,_,_,_=>by have:=p.length_eq;simp at this
 |x::l,y::m,p,h1,h2,ok=>by
  obtain⟨a1,a2⟩:=List.pairwise_cons.mp h1
  obtain⟨b1,b2⟩:=List.pairwise_cons.mp h2
  have hx:x∈y::m:=p.mem_iff.mp (List.mem_cons_self ..)
  have hy:y∈x::l:=p.mem_iff.mpr (List.mem_cons_self ..)
  have e:x=y:=by
   refine LY (ok x hx) (ok y (List.mem_cons_self ..)) (Nat.le_antisymm ?_ ?_)
   ·rcases List.mem_cons.mp hy with e|e
    ·rw[e];exact Nat.le_refl _
    ·exact a1 y e
   ·rcases List.mem_cons.mp hx with e|e
    ·rw[e];exact Nat.le_refl _
    ·exact b1 x e
  subst e
  rw[rB (List.Perm.cons_inv p) a2 b2 λn hn=>ok n (List.mem_cons_of_mem _ hn)]
end L2.D
namespace L2.D
open PySem PySem.Spec PyProof.Rows
open Classical
structure Kl where
 adr:Nat->Addr
 fld:Nat->List Str
noncomputable def SL(K:PySem.W.Frag)(H:Hp)(a:Addr)(xs:List V):Prop:=
 Rd H a (.lst xs)\/∃(its:List Value) (n:Nat),K.lookup a=some {cls:=.type "list",data:=.seq its.toArray n}/\its.length<=sizeLine/\Vals xs its
theorem SL.of{K:PySem.W.Frag}{H:Hp}{a:Addr}{xs:List V}(h:H a=some (.lst xs)):SL K H a xs:=.inl (.inl h)
theorem SL.sq{K:PySem.W.Frag}{H:Hp}{a:Addr}{xs:List V}(h:SL K H a xs):iE K H a xs:=by
 rcases h with h|⟨its,n,h1,h2,h3⟩
 ·exact .inl h
 ·exact .inr ⟨_,its.toArray,n,h1,rfl,rfl,rfl,by simpa using h2,by simpa using h3⟩
theorem _root_.L2.aI.sl{K:PySem.W.Frag}{H H':Hp}{a:Addr}{xs:List V}(e:aI H H')(h:SL K H a xs):SL K H' a xs:=by
 rcases h with(h|⟨o,h⟩)|h
 ·exact .inl (.inl (e _ _ h))
 ·exact .inl (.inr ⟨o,e _ _ h⟩)
 ·exact .inr h
theorem _root_.L2.Inv.sl{X:Cx}{pins:List (Addr×Obj)}{σ:St}{H:Hp}{s:Shared}{a:Addr}{xs:List V}(I:Inv X pins σ H s)(h:SL X.K H a xs):∃(its:List Value) (n:Nat),Vals xs its/\s.heap.get? a=some {cls:=.type "list",data:=.seq its.toArray n}/\xs.length<=sizeLine:=by
 rcases h with h|⟨its,n,h1,h2,h3⟩
 ·obtain⟨z,its,n,r,e⟩:=h.ok I.dZ
  exact⟨its,n,r,e,z⟩
 ·exact⟨its,n,h3,I.oB a _ h1,by rw[h3.length];exact h2⟩
mutual
inductive Rep(K:PySem.W.Frag)(κ:Kl)(H:Hp):V->PV->Prop
 |non:Rep K κ H .non .non
 |bl (b:Bool):Rep K κ H (.bl b) (.bl b)
 |int (i:Int):Rep K κ H (.int i) (.int i)
 |str (x:Str):Rep K κ H (.str x) (.str x)
 |lst {a:Addr} {vs:List V} {l:List PV}:SL K H a vs->aW K κ H vs l->Rep K κ H (.ref a) (.lst l)
 |tup {a:Addr} {vs:List V} {l:List PV}:ll K H a vs->aW K κ H vs l->Rep K κ H (.ref a) (.tup l)
 |ins {a dx:Addr} {c:Nat} {vs:List V} {l:List PV}:H a=some (.ins (κ.adr c) dx ((κ.fld c).zip vs))->vs.length=(κ.fld c).length->aW K κ H vs l->Rep K κ H (.ref a) (.ins c l)
inductive aW(K:PySem.W.Frag)(κ:Kl)(H:Hp):List V->List PV->Prop
 |nil:aW K κ H [] []
 |cons {v:V} {p:PV} {vs:List V} {l:List PV}:Rep K κ H v p->aW K κ H vs l->aW K κ H (v::vs) (p::l)
end
section
variable{K:PySem.W.Frag}{κ:Kl}{H H' H1:Hp}
theorem wb{a:Addr}{xs:List V}(e:aI H H')(h:ll K H a xs):ll K H' a xs:=by
 rcases h with(h|⟨o,h⟩)|h
 ·exact .inl (.inl (e _ _ h))
 ·exact .inl (.inr ⟨o,e _ _ h⟩)
 ·exact .inr h
mutual
theorem Rep.mono(e:aI H H'):∀{v:V} {p:PV},Rep K κ H v p->Rep K κ H' v p
 |_,_,.non=>.non
 |_,_,.bl b=>.bl b
 |_,_,.int i=>.int i
 |_,_,.str x=>.str x
 |_,_,.lst h r=>.lst (e.sl h) (aW.mono e r)
 |_,_,.tup h r=>.tup (wb e h) (aW.mono e r)
 |_,_,.ins h z r=>.ins (e _ _ h) z (aW.mono e r)
theorem aW.mono(e:aI H H'):∀{vs:List V} {l:List PV},aW K κ H vs l->aW K κ H' vs l
 |_,_,.nil=>.nil
 |_,_,.cons r t=>.cons (Rep.mono e r) (aW.mono e t)
end
theorem aW.length:∀{vs:List V} {l:List PV},aW K κ H vs l->vs.length=l.length
 |_,_,.nil=>rfl
 |_,_,.cons _ t=>by rw[List.length_cons,List.length_cons,t.length]
theorem aW.append:∀{vs ws:List V} {l m:List PV},aW K κ H vs l->aW K κ H ws m->aW K κ H (vs++ws) (l++m)
 |_,_,_,_,.nil,s=>s
 |_,_,_,_,.cons r t,s=>.cons r (t.append s)
theorem aW.get:∀{vs:List V} {l:List PV} {i:Nat} {p:PV},aW K κ H vs l->l[i]?=some p->∃v,vs[i]?=some v/\Rep K κ H v p
 |_,_,_,_,.nil,e=>by simp at e
 |_,_,0,_,.cons r _,e=>by simp at e;subst e;exact⟨_,rfl,r⟩
 |_,_,i+1,p,.cons _ t,e=>by
  obtain⟨v,h1,h2⟩:=aW.get (i:=i) (p:=p) t (by simpa using e)
  exact⟨v,by simpa using h1,h2⟩
theorem aW.BP:∀{vs:List V} {l:List PV} {i:Nat} {v:V},aW K κ H vs l->vs[i]?=some v->∃p,l[i]?=some p/\Rep K κ H v p
 |_,_,_,_,.nil,e=>by simp at e
 |_,_,0,_,.cons r _,e=>by simp at e;subst e;exact⟨_,rfl,r⟩
 |_,_,i+1,v,.cons _ t,e=>by
  obtain⟨p,h1,h2⟩:=aW.BP (i:=i) (v:=v) t (by simpa using e)
  exact⟨p,by simpa using h1,h2⟩
theorem aW.take:∀{vs:List V} {l:List PV} (n:Nat),aW K κ H vs l->aW K κ H (vs.take n) (l.take n)
 |_,_,0,_=>.nil
 |_,_,_+1,.nil=>.nil
 |_,_,n+1,.cons r t=>.cons r (t.take n)
theorem aW.drop:∀{vs:List V} {l:List PV} (n:Nat),aW K κ H vs l->aW K κ H (vs.drop n) (l.drop n)
 |_,_,0,r=>r
 |_,_,_+1,.nil=>.nil
 |_,_,n+1,.cons _ t=>t.drop n
theorem Rep.flat{v:V}{p:PV}(f:flat p=true)(r:Rep K κ H v p):Rep K κ H' v p:=by
 cases r with
 |non=>exact .non
 |bl b=>exact .bl b
 |int i=>exact .int i
 |str x=>exact .str x
 |lst _ _=>simp[D.flat]at f
 |tup _ _=>simp[D.flat]at f
 |ins _ _ _=>simp[D.flat]at f
end
noncomputable def hide(A:Addr->Prop)(H:Hp):Hp:=λb=>if A b then none else H b
theorem bQ{A:Addr->Prop}{H:Hp}{b:Addr}(h:¬A b):hide A H b=H b:=if_neg h
theorem cw{A:Addr->Prop}{H:Hp}{b:Addr}{o:HO}(h:hide A H b=some o):¬A b/\H b=some o:=by
 unfold hide at h
 by_cases e:A b
 ·rw[if_pos e]at h
  cases h
 ·rw[if_neg e]at h
  exact⟨e,h⟩
theorem bC{A:Addr->Prop}{H H':Hp}(h:aI H H'):aI (hide A H) (hide A H'):=λb o e=>by
 obtain⟨h1,h2⟩:=cw e
 rw[bQ h1]
 exact h b o h2
theorem cS{A B:Addr->Prop}{H H':Hp}(h:aI H H')(s:∀b,B b->H b≠none->A b):aI (hide A H) (hide B H'):=λb o e=>by
 obtain⟨h1,h2⟩:=cw e
 rw[bQ λz=>h1 (s b z (by rw[h2];simp))]
 exact h b o h2
theorem aE{A:Addr->Prop}{H:Hp}:aI (hide A H) H:=λb o e=>(cw e).2
theorem oS{A:Addr->Prop}{H:Hp}{a:Addr}{o:HO}(h:A a):hide A (upd H a o)=hide A H:=by
 funext b
 unfold hide
 by_cases e:A b
 ·rw[if_pos e,if_pos e]
 ·rw[if_neg e,if_neg e]
  exact aL λz=>e (z▸h)
theorem bK{H:Hp}{a:Addr}{o:HO}(h:H a=none):aI H (upd H a o):=λb u q=>by rw[aL (bR q h)];exact q
noncomputable def HL:Cn->List V->HO
 |.l _,vs=>.lst vs
 |.d d,vs=>.dK (List.zipWith (λ(p:Int×PV) (v:V)=>((Sum.inl p.1:Key),v)) d vs)
noncomputable def PR:Cn->List PV
 |.l l=>l
 |.d d=>d.map (·.2)
noncomputable def xM(own:Nat->Addr)(ρ:cH):Addr->Prop:=λb=>∃i l,ρ[i]?=some (.own l)/\own i=b
noncomputable def cE(A:Addr->Prop)(own:Nat->Addr)(ρ:cH):Addr->Prop:=λb=>A b\/xM own ρ b
noncomputable abbrev di(A:Addr->Prop)(own:Nat->Addr)(ρ:cH)(H:Hp):Hp:=hide (cE A own ρ) H
structure R(K:PySem.W.Frag)(κ:Kl)(G:Hp)(A:Addr->Prop)(bo:Nat->Option (Addr×List V))(own:Nat->Addr)(ρ:cH)(σ:St)(H:Hp):Prop where
 al:∀b,A b->G b≠none
 bg:∀i a vs,bo i=some (a,vs)->G a=some (.lst vs)
 same:aI G H
 sh:∀(i:Nat) p,ρ[i]?=some (.sh p)->∃v,σ[i]?=some (some v)/\Rep K κ (di A own ρ H) v p
 ow:∀(i:Nat) l,ρ[i]?=some (.own l)->σ[i]?=some (some (.ref (own i)))/\G (own i)=none/\∃vs,H (own i)=some (HL l vs)/\aW K κ (di A own ρ H) vs (PR l)
 inj:∀(i j:Nat) l m,ρ[i]?=some (.own l)->ρ[j]?=some (.own m)->own i=own j->i=j
 bw:∀(i:Nat) l,ρ[i]?=some (.bw l)->∃a vs,bo i=some (a,vs)/\σ[i]?=some (some (.ref a))/\aW K κ (di A own ρ H) vs l
 len:σ.length=ρ.length
section
variable{K:PySem.W.Frag}{κ:Kl}{G G' H H' H1:Hp}{A:Addr->Prop}{bo:Nat->Option (Addr×List V)}{own dS:Nat->Addr}{ρ ρ':cH}{σ σ':St}
theorem R.mono(r:R K κ G A bo own ρ σ H)(s:aI H H1):R K κ G A bo own ρ σ H1 where
 al:=r.al
 bg:=r.bg
 same:=r.same.trans s
 sh:=λi p e=>let⟨v,h1,h2⟩:=r.sh i p e;⟨v,h1,h2.mono (bC s)⟩
 ow:=λi l e=>let⟨h1,h2,vs,h3,h4⟩:=r.ow i l e;⟨h1,h2,vs,s _ _ h3,h4.mono (bC s)⟩
 inj:=r.inj
 bw:=λi l e=>let⟨a,vs,h1,h2,h3⟩:=r.bw i l e;⟨a,vs,h1,h2,h3.mono (bC s)⟩
 len:=r.len
theorem R.new(r:R K κ G A bo own ρ σ H){a:Addr}(h:H a=none):¬cE A own ρ a:=by
 rintro(z|⟨i,l,h1,rfl⟩)
 ·cases e:G a with
  |none=>exact r.al a z e
  |some o=>
   rw[r.same _ _ e]at h
   cases h
 ·obtain⟨_,_,vs,h3,_⟩:=r.ow i l h1
  rw[h3]at h
  cases h
theorem R.La(r:R K κ G A bo own ρ σ H){b:Addr}(h:cE A own ρ b):H b≠none:=λz=>r.new z h
noncomputable def K7(own:Nat->Addr)(ρ:cH)(H:Hp):Hp:=hide (xM own ρ) H
theorem oT:hide A (K7 own ρ H)=di A own ρ H:=by
 funext b
 unfold K7 di hide cE
 by_cases h1:A b<;>by_cases h2:xM own ρ b<;>simp[h1,h2]
theorem R.gv(r:R K κ G A bo own ρ σ H):aI G (K7 own ρ H):=λb o e=>by
 unfold K7
 rw[bQ]
 ·exact r.same _ _ e
 ·rintro⟨i,l,h1,rfl⟩
  rw[(r.ow i l h1).2.1]at e
  cases e
theorem R.big(r:R K κ G A bo own ρ σ H):R K κ (K7 own ρ H) A bo own ρ σ H where
 al:=λb h z=>by
  cases e:G b with
  |none=>exact r.al b h e
  |some o=>
   rw[r.gv _ _ e]at z
   cases z
 bg:=λi a vs h=>r.gv _ _ (r.bg i a vs h)
 same:=aE
 sh:=r.sh
 ow:=λi l e=>let⟨h1,h2,h3⟩:=r.ow i l e;⟨h1,by unfold K7 hide;rw[if_pos ⟨i,l,e,rfl⟩],h3⟩
 inj:=r.inj
 bw:=r.bw
 len:=r.len
theorem R.small(r:R K κ G' A bo own ρ σ H)(s:aI G G')(al:∀b,A b->G b≠none)(bg:∀i a vs,bo i=some (a,vs)->G a=some (.lst vs)):R K κ G A bo own ρ σ H where
 al:=al
 bg:=bg
 same:=s.trans r.same
 sh:=r.sh
 ow:=λi l e=>let⟨h1,h2,h3⟩:=r.ow i l e;⟨h1,s.free h2,h3⟩
 inj:=r.inj
 bw:=r.bw
 len:=r.len
theorem R.LZ(r:R K κ G A bo own ρ σ H):aI (hide A G) (di A own ρ H):=λb o e=>by
 obtain⟨h1,h2⟩:=cw e
 rw[di,bQ]
 ·exact r.same _ _ h2
 ·rintro(z|⟨i,l,h3,rfl⟩)
  ·exact h1 z
  ·rw[(r.ow i l h3).2.1]at h2
   cases h2
theorem HN{i:Nat}{p:PV}{b:Addr}(h:xM own (ρ.set i (.sh p)) b):xM own ρ b:=by
 obtain⟨j,l,h1,h2⟩:=h
 rw[List.getElem?_set]at h1
 split at h1
 ·split at h1<;>cases h1
 ·exact⟨j,l,h1,h2⟩
theorem oU{i:Nat}{p:PV}:aI (di A own ρ H) (di A own (ρ.set i (.sh p)) H):=cS (λ_ _ h=>h) λb h _=>by
 rcases h with h|h
 ·exact .inl h
 ·exact .inr (HN h)
theorem R.set(r:R K κ G A bo own ρ σ H){i:Nat}{v:V}{p:PV}(h:Rep K κ (di A own ρ H) v p):R K κ G A bo own (ρ.set i (.sh p)) (σ.set i (some v)) H:=by
 have ne:∀{j:Nat} {x:Slot},(ρ.set i (.sh p))[j]?=some x->x≠.sh p->i≠j/\ρ[j]?=some x:=λ{j x} e nx=>by
  rw[List.getElem?_set]at e
  split at e
  ·split at e
   ·exact absurd (Option.some.inj e).symm nx
   ·cases e
  ·exact⟨by assumption,e⟩
 refine⟨r.al,r.bg,r.same,λj q e=>?_,λj l e=>?_,λj k l m e f=>?_,λj l e=>?_,by rw[List.length_set,List.length_set];exact r.len⟩
 ·by_cases hj:i=j
  ·subst hj
   rw[List.getElem?_set]at e
   rw[if_pos rfl]at e
   split at e
   ·injection e with e
    injection e with e
    subst e
    exact⟨v,by rw[List.getElem?_set,if_pos rfl,if_pos (by rw[r.len];assumption)],h.mono oU⟩
   ·cases e
  ·rw[List.getElem?_set,if_neg hj]at e
   obtain⟨u,h1,h2⟩:=r.sh j q e
   exact⟨u,by rw[List.getElem?_set,if_neg hj];exact h1,h2.mono oU⟩
 ·obtain⟨hj,e⟩:=ne e (by simp)
  obtain⟨h1,h2,vs,h3,h4⟩:=r.ow j l e
  exact⟨by rw[List.getElem?_set,if_neg hj];exact h1,h2,vs,h3,h4.mono oU⟩
 ·exact r.inj j k l m (ne e (by simp)).2 (ne f (by simp)).2
 ·obtain⟨hj,e⟩:=ne e (by simp)
  obtain⟨a,vs,h1,h2,h3⟩:=r.bw j l e
  exact⟨a,vs,h1,by rw[List.getElem?_set,if_neg hj];exact h2,h3.mono oU⟩
theorem R.Tf(r:R K κ G A bo own ρ σ H){i:Nat}{a:Addr}{vs:List V}{l:Cn}(hG:G a=none)(hA:¬A a)(hj:∀(j:Nat) m,ρ[j]?=some (.own m)->j≠i->own j≠a)(s:aI (di A own ρ H) (hide (λb=>cE A own ρ b\/b=a) H1))(hk:∀b o,H b=some o->b≠a->H1 b=some o)
  (h1:H1 a=some (HL l vs))(h2:aW K κ (hide (λb=>cE A own ρ b\/b=a) H1) vs (PR l)):R K κ G A bo (λj=>if j=i then a else own j) (ρ.set i (.own l)) (σ.set i (some (.ref a))) H1:=by
 by_cases hi:i<ρ.length
 rotate_left
 ·rw[List.set_eq_of_length_le (by omega),List.set_eq_of_length_le (by rw[r.len];omega)]
  have oe:∀(j:Nat) x,ρ[j]?=some x->(if j=i then a else own j)=own j:=λj x e=>if_neg λz=>by
   have:=(List.getElem?_eq_some_iff.mp e).1
   omega
  have se:cE A (λj=>if j=i then a else own j) ρ=cE A own ρ:=by
   funext b
   unfold cE xM
   refine propext (or_congr Iff.rfl ⟨?_,?_⟩)
   ·rintro⟨j,m,e,z⟩
    exact⟨j,m,e,by rw[<-oe j _ e];exact z⟩
   ·rintro⟨j,m,e,z⟩
    exact⟨j,m,e,by show(if j=i then a else own j)=b;rw[oe j _ e];exact z⟩
  have sm:aI (di A own ρ H) (di A own ρ H1):=s.trans (cS (λ_ _ h=>h) λb h _=>.inl h)
  refine⟨r.al,r.bg,λb o e=>hk b o (r.same _ _ e) (λz=>by rw[z,hG]at e;cases e),λj q e=>?_,λj m e=>?_,λj k m n e f z=>?_,λj m e=>?_,r.len⟩
  ·obtain⟨u,z1,z2⟩:=r.sh j q e
   exact⟨u,z1,by rw[di,se];exact z2.mono sm⟩
  ·rw[oe j _ e]
   obtain⟨z1,z2,ws,z3,z4⟩:=r.ow j m e
   have Bm:j≠i:=λz=>by
    have:=(List.getElem?_eq_some_iff.mp e).1
    omega
   exact⟨z1,z2,ws,hk _ _ z3 (hj j m e Bm),by rw[di,se];exact z4.mono sm⟩
  ·skip
   rw[oe j _ e,oe k _ f]at z
   exact r.inj j k m n e f z
  ·obtain⟨b,ws,z1,z2,z3⟩:=r.bw j m e
   exact⟨b,ws,z1,z2,by rw[di,se];exact z3.mono sm⟩
 have Tg:∀b,cE A (λj=>if j=i then a else own j) (ρ.set i (.own l)) b->cE A own ρ b\/b=a:=λb h=>by
  rcases h with h|⟨j,m,e,z⟩
  ·exact .inl (.inl h)
  ·by_cases Wx:j=i
   ·subst Wx
    try dsimp only at z
    rw[if_pos rfl]at z
    exact .inr z.symm
   ·dsimp only at z
    rw[if_neg Wx]at z
    rw[List.getElem?_set,if_neg (Ne.symm Wx)]at e
    exact .inl (.inr ⟨j,m,e,z⟩)
 have sm:aI (hide (λb=>cE A own ρ b\/b=a) H1) (di A (λj=>if j=i then a else own j) (ρ.set i (.own l)) H1):=cS (λ_ _ h=>h) λb h _=>Tg b h
 have qf:aI (di A own ρ H) (di A (λj=>if j=i then a else own j) (ρ.set i (.own l)) H1):=s.trans sm
 refine⟨r.al,r.bg,λb o e=>hk b o (r.same _ _ e) (λz=>by rw[z,hG]at e;cases e),λj q e=>?_,λj m e=>?_,λj k m n e f z=>?_,λj m e=>?_,by rw[List.length_set,List.length_set];exact r.len⟩
 ·by_cases vp:i=j
  ·subst vp
   rw[List.getElem?_set,if_pos rfl,if_pos hi]at e
   cases e
  ·rw[List.getElem?_set,if_neg vp]at e
   obtain⟨u,z1,z2⟩:=r.sh j q e
   exact⟨u,by rw[List.getElem?_set,if_neg vp];exact z1,z2.mono qf⟩
 ·by_cases vp:i=j
  ·subst vp
   rw[List.getElem?_set,if_pos rfl,if_pos hi]at e
   injection e with e
   injection e with e
   subst e
   try dsimp only
   rw[if_pos rfl]
   exact⟨by rw[List.getElem?_set,if_pos rfl,if_pos (by rw[r.len];exact hi)],hG,vs,h1,h2.mono sm⟩
  ·rw[List.getElem?_set,if_neg vp]at e
   obtain⟨z1,z2,ws,z3,z4⟩:=r.ow j m e
   try dsimp only
   rw[if_neg (Ne.symm vp)]
   exact⟨by rw[List.getElem?_set,if_neg vp];exact z1,z2,ws,hk _ _ z3 (hj j m e (Ne.symm vp)),z4.mono qf⟩
 ·skip
  by_cases vp:i=j<;>by_cases PU:i=k
  ·rw[<-vp,<-PU]
  ·subst vp
   rw[List.getElem?_set,if_neg PU]at f
   rw[if_pos rfl,if_neg (Ne.symm PU)]at z
   exact absurd z.symm (hj k n f (Ne.symm PU))
  ·subst PU
   rw[List.getElem?_set,if_neg vp]at e
   rw[if_pos rfl,if_neg (Ne.symm vp)]at z
   exact absurd z (hj j m e (Ne.symm vp))
  ·rw[List.getElem?_set,if_neg vp]at e
   rw[List.getElem?_set,if_neg PU]at f
   rw[if_neg (Ne.symm vp),if_neg (Ne.symm PU)]at z
   exact r.inj j k m n e f z
 ·by_cases vp:i=j
  ·subst vp
   rw[List.getElem?_set,if_pos rfl,if_pos hi]at e
   cases e
  ·rw[List.getElem?_set,if_neg vp]at e
   obtain⟨b,ws,z1,z2,z3⟩:=r.bw j m e
   exact⟨b,ws,z1,by rw[List.getElem?_set,if_neg vp];exact z2,z3.mono qf⟩
end
end L2.D
namespace L2.D
open PySem PySem.Spec PyProof.Rows
open Classical
noncomputable def BR(K:PySem.W.Frag)(κ:Kl)(hH H:Hp)(v:V)(p:PV):Prop:=Rep K κ hH v p\/∃a vs l,v=.ref a/\p=.lst l/\SL K H a vs/\aW K κ hH vs l
noncomputable def OR(K:PySem.W.Frag)(κ:Kl)(A:Addr->Prop)(H H':Hp)(v:V)(p:PV):Prop:=∃a vs l,v=.ref a/\p=.lst l/\H a=none/\H' a=some (.lst vs)/\aW K κ (hide (λb=>A b\/b=a) H') vs l
noncomputable def PX(K:PySem.W.Frag)(κ:Kl)(te:TE)(f:Den):Prop:=
 ∀{G A bo own ρ σ H p Q},R K κ G A bo own ρ σ H->f ρ=some p->(∀v H',aI H H'->Rep K κ (di A own ρ H') v p->Q v H')->te σ H Q
noncomputable def HP(K:PySem.W.Frag)(κ:Kl)(te:TE)(f:Den):Prop:=
 ∀{G A bo own ρ σ H p Q},R K κ G A bo own ρ σ H->f ρ=some p->(∀v H',aI H H'->BR K κ (di A own ρ H') H' v p->Q v H')->te σ H Q
noncomputable def X0(K:PySem.W.Frag)(κ:Kl)(te:TE)(f:Den):Prop:=
 ∀{G A bo own ρ σ H p Q},R K κ G A bo own ρ σ H->f ρ=some p->(∀v H',aI H H'->OR K κ (cE A own ρ) H H' v p->Q v H')->te σ H Q
noncomputable def Wy(K:PySem.W.Frag)(κ:Kl)(tt:TT)(f:c9):Prop:=
 ∀{G A bo own ρ σ H b Q},R K κ G A bo own ρ σ H->f ρ=some b->(∀H',aI H H'->Q b H')->tt σ H Q
noncomputable def DE(X:Cx)(κ:Kl)(e:Expr)(f:Den):Prop:=∃te,PE X e te/\PX X.K κ te f
noncomputable def DB(X:Cx)(κ:Kl)(e:Expr)(f:Den):Prop:=∃te,PE X e te/\HP X.K κ te f
noncomputable def DO(X:Cx)(κ:Kl)(e:Expr)(f:Den):Prop:=∃te,PE X e te/\X0 X.K κ te f
noncomputable def DT(X:Cx)(κ:Kl)(e:Expr)(f:c9):Prop:=∃tt,PT X e tt/\Wy X.K κ tt f
noncomputable def DW(X:Cx)(κ:Kl)(e:Expr)(f:c9):Prop:=∃tt,PW X e tt/\Wy X.K κ tt f
section
variable{K:PySem.W.Frag}{κ:Kl}{G hH X1 H H' H1:Hp}{A:Addr->Prop}{bo:Nat->Option (Addr×List V)}{own:Nat->Addr}{ρ:cH}{σ:St}{v:V}{p:PV}
theorem BR.mono(h:BR K κ hH H v p)(s1:aI hH X1)(s2:aI H H'):BR K κ X1 H' v p:=by
 rcases h with h|⟨a,vs,l,h1,h2,h3,h4⟩
 ·exact .inl (h.mono s1)
 ·exact .inr ⟨a,vs,l,h1,h2,s2.sl h3,h4.mono s1⟩
theorem BR.zS(h:BR K κ (hide A H) H v p)(s2:aI H H'):BR K κ (hide A H') H' v p:=h.mono (bC s2) s2
theorem BR.full(h:BR K κ hH H v p)(s:aI hH H):Rep K κ H v p:=by
 rcases h with h|⟨a,vs,l,rfl,rfl,h3,h4⟩
 ·exact h.mono s
 ·exact .lst h3 (h4.mono s)
theorem BR.lst{l:List PV}(h:BR K κ hH H v (.lst l))(s:aI hH H):∃a vs,v=.ref a/\SL K H a vs/\aW K κ hH vs l:=by
 rcases h with h|⟨a,vs,l',h1,h2,h3,h4⟩
 ·cases h with
  |lst h1 h2=>exact⟨_,_,rfl,s.sl h1,h2⟩
 ·cases h2
  exact⟨a,vs,h1,h3,h4⟩
theorem BR.tup{l:List PV}(h:BR K κ hH H v (.tup l))(s:aI hH H):∃a vs,v=.ref a/\ll K H a vs/\aW K κ hH vs l:=by
 rcases h with h|⟨a,vs,l',h1,h2,h3,h4⟩
 ·cases h with
  |tup h1 h2=>exact⟨_,_,rfl,wb s h1,h2⟩
 ·cases h2
theorem BR.int{i:Int}(h:BR K κ hH H v (.int i)):v=.int i:=by
 rcases h with h|⟨a,vs,l',h1,h2,h3,h4⟩
 ·cases h;rfl
 ·cases h2
theorem BR.str{i:Str}(h:BR K κ hH H v (.str i)):v=.str i:=by
 rcases h with h|⟨a,vs,l',h1,h2,h3,h4⟩
 ·cases h;rfl
 ·cases h2
theorem Rep.E8{i:Bool}(h:Rep K κ hH v (.bl i)):v=.bl i:=by cases h;rfl
theorem Rep.GW{i:Int}(h:Rep K κ hH v (.int i)):v=.int i:=by cases h;rfl
theorem R.vq(r:R K κ G A bo own ρ σ H){a:Addr}{vs:List V}{l:List PV}(h:H a=none)(q:aW K κ (di A own ρ H) vs l):OR K κ (cE A own ρ) H (upd H a (.lst vs)) (.ref a) (.lst l):=
 ⟨a,vs,l,rfl,rfl,h,aO,by
   rw[oS (.inr rfl)]
   exact q.mono (cS (λ_ _ z=>z) λb z nz=>by
    rcases z with z|z
    ·exact z
    ·rw[z]at nz
     exact absurd h nz)⟩
theorem OR.rep(r:R K κ G A bo own ρ σ H)(h:OR K κ (cE A own ρ) H H' v p):Rep K κ (di A own ρ H') v p:=by
 obtain⟨a,vs,l,rfl,rfl,h1,h2,h3⟩:=h
 refine .lst (SL.of ?_) (h3.mono (cS (λ_ _ z=>z) λb z _=>.inl z))
 rw[di,bQ (r.new h1)]
 exact h2
theorem R.Th(r:R K κ G A bo own ρ σ H){a:Addr}{vs:List V}{l:List PV}(h:H a=none)(q:aW K κ (di A own ρ H) vs l):Rep K κ (di A own ρ (upd H a (.tup vs))) (.ref a) (.tup l):=by
 refine .tup (ll.of ?_) (q.mono (bC (bK h)))
 rw[di,bQ (r.new h)]
 exact aO
theorem qA{ta tb:TE}{fa fb:Den}{α:Type}{g:PV->PV->Option α}{z:α}{Rr:V->V->Hp->Prop}(ha:HP K κ ta fa)(hb:HP K κ tb fb)(r:R K κ G A bo own ρ σ H)
  (e:((fa ρ).bind λx=>(fb ρ).bind λy=>g x y)=some z)(q:∀x y p q H',aI H H'->R K κ G A bo own ρ σ H'->BR K κ (di A own ρ H') H' x p->BR K κ (di A own ρ H') H' y q->g p q=some z->Rr x y H'):ta σ H λx H1=>tb σ H1 λy H2=>Rr x y H2:=by
 obtain⟨p1,e1,e⟩:=Option.bind_eq_some_iff.mp e
 obtain⟨p2,e2,e⟩:=Option.bind_eq_some_iff.mp e
 refine ha r e1 λx H1 s1 b1=>?_
 refine hb (r.mono s1) e2 λy H2 s2 b2=>?_
 exact q x y p1 p2 H2 (s1.trans s2) (r.mono (s1.trans s2)) (b1.zS s2) b2 e
end
theorem DE.b{X:Cx}{κ:Kl}{ex:Expr}{f:Den}(h:DE X κ ex f):DB X κ ex f:=let⟨te,h1,h2⟩:=h;⟨te,h1,λr e q=>h2 r e λv H' s z=>q v H' s (.inl z)⟩
theorem DO.e{X:Cx}{κ:Kl}{ex:Expr}{f:Den}(h:DO X κ ex f):DE X κ ex f:=let⟨te,h1,h2⟩:=h;⟨te,h1,λr e q=>h2 r e λv H' s z=>q v H' s (z.rep r)⟩
theorem DO.b{X:Cx}{κ:Kl}{ex:Expr}{f:Den}(h:DO X κ ex f):DB X κ ex f:=h.e.b
section
variable{X:Cx}{κ:Kl}{e a b c:Expr}{f fa fb fc:Den}{pos:Pos}
theorem av{i:Int}{j pos}:DE X κ (.Constant (.int i) j pos) (dC (.int i)):=⟨_,Bp,λ{_ _ _ _ _ _ H _ _} r e q=>by cases e;exact q _ H (aI.refl _) (.int i)⟩
theorem zT{i:Bool}{j pos}:DE X κ (.Constant (.bool i) j pos) (dC (.bl i)):=⟨_,Sn,λ{_ _ _ _ _ _ H _ _} r e q=>by cases e;exact q _ H (aI.refl _) (.bl i)⟩
theorem PY{j pos}:DE X κ (.Constant .none j pos) (dC .non):=⟨_,G2,λ{_ _ _ _ _ _ H _ _} r e q=>by cases e;exact q _ H (aI.refl _) .non⟩
theorem ba{i:Str}{j pos}:DE X κ (.Constant (.str i) j pos) (dC (.str i)):=⟨_,OA,λ{_ _ _ _ _ _ H _ _} r e q=>by cases e;exact q _ H (aI.refl _) (.str i)⟩
theorem ae(i:Nat){x:Str}{pos:Pos}(hN:X.N[i]?=some x:=by rfl)(hv:Bh X.env.scope x:=by first|exact Or.inl rfl|exact Or.inr (Or.inl rfl)|exact Or.inr (Or.inr rfl))(hd:(x==("__debug__" :Str))=false:=by decide)
  (rh:(x==("__classdict__" :Str))=false:=by decide):DB X κ (.Name x pos) (dV i):=⟨_,eN hN hv hd rh,λ{G A bo own ρ σ H p Q} r e q=>by
 unfold dV at e
 obtain⟨s,e1,e2⟩:=Option.bind_eq_some_iff.mp e
 cases s with
 |un=>cases e2
 |sh p'=>
  cases e2
  obtain⟨v,h1,h2⟩:=r.sh i _ e1
  exact⟨v,h1,q v H (aI.refl _) (.inl h2)⟩
 |own c=>
  cases c with
  |d _=>cases e2
  |l l=>
  cases e2
  obtain⟨h1,_,vs,h3,h4⟩:=r.ow i _ e1
  exact⟨_,h1,q _ H (aI.refl _) (.inr ⟨_,vs,l,rfl,rfl,SL.of h3,h4⟩)⟩
 |bw l=>
  cases e2
  obtain⟨a,vs,h0,h1,h4⟩:=r.bw i _ e1
  exact⟨_,h1,q _ H (aI.refl _) (.inr ⟨_,vs,l,rfl,rfl,SL.of (r.same _ _ (r.bg _ _ _ h0)),h4⟩)⟩⟩
theorem aq(i:Nat){x:Str}{pos:Pos}(hN:X.N[i]?=some x:=by rfl)(hv:Bh X.env.scope x:=by first|exact Or.inl rfl|exact Or.inr (Or.inl rfl)|exact Or.inr (Or.inr rfl))(hd:(x==("__debug__" :Str))=false:=by decide)
  (rh:(x==("__classdict__" :Str))=false:=by decide):DE X κ (.Name x pos) (aR i):=⟨_,eN hN hv hd rh,λ{G A bo own ρ σ H p Q} r e q=>by
 unfold aR at e
 obtain⟨s,e1,e2⟩:=Option.bind_eq_some_iff.mp e
 cases s with
 |un=>cases e2
 |sh p'=>
  cases e2
  obtain⟨v,h1,h2⟩:=r.sh i _ e1
  exact⟨v,h1,q v H (aI.refl _) h2⟩
 |own l=>cases e2
 |bw l=>cases e2⟩
theorem wc{op:Operator}{C:Int->Int->Prop}{F:Int->Int->Int}{g:PV->PV->Option PV}(ho:js X (binaryOp op) (rI C λi j=>.int (F i j)))(hg:∀p q z,g p q=some z->∃i j,p=.int i/\q=.int j/\C i j/\z=.int (F i j))
  (ha:DB X κ a fa)(hb:DB X κ b fb):DE X κ (.BinOp a op b pos) (ag g fa fb):=by
 obtain⟨ta,h1,h2⟩:=ha
 obtain⟨tb,h3,h4⟩:=hb
 refine⟨_,G6 ho h1 h3,λ{G A bo own ρ σ H p Q} r e q=>?_⟩
 refine qA h2 h4 r e λx y p1 p2 H' s r' b1 b2 e'=>?_
 obtain⟨i,j,rfl,rfl,hC,rfl⟩:=hg _ _ _ e'
 exact⟨i,j,b1.int,b2.int,hC,q _ H' s (.int _)⟩
theorem BQ{op:Operator}{F:Int->Int->Int}{g:PV->PV->Option PV}(ho:js X (binaryOp op) (Bt λi j=>.int (F i j)))(hg:∀p q z,g p q=some z->∃i j,p=.int i/\q=.int j/\z=.int (F i j))
  (ha:DB X κ a fa)(hb:DB X κ b fb):DE X κ (.BinOp a op b pos) (ag g fa fb):=by
 obtain⟨ta,h1,h2⟩:=ha
 obtain⟨tb,h3,h4⟩:=hb
 refine⟨_,G6 ho h1 h3,λ{G A bo own ρ σ H p Q} r e q=>?_⟩
 refine qA h2 h4 r e λx y p1 p2 H' s r' b1 b2 e'=>?_
 obtain⟨i,j,rfl,rfl,rfl⟩:=hg _ _ _ e'
 exact⟨i,j,b1.int,b2.int,q _ H' s (.int _)⟩
theorem tK(ha:DB X κ a fa)(hb:DB X κ b fb):DE X κ (.BinOp a .Sub b pos) (ag jo fa fb):=BQ OV (λp q z h=>by
 (cases p<;>first|(cases h;done)|skip)<;>cases q<;>first|(cases h;exact⟨_,_,rfl,rfl,rfl⟩)|cases h) ha hb
theorem xN(ha:DB X κ a fa)(hb:DB X κ b fb):DE X κ (.BinOp a .BitAnd b pos) (ag xF fa fb):=BQ O1 (λp q z h=>by
 (cases p<;>first|(cases h;done)|skip)<;>cases q<;>first|(cases h;exact⟨_,_,rfl,rfl,rfl⟩)|cases h) ha hb
theorem Ti(ha:DB X κ a fa)(hb:DB X κ b fb):DE X κ (.BinOp a .BitOr b pos) (ag XZ fa fb):=BQ Sz (λp q z h=>by
 (cases p<;>first|(cases h;done)|skip)<;>cases q<;>first|(cases h;exact⟨_,_,rfl,rfl,rfl⟩)|cases h) ha hb
theorem aZ{α:Type}{c:Prop}[Decidable c]{x z:α}(h:(if c then some x else none)=some z):c/\x=z:=by
 split at h
 ·exact⟨by assumption,Option.some.inj h⟩
 ·cases h
theorem nG(ha:DB X κ a fa)(hb:DB X κ b fb):DE X κ (.BinOp a .FloorDiv b pos) (ag oQ fa fb):=wc Ln (λp q z h=>by
 (cases p<;>first|(cases h;done)|skip)<;>cases q<;>first|(cases h;done)|skip
 obtain⟨h1,h2⟩:=aZ h
 simp only[Bool.and_eq_true,decide_eq_true_eq]at h1
 exact⟨_,_,rfl,rfl,h1,h2.symm⟩) ha hb
theorem eW(ha:DB X κ a fa)(hb:DB X κ b fb):DE X κ (.BinOp a .Mod b pos) (ag fW fa fb):=wc OX (λp q z h=>by
 (cases p<;>first|(cases h;done)|skip)<;>cases q<;>first|(cases h;done)|skip
 obtain⟨h1,h2⟩:=aZ h
 simp only[Bool.and_eq_true,decide_eq_true_eq]at h1
 exact⟨_,_,rfl,rfl,h1,h2.symm⟩) ha hb
theorem PZ(ha:DB X κ a fa)(hb:DB X κ b fb):DE X κ (.BinOp a .Pow b pos) (ag LU fa fb):=wc OY (λp q z h=>by
 (cases p<;>first|(cases h;done)|skip)<;>cases q<;>first|(cases h;done)|skip
 obtain⟨h1,h2⟩:=aZ h
 simp only[mY,Bool.and_eq_true,decide_eq_true_eq]at h1
 exact⟨_,_,rfl,rfl,⟨h1.1.1,h1.1.2,h1.2⟩,h2.symm⟩) ha hb
theorem BS(ha:DB X κ a fa)(hb:DB X κ b fb):DE X κ (.BinOp a .LShift b pos) (ag zQ fa fb):=wc OZ (λp q z h=>by
 (cases p<;>first|(cases h;done)|skip)<;>cases q<;>first|(cases h;done)|skip
 obtain⟨h1,h2⟩:=aZ h
 simp only[mY,Bool.and_eq_true,decide_eq_true_eq]at h1
 exact⟨_,_,rfl,rfl,⟨h1.1.1,h1.1.2,h1.2⟩,h2.symm⟩) ha hb
theorem BU(ha:DB X κ a fa)(hb:DB X κ b fb):DE X κ (.BinOp a .RShift b pos) (ag E9 fa fb):=wc O0 (λp q z h=>by
 (cases p<;>first|(cases h;done)|skip)<;>cases q<;>first|(cases h;done)|skip
 obtain⟨h1,h2⟩:=aZ h
 simp only[Bool.and_eq_true,decide_eq_true_eq]at h1
 exact⟨_,_,rfl,rfl,h1,h2.symm⟩) ha hb
theorem BV(ha:DB X κ a fa)(hb:DB X κ b fb):DE X κ (.BinOp a .Mult b pos) (ag BK fa fb):=wc OW (λp q z h=>by
 (cases p<;>first|(cases h;done)|skip)<;>cases q<;>first|(cases h;done)|skip
 obtain⟨h1,h2⟩:=aZ h
 simp only[zP,Bool.or_eq_true,Bool.and_eq_true,decide_eq_true_eq]at h1
 exact⟨_,_,rfl,rfl,h1,h2.symm⟩) ha hb
theorem xO(ha:DB X κ a fa):DE X κ (.UnaryOp .USub a pos) (bb qx fa):=by
 obtain⟨ta,h1,h2⟩:=ha
 refine⟨_,Sx O2 h1,λ{G A bo own ρ σ H p Q} r e q=>?_⟩
 obtain⟨p1,e1,e⟩:=Option.bind_eq_some_iff.mp e
 refine h2 r e1 λx H1 s1 b1=>?_
 cases p1<;>first|(cases e;done)|skip
 cases e
 exact⟨_,b1.int,q _ H1 s1 (.int _)⟩
theorem P0{K:PySem.W.Frag}:js X (binaryOp .Add) (λx y H Q=>∃l b xs zs,x=.ref l/\y=.ref b/\SL X.K H l xs/\SL X.K H b zs/\xs.length+zs.length<=sizeLine/\∀p,H p=none->Q (.ref p) (upd H p (.lst (xs++zs)))):=by
 intro pins s σ H x y v u Q I rx ry h
 obtain⟨l,b,xs,zs,rfl,rfl,hH,hB,hz,q⟩:=h
 cases rx
 cases ry
 obtain⟨its,n,r,ho,z⟩:=I.sl hH
 obtain⟨mU,n2,r2,UZ,z2⟩:=I.sl hB
 have l1:=r.length
 have l2:=r2.length
 refine PySem.P.add_list ho UZ ?_ (by rw[List.size_toArray,List.size_toArray];omega)
 have ea:its.toArray++mU.toArray=(its++mU).toArray:=by simp
 rw[ea]
 exact⟨.ref _,_,I.V6 (t':=s.toks) (r.append r2) (by rw[List.length_append];omega),rfl,q _ I.fresh⟩
theorem cz(ha:DB X κ a fa)(hb:DB X κ b fb):DE X κ (.BinOp a .Add b pos) (ag dA fa fb):=by
 obtain⟨ta,h1,h2⟩:=ha
 obtain⟨tb,h3,h4⟩:=hb
 refine⟨_,G6 (OU.or (Bv.or (P0 (K:=X.K)))) h1 h3,λ{G A bo own ρ σ H p Q} r e q=>?_⟩
 refine qA h2 h4 r e λx y p1 p2 H' s r' b1 b2 e'=>?_
 (cases p1<;>first|(cases e';done)|skip)<;>cases p2<;>first|(cases e';done)|skip
 ·cases e'
  exact .inl ⟨_,_,b1.int,b2.int,q _ H' s (.int _)⟩
 ·obtain⟨h1,rfl⟩:=aZ e'
  exact .inr (.inl ⟨_,_,b1.str,b2.str,h1,q _ H' s (.str _)⟩)
 ·obtain⟨h1,rfl⟩:=aZ e'
  obtain⟨a1,Tj,rfl,q1,w1⟩:=b1.lst aE
  obtain⟨a2,Ze,rfl,q2,w2⟩:=b2.lst aE
  refine .inr (.inr ⟨a1,a2,Tj,Ze,rfl,rfl,q1,q2,by rw[w1.length,w2.length];exact h1,λp hp=>?_⟩)
  exact q _ _ (s.trans (bK hp)) ((r'.vq hp (w1.append w2)).rep r')
noncomputable def DC(X:Cx)(κ:Kl)(op:CmpOp)(a b:Expr)(f:Den):Prop:=∃r ta tb,js X (compareOp op) r/\PE X a ta/\PE X b tb/\PX X.K κ (Sw r ta tb) f
theorem gc{op:CmpOp}(h:DC X κ op a b f)(hm:behindInMarks op b=false:=by first|exact G9 _|with_unfolding_all rfl):DE X κ (.Compare a [op] [b] pos) f:=
 let⟨_,_,_,h1,h2,h3,h4⟩:=h;⟨_,Lp h1 h2 h3 hm,h4⟩
theorem xP{K:PySem.W.Frag}{te:TE}(h:PX K κ te f):Wy K κ (Ha te) (tV f):=λ{G A bo own ρ σ H b Q} r e q=>by
 obtain⟨p,e1,e2⟩:=Option.bind_eq_some_iff.mp e
 refine h r e1 λv H' s z=>?_
 cases p<;>first|(cases e2;done)|skip
 cases e2
 exact⟨_,z.E8,q H' s⟩
theorem bE{op:CmpOp}(h:DC X κ op a b f)(hm:behindInMarks op b=false:=by first|exact G9 _|with_unfolding_all rfl):DT X κ (.Compare a [op] [b] pos) (tV f):=
 let⟨_,_,_,h1,h2,h3,h4⟩:=h;⟨_,Lq h1 h2 h3 hm,xP h4⟩
theorem kn(h:DE X κ e f)(he:∀whole,isTrue e X.env whole=(do let v<-whole;standAt e.pos;holding [v] (truthy v)):=by intro _;rfl):DT X κ e (tV f):=
 let⟨_,h1,h2⟩:=h;⟨_,OB h1 he,xP h2⟩
theorem P1{op:CmpOp}{F:Int->Int->Bool}{g:PV->PV->Option PV}(ho:js X (compareOp op) (Bt λi j=>.bl (F i j)))(hg:∀p q z,g p q=some z->∃i j,p=.int i/\q=.int j/\z=.bl (F i j))
  (ha:DB X κ a fa)(hb:DB X κ b fb):DC X κ op a b (ag g fa fb):=by
 obtain⟨ta,h1,h2⟩:=ha
 obtain⟨tb,h3,h4⟩:=hb
 refine⟨_,_,_,ho,h1,h3,λ{G A bo own ρ σ H p Q} r e q=>?_⟩
 refine qA h2 h4 r e λx y p1 p2 H' s r' b1 b2 e'=>?_
 obtain⟨i,j,rfl,rfl,rfl⟩:=hg _ _ _ e'
 exact⟨i,j,b1.int,b2.int,q _ H' s (.bl _)⟩
theorem rC(ha:DB X κ a fa)(hb:DB X κ b fb):DC X κ .Lt a b (ag qy fa fb):=P1 SF (λp q z h=>by
 (cases p<;>first|(cases h;done)|skip)<;>cases q<;>first|(cases h;exact⟨_,_,rfl,rfl,rfl⟩)|cases h) ha hb
theorem NM(ha:DB X κ a fa)(hb:DB X κ b fb):DC X κ .Gt a b (ag RS fa fb):=P1 SG (λp q z h=>by
 (cases p<;>first|(cases h;done)|skip)<;>cases q<;>first|(cases h;exact⟨_,_,rfl,rfl,rfl⟩)|cases h) ha hb
theorem NN(ha:DB X κ a fa)(hb:DB X κ b fb):DC X κ .GtE a b (ag Tc fa fb):=P1 SH (λp q z h=>by
 (cases p<;>first|(cases h;done)|skip)<;>cases q<;>first|(cases h;exact⟨_,_,rfl,rfl,rfl⟩)|cases h) ha hb
variable{ft fu:c9}{rest:List Expr}
theorem nH(ha:DT X κ a ft):DT X κ (.UnaryOp .Not a pos) (lz ft):=by
 obtain⟨ta,h1,h2⟩:=ha
 refine⟨_,OC h1,λ{G A bo own ρ σ H p Q} r e q=>?_⟩
 obtain⟨c,e1,rfl⟩:=Option.map_eq_some_iff.mp e
 exact h2 r e1 λH' s=>q H' s
theorem tL(ha:DT X κ a ft):DW X κ (.BoolOp .Or [a] pos) ft:=let⟨_,h1,h2⟩:=ha;⟨_,pw_or1 h1,h2⟩
theorem zU(ha:DT X κ a ft)(hb:DW X κ (.BoolOp .Or (b::rest) pos) fu):DW X κ (.BoolOp .Or (a::b::rest) pos) (Bj ft fu):=by
 obtain⟨ta,h1,h2⟩:=ha
 obtain⟨tb,h3,h4⟩:=hb
 refine⟨_,pw_or h1 h3,λ{G A bo own ρ σ H p Q} r e q=>?_⟩
 obtain⟨c,e1,e2⟩:=Option.bind_eq_some_iff.mp e
 refine h2 r e1 λH1 s1=>?_
 cases c with
 |false=>exact h4 (r.mono s1) e2 λH2 s2=>q H2 (s1.trans s2)
 |true=>cases e2;exact q H1 s1
theorem DW.t(h:DW X κ e ft):DT X κ e ft:=let⟨_,h1,h2⟩:=h;⟨_,h1.pt,h2⟩
theorem P2{op}(h:DE X κ a f):DE X κ (.BoolOp op [a] pos) f:=let⟨_,h1,h2⟩:=h;⟨_,OD h1,h2⟩
theorem L3(ha:DE X κ a fa)(hb:DE X κ (.BoolOp .And (b::rest) pos) fb):DE X κ (.BoolOp .And (a::b::rest) pos) (NJ fa fb):=by
 obtain⟨ta,h1,h2⟩:=ha
 obtain⟨tb,h3,h4⟩:=hb
 refine⟨_,OE h1 h3,λ{G A bo own ρ σ H p Q} r e q=>?_⟩
 obtain⟨x,e1,e2⟩:=Option.bind_eq_some_iff.mp e
 obtain⟨c,e3,e4⟩:=Option.bind_eq_some_iff.mp e2
 refine h2 r e1 λv H1 s1 z=>?_
 cases x<;>first|(cases e3;done)|skip
 cases e3
 refine⟨_,z.E8,?_⟩
 cases c with
 |true=>exact h4 (r.mono s1) e4 λv H2 s2 z=>q v H2 (s1.trans s2) z
 |false=>cases e4;exact q _ H1 s1 (.bl _)
theorem L4(ha:DE X κ a fa):DE X κ (.UnaryOp .Not a pos) (NK fa):=by
 obtain⟨ta,h1,h2⟩:=ha
 refine⟨_,OF h1,λ{G A bo own ρ σ H p Q} r e q=>?_⟩
 obtain⟨x,e1,e2⟩:=Option.bind_eq_some_iff.mp e
 obtain⟨c,e3,rfl⟩:=Option.map_eq_some_iff.mp e2
 refine h2 r e1 λv H1 s1 z=>?_
 cases x<;>first|(cases e3;done)|skip
 cases e3
 exact⟨_,z.E8,q _ H1 s1 (.bl _)⟩
noncomputable def DA(X:Cx)(κ:Kl)(es:List Expr)(f:cC):Prop:=∃ta,PA X es ta/\∀{G A bo own ρ σ H ps Q},R X.K κ G A bo own ρ σ H->f ρ=some ps->(∀vs H',aI H H'->aW X.K κ (di A own ρ H') vs ps->Q vs H')->ta σ H Q
inductive P4(K:PySem.W.Frag)(κ:Kl)(hH H:Hp):List V->List PV->Prop
 |nil:P4 K κ hH H [] []
 |cons {v:V} {p:PV} {vs:List V} {l:List PV}:BR K κ hH H v p->P4 K κ hH H vs l->P4 K κ hH H (v::vs) (p::l)
theorem P4.full{K:PySem.W.Frag}{hH H:Hp}(s:aI hH H):∀{vs:List V} {ps:List PV},P4 K κ hH H vs ps->aW K κ H vs ps
 |_,_,.nil=>.nil
 |_,_,.cons r t=>.cons (r.full s) (P4.full s t)
noncomputable def U2(X:Cx)(κ:Kl)(es:List Expr)(f:cC):Prop:=∃ta,PA X es ta/\∀{G A bo own ρ σ H ps Q},R X.K κ G A bo own ρ σ H->f ρ=some ps->(∀vs H',aI H H'->P4 X.K κ (di A own ρ H') H' vs ps->Q vs H')->ta σ H Q
variable{es:List Expr}{fs:cC}
theorem aC:DA X κ [] ay:=⟨_,bJ,λ{G A bo own ρ σ H ps Q} r e q=>by cases e;exact q [] H (aI.refl _) .nil⟩
theorem L5:U2 X κ [] ay:=⟨_,bJ,λ{G A bo own ρ σ H ps Q} r e q=>by cases e;exact q [] H (aI.refl _) .nil⟩
theorem af(ha:DE X κ a fa)(hr:DA X κ es fs)(hs:starEach (a::es) X.env=(false,eval a X.env)::starEach es X.env:=by rfl):DA X κ (a::es) (aa fa fs):=by
 obtain⟨ta,h1,h2⟩:=ha
 obtain⟨tb,h3,h4⟩:=hr
 refine⟨_,aM h1 h3 hs,λ{G A bo own ρ σ H ps Q} r e q=>?_⟩
 obtain⟨x,e1,e2⟩:=Option.bind_eq_some_iff.mp e
 obtain⟨xs,e3,e4⟩:=Option.bind_eq_some_iff.mp e2
 cases e4
 refine h2 r e1 λv H1 s1 z1=>h4 (r.mono s1) e3 λvs H2 s2 z2=>q _ H2 (s1.trans s2) (.cons (z1.mono (bC s2)) z2)
theorem zV(ha:DB X κ a fa)(hr:U2 X κ es fs)(hs:starEach (a::es) X.env=(false,eval a X.env)::starEach es X.env:=by rfl):U2 X κ (a::es) (aa fa fs):=by
 obtain⟨ta,h1,h2⟩:=ha
 obtain⟨tb,h3,h4⟩:=hr
 refine⟨_,aM h1 h3 hs,λ{G A bo own ρ σ H ps Q} r e q=>?_⟩
 obtain⟨x,e1,e2⟩:=Option.bind_eq_some_iff.mp e
 obtain⟨xs,e3,e4⟩:=Option.bind_eq_some_iff.mp e2
 cases e4
 refine h2 r e1 λv H1 s1 z1=>h4 (r.mono s1) e3 λvs H2 s2 z2=>q _ H2 (s1.trans s2) (.cons (z1.zS s2) z2)
theorem jG(h:DA X κ es fs):DO X κ (.List es pos) (lI fs):=by
 obtain⟨ta,h1,h2⟩:=h
 refine⟨_,Hf h1,λ{G A bo own ρ σ H ps Q} r e q=>?_⟩
 obtain⟨x,e1,e2⟩:=Option.bind_eq_some_iff.mp e
 obtain⟨h3,rfl⟩:=aZ e2
 refine h2 r e1 λvs H1 s1 z1=>⟨by rw[z1.length];exact h3,λp hp=>q _ _ (s1.trans (bK hp)) ?_⟩
 obtain⟨a,ws,l,w1,w2,w3,w4⟩:=(r.mono s1).vq hp z1
 refine⟨a,ws,l,w1,w2,?_,w4⟩
 cases w1
 exact s1.free hp
theorem gf{x1}(h:DA X κ es fs):DE X κ (.Tuple es x1 pos) (fV fs):=by
 obtain⟨ta,h1,h2⟩:=h
 refine⟨_,O7 h1,λ{G A bo own ρ σ H ps Q} r e q=>?_⟩
 obtain⟨x,e1,e2⟩:=Option.bind_eq_some_iff.mp e
 obtain⟨h3,rfl⟩:=aZ e2
 exact h2 r e1 λvs H1 s1 z1=>⟨by rw[z1.length];exact h3,λp hp=>q _ _ (s1.trans (bK hp)) ((r.mono s1).Th hp z1)⟩
end
noncomputable def RR(fr:Bool)(K:PySem.W.Frag)(κ:Kl)(A:Addr->Prop)(G H':Hp)(v:V)(p:PV):Prop:=if fr=true then OR K κ A G H' v p else Rep K κ (hide A H') v p
noncomputable def HQ(K:PySem.W.Frag)(κ:Kl)(fr:Bool)(G:Hp)(A:Addr->Prop)(bo:Nat->Option (Addr×List V))(D:Ends):Fl->Prop
 |.nx ρ'=>∀dS σ' H',R K κ G A bo dS ρ' σ' H'->D.nx σ' H'
 |.bk ρ'=>∀dS σ' H',R K κ G A bo dS ρ' σ' H'->D.bk σ' H'
 |.ct ρ'=>∀dS σ' H',R K κ G A bo dS ρ' σ' H'->D.ct σ' H'
 |.rt p=>∀v H',aI G H'->RR fr K κ A G H' v p->D.rt v H'
noncomputable def P5(K:PySem.W.Frag)(κ:Kl)(fr:Bool)(ts:TS)(g:aT):Prop:=
 ∀{G A bo own ρ σ H fl D},R K κ G A bo own ρ σ H->g ρ=some fl->HQ K κ fr G A bo D fl->ts D σ H
noncomputable def DS(X:Cx)(κ:Kl)(fr:Bool)(st:Stmt)(g:aT):Prop:=∃ts,PS X st ts/\P5 X.K κ fr ts g
noncomputable def Lb(X:Cx)(κ:Kl)(fr:Bool)(st:List Stmt)(g:aT):Prop:=∃ts,Bi X st ts/\P5 X.K κ fr ts g
theorem U3{K:PySem.W.Frag}{κ:Kl}{G H H':Hp}{A B:Addr->Prop}{v:V}{p:PV}(h:OR K κ B H H' v p)(s:aI G H)(Zf:∀b,A b->B b):OR K κ A G H' v p:=by
 obtain⟨a,vs,l,h1,h2,h3,h4,h5⟩:=h
 exact⟨a,vs,l,h1,h2,s.free h3,h4,h5.mono (cS (λ_ _ z=>z) λb z _=>z.imp (Zf b) id)⟩
section
variable{X:Cx}{κ:Kl}{fr:Bool}{st:Stmt}{rest:List Stmt}{g g':aT}{e a b c:Expr}{f:Den}{ft:c9}{pos:Pos}
theorem bH:Lb X κ fr [] bA:=⟨_,Dg,λ{G A bo own ρ σ H fl D} r e k=>by cases e;exact k own σ H r⟩
theorem L6{K:PySem.W.Frag}{t u:TS}(h1:P5 K κ fr t g)(h2:P5 K κ fr u g'):P5 K κ fr (OH t u) (aN g g'):=λ{G A bo own ρ σ H fl D} r e k=>by
 obtain⟨f1,e1,e2⟩:=Option.bind_eq_some_iff.mp e
 refine h1 r e1 ?_
 cases f1 with
 |nx ρ'=>exact λdS σ' H' r'=>h2 r' e2 k
 |rt p=>cases e2;exact k
 |bk ρ'=>cases e2;exact k
 |ct ρ'=>cases e2;exact k
theorem aj(h1:DS X κ fr st g)(h2:Lb X κ fr rest g'):Lb X κ fr (st::rest) (aN g g'):=
 let⟨_,a1,a2⟩:=h1;let⟨_,b1,b2⟩:=h2;⟨_,hV a1 b1,L6 a2 b2⟩
theorem au(h1:DS X κ fr st g):Lb X κ fr [st] g:=let⟨_,a1,a2⟩:=h1;⟨_,iF a1,a2⟩
theorem HR:DS X κ fr (.Break pos) tG:=⟨_,G4,λ{G A bo own ρ σ H fl D} r e k=>by cases e;exact k own σ H r⟩
theorem bt(h:DE X κ e f):DS X κ false (.Return (some e) pos) (a8 f):=by
 obtain⟨te,h1,h2⟩:=h
 refine⟨_,lE h1,λ{G A bo own ρ σ H fl D} r e k=>?_⟩
 obtain⟨p,e1,rfl⟩:=Option.map_eq_some_iff.mp e
 refine h2 r e1 λv H' s z=>k v H' (r.same.trans s) ?_
 exact z.mono (cS (λ_ _ q=>q) λb q _=>.inl q)
theorem mL(h:DO X κ e f):DS X κ true (.Return (some e) pos) (a8 f):=by
 obtain⟨te,h1,h2⟩:=h
 refine⟨_,lE h1,λ{G A bo own ρ σ H fl D} r e k=>?_⟩
 obtain⟨p,e1,rfl⟩:=Option.map_eq_some_iff.mp e
 refine h2 r e1 λv H' s z=>k v H' (r.same.trans s) ?_
 exact U3 z r.same λb q=>.inl q
theorem iP{ρ:cH}{i:Nat}{l:List PV}(h:vo ρ i=some l):ρ[i]?=some (.ow l):=by
 unfold vo at h
 split at h
 ·rename_i l' e
  cases h
  exact e
 ·cases h
theorem DL(i:Nat){x:Str}{p':Pos}(hN:X.N[i]?=some x:=by rfl)(hv:Bh X.env.scope x:=by first|exact Or.inl rfl|exact Or.inr (Or.inl rfl)|exact Or.inr (Or.inr rfl))(hd:(x==("__debug__" :Str))=false:=by decide)
  (rh:(x==("__classdict__" :Str))=false:=by decide):DS X κ true (.Return (some (.Name x p')) pos) (DJ i):=by
 refine⟨_,lE (eN hN hv hd rh),λ{G A bo own ρ σ H fl D} r e k=>?_⟩
 obtain⟨l,e1,rfl⟩:=Option.map_eq_some_iff.mp e
 obtain⟨h1,h3,vs,h4,h5⟩:=r.ow i (.l l) (iP e1)
 change H (own i)=some (.lst vs)at h4
 change aW _ _ _ vs l at h5
 refine⟨_,h1,k _ H r.same ?_⟩
 exact⟨own i,vs,l,rfl,rfl,h3,h4,h5.mono (cS (λ_ _ z=>z) λb z _=>by
  rcases z with z|z
  ·exact .inl z
  ·exact .inr ⟨i,.l l,iP e1,z.symm⟩)⟩
theorem cN{sa sb:List Stmt}(hc:DT X κ c ft)(ha:Lb X κ fr sa g)(hb:Lb X κ fr sb g'):DS X κ fr (.If c sa sb pos) (fQ ft g g'):=by
 obtain⟨tc,h5,h6⟩:=hc
 obtain⟨ta,h1,h2⟩:=ha
 obtain⟨tb,h3,h4⟩:=hb
 refine⟨_,Nn h5 h1 h3,λ{G A bo own ρ σ H fl D} r e k=>?_⟩
 obtain⟨c,e1,e2⟩:=Option.bind_eq_some_iff.mp e
 refine h6 r e1 λH1 s1=>?_
 cases c with
 |true=>exact h2 (r.mono s1) e2 k
 |false=>exact h4 (r.mono s1) e2 k
theorem bu(i:Nat){x:Str}{p':Pos}(hN:X.N.Nodup)(h:DE X κ e f)(hi:X.N[i]?=some x:=by rfl)(hx:Loc X.env.scope x:=by first|exact Or.inl rfl|exact Or.inr rfl)(hs:swapsWith e (some (.Name x p')) pos.line X.env=pure false:=by rfl)
  (hf:X.fn x=true\/X.env.scope.names.lookup x=some .local:=by first|exact .inl rfl|exact .inr rfl):DS X κ fr (.Assign [.Name x p'] e pos) (bP i f):=by
 obtain⟨te,h1,h2⟩:=h
 refine⟨_,nv hN hi hx h1 hs hf,λ{G A bo own ρ σ H fl D} r e k=>?_⟩
 obtain⟨p,e1,rfl⟩:=Option.map_eq_some_iff.mp e
 exact h2 r e1 λv H' s z=>k _ _ _ ((r.mono s).set z)
theorem R.Tn{K:PySem.W.Frag}{G H H':Hp}{A:Addr->Prop}{bo:Nat->Option (Addr×List V)}{own:Nat->Addr}{ρ:cH}{σ:St}(r:R K κ G A bo own ρ σ H)(s:aI H H'){i:Nat}{v:V}{l:List PV}(z:OR K κ (cE A own ρ) H H' v (.lst l)):
  ∃dS,R K κ G A bo dS (ρ.set i (.ow l)) (σ.set i (some v)) H':=by
 obtain⟨a,vs,l',rfl,z2,h3,h4,h5⟩:=z
 cases z2
 refine⟨_,r.Tf (r.same.free h3) (λq=>r.new h3 (.inl q)) (λj m e _ q=>r.new h3 (.inr ⟨j,m,e,q⟩)) ?_ (λb o q _=>s b o q) h4 h5⟩
 exact cS s λb w nz=>by
  rcases w with w|w
  ·exact w
  ·rw[w]at nz
   exact absurd h3 nz
theorem mM(i:Nat){x:Str}{p':Pos}(hN:X.N.Nodup)(h:DO X κ e f)(hi:X.N[i]?=some x:=by rfl)(hx:Loc X.env.scope x:=by first|exact Or.inl rfl|exact Or.inr rfl)(hs:swapsWith e (some (.Name x p')) pos.line X.env=pure false:=by rfl)
  (hf:X.fn x=true\/X.env.scope.names.lookup x=some .local:=by first|exact .inl rfl|exact .inr rfl):DS X κ fr (.Assign [.Name x p'] e pos) (k9 i f):=by
 obtain⟨te,h1,h2⟩:=h
 refine⟨_,nv hN hi hx h1 hs hf,λ{G A bo own ρ σ H fl D} r e k=>?_⟩
 obtain⟨p,e1,e2⟩:=Option.bind_eq_some_iff.mp e
 obtain⟨l,e3,rfl⟩:=Option.map_eq_some_iff.mp e2
 refine h2 r e1 λv H' s z=>?_
 cases p<;>first|(cases e3;done)|skip
 cases e3
 obtain⟨dS,r'⟩:=r.Tn s (i:=i) z
 exact k _ _ _ r'
theorem R.Wz{K:PySem.W.Frag}{G H:Hp}{A:Addr->Prop}{bo:Nat->Option (Addr×List V)}{own:Nat->Addr}{ρ:cH}{σ:St}(r:R K κ G A bo own ρ σ H){i:Nat}{l l':Cn}{ws:List V}(h:ρ[i]?=some (.own l))(q:aW K κ (di A own ρ H) ws (PR l')):
  ∃dS,R K κ G A bo dS (ρ.set i (.own l')) σ (upd H (own i) (HL l' ws)):=by
 obtain⟨h1,h3,vs,h4,h5⟩:=r.ow i l h
 have e:σ.set i (some (.ref (own i)))=σ:=by
  obtain⟨hl,hx⟩:=List.getElem?_eq_some_iff.mp h1
  rw[<-hx]
  exact List.set_getElem_self hl
 have hs:cE A own ρ (own i):=.inr ⟨i,l,h,rfl⟩
 have he:hide (λb=>cE A own ρ b\/b=own i) (upd H (own i) (HL l' ws))=di A own ρ H:=by
  rw[oS (.inr rfl)]
  congr 1
  funext b
  refine propext ⟨λz=>?_,.inl⟩
  rcases z with z|z
  ·exact z
  ·rw[z]
   exact hs
 have:=r.Tf (i:=i) (a:=own i) (vs:=ws) (l:=l') (H1:=upd H (own i) (HL l' ws)) h3 (λz=>r.al _ z h3) (λj m e' hj z=>hj (r.inj j i _ _ e' h z)) (by rw[he];exact λ_ _ z=>z) (λb o z hb=>by rw[aL hb];exact z) aO (by rw[he];exact q)
 rw[e]at this
 exact⟨_,this⟩
noncomputable def To(K:PySem.W.Frag)(κ:Kl)(rm:V->List V->Hp->VK->Prop)(gm:List PV->List PV->Option (List PV)):Prop:=
 ∀{hH H:Hp} {a:Addr} {vs ws:List V} {l xs l':List PV} {Q:VK},aI hH H->H a=some (.lst vs)->aW K κ hH vs l->aW K κ hH ws xs->gm l xs=some l'->(∀us,aW K κ hH us l'->Q .non (upd H a (.lst us)))->rm (.ref a) ws H Q
theorem R.mut{K:PySem.W.Frag}{G H:Hp}{A:Addr->Prop}{bo:Nat->Option (Addr×List V)}{own:Nat->Addr}{ρ:cH}{σ:St}(r:R K κ G A bo own ρ σ H){i:Nat}{l l':List PV}{ws:List V}(h:ρ[i]?=some (.ow l))(q:aW K κ (di A own ρ H) ws l'):
 ∃dS,R K κ G A bo dS (ρ.set i (.ow l')) σ (upd H (own i) (.lst ws)):=r.Wz (l:=.l l) (l':=.l l') h q
theorem L7{K:PySem.W.Frag}{rm:V->List V->Hp->VK->Prop}{gm:List PV->List PV->Option (List PV)}{fs:cC}{ta:TA}(i:Nat)(hg:To K κ rm gm)
  (ha:∀{G A bo own ρ σ H ps Q},R K κ G A bo own ρ σ H->fs ρ=some ps->(∀vs H',aI H H'->aW K κ (di A own ρ H') vs ps->Q vs H')->ta σ H Q):P5 K κ fr (Dh (XG K "list" rm (nu i) ta)) (oR i gm fs):=λ{G A bo own ρ σ H fl D} r e k=>by
 obtain⟨xs,e1,e2⟩:=Option.bind_eq_some_iff.mp e
 obtain⟨l,e3,e4⟩:=Option.bind_eq_some_iff.mp e2
 obtain⟨l',e5,rfl⟩:=Option.map_eq_some_iff.mp e4
 have LP:=iP e3
 obtain⟨h1,h3,vs,h4,h5⟩:=r.ow i (.l l) LP
 change H (own i)=some (.lst vs)at h4
 change aW _ _ _ vs l at h5
 refine⟨_,h1,.inl ⟨rfl,vs,iE.of h4⟩,ha r e1 λws H2 s2 z2=>?_⟩
 refine hg aE (s2 _ _ h4) (h5.mono (bC s2)) z2 e5 λus z=>?_
 obtain⟨dS,r'⟩:=(r.mono s2).mut LP z
 exact k _ _ _ r'
theorem gE{x:Str}{p' apos dw:Pos}{ee:Expr}{fs:cC}(i:Nat)(ha:DA X κ [ee] fs)(hN:X.N[i]?=some x:=by rfl)(hv:Bh X.env.scope x:=by first|exact Or.inl rfl|exact Or.inr (Or.inl rfl)|exact Or.inr (Or.inr rfl))(hd:(x==("__debug__" :Str))=false:=by decide)
  (rh:(x==("__classdict__" :Str))=false:=by decide)(fT:attributeBase (.Name x p') "append" X.env (eval (.Name x p') X.env)=eval (.Name x p') X.env:=by rfl)
  (nB:((backTo dw (starEach [ee] X.env)).all (λx=>!x.1)&&(backToKw dw (keywordEach [] X.env)).all (λx=>x.1.isSome)
    &&decide ([ee].length+([]:List Keyword).length+(if([]:List Keyword).isEmpty then 0 else 1)<30))=true:=by rfl)
  (hs:swapsWith (.Call (.Attribute (.Name x p') "append" apos) [ee] [] dw) none pos.line X.env=pure false:=by rfl)(fU:(apos.endLine==dw.line)=true:=by rfl)(ri:starEach [ee] X.env=(false,eval ee X.env)::starEach [] X.env:=by rfl):
  DS X κ fr (.Expr (.Call (.Attribute (.Name x p') "append" apos) [ee] [] dw) pos) (oR i dB fs):=by
 obtain⟨ta,h1,h2⟩:=ha
 refine⟨_,ke (zu PySem.F.plainAttrs_list PySem.F.slot_list_append PySem.F.type_list_append vT (eN hN hv hd rh) h1 fT nB fU ri rfl) hs,L7 i ?_ h2⟩
 intro hH H a vs ws l xs l' Q s h3 h4 h5 h6 q
 unfold dB at h6
 split at h6
 ·obtain⟨h7,rfl⟩:=aZ h6
  cases h5 with
  |cons z t=>
   cases t
   exact⟨a,vs,_,rfl,rfl,h3,by rw[h4.length];exact h7,q _ (h4.append (.cons z .nil))⟩
 ·cases h6
end
noncomputable def vt(K:PySem.W.Frag)(κ:Kl)(Gs:Hp)(A:Addr->Prop)(J:It)(ps:List PV):Prop:=
 ∀(i:Nat) (H2:Hp),aI Gs H2->(∀p,ps[i]?=some p->J.go i H2/\∀x H3,J.yld i H2 x H3->aI H2 H3/\∀B:Addr->Prop,(∀b,B b->H2 b≠none)->aI (hide A Gs) (hide B H2)->Rep K κ (hide B H3) x p)/\(ps.length<=i->J.stop i H2)
noncomputable def DI(X:Cx)(κ:Kl)(tg iter:Expr)(f:cC):Prop:=∃wi,PI X tg iter wi/\∀{G A bo own ρ σ H ps Q},R X.K κ G A bo own ρ σ H->f ρ=some ps->(∀J H',aI H H'->vt X.K κ (K7 own ρ H') A J ps->Q J H')->wi σ H Q
noncomputable def RW(X:Cx)(κ:Kl)(tg iter:Expr)(f:cC):Prop:=∃wi,PI X tg iter wi/\∀{G A bo own ρ σ H ps Q},R X.K κ G A bo own ρ σ H->f ρ=some ps->(∀J H',aI H H'->vt X.K κ H' (cE A own ρ) J ps->Q J H')->wi σ H Q
noncomputable def DG(X:Cx)(κ:Kl)(tg:Expr)(g:GX):Prop:=∃tt,PG X tg tt/\∀{G A bo own ρ σ H p v ρ' Q},R X.K κ G A bo own ρ σ H->Rep X.K κ (di A own ρ H) v p->g p ρ=some ρ'->(∀dS σ',R X.K κ G A bo dS ρ' σ' H->aI (di A own ρ H) (di A dS ρ' H)->Q σ' H)->tt v σ H Q
section
variable{K:PySem.W.Frag}{κ:Kl}{Gs:Hp}{A:Addr->Prop}{a:Addr}{vs:List V}{l:List PV}
theorem wd(h:SL K Gs a vs)(q:aW K κ (hide A Gs) vs l):vt K κ Gs A (VL K a) l:=λi H2 s=>by
 have h2:iE K H2 a vs:=(s.sl h).sq
 refine⟨λp e=>?_,λhl=>⟨vs,h2,by rw[q.length];exact hl⟩⟩
 obtain⟨v,e1,r1⟩:=q.get e
 refine⟨⟨vs,v,h2,e1⟩,λx H3 ⟨y1,y2⟩=>?_⟩
 subst y1
 have:=y2 vs h2
 rw[e1]at this
 cases this
 exact⟨aI.refl _,λB _ sb=>r1.mono sb⟩
theorem HS(h:ll K Gs a vs)(q:aW K κ (hide A Gs) vs l):vt K κ Gs A (VM K a) l:=λi H2 s=>by
 have h2:ll K H2 a vs:=wb s h
 refine⟨λp e=>?_,λhl=>⟨vs,h2,by rw[q.length];exact hl⟩⟩
 obtain⟨v,e1,r1⟩:=q.get e
 refine⟨⟨vs,v,h2,e1⟩,λx H3 ⟨y1,y2⟩=>?_⟩
 subst y1
 have:=y2 vs h2
 rw[e1]at this
 cases this
 exact⟨aI.refl _,λB _ sb=>r1.mono sb⟩
theorem BW{lo:Int}{n i:Nat}{p:PV}(h:(iq lo n)[i]?=some p):i<n/\p=.int (lo+(i:Nat)):=by
 unfold iq at h
 rw[List.getElem?_map]at h
 obtain⟨k,h1,rfl⟩:=Option.map_eq_some_iff.mp h
 obtain⟨h2,h3⟩:=List.getElem?_eq_some_iff.mp h1
 rw[List.getElem_range]at h3
 subst h3
 exact⟨by simpa using h2,rfl⟩
theorem tM{lo:Int}{n:Nat}:vt K κ Gs A (Su lo n) (iq lo n):=λi H2 s=>by
 refine⟨λp e=>?_,λhl=>show n<=i by simpa[iq]using hl⟩
 obtain⟨h1,rfl⟩:=BW e
 refine⟨h1,λx H3 ⟨y1,y2⟩=>?_⟩
 subst y1 y2
 exact⟨aI.refl _,λB _ _=>.int _⟩
end
section
variable{X:Cx}{κ:Kl}{fr:Bool}{g:aT}{e a b c tg iter:Expr}{f fa fb:Den}{ft:c9}{pos:Pos}{fi:cC}{gt gu:GX}{body:List Stmt}
theorem xQ{A:Addr->Prop}{own:Nat->Addr}{ρ:cH}{H:Hp}:aI (di A own ρ H) (K7 own ρ H):=by
 rw[<-oT]
 exact aE
theorem oV(h:DE X κ e f):DI X κ tg e (nList f):=by
 obtain⟨te,h1,h2⟩:=h
 refine⟨_,Dj h1,λ{G A bo own ρ σ H ps Q} r e q=>?_⟩
 obtain⟨p,e1,e2⟩:=Option.bind_eq_some_iff.mp e
 refine h2 r e1 λv H' s z=>?_
 cases p<;>first|(cases e2;done)|skip
 cases e2
 cases z with
 |lst q1 q2=>exact⟨_,rfl,⟨_,((aE (A:=cE A own ρ)).sl q1).sq⟩,q _ H' s (wd (xQ.sl q1) (by rw[oT];exact q2))⟩
theorem lM(h:DB X κ e f):RW X κ tg e (nList f):=by
 obtain⟨te,h1,h2⟩:=h
 refine⟨_,Dj h1,λ{G A bo own ρ σ H ps Q} r e q=>?_⟩
 obtain⟨p,e1,e2⟩:=Option.bind_eq_some_iff.mp e
 refine h2 r e1 λv H' s z=>?_
 cases p<;>first|(cases e2;done)|skip
 cases e2
 obtain⟨a,vs,rfl,q1,q2⟩:=z.lst aE
 exact⟨_,rfl,⟨_,q1.sq⟩,q _ H' s (wd q1 q2)⟩
theorem xR(h:DB X κ e f):RW X κ tg e (xJ f):=by
 obtain⟨te,h1,h2⟩:=h
 refine⟨_,OO h1,λ{G A bo own ρ σ H ps Q} r e q=>?_⟩
 obtain⟨p,e1,e2⟩:=Option.bind_eq_some_iff.mp e
 refine h2 r e1 λv H' s z=>?_
 cases p<;>first|(cases e2;done)|skip
 cases e2
 obtain⟨a,vs,rfl,q1,q2⟩:=z.tup aE
 exact⟨_,rfl,⟨_,q1⟩,q _ H' s (HS q1 q2)⟩
theorem Tp{K:PySem.W.Frag}{te:TE}(h2:HP K κ te f){G A bo own ρ σ H ps}{Q:It->Hp->Prop}(r:R K κ G A bo own ρ σ H)(e:iB f ρ=some ps)(q:∀n H',aI H H'->ps=iq 0 n->Q (Su 0 n) H'):Nq (k7 te xk) σ H Q:=by
 obtain⟨p,e1,e2⟩:=Option.bind_eq_some_iff.mp e
 obtain⟨j,e3,e4⟩:=Option.bind_eq_some_iff.mp e2
 obtain⟨h3,h4⟩:=aZ e4
 simp only[wa,Bool.and_eq_true,decide_eq_true_eq]at h3
 refine h2 r e1 λv H' s z=>?_
 cases p<;>first|(cases e3;done)|skip
 cases e3
 exact⟨_,by rw[z.int],h3.1,h3.2,q _ H' s h4.symm⟩
theorem xS{p pos:Pos}(h:DB X κ a f)(hm:X.mg "range" =none)(hg:Gl X "range" :=by rfl)(hs:starEach [a] X.env=[(false,eval a X.env)]:=by rfl):DI X κ tg (.Call (.Name "range" p) [a] [] pos) (iB f):=by
 obtain⟨te,h1,h2⟩:=h
 exact⟨_,vM hg hm (aM h1 bJ hs) hs,λ{G A bo own ρ σ H ps Q} r e q=>Tp h2 r e λn H' s e'=>q _ H' s (by rw[e'];exact tM)⟩
theorem zW{p pos:Pos}(h:DB X κ a f)(hm:X.mg "range" =none)(hg:Gl X "range" :=by rfl)(hs:starEach [a] X.env=[(false,eval a X.env)]:=by rfl):RW X κ tg (.Call (.Name "range" p) [a] [] pos) (iB f):=by
 obtain⟨te,h1,h2⟩:=h
 exact⟨_,vM hg hm (aM h1 bJ hs) hs,λ{G A bo own ρ σ H ps Q} r e q=>Tp h2 r e λn H' s e'=>q _ H' s (by rw[e'];exact tM)⟩
theorem eT(i:Nat){x:Str}(hN:X.N.Nodup)(hi:X.N[i]?=some x:=by rfl)(hx:Loc X.env.scope x:=by first|exact Or.inl rfl|exact Or.inr rfl)(hf:X.fn x=true\/X.env.scope.names.lookup x=some .local:=by first|exact .inl rfl|exact .inr rfl):DG X κ (.Name x pos) (bh i):=
 ⟨_,Lk hN hi hx hf,λ{G A bo own ρ σ H p v ρ' Q} r z e q=>by cases e;exact q _ _ (r.set z) oU⟩
theorem DM{k:Nat}(ha:DG X κ a gt)(hb:DG X κ b gu)(hc:X.calm=true:=by rfl)(hs:(assignEach [a,b] X.env).map (·.2)=assign a X.env::(assignEach [b] X.env).map (·.2):=by rfl)(qe:(assignEach [b] X.env).map (·.2)=assign b X.env::(assignEach [] X.env).map (·.2):=by rfl)
  (hn:(assignEach [a,b] X.env).length=2:=by rfl)(ri:(assignEach [a,b] X.env).findIdx? (·.1)=none:=by rfl):DG X κ (.Tuple [a,b] k pos) (ir gt gu):=by
 obtain⟨ta,h1,h2⟩:=ha
 obtain⟨tb,h3,h4⟩:=hb
 refine⟨_,OL hc (zm h1 (zm h3 Ll qe) hs) hn ri,λ{G A bo own ρ σ H p v ρ' Q} r z e q=>?_⟩
 unfold ir at e
 split at e
 ·rename_i x y
  obtain⟨ρ1,e1,e2⟩:=Option.bind_eq_some_iff.mp e
  cases z with
  |tup q1 q2=>
   cases q2 with
   |cons r1 q2=>
    cases q2 with
    |cons r2 q2=>
     cases q2
     refine⟨_,_,rfl,wb (aE (A:=cE A own ρ)) q1,rfl,_,_,rfl,h2 r r1 e1 λdS σ' r' s'=>?_⟩
     exact⟨_,_,rfl,h4 r' (r2.mono s') e2 λxT σ2 r3 s3=>⟨rfl,q xT σ2 r3 (s'.trans s3)⟩⟩
 ·cases e
end
section
variable{K:PySem.W.Frag}{κ:Kl}{fr:Bool}{gb:aT}{ft:c9}{gt:GX}{fi:cC}
theorem Ff{g:GX}{body:aT}{x:PV}{xs:List PV}{ρ:cH}{fl:Fl}(h:forL g body (x::xs) ρ=some fl):∃ρ1 f,g x ρ=some ρ1/\body ρ1=some f/\(match f with
  |.nx ρ'=>forL g body xs ρ'
  |.ct ρ'=>forL g body xs ρ'
  |.bk ρ'=>some (.nx ρ')
  |.rt p=>some (.rt p))=some fl:=by
 unfold forL at h
 obtain⟨ρ1,e1,e2⟩:=Option.bind_eq_some_iff.mp h
 obtain⟨f,e3,e4⟩:=Option.bind_eq_some_iff.mp e2
 exact⟨ρ1,f,e1,e3,e4⟩
theorem Fg{J:It}{ps:List PV}{G:Hp}{A:Addr->Prop}{bo:Nat->Option (Addr×List V)}{tg:TG}{tb:TS}{D:Ends}{own:Nat->Addr}{ρ:cH}{σ:St}{H:Hp}{fl:Fl}
  (hI:vt K κ G A J ps)(hg:∀{own ρ σ H p v ρ' Q},R K κ G A bo own ρ σ H->Rep K κ (di A own ρ H) v p->gt p ρ=some ρ'->(∀dS σ',R K κ G A bo dS ρ' σ' H->aI (di A own ρ H) (di A dS ρ' H)->Q σ' H)->tg v σ H Q)
  (hb:P5 K κ fr tb gb)(r:R K κ G A bo own ρ σ H)(e:forL gt gb ps ρ=some fl)(k:HQ K κ fr G A bo D fl):
  ∃W:Nat->Nat->St->Hp->Prop,(∃m,W 0 m σ H)/\∀i m σ H,W i m σ H->
   (J.stop i H/\D.nx σ H)\/(J.go i H/\∃N:St->Hp->Prop,(∀σ' H',N σ' H'->∃m',m'<m/\W (i+1) m' σ' H')/\∀x H',J.yld i H x H'->tg x σ H' λσ2 H2=>tb {D with nx:=N,ct:=N,bk:=D.nx} σ2 H2):=by
 refine⟨λi m σ H=>m=ps.length-i/\i<=ps.length/\∃own ρ,R K κ G A bo own ρ σ H/\forL gt gb (ps.drop i) ρ=some fl,⟨ps.length,by simp,Nat.zero_le _,own,ρ,r,by simpa using e⟩,?_⟩
 rintro i m σ H ⟨rfl,hi,own,ρ,r,e⟩
 obtain⟨h1,h2⟩:=hI i H r.same
 by_cases jW:i<ps.length
 ·rw[List.drop_eq_getElem_cons jW]at e
  obtain⟨ρ1,f,e1,e3,e4⟩:=Ff e
  obtain⟨h3,h4⟩:=h1 ps[i] (List.getElem?_eq_getElem jW)
  refine .inr ⟨h3,λσ' H'=>i+1<=ps.length/\∃own ρ,R K κ G A bo own ρ σ' H'/\forL gt gb (ps.drop (i+1)) ρ=some fl,λσ' H' ⟨q0,q⟩=>⟨ps.length-(i+1),by omega,rfl,q0,q⟩,λx H' y=>?_⟩
  obtain⟨s,q⟩:=h4 x H' y
  have r1:=r.mono s
  refine hg r1 (q (cE A own ρ) (λb hb=>r.La hb) r.LZ) e1 λdS σ' r2 _=>?_
  refine hb r2 e3 ?_
  cases f with
  |nx ρ'=>exact λxT σ2 H2 r3=>⟨jW,xT,ρ',r3,e4⟩
  |ct ρ'=>exact λxT σ2 H2 r3=>⟨jW,xT,ρ',r3,e4⟩
  |bk ρ'=>cases e4;exact k
  |rt p=>cases e4;exact k
 ·have hn:ps.drop i=[]:=List.drop_eq_nil_of_le (by omega)
  rw[hn]at e
  cases e
  exact .inl ⟨h2 (by omega),k own σ H r⟩
theorem HQ.small{G G':Hp}{A:Addr->Prop}{bo:Nat->Option (Addr×List V)}{D:Ends}{fl:Fl}(k:HQ K κ fr G A bo D fl)(s:aI G G')(al:∀b,A b->G b≠none)(bg:∀i a vs,bo i=some (a,vs)->G a=some (.lst vs)):HQ K κ fr G' A bo D fl:=by
 cases fl with
 |nx ρ'=>exact λdS σ' H' r=>k dS σ' H' (r.small s al bg)
 |bk ρ'=>exact λdS σ' H' r=>k dS σ' H' (r.small s al bg)
 |ct ρ'=>exact λdS σ' H' r=>k dS σ' H' (r.small s al bg)
 |rt p=>
  intro v H' s' q
  refine k v H' (s.trans s') ?_
  unfold RR at q⊢
  split
  ·rename_i h
   rw[if_pos h]at q
   exact U3 q s λb z=>z
  ·rename_i h
   rw[if_neg h]at q
   exact q
end
section
variable{X:Cx}{κ:Kl}{fr:Bool}{g:aT}{e a b c tg iter:Expr}{f fa fb:Den}{ft:c9}{pos:Pos}{fi:cC}{gt gu:GX}{body:List Stmt}
theorem jH(hi:DI X κ tg iter fi)(hg:DG X κ tg gt)(hb:Lb X κ fr body g)(hp:PassesOwn (model X.prog X.w) X.A X.env X.xe:=by exact PassesOwn.never)(hc:X.calm=true:=by rfl)(hs:∀x,foldedSetIterable iter X.env x=pure x:=by intro _;rfl):DS X κ fr (.For tg iter body [] pos) (jE fi gt g):=by
 obtain⟨wi,h1,h2⟩:=hi
 obtain⟨tt,h3,h4⟩:=hg
 obtain⟨tb,h5,h6⟩:=hb
 refine⟨_,OP hp hc h1 h3 h5 hs,λ{G A bo own ρ σ H fl D} r e k=>?_⟩
 obtain⟨ps,e1,e2⟩:=Option.bind_eq_some_iff.mp e
 refine h2 r e1 λJ H' s hI=>?_
 have r1:=r.mono s
 exact Fg hI h4 h6 r1.big e2 (k.small r1.gv r1.al r1.bg)
theorem HU(n:Nat)(hc:DT X κ c ft)(hb:Lb X κ fr body g)(hp:PassesOwn (model X.prog X.w) X.A X.env X.xe:=by exact PassesOwn.never):DS X κ fr (.While c body [] pos) (fZ ft g n):=by
 obtain⟨tc,h1,h2⟩:=hc
 obtain⟨tb,h3,h4⟩:=hb
 refine⟨_,zo hp h1 h3,λ{G A bo own ρ σ H fl D} r e k=>?_⟩
 refine⟨λm σ H=>∃own ρ,R X.K κ G A bo own ρ σ H/\fZ ft g m ρ=some fl,⟨n,own,ρ,r,e⟩,?_⟩
 rintro m σ H ⟨own,ρ,r,e⟩
 cases m with
 |zero=>cases e
 |succ m=>
  unfold fZ at e
  obtain⟨c,e1,e2⟩:=Option.bind_eq_some_iff.mp e
  refine h2 r e1 λH1 s1=>?_
  cases c with
  |false=>
   cases e2
   exact k own σ H1 (r.mono s1)
  |true=>
   obtain⟨f,e3,e4⟩:=Option.bind_eq_some_iff.mp e2
   refine⟨λσ' H'=>∃own ρ,R X.K κ G A bo own ρ σ' H'/\fZ ft g m ρ=some fl,λσ' H' q=>⟨m,Nat.lt_succ_self m,q⟩,?_⟩
   refine h4 (r.mono s1) e3 ?_
   cases f with
   |nx ρ'=>exact λxT σ2 H2 r3=>⟨xT,ρ',r3,e4⟩
   |ct ρ'=>exact λxT σ2 H2 r3=>⟨xT,ρ',r3,e4⟩
   |bk ρ'=>cases e4;exact k
   |rt p=>cases e4;exact k
end
noncomputable def U4(K:PySem.W.Frag)(κ:Kl)(f:Den):TE:=λσ H Q=>∃G A bo own ρ p,R K κ G A bo own ρ σ H/\f ρ=some p/\∀v H',aI H H'->Rep K κ (di A own ρ H') v p->Q v H'
noncomputable def U5(K:PySem.W.Frag)(κ:Kl)(f:c9):TT:=λσ H Q=>∃G A bo own ρ b,R K κ G A bo own ρ σ H/\f ρ=some b/\∀H',aI H H'->Q b H'
theorem DE.pe{X:Cx}{κ:Kl}{e:Expr}{f:Den}(h:DE X κ e f):PE X e (U4 X.K κ f):=λpins s σ H Q I ⟨_,_,_,_,_,_,r,e,q⟩=>let⟨_,h1,h2⟩:=h;h1 pins s σ H Q I (h2 r e q)
theorem DT.pt{X:Cx}{κ:Kl}{e:Expr}{f:c9}(h:DT X κ e f):PT X e (U5 X.K κ f):=λpins s σ H Q I ⟨_,_,_,_,_,_,r,e,q⟩=>let⟨_,h1,h2⟩:=h;h1 pins s σ H Q I (h2 r e q)
noncomputable def WA{α:Type}(f:Nat->α)(d:α):Nat->α
 |0=>d
 |i+1=>f i
section
variable{K:PySem.W.Frag}{κ:Kl}{G H:Hp}{A:Addr->Prop}{bo:Nat->Option (Addr×List V)}{own:Nat->Addr}{ρ:cH}{σ:St}{v:V}{p:PV}
theorem mN:cE A (WA own 0) (.sh p::ρ)=cE A own ρ:=by
 funext b
 refine propext ⟨λz=>?_,λz=>?_⟩
 ·rcases z with z|⟨j,m,z1,z2⟩
  ·exact .inl z
  ·cases j with
   |zero=>simp at z1
   |succ j=>exact .inr ⟨j,m,by simpa using z1,z2⟩
 ·rcases z with z|⟨j,m,z1,z2⟩
  ·exact .inl z
  ·exact .inr ⟨j+1,m,by simpa using z1,z2⟩
theorem R.cons(r:R K κ G A bo own ρ σ H)(z:Rep K κ (di A own ρ H) v p):R K κ G A (WA bo none) (WA own 0) (.sh p::ρ) (some v::σ) H where
 al:=r.al
 bg:=λi a vs e=>by
  cases i with
  |zero=>cases e
  |succ i=>exact r.bg i a vs e
 same:=r.same
 sh:=λi q e=>by
  rw[di,mN]
  cases i with
  |zero=>
   simp at e
   subst e
   exact⟨v,rfl,z⟩
  |succ i=>exact r.sh i q (by simpa using e)
 ow:=λi l e=>by
  rw[di,mN]
  cases i with
  |zero=>simp at e
  |succ i=>exact r.ow i l (by simpa using e)
 inj:=λi j l m e f q=>by
  cases i with
  |zero=>simp at e
  |succ i=>
   cases j with
   |zero=>simp at f
   |succ j=>rw[r.inj i j l m (by simpa using e) (by simpa using f) q]
 bw:=λi l e=>by
  rw[di,mN]
  cases i with
  |zero=>simp at e
  |succ i=>exact r.bw i l (by simpa using e)
 len:=by rw[List.length_cons,List.length_cons,r.len]
theorem zX{wi:TI}{fi:cC}{c:c9}{e:Den}(hi:∀{G A bo own ρ σ H ps Q},R K κ G A bo own ρ σ H->fi ρ=some ps->(∀J H',aI H H'->vt K κ H' (cE A own ρ) J ps->Q J H')->wi σ H Q):
  X0 K κ (NH wi (U5 K κ c) (U4 K κ e)) (b9 fi c e):=λ{G A bo own ρ σ H p Q} r e0 q=>by
 obtain⟨ps,e1,e2⟩:=Option.bind_eq_some_iff.mp e0
 have h0:ps.length<=sizeLine/\(fX c e ρ ps).map PV.lst=some p:=by
  split at e2
  ·exact⟨by assumption,e2⟩
  ·cases e2
 obtain⟨zs,e3,rfl⟩:=Option.map_eq_some_iff.mp h0.2
 refine hi r e1 λJ H1 s1 hI=>?_
 refine⟨λi m acc H2=>m=ps.length-i/\i<=ps.length/\aI H1 H2/\acc.length<=i/\∃out rest,aW K κ (di A own ρ H2) acc out/\fX c e ρ (ps.drop i)=some rest/\out++rest=zs,
  ⟨ps.length,by simp,Nat.zero_le _,aI.refl _,Nat.zero_le _,[],zs,.nil,by simpa using e3,rfl⟩,?_⟩
 rintro i m acc H2 ⟨rfl,RY,s2,ha,out,rest,q1,q2,q3⟩
 obtain⟨h1,h2⟩:=hI i H2 s2
 have zh:=s1.trans s2
 have r2:=r.mono zh
 by_cases jW:i<ps.length
 ·rw[List.drop_eq_getElem_cons jW]at q2
  obtain⟨h3,h4⟩:=h1 ps[i] (List.getElem?_eq_getElem jW)
  refine .inr ⟨h3,by omega,λy H3 hy=>?_⟩
  obtain⟨s3,q4⟩:=h4 y H3 hy
  have rep:=q4 (cE A own ρ) (λb hb=>r2.La hb) (bC s2)
  have r3:=(r2.mono s3).cons rep
  unfold fX at q2
  obtain⟨b,e4,e5⟩:=Option.bind_eq_some_iff.mp q2
  refine⟨_,_,_,_,_,_,r3,e4,λH4 s4=>?_⟩
  have r4:=r3.mono s4
  cases b with
  |true=>
   dsimp only
   rw[if_pos rfl]at e5⊢
   obtain⟨z,e6,e7⟩:=Option.bind_eq_some_iff.mp e5
   obtain⟨ws,e8,rfl⟩:=Option.map_eq_some_iff.mp e7
   refine⟨_,_,_,_,_,_,r4,e6,λv H5 s5 q5=>?_⟩
   rw[di,mN]at q5
   refine⟨ps.length-(i+1),by omega,rfl,jW,((s2.trans s3).trans s4).trans s5,by simp;omega,out++[z],ws,?_,e8,by rw[<-q3];simp⟩
   exact(q1.mono (bC ((s3.trans s4).trans s5))).append (.cons q5 .nil)
  |false=>
   dsimp only
   rw[if_neg Bool.false_ne_true]at e5⊢
   exact⟨ps.length-(i+1),by omega,rfl,jW,(s2.trans s3).trans s4,by omega,out,rest,q1.mono (bC (s3.trans s4)),e5,q3⟩
 ·have hn:ps.drop i=[]:=List.drop_eq_nil_of_le (by omega)
  rw[hn]at q2
  cases q2
  rw[List.append_nil]at q3
  subst q3
  refine .inl ⟨h2 (by omega),λp hp=>q _ _ (zh.trans (bK hp)) ?_⟩
  obtain⟨a,ws,l,w1,w2,w3,w4⟩:=r2.vq hp q1
  refine⟨a,ws,l,w1,w2,?_,w4⟩
  cases w1
  exact zh.free hp
end
section
variable{X:Cx}{κ:Kl}{fr:Bool}{sc:Scope}{x:Str}{px pos:Pos}{elt iter c:Expr}{fi:cC}{ft:c9}{f:Den}
theorem oW(hi:RW X κ (.Name x px) iter fi)(Dz:Scope)(N0 ys:List Str)(he:∀ex C s H,DE (X.vd sc x ys ex C s H) κ elt f)(P6:X.env.scope=Dz:=by rfl)(WB:X.N=N0:=by rfl)(S9:tD Dz N0 sc x ys=true:=by decide+kernel)(hc:X.calm=true:=by rfl)
  (hs:∀x,foldedSetIterable iter X.env x=pure x:=by intro _;rfl):DO X κ (.ListComp elt [⟨.Name x px,iter,[],0⟩] sc pos) (b9 fi d5 f):=by
 obtain⟨wi,h1,h2⟩:=hi
 refine⟨_,DD h1 ys (tt:=U5 X.K κ d5) (te:=U4 X.K κ f) (λex C s H=>?_) (λex C s H=>(he ex C s H).pe) (by rw[P6,WB];exact S9) hc hs,zX h2⟩
 intro pins s σ H Q I ⟨_,_,_,_,_,_,r,e,q⟩
 cases e
 exact Hx pins s σ H Q I (q _ (aI.refl _))
theorem iQ(hi:RW X κ (.Name x px) iter fi)(Dz:Scope)(N0 ys:List Str)(ht:∀ex C s H,DT (X.vd sc x ys ex C s H) κ c ft)(he:∀ex C s H,DE (X.vd sc x ys ex C s H) κ elt f)(P6:X.env.scope=Dz:=by rfl)(WB:X.N=N0:=by rfl)(S9:tD Dz N0 sc x ys=true:=by decide+kernel)(hc:X.calm=true:=by rfl)
  (hs:∀x,foldedSetIterable iter X.env x=pure x:=by intro _;rfl):DO X κ (.ListComp elt [⟨.Name x px,iter,[c],0⟩] sc pos) (b9 fi ft f):=by
 obtain⟨wi,h1,h2⟩:=hi
 exact⟨_,DD h1 ys (tt:=U5 X.K κ ft) (te:=U4 X.K κ f) (λex C s H=>Hy (ht ex C s H).pt) (λex C s H=>(he ex C s H).pe) (by rw[P6,WB];exact S9) hc hs,zX h2⟩
end
noncomputable def cO(K:PySem.W.Frag)(κ:Kl)(fr:Bool)(F:List PV->Option PV):Sp:=λvs H Q _=>∃(A:Addr->Prop) (ps:List PV) (p:PV),(∀b,A b->H b≠none)/\aW K κ (hide A H) vs ps/\F ps=some p/\∀v H',aI H H'->RR fr K κ A H H' v p->Q v H'
section
variable{X:Cx}{κ:Kl}{fr:Bool}{k:Nat}{f:Addr}{fd:FuncData}{ps:List Str}{F:List PV->Option PV}{x:Str}{p pos:Pos}{e:Expr}{es:List Expr}{fs:cC}
theorem bB(FO:aG X.prog X.w X.K X.mg X.base bL k f fd ps (cO X.K κ false F))(hr:b7 k X.A)(hm:X.mg x=some (.ref f))(hk:PySem.W.keepIn X.K (.ref f)=true)(hb:Binds X.K fd ps [])(ha:DA X κ (e::es) fs)(hg:Gl X x:=by rfl)(qp:(x==("__debug__" :Str))=false:=by decide)
  (he:starEach (e::es) X.env=(false,eval e X.env)::starEach es X.env:=by rfl)(hpl:(backTo pos (starEach es X.env)).any (·.1)=false:=by rfl):DE X κ (.Call (.Name x p) (e::es) [] pos) (aH F fs):=by
 obtain⟨ta,h1,h2⟩:=ha
 refine⟨_,sx FO hr hg hm hk hb .nil iA h1 qp he hpl,λ{G A bo own ρ σ H p Q} r e q=>?_⟩
 obtain⟨xs,e1,e2⟩:=Option.bind_eq_some_iff.mp e
 refine h2 r e1 λvs H1 s1 z1=>?_
 rw[List.append_nil]
 exact⟨cE A own ρ,xs,p,λb hb=>(r.mono s1).La hb,z1,e2,λv H' s z=>q v H' (s1.trans s) z⟩
theorem jw(FO:aG X.prog X.w X.K X.mg X.base bL k f fd ps (cO X.K κ true F))(hr:b7 k X.A)(hm:X.mg x=some (.ref f))(hk:PySem.W.keepIn X.K (.ref f)=true)(hb:Binds X.K fd ps [])(ha:DA X κ (e::es) fs)(hg:Gl X x:=by rfl)(qp:(x==("__debug__" :Str))=false:=by decide)
  (he:starEach (e::es) X.env=(false,eval e X.env)::starEach es X.env:=by rfl)(hpl:(backTo pos (starEach es X.env)).any (·.1)=false:=by rfl):DO X κ (.Call (.Name x p) (e::es) [] pos) (aH F fs):=by
 obtain⟨ta,h1,h2⟩:=ha
 refine⟨_,sx FO hr hg hm hk hb .nil iA h1 qp he hpl,λ{G A bo own ρ σ H p Q} r e q=>?_⟩
 obtain⟨xs,e1,e2⟩:=Option.bind_eq_some_iff.mp e
 refine h2 r e1 λvs H1 s1 z1=>?_
 rw[List.append_nil]
 exact⟨cE A own ρ,xs,p,λb hb=>(r.mono s1).La hb,z1,e2,λv H' s z=>q v H' (s1.trans s) (U3 z s1 λb w=>w)⟩
theorem HV(FO:aG X.prog X.w X.K X.mg X.base bL k f fd ps (cO X.K κ false F))(hr:b7 k X.A)(hm:X.mg x=some (.ref f))(hk:PySem.W.keepIn X.K (.ref f)=true)(hb:Binds X.K fd ps [])(ha:U2 X κ (e::es) fs)(hg:Gl X x:=by rfl)(qp:(x==("__debug__" :Str))=false:=by decide)
  (he:starEach (e::es) X.env=(false,eval e X.env)::starEach es X.env:=by rfl)(hpl:(backTo pos (starEach es X.env)).any (·.1)=false:=by rfl):DE X κ (.Call (.Name x p) (e::es) [] pos) (xE F fs):=by
 obtain⟨ta,h1,h2⟩:=ha
 refine⟨_,sx FO hr hg hm hk hb .nil iA h1 qp he hpl,λ{G A bo own ρ σ H p Q} r e q=>?_⟩
 obtain⟨xs,e1,e2⟩:=Option.bind_eq_some_iff.mp e
 obtain⟨p',e3,e4⟩:=Option.bind_eq_some_iff.mp e2
 obtain⟨h3,rfl⟩:=aZ e4
 refine h2 r e1 λvs H1 s1 z1=>?_
 rw[List.append_nil]
 have z2:aW X.K κ (hide (λ_=>False) H1) vs xs:=(z1.full aE).mono λb o w=>by rw[bQ (λz=>z)];exact w
 exact⟨λ_=>False,xs,p',λb hb=>hb.elim,z2,e3,λv H' s z=>q v H' (s1.trans s) (Rep.flat h3 z)⟩
end
section
variable{P:Program}{w:World}{K:PySem.W.Frag}{mg:Str->Option Value}{base:Heap}{κ:Kl}{fr:Bool}
theorem nI{n:Nat}{ps:List PV}{i:Nat}{s:Slot}(h:(gB n ps)[i]?=some s):(∃p,ps[i]?=some p/\s=.sh p)\/s=.un:=by
 unfold gB at h
 rw[List.getElem?_append]at h
 split at h
 ·rw[List.getElem?_map]at h
  obtain⟨p,h1,h2⟩:=Option.map_eq_some_iff.mp h
  exact .inl ⟨p,h1,h2.symm⟩
 ·rw[List.getElem?_replicate]at h
  split at h
  ·exact .inr (Option.some.inj h).symm
  ·cases h
theorem R.entry{A:Addr->Prop}{H:Hp}{N:List Str}{vs:List V}{ps:List PV}(al:∀b,A b->H b≠none)(h:aW K κ (hide A H) vs ps):R K κ H A (λ_=>none) (λ_=>0) (gB N.length ps) (start N vs) H:=by
 have no:∀{i:Nat} {l:Cn},(gB N.length ps)[i]?≠some (.own l):=λ{i l} e=>by
  rcases nI e with⟨p,_,z⟩|z<;>cases z
 have he:cE A (λ_=>0) (gB N.length ps)=A:=by
  funext b
  refine propext ⟨λz=>?_,.inl⟩
  rcases z with z|⟨j,m,z1,z2⟩
  ·exact z
  ·exact absurd z1 no
 refine⟨al,λi a vs e=>(by cases e),λ_ _ z=>z,λi p e=>?_,λi l e=>absurd e no,λi j l m e=>absurd e no,λi l e=>?_,?_⟩
 ·rcases nI e with⟨p',h1,z⟩|z
  ·cases z
   obtain⟨v,h2,h3⟩:=h.get h1
   refine⟨v,?_,by rw[di,he];exact h3⟩
   unfold start
   rw[List.getElem?_append_left (by rw[List.length_map];exact(List.getElem?_eq_some_iff.mp h2).1),List.getElem?_map,h2]
   rfl
  ·cases z
 ·rcases nI e with⟨p,_,z⟩|z<;>cases z
 ·unfold start gB
  simp[h.length]
theorem bz{x qual:Str}{st:Stmt}{f:Addr}{fd:FuncData}{N ps:List Str}{k:Nat}{g:aT}(F:rq K x qual st f fd)(S:aK N ps (ao st))
  (hb:∀(dh:Value) (A:Around) (outer:List Env) (s:Shared) (H:Hp) (E:XK),b7 k (A.deeper (envOfC qual (ao st) s.heap.objs.size f dh))->Lb (xm bL P w K mg base N qual (ao st) f dh A outer s H E).G3 κ fr (gX st) g):
  aG P w K mg base bL (k+1) f fd ps (cO K κ fr (fn fr N.length ps.length g)):=by
 refine F.ok S (λvs H Q E h=>?_) (λdh A outer s H vs Q E hr h=>?_)
 ·obtain⟨A,qs,p,_,h1,h2,_⟩:=h
  unfold fn at h2
  split at h2
  ·rw[h1.length]
   assumption
  ·cases h2
 ·obtain⟨A',qs,p,al,h1,h2,q⟩:=h
  obtain⟨ts,a1,a2⟩:=hb dh A outer s H E hr
  refine⟨ts,a1,?_⟩
  have h3:(g (gB N.length qs)).bind (xK fr)=some p:=by
   unfold fn at h2
   split at h2
   ·exact h2
   ·cases h2
  obtain⟨fl,e1,e2⟩:=Option.bind_eq_some_iff.mp h3
  refine a2 (R.entry al h1) e1 ?_
  cases fl with
  |rt p'=>cases e2;exact q
  |nx ρ'=>
   cases fr with
   |true=>cases e2
   |false=>
    cases e2
    exact λdS σ' H' r'=>q _ _ r'.same .non
  |bk ρ'=>cases e2
  |ct ρ'=>cases e2
end
end L2.D
namespace L2.D
open PySem PySem.Spec PyProof.Rows PySem.SeqAt
open Classical
section
variable{X:Cx}{pins:List (Addr×Obj)}{σ:St}{H:Hp}{s:Shared}{κ:Kl}
theorem lN{f:PV->PV->Option Bool}:∀{l m:List PV} {es:List Bool},nD f l m=some es->l.length=m.length->es.length=l.length
 |[],[],_,h,_=>by cases h;rfl
 |a::l,b::m,es,h,e=>by
  unfold nD at h
  obtain⟨c,h1,h2⟩:=Option.bind_eq_some_iff.mp h
  obtain⟨cs,h3,rfl⟩:=Option.map_eq_some_iff.mp h2
  simp[lN h3 (by simpa using e)]
theorem oX{f:PV->PV->Option Bool}:∀{l m:List PV} {es:List Bool} {j:Nat} {p q:PV},nD f l m=some es->l[j]?=some p->m[j]?=some q->∃e,es[j]?=some e/\f p q=some e
 |[],_,_,_,_,_,_,hp,_=>by simp at hp
 |_::_,[],_,_,_,_,_,_,hq=>by simp at hq
 |a::l,b::m,es,0,p,q,h,hp,hq=>by
  unfold nD at h
  obtain⟨c,h1,h2⟩:=Option.bind_eq_some_iff.mp h
  obtain⟨cs,h3,rfl⟩:=Option.map_eq_some_iff.mp h2
  simp at hp hq
  subst hp hq
  exact⟨c,rfl,h1⟩
 |a::l,b::m,es,j+1,p,q,h,hp,hq=>by
  unfold nD at h
  obtain⟨c,h1,h2⟩:=Option.bind_eq_some_iff.mp h
  obtain⟨cs,h3,rfl⟩:=Option.map_eq_some_iff.mp h2
  obtain⟨e,h4,h5⟩:=oX (j:=j) h3 (by simpa using hp) (by simpa using hq)
  exact⟨e,by simpa using h4,h5⟩
theorem HW:∀(n:Nat) (p:PV) (b:Bool),j5 n p p=some b->b=true:=by
 intro n
 induction n with
 |zero=>
  intro p b h
  unfold j5 at h
  cases p<;>simp[flat,K9]at h<;>exact h
 |succ n ih=>
  have key:∀(l:List PV) (es:List Bool),nD (j5 n) l l=some es->es.all id=true:=by
   intro l
   induction l with
   |nil=>intro es h;cases h;rfl
   |cons a l Zg=>
    intro es h
    unfold nD at h
    obtain⟨c,h1,h2⟩:=Option.bind_eq_some_iff.mp h
    obtain⟨cs,h3,rfl⟩:=Option.map_eq_some_iff.mp h2
    simp[ih _ _ h1,Zg _ h3]
  intro p b h
  cases p with
  |lst l=>
   unfold j5 GV at h
   rw[if_pos rfl]at h
   obtain⟨es,h1,rfl⟩:=Option.map_eq_some_iff.mp h
   exact key l es h1
  |tup l=>
   unfold j5 GV at h
   rw[if_pos rfl,if_pos rfl]at h
   obtain⟨es,h1,rfl⟩:=Option.map_eq_some_iff.mp h
   exact key l es h1
  |_=>simp[j5,flat,K9]at h<;>exact h
theorem zY(I:Inv X pins σ H s){a:Addr}{xs ys:List V}(h:iE X.K H a xs)(h':ll X.K H a ys):False:=by
 obtain⟨_,_,p1,_⟩:=I.list h
 obtain⟨_,_,p2,_⟩:=I.tuple h'
 obtain⟨o,e1,c1,_⟩:=p1.isList
 obtain⟨o2,e2,c2,_⟩:=p2
 rw[e1]at e2
 cases e2
 rw[c1]at c2
 injection c2 with z
 exact absurd z (by decide)
mutual
theorem Rep.inj(I:Inv X pins σ H s):∀{v:V} {p q:PV},Rep X.K κ H v p->Rep X.K κ H v q->(∀n b,j5 n p q=some b->p=q)
 |_,_,_,.non,.non=>λ_ _ _=>rfl
 |_,_,_,.bl _,.bl _=>λ_ _ _=>rfl
 |_,_,_,.int _,.int _=>λ_ _ _=>rfl
 |_,_,_,.str _,.str _=>λ_ _ _=>rfl
 |_,_,_,.lst h r,q=>λn b e=>by
  cases q with
  |lst h' r'=>
   have:=I.lB h.sq h'.sq
   subst this
   cases n with
   |zero=>simp[j5,flat]at e
   |succ n=>
    unfold j5 GV at e
    split at e
    ·obtain⟨es,e1,_⟩:=Option.map_eq_some_iff.mp e
     rw[aW.inj I r r' n es e1]
    ·rename_i hl
     exact absurd (r.length.symm.trans r'.length) hl
  |tup h' _=>exact(zY I h.sq h').elim
  |ins _ _ _=>cases n<;>simp[j5,flat]at e
 |_,_,_,.tup h r,q=>λn b e=>by
  cases q with
  |lst h' _=>exact(zY I h'.sq h).elim
  |tup h' r'=>
   have:=I.vL h h'
   subst this
   cases n with
   |zero=>simp[j5,flat]at e
   |succ n=>
    unfold j5 GV at e
    have hl:=r.length.symm.trans r'.length
    rw[if_pos hl,if_pos hl]at e
    obtain⟨es,e1,_⟩:=Option.map_eq_some_iff.mp e
    rw[aW.inj I r r' n es e1]
  |ins _ _ _=>cases n<;>simp[j5,flat]at e
 |_,_,_,.ins _ _ _,q=>λn b e=>by
  cases n<;>cases q<;>simp[j5,flat]at e
theorem aW.inj(I:Inv X pins σ H s):∀{vs:List V} {l m:List PV},aW X.K κ H vs l->aW X.K κ H vs m->∀n es,nD (j5 n) l m=some es->l=m
 |_,_,_,.nil,.nil=>λ_ _ _=>rfl
 |_,_,_,.cons r t,.cons r' t'=>λn es e=>by
  unfold nD at e
  obtain⟨c,h1,h2⟩:=Option.bind_eq_some_iff.mp e
  obtain⟨cs,h3,rfl⟩:=Option.map_eq_some_iff.mp h2
  rw[Rep.inj I r r' n c h1,aW.inj I t t' n cs h3]
end
theorem oY{es:List Bool}{n:Nat}(h:es.length=n):((List.range n).all λj=>es.getD j false)=es.all id:=by
 subst h
 exact range_all es
theorem zZ{A:Around}{a b:Addr}{xs ys:List V}(I:Inv X pins σ H s)(ha:ll X.K H a xs)(hb:ll X.K H b ys)(hl:xs.length=ys.length)(hu:A.units<cLine)(q:Nat->Bool)
  (hq:∀(j:Nat) x y u v,xs[j]?=some x->ys[j]?=some y->RelV x u->RelV y v->EqAt A.in1 s u v (q j)):RcAt A s (.ref a) (.ref b) ((List.range xs.length).all q):=by
 obtain⟨its,r1,p1,z1⟩:=I.tuple ha
 obtain⟨mU,r2,p2,z2⟩:=I.tuple hb
 have l1:=r1.length
 have l2:=r2.length
 have:=RcAt.tuples (A:=A) (s:=s) (e:=q) (l:=a) (b:=b) p1 p2 hu λj h1 h2=>?_
 ·rw[List.size_toArray,List.size_toArray,<-l1,<-l2,<-hl,Nat.min_self,beq_self_eq_true,Bool.and_true]at this
  exact this
 ·rw[List.size_toArray]at h1 h2
  obtain⟨x,hx⟩:∃x,xs[j]?=some x:=⟨xs[j],List.getElem?_eq_getElem (by omega)⟩
  obtain⟨y,hy⟩:∃y,ys[j]?=some y:=⟨ys[j],List.getElem?_eq_getElem (by omega)⟩
  obtain⟨u,e1,ru⟩:=r1.get hx
  obtain⟨v,e2,rv⟩:=r2.get hy
  have f1:its.toArray[j]=u:=by
   have:=(List.getElem?_eq_some_iff.mp e1).2
   simpa using this
  have f2:mU.toArray[j]=v:=by
   have:=(List.getElem?_eq_some_iff.mp e2).2
   simpa using this
  rw[f1,f2]
  exact hq j x y u v hx hy ru rv
theorem DN{A:Around}{v w:V}{u u':Value}{p q:PV}(f:(flat p&&flat q)=true)(r1:Rep X.K κ H v p)(r2:Rep X.K κ H w q)(e1:RelV v u)(e2:RelV w u'):EqAt A s u u' (K9 p q):=by
 rw[Bool.and_eq_true]at f
 have hv:iV v=true:=by cases r1<;>simp_all[flat,iV]
 have hw:iV w=true:=by cases r2<;>simp_all[flat,iV]
 have:K9 p q=GU v w:=by cases r1<;>cases r2<;>simp_all[flat,K9,GU]
 rw[this]
 exact Hl e1 e2 hv hw
theorem z9(I:Inv X pins σ H s):∀(n:Nat) {p q:PV} {v w:V} {u u':Value} {A:Around} {b:Bool},A.units+n<cLine->Rep X.K κ H v p->Rep X.K κ H w q->RelV v u->RelV w u'->j5 n p q=some b->EqAt A s u u' b:=by
 intro n
 induction n with
 |zero=>
  intro p q v w u u' A b hu r1 r2 e1 e2 h
  unfold j5 at h
  obtain⟨h1,rfl⟩:=aZ h
  exact DN h1 r1 r2 e1 e2
 |succ n ih=>
  intro p q v w u u' A b hu r1 r2 e1 e2 h
  have Tq:A.in1.units+n<cLine:=by
   have:A.in1.units=A.units+1:=rfl
   omega
  by_cases hf:(flat p&&flat q)=true
  ·have:j5 (n+1) p q=some (K9 p q):=by
     cases p<;>cases q<;>simp_all[j5,flat]
   rw[this]at h
   cases h
   exact DN hf r1 r2 e1 e2
  ·by_cases hvw:v=w
   ·subst hvw
    have Zh:=Rep.inj I r1 r2 _ _ h
    subst Zh
    have hb:=HW _ _ _ h
    subst hb
    cases r1 with
    |lst _ _=>cases e1;cases e2;exact EqAt.same _
    |tup _ _=>cases e1;cases e2;exact EqAt.same _
    |ins _ _ _=>cases e1;cases e2;exact EqAt.same _
    |_=>simp[flat]at hf
   ·have hr:∀{xs ys:List V} {l m:List PV} {es:List Bool},aW X.K κ H xs l->aW X.K κ H ys m->nD (j5 n) l m=some es->∀(j:Nat) x y u v,xs[j]?=some x->ys[j]?=some y->RelV x u->RelV y v->EqAt A.in1 s u v (es.getD j false):=by
      intro xs ys l m es w1 w2 he j x y u v hx hy ru rv
      obtain⟨p1,g1,g2⟩:=w1.BP hx
      obtain⟨p2,g3,g4⟩:=w2.BP hy
      obtain⟨e,g5,g6⟩:=oX he g1 g3
      rw[List.getD_eq_getElem?_getD,g5]
      exact ih Tq g2 g4 ru rv g6
    cases r1 with
    |@lst a vs l h1 w1=>
     cases q with
     |lst m=>
      cases r2 with
      |@lst b' X2 _ h2 w2=>
       cases e1
       cases e2
       refine EqAt.of_refs (λz=>hvw (by rw[z])) ?_
       unfold j5 GV at h
       split at h
       ·rename_i hl
        obtain⟨es,g1,rfl⟩:=Option.map_eq_some_iff.mp h
        have g2:=lN g1 hl
        have:=tE I h1.sq h2.sq (A:=A) (by omega) (λj=>es.getD j false) (hr w1 w2 g1)
        rw[decide_eq_true (by rw[w1.length,w2.length];exact hl),Bool.true_and,oY (by rw[w1.length];exact g2)]at this
        exact this
       ·rename_i hl
        cases h
        obtain⟨its,k1,p1,z1⟩:=I.list h1.sq
        obtain⟨mU,k2,p2,z2⟩:=I.list h2.sq
        have l1:=k1.length
        have l2:=k2.length
        have l3:=w1.length
        have l4:=w2.length
        exact RcAt.lists_lengths p1.isList p2.isList (by rw[List.size_toArray,List.size_toArray];simp;omega) (by omega)
     |_=>cases r2<;>simp[j5,flat]at h
    |@tup a vs l h1 w1=>
     cases q with
     |tup m=>
      cases r2 with
      |@tup b' X2 _ h2 w2=>
       cases e1
       cases e2
       refine EqAt.of_refs (λz=>hvw (by rw[z])) ?_
       unfold j5 GV at h
       split at h
       ·rename_i hl
        try rw[if_pos hl]at h
        obtain⟨es,g1,rfl⟩:=Option.map_eq_some_iff.mp h
        have g2:=lN g1 hl
        have:=zZ I h1 h2 (A:=A) (by rw[w1.length,w2.length];exact hl) (by omega) (λj=>es.getD j false) (hr w1 w2 g1)
        rw[oY (by rw[w1.length];exact g2)]at this
        exact this
       ·cases h
     |_=>cases r2<;>simp[j5,flat]at h
    |ins _ _ _=>cases q<;>simp[j5,flat]at h
    |_=>cases r2<;>simp[j5,flat]at h hf
end
end L2.D
namespace L2.D
open PySem PySem.Spec PyProof.Rows PySem.SeqAt
open Classical
section
variable{X:Cx}{κ:Kl}{fr:Bool}{e a b c:Expr}{f fa fb fc:Den}{p pos:Pos}
noncomputable def WC(K:PySem.W.Frag)(κ:Kl)(neg:Bool):R2:=λx y H Q=>∃p q b,Rep K κ H x p/\Rep K κ H y q/\eqT p q=some b/\Q (.bl (if neg then !b else b)) H
theorem Aa{pins:List (Addr×Obj)}{σ:St}{H:Hp}{s:Shared}{A:Around}{a b:Addr}{vs ws:List V}{l m:List PV}{r:Bool}(I:Inv X pins σ H s)(hu:A.units+20<cLine)(h1:SL X.K H a vs)(w1:aW X.K κ H vs l)(h2:SL X.K H b ws)(w2:aW X.K κ H ws m)
  (h:j5 20 (.lst l) (.lst m)=some r):RcAt A s (.ref a) (.ref b) r/\RcNeAt A s (.ref a) (.ref b) (!r):=by
 unfold j5 GV at h
 have Tq:A.in1.units+19<cLine:=by
  have:A.in1.units=A.units+1:=rfl
  omega
 split at h
 ·rename_i hl
  obtain⟨es,g1,rfl⟩:=Option.map_eq_some_iff.mp h
  have g2:=lN g1 hl
  have hr:∀(j:Nat) x y u v,vs[j]?=some x->ws[j]?=some y->RelV x u->RelV y v->EqAt A.in1 s u v (es.getD j false):=by
   intro j x y u v hx hy ru rv
   obtain⟨p1,k1,k2⟩:=w1.BP hx
   obtain⟨p2,k3,k4⟩:=w2.BP hy
   obtain⟨e,k5,k6⟩:=oX g1 k1 k3
   rw[List.getD_eq_getElem?_getD,k5]
   exact z9 I 19 Tq k2 k4 ru rv k6
  have z1:=tE I h1.sq h2.sq (A:=A) (by omega) (λj=>es.getD j false) hr
  have z2:=BH I h1.sq h2.sq (A:=A) (by omega) (λj=>es.getD j false) hr
  rw[decide_eq_true (by rw[w1.length,w2.length];exact hl),Bool.true_and,oY (by rw[w1.length];exact g2)]at z1 z2
  exact⟨z1,z2⟩
 ·rename_i hl
  cases h
  obtain⟨its,k1,p1,z1⟩:=I.list h1.sq
  obtain⟨mU,k2,p2,z2⟩:=I.list h2.sq
  have l1:=k1.length
  have l2:=k2.length
  have l3:=w1.length
  have l4:=w2.length
  exact⟨RcAt.lists_lengths p1.isList p2.isList (by rw[List.size_toArray,List.size_toArray];simp;omega) (by omega),RcNeAt.lists_lengths p1.isList p2.isList (by rw[List.size_toArray,List.size_toArray];simp;omega) (by omega)⟩
theorem L8{pins:List (Addr×Obj)}{σ:St}{H:Hp}{s:Shared}{A:Around}{a b:Addr}{vs ws:List V}{l m:List PV}{r:Bool}(I:Inv X pins σ H s)(hu:A.units+20<cLine)(h1:ll X.K H a vs)(w1:aW X.K κ H vs l)(h2:ll X.K H b ws)(w2:aW X.K κ H ws m)
  (h:j5 20 (.tup l) (.tup m)=some r):RcAt A s (.ref a) (.ref b) r:=by
 unfold j5 GV at h
 have Tq:A.in1.units+19<cLine:=by
  have:A.in1.units=A.units+1:=rfl
  omega
 split at h
 ·rename_i hl
  try rw[if_pos hl]at h
  obtain⟨es,g1,rfl⟩:=Option.map_eq_some_iff.mp h
  have g2:=lN g1 hl
  have hr:∀(j:Nat) x y u v,vs[j]?=some x->ws[j]?=some y->RelV x u->RelV y v->EqAt A.in1 s u v (es.getD j false):=by
   intro j x y u v hx hy ru rv
   obtain⟨p1,k1,k2⟩:=w1.BP hx
   obtain⟨p2,k3,k4⟩:=w2.BP hy
   obtain⟨e,k5,k6⟩:=oX g1 k1 k3
   rw[List.getD_eq_getElem?_getD,k5]
   exact z9 I 19 Tq k2 k4 ru rv k6
  have z1:=zZ I h1 h2 (A:=A) (by rw[w1.length,w2.length];exact hl) (by omega) (λj=>es.getD j false) hr
  rw[oY (by rw[w1.length];exact g2)]at z1
  exact z1
 ·cases h
theorem P7(hu:X.A.units+20<cLine):js X (compareOp .Eq) (WC X.K κ false):=by
 intro pins s σ H x y v u Q I rx ry h
 obtain⟨p,q,r,r1,r2,e,k⟩:=h
 cases p<;>cases q<;>first|cases e|skip
 all_goals first
  |(cases r1 with
   |lst h1 w1=>cases r2 with
    |lst h2 w2=>
     cases rx;cases ry
     exact(Aa I hu h1 w1 h2 w2 e).1 _ _ _ _ ⟨.bl r,H,I,rfl,k⟩)
  |(cases r1 with
   |tup h1 w1=>cases r2 with
    |tup h2 w2=>
     cases rx;cases ry
     exact L8 I hu h1 w1 h2 w2 e _ _ _ _ ⟨.bl r,H,I,rfl,k⟩)
  |(cases r1;cases r2;exact SD pins s σ H _ _ v u Q I rx ry ⟨rfl,by simpa using k⟩)
theorem P8(hu:X.A.units+20<cLine):js X (compareOp .NotEq) (λx y H Q=>∃p q b,Rep X.K κ H x p/\Rep X.K κ H y q/\(∀l,p≠.tup l)/\eqT p q=some b/\Q (.bl (!b)) H):=by
 intro pins s σ H x y v u Q I rx ry h
 obtain⟨p,q,r,r1,r2,nt,e,k⟩:=h
 cases p<;>cases q<;>first|cases e|skip
 all_goals first
  |exact absurd rfl (nt _)
  |(cases r1 with
   |lst h1 w1=>cases r2 with
    |lst h2 w2=>
     cases rx;cases ry
     exact(Aa I hu h1 w1 h2 w2 e).2 _ _ _ _ ⟨.bl (!r),H,I,rfl,k⟩)
  |(cases r1;cases r2;exact SE pins s σ H _ _ v u Q I rx ry ⟨rfl,by simpa using k⟩)
theorem Tr{A:Around}(h:A.units+64<cLine):A.units+20<cLine:=by omega
theorem eM{k:Nat}(hr:b7 k X.A)(ha:DB X κ a fa)(hb:DB X κ b fb):DC X κ .Eq a b (ag iG fa fb):=by
 obtain⟨ta,h1,h2⟩:=ha
 obtain⟨tb,h3,h4⟩:=hb
 refine⟨_,_,_,P7 (κ:=κ) (Tr hr.units),h1,h3,λ{G A bo own ρ σ H p Q} r e q=>?_⟩
 refine qA h2 h4 r e λx y p1 p2 H' s r' b1 b2 e'=>?_
 obtain⟨b,e1,rfl⟩:=Option.map_eq_some_iff.mp e'
 exact⟨p1,p2,b,b1.full aE,b2.full aE,e1,q _ H' s (.bl _)⟩
theorem tN{k:Nat}(hr:b7 k X.A)(ha:DB X κ a fa)(hb:DB X κ b fb):DC X κ .NotEq a b (ag gz fa fb):=by
 obtain⟨ta,h1,h2⟩:=ha
 obtain⟨tb,h3,h4⟩:=hb
 refine⟨_,_,_,P8 (κ:=κ) (Tr hr.units),h1,h3,λ{G A bo own ρ σ H p Q} r e q=>?_⟩
 refine qA h2 h4 r e λx y p1 p2 H' s r' b1 b2 e'=>?_
 have nt:∀l,p1≠.tup l:=λl z=>by rw[z]at e';cases e'
 have e2:RP p1 p2=some p:=by cases p1<;>first|exact e'|exact absurd rfl (nt _)
 obtain⟨b,e1,rfl⟩:=Option.map_eq_some_iff.mp e2
 exact⟨p1,p2,b,b1.full aE,b2.full aE,nt,e1,q _ H' s (.bl _)⟩
theorem L9{K:PySem.W.Frag}{hH H:Hp}{x:V}{p:PV}(h:BR K κ hH H x p):vn p=some (.bl (decide (x=.non))):=by
 rcases h with h|⟨a,vs,l,rfl,rfl,_⟩
 ·cases h<;>simp[vn]
 ·simp[vn]
theorem BX{j pos'}(ha:DB X κ a fa):DC X κ .Is a (.Constant .none j pos') (bb vn fa):=by
 obtain⟨ta,h1,h2⟩:=ha
 refine⟨_,_,_,O3,h1,G2,λ{G A bo own ρ σ H p Q} r e q=>?_⟩
 obtain⟨p1,e1,e2⟩:=Option.bind_eq_some_iff.mp e
 refine h2 r e1 λx H1 s1 b1=>?_
 rw[L9 b1]at e2
 cases e2
 exact⟨rfl,q _ H1 s1 (.bl _)⟩
theorem NO{K:PySem.W.Frag}{H:Hp}:∀{vs:List V} {l:List PV},aW K κ H vs l->l.all flat=true->vs.all iV=true
 |_,_,.nil,_=>rfl
 |_,_,.cons r t,h=>by
  rw[List.all_cons,Bool.and_eq_true]at h⊢
  refine⟨?_,NO t h.2⟩
  cases r<;>simp_all[flat,iV]
theorem Ts{K:PySem.W.Frag}{H H':Hp}{v w:V}{p q:PV}(r1:Rep K κ H v p)(r2:Rep K κ H' w q)(f1:flat p=true)(f2:flat q=true):K9 p q=GU v w:=by
 cases r1<;>cases r2<;>simp_all[flat,K9,GU]
theorem NP{K:PySem.W.Frag}{H H':Hp}{v:V}{p:PV}(r:Rep K κ H v p)(f:flat p=true):∀{vs:List V} {l:List PV},aW K κ H' vs l->l.all flat=true->k8 p l=UN v vs
 |_,_,.nil,_=>rfl
 |_,_,.cons r1 t,h=>by
  rw[List.all_cons,Bool.and_eq_true]at h
  have ih:=NP r f t h.2
  unfold k8 UN at ih⊢
  rw[List.any_cons,List.any_cons,ih,Ts r1 r h.1 f]
theorem DR{neg:Bool}{K:PySem.W.Frag}{hH H':Hp}{x y:V}{p1 p2 p:PV}{Q:VK}(b1:BR K κ hH H' x p1)(b2:BR K κ hH H' y p2)(s:aI hH H')(e:(if neg then jD p1 p2 else LV p1 p2)=some p)(q:∀b,p=.bl b->Q (.bl b) H'):UO K neg x y H' Q:=by
 have go:∀(l:List PV) (vs:List V) (a:Addr),y=.ref a->(iE K H' a vs\/ll K H' a vs)->aW K κ hH vs l->(if(flat p1&&l.all flat)=true then some (PV.bl (if neg then !k8 p1 l else k8 p1 l))else none)=some p->UO K neg x y H' Q:=by
  intro l vs a hy hs w e
  obtain⟨h1,h2⟩:=aZ e
  rw[Bool.and_eq_true]at h1
  have rx:=b1.full s
  refine⟨a,vs,hy,hs,?_,NO w h1.2,?_⟩
  ·cases rx<;>simp_all[flat,iV]
  ·rw[NP rx h1.1 w h1.2]at h2
   exact q _ h2.symm
 cases p2 with
 |lst l=>
  obtain⟨a,vs,rfl,q1,q2⟩:=b2.lst s
  exact go l vs a rfl (.inl q1.sq) q2 (by cases neg<;>exact e)
 |tup l=>
  obtain⟨a,vs,rfl,q1,q2⟩:=b2.tup s
  exact go l vs a rfl (.inr q1) q2 (by cases neg<;>exact e)
 |_=>cases neg<;>cases e
theorem HY(ha:DB X κ a fa)(hb:DB X κ b fb):DC X κ .In a b (ag LV fa fb):=by
 obtain⟨ta,h1,h2⟩:=ha
 obtain⟨tb,h3,h4⟩:=hb
 refine⟨_,_,_,EY,h1,h3,λ{G A bo own ρ σ H p Q} r e q=>?_⟩
 refine qA h2 h4 r e λx y p1 p2 H' s r' b1 b2 e'=>?_
 exact DR (neg:=false) b1 b2 aE e' λb z=>q _ H' s (by rw[z];exact .bl _)
theorem tO(ha:DB X κ a fa)(hb:DB X κ b fb):DC X κ .NotIn a b (ag jD fa fb):=by
 obtain⟨ta,h1,h2⟩:=ha
 obtain⟨tb,h3,h4⟩:=hb
 refine⟨_,_,_,xp,h1,h3,λ{G A bo own ρ σ H p Q} r e q=>?_⟩
 refine qA h2 h4 r e λx y p1 p2 H' s r' b1 b2 e'=>?_
 exact DR (neg:=true) b1 b2 aE e' λb z=>q _ H' s (by rw[z];exact .bl _)
theorem cj(ha:DB X κ a fa)(hm:X.mg "len" =none)(hg:Gl X "len" :=by rfl)(hs:starEach [a] X.env=(false,eval a X.env)::starEach [] X.env:=by rfl):DE X κ (.Call (.Name "len" p) [a] [] pos) (bb bj fa):=by
 obtain⟨ta,h1,h2⟩:=ha
 refine⟨_,iU (oI.or xq) hg hm PySem.boot_len (aM h1 bJ hs) (he:=hs),λ{G A bo own ρ σ H p Q} r e q=>?_⟩
 obtain⟨p1,e1,e2⟩:=Option.bind_eq_some_iff.mp e
 refine h2 r e1 λx H1 s1 b1=>?_
 cases p1<;>first|(cases e2;done)|skip
 ·obtain⟨z1,rfl⟩:=aZ e2
  exact .inr ⟨_,by rw[b1.str],z1,q _ H1 s1 (.int _)⟩
 ·cases e2
  obtain⟨a,vs,rfl,q1,q2⟩:=b1.lst aE
  exact .inl ⟨a,vs,rfl,.inl q1.sq,q _ H1 s1 (by rw[q2.length];exact .int _)⟩
 ·cases e2
  obtain⟨a,vs,rfl,q1,q2⟩:=b1.tup aE
  exact .inl ⟨a,vs,rfl,.inr q1,q _ H1 s1 (by rw[q2.length];exact .int _)⟩
theorem DU(ha:DB X κ a fa)(hm:X.mg "list" =none)(hg:Gl X "list" :=by rfl)(hs:starEach [a] X.env=(false,eval a X.env)::starEach [] X.env:=by rfl):DO X κ (.Call (.Name "list" p) [a] [] pos) (bb v8 fa):=by
 obtain⟨ta,h1,h2⟩:=ha
 refine⟨_,jY xr hg hm PyProof.Rows.boot_list (aM h1 bJ hs) (he:=hs),λ{G A bo own ρ σ H p Q} r e q=>?_⟩
 obtain⟨p1,e1,e2⟩:=Option.bind_eq_some_iff.mp e
 refine h2 r e1 λx H1 s1 b1=>?_
 have fin:∀{vs l n},H1 n=none->aW X.K κ (di A own ρ H1) vs l->p=.lst l->Q (.ref n) (upd H1 n (.lst vs)):=λ{vs l n} hn w z=>by
  subst z
  refine q _ _ (s1.trans (bK hn)) ?_
  obtain⟨a,ws,l,w1,w2,w3,w4⟩:=(r.mono s1).vq hn w
  refine⟨a,ws,l,w1,w2,?_,w4⟩
  cases w1
  exact s1.free hn
 cases p1<;>first|(cases e2;done)|skip
 ·obtain⟨a,vs,rfl,q1,q2⟩:=b1.lst aE
  exact⟨a,vs,rfl,.inl q1.sq,λn hn=>fin hn q2 (Option.some.inj e2).symm⟩
 ·obtain⟨a,vs,rfl,q1,q2⟩:=b1.tup aE
  exact⟨a,vs,rfl,.inr q1,λn hn=>fin hn q2 (Option.some.inj e2).symm⟩
theorem xU{K:PySem.W.Frag}{H:Hp}:∀{vs:List V} {l:List PV} {bs:List Bool},aW K κ H vs l->bools l=some bs->vs=bs.map V.bl
 |_,_,_,.nil,h=>by cases h;rfl
 |_,p::_,_,.cons r t,h=>by
  cases p<;>first|(cases h;done)|skip
  obtain⟨cs,h1,rfl⟩:=Option.map_eq_some_iff.mp h
  rw[List.map_cons,<-xU t h1,r.E8]
theorem P9(ha:DB X κ a fa)(hm:X.mg "any" =none)(hg:Gl X "any" :=by rfl)(hc:X.calm=true:=by rfl)(hs:starEach [a] X.env=(false,eval a X.env)::starEach [] X.env:=by rfl):DE X κ (.Call (.Name "any" p) [a] [] pos) (bb LW fa):=by
 obtain⟨ta,h1,h2⟩:=ha
 refine⟨_,iU (zK hc) hg hm PyProof.Rows.boot_any (aM h1 bJ hs) (he:=hs),λ{G A bo own ρ σ H p Q} r e q=>?_⟩
 obtain⟨p1,e1,e2⟩:=Option.bind_eq_some_iff.mp e
 refine h2 r e1 λx H1 s1 b1=>?_
 cases p1<;>first|(cases e2;done)|skip
 obtain⟨bs,e3,rfl⟩:=Option.map_eq_some_iff.mp e2
 obtain⟨a,vs,rfl,q1,q2⟩:=b1.lst aE
 rw[xU q2 e3]at q1
 exact⟨a,bs,rfl,q1.sq,q _ H1 s1 (.bl _)⟩
theorem Qa(ha:DB X κ a fa)(hm:X.mg "all" =none)(hg:Gl X "all" :=by rfl)(hc:X.calm=true:=by rfl)(hs:starEach [a] X.env=(false,eval a X.env)::starEach [] X.env:=by rfl):DE X κ (.Call (.Name "all" p) [a] [] pos) (bb Td fa):=by
 obtain⟨ta,h1,h2⟩:=ha
 refine⟨_,iU (zL hc) hg hm PyProof.Rows.boot_all (aM h1 bJ hs) (he:=hs),λ{G A bo own ρ σ H p Q} r e q=>?_⟩
 obtain⟨p1,e1,e2⟩:=Option.bind_eq_some_iff.mp e
 refine h2 r e1 λx H1 s1 b1=>?_
 cases p1<;>first|(cases e2;done)|skip
 obtain⟨bs,e3,rfl⟩:=Option.map_eq_some_iff.mp e2
 obtain⟨a,vs,rfl,q1,q2⟩:=b1.lst aE
 rw[xU q2 e3]at q1
 exact⟨a,bs,rfl,q1.sq,q _ H1 s1 (.bl _)⟩
theorem Ma{apos dw:Pos}(ha:DB X κ a fa)(fT:attributeBase a "bit_length" X.env (eval a X.env)=eval a X.env:=by rfl)(fU:(apos.endLine==dw.line)=true:=by rfl):DE X κ (.Call (.Attribute a "bit_length" apos) [] [] dw) (bb HG fa):=by
 obtain⟨ta,h1,h2⟩:=ha
 refine⟨_,Ph PySem.F.plainAttrs_int PySem.F.slot_int_bit_length PySem.F.type_int_bit_length LR h1 fT fU,λ{G A bo own ρ σ H p Q} r e q=>?_⟩
 obtain⟨p1,e1,e2⟩:=Option.bind_eq_some_iff.mp e
 refine h2 r e1 λx H1 s1 b1=>?_
 cases p1<;>first|(cases e2;done)|skip
 cases e2
 have:=b1.int
 subst this
 exact⟨rfl,_,rfl,rfl,q _ H1 s1 (.int _)⟩
theorem aW.at{K:PySem.W.Frag}{H:Hp}{vs:List V}{l:List PV}{i:Int}{p:PV}(h:aW K κ H vs l)(e:itemAt l i=some p):∃v,Pc vs i=some v/\Rep K κ H v p:=by
 obtain⟨j,e1,e2⟩:=Option.bind_eq_some_iff.mp e
 obtain⟨v,h1,h2⟩:=h.get e2
 refine⟨v,?_,h2⟩
 unfold Pc
 rw[h.length]
 exact Option.bind_eq_some_iff.mpr ⟨j,e1,h1⟩
theorem d6(ha:DB X κ a fa)(hb:DB X κ b fb)(hs:Dq b:=by intro _ _;rfl):DE X κ (.Subscript a b pos) (ag jq fa fb):=by
 obtain⟨ta,h1,h2⟩:=ha
 obtain⟨tb,h3,h4⟩:=hb
 refine⟨_,SV Pg h1 h3 hs,λ{G A bo own ρ σ H p Q} r e q=>?_⟩
 refine qA h2 h4 r e λx y p1 p2 H' s r' b1 b2 e'=>?_
 (cases p1<;>first|(cases e';done)|skip)<;>cases p2<;>first|(cases e';done)|skip
 ·rename_i x' i'
  have e3:(if x'.length<=sizeLine then(itemAt x'.cps.toList i').map λc=>PV.str ⟨#[c]⟩else none)=some p:=e'
  have z1:x'.length<=sizeLine:=by
   by_cases z:x'.length<=sizeLine
   ·exact z
   ·rw[if_neg z]at e3
    cases e3
  have z2:((itemAt x'.cps.toList i').map λc=>PV.str ⟨#[c]⟩)=some p:=by
   rw[if_pos z1]at e3
   exact e3
  obtain⟨c,e2,rfl⟩:=Option.map_eq_some_iff.mp z2
  exact .inr (.inr ⟨_,_,c,b1.str,b2.int,z1,e2,q _ H' s (.str _)⟩)
 ·obtain⟨a,vs,rfl,q1,q2⟩:=b1.lst aE
  obtain⟨v,z1,z2⟩:=q2.at e'
  exact .inl ⟨a,vs,_,v,rfl,b2.int,q1.sq,z1,q _ H' s z2⟩
 ·obtain⟨a,vs,rfl,q1,q2⟩:=b1.tup aE
  obtain⟨v,z1,z2⟩:=q2.at e'
  exact .inr (.inl ⟨a,vs,_,v,rfl,b2.int,q1,z1,q _ H' s z2⟩)
noncomputable def DP(X:Cx)(κ:Kl)(e:Option Expr)(f:xH):Prop:=∃to,PO X e to/\∀{G A bo own ρ σ H o Q},R X.K κ G A bo own ρ σ H->f ρ=some o->(∀H',aI H H'->Q o H')->to σ H Q
theorem gZ:DP X κ none dR:=⟨_,LA,λ{G A bo own ρ σ H o Q} r e q=>by cases e;exact q H (aI.refl _)⟩
theorem cx(ha:DB X κ a fa):DP X κ (some a) (bO fa):=by
 obtain⟨ta,h1,h2⟩:=ha
 refine⟨_,LB h1,λ{G A bo own ρ σ H o Q} r e q=>?_⟩
 obtain⟨p,e1,e2⟩:=Option.bind_eq_some_iff.mp e
 obtain⟨i,e3,rfl⟩:=Option.map_eq_some_iff.mp e2
 refine h2 r e1 λx H1 s1 b1=>?_
 cases p<;>first|(cases e3;done)|skip
 cases e3
 exact⟨_,b1.int,q H1 s1⟩
theorem aW.cut{K:PySem.W.Frag}{H:Hp}{vs:List V}{l:List PV}(h:aW K κ H vs l)(lo hi:Option Int):aW K κ H (EX vs lo hi) (nE l lo hi):=by
 have e:∀n d o,HT.Bk n d o=xG n d o:=λn d o=>by cases o<;>rfl
 unfold EX nE
 rw[h.length,e,e]
 exact(h.drop _).take _
theorem iX{p2:Pos}{lo hi:Option Expr}{fl fh:xH}(ha:DB X κ a fa)(hl:DP X κ lo fl)(hh:DP X κ hi fh):DO X κ (.Subscript a (.Slice lo hi none p2) pos) (v9 fa fl fh):=by
 obtain⟨ta,h1,h2⟩:=ha
 obtain⟨tl,h3,h4⟩:=hl
 obtain⟨th,h5,h6⟩:=hh
 refine⟨_,zq Dr h1 h3 h5,λ{G A bo own ρ σ H p Q} r e q=>?_⟩
 obtain⟨p1,e1,e2⟩:=Option.bind_eq_some_iff.mp e
 obtain⟨o1,e3,e4⟩:=Option.bind_eq_some_iff.mp e2
 obtain⟨o2,e5,e6⟩:=Option.bind_eq_some_iff.mp e4
 refine h2 r e1 λx H1 s1 b1=>h4 (r.mono s1) e3 λH2 s2=>h6 ((r.mono s1).mono s2) e5 λH3 s3=>?_
 cases p1<;>first|(cases e6;done)|skip
 cases e6
 have NQ:=(s1.trans s2).trans s3
 obtain⟨a,vs,rfl,q1,q2⟩:=(b1.zS (s2.trans s3)).lst aE
 refine⟨a,vs,rfl,q1.sq,λn hn=>q _ _ (NQ.trans (bK hn)) ?_⟩
 obtain⟨a,ws,l,w1,w2,w3,w4⟩:=(r.mono NQ).vq hn (q2.cut o1 o2)
 refine⟨a,ws,l,w1,w2,?_,w4⟩
 cases w1
 exact NQ.free hn
noncomputable def Tt:Nat->String
 |0=> "int"
 |1=> "bool"
 |2=> "str"
 |3=> "list"
 |4=> "tuple"
 |_=> "NoneType"
theorem Qb(K:PySem.W.Frag):∀j,j<6->∀k,k<5->PySem.W.kitOne K (.type (Tt j)) (.type (Tt k))=some (j==k||(k==0&&j==1)):=by
 intro j hj k hk
 rcases j with _|_|_|_|_|_|j<;>first|omega|(rcases k with _|_|_|_|_|k<;>first|omega|rfl)
theorem Ab(k:Nat)(hk:k<5):hX X (.builtin "isinstance") (λxs H Q=>∃x p,xs=[x,.ty (Tt k)]/\Rep X.K κ H x p/\DH p≠6/\Q (.bl (BL k p)) H):=by
 intro pins s σ H xs us Q I r h
 obtain⟨x,p,rfl,rp,h6,q⟩:=h
 obtain⟨u,c,rfl,ru,rc⟩:=vals2 r
 cases rc
 have fin:∀tk:Nat,EP X pins σ Q (.bool (BL k p)) {s with toks:=tk}:=λtk=>⟨.bl _,H,I.tok _,rfl,q⟩
 have Qc:=λj hj=>Qb X.K j hj k hk
 cases rp with
 |non=>cases ru;exact PySem.W.kia_one PySem.W.kitx_none I.oB True.intro (Qc 5 (by decide)) (λz=>nomatch z) fin
 |bl b=>cases ru;exact PySem.W.kia_one PySem.W.kitx_bool I.oB True.intro (Qc 1 (by decide)) (λz=>nomatch z) fin
 |int i=>obtain⟨t,rfl⟩:=ru;exact PySem.W.kia_one PySem.W.kitx_int I.oB True.intro (Qc 0 (by decide)) (λz=>nomatch z) fin
 |str i=>obtain⟨t,rfl⟩:=ru;exact PySem.W.kia_one PySem.W.kitx_str I.oB True.intro (Qc 2 (by decide)) (λz=>nomatch z) fin
 |lst h1 _=>
  cases ru
  obtain⟨_,_,pl,_⟩:=I.list h1.sq
  obtain⟨o,ho,hc,_⟩:=pl.isList
  exact PySem.W.kia_one PySem.W.kitx_list I.oB ⟨o,ho,hc⟩ (Qc 3 (by decide)) (λz=>nomatch z) fin
 |tup h1 _=>
  cases ru
  obtain⟨_,_,pl,_⟩:=I.tuple h1
  obtain⟨o,ho,hc,_⟩:=pl
  exact PySem.W.kia_one PySem.W.kitx_tuple I.oB ⟨o,ho,hc⟩ (Qc 4 (by decide)) (λz=>nomatch z) fin
 |ins _ _ _=>exact absurd rfl h6
theorem we{x:Str}{p2:Pos}(k:Nat)(hk:k<5)(hv:bootBuiltins x=some (.type (Tt k)))(ha:DB X κ a fa)(hm:X.mg "isinstance" =none)(Qd:X.mg x=none)(hg:Gl X "isinstance")(Tu:Gl X x)(hn:x≠ "__name__")(hd:(x==("__debug__" :Str))=false)
  (hs:starEach [a,.Name x p2] X.env=(false,eval a X.env)::starEach [.Name x p2] X.env)(qe:starEach [.Name x p2] X.env=(false,eval (.Name x p2) X.env)::starEach [] X.env)(hpl:(backTo pos (starEach [.Name x p2] X.env)).any (·.1)=false):DE X κ (.Call (.Name "isinstance" p) [a,.Name x p2] [] pos) (bb (RU k) fa):=by
 obtain⟨ta,h1,h2⟩:=ha
 refine⟨_,iU (Ab (κ:=κ) k hk) hg hm PyProof.Rows.boot_isinstance (aM h1 (aM (Lj Tu Qd hv (v:=.ty (Tt k)) rfl hn hd) bJ qe) hs) (he:=hs) (hpl:=hpl),λ{G A bo own ρ σ H p Q} r e q=>?_⟩
 obtain⟨p1,e1,e2⟩:=Option.bind_eq_some_iff.mp e
 refine h2 r e1 λx H1 s1 b1=>?_
 unfold RU at e2
 split at e2
 ·cases e2
 ·cases e2
  exact⟨_,p1,rfl,b1.full aE,by assumption,q _ H1 s1 (.bl _)⟩
end
noncomputable def kl0:Kl:=⟨λ_=>0,λ_=>[]⟩
theorem Fh{P:Program}{w:World}{K:PySem.W.Frag}{mg mb:Str->Option Value}{CX:Hg}{k:Nat}{fa a:Addr}{fd:FuncData}{x:Str}{sp:Sp}{s₁:Shared}{vs:List Value}{ns:List Int}
  (KX:K.In s₁.heap)(RK:s₁.heap.Ns mainGlobals mg)(hb:s₁.heap.Ns builtinsNs mb)(Zi:∀x:Str,x≠ "__name__" ->mb x=bootBuiltins x)(WD:s₁.heap.NoLimit)(hg:s₁.gens=#[])
  (ha:s₁.heap.get? a=some {cls:=.type "list",data:=.seq vs.toArray})(hi:IntsAre vs ns)(hl:ns.length<=sizeLine)(hr:b7 k callerA)
  (F:∀base:Heap,K.In base->base.Ns mainGlobals mg->aG P w K mg base CX k fa fd [x] sp)(Tv:∀(s:Shared) (u:Value),BindsTo s fd ⟨[u],[]⟩ [(x,u)])
  (Nw:∀H:Hp,S2 H->SL K H a (ns.map V.int)->sp [.ref a] H (λv _=>v=.bl true) λ_ _ _=>False)
  (Zj:∀H e s',CX [] H s₁ (λ_ _ _=>False) e s'->False):
  codeAny (model P w) callerA (.call (.ref fa) ⟨[.ref a],[]⟩) (λr s'=>r=.ok (.ret (.bool true))/\OldK s₁.heap s'.heap/\s'.os=s₁.os/\AllBare s'.gens) s₁:=by
 have rv:=qq hi
 have WE:=hi.length
 have core:∀H:Hp,S2 H->SL K H a (ns.map V.int)->sr P w H s₁.heap->(∀b,H b≠none->b=a)->(H a≠none->K.lookup a=none)->
   codeAny (model P w) callerA (.call (.ref fa) ⟨[.ref a],[]⟩) (λr s'=>r=.ok (.ret (.bool true))/\OldK s₁.heap s'.heap/\s'.os=s₁.os/\AllBare s'.gens) s₁:=by
  intro H hO hS dZ hA hK
  have DV:∀{b:Addr} {o:Obj},s₁.heap.get? b=some o->H b=none->(xg s₁.heap H).get? b=some o:=λe n=>G0 e n
  have SQ:∀{b:Addr} {o:Obj} {es:Array DictEntry} {ep:Nat},s₁.heap.get? b=some o->o.data=.dict es ep->H b=none:=λ{b o es ep} e d=>by
   cases q:H b with
   |none=>rfl
   |some u=>
    have e':b=a:=hA b (by rw[q];simp)
    subst e'
    rw[ha]at e;cases e
    have d':Data.seq vs.toArray _=Data.dict es ep:=d
    cases d'
  have U6:∀{b:Addr} {m:Str->Option Value},s₁.heap.Ns b m->(xg s₁.heap H).Ns b m:=λ{b m} ⟨o,es,ep,e,d,r⟩=>⟨o,es,ep,DV e (SQ e d),d,r⟩
  have X3:K.In (xg s₁.heap H):=λb o e=>DV (KX b o e) (by
   cases q:H b with
   |none=>rfl
   |some u=>
    have e':b=a:=hA b (by rw[q];simp)
    subst e'
    rw[hK (by rw[q];simp)]at e;cases e)
  have hM:Mod K mg (xg s₁.heap H):=⟨X3,U6 RK,⟨mb,U6 hb,Zi⟩,let⟨mc,h1,h2⟩:=WD;⟨mc,U6 h1,h2⟩⟩
  have e0:Bz P w K mg (xg s₁.heap H) callerA [] s₁ H:=⟨rfl,hM,λb o e=>Lh e,Nat.le_of_eq (EL _ _),trivial,λb hb=>absurd (show b∈([]:List Addr)from hb) (by simp),dZ,.of_eq hg⟩
  refine codeAny_mono ((F _ X3 (U6 RK)).run callerA [] s₁ H ⟨[.ref a],[]⟩ [.ref a] [.ref a] _ _ hr e0 (Tv s₁ (.ref a)) (.cons rfl .nil) (Nw H hO hS)) λr s' h=>?_
  cases r with
  |error e=>exact(Zj H e s' h).elim
  |ok fl=>
   cases fl with
   |next=>exact False.elim h
   |brk=>exact False.elim h
   |cont=>exact False.elim h
   |ret u=>
    obtain⟨v,H',os,bare,un,WG,r',q⟩:=h
    have q':v=.bl true:=q
    subst q'
    obtain rfl:u=Value.bool true:=r'
    refine⟨rfl,OldK.of_keep λb o e=>?_,os,bare⟩
    cases q:H b with
    |none=>exact un.keep b o e q (by intro z;exact absurd (show b∈([]:List Addr)from z) (by simp)) (by simp)
    |some u=>
     rcases hO b with z|⟨ob,xs,z⟩
     ·rw[q]at z;cases z
     ·have z2:=un.sT b ob _ z
      obtain⟨e1,_⟩:=dZ b _ z
      obtain⟨e2,_⟩:=WG b _ z2
      rw[e]at e1;cases e1
      exact e2
 cases hk:K.lookup a with
 |some o=>
  have e:=KX a o hk
  rw[ha]at e
  cases e
  refine core (λ_=>none) (λ_=>.inl rfl) (.inr ⟨vs,_,hk,by rw[WE];exact hl,rv⟩) (λb u z=>by have z':(none:Option HO)=some u:=z;cases z') (λb z=>absurd rfl z) λz=>absurd rfl z
 |none=>
  refine core (λb=>if b=a then some (.frz {cls:=.type "list",data:=.seq vs.toArray} (.lst (ns.map V.int)))else none) (λb=>?_) (.inl (.inr ⟨{cls:=.type "list",data:=.seq vs.toArray},if_pos rfl⟩)) (λb u z=>?_) (λb z=>?_) λ_=>hk
  ·by_cases hb:b=a
   ·exact .inr ⟨_,_,if_pos hb⟩
   ·exact .inl (if_neg hb)
  ·by_cases hb:b=a
   ·have z':=(if_pos hb).symm.trans z
    cases z'
    subst hb
    exact⟨ha,by rw[List.length_map];exact hl,vs,_,rv,ha⟩
   ·have z':=(if_neg hb).symm.trans z
    cases z'
  ·by_cases hb:b=a
   ·exact hb
   ·exact absurd (if_neg hb) z
theorem ints_rep{K:PySem.W.Frag}{κ:Kl}{H:Hp}:∀ns:List Int,aW K κ H (ns.map V.int) (ns.map PV.int)
 |[]=>.nil
 |n::ns=>.cons (.int n) (ints_rep ns)
section
variable{X:Cx}{κ:Kl}{fr:Bool}{e a b c:Expr}{f fa fb fc:Den}{p pos:Pos}
theorem oZ{x:Str}{n:Int}(h:∃t,X.mg x=some (.int n t))(hg:Gl X x:=by rfl)(hd:(x==("__debug__" :Str))=false:=by decide):DE X κ (.Name x pos) (dC (.int n)):=by
 obtain⟨t,h⟩:=h
 exact⟨_,mG (v:=.int n) hg h ⟨t,rfl⟩ hd,λ{G A bo own ρ σ H p Q} r e q=>by cases e;exact q _ H (aI.refl _) (.int n)⟩
theorem vv{p2:Pos}(ha:DB X κ a fa)(hm:X.mg "isinstance" =none)(Qd:X.mg "int" =none)(hg:Gl X "isinstance" :=by rfl)(Tu:Gl X "int" :=by rfl)(hs:starEach [a,.Name "int" p2] X.env=(false,eval a X.env)::starEach [.Name "int" p2] X.env:=by rfl)(qe:starEach [.Name "int" p2] X.env=(false,eval (.Name "int" p2) X.env)::starEach [] X.env:=by rfl)
 (hpl:(backTo pos (starEach [.Name "int" p2] X.env)).any (·.1)=false:=by rfl):DE X κ (.Call (.Name "isinstance" p) [a,.Name "int" p2] [] pos) (bb (RU 0) fa):=we 0 (by decide) PyProof.Rows.boot_int ha hm Qd hg Tu (by decide) (by decide) hs qe hpl
theorem tP{p2:Pos}(ha:DB X κ a fa)(hm:X.mg "isinstance" =none)(Qd:X.mg "bool" =none)(hg:Gl X "isinstance" :=by rfl)(Tu:Gl X "bool" :=by rfl)(hs:starEach [a,.Name "bool" p2] X.env=(false,eval a X.env)::starEach [.Name "bool" p2] X.env:=by rfl)(qe:starEach [.Name "bool" p2] X.env=(false,eval (.Name "bool" p2) X.env)::starEach [] X.env:=by rfl)
 (hpl:(backTo pos (starEach [.Name "bool" p2] X.env)).any (·.1)=false:=by rfl):DE X κ (.Call (.Name "isinstance" p) [a,.Name "bool" p2] [] pos) (bb (RU 1) fa):=we 1 (by decide) PyProof.Rows.boot_bool ha hm Qd hg Tu (by decide) (by decide) hs qe hpl
end
end L2.D
namespace L2.D
open PySem PySem.Spec PyProof.Rows
open Classical
theorem Fi{n l1 l2:Nat}(h1:l1<n)(h2:l2<n):ZipApart (n+4) (n+2) (n+3) n (n+1) l1 l2:=by
 refine⟨?_,?_,?_,?_,?_,?_,?_,?_,?_,?_,?_,?_,?_,?_,?_,?_,?_,?_⟩<;>(intro(e:(_:Nat)=_);revert e h1 h2;simp only[imp_false];intros;omega)
section
variable{X:Cx}{pins:List (Addr×Obj)}{σ:St}{H:Hp}{s:Shared}{h':Heap}
theorem NR{ch:List Addr}(hf:∀b∈ch,qi X pins H b):∀b∈ch,(b∈X.ex\/X.s₀.heap.objs.size<=b)/\b≠X.env.locals/\(∀x c,X.env.cells.lookup x=some c->c≠b)/\∀p∈X.pn++pins,p.1≠b:=λb hb=>by
 obtain⟨f0,f1,f2,f3,f4,f5⟩:=hf b hb
 exact⟨f3,f1,f4,f5⟩
theorem _root_.L2.Inv.DX{t':Nat}{ch:List Addr}(I:Inv X pins σ H s)(k:∀b o,b∉ch->s.heap.get? b=some o->h'.get? b=some o)(hf:∀b∈ch,qi X pins H b):Inv X pins σ H {s with heap:=h',toks:=t'}:=by
 have Nm:∀b u,H b=some u->b∉ch:=λb u e z=>by rw[(hf b z).1]at e;cases e
 refine I.step (g':=s.gens) (d':=s.drawn) (ch:=ch) (NR hf) (λb o _ _ hc e _=>k b o hc e) (λb o _ _ hc e _=>⟨o.slots,k b o hc e⟩) (λ_ _ _ _ n=>n)
  (λb o hc e=>⟨o,k b o hc e⟩) (λ_ _ e=>e) (λ_ _ _ e=>e) (λb ps e=>⟨#[],by rw[e];simp⟩) (λm hm=>?_) (λb u e=>?_) I.bare
 ·obtain⟨o,es,ep,ho,r⟩:=hm
  exact⟨o,es,ep,k _ o (λz=>(hf _ z).2.1 rfl) ho,r⟩
 ·refine(I.dZ b u e).xc (λc v hc q=>k c v ?_ q) (λ_ q=>q) λ_ _ q=>q
  rcases hc with z|z
  ·rw[z];exact Nm b u e
  ·exact Nm c _ z
theorem _root_.L2.Inv.wg{t':Nat}{ch:List Addr}{u:HO}(I:Inv X pins σ H s)(k:∀b o,b∉ch->s.heap.get? b=some o->h'.get? b=some o)(hf:∀b∈ch,qi X pins H b)
  (new:hU X.prog X.w (upd H s.heap.objs.size u) h' s.heap.objs.size u):Inv X pins σ (upd H s.heap.objs.size u) {s with heap:=h',toks:=t'}:=by
 have fr:H s.heap.objs.size=none:=I.dZ.fresh (Nat.le_refl _)
 have Nm:∀b u,H b=some u->b∉ch:=λb u e z=>by rw[(hf b z).1]at e;cases e
 have sm:aI H (upd H s.heap.objs.size u):=bK fr
 refine I.step (g':=s.gens) (d':=s.drawn) (ch:=ch) (NR hf) (λb o _ _ hc e _=>k b o hc e) (λb o _ _ hc e _=>⟨o.slots,k b o hc e⟩) (λb o _ e n=>?_)
  (λb o hc e=>⟨o,k b o hc e⟩) (λ_ _ e=>sm _ _ e) (λ_ _ _ e=>sm _ _ e) (λb ps e=>⟨#[],by rw[sm _ _ e];simp⟩) (λm hm=>?_) (λb v e=>?_) I.bare
 ·rw[aL (Nat.ne_of_lt (Heap.lt_size e))]
  exact n
 ·obtain⟨o,es,ep,ho,r⟩:=hm
  exact⟨o,es,ep,k _ o (λz=>(hf _ z).2.1 rfl) ho,r⟩
 ·by_cases hb:b=s.heap.objs.size
  ·subst hb
   rw[aO]at e
   cases e
   exact new
  ·rw[aL hb]at e
   refine(I.dZ b v e).xc (λc v hc q=>k c v ?_ q) (λc q=>sm _ _ q) λc xs q=>sm _ _ q
   rcases hc with z|z
   ·rw[z];exact Nm b _ e
   ·exact Nm c _ z
end
noncomputable def WH(K:PySem.W.Frag)(l1 l2:Addr):It:=
 ⟨λi H=>∃xs ys x y,iE K H l1 xs/\iE K H l2 ys/\xs[i]?=some x/\ys[i]?=some y,
  λi H v H'=>∃p x y,H p=none/\v=.ref p/\H'=upd H p (.tup [x,y])/\(∀xs,iE K H l1 xs->xs[i]?=some x)/\∀ys,iE K H l2 ys->ys[i]?=some y,
  λi H=>∃xs ys,iE K H l1 xs/\iE K H l2 ys/\(xs.length<=i\/ys.length<=i)⟩
noncomputable def Zk(z TI TO i1 i2 l1 l2:Addr)(i:Nat)(h:Heap):Prop:=IsZip h z TI TO .none/\IsPair h TI (.ref i1) (.ref i2)/\(∃a b,IsPair h TO a b)/\h.IsListIter i1 l1 i/\h.IsListIter i2 l2 i
theorem HZ{P:Program}{w:World}{K:PySem.W.Frag}{elts:List Expr}{x1:Nat}{pos:Pos}{z TI TO i1 i2 l1 l2:Addr}(D:ZipApart z TI TO i1 i2 l1 l2):
  Turn P w K (.Tuple elts x1 pos) (WH K l1 l2) [z,TI,TO,i1,i2] z (Zk z TI TO i1 i2 l1 l2) where
 mem:=by simp
 obj:=λi h st b hb=>by
  obtain⟨hz,Fj,⟨a,c,GY⟩,⟨o1,e1,c1,d1⟩,⟨o2,e2,c2,d2⟩⟩:=st
  have jx:b=z\/b=TI\/b=TO\/b=i1\/b=i2:=by simpa using hb
  rcases jx with rfl|rfl|rfl|rfl|rfl
  ·exact⟨_,hz,λv q=>by cases q⟩
  ·exact⟨_,Fj,λv q=>by cases q⟩
  ·exact⟨_,GY,λv q=>by cases q⟩
  ·exact⟨_,e1,λv q=>by rw[d1]at q;cases q⟩
  ·exact⟨_,e2,λv q=>by rw[d2]at q;cases q⟩
 keep:=λi h h' st k=>by
  obtain⟨hz,Fj,⟨a,c,GY⟩,h1,h2⟩:=st
  exact⟨k _ (by simp) _ hz,k _ (by simp) _ Fj,⟨a,c,k _ (by simp) _ GY⟩,h1.at λo e=>k _ (by simp) o e,h2.at λo e=>k _ (by simp) o e⟩
 item:=by
  intro X hP hw hK hc i pins s σ H E I hf st hg
  subst hP hw hK
  obtain⟨xs,ys,x,y,RZ,NS,hx,hy⟩:=hg
  obtain⟨its,rv,p,Zl⟩:=I.list RZ
  obtain⟨mU,Mb,p2,R0⟩:=I.list NS
  obtain⟨u,hu,ru⟩:=rv.get hx
  obtain⟨u2,Zm,WI⟩:=Mb.get hy
  obtain⟨hz,Fj,⟨a,c,GY⟩,h1,h2⟩:=st
  refine wpAny_pyNext_zip_item D hz Fj GY h1 h2 p.isList p2.isList (x:=u) (y:=u2) (by simpa using hu) (by simpa using Zm) λh' a1 a2 a3 a4 a5 a6 a7=>?_
  refine⟨.ref s.heap.objs.size,rfl,wpAny_letOwnedTupleGo_zip (s:={s with heap:=h'}) a1 λMc b1 b2=>?_⟩
  have WJ:z<s.heap.objs.size:=Heap.lt_size hz
  have up:∀b o,b≠z->h'.get? b=some o->Mc.get? b=some o:=λb o hb e=>(b2.2 b hb).trans e
  have kp:∀b o,b∉[z,TO,i1,i2]->s.heap.get? b=some o->Mc.get? b=some o:=λb o hb e=>by
   have jx:b≠z/\b≠TO/\b≠i1/\b≠i2:=by simpa using hb
   exact up b o jx.1 (a7 b o jx.1 jx.2.1 jx.2.2.1 jx.2.2.2 e)
  have H9:IsPair Mc s.heap.objs.size u u2:=up _ _ (Nat.ne_of_gt WJ) a5
  have fr:H s.heap.objs.size=none:=I.dZ.fresh (Nat.le_refl _)
  refine⟨.ref s.heap.objs.size,upd H s.heap.objs.size (.tup [x,y]),?_,rfl,?_,?_,?_⟩
  ·refine I.wg (t':=s.toks) (ch:=[z,TO,i1,i2]) kp (λb hb=>hf b ?_) ?_
   ·have jx:b=z\/b=TO\/b=i1\/b=i2:=by simpa using hb
    rcases jx with rfl|rfl|rfl|rfl<;>simp
   ·exact⟨⟨by show 2<=sizeLine;decide,⟨_,H9,rfl⟩⟩,[u,u2],.cons ru (.cons WI .nil),⟨_,H9,rfl,_,rfl⟩⟩
  ·exact⟨_,x,y,fr,rfl,rfl,λxs' h=>by rw[I.lB h RZ];exact hx,λys' h=>by rw[I.lB h NS];exact hy⟩
  ·exact⟨b1,up _ _ D.TIz (a7 _ _ D.TIz D.TITO D.TIi1 D.TIi2 Fj),⟨_,_,up _ _ D.TOz a2⟩,a3.at λo e=>up _ _ D.i1z e,a4.at λo e=>up _ _ D.i2z e⟩
  ·intro b hb
   have:b<s.heap.objs.size:=by
    have jx:b=z\/b=TI\/b=TO\/b=i1\/b=i2:=by simpa using hb
    obtain⟨o1,e1,_⟩:=h1
    obtain⟨o2,e2,_⟩:=h2
    rcases jx with rfl|rfl|rfl|rfl|rfl
    ·exact Heap.lt_size hz
    ·exact Heap.lt_size Fj
    ·exact Heap.lt_size GY
    ·exact Heap.lt_size e1
    ·exact Heap.lt_size e2
   rw[aL (Nat.ne_of_lt this)]
   exact(hf b hb).1
 done:=by
  intro X hP hw hK hc i pins s σ H E I hf st hg
  subst hP hw hK
  obtain⟨xs,ys,RZ,NS,Qe⟩:=hg
  obtain⟨its,rv,p,Zl⟩:=I.list RZ
  obtain⟨mU,Mb,p2,R0⟩:=I.list NS
  have l1:=rv.length
  have l2:=Mb.length
  obtain⟨hz,Fj,⟨a,c,GY⟩,h1,h2⟩:=st
  refine wpAny_pyNext_zip_end (I.ok.hd hc) D hz Fj GY h1 h2 p.isList p2.isList (by
   rcases Qe with q|q
   ·exact .inl (by simp;omega)
   ·exact .inr (by simp;omega)) λh' k=>⟨rfl,I.DX (t':=s.toks) (ch:=[z,TO,i1,i2]) (λb o hb e=>?_) λb hb=>hf b ?_⟩
  ·have jx:b≠z/\b≠TO/\b≠i1/\b≠i2:=by simpa using hb
   exact k b o jx.1 jx.2.1 jx.2.2.1 jx.2.2.2 e
  ·have jx:b=z\/b=TO\/b=i1\/b=i2:=by simpa using hb
   rcases jx with rfl|rfl|rfl|rfl<;>simp
 self:=λ_ _ _ _ _ st h=>wpAny_pyIter_zip st.1 h
section
variable{X:Cx}{κ:Kl}{a b:Expr}{fa fb:Den}{elts:List Expr}{x1:Nat}{tp:Pos}
noncomputable def WK(K:PySem.W.Frag)(ta:TA):TI:=λσ H R=>ta σ H λvs H1=>∃l1 l2 xs ys,vs=[.ref l1,.ref l2]/\iE K H1 l1 xs/\iE K H1 l2 ys/\R (WH K l1 l2) H1
theorem Qf{ta:TA}{p pos:Pos}(hg:Gl X "zip")(hm:X.mg "zip" =none)(ha:PA X [a,b] ta)(hs:starEach [a,b] X.env=[(false,eval a X.env),(false,eval b X.env)]:=by rfl)(qe:starEach [b] X.env=[(false,eval b X.env)]:=by rfl):
  PI X (.Tuple elts x1 tp) (.Call (.Name "zip" p) [a,b] [] pos) (WK X.K ta):=by
 intro pins s σ H R I h
 refine Call_ (lu I hg hm PyProof.Rows.boot_zip (PyProof.Rows.callWith_type1 (de (ha pos pins s σ H _ I h) λus s1 cv=>?_) (by rw[hs,qe]) (by rw[qe];rfl)))
 obtain⟨vs,H1,I1,r1,q1⟩:=cv
 obtain⟨l1,l2,xs,ys,rfl,RZ,NS,q⟩:=q1
 obtain⟨u1,u2,rfl,r1,r2⟩:=vals2 r1
 cases r1
 cases r2
 obtain⟨its,rv,p1,z1⟩:=I1.list RZ
 obtain⟨mU,Mb,p2,z2⟩:=I1.list NS
 have Zn:l1<s1.heap.objs.size:=by
  obtain⟨o,ho,_⟩:=p1.isList
  exact Heap.lt_size ho
 have U7:l2<s1.heap.objs.size:=by
  obtain⟨o,ho,_⟩:=p2.isList
  exact Heap.lt_size ho
 have D:=Fi Zn U7
 refine call_zip_2 p1.isList p2.isList λh' hz Fj GY WL Tw qd hk=>?_
 refine wpAny_pyIter_zip (s:={s1 with heap:=h'}) hz ?_
 refine⟨s1.heap.objs.size+4,[s1.heap.objs.size+4,s1.heap.objs.size+2,s1.heap.objs.size+3,s1.heap.objs.size,s1.heap.objs.size+1],_,_,H1,rfl,I1.kept (t':=s1.toks) hk,HZ D,⟨hz,Fj,⟨_,_,GY⟩,WL,Tw⟩,λb hb=>?_,q⟩
 have jx:b=s1.heap.objs.size+4\/b=s1.heap.objs.size+2\/b=s1.heap.objs.size+3\/b=s1.heap.objs.size\/b=s1.heap.objs.size+1:=by simpa using hb
 have hle:s1.heap.objs.size<=b:=by rcases jx with rfl|rfl|rfl|rfl|rfl<;>omega
 exact I1.EO hle (I1.dZ.fresh hle)
theorem Ic{K:PySem.W.Frag}{Gs:Hp}{A:Addr->Prop}{l1 l2:Addr}{vs ws:List V}{l m:List PV}(h1:SL K Gs l1 vs)(q1:aW K κ (hide A Gs) vs l)(h2:SL K Gs l2 ws)(q2:aW K κ (hide A Gs) ws m):vt K κ Gs A (WH K l1 l2) (List.zipWith (λx y=>PV.tup [x,y]) l m):=λi H2 s=>by
 have z1:iE K H2 l1 vs:=(s.sl h1).sq
 have z2:iE K H2 l2 ws:=(s.sl h2).sq
 refine⟨λp e=>?_,λhl=>⟨vs,ws,z1,z2,?_⟩⟩
 ·rw[List.getElem?_zipWith]at e
  cases e1:l[i]? with
  |none=>rw[e1]at e;cases e
  |some x=>
   cases e2:m[i]? with
   |none=>rw[e1,e2]at e;cases e
   |some y=>
    rw[e1,e2]at e
    cases e
    obtain⟨v,g1,r1⟩:=q1.get e1
    obtain⟨w,g2,r2⟩:=q2.get e2
    refine⟨⟨vs,ws,v,w,z1,z2,g1,g2⟩,λz H3 cv=>?_⟩
    obtain⟨p',x',y',y0,y1,y2,y3,y4⟩:=cv
    subst y1 y2
    have k1:=y3 vs z1
    have k2:=y4 ws z2
    rw[g1]at k1
    rw[g2]at k2
    cases k1
    cases k2
    refine⟨bK y0,λB hB sb=>.tup (ll.of ?_) (.cons (r1.mono (sb.trans (bC (bK y0)))) (.cons (r2.mono (sb.trans (bC (bK y0)))) .nil))⟩
    rw[bQ λz=>hB _ z y0]
    exact aO
 ·rw[List.length_zipWith]at hl
  rw[q1.length,q2.length]
  omega
theorem Qg{p pos:Pos}(ha:DE X κ a fa)(hb:DE X κ b fb)(hm:X.mg "zip" =none)(hg:Gl X "zip" :=by rfl)(hs:starEach [a,b] X.env=[(false,eval a X.env),(false,eval b X.env)]:=by rfl)(qe:starEach [b] X.env=[(false,eval b X.env)]:=by rfl):
  DI X κ (.Tuple elts x1 tp) (.Call (.Name "zip" p) [a,b] [] pos) (BM fa fb):=by
 obtain⟨ta,h1,h2⟩:=ha
 obtain⟨tb,h3,h4⟩:=hb
 refine⟨_,Qf hg hm (aM h1 (aM h3 bJ qe) (by rw[hs,qe])) hs qe,λ{G A bo own ρ σ H ps Q} r e q=>?_⟩
 obtain⟨p1,e1,e2⟩:=Option.bind_eq_some_iff.mp e
 obtain⟨p2,e3,e4⟩:=Option.bind_eq_some_iff.mp e2
 obtain⟨l,e5,e6⟩:=Option.bind_eq_some_iff.mp e4
 obtain⟨m,e7,e8⟩:=Option.bind_eq_some_iff.mp e6
 cases e8
 refine h2 r e1 λv H1 s1 z1=>h4 (r.mono s1) e3 λw H2 s2 z2=>?_
 cases p1<;>first|(cases e5;done)|skip
 cases e5
 cases p2<;>first|(cases e7;done)|skip
 cases e7
 have R1:=z1.mono (bC s2)
 cases R1 with
 |lst y1 y2=>
  cases z2 with
  |lst y3 y4=>
   exact⟨_,_,_,_,rfl,((aE (A:=cE A own ρ)).sl y1).sq,((aE (A:=cE A own ρ)).sl y3).sq,q _ H2 (s1.trans s2) (Ic (xQ.sl y1) (by rw[oT];exact y2) (xQ.sl y3) (by rw[oT];exact y4))⟩
end
end L2.D
namespace L2.D
open PySem PySem.Spec PyProof.Rows PySem.SeqAt
open Classical
theorem xV:∀xs ys:List Int,qz xs ys=HT.lexLt xs ys
 |[],[]=>rfl
 |[],_::_=>rfl
 |_::_,[]=>rfl
 |x::xs,y::ys=>by
  rw[HT.nA,<-xV xs ys]
  rfl
theorem xW{K:PySem.W.Frag}{κ:Kl}{H:Hp}:∀{vs:List V} {l:List PV} {ns:List Int},aW K κ H vs l->iC l=some ns->vs=ns.map V.int
 |_,_,_,.nil,h=>by cases h;rfl
 |_,p::_,_,.cons r t,h=>by
  cases p<;>first|(cases h;done)|skip
  obtain⟨cs,h1,rfl⟩:=Option.map_eq_some_iff.mp h
  rw[List.map_cons,<-xW t h1,r.GW]
theorem tQ:∀xs:List Int,HT.lexLt xs xs=false
 |[]=>rfl
 |x::xs=>by rw[HT.nA,if_pos rfl,tQ xs]
theorem xX{K:PySem.W.Frag}{κ:Kl}{H:Hp}{x:V}{i:Int}{l:List PV}{ns:List Int}(r:Rep K κ H x (.tup [.int i,.lst l]))(h:iC l=some ns):∃a la,x=.ref a/\ll K H a [.int i,.ref la]/\SL K H la (ns.map V.int):=by
 cases r with
 |tup q1 w=>
  cases w with
  |cons r1 w=>
   cases w with
   |cons r2 w=>
    cases w
    cases r1
    cases r2 with
    |lst q2 w2=>
     rw[xW w2 h]at q2
     exact⟨_,_,rfl,q1,q2⟩
section
variable{prog:Program}{w:World}{A:Around}{E:Value->Shared->Prop}{s:Shared}
theorem Fm(x y:Value)(b:Bool):keyLt' (tuples' b) x y=(do
 let xs<-Builtin.List.listItems x;let ys<-Builtin.List.listItems y
 for ((p,q),i)in(xs.toList.zip ys.toList).zipIdx do
  if !(<-eqBool p q)then return<-oneLt' (b&&i==0) p q
 return decide (xs.size<ys.size)):=rfl
theorem BY{a b:Addr}{u1 u2 w1 w2:Value}{e1 e2 r1 r2:Bool}{oa ob:Obj}{na nb:Nat}{Q:Bool->Shared->Prop}(ha:s.heap.get? a=some oa)(da:oa.data=.seq #[u1,u2] na)(hb:s.heap.get? b=some ob)(db:ob.data=.seq #[w1,w2] nb)
  (q1:EqAt A s u1 w1 e1)(q2:EqAt A s u2 w2 e2)(l1:e1=false->∀Q',Q' r1 s->wpAny (model prog w) A (oneLt' true u1 w1) Q' E s)(l2:e2=false->∀Q',Q' r2 s->wpAny (model prog w) A (oneLt' false u2 w2) Q' E s)
  (h:Q (if e1 then(if e2 then false else r2)else r1) s):wpAny (model prog w) A (keyLt' (tuples' true) (.ref a) (.ref b)) Q E s:=by
 rw[Fm]
 refine wpAny_bind (listItems_at ha da ?_)
 refine wpAny_bind (listItems_at hb db ?_)
 simp only[List.zip_cons_cons,List.zip_nil_right,List.zipIdx_cons,List.zipIdx_nil,List.forIn_cons,List.forIn_nil]
 cases e1 with
 |false=>
  refine wpAny_bind (wpAny_bind (wpAny_bind (q1 prog w E _ ?_)))
  refine wpAny_bind (l1 rfl _ ?_)
  exact wpAny_pure (wpAny_pure (wpAny_pure h))
 |true=>
  refine wpAny_bind (wpAny_bind (wpAny_bind (q1 prog w E _ ?_)))
  refine wpAny_pure ?_
  cases e2 with
  |false=>
   refine wpAny_bind (wpAny_bind (q2 prog w E _ ?_))
   refine wpAny_bind (l2 rfl _ ?_)
   exact wpAny_pure (wpAny_pure (wpAny_pure h))
  |true=>
   refine wpAny_bind (wpAny_bind (q2 prog w E _ ?_))
   refine wpAny_pure (wpAny_pure (wpAny_pure ?_))
   exact h
theorem Ac{l m:Addr}{r:Bool}(h:Tb A s (.ref l) (.ref m) r){Q:Bool->Shared->Prop}(q:Q r s):wpAny (model prog w) A (oneLt' false (.ref l) (.ref m)) Q E s:=by
 rw[oneLt'_eq]
 simp only[Bool.false_eq_true,if_false]
 exact wpAny_bind (h prog w E _ (wpAny_truthy_bool q))
theorem BZ{a:Addr}{o:Obj}{u1 u2:Value}{n:Nat}{Q:Option Value->Shared->Prop}(ho:s.heap.get? a=some o)(hc:o.cls=.type "tuple")(hd:o.data=.seq #[u1,u2] n)(h:Q (some u1) s):wpAny (model prog w) A (firstOfTuple' (.ref a)) Q E s:=by
 show wpAny (model prog w) A (do
  if(<-typeOf (.ref a)) !=.type "tuple" then return none
  return(<-Builtin.List.listItems (.ref a))[0]?) Q E s
 refine wpAny_bind (wpAny_typeOf (T:= "tuple") ⟨o,ho,hc⟩ ?_)
 have ht:(Value.type "tuple" !=Value.type "tuple")=false:=by decide
 rw[ht]
 simp only[Bool.false_eq_true,if_false]
 exact wpAny_bind (listItems_at ho hd (wpAny_pure h))
noncomputable def xY(h:Heap)(v:Value)(i:Int):Prop:=∃a o t u2 n,v=.ref a/\h.get? a=some o/\o.cls=.type "tuple" /\o.data=.seq #[.int i t,u2] n
theorem tR:∀(ks:List Value),(∀v∈ks,∃i,xY s.heap v i)->∀(Q:List (Option Value)->Shared->Prop),(∀fs,(∀f∈fs,∃i t,f=some (Value.int i t))->fs.length=ks.length->Q fs s)->wpAny (model prog w) A (ks.mapM firstOfTuple') Q E s
 |[],_,Q,h=>by
  rw[List.mapM_nil]
  exact wpAny_pure (h [] (by simp) rfl)
 |k::ks,hk,Q,h=>by
  obtain⟨i,a,o,t,u2,n,rfl,ho,hc,hd⟩:=hk k (List.mem_cons_self ..)
  rw[List.mapM_cons]
  refine wpAny_bind (BZ ho hc hd ?_)
  refine wpAny_bind (tR ks (λv hv=>hk v (List.mem_cons_of_mem _ hv)) _ λfs h1 h2=>wpAny_pure (h _ (λf hf=>?_) (by simp[h2])))
  rcases List.mem_cons.mp hf with rfl|hf
  ·exact⟨i,t,rfl⟩
  ·exact h1 f hf
theorem vx{ks:List Value}(hk:∀v∈ks,∃i,xY s.heap v i)(Bm:ks≠[]){Q:SortKind->Shared->Prop}(h:Q (tuples' true) s):wpAny (model prog w) A (keyKind' ks.toArray) Q E s:=by
 rw[keyKind'_eq,List.mapM_toArray]
 refine wpAny_bind ?_
 rw[map_eq_pure_bind]
 refine wpAny_bind (tR ks hk _ λfs h1 h2=>wpAny_pure ?_)
 have ha:(fs.toArray.all λx=>x.isSome)=true:=by
  rw[List.all_toArray,List.all_eq_true]
  intro x hx
  obtain⟨i,t,rfl⟩:=h1 x hx
  rfl
 rw[if_pos ha]
 refine wpAny_bind (wpAny_rule ?_)
 obtain⟨vs,ns,ev,hi⟩:∃vs ns,fs.filterMap id=vs/\IntsAre vs ns/\vs.length=fs.length:=by
  clear ha h2
  induction fs with
  |nil=>exact⟨[],[],rfl,.nil,rfl⟩
  |cons f fs ih=>
   obtain⟨i,t,rfl⟩:=h1 f (List.mem_cons_self ..)
   obtain⟨vs,ns,e,q,ql⟩:=ih λg hg=>h1 g (List.mem_cons_of_mem _ hg)
   exact⟨.int i t::vs,i::ns,by rw[List.filterMap_cons,id,e],.cons i t q,by simp[ql]⟩
 obtain⟨hi,hl⟩:=hi
 have e1:fs.toArray.filterMap id=vs.toArray:=by
  rw[<-ev]
  simp
 rw[e1,oneTypeOnly'_eq,List.mapM_toArray,mapM_typeOf_ints hi]
 simp only[map_pure,pure_bind]
 cases vs with
 |nil=>
  exfalso
  rw[h2]at hl
  simp at hl
  exact Bm (List.eq_nil_of_length_eq_zero hl.symm)
 |cons v vs=>
  have xt:((List.map (λ_=>Value.type "int") (v::vs)).toArray.all λx=>x==Value.type "int")=true:=by
   simp only[List.all_toArray,List.all_map,List.all_eq_true]
   intro _ _
   rfl
  have h0:(List.map (λ_=>Value.type "int") (v::vs)).toArray[0]?=some (Value.type "int"):=by simp
  rw[h0]
  simp only[xt,if_true,pure_bind]
  exact wpAny_pure h
end
noncomputable def Fn(K:PySem.W.Frag)(κ:Kl)(H:Hp)(kI:Int->Int)(kL:Int->List Int)(p:Value×Value):Prop:=∃n t a,qg n=true/\p.2=.int n t/\p.1=.ref a/\Rep K κ H (.ref a) (.tup [.int (kI n),.lst ((kL n).map PV.int)])
noncomputable def NT(p:Value×Value):Nat:=jr (numOf p.2)
theorem iY:∀xs:List Int,iC (xs.map PV.int)=some xs
 |[]=>rfl
 |x::xs=>by
  rw[List.map_cons]
  unfold iC
  rw[iY xs]
  rfl
theorem Fn.pair{X:Cx}{pins:List (Addr×Obj)}{σ:St}{H:Hp}{s:Shared}{κ:Kl}{kI:Int->Int}{kL:Int->List Int}{p:Value×Value}(I:Inv X pins σ H s)(h:Fn X.K κ H kI kL p):∃i,xY s.heap p.1 i:=by
 obtain⟨n,t,a,_,_,e,r⟩:=h
 obtain⟨a',la,z,q1,q2⟩:=xX r (iY _)
 cases z
 obtain⟨its,rv,p1,_⟩:=I.tuple q1
 obtain⟨u1,u2,rfl,g1,g2⟩:=rv.two
 obtain⟨t1,rfl⟩:=g1
 obtain⟨o,ho,hc,n',hd⟩:=p1
 exact⟨kI n,a,o,t1,u2,n',e,ho,hc,hd⟩
theorem Fo{X:Cx}{pins:List (Addr×Obj)}{σ:St}{H:Hp}{s:Shared}{κ:Kl}{A:Around}{E:Value->Shared->Prop}{kI:Int->Int}{kL:Int->List Int}(I:Inv X pins σ H s)(hu:A.units+5<cLine)
  (ho:∀n m,qg n=true->qg m=true->(if kI n=kI m then qz (kL n) (kL m)else decide (kI n<kI m))=decide (jr n<jr m)):TS.zx X.prog X.w A E s (tuples' true) (Fn X.K κ H kI kL) NT:=by
 intro p q st Q hk ⟨n,t,a,Zo,e1,e2,r1⟩ ⟨m,t',b,Zp,e3,e4,r2⟩ h
 rw[lt'_eq]
 refine wpS_bind (wpS_get ?_)
 rw[hk,e2,e4]
 obtain⟨a',la,z,q1,q2⟩:=xX r1 (iY _)
 cases z
 obtain⟨b',lb,z,q3,q4⟩:=xX r2 (iY _)
 cases z
 obtain⟨its,rv,p1,_⟩:=I.tuple q1
 obtain⟨mU,Mb,p2,_⟩:=I.tuple q3
 obtain⟨u1,u2,rfl,g1,g2⟩:=rv.two
 obtain⟨w1,w2,rfl,g3,g4⟩:=Mb.two
 obtain⟨t1,rfl⟩:=g1
 obtain⟨t2,rfl⟩:=g3
 cases g2
 cases g4
 obtain⟨oa,ha,ca,na,da⟩:=p1
 obtain⟨ob,hb,cb,nb,db⟩:=p2
 have X4:A.units<cLine:=by omega
 obtain⟨l1,v1,Zq,_⟩:=I.list q2.sq
 obtain⟨l2,v2,U8,_⟩:=I.list q4.sq
 refine wpS_bind (wpS_lift (wpAny_attempt (BY ha da hb db (e1:=decide (kI n=kI m)) (e2:=decide (kL n=kL m)) (r1:=decide (kI n<kI m)) (r2:=HT.lexLt (kL n) (kL m)) ?_ (E6 I q2.sq q4.sq X4) (λ_ Q' hq=>oneLt_int hq)
  (λ_ Q' hq=>Ac (BI Zq.isList U8.isList (by simpa using intsAre_of v1) (by simpa using intsAre_of v2) X4) hq) ⟨rfl,?_⟩)))
 ·rw[<-Bool.beq_eq_decide_eq]
  exact EqAt.int_int (kI n) t1 (kI m) t2
 ·refine wpS_pure ?_
  have z:=ho n m Zo Zp
  have e:(if decide (kI n=kI m)=true then(if decide (kL n=kL m)=true then false else HT.lexLt (kL n) (kL m))else decide (kI n<kI m))=decide (NT p<NT q):=by
   unfold NT
   rw[e1,e3]
   show _=decide (jr n<jr m)
   rw[<-z]
   by_cases h1:kI n=kI m
   ·rw[decide_eq_true h1,if_pos rfl,if_pos h1]
    by_cases h2:kL n=kL m
    ·rw[h2,decide_eq_true rfl,if_pos rfl,xV,tQ]
    ·rw[decide_eq_false h2,if_neg (by decide),xV]
   ·rw[decide_eq_false h1,if_neg (by decide),if_neg h1]
  rw[e]
  exact h
noncomputable abbrev U9(X:Cx):Cx:={X with A:=X.A.in1.in1,xe:=λ_ _=>False}
section
variable{X:Cx}{pins rest:List (Addr×Obj)}{σ:St}{H:Hp}{s:Shared}{h':Heap}
theorem Qh(ok:X.Ok):(U9 X).Ok:=⟨ok.mod,ok.kind,ok.glob,ok.blt,ok.above,ok.inj,ok.has,ok.cab,ok.hd,ok.frames,ok.stk,ok.exf,ok.bs,ok.bsz,ok.noex,ok.exfs,ok.funs,ok.frf⟩
theorem Md(I:Inv X pins σ H s):Inv (U9 X) pins σ H s:=⟨Qh I.ok,I.os,I.bare,I.base,I.loc,I.cell,I.free,I.freeC,I.pin,I.dZ,I.len⟩
theorem Ie(ok:X.Ok)(I:Inv (U9 X) pins σ H s):Inv X pins σ H s:=⟨ok,I.os,I.bare,I.base,I.loc,I.cell,I.free,I.freeC,I.pin,I.dZ,I.len⟩
theorem Ig{a:Addr}{o:Obj}(I:Inv X (pins++(a,o)::rest) σ H s)(Bm:∀p∈X.pn++(pins++rest),p.1≠a)(ha:X.s₀.heap.objs.size<=a):
  s.heap.get? a=some o/\H a=none/\a≠X.env.locals/\a∉X.fs/\(∀v,o.data≠.cell v)/\(∀x c,X.env.cells.lookup x=some c->c≠a):=by
 obtain⟨h1,h2,h3,h4,h5⟩:=I.pin (a,o) (List.mem_append_right _ (List.mem_append_right _ (List.mem_cons_self ..)))
 refine⟨h1,h2,h3,h4,h5,λx c e z=>?_⟩
 obtain⟨v,o',ho,hd⟩:=I.cell x c e
 rw[z,h1]at ho
 cases ho
 exact h5 v hd
theorem o6{a:Addr}{o o':Obj}{t':Nat}(I:Inv X (pins++(a,o)::rest) σ H s)(Bm:∀p∈X.pn++(pins++rest),p.1≠a)(ha:X.s₀.heap.objs.size<=a)(hk:∀b u,b≠a->s.heap.get? b=some u->h'.get? b=some u)(hn:h'.get? a=some o')(hc:∀v,o'.data≠.cell v):
  Inv X (pins++(a,o')::rest) σ H {s with heap:=h',toks:=t'}:=by
 obtain⟨h1,h2,h3,h4,h5,h6⟩:=Ig I Bm ha
 have I1:Inv X (pins++rest) σ H s:=I.fR λp hp=>I.pin p (List.mem_append_right _ (by
  rcases List.mem_append.mp hp with z|z
  ·exact List.mem_append_left _ z
  ·exact List.mem_append_right _ (List.mem_cons_of_mem _ z)))
 have I2:Inv X (pins++rest) σ H {s with heap:=h',toks:=t'}:=I1.turned (it:=a) hk h2 h3 (.inr ha) h6 Bm
 refine I2.fR λp hp=>?_
 rcases List.mem_append.mp hp with z|z
 ·exact I2.pin p (List.mem_append_right _ (List.mem_append_left _ z))
 ·rcases List.mem_cons.mp z with rfl|z
  ·exact⟨hn,h2,h3,h4,hc⟩
  ·exact I2.pin p (List.mem_append_right _ (List.mem_append_right _ z))
theorem DY{o:Obj}{t':Nat}(I:Inv X pins σ H s)(hc:∀v,o.data≠.cell v)(hk:∀b u,s.heap.get? b=some u->h'.get? b=some u){a:Addr}(ha:s.heap.objs.size<=a)(hn:h'.get? a=some o):Inv X (pins++[(a,o)]) σ H {s with heap:=h',toks:=t'}:=by
 have I1:Inv X pins σ H {s with heap:=h',toks:=t'}:=I.kept hk
 refine I1.fR λp hp=>?_
 rcases List.mem_append.mp hp with z|z
 ·exact I1.pin p (List.mem_append_right _ z)
 ·have e:p=(a,o):=by simpa using z
  subst e
  exact⟨hn,I.dZ.fresh ha,Nat.ne_of_gt (Nat.lt_of_lt_of_le I.lt ha),I.Li ha,hc⟩
theorem DZ(I:Inv X pins σ H s):∀p∈X.pn++pins,p.1<s.heap.objs.size:=λp hp=>Heap.lt_size (I.pin p hp).1
theorem Fq{a:Addr}{its:List Value}{n:Nat}{xs:List V}(I:Inv X pins σ H s)(ho:s.heap.get? a=some {cls:=.type "list",data:=.seq its.toArray n})(hn:H a=none)(hL:a≠X.env.locals)(h1:X.s₀.heap.objs.size<=a)(h2:∀x c,X.env.cells.lookup x=some c->c≠a)
  (h3:∀p∈X.pn++pins,p.1≠a)(hv:Vals xs its)(hz:xs.length<=sizeLine):Inv X pins σ (upd H a (.lst xs)) s:=by
 have sm:aI H (upd H a (.lst xs)):=bK hn
 have:=I.step (h':=s.heap) (H':=upd H a (.lst xs)) (g':=s.gens) (d':=s.drawn) (t':=s.toks) (ch:=[a]) (λb hb=>?_) (λb o _ _ _ e _=>e) (λb o _ _ _ e _=>⟨o.slots,e⟩) (λb o hb e n=>?_) (λb o _ e=>⟨o,e⟩)
  (λb xs e=>sm _ _ e) (λb o u e=>sm _ _ e) (λb ps e=>⟨#[],by rw[sm _ _ e];simp⟩) (λm hm=>hm) (λb u e=>?_) I.bare
 ·exact this
 ·have e:b=a:=by simpa using hb
  subst e
  exact⟨.inr h1,hL,h2,h3⟩
 ·rw[aL (by simpa using hb)]
  exact n
 ·by_cases hb:b=a
  ·subst hb
   rw[aO]at e
   cases e
   exact⟨hz,its,n,hv,ho⟩
  ·rw[aL hb]at e
   exact(I.dZ b u e).xc (λc v _ q=>q) (λc q=>sm _ _ q) λc ys q=>sm _ _ q
end
section
variable{X:Cx}{pins:List (Addr×Obj)}{σ:St}{H:Hp}{s:Shared}{κ:Kl}{D kS:Addr}{e1:Nat}{vs:List Value}{ns:List Int}{kI:Int->Int}{kL:Int->List Int}
noncomputable def sD(X:Cx)(pins:List (Addr×Obj))(σ:St)(H:Hp)(D:Addr)(ns:List Int)(s':Shared):Prop:=
 ∃H' out c,aI H H'/\Inv X (pins++[(D,seqObj "list" out c)]) σ H' s'/\Vals ((f6 jr ns).map V.int) out.toList
theorem Ih{xs:List (Value×Value)}(hi:IntsAre vs ns)(ok:∀n∈ns,qg n=true)(keys:List Value)(hl:keys.length=vs.length)(hp:xs.Perm (keys.zip vs))(hs:TS.Sd NT xs):Vals ((f6 jr ns).map V.int) (xs.map (·.2)):=by
 have p1:(xs.map (·.2)).Perm vs:=by
  have:=hp.map (·.2)
  rwa[List.map_snd_zip (by omega)]at this
 have allI:∀v∈xs.map (·.2),∃n t,v=Value.int n t:=λv hv=>by
  obtain⟨n,t,e⟩:=hi.all v (p1.mem_iff.mp hv)
  exact⟨n,t,e⟩
 have i1:=intsAre_map (xs.map (·.2)) allI
 have p2:((xs.map (·.2)).map numOf).Perm ns:=by
  have:=p1.map numOf
  rwa[hi.nums]at this
 have s1:((xs.map (·.2)).map numOf).Pairwise (λa b=>jr a<=jr b):=by
  rw[List.map_map,List.pairwise_map]
  exact hs
 have e:(xs.map (·.2)).map numOf=f6 jr ns:=rB (p2.trans (iO jr ns).symm) s1 (lL jr ns) λn hn=>ok n ((iO jr ns).mem_iff.mp hn)
 rw[<-e]
 exact qq i1
theorem wj{E:Value->Shared->Prop}{st:SortSt}{keys:Array Value}{e:Nat}(I:Inv X (pins++[(kS,seqObj "list" keys e),(D,seqObj "list" #[] e1)]) σ H s)(NU:kS≠D)(np:∀p∈X.pn++pins,p.1≠kS/\p.1≠D)(aS:X.s₀.heap.objs.size<=kS)(aD:X.s₀.heap.objs.size<=D)
  (hi:IntsAre vs ns)(ok:∀n∈ns,qg n=true)(qd:keys.size=vs.length)(tS:vs.length<=5000)(hp:(arrOf st).Perm (keys.zip vs.toArray))(hs:TS.Sd NT (arrOf st).toList)(hf:failedOf st=none){P:PySem.Fin->Shared->Prop}
  {H0:Hp}(sm:aI H0 H)(q:∀s',sD X pins σ H0 D ns s'->P (.done (.ret .none)) s'):wpAny (model X.prog X.w) X.A (ksk_tail D false e1 (.ref kS) st) P E s:=by
 have hk:=(I.pin (kS,seqObj "list" keys e) (List.mem_append_right _ (List.mem_append_right _ (List.mem_cons_self ..)))).1
 have hd:=(I.pin (D,seqObj "list" #[] e1) (List.mem_append_right _ (List.mem_append_right _ (List.mem_cons_of_mem _ (List.mem_cons_self ..))))).1
 have s1:=Heap.SameBut.update s.heap kS (Obj.mapSeq λ_=>(#[]:Array Value))
 have nk:=get?_update_seq hk λ_=>(#[]:Array Value)
 have R3:(s.heap.update kS (Obj.mapSeq λ_=>(#[]:Array Value))).get? D=some (seqObj "list" #[] e1):=(s1.2 D NU.symm).trans hd
 have szA:(arrOf st).size=vs.length:=by rw[hp.size_eq,Array.size_zip,qd,List.size_toArray,Nat.min_self]
 have zl:(5000:Nat)<=sizeLine:=by decide
 unfold ksk_tail
 refine wpAny_bind (listUpdate_at hk rfl ?_ (by omega) (Nat.zero_le _))
 refine wpAny_bind (wpAny_letGo ?_)
 refine wpAny_bind (seqEpoch_at R3 rfl ?_)
 refine wpAny_bind (listUpdate_at R3 rfl ?_ (Nat.zero_le _) (by
  simp only[Bool.false_eq_true,if_false,Array.size_map]
  omega))
 rw[hf]
 simp only[bne_self_eq_false,Bool.false_eq_true,if_false]
 refine wpAny_pure (q _ ?_)
 have I1:=o6 (t':=s.toks) I (λp hp=>by
  rcases List.mem_append.mp hp with z|z
  ·exact(np p (List.mem_append_left _ z)).1
  ·rcases List.mem_append.mp z with z|z
   ·exact(np p (List.mem_append_right _ z)).1
   ·have:p=(D,seqObj "list" #[] e1):=by simpa using z
    rw[this]
    exact NU.symm) aS (λb u hb e=>(s1.2 b hb).trans e) nk (λv z=>by cases z)
 have I2:Inv X ([]++(D,seqObj "list" #[] e1)::pins) σ H {s with heap:=s.heap.update kS (Obj.mapSeq λ_=>(#[]:Array Value)),toks:=s.toks}:=I1.fR λp hp=>by
  rcases List.mem_cons.mp hp with rfl|hp
  ·exact I1.pin _ (List.mem_append_right _ (List.mem_append_right _ (List.mem_cons_of_mem _ (List.mem_cons_self ..))))
  ·exact I1.pin _ (List.mem_append_right _ (List.mem_append_left _ hp))
 have s2:=Heap.SameBut.update (s.heap.update kS (Obj.mapSeq λ_=>(#[]:Array Value))) D (Obj.mapSeq λ_=>(arrOf st).map (·.2))
 obtain⟨c2,nd⟩:∃c2,((s.heap.update kS (Obj.mapSeq λ_=>(#[]:Array Value))).update D (Obj.mapSeq λ_=>(arrOf st).map (·.2))).get? D=some (seqObj "list" ((arrOf st).map (·.2)) c2):=⟨_,get?_update_seq R3 λ_=>(arrOf st).map (·.2)⟩
 have I3:=o6 (t':=s.toks) I2 (λp hp=>(np p (by simpa using hp)).2) aD (λb u hb e=>(s2.2 b hb).trans e) nd (λv z=>by cases z)
 refine⟨H,(arrOf st).map (·.2),c2,sm,I3.fR λp hp=>?_,?_⟩
 ·rcases List.mem_append.mp hp with z|z
  ·exact I3.pin p (List.mem_append_right _ (List.mem_append_right _ (List.mem_cons_of_mem _ z)))
  ·have:p=(D,seqObj "list" ((arrOf st).map (·.2)) c2):=List.mem_singleton.mp z
   rw[this]
   exact I3.pin _ (List.mem_append_right _ (List.mem_append_right _ (List.mem_cons_self ..)))
 ·have:=Ih (xs:=(arrOf st).toList) hi ok keys.toList (by simpa using qd) (by
    have:=Array.perm_iff_toList_perm.mp hp
    rwa[ksk_zip]at this) hs
  simpa using this
theorem Ii{E:Value->Shared->Prop}{keys:Array Value}{e:Nat}(I:Inv X (pins++[(kS,seqObj "list" keys e),(D,seqObj "list" #[] e1)]) σ H s)(NU:kS≠D)(np:∀p∈X.pn++pins,p.1≠kS/\p.1≠D)(aS:X.s₀.heap.objs.size<=kS)(aD:X.s₀.heap.objs.size<=D)(hu:X.A.units+5<cLine)
  (ho:∀n m,qg n=true->qg m=true->(if kI n=kI m then qz (kL n) (kL m)else decide (kI n<kI m))=decide (jr n<jr m))
  (hi:IntsAre vs ns)(ok:∀n∈ns,qg n=true)(qd:keys.size=vs.length)(tS:vs.length<=5000)(hg:∀p∈keys.toList.zip vs,Fn X.K κ H kI kL p){P:PySem.Fin->Shared->Prop}
  {H0:Hp}(sm:aI H0 H)(q:∀s',sD X pins σ H0 D ns s'->P (.done (.ret .none)) s'):wpAny (model X.prog X.w) X.A (ksk_end D false vs.toArray e1 (.ref kS) keys) P E s:=by
 have gd:TS.Gd (Fn X.K κ H kI kL) (keys.zip vs.toArray):=λp hp=>hg p (by rwa[ksk_zip]at hp)
 unfold ksk_end
 simp only[Bool.false_eq_true,if_false]
 by_cases h2:vs.toArray.size<2
 ·rw[if_pos h2,if_pos h2]
  refine wpAny_bind (wpAny_pure ?_)
  rw[StateT.run_pure]
  refine wpAny_bind (wpAny_pure ?_)
  try dsimp only
  refine wj (st:=SortSt.mk' general' (keys.zip vs.toArray) #[] 7 none) I NU np aS aD hi ok qd tS (Array.Perm.refl _) ?_ rfl sm q
  show TS.Sd NT (keys.zip vs.toArray).toList
  rw[List.size_toArray]at h2
  have hl:(keys.zip vs.toArray).toList.length<=1:=by
   rw[Array.length_toList,Array.size_zip,qd,List.size_toArray]
   omega
  generalize(keys.zip vs.toArray).toList=l at hl
  match l,hl with
  |[],_=>exact List.Pairwise.nil
  |[x],_=>exact List.pairwise_singleton _ _
  |_::_::_,hl=>simp at hl
 ·rw[if_neg h2,if_neg h2]
  have Bm:keys.toList≠[]:=λz=>by
   have:keys.size=0:=by rw[<-Array.length_toList,z];rfl
   rw[List.size_toArray]at h2
   omega
  have ek:keys=keys.toList.toArray:=by simp
  have Qi:∀v∈keys.toList,∃i,xY s.heap v i:=λv hv=>by
   obtain⟨j,hj,e⟩:=List.getElem_of_mem hv
   have WM:j<vs.length:=by rw[<-qd,<-Array.length_toList];exact hj
   have hm:(v,vs[j])∈keys.toList.zip vs:=by
    rw[List.mem_iff_getElem?]
    exact⟨j,by rw[List.getElem?_zip_eq_some];exact⟨by rw[<-e];exact List.getElem?_eq_getElem hj,List.getElem?_eq_getElem WM⟩⟩
   exact(hg _ hm).pair I
  have Zr:∀(Q:SortKind->Shared->Prop),Q (tuples' true) s->wpAny (model X.prog X.w) X.A (keyKind' keys) Q E s:=λQ hq=>by
   rw[ek]
   exact vx Qi Bm hq
  refine wpAny_bind (Zr _ ?_)
  refine wpAny_bind (wpAny_mono (TS.zG (Fo I hu ho) gd (st:=SortSt.mk' (tuples' true) (keys.zip vs.toArray) #[] 7 none)
   (Q:=λ_ aV=>TS.Bs (tuples' true) (keys.zip vs.toArray) aV/\TS.Sd NT (arrOf aV).toList) ⟨Array.Perm.refl _,rfl,rfl⟩ rfl λaV B sd=>⟨B,sd⟩) ?_ λ_ _ e=>e)
  rintro⟨⟨⟩,aV⟩ s' ⟨rfl,B,sd⟩
  try dsimp only
  exact wj I NU np aS aD hi ok qd tS B.pm sd B.f sm q
theorem Ft{E:Value->Shared->Prop}{k:Nat}{f:Addr}{fd:FuncData}{x:Str}{F:List PV->Option PV}(FO:aG X.prog X.w X.K X.mg X.base bL k f fd [x] (cO X.K κ false F))(hr:b7 k X.A)(hb:Binds X.K fd [x] [])(hx:∀e s',¬X.xe e s')
  (hF:∀n,qg n=true->F [.int n]=some (.tup [.int (kI n),.lst ((kL n).map PV.int)]))
  (I:Inv X (pins++[(kS,seqObj "list" #[] 0),(D,seqObj "list" #[] e1)]) σ H s)(NU:kS≠D)(np:∀p∈X.pn++pins,p.1≠kS/\p.1≠D)(aS:X.s₀.heap.objs.size<=kS)(aD:X.s₀.heap.objs.size<=D)
  (ho:∀n m,qg n=true->qg m=true->(if kI n=kI m then qz (kL n) (kL m)else decide (kI n<kI m))=decide (jr n<jr m))
  (hi:IntsAre vs ns)(ok:∀n∈ns,qg n=true)(tS:vs.length<=5000){P:PySem.Fin->Shared->Prop}
  (q:∀s',sD X pins σ H D ns s'->P (.done (.ret .none)) s'):wpAny (model X.prog X.w) X.A (ksk_rest D (.ref f) false vs.toArray e1 (.ref kS)) P E s:=by
 have zl:(5000:Nat)<=sizeLine:=by decide
 unfold ksk_rest
 refine wpAny_bind (wpAny_rule ?_)
 rw[List.forIn_toArray]
 refine wpAny_bind (ksk_fold (λi s'=>∃H' kA e,kA.size=i/\Inv X (pins++[(kS,seqObj "list" kA e),(D,seqObj "list" #[] e1)]) σ H' s'/\aI H H'/\∀p∈kA.toList.zip vs,Fn X.K κ H' kI kL p) vs 0 s
  ⟨H,#[],0,rfl,I,aI.refl _,by simp⟩ ?step ?done)
 case step=>
  rintro j v s' hv ⟨H',kA,e,qd,I',sm,hk⟩
  rw[Nat.zero_add]at qd⊢
  have hj:j<vs.length:=(List.getElem?_eq_some_iff.mp hv).1
  obtain⟨n,t,rfl⟩:=hi.all v (List.mem_of_getElem? hv)
  have hn:qg n=true:=by
   have h1:=hi.nums
   have h2:(vs.map numOf)[j]?=some n:=by rw[List.getElem?_map,hv];rfl
   rw[h1]at h2
   exact ok n (List.mem_of_getElem? h2)
  have Nw:cO X.K κ false F [.int n] H' (λv H2=>aI H' H2/\Rep X.K κ H2 v (.tup [.int (kI n),.lst ((kL n).map PV.int)])) E0:=
   ⟨λ_=>False,[.int n],_,λ_ z=>z.elim,.cons (.int n) .nil,hF n hn,λv H2 s z=>⟨s,Rep.mono aE z⟩⟩
  refine wpAny_bind (wpAny_attempt (wpAny_mono (qm FO hr hb .nil iA I' (.cons ⟨t,rfl⟩ .nil:Vals [.int n] [.int n t]) Nw) (λu s2 hu=>?_) λe' s2 WN=>(hx _ _ WN).elim))
  obtain⟨v',H2,I2,rv,qf,rp⟩:=hu
  try dsimp only
  have nk:=(I2.pin (kS,seqObj "list" kA e) (List.mem_append_right _ (List.mem_append_right _ (List.mem_cons_self ..)))).1
  have s1:=Heap.SameBut.update s2.heap kS (Obj.mapSeq (·.push u))
  obtain⟨c2,U0⟩:∃c2,(s2.heap.update kS (Obj.mapSeq (·.push u))).get? kS=some (seqObj "list" (kA.push u) c2):=⟨_,get?_update_seq nk (·.push u)⟩
  refine wpAny_bind (listUpdate_at nk rfl ?_ (by omega) (Nat.le_trans (Nat.le_of_eq (Array.size_push ..)) (by omega)))
  refine wpAny_pure ⟨rfl,H2,kA.push u,c2,by rw[Array.size_push,qd],?_,sm.trans qf,λp hp=>?_⟩
  ·exact o6 (t':=s2.toks) I2 (λp hp=>by
    rcases List.mem_append.mp hp with z|z
    ·exact(np p (List.mem_append_left _ z)).1
    ·rcases List.mem_append.mp z with z|z
     ·exact(np p (List.mem_append_right _ z)).1
     ·have:p=(D,seqObj "list" #[] e1):=List.mem_singleton.mp z
      rw[this]
      exact NU.symm) aS (λb o hb e=>(s1.2 b hb).trans e) U0 (λv z=>by cases z)
  ·obtain⟨i,hp⟩:=List.mem_iff_getElem?.mp hp
   obtain⟨g1,g2⟩:=List.getElem?_zip_eq_some.mp hp
   rw[Array.toList_push,List.getElem?_append]at g1
   split at g1
   ·obtain⟨n',t',a,z1,z2,z3,z4⟩:=hk p (List.mem_iff_getElem?.mpr ⟨i,List.getElem?_zip_eq_some.mpr ⟨g1,g2⟩⟩)
    exact⟨n',t',a,z1,z2,z3,z4.mono qf⟩
   ·rename_i jW
    have Tw:i=j:=by
     have:=(List.getElem?_eq_some_iff.mp g1).1
     rw[Array.length_toList,qd]at this jW
     simp at this
     omega
    subst Tw
    rw[Array.length_toList,qd,Nat.sub_self]at g1
    simp at g1
    rw[hv]at g2
    cases rp with
    |tup q1 w=>
     cases rv
     exact⟨n,t,_,hn,(Option.some.inj g2).symm,g1.symm,.tup q1 w⟩
 case done=>
  rintro s' ⟨H',kA,e,qd,I',sm,hk⟩
  rw[Nat.zero_add]at qd
  have nk:=(I'.pin (kS,seqObj "list" kA e) (List.mem_append_right _ (List.mem_append_right _ (List.mem_cons_self ..)))).1
  try dsimp only
  refine wpAny_bind (listItems_at nk rfl ?_)
  exact Ii I' NU np aS aD (by have:=hr.units;omega) ho hi ok qd tS hk sm q
theorem Fu{E:Value->Shared->Prop}{k n:Nat}{f:Addr}{fd:FuncData}{x:Str}{F:List PV->Option PV}(FO:aG X.prog X.w X.K X.mg X.base bL k f fd [x] (cO X.K κ false F))(hr:b7 k X.A)(hb:Binds X.K fd [x] [])(hx:∀e s',¬X.xe e s')
  (hF:∀n,qg n=true->F [.int n]=some (.tup [.int (kI n),.lst ((kL n).map PV.int)]))
  (I:Inv X (pins++[(D,seqObj "list" vs.toArray n)]) σ H s)(np:∀p∈X.pn++pins,p.1≠D)(aD:X.s₀.heap.objs.size<=D)
  (ho:∀n m,qg n=true->qg m=true->(if kI n=kI m then qz (kL n) (kL m)else decide (kI n<kI m))=decide (jr n<jr m))
  (hi:IntsAre vs ns)(ok:∀n∈ns,qg n=true)(tS:vs.length<=5000){P:PySem.Fin->Shared->Prop}
  (q:∀s',sD X pins σ H D ns s'->P (.done (.ret .none)) s'):wpAny (model X.prog X.w) X.A (ksk_tree D (.ref f) false) P E s:=by
 have zl:(5000:Nat)<=sizeLine:=by decide
 have hd:=(I.pin (D,seqObj "list" vs.toArray n) (List.mem_append_right _ (List.mem_append_right _ (List.mem_cons_self ..)))).1
 have s1:=Heap.SameBut.update s.heap D (Obj.mapSeq λ_=>(#[]:Array Value))
 obtain⟨e1,R3⟩:∃e1,(s.heap.update D (Obj.mapSeq λ_=>(#[]:Array Value))).get? D=some (seqObj "list" #[] e1):=⟨_,get?_update_seq hd λ_=>#[]⟩
 unfold ksk_tree
 refine wpAny_bind (listItems_at hd rfl ?_)
 refine wpAny_bind (listUpdate_at hd rfl ?_ (by rw[List.size_toArray];omega) (Nat.zero_le _))
 refine wpAny_bind (seqEpoch_at R3 rfl ?_)
 refine wpAny_bind (wpAny_newTuple ?_ (by show vs.length<=_;omega))
 refine wpAny_bind (wpAny_newList ?_ (Nat.zero_le _))
 refine wpAny_holding ?_
 have I1:=o6 (t':=s.toks) I (λp hp=>np p (by simpa using hp)) aD (λb u hb e=>(s1.2 b hb).trans e) R3 (λv z=>by cases z)
 have I2:Inv X (pins++[(D,seqObj "list" #[] e1)]) σ H {s with heap:=(s.heap.update D (Obj.mapSeq λ_=>(#[]:Array Value))).push (seqObj "tuple" vs.toArray 0),toks:=s.toks}:=I1.kept (t':=s.toks) λb o e=>Heap.get?_push_of_some _ e
 have I3:=DY (o:=seqObj "list" #[] 0) (t':=s.toks) I2 (λv z=>by cases z) (λb o e=>Heap.get?_push_of_some _ e) (Nat.le_refl _) (Heap.get?_push_size _ rfl)
 have U7:=DZ I2
 have hD:D<((s.heap.update D (Obj.mapSeq λ_=>(#[]:Array Value))).push (seqObj "tuple" vs.toArray 0)).objs.size:=U7 (D,seqObj "list" #[] e1) (List.mem_append_right _ (List.mem_append_right _ (List.mem_cons_self ..)))
 refine Ft FO hr hb hx hF (kS:=((s.heap.update D (Obj.mapSeq λ_=>(#[]:Array Value))).push (seqObj "tuple" vs.toArray 0)).objs.size) (I3.fR λp hp=>?_) (Nat.ne_of_gt hD) (λp hp=>⟨Nat.ne_of_lt (U7 p ?_),np p hp⟩) (Nat.le_trans aD (Nat.le_of_lt hD)) aD ho hi ok tS q
 ·refine I3.pin p (List.mem_append_right _ ?_)
  rcases List.mem_append.mp hp with z|z
  ·exact List.mem_append_left _ (List.mem_append_left _ z)
  ·rcases List.mem_cons.mp z with rfl|z
   ·exact List.mem_append_right _ (List.mem_cons_self ..)
   ·exact List.mem_append_left _ (List.mem_append_right _ z)
 ·rcases List.mem_append.mp hp with z|z
  ·exact List.mem_append_left _ z
  ·exact List.mem_append_right _ (List.mem_append_left _ z)
end
section
variable{X:Cx}{pins:List (Addr×Obj)}{σ:St}{H:Hp}{s:Shared}{κ:Kl}{vs:List Value}{ns:List Int}
theorem o7{k:Nat}{f:Addr}{fd:FuncData}{x:Str}{F:List PV->Option PV}{Q:VK}(FO:aG X.prog X.w X.K X.mg X.base bL k f fd [x] (cO X.K κ false F))(hr:b7 k X.A.in1.in1)(hb:Binds X.K fd [x] [])(hK:f9 F)
  (I:Inv X pins σ H s)(hi:IntsAre vs ns)(ok:lK ns=true)(q:∀D H',aI H H'->H' D=none->Q (.ref D) (upd H' D (.lst ((f6 jr ns).map V.int)))):
  wpAny (model X.prog X.w) X.A.in1 (do let l<-newList vs;let _<-holding [l] (call (.builtin "list.sort") [l] [(Str.ofString "key",.ref f)]);ret l) (λfin s'=>∃v,fin=.done (.ret v)/\EP X pins σ Q v s') X.xe s:=by
 have zl:(5000:Nat)<=sizeLine:=by decide
 obtain⟨kI,kL,hF,ho⟩:=hK
 unfold lK at ok
 simp only[Bool.and_eq_true,decide_eq_true_eq,List.all_eq_true]at ok
 have hlen:=hi.length
 refine wpAny_bind (wpAny_newList ?_ (by omega))
 have I1:=DY (o:=seqObj "list" vs.toArray 0) (t':=s.toks) I (λv z=>by cases z) (λb o e=>Heap.get?_push_of_some _ e) (Nat.le_refl _) (Heap.get?_push_size _ rfl)
 have Vy:(s.heap.push (seqObj "list" vs.toArray 0)).get? s.heap.objs.size=some (seqObj "list" vs.toArray 0):=Heap.get?_push_size _ rfl
 have np:∀p∈X.pn++pins,p.1≠s.heap.objs.size:=λp hp=>Nat.ne_of_lt (DZ I p hp)
 refine wpAny_bind (wpAny_holding (wpAny_call_entry_kw slot_list_sort ⟨_,Vy,rfl⟩ entry_list_sort ?body (ksk_l1 _ _)))
 case body=>
  rw[ksk_t1]
  refine Fu (X:=U9 X) (pins:=pins) (σ:=σ) (H:=H) (D:=s.heap.objs.size) (n:=0) FO hr hb (λ_ _ z=>z) hF (Md I1) np I.sz ho hi ok.1 (by omega) λs' Zs=>⟨_,rfl,?_⟩
  obtain⟨H',out,c,sm,I2,hv⟩:=Zs
  have I3:=Ie I.ok I2
  have Zt:=Ig (rest:=[]) I3 (λp hp=>np p (by simpa using hp)) I.sz
  obtain⟨h1,h2,h3,h4,h5,h6⟩:=Zt
  have I4:Inv X pins σ H' s':=I3.fR λp hp=>I3.pin p (List.mem_append_right _ (List.mem_append_left _ hp))
  have hz:((f6 jr ns).map V.int).length<=sizeLine:=by
   rw[List.length_map,(iO jr ns).length_eq]
   omega
  refine wpAny_pure ⟨_,rfl,.ref _,_,Fq (its:=out.toList) (n:=c) I4 (by simpa using h1) h2 h3 I.sz h6 np hv hz,rfl,q _ H' sm h2⟩
theorem qB{k:Nat}{f l:Addr}{fd:FuncData}{x:Str}{F:List PV->Option PV}{Q:VK}(FO:aG X.prog X.w X.K X.mg X.base bL k f fd [x] (cO X.K κ false F))(hr:b7 k X.A.in1.in1)(hb:Binds X.K fd [x] [])(hK:f9 F)
  (I:Inv X pins σ H s)(hq:iE X.K H l (ns.map V.int))(ok:lK ns=true)(q:∀D H',aI H H'->H' D=none->Q (.ref D) (upd H' D (.lst ((f6 jr ns).map V.int)))):
  wpAny (model X.prog X.w) X.A (call (.builtin "sorted") [.ref l] [(Str.ofString "key",.ref f)]) (EP X pins σ Q) X.xe s:=by
 obtain⟨its,rv,pl,hz⟩:=I.list hq
 have hi:=intsAre_of rv
 refine call_function_entry_kw kind_sorted plain_sorted entry_sorted (ksk_s1 _ _) ?_
 unfold Builtin.«sorted»
 refine wpAny_bind (m:=checkCount "sorted" 1 1 _) (wpAny_pure ?_)
 refine wpAny_bind (collect_list pl.isList ?_ (by rw[<-rv.length];exact hz))
 have I1:Inv X pins σ H {s with heap:=(s.heap.push (seqObj "list" #[] 0)).update s.heap.objs.size (Obj.mapSeq (·++its.toArray)),toks:=s.toks}:=I.kept λb o e=>by
  have jW:b<s.heap.objs.size:=Heap.lt_size e
  rw[Heap.get?_update_ne _ _ _ _ (Nat.ne_of_lt jW)]
  exact Heap.get?_push_of_some _ e
 exact o7 FO hr hb hK I1 hi ok q
end
section
variable{prog:Program}{w:World}{A:Around}{E:Value->Shared->Prop}{s:Shared}
theorem vy:∀(n:Nat) (acc:List Value),acc.length=n->(∀j v,acc[j]?=some v->∃t,v=Value.int ((j:Nat):Int) t)->∃ns,ns=(List.range n).map (λ(k:Nat)=>(k:Int))/\IntsAre acc ns:=by
 have go:∀(acc:List Value) (i:Nat),(∀j v,acc[j]?=some v->∃t,v=Value.int ((i+j:Nat):Int) t)->IntsAre acc ((List.range' i acc.length).map (λ(k:Nat)=>(k:Int))):=by
  intro acc
  induction acc with
  |nil=>intro i _;exact .nil
  |cons v acc ih=>
   intro i h
   obtain⟨t,rfl⟩:=h 0 v rfl
   rw[List.length_cons,List.range'_succ,List.map_cons]
   refine .cons _ t (ih (i+1) λj v e=>?_)
   obtain⟨t,e⟩:=h (j+1) v (by simpa using e)
   exact⟨t,by rw[e];congr 2;omega⟩
 intro n acc hl h
 refine⟨_,rfl,?_⟩
 have:=go acc 0 (λj v e=>by simpa using h j v e)
 rwa[hl,<-List.range_eq_range']at this
theorem vz{r:Addr}{n:Nat}{j:Int}{t u v:Tok}{Q:List Value->Shared->Prop}(hh:A.handled=none)(hr:IsRange s.heap r 0 j 1 t u v)(hj:j.toNat=n)(hn:n<=100000)(h0:-(2^62)<=j)
  (h:∀h' tk vs,(∀b o,s.heap.get? b=some o->h'.get? b=some o)->IntsAre vs ((List.range n).map (λ(k:Nat)=>(k:Int)))->Q vs {s with heap:=h',toks:=tk}):wpAny (model prog w) A (collect (.ref r)) Q E s:=by
 have WM:j<2^62:=by omega
 unfold collect
 refine wpAny_bind (wpAny_runValue (codeAny_builtin entry_proto_collect' ?_))
 show wpAny _ _ (do again (.builtin "list.__iadd__" ⟨[<-newList [],.ref r],[]⟩)) _ _ s
 refine wpAny_bind (wpAny_newList (wpAny_pure ⟨Code.quiet_builtin _ (by decide+kernel),codeAny_builtin entry_list_iadd' ?_⟩))
 show wpAny _ _ (Builtin.List.listExtendWith (.ref s.heap.objs.size) (.ref r) (.ref s.heap.objs.size)) _ _ {s with heap:=s.heap.push (seqObj "list" #[] 0)}
 rw[Around.under_plainId (show plainId "list.__iadd__" =true by decide+kernel) _]
 refine wpAny_extend_range (R:=λr s'=>match r with|.ok (.ret v)=>wpAny (model prog w) A (match v with|.ref a=>(do let o<-load a;match o.data with|.seq xs _=>pure xs.toList|_=>unsupported "internal:collect")|_=>unsupported "internal:collect") Q E s'|.ok _=>False|.error e=>E e s') (s:={s with heap:=s.heap.push (seqObj "list" #[] 0)}) (n:=n) (c₀:=0) hh (Heap.get?_push_of_some _ hr) (a:=0) (b:=j) (c:=1) (small_one (by decide) (by decide) h0 WM) (by rw[rangeSize_one];split<;>omega) (by omega) s.heap.objs.size _ (Heap.get?_push_size _ rfl) λh' tk acc c hk hS hI=>?_
 refine wpAny_bind (wpAny_load hS ?_)
 obtain⟨ns,rfl,hi⟩:=vy n acc.toList (by rw[Array.length_toList];exact hI.1) (λj v e=>by
  obtain⟨t,e'⟩:=hI.2 j v (by simpa using e)
  exact⟨t,by rw[e'];simp⟩)
 exact wpAny_pure (h h' tk acc.toList (λb o e=>hk b o (Nat.ne_of_lt (Heap.lt_size e)) (Heap.get?_push_of_some _ e)) hi)
end
section
variable{X:Cx}{κ:Kl}{k:Nat}{f:Addr}{fd:FuncData}{x:Str}{F:List PV->Option PV}
noncomputable def WO(K:PySem.W.Frag)(v:V)(H:Hp)(ns:List Int):Prop:=∃l,v=.ref l/\(iE K H l (ns.map V.int)\/∃j:Int,H l=some (.rng 0 j)/\-(2^62)<=j/\j.toNat<=100000/\ns=(List.range j.toNat).map (λ(k:Nat)=>(k:Int)))
theorem Ad{pins:List (Addr×Obj)}{σ:St}{H:Hp}{s:Shared}{ns:List Int}{v:V}{u:Value}{Q:VK}(hc:X.calm=true)(FO:aG X.prog X.w X.K X.mg X.base bL k f fd [x] (cO X.K κ false F))(hr:b7 k X.A.in1.in1)(hb:Binds X.K fd [x] [])(hK:f9 F)
  (I:Inv X pins σ H s)(rv:RelV v u)(hq:WO X.K v H ns)(ok:lK ns=true)(q:∀D H',aI H H'->H' D=none->Q (.ref D) (upd H' D (.lst ((f6 jr ns).map V.int)))):
  wpAny (model X.prog X.w) X.A (call (.builtin "sorted") [u] [(Str.ofString "key",.ref f)]) (EP X pins σ Q) X.xe s:=by
 obtain⟨l,rfl,hq⟩:=hq
 cases rv
 rcases hq with hq|⟨j,hq,h1,h2,rfl⟩
 ·exact qB FO hr hb hK I hq ok q
 ·obtain⟨t,u,v,Zu⟩:=I.dZ l _ hq
  refine call_function_entry_kw kind_sorted plain_sorted entry_sorted (ksk_s1 _ _) ?_
  unfold Builtin.«sorted»
  refine wpAny_bind (m:=checkCount "sorted" 1 1 _) (wpAny_pure ?_)
  refine wpAny_bind (vz (A:=X.A.in1) (I.ok.hd hc) Zu rfl h2 h1 λh' tk vs hk hi=>?_)
  exact o7 FO hr hb hK (I.kept (t':=tk) hk) hi ok q
noncomputable def Tx(K:PySem.W.Frag)(te:TE):TE:=λσ H Q=>te σ H λv H1=>∃ns,WO K v H1 ns/\lK ns=true/\∀D H',aI H1 H'->H' D=none->Q (.ref D) (upd H' D (.lst ((f6 jr ns).map V.int)))
theorem wm{p px pos kp:Pos}{a:Expr}{y:Str}{te:TE}(FO:aG X.prog X.w X.K X.mg X.base bL k f fd [x] (cO X.K κ false F))(hr:b7 (k+2) X.A)(hb:Binds X.K fd [x] [])(hK:f9 F)(hm:X.mg "sorted" =none)(hy:X.mg y=some (.ref f))(ha:PE X a te)
  (hg:Gl X "sorted" :=by rfl)(Tz:Gl X y:=by rfl)(hc:X.calm=true:=by rfl)(Fv:(y==("__debug__" :Str))=false:=by decide)(hs:starEach [a] X.env=(false,eval a X.env)::starEach [] X.env:=by rfl)(TB:backTo pos (starEach [a] X.env)=(false,eval a X.env)::backTo pos (starEach [] X.env):=by rfl)
  (NF:(backToKw pos (keywordEach [⟨some "key",.Name y px,kp⟩] X.env)).filterMap (·.1)=[Str.ofString "key"]:=by rfl)(xt:(backToKw pos (keywordEach [⟨some "key",.Name y px,kp⟩] X.env)).all (·.1.isSome)=true:=by rfl)(TC:(backToKw pos (keywordEach [⟨some "key",.Name y px,kp⟩] X.env)).any (·.1.isNone)=false:=by rfl)
  (hpl:(backTo pos (starEach [a] X.env)).any (·.1)=false:=by rfl):PE X (.Call (.Name "sorted" p) [a] [⟨some "key",.Name y px,kp⟩] pos) (Tx X.K te):=by
 intro pins s σ H Q I h
 refine wpAny_Call_Name_kw (lu I hg hm PyProof.Rows.boot_sorted ?_)
 have hA:=(aM ha bJ hs) pos pins s σ H (λvs H1=>match vs with|[v]=>(∃ns,WO X.K v H1 ns/\lK ns=true/\∀D H',aI H1 H'->H' D=none->Q (.ref D) (upd H' D (.lst ((f6 jr ns).map V.int))))|_=>False) I h
 refine PyProof.Rows.callWith_kw (de hA λus s1 cv=>?_) TB hpl xt TC
 obtain⟨vs,H1,I1,r1,q1⟩:=cv
 try dsimp only at q1
 split at q1
 ·rename_i v
  obtain⟨ns,Zv,ok,q⟩:=q1
  obtain⟨u,rfl,ru⟩:=r1.one
  have Zw:=(Ly (nm:=some "key") (kpos:=kp) (mG (pos:=px) (v:=.ref f) Tz hy rfl Fv) O8:PK X [⟨some "key",.Name y px,kp⟩] _) pos pins s1 σ H1 (λzs H2=>zs=[.ref f]/\H2=H1) I1 ⟨rfl,rfl⟩
  refine de Zw λws s2 cv=>?_
  obtain⟨zs,H2,I2,rz,e1,e2⟩:=cv
  subst e1 e2
  obtain⟨u2,rfl,WI⟩:=rz.one
  cases WI
  rw[NF]
  exact Ad hc FO (hr.in1).in1 hb hK I2 ru Zv ok q
 ·exact q1.elim
theorem Fw{p pos:Pos}{a:Expr}{te:TE}(hm:X.mg "range" =none)(ha:PE X a te)(hg:Gl X "range" :=by rfl)(hs:starEach [a] X.env=[(false,eval a X.env)]:=by rfl):
  PE X (.Call (.Name "range" p) [a] [] pos) (λσ H Q=>te σ H λv H1=>∃j:Int,v=.int j/\∀l,H1 l=none->Q (.ref l) (upd H1 l (.rng 0 j))):=by
 intro pins s σ H Q I h
 have hA:=(aM ha bJ hs) pos pins s σ H (λvs H1=>match vs with|[v]=>(∃j:Int,v=.int j/\∀l,H1 l=none->Q (.ref l) (upd H1 l (.rng 0 j)))|_=>False) I h
 refine Call_ (lu I hg hm boot_range (PyProof.Rows.callWith_type1 (de hA λus s1 cv=>?_) hs rfl))
 obtain⟨vs,H1,I1,r1,q1⟩:=cv
 try dsimp only at q1
 split at q1
 ·obtain⟨j,rfl,q⟩:=q1
  obtain⟨u,rfl,t,rfl⟩:=r1.one
  refine call_range_1 ⟨.ref s1.heap.objs.size,_,I1.laid (a:=s1.heap.objs.size) (o:=.rng 0 j) (t':=s1.toks+1+1) (λb o e=>Heap.get?_push_of_some _ e) (Nat.le_refl _) ?_,rfl,q _ I1.fresh⟩
  exact⟨_,_,_,Heap.get?_push_size _ rfl⟩
 ·exact q1.elim
theorem B0{p px pos kp:Pos}{a:Expr}{y:Str}{fa:Den}(FO:aG X.prog X.w X.K X.mg X.base bL k f fd [x] (cO X.K κ false F))(hr:b7 (k+2) X.A)(hb:Binds X.K fd [x] [])(hK:f9 F)(hm:X.mg "sorted" =none)(hy:X.mg y=some (.ref f))(ha:DB X κ a fa)
  (hg:Gl X "sorted" :=by rfl)(Tz:Gl X y:=by rfl)(hc:X.calm=true:=by rfl)(Fv:(y==("__debug__" :Str))=false:=by decide)(hs:starEach [a] X.env=(false,eval a X.env)::starEach [] X.env:=by rfl)(TB:backTo pos (starEach [a] X.env)=(false,eval a X.env)::backTo pos (starEach [] X.env):=by rfl)
  (NF:(backToKw pos (keywordEach [⟨some "key",.Name y px,kp⟩] X.env)).filterMap (·.1)=[Str.ofString "key"]:=by rfl)(xt:(backToKw pos (keywordEach [⟨some "key",.Name y px,kp⟩] X.env)).all (·.1.isSome)=true:=by rfl)(TC:(backToKw pos (keywordEach [⟨some "key",.Name y px,kp⟩] X.env)).any (·.1.isNone)=false:=by rfl)
  (hpl:(backTo pos (starEach [a] X.env)).any (·.1)=false:=by rfl):DO X κ (.Call (.Name "sorted" p) [a] [⟨some "key",.Name y px,kp⟩] pos) (rA (nList fa)):=by
 obtain⟨ta,h1,h2⟩:=ha
 refine⟨_,wm FO hr hb hK hm hy h1 hg Tz hc Fv hs TB NF xt TC hpl,λ{G A bo own ρ σ H p Q} r e q=>?_⟩
 obtain⟨l,e1,e2⟩:=Option.bind_eq_some_iff.mp e
 obtain⟨p1,e3,e4⟩:=Option.bind_eq_some_iff.mp e1
 obtain⟨ns,e5,e6⟩:=Option.bind_eq_some_iff.mp e2
 obtain⟨ok,rfl⟩:=aZ e6
 refine h2 r e3 λv H1 s1 b1=>?_
 cases p1<;>first|(cases e4;done)|skip
 cases e4
 obtain⟨a,vs,rfl,q1,q2⟩:=b1.lst aE
 rw[xW q2 e5]at q1
 refine⟨ns,⟨a,rfl,.inl q1.sq⟩,ok,λD H2 s2 hD=>?_⟩
 have zh:=s1.trans s2
 refine q _ _ (zh.trans (bK hD)) ?_
 obtain⟨a,ws,l,w1,w2,w3,w4⟩:=(r.mono zh).vq hD (ints_rep (κ:=κ) (f6 jr ns))
 refine⟨a,ws,l,w1,w2,?_,w4⟩
 cases w1
 exact zh.free hD
theorem Ae:∀n:Nat,iC (iq 0 n)=some ((List.range n).map (λ(k:Nat)=>(k:Int))):=λn=>by
 have:iq 0 n=((List.range n).map (λ(k:Nat)=>(k:Int))).map PV.int:=by
  unfold iq
  rw[List.map_map]
  congr 1
  funext k
  simp
 rw[this,iY]
theorem B7{p px pos kp p2 Fx:Pos}{a:Expr}{y:Str}{fa:Den}(FO:aG X.prog X.w X.K X.mg X.base bL k f fd [x] (cO X.K κ false F))(hr:b7 (k+2) X.A)(hb:Binds X.K fd [x] [])(hK:f9 F)(hm:X.mg "sorted" =none)(Zx:X.mg "range" =none)(hy:X.mg y=some (.ref f))(ha:DB X κ a fa)
  (hg:Gl X "sorted" :=by rfl)(Zy:Gl X "range" :=by rfl)(Zz:starEach [a] X.env=[(false,eval a X.env)]:=by rfl)(Tz:Gl X y:=by rfl)(hc:X.calm=true:=by rfl)(Fv:(y==("__debug__" :Str))=false:=by decide)(hs:starEach [.Call (.Name "range" p2) [a] [] Fx] X.env=(false,eval (.Call (.Name "range" p2) [a] [] Fx) X.env)::starEach [] X.env:=by rfl)
  (TB:backTo pos (starEach [.Call (.Name "range" p2) [a] [] Fx] X.env)=(false,eval (.Call (.Name "range" p2) [a] [] Fx) X.env)::backTo pos (starEach [] X.env):=by rfl)
  (NF:(backToKw pos (keywordEach [⟨some "key",.Name y px,kp⟩] X.env)).filterMap (·.1)=[Str.ofString "key"]:=by rfl)(xt:(backToKw pos (keywordEach [⟨some "key",.Name y px,kp⟩] X.env)).all (·.1.isSome)=true:=by rfl)(TC:(backToKw pos (keywordEach [⟨some "key",.Name y px,kp⟩] X.env)).any (·.1.isNone)=false:=by rfl)
  (hpl:(backTo pos (starEach [.Call (.Name "range" p2) [a] [] Fx] X.env)).any (·.1)=false:=by rfl):DO X κ (.Call (.Name "sorted" p) [.Call (.Name "range" p2) [a] [] Fx] [⟨some "key",.Name y px,kp⟩] pos) (rA (iB fa)):=by
 obtain⟨ta,h1,h2⟩:=ha
 refine⟨_,wm FO hr hb hK hm hy (Fw Zx h1 Zy Zz) hg Tz hc Fv hs TB NF xt TC hpl,λ{G A bo own ρ σ H p Q} r e q=>?_⟩
 obtain⟨l,e1,e2⟩:=Option.bind_eq_some_iff.mp e
 obtain⟨p1,e3,e4⟩:=Option.bind_eq_some_iff.mp e1
 obtain⟨j,e7,e8⟩:=Option.bind_eq_some_iff.mp e4
 obtain⟨hj,e9⟩:=aZ e8
 obtain⟨ns,e5,e6⟩:=Option.bind_eq_some_iff.mp e2
 obtain⟨ok,rfl⟩:=aZ e6
 subst e9
 rw[Ae]at e5
 cases e5
 simp only[wa,Bool.and_eq_true,decide_eq_true_eq]at hj
 have hlen:j.toNat<=100000:=by
  have:=ok
  unfold lK at this
  simp only[Bool.and_eq_true,decide_eq_true_eq,List.length_map,List.length_range]at this
  omega
 refine h2 r e3 λv H1 s1 b1=>?_
 cases p1<;>first|(cases e7;done)|skip
 cases e7
 refine⟨_,b1.int,λl hl=>⟨_,⟨l,rfl,.inr ⟨_,aO,hj.1,hlen,rfl⟩⟩,ok,λD H2 s2 hD=>?_⟩⟩
 have zh:=(s1.trans (bK hl)).trans s2
 refine q _ _ (zh.trans (bK hD)) ?_
 obtain⟨a,ws,l,w1,w2,w3,w4⟩:=(r.mono zh).vq hD (ints_rep (κ:=κ) (f6 jr ((List.range j.toNat).map (λ(k:Nat)=>(k:Int)))))
 refine⟨a,ws,l,w1,w2,?_,w4⟩
 cases w1
 exact zh.free hD
end
end L2.D
namespace L2.D
open PySem
theorem wo{P:Program}{w:World}{K:PySem.W.Frag}{mg:Str->Option Value}{base:Heap}{κ:Kl}{fr:Bool}{k:Nat}{f:Addr}{fd:FuncData}{ps:List Str}:aG P w K mg base bL k f fd ps (cO K κ fr λ_=>none):=
 have no:∀{vs:List V} {H:Hp} {Q:VK} {E:XK},cO K κ fr (λ_=>none) vs H Q E->False:=λ⟨_,_,_,_,_,h2,_⟩=>by cases h2
 ⟨λ_ _ _ _ h=>(no h).elim,λ_ _ _ _ _ _ _ _ _ _ _ _ _ h=>(no h).elim⟩
end L2.D
namespace L2.D
open PySem PySem.Spec PyProof.Rows PySem.SeqAt
section
variable{X:Cx}{κ:Kl}{fr:Bool}{pos:Pos}{a e:Expr}{fa f:Den}
theorem Ij{K:PySem.W.Frag}{H:Hp}:∀{vs:List V} {l:List PV} {ns:List Int},aW K κ H vs l->iC l=some ns->vs=ns.map V.int
 |_,_,_,.nil,h=>by cases h;rfl
 |_,p::_,_,.cons r t,h=>by
  cases p<;>first|(cases h;done)|skip
  obtain⟨cs,h1,rfl⟩:=Option.map_eq_some_iff.mp h
  cases r
  rw[List.map_cons,<-Ij t h1]
end
end L2.D
namespace L2.D
open PySem
section
variable{X:Cx}{κ:Kl}{a b c:Expr}{fa fb fc:Den}{pos:Pos}
theorem Fy{K:PySem.W.Frag}{ta tb tc:TE}(h2:HP K κ ta fa)(h4:HP K κ tb fb)(h6:HP K κ tc fc):PX K κ (xh (Bt λi j=>.bl (decide (i<=j))) (Bt λi j=>.bl (decide (i<=j))) ta tb tc) (hZ fa fb fc):=λ{G A bo own ρ σ H p Q} r e q=>by
 refine qA (g:=λx y=>(GW x).bind λi=>(GW y).bind λj=>if i<=j then(fc ρ).bind λz=>(GW z).map λk=>PV.bl (decide (j<=k))else some (.bl false)) h2 h4 r e λx y p1 p2 H1 s1 r1 b1 b2 e'=>?_
 obtain⟨i,e3,e4⟩:=Option.bind_eq_some_iff.mp e'
 obtain⟨j,e5,e6⟩:=Option.bind_eq_some_iff.mp e4
 cases p1<;>first|(cases e3;done)|skip
 cases e3
 cases p2<;>first|(cases e5;done)|skip
 cases e5
 refine⟨i,j,b1.int,b2.int,_,rfl,?_⟩
 by_cases vc:i<=j
 ·rw[if_pos vc]at e6
  obtain⟨p3,e7,e8⟩:=Option.bind_eq_some_iff.mp e6
  obtain⟨k,e9,rfl⟩:=Option.map_eq_some_iff.mp e8
  cases p3<;>first|(cases e9;done)|skip
  cases e9
  rw[if_pos (decide_eq_true vc)]
  refine h6 r1 e7 λw H2 s2 b3=>?_
  exact⟨j,k,b2.int,b3.int,q _ H2 (s1.trans s2) (.bl _)⟩
 ·rw[if_neg vc]at e6
  cases e6
  rw[if_neg (by simpa using vc)]
  exact q _ H1 s1 (.bl _)
theorem tT(ha:DB X κ a fa)(hb:DB X κ b fb)(hc:DB X κ c fc)(hm:lastMarks [.LtE,.LtE] [b,c]=false:=by with_unfolding_all rfl):DT X κ (.Compare a [.LtE,.LtE] [b,c] pos) (tV (hZ fa fb fc)):=by
 obtain⟨ta,h1,h2⟩:=ha
 obtain⟨tb,h3,h4⟩:=hb
 obtain⟨tc,h5,h6⟩:=hc
 exact⟨_,Hc Nr Nr h1 h3 h5 hm,xP (Fy h2 h4 h6)⟩
end
end L2.D
namespace L2
open PySem PySem.Spec PyProof.Rows
noncomputable def TF(i:Expr):Prop:=∀ov iv,subscripted i false ov iv=operate [ov,iv] (getItem ov iv)
theorem Me{prog:Program}{w:World}{A:Around}{E:Value->Shared->Prop}{s:Shared}{env:Env}{value slice:Expr}{pos:Pos}{T id:String}{Q:Value->Shared->Prop}
  (hl:typeLookup (.type T) "__getitem__" =pure (some (.builtin id)))(hs:TF slice)
  (h:wpAny (model prog w) A (eval value env) (λo s₁=>wpAny (model prog w) A (eval slice env) (λi s₂=>s₂.TypeIs o T/\wpAny (model prog w) A (getItem o i) Q E s₂) E s₁) E s):
  wpAny (model prog w) A (eval (.Subscript value slice pos) env) Q E s:=by
 refine Subscript_ (wpAny_mono h (λo s₁ h₁=>wpAny_mono h₁ (λi s₂ h₂=>?_) λ_ _ x=>x) λ_ _ x=>x)
 obtain⟨hT,h₂⟩:=h₂
 unfold subscriptTail
 refine wpAny_bind ?_
 rw[getitemInPython_of_ne hT.not_modules]
 refine wpAny_bind (wpAny_specialOf hT hl ?_)
 have fin:wpAny (model prog w) A (subscripted slice false o i) (λr s₃=>wpAny (model prog w) A (letTemporaryGo value o r>>=λ_=>pure r) Q E s₃) E s₂:=by
  rw[hs o i]
  exact wpAny_operating (wpAny_mono h₂ (λr s₃ h₃=>wpAny_bind (wpAny_letTemporaryGo (wpAny_pure h₃))) λ_ _ x=>x)
 first
  |exact wpAny_pure (wpAny_bind fin)
  |exact wpAny_bind (wpAny_pure (wpAny_bind fin))
  |exact wpAny_bind fin
end L2
namespace L2.D
open PySem PySem.Spec PyProof.Rows PySem.SeqAt
section
variable{X:Cx}{κ:Kl}{fr:Bool}{pos:Pos}{a b e k:Expr}{fa fb f fk:Den}
theorem Ik{p:Pos}(ha:DB X κ a fa)(hb:DB X κ b fb)(hm:X.mg "min" =none)(hg:Gl X "min" :=by rfl)(hc:X.calm=true:=by rfl)(hs:starEach [a,b] X.env=(false,eval a X.env)::starEach [b] X.env:=by rfl)(qe:starEach [b] X.env=(false,eval b X.env)::starEach [] X.env:=by rfl)(hpl:(backTo pos (starEach [b] X.env)).any (·.1)=false:=by rfl):DE X κ (.Call (.Name "min" p) [a,b] [] pos) (ag Fd fa fb):=by
 obtain⟨ta,h1,h2⟩:=ha
 obtain⟨tb,h3,h4⟩:=hb
 refine⟨_,iU (ES hc) hg hm (by decide+kernel) (aM h1 (aM h3 bJ qe) hs) (he:=hs) (hpl:=hpl),λ{G A bo own ρ σ H p Q} r e q=>?_⟩
 refine qA h2 h4 r e λx y p1 p2 H1 s1 r1 b1 b2 e'=>?_
 cases p1<;>cases p2<;>first|(cases e';done)|skip
 cases e'
 exact⟨_,_,by rw[b1.int,b2.int],q _ H1 s1 (.int _)⟩
end
section
variable{X:Cx}{κ:Kl}{pos p2:Pos}{a b e:Expr}{fa fb:Den}
theorem Mf:Pd X "str.find" (λx xs H Q=>∃i j,x=.str i/\xs=[.str j]/\Q (.int (Txt.find i j)) H):=by
 intro pins s σ H x xs v us Q I rx r h
 obtain⟨i,j,rfl,rfl,q⟩:=h
 obtain⟨t,rfl⟩:=rx
 obtain⟨u,rfl,t',rfl⟩:=vals1 r
 exact SC.find ⟨.int _,H,I.tok _,⟨_,rfl⟩,q⟩
theorem Mh{apos:Pos}(ha:DB X κ a fa)(hb:DB X κ b fb)(fT:attributeBase a "find" X.env (eval a X.env)=eval a X.env:=by rfl)
  (nB:((backTo pos (starEach [b] X.env)).all (λx=>!x.1)&&(backToKw pos (keywordEach [] X.env)).all (λx=>x.1.isSome)
    &&decide ([b].length+([]:List Keyword).length+(if([]:List Keyword).isEmpty then 0 else 1)<30))=true:=by rfl)
  (fU:(apos.endLine==pos.line)=true:=by rfl)(hs:starEach [b] X.env=(false,eval b X.env)::starEach [] X.env:=by rfl):DE X κ (.Call (.Attribute a "find" apos) [b] [] pos) (ag NL fa fb):=by
 obtain⟨ta,h1,h2⟩:=ha
 obtain⟨tb,h3,h4⟩:=hb
 refine⟨_,zu PySem.F.plainAttrs_str PySem.F.slot_str_find PySem.F.type_str_find Mf h1 (aM h3 bJ hs) fT nB fU hs,λ{G A bo own ρ σ H p Q} r e q=>?_⟩
 obtain⟨p1,e1,e2⟩:=Option.bind_eq_some_iff.mp e
 obtain⟨p2,e3,e4⟩:=Option.bind_eq_some_iff.mp e2
 (cases p1<;>first|(cases e4;done)|skip)<;>cases p2<;>first|(cases e4;done)|skip
 cases e4
 refine h2 r e1 λx H1 s1 b1=>?_
 rw[b1.str]
 refine⟨rfl,h4 (r.mono s1) e3 λy H2 s2 b2=>?_⟩
 rw[b2.str]
 exact⟨_,_,rfl,rfl,q _ H2 (s1.trans s2) (.int _)⟩
theorem wq:∀{ts:List Str} {us:List Value},Vals (ts.map V.str) us->∃l:List (Str×Tok),us=strValues l/\l.map (·.1)=ts
 |[],_,.nil=>⟨[],rfl,rfl⟩
 |x::ts,_,.cons ⟨t,ht⟩ r=>by
  obtain⟨l,h1,h2⟩:=wq r
  subst ht
  exact⟨(x,t)::l,by rw[h1];rfl,by rw[List.map_cons,h2]⟩
theorem tU{K:PySem.W.Frag}{H:Hp}:∀{vs:List V} {l:List PV} {ts:List Str},aW K κ H vs l->mZ l=some ts->vs=ts.map V.str
 |_,_,_,.nil,h=>by cases h;rfl
 |_,p::_,_,.cons r t,h=>by
  cases p<;>first|(cases h;done)|skip
  obtain⟨cs,h1,rfl⟩:=Option.map_eq_some_iff.mp h
  cases r
  rw[List.map_cons,<-tU t h1]
theorem Mi:Pd X "str.join" (λx xs H Q=>∃(i:Str) (p:Addr) (ts:List Str),x=.str i/\xs=[.ref p]/\iE X.K H p (ts.map V.str)/\JoinOk i ts=true/\Q (.str (Txt.join i ts)) H):=by
 intro pins s σ H x xs v us Q I rx r h
 obtain⟨i,p,ts,rfl,rfl,hq,ok,q⟩:=h
 obtain⟨t,rfl⟩:=rx
 obtain⟨u,rfl,ru⟩:=vals1 r
 cases ru
 obtain⟨its,rv,pl,hz⟩:=I.list hq
 obtain⟨l,rfl,hl⟩:=wq rv
 exact SC.join pl.isList hl ok λt' k=>⟨.str _,H,I.tok _,⟨_,rfl⟩,q⟩
theorem Mj{apos:Pos}(ha:DB X κ a fa)(hb:DB X κ b fb)(fT:attributeBase a "join" X.env (eval a X.env)=eval a X.env:=by rfl)
  (nB:((backTo pos (starEach [b] X.env)).all (λx=>!x.1)&&(backToKw pos (keywordEach [] X.env)).all (λx=>x.1.isSome)
    &&decide ([b].length+([]:List Keyword).length+(if([]:List Keyword).isEmpty then 0 else 1)<30))=true:=by rfl)
  (fU:(apos.endLine==pos.line)=true:=by rfl)(hs:starEach [b] X.env=(false,eval b X.env)::starEach [] X.env:=by rfl):DE X κ (.Call (.Attribute a "join" apos) [b] [] pos) (ag DK fa fb):=by
 obtain⟨ta,h1,h2⟩:=ha
 obtain⟨tb,h3,h4⟩:=hb
 refine⟨_,zu PySem.F.plainAttrs_str PySem.F.slot_str_join PySem.F.type_str_join Mi h1 (aM h3 bJ hs) fT nB fU hs,λ{G A bo own ρ σ H p Q} r e q=>?_⟩
 obtain⟨p1,e1,e2⟩:=Option.bind_eq_some_iff.mp e
 obtain⟨p2,e3,e4⟩:=Option.bind_eq_some_iff.mp e2
 (cases p1<;>first|(cases e4;done)|skip)<;>cases p2<;>first|(cases e4;done)|skip
 obtain⟨ts,e5,e6⟩:=Option.bind_eq_some_iff.mp e4
 obtain⟨ok,rfl⟩:=aZ e6
 refine h2 r e1 λx H1 s1 b1=>?_
 rw[b1.str]
 refine⟨rfl,h4 (r.mono s1) e3 λy H2 s2 b2=>?_⟩
 obtain⟨a,vs,rfl,q1,q2⟩:=b2.lst aE
 rw[tU q2 e5]at q1
 exact⟨_,a,ts,rfl,rfl,q1.sq,ok,q _ H2 (s1.trans s2) (.str _)⟩
theorem Ml{p:Pos}(ha:DB X κ a fa)(hm:X.mg "str" =none)(hg:Gl X "str" :=by rfl)(hs:starEach [a] X.env=(false,eval a X.env)::starEach [] X.env:=by rfl):DE X κ (.Call (.Name "str" p) [a] [] pos) (bb PQ fa):=by
 obtain⟨ta,h1,h2⟩:=ha
 refine⟨_,jY xi hg hm (by decide+kernel) (aM h1 bJ hs) (he:=hs),λ{G A bo own ρ σ H p Q} r e q=>?_⟩
 obtain⟨p1,e1,e2⟩:=Option.bind_eq_some_iff.mp e
 refine h2 r e1 λx H1 s1 b1=>?_
 cases p1<;>first|(cases e2;done)|skip
 obtain⟨ok,rfl⟩:=aZ e2
 rw[decide_eq_true_eq]at ok
 refine⟨_,by rw[b1.int],?_,q _ H1 s1 (.str _)⟩
 rename_i i
 have:i.natAbs.log2<20:=by
  by_cases h0:i.natAbs=0
  ·rw[h0];decide
  ·exact(Nat.log2_lt h0).mpr (by omega)
 omega
theorem Af{v:Value}{o:Option Int}(h:IsPart v o):∃l:Option (Int×Tok),v=partValue l/\l.map (·.1)=o:=by
 cases h with
 |none=>exact⟨none,rfl,rfl⟩
 |int i t=>exact⟨some (i,t),rfl,rfl⟩
theorem o8{α β:Type}(f:α->Option β):∀l:List α,(l.filterMap f).length<=l.length
 |[]=>Nat.le_refl _
 |x::l=>by
  have:=o8 f l
  rw[List.filterMap_cons]
  split
  ·rw[List.length_cons];omega
  ·rw[List.length_cons,List.length_cons];omega
end
section
variable{K:PySem.W.Frag}{κ:Kl}{H:Hp}
theorem D0{f:Str}{p:PV}:∀{ns:List Str} {vs:List V} {l:List PV},aW K κ H vs l->(ns.zip l).lookup f=some p->f∈ns/\∃v,(ns.zip vs).lookup f=some v/\Rep K κ H v p
 |[],_,_,_,h=>by cases h
 |n::ns,_,_,.nil,h=>by cases h
 |n::ns,_,_,.cons (v:=v) (p:=q) r t,h=>by
  rw[List.zip_cons_cons,List.lookup_cons]at h
  rw[List.zip_cons_cons,List.lookup_cons]
  by_cases e:f==n
  ·rw[e]at h⊢
   cases h
   exact⟨by rw[eq_of_beq e];exact List.mem_cons_self ..,v,rfl,r⟩
  ·have e':(f==n)=false:=by simpa using e
   rw[e']at h⊢
   obtain⟨h1,h2⟩:=D0 t h
   exact⟨List.mem_cons_of_mem _ h1,h2⟩
end
theorem BR.rep{K:PySem.W.Frag}{κ:Kl}{hH H:Hp}{v:V}{c:Nat}{l:List PV}(h:BR K κ hH H v (.ins c l)):Rep K κ hH v (.ins c l):=by
 rcases h with h|⟨a,vs,l',h1,h2,h3,h4⟩
 ·exact h
 ·cases h2
noncomputable def Il(K:PySem.W.Frag)(κ:Kl)(f:Str):Prop:=∀c,f∈κ.fld c->vO K (κ.adr c)/\dg K (κ.adr c) f
section
variable{X:Cx}{κ:Kl}{pos apos:Pos}{a b e o:Expr}{es:List Expr}{fa fb fo:Den}{fs:cC}{m:Str}
theorem Qj{f:Str}(ha:DB X κ a fa)(hf:Il X.K κ f)(hb:attributeBase a f X.env (eval a X.env)=eval a X.env:=by rfl):DE X κ (.Attribute a f pos) (bb (km κ.fld f) fa):=by
 obtain⟨ta,h1,h2⟩:=ha
 refine⟨_,O5 h1 hb,λ{G A bo own ρ σ H p Q} r e q=>?_⟩
 obtain⟨p1,e1,e2⟩:=Option.bind_eq_some_iff.mp e
 refine h2 r e1 λx H1 s1 b1=>?_
 cases p1<;>first|(cases e2;done)|skip
 rename_i c l
 cases b1.rep with
 |ins h3 h4 h5=>
  obtain⟨h6,v,h7,h8⟩:=D0 h5 e2
  obtain⟨k1,k2⟩:=hf c h6
  exact⟨_,_,_,_,v,rfl,aE _ _ h3,k1,k2,h7,q v H1 s1 h8⟩
noncomputable def Im(X:Cx)(m:Str)(ta:TE)(t:TA):TE:=λσ H Q=>ta σ H λx H1=>∃(a C dx:Addr) (fs:List (Str×V)) (f:Addr) (fd:FuncData) (ps:List Str) (sp:Sp) (k:Nat),x=.ref a/\H1 a=some (.ins C dx fs)/\vO X.K C/\Meth X.K C m f/\fs.lookup m=none/\
 aG X.prog X.w X.K X.mg X.base bL k f fd ps sp/\b7 k X.A/\Binds X.K fd ps []/\t σ H1 λvs H2=>sp (x::vs) H2 Q E0
theorem Ag{pl:Sem Bool}{ta:TE}{t:TA}(he:PE X o ta)(ha:PA X (e::es) t)
  (ri:starEach (e::es) X.env=(false,eval e X.env)::starEach es X.env:=by rfl)(hpl:(backTo pos (starEach es X.env)).any (·.1)=false:=by rfl)
  (ht:eval (.Call (.Attribute o m apos) (e::es) [] pos) X.env=(do
    let ov<-eval o X.env
    standAt apos.atName
    let(f,first)<-holding [ov] (getMethod ov m pl)
    callWith pos f first (backTo pos (starEach (e::es) X.env)) (backToKw pos (keywordEach [] X.env))):=by rfl):PE X (.Call (.Attribute o m apos) (e::es) [] pos) (Im X m ta t):=by
 intro pins s σ H Q I h
 refine PySem.W.methodCall_KW (pl:=pl) (de (he pins s σ H _ I h) λu s1 cv=>?_) ht
 obtain⟨x,H1,I1,rx,a,C,dx,fs,f,fd,ps,sp,k,ex,ea,c,hm,l,F,hr,hb,q⟩:=cv
 subst ex
 obtain rfl:u=Value.ref a:=rx
 refine ny I1 ea c hm l ?_
 refine PySem.W.callWith_K (first:=[.ref a]) (h₀:=X.base) I.ok.mod.kin hm.kp (de (ha pos pins s1 σ H1 _ I1 q) λus s2 ⟨vs,H2,I2,r,q2⟩=>⟨I2.oB,?_⟩) ri hpl
 refine qm (us:=.ref a::us) (vs:=.ref a::vs) (ds:=[]) (dvs:=[]) F hr hb .nil iA I2 (.cons rfl r) ?_
 rw[List.append_nil]
 exact q2
noncomputable def iZ(P:Program)(w:World)(K:PySem.W.Frag)(mg:Str->Option Value)(base:Heap)(κ:Kl)(fr:Bool)(m:Str)(k:Nat)(ps:List Str)(Fs:Nat->List PV->Option PV):Prop:=
 ∀c xs p,Fs c xs=some p->∃(f:Addr) (fd:FuncData),vO K (κ.adr c)/\Meth K (κ.adr c) m f/\m∉κ.fld c/\aG P w K mg base bL k f fd ps (cO K κ fr (Fs c))/\Binds K fd ps []
theorem tW{α:Type}{f:Str}:∀{ns:List Str} {vs:List α},f∉ns->(ns.zip vs).lookup f=none
 |[],_,_=>rfl
 |n::ns,[],_=>rfl
 |n::ns,v::vs,h=>by
  rw[List.zip_cons_cons,List.lookup_cons]
  have e:(f==n)=false:=by
   rw[beq_eq_false_iff_ne]
   exact λz=>h (z▸List.mem_cons_self ..)
  rw[e]
  exact tW λz=>h (List.mem_cons_of_mem _ z)
theorem Ah{fr:Bool}{k:Nat}{ps:List Str}{Fs:Nat->List PV->Option PV}{ta:TE}{t:TA}(M:iZ X.prog X.w X.K X.mg X.base κ fr m k ps Fs)(hr:b7 k X.A)(h2:PX X.K κ ta fo)
  (h4:∀{G A bo own ρ σ H ps Q},R X.K κ G A bo own ρ σ H->fs ρ=some ps->(∀vs H',aI H H'->aW X.K κ (di A own ρ H') vs ps->Q vs H')->t σ H Q)
  {G A bo own ρ σ H p}{Q:VK}(r:R X.K κ G A bo own ρ σ H)(e:j6 Fs fo fs ρ=some p)(q:∀v H',aI H H'->RR fr X.K κ (cE A own ρ) H H' v p->Q v H'):Im X m ta t σ H Q:=by
 obtain⟨p1,e1,e2⟩:=Option.bind_eq_some_iff.mp e
 refine h2 r e1 λx H1 s1 z1=>?_
 cases p1<;>first|(cases e2;done)|skip
 rename_i c l
 obtain⟨xs,e3,e4⟩:=Option.bind_eq_some_iff.mp e2
 obtain⟨f,fd,k1,k2,k3,k4,k5⟩:=M c _ _ e4
 cases z1 with
 |ins h3 h5 h6=>
  refine⟨_,_,_,_,f,fd,ps,_,k,rfl,aE _ _ h3,k1,k2,tW k3,k4,hr,k5,h4 (r.mono s1) e3 λvs H2 s2 z2=>?_⟩
  refine⟨cE A own ρ,_,p,λb hb=>((r.mono s1).mono s2).La hb,.cons ((Rep.ins h3 h5 h6).mono (bC s2)) z2,e4,λv H' s z=>q v H' ((s1.trans s2).trans s) ?_⟩
  unfold RR at z⊢
  split
  ·rename_i hh
   rw[if_pos hh]at z
   exact U3 z (s1.trans s2) λb w=>w
  ·rename_i hh
   rw[if_neg hh]at z
   exact z
theorem D1{k:Nat}{ps:List Str}{Fs:Nat->List PV->Option PV}{pl:Sem Bool}(M:iZ X.prog X.w X.K X.mg X.base κ false m k ps Fs)(hr:b7 k X.A)(ho:DE X κ o fo)(ha:DA X κ (e::es) fs)
  (ri:starEach (e::es) X.env=(false,eval e X.env)::starEach es X.env:=by rfl)(hpl:(backTo pos (starEach es X.env)).any (·.1)=false:=by rfl)
  (ht:eval (.Call (.Attribute o m apos) (e::es) [] pos) X.env=(do
    let ov<-eval o X.env
    standAt apos.atName
    let(f,first)<-holding [ov] (getMethod ov m pl)
    callWith pos f first (backTo pos (starEach (e::es) X.env)) (backToKw pos (keywordEach [] X.env))):=by rfl):DE X κ (.Call (.Attribute o m apos) (e::es) [] pos) (j6 Fs fo fs):=by
 obtain⟨ta,h1,h2⟩:=ho
 obtain⟨t,h3,h4⟩:=ha
 refine⟨_,Ag h1 h3 ri hpl ht,λ{G A bo own ρ σ H p Q} r e q=>?_⟩
 exact Ah M hr h2 h4 r e λv H' s z=>q v H' s z
theorem xZ{k:Nat}{ps:List Str}{Fs:Nat->List PV->Option PV}{pl:Sem Bool}(M:iZ X.prog X.w X.K X.mg X.base κ true m k ps Fs)(hr:b7 k X.A)(ho:DE X κ o fo)(ha:DA X κ (e::es) fs)
  (ri:starEach (e::es) X.env=(false,eval e X.env)::starEach es X.env:=by rfl)(hpl:(backTo pos (starEach es X.env)).any (·.1)=false:=by rfl)
  (ht:eval (.Call (.Attribute o m apos) (e::es) [] pos) X.env=(do
    let ov<-eval o X.env
    standAt apos.atName
    let(f,first)<-holding [ov] (getMethod ov m pl)
    callWith pos f first (backTo pos (starEach (e::es) X.env)) (backToKw pos (keywordEach [] X.env))):=by rfl):DO X κ (.Call (.Attribute o m apos) (e::es) [] pos) (j6 Fs fo fs):=by
 obtain⟨ta,h1,h2⟩:=ho
 obtain⟨t,h3,h4⟩:=ha
 refine⟨_,Ag h1 h3 ri hpl ht,λ{G A bo own ρ σ H p Q} r e q=>?_⟩
 exact Ah M hr h2 h4 r e λv H' s z=>q v H' s z
end
structure NV(K:PySem.W.Frag)(C:Addr)(m:Str)(f:Addr):Prop where
 rd:∃mc,PySem.W.readsIn K C mc=true/\PySem.W.findCls K (.ref C) mc m=some (.val (.ref f))
 ga:PySem.W.specialIn K (.ref C) "__getattribute__" =some (some (.builtin "type.__getattribute__"))
 hd:PySem.W.handedIn (.ref f)=true
 kp:PySem.W.keepIn K (.ref f)=true
section
variable{X:Cx}{κ:Kl}{pos apos np:Pos}{a b e o:Expr}{es:List Expr}{fa fb fo:Den}{m cn:Str}{C f:Addr}{fd:FuncData}{ps:List Str}{sp:Sp}{k:Nat}{t:TA}
theorem tX{pl:Sem Bool}(c:NV X.K C m f)(F:aG X.prog X.w X.K X.mg X.base bL k f fd ps sp)(hr:b7 k X.A)(hg:Gl X cn)(hm:X.mg cn=some (.ref C))(hb:Binds X.K fd ps [])(ha:PA X (e::es) t)(qp:(cn==("__debug__" :Str))=false:=by decide)
  (ri:starEach (e::es) X.env=(false,eval e X.env)::starEach es X.env:=by rfl)(hpl:(backTo pos (starEach es X.env)).any (·.1)=false:=by rfl)
  (ht:eval (.Call (.Attribute (.Name cn np) m apos) (e::es) [] pos) X.env=(do
    let ov<-eval (.Name cn np) X.env
    standAt apos.atName
    let(f,first)<-holding [ov] (getMethod ov m pl)
    callWith pos f first (backTo pos (starEach (e::es) X.env)) (backToKw pos (keywordEach [] X.env))):=by rfl):PE X (.Call (.Attribute (.Name cn np) m apos) (e::es) [] pos) (Dp sp [] E0 t):=by
 intro pins s σ H Q I h
 refine PySem.W.methodCall_KW (pl:=pl) (su I hg hm ?_ qp) ht
 obtain⟨mc,h1,h2⟩:=c.rd
 refine PySem.W.method_cls I.oB c.ga (PySem.W.cls_value I.oB h1 h2 c.hd ?_)
 have I1:Inv X pins σ H {s with toks:=s.toks+1}:=I.tok _
 refine PySem.W.callWith_K (first:=[]) (h₀:=X.base) I.ok.mod.kin c.kp (de (ha pos pins _ σ H _ I1 h) λus s2 ⟨vs,H2,I2,r,q2⟩=>⟨I2.oB,?_⟩) ri hpl
 exact qm (ds:=[]) (dvs:=[]) F hr hb .nil iA I2 r q2
end
noncomputable def qC(C:Addr):Sp:=λvs H Q _=>∃x dx v,vs=[.ref x,v]/\H x=some (.ins C dx [])/\Q .non (upd H x (.ins C dx [("name",v)]))
noncomputable def o9(K:PySem.W.Frag)(C:Addr):Sp:=λvs H Q _=>∃x dx v p ys,vs=[.ref x,v,.ref p]/\H x=some (.ins C dx [])/\SL K H p ys/\∀t,H t=none->Q .non (upd (upd (upd H x (.ins C dx [("wanted",v)])) t (.tup ys)) x (.ins C dx [("wanted",v),("parts",.ref t)]))
noncomputable def pd(K:PySem.W.Frag)(C:Addr)(g:List V->Int):Sp:=λvs H Q _=>∃x dx p ys,vs=[.ref x,.ref p]/\H x=some (.ins C dx [])/\SL K H p ys/\∀t,H t=none->Q .non (upd (upd (upd H x (.ins C dx [("wanted",.int (g ys))])) t (.tup ys)) x (.ins C dx [("wanted",.int (g ys)),("parts",.ref t)]))
theorem Qk{K:PySem.W.Frag}{H:Hp}{x p C dx:Addr}{fs KZ:List (Str×V)}{ys:List V}(h:H x=some (.ins C dx fs))(q:SL K H p ys):SL K (upd H x (.ins C dx KZ)) p ys:=by
 rcases q with(q|⟨ob,q⟩)|q
 ·refine .inl (.inl ?_)
  rw[aL]
  ·exact q
  ·rintro rfl
   rw[h]at q
   cases q
 ·refine .inl (.inr ⟨ob,?_⟩)
  rw[aL]
  ·exact q
  ·rintro rfl
   rw[h]at q
   cases q
 ·exact .inr q
section
variable{K:PySem.W.Frag}{C:Addr}{κ:Kl}
noncomputable abbrev WQ(K:PySem.W.Frag):List V->Hp->VK->Prop:=λxs H Q=>∃p ys,xs=[.ref p]/\((iE K H p ys/\∀l,H l=none->Q (.ref l) (upd H l (.tup ys)))\/(ll K H p ys/\Q (.ref p) H))
noncomputable abbrev WR(K:PySem.W.Frag):List V->Hp->VK->Prop:=λxs H Q=>∃p ys,xs=[.ref p]/\(iE K H p ys\/ll K H p ys)/\Q (.int ys.length) H
noncomputable abbrev DQ(Q:VK):Ends:={nx:=λ_ H'=>Q .non H',rt:=Q}
theorem Mm(cl:vO K C)(na:dg K C "name"){vs:List V}{H:Hp}{Q:VK}{E:XK}(h:qC C vs H Q E):Lu K (nu 0) (nu 1) "name" (DQ Q) (start ["self","name"] vs) H:=by
 obtain⟨x,dx,v,rfl,hx,q⟩:=h
 exact⟨v,rfl,_,rfl,x,C,dx,[],rfl,hx,cl,na,by decide,q⟩
theorem Ql(cl:vO K C)(na:dg K C "wanted")(nb:dg K C "parts"){vs:List V}{H:Hp}{Q:VK}{E:XK}(h:o9 K C vs H Q E):
  OH (Lu K (nu 0) (nu 1) "wanted") (Lu K (nu 0) (UL (WQ K) (k7 (nu 2) xk)) "parts") (DQ Q) (start ["self","wanted","parts"] vs) H:=by
 obtain⟨x,dx,v,p,ys,rfl,hx,hp,q⟩:=h
 refine⟨v,rfl,_,rfl,x,C,dx,[],rfl,hx,cl,na,by decide,?_⟩
 refine⟨_,rfl,p,ys,rfl,.inl ⟨(Qk hx hp).sq,λt ht=>?_⟩⟩
 have lq:x≠t:=by
  rintro rfl
  rw[aO]at ht
  cases ht
 have ZA:H t=none:=by
  rw[aL (Ne.symm lq)]at ht
  exact ht
 refine⟨_,rfl,x,C,dx,[("wanted",v)],rfl,?_,cl,nb,(show(1:Nat)<1000 by decide),?_⟩
 ·rw[aL lq]
  exact aO
 ·exact q t ZA
theorem Io{ta:TE}{g:List V->Int}(ht:∀{σ:St} {H:Hp} {Q:VK} {p:Addr} {ys:List V},σ[1]?=some (some (.ref p))->SL K H p ys->Q (.int (g ys)) H->ta σ H Q){vs:List V}{H:Hp}{Q:VK}{E:XK}(h:pd K C g vs H Q E):
  Dh (Dp (o9 K C) [] E0 (k7 (nu 0) (k7 ta (k7 (nu 1) xk)))) (DQ Q) (start ["self","parts"] vs) H:=by
 obtain⟨x,dx,p,ys,rfl,hx,hp,q⟩:=h
 refine⟨_,rfl,ht rfl hp ⟨_,rfl,?_⟩⟩
 exact⟨x,dx,.int (g ys),p,ys,rfl,hx,hp,λt ht=>q t ht⟩
theorem Qm{vs:List V}{H:Hp}{Q:VK}{E:XK}(h:o9 K C vs H Q E):
  Dh (Dp (o9 K C) [] E0 (k7 (nu 0) (k7 (nu 1) (k7 (nu 2) xk)))) (DQ Q) (start ["self","many","parts"] vs) H:=by
 obtain⟨x,dx,v,p,ys,rfl,hx,hp,q⟩:=h
 refine⟨_,rfl,_,rfl,_,rfl,?_⟩
 exact⟨x,dx,v,p,ys,rfl,hx,hp,λt ht=>q t ht⟩
theorem Ip{vs:List V}{H:Hp}{Q:VK}{E:XK}(h:qC C vs H Q E):vs.length=2:=by
 obtain⟨x,dx,v,rfl,_⟩:=h
 rfl
theorem D2{vs:List V}{H:Hp}{Q:VK}{E:XK}(h:o9 K C vs H Q E):vs.length=3:=by
 obtain⟨x,dx,v,p,ys,rfl,_⟩:=h
 rfl
theorem D3{g:List V->Int}{vs:List V}{H:Hp}{Q:VK}{E:XK}(h:pd K C g vs H Q E):vs.length=2:=by
 obtain⟨x,dx,p,ys,rfl,_⟩:=h
 rfl
theorem Qn{σ:St}{H:Hp}{Q:VK}{p:Addr}{ys:List V}(h:σ[1]?=some (some (.ref p)))(hp:SL K H p ys)(q:Q (.int (ys.length:Nat)) H):UL (WR K) (k7 (nu 1) xk) σ H Q:=⟨_,h,p,ys,rfl,.inl hp.sq,q⟩
theorem Qo{σ:St}{H:Hp}{Q:VK}{p:Addr}{ys:List V}(h:σ[1]?=some (some (.ref p)))(hp:SL K H p ys)(q:Q (.int 1) H):tC (.int 1) σ H Q:=q
end
section
variable{K:PySem.W.Frag}{κ:Kl}{G H H':Hp}{A:Addr->Prop}{bo:Nat->Option (Addr×List V)}{own:Nat->Addr}{ρ:cH}{σ:St}
theorem mO{C x dx:Addr}(hx:H x=none)(hd:H dx=none)(hn:dx≠x):aI H (upd (upd H dx (.own x)) x (.ins C dx [])):=(bK hd).trans (bK (by rw[aL (Ne.symm hn)];exact hx))
theorem tY{C x dx:Addr}{fs KZ:List (Str×V)}{H0:Hp}(s:aI H0 H)(hx:H0 x=none):aI H0 (upd H x (.ins C dx KZ)):=λb o e=>by
 rw[aL (bR e hx)]
 exact s b o e
theorem Mn{x dx:Addr}{v:V}{p:PV}(r:R K κ G A bo own ρ σ H)(hf:κ.fld 0=[("name" :Str)])(hx:H x=none)(hd:H dx=none)(hn:dx≠x)(z:Rep K κ (di A own ρ H) v p):
  aI H (upd (upd (upd H dx (.own x)) x (.ins (κ.adr 0) dx [])) x (.ins (κ.adr 0) dx [("name",v)]))/\Rep K κ (di A own ρ (upd (upd (upd H dx (.own x)) x (.ins (κ.adr 0) dx [])) x (.ins (κ.adr 0) dx [("name",v)]))) (.ref x) (.ins 0 [p]):=by
 have s1:aI H (upd (upd (upd H dx (.own x)) x (.ins (κ.adr 0) dx [])) x (.ins (κ.adr 0) dx [("name",v)])):=tY (fs:=[]) (mO (C:=κ.adr 0) hx hd hn) hx
 refine⟨s1,.ins (c:=0) (dx:=dx) (vs:=[v]) ?_ (by rw[hf];rfl) (.cons (z.mono (bC s1)) .nil)⟩
 rw[di,bQ (r.new hx),aO,hf]
 rfl
theorem Iq{c:Nat}{x dx t:Addr}{v:V}{q:PV}{ys:List V}{l:List PV}(r:R K κ G A bo own ρ σ H)(hf:κ.fld c=[("wanted" :Str),("parts" :Str)])(hx:H x=none)(hd:H dx=none)(hn:dx≠x)(ht:upd (upd H dx (.own x)) x (.ins (κ.adr c) dx []) t=none)
  (zv:Rep K κ (di A own ρ H) v q)(z:aW K κ (di A own ρ H) ys l):
  aI H (upd (upd (upd (upd (upd H dx (.own x)) x (.ins (κ.adr c) dx [])) x (.ins (κ.adr c) dx [("wanted",v)])) t (.tup ys)) x (.ins (κ.adr c) dx [("wanted",v),("parts",.ref t)]))/\
  Rep K κ (di A own ρ (upd (upd (upd (upd (upd H dx (.own x)) x (.ins (κ.adr c) dx [])) x (.ins (κ.adr c) dx [("wanted",v)])) t (.tup ys)) x (.ins (κ.adr c) dx [("wanted",v),("parts",.ref t)]))) (.ref x) (.ins c [q,.tup l]):=by
 have s0:aI H (upd (upd H dx (.own x)) x (.ins (κ.adr c) dx [])):=mO (C:=κ.adr c) hx hd hn
 have lq:x≠t:=by
  rintro rfl
  rw[aO]at ht
  cases ht
 have X5:H t=none:=s0.free ht
 have s1:aI H (upd (upd (upd H dx (.own x)) x (.ins (κ.adr c) dx [])) x (.ins (κ.adr c) dx [("wanted",v)])):=tY (fs:=[]) s0 hx
 have s2:aI H (upd (upd (upd (upd H dx (.own x)) x (.ins (κ.adr c) dx [])) x (.ins (κ.adr c) dx [("wanted",v)])) t (.tup ys)):=λb o e=>by
  rw[aL (bR e X5)]
  exact s1 b o e
 have s3:aI H (upd (upd (upd (upd (upd H dx (.own x)) x (.ins (κ.adr c) dx [])) x (.ins (κ.adr c) dx [("wanted",v)])) t (.tup ys)) x (.ins (κ.adr c) dx [("wanted",v),("parts",.ref t)])):=tY (fs:=[]) s2 hx
 refine⟨s3,.ins (c:=c) (dx:=dx) (vs:=[v,.ref t]) ?_ (by rw[hf];rfl) (.cons (zv.mono (bC s3)) (.cons (.tup (vs:=ys) (.inl (.inl ?_)) (z.mono (bC s3))) .nil))⟩
 ·rw[di,bQ (r.new hx),aO,hf]
  rfl
 ·rw[di,bQ (r.new X5),aL (Ne.symm lq)]
  exact aO
end
section
variable{X:Cx}{κ:Kl}{pos p:Pos}{a b:Expr}{fa fb:Den}{f:Addr}{fd:FuncData}{ps:List Str}{k:Nat}{x:Str}
theorem Fz(M:Mk X.K (κ.adr 0) f)(F:aG X.prog X.w X.K X.mg X.base bL k f fd ps (qC (κ.adr 0)))(hf:κ.fld 0=[("name" :Str)])(hr:b7 (k+1) X.A)(hm:X.mg x=some (.ref (κ.adr 0)))(hb:Binds X.K fd ps [])(ha:DB X κ a fa)(hg:Gl X x:=by rfl)(qp:(x==("__debug__" :Str))=false:=by decide)
  (he:starEach [a] X.env=(false,eval a X.env)::starEach [] X.env:=by rfl):DE X κ (.Call (.Name x p) [a] [] pos) (bb HH fa):=by
 obtain⟨ta,h1,h2⟩:=ha
 refine⟨_,oG M F hr hg hm hb .nil iA (aM h1 bJ he) qp he,λ{G A bo own ρ σ H p Q} r e q=>?_⟩
 obtain⟨p1,e1,e2⟩:=Option.bind_eq_some_iff.mp e
 refine h2 r e1 λv H1 s1 b1=>?_
 cases p1<;>first|(cases e2;done)|skip
 cases e2
 intro y dy hy Fv hn
 rw[b1.str]
 obtain⟨s3,z3⟩:=Mn (r.mono s1) hf hy Fv hn (.str _)
 exact⟨y,dy,_,rfl,aO,rfl,q _ _ (s1.trans s3) z3⟩
theorem D4{c:Nat}{g:List V->Int}{gP:List PV->Int}{ta:TE}(ZC:∀{vs:List V} {l:List PV},vs.length=l.length->g vs=gP l)(hf:κ.fld c=[("wanted" :Str),("parts" :Str)])(h2:HP X.K κ ta fa):PX X.K κ (Nu (κ.adr c) (pd X.K (κ.adr c) g) [] E0 (k7 ta xk)) (bb (λp=>match p with|.lst l=>some (.ins c [.int (gP l),.tup l])|_=>none) fa):=λ{G A bo own ρ σ H p Q} r e q=>by
 obtain⟨p1,e1,e2⟩:=Option.bind_eq_some_iff.mp e
 refine h2 r e1 λv H1 s1 b1=>?_
 cases p1<;>first|(cases e2;done)|skip
 rename_i l
 cases e2
 obtain⟨a,ys,rfl,q1,q2⟩:=b1.lst aE
 intro y dy hy Fv hn
 have s0:aI H1 (upd (upd H1 dy (.own y)) y (.ins (κ.adr c) dy [])):=mO (C:=κ.adr c) hy Fv hn
 refine⟨y,dy,a,ys,rfl,aO,s0.sl q1,λt ht=>⟨rfl,?_⟩⟩
 rw[ZC q2.length]
 obtain⟨s3,z3⟩:=Iq (r.mono s1) hf hy Fv hn ht (.int (gP l)) q2
 exact q _ _ (s1.trans s3) z3
theorem Ir(M:Mk X.K (κ.adr 1) f)(F:aG X.prog X.w X.K X.mg X.base bL k f fd ps (pd X.K (κ.adr 1) λys=>(ys.length:Nat)))(hf:κ.fld 1=[("wanted" :Str),("parts" :Str)])(hr:b7 (k+1) X.A)(hm:X.mg x=some (.ref (κ.adr 1)))(hb:Binds X.K fd ps [])(ha:DB X κ a fa)(hg:Gl X x:=by rfl)(qp:(x==("__debug__" :Str))=false:=by decide)
  (he:starEach [a] X.env=(false,eval a X.env)::starEach [] X.env:=by rfl):DE X κ (.Call (.Name x p) [a] [] pos) (bb HI fa):=by
 obtain⟨ta,h1,h2⟩:=ha
 exact⟨_,oG M F hr hg hm hb .nil iA (aM h1 bJ he) qp he,λ{G A bo own ρ σ H p Q} r e q=>D4 (c:=1) (g:=λys=>(ys.length:Nat)) (gP:=λl=>(l.length:Nat)) (λh=>by rw[h]) hf h2 r (by
  obtain⟨p1,e1,e2⟩:=Option.bind_eq_some_iff.mp e
  refine Option.bind_eq_some_iff.mpr ⟨p1,e1,?_⟩
  cases p1<;>first|(cases e2;done)|exact e2) q⟩
theorem Iu(M:Mk X.K (κ.adr 2) f)(F:aG X.prog X.w X.K X.mg X.base bL k f fd ps (pd X.K (κ.adr 2) λ_=>1))(hf:κ.fld 2=[("wanted" :Str),("parts" :Str)])(hr:b7 (k+1) X.A)(hm:X.mg x=some (.ref (κ.adr 2)))(hb:Binds X.K fd ps [])(ha:DB X κ a fa)(hg:Gl X x:=by rfl)(qp:(x==("__debug__" :Str))=false:=by decide)
  (he:starEach [a] X.env=(false,eval a X.env)::starEach [] X.env:=by rfl):DE X κ (.Call (.Name x p) [a] [] pos) (bb HJ fa):=by
 obtain⟨ta,h1,h2⟩:=ha
 exact⟨_,oG M F hr hg hm hb .nil iA (aM h1 bJ he) qp he,λ{G A bo own ρ σ H p Q} r e q=>D4 (c:=2) (g:=λ_=>1) (gP:=λ_=>1) (λ_=>rfl) hf h2 r (by
  obtain⟨p1,e1,e2⟩:=Option.bind_eq_some_iff.mp e
  refine Option.bind_eq_some_iff.mpr ⟨p1,e1,?_⟩
  cases p1<;>first|(cases e2;done)|exact e2) q⟩
theorem FA(M:Mk X.K (κ.adr 3) f)(F:aG X.prog X.w X.K X.mg X.base bL k f fd ps (o9 X.K (κ.adr 3)))(hf:κ.fld 3=[("wanted" :Str),("parts" :Str)])(hr:b7 (k+1) X.A)(hm:X.mg x=some (.ref (κ.adr 3)))(hb:Binds X.K fd ps [])(ha:DB X κ a fa)(jx:DB X κ b fb)(hg:Gl X x:=by rfl)(qp:(x==("__debug__" :Str))=false:=by decide)
  (he:starEach [a,b] X.env=(false,eval a X.env)::starEach [b] X.env:=by rfl)(ZD:starEach [b] X.env=(false,eval b X.env)::starEach [] X.env:=by rfl)(hpl:(backTo pos (starEach [b] X.env)).any (·.1)=false:=by rfl):DE X κ (.Call (.Name x p) [a,b] [] pos) (ag BN fa fb):=by
 obtain⟨ta,h1,h2⟩:=ha
 obtain⟨tb,h3,h4⟩:=jx
 refine⟨_,oG M F hr hg hm hb .nil iA (aM h1 (aM h3 bJ ZD) he) qp he hpl,λ{G A bo own ρ σ H p Q} r e q=>?_⟩
 refine qA h2 h4 r e λv u p1 p2 H1 s1 r1 b1 b2 e2=>?_
 (cases p1<;>first|(cases e2;done)|skip)<;>cases p2<;>first|(cases e2;done)|skip
 cases e2
 obtain⟨a,ys,rfl,q1,q2⟩:=b2.lst aE
 intro y dy hy Fv hn
 have s0:aI H1 (upd (upd H1 dy (.own y)) y (.ins (κ.adr 3) dy [])):=mO (C:=κ.adr 3) hy Fv hn
 rw[b1.int]
 refine⟨y,dy,_,a,ys,rfl,aO,s0.sl q1,λt ht=>⟨rfl,?_⟩⟩
 obtain⟨s3,z3⟩:=Iq r1 hf hy Fv hn ht (.int _) q2
 exact q _ _ (s1.trans s3) z3
end
structure WS(K:PySem.W.Frag)(C CR:Addr):Prop where
 cl:vO K C
 ha:PySem.W.findIn K (.ref C) "__class__" =some (some (.builtin "object.__class__"))
 hn:PySem.W.specialIn K (.builtin "object.__class__") "__get__" =some (some (.builtin "getset_descriptor.__get__"))
 htk:PySem.W.takesIn K (.builtin "object.__class__")=some true
 hm:PySem.W.mroIn K C (.type "object")=some true
 Qc:PySem.W.kitOne K (.ref C) (.ref CR)=some true
section
variable{X:Cx}{κ:Kl}{pos p:Pos}{a b:Expr}{fa fb:Den}
theorem tZ(ha:DB X κ a fa)(hm:X.mg "tuple" =none)(hg:Gl X "tuple" :=by rfl)(hs:starEach [a] X.env=(false,eval a X.env)::starEach [] X.env:=by rfl):DE X κ (.Call (.Name "tuple" p) [a] [] pos) (bb jF fa):=by
 obtain⟨ta,h1,h2⟩:=ha
 refine⟨_,jY mX hg hm (by decide+kernel) (aM h1 bJ hs) (he:=hs),λ{G A bo own ρ σ H p Q} r e q=>?_⟩
 obtain⟨p1,e1,e2⟩:=Option.bind_eq_some_iff.mp e
 refine h2 r e1 λx H1 s1 b1=>?_
 cases p1<;>first|(cases e2;done)|skip
 ·cases e2
  obtain⟨a,vs,rfl,q1,q2⟩:=b1.lst aE
  exact⟨a,vs,rfl,.inl ⟨q1.sq,λl hl=>q _ _ (s1.trans (bK hl)) ((r.mono s1).Th hl q2)⟩⟩
 ·cases e2
  rcases b1 with b1|⟨_,_,_,_,z,_⟩
  ·cases b1 with
   |tup q1 q2=>exact⟨_,_,rfl,.inr ⟨wb aE q1,q _ H1 s1 (.tup q1 q2)⟩⟩
  ·cases z
theorem Ai(ns:List Int):∀n,n<ns.length->(ns.take (n+1)).tail.foldl (λa b=>if b>a then b else a) (ns.getD 0 0)=ns.getD (argBest (λi j=>decide (ns.getD i 0>ns.getD j 0)) n) 0
 |0,h=>by
  have:(ns.take 1).tail=[]:=by
   cases ns with
   |nil=>rfl
   |cons x l=>simp
  rw[this]
  rfl
 |n+1,h=>by
  have ih:=Ai ns n (by omega)
  have e:(ns.take (n+1+1)).tail=(ns.take (n+1)).tail++[ns.getD (n+1) 0]:=by
   rw[List.take_add_one,List.getElem?_eq_getElem h,List.tail_append_of_ne_nil,List.getD_eq_getElem?_getD,List.getElem?_eq_getElem h]
   ·rfl
   ·intro z
    have h2:(ns.take (n+1)).length=0:=by rw[z];rfl
    rw[List.length_take]at h2
    omega
  rw[e,List.foldl_append,ih]
  show(if ns.getD (n+1) 0>ns.getD (argBest _ n) 0 then _ else _)=ns.getD (if decide (ns.getD (n+1) 0>ns.getD (argBest _ n) 0)=true then n+1 else argBest _ n) 0
  by_cases hh:ns.getD (n+1) 0>ns.getD (argBest (λi j=>decide (ns.getD i 0>ns.getD j 0)) n) 0
  ·rw[if_pos hh,if_pos (decide_eq_true hh)]
  ·rw[if_neg hh,if_neg (by rw[decide_eq_false hh];decide)]
theorem wu:∀{us:List Value} {ns:List Int},IntsAre us ns->∃xs:List (Int×Tok),us=xs.map (λp=>Value.int p.1 p.2)/\xs.map (·.1)=ns
 |_,_,.nil=>⟨[],rfl,rfl⟩
 |_,_,.cons i t h=>by
  obtain⟨xs,h1,h2⟩:=wu h
  exact⟨(i,t)::xs,by rw[h1];rfl,by rw[List.map_cons,h2]⟩
theorem vA(hc:X.calm=true):hX X (.builtin "max") (λxs H Q=>∃(p:Addr) (ns:List Int) (m:Int),xs=[.ref p]/\iE X.K H p (ns.map V.int)/\Te ns=some m/\Q (.int m) H):=by
 intro pins s σ H xs us Q I r h
 obtain⟨p,ns,m,rfl,hq,hm,q⟩:=h
 obtain⟨u,rfl,ru⟩:=vals1 r
 cases ru
 obtain⟨its,rv,pl,hz⟩:=I.list hq
 obtain⟨ts,rfl,ht⟩:=wu (intsAre_of rv)
 have hlen:ns.length=ts.length:=by rw[<-ht,List.length_map]
 have h0:0<ns.length:=by
  cases ns with
  |nil=>cases hm
  |cons _ _=>simp
 have na:∀i,numAt ts.toArray i=ns.getD i 0:=λi=>by
  unfold numAt
  rw[<-ht,List.getD_eq_getElem?_getD,List.getElem?_map]
  simp
 refine max_intList (xs:=ts.toArray) (I.ok.hd hc) (by simpa[intItems]using pl.isList) (by simpa using(hlen▸h0)) λv h' tk hv kp=>?_
 obtain⟨t,rfl⟩:=intItems_at hv
 have bm:=Ai ns (ns.length-1) (by omega)
 rw[show ns.length-1+1=ns.length by omega,List.take_length]at bm
 have em:m=numAt ts.toArray (argBest (λi j=>decide (numAt ts.toArray i>numAt ts.toArray j)) (ts.toArray.size-1)):=by
  rw[na,List.size_toArray,<-hlen,show(λi j=>decide (numAt ts.toArray i>numAt ts.toArray j))=λi j=>decide (ns.getD i 0>ns.getD j 0)from by funext i j;rw[na,na],<-bm]
  cases ns with
  |nil=>cases hm
  |cons x l=>
   cases hm
   rfl
 rw[<-em]
 exact⟨.int m,H,I.kept (t':=tk) kp,⟨_,rfl⟩,q⟩
theorem Mo(ha:DB X κ a fa)(hm:X.mg "max" =none)(hg:Gl X "max" :=by rfl)(hc:X.calm=true:=by rfl)(hs:starEach [a] X.env=(false,eval a X.env)::starEach [] X.env:=by rfl):DE X κ (.Call (.Name "max" p) [a] [] pos) (bb zR fa):=by
 obtain⟨ta,h1,h2⟩:=ha
 refine⟨_,iU (vA hc) hg hm (by decide+kernel) (aM h1 bJ hs) (he:=hs),λ{G A bo own ρ σ H p Q} r e q=>?_⟩
 obtain⟨p1,e1,e2⟩:=Option.bind_eq_some_iff.mp e
 refine h2 r e1 λx H1 s1 b1=>?_
 cases p1<;>first|(cases e2;done)|skip
 obtain⟨ns,e3,e4⟩:=Option.bind_eq_some_iff.mp e2
 obtain⟨m,e5,rfl⟩:=Option.map_eq_some_iff.mp e4
 obtain⟨a,vs,rfl,q1,q2⟩:=b1.lst aE
 rw[Ij q2 e3]at q1
 exact⟨a,ns,m,rfl,q1.sq,e5,q _ H1 s1 (.int _)⟩
theorem Aj{l u st:Option (Int×Tok)}{y:Str}{t:Tok}{Q:Value->Shared->Prop}{s:Shared}(h0:(st.map (·.1)).getD 1≠0)(hy:y.length<=sizeLine)(q:∀t' k,Q (.str (bZ y (l.map (·.1)) (u.map (·.1)) ((st.map (·.1)).getD 1)) t') {s with toks:=k}):(sliceMade y t l u st).post Q s:=by
 unfold sliceMade
 unfold bZ at q
 unfold slicePicked
 split
 ·rename_i hh
  rw[if_pos hh]at q
  exact q t s.toks
 ·rename_i hh
  rw[if_neg hh]at q
  refine⟨?_,q _ _⟩
  show((Builtin.Str.strSliceIndices _ _ _ y.length).filterMap (y.cps[·]?)).toArray.size<=sizeLine
  rw[List.size_toArray]
  have h1:=o8 (y.cps[·]?) (Builtin.Str.strSliceIndices (l.map (·.1)) (u.map (·.1)) ((st.map (·.1)).getD 1) y.length)
  have h2:=sliceIndicesBy_le (l.map (·.1)) (u.map (·.1)) ((st.map (·.1)).getD 1) h0 y.length
  omega
theorem Qp:O9 X (λx lo hi H Q=>∃y,x=.str y/\y.length<=sizeLine/\Q (.str (bZ y lo hi 1)) H):=by
 intro pins s σ H x v vl vu lo hi sl Q I rx hs pl pu h
 obtain⟨y,rfl,hy,q⟩:=h
 obtain⟨t,rfl⟩:=rx
 obtain⟨l,rfl,hl⟩:=Af pl
 obtain⟨u,rfl,hu⟩:=Af pu
 refine⟨"str",_,F.slot_str_getitem.lookup,typeIs_str _ _ _,wpAny_getItem_str_slice (l:=l) (u:=u) (st:=none) hs rfl (Aj (st:=none) (by decide) hy λt' k=>?_)⟩
 rw[hl,hu]
 exact⟨.str _,H,I.tok _,⟨_,rfl⟩,q⟩
theorem fD{p2:Pos}{lo hi:Option Expr}{fl fh:xH}(ha:DB X κ a fa)(hl:DP X κ lo fl)(hh:DP X κ hi fh):DE X κ (.Subscript a (.Slice lo hi none p2) pos) (kl fa fl fh):=by
 obtain⟨ta,h1,h2⟩:=ha
 obtain⟨tl,h3,h4⟩:=hl
 obtain⟨th,h5,h6⟩:=hh
 refine⟨_,zq (Dr.or Qp) h1 h3 h5,λ{G A bo own ρ σ H p Q} r e q=>?_⟩
 obtain⟨p1,e1,e2⟩:=Option.bind_eq_some_iff.mp e
 obtain⟨o1,e3,e4⟩:=Option.bind_eq_some_iff.mp e2
 obtain⟨o2,e5,e6⟩:=Option.bind_eq_some_iff.mp e4
 refine h2 r e1 λx H1 s1 b1=>h4 (r.mono s1) e3 λH2 s2=>h6 ((r.mono s1).mono s2) e5 λH3 s3=>?_
 have NQ:=(s1.trans s2).trans s3
 cases p1<;>first|(cases e6;done)|skip
 ·obtain⟨hy,rfl⟩:=aZ e6
  exact .inr ⟨_,by rw[b1.str],hy,q _ H3 NQ (.str _)⟩
 ·cases e6
  obtain⟨a,vs,rfl,q1,q2⟩:=(b1.zS (s2.trans s3)).lst aE
  exact .inl ⟨a,vs,rfl,q1.sq,λn hn=>q _ _ (NQ.trans (bK hn)) (OR.rep (r.mono NQ) ((r.mono NQ).vq hn (q2.cut o1 o2)))⟩
end
section
variable{X:Cx}{κ:Kl}{pos p p2:Pos}{a b c e:Expr}{fa fb:Den}
theorem Mp{te tc:TE}(he:PE X e te)(hc:PE X c tc):PE X (.Subscript e (.Slice none none (some c) p2) pos) (λσ H Q=>te σ H λx H1=>tc σ H1 λz H2=>∃y,x=.str y/\z=.int (-1)/\y.length<=sizeLine/\Q (.str (bZ y none none (-1))) H2):=by
 intro pins s σ H Q I h
 refine Subscript_ (de (he pins s σ H _ I h) λv s1 cv=>?_)
 obtain⟨x,H1,I1,r1,q1⟩:=cv
 refine wpAny_Slice ?_
 rw[evalPart_none]
 refine wpAny_pure (wpAny_pure ?_)
 rw[evalPart_some]
 refine de (hc pins s1 σ H1 _ I1 q1) λu s3 cv=>?_
 obtain⟨z,H3,I3,r3,y,ex,ez,hy,q⟩:=cv
 subst ex ez
 obtain⟨t,rfl⟩:=r1
 obtain⟨t',rfl⟩:=r3
 have I4:Inv X pins σ H3 {s3 with heap:=s3.heap.push {cls:=.type "slice",data:=.fields #[.none,.none,.int (-1) t']}}:=I3.kept (t':=s3.toks) λb ob q=>Heap.get?_push_of_some _ q
 show wpAny (model X.prog X.w) X.A (subscriptTail e (.Slice none none (some c) p2) (.str y t) (.ref s3.heap.objs.size)) (EP X pins σ Q) X.xe {s3 with heap:=s3.heap.push {cls:=.type "slice",data:=.fields #[.none,.none,.int (-1) t']}}
 refine tail_any (ops:=[.ref s3.heap.objs.size,.str y t]) (T:= "str") (typeIs_str _ _ _) F.slot_str_getitem.lookup ?_ (by with_unfolding_all rfl)
 refine wpAny_getItem_str_slice (l:=none) (u:=none) (st:=some (-1,t')) ⟨_,Heap.get?_push_size _ rfl,rfl,rfl⟩ rfl (Aj (st:=some (-1,t')) (show(-1:Int)≠0 by decide) hy λt'' k=>?_)
 exact⟨.str _,H3,I4.tok _,⟨_,rfl⟩,q⟩
theorem Mq(ha:DB X κ a fa)(hc:DB X κ c (bb qx (dC (.int 1)))):DE X κ (.Subscript a (.Slice none none (some c) p2) pos) (bb PN fa):=by
 obtain⟨ta,h1,h2⟩:=ha
 obtain⟨tc,h3,h4⟩:=hc
 refine⟨_,Mp h1 h3,λ{G A bo own ρ σ H p Q} r e q=>?_⟩
 obtain⟨p1,e1,e2⟩:=Option.bind_eq_some_iff.mp e
 refine h2 r e1 λx H1 s1 b1=>h4 (r.mono s1) (p:=.int (-1)) rfl λz H2 s2 b2=>?_
 cases p1<;>first|(cases e2;done)|skip
 obtain⟨hy,rfl⟩:=aZ e2
 exact⟨_,b1.str,b2.int,hy,q _ H2 (s1.trans s2) (.str _)⟩
end
theorem walkD2{l:PySem.W.OpenLaw}{n k:Nat}{q:Program}{loose:List Str}{XP:(Str->Option Value)->Heap->Prop}{YP:World->Heap->Prop}{d:DefRec}{K:Params->PySem.W.Frag}{x:Str}{F:List PV->Option PV}
  (hn:l.most=some n)(RG:n<=sizeLine)(V9:d.params.defaults=[])(hr:b7 k callerA)
  (hY:∀(w:World) (h:Heap),YP w h->(K w.params).In h)
  (FF:∀(w:World) (mg:Str->Option Value) (fa:Addr) (h:Heap),(K w.params).In h->h.Ns mainGlobals mg->mg d.name=some (.ref fa)->
    ∃(κ:Kl) (fd:FuncData),(∀(s:Shared) (u:Value),BindsTo s fd ⟨[u],[]⟩ [(x,u)])/\
     ∀base:Heap,(K w.params).In base->base.Ns mainGlobals mg->aG l.prog w (K w.params) mg base bL k fa fd [x] (cO (K w.params) κ false F))
  (hF:∀ns:List Int,ns.length<=n->F [.lst (ns.map .int)]=some (.bl true)):
  PySem.W.WalkO q loose XP YP l.row.toRowW d [] (λf vs=>PySem.call f vs):=by
 refine Att.zw hn V9 λw s₀ s₁ mg mb fa o pm cd doc a vs ns G Y ho hd rh S1 Pk hints hlen hg=>?_
 have KX:=hY w _ Y
 obtain⟨κ,fd,hb,WN⟩:=FF w mg fa _ KX G.T.g S1
 refine Fh KX G.T.g G.T.b G.T.builtins G.T.nolimit hg Pk hints (Nat.le_trans hlen RG) hr WN hb (λH hO hS=>?_) λH e s' z=>z
 have e:hide (λ_=>False) H=H:=by
  funext b
  exact bQ λz=>z
 refine⟨λ_=>False,[.lst (ns.map .int)],.bl true,λb z=>z.elim,.cons ?_ .nil,hF ns hlen,λv H' s z=>?_⟩
 ·rw[e]
  exact .lst hS (ints_rep ns)
 ·cases(show Rep (K w.params) κ _ v (.bl true)from z)
  rfl
theorem iZ.mono{P:Program}{w:World}{K:PySem.W.Frag}{mg:Str->Option Value}{base:Heap}{κ:Kl}{fr:Bool}{m:Str}{j k:Nat}{ps:List Str}{Fs:Nat->List PV->Option PV}(M:iZ P w K mg base κ fr m j ps Fs)(h:j<=k):iZ P w K mg base κ fr m k ps Fs:=λc xs p e=>by
 obtain⟨f,fd,h1,h2,h3,h4,h5⟩:=M c xs p e
 exact⟨f,fd,h1,h2,h3,h4.mono h,h5⟩
theorem pf{X:Cx}{κ:Kl}{fr:Bool}{st:Stmt}:DS X κ fr st tH:=⟨_,zk,λ{G A bo own ρ σ H fl D} r e k=>by cases e⟩
structure Em(K:PySem.W.Frag)(x q:Str)(st:Stmt)(ps:List Str)(f:Addr)(fd:FuncData):Prop where
 F:L2.rq K x q st f fd
 b:L2.Binds K fd ps []
noncomputable def Mr(s:Stmt)(j:Nat):Stmt:=match s with
 |.ClassDef _ _ _ b _ _ _ _ _ _ _=>b.getD j (.Pass ⟨0,0,0,0⟩)
 |_=>.Pass ⟨0,0,0,0⟩
section
variable{K:PySem.W.Frag}{mg:Str->Option Value}{κ:Kl}{CR CC fH fA fY fS fC:Addr}
theorem Iv{c:Nat}{f:Str}(h:f∈RV c):(c=0/\f= "name")\/(0<c/\c<4/\(f= "wanted" \/f= "parts")):=by
 unfold RV at h
 split at h
 ·exact .inl ⟨by assumption,by simpa using h⟩
 ·split at h
  ·exact .inr ⟨by omega,by assumption,by simpa using h⟩
  ·cases h
end
end L2.D
namespace PySem.SeqAt
open PySem.Spec
open AutoSeq1 (wpAny_loadPart')
open MeetsSeq MeetsSeq2 MeetsSeq3 SeqRoads2
theorem vB(l:Addr)(items:Array Value)(n:Nat)(dd:Option Addr)(sl:Array (Option Value))(x:Value)(e:Value->Bool)(k:Nat)(hk:k<items.size)(h1:e items[k]=true)(h2:∀j (hj:j<k),e (items[j]'(by omega))=false):
  Meets (Builtin.«tuple.index» ⟨[.ref l,x],[]⟩)
   (λA R s=>s.heap.get? l=some {cls:=.type "tuple",dict:=dd,data:=.seq items n,slots:=sl}/\(∀y,y∈items->EqAt A.in1 s y x (e y))/\R (.ok (.ret (.int (k:Nat) s.toks))) {s with toks:=s.toks+1}):=
 .of_wp λprog w A R s h=>by
  obtain⟨hp,g,d,tk,os⟩:=s;obtain⟨hl,he,h⟩:=h
  unfold Builtin.«tuple.index»
  simp only[Std.Legacy.Range.forIn_eq_forIn_range',Std.Legacy.Range.size,Nat.sub_zero,Nat.add_sub_cancel,Nat.div_one]
  wp_walk using wpAny_loadPart' hl,wpAny_forIn_list _ (λrest b s'=>b.1=none/\s'=⟨hp,g,d,tk,os⟩/\∃i,rest=List.range' i (items.size-i)/\i<=k) _
  case turn=>
   rintro j rest b s' ⟨hb,rfl,i,hr,hi⟩
   have ee:items.size-i=(items.size-(i+1))+1:=by omega
   rw[ee,List.range'_succ]at hr
   injection hr with q1 q2
   subst q1
   have hj:j<items.size:=by omega
   rw[Array.getElem?_eq_getElem hj]
   refine wpAny_bind (he items[j] (Array.getElem_mem hj) prog w _ _ ?_)
   rcases Nat.lt_or_ge j k with jW|hge
   ·rw[h2 j jW]
    wp_walk
    exact⟨rfl,rfl,j+1,q2,jW⟩
   ·obtain rfl:j=k:=by omega
    rw[h1]
    wp_walk
    exact⟨_,rfl,h⟩
  case fin=>
   rintro⟨b1,b2⟩ s' ⟨hb,rfl,i,hr,hi⟩
   have ee:items.size-i=(items.size-(i+1))+1:=by omega
   rw[ee,List.range'_succ]at hr
   cases hr
  case h=>
   exact⟨rfl,rfl,0,by simp,Nat.zero_le _⟩
end PySem.SeqAt
namespace L2.D
open PySem PySem.Spec PyProof.Rows PySem.SeqAt
section
variable{X:Cx}{κ:Kl}{pos p p2 apos:Pos}{a b c e:Expr}{fa fb:Den}
noncomputable def x5(x:Str):Value->Bool
 |.str y _=>decide (y=x)
 |_=>false
theorem ua{x:Str}:∀{ts:List Str} {us:List Value},Vals (ts.map V.str) us->x∈ts->∃h:dW x ts<us.length,x5 x us[dW x ts]=true/\∀j (hj:j<dW x ts),x5 x (us[j]'(Nat.lt_trans hj h))=false
 |[],_,_,h=>nomatch h
 |y::ts,_,.cons ⟨t,ht⟩ r,h=>by
  subst ht
  by_cases e:y=x
  ·subst e
   have z:dW y (y::ts)=0:=by unfold dW;rw[if_pos rfl]
   refine⟨by rw[z];simp,?_,λj hj=>by rw[z]at hj;omega⟩
   simp only[z]
   show decide (y=y)=true
   simp
  ·have hx:x∈ts:=(List.mem_cons.mp h).resolve_left λz=>e z.symm
   obtain⟨h1,h2,h3⟩:=ua r hx
   have z:dW x (y::ts)=dW x ts+1:=by
    show(if y=x then 0 else 1+dW x ts)=_
    rw[if_neg e,Nat.add_comm]
   refine⟨by rw[z];simpa using h1,?_,λj hj=>?_⟩
   ·simp only[z]
    exact h2
   ·cases j with
    |zero=>
     show decide (y=x)=false
     simpa using e
    |succ j=>
     rw[z]at hj
     exact h3 j (by omega)
theorem wx{A:Around}{s:Shared}{y x:Str}{t u:Tok}:EqAt A s (.str y t) (.str x u) (decide (y=x)):=λprog w E Q h=>wpAny_eqBool_str h
theorem qD{x:Str}:∀{ts:List Str} {us:List Value},Vals (ts.map V.str) us->∀v∈us,∃y t,v=.str y t
 |[],_,.nil,v,h=>nomatch h
 |y::ts,_,.cons ⟨t,ht⟩ r,v,h=>by
  rcases List.mem_cons.mp h with rfl|h
  ·exact⟨y,t,ht⟩
  ·exact qD (x:=x) r v h
theorem Iw{ta:TE}{tb:TE}(ha:PE X a ta)(hb:PE X b tb)(fT:attributeBase a "index" X.env (eval a X.env)=eval a X.env:=by rfl)
  (nB:((backTo pos (starEach [b] X.env)).all (λx=>!x.1)&&(backToKw pos (keywordEach [] X.env)).all (λx=>x.1.isSome)
    &&decide ([b].length+([]:List Keyword).length+(if([]:List Keyword).isEmpty then 0 else 1)<30))=true:=by rfl)
  (fU:(apos.endLine==pos.line)=true:=by rfl)(hs:starEach [b] X.env=(false,eval b X.env)::starEach [] X.env:=by rfl):
  PE X (.Call (.Attribute a "index" apos) [b] [] pos) (λσ H Q=>ta σ H λx H1=>∃p ts,x=.ref p/\ll X.K H1 p (ts.map V.str)/\tb σ H1 λy H2=>∃z,[y]=[V.str z]/\ll X.K H2 p (ts.map V.str)/\z∈ts/\Q (.int (dW z ts:Nat)) H2):=by
 intro pins s σ H Q I h
 refine wpAny_Call_method_late fT nB fU rfl (de (ha pins s σ H _ I h) λv s1 cv=>?_)
 obtain⟨x,H1,I1,r1,p,ts,ex,hq,q1⟩:=cv
 subst ex
 cases r1
 obtain⟨its,rv,pl,hz⟩:=I1.tuple hq
 have nd:=I1.OG hq
 refine⟨"tuple","tuple.index",PySem.F.plainAttrs_tuple,PySem.F.slot_tuple_index,PySem.F.type_tuple_index,(show s1.heap.IsTuple p its.toArray from pl).typeIs,λa e=>by cases e;exact nd,?_⟩
 have hA:=aM hb bJ hs pos pins s1 σ H1 (λvs H2=>∃z,vs=[.str z]/\ll X.K H2 p (ts.map V.str)/\z∈ts/\Q (.int (dW z ts:Nat)) H2) I1 q1
 rw[hs]at hA⊢
 refine Calls.callWith_builtin (by rfl) (Calls.evalArgs_plain ?_)
 refine de hA λus s2 cv=>?_
 obtain⟨vs,H2,I2,r2,z,ez,NS,hm,q2⟩:=cv
 subst ez
 obtain⟨u,rfl,t,rfl⟩:=vals1 r2
 obtain⟨mU,Mb,⟨⟨cls,dd,data,sl⟩,ho,hc,n,hd⟩,R0⟩:=I2.tuple NS
 simp only at hc hd
 subst hc hd
 obtain⟨h1,h2,h3⟩:=ua Mb hm
 refine call_meets PySem.F.slot_tuple_index ⟨_,ho,rfl⟩ PySem.F.entry_tuple_index (PySem.F.args_tuple_index_2 _ _) (vB p mU.toArray n dd sl (.str z t) (x5 z) (dW z ts) (by simpa using h1) (by simpa using h2) (λj hj=>by simpa using h3 j hj)) ⟨ho,λy hy=>?_,?_⟩
 ·obtain⟨y',t',rfl⟩:=qD (x:=z) Mb y (by simpa using hy)
  exact wx
 ·exact⟨.int _,H2,I2.tok _,⟨_,rfl⟩,q2⟩
theorem Iy(ha:DB X κ a fa)(hb:DB X κ b fb)(fT:attributeBase a "index" X.env (eval a X.env)=eval a X.env:=by rfl)
  (nB:((backTo pos (starEach [b] X.env)).all (λx=>!x.1)&&(backToKw pos (keywordEach [] X.env)).all (λx=>x.1.isSome)
    &&decide ([b].length+([]:List Keyword).length+(if([]:List Keyword).isEmpty then 0 else 1)<30))=true:=by rfl)
  (fU:(apos.endLine==pos.line)=true:=by rfl)(hs:starEach [b] X.env=(false,eval b X.env)::starEach [] X.env:=by rfl):DE X κ (.Call (.Attribute a "index" apos) [b] [] pos) (ag BO fa fb):=by
 obtain⟨ta,h1,h2⟩:=ha
 obtain⟨tb,h3,h4⟩:=hb
 refine⟨_,Iw h1 h3 fT nB fU hs,λ{G A bo own ρ σ H p Q} r e q=>?_⟩
 obtain⟨p1,e1,e2⟩:=Option.bind_eq_some_iff.mp e
 obtain⟨p2,e3,e4⟩:=Option.bind_eq_some_iff.mp e2
 (cases p1<;>first|(cases e4;done)|skip)<;>cases p2<;>first|(cases e4;done)|skip
 obtain⟨ts,e5,e6⟩:=Option.bind_eq_some_iff.mp e4
 obtain⟨ok,rfl⟩:=aZ e6
 refine h2 r e1 λx H1 s1 b1=>?_
 obtain⟨a,vs,rfl,q1,q2⟩:=b1.tup aE
 have ev:=tU q2 e5
 subst ev
 refine⟨a,ts,rfl,q1,h4 (r.mono s1) e3 λy H2 s2 b2=>?_⟩
 rw[b2.str]
 exact⟨_,rfl,wb s2 q1,of_decide_eq_true ok,q _ H2 (s1.trans s2) (.int _)⟩
end
theorem qE{α:Type}{us:List α}(h:us.length=1):∃a,us=[a]:=List.length_eq_one_iff.mp h
theorem jI{α:Type}{us:List α}(h:us.length=2):∃a b,us=[a,b]:=match us,h with|[a,b],_=>⟨a,b,rfl⟩
theorem FD{α:Type}{us:List α}(h:us.length=3):∃a b c,us=[a,b,c]:=match us,h with|[a,b,c],_=>⟨a,b,c,rfl⟩
theorem TH{α:Type}{us:List α}(h:us.length=4):∃a b c d,us=[a,b,c,d]:=match us,h with|[a,b,c,d],_=>⟨a,b,c,d,rfl⟩
noncomputable def Qq:R2:=λx y H Q=>∃i j,x=.str i/\y=.str j/\Q (.bl (Fe i j)) H
section
variable{X:Cx}{κ:Kl}{a b c:Expr}{fa fb fc:Den}{pos:Pos}
theorem Iz:js X (compareOp .LtE) Qq:=by
 intro pins s σ H x y v u Q I rx ry h
 obtain⟨i,j,rfl,rfl,q⟩:=h
 obtain⟨t,rfl⟩:=rx
 obtain⟨t',rfl⟩:=ry
 exact P.le_str (bN I q rfl)
theorem B8{K:PySem.W.Frag}{ta tb tc:TE}(h2:HP K κ ta fa)(h4:HP K κ tb fb)(h6:HP K κ tc fc):PX K κ (xh Qq Qq ta tb tc) (gD fa fb fc):=λ{G A bo own ρ σ H p Q} r e q=>by
 refine qA (g:=λx y=>(toS x).bind λi=>(toS y).bind λj=>if Fe i j then(fc ρ).bind λz=>(toS z).bind λk=>some (PV.bl (Fe j k))else some (.bl false)) h2 h4 r e λx y p1 p2 H1 s1 r1 b1 b2 e'=>?_
 obtain⟨i,e3,e4⟩:=Option.bind_eq_some_iff.mp e'
 obtain⟨j,e5,e6⟩:=Option.bind_eq_some_iff.mp e4
 cases jv e3
 cases jv e5
 refine⟨i,j,b1.str,b2.str,_,rfl,?_⟩
 by_cases vc:Fe i j=true
 ·rw[if_pos vc]at e6
  obtain⟨p3,e7,e8⟩:=Option.bind_eq_some_iff.mp e6
  obtain⟨k,e9,ZE⟩:=Option.bind_eq_some_iff.mp e8
  cases jv e9
  cases ZE
  rw[if_pos vc]
  refine h6 r1 e7 λw H2 s2 b3=>?_
  exact⟨j,k,b2.str,b3.str,q _ H2 (s1.trans s2) (.bl _)⟩
 ·rw[if_neg vc]at e6
  cases e6
  rw[if_neg vc]
  exact q _ H1 s1 (.bl _)
theorem Ak(ha:DB X κ a fa)(hb:DB X κ b fb)(hc:DB X κ c fc)(hm:lastMarks [.LtE,.LtE] [b,c]=false:=by with_unfolding_all rfl):DE X κ (.Compare a [.LtE,.LtE] [b,c] pos) (gD fa fb fc):=by
 obtain⟨ta,h1,h2⟩:=ha
 obtain⟨tb,h3,h4⟩:=hb
 obtain⟨tc,h5,h6⟩:=hc
 exact⟨_,Hb Iz Iz h1 h3 h5 hm,B8 h2 h4 h6⟩
theorem ub{K:PySem.W.Frag}{H:Hp}:∀ts:List Str,aW K κ H (ts.map V.str) (ts.map PV.str)
 |[]=>.nil
 |t::ts=>.cons (.str t) (ub ts)
theorem IA{x:Str}{p:Addr}{o:Obj}{its:Array Value}{n:Nat}{ts:List Str}(h:X.mg x=some (.ref p))(hk:X.K.lookup p=some o)(hc:o.cls=.type "tuple")(hs:o.data=.seq its n)(hz:its.size<=sizeLine)(hn:o.dict=none)(hv:Vals (ts.map V.str) its.toList)
  (hg:Gl X x:=by rfl)(hd:(x==("__debug__" :Str))=false:=by decide):DE X κ (.Name x pos) (dC (.tup (ts.map PV.str))):=
 ⟨_,mG (v:=.ref p) hg h rfl hd,λ{G A bo own ρ σ H p Q} r e q=>by cases e;exact q _ H (aI.refl _) (.tup (.inr ⟨o,its,n,hk,hc,hs,⟨hz,hn⟩,hv⟩) (ub ts))⟩
end
noncomputable def WT(x:Str):It:=⟨λi _=>i<x.cps.size,λi H v H'=>H'=H/\∃c,x.cps[i]?=some c/\v=.str ⟨#[c]⟩,λi _=>x.cps.size<=i⟩
theorem IB{P:Program}{w:World}{K:PySem.W.Frag}{tg:Expr}(x:Str)(t:Tok)(it:Addr):Turn P w K tg (WT x) [it] it (λi h=>h.IsStrIter it "str_ascii_iterator" x t i) where
 mem:=by simp
 obj:=λi h st b hb=>by
  have e:b=it:=by simpa using hb
  subst e
  obtain⟨o,e,c,d⟩:=st
  exact⟨o,e,λv z=>by rw[d]at z;cases z⟩
 keep:=λi h h' st k=>by
  obtain⟨o,e,r⟩:=st
  exact⟨o,k it (by simp) o e,r⟩
 item:=by
  intro X hP hw hK hc i pins s σ H E I hf st hg
  subst hP hw hK
  have hi:i<x.cps.size:=hg
  obtain⟨f0,f1,f2,f3,f4,f5⟩:=hf it (by simp)
  refine wpAny_pyNext_ascii_item st (c:=x.cps[i]) (by simp[hi]) λh' aV sb=>?_
  have I1:Inv X pins σ H {s with heap:=h',toks:=s.toks+1}:=I.turned (t':=s.toks+1) (λb o hb e=>sb.extBut b o hb e) f0 f1 f3 f4 f5
  obtain⟨o,e,c,d⟩:=id aV
  exact⟨_,rfl,Di (s:={s with heap:=h',toks:=s.toks+1}) e c d (by decide) ⟨.str ⟨#[x.cps[i]]⟩,H,I1,⟨_,rfl⟩,⟨rfl,x.cps[i],by simp[hi],rfl⟩,aV,λb hb=>(hf b hb).1⟩⟩
 done:=by
  intro X hP hw hK hc i pins s σ H E I hf st hg
  subst hP hw hK
  obtain⟨f0,f1,f2,f3,f4,f5⟩:=hf it (by simp)
  have hi:x.cps.size<=i:=hg
  exact wpAny_pyNext_ascii_end (I.ok.hd hc) st (by simp;omega) λh' eb=>⟨rfl,I.turned (t':=s.toks) (λb o hb e=>eb b o hb e) f0 f1 f3 f4 f5⟩
 self:=λ_ _ _ _ _ st h=>wpAny_pyIter_striter_ascii st h
section
variable{X:Cx}{κ:Kl}{tg e:Expr}{f:Den}
theorem Qr{l:Expr}{tl:TE}(hl:PE X l tl):PI X tg l (λσ H R=>tl σ H λv H1=>∃x,v=.str x/\x.cps.all (·<128)=true/\R (WT x) H1):=by
 intro pins s σ H R I h
 refine de (hl pins s σ H _ I h) λv s1 cv=>?_
 obtain⟨y,H1,I1,r1,x,ex,hx,q⟩:=cv
 subst ex
 obtain⟨t,rfl⟩:=r1
 refine wpAny_pyIter_ascii hx ?_
 refine⟨s1.heap.objs.size,[s1.heap.objs.size],_,_,H1,rfl,I1.kept (t':=s1.toks) λb o e=>Heap.get?_push_of_some _ e,IB x t _,⟨_,Heap.get?_push_size _ rfl,rfl,rfl⟩,λb hb=>?_,q⟩
 have e:b=s1.heap.objs.size:=by simpa using hb
 subst e
 exact I1.EO (Nat.le_refl _) (I1.dZ.fresh (Nat.le_refl _))
theorem IC{K:PySem.W.Frag}{Gs:Hp}{A:Addr->Prop}(x:Str):vt K κ Gs A (WT x) (signs x):=λi H2 s=>by
 refine⟨λp e=>?_,λhl=>show x.cps.size<=i by simpa[signs]using hl⟩
 unfold signs at e
 rw[List.getElem?_map]at e
 obtain⟨c,h1,rfl⟩:=Option.map_eq_some_iff.mp e
 obtain⟨h2,h3⟩:=List.getElem?_eq_some_iff.mp h1
 refine⟨show i<x.cps.size by simpa using h2,λv H3 cv=>?_⟩
 obtain⟨y1,c',y2,y3⟩:=cv
 subst y1 y3
 have:c'=c:=by
  rw[<-Array.getElem?_toList,h1]at y2
  exact(Option.some.inj y2).symm
 subst this
 exact⟨aI.refl _,λB _ _=>.str _⟩
theorem Ms(h:DB X κ e f):RW X κ tg e (LX f):=by
 obtain⟨te,h1,h2⟩:=h
 refine⟨_,Qr h1,λ{G A bo own ρ σ H ps Q} r e q=>?_⟩
 obtain⟨p,e1,e2⟩:=Option.bind_eq_some_iff.mp e
 obtain⟨x,e3,e4⟩:=Option.bind_eq_some_iff.mp e2
 cases jv e3
 obtain⟨hx,rfl⟩:=aZ e4
 refine h2 r e1 λv H' s z=>?_
 exact⟨x,z.str,hx,q _ H' s (IC x)⟩
end
end L2.D
namespace L2.D
open PySem PySem.Spec PyProof.Rows PySem.SeqAt
open Classical
noncomputable def TJ(K:PySem.W.Frag)(mg:Str->Option Value)(x:Str)(ts:List Str):Prop:=∃(p:Addr) (o:Obj) (its:Array Value) (n:Nat),mg x=some (.ref p)/\K.lookup p=some o/\o.cls=.type "tuple" /\o.data=.seq its n/\its.size<=sizeLine/\o.dict=none/\Vals (ts.map V.str) its.toList
theorem FG{X:Cx}{κ:Kl}{x:Str}{ts:List Str}{l:List PV}{pos:Pos}(h:TJ X.K X.mg x ts)(hl:ts.map PV.str=l:=by rfl)(hg:Gl X x:=by rfl)(hd:(x==("__debug__" :Str))=false:=by decide):DE X κ (.Name x pos) (dC (.tup l)):=by
 obtain⟨p,o,its,n,h1,h2,h3,h4,h5,h6,h7⟩:=h
 subst hl
 exact IA h1 h2 h3 h4 h5 h6 h7 hg hd
end L2.D
namespace L2.D
open PySem PySem.Spec PyProof.Rows PySem.SeqAt
noncomputable def x8:PV->PV->Option PV
 |.lst l,.str x=>(mZ l).bind λts=>if decide (x∈ts)then some (.int (dW x ts:Nat))else none
 |_,_=>none
section
variable{X:Cx}{κ:Kl}{pos apos:Pos}{a b:Expr}{fa fb:Den}
theorem FJ:Pd X "list.index" (λx xs H Q=>∃(p:Addr) (ts:List Str) (z:Str),x=.ref p/\xs=[.str z]/\iE X.K H p (ts.map V.str)/\z∈ts/\Q (.int (dW z ts:Nat)) H):=by
 intro pins s σ H x xs v us Q I rx r h
 obtain⟨p,ts,z,rfl,rfl,hq,hm,q⟩:=h
 cases rx
 obtain⟨u,rfl,t,rfl⟩:=vals1 r
 obtain⟨its,rv,⟨⟨cls,dd,data,sl⟩,n,ho,hc,hd,hs⟩,hz⟩:=I.list hq
 simp only at hc hd hs
 subst hc hd hs
 obtain⟨h1,h2,h3⟩:=ua rv hm
 have hlen:its.length<=sizeLine:=by rw[<-rv.length];exact hz
 have zl:sizeLine<2^62:=by decide
 refine call_meets PySem.F.slot_list_index ⟨_,ho,rfl⟩ PySem.F.entry_list_index (PySem.F.args_list_index_2 _ _) (list_indexAt p its.toArray n _ sl (.str z t) (x5 z) (dW z ts) (by simpa using h1) (by omega) (by simpa using h2) (λj _ hj=>by simpa using h3 j hj)) ⟨ho,λy hy=>?_,?_⟩
 ·obtain⟨y',t',rfl⟩:=qD (x:=z) rv y (by simpa using hy)
  exact wx
 ·exact⟨.int _,H,I.tok _,⟨_,rfl⟩,q⟩
theorem FK(ha:DB X κ a fa)(hb:DB X κ b fb)(fT:attributeBase a "index" X.env (eval a X.env)=eval a X.env:=by rfl)
  (nB:((backTo pos (starEach [b] X.env)).all (λx=>!x.1)&&(backToKw pos (keywordEach [] X.env)).all (λx=>x.1.isSome)
    &&decide ([b].length+([]:List Keyword).length+(if([]:List Keyword).isEmpty then 0 else 1)<30))=true:=by rfl)
  (fU:(apos.endLine==pos.line)=true:=by rfl)(hs:starEach [b] X.env=(false,eval b X.env)::starEach [] X.env:=by rfl):DE X κ (.Call (.Attribute a "index" apos) [b] [] pos) (ag x8 fa fb):=by
 obtain⟨ta,h1,h2⟩:=ha
 obtain⟨tb,h3,h4⟩:=hb
 refine⟨_,zu PySem.F.plainAttrs_list PySem.F.slot_list_index PySem.F.type_list_index FJ h1 (aM h3 bJ hs) fT nB fU hs,λ{G A bo own ρ σ H p Q} r e q=>?_⟩
 obtain⟨p1,e1,e2⟩:=Option.bind_eq_some_iff.mp e
 obtain⟨p2,e3,e4⟩:=Option.bind_eq_some_iff.mp e2
 (cases p1<;>first|(cases e4;done)|skip)<;>cases p2<;>first|(cases e4;done)|skip
 obtain⟨ts,e5,e6⟩:=Option.bind_eq_some_iff.mp e4
 obtain⟨ok,rfl⟩:=aZ e6
 refine h2 r e1 λx H1 s1 b1=>?_
 obtain⟨a,vs,rfl,q1,q2⟩:=b1.lst aE
 have ev:=tU q2 e5
 subst ev
 refine⟨.inl ⟨rfl,_,q1.sq⟩,h4 (r.mono s1) e3 λy H2 s2 b2=>?_⟩
 rw[b2.str]
 obtain⟨a',X2,ea,X6,ZF⟩:=(b1.zS s2).lst aE
 cases ea
 rw[tU ZF e5]at X6
 exact⟨a,ts,_,rfl,rfl,X6.sq,of_decide_eq_true ok,q _ H2 (s1.trans s2) (.int _)⟩
end
end L2.D
namespace L2.D
open PySem PySem.Spec PyProof.Rows PySem.SeqAt
open Classical
noncomputable abbrev SI(h:Heap)(a:Addr)(x:Str)(t:Tok)(n:Nat):Prop:=h.IsStrIter a "str_ascii_iterator" x t n
theorem SI.up{h h':Heap}{a:Addr}{x:Str}{t:Tok}{n:Nat}(k:SI h a x t n)(up:∀o,h.get? a=some o->h'.get? a=some o):SI h' a x t n:=by
 obtain⟨o,e,r⟩:=k
 exact⟨o,up o e,r⟩
section
variable{prog:Program}{w:World}{A:Around}{E:Value->Shared->Prop}{s:Shared}{z TI TO i1 i2:Addr}{x y:Str}{t u:Tok}{n:Nat}{a b:Value}
theorem Mu{c d:Nat}{Q:PySem.Fin->Shared->Prop}(D:ZipApart z TI TO i1 i2 TI TI)(z0:IsZip s.heap z TI TO .none)(p0:IsPair s.heap TI (.ref i1) (.ref i2))(q0:IsPair s.heap TO a b)(r1:SI s.heap i1 x t n)(r2:SI s.heap i2 y u n)(e1:x.cps[n]?=some c)(e2:y.cps[n]?=some d)
  (k:∀h' t1 t2 tk,IsZip h' z TI TO (rawInt s.heap.objs.size)->IsPair h' TO (.str ⟨#[c]⟩ t1) (.str ⟨#[d]⟩ t2)->SI h' i1 x t (n+1)->SI h' i2 y u (n+1)->IsPair h' s.heap.objs.size (.str ⟨#[c]⟩ t1) (.str ⟨#[d]⟩ t2)->(∀e o,e≠z->e≠TO->e≠i1->e≠i2->s.heap.get? e=some o->h'.get? e=some o)->Q (.done (.ret (.ref s.heap.objs.size))) {s with heap:=h',toks:=tk}):
  wpAny (model prog w) A (Builtin.«zip.__next__» ⟨[.ref z],[]⟩) Q E s:=by
 show wpAny _ _ (field (.ref z) 2>>=_) _ _ _
 refine wpAny_bind (wpAny_field z0 rfl (x:=.bool false) rfl ?_)
 show wpAny _ _ (field (.ref z) 3>>=_) _ _ _
 refine wpAny_bind (wpAny_field z0 rfl (x:=.ref TI) rfl (wpAny_bind (wpAny_seqItems p0 rfl ?_)))
 show wpAny _ _ (Builtin.SmallTypes.ownedTupleIsFree (.ref z)>>=_) _ _ _
 refine wpAny_bind ?_
 unfold Builtin.SmallTypes.ownedTupleIsFree
 refine wpAny_bind (wpAny_field z0 rfl (x:=.none) rfl (wpAny_pure ?_))
 simp only[if_true]
 refine wpAny_bind (wpAny_rule (wpAny_bind (wpAny_field z0 rfl (x:=.ref TO) rfl (wpAny_bind (wpAny_setField_rec z0 (by simp) λg1 z1 m1=>?_)))))
 have R1:IsZip g1 z TI TO .ellipsis:=z1
 refine wpAny_bind ?_
 simp only[List.zipIdx_cons,List.zipIdx_nil,List.forIn_cons,List.forIn_nil]
 refine wpAny_bind (wpAny_bind (wpAny_onRaise ?_))
 show wpAny _ _ (Builtin.SmallTypes.nextOf (.ref i1)>>=_) _ _ _
 refine wpAny_bind (wpAny_nextOf_ascii_item (r1.extBut m1.extBut D.i1z) e1 λg2 k2 m2=>wpAny_pure ?_)
 have q2:IsPair g2 TO a b:=m2.extBut _ _ D.TOi1 (m1.extBut _ _ D.TOz q0)
 refine wpAny_bind (wpAny_seqItems q2 rfl (wpAny_bind (wpAny_updateSeq_pair q2 λg3 q3 m3=>?_)))
 refine wpAny_bind (wpAny_letGo (wpAny_pure (wpAny_bind (wpAny_bind (wpAny_onRaise ?_)))))
 show wpAny _ _ (Builtin.SmallTypes.nextOf (.ref i2)>>=_) _ _ _
 refine wpAny_bind (wpAny_nextOf_ascii_item (((r2.extBut m1.extBut D.i2z).extBut m2.extBut D.i12.symm).extBut m3.extBut D.TOi2.symm) e2 λg4 k4 m4=>wpAny_pure ?_)
 have q4:IsPair g4 TO (.str ⟨#[c]⟩ s.toks) b:=m4.extBut _ _ D.TOi2 q3
 refine wpAny_bind (wpAny_seqItems q4 rfl (wpAny_bind (wpAny_updateSeq_pair q4 λg5 q5 m5=>?_)))
 have X7:IsPair g5 TO (.str ⟨#[c]⟩ s.toks) (.str ⟨#[d]⟩ (s.toks+1)):=q5
 refine wpAny_bind (wpAny_letGo (wpAny_pure (wpAny_pure (wpAny_bind (wpAny_seqItems X7 rfl (wpAny_bind (wpAny_newTuple ?_)))))))
 have sz:g5.objs.size=s.heap.objs.size:=by rw[m5.1,m4.1,m3.1,m2.1,m1.1]
 have z5:IsZip g5 z TI TO .ellipsis:=m5.extBut _ _ D.TOz.symm (m4.extBut _ _ D.i2z.symm (m3.extBut _ _ D.TOz.symm (m2.extBut _ _ D.i1z.symm R1)))
 have f5:∀e o,e≠z->e≠TO->e≠i1->e≠i2->s.heap.get? e=some o->g5.get? e=some o:=λe o c1 c2 c3 c4 h=>m5.extBut _ _ c2 (m4.extBut _ _ c4 (m3.extBut _ _ c2 (m2.extBut _ _ c3 (m1.extBut _ _ c1 h))))
 have k5:SI g5 i1 x t (n+1):=((k2.extBut m3.extBut D.TOi1.symm).extBut m4.extBut D.i12).extBut m5.extBut D.TOi1.symm
 have l5:SI g5 i2 y u (n+1):=k4.extBut m5.extBut D.TOi2.symm
 have lt:=Heap.lt_size z5
 show wpAny _ _ (Builtin.SmallTypes.ownedTupleHandOut (.ref z) (.ref g5.objs.size)>>=_) _ _ _
 refine wpAny_bind ?_
 unfold Builtin.SmallTypes.ownedTupleHandOut
 have z6:IsZip (g5.push {cls:=.type "tuple",data:=.seq #[.str ⟨#[c]⟩ s.toks,.str ⟨#[d]⟩ (s.toks+1)]}) z TI TO .ellipsis:=Heap.get?_push_of_some _ z5
 refine wpAny_bind (wpAny_setField_rec z6 (by simp) λg7 z7 m7=>?_)
 have ZG:IsZip g7 z TI TO (rawInt g5.objs.size):=z7
 refine wpAny_setField_rec ZG (by simp) λg8 z8 m8=>?_
 have X8:IsZip g8 z TI TO (rawInt g5.objs.size):=z8
 have up:∀e o,e≠z->g5.get? e=some o->g8.get? e=some o:=λe o c1 h=>m8.extBut _ _ c1 (m7.extBut _ _ c1 (Heap.get?_push_of_some _ h))
 have t8:IsPair g8 g5.objs.size (.str ⟨#[c]⟩ s.toks) (.str ⟨#[d]⟩ (s.toks+1)):=m8.extBut _ _ (Nat.ne_of_gt lt) (m7.extBut _ _ (Nat.ne_of_gt lt) (Heap.get?_push_size _ rfl))
 rw[sz]at X8 t8
 refine wpAny_pure ?_
 show Q (.done (.ret (.ref g5.objs.size))) _
 rw[sz]
 exact k g8 _ _ _ X8 (up _ _ D.TOz X7) (k5.up λo e=>up _ o D.i1z e) (l5.up λo e=>up _ o D.i2z e) t8 λe o c1 c2 c3 c4 h=>up e o c1 (f5 e o c1 c2 c3 c4 h)
theorem Qs{Q:PySem.Fin->Shared->Prop}(hh:A.handled=none)(D:ZipApart z TI TO i1 i2 TI TI)(z0:IsZip s.heap z TI TO .none)(p0:IsPair s.heap TI (.ref i1) (.ref i2))(q0:IsPair s.heap TO a b)(r1:SI s.heap i1 x t n)(r2:SI s.heap i2 y u n)(e0:x.cps[n]?=none\/y.cps[n]?=none)
  (k:∀h' e tk,(∀f o,f≠z->f≠TO->f≠i1->f≠i2->s.heap.get? f=some o->h'.get? f=some o)->(∃o,h'.get? e=some o/\o.cls=.type "StopIteration")->E (.ref e) {s with heap:=h',toks:=tk}):
  wpAny (model prog w) A (Builtin.«zip.__next__» ⟨[.ref z],[]⟩) Q E s:=by
 show wpAny _ _ (field (.ref z) 2>>=_) _ _ _
 refine wpAny_bind (wpAny_field z0 rfl (x:=.bool false) rfl ?_)
 show wpAny _ _ (field (.ref z) 3>>=_) _ _ _
 refine wpAny_bind (wpAny_field z0 rfl (x:=.ref TI) rfl (wpAny_bind (wpAny_seqItems p0 rfl ?_)))
 show wpAny _ _ (Builtin.SmallTypes.ownedTupleIsFree (.ref z)>>=_) _ _ _
 refine wpAny_bind ?_
 unfold Builtin.SmallTypes.ownedTupleIsFree
 refine wpAny_bind (wpAny_field z0 rfl (x:=.none) rfl (wpAny_pure ?_))
 simp only[if_true]
 refine wpAny_bind (wpAny_rule (wpAny_bind (wpAny_field z0 rfl (x:=.ref TO) rfl (wpAny_bind (wpAny_setField_rec z0 (by simp) λg1 z1 m1=>?_)))))
 have R1:IsZip g1 z TI TO .ellipsis:=z1
 refine wpAny_bind ?_
 simp only[List.zipIdx_cons,List.zipIdx_nil,List.forIn_cons,List.forIn_nil]
 refine wpAny_bind (wpAny_bind (wpAny_onRaise ?_))
 show wpAny _ _ (Builtin.SmallTypes.nextOf (.ref i1)>>=_) _ _ _
 cases ex:x.cps[n]? with
 |none=>
  refine wpAny_bind (wpAny_nextOf_ascii_end hh (r1.extBut m1.extBut D.i1z) ex λg2 e m2 he=>?_)
  obtain⟨oe,h1,h2⟩:=he
  have z2:IsZip g2 z TI TO .ellipsis:=m2 _ _ D.i1z.symm R1
  have ne:e≠z:=λv=>by subst v;rw[z2]at h1;cases h1;simp at h2
  exact wpAny_setField_rec z2 (by simp) λg3 _ m3=>k g3 e _ (λf o c1 _ c3 _ v=>m3.extBut _ _ c1 (m2 _ _ c3 (m1.extBut _ _ c1 v))) ⟨oe,m3.extBut _ _ ne h1,h2⟩
 |some c=>
  have ey:y.cps[n]?=none:=by rcases e0 with h|h;rw[ex]at h;cases h;exact h
  refine wpAny_bind (wpAny_nextOf_ascii_item (r1.extBut m1.extBut D.i1z) ex λg2 k2 m2=>wpAny_pure ?_)
  have q2:IsPair g2 TO a b:=m2.extBut _ _ D.TOi1 (m1.extBut _ _ D.TOz q0)
  refine wpAny_bind (wpAny_seqItems q2 rfl (wpAny_bind (wpAny_updateSeq_pair q2 λg3 q3 m3=>?_)))
  refine wpAny_bind (wpAny_letGo (wpAny_pure (wpAny_bind (wpAny_bind (wpAny_onRaise ?_)))))
  show wpAny _ _ (Builtin.SmallTypes.nextOf (.ref i2)>>=_) _ _ _
  refine wpAny_bind (wpAny_nextOf_ascii_end hh (((r2.extBut m1.extBut D.i2z).extBut m2.extBut D.i12.symm).extBut m3.extBut D.TOi2.symm) ey λg4 e m4 he=>?_)
  obtain⟨oe,h1,h2⟩:=he
  have z4:IsZip g4 z TI TO .ellipsis:=m4 _ _ D.i2z.symm (m3.extBut _ _ D.TOz.symm (m2.extBut _ _ D.i1z.symm R1))
  have ne:e≠z:=λv=>by subst v;rw[z4]at h1;cases h1;simp at h2
  exact wpAny_setField_rec z4 (by simp) λg5 _ m5=>k g5 e _ (λf o c1 c2 c3 c4 v=>m5.extBut _ _ c1 (m4 _ _ c4 (m3.extBut _ _ c2 (m2.extBut _ _ c3 (m1.extBut _ _ c1 v))))) ⟨oe,m5.extBut _ _ ne h1,h2⟩
theorem FU{c d:Nat}{Q:Option Value->Shared->Prop}(D:ZipApart z TI TO i1 i2 TI TI)(z0:IsZip s.heap z TI TO .none)(p0:IsPair s.heap TI (.ref i1) (.ref i2))(q0:IsPair s.heap TO a b)(r1:SI s.heap i1 x t n)(r2:SI s.heap i2 y u n)(e1:x.cps[n]?=some c)(e2:y.cps[n]?=some d)
  (k:∀h' t1 t2 tk,IsZip h' z TI TO (rawInt s.heap.objs.size)->IsPair h' TO (.str ⟨#[c]⟩ t1) (.str ⟨#[d]⟩ t2)->SI h' i1 x t (n+1)->SI h' i2 y u (n+1)->IsPair h' s.heap.objs.size (.str ⟨#[c]⟩ t1) (.str ⟨#[d]⟩ t2)->(∀e o,e≠z->e≠TO->e≠i1->e≠i2->s.heap.get? e=some o->h'.get? e=some o)->Q (some (.ref s.heap.objs.size)) {s with heap:=h',toks:=tk}):
  wpAny (model prog w) A (pyNext (.ref z)) Q E s:=by
 have ty:s.TypeIs (.ref z) "zip" :=⟨_,z0,rfl⟩
 unfold pyNext
 exact wpAny_bind (wpAny_attempt (wpAny_callSpecial?_slot (name:=Str.ofString "__next__") ty F.slot_zip_next (wpAny_call_entry F.slot_zip_next ty F.entry_zip_next (Mu D z0 p0 q0 r1 r2 e1 e2 λh' t1 t2 tk a1 a2 a3 a4 a5 a6=>⟨_,rfl,wpAny_pure (k h' t1 t2 tk a1 a2 a3 a4 a5 a6)⟩) (F.args_zip_next_1 _))))
theorem ID{Q:Option Value->Shared->Prop}(hh:A.handled=none)(D:ZipApart z TI TO i1 i2 TI TI)(z0:IsZip s.heap z TI TO .none)(p0:IsPair s.heap TI (.ref i1) (.ref i2))(q0:IsPair s.heap TO a b)(r1:SI s.heap i1 x t n)(r2:SI s.heap i2 y u n)(e0:x.cps[n]?=none\/y.cps[n]?=none)
  (k:∀h' tk,(∀f o,f≠z->f≠TO->f≠i1->f≠i2->s.heap.get? f=some o->h'.get? f=some o)->Q none {s with heap:=h',toks:=tk}):wpAny (model prog w) A (pyNext (.ref z)) Q E s:=by
 have ty:s.TypeIs (.ref z) "zip" :=⟨_,z0,rfl⟩
 unfold pyNext
 refine wpAny_bind (wpAny_attempt (wpAny_callSpecial?_slot (name:=Str.ofString "__next__") ty F.slot_zip_next (wpAny_call_entry F.slot_zip_next ty F.entry_zip_next (Qs hh D z0 p0 q0 r1 r2 e0 λh' e tk g he=>?_) (F.args_zip_next_1 _))))
 obtain⟨o,h1,h2⟩:=he
 exact wpAny_bind (wpAny_isInstance (T:= "StopIteration") (b:=true) ⟨o,h1,h2⟩ isSubtype_stop (wpAny_pure (k _ _ g)))
end
noncomputable abbrev Qt(h:Heap)(x:Str)(t:Tok):Heap:=h.push {cls:=.type "str_ascii_iterator",data:=.fields #[.str x t,.int 0 0]}
noncomputable abbrev Va(h:Heap)(x:Str)(t:Tok)(y:Str)(u:Tok):Heap:=Qt (Qt h x t) y u
noncomputable abbrev Vb(h:Heap)(x:Str)(t:Tok)(y:Str)(u:Tok):Heap:=(Va h x t y u).push {cls:=.type "tuple",data:=.seq #[.ref h.objs.size,.ref (Qt h x t).objs.size]}
noncomputable abbrev Vc(h:Heap)(x:Str)(t:Tok)(y:Str)(u:Tok):Heap:=(Vb h x t y u).push {cls:=.type "tuple",data:=.seq #[.none,.none]}
noncomputable abbrev R4(h:Heap)(x:Str)(t:Tok)(y:Str)(u:Tok):Heap:=(Vc h x t y u).push {cls:=.type "zip",data:=.fields #[.none,.bool false,.bool false,.ref (Va h x t y u).objs.size,.ref (Vb h x t y u).objs.size]}
theorem Qu(x:Str)(t:Tok)(y:Str)(u:Tok)(hx:x.cps.all (·<128)=true)(hy:y.cps.all (·<128)=true):
  Meets (Builtin.«zip.__new__» ⟨[.type "zip",.str x t,.str y u],[]⟩) (λ_ R s=>R (.ok (.ret (.ref (Vc s.heap x t y u).objs.size))) {s with heap:=R4 s.heap x t y u}):=
 .of_wp λprog w A R s h=>by
  obtain⟨hp,g,d,tk,os⟩:=s
  have ZH:=sub_zip
  have w1:=λ(prog:Program) (w:World) (A:Around) (E:Value->Shared->Prop) (s:Shared) (Q:Value->Shared->Prop) (q:Q (.ref s.heap.objs.size) {s with heap:=Qt s.heap x t})=>wpAny_pyIter_ascii (prog:=prog) (w:=w) (A:=A) (E:=E) (s:=s) (t:=t) hx q
  have w2:=λ(prog:Program) (w:World) (A:Around) (E:Value->Shared->Prop) (s:Shared) (Q:Value->Shared->Prop) (q:Q (.ref s.heap.objs.size) {s with heap:=Qt s.heap y u})=>wpAny_pyIter_ascii (prog:=prog) (w:=w) (A:=A) (E:=E) (s:=s) (t:=u) hy q
  wp_walk using w1,w2
  exact⟨_,rfl,h⟩
theorem IE(n:Nat):ZipApart (n+4) (n+2) (n+3) n (n+1) (n+2) (n+2):=by
 refine⟨?_,?_,?_,?_,?_,?_,?_,?_,?_,?_,?_,?_,?_,?_,?_,?_,?_,?_⟩<;>(intro(e:(_:Nat)=_);omega)
theorem Mv{prog:Program}{w:World}{A:Around}{E:Value->Shared->Prop}{s:Shared}{x y:Str}{t u:Tok}{Q:Value->Shared->Prop}(hx:x.cps.all (·<128)=true)(hy:y.cps.all (·<128)=true)
  (k:∀h',IsZip h' (s.heap.objs.size+4) (s.heap.objs.size+2) (s.heap.objs.size+3) .none->IsPair h' (s.heap.objs.size+2) (.ref s.heap.objs.size) (.ref (s.heap.objs.size+1))->IsPair h' (s.heap.objs.size+3) .none .none->SI h' s.heap.objs.size x t 0->SI h' (s.heap.objs.size+1) y u 0->
    (∀c o,s.heap.get? c=some o->h'.get? c=some o)->Q (.ref (s.heap.objs.size+4)) {s with heap:=h'}):wpAny (model prog w) A (call (.type "zip") [.str x t,.str y u]) Q E s:=by
 refine callType_new F.called_zip (by decide) (F.typeCall_zip_2 _ _) (F.newCall_zip_2 _ _) (λobj=>F.args_object_init_3 obj _ _) F.entry_zip_new (Qu x t y u hx hy) ?_
 have n1:(Qt s.heap x t).objs.size=s.heap.objs.size+1:=Heap.size_push ..
 have n2:(Va s.heap x t y u).objs.size=s.heap.objs.size+2:=by rw[Heap.size_push,n1]
 have n3:(Vb s.heap x t y u).objs.size=s.heap.objs.size+3:=by rw[Heap.size_push,n2]
 have n4:(Vc s.heap x t y u).objs.size=s.heap.objs.size+4:=by rw[Heap.size_push,n3]
 have g5:(R4 s.heap x t y u).get? (Vc s.heap x t y u).objs.size=some _:=Heap.get?_push_size _ rfl
 have g4:(R4 s.heap x t y u).get? (Vb s.heap x t y u).objs.size=some _:=Heap.get?_push_of_some _ (Heap.get?_push_size _ rfl)
 have g3:(R4 s.heap x t y u).get? (Va s.heap x t y u).objs.size=some _:=Heap.get?_push_of_some _ (Heap.get?_push_of_some _ (Heap.get?_push_size _ rfl))
 have g2:(R4 s.heap x t y u).get? (Qt s.heap x t).objs.size=some _:=Heap.get?_push_of_some _ (Heap.get?_push_of_some _ (Heap.get?_push_of_some _ (Heap.get?_push_size _ rfl)))
 have g1:(R4 s.heap x t y u).get? s.heap.objs.size=some _:=Heap.get?_push_of_some _ (Heap.get?_push_of_some _ (Heap.get?_push_of_some _ (Heap.get?_push_of_some _ (Heap.get?_push_size _ rfl))))
 show _/\_
 rw[n2,n3,n4]at g5
 rw[n1,n2]at g3
 rw[n3]at g4
 rw[n1]at g2
 rw[n4]
 exact⟨⟨_,g5,rfl⟩,k _ g5 g3 g4 ⟨_,g1,rfl,rfl⟩ ⟨_,g2,rfl,rfl⟩ λc o v=>Heap.get?_push_of_some _ (Heap.get?_push_of_some _ (Heap.get?_push_of_some _ (Heap.get?_push_of_some _ (Heap.get?_push_of_some _ v))))⟩
noncomputable def Qv(x y:Str):It:=
 ⟨λi _=>i<x.cps.size/\i<y.cps.size,
  λi H v H'=>∃p c d,H p=none/\v=.ref p/\H'=upd H p (.tup [.str ⟨#[c]⟩,.str ⟨#[d]⟩])/\x.cps[i]?=some c/\y.cps[i]?=some d,
  λi _=>x.cps.size<=i\/y.cps.size<=i⟩
noncomputable def ZI(z TI TO i1 i2:Addr)(x y:Str)(t u:Tok)(i:Nat)(h:Heap):Prop:=IsZip h z TI TO .none/\IsPair h TI (.ref i1) (.ref i2)/\(∃a b,IsPair h TO a b)/\SI h i1 x t i/\SI h i2 y u i
theorem FV{P:Program}{w:World}{K:PySem.W.Frag}{elts:List Expr}{x1:Nat}{pos:Pos}{z TI TO i1 i2:Addr}{x y:Str}{t u:Tok}(D:ZipApart z TI TO i1 i2 TI TI):
  Turn P w K (.Tuple elts x1 pos) (Qv x y) [z,TI,TO,i1,i2] z (ZI z TI TO i1 i2 x y t u) where
 mem:=by simp
 obj:=λi h st b hb=>by
  obtain⟨z0,p0,⟨a,c,q0⟩,⟨o1,e1,c1,d1⟩,⟨o2,e2,c2,d2⟩⟩:=st
  have jx:b=z\/b=TI\/b=TO\/b=i1\/b=i2:=by simpa using hb
  rcases jx with rfl|rfl|rfl|rfl|rfl
  ·exact⟨_,z0,λv q=>by cases q⟩
  ·exact⟨_,p0,λv q=>by cases q⟩
  ·exact⟨_,q0,λv q=>by cases q⟩
  ·exact⟨_,e1,λv q=>by rw[d1]at q;cases q⟩
  ·exact⟨_,e2,λv q=>by rw[d2]at q;cases q⟩
 keep:=λi h h' st k=>by
  obtain⟨z0,p0,⟨a,c,q0⟩,h1,h2⟩:=st
  exact⟨k _ (by simp) _ z0,k _ (by simp) _ p0,⟨a,c,k _ (by simp) _ q0⟩,h1.up λo e=>k _ (by simp) o e,h2.up λo e=>k _ (by simp) o e⟩
 item:=by
  intro X hP hw hK hc i pins s σ H E I hf st hg
  subst hP hw hK
  obtain⟨lx,ly⟩:i<x.cps.size/\i<y.cps.size:=hg
  obtain⟨z0,p0,⟨a,c,q0⟩,h1,h2⟩:=st
  refine FU D z0 p0 q0 h1 h2 (c:=x.cps[i]) (d:=y.cps[i]) (by simp[lx]) (by simp[ly]) λh' t1 t2 tk a1 a2 a3 a4 a5 a7=>?_
  refine⟨.ref s.heap.objs.size,rfl,wpAny_letOwnedTupleGo_zip (s:={s with heap:=h',toks:=tk}) a1 λMc b1 b2=>?_⟩
  have WJ:z<s.heap.objs.size:=Heap.lt_size z0
  have up:∀b o,b≠z->h'.get? b=some o->Mc.get? b=some o:=λb o hb e=>(b2.2 b hb).trans e
  have kp:∀b o,b∉[z,TO,i1,i2]->s.heap.get? b=some o->Mc.get? b=some o:=λb o hb e=>by
   have jx:b≠z/\b≠TO/\b≠i1/\b≠i2:=by simpa using hb
   exact up b o jx.1 (a7 b o jx.1 jx.2.1 jx.2.2.1 jx.2.2.2 e)
  have H9:IsPair Mc s.heap.objs.size (.str ⟨#[x.cps[i]]⟩ t1) (.str ⟨#[y.cps[i]]⟩ t2):=up _ _ (Nat.ne_of_gt WJ) a5
  have fr:H s.heap.objs.size=none:=I.dZ.fresh (Nat.le_refl _)
  refine⟨.ref s.heap.objs.size,upd H s.heap.objs.size (.tup [.str ⟨#[x.cps[i]]⟩,.str ⟨#[y.cps[i]]⟩]),?_,rfl,?_,?_,?_⟩
  ·refine I.wg (t':=tk) (ch:=[z,TO,i1,i2]) kp (λb hb=>hf b ?_) ?_
   ·have jx:b=z\/b=TO\/b=i1\/b=i2:=by simpa using hb
    rcases jx with rfl|rfl|rfl|rfl<;>simp
   ·exact⟨⟨by show 2<=sizeLine;decide,⟨_,H9,rfl⟩⟩,[_,_],.cons ⟨_,rfl⟩ (.cons ⟨_,rfl⟩ .nil),⟨_,H9,rfl,_,rfl⟩⟩
  ·exact⟨_,_,_,fr,rfl,rfl,by simp[lx],by simp[ly]⟩
  ·exact⟨b1,up _ _ D.TIz (a7 _ _ D.TIz D.TITO D.TIi1 D.TIi2 p0),⟨_,_,up _ _ D.TOz a2⟩,a3.up λo e=>up _ _ D.i1z e,a4.up λo e=>up _ _ D.i2z e⟩
  ·intro b hb
   have:b<s.heap.objs.size:=by
    have jx:b=z\/b=TI\/b=TO\/b=i1\/b=i2:=by simpa using hb
    obtain⟨o1,e1,_⟩:=h1
    obtain⟨o2,e2,_⟩:=h2
    rcases jx with rfl|rfl|rfl|rfl|rfl
    ·exact Heap.lt_size z0
    ·exact Heap.lt_size p0
    ·exact Heap.lt_size q0
    ·exact Heap.lt_size e1
    ·exact Heap.lt_size e2
   rw[aL (Nat.ne_of_lt this)]
   exact(hf b hb).1
 done:=by
  intro X hP hw hK hc i pins s σ H E I hf st hg
  subst hP hw hK
  have Qe:x.cps.size<=i\/y.cps.size<=i:=hg
  obtain⟨z0,p0,⟨a,c,q0⟩,h1,h2⟩:=st
  refine ID (I.ok.hd hc) D z0 p0 q0 h1 h2 (by
   rcases Qe with q|q
   ·exact .inl (by simp;omega)
   ·exact .inr (by simp;omega)) λh' tk k=>⟨rfl,I.DX (t':=tk) (ch:=[z,TO,i1,i2]) (λb o hb e=>?_) λb hb=>hf b ?_⟩
  ·have jx:b≠z/\b≠TO/\b≠i1/\b≠i2:=by simpa using hb
   exact k b o jx.1 jx.2.1 jx.2.2.1 jx.2.2.2 e
  ·have jx:b=z\/b=TO\/b=i1\/b=i2:=by simpa using hb
   rcases jx with rfl|rfl|rfl|rfl<;>simp
 self:=λ_ _ _ _ _ st h=>wpAny_pyIter_zip st.1 h
section
variable{X:Cx}{κ:Kl}{a b:Expr}{fa fb:Den}{elts:List Expr}{x1:Nat}{tp:Pos}
noncomputable def TK(ta:TA):TI:=λσ H R=>ta σ H λvs H1=>∃x y,vs=[.str x,.str y]/\x.cps.all (·<128)=true/\y.cps.all (·<128)=true/\R (Qv x y) H1
theorem Mw{ta:TA}{p pos:Pos}(hg:Gl X "zip")(hm:X.mg "zip" =none)(ha:PA X [a,b] ta)(hs:starEach [a,b] X.env=[(false,eval a X.env),(false,eval b X.env)]:=by rfl)(qe:starEach [b] X.env=[(false,eval b X.env)]:=by rfl):
  PI X (.Tuple elts x1 tp) (.Call (.Name "zip" p) [a,b] [] pos) (TK ta):=by
 intro pins s σ H R I h
 refine Call_ (lu I hg hm PyProof.Rows.boot_zip (PyProof.Rows.callWith_type1 (de (ha pos pins s σ H _ I h) λus s1 cv=>?_) (by rw[hs,qe]) (by rw[qe];rfl)))
 obtain⟨vs,H1,I1,r1,q1⟩:=cv
 obtain⟨x,y,rfl,hx,hy,q⟩:=q1
 obtain⟨u1,u2,rfl,r1,r2⟩:=vals2 r1
 obtain⟨t,rfl⟩:=r1
 obtain⟨u,rfl⟩:=r2
 refine Mv hx hy λh' hz Fj GY WL Tw hk=>?_
 refine wpAny_pyIter_zip (s:={s1 with heap:=h'}) hz ?_
 refine⟨s1.heap.objs.size+4,[s1.heap.objs.size+4,s1.heap.objs.size+2,s1.heap.objs.size+3,s1.heap.objs.size,s1.heap.objs.size+1],_,_,H1,rfl,I1.kept (t':=s1.toks) hk,FV (IE _),⟨hz,Fj,⟨_,_,GY⟩,WL,Tw⟩,λb hb=>?_,q⟩
 have jx:b=s1.heap.objs.size+4\/b=s1.heap.objs.size+2\/b=s1.heap.objs.size+3\/b=s1.heap.objs.size\/b=s1.heap.objs.size+1:=by simpa using hb
 have hle:s1.heap.objs.size<=b:=by rcases jx with rfl|rfl|rfl|rfl|rfl<;>omega
 exact I1.EO hle (I1.dZ.fresh hle)
noncomputable def FX(x y:Str):List PV:=List.zipWith (λc d=>PV.tup [.str ⟨#[c]⟩,.str ⟨#[d]⟩]) x.cps.toList y.cps.toList
noncomputable def D5(a b:Den):cC:=λρ=>(a ρ).bind λp=>(toS p).bind λx=>(b ρ).bind λq=>(toS q).bind λy=>if x.cps.all (·<128)&&y.cps.all (·<128)then some (FX x y)else none
theorem FY{K:PySem.W.Frag}{Gs:Hp}{A:Addr->Prop}(x y:Str):vt K κ Gs A (Qv x y) (FX x y):=λi H2 s=>by
 refine⟨λp e=>?_,λhl=>?_⟩
 ·unfold FX at e
  rw[List.getElem?_zipWith]at e
  cases e1:x.cps.toList[i]? with
  |none=>rw[e1]at e;cases e
  |some c=>
   cases e2:y.cps.toList[i]? with
   |none=>rw[e1,e2]at e;cases e
   |some d=>
    rw[e1,e2]at e
    cases e
    have g1:x.cps[i]?=some c:=by rw[<-Array.getElem?_toList];exact e1
    have g2:y.cps[i]?=some d:=by rw[<-Array.getElem?_toList];exact e2
    refine⟨⟨(Array.getElem?_eq_some_iff.mp g1).1,(Array.getElem?_eq_some_iff.mp g2).1⟩,λz H3 ⟨p',c',d',y0,y1,y2,y3,y4⟩=>?_⟩
    subst y1 y2
    rw[g1]at y3
    rw[g2]at y4
    cases y3
    cases y4
    refine⟨bK y0,λB hB sb=>.tup (ll.of ?_) (.cons (.str _) (.cons (.str _) .nil))⟩
    rw[bQ λz=>hB _ z y0]
    exact aO
 ·unfold FX at hl
  rw[List.length_zipWith]at hl
  show x.cps.size<=i\/y.cps.size<=i
  simp at hl
  omega
theorem Mx{p pos:Pos}(ha:DE X κ a fa)(hb:DE X κ b fb)(hm:X.mg "zip" =none)(hg:Gl X "zip" :=by rfl)(hs:starEach [a,b] X.env=[(false,eval a X.env),(false,eval b X.env)]:=by rfl)(qe:starEach [b] X.env=[(false,eval b X.env)]:=by rfl):
  DI X κ (.Tuple elts x1 tp) (.Call (.Name "zip" p) [a,b] [] pos) (D5 fa fb):=by
 obtain⟨ta,h1,h2⟩:=ha
 obtain⟨tb,h3,h4⟩:=hb
 refine⟨_,Mw hg hm (aM h1 (aM h3 bJ qe) (by rw[hs,qe])) hs qe,λ{G A bo own ρ σ H ps Q} r e q=>?_⟩
 obtain⟨p1,e1,e2⟩:=Option.bind_eq_some_iff.mp e
 obtain⟨x,e3,e4⟩:=Option.bind_eq_some_iff.mp e2
 obtain⟨p2,e5,e6⟩:=Option.bind_eq_some_iff.mp e4
 obtain⟨y,e7,e8⟩:=Option.bind_eq_some_iff.mp e6
 obtain⟨HK,rfl⟩:=aZ e8
 rw[Bool.and_eq_true]at HK
 cases jv e3
 cases jv e7
 refine h2 r e1 λv H1 s1 z1=>h4 (r.mono s1) e5 λw H2 s2 z2=>?_
 cases z1
 cases z2
 exact⟨x,y,rfl,HK.1,HK.2,q _ H2 (s1.trans s2) (FY x y)⟩
end
noncomputable def ph(P:Params):List DictEntry->List (Str×Int)->Prop
 |[],[]=>True
 |e::es,(k,i)::cF=>(∃t u,e=⟨PyData.keyHash P k,.str k t,.int i u⟩)/\ph P es cF
 |_,_=>False
theorem ph.lit{P:Params}:∀{es:List DictEntry} {cF:List (Str×Int)},ph P es cF->PySem.W.KeysLit P es
 |[],[],_=>trivial
 |_::_,(k,i)::_,⟨⟨t,u,e⟩,h⟩=>⟨⟨k,t,by rw[e],by rw[e]⟩,h.lit⟩
theorem ph.find{P:Params}(s:Str):∀{es:List DictEntry} {cF:List (Str×Int)},ph P es cF->(es.find? (λd=>Value.isStrOf s d.key)=none/\cF.lookup s=none)\/∃e i u,es.find? (λd=>Value.isStrOf s d.key)=some e/\e.val=.int i u/\cF.lookup s=some i
 |[],[],_=>.inl ⟨rfl,rfl⟩
 |e::es,(k,i)::cF,⟨⟨t,u,eq⟩,h⟩=>by
  subst eq
  rw[List.find?_cons,List.lookup_cons]
  have iff:Value.isStrOf s (.str k t)=(s==k):=by
   show(k==s)=(s==k)
   rw[Bool.eq_iff_iff,beq_iff_eq,beq_iff_eq]
   exact eq_comm
  show(match Value.isStrOf s (.str k t)with|true=>_|false=>_)=_/\_\/_
  by_cases hk:s=k
  ·have hb:(s==k)=true:=beq_iff_eq.mpr hk
   rw[hb]at iff
   refine .inr ⟨⟨PyData.keyHash P k,.str k t,.int i u⟩,i,u,?_,rfl,by rw[hb]⟩
   simp only[iff]
  ·have hb:(s==k)=false:=by rw[beq_eq_false_iff_ne];exact hk
   rw[hb]at iff
   simp only[iff,hb]
   exact h.find s
noncomputable def Al(P:Params)(K:PySem.W.Frag)(mg:Str->Option Value)(x:Str)(cF:List (Str×Int)):Prop:=∃(a:Addr) (es:Array DictEntry) (n:Nat),mg x=some (.ref a)/\K.lookup a=some ⟨.type "dict",none,.dict es n,#[]⟩/\ph P es.toList cF/\(a==sysModules)=false
noncomputable def x9(cF:List (Str×Int))(p:PV):Option PV:=(toS p).map λs=>.bl !(cF.lookup s).isSome
noncomputable def Am(cF:List (Str×Int))(p:PV):Option PV:=(toS p).bind λs=>(cF.lookup s).map PV.int
section
variable{X:Cx}{κ:Kl}{a:Expr}{fa:Den}{pos p0:Pos}{x:Str}{cF:List (Str×Int)}
theorem IF{pins:List (Addr×Obj)}{σ:St}{H:Hp}{s:Shared}{d:Addr}{es:Array DictEntry}{n:Nat}(I:Inv X pins σ H s)(hk:X.K.lookup d=some ⟨.type "dict",none,.dict es n,#[]⟩)(he:ph X.w.params es.toList cF):s.heap.MapOf (strKind X.prog X.w) d (λk=>findBy Value.isStrOf es k):=PySem.W.mapOf_K I.oB hk he.lit
theorem D6{es:Array DictEntry}{P:Params}(he:ph P es.toList cF)(s:Str):(findBy Value.isStrOf es s=none/\cF.lookup s=none)\/∃i u,findBy Value.isStrOf es s=some (.int i u)/\cF.lookup s=some i:=by
 unfold findBy
 rw[<-Array.find?_toList]
 rcases he.find s with⟨h1,h2⟩|⟨e,i,u,h1,h2,h3⟩
 ·exact .inl ⟨by rw[h1];rfl,h2⟩
 ·exact .inr ⟨i,u,by rw[h1];show some e.val=_;rw[h2],h3⟩
theorem FZ{ty:TE}{d:Addr}{es:Array DictEntry}{n:Nat}(hk:X.K.lookup d=some ⟨.type "dict",none,.dict es n,#[]⟩)(he:ph X.w.params es.toList cF)(hd:(d==sysModules)=false):js X (compareOp .NotIn) (λv u H Q=>∃s,v=.str s/\u=.ref d/\Q (.bl !(cF.lookup s).isSome) H):=by
 intro pins s σ H v u uv uu Q I rv ru h
 obtain⟨k,rfl,rfl,q⟩:=h
 obtain⟨t,rfl⟩:=rv
 cases ru
 refine wpAny_notIn_of (strKind_is X.prog X.w k t) hd (IF I hk he) ?_
 have e:(findBy Value.isStrOf es k).isSome=(cF.lookup k).isSome:=by
  rcases D6 he k with⟨h1,h2⟩|⟨i,u,h1,h2⟩<;>rw[h1,h2]<;>rfl
 rw[e]
 exact⟨.bl !(cF.lookup k).isSome,H,I.kept (h':=s.heap) (t':=s.toks+1) (λ_ _ z=>z),rfl,q⟩
theorem F0(D:Al X.w.params X.K X.mg x cF)(ha:DB X κ a fa)(hg:Gl X x:=by rfl)(hx:(x==("__debug__" :Str))=false:=by decide):DC X κ .NotIn a (.Name x p0) (bb (x9 cF) fa):=by
 obtain⟨d,es,n,h1,h2,h3,h4⟩:=D
 obtain⟨ta,k1,k2⟩:=ha
 refine⟨_,_,_,FZ (ty:=ta) h2 h3 h4,k1,mG (v:=.ref d) hg h1 rfl hx,λ{G A bo own ρ σ H p Q} r e q=>?_⟩
 obtain⟨p1,e1,e2⟩:=Option.bind_eq_some_iff.mp e
 obtain⟨s,e3,e4⟩:=Option.map_eq_some_iff.mp e2
 cases jv e3
 cases e4
 exact k2 r e1 λv H' s' z=>⟨s,z.str,rfl,q _ H' s' (.bl _)⟩
theorem D7(D:Al X.w.params X.K X.mg x cF)(ha:DB X κ a fa)(hg:Gl X x:=by rfl)(hx:(x==("__debug__" :Str))=false:=by decide)(hs:TF a:=by intro _ _;rfl):DE X κ (.Subscript (.Name x p0) a pos) (bb (Am cF) fa):=by
 obtain⟨d,es,n,h1,h2,h3,h4⟩:=D
 obtain⟨ta,k1,k2⟩:=ha
 refine⟨λσ H Q=>ta σ H λv H1=>∃s i,v=.str s/\cF.lookup s=some i/\Q (.int i) H1,?_,λ{G A bo own ρ σ H p Q} r e q=>?_⟩
 ·intro pins s σ H Q I h
  refine Me PySem.F.slot_dict_getitem.lookup hs (de (mG (v:=.ref d) (pos:=p0) hg h1 rfl hx pins s σ H (λv H1=>v=.ref d/\ta σ H1 λv H2=>∃s i,v=.str s/\cF.lookup s=some i/\Q (.int i) H2) I ⟨rfl,h⟩) λu s1 ⟨v,H1,I1,ru,ev,q1⟩=>de (k1 pins s1 σ H1 _ I1 q1) λiv s2 cv=>?_)
  obtain⟨y,H2,I2,ry,k,i,ey,hk,q2⟩:=cv
  subst ev ey
  cases ru
  obtain⟨t,rfl⟩:=ry
  refine⟨⟨_,I2.oB _ _ h2,rfl⟩,?_⟩
  rcases D6 h3 k with⟨z1,z2⟩|⟨i',u,z1,z2⟩
  ·rw[z2]at hk;cases hk
  ·rw[z2]at hk
   obtain rfl:=Option.some.inj hk
   exact wpAny_getItem_of (strKind_is X.prog X.w k t) (IF I2 h2 h3) z1 ⟨.int i',H2,I2.kept (h':=s2.heap) (t':=s2.toks+1) (λ_ _ z=>z),⟨u,rfl⟩,q2⟩
 ·obtain⟨p1,e1,e2⟩:=Option.bind_eq_some_iff.mp e
  obtain⟨s,e3,e4⟩:=Option.bind_eq_some_iff.mp e2
  obtain⟨i,e5,e6⟩:=Option.map_eq_some_iff.mp e4
  cases jv e3
  cases e6
  exact k2 r e1 λv H' s' z=>⟨s,i,z.str,e5,q _ H' s' (.int _)⟩
end
theorem An:typeLookup (.type "dict") "__len__" =pure (some (.builtin "dict.__len__")):=PySem.F.slot_dict_len.lookup
section
variable{prog:Program}{w:World}{A:Around}{E:Value->Shared->Prop}{s:Shared}{d S:Addr}{cF:List (Str×Value)}{ep:Nat}
noncomputable abbrev IG(prog:Program)(w:World)(cF:List (Str×Value)):Nat->Value->Prop:=λi v=>∃k x,cF[i]?=some (k,x)/\(strKind prog w).is k v=true
theorem IH{R:Result->Shared->Prop}(hh:A.handled=none)(hd:(d==sysModules)=false)(res:Value)(c0:Nat)(hS:s.heap.get? S=some {cls:=.type "list",data:=.seq #[] c0})(m:s.heap.DictAt (strKind prog w) d cF ep)(ne:S≠d)
  (k:∀h' tk pj c',(∀b o,b≠S->s.heap.get? b=some o->h'.get? b=some o)->h'.get? S=some {cls:=.type "list",dict:=none,data:=.seq pj c',slots:=#[]}->ItemsOf (IG prog w cF) pj cF.length->R (.ok (.ret res)) {s with heap:=h',toks:=tk})(hn:cF.length<=sizeLine):
  wpAny (model prog w) A.in1 (Builtin.List.listExtendWith (.ref S) (.ref d) res) (λfin s'=>match fin with|.done f=>R (.ok f) s'|.again c'=>c'.quiet=true/\codeAny (model prog w) A c' R s') (λe s'=>R (.error e) s') s:=by
 have ty:s.TypeIs (.ref d) "dict" :=m.dictOf.typeIs
 have lS:=Heap.lt_size hS
 obtain⟨o,es,ho,_⟩:=id m
 have ld:=Heap.lt_size ho
 unfold Builtin.List.listExtendWith
 refine wpAny_bind (wpAny_typeOf ty ?_)
 have f1:Builtin.List.listSameRef (.ref S) (.ref d)=false:=by simp[Builtin.List.listSameRef,ne]
 have f2:(Value.type "dict" ==Value.type "list")=false:=by decide
 have f3:(Value.type "dict" ==Value.type "tuple")=false:=by decide
 simp only[f1,f2,f3,Bool.or_false,Bool.false_eq_true,if_false]
 refine wpAny_bind (wpAny_pyIter_dict hd m ?_)
 have up:∀b ob,s.heap.get? b=some ob->(s.heap.push {cls:=.type "dict_keyiterator",data:=.fields #[.ref d,.int 0 0,.int cF.length 0,.int ep 0]}).get? b=some ob:=λb ob e=>Heap.get?_push_of_some _ e
 have st:(s.heap.push {cls:=.type "dict_keyiterator",data:=.fields #[.ref d,.int 0 0,.int cF.length 0,.int ep 0]}).IsKeyIter s.heap.objs.size d 0 cF.length ep:=⟨_,Heap.get?_push_size _ rfl,rfl,rfl⟩
 have m1:=m.at' λob e=>up d ob e
 refine wpAny_bind (wpAny_holding ?_)
 unfold Builtin.List.listLengthHint
 have WU:Shared.TypeIs {s with heap:=s.heap.push {cls:=.type "dict_keyiterator",data:=.fields #[.ref d,.int 0 0,.int cF.length 0,.int ep 0]}} (.ref d) "dict" :=m1.dictOf.typeIs
 refine wpAny_bind (wpAny_specialOf WU An ?_)
 wp_delta
 refine wpAny_bind (wpAny_isInstance (b:=true) WU (by rw[isSubtype_type];kernel_rfl) ?_)
 show wpAny _ _ (typeOf (Value.ref d)>>=_) _ _ _
 refine wpAny_bind (wpAny_typeOf WU (wpAny_pure ?_))
 rw[if_pos (by decide)]
 have W:=(Walks.dictKeys (prog:=prog) (w:=w) (knd:=strKind prog w) (A:=A.in1) hh s.heap.objs.size d (Nat.ne_of_lt ld) cF ep).toS
 have nf:S∉[s.heap.objs.size,d]:=by
  simp only[List.mem_cons,List.not_mem_nil,or_false]
  exact λz=>z.elim (Nat.ne_of_lt lS) ne
 refine wpAny_bind (wpAny_rule (wpAny_bind ?_))
 show wpAny _ A.in1 (updateSeq S (·.push .none)>>=λ_=>updateSeq S (·.pop)) _ _ _
 refine wpAny_bind (wpAny_updateSeq (up _ _ hS) rfl ?_)
 have g2:=Heap.get?_update_self (Obj.mapSeq (·.push Value.none)) (up _ _ hS) rfl
 refine wpAny_updateSeq (hz:=by seq_fits) g2 rfl ?_
 have g3:=Heap.get?_update_self (Obj.mapSeq (·.pop)) g2 rfl
 generalize hH:((s.heap.push {cls:=.type "dict_keyiterator",data:=.fields #[.ref d,.int 0 0,.int cF.length 0,.int ep 0]}).update S (Obj.mapSeq (·.push Value.none))).update S (Obj.mapSeq (·.pop))=H3 at g3⊢
 have R5:∀b ob,b≠S->(s.heap.push {cls:=.type "dict_keyiterator",data:=.fields #[.ref d,.int 0 0,.int cF.length 0,.int ep 0]}).get? b=some ob->H3.get? b=some ob:=λb ob hb e=>by
  rw[<-hH]
  exact(Heap.get?_update_other _ _ (Ne.symm hb)).trans ((Heap.get?_update_other _ _ (Ne.symm hb)).trans e)
 refine wpAny_pure ⟨plainId_quiet F.plain_extend_loop _,codeAny_extend_loopS W hn _ nf _ cF.length 0 _ _ _ rfl (Nat.zero_le _) ⟨st.at λob e=>R5 _ ob (Nat.ne_of_gt lS) e,m1.at' λob e=>R5 _ ob ne.symm e⟩ g3 (ItemsOf.nil _) λs' pj c' hm TL F1=>?_⟩
 rw[Moved.eq_with hm]
 refine k s'.heap s'.toks pj c' (λb ob hb e=>hm.heap b ob (λz=>?_) (R5 b ob hb (up b ob e))) TL F1
 rcases List.mem_cons.mp z with z|z
 ·exact hb z
 ·exact absurd (Heap.lt_size e) (by rw[List.mem_singleton.mp z];exact Nat.lt_irrefl _)
theorem F2{R:Result->Shared->Prop}(hh:A.handled=none)(hd:(d==sysModules)=false)(hS:s.heap.get? S=some {cls:=.type "list",data:=.seq #[]})(m:s.heap.DictAt (strKind prog w) d cF ep)(ne:S≠d)
  (k:∀h' tk pj c',(∀b o,b≠S->s.heap.get? b=some o->h'.get? b=some o)->h'.get? S=some {cls:=.type "list",dict:=none,data:=.seq pj c',slots:=#[]}->ItemsOf (IG prog w cF) pj cF.length->R (.ok (.ret .none)) {s with heap:=h',toks:=tk})(hn:cF.length<=sizeLine):
  wpAny (model prog w) A.in1 (Builtin.«list.__init__» ⟨[.ref S,.ref d],[]⟩) (λfin s'=>match fin with|.done f=>R (.ok f) s'|.again c'=>c'.quiet=true/\codeAny (model prog w) A c' R s') (λe s'=>R (.error e) s') s:=by
 show wpAny _ _ (Builtin.List.listItems (.ref S)>>=λold=>Builtin.List.listUpdate (.ref S) (λ_=>#[])>>=λ_=>letGo old.toList.reverse>>=λ_=>Builtin.List.listExtendWith (.ref S) (.ref d) .none) _ _ s
 refine wpAny_bind ?_
 unfold Builtin.List.listItems
 refine wpAny_bind (wpAny_seqItems hS rfl (wpAny_pure ?_))
 show wpAny _ _ (updateSeq S (λ_=>#[])>>=λ_=>letGo (#[]:Array Value).toList.reverse>>=λ_=>Builtin.List.listExtendWith (.ref S) (.ref d) .none) _ _ s
 refine wpAny_bind (wpAny_updateSeq hS rfl ?_)
 have R5:∀b o,b≠S->s.heap.get? b=some o->(s.heap.update S (Obj.mapSeq (λ_=>(#[]:Array Value)))).get? b=some o:=λb o hb e=>(Heap.get?_update_other _ _ (Ne.symm hb)).trans e
 refine wpAny_bind (wpAny_letGo (IH hh hd .none _ (Heap.get?_update_self (Obj.mapSeq (λ_=>(#[]:Array Value))) hS rfl) (m.at' λo e=>R5 d o ne.symm e) ne (λh' tk pj c' hk TL F1=>?_) hn))
 exact k h' tk pj c' (λb o hb e=>hk b o hb (R5 b o hb e)) TL F1
theorem list_dict{Q:Value->Shared->Prop}(hh:A.handled=none)(hd:(d==sysModules)=false)(m:s.heap.DictAt (strKind prog w) d cF ep)(hn:cF.length<=sizeLine)
  (k:∀h' tk pj c',(∀b o,s.heap.get? b=some o->h'.get? b=some o)->h'.get? s.heap.objs.size=some {cls:=.type "list",dict:=none,data:=.seq pj c',slots:=#[]}->ItemsOf (IG prog w cF) pj cF.length->Q (.ref s.heap.objs.size) {s with heap:=h',toks:=tk}):
  wpAny (model prog w) A (call (.type "list") [.ref d]) Q E s:=by
 obtain⟨o,es,ho,_⟩:=id m
 have ld:=Heap.lt_size ho
 refine callType_codes (Q₁:=λobj s₁=>obj=.ref s.heap.objs.size/\s₁={s with heap:=s.heap.push {cls:=.type "list",data:=.seq #[]}}) F.called_list (F.typeCall_list_1 _) F.entry_list_init (code_list_new _ ⟨rfl,rfl⟩) λobj s₁ h₁=>?_
 obtain⟨rfl,rfl⟩:=h₁
 have hS:(s.heap.push {cls:=.type "list",data:=.seq #[]}).get? s.heap.objs.size=some {cls:=.type "list",data:=.seq #[]}:=Heap.get?_push_size _ rfl
 refine⟨⟨_,hS,rfl⟩,F.args_list_init_2 _ _,F2 (A:=A.in1) hh hd hS (m.at' λo e=>Heap.get?_push_of_some _ e) (Nat.ne_of_gt ld) (λh' tk pj c' hk TL F1=>?_) hn⟩
 exact⟨rfl,k h' tk pj c' (λb o e=>hk b o (Nat.ne_of_lt (Heap.lt_size e)) (Heap.get?_push_of_some _ e)) TL F1⟩
end
noncomputable def uc:List DictEntry->List (Str×Int)->List (Str×Value)
 |e::es,(k,_)::cF=>(k,e.val)::uc es cF
 |_,_=>[]
theorem ph.pairs{P:Params}{prog:Program}{w:World}:∀{es:List DictEntry} {cF:List (Str×Int)},ph P es cF->Pairs (strKind prog w) es (uc es cF)/\(uc es cF).map (·.1)=cF.map (·.1)
 |[],[],_=>⟨.nil,rfl⟩
 |e::es,(k,i)::cF,⟨⟨t,u,eq⟩,h⟩=>by
  obtain⟨a,b⟩:=h.pairs (prog:=prog) (w:=w)
  refine⟨.cons (kv:=(k,e.val)) ?_ rfl a,by show k::_=k::_;rw[b]⟩
  subst eq
  exact strKind_is prog w k t
section
variable{X:Cx}{κ:Kl}{pos p0 p:Pos}{x:Str}{cF:List (Str×Int)}
theorem Mz{pins:List (Addr×Obj)}{σ:St}{H:Hp}{s:Shared}{d:Addr}{es:Array DictEntry}{n:Nat}(I:Inv X pins σ H s)(hk:X.K.lookup d=some ⟨.type "dict",none,.dict es n,#[]⟩)(he:ph X.w.params es.toList cF)(nd:(cF.map (·.1)).Nodup):s.heap.DictAt (strKind X.prog X.w) d (uc es.toList cF) n:=by
 obtain⟨a,b⟩:=he.pairs (prog:=X.prog) (w:=X.w)
 refine⟨_,es,I.oB _ _ hk,⟨rfl,rfl,rfl⟩,rfl,λe hm=>?_,a,by rw[b];exact nd⟩
 obtain⟨k,t,e1,e2⟩:=he.lit.all e (Array.mem_toList_iff.mpr hm)
 exact⟨k,by rw[e1];exact strKind_is X.prog X.w k t,e2⟩
theorem F3{prog:Program}{w:World}{k:Str}{v:Value}(h:(strKind prog w).is k v=true):∃t,v=.str k t:=by
 have h:Value.isStrOf k v=true:=h
 cases v with
 |str s t=>
  have h:(s==k)=true:=h
  exact⟨t,by rw[beq_iff_eq.mp h]⟩
 |_=>cases h
theorem wy:∀{us:List Value} {ks:List Str},us.length=ks.length->(∀(j:Nat) (v:Value),us[j]?=some v->∃k t,ks[j]?=some k/\v=Value.str k t)->Vals (ks.map V.str) us
 |[],[],_,_=>.nil
 |[],_::_,h,_=>by cases h
 |_::_,[],h,_=>by cases h
 |u::us,k::ks,h,f=>by
  obtain⟨k',t,e1,e2⟩:=f 0 u rfl
  cases e1
  exact .cons ⟨t,e2⟩ (wy (Nat.succ.inj h) λj v e=>f (j+1) v e)
theorem B9{d:Addr}{es:Array DictEntry}{n:Nat}(hc:X.calm=true)(hk:X.K.lookup d=some ⟨.type "dict",none,.dict es n,#[]⟩)(he:ph X.w.params es.toList cF)(hd:(d==sysModules)=false)(nd:(cF.map (·.1)).Nodup)(hl:cF.length<=1000):
  hX X (.type "list") (λxs H Q=>xs=[.ref d]/\∀l,H l=none->Q (.ref l) (upd H l (.lst ((cF.map (·.1)).map V.str)))):=by
 intro pins s σ H xs us Q I r h
 obtain⟨rfl,q⟩:=h
 obtain⟨u,rfl,rx⟩:=vals1 r
 cases rx
 obtain⟨_,pk⟩:=he.pairs (prog:=X.prog) (w:=X.w)
 have pl:(uc es.toList cF).length=cF.length:=by
  have:=congrArg List.length pk
  simpa using this
 have zl:(1000:Nat)<=sizeLine:=by decide
 refine list_dict (I.ok.hd hc) hd (Mz I hk he nd) (by omega) λh' tk acc c kp e hi=>?_
 have hv:Vals ((cF.map (·.1)).map V.str) acc.toList:=by
  refine wy ?_ λj v ej=>?_
  ·rw[Array.length_toList,hi.1,pl,List.length_map]
  ·obtain⟨k,y,e1,e2⟩:=hi.2 j v (by simpa using ej)
   obtain⟨t,e3⟩:=F3 e2
   refine⟨k,t,?_,e3⟩
   rw[<-pk,List.getElem?_map,e1]
   rfl
 refine⟨.ref s.heap.objs.size,_,I.laid (t':=tk) kp (Nat.le_refl _) (show hU X.prog X.w _ h' _ (.lst ((cF.map (·.1)).map V.str))from⟨?_,acc.toList,c,hv,e⟩),rfl,q _ (I.dZ.fresh (Nat.le_refl _))⟩
 rw[List.length_map,List.length_map]
 omega
theorem II(D:Al X.w.params X.K X.mg x cF)(nd:(cF.map (·.1)).Nodup)(hl:cF.length<=1000)(hm:X.mg "list" =none)(hg:Gl X "list" :=by rfl)(ZJ:Gl X x:=by rfl)(hx:(x==("__debug__" :Str))=false:=by decide)(hc:X.calm=true:=by rfl)(hs:starEach [.Name x p0] X.env=(false,eval (.Name x p0) X.env)::starEach [] X.env:=by rfl):
  DO X κ (.Call (.Name "list" p) [.Name x p0] [] pos) (dC (.lst ((cF.map (·.1)).map PV.str))):=by
 obtain⟨d,es,n,h1,h2,h3,h4⟩:=D
 refine⟨_,jY (B9 hc h2 h3 h4 nd hl) hg hm PyProof.Rows.boot_list (aM (mG (v:=.ref d) ZJ h1 rfl hx) bJ hs) (he:=hs),λ{G A bo own ρ σ H p Q} r e q=>?_⟩
 cases e
 refine⟨rfl,λD hD=>?_⟩
 refine q _ _ (bK hD) ?_
 obtain⟨a,ws,l,w1,w2,w3,w4⟩:=r.vq hD (ub (κ:=κ) (cF.map (·.1)))
 refine⟨a,ws,l,w1,w2,?_,w4⟩
 cases w1
 exact hD
end
structure Rg where
 ws:List PV
 sg:Str
noncomputable def nJ(c:Nat):List Str:=if c=4 then["words","signs","at"]else RV c
noncomputable def Ca(t:Rg)(n:Int):PV:=.ins 4 [.lst t.ws,.str t.sg,.int n]
noncomputable abbrev qo(κ:Kl)(dx:Addr)(vw:V)(t:Rg)(n:Int):HO:=.ins (κ.adr 4) dx [(("words" :Str),vw),(("signs" :Str),.str t.sg),(("at" :Str),.int n)]
noncomputable def A1(A:Addr->Prop)(x:Addr):Addr->Prop:=λb=>A b\/b=x
noncomputable def oA(x:Addr):Addr->Prop:=λb=>b=x
noncomputable def wQ(t:Rg)(n:Int)(ρ:cH):cH:=ρ.set 0 (.sh (Ca t n))
structure RQ(K:PySem.W.Frag)(κ:Kl)(G:Hp)(A:Addr->Prop)(x dx:Addr)(vw:V)(t:Rg)(n:Int)(own:Nat->Addr)(ρ:cH)(σ:St)(H:Hp):Prop where
 r:R K κ (upd G x (qo κ dx vw t n)) (A1 A x) (λ_=>none) own ρ σ H
 self:σ[0]?=some (some (.ref x))
 zero:ρ[0]?=some .un
 wsr:Rep K κ (hide (A1 A x) G) vw (.lst t.ws)
 na:¬A x
 gx:G x≠none
section
variable{K:PySem.W.Frag}{κ:Kl}{G H H':Hp}{A:Addr->Prop}{x dx:Addr}{vw:V}{t:Rg}{n n':Int}{own:Nat->Addr}{ρ:cH}{σ:St}
theorem RQ.ob(r:RQ K κ G A x dx vw t n own ρ σ H):H x=some (qo κ dx vw t n):=r.r.same x _ aO
theorem RQ.mono(r:RQ K κ G A x dx vw t n own ρ σ H)(s:aI H H'):RQ K κ G A x dx vw t n own ρ σ H':=⟨r.r.mono s,r.self,r.zero,r.wsr,r.na,r.gx⟩
theorem ud{G:Hp}{x b:Addr}{o:HO}(h:upd G x o b=none):b≠x/\G b=none:=by
 by_cases e:b=x
 ·subst e
  rw[aO]at h
  cases h
 ·rw[aL e]at h
  exact⟨e,h⟩
theorem gF{b:Addr}{o:HO}(s:aI (hide (oA x) H) (hide (oA x) H'))(ne:b≠x)(h:H b=some o):H' b=some o:=by
 have e:hide (oA x) H b=some o:=by rw[bQ (show¬oA x b from ne)];exact h
 exact(cw (s b o e)).2
theorem RQ.turn(r:RQ K κ G A x dx vw t n own ρ σ H)(s:aI (hide (oA x) H) (hide (oA x) H'))(e:H' x=some (qo κ dx vw t n')):RQ K κ G A x dx vw t n' own ρ σ H':=by
 have sS:aI (di (A1 A x) own ρ H) (di (A1 A x) own ρ H'):=λb o h=>by
  obtain⟨nb,hb⟩:=cw h
  have ne:b≠x:=λz=>nb (.inl (.inr z))
  rw[di,bQ nb]
  exact gF s ne hb
 refine⟨⟨λb h=>?_,λi a vs e=>(by cases e),λb o h=>?_,λi p h=>?_,λi l h=>?_,r.r.inj,λi l h=>?_,r.r.len⟩,r.self,r.zero,r.wsr,r.na,r.gx⟩
 ·intro z
  obtain⟨ne,z⟩:=ud z
  have:=r.r.al b h
  rw[aL ne]at this
  exact this z
 ·by_cases ne:b=x
  ·subst ne
   rw[aO]at h
   cases h
   exact e
  ·rw[aL ne]at h
   exact gF s ne (r.r.same b o (by rw[aL ne];exact h))
 ·obtain⟨v,h1,h2⟩:=r.r.sh i p h
  exact⟨v,h1,h2.mono sS⟩
 ·obtain⟨h1,h2,vs,h3,h4⟩:=r.r.ow i l h
  obtain⟨ne,h2⟩:=ud h2
  exact⟨h1,by rw[aL ne];exact h2,vs,gF s ne h3,h4.mono sS⟩
 ·obtain⟨a,vs,z,_⟩:=r.r.bw i l h
  cases z
theorem RQ.rd(hf:κ.fld 4=[("words" :Str),("signs" :Str),("at" :Str)])(r:RQ K κ G A x dx vw t n own ρ σ H):R K κ (upd G x (qo κ dx vw t n)) A (λ_=>none) own (wQ t n ρ) σ H:=by
 have h0:0<ρ.length:=(List.getElem?_eq_some_iff.mp r.zero).1
 have at_:∀{i:Nat} {s:Slot},(wQ t n ρ)[i]?=some s->(i=0/\s=.sh (Ca t n))\/(i≠0/\ρ[i]?=some s):=λ{i s} e=>by
  unfold wQ at e
  by_cases hi:0=i
  ·subst hi
   rw[List.getElem?_set,if_pos rfl,if_pos h0]at e
   exact .inl ⟨rfl,(Option.some.inj e).symm⟩
  ·rw[List.getElem?_set_ne hi]at e
   exact .inr ⟨Ne.symm hi,e⟩
 have G3:∀{b:Addr},xM own (wQ t n ρ) b->(upd G x (qo κ dx vw t n)) b=none/\xM own ρ b:=λ{b} h=>by
  obtain⟨j,m,h1,h2⟩:=h
  rcases at_ h1 with⟨_,z⟩|⟨_,z⟩
  ·cases z
  ·refine⟨?_,j,m,z,h2⟩
   rw[<-h2]
   exact(r.r.ow j m z).2.1
 have sS:aI (di (A1 A x) own ρ H) (di A own (wQ t n ρ) H):=cS (λ_ _ z=>z) λb h _=>h.elim (λz=>.inl (.inl z)) λz=>.inr (G3 z).2
 refine⟨λb h=>r.r.al b (.inl h),λi a vs e=>(by cases e),r.r.same,λi p h=>?_,λi l h=>?_,λi j l m h1 h2=>?_,λi l h=>?_,?_⟩
 ·rcases at_ h with⟨h1,h2⟩|⟨h1,h2⟩
  ·subst h1
   cases h2
   refine⟨_,r.self,.ins (c:=4) (vs:=[vw,.str t.sg,.int n]) (dx:=dx) ?_ (by rw[hf];rfl) (.cons (r.wsr.mono λb o hb=>?_) (.cons (.str _) (.cons (.int _) .nil)))⟩
   ·rw[di,bQ λz=>?_,r.ob,hf]
    ·rfl
    ·rcases z with z|z
     ·exact r.na z
     ·have:=(G3 z).1
      rw[aO]at this
      cases this
   ·obtain⟨nb,hb⟩:=cw hb
    have ne:b≠x:=λz=>nb (.inr z)
    have hu:upd G x (qo κ dx vw t n) b=some o:=by rw[aL ne];exact hb
    rw[di,bQ λz=>?_]
    ·exact r.r.same b o hu
    ·rcases z with z|z
     ·exact nb (.inl z)
     ·rw[(G3 z).1]at hu
      cases hu
  ·obtain⟨v,g1,g2⟩:=r.r.sh i p h2
   exact⟨v,g1,g2.mono sS⟩
 ·rcases at_ h with⟨_,z⟩|⟨_,z⟩
  ·cases z
  ·obtain⟨h1,h2,vs,h3,h4⟩:=r.r.ow i l z
   exact⟨h1,h2,vs,h3,h4.mono sS⟩
 ·rcases at_ h1 with⟨_,z⟩|⟨_,z⟩
  ·cases z
  ·rcases at_ h2 with⟨_,y⟩|⟨_,y⟩
   ·cases y
   ·exact r.r.inj i j l m z y
 ·rcases at_ h with⟨_,z⟩|⟨_,z⟩
  ·cases z
  ·obtain⟨a,vs,y,_⟩:=r.r.bw i l z
   cases y
 ·unfold wQ
  rw[List.length_set]
  exact r.r.len
theorem RQ.set(r:RQ K κ G A x dx vw t n own ρ σ H){i:Nat}(hi:i≠0){v:V}{p:PV}(z:Rep K κ (di (A1 A x) own ρ H) v p):RQ K κ G A x dx vw t n own (ρ.set i (.sh p)) (σ.set i (some v)) H:=
 ⟨r.r.set z,by rw[List.getElem?_set_ne hi];exact r.self,by rw[List.getElem?_set_ne hi];exact r.zero,r.wsr,r.na,r.gx⟩
end
noncomputable abbrev dr:=Rg->Int->cH->Option (Int×Fl)
noncomputable abbrev jy:=Rg->Int->cH->Option (Int×PV)
noncomputable abbrev FQ:=Rg->Int->List PV->Option (Int×PV)
noncomputable def lO:dr:=λ_ n ρ=>some (n,.nx ρ)
noncomputable def ko:dr:=λ_ _ _=>none
noncomputable def eX(a b:dr):dr:=λt n ρ=>(a t n ρ).bind λq=>match q with
 |(m,.nx ρ')=>b t m ρ'
 |(m,.rt p)=>some (m,.rt p)
 |_=>none
noncomputable def ue(i:Nat)(f:Den):dr:=λt n ρ=>(f (wQ t n ρ)).bind λp=>if flat p then some (n,.nx (ρ.set i (.sh p)))else none
noncomputable def Cb(f:Den):dr:=λt n ρ=>(f (wQ t n ρ)).bind λp=>(GW p).map λk=>(n+k,.nx ρ)
noncomputable def Cc(c:c9)(a b:dr):dr:=λt n ρ=>(c (wQ t n ρ)).bind λk=>if k then a t n ρ else b t n ρ
noncomputable def Ao(f:Den):dr:=λt n ρ=>(f (wQ t n ρ)).bind λp=>if flat p then some (n,.rt p)else none
noncomputable def Ap(f:Den):dr:=λ_ n ρ=>(f ρ).map λp=>(n,.rt p)
noncomputable def Aq(i:Nat):dr:=λ_ n ρ=>(vo ρ i).map λl=>(n,.rt (.lst l))
noncomputable def jJ(c:c9)(body:dr):Nat->dr
 |0=>λ_ _ _=>none
 |k+1=>λt n ρ=>(c (wQ t n ρ)).bind λb=>if b then(body t n ρ).bind λq=>match q with
  |(m,.nx ρ')=>jJ c body k t m ρ'
  |_=>none
  else some (n,.nx ρ)
noncomputable def gr(F:FQ)(as:cC):jy:=λt n ρ=>(as (wQ t n ρ)).bind λps=>if ps.all flat then F t n ps else none
noncomputable def pq(g:jy):dr:=λt n ρ=>(g t n ρ).map λq=>(q.1,.nx ρ)
noncomputable def Ar(i:Nat)(g:jy):dr:=λt n ρ=>(g t n ρ).bind λq=>if flat q.2 then some (q.1,.nx (ρ.set i (.sh q.2)))else none
noncomputable def RX(fr:Bool)(K:PySem.W.Frag)(κ:Kl)(S:Addr->Prop)(H H':Hp)(v:V)(p:PV):Prop:=if fr then OR K κ S H H' v p else Rep K κ (hide S H') v p
noncomputable def TM(K:PySem.W.Frag)(κ:Kl)(fr:Bool)(G:Hp)(A:Addr->Prop)(x dx:Addr)(vw:V)(t:Rg)(D:Ends):Int×Fl->Prop
 |(n,.nx ρ)=>∀own σ H,RQ K κ G A x dx vw t n own ρ σ H->D.nx σ H
 |(n,.rt p)=>∀v H,aI (hide (oA x) G) (hide (oA x) H)->H x=some (qo κ dx vw t n)->RX fr K κ (A1 A x) G H v p->D.rt v H
 |_=>False
noncomputable def X9(K:PySem.W.Frag)(κ:Kl)(fr:Bool)(ts:TS)(g:dr):Prop:=
 ∀{G A x dx vw t n own ρ σ H q D},RQ K κ G A x dx vw t n own ρ σ H->g t n ρ=some q->TM K κ fr G A x dx vw t D q->ts D σ H
noncomputable def QS(X:Cx)(κ:Kl)(fr:Bool)(st:Stmt)(g:dr):Prop:=∃ts,PS X st ts/\X9 X.K κ fr ts g
noncomputable def NW(X:Cx)(κ:Kl)(fr:Bool)(st:List Stmt)(g:dr):Prop:=∃ts,Bi X st ts/\X9 X.K κ fr ts g
noncomputable def ZK(K:PySem.W.Frag)(κ:Kl)(fr:Bool)(te:TE)(g:jy):Prop:=
 ∀{G A x dx vw t n own ρ σ H n' p Q},RQ K κ G A x dx vw t n own ρ σ H->g t n ρ=some (n',p)->(∀v H',RQ K κ G A x dx vw t n' own ρ σ H'->aI (hide (oA x) H) (hide (oA x) H')->RX fr K κ (cE (A1 A x) own ρ) H H' v p->Q v H')->te σ H Q
noncomputable def QE(X:Cx)(κ:Kl)(fr:Bool)(e:Expr)(g:jy):Prop:=∃te,PE X e te/\ZK X.K κ fr te g
noncomputable def vC(K:PySem.W.Frag)(κ:Kl)(fr:Bool)(F:FQ):Sp:=λvs H Q _=>∃(A:Addr->Prop) (x dx:Addr) (vw:V) (t:Rg) (n n':Int) (ws:List V) (ps:List PV) (p:PV),vs=.ref x::ws/\(∀b,A b->H b≠none)/\¬A x/\H x=some (qo κ dx vw t n)/\Rep K κ (hide (A1 A x) H) vw (.lst t.ws)/\aW K κ (hide (A1 A x) H) ws ps/\F t n ps=some (n',p)/\
 ∀v H',aI (hide (oA x) H) (hide (oA x) H')->H' x=some (qo κ dx vw t n')->RX fr K κ (A1 A x) H H' v p->Q v H'
structure Cq(K:PySem.W.Frag)(κ:Kl):Prop where
 fld:κ.fld 4=[("words" :Str),("signs" :Str),("at" :Str)]
 cls:vO K (κ.adr 4)
 n3:dg K (κ.adr 4) "at"
section
variable{K:PySem.W.Frag}{κ:Kl}{G H H':Hp}{A:Addr->Prop}{x dx:Addr}{vw:V}{t:Rg}{n n':Int}{own:Nat->Addr}{ρ:cH}{σ:St}
theorem sE:A1 (cE A own ρ) x=cE (A1 A x) own ρ:=by
 funext b
 refine propext ⟨?_,?_⟩
 ·rintro((z|z)|z)
  ·exact .inl (.inl z)
  ·exact .inr z
  ·exact .inl (.inr z)
 ·rintro((z|z)|z)
  ·exact .inl (.inl z)
  ·exact .inr z
  ·exact .inl (.inr z)
theorem RQ.ox(r:RQ K κ G A x dx vw t n own ρ σ H):¬xM own ρ x:=by
 rintro⟨j,m,h1,h2⟩
 have:=(r.r.ow j m h1).2.1
 rw[h2,aO]at this
 cases this
theorem RQ.words(r:RQ K κ G A x dx vw t n own ρ σ H):Rep K κ (di (A1 A x) own ρ H) vw (.lst t.ws):=by
 refine r.wsr.mono λb o hb=>?_
 obtain⟨nb,hb⟩:=cw hb
 have ne:b≠x:=λz=>nb (.inr z)
 have hu:upd G x (qo κ dx vw t n) b=some o:=by rw[aL ne];exact hb
 rw[di,bQ λz=>?_]
 ·exact r.r.same b o hu
 ·rcases z with z|⟨j,m,h1,h2⟩
  ·exact nb z
  ·have:=(r.r.ow j m h1).2.1
   rw[h2,hu]at this
   cases this
theorem RQ.frame(r:RQ K κ G A x dx vw t n own ρ σ H):aI (hide (oA x) G) (hide (oA x) H):=λb o h=>by
 obtain⟨nb,hb⟩:=cw h
 rw[bQ nb]
 exact r.r.same b o (by rw[aL nb];exact hb)
end
section
variable{X:Cx}{κ:Kl}{fr:Bool}{st:Stmt}{rest body Yb:List Stmt}{g g':dr}{ge:jy}{a b c e kk:Expr}{es:List Expr}{f fk fa:Den}{fs:cC}{ft:c9}{pos p1 p2 p3 sp apos dw:Pos}{y m:Str}{py:Pos}
theorem pA:NW X κ fr [] lO:=⟨_,Dg,λ{G A x dx vw t n own ρ σ H q D} r e k=>by cases e;exact k own σ H r⟩
theorem dj(h1:QS X κ fr st g)(h2:NW X κ fr rest g'):NW X κ fr (st::rest) (eX g g'):=by
 obtain⟨t1,a1,a2⟩:=h1
 obtain⟨t2,b1,b2⟩:=h2
 refine⟨_,hV a1 b1,λ{G A x dx vw t n own ρ σ H q D} r e k=>?_⟩
 obtain⟨⟨n1,fl⟩,e1,e2⟩:=Option.bind_eq_some_iff.mp e
 refine a2 r e1 ?_
 cases fl with
 |nx ρ'=>exact λdS σ' H' r'=>b2 r' e2 k
 |rt p=>cases e2;exact k
 |_=>cases e2
theorem gg(h1:QS X κ fr st g):NW X κ fr [st] g:=let⟨_,a1,a2⟩:=h1;⟨_,iF a1,a2⟩
theorem pB:QS X κ fr st ko:=⟨_,zk,λ{G A x dx vw t n own ρ σ H q D} r e k=>by cases e⟩
theorem D8(C:Cq X.K κ)(i:Nat)(hN:X.N.Nodup)(he:DE X κ e f)(hi:X.N[i]?=some y:=by rfl)(NX:i≠0:=by decide)(hx:Loc X.env.scope y:=by first|exact Or.inl rfl|exact Or.inr rfl)(hs:swapsWith e (some (.Name y py)) pos.line X.env=pure false:=by rfl)
  (hf:X.fn y=true\/X.env.scope.names.lookup y=some .local:=by first|exact .inl rfl|exact .inr rfl):QS X κ fr (.Assign [.Name y py] e pos) (ue i f):=by
 obtain⟨te,h1,h2⟩:=he
 refine⟨_,nv hN hi hx h1 hs hf,λ{G A x dx vw t n own ρ σ H q D} r e k=>?_⟩
 obtain⟨p,e1,e2⟩:=Option.bind_eq_some_iff.mp e
 obtain⟨MA,e3⟩:=aZ e2
 cases e3
 refine h2 (r.rd C.fld) e1 λv H' s z=>?_
 exact k _ _ _ ((r.mono s).set NX (Rep.flat MA z))
theorem IJ(C:Cq X.K κ)(he:DE X κ e f)(h0:X.N[0]?=some ("self" :Str):=by rfl)(hv:Bh X.env.scope "self" :=by first|exact Or.inl rfl|exact Or.inr (Or.inl rfl)|exact Or.inr (Or.inr rfl)):QS X κ fr (.AugAssign (.Attribute (.Name "self" p1) "at" p2) .Add e pos) (Cb f):=by
 obtain⟨te,h1,h2⟩:=he
 refine⟨_,EV (eN h0 hv) h1 O6,λ{G A x dx vw t n own ρ σ H q D} r e k=>?_⟩
 obtain⟨p,e1,e2⟩:=Option.bind_eq_some_iff.mp e
 obtain⟨j,e3,rfl⟩:=Option.map_eq_some_iff.mp e2
 cases p<;>first|(cases e3;done)|skip
 cases e3
 refine⟨_,r.self,x,_,dx,_,.int n,rfl,r.ob,C.cls,C.n3,rfl,h2 (r.rd C.fld) e1 λv H' s z=>?_⟩
 cases z
 have r1:=r.mono s
 refine⟨n,j,rfl,rfl,dx,_,r1.ob,(show(3:Nat)<1000 by decide),k own σ _ (r1.turn ?_ aO)⟩
 rw[oS (show oA x x from rfl)]
 exact λ_ _ z=>z
theorem Au(C:Cq X.K κ)(hc:DT X κ c ft)(ha:NW X κ fr body g)(hb:NW X κ fr Yb g'):QS X κ fr (.If c body Yb pos) (Cc ft g g'):=by
 obtain⟨tc,h1,h2⟩:=hc
 obtain⟨t1,a1,a2⟩:=ha
 obtain⟨t2,b1,b2⟩:=hb
 refine⟨_,Nn h1 a1 b1,λ{G A x dx vw t n own ρ σ H q D} r e k=>?_⟩
 obtain⟨z,e1,e2⟩:=Option.bind_eq_some_iff.mp e
 refine h2 (r.rd C.fld) e1 λH' s=>?_
 cases z with
 |true=>exact a2 (r.mono s) e2 k
 |false=>exact b2 (r.mono s) e2 k
theorem MB(C:Cq X.K κ)(he:DE X κ e f):QS X κ false (.Return (some e) pos) (Ao f):=by
 obtain⟨te,h1,h2⟩:=he
 refine⟨_,lE h1,λ{G A x dx vw t n own ρ σ H q D} r e k=>?_⟩
 obtain⟨p,e1,e2⟩:=Option.bind_eq_some_iff.mp e
 obtain⟨MA,e3⟩:=aZ e2
 cases e3
 exact h2 (r.rd C.fld) e1 λv H' s z=>k v H' (r.mono s).frame (r.mono s).ob (Rep.flat MA z)
theorem MC(he:DE X κ e f):QS X κ false (.Return (some e) pos) (Ap f):=by
 obtain⟨te,h1,h2⟩:=he
 refine⟨_,lE h1,λ{G A x dx vw t n own ρ σ H q D} r e k=>?_⟩
 obtain⟨p,e1,rfl⟩:=Option.map_eq_some_iff.mp e
 exact h2 r.r e1 λv H' s z=>k v H' (r.mono s).frame (r.mono s).ob (z.mono (cS (λ_ _ q=>q) λb q _=>.inl q))
theorem MD(i:Nat)(hN:X.N[i]?=some y:=by rfl)(hv:Bh X.env.scope y:=by first|exact Or.inl rfl|exact Or.inr (Or.inl rfl)|exact Or.inr (Or.inr rfl))(hd:(y==("__debug__" :Str))=false:=by decide)
  (rh:(y==("__classdict__" :Str))=false:=by decide):QS X κ true (.Return (some (.Name y py)) pos) (Aq i):=by
 refine⟨_,lE (eN hN hv hd rh),λ{G A x dx vw t n own ρ σ H q D} r e k=>?_⟩
 obtain⟨l,e1,rfl⟩:=Option.map_eq_some_iff.mp e
 obtain⟨h1,h3,vs,h4,h5⟩:=r.r.ow i (.l l) (iP e1)
 change H (own i)=some (.lst vs)at h4
 change aW _ _ _ vs l at h5
 obtain⟨_,h3⟩:=ud h3
 refine⟨_,h1,k _ H r.frame r.ob ?_⟩
 exact⟨own i,vs,l,rfl,rfl,h3,h4,h5.mono (cS (λ_ _ z=>z) λb z _=>by
  rcases z with z|z
  ·exact .inl z
  ·exact .inr ⟨i,.l l,iP e1,z.symm⟩)⟩
theorem IK(C:Cq X.K κ)(n0:Nat)(hc:DT X κ c ft)(hb:NW X κ fr body g)(hp:PassesOwn (model X.prog X.w) X.A X.env X.xe:=by exact PassesOwn.never):QS X κ fr (.While c body [] pos) (jJ ft g n0):=by
 obtain⟨tc,h1,h2⟩:=hc
 obtain⟨tb,h3,h4⟩:=hb
 refine⟨_,zo hp h1 h3,λ{G A x dx vw t n own ρ σ H q D} r e k=>?_⟩
 refine⟨λm σ H=>∃n own ρ,RQ X.K κ G A x dx vw t n own ρ σ H/\jJ ft g m t n ρ=some q,⟨n0,n,own,ρ,r,e⟩,?_⟩
 rintro m σ H ⟨n,own,ρ,r,e⟩
 cases m with
 |zero=>cases e
 |succ m=>
  unfold jJ at e
  obtain⟨c,e1,e2⟩:=Option.bind_eq_some_iff.mp e
  refine h2 (r.rd C.fld) e1 λH1 s1=>?_
  cases c with
  |false=>
   cases e2
   exact k own σ H1 (r.mono s1)
  |true=>
   obtain⟨⟨n1,fl⟩,e3,e4⟩:=Option.bind_eq_some_iff.mp e2
   refine⟨λσ' H'=>∃n own ρ,RQ X.K κ G A x dx vw t n own ρ σ' H'/\jJ ft g m t n ρ=some q,λσ' H' z=>⟨m,Nat.lt_succ_self m,z⟩,?_⟩
   refine h4 (r.mono s1) e3 ?_
   cases fl with
   |nx ρ'=>exact λdS σ' H' r'=>⟨n1,dS,ρ',r',e4⟩
   |_=>cases e4
end
noncomputable def r9(fr:Bool)(n k:Nat)(body:dr):FQ:=λt m ps=>if ps.length+1=k then(body t m (.un::(ps.map Slot.sh++List.replicate (n-k) .un))).bind λq=>match q with
 |(m',.rt p)=>some (m',p)
 |(m',.nx _)=>if fr then none else some (m',.non)
 |_=>none
 else none
theorem pC{α:Type}{c:Prop}[Decidable c]{o:Option α}{z:α}(h:(if c then o else none)=some z):c/\o=some z:=by
 split at h
 ·exact⟨by assumption,h⟩
 ·cases h
theorem Av{K:PySem.W.Frag}{κ:Kl}{H1 H2:Hp}:∀{vs:List V} {l:List PV},l.all flat=true->aW K κ H1 vs l->aW K κ H2 vs l
 |_,_,_,.nil=>.nil
 |_::_,_,h,.cons q1 q2=>by
  rw[List.all_cons,Bool.and_eq_true]at h
  exact .cons (Rep.flat h.1 q1) (Av h.2 q2)
theorem RX.big{fr:Bool}{K:PySem.W.Frag}{κ:Kl}{S:Addr->Prop}{H H1 H2:Hp}{v:V}{p:PV}(s:aI H H1)(z:RX fr K κ S H1 H2 v p):RX fr K κ S H H2 v p:=by
 cases fr with
 |false=>exact z
 |true=>
  obtain⟨a,vs,l,h1,h2,h3,h4,h5⟩:=(show OR K κ S H1 H2 v p from z)
  exact⟨a,vs,l,h1,h2,s.free h3,h4,h5⟩
section
variable{X:Cx}{κ:Kl}{fr:Bool}{e:Expr}{es:List Expr}{fs:cC}{ge:jy}{pos p1 apos dw py:Pos}{y m:Str}
theorem sF{F:FQ}{k:Nat}{fo:Addr}{fd:FuncData}{ps:List Str}{pl:Sem Bool}(C:Cq X.K κ)(hm:Meth X.K (κ.adr 4) m fo)(FO:aG X.prog X.w X.K X.mg X.base bL k fo fd ps (vC X.K κ fr F))(hr:b7 k X.A)(hb:Binds X.K fd ps [])(ha:DA X κ (e::es) fs)
  (h0:X.N[0]?=some ("self" :Str):=by rfl)(hv:Bh X.env.scope "self" :=by first|exact Or.inl rfl|exact Or.inr (Or.inl rfl)|exact Or.inr (Or.inr rfl))
  (hn:∀u1 u2 u3:V,List.lookup m [(("words" :Str),u1),(("signs" :Str),u2),(("at" :Str),u3)]=none:=by intros;rfl)
  (ri:starEach (e::es) X.env=(false,eval e X.env)::starEach es X.env:=by rfl)(hpl:(backTo dw (starEach es X.env)).any (·.1)=false:=by rfl)
  (ht:eval (.Call (.Attribute (.Name "self" p1) m apos) (e::es) [] dw) X.env=(do
    let ov<-eval (.Name "self" p1) X.env
    standAt apos.atName
    let(f,first)<-holding [ov] (getMethod ov m pl)
    callWith dw f first (backTo dw (starEach (e::es) X.env)) (backToKw dw (keywordEach [] X.env))):=by rfl):QE X κ fr (.Call (.Attribute (.Name "self" p1) m apos) (e::es) [] dw) (gr F fs):=by
 obtain⟨ta,h1,h2⟩:=ha
 refine⟨_,Lx (pl:=pl) (eN h0 hv) C.cls hm FO hr hb .nil iA h1 ri hpl ht,λ{G A x dx vw t n own ρ σ H n' p Q} r e k=>?_⟩
 obtain⟨ps,e1,e2⟩:=Option.bind_eq_some_iff.mp e
 obtain⟨MA,e3⟩:=pC e2
 refine⟨_,r.self,x,dx,_,rfl,r.ob,hn _ _ _,h2 (r.rd C.fld) e1 λvs H1 s z=>?_⟩
 have r1:=r.mono s
 refine⟨cE A own ρ,x,dx,vw,t,n,n',vs,ps,p,by rw[List.append_nil],λb hb=>?_,λz=>z.elim r1.na r1.ox,r1.ob,by rw[sE];exact r1.words,Av MA z,e3,λv H2 s2 o2 z2=>?_⟩
 ·rcases hb with hb|⟨i,l,g1,g2⟩
  ·intro zn
   have:=r1.r.al b (.inl hb)
   exact this (r1.r.same.free zn)
  ·obtain⟨_,_,vs,g3,_⟩:=r1.r.ow i l g1
   rw[<-g2,g3]
   exact λz=>by cases z
 ·rw[sE]at z2
  exact k v H2 (r1.turn s2 o2) ((bC s).trans s2) (z2.big s)
theorem uf{F:FQ}{k:Nat}{fo:Addr}{fd:FuncData}{ps:List Str}{pl:Sem Bool}(C:Cq X.K κ)(hm:Meth X.K (κ.adr 4) m fo)(FO:aG X.prog X.w X.K X.mg X.base bL k fo fd ps (vC X.K κ fr F))(hr:b7 k X.A)(hb:Binds X.K fd ps [])
  (h0:X.N[0]?=some ("self" :Str):=by rfl)(hv:Bh X.env.scope "self" :=by first|exact Or.inl rfl|exact Or.inr (Or.inl rfl)|exact Or.inr (Or.inr rfl))
  (hn:∀u1 u2 u3:V,List.lookup m [(("words" :Str),u1),(("signs" :Str),u2),(("at" :Str),u3)]=none:=by intros;rfl)
  (ht:eval (.Call (.Attribute (.Name "self" p1) m apos) [] [] dw) X.env=(do
    let ov<-eval (.Name "self" p1) X.env
    standAt apos.atName
    let(f,first)<-holding [ov] (getMethod ov m pl)
    callWith dw f first (backTo dw (starEach [] X.env)) (backToKw dw (keywordEach [] X.env))):=by rfl):QE X κ fr (.Call (.Attribute (.Name "self" p1) m apos) [] [] dw) (gr F ay):=by
 refine⟨_,sY (pl:=pl) (eN h0 hv) C.cls hm FO hr hb .nil iA ht,λ{G A x dx vw t n own ρ σ H n' p Q} r1 e k=>?_⟩
 obtain⟨ps,e1,e2⟩:=Option.bind_eq_some_iff.mp e
 obtain⟨MA,e3⟩:=pC e2
 cases e1
 refine⟨_,r1.self,x,dx,_,rfl,r1.ob,hn _ _ _,?_⟩
 refine⟨cE A own ρ,x,dx,vw,t,n,n',[],[],p,rfl,λb hb=>?_,λz=>z.elim r1.na r1.ox,r1.ob,by rw[sE];exact r1.words,.nil,e3,λv H2 s2 o2 z2=>?_⟩
 ·rcases hb with hb|⟨i,l,g1,g2⟩
  ·intro zn
   have:=r1.r.al b (.inl hb)
   exact this (r1.r.same.free zn)
  ·obtain⟨_,_,vs,g3,_⟩:=r1.r.ow i l g1
   rw[<-g2,g3]
   exact λz=>by cases z
 ·rw[sE]at z2
  exact k v H2 (r1.turn s2 o2) s2 z2
theorem yb{fe:Bool}(h:QE X κ fe e ge)(hs:swapsWith e none pos.line X.env=pure false:=by rfl):QS X κ fr (.Expr e pos) (pq ge):=by
 obtain⟨te,h1,h2⟩:=h
 refine⟨_,ke h1 hs,λ{G A x dx vw t n own ρ σ H q D} r e k=>?_⟩
 obtain⟨⟨n',p⟩,e1,rfl⟩:=Option.map_eq_some_iff.mp e
 exact h2 r e1 λv H' r' _ _=>k own σ H' r'
theorem ME(i:Nat)(hN:X.N.Nodup)(h:QE X κ false e ge)(hi:X.N[i]?=some y:=by rfl)(NX:i≠0:=by decide)(hx:Loc X.env.scope y:=by first|exact Or.inl rfl|exact Or.inr rfl)(hs:swapsWith e (some (.Name y py)) pos.line X.env=pure false:=by rfl)
  (hf:X.fn y=true\/X.env.scope.names.lookup y=some .local:=by first|exact .inl rfl|exact .inr rfl):QS X κ fr (.Assign [.Name y py] e pos) (Ar i ge):=by
 obtain⟨te,h1,h2⟩:=h
 refine⟨_,nv hN hi hx h1 hs hf,λ{G A x dx vw t n own ρ σ H q D} r e k=>?_⟩
 obtain⟨⟨n',p⟩,e1,e2⟩:=Option.bind_eq_some_iff.mp e
 obtain⟨MA,e3⟩:=aZ e2
 cases e3
 refine h2 r e1 λv H' r' _ z=>k _ _ _ (r'.set NX ?_)
 exact z
end
section
variable{P:Program}{w:World}{K:PySem.W.Frag}{mg:Str->Option Value}{base:Heap}{κ:Kl}{fr:Bool}
theorem RQ.entry{H:Hp}{N:List Str}{k:Nat}{A:Addr->Prop}{x dx:Addr}{vw:V}{t:Rg}{n:Int}{ws:List V}{ps:List PV}(hk:ps.length+1=k)(al:∀b,A b->H b≠none)(na:¬A x)(ob:H x=some (qo κ dx vw t n))(hw:Rep K κ (hide (A1 A x) H) vw (.lst t.ws))(h:aW K κ (hide (A1 A x) H) ws ps):
  RQ K κ H A x dx vw t n (λ_=>0) (.un::(ps.map Slot.sh++List.replicate (N.length-k) .un)) (start N (.ref x::ws)) H:=by
 have hl:=h.length
 have eu:upd H x (qo κ dx vw t n)=H:=by
  funext b
  by_cases e:b=x
  ·subst e
   rw[aO,ob]
  ·rw[aL e]
 have slot:∀{i:Nat} {s:Slot},(.un::(ps.map Slot.sh++List.replicate (N.length-k) .un):cH)[i]?=some s->s=.un\/∃p j,s=.sh p/\i=j+1/\ps[j]?=some p:=λ{i s} e=>by
  cases i with
  |zero=>cases e;exact .inl rfl
  |succ i=>
   rw[List.getElem?_cons_succ,List.getElem?_append]at e
   split at e
   ·rw[List.getElem?_map]at e
    obtain⟨q,e1,e2⟩:=Option.map_eq_some_iff.mp e
    exact .inr ⟨q,i,e2.symm,rfl,e1⟩
   ·rw[List.getElem?_replicate]at e
    split at e
    ·cases e;exact .inl rfl
    ·cases e
 have vf:∀{i:Nat} {l:Cn},(.un::(ps.map Slot.sh++List.replicate (N.length-k) .un):cH)[i]?≠some (.own l):=λ{i l} e=>by
  rcases slot e with z|⟨_,_,z,_⟩<;>cases z
 have hh:di (A1 A x) (λ_=>0) (.un::(ps.map Slot.sh++List.replicate (N.length-k) .un)) H=hide (A1 A x) H:=by
  unfold di
  congr 1
  funext b
  refine propext ⟨λz=>z.elim id λ⟨j,m,z,_⟩=>absurd z vf,λz=>.inl z⟩
 refine⟨⟨λb hb=>?_,λi a vs e=>(by cases e),by rw[eu];exact λ_ _ z=>z,λi p e=>?_,λi l e=>absurd e vf,λi j l m e=>absurd e vf,λi l e=>?_,?_⟩,rfl,rfl,hw,na,by rw[ob];exact λz=>by cases z⟩
 ·rw[eu]
  rcases hb with hb|hb
  ·exact al b hb
  ·rw[hb,ob]
   exact λz=>by cases z
 ·rcases slot e with z|⟨q,j,z,rfl,e1⟩
  ·cases z
  ·cases z
   obtain⟨v,h1,h2⟩:=h.get e1
   refine⟨v,?_,by rw[hh];exact h2⟩
   unfold start
   rw[List.map_cons,List.cons_append,List.getElem?_cons_succ,List.getElem?_append_left (by rw[List.length_map];exact(List.getElem?_eq_some_iff.mp h1).1),List.getElem?_map,h1]
   rfl
 ·rcases slot e with z|⟨_,_,z,_⟩<;>cases z
 ·unfold start
  simp only[List.length_append,List.length_map,List.length_cons,List.length_replicate,hl]
  rw[hk]
  omega
theorem Aw{x qual:Str}{st:Stmt}{f:Addr}{fd:FuncData}{N ps:List Str}{k:Nat}{g:dr}(F:rq K x qual st f fd)(S:aK N ps (ao st))
  (hb:∀(dh:Value) (A:Around) (outer:List Env) (s:Shared) (H:Hp) (E:XK),b7 k (A.deeper (envOfC qual (ao st) s.heap.objs.size f dh))->NW (xm bL P w K mg base N qual (ao st) f dh A outer s H E).G3 κ fr (gX st) g):
  aG P w K mg base bL (k+1) f fd ps (vC K κ fr (r9 fr N.length ps.length g)):=by
 refine F.ok S (λvs H Q E h=>?_) (λdh A outer s H vs Q E hr h=>?_)
 ·obtain⟨A',x,dx,vw,t,n,n',ws,qs,p,rfl,_,_,_,_,h1,h2,_⟩:=h
  unfold r9 at h2
  obtain⟨hk,_⟩:=pC h2
  rw[List.length_cons,h1.length]
  exact hk
 ·obtain⟨A',x,dx,vw,t,n,n',ws,qs,p,rfl,al,na,ob,hw,h1,h2,q⟩:=h
  obtain⟨ts,a1,a2⟩:=hb dh A outer s H E hr
  refine⟨ts,a1,?_⟩
  unfold r9 at h2
  obtain⟨hk,h3⟩:=pC h2
  obtain⟨⟨m,fl⟩,e1,e2⟩:=Option.bind_eq_some_iff.mp h3
  refine a2 (RQ.entry hk al na ob hw h1) e1 ?_
  cases fl with
  |nx ρ'=>
   cases fr with
   |true=>cases e2
   |false=>
    cases e2
    exact λdS σ' H' r'=>q .non H' r'.frame r'.ob .non
  |rt p'=>
   cases e2
   exact λv H' s' o' z=>q v H' s' o' z
  |_=>cases e2
end
noncomputable def ug(i:Nat)(g:jy):dr:=λt n ρ=>(g t n ρ).map λq=>(q.1,.nx (ρ.set i (.ow [q.2])))
noncomputable def IL(i:Nat)(g:jy):dr:=λt n ρ=>(vo ρ i).bind λl=>(g t n ρ).bind λq=>if l.length<sizeLine then some (q.1,.nx (ρ.set i (.ow (l++[q.2]))))else none
noncomputable def Ax(F:List PV->Option PV)(f:Den)(g:jy):dr:=λt n ρ=>(f (wQ t n ρ)).bind λa=>if flat a then(g t n ρ).bind λq=>(F [a,q.2]).map λp=>(q.1,.rt p)else none
section
variable{X:Cx}{κ:Kl}{fr:Bool}{e a:Expr}{es:List Expr}{fa:Den}{ge:jy}{pos p1 p' apos dw py lp:Pos}{x y:Str}
theorem IM(i:Nat)(hN:X.N.Nodup)(h:QE X κ false e ge)(hi:X.N[i]?=some y:=by rfl)(NX:i≠0:=by decide)(hx:Loc X.env.scope y:=by first|exact Or.inl rfl|exact Or.inr rfl)(hs:swapsWith (.List [e] lp) (some (.Name y py)) pos.line X.env=pure false:=by rfl)
  (hf:X.fn y=true\/X.env.scope.names.lookup y=some .local:=by first|exact .inl rfl|exact .inr rfl)(ri:starEach [e] X.env=(false,eval e X.env)::starEach [] X.env:=by rfl):QS X κ fr (.Assign [.Name y py] (.List [e] lp) pos) (ug i ge):=by
 obtain⟨te,h1,h2⟩:=h
 refine⟨_,nv hN hi hx (Hf (aM h1 bJ ri)) hs hf,λ{G A x dx vw t n own ρ σ H q D} r e k=>?_⟩
 obtain⟨⟨n',p⟩,e1,rfl⟩:=Option.map_eq_some_iff.mp e
 refine h2 r e1 λv H1 r1 s1 z=>⟨(show(1:Nat)<=sizeLine by decide),λb hb=>?_⟩
 obtain⟨dS,r'⟩:=r1.r.Tn (i:=i) (bK hb) (r1.r.vq hb (.cons (show Rep X.K κ (di (A1 A x) own ρ H1) v p from z) .nil))
 exact k dS _ _ ⟨r',by rw[List.getElem?_set_ne NX];exact r1.self,by rw[List.getElem?_set_ne NX];exact r1.zero,r1.wsr,r1.na,r1.gx⟩
theorem Qw(i:Nat)(h:QE X κ false e ge)(hN:X.N[i]?=some y:=by rfl)(NX:i≠0:=by decide)(hv:Bh X.env.scope y:=by first|exact Or.inl rfl|exact Or.inr (Or.inl rfl)|exact Or.inr (Or.inr rfl))(hd:(y==("__debug__" :Str))=false:=by decide)
  (rh:(y==("__classdict__" :Str))=false:=by decide)(fT:attributeBase (.Name y p') "append" X.env (eval (.Name y p') X.env)=eval (.Name y p') X.env:=by rfl)
  (nB:((backTo dw (starEach [e] X.env)).all (λx=>!x.1)&&(backToKw dw (keywordEach [] X.env)).all (λx=>x.1.isSome)
    &&decide ([e].length+([]:List Keyword).length+(if([]:List Keyword).isEmpty then 0 else 1)<30))=true:=by rfl)
  (hs:swapsWith (.Call (.Attribute (.Name y p') "append" apos) [e] [] dw) none pos.line X.env=pure false:=by rfl)(fU:(apos.endLine==dw.line)=true:=by rfl)(ri:starEach [e] X.env=(false,eval e X.env)::starEach [] X.env:=by rfl):
  QS X κ fr (.Expr (.Call (.Attribute (.Name y p') "append" apos) [e] [] dw) pos) (IL i ge):=by
 obtain⟨te,h1,h2⟩:=h
 refine⟨_,ke (zu PySem.F.plainAttrs_list PySem.F.slot_list_append PySem.F.type_list_append vT (eN hN hv hd rh) (aM h1 bJ ri) fT nB fU ri rfl) hs,λ{G A x dx vw t n own ρ σ H q D} r e k=>?_⟩
 obtain⟨l,e3,e4⟩:=Option.bind_eq_some_iff.mp e
 obtain⟨⟨n',p⟩,e1,e5⟩:=Option.bind_eq_some_iff.mp e4
 obtain⟨hl,e6⟩:=pC e5
 cases e6
 have LP:=iP e3
 obtain⟨g1,g3,vs,g4,g5⟩:=r.r.ow i (.l l) LP
 change H (own i)=some (.lst vs)at g4
 refine⟨_,g1,.inl ⟨rfl,vs,iE.of g4⟩,h2 r e1 λv H1 r1 s1 z=>?_⟩
 obtain⟨_,_,Tj,g6,g7⟩:=r1.r.ow i (.l l) LP
 change H1 (own i)=some (.lst Tj)at g6
 change aW _ _ _ Tj l at g7
 obtain⟨dS,r'⟩:=r1.r.mut LP (g7.append (.cons (show Rep X.K κ (di (A1 A x) own ρ H1) v p from z) .nil))
 refine⟨own i,Tj,_,rfl,rfl,g6,by rw[g7.length];exact hl,k dS σ _ ⟨r',r1.self,by rw[List.getElem?_set_ne NX];exact r1.zero,r1.wsr,r1.na,r1.gx⟩⟩
theorem MF{F:List PV->Option PV}{k:Nat}{f:Addr}{fd:FuncData}{ps:List Str}(C:Cq X.K κ)(FO:aG X.prog X.w X.K X.mg X.base bL k f fd ps (cO X.K κ false F))(hr:b7 k X.A)(hm:X.mg x=some (.ref f))(hk:PySem.W.keepIn X.K (.ref f)=true)(hb:Binds X.K fd ps [])(ha:DE X κ a fa)(h:QE X κ true e ge)(hg:Gl X x:=by rfl)(qp:(x==("__debug__" :Str))=false:=by decide)
  (he:starEach [a,e] X.env=(false,eval a X.env)::starEach [e] X.env:=by rfl)(ri:starEach [e] X.env=(false,eval e X.env)::starEach [] X.env:=by rfl)(hpl:(backTo dw (starEach [e] X.env)).any (·.1)=false:=by rfl):QS X κ false (.Return (some (.Call (.Name x p1) [a,e] [] dw)) pos) (Ax F fa ge):=by
 obtain⟨ta,k1,k2⟩:=ha
 obtain⟨te,h1,h2⟩:=h
 refine⟨_,lE (sx FO hr hg hm hk hb .nil iA (aM k1 (aM h1 bJ ri) he) qp he hpl),λ{G A x dx vw t n own ρ σ H q D} r e k=>?_⟩
 obtain⟨p0,e1,e2⟩:=Option.bind_eq_some_iff.mp e
 obtain⟨MA,e3⟩:=pC e2
 obtain⟨⟨n',p2⟩,e4,e5⟩:=Option.bind_eq_some_iff.mp e3
 obtain⟨p,e6,rfl⟩:=Option.map_eq_some_iff.mp e5
 refine k2 (r.rd C.fld) e1 λv0 H0 s0 z0=>h2 (r.mono s0) e4 λv H1 r1 s1 z=>?_
 have zr:Rep X.K κ (di (A1 A x) own ρ H1) v p2:=by
  obtain⟨b,vs,l,w1,w2,w3,w4,w5⟩:=(show OR X.K κ (cE (A1 A x) own ρ) H0 H1 v p2 from z)
  subst w1 w2
  refine .lst (SL.of ?_) (w5.mono (cS (λ_ _ q=>q) λc q _=>.inl q))
  rw[di,bQ λq=>(r.mono s0).r.La q w3]
  exact w4
 refine⟨cE (A1 A x) own ρ,[p0,p2],p,λb hb=>r1.r.La hb,.cons (Rep.flat MA z0) (.cons zr .nil),e6,λv' H2 s2 z2=>?_⟩
 have r2:=r1.mono s2
 exact k v' H2 r2.frame r2.ob (z2.mono (cS (λ_ _ q=>q) λb q _=>.inl q))
end
section
variable{K:PySem.W.Frag}{κ:Kl}{G H H':Hp}{A:Addr->Prop}{x:Addr}{own:Nat->Addr}{ρ:cH}{σ:St}{o o':HO}
theorem uh(s:aI (hide (oA x) H) (hide (oA x) H')):aI (di (A1 A x) own ρ H) (di (A1 A x) own ρ H'):=λb u h=>by
 obtain⟨nb,hb⟩:=cw h
 rw[di,bQ nb]
 exact gF s (λz=>nb (.inl (.inr z))) hb
theorem R.TN(r:R K κ (upd G x o) (A1 A x) (λ_=>none) own ρ σ H)(s:aI (hide (oA x) H) (hide (oA x) H'))(e:H' x=some o'):R K κ (upd G x o') (A1 A x) (λ_=>none) own ρ σ H':=by
 refine⟨λb h=>?_,λi a vs e=>(by cases e),λb u h=>?_,λi p h=>?_,λi l h=>?_,r.inj,λi l h=>?_,r.len⟩
 ·intro z
  obtain⟨ne,z⟩:=ud z
  have:=r.al b h
  rw[aL ne]at this
  exact this z
 ·by_cases ne:b=x
  ·subst ne
   rw[aO]at h
   cases h
   exact e
  ·rw[aL ne]at h
   exact gF s ne (r.same b u (by rw[aL ne];exact h))
 ·obtain⟨v,h1,h2⟩:=r.sh i p h
  exact⟨v,h1,h2.mono (uh s)⟩
 ·obtain⟨h1,h2,vs,h3,h4⟩:=r.ow i l h
  obtain⟨ne,h2⟩:=ud h2
  exact⟨h1,by rw[aL ne];exact h2,vs,gF s ne h3,h4.mono (uh s)⟩
 ·obtain⟨a,vs,z,_⟩:=r.bw i l h
  cases z
theorem IP(h:H x=some o):upd H x o=H:=by
 funext b
 by_cases e:b=x
 ·subst e
  rw[aO,h]
 ·rw[aL e]
theorem R.Qx{N:List Str}{k:Nat}{ws:List V}{ps:List PV}(hk:ps.length+1=k)(al:∀b,A b->H b≠none)(ob:H x=some o)(h:aW K κ (hide (A1 A x) H) ws ps):
  R K κ (upd H x o) (A1 A x) (λ_=>none) (λ_=>0) (.un::(ps.map Slot.sh++List.replicate (N.length-k) .un)) (start N (.ref x::ws)) H/\di (A1 A x) (λ_=>0) (.un::(ps.map Slot.sh++List.replicate (N.length-k) .un))=hide (A1 A x):=by
 have hl:=h.length
 have slot:∀{i:Nat} {s:Slot},(.un::(ps.map Slot.sh++List.replicate (N.length-k) .un):cH)[i]?=some s->s=.un\/∃p j,s=.sh p/\i=j+1/\ps[j]?=some p:=λ{i s} e=>by
  cases i with
  |zero=>cases e;exact .inl rfl
  |succ i=>
   rw[List.getElem?_cons_succ,List.getElem?_append]at e
   split at e
   ·rw[List.getElem?_map]at e
    obtain⟨q,e1,e2⟩:=Option.map_eq_some_iff.mp e
    exact .inr ⟨q,i,e2.symm,rfl,e1⟩
   ·rw[List.getElem?_replicate]at e
    split at e
    ·cases e;exact .inl rfl
    ·cases e
 have vf:∀{i:Nat} {l:Cn},(.un::(ps.map Slot.sh++List.replicate (N.length-k) .un):cH)[i]?≠some (.own l):=λ{i l} e=>by
  rcases slot e with z|⟨_,_,z,_⟩<;>cases z
 have hh:di (A1 A x) (λ_=>0) (.un::(ps.map Slot.sh++List.replicate (N.length-k) .un))=hide (A1 A x):=by
  funext H
  unfold di
  congr 1
  funext b
  refine propext ⟨λz=>z.elim id λ⟨j,m,z,_⟩=>absurd z vf,λz=>.inl z⟩
 refine⟨⟨λb hb=>?_,λi a vs e=>(by cases e),by rw[IP ob];exact λ_ _ z=>z,λi p e=>?_,λi l e=>absurd e vf,λi j l m e=>absurd e vf,λi l e=>?_,?_⟩,hh⟩
 ·rw[IP ob]
  rcases hb with hb|hb
  ·exact al b hb
  ·rw[hb,ob]
   exact λz=>by cases z
 ·rcases slot e with z|⟨q,j,z,rfl,e1⟩
  ·cases z
  ·cases z
   obtain⟨v,h1,h2⟩:=h.get e1
   refine⟨v,?_,by rw[hh];exact h2⟩
   unfold start
   rw[List.map_cons,List.cons_append,List.getElem?_cons_succ,List.getElem?_append_left (by rw[List.length_map];exact(List.getElem?_eq_some_iff.mp h1).1),List.getElem?_map,h1]
   rfl
 ·rcases slot e with z|⟨_,_,z,_⟩<;>cases z
 ·unfold start
  simp only[List.length_append,List.length_map,List.length_cons,List.length_replicate,hl]
  rw[hk]
  omega
end
noncomputable def wz(n k:Nat)(f1 f2:Den)(ps:List PV):Option Rg:=if ps.length+1=k then(f1 (.un::(ps.map Slot.sh++List.replicate (n-k) .un))).bind λa=>(f2 (.un::(ps.map Slot.sh++List.replicate (n-k) .un))).bind λb=>match a,b with
 |.lst ws,.str s=>some ⟨ws,s⟩
 |_,_=>none
 else none
noncomputable def MG(K:PySem.W.Frag)(κ:Kl)(F:List PV->Option Rg):Sp:=λvs H Q _=>∃(A:Addr->Prop) (x dx:Addr) (ws:List V) (ps:List PV) (t:Rg),vs=.ref x::ws/\(∀b,A b->H b≠none)/\¬A x/\H x=some (.ins (κ.adr 4) dx [])/\aW K κ (hide (A1 A x) H) ws ps/\F ps=some t/\
 ∀vw H',aI (hide (oA x) H) (hide (oA x) H')->H' x=some (qo κ dx vw t 0)->Rep K κ (hide (A1 A x) H') vw (.lst t.ws)->Q .non H'
structure Yc(K:PySem.W.Frag)(κ:Kl):Prop where
 n1:dg K (κ.adr 4) "words"
 n2:dg K (κ.adr 4) "signs"
noncomputable def ZL(K:PySem.W.Frag)(κ:Kl)(ts:TS)(f1 f2:Den):Prop:=∀{A x dx own ρ σ H l0 s0 D},R K κ (upd H x (.ins (κ.adr 4) dx [])) (A1 A x) (λ_=>none) own ρ σ H->di (A1 A x) own ρ=hide (A1 A x)->σ[0]?=some (some (.ref x))->H x=some (.ins (κ.adr 4) dx [])->f1 ρ=some (.lst l0)->f2 ρ=some (.str s0)->
 (∀v σ' H',aI (hide (oA x) H) (hide (oA x) H')->H' x=some (qo κ dx v ⟨l0,s0⟩ 0)->Rep K κ (hide (A1 A x) H') v (.lst l0)->D.nx σ' H')->ts D σ H
noncomputable def QI(X:Cx)(κ:Kl)(ZM:List Stmt)(f1 f2:Den):Prop:=∃ts,Bi X ZM ts/\ZL X.K κ ts f1 f2
theorem TQ{X:Cx}{κ:Kl}{f1 f2:Den}{e1 e2:Expr}{a1 a2 a4 b1 b2 b4 c1 c2 c4 c5:Pos}{j:Nat}(C:Cq X.K κ)(C2:Yc X.K κ)(d1:DE X κ e1 f1)(d2:DE X κ e2 f2)(h0:X.N[0]?=some ("self" :Str):=by rfl)(hv:Bh X.env.scope "self" :=by first|exact Or.inl rfl|exact Or.inr (Or.inl rfl)|exact Or.inr (Or.inr rfl))
  (w1:swapsWith e1 (some (.Attribute (.Name "self" a1) "words" a2)) a4.line X.env=pure false:=by rfl)(w2:swapsWith e2 (some (.Attribute (.Name "self" b1) "signs" b2)) b4.line X.env=pure false:=by rfl)(w3:swapsWith (.Constant (.int 0) j c5) (some (.Attribute (.Name "self" c1) "at" c2)) c4.line X.env=pure false:=by rfl):
  QI X κ [.Assign [.Attribute (.Name "self" a1) "words" a2] e1 a4,.Assign [.Attribute (.Name "self" b1) "signs" b2] e2 b4,.Assign [.Attribute (.Name "self" c1) "at" c2] (.Constant (.int 0) j c5) c4] f1 f2:=by
 obtain⟨t1,p1,q1⟩:=d1
 obtain⟨t2,p2,q2⟩:=d2
 refine⟨_,hV (qk (eN h0 hv) p1 w1) (hV (qk (eN h0 hv) p2 w2) (iF (qk (eN h0 hv) Bp w3))),?_⟩
 intro A x dx own ρ σ H l0 s0 D r hh self ob e3 e4 q
 refine q1 r e3 λv1 H1 s1 z1=>?_
 have r1:=r.mono s1
 have y1:Rep X.K κ (hide (A1 A x) H1) v1 (.lst l0):=by
  have:=z1
  rwa[hh]at this
 refine⟨_,self,x,_,dx,_,rfl,s1 _ _ ob,C.cls,C2.n1,(show(0:Nat)<1000 by decide),?_⟩
 have u1:∀{Hn:Hp} {on:HO},aI (hide (oA x) Hn) (hide (oA x) (upd Hn x on)):=λ{Hn on}=>by
  rw[oS (show oA x x from rfl)]
  exact λ_ _ z=>z
 have r2:=r1.TN (o':=.ins (κ.adr 4) dx [(("words" :Str),v1)]) u1 aO
 refine q2 r2 e4 λv2 H2 s2 z2=>?_
 cases z2
 have r3:=r2.mono s2
 have y2:=(y1.mono (hh▸uh (own:=own) (ρ:=ρ) (u1 (on:=.ins (κ.adr 4) dx [(("words" :Str),v1)])))).mono (bC s2)
 refine⟨_,self,x,_,dx,_,rfl,s2 _ _ aO,C.cls,C2.n2,(show(1:Nat)<1000 by decide),?_⟩
 refine⟨_,self,x,_,dx,_,rfl,aO,C.cls,C.n3,(show(2:Nat)<1000 by decide),?_⟩
 have sA:aI (hide (oA x) H) (hide (oA x) H1):=bC s1
 have sB:aI (hide (oA x) H1) (hide (oA x) H2):=u1.trans (bC s2)
 refine q v1 σ _ ((sA.trans sB).trans (u1.trans u1)) aO (y2.mono λb o hb=>?_)
 obtain⟨nb,hb⟩:=cw hb
 have ne:b≠x:=λz=>nb (.inr z)
 rw[bQ nb,aL ne,aL ne]
 exact hb
section
variable{P:Program}{w:World}{K:PySem.W.Frag}{mg:Str->Option Value}{base:Heap}{κ:Kl}
theorem F4{x qual:Str}{st:Stmt}{f:Addr}{fd:FuncData}{N ps:List Str}{k:Nat}{f1 f2:Den}(F:rq K x qual st f fd)(S:aK N ps (ao st))
  (hb:∀(dh:Value) (A:Around) (outer:List Env) (s:Shared) (H:Hp) (E:XK),b7 k (A.deeper (envOfC qual (ao st) s.heap.objs.size f dh))->QI (xm bL P w K mg base N qual (ao st) f dh A outer s H E).G3 κ (gX st) f1 f2):
  aG P w K mg base bL (k+1) f fd ps (MG K κ (wz N.length ps.length f1 f2)):=by
 refine F.ok S (λvs H Q E h=>?_) (λdh A outer s H vs Q E hr h=>?_)
 ·obtain⟨A',x,dx,ws,qs,t,rfl,_,_,_,h1,h2,_⟩:=h
  unfold wz at h2
  obtain⟨hk,_⟩:=pC h2
  rw[List.length_cons,h1.length]
  exact hk
 ·obtain⟨A',x,dx,ws,qs,t,rfl,al,na,ob,h1,h2,q⟩:=h
  obtain⟨ts,a1,a2⟩:=hb dh A outer s H E hr
  refine⟨ts,a1,?_⟩
  unfold wz at h2
  obtain⟨hk,h3⟩:=pC h2
  obtain⟨pa,e3,h4⟩:=Option.bind_eq_some_iff.mp h3
  obtain⟨pb,e4,h5⟩:=Option.bind_eq_some_iff.mp h4
  cases pa<;>first|(cases h5;done)|skip
  cases pb<;>first|(cases h5;done)|skip
  rename_i l0 s0
  cases h5
  obtain⟨r,hh⟩:=R.Qx (N:=N) hk al ob h1
  exact a2 r hh rfl ob e3 e4 λv σ' H' s' o' z=>q v H' s' o' z
end
noncomputable def IQ(i j:Nat)(FI:List PV->Option Rg)(FT FE:FQ)(as:cC):aT:=λρ=>if i<ρ.length/\j<ρ.length then(as ρ).bind λps=>(FI ps).bind λt=>(FT t 0 []).bind λq=>(FE t q.1 []).map λ_=>.rt q.2 else none
section
variable{X:Cx}{κ:Kl}{a b:Expr}{fs:cC}{x y z m1 m2:Str}{p pos p1 py pz q1 q2 q3 q4 q5 q6 q7 q8 q9 q0:Pos}
theorem IS{FI:List PV->Option Rg}{FT FE:FQ}{k1 k2 k3:Nat}{f1 f2 f3:Addr}{Yd Ye Yg:FuncData}{Yh Yi Yj:List Str}{U8 Yk:Sem Bool}(C:Cq X.K κ)(i j:Nat)(hN:X.N.Nodup)
  (M:Mk X.K (κ.adr 4) f1)(ZN:aG X.prog X.w X.K X.mg X.base bL k1 f1 Yd Yh (MG X.K κ FI))(ZO:b7 (k1+1) X.A)(ZP:X.mg x=some (.ref (κ.adr 4)))(K8:Binds X.K Yd Yh [])
  (Qd:Meth X.K (κ.adr 4) m1 f2)(ZQ:aG X.prog X.w X.K X.mg X.base bL k2 f2 Ye Yi (vC X.K κ false FT))(ZR:b7 k2 X.A)(Wq:Binds X.K Ye Yi [])
  (ZS:Meth X.K (κ.adr 4) m2 f3)(ZT:aG X.prog X.w X.K X.mg X.base bL k3 f3 Yg Yj (vC X.K κ false FE))(ZU:b7 k3 X.A)(ZV:Binds X.K Yg Yj [])(ha:DA X κ [a,b] fs)
  (hi:X.N[i]?=some y:=by rfl)(hj:X.N[j]?=some z:=by rfl)(vc:i≠j:=by decide)(hx:Loc X.env.scope y:=by first|exact Or.inl rfl|exact Or.inr rfl)(UU:Loc X.env.scope z:=by first|exact Or.inl rfl|exact Or.inr rfl)
  (hv:Bh X.env.scope y:=by first|exact Or.inl rfl|exact Or.inr (Or.inl rfl)|exact Or.inr (Or.inr rfl))(ZW:Bh X.env.scope z:=by first|exact Or.inl rfl|exact Or.inr (Or.inl rfl)|exact Or.inr (Or.inr rfl))(hd:(y==("__debug__" :Str))=false:=by decide)(rh:(y==("__classdict__" :Str))=false:=by decide)(ZX:(z==("__debug__" :Str))=false:=by decide)(ZY:(z==("__classdict__" :Str))=false:=by decide)
  (hf:X.fn y=true\/X.env.scope.names.lookup y=some .local:=by first|exact .inl rfl|exact .inr rfl)(ZZ:X.fn z=true\/X.env.scope.names.lookup z=some .local:=by first|exact .inl rfl|exact .inr rfl)
  (hg:Gl X x:=by rfl)(qp:(x==("__debug__" :Str))=false:=by decide)
  (he:starEach [a,b] X.env=(false,eval a X.env)::starEach [b] X.env:=by rfl)(hpl:(backTo pos (starEach [b] X.env)).any (·.1)=false:=by rfl)
  (Z0:swapsWith (.Call (.Name x p) [a,b] [] pos) (some (.Name y py)) p1.line X.env=pure false:=by rfl)
  (RJ:∀u1 u2 u3:V,List.lookup m1 [(("words" :Str),u1),(("signs" :Str),u2),(("at" :Str),u3)]=none:=by intros;rfl)(RG:∀u1 u2 u3:V,List.lookup m2 [(("words" :Str),u1),(("signs" :Str),u2),(("at" :Str),u3)]=none:=by intros;rfl)
  (Z1:eval (.Call (.Attribute (.Name y q1) m1 q2) [] [] q3) X.env=(do
    let ov<-eval (.Name y q1) X.env
    standAt q2.atName
    let(f,first)<-holding [ov] (getMethod ov m1 U8)
    callWith q3 f first (backTo q3 (starEach [] X.env)) (backToKw q3 (keywordEach [] X.env))):=by rfl)
  (Z2:eval (.Call (.Attribute (.Name y q5) m2 q6) [] [] q7) X.env=(do
    let ov<-eval (.Name y q5) X.env
    standAt q6.atName
    let(f,first)<-holding [ov] (getMethod ov m2 Yk)
    callWith q7 f first (backTo q7 (starEach [] X.env)) (backToKw q7 (keywordEach [] X.env))):=by rfl)
  (qe:swapsWith (.Call (.Attribute (.Name y q1) m1 q2) [] [] q3) (some (.Name z pz)) q4.line X.env=pure false:=by rfl)
  (NG:swapsWith (.Call (.Attribute (.Name y q5) m2 q6) [] [] q7) none q8.line X.env=pure false:=by rfl):
  Lb X κ false [.Assign [.Name y py] (.Call (.Name x p) [a,b] [] pos) p1,.Assign [.Name z pz] (.Call (.Attribute (.Name y q1) m1 q2) [] [] q3) q4,.Expr (.Call (.Attribute (.Name y q5) m2 q6) [] [] q7) q8,.Return (some (.Name z q0)) q9] (IQ i j FI FT FE fs):=by
 obtain⟨ta,h1,h2⟩:=ha
 refine⟨_,hV (nv hN hi hx (oG M ZN ZO hg ZP K8 .nil iA h1 qp he hpl) Z0 hf) (hV (nv hN hj UU (sY (pl:=U8) (eN hi hv hd rh) C.cls Qd ZQ ZR Wq .nil iA Z1) qe ZZ) (hV (ke (sY (pl:=Yk) (eN hi hv hd rh) C.cls ZS ZT ZU ZV .nil iA Z2) NG) (iF (lE (eN hj ZW ZX ZY))))),λ{G A bo own ρ σ H fl D} r e' q=>?_⟩
 obtain⟨⟨li,lj⟩,e'⟩:=pC e'
 obtain⟨qs,e1,e2⟩:=Option.bind_eq_some_iff.mp e'
 obtain⟨t,e3,e4⟩:=Option.bind_eq_some_iff.mp e2
 obtain⟨⟨n1,pr⟩,e5,e6⟩:=Option.bind_eq_some_iff.mp e4
 obtain⟨⟨n2,pe⟩,e7,rfl⟩:=Option.map_eq_some_iff.mp e6
 refine h2 r e1 λvs H1 s1 z1=>?_
 intro x dx Nj Z3 Bm
 have r1:=r.mono s1
 rw[List.append_nil]
 generalize RL:upd (upd H1 dx (.own x)) x (.ins (κ.adr 4) dx [])=H2
 have g1:H2 x=some (.ins (κ.adr 4) dx []):=by rw[<-RL];exact aO
 have g2:∀b o,H1 b=some o->b≠x/\H2 b=some o:=λb o q=>by
  have n1:b≠x:=bR q Nj
  rw[<-RL,aL n1,aL (bR q Z3)]
  exact⟨n1,q⟩
 have g3:∀b,H2 b=none->H1 b=none:=λb q=>by
  cases z:H1 b with
  |none=>rfl
  |some o=>rw[(g2 b o z).2]at q;cases q
 have nx:¬cE A own ρ x:=λz=>r1.La z Nj
 refine⟨cE A own ρ,x,dx,vs,qs,t,rfl,λb hb z=>r1.La hb (g3 b z),nx,g1,z1.mono λb o w=>?_,e3,λvw H3 s3 o3 w3=>⟨rfl,?_⟩⟩
 ·obtain⟨w1,w2⟩:=cw w
  obtain⟨w3,w4⟩:=g2 b o w2
  rw[bQ λz=>z.elim w1 w3]
  exact w4
 ·have Yl:∀b,cE A own ρ b->H3 b≠none:=λb hb z=>by
    cases z1:H1 b with
    |none=>exact r1.La hb z1
    |some o=>
     obtain⟨w1,w2⟩:=g2 b o z1
     rw[gF s3 w1 w2]at z
     cases z
  have si:(σ.set i (some (.ref x)))[i]?=some (some (.ref x)):=by rw[List.getElem?_set,if_pos rfl,if_pos (by rw[r.len];exact li)]
  refine⟨.ref x,si,x,dx,_,rfl,o3,RJ _ _ _,?_⟩
  refine⟨cE A own ρ,x,dx,vw,t,0,n1,[],[],pr,rfl,Yl,nx,o3,w3,.nil,e5,λv H4 s4 o4 w4=>?_⟩
  have Z4:∀b,cE A own ρ b->H4 b≠none:=λb hb z=>by
   cases z3:H3 b with
   |none=>exact Yl b hb z3
   |some o=>
    have ne:b≠x:=λq=>nx (q▸hb)
    rw[gF s4 ne z3]at z
    cases z
  have Z5:((σ.set i (some (.ref x))).set j (some v))[i]?=some (some (.ref x)):=by rw[List.getElem?_set_ne (Ne.symm vc)];exact si
  have sj:((σ.set i (some (.ref x))).set j (some v))[j]?=some (some v):=by rw[List.getElem?_set,if_pos rfl,if_pos (by rw[List.length_set,r.len];exact lj)]
  refine⟨.ref x,Z5,x,dx,_,rfl,o4,RG _ _ _,?_⟩
  have w5:Rep X.K κ (hide (A1 (cE A own ρ) x) H4) vw (.lst t.ws):=w3.mono λb o hb=>by
   obtain⟨nb,hb⟩:=cw hb
   rw[bQ nb]
   exact gF s4 (λz=>nb (.inr z)) hb
  refine⟨cE A own ρ,x,dx,vw,t,n1,n2,[],[],pe,rfl,Z4,nx,o4,w5,.nil,e7,λv5 H5 s5 o5 w6=>?_⟩
  refine⟨_,sj,q v H5 (λb o hb=>?_) ?_⟩
  ·obtain⟨y1,y2⟩:=g2 b o (r1.same b o hb)
   exact gF s5 y1 (gF s4 y1 (gF s3 y1 y2))
  ·show Rep X.K κ (hide A H5) v pr
   refine(show Rep X.K κ (hide (A1 (cE A own ρ) x) H4) v pr from w4).mono λb o hb=>?_
   obtain⟨nb,hb⟩:=cw hb
   rw[bQ λz=>nb (.inl (.inl z))]
   exact gF s5 (λz=>nb (.inr z)) hb
end
end L2.D
namespace L2.D
open PySem PySem.Spec PyProof.Rows PySem.SeqAt
structure rD(K:PySem.W.Frag)(mg:Str->Option Value)(κ:Kl)(CR CC fH fA fY fS fC:Addr):Prop where
 fld:κ.fld=nJ
 cls:∀c,c<4->vO K (κ.adr c)
 nn:dg K (κ.adr 0) "name"
 nw:∀c,0<c->c<4->dg K (κ.adr c) "wanted"
 np:∀c,0<c->c<4->dg K (κ.adr c) "parts"
 kH:Mk K (κ.adr 0) fH
 kA:Mk K (κ.adr 1) fA
 kY:Mk K (κ.adr 2) fY
 kS:Mk K (κ.adr 3) fS
 gH:mg "Hand" =some (.ref (κ.adr 0))
 gA:mg "All" =some (.ref (κ.adr 1))
 gY:mg "Any" =some (.ref (κ.adr 2))
 gS:mg "Some" =some (.ref (κ.adr 3))
 cf:NV K CC "__init__" fC
 gC:mg "Counting" =some (.ref CC)
 isR:∀c,c<4->WS K (κ.adr c) CR
 gR:mg "Rule" =some (.ref CR)
 rc:vO K (κ.adr 4)
 r1:dg K (κ.adr 4) "words"
 r2:dg K (κ.adr 4) "signs"
 r3:dg K (κ.adr 4) "at"
section
variable{K:PySem.W.Frag}{mg:Str->Option Value}{κ:Kl}{CR CC fH fA fY fS fC:Addr}
theorem F5{c:Nat}{f:Str}(h:f∈nJ c):(c=4/\(f= "words" \/f= "signs" \/f= "at"))\/f∈RV c:=by
 unfold nJ at h
 split at h
 ·exact .inl ⟨by assumption,by simpa using h⟩
 ·exact .inr h
theorem rD.lg(C:rD K mg κ CR CC fH fA fY fS fC)(f:Str):Il K κ f:=λc h=>by
 rw[C.fld]at h
 rcases F5 h with⟨rfl,rfl|rfl|rfl⟩|h
 ·exact⟨C.rc,C.r1⟩
 ·exact⟨C.rc,C.r2⟩
 ·exact⟨C.rc,C.r3⟩
 ·rcases Iv h with⟨rfl,rfl⟩|⟨h1,h2,rfl|rfl⟩
  ·exact⟨C.cls 0 (by decide),C.nn⟩
  ·exact⟨C.cls c h2,C.nw c h1 h2⟩
  ·exact⟨C.cls c h2,C.np c h1 h2⟩
theorem rD.q(C:rD K mg κ CR CC fH fA fY fS fC):Cq K κ:=⟨by rw[C.fld];rfl,C.rc,C.r3⟩
theorem rD.q2(C:rD K mg κ CR CC fH fA fY fS fC):Yc K κ:=⟨C.r1,C.r2⟩
end
theorem eU{X:Cx}{κ:Kl}{pos:Pos}{a:Expr}{fa:Den}{f:Str}(hκ:κ.fld=nJ)(hf:Il X.K κ f)(ha:DB X κ a fa)(hb:attributeBase a f X.env (eval a X.env)=eval a X.env:=by rfl):DE X κ (.Attribute a f pos) (bb (km nJ f) fa):=by
 rw[<-hκ]
 exact Qj ha hf hb
noncomputable def rE(F:List PV->Option PV):Nat->List PV->Option PV:=λc=>if c=4 then F else λ_=>none
theorem rF{P:Program}{w:World}{K:PySem.W.Frag}{mg:Str->Option Value}{base:Heap}{κ:Kl}{fr:Bool}{m:Str}{k:Nat}{ps:List Str}{f:Addr}{fd:FuncData}{F:List PV->Option PV}(hc:vO K (κ.adr 4))(hf:κ.fld=nJ)(hm:Meth K (κ.adr 4) m f)(FO:aG P w K mg base bL k f fd ps (cO K κ fr F))(hb:Binds K fd ps [])(hn:m∉nJ 4:=by decide):iZ P w K mg base κ fr m k ps (rE F):=λc xs p e=>by
 unfold rE at e
 split at e
 ·rename_i h
  subst h
  exact⟨f,fd,hc,hm,by rw[hf];exact hn,by unfold rE;rw[if_pos rfl];exact FO,hb⟩
 ·cases e
noncomputable def D9:PV->PV->Option PV
 |.int i,.int j=>some (.int (i+j))
 |_,_=>none
section
variable{X:Cx}{κ:Kl}{fr:Bool}{pos:Pos}{a e:Expr}{fa f:Den}
theorem Ay(i:Nat){x:Str}{p':Pos}(hN:X.N.Nodup)(he:DB X κ e f)(hi:X.N[i]?=some x:=by rfl)(hx:Loc X.env.scope x:=by first|exact Or.inl rfl|exact Or.inr rfl)
  (hf:X.fn x=true\/X.env.scope.names.lookup x=some .local:=by first|exact .inl rfl|exact .inr rfl):DS X κ fr (.AugAssign (.Name x p') .Add e pos) (bP i (ag D9 (dV i) f)):=by
 obtain⟨te,h1,h2⟩:=he
 refine⟨_,OM hN hi hx h1 Lo hf,λ{G A bo own ρ σ H fl D} r e k=>?_⟩
 obtain⟨p,e1,rfl⟩:=Option.map_eq_some_iff.mp e
 obtain⟨p1,e2,e3⟩:=Option.bind_eq_some_iff.mp e1
 obtain⟨p2,e4,e5⟩:=Option.bind_eq_some_iff.mp e3
 unfold dV at e2
 obtain⟨s,e6,e7⟩:=Option.bind_eq_some_iff.mp e2
 cases p1<;>first|(cases e5;done)|skip
 cases p2<;>first|(cases e5;done)|skip
 cases e5
 cases s with
 |un=>cases e7
 |own l=>cases l<;>cases e7
 |bw l=>cases e7
 |sh p'=>
  cases e7
  obtain⟨v,h3,h4⟩:=r.sh i _ e6
  cases h4
  refine⟨_,h3,h2 r e4 λv2 H1 s1 z1=>?_⟩
  exact⟨_,_,rfl,z1.int,k _ _ _ ((r.mono s1).set (.int _))⟩
end
end L2.D
namespace L2.D
open PySem
theorem Cd(a b:Nat):Builtin.bitAnd (a:Int) (b:Int)=((a&&&b:Nat):Int):=by
 unfold Builtin.bitAnd
 rw[decide_eq_true (by omega),decide_eq_true (by omega)]
 simp
theorem yc(k:Nat):(1:Int)*2^((k:Int).toNat)=((2^k:Nat):Int):=by
 rw[Int.toNat_natCast]
 simp
noncomputable def Ym(p:Nat->Nat->Bool):Bool:=(List.range 64).all λa=>(List.range 64).all λb=>p a b
theorem Qy{p:Nat->Nat->Bool}(h:Ym p=true){a b:Nat}(ha:a<64)(hb:b<64):p a b=true:=
 List.all_eq_true.mp (List.all_eq_true.mp h a (List.mem_range.mpr ha)) b (List.mem_range.mpr hb)
noncomputable def TR(p:Nat->Bool):Bool:=(List.range 64).all p
theorem Ea{p:Nat->Bool}(h:TR p=true){a:Nat}(ha:a<64):p a=true:=List.all_eq_true.mp h a (List.mem_range.mpr ha)
end L2.D
namespace L2.D
theorem WV{n:Nat}(h:n<=100000):wa (n:Int)=true:=by
 unfold wa
 simp
 omega
theorem WW{k n:Nat}(h:k<n)(hn:n<=1000:=by decide):mY 1 (k:Int)=true:=by
 unfold mY
 simp
 omega
end L2.D
namespace L2.D
open PySem
theorem qF(x y:Int)(xs ys:List Int):qz (x::xs) (y::ys)=if x=y then qz xs ys else decide (x<y):=rfl
theorem wA:∀xs:List Int,qz xs xs=false
 |[]=>rfl
 |x::xs=>by rw[qF,if_pos rfl,wA xs]
noncomputable def Vd(o:Option PV)(l:List Nat):Bool:=match o with
 |some (.lst ps)=>match iC ps with
  |some xs=>xs==l.map (λ(n:Nat)=>(n:Int))
  |none=>false
 |_=>false
theorem wB:∀xs:List Int,iC (xs.map PV.int)=some xs
 |[]=>rfl
 |x::xs=>by
  rw[List.map_cons]
  unfold iC
  rw[wB xs]
  rfl
theorem Az:∀{ps:List PV} {xs:List Int},iC ps=some xs->ps=xs.map PV.int
 |[],xs,h=>by cases h;rfl
 |p::ps,xs,h=>by
  cases p<;>first|(cases h;done)|skip
  obtain⟨cs,h1,rfl⟩:=Option.map_eq_some_iff.mp h
  rw[List.map_cons,<-Az h1]
noncomputable abbrev aA(l:List Nat):PV:=.lst (l.map λ(n:Nat)=>PV.int (n:Int))
theorem IT{o:Option PV}{l:List Nat}(h:Vd o l=true):o=some (aA l):=by
 unfold Vd at h
 split at h
 ·split at h
  ·rename_i ps xs e
   have:=eq_of_beq h
   subst this
   rw[Az e,List.map_map]
   rfl
  ·cases h
 ·cases h
noncomputable abbrev ih(g:Nat):List Int:=(Mt.oN g).map λ(n:Nat)=>(n:Int)
noncomputable def F6(a b:Nat):Bool:=if(ih a).length=(ih b).length then qz (ih a) (ih b)else decide ((ih a).length<(ih b).length)
noncomputable def pD:aT:=fQ (tV (ag gz (dV 4) (dV 5))) (a8 (ag qy (dV 4) (dV 5))) bA
theorem pE(g:GX)(body:aT)(x:PV)(xs:List PV)(ρ:cH):forL g body (x::xs) ρ=(g x ρ).bind λρ1=>(body ρ1).bind λf=>match f with
 |.nx ρ'=>forL g body xs ρ'
 |.ct ρ'=>forL g body xs ρ'
 |.bk ρ'=>some (.nx ρ')
 |.rt p=>some (.rt p):=rfl
theorem IU(s0 s1 s2 s3:Slot)(x y:Int):pD [s0,s1,s2,s3,.sh (.int x),.sh (.int y)]=if x=y then some (.nx [s0,s1,s2,s3,.sh (.int x),.sh (.int y)])else some (.rt (.bl (decide (x<y)))):=by
 by_cases h:x=y<;>simp[pD,fQ,tV,ag,dV,gz,RP,qy,a8,bA,E8,Slot.val,eqT,h]
theorem Eb(s0 s1 s2 s3:Slot):∀(xs ys:List Int) (s4 s5:Slot),xs.length=ys.length->
  (xs=ys/\∃t4 t5,forL (ir (bh 4) (bh 5)) pD (List.zipWith (λx y=>PV.tup [x,y]) (xs.map PV.int) (ys.map PV.int)) [s0,s1,s2,s3,s4,s5]=some (.nx [s0,s1,s2,s3,t4,t5]))\/
  forL (ir (bh 4) (bh 5)) pD (List.zipWith (λx y=>PV.tup [x,y]) (xs.map PV.int) (ys.map PV.int)) [s0,s1,s2,s3,s4,s5]=some (.rt (.bl (qz xs ys)))
 |[],[],s4,s5,_=>.inl ⟨rfl,s4,s5,rfl⟩
 |x::xs,y::ys,s4,s5,h=>by
  simp only[List.map_cons,List.zipWith_cons_cons,pE]
  have g1:ir (bh 4) (bh 5) (.tup [.int x,.int y]) [s0,s1,s2,s3,s4,s5]=some [s0,s1,s2,s3,.sh (.int x),.sh (.int y)]:=rfl
  rw[g1]
  simp only[Option.bind_some,IU]
  by_cases HK:x=y
  ·subst HK
   rcases Eb s0 s1 s2 s3 xs ys (.sh (.int x)) (.sh (.int x)) (by simpa using h)with⟨h1,t4,t5,e⟩|e
   ·subst h1
    refine .inl ⟨rfl,t4,t5,?_⟩
    rw[if_pos rfl]
    exact e
   ·refine .inr ?_
    rw[if_pos rfl,qF,if_pos rfl]
    exact e
  ·refine .inr ?_
   rw[if_neg HK,qF,if_neg HK]
   rfl
 |[],_::_,_,_,h=>by simp at h
 |_::_,[],_,_,h=>by simp at h
noncomputable def yd(F:List PV->Option PV):aT:=aN (bP 2 (aH F (aa (aR 0) ay))) (aN (bP 3 (aH F (aa (aR 1) ay))) (aN (fQ (tV (ag gz (bb bj (dV 2)) (bb bj (dV 3)))) (a8 (ag qy (bb bj (dV 2)) (bb bj (dV 3)))) bA)
 (aN (jE (BM (aR 2) (aR 3)) (ir (bh 4) (bh 5)) pD) (a8 (dC (.bl false))))))
theorem MI{F:List PV->Option PV}{a b:PV}{l m:List PV}{xs ys:List Int}(h1:F [a]=some (.lst l))(h2:F [b]=some (.lst m))(e1:l=xs.map PV.int)(e2:m=ys.map PV.int):
  fn false 6 2 (yd F) [a,b]=some (.bl (if xs.length=ys.length then qz xs ys else decide (xs.length<ys.length))):=by
 have l1:l.length=xs.length:=by rw[e1,List.length_map]
 have l2:m.length=ys.length:=by rw[e2,List.length_map]
 simp only[fn,gB,yd]
 simp-implicitDefEqProofs [h1,h2,aN,bP,fQ,tV,ag,bb,dV,aR,dC,aa,ay,aH,gz,RP,qy,bj,a8,bA,jE,BM,xK,E8,nF,Slot.val,Slot.E7,eqT]
 rw[l1,l2]
 by_cases hl:xs.length=ys.length
 ·simp[hl,aN,bP,fQ,tV,ag,bb,dV,aR,dC,aa,ay,aH,gz,RP,qy,bj,a8,bA,jE,BM,xK,E8,nF,Slot.val,Slot.E7,eqT]
  have z:=Eb (.sh a) (.sh b) (.sh (.lst l)) (.sh (.lst m)) xs ys .un .un hl
  rw[<-e1,<-e2]at z
  rcases z with⟨h3,t4,t5,e⟩|e
  ·rw[e]
   subst h3
   simp-implicitDefEqProofs [wA,a8,dC,xK]
  ·rw[e]
   simp[xK]
 ·have RE:¬(xs.length:Int)=(ys.length:Int):=by omega
  simp-implicitDefEqProofs [hl,RE,aN,bP,fQ,tV,ag,bb,dV,aR,dC,aa,ay,aH,gz,RP,qy,bj,a8,bA,jE,BM,xK,E8,nF,Slot.val,Slot.E7,eqT]
theorem Qz{F:List PV->Option PV}(hF:∀g:Nat,g<64->F [.int g]=some (aA (Mt.oN g))){a b:Nat}(ha:a<64)(hb:b<64):fn false 6 2 (yd F) [.int a,.int b]=some (.bl (F6 a b)):=
 MI (hF a ha) (hF b hb) (by simp[ih]) (by simp[ih])
end L2.D
namespace L2.D.Sh
open PySem
noncomputable def nK:aT:=(a8 (ag iG (ag xF (ag E9 (dV 0) (dV 1)) (dC (.int 1))) (dC (.int 1))))
noncomputable def nL(eY:List PV->Option PV):aT:=(a8 (b9 (iB (bb HG (dV 0))) (tV (aH eY (aa (aR 1) (aa (aR 0) ay)))) (aR 0)))
noncomputable def pF(eZ:List PV->Option PV):aT:=(aN (bP 1 (aH eZ (aa (aR 0) ay))) (a8 (fV (aa (bb bj (dV 1)) (aa (aR 1) ay)))))
noncomputable def lP:aT:=(a8 (b9 (iB (dC (.int 6))) (tV (ag iG (ag xF (ag E9 (dV 1) (dV 0)) (dC (.int 1))) (dC (.int 1)))) (aR 0)))
noncomputable def jK:aT:=(aN (fQ (tV (ag qy (dV 1) (bb bj (dV 0)))) (a8 (ag jq (dV 0) (dV 1))) bA) (a8 (dC (.int 0))))
noncomputable def pG:aT:=(a8 (ag iG (ag xF (dV 0) (dV 1)) (dV 0)))
noncomputable def ye(i0:List PV->Option PV):aT:=(a8 (bb LW (b9 (nList (dV 0)) d5 (aH i0 (aa (aR 0) (aa (aR 2) ay))))))
noncomputable def fE(F_place aP:List PV->Option PV):aT:=(fQ (lz (tV (xE aP (aa (dV 1) (aa (dV 2) ay))))) (oR 1 dB (aa (aR 2) ay)) bA)
noncomputable def sG(F_place aP:List PV->Option PV):aT:=(aN (k9 1 (lI ay)) (aN (jE (nList (rA (nList (dV 0)))) (bh 2) (fE F_place aP)) (DJ 1)))
noncomputable def i3(bT:List PV->Option PV):aT:=(fQ (tV (ag gz (dV 4) (dV 5))) (a8 (ag qy (dV 4) (dV 5))) bA)
noncomputable def kq(bT:List PV->Option PV):aT:=(aN (bP 2 (aH bT (aa (aR 0) ay))) (aN (bP 3 (aH bT (aa (aR 1) ay))) (aN (fQ (tV (ag gz (bb bj (dV 2)) (bb bj (dV 3)))) (a8 (ag qy (bb bj (dV 2)) (bb bj (dV 3)))) bA) (aN (jE (BM (aR 2) (aR 3)) (ir (bh 4) (bh 5)) (i3 bT)) (a8 (dC (.bl false)))))))
noncomputable def jz(F_place:List PV->Option PV):aT:=(a8 (rA (iB (ag zQ (dC (.int 1)) (dV 0)))))
noncomputable def mP(aP:List PV->Option PV):aT:=(a8 (bb bj (b9 (nList (dV 0)) (tV (aH aP (aa (aR 0) (aa (aR 2) ay)))) (aR 0))))
noncomputable def yf(g0 aF dk:List PV->Option PV):aT:=(a8 (aH g0 (aa (b9 (nList (aH aF (aa (dC (.int 6)) ay))) (tV (ag Tc (aH dk (aa (aR 2) (aa (aR 0) ay))) (dV 1))) (aR 0)) ay)))
noncomputable def dD(aF aP:List PV->Option PV):aT:=(fQ (tV (ag gz (aH aP (aa (aR 1) (aa (aR 3) ay))) (aH aP (aa (aR 2) (aa (aR 3) ay))))) (a8 (aR 3)) bA)
noncomputable def pH(aF aP:List PV->Option PV):aT:=(aN (jE (nList (aH aF (aa (aR 0) ay))) (bh 3) (dD aF aP)) (a8 (dC .non)))
end L2.D.Sh
namespace L2.D
open PySem
noncomputable abbrev Z6:=fn false 2 2 Sh.nK
noncomputable abbrev WX:=fn true 1 1 (Sh.nL Z6)
noncomputable abbrev Ve:=fn false 2 1 (Sh.pF WX)
noncomputable abbrev WY:=fn true 1 1 Sh.lP
noncomputable abbrev Z7:=fn false 6 2 (Sh.kq WY)
noncomputable abbrev Z8:=fn false 2 2 Sh.jK
noncomputable abbrev Yn:=fn false 2 2 Sh.pG
noncomputable abbrev Flt:=fn false 2 2 (Sh.ye Yn)
noncomputable abbrev Yo:=fn true 3 1 (Sh.sG Ve Flt)
theorem wC:TR (λg=>Vd (WX [.int g]) (Mt.oN g)&&Vd (WY [.int g]) (Mt.oN g))=true:=by decide+kernel
theorem IV(g:Nat)(h:g<64):WX [.int g]=some (aA (Mt.oN g)):=IT (by have:=Ea wC h;rw[Bool.and_eq_true]at this;exact this.1)
theorem F7(g:Nat)(h:g<64):WY [.int g]=some (aA (Mt.oN g)):=IT (by have:=Ea wC h;rw[Bool.and_eq_true]at this;exact this.2)
theorem F8{a b:Nat}(ha:a<64)(hb:b<64):Z7 [.int a,.int b]=some (.bl (F6 a b)):=Qz F7 ha hb
theorem F9{F:List PV->Option PV}{g:PV}{l:List PV}(h:F [g]=some (.lst l)):fn false 2 1 (Sh.pF F) [g]=some (.tup [.int l.length,.lst l]):=by
 have sz:(2:Nat)<=sizeLine:=by decide
 simp-implicitDefEqProofs [fn,gB,Sh.pF,h,sz,aN,bP,aH,aa,ay,aR,Slot.E7,a8,fV,bb,bj,dV,Slot.val,xK]
theorem IW{g:Nat}(h:g<64):Ve [.int g]=some (.tup [.int (ih g).length,.lst ((ih g).map PV.int)]):=by
 have e:(aA (Mt.oN g))=.lst ((ih g).map PV.int):=by simp[aA,ih]
 have:=IV g h
 rw[e]at this
 refine(F9 this).trans ?_
 rw[List.length_map]
theorem yg:Ym (λa b=>F6 a b==decide (Mt.rank a<Mt.rank b))=true:=by decide+kernel
theorem wD{a b:Nat}(ha:a<64)(hb:b<64):F6 a b=decide (Mt.rank a<Mt.rank b):=eq_of_beq (Qy yg ha hb)
theorem yi{n:Int}(h:qg n=true):n.toNat<64/\n=((n.toNat:Nat):Int):=by
 unfold qg at h
 simp only[Bool.and_eq_true,decide_eq_true_eq]at h
 omega
theorem Ce:f9 Ve:=by
 refine⟨λn=>(ih n.toNat).length,λn=>ih n.toNat,λn hn=>?_,λn m hn hm=>?_⟩
 ·obtain⟨h1,h2⟩:=yi hn
  have:=IW h1
  rw[<-h2]at this
  exact this
 ·obtain⟨h1,h2⟩:=yi hn
  obtain⟨h3,h4⟩:=yi hm
  have:=wD h1 h3
  unfold F6 at this
  unfold jr
  rw[<-this]
  by_cases h:(ih n.toNat).length=(ih m.toNat).length
  ·rw[if_pos h,if_pos (show(((ih n.toNat).length:Nat):Int)=((ih m.toNat).length:Nat) by rw[h])]
  ·rw[if_neg h,if_neg (show¬(((ih n.toNat).length:Nat):Int)=((ih m.toNat).length:Nat) by omega)]
   simp
theorem Ga(a b:Nat):Yn [.int a,.int b]=some (.bl (Mt.sub a b)):=by
 have:(((a&&&b:Nat):Int)=(a:Int))↔(a&&&b)=a:=by omega
 simp-implicitDefEqProofs [fn,gB,Sh.pG,Cd,Mt.sub,this,a8,ag,dV,Slot.val,xF,iG,eqT,xK]
 rfl
theorem wF:∀bs:List Bool,bools (bs.map PV.bl)=some bs
 |[]=>rfl
 |b::bs=>by
  rw[List.map_cons]
  unfold bools
  rw[wF bs]
  rfl
theorem qG{c:c9}{e:Den}{ρ:cH}{f:PV->PV}{p:PV->Bool}:∀xs:List PV,(∀x∈xs,c (.sh x::ρ)=some (p x))->(∀x∈xs,p x=true->e (.sh x::ρ)=some (f x))->fX c e ρ xs=some ((xs.filter p).map f)
 |[],_,_=>rfl
 |x::xs,h1,h2=>by
  have ih:=qG xs (λy hy=>h1 y (List.mem_cons_of_mem _ hy)) λy hy=>h2 y (List.mem_cons_of_mem _ hy)
  unfold fX
  rw[h1 x (List.mem_cons_self ..),ih]
  by_cases hp:p x=true
  ·rw[List.filter_cons_of_pos hp,List.map_cons]
   simp[hp,h2 x (List.mem_cons_self ..) hp]
  ·rw[List.filter_cons_of_neg hp]
   simp at hp
   simp[hp]
theorem Gb{e:Den}{ρ:cH}{f:PV->PV}(xs:List PV)(h:∀x∈xs,e (.sh x::ρ)=some (f x)):fX d5 e ρ xs=some (xs.map f):=by
 have:=qG (c:=d5) (e:=e) (ρ:=ρ) (f:=f) (p:=λ_=>true) xs (λ_ _=>rfl) λx hx _=>h x hx
 rwa[List.filter_eq_self.mpr (λ_ _=>rfl)]at this
theorem j7{it:cC}{c:c9}{e:Den}{ρ:cH}{xs zs:List PV}(h1:it ρ=some xs)(h2:xs.length<=sizeLine)(h3:fX c e ρ xs=some zs):b9 it c e ρ=some (.lst zs):=by
 unfold b9
 rw[h1]
 show(if xs.length<=sizeLine then _ else none)=_
 rw[if_pos h2,h3]
 rfl
theorem g9{it:cC}{g:GX}{body:aT}{ρ:cH}{xs:List PV}(h:it ρ=some xs):jE it g body ρ=forL g body xs ρ:=by
 unfold jE
 rw[h]
 rfl
theorem i4{a:Den}{ρ:cH}{l:List PV}(h:a ρ=some (.lst l)):nList a ρ=some l:=by
 unfold nList
 rw[h]
 rfl
theorem ak{a b:aT}{ρ ρ':cH}(h:a ρ=some (.nx ρ')):aN a b ρ=b ρ':=by
 unfold aN
 rw[h]
 rfl
theorem dE{a b:aT}{ρ:cH}{p:PV}(h:a ρ=some (.rt p)):aN a b ρ=some (.rt p):=by
 unfold aN
 rw[h]
 rfl
theorem d7{t:c9}{a b:aT}{ρ:cH}(h:t ρ=some true):fQ t a b ρ=a ρ:=by
 unfold fQ
 rw[h]
 rfl
theorem cc{t:c9}{a b:aT}{ρ:cH}(h:t ρ=some false):fQ t a b ρ=b ρ:=by
 unfold fQ
 rw[h]
 rfl
theorem aU{i:Nat}{a:Den}{ρ:cH}{p:PV}(h:a ρ=some p):bP i a ρ=some (.nx (ρ.set i (.sh p))):=by
 unfold bP
 rw[h]
 rfl
theorem j8{i:Nat}{a:Den}{ρ:cH}{l:List PV}(h:a ρ=some (.lst l)):k9 i a ρ=some (.nx (ρ.set i (.ow l))):=by
 unfold k9
 rw[h]
 rfl
theorem bV{a:Den}{ρ:cH}{p:PV}(h:a ρ=some p):a8 a ρ=some (.rt p):=by
 unfold a8
 rw[h]
 rfl
theorem a9{F:List PV->Option PV}{as:cC}{ρ:cH}{ps:List PV}(h:as ρ=some ps):aH F as ρ=F ps:=by
 unfold aH
 rw[h]
 rfl
theorem bF{a:Den}{ρ:cH}{b:Bool}(h:a ρ=some (.bl b)):tV a ρ=some b:=by
 unfold tV
 rw[h]
 rfl
theorem kr{t:c9}{ρ:cH}{b:Bool}(h:t ρ=some b):lz t ρ=some (!b):=by
 unfold lz
 rw[h]
 rfl
theorem pI{a b:c9}{ρ:cH}(h:a ρ=some false):Bj a b ρ=b ρ:=by
 unfold Bj
 rw[h]
 rfl
theorem Ec{a b:c9}{ρ:cH}(h:a ρ=some true):Bj a b ρ=some true:=by
 unfold Bj
 rw[h]
 rfl
theorem ai{g:PV->PV->Option PV}{a b:Den}{ρ:cH}{x y:PV}(h1:a ρ=some x)(h2:b ρ=some y):ag g a b ρ=g x y:=by
 unfold ag
 rw[h1]
 show(b ρ).bind _=_
 rw[h2]
 rfl
theorem bW{g:PV->Option PV}{a:Den}{ρ:cH}{x:PV}(h1:a ρ=some x):bb g a ρ=g x:=by
 unfold bb
 rw[h1]
 rfl
theorem IX{a:Den}{ρ:cH}{j:Int}(h1:a ρ=some (.int j))(h2:wa j=true):iB a ρ=some (iq 0 j.toNat):=by
 unfold iB
 rw[h1]
 simp only[Option.bind_some,GW]
 rw[if_pos h2]
theorem MJ(i j:Int):iG (.int i) (.int j)=some (.bl (decide (i=j))):=rfl
theorem qH(i j:Bool):gz (.bl i) (.bl j)=some (.bl (!decide (i=j))):=rfl
theorem cP{fr:Bool}{n k:Nat}{body:aT}{ps:List PV}{p:PV}(h:ps.length=k)(e:body (gB n ps)=some (.rt p)):fn fr n k body ps=some p:=by
 unfold fn
 rw[if_pos h,e]
 rfl
theorem Ee(ns:List Int)(k:Nat):Z8 [.lst (ns.map PV.int),.int k]=some (.int (ns.getD k 0)):=by
 have t:tV (ag qy (dV 1) (bb bj (dV 0))) [.sh (.lst (ns.map PV.int)),.sh (.int k)]=some (decide (k<ns.length)):=by
  refine bF ((ai (x:=.int k) (y:=.int ((ns.map PV.int).length:Nat)) rfl rfl).trans ?_)
  show some (PV.bl (decide ((k:Int)<(((ns.map PV.int).length:Nat):Int))))=_
  rw[List.length_map]
  congr 2
  rw[decide_eq_decide]
  omega
 by_cases h:k<ns.length
 ·rw[decide_eq_true h]at t
  have e:itemAt (ns.map PV.int) (k:Int)=some (.int (ns.getD k 0)):=by simp[itemAt,RT,h]
  exact cP rfl (dE ((d7 t).trans (bV ((ai (x:=.lst (ns.map PV.int)) (y:=.int k) rfl rfl).trans e))))
 ·rw[decide_eq_false h]at t
  have h2:ns.getD k 0=0:=by
   rw[List.getD_eq_getElem?_getD,List.getElem?_eq_none (by omega)]
   rfl
  rw[h2]
  exact cP rfl ((ak ((cc t).trans rfl)).trans (bV rfl))
theorem nM{fr:Bool}{n k:Nat}{f:Den}{ps:List PV}{p:PV}(h:ps.length=k)(e:f (gB n ps)=some p):fn fr n k (a8 f) ps=some p:=by
 unfold fn
 rw[if_pos h]
 unfold a8
 rw[e]
 rfl
noncomputable abbrev pl(l:List Nat):List PV:=l.map λ(n:Nat)=>PV.int (n:Int)
theorem gI(l:List Nat):(pl l).length=l.length:=List.length_map _
theorem IY{F:List PV->Option PV}(hF:∀a b:Nat,F [.int a,.int b]=some (.bl (Mt.sub a b)))(l:List Nat)(g:Nat)(hl:l.length<=sizeLine):fn false 2 2 (Sh.ye F) [aA l,.int g]=some (.bl (Mt.lets l g)):=by
 refine nM rfl ?_
 have e:=Gb (e:=aH F (aa (aR 0) (aa (aR 2) ay))) (ρ:=[.sh (aA l),.sh (.int g)]) (f:=λx=>.bl (match x with|.int n=>Mt.sub n.toNat g|_=>false)) (pl l) (by
  intro x hx
  obtain⟨n,_,rfl⟩:=List.mem_map.mp hx
  simp-implicitDefEqProofs [hF,aH,aa,ay,aR,Slot.E7])
 have d:=j7 (it:=nList (dV 0)) (ρ:=[.sh (aA l),.sh (.int g)]) (xs:=pl l) rfl (by rw[gI];exact hl) e
 show(b9 (nList (dV 0)) d5 (aH F (aa (aR 0) (aa (aR 2) ay))) [.sh (aA l),.sh (.int g)]).bind LW=_
 rw[d]
 have e2:(pl l).map (λx=>PV.bl (match x with|.int n=>Mt.sub n.toNat g|_=>false))=(l.map λr=>Mt.sub r g).map PV.bl:=by
  rw[List.map_map,List.map_map]
  rfl
 show(bools ((pl l).map (λx=>PV.bl (match x with|.int n=>Mt.sub n.toNat g|_=>false)))).map _=_
 rw[e2,wF]
 unfold Mt.lets
 rw[Option.map_some,List.any_map]
 rfl
theorem yj(l:List Nat)(g:Nat)(hl:l.length<=sizeLine):Flt [aA l,.int g]=some (.bl (Mt.lets l g)):=IY Ga l g hl
noncomputable def Ef(l:List Nat):List Nat:=(f6 jr (l.map λ(n:Nat)=>(n:Int))).map Int.toNat
theorem AA(l:List Nat):f6 jr (l.map λ(n:Nat)=>(n:Int))=(Ef l).map λ(n:Nat)=>(n:Int):=by
 unfold Ef
 rw[List.map_map]
 have:∀x∈f6 jr (l.map λ(n:Nat)=>(n:Int)),((λ(n:Nat)=>(n:Int))∘Int.toNat) x=id x:=λx hx=>by
  obtain⟨n,_,rfl⟩:=List.mem_map.mp ((iO jr _).mem_iff.mp hx)
  simp
 rw[List.map_congr_left this,List.map_id]
theorem i5(l:List Nat):(Ef l).Perm l:=by
 have h:=(iO jr (l.map λ(n:Nat)=>(n:Int))).map Int.toNat
 rw[List.map_map]at h
 have e:(Int.toNat∘λ(n:Nat)=>(n:Int))=id:=by
  funext n
  simp
 rw[e,List.map_id]at h
 exact h
theorem ui(l:List Nat):(Ef l).Pairwise λa b=>Mt.rank a<=Mt.rank b:=by
 have h:=lL jr (l.map λ(n:Nat)=>(n:Int))
 rw[AA,List.pairwise_map]at h
 exact h.imp λ{a b} q=>by simpa[jr]using q
theorem AB(l:List Nat):iC (pl l)=some (l.map λ(n:Nat)=>(n:Int)):=by
 have:pl l=(l.map λ(n:Nat)=>(n:Int)).map PV.int:=by
  rw[List.map_map]
  rfl
 rw[this,wB]
theorem Gf{l:List Nat}(h:∀g∈l,g<64)(hl:l.length<=5000):lK (l.map λ(n:Nat)=>(n:Int))=true:=by
 unfold lK
 simp only[Bool.and_eq_true,List.all_eq_true,decide_eq_true_eq,List.length_map]
 refine⟨λx hx=>?_,hl⟩
 obtain⟨n,hn,rfl⟩:=List.mem_map.mp hx
 have:=h n hn
 unfold qg
 simp
 omega
theorem AD{it:cC}{ρ:cH}{l:List Nat}(h:it ρ=some (pl l))(BJ:∀g∈l,g<64)(hl:l.length<=5000):rA it ρ=some (aA (Ef l)):=by
 unfold rA
 rw[h]
 show(iC (pl l)).bind _=_
 rw[AB]
 show(if lK _ then _ else none)=_
 rw[if_pos (Gf BJ hl),AA,List.map_map]
 rfl
theorem wG{F_place aP:List PV->Option PV}(hL:∀(l:List Nat) (g:Nat),l.length<=sizeLine->aP [aA l,.int g]=some (.bl (Mt.lets l g)))(s0:Slot):∀(ss acc:List Nat) (s2:Slot),acc.length+ss.length<=5000->
  ∃t2,forL (bh 2) (Sh.fE F_place aP) (pl ss) [s0,.ow (pl acc),s2]=some (.nx [s0,.ow (pl (ss.foldl Mt.kj acc)),t2])
 |[],acc,s2,_=>⟨s2,rfl⟩
 |g::ss,acc,s2,h=>by
  have zl:(5000:Nat)<=sizeLine:=by decide
  rw[List.length_cons]at h
  have b:Sh.fE F_place aP [s0,.ow (pl acc),.sh (.int g)]=some (.nx [s0,.ow (pl (Mt.kj acc g)),.sh (.int g)]):=by
   have h1:=hL acc g (by omega)
   have h2:(pl acc).length<sizeLine:=by rw[gI];omega
   have h3:(Sh.fE F_place aP [s0,.ow (pl acc),.sh (.int g)])=(if(!Mt.lets acc g)=true then some (.nx [s0,.ow (pl acc++[.int g]),.sh (.int g)])else some (.nx [s0,.ow (pl acc),.sh (.int g)])):=by
    unfold Sh.fE fQ lz tV xE
    have e0:(aa (dV 1) (aa (dV 2) ay)) [s0,.ow (pl acc),.sh (.int g)]=some [aA acc,.int g]:=rfl
    rw[e0]
    simp-implicitDefEqProofs only[Option.bind_some,h1,flat,if_true,E8,Option.map_some]
    split
    ·have:(oR 1 dB (aa (aR 2) ay)) [s0,.ow (pl acc),.sh (.int g)]=((if(pl acc).length<sizeLine then some (pl acc++[.int g])else none).map λl'=>Fl.nx [s0,.ow l',.sh (.int g)]):=rfl
     rw[this,if_pos h2]
     rfl
    ·rfl
   rw[h3]
   unfold Mt.kj
   cases Mt.lets acc g<;>simp[pl]
  obtain⟨t2,e⟩:=wG hL s0 ss (Mt.kj acc g) (.sh (.int g)) (by
   unfold Mt.kj
   split
   ·omega
   ·rw[List.length_append,List.length_singleton]
    omega)
  refine⟨t2,?_⟩
  rw[show pl (g::ss)=.int g::pl ss from rfl,pE]
  show((Sh.fE F_place aP [s0,.ow (pl acc),.sh (.int g)]).bind _)=_
  rw[b]
  exact e
theorem Gg{F_place aP:List PV->Option PV}(hL:∀(l:List Nat) (g:Nat),l.length<=sizeLine->aP [aA l,.int g]=some (.bl (Mt.lets l g))){l:List Nat}(BJ:∀g∈l,g<64)(hl:l.length<=5000):
  fn true 3 1 (Sh.sG F_place aP) [aA l]=some (aA (Mt.tF (Ef l))):=by
 obtain⟨t2,e⟩:=wG (F_place:=F_place) hL (.sh (aA l)) (Ef l) [] .un (by rw[(i5 l).length_eq];simpa using hl)
 have d:=AD (it:=nList (dV 0)) (ρ:=[.sh (aA l),.ow [],.un]) (l:=l) rfl BJ hl
 refine cP rfl ?_
 refine(ak (j8 (l:=[]) rfl)).trans ?_
 refine(ak ((g9 (i4 d)).trans e)).trans ?_
 rfl
theorem IZ{l:List Nat}(BJ:∀g∈l,g<64)(hl:l.length<=5000):Yo [aA l]=some (aA (Mt.tF (Ef l))):=Gg yj BJ hl
theorem I9{l:List Nat}(BJ:∀g∈l,g<64):Mt.Cl (Ef l) (Mt.tF (Ef l)):=Mt.HF (λg hg=>BJ g ((i5 l).mem_iff.mp hg)) (ui l)
theorem Ja{l:List Nat}{x:PV}(h:x∈pl l):∃n∈l,x=.int (n:Nat):=by
 obtain⟨n,hn,rfl⟩:=List.mem_map.mp h
 exact⟨n,hn,rfl⟩
theorem Eg(c:Nat)(h:c<=6):zQ (.int 1) (.int c)=some (.int ((2^c:Nat):Int)):=by
 have:=WW (k:=c) (n:=7) (by omega)
 unfold zQ
 dsimp only
 rw[if_pos this,yc]
theorem Eh(n:Nat):∀l m:List Nat,l.length=m.length->(nD (j5 n) (pl l) (pl m)).map (λes=>es.all id)=some (decide (l=m))
 |[],[],_=>rfl
 |a::l,b::m,h=>by
  have ih:=Eh n l m (by simpa using h)
  obtain⟨es,e1,e2⟩:=Option.map_eq_some_iff.mp ih
  have h1:j5 n (.int a) (.int b)=some (decide (a=b)):=by
   have:j5 n (.int a) (.int b)=some (((a:Int))==(b:Int)):=by cases n<;>rfl
   rw[this]
   congr 1
   by_cases h:a=b
   ·subst h;simp
   ·have:¬((a:Int)=(b:Int)):=by omega
    rw[decide_eq_false h]
    simp[this]
  show((nD (j5 n) (.int a::pl l) (.int b::pl m)).map _)=_
  unfold nD
  rw[h1,e1]
  show some ((decide (a=b)::es).all id)=_
  rw[List.all_cons,e2]
  congr 1
  by_cases h2:a=b<;>by_cases h3:l=m<;>simp[h2,h3]
 |[],_::_,h=>by simp at h
 |_::_,[],h=>by simp at h
theorem QA(n:Nat)(l m:List Nat):j5 (n+1) (aA l) (aA m)=some (decide (l=m)):=by
 show GV (j5 n) (pl l) (pl m)=_
 unfold GV
 rw[gI,gI]
 by_cases h:l.length=m.length
 ·rw[if_pos h]
  exact Eh n l m h
 ·rw[if_neg h]
  congr 1
  exact(decide_eq_false λz=>h (by rw[z])).symm
theorem QB(l m:List Nat):iG (aA l) (aA m)=some (.bl (decide (l=m))):=by
 show(j5 20 (aA l) (aA m)).map PV.bl=_
 rw[QA]
 rfl
theorem MK(l:List Nat):(pl l).all flat=true:=by
 rw[List.all_eq_true]
 intro x hx
 obtain⟨n,_,rfl⟩:=Ja hx
 rfl
theorem Jb(g:Nat):∀l:List Nat,k8 (.int g) (pl l)=decide (g∈l)
 |[]=>rfl
 |a::l=>by
  show(((a:Int)==(g:Int))||k8 (.int g) (pl l))=_
  rw[Jb g l]
  by_cases h:a=g
  ·subst h
   simp
  ·have h':¬((a:Int)=(g:Int)):=by omega
   have Mc:¬g=a:=λz=>h z.symm
   simp[h',Mc]
theorem Gh(g:Nat)(l:List Nat):jD (.int g) (aA l)=some (.bl (!decide (g∈l))):=by
 show(if(flat (.int g)&&(pl l).all flat)then some (PV.bl (!k8 (.int g) (pl l)))else none)=_
 rw[MK,Jb]
 rfl
theorem Gj(l:List Nat)(p:PV->Bool):(pl l).filter p=pl (l.filter λn=>p (.int (n:Nat))):=by
 unfold pl
 rw[List.filter_map]
 rfl
theorem iR{c:Nat}(h:c<=6):2^c<=64:=Nat.pow_le_pow_right (by decide) h
noncomputable abbrev m9(ns:List Int):PV:=.lst (ns.map PV.int)
end L2.D
namespace Mt
theorem Jc:∀(n:Nat) (l:List Nat),l.Nodup->(∀x∈l,x<n)->l.length<=n
 |0,[],_,_=>Nat.le_refl _
 |0,x::l,_,h=>absurd (h x (List.mem_cons_self ..)) (by omega)
 |n+1,l,hd,h=>by
  have:=Jc n (l.erase n) (hd.erase n) (λx hx=>by
   obtain⟨h1,h2⟩:=hd.mem_erase_iff.mp hx
   have:=h x h2
   omega)
  rw[List.length_erase]at this
  split at this<;>omega
theorem RO.nodup{l:List Nat}(h:RO l):l.Nodup:=h.ord.imp λ{a b} q z=>by
 subst z
 omega
theorem RO.len{l:List Nat}(h:RO l):l.length<=64:=Jc 64 l h.nodup h.small
theorem sub_le{a b:Nat}(h:sub a b=true):a<=b:=by
 rw[xD]at h
 rw[<-h]
 exact Nat.and_le_right
end Mt
namespace L2.D
open PySem
theorem sH(a b:Nat):iG (.int a) (.int b)=some (.bl (decide (a=b))):=by
 rw[MJ]
 congr 2
 rw[decide_eq_decide]
 omega
theorem dU(x:Int){n:Nat}(h:0<n):fW (.int x) (.int n)=some (.int (((x %(n:Int)).toNat:Nat):Int)):=by
 show(if decide (0<(n:Int))then some (PV.int (x %(n:Int)))else none)=_
 rw[if_pos (decide_eq_true (by omega))]
 have:=Int.emod_nonneg x (show(n:Int)≠0 by omega)
 congr 2
 omega
theorem mod_lt(x:Int){n:Nat}(h:0<n):(x %(n:Int)).toNat<n:=by
 have:=Int.emod_lt_of_pos x (show(0:Int)<n by omega)
 omega
theorem Cf(n:Nat):iq 0 n=pl (List.range n):=by
 unfold iq
 refine List.map_congr_left λk _=>?_
 rw[Int.zero_add]
theorem pJ{a:Den}{ρ:cH}{n:Nat}(h:a ρ=some (.int n))(hn:n<=100000):iB a ρ=some (pl (List.range n)):=by
 rw[IX h (WV hn),Int.toNat_natCast,Cf]
theorem wH{it:cC}{c:c9}{ρ:cH}{l:List Nat}{p:Nat->Bool}(h1:it ρ=some (pl l))(h2:l.length<=sizeLine)(h3:∀n∈l,c (.sh (.int (n:Nat))::ρ)=some (p n)):b9 it c (aR 0) ρ=some (aA (l.filter p)):=by
 have cp:=qG (c:=c) (e:=aR 0) (ρ:=ρ) (f:=id) (p:=λx=>match x with|.int r=>p r.toNat|_=>false) (pl l) (by
  intro x hx
  obtain⟨n,hn,rfl⟩:=Ja hx
  exact h3 n hn) (λx hx _=>rfl)
 refine(j7 h1 (by rw[gI];exact h2) cp).trans ?_
 rw[Gj,List.map_id]
 rfl
theorem AE{t:c9}{body:aT}{n:Nat}{ρ:cH}(h:t ρ=some false):fZ t body (n+1) ρ=some (.nx ρ):=by
 unfold fZ
 rw[h]
 rfl
theorem Jd{t:c9}{body:aT}{n:Nat}{ρ ρ':cH}(h:t ρ=some true)(hb:body ρ=some (.nx ρ')):fZ t body (n+1) ρ=fZ t body n ρ':=by
 conv=>lhs;unfold fZ
 rw[h]
 show(body ρ).bind _=_
 rw[hb]
 rfl
structure i6(c:Nat)(l:List Nat):Prop where
 zO:Mt.RO l
 lt:∀g∈l,g<2^c
theorem i6.len{c:Nat}{l:List Nat}(h:i6 c l):l.length<=64:=h.zO.len
theorem Cg{c:Nat}(c6:c<=6){l:List Nat}(h:∀g∈l,g<2^c):i6 c (Mt.tF (Ef l))/\∀g,Mt.lets (Mt.tF (Ef l)) g=Mt.lets l g:=by
 have BJ:∀g∈l,g<64:=λg hg=>Nat.lt_of_lt_of_le (h g hg) (iR c6)
 have cl:=I9 BJ
 refine⟨⟨cl.zO,λg hg=>h g ((i5 l).mem_iff.mp (cl.mem g hg))⟩,λg=>?_⟩
 rw[cl.lets g]
 unfold Mt.lets
 rw[Bool.eq_iff_iff,List.any_eq_true,List.any_eq_true]
 exact⟨λ⟨r,h1,h2⟩=>⟨r,(i5 l).mem_iff.mp h1,h2⟩,λ⟨r,h1,h2⟩=>⟨r,(i5 l).mem_iff.mpr h1,h2⟩⟩
theorem i6.eq{c:Nat}{l m:List Nat}(hl:i6 c l)(hm:i6 c m)(h:∀g,g<2^c->Mt.lets l g=Mt.lets m g):l=m:=by
 have key:∀{l m:List Nat},i6 c l->i6 c m->(∀g,g<2^c->Mt.lets l g=Mt.lets m g)->∀x,x∈l->x∈m:=by
  intro l m hl hm h x hx
  have h1:=Mt.qw hx
  rw[h x (hl.lt x hx)]at h1
  obtain⟨r,h2,h3⟩:=Mt.d0.mp h1
  have h4:=Mt.qw h2
  rw[<-h r (hm.lt r h2)]at h4
  obtain⟨q,h5,h6⟩:=Mt.d0.mp h4
  have e:=hl.zO.anti q h5 x hx (Mt.mK h6 h3)
  subst e
  have:=Mt.HD h6 h3
  subst this
  exact h2
 exact Mt.v7 hl.zO.ord hm.zO.ord λx=>⟨key hl hm h x,key hm hl (λg hg=>(h g hg).symm) x⟩
theorem aB{a:Den}{as:cC}{ρ:cH}{x:PV}{xs:List PV}(h1:a ρ=some x)(h2:as ρ=some xs):aa a as ρ=some (x::xs):=by
 unfold aa
 rw[h1,h2]
 rfl
theorem ku{as:cC}{ρ:cH}{xs:List PV}(h:as ρ=some xs)(hl:xs.length<=5000):lI as ρ=some (.lst xs):=by
 have zl:(5000:Nat)<=sizeLine:=by decide
 unfold lI
 rw[h]
 show(if xs.length<=sizeLine then some (PV.lst xs)else none)=_
 rw[if_pos (by omega)]
noncomputable def mV(c:Nat):List Nat:=Ef (List.range (2^c))
theorem lQ{c g:Nat}:g∈mV c↔g<2^c:=by
 unfold mV
 rw[(i5 _).mem_iff,List.mem_range]
theorem AF(c:Nat):(mV c).Pairwise λa b=>Mt.rank a<=Mt.rank b:=ui _
theorem Je(c:Nat):(mV c).length=2^c:=by
 unfold mV
 rw[(i5 _).length_eq,List.length_range]
noncomputable abbrev WZ:=fn true 1 1 (Sh.jz Ve)
theorem Ci{F:List PV->Option PV}{c:Nat}(c6:c<=6):fn true 1 1 (Sh.jz F) [.int c]=some (aA (mV c)):=by
 have W0:=iR c6
 refine nM rfl ?_
 refine AD (pJ (n:=2^c) ((ai (x:=.int 1) (y:=.int c) rfl rfl).trans (Eg c c6)) (by omega)) (λg hg=>?_) (by rw[List.length_range];omega)
 have:=List.mem_range.mp hg
 omega
theorem wI{c:Nat}(c6:c<=6):WZ [.int c]=some (aA (mV c)):=Ci c6
noncomputable def NY(c:Nat)(l m:List Nat):Option Nat:=(mV c).find? λg=>!decide (Mt.lets l g=Mt.lets m g)
noncomputable def NZ(c:Nat)(l m:List Nat):PV:=match NY c l m with
 |some g=>.int (g:Nat)
 |none=>.non
section
variable{aF aP:List PV->Option PV}(hG:∀{c:Nat},c<=6->aF [.int c]=some (aA (mV c)))(R6:∀(l:List Nat) (g:Nat),l.length<=sizeLine->aP [aA l,.int g]=some (.bl (Mt.lets l g)))
include hG R6
theorem uj(s0:Slot){l m:List Nat}(n1:l.length<=64)(n2:m.length<=64):∀(ss:List Nat) (s3:Slot),(∃t,forL (bh 3) (Sh.dD aF aP) (pl ss) [s0,.sh (aA l),.sh (aA m),s3]=some (.nx [s0,.sh (aA l),.sh (aA m),t])/\ss.find? (λg=>!decide (Mt.lets l g=Mt.lets m g))=none)\/(∃g,forL (bh 3) (Sh.dD aF aP) (pl ss) [s0,.sh (aA l),.sh (aA m),s3]=some (.rt (.int (g:Nat)))/\ss.find? (λg=>!decide (Mt.lets l g=Mt.lets m g))=some g)
 |[],s3=>.inl ⟨s3,rfl,rfl⟩
 |g::ss,s3=>by
  have zl:(5000:Nat)<=sizeLine:=by decide
  have t1:tV (ag gz (aH aP (aa (aR 1) (aa (aR 3) ay))) (aH aP (aa (aR 2) (aa (aR 3) ay)))) [s0,.sh (aA l),.sh (aA m),.sh (.int g)]=some (!decide (Mt.lets l g=Mt.lets m g)):=
   bF ((ai ((a9 (ps:=[aA l,.int g]) rfl).trans (R6 l g (by omega))) ((a9 (ps:=[aA m,.int g]) rfl).trans (R6 m g (by omega)))).trans (qH _ _))
  rw[show pl (g::ss)=.int g::pl ss from rfl,pE]
  show(∃t,((Sh.dD aF aP [s0,.sh (aA l),.sh (aA m),.sh (.int g)]).bind _)=_/\_)\/(∃g',((Sh.dD aF aP [s0,.sh (aA l),.sh (aA m),.sh (.int g)]).bind _)=_/\_)
  by_cases hs:Mt.lets l g=Mt.lets m g
  ·rw[decide_eq_true hs]at t1
   have e:Sh.dD aF aP [s0,.sh (aA l),.sh (aA m),.sh (.int g)]=some (.nx [s0,.sh (aA l),.sh (aA m),.sh (.int g)]):=(cc t1).trans rfl
   rw[e,List.find?_cons_of_neg (by simp[hs])]
   exact uj s0 n1 n2 ss (.sh (.int g))
  ·rw[decide_eq_false hs]at t1
   have e:Sh.dD aF aP [s0,.sh (aA l),.sh (aA m),.sh (.int g)]=some (.rt (.int (g:Nat))):=(d7 t1).trans rfl
   rw[e,List.find?_cons_of_pos (by simp[hs])]
   exact .inr ⟨g,rfl,rfl⟩
theorem Cj{c:Nat}(c6:c<=6){l m:List Nat}(n1:l.length<=64)(n2:m.length<=64):fn false 4 3 (Sh.pH aF aP) [.int c,aA l,aA m]=some (NZ c l m):=by
 refine cP rfl ?_
 have eg:nList (aH aF (aa (aR 0) ay)) [.sh (.int c),.sh (aA l),.sh (aA m),.un]=some (pl (mV c)):=i4 ((a9 (ps:=[.int c]) rfl).trans (hG c6))
 rcases uj hG R6 (.sh (.int c)) n1 n2 (mV c) .un with⟨t,e,h⟩|⟨g,e,h⟩
 ·refine(ak ((g9 eg).trans e)).trans ?_
  unfold NZ NY
  rw[h]
  rfl
 ·refine(dE ((g9 eg).trans e)).trans ?_
  unfold NZ NY
  rw[h]
end
noncomputable abbrev Z9:=fn false 4 3 (Sh.pH WZ Flt)
theorem Gk{c:Nat}(c6:c<=6){l m:List Nat}(n1:l.length<=64)(n2:m.length<=64):Z9 [.int c,aA l,aA m]=some (NZ c l m):=Cj wI yj c6 n1 n2
theorem uk{α:Type}{c:c9}{ρ:cH}(v:α->PV)(p:α->Bool):∀xs:List α,(∀x∈xs,c (.sh (v x)::ρ)=some (p x))->fX c (aR 0) ρ (xs.map v)=some ((xs.filter p).map v)
 |[],_=>rfl
 |x::xs,h=>by
  have ih:=uk v p xs λy hy=>h y (List.mem_cons_of_mem _ hy)
  rw[List.map_cons]
  unfold fX
  rw[h x (List.mem_cons_self ..),ih]
  by_cases hp:p x=true
  ·rw[List.filter_cons_of_pos hp,hp]
   rfl
  ·rw[List.filter_cons_of_neg hp]
   have PM:p x=false:=by simpa using hp
   rw[PM]
   rfl
noncomputable def cnt(ls:List (List Nat))(g:Nat):Nat:=ls.countP λl=>Mt.lets l g
theorem Gm{l:List Nat}{x g:Nat}(s:Mt.sub x g=true)(h:Mt.lets l x=true):Mt.lets l g=true:=by
 obtain⟨r,h1,h2⟩:=Mt.d0.mp h
 exact Mt.d0.mpr ⟨r,h1,Mt.mK h2 s⟩
theorem Jf(ls:List (List Nat)){x g:Nat}(s:Mt.sub x g=true):cnt ls x<=cnt ls g:=List.countP_mono_left λl _ h=>Gm s h
theorem AG{aP:List PV->Option PV}(R6:∀(l:List Nat) (g:Nat),l.length<=sizeLine->aP [aA l,.int g]=some (.bl (Mt.lets l g)))(ls:List (List Nat))(g:Nat)(hl:ls.length<=5000)(hs:∀l∈ls,l.length<=64):fn false 2 2 (Sh.mP aP) [.lst (ls.map aA),.int g]=some (.int (cnt ls g:Nat)):=by
 have zl:(5000:Nat)<=sizeLine:=by decide
 refine nM rfl ?_
 have cp:=uk (c:=tV (aH aP (aa (aR 0) (aa (aR 2) ay)))) (ρ:=[.sh (.lst (ls.map aA)),.sh (.int g)]) aA (λl=>Mt.lets l g) ls (λl hm=>bF ((a9 (ps:=[aA l,.int g]) rfl).trans (R6 l g (by have:=hs l hm;omega))))
 refine(bW (j7 (it:=nList (dV 0)) (xs:=ls.map aA) rfl (by rw[List.length_map];omega) cp)).trans ?_
 show some (PV.int (((ls.filter λl=>Mt.lets l g).map aA).length:Nat))=_
 rw[List.length_map,<-List.countP_eq_length_filter]
 rfl
section
variable{g0 aF dk:List PV->Option PV}(hL:∀{l:List Nat},(∀g∈l,g<64)->l.length<=5000->g0 [aA l]=some (aA (Mt.tF (Ef l))))
 (hG:∀{c:Nat},c<=6->aF [.int c]=some (aA (mV c)))(hT:∀(ls:List (List Nat)) (g:Nat),ls.length<=5000->(∀l∈ls,l.length<=64)->dk [.lst (ls.map aA),.int g]=some (.int (cnt ls g:Nat)))
include hL hG hT
theorem Jg(many:Int){ls:List (List Nat)}(hl:ls.length<=5000)(hs:∀l∈ls,l.length<=64):∃r,i6 6 r/\(∀g,g<64->Mt.lets r g=decide (many<=(cnt ls g:Int)))/\fn true 2 2 (Sh.yf g0 aF dk) [.int many,.lst (ls.map aA)]=some (aA r):=by
 have zl:(5000:Nat)<=sizeLine:=by decide
 have gl:=Je 6
 have p6:2^6=64:=rfl
 have jW:∀g∈(mV 6).filter (λg=>decide (many<=(cnt ls g:Int))),g<2^6:=λg hg=>lQ.mp (List.mem_filter.mp hg).1
 obtain⟨q1,q2⟩:=Cg (Nat.le_refl 6) jW
 refine⟨_,q1,λg hg=>?_,nM rfl ?_⟩
 ·rw[q2,Bool.eq_iff_iff,Mt.d0]
  constructor
  ·rintro⟨x,hx,s⟩
   have h1:=(List.mem_filter.mp hx).2
   rw[decide_eq_true_eq]at h1⊢
   have:=Jf ls s
   omega
  ·intro h
   exact⟨g,List.mem_filter.mpr ⟨lQ.mpr (by omega),h⟩,Mt.oP g⟩
 ·have dc:b9 (nList (aH aF (aa (dC (.int 6)) ay))) (tV (ag Tc (aH dk (aa (aR 2) (aa (aR 0) ay))) (dV 1))) (aR 0) [.sh (.int many),.sh (.lst (ls.map aA))]=some (aA ((mV 6).filter λg=>decide (many<=(cnt ls g:Int)))):=
    wH (i4 ((a9 (ps:=[.int (6:Nat)]) rfl).trans (hG (Nat.le_refl 6)))) (by omega) λg hg=>bF ((ai (y:=.int many) ((a9 (ps:=[.lst (ls.map aA),.int g]) rfl).trans (hT ls g hl hs)) rfl).trans rfl)
  refine(a9 (aB dc rfl)).trans (hL (λg hg=>by have:=jW g hg;omega) ?_)
  have:=List.length_filter_le (λg=>decide (many<=(cnt ls g:Int))) (mV 6)
  omega
end
theorem Jh:Mt.zM (λr g=>(List.range 7).all λc=>!(decide (r<2^c))||(Mt.sub r (g % 2^c)==Mt.sub r g))=true:=by decide+kernel
theorem Ji{c r g:Nat}(c6:c<=6)(hr:r<2^c)(hg:g<64):Mt.sub r (g % 2^c)=Mt.sub r g:=by
 have W0:=iR c6
 have:=Mt.oO Jh (a:=r) (b:=g) (by omega) hg
 have:=List.all_eq_true.mp this c (List.mem_range.mpr (by omega))
 rw[decide_eq_true hr]at this
 simpa using this
theorem MM:Mt.zM (λg c=>!(decide (c<=6))||Mt.sub (g % 2^c) g)=true:=by decide+kernel
theorem MN{c g:Nat}(c6:c<=6)(hg:g<64):Mt.sub (g % 2^c) g=true:=by
 have:=Mt.oO MM (a:=g) (b:=c) hg (by omega)
 rw[decide_eq_true c6]at this
 simpa using this
theorem Gn{c:Nat}(c6:c<=6){l:List Nat}(h:i6 c l){g:Nat}(hg:g<64):Mt.lets l (g % 2^c)=Mt.lets l g:=by
 have key:∀m:List Nat,(∀r∈m,r<2^c)->(m.any λr=>Mt.sub r (g % 2^c))=m.any λr=>Mt.sub r g:=by
  intro m
  induction m with
  |nil=>exact λ_=>rfl
  |cons r m ih=>
   intro hm
   rw[List.any_cons,List.any_cons,ih λx hx=>hm x (List.mem_cons_of_mem _ hx),Ji c6 (hm r (List.mem_cons_self ..)) hg]
 exact key l h.lt
theorem i6.down{c:Nat}(c6:c<=6){l:List Nat}(h:i6 6 l)(hm:∀g,g<64->Mt.lets l (g % 2^c)=Mt.lets l g):i6 c l:=by
 refine⟨h.zO,λx hx=>?_⟩
 have BJ:x<64:=h.lt x hx
 have h1:=Mt.qw hx
 rw[<-hm x BJ]at h1
 obtain⟨q,h2,h3⟩:=Mt.d0.mp h1
 have e:=h.zO.anti q h2 x hx (Mt.mK h3 (MN c6 BJ))
 subst e
 have:=Mt.sub_le h3
 have:=Nat.mod_lt q (Nat.two_pow_pos c)
 omega
theorem Jj{c:Nat}(c6:c<=6){ls:List (List Nat)}(h:∀l∈ls,i6 c l){g:Nat}(hg:g<64):cnt ls (g % 2^c)=cnt ls g:=by
 unfold cnt
 refine List.countP_congr λl hl=>?_
 rw[Gn c6 (h l hl) hg]
noncomputable abbrev Flg:=fn false 2 2 (Sh.mP Flt)
noncomputable abbrev Fso:=fn true 2 2 (Sh.yf Yo WZ Flg)
theorem MO{c:Nat}(c6:c<=6)(many:Int){ls:List (List Nat)}(hl:ls.length<=5000)(hs:∀l∈ls,i6 c l):∃r,i6 c r/\(∀g,g<2^c->Mt.lets r g=decide (many<=(cnt ls g:Int)))/\Fso [.int many,.lst (ls.map aA)]=some (aA r):=by
 have W0:=iR c6
 obtain⟨r,r1,r2,r3⟩:=Jg IZ wI (AG yj) many hl λl h=>(hs l h).len
 refine⟨r,r1.down c6 λg hg=>?_,λg hg=>r2 g (by omega),r3⟩
 have:=Nat.mod_lt g (Nat.two_pow_pos c)
 rw[r2 g hg,r2 _ (by omega),Jj c6 hs hg]
theorem cy(a b:Str):(a++b).length=a.length+b.length:=by
 show(a.cps++b.cps).size=_
 rw[Array.size_append]
 rfl
theorem qI(a b c:Str):(a++b)++c=a++(b++c):=by
 show Str.mk ((a.cps++b.cps)++c.cps)=Str.mk (a.cps++(b.cps++c.cps))
 rw[Array.append_assoc]
theorem N1{α β:Type}(f:α->Option β):∀l:List α,(l.filterMap f).length<=l.length
 |[]=>Nat.le_refl _
 |x::l=>by
  have:=N1 f l
  rw[List.filterMap_cons]
  split
  ·rw[List.length_cons];omega
  ·rw[List.length_cons,List.length_cons];omega
theorem yk(x:Str)(lo hi:Option Int){st:Int}(h0:st≠0):(bZ x lo hi st).length<=x.length:=by
 unfold bZ
 split
 ·exact Nat.le_refl _
 ·show((Builtin.Str.strSliceIndices lo hi st x.length).filterMap (x.cps[·]?)).toArray.size<=_
  rw[List.size_toArray]
  have h1:=N1 (x.cps[·]?) (Builtin.Str.strSliceIndices lo hi st x.length)
  have h2:=sliceIndicesBy_le lo hi st h0 x.length
  omega
theorem Jk{α β:Type}(f:α->Option β):∀l:List α,(∀x∈l,(f x).isSome=true)->(l.filterMap f).length=l.length
 |[],_=>rfl
 |x::l,h=>by
  have ih:=Jk f l λy hy=>h y (List.mem_cons_of_mem _ hy)
  obtain⟨z,hz⟩:=Option.isSome_iff_exists.mp (h x (List.mem_cons_self ..))
  rw[List.filterMap_cons,hz,List.length_cons,List.length_cons,ih]
theorem um(x:Str)(n:Nat)(h:n<=x.length):(bZ x none (some (n:Int)) 1).length=n:=by
 have e:Builtin.Str.strSliceIndices none (some (n:Int)) 1 x.length=(List.range n).map (0+·):=by
  have:=PySem.sliceRange_one 0 n
  rw[Nat.sub_zero]at this
  rw[<-this]
  unfold Builtin.Str.strSliceIndices
  simp only
  congr 1
  rw[if_pos (by decide),if_neg (by omega)]
  omega
 unfold bZ
 rw[e]
 split
 ·rename_i hh
  rw[Bool.and_eq_true,beq_iff_eq,beq_iff_eq,List.length_map,List.length_range]at hh
  omega
 ·show(((List.range n).map (0+·)).filterMap (x.cps[·]?)).toArray.size=n
  rw[List.size_toArray,Jk,List.length_map,List.length_range]
  intro i hi
  obtain⟨k,hk,rfl⟩:=List.mem_map.mp hi
  have:=List.mem_range.mp hk
  have hl:0+k<x.cps.size:=by
   have:x.cps.size=x.length:=rfl
   omega
  have RE:k<x.cps.size:=by omega
  simp[RE]
noncomputable def mW:Str:= "abcdefghijklmnopqrstuvwxyz"
theorem Jl:mW.length=26:=by decide+kernel
theorem QC{x:Str}{i:Nat}(h:i<x.length)(hx:x.length<=5000):∃y:Str,y.length=1/\jq (.str x) (.int i)=some (.str y):=by
 have zl:(5000:Nat)<=sizeLine:=by decide
 have hl:i<x.cps.toList.length:=by
  rw[Array.length_toList]
  exact h
 have:itemAt x.cps.toList (i:Int)=some (x.cps.toList[i]'hl):=by
  unfold itemAt RT
  rw[if_pos (by omega),if_pos (by omega)]
  show x.cps.toList[(i:Int).toNat]?=_
  rw[Int.toNat_natCast,List.getElem?_eq_getElem hl]
 refine⟨⟨#[x.cps.toList[i]'hl]⟩,rfl,?_⟩
 show(if x.length<=sizeLine then(itemAt x.cps.toList (i:Int)).map (λc=>PV.str ⟨#[c]⟩)else none)=_
 rw[if_pos (by omega),this]
 rfl
theorem dq(a b:Str)(h:a.length+b.length<=100000):dA (.str a) (.str b)=some (.str (a++b)):=by
 have zl:(100000:Nat)<=sizeLine:=by decide
 show(if a.length+b.length<=sizeLine then some (PV.str (a++b))else none)=_
 rw[if_pos (by omega)]
theorem i7{A:Den}{lo hi:xH}{ρ:cH}{y:Str}{l h:Option Int}(hA:A ρ=some (.str y))(hl:lo ρ=some l)(hh:hi ρ=some h)(hy:y.length<=100000):kl A lo hi ρ=some (.str (bZ y l h 1)):=by
 have zl:(100000:Nat)<=sizeLine:=by decide
 unfold kl
 rw[hA,hl,hh]
 show(if y.length<=sizeLine then some (PV.str (bZ y l h 1))else none)=_
 rw[if_pos (by omega)]
theorem qJ{a b:Int}(h1:-100000000000<=a)(h2:a<=100000000000):BK (.int a) (.int b)=some (.int (a*b)):=by
 have:zP a b=true:=by
  unfold zP
  rw[Bool.or_eq_true,Bool.and_eq_true]
  exact .inl ⟨decide_eq_true (by omega),decide_eq_true (by omega)⟩
 show(if zP a b then some (PV.int (a*b))else none)=_
 rw[if_pos this]
theorem AH(a:Int){n:Int}(h:0<n):fW (.int a) (.int n)=some (.int (a % n)):=by
 show(if decide (0<n)then some (PV.int (a % n))else none)=_
 rw[if_pos (decide_eq_true h)]
theorem pK(a:Int){n:Int}(h:0<n)(h2:n<1073741824):oQ (.int a) (.int n)=some (.int (a/n)):=by
 show(if decide (0<n)&&decide (n<1073741824)then some (PV.int (a/n))else none)=_
 rw[decide_eq_true h,decide_eq_true h2]
 rfl
structure It where
 o:PV
 s:PV
 t:Str
 d:Nat
noncomputable def wt(l:List It):Nat:=(l.map λi=>i.t.length+2).sum
theorem uo(l m:List It):wt (l++m)=wt l+wt m:=by
 unfold wt
 rw[List.map_append,List.sum_append]
theorem jL(i:It):wt [i]=i.t.length+2:=by
 unfold wt
 simp
theorem mQ(i:It)(l:List It):wt (i::l)=i.t.length+2+wt l:=by
 unfold wt
 rw[List.map_cons,List.sum_cons]
theorem AI{α:Type}{e:Den}{ρ:cH}(v f:α->PV):∀(xs:List α),(∀x∈xs,e (.sh (v x)::ρ)=some (f x))->fX d5 e ρ (xs.map v)=some (xs.map f)
 |[],_=>rfl
 |x::xs,h=>by
  have ih:=AI v f xs λy hy=>h y (List.mem_cons_of_mem _ hy)
  show((some true).bind λb=>if b then(e (.sh (v x)::ρ)).bind λz=>(fX d5 e ρ (xs.map v)).map (z::·)else fX d5 e ρ (xs.map v))=_
  rw[h x (List.mem_cons_self ..),ih]
  rfl
theorem uq{α:Type}{it:cC}{e:Den}{ρ:cH}(v f:α->PV){xs:List α}(h1:it ρ=some (xs.map v))(h2:xs.length<=5000)(h3:∀x∈xs,e (.sh (v x)::ρ)=some (f x)):b9 it d5 e ρ=some (.lst (xs.map f)):=by
 have zl:(5000:Nat)<=sizeLine:=by decide
 exact j7 h1 (by rw[List.length_map];omega) (AI v f xs h3)
theorem mR:∀ts:List Str,mZ (ts.map PV.str)=some ts
 |[]=>rfl
 |t::ts=>by
  show(mZ (ts.map PV.str)).map (t::·)=_
  rw[mR ts]
  rfl
theorem joinOk_of(sep:Str)(ts:List Str)(h:(ts.map λt=>t.length+sep.length).sum<=100000):JoinOk sep ts=true:=by
 have zl:(100000:Nat)<=sizeLine:=by decide
 have key:∀(ts:List Str) (a:Nat),ts.foldl (λacc t=>acc+t.length+sep.length) a=a+(ts.map λt=>t.length+sep.length).sum:=by
  intro ts
  induction ts with
  |nil=>intro a;rfl
  |cons t ts ih=>
   intro a
   rw[List.foldl_cons,ih,List.map_cons,List.sum_cons]
   omega
 unfold JoinOk Builtin.Str.tooLong
 rw[List.foldl_toArray',key]
 ·simp
  omega
 ·rfl
theorem join_le(sep:Str):∀ts:List Str,(Txt.join sep ts).length<=(ts.map λt=>t.length+sep.length).sum
 |[]=>Nat.zero_le _
 |t::ts=>by
  have key:∀(ts:List Str) (a:Array Nat),(ts.foldl (λacc (p:Str)=>acc++sep.cps++p.cps) a).size=a.size+(ts.map λt=>t.length+sep.length).sum:=by
   intro ts
   induction ts with
   |nil=>intro a;rfl
   |cons t ts ih=>
    intro a
    rw[List.foldl_cons,ih,List.map_cons,List.sum_cons,Array.size_append,Array.size_append]
    have:t.cps.size=t.length:=rfl
    have:sep.cps.size=sep.length:=rfl
    omega
  show(ts.foldl (λacc (p:Str)=>acc++sep.cps++p.cps) t.cps).size<=_
  rw[key,List.map_cons,List.sum_cons]
  have:t.cps.size=t.length:=rfl
  omega
theorem Gq(sep:Str)(ts:List Str)(h:(ts.map λt=>t.length+sep.length).sum<=100000):DK (.str sep) (.lst (ts.map PV.str))=some (.str (Txt.join sep ts)):=by
 show(mZ (ts.map PV.str)).bind _=_
 rw[mR]
 show(if JoinOk sep ts then some (PV.str (Txt.join sep ts))else none)=_
 rw[if_pos (joinOk_of sep ts h)]
theorem fold_max:∀(ds:List Nat) (a:Nat),∃M:Nat,(ds.map λ(n:Nat)=>(n:Int)).foldl (λa b=>if b>a then b else a) (a:Int)=(M:Int)/\a<=M/\(∀x∈ds,x<=M)/\(M=a\/M∈ds)
 |[],a=>⟨a,rfl,Nat.le_refl _,by simp,.inl rfl⟩
 |d::ds,a=>by
  rw[List.map_cons,List.foldl_cons]
  by_cases h:d>a
  ·have e:(if(d:Int)>(a:Int)then(d:Int)else(a:Int))=(d:Int):=if_pos (by omega)
   rw[e]
   obtain⟨M,h1,h2,h3,h4⟩:=fold_max ds d
   refine⟨M,h1,by omega,λx hx=>?_,?_⟩
   ·rcases List.mem_cons.mp hx with rfl|hx
    ·exact h2
    ·exact h3 x hx
   ·rcases h4 with rfl|h4
    ·exact .inr (List.mem_cons_self ..)
    ·exact .inr (List.mem_cons_of_mem _ h4)
  ·have e:(if(d:Int)>(a:Int)then(d:Int)else(a:Int))=(a:Int):=if_neg (by omega)
   rw[e]
   obtain⟨M,h1,h2,h3,h4⟩:=fold_max ds a
   refine⟨M,h1,h2,λx hx=>?_,?_⟩
   ·rcases List.mem_cons.mp hx with rfl|hx
    ·omega
    ·exact h3 x hx
   ·rcases h4 with rfl|h4
    ·exact .inl rfl
    ·exact .inr (List.mem_cons_of_mem _ h4)
theorem Jm(ds:List Nat)(h:ds≠[]):∃M:Nat,zR (aA ds)=some (.int (M:Nat))/\(∀x∈ds,x<=M)/\M∈ds:=by
 cases ds with
 |nil=>exact absurd rfl h
 |cons d ds=>
  obtain⟨M,h1,h2,h3,h4⟩:=fold_max ds d
  refine⟨M,?_,λx hx=>?_,?_⟩
  ·show(iC (pl (d::ds))).bind _=_
   rw[AB]
   show(some ((ds.map λ(n:Nat)=>(n:Int)).foldl (λa b=>if b>a then b else a) (d:Int))).map PV.int=_
   rw[h1]
   rfl
  ·rcases List.mem_cons.mp hx with rfl|hx
   ·exact h2
   ·exact h3 x hx
  ·rcases h4 with rfl|h4
   ·exact List.mem_cons_self ..
   ·exact List.mem_cons_of_mem _ h4
theorem AJ{α:Type}(l:List α)(j:Nat)(h:j<=l.length):nE l none (some (j:Int))=l.take j:=by
 unfold nE xG
 simp only
 rw[if_neg (by omega),List.drop_zero,Nat.sub_zero,Int.toNat_natCast,Nat.min_eq_left h]
theorem ur{A:Den}{lo hi:xH}{ρ:cH}{l:List PV}{a b:Option Int}(hA:A ρ=some (.lst l))(hl:lo ρ=some a)(hh:hi ρ=some b):v9 A lo hi ρ=some (.lst (nE l a b)):=by
 unfold v9
 rw[hA,hl,hh]
 rfl
theorem eK{as:cC}{ρ:cH}{xs:List PV}(h:as ρ=some xs)(hl:xs.length<=5000):fV as ρ=some (.tup xs):=by
 have zl:(5000:Nat)<=sizeLine:=by decide
 unfold fV
 rw[h]
 show(if xs.length<=sizeLine then some (PV.tup xs)else none)=_
 rw[if_pos (by omega)]
noncomputable def As(x:Str):Prop:=∀c∈x.cps.toList,c<128
theorem Ck{x:Str}(h:As x):x.cps.all (·<128)=true:=by
 rw[<-Array.all_toList,List.all_eq_true]
 exact λc hc=>decide_eq_true (h c hc)
theorem qK{a b:Str}(ha:As a)(hb:As b):As (a++b):=λc hc=>by
 have e:(a++b).cps.toList=a.cps.toList++b.cps.toList:=Array.toList_append
 rw[e]at hc
 rcases List.mem_append.mp hc with h|h
 ·exact ha c h
 ·exact hb c h
theorem QD{x:Str}(h:As x)(lo hi:Option Int)(st:Int):As (bZ x lo hi st):=by
 unfold bZ
 split
 ·exact h
 ·intro c hc
  have hc:c∈(Builtin.Str.strSliceIndices lo hi st x.length).filterMap (x.cps[·]?):=hc
  obtain⟨i,_,e⟩:=List.mem_filterMap.mp hc
  exact h c (by rw[Array.mem_toList_iff];exact Array.mem_of_getElem? e)
noncomputable def asB(x:Str):Bool:=x.cps.toList.all λc=>decide (c<128)
theorem AK{x:Str}(h:asB x=true):As x:=λc hc=>of_decide_eq_true (List.all_eq_true.mp h c hc)
noncomputable def sg(c:Nat):Bool:=Fe "a" ⟨#[c]⟩&&Fe ⟨#[c]⟩ "z"
noncomputable def kept:List PV:=[.str "all",.str "any",.str "of"]
noncomputable def Ei(x:Str):Bool:=decide (1<=x.length)&&decide (x.length<=20)
noncomputable def nm(x:Str):Bool:=!k8 (.str x) kept&&Ei x&&x.cps.toList.all sg
noncomputable def Lw(x:Str):Prop:=∀c∈x.cps.toList,97<=c/\c<=122
theorem Lw.as{x:Str}(h:Lw x):As x:=λc hc=>by have:=h c hc;omega
theorem ym{a b:Str}(ha:Lw a)(hb:Lw b):Lw (a++b):=λc hc=>by
 have e:(a++b).cps.toList=a.cps.toList++b.cps.toList:=Array.toList_append
 rw[e]at hc
 rcases List.mem_append.mp hc with h|h
 ·exact ha c h
 ·exact hb c h
theorem yn{x:Str}(h:Lw x)(lo hi:Option Int)(st:Int):Lw (bZ x lo hi st):=by
 unfold bZ
 split
 ·exact h
 ·intro c hc
  have hc:c∈(Builtin.Str.strSliceIndices lo hi st x.length).filterMap (x.cps[·]?):=hc
  obtain⟨i,_,e⟩:=List.mem_filterMap.mp hc
  exact h c (by rw[Array.mem_toList_iff];exact Array.mem_of_getElem? e)
noncomputable def W2(x:Str):Bool:=x.cps.toList.all λc=>decide (97<=c)&&decide (c<=122)
theorem Jo{x:Str}(h:W2 x=true):Lw x:=λc hc=>by
 have:=List.all_eq_true.mp h c hc
 simpa using this
noncomputable def kx(i:Nat):Str:=⟨#[97+i]⟩
theorem Ej{i:Nat}(h:i<26):Lw (kx i):=λc hc=>by
 have:c=97+i:=by simpa[kx]using hc
 omega
theorem Jp:((List.range 26).all λi=>itemAt mW.cps.toList (i:Int)==some (97+i))=true:=by decide+kernel
theorem wJ{i:Nat}(h:i<26):jq (.str mW) (.int i)=some (.str (kx i)):=by
 have zl:(5000:Nat)<=sizeLine:=by decide
 have hc:=beq_iff_eq.mp (List.all_eq_true.mp Jp i (List.mem_range.mpr h))
 show(if mW.length<=sizeLine then(itemAt mW.cps.toList (i:Int)).map (λc=>PV.str ⟨#[c]⟩)else none)=_
 rw[if_pos (by rw[Jl];omega),hc]
 rfl
noncomputable def Cm:List Nat->List Nat->Nat
 |x::l,y::m=>(if x=y then 0 else 1)+Cm l m
 |_,_=>0
theorem uw:∀l:List Nat,Cm l l=0
 |[]=>rfl
 |x::l=>by
  show(if x=x then 0 else 1)+Cm l l=0
  rw[if_pos rfl,uw l]
theorem Ek(a b:List Nat):∀l:List Nat,Cm (l++a) (l++b)=Cm a b
 |[]=>rfl
 |x::l=>by
  show(if x=x then 0 else 1)+Cm (l++a) (l++b)=_
  rw[if_pos rfl,Ek a b l,Nat.zero_add]
theorem MP(A C:Str){i j:Nat}(h:i≠j):Cm ((A++kx i)++C).cps.toList ((A++kx j)++C).cps.toList=1:=by
 have e:∀k,((A++kx k)++C).cps.toList=A.cps.toList++((97+k)::C.cps.toList):=λk=>by
  show((A.cps++#[97+k])++C.cps).toList=_
  simp
 rw[e,e,Ek]
 show(if 97+i=97+j then 0 else 1)+Cm C.cps.toList C.cps.toList=1
 rw[if_neg (by omega),uw]
noncomputable def fin(y:Str):Str:=if k8 (.str y) kept=true then bZ y none none (-1)else y
noncomputable def R7:List Str:=["all","any","of"]
theorem QF:(R7.all λx=>W2 (bZ x none none (-1))&&decide ((bZ x none none (-1)).length=x.length)&&!decide (Cm x.cps.toList (bZ x none none (-1)).cps.toList=1)&&!decide (Cm (bZ x none none (-1)).cps.toList x.cps.toList=1)&&R7.all λy=>!decide (Cm x.cps.toList y.cps.toList=1))=true:=by decide+kernel
theorem ux{x:Str}:∀{ts:List Str},k8 (.str x) (ts.map PV.str)=decide (x∈ts)
 |[]=>by simp[k8]
 |t::ts=>by
  have ih:=ux (x:=x) (ts:=ts)
  unfold k8 at ih⊢
  rw[List.map_cons,List.any_cons,ih]
  show((t==x)||decide (x∈ts))=_
  by_cases h:t=x
  ·subst h
   simp
  ·rw[beq_eq_false_iff_ne.mpr h]
   simp[List.mem_cons,Ne.symm h]
theorem pL{x:Str}:k8 (.str x) kept=decide (x∈R7):=ux (ts:=R7)
theorem El{x:Str}(h:k8 (.str x) kept=true):Lw (bZ x none none (-1))/\(bZ x none none (-1)).length=x.length/\Cm x.cps.toList (bZ x none none (-1)).cps.toList≠1/\Cm (bZ x none none (-1)).cps.toList x.cps.toList≠1/\∀y,k8 (.str y) kept=true->Cm x.cps.toList y.cps.toList≠1:=by
 rw[pL]at h
 have:=List.all_eq_true.mp QF x (of_decide_eq_true h)
 simp only[Bool.and_eq_true,Bool.not_eq_true',decide_eq_false_iff_not,decide_eq_true_eq]at this
 obtain⟨⟨⟨⟨h1,h2⟩,h3⟩,h4⟩,h5⟩:=this
 refine⟨Jo h1,h2,h3,h4,λy hy=>?_⟩
 rw[pL]at hy
 have:=List.all_eq_true.mp h5 y (of_decide_eq_true hy)
 simpa using this
theorem sI(x:Str):(fin x).length=x.length:=by
 unfold fin
 split
 ·rename_i h
  exact(El h).2.1
 ·rfl
theorem QG{x:Str}(h:Lw x):Lw (fin x):=by
 unfold fin
 split
 ·rename_i h
  exact(El h).1
 ·exact h
theorem QH{x y:Str}(h:Cm x.cps.toList y.cps.toList=1):fin x≠fin y:=by
 unfold fin
 split
 ·rename_i hx
  obtain⟨_,_,h3,_,h5⟩:=El hx
  split
  ·rename_i hy
   exact absurd h (h5 y hy)
  ·intro e
   rw[e]at h3
   exact h3 h
 ·split
  ·rename_i hy
   obtain⟨_,_,_,h4,_⟩:=El hy
   intro e
   rw[<-e]at h4
   exact h4 h
  ·intro e
   rw[e,uw]at h
   cases h
end L2.D
namespace L2.D.Rq
open PySem
noncomputable def pM:List (Str×Int):=[("all(",1),("any(",1),("1 of (",1),("2 of (",2),("3 of (",3),("4 of (",4),("5 of (",5),("6 of (",6),("7 of (",7),("8 of (",8)]
noncomputable def kF:List PV:=[.str "all(",.str "any(",.str "1 of (",.str "2 of (",.str "3 of (",.str "4 of (",.str "5 of (",.str "6 of (",.str "7 of (",.str "8 of ("]
noncomputable def i8:aT:=(aN (bP 2 (dC (.int 0))) (aN (jE (D5 (aR 0) (aR 1)) (ir (bh 3) (bh 4)) (aN (fQ (tV (ag gz (dV 3) (dV 4))) tG bA) (bP 2 (ag D9 (dV 2) (dC (.int 1)))))) (a8 (aR 2))))
noncomputable def ck:List PV->Option PV:=fn false 5 2 i8
noncomputable def vD:Den:=bb (km nJ "signs") (dV 0)
noncomputable def lR:Den:=bb (km nJ "at") (dV 0)
noncomputable def AL:Den:=bb (km nJ "words") (dV 0)
noncomputable def yo:aT:=a8 (ag iG (kl vD (bO lR) (bO (ag dA lR (dC (.int 1))))) (dV 1))
noncomputable def gh:List PV->Option PV:=fn false 2 2 yo
noncomputable def lT:dr:=eX (ue 1 (kl vD (bO lR) dR)) (eX (ue 2 (bb zR (b9 (nList AL) d5 (aH ck (aa (aR 2) (aa (aR 0) ay)))))) (eX (Cb (aR 2)) (eX (Cc (tV (ag jD (kl (dV 1) dR (bO (dV 2))) AL)) ko lO) (Ao (kl (dV 1) dR (bO (dV 2)))))))
noncomputable def d8:FQ:=r9 false 3 1 lT
noncomputable def lU:dr:=eX (Cc (lz (tV (j6 (rE gh) (aR 0) (aa (aR 1) ay)))) ko lO) (Cb (dC (.int 1)))
noncomputable def cm:FQ:=r9 false 2 2 lU
noncomputable def iu:aT:=(aN (fQ (tV (ag iG (dV 0) (dC (.str "all(")))) (a8 (bb HI (dV 1))) bA) (aN (fQ (tV (ag iG (dV 0) (dC (.str "any(")))) (a8 (bb HJ (dV 1))) bA) (a8 (ag BN (bb (Am pM) (dV 0)) (dV 1)))))
noncomputable def bf:List PV->Option PV:=fn false 2 2 iu
noncomputable def qL:c9:=Bj (tV (ag qy (bb bj (dV 2)) (dV 1))) (lz (tV (j6 (rE gh) (aR 0) (aa (dC (.str ")")) ay))))
noncomputable def qM(FT:FQ):dr:=eX (Cc (tV (ag iG (bb bj (dV 2)) (dC (.int 8)))) ko lO) (eX (pq (gr cm (aa (dC (.str ",")) ay))) (eX (pq (gr cm (aa (dC (.str " ")) ay))) (IL 2 (gr FT ay))))
noncomputable def dF(FT:FQ):dr:=eX (ug 2 (gr FT ay)) (eX (jJ qL (qM FT) 10) (eX (pq (gr cm (aa (dC (.str ")")) ay))) (Aq 2)))
noncomputable def d9(FP:FQ):dr:=eX (Ar 1 (gr d8 ay)) (eX (Cc (tV (bb (x9 pM) (dV 1))) (Ap (bb HH (dV 1))) lO) (Ax bf (aR 1) (gr FP (aa (bb (Am pM) (dV 1)) ay))))
noncomputable def cD:Nat->FQ
 |0=>λ_ _ _=>none
 |n+1=>r9 false 2 1 (d9 (r9 true 3 2 (dF (cD n))))
noncomputable def nN:dr:=Cc (tV (ag qy lR (bb bj vD))) ko lO
noncomputable def fg:FQ:=r9 false 1 1 nN
noncomputable def lV:List PV->Option Rg:=wz 3 3 (ag dA (bb v8 (dV 1)) (dC (.lst kF))) (aR 2)
noncomputable def Co:aT:=IQ 2 3 lV (cD 24) fg (aa (aR 0) (aa (aR 1) ay))
noncomputable def i9:List PV->Option PV:=fn false 4 2 Co
noncomputable def qN:List Nat->List Nat->Nat
 |a::x,b::y=>if a=b then qN x y+1 else 0
 |_,_=>0
theorem QJ(c d:Nat):gz (.str ⟨#[c]⟩) (.str ⟨#[d]⟩)=some (.bl (!decide (c=d))):=by
 show some (PV.bl (!decide ((⟨#[c]⟩:Str)=⟨#[d]⟩)))=_
 congr 3
 rw[decide_eq_decide]
 constructor
 ·intro h
  injection h with h
  injection h with h
  exact(List.cons.inj h).1
 ·rintro rfl
  rfl
noncomputable abbrev Cp:aT:=(aN (fQ (tV (ag gz (dV 3) (dV 4))) tG bA) (bP 2 (ag D9 (dV 2) (dC (.int 1)))))
theorem uy(s0 s1:Slot):∀(xs ys:List Nat) (k:Int) (s3 s4:Slot),∃t3 t4,forL (ir (bh 3) (bh 4)) Cp (List.zipWith (λc d=>PV.tup [.str ⟨#[c]⟩,.str ⟨#[d]⟩]) xs ys) [s0,s1,.sh (.int k),s3,s4]=some (.nx [s0,s1,.sh (.int (k+(qN xs ys:Nat))),t3,t4])
 |[],ys,k,s3,s4=>⟨s3,s4,by
  show some (Fl.nx [s0,s1,.sh (.int k),s3,s4])=_
  rw[show qN [] ys=0 by unfold qN;rfl]
  simp⟩
 |_::_,[],k,s3,s4=>⟨s3,s4,by
  show some (Fl.nx [s0,s1,.sh (.int k),s3,s4])=_
  simp[qN]⟩
 |a::xs,b::ys,k,s3,s4=>by
  rw[List.zipWith_cons_cons,pE]
  have hg:ir (bh 3) (bh 4) (.tup [.str ⟨#[a]⟩,.str ⟨#[b]⟩]) [s0,s1,.sh (.int k),s3,s4]=some [s0,s1,.sh (.int k),.sh (.str ⟨#[a]⟩),.sh (.str ⟨#[b]⟩)]:=rfl
  rw[hg]
  have ht:tV (ag gz (dV 3) (dV 4)) [s0,s1,.sh (.int k),.sh (.str ⟨#[a]⟩),.sh (.str ⟨#[b]⟩)]=some (!decide (a=b)):=bF ((ai (x:=.str ⟨#[a]⟩) (y:=.str ⟨#[b]⟩) rfl rfl).trans (QJ a b))
  by_cases h:a=b
  ·rw[decide_eq_true h]at ht
   have hb:Cp [s0,s1,.sh (.int k),.sh (.str ⟨#[a]⟩),.sh (.str ⟨#[b]⟩)]=some (.nx [s0,s1,.sh (.int (k+1)),.sh (.str ⟨#[a]⟩),.sh (.str ⟨#[b]⟩)]):=(ak ((cc ht).trans rfl)).trans rfl
   obtain⟨t3,t4,e⟩:=uy s0 s1 xs ys (k+1) (.sh (.str ⟨#[a]⟩)) (.sh (.str ⟨#[b]⟩))
   refine⟨t3,t4,?_⟩
   show(Cp [s0,s1,.sh (.int k),.sh (.str ⟨#[a]⟩),.sh (.str ⟨#[b]⟩)]).bind _=_
   rw[hb]
   refine e.trans ?_
   have el:qN (a::xs) (b::ys)=qN xs ys+1:=by
    show(if a=b then qN xs ys+1 else 0)=_
    rw[if_pos h]
   rw[el]
   have:k+1+((qN xs ys:Nat):Int)=k+((qN xs ys+1:Nat):Int):=by omega
   rw[this]
  ·rw[decide_eq_false h]at ht
   have hb:Cp [s0,s1,.sh (.int k),.sh (.str ⟨#[a]⟩),.sh (.str ⟨#[b]⟩)]=some (.bk [s0,s1,.sh (.int k),.sh (.str ⟨#[a]⟩),.sh (.str ⟨#[b]⟩)]):=by
    show(fQ (tV (ag gz (dV 3) (dV 4))) tG bA [s0,s1,.sh (.int k),.sh (.str ⟨#[a]⟩),.sh (.str ⟨#[b]⟩)]).bind _=_
    rw[d7 ht]
    rfl
   refine⟨.sh (.str ⟨#[a]⟩),.sh (.str ⟨#[b]⟩),?_⟩
   show(Cp [s0,s1,.sh (.int k),.sh (.str ⟨#[a]⟩),.sh (.str ⟨#[b]⟩)]).bind _=_
   rw[hb]
   have el:qN (a::xs) (b::ys)=0:=by
    show(if a=b then qN xs ys+1 else 0)=_
    rw[if_neg h]
   rw[el]
   show some (Fl.nx [s0,s1,.sh (.int k),.sh (.str ⟨#[a]⟩),.sh (.str ⟨#[b]⟩)])=_
   have:k+((0:Nat):Int)=k:=by omega
   rw[this]
theorem Gu{x y:Str}(hx:As x)(hy:As y):ck [.str x,.str y]=some (.int (qN x.cps.toList y.cps.toList:Nat)):=by
 refine cP rfl ?_
 refine(ak (aU (p:=.int 0) rfl)).trans ?_
 have it:D5 (aR 0) (aR 1) [.sh (.str x),.sh (.str y),.sh (.int 0),.un,.un]=some (FX x y):=by
  show(if x.cps.all (·<128)&&y.cps.all (·<128)then some (FX x y)else none)=_
  rw[Ck hx,Ck hy]
  rfl
 obtain⟨t3,t4,e⟩:=uy (.sh (.str x)) (.sh (.str y)) x.cps.toList y.cps.toList 0 .un .un
 refine(ak ((g9 it).trans e)).trans ?_
 refine bV ?_
 show some (PV.int (0+(qN x.cps.toList y.cps.toList:Nat)))=_
 rw[Int.zero_add]
section
variable{t:Rg}{n m:Int}{ρ ρ':cH}{a b:dr}{f:Den}{p:PV}{q:Int×Fl}
theorem dY(h:a t n ρ=some (m,.nx ρ')):eX a b t n ρ=b t m ρ':=by
 unfold eX
 rw[h]
 rfl
theorem AM{i:Nat}(h:f (wQ t n ρ)=some p)(hf:flat p=true):ue i f t n ρ=some (n,.nx (ρ.set i (.sh p))):=by
 unfold ue
 rw[h]
 show(if flat p=true then _ else _)=_
 rw[if_pos hf]
theorem En{k:Int}(h:f (wQ t n ρ)=some (.int k)):Cb f t n ρ=some (n+k,.nx ρ):=by
 unfold Cb
 rw[h]
 rfl
theorem TU{c:c9}(h:c (wQ t n ρ)=some true):Cc c a b t n ρ=a t n ρ:=by
 unfold Cc
 rw[h]
 rfl
theorem AN{c:c9}(h:c (wQ t n ρ)=some false):Cc c a b t n ρ=b t n ρ:=by
 unfold Cc
 rw[h]
 rfl
theorem Jq(h:f (wQ t n ρ)=some p)(hf:flat p=true):Ao f t n ρ=some (n,.rt p):=by
 unfold Ao
 rw[h]
 show(if flat p=true then _ else _)=_
 rw[if_pos hf]
theorem yp{fr:Bool}{N k:Nat}{g:dr}{ps:List PV}(h:ps.length+1=k)(e:g t n (.un::(ps.map Slot.sh++List.replicate (N-k) .un))=some (m,.rt p)):r9 fr N k g t n ps=some (m,p):=by
 unfold r9
 rw[if_pos h,e]
 rfl
theorem Jr{N k:Nat}{g:dr}{ps:List PV}(h:ps.length+1=k)(e:g t n (.un::(ps.map Slot.sh++List.replicate (N-k) .un))=some (m,.nx ρ')):r9 false N k g t n ps=some (m,.non):=by
 unfold r9
 rw[if_pos h,e]
 rfl
end
theorem W3:(("words" :Str)==("words" :Str))=true:=by decide+kernel
theorem W4:(("signs" :Str)==("words" :Str))=false:=by decide+kernel
theorem W5:(("signs" :Str)==("signs" :Str))=true:=by decide+kernel
theorem W6:(("at" :Str)==("words" :Str))=false:=by decide+kernel
theorem W7:(("at" :Str)==("signs" :Str))=false:=by decide+kernel
theorem W8:(("at" :Str)==("at" :Str))=true:=by decide+kernel
theorem QK(t:Rg)(n:Int):km nJ "words" (Ca t n)=some (.lst t.ws):=by
 show List.lookup ("words" :Str) [(("words" :Str),PV.lst t.ws),(("signs" :Str),.str t.sg),(("at" :Str),.int n)]=_
 rw[List.lookup_cons,W3]
theorem Js(t:Rg)(n:Int):km nJ "signs" (Ca t n)=some (.str t.sg):=by
 show List.lookup ("signs" :Str) [(("words" :Str),PV.lst t.ws),(("signs" :Str),.str t.sg),(("at" :Str),.int n)]=_
 rw[List.lookup_cons,W4,List.lookup_cons,W5]
theorem Jt(t:Rg)(n:Int):km nJ "at" (Ca t n)=some (.int n):=by
 show List.lookup ("at" :Str) [(("words" :Str),PV.lst t.ws),(("signs" :Str),.str t.sg),(("at" :Str),.int n)]=_
 rw[List.lookup_cons,W6,List.lookup_cons,W7,List.lookup_cons,W8]
section
variable(t:Rg)(n:Int)(ρ:cH)
theorem N2:vD (wQ t n (.un::ρ))=some (.str t.sg):=(bW (x:=Ca t n) rfl).trans (Js t n)
theorem N3:lR (wQ t n (.un::ρ))=some (.int n):=(bW (x:=Ca t n) rfl).trans (Jt t n)
theorem N4:AL (wQ t n (.un::ρ))=some (.lst t.ws):=(bW (x:=Ca t n) rfl).trans (QK t n)
end
theorem Ju{α:Type}(l:List α)(a:Nat):∀k,a+k<=l.length->((List.range k).map (a+·)).filterMap (l[·]?)=(l.drop a).take k
 |0,_=>by simp
 |k+1,h=>by
  have ih:=Ju l a k (by omega)
  rw[List.range_succ,List.map_append,List.filterMap_append,ih,List.take_succ]
  congr 1
  have jW:a+k<l.length:=by omega
  rw[List.map_cons,List.map_nil,List.filterMap_cons,List.getElem?_eq_getElem jW,List.getElem?_drop,List.getElem?_eq_getElem jW]
  rfl
theorem uz{x:Str}{lo hi:Option Int}{a b:Nat}(hab:a<=b)(hb:b<=x.length)(e:Builtin.Str.strSliceIndices lo hi 1 x.length=(List.range (b-a)).map (a+·)):(bZ x lo hi 1).cps.toList=(x.cps.toList.drop a).take (b-a):=by
 have hl:x.cps.toList.length=x.length:=Array.length_toList
 unfold bZ
 rw[e]
 split
 ·rename_i hh
  rw[Bool.and_eq_true,beq_iff_eq,beq_iff_eq,List.length_map,List.length_range]at hh
  have ha:a=0:=by omega
  have jx:b=x.length:=by omega
  subst ha
  rw[List.drop_zero,List.take_of_length_le (by omega)]
 ·have:=Ju x.cps.toList a (b-a) (by omega)
  rw[<-this]
  show((((List.range (b-a)).map (a+·)).filterMap (x.cps[·]?)).toArray).toList=_
  simp only[Array.getElem?_toList]
theorem MQ(n len:Nat)(h:n<=len):Builtin.Str.strSliceIndices (some (n:Int)) none 1 len=(List.range (len-n)).map (n+·):=by
 have:=PySem.sliceRange_one n len
 rw[<-this]
 unfold Builtin.Str.strSliceIndices
 simp only
 congr 1
 rw[if_pos (by decide),if_neg (by omega)]
 omega
theorem TV(n len:Nat)(h:n<=len):Builtin.Str.strSliceIndices none (some (n:Int)) 1 len=(List.range (n-0)).map (0+·):=by
 have:=PySem.sliceRange_one 0 n
 rw[<-this]
 unfold Builtin.Str.strSliceIndices
 simp only
 congr 1
 rw[if_pos (by decide),if_neg (by omega)]
 omega
theorem Jv(a b len:Nat)(h:a<=b)(hb:b<=len):Builtin.Str.strSliceIndices (some (a:Int)) (some (b:Int)) 1 len=(List.range (b-a)).map (a+·):=by
 have:=PySem.sliceRange_one a b
 rw[<-this]
 unfold Builtin.Str.strSliceIndices
 simp only
 congr 1
 ·rw[if_pos (by decide),if_neg (by omega)]
  omega
 ·rw[if_pos (by decide),if_neg (by omega)]
  omega
theorem Jw{x:Str}{n:Nat}(h:n<=x.length):(bZ x (some (n:Int)) none 1).cps.toList=x.cps.toList.drop n:=by
 rw[uz h (Nat.le_refl _) (MQ n x.length h),List.take_of_length_le]
 rw[List.length_drop,show x.cps.toList.length=x.length from Array.length_toList]
 exact Nat.le_refl _
theorem Jx{x:Str}{n:Nat}(h:n<=x.length):(bZ x none (some (n:Int)) 1).cps.toList=x.cps.toList.take n:=by
 rw[uz (Nat.zero_le n) h (TV n x.length h),List.drop_zero,Nat.sub_zero]
theorem Eo:∀(w post:List Nat),qN (w++post) w=w.length
 |[],post=>by cases post<;>rfl
 |a::w,post=>by
  show(if a=a then qN (w++post) w+1 else 0)=_
  rw[if_pos rfl,Eo w post,List.length_cons]
theorem Ep{x y:Str}(h:x.cps.toList=y.cps.toList):x=y:=by
 cases x
 cases y
 simp only[Str.mk.injEq]
 exact Array.toList_inj.mp h
theorem Jy{ws:List Str}{w:Str}(h:w∈ws):jD (.str w) (.lst (ws.map PV.str))=some (.bl false):=by
 have a:(ws.map PV.str).all flat=true:=List.all_eq_true.mpr λp hp=>by
  obtain⟨y,_,rfl⟩:=List.mem_map.mp hp
  rfl
 have b:k8 (.str w) (ws.map PV.str)=true:=List.any_eq_true.mpr ⟨.str w,List.mem_map.mpr ⟨w,h,rfl⟩,by
  show(w==w)=true
  simp⟩
 show(if flat (.str w)&&(ws.map PV.str).all flat then some (PV.bl (!k8 (.str w) (ws.map PV.str)))else none)=_
 rw[a,b]
 rfl
theorem Er{ws:List Str}{sg w:Str}{n:Nat}{post:List Nat}(hs:As sg)(hws:∀v∈ws,As v)(hl:ws.length<=5000)(hlen:sg.length<=100000)(hn:n<=sg.length)(hw:w∈ws)(hr:sg.cps.toList.drop n=w.cps.toList++post)(hm:∀v∈ws,qN (w.cps.toList++post) v.cps.toList<=w.length):
  d8 ⟨ws.map PV.str,sg⟩ (n:Nat) []=some (((n+w.length:Nat):Int),.str w):=by
 have e0:w.cps.toList.length=w.length:=Array.length_toList
 obtain⟨rest,Es⟩:∃r,r=bZ sg (some (n:Int)) none 1:=⟨_,rfl⟩
 have er:rest.cps.toList=w.cps.toList++post:=by rw[Es,Jw hn,hr]
 have ar:As rest:=by rw[Es];exact QD hs _ _ _
 have lr:rest.length<=sg.length:=by rw[Es];exact yk _ _ _ (by decide)
 have lw:w.length<=rest.length:=by
  have:rest.cps.toList.length=rest.length:=Array.length_toList
  rw[er,List.length_append]at this
  omega
 have c1:kl vD (bO lR) dR (wQ ⟨ws.map PV.str,sg⟩ (n:Nat) [.un,.un,.un])=some (.str rest):=by
  rw[Es]
  refine i7 (N2 _ _ _) (l:=some (n:Int)) ?_ rfl hlen
  show(lR (wQ ⟨ws.map PV.str,sg⟩ (n:Nat) [.un,.un,.un])).bind _=_
  rw[N3]
  rfl
 have c2:bb zR (b9 (nList AL) d5 (aH ck (aa (aR 2) (aa (aR 0) ay)))) (wQ ⟨ws.map PV.str,sg⟩ (n:Nat) [.un,.sh (.str rest),.un])=some (.int (w.length:Nat)):=by
  have dc:b9 (nList AL) d5 (aH ck (aa (aR 2) (aa (aR 0) ay))) (wQ ⟨ws.map PV.str,sg⟩ (n:Nat) [.un,.sh (.str rest),.un])=some (.lst (ws.map λv=>.int (qN rest.cps.toList v.cps.toList:Nat))):=by
   refine uq PV.str (λv=>.int (qN rest.cps.toList v.cps.toList:Nat)) (i4 (N4 _ _ _)) hl λv hv=>?_
   exact(a9 (ps:=[.str rest,.str v]) rfl).trans (Gu ar (hws v hv))
  refine(bW dc).trans ?_
  have ne:ws.map (λv=>qN rest.cps.toList v.cps.toList)≠[]:=λz=>by
   rw[List.map_eq_nil_iff]at z
   rw[z]at hw
   cases hw
  obtain⟨M,h1,h2,h3⟩:=Jm _ ne
  have ep:aA (ws.map λv=>qN rest.cps.toList v.cps.toList)=.lst (ws.map λv=>.int (qN rest.cps.toList v.cps.toList:Nat)):=by
   unfold aA
   rw[List.map_map]
   rfl
  rw[ep]at h1
  rw[h1]
  have m1:=h2 _ (List.mem_map.mpr ⟨w,hw,rfl⟩)
  obtain⟨v,hv,ev⟩:=List.mem_map.mp h3
  have m2:=hm v hv
  rw[er]at m1 ev
  rw[Eo,e0]at m1
  have:M=w.length:=by omega
  rw[this]
 have c3:∀k:Int,kl (dV 1) dR (bO (dV 2)) (wQ ⟨ws.map PV.str,sg⟩ k [.un,.sh (.str rest),.sh (.int (w.length:Nat))])=some (.str w):=λk=>by
  refine(i7 (y:=rest) (l:=none) (h:=some ((w.length:Nat):Int)) rfl rfl rfl (by omega)).trans ?_
  have:bZ rest none (some ((w.length:Nat):Int)) 1=w:=Ep (by
   rw[Jx lw,er,List.take_append_of_le_length (by omega),List.take_of_length_le (by omega)])
  rw[this]
 refine yp rfl ?_
 refine(dY (AM c1 rfl)).trans ?_
 refine(dY (AM c2 rfl)).trans ?_
 refine(dY (En (k:=(w.length:Nat)) rfl)).trans ?_
 refine(dY ((AN (bF ((ai (c3 _) (N4 _ _ _)).trans (Jy hw)))).trans rfl)).trans ?_
 refine(Jq (c3 _) rfl).trans ?_
 have:((n:Nat):Int)+((w.length:Nat):Int)=((n+w.length:Nat):Int):=by omega
 rw[this]
noncomputable abbrev one(c:Nat):Str:=⟨#[c]⟩
theorem beyond(x:Str)(lo hi:Nat)(h:x.length<=lo)(hh:lo<=hi):(bZ x (some (lo:Int)) (some (hi:Int)) 1).cps.toList=[]:=by
 have e:Builtin.Str.strSliceIndices (some (lo:Int)) (some (hi:Int)) 1 x.length=(List.range (x.length-x.length)).map (x.length+·):=by
  have:=PySem.sliceRange_one x.length x.length
  rw[<-this]
  unfold Builtin.Str.strSliceIndices
  simp only
  congr 1
  ·rw[if_pos (by decide),if_neg (by omega)]
   omega
  ·rw[if_pos (by decide),if_neg (by omega)]
   omega
 rw[uz (Nat.le_refl _) (Nat.le_refl _) e,Nat.sub_self,List.take_zero]
theorem uA{ws:List PV}{sg:Str}{n c:Nat}(hlen:sg.length<=100000):gh [Ca ⟨ws,sg⟩ (n:Nat),.str (one c)]=some (.bl (decide ((sg.cps.toList.drop n).head?=some c))):=by
 have hl:sg.cps.toList.length=sg.length:=Array.length_toList
 refine nM rfl ?_
 have c1:kl vD (bO lR) (bO (ag dA lR (dC (.int 1)))) [.sh (Ca ⟨ws,sg⟩ (n:Nat)),.sh (.str (one c))]=some (.str (bZ sg (some (n:Int)) (some ((n+1:Nat):Int)) 1)):=by
  have a1:lR [.sh (Ca ⟨ws,sg⟩ (n:Nat)),.sh (.str (one c))]=some (.int (n:Nat)):=(bW (x:=Ca ⟨ws,sg⟩ (n:Nat)) rfl).trans (Jt _ _)
  refine i7 (y:=sg) ((bW (x:=Ca ⟨ws,sg⟩ (n:Nat)) rfl).trans (Js _ _)) (l:=some (n:Int)) (h:=some ((n+1:Nat):Int)) ?_ ?_ hlen
  ·show(lR [.sh (Ca ⟨ws,sg⟩ (n:Nat)),.sh (.str (one c))]).bind _=_
   rw[a1]
   rfl
  ·show(ag dA lR (dC (.int 1)) [.sh (Ca ⟨ws,sg⟩ (n:Nat)),.sh (.str (one c))]).bind _=_
   rw[(ai (x:=.int (n:Nat)) (y:=.int 1) a1 rfl).trans rfl]
   show some (some ((n:Int)+1))=_
   rfl
 refine(ai c1 (y:=.str (one c)) rfl).trans ?_
 show some (PV.bl (decide (bZ sg (some (n:Int)) (some ((n+1:Nat):Int)) 1=one c)))=_
 congr 2
 rw[decide_eq_decide]
 by_cases h:n<sg.length
 ·have e:(bZ sg (some (n:Int)) (some ((n+1:Nat):Int)) 1).cps.toList=(sg.cps.toList.drop n).take 1:=by
    have:=uz (x:=sg) (a:=n) (b:=n+1) (by omega) (by omega) (Jv n (n+1) sg.length (by omega) (by omega))
    rw[this]
    congr 1
    omega
  constructor
  ·intro z
   rw[z]at e
   cases hd:sg.cps.toList.drop n with
   |nil=>rw[hd]at e;cases e
   |cons a l=>
    rw[hd]at e
    have:[c]=[a]:=e
    rw[(List.cons.inj this).1]
    rfl
  ·intro z
   refine Ep (e.trans ?_)
   cases hd:sg.cps.toList.drop n with
   |nil=>rw[hd]at z;cases z
   |cons a l=>
    rw[hd]at z
    cases z
    rfl
 ·have e:=beyond sg n (n+1) (by omega) (by omega)
  have hd:sg.cps.toList.drop n=[]:=List.drop_eq_nil_of_le (by omega)
  constructor
  ·intro z
   rw[z]at e
   cases e
  ·intro z
   rw[hd]at z
   cases z
theorem sign_eq{ws:List PV}{sg:Str}{n c:Nat}{r:List Nat}(hlen:sg.length<=100000)(h:sg.cps.toList.drop n=c::r):cm ⟨ws,sg⟩ (n:Nat) [.str (one c)]=some (((n+1:Nat):Int),.non):=by
 refine Jr (ρ':=[.un,.sh (.str (one c))]) rfl ?_
 have m:j6 (rE gh) (aR 0) (aa (aR 1) ay) (wQ ⟨ws,sg⟩ (n:Nat) [.un,.sh (.str (one c))])=some (.bl true):=by
  have:=uA (ws:=ws) (sg:=sg) (n:=n) (c:=c) hlen
  rw[h]at this
  have e:decide ((c::r).head?=some c)=true:=decide_eq_true rfl
  rw[e]at this
  exact this
 refine(dY ((AN (kr (b:=true) (bF m))).trans rfl)).trans ?_
 exact En (k:=1) rfl
theorem Cr:∀{w post v:List Nat},(∀c p v',post=c::p->v≠w++c::v')->qN (w++post) v<=w.length
 |[],[],v,_=>by
  cases v<;>exact Nat.le_refl _
 |[],c::p,[],_=>Nat.le_refl _
 |[],c::p,b::v,h=>by
  show(if c=b then qN p v+1 else 0)<=0
  rw[if_neg λe=>h c p v rfl (by rw[e];rfl)]
  exact Nat.le_refl _
 |a::w,post,[],_=>Nat.zero_le _
 |a::w,post,b::v,h=>by
  show(if a=b then qN (w++post) v+1 else 0)<=_
  split
  ·rename_i e
   have:=Cr (w:=w) (post:=post) (v:=v) λc p v' e1 e2=>h c p v' e1 (by rw[e2,e];rfl)
   rw[List.length_cons]
   omega
  ·exact Nat.zero_le _
noncomputable def Behind(post:List Nat):Prop:=∀c p,post=c::p->c=44\/c=41
noncomputable def ops:List Str:=["all(","any(","1 of (","2 of (","3 of (","4 of (","5 of (","6 of (","7 of (","8 of ("]
noncomputable def Et(x:Str):Prop:=∀c∈x.cps.toList,c≠44/\c≠41
theorem MR:(ops.all λx=>x.cps.toList.all λc=>decide (c≠44)&&decide (c≠41)&&decide (c<128))=true:=by decide+kernel
theorem qO{x:Str}(h:x∈ops):Et x/\As x:=by
 have h1:=List.all_eq_true.mp MR x h
 refine⟨λc hc=>?_,λc hc=>?_⟩<;>
 ·have h2:=List.all_eq_true.mp h1 c hc
  simp only[Bool.and_eq_true,decide_eq_true_eq]at h2
  first|exact⟨h2.1.1,h2.1.2⟩|exact h2.2
theorem Cs{w v:Str}{post:List Nat}(hb:Behind post)(hv:Et v):qN (w.cps.toList++post) v.cps.toList<=w.length:=by
 have e0:w.cps.toList.length=w.length:=Array.length_toList
 rw[<-e0]
 refine Cr λc p v' e1 e2=>?_
 have hc:=hv c (by rw[e2];simp)
 rcases hb c p e1 with z|z
 ·exact hc.1 z
 ·exact hc.2 z
theorem QL:(ops.all λx=>x.cps.toList.contains 40&&ops.all λy=>!(decide (y.cps.toList.take x.cps.toList.length=x.cps.toList)&&decide (x.cps.toList.length<y.cps.toList.length)))=true:=by decide+kernel
theorem Jz{w v:Str}{post:List Nat}(hw:w∈ops)(hv:v∈ops\/40∉v.cps.toList):qN (w.cps.toList++post) v.cps.toList<=w.length:=by
 have e0:w.cps.toList.length=w.length:=Array.length_toList
 have h1:=List.all_eq_true.mp QL w hw
 rw[Bool.and_eq_true]at h1
 rw[<-e0]
 refine Cr λc p v' _ e2=>?_
 rcases hv with hv|hv
 ·have h2:=List.all_eq_true.mp h1.2 v hv
  have a1:v.cps.toList.take w.cps.toList.length=w.cps.toList:=by rw[e2,List.take_left'];rfl
  have a2:w.cps.toList.length<v.cps.toList.length:=by rw[e2,List.length_append,List.length_cons];omega
  rw[decide_eq_true a1,decide_eq_true a2]at h2
  cases h2
 ·refine hv ?_
  rw[e2]
  exact List.mem_append_left _ (List.contains_iff_mem.mp h1.1)
structure vE(x:Str):Prop where
 as:As x
 ne:Et x
 no:40∉x.cps.toList
noncomputable abbrev yq(names:List Str):List PV:=(names++ops).map PV.str
section
variable{t:Rg}{n m:Int}{ρ ρ':cH}{g:jy}{f:Den}{p:PV}
theorem AO{i:Nat}(h:g t n ρ=some (m,p))(hf:flat p=true):Ar i g t n ρ=some (m,.nx (ρ.set i (.sh p))):=by
 unfold Ar
 rw[h]
 show(if flat p=true then _ else _)=_
 rw[if_pos hf]
theorem JA(h:f ρ=some p):Ap f t n ρ=some (n,.rt p):=by
 unfold Ap
 rw[h]
 rfl
theorem MS{a b:dr}(h:a t n ρ=some (m,.rt p)):eX a b t n ρ=some (m,.rt p):=by
 unfold eX
 rw[h]
 rfl
theorem ic{F:FQ}{as:cC}{ps:List PV}(h:as (wQ t n ρ)=some ps)(hf:ps.all flat=true):gr F as t n ρ=F t n ps:=by
 unfold gr
 rw[h]
 show(if ps.all flat=true then _ else _)=_
 rw[if_pos hf]
theorem uB(h:g t n ρ=some (m,p)):pq g t n ρ=some (m,.nx ρ):=by
 unfold pq
 rw[h]
 rfl
end
theorem MT:(pM.all λq=>q.1.cps.toList.contains 40)=true:=by decide+kernel
theorem Gv{x:Str}(h:40∉x.cps.toList):pM.lookup x=none:=by
 have hk:∀q∈pM,q.1≠x:=λq hq e=>by
  have:=List.all_eq_true.mp MT q hq
  rw[e]at this
  exact h (List.contains_iff_mem.mp this)
 revert hk
 generalize pM=l
 induction l with
 |nil=>intro _;rfl
 |cons q l ih=>
  intro hk
  obtain⟨k,i⟩:=q
  rw[List.lookup_cons]
  have:(x==k)=false:=by
   rw[beq_eq_false_iff_ne]
   exact λe=>hk (k,i) (List.mem_cons_self ..) e.symm
  rw[this]
  exact ih λq hq=>hk q (List.mem_cons_of_mem _ hq)
theorem JB{names:List Str}(hN:∀x∈names,vE x):∀v∈names++ops,As v:=λv hv=>(List.mem_append.mp hv).elim (λh=>(hN v h).as) λh=>(qO h).2
theorem Gx{names:List Str}(hN:∀x∈names,vE x):∀v∈names++ops,Et v:=λv hv=>(List.mem_append.mp hv).elim (λh=>(hN v h).ne) λh=>(qO h).1
theorem Gy{names:List Str}(hN:∀x∈names,vE x)(hl:names.length<=1000){x:Str}(hx:x∈names){sg:Str}{n:Nat}{post:List Nat}(hs:As sg)(hlen:sg.length<=100000)(hn:n<=sg.length)(hr:sg.cps.toList.drop n=x.cps.toList++post)(hb:Behind post)(FP:FQ):
  r9 false 2 1 (d9 FP) ⟨yq names,sg⟩ (n:Nat) []=some (((n+x.length:Nat):Int),.ins 0 [.str x]):=by
 have w1:=Er (ws:=names++ops) (n:=n) hs (JB hN) (by rw[List.length_append];have:ops.length=10:=rfl;omega) hlen hn (List.mem_append_left _ hx) hr λv hv=>Cs hb (Gx hN v hv)
 refine yp rfl ?_
 refine(dY (AO ((ic (ps:=[]) rfl rfl).trans w1) rfl)).trans ?_
 refine MS ((TU ?_).trans (JA rfl))
 refine bF ((bW (x:=.str x) rfl).trans ?_)
 show some (PV.bl !(pM.lookup x).isSome)=_
 rw[Gv (hN x hx).no]
 rfl
noncomputable def qP(names:List Str)(F:FQ)(i:It):Prop:=∀{sg:Str} {n:Nat} {post:List Nat},As sg->sg.length<=100000->n<=sg.length->sg.cps.toList.drop n=i.t.cps.toList++post->Behind post->F ⟨yq names,sg⟩ (n:Nat) []=some (((n+i.t.length:Nat):Int),i.o)
noncomputable def eP:List It->List Nat
 |[]=>[]
 |i::l=>44::32::(i.t.cps.toList++eP l)
noncomputable def lX:List It->Nat
 |[]=>0
 |i::l=>2+i.t.length+lX l
theorem pN(l:List It)(post:List Nat):Behind (eP l++41::post):=by
 intro c p e
 cases l with
 |nil=>exact .inr (List.cons.inj e).1.symm
 |cons i l=>exact .inl (List.cons.inj e).1.symm
theorem iS{l a b:List Nat}{n:Nat}(h:l.drop n=a++b):l.drop (n+a.length)=b:=by
 rw[<-List.drop_drop,h,List.drop_left']
 rfl
section
variable{t:Rg}{n m:Int}{ρ:cH}{g:jy}{p:PV}
theorem MU{i:Nat}{l:List PV}(ho:vo ρ i=some l)(h:g t n ρ=some (m,p))(hl:l.length<sizeLine):IL i g t n ρ=some (m,.nx (ρ.set i (.ow (l++[p])))):=by
 unfold IL
 rw[ho]
 show((g t n ρ).bind _)=_
 rw[h]
 show(if l.length<sizeLine then _ else _)=_
 rw[if_pos hl]
end
theorem uC{names:List Str}{FT:FQ}{sg:Str}(hs:As sg)(hlen:sg.length<=100000){few:Nat}{post:List Nat}:∀(rest rG:List It) (n k:Nat),(∀i∈rest,qP names FT i)->rG.length+rest.length<=8->few<=rG.length+rest.length->rest.length<k->n<=sg.length->sg.cps.toList.drop n=eP rest++41::post->
  jJ qL (qM FT) k ⟨yq names,sg⟩ (n:Nat) [.un,.sh (.int (few:Nat)),.ow (rG.map It.o)]=some (((n+lX rest:Nat):Int),.nx [.un,.sh (.int (few:Nat)),.ow ((rG++rest).map It.o)])
 |[],rG,n,0,_,_,_,h,_,_=>absurd h (by omega)
 |_::_,rG,n,0,_,_,_,h,_,_=>absurd h (by omega)
 |[],rG,n,k+1,hi,h8,hf,hk,hn,hd=>by
  have l1:bb bj (dV 2) (wQ ⟨yq names,sg⟩ (n:Nat) [.un,.sh (.int (few:Nat)),.ow (rG.map It.o)])=some (.int (rG.length:Nat)):=by
   show some (PV.int ((rG.map It.o).length:Nat))=_
   rw[List.length_map]
  have c1:qL (wQ ⟨yq names,sg⟩ (n:Nat) [.un,.sh (.int (few:Nat)),.ow (rG.map It.o)])=some false:=by
   refine(pI (bF ((ai l1 (y:=.int (few:Nat)) rfl).trans ?_))).trans (kr (b:=true) (bF ?_))
   ·show some (PV.bl (decide ((rG.length:Int)<(few:Int))))=_
    rw[decide_eq_false (by simp at hf;omega)]
   ·have:=uA (ws:=yq names) (sg:=sg) (n:=n) (c:=41) hlen
    rw[hd]at this
    exact this
  unfold jJ
  rw[c1,List.append_nil]
  rfl
 |i::rest,rG,n,k+1,hi,h8,hf,hk,hn,hd=>by
  have zl:(5000:Nat)<=sizeLine:=by decide
  have e0:i.t.cps.toList.length=i.t.length:=Array.length_toList
  have el:sg.cps.toList.length=sg.length:=Array.length_toList
  rw[List.length_cons]at h8 hf hk
  have l1:∀m:Int,bb bj (dV 2) (wQ ⟨yq names,sg⟩ m [.un,.sh (.int (few:Nat)),.ow (rG.map It.o)])=some (.int (rG.length:Nat)):=λm=>by
   show some (PV.int ((rG.map It.o).length:Nat))=_
   rw[List.length_map]
  have c1:qL (wQ ⟨yq names,sg⟩ (n:Nat) [.un,.sh (.int (few:Nat)),.ow (rG.map It.o)])=some true:=by
   by_cases jW:rG.length<few
   ·refine Ec (bF ((ai (l1 _) (y:=.int (few:Nat)) rfl).trans ?_))
    show some (PV.bl (decide ((rG.length:Int)<(few:Int))))=_
    rw[decide_eq_true (by omega)]
   ·refine(pI (bF ((ai (l1 _) (y:=.int (few:Nat)) rfl).trans ?_))).trans (kr (b:=false) (bF ?_))
    ·show some (PV.bl (decide ((rG.length:Int)<(few:Int))))=_
     rw[decide_eq_false (by omega)]
    ·have:=uA (ws:=yq names) (sg:=sg) (n:=n) (c:=41) hlen
     rw[hd]at this
     exact this
  have d1:sg.cps.toList.drop n=44::(32::(i.t.cps.toList++eP rest)++41::post):=hd
  have d2:sg.cps.toList.drop (n+1)=32::((i.t.cps.toList++eP rest)++41::post):=iS (a:=[44]) d1
  have d3:sg.cps.toList.drop (n+1+1)=i.t.cps.toList++(eP rest++41::post):=(iS (a:=[32]) d2).trans (List.append_assoc ..)
  have n3:n+1+1<=sg.length:=by
   have:=congrArg List.length d1
   rw[List.length_drop,List.length_cons,List.length_append,List.length_cons]at this
   omega
  have n4:n+1+1+i.t.length<=sg.length:=by
   have:=congrArg List.length d3
   rw[List.length_drop,List.length_append]at this
   omega
  have b1:qM FT ⟨yq names,sg⟩ (n:Nat) [.un,.sh (.int (few:Nat)),.ow (rG.map It.o)]=some (((n+1+1+i.t.length:Nat):Int),.nx [.un,.sh (.int (few:Nat)),.ow ((rG++[i]).map It.o)]):=by
   refine(dY ((AN (bF ((ai (l1 _) (y:=.int 8) rfl).trans ?_))).trans rfl)).trans ?_
   ·show some (PV.bl (decide ((rG.length:Int)=8)))=_
    rw[decide_eq_false (by omega)]
   refine(dY (uB ((ic (ps:=[.str (one 44)]) rfl rfl).trans (sign_eq hlen d1)))).trans ?_
   refine(dY (uB ((ic (ps:=[.str (one 32)]) rfl rfl).trans (sign_eq hlen d2)))).trans ?_
   refine(MU (l:=rG.map It.o) rfl ((ic (ps:=[]) rfl rfl).trans (hi i (List.mem_cons_self ..) hs hlen n3 d3 (pN rest post))) (by rw[List.length_map];omega)).trans ?_
   rw[List.map_append]
   rfl
  have ih:=uC hs hlen (few:=few) (post:=post) rest (rG++[i]) (n+1+1+i.t.length) k (λj hj=>hi j (List.mem_cons_of_mem _ hj)) (by rw[List.length_append];simp;omega) (by rw[List.length_append];simp;omega) (by omega) n4 (by rw[<-e0];exact iS d3)
  unfold jJ
  rw[c1]
  show((qM FT ⟨yq names,sg⟩ (n:Nat) [.un,.sh (.int (few:Nat)),.ow (rG.map It.o)]).bind _)=_
  rw[b1]
  refine ih.trans ?_
  rw[List.append_assoc]
  have:n+1+1+i.t.length+lX rest=n+lX (i::rest):=by
   show _=n+(2+i.t.length+lX rest)
   omega
  rw[this]
  rfl
section
variable{t:Rg}{n m:Int}{ρ:cH}{g:jy}{p:PV}
theorem Gz{i:Nat}(h:g t n ρ=some (m,p)):ug i g t n ρ=some (m,.nx (ρ.set i (.ow [p]))):=by
 unfold ug
 rw[h]
 rfl
theorem JC{i:Nat}{l:List PV}(h:vo ρ i=some l):Aq i t n ρ=some (n,.rt (.lst l)):=by
 unfold Aq
 rw[h]
 rfl
theorem JD{F:List PV->Option PV}{f:Den}{a r:PV}(h1:f (wQ t n ρ)=some a)(ha:flat a=true)(h2:g t n ρ=some (m,p))(h3:F [a,p]=some r):Ax F f g t n ρ=some (m,.rt r):=by
 unfold Ax
 rw[h1]
 show(if flat a=true then _ else _)=_
 rw[if_pos ha,h2]
 show(F [a,p]).map _=_
 rw[h3]
 rfl
end
theorem JE{names:List Str}{FT:FQ}{sg:Str}(hs:As sg)(hlen:sg.length<=100000){few n:Nat}{post:List Nat}{i:It}{rest:List It}(hi:∀j∈i::rest,qP names FT j)(h8:rest.length+1<=8)(hf:few<=rest.length+1)(hn:n<=sg.length)(hd:sg.cps.toList.drop n=i.t.cps.toList++(eP rest++41::post)):
  r9 true 3 2 (dF FT) ⟨yq names,sg⟩ (n:Nat) [.int (few:Nat)]=some (((n+i.t.length+lX rest+1:Nat):Int),.lst ((i::rest).map It.o)):=by
 have e0:i.t.cps.toList.length=i.t.length:=Array.length_toList
 have el:sg.cps.toList.length=sg.length:=Array.length_toList
 have d1:sg.cps.toList.drop (n+i.t.length)=eP rest++41::post:=by
  rw[<-e0]
  exact iS hd
 have n1:n+i.t.length<=sg.length:=by
  have:=congrArg List.length hd
  rw[List.length_drop,List.length_append]at this
  omega
 have tl:(eP rest).length=lX rest:=by
  clear hd d1 h8 hf hi
  induction rest with
  |nil=>rfl
  |cons j l ih=>
   show(44::32::(j.t.cps.toList++eP l)).length=2+j.t.length+lX l
   have e1:j.t.cps.toList.length=j.t.length:=Array.length_toList
   rw[List.length_cons,List.length_cons,List.length_append,ih,e1]
   omega
 have d2:sg.cps.toList.drop (n+i.t.length+lX rest)=41::post:=by
  rw[<-tl]
  exact iS d1
 refine yp rfl ?_
 refine(dY (Gz (p:=i.o) ((ic (ps:=[]) rfl rfl).trans (hi i (List.mem_cons_self ..) hs hlen hn hd (pN rest post))))).trans ?_
 refine(dY (uC hs hlen (few:=few) (post:=post) rest [i] (n+i.t.length) 10 (λj hj=>hi j (List.mem_cons_of_mem _ hj)) (by simp;omega) (by simp;omega) (by omega) n1 d1)).trans ?_
 refine(dY (uB ((ic (ps:=[.str (one 41)]) rfl rfl).trans (sign_eq hlen d2)))).trans ?_
 exact JC rfl
theorem JF{names:List Str}(hN:∀x∈names,vE x)(hl:names.length<=1000){FT:FQ}{sg:Str}(hs:As sg)(hlen:sg.length<=100000){w:Str}(hw:w∈ops){few n:Nat}(hk:pM.lookup w=some (few:Int)){post:List Nat}{i:It}{rest:List It}{r:PV}(hi:∀j∈i::rest,qP names FT j)(h8:rest.length+1<=8)(hf:few<=rest.length+1)(hn:n<=sg.length)
  (hd:sg.cps.toList.drop n=w.cps.toList++(i.t.cps.toList++(eP rest++41::post)))(hc:bf [.str w,.lst ((i::rest).map It.o)]=some r):
  r9 false 2 1 (d9 (r9 true 3 2 (dF FT))) ⟨yq names,sg⟩ (n:Nat) []=some (((n+w.length+i.t.length+lX rest+1:Nat):Int),r):=by
 have e0:w.cps.toList.length=w.length:=Array.length_toList
 have el:sg.cps.toList.length=sg.length:=Array.length_toList
 have w1:=Er (ws:=names++ops) (n:=n) hs (JB hN) (by rw[List.length_append];have:ops.length=10:=rfl;omega) hlen hn (List.mem_append_right _ hw) hd λv hv=>Jz hw ((List.mem_append.mp hv).elim (λh=>.inr (hN v h).no) .inl)
 have n1:n+w.length<=sg.length:=by
  have:=congrArg List.length hd
  rw[List.length_drop,List.length_append]at this
  omega
 have d1:sg.cps.toList.drop (n+w.length)=i.t.cps.toList++(eP rest++41::post):=by
  rw[<-e0]
  exact iS hd
 refine yp rfl ?_
 refine(dY (AO ((ic (ps:=[]) rfl rfl).trans w1) rfl)).trans ?_
 refine(dY ((AN (bF ((bW (x:=.str w) rfl).trans ?_))).trans rfl)).trans ?_
 ·show some (PV.bl !(pM.lookup w).isSome)=_
  rw[hk]
  rfl
 refine JD (a:=.str w) rfl rfl ((ic (ps:=[.int (few:Nat)]) ?_ rfl).trans (JE hs hlen hi h8 hf n1 d1)) hc
 refine aB ((bW (x:=.str w) rfl).trans ?_) rfl
 show(pM.lookup w).map PV.int=_
 rw[hk]
 rfl
theorem QM{x y:Str}(h:x≠y){a b:Den}{ρ:cH}(ha:a ρ=some (.str x))(hb:b ρ=some (.str y)):tV (ag iG a b) ρ=some false:=by
 refine bF ((ai ha hb).trans ?_)
 show some (PV.bl (decide (x=y)))=_
 rw[decide_eq_false h]
theorem TX{x:Str}{a b:Den}{ρ:cH}(ha:a ρ=some (.str x))(hb:b ρ=some (.str x)):tV (ag iG a b) ρ=some true:=by
 refine bF ((ai ha hb).trans ?_)
 show some (PV.bl (decide (x=x)))=_
 rw[decide_eq_true rfl]
theorem QN(l:List PV):bf [.str "all(",.lst l]=some (.ins 1 [.int (l.length:Nat),.tup l]):=by
 refine cP rfl ?_
 exact dE ((d7 (TX rfl rfl)).trans (bV rfl))
theorem ya:("any(" :Str)≠ "all(" :=by decide+kernel
theorem QO(l:List PV):bf [.str "any(",.lst l]=some (.ins 2 [.int 1,.tup l]):=by
 refine cP rfl ?_
 refine(ak ((cc (QM ya rfl rfl)).trans rfl)).trans ?_
 exact dE ((d7 (TX rfl rfl)).trans (bV rfl))
noncomputable def GZ(m:Nat):Str:=(toString (m:Int):Str)++(" of (" :Str)
theorem MV:((List.range 8).all λk=>ops.contains (GZ (k+1))&&decide (pM.lookup (GZ (k+1))=some ((k+1:Nat):Int))&&!decide (GZ (k+1)= "all(")&&!decide (GZ (k+1)= "any("))=true:=by decide+kernel
theorem yr{m:Nat}(h1:1<=m)(h8:m<=8):GZ m∈ops/\pM.lookup (GZ m)=some (m:Int)/\GZ m≠ "all(" /\GZ m≠ "any(" :=by
 have:=List.all_eq_true.mp MV (m-1) (List.mem_range.mpr (by omega))
 rw[show m-1+1=m by omega]at this
 simp only[Bool.and_eq_true,Bool.not_eq_true',decide_eq_true_eq,decide_eq_false_iff_not,List.contains_iff_mem]at this
 exact⟨this.1.1.1,this.1.1.2,this.1.2,this.2⟩
theorem MW{m:Nat}(h1:1<=m)(h8:m<=8)(l:List PV):bf [.str (GZ m),.lst l]=some (.ins 3 [.int (m:Nat),.tup l]):=by
 obtain⟨_,a2,a3,a4⟩:=yr h1 h8
 refine cP rfl ?_
 refine(ak ((cc (QM a3 rfl rfl)).trans rfl)).trans ?_
 refine(ak ((cc (QM a4 rfl rfl)).trans rfl)).trans ?_
 refine bV ((ai (x:=.int (m:Nat)) (y:=.lst l) ((bW (x:=.str (GZ m)) rfl).trans ?_) rfl).trans rfl)
 show(pM.lookup (GZ m)).map PV.int=_
 rw[a2]
 rfl
theorem JG:("all(" :Str)∈ops/\pM.lookup ("all(" :Str)=some ((1:Nat):Int):=by decide+kernel
theorem JH:("any(" :Str)∈ops/\pM.lookup ("any(" :Str)=some ((1:Nat):Int):=by decide+kernel
theorem QP:((", " :Str)).cps.toList=[44,32]:=by decide+kernel
theorem AQ:∀(rest:List It) (a:Array Nat),(((rest.map It.t).foldl (λacc (p:Str)=>acc++(", " :Str).cps++p.cps) a)).toList=a.toList++eP rest
 |[],a=>by simp[eP]
 |i::l,a=>by
  rw[List.map_cons,List.foldl_cons,AQ l,Array.toList_append,Array.toList_append,QP]
  show _=a.toList++44::32::(i.t.cps.toList++eP l)
  simp
theorem JI(i:It)(rest:List It):(Txt.join (", " :Str) ((i::rest).map It.t)).cps.toList=i.t.cps.toList++eP rest:=by
 show(((rest.map It.t).foldl (λacc (p:Str)=>acc++(", " :Str).cps++p.cps) i.t.cps)).toList=_
 exact AQ rest i.t.cps
theorem wK:∀rest:List It,(eP rest).length=lX rest
 |[]=>rfl
 |j::l=>by
  show(44::32::(j.t.cps.toList++eP l)).length=2+j.t.length+lX l
  have e1:j.t.cps.toList.length=j.t.length:=Array.length_toList
  rw[List.length_cons,List.length_cons,List.length_append,wK l,e1]
  omega
theorem Eu(x y:Str):(x++y).cps.toList=x.cps.toList++y.cps.toList:=by
 show(x.cps++y.cps).toList=_
 exact Array.toList_append ..
theorem TY:((")" :Str)).cps.toList=[41]:=by decide+kernel
theorem GA{names:List Str}(hN:∀x∈names,vE x)(hl:names.length<=1000){FT:FQ}{w:Str}(hw:w∈ops){few:Nat}(hk:pM.lookup w=some (few:Int)){its:List It}{r s:PV}{d:Nat}(h0:its≠[])(hi:∀j∈its,qP names FT j)(h8:its.length<=8)(hf:few<=its.length)(hc:bf [.str w,.lst (its.map It.o)]=some r):
  qP names (r9 false 2 1 (d9 (r9 true 3 2 (dF FT)))) ⟨r,s,w++(Txt.join (", " :Str) (its.map It.t)++(")" :Str)),d⟩:=by
 intro sg n post hs hlen hn hd hb
 cases its with
 |nil=>exact absurd rfl h0
 |cons i rest=>
  have e:(w++(Txt.join (", " :Str) ((i::rest).map It.t)++(")" :Str))).cps.toList=w.cps.toList++((i.t.cps.toList++eP rest)++[41]):=by
   rw[Eu,Eu,JI,TY]
  have Si:sg.cps.toList.drop n=w.cps.toList++(i.t.cps.toList++(eP rest++41::post)):=by
   rw[hd]
   show(w++(Txt.join (", " :Str) ((i::rest).map It.t)++(")" :Str))).cps.toList++post=_
   rw[e]
   simp
  refine(JF hN hl hs hlen hw hk hi h8 hf hn Si hc).trans ?_
  have el:(w++(Txt.join (", " :Str) ((i::rest).map It.t)++(")" :Str))).length=w.length+i.t.length+lX rest+1:=by
   have h1:(w++(Txt.join (", " :Str) ((i::rest).map It.t)++(")" :Str))).cps.toList.length=(w++(Txt.join (", " :Str) ((i::rest).map It.t)++(")" :Str))).length:=Array.length_toList
   rw[<-h1,e,List.length_append,List.length_append,List.length_append,wK]
   have e1:w.cps.toList.length=w.length:=Array.length_toList
   have e2:i.t.cps.toList.length=i.t.length:=Array.length_toList
   rw[e1,e2]
   show w.length+(i.t.length+lX rest+1)=_
   omega
  show some (((n+w.length+i.t.length+lX rest+1:Nat):Int),r)=some (((n+(w++(Txt.join (", " :Str) ((i::rest).map It.t)++(")" :Str))).length:Nat):Int),r)
  rw[el]
  have:n+w.length+i.t.length+lX rest+1=n+(w.length+i.t.length+lX rest+1):=by omega
  rw[this]
noncomputable def JJ(names:List Str)(i:It):Prop:=∀m,i.d<=m->qP names (cD (m+1)) i
section
variable{names:List Str}(hN:∀x∈names,vE x)(hl:names.length<=1000)
include hN hl
theorem JK{x:Str}(hx:x∈names){s:PV}:JJ names ⟨.ins 0 [.str x],s,x,0⟩:=λm _=>λ{sg n post} hs hlen hn hd hb=>Gy hN hl hx hs hlen hn hd hb _
theorem yt{w:Str}(hw:w∈ops){few:Nat}(hk:pM.lookup w=some (few:Int)){its:List It}{r s:PV}{n:Nat}(h0:its≠[])(h8:its.length<=8)(hf:few<=its.length)(hi:∀i∈its,JJ names i/\i.d<=n)(hc:bf [.str w,.lst (its.map It.o)]=some r):
  JJ names ⟨r,s,w++(Txt.join (", " :Str) (its.map It.t)++(")" :Str)),1+n⟩:=λm hm=>by
 have R8:1+n<=m:=hm
 obtain⟨k,rfl⟩:∃k,m=k+1:=⟨m-1,by omega⟩
 exact @λsg n0 post hs hlen hn hd hb=>GA (s:=s) (d:=1+n) hN hl hw hk h0 (λj hj=>(hi j hj).1 k (by have:=(hi j hj).2;omega)) h8 hf hc (sg:=sg) (n:=n0) (post:=post) hs hlen hn hd hb
theorem MX{its:List It}{s:PV}{n:Nat}(h0:its≠[])(h8:its.length<=8)(hi:∀i∈its,JJ names i/\i.d<=n):JJ names ⟨.ins 1 [.int (its.length:Nat),.tup (its.map It.o)],s,("all(" :Str)++(Txt.join (", " :Str) (its.map It.t)++(")" :Str)),1+n⟩:=
 yt hN hl JG.1 JG.2 h0 h8 (by cases its with|nil=>exact absurd rfl h0|cons _ _=>simp) hi ((QN _).trans (by rw[List.length_map]))
theorem MY{its:List It}{s:PV}{n:Nat}(h0:its≠[])(h8:its.length<=8)(hi:∀i∈its,JJ names i/\i.d<=n):JJ names ⟨.ins 2 [.int 1,.tup (its.map It.o)],s,("any(" :Str)++(Txt.join (", " :Str) (its.map It.t)++(")" :Str)),1+n⟩:=
 yt hN hl JH.1 JH.2 h0 h8 (by cases its with|nil=>exact absurd rfl h0|cons _ _=>simp) hi (QO _)
theorem JL{its:List It}{s:PV}{n m:Nat}(h0:its≠[])(h8:its.length<=8)(hi:∀i∈its,JJ names i/\i.d<=n)(h1:1<=m)(hm:m<=its.length):JJ names ⟨.ins 3 [.int (m:Nat),.tup (its.map It.o)],s,GZ m++(Txt.join (", " :Str) (its.map It.t)++(")" :Str)),1+n⟩:=
 yt hN hl (yr h1 (by omega)).1 (yr h1 (by omega)).2.1 h0 h8 hm hi (MW h1 (by omega) _)
theorem MZ{i:It}(hi:JJ names i)(hd:i.d<=22)(hs:As i.t)(hlen:i.t.length<=100000):i9 [.tup (names.map PV.str),.str i.t]=some i.o:=by
 have zl:(100000:Nat)<=sizeLine:=by decide
 have el:i.t.cps.toList.length=i.t.length:=Array.length_toList
 have f1:lV [.tup (names.map PV.str),.str i.t]=some ⟨yq names,i.t⟩:=by
  have a1:ag dA (bb v8 (dV 1)) (dC (.lst kF)) [.un,.sh (.tup (names.map PV.str)),.sh (.str i.t)]=some (.lst (yq names)):=by
   refine(ai (x:=.lst (names.map PV.str)) (y:=.lst kF) rfl rfl).trans ?_
   show(if(names.map PV.str).length+kF.length<=sizeLine then some (PV.lst (names.map PV.str++kF))else none)=_
   rw[if_pos (by rw[List.length_map];have:kF.length=10:=rfl;omega)]
   unfold yq
   rw[List.map_append]
   rfl
  unfold lV wz
  show((ag dA (bb v8 (dV 1)) (dC (.lst kF)) [.un,.sh (.tup (names.map PV.str)),.sh (.str i.t)]).bind _)=_
  rw[a1]
  rfl
 have f2:=hi 23 (by omega) (sg:=i.t) (n:=0) (post:=[]) hs hlen (Nat.zero_le _) (by rw[List.drop_zero,List.append_nil]) (λc p e=>by cases e)
 have f3:fg ⟨yq names,i.t⟩ ((0+i.t.length:Nat):Int) []=some (((0+i.t.length:Nat):Int),.non):=by
  refine Jr (ρ':=[.un]) rfl ((AN (bF ?_)).trans rfl)
  refine(ai (x:=.int ((0+i.t.length:Nat):Int)) (y:=.int (i.t.length:Nat)) (N3 _ _ _) ((bW (N2 _ _ _)).trans (if_pos (Nat.le_trans hlen zl)))).trans ?_
  show some (PV.bl (decide (((0+i.t.length:Nat):Int)<(i.t.length:Int))))=_
  rw[decide_eq_false (by omega)]
 refine cP rfl ?_
 show(if 2<4/\3<4 then _ else none)=_
 rw[if_pos ⟨by decide,by decide⟩]
 show((lV [.tup (names.map PV.str),.str i.t]).bind _)=_
 rw[f1]
 show((cD 24 ⟨yq names,i.t⟩ ((0:Nat):Int) []).bind _)=_
 rw[f2]
 show((fg ⟨yq names,i.t⟩ ((0+i.t.length:Nat):Int) []).map _)=_
 rw[f3]
 rfl
end
end L2.D.Rq
namespace L2.D.My
open PySem
noncomputable def nK:aT:=(a8 (ag iG (ag xF (ag E9 (dV 0) (dV 1)) (dC (.int 1))) (dC (.int 1))))
noncomputable def eY:List PV->Option PV:=fn false 2 2 (nK)
noncomputable def nL(eY:List PV->Option PV):aT:=(a8 (b9 (iB (bb HG (dV 0))) (tV (aH eY (aa (aR 1) (aa (aR 0) ay)))) (aR 0)))
noncomputable def eZ:List PV->Option PV:=fn true 1 1 (nL eY)
noncomputable def pF(eZ:List PV->Option PV):aT:=(aN (bP 1 (aH eZ (aa (aR 0) ay))) (a8 (fV (aa (bb bj (dV 1)) (aa (aR 1) ay)))))
noncomputable def F_place:List PV->Option PV:=fn false 2 1 (pF eZ)
noncomputable def pG:aT:=(a8 (ag iG (ag xF (dV 0) (dV 1)) (dV 0)))
noncomputable def i0:List PV->Option PV:=fn false 2 2 (pG)
noncomputable def ye(i0:List PV->Option PV):aT:=(a8 (bb LW (b9 (nList (dV 0)) d5 (aH i0 (aa (aR 0) (aa (aR 2) ay))))))
noncomputable def aP:List PV->Option PV:=fn false 2 2 (ye i0)
noncomputable def fE(F_place aP:List PV->Option PV):aT:=(fQ (lz (tV (xE aP (aa (dV 1) (aa (dV 2) ay))))) (oR 1 dB (aa (aR 2) ay)) bA)
noncomputable def sG(F_place aP:List PV->Option PV):aT:=(aN (k9 1 (lI ay)) (aN (jE (nList (rA (nList (dV 0)))) (bh 2) (fE F_place aP)) (DJ 1)))
noncomputable def g0:List PV->Option PV:=fn true 3 1 (sG F_place aP)
noncomputable def jz(F_place:List PV->Option PV):aT:=(a8 (rA (iB (ag zQ (dC (.int 1)) (dV 0)))))
noncomputable def aF:List PV->Option PV:=fn true 1 1 (jz F_place)
noncomputable def mP(aP:List PV->Option PV):aT:=(a8 (bb bj (b9 (nList (dV 0)) (tV (aH aP (aa (aR 0) (aa (aR 2) ay)))) (aR 0))))
noncomputable def dk:List PV->Option PV:=fn false 2 2 (mP aP)
noncomputable def yf(g0 aF dk:List PV->Option PV):aT:=(a8 (aH g0 (aa (b9 (nList (aH aF (aa (dC (.int 6)) ay))) (tV (ag Tc (aH dk (aa (aR 2) (aa (aR 0) ay))) (dV 1))) (aR 0)) ay)))
noncomputable def jM:List PV->Option PV:=fn true 2 2 (yf g0 aF dk)
noncomputable def pO:aT:=(aN (fQ (tV (ag jD (dV 3) (dV 0))) tH bA) (bP 2 (ag XZ (dV 2) (ag zQ (dC (.int 1)) (ag BO (dV 0) (dV 3))))))
noncomputable def Ct:aT:=(aN (bP 2 (dC (.int 0))) (aN (jE (nList (aR 1)) (bh 3) pO) (a8 (aR 2))))
noncomputable def ef:List PV->Option PV:=fn false 4 2 (Ct)
noncomputable def cI(jM:List PV->Option PV)(cT:Nat->List PV->Option PV):aT:=(a8 (aH jM (aa (bb (km nJ "wanted") (dV 0)) (aa (b9 (xJ (bb (km nJ "parts") (dV 0))) d5 (j6 cT (aR 0) (aa (aR 2) ay))) ay))))
noncomputable def lZ(ef:List PV->Option PV):aT:=(a8 (lI (aa (aH ef (aa (aR 1) (aa (lI (aa (bb (km nJ "name") (dV 0)) ay)) ay))) ay)))
noncomputable def fF:Nat->Nat->List PV->Option PV
 |0,_=>λ_=>none
 |n+1,0=>fn true 2 2 (lZ ef)
 |n+1,1=>fn true 2 2 (cI jM (fF n))
 |n+1,2=>fn true 2 2 (cI jM (fF n))
 |n+1,3=>fn true 2 2 (cI jM (fF n))
 |_+1,_=>λ_=>none
noncomputable def cT:Nat->List PV->Option PV:=fF 24
noncomputable def jK:aT:=(aN (fQ (tV (ag qy (dV 1) (bb bj (dV 0)))) (a8 (ag jq (dV 0) (dV 1))) bA) (a8 (dC (.int 0))))
noncomputable def F_law_cell_at:List PV->Option PV:=fn false 2 2 (jK)
noncomputable def Cu:aT:=(aN (bP 4 (dC (.str "abcdefghijklmnopqrstuvwxyz"))) (aN (bP 5 (ag jq (dV 4) (ag fW (ag dA (ag NL (dV 4) (ag jq (dV 0) (dV 1))) (ag BK (dC (.int 3)) (dV 3))) (dC (.int 26))))) (a8 (ag dA (ag dA (kl (dV 0) dR (bO (dV 1))) (dV 5)) (kl (dV 0) (bO (ag dA (dV 1) (dC (.int 1)))) (bO (dV 2)))))))
noncomputable def bS:List PV->Option PV:=fn false 6 4 (Cu)
noncomputable def ky:aT:=(aN (bP 2 (ag fW (ag dA (ag dA (ag dA (ag BK (dV 2) (dV 2)) (ag BK (dC (.int 48271)) (dV 2))) (dV 4)) (dC (.int 1))) (dC (.int 2147483647)))) (bP 3 (ag dA (dV 3) (ag jq (dC (.str "abcdefghijklmnopqrstuvwxyz")) (ag fW (dV 2) (dC (.int 26)))))))
noncomputable def Cv:aT:=(aN (bP 2 (ag fW (dV 0) (dC (.int 2147483647)))) (aN (bP 3 (dC (.str ""))) (aN (jE (iB (dV 1)) (bh 4) ky) (a8 (aR 3)))))
noncomputable def F_law_base:List PV->Option PV:=fn false 5 2 (Cv)
noncomputable def jN(F_law_cell_at bS F_law_base:List PV->Option PV):aT:=(aN (bP 10 (aH bS (aa (aR 7) (aa (ag fW (ag oQ (dV 3) (dC (.int 80))) (dV 4)) (aa (aR 4) (aa (aR 9) ay)))))) (aN (fQ (tV (ag iG (ag fW (ag oQ (dV 3) (dC (.int 20))) (dC (.int 4))) (dC (.int 1)))) (bP 10 (kl (dV 7) dR (bO (ag dA (dV 9) (dC (.int 1)))))) bA) (aN (fQ (tV (ag LV (dV 10) (fV (aa (dC (.str "all")) (aa (dC (.str "any")) (aa (dC (.str "of")) ay)))))) (bP 10 (bb PN (dV 10))) bA) (oR 8 dB (aa (aR 10) ay)))))
noncomputable def rH(F_law_cell_at bS F_law_base:List PV->Option PV):aT:=(aN (bP 3 (aH F_law_cell_at (aa (aR 0) (aa (aR 1) ay)))) (aN (bP 4 (ag dA (dC (.int 1)) (ag fW (dV 3) (dC (.int 20))))) (aN (bP 5 (aH F_law_cell_at (aa (aR 0) (aa (ag dA (dV 1) (dC (.int 1))) ay)))) (aN (bP 6 (ag jq (lI (aa (dC (.str "")) (aa (dC (.str "")) (aa (dC (.str "all")) (aa (dC (.str "")) (aa (dC (.str "any")) (aa (dC (.str "")) (aa (dC (.str "of")) (aa (dC (.str "al")) ay))))))))) (ag fW (dV 5) (dC (.int 8))))) (aN (bP 7 (kl (ag dA (dV 6) (aH F_law_base (aa (ag oQ (dV 5) (dC (.int 8))) (aa (dC (.int 20)) ay)))) dR (bO (dC (.int 20))))) (aN (k9 8 (lI ay)) (aN (jE (iB (dV 2)) (bh 9) (jN F_law_cell_at bS F_law_base)) (DJ 8))))))))
noncomputable def cU:List PV->Option PV:=fn true 11 3 (rH F_law_cell_at bS F_law_base)
noncomputable def iH:aT:=(aN (bP 6 (ag Fd (bb bj (dV 2)) (dC (.int 8)))) (aN (bP 7 (bb jF (v9 (dV 2) (bO (ag jo (bb bj (dV 2)) (dV 6))) dR))) (bP 2 (ag dA (v9 (dV 2) dR (bO (ag jo (bb bj (dV 2)) (dV 6)))) (lI (aa (fV (aa (dC (.str "some")) (aa (ag dA (dC (.int 1)) (ag oQ (dV 6) (dC (.int 2)))) (aa (aR 7) ay)))) ay))))))
noncomputable def iI:aT:=(aN (bP 4 (ag fW (dV 3) (dC (.int 9)))) (aN (bP 5 (ag fW (ag oQ (dV 3) (dC (.int 9))) (ag LU (dC (.int 10)) (dC (.int 9))))) (fQ (Bj (tV (ag qy (dV 4) (dC (.int 5)))) (tV (ag iG (bb bj (dV 2)) (dC (.int 0))))) (oR 2 dB (aa (fV (aa (dC (.str "hand")) (aa (ag jq (dV 1) (ag fW (dV 5) (bb bj (dV 1)))) ay))) ay)) (aN (bP 6 (ag dA (dC (.int 1)) (ag fW (dV 5) (ag Fd (bb bj (dV 2)) (dC (.int 4)))))) (aN (bP 7 (bb jF (v9 (dV 2) (bO (ag jo (bb bj (dV 2)) (dV 6))) dR))) (aN (k9 2 (v9 (dV 2) dR (bO (ag jo (bb bj (dV 2)) (dV 6))))) (fQ (tV (ag qy (dV 4) (dC (.int 7)))) (oR 2 dB (aa (fV (aa (ag jq (lI (aa (dC (.str "all")) (aa (dC (.str "any")) ay))) (ag jo (dV 4) (dC (.int 5)))) (aa (aR 7) ay))) ay)) (oR 2 dB (aa (fV (aa (dC (.str "some")) (aa (ag dA (dC (.int 1)) (ag fW (ag oQ (dV 5) (dC (.int 12))) (dV 6))) (aa (aR 7) ay)))) ay)))))))))
noncomputable def Cw:aT:=(aN (k9 2 (lI ay)) (aN (jE (nList (aR 0)) (bh 3) iI) (aN (fZ (tV (ag RS (bb bj (dV 2)) (dC (.int 1)))) iH 1000) (aN (fQ (tV (ag iG (bb bj (dV 2)) (dC (.int 0)))) (a8 (fV (aa (dC (.str "hand")) (aa (ag jq (dV 1) (dC (.int 0))) ay)))) bA) (a8 (ag jq (dV 2) (dC (.int 0))))))))
noncomputable def b5:List PV->Option PV:=fn false 8 2 (Cw)
noncomputable def pP(b5:List PV->Option PV):aT:=(aN (fQ (tV (ag iG (dV 3) (dC (.int 0)))) (a8 (fV (aa (dC (.str "all")) (aa (fV (aa (aR 1) (aa (aR 1) ay))) ay)))) bA) (aN (fQ (tV (ag iG (dV 3) (dC (.int 1)))) (a8 (fV (aa (dC (.str "any")) (aa (fV (aa (aR 1) (aa (fV (aa (dC (.str "all")) (aa (fV (aa (aR 1) (aa (fV (aa (dC (.str "hand")) (aa (ag jq (dV 2) (bb qx (dC (.int 1)))) ay))) ay))) ay))) ay))) ay)))) bA) (a8 (aH b5 (aa (v9 (dV 0) (bO (dC (.int 19))) (bO (dC (.int 35)))) (aa (aR 2) ay))))))
noncomputable def dG:List PV->Option PV:=fn false 4 4 (pP b5)
noncomputable def GB:aT:=(aN (fQ (Bj (tV (ag LV (dV 0) (dC (.tup [.str "all",.str "any",.str "of"])))) (lz (tV (hZ (dC (.int 1)) (bb bj (dV 0)) (dC (.int 20)))))) (a8 (dC (.bl false))) bA) (a8 (bb Td (b9 (LX (dV 0)) d5 (gD (dC (.str "a")) (dV 0) (dC (.str "z")))))))
noncomputable def fG:List PV->Option PV:=fn false 1 1 (GB)
noncomputable def rJ(fG:List PV->Option PV):aT:=(aN (fQ (lz (tV (aH fG (aa (aR 2) ay)))) tH bA) (aN (fQ (tV (ag LV (dV 2) (dV 1))) tH bA) (oR 1 dB (aa (aR 2) ay))))
noncomputable def wL(fG:List PV->Option PV):aT:=(aN (fQ (lz (tV (hZ (dC (.int 1)) (bb bj (dV 0)) (dC (.int 6))))) tH bA) (aN (k9 1 (lI ay)) (aN (jE (nList (aR 0)) (bh 2) (rJ fG)) (a8 (bb jF (dV 1))))))
noncomputable def fI:List PV->Option PV:=fn false 3 1 (wL fG)
noncomputable def dD(aF aP:List PV->Option PV):aT:=(fQ (tV (ag gz (aH aP (aa (aR 1) (aa (aR 3) ay))) (aH aP (aa (aR 2) (aa (aR 3) ay))))) (a8 (aR 3)) bA)
noncomputable def pH(aF aP:List PV->Option PV):aT:=(aN (jE (nList (aH aF (aa (aR 0) ay))) (bh 3) (dD aF aP)) (a8 (dC .non)))
noncomputable def jc:List PV->Option PV:=fn false 4 3 (pH aF aP)
noncomputable def pM:List (Str×Int):=[("all(",1),("any(",1),("1 of (",1),("2 of (",2),("3 of (",3),("4 of (",4),("5 of (",5),("6 of (",6),("7 of (",7),("8 of (",8)]
noncomputable def kF:List PV:=[.str "all(",.str "any(",.str "1 of (",.str "2 of (",.str "3 of (",.str "4 of (",.str "5 of (",.str "6 of (",.str "7 of (",.str "8 of ("]
noncomputable def i8:aT:=(aN (bP 2 (dC (.int 0))) (aN (jE (D5 (aR 0) (aR 1)) (ir (bh 3) (bh 4)) (aN (fQ (tV (ag gz (dV 3) (dV 4))) tG bA) (bP 2 (ag D9 (dV 2) (dC (.int 1)))))) (a8 (aR 2))))
noncomputable def ck:List PV->Option PV:=fn false 5 2 i8
noncomputable def vD:Den:=bb (km nJ "signs") (dV 0)
noncomputable def lR:Den:=bb (km nJ "at") (dV 0)
noncomputable def AL:Den:=bb (km nJ "words") (dV 0)
noncomputable def yo:aT:=a8 (ag iG (kl vD (bO lR) (bO (ag dA lR (dC (.int 1))))) (dV 1))
noncomputable def gh:List PV->Option PV:=fn false 2 2 yo
noncomputable def lT:dr:=eX (ue 1 (kl vD (bO lR) dR)) (eX (ue 2 (bb zR (b9 (nList AL) d5 (aH ck (aa (aR 2) (aa (aR 0) ay)))))) (eX (Cb (aR 2)) (eX (Cc (tV (ag jD (kl (dV 1) dR (bO (dV 2))) AL)) ko lO) (Ao (kl (dV 1) dR (bO (dV 2)))))))
noncomputable def d8:FQ:=r9 false 3 1 lT
noncomputable def lU:dr:=eX (Cc (lz (tV (j6 (rE gh) (aR 0) (aa (aR 1) ay)))) ko lO) (Cb (dC (.int 1)))
noncomputable def cm:FQ:=r9 false 2 2 lU
noncomputable def iu:aT:=(aN (fQ (tV (ag iG (dV 0) (dC (.str "all(")))) (a8 (bb HI (dV 1))) bA) (aN (fQ (tV (ag iG (dV 0) (dC (.str "any(")))) (a8 (bb HJ (dV 1))) bA) (a8 (ag BN (bb (Am pM) (dV 0)) (dV 1)))))
noncomputable def bf:List PV->Option PV:=fn false 2 2 iu
noncomputable def qL:c9:=Bj (tV (ag qy (bb bj (dV 2)) (dV 1))) (lz (tV (j6 (rE gh) (aR 0) (aa (dC (.str ")")) ay))))
noncomputable def qM(FT:FQ):dr:=eX (Cc (tV (ag iG (bb bj (dV 2)) (dC (.int 8)))) ko lO) (eX (pq (gr cm (aa (dC (.str ",")) ay))) (eX (pq (gr cm (aa (dC (.str " ")) ay))) (IL 2 (gr FT ay))))
noncomputable def dF(FT:FQ):dr:=eX (ug 2 (gr FT ay)) (eX (jJ qL (qM FT) 10) (eX (pq (gr cm (aa (dC (.str ")")) ay))) (Aq 2)))
noncomputable def d9(FP:FQ):dr:=eX (Ar 1 (gr d8 ay)) (eX (Cc (tV (bb (x9 pM) (dV 1))) (Ap (bb HH (dV 1))) lO) (Ax bf (aR 1) (gr FP (aa (bb (Am pM) (dV 1)) ay))))
noncomputable def cD:Nat->FQ
 |0=>λ_ _ _=>none
 |n+1=>r9 false 2 1 (d9 (r9 true 3 2 (dF (cD n))))
noncomputable def nN:dr:=Cc (tV (ag qy lR (bb bj vD))) ko lO
noncomputable def fg:FQ:=r9 false 1 1 nN
noncomputable def lV:List PV->Option Rg:=wz 3 3 (ag dA (bb v8 (dV 1)) (dC (.lst kF))) (aR 2)
noncomputable def Co:aT:=IQ 2 3 lV (cD 24) fg (aa (aR 0) (aa (aR 1) ay))
noncomputable def i9:List PV->Option PV:=fn false 4 2 Co
noncomputable def AR(cq:List PV->Option PV):aT:=(aN (fQ (tV (ag iG (ag jq (dV 0) (dC (.int 0))) (dC (.str "hand")))) (a8 (ag iG (ag xF (ag E9 (dV 2) (ag x8 (dV 1) (ag jq (dV 0) (dC (.int 1))))) (dC (.int 1))) (dC (.int 1)))) bA) (aN (bP 3 (bb bj (b9 (xJ (ag jq (dV 0) (bb qx (dC (.int 1))))) (tV (aH cq (aa (aR 0) (aa (aR 2) (aa (aR 3) ay))))) (aR 0)))) (aN (fQ (tV (ag iG (ag jq (dV 0) (dC (.int 0))) (dC (.str "all")))) (a8 (ag iG (dV 3) (bb bj (ag jq (dV 0) (dC (.int 1)))))) bA) (aN (fQ (tV (ag iG (ag jq (dV 0) (dC (.int 0))) (dC (.str "any")))) (a8 (ag RS (dV 3) (dC (.int 0)))) bA) (a8 (ag Tc (dV 3) (ag jq (dV 0) (dC (.int 1)))))))))
noncomputable def eL:Nat->List PV->Option PV
 |0=>λ_=>none
 |n+1=>fn false 4 3 (AR (eL n))
noncomputable def cq:List PV->Option PV:=eL 24
noncomputable def AS:aT:=(a8 (NJ (bb (RU 0) (dV 0)) (NK (bb (RU 1) (dV 0)))))
noncomputable def dt:List PV->Option PV:=fn false 1 1 (AS)
noncomputable def Cy(cJ:List PV->Option PV):aT:=(aN (fQ (tV (ag iG (ag jq (dV 0) (dC (.int 0))) (dC (.str "hand")))) (a8 (ag jq (dV 0) (dC (.int 1)))) bA) (aN (bP 1 (ag DK (dC (.str ", ")) (b9 (xJ (ag jq (dV 0) (bb qx (dC (.int 1))))) d5 (aH cJ (aa (aR 0) ay))))) (aN (fQ (tV (ag iG (ag jq (dV 0) (dC (.int 0))) (dC (.str "some")))) (a8 (ag dA (ag dA (ag dA (bb PQ (ag jq (dV 0) (dC (.int 1)))) (dC (.str " of ("))) (dV 1)) (dC (.str ")")))) bA) (a8 (ag dA (ag dA (ag dA (ag jq (dV 0) (dC (.int 0))) (dC (.str "("))) (dV 1)) (dC (.str ")")))))))
noncomputable def fJ:Nat->List PV->Option PV
 |0=>λ_=>none
 |n+1=>fn false 2 1 (Cy (fJ n))
noncomputable def cJ:List PV->Option PV:=fJ 24
noncomputable def lP:aT:=(a8 (b9 (iB (dC (.int 6))) (tV (ag iG (ag xF (ag E9 (dV 1) (dV 0)) (dC (.int 1))) (dC (.int 1)))) (aR 0)))
noncomputable def bT:List PV->Option PV:=fn true 1 1 (lP)
noncomputable def i3(bT:List PV->Option PV):aT:=(fQ (tV (ag gz (dV 4) (dV 5))) (a8 (ag qy (dV 4) (dV 5))) bA)
noncomputable def kq(bT:List PV->Option PV):aT:=(aN (bP 2 (aH bT (aa (aR 0) ay))) (aN (bP 3 (aH bT (aa (aR 1) ay))) (aN (fQ (tV (ag gz (bb bj (dV 2)) (bb bj (dV 3)))) (a8 (ag qy (bb bj (dV 2)) (bb bj (dV 3)))) bA) (aN (jE (BM (aR 2) (aR 3)) (ir (bh 4) (bh 5)) (i3 bT)) (a8 (dC (.bl false)))))))
noncomputable def dH:List PV->Option PV:=fn false 6 2 (kq bT)
noncomputable def Ew(F_law_cell_at cU b5 dG fI jc i9 cq dt cJ dH:List PV->Option PV)(cT:Nat->List PV->Option PV):aT:=(fQ (tV (ag gz (aH cq (aa (aR 4) (aa (aR 3) (aa (aR 12) ay)))) (aH cq (aa (aR 6) (aa (aR 3) (aa (aR 12) ay)))))) (oR 11 dB (aa (aR 12) ay)) bA)
noncomputable def N5(F_law_cell_at cU b5 dG fI jc i9 cq dt cJ dH:List PV->Option PV)(cT:Nat->List PV->Option PV):aT:=(aN (bP 1 (aH F_law_cell_at (aa (aR 0) (aa (dC (.int 0)) ay)))) (aN (bP 2 (ag dA (dC (.int 1)) (ag fW (dV 1) (dC (.int 6))))) (aN (bP 3 (aH cU (aa (aR 0) (aa (dC (.int 1)) (aa (aR 2) ay))))) (aN (bP 4 (aH b5 (aa (v9 (dV 0) (bO (dC (.int 3))) (bO (dC (.int 19)))) (aa (aR 3) ay)))) (aN (bP 5 (ag fW (ag oQ (dV 1) (dC (.int 6))) (dC (.int 5)))) (aN (fQ (tV (ag qy (dV 5) (dC (.int 2)))) (bP 4 (aH b5 (aa (v9 (dV 0) (bO (dC (.int 3))) (bO (dC (.int 11)))) (aa (aR 3) ay)))) bA) (aN (bP 6 (aH dG (aa (aR 0) (aa (aR 4) (aa (aR 3) (aa (aR 5) ay)))))) (aN (bP 7 (aH fI (aa (bb v8 (dV 3)) ay))) (aN (bP 8 (j6 cT (aH i9 (aa (aR 7) (aa (aH cJ (aa (aR 4) ay)) ay))) (aa (aR 7) ay))) (aN (bP 9 (j6 cT (aH i9 (aa (aR 7) (aa (aH cJ (aa (aR 6) ay)) ay))) (aa (aR 7) ay))) (aN (bP 10 (aH jc (aa (aR 2) (aa (aR 8) (aa (aR 9) ay))))) (aN (k9 11 (lI ay)) (aN (jE (iB (ag zQ (dC (.int 1)) (dV 2))) (bh 12) (Ew F_law_cell_at cU b5 dG fI jc i9 cq dt cJ dH cT)) (aN (fQ (Bj (tV (ag gz (ag iG (dV 8) (dV 9)) (bb vn (dV 10)))) (tV (ag gz (bb vn (dV 10)) (ag iG (bb bj (dV 11)) (dC (.int 0)))))) (a8 (dC (.bl false))) bA) (aN (fQ (tV (bb vn (dV 10))) (a8 (dC (.bl true))) bA) (aN (fQ (Bj (lz (tV (aH dt (aa (aR 10) ay)))) (tV (ag jD (dV 10) (dV 11)))) (a8 (dC (.bl false))) bA) (a8 (ag iG (bb bj (b9 (nList (dV 11)) (tV (aH dH (aa (aR 0) (aa (aR 11) ay)))) (aR 0))) (dC (.int 0))))))))))))))))))))
noncomputable def Ex:List PV->Option PV:=fn false 13 1 (N5 F_law_cell_at cU b5 dG fI jc i9 cq dt cJ dH cT)
noncomputable def top(i:Nat):Stmt:=PySem.Challenge.pw_signright_k72_whole_two_rules.main.body.getD i (.Pass ⟨0,0,0,0⟩)
noncomputable def b8(i j:Nat):Stmt:=Mr (top i) j
structure Bl(K:PySem.W.Frag)(mg:Str->Option Value):Prop where
 all:mg "all" =none
 any:mg "any" =none
 bool:mg "bool" =none
 int:mg "int" =none
 isinstance:mg "isinstance" =none
 len:mg "len" =none
 list:mg "list" =none
 max:mg "max" =none
 min:mg "min" =none
 range:mg "range" =none
 sorted:mg "sorted" =none
 str:mg "str" =none
 tuple:mg "tuple" =none
 zip:mg "zip" =none
 t_KEPT_WORDS:TJ K mg "KEPT_WORDS" ["all","any","of"]
 g_MOST_HANDS:∃t,mg "MOST_HANDS" =some (.int 6 t)
 g_MOST_PARTS:∃t,mg "MOST_PARTS" =some (.int 8 t)
 g_MOST_SIGNS:∃t,mg "MOST_SIGNS" =some (.int 20 t)
noncomputable def FL(K:PySem.W.Frag)(f:Addr)(x q:Str)(st:Stmt):Prop:=∃(oc:Value) (od:Option Addr) (sl:Array (Option Value)) (kV dc pm:Value) (an:Option Addr) (cd ct:Value),K.lookup f=some ⟨oc,od,.func (PySem.W.fnOf x q (mH st) (gX st) (ao st) .none kV dc pm an cd ct),sl⟩/\PySem.W.codeIn K cd q=true/\PySem.W.keepIn K (.ref f)=true
theorem jX{K:PySem.W.Frag}{f:Addr}{x q:Str}{st:Stmt}{oc kV dc pm cd ct:Value}{od an:Option Addr}{sl:Array (Option Value)}(l:K.lookup f=some ⟨oc,od,.func (PySem.W.fnOf x q (mH st) (gX st) (ao st) .none kV dc pm an cd ct),sl⟩)(c:PySem.W.codeIn K cd q=true)(k:PySem.W.keepIn K (.ref f)=true):FL K f x q st:=⟨_,_,_,_,_,_,_,_,_,l,c,k⟩
theorem aQ{K:PySem.W.Frag}{f:Addr}{x q:Str}{st:Stmt}(h:FL K f x q st):∃fd,L2.rq K x q st f fd:=by
 obtain⟨_,_,_,_,_,_,_,_,_,l,c,k⟩:=h
 exact⟨_,Pl l c k⟩
structure Ed(K:PySem.W.Frag)(mg:Str->Option Value)(x:Str)(st:Stmt)(ps:List Str)(f:Addr)(fd:FuncData):Prop where
 F:L2.rq K x x st f fd
 b:L2.Binds K fd ps []
 m:mg x=some (.ref f)
section
variable{P:Program}{w:World}{K:PySem.W.Frag}{mg:Str->Option Value}{base:Heap}{κ:Kl}{CR CC gq gJ gK gL fj:Addr}{rK wM wN wO wR:FuncData}{fm fq iJ jd je kz cV gM kB dI aJ b6 cg fv fw en dJ dM gN gO jf uD cW eo dN et dO AU:Addr}{ie ig jg j9 iK l6 dP jh kC eC df eV cK ij ik gi eD eQ ji jj kc yu dQ gj eE gn eR yv:FuncData}
theorem rL:aK ["group","hand"] ["group","hand"] (ao (top 12)):=⟨rfl,rfl,rfl,by decide+kernel,rfl,by decide+kernel,by decide+kernel⟩
theorem AV(B:Bl K mg)(eF:Ed K mg "has_hand" (top 12) ["group","hand"] fm ie):aG P w K mg base bL 1 fm ie ["group","hand"] (cO K κ false eY):=
 bz eF.F rL λdh A outer s H E hr=>have nd:=rL.nd;(au (bt (gc (eM hr (DE.b (xN (DE.b (BU (ae 0) (ae 1))) (DE.b av))) (DE.b av)))))
theorem rM:aK ["group"] ["group"] (ao (top 13)):=⟨rfl,rfl,rfl,by decide+kernel,rfl,by decide+kernel,by decide+kernel⟩
theorem AW(B:Bl K mg)(eG:Ed K mg "hands_of" (top 13) ["group"] fq ig)(eF:Ed K mg "has_hand" (top 12) ["group","hand"] fm ie)(nO:aG P w K mg base bL 1 fm ie ["group","hand"] (cO K κ false eY)):aG P w K mg base bL 2 fq ig ["group"] (cO K κ true eZ):=
 bz eG.F rM λdh A outer s H E hr=>have nd:=rM.nd;(au (mL (iQ (zW (DE.b (Ma (ae 0))) B.range) (ao (top 13)) ["group"] ["group"] (λex C s H=>(kn (bB (nO.mono (by decide)) hr eF.m eF.F.kp eF.b (af (aq 1) (af (aq 0) aC))))) (λex C s H=>(aq 0)))))
theorem AX:aK ["group","hands"] ["group"] (ao (top 15)):=⟨rfl,rfl,rfl,by decide+kernel,rfl,by decide+kernel,by decide+kernel⟩
theorem JM(B:Bl K mg)(gp:Ed K mg "place" (top 15) ["group"] iJ jg)(eG:Ed K mg "hands_of" (top 13) ["group"] fq ig)(nP:aG P w K mg base bL 2 fq ig ["group"] (cO K κ true eZ)):aG P w K mg base bL 3 iJ jg ["group"] (cO K κ false F_place):=
 bz gp.F AX λdh A outer s H E hr=>have nd:=AX.nd;(aj (bu 1 nd (DO.e (jw (nP.mono (by decide)) hr eG.m eG.F.kp eG.b (af (aq 0) aC)))) (au (bt (gf (af (cj (ae 1) B.len) (af (aq 1) aC))))))
theorem wU:aK ["one","two"] ["one","two"] (ao (top 16)):=⟨rfl,rfl,rfl,by decide+kernel,rfl,by decide+kernel,by decide+kernel⟩
theorem GC(B:Bl K mg)(il:Ed K mg "within" (top 16) ["one","two"] jd j9):aG P w K mg base bL 1 jd j9 ["one","two"] (cO K κ false i0):=
 bz il.F wU λdh A outer s H E hr=>have nd:=wU.nd;(au (bt (gc (eM hr (DE.b (xN (ae 0) (ae 1))) (ae 0)))))
theorem Ey:aK ["ladder","group"] ["ladder","group"] (ao (top 19)):=⟨rfl,rfl,rfl,by decide+kernel,rfl,by decide+kernel,by decide+kernel⟩
theorem M0(B:Bl K mg)(cZ:Ed K mg "lets" (top 19) ["ladder","group"] je iK)(il:Ed K mg "within" (top 16) ["one","two"] jd j9)(uE:aG P w K mg base bL 1 jd j9 ["one","two"] (cO K κ false i0)):aG P w K mg base bL 2 je iK ["ladder","group"] (cO K κ false aP):=
 bz cZ.F Ey λdh A outer s H E hr=>have nd:=Ey.nd;(au (bt (P9 (DO.b (oW (lM (ae 0)) (ao (top 19)) ["ladder","group"] ["ladder","group"] (λex C s H=>(bB (uE.mono (by decide)) hr il.m il.F.kp il.b (af (aq 0) (af (aq 2) aC)))))) B.any)))
theorem AY:aK ["groups","ladder","group"] ["groups"] (ao (top 20)):=⟨rfl,rfl,rfl,by decide+kernel,rfl,by decide+kernel,by decide+kernel⟩
theorem JN(B:Bl K mg)(jA:Ed K mg "least" (top 20) ["groups"] kz l6)(hK:f9 F_place)(gp:Ed K mg "place" (top 15) ["group"] iJ jg)(mS:aG P w K mg base bL 3 iJ jg ["group"] (cO K κ false F_place))(cZ:Ed K mg "lets" (top 19) ["ladder","group"] je iK)(jO:aG P w K mg base bL 2 je iK ["ladder","group"] (cO K κ false aP)):aG P w K mg base bL 6 kz l6 ["groups"] (cO K κ true g0):=
 bz jA.F AY λdh A outer s H E hr=>have nd:=AY.nd;(aj (mM 1 nd (jG aC)) (aj (jH (oV (DO.e (B0 mS (hr.mono (by decide)) gp.b hK B.sorted gp.m (ae 0)))) (eT 2 nd) (au (cN (nH (kn (HV (jO.mono (by decide)) hr cZ.m cZ.F.kp cZ.b (zV (ae 1) (zV (ae 2) L5))))) (au (gE 1 (af (aq 2) aC))) bH))) (au (DL 1))))
theorem pQ:aK ["count"] ["count"] (ao (top 17)):=⟨rfl,rfl,rfl,by decide+kernel,rfl,by decide+kernel,by decide+kernel⟩
theorem yw(B:Bl K mg)(bU:Ed K mg "groups_of" (top 17) ["count"] cV dP)(hK:f9 F_place)(gp:Ed K mg "place" (top 15) ["group"] iJ jg)(mS:aG P w K mg base bL 3 iJ jg ["group"] (cO K κ false F_place)):aG P w K mg base bL 6 cV dP ["count"] (cO K κ true aF):=
 bz bU.F pQ λdh A outer s H E hr=>have nd:=pQ.nd;(au (mL (B7 mS (hr.mono (by decide)) gp.b hK B.sorted B.range gp.m (DE.b (BS (DE.b av) (ae 0))))))
theorem uF:aK ["ladders","group"] ["ladders","group"] (ao (top 21)):=⟨rfl,rfl,rfl,by decide+kernel,rfl,by decide+kernel,by decide+kernel⟩
theorem Cz(B:Bl K mg)(fK:Ed K mg "letting" (top 21) ["ladders","group"] gM jh)(cZ:Ed K mg "lets" (top 19) ["ladder","group"] je iK)(jO:aG P w K mg base bL 2 je iK ["ladder","group"] (cO K κ false aP)):aG P w K mg base bL 3 gM jh ["ladders","group"] (cO K κ false dk):=
 bz fK.F uF λdh A outer s H E hr=>have nd:=uF.nd;(au (bt (cj (DO.b (iQ (lM (ae 0)) (ao (top 21)) ["ladders","group"] ["ladders","group"] (λex C s H=>(kn (bB (jO.mono (by decide)) hr cZ.m cZ.F.kp cZ.b (af (aq 0) (af (aq 2) aC))))) (λex C s H=>(aq 0)))) B.len)))
theorem Ez:aK ["many","ladders"] ["many","ladders"] (ao (top 22)):=⟨rfl,rfl,rfl,by decide+kernel,rfl,by decide+kernel,by decide+kernel⟩
theorem M1(B:Bl K mg)(gQ:Ed K mg "some" (top 22) ["many","ladders"] kB kC)(jA:Ed K mg "least" (top 20) ["groups"] kz l6)(yx:aG P w K mg base bL 6 kz l6 ["groups"] (cO K κ true g0))(bU:Ed K mg "groups_of" (top 17) ["count"] cV dP)(fL:aG P w K mg base bL 6 cV dP ["count"] (cO K κ true aF))(fK:Ed K mg "letting" (top 21) ["ladders","group"] gM jh)(qQ:aG P w K mg base bL 3 gM jh ["ladders","group"] (cO K κ false dk)):aG P w K mg base bL 7 kB kC ["many","ladders"] (cO K κ true jM):=
 bz gQ.F Ez λdh A outer s H E hr=>have nd:=Ez.nd;(au (mL (jw (yx.mono (by decide)) hr jA.m jA.F.kp jA.b (af (DO.e (iQ (lM (DO.b (jw (fL.mono (by decide)) hr bU.m bU.F.kp bU.b (af (oZ B.g_MOST_HANDS) aC)))) (ao (top 22)) ["many","ladders"] ["many","ladders"] (λex C s H=>(bE (NN (DE.b (bB (qQ.mono (by decide)) hr fK.m fK.F.kp fK.b (af (aq 2) (af (aq 0) aC)))) (ae 1)))) (λex C s H=>(aq 0)))) aC))))
theorem rN:aK ["roll","names","group","name"] ["roll","names"] (ao (top 14)):=⟨rfl,rfl,rfl,by decide+kernel,rfl,by decide+kernel,by decide+kernel⟩
theorem AZ(B:Bl K mg)(cL:Ed K mg "group_of" (top 14) ["roll","names"] dI eC):aG P w K mg base bL 1 dI eC ["roll","names"] (cO K κ false ef):=
 bz cL.F rN λdh A outer s H E hr=>have nd:=rN.nd;(aj (bu 2 nd av) (aj (jH (oV (aq 1)) (eT 3 nd) (aj (cN (bE (tO (ae 3) (ae 0))) (au pf) bH) (au (bu 2 nd (Ti (ae 2) (DE.b (BS (DE.b av) (DE.b (Iy (ae 0) (ae 3)))))))))) (au (bt (aq 2)))))
theorem iD:aK ["self","roll"] ["self","roll"] (ao (b8 27 2)):=⟨rfl,rfl,rfl,by decide+kernel,rfl,by decide+kernel,by decide+kernel⟩
theorem eO{k0:Nat}{cT:Nat->List PV->Option PV}(N6:8<=k0)(B:Bl K mg)(aX:Em K "ladder" "Counting.ladder" (b8 27 2) ["self","roll"] aJ df)(C:rD K mg κ CR CC gq gJ gK gL fj)(eS:iZ P w K mg base κ true "ladder" k0 ["self","roll"] cT)(gQ:Ed K mg "some" (top 22) ["many","ladders"] kB kC)(l7:aG P w K mg base bL 7 kB kC ["many","ladders"] (cO K κ true jM)):aG P w K mg base bL (k0+1) aJ df ["self","roll"] (cO K κ true (fn true 2 2 (cI jM cT))):=
 bz aX.F iD λdh A outer s H E hr=>have nd:=iD.nd;(au (mL (jw (l7.mono (Nat.le_trans (by decide) N6)) hr gQ.m gQ.F.kp gQ.b (af (eU C.fld (C.lg _) (ae 0)) (af (DO.e (oW (xR (DE.b (eU C.fld (C.lg _) (ae 0)))) (ao (b8 27 2)) ["self","roll"] ["self","roll"] (λex C s H=>(DO.e (xZ eS hr (aq 0) (af (aq 2) aC)))))) aC)))))
theorem lh:aK ["self","roll"] ["self","roll"] (ao (b8 26 4)):=⟨rfl,rfl,rfl,by decide+kernel,rfl,by decide+kernel,by decide+kernel⟩
theorem sf{k0:Nat}(N6:8<=k0)(B:Bl K mg)(cM:Em K "ladder" "Hand.ladder" (b8 26 4) ["self","roll"] b6 eV)(C:rD K mg κ CR CC gq gJ gK gL fj)(cL:Ed K mg "group_of" (top 14) ["roll","names"] dI eC)(gT:aG P w K mg base bL 1 dI eC ["roll","names"] (cO K κ false ef)):aG P w K mg base bL (k0+1) b6 eV ["self","roll"] (cO K κ true (fn true 2 2 (lZ ef))):=
 bz cM.F lh λdh A outer s H E hr=>have nd:=lh.nd;(au (mL (jG (af (bB (gT.mono (Nat.le_trans (by decide) N6)) hr cL.m cL.F.kp cL.b (af (aq 1) (af (DO.e (jG (af (eU C.fld (C.lg _) (ae 0)) aC))) aC))) aC))))
theorem l8:aK ["_law_script","_law_k"] ["_law_script","_law_k"] (ao (top 39)):=⟨rfl,rfl,rfl,by decide+kernel,rfl,by decide+kernel,by decide+kernel⟩
theorem uG(B:Bl K mg)(aY:Ed K mg "_law_cell_at" (top 39) ["_law_script","_law_k"] cg cK):aG P w K mg base bL 1 cg cK ["_law_script","_law_k"] (cO K κ false F_law_cell_at):=
 bz aY.F l8 λdh A outer s H E hr=>have nd:=l8.nd;(aj (cN (bE (rC (ae 1) (DE.b (cj (ae 0) B.len)))) (au (bt (d6 (ae 0) (ae 1)))) bH) (au (bt av)))
theorem rO:aK ["_law_base_here","_law_place","_law_size","_law_k","_law_letters","_law_other"] ["_law_base_here","_law_place","_law_size","_law_k"] (ao (top 43)):=⟨rfl,rfl,rfl,by decide+kernel,rfl,by decide+kernel,by decide+kernel⟩
theorem A0(B:Bl K mg)(eH:Ed K mg "_law_name" (top 43) ["_law_base_here","_law_place","_law_size","_law_k"] fv ij):aG P w K mg base bL 1 fv ij ["_law_base_here","_law_place","_law_size","_law_k"] (cO K κ false bS):=
 bz eH.F rO λdh A outer s H E hr=>have nd:=rO.nd;(aj (bu 4 nd ba) (aj (bu 5 nd (d6 (ae 4) (DE.b (eW (DE.b (cz (DE.b (Mh (ae 4) (DE.b (d6 (ae 0) (ae 1))))) (DE.b (BV (DE.b av) (ae 3))))) (DE.b av))))) (au (bt (cz (DE.b (cz (DE.b (fD (ae 0) gZ (cx (ae 1)))) (ae 5))) (DE.b (fD (ae 0) (cx (DE.b (cz (ae 1) (DE.b av)))) (cx (ae 2)))))))))
theorem rP:aK ["_law_cell","_law_size","_law_number","_law_found","_law_k"] ["_law_cell","_law_size"] (ao (top 42)):=⟨rfl,rfl,rfl,by decide+kernel,rfl,by decide+kernel,by decide+kernel⟩
theorem A2(B:Bl K mg)(eI:Ed K mg "_law_base" (top 42) ["_law_cell","_law_size"] fw ik):aG P w K mg base bL 1 fw ik ["_law_cell","_law_size"] (cO K κ false F_law_base):=
 bz eI.F rP λdh A outer s H E hr=>have nd:=rP.nd;(aj (bu 2 nd (eW (ae 0) (DE.b av))) (aj (bu 3 nd ba) (aj (jH (xS (ae 1) B.range) (eT 4 nd) (aj (bu 2 nd (eW (DE.b (cz (DE.b (cz (DE.b (cz (DE.b (BV (ae 2) (ae 2))) (DE.b (BV (DE.b av) (ae 2))))) (ae 4))) (DE.b av))) (DE.b av))) (au (bu 3 nd (cz (ae 3) (DE.b (d6 (DE.b ba) (DE.b (eW (ae 2) (DE.b av)))))))))) (au (bt (aq 3))))))
theorem pR:aK ["_law_script","_law_at","_law_many","_law_cell","_law_size","_law_more","_law_word","_law_base_here","_law_names_here","_law_k","_law_name_here"] ["_law_script","_law_at","_law_many"] (ao (top 44)):=⟨rfl,rfl,rfl,by decide+kernel,rfl,by decide+kernel,by decide+kernel⟩
theorem yy(B:Bl K mg)(du:Ed K mg "_law_names" (top 44) ["_law_script","_law_at","_law_many"] en gi)(aY:Ed K mg "_law_cell_at" (top 39) ["_law_script","_law_k"] cg cK)(c8:aG P w K mg base bL 1 cg cK ["_law_script","_law_k"] (cO K κ false F_law_cell_at))(eH:Ed K mg "_law_name" (top 43) ["_law_base_here","_law_place","_law_size","_law_k"] fv ij)(nQ:aG P w K mg base bL 1 fv ij ["_law_base_here","_law_place","_law_size","_law_k"] (cO K κ false bS))(eI:Ed K mg "_law_base" (top 42) ["_law_cell","_law_size"] fw ik)(nR:aG P w K mg base bL 1 fw ik ["_law_cell","_law_size"] (cO K κ false F_law_base)):aG P w K mg base bL 2 en gi ["_law_script","_law_at","_law_many"] (cO K κ true cU):=
 bz du.F pR λdh A outer s H E hr=>have nd:=pR.nd;(aj (bu 3 nd (bB (c8.mono (by decide)) hr aY.m aY.F.kp aY.b (af (aq 0) (af (aq 1) aC)))) (aj (bu 4 nd (cz (DE.b av) (DE.b (eW (ae 3) (DE.b av))))) (aj (bu 5 nd (bB (c8.mono (by decide)) hr aY.m aY.F.kp aY.b (af (aq 0) (af (cz (ae 1) (DE.b av)) aC)))) (aj (bu 6 nd (d6 (DO.b (jG (af ba (af ba (af ba (af ba (af ba (af ba (af ba (af ba aC)))))))))) (DE.b (eW (ae 5) (DE.b av))))) (aj (bu 7 nd (fD (DE.b (cz (ae 6) (DE.b (bB (nR.mono (by decide)) hr eI.m eI.F.kp eI.b (af (nG (ae 5) (DE.b av)) (af av aC)))))) gZ (cx (DE.b av)))) (aj (mM 8 nd (jG aC)) (aj (jH (xS (ae 2) B.range) (eT 9 nd) (aj (bu 10 nd (bB (nQ.mono (by decide)) hr eH.m eH.F.kp eH.b (af (aq 7) (af (eW (DE.b (nG (ae 3) (DE.b av))) (ae 4)) (af (aq 4) (af (aq 9) aC)))))) (aj (cN (bE (eM hr (DE.b (eW (DE.b (nG (ae 3) (DE.b av))) (DE.b av))) (DE.b av))) (au (bu 10 nd (fD (ae 7) gZ (cx (DE.b (cz (ae 9) (DE.b av))))))) bH) (aj (cN (bE (HY (ae 10) (DE.b (gf (af ba (af ba (af ba aC))))))) (au (bu 10 nd (Mq (ae 10) (DE.b (xO (DE.b av)))))) bH) (au (gE 8 (af (aq 10) aC))))))) (au (DL 8)))))))))
theorem rQ:aK ["_law_cells","_law_names_here","_law_pile","_law_cell","_law_kind","_law_more","_law_size","_law_parts"] ["_law_cells","_law_names_here"] (ao (top 45)):=⟨rfl,rfl,rfl,by decide+kernel,rfl,by decide+kernel,by decide+kernel⟩
theorem A3(B:Bl K mg)(bM:Ed K mg "_law_rule" (top 45) ["_law_cells","_law_names_here"] dJ eD):aG P w K mg base bL 1 dJ eD ["_law_cells","_law_names_here"] (cO K κ false b5):=
 bz bM.F rQ λdh A outer s H E hr=>have nd:=rQ.nd;(aj (mM 2 nd (jG aC)) (aj (jH (oV (aq 0)) (eT 3 nd) (aj (bu 4 nd (eW (ae 3) (DE.b av))) (aj (bu 5 nd (eW (DE.b (nG (ae 3) (DE.b av))) (DE.b (PZ (DE.b av) (DE.b av))))) (au (cN (DW.t (zU (bE (rC (ae 4) (DE.b av))) (tL (bE (eM hr (DE.b (cj (ae 2) B.len)) (DE.b av)))))) (au (gE 2 (af (gf (af ba (af (d6 (ae 1) (DE.b (eW (ae 5) (DE.b (cj (ae 1) B.len))))) aC))) aC))) (aj (bu 6 nd (cz (DE.b av) (DE.b (eW (ae 5) (DE.b (Ik (DE.b (cj (ae 2) B.len)) (DE.b av) B.min)))))) (aj (bu 7 nd (tZ (DO.b (iX (ae 2) (cx (DE.b (tK (DE.b (cj (ae 2) B.len)) (ae 6)))) gZ)) B.tuple)) (aj (mM 2 nd (iX (ae 2) gZ (cx (DE.b (tK (DE.b (cj (ae 2) B.len)) (ae 6)))))) (au (cN (bE (rC (ae 4) (DE.b av))) (au (gE 2 (af (gf (af (d6 (DO.b (jG (af ba (af ba aC)))) (DE.b (tK (ae 4) (DE.b av)))) (af (aq 7) aC))) aC))) (au (gE 2 (af (gf (af ba (af (cz (DE.b av) (DE.b (eW (DE.b (nG (ae 5) (DE.b av))) (ae 6)))) (af (aq 7) aC)))) aC))))))))))))) (aj (HU 1000 (bE (NM (DE.b (cj (ae 2) B.len)) (DE.b av))) (aj (bu 6 nd (Ik (DE.b (cj (ae 2) B.len)) (DE.b av) B.min)) (aj (bu 7 nd (tZ (DO.b (iX (ae 2) (cx (DE.b (tK (DE.b (cj (ae 2) B.len)) (ae 6)))) gZ)) B.tuple)) (au (bu 2 nd (cz (DO.b (iX (ae 2) gZ (cx (DE.b (tK (DE.b (cj (ae 2) B.len)) (ae 6)))))) (DO.b (jG (af (gf (af ba (af (cz (DE.b av) (DE.b (nG (ae 6) (DE.b av)))) (af (aq 7) aC)))) aC))))))))) (aj (cN (bE (eM hr (DE.b (cj (ae 2) B.len)) (DE.b av))) (au (bt (gf (af ba (af (d6 (ae 1) (DE.b av)) aC))))) bH) (au (bt (d6 (ae 2) (DE.b av))))))))
theorem nc:aK ["_law_script","_law_shape","_law_names_here","_law_kind"] ["_law_script","_law_shape","_law_names_here","_law_kind"] (ao (top 49)):=⟨rfl,rfl,rfl,by decide+kernel,rfl,by decide+kernel,by decide+kernel⟩
theorem vF(B:Bl K mg)(cX:Ed K mg "_law_second" (top 49) ["_law_script","_law_shape","_law_names_here","_law_kind"] dM eQ)(bM:Ed K mg "_law_rule" (top 45) ["_law_cells","_law_names_here"] dJ eD)(fz:aG P w K mg base bL 1 dJ eD ["_law_cells","_law_names_here"] (cO K κ false b5)):aG P w K mg base bL 2 dM eQ ["_law_script","_law_shape","_law_names_here","_law_kind"] (cO K κ false dG):=
 bz cX.F nc λdh A outer s H E hr=>have nd:=nc.nd;(aj (cN (bE (eM hr (ae 3) (DE.b av))) (au (bt (gf (af ba (af (gf (af (aq 1) (af (aq 1) aC))) aC))))) bH) (aj (cN (bE (eM hr (ae 3) (DE.b av))) (au (bt (gf (af ba (af (gf (af (aq 1) (af (gf (af ba (af (gf (af (aq 1) (af (gf (af ba (af (d6 (ae 2) (DE.b (xO (DE.b av)))) aC))) aC))) aC))) aC))) aC))))) bH) (au (bt (bB (fz.mono (by decide)) hr bM.m bM.F.kp bM.b (af (DO.e (iX (ae 0) (cx (DE.b av)) (cx (DE.b av)))) (af (aq 2) aC)))))))
theorem uH:aK ["text"] ["text"] (ao (top 10)):=⟨rfl,rfl,rfl,by decide+kernel,rfl,by decide+kernel,by decide+kernel⟩
theorem CA(B:Bl K mg)(fM:Ed K mg "is_name" (top 10) ["text"] gN ji):aG P w K mg base bL 1 gN ji ["text"] (cO K κ false fG):=
 bz fM.F uH λdh A outer s H E hr=>have nd:=uH.nd;(aj (cN (DW.t (zU (bE (HY (ae 0) (DE.b (FG B.t_KEPT_WORDS)))) (tL (nH (tT (DE.b av) (DE.b (cj (ae 0) B.len)) (DE.b (oZ B.g_MOST_SIGNS))))))) (au (bt zT)) bH) (au (bt (Qa (DO.b (oW (Ms (ae 0)) (ao (top 10)) ["text"] ["text"] (λex C s H=>(Ak (DE.b ba) (ae 0) (DE.b ba))))) B.all))))
theorem uI:aK ["names","roll","name"] ["names"] (ao (top 11)):=⟨rfl,rfl,rfl,by decide+kernel,rfl,by decide+kernel,by decide+kernel⟩
theorem CB(B:Bl K mg)(fN:Ed K mg "roll_of" (top 11) ["names"] gO jj)(fM:Ed K mg "is_name" (top 10) ["text"] gN ji)(qR:aG P w K mg base bL 1 gN ji ["text"] (cO K κ false fG)):aG P w K mg base bL 2 gO jj ["names"] (cO K κ false fI):=
 bz fN.F uI λdh A outer s H E hr=>have nd:=uI.nd;(aj (cN (nH (tT (DE.b av) (DE.b (cj (ae 0) B.len)) (DE.b (oZ B.g_MOST_HANDS)))) (au pf) bH) (aj (mM 1 nd (jG aC)) (aj (jH (oV (aq 0)) (eT 2 nd) (aj (cN (nH (kn (bB (qR.mono (by decide)) hr fM.m fM.F.kp fM.b (af (aq 2) aC)))) (au pf) bH) (aj (cN (bE (HY (ae 2) (ae 1))) (au pf) bH) (au (gE 1 (af (aq 2) aC)))))) (au (bt (tZ (ae 1) B.tuple))))))
theorem wV:aK ["count","ladder","second","group"] ["count","ladder","second"] (ao (top 23)):=⟨rfl,rfl,rfl,by decide+kernel,rfl,by decide+kernel,by decide+kernel⟩
theorem GD(B:Bl K mg)(ip:Ed K mg "parted" (top 23) ["count","ladder","second"] jf kc)(bU:Ed K mg "groups_of" (top 17) ["count"] cV dP)(fL:aG P w K mg base bL 6 cV dP ["count"] (cO K κ true aF))(cZ:Ed K mg "lets" (top 19) ["ladder","group"] je iK)(jO:aG P w K mg base bL 2 je iK ["ladder","group"] (cO K κ false aP)):aG P w K mg base bL 7 jf kc ["count","ladder","second"] (cO K κ false jc):=
 bz ip.F wV λdh A outer s H E hr=>have nd:=wV.nd;(aj (jH (oV (DO.e (jw (fL.mono (by decide)) hr bU.m bU.F.kp bU.b (af (aq 0) aC)))) (eT 3 nd) (au (cN (bE (tN hr (DE.b (bB (jO.mono (by decide)) hr cZ.m cZ.F.kp cZ.b (af (aq 1) (af (aq 3) aC)))) (DE.b (bB (jO.mono (by decide)) hr cZ.m cZ.F.kp cZ.b (af (aq 2) (af (aq 3) aC)))))) (au (bt (aq 3))) bH))) (au (bt PY)))
variable{yz uJ qS uK:Addr}{wW uL pS uM:FuncData}
theorem N7:aK ["text","word","signs","one","two"] ["text","word"] (ao (top 34)):=⟨rfl,rfl,rfl,by decide+kernel,rfl,by decide+kernel,by decide+kernel⟩
theorem TZ(hz:mg "zip" =none)(F:rq K "shared_signs" "shared_signs" (top 34) yz wW):aG P w K mg base bL 1 yz wW ["text","word"] (cO K κ false ck):=
 bz F N7 λdh A outer s H E hr=>have nd:=N7.nd;(aj (bu 2 nd av) (aj (jH (Mx (aq 0) (aq 1) hz) (DM (eT 3 nd) (eT 4 nd)) (aj (cN (bE (tN hr (ae 3) (ae 4))) (au HR) bH) (au (Ay 2 nd (DE.b av))))) (au (bt (aq 2)))))
theorem N8:aK ["self","sign"] ["self","sign"] (ao (b8 36 2)):=⟨rfl,rfl,rfl,by decide+kernel,rfl,by decide+kernel,by decide+kernel⟩
theorem T1(C:rD K mg κ CR CC gq gJ gK gL fj)(F:rq K "comes" "Reading.comes" (b8 36 2) qS pS):aG P w K mg base bL 1 qS pS ["self","sign"] (cO K κ false gh):=
 bz F N8 λdh A outer s H E hr=>have nd:=N8.nd;(au (bt (gc (eM hr (DE.b (fD (DE.b (eU C.fld (C.lg _) (ae 0))) (cx (DE.b (eU C.fld (C.lg _) (ae 0)))) (cx (DE.b (cz (DE.b (eU C.fld (C.lg _) (ae 0))) (DE.b av)))))) (ae 1)))))
theorem N9:aK ["self","rest","reach"] ["self"] (ao (b8 36 1)):=⟨rfl,rfl,rfl,by decide+kernel,rfl,by decide+kernel,by decide+kernel⟩
theorem T2(hmx:mg "max" =none)(C:rD K mg κ CR CC gq gJ gK gL fj)(F:rq K "take_word" "Reading.take_word" (b8 36 1) uJ uL)
  (Fs:rq K "shared_signs" "shared_signs" (top 34) yz wW)(ms:mg "shared_signs" =some (.ref yz))(bs:Binds K wW ["text","word"] [])(Gs:aG P w K mg base bL 1 yz wW ["text","word"] (cO K κ false ck)):aG P w K mg base bL 2 uJ uL ["self"] (vC K κ false d8):=
 Aw F N9 λdh A outer s H E hr=>have nd:=N9.nd;have q:=C.q;(dj (D8 q 1 nd (fD (DE.b (eU C.fld (C.lg _) (ae 0))) (cx (DE.b (eU C.fld (C.lg _) (ae 0)))) gZ)) (dj (D8 q 2 nd (Mo (DO.b (oW (lM (DE.b (eU C.fld (C.lg _) (ae 0)))) (ao (b8 36 1)) ["self","rest","reach"] ["self","rest","reach"] (λex C s H=>(bB (Gs.mono (by decide)) hr ms Fs.kp bs (af (aq 2) (af (aq 0) aC)))))) hmx)) (dj (IJ q (aq 2)) (dj (Au q (bE (tO (DE.b (fD (ae 1) gZ (cx (ae 2)))) (DE.b (eU C.fld (C.lg _) (ae 0))))) (gg pB) pA) (gg (MB q (fD (ae 1) gZ (cx (ae 2)))))))))
theorem Oa:aK ["self","sign"] ["self","sign"] (ao (b8 36 3)):=⟨rfl,rfl,rfl,by decide+kernel,rfl,by decide+kernel,by decide+kernel⟩
theorem T3(C:rD K mg κ CR CC gq gJ gK gL fj)(F:rq K "take_sign" "Reading.take_sign" (b8 36 3) uK uM)(hm:Meth K (κ.adr 4) "comes" qS)(bc:Binds K pS ["self","sign"] [])(Gc:aG P w K mg base bL 1 qS pS ["self","sign"] (cO K κ false gh)):aG P w K mg base bL 2 uK uM ["self","sign"] (vC K κ false cm):=
 Aw F Oa λdh A outer s H E hr=>have nd:=Oa.nd;have q:=C.q;have M:=rF C.rc C.fld hm Gc bc;(dj (Au q (nH (kn (D1 M hr (aq 0) (af (aq 1) aC)))) (gg pB) pA) (gg (IJ q av)))
variable{sk uN pT yA yB T4 fi:Addr}{pU uO ng A4 A5 Ob rK wM wN wO:FuncData}
theorem Oc:aK ["opening","parts"] ["opening","parts"] (ao (top 35)):=⟨rfl,rfl,rfl,by decide+kernel,rfl,by decide+kernel,by decide+kernel⟩
theorem T5(C:rD K mg κ CR CC gq gJ gK gL fj)(D:Al w.params K mg "FEWEST_PARTS" pM)(F:rq K "counting_rule" "counting_rule" (top 35) sk pU)
  (QQ:aG P w K mg base bL 2 gJ wM ["self","parts"] (pd K (κ.adr 1) λys=>(ys.length:Nat)))(QR:Binds K wM ["self","parts"] [])(QT:aG P w K mg base bL 2 gK wN ["self","parts"] (pd K (κ.adr 2) λ_=>1))(QU:Binds K wN ["self","parts"] [])(QV:aG P w K mg base bL 2 gL wO ["self","many","parts"] (o9 K (κ.adr 3)))(QW:Binds K wO ["self","many","parts"] []):aG P w K mg base bL 5 sk pU ["opening","parts"] (cO K κ false bf):=
 bz F Oc λdh A outer s H E hr=>have nd:=Oc.nd;(aj (cN (bE (eM hr (ae 0) (DE.b ba))) (au (bt (Ir C.kA QQ (by rw[C.fld];rfl) (hr.mono (by decide)) C.gA QR (ae 1)))) bH) (aj (cN (bE (eM hr (ae 0) (DE.b ba))) (au (bt (Iu C.kY QT (by rw[C.fld];rfl) (hr.mono (by decide)) C.gY QU (ae 1)))) bH) (au (bt (FA C.kS QV (by rw[C.fld];rfl) (hr.mono (by decide)) C.gS QW (DE.b (D7 D (ae 0))) (ae 1))))))
theorem Od:aK ["self"] ["self"] (ao (b8 36 6)):=⟨rfl,rfl,rfl,by decide+kernel,rfl,by decide+kernel,by decide+kernel⟩
theorem T6(hl:mg "len" =none)(C:rD K mg κ CR CC gq gJ gK gL fj)(F:rq K "take_end" "Reading.take_end" (b8 36 6) yA A4):aG P w K mg base bL 1 yA A4 ["self"] (vC K κ false fg):=
 Aw F Od λdh A outer s H E hr=>have nd:=Od.nd;have q:=C.q;(gg (Au q (bE (rC (DE.b (eU C.fld (C.lg _) (ae 0))) (DE.b (cj (DE.b (eU C.fld (C.lg _) (ae 0))) hl)))) (gg pB) pA))
theorem Oe:aK ["self","fewest","parts"] ["self","fewest"] (ao (b8 36 4)):=⟨rfl,rfl,rfl,by decide+kernel,rfl,by decide+kernel,by decide+kernel⟩
theorem T7{FT:FQ}{k:Nat}(hk:2<=k)(hl:mg "len" =none)(hM:∃t,mg "MOST_PARTS" =some (.int 8 t))(C:rD K mg κ CR CC gq gJ gK gL fj)(F:rq K "take_parts" "Reading.take_parts" (b8 36 4) uN uO)
  (mc:Meth K (κ.adr 4) "comes" qS)(bc:Binds K pS ["self","sign"] [])(Gc:aG P w K mg base bL 1 qS pS ["self","sign"] (cO K κ false gh))(ms:Meth K (κ.adr 4) "take_sign" uK)(bs:Binds K uM ["self","sign"] [])(Gs:aG P w K mg base bL 2 uK uM ["self","sign"] (vC K κ false cm))
  (mr:Meth K (κ.adr 4) "take_rule" pT)(br:Binds K ng ["self"] [])(Gr:aG P w K mg base bL k pT ng ["self"] (vC K κ false FT)):aG P w K mg base bL (k+1) uN uO ["self","fewest"] (vC K κ true (r9 true 3 2 (dF FT))):=
 Aw F Oe λdh A outer s H E hr=>have nd:=Oe.nd;have q:=C.q;have M:=(rF C.rc C.fld mc Gc bc).mono (Nat.le_trans (by decide) hk);have Gs:=Gs.mono hk;(dj (IM 2 nd (uf q mr Gr hr br)) (dj (IK q 10 (DW.t (zU (bE (rC (DE.b (cj (ae 2) hl)) (ae 1))) (tL (nH (kn (D1 M hr (aq 0) (af ba aC))))))) (dj (Au q (bE (eM hr (DE.b (cj (ae 2) hl)) (DE.b (oZ hM)))) (gg pB) pA) (dj (yb (sF q ms Gs hr bs (af ba aC))) (dj (yb (sF q ms Gs hr bs (af ba aC))) (gg (Qw 2 (uf q mr Gr hr br))))))) (dj (yb (sF q ms Gs hr bs (af ba aC))) (gg (MD 2)))))
theorem Of:aK ["self","word"] ["self"] (ao (b8 36 5)):=⟨rfl,rfl,rfl,by decide+kernel,rfl,by decide+kernel,by decide+kernel⟩
theorem T8{FP:FQ}{k:Nat}(hk:5<=k)(C:rD K mg κ CR CC gq gJ gK gL fj)(D:Al w.params K mg "FEWEST_PARTS" pM)(F:rq K "take_rule" "Reading.take_rule" (b8 36 5) pT ng)(GF:aG P w K mg base bL 1 gq rK ["self","name"] (qC (κ.adr 0)))(GG:Binds K rK ["self","name"] [])
  (mw:Meth K (κ.adr 4) "take_word" uJ)(bw:Binds K uL ["self"] [])(Gw:aG P w K mg base bL 2 uJ uL ["self"] (vC K κ false d8))(Fc:rq K "counting_rule" "counting_rule" (top 35) sk pU)(Vf:mg "counting_rule" =some (.ref sk))(Vg:Binds K pU ["opening","parts"] [])(Vh:aG P w K mg base bL 5 sk pU ["opening","parts"] (cO K κ false bf))
  (mp:Meth K (κ.adr 4) "take_parts" uN)(bp:Binds K uO ["self","fewest"] [])(Gp:aG P w K mg base bL k uN uO ["self","fewest"] (vC K κ true FP)):aG P w K mg base bL (k+1) pT ng ["self"] (vC K κ false (r9 false 2 1 (d9 FP))):=
 Aw F Of λdh A outer s H E hr=>have nd:=Of.nd;have q:=C.q;(dj (ME 1 nd (uf q mw (Gw.mono (Nat.le_trans (by decide) hk)) hr bw)) (dj (Au q (bE (F0 D (ae 1))) (gg (MC (Fz C.kH GF (by rw[C.fld];rfl) (hr.mono (Nat.le_trans (by decide) hk)) C.gH GG (ae 1)))) pA) (gg (MF q (Vh.mono hk) hr Vf Fc.kp Vg (aq 1) (sF q mp Gp hr bp (af (D7 D (ae 1)) aC))))))
theorem CD{k:Nat}{f:Addr}{fd:FuncData}{ps:List Str}{fr:Bool}:aG P w K mg base bL k f fd ps (vC K κ fr λ_ _ _=>none):=
 have no:∀{vs:List V} {H:Hp} {Q:VK} {E:XK},vC K κ fr (λ_ _ _=>none) vs H Q E->False:=λ⟨_,_,_,_,_,_,_,_,_,_,_,_,_,_,_,_,z,_⟩=>by cases z
 ⟨λ_ _ _ _ h=>(no h).elim,λ_ _ _ _ _ _ _ _ _ _ _ _ _ h=>(no h).elim⟩
theorem JO(hl:mg "len" =none)(hM:∃t,mg "MOST_PARTS" =some (.int 8 t))(C:rD K mg κ CR CC gq gJ gK gL fj)(D:Al w.params K mg "FEWEST_PARTS" pM)(F:rq K "take_rule" "Reading.take_rule" (b8 36 5) pT ng)(Fp:rq K "take_parts" "Reading.take_parts" (b8 36 4) uN uO)(GF:aG P w K mg base bL 1 gq rK ["self","name"] (qC (κ.adr 0)))(GG:Binds K rK ["self","name"] [])
  (mw:Meth K (κ.adr 4) "take_word" uJ)(bw:Binds K uL ["self"] [])(Gw:aG P w K mg base bL 2 uJ uL ["self"] (vC K κ false d8))(Fc:rq K "counting_rule" "counting_rule" (top 35) sk pU)(Vf:mg "counting_rule" =some (.ref sk))(Vg:Binds K pU ["opening","parts"] [])(Vh:aG P w K mg base bL 5 sk pU ["opening","parts"] (cO K κ false bf))
  (mc:Meth K (κ.adr 4) "comes" qS)(bc:Binds K pS ["self","sign"] [])(Gc:aG P w K mg base bL 1 qS pS ["self","sign"] (cO K κ false gh))(ms:Meth K (κ.adr 4) "take_sign" uK)(bs:Binds K uM ["self","sign"] [])(Gs:aG P w K mg base bL 2 uK uM ["self","sign"] (vC K κ false cm))
  (mr:Meth K (κ.adr 4) "take_rule" pT)(br:Binds K ng ["self"] [])(mp:Meth K (κ.adr 4) "take_parts" uN)(bp:Binds K uO ["self","fewest"] []):∀n:Nat,aG P w K mg base bL (4+2*n) pT ng ["self"] (vC K κ false (cD n))
 |0=>CD
 |n+1=>T8 (k:=4+2*n+1) (by omega) C D F GF GG mw bw Gw Fc Vf Vg Vh mp bp (T7 (by omega) hl hM C Fp mc bc Gc ms bs Gs mr br (JO hl hM C D F Fp GF GG mw bw Gw Fc Vf Vg Vh mc bc Gc ms bs Gs mr br mp bp n))
theorem Og:aK ["self","roll","text"] ["self","roll","text"] (ao (b8 36 0)):=⟨rfl,rfl,rfl,by decide+kernel,rfl,by decide+kernel,by decide+kernel⟩
theorem JP:(pM.map (·.1)).Nodup:=by decide+kernel
theorem T9(hL:mg "list" =none)(C:rD K mg κ CR CC gq gJ gK gL fj)(D:Al w.params K mg "FEWEST_PARTS" pM)(F:rq K "__init__" "Reading.__init__" (b8 36 0) yB A5):aG P w K mg base bL 1 yB A5 ["self","roll","text"] (MG K κ lV):=
 F4 F Og λdh A outer s H E hr=>have nd:=Og.nd;TQ C.q C.q2 (cz (DO.b (DU (ae 1) hL)) (DO.b (II D JP (by decide) hL))) (aq 2)
theorem Oh:aK ["roll","text","reading","rule"] ["roll","text"] (ao (top 37)):=⟨rfl,rfl,rfl,by decide+kernel,rfl,by decide+kernel,by decide+kernel⟩
theorem Ua(C:rD K mg κ CR CC gq gJ gK gL fj)(F:rq K "read" "read" (top 37) T4 Ob)(M:Mk K (κ.adr 4) yB)(gm:mg "Reading" =some (.ref (κ.adr 4)))(bi:Binds K A5 ["self","roll","text"] [])(Gi:aG P w K mg base bL 1 yB A5 ["self","roll","text"] (MG K κ lV))
  (mr:Meth K (κ.adr 4) "take_rule" pT)(br:Binds K ng ["self"] [])(Gr:aG P w K mg base bL 52 pT ng ["self"] (vC K κ false (cD 24)))(me:Meth K (κ.adr 4) "take_end" yA)(be:Binds K A4 ["self"] [])(Ge:aG P w K mg base bL 1 yA A4 ["self"] (vC K κ false fg)):aG P w K mg base bL 53 T4 Ob ["roll","text"] (cO K κ false i9):=
 bz F Oh λdh A outer s H E hr=>have nd:=Oh.nd;IS C.q 2 3 nd M (Gi.mono (by decide:1<=51)) hr gm bi mr Gr hr br me (Ge.mono (by decide:1<=52)) hr be (af (aq 0) (af (aq 1) aC))
theorem pV:aK ["_law_shape","_law_names_here","_law_group","_law_many"] ["_law_shape","_law_names_here","_law_group"] (ao (top 47)):=⟨rfl,rfl,rfl,by decide+kernel,rfl,by decide+kernel,by decide+kernel⟩
theorem nh(B:Bl K mg)(bx:Ed K mg "_law_holds" (top 47) ["_law_shape","_law_names_here","_law_group"] cW dQ):∀n:Nat,aG P w K mg base bL n cW dQ ["_law_shape","_law_names_here","_law_group"] (cO K κ false (eL n))
 |0=>wo
 |n+1=>have fO:=nh B bx n;bz bx.F pV λdh A outer s H E hr=>have nd:=pV.nd;(aj (cN (bE (eM hr (DE.b (d6 (ae 0) (DE.b av))) (DE.b ba))) (au (bt (gc (eM hr (DE.b (xN (DE.b (BU (ae 2) (DE.b (FK (ae 1) (DE.b (d6 (ae 0) (DE.b av))))))) (DE.b av))) (DE.b av))))) bH) (aj (bu 3 nd (cj (DO.b (iQ (xR (DE.b (d6 (ae 0) (DE.b (xO (DE.b av)))))) (ao (top 47)) ["_law_shape","_law_names_here","_law_group","_law_many"] ["_law_shape","_law_names_here","_law_group","_law_many"] (λex C s H=>(kn (bB fO hr bx.m bx.F.kp bx.b (af (aq 0) (af (aq 2) (af (aq 3) aC)))))) (λex C s H=>(aq 0)))) B.len)) (aj (cN (bE (eM hr (DE.b (d6 (ae 0) (DE.b av))) (DE.b ba))) (au (bt (gc (eM hr (ae 3) (DE.b (cj (DE.b (d6 (ae 0) (DE.b av))) B.len)))))) bH) (aj (cN (bE (eM hr (DE.b (d6 (ae 0) (DE.b av))) (DE.b ba))) (au (bt (gc (NM (ae 3) (DE.b av))))) bH) (au (bt (gc (NN (ae 3) (DE.b (d6 (ae 0) (DE.b av)))))))))))
theorem yC(B:Bl K mg)(bx:Ed K mg "_law_holds" (top 47) ["_law_shape","_law_names_here","_law_group"] cW dQ):aG P w K mg base bL 24 cW dQ ["_law_shape","_law_names_here","_law_group"] (cO K κ false cq):=nh B bx 24
theorem pW:aK ["_law_found"] ["_law_found"] (ao (top 48)):=⟨rfl,rfl,rfl,by decide+kernel,rfl,by decide+kernel,by decide+kernel⟩
theorem yD(B:Bl K mg)(dv:Ed K mg "_law_whole" (top 48) ["_law_found"] eo gj):aG P w K mg base bL 1 eo gj ["_law_found"] (cO K κ false dt):=
 bz dv.F pW λdh A outer s H E hr=>have nd:=pW.nd;(au (bt (L3 (vv (ae 0) B.isinstance B.int) (P2 (L4 (tP (ae 0) B.isinstance B.bool))))))
theorem rR:aK ["_law_shape","_law_inner"] ["_law_shape"] (ao (top 46)):=⟨rfl,rfl,rfl,by decide+kernel,rfl,by decide+kernel,by decide+kernel⟩
theorem pX(B:Bl K mg)(bI:Ed K mg "_law_text" (top 46) ["_law_shape"] dN eE):∀n:Nat,aG P w K mg base bL n dN eE ["_law_shape"] (cO K κ false (fJ n))
 |0=>wo
 |n+1=>have gU:=pX B bI n;bz bI.F rR λdh A outer s H E hr=>have nd:=rR.nd;(aj (cN (bE (eM hr (DE.b (d6 (ae 0) (DE.b av))) (DE.b ba))) (au (bt (d6 (ae 0) (DE.b av)))) bH) (aj (bu 1 nd (Mj (DE.b ba) (DO.b (oW (xR (DE.b (d6 (ae 0) (DE.b (xO (DE.b av)))))) (ao (top 46)) ["_law_shape","_law_inner"] ["_law_shape","_law_inner"] (λex C s H=>(bB gU hr bI.m bI.F.kp bI.b (af (aq 0) aC))))))) (aj (cN (bE (eM hr (DE.b (d6 (ae 0) (DE.b av))) (DE.b ba))) (au (bt (cz (DE.b (cz (DE.b (cz (DE.b (Ml (DE.b (d6 (ae 0) (DE.b av))) B.str)) (DE.b ba))) (ae 1))) (DE.b ba)))) bH) (au (bt (cz (DE.b (cz (DE.b (cz (DE.b (d6 (ae 0) (DE.b av))) (DE.b ba))) (ae 1))) (DE.b ba)))))))
theorem A6(B:Bl K mg)(bI:Ed K mg "_law_text" (top 46) ["_law_shape"] dN eE):aG P w K mg base bL 24 dN eE ["_law_shape"] (cO K κ false cJ):=pX B bI 24
theorem pY:aK ["_law_group"] ["_law_group"] (ao (top 40)):=⟨rfl,rfl,rfl,by decide+kernel,rfl,by decide+kernel,by decide+kernel⟩
theorem yE(B:Bl K mg)(cu:Ed K mg "_law_hands" (top 40) ["_law_group"] et gn):aG P w K mg base bL 1 et gn ["_law_group"] (cO K κ true bT):=
 bz cu.F pY λdh A outer s H E hr=>have nd:=pY.nd;(au (mL (iQ (zW (DE.b av) B.range) (ao (top 40)) ["_law_group"] ["_law_group"] (λex C s H=>(bE (eM hr (DE.b (xN (DE.b (BU (ae 1) (ae 0))) (DE.b av))) (DE.b av)))) (λex C s H=>(aq 0)))))
theorem ni:aK ["_law_one","_law_two","_law_here","_law_there","_law_left","_law_right"] ["_law_one","_law_two"] (ao (top 41)):=⟨rfl,rfl,rfl,by decide+kernel,rfl,by decide+kernel,by decide+kernel⟩
theorem vG(B:Bl K mg)(cY:Ed K mg "_law_before" (top 41) ["_law_one","_law_two"] dO eR)(cu:Ed K mg "_law_hands" (top 40) ["_law_group"] et gn)(jB:aG P w K mg base bL 1 et gn ["_law_group"] (cO K κ true bT)):aG P w K mg base bL 2 dO eR ["_law_one","_law_two"] (cO K κ false dH):=
 bz cY.F ni λdh A outer s H E hr=>have nd:=ni.nd;(aj (bu 2 nd (DO.e (jw (jB.mono (by decide)) hr cu.m cu.F.kp cu.b (af (aq 0) aC)))) (aj (bu 3 nd (DO.e (jw (jB.mono (by decide)) hr cu.m cu.F.kp cu.b (af (aq 1) aC)))) (aj (cN (bE (tN hr (DE.b (cj (ae 2) B.len)) (DE.b (cj (ae 3) B.len)))) (au (bt (gc (rC (DE.b (cj (ae 2) B.len)) (DE.b (cj (ae 3) B.len)))))) bH) (aj (jH (Qg (aq 2) (aq 3) B.zip) (DM (eT 4 nd) (eT 5 nd)) (au (cN (bE (tN hr (ae 4) (ae 5))) (au (bt (gc (rC (ae 4) (ae 5))))) bH))) (au (bt zT))))))
theorem JQ:aK ["_law_script","_law_first","_law_count","_law_names_here","_law_one","_law_kind","_law_two","_law_roll","_law_here","_law_there","_law_found","_law_unlike","_law_group"] ["_law_script"] (ao (top 50)):=⟨rfl,rfl,rfl,by decide+kernel,rfl,by decide+kernel,by decide+kernel⟩
theorem QX(B:Bl K mg)(JR:Ed K mg "law" (top 50) ["_law_script"] AU yv)(C:rD K mg κ CR CC gq gJ gK gL fj)(eS:iZ P w K mg base κ true "ladder" 32 ["self","roll"] cT)(aY:Ed K mg "_law_cell_at" (top 39) ["_law_script","_law_k"] cg cK)(c8:aG P w K mg base bL 1 cg cK ["_law_script","_law_k"] (cO K κ false F_law_cell_at))(du:Ed K mg "_law_names" (top 44) ["_law_script","_law_at","_law_many"] en gi)(l9:aG P w K mg base bL 2 en gi ["_law_script","_law_at","_law_many"] (cO K κ true cU))(bM:Ed K mg "_law_rule" (top 45) ["_law_cells","_law_names_here"] dJ eD)(fz:aG P w K mg base bL 1 dJ eD ["_law_cells","_law_names_here"] (cO K κ false b5))(cX:Ed K mg "_law_second" (top 49) ["_law_script","_law_shape","_law_names_here","_law_kind"] dM eQ)(kD:aG P w K mg base bL 2 dM eQ ["_law_script","_law_shape","_law_names_here","_law_kind"] (cO K κ false dG))(fN:Ed K mg "roll_of" (top 11) ["names"] gO jj)(qT:aG P w K mg base bL 2 gO jj ["names"] (cO K κ false fI))(ip:Ed K mg "parted" (top 23) ["count","ladder","second"] jf kc)(uP:aG P w K mg base bL 7 jf kc ["count","ladder","second"] (cO K κ false jc))(kE:Ed K mg "read" (top 37) ["roll","text"] uD yu)(yF:aG P w K mg base bL 53 uD yu ["roll","text"] (cO K κ false i9))(bx:Ed K mg "_law_holds" (top 47) ["_law_shape","_law_names_here","_law_group"] cW dQ)(fO:aG P w K mg base bL 24 cW dQ ["_law_shape","_law_names_here","_law_group"] (cO K κ false cq))(dv:Ed K mg "_law_whole" (top 48) ["_law_found"] eo gj)(md:aG P w K mg base bL 1 eo gj ["_law_found"] (cO K κ false dt))(bI:Ed K mg "_law_text" (top 46) ["_law_shape"] dN eE)(gU:aG P w K mg base bL 24 dN eE ["_law_shape"] (cO K κ false cJ))(cY:Ed K mg "_law_before" (top 41) ["_law_one","_law_two"] dO eR)(kG:aG P w K mg base bL 2 dO eR ["_law_one","_law_two"] (cO K κ false dH)):aG P w K mg base bL 54 AU yv ["_law_script"] (cO K κ false Ex):=
 bz JR.F JQ λdh A outer s H E hr=>have nd:=JQ.nd;(aj (bu 1 nd (bB (c8.mono (by decide)) hr aY.m aY.F.kp aY.b (af (aq 0) (af av aC)))) (aj (bu 2 nd (cz (DE.b av) (DE.b (eW (ae 1) (DE.b av))))) (aj (bu 3 nd (DO.e (jw (l9.mono (by decide)) hr du.m du.F.kp du.b (af (aq 0) (af av (af (aq 2) aC)))))) (aj (bu 4 nd (bB (fz.mono (by decide)) hr bM.m bM.F.kp bM.b (af (DO.e (iX (ae 0) (cx (DE.b av)) (cx (DE.b av)))) (af (aq 3) aC)))) (aj (bu 5 nd (eW (DE.b (nG (ae 1) (DE.b av))) (DE.b av))) (aj (cN (bE (rC (ae 5) (DE.b av))) (au (bu 4 nd (bB (fz.mono (by decide)) hr bM.m bM.F.kp bM.b (af (DO.e (iX (ae 0) (cx (DE.b av)) (cx (DE.b av)))) (af (aq 3) aC))))) bH) (aj (bu 6 nd (bB (kD.mono (by decide)) hr cX.m cX.F.kp cX.b (af (aq 0) (af (aq 4) (af (aq 3) (af (aq 5) aC)))))) (aj (bu 7 nd (bB (qT.mono (by decide)) hr fN.m fN.F.kp fN.b (af (DO.e (DU (ae 3) B.list)) aC))) (aj (bu 8 nd (DO.e (xZ (eS.mono (by decide)) hr (bB (yF.mono (by decide)) hr kE.m kE.F.kp kE.b (af (aq 7) (af (bB (gU.mono (by decide)) hr bI.m bI.F.kp bI.b (af (aq 4) aC)) aC))) (af (aq 7) aC)))) (aj (bu 9 nd (DO.e (xZ (eS.mono (by decide)) hr (bB (yF.mono (by decide)) hr kE.m kE.F.kp kE.b (af (aq 7) (af (bB (gU.mono (by decide)) hr bI.m bI.F.kp bI.b (af (aq 6) aC)) aC))) (af (aq 7) aC)))) (aj (bu 10 nd (bB (uP.mono (by decide)) hr ip.m ip.F.kp ip.b (af (aq 2) (af (aq 8) (af (aq 9) aC))))) (aj (mM 11 nd (jG aC)) (aj (jH (xS (DE.b (BS (DE.b av) (ae 2))) B.range) (eT 12 nd) (au (cN (bE (tN hr (DE.b (bB (fO.mono (by decide)) hr bx.m bx.F.kp bx.b (af (aq 4) (af (aq 3) (af (aq 12) aC))))) (DE.b (bB (fO.mono (by decide)) hr bx.m bx.F.kp bx.b (af (aq 6) (af (aq 3) (af (aq 12) aC))))))) (au (gE 11 (af (aq 12) aC))) bH))) (aj (cN (DW.t (zU (bE (tN hr (DE.b (gc (eM hr (ae 8) (ae 9)))) (DE.b (gc (BX (ae 10)))))) (tL (bE (tN hr (DE.b (gc (BX (ae 10)))) (DE.b (gc (eM hr (DE.b (cj (ae 11) B.len)) (DE.b av))))))))) (au (bt zT)) bH) (aj (cN (bE (BX (ae 10))) (au (bt zT)) bH) (aj (cN (DW.t (zU (nH (kn (bB (md.mono (by decide)) hr dv.m dv.F.kp dv.b (af (aq 10) aC)))) (tL (bE (tO (ae 10) (ae 11)))))) (au (bt zT)) bH) (au (bt (gc (eM hr (DE.b (cj (DO.b (iQ (lM (ae 11)) (ao (top 50)) ["_law_script","_law_first","_law_count","_law_names_here","_law_one","_law_kind","_law_two","_law_roll","_law_here","_law_there","_law_found","_law_unlike","_law_group"] ["_law_script","_law_first","_law_count","_law_names_here","_law_one","_law_kind","_law_two","_law_roll","_law_here","_law_there","_law_found","_law_unlike","·12"] (λex C s H=>(kn (bB (kG.mono (by decide)) hr cY.m cY.F.kp cY.b (af (aq 0) (af (aq 11) aC))))) (λex C s H=>(aq 0)))) B.len)) (DE.b av)))))))))))))))))))))
theorem uQ(B:Bl K mg)(C:rD K mg κ CR CC gq gJ gK gL fj)(aX:Em K "ladder" "Counting.ladder" (b8 27 2) ["self","roll"] aJ df)(cM:Em K "ladder" "Hand.ladder" (b8 26 4) ["self","roll"] b6 eV)(hE:Meth K (κ.adr 0) "ladder" b6)(iL:Meth K (κ.adr 1) "ladder" aJ)(iM:Meth K (κ.adr 2) "ladder" aJ)(hJ:Meth K (κ.adr 3) "ladder" aJ)(gQ:Ed K mg "some" (top 22) ["many","ladders"] kB kC)(l7:aG P w K mg base bL 7 kB kC ["many","ladders"] (cO K κ true jM))(cL:Ed K mg "group_of" (top 14) ["roll","names"] dI eC)(gT:aG P w K mg base bL 1 dI eC ["roll","names"] (cO K κ false ef)):∀n:Nat,iZ P w K mg base κ true "ladder" (8+1*n) ["self","roll"] (fF n)
 |0=>λc xs p h=>by cases h
 |n+1=>by
  have eS:=uQ B C aX cM hE iL iM hJ gQ l7 cL gT n
  have N6:8<=8+1*n:=by omega
  exact λc xs p h=>match c,h with
   |0,_=>⟨_,_,C.cls 0 (by decide),hE,by rw[C.fld];decide,sf N6 B cM C cL gT,cM.b⟩
   |1,_=>⟨_,_,C.cls 1 (by decide),iL,by rw[C.fld];decide,eO N6 B aX C eS gQ l7,aX.b⟩
   |2,_=>⟨_,_,C.cls 2 (by decide),iM,by rw[C.fld];decide,eO N6 B aX C eS gQ l7,aX.b⟩
   |3,_=>⟨_,_,C.cls 3 (by decide),hJ,by rw[C.fld];decide,eO N6 B aX C eS gQ l7,aX.b⟩
   |_+4,h=>by cases h
theorem Ub:aK ["self","name"] ["self","name"] (ao (b8 26 0)):=⟨rfl,rfl,rfl,by decide+kernel,rfl,by decide+kernel,by decide+kernel⟩
theorem Uc:aK ["self","parts"] ["self","parts"] (ao (b8 28 0)):=⟨rfl,rfl,rfl,by decide+kernel,rfl,by decide+kernel,by decide+kernel⟩
theorem Ud:aK ["self","parts"] ["self","parts"] (ao (b8 29 0)):=⟨rfl,rfl,rfl,by decide+kernel,rfl,by decide+kernel,by decide+kernel⟩
theorem Ue:aK ["self","many","parts"] ["self","many","parts"] (ao (b8 30 0)):=⟨rfl,rfl,rfl,by decide+kernel,rfl,by decide+kernel,by decide+kernel⟩
theorem Ug:aK ["self","wanted","parts"] ["self","wanted","parts"] (ao (b8 27 0)):=⟨rfl,rfl,rfl,by decide+kernel,rfl,by decide+kernel,by decide+kernel⟩
theorem Uh(B:Bl K mg)(C:rD K mg κ CR CC gq gJ gK gL fj)(d:Em K "__init__" "Hand.__init__" (b8 26 0) ["self","name"] gq rK):aG P w K mg base bL 1 gq rK ["self","name"] (qC (κ.adr 0)):=
 d.F.ok Ub (λvs H Q E h=>Ip h) λdh A outer s H vs Q E hr h=>⟨_,iF (qk (pv 0) (pv 1) rfl),Mm (C.cls 0 (by decide)) C.nn h⟩
theorem JS(B:Bl K mg)(C:rD K mg κ CR CC gq gJ gK gL fj)(c:Nat)(h0:0<c)(h4:c<4)(d:Em K "__init__" "Counting.__init__" (b8 27 0) ["self","wanted","parts"] fj wR):aG P w K mg base bL 1 fj wR ["self","wanted","parts"] (o9 K (κ.adr c)):=
 d.F.ok Ug (λvs H Q E h=>D2 h) λdh A outer s H vs Q E hr h=>⟨_,hV (qk (pv 0) (pv 1) rfl) (iF (qk (pv 0) (jY mX (by rfl) B.tuple (by decide+kernel) (aM (pv 2) bJ)) rfl)),Ql (C.cls c h4) (C.nw c h0 h4) (C.np c h0 h4) h⟩
theorem Ui(B:Bl K mg)(C:rD K mg κ CR CC gq gJ gK gL fj)(dC:Em K "__init__" "Counting.__init__" (b8 27 0) ["self","wanted","parts"] fj wR)(d:Em K "__init__" "All.__init__" (b8 28 0) ["self","parts"] gJ wM):aG P w K mg base bL 2 gJ wM ["self","parts"] (pd K (κ.adr 1) λys=>(ys.length:Nat)):=
 d.F.ok Uc (λvs H Q E h=>D3 h) λdh A outer s H vs Q E hr h=>⟨_,iF (ke (tX C.cf (JS B C 1 (by decide) (by decide) dC) hr (by rfl) C.gC dC.b (aM (pv 0) (aM (iU oI (by rfl) B.len PySem.boot_len (aM (pv 1) bJ)) (aM (pv 1) bJ))))),Io Qn h⟩
theorem Uj(B:Bl K mg)(C:rD K mg κ CR CC gq gJ gK gL fj)(dC:Em K "__init__" "Counting.__init__" (b8 27 0) ["self","wanted","parts"] fj wR)(d:Em K "__init__" "Any.__init__" (b8 29 0) ["self","parts"] gK wN):aG P w K mg base bL 2 gK wN ["self","parts"] (pd K (κ.adr 2) λ_=>1):=
 d.F.ok Ud (λvs H Q E h=>D3 h) λdh A outer s H vs Q E hr h=>⟨_,iF (ke (tX C.cf (JS B C 2 (by decide) (by decide) dC) hr (by rfl) C.gC dC.b (aM (pv 0) (aM Bp (aM (pv 1) bJ))))),Io Qo h⟩
theorem Uk(B:Bl K mg)(C:rD K mg κ CR CC gq gJ gK gL fj)(dC:Em K "__init__" "Counting.__init__" (b8 27 0) ["self","wanted","parts"] fj wR)(d:Em K "__init__" "Some.__init__" (b8 30 0) ["self","many","parts"] gL wO):aG P w K mg base bL 2 gL wO ["self","many","parts"] (o9 K (κ.adr 3)):=
 d.F.ok Ue (λvs H Q E h=>D2 h) λdh A outer s H vs Q E hr h=>⟨_,iF (ke (tX C.cf (JS B C 3 (by decide) (by decide) dC) hr (by rfl) C.gC dC.b (aM (pv 0) (aM (pv 1) (aM (pv 2) bJ))))),Qm h⟩
end
section
variable{l:PySem.W.OpenLaw}{w:World}{K:PySem.W.Frag}{h:Heap}{mg:Str->Option Value}
theorem all_mk{fa:Addr}(hK:f9 F_place)(X:K.In h)(G:h.Ns mainGlobals mg)(hfa:mg "law" =some (.ref fa))
  {qU gW c_Hand c_All c_Any c_Some c_Reading:Addr}
  {yB:Addr}
  {uJ:Addr}
  {qS:Addr}
  {uK:Addr}
  {uN:Addr}
  {pT:Addr}
  {yA:Addr}
  {yz:Addr}
  {sk:Addr}
  {M3:Addr}{JT:Array DictEntry}{Ul:Nat}
  {gq:Addr}
  {gJ:Addr}
  {gK:Addr}
  {gL:Addr}
  {fj:Addr}
  {fm:Addr}
  {fq:Addr}
  {iJ:Addr}
  {jd:Addr}
  {je:Addr}
  {kz:Addr}
  {cV:Addr}
  {gM:Addr}
  {kB:Addr}
  {dI:Addr}
  {aJ:Addr}
  {b6:Addr}
  {cg:Addr}
  {fv:Addr}
  {fw:Addr}
  {en:Addr}
  {dJ:Addr}
  {dM:Addr}
  {gN:Addr}
  {gO:Addr}
  {jf:Addr}
  {uD:Addr}
  {cW:Addr}
  {eo:Addr}
  {dN:Addr}
  {et:Addr}
  {dO:Addr}
  {AU:Addr}
  {pZ:Addr}{yG:Nat}{vH vI vJ:Tok}{vK:Array (Option Value)}
  {yH:Tok}
  {yI:Tok}
  {yJ:Tok}
  (CF:PySem.W.nsIn K mainGlobals "Rule" =some (some (.ref qU)))
  (nS:PySem.W.nsIn K mainGlobals "Counting" =some (some (.ref gW)))
  (CG:PySem.W.nsIn K mainGlobals "Hand" =some (some (.ref c_Hand)))
  (JU:PySem.W.nsIn K mainGlobals "All" =some (some (.ref c_All)))
  (JV:PySem.W.nsIn K mainGlobals "Any" =some (some (.ref c_Any)))
  (CH:PySem.W.nsIn K mainGlobals "Some" =some (some (.ref c_Some)))
  (qV:PySem.W.nsIn K mainGlobals "Reading" =some (some (.ref c_Reading)))
  (sJ:PySem.W.plainGet K c_Hand Str.empty=true)
  (sL:PySem.W.hasDictIn K c_Hand=true)
  (sM:PySem.W.plainOver K c_Hand=true)
  (sN:PySem.W.findIn K (.ref c_Hand) "__setattr__" =some (some (.builtin "object.__setattr__")))
  (yK:PySem.W.makesIn K c_Hand=true)
  (yL:PySem.W.keepIn K (.ref c_Hand)=true)
  (yM:PySem.W.findIn K (.ref c_Hand) "__class__" =some (some (.builtin "object.__class__")))
  (yN:PySem.W.mroIn K c_Hand (.type "object")=some true)
  (yO:PySem.W.kitOne K (.ref c_Hand) (.ref qU)=some true)
  (mf:PySem.W.findIn K (.ref c_Hand) "name" =some none)
  (yP:PySem.W.plainGet K c_All Str.empty=true)
  (yQ:PySem.W.hasDictIn K c_All=true)
  (yR:PySem.W.plainOver K c_All=true)
  (yS:PySem.W.findIn K (.ref c_All) "__setattr__" =some (some (.builtin "object.__setattr__")))
  (CI:PySem.W.makesIn K c_All=true)
  (CJ:PySem.W.keepIn K (.ref c_All)=true)
  (CK:PySem.W.findIn K (.ref c_All) "__class__" =some (some (.builtin "object.__class__")))
  (CL:PySem.W.mroIn K c_All (.type "object")=some true)
  (CM:PySem.W.kitOne K (.ref c_All) (.ref qU)=some true)
  (kJ:PySem.W.findIn K (.ref c_All) "wanted" =some none)
  (mh:PySem.W.findIn K (.ref c_All) "parts" =some none)
  (yT:PySem.W.plainGet K c_Any Str.empty=true)
  (yU:PySem.W.hasDictIn K c_Any=true)
  (yV:PySem.W.plainOver K c_Any=true)
  (yW:PySem.W.findIn K (.ref c_Any) "__setattr__" =some (some (.builtin "object.__setattr__")))
  (CN:PySem.W.makesIn K c_Any=true)
  (CO:PySem.W.keepIn K (.ref c_Any)=true)
  (CP:PySem.W.findIn K (.ref c_Any) "__class__" =some (some (.builtin "object.__class__")))
  (CQ:PySem.W.mroIn K c_Any (.type "object")=some true)
  (CS:PySem.W.kitOne K (.ref c_Any) (.ref qU)=some true)
  (kK:PySem.W.findIn K (.ref c_Any) "wanted" =some none)
  (mi:PySem.W.findIn K (.ref c_Any) "parts" =some none)
  (sO:PySem.W.plainGet K c_Some Str.empty=true)
  (sP:PySem.W.hasDictIn K c_Some=true)
  (sQ:PySem.W.plainOver K c_Some=true)
  (sR:PySem.W.findIn K (.ref c_Some) "__setattr__" =some (some (.builtin "object.__setattr__")))
  (yX:PySem.W.makesIn K c_Some=true)
  (yY:PySem.W.keepIn K (.ref c_Some)=true)
  (yZ:PySem.W.findIn K (.ref c_Some) "__class__" =some (some (.builtin "object.__class__")))
  (y6:PySem.W.mroIn K c_Some (.type "object")=some true)
  (y7:PySem.W.kitOne K (.ref c_Some) (.ref qU)=some true)
  (jP:PySem.W.findIn K (.ref c_Some) "wanted" =some none)
  (kM:PySem.W.findIn K (.ref c_Some) "parts" =some none)
  (nT:PySem.W.plainGet K c_Reading Str.empty=true)
  (nU:PySem.W.hasDictIn K c_Reading=true)
  (nV:PySem.W.plainOver K c_Reading=true)
  (nW:PySem.W.findIn K (.ref c_Reading) "__setattr__" =some (some (.builtin "object.__setattr__")))
  (nX:PySem.W.makesIn K c_Reading=true)
  (nY:PySem.W.keepIn K (.ref c_Reading)=true)
  (iw:PySem.W.findIn K (.ref c_Reading) "words" =some none)
  (ix:PySem.W.findIn K (.ref c_Reading) "signs" =some none)
  (kN:PySem.W.findIn K (.ref c_Reading) "at" =some none)
  (EA:PySem.W.findIn K (.ref c_Reading) "__init__" =some (some (.ref yB)))
  (EB:PySem.W.isFn K (.ref yB)=true)
  (QY:FL K yB "__init__" "Reading.__init__" (b8 36 0))
  (JW:PySem.W.findIn K (.ref c_Reading) "take_word" =some (some (.ref uJ)))
  (JX:PySem.W.isFn K (.ref uJ)=true)
  (QZ:FL K uJ "take_word" "Reading.take_word" (b8 36 1))
  (JY:PySem.W.findIn K (.ref c_Reading) "comes" =some (some (.ref qS)))
  (JZ:PySem.W.isFn K (.ref qS)=true)
  (Q0:FL K qS "comes" "Reading.comes" (b8 36 2))
  (J0:PySem.W.findIn K (.ref c_Reading) "take_sign" =some (some (.ref uK)))
  (J1:PySem.W.isFn K (.ref uK)=true)
  (Q1:FL K uK "take_sign" "Reading.take_sign" (b8 36 3))
  (J2:PySem.W.findIn K (.ref c_Reading) "take_parts" =some (some (.ref uN)))
  (J3:PySem.W.isFn K (.ref uN)=true)
  (Q2:FL K uN "take_parts" "Reading.take_parts" (b8 36 4))
  (J4:PySem.W.findIn K (.ref c_Reading) "take_rule" =some (some (.ref pT)))
  (J5:PySem.W.isFn K (.ref pT)=true)
  (Q3:FL K pT "take_rule" "Reading.take_rule" (b8 36 5))
  (J6:PySem.W.findIn K (.ref c_Reading) "take_end" =some (some (.ref yA)))
  (J7:PySem.W.isFn K (.ref yA)=true)
  (Q4:FL K yA "take_end" "Reading.take_end" (b8 36 6))
  (Q5:PySem.W.nsIn K mainGlobals "shared_signs" =some (some (.ref yz)))
  (Q6:FL K yz "shared_signs" "shared_signs" (top 34))
  (Q7:PySem.W.nsIn K mainGlobals "counting_rule" =some (some (.ref sk)))
  (Q8:FL K sk "counting_rule" "counting_rule" (top 35))
  (Q9:PySem.W.nsIn K mainGlobals "FEWEST_PARTS" =some (some (.ref M3)))
  (Ra:K.lookup M3=some ⟨.type "dict",none,.dict JT Ul,#[]⟩)
  (Rb:ph w.params JT.toList pM)
  (Rc:(M3==sysModules)=false)
  (R9:PySem.W.specialIn K (.builtin "object.__class__") "__get__" =some (some (.builtin "getset_descriptor.__get__")))
  (Sa:PySem.W.takesIn K (.builtin "object.__class__")=some true)
  (fiH:PySem.W.findIn K (.ref c_Hand) "__init__" =some (some (.ref gq)))
  (fnH:PySem.W.isFn K (.ref gq)=true)
  (Rf:FL K gq "__init__" "Hand.__init__" (b8 26 0))
  (fiA:PySem.W.findIn K (.ref c_All) "__init__" =some (some (.ref gJ)))
  (fnA:PySem.W.isFn K (.ref gJ)=true)
  (Rh:FL K gJ "__init__" "All.__init__" (b8 28 0))
  (fiY:PySem.W.findIn K (.ref c_Any) "__init__" =some (some (.ref gK)))
  (fnY:PySem.W.isFn K (.ref gK)=true)
  (Ri:FL K gK "__init__" "Any.__init__" (b8 29 0))
  (fiS:PySem.W.findIn K (.ref c_Some) "__init__" =some (some (.ref gL)))
  (fnS:PySem.W.isFn K (.ref gL)=true)
  (Rj:FL K gL "__init__" "Some.__init__" (b8 30 0))
  (fiC:PySem.W.findIn K (.ref gW) "__init__" =some (some (.ref fj)))
  (fnC:PySem.W.isFn K (.ref fj)=true)
  (Rk:FL K fj "__init__" "Counting.__init__" (b8 27 0))
  (rdC:PySem.W.readsIn K gW (.type "type")=true)
  (fcC:PySem.W.findCls K (.ref gW) (.type "type") "__init__" =some (.val (.ref fj)))
  (gaC:PySem.W.specialIn K (.ref gW) "__getattribute__" =some (some (.builtin "type.__getattribute__")))
  (hdC:PySem.W.handedIn (.ref fj)=true)
  (nZ:PySem.W.nsIn K mainGlobals "has_hand" =some (some (.ref fm)))
  (n5:FL K fm "has_hand" "has_hand" (top 12))
  (n6:PySem.W.nsIn K mainGlobals "hands_of" =some (some (.ref fq)))
  (n8:FL K fq "hands_of" "hands_of" (top 13))
  (y8:PySem.W.nsIn K mainGlobals "place" =some (some (.ref iJ)))
  (y9:FL K iJ "place" "place" (top 15))
  (uR:PySem.W.nsIn K mainGlobals "within" =some (some (.ref jd)))
  (uS:FL K jd "within" "within" (top 16))
  (CT:PySem.W.nsIn K mainGlobals "lets" =some (some (.ref je)))
  (CU:FL K je "lets" "lets" (top 19))
  (za:PySem.W.nsIn K mainGlobals "least" =some (some (.ref kz)))
  (zb:FL K kz "least" "least" (top 20))
  (mj:PySem.W.nsIn K mainGlobals "groups_of" =some (some (.ref cV)))
  (mn:FL K cV "groups_of" "groups_of" (top 17))
  (qW:PySem.W.nsIn K mainGlobals "letting" =some (some (.ref gM)))
  (qX:FL K gM "letting" "letting" (top 21))
  (CV:PySem.W.nsIn K mainGlobals "some" =some (some (.ref kB)))
  (CW:FL K kB "some" "some" (top 22))
  (og:PySem.W.nsIn K mainGlobals "group_of" =some (some (.ref dI)))
  (oh:FL K dI "group_of" "group_of" (top 14))
  (jQ:PySem.W.findIn K (.ref c_All) "ladder" =some (some (.ref aJ)))
  (jR:PySem.W.findIn K (.ref c_Any) "ladder" =some (some (.ref aJ)))
  (jk:PySem.W.findIn K (.ref c_Some) "ladder" =some (some (.ref aJ)))
  (cA:PySem.W.isFn K (.ref aJ)=true)
  (fB:FL K aJ "ladder" "Counting.ladder" (b8 27 2))
  (jl:PySem.W.findIn K (.ref c_Hand) "ladder" =some (some (.ref b6)))
  (iy:PySem.W.isFn K (.ref b6)=true)
  (jm:FL K b6 "ladder" "Hand.ladder" (b8 26 4))
  (jS:PySem.W.nsIn K mainGlobals "_law_cell_at" =some (some (.ref cg)))
  (jT:FL K cg "_law_cell_at" "_law_cell_at" (top 39))
  (oi:PySem.W.nsIn K mainGlobals "_law_name" =some (some (.ref fv)))
  (oj:FL K fv "_law_name" "_law_name" (top 43))
  (om:PySem.W.nsIn K mainGlobals "_law_base" =some (some (.ref fw)))
  (oo:FL K fw "_law_base" "_law_base" (top 42))
  (mq:PySem.W.nsIn K mainGlobals "_law_names" =some (some (.ref en)))
  (mv:FL K en "_law_names" "_law_names" (top 44))
  (oq:PySem.W.nsIn K mainGlobals "_law_rule" =some (some (.ref dJ)))
  (ot:FL K dJ "_law_rule" "_law_rule" (top 45))
  (kO:PySem.W.nsIn K mainGlobals "_law_second" =some (some (.ref dM)))
  (kP:FL K dM "_law_second" "_law_second" (top 49))
  (qY:PySem.W.nsIn K mainGlobals "is_name" =some (some (.ref gN)))
  (qZ:FL K gN "is_name" "is_name" (top 10))
  (rb:PySem.W.nsIn K mainGlobals "roll_of" =some (some (.ref gO)))
  (rf:FL K gO "roll_of" "roll_of" (top 11))
  (uT:PySem.W.nsIn K mainGlobals "parted" =some (some (.ref jf)))
  (uU:FL K jf "parted" "parted" (top 23))
  (CY:PySem.W.nsIn K mainGlobals "read" =some (some (.ref uD)))
  (CZ:FL K uD "read" "read" (top 37))
  (my:PySem.W.nsIn K mainGlobals "_law_holds" =some (some (.ref cW)))
  (mz:FL K cW "_law_holds" "_law_holds" (top 47))
  (mB:PySem.W.nsIn K mainGlobals "_law_whole" =some (some (.ref eo)))
  (mC:FL K eo "_law_whole" "_law_whole" (top 48))
  (ou:PySem.W.nsIn K mainGlobals "_law_text" =some (some (.ref dN)))
  (oy:FL K dN "_law_text" "_law_text" (top 46))
  (mD:PySem.W.nsIn K mainGlobals "_law_hands" =some (some (.ref et)))
  (mE:FL K et "_law_hands" "_law_hands" (top 40))
  (kQ:PySem.W.nsIn K mainGlobals "_law_before" =some (some (.ref dO)))
  (kR:FL K dO "_law_before" "_law_before" (top 41))
  (EC:PySem.W.nsIn K mainGlobals "law" =some (some (.ref AU)))
  (J8:FL K AU "law" "law" (top 50))
  (J9:PySem.W.nsIn K mainGlobals "all" =some none)
  (Ka:PySem.W.nsIn K mainGlobals "any" =some none)
  (C0:PySem.W.nsIn K mainGlobals "bool" =some none)
  (Kb:PySem.W.nsIn K mainGlobals "int" =some none)
  (kT:PySem.W.nsIn K mainGlobals "isinstance" =some none)
  (Kc:PySem.W.nsIn K mainGlobals "len" =some none)
  (C1:PySem.W.nsIn K mainGlobals "list" =some none)
  (Kd:PySem.W.nsIn K mainGlobals "max" =some none)
  (Ke:PySem.W.nsIn K mainGlobals "min" =some none)
  (zc:PySem.W.nsIn K mainGlobals "range" =some none)
  (uV:PySem.W.nsIn K mainGlobals "sorted" =some none)
  (Kf:PySem.W.nsIn K mainGlobals "str" =some none)
  (zd:PySem.W.nsIn K mainGlobals "tuple" =some none)
  (Kg:PySem.W.nsIn K mainGlobals "zip" =some none)
  (jU:PySem.W.nsIn K mainGlobals "KEPT_WORDS" =some (some (.ref pZ)))
  (jV:K.lookup pZ=some ⟨.type "tuple",none,.seq #[.str "all" vH,.str "any" vI,.str "of" vJ] yG,vK⟩)
  (kU:PySem.W.nsIn K mainGlobals "MOST_HANDS" =some (some (.int 6 yH)))
  (kW:PySem.W.nsIn K mainGlobals "MOST_PARTS" =some (some (.int 8 yI)))
  (kX:PySem.W.nsIn K mainGlobals "MOST_SIGNS" =some (some (.int 20 yJ)))
  :∃(κ:Kl) (fd:FuncData),(∀(s:Shared) (v:Value),BindsTo s fd ⟨[v],[]⟩ [("_law_script",v)])/\∀base:Heap,K.In base->base.Ns mainGlobals mg->aG l.prog w K mg base bL 54 fa fd ["_law_script"] (cO K κ false Ex):=by
 have e:=hfa.symm.trans (PySem.W.mg_of X G EC)
 cases e
 obtain⟨ie,rS⟩:=aQ n5
 have eF:Ed K mg "has_hand" (top 12) ["group","hand"] _ _:=⟨rS,rS.binds (ps:=["group","hand"]) λ_ _ _ _ _ _ us hl=>by obtain⟨a0,a1,rfl⟩:=jI hl;rfl,PySem.W.mg_of X G nZ⟩
 obtain⟨ig,rT⟩:=aQ n8
 have eG:Ed K mg "hands_of" (top 13) ["group"] _ _:=⟨rT,rT.binds (ps:=["group"]) λ_ _ _ _ _ _ us hl=>by obtain⟨a0,rfl⟩:=qE hl;rfl,PySem.W.mg_of X G n6⟩
 obtain⟨jg,A7⟩:=aQ y9
 have gp:Ed K mg "place" (top 15) ["group"] _ _:=⟨A7,A7.binds (ps:=["group"]) λ_ _ _ _ _ _ us hl=>by obtain⟨a0,rfl⟩:=qE hl;rfl,PySem.W.mg_of X G y8⟩
 obtain⟨j9,wX⟩:=aQ uS
 have il:Ed K mg "within" (top 16) ["one","two"] _ _:=⟨wX,wX.binds (ps:=["one","two"]) λ_ _ _ _ _ _ us hl=>by obtain⟨a0,a1,rfl⟩:=jI hl;rfl,PySem.W.mg_of X G uR⟩
 obtain⟨iK,ED⟩:=aQ CU
 have cZ:Ed K mg "lets" (top 19) ["ladder","group"] _ _:=⟨ED,ED.binds (ps:=["ladder","group"]) λ_ _ _ _ _ _ us hl=>by obtain⟨a0,a1,rfl⟩:=jI hl;rfl,PySem.W.mg_of X G CT⟩
 obtain⟨l6,A8⟩:=aQ zb
 have jA:Ed K mg "least" (top 20) ["groups"] _ _:=⟨A8,A8.binds (ps:=["groups"]) λ_ _ _ _ _ _ us hl=>by obtain⟨a0,rfl⟩:=qE hl;rfl,PySem.W.mg_of X G za⟩
 obtain⟨dP,p7⟩:=aQ mn
 have bU:Ed K mg "groups_of" (top 17) ["count"] _ _:=⟨p7,p7.binds (ps:=["count"]) λ_ _ _ _ _ _ us hl=>by obtain⟨a0,rfl⟩:=qE hl;rfl,PySem.W.mg_of X G mj⟩
 obtain⟨jh,uW⟩:=aQ qX
 have fK:Ed K mg "letting" (top 21) ["ladders","group"] _ _:=⟨uW,uW.binds (ps:=["ladders","group"]) λ_ _ _ _ _ _ us hl=>by obtain⟨a0,a1,rfl⟩:=jI hl;rfl,PySem.W.mg_of X G qW⟩
 obtain⟨kC,EE⟩:=aQ CW
 have gQ:Ed K mg "some" (top 22) ["many","ladders"] _ _:=⟨EE,EE.binds (ps:=["many","ladders"]) λ_ _ _ _ _ _ us hl=>by obtain⟨a0,a1,rfl⟩:=jI hl;rfl,PySem.W.mg_of X G CV⟩
 obtain⟨eC,rV⟩:=aQ oh
 have cL:Ed K mg "group_of" (top 14) ["roll","names"] _ _:=⟨rV,rV.binds (ps:=["roll","names"]) λ_ _ _ _ _ _ us hl=>by obtain⟨a0,a1,rfl⟩:=jI hl;rfl,PySem.W.mg_of X G og⟩
 obtain⟨df,cB⟩:=aQ fB
 have aX:Em K "ladder" "Counting.ladder" (b8 27 2) ["self","roll"] _ _:=⟨cB,cB.binds (ps:=["self","roll"]) λ_ _ _ _ _ _ us hl=>by obtain⟨a0,a1,rfl⟩:=jI hl;rfl⟩
 obtain⟨eV,iz⟩:=aQ jm
 have cM:Em K "ladder" "Hand.ladder" (b8 26 4) ["self","roll"] _ _:=⟨iz,iz.binds (ps:=["self","roll"]) λ_ _ _ _ _ _ us hl=>by obtain⟨a0,a1,rfl⟩:=jI hl;rfl⟩
 obtain⟨cK,mF⟩:=aQ jT
 have aY:Ed K mg "_law_cell_at" (top 39) ["_law_script","_law_k"] _ _:=⟨mF,mF.binds (ps:=["_law_script","_law_k"]) λ_ _ _ _ _ _ us hl=>by obtain⟨a0,a1,rfl⟩:=jI hl;rfl,PySem.W.mg_of X G jS⟩
 obtain⟨ij,rW⟩:=aQ oj
 have eH:Ed K mg "_law_name" (top 43) ["_law_base_here","_law_place","_law_size","_law_k"] _ _:=⟨rW,rW.binds (ps:=["_law_base_here","_law_place","_law_size","_law_k"]) λ_ _ _ _ _ _ us hl=>by obtain⟨a0,a1,a2,a3,rfl⟩:=TH hl;rfl,PySem.W.mg_of X G oi⟩
 obtain⟨ik,rX⟩:=aQ oo
 have eI:Ed K mg "_law_base" (top 42) ["_law_cell","_law_size"] _ _:=⟨rX,rX.binds (ps:=["_law_cell","_law_size"]) λ_ _ _ _ _ _ us hl=>by obtain⟨a0,a1,rfl⟩:=jI hl;rfl,PySem.W.mg_of X G om⟩
 obtain⟨gi,p8⟩:=aQ mv
 have du:Ed K mg "_law_names" (top 44) ["_law_script","_law_at","_law_many"] _ _:=⟨p8,p8.binds (ps:=["_law_script","_law_at","_law_many"]) λ_ _ _ _ _ _ us hl=>by obtain⟨a0,a1,a2,rfl⟩:=FD hl;rfl,PySem.W.mg_of X G mq⟩
 obtain⟨eD,rY⟩:=aQ ot
 have bM:Ed K mg "_law_rule" (top 45) ["_law_cells","_law_names_here"] _ _:=⟨rY,rY.binds (ps:=["_law_cells","_law_names_here"]) λ_ _ _ _ _ _ us hl=>by obtain⟨a0,a1,rfl⟩:=jI hl;rfl,PySem.W.mg_of X G oq⟩
 obtain⟨eQ,nj⟩:=aQ kP
 have cX:Ed K mg "_law_second" (top 49) ["_law_script","_law_shape","_law_names_here","_law_kind"] _ _:=⟨nj,nj.binds (ps:=["_law_script","_law_shape","_law_names_here","_law_kind"]) λ_ _ _ _ _ _ us hl=>by obtain⟨a0,a1,a2,a3,rfl⟩:=TH hl;rfl,PySem.W.mg_of X G kO⟩
 obtain⟨ji,uX⟩:=aQ qZ
 have fM:Ed K mg "is_name" (top 10) ["text"] _ _:=⟨uX,uX.binds (ps:=["text"]) λ_ _ _ _ _ _ us hl=>by obtain⟨a0,rfl⟩:=qE hl;rfl,PySem.W.mg_of X G qY⟩
 obtain⟨jj,uY⟩:=aQ rf
 have fN:Ed K mg "roll_of" (top 11) ["names"] _ _:=⟨uY,uY.binds (ps:=["names"]) λ_ _ _ _ _ _ us hl=>by obtain⟨a0,rfl⟩:=qE hl;rfl,PySem.W.mg_of X G rb⟩
 obtain⟨kc,wY⟩:=aQ uU
 have ip:Ed K mg "parted" (top 23) ["count","ladder","second"] _ _:=⟨wY,wY.binds (ps:=["count","ladder","second"]) λ_ _ _ _ _ _ us hl=>by obtain⟨a0,a1,a2,rfl⟩:=FD hl;rfl,PySem.W.mg_of X G uT⟩
 obtain⟨yu,EF⟩:=aQ CZ
 have kE:Ed K mg "read" (top 37) ["roll","text"] _ _:=⟨EF,EF.binds (ps:=["roll","text"]) λ_ _ _ _ _ _ us hl=>by obtain⟨a0,a1,rfl⟩:=jI hl;rfl,PySem.W.mg_of X G CY⟩
 obtain⟨dQ,p9⟩:=aQ mz
 have bx:Ed K mg "_law_holds" (top 47) ["_law_shape","_law_names_here","_law_group"] _ _:=⟨p9,p9.binds (ps:=["_law_shape","_law_names_here","_law_group"]) λ_ _ _ _ _ _ us hl=>by obtain⟨a0,a1,a2,rfl⟩:=FD hl;rfl,PySem.W.mg_of X G my⟩
 obtain⟨gj,qa⟩:=aQ mC
 have dv:Ed K mg "_law_whole" (top 48) ["_law_found"] _ _:=⟨qa,qa.binds (ps:=["_law_found"]) λ_ _ _ _ _ _ us hl=>by obtain⟨a0,rfl⟩:=qE hl;rfl,PySem.W.mg_of X G mB⟩
 obtain⟨eE,rZ⟩:=aQ oy
 have bI:Ed K mg "_law_text" (top 46) ["_law_shape"] _ _:=⟨rZ,rZ.binds (ps:=["_law_shape"]) λ_ _ _ _ _ _ us hl=>by obtain⟨a0,rfl⟩:=qE hl;rfl,PySem.W.mg_of X G ou⟩
 obtain⟨gn,qb⟩:=aQ mE
 have cu:Ed K mg "_law_hands" (top 40) ["_law_group"] _ _:=⟨qb,qb.binds (ps:=["_law_group"]) λ_ _ _ _ _ _ us hl=>by obtain⟨a0,rfl⟩:=qE hl;rfl,PySem.W.mg_of X G mD⟩
 obtain⟨eR,nq⟩:=aQ kR
 have cY:Ed K mg "_law_before" (top 41) ["_law_one","_law_two"] _ _:=⟨nq,nq.binds (ps:=["_law_one","_law_two"]) λ_ _ _ _ _ _ us hl=>by obtain⟨a0,a1,rfl⟩:=jI hl;rfl,PySem.W.mg_of X G kQ⟩
 obtain⟨yv,C3⟩:=aQ J8
 have JR:Ed K mg "law" (top 50) ["_law_script"] _ _:=⟨C3,C3.binds (ps:=["_law_script"]) λ_ _ _ _ _ _ us hl=>by obtain⟨a0,rfl⟩:=qE hl;rfl,PySem.W.mg_of X G EC⟩
 obtain⟨rK,Oi⟩:=aQ Rf
 have Um:Em K "__init__" "Hand.__init__" (b8 26 0) ["self","name"] _ _:=⟨Oi,Oi.binds (ps:=["self","name"]) λ_ _ _ _ _ _ us hl=>by obtain⟨a0,a1,rfl⟩:=jI hl;rfl⟩
 obtain⟨wM,Oj⟩:=aQ Rh
 have Uo:Em K "__init__" "All.__init__" (b8 28 0) ["self","parts"] _ _:=⟨Oj,Oj.binds (ps:=["self","parts"]) λ_ _ _ _ _ _ us hl=>by obtain⟨a0,a1,rfl⟩:=jI hl;rfl⟩
 obtain⟨wN,Ol⟩:=aQ Ri
 have Uq:Em K "__init__" "Any.__init__" (b8 29 0) ["self","parts"] _ _:=⟨Ol,Ol.binds (ps:=["self","parts"]) λ_ _ _ _ _ _ us hl=>by obtain⟨a0,a1,rfl⟩:=jI hl;rfl⟩
 obtain⟨wO,Om⟩:=aQ Rj
 have Ur:Em K "__init__" "Some.__init__" (b8 30 0) ["self","many","parts"] _ _:=⟨Om,Om.binds (ps:=["self","many","parts"]) λ_ _ _ _ _ _ us hl=>by obtain⟨a0,a1,a2,rfl⟩:=FD hl;rfl⟩
 obtain⟨wR,Kh⟩:=aQ Rk
 have Rl:Em K "__init__" "Counting.__init__" (b8 27 0) ["self","wanted","parts"] _ _:=⟨Kh,Kh.binds (ps:=["self","wanted","parts"]) λ_ _ _ _ _ _ us hl=>by obtain⟨a0,a1,a2,rfl⟩:=FD hl;rfl⟩
 have B:Bl K mg:=⟨PySem.W.mg_none_of X G J9,PySem.W.mg_none_of X G Ka,PySem.W.mg_none_of X G C0,PySem.W.mg_none_of X G Kb,PySem.W.mg_none_of X G kT,PySem.W.mg_none_of X G Kc,PySem.W.mg_none_of X G C1,PySem.W.mg_none_of X G Kd,PySem.W.mg_none_of X G Ke,PySem.W.mg_none_of X G zc,PySem.W.mg_none_of X G uV,PySem.W.mg_none_of X G Kf,PySem.W.mg_none_of X G zd,PySem.W.mg_none_of X G Kg,⟨_,_,_,_,PySem.W.mg_of X G jU,jV,rfl,rfl,(show(3:Nat)<=sizeLine by decide),rfl,.cons ⟨_,rfl⟩ (.cons ⟨_,rfl⟩ (.cons ⟨_,rfl⟩ (.nil)))⟩,⟨_,PySem.W.mg_of X G kU⟩,⟨_,PySem.W.mg_of X G kW⟩,⟨_,PySem.W.mg_of X G kX⟩⟩
 let κ:Kl:=⟨λc=>match c with|0=>c_Hand|1=>c_All|2=>c_Any|3=>c_Some|_=>c_Reading,nJ⟩
 have C:rD K mg κ qU gW gq gJ gK gL fj:=⟨rfl,λc hc=>match c,hc with|0,_=>⟨sJ,sL,sM,sN⟩|1,_=>⟨yP,yQ,yR,yS⟩|2,_=>⟨yT,yU,yV,yW⟩|3,_=>⟨sO,sP,sQ,sR⟩|_+4,hc=>absurd hc (by omega),mf,λc h0 hc=>match c,h0,hc with|0,h0,_=>absurd h0 (by omega)|1,_,_=>kJ|2,_,_=>kK|3,_,_=>jP|_+4,_,hc=>absurd hc (by omega),λc h0 hc=>match c,h0,hc with|0,h0,_=>absurd h0 (by omega)|1,_,_=>mh|2,_,_=>mi|3,_,_=>kM|_+4,_,hc=>absurd hc (by omega),⟨yK,fiH,fnH,yL⟩,⟨CI,fiA,fnA,CJ⟩,⟨CN,fiY,fnY,CO⟩,⟨yX,fiS,fnS,yY⟩,PySem.W.mg_of X G CG,PySem.W.mg_of X G JU,PySem.W.mg_of X G JV,PySem.W.mg_of X G CH,⟨⟨_,rdC,fcC⟩,gaC,hdC,Kh.kp⟩,PySem.W.mg_of X G nS,λc hc=>match c,hc with|0,_=>⟨⟨sJ,sL,sM,sN⟩,yM,R9,Sa,yN,yO⟩|1,_=>⟨⟨yP,yQ,yR,yS⟩,CK,R9,Sa,CL,CM⟩|2,_=>⟨⟨yT,yU,yV,yW⟩,CP,R9,Sa,CQ,CS⟩|3,_=>⟨⟨sO,sP,sQ,sR⟩,yZ,R9,Sa,y6,y7⟩|_+4,hc=>absurd hc (by omega),PySem.W.mg_of X G CF,⟨nT,nU,nV,nW⟩,iw,ix,kN⟩
 obtain⟨A5,Ki⟩:=aQ QY
 have W9:=Ki.binds (ps:=["self","roll","text"]) (λ_ _ _ _ _ _ us hl=>by obtain⟨a0,a1,a2,rfl⟩:=FD hl;rfl)
 have aag:Meth K (κ.adr 4) "__init__" yB:=⟨EA,EB,Ki.kp⟩
 obtain⟨uL,Kj⟩:=aQ QZ
 have Xa:=Kj.binds (ps:=["self"]) (λ_ _ _ _ _ _ us hl=>by obtain⟨a0,rfl⟩:=qE hl;rfl)
 have Xb:Meth K (κ.adr 4) "take_word" uJ:=⟨JW,JX,Kj.kp⟩
 obtain⟨pS,Kk⟩:=aQ Q0
 have Us:=Kk.binds (ps:=["self","sign"]) (λ_ _ _ _ _ _ us hl=>by obtain⟨a0,a1,rfl⟩:=jI hl;rfl)
 have Ut:Meth K (κ.adr 4) "comes" qS:=⟨JY,JZ,Kk.kp⟩
 obtain⟨uM,Km⟩:=aQ Q1
 have Xc:=Km.binds (ps:=["self","sign"]) (λ_ _ _ _ _ _ us hl=>by obtain⟨a0,a1,rfl⟩:=jI hl;rfl)
 have Xd:Meth K (κ.adr 4) "take_sign" uK:=⟨J0,J1,Km.kp⟩
 obtain⟨uO,Kn⟩:=aQ Q2
 have Xe:=Kn.binds (ps:=["self","fewest"]) (λ_ _ _ _ _ _ us hl=>by obtain⟨a0,a1,rfl⟩:=jI hl;rfl)
 have Xf:Meth K (κ.adr 4) "take_parts" uN:=⟨J2,J3,Kn.kp⟩
 obtain⟨ng,Ko⟩:=aQ Q3
 have Uu:=Ko.binds (ps:=["self"]) (λ_ _ _ _ _ _ us hl=>by obtain⟨a0,rfl⟩:=qE hl;rfl)
 have Uv:Meth K (κ.adr 4) "take_rule" pT:=⟨J4,J5,Ko.kp⟩
 obtain⟨A4,Kq⟩:=aQ Q4
 have Xg:=Kq.binds (ps:=["self"]) (λ_ _ _ _ _ _ us hl=>by obtain⟨a0,rfl⟩:=qE hl;rfl)
 have Xh:Meth K (κ.adr 4) "take_end" yA:=⟨J6,J7,Kq.kp⟩
 obtain⟨wW,Kr⟩:=aQ Q6
 have Cp:=Kr.binds (ps:=["text","word"]) (λ_ _ _ _ _ _ us hl=>by obtain⟨a0,a1,rfl⟩:=jI hl;rfl)
 have Xi:mg "shared_signs" =some (.ref yz):=PySem.W.mg_of X G Q5
 obtain⟨pU,Ks⟩:=aQ Q8
 have Xj:=Ks.binds (ps:=["opening","parts"]) (λ_ _ _ _ _ _ us hl=>by obtain⟨a0,a1,rfl⟩:=jI hl;rfl)
 have Xk:mg "counting_rule" =some (.ref sk):=PySem.W.mg_of X G Q7
 have D:Al w.params K mg "FEWEST_PARTS" pM:=⟨M3,JT,Ul,PySem.W.mg_of X G Q9,Ra,Rb,Rc⟩
 refine⟨κ,yv,λs v=>(by obtain⟨_,_,_,_,_,_,_,_,_,e,_⟩:=C3.ex;rw[e];exact .of_eq rfl),λbase _ _=>?_⟩
 have GF:=Uh (P:=l.prog) (w:=w) (base:=base) B C Um
 have GG:=Um.b
 have QQ:=Ui (P:=l.prog) (w:=w) (base:=base) B C Rl Uo
 have QR:=Uo.b
 have QT:=Uj (P:=l.prog) (w:=w) (base:=base) B C Rl Uq
 have QU:=Uq.b
 have QV:=Uk (P:=l.prog) (w:=w) (base:=base) B C Rl Ur
 have QW:=Ur.b
 have nO:=AV (P:=l.prog) (w:=w) (base:=base) (κ:=κ) B eF
 have nP:=AW (P:=l.prog) (w:=w) (base:=base) (κ:=κ) B eG eF nO
 have mS:=JM (P:=l.prog) (w:=w) (base:=base) (κ:=κ) B gp eG nP
 have uE:=GC (P:=l.prog) (w:=w) (base:=base) (κ:=κ) B il
 have jO:=M0 (P:=l.prog) (w:=w) (base:=base) (κ:=κ) B cZ il uE
 have yx:=JN (P:=l.prog) (w:=w) (base:=base) (κ:=κ) B jA hK gp mS cZ jO
 have fL:=yw (P:=l.prog) (w:=w) (base:=base) (κ:=κ) B bU hK gp mS
 have qQ:=Cz (P:=l.prog) (w:=w) (base:=base) (κ:=κ) B fK cZ jO
 have l7:=M1 (P:=l.prog) (w:=w) (base:=base) (κ:=κ) B gQ jA yx bU fL fK qQ
 have gT:=AZ (P:=l.prog) (w:=w) (base:=base) (κ:=κ) B cL
 have hE:Meth K (κ.adr 0) "ladder" b6:=⟨jl,iy,iz.kp⟩
 have iL:Meth K (κ.adr 1) "ladder" aJ:=⟨jQ,cA,cB.kp⟩
 have iM:Meth K (κ.adr 2) "ladder" aJ:=⟨jR,cA,cB.kp⟩
 have hJ:Meth K (κ.adr 3) "ladder" aJ:=⟨jk,cA,cB.kp⟩
 have eS:iZ l.prog w K mg base κ true "ladder" 32 _ cT:=uQ (P:=l.prog) (w:=w) (base:=base) B C aX cM hE iL iM hJ gQ l7 cL gT 24
 have c8:=uG (P:=l.prog) (w:=w) (base:=base) (κ:=κ) B aY
 have nQ:=A0 (P:=l.prog) (w:=w) (base:=base) (κ:=κ) B eH
 have nR:=A2 (P:=l.prog) (w:=w) (base:=base) (κ:=κ) B eI
 have l9:=yy (P:=l.prog) (w:=w) (base:=base) (κ:=κ) B du aY c8 eH nQ eI nR
 have fz:=A3 (P:=l.prog) (w:=w) (base:=base) (κ:=κ) B bM
 have kD:=vF (P:=l.prog) (w:=w) (base:=base) (κ:=κ) B cX bM fz
 have qR:=CA (P:=l.prog) (w:=w) (base:=base) (κ:=κ) B fM
 have qT:=CB (P:=l.prog) (w:=w) (base:=base) (κ:=κ) B fN fM qR
 have uP:=GD (P:=l.prog) (w:=w) (base:=base) (κ:=κ) B ip bU fL cZ jO
 have Xl:=TZ (P:=l.prog) (w:=w) (base:=base) (κ:=κ) B.zip Kr
 have Uw:=T1 (P:=l.prog) (w:=w) (base:=base) (κ:=κ) C Kk
 have Xm:=T2 (P:=l.prog) (w:=w) (base:=base) (κ:=κ) B.max C Kj Kr Xi Cp Xl
 have Xn:=T3 (P:=l.prog) (w:=w) (base:=base) (κ:=κ) C Km Ut Us Uw
 have Xo:=T5 (P:=l.prog) (w:=w) (base:=base) (κ:=κ) C D Ks QQ QR QT QU QV QW
 have Xp:=T6 (P:=l.prog) (w:=w) (base:=base) (κ:=κ) B.len C Kq
 have Xq:=JO (P:=l.prog) (w:=w) (base:=base) (κ:=κ) B.len B.g_MOST_PARTS C D Ko Kn GF GG Xb Xa Xm Ks Xk Xj Xo Ut Us Uw Xd Xc Xn Uv Uu Xf Xe 24
 have Xr:=T9 (P:=l.prog) (w:=w) (base:=base) (κ:=κ) B.list C D Ki
 have yF:=Ua (P:=l.prog) (w:=w) (base:=base) (κ:=κ) C kE.F ⟨nX,EA,EB,nY⟩ (PySem.W.mg_of X G qV) W9 Xr Uv Uu Xq Xh Xg Xp
 have fO:=yC (P:=l.prog) (w:=w) (base:=base) (κ:=κ) B bx
 have md:=yD (P:=l.prog) (w:=w) (base:=base) (κ:=κ) B dv
 have gU:=A6 (P:=l.prog) (w:=w) (base:=base) (κ:=κ) B bI
 have jB:=yE (P:=l.prog) (w:=w) (base:=base) (κ:=κ) B cu
 have kG:=vG (P:=l.prog) (w:=w) (base:=base) (κ:=κ) B cY cu jB
 have Ux:=QX (P:=l.prog) (w:=w) (base:=base) (κ:=κ) B JR C eS aY c8 du l9 bM fz cX kD fN qT ip uP kE yF bx fO dv md bI gU cY kG
 exact Ux
end
noncomputable def M4(x:Str):Prop:=Lw x/\1<=x.length/\x.length<=20
theorem kZ{i:Nat}{body:aT}{x:PV}{xs:List PV}{ρ ρ':cH}(h:body (ρ.set i (.sh x))=some (.nx ρ')):forL (bh i) body (x::xs) ρ=forL (bh i) body xs ρ':=by
 rw[pE]
 show(body (ρ.set i (.sh x))).bind _=_
 rw[h]
 rfl
theorem GH(x:Str)(n:Nat)(h:x.length<=n):(bZ x none (some (n:Int)) 1).length=x.length:=by
 have e:Builtin.Str.strSliceIndices none (some (n:Int)) 1 x.length=(List.range x.length).map (0+·):=by
  have:=PySem.sliceRange_one 0 x.length
  rw[Nat.sub_zero]at this
  rw[<-this]
  unfold Builtin.Str.strSliceIndices
  simp only
  congr 1
  rw[if_pos (by decide),if_neg (by omega)]
  omega
 unfold bZ
 rw[e]
 rw[if_pos (by rw[List.length_map,List.length_range];simp)]
theorem GI(s0 s1:Slot){m:Int}(h0:0<=m)(h1:m<2147483647){x:Str}(hx:x.length<=100)(k:Nat):∃m' x',0<=m'/\m'<2147483647/\x'.length=x.length+1/\(Lw x->Lw x')/\ky [s0,s1,.sh (.int m),.sh (.str x),.sh (.int k)]=some (.nx [s0,s1,.sh (.int m'),.sh (.str x'),.sh (.int k)]):=by
 have e1:ag fW (ag dA (ag dA (ag dA (ag BK (dV 2) (dV 2)) (ag BK (dC (.int 48271)) (dV 2))) (dV 4)) (dC (.int 1))) (dC (.int 2147483647)) [s0,s1,.sh (.int m),.sh (.str x),.sh (.int k)]=some (.int ((m*m+48271*m+k+1) % 2147483647)):=by
  refine(ai (x:=.int (m*m+48271*m+k+1)) (y:=.int 2147483647) ?_ rfl).trans (AH _ (by decide))
  refine(ai (x:=.int (m*m+48271*m+k)) (y:=.int 1) ?_ rfl).trans rfl
  refine(ai (x:=.int (m*m+48271*m)) (y:=.int k) ?_ rfl).trans rfl
  refine(ai ((ai (x:=.int m) (y:=.int m) rfl rfl).trans (qJ (by omega) (by omega))) ((ai (x:=.int 48271) (y:=.int m) rfl rfl).trans (qJ (by omega) (by omega)))).trans rfl
 have b1:=Int.emod_nonneg (m*m+48271*m+k+1) (show(2147483647:Int)≠0 by decide)
 have b2:=Int.emod_lt_of_pos (m*m+48271*m+k+1) (show(0:Int)<2147483647 by decide)
 generalize(m*m+48271*m+k+1) % 2147483647=m' at e1 b1 b2
 have b3:=mod_lt m' (n:=26) (by decide)
 have ey:=wJ b3
 refine⟨m',x++kx ((m' %((26:Nat):Int)).toNat),b1,b2,by rw[cy];rfl,λh=>ym h (Ej b3),(ak (aU e1)).trans (aU ?_)⟩
 refine(ai (x:=.str x) (y:=.str (kx ((m' %((26:Nat):Int)).toNat))) rfl ?_).trans (dq _ _ (by show x.length+1<=_;omega))
 exact(ai (x:=.str mW) rfl ((ai (x:=.int m') (y:=.int ((26:Nat):Int)) rfl rfl).trans (dU _ (by decide)))).trans ey
theorem A9(s0 s1:Slot):∀(ks:List Nat) (m:Int) (x:Str) (s4:Slot),0<=m->m<2147483647->x.length+ks.length<=100->
  ∃m' x' t4,x'.length=x.length+ks.length/\(Lw x->Lw x')/\forL (bh 4) ky (pl ks) [s0,s1,.sh (.int m),.sh (.str x),s4]=some (.nx [s0,s1,.sh (.int m'),.sh (.str x'),t4])
 |[],m,x,s4,_,_,_=>⟨m,x,s4,rfl,id,rfl⟩
 |k::ks,m,x,s4,h0,h1,h2=>by
  rw[List.length_cons]at h2
  obtain⟨m1,x1,a1,a2,a3,a5,a4⟩:=GI s0 s1 h0 h1 (x:=x) (by omega) k
  obtain⟨m2,x2,t4,b1,b3,b2⟩:=A9 s0 s1 ks m1 x1 (.sh (.int k)) a1 a2 (by omega)
  refine⟨m2,x2,t4,by rw[b1,a3,List.length_cons];omega,λh=>b3 (a5 h),Eq.trans ?_ b2⟩
  exact kZ (i:=4) (x:=.int k) (xs:=pl ks) (ρ:=[s0,s1,.sh (.int m),.sh (.str x),s4]) a4
theorem M5(c:Int):∃x:Str,x.length=20/\Lw x/\F_law_base [.int c,.int 20]=some (.str x):=by
 have b3:=Int.emod_nonneg c (show(2147483647:Int)≠0 by decide)
 have b4:=Int.emod_lt_of_pos c (show(0:Int)<2147483647 by decide)
 have e1:ag fW (dV 0) (dC (.int 2147483647)) [.sh (.int c),.sh (.int 20),.un,.un,.un]=some (.int (c % 2147483647)):=(ai (x:=.int c) (y:=.int 2147483647) rfl rfl).trans (AH _ (by decide))
 generalize c % 2147483647=m at e1 b3 b4
 obtain⟨m',x',t4,h1,h3,h2⟩:=A9 (.sh (.int c)) (.sh (.int 20)) (List.range 20) m "" .un b3 b4 (by decide)
 refine⟨x',by rw[h1];decide,h3 (Jo (by decide+kernel)),cP rfl ?_⟩
 refine(ak (aU e1)).trans ((ak (aU (p:=.str "") rfl)).trans ?_)
 exact(ak ((g9 (pJ (n:=20) rfl (by decide))).trans h2)).trans rfl
theorem M6{b:Str}{place size:Nat}(h1:place<b.length)(h2:b.length<=100):∃F:Int,∀k:Nat,k<=1000->bS [.str b,.int place,.int size,.int k]=some (.str ((bZ b none (some (place:Int)) 1++kx ((F+3*(k:Int)) %((26:Nat):Int)).toNat)++bZ b (some ((place+1:Nat):Int)) (some (size:Int)) 1)):=by
 obtain⟨c,hc,ec⟩:=QC (x:=b) (i:=place) h1 (by omega)
 refine⟨Txt.find mW c,λk h3=>?_⟩
 have b3:=mod_lt (Txt.find mW c+3*(k:Int)) (n:=26) (by decide)
 have ey:=wJ b3
 have c1:=yk b none (some (place:Int)) (st:=1) (by decide)
 have c2:=yk b (some ((place+1:Nat):Int)) (some (size:Int)) (st:=1) (by decide)
 refine cP rfl ?_
 refine(ak (aU (p:=.str mW) rfl)).trans ((ak (aU (p:=.str (kx ((Txt.find mW c+3*(k:Int)) %((26:Nat):Int)).toNat)) ?_)).trans (bV ?_))
 ·refine(ai (x:=.str mW) rfl ((ai (x:=.int (Txt.find mW c+3*(k:Int))) (y:=.int ((26:Nat):Int)) ?_ rfl).trans (dU _ (by decide)))).trans ey
  refine(ai (x:=.int (Txt.find mW c)) (y:=.int (3*(k:Int))) ?_ ((ai (x:=.int 3) (y:=.int k) rfl rfl).trans (qJ (by decide) (by decide)))).trans rfl
  exact(ai (x:=.str mW) rfl ((ai (x:=.str b) (y:=.int place) rfl rfl).trans ec)).trans rfl
 ·have hj:∀j,(kx j).length=1:=λ_=>rfl
  have hj:=hj ((Txt.find mW c+3*(k:Int)) %((26:Nat):Int)).toNat
  refine(ai ((ai (y:=.str (kx ((Txt.find mW c+3*(k:Int)) %((26:Nat):Int)).toNat)) (i7 (y:=b) rfl rfl rfl (by omega)) rfl).trans (dq _ _ (by omega))) (i7 (y:=b) (l:=some ((place+1:Nat):Int)) rfl rfl rfl (by omega))).trans (dq _ _ (by rw[cy];omega))
noncomputable def uZ:List PV:=[.str "",.str "",.str "all",.str "",.str "any",.str "",.str "of",.str "al"]
theorem GJ:((List.range 8).all λi=>match itemAt uZ (i:Int)with|some (.str w)=>decide (w.length<=3)&&W2 w|_=>false)=true:=by decide+kernel
theorem Kt{i:Nat}(h:i<8):∃w:Str,w.length<=3/\Lw w/\jq (.lst uZ) (.int i)=some (.str w):=by
 have:=List.all_eq_true.mp GJ i (List.mem_range.mpr h)
 show∃w:Str,w.length<=3/\Lw w/\itemAt uZ (i:Int)=some (.str w)
 split at this
 ·rename_i w e
  rw[Bool.and_eq_true]at this
  exact⟨w,of_decide_eq_true this.1,Jo this.2,e⟩
 ·cases this
noncomputable def y2(cell:Int)(b:Str)(place size:Nat)(F:Int)(k:Nat):Str:=if decide (cell/20 % 4=1)=true then bZ b none (some ((k+1:Nat):Int)) 1 else(bZ b none (some (place:Int)) 1++kx ((F+3*(k:Int)) %((26:Nat):Int)).toNat)++bZ b (some ((place+1:Nat):Int)) (some (size:Int)) 1
theorem M7{x:Str}{a b:Nat}(h:a<=b)(hb:b<=x.length):(bZ x (some (a:Int)) (some (b:Int)) 1).length=b-a:=by
 have e:=Rq.uz h hb (Rq.Jv a b x.length h hb)
 have:=congrArg List.length e
 rw[List.length_take,List.length_drop,Array.length_toList,Array.length_toList]at this
 show(bZ x (some (a:Int)) (some (b:Int)) 1).cps.size=_
 have:x.cps.size=x.length:=rfl
 omega
theorem Ku:(R7.all λx=>!decide (bZ x none none (-1)∈R7))=true:=by decide+kernel
theorem Kv(y:Str):k8 (.str (fin y)) kept=false:=by
 unfold fin
 by_cases h:k8 (.str y) kept=true
 ·rw[if_pos h,pL]
  rw[pL]at h
  have:=List.all_eq_true.mp Ku y (of_decide_eq_true h)
  simpa using this
 ·rw[if_neg h]
  simpa using h
theorem Oo{cell:Int}{b:Str}{place size:Nat}{F:Int}(hb:b.length=20)(ab:Lw b)(hp:place<size)(hs:size<=20)(k:Nat):M4 (y2 cell b place size F k):=by
 have c1:=um b place (by omega)
 have c2:=M7 (x:=b) (a:=place+1) (b:=size) (by omega) (by omega)
 have c3:=yk b none (some ((k+1:Nat):Int)) (st:=1) (by decide)
 unfold y2
 split
 ·refine⟨yn ab _ _ _,?_,by omega⟩
  by_cases Vi:k+1<=b.length
  ·rw[um b (k+1) Vi];omega
  ·rw[GH b (k+1) (by omega)];omega
 ·have hj:(kx ((F+3*(k:Int)) %((26:Nat):Int)).toNat).length=1:=rfl
  exact⟨ym (ym (yn ab _ _ _) (Ej (mod_lt _ (by decide)))) (yn ab _ _ _),by rw[cy,cy,hj];omega,by rw[cy,cy,hj];omega⟩
theorem Uy{cell:Int}{b:Str}{place size:Nat}{F:Int}(hb:b.length=20){j k:Nat}(hj:j<6)(hk:k<6)(h:j≠k):fin (y2 cell b place size F j)≠fin (y2 cell b place size F k):=by
 unfold y2
 cases decide (cell/20 % 4=1)with
 |true=>
  rw[if_pos rfl,if_pos rfl]
  intro e
  have:=congrArg Str.length e
  rw[sI,sI,um b (j+1) (by omega),um b (k+1) (by omega)]at this
  omega
 |false=>
  rw[if_neg Bool.noConfusion,if_neg Bool.noConfusion]
  exact QH (MP _ _ (by omega))
section
variable{F_law_cell_at bS F_law_base:List PV->Option PV}(hC:∀(ns:List Int) (k:Nat),F_law_cell_at [m9 ns,.int k]=some (.int (ns.getD k 0)))
 (hB:∀c:Int,∃x:Str,x.length=20/\Lw x/\F_law_base [.int c,.int 20]=some (.str x))
theorem C4(s0 s1 s2 s5 s6:Slot)(cell:Int){s:Nat}(Uz:0<s)(hs:s<=20){b:Str}(hb:b.length=20)(ab:Lw b){F:Int}(acc:List Str)(F1:acc.length<=1000)(k:Nat)(u0:Slot)
  (e1:bS [.str b,.int ((cell/80 %(s:Int)).toNat:Nat),.int s,.int k]=some (.str ((bZ b none (some ((cell/80 %(s:Int)).toNat:Int)) 1++kx ((F+3*(k:Int)) %((26:Nat):Int)).toNat)++bZ b (some (((cell/80 %(s:Int)).toNat+1:Nat):Int)) (some (s:Int)) 1))):
  jN F_law_cell_at bS F_law_base [s0,s1,s2,.sh (.int cell),.sh (.int s),s5,s6,.sh (.str b),.ow (acc.map PV.str),.sh (.int k),u0]=some (.nx [s0,s1,s2,.sh (.int cell),.sh (.int s),s5,s6,.sh (.str b),.ow ((acc++[fin (y2 cell b (cell/80 %(s:Int)).toNat s F k)]).map PV.str),.sh (.int k),.sh (.str (fin (y2 cell b (cell/80 %(s:Int)).toNat s F k)))]):=by
 have zl:(5000:Nat)<=sizeLine:=by decide
 obtain⟨_,_,l2⟩:=Oo (cell:=cell) (place:=(cell/80 %(s:Int)).toNat) (size:=s) (F:=F) hb ab (mod_lt _ Uz) hs k
 have bX:(fQ (tV (ag iG (ag fW (ag oQ (dV 3) (dC (.int 20))) (dC (.int 4))) (dC (.int 1)))) (bP 10 (kl (dV 7) dR (bO (ag dA (dV 9) (dC (.int 1)))))) bA) [s0,s1,s2,.sh (.int cell),.sh (.int s),s5,s6,.sh (.str b),.ow (acc.map PV.str),.sh (.int k),.sh (.str ((bZ b none (some ((cell/80 %(s:Int)).toNat:Int)) 1++kx ((F+3*(k:Int)) %((26:Nat):Int)).toNat)++bZ b (some (((cell/80 %(s:Int)).toNat+1:Nat):Int)) (some (s:Int)) 1))]=some (.nx [s0,s1,s2,.sh (.int cell),.sh (.int s),s5,s6,.sh (.str b),.ow (acc.map PV.str),.sh (.int k),.sh (.str (y2 cell b (cell/80 %(s:Int)).toNat s F k))]):=by
  unfold y2
  generalize((bZ b none (some ((cell/80 %(s:Int)).toNat:Int)) 1++kx ((F+3*(k:Int)) %((26:Nat):Int)).toNat)++bZ b (some (((cell/80 %(s:Int)).toNat+1:Nat):Int)) (some (s:Int)) 1)=y1
  have t:tV (ag iG (ag fW (ag oQ (dV 3) (dC (.int 20))) (dC (.int 4))) (dC (.int 1))) [s0,s1,s2,.sh (.int cell),.sh (.int s),s5,s6,.sh (.str b),.ow (acc.map PV.str),.sh (.int k),.sh (.str y1)]=some (decide (cell/20 % 4=1)):=bF rfl
  cases hd:decide (cell/20 % 4=1)
  ·rw[hd]at t
   exact(cc t).trans rfl
  ·rw[hd]at t
   refine(d7 t).trans (aU ?_)
   exact i7 (y:=b) (h:=some ((k+1:Nat):Int)) rfl rfl rfl (by omega)
 generalize y2 cell b (cell/80 %(s:Int)).toNat s F k=y at bX l2
 have sv:(fQ (tV (ag LV (dV 10) (fV (aa (dC (.str "all")) (aa (dC (.str "any")) (aa (dC (.str "of")) ay)))))) (bP 10 (bb PN (dV 10))) bA) [s0,s1,s2,.sh (.int cell),.sh (.int s),s5,s6,.sh (.str b),.ow (acc.map PV.str),.sh (.int k),.sh (.str y)]=some (.nx [s0,s1,s2,.sh (.int cell),.sh (.int s),s5,s6,.sh (.str b),.ow (acc.map PV.str),.sh (.int k),.sh (.str (fin y))]):=by
  have tt:fV (aa (dC (.str "all")) (aa (dC (.str "any")) (aa (dC (.str "of")) ay))) [s0,s1,s2,.sh (.int cell),.sh (.int s),s5,s6,.sh (.str b),.ow (acc.map PV.str),.sh (.int k),.sh (.str y)]=some (.tup kept):=by
   show(if(3:Nat)<=sizeLine then some (PV.tup kept)else none)=_
   rw[if_pos (by omega)]
  have t:tV (ag LV (dV 10) (fV (aa (dC (.str "all")) (aa (dC (.str "any")) (aa (dC (.str "of")) ay))))) [s0,s1,s2,.sh (.int cell),.sh (.int s),s5,s6,.sh (.str b),.ow (acc.map PV.str),.sh (.int k),.sh (.str y)]=some (k8 (.str y) kept):=bF ((ai (x:=.str y) rfl tt).trans rfl)
  unfold fin
  cases hd:k8 (.str y) kept
  ·rw[hd]at t
   exact(cc t).trans rfl
  ·rw[hd]at t
   refine(d7 t).trans (aU ?_)
   show(if y.length<=sizeLine then some (PV.str (bZ y none none (-1)))else none)=_
   rw[if_pos (by omega)]
   rfl
 refine(ak (aU ((a9 (aB (x:=.str b) rfl (aB ((ai (x:=.int (cell/80)) (y:=.int s) rfl rfl).trans (dU _ Uz)) (aB (x:=.int s) rfl (aB (x:=.int k) rfl rfl))))).trans e1))).trans ?_
 refine(ak bX).trans ((ak sv).trans ?_)
 show((if(acc.map PV.str).length<sizeLine then some (acc.map PV.str++[PV.str (fin y)])else none).map λl'=>Fl.nx [s0,s1,s2,.sh (.int cell),.sh (.int s),s5,s6,.sh (.str b),.ow l',.sh (.int k),.sh (.str (fin y))])=_
 rw[if_pos (by rw[List.length_map];omega),List.map_append]
 rfl
theorem wZ(s0 s1 s2 s5 s6:Slot)(cell:Int){s:Nat}(Uz:0<s)(hs:s<=20){b:Str}(hb:b.length=20)(ab:Lw b){F:Int}
  (e1:∀k:Nat,k<=1000->bS [.str b,.int ((cell/80 %(s:Int)).toNat:Nat),.int s,.int k]=some (.str ((bZ b none (some ((cell/80 %(s:Int)).toNat:Int)) 1++kx ((F+3*(k:Int)) %((26:Nat):Int)).toNat)++bZ b (some (((cell/80 %(s:Int)).toNat+1:Nat):Int)) (some (s:Int)) 1))):
  ∀(ks:List Nat) (acc:List Str) (s9 u0:Slot),(∀k∈ks,k<=1000)->acc.length+ks.length<=1000->
  ∃(t9 Vj:Slot),forL (bh 9) (jN F_law_cell_at bS F_law_base) (pl ks) [s0,s1,s2,.sh (.int cell),.sh (.int s),s5,s6,.sh (.str b),.ow (acc.map PV.str),s9,u0]=some (.nx [s0,s1,s2,.sh (.int cell),.sh (.int s),s5,s6,.sh (.str b),.ow ((acc++ks.map λk=>fin (y2 cell b (cell/80 %(s:Int)).toNat s F k)).map PV.str),t9,Vj])
 |[],acc,s9,u0,_,_=>⟨s9,u0,by rw[List.map_nil,List.append_nil];rfl⟩
 |k::ks,acc,s9,u0,h1,h2=>by
  rw[List.length_cons]at h2
  have e:=C4 (F_law_cell_at:=F_law_cell_at) (F_law_base:=F_law_base) s0 s1 s2 s5 s6 cell Uz hs hb ab acc (by omega) k u0 (e1 k (h1 k (List.mem_cons_self ..)))
  obtain⟨t9,Vj,q3⟩:=wZ s0 s1 s2 s5 s6 cell Uz hs hb ab e1 ks (acc++[fin (y2 cell b (cell/80 %(s:Int)).toNat s F k)]) (.sh (.int k)) (.sh (.str (fin (y2 cell b (cell/80 %(s:Int)).toNat s F k)))) (λx hx=>h1 x (List.mem_cons_of_mem _ hx)) (by rw[List.length_append,List.length_singleton];omega)
  rw[List.append_assoc,List.singleton_append]at q3
  refine⟨t9,Vj,Eq.trans ?_ q3⟩
  exact kZ (i:=9) (x:=.int k) (xs:=pl ks) (ρ:=[s0,s1,s2,.sh (.int cell),.sh (.int s),s5,s6,.sh (.str b),.ow (acc.map PV.str),s9,u0]) e
include hC hB in
theorem GK(hN:∀{b:Str} {place size:Nat},place<b.length->b.length<=100->∃F:Int,∀k:Nat,k<=1000->bS [.str b,.int place,.int size,.int k]=some (.str ((bZ b none (some (place:Int)) 1++kx ((F+3*(k:Int)) %((26:Nat):Int)).toNat)++bZ b (some ((place+1:Nat):Int)) (some (size:Int)) 1)))
  (ns:List Int)(a many:Nat)(hm:many<=6):∃f:Nat->Str,(∀k,M4 (f k)/\k8 (.str (f k)) kept=false)/\(∀j k,j<6->k<6->j≠k->f j≠f k)/\fn true 11 3 (rH F_law_cell_at bS F_law_base) [m9 ns,.int a,.int many]=some (.lst (((List.range many).map f).map PV.str)):=by
 have zl:(5000:Nat)<=sizeLine:=by decide
 have hs:=mod_lt (ns.getD a 0) (n:=20) (by decide)
 have hw:=mod_lt (ns.getD (a+1) 0) (n:=8) (by decide)
 obtain⟨w,lw,aw,ew⟩:=Kt hw
 obtain⟨x,lx,ax,ex⟩:=hB (ns.getD (a+1) 0/8)
 have lb:(bZ (w++x) none (some ((20:Nat):Int)) 1).length=20:=um (w++x) 20 (by rw[cy];omega)
 have ab:Lw (bZ (w++x) none (some ((20:Nat):Int)) 1):=yn (ym aw ax) _ _ _
 generalize eb:bZ (w++x) none (some ((20:Nat):Int)) 1=b at lb ab
 have hp:=mod_lt (ns.getD a 0/80) (n:=1+(ns.getD a 0 %((20:Nat):Int)).toNat) (by omega)
 obtain⟨F,hF⟩:=hN (b:=b) (place:=(ns.getD a 0/80 %((1+(ns.getD a 0 %((20:Nat):Int)).toNat:Nat):Int)).toNat) (size:=1+(ns.getD a 0 %((20:Nat):Int)).toNat) (by omega) (by omega)
 obtain⟨t9,Vj,q3⟩:=wZ (F_law_cell_at:=F_law_cell_at) (F_law_base:=F_law_base) (.sh (m9 ns)) (.sh (.int a)) (.sh (.int many)) (.sh (.int (ns.getD (a+1) 0))) (.sh (.str w)) (ns.getD a 0) (s:=1+(ns.getD a 0 %((20:Nat):Int)).toNat) (by omega) (by omega) lb ab hF (List.range many) [] .un .un (λk hk=>by have:=List.mem_range.mp hk;omega) (by rw[List.length_range];simp;omega)
 rw[List.nil_append]at q3
 refine⟨λk=>fin (y2 (ns.getD a 0) b (ns.getD a 0/80 %((1+(ns.getD a 0 %((20:Nat):Int)).toNat:Nat):Int)).toNat (1+(ns.getD a 0 %((20:Nat):Int)).toNat) F k),λk=>?_,λj k hj hk h=>Uy lb hj hk h,cP rfl ?_⟩
 ·obtain⟨o1,o2,o3⟩:=Oo (cell:=ns.getD a 0) (place:=(ns.getD a 0/80 %((1+(ns.getD a 0 %((20:Nat):Int)).toNat:Nat):Int)).toNat) (size:=1+(ns.getD a 0 %((20:Nat):Int)).toNat) (F:=F) lb ab (by omega) (by omega) k
  exact⟨⟨QG o1,by rw[sI];exact o2,by rw[sI];exact o3⟩,Kv _⟩
 refine(ak (aU ((a9 (ps:=[m9 ns,.int a]) rfl).trans (hC ns a)))).trans ?_
 refine(ak (aU (p:=.int ((1+(ns.getD a 0 %((20:Nat):Int)).toNat:Nat):Int)) ((ai (x:=.int ((1:Nat):Int)) rfl ((ai (x:=.int (ns.getD a 0)) (y:=.int ((20:Nat):Int)) rfl rfl).trans (dU _ (by decide)))).trans rfl))).trans ?_
 refine(ak (aU ((a9 (ps:=[m9 ns,.int ((a+1:Nat):Int)]) rfl).trans (hC ns (a+1))))).trans ?_
 generalize ns.getD (a+1) 0=more at*
 generalize ns.getD a 0=cell at*
 have ew':ag jq (lI (aa (dC (.str "")) (aa (dC (.str "")) (aa (dC (.str "all")) (aa (dC (.str "")) (aa (dC (.str "any")) (aa (dC (.str "")) (aa (dC (.str "of")) (aa (dC (.str "al")) ay))))))))) (ag fW (dV 5) (dC (.int 8))) [.sh (m9 ns),.sh (.int a),.sh (.int many),.sh (.int cell),.sh (.int ((1+(cell %((20:Nat):Int)).toNat:Nat):Int)),.sh (.int more),.un,.un,.un,.un,.un]=some (.str w):=by
  refine(ai (x:=.lst uZ) ?_ ((ai (x:=.int more) (y:=.int ((8:Nat):Int)) rfl rfl).trans (dU _ (by decide)))).trans ew
  show(if(8:Nat)<=sizeLine then some (PV.lst uZ)else none)=_
  rw[if_pos (by omega)]
 refine(ak (aU ew')).trans ?_
 refine(ak (aU (p:=.str b) ?_)).trans ?_
 ·rw[<-eb]
  refine i7 (h:=some ((20:Nat):Int)) ((ai (x:=.str w) (y:=.str x) rfl ?_).trans (dq _ _ (by omega))) rfl rfl (by rw[cy];omega)
  exact(a9 (ps:=[.int (more/8),.int 20]) rfl).trans ex
 refine(ak (j8 (l:=[]) rfl)).trans ?_
 exact(ak ((g9 (pJ (n:=many) rfl (by omega))).trans q3)).trans rfl
end
theorem Kw(ns:List Int)(a many:Nat)(hm:many<=6):∃f:Nat->Str,(∀k,M4 (f k)/\k8 (.str (f k)) kept=false)/\(∀j k,j<6->k<6->j≠k->f j≠f k)/\cU [m9 ns,.int a,.int many]=some (.lst (((List.range many).map f).map PV.str)):=GK Ee M5 M6 ns a many hm
noncomputable abbrev Kx:Str:= ", "
noncomputable abbrev Bn:Str:= ")"
noncomputable def Jn(its:List It):Str:=Txt.join Kx (its.map It.t)
theorem Ky(its:List It):((its.map It.t).map λt=>t.length+Kx.length).sum=wt its:=by
 unfold wt
 rw[List.map_map]
 rfl
theorem EG(its:List It):(Jn its).length<=wt its:=by
 have:=join_le Kx (its.map It.t)
 rw[Ky]at this
 exact this
structure UA(names:List Str)(Ok:It->Prop):Prop where
 hand:∀x∈names,Ok ⟨.ins 0 [.str x],.tup [.str "hand",.str x],x,0⟩
 all:∀(its:List It) (n:Nat),its≠[]->its.length<=8->wt its<=50000->(∀i∈its,Ok i/\i.d<=n)->Ok ⟨.ins 1 [.int (its.length:Nat),.tup (its.map It.o)],.tup [.str "all",.tup (its.map It.s)],("all(" :Str)++(Jn its++Bn),1+n⟩
 any:∀(its:List It) (n:Nat),its≠[]->its.length<=8->wt its<=50000->(∀i∈its,Ok i/\i.d<=n)->Ok ⟨.ins 2 [.int 1,.tup (its.map It.o)],.tup [.str "any",.tup (its.map It.s)],("any(" :Str)++(Jn its++Bn),1+n⟩
 some:∀(its:List It) (n m:Nat),its≠[]->its.length<=8->wt its<=50000->(∀i∈its,Ok i/\i.d<=n)->1<=m->m<=its.length->Ok ⟨.ins 3 [.int (m:Nat),.tup (its.map It.o)],.tup [.str "some",.int (m:Nat),.tup (its.map It.s)],((toString (m:Int):Str)++(" of (" :Str))++(Jn its++Bn),1+n⟩
theorem M8:((List.range 9).all λm=>decide ((toString (m:Int):Str).length<=1))=true:=by decide+kernel
theorem Kz{m:Nat}(h:m<=8):(toString (m:Int):Str).length<=1:=of_decide_eq_true (List.all_eq_true.mp M8 m (List.mem_range.mpr (by omega)))
noncomputable abbrev C5:aT:=(fQ (tV (ag qy (dV 4) (dC (.int 7)))) (oR 2 dB (aa (fV (aa (ag jq (lI (aa (dC (.str "all")) (aa (dC (.str "any")) ay))) (ag jo (dV 4) (dC (.int 5)))) (aa (aR 7) ay))) ay)) (oR 2 dB (aa (fV (aa (dC (.str "some")) (aa (ag dA (dC (.int 1)) (ag fW (ag oQ (dV 5) (dC (.int 12))) (dV 6))) (aa (aR 7) ay)))) ay)))
noncomputable def KA(Ok:It->Prop)(k:Nat)(P:List It):Prop:=P.length<=k/\(∀i∈P,Ok i/\i.d<=k)/\wt P<=60*k
theorem Ba{α:Type}(l:List α)(j:Nat)(h:j<=l.length):nE l (some (j:Int)) none=l.drop j:=by
 have a:xG l.length 0 (some (j:Int))=j:=by
  show(if(j:Int)<0 then((j:Int)+(l.length:Nat)).toNat else min (j:Int).toNat l.length)=j
  rw[if_neg (by omega),Int.toNat_natCast]
  omega
 have b:xG l.length l.length none=l.length:=rfl
 unfold nE
 rw[a,b,List.take_of_length_le (by rw[List.length_drop];omega)]
theorem Bb(a b:Nat):Fd (.int a) (.int b)=some (.int ((min a b:Nat):Int)):=by
 show some (PV.int (if(b:Int)<(a:Int)then(b:Int)else(a:Int)))=_
 congr 2
 split<;>omega
theorem Bc{a b:Nat}(h:b<=a):jo (.int a) (.int b)=some (.int ((a-b:Nat):Int)):=by
 show some (PV.int ((a:Int)-(b:Int)))=_
 congr 2
 omega
theorem w9(P:List It):bj (.lst (P.map It.s))=some (.int (P.length:Nat)):=by
 show some (PV.int ((P.map It.s).length:Nat))=_
 rw[List.length_map]
theorem Xs:LU (.int 10) (.int 9)=some (.int ((1000000000:Nat):Int)):=by
 show(if mY 10 9 then some (PV.int (10^(9:Int).toNat))else none)=_
 rw[if_pos (by decide+kernel)]
 rfl
theorem mT{i:Nat}{as:cC}{ρ:cH}{x:PV}{l:List PV}(h:as ρ=some [x])(ho:vo ρ i=some l)(hl:l.length<5000):oR i dB as ρ=some (.nx (ρ.set i (.ow (l++[x])))):=by
 have zl:(5000:Nat)<=sizeLine:=by decide
 show((as ρ).bind λxs=>(vo ρ i).bind λl=>(dB l xs).map λl'=>Fl.nx (ρ.set i (.ow l')))=_
 rw[h,ho]
 show((if l.length<sizeLine then some (l++[x])else none).map λl'=>Fl.nx (ρ.set i (.ow l')))=_
 rw[if_pos (by omega)]
 rfl
theorem ix0(p:PV)(l:List PV):jq (.lst (p::l)) (.int 0)=some p:=by
 show itemAt (p::l) 0=_
 unfold itemAt RT
 rw[if_pos (by decide),if_pos (by rw[List.length_cons];omega)]
 rfl
theorem Rm{names:List Str}(h0:names≠[])(c:Int){A L:Den}{ρ:cH}(hA:A ρ=some (.lst (names.map PV.str)))(hL:L ρ=some (.int c)):∃x∈names,ag jq A (ag fW L (bb bj A)) ρ=some (.str x):=by
 have hl:0<names.length:=List.length_pos_iff.mpr h0
 have hi:=mod_lt c hl
 refine⟨names[(c %(names.length:Int)).toNat],List.getElem_mem hi,?_⟩
 refine(ai hA ((ai hL ((bW hA).trans ?_)).trans (dU c hl))).trans ?_
 ·show some (PV.int ((names.map PV.str).length:Nat))=_
  rw[List.length_map]
 ·show itemAt (names.map PV.str) (((c %(names.length:Int)).toNat:Nat):Int)=_
  unfold itemAt RT
  rw[if_pos (by omega),if_pos (by rw[List.length_map];omega)]
  show(names.map PV.str)[(((c %(names.length:Int)).toNat:Nat):Int).toNat]?=_
  rw[Int.toNat_natCast,List.getElem?_map,List.getElem?_eq_getElem hi]
  rfl
section
variable{names:List Str}{Ok:It->Prop}(B:UA names Ok)(hn:∀x∈names,x.length<=50)
include B
theorem u9{its:List It}{n:Nat}(h0:its≠[])(h8:its.length<=8)(hw:wt its<=50000)(hi:∀i∈its,Ok i/\i.d<=n):
  (∃r,Ok r/\r.d=1+n/\r.t.length+2<=wt its+10/\r.s=.tup [.str "all",.tup (its.map It.s)])/\(∃r,Ok r/\r.d=1+n/\r.t.length+2<=wt its+10/\r.s=.tup [.str "any",.tup (its.map It.s)])/\
  ∀m:Nat,1<=m->m<=its.length->∃r,Ok r/\r.d=1+n/\r.t.length+2<=wt its+10/\r.s=.tup [.str "some",.int (m:Nat),.tup (its.map It.s)]:=by
 have lJ:=EG its
 have lA:("all(" :Str).length=4:=by decide+kernel
 have lY:("any(" :Str).length=4:=by decide+kernel
 have lS:(" of (" :Str).length=5:=by decide+kernel
 have lC:Bn.length=1:=rfl
 refine⟨⟨_,B.all its n h0 h8 hw hi,rfl,?_,rfl⟩,⟨_,B.any its n h0 h8 hw hi,rfl,?_,rfl⟩,λm h1 h2=>⟨_,B.some its n m h0 h8 hw hi h1 h2,rfl,?_,rfl⟩⟩
 ·show(("all(" :Str)++(Jn its++Bn)).length+2<=_
  rw[cy,cy]
  omega
 ·show(("any(" :Str)++(Jn its++Bn)).length+2<=_
  rw[cy,cy]
  omega
 ·have:=Kz (m:=m) (by omega)
  show(((toString (m:Int):Str)++(" of (" :Str))++(Jn its++Bn)).length+2<=_
  rw[cy,cy,cy]
  omega
include hn
theorem GL(n0:names≠[])(s0:Slot)(cell:Int){k:Nat}(hk:k<=100){P:List It}(hP:KA Ok k P)(s4 s5 s6 s7:Slot):
  ∃(Q:List It) (t4 t5 t6 t7:Slot),KA Ok (k+1) Q/\iI [s0,.sh (.lst (names.map PV.str)),.ow (P.map It.s),.sh (.int cell),s4,s5,s6,s7]=some (.nx [s0,.sh (.lst (names.map PV.str)),.ow (Q.map It.s),.sh (.int cell),t4,t5,t6,t7]):=by
 obtain⟨p1,p2,p3⟩:=hP
 have hk9:=mod_lt cell (n:=9) (by decide)
 have e4:ag fW (dV 3) (dC (.int 9)) [s0,.sh (.lst (names.map PV.str)),.ow (P.map It.s),.sh (.int cell),s4,s5,s6,s7]=some (.int ((cell %((9:Nat):Int)).toNat:Nat)):=(ai (x:=.int cell) (y:=.int ((9:Nat):Int)) rfl rfl).trans (dU _ (by decide))
 generalize(cell %((9:Nat):Int)).toNat=kind at hk9 e4
 have e5:ag fW (ag oQ (dV 3) (dC (.int 9))) (ag LU (dC (.int 10)) (dC (.int 9))) [s0,.sh (.lst (names.map PV.str)),.ow (P.map It.s),.sh (.int cell),.sh (.int (kind:Nat)),s5,s6,s7]=some (.int ((cell/9 %((1000000000:Nat):Int)).toNat:Nat)):=(ai (x:=.int (cell/9)) (y:=.int ((1000000000:Nat):Int)) ((ai (x:=.int cell) (y:=.int 9) rfl rfl).trans (pK _ (by decide) (by decide))) ((ai (x:=.int 10) (y:=.int 9) rfl rfl).trans Xs)).trans (dU _ (by decide))
 generalize(cell/9 %((1000000000:Nat):Int)).toNat=more at e5
 have t1:tV (ag qy (dV 4) (dC (.int 5))) [s0,.sh (.lst (names.map PV.str)),.ow (P.map It.s),.sh (.int cell),.sh (.int (kind:Nat)),.sh (.int (more:Nat)),s6,s7]=some (decide (kind<5)):=by
  refine bF ((ai (x:=.int (kind:Nat)) (y:=.int 5) rfl rfl).trans ?_)
  show some (PV.bl (decide ((kind:Int)<5)))=_
  congr 2
  rw[decide_eq_decide]
  omega
 have t2:tV (ag iG (bb bj (dV 2)) (dC (.int 0))) [s0,.sh (.lst (names.map PV.str)),.ow (P.map It.s),.sh (.int cell),.sh (.int (kind:Nat)),.sh (.int (more:Nat)),s6,s7]=some (decide (P.length=0)):=bF ((ai (y:=.int ((0:Nat):Int)) ((bW (x:=.lst (P.map It.s)) rfl).trans (w9 P)) rfl).trans (sH _ _))
 have KC:(P.map It.s).length=P.length:=List.length_map ..
 by_cases c0:kind<5\/P.length=0
 ·
  obtain⟨x,hx,ex⟩:=Rm n0 (more:Int) (A:=dV 1) (L:=dV 5) (ρ:=[s0,.sh (.lst (names.map PV.str)),.ow (P.map It.s),.sh (.int cell),.sh (.int (kind:Nat)),.sh (.int (more:Nat)),s6,s7]) rfl rfl
  have lx:=hn x hx
  refine⟨P++[⟨.ins 0 [.str x],.tup [.str "hand",.str x],x,0⟩],.sh (.int (kind:Nat)),.sh (.int (more:Nat)),s6,s7,⟨?_,?_,?_⟩,(ak (aU e4)).trans ((ak (aU e5)).trans ((d7 ?_).trans ((mT (x:=.tup [.str "hand",.str x]) (l:=P.map It.s) ?_ rfl (by omega)).trans ?_)))⟩
  ·rw[List.length_append,List.length_singleton]
   omega
  ·intro i hi
   rcases List.mem_append.mp hi with hi|hi
   ·have:=p2 i hi
    exact⟨this.1,by omega⟩
   ·obtain rfl:=List.mem_singleton.mp hi
    exact⟨B.hand x hx,Nat.zero_le _⟩
  ·rw[uo,jL]
   show _+(x.length+2)<=_
   omega
  ·rcases c0 with c0|c0
   ·exact Ec (t1.trans (by rw[decide_eq_true c0]))
   ·by_cases c1:kind<5
    ·exact Ec (t1.trans (by rw[decide_eq_true c1]))
    ·exact(pI (t1.trans (by rw[decide_eq_false c1]))).trans (t2.trans (by rw[decide_eq_true c0]))
  ·exact aB (eK (aB (x:=.str "hand") rfl (aB ex rfl)) (by simp)) rfl
  ·rw[List.map_append]
   rfl
 ·have k5:¬kind<5:=λz=>c0 (.inl z)
  have l0:¬P.length=0:=λz=>c0 (.inr z)
  have tt:Bj (tV (ag qy (dV 4) (dC (.int 5)))) (tV (ag iG (bb bj (dV 2)) (dC (.int 0)))) [s0,.sh (.lst (names.map PV.str)),.ow (P.map It.s),.sh (.int cell),.sh (.int (kind:Nat)),.sh (.int (more:Nat)),s6,s7]=some false:=(pI (t1.trans (by rw[decide_eq_false k5]))).trans (t2.trans (by rw[decide_eq_false l0]))
  have Yp:0<min P.length 4:=by omega
  have qd:=mod_lt (more:Int) Yp
  have e6:ag dA (dC (.int 1)) (ag fW (dV 5) (ag Fd (bb bj (dV 2)) (dC (.int 4)))) [s0,.sh (.lst (names.map PV.str)),.ow (P.map It.s),.sh (.int cell),.sh (.int (kind:Nat)),.sh (.int (more:Nat)),s6,s7]=some (.int ((1+((more:Int) %((min P.length 4:Nat):Int)).toNat:Nat):Int)):=
   (ai (x:=.int ((1:Nat):Int)) rfl ((ai (x:=.int (more:Nat)) rfl ((ai (y:=.int ((4:Nat):Int)) ((bW (x:=.lst (P.map It.s)) rfl).trans (w9 P)) rfl).trans (Bb _ _))).trans (dU _ Yp))).trans rfl
  have UY:1<=1+((more:Int) %((min P.length 4:Nat):Int)).toNat:=by omega
  have R0:1+((more:Int) %((min P.length 4:Nat):Int)).toNat<=min P.length 4:=by omega
  generalize 1+((more:Int) %((min P.length 4:Nat):Int)).toNat=size at e6 UY R0
  have es:P.take (P.length-size)++P.drop (P.length-size)=P:=List.take_append_drop ..
  generalize eA:P.take (P.length-size)=Pa at es
  generalize eB:P.drop (P.length-size)=Pb at es
  have lb:Pb.length=size:=by rw[<-eB,List.length_drop];omega
  have la:Pa.length=P.length-size:=by rw[<-eA,List.length_take];omega
  have mb:∀i∈Pb,i∈P:=λi hi=>by rw[<-es];exact List.mem_append_right _ hi
  have ma:∀i∈Pa,i∈P:=λi hi=>by rw[<-es];exact List.mem_append_left _ hi
  have hwt:wt Pa+wt Pb=wt P:=by rw[<-uo,es]
  have sub:∀ρ:cH,dV 2 ρ=some (.lst (P.map It.s))->dV 6 ρ=some (.int (size:Nat))->ag jo (bb bj (dV 2)) (dV 6) ρ=some (.int ((P.length-size:Nat):Int)):=λρ h1 h2=>(ai ((bW h1).trans (w9 P)) h2).trans (Bc (by omega))
  have e7:bb jF (v9 (dV 2) (bO (ag jo (bb bj (dV 2)) (dV 6))) dR) [s0,.sh (.lst (names.map PV.str)),.ow (P.map It.s),.sh (.int cell),.sh (.int (kind:Nat)),.sh (.int (more:Nat)),.sh (.int (size:Nat)),s7]=some (.tup (Pb.map It.s)):=by
   refine(bW ((ur (l:=P.map It.s) (a:=some ((P.length-size:Nat):Int)) rfl ?_ rfl).trans ?_)).trans (by rfl:jF (.lst (Pb.map It.s))=_)
   ·show((ag jo (bb bj (dV 2)) (dV 6)) _).bind _=_
    rw[sub _ rfl rfl]
    rfl
   ·rw[Ba _ _ (by rw[KC];omega),<-List.map_drop,eB]
  have e8:v9 (dV 2) dR (bO (ag jo (bb bj (dV 2)) (dV 6))) [s0,.sh (.lst (names.map PV.str)),.ow (P.map It.s),.sh (.int cell),.sh (.int (kind:Nat)),.sh (.int (more:Nat)),.sh (.int (size:Nat)),.sh (.tup (Pb.map It.s))]=some (.lst (Pa.map It.s)):=by
   refine(ur (l:=P.map It.s) (b:=some ((P.length-size:Nat):Int)) rfl rfl ?_).trans ?_
   ·show((ag jo (bb bj (dV 2)) (dV 6)) _).bind _=_
    rw[sub _ rfl rfl]
    rfl
   ·rw[AJ _ _ (by rw[KC];omega),<-List.map_take,eA]
  obtain⟨⟨ra,a1,a2,a3,a4⟩,⟨ry,y1,y2,y3,y4⟩,sm⟩:=u9 B (its:=Pb) (n:=k) (λz=>by rw[z]at lb;simp at lb;omega) (by omega) (by omega) λi hi=>p2 i (mb i hi)
  have fin:∀(r:It),Ok r->r.d=1+k->r.t.length+2<=wt Pb+10->C5 [s0,.sh (.lst (names.map PV.str)),.ow (Pa.map It.s),.sh (.int cell),.sh (.int (kind:Nat)),.sh (.int (more:Nat)),.sh (.int (size:Nat)),.sh (.tup (Pb.map It.s))]=some (.nx [s0,.sh (.lst (names.map PV.str)),.ow (Pa.map It.s++[r.s]),.sh (.int cell),.sh (.int (kind:Nat)),.sh (.int (more:Nat)),.sh (.int (size:Nat)),.sh (.tup (Pb.map It.s))])->
    ∃(Q:List It) (t4 t5 t6 t7:Slot),KA Ok (k+1) Q/\(aN (bP 7 (bb jF (v9 (dV 2) (bO (ag jo (bb bj (dV 2)) (dV 6))) dR))) (aN (k9 2 (v9 (dV 2) dR (bO (ag jo (bb bj (dV 2)) (dV 6))))) C5)) [s0,.sh (.lst (names.map PV.str)),.ow (P.map It.s),.sh (.int cell),.sh (.int (kind:Nat)),.sh (.int (more:Nat)),.sh (.int (size:Nat)),s7]=some (.nx [s0,.sh (.lst (names.map PV.str)),.ow (Q.map It.s),.sh (.int cell),t4,t5,t6,t7]):=λr r1 r2 r3 r4=>by
   refine⟨Pa++[r],.sh (.int (kind:Nat)),.sh (.int (more:Nat)),.sh (.int (size:Nat)),.sh (.tup (Pb.map It.s)),⟨?_,?_,?_⟩,(ak (aU e7)).trans ((ak (j8 e8)).trans (r4.trans ?_))⟩
   ·rw[List.length_append,List.length_singleton]
    omega
   ·intro i hi
    rcases List.mem_append.mp hi with hi|hi
    ·have:=p2 i (ma i hi)
     exact⟨this.1,by omega⟩
    ·obtain rfl:=List.mem_singleton.mp hi
     exact⟨r1,by omega⟩
   ·rw[uo,jL]
    omega
   ·rw[List.map_append]
    rfl
  have pre:∀{X:Fl},(aN (bP 7 (bb jF (v9 (dV 2) (bO (ag jo (bb bj (dV 2)) (dV 6))) dR))) (aN (k9 2 (v9 (dV 2) dR (bO (ag jo (bb bj (dV 2)) (dV 6))))) C5)) [s0,.sh (.lst (names.map PV.str)),.ow (P.map It.s),.sh (.int cell),.sh (.int (kind:Nat)),.sh (.int (more:Nat)),.sh (.int (size:Nat)),s7]=some X->iI [s0,.sh (.lst (names.map PV.str)),.ow (P.map It.s),.sh (.int cell),s4,s5,s6,s7]=some X:=λh=>
   (ak (aU e4)).trans ((ak (aU e5)).trans ((cc tt).trans ((ak (aU e6)).trans h)))
  have t7:tV (ag qy (dV 4) (dC (.int 7))) [s0,.sh (.lst (names.map PV.str)),.ow (Pa.map It.s),.sh (.int cell),.sh (.int (kind:Nat)),.sh (.int (more:Nat)),.sh (.int (size:Nat)),.sh (.tup (Pb.map It.s))]=some (decide (kind<7)):=by
   refine bF ((ai (x:=.int (kind:Nat)) (y:=.int 7) rfl rfl).trans ?_)
   show some (PV.bl (decide ((kind:Int)<7)))=_
   congr 2
   rw[decide_eq_decide]
   omega
  have l2:lI (aa (dC (.str "all")) (aa (dC (.str "any")) ay)) [s0,.sh (.lst (names.map PV.str)),.ow (Pa.map It.s),.sh (.int cell),.sh (.int (kind:Nat)),.sh (.int (more:Nat)),.sh (.int (size:Nat)),.sh (.tup (Pb.map It.s))]=some (.lst [.str "all",.str "any"]):=ku rfl (by simp)
  have Xu:(Pa.map It.s).length<5000:=by rw[List.length_map];omega
  by_cases c7:kind<7
  ·by_cases c5:kind=5
   ·obtain⟨Q,t4,t5,t6,UB,q1,q2⟩:=fin ra a1 a2 a3 ((d7 (t7.trans (by rw[decide_eq_true c7]))).trans ((mT (x:=ra.s) (l:=Pa.map It.s) (aB (x:=ra.s) (by
      rw[a4]
      refine eK (aB (x:=.str "all") ((ai l2 (y:=.int 0) ?_).trans rfl) (aB (x:=.tup (Pb.map It.s)) rfl rfl)) (by simp)
      show some (PV.int ((kind:Int)-5))=_
      congr 2
      omega) rfl) rfl Xu).trans rfl))
    exact⟨Q,t4,t5,t6,UB,q1,pre q2⟩
   ·obtain⟨Q,t4,t5,t6,UB,q1,q2⟩:=fin ry y1 y2 y3 ((d7 (t7.trans (by rw[decide_eq_true c7]))).trans ((mT (x:=ry.s) (l:=Pa.map It.s) (aB (x:=ry.s) (by
      rw[y4]
      refine eK (aB (x:=.str "any") ((ai l2 (y:=.int 1) ?_).trans rfl) (aB (x:=.tup (Pb.map It.s)) rfl rfl)) (by simp)
      show some (PV.int ((kind:Int)-5))=_
      congr 2
      omega) rfl) rfl Xu).trans rfl))
    exact⟨Q,t4,t5,t6,UB,q1,pre q2⟩
  ·have hmm:=mod_lt ((more:Int)/12) (n:=size) (by omega)
   obtain⟨r,r1,r2,r3,r4⟩:=sm (1+((more:Int)/12 %(size:Int)).toNat) (by omega) (by omega)
   obtain⟨Q,t4,t5,t6,UB,q1,q2⟩:=fin r r1 r2 r3 ((cc (t7.trans (by rw[decide_eq_false c7]))).trans ((mT (x:=r.s) (l:=Pa.map It.s) (aB (x:=r.s) (by
    rw[r4]
    refine eK (aB (x:=.str "some") rfl (aB (x:=.int ((1+((more:Int)/12 %(size:Int)).toNat:Nat):Int)) ?_ (aB (x:=.tup (Pb.map It.s)) rfl rfl))) (by simp)
    exact(ai (x:=.int ((1:Nat):Int)) rfl ((ai (x:=.int ((more:Int)/12)) (y:=.int (size:Nat)) ((ai (x:=.int (more:Nat)) (y:=.int 12) rfl rfl).trans (pK _ (by decide) (by decide))) rfl).trans (dU _ (by omega)))).trans rfl) rfl) rfl Xu).trans rfl))
   exact⟨Q,t4,t5,t6,UB,q1,pre q2⟩
theorem Bd(n0:names≠[])(s0:Slot):∀(cs:List Int) (k:Nat) (hk:k+cs.length<=100) {P:List It} (hP:KA Ok k P) (s3 s4 s5 s6 s7:Slot),
  ∃(Q:List It) (t3 t4 t5 t6 t7:Slot),KA Ok (k+cs.length) Q/\(cs≠[]->True)/\forL (bh 3) iI (cs.map PV.int) [s0,.sh (.lst (names.map PV.str)),.ow (P.map It.s),s3,s4,s5,s6,s7]=some (.nx [s0,.sh (.lst (names.map PV.str)),.ow (Q.map It.s),t3,t4,t5,t6,t7])
 |[],k,hk,P,hP,s3,s4,s5,s6,s7=>⟨P,s3,s4,s5,s6,s7,hP,λ_=>trivial,rfl⟩
 |c::cs,k,hk,P,hP,s3,s4,s5,s6,s7=>by
  rw[List.length_cons]at hk
  obtain⟨Q,t4,t5,t6,t7,q1,q2⟩:=GL B hn n0 s0 c (k:=k) (by omega) hP s4 s5 s6 s7
  obtain⟨Q',u3,u4,u5,u6,u7,q3,_,q4⟩:=Bd n0 s0 cs (k+1) (by omega) q1 (.sh (.int c)) t4 t5 t6 t7
  refine⟨Q',u3,u4,u5,u6,u7,?_,λ_=>trivial,Eq.trans ?_ q4⟩
  ·rw[List.length_cons]
   have:k+(cs.length+1)=k+1+cs.length:=by omega
   rw[this]
   exact q3
  ·exact kZ (i:=3) (x:=.int c) (xs:=cs.map PV.int) (ρ:=[s0,.sh (.lst (names.map PV.str)),.ow (P.map It.s),s3,s4,s5,s6,s7]) q2
omit hn in
theorem C6{P:List It}(h2:2<=P.length)(hP:∀i∈P,Ok i){D W:Nat}(hd:∀i∈P,i.d<=D)(hw:wt P<=W)(hW:W<=40000){s2:Slot}(hs:s2=.sh (.lst (P.map It.s))\/s2=.ow (P.map It.s))(hl:P.length<=1000)(s0 s1 s3 s4 s5 s6 s7:Slot):
  ∃(Q:List It) (t6 t7:Slot),Q.length+1=P.length-min P.length 8+2/\(∀i∈Q,Ok i)/\(∀i∈Q,i.d<=D+1)/\wt Q<=W+10/\iH [s0,s1,s2,s3,s4,s5,s6,s7]=some (.nx [s0,s1,.sh (.lst (Q.map It.s)),s3,s4,s5,t6,t7]):=by
 have zl:(5000:Nat)<=sizeLine:=by decide
 have v2:∀r6 r7,dV 2 [s0,s1,s2,s3,s4,s5,r6,r7]=some (.lst (P.map It.s)):=λr6 r7=>by
  rcases hs with rfl|rfl<;>rfl
 have KC:(P.map It.s).length=P.length:=List.length_map ..
 have e6:ag Fd (bb bj (dV 2)) (dC (.int 8)) [s0,s1,s2,s3,s4,s5,s6,s7]=some (.int ((min P.length 8:Nat):Int)):=(ai (y:=.int ((8:Nat):Int)) ((bW (v2 _ _)).trans (w9 P)) rfl).trans (Bb _ _)
 have UY:2<=min P.length 8:=by omega
 have R0:min P.length 8<=8:=by omega
 have hz3:min P.length 8<=P.length:=by omega
 generalize min P.length 8=size at e6 UY R0 hz3
 have es:P.take (P.length-size)++P.drop (P.length-size)=P:=List.take_append_drop ..
 generalize eA:P.take (P.length-size)=Pa at es
 generalize eB:P.drop (P.length-size)=Pb at es
 have lb:Pb.length=size:=by rw[<-eB,List.length_drop];omega
 have la:Pa.length=P.length-size:=by rw[<-eA,List.length_take];omega
 have mb:∀i∈Pb,i∈P:=λi hi=>by rw[<-es];exact List.mem_append_right _ hi
 have ma:∀i∈Pa,i∈P:=λi hi=>by rw[<-es];exact List.mem_append_left _ hi
 have hwt:wt Pa+wt Pb=wt P:=by rw[<-uo,es]
 have sub:∀ρ:cH,dV 2 ρ=some (.lst (P.map It.s))->dV 6 ρ=some (.int (size:Nat))->ag jo (bb bj (dV 2)) (dV 6) ρ=some (.int ((P.length-size:Nat):Int)):=λρ h1 h2=>(ai ((bW h1).trans (w9 P)) h2).trans (Bc (by omega))
 have e7:bb jF (v9 (dV 2) (bO (ag jo (bb bj (dV 2)) (dV 6))) dR) [s0,s1,s2,s3,s4,s5,.sh (.int (size:Nat)),s7]=some (.tup (Pb.map It.s)):=by
  refine(bW ((ur (l:=P.map It.s) (a:=some ((P.length-size:Nat):Int)) (v2 _ _) ?_ rfl).trans ?_)).trans (by rfl:jF (.lst (Pb.map It.s))=_)
  ·show((ag jo (bb bj (dV 2)) (dV 6)) _).bind _=_
   rw[sub _ (v2 _ _) rfl]
   rfl
  ·rw[Ba _ _ (by rw[KC];omega),<-List.map_drop,eB]
 have e8:v9 (dV 2) dR (bO (ag jo (bb bj (dV 2)) (dV 6))) [s0,s1,s2,s3,s4,s5,.sh (.int (size:Nat)),.sh (.tup (Pb.map It.s))]=some (.lst (Pa.map It.s)):=by
  refine(ur (l:=P.map It.s) (b:=some ((P.length-size:Nat):Int)) (v2 _ _) rfl ?_).trans ?_
  ·show((ag jo (bb bj (dV 2)) (dV 6)) _).bind _=_
   rw[sub _ (v2 _ _) rfl]
   rfl
  ·rw[AJ _ _ (by rw[KC];omega),<-List.map_take,eA]
 obtain⟨_,_,sm⟩:=u9 B (its:=Pb) (n:=D) (λz=>by rw[z]at lb;simp at lb;omega) (by omega) (by omega) λi hi=>⟨hP i (mb i hi),hd i (mb i hi)⟩
 obtain⟨r,r1,r2,r3,r4⟩:=sm (1+size/2) (by omega) (by omega)
 refine⟨Pa++[r],.sh (.int (size:Nat)),.sh (.tup (Pb.map It.s)),by rw[List.length_append,List.length_singleton];omega,λi hi=>?_,λi hi=>?_,by rw[uo,jL];omega,(ak (aU e6)).trans ((ak (aU e7)).trans (aU ?_))⟩
 ·rcases List.mem_append.mp hi with hi|hi
  ·exact hP i (ma i hi)
  ·obtain rfl:=List.mem_singleton.mp hi
   exact r1
 ·rcases List.mem_append.mp hi with hi|hi
  ·have:=hd i (ma i hi)
   omega
  ·obtain rfl:=List.mem_singleton.mp hi
   omega
 ·refine(ai e8 (y:=.lst [r.s]) (ku (aB (x:=r.s) ?_ rfl) (by simp))).trans ?_
  ·rw[r4]
   refine eK (aB (x:=.str "some") rfl (aB (x:=.int ((1+size/2:Nat):Int)) ?_ (aB (x:=.tup (Pb.map It.s)) rfl rfl))) (by simp)
   refine(ai (x:=.int ((1:Nat):Int)) rfl ((ai (x:=.int (size:Nat)) (y:=.int 2) rfl rfl).trans (pK _ (by decide) (by decide)))).trans ?_
   show some (PV.int (((1:Nat):Int)+(size:Int)/2))=_
   congr 2
  ·show(if(Pa.map It.s).length+[r.s].length<=sizeLine then some (PV.lst (Pa.map It.s++[r.s]))else none)=_
   rw[if_pos (by rw[List.length_map,List.length_singleton];omega),List.map_append]
   rfl
omit hn in
theorem xa(s0 s1 s3 s4 s5:Slot):∀(k:Nat) {P:List It} (h1:1<=P.length) (hk:P.length<=1+7*k) (hP:∀i∈P,Ok i) {D W:Nat} (hd:∀i∈P,i.d<=D) (hw:wt P<=W) (hW:W+10*k<=40000) {s2:Slot} (hs:s2=.sh (.lst (P.map It.s))\/s2=.ow (P.map It.s)) (Vi:k<=100) (s6 s7:Slot) (f:Nat) (hf:k<f),
  ∃(r:It) (t2 t6 t7:Slot),Ok r/\r.d<=D+k/\r.t.length<=W+10*k/\(t2=.sh (.lst [r.s])\/t2=.ow [r.s])/\fZ (tV (ag RS (bb bj (dV 2)) (dC (.int 1)))) iH f [s0,s1,s2,s3,s4,s5,s6,s7]=some (.nx [s0,s1,t2,s3,s4,s5,t6,t7])
 |k,P,h1,hk,hP,D,W,hd,hw,hW,s2,hs,Vi,s6,s7,0,hf=>absurd hf (by omega)
 |k,P,h1,hk,hP,D,W,hd,hw,hW,s2,hs,Vi,s6,s7,f+1,hf=>by
  have v2:dV 2 [s0,s1,s2,s3,s4,s5,s6,s7]=some (.lst (P.map It.s)):=by
   rcases hs with rfl|rfl<;>rfl
  have tt:tV (ag RS (bb bj (dV 2)) (dC (.int 1))) [s0,s1,s2,s3,s4,s5,s6,s7]=some (decide (1<P.length)):=by
   refine bF ((ai (y:=.int 1) ((bW v2).trans (w9 P)) rfl).trans ?_)
   show some (PV.bl (decide ((1:Int)<(P.length:Int))))=_
   congr 2
   rw[decide_eq_decide]
   omega
  by_cases c:1<P.length
  ·cases k with
   |zero=>omega
   |succ k=>
    obtain⟨Q,t6,t7,q1,q2,q3,q4,q5⟩:=C6 B (P:=P) c hP hd hw (by omega) hs (by omega) s0 s1 s3 s4 s5 s6 s7
    obtain⟨r,t2,u6,u7,r1,r2,r3,r4,r5⟩:=xa s0 s1 s3 s4 s5 k (P:=Q) (by omega) (by omega) q2 (D:=D+1) (W:=W+10) q3 q4 (by omega) (.inl rfl) (by omega) t6 t7 f (by omega)
    exact⟨r,t2,u6,u7,r1,by omega,by omega,r4,(Jd (tt.trans (by rw[decide_eq_true c])) q5).trans r5⟩
  ·match P,h1,c,hP,hd,hw,hs,tt with
   |[r],_,c,hP,hd,hw,hs,tt=>
    refine⟨r,s2,s6,s7,hP r (List.mem_cons_self ..),?_,?_,hs,AE (tt.trans (by rw[decide_eq_false c]))⟩
    ·have:=hd r (List.mem_cons_self ..)
     omega
    ·rw[jL]at hw
     omega
   |a::b::l,_,c,_,_,_,_,_=>exact absurd (show 1<(a::b::l).length by simp) c
theorem EH(n0:names≠[])(cs:List Int)(hc:cs.length<=16):∃r:It,Ok r/\r.d<=cs.length+3/\r.t.length<=1100/\b5 [.lst (cs.map PV.int),.lst (names.map PV.str)]=some r.s:=by
 obtain⟨Q,t3,t4,t5,t6,t7,⟨q1,q2,q3⟩,_,q4⟩:=Bd B hn n0 (.sh (.lst (cs.map PV.int))) cs 0 (by omega) (P:=[]) ⟨Nat.le_refl _,(λi hi=>nomatch hi),Nat.zero_le _⟩ .un .un .un .un .un
 have st:∀{X:Fl} {Y:PV},(aN (fZ (tV (ag RS (bb bj (dV 2)) (dC (.int 1)))) iH 1000) (aN (fQ (tV (ag iG (bb bj (dV 2)) (dC (.int 0)))) (a8 (fV (aa (dC (.str "hand")) (aa (ag jq (dV 1) (dC (.int 0))) ay)))) bA) (a8 (ag jq (dV 2) (dC (.int 0)))))) [.sh (.lst (cs.map PV.int)),.sh (.lst (names.map PV.str)),.ow (Q.map It.s),t3,t4,t5,t6,t7]=some (.rt Y)->b5 [.lst (cs.map PV.int),.lst (names.map PV.str)]=some Y:=λ{X Y} h=>
  cP rfl ((ak (j8 (l:=[]) (ku rfl (by simp)))).trans ((ak ((g9 (xs:=cs.map PV.int) (i4 rfl)).trans q4)).trans h))
 by_cases c0:Q.length=0
 ·have:Q=[]:=List.eq_nil_of_length_eq_zero c0
  subst this
  obtain⟨x,xs,rfl⟩:∃x xs,names=x::xs:=List.exists_cons_of_ne_nil n0
  have lx:=hn x (List.mem_cons_self ..)
  refine⟨⟨.ins 0 [.str x],.tup [.str "hand",.str x],x,0⟩,B.hand x (List.mem_cons_self ..),Nat.zero_le _,by show x.length<=_;omega,st (X:=.rt .non) ((ak (AE (bF rfl))).trans (dE ((d7 (bF rfl)).trans (bV ?_))))⟩
  exact eK (aB (x:=.str "hand") rfl (aB (x:=.str x) ((ai (x:=.lst (.str x::xs.map PV.str)) (y:=.int 0) rfl rfl).trans (ix0 _ _)) rfl)) (by simp)
 ·obtain⟨r,t2,u6,u7,r1,r2,r3,r4,r5⟩:=xa B (.sh (.lst (cs.map PV.int))) (.sh (.lst (names.map PV.str))) t3 t4 t5 3 (P:=Q) (by omega) (by omega) (λi hi=>(q2 i hi).1) (D:=cs.length) (W:=60*cs.length) (λi hi=>by have:=(q2 i hi).2;omega) (by omega) (by omega) (.inr rfl) (by decide) t6 t7 1000 (by decide)
  refine⟨r,r1,r2,by omega,st (X:=.rt .non) ((ak r5).trans ?_)⟩
  have v2:dV 2 [.sh (.lst (cs.map PV.int)),.sh (.lst (names.map PV.str)),t2,t3,t4,t5,u6,u7]=some (.lst [r.s]):=by
   rcases r4 with rfl|rfl<;>rfl
  refine(ak ((cc (bF ((ai (y:=.int 0) ((bW v2).trans (by rfl:bj (.lst [r.s])=some (.int 1))) rfl).trans rfl))).trans rfl)).trans (bV ?_)
  exact(ai v2 (y:=.int 0) rfl).trans rfl
end
theorem place_key:f9 F_place:=Ce
theorem ze{x:Str}:∀{l:List Str},x∈l->dW x l<l.length
 |[],h=>nomatch h
 |y::l,h=>by
  unfold dW
  by_cases e:y=x
  ·rw[if_pos e];simp
  ·rw[if_neg e,List.length_cons]
   have:x∈l:=(List.mem_cons.mp h).resolve_left λz=>e z.symm
   have:=ze this
   omega
theorem KD{names:List Str}{x:Str}(h:x∈names):BO (.tup (names.map PV.str)) (.str x)=some (.int (dW x names:Nat)):=by
 show(mZ (names.map PV.str)).bind (λts=>if decide (x∈ts)then some (PV.int (dW x ts:Nat))else none)=_
 rw[mR]
 show(if decide (x∈names)then some (PV.int (dW x names:Nat))else none)=_
 rw[if_pos (decide_eq_true h)]
theorem KG{names:List Str}{x:Str}(h:x∈names):jD (.str x) (.tup (names.map PV.str))=some (.bl false):=by
 have a:(names.map PV.str).all flat=true:=List.all_eq_true.mpr λp hp=>by
  obtain⟨y,_,rfl⟩:=List.mem_map.mp hp
  rfl
 have b:k8 (.str x) (names.map PV.str)=true:=List.any_eq_true.mpr ⟨.str x,List.mem_map.mpr ⟨x,h,rfl⟩,by
  show(x==x)=true
  simp⟩
 show(if flat (.str x)&&(names.map PV.str).all flat then some (PV.bl (!k8 (.str x) (names.map PV.str)))else none)=_
 rw[a,b]
 rfl
theorem yc{k:Nat}(hk:k<7):zQ (.int 1) (.int (k:Nat))=some (.int (1*2^k)):=by
 have p:mY 1 (k:Nat)=true:=by
  unfold mY
  rw[decide_eq_true (by omega),decide_eq_true (by omega),decide_eq_true (by decide)]
  rfl
 show(if mY 1 (k:Nat)then some (PV.int (1*2^((k:Nat):Int).toNat))else none)=_
 rw[if_pos p,Int.toNat_natCast]
theorem KH{names:List Str}{x:Str}(h:x∈names)(hl:names.length<=6):ef [.tup (names.map PV.str),.lst [.str x]]=some (.int (Builtin.bitOr 0 (1*2^dW x names))):=by
 have hk:=ze h
 refine cP rfl ?_
 refine(ak (aU (p:=.int 0) rfl)).trans ?_
 have b:pO [.sh (.tup (names.map PV.str)),.sh (.lst [.str x]),.sh (.int 0),.sh (.str x)]=some (.nx [.sh (.tup (names.map PV.str)),.sh (.lst [.str x]),.sh (.int (Builtin.bitOr 0 (1*2^dW x names))),.sh (.str x)]):=by
  refine(ak ((cc (bF ((ai (x:=.str x) (y:=.tup (names.map PV.str)) rfl rfl).trans (KG h)))).trans rfl)).trans ?_
  exact aU ((ai (x:=.int 0) rfl ((ai (x:=.int 1) rfl ((ai (x:=.tup (names.map PV.str)) (y:=.str x) rfl rfl).trans (KD h))).trans (yc (by omega)))).trans rfl)
 refine(ak ((g9 (xs:=[.str x]) (i4 rfl)).trans ((kZ (i:=3) (x:=.str x) (xs:=[]) b).trans rfl))).trans ?_
 exact bV rfl
theorem GN{names:List Str}{x:Str}(h:x∈names):x8 (.lst (names.map PV.str)) (.str x)=some (.int (dW x names:Nat)):=by
 show(mZ (names.map PV.str)).bind (λts=>if decide (x∈ts)then some (PV.int (dW x ts:Nat))else none)=_
 rw[mR]
 show(if decide (x∈names)then some (PV.int (dW x names:Nat))else none)=_
 rw[if_pos (decide_eq_true h)]
theorem Ro:(("parts" :Str)==("wanted" :Str))=false:=by decide+kernel
theorem Rp:(("parts" :Str)==("parts" :Str))=true:=by decide+kernel
theorem Rt:(("wanted" :Str)==("wanted" :Str))=true:=by decide+kernel
theorem Ru:(("name" :Str)==("name" :Str))=true:=by decide+kernel
theorem KI(p:PV):km nJ "name" (.ins 0 [p])=some p:=by
 show List.lookup ("name" :Str) [("name",p)]=_
 rw[List.lookup_cons,Ru]
theorem C7{c:Nat}(h0:0<c)(h4:c<4)(w q:PV):km nJ "wanted" (.ins c [w,q])=some w:=by
 have e:nJ c=[("wanted" :Str),("parts" :Str)]:=by
  unfold nJ RV
  rw[if_neg (by omega),if_neg (by omega),if_pos h4]
 show List.lookup ("wanted" :Str) ((nJ c).zip [w,q])=_
 rw[e,List.zip_cons_cons,List.lookup_cons,Rt]
theorem GO{c:Nat}(h0:0<c)(h4:c<4)(w q:PV):km nJ "parts" (.ins c [w,q])=some q:=by
 have e:nJ c=[("wanted" :Str),("parts" :Str)]:=by
  unfold nJ RV
  rw[if_neg (by omega),if_neg (by omega),if_pos h4]
 show List.lookup ("parts" :Str) ((nJ c).zip [w,q])=_
 rw[e,List.zip_cons_cons,List.lookup_cons,Ro,List.zip_cons_cons,List.lookup_cons,Rp]
theorem Be{α:Type}{c:c9}{ρ:cH}(v:α->PV)(p:α->Bool):∀xs:List α,(∀x∈xs,c (.sh (v x)::ρ)=some (p x))->fX c (aR 0) ρ (xs.map v)=some ((xs.filter p).map v)
 |[],_=>rfl
 |x::xs,h=>by
  have ih:=Be v p xs λy hy=>h y (List.mem_cons_of_mem _ hy)
  rw[List.map_cons]
  unfold fX
  rw[h x (List.mem_cons_self ..),ih]
  by_cases hp:p x=true
  ·rw[List.filter_cons_of_pos hp,hp]
   rfl
  ·rw[List.filter_cons_of_neg hp]
   have PM:p x=false:=by simpa using hp
   rw[PM]
   rfl
theorem KJ{α:Type}{it:cC}{c:c9}{ρ:cH}(v:α->PV)(p:α->Bool){xs:List α}(h1:it ρ=some (xs.map v))(h2:xs.length<=5000)(h3:∀x∈xs,c (.sh (v x)::ρ)=some (p x)):b9 it c (aR 0) ρ=some (.lst ((xs.filter p).map v)):=by
 have zl:(5000:Nat)<=sizeLine:=by decide
 exact j7 h1 (by rw[List.length_map];omega) (Be v p xs h3)
theorem Rv:((List.range 6).all λk=>decide (Builtin.bitOr 0 (1*2^k)=((2^k:Nat):Int)))=true:=by decide+kernel
theorem UC{k:Nat}(hk:k<6):Builtin.bitOr 0 (1*2^k)=((2^k:Nat):Int):=of_decide_eq_true (List.all_eq_true.mp Rv k (List.mem_range.mpr hk))
theorem M9:((List.range 6).all λk=>(List.range 64).all λg=>Mt.sub (2^k) g==decide (Builtin.bitAnd ((g:Int)/2^k) 1=1))=true:=by decide+kernel
theorem Rw{k g:Nat}(hk:k<6)(hg:g<64):Mt.sub (2^k) g=decide (Builtin.bitAnd ((g:Int)/2^k) 1=1):=eq_of_beq (List.all_eq_true.mp (List.all_eq_true.mp M9 k (List.mem_range.mpr hk)) g (List.mem_range.mpr hg))
noncomputable def Tells(names:List Str)(i:It)(r:List Nat):Prop:=∀m,i.d<=m->(∃c l,i.o=.ins c l/\fF (m+1) c [i.o,.tup (names.map PV.str)]=some (aA r))/\∀g<2^names.length,eL (m+1) [i.s,.lst (names.map PV.str),.int (g:Nat)]=some (.bl (Mt.lets r g))
noncomputable def Ok(names:List Str)(i:It):Prop:=(∃c l,i.o=.ins c l/\c<4)/\∃r,i6 names.length r/\Tells names i r
theorem EI{names:List Str}(hl:names.length<=6){x:Str}(h:x∈names):Ok names ⟨.ins 0 [.str x],.tup [.str "hand",.str x],x,0⟩:=by
 have hk:=ze h
 have hp:=Nat.pow_lt_pow_right (a:=2) (by decide) hk
 have BJ:=iR hl
 refine⟨⟨0,_,rfl,by decide⟩,[2^dW x names],⟨⟨List.pairwise_singleton _ _,λa ha b hb _=>?_,λa ha=>?_⟩,λa ha=>?_⟩,λm _=>⟨⟨0,_,rfl,?_⟩,λg hg=>?_⟩⟩
 ·rw[List.mem_singleton.mp ha,List.mem_singleton.mp hb]
 ·rw[List.mem_singleton.mp ha]
  omega
 ·rw[List.mem_singleton.mp ha]
  exact hp
 ·have e:aA [2^dW x names]=.lst [.int (Builtin.bitOr 0 (1*2^dW x names))]:=by
    rw[UC (by omega)]
    rfl
  rw[e]
  refine nM rfl (ku (aB ?_ rfl) (by simp))
  refine(a9 (aB (x:=.tup (names.map PV.str)) rfl (aB (x:=.lst [.str x]) ?_ rfl))).trans (KH h hl)
  exact ku (aB ((bW (x:=.ins 0 [.str x]) rfl).trans (KI _)) rfl) (by simp)
 ·have e:Mt.lets [2^dW x names] g=decide (Builtin.bitAnd ((g:Int)/2^dW x names) 1=1):=by
    rw[<-Rw (by omega) (by omega)]
    show(Mt.sub (2^dW x names) g||false)=_
    rw[Bool.or_false]
  rw[e]
  refine cP rfl ?_
  refine dE ((d7 (bF ((ai (x:=.str "hand") (y:=.str "hand") rfl rfl).trans ?_))).trans (bV ?_))
  ·show some (PV.bl (decide (("hand" :Str)= "hand")))=_
   rw[decide_eq_true rfl]
  ·refine(ai (x:=.int (Builtin.bitAnd ((g:Int)/2^dW x names) 1)) (y:=.int 1) ((ai (x:=.int ((g:Int)/2^dW x names)) (y:=.int 1) ((ai (x:=.int (g:Nat)) (y:=.int (dW x names:Nat)) rfl ((ai (x:=.lst (names.map PV.str)) (y:=.str x) rfl rfl).trans (GN h))).trans ?_) rfl).trans rfl) rfl).trans rfl
   show(if decide (0<=((dW x names:Nat):Int))then some (PV.int (((g:Nat):Int)/2^((dW x names:Nat):Int).toNat))else none)=_
   rw[if_pos (decide_eq_true (by omega)),Int.toNat_natCast]
section
variable{names:List Str}{its:List It}{n:Nat}(h8:its.length<=8){R:It->List Nat}(hi:∀i∈its,(i6 names.length (R i)/\Tells names i (R i))/\i.d<=n)
include h8 hi
theorem oz(hl:names.length<=6){c:Nat}(h0:0<c)(h4:c<4)(w:Nat):∃r,i6 names.length r/\(∀g<2^names.length,Mt.lets r g=decide (w<=(its.filter λi=>Mt.lets (R i) g).length))/\
  ∀m,n<m->fn true 2 2 (cI jM (fF m)) [.ins c [.int (w:Nat),.tup (its.map It.o)],.tup (names.map PV.str)]=some (aA r):=by
 obtain⟨r,r1,r2,r3⟩:=MO hl (w:Int) (ls:=its.map R) (by rw[List.length_map];omega) (λl h=>by
  obtain⟨i,h1,rfl⟩:=List.mem_map.mp h
  exact(hi i h1).1.1)
 refine⟨r,r1,λg hg=>?_,λm hm=>nM rfl ?_⟩
 ·rw[r2 g hg,decide_eq_decide]
  unfold cnt
  rw[List.countP_map,List.countP_eq_length_filter]
  show((w:Int)<=(((its.filter λi=>Mt.lets (R i) g).length:Nat):Int))↔_
  omega
 ·rw[List.map_map]at r3
  have dc:b9 (xJ (bb (km nJ "parts") (dV 0))) d5 (j6 (fF m) (aR 0) (aa (aR 2) ay)) [.sh (.ins c [.int (w:Nat),.tup (its.map It.o)]),.sh (.tup (names.map PV.str))]=some (.lst (its.map (aA∘R))):=by
   refine uq It.o (aA∘R) ?_ (by omega) λi RY=>?_
   ·show((bb (km nJ "parts") (dV 0)) [.sh (.ins c [.int (w:Nat),.tup (its.map It.o)]),.sh (.tup (names.map PV.str))]).bind xI=_
    rw[(bW (x:=.ins c [.int (w:Nat),.tup (its.map It.o)]) rfl).trans (GO h0 h4 _ _)]
    rfl
   ·obtain⟨⟨_,ht⟩,hd⟩:=hi i RY
    obtain⟨k,rfl⟩:∃k,m=k+1:=⟨m-1,by omega⟩
    obtain⟨⟨ci,l,e,hs⟩,_⟩:=ht k (by omega)
    rw[e]at hs⊢
    exact hs
  exact(a9 (aB ((bW (x:=.ins c [.int (w:Nat),.tup (its.map It.o)]) rfl).trans (C7 h0 h4 _ _)) (aB dc rfl))).trans r3
theorem rg{m:Nat}(hm:n<m){g:Nat}(hg:g<2^names.length){p:PV}(ht:jq p (.int (-1))=some (.tup (its.map It.s)))(s3:Slot):
  bP 3 (bb bj (b9 (xJ (ag jq (dV 0) (bb qx (dC (.int 1))))) (tV (aH (eL m) (aa (aR 0) (aa (aR 2) (aa (aR 3) ay))))) (aR 0))) [.sh p,.sh (.lst (names.map PV.str)),.sh (.int (g:Nat)),s3]=some (.nx [.sh p,.sh (.lst (names.map PV.str)),.sh (.int (g:Nat)),.sh (.int ((its.filter λi=>Mt.lets (R i) g).length:Nat))]):=by
 have dc:b9 (xJ (ag jq (dV 0) (bb qx (dC (.int 1))))) (tV (aH (eL m) (aa (aR 0) (aa (aR 2) (aa (aR 3) ay))))) (aR 0) [.sh p,.sh (.lst (names.map PV.str)),.sh (.int (g:Nat)),s3]=some (.lst ((its.filter λi=>Mt.lets (R i) g).map It.s)):=by
  refine KJ It.s (λi=>Mt.lets (R i) g) ?_ (by omega) λi RY=>?_
  ·show((ag jq (dV 0) (bb qx (dC (.int 1)))) [.sh p,.sh (.lst (names.map PV.str)),.sh (.int (g:Nat)),s3]).bind xI=_
   rw[(ai (x:=p) (y:=.int (-1)) rfl rfl).trans ht]
   rfl
  ·obtain⟨⟨_,ht⟩,hd⟩:=hi i RY
   obtain⟨k,rfl⟩:∃k,m=k+1:=⟨m-1,by omega⟩
   exact bF ((ht k (by omega)).2 g hg)
 refine aU ((bW dc).trans ?_)
 show some (PV.int (((its.filter λi=>Mt.lets (R i) g).map It.s).length:Nat))=_
 rw[List.length_map]
end
theorem ne_str{x y:Str}(h:x≠y){a b:Den}{ρ:cH}(ha:a ρ=some (.str x))(hb:b ρ=some (.str y)):tV (ag iG a b) ρ=some false:=by
 refine bF ((ai ha hb).trans ?_)
 show some (PV.bl (decide (x=y)))=_
 rw[decide_eq_false h]
theorem eq_str{x:Str}{a b:Den}{ρ:cH}(ha:a ρ=some (.str x))(hb:b ρ=some (.str x)):tV (ag iG a b) ρ=some true:=by
 refine bF ((ai ha hb).trans ?_)
 show some (PV.bl (decide (x=x)))=_
 rw[decide_eq_true rfl]
theorem ah:("all" :Str)≠ "hand" :=by decide+kernel
theorem yh:("any" :Str)≠ "hand" :=by decide+kernel
theorem Yq:("some" :Str)≠ "hand" :=by decide+kernel
theorem ya:("any" :Str)≠ "all" :=by decide+kernel
theorem sa:("some" :Str)≠ "all" :=by decide+kernel
theorem sy:("some" :Str)≠ "any" :=by decide+kernel
theorem tells_of{names:List Str}{its:List It}{n:Nat}(hi:∀i∈its,Ok names i/\i.d<=n):∃R:It->List Nat,∀i∈its,(i6 names.length (R i)/\Tells names i (R i))/\i.d<=n:=by
 have:∀i:It,∃r:List Nat,i∈its->(i6 names.length r/\Tells names i r)/\i.d<=n:=λi=>by
  by_cases h:i∈its
  ·obtain⟨⟨_,r,hv⟩,hd⟩:=hi i h
   exact⟨r,λ_=>⟨hv,hd⟩⟩
  ·exact⟨[],λz=>absurd z h⟩
 exact⟨λi=>Classical.choose (this i),λi h=>Classical.choose_spec (this i) h⟩
theorem Rx{names:List Str}(hl:names.length<=6):UA names (Ok names) where
 hand:=λx h=>EI hl h
 all:=λits n h0 h8 hw hi=>by
  obtain⟨R,hv⟩:=tells_of hi
  obtain⟨r,r1,r2,r3⟩:=oz h8 hv hl (c:=1) (by decide) (by decide) its.length
  refine⟨⟨1,_,rfl,by decide⟩,r,r1,λm hm=>⟨⟨1,_,rfl,r3 m (by have:1+n<=m:=hm;omega)⟩,λg hg=>?_⟩⟩
  have R8:1+n<=m:=hm
  rw[r2 g hg]
  refine cP rfl ?_
  refine(ak ((cc (ne_str ah rfl rfl)).trans rfl)).trans ?_
  refine(ak (rg h8 hv (m:=m) (by omega) hg rfl .un)).trans ?_
  refine dE ((d7 (eq_str rfl rfl)).trans (bV ((ai (x:=.int ((its.filter λi=>Mt.lets (R i) g).length:Nat)) (y:=.int (its.length:Nat)) rfl ?_).trans ?_)))
  ·show some (PV.int ((its.map It.s).length:Nat))=_
   rw[List.length_map]
  ·rw[sH]
   congr 2
   rw[decide_eq_decide]
   have:=List.length_filter_le (λi=>Mt.lets (R i) g) its
   omega
 any:=λits n h0 h8 hw hi=>by
  obtain⟨R,hv⟩:=tells_of hi
  obtain⟨r,r1,r2,r3⟩:=oz h8 hv hl (c:=2) (by decide) (by decide) 1
  refine⟨⟨2,_,rfl,by decide⟩,r,r1,λm hm=>⟨⟨2,_,rfl,r3 m (by have:1+n<=m:=hm;omega)⟩,λg hg=>?_⟩⟩
  have R8:1+n<=m:=hm
  rw[r2 g hg]
  refine cP rfl ?_
  refine(ak ((cc (ne_str yh rfl rfl)).trans rfl)).trans ?_
  refine(ak (rg h8 hv (m:=m) (by omega) hg rfl .un)).trans ?_
  refine(ak ((cc (ne_str ya rfl rfl)).trans rfl)).trans ?_
  refine dE ((d7 (eq_str rfl rfl)).trans (bV ((ai (x:=.int ((its.filter λi=>Mt.lets (R i) g).length:Nat)) (y:=.int 0) rfl rfl).trans ?_)))
  show some (PV.bl (decide ((0:Int)<((its.filter λi=>Mt.lets (R i) g).length:Int))))=_
  congr 2
  rw[decide_eq_decide]
  omega
 some:=λits n w h0 h8 hw hi h1 h2=>by
  obtain⟨R,hv⟩:=tells_of hi
  obtain⟨r,r1,r2,r3⟩:=oz h8 hv hl (c:=3) (by decide) (by decide) w
  refine⟨⟨3,_,rfl,by decide⟩,r,r1,λm hm=>⟨⟨3,_,rfl,r3 m (by have:1+n<=m:=hm;omega)⟩,λg hg=>?_⟩⟩
  have R8:1+n<=m:=hm
  rw[r2 g hg]
  refine cP rfl ?_
  refine(ak ((cc (ne_str Yq rfl rfl)).trans rfl)).trans ?_
  refine(ak (rg h8 hv (m:=m) (by omega) hg rfl .un)).trans ?_
  refine(ak ((cc (ne_str sa rfl rfl)).trans rfl)).trans ?_
  refine(ak ((cc (ne_str sy rfl rfl)).trans rfl)).trans ?_
  refine bV ((ai (x:=.int ((its.filter λi=>Mt.lets (R i) g).length:Nat)) (y:=.int (w:Nat)) rfl rfl).trans ?_)
  show some (PV.bl (decide ((w:Int)<=((its.filter λi=>Mt.lets (R i) g).length:Int))))=_
  congr 2
  rw[decide_eq_decide]
  omega
theorem as_:("all" :Str)≠ "some" :=by decide+kernel
theorem ys_:("any" :Str)≠ "some" :=by decide+kernel
theorem Ry:("all" :Str)++("(" :Str)= "all(" :=by decide+kernel
theorem Rz:("any" :Str)++("(" :Str)= "any(" :=by decide+kernel
noncomputable def RA(i:It):Prop:=∀m,i.d<=m->fJ (m+1) [i.s]=some (.str i.t)
theorem va{its:List It}{n:Nat}(h8:its.length<=8)(hw:wt its<=50000)(hi:∀i∈its,RA i/\i.d<=n){m:Nat}(hm:n<m){p:PV}(ht:jq p (.int (-1))=some (.tup (its.map It.s)))(s1:Slot):
  bP 1 (ag DK (dC (.str ", ")) (b9 (xJ (ag jq (dV 0) (bb qx (dC (.int 1))))) d5 (aH (fJ m) (aa (aR 0) ay)))) [.sh p,s1]=some (.nx [.sh p,.sh (.str (Jn its))]):=by
 have dc:b9 (xJ (ag jq (dV 0) (bb qx (dC (.int 1))))) d5 (aH (fJ m) (aa (aR 0) ay)) [.sh p,s1]=some (.lst (its.map λi=>.str i.t)):=by
  refine uq It.s (λi=>.str i.t) ?_ (by omega) λi RY=>?_
  ·show((ag jq (dV 0) (bb qx (dC (.int 1)))) [.sh p,s1]).bind xI=_
   rw[(ai (x:=p) (y:=.int (-1)) rfl rfl).trans ht]
   rfl
  ·obtain⟨h1,h2⟩:=hi i RY
   obtain⟨k,rfl⟩:∃k,m=k+1:=⟨m-1,by omega⟩
   exact h1 k (by omega)
 refine aU ((ai (x:=.str Kx) rfl dc).trans ?_)
 have:=Gq Kx (its.map It.t) (by rw[Ky];omega)
 rw[List.map_map]at this
 exact this
theorem Na(names:List Str):UA names RA where
 hand:=λx _ m _=>cP rfl (dE ((d7 (eq_str rfl rfl)).trans (bV rfl)))
 all:=λits n h0 h8 hw hi m hm=>by
  have R8:1+n<=m:=hm
  have lJ:=EG its
  have lA:("all(" :Str).length=4:=by decide+kernel
  have lC:Bn.length=1:=rfl
  refine cP rfl ((ak ((cc (ne_str ah rfl rfl)).trans rfl)).trans ((ak (va h8 hw hi (m:=m) (by omega) rfl .un)).trans ((ak ((cc (ne_str as_ rfl rfl)).trans rfl)).trans (bV ?_))))
  show _=some (PV.str (("all(" :Str)++(Jn its++Bn)))
  rw[<-qI]
  refine(ai (y:=.str Bn) ((ai (x:=.str "all(") (y:=.str (Jn its)) ((ai (x:=.str "all") (y:=.str "(") rfl rfl).trans ((dq _ _ (by decide+kernel)).trans ?_)) rfl).trans (dq _ _ (by omega))) rfl).trans (dq _ _ (by rw[cy];omega))
  rw[Ry]
 any:=λits n h0 h8 hw hi m hm=>by
  have R8:1+n<=m:=hm
  have lJ:=EG its
  have lA:("any(" :Str).length=4:=by decide+kernel
  have lC:Bn.length=1:=rfl
  refine cP rfl ((ak ((cc (ne_str yh rfl rfl)).trans rfl)).trans ((ak (va h8 hw hi (m:=m) (by omega) rfl .un)).trans ((ak ((cc (ne_str ys_ rfl rfl)).trans rfl)).trans (bV ?_))))
  show _=some (PV.str (("any(" :Str)++(Jn its++Bn)))
  rw[<-qI]
  refine(ai (y:=.str Bn) ((ai (x:=.str "any(") (y:=.str (Jn its)) ((ai (x:=.str "any") (y:=.str "(") rfl rfl).trans ((dq _ _ (by decide+kernel)).trans ?_)) rfl).trans (dq _ _ (by omega))) rfl).trans (dq _ _ (by rw[cy];omega))
  rw[Rz]
 some:=λits n w h0 h8 hw hi h1 h2 m hm=>by
  have R8:1+n<=m:=hm
  have lJ:=EG its
  have lS:(" of (" :Str).length=5:=by decide+kernel
  have lW:=Kz (m:=w) (by omega)
  have lC:Bn.length=1:=rfl
  have ri:PQ (.int (w:Nat))=some (.str (toString (w:Int))):=by
   show(if decide ((w:Int).natAbs<1000000)then some (PV.str (toString (w:Int)))else none)=_
   rw[if_pos (decide_eq_true (by omega))]
  refine cP rfl ((ak ((cc (ne_str Yq rfl rfl)).trans rfl)).trans ((ak (va h8 hw hi (m:=m) (by omega) rfl .un)).trans (dE ((d7 (eq_str rfl rfl)).trans (bV ?_)))))
  show _=some (PV.str (((toString (w:Int):Str)++(" of (" :Str))++(Jn its++Bn)))
  rw[<-qI]
  refine(ai (y:=.str Bn) ((ai (x:=.str ((toString (w:Int):Str)++(" of (" :Str))) (y:=.str (Jn its)) ?_ rfl).trans (dq _ _ (by rw[cy];omega))) rfl).trans (dq _ _ (by rw[cy,cy];omega))
  exact(ai (x:=.str (toString (w:Int))) (y:=.str " of (") ((bW (x:=.int (w:Nat)) rfl).trans ri) rfl).trans (dq _ _ (by omega))
theorem Bf:∀{l:List It},(∀i∈l,As i.t)->∀c∈Rq.eP l,c<128
 |[],_,c,hc=>by cases hc
 |i::l,h,c,hc=>by
  rcases List.mem_cons.mp hc with rfl|hc
  ·decide
  rcases List.mem_cons.mp hc with rfl|hc
  ·decide
  rcases List.mem_append.mp hc with hc|hc
  ·exact h i (List.mem_cons_self ..) c hc
  ·exact Bf (λj hj=>h j (List.mem_cons_of_mem _ hj)) c hc
theorem zf{its:List It}(h:∀i∈its,As i.t)(h0:its≠[]):As (Txt.join (", " :Str) (its.map It.t)):=by
 cases its with
 |nil=>exact absurd rfl h0
 |cons i rest=>
  intro c hc
  rw[Rq.JI]at hc
  rcases List.mem_append.mp hc with hc|hc
  ·exact h i (List.mem_cons_self ..) c hc
  ·exact Bf (λj hj=>h j (List.mem_cons_of_mem _ hj)) c hc
noncomputable def Xv(names:List Str)(i:It):Prop:=(Ok names i/\RA i)/\Rq.JJ names i/\As i.t
theorem okB{names:List Str}(hN:∀x∈names,Rq.vE x)(hl:names.length<=6):UA names (Xv names) where
 hand:=λx hx=>⟨⟨EI hl hx,(Na names).hand x hx⟩,Rq.JK hN (by omega) hx,(hN x hx).as⟩
 all:=λits n h0 h8 hw hi=>⟨⟨(Rx hl).all its n h0 h8 hw λi h=>⟨(hi i h).1.1.1,(hi i h).2⟩,(Na names).all its n h0 h8 hw λi h=>⟨(hi i h).1.1.2,(hi i h).2⟩⟩,Rq.MX hN (by omega) h0 h8 λi h=>⟨(hi i h).1.2.1,(hi i h).2⟩,qK (AK (by decide+kernel)) (qK (zf (λi h=>(hi i h).1.2.2) h0) (AK (by decide+kernel)))⟩
 any:=λits n h0 h8 hw hi=>⟨⟨(Rx hl).any its n h0 h8 hw λi h=>⟨(hi i h).1.1.1,(hi i h).2⟩,(Na names).any its n h0 h8 hw λi h=>⟨(hi i h).1.1.2,(hi i h).2⟩⟩,Rq.MY hN (by omega) h0 h8 λi h=>⟨(hi i h).1.2.1,(hi i h).2⟩,qK (AK (by decide+kernel)) (qK (zf (λi h=>(hi i h).1.2.2) h0) (AK (by decide+kernel)))⟩
 some:=λits n m h0 h8 hw hi h1 h2=>⟨⟨(Rx hl).some its n m h0 h8 hw (λi h=>⟨(hi i h).1.1.1,(hi i h).2⟩) h1 h2,(Na names).some its n m h0 h8 hw (λi h=>⟨(hi i h).1.1.2,(hi i h).2⟩) h1 h2⟩,Rq.JL hN (by omega) h0 h8 (λi h=>⟨(hi i h).1.2.1,(hi i h).2⟩) h1 h2,qK (Rq.qO (Rq.yr h1 (by omega)).1).2 (qK (zf (λi h=>(hi i h).1.2.2) h0) (AK (by decide+kernel)))⟩
theorem UD{x:Str}(h:M4 x):Rq.vE x:=⟨h.1.as,λc hc=>by have:=h.1 c hc;omega,λz=>by have:=h.1 _ z;omega⟩
theorem C8{names:List Str}(hN:∀x∈names,Rq.vE x)(hl:names.length<=6){i:It}(h:Xv names i)(hd:i.d<=22)(ht:i.t.length<=50000):
  ∃r,i6 names.length r/\cJ [i.s]=some (.str i.t)/\i9 [.tup (names.map PV.str),.str i.t]=some i.o/\(∃c l,i.o=.ins c l/\cT c [i.o,.tup (names.map PV.str)]=some (aA r))/\∀g<2^names.length,cq [i.s,.lst (names.map PV.str),.int (g:Nat)]=some (.bl (Mt.lets r g)):=by
 obtain⟨⟨⟨_,r,hr,hv⟩,h2⟩,h3,h4⟩:=h
 exact⟨r,hr,h2 23 (by omega),Rq.MZ hN (by omega) h3 hd h4 (by omega),(hv 23 (by omega)).1,(hv 23 (by omega)).2⟩
theorem KL{x:Str}(h:x.length<=100000):bj (.str x)=some (.int (x.length:Nat)):=by
 have zl:(100000:Nat)<=sizeLine:=by decide
 show(if x.length<=sizeLine then some (PV.int (x.length:Nat))else none)=_
 rw[if_pos (by omega)]
theorem KN:∀(cs:List Nat) (f:Nat->Bool),bools (cs.map λc=>PV.bl (f c))=some (cs.map f)
 |[],_=>rfl
 |c::cs,f=>by
  show(bools (cs.map λc=>PV.bl (f c))).map (f c::·)=_
  rw[KN cs f]
  rfl
theorem EJ{ρ:cH}:∀(cs:List Nat),fX d5 (gD (dC (.str "a")) (dV 0) (dC (.str "z"))) ρ (cs.map λc=>PV.str ⟨#[c]⟩)=some (cs.map λc=>PV.bl (sg c))
 |[]=>rfl
 |c::cs=>by
  have e:gD (dC (.str "a")) (dV 0) (dC (.str "z")) (.sh (.str ⟨#[c]⟩)::ρ)=some (.bl (sg c)):=by
   show(if Fe "a" ⟨#[c]⟩then some (PV.bl (Fe ⟨#[c]⟩ "z"))else some (.bl false))=some (.bl (Fe "a" ⟨#[c]⟩&&Fe ⟨#[c]⟩ "z"))
   cases Fe "a" ⟨#[c]⟩<;>rfl
  show((gD (dC (.str "a")) (dV 0) (dC (.str "z")) (.sh (.str ⟨#[c]⟩)::ρ)).bind λz=>(fX d5 (gD (dC (.str "a")) (dV 0) (dC (.str "z"))) ρ (cs.map λc=>PV.str ⟨#[c]⟩)).map (z::·))=_
  rw[e,EJ cs]
  rfl
theorem Nb{a:Den}{ρ:cH}{x:Str}(h:a ρ=some (.str x))(hx:As x):LX a ρ=some (x.cps.toList.map λc=>PV.str ⟨#[c]⟩):=by
 unfold LX
 rw[h]
 show(if x.cps.all (·<128)then some (signs x)else none)=_
 rw[Ck hx]
 rfl
theorem inK(x:Str):LV (.str x) (.tup kept)=some (.bl (k8 (.str x) kept)):=rfl
theorem Nc(x:Str)(h:x.length<=2000):hZ (dC (.int 1)) (bb bj (dV 0)) (dC (.int 20)) [.sh (.str x)]=some (.bl (Ei x)):=by
 have e:bb bj (dV 0) [.sh (.str x)]=some (.int (x.length:Nat)):=(bW (x:=.str x) rfl).trans (KL (by omega))
 unfold hZ
 rw[e]
 show(if(1:Int)<=((x.length:Nat):Int)then some (PV.bl (decide (((x.length:Nat):Int)<=20)))else some (.bl false))=some (.bl (decide (1<=x.length)&&decide (x.length<=20)))
 by_cases h1:1<=x.length
 ·rw[if_pos (by omega),decide_eq_true h1]
  congr 2
  rw[Bool.true_and,decide_eq_decide]
  omega
 ·rw[if_neg (by omega),decide_eq_false h1]
  rfl
theorem GP{x:Str}(h1:As x)(h2:x.length<=2000):fG [.str x]=some (.bl (nm x)):=by
 have tk:tV (ag LV (dV 0) (dC (.tup [.str "all",.str "any",.str "of"]))) [.sh (.str x)]=some (k8 (.str x) kept):=bF ((ai (x:=.str x) (y:=.tup kept) rfl rfl).trans (inK x))
 have tl:=kr (bF (Nc x h2))
 unfold nm
 cases hk:k8 (.str x) kept with
 |true=>
  rw[hk]at tk
  exact cP rfl (dE ((d7 (Ec tk)).trans rfl))
 |false=>
  rw[hk]at tk
  cases hl:Ei x with
  |false=>
   rw[hl]at tl
   exact cP rfl (dE ((d7 ((pI tk).trans tl)).trans rfl))
  |true=>
   rw[hl]at tl
   refine cP rfl ((ak ((cc ((pI tk).trans tl)).trans rfl)).trans (bV ?_))
   refine(bW (j7 (Nb (x:=x) rfl h1) ?_ (EJ _))).trans ?_
   ·rw[List.length_map,Array.length_toList]
    exact Nat.le_trans h2 (by decide)
   ·show(bools (x.cps.toList.map λc=>PV.bl (sg c))).map (λbs=>PV.bl (bs.all id))=_
    rw[KN]
    show some (PV.bl ((x.cps.toList.map sg).all id))=some (PV.bl (true&&true&&x.cps.toList.all sg))
    rw[List.all_map]
    rfl
theorem xb:∀ts:List Str,(ts.map PV.str).all flat=true
 |[]=>rfl
 |t::ts=>by
  rw[List.map_cons,List.all_cons,xb ts]
  rfl
theorem GQ:((List.range 123).all λc=>decide (c<97)||sg c)=true:=by decide+kernel
theorem UE{c:Nat}(h1:97<=c)(h2:c<=122):sg c=true:=by
 have:=List.all_eq_true.mp GQ c (List.mem_range.mpr (by omega))
 rw[decide_eq_false (by omega)]at this
 exact this
theorem Nd{x:Str}(h:M4 x)(hk:k8 (.str x) kept=false):nm x=true:=by
 unfold nm Ei
 rw[hk,decide_eq_true h.2.1,decide_eq_true h.2.2]
 show x.cps.toList.all sg=true
 exact List.all_eq_true.mpr λc hc=>UE (h.1 c hc).1 (h.1 c hc).2
theorem Bg{FN:List PV->Option PV}(hN:∀{x:Str},As x->x.length<=2000->FN [.str x]=some (.bl (nm x)))(s0:Slot):∀(xs acc:List Str) (s2:Slot),(∀x∈xs,M4 x/\k8 (.str x) kept=false)->(acc++xs).Nodup->acc.length+xs.length<=100->
  ∃t,forL (bh 2) (rJ FN) (xs.map PV.str) [s0,.ow (acc.map PV.str),s2]=some (.nx [s0,.ow ((acc++xs).map PV.str),t])
 |[],acc,s2,_,_,_=>⟨s2,by rw[List.append_nil];rfl⟩
 |x::xs,acc,s2,h,hd,hl=>by
  rw[List.length_cons]at hl
  obtain⟨h1,h2⟩:=h x (List.mem_cons_self ..)
  have hx:x∉acc:=λz=>(List.nodup_append.mp hd).2.2 x z x (List.mem_cons_self ..) rfl
  obtain⟨t,e⟩:=Bg hN s0 xs (acc++[x]) (.sh (.str x)) (λy hy=>h y (List.mem_cons_of_mem _ hy)) (by rw[List.append_assoc];exact hd) (by rw[List.length_append,List.length_singleton];omega)
  rw[List.append_assoc,List.singleton_append]at e
  refine⟨t,Eq.trans ?_ e⟩
  refine kZ (i:=2) (x:=.str x) (xs:=xs.map PV.str) (ρ:=[s0,.ow (acc.map PV.str),s2]) ?_
  have l20:=h1.2.2
  refine(ak ((cc (kr (b:=true) (bF ((a9 (ps:=[.str x]) rfl).trans ((hN h1.1.as (by omega)).trans (by rw[Nd h1 h2])))))).trans rfl)).trans ?_
  refine(ak ((cc (bF ((ai (x:=.str x) (y:=.lst (acc.map PV.str)) rfl rfl).trans ?_))).trans rfl)).trans ?_
  ·show(if flat (.str x)&&(acc.map PV.str).all flat then some (PV.bl (k8 (.str x) (acc.map PV.str)))else none)=_
   rw[xb,ux,decide_eq_false hx]
   rfl
  ·refine(mT (x:=.str x) (l:=acc.map PV.str) rfl rfl (by rw[List.length_map];omega)).trans ?_
   rw[List.map_append]
   rfl
theorem KO{FN:List PV->Option PV}(hN:∀{x:Str},As x->x.length<=2000->FN [.str x]=some (.bl (nm x))){xs:List Str}(h:∀x∈xs,M4 x/\k8 (.str x) kept=false)(hd:xs.Nodup)(h1:1<=xs.length)(h6:xs.length<=6):fn false 3 1 (wL FN) [.lst (xs.map PV.str)]=some (.tup (xs.map PV.str)):=by
 obtain⟨t,e⟩:=Bg hN (.sh (.lst (xs.map PV.str))) xs [] .un h hd (by simp;omega)
 have el:bb bj (dV 0) [.sh (.lst (xs.map PV.str)),.un,.un]=some (.int (xs.length:Nat)):=by
  show some (PV.int ((xs.map PV.str).length:Nat))=_
  rw[List.length_map]
 refine cP rfl ((ak ((cc (kr (b:=true) (bF ?_))).trans rfl)).trans ?_)
 ·show hZ (dC (.int 1)) (bb bj (dV 0)) (dC (.int 6)) [.sh (.lst (xs.map PV.str)),.un,.un]=_
  unfold hZ
  rw[el]
  show(if(1:Int)<=((xs.length:Nat):Int)then some (PV.bl (decide (((xs.length:Nat):Int)<=6)))else some (.bl false))=_
  rw[if_pos (by omega),decide_eq_true (by omega)]
 ·exact(ak (j8 (l:=[]) (ku rfl (by simp)))).trans ((ak ((g9 (xs:=xs.map PV.str) (i4 rfl)).trans e)).trans (bV rfl))
theorem Nf{xs:List Str}(h:∀x∈xs,M4 x/\k8 (.str x) kept=false)(hd:xs.Nodup)(h1:1<=xs.length)(h6:xs.length<=6):fI [.lst (xs.map PV.str)]=some (.tup (xs.map PV.str)):=KO GP h hd h1 h6
theorem GR(ns:List Int)(a many:Nat)(h1:1<=many)(hm:many<=6):∃xs:List Str,xs.length=many/\xs.Nodup/\(∀x∈xs,M4 x/\k8 (.str x) kept=false)/\cU [m9 ns,.int a,.int many]=some (.lst (xs.map PV.str)):=by
 obtain⟨f,f1,f2,f3⟩:=Kw ns a many hm
 refine⟨(List.range many).map f,by rw[List.length_map,List.length_range],?_,λx hx=>?_,f3⟩
 ·unfold List.Nodup
  rw[List.pairwise_map]
  exact List.Pairwise.imp_of_mem (λ{j k} hj hk hjk=>f2 j k (by have:=List.mem_range.mp hj;omega) (by have:=List.mem_range.mp hk;omega) (by omega)) (List.pairwise_lt_range)
 ·obtain⟨k,_,rfl⟩:=List.mem_map.mp hx
  exact f1 k
theorem Ng{α β:Type}(f:α->β)(l:List α)(lo hi:Option Int):nE (l.map f) lo hi=(nE l lo hi).map f:=by
 unfold nE
 rw[List.length_map,<-List.map_drop,<-List.map_take]
theorem KP{α:Type}(l:List α){a b:Nat}(h:a<=b):(nE l (some (a:Int)) (some (b:Int))).length<=b-a:=by
 have ha:xG l.length 0 (some (a:Int))=min a l.length:=by
  show(if(a:Int)<0 then((a:Int)+(l.length:Nat)).toNat else min (a:Int).toNat l.length)=_
  rw[if_neg (by omega),Int.toNat_natCast]
 have hb:xG l.length l.length (some (b:Int))=min b l.length:=by
  show(if(b:Int)<0 then((b:Int)+(l.length:Nat)).toNat else min (b:Int).toNat l.length)=_
  rw[if_neg (by omega),Int.toNat_natCast]
 unfold nE
 rw[ha,hb,List.length_take]
 omega
theorem vb(ns:List Int)(a b:Nat)(h:a<=b){A:Den}{ρ:cH}(hA:A ρ=some (m9 ns)):∃cs:List Int,cs.length<=b-a/\v9 A (bO (dC (.int (a:Nat)))) (bO (dC (.int (b:Nat)))) ρ=some (.lst (cs.map PV.int)):=by
 refine⟨nE ns (some (a:Int)) (some (b:Int)),KP ns h,(ur (a:=some (a:Int)) (b:=some (b:Int)) hA rfl rfl).trans ?_⟩
 rw[Ng]
noncomputable def zi(c:Nat)(l m:List Nat):List Nat:=(List.range (2^c)).filter λg=>!decide (Mt.lets l g=Mt.lets m g)
theorem KQ{c:Nat}{l m:List Nat}(h:NY c l m=none):zi c l m=[]/\∀g,g<2^c->Mt.lets l g=Mt.lets m g:=by
 unfold NY at h
 rw[List.find?_eq_none]at h
 have key:∀g,g<2^c->Mt.lets l g=Mt.lets m g:=λg hg=>by
  have:=h g (lQ.mpr hg)
  simpa using this
 refine⟨?_,key⟩
 unfold zi
 rw[List.filter_eq_nil_iff]
 intro g hg
 simp[key g (List.mem_range.mp hg)]
theorem KR{c:Nat}{l m:List Nat}{f:Nat}(h:NY c l m=some f):f∈zi c l m/\f<2^c/\l≠m/\∀g∈zi c l m,¬Mt.rank g<Mt.rank f:=by
 unfold NY at h
 have hp:=List.find?_some h
 have hf:f<2^c:=lQ.mp (List.mem_of_find?_eq_some h)
 have Bm:¬Mt.lets l f=Mt.lets m f:=by simpa using hp
 refine⟨?_,hf,λz=>Bm (by rw[z]),λg hg hr=>?_⟩
 ·unfold zi
  exact List.mem_filter.mpr ⟨List.mem_range.mpr hf,hp⟩
 ·obtain⟨h1,h2⟩:=List.mem_filter.mp hg
  obtain⟨_,as,bs,e,hn⟩:=List.find?_eq_some_iff_append.mp h
  have Yr:g∈mV c:=lQ.mpr (List.mem_range.mp h1)
  have hs:=AF c
  rw[e]at Yr hs
  rcases List.mem_append.mp Yr with hm|hm
  ·have:=hn g hm
   rw[h2]at this
   cases this
  ·rcases List.mem_cons.mp hm with rfl|hm
   ·omega
   ·have:=(List.pairwise_cons.mp (List.pairwise_append.mp hs).2.1).1 g hm
    omega
theorem Nh{names:List Str}(h0:names≠[]):∃x∈names,jq (.lst (names.map PV.str)) (.int (-1))=some (.str x):=by
 have hl:0<names.length:=List.length_pos_iff.mpr h0
 have hi:names.length-1<names.length:=by omega
 refine⟨names[names.length-1],List.getElem_mem hi,?_⟩
 show itemAt (names.map PV.str) (-1)=_
 unfold itemAt RT
 rw[if_neg (by decide),if_pos (by rw[List.length_map];omega)]
 show(names.map PV.str)[(-1+((names.map PV.str).length:Int)).toNat]?=_
 have:(-1+((names.map PV.str).length:Int)).toNat=names.length-1:=by rw[List.length_map];omega
 rw[this,List.getElem?_map,List.getElem?_eq_getElem hi]
 rfl
section
variable{FR:List PV->Option PV}{names:List Str}{Ok:It->Prop}(B:UA names Ok)(hn:∀x∈names,x.length<=50)(n0:names≠[])
 (hR:∀cs:List Int,cs.length<=16->∃r:It,Ok r/\r.d<=cs.length+3/\r.t.length<=1100/\FR [.lst (cs.map PV.int),.lst (names.map PV.str)]=some r.s)
include B hn n0 hR
theorem C9(ns:List Int)(kind:Nat){r:It}(h:Ok r)(hd:kind<2->r.d<=11)(ht:r.t.length<=1100):∃q:It,Ok q/\q.d<=22/\q.t.length<=50000/\fn false 4 4 (pP FR) [m9 ns,r.s,.lst (names.map PV.str),.int (kind:Nat)]=some q.s:=by
 have t:∀k:Nat,tV (ag iG (dV 3) (dC (.int (k:Nat)))) [.sh (m9 ns),.sh r.s,.sh (.lst (names.map PV.str)),.sh (.int (kind:Nat))]=some (decide (kind=k)):=λk=>bF ((ai (x:=.int (kind:Nat)) (y:=.int (k:Nat)) rfl rfl).trans (sH _ _))
 by_cases k0:kind=0
 ·obtain⟨⟨q,q1,q2,q3,q4⟩,_,_⟩:=u9 B (its:=[r,r]) (n:=r.d) (by simp) (by simp) (by rw[mQ,jL];omega) λi hi=>by
    simp only[List.mem_cons,List.not_mem_nil,or_false,or_self]at hi
    subst hi
    exact⟨h,Nat.le_refl _⟩
  have:=hd (by omega)
  rw[mQ,jL]at q3
  refine⟨q,q1,by omega,by omega,cP rfl (dE ((d7 ((t 0).trans (by rw[decide_eq_true k0]))).trans (bV ?_)))⟩
  rw[q4]
  exact eK (aB (x:=.str "all") rfl (aB (x:=.tup [r.s,r.s]) (eK (xs:=[r.s,r.s]) rfl (by simp)) rfl)) (by simp)
 ·by_cases k1:kind=1
  ·obtain⟨x,hx,ex⟩:=Nh n0
   have lx:=hn x hx
   have:=hd (by omega)
   obtain⟨⟨a,a1,a2,a3,a4⟩,_,_⟩:=u9 B (its:=[r,⟨.ins 0 [.str x],.tup [.str "hand",.str x],x,0⟩]) (n:=r.d) (by simp) (by simp) (by rw[mQ,jL];show _+(x.length+2)<=_;omega) λi hi=>by
    simp only[List.mem_cons,List.not_mem_nil,or_false]at hi
    rcases hi with rfl|rfl
    ·exact⟨h,Nat.le_refl _⟩
    ·exact⟨B.hand x hx,Nat.zero_le _⟩
   rw[mQ,jL]at a3
   have a3':a.t.length+2<=r.t.length+2+(x.length+2)+10:=a3
   obtain⟨_,⟨q,q1,q2,q3,q4⟩,_⟩:=u9 B (its:=[r,a]) (n:=1+r.d) (by simp) (by simp) (by rw[mQ,jL];omega) λi hi=>by
    simp only[List.mem_cons,List.not_mem_nil,or_false]at hi
    rcases hi with rfl|rfl
    ·exact⟨h,by omega⟩
    ·exact⟨a1,by omega⟩
   rw[mQ,jL]at q3
   refine⟨q,q1,by omega,by omega,cP rfl ((ak ((cc ((t 0).trans (by rw[decide_eq_false k0]))).trans rfl)).trans (dE ((d7 ((t 1).trans (by rw[decide_eq_true k1]))).trans (bV ?_))))⟩
   rw[q4]
   have eh:fV (aa (dC (.str "hand")) (aa (ag jq (dV 2) (bb qx (dC (.int 1)))) ay)) [.sh (m9 ns),.sh r.s,.sh (.lst (names.map PV.str)),.sh (.int (kind:Nat))]=some (.tup [.str "hand",.str x]):=eK (aB (x:=.str "hand") rfl (aB ((ai (x:=.lst (names.map PV.str)) (y:=.int (-1)) rfl rfl).trans ex) rfl)) (by simp)
   have ea:fV (aa (dC (.str "all")) (aa (fV (aa (aR 1) (aa (fV (aa (dC (.str "hand")) (aa (ag jq (dV 2) (bb qx (dC (.int 1)))) ay))) ay))) ay)) [.sh (m9 ns),.sh r.s,.sh (.lst (names.map PV.str)),.sh (.int (kind:Nat))]=some a.s:=by
    rw[a4]
    exact eK (aB (x:=.str "all") rfl (aB (x:=.tup [r.s,.tup [.str "hand",.str x]]) (eK (aB (x:=r.s) rfl (aB eh rfl)) (by simp)) rfl)) (by simp)
   exact eK (aB (x:=.str "any") rfl (aB (x:=.tup [r.s,a.s]) (eK (aB (x:=r.s) rfl (aB ea rfl)) (by simp)) rfl)) (by simp)
  ·obtain⟨cs,c1,c2⟩:=vb ns 19 35 (by decide) (A:=dV 0) (ρ:=[.sh (m9 ns),.sh r.s,.sh (.lst (names.map PV.str)),.sh (.int (kind:Nat))]) rfl
   obtain⟨q,q1,q2,q3,q4⟩:=hR cs c1
   refine⟨q,q1,by omega,by omega,cP rfl ((ak ((cc ((t 0).trans (by rw[decide_eq_false k0]))).trans rfl)).trans ((ak ((cc ((t 1).trans (by rw[decide_eq_false k1]))).trans rfl)).trans (bV ?_)))⟩
   exact(a9 (aB c2 (aB (x:=.lst (names.map PV.str)) rfl rfl))).trans q4
end
section
variable{FC FN FR FS FRo FP FRd FH FW FT FB:List PV->Option PV}{T:Nat->List PV->Option PV}
theorem zg{names:List Str}{one two:PV}{r q:List Nat}(h1:∀g<2^names.length,FH [one,.lst (names.map PV.str),.int (g:Nat)]=some (.bl (Mt.lets r g)))(h2:∀g<2^names.length,FH [two,.lst (names.map PV.str),.int (g:Nat)]=some (.bl (Mt.lets q g)))
  (s0 s1 s2 s5 s7 s8 s9 u0:Slot):∀(gs acc:List Nat) (zh:Slot),(∀g∈gs,g<2^names.length)->acc.length+gs.length<=1000->∃Lc,forL (bh 12) (Ew FC FN FR FS FRo FP FRd FH FW FT FB T) (pl gs) [s0,s1,s2,.sh (.lst (names.map PV.str)),.sh one,s5,.sh two,s7,s8,s9,u0,.ow (pl acc),zh]=some (.nx [s0,s1,s2,.sh (.lst (names.map PV.str)),.sh one,s5,.sh two,s7,s8,s9,u0,.ow (pl (acc++gs.filter λg=>!decide (Mt.lets r g=Mt.lets q g))),Lc])
 |[],acc,zh,_,_=>⟨zh,by rw[List.filter_nil,List.append_nil];rfl⟩
 |g::gs,acc,zh,h,hl=>by
  rw[List.length_cons]at hl
  have hg:=h g (List.mem_cons_self ..)
  have tt:tV (ag gz (aH FH (aa (aR 4) (aa (aR 3) (aa (aR 12) ay)))) (aH FH (aa (aR 6) (aa (aR 3) (aa (aR 12) ay))))) [s0,s1,s2,.sh (.lst (names.map PV.str)),.sh one,s5,.sh two,s7,s8,s9,u0,.ow (pl acc),.sh (.int (g:Nat))]=some (!decide (Mt.lets r g=Mt.lets q g)):=
   bF ((ai ((a9 (ps:=[one,.lst (names.map PV.str),.int (g:Nat)]) rfl).trans (h1 g hg)) ((a9 (ps:=[two,.lst (names.map PV.str),.int (g:Nat)]) rfl).trans (h2 g hg))).trans (qH _ _))
  by_cases c:Mt.lets r g=Mt.lets q g
  ·obtain⟨Lc,e⟩:=zg h1 h2 s0 s1 s2 s5 s7 s8 s9 u0 gs acc (.sh (.int (g:Nat))) (λx hx=>h x (List.mem_cons_of_mem _ hx)) (by omega)
   refine⟨Lc,(kZ (i:=12) (x:=.int (g:Nat)) (xs:=pl gs) (ρ:=[s0,s1,s2,.sh (.lst (names.map PV.str)),.sh one,s5,.sh two,s7,s8,s9,u0,.ow (pl acc),zh]) ((cc (tt.trans (by rw[decide_eq_true c];rfl))).trans rfl)).trans ?_⟩
   rw[List.filter_cons_of_neg (by rw[decide_eq_true c];simp)]
   exact e
  ·obtain⟨Lc,e⟩:=zg h1 h2 s0 s1 s2 s5 s7 s8 s9 u0 gs (acc++[g]) (.sh (.int (g:Nat))) (λx hx=>h x (List.mem_cons_of_mem _ hx)) (by rw[List.length_append,List.length_singleton];omega)
   refine⟨Lc,(kZ (i:=12) (x:=.int (g:Nat)) (xs:=pl gs) (ρ:=[s0,s1,s2,.sh (.lst (names.map PV.str)),.sh one,s5,.sh two,s7,s8,s9,u0,.ow (pl acc),zh]) ((d7 (tt.trans (by rw[decide_eq_false c];rfl))).trans ((mT (x:=.int (g:Nat)) (l:=pl acc) rfl rfl (by rw[gI];omega)).trans rfl))).trans ?_⟩
   rw[List.filter_cons_of_pos (by rw[decide_eq_false c];rfl)]
   rw[List.append_assoc,List.singleton_append]at e
   refine Eq.trans ?_ e
   show forL _ _ _ [s0,s1,s2,.sh (.lst (names.map PV.str)),.sh one,s5,.sh two,s7,s8,s9,u0,.ow (pl acc++[PV.int (g:Nat)]),.sh (.int (g:Nat))]=_
   have:pl acc++[PV.int (g:Nat)]=pl (acc++[g]):=by
    unfold pl
    rw[List.map_append]
    rfl
   rw[this]
   rfl
theorem Ni{names:List Str}(x1:1<=names.length)(x6:names.length<=6){ns:List Int}{f0:Int}(hC:FC [m9 ns,.int (0:Nat)]=some (.int f0))(Xw:names.length=1+(f0 %((6:Nat):Int)).toNat)
  (hN:FN [m9 ns,.int (1:Nat),.int (names.length:Nat)]=some (.lst (names.map PV.str)))
  {Ok:It->Prop}(hR:∀cs:List Int,cs.length<=16->∃r:It,Ok r/\r.d<=cs.length+3/\r.t.length<=1100/\FR [.lst (cs.map PV.int),.lst (names.map PV.str)]=some r.s)
  (hS:∀(kind:Nat) {r:It},Ok r->(kind<2->r.d<=11)->r.t.length<=1100->∃q:It,Ok q/\q.d<=22/\q.t.length<=50000/\FS [m9 ns,r.s,.lst (names.map PV.str),.int (kind:Nat)]=some q.s)
  (hRo:FRo [.lst (names.map PV.str)]=some (.tup (names.map PV.str)))
  (Ys:∀{i:It},Ok i->i.d<=22->i.t.length<=50000->∃r,i6 names.length r/\FT [i.s]=some (.str i.t)/\FRd [.tup (names.map PV.str),.str i.t]=some i.o/\(∃c l,i.o=.ins c l/\T c [i.o,.tup (names.map PV.str)]=some (aA r))/\∀g<2^names.length,FH [i.s,.lst (names.map PV.str),.int (g:Nat)]=some (.bl (Mt.lets r g)))
  (hP:∀{c:Nat},c<=6->∀{l m:List Nat},l.length<=64->m.length<=64->FP [.int c,aA l,aA m]=some (NZ c l m))
  (hW:∀k:Int,FW [.int k]=some (.bl true))(hB:∀{a b:Nat},a<64->b<64->FB [.int a,.int b]=some (.bl (F6 a b))):
  fn false 13 1 (N5 FC FN FR FS FRo FP FRd FH FW FT FB T) [m9 ns]=some (.bl true):=by
 have zl:(5000:Nat)<=sizeLine:=by decide
 have W0:=iR x6
 refine cP rfl ?_
 refine(ak (aU ((a9 (ps:=[m9 ns,.int (0:Nat)]) rfl).trans hC))).trans ?_
 refine(ak (aU (p:=.int (names.length:Nat)) ?_)).trans ?_
 ·rw[Xw]
  exact(ai (x:=.int ((1:Nat):Int)) rfl ((ai (x:=.int f0) (y:=.int ((6:Nat):Int)) rfl rfl).trans (dU _ (by decide)))).trans rfl
 refine(ak (aU ((a9 (ps:=[m9 ns,.int (1:Nat),.int (names.length:Nat)]) rfl).trans hN))).trans ?_
 obtain⟨cs,c1,c2⟩:=vb ns 3 19 (by decide) (A:=dV 0) (ρ:=[.sh (m9 ns),.sh (.int f0),.sh (.int (names.length:Nat)),.sh (.lst (names.map PV.str)),.un,.un,.un,.un,.un,.un,.un,.un,.un]) rfl
 obtain⟨KS,o1,o2,o3,o4⟩:=hR cs c1
 refine(ak (aU ((a9 (aB c2 (aB (x:=.lst (names.map PV.str)) rfl rfl))).trans o4))).trans ?_
 have e5:ag fW (ag oQ (dV 1) (dC (.int 6))) (dC (.int 5)) [.sh (m9 ns),.sh (.int f0),.sh (.int (names.length:Nat)),.sh (.lst (names.map PV.str)),.sh KS.s,.un,.un,.un,.un,.un,.un,.un,.un]=some (.int ((f0/6 %((5:Nat):Int)).toNat:Nat)):=(ai (x:=.int (f0/6)) (y:=.int ((5:Nat):Int)) ((ai (x:=.int f0) (y:=.int 6) rfl rfl).trans (pK _ (by decide) (by decide))) rfl).trans (dU _ (by decide))
 generalize(f0/6 %((5:Nat):Int)).toNat=kind at e5
 refine(ak (aU e5)).trans ?_
 have t5:tV (ag qy (dV 5) (dC (.int 2))) [.sh (m9 ns),.sh (.int f0),.sh (.int (names.length:Nat)),.sh (.lst (names.map PV.str)),.sh KS.s,.sh (.int (kind:Nat)),.un,.un,.un,.un,.un,.un,.un]=some (decide (kind<2)):=by
  refine bF ((ai (x:=.int (kind:Nat)) (y:=.int 2) rfl rfl).trans ?_)
  show some (PV.bl (decide ((kind:Int)<2)))=_
  congr 2
  rw[decide_eq_decide]
  omega
 have st:∃one:It,Ok one/\one.d<=19/\(kind<2->one.d<=11)/\one.t.length<=1100/\fQ (tV (ag qy (dV 5) (dC (.int 2)))) (bP 4 (aH FR (aa (v9 (dV 0) (bO (dC (.int 3))) (bO (dC (.int 11)))) (aa (aR 3) ay)))) bA [.sh (m9 ns),.sh (.int f0),.sh (.int (names.length:Nat)),.sh (.lst (names.map PV.str)),.sh KS.s,.sh (.int (kind:Nat)),.un,.un,.un,.un,.un,.un,.un]=some (.nx [.sh (m9 ns),.sh (.int f0),.sh (.int (names.length:Nat)),.sh (.lst (names.map PV.str)),.sh one.s,.sh (.int (kind:Nat)),.un,.un,.un,.un,.un,.un,.un]):=by
  by_cases k2:kind<2
  ·obtain⟨cs,c1,c2⟩:=vb ns 3 11 (by decide) (A:=dV 0) (ρ:=[.sh (m9 ns),.sh (.int f0),.sh (.int (names.length:Nat)),.sh (.lst (names.map PV.str)),.sh KS.s,.sh (.int (kind:Nat)),.un,.un,.un,.un,.un,.un,.un]) rfl
   obtain⟨one,o1,o2,o3,o4⟩:=hR cs (by omega)
   exact⟨one,o1,by omega,λ_=>by omega,o3,(d7 (t5.trans (by rw[decide_eq_true k2]))).trans (aU ((a9 (aB c2 (aB (x:=.lst (names.map PV.str)) rfl rfl))).trans o4))⟩
  ·exact⟨KS,o1,by omega,λz=>absurd z k2,o3,(cc (t5.trans (by rw[decide_eq_false k2]))).trans rfl⟩
 obtain⟨one,a1,a2,a3,a4,a5⟩:=st
 refine(ak a5).trans ?_
 obtain⟨two,b1,b2,b3,b4⟩:=hS kind a1 a3 a4
 refine(ak (aU ((a9 (ps:=[m9 ns,one.s,.lst (names.map PV.str),.int (kind:Nat)]) rfl).trans b4))).trans ?_
 refine(ak (aU ((a9 (ps:=[.lst (names.map PV.str)]) rfl).trans hRo))).trans ?_
 obtain⟨r,r1,r2,r3,⟨rc,rl,r4,r5⟩,r6⟩:=Ys a1 (by omega) (by omega)
 obtain⟨q,q1,q2,q3,⟨qc,ql,q4,q5⟩,q6⟩:=Ys b1 b2 b3
 have zO:∀{i:It} {s:PV} {k c:Nat} {l:List PV} {z:List Nat} {ρ:cH},aR k ρ=some i.s->aR 7 ρ=some (.tup (names.map PV.str))->FT [i.s]=some (.str i.t)->FRd [.tup (names.map PV.str),.str i.t]=some i.o->i.o=.ins c l->T c [i.o,.tup (names.map PV.str)]=some (aA z)->j6 T (aH FRd (aa (aR 7) (aa (aH FT (aa (aR k) ay)) ay))) (aa (aR 7) ay) ρ=some (aA z):=λ{i s k c l z ρ} g1 g2 g3 g4 g5 g6=>by
  have h1:aH FRd (aa (aR 7) (aa (aH FT (aa (aR k) ay)) ay)) ρ=some i.o:=(a9 (aB g2 (aB ((a9 (aB g1 rfl)).trans g3) rfl))).trans g4
  show(aH FRd (aa (aR 7) (aa (aH FT (aa (aR k) ay)) ay)) ρ).bind _=_
  rw[h1]
  rw[g5]at g6⊢
  show((aa (aR 7) ay) ρ).bind _=_
  rw[aB g2 (as:=ay) (xs:=[]) rfl]
  exact g6
 refine(ak (aU (zO (i:=one) (s:=.non) (k:=4) rfl rfl r2 r3 r4 r5))).trans ?_
 refine(ak (aU (zO (i:=two) (s:=.non) (k:=6) rfl rfl q2 q3 q4 q5))).trans ?_
 have n1:=r1.len
 have n2:=q1.len
 refine(ak (aU ((a9 (ps:=[.int (names.length:Nat),aA r,aA q]) rfl).trans (hP x6 n1 n2)))).trans ?_
 refine(ak (j8 (l:=[]) (ku rfl (by simp)))).trans ?_
 obtain⟨Lc,ul⟩:=zg (FC:=FC) (FN:=FN) (FR:=FR) (FS:=FS) (FRo:=FRo) (FP:=FP) (FRd:=FRd) (FW:=FW) (FT:=FT) (FB:=FB) (T:=T) r6 q6 (.sh (m9 ns)) (.sh (.int f0)) (.sh (.int (names.length:Nat))) (.sh (.int (kind:Nat))) (.sh (.tup (names.map PV.str))) (.sh (aA r)) (.sh (aA q)) (.sh (NZ names.length r q)) (List.range (2^names.length)) [] .un (λg hg=>List.mem_range.mp hg) (by rw[List.length_range];simp;omega)
 rw[List.nil_append]at ul
 refine(ak ((g9 (pJ (n:=2^names.length) ((ai (x:=.int 1) (y:=.int (names.length:Nat)) rfl rfl).trans (Eg _ x6)) (by omega))).trans ul)).trans ?_
 change(aN (fQ (Bj (tV (ag gz (ag iG (dV 8) (dV 9)) (bb vn (dV 10)))) (tV (ag gz (bb vn (dV 10)) (ag iG (bb bj (dV 11)) (dC (.int 0)))))) (a8 (dC (.bl false))) bA) (aN (fQ (tV (bb vn (dV 10))) (a8 (dC (.bl true))) bA) (aN (fQ (Bj (lz (tV (aH FW (aa (aR 10) ay)))) (tV (ag jD (dV 10) (dV 11)))) (a8 (dC (.bl false))) bA) (a8 (ag iG (bb bj (b9 (nList (dV 11)) (tV (aH FB (aa (aR 0) (aa (aR 11) ay)))) (aR 0))) (dC (.int 0))))))) [.sh (m9 ns),.sh (.int f0),.sh (.int (names.length:Nat)),.sh (.lst (names.map PV.str)),.sh one.s,.sh (.int (kind:Nat)),.sh two.s,.sh (.tup (names.map PV.str)),.sh (aA r),.sh (aA q),.sh (NZ names.length r q),.ow (pl (zi names.length r q)),Lc]=_
 have len0:∀u0,ag iG (bb bj (dV 11)) (dC (.int 0)) [.sh (m9 ns),.sh (.int f0),.sh (.int (names.length:Nat)),.sh (.lst (names.map PV.str)),.sh one.s,.sh (.int (kind:Nat)),.sh two.s,.sh (.tup (names.map PV.str)),.sh (aA r),.sh (aA q),u0,.ow (pl (zi names.length r q)),Lc]=some (.bl (decide ((zi names.length r q).length=0))):=by
  intro u0
  refine(ai (x:=.int ((zi names.length r q).length:Nat)) (y:=.int (0:Nat)) ?_ rfl).trans (sH _ _)
  show some (PV.int ((pl _).length:Nat))=_
  rw[gI]
 have same:∀u0,ag iG (dV 8) (dV 9) [.sh (m9 ns),.sh (.int f0),.sh (.int (names.length:Nat)),.sh (.lst (names.map PV.str)),.sh one.s,.sh (.int (kind:Nat)),.sh two.s,.sh (.tup (names.map PV.str)),.sh (aA r),.sh (aA q),u0,.ow (pl (zi names.length r q)),Lc]=some (.bl (decide (r=q))):=λu0=>(ai (x:=aA r) (y:=aA q) rfl rfl).trans (QB r q)
 unfold NZ
 cases hf:NY names.length r q with
 |none=>
  obtain⟨u1,u2⟩:=KQ hf
  have u3:r=q:=r1.eq q1 u2
  refine(ak ((cc ((pI (bF ?_)).trans (bF ?_))).trans rfl)).trans ?_
  ·refine(ai (same _) (y:=.bl true) rfl).trans ?_
   rw[decide_eq_true u3,qH]
   rfl
  ·refine(ai (x:=.bl true) rfl (len0 _)).trans ?_
   rw[u1,qH]
   rfl
  exact dE ((d7 (bF rfl)).trans rfl)
 |some f=>
  obtain⟨u1,u2,u3,u4⟩:=KR hf
  refine(ak ((cc ((pI (bF ?_)).trans (bF ?_))).trans rfl)).trans ?_
  ·refine(ai (same _) (y:=.bl false) rfl).trans ?_
   rw[decide_eq_false u3,qH]
   rfl
  ·refine(ai (x:=.bl false) rfl (len0 _)).trans ?_
   rw[qH,decide_eq_false (p:=(zi names.length r q).length=0) (λz=>by
    rw[List.eq_nil_of_length_eq_zero z]at u1
    cases u1)]
   rfl
  refine(ak ((cc (bF rfl)).trans rfl)).trans ?_
  refine(ak ((cc ((pI (kr (b:=true) (bF ((a9 (ps:=[.int (f:Nat)]) rfl).trans (hW _))))).trans (bF ?_))).trans rfl)).trans ?_
  ·refine(ai (x:=.int (f:Nat)) (y:=aA (zi names.length r q)) rfl rfl).trans ?_
   rw[Gh,decide_eq_true u1]
   rfl
  have ul:(zi names.length r q).length<=64:=by
   have:=List.length_filter_le (λg=>!decide (Mt.lets r g=Mt.lets q g)) (List.range (2^names.length))
   rw[List.length_range]at this
   unfold zi
   omega
  have d2:b9 (nList (dV 11)) (tV (aH FB (aa (aR 0) (aa (aR 11) ay)))) (aR 0) [.sh (m9 ns),.sh (.int f0),.sh (.int (names.length:Nat)),.sh (.lst (names.map PV.str)),.sh one.s,.sh (.int (kind:Nat)),.sh two.s,.sh (.tup (names.map PV.str)),.sh (aA r),.sh (aA q),.sh (.int (f:Nat)),.ow (pl (zi names.length r q)),Lc]=some (aA ((zi names.length r q).filter λg=>decide (Mt.rank g<Mt.rank f))):=by
   refine wH (l:=zi names.length r q) rfl (by omega) λg hg=>?_
   have hg':g<2^names.length:=List.mem_range.mp (List.mem_filter.mp hg).1
   refine bF ((a9 (ps:=[.int (g:Nat),.int (f:Nat)]) rfl).trans ?_)
   rw[hB (by omega) (by omega),wD (by omega) (by omega)]
  refine bV ((ai (x:=.int (0:Nat)) (y:=.int (0:Nat)) ?_ rfl).trans rfl)
  refine(bW d2).trans ?_
  have:(zi names.length r q).filter (λg=>decide (Mt.rank g<Mt.rank f))=[]:=by
   rw[List.filter_eq_nil_iff]
   intro g hg
   simpa using u4 g hg
  rw[this]
  rfl
end
theorem GS(k:Int):dt [.int k]=some (.bl true):=rfl
theorem law_true(ns:List Int)(h:ns.length<=63):Ex [.lst (ns.map .int)]=some (.bl true):=by
 have hz:=mod_lt (ns.getD 0 0) (n:=6) (by decide)
 obtain⟨xs,x1,x2,x3,x4⟩:=GR ns 1 (1+(ns.getD 0 0 %((6:Nat):Int)).toNat) (by omega) (by omega)
 have hN:∀x∈xs,Rq.vE x:=λx hx=>UD (x3 x hx).1
 have hn:∀x∈xs,x.length<=50:=λx hx=>by have:=(x3 x hx).1.2.2;omega
 have h6:xs.length<=6:=by omega
 have x0:xs≠[]:=λz=>by rw[z]at x1;simp at x1;omega
 have B:=okB hN h6
 exact Ni (names:=xs) (by omega) h6 (Ee ns 0) x1 (by rw[x1];exact x4) (Ok:=Xv xs) (λcs hc=>EH B hn x0 cs hc) (λkind {r} h1 h2 h3=>C9 B hn x0 (λcs hc=>EH B hn x0 cs hc) ns kind h1 h2 h3) (Nf x3 x2 (by omega) h6) (λ{i} h1 h2 h3=>C8 hN h6 h1 h2 h3) Gk GS F8
end L2.D.My
open PySem PySem.W PyProof.Rows
theorem PySem.Challenge.cw_signright_k72_whole_two_rules_holds : PySem.Challenge.rw_signright_k72_whole_two_rules.Holds := by
  w_on
  refine PySem.W.holds_law (by kernel_rfl) fun aar => ?_
  refine PySem.W.holds_open (q := L2.D.My.RB) (loose := ["FEWEST_PARTS"]) (Xt := L2.D.My.Vm) (XP := XL L2.D.My.RB []) (Yf := Hook.obs (kHook L2.D.My.KW L2.D.My.KY L2.D.My.Le)) (Ya := Hook.val (kHook L2.D.My.KW L2.D.My.KY L2.D.My.Le)) (YP := Hook.says (kHook L2.D.My.KW L2.D.My.KY L2.D.My.Le)) (N := 20000) L2.D.My.YB (Hook.of (kHook L2.D.My.KW L2.D.My.KY L2.D.My.Le)) (Hook.keeps (kHook L2.D.My.KW L2.D.My.KY L2.D.My.Le)) (fun s e => xl_of s (Bool.and_eq_true_iff.mp e).1) XL.keeps (by rfl) (by rfl) (by rfl) (fun s e => recFacts_of (Bool.and_eq_true_iff.mp e).2) (by rfl) (by first | assumption | decide +kernel) (by decide +kernel) ⟨rfl, rfl, rfl, rfl, rfl, by decide +kernel⟩ ?hw ?hc
  (case hw => w_witness2)
  k_fill
  refine L2.D.walkD2 (l := PySem.Challenge.rw_signright_k72_whole_two_rules) (k := 54) (x := "_law_script") (F := L2.D.My.Ex) rfl (by decide) rfl ⟨rfl, by decide, by decide⟩ (fun w h Y => PySem.W.kIn_of Y) ?F L2.D.My.law_true
  case F =>
    intro w mg fa h KX G S1
    refine' L2.D.My.all_mk L2.D.My.place_key KX G S1 ?CF ?nS ?CG ?JU ?JV ?CH ?qV ?sJ ?sL ?sM ?sN ?yK ?yL ?yM ?yN ?yO ?mf ?yP ?yQ ?yR ?yS ?CI ?CJ ?CK ?CL ?CM ?kJ ?mh ?yT ?yU ?yV ?yW ?CN ?CO ?CP ?CQ ?CS ?kK ?mi ?sO ?sP ?sQ ?sR ?yX ?yY ?yZ ?y6 ?y7 ?jP ?kM ?nT ?nU ?nV ?nW ?nX ?nY ?iw ?ix ?kN ?EA ?EB ?QY ?JW ?JX ?QZ ?JY ?JZ ?Q0 ?J0 ?J1 ?Q1 ?J2 ?J3 ?Q2 ?J4 ?J5 ?Q3 ?J6 ?J7 ?Q4 ?Q5 ?Q6 ?Q7 ?Q8 ?Q9 ?Ra ?Rb ?Rc ?R9 ?Sa ?fiH ?fnH ?Rf ?fiA ?fnA ?Rh ?fiY ?fnY ?Ri ?fiS ?fnS ?Rj ?fiC ?fnC ?Rk ?rdC ?fcC ?gaC ?hdC ?nZ ?n5 ?n6 ?n8 ?y8 ?y9 ?uR ?uS ?CT ?CU ?za ?zb ?mj ?mn ?qW ?qX ?CV ?CW ?og ?oh ?jQ ?jR ?jk ?cA ?fB ?jl ?iy ?jm ?jS ?jT ?oi ?oj ?om ?oo ?mq ?mv ?oq ?ot ?kO ?kP ?qY ?qZ ?rb ?rf ?uT ?uU ?CY ?CZ ?my ?mz ?mB ?mC ?ou ?oy ?mD ?mE ?kQ ?kR ?EC ?J8 ?J9 ?Ka ?C0 ?Kb ?kT ?Kc ?C1 ?Kd ?Ke ?zc ?uV ?Kf ?zd ?Kg ?jU ?jV ?kU ?kW ?kX
    (case CF => k_is)
    (case nS => k_is)
    (case CG => k_is)
    (case JU => k_is)
    (case JV => k_is)
    (case CH => k_is)
    (case qV => k_is)
    (case sJ => k_is)
    (case sL => k_is)
    (case sM => k_is)
    (case sN => k_is)
    (case yK => k_is)
    (case yL => k_is)
    (case yM => k_is)
    (case yN => k_is)
    (case yO => kit_is)
    (case mf => k_is)
    (case yP => k_is)
    (case yQ => k_is)
    (case yR => k_is)
    (case yS => k_is)
    (case CI => k_is)
    (case CJ => k_is)
    (case CK => k_is)
    (case CL => k_is)
    (case CM => kit_is)
    (case kJ => k_is)
    (case mh => k_is)
    (case yT => k_is)
    (case yU => k_is)
    (case yV => k_is)
    (case yW => k_is)
    (case CN => k_is)
    (case CO => k_is)
    (case CP => k_is)
    (case CQ => k_is)
    (case CS => kit_is)
    (case kK => k_is)
    (case mi => k_is)
    (case sO => k_is)
    (case sP => k_is)
    (case sQ => k_is)
    (case sR => k_is)
    (case yX => k_is)
    (case yY => k_is)
    (case yZ => k_is)
    (case y6 => k_is)
    (case y7 => kit_is)
    (case jP => k_is)
    (case kM => k_is)
    (case nT => k_is)
    (case nU => k_is)
    (case nV => k_is)
    (case nW => k_is)
    (case nX => k_is)
    (case nY => k_is)
    (case iw => k_is)
    (case ix => k_is)
    (case kN => k_is)
    (case EA => k_is)
    (case EB => k_is)
    (case QY => apply L2.D.My.jX <;> k_is)
    (case JW => k_is)
    (case JX => k_is)
    (case QZ => apply L2.D.My.jX <;> k_is)
    (case JY => k_is)
    (case JZ => k_is)
    (case Q0 => apply L2.D.My.jX <;> k_is)
    (case J0 => k_is)
    (case J1 => k_is)
    (case Q1 => apply L2.D.My.jX <;> k_is)
    (case J2 => k_is)
    (case J3 => k_is)
    (case Q2 => apply L2.D.My.jX <;> k_is)
    (case J4 => k_is)
    (case J5 => k_is)
    (case Q3 => apply L2.D.My.jX <;> k_is)
    (case J6 => k_is)
    (case J7 => k_is)
    (case Q4 => apply L2.D.My.jX <;> k_is)
    (case Q5 => k_is)
    (case Q6 => apply L2.D.My.jX <;> k_is)
    (case Q7 => k_is)
    (case Q8 => apply L2.D.My.jX <;> k_is)
    (case Q9 => k_is)
    (case Ra => k_is)
    (case Rb => exact ⟨⟨_, _, rfl⟩, ⟨_, _, rfl⟩, ⟨_, _, rfl⟩, ⟨_, _, rfl⟩, ⟨_, _, rfl⟩, ⟨_, _, rfl⟩, ⟨_, _, rfl⟩, ⟨_, _, rfl⟩, ⟨_, _, rfl⟩, ⟨_, _, rfl⟩, trivial⟩)
    (case Rc => rfl)
    (case R9 => k_is)
    (case Sa => k_is)
    (case fiH => k_is)
    (case fnH => k_is)
    (case Rf => apply L2.D.My.jX <;> k_is)
    (case fiA => k_is)
    (case fnA => k_is)
    (case Rh => apply L2.D.My.jX <;> k_is)
    (case fiY => k_is)
    (case fnY => k_is)
    (case Ri => apply L2.D.My.jX <;> k_is)
    (case fiS => k_is)
    (case fnS => k_is)
    (case Rj => apply L2.D.My.jX <;> k_is)
    (case fiC => k_is)
    (case fnC => k_is)
    (case Rk => apply L2.D.My.jX <;> k_is)
    (case rdC => k_is)
    (case fcC => k_is)
    (case gaC => k_is)
    (case hdC => rfl)
    (case nZ => k_is)
    (case n5 => apply L2.D.My.jX <;> k_is)
    (case n6 => k_is)
    (case n8 => apply L2.D.My.jX <;> k_is)
    (case y8 => k_is)
    (case y9 => apply L2.D.My.jX <;> k_is)
    (case uR => k_is)
    (case uS => apply L2.D.My.jX <;> k_is)
    (case CT => k_is)
    (case CU => apply L2.D.My.jX <;> k_is)
    (case za => k_is)
    (case zb => apply L2.D.My.jX <;> k_is)
    (case mj => k_is)
    (case mn => apply L2.D.My.jX <;> k_is)
    (case qW => k_is)
    (case qX => apply L2.D.My.jX <;> k_is)
    (case CV => k_is)
    (case CW => apply L2.D.My.jX <;> k_is)
    (case og => k_is)
    (case oh => apply L2.D.My.jX <;> k_is)
    (case jQ => k_is)
    (case jR => k_is)
    (case jk => k_is)
    (case cA => k_is)
    (case fB => apply L2.D.My.jX <;> k_is)
    (case jl => k_is)
    (case iy => k_is)
    (case jm => apply L2.D.My.jX <;> k_is)
    (case jS => k_is)
    (case jT => apply L2.D.My.jX <;> k_is)
    (case oi => k_is)
    (case oj => apply L2.D.My.jX <;> k_is)
    (case om => k_is)
    (case oo => apply L2.D.My.jX <;> k_is)
    (case mq => k_is)
    (case mv => apply L2.D.My.jX <;> k_is)
    (case oq => k_is)
    (case ot => apply L2.D.My.jX <;> k_is)
    (case kO => k_is)
    (case kP => apply L2.D.My.jX <;> k_is)
    (case qY => k_is)
    (case qZ => apply L2.D.My.jX <;> k_is)
    (case rb => k_is)
    (case rf => apply L2.D.My.jX <;> k_is)
    (case uT => k_is)
    (case uU => apply L2.D.My.jX <;> k_is)
    (case CY => k_is)
    (case CZ => apply L2.D.My.jX <;> k_is)
    (case my => k_is)
    (case mz => apply L2.D.My.jX <;> k_is)
    (case mB => k_is)
    (case mC => apply L2.D.My.jX <;> k_is)
    (case ou => k_is)
    (case oy => apply L2.D.My.jX <;> k_is)
    (case mD => k_is)
    (case mE => apply L2.D.My.jX <;> k_is)
    (case kQ => k_is)
    (case kR => apply L2.D.My.jX <;> k_is)
    (case EC => k_is)
    (case J8 => apply L2.D.My.jX <;> k_is)
    (case J9 => k_is)
    (case Ka => k_is)
    (case C0 => k_is)
    (case Kb => k_is)
    (case kT => k_is)
    (case Kc => k_is)
    (case C1 => k_is)
    (case Kd => k_is)
    (case Ke => k_is)
    (case zc => k_is)
    (case uV => k_is)
    (case Kf => k_is)
    (case zd => k_is)
    (case Kg => k_is)
    (case jU => k_is)
    (case jV => k_is)
    (case kU => k_is)
    (case kW => k_is)
    (case kX => k_is)
