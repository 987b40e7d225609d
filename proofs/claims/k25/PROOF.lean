import PyProof.Rows.All
import Wide.All
import KE.KSortKey
import KE.RegKIsAll
import Wide.FinOn
import Lean
import PyProof.EqAt
import PyProof.EqKinds
import PyProof.TupleCall
import PyProof.Rows.SortPure
import PySem.Builtin.Int.W1All
import PySem.Sem
import PyProof.StrBlockL
import PyProof.SliceStr2
import PyProof.StrCalls2
import PyProof.WalkInts
import PyProof.Rows.StrStep
import PyProof.FactsAll.tuple_0
import PyProof.FactsAll.tuple_2
import PyProof.FactsAll.tuple_3
import PyProof.StrLawsIdx
import PyProof.SliceList
import PySem.Challenge.RW_signright_k25_the_least_groups
set_option Elab.async false
set_option linter.all false
set_option maxRecDepth 100000
set_option maxHeartbeats 0
set_option genSizeOf false
set_option genSizeOfSpec false
local macro_rules | `(tactic| omega) => `(tactic| lia)
namespace HX
open PySem PySem.W
noncomputable def Rg(p:Program)(w:World)(N:Nat):Option Shared:=
 ((PySem.W.Fast.tw10274390034422433532 PySem.W.Fast.tw14364793385576792824 (opening p) w N (start (opening p)).1 (start (opening p)).2).bind (fenceModules? p)).bind λs=>
 match s.heap.isNs mainGlobals&&s.gens.size==0 with
 |true=>(PySem.W.Fast.tw14082659384304107361 PySem.W.Fast.tw14364793385576792824 p w s.heap.objs.size (s.heap.nsMap mainGlobals "__annotations__") N s (topStub p)).bind λz=>match staticsOk (importedModules p.main.body) s.heap z.heap&&namesBound p z.heap&&gensDone z&&laidKept s.heap z.heap with
  |true=>some z
  |false=>none
 |false=>none
theorem Uy(p:Program)(w:World)(N:Nat):openEnds treeTable p w N=Rg p w N:=by
 unfold openEnds fencedOpening Rg
 rw[PySem.W.Fast.te10274390034422433532,<-PySem.W.Fast.te14082659384304107361,<-PySem.W.Fast.te14364793385576792824]
 rfl
end HX
namespace L2.D.My
open PySem
noncomputable abbrev KI:=PySem.Challenge.pw_signright_k25_the_least_groups
noncomputable def mw(i:Nat):Stmt:=KI.main.body.getD i (.Pass ⟨0,0,0,0⟩)
noncomputable def rG(i j:Nat):Stmt:=match mw i with
 |.ClassDef (body:=b) ..=>b.getD j (.Pass ⟨0,0,0,0⟩)
 |_=>.Pass ⟨0,0,0,0⟩
noncomputable def Uz(s:Stmt):Arguments:=match s with
 |.FunctionDef (args:=a) ..=>a
 |_=>⟨[],[],none,[],[],none,[]⟩
noncomputable def UA(s:Stmt):List Stmt:=match s with
 |.FunctionDef (body:=b) ..=>b
 |_=>[]
noncomputable def UB(s:Stmt):Scope:=match s with
 |.FunctionDef (scope:=b) ..=>b
 |_=>default
noncomputable abbrev aA:Value:=.none
noncomputable abbrev aB(s:Str)(t:Tok):Value:=.str s t
noncomputable abbrev aq(a:Addr):Value:=.ref a
noncomputable abbrev b8(P:Params)(s:Str)(t:Tok)(v:Value):DictEntry:=⟨PyData.keyHash P s,.str s t,v⟩
noncomputable abbrev f9(l:List Value):Obj:=⟨.type "code",none,.fields l.toArray,#[]⟩
noncomputable abbrev gc(n q:Str)(st:Stmt)(dV kV doc pm:Value)(an:Option Addr)(cd ct:Value):Obj:=⟨.type "function",none,.func (PySem.W.fnOf n q (Uz st) (UA st) (UB st) dV kV doc pm an cd ct),#[]⟩
noncomputable def RU(l:List Stmt):List Nat->List Stmt
 |[]=>[]
 |i::r=>match l[i]? with
  |some s=>s::RU l r
  |none=>RU l r
noncomputable def Oi:Program:={KI with main:={KI.main with body:=RU KI.main.body [0,2,3,5,6,7,8,9,10,11,13,14,15,16,18,19,20,21,22,23,25,26,27,28,29,30,31,32,33,34,35,36,37,38,39]}}
noncomputable def IJ(P:Params):PySem.W.Frag:=
 (nat_lit 2,⟨aA,none,.dict #[] 0,#[]⟩)::
 (nat_lit 3,⟨(.type "dict"),none,.dict (List.toArray [b8 P "__name__" 165 (aB "law_signright_k25_the_least_groups" 586),b8 P "__doc__" 166 aA,b8 P "__package__" 167 aA,b8 P "__loader__" 168 (.builtin "__main__.__loader__#opaque"),b8 P "__spec__" 169 aA,b8 P "__annotations__" 170 (aq 6),b8 P "__builtins__" 171 (aq 4),b8 P "__file__" 173 (aB "/claim/cut.py" 172),b8 P "__cached__" 174 aA,b8 P "_wall" 193 (aq 21),b8 P "SignError" 213 (aq 31),b8 P "NoHand" 229 (aq 44),b8 P "MOST_HANDS" 233 (.int 6 232),b8 P "has_hand" 241 (aq 53),b8 P "hands_of" 247 (aq 58),b8 P "group_of" 257 (aq 65),b8 P "place" 265 (aq 72),b8 P "within" 273 (aq 79),b8 P "groups_of" 280 (aq 86),b8 P "lets" 288 (aq 91),b8 P "least" 297 (aq 98),b8 P "letting" 303 (aq 103),b8 P "some" 309 (aq 108),b8 P "Rule" 362 (aq 146),b8 P "Hand" 418 (aq 195),b8 P "Counting" 470 (aq 236),b8 P "All" 508 (aq 269),b8 P "Any" 546 (aq 302),b8 P "Some" 585 (aq 335),b8 P "_law_cell_at" 595 (aq 344),b8 P "_law_base" 606 (aq 351),b8 P "_law_name" 618 (aq 358),b8 P "_law_names" 635 (aq 365),b8 P "_law_roll" 642 (aq 372),b8 P "_law_hand" 649 (aq 379),b8 P "_law_counted" 655 (aq 384),b8 P "_law_folded" 665 (aq 391),b8 P "_law_built" 671 (aq 396),b8 P "_law_doubled" 682 (aq 403),b8 P "_law_holds" 688 (aq 408),b8 P "_law_whole" 695 (aq 415),b8 P "_law_before" 701 (aq 420),b8 P "_law_in_order" 707 (aq 425),b8 P "law" 713 (aq 430)]) 44,#[]⟩)::
 (nat_lit 20,f9 [(aB "_wall" 187),(aB "_wall" 188),(aB "/claim/cut.py" 189),(.int 1 0),(.int 1 0),(.int 0 0),(.int 0 0),(.int 3 0),(aq 15),(.bool true),(.int 181 0),(aq 16),aA,(aq 17),(aq 18),(aq 19),(.int 191 0),(.int 1 0),(aB "/claim/cut.py" 192)])::
 (nat_lit 21,gc "_wall" "_wall" (mw 0) aA aA aA (aB "__main__" 164) none (aq 20) aA)::
 (nat_lit 30,⟨(.type "dict"),none,.dict (List.toArray [b8 P "__module__" 203 (aB "signright.errors" 194),b8 P "__firstlineno__" 207 (.int 5 206),b8 P "__static_attributes__" 208 (aq 29),b8 P "__weakref__" 210 (aq 32),b8 P "__doc__" 211 aA]) 3,#[]⟩)::
 (nat_lit 31,⟨(.type "type"),none,.cls ⟨"SignError",[(.type "ValueError")],[(aq 31),(.type "ValueError"),(.type "Exception"),(.type "BaseException"),(.type "object")],30,"SignError",true,[],[(aq 44)],false,none,false⟩,#[some (aq 22),none,some (aB "SignError" 196),some (aB "SignError" 204),some (.builtin "ValueError.__new__"),some (.bool true)]⟩)::
 (nat_lit 32,⟨(.type "getset_descriptor"),none,.fields (List.toArray [(aB "__weakref__" 209),(aq 31),(.builtin "ExceptionGroup.__weakref__"),aA]),#[]⟩)::
 (nat_lit 43,⟨(.type "dict"),none,.dict (List.toArray [b8 P "__module__" 221 (aB "signright.errors" 194),b8 P "__firstlineno__" 225 (.int 7 224),b8 P "__static_attributes__" 226 (aq 42),b8 P "__doc__" 227 aA]) 2,#[]⟩)::
 (nat_lit 44,⟨(.type "type"),none,.cls ⟨"NoHand",[(aq 31)],[(aq 44),(aq 31),(.type "ValueError"),(.type "Exception"),(.type "BaseException"),(.type "object")],43,"NoHand",true,[],[],false,none,false⟩,#[some (aq 35),none,some (aB "NoHand" 214),some (aB "NoHand" 222),some (.builtin "ValueError.__new__"),some (.bool true)]⟩)::
 (nat_lit 52,f9 [(aB "has_hand" 234),(aB "has_hand" 235),(aB "/claim/cut.py" 236),(.int 11 0),(.int 2 0),(.int 0 0),(.int 0 0),(.int 3 0),(aq 47),(.bool true),(.int 181 0),(aq 48),aA,(aq 49),(aq 50),(aq 51),(.int 239 0),(.int 11 0),(aB "/claim/cut.py" 240)])::
 (nat_lit 53,gc "has_hand" "has_hand" (mw 6) aA aA aA (aB "signright.hands" 230) none (aq 52) aA)::
 (nat_lit 57,f9 [(aB "hands_of" 242),(aB "hands_of" 243),(aB "/claim/cut.py" 244),(.int 13 0),(.int 1 0),(.int 0 0),(.int 0 0),(.int 3 0),(aq 54),(.bool true),(.int 181 0),(aq 55),aA,aA,aA,(aq 56),(.int 245 0),(.int 13 0),(aB "/claim/cut.py" 246)])::
 (nat_lit 58,gc "hands_of" "hands_of" (mw 7) aA aA aA (aB "signright.hands" 230) none (aq 57) aA)::
 (nat_lit 64,f9 [(aB "group_of" 248),(aB "group_of" 249),(aB "/claim/cut.py" 250),(.int 15 0),(.int 2 0),(.int 0 0),(.int 0 0),(.int 3 0),(aq 59),(.bool true),(.int 181 0),(aq 60),aA,(aq 61),(aq 62),(aq 63),(.int 255 0),(.int 15 0),(aB "/claim/cut.py" 256)])::
 (nat_lit 65,gc "group_of" "group_of" (mw 8) aA aA aA (aB "signright.hands" 230) none (aq 64) aA)::
 (nat_lit 71,f9 [(aB "place" 258),(aB "place" 259),(aB "/claim/cut.py" 260),(.int 22 0),(.int 1 0),(.int 0 0),(.int 0 0),(.int 3 0),(aq 66),(.bool true),(.int 181 0),(aq 67),aA,(aq 68),(aq 69),(aq 70),(.int 263 0),(.int 22 0),(aB "/claim/cut.py" 264)])::
 (nat_lit 72,gc "place" "place" (mw 9) aA aA aA (aB "signright.hands" 230) none (aq 71) aA)::
 (nat_lit 78,f9 [(aB "within" 266),(aB "within" 267),(aB "/claim/cut.py" 268),(.int 25 0),(.int 2 0),(.int 0 0),(.int 0 0),(.int 3 0),(aq 73),(.bool true),(.int 181 0),(aq 74),aA,(aq 75),(aq 76),(aq 77),(.int 271 0),(.int 25 0),(aB "/claim/cut.py" 272)])::
 (nat_lit 79,gc "within" "within" (mw 10) aA aA aA (aB "signright.hands" 230) none (aq 78) aA)::
 (nat_lit 85,f9 [(aB "groups_of" 274),(aB "groups_of" 275),(aB "/claim/cut.py" 276),(.int 27 0),(.int 1 0),(.int 0 0),(.int 0 0),(.int 3 0),(aq 80),(.bool true),(.int 181 0),(aq 81),aA,(aq 82),(aq 83),(aq 84),(.int 278 0),(.int 27 0),(aB "/claim/cut.py" 279)])::
 (nat_lit 86,gc "groups_of" "groups_of" (mw 11) aA aA aA (aB "signright.hands" 230) none (aq 85) aA)::
 (nat_lit 90,f9 [(aB "lets" 283),(aB "lets" 284),(aB "/claim/cut.py" 285),(.int 30 0),(.int 2 0),(.int 0 0),(.int 0 0),(.int 3 0),(aq 87),(.bool true),(.int 181 0),(aq 88),aA,aA,aA,(aq 89),(.int 286 0),(.int 30 0),(aB "/claim/cut.py" 287)])::
 (nat_lit 91,gc "lets" "lets" (mw 13) aA aA aA (aB "signright.ladders" 281) none (aq 90) aA)::
 (nat_lit 97,f9 [(aB "least" 289),(aB "least" 290),(aB "/claim/cut.py" 291),(.int 32 0),(.int 1 0),(.int 0 0),(.int 0 0),(.int 3 0),(aq 92),(.bool true),(.int 181 0),(aq 93),aA,(aq 94),(aq 95),(aq 96),(.int 295 0),(.int 32 0),(aB "/claim/cut.py" 296)])::
 (nat_lit 98,gc "least" "least" (mw 14) aA aA aA (aB "signright.ladders" 281) none (aq 97) aA)::
 (nat_lit 102,f9 [(aB "letting" 298),(aB "letting" 299),(aB "/claim/cut.py" 300),(.int 38 0),(.int 2 0),(.int 0 0),(.int 0 0),(.int 3 0),(aq 99),(.bool true),(.int 181 0),(aq 100),aA,aA,aA,(aq 101),(.int 301 0),(.int 38 0),(aB "/claim/cut.py" 302)])::
 (nat_lit 103,gc "letting" "letting" (mw 15) aA aA aA (aB "signright.ladders" 281) none (aq 102) aA)::
 (nat_lit 107,f9 [(aB "some" 304),(aB "some" 305),(aB "/claim/cut.py" 306),(.int 40 0),(.int 2 0),(.int 0 0),(.int 0 0),(.int 3 0),(aq 104),(.bool true),(.int 181 0),(aq 105),aA,aA,aA,(aq 106),(.int 307 0),(.int 40 0),(aB "/claim/cut.py" 308)])::
 (nat_lit 108,gc "some" "some" (mw 16) aA aA aA (aB "signright.ladders" 281) none (aq 107) aA)::
 (nat_lit 121,f9 [(aB "shape" 324),(aB "Rule.shape" 325),(aB "/claim/cut.py" 326),(.int 45 0),(.int 1 0),(.int 0 0),(.int 0 0),(.int 3 0),(aq 116),(.bool true),(.int 181 0),(aq 117),aA,(aq 118),(aq 119),(aq 120),(.int 328 0),(.int 45 0),(aB "/claim/cut.py" 329)])::
 (nat_lit 122,gc "shape" "Rule.shape" (rG 18 0) aA aA aA (aB "signright.rules" 310) none (aq 121) aA)::
 (nat_lit 128,f9 [(aB "text" 331),(aB "Rule.text" 332),(aB "/claim/cut.py" 333),(.int 48 0),(.int 1 0),(.int 0 0),(.int 0 0),(.int 3 0),(aq 123),(.bool true),(.int 181 0),(aq 124),aA,(aq 125),(aq 126),(aq 127),(.int 335 0),(.int 48 0),(aB "/claim/cut.py" 336)])::
 (nat_lit 129,gc "text" "Rule.text" (rG 18 1) aA aA aA (aB "signright.rules" 310) none (aq 128) aA)::
 (nat_lit 135,f9 [(aB "lets" 338),(aB "Rule.lets" 339),(aB "/claim/cut.py" 340),(.int 51 0),(.int 3 0),(.int 0 0),(.int 0 0),(.int 3 0),(aq 130),(.bool true),(.int 181 0),(aq 131),aA,(aq 132),(aq 133),(aq 134),(.int 344 0),(.int 51 0),(aB "/claim/cut.py" 345)])::
 (nat_lit 136,gc "lets" "Rule.lets" (rG 18 2) aA aA aA (aB "signright.rules" 310) none (aq 135) aA)::
 (nat_lit 142,f9 [(aB "ladder" 347),(aB "Rule.ladder" 348),(aB "/claim/cut.py" 349),(.int 54 0),(.int 2 0),(.int 0 0),(.int 0 0),(.int 3 0),(aq 137),(.bool true),(.int 181 0),(aq 138),aA,(aq 139),(aq 140),(aq 141),(.int 352 0),(.int 54 0),(aB "/claim/cut.py" 353)])::
 (nat_lit 143,gc "ladder" "Rule.ladder" (rG 18 3) aA aA aA (aB "signright.rules" 310) none (aq 142) aA)::
 (nat_lit 145,⟨(.type "dict"),none,.dict (List.toArray [b8 P "__module__" 319 (aB "signright.rules" 310),b8 P "__firstlineno__" 323 (.int 43 322),b8 P "shape" 330 (aq 122),b8 P "text" 337 (aq 129),b8 P "lets" 346 (aq 136),b8 P "ladder" 354 (aq 143),b8 P "__static_attributes__" 355 (aq 144),b8 P "__dict__" 357 (aq 147),b8 P "__weakref__" 359 (aq 148),b8 P "__doc__" 360 aA]) 4,#[]⟩)::
 (nat_lit 146,⟨(.type "type"),none,.cls ⟨"Rule",[(.type "object")],[(aq 146),(.type "object")],145,"Rule",true,[],[(aq 195),(aq 236)],false,none,false⟩,#[none,none,some (aB "Rule" 312),some (aB "Rule" 320),some (.builtin "object.__new__"),some (.bool true)]⟩)::
 (nat_lit 147,⟨(.type "getset_descriptor"),none,.fields (List.toArray [(aB "__dict__" 356),(aq 146),(.builtin "function.__dict__"),(.builtin "function.__dict__#set")]),#[]⟩)::
 (nat_lit 148,⟨(.type "getset_descriptor"),none,.fields (List.toArray [(aB "__weakref__" 358),(aq 146),(.builtin "ExceptionGroup.__weakref__"),aA]),#[]⟩)::
 (nat_lit 163,f9 [(aB "__init__" 375),(aB "Hand.__init__" 376),(aB "/claim/cut.py" 377),(.int 58 0),(.int 2 0),(.int 0 0),(.int 0 0),(.int 3 0),(aq 158),(.bool true),(.int 181 0),(aq 159),aA,(aq 160),(aq 161),(aq 162),(.int 380 0),(.int 58 0),(aB "/claim/cut.py" 381)])::
 (nat_lit 164,gc "__init__" "Hand.__init__" (rG 19 0) aA aA aA (aB "signright.rules" 310) none (aq 163) aA)::
 (nat_lit 170,f9 [(aB "shape" 383),(aB "Hand.shape" 384),(aB "/claim/cut.py" 385),(.int 61 0),(.int 1 0),(.int 0 0),(.int 0 0),(.int 3 0),(aq 165),(.bool true),(.int 181 0),(aq 166),aA,(aq 167),(aq 168),(aq 169),(.int 387 0),(.int 61 0),(aB "/claim/cut.py" 388)])::
 (nat_lit 171,gc "shape" "Hand.shape" (rG 19 1) aA aA aA (aB "signright.rules" 310) none (aq 170) aA)::
 (nat_lit 177,f9 [(aB "text" 390),(aB "Hand.text" 391),(aB "/claim/cut.py" 392),(.int 64 0),(.int 1 0),(.int 0 0),(.int 0 0),(.int 3 0),(aq 172),(.bool true),(.int 181 0),(aq 173),aA,(aq 174),(aq 175),(aq 176),(.int 394 0),(.int 64 0),(aB "/claim/cut.py" 395)])::
 (nat_lit 178,gc "text" "Hand.text" (rG 19 2) aA aA aA (aB "signright.rules" 310) none (aq 177) aA)::
 (nat_lit 184,f9 [(aB "lets" 397),(aB "Hand.lets" 398),(aB "/claim/cut.py" 399),(.int 67 0),(.int 3 0),(.int 0 0),(.int 0 0),(.int 3 0),(aq 179),(.bool true),(.int 181 0),(aq 180),aA,(aq 181),(aq 182),(aq 183),(.int 403 0),(.int 67 0),(aB "/claim/cut.py" 404)])::
 (nat_lit 185,gc "lets" "Hand.lets" (rG 19 3) aA aA aA (aB "signright.rules" 310) none (aq 184) aA)::
 (nat_lit 191,f9 [(aB "ladder" 406),(aB "Hand.ladder" 407),(aB "/claim/cut.py" 408),(.int 70 0),(.int 2 0),(.int 0 0),(.int 0 0),(.int 3 0),(aq 186),(.bool true),(.int 181 0),(aq 187),aA,(aq 188),(aq 189),(aq 190),(.int 411 0),(.int 70 0),(aB "/claim/cut.py" 412)])::
 (nat_lit 192,gc "ladder" "Hand.ladder" (rG 19 4) aA aA aA (aB "signright.rules" 310) none (aq 191) aA)::
 (nat_lit 194,⟨(.type "dict"),none,.dict (List.toArray [b8 P "__module__" 370 (aB "signright.rules" 310),b8 P "__firstlineno__" 374 (.int 56 373),b8 P "__init__" 382 (aq 164),b8 P "shape" 389 (aq 171),b8 P "text" 396 (aq 178),b8 P "lets" 405 (aq 185),b8 P "ladder" 413 (aq 192),b8 P "__static_attributes__" 415 (aq 193),b8 P "__doc__" 416 aA]) 2,#[]⟩)::
 (nat_lit 195,⟨(.type "type"),none,.cls ⟨"Hand",[(aq 146)],[(aq 195),(aq 146),(.type "object")],194,"Hand",true,[],[],false,none,false⟩,#[some (aq 151),none,some (aB "Hand" 363),some (aB "Hand" 371),some (.builtin "object.__new__"),some (.bool true)]⟩)::
 (nat_lit 210,f9 [(aB "__init__" 431),(aB "Counting.__init__" 432),(aB "/claim/cut.py" 433),(.int 74 0),(.int 3 0),(.int 0 0),(.int 0 0),(.int 3 0),(aq 205),(.bool true),(.int 181 0),(aq 206),aA,(aq 207),(aq 208),(aq 209),(.int 437 0),(.int 74 0),(aB "/claim/cut.py" 438)])::
 (nat_lit 211,gc "__init__" "Counting.__init__" (rG 20 0) aA aA aA (aB "signright.rules" 310) none (aq 210) aA)::
 (nat_lit 215,f9 [(aB "lets" 440),(aB "Counting.lets" 441),(aB "/claim/cut.py" 442),(.int 78 0),(.int 3 0),(.int 0 0),(.int 0 0),(.int 3 0),(aq 212),(.bool true),(.int 181 0),(aq 213),aA,aA,aA,(aq 214),(.int 443 0),(.int 78 0),(aB "/claim/cut.py" 444)])::
 (nat_lit 216,gc "lets" "Counting.lets" (rG 20 1) aA aA aA (aB "signright.rules" 310) none (aq 215) aA)::
 (nat_lit 220,f9 [(aB "ladder" 446),(aB "Counting.ladder" 447),(aB "/claim/cut.py" 448),(.int 82 0),(.int 2 0),(.int 0 0),(.int 0 0),(.int 3 0),(aq 217),(.bool true),(.int 181 0),(aq 218),aA,aA,aA,(aq 219),(.int 449 0),(.int 82 0),(aB "/claim/cut.py" 450)])::
 (nat_lit 221,gc "ladder" "Counting.ladder" (rG 20 2) aA aA aA (aB "signright.rules" 310) none (aq 220) aA)::
 (nat_lit 227,f9 [(aB "shapes_of_parts" 452),(aB "Counting.shapes_of_parts" 453),(aB "/claim/cut.py" 454),(.int 85 0),(.int 1 0),(.int 0 0),(.int 0 0),(.int 3 0),(aq 222),(.bool true),(.int 181 0),(aq 223),aA,(aq 224),(aq 225),(aq 226),(.int 456 0),(.int 85 0),(aB "/claim/cut.py" 457)])::
 (nat_lit 228,gc "shapes_of_parts" "Counting.shapes_of_parts" (rG 20 3) aA aA aA (aB "signright.rules" 310) none (aq 227) aA)::
 (nat_lit 232,f9 [(aB "text_of_parts" 459),(aB "Counting.text_of_parts" 460),(aB "/claim/cut.py" 461),(.int 88 0),(.int 1 0),(.int 0 0),(.int 0 0),(.int 3 0),(aq 229),(.bool true),(.int 181 0),(aq 230),aA,aA,aA,(aq 231),(.int 462 0),(.int 88 0),(aB "/claim/cut.py" 463)])::
 (nat_lit 233,gc "text_of_parts" "Counting.text_of_parts" (rG 20 4) aA aA aA (aB "signright.rules" 310) none (aq 232) aA)::
 (nat_lit 235,⟨(.type "dict"),none,.dict (List.toArray [b8 P "__module__" 426 (aB "signright.rules" 310),b8 P "__firstlineno__" 430 (.int 72 429),b8 P "__init__" 439 (aq 211),b8 P "lets" 445 (aq 216),b8 P "ladder" 451 (aq 221),b8 P "shapes_of_parts" 458 (aq 228),b8 P "text_of_parts" 464 (aq 233),b8 P "__static_attributes__" 467 (aq 234),b8 P "__doc__" 468 aA]) 2,#[]⟩)::
 (nat_lit 236,⟨(.type "type"),none,.cls ⟨"Counting",[(aq 146)],[(aq 236),(aq 146),(.type "object")],235,"Counting",true,[],[(aq 269),(aq 302),(aq 335)],false,none,false⟩,#[some (aq 198),none,some (aB "Counting" 419),some (aB "Counting" 427),some (.builtin "object.__new__"),some (.bool true)]⟩)::
 (nat_lit 251,f9 [(aB "__init__" 483),(aB "All.__init__" 484),(aB "/claim/cut.py" 485),(.int 92 0),(.int 2 0),(.int 0 0),(.int 0 0),(.int 3 0),(aq 246),(.bool true),(.int 181 0),(aq 247),aA,(aq 248),(aq 249),(aq 250),(.int 488 0),(.int 92 0),(aB "/claim/cut.py" 489)])::
 (nat_lit 252,gc "__init__" "All.__init__" (rG 21 0) aA aA aA (aB "signright.rules" 310) none (aq 251) aA)::
 (nat_lit 258,f9 [(aB "shape" 491),(aB "All.shape" 492),(aB "/claim/cut.py" 493),(.int 95 0),(.int 1 0),(.int 0 0),(.int 0 0),(.int 3 0),(aq 253),(.bool true),(.int 181 0),(aq 254),aA,(aq 255),(aq 256),(aq 257),(.int 495 0),(.int 95 0),(aB "/claim/cut.py" 496)])::
 (nat_lit 259,gc "shape" "All.shape" (rG 21 1) aA aA aA (aB "signright.rules" 310) none (aq 258) aA)::
 (nat_lit 265,f9 [(aB "text" 498),(aB "All.text" 499),(aB "/claim/cut.py" 500),(.int 98 0),(.int 1 0),(.int 0 0),(.int 0 0),(.int 3 0),(aq 260),(.bool true),(.int 181 0),(aq 261),aA,(aq 262),(aq 263),(aq 264),(.int 502 0),(.int 98 0),(aB "/claim/cut.py" 503)])::
 (nat_lit 266,gc "text" "All.text" (rG 21 2) aA aA aA (aB "signright.rules" 310) none (aq 265) aA)::
 (nat_lit 268,⟨(.type "dict"),none,.dict (List.toArray [b8 P "__module__" 478 (aB "signright.rules" 310),b8 P "__firstlineno__" 482 (.int 90 481),b8 P "__init__" 490 (aq 252),b8 P "shape" 497 (aq 259),b8 P "text" 504 (aq 266),b8 P "__static_attributes__" 505 (aq 267),b8 P "__doc__" 506 aA]) 2,#[]⟩)::
 (nat_lit 269,⟨(.type "type"),none,.cls ⟨"All",[(aq 236)],[(aq 269),(aq 236),(aq 146),(.type "object")],268,"All",true,[],[],false,none,false⟩,#[some (aq 239),none,some (aB "All" 471),some (aB "All" 479),some (.builtin "object.__new__"),some (.bool true)]⟩)::
 (nat_lit 284,f9 [(aB "__init__" 521),(aB "Any.__init__" 522),(aB "/claim/cut.py" 523),(.int 102 0),(.int 2 0),(.int 0 0),(.int 0 0),(.int 3 0),(aq 279),(.bool true),(.int 181 0),(aq 280),aA,(aq 281),(aq 282),(aq 283),(.int 526 0),(.int 102 0),(aB "/claim/cut.py" 527)])::
 (nat_lit 285,gc "__init__" "Any.__init__" (rG 22 0) aA aA aA (aB "signright.rules" 310) none (aq 284) aA)::
 (nat_lit 291,f9 [(aB "shape" 529),(aB "Any.shape" 530),(aB "/claim/cut.py" 531),(.int 105 0),(.int 1 0),(.int 0 0),(.int 0 0),(.int 3 0),(aq 286),(.bool true),(.int 181 0),(aq 287),aA,(aq 288),(aq 289),(aq 290),(.int 533 0),(.int 105 0),(aB "/claim/cut.py" 534)])::
 (nat_lit 292,gc "shape" "Any.shape" (rG 22 1) aA aA aA (aB "signright.rules" 310) none (aq 291) aA)::
 (nat_lit 298,f9 [(aB "text" 536),(aB "Any.text" 537),(aB "/claim/cut.py" 538),(.int 108 0),(.int 1 0),(.int 0 0),(.int 0 0),(.int 3 0),(aq 293),(.bool true),(.int 181 0),(aq 294),aA,(aq 295),(aq 296),(aq 297),(.int 540 0),(.int 108 0),(aB "/claim/cut.py" 541)])::
 (nat_lit 299,gc "text" "Any.text" (rG 22 2) aA aA aA (aB "signright.rules" 310) none (aq 298) aA)::
 (nat_lit 301,⟨(.type "dict"),none,.dict (List.toArray [b8 P "__module__" 516 (aB "signright.rules" 310),b8 P "__firstlineno__" 520 (.int 100 519),b8 P "__init__" 528 (aq 285),b8 P "shape" 535 (aq 292),b8 P "text" 542 (aq 299),b8 P "__static_attributes__" 543 (aq 300),b8 P "__doc__" 544 aA]) 2,#[]⟩)::
 (nat_lit 302,⟨(.type "type"),none,.cls ⟨"Any",[(aq 236)],[(aq 302),(aq 236),(aq 146),(.type "object")],301,"Any",true,[],[],false,none,false⟩,#[some (aq 272),none,some (aB "Any" 509),some (aB "Any" 517),some (.builtin "object.__new__"),some (.bool true)]⟩)::
 (nat_lit 317,f9 [(aB "__init__" 559),(aB "Some.__init__" 560),(aB "/claim/cut.py" 561),(.int 112 0),(.int 3 0),(.int 0 0),(.int 0 0),(.int 3 0),(aq 312),(.bool true),(.int 181 0),(aq 313),aA,(aq 314),(aq 315),(aq 316),(.int 565 0),(.int 112 0),(aB "/claim/cut.py" 566)])::
 (nat_lit 318,gc "__init__" "Some.__init__" (rG 23 0) aA aA aA (aB "signright.rules" 310) none (aq 317) aA)::
 (nat_lit 324,f9 [(aB "shape" 568),(aB "Some.shape" 569),(aB "/claim/cut.py" 570),(.int 115 0),(.int 1 0),(.int 0 0),(.int 0 0),(.int 3 0),(aq 319),(.bool true),(.int 181 0),(aq 320),aA,(aq 321),(aq 322),(aq 323),(.int 572 0),(.int 115 0),(aB "/claim/cut.py" 573)])::
 (nat_lit 325,gc "shape" "Some.shape" (rG 23 1) aA aA aA (aB "signright.rules" 310) none (aq 324) aA)::
 (nat_lit 331,f9 [(aB "text" 575),(aB "Some.text" 576),(aB "/claim/cut.py" 577),(.int 118 0),(.int 1 0),(.int 0 0),(.int 0 0),(.int 3 0),(aq 326),(.bool true),(.int 181 0),(aq 327),aA,(aq 328),(aq 329),(aq 330),(.int 579 0),(.int 118 0),(aB "/claim/cut.py" 580)])::
 (nat_lit 332,gc "text" "Some.text" (rG 23 2) aA aA aA (aB "signright.rules" 310) none (aq 331) aA)::
 (nat_lit 334,⟨(.type "dict"),none,.dict (List.toArray [b8 P "__module__" 554 (aB "signright.rules" 310),b8 P "__firstlineno__" 558 (.int 110 557),b8 P "__init__" 567 (aq 318),b8 P "shape" 574 (aq 325),b8 P "text" 581 (aq 332),b8 P "__static_attributes__" 582 (aq 333),b8 P "__doc__" 583 aA]) 2,#[]⟩)::
 (nat_lit 335,⟨(.type "type"),none,.cls ⟨"Some",[(aq 236)],[(aq 335),(aq 236),(aq 146),(.type "object")],334,"Some",true,[],[],false,none,false⟩,#[some (aq 305),none,some (aB "Some" 547),some (aB "Some" 555),some (.builtin "object.__new__"),some (.bool true)]⟩)::
 (nat_lit 343,f9 [(aB "_law_cell_at" 588),(aB "_law_cell_at" 589),(aB "/claim/cut.py" 590),(.int 121 0),(.int 2 0),(.int 0 0),(.int 0 0),(.int 3 0),(aq 338),(.bool true),(.int 181 0),(aq 339),aA,(aq 340),(aq 341),(aq 342),(.int 593 0),(.int 121 0),(aB "/claim/cut.py" 594)])::
 (nat_lit 344,gc "_law_cell_at" "_law_cell_at" (mw 25) aA aA aA (aB "law_signright_k25_the_least_groups" 586) none (aq 343) aA)::
 (nat_lit 350,f9 [(aB "_law_base" 596),(aB "_law_base" 597),(aB "/claim/cut.py" 598),(.int 125 0),(.int 2 0),(.int 0 0),(.int 0 0),(.int 3 0),(aq 345),(.bool true),(.int 181 0),(aq 346),aA,(aq 347),(aq 348),(aq 349),(.int 604 0),(.int 125 0),(aB "/claim/cut.py" 605)])::
 (nat_lit 351,gc "_law_base" "_law_base" (mw 26) aA aA aA (aB "law_signright_k25_the_least_groups" 586) none (aq 350) aA)::
 (nat_lit 357,f9 [(aB "_law_name" 607),(aB "_law_name" 608),(aB "/claim/cut.py" 609),(.int 132 0),(.int 4 0),(.int 0 0),(.int 0 0),(.int 3 0),(aq 352),(.bool true),(.int 181 0),(aq 353),aA,(aq 354),(aq 355),(aq 356),(.int 616 0),(.int 132 0),(aB "/claim/cut.py" 617)])::
 (nat_lit 358,gc "_law_name" "_law_name" (mw 27) aA aA aA (aB "law_signright_k25_the_least_groups" 586) none (aq 357) aA)::
 (nat_lit 364,f9 [(aB "_law_names" 619),(aB "_law_names" 620),(aB "/claim/cut.py" 621),(.int 136 0),(.int 3 0),(.int 0 0),(.int 0 0),(.int 3 0),(aq 359),(.bool true),(.int 181 0),(aq 360),aA,(aq 361),(aq 362),(aq 363),(.int 633 0),(.int 136 0),(aB "/claim/cut.py" 634)])::
 (nat_lit 365,gc "_law_names" "_law_names" (mw 28) aA aA aA (aB "law_signright_k25_the_least_groups" 586) none (aq 364) aA)::
 (nat_lit 371,f9 [(aB "_law_roll" 636),(aB "_law_roll" 637),(aB "/claim/cut.py" 638),(.int 151 0),(.int 1 0),(.int 0 0),(.int 0 0),(.int 3 0),(aq 366),(.bool true),(.int 181 0),(aq 367),aA,(aq 368),(aq 369),(aq 370),(.int 640 0),(.int 151 0),(aB "/claim/cut.py" 641)])::
 (nat_lit 372,gc "_law_roll" "_law_roll" (mw 29) aA aA aA (aB "law_signright_k25_the_least_groups" 586) none (aq 371) aA)::
 (nat_lit 378,f9 [(aB "_law_hand" 643),(aB "_law_hand" 644),(aB "/claim/cut.py" 645),(.int 153 0),(.int 1 0),(.int 0 0),(.int 0 0),(.int 3 0),(aq 373),(.bool true),(.int 181 0),(aq 374),aA,(aq 375),(aq 376),(aq 377),(.int 647 0),(.int 153 0),(aB "/claim/cut.py" 648)])::
 (nat_lit 379,gc "_law_hand" "_law_hand" (mw 30) aA aA aA (aB "law_signright_k25_the_least_groups" 586) none (aq 378) aA)::
 (nat_lit 383,f9 [(aB "_law_counted" 650),(aB "_law_counted" 651),(aB "/claim/cut.py" 652),(.int 155 0),(.int 3 0),(.int 0 0),(.int 0 0),(.int 3 0),(aq 380),(.bool true),(.int 181 0),(aq 381),aA,aA,aA,(aq 382),(.int 653 0),(.int 155 0),(aB "/claim/cut.py" 654)])::
 (nat_lit 384,gc "_law_counted" "_law_counted" (mw 31) aA aA aA (aB "law_signright_k25_the_least_groups" 586) none (aq 383) aA)::
 (nat_lit 390,f9 [(aB "_law_folded" 656),(aB "_law_folded" 657),(aB "/claim/cut.py" 658),(.int 168 0),(.int 2 0),(.int 0 0),(.int 0 0),(.int 3 0),(aq 385),(.bool true),(.int 181 0),(aq 386),aA,(aq 387),(aq 388),(aq 389),(.int 663 0),(.int 168 0),(aB "/claim/cut.py" 664)])::
 (nat_lit 391,gc "_law_folded" "_law_folded" (mw 32) aA aA aA (aB "law_signright_k25_the_least_groups" 586) none (aq 390) aA)::
 (nat_lit 395,f9 [(aB "_law_built" 666),(aB "_law_built" 667),(aB "/claim/cut.py" 668),(.int 176 0),(.int 4 0),(.int 0 0),(.int 0 0),(.int 3 0),(aq 392),(.bool true),(.int 181 0),(aq 393),aA,aA,aA,(aq 394),(.int 669 0),(.int 176 0),(aB "/claim/cut.py" 670)])::
 (nat_lit 396,gc "_law_built" "_law_built" (mw 33) aA aA aA (aB "law_signright_k25_the_least_groups" 586) none (aq 395) aA)::
 (nat_lit 402,f9 [(aB "_law_doubled" 672),(aB "_law_doubled" 673),(aB "/claim/cut.py" 674),(.int 189 0),(.int 2 0),(.int 0 0),(.int 0 0),(.int 3 0),(aq 397),(.bool true),(.int 181 0),(aq 398),aA,(aq 399),(aq 400),(aq 401),(.int 680 0),(.int 189 0),(aB "/claim/cut.py" 681)])::
 (nat_lit 403,gc "_law_doubled" "_law_doubled" (mw 34) aA aA aA (aB "law_signright_k25_the_least_groups" 586) none (aq 402) aA)::
 (nat_lit 407,f9 [(aB "_law_holds" 683),(aB "_law_holds" 684),(aB "/claim/cut.py" 685),(.int 196 0),(.int 3 0),(.int 0 0),(.int 0 0),(.int 3 0),(aq 404),(.bool true),(.int 181 0),(aq 405),aA,aA,aA,(aq 406),(.int 686 0),(.int 196 0),(aB "/claim/cut.py" 687)])::
 (nat_lit 408,gc "_law_holds" "_law_holds" (mw 35) aA aA aA (aB "law_signright_k25_the_least_groups" 586) none (aq 407) aA)::
 (nat_lit 414,f9 [(aB "_law_whole" 689),(aB "_law_whole" 690),(aB "/claim/cut.py" 691),(.int 205 0),(.int 1 0),(.int 0 0),(.int 0 0),(.int 3 0),(aq 409),(.bool true),(.int 181 0),(aq 410),aA,(aq 411),(aq 412),(aq 413),(.int 693 0),(.int 205 0),(aB "/claim/cut.py" 694)])::
 (nat_lit 415,gc "_law_whole" "_law_whole" (mw 36) aA aA aA (aB "law_signright_k25_the_least_groups" 586) none (aq 414) aA)::
 (nat_lit 419,f9 [(aB "_law_before" 696),(aB "_law_before" 697),(aB "/claim/cut.py" 698),(.int 207 0),(.int 2 0),(.int 0 0),(.int 0 0),(.int 3 0),(aq 416),(.bool true),(.int 181 0),(aq 417),aA,aA,aA,(aq 418),(.int 699 0),(.int 207 0),(aB "/claim/cut.py" 700)])::
 (nat_lit 420,gc "_law_before" "_law_before" (mw 37) aA aA aA (aB "law_signright_k25_the_least_groups" 586) none (aq 419) aA)::
 (nat_lit 424,f9 [(aB "_law_in_order" 702),(aB "_law_in_order" 703),(aB "/claim/cut.py" 704),(.int 216 0),(.int 2 0),(.int 0 0),(.int 0 0),(.int 3 0),(aq 421),(.bool true),(.int 181 0),(aq 422),aA,aA,aA,(aq 423),(.int 705 0),(.int 216 0),(aB "/claim/cut.py" 706)])::
 (nat_lit 425,gc "_law_in_order" "_law_in_order" (mw 38) aA aA aA (aB "law_signright_k25_the_least_groups" 586) none (aq 424) aA)::
 (nat_lit 429,f9 [(aB "law" 708),(aB "law" 709),(aB "/claim/cut.py" 710),(.int 227 0),(.int 1 0),(.int 0 0),(.int 0 0),(.int 3 0),(aq 426),(.bool true),(.int 181 0),(aq 427),aA,aA,aA,(aq 428),(.int 711 0),(.int 227 0),(aB "/claim/cut.py" 712)])::
 (nat_lit 430,gc "law" "law" (mw 39) aA aA aA (aB "law_signright_k25_the_least_groups" 586) none (aq 429) aA)::[]
noncomputable abbrev IK:List Addr:=[2,3,20,21,30,31,32,43,44,52,53,57,58,64,65,71,72,78,79,85,86,90,91,97,98,102,103,107,108,121,122,128,129,135,136,142,143,145,146,147,148,163,164,170,171,177,178,184,185,191,192,194,195,210,211,215,216,220,221,227,228,232,233,235,236,251,252,258,259,265,266,268,269,284,285,291,292,298,299,301,302,317,318,324,325,331,332,334,335,343,344,350,351,357,358,364,365,371,372,378,379,383,384,390,391,395,396,402,403,407,408,414,415,419,420,424,425,429,430]
theorem IW:∀P,IK=(IJ P).map (·.1):=λ_=>by kernel_rfl
noncomputable abbrev RV(s:Shared):Bool:=PySem.W.xlAt Oi [] s&&PySem.W.recOk (PySem.W.RowW.records (PySem.W.OpenRow.toRowW (PySem.Challenge.rw_signright_k25_the_least_groups).row)) s
theorem UC:∀w,(HX.Rg KI w 20000).map (PySem.W.Fast.tw4187177175401517315 Oi [] (importedModules KI.main.body) RV true)=some (PySem.W.openGood Oi []):=by intro w;kernel_rfl
theorem UD:∀w,(HX.Rg KI w 20000).map (PySem.W.kHook IJ IK IW).obs=some ((PySem.W.kHook IJ IK IW).val w):=by intro w;kernel_rfl
theorem UE:PySem.W.LeftO KI Oi [] RV (PySem.W.kHook IJ IK IW).obs (PySem.W.kHook IJ IK IW).val 20000:=λw=>by
 have h1:=UC w
 have h2:=UD w
 rw[HX.Uy]
 rw[<-PySem.W.Fast.te4187177175401517315]at h1
 obtain⟨s,e,h1⟩:=Option.map_eq_some_iff.mp h1
 rw[e]at h2⊢
 rw[Option.map_some,Option.some.injEq]at h2
 rw[Option.map_some,h1,h2]
end L2.D.My
namespace L2
open PySem PySem.Spec PyProof.Rows
noncomputable abbrev Key:=Sum Int Str
noncomputable def KJ:Key->Value->Bool
 |.inl k,v=>Value.isInt k v
 |.inr x,v=>Value.isStrOf x v
noncomputable def RW(w:World):Key->Int
 |.inl k=>hashInt k
 |.inr x=>hashStr w x
theorem cF:∀{k:Key} {v:Value},KJ k v=true->(∃i t,k=Sum.inl i/\v=Value.int i t)\/(∃x t,k=Sum.inr x/\v=Value.str x t)
 |.inl i,v,h=>by
  obtain⟨t,e⟩:=Value.isInt_shape (k:=i) (v:=v) h
  exact .inl ⟨i,t,rfl,e⟩
 |.inr x,v,h=>by
  obtain⟨t,e⟩:=Value.isStrOf_shape (x:=x) (v:=v) h
  exact .inr ⟨x,t,rfl,e⟩
theorem LN(a b:Int):decide ((Sum.inl a:Key)=Sum.inl b)=(a==b):=by
 by_cases e:a=b
 ·subst e;simp
 ·have h:¬(Sum.inl a:Key)=Sum.inl b:=λq=>e (Sum.inl.inj q)
  rw[decide_eq_false h]
  exact(beq_eq_false_iff_ne.mpr e).symm
theorem LO(a b:Str):decide ((Sum.inr a:Key)=Sum.inr b)=decide (a=b):=by
 by_cases e:a=b
 ·subst e;simp
 ·have h:¬(Sum.inr a:Key)=Sum.inr b:=λq=>e (Sum.inr.inj q)
  rw[decide_eq_false h,decide_eq_false e]
theorem LP(a:Int)(b:Str):decide ((Sum.inl a:Key)=Sum.inr b)=false:=decide_eq_false (λq=>nomatch q)
theorem LQ(a:Str)(b:Int):decide ((Sum.inr a:Key)=Sum.inl b)=false:=decide_eq_false (λq=>nomatch q)
noncomputable def CL(prog:Program)(w:World):PySem.KeyKind prog w Key where
 is:=KJ
 hash:=RW w
 inj:=λv a b ha hb=>by
  rcases cF ha with⟨i,t,rfl,rfl⟩|⟨x,t,rfl,rfl⟩
  ·rcases cF hb with⟨j,u,rfl,e⟩|⟨y,u,rfl,e⟩
   ·injection e with e1 _;rw[e1]
   ·exact nomatch e
  ·rcases cF hb with⟨j,u,rfl,e⟩|⟨y,u,rfl,e⟩
   ·exact nomatch e
   ·injection e with e1 _;rw[e1]
 byValue:=λk v h=>by
  rcases cF h with⟨i,t,rfl,rfl⟩|⟨x,t,rfl,rfl⟩<;>rfl
 pyHash:=λhv h=>by
  rcases cF hv with⟨i,t,rfl,rfl⟩|⟨x,t,rfl,rfl⟩
  ·exact wpAny_pyHash_int h
  ·exact wpAny_pyHash_str h
 eqBool:=λhu hv h=>by
  rcases cF hu with⟨i,t,rfl,rfl⟩|⟨x,t,rfl,rfl⟩
  ·rcases cF hv with⟨j,u,rfl,rfl⟩|⟨y,u,rfl,rfl⟩
   ·rw[LN]at h;exact wpAny_eqBool_int h
   ·rw[LP]at h;exact SeqAt.EqAt.int_str i t y u _ _ _ _ h
  ·rcases cF hv with⟨j,u,rfl,rfl⟩|⟨y,u,rfl,rfl⟩
   ·rw[LQ]at h;exact SeqAt.EqAt.str_int x t j u _ _ _ _ h
   ·rw[LO]at h;exact wpAny_eqBool_str h
 «strs»:=λk x t v h=>by
  rcases cF h with⟨i,u,rfl,e⟩|⟨y,u,rfl,e⟩
  ·exact nomatch e
  ·injection e with e1 _
   subst e1
   cases v<;>rfl
inductive V where
 |non|bl(b:Bool)|int(i:Int)|str(x:Str)|byt(b:Array UInt8)|flt(b:UInt64)|ref(a:Addr)|ty(n:String)
 deriving DecidableEq
noncomputable def RelV:V->Value->Prop
 |.non,u=>u=Value.none
 |.bl b,u=>u=Value.bool b
 |.int i,u=>∃t,u=Value.int i t
 |.str x,u=>∃t,u=Value.str x t
 |.byt b,u=>∃t,u=Value.bytes b t
 |.flt b,u=>∃t,u=Value.float b t
 |.ref a,u=>u=Value.ref a
 |.ty n,u=>u=Value.type n
noncomputable abbrev Vals:List V->List Value->Prop:=Paired RelV
theorem Vals.length{xs:List V}{us:List Value}(r:Vals xs us):xs.length=us.length:=Paired.length r
theorem Vals.get:∀{xs:List V} {us:List Value} {i:Nat} {x:V},Vals xs us->xs[i]?=some x->∃u,us[i]?=some u/\RelV x u
 |_,_,_,_,.nil,e=>by simp at e
 |_,_,0,_,.cons r _,e=>by simp at e;subst e;exact⟨_,rfl,r⟩
 |_,_,i+1,x,.cons _ t,e=>by
  obtain⟨u,h1,h2⟩:=Vals.get (i:=i) (x:=x) t (by simpa using e)
  exact⟨u,by simpa using h1,h2⟩
theorem Vals.append:∀{xs ys:List V} {us ws:List Value},Vals xs us->Vals ys ws->Vals (xs++ys) (us++ws)
 |_,_,_,_,.nil,s=>s
 |_,_,_,_,.cons r t,s=>.cons r (Vals.append t s)
theorem Vals.take:∀{xs:List V} {us:List Value} (n:Nat),Vals xs us->Vals (xs.take n) (us.take n)
 |_,_,0,_=>.nil
 |_,_,_+1,.nil=>.nil
 |_,_,n+1,.cons r t=>.cons r (Vals.take n t)
theorem Vals.drop:∀{xs:List V} {us:List Value} (n:Nat),Vals xs us->Vals (xs.drop n) (us.drop n)
 |_,_,0,r=>r
 |_,_,_+1,.nil=>.nil
 |_,_,n+1,.cons _ t=>Vals.drop n t
noncomputable def ub:Option V->Option Value->Prop
 |some v,some u=>RelV v u
 |none,none=>True
 |_,_=>False
noncomputable def KV{κ:Type}:List (κ×V)->List (κ×Value)->Prop:=Paired λ(p:κ×V) (q:κ×Value)=>p.1=q.1/\RelV p.2 q.2
noncomputable def kV:Key->V
 |.inl i=>.int i
 |.inr x=>.str x
inductive HO where
 |lst(xs:List V)
 |tup(xs:List V)
 |dK(pY:List (Key×V))|dT(pY:List (List Key×V))
 |set(S:Int->Bool)(n:Nat)
 |ins(C dx:Addr)(fs:List (Str×V))
 |own(x:Addr)
 |xd(fs:List (Str×V))
 |met(f x:Addr)
 |rng(lo hi:Int)
 |frz(o:Obj)(u:HO)
 |tbl(ps:Array Value)
 |ext(φ:Heap->Prop)
noncomputable abbrev Hp:=Addr->Option HO
noncomputable def upd(H:Hp)(a:Addr)(o:HO):Hp:=λb=>if b=a then some o else H b
theorem bE{H:Hp}{a:Addr}{o:HO}:upd H a o a=some o:=by unfold upd;rw[if_pos rfl]
theorem aZ{H:Hp}{a b:Addr}{o:HO}(h:b≠a):upd H a o b=H b:=by unfold upd;rw[if_neg h]
theorem bP{H:Hp}{a b:Addr}{o:HO}(h:H a=some o)(h':H b=none):a≠b:=by
 intro e;subst e;rw[h]at h';cases h'
section
variable(P:Program)(w:World)
noncomputable def Oj(h:Heap)(a:Addr):Prop:=∃o,h.get? a=some o/\o.dict=none
noncomputable def dU(H:Hp)(h:Heap)(a:Addr):HO->Prop
 |.lst xs=>xs.length<=sizeLine/\∃(its:List Value) (n:Nat),Vals xs its/\h.get? a=some {cls:=.type "list",data:=.seq its.toArray n}
 |.tup xs=>(xs.length<=sizeLine/\Oj h a)/\∃its:List Value,Vals xs its/\IsTup h a its.toArray
 |.dK pY=>pY.length<=sizeLine/\(a==sysModules)=false/\∃vs,KV pY vs/\h.DictOf (CL P w) a vs
 |.dT pY=>pY.length<=sizeLine/\(a==sysModules)=false/\∃xs:List (List Key×Addr×Value),
   Paired (λ(p:List Key×V) (q:List Key×Addr×Value)=>p.1=q.1/\H q.2.1=some (.tup (p.1.map kV))/\RelV p.2 q.2.2) pY xs/\
   ∃o es ep,h.get? a=some o/\o.ExactDict/\o.data=.dict es ep/\es.toList=xs.map (entryOfKey (tupleKind (CL P w)))/\(xs.map (·.1)).Nodup
 |.set S n=>h.SetOf (intKind P w) a S n
 |.ins C dx fs=>H dx=some (.own a)/\fs.length<=1000/\dx≠a/\h.get? a=some (PySem.W.instObj C dx)/\
   ∃mA,h.Ns1 dx mA/\(∀f,ub (fs.lookup f) (mA f))/\PySem.Within mA (fs.map (·.1))
 |.own _=>∃o,h.get? a=some o
 |.xd fs=>∃mA,h.Ns1 a mA/\∀f,ub (fs.lookup f) (mA f)
 |.rng lo hi=>∃t u v,h.get? a=some {cls:=.type "range",data:=.fields #[.int lo t,.int hi u,.int 1 v]}
 |.frz o u=>h.get? a=some o/\dU H h a u
 |.tbl ps=>h.get? a=some {cls:=.none,data:=.fields ps}
 |.met f x=>h.get? a=some (PySem.W.methodObj (.ref f) (.ref x))
 |.ext φ=>φ h/\(∃o,h.get? a=some o)/\∀h1 h2:Heap,φ h1->(∀o,h1.get? a=some o->h2.get? a=some o)->φ h2
noncomputable def qW(H:Hp)(h:Heap):Prop:=∀a o,H a=some o->dU P w H h a o
end
section
variable{P:Program}{w:World}{H H':Hp}{h h':Heap}{a:Addr}{o:HO}
theorem dU.lt(x:dU P w H h a o):a<h.objs.size:=by
 cases o with
 |lst xs=>obtain⟨_,_,_,_,e⟩:=x;exact Heap.lt_size e
 |tup xs=>obtain⟨_,_,_,p⟩:=x;exact p.lt
 |dK pY=>obtain⟨_,_,_,_,o,_,_,e,_⟩:=x;exact Heap.lt_size e
 |dT pY=>obtain⟨_,_,_,_,o,_,_,e,_⟩:=x;exact Heap.lt_size e
 |set S n=>obtain⟨o,_,_,_,e,_⟩:=x;exact Heap.lt_size e
 |ins C dx fs=>obtain⟨_,_,_,e,_⟩:=x;exact Heap.lt_size e
 |own y=>obtain⟨_,e⟩:=x;exact Heap.lt_size e
 |xd fs=>obtain⟨_,⟨_,_,_,e,_⟩,_⟩:=x;exact Heap.lt_size e
 |rng lo hi=>obtain⟨_,_,_,e⟩:=x;exact Heap.lt_size e
 |frz ob u=>obtain⟨e,_⟩:=x;exact Heap.lt_size e
 |tbl ps=>exact Heap.lt_size (show h.get? a=some _ from x)
 |met f y=>exact Heap.lt_size (show h.get? a=some _ from x)
 |ext φ=>obtain⟨_,⟨_,e⟩,_⟩:=x;exact Heap.lt_size e
theorem Paired.OI{α β:Type}{F G:α->β->Prop}:∀{l₁:List α} {l₂:List β},Paired F l₁ l₂->(∀a b,F a b->G a b)->Paired G l₁ l₂
 |_,_,.nil,_=>.nil
 |_,_,.cons r t,f=>.cons (f _ _ r) (Paired.OI t f)
theorem dU.vG(x:dU P w H h a o)(k:∀b u,(b=a\/H b=some (.own a))->h.get? b=some u->h'.get? b=some u)
  (ho:∀b,H b=some (.own a)->H' b=some (.own a))(ht:∀b xs,H b=some (.tup xs)->H' b=some (.tup xs)):dU P w H' h' a o:=by
 induction o with
 |lst xs=>obtain⟨z,its,n,r,e⟩:=x;exact⟨z,its,n,r,k _ _ (.inl rfl) e⟩
 |tup xs=>obtain⟨⟨z,od,ed,hd⟩,its,r,ob,e,c⟩:=x;exact⟨⟨z,od,k _ _ (.inl rfl) ed,hd⟩,its,r,ob,k _ _ (.inl rfl) e,c⟩
 |dK pY=>obtain⟨z,y,vs,r,ob,es,ep,e,c⟩:=x;exact⟨z,y,vs,r,ob,es,ep,k _ _ (.inl rfl) e,c⟩
 |dT pY=>
  obtain⟨z,y,xs,r,ob,es,ep,e,c⟩:=x
  exact⟨z,y,xs,Paired.OI r λp q z=>⟨z.1,ht _ _ z.2.1,z.2.2⟩,ob,es,ep,k _ _ (.inl rfl) e,c⟩
 |set S n=>obtain⟨ob,es,ep,t,e,c⟩:=x;exact⟨ob,es,ep,t,k _ _ (.inl rfl) e,c⟩
 |ins C dx fs=>
  obtain⟨d,z,ne,e,mA,⟨od,es,ep,e2,c⟩,r⟩:=x
  exact⟨ho _ d,z,ne,k _ _ (.inl rfl) e,mA,⟨od,es,ep,k _ _ (.inr d) e2,c⟩,r⟩
 |own y=>obtain⟨ob,e⟩:=x;exact⟨ob,k _ _ (.inl rfl) e⟩
 |xd fs=>obtain⟨mA,⟨od,es,ep,e,c⟩,r⟩:=x;exact⟨mA,⟨od,es,ep,k _ _ (.inl rfl) e,c⟩,r⟩
 |rng lo hi=>obtain⟨t,u,v,e⟩:=x;exact⟨t,u,v,k _ _ (.inl rfl) e⟩
 |frz ob u ih=>obtain⟨e,q⟩:=x;exact⟨k _ _ (.inl rfl) e,ih q⟩
 |tbl ps=>
  have e:h.get? a=some {cls:=.none,data:=.fields ps}:=x
  show h'.get? a=some {cls:=.none,data:=.fields ps}
  exact k a _ (.inl rfl) e
 |met f y=>
  have e:h.get? a=some (PySem.W.methodObj (.ref f) (.ref y)):=x
  show h'.get? a=some (PySem.W.methodObj (.ref f) (.ref y))
  exact k a _ (.inl rfl) e
 |ext φ=>obtain⟨p,⟨o,e⟩,st⟩:=x;exact⟨st _ _ p λo q=>k _ _ (.inl rfl) q,⟨o,k _ _ (.inl rfl) e⟩,st⟩
theorem qW.lt(x:qW P w H h)(e:H a=some o):a<h.objs.size:=(x a o e).lt
theorem qW.fresh(x:qW P w H h)(e:h.objs.size<=a):H a=none:=by
 cases q:H a with
 |none=>rfl
 |some u=>exact absurd (Nat.lt_of_lt_of_le (x.lt q) e) (Nat.lt_irrefl _)
theorem qW.kept(x:qW P w H h)(k:∀b u,h.get? b=some u->h'.get? b=some u):qW P w H h':=λa o e=>
 (x a o e).vG (λb u _ q=>k b u q) (λ_ q=>q) λ_ _ q=>q
theorem qW.laid(x:qW P w H h)(k:∀b u,h.get? b=some u->h'.get? b=some u)(hp:h.objs.size<=a)(new:dU P w (upd H a o) h' a o):qW P w (upd H a o) h':=λb u e=>by
 have hn:=x.fresh hp
 by_cases hb:b=a
 ·subst hb;rw[bE]at e;cases e;exact new
 ·rw[aZ hb]at e
  exact(x b u e).vG (λc v _ q=>k c v q) (λc q=>by rw[aZ (bP q hn)];exact q) λc xs q=>by rw[aZ (bP q hn)];exact q
end
noncomputable def Rd(H:Hp)(a:Addr)(u:HO):Prop:=H a=some u\/∃o,H a=some (.frz o u)
theorem Rd.ok{P:Program}{w:World}{H:Hp}{h:Heap}{a:Addr}{u:HO}(r:Rd H a u)(x:qW P w H h):dU P w H h a u:=by
 rcases r with r|⟨o,r⟩
 ·exact x a u r
 ·obtain⟨_,q⟩:=x a _ r
  exact q
noncomputable def Rh:Option HO->Prop
 |some (.lst _)=>True
 |some (.dK _)=>True
 |some (.dT _)=>True
 |some (.set _ _)=>True
 |some (.ins _ _ _)=>True
 |some (.ext _)=>True
 |_=>False
section
variable{P:Program}{w:World}{H:Hp}{h h':Heap}{x e:Addr}{o':HO}
theorem qW.write(ok:qW P w H h)(mu:Rh (H x))(he:e=x\/H e=some (.own x))(k:∀b u,b≠e->h.get? b=some u->h'.get? b=some u)(Ol:∃u,h'.get? e=some u)
  (new:dU P w (upd H x o') h' x o'):qW P w (upd H x o') h':=λb u q=>by
 have OJ:∀c y,H c=some (.own y)->c≠x:=λc y r z=>by subst z;rw[r]at mu;exact mu
 have RX:∀c xs,H c=some (.tup xs)->c≠x:=λc xs r z=>by subst z;rw[r]at mu;exact mu
 by_cases hb:b=x
 ·subst hb;rw[bE]at q;cases q;exact new
 ·rw[aZ hb]at q
  by_cases LR:b=e
  ·have q':H b=some (.own x):=by
     rcases he with z|z
     ·exact absurd (LR.trans z) hb
     ·rw[LR];exact z
   rw[q]at q';cases q'
   obtain⟨v,hv⟩:=Ol
   exact⟨v,by rw[LR];exact hv⟩
  ·refine(ok b u q).vG (λc v hc r=>k c v ?_ r) (λc r=>by rw[aZ (OJ c b r)];exact r) λc xs r=>by rw[aZ (RX c xs r)];exact r
   rcases hc with rfl|hc
   ·exact LR
   ·rintro rfl
    rcases he with z|z
    ·exact OJ c b hc z
    ·rw[hc]at z;cases z;exact hb rfl
end
structure Un(fs ex:List Addr)(H H':Hp)(h h':Heap):Prop where
 keep:∀b o,h.get? b=some o->H b=none->b∉fs->b∉ex->h'.get? b=some o
 slot:∀b o,h.get? b=some o->H b=none->b∈fs->b∉ex->∃sl,h'.get? b=some {o with slots:=sl}
 free:∀b o,h.get? b=some o->H b=none->b∉ex->H' b=none
 there:∀b o,h.get? b=some o->b∉ex->∃o',h'.get? b=some o'
 uc:∀b xs,H b=some (.tup xs)->H' b=some (.tup xs)
 rH:∀b o u,H b=some (.frz o u)->H' b=some (.frz o u)
 vH:∀b ps,H b=some (.tbl ps)->∃more,H' b=some (.tbl (ps++more))
section
variable{fs OK ex V8:List Addr}{H H1 H2:Hp}{h h1 h2 h':Heap}{a x e:Addr}{o:HO}
theorem Un.any(u:Un fs ex H H1 h h1){b:Addr}{ob:Obj}(q:h.get? b=some ob)(n:H b=none)(hx:b∉ex):∃sl,h1.get? b=some {ob with slots:=sl}:=by
 by_cases hb:b∈fs
 ·exact u.slot b ob q n hb hx
 ·exact⟨ob.slots,u.keep b ob q n hb hx⟩
theorem Un.kept(k:∀b u,h.get? b=some u->h'.get? b=some u):Un fs ex H H h h':=
 ⟨λb ob q _ _ _=>k b ob q,λb ob q _ _ _=>⟨ob.slots,k b ob q⟩,λ_ _ _ n _=>n,λb ob q _=>⟨ob,k b ob q⟩,λ_ _ q=>q,λ_ _ _ q=>q,λ_ ps q=>⟨#[],by rw[q];simp⟩⟩
theorem Un.refl:Un fs ex H H h h:=Un.kept λ_ _ q=>q
theorem Un.laid(k:∀b u,h.get? b=some u->h'.get? b=some u)(hp:h.objs.size<=a)(hn:H a=none):Un fs ex H (upd H a o) h h' where
 keep:=λb u q _ _ _=>k b u q
 slot:=λb u q _ _ _=>⟨u.slots,k b u q⟩
 free:=λb u q n _=>by rw[aZ (Nat.ne_of_lt (Nat.lt_of_lt_of_le (Heap.lt_size q) hp))];exact n
 there:=λb u q _=>⟨u,k b u q⟩
 uc:=λb xs q=>by rw[aZ (bP q hn)];exact q
 rH:=λb u xs q=>by rw[aZ (bP q hn)];exact q
 vH:=λb ps q=>⟨#[],by rw[aZ (bP q hn),q];simp⟩
theorem Un.write(mu:Rh (H x))(he:e=x\/H e=some (.own x))(k:∀b u,b≠e->h.get? b=some u->h'.get? b=some u)(Ol:∃u,h'.get? e=some u):Un fs ex H (upd H x o) h h':=by
 have hx:∀b,H b=none->b≠x:=λb n z=>by subst z;rw[n]at mu;exact mu
 have hb:∀b,H b=none->b≠e:=λb n z=>by
  subst z
  rcases he with r|r
  ·exact hx b n r
  ·rw[n]at r;cases r
 have hm:∀b u,H b=some u->¬Rh (some u)->b≠x:=λb u q nm z=>by subst z;rw[q]at mu;exact nm mu
 refine⟨λb u q n _ _=>k b u (hb b n) q,λb u q n _ _=>⟨u.slots,k b u (hb b n) q⟩,λb u q n _=>by rw[aZ (hx b n)];exact n,λb u q _=>?_,
  λb xs q=>by rw[aZ (hm b _ q λz=>z)];exact q,λb u xs q=>by rw[aZ (hm b _ q λz=>z)];exact q,λb ps q=>⟨#[],by rw[aZ (hm b _ q λz=>z),q];simp⟩⟩
 by_cases LR:b=e
 ·subst LR;exact Ol
 ·exact⟨u,k b u LR q⟩
end
noncomputable def Ri(h:Heap)(H:Hp):List Addr:=(List.range h.objs.size).filter λa=>(H a).isSome
noncomputable def vI(h:Heap)(H:Hp):Heap:=PySem.W.hideAll h (Ri h H)
theorem Eb(h:Heap)(H:Hp):(vI h H).objs.size=h.objs.size:=PySem.W.hideAll_size _ _
theorem FA{h:Heap}{H:Hp}{b:Addr}{o:Obj}(e:h.get? b=some o)(n:H b=none):(vI h H).get? b=some o:=
 PySem.W.hideAll_get _ e λhm=>by
  have q:(H b).isSome=true:=(List.mem_filter.mp hm).2
  rw[n]at q;simp at q
theorem IX{h:Heap}{H:Hp}{b:Addr}{o:Obj}(e:(vI h H).get? b=some o):h.get? b=some o/\H b=none:=by
 have e':h.get? b=some o:=PySem.W.of_hideAll (Ri h H) e
 refine⟨e',?_⟩
 cases q:H b with
 |none=>rfl
 |some x=>
  have hm:b∈Ri h H:=List.mem_filter.mpr ⟨List.mem_range.mpr (Heap.lt_size e'),by simp[q]⟩
  have z:(vI h H).get? b=none:=PySem.W.hideAll_none (Ri h H) hm
  rw[z]at e;cases e
structure Mod(K:PySem.W.Frag)(mg:Str->Option Value)(base:Heap):Prop where
 kin:K.In base
 glob:base.Ns mainGlobals mg
 blt:∃mb,base.Ns builtinsNs mb/\∀x:Str,x≠ "__name__" ->mb x=bootBuiltins x
 nolimit:base.NoLimit
structure Cx where
 prog:Program
 w:World
 K:PySem.W.Frag
 mg:Str->Option Value
 base:Heap
 A:Around
 N:List Str
 s₀:Shared
 H₀:Hp
 env:Env
 outer:List Env
 stack:List Env
 ex:List Addr
 fn:Str->Bool
 calm:Bool
 pn:List (Addr×Obj)
 xe:Value->Shared->Prop
noncomputable def Ec(l:List Env):List Addr:=l.filterMap (·.frame)
noncomputable abbrev Cx.fs(X:Cx):List Addr:=Ec X.outer
noncomputable def KL(sc:Scope)(x:Str):Prop:=sc.names.lookup x=some .local\/sc.names.lookup x=some .cell\/sc.names.lookup x=some .free
noncomputable def Loc(sc:Scope)(x:Str):Prop:=sc.names.lookup x=some .local\/sc.names.lookup x=some .cell
noncomputable def Look(env:Env)(h:Heap)(m:Str->Option Value)(x:Str)(u:Value):Prop:=
 (env.kindOf x=some .local/\m x=some u)\/((env.kindOf x=some .cell\/env.kindOf x=some .free)/\∃c,env.cells.lookup x=some c/\h.IsCell c (some u))
structure Cx.Ok(X:Cx):Prop where
 mod:Mod X.K X.mg X.base
 kind:X.env.scope.kind=.function
 glob:X.env.globals=mainGlobals
 blt:X.env.builtins=builtinsNs
 above:X.s₀.heap.objs.size<=X.env.locals
 inj:∀x y c,X.env.cells.lookup x=some c->X.env.cells.lookup y=some c->x=y
 has:∀x,(X.env.kindOf x=some .cell\/X.env.kindOf x=some .free)->∃c,X.env.cells.lookup x=some c
 cab:∀x c,X.fn x=true->X.env.cells.lookup x=some c->X.s₀.heap.objs.size<=c
 hd:X.calm=true->X.A.handled=none
 frames:X.A.frames=some X.stack
 stk:X.stack=X.outer\/(X.stack=X.env::X.outer/\X.env.frame=some X.env.locals)
 exf:∀b∈X.ex,b≠X.env.locals/\∀x c,X.env.cells.lookup x=some c->c≠b
 bs:∀b o,X.base.get? b=some o->X.s₀.heap.get? b=some o/\X.H₀ b=none
 bsz:X.base.objs.size<=X.s₀.heap.objs.size
 noex:∀b o,X.base.get? b=some o->b∉X.ex
 exfs:∀b∈X.ex,b∉X.fs
 funs:X.s₀.heap.FunFrames X.base X.outer
 frf:∀b∈X.fs,X.H₀ b=none
structure Inv(X:Cx)(pins:List (Addr×Obj))(σ:List (Option V))(H:Hp)(s:Shared):Prop where
 ok:X.Ok
 os:s.os=X.s₀.os
 bare:AllBare s.gens
 base:Un X.fs X.ex X.H₀ H X.s₀.heap s.heap
 loc:∃m,s.heap.Ns X.env.locals m/\∀(i:Nat) (x:Str) (v:V),X.N[i]?=some x->σ[i]?=some (some v)->KL X.env.scope x->∃u,RelV v u/\Look X.env s.heap m x u
 cell:∀x c,X.env.cells.lookup x=some c->∃v,s.heap.IsCell c v
 free:H X.env.locals=none
 freeC:∀x c,X.env.cells.lookup x=some c->H c=none
 pin:∀p∈X.pn++pins,s.heap.get? p.1=some p.2/\H p.1=none/\p.1≠X.env.locals/\p.1∉X.fs/\∀v,p.2.data≠.cell v
 dh:qW X.prog X.w H s.heap
 len:σ.length=X.N.length
section
variable{X:Cx}{pins:List (Addr×Obj)}{σ:List (Option V)}{H H':Hp}{s:Shared}{h':Heap}
theorem Cx.Ok.RY(ok:X.Ok){b:Addr}{o:Obj}(e:X.base.get? b=some o):b∉X.fs:=λhb=>by
 have:=(ok.funs.mem hb).1
 rw[e]at this;cases this
theorem Inv.bs(I:Inv X pins σ H s):∀b o,X.base.get? b=some o->s.heap.get? b=some o/\H b=none:=λb o e=>
 ⟨I.base.keep b o (I.ok.bs b o e).1 (I.ok.bs b o e).2 (I.ok.RY e) (I.ok.noex b o e),I.base.free b o (I.ok.bs b o e).1 (I.ok.bs b o e).2 (I.ok.noex b o e)⟩
theorem Inv.bk(I:Inv X pins σ H s):∀b o,X.base.get? b=some o->s.heap.get? b=some o:=λb o e=>(I.bs b o e).1
theorem Inv.mod(I:Inv X pins σ H s):Mod X.K X.mg X.base:=I.ok.mod
theorem Inv.kf(I:Inv X pins σ H s):X.K.In s.heap:=I.ok.mod.kin.keeps I.bk
theorem Inv.lt(I:Inv X pins σ H s):X.env.locals<s.heap.objs.size:=let⟨_,hn,_⟩:=I.loc;hn.lt
theorem Inv.sz(I:Inv X pins σ H s):X.s₀.heap.objs.size<=s.heap.objs.size:=Nat.le_trans I.ok.above (Nat.le_of_lt I.lt)
theorem Inv.IY(I:Inv X pins σ H s){a:Addr}(h:s.heap.objs.size<=a):a∉X.fs:=λhb=>by
 obtain⟨_,o,ho,_⟩:=I.ok.funs.mem hb
 exact absurd (Nat.lt_of_lt_of_le (Heap.lt_size ho) (Nat.le_trans I.sz h)) (Nat.lt_irrefl _)
theorem Inv.LS(I:Inv X pins σ H s):∀x c,X.env.cells.lookup x=some c->c≠X.env.locals:=λx c e z=>by
 obtain⟨v,o,ho,hd⟩:=I.cell x c e
 obtain⟨m,⟨o',es,ep,LU,RZ,_⟩,_⟩:=I.loc
 rw[z,LU]at ho;cases ho;rw[RZ]at hd;cases hd
theorem Inv.funs(I:Inv X pins σ H s):s.heap.FunFrames X.base X.outer:=by
 have all:∀(l:List Env),(∀b∈Ec l,b∈X.fs)->X.s₀.heap.FunFrames X.base l->s.heap.FunFrames X.base l:=by
  intro l
  induction l with
  |nil=>intro _ _;trivial
  |cons env r ih=>
   intro hs hl
   obtain⟨hk,⟨L,o,hf,hn,ho,hd⟩,hr⟩:=hl
   have hL:L∈X.fs:=hs L (by unfold Ec;rw[List.filterMap_cons,hf];exact List.mem_cons_self)
   obtain⟨sl,e⟩:=I.base.slot L o ho (I.ok.frf L hL) hL λz=>I.ok.exfs L z hL
   exact⟨hk,⟨L,_,hf,hn,e,hd⟩,ih (λb hb=>hs b (by unfold Ec;rw[List.filterMap_cons,hf];exact List.mem_cons_of_mem _ hb)) hr⟩
 exact all X.outer (λ_ hb=>hb) I.ok.funs
theorem Inv.stack(I:Inv X pins σ H s):s.heap.FunFrames X.base X.stack:=by
 rcases I.ok.stk with e|⟨e,hf⟩
 ·rw[e];exact I.funs
 ·rw[e]
  obtain⟨m,hn,_⟩:=I.loc
  refine .cons (by rw[I.ok.kind];decide) hf hn ?_ I.funs
  exact Heap.get?_none_of_le (Nat.le_trans I.ok.bsz I.ok.above)
theorem Inv.AX(I:Inv X pins σ H s):∀b∈Ec X.stack,b∈X.env.locals::X.fs:=λb hb=>by
 rcases I.ok.stk with e|⟨e,hf⟩
 ·rw[e]at hb;exact List.mem_cons_of_mem _ hb
 ·rw[e]at hb
  unfold Ec at hb
  rw[List.filterMap_cons,hf]at hb
  exact hb
theorem Inv.CM(I:Inv X pins σ H s):∀b∈Ec X.stack,H b=none:=λb hb=>by
 rcases List.mem_cons.mp (I.AX b hb)with e|hb
 ·rw[e];exact I.free
 ·obtain⟨_,o,ho,_⟩:=I.ok.funs.mem hb
  exact I.base.free b o ho (I.ok.frf b hb) λz=>I.ok.exfs b z hb
theorem Inv.step{g':Array GenState}{t':Nat}{d':Drawn}{ch:List Addr}(I:Inv X pins σ H s)
  (IL:∀b∈ch,(b∈X.ex\/X.s₀.heap.objs.size<=b)/\b≠X.env.locals/\(∀x c,X.env.cells.lookup x=some c->c≠b)/\∀p∈X.pn++pins,p.1≠b)
  (keep:∀b o,b≠X.env.locals->b∉X.fs->b∉ch->s.heap.get? b=some o->H b=none->h'.get? b=some o)
  (slot:∀b o,b≠X.env.locals->b∈X.fs->b∉ch->s.heap.get? b=some o->H b=none->∃sl,h'.get? b=some {o with slots:=sl})(free:∀b o,b∉ch->s.heap.get? b=some o->H b=none->H' b=none)
  (there:∀b o,b∉ch->s.heap.get? b=some o->∃o',h'.get? b=some o')
  (uc:∀b xs,H b=some (.tup xs)->H' b=some (.tup xs))(rH:∀b o u,H b=some (.frz o u)->H' b=some (.frz o u))(vH:∀b ps,H b=some (.tbl ps)->∃more,H' b=some (.tbl (ps++more)))
  (ns:∀m,s.heap.Ns X.env.locals m->h'.Ns X.env.locals m)(dh:qW X.prog X.w H' h')(hg:AllBare g'):
  Inv X pins σ H' {s with heap:=h',gens:=g',drawn:=d',toks:=t'}:=by
 have Tz:∀b o,X.s₀.heap.get? b=some o->b≠X.env.locals:=λb o e=>Nat.ne_of_lt (Nat.lt_of_lt_of_le (Heap.lt_size e) I.ok.above)
 have Rj:∀b o,X.s₀.heap.get? b=some o->b∉X.ex->b∉ch:=λb o e hx hb=>by
  rcases(IL b hb).1 with z|z
  ·exact hx z
  ·exact absurd (Nat.lt_of_lt_of_le (Heap.lt_size e) z) (Nat.lt_irrefl _)
 have cellK:∀x c,X.env.cells.lookup x=some c->∀v,s.heap.IsCell c v->h'.IsCell c v:=λx c e v ⟨o,ho,hd⟩=>by
  have OL:c∉ch:=λz=>(IL c z).2.2.1 x c e rfl
  by_cases hc:c∈X.fs
  ·obtain⟨sl,q⟩:=slot c o (I.LS x c e) hc OL ho (I.freeC x c e)
   exact⟨_,q,hd⟩
  ·exact⟨o,keep c o (I.LS x c e) hc OL ho (I.freeC x c e),hd⟩
 refine⟨I.ok,I.os,hg,⟨λb o e n hb hx=>?_,λb o e n hb hx=>?_,λb o e n hx=>?_,λb o e hx=>?_,λb xs e=>uc b xs (I.base.uc b xs e),λb o xs e=>rH b o xs (I.base.rH b o xs e),λb ps e=>?_⟩,?_,λx c e=>?_,?_,λx c e=>?_,λp hp=>?_,dh,I.len⟩
 ·exact keep b o (Tz b o e) hb (Rj b o e hx) (I.base.keep b o e n hb hx) (I.base.free b o e n hx)
 ·obtain⟨sl,e1⟩:=I.base.slot b o e n hb hx
  obtain⟨UG,e2⟩:=slot b _ (Tz b o e) hb (Rj b o e hx) e1 (I.base.free b o e n hx)
  exact⟨UG,e2⟩
 ·obtain⟨o',e1⟩:=I.base.there b o e hx
  exact free b o' (Rj b o e hx) e1 (I.base.free b o e n hx)
 ·obtain⟨o',e1⟩:=I.base.there b o e hx
  exact there b o' (Rj b o e hx) e1
 ·obtain⟨m1,e1⟩:=I.base.vH b ps e
  obtain⟨m2,e2⟩:=vH b _ e1
  exact⟨m1++m2,by rw[e2,Array.append_assoc]⟩
 ·obtain⟨m,hn,hl⟩:=I.loc
  refine⟨m,ns m hn,λi x v e1 e2 e3=>?_⟩
  obtain⟨u,r,l⟩:=hl i x v e1 e2 e3
  refine⟨u,r,?_⟩
  rcases l with l|⟨k,c,e,z⟩
  ·exact .inl l
  ·exact .inr ⟨k,c,e,cellK x c e _ z⟩
 ·obtain⟨v,z⟩:=I.cell x c e
  exact⟨v,cellK x c e v z⟩
 ·obtain⟨m,⟨o,_,_,ho,_⟩,_⟩:=I.loc
  exact free _ o (λz=>(IL _ z).2.1 rfl) ho I.free
 ·obtain⟨v,o,ho,hd⟩:=I.cell x c e
  exact free c o (λz=>(IL c z).2.2.1 x c e rfl) ho (I.freeC x c e)
 ·obtain⟨e,n,ne,nf,d⟩:=I.pin p hp
  have OL:p.1∉ch:=λz=>(IL p.1 z).2.2.2 p hp rfl
  exact⟨keep p.1 p.2 ne nf OL e n,free p.1 p.2 OL e n,ne,nf,d⟩
theorem Inv.un{t':Nat}(I:Inv X pins σ H s)(u:Un X.fs [] H H' s.heap h')(dh:qW X.prog X.w H' h'):Inv X pins σ H' {s with heap:=h',toks:=t'}:=by
 obtain⟨m,⟨o,es,ep,ho,r⟩,_⟩:=id I.loc
 obtain⟨sl,hL⟩:=u.any ho I.free (by simp)
 exact I.step (g':=s.gens) (d':=s.drawn) (ch:=[]) (λ_ z=>nomatch z) (λb o _ hb _ e n=>u.keep b o e n hb (by simp)) (λb o _ hb _ e n=>u.slot b o e n hb (by simp)) (λb o _ e n=>u.free b o e n (by simp)) (λb o _ e=>u.there b o e (by simp)) u.uc u.rH u.vH (λm' hm=>by
  obtain⟨o',R0,R1,LU,r'⟩:=hm
  rw[ho]at LU;cases LU
  exact⟨_,R0,R1,hL,r'⟩) dh I.bare
theorem Inv.call{g':Array GenState}{t':Nat}{d':Drawn}{ch:List Addr}(I:Inv X pins σ H s)(u:Un (Ec X.stack) ch H H' s.heap h')(dh:qW X.prog X.w H' h')(hg:AllBare g')
  (IL:∀b∈ch,(b∈X.ex\/X.s₀.heap.objs.size<=b)/\b≠X.env.locals/\(∀x c,X.env.cells.lookup x=some c->c≠b)/\∀p∈X.pn++pins,p.1≠b):
  Inv X pins σ H' {s with heap:=h',gens:=g',drawn:=d',toks:=t'}:=by
 obtain⟨m,⟨o,es,ep,ho,r⟩,_⟩:=id I.loc
 obtain⟨sl,hL⟩:=u.any ho I.free λz=>(IL _ z).2.1 rfl
 exact I.step (ch:=ch) IL (λb o hL hb hc e n=>u.keep b o e n (λz=>(List.mem_cons.mp (I.AX b z)).elim hL hb) hc) (λb o _ _ hc e n=>u.any e n hc) (λb o hc e n=>u.free b o e n hc) (λb o hc e=>u.there b o e hc) u.uc u.rH u.vH (λm' hm=>by
  obtain⟨o',R0,R1,LU,r'⟩:=hm
  rw[ho]at LU;cases LU
  exact⟨_,R0,R1,hL,r'⟩) dh hg
theorem Inv.turned{t':Nat}{it:Addr}(I:Inv X pins σ H s)(k:∀b o,b≠it->s.heap.get? b=some o->h'.get? b=some o)(hn:H it=none)(hL:it≠X.env.locals)
  (h1:it∈X.ex\/X.s₀.heap.objs.size<=it)(h2:∀x c,X.env.cells.lookup x=some c->c≠it)(h3:∀p∈X.pn++pins,p.1≠it):Inv X pins σ H {s with heap:=h',toks:=t'}:=by
 have KN:∀b u,H b=some u->b≠it:=λb u e z=>by rw[z,hn]at e;cases e
 refine I.step (g':=s.gens) (d':=s.drawn) (ch:=[it]) (λb hb=>?_) (λb o _ _ hc e _=>k b o (λz=>hc (by simp[z])) e) (λb o _ _ hc e _=>⟨o.slots,k b o (λz=>hc (by simp[z])) e⟩) (λ_ _ _ _ n=>n)
  (λb o hc e=>⟨o,k b o (λz=>hc (by simp[z])) e⟩) (λ_ _ e=>e) (λ_ _ _ e=>e) (λb ps e=>⟨#[],by rw[e];simp⟩) (λm hm=>?_) (λb u e=>?_) I.bare
 ·have e:b=it:=by simpa using hb
  subst e
  exact⟨h1,hL,h2,h3⟩
 ·obtain⟨o,es,ep,ho,r⟩:=hm
  exact⟨o,es,ep,k _ o (Ne.symm hL) ho,r⟩
 ·refine(I.dh b u e).vG (λc v hc q=>k c v ?_ q) (λ_ q=>q) λ_ _ q=>q
  rcases hc with z|z
  ·rw[z];exact KN b u e
  ·exact KN c _ z
theorem Inv.tok(I:Inv X pins σ H s)(t:Nat):Inv X pins σ H {s with toks:=t}:=I.un (h':=s.heap) (t':=t) Un.refl I.dh
theorem Inv.kept{t':Nat}(I:Inv X pins σ H s)(k:∀b u,s.heap.get? b=some u->h'.get? b=some u):Inv X pins σ H {s with heap:=h',toks:=t'}:=I.un (Un.kept k) (I.dh.kept k)
theorem Inv.laid{a:Addr}{o:HO}{t':Nat}(I:Inv X pins σ H s)(k:∀b u,s.heap.get? b=some u->h'.get? b=some u)(hp:s.heap.objs.size<=a)(new:dU X.prog X.w (upd H a o) h' a o):
 Inv X pins σ (upd H a o) {s with heap:=h',toks:=t'}:=I.un (Un.laid k hp (I.dh.fresh hp)) (I.dh.laid k hp new)
theorem Inv.write{x e:Addr}{o:HO}{t':Nat}(I:Inv X pins σ H s)(mu:Rh (H x))(he:e=x\/H e=some (.own x))(k:∀b u,b≠e->s.heap.get? b=some u->h'.get? b=some u)(Ol:∃u,h'.get? e=some u)
 (new:dU X.prog X.w (upd H x o) h' x o):Inv X pins σ (upd H x o) {s with heap:=h',toks:=t'}:=I.un (Un.write mu he k Ol) (I.dh.write mu he k Ol new)
theorem Inv.weak{σ':List (Option V)}(I:Inv X pins σ H s)(hl:σ'.length=σ.length)(w:∀(i:Nat) v,σ'[i]?=some (some v)->σ[i]?=some (some v)):Inv X pins σ' H s:=
 ⟨I.ok,I.os,I.bare,I.base,let⟨m,hn,Om⟩:=I.loc;⟨m,hn,λi x v e1 e2 e3=>Om i x v e1 (w i v e2) e3⟩,I.cell,I.free,I.freeC,I.pin,I.dh,hl.trans I.len⟩
theorem Inv.eI{nN:List (Addr×Obj)}(I:Inv X pins σ H s)(h:∀p∈nN,s.heap.get? p.1=some p.2/\H p.1=none/\p.1≠X.env.locals/\p.1∉X.fs/\∀v,p.2.data≠.cell v):Inv X nN σ H s:=
 ⟨I.ok,I.os,I.bare,I.base,I.loc,I.cell,I.free,I.freeC,λp hp=>(List.mem_append.mp hp).elim (λz=>I.pin p (List.mem_append_left _ z)) (h p),I.dh,I.len⟩
theorem yf{N:List Str}(hN:N.Nodup){i j:Nat}{x:Str}(a:N[i]?=some x)(b:N[j]?=some x):i=j:=by
 obtain⟨h1,e1⟩:=List.getElem?_eq_some_iff.mp a
 obtain⟨h2,e2⟩:=List.getElem?_eq_some_iff.mp b
 exact(List.getElem_inj hN).mp (e1.trans e2.symm)
theorem uS{M:Model}{A:Around}{E:Value->Shared->Prop}{i:Nat}{x:Str}{v:V}{u:Value}{Q:Unit->Shared->Prop}(I:Inv X pins σ H s)(hN:X.N.Nodup)(hi:X.N[i]?=some x)(hx:Loc X.env.scope x)(r:RelV v u)
  (h:∀s',Inv X pins (σ.set i (some v)) H s'->(∃a,Heap.SameBut a s.heap s'.heap/\(a=X.env.locals\/X.env.cells.lookup x=some a))->Q () s')(hf:X.fn x=true\/X.env.scope.names.lookup x=some .local:=by first|exact .inl rfl|exact .inr rfl|assumption):wpAny M A (storeName X.env x u) Q E s:=by
 obtain⟨m,hn,hl⟩:=id I.loc
 have R3:(X.env.scope.kind==.class||(X.env.scope.kind==.module&&X.env.locals !=X.env.globals))=false:=by rw[I.ok.kind];rfl
 have TB:i<σ.length:=by rw[I.len];exact(List.getElem?_eq_some_iff.mp hi).1
 have LS:=I.LS
 have tracked:∀{a:Addr} {h':Heap},(∃o,s.heap.get? a=some o/\H a=none)->Heap.SameBut a s.heap h'->qW X.prog X.w H h':=λ{a h'} ha hs b ob e=>by
  obtain⟨_,_,nO⟩:=ha
  refine(I.dh b ob e).vG (λc w' hc q=>(hs.2 c ?_).trans q) (λ_ q=>q) λ_ _ q=>q
  rintro rfl
  rcases hc with rfl|hc
  ·rw[nO]at e;cases e
  ·rw[nO]at hc;cases hc
 rcases hx with hk|hk
 ·refine wpAny_storeName_local hk hn (λh' UH hs=>?_) R3
  obtain⟨oL,_,_,R4,_⟩:=id hn
  refine h _ ⟨I.ok,I.os,I.bare,⟨λb o e n hb hx=>?_,λb o e n hb hx=>?_,I.base.free,λb o e hx=>?_,I.base.uc,I.base.rH,I.base.vH⟩,⟨_,UH,λj y v' e1 e2 e3=>?_⟩,λy c e=>?_,I.free,I.freeC,λp hp=>?_,tracked ⟨oL,R4,I.free⟩ hs,by simpa using I.len⟩ ⟨_,hs,.inl rfl⟩
  ·exact(hs.2 b (Nat.ne_of_lt (Nat.lt_of_lt_of_le (Heap.lt_size e) I.ok.above))).trans (I.base.keep b o e n hb hx)
  ·obtain⟨sl,e1⟩:=I.base.slot b o e n hb hx
   exact⟨sl,(hs.2 b (Nat.ne_of_lt (Nat.lt_of_lt_of_le (Heap.lt_size e) I.ok.above))).trans e1⟩
  ·obtain⟨o',e1⟩:=I.base.there b o e hx
   exact⟨o',(hs.2 b (Nat.ne_of_lt (Nat.lt_of_lt_of_le (Heap.lt_size e) I.ok.above))).trans e1⟩
  ·by_cases hj:j=i
   ·subst hj
    rw[hi]at e1;cases e1
    rw[List.getElem?_set_self TB]at e2
    cases e2
    exact⟨u,r,.inl ⟨hk,by simp⟩⟩
   ·rw[List.getElem?_set_ne (Ne.symm hj)]at e2
    obtain⟨u',r',q⟩:=hl j y v' e1 e2 e3
    refine⟨u',r',?_⟩
    rcases q with⟨k,e⟩|⟨k,c,e,z⟩
    ·refine .inl ⟨k,?_⟩
     have:y≠x:=λe=>hj (yf hN e1 (e▸hi))
     simp[this,e]
    ·exact .inr ⟨k,c,e,z.sameBut hs (LS y c e)⟩
  ·obtain⟨w',z⟩:=I.cell y c e
   exact⟨w',z.sameBut hs (LS y c e)⟩
  ·obtain⟨e,n,ne,nf,d⟩:=I.pin p hp
   exact⟨(hs.2 p.1 ne).trans e,n,ne,nf,d⟩
 ·have R5:X.fn x=true:=by
    rcases hf with z|z
    ·exact z
    ·rw[z]at hk;cases hk
  obtain⟨c,hc⟩:=I.ok.has x (.inl hk)
  obtain⟨w',z⟩:=I.cell x c hc
  refine wpAny_storeName_cell I.ok.kind hk hc z (λh' OM hs=>?_)
  obtain⟨oc,TC,R6⟩:=id z
  refine h {s with heap:=h'} ⟨I.ok,I.os,I.bare,⟨λb o e n hb hx=>?_,λb o e n hb hx=>?_,I.base.free,λb o e hx=>?_,I.base.uc,I.base.rH,I.base.vH⟩,⟨m,hn.sameBut hs (Ne.symm (LS x c hc)),λj y v' e1 e2 e3=>?_⟩,λy c' e=>?_,I.free,I.freeC,λp hp=>?_,tracked ⟨oc,TC,I.freeC x c hc⟩ hs,by simpa using I.len⟩ ⟨c,hs,.inr hc⟩
  ·exact(hs.2 b (Nat.ne_of_lt (Nat.lt_of_lt_of_le (Heap.lt_size e) (I.ok.cab x c R5 hc)))).trans (I.base.keep b o e n hb hx)
  ·obtain⟨sl,e1⟩:=I.base.slot b o e n hb hx
   exact⟨sl,(hs.2 b (Nat.ne_of_lt (Nat.lt_of_lt_of_le (Heap.lt_size e) (I.ok.cab x c R5 hc)))).trans e1⟩
  ·obtain⟨o',e1⟩:=I.base.there b o e hx
   exact⟨o',(hs.2 b (Nat.ne_of_lt (Nat.lt_of_lt_of_le (Heap.lt_size e) (I.ok.cab x c R5 hc)))).trans e1⟩
  ·by_cases hj:j=i
   ·subst hj
    rw[hi]at e1;cases e1
    rw[List.getElem?_set_self TB]at e2
    cases e2
    exact⟨u,r,.inr ⟨.inl hk,c,hc,OM⟩⟩
   ·rw[List.getElem?_set_ne (Ne.symm hj)]at e2
    obtain⟨u',r',q⟩:=hl j y v' e1 e2 e3
    refine⟨u',r',?_⟩
    rcases q with q|⟨k,c',e,z'⟩
    ·exact .inl q
    ·refine .inr ⟨k,c',e,z'.sameBut hs ?_⟩
     rintro rfl
     exact hj (yf hN e1 (I.ok.inj _ _ _ e hc▸hi))
  ·by_cases TF:c'=c
   ·subst TF;exact⟨_,OM⟩
   ·obtain⟨w2,z2⟩:=I.cell y c' e
    exact⟨w2,z2.sameBut hs TF⟩
  ·obtain⟨e,n,ne,nf,d⟩:=I.pin p hp
   refine⟨(hs.2 p.1 ?_).trans e,n,ne,nf,d⟩
   intro q
   rw[q,TC]at e
   have q':oc=p.2:=Option.some.inj e
   exact d w' (by rw[<-q'];exact R6)
theorem rJ{M:Model}{A:Around}{E:Value->Shared->Prop}{i:Nat}{x:Str}{v:V}{u:Value}{Q:Unit->Shared->Prop}(I:Inv X pins σ H s)(hN:X.N.Nodup)(hi:X.N[i]?=some x)(hx:Loc X.env.scope x)(r:RelV v u)
  (h:∀s',Inv X pins (σ.set i (some v)) H s'->Q () s')(hf:X.fn x=true\/X.env.scope.names.lookup x=some .local:=by first|exact .inl rfl|exact .inr rfl|assumption):wpAny M A (storeName X.env x u) Q E s:=
 uS I hN hi hx r (λs' I' _=>h s' I') hf
theorem Inv.ON{s':Shared}{ch:List Addr}(I:Inv X pins σ H s)(ho:s'.os=s.os)(u:Un (Ec X.stack) ch H H' s.heap s'.heap)(dh:qW X.prog X.w H' s'.heap)(hg:AllBare s'.gens)
  (IL:∀b∈ch,(b∈X.ex\/X.s₀.heap.objs.size<=b)/\b≠X.env.locals/\(∀x c,X.env.cells.lookup x=some c->c≠b)/\∀p∈X.pn++pins,p.1≠b):Inv X pins σ H' s':=by
 obtain⟨h',g',d',t',o'⟩:=s'
 have e:o'=s.os:=ho
 subst e
 exact I.call (g':=g') (t':=t') (d':=d') u dh hg IL
end
noncomputable abbrev XK:=Value->Option Addr->Hp->Prop
noncomputable abbrev St:=List (Option V)
noncomputable abbrev VK:=V->Hp->Prop
noncomputable abbrev TE:=St->Hp->VK->Prop
noncomputable abbrev TT:=St->Hp->(Bool->Hp->Prop)->Prop
noncomputable abbrev TA:=St->Hp->(List V->Hp->Prop)->Prop
structure Ends where
 nx:St->Hp->Prop
 rt:VK
 bk:St->Hp->Prop:=λ_ _=>False
 ct:St->Hp->Prop:=λ_ _=>False
noncomputable abbrev TS:=Ends->St->Hp->Prop
noncomputable def EP(X:Cx)(pins:List (Addr×Obj))(σ:St)(Q:VK)(u:Value)(s':Shared):Prop:=∃v H',Inv X pins σ H' s'/\RelV v u/\Q v H'
noncomputable def TP(X:Cx)(pins:List (Addr×Obj))(σ:St)(Q:Bool->Hp->Prop)(b:Bool)(s':Shared):Prop:=∃H',Inv X pins σ H' s'/\Q b H'
noncomputable def AP(X:Cx)(pins:List (Addr×Obj))(σ:St)(Q:List V->Hp->Prop)(us:List Value)(s':Shared):Prop:=∃vs H',Inv X pins σ H' s'/\Vals vs us/\Q vs H'
noncomputable def SP(X:Cx)(pins:List (Addr×Obj))(D:Ends)(f:Flow)(s':Shared):Prop:=
 match f with
 |.next=>∃σ' H',Inv X pins σ' H' s'/\D.nx σ' H'
 |.brk=>∃σ' H',Inv X pins σ' H' s'/\D.bk σ' H'
 |.cont=>∃σ' H',Inv X pins σ' H' s'/\D.ct σ' H'
 |.ret u=>∃v σ' H',Inv X pins σ' H' s'/\RelV v u/\D.rt v H'
noncomputable def PE(X:Cx)(e:Expr)(t:TE):Prop:=
 ∀(pins:List (Addr×Obj)) (s:Shared) (σ:St) (H:Hp) (Q:VK),Inv X pins σ H s->t σ H Q->wpAny (model X.prog X.w) X.A (eval e X.env) (EP X pins σ Q) X.xe s
noncomputable def PT(X:Cx)(e:Expr)(t:TT):Prop:=
 ∀(pins:List (Addr×Obj)) (s:Shared) (σ:St) (H:Hp) (Q:Bool->Hp->Prop),Inv X pins σ H s->t σ H Q->wpAny (model X.prog X.w) X.A (isTrue e X.env (eval e X.env)) (TP X pins σ Q) X.xe s
noncomputable def PW(X:Cx)(e:Expr)(t:TT):Prop:=
 ∀(whole:Sem Value) (pins:List (Addr×Obj)) (s:Shared) (σ:St) (H:Hp) (Q:Bool->Hp->Prop),Inv X pins σ H s->t σ H Q->wpAny (model X.prog X.w) X.A (isTrue e X.env whole) (TP X pins σ Q) X.xe s
theorem PW.pt{X:Cx}{e:Expr}{t:TT}(h:PW X e t):PT X e t:=h _
noncomputable def PA(X:Cx)(es:List Expr)(t:TA):Prop:=
 ∀(pos:Pos) (pins:List (Addr×Obj)) (s:Shared) (σ:St) (H:Hp) (Q:List V->Hp->Prop),Inv X pins σ H s->t σ H Q->wpAny (model X.prog X.w) X.A (spliced (backTo pos (starEach es X.env))) (AP X pins σ Q) X.xe s
noncomputable def PS(X:Cx)(st:Stmt)(t:TS):Prop:=
 ∀(pins:List (Addr×Obj)) (s:Shared) (σ:St) (H:Hp) (D:Ends),Inv X pins σ H s->t D σ H->wpAny (model X.prog X.w) X.A (exec st X.env) (SP X pins D) X.xe s
noncomputable def CN(X:Cx)(st:List Stmt)(t:TS):Prop:=
 ∀(pins:List (Addr×Obj)) (s:Shared) (σ:St) (H:Hp) (D:Ends),Inv X pins σ H s->t D σ H->wpAny (model X.prog X.w) X.A (execs st X.env) (SP X pins D) X.xe s
theorem dF{α:Type}{t:Sem α}{Q Q':α->Shared->Prop}{M:Model}{A:Around}{E:Value->Shared->Prop}{s:Shared}(h:wpAny M A t Q E s)(hQ:∀a s,Q a s->Q' a s):wpAny M A t Q' E s:=wpAny_mono h hQ λ_ _ x=>x
section
variable{X:Cx}
noncomputable def l8(i:Nat):TE:=λσ H Q=>∃v,σ[i]?=some (some v)/\Q v H
noncomputable def tC(v:V):TE:=λ_ H Q=>Q v H
theorem o4{i:Nat}{x:Str}{pos:Pos}(hN:X.N[i]?=some x)(hv:KL X.env.scope x)(hd:(x==("__debug__" :Str))=false:=by decide)(ud:(x==("__classdict__" :Str))=false:=by decide):PE X (.Name x pos) (l8 i):=by
 intro pins s σ H Q I h
 obtain⟨v,e,h⟩:=h
 obtain⟨m,hn,hl⟩:=I.loc
 obtain⟨u,r,l⟩:=hl i x v hN e hv
 have fin:EP X pins σ Q u s:=⟨v,H,I,r,h⟩
 rcases l with⟨hk,hm⟩|⟨hk,c,hc,KO⟩
 ·exact wpAny_Name (wpAny_loadName_local I.ok.kind hk hn hm fin) hd
 ·rcases hk with hk|hk
  ·exact wpAny_Name (wpAny_loadName_cell I.ok.kind hk hc KO fin) hd
  ·exact wpAny_Name (wpAny_loadName_free I.ok.kind hk hc KO fin ud) hd
theorem FC{i j pos}:PE X (.Constant (.int i) j pos) (tC (.int i)):=λ_ _ _ H _ I h=>wpAny_Constant_int ⟨.int i,H,I.tok _,⟨_,rfl⟩,h⟩
theorem OO{b j pos}:PE X (.Constant (.bool b) j pos) (tC (.bl b)):=λ_ _ _ H _ I h=>Constant_bool ⟨.bl b,H,I,rfl,h⟩
theorem LV{x j pos}:PE X (.Constant (.str x) j pos) (tC (.str x)):=λ_ _ _ H _ I h=>Calls.Constant_str ⟨.str x,H,I.tok _,⟨_,rfl⟩,h⟩
noncomputable def Gl(X:Cx)(x:Str):Prop:=X.env.kindOf x=some .globalImplicit
theorem qX{E:Value->Shared->Prop}{pins:List (Addr×Obj)}{s:Shared}{σ:St}{H:Hp}{x:Str}{u:Value}{pos:Pos}{Q:Value->Shared->Prop}(I:Inv X pins σ H s)(hg:Gl X x)(hm:X.mg x=some u)(h:Q u s)
  (hd:(x==("__debug__" :Str))=false:=by decide):wpAny (model X.prog X.w) X.A (eval (.Name x pos) X.env) Q E s:=
 Calls.Name_function_global I.ok.kind hg (Calls.loadGlobal_global (by rw[I.ok.glob];exact I.mod.glob.keeps I.bk) hm h) hd
theorem mJ{E:Value->Shared->Prop}{pins:List (Addr×Obj)}{s:Shared}{σ:St}{H:Hp}{x:Str}{u:Value}{pos:Pos}{Q:Value->Shared->Prop}(I:Inv X pins σ H s)(hg:Gl X x)(hm:X.mg x=none)(hv:bootBuiltins x=some u)(h:Q u s)
  (hn:x≠ "__name__" :=by decide)(hd:(x==("__debug__" :Str))=false:=by decide):wpAny (model X.prog X.w) X.A (eval (.Name x pos) X.env) Q E s:=by
 obtain⟨mb,h1,h2⟩:=I.mod.blt
 exact Calls.Name_function_global I.ok.kind hg (Calls.loadGlobal_builtin (by rw[I.ok.glob];exact I.mod.glob.keeps I.bk) hm (by rw[I.ok.blt];exact h1.keeps I.bk) ((h2 x hn).trans hv) h) hd
theorem vJ{x:Str}{v:V}{u:Value}{pos:Pos}(hg:Gl X x)(hm:X.mg x=some u)(r:RelV v u)(hd:(x==("__debug__" :Str))=false:=by decide):PE X (.Name x pos) (tC v):=
 λ_ _ _ H _ I h=>qX I hg hm ⟨v,H,I,r,h⟩ hd
theorem IZ{x:Str}{v:V}{u:Value}{pos:Pos}(hg:Gl X x)(hm:X.mg x=none)(hv:bootBuiltins x=some u)(r:RelV v u)(hn:x≠ "__name__" :=by decide)(hd:(x==("__debug__" :Str))=false:=by decide):PE X (.Name x pos) (tC v):=
 λ_ _ _ H _ I h=>mJ I hg hm hv ⟨v,H,I,r,h⟩ hn hd
variable{a b:Expr}{ta tb:TE}{pos:Pos}
noncomputable def tB(t:TE):TT:=λσ H Q=>t σ H λx H1=>∃c,x=.bl c/\Q c H1
theorem LW{e:Expr}{t:TE}(h:PE X e t)(he:∀whole,isTrue e X.env whole=(do let v<-whole;standAt e.pos;holding [v] (truthy v)):=by intro _;rfl):PT X e (tB t):=by
 intro pins s σ H Q I hw
 refine isTrue_plain (dF (h pins s σ H _ I hw) λv s1 cL=>?_) (he _)
 obtain⟨x,H1,I1,r1,q1⟩:=cL
 obtain⟨d,rfl,q⟩:=q1
 cases r1
 exact wpAny_truthy_bool ⟨H1,I1,q⟩
variable{tA Rk:TT}{rest:List Expr}
noncomputable def yg(t u:TT):TT:=λσ H Q=>t σ H λc H1=>if c=true then u σ H1 Q else Q false H1
noncomputable def FD(t u:TT):TT:=λσ H Q=>t σ H λc H1=>if c=true then Q true H1 else u σ H1 Q
noncomputable def o5(t:TT):TT:=λσ H Q=>t σ H λc H1=>Q (!c) H1
theorem pw_and1(ha:PT X a tA):PW X (.BoolOp .And [a] pos) tA:=by
 intro wh pins s σ H Q I h
 refine isTrue_and (dF (ha pins s σ H Q I h) λc s1 e=>?_)
 cases c with
 |true=>exact isTrue_and_nil e
 |false=>exact e
theorem pw_or1(ha:PT X a tA):PW X (.BoolOp .Or [a] pos) tA:=by
 intro wh pins s σ H Q I h
 refine isTrue_or (dF (ha pins s σ H Q I h) λc s1 e=>?_)
 cases c with
 |false=>exact isTrue_or_nil e
 |true=>exact e
theorem pw_and(ha:PT X a tA)(hb:PW X (.BoolOp .And (b::rest) pos) Rk):PW X (.BoolOp .And (a::b::rest) pos) (yg tA Rk):=by
 intro wh pins s σ H Q I h
 refine isTrue_and (dF (ha pins s σ H _ I h) λc s1 ⟨H1,I1,q1⟩=>?_)
 cases c with
 |true=>exact hb wh pins s1 σ H1 Q I1 q1
 |false=>exact⟨H1,I1,q1⟩
theorem pw_or(ha:PT X a tA)(hb:PW X (.BoolOp .Or (b::rest) pos) Rk):PW X (.BoolOp .Or (a::b::rest) pos) (FD tA Rk):=by
 intro wh pins s σ H Q I h
 refine isTrue_or (dF (ha pins s σ H _ I h) λc s1 ⟨H1,I1,q1⟩=>?_)
 cases c with
 |true=>exact⟨H1,I1,q1⟩
 |false=>exact hb wh pins s1 σ H1 Q I1 q1
theorem LX(ha:PT X a tA):PT X (.UnaryOp .Not a pos) (o5 tA):=by
 intro pins s σ H Q I h
 exact isTrue_not (ha pins s σ H (λc H1=>Q (!c) H1) I h)
noncomputable def OP(ta tb:TE):TE:=λσ H Q=>ta σ H λx H1=>∃c,x=.bl c/\if c=true then tb σ H1 Q else Q (.bl false) H1
noncomputable def OQ(ta:TE):TE:=λσ H Q=>ta σ H λx H1=>∃c,x=.bl c/\Q (.bl (!c)) H1
theorem LY{op}{t:TE}(h:PE X a t):PE X (.BoolOp op [a] pos) t:=λpins s σ H Q I hw=>BoolOp_one (h pins s σ H Q I hw)
theorem LZ(ha:PE X a ta)(hb:PE X (.BoolOp .And (b::rest) pos) tb):PE X (.BoolOp .And (a::b::rest) pos) (OP ta tb):=by
 intro pins s σ H Q I h
 refine BoolOp_and (dF (ha pins s σ H _ I h) λv s1 cL=>?_)
 obtain⟨x,H1,I1,r1,q1⟩:=cL
 obtain⟨c,rfl,q1⟩:=q1
 cases r1
 refine wpAny_truthy_bool ?_
 cases c with
 |true=>exact hb pins s1 σ H1 Q I1 q1
 |false=>exact⟨.bl false,H1,I1,rfl,q1⟩
theorem L3(ha:PE X a ta):PE X (.UnaryOp .Not a pos) (OQ ta):=by
 intro pins s σ H Q I h
 refine UnaryOp_ (dF (ha pins s σ H _ I h) λv s1 cL=>?_)
 obtain⟨x,H1,I1,r1,q1⟩:=cL
 obtain⟨c,rfl,q1⟩:=q1
 cases r1
 exact not_of (wpAny_truthy_bool ⟨.bl (!c),H1,I1,rfl,q1⟩)
end
noncomputable def gD(K:PySem.W.Frag)(H:Hp)(a:Addr)(xs:List V):Prop:=
 Rd H a (.lst xs)\/
  ∃(o:Obj) (its:Array Value) (n:Nat),K.lookup a=some o/\o.cls=.type "list" /\o.dict=none/\o.data=.seq its n/\its.size<=sizeLine/\Vals xs its.toList
noncomputable def ke(K:PySem.W.Frag)(H:Hp)(a:Addr)(xs:List V):Prop:=
 Rd H a (.tup xs)\/
  ∃(o:Obj) (its:Array Value) (n:Nat),K.lookup a=some o/\o.cls=.type "tuple" /\o.data=.seq its n/\(its.size<=sizeLine/\o.dict=none)/\Vals xs its.toList
noncomputable def R7:Value->Option V
 |.none=>some .non
 |.bool b=>some (.bl b)
 |.int i _=>some (.int i)
 |.str x _=>some (.str x)
 |.bytes b _=>some (.byt b)
 |.float b _=>some (.flt b)
 |.ref a=>some (.ref a)
 |.type n=>some (.ty n)
 |_=>none
theorem RelV.abs{x:V}{u:Value}(r:RelV x u):R7 u=some x:=by
 cases x with
 |non=>cases r;rfl
 |bl _=>cases r;rfl
 |int _=>obtain⟨t,rfl⟩:=r;rfl
 |str _=>obtain⟨t,rfl⟩:=r;rfl
 |byt _=>obtain⟨t,rfl⟩:=r;rfl
 |flt _=>obtain⟨t,rfl⟩:=r;rfl
 |ref _=>cases r;rfl
 |ty _=>cases r;rfl
theorem RelV.inj{x y:V}{u:Value}(r:RelV x u)(q:RelV y u):x=y:=Option.some.inj (r.abs.symm.trans q.abs)
theorem Vals.inj:∀{xs ys:List V} {us:List Value},Vals xs us->Vals ys us->xs=ys
 |_,_,_,.nil,.nil=>rfl
 |_,_,_,.cons r t,.cons r' t'=>by rw[r.inj r',Vals.inj t t']
section
variable{X:Cx}{pins:List (Addr×Obj)}{σ:St}{H:Hp}{s:Shared}{a:Addr}{xs ys:List V}
theorem gD.of{K:PySem.W.Frag}(h:H a=some (.lst xs)):gD K H a xs:=.inl (.inl h)
theorem ke.of{K:PySem.W.Frag}(h:H a=some (.tup xs)):ke K H a xs:=.inl (.inl h)
theorem Inv.list(I:Inv X pins σ H s)(h:gD X.K H a xs):∃its:List Value,Vals xs its/\PlainL s.heap a its.toArray/\xs.length<=sizeLine:=by
 rcases h with h|⟨o,its,n,hk,hc,hd,hs,hz,r⟩
 ·obtain⟨z,its,n,r,e⟩:=h.ok I.dh
  exact⟨its,r,⟨_,n,e,rfl,rfl,rfl⟩,z⟩
 ·refine⟨its.toList,r,⟨o,n,I.kf a o hk,hc,hd,by simpa using hs⟩,?_⟩
  have e:=r.length
  simp only[Array.length_toList]at e
  omega
theorem Inv.tuple(I:Inv X pins σ H s)(h:ke X.K H a xs):∃its:List Value,Vals xs its/\IsTup s.heap a its.toArray/\xs.length<=sizeLine:=by
 rcases h with h|⟨o,its,n,hk,hc,hs,hz,r⟩
 ·obtain⟨z,its,r,p⟩:=h.ok I.dh
  exact⟨its,r,p,z.1⟩
 ·refine⟨its.toList,r,⟨o,I.kf a o hk,hc,n,by simpa using hs⟩,?_⟩
  have e:=r.length
  simp only[Array.length_toList]at e
  omega
theorem Inv.L4(I:Inv X pins σ H s)(h:ke X.K H a xs):Oj s.heap a:=by
 rcases h with h|⟨o,its,n,hk,hc,hs,hz,r⟩
 ·obtain⟨z,its,r,p⟩:=h.ok I.dh
  exact z.2
 ·exact⟨o,I.kf a o hk,hz.2⟩
theorem Oj.new{h:Heap}{its:Array Value}{n:Nat}:Oj (h.push {cls:=.type "tuple",data:=.seq its n}) h.objs.size:=⟨_,Heap.get?_push_size _ rfl,rfl⟩
theorem Inv.kg(I:Inv X pins σ H s)(h:gD X.K H a xs)(h':gD X.K H a ys):xs=ys:=by
 obtain⟨its,r,⟨o,n,e,_,_,d⟩,_⟩:=I.list h
 obtain⟨its',r',⟨o',n',e',_,_,d'⟩,_⟩:=I.list h'
 rw[e]at e';cases e'
 rw[d]at d'
 injection d' with d1 _
 have:its=its':=by simpa using congrArg Array.toList d1
 subst this
 exact r.inj r'
theorem Inv.uT(I:Inv X pins σ H s)(h:ke X.K H a xs)(h':ke X.K H a ys):xs=ys:=by
 obtain⟨its,r,⟨o,e,_,n,d⟩,_⟩:=I.tuple h
 obtain⟨its',r',⟨o',e',_,n',d'⟩,_⟩:=I.tuple h'
 rw[e]at e';cases e'
 rw[d]at d'
 injection d' with d1 _
 have:its=its':=by simpa using congrArg Array.toList d1
 subst this
 exact r.inj r'
end
noncomputable abbrev Cx.ue(X:Cx)(E:Value->Shared->Prop):Cx:={X with xe:=E}
noncomputable abbrev Cx.OS(X:Cx):Cx:=X.ue λ_ _=>False
theorem Cx.Ok.ue{X:Cx}(ok:X.Ok)(E:Value->Shared->Prop):(X.ue E).Ok:=
 ⟨ok.mod,ok.kind,ok.glob,ok.blt,ok.above,ok.inj,ok.has,ok.cab,ok.hd,ok.frames,ok.stk,ok.exf,ok.bs,ok.bsz,ok.noex,ok.exfs,ok.funs,ok.frf⟩
theorem Cx.Ok.kh{X:Cx}{E:Value->Shared->Prop}(ok:(X.ue E).Ok):X.Ok:=
 ⟨ok.mod,ok.kind,ok.glob,ok.blt,ok.above,ok.inj,ok.has,ok.cab,ok.hd,ok.frames,ok.stk,ok.exf,ok.bs,ok.bsz,ok.noex,ok.exfs,ok.funs,ok.frf⟩
section
variable{X:Cx}{pins:List (Addr×Obj)}{σ:St}{H:Hp}{s:Shared}{E:Value->Shared->Prop}
theorem Inv.ue(I:Inv X pins σ H s)(E:Value->Shared->Prop):Inv (X.ue E) pins σ H s:=⟨I.ok.ue E,I.os,I.bare,I.base,I.loc,I.cell,I.free,I.freeC,I.pin,I.dh,I.len⟩
theorem Inv.kh(I:Inv (X.ue E) pins σ H s):Inv X pins σ H s:=⟨I.ok.kh,I.os,I.bare,I.base,I.loc,I.cell,I.free,I.freeC,I.pin,I.dh,I.len⟩
theorem SP.kh{D:Ends}{f:Flow}{s':Shared}(h:SP (X.ue E) pins D f s'):SP X pins D f s':=by
 cases f with
 |next=>obtain⟨σ',H',I,q⟩:=h;exact⟨σ',H',I.kh,q⟩
 |brk=>obtain⟨σ',H',I,q⟩:=h;exact⟨σ',H',I.kh,q⟩
 |cont=>obtain⟨σ',H',I,q⟩:=h;exact⟨σ',H',I.kh,q⟩
 |ret u=>obtain⟨v,σ',H',I,r,q⟩:=h;exact⟨v,σ',H',I.kh,r,q⟩
theorem CN.OS{st:List Stmt}{t:TS}(h:CN X.OS st t):CN X st t:=λpins s σ H D I hw=>
 wpAny_mono (h pins s σ H D (I.ue _) hw) (λ_ _ q=>q.kh) λ_ _ z=>False.elim z
end
section
variable{X:Cx}{st:Stmt}{rest:List Stmt}{t u:TS}{e:Expr}{te:TE}{pos:Pos}
noncomputable def OT:TS:=λD σ H=>D.nx σ H
noncomputable def L5(t u:TS):TS:=λD σ H=>t {D with nx:=u D} σ H
theorem I9:CN X [] OT:=λ_ _ σ H _ I h=>wpAny_execs_nil ⟨σ,H,I,h⟩
theorem yi(h1:PS X st t)(h2:CN X rest u):CN X (st::rest) (L5 t u):=by
 intro pins s σ H D I h
 refine wpAny_execs_cons (dF (h1 pins s σ H {D with nx:=u D} I h) λf s1 q=>?_)
 cases f with
 |next=>
  obtain⟨σ',H',I',q⟩:=q
  exact h2 pins s1 σ' H' D I' q
 |ret v=>exact q
 |brk=>exact q
 |cont=>exact q
theorem lI(h1:PS X st t):CN X [st] t:=by
 intro pins s σ H D I h
 refine wpAny_execs_cons (dF (h1 pins s σ H D I h) λf s1 q=>?_)
 cases f with
 |next=>exact wpAny_execs_nil q
 |ret v=>exact q
 |brk=>exact q
 |cont=>exact q
theorem Inv.quiet{pins:List (Addr×Obj)}{σ:St}{H:Hp}{s:Shared}(I:Inv X pins σ H s):interactive X.env=false:=by simp[interactive,I.ok.kind]
noncomputable def yj(te:TE):TS:=λD σ H=>te σ H λ_ H1=>D.nx σ H1
theorem nP(he:PE X e te)(hs:swapsWith e none pos.line X.env=pure false:=by rfl):PS X (.Expr e pos) (yj te):=by
 intro pins s σ H D I h
 exact wpAny_Expr_any (dF (he pins s σ H _ I h) λv s1 ⟨x,H1,I1,r1,q1⟩=>⟨σ,H1,I1,q1⟩) I.quiet hs
noncomputable def R8(te:TE):TS:=λD σ H=>te σ H D.rt
theorem AY(he:PE X e te):PS X (.Return (some e) pos) (R8 te):=by
 intro pins s σ H D I h
 exact wpAny_Return_some (dF (he pins s σ H _ I h) λv s1 ⟨x,H1,I1,r1,q1⟩=>⟨x,σ,H1,I1,r1,q1⟩)
noncomputable def R9(c:TT)(t u:TS):TS:=λD σ H=>c σ H λb H1=>if b=true then t D σ H1 else u D σ H1
theorem OU{c:Expr}{a b:List Stmt}{tc:TT}(hc:PT X c tc)(ha:CN X a t)(hb:CN X b u):PS X (.If c a b pos) (R9 tc t u):=by
 intro pins s σ H D I h
 refine wpAny_If (dF (hc pins s σ H _ I h) λd s1 ⟨H1,I1,q1⟩=>?_)
 cases d with
 |true=>exact ha pins s1 σ H1 D I1 q1
 |false=>exact hb pins s1 σ H1 D I1 q1
noncomputable def L6:TS:=λ_ _ _=>False
theorem FE:PS X st L6:=λ_ _ _ _ _ _ h=>h.elim
end
noncomputable abbrev TG:=V->St->Hp->(St->Hp->Prop)->Prop
noncomputable abbrev L7:=List V->St->Hp->(St->Hp->Prop)->Prop
noncomputable def PG(X:Cx)(target:Expr)(t:TG):Prop:=
 ∀(pins:List (Addr×Obj)) (s:Shared) (σ:St) (H:Hp) (v:V) (u:Value) (Q:St->Hp->Prop),Inv X pins σ H s->RelV v u->t v σ H Q->
  wpAny (model X.prog X.w) X.A (assign target X.env u) (λ_ s'=>∃σ' H',Inv X pins σ' H' s'/\Q σ' H') X.xe s
noncomputable def OV(X:Cx)(ts:List Expr)(t:L7):Prop:=
 ∀(pins:List (Addr×Obj)) (s:Shared) (σ:St) (H:Hp) (vs:List V) (us:List Value) (Q:St->Hp->Prop),Inv X pins σ H s->Vals vs us->t vs σ H Q->
  wpAny (model X.prog X.w) X.A (assignInOrder ((assignEach ts X.env).map (·.2)) us) (λ_ s'=>∃σ' H',Inv X pins σ' H' s'/\Q σ' H') X.xe s
section
variable{X:Cx}{pos:Pos}
noncomputable def KP(i:Nat):TG:=λv σ H Q=>Q (σ.set i (some v)) H
theorem Ja{i:Nat}{x:Str}(hN:X.N.Nodup)(hi:X.N[i]?=some x)(hx:Loc X.env.scope x)(hf:X.fn x=true\/X.env.scope.names.lookup x=some .local:=by first|exact .inl rfl|exact .inr rfl|assumption):PG X (.Name x pos) (KP i):=by
 intro pins s σ H v u Q I r h
 exact wpAny_assign_Name (rJ I hN hi hx r (λs' I'=>⟨_,H,I',h⟩) hf)
noncomputable def Sa:L7:=λvs σ H Q=>vs=[]/\Q σ H
noncomputable def OW(t:TG)(u:L7):L7:=λvs σ H Q=>∃v r,vs=v::r/\t v σ H λσ' H'=>u r σ' H' Q
theorem CO:OV X [] Sa:=by
 intro pins s σ H vs us Q I r h
 obtain⟨e,h⟩:=h
 subst e
 cases r
 exact assignInOrder_nil ⟨σ,H,I,h⟩
theorem rK{e:Expr}{es:List Expr}{t:TG}{u:L7}(h1:PG X e t)(h2:OV X es u)
  (hs:(assignEach (e::es) X.env).map (·.2)=assign e X.env::(assignEach es X.env).map (·.2):=by rfl):OV X (e::es) (OW t u):=by
 intro pins s σ H vs us Q I r h
 obtain⟨v,vr,e1,h⟩:=h
 subst e1
 cases r with
 |cons r rr=>
  rw[hs]
  refine assignInOrder_cons (dF (h1 pins s σ H _ _ _ I r h) λ_ s1 cL=>?_)
  obtain⟨σ1,H1,I1,q1⟩:=cL
  exact h2 pins s1 σ1 H1 _ _ Q I1 rr q1
noncomputable def Sb(K:PySem.W.Frag)(n:Nat)(t:L7):TG:=λv σ H Q=>∃a xs,v=.ref a/\ke K H a xs/\xs.length=n/\t xs σ H Q
theorem FG{es:List Expr}{k:Nat}{t:L7}{n:Nat}(hc:X.calm=true)(h:OV X es t)
  (hn:(assignEach es X.env).length=n:=by rfl)(AZ:(assignEach es X.env).findIdx? (·.1)=none:=by rfl):PG X (.Tuple es k pos) (Sb X.K n t):=by
 intro pins s σ H v u Q I r hw
 obtain⟨a,xs,e1,hq,hl,hw⟩:=hw
 subst e1
 cases r
 obtain⟨its,rv,ht,hz⟩:=I.tuple hq
 refine assign_Tuple_tuple (I.ok.hd hc) ht (by simp[hn,<-hl,rv.length]) AZ λh' hx=>?_
 have I1:Inv X pins σ H {s with heap:=h'}:=I.kept (t':=s.toks) λb o e=>hx b o (Nat.ne_of_lt (Heap.lt_size e)) e
 exact h pins _ σ H xs _ Q I1 (by simpa using rv) hw
noncomputable def OX(te:TE)(g:TG):TS:=λD σ H=>te σ H λx H1=>g x σ H1 D.nx
theorem L8{tg e:Expr}{te:TE}{g:TG}(he:PE X e te)(hg:PG X tg g)(hs:swapsWithSole [tg] e pos.line X.env=pure false:=by rfl)(hw:swappedStores [tg] e X.env=pure none:=by rfl)
  (h1:(assignEach [tg] X.env).map (·.2)=[assign tg X.env]:=by rfl):PS X (.Assign [tg] e pos) (OX te g):=by
 intro pins s σ H D I h
 refine wpAny_Assign_stores (dF (he pins s σ H _ I h) λv s1 cL=>?_) hs hw
 obtain⟨x,H1,I1,r1,q1⟩:=cL
 rw[h1]
 exact dF (hg pins s1 σ H1 x v _ I1 r1 q1) λ_ s2 q=>q
theorem FH{i:Nat}{x:Str}{e:Expr}{te:TE}{pos':Pos}(hN:X.N.Nodup)(hi:X.N[i]?=some x)(hx:Loc X.env.scope x)(he:PE X e te)(hs:swapsWith e (some (.Name x pos')) pos.line X.env=pure false:=by rfl)(hf:X.fn x=true\/X.env.scope.names.lookup x=some .local:=by first|exact .inl rfl|exact .inr rfl|assumption):
  PS X (.Assign [.Name x pos'] e pos) (OX te (KP i)):=by
 intro pins s σ H D I h
 refine wpAny_Assign_Name (dF (he pins s σ H _ I h) λv s1 cL=>?_) hs
 obtain⟨y,H1,I1,r1,q1⟩:=cL
 exact rJ I1 hN hi hx r1 (λs2 I2=>⟨_,H1,I2,q1⟩) hf
end
section
variable{X:Cx}{pos:Pos}
noncomputable def L9(c:TT)(tb:TS):TS:=λD σ H=>∃W:Nat->St->Hp->Prop,(∃m,W m σ H)/\∀m σ H,W m σ H->
 c σ H λb H1=>if b=true then∃N:St->Hp->Prop,(∀σ' H',N σ' H'->∃m',m'<m/\W m' σ' H')/\tb {D with nx:=N,ct:=N,bk:=D.nx} σ H1 else D.nx σ H1
theorem FI{c:Expr}{body:List Stmt}{tc:TT}{tb:TS}(hp:PassesOwn (model X.prog X.w) X.A X.env X.xe)(hc:PT X c tc)(hb:CN X body tb):PS X (.While c body [] pos) (L9 tc tb):=by
 intro pins s σ H D I h
 obtain⟨W,⟨m0,w0⟩,turn⟩:=h
 refine wpAny_While (codeAny_whileLoop (λn s'=>∃σ' H',Inv X pins σ' H' s'/\W n σ' H') ?_ m0 ⟨σ,H,I,w0⟩)
 rintro n s1 ⟨σ1,H1,I1,w1⟩
 refine wpAny_passesOwn hp (dF (hc pins s1 σ1 H1 _ I1 (turn n σ1 H1 w1)) λb s2 ⟨H2,I2,q2⟩=>?_)
 cases b with
 |true=>
  obtain⟨N,hN,q2⟩:=q2
  rw[if_pos rfl]
  refine wpAny_passesOwn hp (dF (hb pins s2 σ1 H2 _ I2 q2) λf s3 q3=>?_)
  cases f with
  |next=>
   obtain⟨σ3,H3,I3,n3⟩:=q3
   obtain⟨m',hm,w3⟩:=hN σ3 H3 n3
   exact⟨m',hm,σ3,H3,I3,w3⟩
  |cont=>
   obtain⟨σ3,H3,I3,n3⟩:=q3
   obtain⟨m',hm,w3⟩:=hN σ3 H3 n3
   exact⟨m',hm,σ3,H3,I3,w3⟩
  |brk=>exact q3
  |ret v=>exact q3
 |false=>
  rw[if_neg Bool.false_ne_true]
  exact wpAny_execs_nil ⟨σ1,H2,I2,q2⟩
end
structure It where
 go:Nat->Hp->Prop
 yld:Nat->Hp->V->Hp->Prop
 stop:Nat->Hp->Prop
noncomputable def o6(X:Cx)(pins:List (Addr×Obj))(H:Hp)(b:Addr):Prop:=
 H b=none/\b≠X.env.locals/\b∉X.fs/\(b∈X.ex\/X.s₀.heap.objs.size<=b)/\(∀x c,X.env.cells.lookup x=some c->c≠b)/\∀p∈X.pn++pins,p.1≠b
theorem Inv.Jb{X:Cx}{pins:List (Addr×Obj)}{σ:St}{H H':Hp}{s:Shared}{b:Addr}(I:Inv X pins σ H s)(hb:s.heap.objs.size<=b)(hn:H' b=none):o6 X pins H' b:=by
 refine⟨hn,Nat.ne_of_gt (Nat.lt_of_lt_of_le I.lt hb),I.IY hb,.inr (Nat.le_trans I.sz hb),λx c e z=>?_,λp hp z=>?_⟩
 ·obtain⟨v,q⟩:=I.cell x c e
  exact absurd (Nat.lt_of_lt_of_le q.lt (by rw[z];exact hb)) (Nat.lt_irrefl _)
 ·exact absurd (Nat.lt_of_lt_of_le (Heap.lt_size (I.pin p hp).1) (by rw[z];exact hb)) (Nat.lt_irrefl _)
structure Turn(P:Program)(w:World)(K:PySem.W.Frag)(tg:Expr)(J:It)(fp:List Addr)(it:Addr)(tn:Nat->Heap->Prop):Prop where
 mem:it∈fp
 obj:∀i h,tn i h->∀b∈fp,∃o,h.get? b=some o/\∀v,o.data≠.cell v
 keep:∀i h h',tn i h->(∀b∈fp,∀o,h.get? b=some o->h'.get? b=some o)->tn i h'
 item:∀(X:Cx),X.prog=P->X.w=w->X.K=K->X.calm=true->∀(i:Nat) (pins:List (Addr×Obj)) (s:Shared) (σ:St) (H:Hp) (E:Value->Shared->Prop),Inv X pins σ H s->(∀b∈fp,o6 X pins H b)->tn i s.heap->J.go i H->
  wpAny (model P w) X.A (pyNext (.ref it)) (λr s1=>∃u,r=some u/\
   wpAny (model P w) X.A (letOwnedTupleGo tg (.ref it) u) (λ_ s2=>∃x H',Inv X pins σ H' s2/\RelV x u/\J.yld i H x H'/\tn (i+1) s2.heap/\∀b∈fp,H' b=none) E s1) E s
 done:∀(X:Cx),X.prog=P->X.w=w->X.K=K->X.calm=true->∀(i:Nat) (pins:List (Addr×Obj)) (s:Shared) (σ:St) (H:Hp) (E:Value->Shared->Prop),Inv X pins σ H s->(∀b∈fp,o6 X pins H b)->tn i s.heap->J.stop i H->
  wpAny (model P w) X.A (pyNext (.ref it)) (λr s1=>r=none/\Inv X pins σ H s1) E s
 self:∀(A:Around) (i:Nat) (s:Shared) (Q:Value->Shared->Prop) (E:Value->Shared->Prop),tn i s.heap->Q (.ref it) s->wpAny (model P w) A (pyIter (.ref it)) Q E s
noncomputable abbrev TI:=St->Hp->(It->Hp->Prop)->Prop
noncomputable def TH(X:Cx)(pins:List (Addr×Obj))(σ:St)(tg:Expr)(R:It->Hp->Prop)(Rl:Value)(s2:Shared):Prop:=
 ∃(it:Addr) (fp:List Addr) (tn:Nat->Heap->Prop) (J:It) (H':Hp),Rl=.ref it/\Inv X pins σ H' s2/\Turn X.prog X.w X.K tg J fp it tn/\tn 0 s2.heap/\(∀b∈fp,o6 X pins H' b)/\R J H'
noncomputable def PI(X:Cx)(tg iter:Expr)(wi:TI):Prop:=
 ∀(pins:List (Addr×Obj)) (s:Shared) (σ:St) (H:Hp) (R:It->Hp->Prop),Inv X pins σ H s->wi σ H R->
  wpAny (model X.prog X.w) X.A (eval iter X.env) (λv s1=>wpAny (model X.prog X.w) X.A (pyIter v) (TH X pins σ tg R) X.xe s1) X.xe s
theorem FJ{M:Model}{A:Around}{E:Value->Shared->Prop}{s:Shared}{tg:Expr}{it:Addr}{u:Value}{o:Obj}{n:String}{vs:Array Value}{Q:Unit->Shared->Prop}(ho:s.heap.get? it=some o)(hc:o.cls=.type n)(hd:o.data=.fields vs)
  (hn:["enumerate","zip","dict_itemiterator","dict_reverseitemiterator","odict_iterator","itertools.zip_longest","itertools.pairwise"].contains n=false)(hQ:Q () s):wpAny M A (letOwnedTupleGo tg (.ref it) u) Q E s:=by
 unfold letOwnedTupleGo
 cases tg<;>first
  |exact wpAny_pure hQ
  |(cases u<;>first
     |exact wpAny_pure hQ
     |(refine wpAny_bind (wpAny_load ho ?_)
       rw[hc,hd]
       show wpAny M A (if(["enumerate","zip","dict_itemiterator","dict_reverseitemiterator","odict_iterator","itertools.zip_longest","itertools.pairwise"].contains n&&vs[0]?==some (rawInt _))=true then _ else _) Q E s
       rw[if_neg (by intro h;rw[hn,Bool.false_and]at h;cases h)]
       exact wpAny_pure hQ))
noncomputable def Se(K:PySem.W.Frag)(a:Addr):It:=
 ⟨λi H=>∃xs x,gD K H a xs/\xs[i]?=some x,λi H x H'=>H'=H/\∀xs,gD K H a xs->xs[i]?=some x,λi H=>∃xs,gD K H a xs/\xs.length<=i⟩
noncomputable def Sf(K:PySem.W.Frag)(a:Addr):It:=
 ⟨λi H=>∃xs x,ke K H a xs/\xs[i]?=some x,λi H x H'=>H'=H/\∀xs,ke K H a xs->xs[i]?=some x,λi H=>∃xs,ke K H a xs/\xs.length<=i⟩
noncomputable def OY(lo:Int)(n:Nat):It:=⟨λi _=>i<n,λi H x H'=>H'=H/\x=.int (lo+i),λi _=>n<=i⟩
theorem Ee{P:Program}{w:World}{K:PySem.W.Frag}{tg:Expr}(a it:Addr):Turn P w K tg (Se K a) [it] it (λi h=>h.IsListIter it a i) where
 mem:=by simp
 obj:=λi h st b hb=>by
  have e:b=it:=by simpa using hb
  subst e
  obtain⟨o,e,c,d⟩:=st
  exact⟨o,e,λv z=>by rw[d]at z;cases z⟩
 keep:=λi h h' st k=>st.at λo e=>k it (by simp) o e
 item:=by
  intro X hP hw hK hc i pins s σ H E I hf st hg
  subst hP hw hK
  obtain⟨xs,x,hq,hx⟩:=hg
  obtain⟨its,rv,p,hz⟩:=I.list hq
  obtain⟨u,hu,ru⟩:=rv.get hx
  obtain⟨f0,f1,f2,f3,f4,f5⟩:=hf it (by simp)
  refine wpAny_pyNext_list_item st p.isList (x:=u) (by simpa using hu) λh' aN sb=>?_
  have I1:Inv X pins σ H {s with heap:=h'}:=I.turned (t':=s.toks) (λb o hb e=>(sb.2 b hb).trans e) f0 f1 f3 f4 f5
  obtain⟨o,e,c,d⟩:=id aN
  exact⟨u,rfl,FJ (s:={s with heap:=h'}) e c d (by decide) ⟨x,H,I1,ru,⟨rfl,λys hy=>by rw[I.kg hy hq];exact hx⟩,aN,λb hb=>(hf b hb).1⟩⟩
 done:=by
  intro X hP hw hK hc i pins s σ H E I hf st hg
  subst hP hw hK
  obtain⟨xs,hq,hx⟩:=hg
  obtain⟨its,rv,p,hz⟩:=I.list hq
  obtain⟨f0,f1,f2,f3,f4,f5⟩:=hf it (by simp)
  have hl:=rv.length
  exact wpAny_pyNext_list_end (I.ok.hd hc) st p.isList (by simp;omega) λh' eb=>⟨rfl,I.turned (t':=s.toks) (λb o hb e=>eb b o hb e) f0 f1 f3 f4 f5⟩
 self:=λ_ _ _ _ _ st h=>wpAny_pyIter_listiter st h
theorem A0{P:Program}{w:World}{K:PySem.W.Frag}{tg:Expr}(a it:Addr):Turn P w K tg (Sf K a) [it] it (λi h=>h.IsTupleIter it a i) where
 mem:=by simp
 obj:=λi h st b hb=>by
  have e:b=it:=by simpa using hb
  subst e
  obtain⟨o,e,c,d⟩:=st
  exact⟨o,e,λv z=>by rw[d]at z;cases z⟩
 keep:=λi h h' st k=>st.at λo e=>k it (by simp) o e
 item:=by
  intro X hP hw hK hc i pins s σ H E I hf st hg
  subst hP hw hK
  obtain⟨xs,x,hq,hx⟩:=hg
  obtain⟨its,rv,p,hz⟩:=I.tuple hq
  obtain⟨u,hu,ru⟩:=rv.get hx
  obtain⟨f0,f1,f2,f3,f4,f5⟩:=hf it (by simp)
  refine wpAny_pyNext_tuple_item st (show s.heap.IsTuple a its.toArray from p) (x:=u) (by simpa using hu) λh' aN sb=>?_
  have I1:Inv X pins σ H {s with heap:=h'}:=I.turned (t':=s.toks) (λb o hb e=>(sb.2 b hb).trans e) f0 f1 f3 f4 f5
  obtain⟨o,e,c,d⟩:=id aN
  exact⟨u,rfl,FJ (s:={s with heap:=h'}) e c d (by decide) ⟨x,H,I1,ru,⟨rfl,λys hy=>by rw[I.uT hy hq];exact hx⟩,aN,λb hb=>(hf b hb).1⟩⟩
 done:=by
  intro X hP hw hK hc i pins s σ H E I hf st hg
  subst hP hw hK
  obtain⟨xs,hq,hx⟩:=hg
  obtain⟨its,rv,p,hz⟩:=I.tuple hq
  obtain⟨f0,f1,f2,f3,f4,f5⟩:=hf it (by simp)
  have hl:=rv.length
  exact wpAny_pyNext_tuple_end (I.ok.hd hc) st (show s.heap.IsTuple a its.toArray from p) (by simp;omega) λh' eb=>⟨rfl,I.turned (t':=s.toks) (λb o hb e=>eb b o hb e) f0 f1 f3 f4 f5⟩
 self:=λ_ _ _ _ _ st h=>wpAny_pyIter_tupleiter st h
theorem A1{P:Program}{w:World}{K:PySem.W.Frag}{tg:Expr}(it:Addr)(lo:Int)(n:Nat):Turn P w K tg (OY lo n) [it] it (λi h=>IsRangeIter h it (lo+(i:Nat)*1) ((n:Int)-(i:Nat)) 1) where
 mem:=by simp
 obj:=λi h st b hb=>by
  have e:b=it:=by simpa using hb
  subst e
  exact⟨_,st,λv z=>by
   have z':Data.fields _=Data.cell v:=z
   cases z'⟩
 keep:=λi h h' st k=>k it (by simp) _ st
 item:=by
  intro X hP hw hK hc i pins s σ H E I hf st hg
  subst hP hw hK
  obtain⟨f0,f1,f2,f3,f4,f5⟩:=hf it (by simp)
  have W:=Walks.range (prog:=X.prog) (w:=X.w) (I.ok.hd hc) it lo 1 n
  refine W.item i s _ _ hg st λv h' tk hv aN kk=>?_
  obtain⟨t,rfl⟩:=hv
  have I1:Inv X pins σ H {s with heap:=h',toks:=tk}:=I.turned (λb o hb e=>kk b o (by simpa using hb) e) f0 f1 f3 f4 f5
  refine⟨_,rfl,FJ (s:={s with heap:=h',toks:=tk}) (n:= "range_iterator") aN rfl rfl (by decide) ⟨.int (lo+i),H,I1,⟨t,?_⟩,⟨rfl,rfl⟩,aN,λb hb=>(hf b hb).1⟩⟩
  rw[Int.mul_one]
 done:=by
  intro X hP hw hK hc i pins s σ H E I hf st hg
  subst hP hw hK
  obtain⟨f0,f1,f2,f3,f4,f5⟩:=hf it (by simp)
  exact wpAny_pyNext_range_end (I.ok.hd hc) st (by have:n<=i:=hg;omega) λh' eb=>⟨rfl,I.turned (t':=s.toks) (λb o hb e=>eb b o hb e) f0 f1 f3 f4 f5⟩
 self:=λ_ _ _ _ _ st h=>wpAny_pyIter_rangeiter st h
section
variable{X:Cx}{tg:Expr}
noncomputable def OZ(K:PySem.W.Frag)(tl:TE):TI:=λσ H R=>tl σ H λx H1=>∃a,x=.ref a/\(∃xs,gD K H1 a xs)/\R (Se K a) H1
noncomputable def Sg(K:PySem.W.Frag)(tl:TE):TI:=λσ H R=>tl σ H λx H1=>∃a,x=.ref a/\(∃xs,ke K H1 a xs)/\R (Sf K a) H1
theorem CP{l:Expr}{tl:TE}(hl:PE X l tl):PI X tg l (OZ X.K tl):=by
 intro pins s σ H R I h
 refine dF (hl pins s σ H _ I h) λv s1 cL=>?_
 obtain⟨x,H1,I1,r1,q1⟩:=cL
 obtain⟨a,e,⟨xs,hq⟩,q⟩:=q1
 subst e
 cases r1
 obtain⟨its,rv,p,hz⟩:=I1.list hq
 refine wpAny_pyIter_list p.isList ?_
 refine⟨s1.heap.objs.size,[s1.heap.objs.size],_,_,H1,rfl,I1.kept (t':=s1.toks) λb o e=>Heap.get?_push_of_some _ e,Ee a _,⟨_,Heap.get?_push_size _ rfl,rfl,rfl⟩,λb hb=>?_,q⟩
 have e:b=s1.heap.objs.size:=by simpa using hb
 subst e
 exact I1.Jb (Nat.le_refl _) (I1.dh.fresh (Nat.le_refl _))
theorem Ma{l:Expr}{tl:TE}(hl:PE X l tl):PI X tg l (Sg X.K tl):=by
 intro pins s σ H R I h
 refine dF (hl pins s σ H _ I h) λv s1 cL=>?_
 obtain⟨x,H1,I1,r1,q1⟩:=cL
 obtain⟨a,e,⟨xs,hq⟩,q⟩:=q1
 subst e
 cases r1
 obtain⟨its,rv,p,hz⟩:=I1.tuple hq
 refine wpAny_pyIter_tuple (show s1.heap.IsTuple a its.toArray from p) ?_
 refine⟨s1.heap.objs.size,[s1.heap.objs.size],_,_,H1,rfl,I1.kept (t':=s1.toks) λb o e=>Heap.get?_push_of_some _ e,A0 a _,⟨_,Heap.get?_push_size _ rfl,rfl,rfl⟩,λb hb=>?_,q⟩
 have e:b=s1.heap.objs.size:=by simpa using hb
 subst e
 exact I1.Jb (Nat.le_refl _) (I1.dh.fresh (Nat.le_refl _))
theorem FK{pins:List (Addr×Obj)}{σ:St}{H:Hp}{s:Shared}{R:It->Hp->Prop}{E:Value->Shared->Prop}{lo hi:Int}{t u v:Tok}{tk:Nat}(I:Inv X pins σ H s)(h1:-(2^62)<=lo)(h2:lo<2^62)(h3:-(2^62)<=hi)(h4:hi<2^62)
  (q:R (OY lo (hi-lo).toNat) H):wpAny (model X.prog X.w) X.A (pyIter (.ref s.heap.objs.size)) (TH X pins σ tg R) E {s with heap:=s.heap.push {cls:=.type "range",data:=.fields #[.int lo t,.int hi u,.int 1 v]},toks:=tk}:=by
 refine wpAny_pyIter_range (IsRange.new ..) (small_one h1 h2 h3 h4) ?_
 have I1:Inv X pins σ H {s with heap:=s.heap.push {cls:=.type "range",data:=.fields #[.int lo t,.int hi u,.int 1 v]},toks:=tk}:=I.kept λb o e=>Heap.get?_push_of_some _ e
 refine⟨(s.heap.push {cls:=.type "range",data:=.fields #[.int lo t,.int hi u,.int 1 v]}).objs.size,[(s.heap.push {cls:=.type "range",data:=.fields #[.int lo t,.int hi u,.int 1 v]}).objs.size],_,_,H,rfl,
  I1.kept (t':=tk) λb o e=>Heap.get?_push_of_some _ e,A1 _ lo (hi-lo).toNat,?_,λb hb=>?_,q⟩
 ·have e1:lo+((0:Nat):Int)*1=lo:=by simp
  have e2:(((hi-lo).toNat:Nat):Int)-((0:Nat):Int)=Builtin.Range.rangeSize lo hi 1:=by rw[rangeSize_one];split<;>omega
  show IsRangeIter _ _ (lo+((0:Nat):Int)*1) ((((hi-lo).toNat:Nat):Int)-((0:Nat):Int)) 1
  rw[e1,e2]
  exact Heap.get?_push_size _ rfl
 ·have e:b=(s.heap.push {cls:=.type "range",data:=.fields #[.int lo t,.int hi u,.int 1 v]}).objs.size:=by simpa using hb
  subst e
  exact I1.Jb (Nat.le_refl _) (I1.dh.fresh (Nat.le_refl _))
noncomputable def KQ(ta:TA):TI:=λσ H R=>ta σ H λvs H1=>∃j:Int,vs=[.int j]/\-(2^62)<=j/\j<2^62/\R (OY 0 j.toNat) H1
theorem uU{a:Expr}{ta:TA}{p pos:Pos}(hg:Gl X "range")(hm:X.mg "range" =none)(ha:PA X [a] ta)(hs:starEach [a] X.env=[(false,eval a X.env)]:=by rfl):PI X tg (.Call (.Name "range" p) [a] [] pos) (KQ ta):=by
 intro pins s σ H R I h
 refine Call_ (mJ I hg hm boot_range (PyProof.Rows.callWith_type1 (dF (ha pos pins s σ H _ I h) λus s1 cL=>?_) hs rfl))
 obtain⟨vs,H1,I1,r1,q1⟩:=cL
 obtain⟨j,e,q1,q2,q⟩:=q1
 subst e
 cases r1 with
 |cons r rr=>
  cases rr
  obtain⟨t,rfl⟩:=r
  exact call_range_1 (FK I1 (by omega) (by omega) q1 q2 (by simpa using q))
noncomputable def Si(wi:TI)(g:TG)(tb:TS):TS:=λD σ H=>wi σ H λJ H1=>∃W:Nat->Nat->St->Hp->Prop,(∃m,W 0 m σ H1)/\∀i m σ H,W i m σ H->
 (J.stop i H/\D.nx σ H)\/(J.go i H/\∃N:St->Hp->Prop,(∀σ' H',N σ' H'->∃m',m'<m/\W (i+1) m' σ' H')/\∀x H',J.yld i H x H'->g x σ H' λσ2 H2=>tb {D with nx:=N,ct:=N,bk:=D.nx} σ2 H2)
noncomputable def jq(fp:List Addr)(h:Heap):List (Addr×Obj):=fp.filterMap λb=>(h.get? b).map λo=>(b,o)
theorem jr{fp:List Addr}{h:Heap}{b:Addr}{o:Obj}(hb:b∈fp)(e:h.get? b=some o):(b,o)∈jq fp h:=List.mem_filterMap.mpr ⟨b,hb,by rw[e];rfl⟩
theorem uV{fp:List Addr}{h:Heap}{p:Addr×Obj}(hp:p∈jq fp h):p.1∈fp/\h.get? p.1=some p.2:=by
 obtain⟨b,hb,e⟩:=List.mem_filterMap.mp hp
 cases q:h.get? b with
 |none=>rw[q]at e;cases e
 |some o=>
  rw[q]at e
  have e':(b,o)=p:=Option.some.inj e
  subst e'
  exact⟨hb,q⟩
theorem Inv.pinned{pins:List (Addr×Obj)}{σ:St}{H:Hp}{s:Shared}{fp:List Addr}(I:Inv X pins σ H s)(hf:∀b∈fp,o6 X pins H b)(ho:∀b∈fp,∃o,s.heap.get? b=some o/\∀v,o.data≠.cell v):Inv X (pins++jq fp s.heap) σ H s:=
 I.eI λp hp=>(List.mem_append.mp hp).elim (λz=>I.pin p (List.mem_append_right _ z)) λz=>by
  obtain⟨hb,e⟩:=uV z
  obtain⟨f0,f1,f2,_⟩:=hf p.1 hb
  obtain⟨o,e',d⟩:=ho p.1 hb
  rw[e]at e';cases e'
  exact⟨e,f0,f1,f2,d⟩
theorem Inv.nQ{pins pl:List (Addr×Obj)}{σ:St}{H:Hp}{s:Shared}(I:Inv X (pins++pl) σ H s):Inv X pins σ H s:=I.eI λp hp=>I.pin p (List.mem_append_right _ (List.mem_append_left _ hp))
theorem Mb{iter:Expr}{body:List Stmt}{wi:TI}{g:TG}{tb:TS}{pos:Pos}(hp:PassesOwn (model X.prog X.w) X.A X.env X.xe)(hc:X.calm=true)(hi:PI X tg iter wi)(hg:PG X tg g)(hb:CN X body tb)
  (hs:∀x,foldedSetIterable iter X.env x=pure x:=by intro _;rfl):PS X (.For tg iter body [] pos) (Si wi g tb):=by
 intro pins s σ H D I h
 refine wpAny_For (dF (hi pins s σ H _ I h) λv s1 h1=>dF h1 λRl s2 h2=>?_) hs
 obtain⟨it,fp,tn,J,H2,e,I2,T,bJ,f2,W,⟨m0,w0⟩,turn⟩:=h2
 subst e
 have Mc:∀{H':Hp},(∀b∈fp,H' b=none)->∀b∈fp,o6 X pins H' b:=λhn b hb=>⟨hn b hb,(f2 b hb).2⟩
 refine codeAny_forLoop_any (λn s'=>∃i σ' H',Inv X pins σ' H' s'/\tn i s'.heap/\(∀b∈fp,H' b=none)/\W i n σ' H') ?_ m0 ⟨0,σ,H2,I2,bJ,λb hb=>(f2 b hb).1,w0⟩
 rintro n s3 ⟨i,σ3,H3,I3,qY,TJ,w3⟩
 rcases turn i n σ3 H3 w3 with⟨stop,qn⟩|⟨go,N,hN,step⟩
 ·refine wpAny_passesOwn hp (dF (T.done X rfl rfl rfl hc i pins s3 σ3 H3 X.xe I3 (Mc TJ) qY stop) λr s4 ⟨hr,I4⟩=>?_)
  subst hr
  exact wpAny_execs_nil ⟨σ3,H3,I4,qn⟩
 ·refine wpAny_passesOwn hp (dF (T.item X rfl rfl rfl hc i pins s3 σ3 H3 X.xe I3 (Mc TJ) qY go) λr s4 cL=>?_)
  obtain⟨u,hr,h4⟩:=cL
  subst hr
  refine wpAny_passesOwn hp (dF h4 λ_ s5 cL=>?_)
  obtain⟨x,H5,I5,r5,y5,js,Sj⟩:=cL
  have Sk:=I5.pinned (Mc Sj) (T.obj _ _ js)
  refine wpAny_passesOwn hp (dF (hg _ s5 σ3 H5 x u _ Sk r5 (step x H5 y5)) λ_ s6 cL=>?_)
  obtain⟨σ6,H6,I6,q6⟩:=cL
  refine wpAny_passesOwn hp (dF (hb _ s6 σ6 H6 _ I6 q6) λf s7 q7=>?_)
  have again:∀{σ7:St} {H7:Hp},Inv X (pins++jq fp s5.heap) σ7 H7 s7->N σ7 H7->∃m,m<n/\∃i σ' H',Inv X pins σ' H' s7/\tn i s7.heap/\(∀b∈fp,H' b=none)/\W i m σ' H':=λ{σ7 H7} I7 n7=>by
   obtain⟨m',hm,w7⟩:=hN σ7 H7 n7
   refine⟨m',hm,i+1,σ7,H7,I7.nQ,T.keep _ _ _ js λb hb o e=>(I7.pin (b,o) (List.mem_append_right _ (List.mem_append_right _ (jr hb e)))).1,λb hb=>?_,w7⟩
   obtain⟨o,e,d⟩:=T.obj _ _ js b hb
   exact(I7.pin (b,o) (List.mem_append_right _ (List.mem_append_right _ (jr hb e)))).2.1
  cases f with
  |next=>obtain⟨σ7,H7,I7,n7⟩:=q7;exact again I7 n7
  |cont=>obtain⟨σ7,H7,I7,n7⟩:=q7;exact again I7 n7
  |brk=>obtain⟨σ7,H7,I7,q7⟩:=q7;exact⟨σ7,H7,I7.nQ,q7⟩
  |ret v=>obtain⟨x7,σ7,H7,I7,r7,q7⟩:=q7;exact⟨x7,σ7,H7,I7.nQ,r7,q7⟩
end
noncomputable abbrev R2:=V->V->Hp->VK->Prop
noncomputable def lK(X:Cx)(f:Value->Value->Sem Value)(r:R2):Prop:=
 ∀(pins:List (Addr×Obj)) (s:Shared) (σ:St) (H:Hp) (x y:V) (v u:Value) (Q:VK),Inv X pins σ H s->RelV x v->RelV y u->r x y H Q->
  wpAny (model X.prog X.w) X.A (f v u) (EP X pins σ Q) X.xe s
noncomputable def Sl(X:Cx)(f:Value->Sem Value)(r:V->Hp->VK->Prop):Prop:=
 ∀(pins:List (Addr×Obj)) (s:Shared) (σ:St) (H:Hp) (x:V) (v:Value) (Q:VK),Inv X pins σ H s->RelV x v->r x H Q->
  wpAny (model X.prog X.w) X.A (f v) (EP X pins σ Q) X.xe s
noncomputable def gE(X:Cx)(f:Value)(r:List V->Hp->VK->Prop):Prop:=
 ∀(pins:List (Addr×Obj)) (s:Shared) (σ:St) (H:Hp) (xs:List V) (us:List Value) (Q:VK),Inv X pins σ H s->Vals xs us->r xs H Q->
  wpAny (model X.prog X.w) X.A (call f us) (EP X pins σ Q) X.xe s
noncomputable def O0(r:R2)(ta tb:TE):TE:=λσ H Q=>ta σ H λx H1=>tb σ H1 λy H2=>r x y H2 Q
noncomputable def UI(r:V->Hp->VK->Prop)(ta:TE):TE:=λσ H Q=>ta σ H λx H1=>r x H1 Q
noncomputable def rI(C:Int->Int->Prop)(g:Int->Int->V):R2:=λx y H Q=>∃i j,x=.int i/\y=.int j/\C i j/\Q (g i j) H
noncomputable def FL(g:Int->Int->V):R2:=λx y H Q=>∃i j,x=.int i/\y=.int j/\Q (g i j) H
noncomputable def rU(g:Int->V):V->Hp->VK->Prop:=λx H Q=>∃i,x=.int i/\Q (g i) H
section
variable{X:Cx}{a b c:Expr}{ta tb tc:TE}{pos:Pos}
theorem Md(ha:PE X a ta)(hb:PE X b tb){pins:List (Addr×Obj)}{s:Shared}{σ:St}{H:Hp}{R:V->V->Hp->Prop}(I:Inv X pins σ H s)
  (h:ta σ H λx H1=>tb σ H1 λy H2=>R x y H2){Q:Value->Shared->Prop}{f:Value->Value->Sem Value}
  (hf:∀v u s2 x y H2,Inv X pins σ H2 s2->RelV x v->RelV y u->R x y H2->wpAny (model X.prog X.w) X.A (f v u) Q X.xe s2):
  wpAny (model X.prog X.w) X.A (eval a X.env) (λv s₁=>wpAny (model X.prog X.w) X.A (eval b X.env) (λu s₂=>wpAny (model X.prog X.w) X.A (f v u) Q X.xe s₂) X.xe s₁) X.xe s:=by
 refine dF (ha pins s σ H _ I h) λv s1 cL=>?_
 obtain⟨x,H1,I1,r1,q1⟩:=cL
 refine dF (hb pins s1 σ H1 _ I1 q1) λu s2 cL=>?_
 obtain⟨y,H2,I2,r2,q2⟩:=cL
 exact hf v u s2 x y H2 I2 r1 r2 q2
theorem FN{op:Operator}{r:R2}(ho:lK X (binaryOp op) r)(ha:PE X a ta)(hb:PE X b tb):PE X (.BinOp a op b pos) (O0 r ta tb):=by
 intro pins s σ H Q I h
 exact wpAny_BinOp (Md ha hb I h λv u s2 x y H2 I2 rx ry q=>ho pins s2 σ H2 x y v u Q I2 rx ry q)
theorem O1{op:UnaryOp}{r:V->Hp->VK->Prop}(ho:Sl X (unaryOp op) r)(ha:PE X a ta):PE X (.UnaryOp op a pos) (UI r ta):=by
 intro pins s σ H Q I h
 exact UnaryOp_ (dF (ha pins s σ H _ I h) λv s1 ⟨x,H1,I1,r1,q1⟩=>ho pins s1 σ H1 x v Q I1 r1 q1)
theorem O2{f:Value->Value->Sem Value}{C:Int->Int->Prop}{g:Int->Int->Int}
  (rule:∀(i j:Int) (t u:Tok) (s:Shared) (Q:Value->Shared->Prop) (E:Value->Shared->Prop),C i j->Q (.int (g i j) s.toks) {s with toks:=s.toks+1}->wpAny (model X.prog X.w) X.A (f (.int i t) (.int j u)) Q E s):
  lK X f (rI C λi j=>.int (g i j)):=by
 intro pins s σ H x y v u Q I rx ry h
 obtain⟨i,j,rfl,rfl,hc,q⟩:=h
 obtain⟨t,rfl⟩:=rx
 obtain⟨t',rfl⟩:=ry
 exact rule i j t t' s _ _ hc ⟨.int (g i j),H,I.tok _,⟨_,rfl⟩,q⟩
theorem Jc{f:Value->Value->Sem Value}{g:Int->Int->Int}
  (rule:∀(i j:Int) (t u:Tok) (s:Shared) (Q:Value->Shared->Prop) (E:Value->Shared->Prop),Q (.int (g i j) s.toks) {s with toks:=s.toks+1}->wpAny (model X.prog X.w) X.A (f (.int i t) (.int j u)) Q E s):
  lK X f (FL λi j=>.int (g i j)):=by
 intro pins s σ H x y v u Q I rx ry h
 obtain⟨i,j,rfl,rfl,q⟩:=h
 obtain⟨t,rfl⟩:=rx
 obtain⟨t',rfl⟩:=ry
 exact rule i j t t' s _ _ ⟨.int (g i j),H,I.tok _,⟨_,rfl⟩,q⟩
theorem Me{f:Value->Value->Sem Value}{g:Int->Int->Bool}
  (rule:∀(i j:Int) (t u:Tok) (s:Shared) (Q:Value->Shared->Prop) (E:Value->Shared->Prop),Q (.bool (g i j)) s->wpAny (model X.prog X.w) X.A (f (.int i t) (.int j u)) Q E s):
  lK X f (FL λi j=>.bl (g i j)):=by
 intro pins s σ H x y v u Q I rx ry h
 obtain⟨i,j,rfl,rfl,q⟩:=h
 obtain⟨t,rfl⟩:=rx
 obtain⟨t',rfl⟩:=ry
 exact rule i j t t' s _ _ ⟨.bl (g i j),H,I,rfl,q⟩
noncomputable def Sn(i j:Int):Prop:=0<j/\j<1073741824
noncomputable def So(i j:Int):Prop:=0<=j/\j<=1000000/\i.natAbs<2^64
noncomputable def Mf(i j:Int):Prop:=(-(2^64)<i/\i<2^64)\/(-(2^64)<j/\j<2^64)
theorem Mf.ok{i j:Int}(h:Mf i j):IntMulOk i j:=by
 rcases h with⟨h1,h2⟩|⟨h1,h2⟩
 ·exact .of_left (intBits_le_64 h1 h2)
 ·exact .of_right (intBits_le_64 h1 h2)
theorem A2(k:Nat):(0:Int)<=2^k:=by
 rw[two_pow_cast]
 exact Int.natCast_nonneg _
theorem Mh:lK X (binaryOp .Add) (FL λi j=>.int (i+j)):=Jc λ_ _ _ _ _ _ _ q=>add_int q
theorem Mi:lK X (binaryOp .Sub) (FL λi j=>.int (i-j)):=Jc λ_ _ _ _ _ _ _ q=>sub_int q
theorem Mj:lK X (binaryOp .Mult) (rI Mf λi j=>.int (i*j)):=O2 λ_ _ _ _ _ _ _ hc q=>mul_int q hc.ok
theorem Jd:lK X (binaryOp .FloorDiv) (rI Sn λi j=>.int (i/j)):=O2 λi j _ _ _ _ _ hc q=>by
 have h1:(0:Int)<j:=hc.1
 have h2:j<1073741824:=hc.2
 exact floordiv_int (by omega) (by rw[Int.fdiv_eq_ediv_of_nonneg i (by omega)];exact q) (.inl (PyProof.noPylong_small (by omega)))
theorem Ml:lK X (binaryOp .Mod) (rI (λ_ j=>0<j) λi j=>.int (i % j)):=O2 λi j _ _ _ _ _ hc q=>by
 have h1:(0:Int)<j:=hc
 exact mod_int' (by omega) (by rw[Int.fmod_eq_emod_of_nonneg i (by omega)];exact q)
theorem Mm:lK X (binaryOp .LShift) (rI So λi j=>.int (i*2^j.toNat)):=O2 λ_ _ _ _ _ _ _ hc q=>lshift_int_small hc.1 hc.2.1 hc.2.2 q
theorem Mn:lK X (binaryOp .RShift) (rI (λ_ j=>0<=j) λi j=>.int (i/2^j.toNat)):=O2 λi j _ _ _ _ _ hc q=>
 rshift_int hc (by rw[Int.fdiv_eq_ediv_of_nonneg i (A2 _)];exact q)
theorem Mo:lK X (binaryOp .BitAnd) (FL λi j=>.int (Builtin.bitAnd i j)):=Jc λ_ _ _ _ _ _ _ q=>and_int q
theorem O3:lK X (binaryOp .BitOr) (FL λi j=>.int (Builtin.bitOr i j)):=Jc λ_ _ _ _ _ _ _ q=>or_int q
theorem UJ{f:Value->Sem Value}{g:Int->Int}
  (rule:∀(i:Int) (t:Tok) (s:Shared) (Q:Value->Shared->Prop) (E:Value->Shared->Prop),Q (.int (g i) s.toks) {s with toks:=s.toks+1}->wpAny (model X.prog X.w) X.A (f (.int i t)) Q E s):
  Sl X f (rU λi=>.int (g i)):=by
 intro pins s σ H x v Q I rx h
 obtain⟨i,rfl,q⟩:=h
 obtain⟨t,rfl⟩:=rx
 exact rule i t s _ _ ⟨.int (g i),H,I.tok _,⟨_,rfl⟩,q⟩
theorem Mp:Sl X (unaryOp .USub) (rU λi=>.int (-i)):=UJ λ_ _ _ _ _ q=>neg_int q
end
noncomputable def O4:V->V->Bool
 |.non,.non=>true|.non,.int _=>true|.int _,.non=>true|.non,.bl _=>true|.bl _,.non=>true|.non,.str _=>true|.str _,.non=>true
 |.int _,.int _=>true|.bl _,.bl _=>true|.str _,.str _=>true|.byt _,.byt _=>true
 |.int _,.str _=>true|.str _,.int _=>true|.bl _,.str _=>true|.str _,.bl _=>true
 |_,_=>false
noncomputable def UK:R2:=λx y H Q=>O4 x y=true/\Q (.bl (decide (x=y))) H
noncomputable def UL:R2:=λx y H Q=>O4 x y=true/\Q (.bl (!decide (x=y))) H
theorem CQ{i j:Int}:decide (V.int i=V.int j)=(i==j):=by
 rw[Bool.eq_iff_iff]
 simp
theorem FP{i j:Bool}:decide (V.bl i=V.bl j)=(i==j):=by
 rw[Bool.eq_iff_iff]
 simp
theorem CS{i j:Str}:decide (V.str i=V.str j)=(i==j):=by
 rw[Bool.eq_iff_iff]
 simp
theorem CT{i j:Array UInt8}:decide (V.byt i=V.byt j)=(i.toList==j.toList):=by
 rw[Bool.eq_iff_iff]
 cases i
 cases j
 simp
section
variable{X:Cx}{a b c:Expr}{ta tb tc:TE}{pos:Pos}
theorem bH{pins:List (Addr×Obj)}{σ:St}{H:Hp}{s:Shared}{Q:VK}{k k':Bool}(I:Inv X pins σ H s)(q:Q (.bl k) H)(e:k=k'):EP X pins σ Q (.bool k') s:=by
 subst e
 exact⟨.bl k,H,I,rfl,q⟩
theorem O5:lK X (compareOp .Eq) UK:=by
 intro pins s σ H x y v u Q I rx ry h
 obtain⟨hs,q⟩:=h
 cases x with
 |non=>
  cases rx
  cases y with
  |non=>cases ry;exact PySem.EqNone.eq_none_none (bH I q (by simp))
  |bl j=>cases ry;exact PySem.EqNone.eq_none_bool (bH I q (by simp))
  |int j=>obtain⟨t',rfl⟩:=ry;exact PySem.EqNone.eq_none_int (bH I q (by simp))
  |str j=>obtain⟨t',rfl⟩:=ry;exact PySem.EqNone.eq_none_str (bH I q (by simp))
  |_=>exact absurd (show false=true from hs) Bool.false_ne_true
 |bl i=>
  cases rx
  cases y with
  |non=>cases ry;exact PySem.EqNone.eq_bool_none (bH I q (by simp))
  |bl j=>cases ry;exact eq_bool (bH I q FP)
  |str j=>obtain⟨t',rfl⟩:=ry;exact PySem.EqMixed.eq_bool_str (bH I q (by simp))
  |_=>exact absurd (show false=true from hs) Bool.false_ne_true
 |int i=>
  obtain⟨t,rfl⟩:=rx
  cases y with
  |non=>cases ry;exact PySem.EqNone.eq_int_none (bH I q (by simp))
  |int j=>obtain⟨t',rfl⟩:=ry;exact eq_int (bH I q CQ)
  |str j=>obtain⟨t',rfl⟩:=ry;exact PySem.EqMixed.eq_int_str (bH I q (by simp))
  |_=>exact absurd (show false=true from hs) Bool.false_ne_true
 |str i=>
  obtain⟨t,rfl⟩:=rx
  cases y with
  |non=>cases ry;exact PySem.EqNone.eq_str_none (bH I q (by simp))
  |bl j=>cases ry;exact PySem.EqMixed.eq_str_bool (bH I q (by simp))
  |int j=>obtain⟨t',rfl⟩:=ry;exact PySem.EqMixed.eq_str_int (bH I q (by simp))
  |str j=>obtain⟨t',rfl⟩:=ry;exact eq_str (bH I q CS)
  |_=>exact absurd (show false=true from hs) Bool.false_ne_true
 |byt i=>
  obtain⟨t,rfl⟩:=rx
  cases y with
  |byt j=>obtain⟨t',rfl⟩:=ry;exact PySem.W.eq_bytes (bH I q CT)
  |_=>exact absurd (show false=true from hs) Bool.false_ne_true
 |_=>cases y<;>exact absurd (show false=true from hs) Bool.false_ne_true
theorem O6:lK X (compareOp .NotEq) UL:=by
 intro pins s σ H x y v u Q I rx ry h
 obtain⟨hs,q⟩:=h
 cases x with
 |non=>
  cases rx
  cases y with
  |non=>cases ry;exact PySem.EqNone.ne_none_none (bH I q (by simp))
  |bl j=>cases ry;exact PySem.EqNone.ne_none_bool (bH I q (by simp))
  |int j=>obtain⟨t',rfl⟩:=ry;exact PySem.EqNone.ne_none_int (bH I q (by simp))
  |str j=>obtain⟨t',rfl⟩:=ry;exact PySem.EqNone.ne_none_str (bH I q (by simp))
  |_=>exact absurd (show false=true from hs) Bool.false_ne_true
 |bl i=>
  cases rx
  cases y with
  |non=>cases ry;exact PySem.EqNone.ne_bool_none (bH I q (by simp))
  |bl j=>cases ry;exact ne_bool (bH I q (congrArg not FP))
  |str j=>obtain⟨t',rfl⟩:=ry;exact PySem.EqMixed.ne_bool_str (bH I q (by simp))
  |_=>exact absurd (show false=true from hs) Bool.false_ne_true
 |int i=>
  obtain⟨t,rfl⟩:=rx
  cases y with
  |non=>cases ry;exact PySem.EqNone.ne_int_none (bH I q (by simp))
  |int j=>obtain⟨t',rfl⟩:=ry;exact ne_int (bH I q (congrArg not CQ))
  |str j=>obtain⟨t',rfl⟩:=ry;exact PySem.EqMixed.ne_int_str (bH I q (by simp))
  |_=>exact absurd (show false=true from hs) Bool.false_ne_true
 |str i=>
  obtain⟨t,rfl⟩:=rx
  cases y with
  |non=>cases ry;exact PySem.EqNone.ne_str_none (bH I q (by simp))
  |bl j=>cases ry;exact PySem.EqMixed.ne_str_bool (bH I q (by simp))
  |int j=>obtain⟨t',rfl⟩:=ry;exact PySem.EqMixed.ne_str_int (bH I q (by simp))
  |str j=>obtain⟨t',rfl⟩:=ry;exact ne_str (bH I q (congrArg not CS))
  |_=>exact absurd (show false=true from hs) Bool.false_ne_true
 |byt i=>
  obtain⟨t,rfl⟩:=rx
  cases y with
  |byt j=>obtain⟨t',rfl⟩:=ry;exact PySem.W.ne_bytes (bH I q (congrArg not CT))
  |_=>exact absurd (show false=true from hs) Bool.false_ne_true
 |_=>cases y<;>exact absurd (show false=true from hs) Bool.false_ne_true
theorem O7:lK X (compareOp .Lt) (FL λi j=>.bl (decide (i<j))):=Me λ_ _ _ _ _ _ _ q=>lt_int q
theorem O8:lK X (compareOp .Gt) (FL λi j=>.bl (decide (j<i))):=Me λ_ _ _ _ _ _ _ q=>gt_int q
theorem O9:lK X (compareOp .GtE) (FL λi j=>.bl (decide (j<=i))):=Me λ_ _ _ _ _ _ _ q=>ge_int q
theorem lK.or{f:Value->Value->Sem Value}{r r':R2}(h:lK X f r)(h':lK X f r'):lK X f (λx y H Q=>r x y H Q\/r' x y H Q):=by
 intro pins s σ H x y v u Q I rx ry q
 rcases q with q|q
 ·exact h pins s σ H x y v u Q I rx ry q
 ·exact h' pins s σ H x y v u Q I rx ry q
theorem FQ(b:Expr){op:CmpOp}(h:op≠.In:=by decide)(h2:op≠.NotIn:=by decide):behindInMarks op b=false:=by
 have e1:(op==CmpOp.In)=false:=by cases op<;>first|rfl|exact absurd rfl h
 have e2:(op==CmpOp.NotIn)=false:=by cases op<;>first|rfl|exact absurd rfl h2
 cases b<;>simp[behindInMarks,e1,e2]
theorem Je{op:CmpOp}{r:R2}(ho:lK X (compareOp op) r)(ha:PE X a ta)(hb:PE X b tb)(hm:behindInMarks op b=false):PE X (.Compare a [op] [b] pos) (O0 r ta tb):=by
 intro pins s σ H Q I h
 exact wpAny_Compare1 (Md ha hb I h λv u s2 x y H2 I2 rx ry q=>ho pins s2 σ H2 x y v u Q I2 rx ry q) hm
noncomputable def KR(t:TE):TT:=λσ H Q=>t σ H λx H'=>∃k,x=.bl k/\Q k H'
theorem Jf{op:CmpOp}{r:R2}(ho:lK X (compareOp op) r)(ha:PE X a ta)(hb:PE X b tb)(hm:behindInMarks op b=false):PT X (.Compare a [op] [b] pos) (KR (O0 r ta tb)):=by
 intro pins s σ H Q I h
 refine wpAny_isTrue_Compare1 (dF (ha pins s σ H _ I h) λv s1 ⟨x,H1,I1,r1,q1⟩=>dF (hb pins s1 σ H1 _ I1 q1) λu s2 ⟨y,H2,I2,r2,q2⟩=>
  dF (ho pins s2 σ H2 x y v u _ I2 r1 r2 q2) λc s3 ⟨z,H3,I3,r3,k,e,q3⟩=>?_) hm
 subst e
 cases r3
 exact wpAny_truthy_bool ⟨H3,I3,q3⟩
theorem rL:(sizeLine:Nat)<2^63:=by rw[sizeLine_eq];decide
theorem A3:lK X (binaryOp .Add) (λx y H Q=>∃i j,x=.str i/\y=.str j/\i.length+j.length<=sizeLine/\Q (.str (i++j)) H):=by
 intro pins s σ H x y v u Q I rx ry h
 obtain⟨i,j,rfl,rfl,hz,q⟩:=h
 obtain⟨t,rfl⟩:=rx
 obtain⟨t',rfl⟩:=ry
 exact add_str (λt' tk=>⟨.str (i++j),H,I.tok _,⟨_,rfl⟩,q⟩) hz
theorem vals1{x:V}{us:List Value}(r:Vals [x] us):∃u,us=[u]/\RelV x u:=by
 cases r with
 |cons r1 r2=>cases r2;exact⟨_,rfl,r1⟩
theorem vals2{x y:V}{us:List Value}(r:Vals [x,y] us):∃u w',us=[u,w']/\RelV x u/\RelV y w':=by
 cases r with
 |cons r1 r2=>
  cases r2 with
  |cons r3 r4=>cases r4;exact⟨_,_,rfl,r1,r3⟩
theorem vK:gE X (.type "str") (λxs H Q=>∃i,xs=[.int i]/\i.natAbs.log2<1920/\Q (.str (toString i)) H):=by
 intro pins s σ H xs us Q I r h
 obtain⟨i,rfl,hz,q⟩:=h
 obtain⟨u,rfl,t,rfl⟩:=vals1 r
 exact PySem.P.str_of_int hz ⟨.str _,H,I.tok _,⟨_,rfl⟩,q⟩
end
structure A4(h:Heap)(x dx C:Addr)(mA:Str->Option Value):Prop where
 obj:h.get? x=some (PySem.W.instObj C dx)
 ns:h.Ns1 dx mA
 ne:dx≠x
theorem Ef{h:Heap}{dx:Addr}{mA:Str->Option Value}(n:h.Ns1 dx mA):∃od,h.get? dx=some od/\∀name,PySem.W.lookIn name od=some (mA name):=by
 obtain⟨o,es,ep,ho,hd,hk,_,hm⟩:=n
 refine⟨o,ho,λname=>?_⟩
 have e:=hm name
 unfold nsFind findBy at e
 rw[<-Array.find?_toList]at e
 unfold PySem.W.lookIn
 rw[hd]
 dsimp only
 split
 ·rename_i y q
  rw[q]at e
  exact congrArg some e
 ·rename_i q
  rw[q]at e
  have a:es.toList.any (·.refKey)=false:=by
   rw[List.any_eq_false]
   intro y hy
   obtain⟨z,t,uf⟩:=hk y (Array.mem_toList_iff.mp hy)
   simp[DictEntry.refKey,uf]
  have a':¬es.toList.any (·.refKey)=true:=by rw[a];exact Bool.false_ne_true
  rw[if_neg a']
  exact congrArg some e
theorem A4.look{h:Heap}{x dx C:Addr}{mA:Str->Option Value}(I:A4 h x dx C mA):∃od,PySem.W.InstAt h x (PySem.W.instObj C dx) C (some od)/\∀name,PySem.W.lookIn name od=some (mA name):=
 let⟨od,ho,hl⟩:=Ef I.ns
 ⟨od,⟨I.obj,rfl,rfl,ho⟩,hl⟩
section
variable{prog:Program}{w:World}{A:Around}{E:Value->Shared->Prop}{s:Shared}{K:PySem.W.Frag}{x dx C f:Addr}{mA:Str->Option Value}{name:Str}{v:Value}
theorem get_map{expr:Bool}{Q:Value->Shared->Prop}(X:K.In s.heap)(I:A4 s.heap x dx C mA)(hg:PySem.W.plainGet K C name=true)(hh:PySem.W.hasDictIn K C=true)
  (ha:PySem.W.findIn K (.ref C) name=some none)(hv:mA name=some v)(Rm:PySem.W.handedIn v=true)(h:Q v {s with toks:=s.toks+1}):
  wpAny (model prog w) A (getAttr (.ref x) name expr) Q E s:=by
 obtain⟨od,J,hl⟩:=I.look
 exact PySem.W.get_value X J (PySem.W.plainGet_of hg).1 (PySem.W.findObj_own hh ha rfl (by rw[hl,hv])) Rm h
theorem FR{pl:Sem Bool}{Q:Value×List Value->Shared->Prop}(X:K.In s.heap)(I:A4 s.heap x dx C mA)(hg:PySem.W.plainGet K C name=true)
  (hf:PySem.W.findIn K (.ref C) name=some (some (.ref f)))(ht:PySem.W.isFn K (.ref f)=true)(hv:mA name=none)(h:Q (.ref f,[.ref x]) s):
  wpAny (model prog w) A (getMethod (.ref x) name pl) Q E s:=by
 obtain⟨od,J,hl⟩:=I.look
 exact PySem.W.method_fn X J (PySem.W.plainGet_of hg).1 (PySem.W.plainGet_of hg).2 hf (beq_iff_eq.mp ht) (by show(PySem.W.lookIn name od).map (·.isSome)=some false;rw[hl,hv];rfl) h
theorem Jg{ns:List Str}{Q:Unit->Shared->Prop}(X:K.In s.heap)(I:A4 s.heap x dx C mA)
  (hs:PySem.W.findIn K (.ref C) "__setattr__" =some (some (.builtin "object.__setattr__")))(hp:PySem.W.plainOver K C=true)(ht:PySem.W.takerIn K C name=some none)(hh:PySem.W.hasDictIn K C=true)
  (hw:PySem.Within mA ns)(o7:ns.length<=sizeLine)
  (h:∀h',A4 h' x dx C (λy=>if y=name then some v else mA y)->Heap.SameBut dx s.heap h'->Q () {s with heap:=h',toks:=s.toks+2}):
  wpAny (model prog w) A (setAttr (.ref x) name v) Q E s:=by
 obtain⟨od,J,hl⟩:=I.look
 refine PySem.W.set_plain X J hs (PySem.W.osa_open (s:={s with toks:=s.toks+1}) (r:=none) X J hp ht λb=>?_)
 obtain⟨cd,hc,RZ⟩:=PySem.W.any_some hh
 have hx:s.heap.get? x=some ⟨.ref C,some dx,.plain,#[]⟩:=I.obj
 refine wpAny_bind (wpAny_pure (wpAny_bind (wpAny_bind (wpAny_loadPart hx (wpAny_bind (PySem.W.Looks.here (s:={s with toks:=s.toks+1}) (PySem.W.looks_clsIn X hc) ?_))))))
 rw[RZ]
 refine wpAny_pure (a:=some dx) (wpAny_bind (wpAny_pure (wpAny_bind ?_)))
 refine wpAny_nsSet1 (s:={s with toks:=s.toks+1}) I.ns λh' Ro ug=>?_
 obtain⟨oD,V9,Wa,UM,UN,UO⟩:=Ro.count (PySem.Within.cons name v hw)
 refine wpAny_bind (wpAny_lookBehind UM (by rw[UN];exact pastItsLine_dict (Nat.le_trans UO (by rw[List.length_cons];omega))) ?_)
 exact wpAny_pure (h _ ⟨(ug.2 _ (Ne.symm I.ne)).trans I.obj,Ro,I.ne⟩ ug)
theorem FT{R:Result->Shared->Prop}{vs:List Value}{kw:List (Str×Value)}(X:K.In s.heap)(hm:PySem.W.makesIn K C=true)
  (hi:PySem.W.findIn K (.ref C) "__init__" =some (some (.ref f)))(hf:PySem.W.typeIn K (.ref f)=some (.type "function"))
  (h:codeAny (model prog w) (A.under (.builtin "type.__call__" ⟨.ref C::vs,kw⟩)) (.call (.ref f) ⟨.ref (s.heap.objs.size+1)::vs,kw⟩) (PySem.W.InitBack (s.heap.objs.size+1) R)
    {s with heap:=(s.heap.push PySem.W.emptyDict).push (PySem.W.instObj C s.heap.objs.size)}):
  codeAny (model prog w) A (.call (.ref C) ⟨vs,kw⟩) R s:=by
 obtain⟨hh,g,d,t,os⟩:=s
 exact PySem.W.make_core (PySem.W.makes_of X hm) (PySem.W.looks_findIn X hi) (λself=>PySem.W.bind_fn X self hf) (.inl rfl) h
end
noncomputable def l9(f:Str)(v:V):List (Str×V)->List (Str×V)
 |[]=>[(f,v)]
 |(g,x)::r=>if g=f then(g,v)::r else(g,x)::l9 f v r
theorem pZ(f g:Str)(v:V):∀fs:List (Str×V),(l9 f v fs).lookup g=if g=f then some v else fs.lookup g
 |[]=>by
  show List.lookup g [(f,v)]=_
  by_cases h:g=f
  ·have hb:(g==f)=true:=beq_iff_eq.mpr h
   simp only[List.lookup,hb,if_pos h]
  ·have hb:(g==f)=false:=beq_eq_false_iff_ne.mpr h
   simp only[List.lookup,hb,if_neg h]
 |(k,x)::r=>by
  have ih:=pZ f g v r
  rw[show l9 f v ((k,x)::r)=(if k=f then(k,v)::r else(k,x)::l9 f v r)from rfl]
  by_cases hk:k=f
  ·rw[if_pos hk]
   by_cases h:g=k
   ·have hb:(g==k)=true:=beq_iff_eq.mpr h
    simp only[List.lookup,hb,if_pos (h.trans hk)]
   ·have hb:(g==k)=false:=beq_eq_false_iff_ne.mpr h
    simp only[List.lookup,hb,if_neg (λe:g=f=>h (e.trans hk.symm))]
  ·rw[if_neg hk]
   by_cases h:g=k
   ·have hb:(g==k)=true:=beq_iff_eq.mpr h
    simp only[List.lookup,hb,if_neg (λe:g=f=>hk (h.symm.trans e))]
   ·have hb:(g==k)=false:=beq_eq_false_iff_ne.mpr h
    simp only[List.lookup,hb]
    exact ih
theorem o8(f:Str)(v:V):∀fs:List (Str×V),f∈(l9 f v fs).map (·.1)/\∀g,g∈fs.map (·.1)->g∈(l9 f v fs).map (·.1)
 |[]=>⟨by simp[l9],λg h=>by simp at h⟩
 |(k,x)::r=>by
  obtain⟨i1,i2⟩:=o8 f v r
  rw[show l9 f v ((k,x)::r)=(if k=f then(k,v)::r else(k,x)::l9 f v r)from rfl]
  by_cases hk:k=f
  ·rw[if_pos hk]
   subst hk
   exact⟨by simp,λg h=>by simpa using h⟩
  ·rw[if_neg hk]
   refine⟨?_,λg h=>?_⟩
   ·rw[List.map_cons]
    exact List.mem_cons_of_mem _ i1
   ·rw[List.map_cons]at h⊢
    rcases List.mem_cons.mp h with e|e
    ·exact List.mem_cons.mpr (.inl e)
    ·exact List.mem_cons_of_mem _ (i2 g e)
theorem p7(f:Str)(v:V):∀fs:List (Str×V),(l9 f v fs).length<=fs.length+1
 |[]=>by simp[l9]
 |(k,x)::r=>by
  have ih:=p7 f v r
  rw[show l9 f v ((k,x)::r)=(if k=f then(k,v)::r else(k,x)::l9 f v r)from rfl]
  by_cases hk:k=f
  ·rw[if_pos hk,List.length_cons,List.length_cons];omega
  ·rw[if_neg hk,List.length_cons,List.length_cons];omega
theorem ub.some_of{v:V}{o:Option Value}(r:ub (some v) o):∃u,o=some u/\RelV v u:=by
 cases o with
 |none=>exact(show False from r).elim
 |some u=>exact⟨u,rfl,r⟩
theorem ub.none_of{o:Option Value}(r:ub none o):o=none:=by
 cases o with
 |none=>rfl
 |some u=>exact(show False from r).elim
theorem Eg{v:V}{u:Value}(r:RelV v u):PySem.W.handedIn u=true:=by
 cases v with
 |non=>cases(show u=Value.none from r);rfl
 |bl b=>cases(show u=Value.bool b from r);rfl
 |int i=>obtain⟨t,e⟩:=(show∃t,u=Value.int i t from r);cases e;rfl
 |str x=>obtain⟨t,e⟩:=(show∃t,u=Value.str x t from r);cases e;rfl
 |byt b=>obtain⟨t,e⟩:=(show∃t,u=Value.bytes b t from r);cases e;rfl
 |flt b=>obtain⟨t,e⟩:=(show∃t,u=Value.float b t from r);cases e;rfl
 |ref a=>cases(show u=Value.ref a from r);rfl
 |ty n=>cases(show u=Value.type n from r);rfl
section
variable{P:Program}{w:World}{H H':Hp}{h h':Heap}{a C dx:Addr}{fs OK:List (Str×V)}
theorem qZ(dh:qW P w H h)(e:H a=some (.ins C dx fs)):∃mA,A4 h a dx C mA/\(∀f,ub (fs.lookup f) (mA f))/\PySem.Within mA (fs.map (·.1))/\fs.length<=1000/\H dx=some (.own a):=by
 obtain⟨d,z,ne,ob,mA,n,r,q⟩:=(show dU P w H h a (.ins C dx fs)from dh a _ e)
 exact⟨mA,⟨ob,n,ne⟩,r,q,z,d⟩
end
structure A5(K:PySem.W.Frag)(C:Addr):Prop where
 pg:PySem.W.plainGet K C Str.empty=true
 hd:PySem.W.hasDictIn K C=true
 po:PySem.W.plainOver K C=true
 sa:PySem.W.findIn K (.ref C) "__setattr__" =some (some (.builtin "object.__setattr__"))
theorem A5.get{K:PySem.W.Frag}{C:Addr}(c:A5 K C)(f:Str):PySem.W.plainGet K C f=true:=c.pg
noncomputable def eU(K:PySem.W.Frag)(C:Addr)(f:Str):Prop:=PySem.W.findIn K (.ref C) f=some none
theorem eU.Pc{K:PySem.W.Frag}{C:Addr}{f:Str}(n:eU K C f):PySem.W.takerIn K C f=some none:=by
 unfold PySem.W.takerIn
 rw[show PySem.W.findIn K (.ref C) f=some none from n]
 rfl
structure Meth(K:PySem.W.Frag)(C:Addr)(m:Str)(f:Addr):Prop where
 at_:PySem.W.findIn K (.ref C) m=some (some (.ref f))
 fn:PySem.W.isFn K (.ref f)=true
 kp:PySem.W.keepIn K (.ref f)=true
section
variable{X:Cx}{pins:List (Addr×Obj)}{σ:St}{H:Hp}{s:Shared}{a C dx:Addr}{fs:List (Str×V)}{f:Str}{v:V}{A:Around}{E:Value->Shared->Prop}
theorem A6{b:Bool}{Q:Value->Shared->Prop}(I:Inv X pins σ H s)(e:H a=some (.ins C dx fs))(c:A5 X.K C)(n:eU X.K C f)(l:fs.lookup f=some v)
  (h:∀u s',Inv X pins σ H s'->RelV v u->Q u s'):wpAny (model X.prog X.w) A (getAttr (.ref a) f b) Q E s:=by
 obtain⟨mA,O,r,_,_,_⟩:=qZ I.dh e
 obtain⟨u,hu,ru⟩:=ub.some_of (v:=v) (o:=mA f) (by rw[<-l];exact r f)
 exact get_map I.kf O (c.get f) c.hd n hu (Eg ru) (h u _ (I.tok _) ru)
theorem A7{m:Str}{g:Addr}{pl:Sem Bool}{Q:Value×List Value->Shared->Prop}(I:Inv X pins σ H s)(e:H a=some (.ins C dx fs))(c:A5 X.K C)(k:Meth X.K C m g)(l:fs.lookup m=none)
  (h:Q (.ref g,[.ref a]) s):wpAny (model X.prog X.w) A (getMethod (.ref a) m pl) Q E s:=by
 obtain⟨mA,O,r,_,_,_⟩:=qZ I.dh e
 have hn:mA m=none:=ub.none_of (by rw[<-l];exact r m)
 exact FR I.kf O (c.get m) k.at_ k.fn hn h
theorem A8{y:V}{u:Value}{Q:Unit->Shared->Prop}(I:Inv X pins σ H s)(e:H a=some (.ins C dx fs))(c:A5 X.K C)(n:eU X.K C f)(hl:fs.length<1000)(ry:RelV y u)
  (h:∀s',Inv X pins σ (upd H a (.ins C dx (l9 f y fs))) s'->Q () s'):wpAny (model X.prog X.w) A (setAttr (.ref a) f u) Q E s:=by
 obtain⟨mA,O,r,wi,_,ho⟩:=qZ I.dh e
 have hz:(fs.map (·.1)).length<=sizeLine:=by rw[List.length_map,sizeLine_eq];omega
 refine Jg I.kf O c.sa c.po n.Pc c.hd wi hz λh' O' sb=>h _ ?_
 have hd:∃o,h'.get? dx=some o:=let⟨o,_,_,e',_⟩:=O'.ns;⟨o,e'⟩
 refine I.write (x:=a) (e:=dx) (by rw[e];exact True.intro) (.inr ho) (λb q hb z=>(sb.2 b hb).trans z) hd ?_
 refine⟨by rw[aZ O.ne];exact ho,?_,O.ne,O'.obj,_,O'.ns,λg=>?_,λg hg=>?_⟩
 ·have:=p7 f y fs;omega
 ·show ub ((l9 f y fs).lookup g) (if g=f then some u else mA g)
  rw[pZ]
  by_cases q:g=f
  ·rw[if_pos q,if_pos q];exact ry
  ·rw[if_neg q,if_neg q];exact r g
 ·by_cases q:g=f
  ·rw[q];exact(o8 f y fs).1
  ·refine(o8 f y fs).2 g (wi g λz=>hg ?_)
   show(if g=f then some u else mA g)=none
   rw[if_neg q];exact z
theorem Inv.made(I:Inv X pins σ H s):Inv X pins σ (upd (upd H s.heap.objs.size (.own (s.heap.objs.size+1))) (s.heap.objs.size+1) (.ins C s.heap.objs.size []))
  {s with heap:=(s.heap.push PySem.W.emptyDict).push (PySem.W.instObj C s.heap.objs.size)}:=by
 have e1:(s.heap.push PySem.W.emptyDict).get? s.heap.objs.size=some PySem.W.emptyDict:=Heap.get?_push_size s.heap rfl
 have e2:((s.heap.push PySem.W.emptyDict).push (PySem.W.instObj C s.heap.objs.size)).get? (s.heap.objs.size+1)=some (PySem.W.instObj C s.heap.objs.size):=by
  have:=Heap.get?_push_size (s.heap.push PySem.W.emptyDict) (o:=PySem.W.instObj C s.heap.objs.size) rfl
  rwa[Heap.size_push]at this
 have e3:(s.heap.push PySem.W.emptyDict).Ns s.heap.objs.size (λ_=>none):=⟨PySem.W.emptyDict,#[],_,e1,rfl,(λe he=>absurd he (by simp)),λ_=>rfl⟩
 have I1:=I.laid (a:=s.heap.objs.size) (o:=.own (s.heap.objs.size+1)) (h':=s.heap.push PySem.W.emptyDict) (t':=s.toks) (λb u q=>Heap.get?_push_of_some _ q) (Nat.le_refl _) ⟨_,e1⟩
 refine I1.laid (a:=s.heap.objs.size+1) (o:=.ins C s.heap.objs.size []) (t':=s.toks) (λb u q=>Heap.get?_push_of_some _ q) (Nat.le_of_eq (Heap.size_push _ _)) ?_
 have ne:s.heap.objs.size≠s.heap.objs.size+1:=Nat.ne_of_lt (Nat.lt_succ_self _)
 refine⟨by rw[aZ ne,bE],Nat.zero_le _,ne,e2,λ_=>none,(Heap.Ns1.of_empty e3).at λo q=>Heap.get?_push_of_some _ q,λ_=>True.intro,λy hy=>absurd rfl hy⟩
theorem Jh{prog:Program}{w:World}{env:Env}{e:Expr}{f:Str}{pos:Pos}{s:Shared}{Q:Value->Shared->Prop}(hb:attributeBase e f env (eval e env)=eval e env)
  (h:wpAny (model prog w) A (eval e env) (λo s₁=>wpAny (model prog w) A (getAttr o f true) Q E s₁) E s):wpAny (model prog w) A (eval (.Attribute e f pos) env) Q E s:=
 Attribute_any_ h (by rw[arm_eval_Attribute,hb])
end
noncomputable def Sq(K:PySem.W.Frag)(ta:TE)(f:Str):TE:=λσ H Q=>ta σ H λx H1=>∃a C dx fs v,x=.ref a/\H1 a=some (.ins C dx fs)/\A5 K C/\eU K C f/\fs.lookup f=some v/\Q v H1
noncomputable def Ji(K:PySem.W.Frag)(ta tv:TE)(f:Str):TS:=λD σ H=>tv σ H λy H1=>ta σ H1 λx H2=>∃a C dx fs,x=.ref a/\H2 a=some (.ins C dx fs)/\A5 K C/\eU K C f/\fs.length<1000/\
 D.nx σ (upd H2 a (.ins C dx (l9 f y fs)))
section
variable{X:Cx}{o e value:Expr}{f:Str}{pos pos' UP:Pos}{ta tv:TE}
theorem Mq(he:PE X e ta)(hb:attributeBase e f X.env (eval e X.env)=eval e X.env):PE X (.Attribute e f pos) (Sq X.K ta f):=by
 intro pins s σ H Q I h
 refine Jh hb (dF (he pins s σ H _ I h) λu s1 cL=>?_)
 obtain⟨x,H1,I1,rx,a,C,dx,fs,v,ex,ea,c,n,l,q⟩:=cL
 subst ex
 obtain rfl:u=Value.ref a:=rx
 exact A6 I1 ea c n l λu' s2 I2 ru=>⟨v,H1,I2,ru,q⟩
theorem A9(ha:PE X o ta)(hv:PE X value tv)(hs:swapsWith value (some (.Attribute o f pos')) pos.line X.env=pure false):PS X (.Assign [.Attribute o f pos'] value pos) (Ji X.K ta tv f):=by
 intro pins s σ H D I h
 refine plainObj_wpAny_Assign_Attribute (dF (hv pins s σ H _ I h) λu s1 ⟨y,H1,I1,ry,q⟩=>dF (ha pins s1 σ H1 _ I1 q) λov s2 cL=>?_) hs
 obtain⟨x,H2,I2,rx,a,C,dx,fs,ex,ea,c,n,l,q2⟩:=cL
 subst ex
 obtain rfl:ov=Value.ref a:=rx
 exact A8 I2 ea c n l ry λs3 I3=>⟨σ,_,I3,q2⟩
end
section
variable{X:Cx}{pins:List (Addr×Obj)}{σ:St}{H:Hp}{s:Shared}{A:Around}{E:Value->Shared->Prop}{Q:Value->Shared->Prop}{c:Value}{b:Bool}
inductive qB(K:PySem.W.Frag)(H:Hp):V->Value->Prop where
 |non:qB K H .non (.type "NoneType")
 |bl (x:Bool):qB K H (.bl x) (.type "bool")
 |int (i:Int):qB K H (.int i) (.type "int")
 |str (x:Str):qB K H (.str x) (.type "str")
 |flt (x:UInt64):qB K H (.flt x) (.type "float")
 |lst {a:Addr} {xs:List V} (e:H a=some (.lst xs)):qB K H (.ref a) (.type "list")
 |frz {a:Addr} {o:Obj} {xs:List V} (e:H a=some (.frz o (.lst xs))):qB K H (.ref a) (.type "list")
 |tup {a:Addr} {xs:List V} (e:H a=some (.tup xs)):qB K H (.ref a) (.type "tuple")
 |dK {a:Addr} {pY:List (Key×V)} (e:H a=some (.dK pY)):qB K H (.ref a) (.type "dict")
 |dT {a:Addr} {pY:List (List Key×V)} (e:H a=some (.dT pY)):qB K H (.ref a) (.type "dict")
 |ins {a C dx:Addr} {fs:List (Str×V)} (e:H a=some (.ins C dx fs)) (cl:A5 K C) (ha:PySem.W.findIn K (.ref C) "__class__" =some (some (.builtin "object.__class__")))
   (hn:PySem.W.specialIn K (.builtin "object.__class__") "__get__" =some (some (.builtin "getset_descriptor.__get__"))) (Rp:PySem.W.takesIn K (.builtin "object.__class__")=some true)
   (hm:PySem.W.mroIn K C (.type "object")=some true):qB K H (.ref a) (.ref C)
theorem Eh{x:V}{u t:Value}(I:Inv X pins σ H s)(rx:RelV x u)(ty:qB X.K H x t)(e:PySem.W.kitOne X.K t c=some b)(h:∀tk,Q (.bool b) {s with toks:=tk}):
  wpAny (model X.prog X.w) A (call (.builtin "isinstance") [u,c]) Q E s:=by
 cases ty with
 |non=>cases(show u=Value.none from rx);exact PySem.W.kia_one PySem.W.kitx_none I.kf True.intro e (λz=>nomatch z) h
 |bl y=>cases(show u=Value.bool y from rx);exact PySem.W.kia_one PySem.W.kitx_bool I.kf True.intro e (λz=>nomatch z) h
 |int i=>obtain⟨t,q⟩:=(show∃t,u=Value.int i t from rx);cases q;exact PySem.W.kia_one PySem.W.kitx_int I.kf True.intro e (λz=>nomatch z) h
 |str y=>obtain⟨t,q⟩:=(show∃t,u=Value.str y t from rx);cases q;exact PySem.W.kia_one PySem.W.kitx_str I.kf True.intro e (λz=>nomatch z) h
 |flt y=>obtain⟨t,q⟩:=(show∃t,u=Value.float y t from rx);cases q;exact PySem.W.kia_one PySem.W.kitx_float I.kf True.intro e (λz=>nomatch z) h
 |@lst a xs ea=>
  cases(show u=Value.ref a from rx)
  obtain⟨_,_,n,_,h1⟩:=(show dU X.prog X.w H s.heap a (.lst xs)from I.dh a _ ea)
  exact PySem.W.kia_one PySem.W.kitx_list I.kf ⟨_,h1,rfl⟩ e (λz=>nomatch z) h
 |@frz a ob xs ea=>
  cases(show u=Value.ref a from rx)
  obtain⟨_,_,_,n,_,h1⟩:=(show dU X.prog X.w H s.heap a (.frz ob (.lst xs))from I.dh a _ ea)
  exact PySem.W.kia_one PySem.W.kitx_list I.kf ⟨_,h1,rfl⟩ e (λz=>nomatch z) h
 |@tup a xs ea=>
  cases(show u=Value.ref a from rx)
  obtain⟨_,_,_,p⟩:=(show dU X.prog X.w H s.heap a (.tup xs)from I.dh a _ ea)
  obtain⟨o,h1,h2,_⟩:=p
  exact PySem.W.kia_one PySem.W.kitx_tuple I.kf ⟨o,h1,h2⟩ e (λz=>nomatch z) h
 |@dK a pY ea=>
  cases(show u=Value.ref a from rx)
  obtain⟨_,_,vs,_,p⟩:=(show dU X.prog X.w H s.heap a (.dK pY)from I.dh a _ ea)
  obtain⟨o,es,ep,h1,h2,_⟩:=p
  exact PySem.W.kia_one PySem.W.kitx_dict I.kf ⟨o,h1,h2.1⟩ e (λz=>nomatch z) h
 |@dT a pY ea=>
  cases(show u=Value.ref a from rx)
  obtain⟨_,_,xs,_,o,es,ep,h1,h2,_⟩:=(show dU X.prog X.w H s.heap a (.dT pY)from I.dh a _ ea)
  exact PySem.W.kia_one PySem.W.kitx_dict I.kf ⟨o,h1,h2.1⟩ e (λz=>nomatch z) h
 |@ins a C dx fs ea cl ha hn Rp hm=>
  cases(show u=Value.ref a from rx)
  obtain⟨mA,O,_⟩:=qZ I.dh ea
  obtain⟨od,J,_⟩:=O.look
  exact PySem.W.kia_one (PySem.W.kitx_own (cl.get _) cl.hd ha hn Rp hm) I.kf J e (λz=>nomatch z) h
end
structure cx(k:Nat)(A:Around):Prop where
 hd:A.handled=none
 dp:A.depth+3*k+5<recursionLimit
 un:A.units+16*k+200<cLine
theorem cx.mono{j k:Nat}{A:Around}(r:cx k A)(h:j<=k):cx j A:=⟨r.hd,by have:=r.dp;omega,by have:=r.un;omega⟩
theorem cx.deeper{k:Nat}{A:Around}(r:cx (k+1) A)(env:Env):cx k (A.deeper env):=
 ⟨r.hd,by have:=r.dp;show A.depth+1+3*k+5<_;omega,by have:=r.un;show A.units+3+16*k+200<_;omega⟩
theorem cx.in1{k:Nat}{A:Around}(r:cx (k+1) A):cx k A.in1:=
 ⟨r.hd,by have:=r.dp;show A.depth+3*k+5<_;omega,by have:=r.un;show A.units+1+16*k+200<_;omega⟩
theorem Ba{A:Around}{C:Addr}{us:List Value}{kw:List (Str×Value)}:(A.under (.builtin "type.__call__" ⟨.ref C::us,kw⟩)).depth=A.depth+1:=by
 first|rfl|simp[Around.under,Code.weight,Code.isCreation,Code.isGuard,Code.isCaller,Code.frames,Code.isFrame,guardIds]
theorem Bb{A:Around}{C:Addr}{us:List Value}{kw:List (Str×Value)}:(A.under (.builtin "type.__call__" ⟨.ref C::us,kw⟩)).units=A.units+1:=by
 first|rfl|simp[Around.under,Code.cUnits,Code.frames,Code.isFrame]
theorem cx.make{k:Nat}{A:Around}(r:cx (k+1) A)(C:Addr)(us:List Value)(kw:List (Str×Value)):cx k (A.under (.builtin "type.__call__" ⟨.ref C::us,kw⟩)):=
 ⟨r.hd,by have:=r.dp;rw[Ba];omega,by have:=r.un;rw[Bb];omega⟩
theorem cx.depth{k:Nat}{A:Around}(r:cx k A):A.depth<recursionLimit:=by have:=r.dp;omega
theorem cx.units{k:Nat}{A:Around}(r:cx k A):A.units+64<cLine:=by have:=r.un;omega
noncomputable def yk:TA:=λ_ H Q=>Q [] H
noncomputable def jW(ta:TE)(tr:TA):TA:=λσ H Q=>ta σ H λx H1=>tr σ H1 λxs H2=>Q (x::xs) H2
section
variable{X:Cx}{e:Expr}{es:List Expr}{te:TE}{t:TA}{pos:Pos}
theorem bQ:PA X [] yk:=λ_ _ _ _ H Q I h=>Calls.spliced_nil ⟨[],H,I,.nil,h⟩
theorem aP(ha:PE X e te)(hr:PA X es t)(hs:starEach (e::es) X.env=(false,eval e X.env)::starEach es X.env:=by rfl):PA X (e::es) (jW te t):=by
 intro pos pins s σ H Q I h
 rw[hs]
 show wpAny _ _ (spliced ((false,eval e X.env)::backTo pos (starEach es X.env))) _ _ s
 refine Calls.spliced_cons (dF (ha pins s σ H _ I h) λu s1 cL=>?_)
 obtain⟨x,H1,I1,r1,q1⟩:=cL
 exact dF (hr pos pins s1 σ H1 _ I1 q1) λus s2 ⟨xs,H2,I2,r2,q2⟩=>⟨x::xs,H2,I2,.cons r1 r2,q2⟩
noncomputable def Sr(t:TA):TE:=λσ H Q=>t σ H λxs H1=>xs.length<=sizeLine/\∀p,H1 p=none->Q (.ref p) (upd H1 p (.tup xs))
noncomputable def Ss(t:TA):TE:=λσ H Q=>t σ H λxs H1=>xs.length<=sizeLine/\∀p,H1 p=none->Q (.ref p) (upd H1 p (.lst xs))
theorem Mr{x1}(h:PA X es t):PE X (.Tuple es x1 pos) (Sr t):=by
 intro pins s σ H Q I hq
 refine wpAny_Tuple_spliced (dF (h pos pins s σ H _ I hq) λus s1 ⟨xs,H1,I1,r,z,q⟩=>⟨by rw[<-r.length];exact z,?_⟩)
 have hf:H1 s1.heap.objs.size=none:=I1.dh.fresh (Nat.le_refl _)
 refine⟨.ref s1.heap.objs.size,upd H1 s1.heap.objs.size (.tup xs),I1.laid (t':=s1.toks) (λb u e=>Heap.get?_push_of_some _ e) (Nat.le_refl _) ?_,rfl,q _ hf⟩
 exact⟨⟨z,Oj.new⟩,us,r,⟨_,Heap.get?_push_size _ rfl,rfl,_,rfl⟩⟩
theorem Ms(h:PA X es t):PE X (.List es pos) (Ss t):=by
 intro pins s σ H Q I hq
 refine wpAny_List_spliced (dF (h pos pins s σ H _ I hq) λus s1 ⟨xs,H1,I1,r,z,q⟩=>⟨by rw[<-r.length];exact z,?_⟩)
 have hf:H1 s1.heap.objs.size=none:=I1.dh.fresh (Nat.le_refl _)
 refine⟨.ref s1.heap.objs.size,upd H1 s1.heap.objs.size (.lst xs),I1.laid (t':=s1.toks) (λb u e=>Heap.get?_push_of_some _ e) (Nat.le_refl _) ?_,rfl,q _ hf⟩
 exact⟨z,us,0,r,Heap.get?_push_size _ rfl⟩
end
noncomputable abbrev Sp:=List V->Hp->VK->XK->Prop
noncomputable abbrev FU:=List Env->Hp->Shared->XK->Value->Shared->Prop
structure Bc(P:Program)(w:World)(K:PySem.W.Frag)(mg:Str->Option Value)(base:Heap)(A:Around)(outer:List Env)(s:Shared)(H:Hp):Prop where
 frames:A.frames=some outer
 mod:Mod K mg base
 bs:∀b o,base.get? b=some o->s.heap.get? b=some o/\H b=none
 bsz:base.objs.size<=s.heap.objs.size
 funs:s.heap.FunFrames base outer
 frf:∀b∈Ec outer,H b=none
 dh:qW P w H s.heap
 bare:AllBare s.gens
noncomputable def CE(outer:List Env)(P:Program)(w:World)(H:Hp)(s:Shared)(Q:VK)(u:Value)(s':Shared):Prop:=
 ∃v H',s'.os=s.os/\AllBare s'.gens/\Un (Ec outer) [] H H' s.heap s'.heap/\qW P w H' s'.heap/\RelV v u/\Q v H'
noncomputable def CR(CX:FU)(outer:List Env)(P:Program)(w:World)(H:Hp)(s:Shared)(Q:VK)(E:XK)(r:Result)(s':Shared):Prop:=
 match r with
 |.ok (.ret u)=>CE outer P w H s Q u s'
 |.ok _=>False
 |.error e=>CX outer H s E e s'
structure aL(P:Program)(w:World)(K:PySem.W.Frag)(mg:Str->Option Value)(base:Heap)(CX:FU)(k:Nat)(f:Addr)(fd:FuncData)(ps:List Str)(sp:Sp):Prop where
 len:∀vs H Q E,sp vs H Q E->vs.length=ps.length
 run:∀(A:Around) (outer:List Env) (s:Shared) (H:Hp) (args:Args) (us:List Value) (vs:List V) (Q:VK) (E:XK),cx k A->Bc P w K mg base A outer s H->BindsTo s fd args (ps.zip us)->Vals vs us->sp vs H Q E->
  codeAny (model P w) A (.call (.ref f) args) (CR CX outer P w H s Q E) s
theorem aL.mono{P:Program}{w:World}{K:PySem.W.Frag}{mg:Str->Option Value}{base:Heap}{CX:FU}{j k:Nat}{f:Addr}{fd:FuncData}{ps:List Str}{sp:Sp}(F:aL P w K mg base CX j f fd ps sp)(h:j<=k):
 aL P w K mg base CX k f fd ps sp:=⟨F.len,λA outer s H args us vs Q E hr=>F.run A outer s H args us vs Q E (hr.mono h)⟩
theorem Bc.make{P:Program}{w:World}{K:PySem.W.Frag}{mg:Str->Option Value}{base:Heap}{A:Around}{outer:List Env}{s:Shared}{H:Hp}(e:Bc P w K mg base A outer s H)(C:Addr)(us:List Value)(kw:List (Str×Value)):
 Bc P w K mg base (A.under (.builtin "type.__call__" ⟨.ref C::us,kw⟩)) outer s H:=⟨by first|exact e.frames|(simpa[Around.under,Code.envs,Code.isFrame,pushEnvs]using e.frames),e.mod,e.bs,e.bsz,e.funs,e.frf,e.dh,e.bare⟩
section
variable{X:Cx}{pins:List (Addr×Obj)}{σ:St}{H:Hp}{s s':Shared}
theorem Inv.Pd(I:Inv X pins σ H s):Bc X.prog X.w X.K X.mg X.base X.A X.stack s H:=
 ⟨I.ok.frames,I.ok.mod,I.bs,Nat.le_trans I.ok.bsz I.sz,I.stack,I.CM,I.dh,I.bare⟩
theorem Inv.after{Q:VK}{u:Value}(I:Inv X pins σ H s)(h:CE X.stack X.prog X.w H s Q u s'):EP X pins σ Q u s':=by
 obtain⟨v,H',os,bare,un,dh,r,q⟩:=h
 obtain⟨hh,g,d,t,UQ⟩:=s'
 obtain rfl:UQ=s.os:=os
 exact⟨v,H',I.call (h':=hh) (g':=g) (d':=d) (t':=t) (ch:=[]) un dh bare (λb z=>absurd z (by simp)),r,q⟩
end
noncomputable def CU(sp:Sp)(dvs:List V)(E:XK)(t:TA):TE:=λσ H Q=>t σ H λvs H1=>sp (vs++dvs) H1 Q E
noncomputable def KS(C:Addr)(sp:Sp)(dvs:List V)(E:XK)(t:TA):TE:=λσ H Q=>t σ H λvs H1=>∀x dx,H1 x=none->H1 dx=none->dx≠x->
 sp (.ref x::(vs++dvs)) (upd (upd H1 dx (.own x)) x (.ins C dx [])) (λv H2=>v=.non/\Q (.ref x) H2) E
noncomputable def Binds(K:PySem.W.Frag)(fd:FuncData)(ps:List Str)(ds:List Value):Prop:=
 ∀(s:Shared) (us:List Value),K.In s.heap->(us++ds).length=ps.length->BindsTo s fd ⟨us,[]⟩ (ps.zip (us++ds))
theorem Binds.all{K:PySem.W.Frag}{fd:FuncData}{ps:List Str}(h:∀us:List Value,us.length=ps.length->bindArgs fd ⟨us,[]⟩=pure (ps.zip us)):Binds K fd ps []:=λs us _ hl=>by
 rw[List.append_nil]at hl⊢
 exact .of_eq (h us hl)
noncomputable def Passes(CX:FU)(X:Cx)(E:XK):Prop:=∀(pins:List (Addr×Obj)) (σ:St) (H:Hp) (s:Shared) (e:Value) (s':Shared),Inv X pins σ H s->CX X.stack H s E e s'->X.xe e s'
section
variable{X:Cx}{CX:FU}{k:Nat}{f C:Addr}{fd:FuncData}{ps:List Str}{sp:Sp}{dvs:List V}{ds:List Value}{E:XK}{x m:Str}{p pos apos:Pos}{e o:Expr}{es:List Expr}{ta:TE}{t:TA}
theorem vL{pins:List (Addr×Obj)}{σ:St}{H:Hp}{s:Shared}{Q:VK}{us:List Value}{vs:List V}(F:aL X.prog X.w X.K X.mg X.base CX k f fd ps sp)(hr:cx k X.A)(hb:Binds X.K fd ps ds)(hd:Vals dvs ds)(hx:Passes CX X E)
  (I:Inv X pins σ H s)(r:Vals vs us)(h:sp (vs++dvs) H Q E):wpAny (model X.prog X.w) X.A (call (.ref f) us) (EP X pins σ Q) X.xe s:=by
 have r2:Vals (vs++dvs) (us++ds):=r.append hd
 have hl:(us++ds).length=ps.length:=by rw[<-r2.length];exact F.len _ _ _ _ h
 refine wpAny_call (codeAny_mono (F.run X.A X.stack s H ⟨us,[]⟩ (us++ds) (vs++dvs) Q E hr I.Pd (hb s us I.kf hl) r2 h) λr s' hq=>?_)
 cases r with
 |error e=>exact hx pins σ H s e s' I hq
 |ok fl=>
  cases fl with
  |ret u=>exact I.after hq
  |next=>exact False.elim hq
  |brk=>exact False.elim hq
  |cont=>exact False.elim hq
theorem vM(F:aL X.prog X.w X.K X.mg X.base CX k f fd ps sp)(hr:cx k X.A)(hg:Gl X x)(hm:X.mg x=some (.ref f))(hk:PySem.W.keepIn X.K (.ref f)=true)(hb:Binds X.K fd ps ds)(hd:Vals dvs ds)(hx:Passes CX X E)
  (ha:PA X (e::es) t)(rM:(x==("__debug__" :Str))=false:=by decide)(he:starEach (e::es) X.env=(false,eval e X.env)::starEach es X.env:=by rfl)(hpl:(backTo pos (starEach es X.env)).any (·.1)=false:=by rfl):
  PE X (.Call (.Name x p) (e::es) [] pos) (CU sp dvs E t):=by
 intro pins s σ H Q I h
 refine wpAny_Call_Name_kw (qX I hg hm ?_ rM)
 refine PySem.W.callWith_K (h₀:=X.base) I.ok.mod.kin hk (dF (ha pos pins s σ H _ I h) λus s1 ⟨vs,H1,I1,r,q⟩=>⟨I1.kf,?_⟩) he hpl
 exact vL F hr hb hd hx I1 r q
structure Mk(K:PySem.W.Frag)(C f:Addr):Prop where
 makes:PySem.W.makesIn K C=true
 init:PySem.W.findIn K (.ref C) "__init__" =some (some (.ref f))
 fn:PySem.W.isFn K (.ref f)=true
 kp:PySem.W.keepIn K (.ref C)=true
theorem FV{pins:List (Addr×Obj)}{σ:St}{H:Hp}{s:Shared}{Q:VK}{us:List Value}{vs:List V}(M:Mk X.K C f)(F:aL X.prog X.w X.K X.mg X.base CX k f fd ps sp)(hr:cx (k+1) X.A)(hb:Binds X.K fd ps ds)(hd:Vals dvs ds)
  (hx:Passes CX X E)(I:Inv X pins σ H s)(r:Vals vs us)
  (h:∀x dx,H x=none->H dx=none->dx≠x->sp (.ref x::(vs++dvs)) (upd (upd H dx (.own x)) x (.ins C dx [])) (λv H2=>v=.non/\Q (.ref x) H2) E):
  wpAny (model X.prog X.w) X.A (call (.ref C) us) (EP X pins σ Q) X.xe s:=by
 have hq:=h (s.heap.objs.size+1) s.heap.objs.size (I.dh.fresh (Nat.le_succ _)) (I.dh.fresh (Nat.le_refl _)) (Nat.ne_of_lt (Nat.lt_succ_self _))
 have I2:=Inv.made (C:=C) I
 have r2:Vals (V.ref (s.heap.objs.size+1)::(vs++dvs)) (Value.ref (s.heap.objs.size+1)::(us++ds)):=.cons rfl (r.append hd)
 have hl:(Value.ref (s.heap.objs.size+1)::us++ds).length=ps.length:=by
  have e:=r2.length
  rw[F.len _ _ _ _ hq]at e
  exact e.symm
 refine wpAny_call (FT (f:=f) I.kf M.makes M.init (beq_iff_eq.mp M.fn) (codeAny_mono (F.run _ X.stack _ _ ⟨Value.ref (s.heap.objs.size+1)::us,[]⟩ (Value.ref (s.heap.objs.size+1)::(us++ds)) _ _ E (hr.make C us [])
  (I2.Pd.make C us []) (hb _ (Value.ref (s.heap.objs.size+1)::us) I2.kf hl) r2 hq) λr s' Pe=>?_))
 cases r with
 |error e=>exact hx pins σ _ _ e s' I2 Pe
 |ok fl=>
  cases fl with
  |ret u=>
   obtain⟨v,H',I3,rv,ev,q3⟩:=I2.after Pe
   subst ev
   exact⟨rv,⟨V.ref (s.heap.objs.size+1),H',I3,rfl,q3⟩⟩
  |next=>exact False.elim Pe
  |brk=>exact False.elim Pe
  |cont=>exact False.elim Pe
theorem q8(M:Mk X.K C f)(F:aL X.prog X.w X.K X.mg X.base CX k f fd ps sp)(hr:cx (k+1) X.A)(hg:Gl X x)(hm:X.mg x=some (.ref C))(hb:Binds X.K fd ps ds)(hd:Vals dvs ds)(hx:Passes CX X E)
  (ha:PA X (e::es) t)(rM:(x==("__debug__" :Str))=false:=by decide)(he:starEach (e::es) X.env=(false,eval e X.env)::starEach es X.env:=by rfl)(hpl:(backTo pos (starEach es X.env)).any (·.1)=false:=by rfl):
  PE X (.Call (.Name x p) (e::es) [] pos) (KS C sp dvs E t):=by
 intro pins s σ H Q I h
 refine wpAny_Call_Name_kw (qX I hg hm ?_ rM)
 refine PySem.W.callWith_K (h₀:=X.base) I.ok.mod.kin M.kp (dF (ha pos pins s σ H _ I h) λus s1 ⟨vs,H1,I1,r,q⟩=>⟨I1.kf,?_⟩) he hpl
 exact FV M F hr hb hd hx I1 r q
end
noncomputable def PK(X:Cx)(Pf:List Keyword)(t:TA):Prop:=
 ∀(pos:Pos) (pins:List (Addr×Obj)) (s:Shared) (σ:St) (H:Hp) (Q:List V->Hp->Prop),Inv X pins σ H s->t σ H Q->wpAny (model X.prog X.w) X.A (evalAll ((backToKw pos (keywordEach Pf X.env)).map (·.2))) (AP X pins σ Q) X.xe s
section
variable{X:Cx}{CX:FU}{k:Nat}{f C:Addr}{fd:FuncData}{ps ks:List Str}{sp:Sp}{E:XK}{x m:Str}{p pos apos kpos:Pos}{e o:Expr}{es:List Expr}{Pf:List Keyword}{te ta:TE}{t tk:TA}{nm:Option Str}
theorem Mu:PK X [] yk:=λ_ _ _ _ H Q I h=>wpAny_evalAll_nil ⟨[],H,I,.nil,h⟩
theorem Jj(ha:PE X e te)(hr:PK X Pf t):PK X (⟨nm,e,kpos⟩::Pf) (jW te t):=by
 intro pos pins s σ H Q I h
 show wpAny _ _ (evalAll ((do let v<-eval e X.env;standAt pos;pure v)::(backToKw pos (keywordEach Pf X.env)).map (·.2))) _ _ s
 refine wpAny_evalAll_cons (wpAny_bind (dF (ha pins s σ H _ I h) λu s1 ⟨x,H1,I1,r1,q1⟩=>wpAny_bind (wpAny_standAt (wpAny_pure ?_))))
 exact dF (hr pos pins s1 σ H1 _ I1 q1) λus s2 ⟨xs,H2,I2,r2,q2⟩=>⟨x::xs,H2,I2,.cons r1 r2,q2⟩
variable{g:List Value->List Value->List Value}{gV:List V->List V->List V}
end
structure aT(N P:List Str)(sc:Scope):Prop where
 kind:sc.kind=.function
 co:sc.isCoroutine=false
 gen:sc.isGenerator=false
 nd:N.Nodup
 pre:N.take P.length=P
 par:∀x∈P,sc.names.lookup x=some .local\/sc.names.lookup x=some .cell
 nofree:∀y∈sc.names,y.2≠.free
theorem uW{kindOf:Str->Option NameKind}{x:Str}:∀{binds:List (Str×Value)} {m:Str->Option Value},(∀v,(x,v)∉binds)->bindL kindOf binds m x=m x
 |[],_,_=>rfl
 |(n,v)::r,m,h=>by
  unfold bindL
  rw[uW λw hw=>h w (List.mem_cons_of_mem _ hw)]
  split
  ·have:x≠n:=by rintro rfl;exact h v List.mem_cons_self
   simp[this]
  ·rfl
theorem uX{kindOf:Str->Option NameKind}{x:Str}:∀{binds:List (Str×Value)} {m:Str->Option Value},(∀v,(x,v)∉binds)->bindC kindOf binds m x=m x
 |[],_,_=>rfl
 |(n,v)::r,m,h=>by
  unfold bindC
  rw[uX λw hw=>h w (List.mem_cons_of_mem _ hw)]
  split
  ·rfl
  ·have:x≠n:=by rintro rfl;exact h v List.mem_cons_self
   simp[this]
theorem uY{kindOf:Str->Option NameKind}{x:Str}{v:Value}:∀{P:List Str} {vs:List Value} {i:Nat} {m:Str->Option Value},P.Nodup->P[i]?=some x->vs[i]?=some v->kindOf x=some .local->
  bindL kindOf (P.zip vs) m x=some v
 |[],_,_,_,_,h,_,_=>by simp at h
 |_::_,[],_,_,_,_,h,_=>by simp at h
 |p::P,w::vs,0,m,nd,h1,h2,hk=>by
  simp at h1 h2;subst h1;subst h2
  show bindL kindOf ((p,w)::P.zip vs) m p=_
  unfold bindL
  rw[uW λv hv=>(List.nodup_cons.mp nd).1 (List.of_mem_zip hv).1,if_pos hk]
  simp
 |p::P,w::vs,i+1,m,nd,h1,h2,hk=>by
  show bindL kindOf ((p,w)::P.zip vs) m x=_
  unfold bindL
  exact uY (i:=i) (List.nodup_cons.mp nd).2 (by simpa using h1) (by simpa using h2) hk
theorem uZ{kindOf:Str->Option NameKind}{x:Str}{v:Value}:∀{P:List Str} {vs:List Value} {i:Nat} {m:Str->Option Value},P.Nodup->P[i]?=some x->vs[i]?=some v->kindOf x≠some .local->
  bindC kindOf (P.zip vs) m x=some v
 |[],_,_,_,_,h,_,_=>by simp at h
 |_::_,[],_,_,_,_,h,_=>by simp at h
 |p::P,w::vs,0,m,nd,h1,h2,hk=>by
  simp at h1 h2;subst h1;subst h2
  show bindC kindOf ((p,w)::P.zip vs) m p=_
  unfold bindC
  rw[uX λv hv=>(List.nodup_cons.mp nd).1 (List.of_mem_zip hv).1,if_neg hk]
  simp
 |p::P,w::vs,i+1,m,nd,h1,h2,hk=>by
  show bindC kindOf ((p,w)::P.zip vs) m x=_
  unfold bindC
  exact uZ (i:=i) (List.nodup_cons.mp nd).2 (by simpa using h1) (by simpa using h2) hk
noncomputable def start(N:List Str)(vs:List V):St:=vs.map some++List.replicate (N.length-vs.length) none
noncomputable def Bd(CX:FU)(P:Program)(w:World)(K:PySem.W.Frag)(mg:Str->Option Value)(base:Heap)(N:List Str)(qual:Str)(scope:Scope)(f:Addr)(cd:Value)(A:Around)(outer:List Env)(s:Shared)(H:Hp)(E:XK):Cx where
 prog:=P
 w:=w
 K:=K
 mg:=mg
 base:=base
 A:=A.deeper (envOfC qual scope s.heap.objs.size f cd)
 N:=N
 s₀:=s
 H₀:=H
 env:=envOfC qual scope s.heap.objs.size f cd
 outer:=outer
 stack:=envOfC qual scope s.heap.objs.size f cd::outer
 ex:=[]
 calm:=true
 fn:=λ_=>true
 pn:=[]
 xe:=λe s'=>wpAny (model P w) (A.deeper (envOfC qual scope s.heap.objs.size f cd)) (leaving (envOfC qual scope s.heap.objs.size f cd) e) (λ_ Pg=>CX outer H s E e Pg) (λe' Pg=>CX outer H s E e' Pg) s'
theorem ym{sc:Scope}{n:Nat}{x:Str}(h:sc.names.lookup x=some .cell):∃c,(cellsFrom n sc.names []).lookup x=some c:=by
 have q:=PySem.W.cellsFrom_some sc.names n [] (.inl h)
 exact Option.isSome_iff_exists.mp q
theorem Ei{CX:FU}{P:Program}{w:World}{K:PySem.W.Frag}{mg:Str->Option Value}{base:Heap}{N ps:List Str}{qual:Str}{scope:Scope}{f:Addr}{cd:Value}{A:Around}{outer:List Env}{s s1:Shared}{H:Hp}{E:XK}{us:List Value}{vs:List V}
  (S:aT N ps scope)(hd:A.handled=none)(e0:Bc P w K mg base A outer s H)(hl:vs.length=ps.length)(r:Vals vs us)
  (x:InCallC s s.heap.objs.size (bindL (envOfC qual scope s.heap.objs.size f cd).kindOf (ps.zip us) λ_=>none) (cellsFrom (s.heap.objs.size+1) scope.names []) (bindC (envOfC qual scope s.heap.objs.size f cd).kindOf (ps.zip us) λ_=>none) s1):
  Inv (Bd CX P w K mg base N qual scope f cd A outer s H E) [] (start N vs) H s1:=by
 have hpl:ps.length<=N.length:=by have:=congrArg List.length S.pre;rw[List.length_take]at this;omega
 obtain⟨h1,tk,rfl,hk⟩:=x.done
 have Ph:∀b:Addr,b∉(Bd CX P w K mg base N qual scope f cd A outer s H E).ex:=λb z=>absurd (show b∈([]:List Addr)from z) (by simp)
 refine⟨⟨e0.mod,S.kind,rfl,rfl,Nat.le_refl _,λy z c h1 h2=>?_,λy hy=>?_,λy c _ h=>?_,λ_=>hd,Around.frames_deeper e0.frames,.inr ⟨rfl,rfl⟩,λb z=>absurd z (Ph b),e0.bs,e0.bsz,λb _ _=>Ph b,λb z=>absurd z (Ph b),e0.funs,e0.frf⟩,
  rfl,e0.bare,Un.kept hk,⟨_,x.toInCall.ns,λi y v h1 h2 h3=>?_⟩,λy c h=>⟨_,x.cell y c h⟩,e0.dh.fresh (Nat.le_refl _),λy c h=>?_,λp hp=>absurd (show p∈([]:List (Addr×Obj))from hp) (by simp),e0.dh.kept hk,?_⟩
 ·exact name_of_addr x.apart (PySem.mem_of_lookup h1) (PySem.mem_of_lookup h2)
 ·have hy:scope.names.lookup y=some .cell\/scope.names.lookup y=some .free:=hy
  rcases hy with hy|hy
  ·exact ym hy
  ·exact absurd rfl (S.nofree _ (PySem.mem_of_lookup hy))
 ·exact Nat.le_of_lt (x.above y c (PySem.mem_of_lookup h))
 ·have hi:i<vs.length:=by
    unfold start at h2
    by_cases hi:i<vs.length
    ·exact hi
    ·rw[List.getElem?_append_right (by simpa using hi)]at h2
     rw[List.getElem?_replicate]at h2
     split at h2<;>cases h2
  have ha:vs[i]?=some v:=by
   unfold start at h2
   rw[List.getElem?_append_left (by simpa using hi),List.getElem?_map]at h2
   cases e:vs[i]? with
   |none=>rw[e]at h2;cases h2
   |some a=>rw[e]at h2;cases h2;rfl
  obtain⟨u,hu,rv⟩:=r.get ha
  have hp:ps[i]?=some y:=by
   rw[<-S.pre,List.getElem?_take_of_lt (by omega)];exact h1
  have TK:ps.Nodup:=by rw[<-S.pre];exact S.nd.sublist (List.take_sublist _ _)
  refine⟨u,rv,?_⟩
  rcases S.par y (List.mem_of_getElem? hp)with k|k
  ·exact .inl ⟨k,uY TK hp hu k⟩
  ·obtain⟨c,e⟩:=ym (n:=s.heap.objs.size+1) k
   refine .inr ⟨.inl k,c,e,?_⟩
   have q:=x.cell y c e
   rw[uZ TK hp hu (by show scope.names.lookup y≠_;rw[k];decide)]at q
   exact q
 ·exact e0.dh.fresh (Nat.le_of_lt (x.above y c (PySem.mem_of_lookup h)))
 ·unfold start
  show _=N.length
  rw[List.length_append,List.length_map,List.length_replicate]
  omega
theorem Pj{CX:FU}{P:Program}{w:World}{K:PySem.W.Frag}{mg:Str->Option Value}{base:Heap}{k:Nat}{f:Addr}{name qual:Str}{params:Arguments}{body:List Stmt}{scope:Scope}{dV kV doc pm d8 ct oc:Value}{an od:Option Addr}
  {KU:Array (Option Value)}{N ps:List Str}{sp:Sp}(lk:K.lookup f=some ⟨oc,od,.func (PySem.W.fnOf name qual params body scope dV kV doc pm an d8 ct),KU⟩)(ud:PySem.W.codeIn K d8 qual=true)(S:aT N ps scope)
  (len:∀vs H Q E,sp vs H Q E->vs.length=ps.length)
  (FW:∀(A:Around) (outer:List Env) (s:Shared) (H:Hp) (vs:List V) (Q:VK) (E:XK),cx k (A.deeper (envOfC qual scope s.heap.objs.size f d8))->sp vs H Q E->
    ∃t,CN (Bd CX P w K mg base N qual scope f d8 A outer s H E) body t/\t {nx:=λ_ H'=>Q .non H',rt:=Q} (start N vs) H):
  aL P w K mg base CX (k+1) f (PySem.W.fnOf name qual params body scope dV kV doc pm an d8 ct) ps sp:=by
 refine⟨len,λA outer s H args us vs Q E hr e0 hb r KW=>?_⟩
 have hl:=len _ _ _ _ KW
 have KX:K.In s.heap:=e0.mod.kin.keeps λb o e=>(e0.bs b o e).1
 have lim:s.heap.NoLimit:=e0.mod.nolimit.keeps λb o e=>(e0.bs b o e).1
 have Pk:∀y∈ps.zip us,scope.names.lookup y.1=some .local\/(scope.names.lookup y.1=some .cell/\((cellsFrom (s.heap.objs.size+1) scope.names []).lookup y.1).isSome=true):=λ⟨n,v⟩ hy=>by
  rcases S.par n (List.of_mem_zip hy).1 with q|q
  ·exact .inl q
  ·exact .inr ⟨q,PySem.W.cellsFrom_some _ _ _ (.inl q)⟩
 refine codeAny_call_function hr.depth (KX _ _ lk) rfl S.co S.gen rfl (PySem.W.codeRec_of KX ud) (hb _ _ _ _ ?_)
 refine wpAny_newFunctionEnv_cells S.kind Pk λenv he s1 x=>?_
 subst he
 refine⟨lim.keeps x.toInCall.keep,codeAny_func ?_⟩
 obtain⟨t,ht,hq⟩:=FW A outer s H vs Q E (hr.deeper _) KW
 have I:Inv (Bd CX P w K mg base N qual scope f d8 A outer s H E) [] (start N vs) H s1:=Ei S hr.hd e0 hl r x
 refine wpAny_mono (ht [] s1 (start N vs) H _ I hq) (λfl s' hs=>?_) λe s' hs=>hs
 have fin:∀{σ':St} {H':Hp} {v:V} {u:Value},Inv (Bd CX P w K mg base N qual scope f d8 A outer s H E) [] σ' H' s'->RelV v u->Q v H'->CE outer P w H s Q u s':=
  λ{σ' H' v u} J rv q=>⟨v,H',J.os,J.bare,J.base,J.dh,rv,q⟩
 cases fl with
 |ret u=>
  obtain⟨v,σ',H',J,rv,q⟩:=hs
  exact fin J rv q
 |next=>
  obtain⟨σ',H',J,q⟩:=hs
  exact fin (v:=V.non) (u:=Value.none) J rfl q
 |brk=>
  obtain⟨_,_,_,q⟩:=hs
  exact False.elim q
 |cont=>
  obtain⟨_,_,_,q⟩:=hs
  exact False.elim q
section
variable{X:Cx}{x:Str}{p pos:Pos}{e:Expr}{es:List Expr}{t:TA}{id T:String}{r:List V->Hp->VK->Prop}
noncomputable def Rq(r:List V->Hp->VK->Prop)(t:TA):TE:=λσ H Q=>t σ H λvs H1=>r vs H1 Q
theorem i9(hc:gE X (.builtin id) r)(hg:Gl X x)(hm:X.mg x=none)(hv:bootBuiltins x=some (.builtin id))(ha:PA X (e::es) t)(hn:x≠ "__name__" :=by decide)(rM:(x==("__debug__" :Str))=false:=by decide)
  (he:starEach (e::es) X.env=(false,eval e X.env)::starEach es X.env:=by rfl)(hpl:(backTo pos (starEach es X.env)).any (·.1)=false:=by rfl):PE X (.Call (.Name x p) (e::es) [] pos) (Rq r t):=by
 intro pins s σ H Q I h
 refine wpAny_Call_Name_kw (mJ I hg hm hv ?_ hn rM)
 exact PyProof.Rows.callWith_builtin1 (dF (ha pos pins s σ H _ I h) λus s1 ⟨vs,H1,I1,r1,q1⟩=>hc pins s1 σ H1 vs us Q I1 r1 q1) he hpl
theorem lL(hc:gE X (.type T) r)(hg:Gl X x)(hm:X.mg x=none)(hv:bootBuiltins x=some (.type T))(ha:PA X (e::es) t)(hn:x≠ "__name__" :=by decide)(rM:(x==("__debug__" :Str))=false:=by decide)
  (he:starEach (e::es) X.env=(false,eval e X.env)::starEach es X.env:=by rfl)(hpl:(backTo pos (starEach es X.env)).any (·.1)=false:=by rfl):PE X (.Call (.Name x p) (e::es) [] pos) (Rq r t):=by
 intro pins s σ H Q I h
 refine wpAny_Call_Name_kw (mJ I hg hm hv ?_ hn rM)
 exact PyProof.Rows.callWith_type1 (dF (ha pos pins s σ H _ I h) λus s1 ⟨vs,H1,I1,r1,q1⟩=>hc pins s1 σ H1 vs us Q I1 r1 q1) he hpl
end
end L2
namespace HT
open PySem PyProof.Rows
noncomputable def lexLt:List Int->List Int->Bool
 |[],[]=>false
 |[],_::_=>true
 |_::_,[]=>false
 |x::xs,y::ys=>if x=y then lexLt xs ys else decide (x<y)
theorem mK(x y:Int)(xs ys:List Int):lexLt (x::xs) (y::ys)=if x=y then lexLt xs ys else decide (x<y):=rfl
theorem uh:lexLt [] []=false:=rfl
theorem rN(y:Int)(ys:List Int):lexLt [] (y::ys)=true:=rfl
theorem rO(x:Int)(xs:List Int):lexLt (x::xs) []=false:=rfl
theorem FX(A:Around)(s:Shared)(a:Int)(t:Tok)(c:Int)(u:Tok):∃e,SeqAt.EqAt A s (.int a t) (.int c u) e/\(e=true↔a=c):=
 ⟨(a==c),SeqAt.EqAt.int_int a t c u,by simp⟩
theorem FY(A:Around)(s:Shared)(a:Int)(t:Tok)(c:Int)(u:Tok)(prog:Program)(w:World)(E:Value->Shared->Prop)(Q:Value->Shared->Prop)(h:Q (.bool (decide (a<c))) s):
  wpAny (model prog w) A (richCompare .Lt (.int a t) (.int c u)) Q E s:=
 (PyProof.Rows.lt_int h:wpAny (model prog w) A (compareOp .Lt (.int a t) (.int c u)) Q E s)
section
variable{prog:Program}{w:World}{A:Around}{E:Value->Shared->Prop}{s:Shared}
noncomputable def AV(n d:Nat):Option Int->Nat
 |none=>d
 |some v=>if v<0 then(v+(n:Int)).toNat else min v.toNat n
end
end HT
namespace L2
open PySem PySem.Spec PyProof.Rows
noncomputable abbrev TO:=St->Hp->(Option Int->Hp->Prop)->Prop
noncomputable def PO(X:Cx)(e:Option Expr)(t:TO):Prop:=
 ∀(pins:List (Addr×Obj)) (s:Shared) (σ:St) (H:Hp) (Q:Option Int->Hp->Prop),Inv X pins σ H s->t σ H Q->
  wpAny (model X.prog X.w) X.A (evalPart e X.env) (λu s'=>∃o H',Inv X pins σ H' s'/\IsPart u o/\Q o H') X.xe s
noncomputable def Jk:TO:=λ_ H Q=>Q none H
noncomputable def Pl(t:TE):TO:=λσ H Q=>t σ H λx H1=>∃i,x=.int i/\Q (some i) H1
theorem intsAre_of{ns:List Int}:∀{us:List Value},Vals (ns.map V.int) us->IntsAre us ns:=by
 induction ns with
 |nil=>intro us r;rw[List.map_nil]at r;cases r;exact .nil
 |cons n ns ih=>
  intro us r
  rw[List.map_cons]at r
  cases r with
  |cons r1 r2=>
   obtain⟨t,e⟩:=r1
   subst e
   exact .cons n t (ih r2)
section
variable{X:Cx}{e:Expr}{te:TE}{lo hi:Option Expr}{tl th:TO}{pos p2:Pos}
theorem Jl:PO X none Jk:=by
 intro pins s σ H Q I h
 rw[evalPart_none]
 exact wpAny_pure ⟨none,H,I,.none,h⟩
theorem Jm(h:PE X e te):PO X (some e) (Pl te):=by
 intro pins s σ H Q I hw
 rw[evalPart_some]
 refine dF (h pins s σ H _ I hw) λu s1 cL=>?_
 obtain⟨x,H1,I1,r1,q1⟩:=cL
 obtain⟨i,rfl,q⟩:=q1
 obtain⟨t,rfl⟩:=r1
 exact⟨some i,H1,I1,.int i t,q⟩
noncomputable def Mv(X:Cx)(r:V->Option Int->Option Int->Hp->VK->Prop):Prop:=
 ∀(pins:List (Addr×Obj)) (s:Shared) (σ:St) (H:Hp) (x:V) (v vl vu:Value) (lo hi:Option Int) (sl:Addr) (Q:VK),Inv X pins σ H s->RelV x v->s.heap.IsSliceOf sl vl vu .none->IsPart vl lo->IsPart vu hi->r x lo hi H Q->
  ∃T id,typeLookup (.type T) "__getitem__" =pure (some (.builtin id))/\s.TypeIs v T/\wpAny (model X.prog X.w) X.A (getItem v (.ref sl)) (EP X pins σ Q) X.xe s
theorem Mv.or{r r':V->Option Int->Option Int->Hp->VK->Prop}(h:Mv X r)(h':Mv X r'):Mv X (λx lo hi H Q=>r x lo hi H Q\/r' x lo hi H Q):=by
 intro pins s σ H x v vl vu lo hi sl Q I rx hs pl pu q
 rcases q with q|q
 ·exact h pins s σ H x v vl vu lo hi sl Q I rx hs pl pu q
 ·exact h' pins s σ H x v vl vu lo hi sl Q I rx hs pl pu q
noncomputable def UR(r:V->Option Int->Option Int->Hp->VK->Prop)(te:TE)(tl th:TO):TE:=λσ H Q=>te σ H λx H1=>tl σ H1 λl H2=>th σ H2 λu H3=>r x l u H3 Q
theorem yn{r:V->Option Int->Option Int->Hp->VK->Prop}(hr:Mv X r)(he:PE X e te)(hl:PO X lo tl)(hu:PO X hi th):PE X (.Subscript e (.Slice lo hi none p2) pos) (UR r te tl th):=by
 intro pins s σ H Q I h
 refine Subscript_ (dF (he pins s σ H _ I h) λv s1 cL=>?_)
 obtain⟨x,H1,I1,r1,q1⟩:=cL
 refine wpAny_Slice (dF (hl pins s1 σ H1 _ I1 q1) λvl s2 ⟨l,H2,I2,pl,q2⟩=>dF (hu pins s2 σ H2 _ I2 q2) λvu s3 cL=>?_)
 obtain⟨u,H3,I3,pu,q3⟩:=cL
 rw[evalPart_none]
 refine wpAny_pure ?_
 have I4:Inv X pins σ H3 {s3 with heap:=s3.heap.push {cls:=.type "slice",data:=.fields #[vl,vu,.none]}}:=I3.kept (t':=s3.toks) λb ob q=>Heap.get?_push_of_some _ q
 obtain⟨T,id,hT,ht,hg⟩:=hr pins {s3 with heap:=s3.heap.push {cls:=.type "slice",data:=.fields #[vl,vu,.none]}} σ H3 x v vl vu l u s3.heap.objs.size Q I4 r1 (Heap.IsSliceOf.new ..) pl pu q3
 show wpAny (model X.prog X.w) X.A (subscriptTail e (.Slice lo hi none p2) v (.ref s3.heap.objs.size)) (EP X pins σ Q) X.xe {s3 with heap:=s3.heap.push {cls:=.type "slice",data:=.fields #[vl,vu,.none]}}
 exact tail_any (ops:=[.ref s3.heap.objs.size,v]) ht hT hg (by with_unfolding_all rfl)
noncomputable def Ej(xs:List V)(lo hi:Option Int):List V:=(xs.drop (HT.AV xs.length 0 lo)).take (HT.AV xs.length xs.length hi-HT.AV xs.length 0 lo)
theorem yo(xs:List V)(lo hi:Option Int):(Ej xs lo hi).length<=xs.length:=by
 unfold Ej
 rw[List.length_take,List.length_drop]
 omega
end
noncomputable def Rt(n:Nat)(i:Int):Option Nat:=if 0<=i then(if i<n then some i.toNat else none)else if-(n:Int)<=i then some (i+n).toNat else none
noncomputable def Mw{α:Type}(xs:List α)(i:Int):Option α:=(Rt xs.length i).bind λj=>xs[j]?
theorem Jo{n:Nat}{i:Int}{j:Nat}(h:Rt n i=some j):seqIndex? i n=some j/\j<n/\-(n:Int)<=i/\i<n:=by
 unfold Rt at h
 by_cases h0:0<=i
 ·rw[if_pos h0]at h
  by_cases h1:i<n
  ·rw[if_pos h1]at h
   have e:i.toNat=j:=Option.some.inj h
   exact⟨by rw[seqIndex_of h0 h1,e],by omega,by omega,h1⟩
  ·rw[if_neg h1]at h;cases h
 ·rw[if_neg h0]at h
  by_cases h1:-(n:Int)<=i
  ·rw[if_pos h1]at h
   have e:(i+n).toNat=j:=Option.some.inj h
   exact⟨by rw[seqIndex_neg (by omega) h1,e],by omega,h1,by omega⟩
  ·rw[if_neg h1]at h;cases h
theorem vN{α:Type}{xs:List α}{i:Int}{v:α}(h:Mw xs i=some v):∃j,seqIndex? i xs.length=some j/\xs[j]?=some v/\j<xs.length/\-(xs.length:Int)<=i/\i<xs.length:=by
 unfold Mw at h
 cases e:Rt xs.length i with
 |none=>rw[e]at h;cases h
 |some j=>
  rw[e]at h
  obtain⟨h1,h2,h3,h4⟩:=Jo e
  exact⟨j,h1,h,h2,h3,h4⟩
noncomputable def CV(b:Expr):Prop:=∀o i,subscripted b false o i=operate [o,i] (getItem o i)
noncomputable def Jp(X:Cx)(r:R2):Prop:=
 ∀(value slice:Expr) (pins:List (Addr×Obj)) (s:Shared) (σ:St) (H:Hp) (x y:V) (v u:Value) (Q:VK),Inv X pins σ H s->RelV x v->RelV y u->r x y H Q->
  subscripted slice false v u=operate [v,u] (getItem v u)->wpAny (model X.prog X.w) X.A (subscriptTail value slice v u) (EP X pins σ Q) X.xe s
noncomputable def Oo(X:Cx)(id:String)(r:V->List V->Hp->VK->Prop):Prop:=
 ∀(pins:List (Addr×Obj)) (s:Shared) (σ:St) (H:Hp) (x:V) (xs:List V) (v:Value) (us:List Value) (Q:VK),Inv X pins σ H s->RelV x v->Vals xs us->r x xs H Q->
  wpAny (model X.prog X.w) X.A (call (.builtin id) (v::us)) (EP X pins σ Q) X.xe s
section
variable{X:Cx}{a b:Expr}{ta tb:TE}{pos:Pos}
theorem Jp.or{r r':R2}(h:Jp X r)(h':Jp X r'):Jp X (λx y H Q=>r x y H Q\/r' x y H Q):=by
 intro value slice pins s σ H x y v u Q I rx ry q hs
 rcases q with q|q
 ·exact h value slice pins s σ H x y v u Q I rx ry q hs
 ·exact h' value slice pins s σ H x y v u Q I rx ry q hs
theorem Pm{r:R2}(hr:Jp X r)(ha:PE X a ta)(hb:PE X b tb)(hs:CV b):PE X (.Subscript a b pos) (O0 r ta tb):=by
 intro pins s σ H Q I h
 exact Subscript_ (Md ha hb I h λv u s2 x y H2 I2 rx ry q=>hr a b pins s2 σ H2 x y v u Q I2 rx ry q (hs _ _))
noncomputable def Pn(K:PySem.W.Frag):R2:=λx y H Q=>∃p xs i v,x=.ref p/\y=.int i/\gD K H p xs/\Mw xs i=some v/\Q v H
noncomputable def Po(K:PySem.W.Frag):R2:=λx y H Q=>∃p xs i v,x=.ref p/\y=.int i/\ke K H p xs/\Mw xs i=some v/\Q v H
noncomputable def Pp:R2:=λx y H Q=>∃z i c,x=.str z/\y=.int i/\z.length<=sizeLine/\Mw z.cps.toList i=some c/\Q (.str ⟨#[c]⟩) H
theorem Jq:Jp X (Pn X.K):=by
 intro value slice pins s σ H x y v u Q I rx ry h hs
 obtain⟨p,xs,i,z,rfl,rfl,hq,he,q⟩:=h
 cases rx
 obtain⟨t,rfl⟩:=ry
 obtain⟨its,r,pl,hz⟩:=I.list hq
 obtain⟨j,h1,h2,h3,h4,h5⟩:=vN he
 obtain⟨w,ew,Su⟩:=r.get h2
 have hl:=r.length
 have hn:=rL
 have fin:EP X pins σ Q w s:=⟨z,H,I,Su,q⟩
 by_cases h0:0<=i
 ·have hj:i.toNat=j:=by
    rw[seqIndex_of h0 h5]at h1
    exact Option.some.inj h1
  exact item_listR pl.isList h0 (by omega) (by rw[hj];simpa using ew) fin hs
 ·have hj:(i+(its.toArray.size:Int)).toNat=j:=by
    rw[seqIndex_neg (by omega) h4]at h1
    rw[List.size_toArray,<-hl]
    exact Option.some.inj h1
  exact subscriptTail_builtinR (x:=w) pl.isList.typeIs slot_list_getitem.lookup
   (wpAny_getItem_list_neg (Q:=λr s'=>r=w/\EP X pins σ Q r s') pl.isList (by omega) (by rw[List.size_toArray]<;>omega) (by omega) (by rw[hj];simpa using ew) ⟨rfl,fin⟩) hs
theorem Mx:Jp X (Po X.K):=by
 intro value slice pins s σ H x y v u Q I rx ry h hs
 obtain⟨p,xs,i,z,rfl,rfl,hq,he,q⟩:=h
 cases rx
 obtain⟨t,rfl⟩:=ry
 obtain⟨its,r,pl,hz⟩:=I.tuple hq
 obtain⟨j,h1,h2,h3,h4,h5⟩:=vN he
 obtain⟨w,ew,Su⟩:=r.get h2
 have hl:=r.length
 have hn:=rL
 have fin:EP X pins σ Q w s:=⟨z,H,I,Su,q⟩
 exact subscriptTail_builtinR (x:=w) pl.typeIs slot_tuple_getitem.lookup
  (getItem_tuple (j:=j) (Q:=λr s'=>r=w/\EP X pins σ Q r s') pl (by omega) (by omega) (by rw[List.size_toArray,<-hl];exact h1) (by simpa using ew) ⟨rfl,fin⟩) hs
theorem Mz:Jp X Pp:=by
 intro value slice pins s σ H x y v u Q I rx ry h hs
 obtain⟨z,i,c,rfl,rfl,hz,he,q⟩:=h
 obtain⟨t,rfl⟩:=rx
 obtain⟨t',rfl⟩:=ry
 obtain⟨j,h1,h2,h3,h4,h5⟩:=vN he
 have hl:z.cps.toList.length=z.length:=by simp[Str.length]
 rw[hl]at h1 h4 h5
 have hn:=rL
 exact tail_any (typeIs_str s z t) slot_str_getitem.lookup (getItem_str (c:=c) (by
  have e1:decide (i< -(2^63:Int))=false:=decide_eq_false (by omega)
  have e2:decide (i≥2^63)=false:=decide_eq_false (by omega)
  rw[e1,e2,Bool.or_false]) (by rw[h1];simpa using h2) ⟨.str ⟨#[c]⟩,H,I.tok _,⟨_,rfl⟩,q⟩) hs
noncomputable def US(K:PySem.W.Frag):R2:=λx y H Q=>Pn K x y H Q\/Po K x y H Q\/Pp x y H Q
theorem MA:Jp X (US X.K):=Jq.or (Mx.or Mz)
theorem vO(lo hi:Option Int)(n:Nat):(sliceBounds lo hi none n).1=((HT.AV n 0 lo:Nat):Int)/\(sliceBounds lo hi none n).2.1=((HT.AV n n hi:Nat):Int)/\(sliceBounds lo hi none n).2.2=1:=by
 refine⟨?_,?_,rfl⟩
 ·cases lo with
  |none=>simp[sliceBounds,HT.AV]
  |some i=>
   simp only[sliceBounds,HT.AV,Option.getD_none,show(1:Int)>0 by decide,if_true]
   by_cases h:i<0
   ·simp only[h,if_true]<;>omega
   ·simp only[h,if_false]<;>omega
 ·cases hi with
  |none=>simp[sliceBounds,HT.AV]
  |some i=>
   simp only[sliceBounds,HT.AV,Option.getD_none,show(1:Int)>0 by decide,if_true]
   by_cases h:i<0
   ·simp only[h,if_true]<;>omega
   ·simp only[h,if_false]<;>omega
theorem ui(its:List Value)(lo hi:Option Int):slicePick its.toArray lo hi none=((its.drop (HT.AV its.length 0 lo)).take (HT.AV its.length its.length hi-HT.AV its.length 0 lo)).toArray:=by
 obtain⟨h1,h2,h3⟩:=vO lo hi its.toArray.size
 unfold slicePick
 rw[h1,h2,h3]
 simp only[sliceRange_one,pick_run,List.size_toArray]<;>rfl
noncomputable def Sv(K:PySem.W.Frag):V->Option Int->Option Int->Hp->VK->Prop:=λx lo hi H Q=>∃a xs,x=.ref a/\gD K H a xs/\∀p,H p=none->Q (.ref p) (upd H p (.lst (Ej xs lo hi)))
theorem CW:Mv X (Sv X.K):=by
 intro pins s σ H x v vl vu lo hi sl Q I rx hs pl pu h
 obtain⟨a,xs,rfl,hx,q⟩:=h
 cases rx
 obtain⟨its,r,ht,hz⟩:=I.list hx
 have hlen:=r.length
 refine⟨"list",_,slot_list_getitem.lookup,ht.isList.typeIs,?_⟩
 refine wpAny_getItem_list_slice ht.isList hs pl pu .none (by simp) ?_ (by rw[List.size_toArray]<;>omega)
 rw[ui,<-hlen]
 refine⟨.ref s.heap.objs.size,_,I.laid (t':=s.toks) (o:=.lst (Ej xs lo hi)) (λb ob q=>Heap.get?_push_of_some _ q) (Nat.le_refl _) ?_,rfl,q _ (I.dh.fresh (Nat.le_refl _))⟩
 exact⟨Nat.le_trans (yo xs lo hi) hz,_,0,(r.drop (HT.AV xs.length 0 lo)).take (HT.AV xs.length xs.length hi-HT.AV xs.length 0 lo),Heap.get?_push_size _ rfl⟩
noncomputable def gF:V->Bool
 |.non=>true
 |.bl _=>true
 |.int _=>true
 |.str _=>true
 |_=>false
noncomputable def Fx:V->V->Bool
 |.non,.non=>true
 |.bl a,.bl b=>a==b
 |.bl a,.int b=>(if a then 1 else 0)==b
 |.int a,.bl b=>a==(if b then 1 else 0)
 |.int a,.int b=>a==b
 |.str a,.str b=>a==b
 |_,_=>false
theorem FZ{A:Around}{s:Shared}{y x:V}{u v:Value}(ry:RelV y u)(rx:RelV x v)(fy:gF y=true)(fx:gF x=true):SeqAt.EqAt A s u v (Fx y x):=by
 cases y with
 |non=>
  cases ry
  cases x with
  |non=>cases rx;exact SeqAt.EqAt.same _
  |bl b=>cases rx;exact SeqAt.EqAt.none_bool b
  |int b=>obtain⟨t,rfl⟩:=rx;exact SeqAt.EqAt.none_int b t
  |str b=>obtain⟨t,rfl⟩:=rx;exact SeqAt.EqAt.none_str b t
  |_=>exact absurd (show false=true from fx) Bool.false_ne_true
 |bl a=>
  cases ry
  cases x with
  |non=>cases rx;exact SeqAt.EqAt.bool_none a
  |bl b=>cases rx;exact SeqAt.EqAt.bool_bool a b
  |int b=>obtain⟨t,rfl⟩:=rx;exact SeqAt.EqAt.bool_int a b t
  |str b=>obtain⟨t,rfl⟩:=rx;exact SeqAt.EqAt.bool_str a b t
  |_=>exact absurd (show false=true from fx) Bool.false_ne_true
 |int a=>
  obtain⟨t',rfl⟩:=ry
  cases x with
  |non=>cases rx;exact SeqAt.EqAt.int_none a t'
  |bl b=>cases rx;exact SeqAt.EqAt.int_bool a t' b
  |int b=>obtain⟨t,rfl⟩:=rx;exact SeqAt.EqAt.int_int a t' b t
  |str b=>obtain⟨t,rfl⟩:=rx;exact SeqAt.EqAt.int_str a t' b t
  |_=>exact absurd (show false=true from fx) Bool.false_ne_true
 |str a=>
  obtain⟨t',rfl⟩:=ry
  cases x with
  |non=>cases rx;exact SeqAt.EqAt.str_none a t'
  |bl b=>cases rx;exact SeqAt.EqAt.str_bool a t' b
  |int b=>obtain⟨t,rfl⟩:=rx;exact SeqAt.EqAt.str_int a t' b t
  |str b=>obtain⟨t,rfl⟩:=rx;exact SeqAt.EqAt.str_str a t' b t
  |_=>exact absurd (show false=true from fx) Bool.false_ne_true
 |_=>exact absurd (show false=true from fy) Bool.false_ne_true
noncomputable def Be(x:V)(u:Value):Bool:=match u with
 |.none=>Fx .non x
 |.bool b=>Fx (.bl b) x
 |.int i _=>Fx (.int i) x
 |.str z _=>Fx (.str z) x
 |_=>false
theorem F0{x y:V}{u:Value}(r:RelV y u)(f:gF y=true):Be x u=Fx y x:=by
 cases y with
 |non=>cases r;rfl
 |bl b=>cases r;rfl
 |int i=>obtain⟨t,rfl⟩:=r;rfl
 |str z=>obtain⟨t,rfl⟩:=r;rfl
 |_=>exact absurd (show false=true from f) Bool.false_ne_true
theorem nR{x:V}:∀{xs:List V} {us:List Value},Vals xs us->xs.all gF=true->us.any (Be x)=xs.any λy=>Fx y x
 |_,_,.nil,_=>rfl
 |y::xs,u::us,.cons r t,f=>by
  rw[List.all_cons,Bool.and_eq_true]at f
  rw[List.any_cons,List.any_cons,F0 r f.1,nR t f.2]
theorem ki{A:Around}{s:Shared}{x:V}{v:Value}(rx:RelV x v)(fx:gF x=true):∀{xs:List V} {us:List Value},Vals xs us->xs.all gF=true->∀u∈us,SeqAt.EqAt A s u v (Be x u)
 |_,_,.nil,_=>λu hu=>by cases hu
 |y::xs,u::us,.cons r t,f=>λu' hu=>by
  rw[List.all_cons,Bool.and_eq_true]at f
  rcases List.mem_cons.mp hu with rfl|hu
  ·rw[F0 r f.1];exact FZ r rx f.1 fx
  ·exact ki rx fx t f.2 u' hu
noncomputable def Ru(x:V)(xs:List V):Bool:=xs.any λy=>Fx y x
noncomputable def Rv(K:PySem.W.Frag)(neg:Bool):R2:=λx y H Q=>∃p xs,y=.ref p/\(gD K H p xs\/ke K H p xs)/\gF x=true/\xs.all gF=true/\Q (.bl (if neg then !Ru x xs else Ru x xs)) H
theorem Ek:lK X (compareOp .In) (Rv X.K false):=by
 intro pins s σ H x y v u Q I rx ry h
 obtain⟨p,xs,rfl,hq,fx,fs,q⟩:=h
 cases ry
 rcases hq with hq|hq
 ·obtain⟨its,r,pl,hz⟩:=I.list hq
  refine SeqAt.in_listAt (Be x) pl.isList (λw hw=>ki rx fx r fs w (by simpa using hw)) ⟨.bl _,H,I,rfl,?_⟩
  rw[show its.toArray.any (Be x)=its.any (Be x) by simp,nR r fs]
  exact q
 ·obtain⟨its,r,pl,hz⟩:=I.tuple hq
  refine SeqAt.in_tupleAt (Be x) pl (λw hw=>ki rx fx r fs w (by simpa using hw)) ⟨.bl _,H,I,rfl,?_⟩
  rw[show its.toArray.any (Be x)=its.any (Be x) by simp,nR r fs]
  exact q
theorem vP:lK X (compareOp .NotIn) (Rv X.K true):=by
 intro pins s σ H x y v u Q I rx ry h
 obtain⟨p,xs,rfl,hq,fx,fs,q⟩:=h
 cases ry
 rcases hq with hq|hq
 ·obtain⟨its,r,pl,hz⟩:=I.list hq
  refine SeqAt.notIn_listAt (Be x) pl.isList (λw hw=>ki rx fx r fs w (by simpa using hw)) ⟨.bl _,H,I,rfl,?_⟩
  rw[show its.toArray.any (Be x)=its.any (Be x) by simp,nR r fs]
  exact q
 ·obtain⟨its,r,pl,hz⟩:=I.tuple hq
  refine SeqAt.notIn_tupleAt (Be x) pl (λw hw=>ki rx fx r fs w (by simpa using hw)) ⟨.bl _,H,I,rfl,?_⟩
  rw[show its.toArray.any (Be x)=its.any (Be x) by simp,nR r fs]
  exact q
theorem nS:gE X (.builtin "len") (λxs H Q=>∃p ys,xs=[.ref p]/\(gD X.K H p ys\/ke X.K H p ys)/\Q (.int ys.length) H):=by
 intro pins s σ H xs us Q I r h
 obtain⟨p,ys,rfl,hq,q⟩:=h
 obtain⟨u,rfl,rx⟩:=vals1 r
 cases rx
 have hn:=rL
 rcases hq with hq|hq
 ·obtain⟨its,r',pl,hz⟩:=I.list hq
  have hlen:=r'.length
  exact Calls.call_len_list pl.isList (by simp only[List.size_toArray]<;>omega) ⟨.int ys.length,H,I.tok _,⟨s.toks+1,by rw[List.size_toArray,hlen]⟩,q⟩
 ·obtain⟨its,r',pl,hz⟩:=I.tuple hq
  have hlen:=r'.length
  exact len_tuple pl (by simp only[List.size_toArray]<;>omega) ⟨.int ys.length,H,I.tok _,⟨s.toks+1,by rw[List.size_toArray,hlen]⟩,q⟩
theorem vQ:gE X (.builtin "len") (λxs H Q=>∃z,xs=[.str z]/\z.length<=sizeLine/\Q (.int z.length) H):=by
 intro pins s σ H xs us Q I r h
 obtain⟨z,rfl,hz,q⟩:=h
 obtain⟨u,rfl,t,rfl⟩:=vals1 r
 have hn:=rL
 exact len_str (by omega) ⟨.int z.length,H,I.tok _,⟨_,rfl⟩,q⟩
theorem gE.or{f:Value}{r r':List V->Hp->VK->Prop}(h:gE X f r)(h':gE X f r'):gE X f (λxs H Q=>r xs H Q\/r' xs H Q):=by
 intro pins s σ H xs us Q I rs q
 rcases q with q|q
 ·exact h pins s σ H xs us Q I rs q
 ·exact h' pins s σ H xs us Q I rs q
theorem vR:gE X (.type "list") (λxs H Q=>∃p ys,xs=[.ref p]/\(gD X.K H p ys\/ke X.K H p ys)/\∀l,H l=none->Q (.ref l) (upd H l (.lst ys))):=by
 intro pins s σ H xs us Q I r h
 obtain⟨p,ys,rfl,hq,q⟩:=h
 obtain⟨u,rfl,rx⟩:=vals1 r
 cases rx
 have fin:∀(its:List Value),Vals ys its->ys.length<=sizeLine->∀(h':Heap) (c':Nat),(∀b o',s.heap.get? b=some o'->h'.get? b=some o')->
   h'.get? s.heap.objs.size=some {cls:=.type "list",dict:=none,data:=.seq its.toArray c',slots:=#[]}->EP X pins σ Q (.ref s.heap.objs.size) {s with heap:=h'}:=λits r' hz h' c' kp e=>
  ⟨.ref s.heap.objs.size,_,I.laid (t':=s.toks) kp (Nat.le_refl _) (show dU X.prog X.w _ h' _ (.lst ys)from⟨hz,its,c',r',e⟩),rfl,q _ (I.dh.fresh (Nat.le_refl _))⟩
 rcases hq with hq|hq
 ·obtain⟨its,r',pl,hz⟩:=I.list hq
  have hlen:=r'.length
  obtain⟨o,ho,hc,n,hd⟩:=pl.isList
  exact call_list_seq p (.inl rfl) ho hc hd (λh' c' kp e=>fin its r' hz h' c' kp e) (by simp only[List.size_toArray]<;>omega)
 ·obtain⟨its,r',pl,hz⟩:=I.tuple hq
  have hlen:=r'.length
  obtain⟨o,ho,hc,n,hd⟩:=pl
  exact call_list_seq p (.inr rfl) ho hc hd (λh' c' kp e=>fin its r' hz h' c' kp e) (by simp only[List.size_toArray]<;>omega)
theorem my:gE X (.type "tuple") (λxs H Q=>∃p ys,xs=[.ref p]/\((gD X.K H p ys/\∀l,H l=none->Q (.ref l) (upd H l (.tup ys)))\/(ke X.K H p ys/\Q (.ref p) H))):=by
 intro pins s σ H xs us Q I r h
 obtain⟨p,ys,rfl,h⟩:=h
 obtain⟨u,rfl,rx⟩:=vals1 r
 cases rx
 rcases h with⟨hq,q⟩|⟨hq,q⟩
 ·obtain⟨its,r',pl,hz⟩:=I.list hq
  have hlen:=r'.length
  refine call_tuple_list pl.isList (λh' kp=>?_) (by simp only[List.size_toArray]<;>omega)
  have I1:Inv X pins σ H {s with heap:=h'}:=I.kept (t':=s.toks) kp
  have I2:Inv X pins σ (upd H h'.objs.size (.tup ys)) {s with heap:=h'.push {cls:=.type "tuple",data:=.seq its.toArray}}:=
   I1.laid (t':=s.toks) (λb o e=>Heap.get?_push_of_some _ e) (Nat.le_refl _) (show dU X.prog X.w _ _ _ (.tup ys)from⟨⟨hz,Oj.new⟩,its,r',IsTup.new _ _⟩)
  exact⟨.ref h'.objs.size,_,I2,rfl,q _ (I1.dh.fresh (Nat.le_refl _))⟩
 ·obtain⟨its,r',pl,hz⟩:=I.tuple hq
  exact call_tuple_same pl ⟨.ref p,H,I,rfl,q⟩
noncomputable def Sw(K:PySem.W.Frag)(T:String)(x:V)(H:Hp):Prop:=match x with
 |.str _=>T= "str"
 |.int _=>T= "int"
 |.ref p=>(T= "list" /\∃xs,gD K H p xs)\/(T= "tuple" /\∃o,K.lookup p=some o/\o.cls=.type "tuple" /\o.dict=none)\/
   (T= "dict" /\((∃pY,H p=some (.dK pY))\/∃pY,H p=some (.dT pY)))\/(T= "set" /\∃S n,H p=some (.set S n))
 |_=>False
theorem F1{pins:List (Addr×Obj)}{σ:St}{H:Hp}{s:Shared}{T:String}{x:V}{v:Value}(I:Inv X pins σ H s)(r:RelV x v)(ty:Sw X.K T x H):
  s.TypeIs v T/\∀a,v=.ref a->∃ob,s.heap.get? a=some ob/\ob.dict=none:=by
 cases x with
 |str z=>
  obtain⟨t,rfl⟩:=r
  cases(show T= "str" from ty)
  exact⟨typeIs_str s z t,λ_ e=>nomatch e⟩
 |int i=>
  obtain⟨t,rfl⟩:=r
  cases(show T= "int" from ty)
  exact⟨typeIs_int s i t,λ_ e=>nomatch e⟩
 |ref p=>
  cases r
  rcases ty with⟨rfl,xs,hq⟩|⟨rfl,o,hk,hc,hd⟩|⟨rfl,hk⟩|⟨rfl,S,n,hk⟩
  ·obtain⟨its,_,pl,_⟩:=I.list hq
   refine⟨pl.isList.typeIs,λa e=>?_⟩
   cases e
   obtain⟨o,n,e,c,hd,_⟩:=pl
   exact⟨o,e,hd⟩
  ·refine⟨⟨o,I.kf p o hk,hc⟩,λa e=>?_⟩
   cases e
   exact⟨o,I.kf _ o hk,hd⟩
  ·have z:∃o,s.heap.get? p=some o/\o.ExactDict:=by
     rcases hk with⟨pY,hk⟩|⟨pY,hk⟩
     ·obtain⟨_,_,_,_,o,_,_,e,ex,_⟩:=I.dh p _ hk
      exact⟨o,e,ex⟩
     ·obtain⟨_,_,_,_,o,_,_,e,ex,_⟩:=I.dh p _ hk
      exact⟨o,e,ex⟩
   obtain⟨o,e,ex⟩:=z
   refine⟨⟨o,e,ex.1⟩,λa e2=>?_⟩
   cases e2
   exact⟨o,e,ex.2.1⟩
  ·obtain⟨o,_,_,_,e,ex,_⟩:=I.dh p _ hk
   refine⟨⟨o,e,ex.1⟩,λa e2=>?_⟩
   cases e2
   exact⟨o,e,ex.2.1⟩
 |_=>exact False.elim ty
noncomputable def Pq(K:PySem.W.Frag)(T:String)(r:V->List V->Hp->VK->Prop)(to:TE):TE:=λσ H Q=>to σ H λx H1=>Sw K T x H1/\r x [] H1 Q
noncomputable def TL(K:PySem.W.Frag)(T:String)(r:V->List V->Hp->VK->Prop)(to:TE)(t:TA):TE:=λσ H Q=>to σ H λx H1=>Sw K T x H1/\t σ H1 λxs H2=>r x xs H2 Q
variable{o e:Expr}{es:List Expr}{to:TE}{t:TA}{name:Str}{apos ie:Pos}{T id:String}{r:V->List V->Hp->VK->Prop}
theorem F2(pa:PlainAttrs T)(slot:Slot T name id)(Sx:typeOf (.builtin id)=pure (.type "method_descriptor"))(hm:Oo X id r)(ho:PE X o to)
  (fF:attributeBase o name X.env (eval o X.env)=eval o X.env:=by rfl)(fG:(apos.endLine==ie.line)=true:=by rfl):PE X (.Call (.Attribute o name apos) [] [] ie) (Pq X.K T r to):=by
 intro pins s σ H Q I h
 refine wpAny_Call_method0_late fF fG (dF (ho pins s σ H _ I h) λv s1 cL=>?_)
 obtain⟨x,H1,I1,r1,ty,q1⟩:=cL
 obtain⟨h1,h2⟩:=F1 I1 r1 ty
 exact⟨T,id,pa,slot,Sx,h1,h2,Calls.callWith_builtin rfl (PySem.evalArgs_none (hm pins s1 σ H1 x [] v [] Q I1 r1 .nil q1))⟩
theorem F3(pa:PlainAttrs T)(slot:Slot T name id)(Sx:typeOf (.builtin id)=pure (.type "method_descriptor"))(hm:Oo X id r)(ho:PE X o to)(ha:PA X (e::es) t)
  (fF:attributeBase o name X.env (eval o X.env)=eval o X.env:=by rfl)
  (rP:((backTo ie (starEach (e::es) X.env)).all (λx=>!x.1)&&(backToKw ie (keywordEach [] X.env)).all (λx=>x.1.isSome)
    &&decide ((e::es).length+([]:List Keyword).length+(if([]:List Keyword).isEmpty then 0 else 1)<30))=true:=by rfl)
  (fG:(apos.endLine==ie.line)=true:=by rfl)(hs:starEach (e::es) X.env=(false,eval e X.env)::starEach es X.env:=by rfl)(MB:(backTo ie (starEach es X.env)).any (·.1)=false:=by rfl):
  PE X (.Call (.Attribute o name apos) (e::es) [] ie) (TL X.K T r to t):=by
 intro pins s σ H Q I h
 refine wpAny_Call_method_late fF rP fG rfl (dF (ho pins s σ H _ I h) λv s1 cL=>?_)
 obtain⟨x,H1,I1,r1,ty,q1⟩:=cL
 obtain⟨h1,h2⟩:=F1 I1 r1 ty
 refine⟨T,id,pa,slot,Sx,h1,h2,?_⟩
 have hA:=ha ie pins s1 σ H1 _ I1 q1
 rw[hs]at hA⊢
 refine Calls.callWith_builtin (by show(false||(backTo ie (starEach es X.env)).any (·.1))=false;rw[MB]<;>rfl) (Calls.evalArgs_plain ?_)
 exact dF hA λus s2 ⟨vs,H2,I2,r2,q2⟩=>hm pins s2 σ H2 x vs v us Q I2 r1 r2 q2
end
noncomputable def TM(X:Cx)(id:String)(r:V->List V->Hp->VK->Prop):Prop:=
 ∀(pins:List (Addr×Obj)) (s:Shared) (σ:St) (H:Hp) (x:V) (xs:List V) (v:Value) (us:List Value) (Q:VK),Inv X pins σ H s->RelV x v->Vals xs us->r x xs H Q->
  wpAny (model X.prog X.w) X.A (call (.builtin id) (v::us)) (EP X pins σ Q) X.xe s
theorem Vals.one{x:V}{us:List Value}(h:Vals [x] us):∃u,us=[u]/\RelV x u:=by
 cases h with
 |cons r t=>
  cases t
  exact⟨_,rfl,r⟩
theorem Vals.two{x y:V}{us:List Value}(h:Vals [x,y] us):∃u v,us=[u,v]/\RelV x u/\RelV y v:=by
 cases h with
 |cons r t=>
  cases t with
  |cons q t=>
   cases t
   exact⟨_,_,rfl,r,q⟩
theorem Vals.zero:∀{us:List Value},Vals [] us->us=[]
 |_,.nil=>rfl
section
variable{X:Cx}{pins:List (Addr×Obj)}{σ:St}{H:Hp}{s:Shared}{l b:Addr}{xs ys zs:List V}
theorem Inv.Pt{its its':List Value}{n:Nat}{f:Array Value->Array Value}{t':Nat}(I:Inv X pins σ H s)(hH:H l=some (.lst xs))
  (e:s.heap.get? l=some {cls:=.type "list",data:=.seq its.toArray n})(hf:f its.toArray=its'.toArray)(hv:Vals ys its')(hz:ys.length<=sizeLine):
  Inv X pins σ (upd H l (.lst ys)) {s with heap:=s.heap.update l (Obj.mapSeq f),toks:=t'}:=by
 have q:=PySem.IsL.update e f
 rw[hf]at q
 refine I.write (x:=l) (e:=l) (by rw[hH];exact trivial) (.inl rfl) (λb' u hb hu=>(Heap.get?_update_other s.heap (Obj.mapSeq f) (Ne.symm hb)).trans hu) ⟨_,q⟩ ?_
 exact⟨hz,its',_,hv,q⟩
theorem Inv.Sy{its:List Value}{t':Nat}(I:Inv X pins σ H s)(hv:Vals ys its)(hz:ys.length<=sizeLine):
  Inv X pins σ (upd H s.heap.objs.size (.lst ys)) {s with heap:=s.heap.push {cls:=.type "list",data:=.seq its.toArray},toks:=t'}:=
 I.laid (λ_ _ q=>Heap.get?_push_of_some _ q) (Nat.le_refl _) ⟨hz,its,0,hv,Heap.get?_push_size _ rfl⟩
theorem Inv.fresh(I:Inv X pins σ H s):H s.heap.objs.size=none:=I.dh.fresh (Nat.le_refl _)
theorem Inv.Pu(I:Inv X pins σ H s)(hH:H l=some (.lst xs)):xs.length<=sizeLine/\∃(its:List Value) (n:Nat),Vals xs its/\xs.length=its.length/\s.heap.get? l=some {cls:=.type "list",data:=.seq its.toArray n}:=by
 obtain⟨z,its,n,r,e⟩:=I.dh l _ hH
 exact⟨z,its,n,r,r.length,e⟩
end
section
variable{X:Cx}
noncomputable def Jr:V->List V->Hp->VK->Prop:=λx vs H Q=>∃l xs y,x=.ref l/\vs=[y]/\H l=some (.lst xs)/\xs.length<sizeLine/\Q .non (upd H l (.lst (xs++[y])))
theorem El:TM X "list.append" Jr:=by
 intro pins s σ H x vs v us Q I rx rv h
 obtain⟨l,xs,y,rfl,rfl,hH,hz,q⟩:=h
 cases rx
 obtain⟨u,rfl,ru⟩:=rv.one
 obtain⟨z,its,n,r,hl,e⟩:=I.Pu hH
 refine call_meets F.slot_list_append ⟨_,e,rfl⟩ F.entry_list_append (F.args_list_append_2 _ _) (PySem.list_append l its.toArray n u (by rw[List.size_toArray];omega)) ⟨e,?_⟩
 refine⟨.non,_,I.Pt (its':=its++[u]) hH e (by simp) (r.append (.cons ru .nil)) ?_,rfl,q⟩
 rw[List.length_append,List.length_singleton]
 omega
noncomputable def MC:V->List V->Hp->VK->Prop:=λx vs H Q=>∃l xs,x=.ref l/\vs=[]/\H l=some (.lst xs)/\Q .non (upd H l (.lst []))
theorem F4:TM X "list.clear" MC:=by
 intro pins s σ H x vs v us Q I rx rv h
 obtain⟨l,xs,rfl,rfl,hH,q⟩:=h
 cases rx
 have UT:=rv.zero
 subst UT
 obtain⟨z,its,n,r,hl,e⟩:=I.Pu hH
 refine call_meets F.slot_list_clear ⟨_,e,rfl⟩ F.entry_list_clear (F.args_list_clear_1 _) (AutoSeq1.list_clear_list_0 l its.toArray n (by rw[List.size_toArray];omega)) ⟨e,?_⟩
 exact⟨.non,_,I.Pt (its':=[]) (ys:=[]) hH e rfl .nil (Nat.zero_le _),rfl,q⟩
end
end L2
namespace Att
open PySem PySem.W PySem.Calls PyProof.Rows
theorem qC{P:Params}{h:Heap}:∀(ns:List Int) (vs:List Value),WellAll P h vs (ns.map WData.int)->IntsAre vs ns:=by
 intro ns
 induction ns with
 |nil=>
  intro vs w
  rw[List.map_nil]at w
  cases w
  exact .nil
 |cons n ns ih=>
  intro vs w
  rw[List.map_cons]at w
  cases w with
  |cons a b=>
   cases a
   exact .cons _ _ (ih _ b)
theorem En{l:OpenLaw}{n:Nat}(hn:l.most=some n){P:Params}{h:Heap}{args:List WData}{vals:List Value}
  (Js:l.row.toRowW.claim.pre args=true)(Sz:WellAll P h vals args):
  ∃a vs ns,vals=[Value.ref a]/\args=[WData.list (ns.map WData.int)]/\h.get? a=some {cls:=.type "list",data:=.seq vs.toArray}/\IntsAre vs ns/\ns.length<=n:=by
 have UU:WShape.hasAll [] args [.list .int]=true:=(pre_splitW Js).1
 have hc:l.pre.holds [] {args:=args}=true:=(pre_splitW Js).2
 obtain⟨d,r,rfl,h1,h2⟩:=hasAllW_cons UU
 obtain rfl:=hasAllW_nil h2
 obtain⟨xs,rfl,h3⟩:=hasW_list h1
 obtain⟨ns,rfl⟩:=items_int h3
 have hlen:ns.length<=n:=by
  unfold OpenLaw.pre at hc
  have h4:(WTm.not (.lt (.lit (.int (n:Int))) (.len (.arg 0)))).holds [] {args:=[.list (ns.map .int)]}=true:=by
   have h4:=(holds_andW hc).1
   rw[hn]at h4
   exact h4
  have h5:=condW_of h4 (w_not (w_lt w_lit (w_len_list (w_arg rfl))))
  rw[List.length_map]at h5
  refine Nat.le_of_not_lt λq=>?_
  have q':(n:Int)<((ns.length:Nat):Int):=by omega
  first
   |(rw[decide_eq_true q']at h5;exact absurd h5 (by decide))
   |(simp at h5;omega)
 cases Sz with
 |cons w1 w2=>
  cases w2
  cases w1 with
  |list ho vS=>exact⟨_,_,ns,rfl,rfl,ho,qC ns _ vS,hlen⟩
theorem Eo(l:OpenLaw)(args:List WData):l.row.toRowW.claim.post args (.bool true) args=true:=
 postW_of (r:=l.row.toRowW) (X:=(true==true))
  (show WShape.has [] (.bool true) .bool=true by first|rfl|decide|simp[WShape.has,WShape.arms,WShape.armsAll])
  (show(WTm.eq .res (.lit (.bool true))).value [] {args:=args,res:=some (.bool true),after:=args}=some (.bool (true==true))from w_eq_bool (w_res rfl) w_lit) rfl
theorem yp{l:OpenLaw}{n:Nat}{q:Program}{loose:List Str}{XP:(Str->Option Value)->Heap->Prop}{YP:World->Heap->Prop}{d:DefRec}
  (hn:l.most=some n)(SA:d.params.defaults=[])
  (call:∀(w:World) (s₀ s₁:Shared) (mg mb:Str->Option Value) (fa:Addr) (o:Obj) (pm cd doc:Value) (a:Addr) (vs:List Value) (ns:List Int),
    Ground q loose [] XP w s₀ mg mb s₁.heap->YP w s₁.heap->
    s₁.heap.get? fa=some o->o.data=.func (docDef d.name d.params d.body d.scope pm cd doc)->s₁.heap.CodeRec cd d.name->mg d.name=some (.ref fa)->
    s₁.heap.get? a=some {cls:=.type "list",data:=.seq vs.toArray}->IntsAre vs ns->ns.length<=n->s₁.gens=#[]->
    codeAny (model l.prog w) callerA (.call (.ref fa) ⟨[.ref a],[]⟩) (λr s'=>r=.ok (.ret (.bool true))/\OldK s₁.heap s'.heap/\s'.os=s₁.os/\AllBare s'.gens) s₁):
  WalkO q loose XP YP l.row.toRowW d [] (λf vs=>PySem.call f vs):=by
 intro w s₀ s₁ mg mb G Y fa o pm cd doc dV kV ho hd ud hD Pw hg args vals as Js UW Wb Sz Wc
 obtain rfl:dV=.none:=Dflts.none hD SA
 obtain rfl:kV=.none:=Dflts.noKw hD
 obtain⟨a,vs,ns,rfl,rfl,MD,hints,hlen⟩:=En hn Js Sz
 refine enter_call (codeAny_mono (call w s₀ s₁ mg mb fa o pm cd doc a vs ns G Y ho (fd_plain hd) ud Pw MD hints hlen hg) λr s' hq=>?_)
 obtain⟨rfl,h2,h3,h4⟩:=hq
 exact⟨.inl ⟨.bool true,.bool true,[],rfl,λ_=>rfl,.bool true,Eo l _,λ_=>⟨List.Pairwise.nil,λ_ hm=>(nomatch hm)⟩⟩,h2,h3,h4⟩
end Att
namespace L2
open PySem PySem.Spec PyProof.Rows
theorem o9:∀{vs:List Value} {ns:List Int},IntsAre vs ns->Vals (ns.map V.int) vs
 |_,_,.nil=>.nil
 |_,_,.cons n t h=>.cons ⟨t,rfl⟩ (o9 h)
noncomputable def Px(H:Hp):Prop:=∀b,H b=none\/∃o xs,H b=some (.frz o (.lst xs))
noncomputable def aQ(s:Stmt):Arguments:=match s with
 |.FunctionDef _ a _ _ _ _ _ _ _ _=>a
 |_=>{posonlyargs:=[],args:=[],vararg:=none,kwonlyargs:=[],kw_defaults:=[],kwarg:=none,defaults:=[]}
noncomputable def aM(s:Stmt):List Stmt:=match s with
 |.FunctionDef _ _ b _ _ _ _ _ _ _=>b
 |_=>[]
noncomputable def ag(s:Stmt):Scope:=match s with
 |.FunctionDef _ _ _ _ _ _ sc _ _ _=>sc
 |_=>{kind:=.function,names:=[],isGenerator:=false,isCoroutine:=false}
noncomputable abbrev cv:FU:=λ_ _ _ _ _ _=>False
noncomputable abbrev E0:XK:=λ_ _ _=>False
theorem mz{X:Cx}:Passes cv X E0:=λ_ _ _ _ _ _ _ h=>h.elim
structure KY(K:PySem.W.Frag)(x qual:Str)(st:Stmt)(f:Addr)(fd:FuncData):Prop where
 ex:∃(oc:Value) (od:Option Addr) (kV doc pm:Value) (an:Option Addr) (d8 ct:Value) (KU:Array (Option Value)),
  fd=PySem.W.fnOf x qual (aQ st) (aM st) (ag st) .none kV doc pm an d8 ct/\K.lookup f=some ⟨oc,od,.func fd,KU⟩/\PySem.W.codeIn K d8 qual=true
 kp:PySem.W.keepIn K (.ref f)=true
section
variable{P:Program}{w:World}{K:PySem.W.Frag}{mg:Str->Option Value}{base:Heap}
theorem KY.ok{x qual:Str}{st:Stmt}{f:Addr}{fd:FuncData}{N ps:List Str}{k:Nat}{sp:Sp}(F:KY K x qual st f fd)(S:aT N ps (ag st))(len:∀vs H Q E,sp vs H Q E->vs.length=ps.length)
  (FW:∀(d8:Value) (A:Around) (outer:List Env) (s:Shared) (H:Hp) (vs:List V) (Q:VK) (E:XK),cx k (A.deeper (envOfC qual (ag st) s.heap.objs.size f d8))->sp vs H Q E->
    ∃t,CN (Bd cv P w K mg base N qual (ag st) f d8 A outer s H E).OS (aM st) t/\t {nx:=λ_ H'=>Q .non H',rt:=Q} (start N vs) H):aL P w K mg base cv (k+1) f fd ps sp:=by
 obtain⟨oc,od,kV,doc,pm,an,d8,ct,KU,rfl,lk,ud⟩:=F.ex
 refine Pj lk ud S len λA outer s H vs Q E hr KW=>?_
 obtain⟨t,h,q⟩:=FW d8 A outer s H vs Q E hr KW
 exact⟨t,h.OS,q⟩
theorem KY.binds{x qual:Str}{st:Stmt}{f:Addr}{fd:FuncData}{ps:List Str}(F:KY K x qual st f fd)
  (h:∀(kV doc pm:Value) (an:Option Addr) (d8 ct:Value) (us:List Value),us.length=ps.length->bindArgs (PySem.W.fnOf x qual (aQ st) (aM st) (ag st) .none kV doc pm an d8 ct) ⟨us,[]⟩=pure (ps.zip us)):Binds K fd ps []:=by
 obtain⟨oc,od,kV,doc,pm,an,d8,ct,KU,rfl,lk,ud⟩:=F.ex
 exact .all (h kV doc pm an d8 ct)
theorem bB{x qual:Str}{st:Stmt}{f:Addr}{oc:Value}{od an:Option Addr}{KU:Array (Option Value)}{kV doc pm d8 ct:Value}(l:K.lookup f=some ⟨oc,od,.func (PySem.W.fnOf x qual (aQ st) (aM st) (ag st) .none kV doc pm an d8 ct),KU⟩)
 (c:PySem.W.codeIn K d8 qual=true)(k:PySem.W.keepIn K (.ref f)=true):KY K x qual st f (PySem.W.fnOf x qual (aQ st) (aM st) (ag st) .none kV doc pm an d8 ct):=⟨⟨oc,od,kV,doc,pm,an,d8,ct,KU,rfl,l,c⟩,k⟩
end
section
variable{X:Cx}
theorem pv(i:Nat){x:Str}{pos:Pos}(hN:X.N[i]?=some x:=by rfl)(hv:KL X.env.scope x:=by first|exact Or.inl rfl|exact Or.inr (Or.inl rfl)|exact Or.inr (Or.inr rfl))(hd:(x==("__debug__" :Str))=false:=by decide)
 (ud:(x==("__classdict__" :Str))=false:=by decide):PE X (.Name x pos) (l8 i):=o4 hN hv hd ud
end
noncomputable def aH(H H':Hp):Prop:=∀b o,H b=some o->H' b=some o
theorem aH.refl(H:Hp):aH H H:=λ_ _ h=>h
theorem aH.trans{H H1 H2:Hp}(a:aH H H1)(b:aH H1 H2):aH H H2:=λc o h=>b c o (a c o h)
theorem aH.free{H H':Hp}(e:aH H H'){l:Addr}(h:H' l=Option.none):H l=Option.none:=by
 cases q:H l with
 |none=>rfl
 |some o=>
  rw[e l o q]at h
  cases h
end L2
namespace TS
open PySem PyProof.Rows
noncomputable def yq(prog:Program)(w:World)(A:Around)(E:Value->Shared->Prop)(s:Shared)(kd:SortKind)(G:Keyed->Prop)(rk:Keyed->Nat):Prop:=
 ∀(p q:Keyed) (st:SortSt) (Q:Option Bool->SortSt->Prop),kindOf st=kd->G p->G q->Q (some (decide (rk p<rk q))) st->wpS (model prog w) A E s (lt' p q) Q st
noncomputable def R(rk:Keyed->Nat)(xs:Array Keyed)(i:Nat):Nat:=match xs[i]? with
 |some p=>rk p
 |none=>0
noncomputable def Gd(G:Keyed->Prop)(xs:Array Keyed):Prop:=∀p∈xs.toList,G p
theorem Gd.at{G:Keyed->Prop}{rk:Keyed->Nat}{xs:Array Keyed}(h:Gd G xs){i:Nat}(hi:i<xs.size):∃p,xs[i]?=some p/\G p/\R rk xs i=rk p:=by
 refine⟨xs[i],getElem?_pos xs i hi,h _ (by simp),?_⟩
 unfold R
 rw[getElem?_pos xs i hi]
theorem Bf{rk:Keyed->Nat}{xs:Array Keyed}{i:Nat}{p:Keyed}(h:xs[i]?=some p):R rk xs i=rk p:=by
 unfold R
 rw[h]
noncomputable def jt(rk:Keyed->Nat)(left:Bool)(key:Keyed)(xs:Array Keyed)(base i:Nat):Bool:=
 if left then decide (R rk xs (base+i)<rk key)else !decide (rk key<R rk xs (base+i))
noncomputable def nT:Bool->Keyed->Array Keyed->Nat->Nat->Nat->StateT SortSt Sem (Option Nat):=sortPriv% PySem.Builtin.gallop
noncomputable def F5:Array Keyed->Array Keyed->StateT SortSt Sem (Array Keyed):=sortPriv% PySem.Builtin.mergeLo
noncomputable def F6:Array Keyed->Array Keyed->StateT SortSt Sem (Array Keyed):=sortPriv% PySem.Builtin.mergeHi
noncomputable def nU:Nat->StateT SortSt Sem Unit:=sortPriv% PySem.Builtin.setMinGallop
section
variable{prog:Program}{w:World}{A:Around}{E:Value->Shared->Prop}{s:Shared}{kd:SortKind}{G:Keyed->Prop}{rk:Keyed->Nat}
theorem bL{xs:Array Keyed}{i:Nat}{p:Keyed}{Q:Keyed->SortSt->Prop}{st:SortSt}{M:Model}(h:xs[i]?=some p)(q:Q p st):wpS M A E s (elem' xs i) Q st:=by
 rw[elem'_eq,h]
 exact wpS_pure q
theorem rQ(C:yq prog w A E s kd G rk){left:Bool}{key:Keyed}{xs:Array Keyed}{base i:Nat}{st:SortSt}{Q:Option Bool->SortSt->Prop}(hk:kindOf st=kd)(hG:Gd G xs)(uf:G key)(hi:base+i<xs.size)
  (q:Q (some (jt rk left key xs base i)) st):wpS (model prog w) A E s (elem' xs (base+i)>>=λx=>if left=true then lt' x key else lt' key x>>=λr=>pure (Option.map (λb=>!b) r)) Q st:=by
 obtain⟨p,e,g,r⟩:=hG.at (rk:=rk) hi
 refine wpS_bind (bL e ?_)
 unfold jt at q
 rw[r]at q
 cases left with
 |true=>
  rw[if_pos rfl]at q⊢
  exact C p key st Q hk g uf q
 |false=>
  rw[if_neg (by decide)]at q⊢
  exact wpS_bind (C key p st _ hk uf g (wpS_pure q))
theorem yr{M:Model}{n:Nat}{f:Nat->Option (Option Nat)×Nat×Nat->StateT SortSt Sem (ForInStep (Option (Option Nat)×Nat×Nat))}{p:Nat->Bool}{st:SortSt}{Q:Option (Option Nat)×Nat×Nat->SortSt->Prop}
  (hs:∀(x lo hi:Nat) Q',lo<hi->hi<=n->Q' (ForInStep.yield (none,if p (lo+(hi-lo)/2)=true then lo+(hi-lo)/2+1 else lo,if p (lo+(hi-lo)/2)=true then hi else lo+(hi-lo)/2)) st->wpS M A E s (f x (none,lo,hi)) Q' st)
  (hd:∀(x lo hi:Nat) Q',hi<=lo->Q' (ForInStep.done (none,lo,hi)) st->wpS M A E s (f x (none,lo,hi)) Q' st)
  (mono:∀i j,i<=j->j<n->p j=true->p i=true){lo hi:Nat}(h1:lo<=hi)(h2:hi<=n)(h3:∀i,i<lo->p i=true)(h4:∀i,hi<=i->i<n->p i=false)
  (q:∀k,k<=n->(∀i,i<k->p i=true)->(∀i,k<=i->i<n->p i=false)->Q (none,k,k) st):wpS M A E s (forIn [:n] (none,lo,hi) f) Q st:=by
 refine wpS_forRange (I:=λx c aN=>aN=st/\∃l h,c=(none,l,h)/\l<=h/\h<=n/\h-l<=n-x/\(∀i,i<l->p i=true)/\∀i,h<=i->i<n->p i=false) ?_ ?_ ⟨rfl,lo,hi,rfl,h1,h2,by omega,h3,h4⟩
 ·rintro x c aN-hx ⟨rfl,l,h,rfl,a1,a2,a3,a4,a5⟩
  by_cases jX:l<h
  ·refine hs x l h _ jX a2 ?_
   have hm:l+(h-l)/2<h:=by omega
   cases e:p (l+(h-l)/2)with
   |true=>
    refine⟨rfl,l+(h-l)/2+1,h,by simp,by omega,a2,by omega,λi hi=>?_,a5⟩
    exact mono i (l+(h-l)/2) (by omega) (by omega) e
   |false=>
    refine⟨rfl,l,l+(h-l)/2,by simp,by omega,by omega,by omega,a4,λi b1 b2=>?_⟩
    cases e2:p i with
    |false=>rfl
    |true=>
     rw[mono _ i b1 b2 e2]at e
     cases e
  ·refine hd x l h _ (by omega) ?_
   obtain rfl:l=h:=by omega
   exact q l a2 a4 a5
 ·rintro c aN ⟨rfl,l,h,rfl,a1,a2,a3,a4,a5⟩
  obtain rfl:l=h:=by omega
  exact q l a2 a4 a5
theorem yt{M:Model}{n mx:Nat}{f:Nat->Option (Option Nat)×Nat×Nat->StateT SortSt Sem (ForInStep (Option (Option Nat)×Nat×Nat))}{g:Nat->Bool}{st:SortSt}{Q:Option (Option Nat)×Nat×Nat->SortSt->Prop}(h1:1<=mx)(hn:mx<=n)
  (hd:∀(x l o:Nat) Q',mx<=o->Q' (ForInStep.done (none,l,o)) st->wpS M A E s (f x (none,l,o)) Q' st)
  (hs:∀(x l o:Nat) Q',o<mx->Q' (if g o=true then ForInStep.yield (none,o,2*o+1)else ForInStep.done (none,l,o)) st->wpS M A E s (f x (none,l,o)) Q' st)
  (q:∀l o,l<o->l<mx->(l=0\/g l=true)->(mx<=o\/(o<mx/\g o=false))->Q (none,l,o) st):wpS M A E s (forIn [:n] (none,0,1) f) Q st:=by
 refine wpS_forRange (I:=λx c aN=>aN=st/\∃l o,c=(none,l,o)/\l<o/\l<mx/\x+1<=o/\(l=0\/g l=true)) ?_ ?_ ⟨rfl,0,1,rfl,by omega,by omega,by omega,.inl rfl⟩
 ·rintro x c aN-hx ⟨rfl,l,o,rfl,a1,a2,a3,a4⟩
  by_cases jX:o<mx
  ·refine hs x l o _ jX ?_
   cases e:g o with
   |true=>exact⟨rfl,o,2*o+1,rfl,by omega,jX,by omega,.inr e⟩
   |false=>exact q l o a1 a2 a4 (.inr ⟨jX,e⟩)
  ·exact hd x l o _ (by omega) (q l o a1 a2 a4 (.inl (by omega)))
 ·rintro c aN ⟨rfl,l,o,rfl,a1,a2,a3,a4⟩
  exact q l o a1 a2 a4 (.inl (by omega))
theorem gw(C:yq prog w A E s kd G rk){left:Bool}{key:Keyed}{xs:Array Keyed}{base n hint:Nat}{st:SortSt}{Q:Option Nat->SortSt->Prop}(hk:kindOf st=kd)(hG:Gd G xs)(uf:G key)(hb:base+n<=xs.size)(hh:hint<n)
  (mono:∀i j,i<=j->j<n->jt rk left key xs base j=true->jt rk left key xs base i=true)
  (q:∀k,k<=n->(∀i,i<k->jt rk left key xs base i=true)->(∀i,k<=i->i<n->jt rk left key xs base i=false)->Q (some k) st):wpS (model prog w) A E s (nT left key xs base n hint) Q st:=by
 have F7:∀i j,i<=j->j<n->jt rk left key xs base i=false->jt rk left key xs base j=false:=λi j h1 h2 h3=>by
  cases e:jt rk left key xs base j with
  |false=>rfl
  |true=>
   rw[mono i j h1 h2 e]at h3
   cases h3
 refine wpS_bind (rQ C hk hG uf (by omega) ?_)
 cases e0:jt rk left key xs base hint with
 |true=>
  refine wpS_bind (yt (n:=n) (mx:=n-hint) (g:=λo=>jt rk left key xs base (hint+o)) (by omega) (by omega) (λx l o Q' ho q'=>?_) (λx l o Q' ho q'=>?_) λl o a1 a2 a3 a4=>?_)
  ·dsimp only
   rw[if_pos ho]
   exact wpS_pure q'
  ·dsimp only
   rw[if_neg (by omega)]
   refine wpS_bind (rQ C hk hG uf (by omega) ?_)
   cases e:jt rk left key xs base (hint+o)with
   |true=>
    rw[e]at q'
    exact wpS_pure q'
   |false=>
    rw[e]at q'
    exact wpS_pure q'
  ·refine wpS_bind (yr (p:=λi=>jt rk left key xs base i) (λx lo hi Q' b1 b2 q'=>?_) (λx lo hi Q' b1 q'=>?_) mono (lo:=hint+l+1) (hi:=hint+min o (n-hint)) (by omega) (by omega) (λi hi=>?_) (λi b1 b2=>?_) λk c1 c2 c3=>?_)
   ·dsimp only
    rw[if_neg (by omega)]
    refine wpS_bind (rQ C hk hG uf (by omega) ?_)
    cases e:jt rk left key xs base (lo+(hi-lo)/2)with
    |true=>
     rw[e]at q'
     exact wpS_pure q'
    |false=>
     rw[e]at q'
     exact wpS_pure q'
   ·dsimp only
    rw[if_pos b1]
    exact wpS_pure q'
   ·rcases a3 with a3|a3
    ·exact mono i hint (by omega) hh e0
    ·exact mono i (hint+l) (by omega) (by omega) a3
   ·rcases a4 with a4|⟨a4,a5⟩
    ·omega
    ·exact F7 (hint+o) i (by omega) b2 a5
   ·exact wpS_pure (q k c1 c2 c3)
 |false=>
  refine wpS_bind (yt (n:=n) (mx:=hint+1) (g:=λo=>!jt rk left key xs base (hint-o)) (by omega) (by omega) (λx l o Q' ho q'=>?_) (λx l o Q' ho q'=>?_) λl o a1 a2 a3 a4=>?_)
  ·dsimp only
   rw[if_pos ho]
   exact wpS_pure q'
  ·dsimp only
   rw[if_neg (by omega)]
   refine wpS_bind (rQ C hk hG uf (by omega) ?_)
   cases e:jt rk left key xs base (hint-o)with
   |true=>
    rw[e]at q'
    exact wpS_pure q'
   |false=>
    rw[e]at q'
    exact wpS_pure q'
  ·refine wpS_bind (yr (p:=λi=>jt rk left key xs base i) (λx lo hi Q' b1 b2 q'=>?_) (λx lo hi Q' b1 q'=>?_) mono (lo:=hint+1-min o (hint+1)) (hi:=hint-l) (by omega) (by omega) (λi hi=>?_) (λi b1 b2=>?_) λk c1 c2 c3=>?_)
   ·dsimp only
    rw[if_neg (by omega)]
    refine wpS_bind (rQ C hk hG uf (by omega) ?_)
    cases e:jt rk left key xs base (lo+(hi-lo)/2)with
    |true=>
     rw[e]at q'
     exact wpS_pure q'
    |false=>
     rw[e]at q'
     exact wpS_pure q'
   ·dsimp only
    rw[if_pos b1]
    exact wpS_pure q'
   ·rcases a4 with a4|⟨a4,a5⟩
    ·omega
    ·refine mono i (hint-o) (by omega) (by omega) ?_
     simpa using a5
   ·rcases a3 with a3|a3
    ·exact F7 hint i (by omega) b2 e0
    ·exact F7 (hint-l) i (by omega) b2 (by simpa using a3)
   ·exact wpS_pure (q k c1 c2 c3)
end
noncomputable def Sd(rk:Keyed->Nat)(l:List Keyed):Prop:=l.Pairwise λp q=>rk p<=rk q
theorem Sd.sub{rk:Keyed->Nat}{l m:List Keyed}(h:Sd rk m)(hs:l.Sublist m):Sd rk l:=List.Pairwise.sublist hs h
theorem Sd.left{rk:Keyed->Nat}{l m:List Keyed}(h:Sd rk (l++m)):Sd rk l:=h.sub (List.sublist_append_left _ _)
theorem Sd.right{rk:Keyed->Nat}{l m:List Keyed}(h:Sd rk (l++m)):Sd rk m:=h.sub (List.sublist_append_right _ _)
theorem Sd.u0{rk:Keyed->Nat}{l m:List Keyed}(h:Sd rk (l++m)):∀x∈l,∀y∈m,rk x<=rk y:=(List.pairwise_append.mp h).2.2
theorem Sd.app{rk:Keyed->Nat}{l m:List Keyed}(h1:Sd rk l)(h2:Sd rk m)(h3:∀x∈l,∀y∈m,rk x<=rk y):Sd rk (l++m):=List.pairwise_append.mpr ⟨h1,h2,h3⟩
theorem Sd.nil{rk:Keyed->Nat}:Sd rk []:=List.Pairwise.nil
theorem Sd.one{rk:Keyed->Nat}(p:Keyed):Sd rk [p]:=List.pairwise_singleton _ _
theorem vT{rk:Keyed->Nat}{xs:Array Keyed}{i:Nat}{p:Keyed}(h:xs.toList[i]?=some p):R rk xs i=rk p:=Bf (by simpa using h)
theorem cG{xs:Array Keyed}{i:Nat}(h:i<xs.size):∃p,xs.toList[i]?=some p/\xs[i]?=some p/\p∈xs.toList:=⟨xs[i],by simp[h],by simp[h],by simp⟩
theorem dG{l:List Keyed}{x:Keyed}{i k:Nat}(h:x∈(l.drop i).take k):∃j,j<k/\l[i+j]?=some x:=by
 obtain⟨j,hj,e⟩:=List.mem_iff_getElem.mp h
 rw[List.getElem_take,List.getElem_drop]at e
 rw[List.length_take,List.length_drop]at hj
 exact⟨j,by omega,List.getElem?_eq_some_iff.mpr ⟨by omega,e⟩⟩
theorem jc{l:List Keyed}{x:Keyed}{i:Nat}(h:x∈l.drop i):∃j,l[i+j]?=some x:=by
 obtain⟨j,hj,e⟩:=List.mem_iff_getElem.mp h
 rw[List.getElem_drop]at e
 rw[List.length_drop]at hj
 exact⟨j,List.getElem?_eq_some_iff.mpr ⟨by omega,e⟩⟩
theorem rR{l:List Keyed}{x:Keyed}{i:Nat}(h:x∈l.take i):∃j,j<i/\l[j]?=some x:=by
 have h':x∈(l.drop 0).take i:=by simpa using h
 simpa using dG h'
theorem rS{rk:Keyed->Nat}{l:List Keyed}(h:Sd rk l){i j:Nat}{p q:Keyed}(IM:i<=j)(hp:l[i]?=some p)(hq:l[j]?=some q):rk p<=rk q:=by
 obtain⟨h1,e1⟩:=List.getElem?_eq_some_iff.mp hp
 obtain⟨h2,e2⟩:=List.getElem?_eq_some_iff.mp hq
 rcases Nat.lt_or_ge i j with hl|hl
 ·have:=List.pairwise_iff_getElem.mp h i j h1 h2 hl
  rw[e1,e2]at this
  exact this
 ·obtain rfl:i=j:=by omega
  rw[hp]at hq
  cases hq
  exact Nat.le_refl _
theorem q9{rk:Keyed->Nat}{l:List Keyed}{b:Nat}(h:Sd rk (l.drop b)){i j:Nat}{p q:Keyed}(IM:i<=j)(hp:l[b+i]?=some p)(hq:l[b+j]?=some q):rk p<=rk q:=
 rS h IM (by simpa using hp) (by simpa using hq)
theorem CY{rk:Keyed->Nat}{l:List Keyed}{b:Nat}(h:Sd rk (l.take b)){i j:Nat}{p q:Keyed}(IM:i<=j)(hj:j<b)(hp:l[i]?=some p)(hq:l[j]?=some q):rk p<=rk q:=
 rS h IM (by rw[List.getElem?_take,if_pos (by omega)];exact hp) (by rw[List.getElem?_take,if_pos (by omega)];exact hq)
structure ML(rk:Keyed->Nat)(la lb o:List Keyed)(ia ib:Nat):Prop where
 pm:o.Perm (la.take ia++lb.take ib)
 sa:Sd rk (o++la.drop ia)
 sb:Sd rk (o++lb.drop ib)
theorem ML.ga{rk:Keyed->Nat}{la lb o:List Keyed}{ia ib:Nat}(m:ML rk la lb o ia ib)(k:Nat)(h:∀x∈(la.drop ia).take k,∀y∈lb.drop ib,rk x<=rk y):ML rk la lb (o++(la.drop ia).take k) (ia+k) ib:=by
 have e:(la.drop ia).take k++la.drop (ia+k)=la.drop ia:=by rw[<-List.drop_drop,List.take_append_drop]
 refine⟨?_,?_,?_⟩
 ·rw[List.take_add]
  refine(m.pm.append_right _).trans ?_
  rw[List.append_assoc,List.append_assoc]
  exact List.Perm.append_left _ List.perm_append_comm
 ·rw[List.append_assoc,e]
  exact m.sa
 ·refine Sd.app ?_ m.sb.right λx hx y hy=>?_
  ·have:=m.sa
   rw[<-e,<-List.append_assoc]at this
   exact this.left
  ·rcases List.mem_append.mp hx with hx|hx
   ·exact m.sb.u0 x hx y hy
   ·exact h x hx y hy
theorem ML.swap{rk:Keyed->Nat}{la lb o:List Keyed}{ia ib:Nat}(m:ML rk la lb o ia ib):ML rk lb la o ib ia:=⟨m.pm.trans List.perm_append_comm,m.sb,m.sa⟩
theorem ML.gb{rk:Keyed->Nat}{la lb o:List Keyed}{ia ib:Nat}(m:ML rk la lb o ia ib)(k:Nat)(h:∀x∈(lb.drop ib).take k,∀y∈la.drop ia,rk x<=rk y):ML rk la lb (o++(lb.drop ib).take k) ia (ib+k):=(m.swap.ga k h).swap
theorem ik{l:List Keyed}{i:Nat}{p:Keyed}(h:l[i]?=some p):(l.drop i).take 1=[p]:=by
 obtain⟨h1,e1⟩:=List.getElem?_eq_some_iff.mp h
 rw[List.drop_eq_getElem_cons h1,e1]
 rfl
theorem ML.pa{rk:Keyed->Nat}{la lb o:List Keyed}{ia ib:Nat}(m:ML rk la lb o ia ib){p q:Keyed}(hp:la[ia]?=some p)(hq:lb[ib]?=some q)(h:rk p<=rk q):ML rk la lb (o++[p]) (ia+1) ib:=by
 have:=m.ga 1 (λx hx y hy=>by
  rw[ik hp]at hx
  obtain rfl:x=p:=by simpa using hx
  obtain⟨j,e⟩:=jc hy
  exact Nat.le_trans h (q9 m.sb.right (Nat.zero_le j) hq e))
 rw[ik hp]at this
 exact this
theorem ML.pb{rk:Keyed->Nat}{la lb o:List Keyed}{ia ib:Nat}(m:ML rk la lb o ia ib){p q:Keyed}(hp:la[ia]?=some p)(hq:lb[ib]?=some q)(h:rk q<=rk p):ML rk la lb (o++[q]) ia (ib+1):=(m.swap.pa hq hp h).swap
noncomputable def Mg(rk:Keyed->Nat)(la lb:List Keyed)(o:Array Keyed):Prop:=o.toList.Perm (la++lb)/\Sd rk o.toList
theorem lM{xs:Array Keyed}{i:Nat}:(xs.extract i xs.size).toList=xs.toList.drop i:=by
 rw[Array.toList_extract]
 unfold List.extract
 rw[List.take_of_length_le]
 rw[List.length_drop,Array.length_toList]
 exact Nat.le_refl _
theorem jd{xs:Array Keyed}{i k:Nat}:(xs.extract i (i+k)).toList=(xs.toList.drop i).take k:=by
 rw[Array.toList_extract]
 unfold List.extract
 congr 1
 omega
theorem ML.u3{rk:Keyed->Nat}{a b o:Array Keyed}{ia ib:Nat}(m:ML rk a.toList b.toList o.toList ia ib)(h:ib=b.size):Mg rk a.toList b.toList (o++a.extract ia a.size++b.extract ib b.size):=by
 unfold Mg
 rw[Array.toList_append,Array.toList_append,lM,lM]
 have e:b.toList.drop ib=[]:=List.drop_eq_nil_of_le (by simp[h])
 have e2:b.toList.take ib=b.toList:=List.take_of_length_le (by simp[h])
 have q:=m.pm
 rw[e2]at q
 rw[e,List.append_nil]
 refine⟨?_,m.sa⟩
 refine(q.append_right _).trans ?_
 refine(List.perm_append_comm.append_right _).trans ?_
 rw[List.append_assoc,List.take_append_drop]
 exact List.perm_append_comm
theorem ML.u5{rk:Keyed->Nat}{a b o:Array Keyed}{ia ib:Nat}(m:ML rk a.toList b.toList o.toList ia ib)(h:ia=a.size):Mg rk a.toList b.toList (o++a.extract ia a.size++b.extract ib b.size):=by
 unfold Mg
 rw[Array.toList_append,Array.toList_append,lM,lM]
 have e:a.toList.drop ia=[]:=List.drop_eq_nil_of_le (by simp[h])
 have e2:a.toList.take ia=a.toList:=List.take_of_length_le (by simp[h])
 have q:=m.pm
 rw[e2]at q
 rw[e,List.append_nil]
 refine⟨?_,m.sb⟩
 refine(q.append_right _).trans ?_
 rw[List.append_assoc,List.take_append_drop]
theorem ML.last{rk:Keyed->Nat}{a b o:Array Keyed}{ia ib:Nat}(m:ML rk a.toList b.toList o.toList ia ib)(h:ia+1=a.size){z:Keyed}(hz:a.toList[ia]?=some z)(hb:∀y∈b.toList,rk y<=rk z):
  Mg rk a.toList b.toList (o++b.extract ib b.size++a.extract ia a.size):=by
 unfold Mg
 rw[Array.toList_append,Array.toList_append,lM,lM]
 have e:a.toList.drop ia=[z]:=by
  rw[<-ik hz,List.take_of_length_le]
  simp
  omega
 refine⟨?_,?_⟩
 ·refine((m.pm.append_right _).append_right _).trans ?_
  rw[List.append_assoc,List.append_assoc]
  have e1:a.toList++b.toList=a.toList.take ia++(a.toList.drop ia++b.toList):=by rw[<-List.append_assoc,List.take_append_drop]
  rw[e1]
  refine List.Perm.append_left _ ?_
  rw[<-List.append_assoc,List.take_append_drop]
  exact List.perm_append_comm
 ·refine Sd.app m.sb m.sa.right λx hx y hy=>?_
  rcases List.mem_append.mp hx with hx|hx
  ·exact m.sa.u0 x hx y hy
  ·rw[e]at hy
   obtain rfl:y=z:=by simpa using hy
   exact hb x (List.mem_of_mem_drop hx)
structure Sm(st aN:SortSt):Prop where
 k:kindOf aN=kindOf st
 a:arrOf aN=arrOf st
 p:pendingOf aN=pendingOf st
 f:failedOf aN=failedOf st
theorem Sm.refl(st:SortSt):Sm st st:=⟨rfl,rfl,rfl,rfl⟩
theorem Sm.trans{st aN F8:SortSt}(x:Sm st aN)(y:Sm aN F8):Sm st F8:=⟨y.k.trans x.k,y.a.trans x.a,y.p.trans x.p,y.f.trans x.f⟩
section
variable{prog:Program}{w:World}{A:Around}{E:Value->Shared->Prop}{s:Shared}{kd:SortKind}{G:Keyed->Prop}{rk:Keyed->Nat}
theorem pd{M:Model}{g:Nat}{st:SortSt}{Q:Unit->SortSt->Prop}(q:∀aN,Sm st aN->Q () aN):wpS M A E s (nU g) Q st:=wpS_modify (q _ ⟨rfl,rfl,rfl,rfl⟩)
theorem rT{key:Keyed}{xs:Array Keyed}{b n:Nat}(h:Sd rk (xs.toList.drop b))(hn:b+n<=xs.size)(left:Bool):∀i j,i<=j->j<n->jt rk left key xs b j=true->jt rk left key xs b i=true:=by
 intro i j IM hj
 obtain⟨p,p1,p2,p3⟩:=cG (xs:=xs) (i:=b+i) (by omega)
 obtain⟨q,q1,q2,q3⟩:=cG (xs:=xs) (i:=b+j) (by omega)
 have:=q9 h IM p1 q1
 unfold jt
 rw[Bf p2,Bf q2]
 cases left<;>simp<;>omega
theorem rV{key:Keyed}{xs:Array Keyed}{n:Nat}(h:Sd rk (xs.toList.take n))(hn:n<=xs.size)(left:Bool):∀i j,i<=j->j<n->jt rk left key xs 0 j=true->jt rk left key xs 0 i=true:=by
 intro i j IM hj
 obtain⟨p,p1,p2,p3⟩:=cG (xs:=xs) (i:=0+i) (by omega)
 obtain⟨q,q1,q2,q3⟩:=cG (xs:=xs) (i:=0+j) (by omega)
 have:=CY h (i:=0+i) (j:=0+j) (by omega) (by omega) p1 q1
 unfold jt
 rw[Bf p2,Bf q2]
 cases left<;>simp<;>omega
theorem u9{key p:Keyed}{xs:Array Keyed}{b i:Nat}(hp:xs.toList[b+i]?=some p):jt rk true key xs b i=decide (rk p<rk key):=by
 unfold jt
 rw[vT hp]
 rfl
theorem va{key p:Keyed}{xs:Array Keyed}{b i:Nat}(hp:xs.toList[b+i]?=some p):jt rk false key xs b i=decide (rk p<=rk key):=by
 unfold jt
 rw[vT hp,if_neg (by decide)]
 by_cases h:rk p<=rk key
 ·rw[decide_eq_true h,decide_eq_false (by omega)]
  rfl
 ·rw[decide_eq_false h,decide_eq_true (by omega)]
  rfl
end
section
variable{prog:Program}{w:World}{A:Around}{E:Value->Shared->Prop}{s:Shared}{kd:SortKind}{G:Keyed->Prop}{rk:Keyed->Nat}
theorem a8{M:Model}{α:Type}{c:Prop}[Decidable c]{x y:StateT SortSt Sem α}{st:SortSt}{Q:α->SortSt->Prop}(h1:c->wpS M A E s x Q st)(h2:¬c->wpS M A E s y Q st):wpS M A E s (if c then x else y) Q st:=by
 by_cases h:c
 ·rw[if_pos h]
  exact h1 h
 ·rw[if_neg h]
  exact h2 h
theorem ML.rW{a b o:Array Keyed}{ia ib:Nat}(m:ML rk a.toList b.toList o.toList ia ib){p:Keyed}(hp:a.toList[ia]?=some p)(h:∀y∈b.toList.drop ib,rk p<=rk y):ML rk a.toList b.toList (o.push p).toList (ia+1) ib:=by
 have:=m.ga 1 (λx hx y hy=>by
  rw[ik hp]at hx
  obtain rfl:x=p:=by simpa using hx
  exact h y hy)
 rw[ik hp]at this
 rw[Array.toList_push]
 exact this
theorem ML.CZ{a b o:Array Keyed}{ia ib:Nat}(m:ML rk a.toList b.toList o.toList ia ib){p:Keyed}(hp:b.toList[ib]?=some p)(h:∀y∈a.toList.drop ia,rk p<=rk y):ML rk a.toList b.toList (o.push p).toList ia (ib+1):=(m.swap.rW hp h).swap
theorem ML.ME{a b o:Array Keyed}{ia ib:Nat}(m:ML rk a.toList b.toList o.toList ia ib)(k:Nat){p:Keyed}(hp:b.toList[ib]?=some p)(h:∀i,i<k->jt rk false p a ia i=true):ML rk a.toList b.toList (o++a.extract ia (ia+k)).toList (ia+k) ib:=by
 rw[Array.toList_append,jd]
 refine m.ga k λx hx y hy=>?_
 obtain⟨j,hj,ej⟩:=dG hx
 obtain⟨i,ei⟩:=jc hy
 have q1:=h j hj
 rw[va ej]at q1
 exact Nat.le_trans (of_decide_eq_true q1) (q9 m.sb.right (Nat.zero_le i) hp ei)
theorem ML.MF{a b o:Array Keyed}{ia ib:Nat}(m:ML rk a.toList b.toList o.toList ia ib)(k:Nat){p:Keyed}(hp:a.toList[ia]?=some p)(h:∀i,i<k->jt rk true p b ib i=true):ML rk a.toList b.toList (o++b.extract ib (ib+k)).toList ia (ib+k):=by
 rw[Array.toList_append,jd]
 refine m.gb k λx hx y hy=>?_
 obtain⟨j,hj,ej⟩:=dG hx
 obtain⟨i,ei⟩:=jc hy
 have q1:=h j hj
 rw[u9 ej]at q1
 exact Nat.le_trans (Nat.le_of_lt (of_decide_eq_true q1)) (q9 m.sa.right (Nat.zero_le i) hp ei)
theorem MG{a:Array Keyed}{ia k n:Nat}{p:Keyed}(h:∀i,k<=i->i<n->jt rk false p a ia i=false)(hn:ia+n=a.size):∀y∈a.toList.drop (ia+k),rk p<=rk y:=λy hy=>by
 obtain⟨j,e⟩:=jc hy
 have hj:=(List.getElem?_eq_some_iff.mp e).1
 rw[Array.length_toList]at hj
 have e':a.toList[ia+(k+j)]?=some y:=by rw[<-Nat.add_assoc];exact e
 have q:=h (k+j) (by omega) (by omega)
 rw[va e']at q
 have:=of_decide_eq_false q
 omega
theorem MI{a:Array Keyed}{ia k n:Nat}{p:Keyed}(h:∀i,k<=i->i<n->jt rk true p a ia i=false)(hn:ia+n=a.size):∀y∈a.toList.drop (ia+k),rk p<=rk y:=λy hy=>by
 obtain⟨j,e⟩:=jc hy
 have hj:=(List.getElem?_eq_some_iff.mp e).1
 rw[Array.length_toList]at hj
 have e':a.toList[ia+(k+j)]?=some y:=by rw[<-Nat.add_assoc];exact e
 have q:=h (k+j) (by omega) (by omega)
 rw[u9 e']at q
 have:=of_decide_eq_false q
 omega
noncomputable abbrev LT:=Option (Array Keyed)×Array Keyed×Nat×Nat×Nat×Nat×Nat
noncomputable abbrev LM:=StateT SortSt Sem (ForInStep LT)
noncomputable abbrev SE(a b o:Array Keyed)(i j g ac bc:Nat):LM:=elem' a i>>=λz=>if(i+1+1==a.size)=true then pure (.done (some (o.push z++b.extract j b.size++a.extract (i+1) a.size),o.push z,i+1,j,g,ac,bc))else if(decide (ac<7)&&decide (bc<7))=true then pure (.done (none,o.push z,i+1,j,g,ac,bc))else pure (.yield (none,o.push z,i+1,j,g,ac,bc))
noncomputable abbrev MJ(a b o:Array Keyed)(i kb g ac:Nat)(x:Keyed)(j:Nat):LM:=if j>0 then(if(kb+1+j==b.size)=true then pure (.done (some (o.push x++b.extract (kb+1) (kb+1+j)++a.extract i a.size++b.extract (kb+1+j) b.size),o.push x++b.extract (kb+1) (kb+1+j),i,kb+1+j,g,ac,j))else SE a b (o.push x++b.extract (kb+1) (kb+1+j)) i (kb+1+j) g ac j)else SE a b (o.push x) i (kb+1) g ac j
noncomputable abbrev SF(a b o:Array Keyed)(i kb g ac bc:Nat)(K:Keyed->Keyed->Option Nat->LM):LM:=elem' b kb>>=λx=>if(kb+1==b.size)=true then pure (.done (some (o.push x++a.extract i a.size++b.extract (kb+1) b.size),o.push x,i,kb+1,g,ac,bc))else elem' a i>>=λy=>nT true y b (kb+1) (b.size-(kb+1)) 0>>=K x y
noncomputable abbrev SG(a b o:Array Keyed)(ka kb g bc k:Nat)(K1 K2:Keyed->Keyed->Option Nat->LM):LM:=if k>0 then(if(ka+k+1==a.size)=true then pure (.done (some (o++a.extract ka (ka+k)++b.extract kb b.size++a.extract (ka+k) a.size),o++a.extract ka (ka+k),ka+k,kb,g,k,bc))else if(ka+k==a.size)=true then pure (.done (some (o++a.extract ka (ka+k)++a.extract (ka+k) a.size++b.extract kb b.size),o++a.extract ka (ka+k),ka+k,kb,g,k,bc))else SF a b (o++a.extract ka (ka+k)) (ka+k) kb g k bc K1)else SF a b o ka kb g k bc K2
noncomputable abbrev SH(a b:Array Keyed)(ka kb:Nat)(K:Keyed->Option Nat->LM):LM:=elem' b kb>>=λx=>nT false x a ka (a.size-ka) 0>>=K x
noncomputable def Py(rk:Keyed->Nat)(a b:Array Keyed)(st:SortSt)(n:Nat)(c:LT)(qY:SortSt):Prop:=Sm st qY/\∃o ka kb g ac bc,c=(none,o,ka,kb,g,ac,bc)/\ML rk a.toList b.toList o.toList ka kb/\ka+1<a.size/\kb<b.size/\n<=ka+kb
noncomputable def Pz(rk:Keyed->Nat)(a b:Array Keyed)(st:SortSt)(n:Nat)(c:LT)(qY:SortSt):Prop:=Sm st qY/\((∃r rest,c=(some r,rest)/\Mg rk a.toList b.toList r)\/∃o ka kb g ac bc,c=(none,o,ka,kb,g,ac,bc)/\ML rk a.toList b.toList o.toList ka kb/\ka+1<a.size/\kb<b.size/\n<=ka+kb)
theorem KZ{a b o:Array Keyed}{st lN:SortSt}{i j g ac bc n:Nat}{pa:Keyed}{M:Model}{R:ForInStep LT->SortSt->Prop}(hD:∀c aN,Pz rk a b st n c aN->R (.done c) aN)(hY:∀c aN,Py rk a b st n c aN->R (.yield c) aN)(gI:∀{o:Array Keyed} {ia ib:Nat},ML rk a.toList b.toList o.toList ia ib->ia+1=a.size->Mg rk a.toList b.toList (o++b.extract ib b.size++a.extract ia a.size))(pf:Sm st lN)
  (m:ML rk a.toList b.toList o.toList i j)(hl:i+1<a.size)(hj:j<b.size)(hn:n<=i+1+j)(yu:a.toList[i]?=some pa)(yv:a[i]?=some pa)(rn:∀y∈b.toList.drop j,rk pa<=rk y):
  wpS M A E s (SE a b o i j g ac bc) R lN:=by
 have m7:=m.rW yu rn
 refine wpS_bind (bL yv ?_)
 refine a8 (λe4=>wpS_pure (hD _ _ ⟨pf,.inl ⟨_,_,rfl,gI m7 (by simpa using e4)⟩⟩)) (λe4=>?_)
 have Om:=hl
 refine a8 (λe5=>wpS_pure (hD _ _ ⟨pf,.inr ⟨_,_,_,_,_,_,rfl,m7,?_,hj,?_⟩⟩)) (λe5=>wpS_pure (hY _ _ ⟨pf,_,_,_,_,_,_,rfl,m7,?_,hj,?_⟩))
 all_goals
  simp at e4
  omega
theorem K5(C:yq prog w A E s kd G rk){a b o:Array Keyed}{st lN:SortSt}{i kb g ac bc n:Nat}{pb:Keyed}{R:ForInStep LT->SortSt->Prop}{K:Keyed->Keyed->Option Nat->LM}(hK:∀x y j,K x y (some j)=MJ a b o i kb g ac x j)(hD:∀c aN,Pz rk a b st n c aN->R (.done c) aN)(hY:∀c aN,Py rk a b st n c aN->R (.yield c) aN)(F9:kindOf lN=kd)(ga:Gd G a)(gb:Gd G b)(gI:∀{o:Array Keyed} {ia ib:Nat},ML rk a.toList b.toList o.toList ia ib->ia+1=a.size->Mg rk a.toList b.toList (o++b.extract ib b.size++a.extract ia a.size))(pf:Sm st lN)
  (mm:ML rk a.toList b.toList o.toList i kb)(hl:i+1<a.size)(f2:kb<b.size)(hn:n<=i+kb)(vb:b.toList[kb]?=some pb)(vU:b[kb]?=some pb)(rr:∀y∈a.toList.drop i,rk pb<=rk y):
  wpS (model prog w) A E s (SF a b o i kb g ac bc K) R lN:=by
 have m5:=mm.CZ vb rr
 refine wpS_bind (bL vU ?_)
 refine a8 (λd1=>wpS_pure (hD _ _ ⟨pf,.inl ⟨_,_,rfl,m5.u3 (by simpa using d1)⟩⟩)) (λd1=>?_)
 have Rx:kb+1<b.size:=by
  simp at d1
  omega
 obtain⟨pa,yu,yv,MK⟩:=cG (xs:=a) (Nat.lt_of_succ_lt hl)
 refine wpS_bind (bL yv (wpS_bind (gw C (left:=true) (key:=pa) (xs:=b) (base:=kb+1) (n:=b.size-(kb+1)) (hint:=0) F9 gb (ga _ MK) (by omega) (by omega) (rT m5.sb.right (by omega) true) λj j1 j2 j3=>?_)))
 rw[hK]
 have m6:=m5.MF j yu j2
 have r6:∀y∈b.toList.drop (kb+1+j),rk pa<=rk y:=MI j3 (by omega)
 refine a8 (λjp=>a8 (λe3=>wpS_pure (hD _ _ ⟨pf,.inl ⟨_,_,rfl,m6.u3 (by simpa using e3)⟩⟩)) λe3=>?_) (λjp=>?_)
 ·have hn:kb+1+j<b.size:=by
    simp at e3
    omega
  exact KZ hD hY gI pf m6 hl hn (by omega) yu yv r6
 ·obtain rfl:j=0:=by omega
  exact KZ hD hY gI pf m5 hl Rx (by omega) yu yv r6
theorem K7(C:yq prog w A E s kd G rk){a b o:Array Keyed}{st lN:SortSt}{ka kb g bc n:Nat}{R:ForInStep LT->SortSt->Prop}{K0:Keyed->Option Nat->LM}{K1 K2:Nat->Keyed->Keyed->Option Nat->LM}(MM:∀x k,K0 x (some k)=SG a b o ka kb g bc k (K1 k) (K2 k))
  (MN:∀k x y j,K1 k x y (some j)=MJ a b (o++a.extract ka (ka+k)) (ka+k) kb g k x j)(MO:∀k x y j,K2 k x y (some j)=MJ a b o ka kb g k x j)(hD:∀c aN,Pz rk a b st n c aN->R (.done c) aN)(hY:∀c aN,Py rk a b st n c aN->R (.yield c) aN)(F9:kindOf lN=kd)(ga:Gd G a)(gb:Gd G b)(gI:∀{o:Array Keyed} {ia ib:Nat},ML rk a.toList b.toList o.toList ia ib->ia+1=a.size->Mg rk a.toList b.toList (o++b.extract ib b.size++a.extract ia a.size))(pf:Sm st lN)
  (m3:ML rk a.toList b.toList o.toList ka kb)(f1:ka+1<a.size)(f2:kb<b.size)(f3:n<=ka+kb):
  wpS (model prog w) A E s (SH a b ka kb K0) R lN:=by
 obtain⟨pb,vb,vU,Jt⟩:=cG (xs:=b) (i:=kb) (by omega)
 refine wpS_bind (bL vU (wpS_bind (gw C (left:=false) (key:=pb) (xs:=a) (base:=ka) (n:=a.size-ka) (hint:=0) F9 ga (gb _ Jt) (by omega) (by omega) (rT m3.sa.right (by omega) false) λk k1 k2 k3=>?_)))
 rw[MM]
 have m4:=m3.ME k vb k2
 have r4:∀y∈a.toList.drop (ka+k),rk pb<=rk y:=MG k3 (by omega)
 refine a8 (λkp=>a8 (λe1=>wpS_pure (hD _ _ ⟨pf,.inl ⟨_,_,rfl,gI m4 (by simpa using e1)⟩⟩)) λe1=>a8 (λe2=>wpS_pure (hD _ _ ⟨pf,.inl ⟨_,_,rfl,m4.u5 (by simpa using e2)⟩⟩)) λe2=>?_) (λkp=>?_)
 ·have hl:ka+k+1<a.size:=by
    simp at e1 e2
    omega
  exact K5 C (MN k) hD hY F9 ga gb gI pf m4 hl f2 (by omega) vb vU r4
 ·obtain rfl:k=0:=by omega
  exact K5 C (MO 0) hD hY F9 ga gb gI pf m3 f1 f2 f3 vb vU r4
theorem Ju(C:yq prog w A E s kd G rk){a b:Array Keyed}{st bJ:SortSt}{lo hi n:Nat}{c0:LT}{f:Nat->LT->LM}{K0 L0:Array Keyed->Nat->Nat->Nat->Nat->Nat->Keyed->Option Nat->LM}{K1 K2 L1 L2:Array Keyed->Nat->Nat->Nat->Nat->Nat->Nat->Keyed->Keyed->Option Nat->LM}
  (hf:∀y o ka kb g ac bc,f y (none,o,ka,kb,g,ac,bc)=(if g>1 then nU (g-1)>>=λ_=>SH a b ka kb (K0 o ka kb g ac bc)else nU g>>=λ_=>SH a b ka kb (L0 o ka kb g ac bc)))
  (MM:∀o ka kb g ac bc x k,K0 o ka kb g ac bc x (some k)=SG a b o ka kb (g-1) bc k (K1 o ka kb g ac bc k) (K2 o ka kb g ac bc k))(MN:∀o ka kb g ac bc k x y j,K1 o ka kb g ac bc k x y (some j)=MJ a b (o++a.extract ka (ka+k)) (ka+k) kb (g-1) k x j)(MO:∀o ka kb g ac bc k x y j,K2 o ka kb g ac bc k x y (some j)=MJ a b o ka kb (g-1) k x j)
  (SI:∀o ka kb g ac bc x k,L0 o ka kb g ac bc x (some k)=SG a b o ka kb g bc k (L1 o ka kb g ac bc k) (L2 o ka kb g ac bc k))(SJ:∀o ka kb g ac bc k x y j,L1 o ka kb g ac bc k x y (some j)=MJ a b (o++a.extract ka (ka+k)) (ka+k) kb g k x j)(SK:∀o ka kb g ac bc k x y j,L2 o ka kb g ac bc k x y (some j)=MJ a b o ka kb g k x j)
  (hk:kindOf st=kd)(ga:Gd G a)(gb:Gd G b)(gI:∀{o:Array Keyed} {ia ib:Nat},ML rk a.toList b.toList o.toList ia ib->ia+1=a.size->Mg rk a.toList b.toList (o++b.extract ib b.size++a.extract ia a.size))(h:Py rk a b st n c0 bJ):
  wpS (model prog w) A E s (forIn [lo:hi] c0 f) (Pz rk a b st n) bJ:=by
 refine wpS_forRange (I:=λ_=>Py rk a b st n) (Q:=Pz rk a b st n) ?gstep ?gfin h
 case gfin=>
  rintro c qY ⟨vV,r⟩
  exact⟨vV,.inr r⟩
 case gstep=>
  rintro y c qY-hy ⟨vV,o3,ka,kb,g,ac,bc,rfl,m3,f1,f2,f3⟩
  rw[hf]
  refine a8 (λ_=>wpS_bind (pd λlN Bg=>?_)) (λ_=>wpS_bind (pd λlN Bg=>?_))
  ·exact K7 C (n:=n) (λx k=>MM o3 ka kb g ac bc x k) (λk x y j=>MN o3 ka kb g ac bc k x y j) (λk x y j=>MO o3 ka kb g ac bc k x y j) (λ_ _ h=>h) (λ_ _ h=>h) ((vV.trans Bg).k.trans hk) ga gb gI (vV.trans Bg) m3 f1 f2 f3
  ·exact K7 C (n:=n) (λx k=>SI o3 ka kb g ac bc x k) (λk x y j=>SJ o3 ka kb g ac bc k x y j) (λk x y j=>SK o3 ka kb g ac bc k x y j) (λ_ _ h=>h) (λ_ _ h=>h) ((vV.trans Bg).k.trans hk) ga gb gI (vV.trans Bg) m3 f1 f2 f3
theorem Bh(C:yq prog w A E s kd G rk){a b:Array Keyed}{st:SortSt}{Q:Array Keyed->SortSt->Prop}(hk:kindOf st=kd)(ga:Gd G a)(gb:Gd G b)(sa:Sd rk a.toList)(sb:Sd rk b.toList)(na:1<=a.size)(nb:1<=b.size)
  {p0 q0 z:Keyed}(U0:a.toList[0]?=some p0)(cL:b.toList[0]?=some q0)(h0:rk q0<=rk p0)(hz:a.toList[a.size-1]?=some z)(SM:∀y∈b.toList,rk y<=rk z)
  (q:∀o aN,Sm st aN->Mg rk a.toList b.toList o->Q o aN):wpS (model prog w) A E s (F5 a b) Q st:=by
 refine wpS_bind (wpS_lift (wpAny_rule ⟨rfl,?_⟩))
 refine wpS_bind (bL (p:=q0) (by simpa using cL) ?_)
 have m0:ML rk a.toList b.toList (#[q0]:Array Keyed).toList 0 1:=by
  refine⟨?_,?_,?_⟩
  ·have:=ik cL
   simp at this
   simp[this]
  ·refine Sd.app (Sd.one q0) (by simpa using sa) λx hx y hy=>?_
   obtain rfl:x=q0:=by simpa using hx
   obtain⟨j,e⟩:=jc hy
   exact Nat.le_trans h0 (rS sa (Nat.zero_le _) U0 e)
  ·have e:[q0]++b.toList.drop 1=b.toList:=by
     obtain⟨h1,e1⟩:=List.getElem?_eq_some_iff.mp cL
     have:=List.drop_eq_getElem_cons h1
     rw[e1]at this
     simpa using this.symm
   show Sd rk ([q0]++b.toList.drop 1)
   rw[e]
   exact sb
 by_cases c1:1=b.size
 ·rw[if_pos (by simpa using c1)]
  exact wpS_pure (q _ _ (Sm.refl _) (m0.u3 c1))
 rw[if_neg (by simpa using c1)]
 have gI:∀{o:Array Keyed} {ia ib:Nat},ML rk a.toList b.toList o.toList ia ib->ia+1=a.size->Mg rk a.toList b.toList (o++b.extract ib b.size++a.extract ia a.size):=λ{o ia ib} m e=>m.last e (by rw[show ia=a.size-1 by omega];exact hz) SM
 by_cases c2:0+1=a.size
 ·rw[if_pos (by simpa using c2)]
  exact wpS_pure (q _ _ (Sm.refl _) (gI m0 c2))
 rw[if_neg (by simpa using c2)]
 refine wpS_bind (wpS_get ?_)
 dsimp only
 refine wpS_bind (wpS_mono (wpS_forRange (I:=λx c aN=>Sm st aN/\∃o ia ib g,c=(none,o,ia,ib,g)/\ML rk a.toList b.toList o.toList ia ib/\ia+1<a.size/\ib<b.size/\x+1<=ia+ib)
  (Q:=λc aN=>Sm st aN/\∃r rest,c=(some r,rest)/\Mg rk a.toList b.toList r) ?step ?fin ⟨Sm.refl _,_,0,1,_,rfl,m0,by omega,by omega,by omega⟩) ?post)
 case post=>
  rintro c aN ⟨sm,r,rest,rfl,mg⟩
  exact wpS_pure (q r aN sm mg)
 case fin=>
  rintro c aN ⟨-,o,ia,ib,g,-,-,h1,h2,h3⟩
  omega
 case step=>
  rintro x c aN-hx ⟨sm,o,ia,ib,g,rfl,m,h1,h2,h3⟩
  dsimp only
  refine wpS_bind (wpS_mono (wpS_forRange (I:=λy c bJ=>Sm st bJ/\∃o ja jb ac bc,c=(none,o,ja,jb,ac,bc)/\ML rk a.toList b.toList o.toList ja jb/\ja+1<a.size/\jb<b.size/\ia+ib+y<=ja+jb)
   (Q:=λc bJ=>Sm st bJ/\((∃r rest,c=(some r,rest)/\Mg rk a.toList b.toList r)\/∃o ja jb ac bc,c=(none,o,ja,jb,ac,bc)/\ML rk a.toList b.toList o.toList ja jb/\ja+1<a.size/\jb<b.size/\ia+ib+1<=ja+jb))
   ?istep ?ifin ⟨sm,_,ia,ib,0,0,rfl,m,h1,h2,by omega⟩) ?ipost)
  case ifin=>
   rintro c bJ ⟨-,o,ja,jb,ac,bc,-,-,g1,g2,g3⟩
   omega
  case istep=>
   rintro y c bJ-hy ⟨oY,o2,ja,jb,ac,bc,rfl,m2,g1,g2,g3⟩
   dsimp only
   obtain⟨pa,yu,yv,MK⟩:=cG (xs:=a) (i:=ja) (by omega)
   obtain⟨pb,vb,vU,Jt⟩:=cG (xs:=b) (i:=jb) (by omega)
   refine wpS_bind (bL vU (wpS_bind (bL yv (wpS_bind (C pb pa bJ _ (oY.k.trans hk) (gb _ Jt) (ga _ MK) ?_)))))
   by_cases hw:rk pb<rk pa
   ·rw[decide_eq_true hw]
    refine wpS_bind (bL vU ?_)
    have m3:ML rk a.toList b.toList (o2.push pb).toList ja (jb+1):=by
     rw[Array.toList_push]
     exact m2.pb yu vb (Nat.le_of_lt hw)
    by_cases d1:jb+1=b.size
    ·rw[if_pos (by simpa using d1)]
     exact wpS_pure ⟨oY,.inl ⟨_,_,rfl,m3.u3 d1⟩⟩
    rw[if_neg (by simpa using d1)]
    by_cases d2:bc+1≥g
    ·rw[if_pos d2]
     exact wpS_pure ⟨oY,.inr ⟨_,ja,jb+1,_,_,rfl,m3,g1,by omega,by omega⟩⟩
    ·rw[if_neg d2]
     exact wpS_pure ⟨oY,_,ja,jb+1,_,_,rfl,m3,g1,by omega,by omega⟩
   ·rw[decide_eq_false hw]
    refine wpS_bind (bL yv ?_)
    have m3:ML rk a.toList b.toList (o2.push pa).toList (ja+1) jb:=by
     rw[Array.toList_push]
     exact m2.pa yu vb (by omega)
    by_cases d1:ja+1+1=a.size
    ·rw[if_pos (by simpa using d1)]
     exact wpS_pure ⟨oY,.inl ⟨_,_,rfl,gI m3 d1⟩⟩
    rw[if_neg (by simpa using d1)]
    by_cases d2:ac+1≥g
    ·rw[if_pos d2]
     exact wpS_pure ⟨oY,.inr ⟨_,ja+1,jb,_,_,rfl,m3,by omega,g2,by omega⟩⟩
    ·rw[if_neg d2]
     exact wpS_pure ⟨oY,_,ja+1,jb,_,_,rfl,m3,by omega,g2,by omega⟩
  case ipost=>
   rintro c bJ ⟨oY,⟨r,rest,rfl,mg⟩|⟨o2,ja,jb,ac,bc,rfl,m2,g1,g2,g3⟩⟩
   ·exact wpS_pure ⟨oY,_,_,rfl,mg⟩
   dsimp only
   refine wpS_bind (wpS_lift (wpAny_rule ⟨rfl,?_⟩))
   refine wpS_bind (wpS_mono (Ju C (n:=ja+jb) (λ_ _ _ _ _ _ _=>rfl) (λ_ _ _ _ _ _ _ _=>rfl) (λ_ _ _ _ _ _ _ _ _ _=>rfl) (λ_ _ _ _ _ _ _ _ _ _=>rfl) (λ_ _ _ _ _ _ _ _=>rfl) (λ_ _ _ _ _ _ _ _ _ _=>rfl) (λ_ _ _ _ _ _ _ _ _ _=>rfl) hk ga gb gI ⟨oY,_,ja,jb,_,_,_,rfl,m2,g1,g2,by omega⟩) ?gpost)
   case gpost=>
    rintro c qY ⟨vV,⟨r,rest,rfl,mg⟩|⟨o3,ka,kb,g,ac,bc,rfl,m3,f1,f2,f3⟩⟩
    ·exact wpS_pure ⟨vV,_,_,rfl,mg⟩
    dsimp only
    refine wpS_bind (pd λlN Bg=>wpS_pure ⟨vV.trans Bg,_,ka,kb,_,rfl,m3,f1,f2,by omega⟩)
end
structure MH(rk:Keyed->Nat)(la lb o:List Keyed)(na nb:Nat):Prop where
 pm:o.Perm (la.drop na++lb.drop nb)
 sa:Sd rk (la.take na++o)
 sb:Sd rk (lb.take nb++o)
theorem Jv(l:List Keyed){i n:Nat}(h:i<=n):l.take n=l.take i++(l.drop i).take (n-i):=by
 rw[<-List.take_add]
 congr 1
 omega
theorem C0(l:List Keyed){i n:Nat}(h:i<=n):l.drop i=(l.drop i).take (n-i)++l.drop n:=by
 have:l.drop n=(l.drop i).drop (n-i):=by
  rw[List.drop_drop]
  congr 1
  omega
 rw[this,List.take_append_drop]
theorem MH.ga{rk:Keyed->Nat}{la lb o:List Keyed}{na nb:Nat}(m:MH rk la lb o na nb)(i:Nat)(hi:i<=na)(h:∀x∈(la.drop i).take (na-i),∀y∈lb.take nb,rk y<=rk x):MH rk la lb ((la.drop i).take (na-i)++o) i nb:=by
 have e:=Jv la hi
 refine⟨?_,?_,?_⟩
 ·refine(m.pm.append_left _).trans ?_
  rw[<-List.append_assoc,<-C0 la hi]
 ·rw[<-List.append_assoc,<-e]
  exact m.sa
 ·have s1:=m.sa
  rw[e,List.append_assoc]at s1
  refine Sd.app m.sb.left s1.right λx hx y hy=>?_
  rcases List.mem_append.mp hy with hy|hy
  ·exact h y hy x hx
  ·exact m.sb.u0 x hx y hy
theorem MH.swap{rk:Keyed->Nat}{la lb o:List Keyed}{na nb:Nat}(m:MH rk la lb o na nb):MH rk lb la o nb na:=⟨m.pm.trans List.perm_append_comm,m.sb,m.sa⟩
theorem yw{l:List Keyed}{n:Nat}{p:Keyed}(hn:1<=n)(h:l[n-1]?=some p):(l.drop (n-1)).take (n-(n-1))=[p]:=by
 rw[show n-(n-1)=1 by omega]
 exact ik h
section
variable{prog:Program}{w:World}{A:Around}{E:Value->Shared->Prop}{s:Shared}{kd:SortKind}{G:Keyed->Prop}{rk:Keyed->Nat}
theorem MH.rW{a b o:Array Keyed}{na nb:Nat}(m:MH rk a.toList b.toList o.toList.reverse na nb)(hn:1<=na){p:Keyed}(hp:a.toList[na-1]?=some p)(h:∀y∈b.toList.take nb,rk y<=rk p):MH rk a.toList b.toList (o.push p).toList.reverse (na-1) nb:=by
 have:=m.ga (na-1) (by omega) (λx hx y hy=>by
  rw[yw hn hp]at hx
  obtain rfl:x=p:=by simpa using hx
  exact h y hy)
 rw[yw hn hp]at this
 rw[Array.toList_push,List.reverse_append]
 exact this
theorem MH.CZ{a b o:Array Keyed}{na nb:Nat}(m:MH rk a.toList b.toList o.toList.reverse na nb)(hn:1<=nb){p:Keyed}(hp:b.toList[nb-1]?=some p)(h:∀y∈a.toList.take na,rk y<=rk p):MH rk a.toList b.toList (o.push p).toList.reverse na (nb-1):=(m.swap.rW hn hp h).swap
theorem yx{xs o:Array Keyed}{i n:Nat}(h:i<=n):(o++(xs.extract i n).reverse).toList.reverse=(xs.toList.drop i).take (n-i)++o.toList.reverse:=by
 rw[Array.toList_append,List.reverse_append,Array.toList_reverse,List.reverse_reverse]
 congr 1
 have:=jd (xs:=xs) (i:=i) (k:=n-i)
 rw[show i+(n-i)=n by omega]at this
 exact this
theorem le_last{l:List Keyed}{n:Nat}{p y:Keyed}(h:Sd rk (l.take n))(hn:1<=n)(hp:l[n-1]?=some p)(hy:y∈l.take n):rk y<=rk p:=by
 obtain⟨j,hj,e⟩:=rR hy
 exact CY h (by omega) (by omega) e hp
theorem MH.ME{a b o:Array Keyed}{na nb i:Nat}(m:MH rk a.toList b.toList o.toList.reverse na nb)(hi:i<=na){p:Keyed}(hn:1<=nb)(hp:b.toList[nb-1]?=some p)(h:∀j,i<=j->j<na->jt rk false p a 0 j=false):MH rk a.toList b.toList (o++(a.extract i na).reverse).toList.reverse i nb:=by
 rw[yx hi]
 refine m.ga i hi λx hx y hy=>?_
 obtain⟨j,hj,ej⟩:=dG hx
 have q1:=h (i+j) (by omega) (by omega)
 rw[va (by rw[Nat.zero_add];exact ej)]at q1
 have q2:=of_decide_eq_false q1
 have q3:=le_last m.sb.left hn hp hy
 omega
theorem MH.MF{a b o:Array Keyed}{na nb i:Nat}(m:MH rk a.toList b.toList o.toList.reverse na nb)(hi:i<=nb){p:Keyed}(hn:1<=na)(hp:a.toList[na-1]?=some p)(h:∀j,i<=j->j<nb->jt rk true p b 0 j=false):MH rk a.toList b.toList (o++(b.extract i nb).reverse).toList.reverse na i:=by
 rw[yx hi]
 refine(m.swap.ga i hi λx hx y hy=>?_).swap
 obtain⟨j,hj,ej⟩:=dG hx
 have q1:=h (i+j) (by omega) (by omega)
 rw[u9 (by rw[Nat.zero_add];exact ej)]at q1
 have q2:=of_decide_eq_false q1
 have q3:=le_last m.sa.left hn hp hy
 omega
theorem MP{a:Array Keyed}{k:Nat}{p:Keyed}(h:∀i,i<k->jt rk false p a 0 i=true):∀y∈a.toList.take k,rk y<=rk p:=λy hy=>by
 obtain⟨j,hj,e⟩:=rR hy
 have q:=h j hj
 rw[va (by rw[Nat.zero_add];exact e)]at q
 exact of_decide_eq_true q
theorem MQ{a:Array Keyed}{k:Nat}{p:Keyed}(h:∀i,i<k->jt rk true p a 0 i=true):∀y∈a.toList.take k,rk y<=rk p:=λy hy=>by
 obtain⟨j,hj,e⟩:=rR hy
 have q:=h j hj
 rw[u9 (by rw[Nat.zero_add];exact e)]at q
 exact Nat.le_of_lt (of_decide_eq_true q)
theorem je{xs:Array Keyed}{n:Nat}:(xs.extract 0 n).toList=xs.toList.take n:=by
 have:=jd (xs:=xs) (i:=0) (k:=n)
 simpa using this
theorem MH.u5{a b o:Array Keyed}{na nb:Nat}(m:MH rk a.toList b.toList o.toList.reverse na nb)(h:na=0):Mg rk a.toList b.toList (a.extract 0 na++b.extract 0 nb++o.reverse):=by
 unfold Mg
 rw[Array.toList_append,Array.toList_append,je,je,Array.toList_reverse]
 have q:=m.pm
 subst h
 rw[List.drop_zero]at q
 rw[List.take_zero,List.nil_append]
 refine⟨?_,m.sb⟩
 refine(q.append_left _).trans ?_
 refine List.perm_append_comm.trans ?_
 rw[List.append_assoc]
 refine List.Perm.append_left _ (List.perm_append_comm.trans ?_)
 rw[List.take_append_drop]
theorem MH.u3{a b o:Array Keyed}{na nb:Nat}(m:MH rk a.toList b.toList o.toList.reverse na nb)(h:nb=0):Mg rk a.toList b.toList (a.extract 0 na++b.extract 0 nb++o.reverse):=by
 unfold Mg
 rw[Array.toList_append,Array.toList_append,je,je,Array.toList_reverse]
 have q:=m.pm
 subst h
 rw[List.drop_zero]at q
 rw[List.take_zero,List.append_nil]
 refine⟨?_,m.sa⟩
 refine(q.append_left _).trans ?_
 rw[<-List.append_assoc,List.take_append_drop]
theorem MH.first{a b o:Array Keyed}{na nb:Nat}(m:MH rk a.toList b.toList o.toList.reverse na nb)(h:nb=1){z:Keyed}(hz:b.toList[0]?=some z)(ha:∀y∈a.toList,rk z<=rk y):Mg rk a.toList b.toList (b.extract 0 nb++a.extract 0 na++o.reverse):=by
 unfold Mg
 rw[Array.toList_append,Array.toList_append,je,je,Array.toList_reverse]
 subst h
 have e:b.toList.take 1=[z]:=by
  have:=ik hz
  simpa using this
 refine⟨?_,?_⟩
 ·refine(m.pm.append_left _).trans ?_
  have e1:a.toList++b.toList=a.toList++(b.toList.take 1++b.toList.drop 1):=by rw[List.take_append_drop]
  have e2:(b.toList.take 1++a.toList.take na)++(a.toList.drop na++b.toList.drop 1)=b.toList.take 1++(a.toList++b.toList.drop 1):=by
   rw[List.append_assoc,<-List.append_assoc (a.toList.take na),List.take_append_drop]
  rw[e1,e2,<-List.append_assoc,<-List.append_assoc]
  exact List.perm_append_comm.append_right _
 ·rw[List.append_assoc]
  refine Sd.app m.sb.left m.sa λx hx y hy=>?_
  rw[e]at hx
  obtain rfl:x=z:=by simpa using hx
  rcases List.mem_append.mp hy with hy|hy
  ·exact ha y (List.mem_of_mem_take hy)
  ·exact m.sb.u0 x (by rw[e];simp) y hy
noncomputable abbrev HT:=Option (Array Keyed)×Nat×Nat×Array Keyed×Nat×Nat×Nat
noncomputable abbrev HM:=StateT SortSt Sem (ForInStep HT)
noncomputable abbrev SN(a b o:Array Keyed)(i j g ac bc:Nat):HM:=elem' a (i-1)>>=λz=>if(i-1==0)=true then pure (.done (some (a.extract 0 (i-1)++b.extract 0 j++(o.push z).reverse),i-1,j,o.push z,g,ac,bc))else if(decide (ac<7)&&decide (bc<7))=true then pure (.done (none,i-1,j,o.push z,g,ac,bc))else pure (.yield (none,i-1,j,o.push z,g,ac,bc))
noncomputable abbrev MR(a b o:Array Keyed)(k kb g ac:Nat)(x:Keyed)(j:Nat):HM:=if kb-1-j>0 then(if(j==1)=true then pure (.done (some (b.extract 0 j++a.extract 0 k++(o.push x++(b.extract j (kb-1)).reverse).reverse),k,j,o.push x++(b.extract j (kb-1)).reverse,g,ac,kb-1-j))else if(j==0)=true then pure (.done (some (a.extract 0 k++b.extract 0 j++(o.push x++(b.extract j (kb-1)).reverse).reverse),k,j,o.push x++(b.extract j (kb-1)).reverse,g,ac,kb-1-j))else SN a b (o.push x++(b.extract j (kb-1)).reverse) k j g ac (kb-1-j))else SN a b (o.push x) k (kb-1) g ac (kb-1-j)
noncomputable abbrev SO(a b o:Array Keyed)(k kb g ac bc:Nat)(K:Keyed->Keyed->Option Nat->HM):HM:=elem' b (kb-1)>>=λx=>if(kb-1==1)=true then pure (.done (some (b.extract 0 (kb-1)++a.extract 0 k++(o.push x).reverse),k,kb-1,o.push x,g,ac,bc))else elem' a (k-1)>>=λy=>nT true y b 0 (kb-1) (kb-1-1)>>=K x y
noncomputable abbrev SQ(a b o:Array Keyed)(ka kb g bc k:Nat)(K1 K2:Keyed->Keyed->Option Nat->HM):HM:=if ka-k>0 then(if(k==0)=true then pure (.done (some (a.extract 0 k++b.extract 0 kb++(o++(a.extract k ka).reverse).reverse),k,kb,o++(a.extract k ka).reverse,g,ka-k,bc))else SO a b (o++(a.extract k ka).reverse) k kb g (ka-k) bc K1)else SO a b o ka kb g (ka-k) bc K2
noncomputable abbrev SR(a b:Array Keyed)(ka kb:Nat)(K:Keyed->Option Nat->HM):HM:=elem' b (kb-1)>>=λx=>nT false x a 0 ka (ka-1)>>=K x
noncomputable def PB(rk:Keyed->Nat)(a b:Array Keyed)(st:SortSt)(n:Nat)(c:HT)(qY:SortSt):Prop:=
 Sm st qY/\∃ka kb o g ac bc,c=(none,ka,kb,o,g,ac,bc)/\MH rk a.toList b.toList o.toList.reverse ka kb/\1<=ka/\2<=kb/\ka<=a.size/\kb<=b.size/\ka+kb<=n
noncomputable def PC(rk:Keyed->Nat)(a b:Array Keyed)(st:SortSt)(n:Nat)(c:HT)(qY:SortSt):Prop:=
 Sm st qY/\((∃r rest,c=(some r,rest)/\Mg rk a.toList b.toList r)\/∃ka kb o g ac bc,c=(none,ka,kb,o,g,ac,bc)/\MH rk a.toList b.toList o.toList.reverse ka kb/\1<=ka/\2<=kb/\ka<=a.size/\kb<=b.size/\ka+kb<=n)
theorem K8{a b o:Array Keyed}{st lN:SortSt}{i j g ac bc n:Nat}{pa:Keyed}{M:Model}{R:ForInStep HT->SortSt->Prop}(hD:∀c aN,PC rk a b st n c aN->R (.done c) aN)(hY:∀c aN,PB rk a b st n c aN->R (.yield c) aN)(pf:Sm st lN)(m:MH rk a.toList b.toList o.toList.reverse i j)(hi:1<=i)(ia:i<=a.size)(hj:2<=j)(jb:j<=b.size)(hn:i-1+j<=n)
  (yu:a.toList[i-1]?=some pa)(yv:a[i-1]?=some pa)(rn:∀y∈b.toList.take j,rk y<=rk pa):
  wpS M A E s (SN a b o i j g ac bc) R lN:=by
 have m7:=m.rW hi yu rn
 refine wpS_bind (bL yv ?_)
 refine a8 (λe4=>wpS_pure (hD _ _ ⟨pf,.inl ⟨_,_,rfl,m7.u5 (by simpa using e4)⟩⟩)) (λe4=>?_)
 have Wf:¬i-1=0:=by simpa using e4
 refine a8 (λe5=>wpS_pure (hD _ _ ⟨pf,.inr ⟨_,_,_,_,_,_,rfl,m7,?_,hj,?_,?_,?_⟩⟩)) (λe5=>wpS_pure (hY _ _ ⟨pf,_,_,_,_,_,_,rfl,m7,?_,hj,?_,?_,?_⟩))
 all_goals omega
theorem K9(C:yq prog w A E s kd G rk){a b o:Array Keyed}{st lN:SortSt}{k kb g ac bc n:Nat}{pb q0:Keyed}{R:ForInStep HT->SortSt->Prop}{K:Keyed->Keyed->Option Nat->HM}(hK:∀x y j,K x y (some j)=MR a b o k kb g ac x j)(hD:∀c aN,PC rk a b st n c aN->R (.done c) aN)(hY:∀c aN,PB rk a b st n c aN->R (.yield c) aN)(F9:kindOf lN=kd)(ga:Gd G a)(gb:Gd G b)(cL:b.toList[0]?=some q0)(h0:∀y∈a.toList,rk q0<=rk y)(pf:Sm st lN)
  (mm:MH rk a.toList b.toList o.toList.reverse k kb)(hl:1<=k)(ha:k<=a.size)(f2:2<=kb)(f4:kb<=b.size)(hn:k+kb<=n)(vb:b.toList[kb-1]?=some pb)(vU:b[kb-1]?=some pb)(rr:∀y∈a.toList.take k,rk y<=rk pb):
  wpS (model prog w) A E s (SO a b o k kb g ac bc K) R lN:=by
 have m5:=mm.CZ (by omega) vb rr
 refine wpS_bind (bL vU ?_)
 refine a8 (λd1=>wpS_pure (hD _ _ ⟨pf,.inl ⟨_,_,rfl,m5.first (by simpa using d1) cL h0⟩⟩)) (λd1=>?_)
 have Rx:¬kb-1=1:=by simpa using d1
 obtain⟨pa,yu,yv,MK⟩:=cG (xs:=a) (i:=k-1) (by omega)
 refine wpS_bind (bL yv (wpS_bind (gw C (left:=true) (key:=pa) (xs:=b) (base:=0) (n:=kb-1) (hint:=kb-1-1) F9 gb (ga _ MK) (by omega) (by omega) (rV m5.sb.left (by omega) true) λj j1 j2 j3=>?_)))
 rw[hK]
 have m6:=m5.MF j1 hl yu j3
 have r6:∀y∈b.toList.take j,rk y<=rk pa:=MQ j2
 refine a8 (λjp=>a8 (λe3=>wpS_pure (hD _ _ ⟨pf,.inl ⟨_,_,rfl,m6.first (by simpa using e3) cL h0⟩⟩)) λe3=>a8 (λe4=>wpS_pure (hD _ _ ⟨pf,.inl ⟨_,_,rfl,m6.u3 (by simpa using e4)⟩⟩)) λe4=>?_) (λjp=>?_)
 ·have hn:2<=j:=by
    have:¬j=1:=by simpa using e3
    have:¬j=0:=by simpa using e4
    omega
  exact K8 (o:=o.push pb++(b.extract j (kb-1)).reverse) (i:=k) (j:=j) (g:=g) (ac:=ac) (bc:=kb-1-j) (n:=n) (pa:=pa) hD hY pf m6 hl ha hn (by omega) (by omega) yu yv r6
 ·obtain rfl:j=kb-1:=by omega
  exact K8 (o:=o.push pb) (i:=k) (j:=kb-1) (g:=g) (ac:=ac) (bc:=kb-1-(kb-1)) (n:=n) (pa:=pa) hD hY pf m5 hl ha (by omega) (by omega) (by omega) yu yv r6
theorem La(C:yq prog w A E s kd G rk){a b o:Array Keyed}{st lN:SortSt}{ka kb g bc n:Nat}{q0:Keyed}{R:ForInStep HT->SortSt->Prop}{K0:Keyed->Option Nat->HM}{K1 K2:Nat->Keyed->Keyed->Option Nat->HM}(MM:∀x k,K0 x (some k)=SQ a b o ka kb g bc k (K1 k) (K2 k))
  (MN:∀k x y j,K1 k x y (some j)=MR a b (o++(a.extract k ka).reverse) k kb g (ka-k) x j)(MO:∀k x y j,K2 k x y (some j)=MR a b o ka kb g (ka-k) x j)(hD:∀c aN,PC rk a b st n c aN->R (.done c) aN)(hY:∀c aN,PB rk a b st n c aN->R (.yield c) aN)(F9:kindOf lN=kd)(ga:Gd G a)(gb:Gd G b)(cL:b.toList[0]?=some q0)(h0:∀y∈a.toList,rk q0<=rk y)(pf:Sm st lN)
  (m3:MH rk a.toList b.toList o.toList.reverse ka kb)(f1:1<=ka)(f2:2<=kb)(f3:ka<=a.size)(f4:kb<=b.size)(f5:ka+kb<=n):
  wpS (model prog w) A E s (SR a b ka kb K0) R lN:=by
 obtain⟨pb,vb,vU,Jt⟩:=cG (xs:=b) (i:=kb-1) (by omega)
 refine wpS_bind (bL vU (wpS_bind (gw C (left:=false) (key:=pb) (xs:=a) (base:=0) (n:=ka) (hint:=ka-1) F9 ga (gb _ Jt) (by omega) (by omega) (rV m3.sa.left (by omega) false) λk k1 k2 k3=>?_)))
 rw[MM]
 have m4:=m3.ME k1 (by omega) vb k3
 have r4:∀y∈a.toList.take k,rk y<=rk pb:=MP k2
 refine a8 (λkp=>a8 (λe1=>wpS_pure (hD _ _ ⟨pf,.inl ⟨_,_,rfl,m4.u5 (by simpa using e1)⟩⟩)) λe1=>?_) (λkp=>?_)
 ·have hl:1<=k:=by
    have:¬k=0:=by simpa using e1
    omega
  exact K9 C (MN k) hD hY F9 ga gb cL h0 pf m4 hl (by omega) f2 f4 (by omega) vb vU r4
 ·obtain rfl:k=ka:=by omega
  exact K9 C (MO k) hD hY F9 ga gb cL h0 pf m3 f1 f3 f2 f4 f5 vb vU r4
theorem Jw(C:yq prog w A E s kd G rk){a b:Array Keyed}{st bJ:SortSt}{lo hi n:Nat}{c0:HT}{q0:Keyed}{f:Nat->HT->HM}{K0 L0:Nat->Nat->Array Keyed->Nat->Nat->Nat->Keyed->Option Nat->HM}{K1 K2 L1 L2:Nat->Nat->Array Keyed->Nat->Nat->Nat->Nat->Keyed->Keyed->Option Nat->HM}
  (hf:∀y ka kb o g ac bc,f y (none,ka,kb,o,g,ac,bc)=(if g>1 then nU (g-1)>>=λ_=>SR a b ka kb (K0 ka kb o g ac bc)else nU g>>=λ_=>SR a b ka kb (L0 ka kb o g ac bc)))
  (MM:∀ka kb o g ac bc x k,K0 ka kb o g ac bc x (some k)=SQ a b o ka kb (g-1) bc k (K1 ka kb o g ac bc k) (K2 ka kb o g ac bc k))(MN:∀ka kb o g ac bc k x y j,K1 ka kb o g ac bc k x y (some j)=MR a b (o++(a.extract k ka).reverse) k kb (g-1) (ka-k) x j)(MO:∀ka kb o g ac bc k x y j,K2 ka kb o g ac bc k x y (some j)=MR a b o ka kb (g-1) (ka-k) x j)
  (SI:∀ka kb o g ac bc x k,L0 ka kb o g ac bc x (some k)=SQ a b o ka kb g bc k (L1 ka kb o g ac bc k) (L2 ka kb o g ac bc k))(SJ:∀ka kb o g ac bc k x y j,L1 ka kb o g ac bc k x y (some j)=MR a b (o++(a.extract k ka).reverse) k kb g (ka-k) x j)(SK:∀ka kb o g ac bc k x y j,L2 ka kb o g ac bc k x y (some j)=MR a b o ka kb g (ka-k) x j)
  (hk:kindOf st=kd)(ga:Gd G a)(gb:Gd G b)(cL:b.toList[0]?=some q0)(h0:∀y∈a.toList,rk q0<=rk y)(h:PB rk a b st n c0 bJ):
  wpS (model prog w) A E s (forIn [lo:hi] c0 f) (PC rk a b st n) bJ:=by
 refine wpS_forRange (I:=λ_=>PB rk a b st n) (Q:=PC rk a b st n) ?gstep ?gfin h
 case gfin=>
  rintro c qY ⟨vV,r⟩
  exact⟨vV,.inr r⟩
 case gstep=>
  rintro y c qY-hy ⟨vV,ka,kb,o3,g,ac,bc,rfl,m3,f1,f2,f3,f4,f5⟩
  rw[hf]
  refine a8 (λ_=>wpS_bind (pd λlN Bg=>?_)) (λ_=>wpS_bind (pd λlN Bg=>?_))
  ·exact La C (n:=n) (λx k=>MM ka kb o3 g ac bc x k) (λk x y j=>MN ka kb o3 g ac bc k x y j) (λk x y j=>MO ka kb o3 g ac bc k x y j) (λ_ _ h=>h) (λ_ _ h=>h) ((vV.trans Bg).k.trans hk) ga gb cL h0 (vV.trans Bg) m3 f1 f2 f3 f4 f5
  ·exact La C (n:=n) (λx k=>SI ka kb o3 g ac bc x k) (λk x y j=>SJ ka kb o3 g ac bc k x y j) (λk x y j=>SK ka kb o3 g ac bc k x y j) (λ_ _ h=>h) (λ_ _ h=>h) ((vV.trans Bg).k.trans hk) ga gb cL h0 (vV.trans Bg) m3 f1 f2 f3 f4 f5
theorem Bi(C:yq prog w A E s kd G rk){a b:Array Keyed}{st:SortSt}{Q:Array Keyed->SortSt->Prop}(hk:kindOf st=kd)(ga:Gd G a)(gb:Gd G b)(sa:Sd rk a.toList)(sb:Sd rk b.toList)(na:1<=a.size)(nb:1<=b.size)
  {q0 z:Keyed}(cL:b.toList[0]?=some q0)(h0:∀y∈a.toList,rk q0<=rk y)(hz:a.toList[a.size-1]?=some z)(SM:∀y∈b.toList,rk y<=rk z)
  (q:∀o aN,Sm st aN->Mg rk a.toList b.toList o->Q o aN):wpS (model prog w) A E s (F6 a b) Q st:=by
 refine wpS_bind (wpS_lift (wpAny_rule ⟨rfl,?_⟩))
 refine wpS_bind (bL (p:=z) (by simpa using hz) ?_)
 have fa:a.toList.take a.size=a.toList:=List.take_of_length_le (by simp)
 have fb:b.toList.take b.size=b.toList:=List.take_of_length_le (by simp)
 have U1:MH rk a.toList b.toList (#[]:Array Keyed).toList.reverse a.size b.size:=by
  refine⟨?_,?_,?_⟩
  ·rw[List.drop_eq_nil_of_le (by simp),List.drop_eq_nil_of_le (by simp)]
   exact List.Perm.refl _
  ·rw[fa]
   simpa using sa
  ·rw[fb]
   simpa using sb
 have m0:MH rk a.toList b.toList (#[z]:Array Keyed).toList.reverse (a.size-1) b.size:=U1.rW na hz (by rw[fb];exact SM)
 have Ga:∀{o:Array Keyed} {ia ib:Nat},MH rk a.toList b.toList o.toList.reverse ia ib->ib=1->Mg rk a.toList b.toList (b.extract 0 ib++a.extract 0 ia++o.reverse):=λ{o ia ib} m e=>m.first e cL h0
 refine a8 (λc1=>wpS_pure (q _ _ (Sm.refl _) (m0.u5 (by simpa using c1)))) (λc1=>?_)
 refine a8 (λc2=>wpS_pure (q _ _ (Sm.refl _) (Ga m0 (by simpa using c2)))) (λc2=>?_)
 have Wg:¬a.size-1=0:=by simpa using c1
 have Wh:¬b.size=1:=by simpa using c2
 refine wpS_bind (wpS_get ?_)
 dsimp only
 refine wpS_bind (wpS_mono (wpS_forRange (I:=λx c aN=>Sm st aN/\∃ia ib o g,c=(none,ia,ib,o,g)/\MH rk a.toList b.toList o.toList.reverse ia ib/\1<=ia/\2<=ib/\ia<=a.size/\ib<=b.size/\ia+ib+x+1<=a.size+b.size)
  (Q:=λc aN=>Sm st aN/\∃r rest,c=(some r,rest)/\Mg rk a.toList b.toList r) ?step ?fin ⟨Sm.refl _,a.size-1,b.size,_,_,rfl,m0,by omega,by omega,by omega,by omega,by omega⟩) ?post)
 case post=>
  rintro c aN ⟨sm,r,rest,rfl,mg⟩
  exact wpS_pure (q r aN sm mg)
 case fin=>
  rintro c aN ⟨-,ia,ib,o,g,-,-,h1,h2,h3,h4,h5⟩
  omega
 case step=>
  rintro x c aN-hx ⟨sm,ia,ib,o,g,rfl,m,h1,h2,h3,h4,h5⟩
  dsimp only
  refine wpS_bind (wpS_mono (wpS_forRange (I:=λy c bJ=>Sm st bJ/\∃ja jb o ac bc,c=(none,ja,jb,o,ac,bc)/\MH rk a.toList b.toList o.toList.reverse ja jb/\1<=ja/\2<=jb/\ja<=a.size/\jb<=b.size/\ja+jb+y<=ia+ib)
   (Q:=λc bJ=>Sm st bJ/\((∃r rest,c=(some r,rest)/\Mg rk a.toList b.toList r)\/∃ja jb o ac bc,c=(none,ja,jb,o,ac,bc)/\MH rk a.toList b.toList o.toList.reverse ja jb/\1<=ja/\2<=jb/\ja<=a.size/\jb<=b.size/\ja+jb+1<=ia+ib))
   ?istep ?ifin ⟨sm,ia,ib,_,0,0,rfl,m,h1,h2,h3,h4,by omega⟩) ?ipost)
  case ifin=>
   rintro c bJ ⟨-,ja,jb,o,ac,bc,-,-,g1,g2,g3,g4,g5⟩
   omega
  case istep=>
   rintro y c bJ-hy ⟨oY,ja,jb,o2,ac,bc,rfl,m2,g1,g2,g3,g4,g5⟩
   dsimp only
   obtain⟨pa,yu,yv,MK⟩:=cG (xs:=a) (i:=ja-1) (by omega)
   obtain⟨pb,vb,vU,Jt⟩:=cG (xs:=b) (i:=jb-1) (by omega)
   refine wpS_bind (bL vU (wpS_bind (bL yv (wpS_bind (C pb pa bJ _ (oY.k.trans hk) (gb _ Jt) (ga _ MK) ?_)))))
   by_cases hw:rk pb<rk pa
   ·rw[decide_eq_true hw]
    refine wpS_bind (bL yv ?_)
    have m3:=m2.rW g1 yu λy hy=>Nat.le_trans (le_last m2.sb.left (by omega) vb hy) (Nat.le_of_lt hw)
    refine a8 (λd1=>wpS_pure ⟨oY,.inl ⟨_,_,rfl,m3.u5 (by simpa using d1)⟩⟩) (λd1=>?_)
    have Rx:¬ja-1=0:=by simpa using d1
    refine a8 (λd2=>wpS_pure ⟨oY,.inr ⟨ja-1,jb,_,_,_,rfl,m3,by omega,by omega,by omega,by omega,by omega⟩⟩) (λd2=>wpS_pure ⟨oY,ja-1,jb,_,_,_,rfl,m3,by omega,by omega,by omega,by omega,by omega⟩)
   ·rw[decide_eq_false hw]
    refine wpS_bind (bL vU ?_)
    have m3:=m2.CZ (by omega) vb λy hy=>Nat.le_trans (le_last m2.sa.left g1 yu hy) (by omega)
    refine a8 (λd1=>wpS_pure ⟨oY,.inl ⟨_,_,rfl,Ga m3 (by simpa using d1)⟩⟩) (λd1=>?_)
    have Rx:¬jb-1=1:=by simpa using d1
    refine a8 (λd2=>wpS_pure ⟨oY,.inr ⟨ja,jb-1,_,_,_,rfl,m3,by omega,by omega,by omega,by omega,by omega⟩⟩) (λd2=>wpS_pure ⟨oY,ja,jb-1,_,_,_,rfl,m3,by omega,by omega,by omega,by omega,by omega⟩)
  case ipost=>
   rintro c bJ ⟨oY,⟨r,rest,rfl,mg⟩|⟨ja,jb,o2,ac,bc,rfl,m2,g1,g2,g3,g4,g5⟩⟩
   ·exact wpS_pure ⟨oY,_,_,rfl,mg⟩
   dsimp only
   refine wpS_bind (wpS_lift (wpAny_rule ⟨rfl,?_⟩))
   refine wpS_bind (wpS_mono (Jw C (n:=ja+jb) (λ_ _ _ _ _ _ _=>rfl) (λ_ _ _ _ _ _ _ _=>rfl) (λ_ _ _ _ _ _ _ _ _ _=>rfl) (λ_ _ _ _ _ _ _ _ _ _=>rfl) (λ_ _ _ _ _ _ _ _=>rfl) (λ_ _ _ _ _ _ _ _ _ _=>rfl) (λ_ _ _ _ _ _ _ _ _ _=>rfl) hk ga gb cL h0 ⟨oY,ja,jb,_,_,_,_,rfl,m2,g1,g2,g3,g4,by omega⟩) ?gpost)
   case gpost=>
    rintro c qY ⟨vV,⟨r,rest,rfl,mg⟩|⟨ka,kb,o3,g,ac,bc,rfl,m3,f1,f2,f3,f4,f5⟩⟩
    ·exact wpS_pure ⟨vV,_,_,rfl,mg⟩
    dsimp only
    refine wpS_bind (pd λlN Bg=>wpS_pure ⟨vV.trans Bg,ka,kb,_,_,rfl,m3,f1,f2,f3,f4,by omega⟩)
end
theorem dj{l:List Keyed}{b n i:Nat}(h:i<n):((l.drop b).take n)[i]?=l[b+i]?:=by
 rw[List.getElem?_take,if_pos h,List.getElem?_drop]
theorem yy{l m:List Keyed}{b n:Nat}(h:∀i,b<=i->i<b+n->l[i]?=m[i]?):(l.drop b).take n=(m.drop b).take n:=by
 apply List.ext_getElem?
 intro i
 rw[List.getElem?_take,List.getElem?_take]
 split
 ·rw[List.getElem?_drop,List.getElem?_drop]
  exact h _ (by omega) (by omega)
 ·rfl
theorem il{l:List Keyed}{b n:Nat}(h:b+n<=l.length):((l.drop b).take n).length=n:=by
 rw[List.length_take,List.length_drop]
 omega
theorem C1(p:Nat):∀(m:List Keyed) (xs:Array Keyed) (c:Nat),p+c+m.length<=xs.size->
  ((m.zipIdx c).foldl (λa x=>a.setIfInBounds (p+x.2) x.1) xs).toList=xs.toList.take (p+c)++m++xs.toList.drop (p+c+m.length)
 |[],xs,c,h=>by simp
 |y::m,xs,c,h=>by
  rw[List.zipIdx_cons,List.foldl_cons]
  rw[List.length_cons]at h
  have ih:=C1 p m (xs.setIfInBounds (p+c) y) (c+1) (by rw[Array.size_setIfInBounds];omega)
  dsimp only
  rw[ih,Array.toList_setIfInBounds,show p+(c+1)=p+c+1 by omega]
  have h1:(xs.toList.set (p+c) y).take (p+c+1)=xs.toList.take (p+c)++[y]:=by
   rw[List.take_add_one,List.take_set_of_le (Nat.le_refl _),List.getElem?_set_self (by rw[Array.length_toList];omega)]
   rfl
  have h2:(xs.toList.set (p+c) y).drop (p+c+1+m.length)=xs.toList.drop (p+c+(y::m).length):=by
   rw[List.drop_set_of_lt (by omega),List.length_cons]
   congr 1
   omega
  rw[h1,h2,List.append_assoc,List.append_assoc,List.append_assoc]
  rfl
theorem eV(l:List Keyed)(b n m:Nat):(l.drop b).take (n+m)=(l.drop b).take n++(l.drop (b+n)).take m:=by rw[List.take_add,List.drop_drop]
theorem ph(l:List Keyed)(b n:Nat):l=l.take b++(l.drop b).take n++l.drop (b+n):=by
 rw[List.append_assoc,<-List.drop_drop,List.take_append_drop,List.take_append_drop]
theorem vW{l:List Keyed}{b n i:Nat}{p:Keyed}(h:l[b+i]?=some p)(hi:i<n):p∈(l.drop b).take n:=List.mem_of_getElem? (by rw[dj hi];exact h)
theorem MS{M:Model}{A:Around}{E:Value->Shared->Prop}{s:Shared}{st aN:SortSt}{Q:PUnit->SortSt->Prop}(h:Q ⟨⟩ aN):wpS M A E s (set aN:StateT SortSt Sem PUnit) Q st:=by
 unfold wpS
 rw[StateT.run_set]
 exact wpAny_pure ⟨rfl,h⟩
section
variable{prog:Program}{w:World}{A:Around}{E:Value->Shared->Prop}{s:Shared}{kd:SortKind}{G:Keyed->Prop}{rk:Keyed->Nat}
theorem rX{key:Keyed}{xs:Array Keyed}{b n:Nat}(h:Sd rk ((xs.toList.drop b).take n))(hn:b+n<=xs.size)(left:Bool):∀i j,i<=j->j<n->jt rk left key xs b j=true->jt rk left key xs b i=true:=by
 intro i j IM hj
 obtain⟨p,p1,p2,p3⟩:=cG (xs:=xs) (i:=b+i) (by omega)
 obtain⟨q,q1,q2,q3⟩:=cG (xs:=xs) (i:=b+j) (by omega)
 have:=rS h IM (by rw[dj (by omega)];exact p1) (by rw[dj hj];exact q1)
 unfold jt
 rw[Bf p2,Bf q2]
 cases left<;>simp<;>omega
theorem Bj(C:yq prog w A E s kd G rk){i sa na pw nb Ry:Nat}{st:SortSt}{Q:Bool->SortSt->Prop}(hk:kindOf st=kd)(gG:Gd G (arrOf st))(hf:failedOf st=none)
  (h1:(pendingOf st)[i]?=some (sa,na,pw))(h2:(pendingOf st)[i+1]?=some (sa+na,nb,Ry))(h3:1<=na)(h4:1<=nb)(h5:sa+na+nb<=(arrOf st).size)
  (s1:Sd rk (((arrOf st).toList.drop sa).take na))(s2:Sd rk (((arrOf st).toList.drop (sa+na)).take nb))
  (q:∀aN m,kindOf aN=kd->failedOf aN=none->pendingOf aN=((pendingOf st).setIfInBounds i (sa,na+nb,pw)).eraseIdxIfInBounds (i+1)->
    (arrOf aN).toList=(arrOf st).toList.take sa++m++(arrOf st).toList.drop (sa+na+nb)->m.Perm (((arrOf st).toList.drop sa).take (na+nb))->Sd rk m->Q true aN):wpS (model prog w) A E s (mergeAt' i) Q st:=by
 refine wpS_bind (wpS_get ?_)
 rw[show(sortPriv% PySem.Builtin.SortState.pending) st=pendingOf st from rfl]
 rw[h1,h2]
 dsimp only
 refine wpS_bind (MS ?_)
 obtain⟨pb,vb,vU,Jt⟩:=cG (xs:=arrOf st) (i:=sa+na) (by omega)
 refine wpS_bind (bL vU (wpS_bind (gw C (left:=false) (key:=pb) (xs:=arrOf st) (base:=sa) (n:=na) (hint:=0) hk gG (gG _ Jt) (by omega) (by omega) (rX s1 (by omega) false) λk k1 k2 k3=>?_)))
 dsimp only
 have b0:∀y∈((arrOf st).toList.drop (sa+na)).take nb,rk pb<=rk y:=λy hy=>by
  obtain⟨j,hj,e⟩:=dG hy
  exact rS s2 (Nat.zero_le j) (by rw[dj (by omega)];exact vb) (by rw[dj hj];exact e)
 have a1:∀x∈((arrOf st).toList.drop sa).take k,rk x<=rk pb:=λx hx=>by
  obtain⟨j,hj,e⟩:=dG hx
  have q1:=k2 j hj
  rw[va e]at q1
  exact of_decide_eq_true q1
 refine a8 (λe1=>?_) (λe1=>?_)
 ·obtain rfl:k=na:=by
    have:na-k=0:=by simpa using e1
    omega
  refine wpS_pure (q _ (((arrOf st).toList.drop sa).take (k+nb)) hk hf rfl ?_ (List.Perm.refl _) ?_)
  ·rw[Nat.add_assoc]
   exact ph _ _ _
  ·rw[eV]
   exact Sd.app s1 s2 λx hx y hy=>Nat.le_trans (a1 x hx) (b0 y hy)
 have Rz:¬na-k=0:=by simpa using e1
 have gk:=k3 k (Nat.le_refl _) (by omega)
 obtain⟨pz,TU,U2,U3⟩:=cG (xs:=arrOf st) (i:=sa+k+(na-k)-1) (by omega)
 refine wpS_bind (bL U2 (wpS_bind (gw C (left:=true) (key:=pz) (xs:=arrOf st) (base:=sa+na) (n:=nb) (hint:=nb-1) hk gG (gG _ U3) (by omega) (by omega) (rX s2 (by omega) true) λj j1 j2 j3=>?_)))
 have SS:(arrOf st).toList[sa+(na-1)]?=some pz:=by rw[<-TU];congr 1;omega
 have az:∀x∈((arrOf st).toList.drop sa).take na,rk x<=rk pz:=λx hx=>by
  obtain⟨i,hi,e⟩:=dG hx
  exact rS s1 (show i<=na-1 by omega) (by rw[dj hi];exact e) (by rw[dj (by omega)];exact SS)
 have b2:∀y∈((arrOf st).toList.drop (sa+na+j)).take (nb-j),rk pz<=rk y:=λy hy=>by
  obtain⟨i,hi,e⟩:=dG hy
  have q1:=j3 (j+i) (by omega) (by omega)
  rw[u9 (by rw[<-Nat.add_assoc];exact e)]at q1
  have:=of_decide_eq_false q1
  omega
 refine a8 (λe2=>?_) (λe2=>?_)
 ·obtain rfl:j=0:=by simpa using e2
  refine wpS_pure (q _ (((arrOf st).toList.drop sa).take (na+nb)) hk hf rfl ?_ (List.Perm.refl _) ?_)
  ·rw[Nat.add_assoc]
   exact ph _ _ _
  ·rw[eV]
   exact Sd.app s1 s2 λx hx y hy=>Nat.le_trans (az x hx) (b2 y hy)
 have TV:¬j=0:=by simpa using e2
 have ex:((arrOf st).extract (sa+k) (sa+na)).toList=((arrOf st).toList.drop (sa+k)).take (na-k):=by
  rw[show sa+na=sa+k+(na-k) by omega]
  exact jd
 have ey:((arrOf st).extract (sa+na) (sa+na+j)).toList=((arrOf st).toList.drop (sa+na)).take j:=jd
 have Ot:=s1
 have PD:=s2
 rw[show na=k+(na-k) by omega,eV]at Ot
 rw[show nb=j+(nb-j) by omega,eV]at PD
 have xl:((arrOf st).extract (sa+k) (sa+na)).size=na-k:=by
  rw[<-Array.length_toList,ex,il (by rw[Array.length_toList];omega)]
 have yl:((arrOf st).extract (sa+na) (sa+na+j)).size=j:=by
  rw[<-Array.length_toList,ey,il (by rw[Array.length_toList];omega)]
 have gx:Gd G ((arrOf st).extract (sa+k) (sa+na)):=λp hp=>gG p (by
  rw[ex]at hp
  exact List.mem_of_mem_drop (List.mem_of_mem_take hp))
 have gy:Gd G ((arrOf st).extract (sa+na) (sa+na+j)):=λp hp=>gG p (by
  rw[ey]at hp
  exact List.mem_of_mem_drop (List.mem_of_mem_take hp))
 obtain⟨pk,RA,Wi,Wj⟩:=cG (xs:=arrOf st) (i:=sa+k) (by omega)
 rw[va RA]at gk
 have Wk:=of_decide_eq_false gk
 have TX:((arrOf st).extract (sa+na) (sa+na+j)).toList[0]?=some pb:=by
  rw[ey,dj (by omega)]
  exact vb
 have TY:((arrOf st).extract (sa+k) (sa+na)).toList[0]?=some pk:=by
  rw[ex,dj (by omega)]
  exact RA
 have TZ:((arrOf st).extract (sa+k) (sa+na)).toList[((arrOf st).extract (sa+k) (sa+na)).size-1]?=some pz:=by
  rw[xl,ex,dj (by omega),<-TU]
  congr 1
  omega
 have T4:∀y∈((arrOf st).extract (sa+na) (sa+na+j)).toList,rk y<=rk pz:=λy hy=>by
  rw[ey]at hy
  obtain⟨i,hi,e⟩:=dG hy
  have q1:=j2 i hi
  rw[u9 e]at q1
  exact Nat.le_of_lt (of_decide_eq_true q1)
 have T5:∀x∈((arrOf st).extract (sa+k) (sa+na)).toList,rk pb<=rk x:=λx hx=>by
  rw[ex]at hx
  obtain⟨i,hi,e⟩:=dG hx
  have:=rS Ot.right (Nat.zero_le i) (by rw[dj (by omega)];exact RA) (by rw[dj hi];exact e)
  omega
 have fin:∀(o:Array Keyed) (bJ:SortSt),kindOf bJ=kd->arrOf bJ=arrOf st->failedOf bJ=none->pendingOf bJ=((pendingOf st).setIfInBounds i (sa,na+nb,pw)).eraseIdxIfInBounds (i+1)->
   Mg rk ((arrOf st).extract (sa+k) (sa+na)).toList ((arrOf st).extract (sa+na) (sa+na+j)).toList o->
   Q true (SortSt.mk' (kindOf bJ) (o.toList.zipIdx.foldl (λa x=>a.setIfInBounds (sa+k+x.2) x.1) (arrOf bJ)) (pendingOf bJ) (gallopOf bJ) (failedOf bJ)):=by
  intro o bJ t1 t2 t3 t4 mg
  obtain⟨pm,so⟩:=mg
  rw[ex,ey]at pm
  have ol:o.toList.length=na-k+j:=by
   rw[pm.length_eq,List.length_append,il (by rw[Array.length_toList];omega),il (by rw[Array.length_toList];omega)]
  refine q _ (((arrOf st).toList.drop sa).take k++o.toList++((arrOf st).toList.drop (sa+na+j)).take (nb-j)) t1 t3 t4 ?_ ?_ ?_
  ·show(o.toList.zipIdx.foldl (λa x=>a.setIfInBounds (sa+k+x.2) x.1) (arrOf bJ)).toList=_
   rw[C1 (sa+k) o.toList (arrOf bJ) 0 (by rw[t2,ol];omega),t2,ol]
   have f1:(arrOf st).toList.take (sa+k+0)=(arrOf st).toList.take sa++((arrOf st).toList.drop sa).take k:=by rw[Nat.add_zero,List.take_add]
   have f2:(arrOf st).toList.drop (sa+k+0+(na-k+j))=((arrOf st).toList.drop (sa+na+j)).take (nb-j)++(arrOf st).toList.drop (sa+na+nb):=by
    rw[show sa+k+0+(na-k+j)=sa+na+j by omega]
    have:=C0 (arrOf st).toList (show sa+na+j<=sa+na+nb by omega)
    rw[show sa+na+nb-(sa+na+j)=nb-j by omega]at this
    exact this
   rw[f1,f2]
   simp only[List.append_assoc]
  ·have g1:((arrOf st).toList.drop sa).take (na+nb)=((arrOf st).toList.drop sa).take k++(((arrOf st).toList.drop (sa+k)).take (na-k)++((arrOf st).toList.drop (sa+na)).take j)++((arrOf st).toList.drop (sa+na+j)).take (nb-j):=by
     rw[eV _ sa na nb]
     have u1:=eV (arrOf st).toList sa k (na-k)
     have u2:=eV (arrOf st).toList (sa+na) j (nb-j)
     rw[show k+(na-k)=na by omega]at u1
     rw[show j+(nb-j)=nb by omega]at u2
     rw[u1,u2]
     simp only[List.append_assoc]
   rw[g1]
   exact(pm.append_left _).append_right _
  ·have hA:∀x∈((arrOf st).toList.drop sa).take k,∀y∈o.toList,rk x<=rk y:=λx hx y hy=>by
     rcases List.mem_append.mp (pm.mem_iff.mp hy)with hy|hy
     ·exact Ot.u0 x hx y hy
     ·refine Nat.le_trans (a1 x hx) (b0 y ?_)
      obtain⟨i,hi,e⟩:=dG hy
      exact vW e (by omega)
   have hB:∀x∈o.toList,∀y∈((arrOf st).toList.drop (sa+na+j)).take (nb-j),rk x<=rk y:=λx hx y hy=>by
    rcases List.mem_append.mp (pm.mem_iff.mp hx)with hx|hx
    ·refine Nat.le_trans (az x ?_) (b2 y hy)
     obtain⟨i,hi,e⟩:=dG hx
     exact vW (i:=k+i) (by rw[<-Nat.add_assoc];exact e) (by omega)
    ·exact PD.u0 x hx y hy
   refine Sd.app (Sd.app Ot.left so hA) PD.right λx hx y hy=>?_
   rcases List.mem_append.mp hx with hx|hx
   ·exact Nat.le_trans (a1 x hx) (Nat.le_trans (T5 pk (List.mem_of_getElem? TY)) (Nat.le_trans (az pk (vW RA (by omega))) (b2 y hy)))
   ·exact hB x hx y hy
 refine a8 (λe3=>?_) (λe3=>?_)
 ·refine wpS_bind (Bh C hk gx gy (by rw[ex];exact Ot.right) (by rw[ey];exact PD.left) (by rw[xl];omega) (by rw[yl];omega) TY TX (by omega) TZ T4 λo bJ sm mg=>?_)
  refine wpS_bind (wpS_modify (wpS_bind (wpS_get (wpS_pure ?_))))
  have ff:failedOf bJ=none:=sm.f.trans hf
  have:=fin o bJ (sm.k.trans hk) sm.a ff sm.p mg
  show Q (Option.isNone (failedOf bJ)) _
  rw[ff]
  exact this
 ·refine wpS_bind (Bi C hk gx gy (by rw[ex];exact Ot.right) (by rw[ey];exact PD.left) (by rw[xl];omega) (by rw[yl];omega) TX T5 TZ T4 λo bJ sm mg=>?_)
  refine wpS_bind (wpS_modify (wpS_bind (wpS_get (wpS_pure ?_))))
  have ff:failedOf bJ=none:=sm.f.trans hf
  have:=fin o bJ (sm.k.trans hk) sm.a ff sm.p mg
  show Q (Option.isNone (failedOf bJ)) _
  rw[ff]
  exact this
end
structure Bs(kd:SortKind)(a₀:Array Keyed)(st:SortSt):Prop where
 pm:(arrOf st).Perm a₀
 k:kindOf st=kd
 f:failedOf st=none
theorem Bs.size{kd:SortKind}{a₀:Array Keyed}{st:SortSt}(B:Bs kd a₀ st):(arrOf st).size=a₀.size:=B.pm.size_eq
theorem Bs.gd{kd:SortKind}{a₀:Array Keyed}{st:SortSt}{G:Keyed->Prop}(B:Bs kd a₀ st)(g:Gd G a₀):Gd G (arrOf st):=λp hp=>g p ((Array.perm_iff_toList_perm.mp B.pm).mem_iff.mp hp)
theorem Bs.arr{kd:SortKind}{a₀:Array Keyed}{st:SortSt}(B:Bs kd a₀ st){xs:Array Keyed}(h:xs.Perm (arrOf st)):Bs kd a₀ (setArr st xs):=⟨h.trans B.pm,B.k,B.f⟩
noncomputable def Up(rk:Keyed->Nat)(xs:Array Keyed)(lo hi:Nat):Prop:=∀i j,lo<=i->i<=j->j<hi->R rk xs i<=R rk xs j
noncomputable def Dn(rk:Keyed->Nat)(xs:Array Keyed)(lo hi:Nat):Prop:=∀i j,lo<=i->i<=j->j<hi->R rk xs j<=R rk xs i
noncomputable def Kp(lo:Nat)(st aN:SortSt):Prop:=(∀k,k<lo->(arrOf aN)[k]?=(arrOf st)[k]?)/\pendingOf aN=pendingOf st
theorem Kp.refl(lo:Nat)(st:SortSt):Kp lo st st:=⟨λ_ _=>rfl,rfl⟩
theorem Kp.trans{lo:Nat}{st aN F8:SortSt}(x:Kp lo st aN)(y:Kp lo aN F8):Kp lo st F8:=⟨λk h=>(y.1 k h).trans (x.1 k h),y.2.trans x.2⟩
theorem nV{rk:Keyed->Nat}{xs ys:Array Keyed}{i j:Nat}(h:xs[i]?=ys[j]?):R rk xs i=R rk ys j:=by
 unfold R
 rw[h]
theorem Up.sd{rk:Keyed->Nat}{xs:Array Keyed}{lo n:Nat}(h:Up rk xs lo (lo+n))(hn:lo+n<=xs.size):Sd rk ((xs.toList.drop lo).take n):=by
 refine List.pairwise_iff_getElem.mpr λi j hi hj IM=>?_
 have hl:((xs.toList.drop lo).take n).length=n:=il (by rw[Array.length_toList];exact hn)
 have q:=h (lo+i) (lo+j) (by omega) (by omega) (by omega)
 rw[vT (p:=((xs.toList.drop lo).take n)[i]) (by rw[<-dj (n:=n) (by omega)];exact List.getElem?_eq_getElem hi),vT (p:=((xs.toList.drop lo).take n)[j]) (by rw[<-dj (n:=n) (by omega)];exact List.getElem?_eq_getElem hj)]at q
 exact q
theorem Gb{rk:Keyed->Nat}{xs:Array Keyed}{i j:Nat}(hj:j<=xs.size)(k:Nat):R rk (mirror xs i j ((j-i)/2)) k=if i<=k/\k<j then R rk xs (i+j-1-k)else R rk xs k:=by
 have e:=getElem?_mirror_all (i:=i) hj k
 split
 ·rename_i h
  rw[if_pos h]at e
  exact nV e
 ·rename_i h
  rw[if_neg h]at e
  exact nV e
theorem kj{rk:Keyed->Nat}{xs:Array Keyed}{i j:Nat}(hj:j<=xs.size)(h:∀k,i<=k->k<j->R rk xs k=R rk xs (j-1))(k:Nat):R rk (mirror xs i j ((j-i)/2)) k=R rk xs k:=by
 rw[Gb hj]
 split
 ·rw[h _ (by omega) (by omega),h k (by omega) (by omega)]
 ·rfl
theorem Lb{rk:Keyed->Nat}{xs:Array Keyed}{src d:Nat}(hs:src<xs.size)(hd:d<=src)(k:Nat):R rk (bubble xs src d) k=if k=src-d then R rk xs src else if src-d<k/\k<=src then R rk xs (k-1)else R rk xs k:=by
 have e:=getElem?_bubble hs d hd k
 by_cases h1:k=src-d
 ·rw[if_pos h1]at e
  rw[if_pos h1]
  exact nV e
 ·rw[if_neg h1]at e
  rw[if_neg h1]
  by_cases h2:src-d<k/\k<=src
  ·rw[if_pos h2]at e
   rw[if_pos h2]
   exact nV e
  ·rw[if_neg h2]at e
   rw[if_neg h2]
   exact nV e
section
variable{prog:Program}{w:World}{A:Around}{E:Value->Shared->Prop}{s:Shared}{kd:SortKind}{G:Keyed->Prop}{rk:Keyed->Nat}{a₀:Array Keyed}
theorem vc(C:yq prog w A E s kd G rk)(g:Gd G a₀){st:SortSt}(B:Bs kd a₀ st){i j:Nat}{Q:Option Bool->SortSt->Prop}(hi:i<a₀.size)(hj:j<a₀.size)(q:Q (some (decide (R rk (arrOf st) i<R rk (arrOf st) j))) st):wpS (model prog w) A E s (ltAt' i j) Q st:=by
 obtain⟨p,p1,p2,p3⟩:=(B.gd g).at (rk:=rk) (i:=i) (by rw[B.size];exact hi)
 obtain⟨r,r1,r2,r3⟩:=(B.gd g).at (rk:=rk) (i:=j) (by rw[B.size];exact hj)
 rw[p3,r3]at q
 rw[ltAt'_eq]
 exact wpS_bind (wpS_get (wpS_bind (bL p1 (wpS_bind (bL r1 (C p r st Q B.k p2 r2 q))))))
theorem vX{M:Model}{i j:Nat}{st:SortSt}{Q:Unit->SortSt->Prop}(q:Q () (setArr st (mirror (arrOf st) i j ((j-i)/2)))):wpS M A E s (reverseSlice' i j) Q st:=by
 rw[reverseSlice'_eq]
 exact wpS_modify q
theorem uj(C:yq prog w A E s kd G rk)(g:Gd G a₀){lo n ok:Nat}{st:SortSt}{Q:Bool->SortSt->Prop}(B:Bs kd a₀ st)(hn:lo+n<=a₀.size)(dh:ok<=n)(h1:1<=ok)(u:Up rk (arrOf st) lo (lo+ok))
  (q:∀aN,Bs kd a₀ aN->Kp lo st aN->Up rk (arrOf aN) lo (lo+n)->Q true aN):wpS (model prog w) A E s (binarySort' lo n ok) Q st:=by
 rw[binarySort'_eq]
 refine wpS_bind (wpS_mono (wpS_forRange (I:=λk c aN=>c=(none,())/\k<=n/\Bs kd a₀ aN/\Kp lo st aN/\Up rk (arrOf aN) lo (lo+k))
  (Q:=λc aN=>c=(none,())/\Bs kd a₀ aN/\Kp lo st aN/\Up rk (arrOf aN) lo (lo+n)) ?step ?fin ⟨rfl,by omega,B,Kp.refl _ _,by rw[show max ok 1=ok by omega];exact u⟩) ?post)
 case post=>
  rintro c aN ⟨rfl,x1,x2,x3⟩
  exact wpS_pure (q aN x1 x2 x3)
 case fin=>
  rintro c aN ⟨rfl,h2,x1,x2,x3⟩
  rw[show max (max ok 1) n=n by omega]at x3
  exact⟨rfl,x1,x2,x3⟩
 case step=>
  rintro k c aN RB Wl ⟨rfl,-,B1,K1,u1⟩
  have Lc:lo+k<a₀.size:=by omega
  refine wpS_bind (wpS_mono (wpS_forRange (I:=λx c bJ=>bJ=aN/\∃l r,c=(none,l,r)/\l<=r/\r<=k/\r-l<=k-x/\(∀i,i<l->R rk (arrOf aN) (lo+i)<=R rk (arrOf aN) (lo+k))/\∀i,r<=i->i<k->R rk (arrOf aN) (lo+k)<R rk (arrOf aN) (lo+i))
   (Q:=λc bJ=>bJ=aN/\∃l r,c=(none,l,r)/\l<=k/\(∀i,i<l->R rk (arrOf aN) (lo+i)<=R rk (arrOf aN) (lo+k))/\∀i,l<=i->i<k->R rk (arrOf aN) (lo+k)<R rk (arrOf aN) (lo+i)) ?istep ?ifin
   ⟨rfl,0,k,rfl,by omega,by omega,by omega,λi hi=>by omega,λi h1 h2=>by omega⟩) ?ipost)
  case ifin=>
   rintro c bJ ⟨rfl,l,r,rfl,a1,a2,a3,a4,a5⟩
   obtain rfl:l=r:=by omega
   exact⟨rfl,l,l,rfl,a2,a4,a5⟩
  case istep=>
   rintro x c bJ-hx ⟨rfl,l,r,rfl,a1,a2,a3,a4,a5⟩
   dsimp only
   refine a8 (λd=>?_) (λd=>?_)
   ·obtain rfl:l=r:=by omega
    exact wpS_pure ⟨rfl,l,l,rfl,a2,a4,a5⟩
   ·refine wpS_bind (vc C g B1 Lc (by omega) ?_)
    by_cases hl:R rk (arrOf bJ) (lo+k)<R rk (arrOf bJ) (lo+(l+r)/2)
    ·rw[decide_eq_true hl]
     refine wpS_pure ⟨rfl,l,(l+r)/2,rfl,by omega,by omega,by omega,a4,λi b1 b2=>?_⟩
     exact Nat.lt_of_lt_of_le hl (u1 _ _ (by omega) (by omega) (by omega))
    ·rw[decide_eq_false hl]
     refine wpS_pure ⟨rfl,(l+r)/2+1,r,rfl,by omega,by omega,by omega,λi b1=>?_,a5⟩
     exact Nat.le_trans (u1 (lo+i) (lo+(l+r)/2) (by omega) (by omega) (by omega)) (by omega)
  case ipost=>
   rintro c bJ ⟨rfl,l,r,rfl,a1,a2,a3⟩
   dsimp only
   rw[moveDown'_eq]
   have o7:lo+k<(arrOf bJ).size:=by rw[B1.size];exact Lc
   refine wpS_bind (wpS_modify (wpS_pure ⟨rfl,by omega,B1.arr (bubble_perm _ _ _),K1.trans ⟨λi hi=>?_,rfl⟩,?_⟩))
   ·show(bubble (arrOf bJ) (lo+k) (lo+k-(lo+l)))[i]?=_
    rw[getElem?_bubble o7 _ (by omega),if_neg (by omega),if_neg (by omega)]
   ·intro i j h1 h2 h3
    show R rk (bubble (arrOf bJ) (lo+k) (lo+k-(lo+l))) i<=R rk (bubble (arrOf bJ) (lo+k) (lo+k-(lo+l))) j
    rw[Lb o7 (by omega),Lb o7 (by omega),show lo+k-(lo+k-(lo+l))=lo+l by omega]
    have v1:∀i,lo<=i->i<lo+l->R rk (arrOf bJ) i<=R rk (arrOf bJ) (lo+k):=λi b1 b2=>by
     have:=a2 (i-lo) (by omega)
     rw[show lo+(i-lo)=i by omega]at this
     exact this
    have v2:∀i,lo+l<=i->i<lo+k->R rk (arrOf bJ) (lo+k)<=R rk (arrOf bJ) i:=λi b1 b2=>by
     have:=a3 (i-lo) (by omega) (by omega)
     rw[show lo+(i-lo)=i by omega]at this
     exact Nat.le_of_lt this
    repeat' split
    all_goals first
     |(exfalso;omega)
     |exact Nat.le_refl _
     |exact v1 _ (by omega) (by omega)
     |exact v2 _ (by omega) (by omega)
     |exact u1 _ _ (by omega) (by omega) (by omega)
end
section
variable{prog:Program}{w:World}{A:Around}{E:Value->Shared->Prop}{s:Shared}{kd:SortKind}{G:Keyed->Prop}{rk:Keyed->Nat}{a₀:Array Keyed}
theorem Up.more{xs:Array Keyed}{lo x:Nat}(u:Up rk xs lo (lo+x))(h1:1<=x)(h:¬R rk xs (lo+x)<R rk xs (lo+x-1)):Up rk xs lo (lo+(x+1)):=λi j a b c=>by
 by_cases hj:j<lo+x
 ·exact u i j a b hj
 ·obtain rfl:j=lo+x:=by omega
  by_cases hi:i=lo+x
  ·subst hi
   exact Nat.le_refl _
  ·exact Nat.le_trans (u i (lo+x-1) a (by omega) (by omega)) (by omega)
theorem Up.one{xs:Array Keyed}(lo:Nat):Up rk xs lo (lo+1):=λi j a b c=>by
 obtain rfl:i=j:=by omega
 exact Nat.le_refl _
theorem MT{xs:Array Keyed}{lo x:Nat}(d:Dn rk xs lo (lo+x))(h:lo+x<=xs.size):Up rk (mirror xs lo (lo+x) ((lo+x-lo)/2)) lo (lo+x):=λi j a b c=>by
 rw[Gb h,Gb h,if_pos (by omega),if_pos (by omega)]
 exact d _ _ (by omega) (by omega) (by omega)
theorem yz(C:yq prog w A E s kd G rk)(g:Gd G a₀){lo mL:Nat}{st:SortSt}{Q:Option Nat->SortSt->Prop}(B:Bs kd a₀ st)(hn:lo+mL<=a₀.size)(h1:1<=mL)
  (q:∀m aN,Bs kd a₀ aN->Kp lo st aN->1<=m->m<=mL->Up rk (arrOf aN) lo (lo+m)->Q (some m) aN):wpS (model prog w) A E s (countRun' lo mL) Q st:=by
 rw[countRun'_eq]
 refine wpS_bind (wpS_mono (wpS_forRange (I:=λx c aN=>aN=st/\c=(none,x)/\x<=mL/\Up rk (arrOf st) lo (lo+x))
  (Q:=λc aN=>aN=st/\∃n,c=(none,n)/\1<=n/\n<=mL/\Up rk (arrOf st) lo (lo+n)/\(n=mL\/R rk (arrOf st) (lo+n)<R rk (arrOf st) (lo+n-1))) ?step ?fin ⟨rfl,rfl,h1,Up.one lo⟩) ?post)
 case fin=>
  rintro c aN ⟨rfl,rfl,h2,u⟩
  rw[show max 1 mL=mL by omega]at u h2⊢
  exact⟨rfl,mL,rfl,h1,Nat.le_refl _,u,.inl rfl⟩
 case step=>
  rintro x c aN SU U4 ⟨rfl,rfl,h2,u⟩
  dsimp only
  refine wpS_bind (vc C g B (by omega) (by omega) ?_)
  by_cases hl:R rk (arrOf aN) (lo+x)<R rk (arrOf aN) (lo+x-1)
  ·rw[decide_eq_true hl]
   exact wpS_pure ⟨rfl,x,rfl,SU,by omega,u,.inr hl⟩
  ·rw[decide_eq_false hl]
   exact wpS_pure ⟨rfl,rfl,by omega,u.more SU hl⟩
 case post=>
  rintro c aN ⟨rfl,n,rfl,n1,n2,u,U5⟩
  dsimp only
  refine a8 (λe=>wpS_pure (q n aN B (Kp.refl _ _) n1 n2 u)) (λe=>?_)
  have e':¬n=mL:=by simpa using e
  have jX:=U5.resolve_left e'
  have o7:lo+n<=(arrOf aN).size:=by rw[B.size];omega
  refine a8 (λgt=>wpS_bind (vc C g B (by omega) (by omega) ?_)) (λgt=>?_)
  by_cases hr:R rk (arrOf aN) lo<R rk (arrOf aN) (lo+n-1)
  ·rw[decide_eq_true hr]
   exact wpS_pure (q n aN B (Kp.refl _ _) n1 n2 u)
  rw[decide_eq_false hr]
  refine wpS_bind (vX ?_)
  have all:∀k,lo<=k->k<lo+n->R rk (arrOf aN) k=R rk (arrOf aN) (lo+n-1):=λk k1 k2=>by
   have x1:=u lo k (Nat.le_refl _) k1 k2
   have x2:=u k (lo+n-1) k1 (by omega) (by omega)
   omega
  have B2:=B.arr (mirror_perm (arrOf aN) lo (lo+n) ((lo+n-lo)/2))
  have K2:Kp lo aN (setArr aN (mirror (arrOf aN) lo (lo+n) ((lo+n-lo)/2))):=⟨λk hk=>by
   show(mirror (arrOf aN) lo (lo+n) ((lo+n-lo)/2))[k]?=_
   rw[getElem?_mirror_all o7,if_neg (by omega)],rfl⟩
  have d2:Dn rk (arrOf (setArr aN (mirror (arrOf aN) lo (lo+n) ((lo+n-lo)/2)))) lo (lo+(n+1)):=λi j a b c=>by
   show R rk (mirror (arrOf aN) lo (lo+n) ((lo+n-lo)/2)) j<=R rk (mirror (arrOf aN) lo (lo+n) ((lo+n-lo)/2)) i
   rw[kj o7 all,kj o7 all]
   by_cases hj:j<lo+n
   ·rw[all i (by omega) (by omega),all j (by omega) hj]
    exact Nat.le_refl _
   ·obtain rfl:j=lo+n:=by omega
    by_cases hi:i=lo+n
    ·subst hi
     exact Nat.le_refl _
    ·rw[all i a (by omega)]
     omega
  rotate_left
  obtain rfl:n=1:=by omega
  have B2:=B
  have K2:=Kp.refl lo aN
  have d2:Dn rk (arrOf aN) lo (lo+(1+1)):=λi j a b c=>by
   by_cases hi:i=j
   ·subst hi
    exact Nat.le_refl _
   ·obtain rfl:i=lo:=by omega
    obtain rfl:j=i+1:=by omega
    rw[show i+1-1=i by omega]at jX
    exact Nat.le_of_lt jX
  all_goals
   refine wpS_bind (wpS_lift (wpAny_rule ⟨rfl,?_⟩))
   refine wpS_bind (wpS_mono (wpS_forRange (I:=λx c bJ=>∃vY,c=(none,x,vY)/\x<=mL/\Bs kd a₀ bJ/\Kp lo aN bJ/\Dn rk (arrOf bJ) lo (lo+x)/\vY+1<=x/\∀i,lo+x-(vY+1)<=i->i<lo+x->R rk (arrOf bJ) i=R rk (arrOf bJ) (lo+x-1))
    (Q:=λc bJ=>∃x vY,c=(none,x,vY)/\1<=x/\x<=mL/\Bs kd a₀ bJ/\Kp lo aN bJ/\Dn rk (arrOf bJ) lo (lo+x)/\vY+1<=x/\∀i,lo+x-(vY+1)<=i->i<lo+x->R rk (arrOf bJ) i=R rk (arrOf bJ) (lo+x-1))
    (λx c bJ SU U4 hI=>?_) (λc bJ hI=>?_) ⟨0,rfl,by omega,B2,K2,d2,by omega,λi a b=>by congr 1;omega⟩) (λc bJ hI=>?_))
   ·obtain⟨vY,rfl,y1,B3,K3,d3,y2,y3⟩:=hI
    dsimp only
    have Ou:lo+x<=(arrOf bJ).size:=by rw[B3.size];omega
    refine wpS_bind (vc C g B3 (by omega) (by omega) ?_)
    by_cases hl:R rk (arrOf bJ) (lo+x)<R rk (arrOf bJ) (lo+x-1)
    ·rw[decide_eq_true hl]
     have ext:∀xs:Array Keyed,(∀k,R rk xs k=R rk (arrOf bJ) k)->Dn rk xs lo (lo+(x+1)):=λxs hk i j a b c=>by
      rw[hk,hk]
      by_cases hj:j<lo+x
      ·exact d3 i j a b hj
      ·obtain rfl:j=lo+x:=by omega
       by_cases hi:i=lo+x
       ·subst hi
        exact Nat.le_refl _
       ·exact Nat.le_trans (Nat.le_of_lt hl) (d3 i (lo+x-1) a (by omega) (by omega))
     refine a8 (λ_=>?_) (λz=>absurd rfl z)
     refine a8 (λz=>wpS_bind (vX (wpS_pure ?_))) (λz=>wpS_pure ?_)
     ·refine⟨0,rfl,by omega,B3.arr (mirror_perm _ _ _ _),K3.trans ⟨λk hk=>?_,rfl⟩,ext _ (kj Ou y3),by omega,λi a b=>by congr 1;omega⟩
      show(mirror (arrOf bJ) _ _ _)[k]?=_
      rw[getElem?_mirror_all Ou,if_neg (by omega)]
     ·exact⟨0,rfl,by omega,B3,K3,ext _ (λ_=>rfl),by omega,λi a b=>by congr 1;omega⟩
    ·rw[decide_eq_false hl]
     refine wpS_bind (vc C g B3 (by omega) (by omega) ?_)
     by_cases T6:R rk (arrOf bJ) (lo+x-1)<R rk (arrOf bJ) (lo+x)
     ·rw[decide_eq_true T6]
      exact wpS_pure ⟨x,vY,rfl,by omega,by omega,B3,K3,d3,y2,y3⟩
     ·rw[decide_eq_false T6]
      have ee:R rk (arrOf bJ) (lo+x)=R rk (arrOf bJ) (lo+x-1):=by omega
      refine wpS_pure ⟨vY+1,rfl,by omega,B3,K3,λi j a b c=>?_,by omega,λi a b=>?_⟩
      ·by_cases hj:j<lo+x
       ·exact d3 i j a b hj
       ·obtain rfl:j=lo+x:=by omega
        by_cases hi:i=lo+x
        ·subst hi
         exact Nat.le_refl _
        ·rw[ee]
         exact d3 i (lo+x-1) a (by omega) (by omega)
      ·rw[show lo+(x+1)-1=lo+x by omega]
       by_cases hi:i=lo+x
       ·rw[hi]
       ·rw[ee]
        exact y3 i (by omega) (by omega)
   ·obtain⟨vY,rfl,y1,B3,K3,d3,y2,y3⟩:=hI
    exact⟨_,vY,rfl,by omega,y1,B3,K3,d3,y2,y3⟩
   ·obtain⟨x,vY,rfl,y0,y1,B3,K3,d3,y2,y3⟩:=hI
    dsimp only
    have Ou:lo+x<=(arrOf bJ).size:=by rw[B3.size];omega
    refine a8 (λz=>wpS_bind (vX ?_)) (λz=>?_)
    have B4:=B3.arr (mirror_perm (arrOf bJ) (lo+x-(vY+1)) (lo+x) ((lo+x-(lo+x-(vY+1)))/2))
    have K4:Kp lo aN (setArr bJ (mirror (arrOf bJ) (lo+x-(vY+1)) (lo+x) ((lo+x-(lo+x-(vY+1)))/2))):=K3.trans ⟨λk hk=>by
     show(mirror (arrOf bJ) _ _ _)[k]?=_
     rw[getElem?_mirror_all Ou,if_neg (by omega)],rfl⟩
    have d4:Dn rk (arrOf (setArr bJ (mirror (arrOf bJ) (lo+x-(vY+1)) (lo+x) ((lo+x-(lo+x-(vY+1)))/2)))) lo (lo+x):=λi j a b c=>by
     show R rk (mirror (arrOf bJ) _ _ _) j<=R rk (mirror (arrOf bJ) _ _ _) i
     rw[kj Ou y3,kj Ou y3]
     exact d3 i j a b c
    rotate_left
    have B4:=B3
    have K4:=K3
    have d4:=d3
    all_goals
     refine wpS_bind (vX ?_)
     have Wm:=B4.size
     have U6:lo+x<=a₀.size:=by omega
     have B5:=B4.arr (mirror_perm _ lo (lo+x) ((lo+x-lo)/2))
     refine wpS_bind (wpS_mono (wpS_forRange (I:=λy c js=>c=(none,y)/\y<=mL/\Bs kd a₀ js/\Kp lo aN js/\Up rk (arrOf js) lo (lo+y))
      (Q:=λc js=>∃y,c=(none,y)/\1<=y/\y<=mL/\Bs kd a₀ js/\Kp lo aN js/\Up rk (arrOf js) lo (lo+y))
      (λy c js Wn Wo hI=>?_) (λc js hI=>?_) ⟨rfl,y1,B5,K4.trans ⟨λk hk=>?_,rfl⟩,λi j a b c=>?_⟩) (λc js hI=>?_))
     ·obtain⟨rfl,z1,B6,K6,u6⟩:=hI
      dsimp only
      refine wpS_bind (vc C g B6 (by omega) (by omega) ?_)
      by_cases hl:R rk (arrOf js) (lo+y)<R rk (arrOf js) (lo+y-1)
      ·rw[decide_eq_true hl]
       exact wpS_pure ⟨y,rfl,by omega,by omega,B6,K6,u6⟩
      ·rw[decide_eq_false hl]
       exact wpS_pure ⟨rfl,by omega,B6,K6,u6.more (by omega) hl⟩
     ·obtain⟨rfl,z1,B6,K6,u6⟩:=hI
      exact⟨_,rfl,by omega,z1,B6,K6,u6⟩
     ·show(mirror _ lo (lo+x) _)[k]?=_
      rw[getElem?_mirror_all (by omega),if_neg (by omega)]
     ·exact MT d4 (by omega) i j a b c
     ·obtain⟨y,rfl,z0,z1,B6,K6,u6⟩:=hI
      exact wpS_pure (q y js B6 K6 z0 z1 u6)
end
noncomputable def Rn(rk:Keyed->Nat)(l:List Keyed):Nat->List (Nat×Nat×Nat)->Nat->Prop
 |b,[],e=>b=e
 |b,r::rs,e=>r.1=b/\1<=r.2.1/\Sd rk ((l.drop b).take r.2.1)/\Rn rk l (b+r.2.1) rs e
theorem Rn.le{rk:Keyed->Nat}{l:List Keyed}:∀{rs:List (Nat×Nat×Nat)} {b e:Nat},Rn rk l b rs e->b+rs.length<=e
 |[],b,e,h=>by
  have h':b=e:=h
  simp[h']
 |r::rs,b,e,h=>by
  obtain⟨h1,h2,h3,h4⟩:=h
  have:=h4.le
  rw[List.length_cons]
  omega
theorem Rn.app{rk:Keyed->Nat}{l:List Keyed}:∀{us vs:List (Nat×Nat×Nat)} {b e:Nat},Rn rk l b (us++vs) e↔∃m,Rn rk l b us m/\Rn rk l m vs e
 |[],vs,b,e=>⟨λh=>⟨b,rfl,h⟩,λ⟨m,h1,h2⟩=>by
  have SV:b=m:=h1
  subst SV
  exact h2⟩
 |r::us,vs,b,e=>by
  constructor
  ·rintro⟨h1,h2,h3,h4⟩
   obtain⟨m,h5,h6⟩:=Rn.app.mp h4
   exact⟨m,⟨h1,h2,h3,h5⟩,h6⟩
  ·rintro⟨m,⟨h1,h2,h3,h5⟩,h6⟩
   exact⟨h1,h2,h3,Rn.app.mpr ⟨m,h5,h6⟩⟩
theorem Rn.same{rk:Keyed->Nat}{l l':List Keyed}:∀{rs:List (Nat×Nat×Nat)} {b e:Nat},Rn rk l b rs e->(∀i,b<=i->i<e->l[i]?=l'[i]?)->Rn rk l' b rs e
 |[],b,e,h,_=>h
 |r::rs,b,e,h,s=>by
  obtain⟨h1,h2,h3,h4⟩:=h
  have hl:=h4.le
  refine⟨h1,h2,?_,h4.same λi a c=>s i (by omega) c⟩
  rw[<-yy λi a c=>s i a (by omega)]
  exact h3
theorem Rn.mod{rk:Keyed->Nat}{l:List Keyed}(f:Nat×Nat×Nat->Nat×Nat×Nat)(hf:∀r,(f r).1=r.1/\(f r).2.1=r.2.1):∀{rs:List (Nat×Nat×Nat)} {b e:Nat} (i:Nat),Rn rk l b rs e->Rn rk l b (rs.modify i f) e
 |[],b,e,i,h=>by
  rw[List.modify_nil]
  exact h
 |r::rs,b,e,0,h=>by
  rw[List.modify_zero_cons]
  obtain⟨h1,h2,h3,h4⟩:=h
  refine⟨(hf r).1.trans h1,?_,?_,?_⟩
  ·rw[(hf r).2]
   exact h2
  ·rw[(hf r).2]
   exact h3
  ·rw[(hf r).2]
   exact h4
 |r::rs,b,e,i+1,h=>by
  rw[List.modify_succ_cons]
  obtain⟨h1,h2,h3,h4⟩:=h
  exact⟨h1,h2,h3,h4.mod f hf i⟩
theorem Rn.join{rk:Keyed->Nat}{l l' m:List Keyed}{us vs:List (Nat×Nat×Nat)}{e sa na pw nb Ry:Nat}(h:Rn rk l 0 (us++(sa,na,pw)::(sa+na,nb,Ry)::vs) e)(hl:sa+na+nb<=l.length)
  (e':l'=l.take sa++m++l.drop (sa+na+nb))(pm:m.Perm ((l.drop sa).take (na+nb)))(sm:Sd rk m):Rn rk l' 0 (us++(sa,na+nb,pw)::vs) e:=by
 obtain⟨b,h1,h2⟩:=Rn.app.mp h
 obtain⟨h3,h4,h5,h6⟩:=h2
 obtain⟨h7,h8,h9,U7⟩:=h6
 have U8:sa=b:=h3
 subst U8
 have ml:m.length=na+nb:=by rw[pm.length_eq,il (by omega)]
 have tl:(l.take sa).length=sa:=by rw[List.length_take];omega
 have lo:∀i,i<sa->l[i]?=l'[i]?:=λi hi=>by
  rw[e',List.append_assoc,List.getElem?_append_left (by omega),List.getElem?_take,if_pos hi]
 have hi:∀i,sa+na+nb<=i->l[i]?=l'[i]?:=λi hi=>by
  rw[e',List.getElem?_append_right (by rw[List.length_append];omega),List.length_append,List.getElem?_drop]
  congr 1
  omega
 refine Rn.app.mpr ⟨sa,h1.same λi _ c=>lo i c,rfl,Nat.le_trans h4 (Nat.le_add_right _ _),?_,?_⟩
 ·have:(l'.drop sa).take (na+nb)=m:=by
    rw[e',List.append_assoc,List.drop_append_of_le_length (by omega),List.drop_eq_nil_of_le (by omega),List.nil_append,List.take_append_of_le_length (by omega),List.take_of_length_le (by omega)]
  show Sd rk ((l'.drop sa).take (na+nb))
  rw[this]
  exact sm
 ·show Rn rk l' (sa+(na+nb)) vs e
  rw[<-Nat.add_assoc]
  exact U7.same λi a _=>hi i a
theorem Ep{α:Type}{p:Array α}{i:Nat}{x y:α}(h1:p[i]?=some x)(h2:p[i+1]?=some y)(z:α):∃us vs,p.toList=us++x::y::vs/\((p.setIfInBounds i z).eraseIdxIfInBounds (i+1)).toList=us++z::vs/\us.length=i:=by
 have k1:p.toList[i]?=some x:=by simpa using h1
 have k2:p.toList[i+1]?=some y:=by simpa using h2
 obtain⟨l1,e1⟩:=List.getElem?_eq_some_iff.mp k1
 obtain⟨l2,e2⟩:=List.getElem?_eq_some_iff.mp k2
 have d:p.toList.drop i=x::y::p.toList.drop (i+1+1):=by rw[List.drop_eq_getElem_cons l1,List.drop_eq_getElem_cons l2,e1,e2]
 have e:p.toList=p.toList.take i++x::y::p.toList.drop (i+1+1):=by rw[<-d,List.take_append_drop]
 have tl:(p.toList.take i).length=i:=by rw[List.length_take];omega
 refine⟨p.toList.take i,p.toList.drop (i+1+1),e,?_,tl⟩
 rw[Array.toList_eraseIdxIfInBounds,Array.toList_setIfInBounds]
 have:p.toList.set i z=p.toList.take i++z::y::p.toList.drop (i+1+1):=by
  rw[e]
  rw[List.set_append_right _ _ (by omega),tl,Nat.sub_self]
  simp[tl]
  exact congrArg (List.drop (i+1+1)) e
 rw[this,List.eraseIdx_append_of_length_le (by omega),tl,show i+1-i=1 by omega]
 rfl
section
variable{prog:Program}{w:World}{A:Around}{E:Value->Shared->Prop}{s:Shared}{kd:SortKind}{G:Keyed->Prop}{rk:Keyed->Nat}{a₀:Array Keyed}
theorem C2(C:yq prog w A E s kd G rk)(g:Gd G a₀){st:SortSt}{Q:Bool->SortSt->Prop}{i e:Nat}(B:Bs kd a₀ st)(r:Rn rk (arrOf st).toList 0 (pendingOf st).toList e)(he:e<=a₀.size)(hi:i+1<(pendingOf st).size)
  (q:∀aN,Bs kd a₀ aN->Rn rk (arrOf aN).toList 0 (pendingOf aN).toList e->(pendingOf aN).size+1=(pendingOf st).size->(∀k,e<=k->(arrOf aN).toList[k]?=(arrOf st).toList[k]?)->Q true aN):wpS (model prog w) A E s (mergeAt' i) Q st:=by
 obtain⟨⟨sa,na,pw⟩,e1⟩:∃x,(pendingOf st)[i]?=some x:=⟨_,getElem?_pos _ i (by omega)⟩
 obtain⟨⟨sb,nb,Ry⟩,e2⟩:∃x,(pendingOf st)[i+1]?=some x:=⟨_,getElem?_pos _ (i+1) hi⟩
 obtain⟨us,vs,p1,p2,p3⟩:=Ep e1 e2 (sa,na+nb,pw)
 have r':=r
 rw[p1]at r'
 obtain⟨b,h1,h2,h3,h4,h5,h6,h7,h8⟩:=Rn.app.mp r'
 have hb:sa=b:=h2
 subst hb
 have SW:sb=sa+na:=h5
 subst SW
 have hle:=h8.le
 have o7:=B.size
 dsimp only at h3 h4 h6 h7 hle
 refine Bj C B.k (B.gd g) B.f e1 e2 h3 h6 (by omega) h4 h7 λaN m k1 k2 k3 k4 k5 k6=>?_
 have U9:(arrOf aN).toList.Perm (arrOf st).toList:=by
  rw[k4]
  have:=ph (arrOf st).toList sa (na+nb)
  rw[<-Nat.add_assoc]at this
  conv=>rhs;rw[this]
  exact(k5.append_left _).append_right _
 refine q aN ⟨(Array.perm_iff_toList_perm.mpr U9).trans B.pm,k1,k2⟩ ?_ ?_ λk hk=>?_
 ·rw[k3,p2]
  exact Rn.join r' (by rw[Array.length_toList];omega) k4 k5 k6
 ·rw[k3,<-Array.length_toList,p2,<-Array.length_toList,p1]
  simp only[List.length_append,List.length_cons]
  omega
 ·rw[k4,List.getElem?_append_right (by rw[List.length_append,List.length_take,k5.length_eq,il (by rw[Array.length_toList];omega)];omega),List.getElem?_drop]
  congr 1
  rw[List.length_append,List.length_take,k5.length_eq,il (by rw[Array.length_toList];omega),Array.length_toList]
  omega
theorem MU{c:Prop}[Decidable c]{a b n:Nat}(h1:a+1<n)(h2:b+1<n):(if c then a else b)+1<n:=by
 split
 ·exact h1
 ·exact h2
theorem C3{st:SortSt}{lo n x:Nat}(B:Bs kd a₀ st)(r:Rn rk (arrOf st).toList 0 (pendingOf st).toList lo)(sd:Sd rk (((arrOf st).toList.drop lo).take n))(h1:1<=n)(hn:lo+n<=a₀.size)(hx:x<=lo\/lo=a₀.size):
  ∃PF,((none:Option Unit),lo+n)=(none,PF)/\Bs kd a₀ (setPending st ((pendingOf st).push (lo,n,0)))/\PF<=a₀.size/\(x+1<=PF\/PF=a₀.size)/\Rn rk (arrOf (setPending st ((pendingOf st).push (lo,n,0)))).toList 0 (pendingOf (setPending st ((pendingOf st).push (lo,n,0)))).toList PF:=by
 refine⟨lo+n,rfl,⟨B.pm,B.k,B.f⟩,hn,by omega,?_⟩
 show Rn rk (arrOf st).toList 0 ((pendingOf st).push (lo,n,0)).toList (lo+n)
 rw[Array.toList_push]
 exact Rn.app.mpr ⟨lo,r,rfl,h1,sd,rfl⟩
theorem yA(C:yq prog w A E s kd G rk)(g:Gd G a₀){st:SortSt}{Q:Unit->SortSt->Prop}(B:Bs kd a₀ st)(hp:pendingOf st=#[])
  (q:∀aN,Bs kd a₀ aN->Sd rk (arrOf aN).toList->Q () aN):wpS (model prog w) A E s sortRuns' Q st:=by
 rw[sortRuns'_eq]
 refine wpS_bind (wpS_get ?_)
 dsimp only
 rw[B.size]
 refine wpS_bind (wpS_mono (wpS_forRange (I:=λx c aN=>∃lo,c=(none,lo)/\Bs kd a₀ aN/\lo<=a₀.size/\(x<=lo\/lo=a₀.size)/\Rn rk (arrOf aN).toList 0 (pendingOf aN).toList lo)
  (Q:=λc aN=>∃lo,c=(none,lo)/\lo=a₀.size/\Bs kd a₀ aN/\Rn rk (arrOf aN).toList 0 (pendingOf aN).toList lo) ?step ?fin ⟨0,rfl,B,Nat.zero_le _,.inl (Nat.le_refl _),by rw[hp];rfl⟩) ?post)
 case fin=>
  rintro c aN ⟨lo,rfl,B1,h1,h2,r1⟩
  exact⟨lo,rfl,by omega,B1,r1⟩
 case step=>
  rintro x c aN-hx ⟨lo,rfl,B1,h1,h2,r1⟩
  dsimp only
  refine a8 (λd=>wpS_pure ⟨lo,rfl,by omega,B1,r1⟩) (λd=>?_)
  have d':lo<a₀.size:=by omega
  refine wpS_bind (yz C g B1 (by omega) (by omega) λm bJ B2 K2 m1 m2 u2=>?_)
  dsimp only
  have keepR:∀{qY:SortSt},Kp lo aN qY->Rn rk (arrOf qY).toList 0 (pendingOf qY).toList lo:=λ{qY} K=>by
   rw[K.2]
   refine r1.same λi _ hi=>?_
   rw[Array.getElem?_toList,Array.getElem?_toList]
   exact(K.1 i hi).symm
  refine a8 (λz=>wpS_bind (wpS_lift (wpAny_rule ⟨rfl,wpS_bind (uj C g (n:=min (a₀.size-lo) (minRun' a₀.size a₀.size 0)) B2 (by omega) (by omega) m1 u2 λlN B4 K3 u4=>a8 (λy=>absurd y (by decide)) λy=>?_)⟩))) (λz=>?_)
  have hn:lo+min (a₀.size-lo) (minRun' a₀.size a₀.size 0)<=a₀.size:=by omega
  have Jx:1<=min (a₀.size-lo) (minRun' a₀.size a₀.size 0):=by omega
  have K4:=K2.trans K3
  generalize min (a₀.size-lo) (minRun' a₀.size a₀.size 0)=nn at hn Jx u4⊢
  rotate_left
  have hn:lo+m<=a₀.size:=by omega
  have Jx:1<=m:=m1
  obtain⟨lN,rfl⟩:∃lN,lN=bJ:=⟨_,rfl⟩
  obtain⟨nn,rfl⟩:∃nn,nn=m:=⟨_,rfl⟩
  have K4:=K2
  have B4:=B2
  have u4:=u2
  all_goals
   refine wpS_bind (wpS_get ?_)
   have r4:=keepR K4
   have s4:=u4.sd (by rw[B4.size];exact hn)
   cases eb:(pendingOf lN).back? with
   |none=>exact wpS_bind (wpS_modify (wpS_pure (C3 B4 r4 s4 Jx hn h2)))
   |some top=>
    obtain⟨s1,n1,p1⟩:=top
    dsimp only
    refine wpS_bind (wpS_mono (wpS_forRange (I:=λ_ c js=>c=(none,())/\Bs kd a₀ js/\Rn rk (arrOf js).toList 0 (pendingOf js).toList lo/\∀k,lo<=k->(arrOf js).toList[k]?=(arrOf lN).toList[k]?)
     (Q:=λc js=>c=(none,())/\Bs kd a₀ js/\Rn rk (arrOf js).toList 0 (pendingOf js).toList lo/\∀k,lo<=k->(arrOf js).toList[k]?=(arrOf lN).toList[k]?) (λy c js _ hy hI=>?_) (λ_ _ hI=>hI) ⟨rfl,B4,r4,λ_ _=>rfl⟩) (λc js hI=>?_))
    ·obtain⟨rfl,B5,r5,k5⟩:=hI
     refine wpS_bind (wpS_get ?_)
     by_cases hs:(pendingOf js).size>1
     ·rw[if_pos hs]
      obtain⟨⟨f1,f2,T7⟩,e5⟩:∃z,(pendingOf js)[(pendingOf js).size-2]?=some z:=⟨_,getElem?_pos _ _ (by omega)⟩
      rw[e5]
      dsimp only
      refine a8 (λ_=>wpS_pure ⟨rfl,B5,r5,k5⟩) (λ_=>?_)
      exact wpS_bind (C2 C g B5 r5 h1 (by omega) λWq B6 r6 _ k6=>a8 (λy=>absurd y (by decide)) λ_=>wpS_pure ⟨rfl,B6,r6,λk hk=>(k6 k hk).trans (k5 k hk)⟩)
     ·rw[if_neg hs]
      exact wpS_pure ⟨rfl,B5,r5,k5⟩
    ·obtain⟨rfl,B5,r5,k5⟩:=hI
     dsimp only
     refine wpS_bind (wpS_modify (wpS_bind (wpS_modify (wpS_pure ?_))))
     refine C3 (st:=setPending js _) ⟨B5.pm,B5.k,B5.f⟩ ?_ ?_ Jx hn h2
     ·show Rn rk (arrOf js).toList 0 ((pendingOf js).modify _ _).toList lo
      rw[Array.toList_modify]
      refine Rn.mod _ ?_ _ r5
      exact λ_=>⟨rfl,rfl⟩
     ·have:=s4
      rw[yy λi a _=>(k5 i a).symm]at this
      exact this
 case post=>
  rintro c aN ⟨lo,rfl,rfl,B1,r1⟩
  dsimp only
  refine wpS_bind (wpS_mono (wpS_forRange (I:=λx c bJ=>c=(none,())/\Bs kd a₀ bJ/\Rn rk (arrOf bJ).toList 0 (pendingOf bJ).toList a₀.size/\((pendingOf bJ).size+x<=a₀.size\/(pendingOf bJ).size<=1))
   (Q:=λc bJ=>c=(none,())/\Bs kd a₀ bJ/\Rn rk (arrOf bJ).toList 0 (pendingOf bJ).toList a₀.size/\(pendingOf bJ).size<=1) (λx c bJ _ hx hI=>?_) (λc bJ hI=>?_) ⟨rfl,B1,r1,?_⟩) (λc bJ hI=>?_))
  ·obtain⟨rfl,B2,r2,h2⟩:=hI
   refine wpS_bind (wpS_get ?_)
   refine a8 (λd=>wpS_pure ⟨rfl,B2,r2,d⟩) (λd=>?_)
   refine wpS_bind (C2 C g B2 r2 (Nat.le_refl _) ?_ λqY B3 r3 h3 _=>a8 (λy=>absurd y (by decide)) λ_=>wpS_pure ⟨rfl,B3,r3,by omega⟩)
   exact MU (by omega) (by omega)
  ·obtain⟨rfl,B2,r2,h2⟩:=hI
   exact⟨rfl,B2,r2,by omega⟩
  ·have:=r1.le
   rw[Array.length_toList]at this
   exact .inl (by omega)
  ·obtain⟨rfl,B2,r2,h2⟩:=hI
   dsimp only
   refine wpS_pure (q bJ B2 ?_)
   have hl:(pendingOf bJ).toList.length<=1:=by rw[Array.length_toList];exact h2
   have o7:(arrOf bJ).toList.length=a₀.size:=by rw[Array.length_toList,B2.size]
   cases e:(pendingOf bJ).toList with
   |nil=>
    rw[e]at r2
    have z:0=a₀.size:=r2
    have:(arrOf bJ).toList=[]:=List.eq_nil_of_length_eq_zero (by omega)
    rw[this]
    exact Sd.nil
   |cons r rs=>
    cases rs with
    |cons _ _=>
     rw[e]at hl
     simp at hl
    |nil=>
     rw[e]at r2
     obtain⟨y1,y2,y3,y4⟩:=r2
     have Wr:0+r.2.1=a₀.size:=y4
     rw[List.drop_zero,List.take_of_length_le (by omega)]at y3
     exact y3
end
end TS
namespace L2
open PySem PySem.Spec PyProof.Rows
noncomputable def vZ(sc:Scope)(env:Env):List (Str×Addr):=sc.names.foldl (λcs p=>if p.2=.free then(p.1,(env.cells.lookup p.1).getD 0)::cs else cs) []
theorem v3(env:Env):∀(ns:List (Str×NameKind)) (acc:List (Str×Addr)),(∀p∈ns,p.2=.free->∃c,env.cells.lookup p.1=some c)->
  (forIn ns acc (λ(x:Str×NameKind) (r:List (Str×Addr))=>match x with|(name,kind)=>if(kind==.free)=true then(do let c<-cellOf env name;pure (ForInStep.yield ((name,c)::r)))else pure (ForInStep.yield r)):Sem _)=
    pure (ns.foldl (λcs p=>if p.2=.free then(p.1,(env.cells.lookup p.1).getD 0)::cs else cs) acc)
 |[],acc,_=>rfl
 |(n,k)::ns,acc,h=>by
  rw[List.forIn_cons]
  by_cases hk:k=.free
  ·subst hk
   obtain⟨c,hc⟩:=h (n,.free) (List.mem_cons_self ..) rfl
   have e1:cellOf env n=pure c:=by
    unfold cellOf
    rw[hc]
   dsimp only
   rw[if_pos (by rfl),e1,pure_bind,pure_bind,List.foldl_cons,if_pos rfl,hc]
   exact v3 env ns _ λp hp=>h p (List.mem_cons_of_mem _ hp)
  ·dsimp only
   rw[if_neg (by simpa using hk),pure_bind,List.foldl_cons,if_neg hk]
   exact v3 env ns _ λp hp=>h p (List.mem_cons_of_mem _ hp)
theorem C4{sc:Scope}{env:Env}(h:∀p∈sc.names,p.2=.free->∃c,env.cells.lookup p.1=some c):closureFor sc env=pure (vZ sc env):=by
 unfold closureFor vZ
 have:=v3 env sc.names [] h
 exact(congrArg (λm:Sem (List (Str×Addr))=>m>>=λr=>pure r) this).trans rfl
theorem C5(env:Env):∀(ns:List (Str×NameKind)) (acc:List (Str×Addr)) (y:Str) (c:Addr),(ns.foldl (λcs p=>if p.2=.free then(p.1,(env.cells.lookup p.1).getD 0)::cs else cs) acc).lookup y=some c->
  acc.lookup y=some c\/((y,NameKind.free)∈ns/\c=(env.cells.lookup y).getD 0)
 |[],acc,y,c,h=>.inl h
 |(n,k)::ns,acc,y,c,h=>by
  rw[List.foldl_cons]at h
  rcases C5 env ns _ y c h with h1|⟨h1,h2⟩
  ·by_cases hk:k=.free
   ·rw[if_pos hk,List.lookup_cons]at h1
    by_cases hy:(y==n)=true
    ·rw[hy]at h1
     have e:y=n:=eq_of_beq hy
     subst e
     exact .inr ⟨by rw[hk];exact List.mem_cons_self ..,(Option.some.inj h1).symm⟩
    ·rw[Bool.not_eq_true]at hy
     rw[hy]at h1
     exact .inl h1
   ·rw[if_neg hk]at h1
    exact .inl h1
  ·exact .inr ⟨List.mem_cons_of_mem _ h1,h2⟩
theorem Bk(env:Env):∀(ns:List (Str×NameKind)) (acc:List (Str×Addr)) (y:Str),((y,NameKind.free)∈ns\/∃c,acc.lookup y=some c)->∃c,(ns.foldl (λcs p=>if p.2=.free then(p.1,(env.cells.lookup p.1).getD 0)::cs else cs) acc).lookup y=some c
 |[],acc,y,h=>by
  rcases h with h|h
  ·cases h
  ·exact h
 |(n,k)::ns,acc,y,h=>by
  rw[List.foldl_cons]
  refine Bk env ns _ y ?_
  rcases h with h|⟨c,h⟩
  ·rcases List.mem_cons.mp h with e|h
   ·injection e with e1 e2
    subst e1 e2
    rw[if_pos rfl,List.lookup_cons]
    exact .inr ⟨_,by rw[beq_self_eq_true]⟩
   ·exact .inl h
  ·refine .inr ?_
   split
   ·rw[List.lookup_cons]
    cases y==n with
    |true=>exact⟨_,rfl⟩
    |false=>exact⟨c,h⟩
   ·exact⟨c,h⟩
structure gJ(vd:Scope)(N:List Str)(sc:Scope)(x:Str)(ys:List Str):Prop where
 kind:sc.kind=.function
 xloc:sc.names.lookup x=some .local
 nocell:∀p∈sc.names,p.2≠.cell
 locs:∀p∈sc.names,p.2=.local->sc.names.lookup p.1=some .local
 free:∀p∈sc.names,p.2=.free->vd.names.lookup p.1=some .cell\/vd.names.lookup p.1=some .free
 nd:(x::ys).Nodup
 len:ys.length=N.length
 pl:∀p∈ys.zip N,sc.names.lookup p.1=some .free->p.1=p.2
 nl:∀y∈ys,sc.names.lookup y≠some .local
noncomputable def kl(vd:Scope)(N:List Str)(sc:Scope)(x:Str)(ys:List Str):Bool:=
 decide (sc.kind=.function)&&decide (sc.names.lookup x=some .local)&&decide (∀p∈sc.names,p.2≠.cell)&&decide (∀p∈sc.names,p.2=.local->sc.names.lookup p.1=some .local)&&
 decide (∀p∈sc.names,p.2=.free->vd.names.lookup p.1=some .cell\/vd.names.lookup p.1=some .free)&&decide ((x::ys).Nodup)&&decide (ys.length=N.length)&&
 decide (∀p∈ys.zip N,sc.names.lookup p.1=some .free->p.1=p.2)&&decide (∀y∈ys,sc.names.lookup y≠some .local)
theorem gJ.of{vd:Scope}{N:List Str}{sc:Scope}{x:Str}{ys:List Str}(h:kl vd N sc x ys=true):gJ vd N sc x ys:=by
 unfold kl at h
 simp only[Bool.and_eq_true,decide_eq_true_eq]at h
 obtain⟨⟨⟨⟨⟨⟨⟨⟨h1,h2⟩,h3⟩,h4⟩,h5⟩,h6⟩,h7⟩,h8⟩,h9⟩:=h
 exact⟨h1,h2,h3,h4,h5,h6,h7,h8,h9⟩
noncomputable def Cx.pj(X:Cx)(sc:Scope)(x:Str)(ys:List Str)(ex:List Addr)(C:Addr)(s:Shared)(H:Hp):Cx where
 prog:=X.prog
 w:=X.w
 K:=X.K
 mg:=X.mg
 base:=X.base
 A:=X.A
 N:=x::ys
 s₀:=s
 H₀:=H
 env:=compEnvC sc (vZ sc X.env) C X.env
 outer:=X.stack
 stack:=X.stack
 ex:=ex
 fn:=λ_=>false
 calm:=X.calm
 pn:=[]
 xe:=λ_ _=>False
theorem cy{env:Env}:∀{ns:List (Str×NameKind)} {y:Str} {k:NameKind},(ns.map λ(n,k)=>if(k==NameKind.free&&env.scope.kind==.function&&env.kindOf n==some .cell)then(n,NameKind.cell)else(n,k)).lookup y=some k->
  ns.lookup y=some k\/(ns.lookup y=some .free/\k=.cell)
 |[],y,k,h=>by cases h
 |(n,j)::ns,y,k,h=>by
  rw[List.map_cons]at h
  dsimp only at h
  cases hy:y==n with
  |true=>
   by_cases hc:(j==NameKind.free&&env.scope.kind==.function&&env.kindOf n==some .cell)=true
   ·rw[if_pos hc,List.lookup_cons,hy]at h
    have hj:j=.free:=by
     simp only[Bool.and_eq_true]at hc
     exact eq_of_beq hc.1.1
    refine .inr ⟨?_,(Option.some.inj h).symm⟩
    rw[List.lookup_cons,hy,hj]
   ·rw[if_neg hc,List.lookup_cons,hy]at h
    refine .inl ?_
    rw[List.lookup_cons,hy]
    exact h
  |false=>
   have h':(ns.map λ(n,k)=>if(k==NameKind.free&&env.scope.kind==.function&&env.kindOf n==some .cell)then(n,NameKind.cell)else(n,k)).lookup y=some k:=by
    by_cases hc:(j==NameKind.free&&env.scope.kind==.function&&env.kindOf n==some .cell)=true
    ·rw[if_pos hc,List.lookup_cons,hy]at h
     exact h
    ·rw[if_neg hc,List.lookup_cons,hy]at h
     exact h
   rw[List.lookup_cons,hy]
   exact cy h'
section
variable{X:Cx}{pins:List (Addr×Obj)}{σ:St}{H:Hp}{s:Shared}{sc:Scope}{x:Str}{ys:List Str}
theorem gJ.cell(cs:gJ X.env.scope X.N sc x ys)(I:Inv X pins σ H s){y:Str}(h:(y,NameKind.free)∈sc.names):∃c,X.env.cells.lookup y=some c:=I.ok.has y (cs.free _ h rfl)
theorem gJ.cl(cs:gJ X.env.scope X.N sc x ys)(I:Inv X pins σ H s){y:Str}{c:Addr}(h:(vZ sc X.env).lookup y=some c):X.env.cells.lookup y=some c/\(y,NameKind.free)∈sc.names:=by
 rcases C5 X.env sc.names [] y c h with h1|⟨h1,h2⟩
 ·cases h1
 ·obtain⟨d,hd⟩:=cs.cell I h1
  rw[hd]at h2
  rw[h2]
  exact⟨hd,h1⟩
theorem MV(cs:gJ X.env.scope X.N sc x ys)(I:Inv X pins σ H s){fp:List Addr}(hf:∀b∈fp,o6 X pins H b)(jX:∀b∈fp,b<s.heap.objs.size){C:Addr}(hC:s.heap.objs.size<=C):(X.pj sc x ys fp C s H).Ok where
 mod:=I.ok.mod
 kind:=cs.kind
 glob:=I.ok.glob
 blt:=I.ok.blt
 above:=hC
 inj:=λy z c h1 h2=>I.ok.inj y z c (cs.cl I h1).1 (cs.cl I h2).1
 has:=λy hy=>by
  have Va:(relabel sc X.env).names.lookup y=some .cell\/(relabel sc X.env).names.lookup y=some .free:=hy
  have hf:(y,NameKind.free)∈sc.names:=by
   rcases Va with h|h
   ·rcases cy h with h1|⟨h1,_⟩
    ·exact absurd rfl (cs.nocell _ (PySem.mem_of_lookup h1))
    ·exact PySem.mem_of_lookup h1
   ·rcases cy h with h1|⟨h1,_⟩
    ·exact PySem.mem_of_lookup h1
    ·exact PySem.mem_of_lookup h1
  exact Bk X.env sc.names [] y (.inl hf)
 cab:=λy c h=>by cases h
 hd:=I.ok.hd
 frames:=I.ok.frames
 stk:=.inl rfl
 exf:=λb hb=>⟨λe=>by
  have:=jX b hb
  rw[e]at this
  exact absurd (Nat.lt_of_lt_of_le this hC) (Nat.lt_irrefl _),λy c h=>(hf b hb).2.2.2.2.1 y c (cs.cl I h).1⟩
 bs:=I.bs
 bsz:=Nat.le_trans I.ok.bsz I.sz
 noex:=λb o e hb=>by
  rcases(hf b hb).2.2.2.1 with h|h
  ·exact I.ok.noex b o e h
  ·exact absurd (Nat.lt_of_lt_of_le (Heap.lt_size e) (Nat.le_trans I.ok.bsz h)) (Nat.lt_irrefl _)
 exfs:=λb hb h=>(List.mem_cons.mp (I.AX b h)).elim (hf b hb).2.1 (hf b hb).2.2.1
 funs:=I.stack
 frf:=I.CM
end
noncomputable def Ge(X:Cx)(ifs:List Expr)(t:TT):Prop:=
 ∀(pins:List (Addr×Obj)) (s:Shared) (σ:St) (H:Hp) (Q:Bool->Hp->Prop),Inv X pins σ H s->t σ H Q->
  wpAny (model X.prog X.w) X.A (forIn ifs true λc r=>if r=true then do let ok<-isTrue c X.env (eval c X.env);pure (ForInStep.yield ok)else pure (ForInStep.yield r)) (TP X pins σ Q) X.xe s
theorem yB{X:Cx}:Ge X [] (λ_ H Q=>Q true H):=λpins s σ H Q I h=>wpAny_tests_nil ⟨H,I,h⟩
theorem yC{X:Cx}{c:Expr}{t:TT}(h:PT X c t):Ge X [c] t:=λpins s σ H Q I q=>wpAny_tests_one (h pins s σ H Q I q)
noncomputable def Gf(wi:TI)(tt:TT)(te:TE):TE:=λσ H Q=>wi σ H λJ H1=>∃W:Nat->Nat->List V->Hp->Prop,(∃m,W 0 m [] H1)/\∀i m acc H,W i m acc H->
 (J.stop i H/\∀p,H p=none->Q (.ref p) (upd H p (.lst acc)))\/(J.go i H/\acc.length<sizeLine/\∀y H',J.yld i H y H'->tt (some y::σ) H' λb H2=>
   if b=true then te (some y::σ) H2 λz H3=>∃m',m'<m/\W (i+1) m' (acc++[z]) H3 else∃m',m'<m/\W (i+1) m' acc H2)
section
variable{X:Cx}{sc:Scope}{x:Str}{ys:List Str}{px:Pos}{elt iter:Expr}{ifs:List Expr}{pos:Pos}{wi:TI}{tt:TT}{te:TE}
noncomputable def lobj(its:List Value)(n:Nat):Obj:={cls:=.type "list",data:=.seq its.toArray n}
theorem yD{M:Value->Env->Result->Shared->Prop}{pins:List (Addr×Obj)}{σ:St}{H:Hp}{s:Shared}{E:Value->Shared->Prop}(hc:X.calm=true)(cs:gJ X.env.scope X.N sc x ys)(I:Inv X pins σ H s)
  (ht:∀ex C s H,Ge (X.pj sc x ys ex C s H) ifs tt)(he:∀ex C s H,PE (X.pj sc x ys ex C s H) elt te)
  {it:Addr}{fp:List Addr}{tn:Nat->Heap->Prop}{J:It}(T:Turn X.prog X.w X.K (.Name x px) J fp it tn)(st:tn 0 s.heap)(hf:∀b∈fp,o6 X pins H b)
  {W:Nat->Nat->List V->Hp->Prop}{m0:Nat}(w0:W 0 m0 [] H){F:List V->Hp->Prop}
  (turn:∀i m acc H,W i m acc H->(J.stop i H/\F acc H)\/(J.go i H/\acc.length<sizeLine/\∀y H',J.yld i H y H'->tt (some y::σ) H' λb H2=>
    if b=true then te (some y::σ) H2 λz H3=>∃m',m'<m/\W (i+1) m' (acc++[z]) H3 else∃m',m'<m/\W (i+1) m' acc H2))
  (hM:∀(D C:Addr) (md:Env) (s':Shared) (acc:List V) (H':Hp) (its:List Value) (n:Nat),md.locals=C->D≠C->s.heap.objs.size<=D->s.heap.objs.size<=C->Inv (X.pj sc x ys fp C s H) [(D,lobj its n)] (none::σ) H' s'->Vals acc its->acc.length<=sizeLine->F acc H'->
    M (.ref D) md (.ok .next) s'):
  wpAny (model X.prog X.w) X.A (newList []) (λacc s₃=>wpAny (model X.prog X.w) X.A (newFunctionEnv sc X.env.globals (vZ sc X.env) [] X.env.qual none .none (some X.env)) (λmd s₄=>
   codeAny (model X.prog X.w) X.A (.compStart (.ListComp elt [⟨.Name x px,iter,ifs,0⟩] sc pos) 0 (.ref it) acc {md with scope:=relabel sc X.env}) (M acc md) s₄) E s₃) E s:=by
 have jX:∀b∈fp,b<s.heap.objs.size:=λb hb=>by
  obtain⟨o,e,_⟩:=T.obj 0 _ st b hb
  exact Heap.lt_size e
 refine wpAny_newObj_type (wpAny_newFunctionEnv cs.nocell (by intro y hy;simp at hy) (λh1 Ov RC=>?_) cs.kind)
 dsimp only at Ov RC⊢
 generalize SX:s.heap.push {cls:=.type "list",dict:=none,data:=.seq ([]:List Value).toArray}=h2 at Ov RC⊢
 have hC:h2.objs.size=s.heap.objs.size+1:=by rw[<-SX,Heap.size_push]
 have IP:s.heap.objs.size≠h2.objs.size:=by omega
 have old:∀b o,s.heap.get? b=some o->h1.get? b=some o:=λb o e=>by
  have hb:=Heap.lt_size e
  rw[RC.2 b (by rw[hC];exact Nat.ne_of_lt (Nat.lt_succ_of_lt hb))]
  exact Heap.get?_push_of_some _ (SX▸Heap.get?_push_of_some _ e)
 have hD:h1.get? s.heap.objs.size=some (lobj [] 0):=by
  rw[RC.2 _ IP]
  exact Heap.get?_push_of_some _ (SX▸Heap.get?_push_size _ rfl)
 generalize Ws:h2.objs.size=C at*
 have MW:s.heap.objs.size<=C:=by omega
 have Gg:∀b,s.heap.objs.size<=b->H b=none:=λb hb=>I.dh.fresh hb
 have IY:∀b,s.heap.objs.size<=b->b∉Ec X.stack:=λb hb z=>by
  obtain⟨_,o,ho,_⟩:=(I.stack).mem z
  exact absurd (Nat.lt_of_lt_of_le (Heap.lt_size ho) hb) (Nat.lt_irrefl _)
 have I0:Inv (X.pj sc x ys fp C s H) [(s.heap.objs.size,lobj [] 0)] (none::σ) H {s with heap:=h1,toks:=s.toks+([]:List (Str×Value)).length}:=by
  refine⟨MV cs I hf jX MW,rfl,I.bare,Un.kept old,⟨_,Ov,λi y v e1 e2 e3=>?_⟩,λy c e=>?_,Gg _ MW,λy c e=>I.freeC y c (cs.cl I e).1,λp hp=>?_,I.dh.kept old,?_⟩
  ·cases i with
   |zero=>cases e2
   |succ i=>
    have Rz:ys[i]?=some y:=e1
    have TV:σ[i]?=some (some v):=e2
    have Ld:(relabel sc X.env).names.lookup y=some .local\/(relabel sc X.env).names.lookup y=some .cell\/(relabel sc X.env).names.lookup y=some .free:=e3
    have SY:sc.names.lookup y=some .free:=by
     rcases Ld with h|h|h
     ·rcases cy h with h1|⟨_,h1⟩
      ·exact absurd h1 (cs.nl y (List.mem_of_getElem? Rz))
      ·cases h1
     ·rcases cy h with h1|⟨h1,_⟩
      ·exact absurd rfl (cs.nocell _ (PySem.mem_of_lookup h1))
      ·exact h1
     ·rcases cy h with h1|⟨h1,_⟩
      ·exact h1
      ·exact h1
    have hi:i<X.N.length:=by
     rw[<-cs.len]
     exact(List.getElem?_eq_some_iff.mp Rz).1
    have hN:X.N[i]?=some y:=by
     have hz:(ys.zip X.N)[i]?=some (y,X.N[i]):=by
      rw[List.getElem?_zip_eq_some]
      exact⟨Rz,List.getElem?_eq_getElem hi⟩
     have:=cs.pl _ (List.mem_of_getElem? hz) SY
     dsimp only at this
     rw[this]
     exact List.getElem?_eq_getElem hi
    have MX:(y,NameKind.free)∈sc.names:=PySem.mem_of_lookup SY
    obtain⟨m,hn,hl⟩:=I.loc
    obtain⟨u,r,lk⟩:=hl i y v hN TV (.inr (cs.free _ MX rfl))
    refine⟨u,r,.inr ⟨?_,?_⟩⟩
    ·rcases Ld with h|h
     ·rcases cy h with h1|⟨_,h1⟩
      ·rw[SY]at h1
       cases h1
      ·cases h1
     ·exact h
    ·rcases lk with⟨k,_⟩|⟨_,c,e,z⟩
     ·rcases cs.free _ MX rfl with h|h
      ·have k':X.env.scope.names.lookup y=some .local:=k
       rw[h]at k'
       cases k'
      ·have k':X.env.scope.names.lookup y=some .local:=k
       rw[h]at k'
       cases k'
     ·obtain⟨c',OM⟩:=Bk X.env sc.names [] y (.inl MX)
      have:c'=c:=by
       have:=(cs.cl I (show(vZ sc X.env).lookup y=some c' from OM)).1
       rw[e]at this
       exact(Option.some.inj this).symm
      subst this
      obtain⟨o,ho,hd⟩:=z
      exact⟨c',OM,o,old _ _ ho,hd⟩
  ·obtain⟨v,o,ho,hd⟩:=I.cell y c (cs.cl I e).1
   exact⟨v,o,old _ _ ho,hd⟩
  ·obtain rfl:p=(s.heap.objs.size,lobj [] 0):=by simpa using(show p∈([]:List (Addr×Obj))++[(s.heap.objs.size,lobj [] 0)]from hp)
   exact⟨hD,Gg _ (Nat.le_refl _),IP,IY _ (Nat.le_refl _),λv z=>by cases z⟩
  ·show(none::σ).length=(x::ys).length
   rw[List.length_cons,List.length_cons,I.len,cs.len]
 have S0:s.heap.objs.size∉fp:=λz=>Nat.lt_irrefl _ (jX _ z)
 have S1:∀{nN:List (Addr×Obj)} {H':Hp} {s':Shared} {σ':St},Inv (X.pj sc x ys fp C s H) nN σ' H' s'->(∀b∈fp,H' b=none)->(∀p∈nN,p.1∉fp)->∀b∈fp,o6 (X.pj sc x ys fp C s H) nN H' b:=λ{nN H' s' σ'} I' hn hp b hb=>
  ⟨hn b hb,(I'.ok.exf b hb).1,I'.ok.exfs b hb,.inl hb,(I'.ok.exf b hb).2,λp MY z=>by
    have S2:p∈nN:=by simpa using(show p∈([]:List (Addr×Obj))++nN from MY)
    exact hp p S2 (z▸hb)⟩
 have loop:∀s3:Shared,s3={s with heap:=h1,toks:=s.toks+([]:List (Str×Value)).length}->∀md:Env,md.locals=C->
   codeAny (model X.prog X.w) X.A (.compLoop (.ListComp elt [⟨.Name x px,iter,ifs,0⟩] sc pos) 0 (.ref it) (.ref s.heap.objs.size) (compEnvC sc (vZ sc X.env) C X.env)) (M (.ref s.heap.objs.size) md) s3:=by
  rintro s3 rfl md MZ
  refine codeAny_compLoop_tests (λm s'=>∃i acc H' its n,Inv (X.pj sc x ys fp C s H) [(s.heap.objs.size,lobj its n)] (none::σ) H' s'/\Vals acc its/\acc.length<=sizeLine/\tn i s'.heap/\(∀b∈fp,H' b=none)/\W i m acc H') ?_ m0
   ⟨0,[],H,[],0,I0,.nil,Nat.zero_le _,T.keep 0 _ _ st λb hb o e=>old b o e,λb hb=>(hf b hb).1,w0⟩
  rintro m s' ⟨i,acc,H',its,n,I1,rv,hz,T8,T9,w1⟩
  have S3:∀p∈[(s.heap.objs.size,lobj its n)],p.1∉fp:=λp hp=>by
   obtain rfl:p=(s.heap.objs.size,lobj its n):=by simpa using hp
   exact S0
  rcases turn i m acc H' w1 with⟨stop,fin⟩|⟨go,Wt,step⟩
  ·refine wpAny_mono (T.done (X.pj sc x ys fp C s H) rfl rfl rfl hc i _ s' _ H' (λ_ _=>False) I1 (S1 I1 T9 S3) T8 stop) (λr s4 ⟨hr,I4⟩=>?_) (λ_ _ z=>z.elim)
   subst hr
   exact hM _ C md s4 acc H' its n MZ IP (Nat.le_refl _) MW I4 rv hz fin
  ·refine wpAny_mono (T.item (X.pj sc x ys fp C s H) rfl rfl rfl hc i _ s' _ H' (λ_ _=>False) I1 (S1 I1 T9 S3) T8 go) (λr s4 cL=>?_) (λ_ _ z=>z.elim)
   obtain⟨u,hr,h4⟩:=cL
   subst hr
   dsimp only
   have e0:∀env:Env,(letOwnedTupleGo (.Name x px) (.ref it) u>>=λ_=>assign (.Name x px) env u)=assign (.Name x px) env u:=λenv=>by
    rw[show letOwnedTupleGo (.Name x px) (.ref it) u=pure ()from rfl,pure_bind]
   rw[<-e0]
   refine wpAny_bind (wpAny_mono h4 (λ_ s5 cL=>?_) (λ_ _ z=>z.elim))
   obtain⟨y,H5,I5,r5,y5,js,Sj⟩:=cL
   have Sk:=I5.pinned (S1 I5 Sj S3) (T.obj _ _ js)
   have xl:(X.pj sc x ys fp C s H).env.scope.names.lookup x=some .local:=lookup_relabel_local cs.xloc
   refine wpAny_assign_Name (rJ Sk cs.nd (i:=0) rfl (.inl xl) r5 (λs6 I6=>?_) (.inr xl))
   refine wpAny_mono (ht fp C s H _ s6 (some y::σ) H5 _ I6 (step y H5 y5)) (λb s7 cL=>?_) (λ_ _ z=>z.elim)
   obtain⟨H7,I7,q7⟩:=cL
   have Le:∀{H':Hp} {s':Shared} {σ':St} {pl:List (Addr×Obj)},Inv (X.pj sc x ys fp C s H) (pl++jq fp s5.heap) σ' H' s'->tn (i+1) s'.heap/\∀b∈fp,H' b=none:=λ{H' s' σ' pl} I'=>by
    refine⟨T.keep _ _ _ js λb hb o e=>(I'.pin (b,o) (List.mem_append_right _ (List.mem_append_right _ (jr hb e)))).1,λb hb=>?_⟩
    obtain⟨o,e,d⟩:=T.obj _ _ js b hb
    exact(I'.pin (b,o) (List.mem_append_right _ (List.mem_append_right _ (jr hb e)))).2.1
   have wk:∀{H':Hp} {s':Shared} {pl:List (Addr×Obj)},Inv (X.pj sc x ys fp C s H) pl (some y::σ) H' s'->Inv (X.pj sc x ys fp C s H) pl (none::σ) H' s':=λ{H' s' pl} I'=>I'.weak (by simp) λj v e=>by
    cases j with
    |zero=>cases e
    |succ j=>exact e
   cases b with
   |false=>
    rw[if_neg Bool.false_ne_true]at q7
    obtain⟨m',hm,w7⟩:=q7
    obtain⟨t7,f7⟩:=Le I7
    exact⟨m',hm,i+1,acc,H7,its,n,wk I7.nQ,rv,hz,t7,f7,w7⟩
   |true=>
    rw[if_pos rfl]at q7
    refine wpAny_mono (he fp C s H _ s7 (some y::σ) H7 _ I7 q7) (λu8 s8 ⟨z,H8,I8,r8,m',hm,w8⟩=>?_) (λ_ _ z=>z.elim)
    obtain⟨t8,f8⟩:=Le I8
    obtain⟨p1,p2,p3,p4,p5⟩:=I8.pin (s.heap.objs.size,lobj its n) (List.mem_append_right _ (List.mem_append_left _ (List.mem_singleton.mpr rfl)))
    have hl:=rv.length
    refine wpAny_list_append_plain (items:=its.toArray) ⟨n,p1⟩ (λh9 Vb sb9=>?_) (by rw[List.size_toArray];omega)
    obtain⟨n9,e9⟩:=Vb
    have Vc:h9.get? s.heap.objs.size=some (lobj (its++[u8]) n9):=by
     rw[e9]
     unfold lobj
     simp
    have Ia:Inv (X.pj sc x ys fp C s H) (jq fp s5.heap) (none::σ) H8 s8:=(wk I8).eI λp hp=>I8.pin p (List.mem_append_right _ (List.mem_append_right _ hp))
    have Ib:Inv (X.pj sc x ys fp C s H) (jq fp s5.heap) (none::σ) H8 {s8 with heap:=h9,toks:=s8.toks}:=Ia.turned (it:=s.heap.objs.size) (λb o hb e=>(sb9.2 b hb).trans e) p2 p3 (.inr (Nat.le_refl _))
     (λy c e z=>by
       obtain⟨v,o,ho,_⟩:=I.cell y c (cs.cl I e).1
       exact absurd (Heap.lt_size ho) (by rw[z];exact Nat.lt_irrefl _))
     (λp hp z=>by
       have MY:p∈jq fp s5.heap:=by simpa using(show p∈([]:List (Addr×Obj))++jq fp s5.heap from hp)
       exact S0 (z▸(uV MY).1))
    refine⟨m',hm,i+1,acc++[z],H8,its++[u8],n9,Ib.eI λp hp=>?_,rv.append (.cons r8 .nil),?_,T.keep _ _ _ t8 λb hb o e=>?_,f8,w8⟩
    ·obtain rfl:p=(s.heap.objs.size,lobj (its++[u8]) n9):=by simpa using hp
     exact⟨Vc,p2,p3,p4,λv z=>by cases z⟩
    ·rw[List.length_append,List.length_singleton]
     omega
    ·exact(sb9.2 b (λz=>S0 (z▸hb))).trans e
 exact codeAny_compStart_list (loop _ rfl _ rfl) (T.self _ 0 _ _ _ (T.keep 0 _ _ st λb hb o e=>old b o e) (loop _ rfl _ rfl))
end
section
variable{X:Cx}{sc:Scope}{x:Str}{ys:List Str}{px:Pos}{elt iter:Expr}{ifs:List Expr}{pos:Pos}{wi:TI}{tt:TT}{te:TE}
theorem comp_back{pins:List (Addr×Obj)}{σ σ':St}{H H':Hp}{s s':Shared}(cs:gJ X.env.scope X.N sc x ys)(I:Inv X pins σ H s){fp:List Addr}(hf:∀b∈fp,o6 X pins H b){D C:Addr}{its:List Value}{n:Nat}{acc:List V}
  (I':Inv (X.pj sc x ys fp C s H) [(D,lobj its n)] σ' H' s')(IP:D≠C)(hD:s.heap.objs.size<=D)(hC:s.heap.objs.size<=C)(rv:Vals acc its)(hz:acc.length<=sizeLine){h':Heap}(sb:Heap.SameBut C s'.heap h'):
  Inv X pins σ (upd H' D (.lst acc)) {s' with heap:=h'}:=by
 obtain⟨p1,p2,p3,p4,p5⟩:=I'.pin (D,lobj its n) (List.mem_append_right _ (List.mem_singleton.mpr rfl))
 have below:∀b o,s.heap.get? b=some o->b≠D/\b≠C:=λb o e=>⟨Nat.ne_of_lt (Nat.lt_of_lt_of_le (Heap.lt_size e) hD),Nat.ne_of_lt (Nat.lt_of_lt_of_le (Heap.lt_size e) hC)⟩
 have U:Un (Ec X.stack) fp H H' s.heap s'.heap:=I'.base
 have nO:H' C=none:=I'.free
 refine I.ON (ch:=fp) I'.os ⟨λb o e n hb hx=>?_,λb o e n hb hx=>?_,λb o e n hx=>?_,λb o e hx=>?_,λb xs e=>?_,λb o u e=>?_,λb ps e=>?_⟩ (λb o e=>?_) I'.bare λb hb=>⟨(hf b hb).2.2.2.1,(hf b hb).2.1,(hf b hb).2.2.2.2.1,(hf b hb).2.2.2.2.2⟩
 ·exact(sb.2 b (below b o e).2).trans (U.keep b o e n hb hx)
 ·obtain⟨sl,q⟩:=U.slot b o e n hb hx
  exact⟨sl,(sb.2 b (below b o e).2).trans q⟩
 ·rw[aZ (below b o e).1]
  exact U.free b o e n hx
 ·obtain⟨o',q⟩:=U.there b o e hx
  exact⟨o',(sb.2 b (below b o e).2).trans q⟩
 ·rw[aZ (bP (U.uc b xs e) p2)]
  exact U.uc b xs e
 ·rw[aZ (bP (U.rH b o u e) p2)]
  exact U.rH b o u e
 ·obtain⟨more,q⟩:=U.vH b ps e
  exact⟨more,by rw[aZ (bP q p2)];exact q⟩
 ·by_cases hb:b=D
  ·subst hb
   rw[bE]at e
   cases e
   exact⟨hz,its,n,rv,(sb.2 b IP).trans p1⟩
  ·rw[aZ hb]at e
   refine(I'.dh b o e).vG (λc v hc q=>(sb.2 c ?_).trans q) (λc q=>?_) λc xs q=>?_
   ·rintro rfl
    rcases hc with hc|hc
    ·rw[hc,e]at nO
     cases nO
    ·rw[hc]at nO
     cases nO
   ·rw[aZ (bP q p2)]
    exact q
   ·rw[aZ (bP q p2)]
    exact q
theorem SameBut.S4(a:Addr)(h:Heap):Heap.SameBut a h h:=⟨rfl,λ_ _=>rfl⟩
theorem C6(hi:PI X (.Name x px) iter wi)(ys:List Str)(ht:∀ex C s H,Ge (X.pj sc x ys ex C s H) ifs tt)(he:∀ex C s H,PE (X.pj sc x ys ex C s H) elt te)(Gh:kl X.env.scope X.N sc x ys=true)(hc:X.calm=true:=by rfl)
  (hs:∀x,foldedSetIterable iter X.env x=pure x:=by intro _;rfl):PE X (.ListComp elt [⟨.Name x px,iter,ifs,0⟩] sc pos) (Gf wi tt te):=by
 have cs:=gJ.of Gh
 intro pins s σ H Q I h
 rw[eval_ListComp]
 refine wpAny_comprehension_free (use:=none) (cl:=vZ sc X.env) rfl hs (C4 λp hp hk=>cs.cell I (by rw[<-hk];exact hp)) cs.kind cs.locs ?_
 refine dF (hi pins s σ H _ I h) λv s1 h1=>dF h1 λRl s2 h2=>?_
 obtain⟨it,fp,tn,J,H2,rfl,I2,T,bJ,f2,W,⟨m0,w0⟩,turn⟩:=h2
 refine yD (M:=λacc md=>compPost (model X.prog X.w) X.A X.xe none (EP X pins σ Q) acc md.locals) hc cs I2 ht he T bJ f2 w0 (F:=λacc H=>∀p,H p=none->Q (.ref p) (upd H p (.lst acc))) turn λD C md s' acc H' its n MZ IP hD hC I' rv hz q=>?_
 obtain⟨m,hn,_⟩:=I'.loc
 refine⟨m,by rw[MZ];exact hn,λh' sb=>?_⟩
 rw[MZ]at sb
 exact⟨.ref D,_,comp_back cs I2 f2 I' IP hD hC rv hz sb,rfl,q D (I'.pin (D,lobj its n) (List.mem_append_right _ (List.mem_singleton.mpr rfl))).2.1⟩
theorem C7{i:Nat}{y:Str}{py yE:Pos}(hN:X.N.Nodup)(PH:X.N[i]?=some y)(hy:X.env.scope.names.lookup y=some .local)(hi:PI X (.Name x px) iter wi)(ys:List Str)(ht:∀ex C s H,Ge (X.pj sc x ys ex C s H) ifs tt)(he:∀ex C s H,PE (X.pj sc x ys ex C s H) elt te)
  (Gh:kl X.env.scope X.N sc x ys=true)(hc:X.calm=true:=by rfl)(hs:∀x,foldedSetIterable iter X.env x=pure x:=by intro _;rfl)
  (PJ:swapsWith (.ListComp elt [⟨.Name x px,iter,ifs,0⟩] sc pos) (some (.Name y py)) yE.line X.env=pure true:=by rfl):
  PS X (.Assign [.Name y py] (.ListComp elt [⟨.Name x px,iter,ifs,0⟩] sc pos) yE) (λD σ H=>Gf wi tt te σ H λv H1=>D.nx (σ.set i (some v)) H1):=by
 have cs:=gJ.of Gh
 intro pins s σ H D I h
 rw[exec_Assign_Name_used _ _ _ _ PJ]
 refine wpAny_bind (wpAny_standAt (wpAny_bind ?_))
 show wpAny _ X.A (do let _<-comprehension (.ListComp elt [⟨.Name x px,iter,ifs,0⟩] sc pos) sc X.env _ (newList []) false (eval iter X.env) (some (assign (.Name y py) X.env))) _ _ s
 refine wpAny_bind (wpAny_mono (wpAny_comprehension_free (use:=some (assign (.Name y py) X.env)) (cl:=vZ sc X.env) (Q:=λ_ s'=>SP X pins D .next s') rfl hs (C4 λp hp hk=>cs.cell I (by rw[<-hk];exact hp)) cs.kind cs.locs ?_) (λ_ s' hq=>wpAny_pure (wpAny_pure hq)) λ_ _ e=>e)
 refine dF (hi pins s σ H _ I h) λv s1 h1=>dF h1 λRl s2 h2=>?_
 obtain⟨it,fp,tn,J,H2,rfl,I2,T,bJ,f2,W,⟨m0,w0⟩,turn⟩:=h2
 refine yD (M:=λacc md=>compPost (model X.prog X.w) X.A X.xe (some (assign (.Name y py) X.env)) (λ_ s'=>SP X pins D .next s') acc md.locals) hc cs I2 ht he T bJ f2 w0
  (F:=λacc H=>∀p,H p=none->D.nx (σ.set i (some (.ref p))) (upd H p (.lst acc))) turn λDa C md s' acc H' its n MZ IP hD hC I' rv hz q=>?_
 obtain⟨m,hn,_⟩:=I'.loc
 have Io:=comp_back cs I2 f2 I' IP hD hC rv hz (SameBut.S4 C s'.heap)
 have Ua:C≠X.env.locals:=λe=>absurd (Nat.lt_of_lt_of_le I2.lt hC) (by rw[e];exact Nat.lt_irrefl _)
 have Ub:∀z c,X.env.cells.lookup z=some c->c≠C:=λz c e e'=>by
  obtain⟨v,o,ho,_⟩:=I2.cell z c e
  exact absurd (Nat.lt_of_lt_of_le (Heap.lt_size ho) hC) (by rw[e'];exact Nat.lt_irrefl _)
 refine wpAny_assign_Name (uS (v:=.ref Da) Io hN PH (.inl hy) rfl (λPg Vd cL=>?_) (.inr hy))
 obtain⟨a,sb,ha⟩:=cL
 have Ve:C≠a:=by
  rcases ha with e|e
  ·rw[e]
   exact Ua
  ·exact(Ub y a e).symm
 refine⟨m,by rw[MZ];exact hn.sameBut sb Ve,λh' Uc=>?_⟩
 rw[MZ]at Uc
 have nO:(upd H' Da (.lst acc)) C=none:=by
  rw[aZ IP.symm]
  exact I'.free
 refine⟨_,_,Vd.turned (t':=Pg.toks) (it:=C) (λb o hb e=>(Uc.2 b hb).trans e) nO Ua (.inr (Nat.le_trans I2.sz hC)) Ub (λp hp e=>?_),q Da (I'.pin (Da,lobj its n) (List.mem_append_right _ (List.mem_singleton.mpr rfl))).2.1⟩
 exact absurd (Nat.lt_of_lt_of_le (Heap.lt_size (I2.pin p hp).1) hC) (by rw[e];exact Nat.lt_irrefl _)
end
end L2
namespace L2
open PySem PySem.Spec PyProof.Rows PySem.SeqAt
section
variable{X:Cx}{pins:List (Addr×Obj)}{σ:St}{H:Hp}{s:Shared}{a b:Addr}{xs ys:List V}{A:Around}
theorem rY(I:Inv X pins σ H s)(ha:gD X.K H a xs)(hb:gD X.K H b ys)(hu:A.units<cLine)(q:Nat->Bool)
  (hq:∀(j:Nat) x y u v,xs[j]?=some x->ys[j]?=some y->RelV x u->RelV y v->EqAt A.in1 s u v (q j)):RcAt A s (.ref a) (.ref b) (decide (xs.length=ys.length)&&(List.range xs.length).all q):=by
 obtain⟨its,r1,p1,z1⟩:=I.list ha
 obtain⟨me,r2,p2,z2⟩:=I.list hb
 have l1:=r1.length
 have l2:=r2.length
 by_cases hl:xs.length=ys.length
 ·rw[decide_eq_true hl,Bool.true_and]
  have:=RcAt.lists (A:=A) (s:=s) (e:=q) p1.isList p2.isList (by rw[List.size_toArray,List.size_toArray];omega) hu λj h1 h2=>?_
  ·rw[List.size_toArray,<-l1]at this
   exact this
  ·rw[List.size_toArray]at h1 h2
   obtain⟨x,hx⟩:∃x,xs[j]?=some x:=⟨xs[j],List.getElem?_eq_getElem (by omega)⟩
   obtain⟨y,hy⟩:∃y,ys[j]?=some y:=⟨ys[j],List.getElem?_eq_getElem (by omega)⟩
   obtain⟨u,e1,ru⟩:=r1.get hx
   obtain⟨v,e2,rv⟩:=r2.get hy
   have f1:its.toArray[j]=u:=by
    have:=(List.getElem?_eq_some_iff.mp e1).2
    simpa using this
   have f2:me.toArray[j]=v:=by
    have:=(List.getElem?_eq_some_iff.mp e2).2
    simpa using this
   rw[f1,f2]
   exact hq j x y u v hx hy ru rv
 ·rw[decide_eq_false hl,Bool.false_and]
  exact RcAt.lists_lengths p1.isList p2.isList (by rw[List.size_toArray,List.size_toArray];simp;omega) hu
theorem Bm(I:Inv X pins σ H s)(ha:gD X.K H a xs)(hb:gD X.K H b ys)(hu:A.units<cLine)(q:Nat->Bool)
  (hq:∀(j:Nat) x y u v,xs[j]?=some x->ys[j]?=some y->RelV x u->RelV y v->EqAt A.in1 s u v (q j)):RcNeAt A s (.ref a) (.ref b) (!(decide (xs.length=ys.length)&&(List.range xs.length).all q)):=by
 obtain⟨its,r1,p1,z1⟩:=I.list ha
 obtain⟨me,r2,p2,z2⟩:=I.list hb
 have l1:=r1.length
 have l2:=r2.length
 by_cases hl:xs.length=ys.length
 ·rw[decide_eq_true hl,Bool.true_and]
  have:=RcNeAt.lists (A:=A) (s:=s) (e:=q) p1.isList p2.isList (by rw[List.size_toArray,List.size_toArray];omega) hu λj h1 h2=>?_
  ·rw[List.size_toArray,<-l1]at this
   exact this
  ·rw[List.size_toArray]at h1 h2
   obtain⟨x,hx⟩:∃x,xs[j]?=some x:=⟨xs[j],List.getElem?_eq_getElem (by omega)⟩
   obtain⟨y,hy⟩:∃y,ys[j]?=some y:=⟨ys[j],List.getElem?_eq_getElem (by omega)⟩
   obtain⟨u,e1,ru⟩:=r1.get hx
   obtain⟨v,e2,rv⟩:=r2.get hy
   have f1:its.toArray[j]=u:=by
    have:=(List.getElem?_eq_some_iff.mp e1).2
    simpa using this
   have f2:me.toArray[j]=v:=by
    have:=(List.getElem?_eq_some_iff.mp e2).2
    simpa using this
   rw[f1,f2]
   exact hq j x y u v hx hy ru rv
 ·rw[decide_eq_false hl,Bool.false_and]
  exact RcNeAt.lists_lengths p1.isList p2.isList (by rw[List.size_toArray,List.size_toArray];simp;omega) hu
theorem Gi{α:Type}[DecidableEq α]{ns ms:List α}:(decide (ns.length=ms.length)&&(List.range ns.length).all λj=>decide (ns[j]?=ms[j]?))=decide (ns=ms):=by
 by_cases e:ns=ms
 ·subst e
  simp
 ·rw[decide_eq_false e]
  by_cases hl:ns.length=ms.length
  ·rw[decide_eq_true hl,Bool.true_and]
   rw[<-Bool.not_eq_true,List.all_eq_true]
   intro h
   apply e
   apply List.ext_getElem?
   intro i
   by_cases hi:i<ns.length
   ·exact of_decide_eq_true (h i (List.mem_range.mpr hi))
   ·rw[List.getElem?_eq_none (by omega),List.getElem?_eq_none (by omega)]
  ·rw[decide_eq_false hl]
   rfl
theorem Er{α:Type}[DecidableEq α]{ns ms:List α}{f:α->V}:(decide ((ns.map f).length=(ms.map f).length)&&(List.range (ns.map f).length).all λj=>decide (ns[j]?=ms[j]?))=decide (ns=ms):=by
 rw[List.length_map,List.length_map]
 exact Gi
theorem yF{ns:List Int}{j:Nat}{x:V}(h:(ns.map V.int)[j]?=some x):∃n,ns[j]?=some n/\x=.int n:=by
 rw[List.getElem?_map]at h
 cases e:ns[j]? with
 |none=>
  rw[e]at h
  cases h
 |some n=>
  rw[e]at h
  exact⟨n,rfl,(Option.some.inj h).symm⟩
theorem Es{ns ms:List Int}(A:Around):∀(j:Nat) x y u v,(ns.map V.int)[j]?=some x->(ms.map V.int)[j]?=some y->RelV x u->RelV y v->EqAt A s u v (decide (ns[j]?=ms[j]?)):=by
 intro j x y u v hx hy ru rv
 obtain⟨n,e1,rfl⟩:=yF hx
 obtain⟨m,e2,rfl⟩:=yF hy
 obtain⟨t,rfl⟩:=ru
 obtain⟨t',rfl⟩:=rv
 have:decide (ns[j]?=ms[j]?)=(n==m):=by
  rw[e1,e2]
  by_cases h:n=m
  ·subst h
   simp
  ·rw[decide_eq_false (by simpa using h)]
   exact(beq_eq_false_iff_ne.mpr h).symm
 rw[this]
 exact EqAt.int_int n t m t'
theorem Et{ns ms:List Int}(I:Inv X pins σ H s)(ha:gD X.K H a (ns.map V.int))(hb:gD X.K H b (ms.map V.int))(hu:A.units<cLine):RcAt A s (.ref a) (.ref b) (decide (ns=ms)):=by
 have:=rY I ha hb hu (λj=>decide (ns[j]?=ms[j]?)) (Es A.in1)
 rw[Er]at this
 exact this
theorem C8:∀{ns ms:List Int},ns.map V.int=ms.map V.int->ns=ms
 |[],[],_=>rfl
 |[],_::_,h=>by cases h
 |_::_,[],h=>by cases h
 |n::ns,m::ms,h=>by
  rw[List.map_cons,List.map_cons]at h
  injection h with h1 h2
  injection h1 with h1
  rw[h1,C8 h2]
theorem Eu{ns ms:List Int}(I:Inv X pins σ H s)(ha:gD X.K H a (ns.map V.int))(hb:gD X.K H b (ms.map V.int))(hu:A.units<cLine):EqAt A s (.ref a) (.ref b) (decide (ns=ms)):=by
 by_cases e:a=b
 ·subst e
  rw[decide_eq_true (C8 (I.kg ha hb))]
  exact EqAt.same _
 ·exact EqAt.of_refs e (Et I ha hb hu)
theorem Jy{bs:List Bool}{j:Nat}{x:V}(h:(bs.map V.bl)[j]?=some x):∃n,bs[j]?=some n/\x=.bl n:=by
 rw[List.getElem?_map]at h
 cases e:bs[j]? with
 |none=>
  rw[e]at h
  cases h
 |some n=>
  rw[e]at h
  exact⟨n,rfl,(Option.some.inj h).symm⟩
theorem range_any(bs:List Bool):(List.range bs.length).any (λi=>bs.getD i false)=bs.any id:=by
 rw[Bool.eq_iff_iff,List.any_eq_true,List.any_eq_true]
 constructor
 ·rintro⟨i,h1,h2⟩
  have hi:=List.mem_range.mp h1
  refine⟨bs[i],List.getElem_mem hi,?_⟩
  rw[List.getD_eq_getElem?_getD,List.getElem?_eq_getElem hi]at h2
  exact h2
 ·rintro⟨b,h1,h2⟩
  obtain⟨i,hi,e⟩:=List.mem_iff_getElem.mp h1
  refine⟨i,List.mem_range.mpr hi,?_⟩
  rw[List.getD_eq_getElem?_getD,List.getElem?_eq_getElem hi,e]
  exact h2
theorem range_all(bs:List Bool):(List.range bs.length).all (λi=>bs.getD i false)=bs.all id:=by
 rw[Bool.eq_iff_iff,List.all_eq_true,List.all_eq_true]
 constructor
 ·intro h b h1
  obtain⟨i,hi,e⟩:=List.mem_iff_getElem.mp h1
  have:=h i (List.mem_range.mpr hi)
  rw[List.getD_eq_getElem?_getD,List.getElem?_eq_getElem hi,e]at this
  exact this
 ·intro h i h1
  have hi:=List.mem_range.mp h1
  rw[List.getD_eq_getElem?_getD,List.getElem?_eq_getElem hi]
  exact h bs[i] (List.getElem_mem hi)
theorem Gj{bs:List Bool}{its:List Value}(r:Vals (bs.map V.bl) its){prog:Program}{w:World}{A:Around}:TruthOf prog w A (λi v=>its.toArray[i]?=some v) (λi=>bs.getD i false):=by
 intro i v s Q E hv h
 have Rm:its[i]?=some v:=by simpa using hv
 have hl:=r.length
 have hi:=(List.getElem?_eq_some_iff.mp Rm).1
 rw[List.length_map]at hl
 obtain⟨x,hx⟩:∃x,(bs.map V.bl)[i]?=some x:=⟨(bs.map V.bl)[i]'(by rw[List.length_map];omega),List.getElem?_eq_getElem _⟩
 obtain⟨u,e,ru⟩:=r.get hx
 rw[Rm]at e
 cases e
 obtain⟨n,e2,rfl⟩:=Jy hx
 cases ru
 have h':Q (bs.getD i false) s:=h
 rw[List.getD_eq_getElem?_getD,e2]at h'
 exact wpAny_truthy_bool h'
theorem yG(hc:X.calm=true):gE X (.builtin "any") (λxs H Q=>∃(p:Addr) (bs:List Bool),xs=[.ref p]/\gD X.K H p (bs.map V.bl)/\Q (.bl (bs.any id)) H):=by
 intro pins s σ H xs us Q I r h
 obtain⟨p,bs,rfl,hq,q⟩:=h
 obtain⟨u,rfl,ru⟩:=vals1 r
 cases ru
 obtain⟨its,rv,pl,hz⟩:=I.list hq
 have Gk:p≠s.heap.objs.size:=by
  obtain⟨o,ho,_⟩:=pl.isList
  exact Nat.ne_of_lt (Heap.lt_size ho)
 have hh:X.A.in1.handled=none:=I.ok.hd hc
 refine call_any_walk (wpAny_pyIter_list pl.isList ⟨s.heap.objs.size,_,_,_,_,_,(λi=>bs.getD i false),rfl,Walks.list hh s.heap.objs.size p Gk its.toArray,?_,Gj rv,λh' tk k=>?_⟩)
 ·exact⟨⟨_,Heap.get?_push_size _ rfl,rfl,rfl⟩,pl.isList.at λo e=>Heap.get?_push_of_some _ e⟩
 ·have hl:=rv.length
  rw[List.length_map]at hl
  rw[List.size_toArray,<-hl,range_any]
  refine⟨.bl _,H,I.kept (t':=tk) λb o e=>k b o (λz=>?_) (Heap.get?_push_of_some _ e),rfl,q⟩
  obtain rfl:b=s.heap.objs.size:=by simpa using z
  exact Nat.lt_irrefl _ (Heap.lt_size e)
theorem Jz:Oo X "int.bit_length" (λx vs H Q=>∃i,x=.int i/\vs=[]/\Q (.int (Builtin.Int.intBits i:Nat)) H):=by
 intro pins s σ H x vs v us Q I rx rv h
 obtain⟨i,rfl,rfl,q⟩:=h
 obtain⟨t,rfl⟩:=rx
 cases rv
 exact call_gives F.slot_int_bit_length (typeIs_int s i t) F.entry_int_bit_length (F.args_int_bit_length_1 _) (AutoIntG2.int_bit_length_int_0 i t) ⟨.int _,H,I.tok _,⟨_,rfl⟩,q⟩
end
section
open PySem.AutoSeq1 (wpAny_loadPart')
open PySem.MeetsSeq PySem.MeetsSeq2 PySem.MeetsSeq3
theorem JA(l b:Addr)(items c7:Array Value)(n n2:Nat)(dd Ow:Option Addr)(sl Ox:Array (Option Value))(ns ms:List Int)(hi:IntsAre items.toList ns)(hj:IntsAre c7.toList ms)(k:Nat):
  ∀i:Nat,items.size-i=k->i<=items.size->i<=c7.size->Meets (Builtin.«list.__eq__.loop» ⟨[.ref l,.ref b,rawInt i,rawInt 0],[]⟩)
   (λA R s=>s.heap.get? l=some {cls:=.type "list",dict:=dd,data:=.seq items n,slots:=sl}/\s.heap.get? b=some {cls:=.type "list",dict:=Ow,data:=.seq c7 n2,slots:=Ox}/\
     R (.ok (.ret (.bool (HT.lexLt (ns.drop i) (ms.drop i))))) s):=by
 have z1:items.size=ns.length:=by rw[<-hi.length];simp
 have z2:c7.size=ms.length:=by rw[<-hj.length];simp
 induction k with
 |zero=>
  intro i hk h1 h2 prog w A R s h
  obtain⟨hp,g,d,tk,os⟩:=s;obtain⟨hl,hb,h⟩:=h
  wp_walk using wpAny_loadPart' hl,wpAny_loadPart' hb
  have e1:items[((i:Nat):Int).toNat]?=none:=by simp;omega
  have d1:ns.drop i=[]:=List.drop_eq_nil_of_le (by omega)
  rw[d1]at h
  have hv:HT.lexLt [] (ms.drop i)=decide (items.size<c7.size):=by
   by_cases hm:i<ms.length
   ·rw[List.drop_eq_getElem_cons hm,HT.rN]
    exact(decide_eq_true (by omega)).symm
   ·rw[List.drop_eq_nil_of_le (by omega),HT.uh]
    exact(decide_eq_false (by omega)).symm
  rw[hv]at h
  rw[e1]
  wp_walk using wpAny_loadPart' hl,wpAny_loadPart' hb
  exact h
 |succ k ih=>
  intro i hk h1 h2 prog w A R s h
  obtain⟨hp,g,d,tk,os⟩:=s;obtain⟨hl,hb,h⟩:=h
  wp_walk using wpAny_loadPart' hl,wpAny_loadPart' hb
  have jX:i<items.size:=by omega
  have e1:items[((i:Nat):Int).toNat]?=some items[i]:=by simp[jX]
  have dn:ns.drop i=ns[i]::ns.drop (i+1):=List.drop_eq_getElem_cons (by omega)
  by_cases hm:i<c7.size
  ·have e2:c7[((i:Nat):Int).toNat]?=some c7[i]:=by simp[hm]
   have dm:ms.drop i=ms[i]::ms.drop (i+1):=List.drop_eq_getElem_cons (by omega)
   rw[dn,dm,HT.mK]at h
   rw[e1,e2]
   obtain⟨t,f1⟩:=hi.get i ns[i] (List.getElem?_eq_getElem (by omega))
   obtain⟨u,f2⟩:=hj.get i ms[i] (List.getElem?_eq_getElem (by omega))
   have Ud:items[i]=.int ns[i] t:=by
    have:=(List.getElem?_eq_some_iff.mp f1).2
    simpa using this
   have Ue:c7[i]=.int ms[i] u:=by
    have:=(List.getElem?_eq_some_iff.mp f2).2
    simpa using this
   have hc:((i:Int)+1)=((i+1:Nat):Int):=by push_cast;rfl
   rw[Ud,Ue]
   obtain⟨e,he,PL⟩:=HT.FX A.in1 ⟨hp,g,d,tk,os⟩ ns[i] t ms[i] u
   refine wpAny_bind (he prog w _ _ ?_)
   cases e with
   |true=>
    rw[if_pos (PL.mp rfl)]at h
    wp_walk
    rw[hc]
    exact⟨plainId_quiet plain_eq_loop _,codeAny_builtin entry_eq_loop (by
     rw[Around.under_plainId plain_eq_loop _]
     exact ih (i+1) (by omega) (by omega) (by omega) prog w A R _ ⟨hl,hb,h⟩)⟩
   |false=>
    rw[if_neg (λq=>absurd (PL.mpr q) Bool.false_ne_true)]at h
    wp_walk using wpAny_loadPart' hl,wpAny_loadPart' hb
    rw[e1,e2]
    rw[Ud,Ue]
    have Vf:=HT.FY A.in1 ⟨hp,g,d,tk,os⟩ ns[i] t ms[i] u prog w
    wp_walk using Vf
    exact h
  ·have e2:c7[((i:Nat):Int).toNat]?=none:=by simp;omega
   have dm:ms.drop i=[]:=List.drop_eq_nil_of_le (by omega)
   rw[dn,dm,HT.rO]at h
   have hv:false=decide (items.size<c7.size):=(decide_eq_false (by omega)).symm
   rw[hv]at h
   rw[e1,e2]
   wp_walk using wpAny_loadPart' hl,wpAny_loadPart' hb
   exact h
theorem v5(l b:Addr)(items c7:Array Value)(n n2:Nat)(dd Ow:Option Addr)(sl Ox:Array (Option Value))(ns ms:List Int)(hi:IntsAre items.toList ns)(hj:IntsAre c7.toList ms):
  Meets (Builtin.«list.__lt__» ⟨[.ref l,.ref b],[]⟩)
   (λA R s=>s.heap.get? l=some {cls:=.type "list",dict:=dd,data:=.seq items n,slots:=sl}/\s.heap.get? b=some {cls:=.type "list",dict:=Ow,data:=.seq c7 n2,slots:=Ox}/\
     R (.ok (.ret (.bool (HT.lexLt ns ms)))) s):=by
 intro prog w A R s h
 obtain⟨hp,g,d,tk,os⟩:=s;obtain⟨hl,hb,h⟩:=h
 have f3:=AutoSeq1.sub_list_list
 wp_walk using wpAny_loadPart' hl,wpAny_loadPart' hb
 exact⟨plainId_quiet plain_eq_loop _,codeAny_builtin entry_eq_loop (by
  rw[Around.under_plainId plain_eq_loop _]
  exact JA l b items c7 n n2 dd Ow sl Ox ns ms hi hj _ 0 rfl (Nat.zero_le _) (Nat.zero_le _) prog w A R _ ⟨hl,hb,by simpa using h⟩)⟩
noncomputable def PM(A:Around)(s:Shared)(y x:Value)(r:Bool):Prop:=
 ∀(prog:Program) (w:World) (E:Value->Shared->Prop) (Q:Value->Shared->Prop),Q (.bool r) s->wpAny (model prog w) A (richCompare .Lt y x) Q E s
theorem Bn{A:Around}{s:Shared}{l b:Addr}{items c7:Array Value}{ns ms:List Int}(hl:s.heap.IsList l items)(hb:s.heap.IsList b c7)(hi:IntsAre items.toList ns)(hj:IntsAre c7.toList ms)(hu:A.units<cLine):PM A s (.ref l) (.ref b) (HT.lexLt ns ms):=λprog w E Q h=>by
 obtain⟨⟨cls,dd,data,sl⟩,ho,hc,n,hd⟩:=id hl
 obtain⟨⟨Vg,Ow,data2,Ox⟩,RD,RE,n2,hd2⟩:=id hb
 simp only at hc hd RE hd2
 subst hc hd RE hd2
 exact richCompare_meets_room (op:=.Lt) ⟨_,ho,rfl⟩ ⟨_,RD,rfl⟩ PySem.F.slot_list_lt PySem.F.entry_list_lt (PySem.F.args_list_lt_2 _ _) (v5 l b items c7 n n2 dd Ow sl Ox ns ms hi hj)
  ⟨ho,RD,⟨(λx=>nomatch x),h⟩⟩ hu
end
end L2
namespace Mt
noncomputable def sub(a b:Nat):Bool:=(a&&&b)==a
noncomputable def fI(g:Nat):List Nat:=(List.range 6).filter λh=>g.testBit h
noncomputable def S5(g:Nat):Nat:=(fI g).foldl (λn h=>n+2^(5-h)) 0
noncomputable def rank(g:Nat):Nat:=(fI g).length*64+(63-S5 g)
noncomputable def yH(p:Nat->Nat->Bool):Bool:=(List.range 64).all λa=>(List.range 64).all λb=>p a b
theorem nW{p:Nat->Nat->Bool}(h:yH p=true){a b:Nat}(ha:a<64)(hb:b<64):p a b=true:=by
 have h1:=List.all_eq_true.mp h a (List.mem_range.mpr ha)
 exact List.all_eq_true.mp h1 b (List.mem_range.mpr hb)
theorem yI{a b:Nat}(ha:a<64)(hb:b<64)(e:rank a=rank b):a=b:=by
 have h:yH (λa b=>!(rank a==rank b)||a==b)=true:=by decide+kernel
 have:=nW h ha hb
 rw[e]at this
 simpa using this
theorem Gm{a b:Nat}(ha:a<64)(hb:b<64)(s:sub a b=true):rank a<=rank b:=by
 have h:yH (λa b=>!(sub a b)||decide (rank a<=rank b))=true:=by decide+kernel
 have:=nW h ha hb
 rw[s]at this
 simpa using this
theorem nX(a:Nat):sub a a=true:=by simp[sub]
theorem C9{a b:Nat}:sub a b=true↔a&&&b=a:=by simp[sub]
theorem pq{a b c:Nat}(h1:sub a b=true)(h2:sub b c=true):sub a c=true:=by
 rw[C9]at*
 rw[<-h1,Nat.and_assoc,h2]
noncomputable def lets(l:List Nat)(g:Nat):Bool:=l.any λr=>sub r g
theorem dW{l:List Nat}{g:Nat}:lets l g=true↔∃r∈l,sub r g=true:=List.any_eq_true
structure Oy(l:List Nat):Prop where
 ord:l.Pairwise λa b=>rank a<rank b
 anti:∀a∈l,∀b∈l,sub a b=true->a=b
 small:∀a∈l,a<64
noncomputable def ju(acc:List Nat)(g:Nat):List Nat:=if lets acc g then acc else acc++[g]
noncomputable def rZ(ss:List Nat):List Nat:=ss.foldl ju []
structure Cl(pre acc:List Nat):Prop where
 lad:Oy acc
 mem:∀r∈acc,r∈pre
 cov:∀g∈pre,lets acc g=true
theorem Cl.nil:Cl [] []:=⟨⟨List.Pairwise.nil,by simp,by simp⟩,by simp,by simp⟩
theorem Gn(l m:List Nat)(g:Nat):lets (l++m) g=(lets l g||lets m g):=by simp[lets]
theorem Cl.step{pre acc:List Nat}{g:Nat}(h:Cl pre acc)(hg:g<64)(hs:∀r∈pre,rank r<=rank g):Cl (pre++[g]) (ju acc g):=by
 unfold ju
 by_cases hl:lets acc g=true
 ·rw[if_pos hl]
  refine⟨h.lad,λr hr=>List.mem_append_left _ (h.mem r hr),λx hx=>?_⟩
  rcases List.mem_append.mp hx with hx|hx
  ·exact h.cov x hx
  ·obtain rfl:x=g:=by simpa using hx
   exact hl
 ·rw[if_neg hl]
  have hn:∀r∈acc,¬sub r g=true:=λr hr z=>hl (dW.mpr ⟨r,hr,z⟩)
  have jX:∀r∈acc,rank r<rank g:=λr hr=>by
   have h1:=hs r (h.mem r hr)
   rcases Nat.lt_or_ge (rank r) (rank g)with h2|h2
   ·exact h2
   ·have:=yI (h.lad.small r hr) hg (by omega)
    subst this
    exact absurd (nX r) (hn r hr)
  refine⟨⟨?_,?_,?_⟩,?_,?_⟩
  ·refine List.pairwise_append.mpr ⟨h.lad.ord,List.pairwise_singleton _ _,λa ha b hb=>?_⟩
   obtain rfl:b=g:=by simpa using hb
   exact jX a ha
  ·intro a ha b hb s
   rcases List.mem_append.mp ha with RF|RF
   ·rcases List.mem_append.mp hb with Lf|Lf
    ·exact h.lad.anti a RF b Lf s
    ·have e:b=g:=by simpa using Lf
     rw[e]at s
     exact absurd s (hn a RF)
   ·have e:a=g:=by simpa using RF
    rcases List.mem_append.mp hb with Lf|Lf
    ·rw[e]at s
     have h1:=Gm hg (h.lad.small b Lf) s
     have h2:=jX b Lf
     omega
    ·have e2:b=g:=by simpa using Lf
     rw[e,e2]
  ·intro a ha
   rcases List.mem_append.mp ha with ha|ha
   ·exact h.lad.small a ha
   ·obtain rfl:a=g:=by simpa using ha
    exact hg
  ·intro r hr
   rcases List.mem_append.mp hr with hr|hr
   ·exact List.mem_append_left _ (h.mem r hr)
   ·exact List.mem_append_right _ hr
  ·intro x hx
   rw[Gn]
   rcases List.mem_append.mp hx with hx|hx
   ·rw[h.cov x hx]
    rfl
   ·obtain rfl:x=g:=by simpa using hx
    simp[lets,nX]
theorem Gp{ss:List Nat}(Bo:∀g∈ss,g<64)(hs:ss.Pairwise λa b=>rank a<=rank b):Cl ss (rZ ss):=by
 have go:∀(post pre:List Nat) (acc:List Nat),pre++post=ss->Cl pre acc->Cl ss (post.foldl ju acc):=by
  intro post
  induction post with
  |nil=>
   intro pre acc e h
   rw[List.append_nil]at e
   rw[<-e]
   exact h
  |cons g post ih=>
   intro pre acc e h
   rw[List.foldl_cons]
   refine ih (pre++[g]) _ (by rw[List.append_assoc];exact e) (h.step (Bo g ?_) λr hr=>?_)
   ·rw[<-e]
    simp
   ·rw[<-e]at hs
    exact(List.pairwise_append.mp hs).2.2 r hr g (by simp)
 exact go ss [] [] rfl Cl.nil
theorem Cl.lets{pre acc:List Nat}(h:Cl pre acc)(g:Nat):Mt.lets acc g=Mt.lets pre g:=by
 rw[Bool.eq_iff_iff,dW,dW]
 constructor
 ·rintro⟨r,h1,h2⟩
  exact⟨r,h.mem r h1,h2⟩
 ·rintro⟨r,h1,h2⟩
  obtain⟨q,h3,h4⟩:=dW.mp (h.cov r h1)
  exact⟨q,h3,pq h4 h2⟩
theorem Ew{l:List Nat}{r:Nat}(h:r∈l):lets l r=true:=dW.mpr ⟨r,h,nX r⟩
end Mt
namespace L2.D
open PySem
inductive PV where
 |non|bl(b:Bool)|int(i:Int)|str(x:Str)|lst(l:List PV)|tup(l:List PV)|ins(c:Nat)(l:List PV)
 deriving Inhabited
noncomputable def flat:PV->Bool
 |.non=>true
 |.bl _=>true
 |.int _=>true
 |.str _=>true
 |_=>false
noncomputable def IQ:PV->PV->Bool
 |.non,.non=>true
 |.bl a,.bl b=>a==b
 |.bl a,.int b=>(if a then 1 else 0)==b
 |.int a,.bl b=>a==(if b then 1 else 0)
 |.int a,.int b=>a==b
 |.str a,.str b=>a==b
 |_,_=>false
noncomputable def mM(f:PV->PV->Option Bool):List PV->List PV->Option (List Bool)
 |a::l,b::m=>(f a b).bind λe=>(mM f l m).map (e::·)
 |_,_=>some []
noncomputable def Fy(f:PV->PV->Option Bool)(l m:List PV):Option Bool:=if l.length=m.length then(mM f l m).map λes=>es.all id else some false
noncomputable def i8:Nat->PV->PV->Option Bool
 |n+1,.lst l,.lst m=>Fy (i8 n) l m
 |n+1,.tup l,.tup m=>if l.length=m.length then Fy (i8 n) l m else none
 |_,p,q=>if flat p&&flat q then some (IQ p q)else none
inductive Cn where
 |l(xs:List PV)|d(pY:List (Int×PV))
 deriving Inhabited
inductive Slot where
 |un|sh(p:PV)|own(c:Cn)|bw(l:List PV)
 deriving Inhabited
noncomputable abbrev Slot.ow(l:List PV):Slot:=.own (.l l)
noncomputable abbrev c8:=List Slot
noncomputable abbrev Den:=c8->Option PV
noncomputable def Slot.val:Slot->Option PV
 |.un=>none
 |.sh p=>some p
 |.own (.l l)=>some (.lst l)
 |.own (.d _)=>none
 |.bw l=>some (.lst l)
noncomputable def Slot.Ex:Slot->Option PV
 |.sh p=>some p
 |_=>none
inductive Fl where
 |nx(ρ:c8)|rt(p:PV)|bk(ρ:c8)|ct(ρ:c8)
noncomputable abbrev aU:=c8->Option Fl
noncomputable abbrev de:=c8->Option Bool
noncomputable abbrev cM:=c8->Option (List PV)
noncomputable def dC(p:PV):Den:=λ_=>some p
noncomputable def dV(i:Nat):Den:=λρ=>(ρ[i]?).bind Slot.val
noncomputable def bb(i:Nat):Den:=λρ=>(ρ[i]?).bind Slot.Ex
noncomputable def bO(g:PV->Option PV)(a:Den):Den:=λρ=>(a ρ).bind g
noncomputable def ae(g:PV->PV->Option PV)(a b:Den):Den:=λρ=>(a ρ).bind λx=>(b ρ).bind λy=>g x y
noncomputable def aF:cM:=λ_=>some []
noncomputable def aa(a:Den)(as:cM):cM:=λρ=>(a ρ).bind λx=>(as ρ).bind λxs=>some (x::xs)
noncomputable def aI(F:List PV->Option PV)(as:cM):Den:=λρ=>(as ρ).bind F
noncomputable def mN(F:List PV->Option PV)(as:cM):Den:=λρ=>(as ρ).bind λxs=>(F xs).bind λp=>if flat p then some p else none
noncomputable def pA(as:cM):Den:=λρ=>(as ρ).bind λxs=>if xs.length<=sizeLine then some (.lst xs)else none
noncomputable def gf(as:cM):Den:=λρ=>(as ρ).bind λxs=>if xs.length<=sizeLine then some (.tup xs)else none
noncomputable def Ey:PV->Option Bool
 |.bl b=>some b
 |_=>none
noncomputable def tV(a:Den):de:=λρ=>(a ρ).bind Ey
noncomputable def yg(a b:de):de:=λρ=>(a ρ).bind λc=>if c then b ρ else some false
noncomputable def FD(a b:de):de:=λρ=>(a ρ).bind λc=>if c then some true else b ρ
noncomputable def o5(a:de):de:=λρ=>(a ρ).map (!·)
noncomputable def b9:PV->PV->Option PV
 |.int i,.int j=>some (.int (i+j))
 |.str x,.str y=>if x.length+y.length<=sizeLine then some (.str (x++y))else none
 |.lst l,.lst m=>if l.length+m.length<=sizeLine then some (.lst (l++m))else none
 |_,_=>none
noncomputable def yJ:PV->PV->Option PV
 |.int i,.int j=>some (.int (i-j))
 |_,_=>none
noncomputable def yK(i j:Int):Bool:=(decide (-(2^64)<i)&&decide (i<2^64))||(decide (-(2^64)<j)&&decide (j<2^64))
noncomputable def pB:PV->PV->Option PV
 |.int i,.int j=>if yK i j then some (.int (i*j))else none
 |_,_=>none
noncomputable def gK:PV->PV->Option PV
 |.int i,.int j=>if decide (0<j)&&decide (j<1073741824)then some (.int (i/j))else none
 |_,_=>none
noncomputable def cw:PV->PV->Option PV
 |.int i,.int j=>if decide (0<j)then some (.int (i % j))else none
 |_,_=>none
noncomputable def r0(i j:Int):Bool:=decide (0<=j)&&decide (j<=1000000)&&decide (i.natAbs<2^64)
noncomputable def v7:PV->PV->Option PV
 |.int i,.int j=>if r0 i j then some (.int (i*2^j.toNat))else none
 |_,_=>none
noncomputable def r9:PV->PV->Option PV
 |.int i,.int j=>if decide (0<=j)then some (.int (i/2^j.toNat))else none
 |_,_=>none
noncomputable def j9:PV->PV->Option PV
 |.int i,.int j=>some (.int (Builtin.bitAnd i j))
 |_,_=>none
noncomputable def Ug:PV->PV->Option PV
 |.int i,.int j=>some (.int (Builtin.bitOr i j))
 |_,_=>none
noncomputable def mO:PV->Option PV
 |.int i=>some (.int (-i))
 |_=>none
noncomputable def eqT:PV->PV->Option Bool
 |.non,.non=>some true
 |.non,.int _=>some false
 |.non,.bl _=>some false
 |.non,.str _=>some false
 |.int _,.non=>some false
 |.bl _,.non=>some false
 |.str _,.non=>some false
 |.int a,.int b=>some (decide (a=b))
 |.bl a,.bl b=>some (decide (a=b))
 |.str a,.str b=>some (decide (a=b))
 |.int _,.str _=>some false
 |.str _,.int _=>some false
 |.bl _,.str _=>some false
 |.str _,.bl _=>some false
 |.lst l,.lst m=>i8 20 (.lst l) (.lst m)
 |.tup l,.tup m=>i8 20 (.tup l) (.tup m)
 |_,_=>none
noncomputable def kc(a b:PV):Option PV:=(eqT a b).map PV.bl
noncomputable def Oz(a b:PV):Option PV:=(eqT a b).map λe=>PV.bl !e
noncomputable def AW:PV->PV->Option PV
 |.int i,.int j=>some (.bl (decide (i<j)))
 |_,_=>none
noncomputable def IS:PV->PV->Option PV
 |.int i,.int j=>some (.bl (decide (j<i)))
 |_,_=>none
noncomputable def OA:PV->PV->Option PV
 |.int i,.int j=>some (.bl (decide (j<=i)))
 |_,_=>none
noncomputable def Fz(x:PV)(l:List PV):Bool:=l.any λy=>IQ y x
noncomputable def PN:PV->PV->Option PV
 |x,.lst l=>if flat x&&l.all flat then some (.bl (Fz x l))else none
 |x,.tup l=>if flat x&&l.all flat then some (.bl (Fz x l))else none
 |_,_=>none
noncomputable def v8:PV->PV->Option PV
 |x,.lst l=>if flat x&&l.all flat then some (.bl (!Fz x l))else none
 |x,.tup l=>if flat x&&l.all flat then some (.bl (!Fz x l))else none
 |_,_=>none
noncomputable def OB(n:Nat)(i:Int):Option Nat:=if 0<=i then(if i<n then some i.toNat else none)else if-(n:Int)<=i then some (i+n).toNat else none
noncomputable def itemAt{α:Type}(l:List α)(i:Int):Option α:=(OB l.length i).bind λj=>l[j]?
noncomputable def gg:PV->PV->Option PV
 |.lst l,.int i=>itemAt l i
 |.tup l,.int i=>itemAt l i
 |.str x,.int i=>if x.length<=sizeLine then(itemAt x.cps.toList i).map λc=>.str ⟨#[c]⟩else none
 |_,_=>none
noncomputable def b7:PV->Option PV
 |.lst l=>some (.int l.length)
 |.tup l=>some (.int l.length)
 |.str x=>if x.length<=sizeLine then some (.int x.length)else none
 |_=>none
noncomputable def Lg:PV->Option PV
 |.lst l=>some (.lst l)
 |.tup l=>some (.lst l)
 |_=>none
noncomputable def bools:List PV->Option (List Bool)
 |[]=>some []
 |.bl b::l=>(bools l).map (b::·)
 |_::_=>none
noncomputable def Gq:PV->Option PV
 |.lst l=>(bools l).map λbs=>.bl (bs.any id)
 |_=>none
noncomputable def Gr:PV->Option PV
 |.int i=>some (.int (Builtin.Int.intBits i:Nat))
 |_=>none
noncomputable def Dc:PV->Nat
 |.int _=>0
 |.bl _=>1
 |.str _=>2
 |.lst _=>3
 |.tup _=>4
 |.non=>5
 |.ins _ _=>6
noncomputable def Bp(k:Nat)(p:PV):Bool:=Dc p==k||(k==0&&Dc p==1)
noncomputable def Lh(k:Nat)(p:PV):Option PV:=if Dc p=6 then none else some (.bl (Bp k p))
noncomputable def yL(n d:Nat):Option Int->Nat
 |none=>d
 |some i=>if i<0 then(i+n).toNat else min i.toNat n
noncomputable def km{α:Type}(l:List α)(lo hi:Option Int):List α:=(l.drop (yL l.length 0 lo)).take (yL l.length l.length hi-yL l.length 0 lo)
noncomputable abbrev v9:=c8->Option (Option Int)
noncomputable def fU:v9:=λ_=>some none
noncomputable def PQ:PV->Option Int
 |.int i=>some i
 |_=>none
noncomputable def dg(a:Den):v9:=λρ=>(a ρ).bind λp=>(PQ p).map some
noncomputable def Bq(a:Den)(lo hi:v9):Den:=λρ=>(a ρ).bind λx=>(lo ρ).bind λl=>(hi ρ).bind λh=>match x with
 |.lst xs=>some (.lst (km xs l h))
 |_=>none
noncomputable def mP:PV->Option (List PV)
 |.lst l=>some l
 |_=>none
noncomputable def Br:PV->Option (List PV)
 |.tup l=>some l
 |_=>none
noncomputable def nList(a:Den):cM:=λρ=>(a ρ).bind mP
noncomputable def Ez(a:Den):cM:=λρ=>(a ρ).bind Br
noncomputable def fN(lo:Int)(n:Nat):List PV:=(List.range n).map λk=>.int (lo+(k:Nat))
noncomputable def ve(j:Int):Bool:=decide (-(2^62)<=j)&&decide (j<2^62)
noncomputable def dX(a:Den):cM:=λρ=>(a ρ).bind λp=>(PQ p).bind λj=>if ve j then some (fN 0 j.toNat)else none
noncomputable def Bt(a b:Den):cM:=λρ=>(a ρ).bind λp=>(b ρ).bind λq=>(mP p).bind λl=>(mP q).bind λm=>some (List.zipWith (λx y=>PV.tup [x,y]) l m)
noncomputable def fJ(c:de)(e:Den)(ρ:c8):List PV->Option (List PV)
 |[]=>some []
 |x::xs=>(c (.sh x::ρ)).bind λb=>if b then(e (.sh x::ρ)).bind λz=>(fJ c e ρ xs).map (z::·)else fJ c e ρ xs
noncomputable def cP:de:=λ_=>some true
noncomputable def bu(it:cM)(c:de)(e:Den):Den:=λρ=>(it ρ).bind λxs=>if xs.length<=sizeLine then(fJ c e ρ xs).map PV.lst else none
noncomputable def cD:aU:=λρ=>some (.nx ρ)
noncomputable def aR(a b:aU):aU:=λρ=>(a ρ).bind λf=>match f with
 |.nx ρ'=>b ρ'
 |f=>some f
noncomputable def bK(i:Nat)(a:Den):aU:=λρ=>(a ρ).map λp=>.nx (ρ.set i (.sh p))
noncomputable def jY(i:Nat)(a:Den):aU:=λρ=>(a ρ).bind λp=>(mP p).map λl=>.nx (ρ.set i (.ow l))
noncomputable def bx(a:Den):aU:=λρ=>(a ρ).map Fl.rt
noncomputable def jo(t:de)(a b:aU):aU:=λρ=>(t ρ).bind λc=>if c then a ρ else b ρ
noncomputable def JB(i:Nat):aU:=λρ=>match ρ[i]? with
 |some (.own (.l l))=>some (.nx (ρ.set i (.sh (.lst l))))
 |_=>some (.nx ρ)
noncomputable def JC(ρ:c8)(i:Nat):Option (List PV):=match ρ[i]? with
 |some (.own (.l l))=>some l
 |_=>none
noncomputable def mQ(i:Nat)(g:List PV->List PV->Option (List PV))(as:cM):aU:=λρ=>(as ρ).bind λxs=>(JC ρ i).bind λl=>(g l xs).map λl'=>.nx (ρ.set i (.ow l'))
noncomputable def eJ(l xs:List PV):Option (List PV):=match xs with
 |[x]=>if l.length<sizeLine then some (l++[x])else none
 |_=>none
noncomputable def Bu(l xs:List PV):Option (List PV):=match xs with
 |[]=>some []
 |_=>none
noncomputable abbrev tZ:=PV->c8->Option c8
noncomputable def a9(i:Nat):tZ:=λp ρ=>some (ρ.set i (.sh p))
noncomputable def kn(a b:tZ):tZ:=λp ρ=>match p with
 |.tup [x,y]=>(a x ρ).bind (b y)
 |_=>none
noncomputable def forL(g:tZ)(body:aU):List PV->aU
 |[]=>λρ=>some (.nx ρ)
 |x::xs=>λρ=>(g x ρ).bind λρ1=>(body ρ1).bind λf=>match f with
  |.nx ρ'=>forL g body xs ρ'
  |.ct ρ'=>forL g body xs ρ'
  |.bk ρ'=>some (.nx ρ')
  |.rt p=>some (.rt p)
noncomputable def ko(it:cM)(g:tZ)(body:aU):aU:=λρ=>(it ρ).bind λxs=>forL g body xs ρ
noncomputable def eW(t:de)(body:aU):Nat->aU
 |0=>λ_=>none
 |n+1=>λρ=>(t ρ).bind λc=>if c then(body ρ).bind λf=>match f with
   |.nx ρ'=>eW t body n ρ'
   |.ct ρ'=>eW t body n ρ'
   |.bk ρ'=>some (.nx ρ')
   |.rt p=>some (.rt p)
  else some (.nx ρ)
noncomputable def pC:List Int->List Int->Bool
 |[],[]=>false
 |[],_::_=>true
 |_::_,[]=>false
 |x::xs,y::ys=>if x=y then pC xs ys else decide (x<y)
noncomputable def Li(a b:Den):Den:=λρ=>(a ρ).bind λx=>(Ey x).bind λc=>if c then b ρ else some (.bl false)
noncomputable def Lj(a:Den):Den:=λρ=>(a ρ).bind λx=>(Ey x).map λc=>.bl !c
noncomputable def Dd(i:Nat):aU:=λρ=>(JC ρ i).map λl=>.rt (.lst l)
noncomputable def nY(a b:PV):Option PV:=match a with
 |.tup _=>none
 |_=>Oz a b
noncomputable def fV:List PV->Option (List Int)
 |[]=>some []
 |.int i::l=>(fV l).map (i::·)
 |_::_=>none
noncomputable def Bv:PV->Option PV
 |.lst l=>some (.tup l)
 |.tup l=>some (.tup l)
 |_=>none
noncomputable def EA(rk:Int->Nat)(x:Int):List Int->List Int
 |[]=>[x]
 |y::l=>if rk x<=rk y then x::y::l else y::EA rk x l
noncomputable def eK(rk:Int->Nat):List Int->List Int
 |[]=>[]
 |x::l=>EA rk x (eK rk l)
noncomputable def ig(n:Int):Nat:=Mt.rank n.toNat
noncomputable def oZ(n:Int):Bool:=decide (0<=n)&&decide (n<64)
noncomputable def kq(ns:List Int):Bool:=ns.all oZ&&decide (ns.length<=5000)
noncomputable def p8(it:cM):Den:=λρ=>(it ρ).bind λl=>(fV l).bind λns=>if kq ns then some (.lst ((eK ig ns).map PV.int))else none
noncomputable def eL(F:List PV->Option PV):Prop:=∃(kI:Int->Int) (kL:Int->List Int),(∀n,oZ n=true->F [.int n]=some (.tup [.int (kI n),.lst ((kL n).map PV.int)]))/\
 ∀n m,oZ n=true->oZ m=true->(if kI n=kI m then pC (kL n) (kL m)else decide (kI n<kI m))=decide (ig n<ig m)
noncomputable def d9(n:Nat)(ps:List PV):c8:=ps.map Slot.sh++List.replicate (n-ps.length) .un
noncomputable def wa(fr:Bool):Fl->Option PV
 |.rt p=>some p
 |.nx _=>if fr then none else some .non
 |_=>none
noncomputable def fn(fr:Bool)(n k:Nat)(body:aU)(ps:List PV):Option PV:=if ps.length=k then(body (d9 n ps)).bind (wa fr)else none
noncomputable def De:List tZ->List PV->c8->Option c8
 |[],[],ρ=>some ρ
 |t::ts,p::ps,ρ=>(t p ρ).bind (De ts ps)
 |_,_,_=>none
noncomputable def Df(ts:List tZ):tZ:=λp ρ=>match p with
 |.tup l=>De ts l ρ
 |_=>none
noncomputable def M0(g:tZ)(a:Den):aU:=λρ=>(a ρ).bind λp=>(g p ρ).map Fl.nx
noncomputable def jv(x:Str)(lo hi:Option Int)(st:Int):Str:=if(st==1&&(Builtin.Str.strSliceIndices lo hi st x.length).length==x.length)=true then x else⟨((Builtin.Str.strSliceIndices lo hi st x.length).filterMap (x.cps[·]?)).toArray⟩
noncomputable def yM(a:Den)(lo hi:v9):Den:=λρ=>(a ρ).bind λx=>(lo ρ).bind λl=>(hi ρ).bind λh=>match x with
 |.lst xs=>some (.lst (km xs l h))
 |.str y=>if y.length<=sizeLine then some (.str (jv y l h 1))else none
 |_=>none
noncomputable def M1:PV->Option PV
 |.str y=>if y.length<=sizeLine then some (.str (jv y none none (-1)))else none
 |_=>none
noncomputable def Lk:PV->PV->Option PV
 |.str x,.str y=>some (.int (Txt.find x y))
 |_,_=>none
noncomputable def p9:List PV->Option (List Str)
 |[]=>some []
 |.str x::l=>(p9 l).map (x::·)
 |_::_=>none
noncomputable def Dg:PV->PV->Option PV
 |.str x,.lst l=>(p9 l).bind λts=>if JoinOk x ts then some (.str (Txt.join x ts))else none
 |_,_=>none
noncomputable def JD:PV->Option PV
 |.int i=>if decide (i.natAbs<1000000)then some (.str (toString i))else none
 |_=>none
noncomputable def PR:List Int->Option Int
 |[]=>none
 |x::l=>some (l.foldl (λa b=>if b>a then b else a) x)
noncomputable def uk(ft:Nat->List Str)(f:Str):PV->Option PV
 |.ins c l=>((ft c).zip l).lookup f
 |_=>none
noncomputable def vf(Fs:Nat->List PV->Option PV)(o:Den)(as:cM):Den:=λρ=>(o ρ).bind λp=>match p with
 |.ins c l=>(as ρ).bind λxs=>Fs c (.ins c l::xs)
 |_=>none
noncomputable def Ll:PV->Option PV
 |.str x=>some (.ins 0 [.str x])
 |_=>none
noncomputable def Gu:PV->Option PV
 |.lst l=>some (.ins 1 [.int l.length,.tup l])
 |_=>none
noncomputable def Gv:PV->Option PV
 |.lst l=>some (.ins 2 [.int 1,.tup l])
 |_=>none
noncomputable def Bw:PV->PV->Option PV
 |.int m,.lst l=>some (.ins 3 [.int m,.tup l])
 |_,_=>none
noncomputable def vg(c:Nat):List Str:=if c=0 then["name"]else if c<4 then["wanted","parts"]else[]
noncomputable def M3:PV->Option PV
 |.ins c _=>if decide (c<4)then some (.bl true)else none
 |_=>none
noncomputable def sf:PV->Option PV
 |.lst l=>(fV l).bind λns=>(PR ns).map PV.int
 |_=>none
noncomputable def Gw:aU:=λ_=>none
noncomputable def ef(x:Str):List Str->Nat
 |[]=>0
 |y::l=>if y=x then 0 else 1+ef x l
noncomputable def wb:PV->PV->Option PV
 |.tup l,.str x=>(p9 l).bind λts=>if decide (x∈ts)then some (.int (ef x ts:Nat))else none
 |_,_=>none
theorem sg(rk:Int->Nat)(x:Int):∀l:List Int,(EA rk x l).Perm (x::l)
 |[]=>List.Perm.refl _
 |y::l=>by
  unfold EA
  split
  ·exact List.Perm.refl _
  ·exact((sg rk x l).cons y).trans (List.Perm.swap x y l)
theorem gz(rk:Int->Nat):∀l:List Int,(eK rk l).Perm l
 |[]=>List.Perm.refl _
 |x::l=>(sg rk x (eK rk l)).trans ((gz rk l).cons x)
theorem si(rk:Int->Nat)(x:Int):∀l:List Int,l.Pairwise (λa b=>rk a<=rk b)->(EA rk x l).Pairwise (λa b=>rk a<=rk b)
 |[],_=>List.pairwise_singleton _ _
 |y::l,h=>by
  unfold EA
  obtain⟨h1,h2⟩:=List.pairwise_cons.mp h
  split
  ·rename_i M4
   refine List.pairwise_cons.mpr ⟨λz hz=>?_,h⟩
   rcases List.mem_cons.mp hz with rfl|hz
   ·exact M4
   ·exact Nat.le_trans M4 (h1 z hz)
  ·rename_i M4
   refine List.pairwise_cons.mpr ⟨λz hz=>?_,si rk x l h2⟩
   rcases List.mem_cons.mp ((sg rk x l).mem_iff.mp hz)with rfl|hz
   ·omega
   ·exact h1 z hz
theorem kr(rk:Int->Nat):∀l:List Int,(eK rk l).Pairwise (λa b=>rk a<=rk b)
 |[]=>List.Pairwise.nil
 |x::l=>si rk x _ (kr rk l)
theorem JE{n m:Int}(h1:oZ n=true)(h2:oZ m=true)(e:ig n=ig m):n=m:=by
 unfold oZ at h1 h2
 simp only[Bool.and_eq_true,decide_eq_true_eq]at h1 h2
 have:=Mt.yI (a:=n.toNat) (b:=m.toNat) (by omega) (by omega) e
 omega
theorem qa:∀{l m:List Int},l.Perm m->l.Pairwise (λa b=>ig a<=ig b)->m.Pairwise (λa b=>ig a<=ig b)->(∀n∈m,oZ n=true)->l=m
 |[],[],_,_,_,_=>rfl
 |[],_::_,p,_,_,_=>by have:=p.length_eq;simp at this
 |_::_,[],p,_,_,_=>by have:=p.length_eq;simp at this
 |x::l,y::m,p,h1,h2,ok=>by
  obtain⟨a1,a2⟩:=List.pairwise_cons.mp h1
  obtain⟨b1,b2⟩:=List.pairwise_cons.mp h2
  have hx:x∈y::m:=p.mem_iff.mp (List.mem_cons_self ..)
  have hy:y∈x::l:=p.mem_iff.mpr (List.mem_cons_self ..)
  have e:x=y:=by
   refine JE (ok x hx) (ok y (List.mem_cons_self ..)) (Nat.le_antisymm ?_ ?_)
   ·rcases List.mem_cons.mp hy with e|e
    ·rw[e];exact Nat.le_refl _
    ·exact a1 y e
   ·rcases List.mem_cons.mp hx with e|e
    ·rw[e];exact Nat.le_refl _
    ·exact b1 x e
  subst e
  rw[qa (List.Perm.cons_inv p) a2 b2 λn hn=>ok n (List.mem_cons_of_mem _ hn)]
end L2.D
namespace L2.D
open PySem PySem.Spec PyProof.Rows
open Classical
structure Kl where
 adr:Nat->Addr
 fld:Nat->List Str
noncomputable def SL(K:PySem.W.Frag)(H:Hp)(a:Addr)(xs:List V):Prop:=
 Rd H a (.lst xs)\/∃(its:List Value) (n:Nat),K.lookup a=some {cls:=.type "list",data:=.seq its.toArray n}/\its.length<=sizeLine/\Vals xs its
theorem SL.of{K:PySem.W.Frag}{H:Hp}{a:Addr}{xs:List V}(h:H a=some (.lst xs)):SL K H a xs:=.inl (.inl h)
theorem SL.sq{K:PySem.W.Frag}{H:Hp}{a:Addr}{xs:List V}(h:SL K H a xs):gD K H a xs:=by
 rcases h with h|⟨its,n,h1,h2,h3⟩
 ·exact .inl h
 ·exact .inr ⟨_,its.toArray,n,h1,rfl,rfl,rfl,by simpa using h2,by simpa using h3⟩
theorem _root_.L2.aH.sl{K:PySem.W.Frag}{H H':Hp}{a:Addr}{xs:List V}(e:aH H H')(h:SL K H a xs):SL K H' a xs:=by
 rcases h with(h|⟨o,h⟩)|h
 ·exact .inl (.inl (e _ _ h))
 ·exact .inl (.inr ⟨o,e _ _ h⟩)
 ·exact .inr h
theorem _root_.L2.Inv.sl{X:Cx}{pins:List (Addr×Obj)}{σ:St}{H:Hp}{s:Shared}{a:Addr}{xs:List V}(I:Inv X pins σ H s)(h:SL X.K H a xs):∃(its:List Value) (n:Nat),Vals xs its/\s.heap.get? a=some {cls:=.type "list",data:=.seq its.toArray n}/\xs.length<=sizeLine:=by
 rcases h with h|⟨its,n,h1,h2,h3⟩
 ·obtain⟨z,its,n,r,e⟩:=h.ok I.dh
  exact⟨its,n,r,e,z⟩
 ·exact⟨its,n,h3,I.kf a _ h1,by rw[h3.length];exact h2⟩
mutual
inductive Rep(K:PySem.W.Frag)(κ:Kl)(H:Hp):V->PV->Prop
 |non:Rep K κ H .non .non
 |bl (b:Bool):Rep K κ H (.bl b) (.bl b)
 |int (i:Int):Rep K κ H (.int i) (.int i)
 |str (x:Str):Rep K κ H (.str x) (.str x)
 |lst {a:Addr} {vs:List V} {l:List PV}:SL K H a vs->aV K κ H vs l->Rep K κ H (.ref a) (.lst l)
 |tup {a:Addr} {vs:List V} {l:List PV}:ke K H a vs->aV K κ H vs l->Rep K κ H (.ref a) (.tup l)
 |ins {a dx:Addr} {c:Nat} {vs:List V} {l:List PV}:H a=some (.ins (κ.adr c) dx ((κ.fld c).zip vs))->vs.length=(κ.fld c).length->aV K κ H vs l->Rep K κ H (.ref a) (.ins c l)
inductive aV(K:PySem.W.Frag)(κ:Kl)(H:Hp):List V->List PV->Prop
 |nil:aV K κ H [] []
 |cons {v:V} {p:PV} {vs:List V} {l:List PV}:Rep K κ H v p->aV K κ H vs l->aV K κ H (v::vs) (p::l)
end
section
variable{K:PySem.W.Frag}{κ:Kl}{H H' H1:Hp}
theorem sj{a:Addr}{xs:List V}(e:aH H H')(h:ke K H a xs):ke K H' a xs:=by
 rcases h with(h|⟨o,h⟩)|h
 ·exact .inl (.inl (e _ _ h))
 ·exact .inl (.inr ⟨o,e _ _ h⟩)
 ·exact .inr h
mutual
theorem Rep.mono(e:aH H H'):∀{v:V} {p:PV},Rep K κ H v p->Rep K κ H' v p
 |_,_,.non=>.non
 |_,_,.bl b=>.bl b
 |_,_,.int i=>.int i
 |_,_,.str x=>.str x
 |_,_,.lst h r=>.lst (e.sl h) (aV.mono e r)
 |_,_,.tup h r=>.tup (sj e h) (aV.mono e r)
 |_,_,.ins h z r=>.ins (e _ _ h) z (aV.mono e r)
theorem aV.mono(e:aH H H'):∀{vs:List V} {l:List PV},aV K κ H vs l->aV K κ H' vs l
 |_,_,.nil=>.nil
 |_,_,.cons r t=>.cons (Rep.mono e r) (aV.mono e t)
end
theorem aV.length:∀{vs:List V} {l:List PV},aV K κ H vs l->vs.length=l.length
 |_,_,.nil=>rfl
 |_,_,.cons _ t=>by rw[List.length_cons,List.length_cons,t.length]
theorem aV.append:∀{vs ws:List V} {l m:List PV},aV K κ H vs l->aV K κ H ws m->aV K κ H (vs++ws) (l++m)
 |_,_,_,_,.nil,s=>s
 |_,_,_,_,.cons r t,s=>.cons r (t.append s)
theorem aV.get:∀{vs:List V} {l:List PV} {i:Nat} {p:PV},aV K κ H vs l->l[i]?=some p->∃v,vs[i]?=some v/\Rep K κ H v p
 |_,_,_,_,.nil,e=>by simp at e
 |_,_,0,_,.cons r _,e=>by simp at e;subst e;exact⟨_,rfl,r⟩
 |_,_,i+1,p,.cons _ t,e=>by
  obtain⟨v,h1,h2⟩:=aV.get (i:=i) (p:=p) t (by simpa using e)
  exact⟨v,by simpa using h1,h2⟩
theorem aV.Bx:∀{vs:List V} {l:List PV} {i:Nat} {v:V},aV K κ H vs l->vs[i]?=some v->∃p,l[i]?=some p/\Rep K κ H v p
 |_,_,_,_,.nil,e=>by simp at e
 |_,_,0,_,.cons r _,e=>by simp at e;subst e;exact⟨_,rfl,r⟩
 |_,_,i+1,v,.cons _ t,e=>by
  obtain⟨p,h1,h2⟩:=aV.Bx (i:=i) (v:=v) t (by simpa using e)
  exact⟨p,by simpa using h1,h2⟩
theorem aV.take:∀{vs:List V} {l:List PV} (n:Nat),aV K κ H vs l->aV K κ H (vs.take n) (l.take n)
 |_,_,0,_=>.nil
 |_,_,_+1,.nil=>.nil
 |_,_,n+1,.cons r t=>.cons r (t.take n)
theorem aV.drop:∀{vs:List V} {l:List PV} (n:Nat),aV K κ H vs l->aV K κ H (vs.drop n) (l.drop n)
 |_,_,0,r=>r
 |_,_,_+1,.nil=>.nil
 |_,_,n+1,.cons _ t=>t.drop n
theorem Rep.flat{v:V}{p:PV}(f:flat p=true)(r:Rep K κ H v p):Rep K κ H' v p:=by
 cases r with
 |non=>exact .non
 |bl b=>exact .bl b
 |int i=>exact .int i
 |str x=>exact .str x
 |lst _ _=>simp[D.flat]at f
 |tup _ _=>simp[D.flat]at f
 |ins _ _ _=>simp[D.flat]at f
end
noncomputable def hide(A:Addr->Prop)(H:Hp):Hp:=λb=>if A b then none else H b
theorem dH{A:Addr->Prop}{H:Hp}{b:Addr}(h:¬A b):hide A H b=H b:=if_neg h
theorem lO{A:Addr->Prop}{H:Hp}{b:Addr}{o:HO}(h:hide A H b=some o):¬A b/\H b=some o:=by
 unfold hide at h
 by_cases e:A b
 ·rw[if_pos e]at h
  cases h
 ·rw[if_neg e]at h
  exact⟨e,h⟩
theorem bF{A:Addr->Prop}{H H':Hp}(h:aH H H'):aH (hide A H) (hide A H'):=λb o e=>by
 obtain⟨h1,h2⟩:=lO e
 rw[dH h1]
 exact h b o h2
theorem eN{A B:Addr->Prop}{H H':Hp}(h:aH H H')(s:∀b,B b->H b≠none->A b):aH (hide A H) (hide B H'):=λb o e=>by
 obtain⟨h1,h2⟩:=lO e
 rw[dH λz=>h1 (s b z (by rw[h2];simp))]
 exact h b o h2
theorem ax{A:Addr->Prop}{H:Hp}:aH (hide A H) H:=λb o e=>(lO e).2
theorem yN{A:Addr->Prop}{H:Hp}{a:Addr}{o:HO}(h:A a):hide A (upd H a o)=hide A H:=by
 funext b
 unfold hide
 by_cases e:A b
 ·rw[if_pos e,if_pos e]
 ·rw[if_neg e,if_neg e]
  exact aZ λz=>e (z▸h)
theorem bM{H:Hp}{a:Addr}{o:HO}(h:H a=none):aH H (upd H a o):=λb u q=>by rw[aZ (bP q h)];exact q
noncomputable def Gx:Cn->List V->HO
 |.l _,vs=>.lst vs
 |.d d,vs=>.dK (List.zipWith (λ(p:Int×PV) (v:V)=>((Sum.inl p.1:Key),v)) d vs)
noncomputable def M5:Cn->List PV
 |.l l=>l
 |.d d=>d.map (·.2)
noncomputable def EB(own:Nat->Addr)(ρ:c8):Addr->Prop:=λb=>∃i l,ρ[i]?=some (.own l)/\own i=b
noncomputable def dI(A:Addr->Prop)(own:Nat->Addr)(ρ:c8):Addr->Prop:=λb=>A b\/EB own ρ b
noncomputable abbrev dQ(A:Addr->Prop)(own:Nat->Addr)(ρ:c8)(H:Hp):Hp:=hide (dI A own ρ) H
structure R(K:PySem.W.Frag)(κ:Kl)(G:Hp)(A:Addr->Prop)(bo:Nat->Option (Addr×List V))(own:Nat->Addr)(ρ:c8)(σ:St)(H:Hp):Prop where
 al:∀b,A b->G b≠none
 bg:∀i a vs,bo i=some (a,vs)->G a=some (.lst vs)
 same:aH G H
 sh:∀(i:Nat) p,ρ[i]?=some (.sh p)->∃v,σ[i]?=some (some v)/\Rep K κ (dQ A own ρ H) v p
 ow:∀(i:Nat) l,ρ[i]?=some (.own l)->σ[i]?=some (some (.ref (own i)))/\G (own i)=none/\∃vs,H (own i)=some (Gx l vs)/\aV K κ (dQ A own ρ H) vs (M5 l)
 inj:∀(i j:Nat) l m,ρ[i]?=some (.own l)->ρ[j]?=some (.own m)->own i=own j->i=j
 bw:∀(i:Nat) l,ρ[i]?=some (.bw l)->∃a vs,bo i=some (a,vs)/\σ[i]?=some (some (.ref a))/\aV K κ (dQ A own ρ H) vs l
 len:σ.length=ρ.length
section
variable{K:PySem.W.Frag}{κ:Kl}{G G' H H' H1:Hp}{A:Addr->Prop}{bo:Nat->Option (Addr×List V)}{own di:Nat->Addr}{ρ ρ':c8}{σ σ':St}
theorem R.mono(r:R K κ G A bo own ρ σ H)(s:aH H H1):R K κ G A bo own ρ σ H1 where
 al:=r.al
 bg:=r.bg
 same:=r.same.trans s
 sh:=λi p e=>let⟨v,h1,h2⟩:=r.sh i p e;⟨v,h1,h2.mono (bF s)⟩
 ow:=λi l e=>let⟨h1,h2,vs,h3,h4⟩:=r.ow i l e;⟨h1,h2,vs,s _ _ h3,h4.mono (bF s)⟩
 inj:=r.inj
 bw:=λi l e=>let⟨a,vs,h1,h2,h3⟩:=r.bw i l e;⟨a,vs,h1,h2,h3.mono (bF s)⟩
 len:=r.len
theorem R.new(r:R K κ G A bo own ρ σ H){a:Addr}(h:H a=none):¬dI A own ρ a:=by
 rintro(z|⟨i,l,h1,rfl⟩)
 ·cases e:G a with
  |none=>exact r.al a z e
  |some o=>
   rw[r.same _ _ e]at h
   cases h
 ·obtain⟨_,_,vs,h3,_⟩:=r.ow i l h1
  rw[h3]at h
  cases h
theorem R.PU(r:R K κ G A bo own ρ σ H){b:Addr}(h:dI A own ρ b):H b≠none:=λz=>r.new z h
noncomputable def IT(own:Nat->Addr)(ρ:c8)(H:Hp):Hp:=hide (EB own ρ) H
theorem nZ:hide A (IT own ρ H)=dQ A own ρ H:=by
 funext b
 unfold IT dQ hide dI
 by_cases h1:A b<;>by_cases h2:EB own ρ b<;>simp[h1,h2]
theorem R.gv(r:R K κ G A bo own ρ σ H):aH G (IT own ρ H):=λb o e=>by
 unfold IT
 rw[dH]
 ·exact r.same _ _ e
 ·rintro⟨i,l,h1,rfl⟩
  rw[(r.ow i l h1).2.1]at e
  cases e
theorem R.big(r:R K κ G A bo own ρ σ H):R K κ (IT own ρ H) A bo own ρ σ H where
 al:=λb h z=>by
  cases e:G b with
  |none=>exact r.al b h e
  |some o=>
   rw[r.gv _ _ e]at z
   cases z
 bg:=λi a vs h=>r.gv _ _ (r.bg i a vs h)
 same:=ax
 sh:=r.sh
 ow:=λi l e=>let⟨h1,h2,h3⟩:=r.ow i l e;⟨h1,by unfold IT hide;rw[if_pos ⟨i,l,e,rfl⟩],h3⟩
 inj:=r.inj
 bw:=r.bw
 len:=r.len
theorem R.small(r:R K κ G' A bo own ρ σ H)(s:aH G G')(al:∀b,A b->G b≠none)(bg:∀i a vs,bo i=some (a,vs)->G a=some (.lst vs)):R K κ G A bo own ρ σ H where
 al:=al
 bg:=bg
 same:=s.trans r.same
 sh:=r.sh
 ow:=λi l e=>let⟨h1,h2,h3⟩:=r.ow i l e;⟨h1,s.free h2,h3⟩
 inj:=r.inj
 bw:=r.bw
 len:=r.len
theorem R.JF(r:R K κ G A bo own ρ σ H):aH (hide A G) (dQ A own ρ H):=λb o e=>by
 obtain⟨h1,h2⟩:=lO e
 rw[dQ,dH]
 ·exact r.same _ _ h2
 ·rintro(z|⟨i,l,h3,rfl⟩)
  ·exact h1 z
  ·rw[(r.ow i l h3).2.1]at h2
   cases h2
theorem Gy{i:Nat}{p:PV}{b:Addr}(h:EB own (ρ.set i (.sh p)) b):EB own ρ b:=by
 obtain⟨j,l,h1,h2⟩:=h
 rw[List.getElem?_set]at h1
 split at h1
 ·split at h1<;>cases h1
 ·exact⟨j,l,h1,h2⟩
theorem lP{i:Nat}{p:PV}:aH (dQ A own ρ H) (dQ A own (ρ.set i (.sh p)) H):=eN (λ_ _ h=>h) λb h _=>by
 rcases h with h|h
 ·exact .inl h
 ·exact .inr (Gy h)
theorem R.set(r:R K κ G A bo own ρ σ H){i:Nat}{v:V}{p:PV}(h:Rep K κ (dQ A own ρ H) v p):R K κ G A bo own (ρ.set i (.sh p)) (σ.set i (some v)) H:=by
 have ne:∀{j:Nat} {x:Slot},(ρ.set i (.sh p))[j]?=some x->x≠.sh p->i≠j/\ρ[j]?=some x:=λ{j x} e nx=>by
  rw[List.getElem?_set]at e
  split at e
  ·split at e
   ·exact absurd (Option.some.inj e).symm nx
   ·cases e
  ·exact⟨by assumption,e⟩
 refine⟨r.al,r.bg,r.same,λj q e=>?_,λj l e=>?_,λj k l m e f=>?_,λj l e=>?_,by rw[List.length_set,List.length_set];exact r.len⟩
 ·by_cases hj:i=j
  ·subst hj
   rw[List.getElem?_set]at e
   rw[if_pos rfl]at e
   split at e
   ·injection e with e
    injection e with e
    subst e
    exact⟨v,by rw[List.getElem?_set,if_pos rfl,if_pos (by rw[r.len];assumption)],h.mono lP⟩
   ·cases e
  ·rw[List.getElem?_set,if_neg hj]at e
   obtain⟨u,h1,h2⟩:=r.sh j q e
   exact⟨u,by rw[List.getElem?_set,if_neg hj];exact h1,h2.mono lP⟩
 ·obtain⟨hj,e⟩:=ne e (by simp)
  obtain⟨h1,h2,vs,h3,h4⟩:=r.ow j l e
  exact⟨by rw[List.getElem?_set,if_neg hj];exact h1,h2,vs,h3,h4.mono lP⟩
 ·exact r.inj j k l m (ne e (by simp)).2 (ne f (by simp)).2
 ·obtain⟨hj,e⟩:=ne e (by simp)
  obtain⟨a,vs,h1,h2,h3⟩:=r.bw j l e
  exact⟨a,vs,h1,by rw[List.getElem?_set,if_neg hj];exact h2,h3.mono lP⟩
theorem R.PX(r:R K κ G A bo own ρ σ H){i:Nat}{a:Addr}{vs:List V}{l:Cn}(hG:G a=none)(hA:¬A a)(hj:∀(j:Nat) m,ρ[j]?=some (.own m)->j≠i->own j≠a)(s:aH (dQ A own ρ H) (hide (λb=>dI A own ρ b\/b=a) H1))(hk:∀b o,H b=some o->b≠a->H1 b=some o)
  (h1:H1 a=some (Gx l vs))(h2:aV K κ (hide (λb=>dI A own ρ b\/b=a) H1) vs (M5 l)):R K κ G A bo (λj=>if j=i then a else own j) (ρ.set i (.own l)) (σ.set i (some (.ref a))) H1:=by
 by_cases hi:i<ρ.length
 rotate_left
 ·rw[List.set_eq_of_length_le (by omega),List.set_eq_of_length_le (by rw[r.len];omega)]
  have oe:∀(j:Nat) x,ρ[j]?=some x->(if j=i then a else own j)=own j:=λj x e=>if_neg λz=>by
   have:=(List.getElem?_eq_some_iff.mp e).1
   omega
  have se:dI A (λj=>if j=i then a else own j) ρ=dI A own ρ:=by
   funext b
   unfold dI EB
   refine propext (or_congr Iff.rfl ⟨?_,?_⟩)
   ·rintro⟨j,m,e,z⟩
    exact⟨j,m,e,by rw[<-oe j _ e];exact z⟩
   ·rintro⟨j,m,e,z⟩
    exact⟨j,m,e,by show(if j=i then a else own j)=b;rw[oe j _ e];exact z⟩
  have sm:aH (dQ A own ρ H) (dQ A own ρ H1):=s.trans (eN (λ_ _ h=>h) λb h _=>.inl h)
  refine⟨r.al,r.bg,λb o e=>hk b o (r.same _ _ e) (λz=>by rw[z,hG]at e;cases e),λj q e=>?_,λj m e=>?_,λj k m n e f z=>?_,λj m e=>?_,r.len⟩
  ·obtain⟨u,z1,z2⟩:=r.sh j q e
   exact⟨u,z1,by rw[dQ,se];exact z2.mono sm⟩
  ·rw[oe j _ e]
   obtain⟨z1,z2,ws,z3,z4⟩:=r.ow j m e
   have Gk:j≠i:=λz=>by
    have:=(List.getElem?_eq_some_iff.mp e).1
    omega
   exact⟨z1,z2,ws,hk _ _ z3 (hj j m e Gk),by rw[dQ,se];exact z4.mono sm⟩
  ·skip
   rw[oe j _ e,oe k _ f]at z
   exact r.inj j k m n e f z
  ·obtain⟨b,ws,z1,z2,z3⟩:=r.bw j m e
   exact⟨b,ws,z1,z2,by rw[dQ,se];exact z3.mono sm⟩
 have PY:∀b,dI A (λj=>if j=i then a else own j) (ρ.set i (.own l)) b->dI A own ρ b\/b=a:=λb h=>by
  rcases h with h|⟨j,m,e,z⟩
  ·exact .inl (.inl h)
  ·by_cases S6:j=i
   ·subst S6
    try dsimp only at z
    rw[if_pos rfl]at z
    exact .inr z.symm
   ·dsimp only at z
    rw[if_neg S6]at z
    rw[List.getElem?_set,if_neg (Ne.symm S6)]at e
    exact .inl (.inr ⟨j,m,e,z⟩)
 have sm:aH (hide (λb=>dI A own ρ b\/b=a) H1) (dQ A (λj=>if j=i then a else own j) (ρ.set i (.own l)) H1):=eN (λ_ _ h=>h) λb h _=>PY b h
 have oY:aH (dQ A own ρ H) (dQ A (λj=>if j=i then a else own j) (ρ.set i (.own l)) H1):=s.trans sm
 refine⟨r.al,r.bg,λb o e=>hk b o (r.same _ _ e) (λz=>by rw[z,hG]at e;cases e),λj q e=>?_,λj m e=>?_,λj k m n e f z=>?_,λj m e=>?_,by rw[List.length_set,List.length_set];exact r.len⟩
 ·by_cases um:i=j
  ·subst um
   rw[List.getElem?_set,if_pos rfl,if_pos hi]at e
   cases e
  ·rw[List.getElem?_set,if_neg um]at e
   obtain⟨u,z1,z2⟩:=r.sh j q e
   exact⟨u,by rw[List.getElem?_set,if_neg um];exact z1,z2.mono oY⟩
 ·by_cases um:i=j
  ·subst um
   rw[List.getElem?_set,if_pos rfl,if_pos hi]at e
   injection e with e
   injection e with e
   subst e
   try dsimp only
   rw[if_pos rfl]
   exact⟨by rw[List.getElem?_set,if_pos rfl,if_pos (by rw[r.len];exact hi)],hG,vs,h1,h2.mono sm⟩
  ·rw[List.getElem?_set,if_neg um]at e
   obtain⟨z1,z2,ws,z3,z4⟩:=r.ow j m e
   try dsimp only
   rw[if_neg (Ne.symm um)]
   exact⟨by rw[List.getElem?_set,if_neg um];exact z1,z2,ws,hk _ _ z3 (hj j m e (Ne.symm um)),z4.mono oY⟩
 ·skip
  by_cases um:i=j<;>by_cases JG:i=k
  ·rw[<-um,<-JG]
  ·subst um
   rw[List.getElem?_set,if_neg JG]at f
   rw[if_pos rfl,if_neg (Ne.symm JG)]at z
   exact absurd z.symm (hj k n f (Ne.symm JG))
  ·subst JG
   rw[List.getElem?_set,if_neg um]at e
   rw[if_pos rfl,if_neg (Ne.symm um)]at z
   exact absurd z (hj j m e (Ne.symm um))
  ·rw[List.getElem?_set,if_neg um]at e
   rw[List.getElem?_set,if_neg JG]at f
   rw[if_neg (Ne.symm um),if_neg (Ne.symm JG)]at z
   exact r.inj j k m n e f z
 ·by_cases um:i=j
  ·subst um
   rw[List.getElem?_set,if_pos rfl,if_pos hi]at e
   cases e
  ·rw[List.getElem?_set,if_neg um]at e
   obtain⟨b,ws,z1,z2,z3⟩:=r.bw j m e
   exact⟨b,ws,z1,by rw[List.getElem?_set,if_neg um];exact z2,z3.mono oY⟩
end
end L2.D
namespace L2.D
open PySem PySem.Spec PyProof.Rows
open Classical
noncomputable def BR(K:PySem.W.Frag)(κ:Kl)(hH H:Hp)(v:V)(p:PV):Prop:=Rep K κ hH v p\/∃a vs l,v=.ref a/\p=.lst l/\SL K H a vs/\aV K κ hH vs l
noncomputable def OR(K:PySem.W.Frag)(κ:Kl)(A:Addr->Prop)(H H':Hp)(v:V)(p:PV):Prop:=∃a vs l,v=.ref a/\p=.lst l/\H a=none/\H' a=some (.lst vs)/\aV K κ (hide (λb=>A b\/b=a) H') vs l
noncomputable def PZ(K:PySem.W.Frag)(κ:Kl)(te:TE)(f:Den):Prop:=
 ∀{G A bo own ρ σ H p Q},R K κ G A bo own ρ σ H->f ρ=some p->(∀v H',aH H H'->Rep K κ (dQ A own ρ H') v p->Q v H')->te σ H Q
noncomputable def P0(K:PySem.W.Frag)(κ:Kl)(te:TE)(f:Den):Prop:=
 ∀{G A bo own ρ σ H p Q},R K κ G A bo own ρ σ H->f ρ=some p->(∀v H',aH H H'->BR K κ (dQ A own ρ H') H' v p->Q v H')->te σ H Q
noncomputable def Uh(K:PySem.W.Frag)(κ:Kl)(te:TE)(f:Den):Prop:=
 ∀{G A bo own ρ σ H p Q},R K κ G A bo own ρ σ H->f ρ=some p->(∀v H',aH H H'->OR K κ (dI A own ρ) H H' v p->Q v H')->te σ H Q
noncomputable def S7(K:PySem.W.Frag)(κ:Kl)(tt:TT)(f:de):Prop:=
 ∀{G A bo own ρ σ H b Q},R K κ G A bo own ρ σ H->f ρ=some b->(∀H',aH H H'->Q b H')->tt σ H Q
noncomputable def DE(X:Cx)(κ:Kl)(e:Expr)(f:Den):Prop:=∃te,PE X e te/\PZ X.K κ te f
noncomputable def DB(X:Cx)(κ:Kl)(e:Expr)(f:Den):Prop:=∃te,PE X e te/\P0 X.K κ te f
noncomputable def DO(X:Cx)(κ:Kl)(e:Expr)(f:Den):Prop:=∃te,PE X e te/\Uh X.K κ te f
noncomputable def DT(X:Cx)(κ:Kl)(e:Expr)(f:de):Prop:=∃tt,PT X e tt/\S7 X.K κ tt f
noncomputable def DW(X:Cx)(κ:Kl)(e:Expr)(f:de):Prop:=∃tt,PW X e tt/\S7 X.K κ tt f
section
variable{K:PySem.W.Frag}{κ:Kl}{G hH Ui H H' H1:Hp}{A:Addr->Prop}{bo:Nat->Option (Addr×List V)}{own:Nat->Addr}{ρ:c8}{σ:St}{v:V}{p:PV}
theorem BR.mono(h:BR K κ hH H v p)(s1:aH hH Ui)(s2:aH H H'):BR K κ Ui H' v p:=by
 rcases h with h|⟨a,vs,l,h1,h2,h3,h4⟩
 ·exact .inl (h.mono s1)
 ·exact .inr ⟨a,vs,l,h1,h2,s2.sl h3,h4.mono s1⟩
theorem BR.Dh(h:BR K κ (hide A H) H v p)(s2:aH H H'):BR K κ (hide A H') H' v p:=h.mono (bF s2) s2
theorem BR.full(h:BR K κ hH H v p)(s:aH hH H):Rep K κ H v p:=by
 rcases h with h|⟨a,vs,l,rfl,rfl,h3,h4⟩
 ·exact h.mono s
 ·exact .lst h3 (h4.mono s)
theorem BR.lst{l:List PV}(h:BR K κ hH H v (.lst l))(s:aH hH H):∃a vs,v=.ref a/\SL K H a vs/\aV K κ hH vs l:=by
 rcases h with h|⟨a,vs,l',h1,h2,h3,h4⟩
 ·cases h with
  |lst h1 h2=>exact⟨_,_,rfl,s.sl h1,h2⟩
 ·cases h2
  exact⟨a,vs,h1,h3,h4⟩
theorem BR.tup{l:List PV}(h:BR K κ hH H v (.tup l))(s:aH hH H):∃a vs,v=.ref a/\ke K H a vs/\aV K κ hH vs l:=by
 rcases h with h|⟨a,vs,l',h1,h2,h3,h4⟩
 ·cases h with
  |tup h1 h2=>exact⟨_,_,rfl,sj s h1,h2⟩
 ·cases h2
theorem BR.int{i:Int}(h:BR K κ hH H v (.int i)):v=.int i:=by
 rcases h with h|⟨a,vs,l',h1,h2,h3,h4⟩
 ·cases h;rfl
 ·cases h2
theorem BR.str{i:Str}(h:BR K κ hH H v (.str i)):v=.str i:=by
 rcases h with h|⟨a,vs,l',h1,h2,h3,h4⟩
 ·cases h;rfl
 ·cases h2
theorem Rep.Ey{i:Bool}(h:Rep K κ hH v (.bl i)):v=.bl i:=by cases h;rfl
theorem Rep.PQ{i:Int}(h:Rep K κ hH v (.int i)):v=.int i:=by cases h;rfl
theorem R.yO(r:R K κ G A bo own ρ σ H){a:Addr}{vs:List V}{l:List PV}(h:H a=none)(q:aV K κ (dQ A own ρ H) vs l):OR K κ (dI A own ρ) H (upd H a (.lst vs)) (.ref a) (.lst l):=
 ⟨a,vs,l,rfl,rfl,h,bE,by
   rw[yN (.inr rfl)]
   exact q.mono (eN (λ_ _ z=>z) λb z nz=>by
    rcases z with z|z
    ·exact z
    ·rw[z]at nz
     exact absurd h nz)⟩
theorem OR.rep(r:R K κ G A bo own ρ σ H)(h:OR K κ (dI A own ρ) H H' v p):Rep K κ (dQ A own ρ H') v p:=by
 obtain⟨a,vs,l,rfl,rfl,h1,h2,h3⟩:=h
 refine .lst (SL.of ?_) (h3.mono (eN (λ_ _ z=>z) λb z _=>.inl z))
 rw[dQ,dH (r.new h1)]
 exact h2
theorem R.P1(r:R K κ G A bo own ρ σ H){a:Addr}{vs:List V}{l:List PV}(h:H a=none)(q:aV K κ (dQ A own ρ H) vs l):Rep K κ (dQ A own ρ (upd H a (.tup vs))) (.ref a) (.tup l):=by
 refine .tup (ke.of ?_) (q.mono (bF (bM h)))
 rw[dQ,dH (r.new h)]
 exact bE
theorem uo{ta tb:TE}{fa fb:Den}{α:Type}{g:PV->PV->Option α}{z:α}{Rr:V->V->Hp->Prop}(ha:P0 K κ ta fa)(hb:P0 K κ tb fb)(r:R K κ G A bo own ρ σ H)
  (e:((fa ρ).bind λx=>(fb ρ).bind λy=>g x y)=some z)(q:∀x y p q H',aH H H'->R K κ G A bo own ρ σ H'->BR K κ (dQ A own ρ H') H' x p->BR K κ (dQ A own ρ H') H' y q->g p q=some z->Rr x y H'):ta σ H λx H1=>tb σ H1 λy H2=>Rr x y H2:=by
 obtain⟨p1,e1,e⟩:=Option.bind_eq_some_iff.mp e
 obtain⟨p2,e2,e⟩:=Option.bind_eq_some_iff.mp e
 refine ha r e1 λx H1 s1 b1=>?_
 refine hb (r.mono s1) e2 λy H2 s2 b2=>?_
 exact q x y p1 p2 H2 (s1.trans s2) (r.mono (s1.trans s2)) (b1.Dh s2) b2 e
end
theorem DE.b{X:Cx}{κ:Kl}{ex:Expr}{f:Den}(h:DE X κ ex f):DB X κ ex f:=let⟨te,h1,h2⟩:=h;⟨te,h1,λr e q=>h2 r e λv H' s z=>q v H' s (.inl z)⟩
theorem DO.e{X:Cx}{κ:Kl}{ex:Expr}{f:Den}(h:DO X κ ex f):DE X κ ex f:=let⟨te,h1,h2⟩:=h;⟨te,h1,λr e q=>h2 r e λv H' s z=>q v H' s (z.rep r)⟩
theorem DO.b{X:Cx}{κ:Kl}{ex:Expr}{f:Den}(h:DO X κ ex f):DB X κ ex f:=h.e.b
section
variable{X:Cx}{κ:Kl}{e a b c:Expr}{f fa fb fc:Den}{pos:Pos}
theorem aj{i:Int}{j pos}:DE X κ (.Constant (.int i) j pos) (dC (.int i)):=⟨_,FC,λ{_ _ _ _ _ _ H _ _} r e q=>by cases e;exact q _ H (aH.refl _) (.int i)⟩
theorem n0{i:Bool}{j pos}:DE X κ (.Constant (.bool i) j pos) (dC (.bl i)):=⟨_,OO,λ{_ _ _ _ _ _ H _ _} r e q=>by cases e;exact q _ H (aH.refl _) (.bl i)⟩
theorem bW{i:Str}{j pos}:DE X κ (.Constant (.str i) j pos) (dC (.str i)):=⟨_,LV,λ{_ _ _ _ _ _ H _ _} r e q=>by cases e;exact q _ H (aH.refl _) (.str i)⟩
theorem ab(i:Nat){x:Str}{pos:Pos}(hN:X.N[i]?=some x:=by rfl)(hv:KL X.env.scope x:=by first|exact Or.inl rfl|exact Or.inr (Or.inl rfl)|exact Or.inr (Or.inr rfl))(hd:(x==("__debug__" :Str))=false:=by decide)
  (ud:(x==("__classdict__" :Str))=false:=by decide):DB X κ (.Name x pos) (dV i):=⟨_,o4 hN hv hd ud,λ{G A bo own ρ σ H p Q} r e q=>by
 unfold dV at e
 obtain⟨s,e1,e2⟩:=Option.bind_eq_some_iff.mp e
 cases s with
 |un=>cases e2
 |sh p'=>
  cases e2
  obtain⟨v,h1,h2⟩:=r.sh i _ e1
  exact⟨v,h1,q v H (aH.refl _) (.inl h2)⟩
 |own c=>
  cases c with
  |d _=>cases e2
  |l l=>
  cases e2
  obtain⟨h1,_,vs,h3,h4⟩:=r.ow i _ e1
  exact⟨_,h1,q _ H (aH.refl _) (.inr ⟨_,vs,l,rfl,rfl,SL.of h3,h4⟩)⟩
 |bw l=>
  cases e2
  obtain⟨a,vs,h0,h1,h4⟩:=r.bw i _ e1
  exact⟨_,h1,q _ H (aH.refl _) (.inr ⟨_,vs,l,rfl,rfl,SL.of (r.same _ _ (r.bg _ _ _ h0)),h4⟩)⟩⟩
theorem ay(i:Nat){x:Str}{pos:Pos}(hN:X.N[i]?=some x:=by rfl)(hv:KL X.env.scope x:=by first|exact Or.inl rfl|exact Or.inr (Or.inl rfl)|exact Or.inr (Or.inr rfl))(hd:(x==("__debug__" :Str))=false:=by decide)
  (ud:(x==("__classdict__" :Str))=false:=by decide):DE X κ (.Name x pos) (bb i):=⟨_,o4 hN hv hd ud,λ{G A bo own ρ σ H p Q} r e q=>by
 unfold bb at e
 obtain⟨s,e1,e2⟩:=Option.bind_eq_some_iff.mp e
 cases s with
 |un=>cases e2
 |sh p'=>
  cases e2
  obtain⟨v,h1,h2⟩:=r.sh i _ e1
  exact⟨v,h1,q v H (aH.refl _) h2⟩
 |own l=>cases e2
 |bw l=>cases e2⟩
theorem yP{op:Operator}{C:Int->Int->Prop}{F:Int->Int->Int}{g:PV->PV->Option PV}(ho:lK X (binaryOp op) (rI C λi j=>.int (F i j)))(hg:∀p q z,g p q=some z->∃i j,p=.int i/\q=.int j/\C i j/\z=.int (F i j))
  (ha:DB X κ a fa)(hb:DB X κ b fb):DE X κ (.BinOp a op b pos) (ae g fa fb):=by
 obtain⟨ta,h1,h2⟩:=ha
 obtain⟨tb,h3,h4⟩:=hb
 refine⟨_,FN ho h1 h3,λ{G A bo own ρ σ H p Q} r e q=>?_⟩
 refine uo h2 h4 r e λx y p1 p2 H' s r' b1 b2 e'=>?_
 obtain⟨i,j,rfl,rfl,hC,rfl⟩:=hg _ _ _ e'
 exact⟨i,j,b1.int,b2.int,hC,q _ H' s (.int _)⟩
theorem By{op:Operator}{F:Int->Int->Int}{g:PV->PV->Option PV}(ho:lK X (binaryOp op) (FL λi j=>.int (F i j)))(hg:∀p q z,g p q=some z->∃i j,p=.int i/\q=.int j/\z=.int (F i j))
  (ha:DB X κ a fa)(hb:DB X κ b fb):DE X κ (.BinOp a op b pos) (ae g fa fb):=by
 obtain⟨ta,h1,h2⟩:=ha
 obtain⟨tb,h3,h4⟩:=hb
 refine⟨_,FN ho h1 h3,λ{G A bo own ρ σ H p Q} r e q=>?_⟩
 refine uo h2 h4 r e λx y p1 p2 H' s r' b1 b2 e'=>?_
 obtain⟨i,j,rfl,rfl,rfl⟩:=hg _ _ _ e'
 exact⟨i,j,b1.int,b2.int,q _ H' s (.int _)⟩
theorem Bz(ha:DB X κ a fa)(hb:DB X κ b fb):DE X κ (.BinOp a .Sub b pos) (ae yJ fa fb):=By Mi (λp q z h=>by
 (cases p<;>first|(cases h;done)|skip)<;>cases q<;>first|(cases h;exact⟨_,_,rfl,rfl,rfl⟩)|cases h) ha hb
theorem mR(ha:DB X κ a fa)(hb:DB X κ b fb):DE X κ (.BinOp a .BitAnd b pos) (ae j9 fa fb):=By Mo (λp q z h=>by
 (cases p<;>first|(cases h;done)|skip)<;>cases q<;>first|(cases h;exact⟨_,_,rfl,rfl,rfl⟩)|cases h) ha hb
theorem P2(ha:DB X κ a fa)(hb:DB X κ b fb):DE X κ (.BinOp a .BitOr b pos) (ae Ug fa fb):=By O3 (λp q z h=>by
 (cases p<;>first|(cases h;done)|skip)<;>cases q<;>first|(cases h;exact⟨_,_,rfl,rfl,rfl⟩)|cases h) ha hb
theorem bf{α:Type}{c:Prop}[Decidable c]{x z:α}(h:(if c then some x else none)=some z):c/\x=z:=by
 split at h
 ·exact⟨by assumption,Option.some.inj h⟩
 ·cases h
theorem iE(ha:DB X κ a fa)(hb:DB X κ b fb):DE X κ (.BinOp a .FloorDiv b pos) (ae gK fa fb):=yP Jd (λp q z h=>by
 (cases p<;>first|(cases h;done)|skip)<;>cases q<;>first|(cases h;done)|skip
 obtain⟨h1,h2⟩:=bf h
 simp only[Bool.and_eq_true,decide_eq_true_eq]at h1
 exact⟨_,_,rfl,rfl,h1,h2.symm⟩) ha hb
theorem cg(ha:DB X κ a fa)(hb:DB X κ b fb):DE X κ (.BinOp a .Mod b pos) (ae cw fa fb):=yP Ml (λp q z h=>by
 (cases p<;>first|(cases h;done)|skip)<;>cases q<;>first|(cases h;done)|skip
 obtain⟨h1,h2⟩:=bf h
 simp only[Bool.and_eq_true,decide_eq_true_eq]at h1
 exact⟨_,_,rfl,rfl,h1,h2.symm⟩) ha hb
theorem BA(ha:DB X κ a fa)(hb:DB X κ b fb):DE X κ (.BinOp a .LShift b pos) (ae v7 fa fb):=yP Mm (λp q z h=>by
 (cases p<;>first|(cases h;done)|skip)<;>cases q<;>first|(cases h;done)|skip
 obtain⟨h1,h2⟩:=bf h
 simp only[r0,Bool.and_eq_true,decide_eq_true_eq]at h1
 exact⟨_,_,rfl,rfl,⟨h1.1.1,h1.1.2,h1.2⟩,h2.symm⟩) ha hb
theorem wc(ha:DB X κ a fa)(hb:DB X κ b fb):DE X κ (.BinOp a .RShift b pos) (ae r9 fa fb):=yP Mn (λp q z h=>by
 (cases p<;>first|(cases h;done)|skip)<;>cases q<;>first|(cases h;done)|skip
 obtain⟨h1,h2⟩:=bf h
 simp only[Bool.and_eq_true,decide_eq_true_eq]at h1
 exact⟨_,_,rfl,rfl,h1,h2.symm⟩) ha hb
theorem pD(ha:DB X κ a fa)(hb:DB X κ b fb):DE X κ (.BinOp a .Mult b pos) (ae pB fa fb):=yP Mj (λp q z h=>by
 (cases p<;>first|(cases h;done)|skip)<;>cases q<;>first|(cases h;done)|skip
 obtain⟨h1,h2⟩:=bf h
 simp only[yK,Bool.or_eq_true,Bool.and_eq_true,decide_eq_true_eq]at h1
 exact⟨_,_,rfl,rfl,h1,h2.symm⟩) ha hb
theorem sk(ha:DB X κ a fa):DE X κ (.UnaryOp .USub a pos) (bO mO fa):=by
 obtain⟨ta,h1,h2⟩:=ha
 refine⟨_,O1 Mp h1,λ{G A bo own ρ σ H p Q} r e q=>?_⟩
 obtain⟨p1,e1,e⟩:=Option.bind_eq_some_iff.mp e
 refine h2 r e1 λx H1 s1 b1=>?_
 cases p1<;>first|(cases e;done)|skip
 cases e
 exact⟨_,b1.int,q _ H1 s1 (.int _)⟩
theorem M6{K:PySem.W.Frag}:lK X (binaryOp .Add) (λx y H Q=>∃l b xs zs,x=.ref l/\y=.ref b/\SL X.K H l xs/\SL X.K H b zs/\xs.length+zs.length<=sizeLine/\∀p,H p=none->Q (.ref p) (upd H p (.lst (xs++zs)))):=by
 intro pins s σ H x y v u Q I rx ry h
 obtain⟨l,b,xs,zs,rfl,rfl,hH,hB,hz,q⟩:=h
 cases rx
 cases ry
 obtain⟨its,n,r,ho,z⟩:=I.sl hH
 obtain⟨me,n2,r2,RD,z2⟩:=I.sl hB
 have l1:=r.length
 have l2:=r2.length
 refine PySem.P.add_list ho RD ?_ (by rw[List.size_toArray,List.size_toArray];omega)
 have ea:its.toArray++me.toArray=(its++me).toArray:=by simp
 rw[ea]
 exact⟨.ref _,_,I.Sy (t':=s.toks) (r.append r2) (by rw[List.length_append];omega),rfl,q _ I.fresh⟩
theorem bN(ha:DB X κ a fa)(hb:DB X κ b fb):DE X κ (.BinOp a .Add b pos) (ae b9 fa fb):=by
 obtain⟨ta,h1,h2⟩:=ha
 obtain⟨tb,h3,h4⟩:=hb
 refine⟨_,FN (Mh.or (A3.or (M6 (K:=X.K)))) h1 h3,λ{G A bo own ρ σ H p Q} r e q=>?_⟩
 refine uo h2 h4 r e λx y p1 p2 H' s r' b1 b2 e'=>?_
 (cases p1<;>first|(cases e';done)|skip)<;>cases p2<;>first|(cases e';done)|skip
 ·cases e'
  exact .inl ⟨_,_,b1.int,b2.int,q _ H' s (.int _)⟩
 ·obtain⟨h1,rfl⟩:=bf e'
  exact .inr (.inl ⟨_,_,b1.str,b2.str,h1,q _ H' s (.str _)⟩)
 ·obtain⟨h1,rfl⟩:=bf e'
  obtain⟨a1,Vh,rfl,q1,w1⟩:=b1.lst ax
  obtain⟨a2,Vi,rfl,q2,w2⟩:=b2.lst ax
  refine .inr (.inr ⟨a1,a2,Vh,Vi,rfl,rfl,q1,q2,by rw[w1.length,w2.length];exact h1,λp hp=>?_⟩)
  exact q _ _ (s.trans (bM hp)) ((r'.yO hp (w1.append w2)).rep r')
noncomputable def DC(X:Cx)(κ:Kl)(op:CmpOp)(a b:Expr)(f:Den):Prop:=∃r ta tb,lK X (compareOp op) r/\PE X a ta/\PE X b tb/\PZ X.K κ (O0 r ta tb) f
theorem gL{op:CmpOp}(h:DC X κ op a b f)(hm:behindInMarks op b=false:=by first|exact FQ _|with_unfolding_all rfl):DE X κ (.Compare a [op] [b] pos) f:=
 let⟨_,_,_,h1,h2,h3,h4⟩:=h;⟨_,Je h1 h2 h3 hm,h4⟩
theorem Di{K:PySem.W.Frag}{te:TE}(h:PZ K κ te f):S7 K κ (KR te) (tV f):=λ{G A bo own ρ σ H b Q} r e q=>by
 obtain⟨p,e1,e2⟩:=Option.bind_eq_some_iff.mp e
 refine h r e1 λv H' s z=>?_
 cases p<;>first|(cases e2;done)|skip
 cases e2
 exact⟨_,z.Ey,q H' s⟩
theorem cj{op:CmpOp}(h:DC X κ op a b f)(hm:behindInMarks op b=false:=by first|exact FQ _|with_unfolding_all rfl):DT X κ (.Compare a [op] [b] pos) (tV f):=
 let⟨_,_,_,h1,h2,h3,h4⟩:=h;⟨_,Jf h1 h2 h3 hm,Di h4⟩
theorem iF(h:DE X κ e f)(he:∀whole,isTrue e X.env whole=(do let v<-whole;standAt e.pos;holding [v] (truthy v)):=by intro _;rfl):DT X κ e (tV f):=
 let⟨_,h1,h2⟩:=h;⟨_,LW h1 he,Di h2⟩
theorem M7{op:CmpOp}{F:Int->Int->Bool}{g:PV->PV->Option PV}(ho:lK X (compareOp op) (FL λi j=>.bl (F i j)))(hg:∀p q z,g p q=some z->∃i j,p=.int i/\q=.int j/\z=.bl (F i j))
  (ha:DB X κ a fa)(hb:DB X κ b fb):DC X κ op a b (ae g fa fb):=by
 obtain⟨ta,h1,h2⟩:=ha
 obtain⟨tb,h3,h4⟩:=hb
 refine⟨_,_,_,ho,h1,h3,λ{G A bo own ρ σ H p Q} r e q=>?_⟩
 refine uo h2 h4 r e λx y p1 p2 H' s r' b1 b2 e'=>?_
 obtain⟨i,j,rfl,rfl,rfl⟩:=hg _ _ _ e'
 exact⟨i,j,b1.int,b2.int,q _ H' s (.bl _)⟩
theorem yQ(ha:DB X κ a fa)(hb:DB X κ b fb):DC X κ .Lt a b (ae AW fa fb):=M7 O7 (λp q z h=>by
 (cases p<;>first|(cases h;done)|skip)<;>cases q<;>first|(cases h;exact⟨_,_,rfl,rfl,rfl⟩)|cases h) ha hb
theorem yR(ha:DB X κ a fa)(hb:DB X κ b fb):DC X κ .Gt a b (ae IS fa fb):=M7 O8 (λp q z h=>by
 (cases p<;>first|(cases h;done)|skip)<;>cases q<;>first|(cases h;exact⟨_,_,rfl,rfl,rfl⟩)|cases h) ha hb
theorem Gz(ha:DB X κ a fa)(hb:DB X κ b fb):DC X κ .GtE a b (ae OA fa fb):=M7 O9 (λp q z h=>by
 (cases p<;>first|(cases h;done)|skip)<;>cases q<;>first|(cases h;exact⟨_,_,rfl,rfl,rfl⟩)|cases h) ha hb
variable{ft fu:de}{rest:List Expr}
theorem pE(ha:DT X κ a ft):DT X κ (.UnaryOp .Not a pos) (o5 ft):=by
 obtain⟨ta,h1,h2⟩:=ha
 refine⟨_,LX h1,λ{G A bo own ρ σ H p Q} r e q=>?_⟩
 obtain⟨c,e1,rfl⟩:=Option.map_eq_some_iff.mp e
 exact h2 r e1 λH' s=>q H' s
theorem JH(ha:DT X κ a ft):DW X κ (.BoolOp .And [a] pos) ft:=let⟨_,h1,h2⟩:=ha;⟨_,pw_and1 h1,h2⟩
theorem GA(ha:DT X κ a ft):DW X κ (.BoolOp .Or [a] pos) ft:=let⟨_,h1,h2⟩:=ha;⟨_,pw_or1 h1,h2⟩
theorem M8(ha:DT X κ a ft)(hb:DW X κ (.BoolOp .And (b::rest) pos) fu):DW X κ (.BoolOp .And (a::b::rest) pos) (yg ft fu):=by
 obtain⟨ta,h1,h2⟩:=ha
 obtain⟨tb,h3,h4⟩:=hb
 refine⟨_,pw_and h1 h3,λ{G A bo own ρ σ H p Q} r e q=>?_⟩
 obtain⟨c,e1,e2⟩:=Option.bind_eq_some_iff.mp e
 refine h2 r e1 λH1 s1=>?_
 cases c with
 |true=>exact h4 (r.mono s1) e2 λH2 s2=>q H2 (s1.trans s2)
 |false=>cases e2;exact q H1 s1
theorem Dj(ha:DT X κ a ft)(hb:DW X κ (.BoolOp .Or (b::rest) pos) fu):DW X κ (.BoolOp .Or (a::b::rest) pos) (FD ft fu):=by
 obtain⟨ta,h1,h2⟩:=ha
 obtain⟨tb,h3,h4⟩:=hb
 refine⟨_,pw_or h1 h3,λ{G A bo own ρ σ H p Q} r e q=>?_⟩
 obtain⟨c,e1,e2⟩:=Option.bind_eq_some_iff.mp e
 refine h2 r e1 λH1 s1=>?_
 cases c with
 |false=>exact h4 (r.mono s1) e2 λH2 s2=>q H2 (s1.trans s2)
 |true=>cases e2;exact q H1 s1
theorem DW.t(h:DW X κ e ft):DT X κ e ft:=let⟨_,h1,h2⟩:=h;⟨_,h1.pt,h2⟩
theorem M9{op}(h:DE X κ a f):DE X κ (.BoolOp op [a] pos) f:=let⟨_,h1,h2⟩:=h;⟨_,LY h1,h2⟩
theorem JI(ha:DE X κ a fa)(hb:DE X κ (.BoolOp .And (b::rest) pos) fb):DE X κ (.BoolOp .And (a::b::rest) pos) (Li fa fb):=by
 obtain⟨ta,h1,h2⟩:=ha
 obtain⟨tb,h3,h4⟩:=hb
 refine⟨_,LZ h1 h3,λ{G A bo own ρ σ H p Q} r e q=>?_⟩
 obtain⟨x,e1,e2⟩:=Option.bind_eq_some_iff.mp e
 obtain⟨c,e3,e4⟩:=Option.bind_eq_some_iff.mp e2
 refine h2 r e1 λv H1 s1 z=>?_
 cases x<;>first|(cases e3;done)|skip
 cases e3
 refine⟨_,z.Ey,?_⟩
 cases c with
 |true=>exact h4 (r.mono s1) e4 λv H2 s2 z=>q v H2 (s1.trans s2) z
 |false=>cases e4;exact q _ H1 s1 (.bl _)
theorem JJ(ha:DE X κ a fa):DE X κ (.UnaryOp .Not a pos) (Lj fa):=by
 obtain⟨ta,h1,h2⟩:=ha
 refine⟨_,L3 h1,λ{G A bo own ρ σ H p Q} r e q=>?_⟩
 obtain⟨x,e1,e2⟩:=Option.bind_eq_some_iff.mp e
 obtain⟨c,e3,rfl⟩:=Option.map_eq_some_iff.mp e2
 refine h2 r e1 λv H1 s1 z=>?_
 cases x<;>first|(cases e3;done)|skip
 cases e3
 exact⟨_,z.Ey,q _ H1 s1 (.bl _)⟩
noncomputable def DA(X:Cx)(κ:Kl)(es:List Expr)(f:cM):Prop:=∃ta,PA X es ta/\∀{G A bo own ρ σ H ps Q},R X.K κ G A bo own ρ σ H->f ρ=some ps->(∀vs H',aH H H'->aV X.K κ (dQ A own ρ H') vs ps->Q vs H')->ta σ H Q
inductive Na(K:PySem.W.Frag)(κ:Kl)(hH H:Hp):List V->List PV->Prop
 |nil:Na K κ hH H [] []
 |cons {v:V} {p:PV} {vs:List V} {l:List PV}:BR K κ hH H v p->Na K κ hH H vs l->Na K κ hH H (v::vs) (p::l)
theorem Na.full{K:PySem.W.Frag}{hH H:Hp}(s:aH hH H):∀{vs:List V} {ps:List PV},Na K κ hH H vs ps->aV K κ H vs ps
 |_,_,.nil=>.nil
 |_,_,.cons r t=>.cons (r.full s) (Na.full s t)
noncomputable def RG(X:Cx)(κ:Kl)(es:List Expr)(f:cM):Prop:=∃ta,PA X es ta/\∀{G A bo own ρ σ H ps Q},R X.K κ G A bo own ρ σ H->f ρ=some ps->(∀vs H',aH H H'->Na X.K κ (dQ A own ρ H') H' vs ps->Q vs H')->ta σ H Q
variable{es:List Expr}{fs:cM}
theorem aG:DA X κ [] aF:=⟨_,bQ,λ{G A bo own ρ σ H ps Q} r e q=>by cases e;exact q [] H (aH.refl _) .nil⟩
theorem Dk:RG X κ [] aF:=⟨_,bQ,λ{G A bo own ρ σ H ps Q} r e q=>by cases e;exact q [] H (aH.refl _) .nil⟩
theorem af(ha:DE X κ a fa)(hr:DA X κ es fs)(hs:starEach (a::es) X.env=(false,eval a X.env)::starEach es X.env:=by rfl):DA X κ (a::es) (aa fa fs):=by
 obtain⟨ta,h1,h2⟩:=ha
 obtain⟨tb,h3,h4⟩:=hr
 refine⟨_,aP h1 h3 hs,λ{G A bo own ρ σ H ps Q} r e q=>?_⟩
 obtain⟨x,e1,e2⟩:=Option.bind_eq_some_iff.mp e
 obtain⟨xs,e3,e4⟩:=Option.bind_eq_some_iff.mp e2
 cases e4
 refine h2 r e1 λv H1 s1 z1=>h4 (r.mono s1) e3 λvs H2 s2 z2=>q _ H2 (s1.trans s2) (.cons (z1.mono (bF s2)) z2)
theorem n4(ha:DB X κ a fa)(hr:RG X κ es fs)(hs:starEach (a::es) X.env=(false,eval a X.env)::starEach es X.env:=by rfl):RG X κ (a::es) (aa fa fs):=by
 obtain⟨ta,h1,h2⟩:=ha
 obtain⟨tb,h3,h4⟩:=hr
 refine⟨_,aP h1 h3 hs,λ{G A bo own ρ σ H ps Q} r e q=>?_⟩
 obtain⟨x,e1,e2⟩:=Option.bind_eq_some_iff.mp e
 obtain⟨xs,e3,e4⟩:=Option.bind_eq_some_iff.mp e2
 cases e4
 refine h2 r e1 λv H1 s1 z1=>h4 (r.mono s1) e3 λvs H2 s2 z2=>q _ H2 (s1.trans s2) (.cons (z1.Dh s2) z2)
theorem ku(h:DA X κ es fs):DO X κ (.List es pos) (pA fs):=by
 obtain⟨ta,h1,h2⟩:=h
 refine⟨_,Ms h1,λ{G A bo own ρ σ H ps Q} r e q=>?_⟩
 obtain⟨x,e1,e2⟩:=Option.bind_eq_some_iff.mp e
 obtain⟨h3,rfl⟩:=bf e2
 refine h2 r e1 λvs H1 s1 z1=>⟨by rw[z1.length];exact h3,λp hp=>q _ _ (s1.trans (bM hp)) ?_⟩
 obtain⟨a,ws,l,w1,w2,w3,w4⟩:=(r.mono s1).yO hp z1
 refine⟨a,ws,l,w1,w2,?_,w4⟩
 cases w1
 exact s1.free hp
theorem iG{x1}(h:DA X κ es fs):DE X κ (.Tuple es x1 pos) (gf fs):=by
 obtain⟨ta,h1,h2⟩:=h
 refine⟨_,Mr h1,λ{G A bo own ρ σ H ps Q} r e q=>?_⟩
 obtain⟨x,e1,e2⟩:=Option.bind_eq_some_iff.mp e
 obtain⟨h3,rfl⟩:=bf e2
 exact h2 r e1 λvs H1 s1 z1=>⟨by rw[z1.length];exact h3,λp hp=>q _ _ (s1.trans (bM hp)) ((r.mono s1).P1 hp z1)⟩
end
noncomputable def RR(fr:Bool)(K:PySem.W.Frag)(κ:Kl)(A:Addr->Prop)(G H':Hp)(v:V)(p:PV):Prop:=if fr=true then OR K κ A G H' v p else Rep K κ (hide A H') v p
noncomputable def GB(K:PySem.W.Frag)(κ:Kl)(fr:Bool)(G:Hp)(A:Addr->Prop)(bo:Nat->Option (Addr×List V))(D:Ends):Fl->Prop
 |.nx ρ'=>∀di σ' H',R K κ G A bo di ρ' σ' H'->D.nx σ' H'
 |.bk ρ'=>∀di σ' H',R K κ G A bo di ρ' σ' H'->D.bk σ' H'
 |.ct ρ'=>∀di σ' H',R K κ G A bo di ρ' σ' H'->D.ct σ' H'
 |.rt p=>∀v H',aH G H'->RR fr K κ A G H' v p->D.rt v H'
noncomputable def IU(K:PySem.W.Frag)(κ:Kl)(fr:Bool)(ts:TS)(g:aU):Prop:=
 ∀{G A bo own ρ σ H fl D},R K κ G A bo own ρ σ H->g ρ=some fl->GB K κ fr G A bo D fl->ts D σ H
noncomputable def DS(X:Cx)(κ:Kl)(fr:Bool)(st:Stmt)(g:aU):Prop:=∃ts,PS X st ts/\IU X.K κ fr ts g
noncomputable def GC(X:Cx)(κ:Kl)(fr:Bool)(st:List Stmt)(g:aU):Prop:=∃ts,CN X st ts/\IU X.K κ fr ts g
theorem RH{K:PySem.W.Frag}{κ:Kl}{G H H':Hp}{A B:Addr->Prop}{v:V}{p:PV}(h:OR K κ B H H' v p)(s:aH G H)(Vj:∀b,A b->B b):OR K κ A G H' v p:=by
 obtain⟨a,vs,l,h1,h2,h3,h4,h5⟩:=h
 exact⟨a,vs,l,h1,h2,s.free h3,h4,h5.mono (eN (λ_ _ z=>z) λb z _=>z.imp (Vj b) id)⟩
section
variable{X:Cx}{κ:Kl}{fr:Bool}{st:Stmt}{rest:List Stmt}{g g':aU}{e a b c:Expr}{f:Den}{ft:de}{pos:Pos}
theorem cC:GC X κ fr [] cD:=⟨_,I9,λ{G A bo own ρ σ H fl D} r e k=>by cases e;exact k own σ H r⟩
theorem JK{K:PySem.W.Frag}{t u:TS}(h1:IU K κ fr t g)(h2:IU K κ fr u g'):IU K κ fr (L5 t u) (aR g g'):=λ{G A bo own ρ σ H fl D} r e k=>by
 obtain⟨f1,e1,e2⟩:=Option.bind_eq_some_iff.mp e
 refine h1 r e1 ?_
 cases f1 with
 |nx ρ'=>exact λdi σ' H' r'=>h2 r' e2 k
 |rt p=>cases e2;exact k
 |bk ρ'=>cases e2;exact k
 |ct ρ'=>cases e2;exact k
theorem ak(h1:DS X κ fr st g)(h2:GC X κ fr rest g'):GC X κ fr (st::rest) (aR g g'):=
 let⟨_,a1,a2⟩:=h1;let⟨_,b1,b2⟩:=h2;⟨_,yi a1 b1,JK a2 b2⟩
theorem aw(h1:DS X κ fr st g):GC X κ fr [st] g:=let⟨_,a1,a2⟩:=h1;⟨_,lI a1,a2⟩
theorem JL{K:PySem.W.Frag}{u:TS}(i:Nat)(h2:IU K κ fr u g):IU K κ fr u (aR (JB i) g):=λ{G A bo own ρ σ H fl D} r e k=>by
 obtain⟨f1,e1,e2⟩:=Option.bind_eq_some_iff.mp e
 unfold JB at e1
 split at e1
 ·rename_i l h
  cases e1
  obtain⟨h1,h3,vs,h4,h5⟩:=r.ow i (.l l) h
  change H (own i)=some (.lst vs)at h4
  change aV _ _ _ vs l at h5
  refine h2 (own:=own) (σ:=σ) (H:=H) ?_ e2 k
  have hi:i<ρ.length:=(List.getElem?_eq_some_iff.mp h).1
  have s1:aH (dQ A own ρ H) (dQ A own (ρ.set i (.sh (.lst l))) H):=lP
  have IT:dQ A own (ρ.set i (.sh (.lst l))) H (own i)=some (.lst vs):=by
   rw[dQ,dH]
   ·exact h4
   ·rintro(z|⟨j,m,z1,z2⟩)
    ·exact r.al _ z h3
    ·by_cases hj:i=j
     ·subst hj
      rw[List.getElem?_set,if_pos rfl,if_pos hi]at z1
      cases z1
     ·rw[List.getElem?_set,if_neg hj]at z1
      exact hj (r.inj j i _ _ z1 h z2).symm
  refine⟨r.al,r.bg,r.same,λj q e=>?_,λj m e=>?_,λj k m n e f=>?_,λj m e=>?_,by rw[List.length_set];exact r.len⟩
  ·by_cases hj:i=j
   ·subst hj
    rw[List.getElem?_set,if_pos rfl,if_pos hi]at e
    cases e
    exact⟨_,h1,.lst (SL.of IT) (h5.mono s1)⟩
   ·rw[List.getElem?_set,if_neg hj]at e
    obtain⟨v,z1,z2⟩:=r.sh j q e
    exact⟨v,z1,z2.mono s1⟩
  ·by_cases hj:i=j
   ·subst hj
    rw[List.getElem?_set,if_pos rfl,if_pos hi]at e
    cases e
   ·rw[List.getElem?_set,if_neg hj]at e
    obtain⟨z1,z2,ws,z3,z4⟩:=r.ow j m e
    exact⟨z1,z2,ws,z3,z4.mono s1⟩
  ·have ne:∀{j:Nat} {m:Cn},(ρ.set i (.sh (.lst l)))[j]?=some (.own m)->ρ[j]?=some (.own m):=λ{j m} z=>by
     rw[List.getElem?_set]at z
     split at z
     ·first|cases z|(split at z<;>cases z)
     ·exact z
   exact r.inj j k m n (ne e) (ne f)
  ·by_cases hj:i=j
   ·subst hj
    rw[List.getElem?_set,if_pos rfl,if_pos hi]at e
    cases e
   ·rw[List.getElem?_set,if_neg hj]at e
    obtain⟨b,ws,z1,z2,z3⟩:=r.bw j m e
    exact⟨b,ws,z1,z2,z3.mono s1⟩
 ·cases e1
  exact h2 r e2 k
theorem JM(i:Nat)(h:GC X κ fr rest g):GC X κ fr rest (aR (JB i) g):=let⟨_,a1,a2⟩:=h;⟨_,a1,JL i a2⟩
theorem bq(h:DE X κ e f):DS X κ false (.Return (some e) pos) (bx f):=by
 obtain⟨te,h1,h2⟩:=h
 refine⟨_,AY h1,λ{G A bo own ρ σ H fl D} r e k=>?_⟩
 obtain⟨p,e1,rfl⟩:=Option.map_eq_some_iff.mp e
 refine h2 r e1 λv H' s z=>k v H' (r.same.trans s) ?_
 exact z.mono (eN (λ_ _ q=>q) λb q _=>.inl q)
theorem n5(h:DO X κ e f):DS X κ true (.Return (some e) pos) (bx f):=by
 obtain⟨te,h1,h2⟩:=h
 refine⟨_,AY h1,λ{G A bo own ρ σ H fl D} r e k=>?_⟩
 obtain⟨p,e1,rfl⟩:=Option.map_eq_some_iff.mp e
 refine h2 r e1 λv H' s z=>k v H' (r.same.trans s) ?_
 exact RH z r.same λb q=>.inl q
theorem lQ{ρ:c8}{i:Nat}{l:List PV}(h:JC ρ i=some l):ρ[i]?=some (.ow l):=by
 unfold JC at h
 split at h
 ·rename_i l' e
  cases h
  exact e
 ·cases h
theorem Dl(i:Nat){x:Str}{p':Pos}(hN:X.N[i]?=some x:=by rfl)(hv:KL X.env.scope x:=by first|exact Or.inl rfl|exact Or.inr (Or.inl rfl)|exact Or.inr (Or.inr rfl))(hd:(x==("__debug__" :Str))=false:=by decide)
  (ud:(x==("__classdict__" :Str))=false:=by decide):DS X κ true (.Return (some (.Name x p')) pos) (Dd i):=by
 refine⟨_,AY (o4 hN hv hd ud),λ{G A bo own ρ σ H fl D} r e k=>?_⟩
 obtain⟨l,e1,rfl⟩:=Option.map_eq_some_iff.mp e
 obtain⟨h1,h3,vs,h4,h5⟩:=r.ow i (.l l) (lQ e1)
 change H (own i)=some (.lst vs)at h4
 change aV _ _ _ vs l at h5
 refine⟨_,h1,k _ H r.same ?_⟩
 exact⟨own i,vs,l,rfl,rfl,h3,h4,h5.mono (eN (λ_ _ z=>z) λb z _=>by
  rcases z with z|z
  ·exact .inl z
  ·exact .inr ⟨i,.l l,lQ e1,z.symm⟩)⟩
theorem dY{sa sb:List Stmt}(hc:DT X κ c ft)(ha:GC X κ fr sa g)(hb:GC X κ fr sb g'):DS X κ fr (.If c sa sb pos) (jo ft g g'):=by
 obtain⟨tc,h5,h6⟩:=hc
 obtain⟨ta,h1,h2⟩:=ha
 obtain⟨tb,h3,h4⟩:=hb
 refine⟨_,OU h5 h1 h3,λ{G A bo own ρ σ H fl D} r e k=>?_⟩
 obtain⟨c,e1,e2⟩:=Option.bind_eq_some_iff.mp e
 refine h6 r e1 λH1 s1=>?_
 cases c with
 |true=>exact h2 (r.mono s1) e2 k
 |false=>exact h4 (r.mono s1) e2 k
theorem ba(i:Nat){x:Str}{p':Pos}(hN:X.N.Nodup)(h:DE X κ e f)(hi:X.N[i]?=some x:=by rfl)(hx:Loc X.env.scope x:=by first|exact Or.inl rfl|exact Or.inr rfl)(hs:swapsWith e (some (.Name x p')) pos.line X.env=pure false:=by rfl)
  (hf:X.fn x=true\/X.env.scope.names.lookup x=some .local:=by first|exact .inl rfl|exact .inr rfl):DS X κ fr (.Assign [.Name x p'] e pos) (bK i f):=by
 obtain⟨te,h1,h2⟩:=h
 refine⟨_,FH hN hi hx h1 hs hf,λ{G A bo own ρ σ H fl D} r e k=>?_⟩
 obtain⟨p,e1,rfl⟩:=Option.map_eq_some_iff.mp e
 exact h2 r e1 λv H' s z=>k _ _ _ ((r.mono s).set z)
theorem R.P4{K:PySem.W.Frag}{G H H':Hp}{A:Addr->Prop}{bo:Nat->Option (Addr×List V)}{own:Nat->Addr}{ρ:c8}{σ:St}(r:R K κ G A bo own ρ σ H)(s:aH H H'){i:Nat}{v:V}{l:List PV}(z:OR K κ (dI A own ρ) H H' v (.lst l)):
  ∃di,R K κ G A bo di (ρ.set i (.ow l)) (σ.set i (some v)) H':=by
 obtain⟨a,vs,l',rfl,z2,h3,h4,h5⟩:=z
 cases z2
 refine⟨_,r.PX (r.same.free h3) (λq=>r.new h3 (.inl q)) (λj m e _ q=>r.new h3 (.inr ⟨j,m,e,q⟩)) ?_ (λb o q _=>s b o q) h4 h5⟩
 exact eN s λb w nz=>by
  rcases w with w|w
  ·exact w
  ·rw[w]at nz
   exact absurd h3 nz
theorem lR(i:Nat){x:Str}{p':Pos}(hN:X.N.Nodup)(h:DO X κ e f)(hi:X.N[i]?=some x:=by rfl)(hx:Loc X.env.scope x:=by first|exact Or.inl rfl|exact Or.inr rfl)(hs:swapsWith e (some (.Name x p')) pos.line X.env=pure false:=by rfl)
  (hf:X.fn x=true\/X.env.scope.names.lookup x=some .local:=by first|exact .inl rfl|exact .inr rfl):DS X κ fr (.Assign [.Name x p'] e pos) (jY i f):=by
 obtain⟨te,h1,h2⟩:=h
 refine⟨_,FH hN hi hx h1 hs hf,λ{G A bo own ρ σ H fl D} r e k=>?_⟩
 obtain⟨p,e1,e2⟩:=Option.bind_eq_some_iff.mp e
 obtain⟨l,e3,rfl⟩:=Option.map_eq_some_iff.mp e2
 refine h2 r e1 λv H' s z=>?_
 cases p<;>first|(cases e3;done)|skip
 cases e3
 obtain⟨di,r'⟩:=r.P4 s (i:=i) z
 exact k _ _ _ r'
theorem R.S8{K:PySem.W.Frag}{G H:Hp}{A:Addr->Prop}{bo:Nat->Option (Addr×List V)}{own:Nat->Addr}{ρ:c8}{σ:St}(r:R K κ G A bo own ρ σ H){i:Nat}{l l':Cn}{ws:List V}(h:ρ[i]?=some (.own l))(q:aV K κ (dQ A own ρ H) ws (M5 l')):
  ∃di,R K κ G A bo di (ρ.set i (.own l')) σ (upd H (own i) (Gx l' ws)):=by
 obtain⟨h1,h3,vs,h4,h5⟩:=r.ow i l h
 have e:σ.set i (some (.ref (own i)))=σ:=by
  obtain⟨hl,hx⟩:=List.getElem?_eq_some_iff.mp h1
  rw[<-hx]
  exact List.set_getElem_self hl
 have hs:dI A own ρ (own i):=.inr ⟨i,l,h,rfl⟩
 have he:hide (λb=>dI A own ρ b\/b=own i) (upd H (own i) (Gx l' ws))=dQ A own ρ H:=by
  rw[yN (.inr rfl)]
  congr 1
  funext b
  refine propext ⟨λz=>?_,.inl⟩
  rcases z with z|z
  ·exact z
  ·rw[z]
   exact hs
 have:=r.PX (i:=i) (a:=own i) (vs:=ws) (l:=l') (H1:=upd H (own i) (Gx l' ws)) h3 (λz=>r.al _ z h3) (λj m e' hj z=>hj (r.inj j i _ _ e' h z)) (by rw[he];exact λ_ _ z=>z) (λb o z hb=>by rw[aZ hb];exact z) bE (by rw[he];exact q)
 rw[e]at this
 exact⟨_,this⟩
noncomputable def Lm(K:PySem.W.Frag)(κ:Kl)(rm:V->List V->Hp->VK->Prop)(gm:List PV->List PV->Option (List PV)):Prop:=
 ∀{hH H:Hp} {a:Addr} {vs ws:List V} {l xs l':List PV} {Q:VK},aH hH H->H a=some (.lst vs)->aV K κ hH vs l->aV K κ hH ws xs->gm l xs=some l'->(∀us,aV K κ hH us l'->Q .non (upd H a (.lst us)))->rm (.ref a) ws H Q
theorem R.mut{K:PySem.W.Frag}{G H:Hp}{A:Addr->Prop}{bo:Nat->Option (Addr×List V)}{own:Nat->Addr}{ρ:c8}{σ:St}(r:R K κ G A bo own ρ σ H){i:Nat}{l l':List PV}{ws:List V}(h:ρ[i]?=some (.ow l))(q:aV K κ (dQ A own ρ H) ws l'):
 ∃di,R K κ G A bo di (ρ.set i (.ow l')) σ (upd H (own i) (.lst ws)):=r.S8 (l:=.l l) (l':=.l l') h q
theorem JN{K:PySem.W.Frag}{rm:V->List V->Hp->VK->Prop}{gm:List PV->List PV->Option (List PV)}{fs:cM}{ta:TA}(i:Nat)(hg:Lm K κ rm gm)
  (ha:∀{G A bo own ρ σ H ps Q},R K κ G A bo own ρ σ H->fs ρ=some ps->(∀vs H',aH H H'->aV K κ (dQ A own ρ H') vs ps->Q vs H')->ta σ H Q):IU K κ fr (yj (TL K "list" rm (l8 i) ta)) (mQ i gm fs):=λ{G A bo own ρ σ H fl D} r e k=>by
 obtain⟨xs,e1,e2⟩:=Option.bind_eq_some_iff.mp e
 obtain⟨l,e3,e4⟩:=Option.bind_eq_some_iff.mp e2
 obtain⟨l',e5,rfl⟩:=Option.map_eq_some_iff.mp e4
 have Ld:=lQ e3
 obtain⟨h1,h3,vs,h4,h5⟩:=r.ow i (.l l) Ld
 change H (own i)=some (.lst vs)at h4
 change aV _ _ _ vs l at h5
 refine⟨_,h1,.inl ⟨rfl,vs,gD.of h4⟩,ha r e1 λws H2 s2 z2=>?_⟩
 refine hg ax (s2 _ _ h4) (h5.mono (bF s2)) z2 e5 λus z=>?_
 obtain⟨di,r'⟩:=(r.mono s2).mut Ld z
 exact k _ _ _ r'
theorem GD{K:PySem.W.Frag}{rm:V->List V->Hp->VK->Prop}{gm:List PV->List PV->Option (List PV)}(i:Nat)(hg:Lm K κ rm gm):IU K κ fr (yj (Pq K "list" rm (l8 i))) (mQ i gm aF):=λ{G A bo own ρ σ H fl D} r e k=>by
 obtain⟨xs,e1,e2⟩:=Option.bind_eq_some_iff.mp e
 obtain⟨l,e3,e4⟩:=Option.bind_eq_some_iff.mp e2
 obtain⟨l',e5,rfl⟩:=Option.map_eq_some_iff.mp e4
 have Ld:=lQ e3
 obtain⟨h1,h3,vs,h4,h5⟩:=r.ow i (.l l) Ld
 change H (own i)=some (.lst vs)at h4
 change aV _ _ _ vs l at h5
 cases e1
 refine⟨_,h1,.inl ⟨rfl,vs,gD.of h4⟩,?_⟩
 refine hg ax h4 h5 .nil e5 λus z=>?_
 obtain⟨di,r'⟩:=r.mut Ld z
 exact k _ _ _ r'
theorem jf{x:Str}{p' apos ie:Pos}{ee:Expr}{fs:cM}(i:Nat)(ha:DA X κ [ee] fs)(hN:X.N[i]?=some x:=by rfl)(hv:KL X.env.scope x:=by first|exact Or.inl rfl|exact Or.inr (Or.inl rfl)|exact Or.inr (Or.inr rfl))(hd:(x==("__debug__" :Str))=false:=by decide)
  (ud:(x==("__classdict__" :Str))=false:=by decide)(fF:attributeBase (.Name x p') "append" X.env (eval (.Name x p') X.env)=eval (.Name x p') X.env:=by rfl)
  (rP:((backTo ie (starEach [ee] X.env)).all (λx=>!x.1)&&(backToKw ie (keywordEach [] X.env)).all (λx=>x.1.isSome)
    &&decide ([ee].length+([]:List Keyword).length+(if([]:List Keyword).isEmpty then 0 else 1)<30))=true:=by rfl)
  (hs:swapsWith (.Call (.Attribute (.Name x p') "append" apos) [ee] [] ie) none pos.line X.env=pure false:=by rfl)(fG:(apos.endLine==ie.line)=true:=by rfl)(AZ:starEach [ee] X.env=(false,eval ee X.env)::starEach [] X.env:=by rfl):
  DS X κ fr (.Expr (.Call (.Attribute (.Name x p') "append" apos) [ee] [] ie) pos) (mQ i eJ fs):=by
 obtain⟨ta,h1,h2⟩:=ha
 refine⟨_,nP (F3 PySem.F.plainAttrs_list PySem.F.slot_list_append PySem.F.type_list_append El (o4 hN hv hd ud) h1 fF rP fG AZ rfl) hs,JN i ?_ h2⟩
 intro hH H a vs ws l xs l' Q s h3 h4 h5 h6 q
 unfold eJ at h6
 split at h6
 ·obtain⟨h7,rfl⟩:=bf h6
  cases h5 with
  |cons z t=>
   cases t
   exact⟨a,vs,_,rfl,rfl,h3,by rw[h4.length];exact h7,q _ (h4.append (.cons z .nil))⟩
 ·cases h6
theorem yS{x:Str}{p' apos ie:Pos}(i:Nat)(hN:X.N[i]?=some x:=by rfl)(hv:KL X.env.scope x:=by first|exact Or.inl rfl|exact Or.inr (Or.inl rfl)|exact Or.inr (Or.inr rfl))(hd:(x==("__debug__" :Str))=false:=by decide)
  (ud:(x==("__classdict__" :Str))=false:=by decide)(fF:attributeBase (.Name x p') "clear" X.env (eval (.Name x p') X.env)=eval (.Name x p') X.env:=by rfl)
  (hs:swapsWith (.Call (.Attribute (.Name x p') "clear" apos) [] [] ie) none pos.line X.env=pure false:=by rfl)(fG:(apos.endLine==ie.line)=true:=by rfl):
  DS X κ fr (.Expr (.Call (.Attribute (.Name x p') "clear" apos) [] [] ie) pos) (mQ i Bu aF):=by
 refine⟨_,nP (F2 PySem.F.plainAttrs_list PySem.F.slot_list_clear PySem.F.type_list_clear F4 (o4 hN hv hd ud) fF fG) hs,GD i ?_⟩
 intro hH H a vs ws l xs l' Q s h3 h4 h5 h6 q
 cases h5 with
 |cons _ _=>cases h6
 |nil=>
  cases h6
  exact⟨a,vs,rfl,rfl,h3,q [] .nil⟩
end
noncomputable def yT(K:PySem.W.Frag)(κ:Kl)(Gs:Hp)(A:Addr->Prop)(J:It)(ps:List PV):Prop:=
 ∀(i:Nat) (H2:Hp),aH Gs H2->(∀p,ps[i]?=some p->J.go i H2/\∀x H3,J.yld i H2 x H3->aH H2 H3/\∀B:Addr->Prop,(∀b,B b->H2 b≠none)->aH (hide A Gs) (hide B H2)->Rep K κ (hide B H3) x p)/\(ps.length<=i->J.stop i H2)
noncomputable def DI(X:Cx)(κ:Kl)(tg iter:Expr)(f:cM):Prop:=∃wi,PI X tg iter wi/\∀{G A bo own ρ σ H ps Q},R X.K κ G A bo own ρ σ H->f ρ=some ps->(∀J H',aH H H'->yT X.K κ (IT own ρ H') A J ps->Q J H')->wi σ H Q
noncomputable def Nb(X:Cx)(κ:Kl)(tg iter:Expr)(f:cM):Prop:=∃wi,PI X tg iter wi/\∀{G A bo own ρ σ H ps Q},R X.K κ G A bo own ρ σ H->f ρ=some ps->(∀J H',aH H H'->yT X.K κ H' (dI A own ρ) J ps->Q J H')->wi σ H Q
noncomputable def DG(X:Cx)(κ:Kl)(tg:Expr)(g:tZ):Prop:=∃tt,PG X tg tt/\∀{G A bo own ρ σ H p v ρ' Q},R X.K κ G A bo own ρ σ H->Rep X.K κ (dQ A own ρ H) v p->g p ρ=some ρ'->(∀di σ',R X.K κ G A bo di ρ' σ' H->aH (dQ A own ρ H) (dQ A di ρ' H)->Q σ' H)->tt v σ H Q
section
variable{K:PySem.W.Frag}{κ:Kl}{Gs:Hp}{A:Addr->Prop}{a:Addr}{vs:List V}{l:List PV}
theorem vh(h:SL K Gs a vs)(q:aV K κ (hide A Gs) vs l):yT K κ Gs A (Se K a) l:=λi H2 s=>by
 have h2:gD K H2 a vs:=(s.sl h).sq
 refine⟨λp e=>?_,λhl=>⟨vs,h2,by rw[q.length];exact hl⟩⟩
 obtain⟨v,e1,r1⟩:=q.get e
 refine⟨⟨vs,v,h2,e1⟩,λx H3 ⟨y1,y2⟩=>?_⟩
 subst y1
 have:=y2 vs h2
 rw[e1]at this
 cases this
 exact⟨aH.refl _,λB _ sb=>r1.mono sb⟩
theorem GF(h:ke K Gs a vs)(q:aV K κ (hide A Gs) vs l):yT K κ Gs A (Sf K a) l:=λi H2 s=>by
 have h2:ke K H2 a vs:=sj s h
 refine⟨λp e=>?_,λhl=>⟨vs,h2,by rw[q.length];exact hl⟩⟩
 obtain⟨v,e1,r1⟩:=q.get e
 refine⟨⟨vs,v,h2,e1⟩,λx H3 ⟨y1,y2⟩=>?_⟩
 subst y1
 have:=y2 vs h2
 rw[e1]at this
 cases this
 exact⟨aH.refl _,λB _ sb=>r1.mono sb⟩
theorem BB{lo:Int}{n i:Nat}{p:PV}(h:(fN lo n)[i]?=some p):i<n/\p=.int (lo+(i:Nat)):=by
 unfold fN at h
 rw[List.getElem?_map]at h
 obtain⟨k,h1,rfl⟩:=Option.map_eq_some_iff.mp h
 obtain⟨h2,h3⟩:=List.getElem?_eq_some_iff.mp h1
 rw[List.getElem_range]at h3
 subst h3
 exact⟨by simpa using h2,rfl⟩
theorem sr{lo:Int}{n:Nat}:yT K κ Gs A (OY lo n) (fN lo n):=λi H2 s=>by
 refine⟨λp e=>?_,λhl=>show n<=i by simpa[fN]using hl⟩
 obtain⟨h1,rfl⟩:=BB e
 refine⟨h1,λx H3 ⟨y1,y2⟩=>?_⟩
 subst y1 y2
 exact⟨aH.refl _,λB _ _=>.int _⟩
end
section
variable{X:Cx}{κ:Kl}{fr:Bool}{g:aU}{e a b c tg iter:Expr}{f fa fb:Den}{ft:de}{pos:Pos}{fi:cM}{gt gu:tZ}{body:List Stmt}
theorem wd{A:Addr->Prop}{own:Nat->Addr}{ρ:c8}{H:Hp}:aH (dQ A own ρ H) (IT own ρ H):=by
 rw[<-nZ]
 exact ax
theorem we(h:DE X κ e f):DI X κ tg e (nList f):=by
 obtain⟨te,h1,h2⟩:=h
 refine⟨_,CP h1,λ{G A bo own ρ σ H ps Q} r e q=>?_⟩
 obtain⟨p,e1,e2⟩:=Option.bind_eq_some_iff.mp e
 refine h2 r e1 λv H' s z=>?_
 cases p<;>first|(cases e2;done)|skip
 cases e2
 cases z with
 |lst q1 q2=>exact⟨_,rfl,⟨_,((ax (A:=dI A own ρ)).sl q1).sq⟩,q _ H' s (vh (wd.sl q1) (by rw[nZ];exact q2))⟩
theorem dZ(h:DB X κ e f):Nb X κ tg e (nList f):=by
 obtain⟨te,h1,h2⟩:=h
 refine⟨_,CP h1,λ{G A bo own ρ σ H ps Q} r e q=>?_⟩
 obtain⟨p,e1,e2⟩:=Option.bind_eq_some_iff.mp e
 refine h2 r e1 λv H' s z=>?_
 cases p<;>first|(cases e2;done)|skip
 cases e2
 obtain⟨a,vs,rfl,q1,q2⟩:=z.lst ax
 exact⟨_,rfl,⟨_,q1.sq⟩,q _ H' s (vh q1 q2)⟩
theorem Dm(h:DB X κ e f):Nb X κ tg e (Ez f):=by
 obtain⟨te,h1,h2⟩:=h
 refine⟨_,Ma h1,λ{G A bo own ρ σ H ps Q} r e q=>?_⟩
 obtain⟨p,e1,e2⟩:=Option.bind_eq_some_iff.mp e
 refine h2 r e1 λv H' s z=>?_
 cases p<;>first|(cases e2;done)|skip
 cases e2
 obtain⟨a,vs,rfl,q1,q2⟩:=z.tup ax
 exact⟨_,rfl,⟨_,q1⟩,q _ H' s (GF q1 q2)⟩
theorem P5{K:PySem.W.Frag}{te:TE}(h2:P0 K κ te f){G A bo own ρ σ H ps}{Q:It->Hp->Prop}(r:R K κ G A bo own ρ σ H)(e:dX f ρ=some ps)(q:∀n H',aH H H'->ps=fN 0 n->Q (OY 0 n) H'):KQ (jW te yk) σ H Q:=by
 obtain⟨p,e1,e2⟩:=Option.bind_eq_some_iff.mp e
 obtain⟨j,e3,e4⟩:=Option.bind_eq_some_iff.mp e2
 obtain⟨h3,h4⟩:=bf e4
 simp only[ve,Bool.and_eq_true,decide_eq_true_eq]at h3
 refine h2 r e1 λv H' s z=>?_
 cases p<;>first|(cases e3;done)|skip
 cases e3
 exact⟨_,by rw[z.int],h3.1,h3.2,q _ H' s h4.symm⟩
theorem ra{p pos:Pos}(h:DB X κ a f)(hm:X.mg "range" =none)(hg:Gl X "range" :=by rfl)(hs:starEach [a] X.env=[(false,eval a X.env)]:=by rfl):DI X κ tg (.Call (.Name "range" p) [a] [] pos) (dX f):=by
 obtain⟨te,h1,h2⟩:=h
 exact⟨_,uU hg hm (aP h1 bQ hs) hs,λ{G A bo own ρ σ H ps Q} r e q=>P5 h2 r e λn H' s e'=>q _ H' s (by rw[e'];exact sr)⟩
theorem su{p pos:Pos}(h:DB X κ a f)(hm:X.mg "range" =none)(hg:Gl X "range" :=by rfl)(hs:starEach [a] X.env=[(false,eval a X.env)]:=by rfl):Nb X κ tg (.Call (.Name "range" p) [a] [] pos) (dX f):=by
 obtain⟨te,h1,h2⟩:=h
 exact⟨_,uU hg hm (aP h1 bQ hs) hs,λ{G A bo own ρ σ H ps Q} r e q=>P5 h2 r e λn H' s e'=>q _ H' s (by rw[e'];exact sr)⟩
theorem dJ(i:Nat){x:Str}(hN:X.N.Nodup)(hi:X.N[i]?=some x:=by rfl)(hx:Loc X.env.scope x:=by first|exact Or.inl rfl|exact Or.inr rfl)(hf:X.fn x=true\/X.env.scope.names.lookup x=some .local:=by first|exact .inl rfl|exact .inr rfl):DG X κ (.Name x pos) (a9 i):=
 ⟨_,Ja hN hi hx hf,λ{G A bo own ρ σ H p v ρ' Q} r z e q=>by cases e;exact q _ _ (r.set z) lP⟩
theorem JO{k:Nat}(ha:DG X κ a gt)(hb:DG X κ b gu)(hc:X.calm=true:=by rfl)(hs:(assignEach [a,b] X.env).map (·.2)=assign a X.env::(assignEach [b] X.env).map (·.2):=by rfl)(ug:(assignEach [b] X.env).map (·.2)=assign b X.env::(assignEach [] X.env).map (·.2):=by rfl)
  (hn:(assignEach [a,b] X.env).length=2:=by rfl)(AZ:(assignEach [a,b] X.env).findIdx? (·.1)=none:=by rfl):DG X κ (.Tuple [a,b] k pos) (kn gt gu):=by
 obtain⟨ta,h1,h2⟩:=ha
 obtain⟨tb,h3,h4⟩:=hb
 refine⟨_,FG hc (rK h1 (rK h3 CO ug) hs) hn AZ,λ{G A bo own ρ σ H p v ρ' Q} r z e q=>?_⟩
 unfold kn at e
 split at e
 ·rename_i x y
  obtain⟨ρ1,e1,e2⟩:=Option.bind_eq_some_iff.mp e
  cases z with
  |tup q1 q2=>
   cases q2 with
   |cons r1 q2=>
    cases q2 with
    |cons r2 q2=>
     cases q2
     refine⟨_,_,rfl,sj (ax (A:=dI A own ρ)) q1,rfl,_,_,rfl,h2 r r1 e1 λdi σ' r' s'=>?_⟩
     exact⟨_,_,rfl,h4 r' (r2.mono s') e2 λsv σ2 r3 s3=>⟨rfl,q sv σ2 r3 (s'.trans s3)⟩⟩
 ·cases e
end
section
variable{K:PySem.W.Frag}{κ:Kl}{fr:Bool}{gb:aU}{ft:de}{gt:tZ}{fi:cM}
theorem EC{g:tZ}{body:aU}{x:PV}{xs:List PV}{ρ:c8}{fl:Fl}(h:forL g body (x::xs) ρ=some fl):∃ρ1 f,g x ρ=some ρ1/\body ρ1=some f/\(match f with
  |.nx ρ'=>forL g body xs ρ'
  |.ct ρ'=>forL g body xs ρ'
  |.bk ρ'=>some (.nx ρ')
  |.rt p=>some (.rt p))=some fl:=by
 unfold forL at h
 obtain⟨ρ1,e1,e2⟩:=Option.bind_eq_some_iff.mp h
 obtain⟨f,e3,e4⟩:=Option.bind_eq_some_iff.mp e2
 exact⟨ρ1,f,e1,e3,e4⟩
theorem ED{J:It}{ps:List PV}{G:Hp}{A:Addr->Prop}{bo:Nat->Option (Addr×List V)}{tg:TG}{tb:TS}{D:Ends}{own:Nat->Addr}{ρ:c8}{σ:St}{H:Hp}{fl:Fl}
  (hI:yT K κ G A J ps)(hg:∀{own ρ σ H p v ρ' Q},R K κ G A bo own ρ σ H->Rep K κ (dQ A own ρ H) v p->gt p ρ=some ρ'->(∀di σ',R K κ G A bo di ρ' σ' H->aH (dQ A own ρ H) (dQ A di ρ' H)->Q σ' H)->tg v σ H Q)
  (hb:IU K κ fr tb gb)(r:R K κ G A bo own ρ σ H)(e:forL gt gb ps ρ=some fl)(k:GB K κ fr G A bo D fl):
  ∃W:Nat->Nat->St->Hp->Prop,(∃m,W 0 m σ H)/\∀i m σ H,W i m σ H->
   (J.stop i H/\D.nx σ H)\/(J.go i H/\∃N:St->Hp->Prop,(∀σ' H',N σ' H'->∃m',m'<m/\W (i+1) m' σ' H')/\∀x H',J.yld i H x H'->tg x σ H' λσ2 H2=>tb {D with nx:=N,ct:=N,bk:=D.nx} σ2 H2):=by
 refine⟨λi m σ H=>m=ps.length-i/\i<=ps.length/\∃own ρ,R K κ G A bo own ρ σ H/\forL gt gb (ps.drop i) ρ=some fl,⟨ps.length,by simp,Nat.zero_le _,own,ρ,r,by simpa using e⟩,?_⟩
 rintro i m σ H ⟨rfl,hi,own,ρ,r,e⟩
 obtain⟨h1,h2⟩:=hI i H r.same
 by_cases jX:i<ps.length
 ·rw[List.drop_eq_getElem_cons jX]at e
  obtain⟨ρ1,f,e1,e3,e4⟩:=EC e
  obtain⟨h3,h4⟩:=h1 ps[i] (List.getElem?_eq_getElem jX)
  refine .inr ⟨h3,λσ' H'=>i+1<=ps.length/\∃own ρ,R K κ G A bo own ρ σ' H'/\forL gt gb (ps.drop (i+1)) ρ=some fl,λσ' H' ⟨q0,q⟩=>⟨ps.length-(i+1),by omega,rfl,q0,q⟩,λx H' y=>?_⟩
  obtain⟨s,q⟩:=h4 x H' y
  have r1:=r.mono s
  refine hg r1 (q (dI A own ρ) (λb hb=>r.PU hb) r.JF) e1 λdi σ' r2 _=>?_
  refine hb r2 e3 ?_
  cases f with
  |nx ρ'=>exact λsv σ2 H2 r3=>⟨jX,sv,ρ',r3,e4⟩
  |ct ρ'=>exact λsv σ2 H2 r3=>⟨jX,sv,ρ',r3,e4⟩
  |bk ρ'=>cases e4;exact k
  |rt p=>cases e4;exact k
 ·have hn:ps.drop i=[]:=List.drop_eq_nil_of_le (by omega)
  rw[hn]at e
  cases e
  exact .inl ⟨h2 (by omega),k own σ H r⟩
theorem GB.small{G G':Hp}{A:Addr->Prop}{bo:Nat->Option (Addr×List V)}{D:Ends}{fl:Fl}(k:GB K κ fr G A bo D fl)(s:aH G G')(al:∀b,A b->G b≠none)(bg:∀i a vs,bo i=some (a,vs)->G a=some (.lst vs)):GB K κ fr G' A bo D fl:=by
 cases fl with
 |nx ρ'=>exact λdi σ' H' r=>k di σ' H' (r.small s al bg)
 |bk ρ'=>exact λdi σ' H' r=>k di σ' H' (r.small s al bg)
 |ct ρ'=>exact λdi σ' H' r=>k di σ' H' (r.small s al bg)
 |rt p=>
  intro v H' s' q
  refine k v H' (s.trans s') ?_
  unfold RR at q⊢
  split
  ·rename_i h
   rw[if_pos h]at q
   exact RH q s λb z=>z
  ·rename_i h
   rw[if_neg h]at q
   exact q
end
section
variable{X:Cx}{κ:Kl}{fr:Bool}{g:aU}{e a b c tg iter:Expr}{f fa fb:Den}{ft:de}{pos:Pos}{fi:cM}{gt gu:tZ}{body:List Stmt}
theorem kv(hi:DI X κ tg iter fi)(hg:DG X κ tg gt)(hb:GC X κ fr body g)(hp:PassesOwn (model X.prog X.w) X.A X.env X.xe:=by exact PassesOwn.never)(hc:X.calm=true:=by rfl)(hs:∀x,foldedSetIterable iter X.env x=pure x:=by intro _;rfl):DS X κ fr (.For tg iter body [] pos) (ko fi gt g):=by
 obtain⟨wi,h1,h2⟩:=hi
 obtain⟨tt,h3,h4⟩:=hg
 obtain⟨tb,h5,h6⟩:=hb
 refine⟨_,Mb hp hc h1 h3 h5 hs,λ{G A bo own ρ σ H fl D} r e k=>?_⟩
 obtain⟨ps,e1,e2⟩:=Option.bind_eq_some_iff.mp e
 refine h2 r e1 λJ H' s hI=>?_
 have r1:=r.mono s
 exact ED hI h4 h6 r1.big e2 (k.small r1.gv r1.al r1.bg)
theorem GG(n:Nat)(hc:DT X κ c ft)(hb:GC X κ fr body g)(hp:PassesOwn (model X.prog X.w) X.A X.env X.xe:=by exact PassesOwn.never):DS X κ fr (.While c body [] pos) (eW ft g n):=by
 obtain⟨tc,h1,h2⟩:=hc
 obtain⟨tb,h3,h4⟩:=hb
 refine⟨_,FI hp h1 h3,λ{G A bo own ρ σ H fl D} r e k=>?_⟩
 refine⟨λm σ H=>∃own ρ,R X.K κ G A bo own ρ σ H/\eW ft g m ρ=some fl,⟨n,own,ρ,r,e⟩,?_⟩
 rintro m σ H ⟨own,ρ,r,e⟩
 cases m with
 |zero=>cases e
 |succ m=>
  unfold eW at e
  obtain⟨c,e1,e2⟩:=Option.bind_eq_some_iff.mp e
  refine h2 r e1 λH1 s1=>?_
  cases c with
  |false=>
   cases e2
   exact k own σ H1 (r.mono s1)
  |true=>
   obtain⟨f,e3,e4⟩:=Option.bind_eq_some_iff.mp e2
   refine⟨λσ' H'=>∃own ρ,R X.K κ G A bo own ρ σ' H'/\eW ft g m ρ=some fl,λσ' H' q=>⟨m,Nat.lt_succ_self m,q⟩,?_⟩
   refine h4 (r.mono s1) e3 ?_
   cases f with
   |nx ρ'=>exact λsv σ2 H2 r3=>⟨sv,ρ',r3,e4⟩
   |ct ρ'=>exact λsv σ2 H2 r3=>⟨sv,ρ',r3,e4⟩
   |bk ρ'=>cases e4;exact k
   |rt p=>cases e4;exact k
end
noncomputable def OC(K:PySem.W.Frag)(κ:Kl)(f:Den):TE:=λσ H Q=>∃G A bo own ρ p,R K κ G A bo own ρ σ H/\f ρ=some p/\∀v H',aH H H'->Rep K κ (dQ A own ρ H') v p->Q v H'
noncomputable def OD(K:PySem.W.Frag)(κ:Kl)(f:de):TT:=λσ H Q=>∃G A bo own ρ b,R K κ G A bo own ρ σ H/\f ρ=some b/\∀H',aH H H'->Q b H'
theorem DE.pe{X:Cx}{κ:Kl}{e:Expr}{f:Den}(h:DE X κ e f):PE X e (OC X.K κ f):=λpins s σ H Q I ⟨_,_,_,_,_,_,r,e,q⟩=>let⟨_,h1,h2⟩:=h;h1 pins s σ H Q I (h2 r e q)
theorem DT.pt{X:Cx}{κ:Kl}{e:Expr}{f:de}(h:DT X κ e f):PT X e (OD X.K κ f):=λpins s σ H Q I ⟨_,_,_,_,_,_,r,e,q⟩=>let⟨_,h1,h2⟩:=h;h1 pins s σ H Q I (h2 r e q)
noncomputable def S9{α:Type}(f:Nat->α)(d:α):Nat->α
 |0=>d
 |i+1=>f i
section
variable{K:PySem.W.Frag}{κ:Kl}{G H:Hp}{A:Addr->Prop}{bo:Nat->Option (Addr×List V)}{own:Nat->Addr}{ρ:c8}{σ:St}{v:V}{p:PV}
theorem lT:dI A (S9 own 0) (.sh p::ρ)=dI A own ρ:=by
 funext b
 refine propext ⟨λz=>?_,λz=>?_⟩
 ·rcases z with z|⟨j,m,z1,z2⟩
  ·exact .inl z
  ·cases j with
   |zero=>simp at z1
   |succ j=>exact .inr ⟨j,m,by simpa using z1,z2⟩
 ·rcases z with z|⟨j,m,z1,z2⟩
  ·exact .inl z
  ·exact .inr ⟨j+1,m,by simpa using z1,z2⟩
theorem R.cons(r:R K κ G A bo own ρ σ H)(z:Rep K κ (dQ A own ρ H) v p):R K κ G A (S9 bo none) (S9 own 0) (.sh p::ρ) (some v::σ) H where
 al:=r.al
 bg:=λi a vs e=>by
  cases i with
  |zero=>cases e
  |succ i=>exact r.bg i a vs e
 same:=r.same
 sh:=λi q e=>by
  rw[dQ,lT]
  cases i with
  |zero=>
   simp at e
   subst e
   exact⟨v,rfl,z⟩
  |succ i=>exact r.sh i q (by simpa using e)
 ow:=λi l e=>by
  rw[dQ,lT]
  cases i with
  |zero=>simp at e
  |succ i=>exact r.ow i l (by simpa using e)
 inj:=λi j l m e f q=>by
  cases i with
  |zero=>simp at e
  |succ i=>
   cases j with
   |zero=>simp at f
   |succ j=>rw[r.inj i j l m (by simpa using e) (by simpa using f) q]
 bw:=λi l e=>by
  rw[dQ,lT]
  cases i with
  |zero=>simp at e
  |succ i=>exact r.bw i l (by simpa using e)
 len:=by rw[List.length_cons,List.length_cons,r.len]
theorem n8{wi:TI}{fi:cM}{c:de}{e:Den}(hi:∀{G A bo own ρ σ H ps Q},R K κ G A bo own ρ σ H->fi ρ=some ps->(∀J H',aH H H'->yT K κ H' (dI A own ρ) J ps->Q J H')->wi σ H Q):
  Uh K κ (Gf wi (OD K κ c) (OC K κ e)) (bu fi c e):=λ{G A bo own ρ σ H p Q} r e0 q=>by
 obtain⟨ps,e1,e2⟩:=Option.bind_eq_some_iff.mp e0
 have h0:ps.length<=sizeLine/\(fJ c e ρ ps).map PV.lst=some p:=by
  split at e2
  ·exact⟨by assumption,e2⟩
  ·cases e2
 obtain⟨zs,e3,rfl⟩:=Option.map_eq_some_iff.mp h0.2
 refine hi r e1 λJ H1 s1 hI=>?_
 refine⟨λi m acc H2=>m=ps.length-i/\i<=ps.length/\aH H1 H2/\acc.length<=i/\∃out rest,aV K κ (dQ A own ρ H2) acc out/\fJ c e ρ (ps.drop i)=some rest/\out++rest=zs,
  ⟨ps.length,by simp,Nat.zero_le _,aH.refl _,Nat.zero_le _,[],zs,.nil,by simpa using e3,rfl⟩,?_⟩
 rintro i m acc H2 ⟨rfl,RI,s2,ha,out,rest,q1,q2,q3⟩
 obtain⟨h1,h2⟩:=hI i H2 s2
 have GH:=s1.trans s2
 have r2:=r.mono GH
 by_cases jX:i<ps.length
 ·rw[List.drop_eq_getElem_cons jX]at q2
  obtain⟨h3,h4⟩:=h1 ps[i] (List.getElem?_eq_getElem jX)
  refine .inr ⟨h3,by omega,λy H3 hy=>?_⟩
  obtain⟨s3,q4⟩:=h4 y H3 hy
  have rep:=q4 (dI A own ρ) (λb hb=>r2.PU hb) (bF s2)
  have r3:=(r2.mono s3).cons rep
  unfold fJ at q2
  obtain⟨b,e4,e5⟩:=Option.bind_eq_some_iff.mp q2
  refine⟨_,_,_,_,_,_,r3,e4,λH4 s4=>?_⟩
  have r4:=r3.mono s4
  cases b with
  |true=>
   dsimp only
   rw[if_pos rfl]at e5⊢
   obtain⟨z,e6,e7⟩:=Option.bind_eq_some_iff.mp e5
   obtain⟨ws,e8,rfl⟩:=Option.map_eq_some_iff.mp e7
   refine⟨_,_,_,_,_,_,r4,e6,λv H5 s5 q5=>?_⟩
   rw[dQ,lT]at q5
   refine⟨ps.length-(i+1),by omega,rfl,jX,((s2.trans s3).trans s4).trans s5,by simp;omega,out++[z],ws,?_,e8,by rw[<-q3];simp⟩
   exact(q1.mono (bF ((s3.trans s4).trans s5))).append (.cons q5 .nil)
  |false=>
   dsimp only
   rw[if_neg Bool.false_ne_true]at e5⊢
   exact⟨ps.length-(i+1),by omega,rfl,jX,(s2.trans s3).trans s4,by omega,out,rest,q1.mono (bF (s3.trans s4)),e5,q3⟩
 ·have hn:ps.drop i=[]:=List.drop_eq_nil_of_le (by omega)
  rw[hn]at q2
  cases q2
  rw[List.append_nil]at q3
  subst q3
  refine .inl ⟨h2 (by omega),λp hp=>q _ _ (GH.trans (bM hp)) ?_⟩
  obtain⟨a,ws,l,w1,w2,w3,w4⟩:=r2.yO hp q1
  refine⟨a,ws,l,w1,w2,?_,w4⟩
  cases w1
  exact GH.free hp
end
section
variable{X:Cx}{κ:Kl}{fr:Bool}{sc:Scope}{x:Str}{px pos:Pos}{elt iter c:Expr}{fi:cM}{ft:de}{f:Den}
theorem jw(hi:Nb X κ (.Name x px) iter fi)(vd:Scope)(N0 ys:List Str)(he:∀ex C s H,DE (X.pj sc x ys ex C s H) κ elt f)(BC:X.env.scope=vd:=by rfl)(Nc:X.N=N0:=by rfl)(Gh:kl vd N0 sc x ys=true:=by decide+kernel)(hc:X.calm=true:=by rfl)
  (hs:∀x,foldedSetIterable iter X.env x=pure x:=by intro _;rfl):DO X κ (.ListComp elt [⟨.Name x px,iter,[],0⟩] sc pos) (bu fi cP f):=by
 obtain⟨wi,h1,h2⟩:=hi
 refine⟨_,C6 h1 ys (tt:=OD X.K κ cP) (te:=OC X.K κ f) (λex C s H=>?_) (λex C s H=>(he ex C s H).pe) (by rw[BC,Nc];exact Gh) hc hs,n8 h2⟩
 intro pins s σ H Q I ⟨_,_,_,_,_,_,r,e,q⟩
 cases e
 exact yB pins s σ H Q I (q _ (aH.refl _))
theorem lU(hi:Nb X κ (.Name x px) iter fi)(vd:Scope)(N0 ys:List Str)(ht:∀ex C s H,DT (X.pj sc x ys ex C s H) κ c ft)(he:∀ex C s H,DE (X.pj sc x ys ex C s H) κ elt f)(BC:X.env.scope=vd:=by rfl)(Nc:X.N=N0:=by rfl)(Gh:kl vd N0 sc x ys=true:=by decide+kernel)(hc:X.calm=true:=by rfl)
  (hs:∀x,foldedSetIterable iter X.env x=pure x:=by intro _;rfl):DO X κ (.ListComp elt [⟨.Name x px,iter,[c],0⟩] sc pos) (bu fi ft f):=by
 obtain⟨wi,h1,h2⟩:=hi
 exact⟨_,C6 h1 ys (tt:=OD X.K κ ft) (te:=OC X.K κ f) (λex C s H=>yC (ht ex C s H).pt) (λex C s H=>(he ex C s H).pe) (by rw[BC,Nc];exact Gh) hc hs,n8 h2⟩
theorem pF(i:Nat){y:Str}{py yE:Pos}(hN:X.N.Nodup)(hi:Nb X κ (.Name x px) iter fi)(vd:Scope)(N0 ys:List Str)(ht:∀ex C s H,DT (X.pj sc x ys ex C s H) κ c ft)(he:∀ex C s H,DE (X.pj sc x ys ex C s H) κ elt f)(PH:X.N[i]?=some y:=by rfl)(hy:X.env.scope.names.lookup y=some .local:=by rfl)(BC:X.env.scope=vd:=by rfl)(Nc:X.N=N0:=by rfl)(Gh:kl vd N0 sc x ys=true:=by decide+kernel)(hc:X.calm=true:=by rfl)
  (hs:∀x,foldedSetIterable iter X.env x=pure x:=by intro _;rfl)(PJ:swapsWith (.ListComp elt [⟨.Name x px,iter,[c],0⟩] sc pos) (some (.Name y py)) yE.line X.env=pure true:=by rfl):
  DS X κ fr (.Assign [.Name y py] (.ListComp elt [⟨.Name x px,iter,[c],0⟩] sc pos) yE) (bK i (bu fi ft f)):=by
 obtain⟨wi,h1,h2⟩:=hi
 refine⟨_,C7 hN PH hy h1 ys (tt:=OD X.K κ ft) (te:=OC X.K κ f) (λex C s H=>yC (ht ex C s H).pt) (λex C s H=>(he ex C s H).pe) (by rw[BC,Nc];exact Gh) hc hs PJ,λ{G A bo own ρ σ H fl D} r e k=>?_⟩
 obtain⟨p,e1,rfl⟩:=Option.map_eq_some_iff.mp e
 exact n8 h2 r e1 λv H' s z=>k _ _ _ ((r.mono s).set (z.rep r))
end
noncomputable def cT(K:PySem.W.Frag)(κ:Kl)(fr:Bool)(F:List PV->Option PV):Sp:=λvs H Q _=>∃(A:Addr->Prop) (ps:List PV) (p:PV),(∀b,A b->H b≠none)/\aV K κ (hide A H) vs ps/\F ps=some p/\∀v H',aH H H'->RR fr K κ A H H' v p->Q v H'
section
variable{X:Cx}{κ:Kl}{fr:Bool}{k:Nat}{f:Addr}{fd:FuncData}{ps:List Str}{F:List PV->Option PV}{x:Str}{p pos:Pos}{e:Expr}{es:List Expr}{fs:cM}
theorem bh(FO:aL X.prog X.w X.K X.mg X.base cv k f fd ps (cT X.K κ false F))(hr:cx k X.A)(hm:X.mg x=some (.ref f))(hk:PySem.W.keepIn X.K (.ref f)=true)(hb:Binds X.K fd ps [])(ha:DA X κ (e::es) fs)(hg:Gl X x:=by rfl)(rM:(x==("__debug__" :Str))=false:=by decide)
  (he:starEach (e::es) X.env=(false,eval e X.env)::starEach es X.env:=by rfl)(hpl:(backTo pos (starEach es X.env)).any (·.1)=false:=by rfl):DE X κ (.Call (.Name x p) (e::es) [] pos) (aI F fs):=by
 obtain⟨ta,h1,h2⟩:=ha
 refine⟨_,vM FO hr hg hm hk hb .nil mz h1 rM he hpl,λ{G A bo own ρ σ H p Q} r e q=>?_⟩
 obtain⟨xs,e1,e2⟩:=Option.bind_eq_some_iff.mp e
 refine h2 r e1 λvs H1 s1 z1=>?_
 rw[List.append_nil]
 exact⟨dI A own ρ,xs,p,λb hb=>(r.mono s1).PU hb,z1,e2,λv H' s z=>q v H' (s1.trans s) z⟩
theorem og(FO:aL X.prog X.w X.K X.mg X.base cv k f fd ps (cT X.K κ true F))(hr:cx k X.A)(hm:X.mg x=some (.ref f))(hk:PySem.W.keepIn X.K (.ref f)=true)(hb:Binds X.K fd ps [])(ha:DA X κ (e::es) fs)(hg:Gl X x:=by rfl)(rM:(x==("__debug__" :Str))=false:=by decide)
  (he:starEach (e::es) X.env=(false,eval e X.env)::starEach es X.env:=by rfl)(hpl:(backTo pos (starEach es X.env)).any (·.1)=false:=by rfl):DO X κ (.Call (.Name x p) (e::es) [] pos) (aI F fs):=by
 obtain⟨ta,h1,h2⟩:=ha
 refine⟨_,vM FO hr hg hm hk hb .nil mz h1 rM he hpl,λ{G A bo own ρ σ H p Q} r e q=>?_⟩
 obtain⟨xs,e1,e2⟩:=Option.bind_eq_some_iff.mp e
 refine h2 r e1 λvs H1 s1 z1=>?_
 rw[List.append_nil]
 exact⟨dI A own ρ,xs,p,λb hb=>(r.mono s1).PU hb,z1,e2,λv H' s z=>q v H' (s1.trans s) (RH z s1 λb w=>w)⟩
theorem yU(FO:aL X.prog X.w X.K X.mg X.base cv k f fd ps (cT X.K κ false F))(hr:cx k X.A)(hm:X.mg x=some (.ref f))(hk:PySem.W.keepIn X.K (.ref f)=true)(hb:Binds X.K fd ps [])(ha:RG X κ (e::es) fs)(hg:Gl X x:=by rfl)(rM:(x==("__debug__" :Str))=false:=by decide)
  (he:starEach (e::es) X.env=(false,eval e X.env)::starEach es X.env:=by rfl)(hpl:(backTo pos (starEach es X.env)).any (·.1)=false:=by rfl):DE X κ (.Call (.Name x p) (e::es) [] pos) (mN F fs):=by
 obtain⟨ta,h1,h2⟩:=ha
 refine⟨_,vM FO hr hg hm hk hb .nil mz h1 rM he hpl,λ{G A bo own ρ σ H p Q} r e q=>?_⟩
 obtain⟨xs,e1,e2⟩:=Option.bind_eq_some_iff.mp e
 obtain⟨p',e3,e4⟩:=Option.bind_eq_some_iff.mp e2
 obtain⟨h3,rfl⟩:=bf e4
 refine h2 r e1 λvs H1 s1 z1=>?_
 rw[List.append_nil]
 have z2:aV X.K κ (hide (λ_=>False) H1) vs xs:=(z1.full ax).mono λb o w=>by rw[dH (λz=>z)];exact w
 exact⟨λ_=>False,xs,p',λb hb=>hb.elim,z2,e3,λv H' s z=>q v H' (s1.trans s) (Rep.flat h3 z)⟩
end
section
variable{P:Program}{w:World}{K:PySem.W.Frag}{mg:Str->Option Value}{base:Heap}{κ:Kl}{fr:Bool}
theorem mS{n:Nat}{ps:List PV}{i:Nat}{s:Slot}(h:(d9 n ps)[i]?=some s):(∃p,ps[i]?=some p/\s=.sh p)\/s=.un:=by
 unfold d9 at h
 rw[List.getElem?_append]at h
 split at h
 ·rw[List.getElem?_map]at h
  obtain⟨p,h1,h2⟩:=Option.map_eq_some_iff.mp h
  exact .inl ⟨p,h1,h2.symm⟩
 ·rw[List.getElem?_replicate]at h
  split at h
  ·exact .inr (Option.some.inj h).symm
  ·cases h
theorem R.entry{A:Addr->Prop}{H:Hp}{N:List Str}{vs:List V}{ps:List PV}(al:∀b,A b->H b≠none)(h:aV K κ (hide A H) vs ps):R K κ H A (λ_=>none) (λ_=>0) (d9 N.length ps) (start N vs) H:=by
 have no:∀{i:Nat} {l:Cn},(d9 N.length ps)[i]?≠some (.own l):=λ{i l} e=>by
  rcases mS e with⟨p,_,z⟩|z<;>cases z
 have he:dI A (λ_=>0) (d9 N.length ps)=A:=by
  funext b
  refine propext ⟨λz=>?_,.inl⟩
  rcases z with z|⟨j,m,z1,z2⟩
  ·exact z
  ·exact absurd z1 no
 refine⟨al,λi a vs e=>(by cases e),λ_ _ z=>z,λi p e=>?_,λi l e=>absurd e no,λi j l m e=>absurd e no,λi l e=>?_,?_⟩
 ·rcases mS e with⟨p',h1,z⟩|z
  ·cases z
   obtain⟨v,h2,h3⟩:=h.get h1
   refine⟨v,?_,by rw[dQ,he];exact h3⟩
   unfold start
   rw[List.getElem?_append_left (by rw[List.length_map];exact(List.getElem?_eq_some_iff.mp h2).1),List.getElem?_map,h2]
   rfl
  ·cases z
 ·rcases mS e with⟨p,_,z⟩|z<;>cases z
 ·unfold start d9
  simp[h.length]
theorem br{x qual:Str}{st:Stmt}{f:Addr}{fd:FuncData}{N ps:List Str}{k:Nat}{g:aU}(F:KY K x qual st f fd)(S:aT N ps (ag st))
  (hb:∀(d8:Value) (A:Around) (outer:List Env) (s:Shared) (H:Hp) (E:XK),cx k (A.deeper (envOfC qual (ag st) s.heap.objs.size f d8))->GC (Bd cv P w K mg base N qual (ag st) f d8 A outer s H E).OS κ fr (aM st) g):
  aL P w K mg base cv (k+1) f fd ps (cT K κ fr (fn fr N.length ps.length g)):=by
 refine F.ok S (λvs H Q E h=>?_) (λd8 A outer s H vs Q E hr h=>?_)
 ·obtain⟨A,qs,p,_,h1,h2,_⟩:=h
  unfold fn at h2
  split at h2
  ·rw[h1.length]
   assumption
  ·cases h2
 ·obtain⟨A',qs,p,al,h1,h2,q⟩:=h
  obtain⟨ts,a1,a2⟩:=hb d8 A outer s H E hr
  refine⟨ts,a1,?_⟩
  have h3:(g (d9 N.length qs)).bind (wa fr)=some p:=by
   unfold fn at h2
   split at h2
   ·exact h2
   ·cases h2
  obtain⟨fl,e1,e2⟩:=Option.bind_eq_some_iff.mp h3
  refine a2 (R.entry al h1) e1 ?_
  cases fl with
  |rt p'=>cases e2;exact q
  |nx ρ'=>
   cases fr with
   |true=>cases e2
   |false=>
    cases e2
    exact λdi σ' H' r'=>q _ _ r'.same .non
  |bk ρ'=>cases e2
  |ct ρ'=>cases e2
end
end L2.D
namespace L2.D
open PySem PySem.Spec PyProof.Rows PySem.SeqAt
open Classical
section
variable{X:Cx}{pins:List (Addr×Obj)}{σ:St}{H:Hp}{s:Shared}{κ:Kl}
theorem kx{f:PV->PV->Option Bool}:∀{l m:List PV} {es:List Bool},mM f l m=some es->l.length=m.length->es.length=l.length
 |[],[],_,h,_=>by cases h;rfl
 |a::l,b::m,es,h,e=>by
  unfold mM at h
  obtain⟨c,h1,h2⟩:=Option.bind_eq_some_iff.mp h
  obtain⟨cs,h3,rfl⟩:=Option.map_eq_some_iff.mp h2
  simp[kx h3 (by simpa using e)]
theorem oh{f:PV->PV->Option Bool}:∀{l m:List PV} {es:List Bool} {j:Nat} {p q:PV},mM f l m=some es->l[j]?=some p->m[j]?=some q->∃e,es[j]?=some e/\f p q=some e
 |[],_,_,_,_,_,_,hp,_=>by simp at hp
 |_::_,[],_,_,_,_,_,_,hq=>by simp at hq
 |a::l,b::m,es,0,p,q,h,hp,hq=>by
  unfold mM at h
  obtain⟨c,h1,h2⟩:=Option.bind_eq_some_iff.mp h
  obtain⟨cs,h3,rfl⟩:=Option.map_eq_some_iff.mp h2
  simp at hp hq
  subst hp hq
  exact⟨c,rfl,h1⟩
 |a::l,b::m,es,j+1,p,q,h,hp,hq=>by
  unfold mM at h
  obtain⟨c,h1,h2⟩:=Option.bind_eq_some_iff.mp h
  obtain⟨cs,h3,rfl⟩:=Option.map_eq_some_iff.mp h2
  obtain⟨e,h4,h5⟩:=oh (j:=j) h3 (by simpa using hp) (by simpa using hq)
  exact⟨e,by simpa using h4,h5⟩
theorem GI:∀(n:Nat) (p:PV) (b:Bool),i8 n p p=some b->b=true:=by
 intro n
 induction n with
 |zero=>
  intro p b h
  unfold i8 at h
  cases p<;>simp[flat,IQ]at h<;>exact h
 |succ n ih=>
  have key:∀(l:List PV) (es:List Bool),mM (i8 n) l l=some es->es.all id=true:=by
   intro l
   induction l with
   |nil=>intro es h;cases h;rfl
   |cons a l Vk=>
    intro es h
    unfold mM at h
    obtain⟨c,h1,h2⟩:=Option.bind_eq_some_iff.mp h
    obtain⟨cs,h3,rfl⟩:=Option.map_eq_some_iff.mp h2
    simp[ih _ _ h1,Vk _ h3]
  intro p b h
  cases p with
  |lst l=>
   unfold i8 Fy at h
   rw[if_pos rfl]at h
   obtain⟨es,h1,rfl⟩:=Option.map_eq_some_iff.mp h
   exact key l es h1
  |tup l=>
   unfold i8 Fy at h
   rw[if_pos rfl,if_pos rfl]at h
   obtain⟨es,h1,rfl⟩:=Option.map_eq_some_iff.mp h
   exact key l es h1
  |_=>simp[i8,flat,IQ]at h<;>exact h
theorem yV(I:Inv X pins σ H s){a:Addr}{xs ys:List V}(h:gD X.K H a xs)(h':ke X.K H a ys):False:=by
 obtain⟨_,_,p1,_⟩:=I.list h
 obtain⟨_,_,p2,_⟩:=I.tuple h'
 obtain⟨o,e1,c1,_⟩:=p1.isList
 obtain⟨o2,e2,c2,_⟩:=p2
 rw[e1]at e2
 cases e2
 rw[c1]at c2
 injection c2 with z
 exact absurd z (by decide)
mutual
theorem Rep.inj(I:Inv X pins σ H s):∀{v:V} {p q:PV},Rep X.K κ H v p->Rep X.K κ H v q->(∀n b,i8 n p q=some b->p=q)
 |_,_,_,.non,.non=>λ_ _ _=>rfl
 |_,_,_,.bl _,.bl _=>λ_ _ _=>rfl
 |_,_,_,.int _,.int _=>λ_ _ _=>rfl
 |_,_,_,.str _,.str _=>λ_ _ _=>rfl
 |_,_,_,.lst h r,q=>λn b e=>by
  cases q with
  |lst h' r'=>
   have:=I.kg h.sq h'.sq
   subst this
   cases n with
   |zero=>simp[i8,flat]at e
   |succ n=>
    unfold i8 Fy at e
    split at e
    ·obtain⟨es,e1,_⟩:=Option.map_eq_some_iff.mp e
     rw[aV.inj I r r' n es e1]
    ·rename_i hl
     exact absurd (r.length.symm.trans r'.length) hl
  |tup h' _=>exact(yV I h.sq h').elim
  |ins _ _ _=>cases n<;>simp[i8,flat]at e
 |_,_,_,.tup h r,q=>λn b e=>by
  cases q with
  |lst h' _=>exact(yV I h'.sq h).elim
  |tup h' r'=>
   have:=I.uT h h'
   subst this
   cases n with
   |zero=>simp[i8,flat]at e
   |succ n=>
    unfold i8 Fy at e
    have hl:=r.length.symm.trans r'.length
    rw[if_pos hl,if_pos hl]at e
    obtain⟨es,e1,_⟩:=Option.map_eq_some_iff.mp e
    rw[aV.inj I r r' n es e1]
  |ins _ _ _=>cases n<;>simp[i8,flat]at e
 |_,_,_,.ins _ _ _,q=>λn b e=>by
  cases n<;>cases q<;>simp[i8,flat]at e
theorem aV.inj(I:Inv X pins σ H s):∀{vs:List V} {l m:List PV},aV X.K κ H vs l->aV X.K κ H vs m->∀n es,mM (i8 n) l m=some es->l=m
 |_,_,_,.nil,.nil=>λ_ _ _=>rfl
 |_,_,_,.cons r t,.cons r' t'=>λn es e=>by
  unfold mM at e
  obtain⟨c,h1,h2⟩:=Option.bind_eq_some_iff.mp e
  obtain⟨cs,h3,rfl⟩:=Option.map_eq_some_iff.mp h2
  rw[Rep.inj I r r' n c h1,aV.inj I t t' n cs h3]
end
theorem oi{es:List Bool}{n:Nat}(h:es.length=n):((List.range n).all λj=>es.getD j false)=es.all id:=by
 subst h
 exact range_all es
theorem yW{A:Around}{a b:Addr}{xs ys:List V}(I:Inv X pins σ H s)(ha:ke X.K H a xs)(hb:ke X.K H b ys)(hl:xs.length=ys.length)(hu:A.units<cLine)(q:Nat->Bool)
  (hq:∀(j:Nat) x y u v,xs[j]?=some x->ys[j]?=some y->RelV x u->RelV y v->EqAt A.in1 s u v (q j)):RcAt A s (.ref a) (.ref b) ((List.range xs.length).all q):=by
 obtain⟨its,r1,p1,z1⟩:=I.tuple ha
 obtain⟨me,r2,p2,z2⟩:=I.tuple hb
 have l1:=r1.length
 have l2:=r2.length
 have:=RcAt.tuples (A:=A) (s:=s) (e:=q) (l:=a) (b:=b) p1 p2 hu λj h1 h2=>?_
 ·rw[List.size_toArray,List.size_toArray,<-l1,<-l2,<-hl,Nat.min_self,beq_self_eq_true,Bool.and_true]at this
  exact this
 ·rw[List.size_toArray]at h1 h2
  obtain⟨x,hx⟩:∃x,xs[j]?=some x:=⟨xs[j],List.getElem?_eq_getElem (by omega)⟩
  obtain⟨y,hy⟩:∃y,ys[j]?=some y:=⟨ys[j],List.getElem?_eq_getElem (by omega)⟩
  obtain⟨u,e1,ru⟩:=r1.get hx
  obtain⟨v,e2,rv⟩:=r2.get hy
  have f1:its.toArray[j]=u:=by
   have:=(List.getElem?_eq_some_iff.mp e1).2
   simpa using this
  have f2:me.toArray[j]=v:=by
   have:=(List.getElem?_eq_some_iff.mp e2).2
   simpa using this
  rw[f1,f2]
  exact hq j x y u v hx hy ru rv
theorem Dp{A:Around}{v w:V}{u u':Value}{p q:PV}(f:(flat p&&flat q)=true)(r1:Rep X.K κ H v p)(r2:Rep X.K κ H w q)(e1:RelV v u)(e2:RelV w u'):EqAt A s u u' (IQ p q):=by
 rw[Bool.and_eq_true]at f
 have hv:gF v=true:=by cases r1<;>simp_all[flat,gF]
 have hw:gF w=true:=by cases r2<;>simp_all[flat,gF]
 have:IQ p q=Fx v w:=by cases r1<;>cases r2<;>simp_all[flat,IQ,Fx]
 rw[this]
 exact FZ e1 e2 hv hw
theorem yX(I:Inv X pins σ H s):∀(n:Nat) {p q:PV} {v w:V} {u u':Value} {A:Around} {b:Bool},A.units+n<cLine->Rep X.K κ H v p->Rep X.K κ H w q->RelV v u->RelV w u'->i8 n p q=some b->EqAt A s u u' b:=by
 intro n
 induction n with
 |zero=>
  intro p q v w u u' A b hu r1 r2 e1 e2 h
  unfold i8 at h
  obtain⟨h1,rfl⟩:=bf h
  exact Dp h1 r1 r2 e1 e2
 |succ n ih=>
  intro p q v w u u' A b hu r1 r2 e1 e2 h
  have P6:A.in1.units+n<cLine:=by
   have:A.in1.units=A.units+1:=rfl
   omega
  by_cases hf:(flat p&&flat q)=true
  ·have:i8 (n+1) p q=some (IQ p q):=by
     cases p<;>cases q<;>simp_all[i8,flat]
   rw[this]at h
   cases h
   exact Dp hf r1 r2 e1 e2
  ·by_cases hvw:v=w
   ·subst hvw
    have Vl:=Rep.inj I r1 r2 _ _ h
    subst Vl
    have hb:=GI _ _ _ h
    subst hb
    cases r1 with
    |lst _ _=>cases e1;cases e2;exact EqAt.same _
    |tup _ _=>cases e1;cases e2;exact EqAt.same _
    |ins _ _ _=>cases e1;cases e2;exact EqAt.same _
    |_=>simp[flat]at hf
   ·have hr:∀{xs ys:List V} {l m:List PV} {es:List Bool},aV X.K κ H xs l->aV X.K κ H ys m->mM (i8 n) l m=some es->∀(j:Nat) x y u v,xs[j]?=some x->ys[j]?=some y->RelV x u->RelV y v->EqAt A.in1 s u v (es.getD j false):=by
      intro xs ys l m es w1 w2 he j x y u v hx hy ru rv
      obtain⟨p1,g1,g2⟩:=w1.Bx hx
      obtain⟨p2,g3,g4⟩:=w2.Bx hy
      obtain⟨e,g5,g6⟩:=oh he g1 g3
      rw[List.getD_eq_getElem?_getD,g5]
      exact ih P6 g2 g4 ru rv g6
    cases r1 with
    |@lst a vs l h1 w1=>
     cases q with
     |lst m=>
      cases r2 with
      |@lst b' Vm _ h2 w2=>
       cases e1
       cases e2
       refine EqAt.of_refs (λz=>hvw (by rw[z])) ?_
       unfold i8 Fy at h
       split at h
       ·rename_i hl
        obtain⟨es,g1,rfl⟩:=Option.map_eq_some_iff.mp h
        have g2:=kx g1 hl
        have:=rY I h1.sq h2.sq (A:=A) (by omega) (λj=>es.getD j false) (hr w1 w2 g1)
        rw[decide_eq_true (by rw[w1.length,w2.length];exact hl),Bool.true_and,oi (by rw[w1.length];exact g2)]at this
        exact this
       ·rename_i hl
        cases h
        obtain⟨its,k1,p1,z1⟩:=I.list h1.sq
        obtain⟨me,k2,p2,z2⟩:=I.list h2.sq
        have l1:=k1.length
        have l2:=k2.length
        have l3:=w1.length
        have l4:=w2.length
        exact RcAt.lists_lengths p1.isList p2.isList (by rw[List.size_toArray,List.size_toArray];simp;omega) (by omega)
     |_=>cases r2<;>simp[i8,flat]at h
    |@tup a vs l h1 w1=>
     cases q with
     |tup m=>
      cases r2 with
      |@tup b' Vm _ h2 w2=>
       cases e1
       cases e2
       refine EqAt.of_refs (λz=>hvw (by rw[z])) ?_
       unfold i8 Fy at h
       split at h
       ·rename_i hl
        try rw[if_pos hl]at h
        obtain⟨es,g1,rfl⟩:=Option.map_eq_some_iff.mp h
        have g2:=kx g1 hl
        have:=yW I h1 h2 (A:=A) (by rw[w1.length,w2.length];exact hl) (by omega) (λj=>es.getD j false) (hr w1 w2 g1)
        rw[oi (by rw[w1.length];exact g2)]at this
        exact this
       ·cases h
     |_=>cases r2<;>simp[i8,flat]at h
    |ins _ _ _=>cases q<;>simp[i8,flat]at h
    |_=>cases r2<;>simp[i8,flat]at h hf
end
end L2.D
namespace L2.D
open PySem PySem.Spec PyProof.Rows PySem.SeqAt
open Classical
section
variable{X:Cx}{κ:Kl}{fr:Bool}{e a b c:Expr}{f fa fb fc:Den}{p pos:Pos}
noncomputable def Ta(K:PySem.W.Frag)(κ:Kl)(neg:Bool):R2:=λx y H Q=>∃p q b,Rep K κ H x p/\Rep K κ H y q/\eqT p q=some b/\Q (.bl (if neg then !b else b)) H
theorem yY{pins:List (Addr×Obj)}{σ:St}{H:Hp}{s:Shared}{A:Around}{a b:Addr}{vs ws:List V}{l m:List PV}{r:Bool}(I:Inv X pins σ H s)(hu:A.units+20<cLine)(h1:SL X.K H a vs)(w1:aV X.K κ H vs l)(h2:SL X.K H b ws)(w2:aV X.K κ H ws m)
  (h:i8 20 (.lst l) (.lst m)=some r):RcAt A s (.ref a) (.ref b) r/\RcNeAt A s (.ref a) (.ref b) (!r):=by
 unfold i8 Fy at h
 have P6:A.in1.units+19<cLine:=by
  have:A.in1.units=A.units+1:=rfl
  omega
 split at h
 ·rename_i hl
  obtain⟨es,g1,rfl⟩:=Option.map_eq_some_iff.mp h
  have g2:=kx g1 hl
  have hr:∀(j:Nat) x y u v,vs[j]?=some x->ws[j]?=some y->RelV x u->RelV y v->EqAt A.in1 s u v (es.getD j false):=by
   intro j x y u v hx hy ru rv
   obtain⟨p1,k1,k2⟩:=w1.Bx hx
   obtain⟨p2,k3,k4⟩:=w2.Bx hy
   obtain⟨e,k5,k6⟩:=oh g1 k1 k3
   rw[List.getD_eq_getElem?_getD,k5]
   exact yX I 19 P6 k2 k4 ru rv k6
  have z1:=rY I h1.sq h2.sq (A:=A) (by omega) (λj=>es.getD j false) hr
  have z2:=Bm I h1.sq h2.sq (A:=A) (by omega) (λj=>es.getD j false) hr
  rw[decide_eq_true (by rw[w1.length,w2.length];exact hl),Bool.true_and,oi (by rw[w1.length];exact g2)]at z1 z2
  exact⟨z1,z2⟩
 ·rename_i hl
  cases h
  obtain⟨its,k1,p1,z1⟩:=I.list h1.sq
  obtain⟨me,k2,p2,z2⟩:=I.list h2.sq
  have l1:=k1.length
  have l2:=k2.length
  have l3:=w1.length
  have l4:=w2.length
  exact⟨RcAt.lists_lengths p1.isList p2.isList (by rw[List.size_toArray,List.size_toArray];simp;omega) (by omega),RcNeAt.lists_lengths p1.isList p2.isList (by rw[List.size_toArray,List.size_toArray];simp;omega) (by omega)⟩
theorem JP{pins:List (Addr×Obj)}{σ:St}{H:Hp}{s:Shared}{A:Around}{a b:Addr}{vs ws:List V}{l m:List PV}{r:Bool}(I:Inv X pins σ H s)(hu:A.units+20<cLine)(h1:ke X.K H a vs)(w1:aV X.K κ H vs l)(h2:ke X.K H b ws)(w2:aV X.K κ H ws m)
  (h:i8 20 (.tup l) (.tup m)=some r):RcAt A s (.ref a) (.ref b) r:=by
 unfold i8 Fy at h
 have P6:A.in1.units+19<cLine:=by
  have:A.in1.units=A.units+1:=rfl
  omega
 split at h
 ·rename_i hl
  try rw[if_pos hl]at h
  obtain⟨es,g1,rfl⟩:=Option.map_eq_some_iff.mp h
  have g2:=kx g1 hl
  have hr:∀(j:Nat) x y u v,vs[j]?=some x->ws[j]?=some y->RelV x u->RelV y v->EqAt A.in1 s u v (es.getD j false):=by
   intro j x y u v hx hy ru rv
   obtain⟨p1,k1,k2⟩:=w1.Bx hx
   obtain⟨p2,k3,k4⟩:=w2.Bx hy
   obtain⟨e,k5,k6⟩:=oh g1 k1 k3
   rw[List.getD_eq_getElem?_getD,k5]
   exact yX I 19 P6 k2 k4 ru rv k6
  have z1:=yW I h1 h2 (A:=A) (by rw[w1.length,w2.length];exact hl) (by omega) (λj=>es.getD j false) hr
  rw[oi (by rw[w1.length];exact g2)]at z1
  exact z1
 ·cases h
theorem Nd(hu:X.A.units+20<cLine):lK X (compareOp .Eq) (Ta X.K κ false):=by
 intro pins s σ H x y v u Q I rx ry h
 obtain⟨p,q,r,r1,r2,e,k⟩:=h
 cases p<;>cases q<;>first|cases e|skip
 all_goals first
  |(cases r1 with
   |lst h1 w1=>cases r2 with
    |lst h2 w2=>
     cases rx;cases ry
     exact(yY I hu h1 w1 h2 w2 e).1 _ _ _ _ ⟨.bl r,H,I,rfl,k⟩)
  |(cases r1 with
   |tup h1 w1=>cases r2 with
    |tup h2 w2=>
     cases rx;cases ry
     exact JP I hu h1 w1 h2 w2 e _ _ _ _ ⟨.bl r,H,I,rfl,k⟩)
  |(cases r1;cases r2;exact O5 pins s σ H _ _ v u Q I rx ry ⟨rfl,by simpa using k⟩)
theorem Nf(hu:X.A.units+20<cLine):lK X (compareOp .NotEq) (λx y H Q=>∃p q b,Rep X.K κ H x p/\Rep X.K κ H y q/\(∀l,p≠.tup l)/\eqT p q=some b/\Q (.bl (!b)) H):=by
 intro pins s σ H x y v u Q I rx ry h
 obtain⟨p,q,r,r1,r2,nt,e,k⟩:=h
 cases p<;>cases q<;>first|cases e|skip
 all_goals first
  |exact absurd rfl (nt _)
  |(cases r1 with
   |lst h1 w1=>cases r2 with
    |lst h2 w2=>
     cases rx;cases ry
     exact(yY I hu h1 w1 h2 w2 e).2 _ _ _ _ ⟨.bl (!r),H,I,rfl,k⟩)
  |(cases r1;cases r2;exact O6 pins s σ H _ _ v u Q I rx ry ⟨rfl,by simpa using k⟩)
theorem P7{A:Around}(h:A.units+64<cLine):A.units+20<cLine:=by omega
theorem fW{k:Nat}(hr:cx k X.A)(ha:DB X κ a fa)(hb:DB X κ b fb):DC X κ .Eq a b (ae kc fa fb):=by
 obtain⟨ta,h1,h2⟩:=ha
 obtain⟨tb,h3,h4⟩:=hb
 refine⟨_,_,_,Nd (κ:=κ) (P7 hr.units),h1,h3,λ{G A bo own ρ σ H p Q} r e q=>?_⟩
 refine uo h2 h4 r e λx y p1 p2 H' s r' b1 b2 e'=>?_
 obtain⟨b,e1,rfl⟩:=Option.map_eq_some_iff.mp e'
 exact⟨p1,p2,b,b1.full ax,b2.full ax,e1,q _ H' s (.bl _)⟩
theorem Dq{k:Nat}(hr:cx k X.A)(ha:DB X κ a fa)(hb:DB X κ b fb):DC X κ .NotEq a b (ae nY fa fb):=by
 obtain⟨ta,h1,h2⟩:=ha
 obtain⟨tb,h3,h4⟩:=hb
 refine⟨_,_,_,Nf (κ:=κ) (P7 hr.units),h1,h3,λ{G A bo own ρ σ H p Q} r e q=>?_⟩
 refine uo h2 h4 r e λx y p1 p2 H' s r' b1 b2 e'=>?_
 have nt:∀l,p1≠.tup l:=λl z=>by rw[z]at e';cases e'
 have e2:Oz p1 p2=some p:=by cases p1<;>first|exact e'|exact absurd rfl (nt _)
 obtain⟨b,e1,rfl⟩:=Option.map_eq_some_iff.mp e2
 exact⟨p1,p2,b,b1.full ax,b2.full ax,nt,e1,q _ H' s (.bl _)⟩
theorem Ln{K:PySem.W.Frag}{H:Hp}:∀{vs:List V} {l:List PV},aV K κ H vs l->l.all flat=true->vs.all gF=true
 |_,_,.nil,_=>rfl
 |_,_,.cons r t,h=>by
  rw[List.all_cons,Bool.and_eq_true]at h⊢
  refine⟨?_,Ln t h.2⟩
  cases r<;>simp_all[flat,gF]
theorem P8{K:PySem.W.Frag}{H H':Hp}{v w:V}{p q:PV}(r1:Rep K κ H v p)(r2:Rep K κ H' w q)(f1:flat p=true)(f2:flat q=true):IQ p q=Fx v w:=by
 cases r1<;>cases r2<;>simp_all[flat,IQ,Fx]
theorem Lo{K:PySem.W.Frag}{H H':Hp}{v:V}{p:PV}(r:Rep K κ H v p)(f:flat p=true):∀{vs:List V} {l:List PV},aV K κ H' vs l->l.all flat=true->Fz p l=Ru v vs
 |_,_,.nil,_=>rfl
 |_,_,.cons r1 t,h=>by
  rw[List.all_cons,Bool.and_eq_true]at h
  have ih:=Lo r f t h.2
  unfold Fz Ru at ih⊢
  rw[List.any_cons,List.any_cons,ih,P8 r1 r h.1 f]
theorem Dr{neg:Bool}{K:PySem.W.Frag}{hH H':Hp}{x y:V}{p1 p2 p:PV}{Q:VK}(b1:BR K κ hH H' x p1)(b2:BR K κ hH H' y p2)(s:aH hH H')(e:(if neg then v8 p1 p2 else PN p1 p2)=some p)(q:∀b,p=.bl b->Q (.bl b) H'):Rv K neg x y H' Q:=by
 have go:∀(l:List PV) (vs:List V) (a:Addr),y=.ref a->(gD K H' a vs\/ke K H' a vs)->aV K κ hH vs l->(if(flat p1&&l.all flat)=true then some (PV.bl (if neg then !Fz p1 l else Fz p1 l))else none)=some p->Rv K neg x y H' Q:=by
  intro l vs a hy hs w e
  obtain⟨h1,h2⟩:=bf e
  rw[Bool.and_eq_true]at h1
  have rx:=b1.full s
  refine⟨a,vs,hy,hs,?_,Ln w h1.2,?_⟩
  ·cases rx<;>simp_all[flat,gF]
  ·rw[Lo rx h1.1 w h1.2]at h2
   exact q _ h2.symm
 cases p2 with
 |lst l=>
  obtain⟨a,vs,rfl,q1,q2⟩:=b2.lst s
  exact go l vs a rfl (.inl q1.sq) q2 (by cases neg<;>exact e)
 |tup l=>
  obtain⟨a,vs,rfl,q1,q2⟩:=b2.tup s
  exact go l vs a rfl (.inr q1) q2 (by cases neg<;>exact e)
 |_=>cases neg<;>cases e
theorem P9(ha:DB X κ a fa)(hb:DB X κ b fb):DC X κ .In a b (ae PN fa fb):=by
 obtain⟨ta,h1,h2⟩:=ha
 obtain⟨tb,h3,h4⟩:=hb
 refine⟨_,_,_,Ek,h1,h3,λ{G A bo own ρ σ H p Q} r e q=>?_⟩
 refine uo h2 h4 r e λx y p1 p2 H' s r' b1 b2 e'=>?_
 exact Dr (neg:=false) b1 b2 ax e' λb z=>q _ H' s (by rw[z];exact .bl _)
theorem GJ(ha:DB X κ a fa)(hb:DB X κ b fb):DC X κ .NotIn a b (ae v8 fa fb):=by
 obtain⟨ta,h1,h2⟩:=ha
 obtain⟨tb,h3,h4⟩:=hb
 refine⟨_,_,_,vP,h1,h3,λ{G A bo own ρ σ H p Q} r e q=>?_⟩
 refine uo h2 h4 r e λx y p1 p2 H' s r' b1 b2 e'=>?_
 exact Dr (neg:=true) b1 b2 ax e' λb z=>q _ H' s (by rw[z];exact .bl _)
theorem df(ha:DB X κ a fa)(hm:X.mg "len" =none)(hg:Gl X "len" :=by rfl)(hs:starEach [a] X.env=(false,eval a X.env)::starEach [] X.env:=by rfl):DE X κ (.Call (.Name "len" p) [a] [] pos) (bO b7 fa):=by
 obtain⟨ta,h1,h2⟩:=ha
 refine⟨_,i9 (nS.or vQ) hg hm PySem.boot_len (aP h1 bQ hs) (he:=hs),λ{G A bo own ρ σ H p Q} r e q=>?_⟩
 obtain⟨p1,e1,e2⟩:=Option.bind_eq_some_iff.mp e
 refine h2 r e1 λx H1 s1 b1=>?_
 cases p1<;>first|(cases e2;done)|skip
 ·obtain⟨z1,rfl⟩:=bf e2
  exact .inr ⟨_,by rw[b1.str],z1,q _ H1 s1 (.int _)⟩
 ·cases e2
  obtain⟨a,vs,rfl,q1,q2⟩:=b1.lst ax
  exact .inl ⟨a,vs,rfl,.inl q1.sq,q _ H1 s1 (by rw[q2.length];exact .int _)⟩
 ·cases e2
  obtain⟨a,vs,rfl,q1,q2⟩:=b1.tup ax
  exact .inl ⟨a,vs,rfl,.inr q1,q _ H1 s1 (by rw[q2.length];exact .int _)⟩
theorem JQ(ha:DB X κ a fa)(hm:X.mg "list" =none)(hg:Gl X "list" :=by rfl)(hs:starEach [a] X.env=(false,eval a X.env)::starEach [] X.env:=by rfl):DO X κ (.Call (.Name "list" p) [a] [] pos) (bO Lg fa):=by
 obtain⟨ta,h1,h2⟩:=ha
 refine⟨_,lL vR hg hm PyProof.Rows.boot_list (aP h1 bQ hs) (he:=hs),λ{G A bo own ρ σ H p Q} r e q=>?_⟩
 obtain⟨p1,e1,e2⟩:=Option.bind_eq_some_iff.mp e
 refine h2 r e1 λx H1 s1 b1=>?_
 have fin:∀{vs l n},H1 n=none->aV X.K κ (dQ A own ρ H1) vs l->p=.lst l->Q (.ref n) (upd H1 n (.lst vs)):=λ{vs l n} hn w z=>by
  subst z
  refine q _ _ (s1.trans (bM hn)) ?_
  obtain⟨a,ws,l,w1,w2,w3,w4⟩:=(r.mono s1).yO hn w
  refine⟨a,ws,l,w1,w2,?_,w4⟩
  cases w1
  exact s1.free hn
 cases p1<;>first|(cases e2;done)|skip
 ·obtain⟨a,vs,rfl,q1,q2⟩:=b1.lst ax
  exact⟨a,vs,rfl,.inl q1.sq,λn hn=>fin hn q2 (Option.some.inj e2).symm⟩
 ·obtain⟨a,vs,rfl,q1,q2⟩:=b1.tup ax
  exact⟨a,vs,rfl,.inr q1,λn hn=>fin hn q2 (Option.some.inj e2).symm⟩
theorem Ds{K:PySem.W.Frag}{H:Hp}:∀{vs:List V} {l:List PV} {bs:List Bool},aV K κ H vs l->bools l=some bs->vs=bs.map V.bl
 |_,_,_,.nil,h=>by cases h;rfl
 |_,p::_,_,.cons r t,h=>by
  cases p<;>first|(cases h;done)|skip
  obtain⟨cs,h1,rfl⟩:=Option.map_eq_some_iff.mp h
  rw[List.map_cons,<-Ds t h1,r.Ey]
theorem GK(ha:DB X κ a fa)(hm:X.mg "any" =none)(hg:Gl X "any" :=by rfl)(hc:X.calm=true:=by rfl)(hs:starEach [a] X.env=(false,eval a X.env)::starEach [] X.env:=by rfl):DE X κ (.Call (.Name "any" p) [a] [] pos) (bO Gq fa):=by
 obtain⟨ta,h1,h2⟩:=ha
 refine⟨_,i9 (yG hc) hg hm PyProof.Rows.boot_any (aP h1 bQ hs) (he:=hs),λ{G A bo own ρ σ H p Q} r e q=>?_⟩
 obtain⟨p1,e1,e2⟩:=Option.bind_eq_some_iff.mp e
 refine h2 r e1 λx H1 s1 b1=>?_
 cases p1<;>first|(cases e2;done)|skip
 obtain⟨bs,e3,rfl⟩:=Option.map_eq_some_iff.mp e2
 obtain⟨a,vs,rfl,q1,q2⟩:=b1.lst ax
 rw[Ds q2 e3]at q1
 exact⟨a,bs,rfl,q1.sq,q _ H1 s1 (.bl _)⟩
theorem JR{apos ie:Pos}(ha:DB X κ a fa)(fF:attributeBase a "bit_length" X.env (eval a X.env)=eval a X.env:=by rfl)(fG:(apos.endLine==ie.line)=true:=by rfl):DE X κ (.Call (.Attribute a "bit_length" apos) [] [] ie) (bO Gr fa):=by
 obtain⟨ta,h1,h2⟩:=ha
 refine⟨_,F2 PySem.F.plainAttrs_int PySem.F.slot_int_bit_length PySem.F.type_int_bit_length Jz h1 fF fG,λ{G A bo own ρ σ H p Q} r e q=>?_⟩
 obtain⟨p1,e1,e2⟩:=Option.bind_eq_some_iff.mp e
 refine h2 r e1 λx H1 s1 b1=>?_
 cases p1<;>first|(cases e2;done)|skip
 cases e2
 have:=b1.int
 subst this
 exact⟨rfl,_,rfl,rfl,q _ H1 s1 (.int _)⟩
theorem aV.at{K:PySem.W.Frag}{H:Hp}{vs:List V}{l:List PV}{i:Int}{p:PV}(h:aV K κ H vs l)(e:itemAt l i=some p):∃v,Mw vs i=some v/\Rep K κ H v p:=by
 obtain⟨j,e1,e2⟩:=Option.bind_eq_some_iff.mp e
 obtain⟨v,h1,h2⟩:=h.get e2
 refine⟨v,?_,h2⟩
 unfold Mw
 rw[h.length]
 exact Option.bind_eq_some_iff.mpr ⟨j,e1,h1⟩
theorem cQ(ha:DB X κ a fa)(hb:DB X κ b fb)(hs:CV b:=by intro _ _;rfl):DE X κ (.Subscript a b pos) (ae gg fa fb):=by
 obtain⟨ta,h1,h2⟩:=ha
 obtain⟨tb,h3,h4⟩:=hb
 refine⟨_,Pm MA h1 h3 hs,λ{G A bo own ρ σ H p Q} r e q=>?_⟩
 refine uo h2 h4 r e λx y p1 p2 H' s r' b1 b2 e'=>?_
 (cases p1<;>first|(cases e';done)|skip)<;>cases p2<;>first|(cases e';done)|skip
 ·rename_i x' i'
  have e3:(if x'.length<=sizeLine then(itemAt x'.cps.toList i').map λc=>PV.str ⟨#[c]⟩else none)=some p:=e'
  have z1:x'.length<=sizeLine:=by
   by_cases z:x'.length<=sizeLine
   ·exact z
   ·rw[if_neg z]at e3
    cases e3
  have z2:((itemAt x'.cps.toList i').map λc=>PV.str ⟨#[c]⟩)=some p:=by
   rw[if_pos z1]at e3
   exact e3
  obtain⟨c,e2,rfl⟩:=Option.map_eq_some_iff.mp z2
  exact .inr (.inr ⟨_,_,c,b1.str,b2.int,z1,e2,q _ H' s (.str _)⟩)
 ·obtain⟨a,vs,rfl,q1,q2⟩:=b1.lst ax
  obtain⟨v,z1,z2⟩:=q2.at e'
  exact .inl ⟨a,vs,_,v,rfl,b2.int,q1.sq,z1,q _ H' s z2⟩
 ·obtain⟨a,vs,rfl,q1,q2⟩:=b1.tup ax
  obtain⟨v,z1,z2⟩:=q2.at e'
  exact .inr (.inl ⟨a,vs,_,v,rfl,b2.int,q1,z1,q _ H' s z2⟩)
noncomputable def DP(X:Cx)(κ:Kl)(e:Option Expr)(f:v9):Prop:=∃to,PO X e to/\∀{G A bo own ρ σ H o Q},R X.K κ G A bo own ρ σ H->f ρ=some o->(∀H',aH H H'->Q o H')->to σ H Q
theorem ip:DP X κ none fU:=⟨_,Jl,λ{G A bo own ρ σ H o Q} r e q=>by cases e;exact q H (aH.refl _)⟩
theorem d5(ha:DB X κ a fa):DP X κ (some a) (dg fa):=by
 obtain⟨ta,h1,h2⟩:=ha
 refine⟨_,Jm h1,λ{G A bo own ρ σ H o Q} r e q=>?_⟩
 obtain⟨p,e1,e2⟩:=Option.bind_eq_some_iff.mp e
 obtain⟨i,e3,rfl⟩:=Option.map_eq_some_iff.mp e2
 refine h2 r e1 λx H1 s1 b1=>?_
 cases p<;>first|(cases e3;done)|skip
 cases e3
 exact⟨_,b1.int,q H1 s1⟩
theorem aV.cut{K:PySem.W.Frag}{H:Hp}{vs:List V}{l:List PV}(h:aV K κ H vs l)(lo hi:Option Int):aV K κ H (Ej vs lo hi) (km l lo hi):=by
 have e:∀n d o,HT.AV n d o=yL n d o:=λn d o=>by cases o<;>rfl
 unfold Ej km
 rw[h.length,e,e]
 exact(h.drop _).take _
theorem jg{p2:Pos}{lo hi:Option Expr}{fl fh:v9}(ha:DB X κ a fa)(hl:DP X κ lo fl)(hh:DP X κ hi fh):DO X κ (.Subscript a (.Slice lo hi none p2) pos) (Bq fa fl fh):=by
 obtain⟨ta,h1,h2⟩:=ha
 obtain⟨tl,h3,h4⟩:=hl
 obtain⟨th,h5,h6⟩:=hh
 refine⟨_,yn CW h1 h3 h5,λ{G A bo own ρ σ H p Q} r e q=>?_⟩
 obtain⟨p1,e1,e2⟩:=Option.bind_eq_some_iff.mp e
 obtain⟨o1,e3,e4⟩:=Option.bind_eq_some_iff.mp e2
 obtain⟨o2,e5,e6⟩:=Option.bind_eq_some_iff.mp e4
 refine h2 r e1 λx H1 s1 b1=>h4 (r.mono s1) e3 λH2 s2=>h6 ((r.mono s1).mono s2) e5 λH3 s3=>?_
 cases p1<;>first|(cases e6;done)|skip
 cases e6
 have Lp:=(s1.trans s2).trans s3
 obtain⟨a,vs,rfl,q1,q2⟩:=(b1.Dh (s2.trans s3)).lst ax
 refine⟨a,vs,rfl,q1.sq,λn hn=>q _ _ (Lp.trans (bM hn)) ?_⟩
 obtain⟨a,ws,l,w1,w2,w3,w4⟩:=(r.mono Lp).yO hn (q2.cut o1 o2)
 refine⟨a,ws,l,w1,w2,?_,w4⟩
 cases w1
 exact Lp.free hn
noncomputable def Qa:Nat->String
 |0=> "int"
 |1=> "bool"
 |2=> "str"
 |3=> "list"
 |4=> "tuple"
 |_=> "NoneType"
theorem Ng(K:PySem.W.Frag):∀j,j<6->∀k,k<5->PySem.W.kitOne K (.type (Qa j)) (.type (Qa k))=some (j==k||(k==0&&j==1)):=by
 intro j hj k hk
 rcases j with _|_|_|_|_|_|j<;>first|omega|(rcases k with _|_|_|_|_|k<;>first|omega|rfl)
theorem yZ(k:Nat)(hk:k<5):gE X (.builtin "isinstance") (λxs H Q=>∃x p,xs=[x,.ty (Qa k)]/\Rep X.K κ H x p/\Dc p≠6/\Q (.bl (Bp k p)) H):=by
 intro pins s σ H xs us Q I r h
 obtain⟨x,p,rfl,rp,h6,q⟩:=h
 obtain⟨u,c,rfl,ru,rc⟩:=vals2 r
 cases rc
 have fin:∀tk:Nat,EP X pins σ Q (.bool (Bp k p)) {s with toks:=tk}:=λtk=>⟨.bl _,H,I.tok _,rfl,q⟩
 have Lq:=λj hj=>Ng X.K j hj k hk
 cases rp with
 |non=>cases ru;exact PySem.W.kia_one PySem.W.kitx_none I.kf True.intro (Lq 5 (by decide)) (λz=>nomatch z) fin
 |bl b=>cases ru;exact PySem.W.kia_one PySem.W.kitx_bool I.kf True.intro (Lq 1 (by decide)) (λz=>nomatch z) fin
 |int i=>obtain⟨t,rfl⟩:=ru;exact PySem.W.kia_one PySem.W.kitx_int I.kf True.intro (Lq 0 (by decide)) (λz=>nomatch z) fin
 |str i=>obtain⟨t,rfl⟩:=ru;exact PySem.W.kia_one PySem.W.kitx_str I.kf True.intro (Lq 2 (by decide)) (λz=>nomatch z) fin
 |lst h1 _=>
  cases ru
  obtain⟨_,_,pl,_⟩:=I.list h1.sq
  obtain⟨o,ho,hc,_⟩:=pl.isList
  exact PySem.W.kia_one PySem.W.kitx_list I.kf ⟨o,ho,hc⟩ (Lq 3 (by decide)) (λz=>nomatch z) fin
 |tup h1 _=>
  cases ru
  obtain⟨_,_,pl,_⟩:=I.tuple h1
  obtain⟨o,ho,hc,_⟩:=pl
  exact PySem.W.kia_one PySem.W.kitx_tuple I.kf ⟨o,ho,hc⟩ (Lq 4 (by decide)) (λz=>nomatch z) fin
 |ins _ _ _=>exact absurd rfl h6
theorem pG{x:Str}{p2:Pos}(k:Nat)(hk:k<5)(hv:bootBuiltins x=some (.type (Qa k)))(ha:DB X κ a fa)(hm:X.mg "isinstance" =none)(GL:X.mg x=none)(hg:Gl X "isinstance")(JS:Gl X x)(hn:x≠ "__name__")(hd:(x==("__debug__" :Str))=false)
  (hs:starEach [a,.Name x p2] X.env=(false,eval a X.env)::starEach [.Name x p2] X.env)(ug:starEach [.Name x p2] X.env=(false,eval (.Name x p2) X.env)::starEach [] X.env)(hpl:(backTo pos (starEach [.Name x p2] X.env)).any (·.1)=false):DE X κ (.Call (.Name "isinstance" p) [a,.Name x p2] [] pos) (bO (Lh k) fa):=by
 obtain⟨ta,h1,h2⟩:=ha
 refine⟨_,i9 (yZ (κ:=κ) k hk) hg hm PyProof.Rows.boot_isinstance (aP h1 (aP (IZ JS GL hv (v:=.ty (Qa k)) rfl hn hd) bQ ug) hs) (he:=hs) (hpl:=hpl),λ{G A bo own ρ σ H p Q} r e q=>?_⟩
 obtain⟨p1,e1,e2⟩:=Option.bind_eq_some_iff.mp e
 refine h2 r e1 λx H1 s1 b1=>?_
 unfold Lh at e2
 split at e2
 ·cases e2
 ·cases e2
  exact⟨_,p1,rfl,b1.full ax,by assumption,q _ H1 s1 (.bl _)⟩
end
noncomputable def Wu:Kl:=⟨λ_=>0,λ_=>[]⟩
theorem EE{P:Program}{w:World}{K:PySem.W.Frag}{mg mb:Str->Option Value}{CX:FU}{k:Nat}{fa a:Addr}{fd:FuncData}{x:Str}{sp:Sp}{s₁:Shared}{vs:List Value}{ns:List Int}
  (KX:K.In s₁.heap)(Ov:s₁.heap.Ns mainGlobals mg)(hb:s₁.heap.Ns builtinsNs mb)(Vn:∀x:Str,x≠ "__name__" ->mb x=bootBuiltins x)(Tb:s₁.heap.NoLimit)(hg:s₁.gens=#[])
  (ha:s₁.heap.get? a=some {cls:=.type "list",data:=.seq vs.toArray})(hi:IntsAre vs ns)(hl:ns.length<=sizeLine)(hr:cx k callerA)
  (F:∀base:Heap,K.In base->base.Ns mainGlobals mg->aL P w K mg base CX k fa fd [x] sp)(Qb:∀(s:Shared) (u:Value),BindsTo s fd ⟨[u],[]⟩ [(x,u)])
  (KW:∀H:Hp,Px H->SL K H a (ns.map V.int)->sp [.ref a] H (λv _=>v=.bl true) λ_ _ _=>False)
  (Vo:∀H e s',CX [] H s₁ (λ_ _ _=>False) e s'->False):
  codeAny (model P w) callerA (.call (.ref fa) ⟨[.ref a],[]⟩) (λr s'=>r=.ok (.ret (.bool true))/\OldK s₁.heap s'.heap/\s'.os=s₁.os/\AllBare s'.gens) s₁:=by
 have rv:=o9 hi
 have Tc:=hi.length
 have core:∀H:Hp,Px H->SL K H a (ns.map V.int)->qW P w H s₁.heap->(∀b,H b≠none->b=a)->(H a≠none->K.lookup a=none)->
   codeAny (model P w) callerA (.call (.ref fa) ⟨[.ref a],[]⟩) (λr s'=>r=.ok (.ret (.bool true))/\OldK s₁.heap s'.heap/\s'.os=s₁.os/\AllBare s'.gens) s₁:=by
  intro H hO hS dh hA hK
  have Dt:∀{b:Addr} {o:Obj},s₁.heap.get? b=some o->H b=none->(vI s₁.heap H).get? b=some o:=λe n=>FA e n
  have Ph:∀{b:Addr} {o:Obj} {es:Array DictEntry} {ep:Nat},s₁.heap.get? b=some o->o.data=.dict es ep->H b=none:=λ{b o es ep} e d=>by
   cases q:H b with
   |none=>rfl
   |some u=>
    have e':b=a:=hA b (by rw[q];simp)
    subst e'
    rw[ha]at e;cases e
    have d':Data.seq vs.toArray _=Data.dict es ep:=d
    cases d'
  have RJ:∀{b:Addr} {m:Str->Option Value},s₁.heap.Ns b m->(vI s₁.heap H).Ns b m:=λ{b m} ⟨o,es,ep,e,d,r⟩=>⟨o,es,ep,Dt e (Ph e d),d,r⟩
  have Uj:K.In (vI s₁.heap H):=λb o e=>Dt (KX b o e) (by
   cases q:H b with
   |none=>rfl
   |some u=>
    have e':b=a:=hA b (by rw[q];simp)
    subst e'
    rw[hK (by rw[q];simp)]at e;cases e)
  have hM:Mod K mg (vI s₁.heap H):=⟨Uj,RJ Ov,⟨mb,RJ hb,Vn⟩,let⟨mc,h1,h2⟩:=Tb;⟨mc,RJ h1,h2⟩⟩
  have e0:Bc P w K mg (vI s₁.heap H) callerA [] s₁ H:=⟨rfl,hM,λb o e=>IX e,Nat.le_of_eq (Eb _ _),trivial,λb hb=>absurd (show b∈([]:List Addr)from hb) (by simp),dh,.of_eq hg⟩
  refine codeAny_mono ((F _ Uj (RJ Ov)).run callerA [] s₁ H ⟨[.ref a],[]⟩ [.ref a] [.ref a] _ _ hr e0 (Qb s₁ (.ref a)) (.cons rfl .nil) (KW H hO hS)) λr s' h=>?_
  cases r with
  |error e=>exact(Vo H e s' h).elim
  |ok fl=>
   cases fl with
   |next=>exact False.elim h
   |brk=>exact False.elim h
   |cont=>exact False.elim h
   |ret u=>
    obtain⟨v,H',os,bare,un,Td,r',q⟩:=h
    have q':v=.bl true:=q
    subst q'
    obtain rfl:u=Value.bool true:=r'
    refine⟨rfl,OldK.of_keep λb o e=>?_,os,bare⟩
    cases q:H b with
    |none=>exact un.keep b o e q (by intro z;exact absurd (show b∈([]:List Addr)from z) (by simp)) (by simp)
    |some u=>
     rcases hO b with z|⟨ob,xs,z⟩
     ·rw[q]at z;cases z
     ·have z2:=un.rH b ob _ z
      obtain⟨e1,_⟩:=dh b _ z
      obtain⟨e2,_⟩:=Td b _ z2
      rw[e]at e1;cases e1
      exact e2
 cases hk:K.lookup a with
 |some o=>
  have e:=KX a o hk
  rw[ha]at e
  cases e
  refine core (λ_=>none) (λ_=>.inl rfl) (.inr ⟨vs,_,hk,by rw[Tc];exact hl,rv⟩) (λb u z=>by have z':(none:Option HO)=some u:=z;cases z') (λb z=>absurd rfl z) λz=>absurd rfl z
 |none=>
  refine core (λb=>if b=a then some (.frz {cls:=.type "list",data:=.seq vs.toArray} (.lst (ns.map V.int)))else none) (λb=>?_) (.inl (.inr ⟨{cls:=.type "list",data:=.seq vs.toArray},if_pos rfl⟩)) (λb u z=>?_) (λb z=>?_) λ_=>hk
  ·by_cases hb:b=a
   ·exact .inr ⟨_,_,if_pos hb⟩
   ·exact .inl (if_neg hb)
  ·by_cases hb:b=a
   ·have z':=(if_pos hb).symm.trans z
    cases z'
    subst hb
    exact⟨ha,by rw[List.length_map];exact hl,vs,_,rv,ha⟩
   ·have z':=(if_neg hb).symm.trans z
    cases z'
  ·by_cases hb:b=a
   ·exact hb
   ·exact absurd (if_neg hb) z
theorem ints_rep{K:PySem.W.Frag}{κ:Kl}{H:Hp}:∀ns:List Int,aV K κ H (ns.map V.int) (ns.map PV.int)
 |[]=>.nil
 |n::ns=>.cons (.int n) (ints_rep ns)
section
variable{X:Cx}{κ:Kl}{fr:Bool}{e a b c:Expr}{f fa fb fc:Den}{p pos:Pos}
theorem GN{x:Str}{n:Int}(h:∃t,X.mg x=some (.int n t))(hg:Gl X x:=by rfl)(hd:(x==("__debug__" :Str))=false:=by decide):DE X κ (.Name x pos) (dC (.int n)):=by
 obtain⟨t,h⟩:=h
 exact⟨_,vJ (v:=.int n) hg h ⟨t,rfl⟩ hd,λ{G A bo own ρ σ H p Q} r e q=>by cases e;exact q _ H (aH.refl _) (.int n)⟩
theorem uq{p2:Pos}(ha:DB X κ a fa)(hm:X.mg "isinstance" =none)(GL:X.mg "int" =none)(hg:Gl X "isinstance" :=by rfl)(JS:Gl X "int" :=by rfl)(hs:starEach [a,.Name "int" p2] X.env=(false,eval a X.env)::starEach [.Name "int" p2] X.env:=by rfl)(ug:starEach [.Name "int" p2] X.env=(false,eval (.Name "int" p2) X.env)::starEach [] X.env:=by rfl)
 (hpl:(backTo pos (starEach [.Name "int" p2] X.env)).any (·.1)=false:=by rfl):DE X κ (.Call (.Name "isinstance" p) [a,.Name "int" p2] [] pos) (bO (Lh 0) fa):=pG 0 (by decide) PyProof.Rows.boot_int ha hm GL hg JS (by decide) (by decide) hs ug hpl
theorem sx{p2:Pos}(ha:DB X κ a fa)(hm:X.mg "isinstance" =none)(GL:X.mg "bool" =none)(hg:Gl X "isinstance" :=by rfl)(JS:Gl X "bool" :=by rfl)(hs:starEach [a,.Name "bool" p2] X.env=(false,eval a X.env)::starEach [.Name "bool" p2] X.env:=by rfl)(ug:starEach [.Name "bool" p2] X.env=(false,eval (.Name "bool" p2) X.env)::starEach [] X.env:=by rfl)
 (hpl:(backTo pos (starEach [.Name "bool" p2] X.env)).any (·.1)=false:=by rfl):DE X κ (.Call (.Name "isinstance" p) [a,.Name "bool" p2] [] pos) (bO (Lh 1) fa):=pG 1 (by decide) PyProof.Rows.boot_bool ha hm GL hg JS (by decide) (by decide) hs ug hpl
theorem sA{p2:Pos}(ha:DB X κ a fa)(hm:X.mg "isinstance" =none)(GL:X.mg "list" =none)(hg:Gl X "isinstance" :=by rfl)(JS:Gl X "list" :=by rfl)(hs:starEach [a,.Name "list" p2] X.env=(false,eval a X.env)::starEach [.Name "list" p2] X.env:=by rfl)(ug:starEach [.Name "list" p2] X.env=(false,eval (.Name "list" p2) X.env)::starEach [] X.env:=by rfl)
 (hpl:(backTo pos (starEach [.Name "list" p2] X.env)).any (·.1)=false:=by rfl):DE X κ (.Call (.Name "isinstance" p) [a,.Name "list" p2] [] pos) (bO (Lh 3) fa):=pG 3 (by decide) PyProof.Rows.boot_list ha hm GL hg JS (by decide) (by decide) hs ug hpl
end
end L2.D
namespace L2.D
open PySem PySem.Spec PyProof.Rows
open Classical
theorem EF{n l1 l2:Nat}(h1:l1<n)(h2:l2<n):ZipApart (n+4) (n+2) (n+3) n (n+1) l1 l2:=by
 refine⟨?_,?_,?_,?_,?_,?_,?_,?_,?_,?_,?_,?_,?_,?_,?_,?_,?_,?_⟩<;>(intro(e:(_:Nat)=_);revert e h1 h2;simp only[imp_false];intros;omega)
section
variable{X:Cx}{pins:List (Addr×Obj)}{σ:St}{H:Hp}{s:Shared}{h':Heap}
theorem Lr{ch:List Addr}(hf:∀b∈ch,o6 X pins H b):∀b∈ch,(b∈X.ex\/X.s₀.heap.objs.size<=b)/\b≠X.env.locals/\(∀x c,X.env.cells.lookup x=some c->c≠b)/\∀p∈X.pn++pins,p.1≠b:=λb hb=>by
 obtain⟨f0,f1,f2,f3,f4,f5⟩:=hf b hb
 exact⟨f3,f1,f4,f5⟩
theorem _root_.L2.Inv.JT{t':Nat}{ch:List Addr}(I:Inv X pins σ H s)(k:∀b o,b∉ch->s.heap.get? b=some o->h'.get? b=some o)(hf:∀b∈ch,o6 X pins H b):Inv X pins σ H {s with heap:=h',toks:=t'}:=by
 have KN:∀b u,H b=some u->b∉ch:=λb u e z=>by rw[(hf b z).1]at e;cases e
 refine I.step (g':=s.gens) (d':=s.drawn) (ch:=ch) (Lr hf) (λb o _ _ hc e _=>k b o hc e) (λb o _ _ hc e _=>⟨o.slots,k b o hc e⟩) (λ_ _ _ _ n=>n)
  (λb o hc e=>⟨o,k b o hc e⟩) (λ_ _ e=>e) (λ_ _ _ e=>e) (λb ps e=>⟨#[],by rw[e];simp⟩) (λm hm=>?_) (λb u e=>?_) I.bare
 ·obtain⟨o,es,ep,ho,r⟩:=hm
  exact⟨o,es,ep,k _ o (λz=>(hf _ z).2.1 rfl) ho,r⟩
 ·refine(I.dh b u e).vG (λc v hc q=>k c v ?_ q) (λ_ q=>q) λ_ _ q=>q
  rcases hc with z|z
  ·rw[z];exact KN b u e
  ·exact KN c _ z
theorem _root_.L2.Inv.EG{t':Nat}{ch:List Addr}{u:HO}(I:Inv X pins σ H s)(k:∀b o,b∉ch->s.heap.get? b=some o->h'.get? b=some o)(hf:∀b∈ch,o6 X pins H b)
  (new:dU X.prog X.w (upd H s.heap.objs.size u) h' s.heap.objs.size u):Inv X pins σ (upd H s.heap.objs.size u) {s with heap:=h',toks:=t'}:=by
 have fr:H s.heap.objs.size=none:=I.dh.fresh (Nat.le_refl _)
 have KN:∀b u,H b=some u->b∉ch:=λb u e z=>by rw[(hf b z).1]at e;cases e
 have sm:aH H (upd H s.heap.objs.size u):=bM fr
 refine I.step (g':=s.gens) (d':=s.drawn) (ch:=ch) (Lr hf) (λb o _ _ hc e _=>k b o hc e) (λb o _ _ hc e _=>⟨o.slots,k b o hc e⟩) (λb o _ e n=>?_)
  (λb o hc e=>⟨o,k b o hc e⟩) (λ_ _ e=>sm _ _ e) (λ_ _ _ e=>sm _ _ e) (λb ps e=>⟨#[],by rw[sm _ _ e];simp⟩) (λm hm=>?_) (λb v e=>?_) I.bare
 ·rw[aZ (Nat.ne_of_lt (Heap.lt_size e))]
  exact n
 ·obtain⟨o,es,ep,ho,r⟩:=hm
  exact⟨o,es,ep,k _ o (λz=>(hf _ z).2.1 rfl) ho,r⟩
 ·by_cases hb:b=s.heap.objs.size
  ·subst hb
   rw[bE]at e
   cases e
   exact new
  ·rw[aZ hb]at e
   refine(I.dh b v e).vG (λc v hc q=>k c v ?_ q) (λc q=>sm _ _ q) λc xs q=>sm _ _ q
   rcases hc with z|z
   ·rw[z];exact KN b _ e
   ·exact KN c _ z
end
noncomputable def Te(K:PySem.W.Frag)(l1 l2:Addr):It:=
 ⟨λi H=>∃xs ys x y,gD K H l1 xs/\gD K H l2 ys/\xs[i]?=some x/\ys[i]?=some y,
  λi H v H'=>∃p x y,H p=none/\v=.ref p/\H'=upd H p (.tup [x,y])/\(∀xs,gD K H l1 xs->xs[i]?=some x)/\∀ys,gD K H l2 ys->ys[i]?=some y,
  λi H=>∃xs ys,gD K H l1 xs/\gD K H l2 ys/\(xs.length<=i\/ys.length<=i)⟩
noncomputable def Vp(z TI TO i1 i2 l1 l2:Addr)(i:Nat)(h:Heap):Prop:=IsZip h z TI TO .none/\IsPair h TI (.ref i1) (.ref i2)/\(∃a b,IsPair h TO a b)/\h.IsListIter i1 l1 i/\h.IsListIter i2 l2 i
theorem GO{P:Program}{w:World}{K:PySem.W.Frag}{elts:List Expr}{x1:Nat}{pos:Pos}{z TI TO i1 i2 l1 l2:Addr}(D:ZipApart z TI TO i1 i2 l1 l2):
  Turn P w K (.Tuple elts x1 pos) (Te K l1 l2) [z,TI,TO,i1,i2] z (Vp z TI TO i1 i2 l1 l2) where
 mem:=by simp
 obj:=λi h st b hb=>by
  obtain⟨hz,GP,⟨a,c,IV⟩,⟨o1,e1,c1,d1⟩,⟨o2,e2,c2,d2⟩⟩:=st
  have ua:b=z\/b=TI\/b=TO\/b=i1\/b=i2:=by simpa using hb
  rcases ua with rfl|rfl|rfl|rfl|rfl
  ·exact⟨_,hz,λv q=>by cases q⟩
  ·exact⟨_,GP,λv q=>by cases q⟩
  ·exact⟨_,IV,λv q=>by cases q⟩
  ·exact⟨_,e1,λv q=>by rw[d1]at q;cases q⟩
  ·exact⟨_,e2,λv q=>by rw[d2]at q;cases q⟩
 keep:=λi h h' st k=>by
  obtain⟨hz,GP,⟨a,c,IV⟩,h1,h2⟩:=st
  exact⟨k _ (by simp) _ hz,k _ (by simp) _ GP,⟨a,c,k _ (by simp) _ IV⟩,h1.at λo e=>k _ (by simp) o e,h2.at λo e=>k _ (by simp) o e⟩
 item:=by
  intro X hP hw hK hc i pins s σ H E I hf st hg
  subst hP hw hK
  obtain⟨xs,ys,x,y,OE,Ls,hx,hy⟩:=hg
  obtain⟨its,rv,p,Vq⟩:=I.list OE
  obtain⟨me,JU,p2,Uk⟩:=I.list Ls
  obtain⟨u,hu,ru⟩:=rv.get hx
  obtain⟨u2,Vr,Tf⟩:=JU.get hy
  obtain⟨hz,GP,⟨a,c,IV⟩,h1,h2⟩:=st
  refine wpAny_pyNext_zip_item D hz GP IV h1 h2 p.isList p2.isList (x:=u) (y:=u2) (by simpa using hu) (by simpa using Vr) λh' a1 a2 a3 a4 a5 a6 a7=>?_
  refine⟨.ref s.heap.objs.size,rfl,wpAny_letOwnedTupleGo_zip (s:={s with heap:=h'}) a1 λTg b1 b2=>?_⟩
  have Vs:z<s.heap.objs.size:=Heap.lt_size hz
  have up:∀b o,b≠z->h'.get? b=some o->Tg.get? b=some o:=λb o hb e=>(b2.2 b hb).trans e
  have kp:∀b o,b∉[z,TO,i1,i2]->s.heap.get? b=some o->Tg.get? b=some o:=λb o hb e=>by
   have ua:b≠z/\b≠TO/\b≠i1/\b≠i2:=by simpa using hb
   exact up b o ua.1 (a7 b o ua.1 ua.2.1 ua.2.2.1 ua.2.2.2 e)
  have Qc:IsPair Tg s.heap.objs.size u u2:=up _ _ (Nat.ne_of_gt Vs) a5
  have fr:H s.heap.objs.size=none:=I.dh.fresh (Nat.le_refl _)
  refine⟨.ref s.heap.objs.size,upd H s.heap.objs.size (.tup [x,y]),?_,rfl,?_,?_,?_⟩
  ·refine I.EG (t':=s.toks) (ch:=[z,TO,i1,i2]) kp (λb hb=>hf b ?_) ?_
   ·have ua:b=z\/b=TO\/b=i1\/b=i2:=by simpa using hb
    rcases ua with rfl|rfl|rfl|rfl<;>simp
   ·exact⟨⟨by show 2<=sizeLine;decide,⟨_,Qc,rfl⟩⟩,[u,u2],.cons ru (.cons Tf .nil),⟨_,Qc,rfl,_,rfl⟩⟩
  ·exact⟨_,x,y,fr,rfl,rfl,λWv h=>by rw[I.kg h OE];exact hx,λWw h=>by rw[I.kg h Ls];exact hy⟩
  ·exact⟨b1,up _ _ D.TIz (a7 _ _ D.TIz D.TITO D.TIi1 D.TIi2 GP),⟨_,_,up _ _ D.TOz a2⟩,a3.at λo e=>up _ _ D.i1z e,a4.at λo e=>up _ _ D.i2z e⟩
  ·intro b hb
   have:b<s.heap.objs.size:=by
    have ua:b=z\/b=TI\/b=TO\/b=i1\/b=i2:=by simpa using hb
    obtain⟨o1,e1,_⟩:=h1
    obtain⟨o2,e2,_⟩:=h2
    rcases ua with rfl|rfl|rfl|rfl|rfl
    ·exact Heap.lt_size hz
    ·exact Heap.lt_size GP
    ·exact Heap.lt_size IV
    ·exact Heap.lt_size e1
    ·exact Heap.lt_size e2
   rw[aZ (Nat.ne_of_lt this)]
   exact(hf b hb).1
 done:=by
  intro X hP hw hK hc i pins s σ H E I hf st hg
  subst hP hw hK
  obtain⟨xs,ys,OE,Ls,Th⟩:=hg
  obtain⟨its,rv,p,Vq⟩:=I.list OE
  obtain⟨me,JU,p2,Uk⟩:=I.list Ls
  have l1:=rv.length
  have l2:=JU.length
  obtain⟨hz,GP,⟨a,c,IV⟩,h1,h2⟩:=st
  refine wpAny_pyNext_zip_end (I.ok.hd hc) D hz GP IV h1 h2 p.isList p2.isList (by
   rcases Th with q|q
   ·exact .inl (by simp;omega)
   ·exact .inr (by simp;omega)) λh' k=>⟨rfl,I.JT (t':=s.toks) (ch:=[z,TO,i1,i2]) (λb o hb e=>?_) λb hb=>hf b ?_⟩
  ·have ua:b≠z/\b≠TO/\b≠i1/\b≠i2:=by simpa using hb
   exact k b o ua.1 ua.2.1 ua.2.2.1 ua.2.2.2 e
  ·have ua:b=z\/b=TO\/b=i1\/b=i2:=by simpa using hb
   rcases ua with rfl|rfl|rfl|rfl<;>simp
 self:=λ_ _ _ _ _ st h=>wpAny_pyIter_zip st.1 h
section
variable{X:Cx}{κ:Kl}{a b:Expr}{fa fb:Den}{elts:List Expr}{x1:Nat}{tp:Pos}
noncomputable def Ti(K:PySem.W.Frag)(ta:TA):TI:=λσ H R=>ta σ H λvs H1=>∃l1 l2 xs ys,vs=[.ref l1,.ref l2]/\gD K H1 l1 xs/\gD K H1 l2 ys/\R (Te K l1 l2) H1
theorem Nh{ta:TA}{p pos:Pos}(hg:Gl X "zip")(hm:X.mg "zip" =none)(ha:PA X [a,b] ta)(hs:starEach [a,b] X.env=[(false,eval a X.env),(false,eval b X.env)]:=by rfl)(ug:starEach [b] X.env=[(false,eval b X.env)]:=by rfl):
  PI X (.Tuple elts x1 tp) (.Call (.Name "zip" p) [a,b] [] pos) (Ti X.K ta):=by
 intro pins s σ H R I h
 refine Call_ (mJ I hg hm PyProof.Rows.boot_zip (PyProof.Rows.callWith_type1 (dF (ha pos pins s σ H _ I h) λus s1 cL=>?_) (by rw[hs,ug]) (by rw[ug];rfl)))
 obtain⟨vs,H1,I1,r1,q1⟩:=cL
 obtain⟨l1,l2,xs,ys,rfl,OE,Ls,q⟩:=q1
 obtain⟨u1,u2,rfl,r1,r2⟩:=vals2 r1
 cases r1
 cases r2
 obtain⟨its,rv,p1,z1⟩:=I1.list OE
 obtain⟨me,JU,p2,z2⟩:=I1.list Ls
 have Vt:l1<s1.heap.objs.size:=by
  obtain⟨o,ho,_⟩:=p1.isList
  exact Heap.lt_size ho
 have RK:l2<s1.heap.objs.size:=by
  obtain⟨o,ho,_⟩:=p2.isList
  exact Heap.lt_size ho
 have D:=EF Vt RK
 refine call_zip_2 p1.isList p2.isList λh' hz GP IV Vu Tj o7 hk=>?_
 refine wpAny_pyIter_zip (s:={s1 with heap:=h'}) hz ?_
 refine⟨s1.heap.objs.size+4,[s1.heap.objs.size+4,s1.heap.objs.size+2,s1.heap.objs.size+3,s1.heap.objs.size,s1.heap.objs.size+1],_,_,H1,rfl,I1.kept (t':=s1.toks) hk,GO D,⟨hz,GP,⟨_,_,IV⟩,Vu,Tj⟩,λb hb=>?_,q⟩
 have ua:b=s1.heap.objs.size+4\/b=s1.heap.objs.size+2\/b=s1.heap.objs.size+3\/b=s1.heap.objs.size\/b=s1.heap.objs.size+1:=by simpa using hb
 have hle:s1.heap.objs.size<=b:=by rcases ua with rfl|rfl|rfl|rfl|rfl<;>omega
 exact I1.Jb hle (I1.dh.fresh hle)
theorem GQ{K:PySem.W.Frag}{Gs:Hp}{A:Addr->Prop}{l1 l2:Addr}{vs ws:List V}{l m:List PV}(h1:SL K Gs l1 vs)(q1:aV K κ (hide A Gs) vs l)(h2:SL K Gs l2 ws)(q2:aV K κ (hide A Gs) ws m):yT K κ Gs A (Te K l1 l2) (List.zipWith (λx y=>PV.tup [x,y]) l m):=λi H2 s=>by
 have z1:gD K H2 l1 vs:=(s.sl h1).sq
 have z2:gD K H2 l2 ws:=(s.sl h2).sq
 refine⟨λp e=>?_,λhl=>⟨vs,ws,z1,z2,?_⟩⟩
 ·rw[List.getElem?_zipWith]at e
  cases e1:l[i]? with
  |none=>rw[e1]at e;cases e
  |some x=>
   cases e2:m[i]? with
   |none=>rw[e1,e2]at e;cases e
   |some y=>
    rw[e1,e2]at e
    cases e
    obtain⟨v,g1,r1⟩:=q1.get e1
    obtain⟨w,g2,r2⟩:=q2.get e2
    refine⟨⟨vs,ws,v,w,z1,z2,g1,g2⟩,λz H3 cL=>?_⟩
    obtain⟨p',x',y',y0,y1,y2,y3,y4⟩:=cL
    subst y1 y2
    have k1:=y3 vs z1
    have k2:=y4 ws z2
    rw[g1]at k1
    rw[g2]at k2
    cases k1
    cases k2
    refine⟨bM y0,λB hB sb=>.tup (ke.of ?_) (.cons (r1.mono (sb.trans (bF (bM y0)))) (.cons (r2.mono (sb.trans (bF (bM y0)))) .nil))⟩
    rw[dH λz=>hB _ z y0]
    exact bE
 ·rw[List.length_zipWith]at hl
  rw[q1.length,q2.length]
  omega
theorem Ni{p pos:Pos}(ha:DE X κ a fa)(hb:DE X κ b fb)(hm:X.mg "zip" =none)(hg:Gl X "zip" :=by rfl)(hs:starEach [a,b] X.env=[(false,eval a X.env),(false,eval b X.env)]:=by rfl)(ug:starEach [b] X.env=[(false,eval b X.env)]:=by rfl):
  DI X κ (.Tuple elts x1 tp) (.Call (.Name "zip" p) [a,b] [] pos) (Bt fa fb):=by
 obtain⟨ta,h1,h2⟩:=ha
 obtain⟨tb,h3,h4⟩:=hb
 refine⟨_,Nh hg hm (aP h1 (aP h3 bQ ug) (by rw[hs,ug])) hs ug,λ{G A bo own ρ σ H ps Q} r e q=>?_⟩
 obtain⟨p1,e1,e2⟩:=Option.bind_eq_some_iff.mp e
 obtain⟨p2,e3,e4⟩:=Option.bind_eq_some_iff.mp e2
 obtain⟨l,e5,e6⟩:=Option.bind_eq_some_iff.mp e4
 obtain⟨m,e7,e8⟩:=Option.bind_eq_some_iff.mp e6
 cases e8
 refine h2 r e1 λv H1 s1 z1=>h4 (r.mono s1) e3 λw H2 s2 z2=>?_
 cases p1<;>first|(cases e5;done)|skip
 cases e5
 cases p2<;>first|(cases e7;done)|skip
 cases e7
 have Vv:=z1.mono (bF s2)
 cases Vv with
 |lst y1 y2=>
  cases z2 with
  |lst y3 y4=>
   exact⟨_,_,_,_,rfl,((ax (A:=dI A own ρ)).sl y1).sq,((ax (A:=dI A own ρ)).sl y3).sq,q _ H2 (s1.trans s2) (GQ (wd.sl y1) (by rw[nZ];exact y2) (wd.sl y3) (by rw[nZ];exact y4))⟩
end
end L2.D
namespace L2.D
open PySem PySem.Spec PyProof.Rows PySem.SeqAt
open Classical
theorem wg:∀xs ys:List Int,pC xs ys=HT.lexLt xs ys
 |[],[]=>rfl
 |[],_::_=>rfl
 |_::_,[]=>rfl
 |x::xs,y::ys=>by
  rw[HT.mK,<-wg xs ys]
  rfl
theorem wj{K:PySem.W.Frag}{κ:Kl}{H:Hp}:∀{vs:List V} {l:List PV} {ns:List Int},aV K κ H vs l->fV l=some ns->vs=ns.map V.int
 |_,_,_,.nil,h=>by cases h;rfl
 |_,p::_,_,.cons r t,h=>by
  cases p<;>first|(cases h;done)|skip
  obtain⟨cs,h1,rfl⟩:=Option.map_eq_some_iff.mp h
  rw[List.map_cons,<-wj t h1,r.PQ]
theorem sC:∀xs:List Int,HT.lexLt xs xs=false
 |[]=>rfl
 |x::xs=>by rw[HT.mK,if_pos rfl,sC xs]
theorem wm{K:PySem.W.Frag}{κ:Kl}{H:Hp}{x:V}{i:Int}{l:List PV}{ns:List Int}(r:Rep K κ H x (.tup [.int i,.lst l]))(h:fV l=some ns):∃a la,x=.ref a/\ke K H a [.int i,.ref la]/\SL K H la (ns.map V.int):=by
 cases r with
 |tup q1 w=>
  cases w with
  |cons r1 w=>
   cases w with
   |cons r2 w=>
    cases w
    cases r1
    cases r2 with
    |lst q2 w2=>
     rw[wj w2 h]at q2
     exact⟨_,_,rfl,q1,q2⟩
section
variable{prog:Program}{w:World}{A:Around}{E:Value->Shared->Prop}{s:Shared}
theorem EH(x y:Value)(b:Bool):keyLt' (tuples' b) x y=(do
 let xs<-Builtin.List.listItems x;let ys<-Builtin.List.listItems y
 for ((p,q),i)in(xs.toList.zip ys.toList).zipIdx do
  if !(<-eqBool p q)then return<-oneLt' (b&&i==0) p q
 return decide (xs.size<ys.size)):=rfl
theorem BD{a b:Addr}{u1 u2 w1 w2:Value}{e1 e2 r1 r2:Bool}{oa ob:Obj}{na nb:Nat}{Q:Bool->Shared->Prop}(ha:s.heap.get? a=some oa)(da:oa.data=.seq #[u1,u2] na)(hb:s.heap.get? b=some ob)(db:ob.data=.seq #[w1,w2] nb)
  (q1:EqAt A s u1 w1 e1)(q2:EqAt A s u2 w2 e2)(l1:e1=false->∀Q',Q' r1 s->wpAny (model prog w) A (oneLt' true u1 w1) Q' E s)(l2:e2=false->∀Q',Q' r2 s->wpAny (model prog w) A (oneLt' false u2 w2) Q' E s)
  (h:Q (if e1 then(if e2 then false else r2)else r1) s):wpAny (model prog w) A (keyLt' (tuples' true) (.ref a) (.ref b)) Q E s:=by
 rw[EH]
 refine wpAny_bind (listItems_at ha da ?_)
 refine wpAny_bind (listItems_at hb db ?_)
 simp only[List.zip_cons_cons,List.zip_nil_right,List.zipIdx_cons,List.zipIdx_nil,List.forIn_cons,List.forIn_nil]
 cases e1 with
 |false=>
  refine wpAny_bind (wpAny_bind (wpAny_bind (q1 prog w E _ ?_)))
  refine wpAny_bind (l1 rfl _ ?_)
  exact wpAny_pure (wpAny_pure (wpAny_pure h))
 |true=>
  refine wpAny_bind (wpAny_bind (wpAny_bind (q1 prog w E _ ?_)))
  refine wpAny_pure ?_
  cases e2 with
  |false=>
   refine wpAny_bind (wpAny_bind (q2 prog w E _ ?_))
   refine wpAny_bind (l2 rfl _ ?_)
   exact wpAny_pure (wpAny_pure (wpAny_pure h))
  |true=>
   refine wpAny_bind (wpAny_bind (q2 prog w E _ ?_))
   refine wpAny_pure (wpAny_pure (wpAny_pure ?_))
   exact h
theorem y6{l m:Addr}{r:Bool}(h:PM A s (.ref l) (.ref m) r){Q:Bool->Shared->Prop}(q:Q r s):wpAny (model prog w) A (oneLt' false (.ref l) (.ref m)) Q E s:=by
 rw[oneLt'_eq]
 simp only[Bool.false_eq_true,if_false]
 exact wpAny_bind (h prog w E _ (wpAny_truthy_bool q))
theorem BE{a:Addr}{o:Obj}{u1 u2:Value}{n:Nat}{Q:Option Value->Shared->Prop}(ho:s.heap.get? a=some o)(hc:o.cls=.type "tuple")(hd:o.data=.seq #[u1,u2] n)(h:Q (some u1) s):wpAny (model prog w) A (firstOfTuple' (.ref a)) Q E s:=by
 show wpAny (model prog w) A (do
  if(<-typeOf (.ref a)) !=.type "tuple" then return none
  return(<-Builtin.List.listItems (.ref a))[0]?) Q E s
 refine wpAny_bind (wpAny_typeOf (T:= "tuple") ⟨o,ho,hc⟩ ?_)
 have ht:(Value.type "tuple" !=Value.type "tuple")=false:=by decide
 rw[ht]
 simp only[Bool.false_eq_true,if_false]
 exact wpAny_bind (listItems_at ho hd (wpAny_pure h))
noncomputable def wo(h:Heap)(v:Value)(i:Int):Prop:=∃a o t u2 n,v=.ref a/\h.get? a=some o/\o.cls=.type "tuple" /\o.data=.seq #[.int i t,u2] n
theorem sD:∀(ks:List Value),(∀v∈ks,∃i,wo s.heap v i)->∀(Q:List (Option Value)->Shared->Prop),(∀fs,(∀f∈fs,∃i t,f=some (Value.int i t))->fs.length=ks.length->Q fs s)->wpAny (model prog w) A (ks.mapM firstOfTuple') Q E s
 |[],_,Q,h=>by
  rw[List.mapM_nil]
  exact wpAny_pure (h [] (by simp) rfl)
 |k::ks,hk,Q,h=>by
  obtain⟨i,a,o,t,u2,n,rfl,ho,hc,hd⟩:=hk k (List.mem_cons_self ..)
  rw[List.mapM_cons]
  refine wpAny_bind (BE ho hc hd ?_)
  refine wpAny_bind (sD ks (λv hv=>hk v (List.mem_cons_of_mem _ hv)) _ λfs h1 h2=>wpAny_pure (h _ (λf hf=>?_) (by simp[h2])))
  rcases List.mem_cons.mp hf with rfl|hf
  ·exact⟨i,t,rfl⟩
  ·exact h1 f hf
theorem ur{ks:List Value}(hk:∀v∈ks,∃i,wo s.heap v i)(Gk:ks≠[]){Q:SortKind->Shared->Prop}(h:Q (tuples' true) s):wpAny (model prog w) A (keyKind' ks.toArray) Q E s:=by
 rw[keyKind'_eq,List.mapM_toArray]
 refine wpAny_bind ?_
 rw[map_eq_pure_bind]
 refine wpAny_bind (sD ks hk _ λfs h1 h2=>wpAny_pure ?_)
 have ha:(fs.toArray.all λx=>x.isSome)=true:=by
  rw[List.all_toArray,List.all_eq_true]
  intro x hx
  obtain⟨i,t,rfl⟩:=h1 x hx
  rfl
 rw[if_pos ha]
 refine wpAny_bind (wpAny_rule ?_)
 obtain⟨vs,ns,ev,hi⟩:∃vs ns,fs.filterMap id=vs/\IntsAre vs ns/\vs.length=fs.length:=by
  clear ha h2
  induction fs with
  |nil=>exact⟨[],[],rfl,.nil,rfl⟩
  |cons f fs ih=>
   obtain⟨i,t,rfl⟩:=h1 f (List.mem_cons_self ..)
   obtain⟨vs,ns,e,q,ql⟩:=ih λg hg=>h1 g (List.mem_cons_of_mem _ hg)
   exact⟨.int i t::vs,i::ns,by rw[List.filterMap_cons,id,e],.cons i t q,by simp[ql]⟩
 obtain⟨hi,hl⟩:=hi
 have e1:fs.toArray.filterMap id=vs.toArray:=by
  rw[<-ev]
  simp
 rw[e1,oneTypeOnly'_eq,List.mapM_toArray,mapM_typeOf_ints hi]
 simp only[map_pure,pure_bind]
 cases vs with
 |nil=>
  exfalso
  rw[h2]at hl
  simp at hl
  exact Gk (List.eq_nil_of_length_eq_zero hl.symm)
 |cons v vs=>
  have vS:((List.map (λ_=>Value.type "int") (v::vs)).toArray.all λx=>x==Value.type "int")=true:=by
   simp only[List.all_toArray,List.all_map,List.all_eq_true]
   intro _ _
   rfl
  have h0:(List.map (λ_=>Value.type "int") (v::vs)).toArray[0]?=some (Value.type "int"):=by simp
  rw[h0]
  simp only[vS,if_true,pure_bind]
  exact wpAny_pure h
end
noncomputable def EI(K:PySem.W.Frag)(κ:Kl)(H:Hp)(kI:Int->Int)(kL:Int->List Int)(p:Value×Value):Prop:=∃n t a,oZ n=true/\p.2=.int n t/\p.1=.ref a/\Rep K κ H (.ref a) (.tup [.int (kI n),.lst ((kL n).map PV.int)])
noncomputable def Lu(p:Value×Value):Nat:=ig (numOf p.2)
theorem gM:∀xs:List Int,fV (xs.map PV.int)=some xs
 |[]=>rfl
 |x::xs=>by
  rw[List.map_cons]
  unfold fV
  rw[gM xs]
  rfl
theorem EI.pair{X:Cx}{pins:List (Addr×Obj)}{σ:St}{H:Hp}{s:Shared}{κ:Kl}{kI:Int->Int}{kL:Int->List Int}{p:Value×Value}(I:Inv X pins σ H s)(h:EI X.K κ H kI kL p):∃i,wo s.heap p.1 i:=by
 obtain⟨n,t,a,_,_,e,r⟩:=h
 obtain⟨a',la,z,q1,q2⟩:=wm r (gM _)
 cases z
 obtain⟨its,rv,p1,_⟩:=I.tuple q1
 obtain⟨u1,u2,rfl,g1,g2⟩:=rv.two
 obtain⟨t1,rfl⟩:=g1
 obtain⟨o,ho,hc,n',hd⟩:=p1
 exact⟨kI n,a,o,t1,u2,n',e,ho,hc,hd⟩
theorem EJ{X:Cx}{pins:List (Addr×Obj)}{σ:St}{H:Hp}{s:Shared}{κ:Kl}{A:Around}{E:Value->Shared->Prop}{kI:Int->Int}{kL:Int->List Int}(I:Inv X pins σ H s)(hu:A.units+5<cLine)
  (ho:∀n m,oZ n=true->oZ m=true->(if kI n=kI m then pC (kL n) (kL m)else decide (kI n<kI m))=decide (ig n<ig m)):TS.yq X.prog X.w A E s (tuples' true) (EI X.K κ H kI kL) Lu:=by
 intro p q st Q hk ⟨n,t,a,Vw,e1,e2,r1⟩ ⟨m,t',b,Vx,e3,e4,r2⟩ h
 rw[lt'_eq]
 refine wpS_bind (wpS_get ?_)
 rw[hk,e2,e4]
 obtain⟨a',la,z,q1,q2⟩:=wm r1 (gM _)
 cases z
 obtain⟨b',lb,z,q3,q4⟩:=wm r2 (gM _)
 cases z
 obtain⟨its,rv,p1,_⟩:=I.tuple q1
 obtain⟨me,JU,p2,_⟩:=I.tuple q3
 obtain⟨u1,u2,rfl,g1,g2⟩:=rv.two
 obtain⟨w1,w2,rfl,g3,g4⟩:=JU.two
 obtain⟨t1,rfl⟩:=g1
 obtain⟨t2,rfl⟩:=g3
 cases g2
 cases g4
 obtain⟨oa,ha,ca,na,da⟩:=p1
 obtain⟨ob,hb,cb,nb,db⟩:=p2
 have Ul:A.units<cLine:=by omega
 obtain⟨l1,v1,Vy,_⟩:=I.list q2.sq
 obtain⟨l2,v2,Vz,_⟩:=I.list q4.sq
 refine wpS_bind (wpS_lift (wpAny_attempt (BD ha da hb db (e1:=decide (kI n=kI m)) (e2:=decide (kL n=kL m)) (r1:=decide (kI n<kI m)) (r2:=HT.lexLt (kL n) (kL m)) ?_ (Eu I q2.sq q4.sq Ul) (λ_ Q' hq=>oneLt_int hq)
  (λ_ Q' hq=>y6 (Bn Vy.isList Vz.isList (by simpa using intsAre_of v1) (by simpa using intsAre_of v2) Ul) hq) ⟨rfl,?_⟩)))
 ·rw[<-Bool.beq_eq_decide_eq]
  exact EqAt.int_int (kI n) t1 (kI m) t2
 ·refine wpS_pure ?_
  have z:=ho n m Vw Vx
  have e:(if decide (kI n=kI m)=true then(if decide (kL n=kL m)=true then false else HT.lexLt (kL n) (kL m))else decide (kI n<kI m))=decide (Lu p<Lu q):=by
   unfold Lu
   rw[e1,e3]
   show _=decide (ig n<ig m)
   rw[<-z]
   by_cases h1:kI n=kI m
   ·rw[decide_eq_true h1,if_pos rfl,if_pos h1]
    by_cases h2:kL n=kL m
    ·rw[h2,decide_eq_true rfl,if_pos rfl,wg,sC]
    ·rw[decide_eq_false h2,if_neg (by decide),wg]
   ·rw[decide_eq_false h1,if_neg (by decide),if_neg h1]
  rw[e]
  exact h
noncomputable abbrev RL(X:Cx):Cx:={X with A:=X.A.in1.in1,xe:=λ_ _=>False}
section
variable{X:Cx}{pins rest:List (Addr×Obj)}{σ:St}{H:Hp}{s:Shared}{h':Heap}
theorem Nj(ok:X.Ok):(RL X).Ok:=⟨ok.mod,ok.kind,ok.glob,ok.blt,ok.above,ok.inj,ok.has,ok.cab,ok.hd,ok.frames,ok.stk,ok.exf,ok.bs,ok.bsz,ok.noex,ok.exfs,ok.funs,ok.frf⟩
theorem JV(I:Inv X pins σ H s):Inv (RL X) pins σ H s:=⟨Nj I.ok,I.os,I.bare,I.base,I.loc,I.cell,I.free,I.freeC,I.pin,I.dh,I.len⟩
theorem GR(ok:X.Ok)(I:Inv (RL X) pins σ H s):Inv X pins σ H s:=⟨ok,I.os,I.bare,I.base,I.loc,I.cell,I.free,I.freeC,I.pin,I.dh,I.len⟩
theorem GS{a:Addr}{o:Obj}(I:Inv X (pins++(a,o)::rest) σ H s)(Gk:∀p∈X.pn++(pins++rest),p.1≠a)(ha:X.s₀.heap.objs.size<=a):
  s.heap.get? a=some o/\H a=none/\a≠X.env.locals/\a∉X.fs/\(∀v,o.data≠.cell v)/\(∀x c,X.env.cells.lookup x=some c->c≠a):=by
 obtain⟨h1,h2,h3,h4,h5⟩:=I.pin (a,o) (List.mem_append_right _ (List.mem_append_right _ (List.mem_cons_self ..)))
 refine⟨h1,h2,h3,h4,h5,λx c e z=>?_⟩
 obtain⟨v,o',ho,hd⟩:=I.cell x c e
 rw[z,h1]at ho
 cases ho
 exact h5 v hd
theorem oj{a:Addr}{o o':Obj}{t':Nat}(I:Inv X (pins++(a,o)::rest) σ H s)(Gk:∀p∈X.pn++(pins++rest),p.1≠a)(ha:X.s₀.heap.objs.size<=a)(hk:∀b u,b≠a->s.heap.get? b=some u->h'.get? b=some u)(hn:h'.get? a=some o')(hc:∀v,o'.data≠.cell v):
  Inv X (pins++(a,o')::rest) σ H {s with heap:=h',toks:=t'}:=by
 obtain⟨h1,h2,h3,h4,h5,h6⟩:=GS I Gk ha
 have I1:Inv X (pins++rest) σ H s:=I.eI λp hp=>I.pin p (List.mem_append_right _ (by
  rcases List.mem_append.mp hp with z|z
  ·exact List.mem_append_left _ z
  ·exact List.mem_append_right _ (List.mem_cons_of_mem _ z)))
 have I2:Inv X (pins++rest) σ H {s with heap:=h',toks:=t'}:=I1.turned (it:=a) hk h2 h3 (.inr ha) h6 Gk
 refine I2.eI λp hp=>?_
 rcases List.mem_append.mp hp with z|z
 ·exact I2.pin p (List.mem_append_right _ (List.mem_append_left _ z))
 ·rcases List.mem_cons.mp z with rfl|z
  ·exact⟨hn,h2,h3,h4,hc⟩
  ·exact I2.pin p (List.mem_append_right _ (List.mem_append_right _ z))
theorem Du{o:Obj}{t':Nat}(I:Inv X pins σ H s)(hc:∀v,o.data≠.cell v)(hk:∀b u,s.heap.get? b=some u->h'.get? b=some u){a:Addr}(ha:s.heap.objs.size<=a)(hn:h'.get? a=some o):Inv X (pins++[(a,o)]) σ H {s with heap:=h',toks:=t'}:=by
 have I1:Inv X pins σ H {s with heap:=h',toks:=t'}:=I.kept hk
 refine I1.eI λp hp=>?_
 rcases List.mem_append.mp hp with z|z
 ·exact I1.pin p (List.mem_append_right _ z)
 ·have e:p=(a,o):=by simpa using z
  subst e
  exact⟨hn,I.dh.fresh ha,Nat.ne_of_gt (Nat.lt_of_lt_of_le I.lt ha),I.IY ha,hc⟩
theorem Dv(I:Inv X pins σ H s):∀p∈X.pn++pins,p.1<s.heap.objs.size:=λp hp=>Heap.lt_size (I.pin p hp).1
theorem EK{a:Addr}{its:List Value}{n:Nat}{xs:List V}(I:Inv X pins σ H s)(ho:s.heap.get? a=some {cls:=.type "list",data:=.seq its.toArray n})(hn:H a=none)(hL:a≠X.env.locals)(h1:X.s₀.heap.objs.size<=a)(h2:∀x c,X.env.cells.lookup x=some c->c≠a)
  (h3:∀p∈X.pn++pins,p.1≠a)(hv:Vals xs its)(hz:xs.length<=sizeLine):Inv X pins σ (upd H a (.lst xs)) s:=by
 have sm:aH H (upd H a (.lst xs)):=bM hn
 have:=I.step (h':=s.heap) (H':=upd H a (.lst xs)) (g':=s.gens) (d':=s.drawn) (t':=s.toks) (ch:=[a]) (λb hb=>?_) (λb o _ _ _ e _=>e) (λb o _ _ _ e _=>⟨o.slots,e⟩) (λb o hb e n=>?_) (λb o _ e=>⟨o,e⟩)
  (λb xs e=>sm _ _ e) (λb o u e=>sm _ _ e) (λb ps e=>⟨#[],by rw[sm _ _ e];simp⟩) (λm hm=>hm) (λb u e=>?_) I.bare
 ·exact this
 ·have e:b=a:=by simpa using hb
  subst e
  exact⟨.inr h1,hL,h2,h3⟩
 ·rw[aZ (by simpa using hb)]
  exact n
 ·by_cases hb:b=a
  ·subst hb
   rw[bE]at e
   cases e
   exact⟨hz,its,n,hv,ho⟩
  ·rw[aZ hb]at e
   exact(I.dh b u e).vG (λc v _ q=>q) (λc q=>sm _ _ q) λc ys q=>sm _ _ q
end
section
variable{X:Cx}{pins:List (Addr×Obj)}{σ:St}{H:Hp}{s:Shared}{κ:Kl}{D kS:Addr}{e1:Nat}{vs:List Value}{ns:List Int}{kI:Int->Int}{kL:Int->List Int}
noncomputable def rb(X:Cx)(pins:List (Addr×Obj))(σ:St)(H:Hp)(D:Addr)(ns:List Int)(s':Shared):Prop:=
 ∃H' out c,aH H H'/\Inv X (pins++[(D,seqObj "list" out c)]) σ H' s'/\Vals ((eK ig ns).map V.int) out.toList
theorem GU{xs:List (Value×Value)}(hi:IntsAre vs ns)(ok:∀n∈ns,oZ n=true)(keys:List Value)(hl:keys.length=vs.length)(hp:xs.Perm (keys.zip vs))(hs:TS.Sd Lu xs):Vals ((eK ig ns).map V.int) (xs.map (·.2)):=by
 have p1:(xs.map (·.2)).Perm vs:=by
  have:=hp.map (·.2)
  rwa[List.map_snd_zip (by omega)]at this
 have allI:∀v∈xs.map (·.2),∃n t,v=Value.int n t:=λv hv=>by
  obtain⟨n,t,e⟩:=hi.all v (p1.mem_iff.mp hv)
  exact⟨n,t,e⟩
 have i1:=intsAre_map (xs.map (·.2)) allI
 have p2:((xs.map (·.2)).map numOf).Perm ns:=by
  have:=p1.map numOf
  rwa[hi.nums]at this
 have s1:((xs.map (·.2)).map numOf).Pairwise (λa b=>ig a<=ig b):=by
  rw[List.map_map,List.pairwise_map]
  exact hs
 have e:(xs.map (·.2)).map numOf=eK ig ns:=qa (p2.trans (gz ig ns).symm) s1 (kr ig ns) λn hn=>ok n ((gz ig ns).mem_iff.mp hn)
 rw[<-e]
 exact o9 i1
theorem vi{E:Value->Shared->Prop}{st:SortSt}{keys:Array Value}{e:Nat}(I:Inv X (pins++[(kS,seqObj "list" keys e),(D,seqObj "list" #[] e1)]) σ H s)(Lv:kS≠D)(np:∀p∈X.pn++pins,p.1≠kS/\p.1≠D)(aS:X.s₀.heap.objs.size<=kS)(aD:X.s₀.heap.objs.size<=D)
  (hi:IntsAre vs ns)(ok:∀n∈ns,oZ n=true)(o7:keys.size=vs.length)(sE:vs.length<=5000)(hp:(arrOf st).Perm (keys.zip vs.toArray))(hs:TS.Sd Lu (arrOf st).toList)(hf:failedOf st=none){P:PySem.Fin->Shared->Prop}
  {H0:Hp}(sm:aH H0 H)(q:∀s',rb X pins σ H0 D ns s'->P (.done (.ret .none)) s'):wpAny (model X.prog X.w) X.A (ksk_tail D false e1 (.ref kS) st) P E s:=by
 have hk:=(I.pin (kS,seqObj "list" keys e) (List.mem_append_right _ (List.mem_append_right _ (List.mem_cons_self ..)))).1
 have hd:=(I.pin (D,seqObj "list" #[] e1) (List.mem_append_right _ (List.mem_append_right _ (List.mem_cons_of_mem _ (List.mem_cons_self ..))))).1
 have s1:=Heap.SameBut.update s.heap kS (Obj.mapSeq λ_=>(#[]:Array Value))
 have nk:=get?_update_seq hk λ_=>(#[]:Array Value)
 have OF:(s.heap.update kS (Obj.mapSeq λ_=>(#[]:Array Value))).get? D=some (seqObj "list" #[] e1):=(s1.2 D Lv.symm).trans hd
 have Wx:(arrOf st).size=vs.length:=by rw[hp.size_eq,Array.size_zip,o7,List.size_toArray,Nat.min_self]
 have zl:(5000:Nat)<=sizeLine:=by decide
 unfold ksk_tail
 refine wpAny_bind (listUpdate_at hk rfl ?_ (by omega) (Nat.zero_le _))
 refine wpAny_bind (wpAny_letGo ?_)
 refine wpAny_bind (seqEpoch_at OF rfl ?_)
 refine wpAny_bind (listUpdate_at OF rfl ?_ (Nat.zero_le _) (by
  simp only[Bool.false_eq_true,if_false,Array.size_map]
  omega))
 rw[hf]
 simp only[bne_self_eq_false,Bool.false_eq_true,if_false]
 refine wpAny_pure (q _ ?_)
 have I1:=oj (t':=s.toks) I (λp hp=>by
  rcases List.mem_append.mp hp with z|z
  ·exact(np p (List.mem_append_left _ z)).1
  ·rcases List.mem_append.mp z with z|z
   ·exact(np p (List.mem_append_right _ z)).1
   ·have:p=(D,seqObj "list" #[] e1):=by simpa using z
    rw[this]
    exact Lv.symm) aS (λb u hb e=>(s1.2 b hb).trans e) nk (λv z=>by cases z)
 have I2:Inv X ([]++(D,seqObj "list" #[] e1)::pins) σ H {s with heap:=s.heap.update kS (Obj.mapSeq λ_=>(#[]:Array Value)),toks:=s.toks}:=I1.eI λp hp=>by
  rcases List.mem_cons.mp hp with rfl|hp
  ·exact I1.pin _ (List.mem_append_right _ (List.mem_append_right _ (List.mem_cons_of_mem _ (List.mem_cons_self ..))))
  ·exact I1.pin _ (List.mem_append_right _ (List.mem_append_left _ hp))
 have s2:=Heap.SameBut.update (s.heap.update kS (Obj.mapSeq λ_=>(#[]:Array Value))) D (Obj.mapSeq λ_=>(arrOf st).map (·.2))
 obtain⟨c2,nd⟩:∃c2,((s.heap.update kS (Obj.mapSeq λ_=>(#[]:Array Value))).update D (Obj.mapSeq λ_=>(arrOf st).map (·.2))).get? D=some (seqObj "list" ((arrOf st).map (·.2)) c2):=⟨_,get?_update_seq OF λ_=>(arrOf st).map (·.2)⟩
 have I3:=oj (t':=s.toks) I2 (λp hp=>(np p (by simpa using hp)).2) aD (λb u hb e=>(s2.2 b hb).trans e) nd (λv z=>by cases z)
 refine⟨H,(arrOf st).map (·.2),c2,sm,I3.eI λp hp=>?_,?_⟩
 ·rcases List.mem_append.mp hp with z|z
  ·exact I3.pin p (List.mem_append_right _ (List.mem_append_right _ (List.mem_cons_of_mem _ z)))
  ·have:p=(D,seqObj "list" ((arrOf st).map (·.2)) c2):=List.mem_singleton.mp z
   rw[this]
   exact I3.pin _ (List.mem_append_right _ (List.mem_append_right _ (List.mem_cons_self ..)))
 ·have:=GU (xs:=(arrOf st).toList) hi ok keys.toList (by simpa using o7) (by
    have:=Array.perm_iff_toList_perm.mp hp
    rwa[ksk_zip]at this) hs
  simpa using this
theorem GV{E:Value->Shared->Prop}{keys:Array Value}{e:Nat}(I:Inv X (pins++[(kS,seqObj "list" keys e),(D,seqObj "list" #[] e1)]) σ H s)(Lv:kS≠D)(np:∀p∈X.pn++pins,p.1≠kS/\p.1≠D)(aS:X.s₀.heap.objs.size<=kS)(aD:X.s₀.heap.objs.size<=D)(hu:X.A.units+5<cLine)
  (ho:∀n m,oZ n=true->oZ m=true->(if kI n=kI m then pC (kL n) (kL m)else decide (kI n<kI m))=decide (ig n<ig m))
  (hi:IntsAre vs ns)(ok:∀n∈ns,oZ n=true)(o7:keys.size=vs.length)(sE:vs.length<=5000)(hg:∀p∈keys.toList.zip vs,EI X.K κ H kI kL p){P:PySem.Fin->Shared->Prop}
  {H0:Hp}(sm:aH H0 H)(q:∀s',rb X pins σ H0 D ns s'->P (.done (.ret .none)) s'):wpAny (model X.prog X.w) X.A (ksk_end D false vs.toArray e1 (.ref kS) keys) P E s:=by
 have gd:TS.Gd (EI X.K κ H kI kL) (keys.zip vs.toArray):=λp hp=>hg p (by rwa[ksk_zip]at hp)
 unfold ksk_end
 simp only[Bool.false_eq_true,if_false]
 by_cases h2:vs.toArray.size<2
 ·rw[if_pos h2,if_pos h2]
  refine wpAny_bind (wpAny_pure ?_)
  rw[StateT.run_pure]
  refine wpAny_bind (wpAny_pure ?_)
  try dsimp only
  refine vi (st:=SortSt.mk' general' (keys.zip vs.toArray) #[] 7 none) I Lv np aS aD hi ok o7 sE (Array.Perm.refl _) ?_ rfl sm q
  show TS.Sd Lu (keys.zip vs.toArray).toList
  rw[List.size_toArray]at h2
  have hl:(keys.zip vs.toArray).toList.length<=1:=by
   rw[Array.length_toList,Array.size_zip,o7,List.size_toArray]
   omega
  generalize(keys.zip vs.toArray).toList=l at hl
  match l,hl with
  |[],_=>exact List.Pairwise.nil
  |[x],_=>exact List.pairwise_singleton _ _
  |_::_::_,hl=>simp at hl
 ·rw[if_neg h2,if_neg h2]
  have Gk:keys.toList≠[]:=λz=>by
   have:keys.size=0:=by rw[<-Array.length_toList,z];rfl
   rw[List.size_toArray]at h2
   omega
  have ek:keys=keys.toList.toArray:=by simp
  have Nk:∀v∈keys.toList,∃i,wo s.heap v i:=λv hv=>by
   obtain⟨j,hj,e⟩:=List.getElem_of_mem hv
   have Tn:j<vs.length:=by rw[<-o7,<-Array.length_toList];exact hj
   have hm:(v,vs[j])∈keys.toList.zip vs:=by
    rw[List.mem_iff_getElem?]
    exact⟨j,by rw[List.getElem?_zip_eq_some];exact⟨by rw[<-e];exact List.getElem?_eq_getElem hj,List.getElem?_eq_getElem Tn⟩⟩
   exact(hg _ hm).pair I
  have VA:∀(Q:SortKind->Shared->Prop),Q (tuples' true) s->wpAny (model X.prog X.w) X.A (keyKind' keys) Q E s:=λQ hq=>by
   rw[ek]
   exact ur Nk Gk hq
  refine wpAny_bind (VA _ ?_)
  refine wpAny_bind (wpAny_mono (TS.yA (EJ I hu ho) gd (st:=SortSt.mk' (tuples' true) (keys.zip vs.toArray) #[] 7 none)
   (Q:=λ_ aN=>TS.Bs (tuples' true) (keys.zip vs.toArray) aN/\TS.Sd Lu (arrOf aN).toList) ⟨Array.Perm.refl _,rfl,rfl⟩ rfl λaN B sd=>⟨B,sd⟩) ?_ λ_ _ e=>e)
  rintro⟨⟨⟩,aN⟩ s' ⟨rfl,B,sd⟩
  try dsimp only
  exact vi I Lv np aS aD hi ok o7 sE B.pm sd B.f sm q
theorem EL{E:Value->Shared->Prop}{k:Nat}{f:Addr}{fd:FuncData}{x:Str}{F:List PV->Option PV}(FO:aL X.prog X.w X.K X.mg X.base cv k f fd [x] (cT X.K κ false F))(hr:cx k X.A)(hb:Binds X.K fd [x] [])(hx:∀e s',¬X.xe e s')
  (hF:∀n,oZ n=true->F [.int n]=some (.tup [.int (kI n),.lst ((kL n).map PV.int)]))
  (I:Inv X (pins++[(kS,seqObj "list" #[] 0),(D,seqObj "list" #[] e1)]) σ H s)(Lv:kS≠D)(np:∀p∈X.pn++pins,p.1≠kS/\p.1≠D)(aS:X.s₀.heap.objs.size<=kS)(aD:X.s₀.heap.objs.size<=D)
  (ho:∀n m,oZ n=true->oZ m=true->(if kI n=kI m then pC (kL n) (kL m)else decide (kI n<kI m))=decide (ig n<ig m))
  (hi:IntsAre vs ns)(ok:∀n∈ns,oZ n=true)(sE:vs.length<=5000){P:PySem.Fin->Shared->Prop}
  (q:∀s',rb X pins σ H D ns s'->P (.done (.ret .none)) s'):wpAny (model X.prog X.w) X.A (ksk_rest D (.ref f) false vs.toArray e1 (.ref kS)) P E s:=by
 have zl:(5000:Nat)<=sizeLine:=by decide
 unfold ksk_rest
 refine wpAny_bind (wpAny_rule ?_)
 rw[List.forIn_toArray]
 refine wpAny_bind (ksk_fold (λi s'=>∃H' kA e,kA.size=i/\Inv X (pins++[(kS,seqObj "list" kA e),(D,seqObj "list" #[] e1)]) σ H' s'/\aH H H'/\∀p∈kA.toList.zip vs,EI X.K κ H' kI kL p) vs 0 s
  ⟨H,#[],0,rfl,I,aH.refl _,by simp⟩ ?step ?done)
 case step=>
  rintro j v s' hv ⟨H',kA,e,o7,I',sm,hk⟩
  rw[Nat.zero_add]at o7⊢
  have hj:j<vs.length:=(List.getElem?_eq_some_iff.mp hv).1
  obtain⟨n,t,rfl⟩:=hi.all v (List.mem_of_getElem? hv)
  have hn:oZ n=true:=by
   have h1:=hi.nums
   have h2:(vs.map numOf)[j]?=some n:=by rw[List.getElem?_map,hv];rfl
   rw[h1]at h2
   exact ok n (List.mem_of_getElem? h2)
  have KW:cT X.K κ false F [.int n] H' (λv H2=>aH H' H2/\Rep X.K κ H2 v (.tup [.int (kI n),.lst ((kL n).map PV.int)])) E0:=
   ⟨λ_=>False,[.int n],_,λ_ z=>z.elim,.cons (.int n) .nil,hF n hn,λv H2 s z=>⟨s,Rep.mono ax z⟩⟩
  refine wpAny_bind (wpAny_attempt (wpAny_mono (vL FO hr hb .nil mz I' (.cons ⟨t,rfl⟩ .nil:Vals [.int n] [.int n t]) KW) (λu s2 hu=>?_) λe' s2 To=>(hx _ _ To).elim))
  obtain⟨v',H2,I2,rv,oY,rp⟩:=hu
  try dsimp only
  have nk:=(I2.pin (kS,seqObj "list" kA e) (List.mem_append_right _ (List.mem_append_right _ (List.mem_cons_self ..)))).1
  have s1:=Heap.SameBut.update s2.heap kS (Obj.mapSeq (·.push u))
  obtain⟨c2,RE⟩:∃c2,(s2.heap.update kS (Obj.mapSeq (·.push u))).get? kS=some (seqObj "list" (kA.push u) c2):=⟨_,get?_update_seq nk (·.push u)⟩
  refine wpAny_bind (listUpdate_at nk rfl ?_ (by omega) (Nat.le_trans (Nat.le_of_eq (Array.size_push ..)) (by omega)))
  refine wpAny_pure ⟨rfl,H2,kA.push u,c2,by rw[Array.size_push,o7],?_,sm.trans oY,λp hp=>?_⟩
  ·exact oj (t':=s2.toks) I2 (λp hp=>by
    rcases List.mem_append.mp hp with z|z
    ·exact(np p (List.mem_append_left _ z)).1
    ·rcases List.mem_append.mp z with z|z
     ·exact(np p (List.mem_append_right _ z)).1
     ·have:p=(D,seqObj "list" #[] e1):=List.mem_singleton.mp z
      rw[this]
      exact Lv.symm) aS (λb o hb e=>(s1.2 b hb).trans e) RE (λv z=>by cases z)
  ·obtain⟨i,hp⟩:=List.mem_iff_getElem?.mp hp
   obtain⟨g1,g2⟩:=List.getElem?_zip_eq_some.mp hp
   rw[Array.toList_push,List.getElem?_append]at g1
   split at g1
   ·obtain⟨n',t',a,z1,z2,z3,z4⟩:=hk p (List.mem_iff_getElem?.mpr ⟨i,List.getElem?_zip_eq_some.mpr ⟨g1,g2⟩⟩)
    exact⟨n',t',a,z1,z2,z3,z4.mono oY⟩
   ·rename_i jX
    have Tj:i=j:=by
     have:=(List.getElem?_eq_some_iff.mp g1).1
     rw[Array.length_toList,o7]at this jX
     simp at this
     omega
    subst Tj
    rw[Array.length_toList,o7,Nat.sub_self]at g1
    simp at g1
    rw[hv]at g2
    cases rp with
    |tup q1 w=>
     cases rv
     exact⟨n,t,_,hn,(Option.some.inj g2).symm,g1.symm,.tup q1 w⟩
 case done=>
  rintro s' ⟨H',kA,e,o7,I',sm,hk⟩
  rw[Nat.zero_add]at o7
  have nk:=(I'.pin (kS,seqObj "list" kA e) (List.mem_append_right _ (List.mem_append_right _ (List.mem_cons_self ..)))).1
  try dsimp only
  refine wpAny_bind (listItems_at nk rfl ?_)
  exact GV I' Lv np aS aD (by have:=hr.units;omega) ho hi ok o7 sE hk sm q
theorem EM{E:Value->Shared->Prop}{k n:Nat}{f:Addr}{fd:FuncData}{x:Str}{F:List PV->Option PV}(FO:aL X.prog X.w X.K X.mg X.base cv k f fd [x] (cT X.K κ false F))(hr:cx k X.A)(hb:Binds X.K fd [x] [])(hx:∀e s',¬X.xe e s')
  (hF:∀n,oZ n=true->F [.int n]=some (.tup [.int (kI n),.lst ((kL n).map PV.int)]))
  (I:Inv X (pins++[(D,seqObj "list" vs.toArray n)]) σ H s)(np:∀p∈X.pn++pins,p.1≠D)(aD:X.s₀.heap.objs.size<=D)
  (ho:∀n m,oZ n=true->oZ m=true->(if kI n=kI m then pC (kL n) (kL m)else decide (kI n<kI m))=decide (ig n<ig m))
  (hi:IntsAre vs ns)(ok:∀n∈ns,oZ n=true)(sE:vs.length<=5000){P:PySem.Fin->Shared->Prop}
  (q:∀s',rb X pins σ H D ns s'->P (.done (.ret .none)) s'):wpAny (model X.prog X.w) X.A (ksk_tree D (.ref f) false) P E s:=by
 have zl:(5000:Nat)<=sizeLine:=by decide
 have hd:=(I.pin (D,seqObj "list" vs.toArray n) (List.mem_append_right _ (List.mem_append_right _ (List.mem_cons_self ..)))).1
 have s1:=Heap.SameBut.update s.heap D (Obj.mapSeq λ_=>(#[]:Array Value))
 obtain⟨e1,OF⟩:∃e1,(s.heap.update D (Obj.mapSeq λ_=>(#[]:Array Value))).get? D=some (seqObj "list" #[] e1):=⟨_,get?_update_seq hd λ_=>#[]⟩
 unfold ksk_tree
 refine wpAny_bind (listItems_at hd rfl ?_)
 refine wpAny_bind (listUpdate_at hd rfl ?_ (by rw[List.size_toArray];omega) (Nat.zero_le _))
 refine wpAny_bind (seqEpoch_at OF rfl ?_)
 refine wpAny_bind (wpAny_newTuple ?_ (by show vs.length<=_;omega))
 refine wpAny_bind (wpAny_newList ?_ (Nat.zero_le _))
 refine wpAny_holding ?_
 have I1:=oj (t':=s.toks) I (λp hp=>np p (by simpa using hp)) aD (λb u hb e=>(s1.2 b hb).trans e) OF (λv z=>by cases z)
 have I2:Inv X (pins++[(D,seqObj "list" #[] e1)]) σ H {s with heap:=(s.heap.update D (Obj.mapSeq λ_=>(#[]:Array Value))).push (seqObj "tuple" vs.toArray 0),toks:=s.toks}:=I1.kept (t':=s.toks) λb o e=>Heap.get?_push_of_some _ e
 have I3:=Du (o:=seqObj "list" #[] 0) (t':=s.toks) I2 (λv z=>by cases z) (λb o e=>Heap.get?_push_of_some _ e) (Nat.le_refl _) (Heap.get?_push_size _ rfl)
 have RK:=Dv I2
 have hD:D<((s.heap.update D (Obj.mapSeq λ_=>(#[]:Array Value))).push (seqObj "tuple" vs.toArray 0)).objs.size:=RK (D,seqObj "list" #[] e1) (List.mem_append_right _ (List.mem_append_right _ (List.mem_cons_self ..)))
 refine EL FO hr hb hx hF (kS:=((s.heap.update D (Obj.mapSeq λ_=>(#[]:Array Value))).push (seqObj "tuple" vs.toArray 0)).objs.size) (I3.eI λp hp=>?_) (Nat.ne_of_gt hD) (λp hp=>⟨Nat.ne_of_lt (RK p ?_),np p hp⟩) (Nat.le_trans aD (Nat.le_of_lt hD)) aD ho hi ok sE q
 ·refine I3.pin p (List.mem_append_right _ ?_)
  rcases List.mem_append.mp hp with z|z
  ·exact List.mem_append_left _ (List.mem_append_left _ z)
  ·rcases List.mem_cons.mp z with rfl|z
   ·exact List.mem_append_right _ (List.mem_cons_self ..)
   ·exact List.mem_append_left _ (List.mem_append_right _ z)
 ·rcases List.mem_append.mp hp with z|z
  ·exact List.mem_append_left _ z
  ·exact List.mem_append_right _ (List.mem_append_left _ z)
end
section
variable{X:Cx}{pins:List (Addr×Obj)}{σ:St}{H:Hp}{s:Shared}{κ:Kl}{vs:List Value}{ns:List Int}
theorem om{k:Nat}{f:Addr}{fd:FuncData}{x:Str}{F:List PV->Option PV}{Q:VK}(FO:aL X.prog X.w X.K X.mg X.base cv k f fd [x] (cT X.K κ false F))(hr:cx k X.A.in1.in1)(hb:Binds X.K fd [x] [])(hK:eL F)
  (I:Inv X pins σ H s)(hi:IntsAre vs ns)(ok:kq ns=true)(q:∀D H',aH H H'->H' D=none->Q (.ref D) (upd H' D (.lst ((eK ig ns).map V.int)))):
  wpAny (model X.prog X.w) X.A.in1 (do let l<-newList vs;let _<-holding [l] (call (.builtin "list.sort") [l] [(Str.ofString "key",.ref f)]);ret l) (λfin s'=>∃v,fin=.done (.ret v)/\EP X pins σ Q v s') X.xe s:=by
 have zl:(5000:Nat)<=sizeLine:=by decide
 obtain⟨kI,kL,hF,ho⟩:=hK
 unfold kq at ok
 simp only[Bool.and_eq_true,decide_eq_true_eq,List.all_eq_true]at ok
 have hlen:=hi.length
 refine wpAny_bind (wpAny_newList ?_ (by omega))
 have I1:=Du (o:=seqObj "list" vs.toArray 0) (t':=s.toks) I (λv z=>by cases z) (λb o e=>Heap.get?_push_of_some _ e) (Nat.le_refl _) (Heap.get?_push_size _ rfl)
 have R4:(s.heap.push (seqObj "list" vs.toArray 0)).get? s.heap.objs.size=some (seqObj "list" vs.toArray 0):=Heap.get?_push_size _ rfl
 have np:∀p∈X.pn++pins,p.1≠s.heap.objs.size:=λp hp=>Nat.ne_of_lt (Dv I p hp)
 refine wpAny_bind (wpAny_holding (wpAny_call_entry_kw slot_list_sort ⟨_,R4,rfl⟩ entry_list_sort ?body (ksk_l1 _ _)))
 case body=>
  rw[ksk_t1]
  refine EM (X:=RL X) (pins:=pins) (σ:=σ) (H:=H) (D:=s.heap.objs.size) (n:=0) FO hr hb (λ_ _ z=>z) hF (JV I1) np I.sz ho hi ok.1 (by omega) λs' VB=>⟨_,rfl,?_⟩
  obtain⟨H',out,c,sm,I2,hv⟩:=VB
  have I3:=GR I.ok I2
  have VC:=GS (rest:=[]) I3 (λp hp=>np p (by simpa using hp)) I.sz
  obtain⟨h1,h2,h3,h4,h5,h6⟩:=VC
  have I4:Inv X pins σ H' s':=I3.eI λp hp=>I3.pin p (List.mem_append_right _ (List.mem_append_left _ hp))
  have hz:((eK ig ns).map V.int).length<=sizeLine:=by
   rw[List.length_map,(gz ig ns).length_eq]
   omega
  refine wpAny_pure ⟨_,rfl,.ref _,_,EK (its:=out.toList) (n:=c) I4 (by simpa using h1) h2 h3 I.sz h6 np hv hz,rfl,q _ H' sm h2⟩
theorem pH{k:Nat}{f l:Addr}{fd:FuncData}{x:Str}{F:List PV->Option PV}{Q:VK}(FO:aL X.prog X.w X.K X.mg X.base cv k f fd [x] (cT X.K κ false F))(hr:cx k X.A.in1.in1)(hb:Binds X.K fd [x] [])(hK:eL F)
  (I:Inv X pins σ H s)(hq:gD X.K H l (ns.map V.int))(ok:kq ns=true)(q:∀D H',aH H H'->H' D=none->Q (.ref D) (upd H' D (.lst ((eK ig ns).map V.int)))):
  wpAny (model X.prog X.w) X.A (call (.builtin "sorted") [.ref l] [(Str.ofString "key",.ref f)]) (EP X pins σ Q) X.xe s:=by
 obtain⟨its,rv,pl,hz⟩:=I.list hq
 have hi:=intsAre_of rv
 refine call_function_entry_kw kind_sorted plain_sorted entry_sorted (ksk_s1 _ _) ?_
 unfold Builtin.«sorted»
 refine wpAny_bind (m:=checkCount "sorted" 1 1 _) (wpAny_pure ?_)
 refine wpAny_bind (collect_list pl.isList ?_ (by rw[<-rv.length];exact hz))
 have I1:Inv X pins σ H {s with heap:=(s.heap.push (seqObj "list" #[] 0)).update s.heap.objs.size (Obj.mapSeq (·++its.toArray)),toks:=s.toks}:=I.kept λb o e=>by
  have jX:b<s.heap.objs.size:=Heap.lt_size e
  rw[Heap.get?_update_ne _ _ _ _ (Nat.ne_of_lt jX)]
  exact Heap.get?_push_of_some _ e
 exact om FO hr hb hK I1 hi ok q
end
section
variable{prog:Program}{w:World}{A:Around}{E:Value->Shared->Prop}{s:Shared}
theorem uu:∀(n:Nat) (acc:List Value),acc.length=n->(∀j v,acc[j]?=some v->∃t,v=Value.int ((j:Nat):Int) t)->∃ns,ns=(List.range n).map (λ(k:Nat)=>(k:Int))/\IntsAre acc ns:=by
 have go:∀(acc:List Value) (i:Nat),(∀j v,acc[j]?=some v->∃t,v=Value.int ((i+j:Nat):Int) t)->IntsAre acc ((List.range' i acc.length).map (λ(k:Nat)=>(k:Int))):=by
  intro acc
  induction acc with
  |nil=>intro i _;exact .nil
  |cons v acc ih=>
   intro i h
   obtain⟨t,rfl⟩:=h 0 v rfl
   rw[List.length_cons,List.range'_succ,List.map_cons]
   refine .cons _ t (ih (i+1) λj v e=>?_)
   obtain⟨t,e⟩:=h (j+1) v (by simpa using e)
   exact⟨t,by rw[e];congr 2;omega⟩
 intro n acc hl h
 refine⟨_,rfl,?_⟩
 have:=go acc 0 (λj v e=>by simpa using h j v e)
 rwa[hl,<-List.range_eq_range']at this
theorem uv{r:Addr}{n:Nat}{j:Int}{t u v:Tok}{Q:List Value->Shared->Prop}(hh:A.handled=none)(hr:IsRange s.heap r 0 j 1 t u v)(hj:j.toNat=n)(hn:n<=100000)(h0:-(2^62)<=j)
  (h:∀h' tk vs,(∀b o,s.heap.get? b=some o->h'.get? b=some o)->IntsAre vs ((List.range n).map (λ(k:Nat)=>(k:Int)))->Q vs {s with heap:=h',toks:=tk}):wpAny (model prog w) A (collect (.ref r)) Q E s:=by
 have Tn:j<2^62:=by omega
 unfold collect
 refine wpAny_bind (wpAny_runValue (codeAny_builtin entry_proto_collect' ?_))
 show wpAny _ _ (do again (.builtin "list.__iadd__" ⟨[<-newList [],.ref r],[]⟩)) _ _ s
 refine wpAny_bind (wpAny_newList (wpAny_pure ⟨Code.quiet_builtin _ (by decide+kernel),codeAny_builtin entry_list_iadd' ?_⟩))
 show wpAny _ _ (Builtin.List.listExtendWith (.ref s.heap.objs.size) (.ref r) (.ref s.heap.objs.size)) _ _ {s with heap:=s.heap.push (seqObj "list" #[] 0)}
 rw[Around.under_plainId (show plainId "list.__iadd__" =true by decide+kernel) _]
 refine wpAny_extend_range (R:=λr s'=>match r with|.ok (.ret v)=>wpAny (model prog w) A (match v with|.ref a=>(do let o<-load a;match o.data with|.seq xs _=>pure xs.toList|_=>unsupported "internal:collect")|_=>unsupported "internal:collect") Q E s'|.ok _=>False|.error e=>E e s') (s:={s with heap:=s.heap.push (seqObj "list" #[] 0)}) (n:=n) (c₀:=0) hh (Heap.get?_push_of_some _ hr) (a:=0) (b:=j) (c:=1) (small_one (by decide) (by decide) h0 Tn) (by rw[rangeSize_one];split<;>omega) (by omega) s.heap.objs.size _ (Heap.get?_push_size _ rfl) λh' tk acc c hk hS hI=>?_
 refine wpAny_bind (wpAny_load hS ?_)
 obtain⟨ns,rfl,hi⟩:=uu n acc.toList (by rw[Array.length_toList];exact hI.1) (λj v e=>by
  obtain⟨t,e'⟩:=hI.2 j v (by simpa using e)
  exact⟨t,by rw[e'];simp⟩)
 exact wpAny_pure (h h' tk acc.toList (λb o e=>hk b o (Nat.ne_of_lt (Heap.lt_size e)) (Heap.get?_push_of_some _ e)) hi)
end
section
variable{X:Cx}{κ:Kl}{k:Nat}{f:Addr}{fd:FuncData}{x:Str}{F:List PV->Option PV}
noncomputable def Tp(K:PySem.W.Frag)(v:V)(H:Hp)(ns:List Int):Prop:=∃l,v=.ref l/\(gD K H l (ns.map V.int)\/∃j:Int,H l=some (.rng 0 j)/\-(2^62)<=j/\j.toNat<=100000/\ns=(List.range j.toNat).map (λ(k:Nat)=>(k:Int)))
theorem y7{pins:List (Addr×Obj)}{σ:St}{H:Hp}{s:Shared}{ns:List Int}{v:V}{u:Value}{Q:VK}(hc:X.calm=true)(FO:aL X.prog X.w X.K X.mg X.base cv k f fd [x] (cT X.K κ false F))(hr:cx k X.A.in1.in1)(hb:Binds X.K fd [x] [])(hK:eL F)
  (I:Inv X pins σ H s)(rv:RelV v u)(hq:Tp X.K v H ns)(ok:kq ns=true)(q:∀D H',aH H H'->H' D=none->Q (.ref D) (upd H' D (.lst ((eK ig ns).map V.int)))):
  wpAny (model X.prog X.w) X.A (call (.builtin "sorted") [u] [(Str.ofString "key",.ref f)]) (EP X pins σ Q) X.xe s:=by
 obtain⟨l,rfl,hq⟩:=hq
 cases rv
 rcases hq with hq|⟨j,hq,h1,h2,rfl⟩
 ·exact pH FO hr hb hK I hq ok q
 ·obtain⟨t,u,v,VD⟩:=I.dh l _ hq
  refine call_function_entry_kw kind_sorted plain_sorted entry_sorted (ksk_s1 _ _) ?_
  unfold Builtin.«sorted»
  refine wpAny_bind (m:=checkCount "sorted" 1 1 _) (wpAny_pure ?_)
  refine wpAny_bind (uv (A:=X.A.in1) (I.ok.hd hc) VD rfl h2 h1 λh' tk vs hk hi=>?_)
  exact om FO hr hb hK (I.kept (t':=tk) hk) hi ok q
noncomputable def Qd(K:PySem.W.Frag)(te:TE):TE:=λσ H Q=>te σ H λv H1=>∃ns,Tp K v H1 ns/\kq ns=true/\∀D H',aH H1 H'->H' D=none->Q (.ref D) (upd H' D (.lst ((eK ig ns).map V.int)))
theorem vj{p px pos kp:Pos}{a:Expr}{y:Str}{te:TE}(FO:aL X.prog X.w X.K X.mg X.base cv k f fd [x] (cT X.K κ false F))(hr:cx (k+2) X.A)(hb:Binds X.K fd [x] [])(hK:eL F)(hm:X.mg "sorted" =none)(hy:X.mg y=some (.ref f))(ha:PE X a te)
  (hg:Gl X "sorted" :=by rfl)(Qe:Gl X y:=by rfl)(hc:X.calm=true:=by rfl)(EN:(y==("__debug__" :Str))=false:=by decide)(hs:starEach [a] X.env=(false,eval a X.env)::starEach [] X.env:=by rfl)(Qf:backTo pos (starEach [a] X.env)=(false,eval a X.env)::backTo pos (starEach [] X.env):=by rfl)
  (Lc:(backToKw pos (keywordEach [⟨some "key",.Name y px,kp⟩] X.env)).filterMap (·.1)=[Str.ofString "key"]:=by rfl)(vS:(backToKw pos (keywordEach [⟨some "key",.Name y px,kp⟩] X.env)).all (·.1.isSome)=true:=by rfl)(Qg:(backToKw pos (keywordEach [⟨some "key",.Name y px,kp⟩] X.env)).any (·.1.isNone)=false:=by rfl)
  (hpl:(backTo pos (starEach [a] X.env)).any (·.1)=false:=by rfl):PE X (.Call (.Name "sorted" p) [a] [⟨some "key",.Name y px,kp⟩] pos) (Qd X.K te):=by
 intro pins s σ H Q I h
 refine wpAny_Call_Name_kw (mJ I hg hm PyProof.Rows.boot_sorted ?_)
 have hA:=(aP ha bQ hs) pos pins s σ H (λvs H1=>match vs with|[v]=>(∃ns,Tp X.K v H1 ns/\kq ns=true/\∀D H',aH H1 H'->H' D=none->Q (.ref D) (upd H' D (.lst ((eK ig ns).map V.int))))|_=>False) I h
 refine PyProof.Rows.callWith_kw (dF hA λus s1 cL=>?_) Qf hpl vS Qg
 obtain⟨vs,H1,I1,r1,q1⟩:=cL
 try dsimp only at q1
 split at q1
 ·rename_i v
  obtain⟨ns,VE,ok,q⟩:=q1
  obtain⟨u,rfl,ru⟩:=r1.one
  have VF:=(Jj (nm:=some "key") (kpos:=kp) (vJ (pos:=px) (v:=.ref f) Qe hy rfl EN) Mu:PK X [⟨some "key",.Name y px,kp⟩] _) pos pins s1 σ H1 (λzs H2=>zs=[.ref f]/\H2=H1) I1 ⟨rfl,rfl⟩
  refine dF VF λws s2 cL=>?_
  obtain⟨zs,H2,I2,rz,e1,e2⟩:=cL
  subst e1 e2
  obtain⟨u2,rfl,Tf⟩:=rz.one
  cases Tf
  rw[Lc]
  exact y7 hc FO (hr.in1).in1 hb hK I2 ru VE ok q
 ·exact q1.elim
theorem EO{p pos:Pos}{a:Expr}{te:TE}(hm:X.mg "range" =none)(ha:PE X a te)(hg:Gl X "range" :=by rfl)(hs:starEach [a] X.env=[(false,eval a X.env)]:=by rfl):
  PE X (.Call (.Name "range" p) [a] [] pos) (λσ H Q=>te σ H λv H1=>∃j:Int,v=.int j/\∀l,H1 l=none->Q (.ref l) (upd H1 l (.rng 0 j))):=by
 intro pins s σ H Q I h
 have hA:=(aP ha bQ hs) pos pins s σ H (λvs H1=>match vs with|[v]=>(∃j:Int,v=.int j/\∀l,H1 l=none->Q (.ref l) (upd H1 l (.rng 0 j)))|_=>False) I h
 refine Call_ (mJ I hg hm boot_range (PyProof.Rows.callWith_type1 (dF hA λus s1 cL=>?_) hs rfl))
 obtain⟨vs,H1,I1,r1,q1⟩:=cL
 try dsimp only at q1
 split at q1
 ·obtain⟨j,rfl,q⟩:=q1
  obtain⟨u,rfl,t,rfl⟩:=r1.one
  refine call_range_1 ⟨.ref s1.heap.objs.size,_,I1.laid (a:=s1.heap.objs.size) (o:=.rng 0 j) (t':=s1.toks+1+1) (λb o e=>Heap.get?_push_of_some _ e) (Nat.le_refl _) ?_,rfl,q _ I1.fresh⟩
  exact⟨_,_,_,Heap.get?_push_size _ rfl⟩
 ·exact q1.elim
theorem BF{p px pos kp:Pos}{a:Expr}{y:Str}{fa:Den}(FO:aL X.prog X.w X.K X.mg X.base cv k f fd [x] (cT X.K κ false F))(hr:cx (k+2) X.A)(hb:Binds X.K fd [x] [])(hK:eL F)(hm:X.mg "sorted" =none)(hy:X.mg y=some (.ref f))(ha:DB X κ a fa)
  (hg:Gl X "sorted" :=by rfl)(Qe:Gl X y:=by rfl)(hc:X.calm=true:=by rfl)(EN:(y==("__debug__" :Str))=false:=by decide)(hs:starEach [a] X.env=(false,eval a X.env)::starEach [] X.env:=by rfl)(Qf:backTo pos (starEach [a] X.env)=(false,eval a X.env)::backTo pos (starEach [] X.env):=by rfl)
  (Lc:(backToKw pos (keywordEach [⟨some "key",.Name y px,kp⟩] X.env)).filterMap (·.1)=[Str.ofString "key"]:=by rfl)(vS:(backToKw pos (keywordEach [⟨some "key",.Name y px,kp⟩] X.env)).all (·.1.isSome)=true:=by rfl)(Qg:(backToKw pos (keywordEach [⟨some "key",.Name y px,kp⟩] X.env)).any (·.1.isNone)=false:=by rfl)
  (hpl:(backTo pos (starEach [a] X.env)).any (·.1)=false:=by rfl):DO X κ (.Call (.Name "sorted" p) [a] [⟨some "key",.Name y px,kp⟩] pos) (p8 (nList fa)):=by
 obtain⟨ta,h1,h2⟩:=ha
 refine⟨_,vj FO hr hb hK hm hy h1 hg Qe hc EN hs Qf Lc vS Qg hpl,λ{G A bo own ρ σ H p Q} r e q=>?_⟩
 obtain⟨l,e1,e2⟩:=Option.bind_eq_some_iff.mp e
 obtain⟨p1,e3,e4⟩:=Option.bind_eq_some_iff.mp e1
 obtain⟨ns,e5,e6⟩:=Option.bind_eq_some_iff.mp e2
 obtain⟨ok,rfl⟩:=bf e6
 refine h2 r e3 λv H1 s1 b1=>?_
 cases p1<;>first|(cases e4;done)|skip
 cases e4
 obtain⟨a,vs,rfl,q1,q2⟩:=b1.lst ax
 rw[wj q2 e5]at q1
 refine⟨ns,⟨a,rfl,.inl q1.sq⟩,ok,λD H2 s2 hD=>?_⟩
 have GH:=s1.trans s2
 refine q _ _ (GH.trans (bM hD)) ?_
 obtain⟨a,ws,l,w1,w2,w3,w4⟩:=(r.mono GH).yO hD (ints_rep (κ:=κ) (eK ig ns))
 refine⟨a,ws,l,w1,w2,?_,w4⟩
 cases w1
 exact GH.free hD
theorem y8:∀n:Nat,fV (fN 0 n)=some ((List.range n).map (λ(k:Nat)=>(k:Int))):=λn=>by
 have:fN 0 n=((List.range n).map (λ(k:Nat)=>(k:Int))).map PV.int:=by
  unfold fN
  rw[List.map_map]
  congr 1
  funext k
  simp
 rw[this,gM]
theorem BG{p px pos kp p2 ER:Pos}{a:Expr}{y:Str}{fa:Den}(FO:aL X.prog X.w X.K X.mg X.base cv k f fd [x] (cT X.K κ false F))(hr:cx (k+2) X.A)(hb:Binds X.K fd [x] [])(hK:eL F)(hm:X.mg "sorted" =none)(VG:X.mg "range" =none)(hy:X.mg y=some (.ref f))(ha:DB X κ a fa)
  (hg:Gl X "sorted" :=by rfl)(VH:Gl X "range" :=by rfl)(VI:starEach [a] X.env=[(false,eval a X.env)]:=by rfl)(Qe:Gl X y:=by rfl)(hc:X.calm=true:=by rfl)(EN:(y==("__debug__" :Str))=false:=by decide)(hs:starEach [.Call (.Name "range" p2) [a] [] ER] X.env=(false,eval (.Call (.Name "range" p2) [a] [] ER) X.env)::starEach [] X.env:=by rfl)
  (Qf:backTo pos (starEach [.Call (.Name "range" p2) [a] [] ER] X.env)=(false,eval (.Call (.Name "range" p2) [a] [] ER) X.env)::backTo pos (starEach [] X.env):=by rfl)
  (Lc:(backToKw pos (keywordEach [⟨some "key",.Name y px,kp⟩] X.env)).filterMap (·.1)=[Str.ofString "key"]:=by rfl)(vS:(backToKw pos (keywordEach [⟨some "key",.Name y px,kp⟩] X.env)).all (·.1.isSome)=true:=by rfl)(Qg:(backToKw pos (keywordEach [⟨some "key",.Name y px,kp⟩] X.env)).any (·.1.isNone)=false:=by rfl)
  (hpl:(backTo pos (starEach [.Call (.Name "range" p2) [a] [] ER] X.env)).any (·.1)=false:=by rfl):DO X κ (.Call (.Name "sorted" p) [.Call (.Name "range" p2) [a] [] ER] [⟨some "key",.Name y px,kp⟩] pos) (p8 (dX fa)):=by
 obtain⟨ta,h1,h2⟩:=ha
 refine⟨_,vj FO hr hb hK hm hy (EO VG h1 VH VI) hg Qe hc EN hs Qf Lc vS Qg hpl,λ{G A bo own ρ σ H p Q} r e q=>?_⟩
 obtain⟨l,e1,e2⟩:=Option.bind_eq_some_iff.mp e
 obtain⟨p1,e3,e4⟩:=Option.bind_eq_some_iff.mp e1
 obtain⟨j,e7,e8⟩:=Option.bind_eq_some_iff.mp e4
 obtain⟨hj,e9⟩:=bf e8
 obtain⟨ns,e5,e6⟩:=Option.bind_eq_some_iff.mp e2
 obtain⟨ok,rfl⟩:=bf e6
 subst e9
 rw[y8]at e5
 cases e5
 simp only[ve,Bool.and_eq_true,decide_eq_true_eq]at hj
 have hlen:j.toNat<=100000:=by
  have:=ok
  unfold kq at this
  simp only[Bool.and_eq_true,decide_eq_true_eq,List.length_map,List.length_range]at this
  omega
 refine h2 r e3 λv H1 s1 b1=>?_
 cases p1<;>first|(cases e7;done)|skip
 cases e7
 refine⟨_,b1.int,λl hl=>⟨_,⟨l,rfl,.inr ⟨_,bE,hj.1,hlen,rfl⟩⟩,ok,λD H2 s2 hD=>?_⟩⟩
 have GH:=(s1.trans (bM hl)).trans s2
 refine q _ _ (GH.trans (bM hD)) ?_
 obtain⟨a,ws,l,w1,w2,w3,w4⟩:=(r.mono GH).yO hD (ints_rep (κ:=κ) (eK ig ((List.range j.toNat).map (λ(k:Nat)=>(k:Int)))))
 refine⟨a,ws,l,w1,w2,?_,w4⟩
 cases w1
 exact GH.free hD
end
section
variable{X:Cx}{κ:Kl}{fr:Bool}{pos:Pos}
theorem GW(i:Nat){y x:Str}{py px yE:Pos}{sc:Scope}{elt iter:Expr}{fi:cM}{f:Den}(hN:X.N.Nodup)(hi:Nb X κ (.Name x px) iter fi)(vd:Scope)(N0 ys:List Str)(he:∀ex C s H,DE (X.pj sc x ys ex C s H) κ elt f)(PH:X.N[i]?=some y:=by rfl)(hy:X.env.scope.names.lookup y=some .local:=by rfl)(BC:X.env.scope=vd:=by rfl)(Nc:X.N=N0:=by rfl)(Gh:kl vd N0 sc x ys=true:=by decide+kernel)(hc:X.calm=true:=by rfl)
  (hs:∀x,foldedSetIterable iter X.env x=pure x:=by intro _;rfl)(PJ:swapsWith (.ListComp elt [⟨.Name x px,iter,[],0⟩] sc pos) (some (.Name y py)) yE.line X.env=pure true:=by rfl):
  DS X κ fr (.Assign [.Name y py] (.ListComp elt [⟨.Name x px,iter,[],0⟩] sc pos) yE) (jY i (bu fi cP f)):=by
 obtain⟨wi,h1,h2⟩:=hi
 refine⟨_,C7 hN PH hy h1 ys (tt:=OD X.K κ cP) (te:=OC X.K κ f) (λex C s H=>?_) (λex C s H=>(he ex C s H).pe) (by rw[BC,Nc];exact Gh) hc hs PJ,λ{G A bo own ρ σ H fl D} r e k=>?_⟩
 ·intro pins s σ H Q I ⟨_,_,_,_,_,_,r,e,q⟩
  cases e
  exact yB pins s σ H Q I (q _ (aH.refl _))
 ·obtain⟨p,e1,e2⟩:=Option.bind_eq_some_iff.mp e
  obtain⟨l,e3,rfl⟩:=Option.map_eq_some_iff.mp e2
  refine n8 h2 r e1 λv H' s z=>?_
  cases p<;>first|(cases e3;done)|skip
  cases e3
  obtain⟨di,r'⟩:=r.P4 s (i:=i) z
  exact k _ _ _ r'
end
end L2.D
namespace L2.D
open PySem
theorem ES{P:Program}{w:World}{K:PySem.W.Frag}{mg:Str->Option Value}{base:Heap}{κ:Kl}{fr:Bool}{k:Nat}{f:Addr}{fd:FuncData}{ps:List Str}:aL P w K mg base cv k f fd ps (cT K κ fr λ_=>none):=
 have no:∀{vs:List V} {H:Hp} {Q:VK} {E:XK},cT K κ fr (λ_=>none) vs H Q E->False:=λ⟨_,_,_,_,_,h2,_⟩=>by cases h2
 ⟨λ_ _ _ _ h=>(no h).elim,λ_ _ _ _ _ _ _ _ _ _ _ _ _ h=>(no h).elim⟩
end L2.D
namespace L2.D
open PySem PySem.Spec PyProof.Rows PySem.SeqAt
section
variable{X:Cx}{κ:Kl}{fr:Bool}{pos:Pos}{a e:Expr}{fa f:Den}
theorem GX{K:PySem.W.Frag}{H:Hp}:∀{vs:List V} {l:List PV} {ns:List Int},aV K κ H vs l->fV l=some ns->vs=ns.map V.int
 |_,_,_,.nil,h=>by cases h;rfl
 |_,p::_,_,.cons r t,h=>by
  cases p<;>first|(cases h;done)|skip
  obtain⟨cs,h1,rfl⟩:=Option.map_eq_some_iff.mp h
  cases r
  rw[List.map_cons,<-GX t h1]
end
section
variable{X:Cx}{κ:Kl}{fr:Bool}{pos:Pos}{a b e k:Expr}{fa fb f fk:Den}
theorem Nl{tg:Expr}{gt:tZ}(hg:DG X κ tg gt)(he:DE X κ e f)(hs:swapsWithSole [tg] e pos.line X.env=pure false:=by rfl)(hw:swappedStores [tg] e X.env=pure none:=by rfl)
  (SV:(assignEach [tg] X.env).map (·.2)=[assign tg X.env]:=by rfl):DS X κ fr (.Assign [tg] e pos) (M0 gt f):=by
 obtain⟨te,h1,h2⟩:=he
 obtain⟨tt,h3,h4⟩:=hg
 refine⟨_,L8 h1 h3 hs hw SV,λ{G A bo own ρ σ H fl D} r e k=>?_⟩
 obtain⟨p,e1,e2⟩:=Option.bind_eq_some_iff.mp e
 obtain⟨ρ',e3,rfl⟩:=Option.map_eq_some_iff.mp e2
 refine h2 r e1 λv H1 s1 z1=>?_
 exact h4 (r.mono s1) z1 e3 λdi σ' r' _=>k _ _ _ r'
noncomputable def RM(X:Cx)(κ:Kl)(VJ:List Expr)(gs:List tZ):Prop:=∃tt,OV X VJ tt/\∀{G A bo own ρ σ H ps vs ρ' Q},R X.K κ G A bo own ρ σ H->aV X.K κ (dQ A own ρ H) vs ps->De gs ps ρ=some ρ'->(∀di σ',R X.K κ G A bo di ρ' σ' H->aH (dQ A own ρ H) (dQ A di ρ' H)->Q σ' H)->tt vs σ H Q
theorem JW:RM X κ [] []:=⟨_,CO,λ{G A bo own ρ σ H ps vs ρ' Q} r z e q=>by
 cases z with
 |nil=>cases e;exact⟨rfl,q _ _ r λ_ _ h=>h⟩
 |cons _ _=>cases e⟩
theorem oo{es:List Expr}{gt:tZ}{gs:List tZ}(ha:DG X κ a gt)(hb:RM X κ es gs)(hs:(assignEach (a::es) X.env).map (·.2)=assign a X.env::(assignEach es X.env).map (·.2):=by rfl):RM X κ (a::es) (gt::gs):=by
 obtain⟨ta,h1,h2⟩:=ha
 obtain⟨tb,h3,h4⟩:=hb
 refine⟨_,rK h1 h3 hs,λ{G A bo own ρ σ H ps vs ρ' Q} r z e q=>?_⟩
 cases z with
 |nil=>cases e
 |cons r1 rs=>
  obtain⟨ρ1,e1,e2⟩:=Option.bind_eq_some_iff.mp e
  refine⟨_,_,rfl,h2 r r1 e1 λdi σ' r' s'=>?_⟩
  exact h4 r' (rs.mono s') e2 λsv σ2 r2 s2=>q sv σ2 r2 (s'.trans s2)
theorem vk:∀{gs:List tZ} {ps:List PV} {ρ ρ':c8},De gs ps ρ=some ρ'->ps.length=gs.length
 |[],[],_,_,_=>rfl
 |[],_::_,_,_,e=>by cases e
 |_::_,[],_,_,e=>by cases e
 |t::ts,p::ps,ρ,ρ',e=>by
  obtain⟨ρ1,e1,e2⟩:=Option.bind_eq_some_iff.mp e
  rw[List.length_cons,List.length_cons,vk e2]
theorem Nm{es:List Expr}{gs:List tZ}{k:Nat}(h:RM X κ es gs)(hc:X.calm=true:=by rfl)(hn:(assignEach es X.env).length=gs.length:=by rfl)(AZ:(assignEach es X.env).findIdx? (·.1)=none:=by rfl):DG X κ (.Tuple es k pos) (Df gs):=by
 obtain⟨tt,h1,h2⟩:=h
 refine⟨_,FG hc h1 hn AZ,λ{G A bo own ρ σ H p v ρ' Q} r z e q=>?_⟩
 unfold Df at e
 split at e
 ·rename_i l
  cases z with
  |tup q1 q2=>
   refine⟨_,_,rfl,sj (ax (A:=dI A own ρ)) q1,?_,h2 r q2 e q⟩
   rw[q2.length,vk e]
 ·cases e
end
section
variable{X:Cx}{κ:Kl}{pos p2:Pos}{a b e:Expr}{fa fb:Den}
theorem JX:Oo X "str.find" (λx xs H Q=>∃i j,x=.str i/\xs=[.str j]/\Q (.int (Txt.find i j)) H):=by
 intro pins s σ H x xs v us Q I rx r h
 obtain⟨i,j,rfl,rfl,q⟩:=h
 obtain⟨t,rfl⟩:=rx
 obtain⟨u,rfl,t',rfl⟩:=vals1 r
 exact SC.find ⟨.int _,H,I.tok _,⟨_,rfl⟩,q⟩
theorem JY{apos:Pos}(ha:DB X κ a fa)(hb:DB X κ b fb)(fF:attributeBase a "find" X.env (eval a X.env)=eval a X.env:=by rfl)
  (rP:((backTo pos (starEach [b] X.env)).all (λx=>!x.1)&&(backToKw pos (keywordEach [] X.env)).all (λx=>x.1.isSome)
    &&decide ([b].length+([]:List Keyword).length+(if([]:List Keyword).isEmpty then 0 else 1)<30))=true:=by rfl)
  (fG:(apos.endLine==pos.line)=true:=by rfl)(hs:starEach [b] X.env=(false,eval b X.env)::starEach [] X.env:=by rfl):DE X κ (.Call (.Attribute a "find" apos) [b] [] pos) (ae Lk fa fb):=by
 obtain⟨ta,h1,h2⟩:=ha
 obtain⟨tb,h3,h4⟩:=hb
 refine⟨_,F3 PySem.F.plainAttrs_str PySem.F.slot_str_find PySem.F.type_str_find JX h1 (aP h3 bQ hs) fF rP fG hs,λ{G A bo own ρ σ H p Q} r e q=>?_⟩
 obtain⟨p1,e1,e2⟩:=Option.bind_eq_some_iff.mp e
 obtain⟨p2,e3,e4⟩:=Option.bind_eq_some_iff.mp e2
 (cases p1<;>first|(cases e4;done)|skip)<;>cases p2<;>first|(cases e4;done)|skip
 cases e4
 refine h2 r e1 λx H1 s1 b1=>?_
 rw[b1.str]
 refine⟨rfl,h4 (r.mono s1) e3 λy H2 s2 b2=>?_⟩
 rw[b2.str]
 exact⟨_,_,rfl,rfl,q _ H2 (s1.trans s2) (.int _)⟩
theorem vm:∀{ts:List Str} {us:List Value},Vals (ts.map V.str) us->∃l:List (Str×Tok),us=strValues l/\l.map (·.1)=ts
 |[],_,.nil=>⟨[],rfl,rfl⟩
 |x::ts,_,.cons ⟨t,ht⟩ r=>by
  obtain⟨l,h1,h2⟩:=vm r
  subst ht
  exact⟨(x,t)::l,by rw[h1];rfl,by rw[List.map_cons,h2]⟩
theorem BH{K:PySem.W.Frag}{H:Hp}:∀{vs:List V} {l:List PV} {ts:List Str},aV K κ H vs l->p9 l=some ts->vs=ts.map V.str
 |_,_,_,.nil,h=>by cases h;rfl
 |_,p::_,_,.cons r t,h=>by
  cases p<;>first|(cases h;done)|skip
  obtain⟨cs,h1,rfl⟩:=Option.map_eq_some_iff.mp h
  cases r
  rw[List.map_cons,<-BH t h1]
theorem JZ:Oo X "str.join" (λx xs H Q=>∃(i:Str) (p:Addr) (ts:List Str),x=.str i/\xs=[.ref p]/\gD X.K H p (ts.map V.str)/\JoinOk i ts=true/\Q (.str (Txt.join i ts)) H):=by
 intro pins s σ H x xs v us Q I rx r h
 obtain⟨i,p,ts,rfl,rfl,hq,ok,q⟩:=h
 obtain⟨t,rfl⟩:=rx
 obtain⟨u,rfl,ru⟩:=vals1 r
 cases ru
 obtain⟨its,rv,pl,hz⟩:=I.list hq
 obtain⟨l,rfl,hl⟩:=vm rv
 exact SC.join pl.isList hl ok λt' k=>⟨.str _,H,I.tok _,⟨_,rfl⟩,q⟩
theorem J0{apos:Pos}(ha:DB X κ a fa)(hb:DB X κ b fb)(fF:attributeBase a "join" X.env (eval a X.env)=eval a X.env:=by rfl)
  (rP:((backTo pos (starEach [b] X.env)).all (λx=>!x.1)&&(backToKw pos (keywordEach [] X.env)).all (λx=>x.1.isSome)
    &&decide ([b].length+([]:List Keyword).length+(if([]:List Keyword).isEmpty then 0 else 1)<30))=true:=by rfl)
  (fG:(apos.endLine==pos.line)=true:=by rfl)(hs:starEach [b] X.env=(false,eval b X.env)::starEach [] X.env:=by rfl):DE X κ (.Call (.Attribute a "join" apos) [b] [] pos) (ae Dg fa fb):=by
 obtain⟨ta,h1,h2⟩:=ha
 obtain⟨tb,h3,h4⟩:=hb
 refine⟨_,F3 PySem.F.plainAttrs_str PySem.F.slot_str_join PySem.F.type_str_join JZ h1 (aP h3 bQ hs) fF rP fG hs,λ{G A bo own ρ σ H p Q} r e q=>?_⟩
 obtain⟨p1,e1,e2⟩:=Option.bind_eq_some_iff.mp e
 obtain⟨p2,e3,e4⟩:=Option.bind_eq_some_iff.mp e2
 (cases p1<;>first|(cases e4;done)|skip)<;>cases p2<;>first|(cases e4;done)|skip
 obtain⟨ts,e5,e6⟩:=Option.bind_eq_some_iff.mp e4
 obtain⟨ok,rfl⟩:=bf e6
 refine h2 r e1 λx H1 s1 b1=>?_
 rw[b1.str]
 refine⟨rfl,h4 (r.mono s1) e3 λy H2 s2 b2=>?_⟩
 obtain⟨a,vs,rfl,q1,q2⟩:=b2.lst ax
 rw[BH q2 e5]at q1
 exact⟨_,a,ts,rfl,rfl,q1.sq,ok,q _ H2 (s1.trans s2) (.str _)⟩
theorem J1{p:Pos}(ha:DB X κ a fa)(hm:X.mg "str" =none)(hg:Gl X "str" :=by rfl)(hs:starEach [a] X.env=(false,eval a X.env)::starEach [] X.env:=by rfl):DE X κ (.Call (.Name "str" p) [a] [] pos) (bO JD fa):=by
 obtain⟨ta,h1,h2⟩:=ha
 refine⟨_,lL vK hg hm (by decide+kernel) (aP h1 bQ hs) (he:=hs),λ{G A bo own ρ σ H p Q} r e q=>?_⟩
 obtain⟨p1,e1,e2⟩:=Option.bind_eq_some_iff.mp e
 refine h2 r e1 λx H1 s1 b1=>?_
 cases p1<;>first|(cases e2;done)|skip
 obtain⟨ok,rfl⟩:=bf e2
 rw[decide_eq_true_eq]at ok
 refine⟨_,by rw[b1.int],?_,q _ H1 s1 (.str _)⟩
 rename_i i
 have:i.natAbs.log2<20:=by
  by_cases h0:i.natAbs=0
  ·rw[h0];decide
  ·exact(Nat.log2_lt h0).mpr (by omega)
 omega
theorem y9{v:Value}{o:Option Int}(h:IsPart v o):∃l:Option (Int×Tok),v=partValue l/\l.map (·.1)=o:=by
 cases h with
 |none=>exact⟨none,rfl,rfl⟩
 |int i t=>exact⟨some (i,t),rfl,rfl⟩
theorem oq{α β:Type}(f:α->Option β):∀l:List α,(l.filterMap f).length<=l.length
 |[]=>Nat.le_refl _
 |x::l=>by
  have:=oq f l
  rw[List.filterMap_cons]
  split
  ·rw[List.length_cons];omega
  ·rw[List.length_cons,List.length_cons];omega
end
section
variable{K:PySem.W.Frag}{κ:Kl}{H:Hp}
theorem Dw{f:Str}{p:PV}:∀{ns:List Str} {vs:List V} {l:List PV},aV K κ H vs l->(ns.zip l).lookup f=some p->f∈ns/\∃v,(ns.zip vs).lookup f=some v/\Rep K κ H v p
 |[],_,_,_,h=>by cases h
 |n::ns,_,_,.nil,h=>by cases h
 |n::ns,_,_,.cons (v:=v) (p:=q) r t,h=>by
  rw[List.zip_cons_cons,List.lookup_cons]at h
  rw[List.zip_cons_cons,List.lookup_cons]
  by_cases e:f==n
  ·rw[e]at h⊢
   cases h
   exact⟨by rw[eq_of_beq e];exact List.mem_cons_self ..,v,rfl,r⟩
  ·have e':(f==n)=false:=by simpa using e
   rw[e']at h⊢
   obtain⟨h1,h2⟩:=Dw t h
   exact⟨List.mem_cons_of_mem _ h1,h2⟩
end
theorem BR.rep{K:PySem.W.Frag}{κ:Kl}{hH H:Hp}{v:V}{c:Nat}{l:List PV}(h:BR K κ hH H v (.ins c l)):Rep K κ hH v (.ins c l):=by
 rcases h with h|⟨a,vs,l',h1,h2,h3,h4⟩
 ·exact h
 ·cases h2
noncomputable def GY(K:PySem.W.Frag)(κ:Kl)(f:Str):Prop:=∀c,f∈κ.fld c->A5 K (κ.adr c)/\eU K (κ.adr c) f
section
variable{X:Cx}{κ:Kl}{pos apos:Pos}{a b e o:Expr}{es:List Expr}{fa fb fo:Den}{fs:cM}{m:Str}
theorem Nn{f:Str}(ha:DB X κ a fa)(hf:GY X.K κ f)(hb:attributeBase a f X.env (eval a X.env)=eval a X.env:=by rfl):DE X κ (.Attribute a f pos) (bO (uk κ.fld f) fa):=by
 obtain⟨ta,h1,h2⟩:=ha
 refine⟨_,Mq h1 hb,λ{G A bo own ρ σ H p Q} r e q=>?_⟩
 obtain⟨p1,e1,e2⟩:=Option.bind_eq_some_iff.mp e
 refine h2 r e1 λx H1 s1 b1=>?_
 cases p1<;>first|(cases e2;done)|skip
 rename_i c l
 cases b1.rep with
 |ins h3 h4 h5=>
  obtain⟨h6,v,h7,h8⟩:=Dw h5 e2
  obtain⟨k1,k2⟩:=hf c h6
  exact⟨_,_,_,_,v,rfl,ax _ _ h3,k1,k2,h7,q v H1 s1 h8⟩
noncomputable def GZ(X:Cx)(m:Str)(ta:TE)(t:TA):TE:=λσ H Q=>ta σ H λx H1=>∃(a C dx:Addr) (fs:List (Str×V)) (f:Addr) (fd:FuncData) (ps:List Str) (sp:Sp) (k:Nat),x=.ref a/\H1 a=some (.ins C dx fs)/\A5 X.K C/\Meth X.K C m f/\fs.lookup m=none/\
 aL X.prog X.w X.K X.mg X.base cv k f fd ps sp/\cx k X.A/\Binds X.K fd ps []/\t σ H1 λvs H2=>sp (x::vs) H2 Q E0
theorem G0{pl:Sem Bool}{ta:TE}{t:TA}(he:PE X o ta)(ha:PA X (e::es) t)
  (AZ:starEach (e::es) X.env=(false,eval e X.env)::starEach es X.env:=by rfl)(hpl:(backTo pos (starEach es X.env)).any (·.1)=false:=by rfl)
  (ht:eval (.Call (.Attribute o m apos) (e::es) [] pos) X.env=(do
    let ov<-eval o X.env
    standAt apos.atName
    let(f,first)<-holding [ov] (getMethod ov m pl)
    callWith pos f first (backTo pos (starEach (e::es) X.env)) (backToKw pos (keywordEach [] X.env))):=by rfl):PE X (.Call (.Attribute o m apos) (e::es) [] pos) (GZ X m ta t):=by
 intro pins s σ H Q I h
 refine PySem.W.methodCall_KW (pl:=pl) (dF (he pins s σ H _ I h) λu s1 cL=>?_) ht
 obtain⟨x,H1,I1,rx,a,C,dx,fs,f,fd,ps,sp,k,ex,ea,c,hm,l,F,hr,hb,q⟩:=cL
 subst ex
 obtain rfl:u=Value.ref a:=rx
 refine A7 I1 ea c hm l ?_
 refine PySem.W.callWith_K (first:=[.ref a]) (h₀:=X.base) I.ok.mod.kin hm.kp (dF (ha pos pins s1 σ H1 _ I1 q) λus s2 ⟨vs,H2,I2,r,q2⟩=>⟨I2.kf,?_⟩) AZ hpl
 refine vL (us:=.ref a::us) (vs:=.ref a::vs) (ds:=[]) (dvs:=[]) F hr hb .nil mz I2 (.cons rfl r) ?_
 rw[List.append_nil]
 exact q2
noncomputable def jx(P:Program)(w:World)(K:PySem.W.Frag)(mg:Str->Option Value)(base:Heap)(κ:Kl)(fr:Bool)(m:Str)(k:Nat)(ps:List Str)(Fs:Nat->List PV->Option PV):Prop:=
 ∀c xs p,Fs c xs=some p->∃(f:Addr) (fd:FuncData),A5 K (κ.adr c)/\Meth K (κ.adr c) m f/\m∉κ.fld c/\aL P w K mg base cv k f fd ps (cT K κ fr (Fs c))/\Binds K fd ps []
theorem sF{α:Type}{f:Str}:∀{ns:List Str} {vs:List α},f∉ns->(ns.zip vs).lookup f=none
 |[],_,_=>rfl
 |n::ns,[],_=>rfl
 |n::ns,v::vs,h=>by
  rw[List.zip_cons_cons,List.lookup_cons]
  have e:(f==n)=false:=by
   rw[beq_eq_false_iff_ne]
   exact λz=>h (z▸List.mem_cons_self ..)
  rw[e]
  exact sF λz=>h (List.mem_cons_of_mem _ z)
theorem G1{fr:Bool}{k:Nat}{ps:List Str}{Fs:Nat->List PV->Option PV}{ta:TE}{t:TA}(M:jx X.prog X.w X.K X.mg X.base κ fr m k ps Fs)(hr:cx k X.A)(h2:PZ X.K κ ta fo)
  (h4:∀{G A bo own ρ σ H ps Q},R X.K κ G A bo own ρ σ H->fs ρ=some ps->(∀vs H',aH H H'->aV X.K κ (dQ A own ρ H') vs ps->Q vs H')->t σ H Q)
  {G A bo own ρ σ H p}{Q:VK}(r:R X.K κ G A bo own ρ σ H)(e:vf Fs fo fs ρ=some p)(q:∀v H',aH H H'->RR fr X.K κ (dI A own ρ) H H' v p->Q v H'):GZ X m ta t σ H Q:=by
 obtain⟨p1,e1,e2⟩:=Option.bind_eq_some_iff.mp e
 refine h2 r e1 λx H1 s1 z1=>?_
 cases p1<;>first|(cases e2;done)|skip
 rename_i c l
 obtain⟨xs,e3,e4⟩:=Option.bind_eq_some_iff.mp e2
 obtain⟨f,fd,k1,k2,k3,k4,k5⟩:=M c _ _ e4
 cases z1 with
 |ins h3 h5 h6=>
  refine⟨_,_,_,_,f,fd,ps,_,k,rfl,ax _ _ h3,k1,k2,sF k3,k4,hr,k5,h4 (r.mono s1) e3 λvs H2 s2 z2=>?_⟩
  refine⟨dI A own ρ,_,p,λb hb=>((r.mono s1).mono s2).PU hb,.cons ((Rep.ins h3 h5 h6).mono (bF s2)) z2,e4,λv H' s z=>q v H' ((s1.trans s2).trans s) ?_⟩
  unfold RR at z⊢
  split
  ·rename_i hh
   rw[if_pos hh]at z
   exact RH z (s1.trans s2) λb w=>w
  ·rename_i hh
   rw[if_neg hh]at z
   exact z
theorem wq{k:Nat}{ps:List Str}{Fs:Nat->List PV->Option PV}{pl:Sem Bool}(M:jx X.prog X.w X.K X.mg X.base κ true m k ps Fs)(hr:cx k X.A)(ho:DE X κ o fo)(ha:DA X κ (e::es) fs)
  (AZ:starEach (e::es) X.env=(false,eval e X.env)::starEach es X.env:=by rfl)(hpl:(backTo pos (starEach es X.env)).any (·.1)=false:=by rfl)
  (ht:eval (.Call (.Attribute o m apos) (e::es) [] pos) X.env=(do
    let ov<-eval o X.env
    standAt apos.atName
    let(f,first)<-holding [ov] (getMethod ov m pl)
    callWith pos f first (backTo pos (starEach (e::es) X.env)) (backToKw pos (keywordEach [] X.env))):=by rfl):DO X κ (.Call (.Attribute o m apos) (e::es) [] pos) (vf Fs fo fs):=by
 obtain⟨ta,h1,h2⟩:=ho
 obtain⟨t,h3,h4⟩:=ha
 refine⟨_,G0 h1 h3 AZ hpl ht,λ{G A bo own ρ σ H p Q} r e q=>?_⟩
 exact G1 M hr h2 h4 r e λv H' s z=>q v H' s z
end
structure Lw(K:PySem.W.Frag)(C:Addr)(m:Str)(f:Addr):Prop where
 rd:∃mc,PySem.W.readsIn K C mc=true/\PySem.W.findCls K (.ref C) mc m=some (.val (.ref f))
 ga:PySem.W.specialIn K (.ref C) "__getattribute__" =some (some (.builtin "type.__getattribute__"))
 hd:PySem.W.handedIn (.ref f)=true
 kp:PySem.W.keepIn K (.ref f)=true
section
variable{X:Cx}{κ:Kl}{pos apos np:Pos}{a b e o:Expr}{es:List Expr}{fa fb fo:Den}{m cn:Str}{C f:Addr}{fd:FuncData}{ps:List Str}{sp:Sp}{k:Nat}{t:TA}
theorem sG{pl:Sem Bool}(c:Lw X.K C m f)(F:aL X.prog X.w X.K X.mg X.base cv k f fd ps sp)(hr:cx k X.A)(hg:Gl X cn)(hm:X.mg cn=some (.ref C))(hb:Binds X.K fd ps [])(ha:PA X (e::es) t)(rM:(cn==("__debug__" :Str))=false:=by decide)
  (AZ:starEach (e::es) X.env=(false,eval e X.env)::starEach es X.env:=by rfl)(hpl:(backTo pos (starEach es X.env)).any (·.1)=false:=by rfl)
  (ht:eval (.Call (.Attribute (.Name cn np) m apos) (e::es) [] pos) X.env=(do
    let ov<-eval (.Name cn np) X.env
    standAt apos.atName
    let(f,first)<-holding [ov] (getMethod ov m pl)
    callWith pos f first (backTo pos (starEach (e::es) X.env)) (backToKw pos (keywordEach [] X.env))):=by rfl):PE X (.Call (.Attribute (.Name cn np) m apos) (e::es) [] pos) (CU sp [] E0 t):=by
 intro pins s σ H Q I h
 refine PySem.W.methodCall_KW (pl:=pl) (qX I hg hm ?_ rM) ht
 obtain⟨mc,h1,h2⟩:=c.rd
 refine PySem.W.method_cls I.kf c.ga (PySem.W.cls_value I.kf h1 h2 c.hd ?_)
 have I1:Inv X pins σ H {s with toks:=s.toks+1}:=I.tok _
 refine PySem.W.callWith_K (first:=[]) (h₀:=X.base) I.ok.mod.kin c.kp (dF (ha pos pins _ σ H _ I1 h) λus s2 ⟨vs,H2,I2,r,q2⟩=>⟨I2.kf,?_⟩) AZ hpl
 exact vL (ds:=[]) (dvs:=[]) F hr hb .nil mz I2 r q2
end
noncomputable def sH(C:Addr):Sp:=λvs H Q _=>∃x dx v,vs=[.ref x,v]/\H x=some (.ins C dx [])/\Q .non (upd H x (.ins C dx [("name",v)]))
noncomputable def ot(K:PySem.W.Frag)(C:Addr):Sp:=λvs H Q _=>∃x dx v p ys,vs=[.ref x,v,.ref p]/\H x=some (.ins C dx [])/\SL K H p ys/\∀t,H t=none->Q .non (upd (upd (upd H x (.ins C dx [("wanted",v)])) t (.tup ys)) x (.ins C dx [("wanted",v),("parts",.ref t)]))
noncomputable def ou(K:PySem.W.Frag)(C:Addr)(g:List V->Int):Sp:=λvs H Q _=>∃x dx p ys,vs=[.ref x,.ref p]/\H x=some (.ins C dx [])/\SL K H p ys/\∀t,H t=none->Q .non (upd (upd (upd H x (.ins C dx [("wanted",.int (g ys))])) t (.tup ys)) x (.ins C dx [("wanted",.int (g ys)),("parts",.ref t)]))
theorem Np{K:PySem.W.Frag}{H:Hp}{x p C dx:Addr}{fs OK:List (Str×V)}{ys:List V}(h:H x=some (.ins C dx fs))(q:SL K H p ys):SL K (upd H x (.ins C dx OK)) p ys:=by
 rcases q with(q|⟨ob,q⟩)|q
 ·refine .inl (.inl ?_)
  rw[aZ]
  ·exact q
  ·rintro rfl
   rw[h]at q
   cases q
 ·refine .inl (.inr ⟨ob,?_⟩)
  rw[aZ]
  ·exact q
  ·rintro rfl
   rw[h]at q
   cases q
 ·exact .inr q
section
variable{K:PySem.W.Frag}{C:Addr}{κ:Kl}
noncomputable abbrev Tq(K:PySem.W.Frag):List V->Hp->VK->Prop:=λxs H Q=>∃p ys,xs=[.ref p]/\((gD K H p ys/\∀l,H l=none->Q (.ref l) (upd H l (.tup ys)))\/(ke K H p ys/\Q (.ref p) H))
noncomputable abbrev Tr(K:PySem.W.Frag):List V->Hp->VK->Prop:=λxs H Q=>∃p ys,xs=[.ref p]/\(gD K H p ys\/ke K H p ys)/\Q (.int ys.length) H
noncomputable abbrev DQ(Q:VK):Ends:={nx:=λ_ H'=>Q .non H',rt:=Q}
theorem J2(cl:A5 K C)(na:eU K C "name"){vs:List V}{H:Hp}{Q:VK}{E:XK}(h:sH C vs H Q E):Ji K (l8 0) (l8 1) "name" (DQ Q) (start ["self","name"] vs) H:=by
 obtain⟨x,dx,v,rfl,hx,q⟩:=h
 exact⟨v,rfl,_,rfl,x,C,dx,[],rfl,hx,cl,na,by decide,q⟩
theorem Nq(cl:A5 K C)(na:eU K C "wanted")(nb:eU K C "parts"){vs:List V}{H:Hp}{Q:VK}{E:XK}(h:ot K C vs H Q E):
  L5 (Ji K (l8 0) (l8 1) "wanted") (Ji K (l8 0) (Rq (Tq K) (jW (l8 2) yk)) "parts") (DQ Q) (start ["self","wanted","parts"] vs) H:=by
 obtain⟨x,dx,v,p,ys,rfl,hx,hp,q⟩:=h
 refine⟨v,rfl,_,rfl,x,C,dx,[],rfl,hx,cl,na,by decide,?_⟩
 refine⟨_,rfl,p,ys,rfl,.inl ⟨(Np hx hp).sq,λt ht=>?_⟩⟩
 have mw:x≠t:=by
  rintro rfl
  rw[bE]at ht
  cases ht
 have VL:H t=none:=by
  rw[aZ (Ne.symm mw)]at ht
  exact ht
 refine⟨_,rfl,x,C,dx,[("wanted",v)],rfl,?_,cl,nb,(show(1:Nat)<1000 by decide),?_⟩
 ·rw[aZ mw]
  exact bE
 ·exact q t VL
theorem G2{ta:TE}{g:List V->Int}(ht:∀{σ:St} {H:Hp} {Q:VK} {p:Addr} {ys:List V},σ[1]?=some (some (.ref p))->SL K H p ys->Q (.int (g ys)) H->ta σ H Q){vs:List V}{H:Hp}{Q:VK}{E:XK}(h:ou K C g vs H Q E):
  yj (CU (ot K C) [] E0 (jW (l8 0) (jW ta (jW (l8 1) yk)))) (DQ Q) (start ["self","parts"] vs) H:=by
 obtain⟨x,dx,p,ys,rfl,hx,hp,q⟩:=h
 refine⟨_,rfl,ht rfl hp ⟨_,rfl,?_⟩⟩
 exact⟨x,dx,.int (g ys),p,ys,rfl,hx,hp,λt ht=>q t ht⟩
theorem Nr{vs:List V}{H:Hp}{Q:VK}{E:XK}(h:ot K C vs H Q E):
  yj (CU (ot K C) [] E0 (jW (l8 0) (jW (l8 1) (jW (l8 2) yk)))) (DQ Q) (start ["self","many","parts"] vs) H:=by
 obtain⟨x,dx,v,p,ys,rfl,hx,hp,q⟩:=h
 refine⟨_,rfl,_,rfl,_,rfl,?_⟩
 exact⟨x,dx,v,p,ys,rfl,hx,hp,λt ht=>q t ht⟩
theorem G3{vs:List V}{H:Hp}{Q:VK}{E:XK}(h:sH C vs H Q E):vs.length=2:=by
 obtain⟨x,dx,v,rfl,_⟩:=h
 rfl
theorem Dx{vs:List V}{H:Hp}{Q:VK}{E:XK}(h:ot K C vs H Q E):vs.length=3:=by
 obtain⟨x,dx,v,p,ys,rfl,_⟩:=h
 rfl
theorem Dy{g:List V->Int}{vs:List V}{H:Hp}{Q:VK}{E:XK}(h:ou K C g vs H Q E):vs.length=2:=by
 obtain⟨x,dx,p,ys,rfl,_⟩:=h
 rfl
theorem Nt{σ:St}{H:Hp}{Q:VK}{p:Addr}{ys:List V}(h:σ[1]?=some (some (.ref p)))(hp:SL K H p ys)(q:Q (.int (ys.length:Nat)) H):Rq (Tr K) (jW (l8 1) yk) σ H Q:=⟨_,h,p,ys,rfl,.inl hp.sq,q⟩
theorem Nu{σ:St}{H:Hp}{Q:VK}{p:Addr}{ys:List V}(h:σ[1]?=some (some (.ref p)))(hp:SL K H p ys)(q:Q (.int 1) H):tC (.int 1) σ H Q:=q
end
section
variable{K:PySem.W.Frag}{κ:Kl}{G H H':Hp}{A:Addr->Prop}{bo:Nat->Option (Addr×List V)}{own:Nat->Addr}{ρ:c8}{σ:St}
theorem lV{C x dx:Addr}(hx:H x=none)(hd:H dx=none)(hn:dx≠x):aH H (upd (upd H dx (.own x)) x (.ins C dx [])):=(bM hd).trans (bM (by rw[aZ (Ne.symm hn)];exact hx))
theorem sI{C x dx:Addr}{fs OK:List (Str×V)}{H0:Hp}(s:aH H0 H)(hx:H0 x=none):aH H0 (upd H x (.ins C dx OK)):=λb o e=>by
 rw[aZ (bP e hx)]
 exact s b o e
theorem J3{x dx:Addr}{v:V}{p:PV}(r:R K κ G A bo own ρ σ H)(hf:κ.fld 0=[("name" :Str)])(hx:H x=none)(hd:H dx=none)(hn:dx≠x)(z:Rep K κ (dQ A own ρ H) v p):
  aH H (upd (upd (upd H dx (.own x)) x (.ins (κ.adr 0) dx [])) x (.ins (κ.adr 0) dx [("name",v)]))/\Rep K κ (dQ A own ρ (upd (upd (upd H dx (.own x)) x (.ins (κ.adr 0) dx [])) x (.ins (κ.adr 0) dx [("name",v)]))) (.ref x) (.ins 0 [p]):=by
 have s1:aH H (upd (upd (upd H dx (.own x)) x (.ins (κ.adr 0) dx [])) x (.ins (κ.adr 0) dx [("name",v)])):=sI (fs:=[]) (lV (C:=κ.adr 0) hx hd hn) hx
 refine⟨s1,.ins (c:=0) (dx:=dx) (vs:=[v]) ?_ (by rw[hf];rfl) (.cons (z.mono (bF s1)) .nil)⟩
 rw[dQ,dH (r.new hx),bE,hf]
 rfl
theorem G4{c:Nat}{x dx t:Addr}{v:V}{q:PV}{ys:List V}{l:List PV}(r:R K κ G A bo own ρ σ H)(hf:κ.fld c=[("wanted" :Str),("parts" :Str)])(hx:H x=none)(hd:H dx=none)(hn:dx≠x)(ht:upd (upd H dx (.own x)) x (.ins (κ.adr c) dx []) t=none)
  (zv:Rep K κ (dQ A own ρ H) v q)(z:aV K κ (dQ A own ρ H) ys l):
  aH H (upd (upd (upd (upd (upd H dx (.own x)) x (.ins (κ.adr c) dx [])) x (.ins (κ.adr c) dx [("wanted",v)])) t (.tup ys)) x (.ins (κ.adr c) dx [("wanted",v),("parts",.ref t)]))/\
  Rep K κ (dQ A own ρ (upd (upd (upd (upd (upd H dx (.own x)) x (.ins (κ.adr c) dx [])) x (.ins (κ.adr c) dx [("wanted",v)])) t (.tup ys)) x (.ins (κ.adr c) dx [("wanted",v),("parts",.ref t)]))) (.ref x) (.ins c [q,.tup l]):=by
 have s0:aH H (upd (upd H dx (.own x)) x (.ins (κ.adr c) dx [])):=lV (C:=κ.adr c) hx hd hn
 have mw:x≠t:=by
  rintro rfl
  rw[bE]at ht
  cases ht
 have Um:H t=none:=s0.free ht
 have s1:aH H (upd (upd (upd H dx (.own x)) x (.ins (κ.adr c) dx [])) x (.ins (κ.adr c) dx [("wanted",v)])):=sI (fs:=[]) s0 hx
 have s2:aH H (upd (upd (upd (upd H dx (.own x)) x (.ins (κ.adr c) dx [])) x (.ins (κ.adr c) dx [("wanted",v)])) t (.tup ys)):=λb o e=>by
  rw[aZ (bP e Um)]
  exact s1 b o e
 have s3:aH H (upd (upd (upd (upd (upd H dx (.own x)) x (.ins (κ.adr c) dx [])) x (.ins (κ.adr c) dx [("wanted",v)])) t (.tup ys)) x (.ins (κ.adr c) dx [("wanted",v),("parts",.ref t)])):=sI (fs:=[]) s2 hx
 refine⟨s3,.ins (c:=c) (dx:=dx) (vs:=[v,.ref t]) ?_ (by rw[hf];rfl) (.cons (zv.mono (bF s3)) (.cons (.tup (vs:=ys) (.inl (.inl ?_)) (z.mono (bF s3))) .nil))⟩
 ·rw[dQ,dH (r.new hx),bE,hf]
  rfl
 ·rw[dQ,dH (r.new Um),aZ (Ne.symm mw)]
  exact bE
end
section
variable{X:Cx}{κ:Kl}{pos p:Pos}{a b:Expr}{fa fb:Den}{f:Addr}{fd:FuncData}{ps:List Str}{k:Nat}{x:Str}
theorem ET(M:Mk X.K (κ.adr 0) f)(F:aL X.prog X.w X.K X.mg X.base cv k f fd ps (sH (κ.adr 0)))(hf:κ.fld 0=[("name" :Str)])(hr:cx (k+1) X.A)(hm:X.mg x=some (.ref (κ.adr 0)))(hb:Binds X.K fd ps [])(ha:DB X κ a fa)(hg:Gl X x:=by rfl)(rM:(x==("__debug__" :Str))=false:=by decide)
  (he:starEach [a] X.env=(false,eval a X.env)::starEach [] X.env:=by rfl):DE X κ (.Call (.Name x p) [a] [] pos) (bO Ll fa):=by
 obtain⟨ta,h1,h2⟩:=ha
 refine⟨_,q8 M F hr hg hm hb .nil mz (aP h1 bQ he) rM he,λ{G A bo own ρ σ H p Q} r e q=>?_⟩
 obtain⟨p1,e1,e2⟩:=Option.bind_eq_some_iff.mp e
 refine h2 r e1 λv H1 s1 b1=>?_
 cases p1<;>first|(cases e2;done)|skip
 cases e2
 intro y dy hy EN hn
 rw[b1.str]
 obtain⟨s3,z3⟩:=J3 (r.mono s1) hf hy EN hn (.str _)
 exact⟨y,dy,_,rfl,bE,rfl,q _ _ (s1.trans s3) z3⟩
theorem Dz{c:Nat}{g:List V->Int}{gP:List PV->Int}{ta:TE}(VM:∀{vs:List V} {l:List PV},vs.length=l.length->g vs=gP l)(hf:κ.fld c=[("wanted" :Str),("parts" :Str)])(h2:P0 X.K κ ta fa):PZ X.K κ (KS (κ.adr c) (ou X.K (κ.adr c) g) [] E0 (jW ta yk)) (bO (λp=>match p with|.lst l=>some (.ins c [.int (gP l),.tup l])|_=>none) fa):=λ{G A bo own ρ σ H p Q} r e q=>by
 obtain⟨p1,e1,e2⟩:=Option.bind_eq_some_iff.mp e
 refine h2 r e1 λv H1 s1 b1=>?_
 cases p1<;>first|(cases e2;done)|skip
 rename_i l
 cases e2
 obtain⟨a,ys,rfl,q1,q2⟩:=b1.lst ax
 intro y dy hy EN hn
 have s0:aH H1 (upd (upd H1 dy (.own y)) y (.ins (κ.adr c) dy [])):=lV (C:=κ.adr c) hy EN hn
 refine⟨y,dy,a,ys,rfl,bE,s0.sl q1,λt ht=>⟨rfl,?_⟩⟩
 rw[VM q2.length]
 obtain⟨s3,z3⟩:=G4 (r.mono s1) hf hy EN hn ht (.int (gP l)) q2
 exact q _ _ (s1.trans s3) z3
theorem G5(M:Mk X.K (κ.adr 1) f)(F:aL X.prog X.w X.K X.mg X.base cv k f fd ps (ou X.K (κ.adr 1) λys=>(ys.length:Nat)))(hf:κ.fld 1=[("wanted" :Str),("parts" :Str)])(hr:cx (k+1) X.A)(hm:X.mg x=some (.ref (κ.adr 1)))(hb:Binds X.K fd ps [])(ha:DB X κ a fa)(hg:Gl X x:=by rfl)(rM:(x==("__debug__" :Str))=false:=by decide)
  (he:starEach [a] X.env=(false,eval a X.env)::starEach [] X.env:=by rfl):DE X κ (.Call (.Name x p) [a] [] pos) (bO Gu fa):=by
 obtain⟨ta,h1,h2⟩:=ha
 exact⟨_,q8 M F hr hg hm hb .nil mz (aP h1 bQ he) rM he,λ{G A bo own ρ σ H p Q} r e q=>Dz (c:=1) (g:=λys=>(ys.length:Nat)) (gP:=λl=>(l.length:Nat)) (λh=>by rw[h]) hf h2 r (by
  obtain⟨p1,e1,e2⟩:=Option.bind_eq_some_iff.mp e
  refine Option.bind_eq_some_iff.mpr ⟨p1,e1,?_⟩
  cases p1<;>first|(cases e2;done)|exact e2) q⟩
theorem G6(M:Mk X.K (κ.adr 2) f)(F:aL X.prog X.w X.K X.mg X.base cv k f fd ps (ou X.K (κ.adr 2) λ_=>1))(hf:κ.fld 2=[("wanted" :Str),("parts" :Str)])(hr:cx (k+1) X.A)(hm:X.mg x=some (.ref (κ.adr 2)))(hb:Binds X.K fd ps [])(ha:DB X κ a fa)(hg:Gl X x:=by rfl)(rM:(x==("__debug__" :Str))=false:=by decide)
  (he:starEach [a] X.env=(false,eval a X.env)::starEach [] X.env:=by rfl):DE X κ (.Call (.Name x p) [a] [] pos) (bO Gv fa):=by
 obtain⟨ta,h1,h2⟩:=ha
 exact⟨_,q8 M F hr hg hm hb .nil mz (aP h1 bQ he) rM he,λ{G A bo own ρ σ H p Q} r e q=>Dz (c:=2) (g:=λ_=>1) (gP:=λ_=>1) (λ_=>rfl) hf h2 r (by
  obtain⟨p1,e1,e2⟩:=Option.bind_eq_some_iff.mp e
  refine Option.bind_eq_some_iff.mpr ⟨p1,e1,?_⟩
  cases p1<;>first|(cases e2;done)|exact e2) q⟩
theorem EU(M:Mk X.K (κ.adr 3) f)(F:aL X.prog X.w X.K X.mg X.base cv k f fd ps (ot X.K (κ.adr 3)))(hf:κ.fld 3=[("wanted" :Str),("parts" :Str)])(hr:cx (k+1) X.A)(hm:X.mg x=some (.ref (κ.adr 3)))(hb:Binds X.K fd ps [])(ha:DB X κ a fa)(ua:DB X κ b fb)(hg:Gl X x:=by rfl)(rM:(x==("__debug__" :Str))=false:=by decide)
  (he:starEach [a,b] X.env=(false,eval a X.env)::starEach [b] X.env:=by rfl)(VN:starEach [b] X.env=(false,eval b X.env)::starEach [] X.env:=by rfl)(hpl:(backTo pos (starEach [b] X.env)).any (·.1)=false:=by rfl):DE X κ (.Call (.Name x p) [a,b] [] pos) (ae Bw fa fb):=by
 obtain⟨ta,h1,h2⟩:=ha
 obtain⟨tb,h3,h4⟩:=ua
 refine⟨_,q8 M F hr hg hm hb .nil mz (aP h1 (aP h3 bQ VN) he) rM he hpl,λ{G A bo own ρ σ H p Q} r e q=>?_⟩
 refine uo h2 h4 r e λv u p1 p2 H1 s1 r1 b1 b2 e2=>?_
 (cases p1<;>first|(cases e2;done)|skip)<;>cases p2<;>first|(cases e2;done)|skip
 cases e2
 obtain⟨a,ys,rfl,q1,q2⟩:=b2.lst ax
 intro y dy hy EN hn
 have s0:aH H1 (upd (upd H1 dy (.own y)) y (.ins (κ.adr 3) dy [])):=lV (C:=κ.adr 3) hy EN hn
 rw[b1.int]
 refine⟨y,dy,_,a,ys,rfl,bE,s0.sl q1,λt ht=>⟨rfl,?_⟩⟩
 obtain⟨s3,z3⟩:=G4 r1 hf hy EN hn ht (.int _) q2
 exact q _ _ (s1.trans s3) z3
end
structure Nv(K:PySem.W.Frag)(C CR:Addr):Prop where
 cl:A5 K C
 ha:PySem.W.findIn K (.ref C) "__class__" =some (some (.builtin "object.__class__"))
 hn:PySem.W.specialIn K (.builtin "object.__class__") "__get__" =some (some (.builtin "getset_descriptor.__get__"))
 Rp:PySem.W.takesIn K (.builtin "object.__class__")=some true
 hm:PySem.W.mroIn K C (.type "object")=some true
 Lq:PySem.W.kitOne K (.ref C) (.ref CR)=some true
section
variable{X:Cx}{κ:Kl}{pos p:Pos}{a b:Expr}{fa fb:Den}
theorem G7{CR:Addr}:gE X (.builtin "isinstance") (λxs H Q=>∃(a C dx:Addr) (fs:List (Str×V)),xs=[.ref a,.ref CR]/\H a=some (.ins C dx fs)/\Nv X.K C CR/\Q (.bl true) H):=by
 intro pins s σ H xs us Q I r h
 obtain⟨a,C,dx,fs,rfl,ha,ok,q⟩:=h
 cases r with
 |cons r1 r2=>
  cases r2 with
  |cons r2 r3=>
   cases r3
   cases r1
   cases r2
   exact Eh (x:=.ref a) I rfl (.ins ha ok.cl ok.ha ok.hn ok.Rp ok.hm) ok.Lq λtk=>⟨.bl true,H,I.tok _,rfl,q⟩
theorem Nw{cn:Str}{p2:Pos}{CR:Addr}(ok:∀c,c<4->Nv X.K (κ.adr c) CR)(ha:DB X κ a fa)(hm:X.mg "isinstance" =none)(GL:X.mg cn=some (.ref CR))(hg:Gl X "isinstance" :=by rfl)(JS:Gl X cn:=by rfl)(hd:(cn==("__debug__" :Str))=false:=by decide)
  (hs:starEach [a,.Name cn p2] X.env=(false,eval a X.env)::starEach [.Name cn p2] X.env:=by rfl)(ug:starEach [.Name cn p2] X.env=(false,eval (.Name cn p2) X.env)::starEach [] X.env:=by rfl)(hpl:(backTo pos (starEach [.Name cn p2] X.env)).any (·.1)=false:=by rfl):DE X κ (.Call (.Name "isinstance" p) [a,.Name cn p2] [] pos) (bO M3 fa):=by
 obtain⟨ta,h1,h2⟩:=ha
 refine⟨_,i9 (G7 (CR:=CR)) hg hm PyProof.Rows.boot_isinstance (aP h1 (aP (vJ JS GL (v:=.ref CR) rfl hd) bQ ug) hs) (he:=hs) (hpl:=hpl),λ{G A bo own ρ σ H p Q} r e q=>?_⟩
 obtain⟨p1,e1,e2⟩:=Option.bind_eq_some_iff.mp e
 refine h2 r e1 λx H1 s1 b1=>?_
 cases p1<;>first|(cases e2;done)|skip
 obtain⟨hc,rfl⟩:=bf e2
 cases b1.rep with
 |ins h3 h4 h5=>exact⟨_,_,_,_,rfl,ax _ _ h3,ok _ (of_decide_eq_true hc),q _ H1 s1 (.bl _)⟩
theorem za(ha:DB X κ a fa)(hm:X.mg "tuple" =none)(hg:Gl X "tuple" :=by rfl)(hs:starEach [a] X.env=(false,eval a X.env)::starEach [] X.env:=by rfl):DE X κ (.Call (.Name "tuple" p) [a] [] pos) (bO Bv fa):=by
 obtain⟨ta,h1,h2⟩:=ha
 refine⟨_,lL my hg hm (by decide+kernel) (aP h1 bQ hs) (he:=hs),λ{G A bo own ρ σ H p Q} r e q=>?_⟩
 obtain⟨p1,e1,e2⟩:=Option.bind_eq_some_iff.mp e
 refine h2 r e1 λx H1 s1 b1=>?_
 cases p1<;>first|(cases e2;done)|skip
 ·cases e2
  obtain⟨a,vs,rfl,q1,q2⟩:=b1.lst ax
  exact⟨a,vs,rfl,.inl ⟨q1.sq,λl hl=>q _ _ (s1.trans (bM hl)) ((r.mono s1).P1 hl q2)⟩⟩
 ·cases e2
  rcases b1 with b1|⟨_,_,_,_,z,_⟩
  ·cases b1 with
   |tup q1 q2=>exact⟨_,_,rfl,.inr ⟨sj ax q1,q _ H1 s1 (.tup q1 q2)⟩⟩
  ·cases z
theorem zb(ns:List Int):∀n,n<ns.length->(ns.take (n+1)).tail.foldl (λa b=>if b>a then b else a) (ns.getD 0 0)=ns.getD (argBest (λi j=>decide (ns.getD i 0>ns.getD j 0)) n) 0
 |0,h=>by
  have:(ns.take 1).tail=[]:=by
   cases ns with
   |nil=>rfl
   |cons x l=>simp
  rw[this]
  rfl
 |n+1,h=>by
  have ih:=zb ns n (by omega)
  have e:(ns.take (n+1+1)).tail=(ns.take (n+1)).tail++[ns.getD (n+1) 0]:=by
   rw[List.take_add_one,List.getElem?_eq_getElem h,List.tail_append_of_ne_nil,List.getD_eq_getElem?_getD,List.getElem?_eq_getElem h]
   ·rfl
   ·intro z
    have h2:(ns.take (n+1)).length=0:=by rw[z];rfl
    rw[List.length_take]at h2
    omega
  rw[e,List.foldl_append,ih]
  show(if ns.getD (n+1) 0>ns.getD (argBest _ n) 0 then _ else _)=ns.getD (if decide (ns.getD (n+1) 0>ns.getD (argBest _ n) 0)=true then n+1 else argBest _ n) 0
  by_cases hh:ns.getD (n+1) 0>ns.getD (argBest (λi j=>decide (ns.getD i 0>ns.getD j 0)) n) 0
  ·rw[if_pos hh,if_pos (decide_eq_true hh)]
  ·rw[if_neg hh,if_neg (by rw[decide_eq_false hh];decide)]
theorem vn:∀{us:List Value} {ns:List Int},IntsAre us ns->∃xs:List (Int×Tok),us=xs.map (λp=>Value.int p.1 p.2)/\xs.map (·.1)=ns
 |_,_,.nil=>⟨[],rfl,rfl⟩
 |_,_,.cons i t h=>by
  obtain⟨xs,h1,h2⟩:=vn h
  exact⟨(i,t)::xs,by rw[h1];rfl,by rw[List.map_cons,h2]⟩
theorem uw(hc:X.calm=true):gE X (.builtin "max") (λxs H Q=>∃(p:Addr) (ns:List Int) (m:Int),xs=[.ref p]/\gD X.K H p (ns.map V.int)/\PR ns=some m/\Q (.int m) H):=by
 intro pins s σ H xs us Q I r h
 obtain⟨p,ns,m,rfl,hq,hm,q⟩:=h
 obtain⟨u,rfl,ru⟩:=vals1 r
 cases ru
 obtain⟨its,rv,pl,hz⟩:=I.list hq
 obtain⟨ts,rfl,ht⟩:=vn (intsAre_of rv)
 have hlen:ns.length=ts.length:=by rw[<-ht,List.length_map]
 have h0:0<ns.length:=by
  cases ns with
  |nil=>cases hm
  |cons _ _=>simp
 have na:∀i,numAt ts.toArray i=ns.getD i 0:=λi=>by
  unfold numAt
  rw[<-ht,List.getD_eq_getElem?_getD,List.getElem?_map]
  simp
 refine max_intList (xs:=ts.toArray) (I.ok.hd hc) (by simpa[intItems]using pl.isList) (by simpa using(hlen▸h0)) λv h' tk hv kp=>?_
 obtain⟨t,rfl⟩:=intItems_at hv
 have bm:=zb ns (ns.length-1) (by omega)
 rw[show ns.length-1+1=ns.length by omega,List.take_length]at bm
 have em:m=numAt ts.toArray (argBest (λi j=>decide (numAt ts.toArray i>numAt ts.toArray j)) (ts.toArray.size-1)):=by
  rw[na,List.size_toArray,<-hlen,show(λi j=>decide (numAt ts.toArray i>numAt ts.toArray j))=λi j=>decide (ns.getD i 0>ns.getD j 0)from by funext i j;rw[na,na],<-bm]
  cases ns with
  |nil=>cases hm
  |cons x l=>
   cases hm
   rfl
 rw[<-em]
 exact⟨.int m,H,I.kept (t':=tk) kp,⟨_,rfl⟩,q⟩
theorem DD(ha:DB X κ a fa)(hm:X.mg "max" =none)(hg:Gl X "max" :=by rfl)(hc:X.calm=true:=by rfl)(hs:starEach [a] X.env=(false,eval a X.env)::starEach [] X.env:=by rfl):DE X κ (.Call (.Name "max" p) [a] [] pos) (bO sf fa):=by
 obtain⟨ta,h1,h2⟩:=ha
 refine⟨_,i9 (uw hc) hg hm (by decide+kernel) (aP h1 bQ hs) (he:=hs),λ{G A bo own ρ σ H p Q} r e q=>?_⟩
 obtain⟨p1,e1,e2⟩:=Option.bind_eq_some_iff.mp e
 refine h2 r e1 λx H1 s1 b1=>?_
 cases p1<;>first|(cases e2;done)|skip
 obtain⟨ns,e3,e4⟩:=Option.bind_eq_some_iff.mp e2
 obtain⟨m,e5,rfl⟩:=Option.map_eq_some_iff.mp e4
 obtain⟨a,vs,rfl,q1,q2⟩:=b1.lst ax
 rw[GX q2 e3]at q1
 exact⟨a,ns,m,rfl,q1.sq,e5,q _ H1 s1 (.int _)⟩
theorem zc{l u st:Option (Int×Tok)}{y:Str}{t:Tok}{Q:Value->Shared->Prop}{s:Shared}(h0:(st.map (·.1)).getD 1≠0)(hy:y.length<=sizeLine)(q:∀t' k,Q (.str (jv y (l.map (·.1)) (u.map (·.1)) ((st.map (·.1)).getD 1)) t') {s with toks:=k}):(sliceMade y t l u st).post Q s:=by
 unfold sliceMade
 unfold jv at q
 unfold slicePicked
 split
 ·rename_i hh
  rw[if_pos hh]at q
  exact q t s.toks
 ·rename_i hh
  rw[if_neg hh]at q
  refine⟨?_,q _ _⟩
  show((Builtin.Str.strSliceIndices _ _ _ y.length).filterMap (y.cps[·]?)).toArray.size<=sizeLine
  rw[List.size_toArray]
  have h1:=oq (y.cps[·]?) (Builtin.Str.strSliceIndices (l.map (·.1)) (u.map (·.1)) ((st.map (·.1)).getD 1) y.length)
  have h2:=sliceIndicesBy_le (l.map (·.1)) (u.map (·.1)) ((st.map (·.1)).getD 1) h0 y.length
  omega
theorem Nx:Mv X (λx lo hi H Q=>∃y,x=.str y/\y.length<=sizeLine/\Q (.str (jv y lo hi 1)) H):=by
 intro pins s σ H x v vl vu lo hi sl Q I rx hs pl pu h
 obtain⟨y,rfl,hy,q⟩:=h
 obtain⟨t,rfl⟩:=rx
 obtain⟨l,rfl,hl⟩:=y9 pl
 obtain⟨u,rfl,hu⟩:=y9 pu
 refine⟨"str",_,F.slot_str_getitem.lookup,typeIs_str _ _ _,wpAny_getItem_str_slice (l:=l) (u:=u) (st:=none) hs rfl (zc (st:=none) (by decide) hy λt' k=>?_)⟩
 rw[hl,hu]
 exact⟨.str _,H,I.tok _,⟨_,rfl⟩,q⟩
theorem lW{p2:Pos}{lo hi:Option Expr}{fl fh:v9}(ha:DB X κ a fa)(hl:DP X κ lo fl)(hh:DP X κ hi fh):DE X κ (.Subscript a (.Slice lo hi none p2) pos) (yM fa fl fh):=by
 obtain⟨ta,h1,h2⟩:=ha
 obtain⟨tl,h3,h4⟩:=hl
 obtain⟨th,h5,h6⟩:=hh
 refine⟨_,yn (CW.or Nx) h1 h3 h5,λ{G A bo own ρ σ H p Q} r e q=>?_⟩
 obtain⟨p1,e1,e2⟩:=Option.bind_eq_some_iff.mp e
 obtain⟨o1,e3,e4⟩:=Option.bind_eq_some_iff.mp e2
 obtain⟨o2,e5,e6⟩:=Option.bind_eq_some_iff.mp e4
 refine h2 r e1 λx H1 s1 b1=>h4 (r.mono s1) e3 λH2 s2=>h6 ((r.mono s1).mono s2) e5 λH3 s3=>?_
 have Lp:=(s1.trans s2).trans s3
 cases p1<;>first|(cases e6;done)|skip
 ·obtain⟨hy,rfl⟩:=bf e6
  exact .inr ⟨_,by rw[b1.str],hy,q _ H3 Lp (.str _)⟩
 ·cases e6
  obtain⟨a,vs,rfl,q1,q2⟩:=(b1.Dh (s2.trans s3)).lst ax
  exact .inl ⟨a,vs,rfl,q1.sq,λn hn=>q _ _ (Lp.trans (bM hn)) (OR.rep (r.mono Lp) ((r.mono Lp).yO hn (q2.cut o1 o2)))⟩
end
section
variable{X:Cx}{κ:Kl}{pos p p2:Pos}{a b c e:Expr}{fa fb:Den}
theorem J4{te tc:TE}(he:PE X e te)(hc:PE X c tc):PE X (.Subscript e (.Slice none none (some c) p2) pos) (λσ H Q=>te σ H λx H1=>tc σ H1 λz H2=>∃y,x=.str y/\z=.int (-1)/\y.length<=sizeLine/\Q (.str (jv y none none (-1))) H2):=by
 intro pins s σ H Q I h
 refine Subscript_ (dF (he pins s σ H _ I h) λv s1 cL=>?_)
 obtain⟨x,H1,I1,r1,q1⟩:=cL
 refine wpAny_Slice ?_
 rw[evalPart_none]
 refine wpAny_pure (wpAny_pure ?_)
 rw[evalPart_some]
 refine dF (hc pins s1 σ H1 _ I1 q1) λu s3 cL=>?_
 obtain⟨z,H3,I3,r3,y,ex,ez,hy,q⟩:=cL
 subst ex ez
 obtain⟨t,rfl⟩:=r1
 obtain⟨t',rfl⟩:=r3
 have I4:Inv X pins σ H3 {s3 with heap:=s3.heap.push {cls:=.type "slice",data:=.fields #[.none,.none,.int (-1) t']}}:=I3.kept (t':=s3.toks) λb ob q=>Heap.get?_push_of_some _ q
 show wpAny (model X.prog X.w) X.A (subscriptTail e (.Slice none none (some c) p2) (.str y t) (.ref s3.heap.objs.size)) (EP X pins σ Q) X.xe {s3 with heap:=s3.heap.push {cls:=.type "slice",data:=.fields #[.none,.none,.int (-1) t']}}
 refine tail_any (ops:=[.ref s3.heap.objs.size,.str y t]) (T:= "str") (typeIs_str _ _ _) F.slot_str_getitem.lookup ?_ (by with_unfolding_all rfl)
 refine wpAny_getItem_str_slice (l:=none) (u:=none) (st:=some (-1,t')) ⟨_,Heap.get?_push_size _ rfl,rfl,rfl⟩ rfl (zc (st:=some (-1,t')) (show(-1:Int)≠0 by decide) hy λWy k=>?_)
 exact⟨.str _,H3,I4.tok _,⟨_,rfl⟩,q⟩
theorem J5(ha:DB X κ a fa)(hc:DB X κ c (bO mO (dC (.int 1)))):DE X κ (.Subscript a (.Slice none none (some c) p2) pos) (bO M1 fa):=by
 obtain⟨ta,h1,h2⟩:=ha
 obtain⟨tc,h3,h4⟩:=hc
 refine⟨_,J4 h1 h3,λ{G A bo own ρ σ H p Q} r e q=>?_⟩
 obtain⟨p1,e1,e2⟩:=Option.bind_eq_some_iff.mp e
 refine h2 r e1 λx H1 s1 b1=>h4 (r.mono s1) (p:=.int (-1)) rfl λz H2 s2 b2=>?_
 cases p1<;>first|(cases e2;done)|skip
 obtain⟨hy,rfl⟩:=bf e2
 exact⟨_,b1.str,b2.int,hy,q _ H2 (s1.trans s2) (.str _)⟩
end
theorem walkD2{l:PySem.W.OpenLaw}{n k:Nat}{q:Program}{loose:List Str}{XP:(Str->Option Value)->Heap->Prop}{YP:World->Heap->Prop}{d:DefRec}{K:Params->PySem.W.Frag}{x:Str}{F:List PV->Option PV}
  (hn:l.most=some n)(Ro:n<=sizeLine)(SA:d.params.defaults=[])(hr:cx k callerA)
  (hY:∀(w:World) (h:Heap),YP w h->(K w.params).In h)
  (FF:∀(w:World) (mg:Str->Option Value) (fa:Addr) (h:Heap),(K w.params).In h->h.Ns mainGlobals mg->mg d.name=some (.ref fa)->
    ∃(κ:Kl) (fd:FuncData),(∀(s:Shared) (u:Value),BindsTo s fd ⟨[u],[]⟩ [(x,u)])/\
     ∀base:Heap,(K w.params).In base->base.Ns mainGlobals mg->aL l.prog w (K w.params) mg base cv k fa fd [x] (cT (K w.params) κ false F))
  (hF:∀ns:List Int,ns.length<=n->F [.lst (ns.map .int)]=some (.bl true)):
  PySem.W.WalkO q loose XP YP l.row.toRowW d [] (λf vs=>PySem.call f vs):=by
 refine Att.yp hn SA λw s₀ s₁ mg mb fa o pm cd doc a vs ns G Y ho hd ud Pw MD hints hlen hg=>?_
 have KX:=hY w _ Y
 obtain⟨κ,fd,hb,To⟩:=FF w mg fa _ KX G.T.g Pw
 refine EE KX G.T.g G.T.b G.T.builtins G.T.nolimit hg MD hints (Nat.le_trans hlen Ro) hr To hb (λH hO hS=>?_) λH e s' z=>z
 have e:hide (λ_=>False) H=H:=by
  funext b
  exact dH λz=>z
 refine⟨λ_=>False,[.lst (ns.map .int)],.bl true,λb z=>z.elim,.cons ?_ .nil,hF ns hlen,λv H' s z=>?_⟩
 ·rw[e]
  exact .lst hS (ints_rep ns)
 ·cases(show Rep (K w.params) κ _ v (.bl true)from z)
  rfl
theorem jx.mono{P:Program}{w:World}{K:PySem.W.Frag}{mg:Str->Option Value}{base:Heap}{κ:Kl}{fr:Bool}{m:Str}{j k:Nat}{ps:List Str}{Fs:Nat->List PV->Option PV}(M:jx P w K mg base κ fr m j ps Fs)(h:j<=k):jx P w K mg base κ fr m k ps Fs:=λc xs p e=>by
 obtain⟨f,fd,h1,h2,h3,h4,h5⟩:=M c xs p e
 exact⟨f,fd,h1,h2,h3,h4.mono h,h5⟩
theorem wu{X:Cx}{κ:Kl}{pos:Pos}{a:Expr}{fa:Den}{f:Str}(hκ:κ.fld=vg)(hf:GY X.K κ f)(ha:DB X κ a fa)(hb:attributeBase a f X.env (eval a X.env)=eval a X.env:=by rfl):DE X κ (.Attribute a f pos) (bO (uk vg f) fa):=by
 rw[<-hκ]
 exact Nn ha hf hb
theorem G8{X:Cx}{κ:Kl}{fr:Bool}{st:Stmt}:DS X κ fr st Gw:=⟨_,FE,λ{G A bo own ρ σ H fl D} r e k=>by cases e⟩
structure Em(K:PySem.W.Frag)(x q:Str)(st:Stmt)(ps:List Str)(f:Addr)(fd:FuncData):Prop where
 F:L2.KY K x q st f fd
 b:L2.Binds K fd ps []
noncomputable def J6(s:Stmt)(j:Nat):Stmt:=match s with
 |.ClassDef _ _ _ b _ _ _ _ _ _ _=>b.getD j (.Pass ⟨0,0,0,0⟩)
 |_=>.Pass ⟨0,0,0,0⟩
structure Cf(K:PySem.W.Frag)(mg:Str->Option Value)(κ:Kl)(CR CC fH fA fY fS fC:Addr):Prop where
 fld:κ.fld=vg
 cls:∀c,c<4->A5 K (κ.adr c)
 nn:eU K (κ.adr 0) "name"
 nw:∀c,0<c->c<4->eU K (κ.adr c) "wanted"
 np:∀c,0<c->c<4->eU K (κ.adr c) "parts"
 kH:Mk K (κ.adr 0) fH
 kA:Mk K (κ.adr 1) fA
 kY:Mk K (κ.adr 2) fY
 kS:Mk K (κ.adr 3) fS
 gH:mg "Hand" =some (.ref (κ.adr 0))
 gA:mg "All" =some (.ref (κ.adr 1))
 gY:mg "Any" =some (.ref (κ.adr 2))
 gS:mg "Some" =some (.ref (κ.adr 3))
 cf:Lw K CC "__init__" fC
 gC:mg "Counting" =some (.ref CC)
 isR:∀c,c<4->Nv K (κ.adr c) CR
 gR:mg "Rule" =some (.ref CR)
section
variable{K:PySem.W.Frag}{mg:Str->Option Value}{κ:Kl}{CR CC fH fA fY fS fC:Addr}
theorem G9{c:Nat}{f:Str}(h:f∈vg c):(c=0/\f= "name")\/(0<c/\c<4/\(f= "wanted" \/f= "parts")):=by
 unfold vg at h
 split at h
 ·exact .inl ⟨by assumption,by simpa using h⟩
 ·split at h
  ·exact .inr ⟨by omega,by assumption,by simpa using h⟩
  ·cases h
theorem Cf.Ha(C:Cf K mg κ CR CC fH fA fY fS fC)(f:Str):GY K κ f:=λc h=>by
 rw[C.fld]at h
 rcases G9 h with⟨rfl,rfl⟩|⟨h1,h2,rfl|rfl⟩
 ·exact⟨C.cls 0 (by decide),C.nn⟩
 ·exact⟨C.cls c h2,C.nw c h1 h2⟩
 ·exact⟨C.cls c h2,C.np c h1 h2⟩
end
end L2.D
namespace PySem.SeqAt
open PySem.Spec
open AutoSeq1 (wpAny_loadPart')
open MeetsSeq MeetsSeq2 MeetsSeq3 SeqRoads2
theorem ux(l:Addr)(items:Array Value)(n:Nat)(dd:Option Addr)(sl:Array (Option Value))(x:Value)(e:Value->Bool)(k:Nat)(hk:k<items.size)(h1:e items[k]=true)(h2:∀j (hj:j<k),e (items[j]'(by omega))=false):
  Meets (Builtin.«tuple.index» ⟨[.ref l,x],[]⟩)
   (λA R s=>s.heap.get? l=some {cls:=.type "tuple",dict:=dd,data:=.seq items n,slots:=sl}/\(∀y,y∈items->EqAt A.in1 s y x (e y))/\R (.ok (.ret (.int (k:Nat) s.toks))) {s with toks:=s.toks+1}):=
 .of_wp λprog w A R s h=>by
  obtain⟨hp,g,d,tk,os⟩:=s;obtain⟨hl,he,h⟩:=h
  unfold Builtin.«tuple.index»
  simp only[Std.Legacy.Range.forIn_eq_forIn_range',Std.Legacy.Range.size,Nat.sub_zero,Nat.add_sub_cancel,Nat.div_one]
  wp_walk using wpAny_loadPart' hl,wpAny_forIn_list _ (λrest b s'=>b.1=none/\s'=⟨hp,g,d,tk,os⟩/\∃i,rest=List.range' i (items.size-i)/\i<=k) _
  case turn=>
   rintro j rest b s' ⟨hb,rfl,i,hr,hi⟩
   have ee:items.size-i=(items.size-(i+1))+1:=by omega
   rw[ee,List.range'_succ]at hr
   injection hr with q1 q2
   subst q1
   have hj:j<items.size:=by omega
   rw[Array.getElem?_eq_getElem hj]
   refine wpAny_bind (he items[j] (Array.getElem_mem hj) prog w _ _ ?_)
   rcases Nat.lt_or_ge j k with jX|hge
   ·rw[h2 j jX]
    wp_walk
    exact⟨rfl,rfl,j+1,q2,jX⟩
   ·obtain rfl:j=k:=by omega
    rw[h1]
    wp_walk
    exact⟨_,rfl,h⟩
  case fin=>
   rintro⟨b1,b2⟩ s' ⟨hb,rfl,i,hr,hi⟩
   have ee:items.size-i=(items.size-(i+1))+1:=by omega
   rw[ee,List.range'_succ]at hr
   cases hr
  case h=>
   exact⟨rfl,rfl,0,by simp,Nat.zero_le _⟩
end PySem.SeqAt
namespace L2.D
open PySem PySem.Spec PyProof.Rows PySem.SeqAt
section
variable{X:Cx}{κ:Kl}{pos p p2 apos:Pos}{a b c e:Expr}{fa fb:Den}
noncomputable def BI(x:Str):Value->Bool
 |.str y _=>decide (y=x)
 |_=>false
theorem zd{x:Str}:∀{ts:List Str} {us:List Value},Vals (ts.map V.str) us->x∈ts->∃h:ef x ts<us.length,BI x us[ef x ts]=true/\∀j (hj:j<ef x ts),BI x (us[j]'(Nat.lt_trans hj h))=false
 |[],_,_,h=>nomatch h
 |y::ts,_,.cons ⟨t,ht⟩ r,h=>by
  subst ht
  by_cases e:y=x
  ·subst e
   have z:ef y (y::ts)=0:=by unfold ef;rw[if_pos rfl]
   refine⟨by rw[z];simp,?_,λj hj=>by rw[z]at hj;omega⟩
   simp only[z]
   show decide (y=y)=true
   simp
  ·have hx:x∈ts:=(List.mem_cons.mp h).resolve_left λz=>e z.symm
   obtain⟨h1,h2,h3⟩:=zd r hx
   have z:ef x (y::ts)=ef x ts+1:=by
    show(if y=x then 0 else 1+ef x ts)=_
    rw[if_neg e,Nat.add_comm]
   refine⟨by rw[z];simpa using h1,?_,λj hj=>?_⟩
   ·simp only[z]
    exact h2
   ·cases j with
    |zero=>
     show decide (y=x)=false
     simpa using e
    |succ j=>
     rw[z]at hj
     exact h3 j (by omega)
theorem EV{A:Around}{s:Shared}{y x:Str}{t u:Tok}:EqAt A s (.str y t) (.str x u) (decide (y=x)):=λprog w E Q h=>wpAny_eqBool_str h
theorem vo{x:Str}:∀{ts:List Str} {us:List Value},Vals (ts.map V.str) us->∀v∈us,∃y t,v=.str y t
 |[],_,.nil,v,h=>nomatch h
 |y::ts,_,.cons ⟨t,ht⟩ r,v,h=>by
  rcases List.mem_cons.mp h with rfl|h
  ·exact⟨y,t,ht⟩
  ·exact vo (x:=x) r v h
theorem Hb{ta:TE}{tb:TE}(ha:PE X a ta)(hb:PE X b tb)(fF:attributeBase a "index" X.env (eval a X.env)=eval a X.env:=by rfl)
  (rP:((backTo pos (starEach [b] X.env)).all (λx=>!x.1)&&(backToKw pos (keywordEach [] X.env)).all (λx=>x.1.isSome)
    &&decide ([b].length+([]:List Keyword).length+(if([]:List Keyword).isEmpty then 0 else 1)<30))=true:=by rfl)
  (fG:(apos.endLine==pos.line)=true:=by rfl)(hs:starEach [b] X.env=(false,eval b X.env)::starEach [] X.env:=by rfl):
  PE X (.Call (.Attribute a "index" apos) [b] [] pos) (λσ H Q=>ta σ H λx H1=>∃p ts,x=.ref p/\ke X.K H1 p (ts.map V.str)/\tb σ H1 λy H2=>∃z,[y]=[V.str z]/\ke X.K H2 p (ts.map V.str)/\z∈ts/\Q (.int (ef z ts:Nat)) H2):=by
 intro pins s σ H Q I h
 refine wpAny_Call_method_late fF rP fG rfl (dF (ha pins s σ H _ I h) λv s1 cL=>?_)
 obtain⟨x,H1,I1,r1,p,ts,ex,hq,q1⟩:=cL
 subst ex
 cases r1
 obtain⟨its,rv,pl,hz⟩:=I1.tuple hq
 have nd:=I1.L4 hq
 refine⟨"tuple","tuple.index",PySem.F.plainAttrs_tuple,PySem.F.slot_tuple_index,PySem.F.type_tuple_index,(show s1.heap.IsTuple p its.toArray from pl).typeIs,λa e=>by cases e;exact nd,?_⟩
 have hA:=aP hb bQ hs pos pins s1 σ H1 (λvs H2=>∃z,vs=[.str z]/\ke X.K H2 p (ts.map V.str)/\z∈ts/\Q (.int (ef z ts:Nat)) H2) I1 q1
 rw[hs]at hA⊢
 refine Calls.callWith_builtin (by rfl) (Calls.evalArgs_plain ?_)
 refine dF hA λus s2 cL=>?_
 obtain⟨vs,H2,I2,r2,z,ez,Ls,hm,q2⟩:=cL
 subst ez
 obtain⟨u,rfl,t,rfl⟩:=vals1 r2
 obtain⟨me,JU,⟨⟨cls,dd,data,sl⟩,ho,hc,n,hd⟩,Uk⟩:=I2.tuple Ls
 simp only at hc hd
 subst hc hd
 obtain⟨h1,h2,h3⟩:=zd JU hm
 refine call_meets PySem.F.slot_tuple_index ⟨_,ho,rfl⟩ PySem.F.entry_tuple_index (PySem.F.args_tuple_index_2 _ _) (ux p me.toArray n dd sl (.str z t) (BI z) (ef z ts) (by simpa using h1) (by simpa using h2) (λj hj=>by simpa using h3 j hj)) ⟨ho,λy hy=>?_,?_⟩
 ·obtain⟨y',t',rfl⟩:=vo (x:=z) JU y (by simpa using hy)
  exact EV
 ·exact⟨.int _,H2,I2.tok _,⟨_,rfl⟩,q2⟩
theorem ze(ha:DB X κ a fa)(hb:DB X κ b fb)(fF:attributeBase a "index" X.env (eval a X.env)=eval a X.env:=by rfl)
  (rP:((backTo pos (starEach [b] X.env)).all (λx=>!x.1)&&(backToKw pos (keywordEach [] X.env)).all (λx=>x.1.isSome)
    &&decide ([b].length+([]:List Keyword).length+(if([]:List Keyword).isEmpty then 0 else 1)<30))=true:=by rfl)
  (fG:(apos.endLine==pos.line)=true:=by rfl)(hs:starEach [b] X.env=(false,eval b X.env)::starEach [] X.env:=by rfl):DE X κ (.Call (.Attribute a "index" apos) [b] [] pos) (ae wb fa fb):=by
 obtain⟨ta,h1,h2⟩:=ha
 obtain⟨tb,h3,h4⟩:=hb
 refine⟨_,Hb h1 h3 fF rP fG hs,λ{G A bo own ρ σ H p Q} r e q=>?_⟩
 obtain⟨p1,e1,e2⟩:=Option.bind_eq_some_iff.mp e
 obtain⟨p2,e3,e4⟩:=Option.bind_eq_some_iff.mp e2
 (cases p1<;>first|(cases e4;done)|skip)<;>cases p2<;>first|(cases e4;done)|skip
 obtain⟨ts,e5,e6⟩:=Option.bind_eq_some_iff.mp e4
 obtain⟨ok,rfl⟩:=bf e6
 refine h2 r e1 λx H1 s1 b1=>?_
 obtain⟨a,vs,rfl,q1,q2⟩:=b1.tup ax
 have ev:=BH q2 e5
 subst ev
 refine⟨a,ts,rfl,q1,h4 (r.mono s1) e3 λy H2 s2 b2=>?_⟩
 rw[b2.str]
 exact⟨_,rfl,sj s2 q1,of_decide_eq_true ok,q _ H2 (s1.trans s2) (.int _)⟩
end
theorem zf{α:Type}{us:List α}(h:us.length=1):∃a,us=[a]:=List.length_eq_one_iff.mp h
theorem ky{α:Type}{us:List α}(h:us.length=2):∃a b,us=[a,b]:=match us,h with|[a,b],_=>⟨a,b,rfl⟩
theorem Hc{α:Type}{us:List α}(h:us.length=3):∃a b c,us=[a,b,c]:=match us,h with|[a,b,c],_=>⟨a,b,c,rfl⟩
theorem Qh{α:Type}{us:List α}(h:us.length=4):∃a b c d,us=[a,b,c,d]:=match us,h with|[a,b,c,d],_=>⟨a,b,c,d,rfl⟩
end L2.D
namespace L2.D
open PySem
theorem sJ(a b:Nat):Builtin.bitAnd (a:Int) (b:Int)=((a&&&b:Nat):Int):=by
 unfold Builtin.bitAnd
 rw[decide_eq_true (by omega),decide_eq_true (by omega)]
 simp
theorem wx(k:Nat):(1:Int)*2^((k:Int).toNat)=((2^k:Nat):Int):=by
 rw[Int.toNat_natCast]
 simp
noncomputable def Uo(p:Nat->Nat->Bool):Bool:=(List.range 64).all λa=>(List.range 64).all λb=>p a b
theorem Ny{p:Nat->Nat->Bool}(h:Uo p=true){a b:Nat}(ha:a<64)(hb:b<64):p a b=true:=
 List.all_eq_true.mp (List.all_eq_true.mp h a (List.mem_range.mpr ha)) b (List.mem_range.mpr hb)
noncomputable def Qi(p:Nat->Bool):Bool:=(List.range 64).all p
theorem J7{p:Nat->Bool}(h:Qi p=true){a:Nat}(ha:a<64):p a=true:=List.all_eq_true.mp h a (List.mem_range.mpr ha)
end L2.D
namespace L2.D
theorem Ts{n:Nat}(h:n<=100000):ve (n:Int)=true:=by
 unfold ve
 simp
 omega
theorem Tt{k n:Nat}(h:k<n)(hn:n<=1000:=by decide):r0 1 (k:Int)=true:=by
 unfold r0
 simp
 omega
end L2.D
namespace L2.D
open PySem
theorem pI(x y:Int)(xs ys:List Int):pC (x::xs) (y::ys)=if x=y then pC xs ys else decide (x<y):=rfl
theorem vp:∀xs:List Int,pC xs xs=false
 |[]=>rfl
 |x::xs=>by rw[pI,if_pos rfl,vp xs]
noncomputable def RN(o:Option PV)(l:List Nat):Bool:=match o with
 |some (.lst ps)=>match fV ps with
  |some xs=>xs==l.map (λ(n:Nat)=>(n:Int))
  |none=>false
 |_=>false
theorem vq:∀xs:List Int,fV (xs.map PV.int)=some xs
 |[]=>rfl
 |x::xs=>by
  rw[List.map_cons]
  unfold fV
  rw[vq xs]
  rfl
theorem zg:∀{ps:List PV} {xs:List Int},fV ps=some xs->ps=xs.map PV.int
 |[],xs,h=>by cases h;rfl
 |p::ps,xs,h=>by
  cases p<;>first|(cases h;done)|skip
  obtain⟨cs,h1,rfl⟩:=Option.map_eq_some_iff.mp h
  rw[List.map_cons,<-zg h1]
noncomputable abbrev aE(l:List Nat):PV:=.lst (l.map λ(n:Nat)=>PV.int (n:Int))
theorem Nz{o:Option PV}{l:List Nat}(h:RN o l=true):o=some (aE l):=by
 unfold RN at h
 split at h
 ·split at h
  ·rename_i ps xs e
   have:=eq_of_beq h
   subst this
   rw[zg e,List.map_map]
   rfl
  ·cases h
 ·cases h
noncomputable abbrev ih(g:Nat):List Int:=(Mt.fI g).map λ(n:Nat)=>(n:Int)
noncomputable def EW(a b:Nat):Bool:=if(ih a).length=(ih b).length then pC (ih a) (ih b)else decide ((ih a).length<(ih b).length)
noncomputable def ox:aU:=jo (tV (ae nY (dV 4) (dV 5))) (bx (ae AW (dV 4) (dV 5))) cD
theorem rf(g:tZ)(body:aU)(x:PV)(xs:List PV)(ρ:c8):forL g body (x::xs) ρ=(g x ρ).bind λρ1=>(body ρ1).bind λf=>match f with
 |.nx ρ'=>forL g body xs ρ'
 |.ct ρ'=>forL g body xs ρ'
 |.bk ρ'=>some (.nx ρ')
 |.rt p=>some (.rt p):=rfl
theorem Hd(s0 s1 s2 s3:Slot)(x y:Int):ox [s0,s1,s2,s3,.sh (.int x),.sh (.int y)]=if x=y then some (.nx [s0,s1,s2,s3,.sh (.int x),.sh (.int y)])else some (.rt (.bl (decide (x<y)))):=by
 by_cases h:x=y<;>simp[ox,jo,tV,ae,dV,nY,Oz,AW,bx,cD,Ey,Slot.val,eqT,h]
theorem DF(s0 s1 s2 s3:Slot):∀(xs ys:List Int) (s4 s5:Slot),xs.length=ys.length->
  (xs=ys/\∃t4 t5,forL (kn (a9 4) (a9 5)) ox (List.zipWith (λx y=>PV.tup [x,y]) (xs.map PV.int) (ys.map PV.int)) [s0,s1,s2,s3,s4,s5]=some (.nx [s0,s1,s2,s3,t4,t5]))\/
  forL (kn (a9 4) (a9 5)) ox (List.zipWith (λx y=>PV.tup [x,y]) (xs.map PV.int) (ys.map PV.int)) [s0,s1,s2,s3,s4,s5]=some (.rt (.bl (pC xs ys)))
 |[],[],s4,s5,_=>.inl ⟨rfl,s4,s5,rfl⟩
 |x::xs,y::ys,s4,s5,h=>by
  simp only[List.map_cons,List.zipWith_cons_cons,rf]
  have g1:kn (a9 4) (a9 5) (.tup [.int x,.int y]) [s0,s1,s2,s3,s4,s5]=some [s0,s1,s2,s3,.sh (.int x),.sh (.int y)]:=rfl
  rw[g1]
  simp only[Option.bind_some,Hd]
  by_cases M4:x=y
  ·subst M4
   rcases DF s0 s1 s2 s3 xs ys (.sh (.int x)) (.sh (.int x)) (by simpa using h)with⟨h1,t4,t5,e⟩|e
   ·subst h1
    refine .inl ⟨rfl,t4,t5,?_⟩
    rw[if_pos rfl]
    exact e
   ·refine .inr ?_
    rw[if_pos rfl,pI,if_pos rfl]
    exact e
  ·refine .inr ?_
   rw[if_neg M4,pI,if_neg M4]
   rfl
 |[],_::_,_,_,h=>by simp at h
 |_::_,[],_,_,h=>by simp at h
noncomputable def rg(F:List PV->Option PV):aU:=aR (bK 2 (aI F (aa (bb 0) aF))) (aR (bK 3 (aI F (aa (bb 1) aF))) (aR (jo (tV (ae nY (bO b7 (dV 2)) (bO b7 (dV 3)))) (bx (ae AW (bO b7 (dV 2)) (bO b7 (dV 3)))) cD)
 (aR (ko (Bt (bb 2) (bb 3)) (kn (a9 4) (a9 5)) ox) (bx (dC (.bl false))))))
theorem J8{F:List PV->Option PV}{a b:PV}{l m:List PV}{xs ys:List Int}(h1:F [a]=some (.lst l))(h2:F [b]=some (.lst m))(e1:l=xs.map PV.int)(e2:m=ys.map PV.int):
  fn false 6 2 (rg F) [a,b]=some (.bl (if xs.length=ys.length then pC xs ys else decide (xs.length<ys.length))):=by
 have l1:l.length=xs.length:=by rw[e1,List.length_map]
 have l2:m.length=ys.length:=by rw[e2,List.length_map]
 simp only[fn,d9,rg]
 simp-implicitDefEqProofs [h1,h2,aR,bK,jo,tV,ae,bO,dV,bb,dC,aa,aF,aI,nY,Oz,AW,b7,bx,cD,ko,Bt,wa,Ey,mP,Slot.val,Slot.Ex,eqT]
 rw[l1,l2]
 by_cases hl:xs.length=ys.length
 ·simp[hl,aR,bK,jo,tV,ae,bO,dV,bb,dC,aa,aF,aI,nY,Oz,AW,b7,bx,cD,ko,Bt,wa,Ey,mP,Slot.val,Slot.Ex,eqT]
  have z:=DF (.sh a) (.sh b) (.sh (.lst l)) (.sh (.lst m)) xs ys .un .un hl
  rw[<-e1,<-e2]at z
  rcases z with⟨h3,t4,t5,e⟩|e
  ·rw[e]
   subst h3
   simp-implicitDefEqProofs [vp,bx,dC,wa]
  ·rw[e]
   simp[wa]
 ·have Om:¬(xs.length:Int)=(ys.length:Int):=by omega
  simp-implicitDefEqProofs [hl,Om,aR,bK,jo,tV,ae,bO,dV,bb,dC,aa,aF,aI,nY,Oz,AW,b7,bx,cD,ko,Bt,wa,Ey,mP,Slot.val,Slot.Ex,eqT]
theorem NA{F:List PV->Option PV}(hF:∀g:Nat,g<64->F [.int g]=some (aE (Mt.fI g))){a b:Nat}(ha:a<64)(hb:b<64):fn false 6 2 (rg F) [.int a,.int b]=some (.bl (EW a b)):=
 J8 (hF a ha) (hF b hb) (by simp[ih]) (by simp[ih])
end L2.D
namespace L2.D.Sh
open PySem
noncomputable def mT:aU:=(bx (ae kc (ae j9 (ae r9 (dV 0) (dV 1)) (dC (.int 1))) (dC (.int 1))))
noncomputable def mU(eg:List PV->Option PV):aU:=(bx (bu (dX (bO Gr (dV 0))) (tV (aI eg (aa (bb 1) (aa (bb 0) aF)))) (bb 0)))
noncomputable def oy(eh:List PV->Option PV):aU:=(aR (bK 1 (aI eh (aa (bb 0) aF))) (bx (gf (aa (bO b7 (dV 1)) (aa (bb 1) aF)))))
noncomputable def zh:aU:=(bx (bu (dX (dC (.int 6))) (tV (ae kc (ae j9 (ae r9 (dV 1) (dV 0)) (dC (.int 1))) (dC (.int 1)))) (bb 0)))
noncomputable def iH:aU:=(aR (jo (tV (ae AW (dV 1) (bO b7 (dV 0)))) (bx (ae gg (dV 0) (dV 1))) cD) (bx (dC (.int 0))))
noncomputable def oz:aU:=(bx (ae kc (ae j9 (dV 0) (dV 1)) (dV 0)))
noncomputable def wy(gN:List PV->Option PV):aU:=(bx (bO Gq (bu (nList (dV 0)) cP (aI gN (aa (bb 0) (aa (bb 2) aF))))))
noncomputable def et(F_place bI:List PV->Option PV):aU:=(jo (o5 (tV (mN bI (aa (dV 1) (aa (dV 2) aF))))) (mQ 1 eJ (aa (bb 2) aF)) cD)
noncomputable def rh(F_place bI:List PV->Option PV):aU:=(aR (jY 1 (pA aF)) (aR (ko (nList (p8 (nList (dV 0)))) (a9 2) (et F_place bI)) (Dd 1)))
noncomputable def iq(F_place:List PV->Option PV):aU:=(bx (p8 (dX (ae v7 (dC (.int 1)) (dV 0)))))
noncomputable def lX(bI:List PV->Option PV):aU:=(bx (bO b7 (bu (nList (dV 0)) (tV (aI bI (aa (bb 0) (aa (bb 2) aF)))) (bb 0))))
noncomputable def wz(fv bX cR:List PV->Option PV):aU:=(bx (aI fv (aa (bu (nList (aI bX (aa (dC (.int 6)) aF))) (tV (ae OA (aI cR (aa (bb 2) (aa (bb 0) aF))) (dV 1))) (bb 0)) aF)))
end L2.D.Sh
namespace L2.D
open PySem
noncomputable abbrev VO:=fn false 2 2 Sh.mT
noncomputable abbrev Tu:=fn true 1 1 (Sh.mU VO)
noncomputable abbrev RO:=fn false 2 1 (Sh.oy Tu)
noncomputable abbrev VP:=fn true 1 1 Sh.zh
noncomputable abbrev VQ:=fn false 2 2 Sh.iH
noncomputable abbrev Uq:=fn false 2 2 Sh.oz
noncomputable abbrev Flt:=fn false 2 2 (Sh.wy Uq)
noncomputable abbrev Ur:=fn true 3 1 (Sh.rh RO Flt)
theorem EX:Qi (λg=>RN (Tu [.int g]) (Mt.fI g)&&RN (VP [.int g]) (Mt.fI g))=true:=by decide+kernel
theorem He(g:Nat)(h:g<64):Tu [.int g]=some (aE (Mt.fI g)):=Nz (by have:=J7 EX h;rw[Bool.and_eq_true]at this;exact this.1)
theorem EY{F:List PV->Option PV}{g:PV}{l:List PV}(h:F [g]=some (.lst l)):fn false 2 1 (Sh.oy F) [g]=some (.tup [.int l.length,.lst l]):=by
 have sz:(2:Nat)<=sizeLine:=by decide
 simp-implicitDefEqProofs [fn,d9,Sh.oy,h,sz,aR,bK,aI,aa,aF,bb,Slot.Ex,bx,gf,bO,b7,dV,Slot.val,wa]
theorem Hf{g:Nat}(h:g<64):RO [.int g]=some (.tup [.int (ih g).length,.lst ((ih g).map PV.int)]):=by
 have e:(aE (Mt.fI g))=.lst ((ih g).map PV.int):=by simp[aE,ih]
 have:=He g h
 rw[e]at this
 refine(EY this).trans ?_
 rw[List.length_map]
theorem wA:Uo (λa b=>EW a b==decide (Mt.rank a<Mt.rank b))=true:=by decide+kernel
theorem vt{a b:Nat}(ha:a<64)(hb:b<64):EW a b=decide (Mt.rank a<Mt.rank b):=eq_of_beq (Ny wA ha hb)
theorem wB{n:Int}(h:oZ n=true):n.toNat<64/\n=((n.toNat:Nat):Int):=by
 unfold oZ at h
 simp only[Bool.and_eq_true,decide_eq_true_eq]at h
 omega
theorem BJ:eL RO:=by
 refine⟨λn=>(ih n.toNat).length,λn=>ih n.toNat,λn hn=>?_,λn m hn hm=>?_⟩
 ·obtain⟨h1,h2⟩:=wB hn
  have:=Hf h1
  rw[<-h2]at this
  exact this
 ·obtain⟨h1,h2⟩:=wB hn
  obtain⟨h3,h4⟩:=wB hm
  have:=vt h1 h3
  unfold EW at this
  unfold ig
  rw[<-this]
  by_cases h:(ih n.toNat).length=(ih m.toNat).length
  ·rw[if_pos h,if_pos (show(((ih n.toNat).length:Nat):Int)=((ih m.toNat).length:Nat) by rw[h])]
  ·rw[if_neg h,if_neg (show¬(((ih n.toNat).length:Nat):Int)=((ih m.toNat).length:Nat) by omega)]
   simp
theorem EZ(a b:Nat):Uq [.int a,.int b]=some (.bl (Mt.sub a b)):=by
 have:(((a&&&b:Nat):Int)=(a:Int))↔(a&&&b)=a:=by omega
 simp-implicitDefEqProofs [fn,d9,Sh.oz,sJ,Mt.sub,this,bx,ae,dV,Slot.val,j9,kc,eqT,wa]
 rfl
theorem pJ:∀bs:List Bool,bools (bs.map PV.bl)=some bs
 |[]=>rfl
 |b::bs=>by
  rw[List.map_cons]
  unfold bools
  rw[pJ bs]
  rfl
theorem pK{c:de}{e:Den}{ρ:c8}{f:PV->PV}{p:PV->Bool}:∀xs:List PV,(∀x∈xs,c (.sh x::ρ)=some (p x))->(∀x∈xs,p x=true->e (.sh x::ρ)=some (f x))->fJ c e ρ xs=some ((xs.filter p).map f)
 |[],_,_=>rfl
 |x::xs,h1,h2=>by
  have ih:=pK xs (λy hy=>h1 y (List.mem_cons_of_mem _ hy)) λy hy=>h2 y (List.mem_cons_of_mem _ hy)
  unfold fJ
  rw[h1 x (List.mem_cons_self ..),ih]
  by_cases hp:p x=true
  ·rw[List.filter_cons_of_pos hp,List.map_cons]
   simp[hp,h2 x (List.mem_cons_self ..) hp]
  ·rw[List.filter_cons_of_neg hp]
   simp at hp
   simp[hp]
theorem vv{e:Den}{ρ:c8}{f:PV->PV}(xs:List PV)(h:∀x∈xs,e (.sh x::ρ)=some (f x)):fJ cP e ρ xs=some (xs.map f):=by
 have:=pK (c:=cP) (e:=e) (ρ:=ρ) (f:=f) (p:=λ_=>true) xs (λ_ _=>rfl) λx hx _=>h x hx
 rwa[List.filter_eq_self.mpr (λ_ _=>rfl)]at this
theorem jh{it:cM}{c:de}{e:Den}{ρ:c8}{xs zs:List PV}(h1:it ρ=some xs)(h2:xs.length<=sizeLine)(h3:fJ c e ρ xs=some zs):bu it c e ρ=some (.lst zs):=by
 unfold bu
 rw[h1]
 show(if xs.length<=sizeLine then _ else none)=_
 rw[if_pos h2,h3]
 rfl
theorem jy{it:cM}{g:tZ}{body:aU}{ρ:c8}{xs:List PV}(h:it ρ=some xs):ko it g body ρ=forL g body xs ρ:=by
 unfold ko
 rw[h]
 rfl
theorem kz{a:Den}{ρ:c8}{l:List PV}(h:a ρ=some (.lst l)):nList a ρ=some l:=by
 unfold nList
 rw[h]
 rfl
theorem ar{a b:aU}{ρ ρ':c8}(h:a ρ=some (.nx ρ')):aR a b ρ=b ρ':=by
 unfold aR
 rw[h]
 rfl
theorem oA{a b:aU}{ρ:c8}{p:PV}(h:a ρ=some (.rt p)):aR a b ρ=some (.rt p):=by
 unfold aR
 rw[h]
 rfl
theorem jZ{t:de}{a b:aU}{ρ:c8}(h:t ρ=some true):jo t a b ρ=a ρ:=by
 unfold jo
 rw[h]
 rfl
theorem dP{t:de}{a b:aU}{ρ:c8}(h:t ρ=some false):jo t a b ρ=b ρ:=by
 unfold jo
 rw[h]
 rfl
theorem aJ{i:Nat}{a:Den}{ρ:c8}{p:PV}(h:a ρ=some p):bK i a ρ=some (.nx (ρ.set i (.sh p))):=by
 unfold bK
 rw[h]
 rfl
theorem gO{i:Nat}{a:Den}{ρ:c8}{l:List PV}(h:a ρ=some (.lst l)):jY i a ρ=some (.nx (ρ.set i (.ow l))):=by
 unfold jY
 rw[h]
 rfl
theorem dM{a:Den}{ρ:c8}{p:PV}(h:a ρ=some p):bx a ρ=some (.rt p):=by
 unfold bx
 rw[h]
 rfl
theorem aW{F:List PV->Option PV}{as:cM}{ρ:c8}{ps:List PV}(h:as ρ=some ps):aI F as ρ=F ps:=by
 unfold aI
 rw[h]
 rfl
theorem E1{F:List PV->Option PV}{as:cM}{ρ:c8}{ps:List PV}{p:PV}(h:as ρ=some ps)(e:F ps=some p)(f:flat p=true):mN F as ρ=some p:=by
 unfold mN
 rw[h]
 show((F ps).bind _)=_
 rw[e]
 show(if flat p then some p else none)=_
 rw[if_pos f]
theorem cE{a:Den}{ρ:c8}{b:Bool}(h:a ρ=some (.bl b)):tV a ρ=some b:=by
 unfold tV
 rw[h]
 rfl
theorem oB{t:de}{ρ:c8}{b:Bool}(h:t ρ=some b):o5 t ρ=some (!b):=by
 unfold o5
 rw[h]
 rfl
theorem sL{a b:de}{ρ:c8}(h:a ρ=some false):FD a b ρ=b ρ:=by
 unfold FD
 rw[h]
 rfl
theorem Lx{a b:de}{ρ:c8}(h:a ρ=some true):FD a b ρ=some true:=by
 unfold FD
 rw[h]
 rfl
theorem NB{a b:de}{ρ:c8}(h:a ρ=some true):yg a b ρ=b ρ:=by
 unfold yg
 rw[h]
 rfl
theorem NC{a b:de}{ρ:c8}(h:a ρ=some false):yg a b ρ=some false:=by
 unfold yg
 rw[h]
 rfl
theorem ai{g:PV->PV->Option PV}{a b:Den}{ρ:c8}{x y:PV}(h1:a ρ=some x)(h2:b ρ=some y):ae g a b ρ=g x y:=by
 unfold ae
 rw[h1]
 show(b ρ).bind _=_
 rw[h2]
 rfl
theorem eO{g:PV->Option PV}{a:Den}{ρ:c8}{x:PV}(h1:a ρ=some x):bO g a ρ=g x:=by
 unfold bO
 rw[h1]
 rfl
theorem Hg{a:Den}{ρ:c8}{j:Int}(h1:a ρ=some (.int j))(h2:ve j=true):dX a ρ=some (fN 0 j.toNat):=by
 unfold dX
 rw[h1]
 simp only[Option.bind_some,PQ]
 rw[if_pos h2]
theorem DH(i j:Int):kc (.int i) (.int j)=some (.bl (decide (i=j))):=rfl
theorem ND(i j:Bool):nY (.bl i) (.bl j)=some (.bl (!decide (i=j))):=rfl
theorem eT{fr:Bool}{n k:Nat}{body:aU}{ps:List PV}{p:PV}(h:ps.length=k)(e:body (d9 n ps)=some (.rt p)):fn fr n k body ps=some p:=by
 unfold fn
 rw[if_pos h,e]
 rfl
theorem ri(ns:List Int)(k:Nat):VQ [.lst (ns.map PV.int),.int k]=some (.int (ns.getD k 0)):=by
 have t:tV (ae AW (dV 1) (bO b7 (dV 0))) [.sh (.lst (ns.map PV.int)),.sh (.int k)]=some (decide (k<ns.length)):=by
  refine cE ((ai (x:=.int k) (y:=.int ((ns.map PV.int).length:Nat)) rfl rfl).trans ?_)
  show some (PV.bl (decide ((k:Int)<(((ns.map PV.int).length:Nat):Int))))=_
  rw[List.length_map]
  congr 2
  rw[decide_eq_decide]
  omega
 by_cases h:k<ns.length
 ·rw[decide_eq_true h]at t
  have e:itemAt (ns.map PV.int) (k:Int)=some (.int (ns.getD k 0)):=by simp[itemAt,OB,h]
  exact eT rfl (oA ((jZ t).trans (dM ((ai (x:=.lst (ns.map PV.int)) (y:=.int k) rfl rfl).trans e))))
 ·rw[decide_eq_false h]at t
  have h2:ns.getD k 0=0:=by
   rw[List.getD_eq_getElem?_getD,List.getElem?_eq_none (by omega)]
   rfl
  rw[h2]
  exact eT rfl ((ar ((dP t).trans rfl)).trans (dM rfl))
theorem kB{fr:Bool}{n k:Nat}{f:Den}{ps:List PV}{p:PV}(h:ps.length=k)(e:f (d9 n ps)=some p):fn fr n k (bx f) ps=some p:=by
 unfold fn
 rw[if_pos h]
 unfold bx
 rw[e]
 rfl
noncomputable abbrev pl(l:List Nat):List PV:=l.map λ(n:Nat)=>PV.int (n:Int)
theorem eu(l:List Nat):(pl l).length=l.length:=List.length_map _
theorem Hh{F:List PV->Option PV}(hF:∀a b:Nat,F [.int a,.int b]=some (.bl (Mt.sub a b)))(l:List Nat)(g:Nat)(hl:l.length<=sizeLine):fn false 2 2 (Sh.wy F) [aE l,.int g]=some (.bl (Mt.lets l g)):=by
 refine kB rfl ?_
 have e:=vv (e:=aI F (aa (bb 0) (aa (bb 2) aF))) (ρ:=[.sh (aE l),.sh (.int g)]) (f:=λx=>.bl (match x with|.int n=>Mt.sub n.toNat g|_=>false)) (pl l) (by
  intro x hx
  obtain⟨n,_,rfl⟩:=List.mem_map.mp hx
  simp-implicitDefEqProofs [hF,aI,aa,aF,bb,Slot.Ex])
 have d:=jh (it:=nList (dV 0)) (ρ:=[.sh (aE l),.sh (.int g)]) (xs:=pl l) rfl (by rw[eu];exact hl) e
 show(bu (nList (dV 0)) cP (aI F (aa (bb 0) (aa (bb 2) aF))) [.sh (aE l),.sh (.int g)]).bind Gq=_
 rw[d]
 have e2:(pl l).map (λx=>PV.bl (match x with|.int n=>Mt.sub n.toNat g|_=>false))=(l.map λr=>Mt.sub r g).map PV.bl:=by
  rw[List.map_map,List.map_map]
  rfl
 show(bools ((pl l).map (λx=>PV.bl (match x with|.int n=>Mt.sub n.toNat g|_=>false)))).map _=_
 rw[e2,pJ]
 unfold Mt.lets
 rw[Option.map_some,List.any_map]
 rfl
theorem DJ(l:List Nat)(g:Nat)(hl:l.length<=sizeLine):Flt [aE l,.int g]=some (.bl (Mt.lets l g)):=Hh EZ l g hl
noncomputable def DK(l:List Nat):List Nat:=(eK ig (l.map λ(n:Nat)=>(n:Int))).map Int.toNat
theorem zi(l:List Nat):eK ig (l.map λ(n:Nat)=>(n:Int))=(DK l).map λ(n:Nat)=>(n:Int):=by
 unfold DK
 rw[List.map_map]
 have:∀x∈eK ig (l.map λ(n:Nat)=>(n:Int)),((λ(n:Nat)=>(n:Int))∘Int.toNat) x=id x:=λx hx=>by
  obtain⟨n,_,rfl⟩:=List.mem_map.mp ((gz ig _).mem_iff.mp hx)
  simp
 rw[List.map_congr_left this,List.map_id]
theorem gQ(l:List Nat):(DK l).Perm l:=by
 have h:=(gz ig (l.map λ(n:Nat)=>(n:Int))).map Int.toNat
 rw[List.map_map]at h
 have e:(Int.toNat∘λ(n:Nat)=>(n:Int))=id:=by
  funext n
  simp
 rw[e,List.map_id]at h
 exact h
theorem BK(l:List Nat):(DK l).Pairwise λa b=>Mt.rank a<=Mt.rank b:=by
 have h:=kr ig (l.map λ(n:Nat)=>(n:Int))
 rw[zi,List.pairwise_map]at h
 exact h.imp λ{a b} q=>by simpa[ig]using q
theorem zj(l:List Nat):fV (pl l)=some (l.map λ(n:Nat)=>(n:Int)):=by
 have:pl l=(l.map λ(n:Nat)=>(n:Int)).map PV.int:=by
  rw[List.map_map]
  rfl
 rw[this,vq]
theorem E2{l:List Nat}(h:∀g∈l,g<64)(hl:l.length<=5000):kq (l.map λ(n:Nat)=>(n:Int))=true:=by
 unfold kq
 simp only[Bool.and_eq_true,List.all_eq_true,decide_eq_true_eq,List.length_map]
 refine⟨λx hx=>?_,hl⟩
 obtain⟨n,hn,rfl⟩:=List.mem_map.mp hx
 have:=h n hn
 unfold oZ
 simp
 omega
theorem zk{it:cM}{ρ:c8}{l:List Nat}(h:it ρ=some (pl l))(Bo:∀g∈l,g<64)(hl:l.length<=5000):p8 it ρ=some (aE (DK l)):=by
 unfold p8
 rw[h]
 show(fV (pl l)).bind _=_
 rw[zj]
 show(if kq _ then _ else none)=_
 rw[if_pos (E2 Bo hl),zi,List.map_map]
 rfl
theorem vw{F_place bI:List PV->Option PV}(hL:∀(l:List Nat) (g:Nat),l.length<=sizeLine->bI [aE l,.int g]=some (.bl (Mt.lets l g)))(s0:Slot):∀(ss acc:List Nat) (s2:Slot),acc.length+ss.length<=5000->
  ∃t2,forL (a9 2) (Sh.et F_place bI) (pl ss) [s0,.ow (pl acc),s2]=some (.nx [s0,.ow (pl (ss.foldl Mt.ju acc)),t2])
 |[],acc,s2,_=>⟨s2,rfl⟩
 |g::ss,acc,s2,h=>by
  have zl:(5000:Nat)<=sizeLine:=by decide
  rw[List.length_cons]at h
  have b:Sh.et F_place bI [s0,.ow (pl acc),.sh (.int g)]=some (.nx [s0,.ow (pl (Mt.ju acc g)),.sh (.int g)]):=by
   have h1:=hL acc g (by omega)
   have h2:(pl acc).length<sizeLine:=by rw[eu];omega
   have h3:(Sh.et F_place bI [s0,.ow (pl acc),.sh (.int g)])=(if(!Mt.lets acc g)=true then some (.nx [s0,.ow (pl acc++[.int g]),.sh (.int g)])else some (.nx [s0,.ow (pl acc),.sh (.int g)])):=by
    unfold Sh.et jo o5 tV mN
    have e0:(aa (dV 1) (aa (dV 2) aF)) [s0,.ow (pl acc),.sh (.int g)]=some [aE acc,.int g]:=rfl
    rw[e0]
    simp-implicitDefEqProofs only[Option.bind_some,h1,flat,if_true,Ey,Option.map_some]
    split
    ·have:(mQ 1 eJ (aa (bb 2) aF)) [s0,.ow (pl acc),.sh (.int g)]=((if(pl acc).length<sizeLine then some (pl acc++[.int g])else none).map λl'=>Fl.nx [s0,.ow l',.sh (.int g)]):=rfl
     rw[this,if_pos h2]
     rfl
    ·rfl
   rw[h3]
   unfold Mt.ju
   cases Mt.lets acc g<;>simp[pl]
  obtain⟨t2,e⟩:=vw hL s0 ss (Mt.ju acc g) (.sh (.int g)) (by
   unfold Mt.ju
   split
   ·omega
   ·rw[List.length_append,List.length_singleton]
    omega)
  refine⟨t2,?_⟩
  rw[show pl (g::ss)=.int g::pl ss from rfl,rf]
  show((Sh.et F_place bI [s0,.ow (pl acc),.sh (.int g)]).bind _)=_
  rw[b]
  exact e
theorem E3{F_place bI:List PV->Option PV}(hL:∀(l:List Nat) (g:Nat),l.length<=sizeLine->bI [aE l,.int g]=some (.bl (Mt.lets l g))){l:List Nat}(Bo:∀g∈l,g<64)(hl:l.length<=5000):
  fn true 3 1 (Sh.rh F_place bI) [aE l]=some (aE (Mt.rZ (DK l))):=by
 obtain⟨t2,e⟩:=vw (F_place:=F_place) hL (.sh (aE l)) (DK l) [] .un (by rw[(gQ l).length_eq];simpa using hl)
 have d:=zk (it:=nList (dV 0)) (ρ:=[.sh (aE l),.ow [],.un]) (l:=l) rfl Bo hl
 refine eT rfl ?_
 refine(ar (gO (l:=[]) rfl)).trans ?_
 refine(ar ((jy (kz d)).trans e)).trans ?_
 rfl
theorem Hi{l:List Nat}(Bo:∀g∈l,g<64)(hl:l.length<=5000):Ur [aE l]=some (aE (Mt.rZ (DK l))):=E3 DJ Bo hl
theorem Hj{l:List Nat}(Bo:∀g∈l,g<64):Mt.Cl (DK l) (Mt.rZ (DK l)):=Mt.Gp (λg hg=>Bo g ((gQ l).mem_iff.mp hg)) (BK l)
theorem BL{l:List Nat}{x:PV}(h:x∈pl l):∃n∈l,x=.int (n:Nat):=by
 obtain⟨n,hn,rfl⟩:=List.mem_map.mp h
 exact⟨n,hn,rfl⟩
theorem pL{l:List Nat}{k:Nat}(h:k<l.length):itemAt (pl l) (k:Int)=some (.int (l[k]:Nat)):=by
 have h':(k:Int)<(l.length:Int):=by omega
 simp[itemAt,OB,h',h]
theorem vx{i:Nat}{body:aU}:∀(xs:List PV) (ρ:c8),(∀x∈xs,body (ρ.set i (.sh x))=some (.nx (ρ.set i (.sh x))))->∃s,forL (a9 i) body xs ρ=some (.nx (ρ.set i s))
 |[],ρ,_=>by
  by_cases h:i<ρ.length
  ·exact⟨ρ[i],by rw[List.set_getElem_self];rfl⟩
  ·exact⟨.un,by rw[List.set_eq_of_length_le (by omega)];rfl⟩
 |x::xs,ρ,h=>by
  obtain⟨s,e⟩:=vx xs (ρ.set i (.sh x)) (λy hy=>by
   rw[List.set_set]
   exact h y (List.mem_cons_of_mem _ hy))
  refine⟨s,?_⟩
  rw[rf]
  show((body (ρ.set i (.sh x))).bind _)=_
  rw[h x (List.mem_cons_self ..)]
  show forL (a9 i) body xs (ρ.set i (.sh x))=_
  rw[e,List.set_set]
theorem DL(c:Nat)(h:c<=6):v7 (.int 1) (.int c)=some (.int ((2^c:Nat):Int)):=by
 have:=Tt (k:=c) (n:=7) (by omega)
 unfold v7
 dsimp only
 rw[if_pos this,wx]
theorem DM(n:Nat):∀l m:List Nat,l.length=m.length->(mM (i8 n) (pl l) (pl m)).map (λes=>es.all id)=some (decide (l=m))
 |[],[],_=>rfl
 |a::l,b::m,h=>by
  have ih:=DM n l m (by simpa using h)
  obtain⟨es,e1,e2⟩:=Option.map_eq_some_iff.mp ih
  have h1:i8 n (.int a) (.int b)=some (decide (a=b)):=by
   have:i8 n (.int a) (.int b)=some (((a:Int))==(b:Int)):=by cases n<;>rfl
   rw[this]
   congr 1
   by_cases h:a=b
   ·subst h;simp
   ·have:¬((a:Int)=(b:Int)):=by omega
    rw[decide_eq_false h]
    simp[this]
  show((mM (i8 n) (.int a::pl l) (.int b::pl m)).map _)=_
  unfold mM
  rw[h1,e1]
  show some ((decide (a=b)::es).all id)=_
  rw[List.all_cons,e2]
  congr 1
  by_cases h2:a=b<;>by_cases h3:l=m<;>simp[h2,h3]
 |[],_::_,h=>by simp at h
 |_::_,[],h=>by simp at h
theorem Hk(n:Nat)(l m:List Nat):i8 (n+1) (aE l) (aE m)=some (decide (l=m)):=by
 show Fy (i8 n) (pl l) (pl m)=_
 unfold Fy
 rw[eu,eu]
 by_cases h:l.length=m.length
 ·rw[if_pos h]
  exact DM n l m h
 ·rw[if_neg h]
  congr 1
  exact(decide_eq_false λz=>h (by rw[z])).symm
theorem NF(l m:List Nat):kc (aE l) (aE m)=some (.bl (decide (l=m))):=by
 show(i8 20 (aE l) (aE m)).map PV.bl=_
 rw[Hk]
 rfl
theorem NG(l m:List Nat):nY (aE l) (aE m)=some (.bl (!decide (l=m))):=by
 show(i8 20 (aE l) (aE m)).map (λe=>PV.bl !e)=_
 rw[Hk]
 rfl
theorem Hl{α β:Type}(f:α->β)(l:List α)(lo hi:Option Int):km (l.map f) lo hi=(km l lo hi).map f:=by
 unfold km
 rw[List.length_map,<-List.map_drop,<-List.map_take]
theorem E4(l:List Nat)(p:PV->Bool):(pl l).filter p=pl (l.filter λn=>p (.int (n:Nat))):=by
 unfold pl
 rw[List.filter_map]
 rfl
theorem eX{c:Nat}(h:c<=6):2^c<=64:=Nat.pow_le_pow_right (by decide) h
noncomputable abbrev ir(ns:List Int):PV:=.lst (ns.map PV.int)
end L2.D
namespace Mt
theorem Hm:∀(n:Nat) (l:List Nat),l.Nodup->(∀x∈l,x<n)->l.length<=n
 |0,[],_,_=>Nat.le_refl _
 |0,x::l,_,h=>absurd (h x (List.mem_cons_self ..)) (by omega)
 |n+1,l,hd,h=>by
  have:=Hm n (l.erase n) (hd.erase n) (λx hx=>by
   obtain⟨h1,h2⟩:=hd.mem_erase_iff.mp hx
   have:=h x h2
   omega)
  rw[List.length_erase]at this
  split at this<;>omega
theorem Oy.nodup{l:List Nat}(h:Oy l):l.Nodup:=h.ord.imp λ{a b} q z=>by
 subst z
 omega
theorem Oy.len{l:List Nat}(h:Oy l):l.length<=64:=Hm 64 l h.nodup h.small
theorem sub_le{a b:Nat}(h:sub a b=true):a<=b:=by
 rw[C9]at h
 rw[<-h]
 exact Nat.and_le_right
end Mt
namespace L2.D
open PySem
theorem zm(a b:Nat):j9 (.int a) (.int b)=some (.int ((a&&&b:Nat):Int)):=by
 show some (PV.int (Builtin.bitAnd (a:Int) (b:Int)))=_
 rw[sJ]
theorem rj(a b:Nat):kc (.int a) (.int b)=some (.bl (decide (a=b))):=by
 rw[DH]
 congr 2
 rw[decide_eq_decide]
 omega
theorem cS(x:Int){n:Nat}(h:0<n):cw (.int x) (.int n)=some (.int (((x %(n:Int)).toNat:Nat):Int)):=by
 show(if decide (0<(n:Int))then some (PV.int (x %(n:Int)))else none)=_
 rw[if_pos (decide_eq_true (by omega))]
 have:=Int.emod_nonneg x (show(n:Int)≠0 by omega)
 congr 2
 omega
theorem mod_lt(x:Int){n:Nat}(h:0<n):(x %(n:Int)).toNat<n:=by
 have:=Int.emod_lt_of_pos x (show(0:Int)<n by omega)
 omega
theorem sub_eq{A B:Den}{ρ:c8}{a b:Nat}(hA:A ρ=some (.int a))(hB:B ρ=some (.int b)):ae kc (ae j9 A B) A ρ=some (.bl (Mt.sub a b)):=by
 refine(ai ((ai hA hB).trans (zm a b)) hA).trans ?_
 rw[rj]
 rfl
theorem BM(n:Nat):fN 0 n=pl (List.range n):=by
 unfold fN
 refine List.map_congr_left λk _=>?_
 rw[Int.zero_add]
theorem gT{a:Den}{ρ:c8}{n:Nat}(h:a ρ=some (.int n))(hn:n<=100000):dX a ρ=some (pl (List.range n)):=by
 rw[Hg h (Ts hn),Int.toNat_natCast,BM]
theorem lZ{it:cM}{c:de}{ρ:c8}{l:List Nat}{p:Nat->Bool}(h1:it ρ=some (pl l))(h2:l.length<=sizeLine)(h3:∀n∈l,c (.sh (.int (n:Nat))::ρ)=some (p n)):bu it c (bb 0) ρ=some (aE (l.filter p)):=by
 have cp:=pK (c:=c) (e:=bb 0) (ρ:=ρ) (f:=id) (p:=λx=>match x with|.int r=>p r.toNat|_=>false) (pl l) (by
  intro x hx
  obtain⟨n,hn,rfl⟩:=BL hx
  exact h3 n hn) (λx hx _=>rfl)
 refine(jh h1 (by rw[eu];exact h2) cp).trans ?_
 rw[E4,List.map_id]
 rfl
theorem BN{it:cM}{e:Den}{ρ:c8}{l:List Nat}{f:Nat->PV}(h1:it ρ=some (pl l))(h2:l.length<=sizeLine)(h3:∀n∈l,e (.sh (.int (n:Nat))::ρ)=some (f n)):bu it cP e ρ=some (.lst (l.map f)):=by
 have cp:=vv (e:=e) (ρ:=ρ) (f:=λx=>match x with|.int r=>f r.toNat|_=>.non) (pl l) (by
  intro x hx
  obtain⟨n,hn,rfl⟩:=BL hx
  exact h3 n hn)
 refine(jh h1 (by rw[eu];exact h2) cp).trans ?_
 unfold pl
 rw[List.map_map]
 rfl
theorem Hn{t:de}{body:aU}{n:Nat}{ρ:c8}(h:t ρ=some false):eW t body (n+1) ρ=some (.nx ρ):=by
 unfold eW
 rw[h]
 rfl
theorem Ho{t:de}{body:aU}{n:Nat}{ρ ρ':c8}(h:t ρ=some true)(hb:body ρ=some (.nx ρ')):eW t body (n+1) ρ=eW t body n ρ':=by
 conv=>lhs;unfold eW
 rw[h]
 show(body ρ).bind _=_
 rw[hb]
 rfl
structure ij(c:Nat)(l:List Nat):Prop where
 lad:Mt.Oy l
 lt:∀g∈l,g<2^c
theorem ij.len{c:Nat}{l:List Nat}(h:ij c l):l.length<=64:=h.lad.len
theorem BO{c:Nat}(c6:c<=6){l:List Nat}(h:∀g∈l,g<2^c):ij c (Mt.rZ (DK l))/\∀g,Mt.lets (Mt.rZ (DK l)) g=Mt.lets l g:=by
 have Bo:∀g∈l,g<64:=λg hg=>Nat.lt_of_lt_of_le (h g hg) (eX c6)
 have cl:=Hj Bo
 refine⟨⟨cl.lad,λg hg=>h g ((gQ l).mem_iff.mp (cl.mem g hg))⟩,λg=>?_⟩
 rw[cl.lets g]
 unfold Mt.lets
 rw[Bool.eq_iff_iff,List.any_eq_true,List.any_eq_true]
 exact⟨λ⟨r,h1,h2⟩=>⟨r,(gQ l).mem_iff.mp h1,h2⟩,λ⟨r,h1,h2⟩=>⟨r,(gQ l).mem_iff.mpr h1,h2⟩⟩
theorem av{a:Den}{as:cM}{ρ:c8}{x:PV}{xs:List PV}(h1:a ρ=some x)(h2:as ρ=some xs):aa a as ρ=some (x::xs):=by
 unfold aa
 rw[h1,h2]
 rfl
theorem rl{as:cM}{ρ:c8}{xs:List PV}(h:as ρ=some xs)(hl:xs.length<=5000):pA as ρ=some (.lst xs):=by
 have zl:(5000:Nat)<=sizeLine:=by decide
 unfold pA
 rw[h]
 show(if xs.length<=sizeLine then some (PV.lst xs)else none)=_
 rw[if_pos (by omega)]
noncomputable def uy(c:Nat):List Nat:=DK (List.range (2^c))
theorem zo{c g:Nat}:g∈uy c↔g<2^c:=by
 unfold uy
 rw[(gQ _).mem_iff,List.mem_range]
theorem Hq(c:Nat):(uy c).length=2^c:=by
 unfold uy
 rw[(gQ _).length_eq,List.length_range]
noncomputable abbrev Us:=fn true 1 1 (Sh.iq RO)
theorem BP{F:List PV->Option PV}{c:Nat}(c6:c<=6):fn true 1 1 (Sh.iq F) [.int c]=some (aE (uy c)):=by
 have RP:=eX c6
 refine kB rfl ?_
 refine zk (gT (n:=2^c) ((ai (x:=.int 1) (y:=.int c) rfl rfl).trans (DL c c6)) (by omega)) (λg hg=>?_) (by rw[List.length_range];omega)
 have:=List.mem_range.mp hg
 omega
theorem E5{c:Nat}(c6:c<=6):Us [.int c]=some (aE (uy c)):=BP c6
noncomputable def bit(g h:Nat):Nat:=(g/2^h)&&&1
theorem Hr(g h:Nat):r9 (.int g) (.int h)=some (.int ((g/2^h:Nat):Int)):=by
 show(if decide (0<=(h:Int))then some (PV.int ((g:Int)/2^(h:Int).toNat))else none)=_
 rw[if_pos (decide_eq_true (by omega)),Int.toNat_natCast]
 congr 2
theorem DN{A B:Den}{ρ:c8}{g h:Nat}(hA:A ρ=some (.int g))(hB:B ρ=some (.int h))(k:Nat):ae kc (ae j9 (ae r9 A B) (dC (.int 1))) (dC (.int k)) ρ=some (.bl (decide (bit g h=k))):=by
 refine(ai (y:=.int k) ((ai (y:=.int (1:Nat)) ((ai hA hB).trans (Hr g h)) rfl).trans (zm _ _)) rfl).trans (rj _ _)
theorem sM{α:Type}{c:de}{ρ:c8}(v:α->PV)(p:α->Bool):∀xs:List α,(∀x∈xs,c (.sh (v x)::ρ)=some (p x))->fJ c (bb 0) ρ (xs.map v)=some ((xs.filter p).map v)
 |[],_=>rfl
 |x::xs,h=>by
  have ih:=sM v p xs λy hy=>h y (List.mem_cons_of_mem _ hy)
  rw[List.map_cons]
  unfold fJ
  rw[h x (List.mem_cons_self ..),ih]
  by_cases hp:p x=true
  ·rw[List.filter_cons_of_pos hp,hp]
   rfl
  ·rw[List.filter_cons_of_neg hp]
   have MY:p x=false:=by simpa using hp
   rw[MY]
   rfl
noncomputable def cnt(ls:List (List Nat))(g:Nat):Nat:=ls.countP λl=>Mt.lets l g
theorem E6{l:List Nat}{x g:Nat}(s:Mt.sub x g=true)(h:Mt.lets l x=true):Mt.lets l g=true:=by
 obtain⟨r,h1,h2⟩:=Mt.dW.mp h
 exact Mt.dW.mpr ⟨r,h1,Mt.pq h2 s⟩
theorem Hs(ls:List (List Nat)){x g:Nat}(s:Mt.sub x g=true):cnt ls x<=cnt ls g:=List.countP_mono_left λl _ h=>E6 s h
theorem zp{bI:List PV->Option PV}(VR:∀(l:List Nat) (g:Nat),l.length<=sizeLine->bI [aE l,.int g]=some (.bl (Mt.lets l g)))(ls:List (List Nat))(g:Nat)(hl:ls.length<=5000)(hs:∀l∈ls,l.length<=64):fn false 2 2 (Sh.lX bI) [.lst (ls.map aE),.int g]=some (.int (cnt ls g:Nat)):=by
 have zl:(5000:Nat)<=sizeLine:=by decide
 refine kB rfl ?_
 have cp:=sM (c:=tV (aI bI (aa (bb 0) (aa (bb 2) aF)))) (ρ:=[.sh (.lst (ls.map aE)),.sh (.int g)]) aE (λl=>Mt.lets l g) ls (λl hm=>cE ((aW (ps:=[aE l,.int g]) rfl).trans (VR l g (by have:=hs l hm;omega))))
 refine(eO (jh (it:=nList (dV 0)) (xs:=ls.map aE) rfl (by rw[List.length_map];omega) cp)).trans ?_
 show some (PV.int (((ls.filter λl=>Mt.lets l g).map aE).length:Nat))=_
 rw[List.length_map,<-List.countP_eq_length_filter]
 rfl
section
variable{fv bX cR:List PV->Option PV}(hL:∀{l:List Nat},(∀g∈l,g<64)->l.length<=5000->fv [aE l]=some (aE (Mt.rZ (DK l))))
 (hG:∀{c:Nat},c<=6->bX [.int c]=some (aE (uy c)))(hT:∀(ls:List (List Nat)) (g:Nat),ls.length<=5000->(∀l∈ls,l.length<=64)->cR [.lst (ls.map aE),.int g]=some (.int (cnt ls g:Nat)))
include hL hG hT
theorem Ht(many:Int){ls:List (List Nat)}(hl:ls.length<=5000)(hs:∀l∈ls,l.length<=64):∃r,ij 6 r/\(∀g,g<64->Mt.lets r g=decide (many<=(cnt ls g:Int)))/\fn true 2 2 (Sh.wz fv bX cR) [.int many,.lst (ls.map aE)]=some (aE r):=by
 have zl:(5000:Nat)<=sizeLine:=by decide
 have gl:=Hq 6
 have p6:2^6=64:=rfl
 have jX:∀g∈(uy 6).filter (λg=>decide (many<=(cnt ls g:Int))),g<2^6:=λg hg=>zo.mp (List.mem_filter.mp hg).1
 obtain⟨q1,q2⟩:=BO (Nat.le_refl 6) jX
 refine⟨_,q1,λg hg=>?_,kB rfl ?_⟩
 ·rw[q2,Bool.eq_iff_iff,Mt.dW]
  constructor
  ·rintro⟨x,hx,s⟩
   have h1:=(List.mem_filter.mp hx).2
   rw[decide_eq_true_eq]at h1⊢
   have:=Hs ls s
   omega
  ·intro h
   exact⟨g,List.mem_filter.mpr ⟨zo.mpr (by omega),h⟩,Mt.nX g⟩
 ·have dc:bu (nList (aI bX (aa (dC (.int 6)) aF))) (tV (ae OA (aI cR (aa (bb 2) (aa (bb 0) aF))) (dV 1))) (bb 0) [.sh (.int many),.sh (.lst (ls.map aE))]=some (aE ((uy 6).filter λg=>decide (many<=(cnt ls g:Int)))):=
    lZ (kz ((aW (ps:=[.int (6:Nat)]) rfl).trans (hG (Nat.le_refl 6)))) (by omega) λg hg=>cE ((ai (y:=.int many) ((aW (ps:=[.lst (ls.map aE),.int g]) rfl).trans (hT ls g hl hs)) rfl).trans rfl)
  refine(aW (av dc rfl)).trans (hL (λg hg=>by have:=jX g hg;omega) ?_)
  have:=List.length_filter_le (λg=>decide (many<=(cnt ls g:Int))) (uy 6)
  omega
end
theorem Hu:Mt.yH (λr g=>(List.range 7).all λc=>!(decide (r<2^c))||(Mt.sub r (g % 2^c)==Mt.sub r g))=true:=by decide+kernel
theorem Hv{c r g:Nat}(c6:c<=6)(hr:r<2^c)(hg:g<64):Mt.sub r (g % 2^c)=Mt.sub r g:=by
 have RP:=eX c6
 have:=Mt.nW Hu (a:=r) (b:=g) (by omega) hg
 have:=List.all_eq_true.mp this c (List.mem_range.mpr (by omega))
 rw[decide_eq_true hr]at this
 simpa using this
theorem J9:Mt.yH (λg c=>!(decide (c<=6))||Mt.sub (g % 2^c) g)=true:=by decide+kernel
theorem Ka{c g:Nat}(c6:c<=6)(hg:g<64):Mt.sub (g % 2^c) g=true:=by
 have:=Mt.nW J9 (a:=g) (b:=c) hg (by omega)
 rw[decide_eq_true c6]at this
 simpa using this
theorem E7{c:Nat}(c6:c<=6){l:List Nat}(h:ij c l){g:Nat}(hg:g<64):Mt.lets l (g % 2^c)=Mt.lets l g:=by
 have key:∀m:List Nat,(∀r∈m,r<2^c)->(m.any λr=>Mt.sub r (g % 2^c))=m.any λr=>Mt.sub r g:=by
  intro m
  induction m with
  |nil=>exact λ_=>rfl
  |cons r m ih=>
   intro hm
   rw[List.any_cons,List.any_cons,ih λx hx=>hm x (List.mem_cons_of_mem _ hx),Hv c6 (hm r (List.mem_cons_self ..)) hg]
 exact key l h.lt
theorem ij.down{c:Nat}(c6:c<=6){l:List Nat}(h:ij 6 l)(hm:∀g,g<64->Mt.lets l (g % 2^c)=Mt.lets l g):ij c l:=by
 refine⟨h.lad,λx hx=>?_⟩
 have Bo:x<64:=h.lt x hx
 have h1:=Mt.Ew hx
 rw[<-hm x Bo]at h1
 obtain⟨q,h2,h3⟩:=Mt.dW.mp h1
 have e:=h.lad.anti q h2 x hx (Mt.pq h3 (Ka c6 Bo))
 subst e
 have:=Mt.sub_le h3
 have:=Nat.mod_lt q (Nat.two_pow_pos c)
 omega
theorem Hw{c:Nat}(c6:c<=6){ls:List (List Nat)}(h:∀l∈ls,ij c l){g:Nat}(hg:g<64):cnt ls (g % 2^c)=cnt ls g:=by
 unfold cnt
 refine List.countP_congr λl hl=>?_
 rw[E7 c6 (h l hl) hg]
noncomputable abbrev VS:=fn false 2 2 (Sh.lX Flt)
noncomputable abbrev VT:=fn true 2 2 (Sh.wz Ur Us VS)
theorem Kb{c:Nat}(c6:c<=6)(many:Int){ls:List (List Nat)}(hl:ls.length<=5000)(hs:∀l∈ls,ij c l):∃r,ij c r/\(∀g,g<2^c->Mt.lets r g=decide (many<=(cnt ls g:Int)))/\VT [.int many,.lst (ls.map aE)]=some (aE r):=by
 have RP:=eX c6
 obtain⟨r,r1,r2,r3⟩:=Ht Hi E5 (zp DJ) many hl λl h=>(hs l h).len
 refine⟨r,r1.down c6 λg hg=>?_,λg hg=>r2 g (by omega),r3⟩
 have:=Nat.mod_lt g (Nat.two_pow_pos c)
 rw[r2 g hg,r2 _ (by omega),Hw c6 hs hg]
theorem d6(a b:Str):(a++b).length=a.length+b.length:=by
 show(a.cps++b.cps).size=_
 rw[Array.size_append]
 rfl
theorem Ly{α β:Type}(f:α->Option β):∀l:List α,(l.filterMap f).length<=l.length
 |[]=>Nat.le_refl _
 |x::l=>by
  have:=Ly f l
  rw[List.filterMap_cons]
  split
  ·rw[List.length_cons];omega
  ·rw[List.length_cons,List.length_cons];omega
theorem wC(x:Str)(lo hi:Option Int){st:Int}(h0:st≠0):(jv x lo hi st).length<=x.length:=by
 unfold jv
 split
 ·exact Nat.le_refl _
 ·show((Builtin.Str.strSliceIndices lo hi st x.length).filterMap (x.cps[·]?)).toArray.size<=_
  rw[List.size_toArray]
  have h1:=Ly (x.cps[·]?) (Builtin.Str.strSliceIndices lo hi st x.length)
  have h2:=sliceIndicesBy_le lo hi st h0 x.length
  omega
theorem Hx{α β:Type}(f:α->Option β):∀l:List α,(∀x∈l,(f x).isSome=true)->(l.filterMap f).length=l.length
 |[],_=>rfl
 |x::l,h=>by
  have ih:=Hx f l λy hy=>h y (List.mem_cons_of_mem _ hy)
  obtain⟨z,hz⟩:=Option.isSome_iff_exists.mp (h x (List.mem_cons_self ..))
  rw[List.filterMap_cons,hz,List.length_cons,List.length_cons,ih]
theorem NH(x:Str)(n:Nat)(h:n<=x.length):(jv x none (some (n:Int)) 1).length=n:=by
 have e:Builtin.Str.strSliceIndices none (some (n:Int)) 1 x.length=(List.range n).map (0+·):=by
  have:=PySem.sliceRange_one 0 n
  rw[Nat.sub_zero]at this
  rw[<-this]
  unfold Builtin.Str.strSliceIndices
  simp only
  congr 1
  rw[if_pos (by decide),if_neg (by omega)]
  omega
 unfold jv
 rw[e]
 split
 ·rename_i hh
  rw[Bool.and_eq_true,beq_iff_eq,beq_iff_eq,List.length_map,List.length_range]at hh
  omega
 ·show(((List.range n).map (0+·)).filterMap (x.cps[·]?)).toArray.size=n
  rw[List.size_toArray,Hx,List.length_map,List.length_range]
  intro i hi
  obtain⟨k,hk,rfl⟩:=List.mem_map.mp hi
  have:=List.mem_range.mp hk
  have hl:0+k<x.cps.size:=by
   have:x.cps.size=x.length:=rfl
   omega
  have Om:k<x.cps.size:=by omega
  simp[Om]
noncomputable def qD:Str:= "abcdefghijklmnopqrstuvwxyz"
theorem Hy:((List.range 26).all λi=>(itemAt qD.cps.toList (i:Int)).isSome)=true:=by decide+kernel
theorem Hz:qD.length=26:=by decide+kernel
theorem DR{i:Nat}(h:i<26):∃y:Str,y.length=1/\gg (.str qD) (.int i)=some (.str y):=by
 have zl:(5000:Nat)<=sizeLine:=by decide
 obtain⟨c,hc⟩:=Option.isSome_iff_exists.mp (List.all_eq_true.mp Hy i (List.mem_range.mpr h))
 refine⟨⟨#[c]⟩,rfl,?_⟩
 show(if qD.length<=sizeLine then(itemAt qD.cps.toList (i:Int)).map (λc=>PV.str ⟨#[c]⟩)else none)=_
 rw[if_pos (by rw[Hz];omega),hc]
 rfl
theorem NI{x:Str}{i:Nat}(h:i<x.length)(hx:x.length<=5000):∃y:Str,y.length=1/\gg (.str x) (.int i)=some (.str y):=by
 have zl:(5000:Nat)<=sizeLine:=by decide
 have hl:i<x.cps.toList.length:=by
  rw[Array.length_toList]
  exact h
 have:itemAt x.cps.toList (i:Int)=some (x.cps.toList[i]'hl):=by
  unfold itemAt OB
  rw[if_pos (by omega),if_pos (by omega)]
  show x.cps.toList[(i:Int).toNat]?=_
  rw[Int.toNat_natCast,List.getElem?_eq_getElem hl]
 refine⟨⟨#[x.cps.toList[i]'hl]⟩,rfl,?_⟩
 show(if x.length<=sizeLine then(itemAt x.cps.toList (i:Int)).map (λc=>PV.str ⟨#[c]⟩)else none)=_
 rw[if_pos (by omega),this]
 rfl
theorem eP(a b:Str)(h:a.length+b.length<=100000):b9 (.str a) (.str b)=some (.str (a++b)):=by
 have zl:(100000:Nat)<=sizeLine:=by decide
 show(if a.length+b.length<=sizeLine then some (PV.str (a++b))else none)=_
 rw[if_pos (by omega)]
theorem oC{A:Den}{lo hi:v9}{ρ:c8}{y:Str}{l h:Option Int}(hA:A ρ=some (.str y))(hl:lo ρ=some l)(hh:hi ρ=some h)(hy:y.length<=100000):yM A lo hi ρ=some (.str (jv y l h 1)):=by
 have zl:(100000:Nat)<=sizeLine:=by decide
 unfold yM
 rw[hA,hl,hh]
 show(if y.length<=sizeLine then some (PV.str (jv y l h 1))else none)=_
 rw[if_pos (by omega)]
theorem gB{a b:Int}(h1:-100000000000<=a)(h2:a<=100000000000):pB (.int a) (.int b)=some (.int (a*b)):=by
 have:yK a b=true:=by
  unfold yK
  rw[Bool.or_eq_true,Bool.and_eq_true]
  exact .inl ⟨decide_eq_true (by omega),decide_eq_true (by omega)⟩
 show(if yK a b then some (PV.int (a*b))else none)=_
 rw[if_pos this]
theorem kC(a:Int){n:Int}(h:0<n):cw (.int a) (.int n)=some (.int (a % n)):=by
 show(if decide (0<n)then some (PV.int (a % n))else none)=_
 rw[if_pos (decide_eq_true h)]
structure It where
 o:PV
 s:PV
 t:Str
 d:Nat
noncomputable def It.p(i:It):PV:=.tup [i.o,i.s,.str i.t,.int (i.d:Nat)]
noncomputable def wt(l:List It):Nat:=(l.map λi=>i.t.length+2).sum
theorem sN(l m:List It):wt (l++m)=wt l+wt m:=by
 unfold wt
 rw[List.map_append,List.sum_append]
theorem pM(i:It):wt [i]=i.t.length+2:=by
 unfold wt
 simp
theorem wD(i:It)(l:List It):wt (i::l)=i.t.length+2+wt l:=by
 unfold wt
 rw[List.map_cons,List.sum_cons]
theorem zq{α:Type}{e:Den}{ρ:c8}(v f:α->PV):∀(xs:List α),(∀x∈xs,e (.sh (v x)::ρ)=some (f x))->fJ cP e ρ (xs.map v)=some (xs.map f)
 |[],_=>rfl
 |x::xs,h=>by
  have ih:=zq v f xs λy hy=>h y (List.mem_cons_of_mem _ hy)
  show((some true).bind λb=>if b then(e (.sh (v x)::ρ)).bind λz=>(fJ cP e ρ (xs.map v)).map (z::·)else fJ cP e ρ (xs.map v))=_
  rw[h x (List.mem_cons_self ..),ih]
  rfl
theorem ji{α:Type}{it:cM}{e:Den}{ρ:c8}(v f:α->PV){xs:List α}(h1:it ρ=some (xs.map v))(h2:xs.length<=5000)(h3:∀x∈xs,e (.sh (v x)::ρ)=some (f x)):bu it cP e ρ=some (.lst (xs.map f)):=by
 have zl:(5000:Nat)<=sizeLine:=by decide
 exact jh h1 (by rw[List.length_map];omega) (zq v f xs h3)
theorem pN:∀ts:List Str,p9 (ts.map PV.str)=some ts
 |[]=>rfl
 |t::ts=>by
  show(p9 (ts.map PV.str)).map (t::·)=_
  rw[pN ts]
  rfl
theorem joinOk_of(sep:Str)(ts:List Str)(h:(ts.map λt=>t.length+sep.length).sum<=100000):JoinOk sep ts=true:=by
 have zl:(100000:Nat)<=sizeLine:=by decide
 have key:∀(ts:List Str) (a:Nat),ts.foldl (λacc t=>acc+t.length+sep.length) a=a+(ts.map λt=>t.length+sep.length).sum:=by
  intro ts
  induction ts with
  |nil=>intro a;rfl
  |cons t ts ih=>
   intro a
   rw[List.foldl_cons,ih,List.map_cons,List.sum_cons]
   omega
 unfold JoinOk Builtin.Str.tooLong
 rw[List.foldl_toArray',key]
 ·simp
  omega
 ·rfl
theorem join_le(sep:Str):∀ts:List Str,(Txt.join sep ts).length<=(ts.map λt=>t.length+sep.length).sum
 |[]=>Nat.zero_le _
 |t::ts=>by
  have key:∀(ts:List Str) (a:Array Nat),(ts.foldl (λacc (p:Str)=>acc++sep.cps++p.cps) a).size=a.size+(ts.map λt=>t.length+sep.length).sum:=by
   intro ts
   induction ts with
   |nil=>intro a;rfl
   |cons t ts ih=>
    intro a
    rw[List.foldl_cons,ih,List.map_cons,List.sum_cons,Array.size_append,Array.size_append]
    have:t.cps.size=t.length:=rfl
    have:sep.cps.size=sep.length:=rfl
    omega
  show(ts.foldl (λacc (p:Str)=>acc++sep.cps++p.cps) t.cps).size<=_
  rw[key,List.map_cons,List.sum_cons]
  have:t.cps.size=t.length:=rfl
  omega
theorem E8(sep:Str)(ts:List Str)(h:(ts.map λt=>t.length+sep.length).sum<=100000):Dg (.str sep) (.lst (ts.map PV.str))=some (.str (Txt.join sep ts)):=by
 show(p9 (ts.map PV.str)).bind _=_
 rw[pN]
 show(if JoinOk sep ts then some (PV.str (Txt.join sep ts))else none)=_
 rw[if_pos (joinOk_of sep ts h)]
theorem fold_max:∀(ds:List Nat) (a:Nat),∃M:Nat,(ds.map λ(n:Nat)=>(n:Int)).foldl (λa b=>if b>a then b else a) (a:Int)=(M:Int)/\a<=M/\(∀x∈ds,x<=M)/\(M=a\/M∈ds)
 |[],a=>⟨a,rfl,Nat.le_refl _,by simp,.inl rfl⟩
 |d::ds,a=>by
  rw[List.map_cons,List.foldl_cons]
  by_cases h:d>a
  ·have e:(if(d:Int)>(a:Int)then(d:Int)else(a:Int))=(d:Int):=if_pos (by omega)
   rw[e]
   obtain⟨M,h1,h2,h3,h4⟩:=fold_max ds d
   refine⟨M,h1,by omega,λx hx=>?_,?_⟩
   ·rcases List.mem_cons.mp hx with rfl|hx
    ·exact h2
    ·exact h3 x hx
   ·rcases h4 with rfl|h4
    ·exact .inr (List.mem_cons_self ..)
    ·exact .inr (List.mem_cons_of_mem _ h4)
  ·have e:(if(d:Int)>(a:Int)then(d:Int)else(a:Int))=(a:Int):=if_neg (by omega)
   rw[e]
   obtain⟨M,h1,h2,h3,h4⟩:=fold_max ds a
   refine⟨M,h1,h2,λx hx=>?_,?_⟩
   ·rcases List.mem_cons.mp hx with rfl|hx
    ·omega
    ·exact h3 x hx
   ·rcases h4 with rfl|h4
    ·exact .inl rfl
    ·exact .inr (List.mem_cons_of_mem _ h4)
theorem zr(ds:List Nat)(h:ds≠[]):∃M:Nat,sf (aE ds)=some (.int (M:Nat))/\(∀x∈ds,x<=M)/\M∈ds:=by
 cases ds with
 |nil=>exact absurd rfl h
 |cons d ds=>
  obtain⟨M,h1,h2,h3,h4⟩:=fold_max ds d
  refine⟨M,?_,λx hx=>?_,?_⟩
  ·show(fV (pl (d::ds))).bind _=_
   rw[zj]
   show(some ((ds.map λ(n:Nat)=>(n:Int)).foldl (λa b=>if b>a then b else a) (d:Int))).map PV.int=_
   rw[h1]
   rfl
  ·rcases List.mem_cons.mp hx with rfl|hx
   ·exact h2
   ·exact h3 x hx
  ·rcases h4 with rfl|h4
   ·exact List.mem_cons_self ..
   ·exact List.mem_cons_of_mem _ h4
theorem zt{α:Type}(l:List α)(j:Nat)(h:0<j):km l (some (-(j:Int))) none=l.drop (l.length-j):=by
 unfold km yL
 simp only
 rw[if_pos (by omega)]
 have:(-(j:Int)+(l.length:Int)).toNat=l.length-j:=by omega
 rw[this,List.take_of_length_le (by rw[List.length_drop];exact Nat.le_refl _)]
theorem Kc{α:Type}(l:List α)(j:Nat)(h:0<j):km l none (some (-(j:Int)))=l.take (l.length-j):=by
 unfold km yL
 simp only
 rw[if_pos (by omega)]
 have:(-(j:Int)+(l.length:Int)).toNat=l.length-j:=by omega
 rw[this,List.drop_zero,Nat.sub_zero]
theorem zu{α:Type}(l:List α)(j:Nat)(h:j<=l.length):km l none (some (j:Int))=l.take j:=by
 unfold km yL
 simp only
 rw[if_neg (by omega),List.drop_zero,Nat.sub_zero,Int.toNat_natCast,Nat.min_eq_left h]
theorem pO{A:Den}{lo hi:v9}{ρ:c8}{l:List PV}{a b:Option Int}(hA:A ρ=some (.lst l))(hl:lo ρ=some a)(hh:hi ρ=some b):Bq A lo hi ρ=some (.lst (km l a b)):=by
 unfold Bq
 rw[hA,hl,hh]
 rfl
theorem iu{as:cM}{ρ:c8}{xs:List PV}(h:as ρ=some xs)(hl:xs.length<=5000):gf as ρ=some (.tup xs):=by
 have zl:(5000:Nat)<=sizeLine:=by decide
 unfold gf
 rw[h]
 show(if xs.length<=sizeLine then some (PV.tup xs)else none)=_
 rw[if_pos (by omega)]
end L2.D
namespace L2.D.My
open PySem
noncomputable def mT:aU:=(bx (ae kc (ae j9 (ae r9 (dV 0) (dV 1)) (dC (.int 1))) (dC (.int 1))))
noncomputable def eg:List PV->Option PV:=fn false 2 2 (mT)
noncomputable def mU(eg:List PV->Option PV):aU:=(bx (bu (dX (bO Gr (dV 0))) (tV (aI eg (aa (bb 1) (aa (bb 0) aF)))) (bb 0)))
noncomputable def eh:List PV->Option PV:=fn true 1 1 (mU eg)
noncomputable def oy(eh:List PV->Option PV):aU:=(aR (bK 1 (aI eh (aa (bb 0) aF))) (bx (gf (aa (bO b7 (dV 1)) (aa (bb 1) aF)))))
noncomputable def F_place:List PV->Option PV:=fn false 2 1 (oy eh)
noncomputable def oz:aU:=(bx (ae kc (ae j9 (dV 0) (dV 1)) (dV 0)))
noncomputable def gN:List PV->Option PV:=fn false 2 2 (oz)
noncomputable def wy(gN:List PV->Option PV):aU:=(bx (bO Gq (bu (nList (dV 0)) cP (aI gN (aa (bb 0) (aa (bb 2) aF))))))
noncomputable def bI:List PV->Option PV:=fn false 2 2 (wy gN)
noncomputable def et(F_place bI:List PV->Option PV):aU:=(jo (o5 (tV (mN bI (aa (dV 1) (aa (dV 2) aF))))) (mQ 1 eJ (aa (bb 2) aF)) cD)
noncomputable def rh(F_place bI:List PV->Option PV):aU:=(aR (jY 1 (pA aF)) (aR (ko (nList (p8 (nList (dV 0)))) (a9 2) (et F_place bI)) (Dd 1)))
noncomputable def fv:List PV->Option PV:=fn true 3 1 (rh F_place bI)
noncomputable def iq(F_place:List PV->Option PV):aU:=(bx (p8 (dX (ae v7 (dC (.int 1)) (dV 0)))))
noncomputable def bX:List PV->Option PV:=fn true 1 1 (iq F_place)
noncomputable def lX(bI:List PV->Option PV):aU:=(bx (bO b7 (bu (nList (dV 0)) (tV (aI bI (aa (bb 0) (aa (bb 2) aF)))) (bb 0))))
noncomputable def cR:List PV->Option PV:=fn false 2 2 (lX bI)
noncomputable def wz(fv bX cR:List PV->Option PV):aU:=(bx (aI fv (aa (bu (nList (aI bX (aa (dC (.int 6)) aF))) (tV (ae OA (aI cR (aa (bb 2) (aa (bb 0) aF))) (dV 1))) (bb 0)) aF)))
noncomputable def iI:List PV->Option PV:=fn true 2 2 (wz fv bX cR)
noncomputable def oE:aU:=(aR (jo (tV (ae v8 (dV 3) (dV 0))) Gw cD) (bK 2 (ae Ug (dV 2) (ae v7 (dC (.int 1)) (ae wb (dV 0) (dV 3))))))
noncomputable def BQ:aU:=(aR (bK 2 (dC (.int 0))) (aR (ko (nList (bb 1)) (a9 3) oE) (bx (bb 2))))
noncomputable def dk:List PV->Option PV:=fn false 4 2 (BQ)
noncomputable def cz(iI:List PV->Option PV)(T_ladder:Nat->List PV->Option PV):aU:=(bx (aI iI (aa (bO (uk vg "wanted") (dV 0)) (aa (bu (Ez (bO (uk vg "parts") (dV 0))) cP (vf T_ladder (bb 0) (aa (bb 2) aF))) aF))))
noncomputable def kD(dk:List PV->Option PV):aU:=(bx (pA (aa (aI dk (aa (bb 1) (aa (pA (aa (bO (uk vg "name") (dV 0)) aF)) aF))) aF)))
noncomputable def eC:Nat->Nat->List PV->Option PV
 |0,_=>λ_=>none
 |n+1,0=>fn true 2 2 (kD dk)
 |n+1,1=>fn true 2 2 (cz iI (eC n))
 |n+1,2=>fn true 2 2 (cz iI (eC n))
 |n+1,3=>fn true 2 2 (cz iI (eC n))
 |_+1,_=>λ_=>none
noncomputable def T_ladder:Nat->List PV->Option PV:=eC 24
noncomputable def iH:aU:=(aR (jo (tV (ae AW (dV 1) (bO b7 (dV 0)))) (bx (ae gg (dV 0) (dV 1))) cD) (bx (dC (.int 0))))
noncomputable def F_law_cell_at:List PV->Option PV:=fn false 2 2 (iH)
noncomputable def BS:aU:=(aR (bK 4 (dC (.str "abcdefghijklmnopqrstuvwxyz"))) (aR (bK 5 (ae gg (dV 4) (ae cw (ae b9 (ae Lk (dV 4) (ae gg (dV 0) (dV 1))) (ae pB (dC (.int 3)) (dV 3))) (dC (.int 26))))) (bx (ae b9 (ae b9 (yM (dV 0) fU (dg (dV 1))) (dV 5)) (yM (dV 0) (dg (ae b9 (dV 1) (dC (.int 1)))) (dg (dV 2)))))))
noncomputable def bR:List PV->Option PV:=fn false 6 4 (BS)
noncomputable def jz:aU:=(aR (bK 2 (ae cw (ae b9 (ae b9 (ae b9 (ae pB (dV 2) (dV 2)) (ae pB (dC (.int 48271)) (dV 2))) (dV 4)) (dC (.int 1))) (dC (.int 2147483647)))) (bK 3 (ae b9 (dV 3) (ae gg (dC (.str "abcdefghijklmnopqrstuvwxyz")) (ae cw (dV 2) (dC (.int 26)))))))
noncomputable def BU:aU:=(aR (bK 2 (ae cw (ae b9 (ae pB (ae cw (dV 0) (dC (.int 2147483647))) (dC (.int 16807))) (dC (.int 11))) (dC (.int 2147483647)))) (aR (bK 3 (dC (.str ""))) (aR (ko (dX (dV 1)) (a9 4) jz) (bx (bb 3)))))
noncomputable def bS:List PV->Option PV:=fn false 5 2 (BU)
noncomputable def iJ(F_law_cell_at bR bS:List PV->Option PV):aU:=(aR (bK 10 (aI bR (aa (bb 7) (aa (ae cw (ae gK (dV 3) (dC (.int 80))) (dV 4)) (aa (bb 4) (aa (bb 9) aF)))))) (aR (jo (tV (ae kc (ae cw (ae gK (dV 3) (dC (.int 20))) (dC (.int 4))) (dC (.int 1)))) (bK 10 (yM (dV 7) fU (dg (ae b9 (dV 9) (dC (.int 1)))))) cD) (aR (jo (tV (ae PN (dV 10) (gf (aa (dC (.str "all")) (aa (dC (.str "any")) (aa (dC (.str "of")) aF)))))) (bK 10 (bO M1 (dV 10))) cD) (mQ 8 eJ (aa (bb 10) aF)))))
noncomputable def qb(F_law_cell_at bR bS:List PV->Option PV):aU:=(aR (bK 3 (aI F_law_cell_at (aa (bb 0) (aa (bb 1) aF)))) (aR (bK 4 (ae b9 (dC (.int 1)) (ae cw (dV 3) (dC (.int 20))))) (aR (bK 5 (aI F_law_cell_at (aa (bb 0) (aa (ae b9 (dV 1) (dC (.int 1))) aF)))) (aR (bK 6 (ae gg (pA (aa (dC (.str "")) (aa (dC (.str "")) (aa (dC (.str "all")) (aa (dC (.str "")) (aa (dC (.str "any")) (aa (dC (.str "")) (aa (dC (.str "of")) (aa (dC (.str "al")) aF))))))))) (ae cw (dV 5) (dC (.int 8))))) (aR (bK 7 (yM (ae b9 (dV 6) (aI bS (aa (ae gK (dV 5) (dC (.int 8))) (aa (dC (.int 20)) aF)))) fU (dg (dC (.int 20))))) (aR (jY 8 (pA aF)) (aR (ko (dX (dV 2)) (a9 9) (iJ F_law_cell_at bR bS)) (Dd 8))))))))
noncomputable def eD:List PV->Option PV:=fn true 11 3 (qb F_law_cell_at bR bS)
noncomputable def BV(eD F_law_cell_at:List PV->Option PV):aU:=(bx (bO Bv (aI eD (aa (bb 0) (aa (dC (.int 2)) (aa (ae b9 (dC (.int 1)) (ae cw (aI F_law_cell_at (aa (bb 0) (aa (dC (.int 0)) aF))) (dC (.int 6)))) aF))))))
noncomputable def F_law_roll:List PV->Option PV:=fn false 1 1 (BV eD F_law_cell_at)
noncomputable def uz:aU:=(aR (jY 3 (bu (nList (dV 2)) cP (ae gg (dV 0) (dC (.int 0))))) (aR (bK 4 (bO Bv (bu (nList (dV 2)) cP (ae gg (dV 0) (dC (.int 1)))))) (aR (bK 5 (ae b9 (ae Dg (dC (.str ", ")) (bu (nList (dV 2)) cP (ae gg (dV 0) (dC (.int 2))))) (dC (.str ")")))) (aR (bK 6 (ae b9 (dC (.int 1)) (bO sf (bu (nList (dV 2)) cP (ae gg (dV 0) (dC (.int 3))))))) (aR (jo (tV (ae kc (dV 0) (dC (.int 0)))) (bK 7 (gf (aa (bO Gu (dV 3)) (aa (gf (aa (dC (.str "all")) (aa (bb 4) aF))) (aa (ae b9 (dC (.str "all(")) (dV 5)) (aa (bb 6) aF)))))) (jo (tV (ae kc (dV 0) (dC (.int 1)))) (bK 7 (gf (aa (bO Gv (dV 3)) (aa (gf (aa (dC (.str "any")) (aa (bb 4) aF))) (aa (ae b9 (dC (.str "any(")) (dV 5)) (aa (bb 6) aF)))))) (bK 7 (gf (aa (ae Bw (dV 1) (dV 3)) (aa (gf (aa (dC (.str "some")) (aa (bb 1) (aa (bb 4) aF)))) (aa (ae b9 (ae b9 (bO JD (dV 1)) (dC (.str " of ("))) (dV 5)) (aa (bb 6) aF)))))))) (aR (mQ 3 Bu aF) (bx (bb 7))))))))
noncomputable def ao:List PV->Option PV:=fn false 8 3 (uz)
noncomputable def gU(ao:List PV->Option PV):aU:=(aR (bK 2 (ae cw (ae b9 (ae pB (dV 2) (dV 2)) (ae pB (dC (.int 48271)) (dV 2))) (dC (.int 2147483647)))) (aR (bK 3 (Bq (dV 0) (dg (bO mO (dC (.int 8)))) fU)) (aR (jY 0 (Bq (dV 0) fU (dg (bO mO (dC (.int 8)))))) (mQ 0 eJ (aa (aI ao (aa (ae cw (dV 2) (dC (.int 3))) (aa (ae b9 (dC (.int 1)) (ae cw (ae gK (dV 2) (dC (.int 3))) (bO b7 (dV 3)))) (aa (bb 3) aF)))) aF)))))
noncomputable def oF(ao:List PV->Option PV):aU:=(aR (bK 2 (ae b9 (dC (.int 1)) (ae cw (dV 1) (dC (.int 2147483646))))) (aR (eW (tV (ae IS (bO b7 (dV 0)) (dC (.int 1)))) (gU ao) 1000) (bx (ae gg (dV 0) (dC (.int 0))))))
noncomputable def F_law_folded:List PV->Option PV:=fn false 4 2 (oF ao)
noncomputable def BW:aU:=(bx (gf (aa (bO Ll (dV 0)) (aa (gf (aa (dC (.str "hand")) (aa (bb 0) aF))) (aa (bb 0) (aa (dC (.int 0)) aF))))))
noncomputable def F_law_hand:List PV->Option PV:=fn false 1 1 (BW)
noncomputable def iK(F_law_folded F_law_hand F_law_cell_at ao:List PV->Option PV):aU:=(aR (bK 7 (Bq (dV 4) (dg (bO mO (ae b9 (dC (.int 1)) (ae cw (ae gK (dV 6) (dC (.int 9))) (dC (.int 8)))))) fU)) (aR (bK 8 (bO sf (bu (nList (dV 7)) cP (ae gg (dV 0) (dC (.int 3)))))) (jo (FD (tV (ae AW (ae cw (dV 6) (dC (.int 9))) (dC (.int 6)))) (FD (tV (ae IS (dV 8) (dC (.int 11)))) (tV (ae IS (dV 5) (dC (.int 13)))))) (mQ 4 eJ (aa (aI F_law_hand (aa (ae gg (dV 3) (ae cw (ae gK (dV 6) (dC (.int 9))) (bO b7 (dV 3)))) aF)) aF)) (aR (jY 4 (Bq (dV 4) fU (dg (ae yJ (bO b7 (dV 4)) (bO b7 (dV 7)))))) (aR (mQ 4 eJ (aa (aI ao (aa (ae yJ (ae cw (dV 6) (dC (.int 9))) (dC (.int 6))) (aa (ae b9 (dC (.int 1)) (ae cw (ae gK (dV 6) (dC (.int 72))) (bO b7 (dV 7)))) (aa (bb 7) aF)))) aF)) (bK 5 (ae b9 (dV 5) (dC (.int 1)))))))))
noncomputable def qc(F_law_folded F_law_hand F_law_cell_at ao:List PV->Option PV):aU:=(aR (jY 4 (pA (aa (aI F_law_hand (aa (ae gg (dV 3) (ae cw (aI F_law_cell_at (aa (bb 0) (aa (bb 1) aF))) (bO b7 (dV 3)))) aF)) aF))) (aR (bK 5 (dC (.int 0))) (aR (ko (nList (Bq (dV 0) (dg (ae b9 (dV 1) (dC (.int 1)))) (dg (ae b9 (dV 1) (dV 2))))) (a9 6) (iK F_law_folded F_law_hand F_law_cell_at ao)) (aR (JB 4) (bx (aI F_law_folded (aa (bb 4) (aa (aI F_law_cell_at (aa (bb 0) (aa (dC (.int 1)) aF))) aF))))))))
noncomputable def ck:List PV->Option PV:=fn false 9 4 (qc F_law_folded F_law_hand F_law_cell_at ao)
noncomputable def mB(F_law_cell_at ck ao F_law_hand:List PV->Option PV):aU:=(aR (bK 2 (aI F_law_cell_at (aa (bb 0) (aa (dC (.int 4)) aF)))) (aR (jo (tV (ae kc (ae cw (dV 2) (dC (.int 2))) (dC (.int 0)))) (bx (aI ck (aa (bb 0) (aa (dC (.int 6)) (aa (dC (.int 50)) (aa (bb 1) aF)))))) cD) (aR (bK 3 (aI ck (aa (bb 0) (aa (dC (.int 6)) (aa (dC (.int 24)) (aa (bb 1) aF)))))) (aR (bK 4 (pA (aa (bb 3) (aa (aI F_law_hand (aa (ae gg (dV 1) (ae cw (ae gK (dV 2) (dC (.int 2))) (bO b7 (dV 1)))) aF)) (aa (bb 3) aF))))) (bx (aI ao (aa (ae cw (ae gK (dV 2) (dC (.int 12))) (dC (.int 3))) (aa (ae b9 (dC (.int 1)) (ae cw (ae gK (dV 2) (dC (.int 36))) (dC (.int 3)))) (aa (bb 4) aF)))))))))
noncomputable def F_law_doubled:List PV->Option PV:=fn false 5 2 (mB F_law_cell_at ck ao F_law_hand)
noncomputable def zw:aU:=(bx (Li (bO (Lh 0) (dV 0)) (Lj (bO (Lh 1) (dV 0)))))
noncomputable def bG:List PV->Option PV:=fn false 1 1 (zw)
noncomputable def kE:aU:=(jo (tV (ae nY (dV 4) (dV 5))) (bx (ae AW (dV 4) (dV 5))) cD)
noncomputable def jA:aU:=(aR (bK 2 (bu (dX (dC (.int 6))) (tV (ae kc (ae j9 (ae r9 (dV 1) (dV 0)) (dC (.int 1))) (dC (.int 1)))) (bb 0))) (aR (bK 3 (bu (dX (dC (.int 6))) (tV (ae kc (ae j9 (ae r9 (dV 2) (dV 0)) (dC (.int 1))) (dC (.int 1)))) (bb 0))) (aR (jo (tV (ae nY (bO b7 (dV 2)) (bO b7 (dV 3)))) (bx (ae AW (bO b7 (dV 2)) (bO b7 (dV 3)))) cD) (aR (ko (Bt (bb 2) (bb 3)) (kn (a9 4) (a9 5)) kE) (bx (dC (.bl false)))))))
noncomputable def bt:List PV->Option PV:=fn false 6 2 (jA)
noncomputable def eY(bG bt:List PV->Option PV):aU:=(aR (jo (FD (o5 (tV (aI bG (aa (ae gg (dV 0) (dV 2)) aF)))) (FD (tV (ae AW (ae gg (dV 0) (dV 2)) (dC (.int 0)))) (tV (ae OA (ae gg (dV 0) (dV 2)) (dV 1))))) (bx (dC (.bl false))) cD) (aR (jo (yg (tV (ae IS (dV 2) (dC (.int 0)))) (o5 (tV (aI bt (aa (ae gg (dV 0) (ae yJ (dV 2) (dC (.int 1)))) (aa (ae gg (dV 0) (dV 2)) aF)))))) (bx (dC (.bl false))) cD) (jo (tV (bO Gq (bu (nList (Bq (dV 0) fU (dg (dV 2)))) cP (ae kc (ae j9 (dV 0) (ae gg (dV 1) (dV 3))) (dV 0))))) (bx (dC (.bl false))) cD)))
noncomputable def kF(bG bt:List PV->Option PV):aU:=(aR (jo (o5 (tV (bO (Lh 3) (dV 0)))) (bx (dC (.bl false))) cD) (aR (ko (dX (bO b7 (dV 0))) (a9 2) (eY bG bt)) (bx (dC (.bl true)))))
noncomputable def F_law_in_order:List PV->Option PV:=fn false 3 2 (kF bG bt)
noncomputable def zx(bj:List PV->Option PV):aU:=(aR (jo (tV (ae kc (ae gg (dV 0) (dC (.int 0))) (dC (.str "hand")))) (bx (ae kc (ae j9 (ae r9 (dV 2) (ae wb (dV 1) (ae gg (dV 0) (dC (.int 1))))) (dC (.int 1))) (dC (.int 1)))) cD) (aR (bK 3 (bO b7 (bu (Ez (ae gg (dV 0) (bO mO (dC (.int 1))))) (tV (aI bj (aa (bb 0) (aa (bb 2) (aa (bb 3) aF))))) (bb 0)))) (aR (jo (tV (ae kc (ae gg (dV 0) (dC (.int 0))) (dC (.str "all")))) (bx (ae kc (dV 3) (bO b7 (ae gg (dV 0) (dC (.int 1)))))) cD) (aR (jo (tV (ae kc (ae gg (dV 0) (dC (.int 0))) (dC (.str "any")))) (bx (ae IS (dV 3) (dC (.int 0)))) cD) (bx (ae OA (dV 3) (ae gg (dV 0) (dC (.int 1)))))))))
noncomputable def dN:Nat->List PV->Option PV
 |0=>λ_=>none
 |n+1=>fn false 4 3 (zx (dN n))
noncomputable def bj:List PV->Option PV:=dN 24
noncomputable def DU(F_law_roll F_law_doubled F_law_in_order bj:List PV->Option PV)(T_ladder:Nat->List PV->Option PV):aU:=(aR (bK 9 (bu (nList (dV 7)) (tV (ae kc (ae j9 (dV 0) (dV 9)) (dV 0))) (bb 0))) (jo (tV (ae nY (aI bj (aa (bb 3) (aa (bb 1) (aa (bb 8) aF)))) (ae nY (dV 9) (pA aF)))) (bx (dC (.bl false))) cD))
noncomputable def Lz(F_law_roll F_law_doubled F_law_in_order bj:List PV->Option PV)(T_ladder:Nat->List PV->Option PV):aU:=(aR (bK 1 (aI F_law_roll (aa (bb 0) aF))) (aR (M0 (Df [(a9 2),(a9 3),(a9 4),(a9 5)]) (aI F_law_doubled (aa (bb 0) (aa (bb 1) aF)))) (aR (jo (o5 (tV (bO M3 (dV 2)))) (bx (dC (.bl false))) cD) (aR (bK 6 (ae v7 (dC (.int 1)) (bO b7 (dV 1)))) (aR (jY 7 (vf T_ladder (bb 2) (aa (bb 1) aF))) (aR (jo (o5 (tV (mN F_law_in_order (aa (dV 7) (aa (dV 6) aF))))) (bx (dC (.bl false))) cD) (aR (ko (dX (dV 6)) (a9 8) (DU F_law_roll F_law_doubled F_law_in_order bj T_ladder)) (aR (bK 10 (bO Lg (dV 7))) (aR (mQ 7 Bu aF) (bx (ae kc (vf T_ladder (bb 2) (aa (bb 1) aF)) (dV 10))))))))))))
noncomputable def DV:List PV->Option PV:=fn false 11 1 (Lz F_law_roll F_law_doubled F_law_in_order bj T_ladder)
noncomputable def top(i:Nat):Stmt:=PySem.Challenge.pw_signright_k25_the_least_groups.main.body.getD i (.Pass ⟨0,0,0,0⟩)
noncomputable def bT(i j:Nat):Stmt:=J6 (top i) j
structure Bl(mg:Str->Option Value):Prop where
 any:mg "any" =none
 bool:mg "bool" =none
 int:mg "int" =none
 isinstance:mg "isinstance" =none
 len:mg "len" =none
 list:mg "list" =none
 max:mg "max" =none
 range:mg "range" =none
 sorted:mg "sorted" =none
 str:mg "str" =none
 tuple:mg "tuple" =none
 zip:mg "zip" =none
 g_MOST_HANDS:∃t,mg "MOST_HANDS" =some (.int 6 t)
structure Ed(K:PySem.W.Frag)(mg:Str->Option Value)(x:Str)(st:Stmt)(ps:List Str)(f:Addr)(fd:FuncData):Prop where
 F:L2.KY K x x st f fd
 b:L2.Binds K fd ps []
 m:mg x=some (.ref f)
section
variable{P:Program}{w:World}{K:PySem.W.Frag}{mg:Str->Option Value}{base:Heap}{κ:Kl}{CR CC jj jk jl jm gh:Addr}{DX DY DZ D0 zy:FuncData}{dq dr fw fK iL iv cU eE iN cN aC bC aX dt du cV dv bp cH cO cW cm cX cI bY cq vy:Addr}{iw iy jn l0 l5 oG gi jB l6 eF dR fO bD iz iA gj iB bZ fz eG gn eQ gp fB d7 dO HA:FuncData}
theorem qd:aT ["group","hand"] ["group","hand"] (ag (top 6)):=⟨rfl,rfl,rfl,by decide+kernel,rfl,by decide+kernel,by decide+kernel⟩
theorem zz(B:Bl mg)(dw:Ed K mg "has_hand" (top 6) ["group","hand"] dq iw):aL P w K mg base cv 1 dq iw ["group","hand"] (cT K κ false eg):=
 br dw.F qd λd8 A outer s H E hr=>have nd:=qd.nd;(aw (bq (gL (fW hr (DE.b (mR (DE.b (wc (ab 0) (ab 1))) (DE.b aj))) (DE.b aj)))))
theorem qe:aT ["group"] ["group"] (ag (top 7)):=⟨rfl,rfl,rfl,by decide+kernel,rfl,by decide+kernel,by decide+kernel⟩
theorem zA(B:Bl mg)(dz:Ed K mg "hands_of" (top 7) ["group"] dr iy)(dw:Ed K mg "has_hand" (top 6) ["group","hand"] dq iw)(mV:aL P w K mg base cv 1 dq iw ["group","hand"] (cT K κ false eg)):aL P w K mg base cv 2 dr iy ["group"] (cT K κ true eh):=
 br dz.F qe λd8 A outer s H E hr=>have nd:=qe.nd;(aw (n5 (lU (su (DE.b (JR (ab 0))) B.range) (ag (top 7)) ["group"] ["group"] (λex C s H=>(iF (bh (mV.mono (by decide)) hr dw.m dw.F.kp dw.b (af (ay 1) (af (ay 0) aG))))) (λex C s H=>(ay 0)))))
theorem zB:aT ["group","hands"] ["group"] (ag (top 9)):=⟨rfl,rfl,rfl,by decide+kernel,rfl,by decide+kernel,by decide+kernel⟩
theorem HB(B:Bl mg)(eR:Ed K mg "place" (top 9) ["group"] fw jn)(dz:Ed K mg "hands_of" (top 7) ["group"] dr iy)(mW:aL P w K mg base cv 2 dr iy ["group"] (cT K κ true eh)):aL P w K mg base cv 3 fw jn ["group"] (cT K κ false F_place):=
 br eR.F zB λd8 A outer s H E hr=>have nd:=zB.nd;(ak (ba 1 nd (DO.e (og (mW.mono (by decide)) hr dz.m dz.F.kp dz.b (af (ay 0) aG)))) (aw (bq (iG (af (df (ab 1) B.len) (af (ay 1) aG))))))
theorem vz:aT ["one","two"] ["one","two"] (ag (top 10)):=⟨rfl,rfl,rfl,by decide+kernel,rfl,by decide+kernel,by decide+kernel⟩
theorem E9(B:Bl mg)(fL:Ed K mg "within" (top 10) ["one","two"] fK l0):aL P w K mg base cv 1 fK l0 ["one","two"] (cT K κ false gN):=
 br fL.F vz λd8 A outer s H E hr=>have nd:=vz.nd;(aw (bq (gL (fW hr (DE.b (mR (ab 0) (ab 1))) (ab 0)))))
theorem D1:aT ["ladder","group"] ["ladder","group"] (ag (top 13)):=⟨rfl,rfl,rfl,by decide+kernel,rfl,by decide+kernel,by decide+kernel⟩
theorem Kd(B:Bl mg)(eZ:Ed K mg "lets" (top 13) ["ladder","group"] iL l5)(fL:Ed K mg "within" (top 10) ["one","two"] fK l0)(sO:aL P w K mg base cv 1 fK l0 ["one","two"] (cT K κ false gN)):aL P w K mg base cv 2 iL l5 ["ladder","group"] (cT K κ false bI):=
 br eZ.F D1 λd8 A outer s H E hr=>have nd:=D1.nd;(aw (bq (GK (DO.b (jw (dZ (ab 0)) (ag (top 13)) ["ladder","group"] ["ladder","group"] (λex C s H=>(bh (sO.mono (by decide)) hr fL.m fL.F.kp fL.b (af (ay 0) (af (ay 2) aG)))))) B.any)))
theorem zC:aT ["groups","ladder","group"] ["groups"] (ag (top 14)):=⟨rfl,rfl,rfl,by decide+kernel,rfl,by decide+kernel,by decide+kernel⟩
theorem HC(B:Bl mg)(iC:Ed K mg "least" (top 14) ["groups"] iv oG)(hK:eL F_place)(eR:Ed K mg "place" (top 9) ["group"] fw jn)(l7:aL P w K mg base cv 3 fw jn ["group"] (cT K κ false F_place))(eZ:Ed K mg "lets" (top 13) ["ladder","group"] iL l5)(pP:aL P w K mg base cv 2 iL l5 ["ladder","group"] (cT K κ false bI)):aL P w K mg base cv 6 iv oG ["groups"] (cT K κ true fv):=
 br iC.F zC λd8 A outer s H E hr=>have nd:=zC.nd;(ak (lR 1 nd (ku aG)) (ak (kv (we (DO.e (BF l7 (hr.mono (by decide)) eR.b hK B.sorted eR.m (ab 0)))) (dJ 2 nd) (aw (dY (pE (iF (yU (pP.mono (by decide)) hr eZ.m eZ.F.kp eZ.b (n4 (ab 1) (n4 (ab 2) Dk))))) (aw (jf 1 (af (ay 2) aG))) cC))) (aw (Dl 1))))
theorem oH:aT ["count"] ["count"] (ag (top 11)):=⟨rfl,rfl,rfl,by decide+kernel,rfl,by decide+kernel,by decide+kernel⟩
theorem wF(B:Bl mg)(cY:Ed K mg "groups_of" (top 11) ["count"] cU gi)(hK:eL F_place)(eR:Ed K mg "place" (top 9) ["group"] fw jn)(l7:aL P w K mg base cv 3 fw jn ["group"] (cT K κ false F_place)):aL P w K mg base cv 6 cU gi ["count"] (cT K κ true bX):=
 br cY.F oH λd8 A outer s H E hr=>have nd:=oH.nd;(aw (n5 (BG l7 (hr.mono (by decide)) eR.b hK B.sorted B.range eR.m (DE.b (BA (DE.b aj) (ab 0))))))
theorem sP:aT ["ladders","group"] ["ladders","group"] (ag (top 15)):=⟨rfl,rfl,rfl,by decide+kernel,rfl,by decide+kernel,by decide+kernel⟩
theorem BX(B:Bl mg)(eH:Ed K mg "letting" (top 15) ["ladders","group"] eE jB)(eZ:Ed K mg "lets" (top 13) ["ladder","group"] iL l5)(pP:aL P w K mg base cv 2 iL l5 ["ladder","group"] (cT K κ false bI)):aL P w K mg base cv 3 eE jB ["ladders","group"] (cT K κ false cR):=
 br eH.F sP λd8 A outer s H E hr=>have nd:=sP.nd;(aw (bq (df (DO.b (lU (dZ (ab 0)) (ag (top 15)) ["ladders","group"] ["ladders","group"] (λex C s H=>(iF (bh (pP.mono (by decide)) hr eZ.m eZ.F.kp eZ.b (af (ay 0) (af (ay 2) aG))))) (λex C s H=>(ay 0)))) B.len)))
theorem D2:aT ["many","ladders"] ["many","ladders"] (ag (top 16)):=⟨rfl,rfl,rfl,by decide+kernel,rfl,by decide+kernel,by decide+kernel⟩
theorem Ke(B:Bl mg)(fe:Ed K mg "some" (top 16) ["many","ladders"] iN l6)(iC:Ed K mg "least" (top 14) ["groups"] iv oG)(wG:aL P w K mg base cv 6 iv oG ["groups"] (cT K κ true fv))(cY:Ed K mg "groups_of" (top 11) ["count"] cU gi)(kG:aL P w K mg base cv 6 cU gi ["count"] (cT K κ true bX))(eH:Ed K mg "letting" (top 15) ["ladders","group"] eE jB)(pQ:aL P w K mg base cv 3 eE jB ["ladders","group"] (cT K κ false cR)):aL P w K mg base cv 7 iN l6 ["many","ladders"] (cT K κ true iI):=
 br fe.F D2 λd8 A outer s H E hr=>have nd:=D2.nd;(aw (n5 (og (wG.mono (by decide)) hr iC.m iC.F.kp iC.b (af (DO.e (lU (dZ (DO.b (og (kG.mono (by decide)) hr cY.m cY.F.kp cY.b (af (GN B.g_MOST_HANDS) aG)))) (ag (top 16)) ["many","ladders"] ["many","ladders"] (λex C s H=>(cj (Gz (DE.b (bh (pQ.mono (by decide)) hr eH.m eH.F.kp eH.b (af (ay 2) (af (ay 0) aG)))) (ab 1)))) (λex C s H=>(ay 0)))) aG))))
theorem qf:aT ["roll","names","group","name"] ["roll","names"] (ag (top 8)):=⟨rfl,rfl,rfl,by decide+kernel,rfl,by decide+kernel,by decide+kernel⟩
theorem zD(B:Bl mg)(cA:Ed K mg "group_of" (top 8) ["roll","names"] cN eF):aL P w K mg base cv 1 cN eF ["roll","names"] (cT K κ false dk):=
 br cA.F qf λd8 A outer s H E hr=>have nd:=qf.nd;(ak (ba 2 nd aj) (ak (kv (we (ay 1)) (dJ 3 nd) (ak (dY (cj (GJ (ab 3) (ab 0))) (aw G8) cC) (aw (ba 2 nd (P2 (ab 2) (DE.b (BA (DE.b aj) (DE.b (ze (ab 0) (ab 3)))))))))) (aw (bq (ay 2)))))
theorem fX:aT ["self","roll"] ["self","roll"] (ag (bT 20 2)):=⟨rfl,rfl,rfl,by decide+kernel,rfl,by decide+kernel,by decide+kernel⟩
theorem dS{k0:Nat}{T_ladder:Nat->List PV->Option PV}(LA:8<=k0)(B:Bl mg)(aO:Em K "ladder" "Counting.ladder" (bT 20 2) ["self","roll"] aC dR)(C:Cf K mg κ CR CC jj jk jl jm gh)(d0:jx P w K mg base κ true "ladder" k0 ["self","roll"] T_ladder)(fe:Ed K mg "some" (top 16) ["many","ladders"] iN l6)(kJ:aL P w K mg base cv 7 iN l6 ["many","ladders"] (cT K κ true iI)):aL P w K mg base cv (k0+1) aC dR ["self","roll"] (cT K κ true (fn true 2 2 (cz iI T_ladder))):=
 br aO.F fX λd8 A outer s H E hr=>have nd:=fX.nd;(aw (n5 (og (kJ.mono (Nat.le_trans (by decide) LA)) hr fe.m fe.F.kp fe.b (af (wu C.fld (C.Ha _) (ab 0)) (af (DO.e (jw (Dm (DE.b (wu C.fld (C.Ha _) (ab 0)))) (ag (bT 20 2)) ["self","roll"] ["self","roll"] (λex C s H=>(DO.e (wq d0 hr (ay 0) (af (ay 2) aG)))))) aG)))))
theorem j0:aT ["self","roll"] ["self","roll"] (ag (bT 19 4)):=⟨rfl,rfl,rfl,by decide+kernel,rfl,by decide+kernel,by decide+kernel⟩
theorem qE{k0:Nat}(LA:8<=k0)(B:Bl mg)(cB:Em K "ladder" "Hand.ladder" (bT 19 4) ["self","roll"] bC fO)(C:Cf K mg κ CR CC jj jk jl jm gh)(cA:Ed K mg "group_of" (top 8) ["roll","names"] cN eF)(fg:aL P w K mg base cv 1 cN eF ["roll","names"] (cT K κ false dk)):aL P w K mg base cv (k0+1) bC fO ["self","roll"] (cT K κ true (fn true 2 2 (kD dk))):=
 br cB.F j0 λd8 A outer s H E hr=>have nd:=j0.nd;(aw (n5 (ku (af (bh (fg.mono (Nat.le_trans (by decide) LA)) hr cA.m cA.F.kp cA.b (af (ay 1) (af (DO.e (ku (af (wu C.fld (C.Ha _) (ab 0)) aG))) aG))) aG))))
theorem kK:aT ["_law_script","_law_k"] ["_law_script","_law_k"] (ag (top 25)):=⟨rfl,rfl,rfl,by decide+kernel,rfl,by decide+kernel,by decide+kernel⟩
theorem sQ(B:Bl mg)(au:Ed K mg "_law_cell_at" (top 25) ["_law_script","_law_k"] aX bD):aL P w K mg base cv 1 aX bD ["_law_script","_law_k"] (cT K κ false F_law_cell_at):=
 br au.F kK λd8 A outer s H E hr=>have nd:=kK.nd;(ak (dY (cj (yQ (ab 1) (DE.b (df (ab 0) B.len)))) (aw (bq (cQ (ab 0) (ab 1)))) cC) (aw (bq aj)))
theorem qg:aT ["_law_base_here","_law_place","_law_size","_law_k","_law_letters","_law_other"] ["_law_base_here","_law_place","_law_size","_law_k"] (ag (top 27)):=⟨rfl,rfl,rfl,by decide+kernel,rfl,by decide+kernel,by decide+kernel⟩
theorem zE(B:Bl mg)(dA:Ed K mg "_law_name" (top 27) ["_law_base_here","_law_place","_law_size","_law_k"] dt iz):aL P w K mg base cv 1 dt iz ["_law_base_here","_law_place","_law_size","_law_k"] (cT K κ false bR):=
 br dA.F qg λd8 A outer s H E hr=>have nd:=qg.nd;(ak (ba 4 nd bW) (ak (ba 5 nd (cQ (ab 4) (DE.b (cg (DE.b (bN (DE.b (JY (ab 4) (DE.b (cQ (ab 0) (ab 1))))) (DE.b (pD (DE.b aj) (ab 3))))) (DE.b aj))))) (aw (bq (bN (DE.b (bN (DE.b (lW (ab 0) ip (d5 (ab 1)))) (ab 5))) (DE.b (lW (ab 0) (d5 (DE.b (bN (ab 1) (DE.b aj)))) (d5 (ab 2)))))))))
theorem qh:aT ["_law_cell","_law_size","_law_number","_law_found","_law_k"] ["_law_cell","_law_size"] (ag (top 26)):=⟨rfl,rfl,rfl,by decide+kernel,rfl,by decide+kernel,by decide+kernel⟩
theorem zF(B:Bl mg)(dB:Ed K mg "_law_base" (top 26) ["_law_cell","_law_size"] du iA):aL P w K mg base cv 1 du iA ["_law_cell","_law_size"] (cT K κ false bS):=
 br dB.F qh λd8 A outer s H E hr=>have nd:=qh.nd;(ak (ba 2 nd (cg (DE.b (bN (DE.b (pD (DE.b (cg (ab 0) (DE.b aj))) (DE.b aj))) (DE.b aj))) (DE.b aj))) (ak (ba 3 nd bW) (ak (kv (ra (ab 1) B.range) (dJ 4 nd) (ak (ba 2 nd (cg (DE.b (bN (DE.b (bN (DE.b (bN (DE.b (pD (ab 2) (ab 2))) (DE.b (pD (DE.b aj) (ab 2))))) (ab 4))) (DE.b aj))) (DE.b aj))) (aw (ba 3 nd (bN (ab 3) (DE.b (cQ (DE.b bW) (DE.b (cg (ab 2) (DE.b aj)))))))))) (aw (bq (ay 3))))))
theorem oI:aT ["_law_script","_law_at","_law_many","_law_cell","_law_size","_law_more","_law_word","_law_base_here","_law_names_here","_law_k","_law_name_here"] ["_law_script","_law_at","_law_many"] (ag (top 28)):=⟨rfl,rfl,rfl,by decide+kernel,rfl,by decide+kernel,by decide+kernel⟩
theorem wH(B:Bl mg)(cZ:Ed K mg "_law_names" (top 28) ["_law_script","_law_at","_law_many"] cV gj)(au:Ed K mg "_law_cell_at" (top 25) ["_law_script","_law_k"] aX bD)(aY:aL P w K mg base cv 1 aX bD ["_law_script","_law_k"] (cT K κ false F_law_cell_at))(dA:Ed K mg "_law_name" (top 27) ["_law_base_here","_law_place","_law_size","_law_k"] dt iz)(mX:aL P w K mg base cv 1 dt iz ["_law_base_here","_law_place","_law_size","_law_k"] (cT K κ false bR))(dB:Ed K mg "_law_base" (top 26) ["_law_cell","_law_size"] du iA)(mY:aL P w K mg base cv 1 du iA ["_law_cell","_law_size"] (cT K κ false bS)):aL P w K mg base cv 2 cV gj ["_law_script","_law_at","_law_many"] (cT K κ true eD):=
 br cZ.F oI λd8 A outer s H E hr=>have nd:=oI.nd;(ak (ba 3 nd (bh (aY.mono (by decide)) hr au.m au.F.kp au.b (af (ay 0) (af (ay 1) aG)))) (ak (ba 4 nd (bN (DE.b aj) (DE.b (cg (ab 3) (DE.b aj))))) (ak (ba 5 nd (bh (aY.mono (by decide)) hr au.m au.F.kp au.b (af (ay 0) (af (bN (ab 1) (DE.b aj)) aG)))) (ak (ba 6 nd (cQ (DO.b (ku (af bW (af bW (af bW (af bW (af bW (af bW (af bW (af bW aG)))))))))) (DE.b (cg (ab 5) (DE.b aj))))) (ak (ba 7 nd (lW (DE.b (bN (ab 6) (DE.b (bh (mY.mono (by decide)) hr dB.m dB.F.kp dB.b (af (iE (ab 5) (DE.b aj)) (af aj aG)))))) ip (d5 (DE.b aj)))) (ak (lR 8 nd (ku aG)) (ak (kv (ra (ab 2) B.range) (dJ 9 nd) (ak (ba 10 nd (bh (mX.mono (by decide)) hr dA.m dA.F.kp dA.b (af (ay 7) (af (cg (DE.b (iE (ab 3) (DE.b aj))) (ab 4)) (af (ay 4) (af (ay 9) aG)))))) (ak (dY (cj (fW hr (DE.b (cg (DE.b (iE (ab 3) (DE.b aj))) (DE.b aj))) (DE.b aj))) (aw (ba 10 nd (lW (ab 7) ip (d5 (DE.b (bN (ab 9) (DE.b aj))))))) cC) (ak (dY (cj (P9 (ab 10) (DE.b (iG (af bW (af bW (af bW aG))))))) (aw (ba 10 nd (J5 (ab 10) (DE.b (sk (DE.b aj)))))) cC) (aw (jf 8 (af (ay 10) aG))))))) (aw (Dl 8)))))))))
theorem qi:aT ["_law_script"] ["_law_script"] (ag (top 29)):=⟨rfl,rfl,rfl,by decide+kernel,rfl,by decide+kernel,by decide+kernel⟩
theorem zG(B:Bl mg)(dD:Ed K mg "_law_roll" (top 29) ["_law_script"] dv iB)(cZ:Ed K mg "_law_names" (top 28) ["_law_script","_law_at","_law_many"] cV gj)(kM:aL P w K mg base cv 2 cV gj ["_law_script","_law_at","_law_many"] (cT K κ true eD))(au:Ed K mg "_law_cell_at" (top 25) ["_law_script","_law_k"] aX bD)(aY:aL P w K mg base cv 1 aX bD ["_law_script","_law_k"] (cT K κ false F_law_cell_at)):aL P w K mg base cv 3 dv iB ["_law_script"] (cT K κ false F_law_roll):=
 br dD.F qi λd8 A outer s H E hr=>have nd:=qi.nd;(aw (bq (za (DO.b (og (kM.mono (by decide)) hr cZ.m cZ.F.kp cZ.b (af (ay 0) (af aj (af (bN (DE.b aj) (DE.b (cg (DE.b (bh (aY.mono (by decide)) hr au.m au.F.kp au.b (af (ay 0) (af aj aG)))) (DE.b aj)))) aG))))) B.tuple)))
theorem kN:aT ["_law_kind","_law_many","_law_items","_law_parts","_law_shapes","_law_texts","_law_deep","_law_found"] ["_law_kind","_law_many","_law_items"] (ag (top 31)):=⟨rfl,rfl,rfl,by decide+kernel,rfl,by decide+kernel,by decide+kernel⟩
theorem sR(B:Bl mg)(aK:Ed K mg "_law_counted" (top 31) ["_law_kind","_law_many","_law_items"] bp bZ)(C:Cf K mg κ CR CC jj jk jl jm gh)(NJ:aL P w K mg base cv 2 jk DY ["self","parts"] (ou K (κ.adr 1) λys=>(ys.length:Nat)))(NK:Binds K DY ["self","parts"] [])(NL:aL P w K mg base cv 2 jl DZ ["self","parts"] (ou K (κ.adr 2) λ_=>1))(NM:Binds K DZ ["self","parts"] [])(NN:aL P w K mg base cv 2 jm D0 ["self","many","parts"] (ot K (κ.adr 3)))(NO:Binds K D0 ["self","many","parts"] []):aL P w K mg base cv 6 bp bZ ["_law_kind","_law_many","_law_items"] (cT K κ false ao):=
 br aK.F kN λd8 A outer s H E hr=>have nd:=kN.nd;(ak (GW 3 nd (dZ (ab 2)) (ag (top 31)) ["_law_kind","_law_many","_law_items","_law_parts","_law_shapes","_law_texts","_law_deep","_law_found"] ["_law_kind","_law_many","_law_items","_law_parts","_law_shapes","_law_texts","_law_deep","_law_found"] (λex C s H=>(cQ (ab 0) (DE.b aj)))) (ak (ba 4 nd (za (DO.b (jw (dZ (ab 2)) (ag (top 31)) ["_law_kind","_law_many","_law_items","_law_parts","_law_shapes","_law_texts","_law_deep","_law_found"] ["_law_kind","_law_many","_law_items","_law_parts","_law_shapes","_law_texts","_law_deep","_law_found"] (λex C s H=>(cQ (ab 0) (DE.b aj))))) B.tuple)) (ak (ba 5 nd (bN (DE.b (J0 (DE.b bW) (DO.b (jw (dZ (ab 2)) (ag (top 31)) ["_law_kind","_law_many","_law_items","_law_parts","_law_shapes","_law_texts","_law_deep","_law_found"] ["_law_kind","_law_many","_law_items","_law_parts","_law_shapes","_law_texts","_law_deep","_law_found"] (λex C s H=>(cQ (ab 0) (DE.b aj))))))) (DE.b bW))) (ak (ba 6 nd (bN (DE.b aj) (DE.b (DD (DO.b (jw (dZ (ab 2)) (ag (top 31)) ["_law_kind","_law_many","_law_items","_law_parts","_law_shapes","_law_texts","_law_deep","_law_found"] ["_law_kind","_law_many","_law_items","_law_parts","_law_shapes","_law_texts","_law_deep","_law_found"] (λex C s H=>(cQ (ab 0) (DE.b aj))))) B.max)))) (ak (dY (cj (fW hr (ab 0) (DE.b aj))) (aw (ba 7 nd (iG (af (G5 C.kA NJ (by rw[C.fld];rfl) (hr.mono (by decide)) C.gA NK (ab 3)) (af (iG (af bW (af (ay 4) aG))) (af (bN (DE.b bW) (ab 5)) (af (ay 6) aG))))))) (aw (dY (cj (fW hr (ab 0) (DE.b aj))) (aw (ba 7 nd (iG (af (G6 C.kY NL (by rw[C.fld];rfl) (hr.mono (by decide)) C.gY NM (ab 3)) (af (iG (af bW (af (ay 4) aG))) (af (bN (DE.b bW) (ab 5)) (af (ay 6) aG))))))) (aw (ba 7 nd (iG (af (EU C.kS NN (by rw[C.fld];rfl) (hr.mono (by decide)) C.gS NO (ab 1) (ab 3)) (af (iG (af bW (af (ay 1) (af (ay 4) aG)))) (af (bN (DE.b (bN (DE.b (J1 (ab 1) B.str)) (DE.b bW))) (ab 5)) (af (ay 6) aG)))))))))) (ak (yS 3) (aw (bq (ay 7)))))))))
theorem mC:aT ["_law_pile","_law_cell","_law_number","_law_items"] ["_law_pile","_law_cell"] (ag (top 32)):=⟨rfl,rfl,rfl,by decide+kernel,rfl,by decide+kernel,by decide+kernel⟩
theorem uA(B:Bl mg)(cJ:Ed K mg "_law_folded" (top 32) ["_law_pile","_law_cell"] cH fz)(aK:Ed K mg "_law_counted" (top 31) ["_law_kind","_law_many","_law_items"] bp bZ)(bV:aL P w K mg base cv 6 bp bZ ["_law_kind","_law_many","_law_items"] (cT K κ false ao)):aL P w K mg base cv 7 cH fz ["_law_pile","_law_cell"] (cT K κ false F_law_folded):=
 br cJ.F mC λd8 A outer s H E hr=>have nd:=mC.nd;(ak (ba 2 nd (bN (DE.b aj) (DE.b (cg (ab 1) (DE.b aj))))) (ak (GG 1000 (cj (yR (DE.b (df (ab 0) B.len)) (DE.b aj))) (ak (ba 2 nd (cg (DE.b (bN (DE.b (pD (ab 2) (ab 2))) (DE.b (pD (DE.b aj) (ab 2))))) (DE.b aj))) (ak (ba 3 nd (DO.e (jg (ab 0) (d5 (DE.b (sk (DE.b aj)))) ip))) (ak (lR 0 nd (jg (ab 0) ip (d5 (DE.b (sk (DE.b aj)))))) (aw (jf 0 (af (bh (bV.mono (by decide)) hr aK.m aK.F.kp aK.b (af (cg (ab 2) (DE.b aj)) (af (bN (DE.b aj) (DE.b (cg (DE.b (iE (ab 2) (DE.b aj))) (DE.b (df (ab 3) B.len))))) (af (ay 3) aG)))) aG))))))) (aw (bq (cQ (ab 0) (DE.b aj))))))
theorem qj:aT ["_law_name_here"] ["_law_name_here"] (ag (top 30)):=⟨rfl,rfl,rfl,by decide+kernel,rfl,by decide+kernel,by decide+kernel⟩
theorem zH(B:Bl mg)(bz:Ed K mg "_law_hand" (top 30) ["_law_name_here"] cO eG)(C:Cf K mg κ CR CC jj jk jl jm gh)(NP:aL P w K mg base cv 1 jj DX ["self","name"] (sH (κ.adr 0)))(NQ:Binds K DX ["self","name"] []):aL P w K mg base cv 6 cO eG ["_law_name_here"] (cT K κ false F_law_hand):=
 br bz.F qj λd8 A outer s H E hr=>have nd:=qj.nd;(aw (bq (iG (af (ET C.kH NP (by rw[C.fld];rfl) (hr.mono (by decide)) C.gH NQ (ab 0)) (af (iG (af bW (af (ay 0) aG))) (af (ay 0) (af aj aG)))))))
theorem oJ:aT ["_law_script","_law_at","_law_size","_law_roll_here","_law_pile","_law_heads","_law_cell","_law_items","_law_deep"] ["_law_script","_law_at","_law_size","_law_roll_here"] (ag (top 33)):=⟨rfl,rfl,rfl,by decide+kernel,rfl,by decide+kernel,by decide+kernel⟩
theorem wI(B:Bl mg)(b5:Ed K mg "_law_built" (top 33) ["_law_script","_law_at","_law_size","_law_roll_here"] cW gn)(cJ:Ed K mg "_law_folded" (top 32) ["_law_pile","_law_cell"] cH fz)(jC:aL P w K mg base cv 7 cH fz ["_law_pile","_law_cell"] (cT K κ false F_law_folded))(bz:Ed K mg "_law_hand" (top 30) ["_law_name_here"] cO eG)(en:aL P w K mg base cv 6 cO eG ["_law_name_here"] (cT K κ false F_law_hand))(au:Ed K mg "_law_cell_at" (top 25) ["_law_script","_law_k"] aX bD)(aY:aL P w K mg base cv 1 aX bD ["_law_script","_law_k"] (cT K κ false F_law_cell_at))(aK:Ed K mg "_law_counted" (top 31) ["_law_kind","_law_many","_law_items"] bp bZ)(bV:aL P w K mg base cv 6 bp bZ ["_law_kind","_law_many","_law_items"] (cT K κ false ao)):aL P w K mg base cv 8 cW gn ["_law_script","_law_at","_law_size","_law_roll_here"] (cT K κ false ck):=
 br b5.F oJ λd8 A outer s H E hr=>have nd:=oJ.nd;(ak (lR 4 nd (ku (af (bh (en.mono (by decide)) hr bz.m bz.F.kp bz.b (af (cQ (ab 3) (DE.b (cg (DE.b (bh (aY.mono (by decide)) hr au.m au.F.kp au.b (af (ay 0) (af (ay 1) aG)))) (DE.b (df (ab 3) B.len))))) aG)) aG))) (ak (ba 5 nd aj) (ak (kv (we (DO.e (jg (ab 0) (d5 (DE.b (bN (ab 1) (DE.b aj)))) (d5 (DE.b (bN (ab 1) (ab 2))))))) (dJ 6 nd) (ak (ba 7 nd (DO.e (jg (ab 4) (d5 (DE.b (sk (DE.b (bN (DE.b aj) (DE.b (cg (DE.b (iE (ab 6) (DE.b aj))) (DE.b aj)))))))) ip))) (ak (ba 8 nd (DD (DO.b (jw (dZ (ab 7)) (ag (top 33)) ["_law_script","_law_at","_law_size","_law_roll_here","_law_pile","_law_heads","_law_cell","_law_items","_law_deep"] ["_law_script","_law_at","_law_size","_law_roll_here","_law_pile","_law_heads","_law_cell","_law_items","_law_deep"] (λex C s H=>(cQ (ab 0) (DE.b aj))))) B.max)) (aw (dY (DW.t (Dj (cj (yQ (DE.b (cg (ab 6) (DE.b aj))) (DE.b aj))) (Dj (cj (yR (ab 8) (DE.b aj))) (GA (cj (yR (ab 5) (DE.b aj))))))) (aw (jf 4 (af (bh (en.mono (by decide)) hr bz.m bz.F.kp bz.b (af (cQ (ab 3) (DE.b (cg (DE.b (iE (ab 6) (DE.b aj))) (DE.b (df (ab 3) B.len))))) aG)) aG))) (ak (lR 4 nd (jg (ab 4) ip (d5 (DE.b (Bz (DE.b (df (ab 4) B.len)) (DE.b (df (ab 7) B.len))))))) (ak (jf 4 (af (bh (bV.mono (by decide)) hr aK.m aK.F.kp aK.b (af (Bz (DE.b (cg (ab 6) (DE.b aj))) (DE.b aj)) (af (bN (DE.b aj) (DE.b (cg (DE.b (iE (ab 6) (DE.b aj))) (DE.b (df (ab 7) B.len))))) (af (ay 7) aG)))) aG)) (aw (ba 5 nd (bN (ab 5) (DE.b aj))))))))))) (JM 4 (aw (bq (bh (jC.mono (by decide)) hr cJ.m cJ.F.kp cJ.b (af (ay 4) (af (bh (aY.mono (by decide)) hr au.m au.F.kp au.b (af (ay 0) (af aj aG))) aG)))))))))
theorem kO:aT ["_law_script","_law_roll_here","_law_cell","_law_whole_here","_law_items"] ["_law_script","_law_roll_here"] (ag (top 34)):=⟨rfl,rfl,rfl,by decide+kernel,rfl,by decide+kernel,by decide+kernel⟩
theorem sS(B:Bl mg)(cu:Ed K mg "_law_doubled" (top 34) ["_law_script","_law_roll_here"] cm eQ)(au:Ed K mg "_law_cell_at" (top 25) ["_law_script","_law_k"] aX bD)(aY:aL P w K mg base cv 1 aX bD ["_law_script","_law_k"] (cT K κ false F_law_cell_at))(b5:Ed K mg "_law_built" (top 33) ["_law_script","_law_at","_law_size","_law_roll_here"] cW gn)(iD:aL P w K mg base cv 8 cW gn ["_law_script","_law_at","_law_size","_law_roll_here"] (cT K κ false ck))(aK:Ed K mg "_law_counted" (top 31) ["_law_kind","_law_many","_law_items"] bp bZ)(bV:aL P w K mg base cv 6 bp bZ ["_law_kind","_law_many","_law_items"] (cT K κ false ao))(bz:Ed K mg "_law_hand" (top 30) ["_law_name_here"] cO eG)(en:aL P w K mg base cv 6 cO eG ["_law_name_here"] (cT K κ false F_law_hand)):aL P w K mg base cv 9 cm eQ ["_law_script","_law_roll_here"] (cT K κ false F_law_doubled):=
 br cu.F kO λd8 A outer s H E hr=>have nd:=kO.nd;(ak (ba 2 nd (bh (aY.mono (by decide)) hr au.m au.F.kp au.b (af (ay 0) (af aj aG)))) (ak (dY (cj (fW hr (DE.b (cg (ab 2) (DE.b aj))) (DE.b aj))) (aw (bq (bh (iD.mono (by decide)) hr b5.m b5.F.kp b5.b (af (ay 0) (af aj (af aj (af (ay 1) aG))))))) cC) (ak (ba 3 nd (bh (iD.mono (by decide)) hr b5.m b5.F.kp b5.b (af (ay 0) (af aj (af aj (af (ay 1) aG)))))) (ak (ba 4 nd (DO.e (ku (af (ay 3) (af (bh (en.mono (by decide)) hr bz.m bz.F.kp bz.b (af (cQ (ab 1) (DE.b (cg (DE.b (iE (ab 2) (DE.b aj))) (DE.b (df (ab 1) B.len))))) aG)) (af (ay 3) aG)))))) (aw (bq (bh (bV.mono (by decide)) hr aK.m aK.F.kp aK.b (af (cg (DE.b (iE (ab 2) (DE.b aj))) (DE.b aj)) (af (bN (DE.b aj) (DE.b (cg (DE.b (iE (ab 2) (DE.b aj))) (DE.b aj)))) (af (ay 4) aG))))))))))
theorem oK:aT ["_law_found"] ["_law_found"] (ag (top 36)):=⟨rfl,rfl,rfl,by decide+kernel,rfl,by decide+kernel,by decide+kernel⟩
theorem wJ(B:Bl mg)(c5:Ed K mg "_law_whole" (top 36) ["_law_found"] cX gp):aL P w K mg base cv 1 cX gp ["_law_found"] (cT K κ false bG):=
 br c5.F oK λd8 A outer s H E hr=>have nd:=oK.nd;(aw (bq (JI (uq (ab 0) B.isinstance B.int) (M9 (JJ (sx (ab 0) B.isinstance B.bool))))))
theorem mD:aT ["_law_one","_law_two","_law_ones","_law_twos","_law_left","_law_right"] ["_law_one","_law_two"] (ag (top 37)):=⟨rfl,rfl,rfl,by decide+kernel,rfl,by decide+kernel,by decide+kernel⟩
theorem uB(B:Bl mg)(cK:Ed K mg "_law_before" (top 37) ["_law_one","_law_two"] cI fB):aL P w K mg base cv 1 cI fB ["_law_one","_law_two"] (cT K κ false bt):=
 br cK.F mD λd8 A outer s H E hr=>have nd:=mD.nd;(ak (pF 2 nd (su (DE.b aj) B.range) (ag (top 37)) ["_law_one","_law_two","_law_ones","_law_twos","_law_left","_law_right"] ["_law_one","_law_two","_law_ones","_law_twos","_law_left","_law_right"] (λex C s H=>(cj (fW hr (DE.b (mR (DE.b (wc (ab 1) (ab 0))) (DE.b aj))) (DE.b aj)))) (λex C s H=>(ay 0))) (ak (pF 3 nd (su (DE.b aj) B.range) (ag (top 37)) ["_law_one","_law_two","_law_ones","_law_twos","_law_left","_law_right"] ["_law_one","_law_two","_law_ones","_law_twos","_law_left","_law_right"] (λex C s H=>(cj (fW hr (DE.b (mR (DE.b (wc (ab 2) (ab 0))) (DE.b aj))) (DE.b aj)))) (λex C s H=>(ay 0))) (ak (dY (cj (Dq hr (DE.b (df (ab 2) B.len)) (DE.b (df (ab 3) B.len)))) (aw (bq (gL (yQ (DE.b (df (ab 2) B.len)) (DE.b (df (ab 3) B.len)))))) cC) (ak (kv (Ni (ay 2) (ay 3) B.zip) (JO (dJ 4 nd) (dJ 5 nd)) (aw (dY (cj (Dq hr (ab 4) (ab 5))) (aw (bq (gL (yQ (ab 4) (ab 5))))) cC))) (aw (bq n0))))))
theorem j4:aT ["_law_told","_law_many","_law_k"] ["_law_told","_law_many"] (ag (top 38)):=⟨rfl,rfl,rfl,by decide+kernel,rfl,by decide+kernel,by decide+kernel⟩
theorem qF(B:Bl mg)(b6:Ed K mg "_law_in_order" (top 38) ["_law_told","_law_many"] bY d7)(c5:Ed K mg "_law_whole" (top 36) ["_law_found"] cX gp)(kP:aL P w K mg base cv 1 cX gp ["_law_found"] (cT K κ false bG))(cK:Ed K mg "_law_before" (top 37) ["_law_one","_law_two"] cI fB)(jD:aL P w K mg base cv 1 cI fB ["_law_one","_law_two"] (cT K κ false bt)):aL P w K mg base cv 2 bY d7 ["_law_told","_law_many"] (cT K κ false F_law_in_order):=
 br b6.F j4 λd8 A outer s H E hr=>have nd:=j4.nd;(ak (dY (pE (iF (sA (ab 0) B.isinstance B.list))) (aw (bq n0)) cC) (ak (kv (ra (DE.b (df (ab 0) B.len)) B.range) (dJ 2 nd) (ak (dY (DW.t (Dj (pE (iF (bh (kP.mono (by decide)) hr c5.m c5.F.kp c5.b (af (cQ (ab 0) (ab 2)) aG)))) (Dj (cj (yQ (DE.b (cQ (ab 0) (ab 2))) (DE.b aj))) (GA (cj (Gz (DE.b (cQ (ab 0) (ab 2))) (ab 1))))))) (aw (bq n0)) cC) (ak (dY (DW.t (M8 (cj (yR (ab 2) (DE.b aj))) (JH (pE (iF (bh (jD.mono (by decide)) hr cK.m cK.F.kp cK.b (af (cQ (ab 0) (DE.b (Bz (ab 2) (DE.b aj)))) (af (cQ (ab 0) (ab 2)) aG)))))))) (aw (bq n0)) cC) (aw (dY (iF (GK (DO.b (jw (dZ (DO.b (jg (ab 0) ip (d5 (ab 2))))) (ag (top 38)) ["_law_told","_law_many","_law_k"] ["_law_told","_law_many","_law_k"] (λex C s H=>(gL (fW hr (DE.b (mR (ab 0) (DE.b (cQ (ab 1) (ab 3))))) (ab 0)))))) B.any)) (aw (bq n0)) cC))))) (aw (bq n0))))
theorem oM:aT ["_law_shape","_law_roll_here","_law_group","_law_many"] ["_law_shape","_law_roll_here","_law_group"] (ag (top 35)):=⟨rfl,rfl,rfl,by decide+kernel,rfl,by decide+kernel,by decide+kernel⟩
theorem mE(B:Bl mg)(bA:Ed K mg "_law_holds" (top 35) ["_law_shape","_law_roll_here","_law_group"] cq dO):∀n:Nat,aL P w K mg base cv n cq dO ["_law_shape","_law_roll_here","_law_group"] (cT K κ false (dN n))
 |0=>ES
 |n+1=>have fM:=mE B bA n;br bA.F oM λd8 A outer s H E hr=>have nd:=oM.nd;(ak (dY (cj (fW hr (DE.b (cQ (ab 0) (DE.b aj))) (DE.b bW))) (aw (bq (gL (fW hr (DE.b (mR (DE.b (wc (ab 2) (DE.b (ze (ab 1) (DE.b (cQ (ab 0) (DE.b aj))))))) (DE.b aj))) (DE.b aj))))) cC) (ak (ba 3 nd (df (DO.b (lU (Dm (DE.b (cQ (ab 0) (DE.b (sk (DE.b aj)))))) (ag (top 35)) ["_law_shape","_law_roll_here","_law_group","_law_many"] ["_law_shape","_law_roll_here","_law_group","_law_many"] (λex C s H=>(iF (bh fM hr bA.m bA.F.kp bA.b (af (ay 0) (af (ay 2) (af (ay 3) aG)))))) (λex C s H=>(ay 0)))) B.len)) (ak (dY (cj (fW hr (DE.b (cQ (ab 0) (DE.b aj))) (DE.b bW))) (aw (bq (gL (fW hr (ab 3) (DE.b (df (DE.b (cQ (ab 0) (DE.b aj))) B.len)))))) cC) (ak (dY (cj (fW hr (DE.b (cQ (ab 0) (DE.b aj))) (DE.b bW))) (aw (bq (gL (yR (ab 3) (DE.b aj))))) cC) (aw (bq (gL (Gz (ab 3) (DE.b (cQ (ab 0) (DE.b aj)))))))))))
theorem wK(B:Bl mg)(bA:Ed K mg "_law_holds" (top 35) ["_law_shape","_law_roll_here","_law_group"] cq dO):aL P w K mg base cv 24 cq dO ["_law_shape","_law_roll_here","_law_group"] (cT K κ false bj):=mE B bA 24
theorem HD:aT ["_law_script","_law_roll_here","_law_rule","_law_shape","_law_text","_law_deep","_law_many","_law_told","_law_group","_law_within_it","_law_kept"] ["_law_script"] (ag (top 39)):=⟨rfl,rfl,rfl,by decide+kernel,rfl,by decide+kernel,by decide+kernel⟩
theorem NR(B:Bl mg)(HE:Ed K mg "law" (top 39) ["_law_script"] vy HA)(C:Cf K mg κ CR CC jj jk jl jm gh)(d0:jx P w K mg base κ true "ladder" 32 ["self","roll"] T_ladder)(dD:Ed K mg "_law_roll" (top 29) ["_law_script"] dv iB)(mZ:aL P w K mg base cv 3 dv iB ["_law_script"] (cT K κ false F_law_roll))(cu:Ed K mg "_law_doubled" (top 34) ["_law_script","_law_roll_here"] cm eQ)(iO:aL P w K mg base cv 9 cm eQ ["_law_script","_law_roll_here"] (cT K κ false F_law_doubled))(b6:Ed K mg "_law_in_order" (top 38) ["_law_told","_law_many"] bY d7)(gW:aL P w K mg base cv 2 bY d7 ["_law_told","_law_many"] (cT K κ false F_law_in_order))(bA:Ed K mg "_law_holds" (top 35) ["_law_shape","_law_roll_here","_law_group"] cq dO)(fM:aL P w K mg base cv 24 cq dO ["_law_shape","_law_roll_here","_law_group"] (cT K κ false bj)):aL P w K mg base cv 33 vy HA ["_law_script"] (cT K κ false DV):=
 br HE.F HD λd8 A outer s H E hr=>have nd:=HD.nd;(ak (ba 1 nd (bh (mZ.mono (by decide)) hr dD.m dD.F.kp dD.b (af (ay 0) aG))) (ak (Nl (Nm (oo (dJ 2 nd) (oo (dJ 3 nd) (oo (dJ 4 nd) (oo (dJ 5 nd) JW))))) (bh (iO.mono (by decide)) hr cu.m cu.F.kp cu.b (af (ay 0) (af (ay 1) aG)))) (ak (dY (pE (iF (Nw C.isR (ab 2) B.isinstance C.gR))) (aw (bq n0)) cC) (ak (ba 6 nd (BA (DE.b aj) (DE.b (df (ab 1) B.len)))) (ak (lR 7 nd (wq (d0.mono (by decide)) hr (ay 2) (af (ay 1) aG))) (ak (dY (pE (iF (yU (gW.mono (by decide)) hr b6.m b6.F.kp b6.b (n4 (ab 7) (n4 (ab 6) Dk))))) (aw (bq n0)) cC) (ak (kv (ra (ab 6) B.range) (dJ 8 nd) (ak (pF 9 nd (dZ (ab 7)) (ag (top 39)) ["_law_script","_law_roll_here","_law_rule","_law_shape","_law_text","_law_deep","_law_many","_law_told","_law_group","_law_within_it","_law_kept"] ["_law_script","_law_roll_here","_law_rule","_law_shape","_law_text","_law_deep","_law_many","_law_told","_law_group","_law_within_it","_law_kept"] (λex C s H=>(cj (fW hr (DE.b (mR (ab 0) (ab 9))) (ab 0)))) (λex C s H=>(ay 0))) (aw (dY (cj (Dq hr (DE.b (bh (fM.mono (by decide)) hr bA.m bA.F.kp bA.b (af (ay 3) (af (ay 1) (af (ay 8) aG))))) (DE.b (gL (Dq hr (ab 9) (DO.b (ku aG))))))) (aw (bq n0)) cC)))) (ak (ba 10 nd (DO.e (JQ (ab 7) B.list))) (ak (yS 7) (aw (bq (gL (fW hr (DO.b (wq (d0.mono (by decide)) hr (ay 2) (af (ay 1) aG))) (ab 10))))))))))))))
theorem sT(B:Bl mg)(C:Cf K mg κ CR CC jj jk jl jm gh)(aO:Em K "ladder" "Counting.ladder" (bT 20 2) ["self","roll"] aC dR)(cB:Em K "ladder" "Hand.ladder" (bT 19 4) ["self","roll"] bC fO)(fD:Meth K (κ.adr 0) "ladder" bC)(gq:Meth K (κ.adr 1) "ladder" aC)(gr:Meth K (κ.adr 2) "ladder" aC)(fE:Meth K (κ.adr 3) "ladder" aC)(fe:Ed K mg "some" (top 16) ["many","ladders"] iN l6)(kJ:aL P w K mg base cv 7 iN l6 ["many","ladders"] (cT K κ true iI))(cA:Ed K mg "group_of" (top 8) ["roll","names"] cN eF)(fg:aL P w K mg base cv 1 cN eF ["roll","names"] (cT K κ false dk)):∀n:Nat,jx P w K mg base κ true "ladder" (8+1*n) ["self","roll"] (eC n)
 |0=>λc xs p h=>by cases h
 |n+1=>by
  have d0:=sT B C aO cB fD gq gr fE fe kJ cA fg n
  have LA:8<=8+1*n:=by omega
  exact λc xs p h=>match c,h with
   |0,_=>⟨_,_,C.cls 0 (by decide),fD,by rw[C.fld];decide,qE LA B cB C cA fg,cB.b⟩
   |1,_=>⟨_,_,C.cls 1 (by decide),gq,by rw[C.fld];decide,dS LA B aO C d0 fe kJ,aO.b⟩
   |2,_=>⟨_,_,C.cls 2 (by decide),gr,by rw[C.fld];decide,dS LA B aO C d0 fe kJ,aO.b⟩
   |3,_=>⟨_,_,C.cls 3 (by decide),fE,by rw[C.fld];decide,dS LA B aO C d0 fe kJ,aO.b⟩
   |_+4,h=>by cases h
theorem Qj:aT ["self","name"] ["self","name"] (ag (bT 19 0)):=⟨rfl,rfl,rfl,by decide+kernel,rfl,by decide+kernel,by decide+kernel⟩
theorem Qk:aT ["self","parts"] ["self","parts"] (ag (bT 21 0)):=⟨rfl,rfl,rfl,by decide+kernel,rfl,by decide+kernel,by decide+kernel⟩
theorem Ql:aT ["self","parts"] ["self","parts"] (ag (bT 22 0)):=⟨rfl,rfl,rfl,by decide+kernel,rfl,by decide+kernel,by decide+kernel⟩
theorem Qm:aT ["self","many","parts"] ["self","many","parts"] (ag (bT 23 0)):=⟨rfl,rfl,rfl,by decide+kernel,rfl,by decide+kernel,by decide+kernel⟩
theorem Qn:aT ["self","wanted","parts"] ["self","wanted","parts"] (ag (bT 20 0)):=⟨rfl,rfl,rfl,by decide+kernel,rfl,by decide+kernel,by decide+kernel⟩
theorem Qo(B:Bl mg)(C:Cf K mg κ CR CC jj jk jl jm gh)(d:Em K "__init__" "Hand.__init__" (bT 19 0) ["self","name"] jj DX):aL P w K mg base cv 1 jj DX ["self","name"] (sH (κ.adr 0)):=
 d.F.ok Qj (λvs H Q E h=>G3 h) λd8 A outer s H vs Q E hr h=>⟨_,lI (A9 (pv 0) (pv 1) rfl),J2 (C.cls 0 (by decide)) C.nn h⟩
theorem HF(B:Bl mg)(C:Cf K mg κ CR CC jj jk jl jm gh)(c:Nat)(h0:0<c)(h4:c<4)(d:Em K "__init__" "Counting.__init__" (bT 20 0) ["self","wanted","parts"] gh zy):aL P w K mg base cv 1 gh zy ["self","wanted","parts"] (ot K (κ.adr c)):=
 d.F.ok Qn (λvs H Q E h=>Dx h) λd8 A outer s H vs Q E hr h=>⟨_,yi (A9 (pv 0) (pv 1) rfl) (lI (A9 (pv 0) (lL my (by rfl) B.tuple (by decide+kernel) (aP (pv 2) bQ)) rfl)),Nq (C.cls c h4) (C.nw c h0 h4) (C.np c h0 h4) h⟩
theorem Qp(B:Bl mg)(C:Cf K mg κ CR CC jj jk jl jm gh)(dC:Em K "__init__" "Counting.__init__" (bT 20 0) ["self","wanted","parts"] gh zy)(d:Em K "__init__" "All.__init__" (bT 21 0) ["self","parts"] jk DY):aL P w K mg base cv 2 jk DY ["self","parts"] (ou K (κ.adr 1) λys=>(ys.length:Nat)):=
 d.F.ok Qk (λvs H Q E h=>Dy h) λd8 A outer s H vs Q E hr h=>⟨_,lI (nP (sG C.cf (HF B C 1 (by decide) (by decide) dC) hr (by rfl) C.gC dC.b (aP (pv 0) (aP (i9 nS (by rfl) B.len PySem.boot_len (aP (pv 1) bQ)) (aP (pv 1) bQ))))),G2 Nt h⟩
theorem Qq(B:Bl mg)(C:Cf K mg κ CR CC jj jk jl jm gh)(dC:Em K "__init__" "Counting.__init__" (bT 20 0) ["self","wanted","parts"] gh zy)(d:Em K "__init__" "Any.__init__" (bT 22 0) ["self","parts"] jl DZ):aL P w K mg base cv 2 jl DZ ["self","parts"] (ou K (κ.adr 2) λ_=>1):=
 d.F.ok Ql (λvs H Q E h=>Dy h) λd8 A outer s H vs Q E hr h=>⟨_,lI (nP (sG C.cf (HF B C 2 (by decide) (by decide) dC) hr (by rfl) C.gC dC.b (aP (pv 0) (aP FC (aP (pv 1) bQ))))),G2 Nu h⟩
theorem Qr(B:Bl mg)(C:Cf K mg κ CR CC jj jk jl jm gh)(dC:Em K "__init__" "Counting.__init__" (bT 20 0) ["self","wanted","parts"] gh zy)(d:Em K "__init__" "Some.__init__" (bT 23 0) ["self","many","parts"] jm D0):aL P w K mg base cv 2 jm D0 ["self","many","parts"] (ot K (κ.adr 3)):=
 d.F.ok Qm (λvs H Q E h=>Dx h) λd8 A outer s H vs Q E hr h=>⟨_,lI (nP (sG C.cf (HF B C 3 (by decide) (by decide) dC) hr (by rfl) C.gC dC.b (aP (pv 0) (aP (pv 1) (aP (pv 2) bQ))))),Nr h⟩
end
section
variable{l:PySem.W.OpenLaw}{w:World}{K:PySem.W.Frag}{h:Heap}{mg:Str->Option Value}
theorem all_mk{fa:Addr}(hK:eL F_place)(X:K.In h)(G:h.Ns mainGlobals mg)(VU:mg "law" =some (.ref fa))
  {pR fj c_Hand c_All c_Any c_Some:Addr}
  {Qs Qt:Option Addr}{Qu:Array (Option Value)}{Qv Qw Qx Qy LB Qz:Value}{jj:Addr}
  {QA QB:Option Addr}{QC:Array (Option Value)}{QD QE QF QG LC QH:Value}{jk:Addr}
  {QI QJ:Option Addr}{QK:Array (Option Value)}{QL QM QN QO LD QP:Value}{jl:Addr}
  {QQ QR:Option Addr}{QS:Array (Option Value)}{QT QU QV QW LF QX:Value}{jm:Addr}
  {QY QZ:Option Addr}{Q0:Array (Option Value)}{Q1 Q2 Q3 Q4 LG Q5:Value}{gh:Addr}
  {zI zJ:Option Addr}{zK:Array (Option Value)}{zL zM zN zO qk zP:Value}{dq:Addr}
  {zQ zR:Option Addr}{zS:Array (Option Value)}{zT zU zV zW qm zX:Value}{dr:Addr}
  {HG HH:Option Addr}{HI:Array (Option Value)}{HJ HK HL HN zY HP:Value}{fw:Addr}
  {Fb Fc:Option Addr}{Fd:Array (Option Value)}{Fe Ff Fg Fh vA Fi:Value}{fK:Addr}
  {Kf Kg:Option Addr}{Kh:Array (Option Value)}{Ki Kj Kk Km D3 Kn:Value}{iL:Addr}
  {HQ HR:Option Addr}{HS:Array (Option Value)}{HU HV HW HY zZ HZ:Value}{iv:Addr}
  {wL wM:Option Addr}{wN:Array (Option Value)}{wO wQ wR wU oN wV:Value}{cU:Addr}
  {BY BZ:Option Addr}{B0:Array (Option Value)}{B7 B8 B9 Ca sU Cb:Value}{eE:Addr}
  {Ko Kq:Option Addr}{Kr:Array (Option Value)}{Ks Kt Ku Kv D4 Kw:Value}{iN:Addr}
  {z5 z6:Option Addr}{z7:Array (Option Value)}{z8 z9 Aa Ab qo Ac:Value}{cN:Addr}
  {mf mh:Option Addr}{mi:Array (Option Value)}{mj mn mq mr fZ mv:Value}{aC:Addr}
  {qG qH:Option Addr}{qI:Array (Option Value)}{qJ qK qL qM j5 qN:Value}{bC:Addr}
  {sV sW:Option Addr}{sX:Array (Option Value)}{sY sZ td tf kQ ti:Value}{aX:Addr}
  {Ad Ae:Option Addr}{Af:Array (Option Value)}{Ag Ah Ai Aj qp Ak:Value}{dt:Addr}
  {Al Am:Option Addr}{An:Array (Option Value)}{Ao Ap Aq Ar qq As:Value}{du:Addr}
  {wW wX:Option Addr}{wY:Array (Option Value)}{wZ w5 w6 w9 oO xa:Value}{cV:Addr}
  {Au Av:Option Addr}{Aw:Array (Option Value)}{Ax Ay Az AA qr AB:Value}{dv:Addr}
  {tj tm:Option Addr}{tq:Array (Option Value)}{tu tw tD tE kR tF:Value}{bp:Addr}
  {uC uD:Option Addr}{uE:Array (Option Value)}{uF uG uH uI mF uJ:Value}{cH:Addr}
  {AD AE:Option Addr}{AF:Array (Option Value)}{AG AH AI AJ qt AK:Value}{cO:Addr}
  {xb xc:Option Addr}{xf:Array (Option Value)}{xg xh xi xj oP xk:Value}{cW:Addr}
  {tG tH:Option Addr}{tI:Array (Option Value)}{tJ tK tL tM kT tN:Value}{cm:Addr}
  {xm xn:Option Addr}{xo:Array (Option Value)}{xp xq xr xt oQ xu:Value}{cX:Addr}
  {uK uL:Option Addr}{uM:Array (Option Value)}{uN uO uP uQ mG uR:Value}{cI:Addr}
  {qO qP:Option Addr}{qQ:Array (Option Value)}{qR qS qT qU j6 qV:Value}{bY:Addr}
  {xv xw:Option Addr}{xx:Array (Option Value)}{xy xA xB xC oR xD:Value}{cq:Addr}
  {NS H9:Option Addr}{NT:Array (Option Value)}{NU Ic Ie Ig Cc Ih:Value}{vy:Addr}
  {xE:Tok}
  (Cd:PySem.W.nsIn K mainGlobals "Rule" =some (some (.ref pR)))
  (m8:PySem.W.nsIn K mainGlobals "Counting" =some (some (.ref fj)))
  (Ce:PySem.W.nsIn K mainGlobals "Hand" =some (some (.ref c_Hand)))
  (Ii:PySem.W.nsIn K mainGlobals "All" =some (some (.ref c_All)))
  (Ij:PySem.W.nsIn K mainGlobals "Any" =some (some (.ref c_Any)))
  (Cg:PySem.W.nsIn K mainGlobals "Some" =some (some (.ref c_Some)))
  (ro:PySem.W.plainGet K c_Hand Str.empty=true)
  (rq:PySem.W.hasDictIn K c_Hand=true)
  (rA:PySem.W.plainOver K c_Hand=true)
  (rB:PySem.W.findIn K (.ref c_Hand) "__setattr__" =some (some (.builtin "object.__setattr__")))
  (xF:PySem.W.makesIn K c_Hand=true)
  (xG:PySem.W.keepIn K (.ref c_Hand)=true)
  (xH:PySem.W.findIn K (.ref c_Hand) "__class__" =some (some (.builtin "object.__class__")))
  (xI:PySem.W.mroIn K c_Hand (.type "object")=some true)
  (xJ:PySem.W.kitOne K (.ref c_Hand) (.ref pR)=some true)
  (kU:PySem.W.findIn K (.ref c_Hand) "name" =some none)
  (xK:PySem.W.plainGet K c_All Str.empty=true)
  (xM:PySem.W.hasDictIn K c_All=true)
  (xN:PySem.W.plainOver K c_All=true)
  (xO:PySem.W.findIn K (.ref c_All) "__setattr__" =some (some (.builtin "object.__setattr__")))
  (Ci:PySem.W.makesIn K c_All=true)
  (Cj:PySem.W.keepIn K (.ref c_All)=true)
  (Ck:PySem.W.findIn K (.ref c_All) "__class__" =some (some (.builtin "object.__class__")))
  (Cm:PySem.W.mroIn K c_All (.type "object")=some true)
  (Co:PySem.W.kitOne K (.ref c_All) (.ref pR)=some true)
  (jE:PySem.W.findIn K (.ref c_All) "wanted" =some none)
  (kW:PySem.W.findIn K (.ref c_All) "parts" =some none)
  (xP:PySem.W.plainGet K c_Any Str.empty=true)
  (xQ:PySem.W.hasDictIn K c_Any=true)
  (xR:PySem.W.plainOver K c_Any=true)
  (xS:PySem.W.findIn K (.ref c_Any) "__setattr__" =some (some (.builtin "object.__setattr__")))
  (Cp:PySem.W.makesIn K c_Any=true)
  (Cq:PySem.W.keepIn K (.ref c_Any)=true)
  (Cr:PySem.W.findIn K (.ref c_Any) "__class__" =some (some (.builtin "object.__class__")))
  (Cs:PySem.W.mroIn K c_Any (.type "object")=some true)
  (Ct:PySem.W.kitOne K (.ref c_Any) (.ref pR)=some true)
  (jF:PySem.W.findIn K (.ref c_Any) "wanted" =some none)
  (kX:PySem.W.findIn K (.ref c_Any) "parts" =some none)
  (rC:PySem.W.plainGet K c_Some Str.empty=true)
  (rD:PySem.W.hasDictIn K c_Some=true)
  (rE:PySem.W.plainOver K c_Some=true)
  (rF:PySem.W.findIn K (.ref c_Some) "__setattr__" =some (some (.builtin "object.__setattr__")))
  (xT:PySem.W.makesIn K c_Some=true)
  (xU:PySem.W.keepIn K (.ref c_Some)=true)
  (xV:PySem.W.findIn K (.ref c_Some) "__class__" =some (some (.builtin "object.__class__")))
  (xW:PySem.W.mroIn K c_Some (.type "object")=some true)
  (xX:PySem.W.kitOne K (.ref c_Some) (.ref pR)=some true)
  (iP:PySem.W.findIn K (.ref c_Some) "wanted" =some none)
  (jG:PySem.W.findIn K (.ref c_Some) "parts" =some none)
  (OG:PySem.W.specialIn K (.builtin "object.__class__") "__get__" =some (some (.builtin "getset_descriptor.__get__")))
  (OH:PySem.W.takesIn K (.builtin "object.__class__")=some true)
  (fiH:PySem.W.findIn K (.ref c_Hand) "__init__" =some (some (.ref jj)))
  (fnH:PySem.W.isFn K (.ref jj)=true)
  (NV:K.lookup jj=some ⟨Qv,Qs,.func (PySem.W.fnOf "__init__" "Hand.__init__" (aQ (bT 19 0)) (aM (bT 19 0)) (ag (bT 19 0)) .none Qw Qx Qy Qt LB Qz),Qu⟩)
  (NW:PySem.W.codeIn K LB "Hand.__init__" =true)
  (NX:PySem.W.keepIn K (.ref jj)=true)
  (fiA:PySem.W.findIn K (.ref c_All) "__init__" =some (some (.ref jk)))
  (fnA:PySem.W.isFn K (.ref jk)=true)
  (NY:K.lookup jk=some ⟨QD,QA,.func (PySem.W.fnOf "__init__" "All.__init__" (aQ (bT 21 0)) (aM (bT 21 0)) (ag (bT 21 0)) .none QE QF QG QB LC QH),QC⟩)
  (NZ:PySem.W.codeIn K LC "All.__init__" =true)
  (N1:PySem.W.keepIn K (.ref jk)=true)
  (fiY:PySem.W.findIn K (.ref c_Any) "__init__" =some (some (.ref jl)))
  (fnY:PySem.W.isFn K (.ref jl)=true)
  (N2:K.lookup jl=some ⟨QL,QI,.func (PySem.W.fnOf "__init__" "Any.__init__" (aQ (bT 22 0)) (aM (bT 22 0)) (ag (bT 22 0)) .none QM QN QO QJ LD QP),QK⟩)
  (N3:PySem.W.codeIn K LD "Any.__init__" =true)
  (N4:PySem.W.keepIn K (.ref jl)=true)
  (fiS:PySem.W.findIn K (.ref c_Some) "__init__" =some (some (.ref jm)))
  (fnS:PySem.W.isFn K (.ref jm)=true)
  (N5:K.lookup jm=some ⟨QT,QQ,.func (PySem.W.fnOf "__init__" "Some.__init__" (aQ (bT 23 0)) (aM (bT 23 0)) (ag (bT 23 0)) .none QU QV QW QR LF QX),QS⟩)
  (N6:PySem.W.codeIn K LF "Some.__init__" =true)
  (N7:PySem.W.keepIn K (.ref jm)=true)
  (fiC:PySem.W.findIn K (.ref fj) "__init__" =some (some (.ref gh)))
  (fnC:PySem.W.isFn K (.ref gh)=true)
  (N8:K.lookup gh=some ⟨Q1,QY,.func (PySem.W.fnOf "__init__" "Counting.__init__" (aQ (bT 20 0)) (aM (bT 20 0)) (ag (bT 20 0)) .none Q2 Q3 Q4 QZ LG Q5),Q0⟩)
  (N9:PySem.W.codeIn K LG "Counting.__init__" =true)
  (Kx:PySem.W.keepIn K (.ref gh)=true)
  (rdC:PySem.W.readsIn K fj (.type "type")=true)
  (fcC:PySem.W.findCls K (.ref fj) (.type "type") "__init__" =some (.val (.ref gh)))
  (gaC:PySem.W.specialIn K (.ref fj) "__getattribute__" =some (some (.builtin "type.__getattribute__")))
  (hdC:PySem.W.handedIn (.ref gh)=true)
  (m9:PySem.W.nsIn K mainGlobals "has_hand" =some (some (.ref dq)))
  (nc:K.lookup dq=some ⟨zL,zI,.func (PySem.W.fnOf "has_hand" "has_hand" (aQ (top 6)) (aM (top 6)) (ag (top 6)) .none zM zN zO zJ qk zP),zK⟩)
  (jH:PySem.W.codeIn K qk "has_hand" =true)
  (ng:PySem.W.keepIn K (.ref dq)=true)
  (nh:PySem.W.nsIn K mainGlobals "hands_of" =some (some (.ref dr)))
  (ni:K.lookup dr=some ⟨zT,zQ,.func (PySem.W.fnOf "hands_of" "hands_of" (aQ (top 7)) (aM (top 7)) (ag (top 7)) .none zU zV zW zR qm zX),zS⟩)
  (jI:PySem.W.codeIn K qm "hands_of" =true)
  (nj:PySem.W.keepIn K (.ref dr)=true)
  (xY:PySem.W.nsIn K mainGlobals "place" =some (some (.ref fw)))
  (xZ:K.lookup fw=some ⟨HJ,HG,.func (PySem.W.fnOf "place" "place" (aQ (top 9)) (aM (top 9)) (ag (top 9)) .none HK HL HN HH zY HP),HI⟩)
  (pS:PySem.W.codeIn K zY "place" =true)
  (x4:PySem.W.keepIn K (.ref fw)=true)
  (tO:PySem.W.nsIn K mainGlobals "within" =some (some (.ref fK)))
  (tP:K.lookup fK=some ⟨Fe,Fb,.func (PySem.W.fnOf "within" "within" (aQ (top 10)) (aM (top 10)) (ag (top 10)) .none Ff Fg Fh Fc vA Fi),Fd⟩)
  (nq:PySem.W.codeIn K vA "within" =true)
  (tQ:PySem.W.keepIn K (.ref fK)=true)
  (Cu:PySem.W.nsIn K mainGlobals "lets" =some (some (.ref iL)))
  (Cv:K.lookup iL=some ⟨Ki,Kf,.func (PySem.W.fnOf "lets" "lets" (aQ (top 13)) (aM (top 13)) (ag (top 13)) .none Kj Kk Km Kg D3 Kn),Kh⟩)
  (tR:PySem.W.codeIn K D3 "lets" =true)
  (Cw:PySem.W.keepIn K (.ref iL)=true)
  (x5:PySem.W.nsIn K mainGlobals "least" =some (some (.ref iv)))
  (x6:K.lookup iv=some ⟨HU,HQ,.func (PySem.W.fnOf "least" "least" (aQ (top 14)) (aM (top 14)) (ag (top 14)) .none HV HW HY HR zZ HZ),HS⟩)
  (pT:PySem.W.codeIn K zZ "least" =true)
  (x8:PySem.W.keepIn K (.ref iv)=true)
  (kZ:PySem.W.nsIn K mainGlobals "groups_of" =some (some (.ref cU)))
  (k7:K.lookup cU=some ⟨wO,wL,.func (PySem.W.fnOf "groups_of" "groups_of" (aQ (top 11)) (aM (top 11)) (ag (top 11)) .none wQ wR wU wM oN wV),wN⟩)
  (iQ:PySem.W.codeIn K oN "groups_of" =true)
  (k8:PySem.W.keepIn K (.ref cU)=true)
  (pU:PySem.W.nsIn K mainGlobals "letting" =some (some (.ref eE)))
  (pV:K.lookup eE=some ⟨B7,BY,.func (PySem.W.fnOf "letting" "letting" (aQ (top 15)) (aM (top 15)) (ag (top 15)) .none B8 B9 Ca BZ sU Cb),B0⟩)
  (k9:PySem.W.codeIn K sU "letting" =true)
  (pW:PySem.W.keepIn K (.ref eE)=true)
  (Cy:PySem.W.nsIn K mainGlobals "some" =some (some (.ref iN)))
  (Cz:K.lookup iN=some ⟨Ks,Ko,.func (PySem.W.fnOf "some" "some" (aQ (top 16)) (aM (top 16)) (ag (top 16)) .none Kt Ku Kv Kq D4 Kw),Kr⟩)
  (tS:PySem.W.codeIn K D4 "some" =true)
  (CA:PySem.W.keepIn K (.ref iN)=true)
  (nr:PySem.W.nsIn K mainGlobals "group_of" =some (some (.ref cN)))
  (nu:K.lookup cN=some ⟨z8,z5,.func (PySem.W.fnOf "group_of" "group_of" (aQ (top 8)) (aM (top 8)) (ag (top 8)) .none z9 Aa Ab z6 qo Ac),z7⟩)
  (jJ:PySem.W.codeIn K qo "group_of" =true)
  (nv:PySem.W.keepIn K (.ref cN)=true)
  (iR:PySem.W.findIn K (.ref c_All) "ladder" =some (some (.ref aC)))
  (iS:PySem.W.findIn K (.ref c_Any) "ladder" =some (some (.ref aC)))
  (gX:PySem.W.findIn K (.ref c_Some) "ladder" =some (some (.ref aC)))
  (cc:PySem.W.isFn K (.ref aC)=true)
  (er:K.lookup aC=some ⟨mj,mf,.func (PySem.W.fnOf "ladder" "Counting.ladder" (aQ (bT 20 2)) (aM (bT 20 2)) (ag (bT 20 2)) .none mn mq mr mh fZ mv),mi⟩)
  (dE:PySem.W.codeIn K fZ "Counting.ladder" =true)
  (bU:PySem.W.keepIn K (.ref aC)=true)
  (gZ:PySem.W.findIn K (.ref c_Hand) "ladder" =some (some (.ref bC)))
  (fP:PySem.W.isFn K (.ref bC)=true)
  (g7:K.lookup bC=some ⟨qJ,qG,.func (PySem.W.fnOf "ladder" "Hand.ladder" (aQ (bT 19 4)) (aM (bT 19 4)) (ag (bT 19 4)) .none qK qL qM qH j5 qN),qI⟩)
  (fm:PySem.W.codeIn K j5 "Hand.ladder" =true)
  (eS:PySem.W.keepIn K (.ref bC)=true)
  (iT:PySem.W.nsIn K mainGlobals "_law_cell_at" =some (some (.ref aX)))
  (iU:K.lookup aX=some ⟨sY,sV,.func (PySem.W.fnOf "_law_cell_at" "_law_cell_at" (aQ (top 25)) (aM (top 25)) (ag (top 25)) .none sZ td tf sW kQ ti),sX⟩)
  (fQ:PySem.W.codeIn K kQ "_law_cell_at" =true)
  (iV:PySem.W.keepIn K (.ref aX)=true)
  (ny:PySem.W.nsIn K mainGlobals "_law_name" =some (some (.ref dt)))
  (nA:K.lookup dt=some ⟨Ag,Ad,.func (PySem.W.fnOf "_law_name" "_law_name" (aQ (top 27)) (aM (top 27)) (ag (top 27)) .none Ah Ai Aj Ae qp Ak),Af⟩)
  (jK:PySem.W.codeIn K qp "_law_name" =true)
  (nB:PySem.W.keepIn K (.ref dt)=true)
  (nC:PySem.W.nsIn K mainGlobals "_law_base" =some (some (.ref du)))
  (nD:K.lookup du=some ⟨Ao,Al,.func (PySem.W.fnOf "_law_base" "_law_base" (aQ (top 26)) (aM (top 26)) (ag (top 26)) .none Ap Aq Ar Am qq As),An⟩)
  (jL:PySem.W.codeIn K qq "_law_base" =true)
  (nE:PySem.W.keepIn K (.ref du)=true)
  (lg:PySem.W.nsIn K mainGlobals "_law_names" =some (some (.ref cV)))
  (lh:K.lookup cV=some ⟨wZ,wW,.func (PySem.W.fnOf "_law_names" "_law_names" (aQ (top 28)) (aM (top 28)) (ag (top 28)) .none w5 w6 w9 wX oO xa),wY⟩)
  (iW:PySem.W.codeIn K oO "_law_names" =true)
  (lj:PySem.W.keepIn K (.ref cV)=true)
  (nF:PySem.W.nsIn K mainGlobals "_law_roll" =some (some (.ref dv)))
  (nG:K.lookup dv=some ⟨Ax,Au,.func (PySem.W.fnOf "_law_roll" "_law_roll" (aQ (top 29)) (aM (top 29)) (ag (top 29)) .none Ay Az AA Av qr AB),Aw⟩)
  (jM:PySem.W.codeIn K qr "_law_roll" =true)
  (nH:PySem.W.keepIn K (.ref dv)=true)
  (iX:PySem.W.nsIn K mainGlobals "_law_counted" =some (some (.ref bp)))
  (iY:K.lookup bp=some ⟨tu,tj,.func (PySem.W.fnOf "_law_counted" "_law_counted" (aQ (top 31)) (aM (top 31)) (ag (top 31)) .none tw tD tE tm kR tF),tq⟩)
  (fR:PySem.W.codeIn K kR "_law_counted" =true)
  (iZ:PySem.W.keepIn K (.ref bp)=true)
  (jN:PySem.W.nsIn K mainGlobals "_law_folded" =some (some (.ref cH)))
  (jO:K.lookup cH=some ⟨uF,uC,.func (PySem.W.fnOf "_law_folded" "_law_folded" (aQ (top 32)) (aM (top 32)) (ag (top 32)) .none uG uH uI uD mF uJ),uE⟩)
  (g8:PySem.W.codeIn K mF "_law_folded" =true)
  (jP:PySem.W.keepIn K (.ref cH)=true)
  (nI:PySem.W.nsIn K mainGlobals "_law_hand" =some (some (.ref cO)))
  (nJ:K.lookup cO=some ⟨AG,AD,.func (PySem.W.fnOf "_law_hand" "_law_hand" (aQ (top 30)) (aM (top 30)) (ag (top 30)) .none AH AI AJ AE qt AK),AF⟩)
  (jQ:PySem.W.codeIn K qt "_law_hand" =true)
  (nK:PySem.W.keepIn K (.ref cO)=true)
  (ll:PySem.W.nsIn K mainGlobals "_law_built" =some (some (.ref cW)))
  (lp:K.lookup cW=some ⟨xg,xb,.func (PySem.W.fnOf "_law_built" "_law_built" (aQ (top 33)) (aM (top 33)) (ag (top 33)) .none xh xi xj xc oP xk),xf⟩)
  (i0:PySem.W.codeIn K oP "_law_built" =true)
  (lq:PySem.W.keepIn K (.ref cW)=true)
  (i3:PySem.W.nsIn K mainGlobals "_law_doubled" =some (some (.ref cm)))
  (i4:K.lookup cm=some ⟨tJ,tG,.func (PySem.W.fnOf "_law_doubled" "_law_doubled" (aQ (top 34)) (aM (top 34)) (ag (top 34)) .none tK tL tM tH kT tN),tI⟩)
  (fT:PySem.W.codeIn K kT "_law_doubled" =true)
  (i5:PySem.W.keepIn K (.ref cm)=true)
  (lr:PySem.W.nsIn K mainGlobals "_law_whole" =some (some (.ref cX)))
  (lu:K.lookup cX=some ⟨xp,xm,.func (PySem.W.fnOf "_law_whole" "_law_whole" (aQ (top 36)) (aM (top 36)) (ag (top 36)) .none xq xr xt xn oQ xu),xo⟩)
  (i6:PySem.W.codeIn K oQ "_law_whole" =true)
  (lz:PySem.W.keepIn K (.ref cX)=true)
  (jR:PySem.W.nsIn K mainGlobals "_law_before" =some (some (.ref cI)))
  (jS:K.lookup cI=some ⟨uN,uK,.func (PySem.W.fnOf "_law_before" "_law_before" (aQ (top 37)) (aM (top 37)) (ag (top 37)) .none uO uP uQ uL mG uR),uM⟩)
  (g9:PySem.W.codeIn K mG "_law_before" =true)
  (jT:PySem.W.keepIn K (.ref cI)=true)
  (hU:PySem.W.nsIn K mainGlobals "_law_in_order" =some (some (.ref bY)))
  (hV:K.lookup bY=some ⟨qR,qO,.func (PySem.W.fnOf "_law_in_order" "_law_in_order" (aQ (top 38)) (aM (top 38)) (ag (top 38)) .none qS qT qU qP j6 qV),qQ⟩)
  (fq:PySem.W.codeIn K j6 "_law_in_order" =true)
  (ic:PySem.W.keepIn K (.ref bY)=true)
  (lC:PySem.W.nsIn K mainGlobals "_law_holds" =some (some (.ref cq)))
  (lD:K.lookup cq=some ⟨xy,xv,.func (PySem.W.fnOf "_law_holds" "_law_holds" (aQ (top 35)) (aM (top 35)) (ag (top 35)) .none xA xB xC xw oR xD),xx⟩)
  (i7:PySem.W.codeIn K oR "_law_holds" =true)
  (lE:PySem.W.keepIn K (.ref cq)=true)
  (D5:PySem.W.nsIn K mainGlobals "law" =some (some (.ref vy)))
  (Ik:K.lookup vy=some ⟨NU,NS,.func (PySem.W.fnOf "law" "law" (aQ (top 39)) (aM (top 39)) (ag (top 39)) .none Ic Ie Ig H9 Cc Ih),NT⟩)
  (x9:PySem.W.codeIn K Cc "law" =true)
  (Il:PySem.W.keepIn K (.ref vy)=true)
  (Im:PySem.W.nsIn K mainGlobals "any" =some none)
  (CB:PySem.W.nsIn K mainGlobals "bool" =some none)
  (Ip:PySem.W.nsIn K mainGlobals "int" =some none)
  (jU:PySem.W.nsIn K mainGlobals "isinstance" =some none)
  (Iq:PySem.W.nsIn K mainGlobals "len" =some none)
  (CD:PySem.W.nsIn K mainGlobals "list" =some none)
  (Ir:PySem.W.nsIn K mainGlobals "max" =some none)
  (yb:PySem.W.nsIn K mainGlobals "range" =some none)
  (tT:PySem.W.nsIn K mainGlobals "sorted" =some none)
  (Iu:PySem.W.nsIn K mainGlobals "str" =some none)
  (yc:PySem.W.nsIn K mainGlobals "tuple" =some none)
  (Iv:PySem.W.nsIn K mainGlobals "zip" =some none)
  (jV:PySem.W.nsIn K mainGlobals "MOST_HANDS" =some (some (.int 6 xE)))
  :∃(κ:Kl) (fd:FuncData),(∀(s:Shared) (v:Value),BindsTo s fd ⟨[v],[]⟩ [("_law_script",v)])/\∀base:Heap,K.In base->base.Ns mainGlobals mg->aL l.prog w K mg base cv 33 fa fd ["_law_script"] (cT K κ false DV):=by
 have e:=VU.symm.trans (PySem.W.mg_of X G D5)
 cases e
 have qu:=bB (st:=(top 6)) nc jH ng
 have dw:Ed K mg "has_hand" (top 6) ["group","hand"] _ _:=⟨qu,qu.binds (ps:=["group","hand"]) λ_ _ _ _ _ _ us hl=>by obtain⟨a0,a1,rfl⟩:=ky hl;rfl,PySem.W.mg_of X G m9⟩
 have qv:=bB (st:=(top 7)) ni jI nj
 have dz:Ed K mg "hands_of" (top 7) ["group"] _ _:=⟨qv,qv.binds (ps:=["group"]) λ_ _ _ _ _ _ us hl=>by obtain⟨a0,rfl⟩:=zf hl;rfl,PySem.W.mg_of X G nh⟩
 have AL:=bB (st:=(top 9)) xZ pS x4
 have eR:Ed K mg "place" (top 9) ["group"] _ _:=⟨AL,AL.binds (ps:=["group"]) λ_ _ _ _ _ _ us hl=>by obtain⟨a0,rfl⟩:=zf hl;rfl,PySem.W.mg_of X G xY⟩
 have vB:=bB (st:=(top 10)) tP nq tQ
 have fL:Ed K mg "within" (top 10) ["one","two"] _ _:=⟨vB,vB.binds (ps:=["one","two"]) λ_ _ _ _ _ _ us hl=>by obtain⟨a0,a1,rfl⟩:=ky hl;rfl,PySem.W.mg_of X G tO⟩
 have D6:=bB (st:=(top 13)) Cv tR Cw
 have eZ:Ed K mg "lets" (top 13) ["ladder","group"] _ _:=⟨D6,D6.binds (ps:=["ladder","group"]) λ_ _ _ _ _ _ us hl=>by obtain⟨a0,a1,rfl⟩:=ky hl;rfl,PySem.W.mg_of X G Cu⟩
 have AM:=bB (st:=(top 14)) x6 pT x8
 have iC:Ed K mg "least" (top 14) ["groups"] _ _:=⟨AM,AM.binds (ps:=["groups"]) λ_ _ _ _ _ _ us hl=>by obtain⟨a0,rfl⟩:=zf hl;rfl,PySem.W.mg_of X G x5⟩
 have oS:=bB (st:=(top 11)) k7 iQ k8
 have cY:Ed K mg "groups_of" (top 11) ["count"] _ _:=⟨oS,oS.binds (ps:=["count"]) λ_ _ _ _ _ _ us hl=>by obtain⟨a0,rfl⟩:=zf hl;rfl,PySem.W.mg_of X G kZ⟩
 have tU:=bB (st:=(top 15)) pV k9 pW
 have eH:Ed K mg "letting" (top 15) ["ladders","group"] _ _:=⟨tU,tU.binds (ps:=["ladders","group"]) λ_ _ _ _ _ _ us hl=>by obtain⟨a0,a1,rfl⟩:=ky hl;rfl,PySem.W.mg_of X G pU⟩
 have D7:=bB (st:=(top 16)) Cz tS CA
 have fe:Ed K mg "some" (top 16) ["many","ladders"] _ _:=⟨D7,D7.binds (ps:=["many","ladders"]) λ_ _ _ _ _ _ us hl=>by obtain⟨a0,a1,rfl⟩:=ky hl;rfl,PySem.W.mg_of X G Cy⟩
 have qw:=bB (st:=(top 8)) nu jJ nv
 have cA:Ed K mg "group_of" (top 8) ["roll","names"] _ _:=⟨qw,qw.binds (ps:=["roll","names"]) λ_ _ _ _ _ _ us hl=>by obtain⟨a0,a1,rfl⟩:=ky hl;rfl,PySem.W.mg_of X G nr⟩
 have f6:=bB (st:=(bT 20 2)) er dE bU
 have aO:Em K "ladder" "Counting.ladder" (bT 20 2) ["self","roll"] _ _:=⟨f6,f6.binds (ps:=["self","roll"]) λ_ _ _ _ _ _ us hl=>by obtain⟨a0,a1,rfl⟩:=ky hl;rfl⟩
 have j7:=bB (st:=(bT 19 4)) g7 fm eS
 have cB:Em K "ladder" "Hand.ladder" (bT 19 4) ["self","roll"] _ _:=⟨j7,j7.binds (ps:=["self","roll"]) λ_ _ _ _ _ _ us hl=>by obtain⟨a0,a1,rfl⟩:=ky hl;rfl⟩
 have lF:=bB (st:=(top 25)) iU fQ iV
 have au:Ed K mg "_law_cell_at" (top 25) ["_law_script","_law_k"] _ _:=⟨lF,lF.binds (ps:=["_law_script","_law_k"]) λ_ _ _ _ _ _ us hl=>by obtain⟨a0,a1,rfl⟩:=ky hl;rfl,PySem.W.mg_of X G iT⟩
 have qx:=bB (st:=(top 27)) nA jK nB
 have dA:Ed K mg "_law_name" (top 27) ["_law_base_here","_law_place","_law_size","_law_k"] _ _:=⟨qx,qx.binds (ps:=["_law_base_here","_law_place","_law_size","_law_k"]) λ_ _ _ _ _ _ us hl=>by obtain⟨a0,a1,a2,a3,rfl⟩:=Qh hl;rfl,PySem.W.mg_of X G ny⟩
 have qy:=bB (st:=(top 26)) nD jL nE
 have dB:Ed K mg "_law_base" (top 26) ["_law_cell","_law_size"] _ _:=⟨qy,qy.binds (ps:=["_law_cell","_law_size"]) λ_ _ _ _ _ _ us hl=>by obtain⟨a0,a1,rfl⟩:=ky hl;rfl,PySem.W.mg_of X G nC⟩
 have oT:=bB (st:=(top 28)) lh iW lj
 have cZ:Ed K mg "_law_names" (top 28) ["_law_script","_law_at","_law_many"] _ _:=⟨oT,oT.binds (ps:=["_law_script","_law_at","_law_many"]) λ_ _ _ _ _ _ us hl=>by obtain⟨a0,a1,a2,rfl⟩:=Hc hl;rfl,PySem.W.mg_of X G lg⟩
 have qz:=bB (st:=(top 29)) nG jM nH
 have dD:Ed K mg "_law_roll" (top 29) ["_law_script"] _ _:=⟨qz,qz.binds (ps:=["_law_script"]) λ_ _ _ _ _ _ us hl=>by obtain⟨a0,rfl⟩:=zf hl;rfl,PySem.W.mg_of X G nF⟩
 have lG:=bB (st:=(top 31)) iY fR iZ
 have aK:Ed K mg "_law_counted" (top 31) ["_law_kind","_law_many","_law_items"] _ _:=⟨lG,lG.binds (ps:=["_law_kind","_law_many","_law_items"]) λ_ _ _ _ _ _ us hl=>by obtain⟨a0,a1,a2,rfl⟩:=Hc hl;rfl,PySem.W.mg_of X G iX⟩
 have mH:=bB (st:=(top 32)) jO g8 jP
 have cJ:Ed K mg "_law_folded" (top 32) ["_law_pile","_law_cell"] _ _:=⟨mH,mH.binds (ps:=["_law_pile","_law_cell"]) λ_ _ _ _ _ _ us hl=>by obtain⟨a0,a1,rfl⟩:=ky hl;rfl,PySem.W.mg_of X G jN⟩
 have qA:=bB (st:=(top 30)) nJ jQ nK
 have bz:Ed K mg "_law_hand" (top 30) ["_law_name_here"] _ _:=⟨qA,qA.binds (ps:=["_law_name_here"]) λ_ _ _ _ _ _ us hl=>by obtain⟨a0,rfl⟩:=zf hl;rfl,PySem.W.mg_of X G nI⟩
 have oU:=bB (st:=(top 33)) lp i0 lq
 have b5:Ed K mg "_law_built" (top 33) ["_law_script","_law_at","_law_size","_law_roll_here"] _ _:=⟨oU,oU.binds (ps:=["_law_script","_law_at","_law_size","_law_roll_here"]) λ_ _ _ _ _ _ us hl=>by obtain⟨a0,a1,a2,a3,rfl⟩:=Qh hl;rfl,PySem.W.mg_of X G ll⟩
 have lH:=bB (st:=(top 34)) i4 fT i5
 have cu:Ed K mg "_law_doubled" (top 34) ["_law_script","_law_roll_here"] _ _:=⟨lH,lH.binds (ps:=["_law_script","_law_roll_here"]) λ_ _ _ _ _ _ us hl=>by obtain⟨a0,a1,rfl⟩:=ky hl;rfl,PySem.W.mg_of X G i3⟩
 have oV:=bB (st:=(top 36)) lu i6 lz
 have c5:Ed K mg "_law_whole" (top 36) ["_law_found"] _ _:=⟨oV,oV.binds (ps:=["_law_found"]) λ_ _ _ _ _ _ us hl=>by obtain⟨a0,rfl⟩:=zf hl;rfl,PySem.W.mg_of X G lr⟩
 have mI:=bB (st:=(top 37)) jS g9 jT
 have cK:Ed K mg "_law_before" (top 37) ["_law_one","_law_two"] _ _:=⟨mI,mI.binds (ps:=["_law_one","_law_two"]) λ_ _ _ _ _ _ us hl=>by obtain⟨a0,a1,rfl⟩:=ky hl;rfl,PySem.W.mg_of X G jR⟩
 have j8:=bB (st:=(top 38)) hV fq ic
 have b6:Ed K mg "_law_in_order" (top 38) ["_law_told","_law_many"] _ _:=⟨j8,j8.binds (ps:=["_law_told","_law_many"]) λ_ _ _ _ _ _ us hl=>by obtain⟨a0,a1,rfl⟩:=ky hl;rfl,PySem.W.mg_of X G hU⟩
 have oW:=bB (st:=(top 35)) lD i7 lE
 have bA:Ed K mg "_law_holds" (top 35) ["_law_shape","_law_roll_here","_law_group"] _ _:=⟨oW,oW.binds (ps:=["_law_shape","_law_roll_here","_law_group"]) λ_ _ _ _ _ _ us hl=>by obtain⟨a0,a1,a2,rfl⟩:=Hc hl;rfl,PySem.W.mg_of X G lC⟩
 have Iw:=bB (st:=(top 39)) Ik x9 Il
 have HE:Ed K mg "law" (top 39) ["_law_script"] _ _:=⟨Iw,Iw.binds (ps:=["_law_script"]) λ_ _ _ _ _ _ us hl=>by obtain⟨a0,rfl⟩:=zf hl;rfl,PySem.W.mg_of X G D5⟩
 have LH:=bB (st:=(bT 19 0)) NV NW NX
 have Q6:Em K "__init__" "Hand.__init__" (bT 19 0) ["self","name"] _ _:=⟨LH,LH.binds (ps:=["self","name"]) λ_ _ _ _ _ _ us hl=>by obtain⟨a0,a1,rfl⟩:=ky hl;rfl⟩
 have LI:=bB (st:=(bT 21 0)) NY NZ N1
 have Q7:Em K "__init__" "All.__init__" (bT 21 0) ["self","parts"] _ _:=⟨LI,LI.binds (ps:=["self","parts"]) λ_ _ _ _ _ _ us hl=>by obtain⟨a0,a1,rfl⟩:=ky hl;rfl⟩
 have LJ:=bB (st:=(bT 22 0)) N2 N3 N4
 have Q8:Em K "__init__" "Any.__init__" (bT 22 0) ["self","parts"] _ _:=⟨LJ,LJ.binds (ps:=["self","parts"]) λ_ _ _ _ _ _ us hl=>by obtain⟨a0,a1,rfl⟩:=ky hl;rfl⟩
 have LK:=bB (st:=(bT 23 0)) N5 N6 N7
 have Q9:Em K "__init__" "Some.__init__" (bT 23 0) ["self","many","parts"] _ _:=⟨LK,LK.binds (ps:=["self","many","parts"]) λ_ _ _ _ _ _ us hl=>by obtain⟨a0,a1,a2,rfl⟩:=Hc hl;rfl⟩
 have LL:=bB (st:=(bT 20 0)) N8 N9 Kx
 have Oa:Em K "__init__" "Counting.__init__" (bT 20 0) ["self","wanted","parts"] _ _:=⟨LL,LL.binds (ps:=["self","wanted","parts"]) λ_ _ _ _ _ _ us hl=>by obtain⟨a0,a1,a2,rfl⟩:=Hc hl;rfl⟩
 have B:Bl mg:=⟨PySem.W.mg_none_of X G Im,PySem.W.mg_none_of X G CB,PySem.W.mg_none_of X G Ip,PySem.W.mg_none_of X G jU,PySem.W.mg_none_of X G Iq,PySem.W.mg_none_of X G CD,PySem.W.mg_none_of X G Ir,PySem.W.mg_none_of X G yb,PySem.W.mg_none_of X G tT,PySem.W.mg_none_of X G Iu,PySem.W.mg_none_of X G yc,PySem.W.mg_none_of X G Iv,⟨_,PySem.W.mg_of X G jV⟩⟩
 let κ:Kl:=⟨λc=>match c with|0=>c_Hand|1=>c_All|2=>c_Any|_=>c_Some,vg⟩
 have C:Cf K mg κ pR fj jj jk jl jm gh:=⟨rfl,λc hc=>match c,hc with|0,_=>⟨ro,rq,rA,rB⟩|1,_=>⟨xK,xM,xN,xO⟩|2,_=>⟨xP,xQ,xR,xS⟩|3,_=>⟨rC,rD,rE,rF⟩|_+4,hc=>absurd hc (by omega),kU,λc h0 hc=>match c,h0,hc with|0,h0,_=>absurd h0 (by omega)|1,_,_=>jE|2,_,_=>jF|3,_,_=>iP|_+4,_,hc=>absurd hc (by omega),λc h0 hc=>match c,h0,hc with|0,h0,_=>absurd h0 (by omega)|1,_,_=>kW|2,_,_=>kX|3,_,_=>jG|_+4,_,hc=>absurd hc (by omega),⟨xF,fiH,fnH,xG⟩,⟨Ci,fiA,fnA,Cj⟩,⟨Cp,fiY,fnY,Cq⟩,⟨xT,fiS,fnS,xU⟩,PySem.W.mg_of X G Ce,PySem.W.mg_of X G Ii,PySem.W.mg_of X G Ij,PySem.W.mg_of X G Cg,⟨⟨_,rdC,fcC⟩,gaC,hdC,Kx⟩,PySem.W.mg_of X G m8,λc hc=>match c,hc with|0,_=>⟨⟨ro,rq,rA,rB⟩,xH,OG,OH,xI,xJ⟩|1,_=>⟨⟨xK,xM,xN,xO⟩,Ck,OG,OH,Cm,Co⟩|2,_=>⟨⟨xP,xQ,xR,xS⟩,Cr,OG,OH,Cs,Ct⟩|3,_=>⟨⟨rC,rD,rE,rF⟩,xV,OG,OH,xW,xX⟩|_+4,hc=>absurd hc (by omega),PySem.W.mg_of X G Cd⟩
 refine⟨κ,PySem.W.fnOf "law" "law" (aQ (top 39)) (aM (top 39)) (ag (top 39)) .none Ic Ie Ig H9 Cc Ih,λs v=>.of_eq rfl,λbase _ _=>?_⟩
 have NP:=Qo (P:=l.prog) (w:=w) (base:=base) B C Q6
 have NQ:=Q6.b
 have NJ:=Qp (P:=l.prog) (w:=w) (base:=base) B C Oa Q7
 have NK:=Q7.b
 have NL:=Qq (P:=l.prog) (w:=w) (base:=base) B C Oa Q8
 have NM:=Q8.b
 have NN:=Qr (P:=l.prog) (w:=w) (base:=base) B C Oa Q9
 have NO:=Q9.b
 have mV:=zz (P:=l.prog) (w:=w) (base:=base) (κ:=κ) B dw
 have mW:=zA (P:=l.prog) (w:=w) (base:=base) (κ:=κ) B dz dw mV
 have l7:=HB (P:=l.prog) (w:=w) (base:=base) (κ:=κ) B eR dz mW
 have sO:=E9 (P:=l.prog) (w:=w) (base:=base) (κ:=κ) B fL
 have pP:=Kd (P:=l.prog) (w:=w) (base:=base) (κ:=κ) B eZ fL sO
 have wG:=HC (P:=l.prog) (w:=w) (base:=base) (κ:=κ) B iC hK eR l7 eZ pP
 have kG:=wF (P:=l.prog) (w:=w) (base:=base) (κ:=κ) B cY hK eR l7
 have pQ:=BX (P:=l.prog) (w:=w) (base:=base) (κ:=κ) B eH eZ pP
 have kJ:=Ke (P:=l.prog) (w:=w) (base:=base) (κ:=κ) B fe iC wG cY kG eH pQ
 have fg:=zD (P:=l.prog) (w:=w) (base:=base) (κ:=κ) B cA
 have fD:Meth K (κ.adr 0) "ladder" bC:=⟨gZ,fP,eS⟩
 have gq:Meth K (κ.adr 1) "ladder" aC:=⟨iR,cc,bU⟩
 have gr:Meth K (κ.adr 2) "ladder" aC:=⟨iS,cc,bU⟩
 have fE:Meth K (κ.adr 3) "ladder" aC:=⟨gX,cc,bU⟩
 have d0:jx l.prog w K mg base κ true "ladder" 32 _ T_ladder:=sT (P:=l.prog) (w:=w) (base:=base) B C aO cB fD gq gr fE fe kJ cA fg 24
 have aY:=sQ (P:=l.prog) (w:=w) (base:=base) (κ:=κ) B au
 have mX:=zE (P:=l.prog) (w:=w) (base:=base) (κ:=κ) B dA
 have mY:=zF (P:=l.prog) (w:=w) (base:=base) (κ:=κ) B dB
 have kM:=wH (P:=l.prog) (w:=w) (base:=base) (κ:=κ) B cZ au aY dA mX dB mY
 have mZ:=zG (P:=l.prog) (w:=w) (base:=base) (κ:=κ) B dD cZ kM au aY
 have bV:=sR (P:=l.prog) (w:=w) (base:=base) (κ:=κ) B aK C NJ NK NL NM NN NO
 have jC:=uA (P:=l.prog) (w:=w) (base:=base) (κ:=κ) B cJ aK bV
 have en:=zH (P:=l.prog) (w:=w) (base:=base) (κ:=κ) B bz C NP NQ
 have iD:=wI (P:=l.prog) (w:=w) (base:=base) (κ:=κ) B b5 cJ jC bz en au aY aK bV
 have iO:=sS (P:=l.prog) (w:=w) (base:=base) (κ:=κ) B cu au aY b5 iD aK bV bz en
 have kP:=wJ (P:=l.prog) (w:=w) (base:=base) (κ:=κ) B c5
 have jD:=uB (P:=l.prog) (w:=w) (base:=base) (κ:=κ) B cK
 have gW:=qF (P:=l.prog) (w:=w) (base:=base) (κ:=κ) B b6 c5 kP cK jD
 have fM:=wK (P:=l.prog) (w:=w) (base:=base) (κ:=κ) B bA
 have Ra:=NR (P:=l.prog) (w:=w) (base:=base) (κ:=κ) B HE C d0 dD mZ cu iO b6 gW bA fM
 exact Ra
end
theorem oX{i:Nat}{body:aU}{x:PV}{xs:List PV}{ρ ρ':c8}(h:body (ρ.set i (.sh x))=some (.nx ρ')):forL (a9 i) body (x::xs) ρ=forL (a9 i) body xs ρ':=by
 rw[rf]
 show(body (ρ.set i (.sh x))).bind _=_
 rw[h]
 rfl
theorem Fj(s0 s1:Slot){m:Int}(h0:0<=m)(h1:m<2147483647){x:Str}(hx:x.length<=100)(k:Nat):∃m' x',0<=m'/\m'<2147483647/\x'.length=x.length+1/\jz [s0,s1,.sh (.int m),.sh (.str x),.sh (.int k)]=some (.nx [s0,s1,.sh (.int m'),.sh (.str x'),.sh (.int k)]):=by
 have e1:ae cw (ae b9 (ae b9 (ae b9 (ae pB (dV 2) (dV 2)) (ae pB (dC (.int 48271)) (dV 2))) (dV 4)) (dC (.int 1))) (dC (.int 2147483647)) [s0,s1,.sh (.int m),.sh (.str x),.sh (.int k)]=some (.int ((m*m+48271*m+k+1) % 2147483647)):=by
  refine(ai (x:=.int (m*m+48271*m+k+1)) (y:=.int 2147483647) ?_ rfl).trans (kC _ (by decide))
  refine(ai (x:=.int (m*m+48271*m+k)) (y:=.int 1) ?_ rfl).trans rfl
  refine(ai (x:=.int (m*m+48271*m)) (y:=.int k) ?_ rfl).trans rfl
  refine(ai ((ai (x:=.int m) (y:=.int m) rfl rfl).trans (gB (by omega) (by omega))) ((ai (x:=.int 48271) (y:=.int m) rfl rfl).trans (gB (by omega) (by omega)))).trans rfl
 have b1:=Int.emod_nonneg (m*m+48271*m+k+1) (show(2147483647:Int)≠0 by decide)
 have b2:=Int.emod_lt_of_pos (m*m+48271*m+k+1) (show(0:Int)<2147483647 by decide)
 generalize(m*m+48271*m+k+1) % 2147483647=m' at e1 b1 b2
 have b3:=mod_lt m' (n:=26) (by decide)
 obtain⟨y,hy,ey⟩:=DR b3
 refine⟨m',x++y,b1,b2,by rw[d6,hy],(ar (aJ e1)).trans (aJ ?_)⟩
 refine(ai (x:=.str x) (y:=.str y) rfl ?_).trans (eP _ _ (by omega))
 exact(ai (x:=.str qD) rfl ((ai (x:=.int m') (y:=.int ((26:Nat):Int)) rfl rfl).trans (cS _ (by decide)))).trans ey
theorem AN(s0 s1:Slot):∀(ks:List Nat) (m:Int) (x:Str) (s4:Slot),0<=m->m<2147483647->x.length+ks.length<=100->
  ∃m' x' t4,x'.length=x.length+ks.length/\forL (a9 4) jz (pl ks) [s0,s1,.sh (.int m),.sh (.str x),s4]=some (.nx [s0,s1,.sh (.int m'),.sh (.str x'),t4])
 |[],m,x,s4,_,_,_=>⟨m,x,s4,rfl,rfl⟩
 |k::ks,m,x,s4,h0,h1,h2=>by
  rw[List.length_cons]at h2
  obtain⟨m1,x1,a1,a2,a3,a4⟩:=Fj s0 s1 h0 h1 (x:=x) (by omega) k
  obtain⟨m2,x2,t4,b1,b2⟩:=AN s0 s1 ks m1 x1 (.sh (.int k)) a1 a2 (by omega)
  refine⟨m2,x2,t4,by rw[b1,a3,List.length_cons];omega,Eq.trans ?_ b2⟩
  exact oX (i:=4) (x:=.int k) (xs:=pl ks) (ρ:=[s0,s1,.sh (.int m),.sh (.str x),s4]) a4
theorem Ky(c:Int):∃x:Str,x.length=20/\bS [.int c,.int 20]=some (.str x):=by
 have b1:=Int.emod_nonneg c (show(2147483647:Int)≠0 by decide)
 have b2:=Int.emod_lt_of_pos c (show(0:Int)<2147483647 by decide)
 have e1:ae cw (ae b9 (ae pB (ae cw (dV 0) (dC (.int 2147483647))) (dC (.int 16807))) (dC (.int 11))) (dC (.int 2147483647)) [.sh (.int c),.sh (.int 20),.un,.un,.un]=some (.int ((c % 2147483647*16807+11) % 2147483647)):=by
  refine(ai (x:=.int (c % 2147483647*16807+11)) (y:=.int 2147483647) ?_ rfl).trans (kC _ (by decide))
  refine(ai (x:=.int (c % 2147483647*16807)) (y:=.int 11) ?_ rfl).trans rfl
  exact(ai (x:=.int (c % 2147483647)) (y:=.int 16807) ((ai (x:=.int c) (y:=.int 2147483647) rfl rfl).trans (kC _ (by decide))) rfl).trans (gB (by omega) (by omega))
 have b3:=Int.emod_nonneg (c % 2147483647*16807+11) (show(2147483647:Int)≠0 by decide)
 have b4:=Int.emod_lt_of_pos (c % 2147483647*16807+11) (show(0:Int)<2147483647 by decide)
 generalize(c % 2147483647*16807+11) % 2147483647=m at e1 b3 b4
 obtain⟨m',x',t4,h1,h2⟩:=AN (.sh (.int c)) (.sh (.int 20)) (List.range 20) m "" .un b3 b4 (by decide)
 refine⟨x',by rw[h1];decide,eT rfl ?_⟩
 refine(ar (aJ e1)).trans ((ar (aJ (p:=.str "") rfl)).trans ?_)
 exact(ar ((jy (gT (n:=20) rfl (by decide))).trans h2)).trans rfl
theorem Kz{b:Str}{place size k:Nat}(h1:place<b.length)(h2:b.length<=100)(h3:k<=1000):∃y:Str,y.length<=2*b.length+1/\bR [.str b,.int place,.int size,.int k]=some (.str y):=by
 obtain⟨c,hc,ec⟩:=NI (x:=b) (i:=place) h1 (by omega)
 have b3:=mod_lt (Txt.find qD c+3*(k:Int)) (n:=26) (by decide)
 obtain⟨y,hy,ey⟩:=DR b3
 have c1:=wC b none (some (place:Int)) (st:=1) (by decide)
 have c2:=wC b (some ((place+1:Nat):Int)) (some (size:Int)) (st:=1) (by decide)
 refine⟨(jv b none (some (place:Int)) 1++y)++jv b (some ((place+1:Nat):Int)) (some (size:Int)) 1,by rw[d6,d6,hy];omega,eT rfl ?_⟩
 refine(ar (aJ (p:=.str qD) rfl)).trans ((ar (aJ (p:=.str y) ?_)).trans (dM ?_))
 ·refine(ai (x:=.str qD) rfl ((ai (x:=.int (Txt.find qD c+3*(k:Int))) (y:=.int ((26:Nat):Int)) ?_ rfl).trans (cS _ (by decide)))).trans ey
  refine(ai (x:=.int (Txt.find qD c)) (y:=.int (3*(k:Int))) ?_ ((ai (x:=.int 3) (y:=.int k) rfl rfl).trans (gB (by decide) (by decide)))).trans rfl
  exact(ai (x:=.str qD) rfl ((ai (x:=.str b) (y:=.int place) rfl rfl).trans ec)).trans rfl
 ·refine(ai ((ai (y:=.str y) (oC (y:=b) rfl rfl rfl (by omega)) rfl).trans (eP _ _ (by omega))) (oC (y:=b) (l:=some ((place+1:Nat):Int)) rfl rfl rfl (by omega))).trans (eP _ _ (by rw[d6];omega))
noncomputable def tW:List PV:=[.str "",.str "",.str "all",.str "",.str "any",.str "",.str "of",.str "al"]
theorem Fm:((List.range 8).all λi=>match itemAt tW (i:Int)with|some (.str w)=>decide (w.length<=3)|_=>false)=true:=by decide+kernel
theorem Iy{i:Nat}(h:i<8):∃w:Str,w.length<=3/\gg (.lst tW) (.int i)=some (.str w):=by
 have:=List.all_eq_true.mp Fm i (List.mem_range.mpr h)
 show∃w:Str,w.length<=3/\itemAt tW (i:Int)=some (.str w)
 split at this
 ·rename_i w e
  exact⟨w,of_decide_eq_true this,e⟩
 ·cases this
section
variable{F_law_cell_at bR bS:List PV->Option PV}(hC:∀(ns:List Int) (k:Nat),F_law_cell_at [ir ns,.int k]=some (.int (ns.getD k 0)))
 (hN:∀{b:Str} {place size k:Nat},place<b.length->b.length<=100->k<=1000->∃y:Str,y.length<=2*b.length+1/\bR [.str b,.int place,.int size,.int k]=some (.str y))
 (hB:∀c:Int,∃x:Str,x.length=20/\bS [.int c,.int 20]=some (.str x))
include hC hN hB
theorem CF(s0 s1 s2 s5 s6:Slot)(cell:Int){s:Nat}(Rb:0<s)(hs:s<=20){b:Str}(hb:b.length=20)(acc:List Str)(VV:acc.length<=1000)(k:Nat)(hk:k<=1000)(D8:Slot):
  ∃y:Str,y.length<=50/\iJ F_law_cell_at bR bS [s0,s1,s2,.sh (.int cell),.sh (.int s),s5,s6,.sh (.str b),.ow (acc.map PV.str),.sh (.int k),D8]=some (.nx [s0,s1,s2,.sh (.int cell),.sh (.int s),s5,s6,.sh (.str b),.ow ((acc++[y]).map PV.str),.sh (.int k),.sh (.str y)]):=by
 have zl:(5000:Nat)<=sizeLine:=by decide
 have hp:=mod_lt (cell/80) (n:=s) Rb
 obtain⟨y1,l1,e1⟩:=hN (b:=b) (place:=(cell/80 %(s:Int)).toNat) (size:=s) (k:=k) (by omega) (by omega) hk
 have bJ:∃y2:Str,y2.length<=50/\(jo (tV (ae kc (ae cw (ae gK (dV 3) (dC (.int 20))) (dC (.int 4))) (dC (.int 1)))) (bK 10 (yM (dV 7) fU (dg (ae b9 (dV 9) (dC (.int 1)))))) cD) [s0,s1,s2,.sh (.int cell),.sh (.int s),s5,s6,.sh (.str b),.ow (acc.map PV.str),.sh (.int k),.sh (.str y1)]=some (.nx [s0,s1,s2,.sh (.int cell),.sh (.int s),s5,s6,.sh (.str b),.ow (acc.map PV.str),.sh (.int k),.sh (.str y2)]):=by
  have t:tV (ae kc (ae cw (ae gK (dV 3) (dC (.int 20))) (dC (.int 4))) (dC (.int 1))) [s0,s1,s2,.sh (.int cell),.sh (.int s),s5,s6,.sh (.str b),.ow (acc.map PV.str),.sh (.int k),.sh (.str y1)]=some (decide (cell/20 % 4=1)):=cE rfl
  cases hd:decide (cell/20 % 4=1)
  ·rw[hd]at t
   exact⟨y1,by omega,(dP t).trans rfl⟩
  ·rw[hd]at t
   have:=wC b none (some ((k+1:Nat):Int)) (st:=1) (by decide)
   refine⟨jv b none (some ((k+1:Nat):Int)) 1,by omega,(jZ t).trans (aJ ?_)⟩
   exact oC (y:=b) (h:=some ((k+1:Nat):Int)) rfl rfl rfl (by omega)
 obtain⟨y2,l2,e2⟩:=bJ
 have qY:∃y3:Str,y3.length<=50/\(jo (tV (ae PN (dV 10) (gf (aa (dC (.str "all")) (aa (dC (.str "any")) (aa (dC (.str "of")) aF)))))) (bK 10 (bO M1 (dV 10))) cD) [s0,s1,s2,.sh (.int cell),.sh (.int s),s5,s6,.sh (.str b),.ow (acc.map PV.str),.sh (.int k),.sh (.str y2)]=some (.nx [s0,s1,s2,.sh (.int cell),.sh (.int s),s5,s6,.sh (.str b),.ow (acc.map PV.str),.sh (.int k),.sh (.str y3)]):=by
  have tt:gf (aa (dC (.str "all")) (aa (dC (.str "any")) (aa (dC (.str "of")) aF))) [s0,s1,s2,.sh (.int cell),.sh (.int s),s5,s6,.sh (.str b),.ow (acc.map PV.str),.sh (.int k),.sh (.str y2)]=some (.tup [.str "all",.str "any",.str "of"]):=by
   show(if(3:Nat)<=sizeLine then some (PV.tup [.str "all",.str "any",.str "of"])else none)=_
   rw[if_pos (by omega)]
  have t:tV (ae PN (dV 10) (gf (aa (dC (.str "all")) (aa (dC (.str "any")) (aa (dC (.str "of")) aF))))) [s0,s1,s2,.sh (.int cell),.sh (.int s),s5,s6,.sh (.str b),.ow (acc.map PV.str),.sh (.int k),.sh (.str y2)]=some (Fz (.str y2) [.str "all",.str "any",.str "of"]):=cE ((ai (x:=.str y2) rfl tt).trans rfl)
  cases hd:Fz (.str y2) [.str "all",.str "any",.str "of"]
  ·rw[hd]at t
   exact⟨y2,l2,(dP t).trans rfl⟩
  ·rw[hd]at t
   have:=wC y2 none none (st:=-1) (by decide)
   refine⟨jv y2 none none (-1),by omega,(jZ t).trans (aJ ?_)⟩
   show(if y2.length<=sizeLine then some (PV.str (jv y2 none none (-1)))else none)=_
   rw[if_pos (by omega)]
 obtain⟨y3,l3,e3⟩:=qY
 refine⟨y3,l3,?_⟩
 refine(ar (aJ ((aW (av (x:=.str b) rfl (av ((ai (x:=.int (cell/80)) (y:=.int s) rfl rfl).trans (cS _ Rb)) (av (x:=.int s) rfl (av (x:=.int k) rfl rfl))))).trans e1))).trans ?_
 refine(ar e2).trans ((ar e3).trans ?_)
 show((if(acc.map PV.str).length<sizeLine then some (acc.map PV.str++[PV.str y3])else none).map λl'=>Fl.nx [s0,s1,s2,.sh (.int cell),.sh (.int s),s5,s6,.sh (.str b),.ow l',.sh (.int k),.sh (.str y3)])=_
 rw[if_pos (by rw[List.length_map];omega),List.map_append]
 rfl
theorem vC(s0 s1 s2 s5 s6:Slot)(cell:Int){s:Nat}(Rb:0<s)(hs:s<=20){b:Str}(hb:b.length=20):∀(ks:List Nat) (acc:List Str) (s9 D8:Slot),(∀k∈ks,k<=1000)->acc.length+ks.length<=1000->(∀x∈acc,x.length<=50)->
  ∃(Iz:List Str) (t9 RQ:Slot),Iz.length=acc.length+ks.length/\(∀x∈Iz,x.length<=50)/\forL (a9 9) (iJ F_law_cell_at bR bS) (pl ks) [s0,s1,s2,.sh (.int cell),.sh (.int s),s5,s6,.sh (.str b),.ow (acc.map PV.str),s9,D8]=some (.nx [s0,s1,s2,.sh (.int cell),.sh (.int s),s5,s6,.sh (.str b),.ow (Iz.map PV.str),t9,RQ])
 |[],acc,s9,D8,_,_,h=>⟨acc,s9,D8,rfl,h,rfl⟩
 |k::ks,acc,s9,D8,h1,h2,h3=>by
  rw[List.length_cons]at h2
  obtain⟨y,ly,e⟩:=CF hC hN hB s0 s1 s2 s5 s6 cell Rb hs hb acc (by omega) k (h1 k (List.mem_cons_self ..)) D8
  obtain⟨Iz,t9,RQ,q1,q2,q3⟩:=vC s0 s1 s2 s5 s6 cell Rb hs hb ks (acc++[y]) (.sh (.int k)) (.sh (.str y)) (λx hx=>h1 x (List.mem_cons_of_mem _ hx)) (by rw[List.length_append,List.length_singleton];omega) (λx hx=>by
   rcases List.mem_append.mp hx with hx|hx
   ·exact h3 x hx
   ·obtain rfl:=List.mem_singleton.mp hx
    exact ly)
  refine⟨Iz,t9,RQ,by rw[q1,List.length_append,List.length_singleton,List.length_cons];omega,q2,Eq.trans ?_ q3⟩
  exact oX (i:=9) (x:=.int k) (xs:=pl ks) (ρ:=[s0,s1,s2,.sh (.int cell),.sh (.int s),s5,s6,.sh (.str b),.ow (acc.map PV.str),s9,D8]) e
theorem Fn(ns:List Int)(a many:Nat)(hm:many<=1000):∃xs:List Str,xs.length=many/\(∀x∈xs,x.length<=50)/\fn true 11 3 (qb F_law_cell_at bR bS) [ir ns,.int a,.int many]=some (.lst (xs.map PV.str)):=by
 have zl:(5000:Nat)<=sizeLine:=by decide
 have hs:=mod_lt (ns.getD a 0) (n:=20) (by decide)
 have hw:=mod_lt (ns.getD (a+1) 0) (n:=8) (by decide)
 obtain⟨w,lw,ew⟩:=Iy hw
 obtain⟨x,lx,ex⟩:=hB (ns.getD (a+1) 0/8)
 have lb:(jv (w++x) none (some ((20:Nat):Int)) 1).length=20:=NH (w++x) 20 (by rw[d6];omega)
 generalize eb:jv (w++x) none (some ((20:Nat):Int)) 1=b at lb
 obtain⟨acc,t9,RQ,q1,q2,q3⟩:=vC hC hN hB (.sh (ir ns)) (.sh (.int a)) (.sh (.int many)) (.sh (.int (ns.getD (a+1) 0))) (.sh (.str w)) (ns.getD a 0) (s:=1+(ns.getD a 0 %((20:Nat):Int)).toNat) (by omega) (by omega) lb (List.range many) [] .un .un (λk hk=>by have:=List.mem_range.mp hk;omega) (by rw[List.length_range];simpa using hm) (by simp)
 rw[List.length_range]at q1
 refine⟨acc,by simpa using q1,q2,eT rfl ?_⟩
 refine(ar (aJ ((aW (ps:=[ir ns,.int a]) rfl).trans (hC ns a)))).trans ?_
 refine(ar (aJ (p:=.int ((1+(ns.getD a 0 %((20:Nat):Int)).toNat:Nat):Int)) ((ai (x:=.int ((1:Nat):Int)) rfl ((ai (x:=.int (ns.getD a 0)) (y:=.int ((20:Nat):Int)) rfl rfl).trans (cS _ (by decide)))).trans rfl))).trans ?_
 refine(ar (aJ ((aW (ps:=[ir ns,.int ((a+1:Nat):Int)]) rfl).trans (hC ns (a+1))))).trans ?_
 generalize ns.getD (a+1) 0=more at*
 generalize ns.getD a 0=cell at*
 have VW:ae gg (pA (aa (dC (.str "")) (aa (dC (.str "")) (aa (dC (.str "all")) (aa (dC (.str "")) (aa (dC (.str "any")) (aa (dC (.str "")) (aa (dC (.str "of")) (aa (dC (.str "al")) aF))))))))) (ae cw (dV 5) (dC (.int 8))) [.sh (ir ns),.sh (.int a),.sh (.int many),.sh (.int cell),.sh (.int ((1+(cell %((20:Nat):Int)).toNat:Nat):Int)),.sh (.int more),.un,.un,.un,.un,.un]=some (.str w):=by
  refine(ai (x:=.lst tW) ?_ ((ai (x:=.int more) (y:=.int ((8:Nat):Int)) rfl rfl).trans (cS _ (by decide)))).trans ew
  show(if(8:Nat)<=sizeLine then some (PV.lst tW)else none)=_
  rw[if_pos (by omega)]
 refine(ar (aJ VW)).trans ?_
 refine(ar (aJ (p:=.str b) ?_)).trans ?_
 ·rw[<-eb]
  refine oC (h:=some ((20:Nat):Int)) ((ai (x:=.str w) (y:=.str x) rfl ?_).trans (eP _ _ (by omega))) rfl rfl (by rw[d6];omega)
  exact(aW (ps:=[.int (more/8),.int 20]) rfl).trans ex
 refine(ar (gO (l:=[]) rfl)).trans ?_
 exact(ar ((jy (gT (n:=many) rfl (by omega))).trans q3)).trans rfl
end
theorem IA(ns:List Int)(a many:Nat)(hm:many<=1000):∃xs:List Str,xs.length=many/\(∀x∈xs,x.length<=50)/\eD [ir ns,.int a,.int many]=some (.lst (xs.map PV.str)):=Fn ri Kz Ky ns a many hm
noncomputable abbrev Fo:Str:= ", "
noncomputable abbrev vD:Str:= ")"
noncomputable def Jn(its:List It):Str:=Txt.join Fo (its.map It.t)
theorem IB(its:List It):((its.map It.t).map λt=>t.length+Fo.length).sum=wt its:=by
 unfold wt
 rw[List.map_map]
 rfl
theorem Rc(its:List It):(Jn its).length<=wt its:=by
 have:=join_le Fo (its.map It.t)
 rw[IB]at this
 exact this
structure RS(names:List Str)(Ok:It->Prop):Prop where
 hand:∀x∈names,Ok ⟨.ins 0 [.str x],.tup [.str "hand",.str x],x,0⟩
 all:∀(its:List It) (n:Nat),its≠[]->its.length<=8->wt its<=50000->(∀i∈its,Ok i/\i.d<=n)->Ok ⟨.ins 1 [.int (its.length:Nat),.tup (its.map It.o)],.tup [.str "all",.tup (its.map It.s)],("all(" :Str)++(Jn its++vD),1+n⟩
 any:∀(its:List It) (n:Nat),its≠[]->its.length<=8->wt its<=50000->(∀i∈its,Ok i/\i.d<=n)->Ok ⟨.ins 2 [.int 1,.tup (its.map It.o)],.tup [.str "any",.tup (its.map It.s)],("any(" :Str)++(Jn its++vD),1+n⟩
 some:∀(its:List It) (n m:Nat),its≠[]->its.length<=8->wt its<=50000->(∀i∈its,Ok i/\i.d<=n)->1<=m->m<=its.length->Ok ⟨.ins 3 [.int (m:Nat),.tup (its.map It.o)],.tup [.str "some",.int (m:Nat),.tup (its.map It.s)],((toString (m:Int):Str)++(" of (" :Str))++(Jn its++vD),1+n⟩
theorem KA:((List.range 9).all λm=>decide ((toString (m:Int):Str).length<=1))=true:=by decide+kernel
theorem Ob{m:Nat}(h:m<=8):(toString (m:Int):Str).length<=1:=of_decide_eq_true (List.all_eq_true.mp KA m (List.mem_range.mpr (by omega)))
theorem AO(i:It)(s:List Slot)(k:Nat)(p:PV)(h:[i.o,i.s,.str i.t,.int (i.d:Nat)][k]?=some p):ae gg (dV 0) (dC (.int (k:Nat))) (.sh i.p::s)=some p:=by
 have hk:k<4:=(List.getElem?_eq_some_iff.mp h).1
 show itemAt [i.o,i.s,.str i.t,.int (i.d:Nat)] (k:Int)=some p
 unfold itemAt OB
 rw[if_pos (by omega),if_pos (by show(k:Int)<((4:Nat):Int);omega)]
 show[i.o,i.s,.str i.t,.int (i.d:Nat)][(k:Int).toNat]?=_
 rw[Int.toNat_natCast]
 exact h
theorem nL{names:List Str}{Ok:It->Prop}(B:RS names Ok){kind m:Nat}(hk:kind<3){its:List It}(h0:its≠[])(h8:its.length<=8)(hw:wt its<=50000)(VX:1<=m)(GL:m<=its.length)(ho:∀i∈its,Ok i):
  ∃r:It,Ok r/\(∃i∈its,r.d=1+i.d)/\r.t.length+2<=wt its+10/\ao [.int kind,.int m,.lst (its.map It.p)]=some r.p:=by
 have zl:(100000:Nat)<=sizeLine:=by decide
 obtain⟨M,eM,Tv,Ut⟩:=zr (its.map It.d) (by simpa using h0)
 obtain⟨iM,VY,VZ⟩:=List.mem_map.mp Ut
 have hn:∀i∈its,Ok i/\i.d<=M:=λi hi=>⟨ho i hi,Tv _ (List.mem_map.mpr ⟨i,hi,rfl⟩)⟩
 have lJ:=Rc its
 have l1:=Ob (m:=m) (by omega)
 have c0:∀s3 s4 s5 s6 s7,bu (nList (dV 2)) cP (ae gg (dV 0) (dC (.int 0))) [.sh (.int kind),.sh (.int m),.sh (.lst (its.map It.p)),s3,s4,s5,s6,s7]=some (.lst (its.map It.o)):=λs3 s4 s5 s6 s7=>ji It.p It.o rfl (by omega) λi _=>AO i _ 0 _ rfl
 have c1:∀s3 s4 s5 s6 s7,bu (nList (dV 2)) cP (ae gg (dV 0) (dC (.int 1))) [.sh (.int kind),.sh (.int m),.sh (.lst (its.map It.p)),s3,s4,s5,s6,s7]=some (.lst (its.map It.s)):=λs3 s4 s5 s6 s7=>ji It.p It.s rfl (by omega) λi _=>AO i _ 1 _ rfl
 have c2:∀s3 s4 s5 s6 s7,bu (nList (dV 2)) cP (ae gg (dV 0) (dC (.int 2))) [.sh (.int kind),.sh (.int m),.sh (.lst (its.map It.p)),s3,s4,s5,s6,s7]=some (.lst (its.map λi=>.str i.t)):=λs3 s4 s5 s6 s7=>ji It.p (λi=>.str i.t) rfl (by omega) λi _=>AO i _ 2 _ rfl
 have c3:∀s3 s4 s5 s6 s7,bu (nList (dV 2)) cP (ae gg (dV 0) (dC (.int 3))) [.sh (.int kind),.sh (.int m),.sh (.lst (its.map It.p)),s3,s4,s5,s6,s7]=some (.lst (its.map λi=>.int (i.d:Nat))):=λs3 s4 s5 s6 s7=>ji It.p (λi=>.int (i.d:Nat)) rfl (by omega) λi _=>AO i _ 3 _ rfl
 have hJ:Dg (.str Fo) (.lst (its.map λi=>.str i.t))=some (.str (Jn its)):=by
  have:=E8 Fo (its.map It.t) (by rw[IB];omega)
  rw[List.map_map]at this
  exact this
 have Tw:sf (.lst (its.map λi=>.int (i.d:Nat)))=some (.int (M:Nat)):=by
  have e:aE (its.map It.d)=.lst (its.map λi=>.int (i.d:Nat)):=by
   unfold aE
   rw[List.map_map]
   rfl
  rw[<-e]
  exact eM
 have fin:∀(r:It),Ok r->r.d=1+M->r.t.length+2<=wt its+10->(jo (tV (ae kc (dV 0) (dC (.int 0)))) (bK 7 (gf (aa (bO Gu (dV 3)) (aa (gf (aa (dC (.str "all")) (aa (bb 4) aF))) (aa (ae b9 (dC (.str "all(")) (dV 5)) (aa (bb 6) aF)))))) (jo (tV (ae kc (dV 0) (dC (.int 1)))) (bK 7 (gf (aa (bO Gv (dV 3)) (aa (gf (aa (dC (.str "any")) (aa (bb 4) aF))) (aa (ae b9 (dC (.str "any(")) (dV 5)) (aa (bb 6) aF)))))) (bK 7 (gf (aa (ae Bw (dV 1) (dV 3)) (aa (gf (aa (dC (.str "some")) (aa (bb 1) (aa (bb 4) aF)))) (aa (ae b9 (ae b9 (bO JD (dV 1)) (dC (.str " of ("))) (dV 5)) (aa (bb 6) aF))))))))
   [.sh (.int kind),.sh (.int m),.sh (.lst (its.map It.p)),.ow (its.map It.o),.sh (.tup (its.map It.s)),.sh (.str (Jn its++vD)),.sh (.int ((1+M:Nat):Int)),.un]=some (.nx [.sh (.int kind),.sh (.int m),.sh (.lst (its.map It.p)),.ow (its.map It.o),.sh (.tup (its.map It.s)),.sh (.str (Jn its++vD)),.sh (.int ((1+M:Nat):Int)),.sh r.p])->
   ∃r:It,Ok r/\(∃i∈its,r.d=1+i.d)/\r.t.length+2<=wt its+10/\ao [.int kind,.int m,.lst (its.map It.p)]=some r.p:=λr h1 h2 h3 h4=>by
  refine⟨r,h1,⟨iM,VY,by rw[h2,VZ]⟩,h3,eT rfl ?_⟩
  refine(ar (gO (c0 _ _ _ _ _))).trans ?_
  refine(ar (aJ (p:=.tup (its.map It.s)) ((eO (c1 _ _ _ _ _)).trans rfl))).trans ?_
  refine(ar (aJ (p:=.str (Jn its++vD)) ((ai (y:=.str vD) ((ai (x:=.str Fo) rfl (c2 _ _ _ _ _)).trans hJ) rfl).trans (eP _ _ (by have:vD.length=1:=rfl;omega))))).trans ?_
  refine(ar (aJ (p:=.int ((1+M:Nat):Int)) ((ai (x:=.int ((1:Nat):Int)) rfl ((eO (c3 _ _ _ _ _)).trans Tw)).trans rfl))).trans ?_
  refine(ar h4).trans ?_
  exact(ar (ρ':=[.sh (.int kind),.sh (.int m),.sh (.lst (its.map It.p)),.ow [],.sh (.tup (its.map It.s)),.sh (.str (Jn its++vD)),.sh (.int ((1+M:Nat):Int)),.sh r.p]) rfl).trans rfl
 have T:∀(k:Nat) s7,tV (ae kc (dV 0) (dC (.int k))) [.sh (.int kind),.sh (.int m),.sh (.lst (its.map It.p)),.ow (its.map It.o),.sh (.tup (its.map It.s)),.sh (.str (Jn its++vD)),.sh (.int ((1+M:Nat):Int)),s7]=some (decide (kind=k)):=λk s7=>cE ((ai (x:=.int kind) (y:=.int k) rfl rfl).trans (rj _ _))
 have lB:(Jn its++vD).length=(Jn its).length+1:=by rw[d6];rfl
 have lA:("all(" :Str).length=4:=by decide+kernel
 have lY:("any(" :Str).length=4:=by decide+kernel
 have lS:(" of (" :Str).length=5:=by decide+kernel
 by_cases k0:kind=0
 ·refine fin ⟨.ins 1 [.int (its.length:Nat),.tup (its.map It.o)],.tup [.str "all",.tup (its.map It.s)],("all(" :Str)++(Jn its++vD),1+M⟩ (B.all its M h0 h8 hw hn) rfl (by show(("all(" :Str)++(Jn its++vD)).length+2<=_;rw[d6,lB,lA];omega) ((jZ ((T 0 _).trans (by rw[decide_eq_true k0]))).trans (aJ ?_))
  refine iu (av (x:=.ins 1 [.int (its.length:Nat),.tup (its.map It.o)]) ?_ (av (x:=.tup [.str "all",.tup (its.map It.s)]) (iu (xs:=[.str "all",.tup (its.map It.s)]) rfl (by simp)) (av ((ai (x:=.str "all(") (y:=.str (Jn its++vD)) rfl rfl).trans (eP _ _ (by rw[lB,lA];omega))) (av (x:=.int ((1+M:Nat):Int)) rfl rfl)))) (by simp)
  show some (PV.ins 1 [.int ((its.map It.o).length:Nat),.tup (its.map It.o)])=_
  rw[List.length_map]
 ·by_cases k1:kind=1
  ·refine fin ⟨.ins 2 [.int 1,.tup (its.map It.o)],.tup [.str "any",.tup (its.map It.s)],("any(" :Str)++(Jn its++vD),1+M⟩ (B.any its M h0 h8 hw hn) rfl (by show(("any(" :Str)++(Jn its++vD)).length+2<=_;rw[d6,lB,lY];omega) ((dP ((T 0 _).trans (by rw[decide_eq_false k0]))).trans ((jZ ((T 1 _).trans (by rw[decide_eq_true k1]))).trans (aJ ?_)))
   exact iu (av (x:=.ins 2 [.int 1,.tup (its.map It.o)]) rfl (av (x:=.tup [.str "any",.tup (its.map It.s)]) (iu (xs:=[.str "any",.tup (its.map It.s)]) rfl (by simp)) (av ((ai (x:=.str "any(") (y:=.str (Jn its++vD)) rfl rfl).trans (eP _ _ (by rw[lB,lY];omega))) (av (x:=.int ((1+M:Nat):Int)) rfl rfl)))) (by simp)
  ·have AZ:JD (.int (m:Nat))=some (.str (toString (m:Int))):=by
     show(if decide ((m:Int).natAbs<1000000)then some (PV.str (toString (m:Int)))else none)=_
     rw[if_pos (decide_eq_true (by omega))]
   refine fin ⟨.ins 3 [.int (m:Nat),.tup (its.map It.o)],.tup [.str "some",.int (m:Nat),.tup (its.map It.s)],((toString (m:Int):Str)++(" of (" :Str))++(Jn its++vD),1+M⟩ (B.some its M m h0 h8 hw hn VX GL) rfl (by show(((toString (m:Int):Str)++(" of (" :Str))++(Jn its++vD)).length+2<=_;rw[d6,d6,lB,lS];omega) ((dP ((T 0 _).trans (by rw[decide_eq_false k0]))).trans ((dP ((T 1 _).trans (by rw[decide_eq_false k1]))).trans (aJ ?_)))
   refine iu (av (x:=.ins 3 [.int (m:Nat),.tup (its.map It.o)]) rfl (av (x:=.tup [.str "some",.int (m:Nat),.tup (its.map It.s)]) (iu (xs:=[.str "some",.int (m:Nat),.tup (its.map It.s)]) rfl (by simp)) (av ((ai (y:=.str (Jn its++vD)) ((ai (x:=.str (toString (m:Int))) (y:=.str " of (") ((eO (x:=.int (m:Nat)) rfl).trans AZ) rfl).trans (eP _ _ (by rw[lS];omega))) rfl).trans (eP _ _ (by rw[d6,lB,lS];omega))) (av (x:=.int ((1+M:Nat):Int)) rfl rfl)))) (by simp)
theorem IC:∀P:List It,P.length*2<=wt P
 |[]=>Nat.zero_le _
 |i::P=>by
  have:=IC P
  rw[wD,List.length_cons]
  omega
theorem ends(P:List It)(j:Nat):P.take (P.length-j)++P.drop (P.length-j)=P:=List.take_append_drop ..
section
variable{Ok:It->Prop}{ao:List PV->Option PV}
 (hF:∀{kind m:Nat},kind<3->∀{its:List It},its≠[]->its.length<=8->wt its<=50000->1<=m->m<=its.length->(∀i∈its,Ok i)->∃r:It,Ok r/\(∃i∈its,r.d=1+i.d)/\r.t.length+2<=wt its+10/\ao [.int kind,.int m,.lst (its.map It.p)]=some r.p)
include hF
theorem Fp{P:List It}(h2:2<=P.length)(hP:∀i∈P,Ok i){D W:Nat}(hd:∀i∈P,i.d<=D)(hw:wt P<=W)(hW:W<=49000){s0:Slot}(hs:s0=.sh (.lst (P.map It.p))\/s0=.ow (P.map It.p))(s1:Slot){n:Int}(RT:0<=n)(Jx:n<2147483647)(s3:Slot):
  ∃(Q:List It) (n':Int) (t3:Slot),Q.length+1=P.length-min 8 P.length+2/\(∀i∈Q,Ok i)/\(∀i∈Q,i.d<=D+1)/\wt Q<=W+10/\0<=n'/\n'<2147483647/\gU ao [s0,s1,.sh (.int n),s3]=some (.nx [.ow (Q.map It.p),s1,.sh (.int n'),t3]):=by
 have zl:(100000:Nat)<=sizeLine:=by decide
 have v0:∀r1 r2 r3,dV 0 [s0,r1,r2,r3]=some (.lst (P.map It.p)):=λr1 r2 r3=>by
  rcases hs with rfl|rfl<;>rfl
 have e1:ae cw (ae b9 (ae pB (dV 2) (dV 2)) (ae pB (dC (.int 48271)) (dV 2))) (dC (.int 2147483647)) [s0,s1,.sh (.int n),s3]=some (.int ((n*n+48271*n) % 2147483647)):=
  (ai (x:=.int (n*n+48271*n)) (y:=.int 2147483647) ((ai ((ai (x:=.int n) (y:=.int n) rfl rfl).trans (gB (by omega) (by omega))) ((ai (x:=.int 48271) (y:=.int n) rfl rfl).trans (gB (by omega) (by omega)))).trans rfl) rfl).trans (kC _ (by decide))
 have b1:=Int.emod_nonneg (n*n+48271*n) (show(2147483647:Int)≠0 by decide)
 have b2:=Int.emod_lt_of_pos (n*n+48271*n) (show(0:Int)<2147483647 by decide)
 generalize(n*n+48271*n) % 2147483647=n' at e1 b1 b2
 have es:=ends P 8
 generalize eA:P.take (P.length-8)=Pa at es
 generalize eB:P.drop (P.length-8)=Pb at es
 have lb:Pb.length=min 8 P.length:=by rw[<-eB,List.length_drop];omega
 have la:Pa.length=P.length-8:=by rw[<-eA,List.length_take];omega
 have mb:∀i∈Pb,i∈P:=λi hi=>by rw[<-es];exact List.mem_append_right _ hi
 have ma:∀i∈Pa,i∈P:=λi hi=>by rw[<-es];exact List.mem_append_left _ hi
 have V0:wt Pa+wt Pb=wt P:=by rw[<-sN,es]
 have hk:=mod_lt n' (n:=3) (by decide)
 have hm:=mod_lt (n'/3) (n:=Pb.length) (by omega)
 obtain⟨r,r1,⟨i,hi,r2⟩,r3,r4⟩:=hF (kind:=(n' %((3:Nat):Int)).toNat) (m:=1+(n'/3 %(Pb.length:Int)).toNat) hk (its:=Pb) (λz=>by rw[z]at lb;simp at lb;omega) (by omega) (by omega) (by omega) (by omega) λi hi=>hP i (mb i hi)
 refine⟨Pa++[r],n',.sh (.lst (Pb.map It.p)),by rw[List.length_append,List.length_singleton];omega,λx hx=>?_,λx hx=>?_,by rw[sN,pM];omega,b1,b2,?_⟩
 ·rcases List.mem_append.mp hx with hx|hx
  ·exact hP x (ma x hx)
  ·obtain rfl:=List.mem_singleton.mp hx
   exact r1
 ·rcases List.mem_append.mp hx with hx|hx
  ·have:=hd x (ma x hx)
   omega
  ·obtain rfl:=List.mem_singleton.mp hx
   have:=hd i (mb i hi)
   omega
 ·refine(ar (aJ e1)).trans ?_
  have e3:Bq (dV 0) (dg (bO mO (dC (.int 8)))) fU [s0,s1,.sh (.int n'),s3]=some (.lst (Pb.map It.p)):=by
   refine(pO (a:=some (-((8:Nat):Int))) (v0 _ _ _) rfl rfl).trans ?_
   rw[zt _ 8 (by decide),List.length_map,<-List.map_drop,eB]
  refine(ar (aJ e3)).trans ?_
  have e4:Bq (dV 0) fU (dg (bO mO (dC (.int 8)))) [s0,s1,.sh (.int n'),.sh (.lst (Pb.map It.p))]=some (.lst (Pa.map It.p)):=by
   refine(pO (b:=some (-((8:Nat):Int))) (v0 _ _ _) rfl rfl).trans ?_
   rw[Kc _ 8 (by decide),List.length_map,<-List.map_take,eA]
  refine(ar (gO e4)).trans ?_
  have e5:aI ao (aa (ae cw (dV 2) (dC (.int 3))) (aa (ae b9 (dC (.int 1)) (ae cw (ae gK (dV 2) (dC (.int 3))) (bO b7 (dV 3)))) (aa (bb 3) aF))) [.ow (Pa.map It.p),s1,.sh (.int n'),.sh (.lst (Pb.map It.p))]=some r.p:=by
   refine(aW (av ((ai (x:=.int n') (y:=.int ((3:Nat):Int)) rfl rfl).trans (cS _ (by decide))) (av (x:=.int ((1+(n'/3 %(Pb.length:Int)).toNat:Nat):Int)) ?_ (av (x:=.lst (Pb.map It.p)) rfl rfl)))).trans r4
   refine(ai (x:=.int ((1:Nat):Int)) rfl ((ai (x:=.int (n'/3)) (y:=.int (Pb.length:Nat)) rfl ?_).trans (cS _ (by omega)))).trans rfl
   show some (PV.int ((Pb.map It.p).length:Nat))=_
   rw[List.length_map]
  show((aa (aI ao (aa (ae cw (dV 2) (dC (.int 3))) (aa (ae b9 (dC (.int 1)) (ae cw (ae gK (dV 2) (dC (.int 3))) (bO b7 (dV 3)))) (aa (bb 3) aF)))) aF) [.ow (Pa.map It.p),s1,.sh (.int n'),.sh (.lst (Pb.map It.p))]).bind _=_
  rw[av e5 rfl]
  show((if(Pa.map It.p).length<sizeLine then some (Pa.map It.p++[r.p])else none).map λl'=>Fl.nx [.ow l',s1,.sh (.int n'),.sh (.lst (Pb.map It.p))])=_
  have wl:=IC P
  rw[if_pos (by rw[List.length_map];omega),List.map_append]
  rfl
theorem vE(s1:Slot):∀(k:Nat) {P:List It} (h1:1<=P.length) (hk:P.length<=1+7*k) (hP:∀i∈P,Ok i) {D W:Nat} (hd:∀i∈P,i.d<=D) (hw:wt P<=W) (hW:W+10*k<=49000) {s0:Slot} (hs:s0=.sh (.lst (P.map It.p))\/s0=.ow (P.map It.p)) {n:Int} (RT:0<=n) (Jx:n<2147483647) (s3:Slot) (f:Nat) (hf:k<f),
  ∃(r:It) (t0 t2 t3:Slot),(t0=.sh (.lst [r.p])\/t0=.ow [r.p])/\Ok r/\(r.d<=D+k/\r.t.length+2<=W+10*k)/\eW (tV (ae IS (bO b7 (dV 0)) (dC (.int 1)))) (gU ao) f [s0,s1,.sh (.int n),s3]=some (.nx [t0,s1,t2,t3])
 |k,P,h1,hk,hP,D,W,hd,hw,hW,s0,hs,n,RT,Jx,s3,0,hf=>by omega
 |k,P,h1,hk,hP,D,W,hd,hw,hW,s0,hs,n,RT,Jx,s3,f+1,hf=>by
  have v0:∀r1 r2 r3,dV 0 [s0,r1,r2,r3]=some (.lst (P.map It.p)):=λr1 r2 r3=>by
   rcases hs with rfl|rfl<;>rfl
  have t:tV (ae IS (bO b7 (dV 0)) (dC (.int 1))) [s0,s1,.sh (.int n),s3]=some (decide (1<P.length)):=by
   refine cE ((ai (x:=.int (P.length:Nat)) (y:=.int 1) ((eO (v0 _ _ _)).trans ?_) rfl).trans ?_)
   ·show some (PV.int ((P.map It.p).length:Nat))=_
    rw[List.length_map]
   ·show some (PV.bl (decide ((1:Int)<(P.length:Int))))=_
    congr 2
    rw[decide_eq_decide]
    omega
  by_cases h2:1<P.length
  ·rw[decide_eq_true h2]at t
   match k,hk with
   |0,hk=>omega
   |k+1,hk=>
    obtain⟨Q,n',t3,q1,q2,q3,q4,q5,q6,q7⟩:=Fp hF (P:=P) (by omega) hP hd hw (by omega) hs s1 RT Jx s3
    obtain⟨r,t0,t2,V1,a1,a2,a3,a4⟩:=vE s1 k (P:=Q) (by omega) (by omega) q2 (D:=D+1) (W:=W+10) q3 q4 (by omega) (s0:=.ow (Q.map It.p)) (.inr rfl) q5 q6 t3 f (by omega)
    exact⟨r,t0,t2,V1,a1,a2,⟨by omega,by omega⟩,(Ho t q7).trans a4⟩
  ·rw[decide_eq_false h2]at t
   obtain⟨r,rfl⟩:∃r,P=[r]:=List.length_eq_one_iff.mp (by omega)
   exact⟨r,s0,.sh (.int n),s3,hs,hP r (List.mem_cons_self ..),⟨by have:=hd r (List.mem_cons_self ..);omega,by rw[pM]at hw;omega⟩,Hn t⟩
theorem CG{P:List It}(h1:1<=P.length)(Wz:P.length<=57)(hP:∀i∈P,Ok i){D:Nat}(hd:∀i∈P,i.d<=D)(hw:wt P<=10000)(c:Int):∃r:It,Ok r/\(r.d<=D+8/\r.t.length<=11000)/\fn false 4 2 (oF ao) [.lst (P.map It.p),.int c]=some r.p:=by
 have b1:=Int.emod_nonneg c (show(2147483646:Int)≠0 by decide)
 have b2:=Int.emod_lt_of_pos c (show(0:Int)<2147483646 by decide)
 obtain⟨r,t0,t2,t3,a1,a2,a3,a4⟩:=vE hF (.sh (.int c)) 8 (P:=P) h1 (by omega) hP hd hw (by omega) (s0:=.sh (.lst (P.map It.p))) (.inl rfl) (n:=1+c % 2147483646) (by omega) (by omega) .un 1000 (by decide)
 refine⟨r,a2,⟨by omega,by omega⟩,eT rfl ?_⟩
 refine(ar (aJ (p:=.int (1+c % 2147483646)) ((ai (x:=.int 1) rfl ((ai (x:=.int c) (y:=.int 2147483646) rfl rfl).trans (kC _ (by decide)))).trans rfl))).trans ?_
 refine(ar a4).trans (dM ?_)
 rcases a1 with rfl|rfl<;>rfl
end
theorem D9(x:Str):F_law_hand [.str x]=some (It.p ⟨.ins 0 [.str x],.tup [.str "hand",.str x],x,0⟩):=by
 refine kB rfl ?_
 exact iu (av (x:=.ins 0 [.str x]) rfl (av (x:=.tup [.str "hand",.str x]) (iu (xs:=[.str "hand",.str x]) rfl (by simp)) (av (x:=.str x) rfl (av (x:=.int ((0:Nat):Int)) rfl rfl)))) (by simp)
structure Fq(Ok:It->Prop)(k:Nat)(P:List It):Prop where
 pos:1<=P.length
 len:P.length<=1+k
 ok:∀i∈P,Ok i
 dp:∀i∈P,i.d<=12
 wt:wt P<=60*(1+k)
section
variable{names:List Str}{Ok:It->Prop}(B:RS names Ok)(hn:∀x∈names,x.length<=50){F_law_folded F_law_hand F_law_cell_at ao:List PV->Option PV}
 (hH:∀x:Str,F_law_hand [.str x]=some (It.p ⟨.ins 0 [.str x],.tup [.str "hand",.str x],x,0⟩))
 (hF:∀{kind m:Nat},kind<3->∀{its:List It},its≠[]->its.length<=8->wt its<=50000->1<=m->m<=its.length->(∀i∈its,Ok i)->∃r:It,Ok r/\(∃i∈its,r.d=1+i.d)/\r.t.length+2<=wt its+10/\ao [.int kind,.int m,.lst (its.map It.p)]=some r.p)
include B hn hH
theorem yd(h0:names≠[])(c:Int){A L:Den}{ρ:c8}(hA:A ρ=some (.tup (names.map PV.str)))(hL:L ρ=some (.int c)):∃x∈names,ae gg A (ae cw L (bO b7 A)) ρ=some (.str x):=by
 have hl:0<names.length:=List.length_pos_iff.mpr h0
 have hi:=mod_lt c hl
 refine⟨names[(c %(names.length:Int)).toNat],List.getElem_mem hi,?_⟩
 refine(ai hA ((ai hL ((eO hA).trans ?_)).trans (cS c hl))).trans ?_
 ·show some (PV.int ((names.map PV.str).length:Nat))=_
  rw[List.length_map]
 ·show itemAt (names.map PV.str) (((c %(names.length:Int)).toNat:Nat):Int)=_
  unfold itemAt OB
  rw[if_pos (by omega),if_pos (by rw[List.length_map];omega)]
  show(names.map PV.str)[(((c %(names.length:Int)).toNat:Nat):Int).toNat]?=_
  rw[Int.toNat_natCast,List.getElem?_map,List.getElem?_eq_getElem hi]
  rfl
include hF
theorem CH(h0:names≠[])(s0 s1 s2:Slot)(cell:Int){k:Nat}(hk:k<=100){P:List It}(hP:Fq Ok k P)(heads:Nat)(s7 s8:Slot):
  ∃(Q:List It) (tX:Nat) (t7 t8:Slot),Fq Ok (k+1) Q/\iK F_law_folded F_law_hand F_law_cell_at ao [s0,s1,s2,.sh (.tup (names.map PV.str)),.ow (P.map It.p),.sh (.int (heads:Nat)),.sh (.int cell),s7,s8]=some (.nx [s0,s1,s2,.sh (.tup (names.map PV.str)),.ow (Q.map It.p),.sh (.int (tX:Nat)),.sh (.int cell),t7,t8]):=by
 have zl:(100000:Nat)<=sizeLine:=by decide
 obtain⟨p1,p2,p3,p4,p5⟩:=hP
 have hj:=mod_lt (cell/9) (n:=8) (by decide)
 generalize ej:1+(cell/9 %((8:Nat):Int)).toNat=j at*
 have es:=ends P j
 generalize eA:P.take (P.length-j)=Pa at es
 generalize eB:P.drop (P.length-j)=Pb at es
 have lb:Pb.length=min j P.length:=by rw[<-eB,List.length_drop];omega
 have la:Pa.length=P.length-j:=by rw[<-eA,List.length_take];omega
 have mb:∀i∈Pb,i∈P:=λi hi=>by rw[<-es];exact List.mem_append_right _ hi
 have ma:∀i∈Pa,i∈P:=λi hi=>by rw[<-es];exact List.mem_append_left _ hi
 have V0:L2.D.wt Pa+L2.D.wt Pb=L2.D.wt P:=by rw[<-sN,es]
 have e1:Bq (dV 4) (dg (bO mO (ae b9 (dC (.int 1)) (ae cw (ae gK (dV 6) (dC (.int 9))) (dC (.int 8)))))) fU [s0,s1,s2,.sh (.tup (names.map PV.str)),.ow (P.map It.p),.sh (.int (heads:Nat)),.sh (.int cell),s7,s8]=some (.lst (Pb.map It.p)):=by
  have eo:(dg (bO mO (ae b9 (dC (.int 1)) (ae cw (ae gK (dV 6) (dC (.int 9))) (dC (.int 8)))))) [s0,s1,s2,.sh (.tup (names.map PV.str)),.ow (P.map It.p),.sh (.int (heads:Nat)),.sh (.int cell),s7,s8]=some (some (-(j:Int))):=by
   have:bO mO (ae b9 (dC (.int 1)) (ae cw (ae gK (dV 6) (dC (.int 9))) (dC (.int 8)))) [s0,s1,s2,.sh (.tup (names.map PV.str)),.ow (P.map It.p),.sh (.int (heads:Nat)),.sh (.int cell),s7,s8]=some (.int (-(j:Int))):=by
    refine(eO (x:=.int (j:Int)) ?_).trans rfl
    rw[<-ej]
    exact(ai (x:=.int ((1:Nat):Int)) rfl ((ai (x:=.int (cell/9)) (y:=.int ((8:Nat):Int)) rfl rfl).trans (cS _ (by decide)))).trans rfl
   unfold dg
   rw[this]
   rfl
  refine(pO (l:=P.map It.p) rfl eo rfl).trans ?_
  rw[zt _ j (by omega),List.length_map,<-List.map_drop,eB]
 have Uu:Pb≠[]:=λz=>by rw[z]at lb;simp at lb;omega
 obtain⟨M,eM,Tv,Ut⟩:=zr (Pb.map It.d) (by simpa using Uu)
 have c3:∀s8,bu (nList (dV 7)) cP (ae gg (dV 0) (dC (.int 3))) [s0,s1,s2,.sh (.tup (names.map PV.str)),.ow (P.map It.p),.sh (.int (heads:Nat)),.sh (.int cell),.sh (.lst (Pb.map It.p)),s8]=some (.lst (Pb.map λi=>.int (i.d:Nat))):=λs8=>ji It.p (λi=>.int (i.d:Nat)) rfl (by omega) λi _=>AO i _ 3 _ rfl
 have Tw:sf (.lst (Pb.map λi=>.int (i.d:Nat)))=some (.int (M:Nat)):=by
  have e:aE (Pb.map It.d)=.lst (Pb.map λi=>.int (i.d:Nat)):=by
   unfold aE
   rw[List.map_map]
   rfl
  rw[<-e]
  exact eM
 have app:∀(Z:List It) (r:It) (s5 s7 s8:Slot),Z.length<=1000->∀{E:Den},E [s0,s1,s2,.sh (.tup (names.map PV.str)),.ow (Z.map It.p),s5,.sh (.int cell),s7,s8]=some r.p->mQ 4 eJ (aa E aF) [s0,s1,s2,.sh (.tup (names.map PV.str)),.ow (Z.map It.p),s5,.sh (.int cell),s7,s8]=some (.nx [s0,s1,s2,.sh (.tup (names.map PV.str)),.ow ((Z++[r]).map It.p),s5,.sh (.int cell),s7,s8]):=λZ r s5 s7 s8 hZ E hE=>by
  show((aa E aF) [s0,s1,s2,.sh (.tup (names.map PV.str)),.ow (Z.map It.p),s5,.sh (.int cell),s7,s8]).bind _=_
  rw[av hE rfl]
  show((if(Z.map It.p).length<sizeLine then some (Z.map It.p++[r.p])else none).map λl'=>Fl.nx [s0,s1,s2,.sh (.tup (names.map PV.str)),.ow l',s5,.sh (.int cell),s7,s8])=_
  rw[if_pos (by rw[List.length_map];omega),List.map_append]
  rfl
 have T1:tV (ae AW (ae cw (dV 6) (dC (.int 9))) (dC (.int 6))) [s0,s1,s2,.sh (.tup (names.map PV.str)),.ow (P.map It.p),.sh (.int (heads:Nat)),.sh (.int cell),.sh (.lst (Pb.map It.p)),.sh (.int (M:Nat))]=some (decide (cell % 9<6)):=cE rfl
 have T2:tV (ae IS (dV 8) (dC (.int 11))) [s0,s1,s2,.sh (.tup (names.map PV.str)),.ow (P.map It.p),.sh (.int (heads:Nat)),.sh (.int cell),.sh (.lst (Pb.map It.p)),.sh (.int (M:Nat))]=some (decide ((11:Int)<(M:Int))):=cE rfl
 have T3:tV (ae IS (dV 5) (dC (.int 13))) [s0,s1,s2,.sh (.tup (names.map PV.str)),.ow (P.map It.p),.sh (.int (heads:Nat)),.sh (.int cell),.sh (.lst (Pb.map It.p)),.sh (.int (M:Nat))]=some (decide ((13:Int)<(heads:Int))):=cE rfl
 have pre:∀{fl:Fl} {X:aU},X [s0,s1,s2,.sh (.tup (names.map PV.str)),.ow (P.map It.p),.sh (.int (heads:Nat)),.sh (.int cell),.sh (.lst (Pb.map It.p)),.sh (.int (M:Nat))]=some fl->(aR (bK 7 (Bq (dV 4) (dg (bO mO (ae b9 (dC (.int 1)) (ae cw (ae gK (dV 6) (dC (.int 9))) (dC (.int 8)))))) fU)) (aR (bK 8 (bO sf (bu (nList (dV 7)) cP (ae gg (dV 0) (dC (.int 3)))))) X)) [s0,s1,s2,.sh (.tup (names.map PV.str)),.ow (P.map It.p),.sh (.int (heads:Nat)),.sh (.int cell),s7,s8]=some fl:=λhX=>(ar (aJ e1)).trans ((ar (aJ ((eO (c3 _)).trans Tw))).trans hX)
 have tY:∃(Q:List It) (tX:Nat) (t7 t8:Slot),Fq Ok (k+1) Q/\(mQ 4 eJ (aa (aI F_law_hand (aa (ae gg (dV 3) (ae cw (ae gK (dV 6) (dC (.int 9))) (bO b7 (dV 3)))) aF)) aF)) [s0,s1,s2,.sh (.tup (names.map PV.str)),.ow (P.map It.p),.sh (.int (heads:Nat)),.sh (.int cell),.sh (.lst (Pb.map It.p)),.sh (.int (M:Nat))]=some (.nx [s0,s1,s2,.sh (.tup (names.map PV.str)),.ow (Q.map It.p),.sh (.int (tX:Nat)),.sh (.int cell),t7,t8]):=by
  obtain⟨x,hx,ex⟩:=yd B hn hH h0 (cell/9) (A:=dV 3) (L:=ae gK (dV 6) (dC (.int 9))) (ρ:=[s0,s1,s2,.sh (.tup (names.map PV.str)),.ow (P.map It.p),.sh (.int (heads:Nat)),.sh (.int cell),.sh (.lst (Pb.map It.p)),.sh (.int (M:Nat))]) rfl rfl
  have hl:=hn x hx
  refine⟨P++[⟨.ins 0 [.str x],.tup [.str "hand",.str x],x,0⟩],heads,_,_,⟨by rw[List.length_append];omega,by rw[List.length_append,List.length_singleton];omega,λi hi=>?_,λi hi=>?_,by rw[sN,pM];show _+(x.length+2)<=_;omega⟩,app P _ _ _ _ (by omega) ((aW (av ex rfl)).trans (hH x))⟩
  ·rcases List.mem_append.mp hi with hi|hi
   ·exact p3 i hi
   ·obtain rfl:=List.mem_singleton.mp hi
    exact B.hand x hx
  ·rcases List.mem_append.mp hi with hi|hi
   ·exact p4 i hi
   ·obtain rfl:=List.mem_singleton.mp hi
    exact Nat.zero_le _
 by_cases g1:cell % 9<6
 ·obtain⟨Q,h',t7,t8,q1,q2⟩:=tY
  exact⟨Q,h',t7,t8,q1,pre ((jZ (Lx (T1.trans (by rw[decide_eq_true g1])))).trans q2)⟩
 ·by_cases g2:(11:Int)<(M:Int)
  ·obtain⟨Q,h',t7,t8,q1,q2⟩:=tY
   exact⟨Q,h',t7,t8,q1,pre ((jZ ((sL (T1.trans (by rw[decide_eq_false g1]))).trans (Lx (T2.trans (by rw[decide_eq_true g2]))))).trans q2)⟩
  ·by_cases g3:(13:Int)<(heads:Int)
   ·obtain⟨Q,h',t7,t8,q1,q2⟩:=tY
    exact⟨Q,h',t7,t8,q1,pre ((jZ ((sL (T1.trans (by rw[decide_eq_false g1]))).trans ((sL (T2.trans (by rw[decide_eq_false g2]))).trans (T3.trans (by rw[decide_eq_true g3]))))).trans q2)⟩
   ·have c9:=Int.emod_lt_of_pos cell (show(0:Int)<9 by decide)
    have hm:=mod_lt (cell/72) (n:=Pb.length) (by omega)
    have ek:cell % 9-6=(((cell % 9-6).toNat:Nat):Int):=by omega
    obtain⟨r,r1,⟨i,hi,r2⟩,r3,r4⟩:=hF (kind:=(cell % 9-6).toNat) (m:=1+(cell/72 %(Pb.length:Int)).toNat) (by omega) (its:=Pb) Uu (by omega) (by omega) (by omega) (by omega) λi hi=>p3 i (mb i hi)
    have WA:i.d<=M:=Tv _ (List.mem_map.mpr ⟨i,hi,rfl⟩)
    refine⟨Pa++[r],heads+1,.sh (.lst (Pb.map It.p)),.sh (.int (M:Nat)),⟨by rw[List.length_append,List.length_singleton];omega,by rw[List.length_append,List.length_singleton];omega,λx hx=>?_,λx hx=>?_,by rw[sN,pM];omega⟩,pre ((dP ((sL (T1.trans (by rw[decide_eq_false g1]))).trans ((sL (T2.trans (by rw[decide_eq_false g2]))).trans (T3.trans (by rw[decide_eq_false g3]))))).trans ?_)⟩
    ·rcases List.mem_append.mp hx with hx|hx
     ·exact p3 x (ma x hx)
     ·obtain rfl:=List.mem_singleton.mp hx
      exact r1
    ·rcases List.mem_append.mp hx with hx|hx
     ·exact p4 x (ma x hx)
     ·obtain rfl:=List.mem_singleton.mp hx
      omega
    ·have e4:Bq (dV 4) fU (dg (ae yJ (bO b7 (dV 4)) (bO b7 (dV 7)))) [s0,s1,s2,.sh (.tup (names.map PV.str)),.ow (P.map It.p),.sh (.int (heads:Nat)),.sh (.int cell),.sh (.lst (Pb.map It.p)),.sh (.int (M:Nat))]=some (.lst (Pa.map It.p)):=by
       have eo:(dg (ae yJ (bO b7 (dV 4)) (bO b7 (dV 7)))) [s0,s1,s2,.sh (.tup (names.map PV.str)),.ow (P.map It.p),.sh (.int (heads:Nat)),.sh (.int cell),.sh (.lst (Pb.map It.p)),.sh (.int (M:Nat))]=some (some ((P.length-j:Nat):Int)):=by
        show some (some (((P.map It.p).length:Int)-((Pb.map It.p).length:Int)))=_
        rw[List.length_map,List.length_map,lb]
        congr 2
        omega
       refine(pO (l:=P.map It.p) rfl rfl eo).trans ?_
       rw[zu _ _ (by rw[List.length_map];omega),<-List.map_take,eA]
     refine(ar (gO e4)).trans ?_
     have e5:aI ao (aa (ae yJ (ae cw (dV 6) (dC (.int 9))) (dC (.int 6))) (aa (ae b9 (dC (.int 1)) (ae cw (ae gK (dV 6) (dC (.int 72))) (bO b7 (dV 7)))) (aa (bb 7) aF))) [s0,s1,s2,.sh (.tup (names.map PV.str)),.ow (Pa.map It.p),.sh (.int (heads:Nat)),.sh (.int cell),.sh (.lst (Pb.map It.p)),.sh (.int (M:Nat))]=some r.p:=by
      refine(aW (av (x:=.int (((cell % 9-6).toNat:Nat):Int)) ?_ (av (x:=.int ((1+(cell/72 %(Pb.length:Int)).toNat:Nat):Int)) ?_ (av (x:=.lst (Pb.map It.p)) rfl rfl)))).trans r4
      ·rw[<-ek]
       rfl
      ·refine(ai (x:=.int ((1:Nat):Int)) rfl ((ai (x:=.int (cell/72)) (y:=.int (Pb.length:Nat)) rfl ?_).trans (cS _ (by omega)))).trans rfl
       show some (PV.int ((Pb.map It.p).length:Nat))=_
       rw[List.length_map]
     refine(ar (app Pa r _ _ _ (by omega) e5)).trans ?_
     exact aJ rfl
theorem vF(h0:names≠[])(s0 s1 s2:Slot):∀(cs:List Int) (k:Nat) (hk:k+cs.length<=100) {P:List It} (hP:Fq Ok k P) (heads:Nat) (s6 s7 s8:Slot),
  ∃(Q:List It) (tX:Nat) (t6 t7 t8:Slot),Fq Ok (k+cs.length) Q/\forL (a9 6) (iK F_law_folded F_law_hand F_law_cell_at ao) (cs.map PV.int) [s0,s1,s2,.sh (.tup (names.map PV.str)),.ow (P.map It.p),.sh (.int (heads:Nat)),s6,s7,s8]=some (.nx [s0,s1,s2,.sh (.tup (names.map PV.str)),.ow (Q.map It.p),.sh (.int (tX:Nat)),t6,t7,t8])
 |[],k,hk,P,hP,heads,s6,s7,s8=>⟨P,heads,s6,s7,s8,hP,rfl⟩
 |c::cs,k,hk,P,hP,heads,s6,s7,s8=>by
  rw[List.length_cons]at hk
  obtain⟨Q,h1,t7,t8,q1,q2⟩:=CH B hn hH hF h0 s0 s1 s2 c (by omega) hP heads s7 s8
  obtain⟨Q',h2,u6,u7,u8,q3,q4⟩:=vF h0 s0 s1 s2 cs (k+1) (by omega) q1 h1 (.sh (.int c)) t7 t8
  refine⟨Q',h2,u6,u7,u8,?_,Eq.trans ?_ q4⟩
  ·rw[List.length_cons,show k+(cs.length+1)=k+1+cs.length by omega]
   exact q3
  ·exact oX (i:=6) (x:=.int c) (xs:=cs.map PV.int) (ρ:=[s0,s1,s2,.sh (.tup (names.map PV.str)),.ow (P.map It.p),.sh (.int (heads:Nat)),s6,s7,s8]) q2
theorem Ft(h0:names≠[])(hC:∀(ns:List Int) (k:Nat),F_law_cell_at [ir ns,.int k]=some (.int (ns.getD k 0)))
  (hL:∀{P:List It},1<=P.length->P.length<=57->(∀i∈P,Ok i)->∀{D:Nat},(∀i∈P,i.d<=D)->L2.D.wt P<=10000->∀c:Int,∃r:It,Ok r/\(r.d<=D+8/\r.t.length<=11000)/\F_law_folded [.lst (P.map It.p),.int c]=some r.p)
  (ns:List Int)(a size:Nat)(Uv:1<=size)(hs:size<=50):∃r:It,Ok r/\(r.d<=20/\r.t.length<=11000)/\fn false 9 4 (qc F_law_folded F_law_hand F_law_cell_at ao) [ir ns,.int a,.int size,.tup (names.map PV.str)]=some r.p:=by
 have zl:(100000:Nat)<=sizeLine:=by decide
 obtain⟨x,hx,ex⟩:=yd B hn hH h0 (ns.getD a 0) (A:=dV 3) (L:=aI F_law_cell_at (aa (bb 0) (aa (bb 1) aF))) (ρ:=[.sh (ir ns),.sh (.int a),.sh (.int size),.sh (.tup (names.map PV.str)),.un,.un,.un,.un,.un]) rfl ((aW (ps:=[ir ns,.int a]) rfl).trans (hC ns a))
 have hl:=hn x hx
 have cl:(km ns (some ((a+1:Nat):Int)) (some ((a+size:Nat):Int))).length<=49:=by
  unfold km yL
  simp only
  rw[if_neg (by omega),if_neg (by omega),List.length_take,List.length_drop,Int.toNat_natCast,Int.toNat_natCast]
  omega
 generalize V2:km ns (some ((a+1:Nat):Int)) (some ((a+size:Nat):Int))=cs at cl
 have V3:Fq Ok 0 [⟨.ins 0 [.str x],.tup [.str "hand",.str x],x,0⟩]:=⟨by simp,by simp,λi hi=>by
  obtain rfl:=List.mem_singleton.mp hi
  exact B.hand x hx,λi hi=>by
  obtain rfl:=List.mem_singleton.mp hi
  exact Nat.zero_le _,by rw[pM];show x.length+2<=_;omega⟩
 obtain⟨Q,h',t6,t7,t8,q1,q2⟩:=vF B hn hH hF (F_law_folded:=F_law_folded) (F_law_cell_at:=F_law_cell_at) h0 (.sh (ir ns)) (.sh (.int a)) (.sh (.int size)) cs 0 (by omega) V3 0 .un .un .un
 obtain⟨p1,p2,p3,p4,p5⟩:=q1
 obtain⟨r,r1,r2,r3⟩:=hL (P:=Q) p1 (by omega) p3 p4 (by omega) (ns.getD 1 0)
 refine⟨r,r1,⟨by omega,by omega⟩,eT rfl ?_⟩
 refine(ar (gO (l:=[It.p ⟨.ins 0 [.str x],.tup [.str "hand",.str x],x,0⟩]) (rl (av ((aW (av ex rfl)).trans (hH x)) rfl) (by simp)))).trans ?_
 refine(ar (aJ (p:=.int ((0:Nat):Int)) rfl)).trans ?_
 have ei:nList (Bq (dV 0) (dg (ae b9 (dV 1) (dC (.int 1)))) (dg (ae b9 (dV 1) (dV 2)))) [.sh (ir ns),.sh (.int a),.sh (.int size),.sh (.tup (names.map PV.str)),.ow [It.p ⟨.ins 0 [.str x],.tup [.str "hand",.str x],x,0⟩],.sh (.int ((0:Nat):Int)),.un,.un,.un]=some (cs.map PV.int):=by
  refine kz ((pO (l:=ns.map PV.int) (a:=some ((a+1:Nat):Int)) (b:=some ((a+size:Nat):Int)) rfl rfl rfl).trans ?_)
  rw[Hl,V2]
 refine(ar ((jy ei).trans q2)).trans ?_
 refine(ar (ρ':=[.sh (ir ns),.sh (.int a),.sh (.int size),.sh (.tup (names.map PV.str)),.sh (.lst (Q.map It.p)),.sh (.int (h':Nat)),t6,t7,t8]) rfl).trans ?_
 exact dM ((aW (av (x:=.lst (Q.map It.p)) rfl (av ((aW (ps:=[ir ns,.int ((1:Nat):Int)]) rfl).trans (hC ns 1)) rfl))).trans r3)
end
theorem ID{names:List Str}{Ok:It->Prop}(B:RS names Ok)(hn:∀x∈names,x.length<=50)(h0:names≠[])(ns:List Int)(a size:Nat)(Uv:1<=size)(hs:size<=50):∃r:It,Ok r/\(r.d<=20/\r.t.length<=11000)/\ck [ir ns,.int a,.int size,.tup (names.map PV.str)]=some r.p:=
 Ft B hn D9 (nL B) h0 ri (CG (nL B)) ns a size Uv hs
theorem place_key:eL F_place:=BJ
theorem ye{x:Str}:∀{l:List Str},x∈l->ef x l<l.length
 |[],h=>nomatch h
 |y::l,h=>by
  unfold ef
  by_cases e:y=x
  ·rw[if_pos e];simp
  ·rw[if_neg e,List.length_cons]
   have:x∈l:=(List.mem_cons.mp h).resolve_left λz=>e z.symm
   have:=ye this
   omega
theorem AQ{names:List Str}{x:Str}(h:x∈names):wb (.tup (names.map PV.str)) (.str x)=some (.int (ef x names:Nat)):=by
 show(p9 (names.map PV.str)).bind (λts=>if decide (x∈ts)then some (PV.int (ef x ts:Nat))else none)=_
 rw[pN]
 show(if decide (x∈names)then some (PV.int (ef x names:Nat))else none)=_
 rw[if_pos (decide_eq_true h)]
theorem IE{names:List Str}{x:Str}(h:x∈names):v8 (.str x) (.tup (names.map PV.str))=some (.bl false):=by
 have a:(names.map PV.str).all flat=true:=List.all_eq_true.mpr λp hp=>by
  obtain⟨y,_,rfl⟩:=List.mem_map.mp hp
  rfl
 have b:Fz (.str x) (names.map PV.str)=true:=List.any_eq_true.mpr ⟨.str x,List.mem_map.mpr ⟨x,h,rfl⟩,by
  show(x==x)=true
  simp⟩
 show(if flat (.str x)&&(names.map PV.str).all flat then some (PV.bl (!Fz (.str x) (names.map PV.str)))else none)=_
 rw[a,b]
 rfl
theorem wx{k:Nat}(hk:k<7):v7 (.int 1) (.int (k:Nat))=some (.int (1*2^k)):=by
 have p:r0 1 (k:Nat)=true:=by
  unfold r0
  rw[decide_eq_true (by omega),decide_eq_true (by omega),decide_eq_true (by decide)]
  rfl
 show(if r0 1 (k:Nat)then some (PV.int (1*2^((k:Nat):Int).toNat))else none)=_
 rw[if_pos p,Int.toNat_natCast]
theorem IF{names:List Str}{x:Str}(h:x∈names)(hl:names.length<=6):dk [.tup (names.map PV.str),.lst [.str x]]=some (.int (Builtin.bitOr 0 (1*2^ef x names))):=by
 have hk:=ye h
 refine eT rfl ?_
 refine(ar (aJ (p:=.int 0) rfl)).trans ?_
 have b:oE [.sh (.tup (names.map PV.str)),.sh (.lst [.str x]),.sh (.int 0),.sh (.str x)]=some (.nx [.sh (.tup (names.map PV.str)),.sh (.lst [.str x]),.sh (.int (Builtin.bitOr 0 (1*2^ef x names))),.sh (.str x)]):=by
  refine(ar ((dP (cE ((ai (x:=.str x) (y:=.tup (names.map PV.str)) rfl rfl).trans (IE h)))).trans rfl)).trans ?_
  exact aJ ((ai (x:=.int 0) rfl ((ai (x:=.int 1) rfl ((ai (x:=.tup (names.map PV.str)) (y:=.str x) rfl rfl).trans (AQ h))).trans (wx (by omega)))).trans rfl)
 refine(ar ((jy (xs:=[.str x]) (kz rfl)).trans ((oX (i:=3) (x:=.str x) (xs:=[]) b).trans rfl))).trans ?_
 exact dM rfl
theorem Oc:(("name" :Str)==("name" :Str))=true:=by decide+kernel
theorem Od:(("parts" :Str)==("wanted" :Str))=false:=by decide+kernel
theorem Oe:(("parts" :Str)==("parts" :Str))=true:=by decide+kernel
theorem Of:(("wanted" :Str)==("wanted" :Str))=true:=by decide+kernel
theorem IG(p:PV):uk vg "name" (.ins 0 [p])=some p:=by
 show List.lookup ("name" :Str) [("name",p)]=_
 rw[List.lookup_cons,Oc]
theorem CI{c:Nat}(h0:0<c)(h4:c<4)(w q:PV):uk vg "wanted" (.ins c [w,q])=some w:=by
 have e:vg c=[("wanted" :Str),("parts" :Str)]:=by
  unfold vg
  rw[if_neg (by omega),if_pos h4]
 show List.lookup ("wanted" :Str) ((vg c).zip [w,q])=_
 rw[e,List.zip_cons_cons,List.lookup_cons,Of]
theorem Fu{c:Nat}(h0:0<c)(h4:c<4)(w q:PV):uk vg "parts" (.ins c [w,q])=some q:=by
 have e:vg c=[("wanted" :Str),("parts" :Str)]:=by
  unfold vg
  rw[if_neg (by omega),if_pos h4]
 show List.lookup ("parts" :Str) ((vg c).zip [w,q])=_
 rw[e,List.zip_cons_cons,List.lookup_cons,Od,List.zip_cons_cons,List.lookup_cons,Oe]
theorem AR{α:Type}{c:de}{ρ:c8}(v:α->PV)(p:α->Bool):∀xs:List α,(∀x∈xs,c (.sh (v x)::ρ)=some (p x))->fJ c (bb 0) ρ (xs.map v)=some ((xs.filter p).map v)
 |[],_=>rfl
 |x::xs,h=>by
  have ih:=AR v p xs λy hy=>h y (List.mem_cons_of_mem _ hy)
  rw[List.map_cons]
  unfold fJ
  rw[h x (List.mem_cons_self ..),ih]
  by_cases hp:p x=true
  ·rw[List.filter_cons_of_pos hp,hp]
   rfl
  ·rw[List.filter_cons_of_neg hp]
   have MY:p x=false:=by simpa using hp
   rw[MY]
   rfl
theorem IH{α:Type}{it:cM}{c:de}{ρ:c8}(v:α->PV)(p:α->Bool){xs:List α}(h1:it ρ=some (xs.map v))(h2:xs.length<=5000)(h3:∀x∈xs,c (.sh (v x)::ρ)=some (p x)):bu it c (bb 0) ρ=some (.lst ((xs.filter p).map v)):=by
 have zl:(5000:Nat)<=sizeLine:=by decide
 exact jh h1 (by rw[List.length_map];omega) (AR v p xs h3)
theorem Og:((List.range 6).all λk=>decide (Builtin.bitOr 0 (1*2^k)=((2^k:Nat):Int)))=true:=by decide+kernel
theorem Rf{k:Nat}(hk:k<6):Builtin.bitOr 0 (1*2^k)=((2^k:Nat):Int):=of_decide_eq_true (List.all_eq_true.mp Og k (List.mem_range.mpr hk))
theorem KC:((List.range 6).all λk=>(List.range 64).all λg=>Mt.sub (2^k) g==decide (Builtin.bitAnd ((g:Int)/2^k) 1=1))=true:=by decide+kernel
theorem Oh{k g:Nat}(hk:k<6)(hg:g<64):Mt.sub (2^k) g=decide (Builtin.bitAnd ((g:Int)/2^k) 1=1):=eq_of_beq (List.all_eq_true.mp (List.all_eq_true.mp KC k (List.mem_range.mpr hk)) g (List.mem_range.mpr hg))
noncomputable def Tells(names:List Str)(i:It)(r:List Nat):Prop:=∀m,i.d<=m->(∃c l,i.o=.ins c l/\eC (m+1) c [i.o,.tup (names.map PV.str)]=some (aE r))/\∀g<2^names.length,dN (m+1) [i.s,.tup (names.map PV.str),.int (g:Nat)]=some (.bl (Mt.lets r g))
noncomputable def Ok(names:List Str)(i:It):Prop:=(∃c l,i.o=.ins c l/\c<4)/\∃r,ij names.length r/\Tells names i r
theorem Ea{names:List Str}(hl:names.length<=6){x:Str}(h:x∈names):Ok names ⟨.ins 0 [.str x],.tup [.str "hand",.str x],x,0⟩:=by
 have hk:=ye h
 have hp:=Nat.pow_lt_pow_right (a:=2) (by decide) hk
 have Bo:=eX hl
 refine⟨⟨0,_,rfl,by decide⟩,[2^ef x names],⟨⟨List.pairwise_singleton _ _,λa ha b hb _=>?_,λa ha=>?_⟩,λa ha=>?_⟩,λm _=>⟨⟨0,_,rfl,?_⟩,λg hg=>?_⟩⟩
 ·rw[List.mem_singleton.mp ha,List.mem_singleton.mp hb]
 ·rw[List.mem_singleton.mp ha]
  omega
 ·rw[List.mem_singleton.mp ha]
  exact hp
 ·have e:aE [2^ef x names]=.lst [.int (Builtin.bitOr 0 (1*2^ef x names))]:=by
    rw[Rf (by omega)]
    rfl
  rw[e]
  refine kB rfl (rl (av ?_ rfl) (by simp))
  refine(aW (av (x:=.tup (names.map PV.str)) rfl (av (x:=.lst [.str x]) ?_ rfl))).trans (IF h hl)
  exact rl (av ((eO (x:=.ins 0 [.str x]) rfl).trans (IG _)) rfl) (by simp)
 ·have e:Mt.lets [2^ef x names] g=decide (Builtin.bitAnd ((g:Int)/2^ef x names) 1=1):=by
    rw[<-Oh (by omega) (by omega)]
    show(Mt.sub (2^ef x names) g||false)=_
    rw[Bool.or_false]
  rw[e]
  refine eT rfl ?_
  refine oA ((jZ (cE ((ai (x:=.str "hand") (y:=.str "hand") rfl rfl).trans ?_))).trans (dM ?_))
  ·show some (PV.bl (decide (("hand" :Str)= "hand")))=_
   rw[decide_eq_true rfl]
  ·refine(ai (x:=.int (Builtin.bitAnd ((g:Int)/2^ef x names) 1)) (y:=.int 1) ((ai (x:=.int ((g:Int)/2^ef x names)) (y:=.int 1) ((ai (x:=.int (g:Nat)) (y:=.int (ef x names:Nat)) rfl ((ai (x:=.tup (names.map PV.str)) (y:=.str x) rfl rfl).trans (AQ h))).trans ?_) rfl).trans rfl) rfl).trans rfl
   show(if decide (0<=((ef x names:Nat):Int))then some (PV.int (((g:Nat):Int)/2^((ef x names:Nat):Int).toNat))else none)=_
   rw[if_pos (decide_eq_true (by omega)),Int.toNat_natCast]
section
variable{names:List Str}{its:List It}{n:Nat}(h8:its.length<=8){R:It->List Nat}(hi:∀i∈its,(ij names.length (R i)/\Tells names i (R i))/\i.d<=n)
include h8 hi
theorem nM(hl:names.length<=6){c:Nat}(h0:0<c)(h4:c<4)(w:Nat):∃r,ij names.length r/\(∀g<2^names.length,Mt.lets r g=decide (w<=(its.filter λi=>Mt.lets (R i) g).length))/\
  ∀m,n<m->fn true 2 2 (cz iI (eC m)) [.ins c [.int (w:Nat),.tup (its.map It.o)],.tup (names.map PV.str)]=some (aE r):=by
 obtain⟨r,r1,r2,r3⟩:=Kb hl (w:Int) (ls:=its.map R) (by rw[List.length_map];omega) (λl h=>by
  obtain⟨i,h1,rfl⟩:=List.mem_map.mp h
  exact(hi i h1).1.1)
 refine⟨r,r1,λg hg=>?_,λm hm=>kB rfl ?_⟩
 ·rw[r2 g hg,decide_eq_decide]
  unfold cnt
  rw[List.countP_map,List.countP_eq_length_filter]
  show((w:Int)<=(((its.filter λi=>Mt.lets (R i) g).length:Nat):Int))↔_
  omega
 ·rw[List.map_map]at r3
  have dc:bu (Ez (bO (uk vg "parts") (dV 0))) cP (vf (eC m) (bb 0) (aa (bb 2) aF)) [.sh (.ins c [.int (w:Nat),.tup (its.map It.o)]),.sh (.tup (names.map PV.str))]=some (.lst (its.map (aE∘R))):=by
   refine ji It.o (aE∘R) ?_ (by omega) λi RI=>?_
   ·show((bO (uk vg "parts") (dV 0)) [.sh (.ins c [.int (w:Nat),.tup (its.map It.o)]),.sh (.tup (names.map PV.str))]).bind Br=_
    rw[(eO (x:=.ins c [.int (w:Nat),.tup (its.map It.o)]) rfl).trans (Fu h0 h4 _ _)]
    rfl
   ·obtain⟨⟨_,ht⟩,hd⟩:=hi i RI
    obtain⟨k,rfl⟩:∃k,m=k+1:=⟨m-1,by omega⟩
    obtain⟨⟨ci,l,e,hs⟩,_⟩:=ht k (by omega)
    rw[e]at hs⊢
    exact hs
  exact(aW (av ((eO (x:=.ins c [.int (w:Nat),.tup (its.map It.o)]) rfl).trans (CI h0 h4 _ _)) (av dc rfl))).trans r3
theorem pX{m:Nat}(hm:n<m){g:Nat}(hg:g<2^names.length){p:PV}(ht:gg p (.int (-1))=some (.tup (its.map It.s)))(s3:Slot):
  bK 3 (bO b7 (bu (Ez (ae gg (dV 0) (bO mO (dC (.int 1))))) (tV (aI (dN m) (aa (bb 0) (aa (bb 2) (aa (bb 3) aF))))) (bb 0))) [.sh p,.sh (.tup (names.map PV.str)),.sh (.int (g:Nat)),s3]=some (.nx [.sh p,.sh (.tup (names.map PV.str)),.sh (.int (g:Nat)),.sh (.int ((its.filter λi=>Mt.lets (R i) g).length:Nat))]):=by
 have dc:bu (Ez (ae gg (dV 0) (bO mO (dC (.int 1))))) (tV (aI (dN m) (aa (bb 0) (aa (bb 2) (aa (bb 3) aF))))) (bb 0) [.sh p,.sh (.tup (names.map PV.str)),.sh (.int (g:Nat)),s3]=some (.lst ((its.filter λi=>Mt.lets (R i) g).map It.s)):=by
  refine IH It.s (λi=>Mt.lets (R i) g) ?_ (by omega) λi RI=>?_
  ·show((ae gg (dV 0) (bO mO (dC (.int 1)))) [.sh p,.sh (.tup (names.map PV.str)),.sh (.int (g:Nat)),s3]).bind Br=_
   rw[(ai (x:=p) (y:=.int (-1)) rfl rfl).trans ht]
   rfl
  ·obtain⟨⟨_,ht⟩,hd⟩:=hi i RI
   obtain⟨k,rfl⟩:∃k,m=k+1:=⟨m-1,by omega⟩
   exact cE ((ht k (by omega)).2 g hg)
 refine aJ ((eO dc).trans ?_)
 show some (PV.int (((its.filter λi=>Mt.lets (R i) g).map It.s).length:Nat))=_
 rw[List.length_map]
end
theorem ne_str{x y:Str}(h:x≠y){a b:Den}{ρ:c8}(ha:a ρ=some (.str x))(hb:b ρ=some (.str y)):tV (ae kc a b) ρ=some false:=by
 refine cE ((ai ha hb).trans ?_)
 show some (PV.bl (decide (x=y)))=_
 rw[decide_eq_false h]
theorem eq_str{x:Str}{a b:Den}{ρ:c8}(ha:a ρ=some (.str x))(hb:b ρ=some (.str x)):tV (ae kc a b) ρ=some true:=by
 refine cE ((ai ha hb).trans ?_)
 show some (PV.bl (decide (x=x)))=_
 rw[decide_eq_true rfl]
theorem ah:("all" :Str)≠ "hand" :=by decide+kernel
theorem yh:("any" :Str)≠ "hand" :=by decide+kernel
theorem V4:("some" :Str)≠ "hand" :=by decide+kernel
theorem ya:("any" :Str)≠ "all" :=by decide+kernel
theorem sa:("some" :Str)≠ "all" :=by decide+kernel
theorem sy:("some" :Str)≠ "any" :=by decide+kernel
theorem tells_of{names:List Str}{its:List It}{n:Nat}(hi:∀i∈its,Ok names i/\i.d<=n):∃R:It->List Nat,∀i∈its,(ij names.length (R i)/\Tells names i (R i))/\i.d<=n:=by
 have:∀i:It,∃r:List Nat,i∈its->(ij names.length r/\Tells names i r)/\i.d<=n:=λi=>by
  by_cases h:i∈its
  ·obtain⟨⟨_,r,hv⟩,hd⟩:=hi i h
   exact⟨r,λ_=>⟨hv,hd⟩⟩
  ·exact⟨[],λz=>absurd z h⟩
 exact⟨λi=>Classical.choose (this i),λi h=>Classical.choose_spec (this i) h⟩
theorem Tx{names:List Str}(hl:names.length<=6):RS names (Ok names) where
 hand:=λx h=>Ea hl h
 all:=λits n h0 h8 hw hi=>by
  obtain⟨R,hv⟩:=tells_of hi
  obtain⟨r,r1,r2,r3⟩:=nM h8 hv hl (c:=1) (by decide) (by decide) its.length
  refine⟨⟨1,_,rfl,by decide⟩,r,r1,λm hm=>⟨⟨1,_,rfl,r3 m (by have:1+n<=m:=hm;omega)⟩,λg hg=>?_⟩⟩
  have Uw:1+n<=m:=hm
  rw[r2 g hg]
  refine eT rfl ?_
  refine(ar ((dP (ne_str ah rfl rfl)).trans rfl)).trans ?_
  refine(ar (pX h8 hv (m:=m) (by omega) hg rfl .un)).trans ?_
  refine oA ((jZ (eq_str rfl rfl)).trans (dM ((ai (x:=.int ((its.filter λi=>Mt.lets (R i) g).length:Nat)) (y:=.int (its.length:Nat)) rfl ?_).trans ?_)))
  ·show some (PV.int ((its.map It.s).length:Nat))=_
   rw[List.length_map]
  ·rw[rj]
   congr 2
   rw[decide_eq_decide]
   have:=List.length_filter_le (λi=>Mt.lets (R i) g) its
   omega
 any:=λits n h0 h8 hw hi=>by
  obtain⟨R,hv⟩:=tells_of hi
  obtain⟨r,r1,r2,r3⟩:=nM h8 hv hl (c:=2) (by decide) (by decide) 1
  refine⟨⟨2,_,rfl,by decide⟩,r,r1,λm hm=>⟨⟨2,_,rfl,r3 m (by have:1+n<=m:=hm;omega)⟩,λg hg=>?_⟩⟩
  have Uw:1+n<=m:=hm
  rw[r2 g hg]
  refine eT rfl ?_
  refine(ar ((dP (ne_str yh rfl rfl)).trans rfl)).trans ?_
  refine(ar (pX h8 hv (m:=m) (by omega) hg rfl .un)).trans ?_
  refine(ar ((dP (ne_str ya rfl rfl)).trans rfl)).trans ?_
  refine oA ((jZ (eq_str rfl rfl)).trans (dM ((ai (x:=.int ((its.filter λi=>Mt.lets (R i) g).length:Nat)) (y:=.int 0) rfl rfl).trans ?_)))
  show some (PV.bl (decide ((0:Int)<((its.filter λi=>Mt.lets (R i) g).length:Int))))=_
  congr 2
  rw[decide_eq_decide]
  omega
 some:=λits n w h0 h8 hw hi h1 h2=>by
  obtain⟨R,hv⟩:=tells_of hi
  obtain⟨r,r1,r2,r3⟩:=nM h8 hv hl (c:=3) (by decide) (by decide) w
  refine⟨⟨3,_,rfl,by decide⟩,r,r1,λm hm=>⟨⟨3,_,rfl,r3 m (by have:1+n<=m:=hm;omega)⟩,λg hg=>?_⟩⟩
  have Uw:1+n<=m:=hm
  rw[r2 g hg]
  refine eT rfl ?_
  refine(ar ((dP (ne_str V4 rfl rfl)).trans rfl)).trans ?_
  refine(ar (pX h8 hv (m:=m) (by omega) hg rfl .un)).trans ?_
  refine(ar ((dP (ne_str sa rfl rfl)).trans rfl)).trans ?_
  refine(ar ((dP (ne_str sy rfl rfl)).trans rfl)).trans ?_
  refine dM ((ai (x:=.int ((its.filter λi=>Mt.lets (R i) g).length:Nat)) (y:=.int (w:Nat)) rfl rfl).trans ?_)
  show some (PV.bl (decide ((w:Int)<=((its.filter λi=>Mt.lets (R i) g).length:Int))))=_
  congr 2
  rw[decide_eq_decide]
  omega
section
variable{F_law_cell_at ck ao F_law_hand:List PV->Option PV}
theorem AS{names:List Str}(hl:names.length<=6)(hn:∀x∈names,x.length<=50)(h0:names≠[])
  (hC:∀(ns:List Int) (k:Nat),F_law_cell_at [ir ns,.int k]=some (.int (ns.getD k 0)))
  (hH:∀x:Str,F_law_hand [.str x]=some (It.p ⟨.ins 0 [.str x],.tup [.str "hand",.str x],x,0⟩))
  (hF:∀{kind m:Nat},kind<3->∀{its:List It},its≠[]->its.length<=8->L2.D.wt its<=50000->1<=m->m<=its.length->(∀i∈its,Ok names i)->∃r:It,Ok names r/\(∃i∈its,r.d=1+i.d)/\r.t.length+2<=L2.D.wt its+10/\ao [.int kind,.int m,.lst (its.map It.p)]=some r.p)
  (hB:∀(ns:List Int) (a size:Nat),1<=size->size<=50->∃r:It,Ok names r/\(r.d<=20/\r.t.length<=11000)/\ck [ir ns,.int a,.int size,.tup (names.map PV.str)]=some r.p)
  (ns:List Int):∃r:It,Ok names r/\r.d<=21/\fn false 5 2 (mB F_law_cell_at ck ao F_law_hand) [ir ns,.tup (names.map PV.str)]=some r.p:=by
 have c4:bK 2 (aI F_law_cell_at (aa (bb 0) (aa (dC (.int 4)) aF))) [.sh (ir ns),.sh (.tup (names.map PV.str)),.un,.un,.un]=some (.nx [.sh (ir ns),.sh (.tup (names.map PV.str)),.sh (.int (ns.getD 4 0)),.un,.un]):=aJ ((aW (ps:=[ir ns,.int (4:Nat)]) rfl).trans (hC ns 4))
 generalize ns.getD 4 0=cell at c4
 have t:tV (ae kc (ae cw (dV 2) (dC (.int 2))) (dC (.int 0))) [.sh (ir ns),.sh (.tup (names.map PV.str)),.sh (.int cell),.un,.un]=some (decide (cell % 2=0)):=cE ((ai (x:=.int (cell % 2)) (y:=.int 0) rfl rfl).trans (DH _ _))
 by_cases e:cell % 2=0
 ·obtain⟨r,a1,a2,a3⟩:=hB ns 6 50 (by decide) (by decide)
  refine⟨r,a1,by omega,eT rfl ((ar c4).trans (oA ((jZ (t.trans (by rw[decide_eq_true e]))).trans (dM ((aW (ps:=[ir ns,.int (6:Nat),.int (50:Nat),.tup (names.map PV.str)]) rfl).trans a3)))))⟩
 ·obtain⟨r,a1,a2,a3⟩:=hB ns 6 24 (by decide) (by decide)
  obtain⟨x,hx,ex⟩:=yd (F_law_hand:=F_law_hand) (Tx hl) hn hH h0 (cell/2) (A:=dV 1) (L:=ae gK (dV 2) (dC (.int 2))) (ρ:=[.sh (ir ns),.sh (.tup (names.map PV.str)),.sh (.int cell),.sh r.p,.un]) rfl rfl
  have WB:=hn x hx
  have hk:=mod_lt (cell/12) (n:=3) (by decide)
  have hm:=mod_lt (cell/36) (n:=3) (by decide)
  obtain⟨q,q1,⟨i,hi,q2⟩,q3,q4⟩:=hF (kind:=(cell/12 %((3:Nat):Int)).toNat) (m:=1+(cell/36 %((3:Nat):Int)).toNat) hk (its:=[r,⟨.ins 0 [.str x],.tup [.str "hand",.str x],x,0⟩,r]) (by simp) (by simp) (by rw[L2.D.wD,L2.D.wD,L2.D.pM];show _+(x.length+2+_)<=_;omega) (by omega) (by show _<=3;omega) (λi hi=>by
   simp only[List.mem_cons,List.not_mem_nil,or_false]at hi
   rcases hi with rfl|rfl|rfl
   ·exact a1
   ·exact Ea hl hx
   ·exact a1)
  refine⟨q,q1,?_,eT rfl ((ar c4).trans ((ar ((dP (t.trans (by rw[decide_eq_false e]))).trans rfl)).trans ((ar (aJ ((aW (ps:=[ir ns,.int (6:Nat),.int (24:Nat),.tup (names.map PV.str)]) rfl).trans a3))).trans ?_)))⟩
  ·simp only[List.mem_cons,List.not_mem_nil,or_false]at hi
   rcases hi with rfl|rfl|rfl
   ·omega
   ·show q.d<=21
    have:q.d=1+0:=q2
    omega
   ·omega
  ·refine(ar (aJ (p:=.lst ([r,⟨.ins 0 [.str x],.tup [.str "hand",.str x],x,0⟩,r].map It.p)) (rl (av (x:=r.p) rfl (av ((aW (av ex rfl)).trans (hH x)) (av (x:=r.p) rfl rfl))) (by simp)))).trans (dM ?_)
   refine(aW (av ((ai (x:=.int (cell/12)) (y:=.int ((3:Nat):Int)) rfl rfl).trans (cS _ (by decide))) (av (x:=.int ((1+(cell/36 %((3:Nat):Int)).toNat:Nat):Int)) ?_ (av (x:=.lst ([r,⟨.ins 0 [.str x],.tup [.str "hand",.str x],x,0⟩,r].map It.p)) rfl rfl)))).trans q4
   exact(ai (x:=.int ((1:Nat):Int)) rfl ((ai (x:=.int (cell/36)) (y:=.int ((3:Nat):Int)) rfl rfl).trans (cS _ (by decide)))).trans rfl
end
theorem CJ{names:List Str}(hl:names.length<=6)(hn:∀x∈names,x.length<=50)(h0:names≠[])(ns:List Int):∃r:It,Ok names r/\r.d<=21/\F_law_doubled [ir ns,.tup (names.map PV.str)]=some r.p:=
 AS hl hn h0 ri D9 (nL (Tx hl)) (λns a size h1 h2=>ID (Tx hl) hn h0 ns a size h1 h2) ns
theorem KD(ns:List Int):∃xs:List Str,xs≠[]/\xs.length<=6/\(∀x∈xs,x.length<=50)/\F_law_roll [ir ns]=some (.tup (xs.map PV.str)):=by
 have hz:=mod_lt (ns.getD 0 0) (n:=6) (by decide)
 obtain⟨xs,h1,h2,h3⟩:=IA ns 2 (1+(ns.getD 0 0 %((6:Nat):Int)).toNat) (by omega)
 refine⟨xs,λz=>by rw[z]at h1;simp at h1;omega,by omega,h2,kB rfl ?_⟩
 refine(eO ((aW (av (x:=ir ns) rfl (av (x:=.int (2:Nat)) rfl (av (x:=.int ((1+(ns.getD 0 0 %((6:Nat):Int)).toNat:Nat):Int)) ?_ rfl)))).trans h3)).trans rfl
 exact(ai (x:=.int ((1:Nat):Int)) rfl ((ai (y:=.int ((6:Nat):Int)) ((aW (ps:=[ir ns,.int (0:Nat)]) rfl).trans (ri ns 0)) rfl).trans (cS _ (by decide)))).trans rfl
theorem KG:((List.range 64).all λg=>decide ((List.range 6).filter (λk=>decide (bit g k=1))=Mt.fI g))=true:=by decide+kernel
theorem II{g:Nat}(hg:g<64):(List.range 6).filter (λk=>decide (bit g k=1))=Mt.fI g:=of_decide_eq_true (List.all_eq_true.mp KG g (List.mem_range.mpr hg))
noncomputable def hF(ps:List PV):Option PV:=match ps with
 |[.int g]=>some (aE (Mt.fI g.toNat))
 |_=>none
theorem CK{a b:Nat}(ha:a<64)(hb:b<64):bt [.int a,.int b]=some (.bl (EW a b)):=by
 have c1:∀s2 s3 s4 s5,bu (dX (dC (.int 6))) (tV (ae kc (ae j9 (ae r9 (dV 1) (dV 0)) (dC (.int 1))) (dC (.int 1)))) (bb 0) [.sh (.int a),.sh (.int b),s2,s3,s4,s5]=some (aE (Mt.fI a)):=λs2 s3 s4 s5=>by
  rw[<-II ha]
  exact lZ (gT (n:=6) rfl (by decide)) (by decide) λn _=>cE (DN (A:=dV 1) (B:=dV 0) rfl rfl 1)
 have c2:∀s2 s3 s4 s5,bu (dX (dC (.int 6))) (tV (ae kc (ae j9 (ae r9 (dV 2) (dV 0)) (dC (.int 1))) (dC (.int 1)))) (bb 0) [.sh (.int a),.sh (.int b),s2,s3,s4,s5]=some (aE (Mt.fI b)):=λs2 s3 s4 s5=>by
  rw[<-II hb]
  exact lZ (gT (n:=6) rfl (by decide)) (by decide) λn _=>cE (DN (A:=dV 2) (B:=dV 0) rfl rfl 1)
 have l:=(ar (aJ (i:=2) (c1 .un .un .un .un))).trans (ar (aJ (i:=3) (c2 (.sh (aE (Mt.fI a))) .un .un .un)) (b:=aR (jo (tV (ae nY (bO b7 (dV 2)) (bO b7 (dV 3)))) (bx (ae AW (bO b7 (dV 2)) (bO b7 (dV 3)))) cD) (aR (ko (Bt (bb 2) (bb 3)) (kn (a9 4) (a9 5)) kE) (bx (dC (.bl false))))))
 have q:jA (d9 6 [.int a,.int b])=rg hF (d9 6 [.int a,.int b]):=l.trans ((ar (aJ (i:=2) (a:=aI hF (aa (bb 0) aF)) (ρ:=[.sh (.int a),.sh (.int b),.un,.un,.un,.un]) (p:=aE (Mt.fI a)) rfl)).trans (ar (aJ (i:=3) (a:=aI hF (aa (bb 1) aF)) (ρ:=[.sh (.int a),.sh (.int b),.sh (aE (Mt.fI a)),.un,.un,.un]) (p:=aE (Mt.fI b)) rfl))).symm
 refine Eq.trans ?_ (NA (F:=hF) (λg _=>rfl) ha hb)
 show fn false 6 2 jA _=_
 unfold fn
 rw[q]
theorem Fv(k:Int):bG [.int k]=some (.bl true):=rfl
section
variable{bG bt:List PV->Option PV}(hW:∀k:Int,bG [.int k]=some (.bl true))(hB:∀{a b:Nat},a<64->b<64->bt [.int a,.int b]=some (.bl (EW a b)))
include hW hB
theorem Fw{n:Nat}(n6:n<=6){r:List Nat}(h:ij n r):fn false 3 2 (kF bG bt) [aE r,.int ((2^n:Nat):Int)]=some (.bl true):=by
 have hlen:=h.len
 have zl:(5000:Nat)<=sizeLine:=by decide
 have RP:=eX n6
 refine eT rfl ?_
 refine(ar ((dP (oB (b:=true) (cE rfl))).trans rfl)).trans ?_
 have it:dX (bO b7 (dV 0)) [.sh (aE r),.sh (.int ((2^n:Nat):Int)),.un]=some (pl (List.range r.length)):=gT (by
  show some (PV.int ((pl r).length:Nat))=_
  rw[eu]) (by omega)
 have body:∀x∈pl (List.range r.length),eY bG bt [.sh (aE r),.sh (.int ((2^n:Nat):Int)),.sh x]=some (.nx [.sh (aE r),.sh (.int ((2^n:Nat):Int)),.sh x]):=by
  intro x hx
  obtain⟨k,JG,rfl⟩:=BL hx
  have hk:=List.mem_range.mp JG
  have g1:=h.lad.small r[k] (List.getElem_mem hk)
  have g2:=h.lt r[k] (List.getElem_mem hk)
  have ix:ae gg (dV 0) (dV 2) [.sh (aE r),.sh (.int ((2^n:Nat):Int)),.sh (.int (k:Nat))]=some (.int (r[k]:Nat)):=pL hk
  refine(ar ((dP ?_).trans rfl)).trans ?_
  ·refine(sL (oB (b:=true) (cE ((aW (av ix rfl)).trans (hW _))))).trans ?_
   refine(sL (cE (b:=false) ((ai ix (y:=.int 0) rfl).trans ?_))).trans (cE ((ai ix (y:=.int ((2^n:Nat):Int)) rfl).trans ?_))
   ·show some (PV.bl (decide (((r[k]:Nat):Int)<0)))=_
    rw[decide_eq_false (by omega)]
   ·show some (PV.bl (decide (((2^n:Nat):Int)<=((r[k]:Nat):Int))))=_
    rw[decide_eq_false (by omega)]
  refine(ar ((dP ?_).trans rfl)).trans ?_
  ·by_cases k0:k=0
   ·refine NC (cE ?_)
    show some (PV.bl (decide ((0:Int)<(k:Nat))))=_
    rw[decide_eq_false (by omega)]
   ·have RB:k-1<r.length:=by omega
    have g0:=h.lad.small r[k-1] (List.getElem_mem RB)
    have V5:ae gg (dV 0) (ae yJ (dV 2) (dC (.int 1))) [.sh (aE r),.sh (.int ((2^n:Nat):Int)),.sh (.int (k:Nat))]=some (.int (r[k-1]:Nat)):=by
     refine(ai (x:=aE r) (y:=.int ((k-1:Nat):Int)) rfl ?_).trans (pL RB)
     have e:((k:Int)-1)=((k-1:Nat):Int):=by omega
     show some (PV.int ((k:Int)-1))=_
     rw[e]
    refine(NB (cE ?_)).trans (oB (b:=true) (cE ((aW (av V5 (av ix rfl))).trans ((hB g0 g1).trans ?_))))
    ·show some (PV.bl (decide ((0:Int)<(k:Nat))))=_
     rw[decide_eq_true (by omega)]
    ·rw[vt g0 g1,decide_eq_true (List.pairwise_iff_getElem.mp h.lad.ord (k-1) k RB hk (by omega))]
  refine(dP (cE ((eO (BN (l:=r.take k) (f:=λa=>.bl (Mt.sub a r[k])) ?_ ?_ λa ha=>?_)).trans ?_))).trans rfl
  ·refine kz ((pO (A:=dV 0) (lo:=fU) (hi:=dg (dV 2)) (l:=pl r) (a:=none) (b:=some (k:Int)) rfl rfl rfl).trans ?_)
   rw[zu _ _ (by rw[eu];omega)]
   unfold pl
   rw[List.map_take]
  ·rw[List.length_take]
   omega
  ·exact sub_eq (A:=dV 0) (B:=ae gg (dV 1) (dV 3)) rfl (pL hk)
  ·show(bools ((r.take k).map λa=>PV.bl (Mt.sub a r[k]))).map _=_
   rw[show(λa=>PV.bl (Mt.sub a r[k]))=PV.bl∘λa=>Mt.sub a r[k]from rfl,<-List.map_map,pJ]
   show some (PV.bl (((r.take k).map λa=>Mt.sub a r[k]).any id))=_
   refine congrArg (λb=>some (PV.bl b)) (Bool.eq_false_iff.mpr λz=>?_)
   obtain⟨b,hb,SW⟩:=List.any_eq_true.mp z
   obtain⟨a,ha,rfl⟩:=List.mem_map.mp hb
   obtain⟨j,hj,e⟩:=List.mem_iff_getElem.mp ha
   rw[List.length_take]at hj
   rw[List.getElem_take]at e
   have V6:j<k:=by omega
   have Ux:j<r.length:=by omega
   have e2:=h.lad.anti a (e▸List.getElem_mem Ux) r[k] (List.getElem_mem hk) SW
   have o:=List.pairwise_iff_getElem.mp h.lad.ord j k Ux hk V6
   rw[e,e2]at o
   omega
 obtain⟨s,e⟩:=vx (i:=2) (body:=eY bG bt) (pl (List.range r.length)) [.sh (aE r),.sh (.int ((2^n:Nat):Int)),.un] body
 exact(ar ((jy it).trans e)).trans rfl
end
theorem order_eq{n:Nat}(n6:n<=6){r:List Nat}(h:ij n r):F_law_in_order [aE r,.int ((2^n:Nat):Int)]=some (.bl true):=Fw Fv CK n6 h
section
variable{F_law_roll F_law_doubled F_law_in_order bj:List PV->Option PV}{T_ladder:Nat->List PV->Option PV}
theorem AU{names:List Str}{c:Nat}{l:List PV}{sp:PV}{r:List Nat}(hr:ij names.length r)(n6:names.length<=6)(h2:∀g<2^names.length,bj [sp,.tup (names.map PV.str),.int (g:Nat)]=some (.bl (Mt.lets r g)))
  (s0 s4 s5 s6 D8:Slot):∀(gs:List Nat) (s8 s9:Slot),(∀g∈gs,g<2^names.length)->∃t8 t9,forL (a9 8) (DU F_law_roll F_law_doubled F_law_in_order bj T_ladder) (pl gs) [s0,.sh (.tup (names.map PV.str)),.sh (.ins c l),.sh sp,s4,s5,s6,.ow (pl r),s8,s9,D8]=some (.nx [s0,.sh (.tup (names.map PV.str)),.sh (.ins c l),.sh sp,s4,s5,s6,.ow (pl r),t8,t9,D8])
 |[],s8,s9,_=>⟨s8,s9,rfl⟩
 |g::gs,s8,s9,h=>by
  have zl:(5000:Nat)<=sizeLine:=by decide
  have hlen:=hr.len
  obtain⟨t8,t9,e⟩:=AU hr n6 h2 s0 s4 s5 s6 D8 gs (.sh (.int (g:Nat))) (.sh (aE (r.filter λa=>Mt.sub a g))) λx hx=>h x (List.mem_cons_of_mem _ hx)
  refine⟨t8,t9,(oX (i:=8) (x:=.int (g:Nat)) (xs:=pl gs) (ρ:=[s0,.sh (.tup (names.map PV.str)),.sh (.ins c l),.sh sp,s4,s5,s6,.ow (pl r),s8,s9,D8]) ?_).trans e⟩
  have dc:bu (nList (dV 7)) (tV (ae kc (ae j9 (dV 0) (dV 9)) (dV 0))) (bb 0) [s0,.sh (.tup (names.map PV.str)),.sh (.ins c l),.sh sp,s4,s5,s6,.ow (pl r),.sh (.int (g:Nat)),s9,D8]=some (aE (r.filter λa=>Mt.sub a g)):=
   lZ (l:=r) rfl (by omega) λa _=>cE (sub_eq (A:=dV 0) (B:=dV 9) rfl rfl)
  refine(ar (aJ dc)).trans ?_
  refine(dP (cE ((ai (x:=.bl (Mt.lets r g)) (y:=.bl (Mt.lets r g)) ((aW (ps:=[sp,.tup (names.map PV.str),.int (g:Nat)]) rfl).trans (h2 g (h g (List.mem_cons_self ..)))) ((ai (x:=aE (r.filter λa=>Mt.sub a g)) (y:=aE []) rfl rfl).trans ((NG _ _).trans ?_))).trans ?_))).trans rfl
  ·congr 2
   rw[Bool.eq_iff_iff,Mt.dW]
   simp only[Bool.not_eq_true',decide_eq_false_iff_not]
   constructor
   ·intro z
    obtain⟨a,ha⟩:=List.exists_mem_of_ne_nil _ z
    exact⟨a,(List.mem_filter.mp ha).1,(List.mem_filter.mp ha).2⟩
   ·rintro⟨a,h1,h2⟩ z
    have:a∈r.filter λa=>Mt.sub a g:=List.mem_filter.mpr ⟨h1,h2⟩
    rw[z]at this
    exact nomatch this
  ·rw[ND,decide_eq_true rfl]
   rfl
theorem KH(hT:∀(names:List Str) (i:It),Ok names i->i.d<=21->∃c l,i.o=.ins c l/\c<4/\∃r,ij names.length r/\T_ladder c [i.o,.tup (names.map PV.str)]=some (aE r)/\∀g<2^names.length,bj [i.s,.tup (names.map PV.str),.int (g:Nat)]=some (.bl (Mt.lets r g)))
  (hO:∀{n:Nat},n<=6->∀{r:List Nat},ij n r->F_law_in_order [aE r,.int ((2^n:Nat):Int)]=some (.bl true))
  (hR:∀ns:List Int,∃xs:List Str,xs≠[]/\xs.length<=6/\(∀x∈xs,x.length<=50)/\F_law_roll [ir ns]=some (.tup (xs.map PV.str)))
  (hD:∀{names:List Str},names.length<=6->(∀x∈names,x.length<=50)->names≠[]->∀ns:List Int,∃r:It,Ok names r/\r.d<=21/\F_law_doubled [ir ns,.tup (names.map PV.str)]=some r.p)
  (ns:List Int):fn false 11 1 (Lz F_law_roll F_law_doubled F_law_in_order bj T_ladder) [ir ns]=some (.bl true):=by
 obtain⟨names,x0,xl,xs,ex⟩:=hR ns
 obtain⟨i,a1,a2,a3⟩:=hD xl xs x0 ns
 obtain⟨c,l,eo,hc,r,hr,t1,t2⟩:=hT names i a1 a2
 have RP:=eX xl
 obtain⟨o,sp,tx,d⟩:=i
 simp only at eo t1 t2
 subst eo
 refine eT rfl ?_
 refine(ar (aJ ((aW (ps:=[ir ns]) rfl).trans ex))).trans ?_
 have asg:M0 (Df [(a9 2),(a9 3),(a9 4),(a9 5)]) (aI F_law_doubled (aa (bb 0) (aa (bb 1) aF))) [.sh (ir ns),.sh (.tup (names.map PV.str)),.un,.un,.un,.un,.un,.un,.un,.un,.un]=some (.nx [.sh (ir ns),.sh (.tup (names.map PV.str)),.sh (.ins c l),.sh sp,.sh (.str tx),.sh (.int (d:Nat)),.un,.un,.un,.un,.un]):=by
  have:aI F_law_doubled (aa (bb 0) (aa (bb 1) aF)) [.sh (ir ns),.sh (.tup (names.map PV.str)),.un,.un,.un,.un,.un,.un,.un,.un,.un]=some (It.p ⟨.ins c l,sp,tx,d⟩):=(aW (ps:=[ir ns,.tup (names.map PV.str)]) rfl).trans a3
  show(aI F_law_doubled (aa (bb 0) (aa (bb 1) aF)) [.sh (ir ns),.sh (.tup (names.map PV.str)),.un,.un,.un,.un,.un,.un,.un,.un,.un]).bind _=_
  rw[this]
  rfl
 refine(ar asg).trans ?_
 have rr:bO M3 (dV 2) [.sh (ir ns),.sh (.tup (names.map PV.str)),.sh (.ins c l),.sh sp,.sh (.str tx),.sh (.int (d:Nat)),.un,.un,.un,.un,.un]=some (.bl true):=by
  show(if decide (c<4)then some (PV.bl true)else none)=_
  rw[if_pos (decide_eq_true hc)]
 refine(ar ((dP (oB (b:=true) (cE rr))).trans rfl)).trans ?_
 have es:ae v7 (dC (.int 1)) (bO b7 (dV 1)) [.sh (ir ns),.sh (.tup (names.map PV.str)),.sh (.ins c l),.sh sp,.sh (.str tx),.sh (.int (d:Nat)),.un,.un,.un,.un,.un]=some (.int ((2^names.length:Nat):Int)):=by
  have el:bO b7 (dV 1) [.sh (ir ns),.sh (.tup (names.map PV.str)),.sh (.ins c l),.sh sp,.sh (.str tx),.sh (.int (d:Nat)),.un,.un,.un,.un,.un]=some (.int (names.length:Nat)):=by
   show some (PV.int ((names.map PV.str).length:Nat))=_
   rw[List.length_map]
  exact(ai (x:=.int 1) rfl el).trans (DL _ xl)
 refine(ar (aJ es)).trans ?_
 refine(ar (gO (l:=pl r) t1)).trans ?_
 refine(ar ((dP (oB (b:=true) (cE (E1 (ps:=[aE r,.int ((2^names.length:Nat):Int)]) rfl (hO xl hr) rfl)))).trans rfl)).trans ?_
 obtain⟨t8,t9,f⟩:=AU (F_law_roll:=F_law_roll) (F_law_doubled:=F_law_doubled) (F_law_in_order:=F_law_in_order) (T_ladder:=T_ladder) (c:=c) (l:=l) hr xl t2 (.sh (ir ns)) (.sh (.str tx)) (.sh (.int (d:Nat))) (.sh (.int ((2^names.length:Nat):Int))) .un (List.range (2^names.length)) .un .un λg hg=>List.mem_range.mp hg
 refine(ar ((jy (gT (n:=2^names.length) rfl (by omega))).trans f)).trans ?_
 refine(ar (aJ (p:=aE r) rfl)).trans ?_
 refine(ar (ρ':=[.sh (ir ns),.sh (.tup (names.map PV.str)),.sh (.ins c l),.sh sp,.sh (.str tx),.sh (.int (d:Nat)),.sh (.int ((2^names.length:Nat):Int)),.ow [],t8,t9,.sh (aE r)]) rfl).trans ?_
 refine dM ((ai (x:=aE r) (y:=aE r) t1 rfl).trans ((NF r r).trans ?_))
 rw[decide_eq_true rfl]
end
theorem tabs(names:List Str)(i:It)(h:Ok names i)(hd:i.d<=21):∃c l,i.o=.ins c l/\c<4/\∃r,ij names.length r/\T_ladder c [i.o,.tup (names.map PV.str)]=some (aE r)/\∀g<2^names.length,bj [i.s,.tup (names.map PV.str),.int (g:Nat)]=some (.bl (Mt.lets r g)):=by
 obtain⟨⟨c,l,e,hc⟩,r,hr,hv⟩:=h
 obtain⟨⟨c',l',e',h1⟩,h2⟩:=hv 23 (by omega)
 rw[e]at e'
 cases e'
 exact⟨c,l,e,hc,r,hr,h1,h2⟩
theorem law_true(ns:List Int)(h:ns.length<=63):DV [.lst (ns.map .int)]=some (.bl true):=KH tabs order_eq KD CJ ns
end L2.D.My
open PySem PySem.W PyProof.Rows
theorem PySem.Challenge.cw_signright_k25_the_least_groups_holds : PySem.Challenge.rw_signright_k25_the_least_groups.Holds := by
  w_on
  refine PySem.W.holds_law (by kernel_rfl) fun V7 => ?_
  refine PySem.W.holds_open (q := L2.D.My.Oi) (loose := []) (Xt := L2.D.My.RV) (XP := XL L2.D.My.Oi []) (Yf := Hook.obs (kHook L2.D.My.IJ L2.D.My.IK L2.D.My.IW)) (Ya := Hook.val (kHook L2.D.My.IJ L2.D.My.IK L2.D.My.IW)) (YP := Hook.says (kHook L2.D.My.IJ L2.D.My.IK L2.D.My.IW)) (N := 20000) L2.D.My.UE (Hook.of (kHook L2.D.My.IJ L2.D.My.IK L2.D.My.IW)) (Hook.keeps (kHook L2.D.My.IJ L2.D.My.IK L2.D.My.IW)) (fun s e => xl_of s (Bool.and_eq_true_iff.mp e).1) XL.keeps (by rfl) (by rfl) (by rfl) (fun s e => recFacts_of (Bool.and_eq_true_iff.mp e).2) (by rfl) (by first | assumption | decide +kernel) (by decide +kernel) ⟨rfl, rfl, rfl, rfl, rfl, by decide +kernel⟩ ?hw ?hc
  (case hw => w_witness2)
  k_fill
  refine L2.D.walkD2 (l := PySem.Challenge.rw_signright_k25_the_least_groups) (k := 33) (x := "_law_script") (F := L2.D.My.DV) rfl (by decide) rfl ⟨rfl, by decide, by decide⟩ (fun w h Y => PySem.W.kIn_of Y) ?F L2.D.My.law_true
  case F =>
    intro w mg fa h KX G Pw
    refine' L2.D.My.all_mk L2.D.My.place_key KX G Pw ?Cd ?m8 ?Ce ?Ii ?Ij ?Cg ?ro ?rq ?rA ?rB ?xF ?xG ?xH ?xI ?xJ ?kU ?xK ?xM ?xN ?xO ?Ci ?Cj ?Ck ?Cm ?Co ?jE ?kW ?xP ?xQ ?xR ?xS ?Cp ?Cq ?Cr ?Cs ?Ct ?jF ?kX ?rC ?rD ?rE ?rF ?xT ?xU ?xV ?xW ?xX ?iP ?jG ?OG ?OH ?fiH ?fnH ?NV ?NW ?NX ?fiA ?fnA ?NY ?NZ ?N1 ?fiY ?fnY ?N2 ?N3 ?N4 ?fiS ?fnS ?N5 ?N6 ?N7 ?fiC ?fnC ?N8 ?N9 ?Kx ?rdC ?fcC ?gaC ?hdC ?m9 ?nc ?jH ?ng ?nh ?ni ?jI ?nj ?xY ?xZ ?pS ?x4 ?tO ?tP ?nq ?tQ ?Cu ?Cv ?tR ?Cw ?x5 ?x6 ?pT ?x8 ?kZ ?k7 ?iQ ?k8 ?pU ?pV ?k9 ?pW ?Cy ?Cz ?tS ?CA ?nr ?nu ?jJ ?nv ?iR ?iS ?gX ?cc ?er ?dE ?bU ?gZ ?fP ?g7 ?fm ?eS ?iT ?iU ?fQ ?iV ?ny ?nA ?jK ?nB ?nC ?nD ?jL ?nE ?lg ?lh ?iW ?lj ?nF ?nG ?jM ?nH ?iX ?iY ?fR ?iZ ?jN ?jO ?g8 ?jP ?nI ?nJ ?jQ ?nK ?ll ?lp ?i0 ?lq ?i3 ?i4 ?fT ?i5 ?lr ?lu ?i6 ?lz ?jR ?jS ?g9 ?jT ?hU ?hV ?fq ?ic ?lC ?lD ?i7 ?lE ?D5 ?Ik ?x9 ?Il ?Im ?CB ?Ip ?jU ?Iq ?CD ?Ir ?yb ?tT ?Iu ?yc ?Iv ?jV
    (case Cd => k_is)
    (case m8 => k_is)
    (case Ce => k_is)
    (case Ii => k_is)
    (case Ij => k_is)
    (case Cg => k_is)
    (case ro => k_is)
    (case rq => k_is)
    (case rA => k_is)
    (case rB => k_is)
    (case xF => k_is)
    (case xG => k_is)
    (case xH => k_is)
    (case xI => k_is)
    (case xJ => kit_is)
    (case kU => k_is)
    (case xK => k_is)
    (case xM => k_is)
    (case xN => k_is)
    (case xO => k_is)
    (case Ci => k_is)
    (case Cj => k_is)
    (case Ck => k_is)
    (case Cm => k_is)
    (case Co => kit_is)
    (case jE => k_is)
    (case kW => k_is)
    (case xP => k_is)
    (case xQ => k_is)
    (case xR => k_is)
    (case xS => k_is)
    (case Cp => k_is)
    (case Cq => k_is)
    (case Cr => k_is)
    (case Cs => k_is)
    (case Ct => kit_is)
    (case jF => k_is)
    (case kX => k_is)
    (case rC => k_is)
    (case rD => k_is)
    (case rE => k_is)
    (case rF => k_is)
    (case xT => k_is)
    (case xU => k_is)
    (case xV => k_is)
    (case xW => k_is)
    (case xX => kit_is)
    (case iP => k_is)
    (case jG => k_is)
    (case OG => k_is)
    (case OH => k_is)
    (case fiH => k_is)
    (case fnH => k_is)
    (case NV => k_is)
    (case NW => k_is)
    (case NX => k_is)
    (case fiA => k_is)
    (case fnA => k_is)
    (case NY => k_is)
    (case NZ => k_is)
    (case N1 => k_is)
    (case fiY => k_is)
    (case fnY => k_is)
    (case N2 => k_is)
    (case N3 => k_is)
    (case N4 => k_is)
    (case fiS => k_is)
    (case fnS => k_is)
    (case N5 => k_is)
    (case N6 => k_is)
    (case N7 => k_is)
    (case fiC => k_is)
    (case fnC => k_is)
    (case N8 => k_is)
    (case N9 => k_is)
    (case Kx => k_is)
    (case rdC => k_is)
    (case fcC => k_is)
    (case gaC => k_is)
    (case hdC => rfl)
    (case m9 => k_is)
    (case nc => k_is)
    (case jH => k_is)
    (case ng => k_is)
    (case nh => k_is)
    (case ni => k_is)
    (case jI => k_is)
    (case nj => k_is)
    (case xY => k_is)
    (case xZ => k_is)
    (case pS => k_is)
    (case x4 => k_is)
    (case tO => k_is)
    (case tP => k_is)
    (case nq => k_is)
    (case tQ => k_is)
    (case Cu => k_is)
    (case Cv => k_is)
    (case tR => k_is)
    (case Cw => k_is)
    (case x5 => k_is)
    (case x6 => k_is)
    (case pT => k_is)
    (case x8 => k_is)
    (case kZ => k_is)
    (case k7 => k_is)
    (case iQ => k_is)
    (case k8 => k_is)
    (case pU => k_is)
    (case pV => k_is)
    (case k9 => k_is)
    (case pW => k_is)
    (case Cy => k_is)
    (case Cz => k_is)
    (case tS => k_is)
    (case CA => k_is)
    (case nr => k_is)
    (case nu => k_is)
    (case jJ => k_is)
    (case nv => k_is)
    (case iR => k_is)
    (case iS => k_is)
    (case gX => k_is)
    (case cc => k_is)
    (case er => k_is)
    (case dE => k_is)
    (case bU => k_is)
    (case gZ => k_is)
    (case fP => k_is)
    (case g7 => k_is)
    (case fm => k_is)
    (case eS => k_is)
    (case iT => k_is)
    (case iU => k_is)
    (case fQ => k_is)
    (case iV => k_is)
    (case ny => k_is)
    (case nA => k_is)
    (case jK => k_is)
    (case nB => k_is)
    (case nC => k_is)
    (case nD => k_is)
    (case jL => k_is)
    (case nE => k_is)
    (case lg => k_is)
    (case lh => k_is)
    (case iW => k_is)
    (case lj => k_is)
    (case nF => k_is)
    (case nG => k_is)
    (case jM => k_is)
    (case nH => k_is)
    (case iX => k_is)
    (case iY => k_is)
    (case fR => k_is)
    (case iZ => k_is)
    (case jN => k_is)
    (case jO => k_is)
    (case g8 => k_is)
    (case jP => k_is)
    (case nI => k_is)
    (case nJ => k_is)
    (case jQ => k_is)
    (case nK => k_is)
    (case ll => k_is)
    (case lp => k_is)
    (case i0 => k_is)
    (case lq => k_is)
    (case i3 => k_is)
    (case i4 => k_is)
    (case fT => k_is)
    (case i5 => k_is)
    (case lr => k_is)
    (case lu => k_is)
    (case i6 => k_is)
    (case lz => k_is)
    (case jR => k_is)
    (case jS => k_is)
    (case g9 => k_is)
    (case jT => k_is)
    (case hU => k_is)
    (case hV => k_is)
    (case fq => k_is)
    (case ic => k_is)
    (case lC => k_is)
    (case lD => k_is)
    (case i7 => k_is)
    (case lE => k_is)
    (case D5 => k_is)
    (case Ik => k_is)
    (case x9 => k_is)
    (case Il => k_is)
    (case Im => k_is)
    (case CB => k_is)
    (case Ip => k_is)
    (case jU => k_is)
    (case Iq => k_is)
    (case CD => k_is)
    (case Ir => k_is)
    (case yb => k_is)
    (case tT => k_is)
    (case Iu => k_is)
    (case yc => k_is)
    (case Iv => k_is)
    (case jV => k_is)
