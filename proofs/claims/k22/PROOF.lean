import PyProof.Rows.All
import Wide.All
import OpenK.AllK
import Wide.FinOn
import Lean
import PyProof.EqAt
import PyProof.EqKinds
import PyProof.TupleCall
import PyProof.Rows.SortPure
import PySem.Builtin.Int.W1All
import PySem.Sem
import PyProof.StrBlockL
import PyProof.SliceStr2
import PyProof.StrCalls2
import PyProof.WalkInts
import PyProof.Rows.StrStep
import PyProof.FactsAll.tuple_0
import PyProof.FactsAll.tuple_2
import PyProof.FactsAll.tuple_3
import PyProof.FString5
import PyProof.StrOps2
import PyProof.StrWalks
import PyProof.Draws
import PyProof.DictWalks
import PyProof.ListStr
import PyProof.StrLawsIdx
import PyProof.SliceList
import PySem.Challenge.RW_signright_k22_rules_read
set_option Elab.async false
set_option linter.all false
set_option maxRecDepth 100000
set_option maxHeartbeats 0
set_option genSizeOf false
set_option genSizeOfSpec false
local macro_rules | `(tactic| omega) => `(tactic| lia)
namespace HX
open PySem PySem.W
noncomputable def GK(p:Program)(w:World)(N:Nat):Option Shared:=
 ((PySem.W.Fast.tw10274390034422433532 PySem.W.Fast.tw14364793385576792824 (opening p) w N (start (opening p)).1 (start (opening p)).2).bind (fenceModules? p)).bind λs=>
 match s.heap.isNs mainGlobals&&s.gens.size==0 with
 |true=>(PySem.W.Fast.tw14082659384304107361 PySem.W.Fast.tw14364793385576792824 p w s.heap.objs.size (s.heap.nsMap mainGlobals "__annotations__") N s (topStub p)).bind λz=>match staticsOk (importedModules p.main.body) s.heap z.heap&&namesBound p z.heap&&gensDone z&&laidKept s.heap z.heap with
  |true=>some z
  |false=>none
 |false=>none
theorem Uz(p:Program)(w:World)(N:Nat):openEnds treeTable p w N=GK p w N:=by
 unfold openEnds fencedOpening GK
 rw[PySem.W.Fast.te10274390034422433532,<-PySem.W.Fast.te14082659384304107361,<-PySem.W.Fast.te14364793385576792824]
 rfl
end HX
namespace L2.D.My
open PySem
noncomputable abbrev xQ:=PySem.Challenge.pw_signright_k22_rules_read
noncomputable def tD(i:Nat):Stmt:=xQ.main.body.getD i (.Pass ⟨0,0,0,0⟩)
noncomputable def mO(i j:Nat):Stmt:=match tD i with
 |.ClassDef (body:=b) ..=>b.getD j (.Pass ⟨0,0,0,0⟩)
 |_=>.Pass ⟨0,0,0,0⟩
noncomputable def UA(s:Stmt):Arguments:=match s with
 |.FunctionDef (args:=a) ..=>a
 |_=>⟨[],[],none,[],[],none,[]⟩
noncomputable def UB(s:Stmt):List Stmt:=match s with
 |.FunctionDef (body:=b) ..=>b
 |_=>[]
noncomputable def UC(s:Stmt):Scope:=match s with
 |.FunctionDef (scope:=b) ..=>b
 |_=>default
noncomputable abbrev aF:Value:=.none
noncomputable abbrev bN(s:Str)(t:Tok):Value:=.str s t
noncomputable abbrev ao(a:Addr):Value:=.ref a
noncomputable abbrev bW(P:Params)(s:Str)(t:Tok)(v:Value):DictEntry:=⟨PyData.keyHash P s,.str s t,v⟩
noncomputable abbrev iI(n q:Str)(t:Nat)(l:List Value):Obj:=⟨.type "code",none,.fields (.str n t::.str q (t+1)::.str "/claim/cut.py" (t+2)::l).toArray,#[]⟩
noncomputable abbrev iJ(n q:Str)(st:Stmt)(dV kV doc pm:Value)(an:Option Addr)(cd ct:Value):Obj:=⟨.type "function",none,.func (PySem.W.fnOf n q (UA st) (UB st) (UC st) dV kV doc pm an cd ct),#[]⟩
noncomputable def RB(l:List Stmt):List Nat->List Stmt
 |[]=>[]
 |i::r=>match l[i]? with
  |some s=>s::RB l r
  |none=>RB l r
noncomputable def Dz:Program:={xQ with main:={xQ.main with body:=RB xQ.main.body [0,2,3,5,6,7,8,9,10,12,13,14,15,16,17,19,20,21,22,23,24,25,26,27,28,29]}}
noncomputable def Ac(P:Params):PySem.W.Frag:=
 (nat_lit 2,⟨aF,none,.dict #[] 0,#[]⟩)::
 (nat_lit 3,⟨(.type "dict"),none,.dict (List.toArray [bW P "__name__" 165 (bN "law_signright_k22_rules_read" 661),bW P "__doc__" 166 aF,bW P "__package__" 167 aF,bW P "__loader__" 168 (.builtin "__main__.__loader__#opaque"),bW P "__spec__" 169 aF,bW P "__annotations__" 170 (ao 6),bW P "__builtins__" 171 (ao 4),bW P "__file__" 173 (bN "/claim/cut.py" 172),bW P "__cached__" 174 aF,bW P "_wall" 193 (ao 21),bW P "SignError" 213 (ao 31),bW P "NoRule" 238 (ao 51),bW P "Rule" 291 (ao 91),bW P "Hand" 347 (ao 140),bW P "Counting" 403 (ao 183),bW P "All" 441 (ao 216),bW P "Any" 479 (ao 249),bW P "Some" 518 (ao 282),bW P "MOST_PARTS" 522 (.int 8 521),bW P "FEWEST_PARTS" 553 (ao 285),bW P "shared_signs" 564 (ao 292),bW P "counting_rule" 572 (ao 299),bW P "Reading" 650 (ao 356),bW P "read" 660 (ao 367),bW P "_law_cell_at" 670 (ao 374),bW P "_law_base" 681 (ao 381),bW P "_law_name" 693 (ao 388),bW P "_law_names" 710 (ao 395),bW P "_law_roll" 717 (ao 402),bW P "_law_hand" 724 (ao 409),bW P "_law_counted" 730 (ao 414),bW P "_law_folded" 740 (ao 421),bW P "_law_built" 746 (ao 426),bW P "_law_same" 755 (ao 433),bW P "law" 770 (ao 440)]) 35,#[]⟩)::
 (nat_lit 20,iI "_wall" "_wall" 187 [(.int 1 0),(.int 1 0),(.int 0 0),(.int 0 0),(.int 3 0),(ao 15),(.bool true),(.int 181 0),(ao 16),aF,(ao 17),(ao 18),(ao 19),(.int 191 0),(.int 1 0),(bN "/claim/cut.py" 192)])::
 (nat_lit 21,iJ "_wall" "_wall" (tD 0) aF aF aF (bN "__main__" 164) none (ao 20) aF)::
 (nat_lit 30,⟨(.type "dict"),none,.dict (List.toArray [bW P "__module__" 203 (bN "signright.errors" 194),bW P "__firstlineno__" 207 (.int 5 206),bW P "__static_attributes__" 208 (ao 29),bW P "__weakref__" 210 (ao 32),bW P "__doc__" 211 aF]) 3,#[]⟩)::
 (nat_lit 31,⟨(.type "type"),none,.cls ⟨"SignError",[(.type "ValueError")],[(ao 31),(.type "ValueError"),(.type "Exception"),(.type "BaseException"),(.type "object")],30,"SignError",true,[],[(ao 51)],false,none,false⟩,#[some (ao 22),none,some (bN "SignError" 196),some (bN "SignError" 204),some (.builtin "ValueError.__new__"),some (.bool true)]⟩)::
 (nat_lit 32,⟨(.type "getset_descriptor"),none,.fields (List.toArray [(bN "__weakref__" 209),(ao 31),(.builtin "ExceptionGroup.__weakref__"),aF]),#[]⟩)::
 (nat_lit 47,iI "__init__" "NoRule.__init__" 226 [(.int 9 0),(.int 2 0),(.int 0 0),(.int 0 0),(.int 3 0),(ao 42),(.bool true),(.int 181 0),(ao 43),aF,(ao 44),(ao 45),(ao 46),(.int 231 0),(.int 9 0),(bN "/claim/cut.py" 232)])::
 (nat_lit 48,iJ "__init__" "NoRule.__init__" (mO 3 0) aF aF aF (bN "signright.errors" 194) none (ao 47) aF)::
 (nat_lit 50,⟨(.type "dict"),none,.dict (List.toArray [bW P "__module__" 221 (bN "signright.errors" 194),bW P "__firstlineno__" 225 (.int 7 224),bW P "__init__" 233 (ao 48),bW P "__static_attributes__" 235 (ao 49),bW P "__doc__" 236 aF]) 2,#[]⟩)::
 (nat_lit 51,⟨(.type "type"),none,.cls ⟨"NoRule",[(ao 31)],[(ao 51),(ao 31),(.type "ValueError"),(.type "Exception"),(.type "BaseException"),(.type "object")],50,"NoRule",true,[],[],false,none,false⟩,#[some (ao 35),none,some (bN "NoRule" 214),some (bN "NoRule" 222),some (.builtin "ValueError.__new__"),some (.bool true)]⟩)::
 (nat_lit 66,iI "shape" "Rule.shape" 253 [(.int 15 0),(.int 1 0),(.int 0 0),(.int 0 0),(.int 3 0),(ao 61),(.bool true),(.int 181 0),(ao 62),aF,(ao 63),(ao 64),(ao 65),(.int 257 0),(.int 15 0),(bN "/claim/cut.py" 258)])::
 (nat_lit 67,iJ "shape" "Rule.shape" (mO 5 0) aF aF aF (bN "signright.rules" 239) none (ao 66) aF)::
 (nat_lit 73,iI "text" "Rule.text" 260 [(.int 18 0),(.int 1 0),(.int 0 0),(.int 0 0),(.int 3 0),(ao 68),(.bool true),(.int 181 0),(ao 69),aF,(ao 70),(ao 71),(ao 72),(.int 264 0),(.int 18 0),(bN "/claim/cut.py" 265)])::
 (nat_lit 74,iJ "text" "Rule.text" (mO 5 1) aF aF aF (bN "signright.rules" 239) none (ao 73) aF)::
 (nat_lit 80,iI "lets" "Rule.lets" 267 [(.int 21 0),(.int 3 0),(.int 0 0),(.int 0 0),(.int 3 0),(ao 75),(.bool true),(.int 181 0),(ao 76),aF,(ao 77),(ao 78),(ao 79),(.int 273 0),(.int 21 0),(bN "/claim/cut.py" 274)])::
 (nat_lit 81,iJ "lets" "Rule.lets" (mO 5 2) aF aF aF (bN "signright.rules" 239) none (ao 80) aF)::
 (nat_lit 87,iI "ladder" "Rule.ladder" 276 [(.int 24 0),(.int 2 0),(.int 0 0),(.int 0 0),(.int 3 0),(ao 82),(.bool true),(.int 181 0),(ao 83),aF,(ao 84),(ao 85),(ao 86),(.int 281 0),(.int 24 0),(bN "/claim/cut.py" 282)])::
 (nat_lit 88,iJ "ladder" "Rule.ladder" (mO 5 3) aF aF aF (bN "signright.rules" 239) none (ao 87) aF)::
 (nat_lit 90,⟨(.type "dict"),none,.dict (List.toArray [bW P "__module__" 248 (bN "signright.rules" 239),bW P "__firstlineno__" 252 (.int 13 251),bW P "shape" 259 (ao 67),bW P "text" 266 (ao 74),bW P "lets" 275 (ao 81),bW P "ladder" 283 (ao 88),bW P "__static_attributes__" 284 (ao 89),bW P "__dict__" 286 (ao 92),bW P "__weakref__" 288 (ao 93),bW P "__doc__" 289 aF]) 4,#[]⟩)::
 (nat_lit 91,⟨(.type "type"),none,.cls ⟨"Rule",[(.type "object")],[(ao 91),(.type "object")],90,"Rule",true,[],[(ao 140),(ao 183)],false,none,false⟩,#[none,none,some (bN "Rule" 241),some (bN "Rule" 249),some (.builtin "object.__new__"),some (.bool true)]⟩)::
 (nat_lit 92,⟨(.type "getset_descriptor"),none,.fields (List.toArray [(bN "__dict__" 285),(ao 91),(.builtin "function.__dict__"),(.builtin "function.__dict__#set")]),#[]⟩)::
 (nat_lit 93,⟨(.type "getset_descriptor"),none,.fields (List.toArray [(bN "__weakref__" 287),(ao 91),(.builtin "ExceptionGroup.__weakref__"),aF]),#[]⟩)::
 (nat_lit 108,iI "__init__" "Hand.__init__" 304 [(.int 28 0),(.int 2 0),(.int 0 0),(.int 0 0),(.int 3 0),(ao 103),(.bool true),(.int 181 0),(ao 104),aF,(ao 105),(ao 106),(ao 107),(.int 309 0),(.int 28 0),(bN "/claim/cut.py" 310)])::
 (nat_lit 109,iJ "__init__" "Hand.__init__" (mO 6 0) aF aF aF (bN "signright.rules" 239) none (ao 108) aF)::
 (nat_lit 115,iI "shape" "Hand.shape" 312 [(.int 31 0),(.int 1 0),(.int 0 0),(.int 0 0),(.int 3 0),(ao 110),(.bool true),(.int 181 0),(ao 111),aF,(ao 112),(ao 113),(ao 114),(.int 316 0),(.int 31 0),(bN "/claim/cut.py" 317)])::
 (nat_lit 116,iJ "shape" "Hand.shape" (mO 6 1) aF aF aF (bN "signright.rules" 239) none (ao 115) aF)::
 (nat_lit 122,iI "text" "Hand.text" 319 [(.int 34 0),(.int 1 0),(.int 0 0),(.int 0 0),(.int 3 0),(ao 117),(.bool true),(.int 181 0),(ao 118),aF,(ao 119),(ao 120),(ao 121),(.int 323 0),(.int 34 0),(bN "/claim/cut.py" 324)])::
 (nat_lit 123,iJ "text" "Hand.text" (mO 6 2) aF aF aF (bN "signright.rules" 239) none (ao 122) aF)::
 (nat_lit 129,iI "lets" "Hand.lets" 326 [(.int 37 0),(.int 3 0),(.int 0 0),(.int 0 0),(.int 3 0),(ao 124),(.bool true),(.int 181 0),(ao 125),aF,(ao 126),(ao 127),(ao 128),(.int 332 0),(.int 37 0),(bN "/claim/cut.py" 333)])::
 (nat_lit 130,iJ "lets" "Hand.lets" (mO 6 3) aF aF aF (bN "signright.rules" 239) none (ao 129) aF)::
 (nat_lit 136,iI "ladder" "Hand.ladder" 335 [(.int 40 0),(.int 2 0),(.int 0 0),(.int 0 0),(.int 3 0),(ao 131),(.bool true),(.int 181 0),(ao 132),aF,(ao 133),(ao 134),(ao 135),(.int 340 0),(.int 40 0),(bN "/claim/cut.py" 341)])::
 (nat_lit 137,iJ "ladder" "Hand.ladder" (mO 6 4) aF aF aF (bN "signright.rules" 239) none (ao 136) aF)::
 (nat_lit 139,⟨(.type "dict"),none,.dict (List.toArray [bW P "__module__" 299 (bN "signright.rules" 239),bW P "__firstlineno__" 303 (.int 26 302),bW P "__init__" 311 (ao 109),bW P "shape" 318 (ao 116),bW P "text" 325 (ao 123),bW P "lets" 334 (ao 130),bW P "ladder" 342 (ao 137),bW P "__static_attributes__" 344 (ao 138),bW P "__doc__" 345 aF]) 2,#[]⟩)::
 (nat_lit 140,⟨(.type "type"),none,.cls ⟨"Hand",[(ao 91)],[(ao 140),(ao 91),(.type "object")],139,"Hand",true,[],[],false,none,false⟩,#[some (ao 96),none,some (bN "Hand" 292),some (bN "Hand" 300),some (.builtin "object.__new__"),some (.bool true)]⟩)::
 (nat_lit 155,iI "__init__" "Counting.__init__" 360 [(.int 44 0),(.int 3 0),(.int 0 0),(.int 0 0),(.int 3 0),(ao 150),(.bool true),(.int 181 0),(ao 151),aF,(ao 152),(ao 153),(ao 154),(.int 366 0),(.int 44 0),(bN "/claim/cut.py" 367)])::
 (nat_lit 156,iJ "__init__" "Counting.__init__" (mO 7 0) aF aF aF (bN "signright.rules" 239) none (ao 155) aF)::
 (nat_lit 162,iI "lets" "Counting.lets" 369 [(.int 48 0),(.int 3 0),(.int 0 0),(.int 0 0),(.int 3 0),(ao 157),(.bool true),(.int 181 0),(ao 158),aF,(ao 159),(ao 160),(ao 161),(.int 375 0),(.int 48 0),(bN "/claim/cut.py" 376)])::
 (nat_lit 163,iJ "lets" "Counting.lets" (mO 7 1) aF aF aF (bN "signright.rules" 239) none (ao 162) aF)::
 (nat_lit 169,iI "ladder" "Counting.ladder" 378 [(.int 51 0),(.int 2 0),(.int 0 0),(.int 0 0),(.int 3 0),(ao 164),(.bool true),(.int 181 0),(ao 165),aF,(ao 166),(ao 167),(ao 168),(.int 383 0),(.int 51 0),(bN "/claim/cut.py" 384)])::
 (nat_lit 170,iJ "ladder" "Counting.ladder" (mO 7 2) aF aF aF (bN "signright.rules" 239) none (ao 169) aF)::
 (nat_lit 174,iI "shapes_of_parts" "Counting.shapes_of_parts" 386 [(.int 54 0),(.int 1 0),(.int 0 0),(.int 0 0),(.int 3 0),(ao 171),(.bool true),(.int 181 0),(ao 172),aF,aF,aF,(ao 173),(.int 389 0),(.int 54 0),(bN "/claim/cut.py" 390)])::
 (nat_lit 175,iJ "shapes_of_parts" "Counting.shapes_of_parts" (mO 7 3) aF aF aF (bN "signright.rules" 239) none (ao 174) aF)::
 (nat_lit 179,iI "text_of_parts" "Counting.text_of_parts" 392 [(.int 57 0),(.int 1 0),(.int 0 0),(.int 0 0),(.int 3 0),(ao 176),(.bool true),(.int 181 0),(ao 177),aF,aF,aF,(ao 178),(.int 395 0),(.int 57 0),(bN "/claim/cut.py" 396)])::
 (nat_lit 180,iJ "text_of_parts" "Counting.text_of_parts" (mO 7 4) aF aF aF (bN "signright.rules" 239) none (ao 179) aF)::
 (nat_lit 182,⟨(.type "dict"),none,.dict (List.toArray [bW P "__module__" 355 (bN "signright.rules" 239),bW P "__firstlineno__" 359 (.int 42 358),bW P "__init__" 368 (ao 156),bW P "lets" 377 (ao 163),bW P "ladder" 385 (ao 170),bW P "shapes_of_parts" 391 (ao 175),bW P "text_of_parts" 397 (ao 180),bW P "__static_attributes__" 400 (ao 181),bW P "__doc__" 401 aF]) 2,#[]⟩)::
 (nat_lit 183,⟨(.type "type"),none,.cls ⟨"Counting",[(ao 91)],[(ao 183),(ao 91),(.type "object")],182,"Counting",true,[],[(ao 216),(ao 249),(ao 282)],false,none,false⟩,#[some (ao 143),none,some (bN "Counting" 348),some (bN "Counting" 356),some (.builtin "object.__new__"),some (.bool true)]⟩)::
 (nat_lit 198,iI "__init__" "All.__init__" 416 [(.int 61 0),(.int 2 0),(.int 0 0),(.int 0 0),(.int 3 0),(ao 193),(.bool true),(.int 181 0),(ao 194),aF,(ao 195),(ao 196),(ao 197),(.int 421 0),(.int 61 0),(bN "/claim/cut.py" 422)])::
 (nat_lit 199,iJ "__init__" "All.__init__" (mO 8 0) aF aF aF (bN "signright.rules" 239) none (ao 198) aF)::
 (nat_lit 205,iI "shape" "All.shape" 424 [(.int 64 0),(.int 1 0),(.int 0 0),(.int 0 0),(.int 3 0),(ao 200),(.bool true),(.int 181 0),(ao 201),aF,(ao 202),(ao 203),(ao 204),(.int 428 0),(.int 64 0),(bN "/claim/cut.py" 429)])::
 (nat_lit 206,iJ "shape" "All.shape" (mO 8 1) aF aF aF (bN "signright.rules" 239) none (ao 205) aF)::
 (nat_lit 212,iI "text" "All.text" 431 [(.int 67 0),(.int 1 0),(.int 0 0),(.int 0 0),(.int 3 0),(ao 207),(.bool true),(.int 181 0),(ao 208),aF,(ao 209),(ao 210),(ao 211),(.int 435 0),(.int 67 0),(bN "/claim/cut.py" 436)])::
 (nat_lit 213,iJ "text" "All.text" (mO 8 2) aF aF aF (bN "signright.rules" 239) none (ao 212) aF)::
 (nat_lit 215,⟨(.type "dict"),none,.dict (List.toArray [bW P "__module__" 411 (bN "signright.rules" 239),bW P "__firstlineno__" 415 (.int 59 414),bW P "__init__" 423 (ao 199),bW P "shape" 430 (ao 206),bW P "text" 437 (ao 213),bW P "__static_attributes__" 438 (ao 214),bW P "__doc__" 439 aF]) 2,#[]⟩)::
 (nat_lit 216,⟨(.type "type"),none,.cls ⟨"All",[(ao 183)],[(ao 216),(ao 183),(ao 91),(.type "object")],215,"All",true,[],[],false,none,false⟩,#[some (ao 186),none,some (bN "All" 404),some (bN "All" 412),some (.builtin "object.__new__"),some (.bool true)]⟩)::
 (nat_lit 231,iI "__init__" "Any.__init__" 454 [(.int 71 0),(.int 2 0),(.int 0 0),(.int 0 0),(.int 3 0),(ao 226),(.bool true),(.int 181 0),(ao 227),aF,(ao 228),(ao 229),(ao 230),(.int 459 0),(.int 71 0),(bN "/claim/cut.py" 460)])::
 (nat_lit 232,iJ "__init__" "Any.__init__" (mO 9 0) aF aF aF (bN "signright.rules" 239) none (ao 231) aF)::
 (nat_lit 238,iI "shape" "Any.shape" 462 [(.int 74 0),(.int 1 0),(.int 0 0),(.int 0 0),(.int 3 0),(ao 233),(.bool true),(.int 181 0),(ao 234),aF,(ao 235),(ao 236),(ao 237),(.int 466 0),(.int 74 0),(bN "/claim/cut.py" 467)])::
 (nat_lit 239,iJ "shape" "Any.shape" (mO 9 1) aF aF aF (bN "signright.rules" 239) none (ao 238) aF)::
 (nat_lit 245,iI "text" "Any.text" 469 [(.int 77 0),(.int 1 0),(.int 0 0),(.int 0 0),(.int 3 0),(ao 240),(.bool true),(.int 181 0),(ao 241),aF,(ao 242),(ao 243),(ao 244),(.int 473 0),(.int 77 0),(bN "/claim/cut.py" 474)])::
 (nat_lit 246,iJ "text" "Any.text" (mO 9 2) aF aF aF (bN "signright.rules" 239) none (ao 245) aF)::
 (nat_lit 248,⟨(.type "dict"),none,.dict (List.toArray [bW P "__module__" 449 (bN "signright.rules" 239),bW P "__firstlineno__" 453 (.int 69 452),bW P "__init__" 461 (ao 232),bW P "shape" 468 (ao 239),bW P "text" 475 (ao 246),bW P "__static_attributes__" 476 (ao 247),bW P "__doc__" 477 aF]) 2,#[]⟩)::
 (nat_lit 249,⟨(.type "type"),none,.cls ⟨"Any",[(ao 183)],[(ao 249),(ao 183),(ao 91),(.type "object")],248,"Any",true,[],[],false,none,false⟩,#[some (ao 219),none,some (bN "Any" 442),some (bN "Any" 450),some (.builtin "object.__new__"),some (.bool true)]⟩)::
 (nat_lit 264,iI "__init__" "Some.__init__" 492 [(.int 81 0),(.int 3 0),(.int 0 0),(.int 0 0),(.int 3 0),(ao 259),(.bool true),(.int 181 0),(ao 260),aF,(ao 261),(ao 262),(ao 263),(.int 498 0),(.int 81 0),(bN "/claim/cut.py" 499)])::
 (nat_lit 265,iJ "__init__" "Some.__init__" (mO 10 0) aF aF aF (bN "signright.rules" 239) none (ao 264) aF)::
 (nat_lit 271,iI "shape" "Some.shape" 501 [(.int 84 0),(.int 1 0),(.int 0 0),(.int 0 0),(.int 3 0),(ao 266),(.bool true),(.int 181 0),(ao 267),aF,(ao 268),(ao 269),(ao 270),(.int 505 0),(.int 84 0),(bN "/claim/cut.py" 506)])::
 (nat_lit 272,iJ "shape" "Some.shape" (mO 10 1) aF aF aF (bN "signright.rules" 239) none (ao 271) aF)::
 (nat_lit 278,iI "text" "Some.text" 508 [(.int 87 0),(.int 1 0),(.int 0 0),(.int 0 0),(.int 3 0),(ao 273),(.bool true),(.int 181 0),(ao 274),aF,(ao 275),(ao 276),(ao 277),(.int 512 0),(.int 87 0),(bN "/claim/cut.py" 513)])::
 (nat_lit 279,iJ "text" "Some.text" (mO 10 2) aF aF aF (bN "signright.rules" 239) none (ao 278) aF)::
 (nat_lit 281,⟨(.type "dict"),none,.dict (List.toArray [bW P "__module__" 487 (bN "signright.rules" 239),bW P "__firstlineno__" 491 (.int 79 490),bW P "__init__" 500 (ao 265),bW P "shape" 507 (ao 272),bW P "text" 514 (ao 279),bW P "__static_attributes__" 515 (ao 280),bW P "__doc__" 516 aF]) 2,#[]⟩)::
 (nat_lit 282,⟨(.type "type"),none,.cls ⟨"Some",[(ao 183)],[(ao 282),(ao 183),(ao 91),(.type "object")],281,"Some",true,[],[],false,none,false⟩,#[some (ao 252),none,some (bN "Some" 480),some (bN "Some" 488),some (.builtin "object.__new__"),some (.bool true)]⟩)::
 (nat_lit 285,⟨(.type "dict"),none,.dict (List.toArray [bW P "all(" 523 (.int 1 524),bW P "any(" 525 (.int 1 526),bW P "1 of (" 527 (.int 1 528),bW P "2 of (" 529 (.int 2 530),bW P "3 of (" 531 (.int 3 532),bW P "4 of (" 533 (.int 4 534),bW P "5 of (" 535 (.int 5 536),bW P "6 of (" 537 (.int 6 538),bW P "7 of (" 539 (.int 7 540),bW P "8 of (" 541 (.int 8 542)]) 10,#[]⟩)::
 (nat_lit 291,iI "shared_signs" "shared_signs" 554 [(.int 92 0),(.int 2 0),(.int 0 0),(.int 0 0),(.int 3 0),(ao 286),(.bool true),(.int 181 0),(ao 287),aF,(ao 288),(ao 289),(ao 290),(.int 562 0),(.int 92 0),(bN "/claim/cut.py" 563)])::
 (nat_lit 292,iJ "shared_signs" "shared_signs" (tD 14) aF aF aF (bN "signright.reader" 519) none (ao 291) aF)::
 (nat_lit 298,iI "counting_rule" "counting_rule" 565 [(.int 99 0),(.int 2 0),(.int 0 0),(.int 0 0),(.int 3 0),(ao 293),(.bool true),(.int 181 0),(ao 294),aF,(ao 295),(ao 296),(ao 297),(.int 570 0),(.int 99 0),(bN "/claim/cut.py" 571)])::
 (nat_lit 299,iJ "counting_rule" "counting_rule" (tD 15) aF aF aF (bN "signright.reader" 519) none (ao 298) aF)::
 (nat_lit 312,iI "__init__" "Reading.__init__" 585 [(.int 107 0),(.int 3 0),(.int 0 0),(.int 0 0),(.int 3 0),(ao 307),(.bool true),(.int 181 0),(ao 308),aF,(ao 309),(ao 310),(ao 311),(.int 591 0),(.int 107 0),(bN "/claim/cut.py" 592)])::
 (nat_lit 313,iJ "__init__" "Reading.__init__" (mO 16 0) aF aF aF (bN "signright.reader" 519) none (ao 312) aF)::
 (nat_lit 317,iI "take_word" "Reading.take_word" 594 [(.int 112 0),(.int 1 0),(.int 0 0),(.int 0 0),(.int 3 0),(ao 314),(.bool true),(.int 181 0),(ao 315),aF,aF,aF,(ao 316),(.int 597 0),(.int 112 0),(bN "/claim/cut.py" 598)])::
 (nat_lit 318,iJ "take_word" "Reading.take_word" (mO 16 1) aF aF aF (bN "signright.reader" 519) none (ao 317) aF)::
 (nat_lit 324,iI "comes" "Reading.comes" 600 [(.int 120 0),(.int 2 0),(.int 0 0),(.int 0 0),(.int 3 0),(ao 319),(.bool true),(.int 181 0),(ao 320),aF,(ao 321),(ao 322),(ao 323),(.int 605 0),(.int 120 0),(bN "/claim/cut.py" 606)])::
 (nat_lit 325,iJ "comes" "Reading.comes" (mO 16 2) aF aF aF (bN "signright.reader" 519) none (ao 324) aF)::
 (nat_lit 331,iI "take_sign" "Reading.take_sign" 608 [(.int 123 0),(.int 2 0),(.int 0 0),(.int 0 0),(.int 3 0),(ao 326),(.bool true),(.int 181 0),(ao 327),aF,(ao 328),(ao 329),(ao 330),(.int 613 0),(.int 123 0),(bN "/claim/cut.py" 614)])::
 (nat_lit 332,iJ "take_sign" "Reading.take_sign" (mO 16 3) aF aF aF (bN "signright.reader" 519) none (ao 331) aF)::
 (nat_lit 338,iI "take_parts" "Reading.take_parts" 616 [(.int 128 0),(.int 2 0),(.int 0 0),(.int 0 0),(.int 3 0),(ao 333),(.bool true),(.int 181 0),(ao 334),aF,(ao 335),(ao 336),(ao 337),(.int 622 0),(.int 128 0),(bN "/claim/cut.py" 623)])::
 (nat_lit 339,iJ "take_parts" "Reading.take_parts" (mO 16 4) aF aF aF (bN "signright.reader" 519) none (ao 338) aF)::
 (nat_lit 345,iI "take_rule" "Reading.take_rule" 625 [(.int 139 0),(.int 1 0),(.int 0 0),(.int 0 0),(.int 3 0),(ao 340),(.bool true),(.int 181 0),(ao 341),aF,(ao 342),(ao 343),(ao 344),(.int 630 0),(.int 139 0),(bN "/claim/cut.py" 631)])::
 (nat_lit 346,iJ "take_rule" "Reading.take_rule" (mO 16 5) aF aF aF (bN "signright.reader" 519) none (ao 345) aF)::
 (nat_lit 352,iI "take_end" "Reading.take_end" 633 [(.int 145 0),(.int 1 0),(.int 0 0),(.int 0 0),(.int 3 0),(ao 347),(.bool true),(.int 181 0),(ao 348),aF,(ao 349),(ao 350),(ao 351),(.int 637 0),(.int 145 0),(bN "/claim/cut.py" 638)])::
 (nat_lit 353,iJ "take_end" "Reading.take_end" (mO 16 6) aF aF aF (bN "signright.reader" 519) none (ao 352) aF)::
 (nat_lit 355,⟨(.type "dict"),none,.dict (List.toArray [bW P "__module__" 580 (bN "signright.reader" 519),bW P "__firstlineno__" 584 (.int 105 583),bW P "__init__" 593 (ao 313),bW P "take_word" 599 (ao 318),bW P "comes" 607 (ao 325),bW P "take_sign" 615 (ao 332),bW P "take_parts" 624 (ao 339),bW P "take_rule" 632 (ao 346),bW P "take_end" 639 (ao 353),bW P "__static_attributes__" 643 (ao 354),bW P "__dict__" 645 (ao 357),bW P "__weakref__" 647 (ao 358),bW P "__doc__" 648 aF]) 4,#[]⟩)::
 (nat_lit 356,⟨(.type "type"),none,.cls ⟨"Reading",[(.type "object")],[(ao 356),(.type "object")],355,"Reading",true,[],[],false,none,false⟩,#[none,none,some (bN "Reading" 573),some (bN "Reading" 581),some (.builtin "object.__new__"),some (.bool true)]⟩)::
 (nat_lit 357,⟨(.type "getset_descriptor"),none,.fields (List.toArray [(bN "__dict__" 644),(ao 356),(.builtin "function.__dict__"),(.builtin "function.__dict__#set")]),#[]⟩)::
 (nat_lit 358,⟨(.type "getset_descriptor"),none,.fields (List.toArray [(bN "__weakref__" 646),(ao 356),(.builtin "ExceptionGroup.__weakref__"),aF]),#[]⟩)::
 (nat_lit 366,iI "read" "read" 651 [(.int 148 0),(.int 2 0),(.int 0 0),(.int 0 0),(.int 3 0),(ao 361),(.bool true),(.int 181 0),(ao 362),aF,(ao 363),(ao 364),(ao 365),(.int 658 0),(.int 148 0),(bN "/claim/cut.py" 659)])::
 (nat_lit 367,iJ "read" "read" (tD 17) aF aF aF (bN "signright.reader" 519) none (ao 366) aF)::
 (nat_lit 373,iI "_law_cell_at" "_law_cell_at" 663 [(.int 154 0),(.int 2 0),(.int 0 0),(.int 0 0),(.int 3 0),(ao 368),(.bool true),(.int 181 0),(ao 369),aF,(ao 370),(ao 371),(ao 372),(.int 668 0),(.int 154 0),(bN "/claim/cut.py" 669)])::
 (nat_lit 374,iJ "_law_cell_at" "_law_cell_at" (tD 19) aF aF aF (bN "law_signright_k22_rules_read" 661) none (ao 373) aF)::
 (nat_lit 380,iI "_law_base" "_law_base" 671 [(.int 158 0),(.int 2 0),(.int 0 0),(.int 0 0),(.int 3 0),(ao 375),(.bool true),(.int 181 0),(ao 376),aF,(ao 377),(ao 378),(ao 379),(.int 679 0),(.int 158 0),(bN "/claim/cut.py" 680)])::
 (nat_lit 381,iJ "_law_base" "_law_base" (tD 20) aF aF aF (bN "law_signright_k22_rules_read" 661) none (ao 380) aF)::
 (nat_lit 387,iI "_law_name" "_law_name" 682 [(.int 165 0),(.int 4 0),(.int 0 0),(.int 0 0),(.int 3 0),(ao 382),(.bool true),(.int 181 0),(ao 383),aF,(ao 384),(ao 385),(ao 386),(.int 691 0),(.int 165 0),(bN "/claim/cut.py" 692)])::
 (nat_lit 388,iJ "_law_name" "_law_name" (tD 21) aF aF aF (bN "law_signright_k22_rules_read" 661) none (ao 387) aF)::
 (nat_lit 394,iI "_law_names" "_law_names" 694 [(.int 169 0),(.int 3 0),(.int 0 0),(.int 0 0),(.int 3 0),(ao 389),(.bool true),(.int 181 0),(ao 390),aF,(ao 391),(ao 392),(ao 393),(.int 708 0),(.int 169 0),(bN "/claim/cut.py" 709)])::
 (nat_lit 395,iJ "_law_names" "_law_names" (tD 22) aF aF aF (bN "law_signright_k22_rules_read" 661) none (ao 394) aF)::
 (nat_lit 401,iI "_law_roll" "_law_roll" 711 [(.int 184 0),(.int 1 0),(.int 0 0),(.int 0 0),(.int 3 0),(ao 396),(.bool true),(.int 181 0),(ao 397),aF,(ao 398),(ao 399),(ao 400),(.int 715 0),(.int 184 0),(bN "/claim/cut.py" 716)])::
 (nat_lit 402,iJ "_law_roll" "_law_roll" (tD 23) aF aF aF (bN "law_signright_k22_rules_read" 661) none (ao 401) aF)::
 (nat_lit 408,iI "_law_hand" "_law_hand" 718 [(.int 186 0),(.int 1 0),(.int 0 0),(.int 0 0),(.int 3 0),(ao 403),(.bool true),(.int 181 0),(ao 404),aF,(ao 405),(ao 406),(ao 407),(.int 722 0),(.int 186 0),(bN "/claim/cut.py" 723)])::
 (nat_lit 409,iJ "_law_hand" "_law_hand" (tD 24) aF aF aF (bN "law_signright_k22_rules_read" 661) none (ao 408) aF)::
 (nat_lit 413,iI "_law_counted" "_law_counted" 725 [(.int 188 0),(.int 3 0),(.int 0 0),(.int 0 0),(.int 3 0),(ao 410),(.bool true),(.int 181 0),(ao 411),aF,aF,aF,(ao 412),(.int 728 0),(.int 188 0),(bN "/claim/cut.py" 729)])::
 (nat_lit 414,iJ "_law_counted" "_law_counted" (tD 25) aF aF aF (bN "law_signright_k22_rules_read" 661) none (ao 413) aF)::
 (nat_lit 420,iI "_law_folded" "_law_folded" 731 [(.int 201 0),(.int 2 0),(.int 0 0),(.int 0 0),(.int 3 0),(ao 415),(.bool true),(.int 181 0),(ao 416),aF,(ao 417),(ao 418),(ao 419),(.int 738 0),(.int 201 0),(bN "/claim/cut.py" 739)])::
 (nat_lit 421,iJ "_law_folded" "_law_folded" (tD 26) aF aF aF (bN "law_signright_k22_rules_read" 661) none (ao 420) aF)::
 (nat_lit 425,iI "_law_built" "_law_built" 741 [(.int 209 0),(.int 4 0),(.int 0 0),(.int 0 0),(.int 3 0),(ao 422),(.bool true),(.int 181 0),(ao 423),aF,aF,aF,(ao 424),(.int 744 0),(.int 209 0),(bN "/claim/cut.py" 745)])::
 (nat_lit 426,iJ "_law_built" "_law_built" (tD 27) aF aF aF (bN "law_signright_k22_rules_read" 661) none (ao 425) aF)::
 (nat_lit 432,iI "_law_same" "_law_same" 747 [(.int 222 0),(.int 2 0),(.int 0 0),(.int 0 0),(.int 3 0),(ao 427),(.bool true),(.int 181 0),(ao 428),aF,(ao 429),(ao 430),(ao 431),(.int 753 0),(.int 222 0),(bN "/claim/cut.py" 754)])::
 (nat_lit 433,iJ "_law_same" "_law_same" (tD 28) aF aF aF (bN "law_signright_k22_rules_read" 661) none (ao 432) aF)::
 (nat_lit 439,iI "law" "law" 756 [(.int 239 0),(.int 1 0),(.int 0 0),(.int 0 0),(.int 3 0),(ao 434),(.bool true),(.int 181 0),(ao 435),aF,(ao 436),(ao 437),(ao 438),(.int 768 0),(.int 239 0),(bN "/claim/cut.py" 769)])::
 (nat_lit 440,iJ "law" "law" (tD 29) aF aF aF (bN "law_signright_k22_rules_read" 661) none (ao 439) aF)::[]
noncomputable abbrev Ad:List Addr:=[2,3,20,21,30,31,32,47,48,50,51,66,67,73,74,80,81,87,88,90,91,92,93,108,109,115,116,122,123,129,130,136,137,139,140,155,156,162,163,169,170,174,175,179,180,182,183,198,199,205,206,212,213,215,216,231,232,238,239,245,246,248,249,264,265,271,272,278,279,281,282,285,291,292,298,299,312,313,317,318,324,325,331,332,338,339,345,346,352,353,355,356,357,358,366,367,373,374,380,381,387,388,394,395,401,402,408,409,413,414,420,421,425,426,432,433,439,440]
theorem Ag:∀P,Ad=(Ac P).map (·.1):=λ_=>by kernel_rfl
noncomputable abbrev MN(s:Shared):Bool:=PySem.W.xlAt Dz [] s&&PySem.W.recOk (PySem.W.RowW.records (PySem.W.OpenRow.toRowW (PySem.Challenge.rw_signright_k22_rules_read).row)) s
theorem RC:∀w:World,(HX.GK xQ (w.withFollow "special-get-raises" false) 20000).map (PySem.W.Fast.tw4187177175401517315 Dz ["FEWEST_PARTS"] (importedModules xQ.main.body) MN true)=some (PySem.W.openGood Dz ["FEWEST_PARTS"]):=by intro w;kernel_rfl
theorem RD:∀w:World,(HX.GK xQ (w.withFollow "special-get-raises" true) 20000).map (PySem.W.Fast.tw4187177175401517315 Dz ["FEWEST_PARTS"] (importedModules xQ.main.body) MN true)=some (PySem.W.openGood Dz ["FEWEST_PARTS"]):=by intro w;kernel_rfl
theorem UD:∀w:World,(HX.GK xQ w 20000).map (PySem.W.Fast.tw4187177175401517315 Dz ["FEWEST_PARTS"] (importedModules xQ.main.body) MN true)=some (PySem.W.openGood Dz ["FEWEST_PARTS"]):=PySem.W.byRow2 "special-get-raises" (P:=λw=>(HX.GK xQ w 20000).map (PySem.W.Fast.tw4187177175401517315 Dz ["FEWEST_PARTS"] (importedModules xQ.main.body) MN true)=some (PySem.W.openGood Dz ["FEWEST_PARTS"])) RC RD
theorem RE:∀w:World,(HX.GK xQ (w.withFollow "special-get-raises" false) 20000).map (PySem.W.kHook Ac Ad Ag).obs=some ((PySem.W.kHook Ac Ad Ag).val (w.withFollow "special-get-raises" false)):=by intro w;kernel_rfl
theorem RF:∀w:World,(HX.GK xQ (w.withFollow "special-get-raises" true) 20000).map (PySem.W.kHook Ac Ad Ag).obs=some ((PySem.W.kHook Ac Ad Ag).val (w.withFollow "special-get-raises" true)):=by intro w;kernel_rfl
theorem UE:∀w:World,(HX.GK xQ w 20000).map (PySem.W.kHook Ac Ad Ag).obs=some ((PySem.W.kHook Ac Ad Ag).val w):=PySem.W.byRow2 "special-get-raises" (P:=λw=>(HX.GK xQ w 20000).map (PySem.W.kHook Ac Ad Ag).obs=some ((PySem.W.kHook Ac Ad Ag).val w)) RE RF
theorem UG:PySem.W.LeftO xQ Dz ["FEWEST_PARTS"] MN (PySem.W.kHook Ac Ad Ag).obs (PySem.W.kHook Ac Ad Ag).val 20000:=λw=>by
 have h1:=UD w
 have h2:=UE w
 rw[HX.Uz]
 rw[<-PySem.W.Fast.te4187177175401517315]at h1
 obtain⟨s,e,h1⟩:=Option.map_eq_some_iff.mp h1
 rw[e]at h2⊢
 rw[Option.map_some,Option.some.injEq]at h2
 rw[Option.map_some,h1,h2]
end L2.D.My
namespace L2
open PySem PySem.Spec PyProof.Rows
noncomputable abbrev Key:=Sum Int Str
noncomputable def Je:Key->Value->Bool
 |.inl k,v=>Value.isInt k v
 |.inr x,v=>Value.isStrOf x v
noncomputable def RG(w:World):Key->Int
 |.inl k=>hashInt k
 |.inr x=>hashStr w x
theorem cX:∀{k:Key} {v:Value},Je k v=true->(∃i t,k=Sum.inl i/\v=Value.int i t)\/(∃x t,k=Sum.inr x/\v=Value.str x t)
 |.inl i,v,h=>by
  obtain⟨t,e⟩:=Value.isInt_shape (k:=i) (v:=v) h
  exact .inl ⟨i,t,rfl,e⟩
 |.inr x,v,h=>by
  obtain⟨t,e⟩:=Value.isStrOf_shape (x:=x) (v:=v) h
  exact .inr ⟨x,t,rfl,e⟩
theorem Km(a b:Int):decide ((Sum.inl a:Key)=Sum.inl b)=(a==b):=by
 by_cases e:a=b
 ·subst e;simp
 ·have h:¬(Sum.inl a:Key)=Sum.inl b:=λq=>e (Sum.inl.inj q)
  rw[decide_eq_false h]
  exact(beq_eq_false_iff_ne.mpr e).symm
theorem Kn(a b:Str):decide ((Sum.inr a:Key)=Sum.inr b)=decide (a=b):=by
 by_cases e:a=b
 ·subst e;simp
 ·have h:¬(Sum.inr a:Key)=Sum.inr b:=λq=>e (Sum.inr.inj q)
  rw[decide_eq_false h,decide_eq_false e]
theorem Ko(a:Int)(b:Str):decide ((Sum.inl a:Key)=Sum.inr b)=false:=decide_eq_false (λq=>nomatch q)
theorem Kp(a:Str)(b:Int):decide ((Sum.inr a:Key)=Sum.inl b)=false:=decide_eq_false (λq=>nomatch q)
noncomputable def Bu(prog:Program)(w:World):PySem.KeyKind prog w Key where
 is:=Je
 hash:=RG w
 inj:=λv a b ha hb=>by
  rcases cX ha with⟨i,t,rfl,rfl⟩|⟨x,t,rfl,rfl⟩
  ·rcases cX hb with⟨j,u,rfl,e⟩|⟨y,u,rfl,e⟩
   ·injection e with e1 _;rw[e1]
   ·exact nomatch e
  ·rcases cX hb with⟨j,u,rfl,e⟩|⟨y,u,rfl,e⟩
   ·exact nomatch e
   ·injection e with e1 _;rw[e1]
 byValue:=λk v h=>by
  rcases cX h with⟨i,t,rfl,rfl⟩|⟨x,t,rfl,rfl⟩<;>rfl
 pyHash:=λhv h=>by
  rcases cX hv with⟨i,t,rfl,rfl⟩|⟨x,t,rfl,rfl⟩
  ·exact wpAny_pyHash_int h
  ·exact wpAny_pyHash_str h
 eqBool:=λhu hv h=>by
  rcases cX hu with⟨i,t,rfl,rfl⟩|⟨x,t,rfl,rfl⟩
  ·rcases cX hv with⟨j,u,rfl,rfl⟩|⟨y,u,rfl,rfl⟩
   ·rw[Km]at h;exact wpAny_eqBool_int h
   ·rw[Ko]at h;exact SeqAt.EqAt.int_str i t y u _ _ _ _ h
  ·rcases cX hv with⟨j,u,rfl,rfl⟩|⟨y,u,rfl,rfl⟩
   ·rw[Kp]at h;exact SeqAt.EqAt.str_int x t j u _ _ _ _ h
   ·rw[Kn]at h;exact wpAny_eqBool_str h
 «strs»:=λk x t v h=>by
  rcases cX h with⟨i,u,rfl,e⟩|⟨y,u,rfl,e⟩
  ·exact nomatch e
  ·injection e with e1 _
   subst e1
   cases v<;>rfl
inductive V where
 |non|bl(b:Bool)|int(i:Int)|str(x:Str)|byt(b:Array UInt8)|flt(b:UInt64)|ref(a:Addr)|ty(n:String)
 deriving DecidableEq
noncomputable def RelV:V->Value->Prop
 |.non,u=>u=Value.none
 |.bl b,u=>u=Value.bool b
 |.int i,u=>∃t,u=Value.int i t
 |.str x,u=>∃t,u=Value.str x t
 |.byt b,u=>∃t,u=Value.bytes b t
 |.flt b,u=>∃t,u=Value.float b t
 |.ref a,u=>u=Value.ref a
 |.ty n,u=>u=Value.type n
noncomputable abbrev Vals:List V->List Value->Prop:=Paired RelV
theorem Vals.length{xs:List V}{us:List Value}(r:Vals xs us):xs.length=us.length:=Paired.length r
theorem Vals.get:∀{xs:List V} {us:List Value} {i:Nat} {x:V},Vals xs us->xs[i]?=some x->∃u,us[i]?=some u/\RelV x u
 |_,_,_,_,.nil,e=>by simp at e
 |_,_,0,_,.cons r _,e=>by simp at e;subst e;exact⟨_,rfl,r⟩
 |_,_,i+1,x,.cons _ t,e=>by
  obtain⟨u,h1,h2⟩:=Vals.get (i:=i) (x:=x) t (by simpa using e)
  exact⟨u,by simpa using h1,h2⟩
theorem Vals.append:∀{xs ys:List V} {us ws:List Value},Vals xs us->Vals ys ws->Vals (xs++ys) (us++ws)
 |_,_,_,_,.nil,s=>s
 |_,_,_,_,.cons r t,s=>.cons r (Vals.append t s)
theorem Vals.take:∀{xs:List V} {us:List Value} (n:Nat),Vals xs us->Vals (xs.take n) (us.take n)
 |_,_,0,_=>.nil
 |_,_,_+1,.nil=>.nil
 |_,_,n+1,.cons r t=>.cons r (Vals.take n t)
theorem Vals.drop:∀{xs:List V} {us:List Value} (n:Nat),Vals xs us->Vals (xs.drop n) (us.drop n)
 |_,_,0,r=>r
 |_,_,_+1,.nil=>.nil
 |_,_,n+1,.cons _ t=>Vals.drop n t
noncomputable def tE:Option V->Option Value->Prop
 |some v,some u=>RelV v u
 |none,none=>True
 |_,_=>False
noncomputable def KV{κ:Type}:List (κ×V)->List (κ×Value)->Prop:=Paired λ(p:κ×V) (q:κ×Value)=>p.1=q.1/\RelV p.2 q.2
noncomputable def kV:Key->V
 |.inl i=>.int i
 |.inr x=>.str x
inductive HO where
 |lst(xs:List V)
 |tup(xs:List V)
 |dK(cp:List (Key×V))|dT(cp:List (List Key×V))
 |set(S:Int->Bool)(n:Nat)
 |ins(C dx:Addr)(fs:List (Str×V))
 |own(x:Addr)
 |xd(fs:List (Str×V))
 |met(f x:Addr)
 |rng(lo hi:Int)
 |frz(o:Obj)(u:HO)
 |tbl(ps:Array Value)
 |ext(φ:Heap->Prop)
noncomputable abbrev Hp:=Addr->Option HO
noncomputable def upd(H:Hp)(a:Addr)(o:HO):Hp:=λb=>if b=a then some o else H b
theorem aQ{H:Hp}{a:Addr}{o:HO}:upd H a o a=some o:=by unfold upd;rw[if_pos rfl]
theorem aJ{H:Hp}{a b:Addr}{o:HO}(h:b≠a):upd H a o b=H b:=by unfold upd;rw[if_neg h]
theorem bI{H:Hp}{a b:Addr}{o:HO}(h:H a=some o)(h':H b=none):a≠b:=by
 intro e;subst e;rw[h]at h';cases h'
section
variable(P:Program)(w:World)
noncomputable def M3(h:Heap)(a:Addr):Prop:=∃o,h.get? a=some o/\o.dict=none
noncomputable def eV(H:Hp)(h:Heap)(a:Addr):HO->Prop
 |.lst xs=>xs.length<=sizeLine/\∃(its:List Value) (n:Nat),Vals xs its/\h.get? a=some {cls:=.type "list",data:=.seq its.toArray n}
 |.tup xs=>(xs.length<=sizeLine/\M3 h a)/\∃its:List Value,Vals xs its/\IsTup h a its.toArray
 |.dK cp=>cp.length<=sizeLine/\(a==sysModules)=false/\∃vs,KV cp vs/\h.DictOf (Bu P w) a vs
 |.dT cp=>cp.length<=sizeLine/\(a==sysModules)=false/\∃xs:List (List Key×Addr×Value),
   Paired (λ(p:List Key×V) (q:List Key×Addr×Value)=>p.1=q.1/\H q.2.1=some (.tup (p.1.map kV))/\RelV p.2 q.2.2) cp xs/\
   ∃o es ep,h.get? a=some o/\o.ExactDict/\o.data=.dict es ep/\es.toList=xs.map (entryOfKey (tupleKind (Bu P w)))/\(xs.map (·.1)).Nodup
 |.set S n=>h.SetOf (intKind P w) a S n
 |.ins C dx fs=>H dx=some (.own a)/\fs.length<=1000/\dx≠a/\h.get? a=some (PySem.W.instObj C dx)/\
   ∃mA,h.Ns1 dx mA/\(∀f,tE (fs.lookup f) (mA f))/\PySem.Within mA (fs.map (·.1))
 |.own _=>∃o,h.get? a=some o
 |.xd fs=>∃mA,h.Ns1 a mA/\∀f,tE (fs.lookup f) (mA f)
 |.rng lo hi=>∃t u v,h.get? a=some {cls:=.type "range",data:=.fields #[.int lo t,.int hi u,.int 1 v]}
 |.frz o u=>h.get? a=some o/\eV H h a u
 |.tbl ps=>h.get? a=some {cls:=.none,data:=.fields ps}
 |.met f x=>h.get? a=some (PySem.W.methodObj (.ref f) (.ref x))
 |.ext φ=>φ h/\(∃o,h.get? a=some o)/\∀h1 h2:Heap,φ h1->(∀o,h1.get? a=some o->h2.get? a=some o)->φ h2
noncomputable def qz(H:Hp)(h:Heap):Prop:=∀a o,H a=some o->eV P w H h a o
end
section
variable{P:Program}{w:World}{H H':Hp}{h h':Heap}{a:Addr}{o:HO}
theorem eV.lt(x:eV P w H h a o):a<h.objs.size:=by
 cases o with
 |lst xs=>obtain⟨_,_,_,_,e⟩:=x;exact Heap.lt_size e
 |tup xs=>obtain⟨_,_,_,p⟩:=x;exact p.lt
 |dK cp=>obtain⟨_,_,_,_,o,_,_,e,_⟩:=x;exact Heap.lt_size e
 |dT cp=>obtain⟨_,_,_,_,o,_,_,e,_⟩:=x;exact Heap.lt_size e
 |set S n=>obtain⟨o,_,_,_,e,_⟩:=x;exact Heap.lt_size e
 |ins C dx fs=>obtain⟨_,_,_,e,_⟩:=x;exact Heap.lt_size e
 |own y=>obtain⟨_,e⟩:=x;exact Heap.lt_size e
 |xd fs=>obtain⟨_,⟨_,_,_,e,_⟩,_⟩:=x;exact Heap.lt_size e
 |rng lo hi=>obtain⟨_,_,_,e⟩:=x;exact Heap.lt_size e
 |frz ob u=>obtain⟨e,_⟩:=x;exact Heap.lt_size e
 |tbl ps=>exact Heap.lt_size (show h.get? a=some _ from x)
 |met f y=>exact Heap.lt_size (show h.get? a=some _ from x)
 |ext φ=>obtain⟨_,⟨_,e⟩,_⟩:=x;exact Heap.lt_size e
theorem Paired.M4{α β:Type}{F G:α->β->Prop}:∀{l₁:List α} {l₂:List β},Paired F l₁ l₂->(∀a b,F a b->G a b)->Paired G l₁ l₂
 |_,_,.nil,_=>.nil
 |_,_,.cons r t,f=>.cons (f _ _ r) (Paired.M4 t f)
theorem eV.xR(x:eV P w H h a o)(k:∀b u,(b=a\/H b=some (.own a))->h.get? b=some u->h'.get? b=some u)
  (ho:∀b,H b=some (.own a)->H' b=some (.own a))(ht:∀b xs,H b=some (.tup xs)->H' b=some (.tup xs)):eV P w H' h' a o:=by
 induction o with
 |lst xs=>obtain⟨z,its,n,r,e⟩:=x;exact⟨z,its,n,r,k _ _ (.inl rfl) e⟩
 |tup xs=>obtain⟨⟨z,od,ed,hd⟩,its,r,ob,e,c⟩:=x;exact⟨⟨z,od,k _ _ (.inl rfl) ed,hd⟩,its,r,ob,k _ _ (.inl rfl) e,c⟩
 |dK cp=>obtain⟨z,y,vs,r,ob,es,ep,e,c⟩:=x;exact⟨z,y,vs,r,ob,es,ep,k _ _ (.inl rfl) e,c⟩
 |dT cp=>
  obtain⟨z,y,xs,r,ob,es,ep,e,c⟩:=x
  exact⟨z,y,xs,Paired.M4 r λp q z=>⟨z.1,ht _ _ z.2.1,z.2.2⟩,ob,es,ep,k _ _ (.inl rfl) e,c⟩
 |set S n=>obtain⟨ob,es,ep,t,e,c⟩:=x;exact⟨ob,es,ep,t,k _ _ (.inl rfl) e,c⟩
 |ins C dx fs=>
  obtain⟨d,z,ne,e,mA,⟨od,es,ep,e2,c⟩,r⟩:=x
  exact⟨ho _ d,z,ne,k _ _ (.inl rfl) e,mA,⟨od,es,ep,k _ _ (.inr d) e2,c⟩,r⟩
 |own y=>obtain⟨ob,e⟩:=x;exact⟨ob,k _ _ (.inl rfl) e⟩
 |xd fs=>obtain⟨mA,⟨od,es,ep,e,c⟩,r⟩:=x;exact⟨mA,⟨od,es,ep,k _ _ (.inl rfl) e,c⟩,r⟩
 |rng lo hi=>obtain⟨t,u,v,e⟩:=x;exact⟨t,u,v,k _ _ (.inl rfl) e⟩
 |frz ob u ih=>obtain⟨e,q⟩:=x;exact⟨k _ _ (.inl rfl) e,ih q⟩
 |tbl ps=>
  have e:h.get? a=some {cls:=.none,data:=.fields ps}:=x
  show h'.get? a=some {cls:=.none,data:=.fields ps}
  exact k a _ (.inl rfl) e
 |met f y=>
  have e:h.get? a=some (PySem.W.methodObj (.ref f) (.ref y)):=x
  show h'.get? a=some (PySem.W.methodObj (.ref f) (.ref y))
  exact k a _ (.inl rfl) e
 |ext φ=>obtain⟨p,⟨o,e⟩,st⟩:=x;exact⟨st _ _ p λo q=>k _ _ (.inl rfl) q,⟨o,k _ _ (.inl rfl) e⟩,st⟩
theorem qz.lt(x:qz P w H h)(e:H a=some o):a<h.objs.size:=(x a o e).lt
theorem qz.fresh(x:qz P w H h)(e:h.objs.size<=a):H a=none:=by
 cases q:H a with
 |none=>rfl
 |some u=>exact absurd (Nat.lt_of_lt_of_le (x.lt q) e) (Nat.lt_irrefl _)
theorem qz.kept(x:qz P w H h)(k:∀b u,h.get? b=some u->h'.get? b=some u):qz P w H h':=λa o e=>
 (x a o e).xR (λb u _ q=>k b u q) (λ_ q=>q) λ_ _ q=>q
theorem qz.laid(x:qz P w H h)(k:∀b u,h.get? b=some u->h'.get? b=some u)(hp:h.objs.size<=a)(new:eV P w (upd H a o) h' a o):qz P w (upd H a o) h':=λb u e=>by
 have hn:=x.fresh hp
 by_cases hb:b=a
 ·subst hb;rw[aQ]at e;cases e;exact new
 ·rw[aJ hb]at e
  exact(x b u e).xR (λc v _ q=>k c v q) (λc q=>by rw[aJ (bI q hn)];exact q) λc xs q=>by rw[aJ (bI q hn)];exact q
end
noncomputable def Rd(H:Hp)(a:Addr)(u:HO):Prop:=H a=some u\/∃o,H a=some (.frz o u)
theorem Rd.ok{P:Program}{w:World}{H:Hp}{h:Heap}{a:Addr}{u:HO}(r:Rd H a u)(x:qz P w H h):eV P w H h a u:=by
 rcases r with r|⟨o,r⟩
 ·exact x a u r
 ·obtain⟨_,q⟩:=x a _ r
  exact q
noncomputable def Q2:Option HO->Prop
 |some (.lst _)=>True
 |some (.dK _)=>True
 |some (.dT _)=>True
 |some (.set _ _)=>True
 |some (.ins _ _ _)=>True
 |some (.ext _)=>True
 |_=>False
section
variable{P:Program}{w:World}{H:Hp}{h h':Heap}{x e:Addr}{o':HO}
theorem qz.write(ok:qz P w H h)(mu:Q2 (H x))(he:e=x\/H e=some (.own x))(k:∀b u,b≠e->h.get? b=some u->h'.get? b=some u)(MO:∃u,h'.get? e=some u)
  (new:eV P w (upd H x o') h' x o'):qz P w (upd H x o') h':=λb u q=>by
 have tF:∀c y,H c=some (.own y)->c≠x:=λc y r z=>by subst z;rw[r]at mu;exact mu
 have RH:∀c xs,H c=some (.tup xs)->c≠x:=λc xs r z=>by subst z;rw[r]at mu;exact mu
 by_cases hb:b=x
 ·subst hb;rw[aQ]at q;cases q;exact new
 ·rw[aJ hb]at q
  by_cases Kq:b=e
  ·have q':H b=some (.own x):=by
     rcases he with z|z
     ·exact absurd (Kq.trans z) hb
     ·rw[Kq];exact z
   rw[q]at q';cases q'
   obtain⟨v,hv⟩:=MO
   exact⟨v,by rw[Kq];exact hv⟩
  ·refine(ok b u q).xR (λc v hc r=>k c v ?_ r) (λc r=>by rw[aJ (tF c b r)];exact r) λc xs r=>by rw[aJ (RH c xs r)];exact r
   rcases hc with rfl|hc
   ·exact Kq
   ·rintro rfl
    rcases he with z|z
    ·exact tF c b hc z
    ·rw[hc]at z;cases z;exact hb rfl
end
structure Un(fs ex:List Addr)(H H':Hp)(h h':Heap):Prop where
 keep:∀b o,h.get? b=some o->H b=none->b∉fs->b∉ex->h'.get? b=some o
 slot:∀b o,h.get? b=some o->H b=none->b∈fs->b∉ex->∃sl,h'.get? b=some {o with slots:=sl}
 free:∀b o,h.get? b=some o->H b=none->b∉ex->H' b=none
 there:∀b o,h.get? b=some o->b∉ex->∃o',h'.get? b=some o'
 tG:∀b xs,H b=some (.tup xs)->H' b=some (.tup xs)
 qR:∀b o u,H b=some (.frz o u)->H' b=some (.frz o u)
 vD:∀b ps,H b=some (.tbl ps)->∃more,H' b=some (.tbl (ps++more))
section
variable{fs GL ex Wf:List Addr}{H H1 H2:Hp}{h h1 h2 h':Heap}{a x e:Addr}{o:HO}
theorem Un.any(u:Un fs ex H H1 h h1){b:Addr}{ob:Obj}(q:h.get? b=some ob)(n:H b=none)(hx:b∉ex):∃sl,h1.get? b=some {ob with slots:=sl}:=by
 by_cases hb:b∈fs
 ·exact u.slot b ob q n hb hx
 ·exact⟨ob.slots,u.keep b ob q n hb hx⟩
theorem Un.kept(k:∀b u,h.get? b=some u->h'.get? b=some u):Un fs ex H H h h':=
 ⟨λb ob q _ _ _=>k b ob q,λb ob q _ _ _=>⟨ob.slots,k b ob q⟩,λ_ _ _ n _=>n,λb ob q _=>⟨ob,k b ob q⟩,λ_ _ q=>q,λ_ _ _ q=>q,λ_ ps q=>⟨#[],by rw[q];simp⟩⟩
theorem Un.refl:Un fs ex H H h h:=Un.kept λ_ _ q=>q
theorem Un.laid(k:∀b u,h.get? b=some u->h'.get? b=some u)(hp:h.objs.size<=a)(hn:H a=none):Un fs ex H (upd H a o) h h' where
 keep:=λb u q _ _ _=>k b u q
 slot:=λb u q _ _ _=>⟨u.slots,k b u q⟩
 free:=λb u q n _=>by rw[aJ (Nat.ne_of_lt (Nat.lt_of_lt_of_le (Heap.lt_size q) hp))];exact n
 there:=λb u q _=>⟨u,k b u q⟩
 tG:=λb xs q=>by rw[aJ (bI q hn)];exact q
 qR:=λb u xs q=>by rw[aJ (bI q hn)];exact q
 vD:=λb ps q=>⟨#[],by rw[aJ (bI q hn),q];simp⟩
theorem Un.write(mu:Q2 (H x))(he:e=x\/H e=some (.own x))(k:∀b u,b≠e->h.get? b=some u->h'.get? b=some u)(MO:∃u,h'.get? e=some u):Un fs ex H (upd H x o) h h':=by
 have hx:∀b,H b=none->b≠x:=λb n z=>by subst z;rw[n]at mu;exact mu
 have hb:∀b,H b=none->b≠e:=λb n z=>by
  subst z
  rcases he with r|r
  ·exact hx b n r
  ·rw[n]at r;cases r
 have hm:∀b u,H b=some u->¬Q2 (some u)->b≠x:=λb u q nm z=>by subst z;rw[q]at mu;exact nm mu
 refine⟨λb u q n _ _=>k b u (hb b n) q,λb u q n _ _=>⟨u.slots,k b u (hb b n) q⟩,λb u q n _=>by rw[aJ (hx b n)];exact n,λb u q _=>?_,
  λb xs q=>by rw[aJ (hm b _ q λz=>z)];exact q,λb u xs q=>by rw[aJ (hm b _ q λz=>z)];exact q,λb ps q=>⟨#[],by rw[aJ (hm b _ q λz=>z),q];simp⟩⟩
 by_cases Kq:b=e
 ·subst Kq;exact MO
 ·exact⟨u,k b u Kq q⟩
end
noncomputable def Q3(h:Heap)(H:Hp):List Addr:=(List.range h.objs.size).filter λa=>(H a).isSome
noncomputable def vE(h:Heap)(H:Hp):Heap:=PySem.W.hideAll h (Q3 h H)
theorem CB(h:Heap)(H:Hp):(vE h H).objs.size=h.objs.size:=PySem.W.hideAll_size _ _
theorem DL{h:Heap}{H:Hp}{b:Addr}{o:Obj}(e:h.get? b=some o)(n:H b=none):(vE h H).get? b=some o:=
 PySem.W.hideAll_get _ e λhm=>by
  have q:(H b).isSome=true:=(List.mem_filter.mp hm).2
  rw[n]at q;simp at q
theorem GX{h:Heap}{H:Hp}{b:Addr}{o:Obj}(e:(vE h H).get? b=some o):h.get? b=some o/\H b=none:=by
 have e':h.get? b=some o:=PySem.W.of_hideAll (Q3 h H) e
 refine⟨e',?_⟩
 cases q:H b with
 |none=>rfl
 |some x=>
  have hm:b∈Q3 h H:=List.mem_filter.mpr ⟨List.mem_range.mpr (Heap.lt_size e'),by simp[q]⟩
  have z:(vE h H).get? b=none:=PySem.W.hideAll_none (Q3 h H) hm
  rw[z]at e;cases e
structure Mod(K:PySem.W.Frag)(mg:Str->Option Value)(base:Heap):Prop where
 kin:K.In base
 glob:base.Ns mainGlobals mg
 blt:∃mb,base.Ns builtinsNs mb/\∀x:Str,x≠ "__name__" ->mb x=bootBuiltins x
 nolimit:base.NoLimit
structure Cx where
 prog:Program
 w:World
 K:PySem.W.Frag
 mg:Str->Option Value
 base:Heap
 A:Around
 N:List Str
 s₀:Shared
 H₀:Hp
 env:Env
 outer:List Env
 stack:List Env
 ex:List Addr
 fn:Str->Bool
 calm:Bool
 pn:List (Addr×Obj)
 xe:Value->Shared->Prop
noncomputable def CD(l:List Env):List Addr:=l.filterMap (·.frame)
noncomputable abbrev Cx.fs(X:Cx):List Addr:=CD X.outer
noncomputable def xS(sc:Scope)(x:Str):Prop:=sc.names.lookup x=some .local\/sc.names.lookup x=some .cell\/sc.names.lookup x=some .free
noncomputable def Loc(sc:Scope)(x:Str):Prop:=sc.names.lookup x=some .local\/sc.names.lookup x=some .cell
noncomputable def Look(env:Env)(h:Heap)(m:Str->Option Value)(x:Str)(u:Value):Prop:=
 (env.kindOf x=some .local/\m x=some u)\/((env.kindOf x=some .cell\/env.kindOf x=some .free)/\∃c,env.cells.lookup x=some c/\h.IsCell c (some u))
structure Cx.Ok(X:Cx):Prop where
 mod:Mod X.K X.mg X.base
 kind:X.env.scope.kind=.function
 glob:X.env.globals=mainGlobals
 blt:X.env.builtins=builtinsNs
 above:X.s₀.heap.objs.size<=X.env.locals
 inj:∀x y c,X.env.cells.lookup x=some c->X.env.cells.lookup y=some c->x=y
 has:∀x,(X.env.kindOf x=some .cell\/X.env.kindOf x=some .free)->∃c,X.env.cells.lookup x=some c
 cab:∀x c,X.fn x=true->X.env.cells.lookup x=some c->X.s₀.heap.objs.size<=c
 hd:X.calm=true->X.A.handled=none
 frames:X.A.frames=some X.stack
 stk:X.stack=X.outer\/(X.stack=X.env::X.outer/\X.env.frame=some X.env.locals)
 exf:∀b∈X.ex,b≠X.env.locals/\∀x c,X.env.cells.lookup x=some c->c≠b
 bs:∀b o,X.base.get? b=some o->X.s₀.heap.get? b=some o/\X.H₀ b=none
 bsz:X.base.objs.size<=X.s₀.heap.objs.size
 noex:∀b o,X.base.get? b=some o->b∉X.ex
 exfs:∀b∈X.ex,b∉X.fs
 funs:X.s₀.heap.FunFrames X.base X.outer
 frf:∀b∈X.fs,X.H₀ b=none
structure Inv(X:Cx)(pins:List (Addr×Obj))(σ:List (Option V))(H:Hp)(s:Shared):Prop where
 ok:X.Ok
 os:s.os=X.s₀.os
 bare:AllBare s.gens
 base:Un X.fs X.ex X.H₀ H X.s₀.heap s.heap
 loc:∃m,s.heap.Ns X.env.locals m/\∀(i:Nat) (x:Str) (v:V),X.N[i]?=some x->σ[i]?=some (some v)->xS X.env.scope x->∃u,RelV v u/\Look X.env s.heap m x u
 cell:∀x c,X.env.cells.lookup x=some c->∃v,s.heap.IsCell c v
 free:H X.env.locals=none
 freeC:∀x c,X.env.cells.lookup x=some c->H c=none
 pin:∀p∈X.pn++pins,s.heap.get? p.1=some p.2/\H p.1=none/\p.1≠X.env.locals/\p.1∉X.fs/\∀v,p.2.data≠.cell v
 eT:qz X.prog X.w H s.heap
 len:σ.length=X.N.length
section
variable{X:Cx}{pins:List (Addr×Obj)}{σ:List (Option V)}{H H':Hp}{s:Shared}{h':Heap}
theorem Cx.Ok.RI(ok:X.Ok){b:Addr}{o:Obj}(e:X.base.get? b=some o):b∉X.fs:=λhb=>by
 have:=(ok.funs.mem hb).1
 rw[e]at this;cases this
theorem Inv.bs(I:Inv X pins σ H s):∀b o,X.base.get? b=some o->s.heap.get? b=some o/\H b=none:=λb o e=>
 ⟨I.base.keep b o (I.ok.bs b o e).1 (I.ok.bs b o e).2 (I.ok.RI e) (I.ok.noex b o e),I.base.free b o (I.ok.bs b o e).1 (I.ok.bs b o e).2 (I.ok.noex b o e)⟩
theorem Inv.bk(I:Inv X pins σ H s):∀b o,X.base.get? b=some o->s.heap.get? b=some o:=λb o e=>(I.bs b o e).1
theorem Inv.mod(I:Inv X pins σ H s):Mod X.K X.mg X.base:=I.ok.mod
theorem Inv.jC(I:Inv X pins σ H s):X.K.In s.heap:=I.ok.mod.kin.keeps I.bk
theorem Inv.lt(I:Inv X pins σ H s):X.env.locals<s.heap.objs.size:=let⟨_,hn,_⟩:=I.loc;hn.lt
theorem Inv.sz(I:Inv X pins σ H s):X.s₀.heap.objs.size<=s.heap.objs.size:=Nat.le_trans I.ok.above (Nat.le_of_lt I.lt)
theorem Inv.Kr(I:Inv X pins σ H s){a:Addr}(h:s.heap.objs.size<=a):a∉X.fs:=λhb=>by
 obtain⟨_,o,ho,_⟩:=I.ok.funs.mem hb
 exact absurd (Nat.lt_of_lt_of_le (Heap.lt_size ho) (Nat.le_trans I.sz h)) (Nat.lt_irrefl _)
theorem Inv.Ks(I:Inv X pins σ H s):∀x c,X.env.cells.lookup x=some c->c≠X.env.locals:=λx c e z=>by
 obtain⟨v,o,ho,hd⟩:=I.cell x c e
 obtain⟨m,⟨o',es,ep,Kt,M5,_⟩,_⟩:=I.loc
 rw[z,Kt]at ho;cases ho;rw[M5]at hd;cases hd
theorem Inv.funs(I:Inv X pins σ H s):s.heap.FunFrames X.base X.outer:=by
 have all:∀(l:List Env),(∀b∈CD l,b∈X.fs)->X.s₀.heap.FunFrames X.base l->s.heap.FunFrames X.base l:=by
  intro l
  induction l with
  |nil=>intro _ _;trivial
  |cons env r ih=>
   intro hs hl
   obtain⟨hk,⟨L,o,hf,hn,ho,hd⟩,hr⟩:=hl
   have hL:L∈X.fs:=hs L (by unfold CD;rw[List.filterMap_cons,hf];exact List.mem_cons_self)
   obtain⟨sl,e⟩:=I.base.slot L o ho (I.ok.frf L hL) hL λz=>I.ok.exfs L z hL
   exact⟨hk,⟨L,_,hf,hn,e,hd⟩,ih (λb hb=>hs b (by unfold CD;rw[List.filterMap_cons,hf];exact List.mem_cons_of_mem _ hb)) hr⟩
 exact all X.outer (λ_ hb=>hb) I.ok.funs
theorem Inv.stack(I:Inv X pins σ H s):s.heap.FunFrames X.base X.stack:=by
 rcases I.ok.stk with e|⟨e,hf⟩
 ·rw[e];exact I.funs
 ·rw[e]
  obtain⟨m,hn,_⟩:=I.loc
  refine .cons (by rw[I.ok.kind];decide) hf hn ?_ I.funs
  exact Heap.get?_none_of_le (Nat.le_trans I.ok.bsz I.ok.above)
theorem Inv.Ah(I:Inv X pins σ H s):∀b∈CD X.stack,b∈X.env.locals::X.fs:=λb hb=>by
 rcases I.ok.stk with e|⟨e,hf⟩
 ·rw[e]at hb;exact List.mem_cons_of_mem _ hb
 ·rw[e]at hb
  unfold CD at hb
  rw[List.filterMap_cons,hf]at hb
  exact hb
theorem Inv.Bv(I:Inv X pins σ H s):∀b∈CD X.stack,H b=none:=λb hb=>by
 rcases List.mem_cons.mp (I.Ah b hb)with e|hb
 ·rw[e];exact I.free
 ·obtain⟨_,o,ho,_⟩:=I.ok.funs.mem hb
  exact I.base.free b o ho (I.ok.frf b hb) λz=>I.ok.exfs b z hb
theorem Inv.step{g':Array GenState}{t':Nat}{d':Drawn}{ch:List Addr}(I:Inv X pins σ H s)
  (GN:∀b∈ch,(b∈X.ex\/X.s₀.heap.objs.size<=b)/\b≠X.env.locals/\(∀x c,X.env.cells.lookup x=some c->c≠b)/\∀p∈X.pn++pins,p.1≠b)
  (keep:∀b o,b≠X.env.locals->b∉X.fs->b∉ch->s.heap.get? b=some o->H b=none->h'.get? b=some o)
  (slot:∀b o,b≠X.env.locals->b∈X.fs->b∉ch->s.heap.get? b=some o->H b=none->∃sl,h'.get? b=some {o with slots:=sl})(free:∀b o,b∉ch->s.heap.get? b=some o->H b=none->H' b=none)
  (there:∀b o,b∉ch->s.heap.get? b=some o->∃o',h'.get? b=some o')
  (tG:∀b xs,H b=some (.tup xs)->H' b=some (.tup xs))(qR:∀b o u,H b=some (.frz o u)->H' b=some (.frz o u))(vD:∀b ps,H b=some (.tbl ps)->∃more,H' b=some (.tbl (ps++more)))
  (ns:∀m,s.heap.Ns X.env.locals m->h'.Ns X.env.locals m)(eT:qz X.prog X.w H' h')(hg:AllBare g'):
  Inv X pins σ H' {s with heap:=h',gens:=g',drawn:=d',toks:=t'}:=by
 have TJ:∀b o,X.s₀.heap.get? b=some o->b≠X.env.locals:=λb o e=>Nat.ne_of_lt (Nat.lt_of_lt_of_le (Heap.lt_size e) I.ok.above)
 have Q4:∀b o,X.s₀.heap.get? b=some o->b∉X.ex->b∉ch:=λb o e hx hb=>by
  rcases(GN b hb).1 with z|z
  ·exact hx z
  ·exact absurd (Nat.lt_of_lt_of_le (Heap.lt_size e) z) (Nat.lt_irrefl _)
 have cellK:∀x c,X.env.cells.lookup x=some c->∀v,s.heap.IsCell c v->h'.IsCell c v:=λx c e v ⟨o,ho,hd⟩=>by
  have M6:c∉ch:=λz=>(GN c z).2.2.1 x c e rfl
  by_cases hc:c∈X.fs
  ·obtain⟨sl,q⟩:=slot c o (I.Ks x c e) hc M6 ho (I.freeC x c e)
   exact⟨_,q,hd⟩
  ·exact⟨o,keep c o (I.Ks x c e) hc M6 ho (I.freeC x c e),hd⟩
 refine⟨I.ok,I.os,hg,⟨λb o e n hb hx=>?_,λb o e n hb hx=>?_,λb o e n hx=>?_,λb o e hx=>?_,λb xs e=>tG b xs (I.base.tG b xs e),λb o xs e=>qR b o xs (I.base.qR b o xs e),λb ps e=>?_⟩,?_,λx c e=>?_,?_,λx c e=>?_,λp hp=>?_,eT,I.len⟩
 ·exact keep b o (TJ b o e) hb (Q4 b o e hx) (I.base.keep b o e n hb hx) (I.base.free b o e n hx)
 ·obtain⟨sl,e1⟩:=I.base.slot b o e n hb hx
  obtain⟨UH,e2⟩:=slot b _ (TJ b o e) hb (Q4 b o e hx) e1 (I.base.free b o e n hx)
  exact⟨UH,e2⟩
 ·obtain⟨o',e1⟩:=I.base.there b o e hx
  exact free b o' (Q4 b o e hx) e1 (I.base.free b o e n hx)
 ·obtain⟨o',e1⟩:=I.base.there b o e hx
  exact there b o' (Q4 b o e hx) e1
 ·obtain⟨m1,e1⟩:=I.base.vD b ps e
  obtain⟨m2,e2⟩:=vD b _ e1
  exact⟨m1++m2,by rw[e2,Array.append_assoc]⟩
 ·obtain⟨m,hn,hl⟩:=I.loc
  refine⟨m,ns m hn,λi x v e1 e2 e3=>?_⟩
  obtain⟨u,r,l⟩:=hl i x v e1 e2 e3
  refine⟨u,r,?_⟩
  rcases l with l|⟨k,c,e,z⟩
  ·exact .inl l
  ·exact .inr ⟨k,c,e,cellK x c e _ z⟩
 ·obtain⟨v,z⟩:=I.cell x c e
  exact⟨v,cellK x c e v z⟩
 ·obtain⟨m,⟨o,_,_,ho,_⟩,_⟩:=I.loc
  exact free _ o (λz=>(GN _ z).2.1 rfl) ho I.free
 ·obtain⟨v,o,ho,hd⟩:=I.cell x c e
  exact free c o (λz=>(GN c z).2.2.1 x c e rfl) ho (I.freeC x c e)
 ·obtain⟨e,n,ne,nf,d⟩:=I.pin p hp
  have M6:p.1∉ch:=λz=>(GN p.1 z).2.2.2 p hp rfl
  exact⟨keep p.1 p.2 ne nf M6 e n,free p.1 p.2 M6 e n,ne,nf,d⟩
theorem Inv.un{t':Nat}(I:Inv X pins σ H s)(u:Un X.fs [] H H' s.heap h')(eT:qz X.prog X.w H' h'):Inv X pins σ H' {s with heap:=h',toks:=t'}:=by
 obtain⟨m,⟨o,es,ep,ho,r⟩,_⟩:=id I.loc
 obtain⟨sl,hL⟩:=u.any ho I.free (by simp)
 exact I.step (g':=s.gens) (d':=s.drawn) (ch:=[]) (λ_ z=>nomatch z) (λb o _ hb _ e n=>u.keep b o e n hb (by simp)) (λb o _ hb _ e n=>u.slot b o e n hb (by simp)) (λb o _ e n=>u.free b o e n (by simp)) (λb o _ e=>u.there b o e (by simp)) u.tG u.qR u.vD (λm' hm=>by
  obtain⟨o',RJ,RK,Kt,r'⟩:=hm
  rw[ho]at Kt;cases Kt
  exact⟨_,RJ,RK,hL,r'⟩) eT I.bare
theorem Inv.call{g':Array GenState}{t':Nat}{d':Drawn}{ch:List Addr}(I:Inv X pins σ H s)(u:Un (CD X.stack) ch H H' s.heap h')(eT:qz X.prog X.w H' h')(hg:AllBare g')
  (GN:∀b∈ch,(b∈X.ex\/X.s₀.heap.objs.size<=b)/\b≠X.env.locals/\(∀x c,X.env.cells.lookup x=some c->c≠b)/\∀p∈X.pn++pins,p.1≠b):
  Inv X pins σ H' {s with heap:=h',gens:=g',drawn:=d',toks:=t'}:=by
 obtain⟨m,⟨o,es,ep,ho,r⟩,_⟩:=id I.loc
 obtain⟨sl,hL⟩:=u.any ho I.free λz=>(GN _ z).2.1 rfl
 exact I.step (ch:=ch) GN (λb o hL hb hc e n=>u.keep b o e n (λz=>(List.mem_cons.mp (I.Ah b z)).elim hL hb) hc) (λb o _ _ hc e n=>u.any e n hc) (λb o hc e n=>u.free b o e n hc) (λb o hc e=>u.there b o e hc) u.tG u.qR u.vD (λm' hm=>by
  obtain⟨o',RJ,RK,Kt,r'⟩:=hm
  rw[ho]at Kt;cases Kt
  exact⟨_,RJ,RK,hL,r'⟩) eT hg
theorem Inv.turned{t':Nat}{it:Addr}(I:Inv X pins σ H s)(k:∀b o,b≠it->s.heap.get? b=some o->h'.get? b=some o)(hn:H it=none)(hL:it≠X.env.locals)
  (h1:it∈X.ex\/X.s₀.heap.objs.size<=it)(h2:∀x c,X.env.cells.lookup x=some c->c≠it)(h3:∀p∈X.pn++pins,p.1≠it):Inv X pins σ H {s with heap:=h',toks:=t'}:=by
 have Jf:∀b u,H b=some u->b≠it:=λb u e z=>by rw[z,hn]at e;cases e
 refine I.step (g':=s.gens) (d':=s.drawn) (ch:=[it]) (λb hb=>?_) (λb o _ _ hc e _=>k b o (λz=>hc (by simp[z])) e) (λb o _ _ hc e _=>⟨o.slots,k b o (λz=>hc (by simp[z])) e⟩) (λ_ _ _ _ n=>n)
  (λb o hc e=>⟨o,k b o (λz=>hc (by simp[z])) e⟩) (λ_ _ e=>e) (λ_ _ _ e=>e) (λb ps e=>⟨#[],by rw[e];simp⟩) (λm hm=>?_) (λb u e=>?_) I.bare
 ·have e:b=it:=by simpa using hb
  subst e
  exact⟨h1,hL,h2,h3⟩
 ·obtain⟨o,es,ep,ho,r⟩:=hm
  exact⟨o,es,ep,k _ o (Ne.symm hL) ho,r⟩
 ·refine(I.eT b u e).xR (λc v hc q=>k c v ?_ q) (λ_ q=>q) λ_ _ q=>q
  rcases hc with z|z
  ·rw[z];exact Jf b u e
  ·exact Jf c _ z
theorem Inv.tok(I:Inv X pins σ H s)(t:Nat):Inv X pins σ H {s with toks:=t}:=I.un (h':=s.heap) (t':=t) Un.refl I.eT
theorem Inv.kept{t':Nat}(I:Inv X pins σ H s)(k:∀b u,s.heap.get? b=some u->h'.get? b=some u):Inv X pins σ H {s with heap:=h',toks:=t'}:=I.un (Un.kept k) (I.eT.kept k)
theorem Inv.laid{a:Addr}{o:HO}{t':Nat}(I:Inv X pins σ H s)(k:∀b u,s.heap.get? b=some u->h'.get? b=some u)(hp:s.heap.objs.size<=a)(new:eV X.prog X.w (upd H a o) h' a o):
 Inv X pins σ (upd H a o) {s with heap:=h',toks:=t'}:=I.un (Un.laid k hp (I.eT.fresh hp)) (I.eT.laid k hp new)
theorem Inv.write{x e:Addr}{o:HO}{t':Nat}(I:Inv X pins σ H s)(mu:Q2 (H x))(he:e=x\/H e=some (.own x))(k:∀b u,b≠e->s.heap.get? b=some u->h'.get? b=some u)(MO:∃u,h'.get? e=some u)
 (new:eV X.prog X.w (upd H x o) h' x o):Inv X pins σ (upd H x o) {s with heap:=h',toks:=t'}:=I.un (Un.write mu he k MO) (I.eT.write mu he k MO new)
theorem Inv.weak{σ':List (Option V)}(I:Inv X pins σ H s)(hl:σ'.length=σ.length)(w:∀(i:Nat) v,σ'[i]?=some (some v)->σ[i]?=some (some v)):Inv X pins σ' H s:=
 ⟨I.ok,I.os,I.bare,I.base,let⟨m,hn,RL⟩:=I.loc;⟨m,hn,λi x v e1 e2 e3=>RL i x v e1 (w i v e2) e3⟩,I.cell,I.free,I.freeC,I.pin,I.eT,hl.trans I.len⟩
theorem Inv.qA{nM:List (Addr×Obj)}(I:Inv X pins σ H s)(h:∀p∈nM,s.heap.get? p.1=some p.2/\H p.1=none/\p.1≠X.env.locals/\p.1∉X.fs/\∀v,p.2.data≠.cell v):Inv X nM σ H s:=
 ⟨I.ok,I.os,I.bare,I.base,I.loc,I.cell,I.free,I.freeC,λp hp=>(List.mem_append.mp hp).elim (λz=>I.pin p (List.mem_append_left _ z)) (h p),I.eT,I.len⟩
theorem xT{N:List Str}(hN:N.Nodup){i j:Nat}{x:Str}(a:N[i]?=some x)(b:N[j]?=some x):i=j:=by
 obtain⟨h1,e1⟩:=List.getElem?_eq_some_iff.mp a
 obtain⟨h2,e2⟩:=List.getElem?_eq_some_iff.mp b
 exact(List.getElem_inj hN).mp (e1.trans e2.symm)
theorem uU{M:Model}{A:Around}{E:Value->Shared->Prop}{i:Nat}{x:Str}{v:V}{u:Value}{Q:Unit->Shared->Prop}(I:Inv X pins σ H s)(hN:X.N.Nodup)(hi:X.N[i]?=some x)(hx:Loc X.env.scope x)(r:RelV v u)
  (h:∀s',Inv X pins (σ.set i (some v)) H s'->(∃a,Heap.SameBut a s.heap s'.heap/\(a=X.env.locals\/X.env.cells.lookup x=some a))->Q () s')(hf:X.fn x=true\/X.env.scope.names.lookup x=some .local:=by first|exact .inl rfl|exact .inr rfl|assumption):wpAny M A (storeName X.env x u) Q E s:=by
 obtain⟨m,hn,hl⟩:=id I.loc
 have RM:(X.env.scope.kind==.class||(X.env.scope.kind==.module&&X.env.locals !=X.env.globals))=false:=by rw[I.ok.kind];rfl
 have TK:i<σ.length:=by rw[I.len];exact(List.getElem?_eq_some_iff.mp hi).1
 have Ks:=I.Ks
 have tracked:∀{a:Addr} {h':Heap},(∃o,s.heap.get? a=some o/\H a=none)->Heap.SameBut a s.heap h'->qz X.prog X.w H h':=λ{a h'} ha hs b ob e=>by
  obtain⟨_,_,nN⟩:=ha
  refine(I.eT b ob e).xR (λc w' hc q=>(hs.2 c ?_).trans q) (λ_ q=>q) λ_ _ q=>q
  rintro rfl
  rcases hc with rfl|hc
  ·rw[nN]at e;cases e
  ·rw[nN]at hc;cases hc
 rcases hx with hk|hk
 ·refine wpAny_storeName_local hk hn (λh' UI hs=>?_) RM
  obtain⟨oL,_,_,UJ,_⟩:=id hn
  refine h _ ⟨I.ok,I.os,I.bare,⟨λb o e n hb hx=>?_,λb o e n hb hx=>?_,I.base.free,λb o e hx=>?_,I.base.tG,I.base.qR,I.base.vD⟩,⟨_,UI,λj y v' e1 e2 e3=>?_⟩,λy c e=>?_,I.free,I.freeC,λp hp=>?_,tracked ⟨oL,UJ,I.free⟩ hs,by simpa using I.len⟩ ⟨_,hs,.inl rfl⟩
  ·exact(hs.2 b (Nat.ne_of_lt (Nat.lt_of_lt_of_le (Heap.lt_size e) I.ok.above))).trans (I.base.keep b o e n hb hx)
  ·obtain⟨sl,e1⟩:=I.base.slot b o e n hb hx
   exact⟨sl,(hs.2 b (Nat.ne_of_lt (Nat.lt_of_lt_of_le (Heap.lt_size e) I.ok.above))).trans e1⟩
  ·obtain⟨o',e1⟩:=I.base.there b o e hx
   exact⟨o',(hs.2 b (Nat.ne_of_lt (Nat.lt_of_lt_of_le (Heap.lt_size e) I.ok.above))).trans e1⟩
  ·by_cases hj:j=i
   ·subst hj
    rw[hi]at e1;cases e1
    rw[List.getElem?_set_self TK]at e2
    cases e2
    exact⟨u,r,.inl ⟨hk,by simp⟩⟩
   ·rw[List.getElem?_set_ne (Ne.symm hj)]at e2
    obtain⟨u',r',q⟩:=hl j y v' e1 e2 e3
    refine⟨u',r',?_⟩
    rcases q with⟨k,e⟩|⟨k,c,e,z⟩
    ·refine .inl ⟨k,?_⟩
     have:y≠x:=λe=>hj (xT hN e1 (e▸hi))
     simp[this,e]
    ·exact .inr ⟨k,c,e,z.sameBut hs (Ks y c e)⟩
  ·obtain⟨w',z⟩:=I.cell y c e
   exact⟨w',z.sameBut hs (Ks y c e)⟩
  ·obtain⟨e,n,ne,nf,d⟩:=I.pin p hp
   exact⟨(hs.2 p.1 ne).trans e,n,ne,nf,d⟩
 ·have RN:X.fn x=true:=by
    rcases hf with z|z
    ·exact z
    ·rw[z]at hk;cases hk
  obtain⟨c,hc⟩:=I.ok.has x (.inl hk)
  obtain⟨w',z⟩:=I.cell x c hc
  refine wpAny_storeName_cell I.ok.kind hk hc z (λh' M7 hs=>?_)
  obtain⟨oc,TL,RO⟩:=id z
  refine h {s with heap:=h'} ⟨I.ok,I.os,I.bare,⟨λb o e n hb hx=>?_,λb o e n hb hx=>?_,I.base.free,λb o e hx=>?_,I.base.tG,I.base.qR,I.base.vD⟩,⟨m,hn.sameBut hs (Ne.symm (Ks x c hc)),λj y v' e1 e2 e3=>?_⟩,λy c' e=>?_,I.free,I.freeC,λp hp=>?_,tracked ⟨oc,TL,I.freeC x c hc⟩ hs,by simpa using I.len⟩ ⟨c,hs,.inr hc⟩
  ·exact(hs.2 b (Nat.ne_of_lt (Nat.lt_of_lt_of_le (Heap.lt_size e) (I.ok.cab x c RN hc)))).trans (I.base.keep b o e n hb hx)
  ·obtain⟨sl,e1⟩:=I.base.slot b o e n hb hx
   exact⟨sl,(hs.2 b (Nat.ne_of_lt (Nat.lt_of_lt_of_le (Heap.lt_size e) (I.ok.cab x c RN hc)))).trans e1⟩
  ·obtain⟨o',e1⟩:=I.base.there b o e hx
   exact⟨o',(hs.2 b (Nat.ne_of_lt (Nat.lt_of_lt_of_le (Heap.lt_size e) (I.ok.cab x c RN hc)))).trans e1⟩
  ·by_cases hj:j=i
   ·subst hj
    rw[hi]at e1;cases e1
    rw[List.getElem?_set_self TK]at e2
    cases e2
    exact⟨u,r,.inr ⟨.inl hk,c,hc,M7⟩⟩
   ·rw[List.getElem?_set_ne (Ne.symm hj)]at e2
    obtain⟨u',r',q⟩:=hl j y v' e1 e2 e3
    refine⟨u',r',?_⟩
    rcases q with q|⟨k,c',e,z'⟩
    ·exact .inl q
    ·refine .inr ⟨k,c',e,z'.sameBut hs ?_⟩
     rintro rfl
     exact hj (xT hN e1 (I.ok.inj _ _ _ e hc▸hi))
  ·by_cases TM:c'=c
   ·subst TM;exact⟨_,M7⟩
   ·obtain⟨w2,z2⟩:=I.cell y c' e
    exact⟨w2,z2.sameBut hs TM⟩
  ·obtain⟨e,n,ne,nf,d⟩:=I.pin p hp
   refine⟨(hs.2 p.1 ?_).trans e,n,ne,nf,d⟩
   intro q
   rw[q,TL]at e
   have q':oc=p.2:=Option.some.inj e
   exact d w' (by rw[<-q'];exact RO)
theorem nO{M:Model}{A:Around}{E:Value->Shared->Prop}{i:Nat}{x:Str}{v:V}{u:Value}{Q:Unit->Shared->Prop}(I:Inv X pins σ H s)(hN:X.N.Nodup)(hi:X.N[i]?=some x)(hx:Loc X.env.scope x)(r:RelV v u)
  (h:∀s',Inv X pins (σ.set i (some v)) H s'->Q () s')(hf:X.fn x=true\/X.env.scope.names.lookup x=some .local:=by first|exact .inl rfl|exact .inr rfl|assumption):wpAny M A (storeName X.env x u) Q E s:=
 uU I hN hi hx r (λs' I' _=>h s' I') hf
theorem Inv.M8{s':Shared}{ch:List Addr}(I:Inv X pins σ H s)(ho:s'.os=s.os)(u:Un (CD X.stack) ch H H' s.heap s'.heap)(eT:qz X.prog X.w H' s'.heap)(hg:AllBare s'.gens)
  (GN:∀b∈ch,(b∈X.ex\/X.s₀.heap.objs.size<=b)/\b≠X.env.locals/\(∀x c,X.env.cells.lookup x=some c->c≠b)/\∀p∈X.pn++pins,p.1≠b):Inv X pins σ H' s':=by
 obtain⟨h',g',d',t',o'⟩:=s'
 have e:o'=s.os:=ho
 subst e
 exact I.call (g':=g') (t':=t') (d':=d') u eT hg GN
end
noncomputable abbrev XK:=Value->Option Addr->Hp->Prop
noncomputable abbrev St:=List (Option V)
noncomputable abbrev VK:=V->Hp->Prop
noncomputable abbrev TE:=St->Hp->VK->Prop
noncomputable abbrev TT:=St->Hp->(Bool->Hp->Prop)->Prop
noncomputable abbrev TA:=St->Hp->(List V->Hp->Prop)->Prop
structure Ends where
 nx:St->Hp->Prop
 rt:VK
 bk:St->Hp->Prop:=λ_ _=>False
 ct:St->Hp->Prop:=λ_ _=>False
noncomputable abbrev TS:=Ends->St->Hp->Prop
noncomputable def EP(X:Cx)(pins:List (Addr×Obj))(σ:St)(Q:VK)(u:Value)(s':Shared):Prop:=∃v H',Inv X pins σ H' s'/\RelV v u/\Q v H'
noncomputable def TP(X:Cx)(pins:List (Addr×Obj))(σ:St)(Q:Bool->Hp->Prop)(b:Bool)(s':Shared):Prop:=∃H',Inv X pins σ H' s'/\Q b H'
noncomputable def AP(X:Cx)(pins:List (Addr×Obj))(σ:St)(Q:List V->Hp->Prop)(us:List Value)(s':Shared):Prop:=∃vs H',Inv X pins σ H' s'/\Vals vs us/\Q vs H'
noncomputable def SP(X:Cx)(pins:List (Addr×Obj))(D:Ends)(f:Flow)(s':Shared):Prop:=
 match f with
 |.next=>∃σ' H',Inv X pins σ' H' s'/\D.nx σ' H'
 |.brk=>∃σ' H',Inv X pins σ' H' s'/\D.bk σ' H'
 |.cont=>∃σ' H',Inv X pins σ' H' s'/\D.ct σ' H'
 |.ret u=>∃v σ' H',Inv X pins σ' H' s'/\RelV v u/\D.rt v H'
noncomputable def PE(X:Cx)(e:Expr)(t:TE):Prop:=
 ∀(pins:List (Addr×Obj)) (s:Shared) (σ:St) (H:Hp) (Q:VK),Inv X pins σ H s->t σ H Q->wpAny (model X.prog X.w) X.A (eval e X.env) (EP X pins σ Q) X.xe s
noncomputable def PT(X:Cx)(e:Expr)(t:TT):Prop:=
 ∀(pins:List (Addr×Obj)) (s:Shared) (σ:St) (H:Hp) (Q:Bool->Hp->Prop),Inv X pins σ H s->t σ H Q->wpAny (model X.prog X.w) X.A (isTrue e X.env (eval e X.env)) (TP X pins σ Q) X.xe s
noncomputable def PW(X:Cx)(e:Expr)(t:TT):Prop:=
 ∀(whole:Sem Value) (pins:List (Addr×Obj)) (s:Shared) (σ:St) (H:Hp) (Q:Bool->Hp->Prop),Inv X pins σ H s->t σ H Q->wpAny (model X.prog X.w) X.A (isTrue e X.env whole) (TP X pins σ Q) X.xe s
theorem PW.pt{X:Cx}{e:Expr}{t:TT}(h:PW X e t):PT X e t:=h _
noncomputable def PA(X:Cx)(es:List Expr)(t:TA):Prop:=
 ∀(pos:Pos) (pins:List (Addr×Obj)) (s:Shared) (σ:St) (H:Hp) (Q:List V->Hp->Prop),Inv X pins σ H s->t σ H Q->wpAny (model X.prog X.w) X.A (spliced (backTo pos (starEach es X.env))) (AP X pins σ Q) X.xe s
noncomputable def PS(X:Cx)(st:Stmt)(t:TS):Prop:=
 ∀(pins:List (Addr×Obj)) (s:Shared) (σ:St) (H:Hp) (D:Ends),Inv X pins σ H s->t D σ H->wpAny (model X.prog X.w) X.A (exec st X.env) (SP X pins D) X.xe s
noncomputable def Ae(X:Cx)(st:List Stmt)(t:TS):Prop:=
 ∀(pins:List (Addr×Obj)) (s:Shared) (σ:St) (H:Hp) (D:Ends),Inv X pins σ H s->t D σ H->wpAny (model X.prog X.w) X.A (execs st X.env) (SP X pins D) X.xe s
theorem eh{α:Type}{t:Sem α}{Q Q':α->Shared->Prop}{M:Model}{A:Around}{E:Value->Shared->Prop}{s:Shared}(h:wpAny M A t Q E s)(hQ:∀a s,Q a s->Q' a s):wpAny M A t Q' E s:=wpAny_mono h hQ λ_ _ x=>x
section
variable{X:Cx}
noncomputable def l6(i:Nat):TE:=λσ H Q=>∃v,σ[i]?=some (some v)/\Q v H
noncomputable def tC(v:V):TE:=λ_ H Q=>Q v H
theorem en{i:Nat}{x:Str}{pos:Pos}(hN:X.N[i]?=some x)(hv:xS X.env.scope x)(hd:(x==("__debug__" :Str))=false:=by decide)(oU:(x==("__classdict__" :Str))=false:=by decide):PE X (.Name x pos) (l6 i):=by
 intro pins s σ H Q I h
 obtain⟨v,e,h⟩:=h
 obtain⟨m,hn,hl⟩:=I.loc
 obtain⟨u,r,l⟩:=hl i x v hN e hv
 have fin:EP X pins σ Q u s:=⟨v,H,I,r,h⟩
 rcases l with⟨hk,hm⟩|⟨hk,c,hc,Bw⟩
 ·exact wpAny_Name (wpAny_loadName_local I.ok.kind hk hn hm fin) hd
 ·rcases hk with hk|hk
  ·exact wpAny_Name (wpAny_loadName_cell I.ok.kind hk hc Bw fin) hd
  ·exact wpAny_Name (wpAny_loadName_free I.ok.kind hk hc Bw fin oU) hd
theorem Ai{i j pos}:PE X (.Constant (.int i) j pos) (tC (.int i)):=λ_ _ _ H _ I h=>wpAny_Constant_int ⟨.int i,H,I.tok _,⟨_,rfl⟩,h⟩
theorem M9{b j pos}:PE X (.Constant (.bool b) j pos) (tC (.bl b)):=λ_ _ _ H _ I h=>Constant_bool ⟨.bl b,H,I,rfl,h⟩
theorem Ku{j pos}:PE X (.Constant .none j pos) (tC .non):=λ_ _ _ H _ I h=>Constant_none ⟨.non,H,I,rfl,h⟩
theorem Kv{x j pos}:PE X (.Constant (.str x) j pos) (tC (.str x)):=λ_ _ _ H _ I h=>Calls.Constant_str ⟨.str x,H,I.tok _,⟨_,rfl⟩,h⟩
noncomputable def Gl(X:Cx)(x:Str):Prop:=X.env.kindOf x=some .globalImplicit
theorem qB{E:Value->Shared->Prop}{pins:List (Addr×Obj)}{s:Shared}{σ:St}{H:Hp}{x:Str}{u:Value}{pos:Pos}{Q:Value->Shared->Prop}(I:Inv X pins σ H s)(hg:Gl X x)(hm:X.mg x=some u)(h:Q u s)
  (hd:(x==("__debug__" :Str))=false:=by decide):wpAny (model X.prog X.w) X.A (eval (.Name x pos) X.env) Q E s:=
 Calls.Name_function_global I.ok.kind hg (Calls.loadGlobal_global (by rw[I.ok.glob];exact I.mod.glob.keeps I.bk) hm h) hd
theorem qS{E:Value->Shared->Prop}{pins:List (Addr×Obj)}{s:Shared}{σ:St}{H:Hp}{x:Str}{u:Value}{pos:Pos}{Q:Value->Shared->Prop}(I:Inv X pins σ H s)(hg:Gl X x)(hm:X.mg x=none)(hv:bootBuiltins x=some u)(h:Q u s)
  (hn:x≠ "__name__" :=by decide)(hd:(x==("__debug__" :Str))=false:=by decide):wpAny (model X.prog X.w) X.A (eval (.Name x pos) X.env) Q E s:=by
 obtain⟨mb,h1,h2⟩:=I.mod.blt
 exact Calls.Name_function_global I.ok.kind hg (Calls.loadGlobal_builtin (by rw[I.ok.glob];exact I.mod.glob.keeps I.bk) hm (by rw[I.ok.blt];exact h1.keeps I.bk) ((h2 x hn).trans hv) h) hd
theorem nP{x:Str}{v:V}{u:Value}{pos:Pos}(hg:Gl X x)(hm:X.mg x=some u)(r:RelV v u)(hd:(x==("__debug__" :Str))=false:=by decide):PE X (.Name x pos) (tC v):=
 λ_ _ _ H _ I h=>qB I hg hm ⟨v,H,I,r,h⟩ hd
theorem GY{x:Str}{v:V}{u:Value}{pos:Pos}(hg:Gl X x)(hm:X.mg x=none)(hv:bootBuiltins x=some u)(r:RelV v u)(hn:x≠ "__name__" :=by decide)(hd:(x==("__debug__" :Str))=false:=by decide):PE X (.Name x pos) (tC v):=
 λ_ _ _ H _ I h=>qS I hg hm hv ⟨v,H,I,r,h⟩ hn hd
variable{a b:Expr}{ta tb:TE}{pos:Pos}
noncomputable def tB(t:TE):TT:=λσ H Q=>t σ H λx H1=>∃c,x=.bl c/\Q c H1
theorem Kw{e:Expr}{t:TE}(h:PE X e t)(he:∀whole,isTrue e X.env whole=(do let v<-whole;standAt e.pos;holding [v] (truthy v)):=by intro _;rfl):PT X e (tB t):=by
 intro pins s σ H Q I hw
 refine isTrue_plain (eh (h pins s σ H _ I hw) λv s1 d7=>?_) (he _)
 obtain⟨x,H1,I1,r1,q1⟩:=d7
 obtain⟨d,rfl,q⟩:=q1
 cases r1
 exact wpAny_truthy_bool ⟨H1,I1,q⟩
variable{tA TN:TT}{rest:List Expr}
noncomputable def xU(t u:TT):TT:=λσ H Q=>t σ H λc H1=>if c=true then Q true H1 else u σ H1 Q
noncomputable def nQ(t:TT):TT:=λσ H Q=>t σ H λc H1=>Q (!c) H1
theorem pw_or1(ha:PT X a tA):PW X (.BoolOp .Or [a] pos) tA:=by
 intro wh pins s σ H Q I h
 refine isTrue_or (eh (ha pins s σ H Q I h) λc s1 e=>?_)
 cases c with
 |false=>exact isTrue_or_nil e
 |true=>exact e
theorem pw_or(ha:PT X a tA)(hb:PW X (.BoolOp .Or (b::rest) pos) TN):PW X (.BoolOp .Or (a::b::rest) pos) (xU tA TN):=by
 intro wh pins s σ H Q I h
 refine isTrue_or (eh (ha pins s σ H _ I h) λc s1 ⟨H1,I1,q1⟩=>?_)
 cases c with
 |true=>exact⟨H1,I1,q1⟩
 |false=>exact hb wh pins s1 σ H1 Q I1 q1
theorem Kx(ha:PT X a tA):PT X (.UnaryOp .Not a pos) (nQ tA):=by
 intro pins s σ H Q I h
 exact isTrue_not (ha pins s σ H (λc H1=>Q (!c) H1) I h)
noncomputable def Na(ta tb:TE):TE:=λσ H Q=>ta σ H λx H1=>∃c,x=.bl c/\if c=true then tb σ H1 Q else Q (.bl false) H1
noncomputable def Nb(ta:TE):TE:=λσ H Q=>ta σ H λx H1=>∃c,x=.bl c/\Q (.bl (!c)) H1
theorem Ky{op}{t:TE}(h:PE X a t):PE X (.BoolOp op [a] pos) t:=λpins s σ H Q I hw=>BoolOp_one (h pins s σ H Q I hw)
theorem Kz(ha:PE X a ta)(hb:PE X (.BoolOp .And (b::rest) pos) tb):PE X (.BoolOp .And (a::b::rest) pos) (Na ta tb):=by
 intro pins s σ H Q I h
 refine BoolOp_and (eh (ha pins s σ H _ I h) λv s1 d7=>?_)
 obtain⟨x,H1,I1,r1,q1⟩:=d7
 obtain⟨c,rfl,q1⟩:=q1
 cases r1
 refine wpAny_truthy_bool ?_
 cases c with
 |true=>exact hb pins s1 σ H1 Q I1 q1
 |false=>exact⟨.bl false,H1,I1,rfl,q1⟩
theorem KA(ha:PE X a ta):PE X (.UnaryOp .Not a pos) (Nb ta):=by
 intro pins s σ H Q I h
 refine UnaryOp_ (eh (ha pins s σ H _ I h) λv s1 d7=>?_)
 obtain⟨x,H1,I1,r1,q1⟩:=d7
 obtain⟨c,rfl,q1⟩:=q1
 cases r1
 exact not_of (wpAny_truthy_bool ⟨.bl (!c),H1,I1,rfl,q1⟩)
end
noncomputable def mP(K:PySem.W.Frag)(H:Hp)(a:Addr)(xs:List V):Prop:=
 Rd H a (.lst xs)\/
  ∃(o:Obj) (its:Array Value) (n:Nat),K.lookup a=some o/\o.cls=.type "list" /\o.dict=none/\o.data=.seq its n/\its.size<=sizeLine/\Vals xs its.toList
noncomputable def mQ(K:PySem.W.Frag)(H:Hp)(a:Addr)(xs:List V):Prop:=
 Rd H a (.tup xs)\/
  ∃(o:Obj) (its:Array Value) (n:Nat),K.lookup a=some o/\o.cls=.type "tuple" /\o.data=.seq its n/\(its.size<=sizeLine/\o.dict=none)/\Vals xs its.toList
noncomputable def RP:Value->Option V
 |.none=>some .non
 |.bool b=>some (.bl b)
 |.int i _=>some (.int i)
 |.str x _=>some (.str x)
 |.bytes b _=>some (.byt b)
 |.float b _=>some (.flt b)
 |.ref a=>some (.ref a)
 |.type n=>some (.ty n)
 |_=>none
theorem RelV.abs{x:V}{u:Value}(r:RelV x u):RP u=some x:=by
 cases x with
 |non=>cases r;rfl
 |bl _=>cases r;rfl
 |int _=>obtain⟨t,rfl⟩:=r;rfl
 |str _=>obtain⟨t,rfl⟩:=r;rfl
 |byt _=>obtain⟨t,rfl⟩:=r;rfl
 |flt _=>obtain⟨t,rfl⟩:=r;rfl
 |ref _=>cases r;rfl
 |ty _=>cases r;rfl
theorem RelV.inj{x y:V}{u:Value}(r:RelV x u)(q:RelV y u):x=y:=Option.some.inj (r.abs.symm.trans q.abs)
theorem Vals.inj:∀{xs ys:List V} {us:List Value},Vals xs us->Vals ys us->xs=ys
 |_,_,_,.nil,.nil=>rfl
 |_,_,_,.cons r t,.cons r' t'=>by rw[r.inj r',Vals.inj t t']
section
variable{X:Cx}{pins:List (Addr×Obj)}{σ:St}{H:Hp}{s:Shared}{a:Addr}{xs ys:List V}
theorem mP.of{K:PySem.W.Frag}(h:H a=some (.lst xs)):mP K H a xs:=.inl (.inl h)
theorem mQ.of{K:PySem.W.Frag}(h:H a=some (.tup xs)):mQ K H a xs:=.inl (.inl h)
theorem Inv.list(I:Inv X pins σ H s)(h:mP X.K H a xs):∃its:List Value,Vals xs its/\PlainL s.heap a its.toArray/\xs.length<=sizeLine:=by
 rcases h with h|⟨o,its,n,hk,hc,hd,hs,hz,r⟩
 ·obtain⟨z,its,n,r,e⟩:=h.ok I.eT
  exact⟨its,r,⟨_,n,e,rfl,rfl,rfl⟩,z⟩
 ·refine⟨its.toList,r,⟨o,n,I.jC a o hk,hc,hd,by simpa using hs⟩,?_⟩
  have e:=r.length
  simp only[Array.length_toList]at e
  omega
theorem Inv.tuple(I:Inv X pins σ H s)(h:mQ X.K H a xs):∃its:List Value,Vals xs its/\IsTup s.heap a its.toArray/\xs.length<=sizeLine:=by
 rcases h with h|⟨o,its,n,hk,hc,hs,hz,r⟩
 ·obtain⟨z,its,r,p⟩:=h.ok I.eT
  exact⟨its,r,p,z.1⟩
 ·refine⟨its.toList,r,⟨o,I.jC a o hk,hc,n,by simpa using hs⟩,?_⟩
  have e:=r.length
  simp only[Array.length_toList]at e
  omega
theorem M3.new{h:Heap}{its:Array Value}{n:Nat}:M3 (h.push {cls:=.type "tuple",data:=.seq its n}) h.objs.size:=⟨_,Heap.get?_push_size _ rfl,rfl⟩
theorem Inv.xV(I:Inv X pins σ H s)(h:mP X.K H a xs)(h':mP X.K H a ys):xs=ys:=by
 obtain⟨its,r,⟨o,n,e,_,_,d⟩,_⟩:=I.list h
 obtain⟨its',r',⟨o',n',e',_,_,d'⟩,_⟩:=I.list h'
 rw[e]at e';cases e'
 rw[d]at d'
 injection d' with d1 _
 have:its=its':=by simpa using congrArg Array.toList d1
 subst this
 exact r.inj r'
theorem Inv.uV(I:Inv X pins σ H s)(h:mQ X.K H a xs)(h':mQ X.K H a ys):xs=ys:=by
 obtain⟨its,r,⟨o,e,_,n,d⟩,_⟩:=I.tuple h
 obtain⟨its',r',⟨o',e',_,n',d'⟩,_⟩:=I.tuple h'
 rw[e]at e';cases e'
 rw[d]at d'
 injection d' with d1 _
 have:its=its':=by simpa using congrArg Array.toList d1
 subst this
 exact r.inj r'
end
noncomputable abbrev Cx.tH(X:Cx)(E:Value->Shared->Prop):Cx:={X with xe:=E}
noncomputable abbrev Cx.DM(X:Cx):Cx:=X.tH λ_ _=>False
theorem Cx.Ok.tH{X:Cx}(ok:X.Ok)(E:Value->Shared->Prop):(X.tH E).Ok:=
 ⟨ok.mod,ok.kind,ok.glob,ok.blt,ok.above,ok.inj,ok.has,ok.cab,ok.hd,ok.frames,ok.stk,ok.exf,ok.bs,ok.bsz,ok.noex,ok.exfs,ok.funs,ok.frf⟩
theorem Cx.Ok.ko{X:Cx}{E:Value->Shared->Prop}(ok:(X.tH E).Ok):X.Ok:=
 ⟨ok.mod,ok.kind,ok.glob,ok.blt,ok.above,ok.inj,ok.has,ok.cab,ok.hd,ok.frames,ok.stk,ok.exf,ok.bs,ok.bsz,ok.noex,ok.exfs,ok.funs,ok.frf⟩
section
variable{X:Cx}{pins:List (Addr×Obj)}{σ:St}{H:Hp}{s:Shared}{E:Value->Shared->Prop}
theorem Inv.tH(I:Inv X pins σ H s)(E:Value->Shared->Prop):Inv (X.tH E) pins σ H s:=⟨I.ok.tH E,I.os,I.bare,I.base,I.loc,I.cell,I.free,I.freeC,I.pin,I.eT,I.len⟩
theorem Inv.ko(I:Inv (X.tH E) pins σ H s):Inv X pins σ H s:=⟨I.ok.ko,I.os,I.bare,I.base,I.loc,I.cell,I.free,I.freeC,I.pin,I.eT,I.len⟩
theorem SP.ko{D:Ends}{f:Flow}{s':Shared}(h:SP (X.tH E) pins D f s'):SP X pins D f s':=by
 cases f with
 |next=>obtain⟨σ',H',I,q⟩:=h;exact⟨σ',H',I.ko,q⟩
 |brk=>obtain⟨σ',H',I,q⟩:=h;exact⟨σ',H',I.ko,q⟩
 |cont=>obtain⟨σ',H',I,q⟩:=h;exact⟨σ',H',I.ko,q⟩
 |ret u=>obtain⟨v,σ',H',I,r,q⟩:=h;exact⟨v,σ',H',I.ko,r,q⟩
theorem Ae.DM{st:List Stmt}{t:TS}(h:Ae X.DM st t):Ae X st t:=λpins s σ H D I hw=>
 wpAny_mono (h pins s σ H D (I.tH _) hw) (λ_ _ q=>q.ko) λ_ _ z=>False.elim z
end
section
variable{X:Cx}{st:Stmt}{rest:List Stmt}{t u:TS}{e:Expr}{te:TE}{pos:Pos}
noncomputable def Nc:TS:=λD σ H=>D.nx σ H
noncomputable def KC(t u:TS):TS:=λD σ H=>t {D with nx:=u D} σ H
theorem Bx:Ae X [] Nc:=λ_ _ σ H _ I h=>wpAny_execs_nil ⟨σ,H,I,h⟩
theorem fX(h1:PS X st t)(h2:Ae X rest u):Ae X (st::rest) (KC t u):=by
 intro pins s σ H D I h
 refine wpAny_execs_cons (eh (h1 pins s σ H {D with nx:=u D} I h) λf s1 q=>?_)
 cases f with
 |next=>
  obtain⟨σ',H',I',q⟩:=q
  exact h2 pins s1 σ' H' D I' q
 |ret v=>exact q
 |brk=>exact q
 |cont=>exact q
theorem gE(h1:PS X st t):Ae X [st] t:=by
 intro pins s σ H D I h
 refine wpAny_execs_cons (eh (h1 pins s σ H D I h) λf s1 q=>?_)
 cases f with
 |next=>exact wpAny_execs_nil q
 |ret v=>exact q
 |brk=>exact q
 |cont=>exact q
noncomputable def KD:TS:=λD σ H=>D.bk σ H
theorem DN:PS X (.Break pos) KD:=λ_ _ σ H _ I h=>wpAny_Break ⟨σ,H,I,h⟩
theorem Inv.quiet{pins:List (Addr×Obj)}{σ:St}{H:Hp}{s:Shared}(I:Inv X pins σ H s):interactive X.env=false:=by simp[interactive,I.ok.kind]
noncomputable def xW(te:TE):TS:=λD σ H=>te σ H λ_ H1=>D.nx σ H1
theorem iK(he:PE X e te)(hs:swapsWith e none pos.line X.env=pure false:=by rfl):PS X (.Expr e pos) (xW te):=by
 intro pins s σ H D I h
 exact wpAny_Expr_any (eh (he pins s σ H _ I h) λv s1 ⟨x,H1,I1,r1,q1⟩=>⟨σ,H1,I1,q1⟩) I.quiet hs
noncomputable def RS(te:TE):TS:=λD σ H=>te σ H D.rt
theorem mR(he:PE X e te):PS X (.Return (some e) pos) (RS te):=by
 intro pins s σ H D I h
 exact wpAny_Return_some (eh (he pins s σ H _ I h) λv s1 ⟨x,H1,I1,r1,q1⟩=>⟨x,σ,H1,I1,r1,q1⟩)
noncomputable def RT(c:TT)(t u:TS):TS:=λD σ H=>c σ H λb H1=>if b=true then t D σ H1 else u D σ H1
theorem Jg{c:Expr}{a b:List Stmt}{tc:TT}(hc:PT X c tc)(ha:Ae X a t)(hb:Ae X b u):PS X (.If c a b pos) (RT tc t u):=by
 intro pins s σ H D I h
 refine wpAny_If (eh (hc pins s σ H _ I h) λd s1 ⟨H1,I1,q1⟩=>?_)
 cases d with
 |true=>exact ha pins s1 σ H1 D I1 q1
 |false=>exact hb pins s1 σ H1 D I1 q1
noncomputable def KG:TS:=λ_ _ _=>False
theorem DR:PS X st KG:=λ_ _ _ _ _ _ h=>h.elim
end
noncomputable abbrev TG:=V->St->Hp->(St->Hp->Prop)->Prop
noncomputable abbrev KH:=List V->St->Hp->(St->Hp->Prop)->Prop
noncomputable def PG(X:Cx)(target:Expr)(t:TG):Prop:=
 ∀(pins:List (Addr×Obj)) (s:Shared) (σ:St) (H:Hp) (v:V) (u:Value) (Q:St->Hp->Prop),Inv X pins σ H s->RelV v u->t v σ H Q->
  wpAny (model X.prog X.w) X.A (assign target X.env u) (λ_ s'=>∃σ' H',Inv X pins σ' H' s'/\Q σ' H') X.xe s
noncomputable def Nd(X:Cx)(ts:List Expr)(t:KH):Prop:=
 ∀(pins:List (Addr×Obj)) (s:Shared) (σ:St) (H:Hp) (vs:List V) (us:List Value) (Q:St->Hp->Prop),Inv X pins σ H s->Vals vs us->t vs σ H Q->
  wpAny (model X.prog X.w) X.A (assignInOrder ((assignEach ts X.env).map (·.2)) us) (λ_ s'=>∃σ' H',Inv X pins σ' H' s'/\Q σ' H') X.xe s
noncomputable abbrev RU:=V->V->Hp->VK->Prop
noncomputable def UK(X:Cx)(op:Operator)(t:RU):Prop:=
 ∀(pins:List (Addr×Obj)) (s:Shared) (σ:St) (H:Hp) (x y:V) (v u:Value) (Q:VK),Inv X pins σ H s->RelV x v->RelV y u->t x y H Q->
  wpAny (model X.prog X.w) X.A (inplaceOp op v u) (EP X pins σ Q) X.xe s
section
variable{X:Cx}{pos:Pos}
noncomputable def Jh(i:Nat):TG:=λv σ H Q=>Q (σ.set i (some v)) H
theorem GZ{i:Nat}{x:Str}(hN:X.N.Nodup)(hi:X.N[i]?=some x)(hx:Loc X.env.scope x)(hf:X.fn x=true\/X.env.scope.names.lookup x=some .local:=by first|exact .inl rfl|exact .inr rfl|assumption):PG X (.Name x pos) (Jh i):=by
 intro pins s σ H v u Q I r h
 exact wpAny_assign_Name (nO I hN hi hx r (λs' I'=>⟨_,H,I',h⟩) hf)
noncomputable def RV:KH:=λvs σ H Q=>vs=[]/\Q σ H
noncomputable def Nf(t:TG)(u:KH):KH:=λvs σ H Q=>∃v r,vs=v::r/\t v σ H λσ' H'=>u r σ' H' Q
theorem By:Nd X [] RV:=by
 intro pins s σ H vs us Q I r h
 obtain⟨e,h⟩:=h
 subst e
 cases r
 exact assignInOrder_nil ⟨σ,H,I,h⟩
theorem qT{e:Expr}{es:List Expr}{t:TG}{u:KH}(h1:PG X e t)(h2:Nd X es u)
  (hs:(assignEach (e::es) X.env).map (·.2)=assign e X.env::(assignEach es X.env).map (·.2):=by rfl):Nd X (e::es) (Nf t u):=by
 intro pins s σ H vs us Q I r h
 obtain⟨v,vr,e1,h⟩:=h
 subst e1
 cases r with
 |cons r rr=>
  rw[hs]
  refine assignInOrder_cons (eh (h1 pins s σ H _ _ _ I r h) λ_ s1 d7=>?_)
  obtain⟨σ1,H1,I1,q1⟩:=d7
  exact h2 pins s1 σ1 H1 _ _ Q I1 rr q1
noncomputable def RW(K:PySem.W.Frag)(n:Nat)(t:KH):TG:=λv σ H Q=>∃a xs,v=.ref a/\mQ K H a xs/\xs.length=n/\t xs σ H Q
theorem DU{es:List Expr}{k:Nat}{t:KH}{n:Nat}(hc:X.calm=true)(h:Nd X es t)
  (hn:(assignEach es X.env).length=n:=by rfl)(oV:(assignEach es X.env).findIdx? (·.1)=none:=by rfl):PG X (.Tuple es k pos) (RW X.K n t):=by
 intro pins s σ H v u Q I r hw
 obtain⟨a,xs,e1,hq,hl,hw⟩:=hw
 subst e1
 cases r
 obtain⟨its,rv,ht,hz⟩:=I.tuple hq
 refine assign_Tuple_tuple (I.ok.hd hc) ht (by simp[hn,<-hl,rv.length]) oV λh' hx=>?_
 have I1:Inv X pins σ H {s with heap:=h'}:=I.kept (t':=s.toks) λb o e=>hx b o (Nat.ne_of_lt (Heap.lt_size e)) e
 exact h pins _ σ H xs _ Q I1 (by simpa using rv) hw
noncomputable def Ng(te:TE)(g:TG):TS:=λD σ H=>te σ H λx H1=>g x σ H1 D.nx
theorem KI{tg e:Expr}{te:TE}{g:TG}(he:PE X e te)(hg:PG X tg g)(hs:swapsWithSole [tg] e pos.line X.env=pure false:=by rfl)(hw:swappedStores [tg] e X.env=pure none:=by rfl)
  (h1:(assignEach [tg] X.env).map (·.2)=[assign tg X.env]:=by rfl):PS X (.Assign [tg] e pos) (Ng te g):=by
 intro pins s σ H D I h
 refine wpAny_Assign_stores (eh (he pins s σ H _ I h) λv s1 d7=>?_) hs hw
 obtain⟨x,H1,I1,r1,q1⟩:=d7
 rw[h1]
 exact eh (hg pins s1 σ H1 x v _ I1 r1 q1) λ_ s2 q=>q
theorem mS{i:Nat}{x:Str}{e:Expr}{te:TE}{pos':Pos}(hN:X.N.Nodup)(hi:X.N[i]?=some x)(hx:Loc X.env.scope x)(he:PE X e te)(hs:swapsWith e (some (.Name x pos')) pos.line X.env=pure false:=by rfl)(hf:X.fn x=true\/X.env.scope.names.lookup x=some .local:=by first|exact .inl rfl|exact .inr rfl|assumption):
  PS X (.Assign [.Name x pos'] e pos) (Ng te (Jh i)):=by
 intro pins s σ H D I h
 refine wpAny_Assign_Name (eh (he pins s σ H _ I h) λv s1 d7=>?_) hs
 obtain⟨y,H1,I1,r1,q1⟩:=d7
 exact nO I1 hN hi hx r1 (λs2 I2=>⟨_,H1,I2,q1⟩) hf
noncomputable def RY(i:Nat)(te:TE)(ti:RU):TS:=λD σ H=>∃x,σ[i]?=some (some x)/\te σ H λy H1=>ti x y H1 λz H2=>D.nx (σ.set i (some z)) H2
theorem KJ{i:Nat}{x:Str}{e:Expr}{te:TE}{op:Operator}{ti:RU}{pos':Pos}(hN:X.N.Nodup)(hi:X.N[i]?=some x)(hx:Loc X.env.scope x)(he:PE X e te)(ho:UK X op ti)(hf:X.fn x=true\/X.env.scope.names.lookup x=some .local:=by first|exact .inl rfl|exact .inr rfl|assumption):
  PS X (.AugAssign (.Name x pos') op e pos) (RY i te ti):=by
 intro pins s σ H D I h
 obtain⟨v,e1,h⟩:=h
 obtain⟨m,hn,hl⟩:=I.loc
 have DD:xS X.env.scope x:=by rcases hx with k|k;exact .inl k;exact .inr (.inl k)
 obtain⟨u,r,l⟩:=hl i x v hi e1 DD
 refine wpAny_AugAssign_Name ?_
 have go:wpAny (model X.prog X.w) X.A (eval e X.env) (λw s₂=>wpAny (model X.prog X.w) X.A (inplaceOp op u w) (λr s₃=>wpAny (model X.prog X.w) X.A (storeName X.env x r) (λ_=>SP X pins D .next) X.xe s₃) X.xe s₂) X.xe s:=by
  refine eh (he pins s σ H _ I h) λw s1 d7=>?_
  obtain⟨y,H1,I1,r1,q1⟩:=d7
  refine eh (ho pins s1 σ H1 v y u w _ I1 r r1 q1) λz s2 d7=>?_
  obtain⟨zv,H2,I2,r2,q2⟩:=d7
  exact nO I2 hN hi hx r2 (λs3 I3=>⟨_,H2,I3,q2⟩) hf
 rcases l with⟨hk,hm⟩|⟨hk,c,hc,Bw⟩
 ·exact wpAny_loadName_local I.ok.kind hk hn hm go
 ·rcases hk with hk|hk
  ·exact wpAny_loadName_cell I.ok.kind hk hc Bw go
  ·rcases hx with k|k
   ·have:X.env.scope.names.lookup x=some .free:=hk
    rw[k]at this;cases this
   ·have:X.env.scope.names.lookup x=some .free:=hk
    rw[k]at this;cases this
end
section
variable{X:Cx}{pos:Pos}
noncomputable def KL(c:TT)(tb:TS):TS:=λD σ H=>∃W:Nat->St->Hp->Prop,(∃m,W m σ H)/\∀m σ H,W m σ H->
 c σ H λb H1=>if b=true then∃N:St->Hp->Prop,(∀σ' H',N σ' H'->∃m',m'<m/\W m' σ' H')/\tb {D with nx:=N,ct:=N,bk:=D.nx} σ H1 else D.nx σ H1
theorem xX{c:Expr}{body:List Stmt}{tc:TT}{tb:TS}(hp:PassesOwn (model X.prog X.w) X.A X.env X.xe)(hc:PT X c tc)(hb:Ae X body tb):PS X (.While c body [] pos) (KL tc tb):=by
 intro pins s σ H D I h
 obtain⟨W,⟨m0,w0⟩,turn⟩:=h
 refine wpAny_While (codeAny_whileLoop (λn s'=>∃σ' H',Inv X pins σ' H' s'/\W n σ' H') ?_ m0 ⟨σ,H,I,w0⟩)
 rintro n s1 ⟨σ1,H1,I1,w1⟩
 refine wpAny_passesOwn hp (eh (hc pins s1 σ1 H1 _ I1 (turn n σ1 H1 w1)) λb s2 ⟨H2,I2,q2⟩=>?_)
 cases b with
 |true=>
  obtain⟨N,hN,q2⟩:=q2
  rw[if_pos rfl]
  refine wpAny_passesOwn hp (eh (hb pins s2 σ1 H2 _ I2 q2) λf s3 q3=>?_)
  cases f with
  |next=>
   obtain⟨σ3,H3,I3,n3⟩:=q3
   obtain⟨m',hm,w3⟩:=hN σ3 H3 n3
   exact⟨m',hm,σ3,H3,I3,w3⟩
  |cont=>
   obtain⟨σ3,H3,I3,n3⟩:=q3
   obtain⟨m',hm,w3⟩:=hN σ3 H3 n3
   exact⟨m',hm,σ3,H3,I3,w3⟩
  |brk=>exact q3
  |ret v=>exact q3
 |false=>
  rw[if_neg Bool.false_ne_true]
  exact wpAny_execs_nil ⟨σ1,H2,I2,q2⟩
end
structure It where
 go:Nat->Hp->Prop
 yld:Nat->Hp->V->Hp->Prop
 stop:Nat->Hp->Prop
noncomputable def oY(X:Cx)(pins:List (Addr×Obj))(H:Hp)(b:Addr):Prop:=
 H b=none/\b≠X.env.locals/\b∉X.fs/\(b∈X.ex\/X.s₀.heap.objs.size<=b)/\(∀x c,X.env.cells.lookup x=some c->c≠b)/\∀p∈X.pn++pins,p.1≠b
theorem Inv.G0{X:Cx}{pins:List (Addr×Obj)}{σ:St}{H H':Hp}{s:Shared}{b:Addr}(I:Inv X pins σ H s)(hb:s.heap.objs.size<=b)(hn:H' b=none):oY X pins H' b:=by
 refine⟨hn,Nat.ne_of_gt (Nat.lt_of_lt_of_le I.lt hb),I.Kr hb,.inr (Nat.le_trans I.sz hb),λx c e z=>?_,λp hp z=>?_⟩
 ·obtain⟨v,q⟩:=I.cell x c e
  exact absurd (Nat.lt_of_lt_of_le q.lt (by rw[z];exact hb)) (Nat.lt_irrefl _)
 ·exact absurd (Nat.lt_of_lt_of_le (Heap.lt_size (I.pin p hp).1) (by rw[z];exact hb)) (Nat.lt_irrefl _)
structure Turn(P:Program)(w:World)(K:PySem.W.Frag)(tg:Expr)(J:It)(fp:List Addr)(it:Addr)(tn:Nat->Heap->Prop):Prop where
 mem:it∈fp
 obj:∀i h,tn i h->∀b∈fp,∃o,h.get? b=some o/\∀v,o.data≠.cell v
 keep:∀i h h',tn i h->(∀b∈fp,∀o,h.get? b=some o->h'.get? b=some o)->tn i h'
 item:∀(X:Cx),X.prog=P->X.w=w->X.K=K->X.calm=true->∀(i:Nat) (pins:List (Addr×Obj)) (s:Shared) (σ:St) (H:Hp) (E:Value->Shared->Prop),Inv X pins σ H s->(∀b∈fp,oY X pins H b)->tn i s.heap->J.go i H->
  wpAny (model P w) X.A (pyNext (.ref it)) (λr s1=>∃u,r=some u/\
   wpAny (model P w) X.A (letOwnedTupleGo tg (.ref it) u) (λ_ s2=>∃x H',Inv X pins σ H' s2/\RelV x u/\J.yld i H x H'/\tn (i+1) s2.heap/\∀b∈fp,H' b=none) E s1) E s
 done:∀(X:Cx),X.prog=P->X.w=w->X.K=K->X.calm=true->∀(i:Nat) (pins:List (Addr×Obj)) (s:Shared) (σ:St) (H:Hp) (E:Value->Shared->Prop),Inv X pins σ H s->(∀b∈fp,oY X pins H b)->tn i s.heap->J.stop i H->
  wpAny (model P w) X.A (pyNext (.ref it)) (λr s1=>r=none/\Inv X pins σ H s1) E s
 self:∀(A:Around) (i:Nat) (s:Shared) (Q:Value->Shared->Prop) (E:Value->Shared->Prop),tn i s.heap->Q (.ref it) s->wpAny (model P w) A (pyIter (.ref it)) Q E s
noncomputable abbrev TI:=St->Hp->(It->Hp->Prop)->Prop
noncomputable def TQ(X:Cx)(pins:List (Addr×Obj))(σ:St)(tg:Expr)(R:It->Hp->Prop)(Q5:Value)(s2:Shared):Prop:=
 ∃(it:Addr) (fp:List Addr) (tn:Nat->Heap->Prop) (J:It) (H':Hp),Q5=.ref it/\Inv X pins σ H' s2/\Turn X.prog X.w X.K tg J fp it tn/\tn 0 s2.heap/\(∀b∈fp,oY X pins H' b)/\R J H'
noncomputable def PI(X:Cx)(tg iter:Expr)(wi:TI):Prop:=
 ∀(pins:List (Addr×Obj)) (s:Shared) (σ:St) (H:Hp) (R:It->Hp->Prop),Inv X pins σ H s->wi σ H R->
  wpAny (model X.prog X.w) X.A (eval iter X.env) (λv s1=>wpAny (model X.prog X.w) X.A (pyIter v) (TQ X pins σ tg R) X.xe s1) X.xe s
theorem DV{M:Model}{A:Around}{E:Value->Shared->Prop}{s:Shared}{tg:Expr}{it:Addr}{u:Value}{o:Obj}{n:String}{vs:Array Value}{Q:Unit->Shared->Prop}(ho:s.heap.get? it=some o)(hc:o.cls=.type n)(hd:o.data=.fields vs)
  (hn:["enumerate","zip","dict_itemiterator","dict_reverseitemiterator","odict_iterator","itertools.zip_longest","itertools.pairwise"].contains n=false)(hQ:Q () s):wpAny M A (letOwnedTupleGo tg (.ref it) u) Q E s:=by
 unfold letOwnedTupleGo
 cases tg<;>first
  |exact wpAny_pure hQ
  |(cases u<;>first
     |exact wpAny_pure hQ
     |(refine wpAny_bind (wpAny_load ho ?_)
       rw[hc,hd]
       show wpAny M A (if(["enumerate","zip","dict_itemiterator","dict_reverseitemiterator","odict_iterator","itertools.zip_longest","itertools.pairwise"].contains n&&vs[0]?==some (rawInt _))=true then _ else _) Q E s
       rw[if_neg (by intro h;rw[hn,Bool.false_and]at h;cases h)]
       exact wpAny_pure hQ))
noncomputable def RZ(K:PySem.W.Frag)(a:Addr):It:=
 ⟨λi H=>∃xs x,mP K H a xs/\xs[i]?=some x,λi H x H'=>H'=H/\∀xs,mP K H a xs->xs[i]?=some x,λi H=>∃xs,mP K H a xs/\xs.length<=i⟩
noncomputable def R0(K:PySem.W.Frag)(a:Addr):It:=
 ⟨λi H=>∃xs x,mQ K H a xs/\xs[i]?=some x,λi H x H'=>H'=H/\∀xs,mQ K H a xs->xs[i]?=some x,λi H=>∃xs,mQ K H a xs/\xs.length<=i⟩
noncomputable def Nh(lo:Int)(n:Nat):It:=⟨λi _=>i<n,λi H x H'=>H'=H/\x=.int (lo+i),λi _=>n<=i⟩
theorem CF{P:Program}{w:World}{K:PySem.W.Frag}{tg:Expr}(a it:Addr):Turn P w K tg (RZ K a) [it] it (λi h=>h.IsListIter it a i) where
 mem:=by simp
 obj:=λi h st b hb=>by
  have e:b=it:=by simpa using hb
  subst e
  obtain⟨o,e,c,d⟩:=st
  exact⟨o,e,λv z=>by rw[d]at z;cases z⟩
 keep:=λi h h' st k=>st.at λo e=>k it (by simp) o e
 item:=by
  intro X hP hw hK hc i pins s σ H E I hf st hg
  subst hP hw hK
  obtain⟨xs,x,hq,hx⟩:=hg
  obtain⟨its,rv,p,hz⟩:=I.list hq
  obtain⟨u,hu,ru⟩:=rv.get hx
  obtain⟨f0,f1,f2,f3,f4,f5⟩:=hf it (by simp)
  refine wpAny_pyNext_list_item st p.isList (x:=u) (by simpa using hu) λh' Ji sb=>?_
  have I1:Inv X pins σ H {s with heap:=h'}:=I.turned (t':=s.toks) (λb o hb e=>(sb.2 b hb).trans e) f0 f1 f3 f4 f5
  obtain⟨o,e,c,d⟩:=id Ji
  exact⟨u,rfl,DV (s:={s with heap:=h'}) e c d (by decide) ⟨x,H,I1,ru,⟨rfl,λys hy=>by rw[I.xV hy hq];exact hx⟩,Ji,λb hb=>(hf b hb).1⟩⟩
 done:=by
  intro X hP hw hK hc i pins s σ H E I hf st hg
  subst hP hw hK
  obtain⟨xs,hq,hx⟩:=hg
  obtain⟨its,rv,p,hz⟩:=I.list hq
  obtain⟨f0,f1,f2,f3,f4,f5⟩:=hf it (by simp)
  have hl:=rv.length
  exact wpAny_pyNext_list_end (I.ok.hd hc) st p.isList (by simp;omega) λh' eb=>⟨rfl,I.turned (t':=s.toks) (λb o hb e=>eb b o hb e) f0 f1 f3 f4 f5⟩
 self:=λ_ _ _ _ _ st h=>wpAny_pyIter_listiter st h
theorem Aj{P:Program}{w:World}{K:PySem.W.Frag}{tg:Expr}(a it:Addr):Turn P w K tg (R0 K a) [it] it (λi h=>h.IsTupleIter it a i) where
 mem:=by simp
 obj:=λi h st b hb=>by
  have e:b=it:=by simpa using hb
  subst e
  obtain⟨o,e,c,d⟩:=st
  exact⟨o,e,λv z=>by rw[d]at z;cases z⟩
 keep:=λi h h' st k=>st.at λo e=>k it (by simp) o e
 item:=by
  intro X hP hw hK hc i pins s σ H E I hf st hg
  subst hP hw hK
  obtain⟨xs,x,hq,hx⟩:=hg
  obtain⟨its,rv,p,hz⟩:=I.tuple hq
  obtain⟨u,hu,ru⟩:=rv.get hx
  obtain⟨f0,f1,f2,f3,f4,f5⟩:=hf it (by simp)
  refine wpAny_pyNext_tuple_item st (show s.heap.IsTuple a its.toArray from p) (x:=u) (by simpa using hu) λh' Ji sb=>?_
  have I1:Inv X pins σ H {s with heap:=h'}:=I.turned (t':=s.toks) (λb o hb e=>(sb.2 b hb).trans e) f0 f1 f3 f4 f5
  obtain⟨o,e,c,d⟩:=id Ji
  exact⟨u,rfl,DV (s:={s with heap:=h'}) e c d (by decide) ⟨x,H,I1,ru,⟨rfl,λys hy=>by rw[I.uV hy hq];exact hx⟩,Ji,λb hb=>(hf b hb).1⟩⟩
 done:=by
  intro X hP hw hK hc i pins s σ H E I hf st hg
  subst hP hw hK
  obtain⟨xs,hq,hx⟩:=hg
  obtain⟨its,rv,p,hz⟩:=I.tuple hq
  obtain⟨f0,f1,f2,f3,f4,f5⟩:=hf it (by simp)
  have hl:=rv.length
  exact wpAny_pyNext_tuple_end (I.ok.hd hc) st (show s.heap.IsTuple a its.toArray from p) (by simp;omega) λh' eb=>⟨rfl,I.turned (t':=s.toks) (λb o hb e=>eb b o hb e) f0 f1 f3 f4 f5⟩
 self:=λ_ _ _ _ _ st h=>wpAny_pyIter_tupleiter st h
theorem Ak{P:Program}{w:World}{K:PySem.W.Frag}{tg:Expr}(it:Addr)(lo:Int)(n:Nat):Turn P w K tg (Nh lo n) [it] it (λi h=>IsRangeIter h it (lo+(i:Nat)*1) ((n:Int)-(i:Nat)) 1) where
 mem:=by simp
 obj:=λi h st b hb=>by
  have e:b=it:=by simpa using hb
  subst e
  exact⟨_,st,λv z=>by
   have z':Data.fields _=Data.cell v:=z
   cases z'⟩
 keep:=λi h h' st k=>k it (by simp) _ st
 item:=by
  intro X hP hw hK hc i pins s σ H E I hf st hg
  subst hP hw hK
  obtain⟨f0,f1,f2,f3,f4,f5⟩:=hf it (by simp)
  have W:=Walks.range (prog:=X.prog) (w:=X.w) (I.ok.hd hc) it lo 1 n
  refine W.item i s _ _ hg st λv h' tk hv Ji kk=>?_
  obtain⟨t,rfl⟩:=hv
  have I1:Inv X pins σ H {s with heap:=h',toks:=tk}:=I.turned (λb o hb e=>kk b o (by simpa using hb) e) f0 f1 f3 f4 f5
  refine⟨_,rfl,DV (s:={s with heap:=h',toks:=tk}) (n:= "range_iterator") Ji rfl rfl (by decide) ⟨.int (lo+i),H,I1,⟨t,?_⟩,⟨rfl,rfl⟩,Ji,λb hb=>(hf b hb).1⟩⟩
  rw[Int.mul_one]
 done:=by
  intro X hP hw hK hc i pins s σ H E I hf st hg
  subst hP hw hK
  obtain⟨f0,f1,f2,f3,f4,f5⟩:=hf it (by simp)
  exact wpAny_pyNext_range_end (I.ok.hd hc) st (by have:n<=i:=hg;omega) λh' eb=>⟨rfl,I.turned (t':=s.toks) (λb o hb e=>eb b o hb e) f0 f1 f3 f4 f5⟩
 self:=λ_ _ _ _ _ st h=>wpAny_pyIter_rangeiter st h
section
variable{X:Cx}{tg:Expr}
noncomputable def Ni(K:PySem.W.Frag)(tl:TE):TI:=λσ H R=>tl σ H λx H1=>∃a,x=.ref a/\(∃xs,mP K H1 a xs)/\R (RZ K a) H1
noncomputable def R1(K:PySem.W.Frag)(tl:TE):TI:=λσ H R=>tl σ H λx H1=>∃a,x=.ref a/\(∃xs,mQ K H1 a xs)/\R (R0 K a) H1
theorem Bz{l:Expr}{tl:TE}(hl:PE X l tl):PI X tg l (Ni X.K tl):=by
 intro pins s σ H R I h
 refine eh (hl pins s σ H _ I h) λv s1 d7=>?_
 obtain⟨x,H1,I1,r1,q1⟩:=d7
 obtain⟨a,e,⟨xs,hq⟩,q⟩:=q1
 subst e
 cases r1
 obtain⟨its,rv,p,hz⟩:=I1.list hq
 refine wpAny_pyIter_list p.isList ?_
 refine⟨s1.heap.objs.size,[s1.heap.objs.size],_,_,H1,rfl,I1.kept (t':=s1.toks) λb o e=>Heap.get?_push_of_some _ e,CF a _,⟨_,Heap.get?_push_size _ rfl,rfl,rfl⟩,λb hb=>?_,q⟩
 have e:b=s1.heap.objs.size:=by simpa using hb
 subst e
 exact I1.G0 (Nat.le_refl _) (I1.eT.fresh (Nat.le_refl _))
theorem KN{l:Expr}{tl:TE}(hl:PE X l tl):PI X tg l (R1 X.K tl):=by
 intro pins s σ H R I h
 refine eh (hl pins s σ H _ I h) λv s1 d7=>?_
 obtain⟨x,H1,I1,r1,q1⟩:=d7
 obtain⟨a,e,⟨xs,hq⟩,q⟩:=q1
 subst e
 cases r1
 obtain⟨its,rv,p,hz⟩:=I1.tuple hq
 refine wpAny_pyIter_tuple (show s1.heap.IsTuple a its.toArray from p) ?_
 refine⟨s1.heap.objs.size,[s1.heap.objs.size],_,_,H1,rfl,I1.kept (t':=s1.toks) λb o e=>Heap.get?_push_of_some _ e,Aj a _,⟨_,Heap.get?_push_size _ rfl,rfl,rfl⟩,λb hb=>?_,q⟩
 have e:b=s1.heap.objs.size:=by simpa using hb
 subst e
 exact I1.G0 (Nat.le_refl _) (I1.eT.fresh (Nat.le_refl _))
theorem DX{pins:List (Addr×Obj)}{σ:St}{H:Hp}{s:Shared}{R:It->Hp->Prop}{E:Value->Shared->Prop}{lo hi:Int}{t u v:Tok}{tk:Nat}(I:Inv X pins σ H s)(h1:-(2^62)<=lo)(h2:lo<2^62)(h3:-(2^62)<=hi)(h4:hi<2^62)
  (q:R (Nh lo (hi-lo).toNat) H):wpAny (model X.prog X.w) X.A (pyIter (.ref s.heap.objs.size)) (TQ X pins σ tg R) E {s with heap:=s.heap.push {cls:=.type "range",data:=.fields #[.int lo t,.int hi u,.int 1 v]},toks:=tk}:=by
 refine wpAny_pyIter_range (IsRange.new ..) (small_one h1 h2 h3 h4) ?_
 have I1:Inv X pins σ H {s with heap:=s.heap.push {cls:=.type "range",data:=.fields #[.int lo t,.int hi u,.int 1 v]},toks:=tk}:=I.kept λb o e=>Heap.get?_push_of_some _ e
 refine⟨(s.heap.push {cls:=.type "range",data:=.fields #[.int lo t,.int hi u,.int 1 v]}).objs.size,[(s.heap.push {cls:=.type "range",data:=.fields #[.int lo t,.int hi u,.int 1 v]}).objs.size],_,_,H,rfl,
  I1.kept (t':=tk) λb o e=>Heap.get?_push_of_some _ e,Ak _ lo (hi-lo).toNat,?_,λb hb=>?_,q⟩
 ·have e1:lo+((0:Nat):Int)*1=lo:=by simp
  have e2:(((hi-lo).toNat:Nat):Int)-((0:Nat):Int)=Builtin.Range.rangeSize lo hi 1:=by rw[rangeSize_one];split<;>omega
  show IsRangeIter _ _ (lo+((0:Nat):Int)*1) ((((hi-lo).toNat:Nat):Int)-((0:Nat):Int)) 1
  rw[e1,e2]
  exact Heap.get?_push_size _ rfl
 ·have e:b=(s.heap.push {cls:=.type "range",data:=.fields #[.int lo t,.int hi u,.int 1 v]}).objs.size:=by simpa using hb
  subst e
  exact I1.G0 (Nat.le_refl _) (I1.eT.fresh (Nat.le_refl _))
noncomputable def Jj(ta:TA):TI:=λσ H R=>ta σ H λvs H1=>∃j:Int,vs=[.int j]/\-(2^62)<=j/\j<2^62/\R (Nh 0 j.toNat) H1
theorem CG{a:Expr}{ta:TA}{p pos:Pos}(hg:Gl X "range")(hm:X.mg "range" =none)(ha:PA X [a] ta)(hs:starEach [a] X.env=[(false,eval a X.env)]:=by rfl):PI X tg (.Call (.Name "range" p) [a] [] pos) (Jj ta):=by
 intro pins s σ H R I h
 refine Call_ (qS I hg hm boot_range (PyProof.Rows.callWith_type1 (eh (ha pos pins s σ H _ I h) λus s1 d7=>?_) hs rfl))
 obtain⟨vs,H1,I1,r1,q1⟩:=d7
 obtain⟨j,e,q1,q2,q⟩:=q1
 subst e
 cases r1 with
 |cons r rr=>
  cases rr
  obtain⟨t,rfl⟩:=r
  exact call_range_1 (DX I1 (by omega) (by omega) q1 q2 (by simpa using q))
noncomputable def R3(wi:TI)(g:TG)(tb:TS):TS:=λD σ H=>wi σ H λJ H1=>∃W:Nat->Nat->St->Hp->Prop,(∃m,W 0 m σ H1)/\∀i m σ H,W i m σ H->
 (J.stop i H/\D.nx σ H)\/(J.go i H/\∃N:St->Hp->Prop,(∀σ' H',N σ' H'->∃m',m'<m/\W (i+1) m' σ' H')/\∀x H',J.yld i H x H'->g x σ H' λσ2 H2=>tb {D with nx:=N,ct:=N,bk:=D.nx} σ2 H2)
noncomputable def jE(fp:List Addr)(h:Heap):List (Addr×Obj):=fp.filterMap λb=>(h.get? b).map λo=>(b,o)
theorem jF{fp:List Addr}{h:Heap}{b:Addr}{o:Obj}(hb:b∈fp)(e:h.get? b=some o):(b,o)∈jE fp h:=List.mem_filterMap.mpr ⟨b,hb,by rw[e];rfl⟩
theorem uW{fp:List Addr}{h:Heap}{p:Addr×Obj}(hp:p∈jE fp h):p.1∈fp/\h.get? p.1=some p.2:=by
 obtain⟨b,hb,e⟩:=List.mem_filterMap.mp hp
 cases q:h.get? b with
 |none=>rw[q]at e;cases e
 |some o=>
  rw[q]at e
  have e':(b,o)=p:=Option.some.inj e
  subst e'
  exact⟨hb,q⟩
theorem Inv.pinned{pins:List (Addr×Obj)}{σ:St}{H:Hp}{s:Shared}{fp:List Addr}(I:Inv X pins σ H s)(hf:∀b∈fp,oY X pins H b)(ho:∀b∈fp,∃o,s.heap.get? b=some o/\∀v,o.data≠.cell v):Inv X (pins++jE fp s.heap) σ H s:=
 I.qA λp hp=>(List.mem_append.mp hp).elim (λz=>I.pin p (List.mem_append_right _ z)) λz=>by
  obtain⟨hb,e⟩:=uW z
  obtain⟨f0,f1,f2,_⟩:=hf p.1 hb
  obtain⟨o,e',d⟩:=ho p.1 hb
  rw[e]at e';cases e'
  exact⟨e,f0,f1,f2,d⟩
theorem Inv.nR{pins pl:List (Addr×Obj)}{σ:St}{H:Hp}{s:Shared}(I:Inv X (pins++pl) σ H s):Inv X pins σ H s:=I.qA λp hp=>I.pin p (List.mem_append_right _ (List.mem_append_left _ hp))
theorem KO{iter:Expr}{body:List Stmt}{wi:TI}{g:TG}{tb:TS}{pos:Pos}(hp:PassesOwn (model X.prog X.w) X.A X.env X.xe)(hc:X.calm=true)(hi:PI X tg iter wi)(hg:PG X tg g)(hb:Ae X body tb)
  (hs:∀x,foldedSetIterable iter X.env x=pure x:=by intro _;rfl):PS X (.For tg iter body [] pos) (R3 wi g tb):=by
 intro pins s σ H D I h
 refine wpAny_For (eh (hi pins s σ H _ I h) λv s1 h1=>eh h1 λQ5 s2 h2=>?_) hs
 obtain⟨it,fp,tn,J,H2,e,I2,T,Jk,f2,W,⟨m0,w0⟩,turn⟩:=h2
 subst e
 have KP:∀{H':Hp},(∀b∈fp,H' b=none)->∀b∈fp,oY X pins H' b:=λhn b hb=>⟨hn b hb,(f2 b hb).2⟩
 refine codeAny_forLoop_any (λn s'=>∃i σ' H',Inv X pins σ' H' s'/\tn i s'.heap/\(∀b∈fp,H' b=none)/\W i n σ' H') ?_ m0 ⟨0,σ,H2,I2,Jk,λb hb=>(f2 b hb).1,w0⟩
 rintro n s3 ⟨i,σ3,H3,I3,Q6,TR,w3⟩
 rcases turn i n σ3 H3 w3 with⟨stop,qn⟩|⟨go,N,hN,step⟩
 ·refine wpAny_passesOwn hp (eh (T.done X rfl rfl rfl hc i pins s3 σ3 H3 X.xe I3 (KP TR) Q6 stop) λr s4 ⟨hr,I4⟩=>?_)
  subst hr
  exact wpAny_execs_nil ⟨σ3,H3,I4,qn⟩
 ·refine wpAny_passesOwn hp (eh (T.item X rfl rfl rfl hc i pins s3 σ3 H3 X.xe I3 (KP TR) Q6 go) λr s4 d7=>?_)
  obtain⟨u,hr,h4⟩:=d7
  subst hr
  refine wpAny_passesOwn hp (eh h4 λ_ s5 d7=>?_)
  obtain⟨x,H5,I5,r5,y5,KQ,R4⟩:=d7
  have R5:=I5.pinned (KP R4) (T.obj _ _ KQ)
  refine wpAny_passesOwn hp (eh (hg _ s5 σ3 H5 x u _ R5 r5 (step x H5 y5)) λ_ s6 d7=>?_)
  obtain⟨σ6,H6,I6,q6⟩:=d7
  refine wpAny_passesOwn hp (eh (hb _ s6 σ6 H6 _ I6 q6) λf s7 q7=>?_)
  have again:∀{σ7:St} {H7:Hp},Inv X (pins++jE fp s5.heap) σ7 H7 s7->N σ7 H7->∃m,m<n/\∃i σ' H',Inv X pins σ' H' s7/\tn i s7.heap/\(∀b∈fp,H' b=none)/\W i m σ' H':=λ{σ7 H7} I7 n7=>by
   obtain⟨m',hm,w7⟩:=hN σ7 H7 n7
   refine⟨m',hm,i+1,σ7,H7,I7.nR,T.keep _ _ _ KQ λb hb o e=>(I7.pin (b,o) (List.mem_append_right _ (List.mem_append_right _ (jF hb e)))).1,λb hb=>?_,w7⟩
   obtain⟨o,e,d⟩:=T.obj _ _ KQ b hb
   exact(I7.pin (b,o) (List.mem_append_right _ (List.mem_append_right _ (jF hb e)))).2.1
  cases f with
  |next=>obtain⟨σ7,H7,I7,n7⟩:=q7;exact again I7 n7
  |cont=>obtain⟨σ7,H7,I7,n7⟩:=q7;exact again I7 n7
  |brk=>obtain⟨σ7,H7,I7,q7⟩:=q7;exact⟨σ7,H7,I7.nR,q7⟩
  |ret v=>obtain⟨x7,σ7,H7,I7,r7,q7⟩:=q7;exact⟨x7,σ7,H7,I7.nR,r7,q7⟩
end
noncomputable abbrev R2:=V->V->Hp->VK->Prop
noncomputable def mf(X:Cx)(f:Value->Value->Sem Value)(r:R2):Prop:=
 ∀(pins:List (Addr×Obj)) (s:Shared) (σ:St) (H:Hp) (x y:V) (v u:Value) (Q:VK),Inv X pins σ H s->RelV x v->RelV y u->r x y H Q->
  wpAny (model X.prog X.w) X.A (f v u) (EP X pins σ Q) X.xe s
noncomputable def R6(X:Cx)(f:Value->Sem Value)(r:V->Hp->VK->Prop):Prop:=
 ∀(pins:List (Addr×Obj)) (s:Shared) (σ:St) (H:Hp) (x:V) (v:Value) (Q:VK),Inv X pins σ H s->RelV x v->r x H Q->
  wpAny (model X.prog X.w) X.A (f v) (EP X pins σ Q) X.xe s
noncomputable def gX(X:Cx)(f:Value)(r:List V->Hp->VK->Prop):Prop:=
 ∀(pins:List (Addr×Obj)) (s:Shared) (σ:St) (H:Hp) (xs:List V) (us:List Value) (Q:VK),Inv X pins σ H s->Vals xs us->r xs H Q->
  wpAny (model X.prog X.w) X.A (call f us) (EP X pins σ Q) X.xe s
noncomputable def Nj(r:R2)(ta tb:TE):TE:=λσ H Q=>ta σ H λx H1=>tb σ H1 λy H2=>r x y H2 Q
noncomputable def UL(r:V->Hp->VK->Prop)(ta:TE):TE:=λσ H Q=>ta σ H λx H1=>r x H1 Q
noncomputable def rI(C:Int->Int->Prop)(g:Int->Int->V):R2:=λx y H Q=>∃i j,x=.int i/\y=.int j/\C i j/\Q (g i j) H
noncomputable def G1(g:Int->Int->V):R2:=λx y H Q=>∃i j,x=.int i/\y=.int j/\Q (g i j) H
noncomputable def rU(g:Int->V):V->Hp->VK->Prop:=λx H Q=>∃i,x=.int i/\Q (g i) H
section
variable{X:Cx}{a b c:Expr}{ta tb tc:TE}{pos:Pos}
theorem KR(ha:PE X a ta)(hb:PE X b tb){pins:List (Addr×Obj)}{s:Shared}{σ:St}{H:Hp}{R:V->V->Hp->Prop}(I:Inv X pins σ H s)
  (h:ta σ H λx H1=>tb σ H1 λy H2=>R x y H2){Q:Value->Shared->Prop}{f:Value->Value->Sem Value}
  (hf:∀v u s2 x y H2,Inv X pins σ H2 s2->RelV x v->RelV y u->R x y H2->wpAny (model X.prog X.w) X.A (f v u) Q X.xe s2):
  wpAny (model X.prog X.w) X.A (eval a X.env) (λv s₁=>wpAny (model X.prog X.w) X.A (eval b X.env) (λu s₂=>wpAny (model X.prog X.w) X.A (f v u) Q X.xe s₂) X.xe s₁) X.xe s:=by
 refine eh (ha pins s σ H _ I h) λv s1 d7=>?_
 obtain⟨x,H1,I1,r1,q1⟩:=d7
 refine eh (hb pins s1 σ H1 _ I1 q1) λu s2 d7=>?_
 obtain⟨y,H2,I2,r2,q2⟩:=d7
 exact hf v u s2 x y H2 I2 r1 r2 q2
theorem DY{op:Operator}{r:R2}(ho:mf X (binaryOp op) r)(ha:PE X a ta)(hb:PE X b tb):PE X (.BinOp a op b pos) (Nj r ta tb):=by
 intro pins s σ H Q I h
 exact wpAny_BinOp (KR ha hb I h λv u s2 x y H2 I2 rx ry q=>ho pins s2 σ H2 x y v u Q I2 rx ry q)
theorem Nk{op:UnaryOp}{r:V->Hp->VK->Prop}(ho:R6 X (unaryOp op) r)(ha:PE X a ta):PE X (.UnaryOp op a pos) (UL r ta):=by
 intro pins s σ H Q I h
 exact UnaryOp_ (eh (ha pins s σ H _ I h) λv s1 ⟨x,H1,I1,r1,q1⟩=>ho pins s1 σ H1 x v Q I1 r1 q1)
theorem R7{f:Value->Value->Sem Value}{C:Int->Int->Prop}{g:Int->Int->Int}
  (rule:∀(i j:Int) (t u:Tok) (s:Shared) (Q:Value->Shared->Prop) (E:Value->Shared->Prop),C i j->Q (.int (g i j) s.toks) {s with toks:=s.toks+1}->wpAny (model X.prog X.w) X.A (f (.int i t) (.int j u)) Q E s):
  mf X f (rI C λi j=>.int (g i j)):=by
 intro pins s σ H x y v u Q I rx ry h
 obtain⟨i,j,rfl,rfl,hc,q⟩:=h
 obtain⟨t,rfl⟩:=rx
 obtain⟨t',rfl⟩:=ry
 exact rule i j t t' s _ _ hc ⟨.int (g i j),H,I.tok _,⟨_,rfl⟩,q⟩
theorem KS{f:Value->Value->Sem Value}{g:Int->Int->Int}
  (rule:∀(i j:Int) (t u:Tok) (s:Shared) (Q:Value->Shared->Prop) (E:Value->Shared->Prop),Q (.int (g i j) s.toks) {s with toks:=s.toks+1}->wpAny (model X.prog X.w) X.A (f (.int i t) (.int j u)) Q E s):
  mf X f (G1 λi j=>.int (g i j)):=by
 intro pins s σ H x y v u Q I rx ry h
 obtain⟨i,j,rfl,rfl,q⟩:=h
 obtain⟨t,rfl⟩:=rx
 obtain⟨t',rfl⟩:=ry
 exact rule i j t t' s _ _ ⟨.int (g i j),H,I.tok _,⟨_,rfl⟩,q⟩
theorem Nl{f:Value->Value->Sem Value}{g:Int->Int->Bool}
  (rule:∀(i j:Int) (t u:Tok) (s:Shared) (Q:Value->Shared->Prop) (E:Value->Shared->Prop),Q (.bool (g i j)) s->wpAny (model X.prog X.w) X.A (f (.int i t) (.int j u)) Q E s):
  mf X f (G1 λi j=>.bl (g i j)):=by
 intro pins s σ H x y v u Q I rx ry h
 obtain⟨i,j,rfl,rfl,q⟩:=h
 obtain⟨t,rfl⟩:=rx
 obtain⟨t',rfl⟩:=ry
 exact rule i j t t' s _ _ ⟨.bl (g i j),H,I,rfl,q⟩
noncomputable def R8(i j:Int):Prop:=0<j/\j<1073741824
noncomputable def KU(i j:Int):Prop:=(-(2^64)<i/\i<2^64)\/(-(2^64)<j/\j<2^64)
theorem KU.ok{i j:Int}(h:KU i j):IntMulOk i j:=by
 rcases h with⟨h1,h2⟩|⟨h1,h2⟩
 ·exact .of_left (intBits_le_64 h1 h2)
 ·exact .of_right (intBits_le_64 h1 h2)
theorem KW:mf X (binaryOp .Add) (G1 λi j=>.int (i+j)):=KS λ_ _ _ _ _ _ _ q=>add_int q
theorem KY:mf X (binaryOp .Sub) (G1 λi j=>.int (i-j)):=KS λ_ _ _ _ _ _ _ q=>sub_int q
theorem KZ:mf X (binaryOp .Mult) (rI KU λi j=>.int (i*j)):=R7 λ_ _ _ _ _ _ _ hc q=>mul_int q hc.ok
theorem G2:mf X (binaryOp .FloorDiv) (rI R8 λi j=>.int (i/j)):=R7 λi j _ _ _ _ _ hc q=>by
 have h1:(0:Int)<j:=hc.1
 have h2:j<1073741824:=hc.2
 exact floordiv_int (by omega) (by rw[Int.fdiv_eq_ediv_of_nonneg i (by omega)];exact q) (.inl (PyProof.noPylong_small (by omega)))
theorem K0:mf X (binaryOp .Mod) (rI (λ_ j=>0<j) λi j=>.int (i % j)):=R7 λi j _ _ _ _ _ hc q=>by
 have h1:(0:Int)<j:=hc
 exact mod_int' (by omega) (by rw[Int.fmod_eq_emod_of_nonneg i (by omega)];exact q)
theorem G3:mf X (inplaceOp .Add) (G1 λi j=>.int (i+j)):=KS λ_ _ _ _ _ _ _ q=>iadd_int q
theorem UM{f:Value->Sem Value}{g:Int->Int}
  (rule:∀(i:Int) (t:Tok) (s:Shared) (Q:Value->Shared->Prop) (E:Value->Shared->Prop),Q (.int (g i) s.toks) {s with toks:=s.toks+1}->wpAny (model X.prog X.w) X.A (f (.int i t)) Q E s):
  R6 X f (rU λi=>.int (g i)):=by
 intro pins s σ H x v Q I rx h
 obtain⟨i,rfl,q⟩:=h
 obtain⟨t,rfl⟩:=rx
 exact rule i t s _ _ ⟨.int (g i),H,I.tok _,⟨_,rfl⟩,q⟩
theorem K1:R6 X (unaryOp .USub) (rU λi=>.int (-i)):=UM λ_ _ _ _ _ q=>neg_int q
end
noncomputable def Nm:V->V->Bool
 |.non,.non=>true|.non,.int _=>true|.int _,.non=>true|.non,.bl _=>true|.bl _,.non=>true|.non,.str _=>true|.str _,.non=>true
 |.int _,.int _=>true|.bl _,.bl _=>true|.str _,.str _=>true|.byt _,.byt _=>true
 |.int _,.str _=>true|.str _,.int _=>true|.bl _,.str _=>true|.str _,.bl _=>true
 |_,_=>false
noncomputable def UN:R2:=λx y H Q=>Nm x y=true/\Q (.bl (decide (x=y))) H
noncomputable def UO:R2:=λx y H Q=>Nm x y=true/\Q (.bl (!decide (x=y))) H
theorem BA{i j:Int}:decide (V.int i=V.int j)=(i==j):=by
 rw[Bool.eq_iff_iff]
 simp
theorem DZ{i j:Bool}:decide (V.bl i=V.bl j)=(i==j):=by
 rw[Bool.eq_iff_iff]
 simp
theorem BB{i j:Str}:decide (V.str i=V.str j)=(i==j):=by
 rw[Bool.eq_iff_iff]
 simp
theorem BC{i j:Array UInt8}:decide (V.byt i=V.byt j)=(i.toList==j.toList):=by
 rw[Bool.eq_iff_iff]
 cases i
 cases j
 simp
section
variable{X:Cx}{a b c:Expr}{ta tb tc:TE}{pos:Pos}
theorem bJ{pins:List (Addr×Obj)}{σ:St}{H:Hp}{s:Shared}{Q:VK}{k k':Bool}(I:Inv X pins σ H s)(q:Q (.bl k) H)(e:k=k'):EP X pins σ Q (.bool k') s:=by
 subst e
 exact⟨.bl k,H,I,rfl,q⟩
theorem Nn:mf X (compareOp .Eq) UN:=by
 intro pins s σ H x y v u Q I rx ry h
 obtain⟨hs,q⟩:=h
 cases x with
 |non=>
  cases rx
  cases y with
  |non=>cases ry;exact PySem.EqNone.eq_none_none (bJ I q (by simp))
  |bl j=>cases ry;exact PySem.EqNone.eq_none_bool (bJ I q (by simp))
  |int j=>obtain⟨t',rfl⟩:=ry;exact PySem.EqNone.eq_none_int (bJ I q (by simp))
  |str j=>obtain⟨t',rfl⟩:=ry;exact PySem.EqNone.eq_none_str (bJ I q (by simp))
  |_=>exact absurd (show false=true from hs) Bool.false_ne_true
 |bl i=>
  cases rx
  cases y with
  |non=>cases ry;exact PySem.EqNone.eq_bool_none (bJ I q (by simp))
  |bl j=>cases ry;exact eq_bool (bJ I q DZ)
  |str j=>obtain⟨t',rfl⟩:=ry;exact PySem.EqMixed.eq_bool_str (bJ I q (by simp))
  |_=>exact absurd (show false=true from hs) Bool.false_ne_true
 |int i=>
  obtain⟨t,rfl⟩:=rx
  cases y with
  |non=>cases ry;exact PySem.EqNone.eq_int_none (bJ I q (by simp))
  |int j=>obtain⟨t',rfl⟩:=ry;exact eq_int (bJ I q BA)
  |str j=>obtain⟨t',rfl⟩:=ry;exact PySem.EqMixed.eq_int_str (bJ I q (by simp))
  |_=>exact absurd (show false=true from hs) Bool.false_ne_true
 |str i=>
  obtain⟨t,rfl⟩:=rx
  cases y with
  |non=>cases ry;exact PySem.EqNone.eq_str_none (bJ I q (by simp))
  |bl j=>cases ry;exact PySem.EqMixed.eq_str_bool (bJ I q (by simp))
  |int j=>obtain⟨t',rfl⟩:=ry;exact PySem.EqMixed.eq_str_int (bJ I q (by simp))
  |str j=>obtain⟨t',rfl⟩:=ry;exact eq_str (bJ I q BB)
  |_=>exact absurd (show false=true from hs) Bool.false_ne_true
 |byt i=>
  obtain⟨t,rfl⟩:=rx
  cases y with
  |byt j=>obtain⟨t',rfl⟩:=ry;exact PySem.W.eq_bytes (bJ I q BC)
  |_=>exact absurd (show false=true from hs) Bool.false_ne_true
 |_=>cases y<;>exact absurd (show false=true from hs) Bool.false_ne_true
theorem Np:mf X (compareOp .NotEq) UO:=by
 intro pins s σ H x y v u Q I rx ry h
 obtain⟨hs,q⟩:=h
 cases x with
 |non=>
  cases rx
  cases y with
  |non=>cases ry;exact PySem.EqNone.ne_none_none (bJ I q (by simp))
  |bl j=>cases ry;exact PySem.EqNone.ne_none_bool (bJ I q (by simp))
  |int j=>obtain⟨t',rfl⟩:=ry;exact PySem.EqNone.ne_none_int (bJ I q (by simp))
  |str j=>obtain⟨t',rfl⟩:=ry;exact PySem.EqNone.ne_none_str (bJ I q (by simp))
  |_=>exact absurd (show false=true from hs) Bool.false_ne_true
 |bl i=>
  cases rx
  cases y with
  |non=>cases ry;exact PySem.EqNone.ne_bool_none (bJ I q (by simp))
  |bl j=>cases ry;exact ne_bool (bJ I q (congrArg not DZ))
  |str j=>obtain⟨t',rfl⟩:=ry;exact PySem.EqMixed.ne_bool_str (bJ I q (by simp))
  |_=>exact absurd (show false=true from hs) Bool.false_ne_true
 |int i=>
  obtain⟨t,rfl⟩:=rx
  cases y with
  |non=>cases ry;exact PySem.EqNone.ne_int_none (bJ I q (by simp))
  |int j=>obtain⟨t',rfl⟩:=ry;exact ne_int (bJ I q (congrArg not BA))
  |str j=>obtain⟨t',rfl⟩:=ry;exact PySem.EqMixed.ne_int_str (bJ I q (by simp))
  |_=>exact absurd (show false=true from hs) Bool.false_ne_true
 |str i=>
  obtain⟨t,rfl⟩:=rx
  cases y with
  |non=>cases ry;exact PySem.EqNone.ne_str_none (bJ I q (by simp))
  |bl j=>cases ry;exact PySem.EqMixed.ne_str_bool (bJ I q (by simp))
  |int j=>obtain⟨t',rfl⟩:=ry;exact PySem.EqMixed.ne_str_int (bJ I q (by simp))
  |str j=>obtain⟨t',rfl⟩:=ry;exact ne_str (bJ I q (congrArg not BB))
  |_=>exact absurd (show false=true from hs) Bool.false_ne_true
 |byt i=>
  obtain⟨t,rfl⟩:=rx
  cases y with
  |byt j=>obtain⟨t',rfl⟩:=ry;exact PySem.W.ne_bytes (bJ I q (congrArg not BC))
  |_=>exact absurd (show false=true from hs) Bool.false_ne_true
 |_=>cases y<;>exact absurd (show false=true from hs) Bool.false_ne_true
theorem Nq:mf X (compareOp .Lt) (G1 λi j=>.bl (decide (i<j))):=Nl λ_ _ _ _ _ _ _ q=>lt_int q
theorem Nr:mf X (compareOp .Gt) (G1 λi j=>.bl (decide (j<i))):=Nl λ_ _ _ _ _ _ _ q=>gt_int q
theorem K2:mf X (compareOp .Is) (λx y H Q=>y=.non/\Q (.bl (decide (x=.non))) H):=by
 intro pins s σ H x y v u Q I rx ry h
 obtain⟨rfl,q⟩:=h
 cases ry
 refine is_none_gen (bJ I q ?_)
 cases x<;>first
  |(cases rx;rfl)
  |(obtain⟨t,rfl⟩:=rx;rfl)
theorem mf.or{f:Value->Value->Sem Value}{r r':R2}(h:mf X f r)(h':mf X f r'):mf X f (λx y H Q=>r x y H Q\/r' x y H Q):=by
 intro pins s σ H x y v u Q I rx ry q
 rcases q with q|q
 ·exact h pins s σ H x y v u Q I rx ry q
 ·exact h' pins s σ H x y v u Q I rx ry q
theorem D0(b:Expr){op:CmpOp}(h:op≠.In:=by decide)(h2:op≠.NotIn:=by decide):behindInMarks op b=false:=by
 have e1:(op==CmpOp.In)=false:=by cases op<;>first|rfl|exact absurd rfl h
 have e2:(op==CmpOp.NotIn)=false:=by cases op<;>first|rfl|exact absurd rfl h2
 cases b<;>simp[behindInMarks,e1,e2]
theorem G4{op:CmpOp}{r:R2}(ho:mf X (compareOp op) r)(ha:PE X a ta)(hb:PE X b tb)(hm:behindInMarks op b=false):PE X (.Compare a [op] [b] pos) (Nj r ta tb):=by
 intro pins s σ H Q I h
 exact wpAny_Compare1 (KR ha hb I h λv u s2 x y H2 I2 rx ry q=>ho pins s2 σ H2 x y v u Q I2 rx ry q) hm
noncomputable def Jl(t:TE):TT:=λσ H Q=>t σ H λx H'=>∃k,x=.bl k/\Q k H'
theorem G5{op:CmpOp}{r:R2}(ho:mf X (compareOp op) r)(ha:PE X a ta)(hb:PE X b tb)(hm:behindInMarks op b=false):PT X (.Compare a [op] [b] pos) (Jl (Nj r ta tb)):=by
 intro pins s σ H Q I h
 refine wpAny_isTrue_Compare1 (eh (ha pins s σ H _ I h) λv s1 ⟨x,H1,I1,r1,q1⟩=>eh (hb pins s1 σ H1 _ I1 q1) λu s2 ⟨y,H2,I2,r2,q2⟩=>
  eh (ho pins s2 σ H2 x y v u _ I2 r1 r2 q2) λc s3 ⟨z,H3,I3,r3,k,e,q3⟩=>?_) hm
 subst e
 cases r3
 exact wpAny_truthy_bool ⟨H3,I3,q3⟩
theorem qU:(sizeLine:Nat)<2^63:=by rw[sizeLine_eq];decide
theorem Al:mf X (binaryOp .Add) (λx y H Q=>∃i j,x=.str i/\y=.str j/\i.length+j.length<=sizeLine/\Q (.str (i++j)) H):=by
 intro pins s σ H x y v u Q I rx ry h
 obtain⟨i,j,rfl,rfl,hz,q⟩:=h
 obtain⟨t,rfl⟩:=rx
 obtain⟨t',rfl⟩:=ry
 exact add_str (λt' tk=>⟨.str (i++j),H,I.tok _,⟨_,rfl⟩,q⟩) hz
theorem vals1{x:V}{us:List Value}(r:Vals [x] us):∃u,us=[u]/\RelV x u:=by
 cases r with
 |cons r1 r2=>cases r2;exact⟨_,rfl,r1⟩
theorem vals2{x y:V}{us:List Value}(r:Vals [x,y] us):∃u w',us=[u,w']/\RelV x u/\RelV y w':=by
 cases r with
 |cons r1 r2=>
  cases r2 with
  |cons r3 r4=>cases r4;exact⟨_,_,rfl,r1,r3⟩
theorem vF:gX X (.type "str") (λxs H Q=>∃i,xs=[.int i]/\i.natAbs.log2<1920/\Q (.str (toString i)) H):=by
 intro pins s σ H xs us Q I r h
 obtain⟨i,rfl,hz,q⟩:=h
 obtain⟨u,rfl,t,rfl⟩:=vals1 r
 exact PySem.P.str_of_int hz ⟨.str _,H,I.tok _,⟨_,rfl⟩,q⟩
end
structure Am(h:Heap)(x dx C:Addr)(mA:Str->Option Value):Prop where
 obj:h.get? x=some (PySem.W.instObj C dx)
 ns:h.Ns1 dx mA
 ne:dx≠x
theorem CH{h:Heap}{dx:Addr}{mA:Str->Option Value}(n:h.Ns1 dx mA):∃od,h.get? dx=some od/\∀name,PySem.W.lookIn name od=some (mA name):=by
 obtain⟨o,es,ep,ho,hd,hk,_,hm⟩:=n
 refine⟨o,ho,λname=>?_⟩
 have e:=hm name
 unfold nsFind findBy at e
 rw[<-Array.find?_toList]at e
 unfold PySem.W.lookIn
 rw[hd]
 dsimp only
 split
 ·rename_i y q
  rw[q]at e
  exact congrArg some e
 ·rename_i q
  rw[q]at e
  have a:es.toList.any (·.refKey)=false:=by
   rw[List.any_eq_false]
   intro y hy
   obtain⟨z,t,R9⟩:=hk y (Array.mem_toList_iff.mp hy)
   simp[DictEntry.refKey,R9]
  have a':¬es.toList.any (·.refKey)=true:=by rw[a];exact Bool.false_ne_true
  rw[if_neg a']
  exact congrArg some e
theorem Am.look{h:Heap}{x dx C:Addr}{mA:Str->Option Value}(I:Am h x dx C mA):∃od,PySem.W.InstAt h x (PySem.W.instObj C dx) C (some od)/\∀name,PySem.W.lookIn name od=some (mA name):=
 let⟨od,ho,hl⟩:=CH I.ns
 ⟨od,⟨I.obj,rfl,rfl,ho⟩,hl⟩
section
variable{prog:Program}{w:World}{A:Around}{E:Value->Shared->Prop}{s:Shared}{K:PySem.W.Frag}{x dx C f:Addr}{mA:Str->Option Value}{name:Str}{v:Value}
theorem get_map{expr:Bool}{Q:Value->Shared->Prop}(X:K.In s.heap)(I:Am s.heap x dx C mA)(hg:PySem.W.plainGet K C name=true)(hh:PySem.W.hasDictIn K C=true)
  (ha:PySem.W.findIn K (.ref C) name=some none)(hv:mA name=some v)(UP:PySem.W.handedIn v=true)(h:Q v {s with toks:=s.toks+1}):
  wpAny (model prog w) A (getAttr (.ref x) name expr) Q E s:=by
 obtain⟨od,J,hl⟩:=I.look
 exact PySem.W.get_value X J (PySem.W.plainGet_of hg).1 (PySem.W.findObj_own hh ha rfl (by rw[hl,hv])) UP h
theorem D1{pl:Sem Bool}{Q:Value×List Value->Shared->Prop}(X:K.In s.heap)(I:Am s.heap x dx C mA)(hg:PySem.W.plainGet K C name=true)
  (hf:PySem.W.findIn K (.ref C) name=some (some (.ref f)))(ht:PySem.W.isFn K (.ref f)=true)(hv:mA name=none)(h:Q (.ref f,[.ref x]) s):
  wpAny (model prog w) A (getMethod (.ref x) name pl) Q E s:=by
 obtain⟨od,J,hl⟩:=I.look
 exact PySem.W.method_fn X J (PySem.W.plainGet_of hg).1 (PySem.W.plainGet_of hg).2 hf (beq_iff_eq.mp ht) (by show(PySem.W.lookIn name od).map (·.isSome)=some false;rw[hl,hv];rfl) h
theorem G6{ns:List Str}{Q:Unit->Shared->Prop}(X:K.In s.heap)(I:Am s.heap x dx C mA)
  (hs:PySem.W.findIn K (.ref C) "__setattr__" =some (some (.builtin "object.__setattr__")))(hp:PySem.W.plainOver K C=true)(ht:PySem.W.takerIn K C name=some none)(hh:PySem.W.hasDictIn K C=true)
  (hw:PySem.Within mA ns)(Wg:ns.length<=sizeLine)
  (h:∀h',Am h' x dx C (λy=>if y=name then some v else mA y)->Heap.SameBut dx s.heap h'->Q () {s with heap:=h',toks:=s.toks+2}):
  wpAny (model prog w) A (setAttr (.ref x) name v) Q E s:=by
 obtain⟨od,J,hl⟩:=I.look
 refine PySem.W.set_plain X J hs (PySem.W.osa_open (s:={s with toks:=s.toks+1}) (r:=none) X J hp ht λb=>?_)
 obtain⟨cd,hc,M5⟩:=PySem.W.any_some hh
 have hx:s.heap.get? x=some ⟨.ref C,some dx,.plain,#[]⟩:=I.obj
 refine wpAny_bind (wpAny_pure (wpAny_bind (wpAny_bind (wpAny_loadPart hx (wpAny_bind (PySem.W.Looks.here (s:={s with toks:=s.toks+1}) (PySem.W.looks_clsIn X hc) ?_))))))
 rw[M5]
 refine wpAny_pure (a:=some dx) (wpAny_bind (wpAny_pure (wpAny_bind ?_)))
 refine wpAny_nsSet1 (s:={s with toks:=s.toks+1}) I.ns λh' MP oZ=>?_
 obtain⟨oD,Wh,Wi,UQ,UR,US⟩:=MP.count (PySem.Within.cons name v hw)
 refine wpAny_bind (wpAny_lookBehind UQ (by rw[UR];exact pastItsLine_dict (Nat.le_trans US (by rw[List.length_cons];omega))) ?_)
 exact wpAny_pure (h _ ⟨(oZ.2 _ (Ne.symm I.ne)).trans I.obj,MP,I.ne⟩ oZ)
theorem D2{R:Result->Shared->Prop}{vs:List Value}{kw:List (Str×Value)}(X:K.In s.heap)(hm:PySem.W.makesIn K C=true)
  (hi:PySem.W.findIn K (.ref C) "__init__" =some (some (.ref f)))(hf:PySem.W.typeIn K (.ref f)=some (.type "function"))
  (h:codeAny (model prog w) (A.under (.builtin "type.__call__" ⟨.ref C::vs,kw⟩)) (.call (.ref f) ⟨.ref (s.heap.objs.size+1)::vs,kw⟩) (PySem.W.InitBack (s.heap.objs.size+1) R)
    {s with heap:=(s.heap.push PySem.W.emptyDict).push (PySem.W.instObj C s.heap.objs.size)}):
  codeAny (model prog w) A (.call (.ref C) ⟨vs,kw⟩) R s:=by
 obtain⟨hh,g,d,t,os⟩:=s
 exact PySem.W.make_core (PySem.W.makes_of X hm) (PySem.W.looks_findIn X hi) (λself=>PySem.W.bind_fn X self hf) (.inl rfl) h
end
noncomputable def kq(f:Str)(v:V):List (Str×V)->List (Str×V)
 |[]=>[(f,v)]
 |(g,x)::r=>if g=f then(g,v)::r else(g,x)::kq f v r
theorem pQ(f g:Str)(v:V):∀fs:List (Str×V),(kq f v fs).lookup g=if g=f then some v else fs.lookup g
 |[]=>by
  show List.lookup g [(f,v)]=_
  by_cases h:g=f
  ·have hb:(g==f)=true:=beq_iff_eq.mpr h
   simp only[List.lookup,hb,if_pos h]
  ·have hb:(g==f)=false:=beq_eq_false_iff_ne.mpr h
   simp only[List.lookup,hb,if_neg h]
 |(k,x)::r=>by
  have ih:=pQ f g v r
  rw[show kq f v ((k,x)::r)=(if k=f then(k,v)::r else(k,x)::kq f v r)from rfl]
  by_cases hk:k=f
  ·rw[if_pos hk]
   by_cases h:g=k
   ·have hb:(g==k)=true:=beq_iff_eq.mpr h
    simp only[List.lookup,hb,if_pos (h.trans hk)]
   ·have hb:(g==k)=false:=beq_eq_false_iff_ne.mpr h
    simp only[List.lookup,hb,if_neg (λe:g=f=>h (e.trans hk.symm))]
  ·rw[if_neg hk]
   by_cases h:g=k
   ·have hb:(g==k)=true:=beq_iff_eq.mpr h
    simp only[List.lookup,hb,if_neg (λe:g=f=>hk (h.symm.trans e))]
   ·have hb:(g==k)=false:=beq_eq_false_iff_ne.mpr h
    simp only[List.lookup,hb]
    exact ih
theorem o6(f:Str)(v:V):∀fs:List (Str×V),f∈(kq f v fs).map (·.1)/\∀g,g∈fs.map (·.1)->g∈(kq f v fs).map (·.1)
 |[]=>⟨by simp[kq],λg h=>by simp at h⟩
 |(k,x)::r=>by
  obtain⟨i1,i2⟩:=o6 f v r
  rw[show kq f v ((k,x)::r)=(if k=f then(k,v)::r else(k,x)::kq f v r)from rfl]
  by_cases hk:k=f
  ·rw[if_pos hk]
   subst hk
   exact⟨by simp,λg h=>by simpa using h⟩
  ·rw[if_neg hk]
   refine⟨?_,λg h=>?_⟩
   ·rw[List.map_cons]
    exact List.mem_cons_of_mem _ i1
   ·rw[List.map_cons]at h⊢
    rcases List.mem_cons.mp h with e|e
    ·exact List.mem_cons.mpr (.inl e)
    ·exact List.mem_cons_of_mem _ (i2 g e)
theorem pR(f:Str)(v:V):∀fs:List (Str×V),(kq f v fs).length<=fs.length+1
 |[]=>by simp[kq]
 |(k,x)::r=>by
  have ih:=pR f v r
  rw[show kq f v ((k,x)::r)=(if k=f then(k,v)::r else(k,x)::kq f v r)from rfl]
  by_cases hk:k=f
  ·rw[if_pos hk,List.length_cons,List.length_cons];omega
  ·rw[if_neg hk,List.length_cons,List.length_cons];omega
theorem tE.some_of{v:V}{o:Option Value}(r:tE (some v) o):∃u,o=some u/\RelV v u:=by
 cases o with
 |none=>exact(show False from r).elim
 |some u=>exact⟨u,rfl,r⟩
theorem tE.none_of{o:Option Value}(r:tE none o):o=none:=by
 cases o with
 |none=>rfl
 |some u=>exact(show False from r).elim
theorem CI{v:V}{u:Value}(r:RelV v u):PySem.W.handedIn u=true:=by
 cases v with
 |non=>cases(show u=Value.none from r);rfl
 |bl b=>cases(show u=Value.bool b from r);rfl
 |int i=>obtain⟨t,e⟩:=(show∃t,u=Value.int i t from r);cases e;rfl
 |str x=>obtain⟨t,e⟩:=(show∃t,u=Value.str x t from r);cases e;rfl
 |byt b=>obtain⟨t,e⟩:=(show∃t,u=Value.bytes b t from r);cases e;rfl
 |flt b=>obtain⟨t,e⟩:=(show∃t,u=Value.float b t from r);cases e;rfl
 |ref a=>cases(show u=Value.ref a from r);rfl
 |ty n=>cases(show u=Value.type n from r);rfl
section
variable{P:Program}{w:World}{H H':Hp}{h h':Heap}{a C dx:Addr}{fs GL:List (Str×V)}
theorem qC(eT:qz P w H h)(e:H a=some (.ins C dx fs)):∃mA,Am h a dx C mA/\(∀f,tE (fs.lookup f) (mA f))/\PySem.Within mA (fs.map (·.1))/\fs.length<=1000/\H dx=some (.own a):=by
 obtain⟨d,z,ne,ob,mA,n,r,q⟩:=(show eV P w H h a (.ins C dx fs)from eT a _ e)
 exact⟨mA,⟨ob,n,ne⟩,r,q,z,d⟩
end
structure tI(K:PySem.W.Frag)(C:Addr):Prop where
 pg:PySem.W.plainGet K C Str.empty=true
 hd:PySem.W.hasDictIn K C=true
 po:PySem.W.plainOver K C=true
 sa:PySem.W.findIn K (.ref C) "__setattr__" =some (some (.builtin "object.__setattr__"))
theorem tI.get{K:PySem.W.Frag}{C:Addr}(c:tI K C)(f:Str):PySem.W.plainGet K C f=true:=c.pg
noncomputable def dn(K:PySem.W.Frag)(C:Addr)(f:Str):Prop:=PySem.W.findIn K (.ref C) f=some none
theorem dn.Nt{K:PySem.W.Frag}{C:Addr}{f:Str}(n:dn K C f):PySem.W.takerIn K C f=some none:=by
 unfold PySem.W.takerIn
 rw[show PySem.W.findIn K (.ref C) f=some none from n]
 rfl
structure Meth(K:PySem.W.Frag)(C:Addr)(m:Str)(f:Addr):Prop where
 at_:PySem.W.findIn K (.ref C) m=some (some (.ref f))
 fn:PySem.W.isFn K (.ref f)=true
 kp:PySem.W.keepIn K (.ref f)=true
section
variable{X:Cx}{pins:List (Addr×Obj)}{σ:St}{H:Hp}{s:Shared}{a C dx:Addr}{fs:List (Str×V)}{f:Str}{v:V}{A:Around}{E:Value->Shared->Prop}
theorem qV{b:Bool}{Q:Value->Shared->Prop}(I:Inv X pins σ H s)(e:H a=some (.ins C dx fs))(c:tI X.K C)(n:dn X.K C f)(l:fs.lookup f=some v)
  (h:∀u s',Inv X pins σ H s'->RelV v u->Q u s'):wpAny (model X.prog X.w) A (getAttr (.ref a) f b) Q E s:=by
 obtain⟨mA,O,r,_,_,_⟩:=qC I.eT e
 obtain⟨u,hu,ru⟩:=tE.some_of (v:=v) (o:=mA f) (by rw[<-l];exact r f)
 exact get_map I.jC O (c.get f) c.hd n hu (CI ru) (h u _ (I.tok _) ru)
theorem jG{m:Str}{g:Addr}{pl:Sem Bool}{Q:Value×List Value->Shared->Prop}(I:Inv X pins σ H s)(e:H a=some (.ins C dx fs))(c:tI X.K C)(k:Meth X.K C m g)(l:fs.lookup m=none)
  (h:Q (.ref g,[.ref a]) s):wpAny (model X.prog X.w) A (getMethod (.ref a) m pl) Q E s:=by
 obtain⟨mA,O,r,_,_,_⟩:=qC I.eT e
 have hn:mA m=none:=tE.none_of (by rw[<-l];exact r m)
 exact D1 I.jC O (c.get m) k.at_ k.fn hn h
theorem qW{y:V}{u:Value}{Q:Unit->Shared->Prop}(I:Inv X pins σ H s)(e:H a=some (.ins C dx fs))(c:tI X.K C)(n:dn X.K C f)(hl:fs.length<1000)(ry:RelV y u)
  (h:∀s',Inv X pins σ (upd H a (.ins C dx (kq f y fs))) s'->Q () s'):wpAny (model X.prog X.w) A (setAttr (.ref a) f u) Q E s:=by
 obtain⟨mA,O,r,wi,_,ho⟩:=qC I.eT e
 have hz:(fs.map (·.1)).length<=sizeLine:=by rw[List.length_map,sizeLine_eq];omega
 refine G6 I.jC O c.sa c.po n.Nt c.hd wi hz λh' O' sb=>h _ ?_
 have hd:∃o,h'.get? dx=some o:=let⟨o,_,_,e',_⟩:=O'.ns;⟨o,e'⟩
 refine I.write (x:=a) (e:=dx) (by rw[e];exact True.intro) (.inr ho) (λb q hb z=>(sb.2 b hb).trans z) hd ?_
 refine⟨by rw[aJ O.ne];exact ho,?_,O.ne,O'.obj,_,O'.ns,λg=>?_,λg hg=>?_⟩
 ·have:=pR f y fs;omega
 ·show tE ((kq f y fs).lookup g) (if g=f then some u else mA g)
  rw[pQ]
  by_cases q:g=f
  ·rw[if_pos q,if_pos q];exact ry
  ·rw[if_neg q,if_neg q];exact r g
 ·by_cases q:g=f
  ·rw[q];exact(o6 f y fs).1
  ·refine(o6 f y fs).2 g (wi g λz=>hg ?_)
   show(if g=f then some u else mA g)=none
   rw[if_neg q];exact z
theorem Inv.made(I:Inv X pins σ H s):Inv X pins σ (upd (upd H s.heap.objs.size (.own (s.heap.objs.size+1))) (s.heap.objs.size+1) (.ins C s.heap.objs.size []))
  {s with heap:=(s.heap.push PySem.W.emptyDict).push (PySem.W.instObj C s.heap.objs.size)}:=by
 have e1:(s.heap.push PySem.W.emptyDict).get? s.heap.objs.size=some PySem.W.emptyDict:=Heap.get?_push_size s.heap rfl
 have e2:((s.heap.push PySem.W.emptyDict).push (PySem.W.instObj C s.heap.objs.size)).get? (s.heap.objs.size+1)=some (PySem.W.instObj C s.heap.objs.size):=by
  have:=Heap.get?_push_size (s.heap.push PySem.W.emptyDict) (o:=PySem.W.instObj C s.heap.objs.size) rfl
  rwa[Heap.size_push]at this
 have e3:(s.heap.push PySem.W.emptyDict).Ns s.heap.objs.size (λ_=>none):=⟨PySem.W.emptyDict,#[],_,e1,rfl,(λe he=>absurd he (by simp)),λ_=>rfl⟩
 have I1:=I.laid (a:=s.heap.objs.size) (o:=.own (s.heap.objs.size+1)) (h':=s.heap.push PySem.W.emptyDict) (t':=s.toks) (λb u q=>Heap.get?_push_of_some _ q) (Nat.le_refl _) ⟨_,e1⟩
 refine I1.laid (a:=s.heap.objs.size+1) (o:=.ins C s.heap.objs.size []) (t':=s.toks) (λb u q=>Heap.get?_push_of_some _ q) (Nat.le_of_eq (Heap.size_push _ _)) ?_
 have ne:s.heap.objs.size≠s.heap.objs.size+1:=Nat.ne_of_lt (Nat.lt_succ_self _)
 refine⟨by rw[aJ ne,aQ],Nat.zero_le _,ne,e2,λ_=>none,(Heap.Ns1.of_empty e3).at λo q=>Heap.get?_push_of_some _ q,λ_=>True.intro,λy hy=>absurd rfl hy⟩
theorem G7{prog:Program}{w:World}{env:Env}{e:Expr}{f:Str}{pos:Pos}{s:Shared}{Q:Value->Shared->Prop}(hb:attributeBase e f env (eval e env)=eval e env)
  (h:wpAny (model prog w) A (eval e env) (λo s₁=>wpAny (model prog w) A (getAttr o f true) Q E s₁) E s):wpAny (model prog w) A (eval (.Attribute e f pos) env) Q E s:=
 Attribute_any_ h (by rw[arm_eval_Attribute,hb])
end
noncomputable def Sa(K:PySem.W.Frag)(ta:TE)(f:Str):TE:=λσ H Q=>ta σ H λx H1=>∃a C dx fs v,x=.ref a/\H1 a=some (.ins C dx fs)/\tI K C/\dn K C f/\fs.lookup f=some v/\Q v H1
noncomputable def G8(K:PySem.W.Frag)(ta tv:TE)(f:Str):TS:=λD σ H=>tv σ H λy H1=>ta σ H1 λx H2=>∃a C dx fs,x=.ref a/\H2 a=some (.ins C dx fs)/\tI K C/\dn K C f/\fs.length<1000/\
 D.nx σ (upd H2 a (.ins C dx (kq f y fs)))
noncomputable def Nu(X:Cx)(op:Operator)(rd:V->V->Hp->VK->Prop):Prop:=
 ∀(pins:List (Addr×Obj)) (s:Shared) (σ:St) (H:Hp) (x y:V) (u v:Value) (Q:VK),Inv X pins σ H s->RelV x u->RelV y v->rd x y H Q->wpAny (model X.prog X.w) X.A (inplaceOp op u v) (EP X pins σ Q) X.xe s
noncomputable def G9(K:PySem.W.Frag)(ta tv:TE)(rd:V->V->Hp->VK->Prop)(f:Str):TS:=λD σ H=>ta σ H λx H1=>∃a C dx fs v,x=.ref a/\H1 a=some (.ins C dx fs)/\tI K C/\dn K C f/\fs.lookup f=some v/\
 tv σ H1 λy H2=>rd v y H2 λz H3=>∃Sb GL,H3 a=some (.ins C Sb GL)/\GL.length<1000/\D.nx σ (upd H3 a (.ins C Sb (kq f z GL)))
section
variable{X:Cx}{o e value:Expr}{f:Str}{pos pos' Sd:Pos}{ta tv:TE}
theorem K3(he:PE X e ta)(hb:attributeBase e f X.env (eval e X.env)=eval e X.env):PE X (.Attribute e f pos) (Sa X.K ta f):=by
 intro pins s σ H Q I h
 refine G7 hb (eh (he pins s σ H _ I h) λu s1 d7=>?_)
 obtain⟨x,H1,I1,rx,a,C,dx,fs,v,ex,ea,c,n,l,q⟩:=d7
 subst ex
 obtain rfl:u=Value.ref a:=rx
 exact qV I1 ea c n l λu' s2 I2 ru=>⟨v,H1,I2,ru,q⟩
theorem o7(ha:PE X o ta)(hv:PE X value tv)(hs:swapsWith value (some (.Attribute o f pos')) pos.line X.env=pure false):PS X (.Assign [.Attribute o f pos'] value pos) (G8 X.K ta tv f):=by
 intro pins s σ H D I h
 refine plainObj_wpAny_Assign_Attribute (eh (hv pins s σ H _ I h) λu s1 ⟨y,H1,I1,ry,q⟩=>eh (ha pins s1 σ H1 _ I1 q) λov s2 d7=>?_) hs
 obtain⟨x,H2,I2,rx,a,C,dx,fs,ex,ea,c,n,l,q2⟩:=d7
 subst ex
 obtain rfl:ov=Value.ref a:=rx
 exact qW I2 ea c n l ry λs3 I3=>⟨σ,_,I3,q2⟩
theorem CJ{op:Operator}{rd:V->V->Hp->VK->Prop}(ha:PE X o ta)(hv:PE X value tv)(UT:Nu X op rd):PS X (.AugAssign (.Attribute o f Sd) op value pos) (G9 X.K ta tv rd f):=by
 intro pins s σ H D I h
 refine wpAny_AugAssign_AttributeAny (eh (ha pins s σ H _ I h) λov s1 d7=>?_)
 obtain⟨x,H1,I1,rx,a,C,dx,fs,v,ex,ea,c,n,l,q⟩:=d7
 subst ex
 obtain rfl:ov=Value.ref a:=rx
 refine qV I1 ea c n l λu s2 I2 ru=>eh (hv pins s2 σ H1 _ I2 q) λw3 s3 ⟨y,H2,I3,ry,q3⟩=>eh (UT pins s3 σ H2 v y u w3 _ I3 ru ry q3) λw4 s4 d7=>?_
 obtain⟨z,H3,I4,rz,Sb,GL,UU,l',q4⟩:=d7
 exact qW I4 UU c n l' rz λs5 I5=>⟨σ,_,I5,q4⟩
noncomputable def Se:V->V->Hp->VK->Prop:=λx y H Q=>∃i j,x=.int i/\y=.int j/\Q (.int (i+j)) H
theorem K4:Nu X .Add Se:=by
 rintro pins s σ H x y u v Q I rx ry ⟨i,j,rfl,rfl,q⟩
 obtain⟨t,rfl⟩:=(show∃t,u=Value.int i t from rx)
 obtain⟨t',rfl⟩:=(show∃t',v=Value.int j t' from ry)
 exact PyProof.Rows.iadd_int ⟨.int (i+j),H,I.tok _,⟨_,rfl⟩,q⟩
end
section
variable{X:Cx}{pins:List (Addr×Obj)}{σ:St}{H:Hp}{s:Shared}{A:Around}{E:Value->Shared->Prop}{Q:Value->Shared->Prop}{c:Value}{b:Bool}
inductive qp(K:PySem.W.Frag)(H:Hp):V->Value->Prop where
 |non:qp K H .non (.type "NoneType")
 |bl (x:Bool):qp K H (.bl x) (.type "bool")
 |int (i:Int):qp K H (.int i) (.type "int")
 |str (x:Str):qp K H (.str x) (.type "str")
 |flt (x:UInt64):qp K H (.flt x) (.type "float")
 |lst {a:Addr} {xs:List V} (e:H a=some (.lst xs)):qp K H (.ref a) (.type "list")
 |frz {a:Addr} {o:Obj} {xs:List V} (e:H a=some (.frz o (.lst xs))):qp K H (.ref a) (.type "list")
 |tup {a:Addr} {xs:List V} (e:H a=some (.tup xs)):qp K H (.ref a) (.type "tuple")
 |dK {a:Addr} {cp:List (Key×V)} (e:H a=some (.dK cp)):qp K H (.ref a) (.type "dict")
 |dT {a:Addr} {cp:List (List Key×V)} (e:H a=some (.dT cp)):qp K H (.ref a) (.type "dict")
 |ins {a C dx:Addr} {fs:List (Str×V)} (e:H a=some (.ins C dx fs)) (cl:tI K C) (ha:PySem.W.findIn K (.ref C) "__class__" =some (some (.builtin "object.__class__")))
   (hn:PySem.W.specialIn K (.builtin "object.__class__") "__get__" =some (some (.builtin "getset_descriptor.__get__"))) (Q7:PySem.W.takesIn K (.builtin "object.__class__")=some true)
   (hm:PySem.W.mroIn K C (.type "object")=some true):qp K H (.ref a) (.ref C)
theorem CK{x:V}{u t:Value}(I:Inv X pins σ H s)(rx:RelV x u)(ty:qp X.K H x t)(e:PySem.W.kitOne X.K t c=some b)(h:∀tk,Q (.bool b) {s with toks:=tk}):
  wpAny (model X.prog X.w) A (call (.builtin "isinstance") [u,c]) Q E s:=by
 cases ty with
 |non=>cases(show u=Value.none from rx);exact PySem.W.kia_one PySem.W.kitx_none I.jC True.intro e (λz=>nomatch z) h
 |bl y=>cases(show u=Value.bool y from rx);exact PySem.W.kia_one PySem.W.kitx_bool I.jC True.intro e (λz=>nomatch z) h
 |int i=>obtain⟨t,q⟩:=(show∃t,u=Value.int i t from rx);cases q;exact PySem.W.kia_one PySem.W.kitx_int I.jC True.intro e (λz=>nomatch z) h
 |str y=>obtain⟨t,q⟩:=(show∃t,u=Value.str y t from rx);cases q;exact PySem.W.kia_one PySem.W.kitx_str I.jC True.intro e (λz=>nomatch z) h
 |flt y=>obtain⟨t,q⟩:=(show∃t,u=Value.float y t from rx);cases q;exact PySem.W.kia_one PySem.W.kitx_float I.jC True.intro e (λz=>nomatch z) h
 |@lst a xs ea=>
  cases(show u=Value.ref a from rx)
  obtain⟨_,_,n,_,h1⟩:=(show eV X.prog X.w H s.heap a (.lst xs)from I.eT a _ ea)
  exact PySem.W.kia_one PySem.W.kitx_list I.jC ⟨_,h1,rfl⟩ e (λz=>nomatch z) h
 |@frz a ob xs ea=>
  cases(show u=Value.ref a from rx)
  obtain⟨_,_,_,n,_,h1⟩:=(show eV X.prog X.w H s.heap a (.frz ob (.lst xs))from I.eT a _ ea)
  exact PySem.W.kia_one PySem.W.kitx_list I.jC ⟨_,h1,rfl⟩ e (λz=>nomatch z) h
 |@tup a xs ea=>
  cases(show u=Value.ref a from rx)
  obtain⟨_,_,_,p⟩:=(show eV X.prog X.w H s.heap a (.tup xs)from I.eT a _ ea)
  obtain⟨o,h1,h2,_⟩:=p
  exact PySem.W.kia_one PySem.W.kitx_tuple I.jC ⟨o,h1,h2⟩ e (λz=>nomatch z) h
 |@dK a cp ea=>
  cases(show u=Value.ref a from rx)
  obtain⟨_,_,vs,_,p⟩:=(show eV X.prog X.w H s.heap a (.dK cp)from I.eT a _ ea)
  obtain⟨o,es,ep,h1,h2,_⟩:=p
  exact PySem.W.kia_one PySem.W.kitx_dict I.jC ⟨o,h1,h2.1⟩ e (λz=>nomatch z) h
 |@dT a cp ea=>
  cases(show u=Value.ref a from rx)
  obtain⟨_,_,xs,_,o,es,ep,h1,h2,_⟩:=(show eV X.prog X.w H s.heap a (.dT cp)from I.eT a _ ea)
  exact PySem.W.kia_one PySem.W.kitx_dict I.jC ⟨o,h1,h2.1⟩ e (λz=>nomatch z) h
 |@ins a C dx fs ea cl ha hn Q7 hm=>
  cases(show u=Value.ref a from rx)
  obtain⟨mA,O,_⟩:=qC I.eT ea
  obtain⟨od,J,_⟩:=O.look
  exact PySem.W.kia_one (PySem.W.kitx_own (cl.get _) cl.hd ha hn Q7 hm) I.jC J e (λz=>nomatch z) h
end
structure cT(k:Nat)(A:Around):Prop where
 hd:A.handled=none
 dp:A.depth+3*k+5<recursionLimit
 un:A.units+16*k+200<cLine
theorem cT.mono{j k:Nat}{A:Around}(r:cT k A)(h:j<=k):cT j A:=⟨r.hd,by have:=r.dp;omega,by have:=r.un;omega⟩
theorem cT.deeper{k:Nat}{A:Around}(r:cT (k+1) A)(env:Env):cT k (A.deeper env):=
 ⟨r.hd,by have:=r.dp;show A.depth+1+3*k+5<_;omega,by have:=r.un;show A.units+3+16*k+200<_;omega⟩
theorem An{A:Around}{C:Addr}{us:List Value}{kw:List (Str×Value)}:(A.under (.builtin "type.__call__" ⟨.ref C::us,kw⟩)).depth=A.depth+1:=by
 first|rfl|simp[Around.under,Code.weight,Code.isCreation,Code.isGuard,Code.isCaller,Code.frames,Code.isFrame,guardIds]
theorem Ao{A:Around}{C:Addr}{us:List Value}{kw:List (Str×Value)}:(A.under (.builtin "type.__call__" ⟨.ref C::us,kw⟩)).units=A.units+1:=by
 first|rfl|simp[Around.under,Code.cUnits,Code.frames,Code.isFrame]
theorem cT.make{k:Nat}{A:Around}(r:cT (k+1) A)(C:Addr)(us:List Value)(kw:List (Str×Value)):cT k (A.under (.builtin "type.__call__" ⟨.ref C::us,kw⟩)):=
 ⟨r.hd,by have:=r.dp;rw[An];omega,by have:=r.un;rw[Ao];omega⟩
theorem cT.depth{k:Nat}{A:Around}(r:cT k A):A.depth<recursionLimit:=by have:=r.dp;omega
theorem cT.units{k:Nat}{A:Around}(r:cT k A):A.units+64<cLine:=by have:=r.un;omega
noncomputable def vG:TA:=λ_ H Q=>Q [] H
noncomputable def kr(ta:TE)(tr:TA):TA:=λσ H Q=>ta σ H λx H1=>tr σ H1 λxs H2=>Q (x::xs) H2
section
variable{X:Cx}{e:Expr}{es:List Expr}{te:TE}{t:TA}{pos:Pos}
theorem cu:PA X [] vG:=λ_ _ _ _ H Q I h=>Calls.spliced_nil ⟨[],H,I,.nil,h⟩
theorem aU(ha:PE X e te)(hr:PA X es t)(hs:starEach (e::es) X.env=(false,eval e X.env)::starEach es X.env:=by rfl):PA X (e::es) (kr te t):=by
 intro pos pins s σ H Q I h
 rw[hs]
 show wpAny _ _ (spliced ((false,eval e X.env)::backTo pos (starEach es X.env))) _ _ s
 refine Calls.spliced_cons (eh (ha pins s σ H _ I h) λu s1 d7=>?_)
 obtain⟨x,H1,I1,r1,q1⟩:=d7
 exact eh (hr pos pins s1 σ H1 _ I1 q1) λus s2 ⟨xs,H2,I2,r2,q2⟩=>⟨x::xs,H2,I2,.cons r1 r2,q2⟩
noncomputable def Sf(t:TA):TE:=λσ H Q=>t σ H λxs H1=>xs.length<=sizeLine/\∀p,H1 p=none->Q (.ref p) (upd H1 p (.tup xs))
noncomputable def Sg(t:TA):TE:=λσ H Q=>t σ H λxs H1=>xs.length<=sizeLine/\∀p,H1 p=none->Q (.ref p) (upd H1 p (.lst xs))
theorem K5{x1}(h:PA X es t):PE X (.Tuple es x1 pos) (Sf t):=by
 intro pins s σ H Q I hq
 refine wpAny_Tuple_spliced (eh (h pos pins s σ H _ I hq) λus s1 ⟨xs,H1,I1,r,z,q⟩=>⟨by rw[<-r.length];exact z,?_⟩)
 have hf:H1 s1.heap.objs.size=none:=I1.eT.fresh (Nat.le_refl _)
 refine⟨.ref s1.heap.objs.size,upd H1 s1.heap.objs.size (.tup xs),I1.laid (t':=s1.toks) (λb u e=>Heap.get?_push_of_some _ e) (Nat.le_refl _) ?_,rfl,q _ hf⟩
 exact⟨⟨z,M3.new⟩,us,r,⟨_,Heap.get?_push_size _ rfl,rfl,_,rfl⟩⟩
theorem D3(h:PA X es t):PE X (.List es pos) (Sg t):=by
 intro pins s σ H Q I hq
 refine wpAny_List_spliced (eh (h pos pins s σ H _ I hq) λus s1 ⟨xs,H1,I1,r,z,q⟩=>⟨by rw[<-r.length];exact z,?_⟩)
 have hf:H1 s1.heap.objs.size=none:=I1.eT.fresh (Nat.le_refl _)
 refine⟨.ref s1.heap.objs.size,upd H1 s1.heap.objs.size (.lst xs),I1.laid (t':=s1.toks) (λb u e=>Heap.get?_push_of_some _ e) (Nat.le_refl _) ?_,rfl,q _ hf⟩
 exact⟨z,us,0,r,Heap.get?_push_size _ rfl⟩
end
noncomputable abbrev Sp:=List V->Hp->VK->XK->Prop
noncomputable abbrev GO:=List Env->Hp->Shared->XK->Value->Shared->Prop
structure Ap(P:Program)(w:World)(K:PySem.W.Frag)(mg:Str->Option Value)(base:Heap)(A:Around)(outer:List Env)(s:Shared)(H:Hp):Prop where
 frames:A.frames=some outer
 mod:Mod K mg base
 bs:∀b o,base.get? b=some o->s.heap.get? b=some o/\H b=none
 bsz:base.objs.size<=s.heap.objs.size
 funs:s.heap.FunFrames base outer
 frf:∀b∈CD outer,H b=none
 eT:qz P w H s.heap
 bare:AllBare s.gens
noncomputable def CE(outer:List Env)(P:Program)(w:World)(H:Hp)(s:Shared)(Q:VK)(u:Value)(s':Shared):Prop:=
 ∃v H',s'.os=s.os/\AllBare s'.gens/\Un (CD outer) [] H H' s.heap s'.heap/\qz P w H' s'.heap/\RelV v u/\Q v H'
noncomputable def CR(CX:GO)(outer:List Env)(P:Program)(w:World)(H:Hp)(s:Shared)(Q:VK)(E:XK)(r:Result)(s':Shared):Prop:=
 match r with
 |.ok (.ret u)=>CE outer P w H s Q u s'
 |.ok _=>False
 |.error e=>CX outer H s E e s'
structure aL(P:Program)(w:World)(K:PySem.W.Frag)(mg:Str->Option Value)(base:Heap)(CX:GO)(k:Nat)(f:Addr)(fd:FuncData)(ps:List Str)(sp:Sp):Prop where
 len:∀vs H Q E,sp vs H Q E->vs.length=ps.length
 run:∀(A:Around) (outer:List Env) (s:Shared) (H:Hp) (args:Args) (us:List Value) (vs:List V) (Q:VK) (E:XK),cT k A->Ap P w K mg base A outer s H->BindsTo s fd args (ps.zip us)->Vals vs us->sp vs H Q E->
  codeAny (model P w) A (.call (.ref f) args) (CR CX outer P w H s Q E) s
theorem aL.mono{P:Program}{w:World}{K:PySem.W.Frag}{mg:Str->Option Value}{base:Heap}{CX:GO}{j k:Nat}{f:Addr}{fd:FuncData}{ps:List Str}{sp:Sp}(F:aL P w K mg base CX j f fd ps sp)(h:j<=k):
 aL P w K mg base CX k f fd ps sp:=⟨F.len,λA outer s H args us vs Q E hr=>F.run A outer s H args us vs Q E (hr.mono h)⟩
theorem Ap.make{P:Program}{w:World}{K:PySem.W.Frag}{mg:Str->Option Value}{base:Heap}{A:Around}{outer:List Env}{s:Shared}{H:Hp}(e:Ap P w K mg base A outer s H)(C:Addr)(us:List Value)(kw:List (Str×Value)):
 Ap P w K mg base (A.under (.builtin "type.__call__" ⟨.ref C::us,kw⟩)) outer s H:=⟨by first|exact e.frames|(simpa[Around.under,Code.envs,Code.isFrame,pushEnvs]using e.frames),e.mod,e.bs,e.bsz,e.funs,e.frf,e.eT,e.bare⟩
section
variable{X:Cx}{pins:List (Addr×Obj)}{σ:St}{H:Hp}{s s':Shared}
theorem Inv.Nv(I:Inv X pins σ H s):Ap X.prog X.w X.K X.mg X.base X.A X.stack s H:=
 ⟨I.ok.frames,I.ok.mod,I.bs,Nat.le_trans I.ok.bsz I.sz,I.stack,I.Bv,I.eT,I.bare⟩
theorem Inv.after{Q:VK}{u:Value}(I:Inv X pins σ H s)(h:CE X.stack X.prog X.w H s Q u s'):EP X pins σ Q u s':=by
 obtain⟨v,H',os,bare,un,eT,r,q⟩:=h
 obtain⟨hh,g,d,t,UW⟩:=s'
 obtain rfl:UW=s.os:=os
 exact⟨v,H',I.call (h':=hh) (g':=g) (d':=d) (t':=t) (ch:=[]) un eT bare (λb z=>absurd z (by simp)),r,q⟩
end
noncomputable def BD(sp:Sp)(dvs:List V)(E:XK)(t:TA):TE:=λσ H Q=>t σ H λvs H1=>sp (vs++dvs) H1 Q E
noncomputable def Jm(C:Addr)(m:Str)(sp:Sp)(dvs:List V)(E:XK)(ta:TE)(t:TA):TE:=λσ H Q=>ta σ H λx H1=>∃a dx fs,x=.ref a/\H1 a=some (.ins C dx fs)/\fs.lookup m=none/\
 t σ H1 λvs H2=>sp (x::(vs++dvs)) H2 Q E
noncomputable def Jo(C:Addr)(sp:Sp)(dvs:List V)(E:XK)(t:TA):TE:=λσ H Q=>t σ H λvs H1=>∀x dx,H1 x=none->H1 dx=none->dx≠x->
 sp (.ref x::(vs++dvs)) (upd (upd H1 dx (.own x)) x (.ins C dx [])) (λv H2=>v=.non/\Q (.ref x) H2) E
noncomputable def Binds(K:PySem.W.Frag)(fd:FuncData)(ps:List Str)(ds:List Value):Prop:=
 ∀(s:Shared) (us:List Value),K.In s.heap->(us++ds).length=ps.length->BindsTo s fd ⟨us,[]⟩ (ps.zip (us++ds))
theorem Binds.all{K:PySem.W.Frag}{fd:FuncData}{ps:List Str}(h:∀us:List Value,us.length=ps.length->bindArgs fd ⟨us,[]⟩=pure (ps.zip us)):Binds K fd ps []:=λs us _ hl=>by
 rw[List.append_nil]at hl⊢
 exact .of_eq (h us hl)
noncomputable def Passes(CX:GO)(X:Cx)(E:XK):Prop:=∀(pins:List (Addr×Obj)) (σ:St) (H:Hp) (s:Shared) (e:Value) (s':Shared),Inv X pins σ H s->CX X.stack H s E e s'->X.xe e s'
section
variable{X:Cx}{CX:GO}{k:Nat}{f C:Addr}{fd:FuncData}{ps:List Str}{sp:Sp}{dvs:List V}{ds:List Value}{E:XK}{x m:Str}{p pos apos:Pos}{e o:Expr}{es:List Expr}{ta:TE}{t:TA}
theorem o8{pins:List (Addr×Obj)}{σ:St}{H:Hp}{s:Shared}{Q:VK}{us:List Value}{vs:List V}(F:aL X.prog X.w X.K X.mg X.base CX k f fd ps sp)(hr:cT k X.A)(hb:Binds X.K fd ps ds)(hd:Vals dvs ds)(hx:Passes CX X E)
  (I:Inv X pins σ H s)(r:Vals vs us)(h:sp (vs++dvs) H Q E):wpAny (model X.prog X.w) X.A (call (.ref f) us) (EP X pins σ Q) X.xe s:=by
 have r2:Vals (vs++dvs) (us++ds):=r.append hd
 have hl:(us++ds).length=ps.length:=by rw[<-r2.length];exact F.len _ _ _ _ h
 refine wpAny_call (codeAny_mono (F.run X.A X.stack s H ⟨us,[]⟩ (us++ds) (vs++dvs) Q E hr I.Nv (hb s us I.jC hl) r2 h) λr s' hq=>?_)
 cases r with
 |error e=>exact hx pins σ H s e s' I hq
 |ok fl=>
  cases fl with
  |ret u=>exact I.after hq
  |next=>exact False.elim hq
  |brk=>exact False.elim hq
  |cont=>exact False.elim hq
theorem vH(F:aL X.prog X.w X.K X.mg X.base CX k f fd ps sp)(hr:cT k X.A)(hg:Gl X x)(hm:X.mg x=some (.ref f))(hk:PySem.W.keepIn X.K (.ref f)=true)(hb:Binds X.K fd ps ds)(hd:Vals dvs ds)(hx:Passes CX X E)
  (ha:PA X (e::es) t)(qq:(x==("__debug__" :Str))=false:=by decide)(he:starEach (e::es) X.env=(false,eval e X.env)::starEach es X.env:=by rfl)(hpl:(backTo pos (starEach es X.env)).any (·.1)=false:=by rfl):
  PE X (.Call (.Name x p) (e::es) [] pos) (BD sp dvs E t):=by
 intro pins s σ H Q I h
 refine wpAny_Call_Name_kw (qB I hg hm ?_ qq)
 refine PySem.W.callWith_K (h₀:=X.base) I.ok.mod.kin hk (eh (ha pos pins s σ H _ I h) λus s1 ⟨vs,H1,I1,r,q⟩=>⟨I1.jC,?_⟩) he hpl
 exact o8 F hr hb hd hx I1 r q
theorem Ha{pl:Sem Bool}(he:PE X o ta)(c:tI X.K C)(hm:Meth X.K C m f)(F:aL X.prog X.w X.K X.mg X.base CX k f fd ps sp)(hr:cT k X.A)(hb:Binds X.K fd ps ds)(hd:Vals dvs ds)(hx:Passes CX X E)(ha:PA X (e::es) t)
  (oV:starEach (e::es) X.env=(false,eval e X.env)::starEach es X.env:=by rfl)(hpl:(backTo pos (starEach es X.env)).any (·.1)=false:=by rfl)
  (ht:eval (.Call (.Attribute o m apos) (e::es) [] pos) X.env=(do
    let ov<-eval o X.env
    standAt apos.atName
    let(f,first)<-holding [ov] (getMethod ov m pl)
    callWith pos f first (backTo pos (starEach (e::es) X.env)) (backToKw pos (keywordEach [] X.env))):=by rfl):
  PE X (.Call (.Attribute o m apos) (e::es) [] pos) (Jm C m sp dvs E ta t):=by
 intro pins s σ H Q I h
 refine PySem.W.methodCall_KW (pl:=pl) (eh (he pins s σ H _ I h) λu s1 d7=>?_) ht
 obtain⟨x,H1,I1,rx,a,dx,fs,ex,ea,l,q⟩:=d7
 subst ex
 obtain rfl:u=Value.ref a:=rx
 refine jG I1 ea c hm l ?_
 refine PySem.W.callWith_K (first:=[.ref a]) (h₀:=X.base) I.ok.mod.kin hm.kp (eh (ha pos pins s1 σ H1 _ I1 q) λus s2 ⟨vs,H2,I2,r,q2⟩=>⟨I2.jC,?_⟩) oV hpl
 exact o8 (us:=.ref a::us) (vs:=.ref a::vs) F hr hb hd hx I2 (.cons rfl r) q2
theorem qX{pl:Sem Bool}(he:PE X o ta)(c:tI X.K C)(hm:Meth X.K C m f)(F:aL X.prog X.w X.K X.mg X.base CX k f fd ps sp)(hr:cT k X.A)(hb:Binds X.K fd ps ds)(hd:Vals dvs ds)(hx:Passes CX X E)
  (ht:eval (.Call (.Attribute o m apos) [] [] pos) X.env=(do
    let ov<-eval o X.env
    standAt apos.atName
    let(f,first)<-holding [ov] (getMethod ov m pl)
    callWith pos f first (backTo pos (starEach [] X.env)) (backToKw pos (keywordEach [] X.env))):=by rfl):
  PE X (.Call (.Attribute o m apos) [] [] pos) (Jm C m sp dvs E ta vG):=by
 intro pins s σ H Q I h
 refine PySem.W.methodCall_KW (pl:=pl) (eh (he pins s σ H _ I h) λu s1 d7=>?_) ht
 obtain⟨x,H1,I1,rx,a,dx,fs,ex,ea,l,q⟩:=d7
 subst ex
 obtain rfl:u=Value.ref a:=rx
 refine jG I1 ea c hm l ?_
 exact PySem.W.callWith_K0 (first:=[.ref a]) I1.jC hm.kp (o8 (us:=[.ref a]) (vs:=[.ref a]) F hr hb hd hx I1 (.cons rfl .nil) q)
structure Mk(K:PySem.W.Frag)(C f:Addr):Prop where
 makes:PySem.W.makesIn K C=true
 init:PySem.W.findIn K (.ref C) "__init__" =some (some (.ref f))
 fn:PySem.W.isFn K (.ref f)=true
 kp:PySem.W.keepIn K (.ref C)=true
theorem D4{pins:List (Addr×Obj)}{σ:St}{H:Hp}{s:Shared}{Q:VK}{us:List Value}{vs:List V}(M:Mk X.K C f)(F:aL X.prog X.w X.K X.mg X.base CX k f fd ps sp)(hr:cT (k+1) X.A)(hb:Binds X.K fd ps ds)(hd:Vals dvs ds)
  (hx:Passes CX X E)(I:Inv X pins σ H s)(r:Vals vs us)
  (h:∀x dx,H x=none->H dx=none->dx≠x->sp (.ref x::(vs++dvs)) (upd (upd H dx (.own x)) x (.ins C dx [])) (λv H2=>v=.non/\Q (.ref x) H2) E):
  wpAny (model X.prog X.w) X.A (call (.ref C) us) (EP X pins σ Q) X.xe s:=by
 have hq:=h (s.heap.objs.size+1) s.heap.objs.size (I.eT.fresh (Nat.le_succ _)) (I.eT.fresh (Nat.le_refl _)) (Nat.ne_of_lt (Nat.lt_succ_self _))
 have I2:=Inv.made (C:=C) I
 have r2:Vals (V.ref (s.heap.objs.size+1)::(vs++dvs)) (Value.ref (s.heap.objs.size+1)::(us++ds)):=.cons rfl (r.append hd)
 have hl:(Value.ref (s.heap.objs.size+1)::us++ds).length=ps.length:=by
  have e:=r2.length
  rw[F.len _ _ _ _ hq]at e
  exact e.symm
 refine wpAny_call (D2 (f:=f) I.jC M.makes M.init (beq_iff_eq.mp M.fn) (codeAny_mono (F.run _ X.stack _ _ ⟨Value.ref (s.heap.objs.size+1)::us,[]⟩ (Value.ref (s.heap.objs.size+1)::(us++ds)) _ _ E (hr.make C us [])
  (I2.Nv.make C us []) (hb _ (Value.ref (s.heap.objs.size+1)::us) I2.jC hl) r2 hq) λr s' Nw=>?_))
 cases r with
 |error e=>exact hx pins σ _ _ e s' I2 Nw
 |ok fl=>
  cases fl with
  |ret u=>
   obtain⟨v,H',I3,rv,ev,q3⟩:=I2.after Nw
   subst ev
   exact⟨rv,⟨V.ref (s.heap.objs.size+1),H',I3,rfl,q3⟩⟩
  |next=>exact False.elim Nw
  |brk=>exact False.elim Nw
  |cont=>exact False.elim Nw
theorem nS(M:Mk X.K C f)(F:aL X.prog X.w X.K X.mg X.base CX k f fd ps sp)(hr:cT (k+1) X.A)(hg:Gl X x)(hm:X.mg x=some (.ref C))(hb:Binds X.K fd ps ds)(hd:Vals dvs ds)(hx:Passes CX X E)
  (ha:PA X (e::es) t)(qq:(x==("__debug__" :Str))=false:=by decide)(he:starEach (e::es) X.env=(false,eval e X.env)::starEach es X.env:=by rfl)(hpl:(backTo pos (starEach es X.env)).any (·.1)=false:=by rfl):
  PE X (.Call (.Name x p) (e::es) [] pos) (Jo C sp dvs E t):=by
 intro pins s σ H Q I h
 refine wpAny_Call_Name_kw (qB I hg hm ?_ qq)
 refine PySem.W.callWith_K (h₀:=X.base) I.ok.mod.kin M.kp (eh (ha pos pins s σ H _ I h) λus s1 ⟨vs,H1,I1,r,q⟩=>⟨I1.jC,?_⟩) he hpl
 exact D4 M F hr hb hd hx I1 r q
end
structure aN(N P:List Str)(sc:Scope):Prop where
 kind:sc.kind=.function
 co:sc.isCoroutine=false
 gen:sc.isGenerator=false
 nd:N.Nodup
 pre:N.take P.length=P
 par:∀x∈P,sc.names.lookup x=some .local\/sc.names.lookup x=some .cell
 nofree:∀y∈sc.names,y.2≠.free
theorem uX{kindOf:Str->Option NameKind}{x:Str}:∀{binds:List (Str×Value)} {m:Str->Option Value},(∀v,(x,v)∉binds)->bindL kindOf binds m x=m x
 |[],_,_=>rfl
 |(n,v)::r,m,h=>by
  unfold bindL
  rw[uX λw hw=>h w (List.mem_cons_of_mem _ hw)]
  split
  ·have:x≠n:=by rintro rfl;exact h v List.mem_cons_self
   simp[this]
  ·rfl
theorem uY{kindOf:Str->Option NameKind}{x:Str}:∀{binds:List (Str×Value)} {m:Str->Option Value},(∀v,(x,v)∉binds)->bindC kindOf binds m x=m x
 |[],_,_=>rfl
 |(n,v)::r,m,h=>by
  unfold bindC
  rw[uY λw hw=>h w (List.mem_cons_of_mem _ hw)]
  split
  ·rfl
  ·have:x≠n:=by rintro rfl;exact h v List.mem_cons_self
   simp[this]
theorem uZ{kindOf:Str->Option NameKind}{x:Str}{v:Value}:∀{P:List Str} {vs:List Value} {i:Nat} {m:Str->Option Value},P.Nodup->P[i]?=some x->vs[i]?=some v->kindOf x=some .local->
  bindL kindOf (P.zip vs) m x=some v
 |[],_,_,_,_,h,_,_=>by simp at h
 |_::_,[],_,_,_,_,h,_=>by simp at h
 |p::P,w::vs,0,m,nd,h1,h2,hk=>by
  simp at h1 h2;subst h1;subst h2
  show bindL kindOf ((p,w)::P.zip vs) m p=_
  unfold bindL
  rw[uX λv hv=>(List.nodup_cons.mp nd).1 (List.of_mem_zip hv).1,if_pos hk]
  simp
 |p::P,w::vs,i+1,m,nd,h1,h2,hk=>by
  show bindL kindOf ((p,w)::P.zip vs) m x=_
  unfold bindL
  exact uZ (i:=i) (List.nodup_cons.mp nd).2 (by simpa using h1) (by simpa using h2) hk
theorem u0{kindOf:Str->Option NameKind}{x:Str}{v:Value}:∀{P:List Str} {vs:List Value} {i:Nat} {m:Str->Option Value},P.Nodup->P[i]?=some x->vs[i]?=some v->kindOf x≠some .local->
  bindC kindOf (P.zip vs) m x=some v
 |[],_,_,_,_,h,_,_=>by simp at h
 |_::_,[],_,_,_,_,h,_=>by simp at h
 |p::P,w::vs,0,m,nd,h1,h2,hk=>by
  simp at h1 h2;subst h1;subst h2
  show bindC kindOf ((p,w)::P.zip vs) m p=_
  unfold bindC
  rw[uY λv hv=>(List.nodup_cons.mp nd).1 (List.of_mem_zip hv).1,if_neg hk]
  simp
 |p::P,w::vs,i+1,m,nd,h1,h2,hk=>by
  show bindC kindOf ((p,w)::P.zip vs) m x=_
  unfold bindC
  exact u0 (i:=i) (List.nodup_cons.mp nd).2 (by simpa using h1) (by simpa using h2) hk
noncomputable def start(N:List Str)(vs:List V):St:=vs.map some++List.replicate (N.length-vs.length) none
noncomputable def vI(CX:GO)(P:Program)(w:World)(K:PySem.W.Frag)(mg:Str->Option Value)(base:Heap)(N:List Str)(qual:Str)(scope:Scope)(f:Addr)(cd:Value)(A:Around)(outer:List Env)(s:Shared)(H:Hp)(E:XK):Cx where
 prog:=P
 w:=w
 K:=K
 mg:=mg
 base:=base
 A:=A.deeper (envOfC qual scope s.heap.objs.size f cd)
 N:=N
 s₀:=s
 H₀:=H
 env:=envOfC qual scope s.heap.objs.size f cd
 outer:=outer
 stack:=envOfC qual scope s.heap.objs.size f cd::outer
 ex:=[]
 calm:=true
 fn:=λ_=>true
 pn:=[]
 xe:=λe s'=>wpAny (model P w) (A.deeper (envOfC qual scope s.heap.objs.size f cd)) (leaving (envOfC qual scope s.heap.objs.size f cd) e) (λ_ Nx=>CX outer H s E e Nx) (λe' Nx=>CX outer H s E e' Nx) s'
theorem xY{sc:Scope}{n:Nat}{x:Str}(h:sc.names.lookup x=some .cell):∃c,(cellsFrom n sc.names []).lookup x=some c:=by
 have q:=PySem.W.cellsFrom_some sc.names n [] (.inl h)
 exact Option.isSome_iff_exists.mp q
theorem CL{CX:GO}{P:Program}{w:World}{K:PySem.W.Frag}{mg:Str->Option Value}{base:Heap}{N ps:List Str}{qual:Str}{scope:Scope}{f:Addr}{cd:Value}{A:Around}{outer:List Env}{s s1:Shared}{H:Hp}{E:XK}{us:List Value}{vs:List V}
  (S:aN N ps scope)(hd:A.handled=none)(e0:Ap P w K mg base A outer s H)(hl:vs.length=ps.length)(r:Vals vs us)
  (x:InCallC s s.heap.objs.size (bindL (envOfC qual scope s.heap.objs.size f cd).kindOf (ps.zip us) λ_=>none) (cellsFrom (s.heap.objs.size+1) scope.names []) (bindC (envOfC qual scope s.heap.objs.size f cd).kindOf (ps.zip us) λ_=>none) s1):
  Inv (vI CX P w K mg base N qual scope f cd A outer s H E) [] (start N vs) H s1:=by
 have hpl:ps.length<=N.length:=by have:=congrArg List.length S.pre;rw[List.length_take]at this;omega
 obtain⟨h1,tk,rfl,hk⟩:=x.done
 have Ny:∀b:Addr,b∉(vI CX P w K mg base N qual scope f cd A outer s H E).ex:=λb z=>absurd (show b∈([]:List Addr)from z) (by simp)
 refine⟨⟨e0.mod,S.kind,rfl,rfl,Nat.le_refl _,λy z c h1 h2=>?_,λy hy=>?_,λy c _ h=>?_,λ_=>hd,Around.frames_deeper e0.frames,.inr ⟨rfl,rfl⟩,λb z=>absurd z (Ny b),e0.bs,e0.bsz,λb _ _=>Ny b,λb z=>absurd z (Ny b),e0.funs,e0.frf⟩,
  rfl,e0.bare,Un.kept hk,⟨_,x.toInCall.ns,λi y v h1 h2 h3=>?_⟩,λy c h=>⟨_,x.cell y c h⟩,e0.eT.fresh (Nat.le_refl _),λy c h=>?_,λp hp=>absurd (show p∈([]:List (Addr×Obj))from hp) (by simp),e0.eT.kept hk,?_⟩
 ·exact name_of_addr x.apart (PySem.mem_of_lookup h1) (PySem.mem_of_lookup h2)
 ·have hy:scope.names.lookup y=some .cell\/scope.names.lookup y=some .free:=hy
  rcases hy with hy|hy
  ·exact xY hy
  ·exact absurd rfl (S.nofree _ (PySem.mem_of_lookup hy))
 ·exact Nat.le_of_lt (x.above y c (PySem.mem_of_lookup h))
 ·have hi:i<vs.length:=by
    unfold start at h2
    by_cases hi:i<vs.length
    ·exact hi
    ·rw[List.getElem?_append_right (by simpa using hi)]at h2
     rw[List.getElem?_replicate]at h2
     split at h2<;>cases h2
  have ha:vs[i]?=some v:=by
   unfold start at h2
   rw[List.getElem?_append_left (by simpa using hi),List.getElem?_map]at h2
   cases e:vs[i]? with
   |none=>rw[e]at h2;cases h2
   |some a=>rw[e]at h2;cases h2;rfl
  obtain⟨u,hu,rv⟩:=r.get ha
  have hp:ps[i]?=some y:=by
   rw[<-S.pre,List.getElem?_take_of_lt (by omega)];exact h1
  have TU:ps.Nodup:=by rw[<-S.pre];exact S.nd.sublist (List.take_sublist _ _)
  refine⟨u,rv,?_⟩
  rcases S.par y (List.mem_of_getElem? hp)with k|k
  ·exact .inl ⟨k,uZ TU hp hu k⟩
  ·obtain⟨c,e⟩:=xY (n:=s.heap.objs.size+1) k
   refine .inr ⟨.inl k,c,e,?_⟩
   have q:=x.cell y c e
   rw[u0 TU hp hu (by show scope.names.lookup y≠_;rw[k];decide)]at q
   exact q
 ·exact e0.eT.fresh (Nat.le_of_lt (x.above y c (PySem.mem_of_lookup h)))
 ·unfold start
  show _=N.length
  rw[List.length_append,List.length_map,List.length_replicate]
  omega
theorem Nz{CX:GO}{P:Program}{w:World}{K:PySem.W.Frag}{mg:Str->Option Value}{base:Heap}{k:Nat}{f:Addr}{name qual:Str}{params:Arguments}{body:List Stmt}{scope:Scope}{dV kV doc pm dY ct oc:Value}{an od:Option Addr}
  {Jp:Array (Option Value)}{N ps:List Str}{sp:Sp}(lk:K.lookup f=some ⟨oc,od,.func (PySem.W.fnOf name qual params body scope dV kV doc pm an dY ct),Jp⟩)(oU:PySem.W.codeIn K dY qual=true)(S:aN N ps scope)
  (len:∀vs H Q E,sp vs H Q E->vs.length=ps.length)
  (D5:∀(A:Around) (outer:List Env) (s:Shared) (H:Hp) (vs:List V) (Q:VK) (E:XK),cT k (A.deeper (envOfC qual scope s.heap.objs.size f dY))->sp vs H Q E->
    ∃t,Ae (vI CX P w K mg base N qual scope f dY A outer s H E) body t/\t {nx:=λ_ H'=>Q .non H',rt:=Q} (start N vs) H):
  aL P w K mg base CX (k+1) f (PySem.W.fnOf name qual params body scope dV kV doc pm an dY ct) ps sp:=by
 refine⟨len,λA outer s H args us vs Q E hr e0 hb r MQ=>?_⟩
 have hl:=len _ _ _ _ MQ
 have KX:K.In s.heap:=e0.mod.kin.keeps λb o e=>(e0.bs b o e).1
 have lim:s.heap.NoLimit:=e0.mod.nolimit.keeps λb o e=>(e0.bs b o e).1
 have NA:∀y∈ps.zip us,scope.names.lookup y.1=some .local\/(scope.names.lookup y.1=some .cell/\((cellsFrom (s.heap.objs.size+1) scope.names []).lookup y.1).isSome=true):=λ⟨n,v⟩ hy=>by
  rcases S.par n (List.of_mem_zip hy).1 with q|q
  ·exact .inl q
  ·exact .inr ⟨q,PySem.W.cellsFrom_some _ _ _ (.inl q)⟩
 refine codeAny_call_function hr.depth (KX _ _ lk) rfl S.co S.gen rfl (PySem.W.codeRec_of KX oU) (hb _ _ _ _ ?_)
 refine wpAny_newFunctionEnv_cells S.kind NA λenv he s1 x=>?_
 subst he
 refine⟨lim.keeps x.toInCall.keep,codeAny_func ?_⟩
 obtain⟨t,ht,hq⟩:=D5 A outer s H vs Q E (hr.deeper _) MQ
 have I:Inv (vI CX P w K mg base N qual scope f dY A outer s H E) [] (start N vs) H s1:=CL S hr.hd e0 hl r x
 refine wpAny_mono (ht [] s1 (start N vs) H _ I hq) (λfl s' hs=>?_) λe s' hs=>hs
 have fin:∀{σ':St} {H':Hp} {v:V} {u:Value},Inv (vI CX P w K mg base N qual scope f dY A outer s H E) [] σ' H' s'->RelV v u->Q v H'->CE outer P w H s Q u s':=
  λ{σ' H' v u} J rv q=>⟨v,H',J.os,J.bare,J.base,J.eT,rv,q⟩
 cases fl with
 |ret u=>
  obtain⟨v,σ',H',J,rv,q⟩:=hs
  exact fin J rv q
 |next=>
  obtain⟨σ',H',J,q⟩:=hs
  exact fin (v:=V.non) (u:=Value.none) J rfl q
 |brk=>
  obtain⟨_,_,_,q⟩:=hs
  exact False.elim q
 |cont=>
  obtain⟨_,_,_,q⟩:=hs
  exact False.elim q
section
variable{X:Cx}{x:Str}{p pos:Pos}{e:Expr}{es:List Expr}{t:TA}{id T:String}{r:List V->Hp->VK->Prop}
noncomputable def Q8(r:List V->Hp->VK->Prop)(t:TA):TE:=λσ H Q=>t σ H λvs H1=>r vs H1 Q
theorem ku(hc:gX X (.builtin id) r)(hg:Gl X x)(hm:X.mg x=none)(hv:bootBuiltins x=some (.builtin id))(ha:PA X (e::es) t)(hn:x≠ "__name__" :=by decide)(qq:(x==("__debug__" :Str))=false:=by decide)
  (he:starEach (e::es) X.env=(false,eval e X.env)::starEach es X.env:=by rfl)(hpl:(backTo pos (starEach es X.env)).any (·.1)=false:=by rfl):PE X (.Call (.Name x p) (e::es) [] pos) (Q8 r t):=by
 intro pins s σ H Q I h
 refine wpAny_Call_Name_kw (qS I hg hm hv ?_ hn qq)
 exact PyProof.Rows.callWith_builtin1 (eh (ha pos pins s σ H _ I h) λus s1 ⟨vs,H1,I1,r1,q1⟩=>hc pins s1 σ H1 vs us Q I1 r1 q1) he hpl
theorem jw(hc:gX X (.type T) r)(hg:Gl X x)(hm:X.mg x=none)(hv:bootBuiltins x=some (.type T))(ha:PA X (e::es) t)(hn:x≠ "__name__" :=by decide)(qq:(x==("__debug__" :Str))=false:=by decide)
  (he:starEach (e::es) X.env=(false,eval e X.env)::starEach es X.env:=by rfl)(hpl:(backTo pos (starEach es X.env)).any (·.1)=false:=by rfl):PE X (.Call (.Name x p) (e::es) [] pos) (Q8 r t):=by
 intro pins s σ H Q I h
 refine wpAny_Call_Name_kw (qS I hg hm hv ?_ hn qq)
 exact PyProof.Rows.callWith_type1 (eh (ha pos pins s σ H _ I h) λus s1 ⟨vs,H1,I1,r1,q1⟩=>hc pins s1 σ H1 vs us Q I1 r1 q1) he hpl
end
end L2
namespace HT
open PySem PyProof.Rows
section
variable{prog:Program}{w:World}{A:Around}{E:Value->Shared->Prop}{s:Shared}
noncomputable def Af(n d:Nat):Option Int->Nat
 |none=>d
 |some v=>if v<0 then(v+(n:Int)).toNat else min v.toNat n
end
end HT
namespace L2
open PySem PySem.Spec PyProof.Rows
noncomputable abbrev TO:=St->Hp->(Option Int->Hp->Prop)->Prop
noncomputable def PO(X:Cx)(e:Option Expr)(t:TO):Prop:=
 ∀(pins:List (Addr×Obj)) (s:Shared) (σ:St) (H:Hp) (Q:Option Int->Hp->Prop),Inv X pins σ H s->t σ H Q->
  wpAny (model X.prog X.w) X.A (evalPart e X.env) (λu s'=>∃o H',Inv X pins σ H' s'/\IsPart u o/\Q o H') X.xe s
noncomputable def Hb:TO:=λ_ H Q=>Q none H
noncomputable def NB(t:TE):TO:=λσ H Q=>t σ H λx H1=>∃i,x=.int i/\Q (some i) H1
theorem intsAre_of{ns:List Int}:∀{us:List Value},Vals (ns.map V.int) us->IntsAre us ns:=by
 induction ns with
 |nil=>intro us r;rw[List.map_nil]at r;cases r;exact .nil
 |cons n ns ih=>
  intro us r
  rw[List.map_cons]at r
  cases r with
  |cons r1 r2=>
   obtain⟨t,e⟩:=r1
   subst e
   exact .cons n t (ih r2)
section
variable{X:Cx}{e:Expr}{te:TE}{lo hi:Option Expr}{tl th:TO}{pos p2:Pos}
theorem Hc:PO X none Hb:=by
 intro pins s σ H Q I h
 rw[evalPart_none]
 exact wpAny_pure ⟨none,H,I,.none,h⟩
theorem Hd(h:PE X e te):PO X (some e) (NB te):=by
 intro pins s σ H Q I hw
 rw[evalPart_some]
 refine eh (h pins s σ H _ I hw) λu s1 d7=>?_
 obtain⟨x,H1,I1,r1,q1⟩:=d7
 obtain⟨i,rfl,q⟩:=q1
 obtain⟨t,rfl⟩:=r1
 exact⟨some i,H1,I1,.int i t,q⟩
noncomputable def K6(X:Cx)(r:V->Option Int->Option Int->Hp->VK->Prop):Prop:=
 ∀(pins:List (Addr×Obj)) (s:Shared) (σ:St) (H:Hp) (x:V) (v vl vu:Value) (lo hi:Option Int) (sl:Addr) (Q:VK),Inv X pins σ H s->RelV x v->s.heap.IsSliceOf sl vl vu .none->IsPart vl lo->IsPart vu hi->r x lo hi H Q->
  ∃T id,typeLookup (.type T) "__getitem__" =pure (some (.builtin id))/\s.TypeIs v T/\wpAny (model X.prog X.w) X.A (getItem v (.ref sl)) (EP X pins σ Q) X.xe s
theorem K6.or{r r':V->Option Int->Option Int->Hp->VK->Prop}(h:K6 X r)(h':K6 X r'):K6 X (λx lo hi H Q=>r x lo hi H Q\/r' x lo hi H Q):=by
 intro pins s σ H x v vl vu lo hi sl Q I rx hs pl pu q
 rcases q with q|q
 ·exact h pins s σ H x v vl vu lo hi sl Q I rx hs pl pu q
 ·exact h' pins s σ H x v vl vu lo hi sl Q I rx hs pl pu q
noncomputable def UX(r:V->Option Int->Option Int->Hp->VK->Prop)(te:TE)(tl th:TO):TE:=λσ H Q=>te σ H λx H1=>tl σ H1 λl H2=>th σ H2 λu H3=>r x l u H3 Q
theorem xZ{r:V->Option Int->Option Int->Hp->VK->Prop}(hr:K6 X r)(he:PE X e te)(hl:PO X lo tl)(hu:PO X hi th):PE X (.Subscript e (.Slice lo hi none p2) pos) (UX r te tl th):=by
 intro pins s σ H Q I h
 refine Subscript_ (eh (he pins s σ H _ I h) λv s1 d7=>?_)
 obtain⟨x,H1,I1,r1,q1⟩:=d7
 refine wpAny_Slice (eh (hl pins s1 σ H1 _ I1 q1) λvl s2 ⟨l,H2,I2,pl,q2⟩=>eh (hu pins s2 σ H2 _ I2 q2) λvu s3 d7=>?_)
 obtain⟨u,H3,I3,pu,q3⟩:=d7
 rw[evalPart_none]
 refine wpAny_pure ?_
 have I4:Inv X pins σ H3 {s3 with heap:=s3.heap.push {cls:=.type "slice",data:=.fields #[vl,vu,.none]}}:=I3.kept (t':=s3.toks) λb ob q=>Heap.get?_push_of_some _ q
 obtain⟨T,id,hT,ht,hg⟩:=hr pins {s3 with heap:=s3.heap.push {cls:=.type "slice",data:=.fields #[vl,vu,.none]}} σ H3 x v vl vu l u s3.heap.objs.size Q I4 r1 (Heap.IsSliceOf.new ..) pl pu q3
 show wpAny (model X.prog X.w) X.A (subscriptTail e (.Slice lo hi none p2) v (.ref s3.heap.objs.size)) (EP X pins σ Q) X.xe {s3 with heap:=s3.heap.push {cls:=.type "slice",data:=.fields #[vl,vu,.none]}}
 exact tail_any (ops:=[.ref s3.heap.objs.size,v]) ht hT hg (by with_unfolding_all rfl)
noncomputable def CM(xs:List V)(lo hi:Option Int):List V:=(xs.drop (HT.Af xs.length 0 lo)).take (HT.Af xs.length xs.length hi-HT.Af xs.length 0 lo)
theorem x3(xs:List V)(lo hi:Option Int):(CM xs lo hi).length<=xs.length:=by
 unfold CM
 rw[List.length_take,List.length_drop]
 omega
end
noncomputable def Q9(n:Nat)(i:Int):Option Nat:=if 0<=i then(if i<n then some i.toNat else none)else if-(n:Int)<=i then some (i+n).toNat else none
noncomputable def K7{α:Type}(xs:List α)(i:Int):Option α:=(Q9 xs.length i).bind λj=>xs[j]?
theorem He{n:Nat}{i:Int}{j:Nat}(h:Q9 n i=some j):seqIndex? i n=some j/\j<n/\-(n:Int)<=i/\i<n:=by
 unfold Q9 at h
 by_cases h0:0<=i
 ·rw[if_pos h0]at h
  by_cases h1:i<n
  ·rw[if_pos h1]at h
   have e:i.toNat=j:=Option.some.inj h
   exact⟨by rw[seqIndex_of h0 h1,e],by omega,by omega,h1⟩
  ·rw[if_neg h1]at h;cases h
 ·rw[if_neg h0]at h
  by_cases h1:-(n:Int)<=i
  ·rw[if_pos h1]at h
   have e:(i+n).toNat=j:=Option.some.inj h
   exact⟨by rw[seqIndex_neg (by omega) h1,e],by omega,h1,by omega⟩
  ·rw[if_neg h1]at h;cases h
theorem vJ{α:Type}{xs:List α}{i:Int}{v:α}(h:K7 xs i=some v):∃j,seqIndex? i xs.length=some j/\xs[j]?=some v/\j<xs.length/\-(xs.length:Int)<=i/\i<xs.length:=by
 unfold K7 at h
 cases e:Q9 xs.length i with
 |none=>rw[e]at h;cases h
 |some j=>
  rw[e]at h
  obtain⟨h1,h2,h3,h4⟩:=He e
  exact⟨j,h1,h,h2,h3,h4⟩
noncomputable def BE(b:Expr):Prop:=∀o i,subscripted b false o i=operate [o,i] (getItem o i)
noncomputable def Hf(X:Cx)(r:R2):Prop:=
 ∀(value slice:Expr) (pins:List (Addr×Obj)) (s:Shared) (σ:St) (H:Hp) (x y:V) (v u:Value) (Q:VK),Inv X pins σ H s->RelV x v->RelV y u->r x y H Q->
  subscripted slice false v u=operate [v,u] (getItem v u)->wpAny (model X.prog X.w) X.A (subscriptTail value slice v u) (EP X pins σ Q) X.xe s
noncomputable def NC(X:Cx)(id:String)(r:V->List V->Hp->VK->Prop):Prop:=
 ∀(pins:List (Addr×Obj)) (s:Shared) (σ:St) (H:Hp) (x:V) (xs:List V) (v:Value) (us:List Value) (Q:VK),Inv X pins σ H s->RelV x v->Vals xs us->r x xs H Q->
  wpAny (model X.prog X.w) X.A (call (.builtin id) (v::us)) (EP X pins σ Q) X.xe s
section
variable{X:Cx}{a b:Expr}{ta tb:TE}{pos:Pos}
theorem Hf.or{r r':R2}(h:Hf X r)(h':Hf X r'):Hf X (λx y H Q=>r x y H Q\/r' x y H Q):=by
 intro value slice pins s σ H x y v u Q I rx ry q hs
 rcases q with q|q
 ·exact h value slice pins s σ H x y v u Q I rx ry q hs
 ·exact h' value slice pins s σ H x y v u Q I rx ry q hs
theorem ND{r:R2}(hr:Hf X r)(ha:PE X a ta)(hb:PE X b tb)(hs:BE b):PE X (.Subscript a b pos) (Nj r ta tb):=by
 intro pins s σ H Q I h
 exact Subscript_ (KR ha hb I h λv u s2 x y H2 I2 rx ry q=>hr a b pins s2 σ H2 x y v u Q I2 rx ry q (hs _ _))
noncomputable def NF(K:PySem.W.Frag):R2:=λx y H Q=>∃p xs i v,x=.ref p/\y=.int i/\mP K H p xs/\K7 xs i=some v/\Q v H
noncomputable def NG(K:PySem.W.Frag):R2:=λx y H Q=>∃p xs i v,x=.ref p/\y=.int i/\mQ K H p xs/\K7 xs i=some v/\Q v H
noncomputable def NH:R2:=λx y H Q=>∃z i c,x=.str z/\y=.int i/\z.length<=sizeLine/\K7 z.cps.toList i=some c/\Q (.str ⟨#[c]⟩) H
theorem Hg:Hf X (NF X.K):=by
 intro value slice pins s σ H x y v u Q I rx ry h hs
 obtain⟨p,xs,i,z,rfl,rfl,hq,he,q⟩:=h
 cases rx
 obtain⟨t,rfl⟩:=ry
 obtain⟨its,r,pl,hz⟩:=I.list hq
 obtain⟨j,h1,h2,h3,h4,h5⟩:=vJ he
 obtain⟨w,ew,Si⟩:=r.get h2
 have hl:=r.length
 have hn:=qU
 have fin:EP X pins σ Q w s:=⟨z,H,I,Si,q⟩
 by_cases h0:0<=i
 ·have hj:i.toNat=j:=by
    rw[seqIndex_of h0 h5]at h1
    exact Option.some.inj h1
  exact item_listR pl.isList h0 (by omega) (by rw[hj];simpa using ew) fin hs
 ·have hj:(i+(its.toArray.size:Int)).toNat=j:=by
    rw[seqIndex_neg (by omega) h4]at h1
    rw[List.size_toArray,<-hl]
    exact Option.some.inj h1
  exact subscriptTail_builtinR (x:=w) pl.isList.typeIs slot_list_getitem.lookup
   (wpAny_getItem_list_neg (Q:=λr s'=>r=w/\EP X pins σ Q r s') pl.isList (by omega) (by rw[List.size_toArray]<;>omega) (by omega) (by rw[hj];simpa using ew) ⟨rfl,fin⟩) hs
theorem K8:Hf X (NG X.K):=by
 intro value slice pins s σ H x y v u Q I rx ry h hs
 obtain⟨p,xs,i,z,rfl,rfl,hq,he,q⟩:=h
 cases rx
 obtain⟨t,rfl⟩:=ry
 obtain⟨its,r,pl,hz⟩:=I.tuple hq
 obtain⟨j,h1,h2,h3,h4,h5⟩:=vJ he
 obtain⟨w,ew,Si⟩:=r.get h2
 have hl:=r.length
 have hn:=qU
 have fin:EP X pins σ Q w s:=⟨z,H,I,Si,q⟩
 exact subscriptTail_builtinR (x:=w) pl.typeIs slot_tuple_getitem.lookup
  (getItem_tuple (j:=j) (Q:=λr s'=>r=w/\EP X pins σ Q r s') pl (by omega) (by omega) (by rw[List.size_toArray,<-hl];exact h1) (by simpa using ew) ⟨rfl,fin⟩) hs
theorem K9:Hf X NH:=by
 intro value slice pins s σ H x y v u Q I rx ry h hs
 obtain⟨z,i,c,rfl,rfl,hz,he,q⟩:=h
 obtain⟨t,rfl⟩:=rx
 obtain⟨t',rfl⟩:=ry
 obtain⟨j,h1,h2,h3,h4,h5⟩:=vJ he
 have hl:z.cps.toList.length=z.length:=by simp[Str.length]
 rw[hl]at h1 h4 h5
 have hn:=qU
 exact tail_any (typeIs_str s z t) slot_str_getitem.lookup (getItem_str (c:=c) (by
  have e1:decide (i< -(2^63:Int))=false:=decide_eq_false (by omega)
  have e2:decide (i≥2^63)=false:=decide_eq_false (by omega)
  rw[e1,e2,Bool.or_false]) (by rw[h1];simpa using h2) ⟨.str ⟨#[c]⟩,H,I.tok _,⟨_,rfl⟩,q⟩) hs
noncomputable def UY(K:PySem.W.Frag):R2:=λx y H Q=>NF K x y H Q\/NG K x y H Q\/NH x y H Q
theorem La:Hf X (UY X.K):=Hg.or (K8.or K9)
theorem vK(lo hi:Option Int)(n:Nat):(sliceBounds lo hi none n).1=((HT.Af n 0 lo:Nat):Int)/\(sliceBounds lo hi none n).2.1=((HT.Af n n hi:Nat):Int)/\(sliceBounds lo hi none n).2.2=1:=by
 refine⟨?_,?_,rfl⟩
 ·cases lo with
  |none=>simp[sliceBounds,HT.Af]
  |some i=>
   simp only[sliceBounds,HT.Af,Option.getD_none,show(1:Int)>0 by decide,if_true]
   by_cases h:i<0
   ·simp only[h,if_true]<;>omega
   ·simp only[h,if_false]<;>omega
 ·cases hi with
  |none=>simp[sliceBounds,HT.Af]
  |some i=>
   simp only[sliceBounds,HT.Af,Option.getD_none,show(1:Int)>0 by decide,if_true]
   by_cases h:i<0
   ·simp only[h,if_true]<;>omega
   ·simp only[h,if_false]<;>omega
theorem tJ(its:List Value)(lo hi:Option Int):slicePick its.toArray lo hi none=((its.drop (HT.Af its.length 0 lo)).take (HT.Af its.length its.length hi-HT.Af its.length 0 lo)).toArray:=by
 obtain⟨h1,h2,h3⟩:=vK lo hi its.toArray.size
 unfold slicePick
 rw[h1,h2,h3]
 simp only[sliceRange_one,pick_run,List.size_toArray]<;>rfl
noncomputable def Sj(K:PySem.W.Frag):V->Option Int->Option Int->Hp->VK->Prop:=λx lo hi H Q=>∃a xs,x=.ref a/\mP K H a xs/\∀p,H p=none->Q (.ref p) (upd H p (.lst (CM xs lo hi)))
theorem BF:K6 X (Sj X.K):=by
 intro pins s σ H x v vl vu lo hi sl Q I rx hs pl pu h
 obtain⟨a,xs,rfl,hx,q⟩:=h
 cases rx
 obtain⟨its,r,ht,hz⟩:=I.list hx
 have hlen:=r.length
 refine⟨"list",_,slot_list_getitem.lookup,ht.isList.typeIs,?_⟩
 refine wpAny_getItem_list_slice ht.isList hs pl pu .none (by simp) ?_ (by rw[List.size_toArray]<;>omega)
 rw[tJ,<-hlen]
 refine⟨.ref s.heap.objs.size,_,I.laid (t':=s.toks) (o:=.lst (CM xs lo hi)) (λb ob q=>Heap.get?_push_of_some _ q) (Nat.le_refl _) ?_,rfl,q _ (I.eT.fresh (Nat.le_refl _))⟩
 exact⟨Nat.le_trans (x3 xs lo hi) hz,_,0,(r.drop (HT.Af xs.length 0 lo)).take (HT.Af xs.length xs.length hi-HT.Af xs.length 0 lo),Heap.get?_push_size _ rfl⟩
noncomputable def gZ:V->Bool
 |.non=>true
 |.bl _=>true
 |.int _=>true
 |.str _=>true
 |_=>false
noncomputable def DF:V->V->Bool
 |.non,.non=>true
 |.bl a,.bl b=>a==b
 |.bl a,.int b=>(if a then 1 else 0)==b
 |.int a,.bl b=>a==(if b then 1 else 0)
 |.int a,.int b=>a==b
 |.str a,.str b=>a==b
 |_,_=>false
theorem D6{A:Around}{s:Shared}{y x:V}{u v:Value}(ry:RelV y u)(rx:RelV x v)(fy:gZ y=true)(fx:gZ x=true):SeqAt.EqAt A s u v (DF y x):=by
 cases y with
 |non=>
  cases ry
  cases x with
  |non=>cases rx;exact SeqAt.EqAt.same _
  |bl b=>cases rx;exact SeqAt.EqAt.none_bool b
  |int b=>obtain⟨t,rfl⟩:=rx;exact SeqAt.EqAt.none_int b t
  |str b=>obtain⟨t,rfl⟩:=rx;exact SeqAt.EqAt.none_str b t
  |_=>exact absurd (show false=true from fx) Bool.false_ne_true
 |bl a=>
  cases ry
  cases x with
  |non=>cases rx;exact SeqAt.EqAt.bool_none a
  |bl b=>cases rx;exact SeqAt.EqAt.bool_bool a b
  |int b=>obtain⟨t,rfl⟩:=rx;exact SeqAt.EqAt.bool_int a b t
  |str b=>obtain⟨t,rfl⟩:=rx;exact SeqAt.EqAt.bool_str a b t
  |_=>exact absurd (show false=true from fx) Bool.false_ne_true
 |int a=>
  obtain⟨t',rfl⟩:=ry
  cases x with
  |non=>cases rx;exact SeqAt.EqAt.int_none a t'
  |bl b=>cases rx;exact SeqAt.EqAt.int_bool a t' b
  |int b=>obtain⟨t,rfl⟩:=rx;exact SeqAt.EqAt.int_int a t' b t
  |str b=>obtain⟨t,rfl⟩:=rx;exact SeqAt.EqAt.int_str a t' b t
  |_=>exact absurd (show false=true from fx) Bool.false_ne_true
 |str a=>
  obtain⟨t',rfl⟩:=ry
  cases x with
  |non=>cases rx;exact SeqAt.EqAt.str_none a t'
  |bl b=>cases rx;exact SeqAt.EqAt.str_bool a t' b
  |int b=>obtain⟨t,rfl⟩:=rx;exact SeqAt.EqAt.str_int a t' b t
  |str b=>obtain⟨t,rfl⟩:=rx;exact SeqAt.EqAt.str_str a t' b t
  |_=>exact absurd (show false=true from fx) Bool.false_ne_true
 |_=>exact absurd (show false=true from fy) Bool.false_ne_true
noncomputable def Aq(x:V)(u:Value):Bool:=match u with
 |.none=>DF .non x
 |.bool b=>DF (.bl b) x
 |.int i _=>DF (.int i) x
 |.str z _=>DF (.str z) x
 |_=>false
theorem D7{x y:V}{u:Value}(r:RelV y u)(f:gZ y=true):Aq x u=DF y x:=by
 cases y with
 |non=>cases r;rfl
 |bl b=>cases r;rfl
 |int i=>obtain⟨t,rfl⟩:=r;rfl
 |str z=>obtain⟨t,rfl⟩:=r;rfl
 |_=>exact absurd (show false=true from f) Bool.false_ne_true
theorem nT{x:V}:∀{xs:List V} {us:List Value},Vals xs us->xs.all gZ=true->us.any (Aq x)=xs.any λy=>DF y x
 |_,_,.nil,_=>rfl
 |y::xs,u::us,.cons r t,f=>by
  rw[List.all_cons,Bool.and_eq_true]at f
  rw[List.any_cons,List.any_cons,D7 r f.1,nT t f.2]
theorem kx{A:Around}{s:Shared}{x:V}{v:Value}(rx:RelV x v)(fx:gZ x=true):∀{xs:List V} {us:List Value},Vals xs us->xs.all gZ=true->∀u∈us,SeqAt.EqAt A s u v (Aq x u)
 |_,_,.nil,_=>λu hu=>by cases hu
 |y::xs,u::us,.cons r t,f=>λu' hu=>by
  rw[List.all_cons,Bool.and_eq_true]at f
  rcases List.mem_cons.mp hu with rfl|hu
  ·rw[D7 r f.1];exact D6 r rx f.1 fx
  ·exact kx rx fx t f.2 u' hu
noncomputable def Ra(x:V)(xs:List V):Bool:=xs.any λy=>DF y x
noncomputable def Rb(K:PySem.W.Frag)(neg:Bool):R2:=λx y H Q=>∃p xs,y=.ref p/\(mP K H p xs\/mQ K H p xs)/\gZ x=true/\xs.all gZ=true/\Q (.bl (if neg then !Ra x xs else Ra x xs)) H
theorem CN:mf X (compareOp .In) (Rb X.K false):=by
 intro pins s σ H x y v u Q I rx ry h
 obtain⟨p,xs,rfl,hq,fx,fs,q⟩:=h
 cases ry
 rcases hq with hq|hq
 ·obtain⟨its,r,pl,hz⟩:=I.list hq
  refine SeqAt.in_listAt (Aq x) pl.isList (λw hw=>kx rx fx r fs w (by simpa using hw)) ⟨.bl _,H,I,rfl,?_⟩
  rw[show its.toArray.any (Aq x)=its.any (Aq x) by simp,nT r fs]
  exact q
 ·obtain⟨its,r,pl,hz⟩:=I.tuple hq
  refine SeqAt.in_tupleAt (Aq x) pl (λw hw=>kx rx fx r fs w (by simpa using hw)) ⟨.bl _,H,I,rfl,?_⟩
  rw[show its.toArray.any (Aq x)=its.any (Aq x) by simp,nT r fs]
  exact q
theorem vL:mf X (compareOp .NotIn) (Rb X.K true):=by
 intro pins s σ H x y v u Q I rx ry h
 obtain⟨p,xs,rfl,hq,fx,fs,q⟩:=h
 cases ry
 rcases hq with hq|hq
 ·obtain⟨its,r,pl,hz⟩:=I.list hq
  refine SeqAt.notIn_listAt (Aq x) pl.isList (λw hw=>kx rx fx r fs w (by simpa using hw)) ⟨.bl _,H,I,rfl,?_⟩
  rw[show its.toArray.any (Aq x)=its.any (Aq x) by simp,nT r fs]
  exact q
 ·obtain⟨its,r,pl,hz⟩:=I.tuple hq
  refine SeqAt.notIn_tupleAt (Aq x) pl (λw hw=>kx rx fx r fs w (by simpa using hw)) ⟨.bl _,H,I,rfl,?_⟩
  rw[show its.toArray.any (Aq x)=its.any (Aq x) by simp,nT r fs]
  exact q
theorem nU:gX X (.builtin "len") (λxs H Q=>∃p ys,xs=[.ref p]/\(mP X.K H p ys\/mQ X.K H p ys)/\Q (.int ys.length) H):=by
 intro pins s σ H xs us Q I r h
 obtain⟨p,ys,rfl,hq,q⟩:=h
 obtain⟨u,rfl,rx⟩:=vals1 r
 cases rx
 have hn:=qU
 rcases hq with hq|hq
 ·obtain⟨its,r',pl,hz⟩:=I.list hq
  have hlen:=r'.length
  exact Calls.call_len_list pl.isList (by simp only[List.size_toArray]<;>omega) ⟨.int ys.length,H,I.tok _,⟨s.toks+1,by rw[List.size_toArray,hlen]⟩,q⟩
 ·obtain⟨its,r',pl,hz⟩:=I.tuple hq
  have hlen:=r'.length
  exact len_tuple pl (by simp only[List.size_toArray]<;>omega) ⟨.int ys.length,H,I.tok _,⟨s.toks+1,by rw[List.size_toArray,hlen]⟩,q⟩
theorem vM:gX X (.builtin "len") (λxs H Q=>∃z,xs=[.str z]/\z.length<=sizeLine/\Q (.int z.length) H):=by
 intro pins s σ H xs us Q I r h
 obtain⟨z,rfl,hz,q⟩:=h
 obtain⟨u,rfl,t,rfl⟩:=vals1 r
 have hn:=qU
 exact len_str (by omega) ⟨.int z.length,H,I.tok _,⟨_,rfl⟩,q⟩
theorem gX.or{f:Value}{r r':List V->Hp->VK->Prop}(h:gX X f r)(h':gX X f r'):gX X f (λxs H Q=>r xs H Q\/r' xs H Q):=by
 intro pins s σ H xs us Q I rs q
 rcases q with q|q
 ·exact h pins s σ H xs us Q I rs q
 ·exact h' pins s σ H xs us Q I rs q
theorem vN:gX X (.type "list") (λxs H Q=>∃p ys,xs=[.ref p]/\(mP X.K H p ys\/mQ X.K H p ys)/\∀l,H l=none->Q (.ref l) (upd H l (.lst ys))):=by
 intro pins s σ H xs us Q I r h
 obtain⟨p,ys,rfl,hq,q⟩:=h
 obtain⟨u,rfl,rx⟩:=vals1 r
 cases rx
 have fin:∀(its:List Value),Vals ys its->ys.length<=sizeLine->∀(h':Heap) (c':Nat),(∀b o',s.heap.get? b=some o'->h'.get? b=some o')->
   h'.get? s.heap.objs.size=some {cls:=.type "list",dict:=none,data:=.seq its.toArray c',slots:=#[]}->EP X pins σ Q (.ref s.heap.objs.size) {s with heap:=h'}:=λits r' hz h' c' kp e=>
  ⟨.ref s.heap.objs.size,_,I.laid (t':=s.toks) kp (Nat.le_refl _) (show eV X.prog X.w _ h' _ (.lst ys)from⟨hz,its,c',r',e⟩),rfl,q _ (I.eT.fresh (Nat.le_refl _))⟩
 rcases hq with hq|hq
 ·obtain⟨its,r',pl,hz⟩:=I.list hq
  have hlen:=r'.length
  obtain⟨o,ho,hc,n,hd⟩:=pl.isList
  exact call_list_seq p (.inl rfl) ho hc hd (λh' c' kp e=>fin its r' hz h' c' kp e) (by simp only[List.size_toArray]<;>omega)
 ·obtain⟨its,r',pl,hz⟩:=I.tuple hq
  have hlen:=r'.length
  obtain⟨o,ho,hc,n,hd⟩:=pl
  exact call_list_seq p (.inr rfl) ho hc hd (λh' c' kp e=>fin its r' hz h' c' kp e) (by simp only[List.size_toArray]<;>omega)
theorem mh:gX X (.type "tuple") (λxs H Q=>∃p ys,xs=[.ref p]/\((mP X.K H p ys/\∀l,H l=none->Q (.ref l) (upd H l (.tup ys)))\/(mQ X.K H p ys/\Q (.ref p) H))):=by
 intro pins s σ H xs us Q I r h
 obtain⟨p,ys,rfl,h⟩:=h
 obtain⟨u,rfl,rx⟩:=vals1 r
 cases rx
 rcases h with⟨hq,q⟩|⟨hq,q⟩
 ·obtain⟨its,r',pl,hz⟩:=I.list hq
  have hlen:=r'.length
  refine call_tuple_list pl.isList (λh' kp=>?_) (by simp only[List.size_toArray]<;>omega)
  have I1:Inv X pins σ H {s with heap:=h'}:=I.kept (t':=s.toks) kp
  have I2:Inv X pins σ (upd H h'.objs.size (.tup ys)) {s with heap:=h'.push {cls:=.type "tuple",data:=.seq its.toArray}}:=
   I1.laid (t':=s.toks) (λb o e=>Heap.get?_push_of_some _ e) (Nat.le_refl _) (show eV X.prog X.w _ _ _ (.tup ys)from⟨⟨hz,M3.new⟩,its,r',IsTup.new _ _⟩)
  exact⟨.ref h'.objs.size,_,I2,rfl,q _ (I1.eT.fresh (Nat.le_refl _))⟩
 ·obtain⟨its,r',pl,hz⟩:=I.tuple hq
  exact call_tuple_same pl ⟨.ref p,H,I,rfl,q⟩
noncomputable def Sk(K:PySem.W.Frag)(T:String)(x:V)(H:Hp):Prop:=match x with
 |.str _=>T= "str"
 |.int _=>T= "int"
 |.ref p=>(T= "list" /\∃xs,mP K H p xs)\/(T= "tuple" /\∃o,K.lookup p=some o/\o.cls=.type "tuple" /\o.dict=none)\/
   (T= "dict" /\((∃cp,H p=some (.dK cp))\/∃cp,H p=some (.dT cp)))\/(T= "set" /\∃S n,H p=some (.set S n))
 |_=>False
theorem D8{pins:List (Addr×Obj)}{σ:St}{H:Hp}{s:Shared}{T:String}{x:V}{v:Value}(I:Inv X pins σ H s)(r:RelV x v)(ty:Sk X.K T x H):
  s.TypeIs v T/\∀a,v=.ref a->∃ob,s.heap.get? a=some ob/\ob.dict=none:=by
 cases x with
 |str z=>
  obtain⟨t,rfl⟩:=r
  cases(show T= "str" from ty)
  exact⟨typeIs_str s z t,λ_ e=>nomatch e⟩
 |int i=>
  obtain⟨t,rfl⟩:=r
  cases(show T= "int" from ty)
  exact⟨typeIs_int s i t,λ_ e=>nomatch e⟩
 |ref p=>
  cases r
  rcases ty with⟨rfl,xs,hq⟩|⟨rfl,o,hk,hc,hd⟩|⟨rfl,hk⟩|⟨rfl,S,n,hk⟩
  ·obtain⟨its,_,pl,_⟩:=I.list hq
   refine⟨pl.isList.typeIs,λa e=>?_⟩
   cases e
   obtain⟨o,n,e,c,hd,_⟩:=pl
   exact⟨o,e,hd⟩
  ·refine⟨⟨o,I.jC p o hk,hc⟩,λa e=>?_⟩
   cases e
   exact⟨o,I.jC _ o hk,hd⟩
  ·have z:∃o,s.heap.get? p=some o/\o.ExactDict:=by
     rcases hk with⟨cp,hk⟩|⟨cp,hk⟩
     ·obtain⟨_,_,_,_,o,_,_,e,ex,_⟩:=I.eT p _ hk
      exact⟨o,e,ex⟩
     ·obtain⟨_,_,_,_,o,_,_,e,ex,_⟩:=I.eT p _ hk
      exact⟨o,e,ex⟩
   obtain⟨o,e,ex⟩:=z
   refine⟨⟨o,e,ex.1⟩,λa e2=>?_⟩
   cases e2
   exact⟨o,e,ex.2.1⟩
  ·obtain⟨o,_,_,_,e,ex,_⟩:=I.eT p _ hk
   refine⟨⟨o,e,ex.1⟩,λa e2=>?_⟩
   cases e2
   exact⟨o,e,ex.2.1⟩
 |_=>exact False.elim ty
noncomputable def NI(K:PySem.W.Frag)(T:String)(r:V->List V->Hp->VK->Prop)(to:TE):TE:=λσ H Q=>to σ H λx H1=>Sk K T x H1/\r x [] H1 Q
noncomputable def TV(K:PySem.W.Frag)(T:String)(r:V->List V->Hp->VK->Prop)(to:TE)(t:TA):TE:=λσ H Q=>to σ H λx H1=>Sk K T x H1/\t σ H1 λxs H2=>r x xs H2 Q
variable{o e:Expr}{es:List Expr}{to:TE}{t:TA}{name:Str}{apos dA:Pos}{T id:String}{r:V->List V->Hp->VK->Prop}
theorem Lb(pa:PlainAttrs T)(slot:Slot T name id)(Sl:typeOf (.builtin id)=pure (.type "method_descriptor"))(hm:NC X id r)(ho:PE X o to)
  (jx:attributeBase o name X.env (eval o X.env)=eval o X.env:=by rfl)(jy:(apos.endLine==dA.line)=true:=by rfl):PE X (.Call (.Attribute o name apos) [] [] dA) (NI X.K T r to):=by
 intro pins s σ H Q I h
 refine wpAny_Call_method0_late jx jy (eh (ho pins s σ H _ I h) λv s1 d7=>?_)
 obtain⟨x,H1,I1,r1,ty,q1⟩:=d7
 obtain⟨h1,h2⟩:=D8 I1 r1 ty
 exact⟨T,id,pa,slot,Sl,h1,h2,Calls.callWith_builtin rfl (PySem.evalArgs_none (hm pins s1 σ H1 x [] v [] Q I1 r1 .nil q1))⟩
theorem BG(pa:PlainAttrs T)(slot:Slot T name id)(Sl:typeOf (.builtin id)=pure (.type "method_descriptor"))(hm:NC X id r)(ho:PE X o to)(ha:PA X (e::es) t)
  (jx:attributeBase o name X.env (eval o X.env)=eval o X.env:=by rfl)
  (vO:((backTo dA (starEach (e::es) X.env)).all (λx=>!x.1)&&(backToKw dA (keywordEach [] X.env)).all (λx=>x.1.isSome)
    &&decide ((e::es).length+([]:List Keyword).length+(if([]:List Keyword).isEmpty then 0 else 1)<30))=true:=by rfl)
  (jy:(apos.endLine==dA.line)=true:=by rfl)(hs:starEach (e::es) X.env=(false,eval e X.env)::starEach es X.env:=by rfl)(Lc:(backTo dA (starEach es X.env)).any (·.1)=false:=by rfl):
  PE X (.Call (.Attribute o name apos) (e::es) [] dA) (TV X.K T r to t):=by
 intro pins s σ H Q I h
 refine wpAny_Call_method_late jx vO jy rfl (eh (ho pins s σ H _ I h) λv s1 d7=>?_)
 obtain⟨x,H1,I1,r1,ty,q1⟩:=d7
 obtain⟨h1,h2⟩:=D8 I1 r1 ty
 refine⟨T,id,pa,slot,Sl,h1,h2,?_⟩
 have hA:=ha dA pins s1 σ H1 _ I1 q1
 rw[hs]at hA⊢
 refine Calls.callWith_builtin (by show(false||(backTo dA (starEach es X.env)).any (·.1))=false;rw[Lc]<;>rfl) (Calls.evalArgs_plain ?_)
 exact eh hA λus s2 ⟨vs,H2,I2,r2,q2⟩=>hm pins s2 σ H2 x vs v us Q I2 r1 r2 q2
end
noncomputable def TX(X:Cx)(id:String)(r:V->List V->Hp->VK->Prop):Prop:=
 ∀(pins:List (Addr×Obj)) (s:Shared) (σ:St) (H:Hp) (x:V) (xs:List V) (v:Value) (us:List Value) (Q:VK),Inv X pins σ H s->RelV x v->Vals xs us->r x xs H Q->
  wpAny (model X.prog X.w) X.A (call (.builtin id) (v::us)) (EP X pins σ Q) X.xe s
theorem Vals.one{x:V}{us:List Value}(h:Vals [x] us):∃u,us=[u]/\RelV x u:=by
 cases h with
 |cons r t=>
  cases t
  exact⟨_,rfl,r⟩
theorem Vals.zero:∀{us:List Value},Vals [] us->us=[]
 |_,.nil=>rfl
section
variable{X:Cx}{pins:List (Addr×Obj)}{σ:St}{H:Hp}{s:Shared}{l b:Addr}{xs ys zs:List V}
theorem Inv.NK{its its':List Value}{n:Nat}{f:Array Value->Array Value}{t':Nat}(I:Inv X pins σ H s)(hH:H l=some (.lst xs))
  (e:s.heap.get? l=some {cls:=.type "list",data:=.seq its.toArray n})(hf:f its.toArray=its'.toArray)(hv:Vals ys its')(hz:ys.length<=sizeLine):
  Inv X pins σ (upd H l (.lst ys)) {s with heap:=s.heap.update l (Obj.mapSeq f),toks:=t'}:=by
 have q:=PySem.IsL.update e f
 rw[hf]at q
 refine I.write (x:=l) (e:=l) (by rw[hH];exact trivial) (.inl rfl) (λb' u hb hu=>(Heap.get?_update_other s.heap (Obj.mapSeq f) (Ne.symm hb)).trans hu) ⟨_,q⟩ ?_
 exact⟨hz,its',_,hv,q⟩
theorem Inv.Sm{its:List Value}{t':Nat}(I:Inv X pins σ H s)(hv:Vals ys its)(hz:ys.length<=sizeLine):
  Inv X pins σ (upd H s.heap.objs.size (.lst ys)) {s with heap:=s.heap.push {cls:=.type "list",data:=.seq its.toArray},toks:=t'}:=
 I.laid (λ_ _ q=>Heap.get?_push_of_some _ q) (Nat.le_refl _) ⟨hz,its,0,hv,Heap.get?_push_size _ rfl⟩
theorem Inv.fresh(I:Inv X pins σ H s):H s.heap.objs.size=none:=I.eT.fresh (Nat.le_refl _)
theorem Inv.NL(I:Inv X pins σ H s)(hH:H l=some (.lst xs)):xs.length<=sizeLine/\∃(its:List Value) (n:Nat),Vals xs its/\xs.length=its.length/\s.heap.get? l=some {cls:=.type "list",data:=.seq its.toArray n}:=by
 obtain⟨z,its,n,r,e⟩:=I.eT l _ hH
 exact⟨z,its,n,r,r.length,e⟩
end
section
variable{X:Cx}
noncomputable def Hh:V->List V->Hp->VK->Prop:=λx vs H Q=>∃l xs y,x=.ref l/\vs=[y]/\H l=some (.lst xs)/\xs.length<sizeLine/\Q .non (upd H l (.lst (xs++[y])))
theorem u4:TX X "list.append" Hh:=by
 intro pins s σ H x vs v us Q I rx rv h
 obtain⟨l,xs,y,rfl,rfl,hH,hz,q⟩:=h
 cases rx
 obtain⟨u,rfl,ru⟩:=rv.one
 obtain⟨z,its,n,r,hl,e⟩:=I.NL hH
 refine call_meets F.slot_list_append ⟨_,e,rfl⟩ F.entry_list_append (F.args_list_append_2 _ _) (PySem.list_append l its.toArray n u (by rw[List.size_toArray];omega)) ⟨e,?_⟩
 refine⟨.non,_,I.NK (its':=its++[u]) hH e (by simp) (r.append (.cons ru .nil)) ?_,rfl,q⟩
 rw[List.length_append,List.length_singleton]
 omega
noncomputable def Ld:V->List V->Hp->VK->Prop:=λx vs H Q=>∃l xs,x=.ref l/\vs=[]/\H l=some (.lst xs)/\Q .non (upd H l (.lst []))
theorem D9:TX X "list.clear" Ld:=by
 intro pins s σ H x vs v us Q I rx rv h
 obtain⟨l,xs,rfl,rfl,hH,q⟩:=h
 cases rx
 have UZ:=rv.zero
 subst UZ
 obtain⟨z,its,n,r,hl,e⟩:=I.NL hH
 refine call_meets F.slot_list_clear ⟨_,e,rfl⟩ F.entry_list_clear (F.args_list_clear_1 _) (AutoSeq1.list_clear_list_0 l its.toArray n (by rw[List.size_toArray];omega)) ⟨e,?_⟩
 exact⟨.non,_,I.NK (its':=[]) (ys:=[]) hH e rfl .nil (Nat.zero_le _),rfl,q⟩
end
end L2
namespace Att
open PySem PySem.W PySem.Calls PyProof.Rows
theorem qr{P:Params}{h:Heap}:∀(ns:List Int) (vs:List Value),WellAll P h vs (ns.map WData.int)->IntsAre vs ns:=by
 intro ns
 induction ns with
 |nil=>
  intro vs w
  rw[List.map_nil]at w
  cases w
  exact .nil
 |cons n ns ih=>
  intro vs w
  rw[List.map_cons]at w
  cases w with
  |cons a b=>
   cases a
   exact .cons _ _ (ih _ b)
theorem CO{l:OpenLaw}{n:Nat}(hn:l.most=some n){P:Params}{h:Heap}{args:List WData}{vals:List Value}
  (Hi:l.row.toRowW.claim.pre args=true)(Sn:WellAll P h vals args):
  ∃a vs ns,vals=[Value.ref a]/\args=[WData.list (ns.map WData.int)]/\h.get? a=some {cls:=.type "list",data:=.seq vs.toArray}/\IntsAre vs ns/\ns.length<=n:=by
 have U0:WShape.hasAll [] args [.list .int]=true:=(pre_splitW Hi).1
 have hc:l.pre.holds [] {args:=args}=true:=(pre_splitW Hi).2
 obtain⟨d,r,rfl,h1,h2⟩:=hasAllW_cons U0
 obtain rfl:=hasAllW_nil h2
 obtain⟨xs,rfl,h3⟩:=hasW_list h1
 obtain⟨ns,rfl⟩:=items_int h3
 have hlen:ns.length<=n:=by
  unfold OpenLaw.pre at hc
  have h4:(WTm.not (.lt (.lit (.int (n:Int))) (.len (.arg 0)))).holds [] {args:=[.list (ns.map .int)]}=true:=by
   have h4:=(holds_andW hc).1
   rw[hn]at h4
   exact h4
  have h5:=condW_of h4 (w_not (w_lt w_lit (w_len_list (w_arg rfl))))
  rw[List.length_map]at h5
  refine Nat.le_of_not_lt λq=>?_
  have q':(n:Int)<((ns.length:Nat):Int):=by omega
  first
   |(rw[decide_eq_true q']at h5;exact absurd h5 (by decide))
   |(simp at h5;omega)
 cases Sn with
 |cons w1 w2=>
  cases w2
  cases w1 with
  |list ho So=>exact⟨_,_,ns,rfl,rfl,ho,qr ns _ So,hlen⟩
theorem CP(l:OpenLaw)(args:List WData):l.row.toRowW.claim.post args (.bool true) args=true:=
 postW_of (r:=l.row.toRowW) (X:=(true==true))
  (show WShape.has [] (.bool true) .bool=true by first|rfl|decide|simp[WShape.has,WShape.arms,WShape.armsAll])
  (show(WTm.eq .res (.lit (.bool true))).value [] {args:=args,res:=some (.bool true),after:=args}=some (.bool (true==true))from w_eq_bool (w_res rfl) w_lit) rfl
theorem x4{l:OpenLaw}{n:Nat}{q:Program}{loose:List Str}{XP:(Str->Option Value)->Heap->Prop}{YP:World->Heap->Prop}{d:DefRec}
  (hn:l.most=some n)(Sq:d.params.defaults=[])
  (call:∀(w:World) (s₀ s₁:Shared) (mg mb:Str->Option Value) (fa:Addr) (o:Obj) (pm cd doc:Value) (a:Addr) (vs:List Value) (ns:List Int),
    Ground q loose [] XP w s₀ mg mb s₁.heap->YP w s₁.heap->
    s₁.heap.get? fa=some o->o.data=.func (docDef d.name d.params d.body d.scope pm cd doc)->s₁.heap.CodeRec cd d.name->mg d.name=some (.ref fa)->
    s₁.heap.get? a=some {cls:=.type "list",data:=.seq vs.toArray}->IntsAre vs ns->ns.length<=n->s₁.gens=#[]->
    codeAny (model l.prog w) callerA (.call (.ref fa) ⟨[.ref a],[]⟩) (λr s'=>r=.ok (.ret (.bool true))/\OldK s₁.heap s'.heap/\s'.os=s₁.os/\AllBare s'.gens) s₁):
  WalkO q loose XP YP l.row.toRowW d [] (λf vs=>PySem.call f vs):=by
 intro w s₀ s₁ mg mb G Y fa o pm cd doc dV kV ho hd oU hD NM hg args vals as Hi U1 Wj Sn Wk
 obtain rfl:dV=.none:=Dflts.none hD Sq
 obtain rfl:kV=.none:=Dflts.noKw hD
 obtain⟨a,vs,ns,rfl,rfl,Le,hints,hlen⟩:=CO hn Hi Sn
 refine enter_call (codeAny_mono (call w s₀ s₁ mg mb fa o pm cd doc a vs ns G Y ho (fd_plain hd) oU NM Le hints hlen hg) λr s' hq=>?_)
 obtain⟨rfl,h2,h3,h4⟩:=hq
 exact⟨.inl ⟨.bool true,.bool true,[],rfl,λ_=>rfl,.bool true,CP l _,λ_=>⟨List.Pairwise.nil,λ_ hm=>(nomatch hm)⟩⟩,h2,h3,h4⟩
end Att
namespace L2
open PySem PySem.Spec PyProof.Rows
theorem u5:∀{vs:List Value} {ns:List Int},IntsAre vs ns->Vals (ns.map V.int) vs
 |_,_,.nil=>.nil
 |_,_,.cons n t h=>.cons ⟨t,rfl⟩ (u5 h)
noncomputable def NN(H:Hp):Prop:=∀b,H b=none\/∃o xs,H b=some (.frz o (.lst xs))
noncomputable def aO(s:Stmt):Arguments:=match s with
 |.FunctionDef _ a _ _ _ _ _ _ _ _=>a
 |_=>{posonlyargs:=[],args:=[],vararg:=none,kwonlyargs:=[],kw_defaults:=[],kwarg:=none,defaults:=[]}
noncomputable def aI(s:Stmt):List Stmt:=match s with
 |.FunctionDef _ _ b _ _ _ _ _ _ _=>b
 |_=>[]
noncomputable def ae(s:Stmt):Scope:=match s with
 |.FunctionDef _ _ _ _ _ _ sc _ _ _=>sc
 |_=>{kind:=.function,names:=[],isGenerator:=false,isCoroutine:=false}
noncomputable abbrev cm:GO:=λ_ _ _ _ _ _=>False
noncomputable abbrev E0:XK:=λ_ _ _=>False
theorem g0{X:Cx}:Passes cm X E0:=λ_ _ _ _ _ _ _ h=>h.elim
structure qt(K:PySem.W.Frag)(x qual:Str)(st:Stmt)(f:Addr)(fd:FuncData):Prop where
 ex:∃(oc:Value) (od:Option Addr) (kV doc pm:Value) (an:Option Addr) (dY ct:Value) (Jp:Array (Option Value)),
  fd=PySem.W.fnOf x qual (aO st) (aI st) (ae st) .none kV doc pm an dY ct/\K.lookup f=some ⟨oc,od,.func fd,Jp⟩/\PySem.W.codeIn K dY qual=true
 kp:PySem.W.keepIn K (.ref f)=true
section
variable{P:Program}{w:World}{K:PySem.W.Frag}{mg:Str->Option Value}{base:Heap}
theorem qt.ok{x qual:Str}{st:Stmt}{f:Addr}{fd:FuncData}{N ps:List Str}{k:Nat}{sp:Sp}(F:qt K x qual st f fd)(S:aN N ps (ae st))(len:∀vs H Q E,sp vs H Q E->vs.length=ps.length)
  (D5:∀(dY:Value) (A:Around) (outer:List Env) (s:Shared) (H:Hp) (vs:List V) (Q:VK) (E:XK),cT k (A.deeper (envOfC qual (ae st) s.heap.objs.size f dY))->sp vs H Q E->
    ∃t,Ae (vI cm P w K mg base N qual (ae st) f dY A outer s H E).DM (aI st) t/\t {nx:=λ_ H'=>Q .non H',rt:=Q} (start N vs) H):aL P w K mg base cm (k+1) f fd ps sp:=by
 obtain⟨oc,od,kV,doc,pm,an,dY,ct,Jp,rfl,lk,oU⟩:=F.ex
 refine Nz lk oU S len λA outer s H vs Q E hr MQ=>?_
 obtain⟨t,h,q⟩:=D5 dY A outer s H vs Q E hr MQ
 exact⟨t,h.DM,q⟩
theorem qt.binds{x qual:Str}{st:Stmt}{f:Addr}{fd:FuncData}{ps:List Str}(F:qt K x qual st f fd)
  (h:∀(kV doc pm:Value) (an:Option Addr) (dY ct:Value) (us:List Value),us.length=ps.length->bindArgs (PySem.W.fnOf x qual (aO st) (aI st) (ae st) .none kV doc pm an dY ct) ⟨us,[]⟩=pure (ps.zip us)):Binds K fd ps []:=by
 obtain⟨oc,od,kV,doc,pm,an,dY,ct,Jp,rfl,lk,oU⟩:=F.ex
 exact .all (h kV doc pm an dY ct)
theorem bu{x qual:Str}{st:Stmt}{f:Addr}{oc:Value}{od an:Option Addr}{Jp:Array (Option Value)}{kV doc pm dY ct:Value}(l:K.lookup f=some ⟨oc,od,.func (PySem.W.fnOf x qual (aO st) (aI st) (ae st) .none kV doc pm an dY ct),Jp⟩)
 (c:PySem.W.codeIn K dY qual=true)(k:PySem.W.keepIn K (.ref f)=true):qt K x qual st f (PySem.W.fnOf x qual (aO st) (aI st) (ae st) .none kV doc pm an dY ct):=⟨⟨oc,od,kV,doc,pm,an,dY,ct,Jp,rfl,l,c⟩,k⟩
end
section
variable{X:Cx}
theorem pv(i:Nat){x:Str}{pos:Pos}(hN:X.N[i]?=some x:=by rfl)(hv:xS X.env.scope x:=by first|exact Or.inl rfl|exact Or.inr (Or.inl rfl)|exact Or.inr (Or.inr rfl))(hd:(x==("__debug__" :Str))=false:=by decide)
 (oU:(x==("__classdict__" :Str))=false:=by decide):PE X (.Name x pos) (l6 i):=en hN hv hd oU
end
noncomputable def aH(H H':Hp):Prop:=∀b o,H b=some o->H' b=some o
theorem aH.refl(H:Hp):aH H H:=λ_ _ h=>h
theorem aH.trans{H H1 H2:Hp}(a:aH H H1)(b:aH H1 H2):aH H H2:=λc o h=>b c o (a c o h)
theorem aH.free{H H':Hp}(e:aH H H'){l:Addr}(h:H' l=Option.none):H l=Option.none:=by
 cases q:H l with
 |none=>rfl
 |some o=>
  rw[e l o q]at h
  cases h
noncomputable def vP(sc:Scope)(env:Env):List (Str×Addr):=sc.names.foldl (λcs p=>if p.2=.free then(p.1,(env.cells.lookup p.1).getD 0)::cs else cs) []
theorem vQ(env:Env):∀(ns:List (Str×NameKind)) (acc:List (Str×Addr)),(∀p∈ns,p.2=.free->∃c,env.cells.lookup p.1=some c)->
  (forIn ns acc (λ(x:Str×NameKind) (r:List (Str×Addr))=>match x with|(name,kind)=>if(kind==.free)=true then(do let c<-cellOf env name;pure (ForInStep.yield ((name,c)::r)))else pure (ForInStep.yield r)):Sem _)=
    pure (ns.foldl (λcs p=>if p.2=.free then(p.1,(env.cells.lookup p.1).getD 0)::cs else cs) acc)
 |[],acc,_=>rfl
 |(n,k)::ns,acc,h=>by
  rw[List.forIn_cons]
  by_cases hk:k=.free
  ·subst hk
   obtain⟨c,hc⟩:=h (n,.free) (List.mem_cons_self ..) rfl
   have e1:cellOf env n=pure c:=by
    unfold cellOf
    rw[hc]
   dsimp only
   rw[if_pos (by rfl),e1,pure_bind,pure_bind,List.foldl_cons,if_pos rfl,hc]
   exact vQ env ns _ λp hp=>h p (List.mem_cons_of_mem _ hp)
  ·dsimp only
   rw[if_neg (by simpa using hk),pure_bind,List.foldl_cons,if_neg hk]
   exact vQ env ns _ λp hp=>h p (List.mem_cons_of_mem _ hp)
theorem BH{sc:Scope}{env:Env}(h:∀p∈sc.names,p.2=.free->∃c,env.cells.lookup p.1=some c):closureFor sc env=pure (vP sc env):=by
 unfold closureFor vP
 have:=vQ env sc.names [] h
 exact(congrArg (λm:Sem (List (Str×Addr))=>m>>=λr=>pure r) this).trans rfl
theorem BI(env:Env):∀(ns:List (Str×NameKind)) (acc:List (Str×Addr)) (y:Str) (c:Addr),(ns.foldl (λcs p=>if p.2=.free then(p.1,(env.cells.lookup p.1).getD 0)::cs else cs) acc).lookup y=some c->
  acc.lookup y=some c\/((y,NameKind.free)∈ns/\c=(env.cells.lookup y).getD 0)
 |[],acc,y,c,h=>.inl h
 |(n,k)::ns,acc,y,c,h=>by
  rw[List.foldl_cons]at h
  rcases BI env ns _ y c h with h1|⟨h1,h2⟩
  ·by_cases hk:k=.free
   ·rw[if_pos hk,List.lookup_cons]at h1
    by_cases hy:(y==n)=true
    ·rw[hy]at h1
     have e:y=n:=eq_of_beq hy
     subst e
     exact .inr ⟨by rw[hk];exact List.mem_cons_self ..,(Option.some.inj h1).symm⟩
    ·rw[Bool.not_eq_true]at hy
     rw[hy]at h1
     exact .inl h1
   ·rw[if_neg hk]at h1
    exact .inl h1
  ·exact .inr ⟨List.mem_cons_of_mem _ h1,h2⟩
theorem Ar(env:Env):∀(ns:List (Str×NameKind)) (acc:List (Str×Addr)) (y:Str),((y,NameKind.free)∈ns\/∃c,acc.lookup y=some c)->∃c,(ns.foldl (λcs p=>if p.2=.free then(p.1,(env.cells.lookup p.1).getD 0)::cs else cs) acc).lookup y=some c
 |[],acc,y,h=>by
  rcases h with h|h
  ·cases h
  ·exact h
 |(n,k)::ns,acc,y,h=>by
  rw[List.foldl_cons]
  refine Ar env ns _ y ?_
  rcases h with h|⟨c,h⟩
  ·rcases List.mem_cons.mp h with e|h
   ·injection e with e1 e2
    subst e1 e2
    rw[if_pos rfl,List.lookup_cons]
    exact .inr ⟨_,by rw[beq_self_eq_true]⟩
   ·exact .inl h
  ·refine .inr ?_
   split
   ·rw[List.lookup_cons]
    cases y==n with
    |true=>exact⟨_,rfl⟩
    |false=>exact⟨c,h⟩
   ·exact⟨c,h⟩
structure g9(BJ:Scope)(N:List Str)(sc:Scope)(x:Str)(ys:List Str):Prop where
 kind:sc.kind=.function
 xloc:sc.names.lookup x=some .local
 nocell:∀p∈sc.names,p.2≠.cell
 locs:∀p∈sc.names,p.2=.local->sc.names.lookup p.1=some .local
 free:∀p∈sc.names,p.2=.free->BJ.names.lookup p.1=some .cell\/BJ.names.lookup p.1=some .free
 nd:(x::ys).Nodup
 len:ys.length=N.length
 pl:∀p∈ys.zip N,sc.names.lookup p.1=some .free->p.1=p.2
 nl:∀y∈ys,sc.names.lookup y≠some .local
noncomputable def o9(BJ:Scope)(N:List Str)(sc:Scope)(x:Str)(ys:List Str):Bool:=
 decide (sc.kind=.function)&&decide (sc.names.lookup x=some .local)&&decide (∀p∈sc.names,p.2≠.cell)&&decide (∀p∈sc.names,p.2=.local->sc.names.lookup p.1=some .local)&&
 decide (∀p∈sc.names,p.2=.free->BJ.names.lookup p.1=some .cell\/BJ.names.lookup p.1=some .free)&&decide ((x::ys).Nodup)&&decide (ys.length=N.length)&&
 decide (∀p∈ys.zip N,sc.names.lookup p.1=some .free->p.1=p.2)&&decide (∀y∈ys,sc.names.lookup y≠some .local)
theorem g9.of{BJ:Scope}{N:List Str}{sc:Scope}{x:Str}{ys:List Str}(h:o9 BJ N sc x ys=true):g9 BJ N sc x ys:=by
 unfold o9 at h
 simp only[Bool.and_eq_true,decide_eq_true_eq]at h
 obtain⟨⟨⟨⟨⟨⟨⟨⟨h1,h2⟩,h3⟩,h4⟩,h5⟩,h6⟩,h7⟩,h8⟩,h9⟩:=h
 exact⟨h1,h2,h3,h4,h5,h6,h7,h8,h9⟩
noncomputable def Cx.qY(X:Cx)(sc:Scope)(x:Str)(ys:List Str)(ex:List Addr)(C:Addr)(s:Shared)(H:Hp):Cx where
 prog:=X.prog
 w:=X.w
 K:=X.K
 mg:=X.mg
 base:=X.base
 A:=X.A
 N:=x::ys
 s₀:=s
 H₀:=H
 env:=compEnvC sc (vP sc X.env) C X.env
 outer:=X.stack
 stack:=X.stack
 ex:=ex
 fn:=λ_=>false
 calm:=X.calm
 pn:=[]
 xe:=λ_ _=>False
theorem cH{env:Env}:∀{ns:List (Str×NameKind)} {y:Str} {k:NameKind},(ns.map λ(n,k)=>if(k==NameKind.free&&env.scope.kind==.function&&env.kindOf n==some .cell)then(n,NameKind.cell)else(n,k)).lookup y=some k->
  ns.lookup y=some k\/(ns.lookup y=some .free/\k=.cell)
 |[],y,k,h=>by cases h
 |(n,j)::ns,y,k,h=>by
  rw[List.map_cons]at h
  dsimp only at h
  cases hy:y==n with
  |true=>
   by_cases hc:(j==NameKind.free&&env.scope.kind==.function&&env.kindOf n==some .cell)=true
   ·rw[if_pos hc,List.lookup_cons,hy]at h
    have hj:j=.free:=by
     simp only[Bool.and_eq_true]at hc
     exact eq_of_beq hc.1.1
    refine .inr ⟨?_,(Option.some.inj h).symm⟩
    rw[List.lookup_cons,hy,hj]
   ·rw[if_neg hc,List.lookup_cons,hy]at h
    refine .inl ?_
    rw[List.lookup_cons,hy]
    exact h
  |false=>
   have h':(ns.map λ(n,k)=>if(k==NameKind.free&&env.scope.kind==.function&&env.kindOf n==some .cell)then(n,NameKind.cell)else(n,k)).lookup y=some k:=by
    by_cases hc:(j==NameKind.free&&env.scope.kind==.function&&env.kindOf n==some .cell)=true
    ·rw[if_pos hc,List.lookup_cons,hy]at h
     exact h
    ·rw[if_neg hc,List.lookup_cons,hy]at h
     exact h
   rw[List.lookup_cons,hy]
   exact cH h'
section
variable{X:Cx}{pins:List (Addr×Obj)}{σ:St}{H:Hp}{s:Shared}{sc:Scope}{x:Str}{ys:List Str}
theorem g9.cell(cs:g9 X.env.scope X.N sc x ys)(I:Inv X pins σ H s){y:Str}(h:(y,NameKind.free)∈sc.names):∃c,X.env.cells.lookup y=some c:=I.ok.has y (cs.free _ h rfl)
theorem g9.cl(cs:g9 X.env.scope X.N sc x ys)(I:Inv X pins σ H s){y:Str}{c:Addr}(h:(vP sc X.env).lookup y=some c):X.env.cells.lookup y=some c/\(y,NameKind.free)∈sc.names:=by
 rcases BI X.env sc.names [] y c h with h1|⟨h1,h2⟩
 ·cases h1
 ·obtain⟨d,hd⟩:=cs.cell I h1
  rw[hd]at h2
  rw[h2]
  exact⟨hd,h1⟩
theorem Lf(cs:g9 X.env.scope X.N sc x ys)(I:Inv X pins σ H s){fp:List Addr}(hf:∀b∈fp,oY X pins H b)(xP:∀b∈fp,b<s.heap.objs.size){C:Addr}(hC:s.heap.objs.size<=C):(X.qY sc x ys fp C s H).Ok where
 mod:=I.ok.mod
 kind:=cs.kind
 glob:=I.ok.glob
 blt:=I.ok.blt
 above:=hC
 inj:=λy z c h1 h2=>I.ok.inj y z c (cs.cl I h1).1 (cs.cl I h2).1
 has:=λy hy=>by
  have U5:(relabel sc X.env).names.lookup y=some .cell\/(relabel sc X.env).names.lookup y=some .free:=hy
  have hf:(y,NameKind.free)∈sc.names:=by
   rcases U5 with h|h
   ·rcases cH h with h1|⟨h1,_⟩
    ·exact absurd rfl (cs.nocell _ (PySem.mem_of_lookup h1))
    ·exact PySem.mem_of_lookup h1
   ·rcases cH h with h1|⟨h1,_⟩
    ·exact PySem.mem_of_lookup h1
    ·exact PySem.mem_of_lookup h1
  exact Ar X.env sc.names [] y (.inl hf)
 cab:=λy c h=>by cases h
 hd:=I.ok.hd
 frames:=I.ok.frames
 stk:=.inl rfl
 exf:=λb hb=>⟨λe=>by
  have:=xP b hb
  rw[e]at this
  exact absurd (Nat.lt_of_lt_of_le this hC) (Nat.lt_irrefl _),λy c h=>(hf b hb).2.2.2.2.1 y c (cs.cl I h).1⟩
 bs:=I.bs
 bsz:=Nat.le_trans I.ok.bsz I.sz
 noex:=λb o e hb=>by
  rcases(hf b hb).2.2.2.1 with h|h
  ·exact I.ok.noex b o e h
  ·exact absurd (Nat.lt_of_lt_of_le (Heap.lt_size e) (Nat.le_trans I.ok.bsz h)) (Nat.lt_irrefl _)
 exfs:=λb hb h=>(List.mem_cons.mp (I.Ah b h)).elim (hf b hb).2.1 (hf b hb).2.2.1
 funs:=I.stack
 frf:=I.Bv
end
noncomputable def Hj(X:Cx)(ifs:List Expr)(t:TT):Prop:=
 ∀(pins:List (Addr×Obj)) (s:Shared) (σ:St) (H:Hp) (Q:Bool->Hp->Prop),Inv X pins σ H s->t σ H Q->
  wpAny (model X.prog X.w) X.A (forIn ifs true λc r=>if r=true then do let ok<-isTrue c X.env (eval c X.env);pure (ForInStep.yield ok)else pure (ForInStep.yield r)) (TP X pins σ Q) X.xe s
theorem x5{X:Cx}:Hj X [] (λ_ H Q=>Q true H):=λpins s σ H Q I h=>wpAny_tests_nil ⟨H,I,h⟩
noncomputable def Ea(wi:TI)(tt:TT)(te:TE):TE:=λσ H Q=>wi σ H λJ H1=>∃W:Nat->Nat->List V->Hp->Prop,(∃m,W 0 m [] H1)/\∀i m acc H,W i m acc H->
 (J.stop i H/\∀p,H p=none->Q (.ref p) (upd H p (.lst acc)))\/(J.go i H/\acc.length<sizeLine/\∀y H',J.yld i H y H'->tt (some y::σ) H' λb H2=>
   if b=true then te (some y::σ) H2 λz H3=>∃m',m'<m/\W (i+1) m' (acc++[z]) H3 else∃m',m'<m/\W (i+1) m' acc H2)
section
variable{X:Cx}{sc:Scope}{x:Str}{ys:List Str}{px:Pos}{elt iter:Expr}{ifs:List Expr}{pos:Pos}{wi:TI}{tt:TT}{te:TE}
noncomputable def lobj(its:List Value)(n:Nat):Obj:={cls:=.type "list",data:=.seq its.toArray n}
theorem x8{M:Value->Env->Result->Shared->Prop}{pins:List (Addr×Obj)}{σ:St}{H:Hp}{s:Shared}{E:Value->Shared->Prop}(hc:X.calm=true)(cs:g9 X.env.scope X.N sc x ys)(I:Inv X pins σ H s)
  (ht:∀ex C s H,Hj (X.qY sc x ys ex C s H) ifs tt)(he:∀ex C s H,PE (X.qY sc x ys ex C s H) elt te)
  {it:Addr}{fp:List Addr}{tn:Nat->Heap->Prop}{J:It}(T:Turn X.prog X.w X.K (.Name x px) J fp it tn)(st:tn 0 s.heap)(hf:∀b∈fp,oY X pins H b)
  {W:Nat->Nat->List V->Hp->Prop}{m0:Nat}(w0:W 0 m0 [] H){F:List V->Hp->Prop}
  (turn:∀i m acc H,W i m acc H->(J.stop i H/\F acc H)\/(J.go i H/\acc.length<sizeLine/\∀y H',J.yld i H y H'->tt (some y::σ) H' λb H2=>
    if b=true then te (some y::σ) H2 λz H3=>∃m',m'<m/\W (i+1) m' (acc++[z]) H3 else∃m',m'<m/\W (i+1) m' acc H2))
  (hM:∀(D C:Addr) (l7:Env) (s':Shared) (acc:List V) (H':Hp) (its:List Value) (n:Nat),l7.locals=C->D≠C->s.heap.objs.size<=D->s.heap.objs.size<=C->Inv (X.qY sc x ys fp C s H) [(D,lobj its n)] (none::σ) H' s'->Vals acc its->acc.length<=sizeLine->F acc H'->
    M (.ref D) l7 (.ok .next) s'):
  wpAny (model X.prog X.w) X.A (newList []) (λacc s₃=>wpAny (model X.prog X.w) X.A (newFunctionEnv sc X.env.globals (vP sc X.env) [] X.env.qual none .none (some X.env)) (λl7 s₄=>
   codeAny (model X.prog X.w) X.A (.compStart (.ListComp elt [⟨.Name x px,iter,ifs,0⟩] sc pos) 0 (.ref it) acc {l7 with scope:=relabel sc X.env}) (M acc l7) s₄) E s₃) E s:=by
 have xP:∀b∈fp,b<s.heap.objs.size:=λb hb=>by
  obtain⟨o,e,_⟩:=T.obj 0 _ st b hb
  exact Heap.lt_size e
 refine wpAny_newObj_type (wpAny_newFunctionEnv cs.nocell (by intro y hy;simp at hy) (λh1 MS Rf=>?_) cs.kind)
 dsimp only at MS Rf⊢
 generalize MT:s.heap.push {cls:=.type "list",dict:=none,data:=.seq ([]:List Value).toArray}=h2 at MS Rf⊢
 have hC:h2.objs.size=s.heap.objs.size+1:=by rw[<-MT,Heap.size_push]
 have GP:s.heap.objs.size≠h2.objs.size:=by omega
 have old:∀b o,s.heap.get? b=some o->h1.get? b=some o:=λb o e=>by
  have hb:=Heap.lt_size e
  rw[Rf.2 b (by rw[hC];exact Nat.ne_of_lt (Nat.lt_succ_of_lt hb))]
  exact Heap.get?_push_of_some _ (MT▸Heap.get?_push_of_some _ e)
 have hD:h1.get? s.heap.objs.size=some (lobj [] 0):=by
  rw[Rf.2 _ GP]
  exact Heap.get?_push_of_some _ (MT▸Heap.get?_push_size _ rfl)
 generalize Wn:h2.objs.size=C at*
 have Lg:s.heap.objs.size<=C:=by omega
 have Eb:∀b,s.heap.objs.size<=b->H b=none:=λb hb=>I.eT.fresh hb
 have Kr:∀b,s.heap.objs.size<=b->b∉CD X.stack:=λb hb z=>by
  obtain⟨_,o,ho,_⟩:=(I.stack).mem z
  exact absurd (Nat.lt_of_lt_of_le (Heap.lt_size ho) hb) (Nat.lt_irrefl _)
 have I0:Inv (X.qY sc x ys fp C s H) [(s.heap.objs.size,lobj [] 0)] (none::σ) H {s with heap:=h1,toks:=s.toks+([]:List (Str×Value)).length}:=by
  refine⟨Lf cs I hf xP Lg,rfl,I.bare,Un.kept old,⟨_,MS,λi y v e1 e2 e3=>?_⟩,λy c e=>?_,Eb _ Lg,λy c e=>I.freeC y c (cs.cl I e).1,λp hp=>?_,I.eT.kept old,?_⟩
  ·cases i with
   |zero=>cases e2
   |succ i=>
    have Ss:ys[i]?=some y:=e1
    have U6:σ[i]?=some (some v):=e2
    have DH:(relabel sc X.env).names.lookup y=some .local\/(relabel sc X.env).names.lookup y=some .cell\/(relabel sc X.env).names.lookup y=some .free:=e3
    have Su:sc.names.lookup y=some .free:=by
     rcases DH with h|h|h
     ·rcases cH h with h1|⟨_,h1⟩
      ·exact absurd h1 (cs.nl y (List.mem_of_getElem? Ss))
      ·cases h1
     ·rcases cH h with h1|⟨h1,_⟩
      ·exact absurd rfl (cs.nocell _ (PySem.mem_of_lookup h1))
      ·exact h1
     ·rcases cH h with h1|⟨h1,_⟩
      ·exact h1
      ·exact h1
    have hi:i<X.N.length:=by
     rw[<-cs.len]
     exact(List.getElem?_eq_some_iff.mp Ss).1
    have hN:X.N[i]?=some y:=by
     have hz:(ys.zip X.N)[i]?=some (y,X.N[i]):=by
      rw[List.getElem?_zip_eq_some]
      exact⟨Ss,List.getElem?_eq_getElem hi⟩
     have:=cs.pl _ (List.mem_of_getElem? hz) Su
     dsimp only at this
     rw[this]
     exact List.getElem?_eq_getElem hi
    have Lh:(y,NameKind.free)∈sc.names:=PySem.mem_of_lookup Su
    obtain⟨m,hn,hl⟩:=I.loc
    obtain⟨u,r,lk⟩:=hl i y v hN U6 (.inr (cs.free _ Lh rfl))
    refine⟨u,r,.inr ⟨?_,?_⟩⟩
    ·rcases DH with h|h
     ·rcases cH h with h1|⟨_,h1⟩
      ·rw[Su]at h1
       cases h1
      ·cases h1
     ·exact h
    ·rcases lk with⟨k,_⟩|⟨_,c,e,z⟩
     ·rcases cs.free _ Lh rfl with h|h
      ·have k':X.env.scope.names.lookup y=some .local:=k
       rw[h]at k'
       cases k'
      ·have k':X.env.scope.names.lookup y=some .local:=k
       rw[h]at k'
       cases k'
     ·obtain⟨c',M7⟩:=Ar X.env sc.names [] y (.inl Lh)
      have:c'=c:=by
       have:=(cs.cl I (show(vP sc X.env).lookup y=some c' from M7)).1
       rw[e]at this
       exact(Option.some.inj this).symm
      subst this
      obtain⟨o,ho,hd⟩:=z
      exact⟨c',M7,o,old _ _ ho,hd⟩
  ·obtain⟨v,o,ho,hd⟩:=I.cell y c (cs.cl I e).1
   exact⟨v,o,old _ _ ho,hd⟩
  ·obtain rfl:p=(s.heap.objs.size,lobj [] 0):=by simpa using(show p∈([]:List (Addr×Obj))++[(s.heap.objs.size,lobj [] 0)]from hp)
   exact⟨hD,Eb _ (Nat.le_refl _),GP,Kr _ (Nat.le_refl _),λv z=>by cases z⟩
  ·show(none::σ).length=(x::ys).length
   rw[List.length_cons,List.length_cons,I.len,cs.len]
 have Sv:s.heap.objs.size∉fp:=λz=>Nat.lt_irrefl _ (xP _ z)
 have Sw:∀{nM:List (Addr×Obj)} {H':Hp} {s':Shared} {σ':St},Inv (X.qY sc x ys fp C s H) nM σ' H' s'->(∀b∈fp,H' b=none)->(∀p∈nM,p.1∉fp)->∀b∈fp,oY (X.qY sc x ys fp C s H) nM H' b:=λ{nM H' s' σ'} I' hn hp b hb=>
  ⟨hn b hb,(I'.ok.exf b hb).1,I'.ok.exfs b hb,.inl hb,(I'.ok.exf b hb).2,λp Sx z=>by
    have Sy:p∈nM:=by simpa using(show p∈([]:List (Addr×Obj))++nM from Sx)
    exact hp p Sy (z▸hb)⟩
 have loop:∀s3:Shared,s3={s with heap:=h1,toks:=s.toks+([]:List (Str×Value)).length}->∀l7:Env,l7.locals=C->
   codeAny (model X.prog X.w) X.A (.compLoop (.ListComp elt [⟨.Name x px,iter,ifs,0⟩] sc pos) 0 (.ref it) (.ref s.heap.objs.size) (compEnvC sc (vP sc X.env) C X.env)) (M (.ref s.heap.objs.size) l7) s3:=by
  rintro s3 rfl l7 Li
  refine codeAny_compLoop_tests (λm s'=>∃i acc H' its n,Inv (X.qY sc x ys fp C s H) [(s.heap.objs.size,lobj its n)] (none::σ) H' s'/\Vals acc its/\acc.length<=sizeLine/\tn i s'.heap/\(∀b∈fp,H' b=none)/\W i m acc H') ?_ m0
   ⟨0,[],H,[],0,I0,.nil,Nat.zero_le _,T.keep 0 _ _ st λb hb o e=>old b o e,λb hb=>(hf b hb).1,w0⟩
  rintro m s' ⟨i,acc,H',its,n,I1,rv,hz,T5,T6,w1⟩
  have Sz:∀p∈[(s.heap.objs.size,lobj its n)],p.1∉fp:=λp hp=>by
   obtain rfl:p=(s.heap.objs.size,lobj its n):=by simpa using hp
   exact Sv
  rcases turn i m acc H' w1 with⟨stop,fin⟩|⟨go,Wo,step⟩
  ·refine wpAny_mono (T.done (X.qY sc x ys fp C s H) rfl rfl rfl hc i _ s' _ H' (λ_ _=>False) I1 (Sw I1 T6 Sz) T5 stop) (λr s4 ⟨hr,I4⟩=>?_) (λ_ _ z=>z.elim)
   subst hr
   exact hM _ C l7 s4 acc H' its n Li GP (Nat.le_refl _) Lg I4 rv hz fin
  ·refine wpAny_mono (T.item (X.qY sc x ys fp C s H) rfl rfl rfl hc i _ s' _ H' (λ_ _=>False) I1 (Sw I1 T6 Sz) T5 go) (λr s4 d7=>?_) (λ_ _ z=>z.elim)
   obtain⟨u,hr,h4⟩:=d7
   subst hr
   dsimp only
   have e0:∀env:Env,(letOwnedTupleGo (.Name x px) (.ref it) u>>=λ_=>assign (.Name x px) env u)=assign (.Name x px) env u:=λenv=>by
    rw[show letOwnedTupleGo (.Name x px) (.ref it) u=pure ()from rfl,pure_bind]
   rw[<-e0]
   refine wpAny_bind (wpAny_mono h4 (λ_ s5 d7=>?_) (λ_ _ z=>z.elim))
   obtain⟨y,H5,I5,r5,y5,KQ,R4⟩:=d7
   have R5:=I5.pinned (Sw I5 R4 Sz) (T.obj _ _ KQ)
   have xl:(X.qY sc x ys fp C s H).env.scope.names.lookup x=some .local:=lookup_relabel_local cs.xloc
   refine wpAny_assign_Name (nO R5 cs.nd (i:=0) rfl (.inl xl) r5 (λs6 I6=>?_) (.inr xl))
   refine wpAny_mono (ht fp C s H _ s6 (some y::σ) H5 _ I6 (step y H5 y5)) (λb s7 d7=>?_) (λ_ _ z=>z.elim)
   obtain⟨H7,I7,q7⟩:=d7
   have Jq:∀{H':Hp} {s':Shared} {σ':St} {pl:List (Addr×Obj)},Inv (X.qY sc x ys fp C s H) (pl++jE fp s5.heap) σ' H' s'->tn (i+1) s'.heap/\∀b∈fp,H' b=none:=λ{H' s' σ' pl} I'=>by
    refine⟨T.keep _ _ _ KQ λb hb o e=>(I'.pin (b,o) (List.mem_append_right _ (List.mem_append_right _ (jF hb e)))).1,λb hb=>?_⟩
    obtain⟨o,e,d⟩:=T.obj _ _ KQ b hb
    exact(I'.pin (b,o) (List.mem_append_right _ (List.mem_append_right _ (jF hb e)))).2.1
   have wk:∀{H':Hp} {s':Shared} {pl:List (Addr×Obj)},Inv (X.qY sc x ys fp C s H) pl (some y::σ) H' s'->Inv (X.qY sc x ys fp C s H) pl (none::σ) H' s':=λ{H' s' pl} I'=>I'.weak (by simp) λj v e=>by
    cases j with
    |zero=>cases e
    |succ j=>exact e
   cases b with
   |false=>
    rw[if_neg Bool.false_ne_true]at q7
    obtain⟨m',hm,w7⟩:=q7
    obtain⟨t7,f7⟩:=Jq I7
    exact⟨m',hm,i+1,acc,H7,its,n,wk I7.nR,rv,hz,t7,f7,w7⟩
   |true=>
    rw[if_pos rfl]at q7
    refine wpAny_mono (he fp C s H _ s7 (some y::σ) H7 _ I7 q7) (λu8 s8 ⟨z,H8,I8,r8,m',hm,w8⟩=>?_) (λ_ _ z=>z.elim)
    obtain⟨t8,f8⟩:=Jq I8
    obtain⟨p1,p2,p3,p4,p5⟩:=I8.pin (s.heap.objs.size,lobj its n) (List.mem_append_right _ (List.mem_append_left _ (List.mem_singleton.mpr rfl)))
    have hl:=rv.length
    refine wpAny_list_append_plain (items:=its.toArray) ⟨n,p1⟩ (λh9 U7 sb9=>?_) (by rw[List.size_toArray];omega)
    obtain⟨n9,e9⟩:=U7
    have U8:h9.get? s.heap.objs.size=some (lobj (its++[u8]) n9):=by
     rw[e9]
     unfold lobj
     simp
    have Ia:Inv (X.qY sc x ys fp C s H) (jE fp s5.heap) (none::σ) H8 s8:=(wk I8).qA λp hp=>I8.pin p (List.mem_append_right _ (List.mem_append_right _ hp))
    have Ib:Inv (X.qY sc x ys fp C s H) (jE fp s5.heap) (none::σ) H8 {s8 with heap:=h9,toks:=s8.toks}:=Ia.turned (it:=s.heap.objs.size) (λb o hb e=>(sb9.2 b hb).trans e) p2 p3 (.inr (Nat.le_refl _))
     (λy c e z=>by
       obtain⟨v,o,ho,_⟩:=I.cell y c (cs.cl I e).1
       exact absurd (Heap.lt_size ho) (by rw[z];exact Nat.lt_irrefl _))
     (λp hp z=>by
       have Sx:p∈jE fp s5.heap:=by simpa using(show p∈([]:List (Addr×Obj))++jE fp s5.heap from hp)
       exact Sv (z▸(uW Sx).1))
    refine⟨m',hm,i+1,acc++[z],H8,its++[u8],n9,Ib.qA λp hp=>?_,rv.append (.cons r8 .nil),?_,T.keep _ _ _ t8 λb hb o e=>?_,f8,w8⟩
    ·obtain rfl:p=(s.heap.objs.size,lobj (its++[u8]) n9):=by simpa using hp
     exact⟨U8,p2,p3,p4,λv z=>by cases z⟩
    ·rw[List.length_append,List.length_singleton]
     omega
    ·exact(sb9.2 b (λz=>Sv (z▸hb))).trans e
 exact codeAny_compStart_list (loop _ rfl _ rfl) (T.self _ 0 _ _ _ (T.keep 0 _ _ st λb hb o e=>old b o e) (loop _ rfl _ rfl))
end
section
variable{X:Cx}{sc:Scope}{x:Str}{ys:List Str}{px:Pos}{elt iter:Expr}{ifs:List Expr}{pos:Pos}{wi:TI}{tt:TT}{te:TE}
theorem comp_back{pins:List (Addr×Obj)}{σ σ':St}{H H':Hp}{s s':Shared}(cs:g9 X.env.scope X.N sc x ys)(I:Inv X pins σ H s){fp:List Addr}(hf:∀b∈fp,oY X pins H b){D C:Addr}{its:List Value}{n:Nat}{acc:List V}
  (I':Inv (X.qY sc x ys fp C s H) [(D,lobj its n)] σ' H' s')(GP:D≠C)(hD:s.heap.objs.size<=D)(hC:s.heap.objs.size<=C)(rv:Vals acc its)(hz:acc.length<=sizeLine){h':Heap}(sb:Heap.SameBut C s'.heap h'):
  Inv X pins σ (upd H' D (.lst acc)) {s' with heap:=h'}:=by
 obtain⟨p1,p2,p3,p4,p5⟩:=I'.pin (D,lobj its n) (List.mem_append_right _ (List.mem_singleton.mpr rfl))
 have below:∀b o,s.heap.get? b=some o->b≠D/\b≠C:=λb o e=>⟨Nat.ne_of_lt (Nat.lt_of_lt_of_le (Heap.lt_size e) hD),Nat.ne_of_lt (Nat.lt_of_lt_of_le (Heap.lt_size e) hC)⟩
 have U:Un (CD X.stack) fp H H' s.heap s'.heap:=I'.base
 have nN:H' C=none:=I'.free
 refine I.M8 (ch:=fp) I'.os ⟨λb o e n hb hx=>?_,λb o e n hb hx=>?_,λb o e n hx=>?_,λb o e hx=>?_,λb xs e=>?_,λb o u e=>?_,λb ps e=>?_⟩ (λb o e=>?_) I'.bare λb hb=>⟨(hf b hb).2.2.2.1,(hf b hb).2.1,(hf b hb).2.2.2.2.1,(hf b hb).2.2.2.2.2⟩
 ·exact(sb.2 b (below b o e).2).trans (U.keep b o e n hb hx)
 ·obtain⟨sl,q⟩:=U.slot b o e n hb hx
  exact⟨sl,(sb.2 b (below b o e).2).trans q⟩
 ·rw[aJ (below b o e).1]
  exact U.free b o e n hx
 ·obtain⟨o',q⟩:=U.there b o e hx
  exact⟨o',(sb.2 b (below b o e).2).trans q⟩
 ·rw[aJ (bI (U.tG b xs e) p2)]
  exact U.tG b xs e
 ·rw[aJ (bI (U.qR b o u e) p2)]
  exact U.qR b o u e
 ·obtain⟨more,q⟩:=U.vD b ps e
  exact⟨more,by rw[aJ (bI q p2)];exact q⟩
 ·by_cases hb:b=D
  ·subst hb
   rw[aQ]at e
   cases e
   exact⟨hz,its,n,rv,(sb.2 b GP).trans p1⟩
  ·rw[aJ hb]at e
   refine(I'.eT b o e).xR (λc v hc q=>(sb.2 c ?_).trans q) (λc q=>?_) λc xs q=>?_
   ·rintro rfl
    rcases hc with hc|hc
    ·rw[hc,e]at nN
     cases nN
    ·rw[hc]at nN
     cases nN
   ·rw[aJ (bI q p2)]
    exact q
   ·rw[aJ (bI q p2)]
    exact q
theorem SameBut.SA(a:Addr)(h:Heap):Heap.SameBut a h h:=⟨rfl,λ_ _=>rfl⟩
theorem Hk(hi:PI X (.Name x px) iter wi)(ys:List Str)(ht:∀ex C s H,Hj (X.qY sc x ys ex C s H) ifs tt)(he:∀ex C s H,PE (X.qY sc x ys ex C s H) elt te)(Lj:o9 X.env.scope X.N sc x ys=true)(hc:X.calm=true:=by rfl)
  (hs:∀x,foldedSetIterable iter X.env x=pure x:=by intro _;rfl):PE X (.ListComp elt [⟨.Name x px,iter,ifs,0⟩] sc pos) (Ea wi tt te):=by
 have cs:=g9.of Lj
 intro pins s σ H Q I h
 rw[eval_ListComp]
 refine wpAny_comprehension_free (use:=none) (cl:=vP sc X.env) rfl hs (BH λp hp hk=>cs.cell I (by rw[<-hk];exact hp)) cs.kind cs.locs ?_
 refine eh (hi pins s σ H _ I h) λv s1 h1=>eh h1 λQ5 s2 h2=>?_
 obtain⟨it,fp,tn,J,H2,rfl,I2,T,Jk,f2,W,⟨m0,w0⟩,turn⟩:=h2
 refine x8 (M:=λacc l7=>compPost (model X.prog X.w) X.A X.xe none (EP X pins σ Q) acc l7.locals) hc cs I2 ht he T Jk f2 w0 (F:=λacc H=>∀p,H p=none->Q (.ref p) (upd H p (.lst acc))) turn λD C l7 s' acc H' its n Li GP hD hC I' rv hz q=>?_
 obtain⟨m,hn,_⟩:=I'.loc
 refine⟨m,by rw[Li];exact hn,λh' sb=>?_⟩
 rw[Li]at sb
 exact⟨.ref D,_,comp_back cs I2 f2 I' GP hD hC rv hz sb,rfl,q D (I'.pin (D,lobj its n) (List.mem_append_right _ (List.mem_singleton.mpr rfl))).2.1⟩
theorem Hl{i:Nat}{y:Str}{py Ec:Pos}(hN:X.N.Nodup)(SD:X.N[i]?=some y)(hy:X.env.scope.names.lookup y=some .local)(hi:PI X (.Name x px) iter wi)(ys:List Str)(ht:∀ex C s H,Hj (X.qY sc x ys ex C s H) ifs tt)(he:∀ex C s H,PE (X.qY sc x ys ex C s H) elt te)
  (Lj:o9 X.env.scope X.N sc x ys=true)(hc:X.calm=true:=by rfl)(hs:∀x,foldedSetIterable iter X.env x=pure x:=by intro _;rfl)
  (SE:swapsWith (.ListComp elt [⟨.Name x px,iter,ifs,0⟩] sc pos) (some (.Name y py)) Ec.line X.env=pure true:=by rfl):
  PS X (.Assign [.Name y py] (.ListComp elt [⟨.Name x px,iter,ifs,0⟩] sc pos) Ec) (λD σ H=>Ea wi tt te σ H λv H1=>D.nx (σ.set i (some v)) H1):=by
 have cs:=g9.of Lj
 intro pins s σ H D I h
 rw[exec_Assign_Name_used _ _ _ _ SE]
 refine wpAny_bind (wpAny_standAt (wpAny_bind ?_))
 show wpAny _ X.A (do let _<-comprehension (.ListComp elt [⟨.Name x px,iter,ifs,0⟩] sc pos) sc X.env _ (newList []) false (eval iter X.env) (some (assign (.Name y py) X.env))) _ _ s
 refine wpAny_bind (wpAny_mono (wpAny_comprehension_free (use:=some (assign (.Name y py) X.env)) (cl:=vP sc X.env) (Q:=λ_ s'=>SP X pins D .next s') rfl hs (BH λp hp hk=>cs.cell I (by rw[<-hk];exact hp)) cs.kind cs.locs ?_) (λ_ s' hq=>wpAny_pure (wpAny_pure hq)) λ_ _ e=>e)
 refine eh (hi pins s σ H _ I h) λv s1 h1=>eh h1 λQ5 s2 h2=>?_
 obtain⟨it,fp,tn,J,H2,rfl,I2,T,Jk,f2,W,⟨m0,w0⟩,turn⟩:=h2
 refine x8 (M:=λacc l7=>compPost (model X.prog X.w) X.A X.xe (some (assign (.Name y py) X.env)) (λ_ s'=>SP X pins D .next s') acc l7.locals) hc cs I2 ht he T Jk f2 w0
  (F:=λacc H=>∀p,H p=none->D.nx (σ.set i (some (.ref p))) (upd H p (.lst acc))) turn λDa C l7 s' acc H' its n Li GP hD hC I' rv hz q=>?_
 obtain⟨m,hn,_⟩:=I'.loc
 have Io:=comp_back cs I2 f2 I' GP hD hC rv hz (SameBut.SA C s'.heap)
 have T7:C≠X.env.locals:=λe=>absurd (Nat.lt_of_lt_of_le I2.lt hC) (by rw[e];exact Nat.lt_irrefl _)
 have T8:∀z c,X.env.cells.lookup z=some c->c≠C:=λz c e e'=>by
  obtain⟨v,o,ho,_⟩:=I2.cell z c e
  exact absurd (Nat.lt_of_lt_of_le (Heap.lt_size ho) hC) (by rw[e'];exact Nat.lt_irrefl _)
 refine wpAny_assign_Name (uU (v:=.ref Da) Io hN SD (.inl hy) rfl (λNx U9 d7=>?_) (.inr hy))
 obtain⟨a,sb,ha⟩:=d7
 have Va:C≠a:=by
  rcases ha with e|e
  ·rw[e]
   exact T7
  ·exact(T8 y a e).symm
 refine⟨m,by rw[Li];exact hn.sameBut sb Va,λh' T9=>?_⟩
 rw[Li]at T9
 have nN:(upd H' Da (.lst acc)) C=none:=by
  rw[aJ GP.symm]
  exact I'.free
 refine⟨_,_,U9.turned (t':=Nx.toks) (it:=C) (λb o hb e=>(T9.2 b hb).trans e) nN T7 (.inr (Nat.le_trans I2.sz hC)) T8 (λp hp e=>?_),q Da (I'.pin (Da,lobj its n) (List.mem_append_right _ (List.mem_singleton.mpr rfl))).2.1⟩
 exact absurd (Nat.lt_of_lt_of_le (Heap.lt_size (I2.pin p hp).1) hC) (by rw[e];exact Nat.lt_irrefl _)
end
end L2
namespace L2
open PySem PySem.Spec PyProof.Rows PySem.SeqAt
section
variable{X:Cx}{pins:List (Addr×Obj)}{σ:St}{H:Hp}{s:Shared}{a b:Addr}{xs ys:List V}{A:Around}
theorem x9(I:Inv X pins σ H s)(ha:mP X.K H a xs)(hb:mP X.K H b ys)(hu:A.units<cLine)(q:Nat->Bool)
  (hq:∀(j:Nat) x y u v,xs[j]?=some x->ys[j]?=some y->RelV x u->RelV y v->EqAt A.in1 s u v (q j)):RcAt A s (.ref a) (.ref b) (decide (xs.length=ys.length)&&(List.range xs.length).all q):=by
 obtain⟨its,r1,p1,z1⟩:=I.list ha
 obtain⟨tK,r2,p2,z2⟩:=I.list hb
 have l1:=r1.length
 have l2:=r2.length
 by_cases hl:xs.length=ys.length
 ·rw[decide_eq_true hl,Bool.true_and]
  have:=RcAt.lists (A:=A) (s:=s) (e:=q) p1.isList p2.isList (by rw[List.size_toArray,List.size_toArray];omega) hu λj h1 h2=>?_
  ·rw[List.size_toArray,<-l1]at this
   exact this
  ·rw[List.size_toArray]at h1 h2
   obtain⟨x,hx⟩:∃x,xs[j]?=some x:=⟨xs[j],List.getElem?_eq_getElem (by omega)⟩
   obtain⟨y,hy⟩:∃y,ys[j]?=some y:=⟨ys[j],List.getElem?_eq_getElem (by omega)⟩
   obtain⟨u,e1,ru⟩:=r1.get hx
   obtain⟨v,e2,rv⟩:=r2.get hy
   have f1:its.toArray[j]=u:=by
    have:=(List.getElem?_eq_some_iff.mp e1).2
    simpa using this
   have f2:tK.toArray[j]=v:=by
    have:=(List.getElem?_eq_some_iff.mp e2).2
    simpa using this
   rw[f1,f2]
   exact hq j x y u v hx hy ru rv
 ·rw[decide_eq_false hl,Bool.false_and]
  exact RcAt.lists_lengths p1.isList p2.isList (by rw[List.size_toArray,List.size_toArray];simp;omega) hu
theorem Au(I:Inv X pins σ H s)(ha:mP X.K H a xs)(hb:mP X.K H b ys)(hu:A.units<cLine)(q:Nat->Bool)
  (hq:∀(j:Nat) x y u v,xs[j]?=some x->ys[j]?=some y->RelV x u->RelV y v->EqAt A.in1 s u v (q j)):RcNeAt A s (.ref a) (.ref b) (!(decide (xs.length=ys.length)&&(List.range xs.length).all q)):=by
 obtain⟨its,r1,p1,z1⟩:=I.list ha
 obtain⟨tK,r2,p2,z2⟩:=I.list hb
 have l1:=r1.length
 have l2:=r2.length
 by_cases hl:xs.length=ys.length
 ·rw[decide_eq_true hl,Bool.true_and]
  have:=RcNeAt.lists (A:=A) (s:=s) (e:=q) p1.isList p2.isList (by rw[List.size_toArray,List.size_toArray];omega) hu λj h1 h2=>?_
  ·rw[List.size_toArray,<-l1]at this
   exact this
  ·rw[List.size_toArray]at h1 h2
   obtain⟨x,hx⟩:∃x,xs[j]?=some x:=⟨xs[j],List.getElem?_eq_getElem (by omega)⟩
   obtain⟨y,hy⟩:∃y,ys[j]?=some y:=⟨ys[j],List.getElem?_eq_getElem (by omega)⟩
   obtain⟨u,e1,ru⟩:=r1.get hx
   obtain⟨v,e2,rv⟩:=r2.get hy
   have f1:its.toArray[j]=u:=by
    have:=(List.getElem?_eq_some_iff.mp e1).2
    simpa using this
   have f2:tK.toArray[j]=v:=by
    have:=(List.getElem?_eq_some_iff.mp e2).2
    simpa using this
   rw[f1,f2]
   exact hq j x y u v hx hy ru rv
 ·rw[decide_eq_false hl,Bool.false_and]
  exact RcNeAt.lists_lengths p1.isList p2.isList (by rw[List.size_toArray,List.size_toArray];simp;omega) hu
theorem range_all(bs:List Bool):(List.range bs.length).all (λi=>bs.getD i false)=bs.all id:=by
 rw[Bool.eq_iff_iff,List.all_eq_true,List.all_eq_true]
 constructor
 ·intro h b h1
  obtain⟨i,hi,e⟩:=List.mem_iff_getElem.mp h1
  have:=h i (List.mem_range.mpr hi)
  rw[List.getD_eq_getElem?_getD,List.getElem?_eq_getElem hi,e]at this
  exact this
 ·intro h i h1
  have hi:=List.mem_range.mp h1
  rw[List.getD_eq_getElem?_getD,List.getElem?_eq_getElem hi]
  exact h bs[i] (List.getElem_mem hi)
end
end L2
namespace L2.D
open PySem
inductive PV where
 |non|bl(b:Bool)|int(i:Int)|str(x:Str)|lst(l:List PV)|tup(l:List PV)|ins(c:Nat)(l:List PV)
 deriving Inhabited
noncomputable def flat:PV->Bool
 |.non=>true
 |.bl _=>true
 |.int _=>true
 |.str _=>true
 |_=>false
noncomputable def GQ:PV->PV->Bool
 |.non,.non=>true
 |.bl a,.bl b=>a==b
 |.bl a,.int b=>(if a then 1 else 0)==b
 |.int a,.bl b=>a==(if b then 1 else 0)
 |.int a,.int b=>a==b
 |.str a,.str b=>a==b
 |_,_=>false
noncomputable def qu(f:PV->PV->Option Bool):List PV->List PV->Option (List Bool)
 |a::l,b::m=>(f a b).bind λe=>(qu f l m).map (e::·)
 |_,_=>some []
noncomputable def GR(f:PV->PV->Option Bool)(l m:List PV):Option Bool:=if l.length=m.length then(qu f l m).map λes=>es.all id else some false
noncomputable def lO:Nat->PV->PV->Option Bool
 |n+1,.lst l,.lst m=>GR (lO n) l m
 |n+1,.tup l,.tup m=>if l.length=m.length then GR (lO n) l m else none
 |_,p,q=>if flat p&&flat q then some (GQ p q)else none
inductive Cn where
 |l(xs:List PV)|d(cp:List (Int×PV))
 deriving Inhabited
inductive Slot where
 |un|sh(p:PV)|own(c:Cn)|bw(l:List PV)
 deriving Inhabited
noncomputable abbrev Slot.ow(l:List PV):Slot:=.own (.l l)
noncomputable abbrev di:=List Slot
noncomputable abbrev Den:=di->Option PV
noncomputable def Slot.val:Slot->Option PV
 |.un=>none
 |.sh p=>some p
 |.own (.l l)=>some (.lst l)
 |.own (.d _)=>none
 |.bw l=>some (.lst l)
noncomputable def Slot.SF:Slot->Option PV
 |.sh p=>some p
 |_=>none
inductive Fl where
 |nx(ρ:di)|rt(p:PV)|bk(ρ:di)|ct(ρ:di)
noncomputable abbrev aY:=di->Option Fl
noncomputable abbrev ef:=di->Option Bool
noncomputable abbrev dq:=di->Option (List PV)
noncomputable def dC(p:PV):Den:=λ_=>some p
noncomputable def dV(i:Nat):Den:=λρ=>(ρ[i]?).bind Slot.val
noncomputable def cP(i:Nat):Den:=λρ=>(ρ[i]?).bind Slot.SF
noncomputable def bf(g:PV->Option PV)(a:Den):Den:=λρ=>(a ρ).bind g
noncomputable def ag(g:PV->PV->Option PV)(a b:Den):Den:=λρ=>(a ρ).bind λx=>(b ρ).bind λy=>g x y
noncomputable def aP:dq:=λ_=>some []
noncomputable def af(a:Den)(as:dq):dq:=λρ=>(a ρ).bind λx=>(as ρ).bind λxs=>some (x::xs)
noncomputable def cx(F:List PV->Option PV)(as:dq):Den:=λρ=>(as ρ).bind F
noncomputable def Av(as:dq):Den:=λρ=>(as ρ).bind λxs=>if xs.length<=sizeLine then some (.lst xs)else none
noncomputable def gc(as:dq):Den:=λρ=>(as ρ).bind λxs=>if xs.length<=sizeLine then some (.tup xs)else none
noncomputable def Lk:PV->Option Bool
 |.bl b=>some b
 |_=>none
noncomputable def tV(a:Den):ef:=λρ=>(a ρ).bind Lk
noncomputable def xU(a b:ef):ef:=λρ=>(a ρ).bind λc=>if c then some true else b ρ
noncomputable def nQ(a:ef):ef:=λρ=>(a ρ).map (!·)
noncomputable def bF:PV->PV->Option PV
 |.int i,.int j=>some (.int (i+j))
 |.str x,.str y=>if x.length+y.length<=sizeLine then some (.str (x++y))else none
 |.lst l,.lst m=>if l.length+m.length<=sizeLine then some (.lst (l++m))else none
 |_,_=>none
noncomputable def CQ:PV->PV->Option PV
 |.int i,.int j=>some (.int (i-j))
 |_,_=>none
noncomputable def yb(i j:Int):Bool:=(decide (-(2^64)<i)&&decide (i<2^64))||(decide (-(2^64)<j)&&decide (j<2^64))
noncomputable def pd:PV->PV->Option PV
 |.int i,.int j=>if yb i j then some (.int (i*j))else none
 |_,_=>none
noncomputable def jH:PV->PV->Option PV
 |.int i,.int j=>if decide (0<j)&&decide (j<1073741824)then some (.int (i/j))else none
 |_,_=>none
noncomputable def da:PV->PV->Option PV
 |.int i,.int j=>if decide (0<j)then some (.int (i % j))else none
 |_,_=>none
noncomputable def qZ:PV->Option PV
 |.int i=>some (.int (-i))
 |_=>none
noncomputable def eqT:PV->PV->Option Bool
 |.non,.non=>some true
 |.non,.int _=>some false
 |.non,.bl _=>some false
 |.non,.str _=>some false
 |.int _,.non=>some false
 |.bl _,.non=>some false
 |.str _,.non=>some false
 |.int a,.int b=>some (decide (a=b))
 |.bl a,.bl b=>some (decide (a=b))
 |.str a,.str b=>some (decide (a=b))
 |.int _,.str _=>some false
 |.str _,.int _=>some false
 |.bl _,.str _=>some false
 |.str _,.bl _=>some false
 |.lst l,.lst m=>lO 20 (.lst l) (.lst m)
 |.tup l,.tup m=>lO 20 (.tup l) (.tup m)
 |_,_=>none
noncomputable def oW(a b:PV):Option PV:=(eqT a b).map PV.bl
noncomputable def Ua(a b:PV):Option PV:=(eqT a b).map λe=>PV.bl !e
noncomputable def GS:PV->PV->Option PV
 |.int i,.int j=>some (.bl (decide (i<j)))
 |_,_=>none
noncomputable def Jr:PV->PV->Option PV
 |.int i,.int j=>some (.bl (decide (j<i)))
 |_,_=>none
noncomputable def yc:PV->Option PV
 |.non=>some (.bl true)
 |_=>some (.bl false)
noncomputable def vR(x:PV)(l:List PV):Bool:=l.any λy=>GQ y x
noncomputable def NO:PV->PV->Option PV
 |x,.lst l=>if flat x&&l.all flat then some (.bl (vR x l))else none
 |x,.tup l=>if flat x&&l.all flat then some (.bl (vR x l))else none
 |_,_=>none
noncomputable def ra:PV->PV->Option PV
 |x,.lst l=>if flat x&&l.all flat then some (.bl (!vR x l))else none
 |x,.tup l=>if flat x&&l.all flat then some (.bl (!vR x l))else none
 |_,_=>none
noncomputable def MU(n:Nat)(i:Int):Option Nat:=if 0<=i then(if i<n then some i.toNat else none)else if-(n:Int)<=i then some (i+n).toNat else none
noncomputable def itemAt{α:Type}(l:List α)(i:Int):Option α:=(MU l.length i).bind λj=>l[j]?
noncomputable def lP:PV->PV->Option PV
 |.lst l,.int i=>itemAt l i
 |.tup l,.int i=>itemAt l i
 |.str x,.int i=>if x.length<=sizeLine then(itemAt x.cps.toList i).map λc=>.str ⟨#[c]⟩else none
 |_,_=>none
noncomputable def eg:PV->Option PV
 |.lst l=>some (.int l.length)
 |.tup l=>some (.int l.length)
 |.str x=>if x.length<=sizeLine then some (.int x.length)else none
 |_=>none
noncomputable def yd:PV->Option PV
 |.lst l=>some (.lst l)
 |.tup l=>some (.lst l)
 |_=>none
noncomputable def BK:PV->Nat
 |.int _=>0
 |.bl _=>1
 |.str _=>2
 |.lst _=>3
 |.tup _=>4
 |.non=>5
 |.ins _ _=>6
noncomputable def Aw(k:Nat)(p:PV):Bool:=BK p==k||(k==0&&BK p==1)
noncomputable def lQ(k:Nat)(p:PV):Option PV:=if BK p=6 then none else some (.bl (Aw k p))
noncomputable def ye(n d:Nat):Option Int->Nat
 |none=>d
 |some i=>if i<0 then(i+n).toNat else min i.toNat n
noncomputable def ky{α:Type}(l:List α)(lo hi:Option Int):List α:=(l.drop (ye l.length 0 lo)).take (ye l.length l.length hi-ye l.length 0 lo)
noncomputable abbrev vS:=di->Option (Option Int)
noncomputable def eW:vS:=λ_=>some none
noncomputable def Rh:PV->Option Int
 |.int i=>some i
 |_=>none
noncomputable def bX(a:Den):vS:=λρ=>(a ρ).bind λp=>(Rh p).map some
noncomputable def BL(a:Den)(lo hi:vS):Den:=λρ=>(a ρ).bind λx=>(lo ρ).bind λl=>(hi ρ).bind λh=>match x with
 |.lst xs=>some (.lst (ky xs l h))
 |_=>none
noncomputable def Ee:PV->Option (List PV)
 |.lst l=>some l
 |_=>none
noncomputable def Ax:PV->Option (List PV)
 |.tup l=>some l
 |_=>none
noncomputable def nList(a:Den):dq:=λρ=>(a ρ).bind Ee
noncomputable def Ef(a:Den):dq:=λρ=>(a ρ).bind Ax
noncomputable def jI(lo:Int)(n:Nat):List PV:=(List.range n).map λk=>.int (lo+(k:Nat))
noncomputable def yf(j:Int):Bool:=decide (-(2^62)<=j)&&decide (j<2^62)
noncomputable def mi(a:Den):dq:=λρ=>(a ρ).bind λp=>(Rh p).bind λj=>if yf j then some (jI 0 j.toNat)else none
noncomputable def mj(c:ef)(e:Den)(ρ:di):List PV->Option (List PV)
 |[]=>some []
 |x::xs=>(c (.sh x::ρ)).bind λb=>if b then(e (.sh x::ρ)).bind λz=>(mj c e ρ xs).map (z::·)else mj c e ρ xs
noncomputable def dr:ef:=λ_=>some true
noncomputable def dZ(it:dq)(c:ef)(e:Den):Den:=λρ=>(it ρ).bind λxs=>if xs.length<=sizeLine then(mj c e ρ xs).map PV.lst else none
noncomputable def cI:aY:=λρ=>some (.nx ρ)
noncomputable def ba(a b:aY):aY:=λρ=>(a ρ).bind λf=>match f with
 |.nx ρ'=>b ρ'
 |f=>some f
noncomputable def cU(i:Nat)(a:Den):aY:=λρ=>(a ρ).map λp=>.nx (ρ.set i (.sh p))
noncomputable def nV(i:Nat)(a:Den):aY:=λρ=>(a ρ).bind λp=>(Ee p).map λl=>.nx (ρ.set i (.ow l))
noncomputable def bZ(a:Den):aY:=λρ=>(a ρ).map Fl.rt
noncomputable def jD(t:ef)(a b:aY):aY:=λρ=>(t ρ).bind λc=>if c then a ρ else b ρ
noncomputable def rb:aY:=λρ=>some (.bk ρ)
noncomputable def Hm(i:Nat):aY:=λρ=>match ρ[i]? with
 |some (.own (.l l))=>some (.nx (ρ.set i (.sh (.lst l))))
 |_=>some (.nx ρ)
noncomputable def yg(ρ:di)(i:Nat):Option (List PV):=match ρ[i]? with
 |some (.own (.l l))=>some l
 |_=>none
noncomputable def rf(i:Nat)(g:List PV->List PV->Option (List PV))(as:dq):aY:=λρ=>(as ρ).bind λxs=>(yg ρ i).bind λl=>(g l xs).map λl'=>.nx (ρ.set i (.ow l'))
noncomputable def iL(l xs:List PV):Option (List PV):=match xs with
 |[x]=>if l.length<sizeLine then some (l++[x])else none
 |_=>none
noncomputable def Eg(l xs:List PV):Option (List PV):=match xs with
 |[]=>some []
 |_=>none
noncomputable abbrev tx:=PV->di->Option di
noncomputable def b0(i:Nat):tx:=λp ρ=>some (ρ.set i (.sh p))
noncomputable def pf(a b:tx):tx:=λp ρ=>match p with
 |.tup [x,y]=>(a x ρ).bind (b y)
 |_=>none
noncomputable def forL(g:tx)(body:aY):List PV->aY
 |[]=>λρ=>some (.nx ρ)
 |x::xs=>λρ=>(g x ρ).bind λρ1=>(body ρ1).bind λf=>match f with
  |.nx ρ'=>forL g body xs ρ'
  |.ct ρ'=>forL g body xs ρ'
  |.bk ρ'=>some (.nx ρ')
  |.rt p=>some (.rt p)
noncomputable def rg(it:dq)(g:tx)(body:aY):aY:=λρ=>(it ρ).bind λxs=>forL g body xs ρ
noncomputable def fM(t:ef)(body:aY):Nat->aY
 |0=>λ_=>none
 |n+1=>λρ=>(t ρ).bind λc=>if c then(body ρ).bind λf=>match f with
   |.nx ρ'=>fM t body n ρ'
   |.ct ρ'=>fM t body n ρ'
   |.bk ρ'=>some (.nx ρ')
   |.rt p=>some (.rt p)
  else some (.nx ρ)
noncomputable def jz(a b:Den):Den:=λρ=>(a ρ).bind λx=>(Lk x).bind λc=>if c then b ρ else some (.bl false)
noncomputable def Eh(a:Den):Den:=λρ=>(a ρ).bind λx=>(Lk x).map λc=>.bl !c
noncomputable def Js(i:Nat):aY:=λρ=>(yg ρ i).map λl=>.rt (.lst l)
noncomputable def l8(a b:PV):Option PV:=match a with
 |.tup _=>none
 |_=>Ua a b
noncomputable def rh:List PV->Option (List Int)
 |[]=>some []
 |.int i::l=>(rh l).map (i::·)
 |_::_=>none
noncomputable def vT:PV->Option PV
 |.lst l=>some (.tup l)
 |.tup l=>some (.tup l)
 |_=>none
noncomputable def iZ(n:Nat)(ps:List PV):di:=ps.map Slot.sh++List.replicate (n-ps.length) .un
noncomputable def NP(fr:Bool):Fl->Option PV
 |.rt p=>some p
 |.nx _=>if fr then none else some .non
 |_=>none
noncomputable def fn(fr:Bool)(n k:Nat)(body:aY)(ps:List PV):Option PV:=if ps.length=k then(body (iZ n ps)).bind (NP fr)else none
noncomputable def BM:List tx->List PV->di->Option di
 |[],[],ρ=>some ρ
 |t::ts,p::ps,ρ=>(t p ρ).bind (BM ts ps)
 |_,_,_=>none
noncomputable def Ei(ts:List tx):tx:=λp ρ=>match p with
 |.tup l=>BM ts l ρ
 |_=>none
noncomputable def NQ(g:tx)(a:Den):aY:=λρ=>(a ρ).bind λp=>(g p ρ).map Fl.nx
noncomputable def bY(x:Str)(lo hi:Option Int)(st:Int):Str:=if(st==1&&(Builtin.Str.strSliceIndices lo hi st x.length).length==x.length)=true then x else⟨((Builtin.Str.strSliceIndices lo hi st x.length).filterMap (x.cps[·]?)).toArray⟩
noncomputable def jJ(a:Den)(lo hi:vS):Den:=λρ=>(a ρ).bind λx=>(lo ρ).bind λl=>(hi ρ).bind λh=>match x with
 |.lst xs=>some (.lst (ky xs l h))
 |.str y=>if y.length<=sizeLine then some (.str (bY y l h 1))else none
 |_=>none
noncomputable def Ll:PV->Option PV
 |.str y=>if y.length<=sizeLine then some (.str (bY y none none (-1)))else none
 |_=>none
noncomputable def Jt:PV->PV->Option PV
 |.str x,.str y=>some (.int (Txt.find x y))
 |_,_=>none
noncomputable def u9:List PV->Option (List Str)
 |[]=>some []
 |.str x::l=>(u9 l).map (x::·)
 |_::_=>none
noncomputable def yh:PV->PV->Option PV
 |.str x,.lst l=>(u9 l).bind λts=>if JoinOk x ts then some (.str (Txt.join x ts))else none
 |_,_=>none
noncomputable def CS:PV->Option PV
 |.int i=>if decide (i.natAbs<1000000)then some (.str (toString i))else none
 |_=>none
noncomputable def NR:List Int->Option Int
 |[]=>none
 |x::l=>some (l.foldl (λa b=>if b>a then b else a) x)
noncomputable def gF(ft:Nat->List Str)(f:Str):PV->Option PV
 |.ins c l=>((ft c).zip l).lookup f
 |_=>none
noncomputable def eX(Fs:Nat->List PV->Option PV)(o:Den)(as:dq):Den:=λρ=>(o ρ).bind λp=>match p with
 |.ins c l=>(as ρ).bind λxs=>Fs c (.ins c l::xs)
 |_=>none
noncomputable def BN:PV->Option PV
 |.str x=>some (.ins 0 [.str x])
 |_=>none
noncomputable def yi:PV->Option PV
 |.lst l=>some (.ins 1 [.int l.length,.tup l])
 |_=>none
noncomputable def yj:PV->Option PV
 |.lst l=>some (.ins 2 [.int 1,.tup l])
 |_=>none
noncomputable def ri:PV->PV->Option PV
 |.int m,.lst l=>some (.ins 3 [.int m,.tup l])
 |_,_=>none
noncomputable def MV(c:Nat):List Str:=if c=0 then["name"]else if c<4 then["wanted","parts"]else[]
noncomputable def Lm:PV->Option PV
 |.ins c _=>if decide (c<4)then some (.bl true)else none
 |_=>none
noncomputable def ml:PV->Option PV
 |.lst l=>(rh l).bind λns=>(NR ns).map PV.int
 |_=>none
noncomputable def toS:PV->Option Str
 |.str x=>some x
 |_=>none
theorem qD{p:PV}{x:Str}(h:toS p=some x):p=.str x:=by
 cases p<;>first|(cases h;done)|skip
 cases h
 rfl
end L2.D
namespace L2.D
open PySem PySem.Spec PyProof.Rows
open Classical
structure Kl where
 adr:Nat->Addr
 fld:Nat->List Str
noncomputable def SL(K:PySem.W.Frag)(H:Hp)(a:Addr)(xs:List V):Prop:=
 Rd H a (.lst xs)\/∃(its:List Value) (n:Nat),K.lookup a=some {cls:=.type "list",data:=.seq its.toArray n}/\its.length<=sizeLine/\Vals xs its
theorem SL.of{K:PySem.W.Frag}{H:Hp}{a:Addr}{xs:List V}(h:H a=some (.lst xs)):SL K H a xs:=.inl (.inl h)
theorem SL.sq{K:PySem.W.Frag}{H:Hp}{a:Addr}{xs:List V}(h:SL K H a xs):mP K H a xs:=by
 rcases h with h|⟨its,n,h1,h2,h3⟩
 ·exact .inl h
 ·exact .inr ⟨_,its.toArray,n,h1,rfl,rfl,rfl,by simpa using h2,by simpa using h3⟩
theorem _root_.L2.aH.sl{K:PySem.W.Frag}{H H':Hp}{a:Addr}{xs:List V}(e:aH H H')(h:SL K H a xs):SL K H' a xs:=by
 rcases h with(h|⟨o,h⟩)|h
 ·exact .inl (.inl (e _ _ h))
 ·exact .inl (.inr ⟨o,e _ _ h⟩)
 ·exact .inr h
theorem _root_.L2.Inv.sl{X:Cx}{pins:List (Addr×Obj)}{σ:St}{H:Hp}{s:Shared}{a:Addr}{xs:List V}(I:Inv X pins σ H s)(h:SL X.K H a xs):∃(its:List Value) (n:Nat),Vals xs its/\s.heap.get? a=some {cls:=.type "list",data:=.seq its.toArray n}/\xs.length<=sizeLine:=by
 rcases h with h|⟨its,n,h1,h2,h3⟩
 ·obtain⟨z,its,n,r,e⟩:=h.ok I.eT
  exact⟨its,n,r,e,z⟩
 ·exact⟨its,n,h3,I.jC a _ h1,by rw[h3.length];exact h2⟩
mutual
inductive Rep(K:PySem.W.Frag)(κ:Kl)(H:Hp):V->PV->Prop
 |non:Rep K κ H .non .non
 |bl (b:Bool):Rep K κ H (.bl b) (.bl b)
 |int (i:Int):Rep K κ H (.int i) (.int i)
 |str (x:Str):Rep K κ H (.str x) (.str x)
 |lst {a:Addr} {vs:List V} {l:List PV}:SL K H a vs->aS K κ H vs l->Rep K κ H (.ref a) (.lst l)
 |tup {a:Addr} {vs:List V} {l:List PV}:mQ K H a vs->aS K κ H vs l->Rep K κ H (.ref a) (.tup l)
 |ins {a dx:Addr} {c:Nat} {vs:List V} {l:List PV}:H a=some (.ins (κ.adr c) dx ((κ.fld c).zip vs))->vs.length=(κ.fld c).length->aS K κ H vs l->Rep K κ H (.ref a) (.ins c l)
inductive aS(K:PySem.W.Frag)(κ:Kl)(H:Hp):List V->List PV->Prop
 |nil:aS K κ H [] []
 |cons {v:V} {p:PV} {vs:List V} {l:List PV}:Rep K κ H v p->aS K κ H vs l->aS K κ H (v::vs) (p::l)
end
section
variable{K:PySem.W.Frag}{κ:Kl}{H H' H1:Hp}
theorem va{a:Addr}{xs:List V}(e:aH H H')(h:mQ K H a xs):mQ K H' a xs:=by
 rcases h with(h|⟨o,h⟩)|h
 ·exact .inl (.inl (e _ _ h))
 ·exact .inl (.inr ⟨o,e _ _ h⟩)
 ·exact .inr h
mutual
theorem Rep.mono(e:aH H H'):∀{v:V} {p:PV},Rep K κ H v p->Rep K κ H' v p
 |_,_,.non=>.non
 |_,_,.bl b=>.bl b
 |_,_,.int i=>.int i
 |_,_,.str x=>.str x
 |_,_,.lst h r=>.lst (e.sl h) (aS.mono e r)
 |_,_,.tup h r=>.tup (va e h) (aS.mono e r)
 |_,_,.ins h z r=>.ins (e _ _ h) z (aS.mono e r)
theorem aS.mono(e:aH H H'):∀{vs:List V} {l:List PV},aS K κ H vs l->aS K κ H' vs l
 |_,_,.nil=>.nil
 |_,_,.cons r t=>.cons (Rep.mono e r) (aS.mono e t)
end
theorem aS.length:∀{vs:List V} {l:List PV},aS K κ H vs l->vs.length=l.length
 |_,_,.nil=>rfl
 |_,_,.cons _ t=>by rw[List.length_cons,List.length_cons,t.length]
theorem aS.append:∀{vs ws:List V} {l m:List PV},aS K κ H vs l->aS K κ H ws m->aS K κ H (vs++ws) (l++m)
 |_,_,_,_,.nil,s=>s
 |_,_,_,_,.cons r t,s=>.cons r (t.append s)
theorem aS.get:∀{vs:List V} {l:List PV} {i:Nat} {p:PV},aS K κ H vs l->l[i]?=some p->∃v,vs[i]?=some v/\Rep K κ H v p
 |_,_,_,_,.nil,e=>by simp at e
 |_,_,0,_,.cons r _,e=>by simp at e;subst e;exact⟨_,rfl,r⟩
 |_,_,i+1,p,.cons _ t,e=>by
  obtain⟨v,h1,h2⟩:=aS.get (i:=i) (p:=p) t (by simpa using e)
  exact⟨v,by simpa using h1,h2⟩
theorem aS.Ay:∀{vs:List V} {l:List PV} {i:Nat} {v:V},aS K κ H vs l->vs[i]?=some v->∃p,l[i]?=some p/\Rep K κ H v p
 |_,_,_,_,.nil,e=>by simp at e
 |_,_,0,_,.cons r _,e=>by simp at e;subst e;exact⟨_,rfl,r⟩
 |_,_,i+1,v,.cons _ t,e=>by
  obtain⟨p,h1,h2⟩:=aS.Ay (i:=i) (v:=v) t (by simpa using e)
  exact⟨p,by simpa using h1,h2⟩
theorem aS.take:∀{vs:List V} {l:List PV} (n:Nat),aS K κ H vs l->aS K κ H (vs.take n) (l.take n)
 |_,_,0,_=>.nil
 |_,_,_+1,.nil=>.nil
 |_,_,n+1,.cons r t=>.cons r (t.take n)
theorem aS.drop:∀{vs:List V} {l:List PV} (n:Nat),aS K κ H vs l->aS K κ H (vs.drop n) (l.drop n)
 |_,_,0,r=>r
 |_,_,_+1,.nil=>.nil
 |_,_,n+1,.cons _ t=>t.drop n
theorem Rep.flat{v:V}{p:PV}(f:flat p=true)(r:Rep K κ H v p):Rep K κ H' v p:=by
 cases r with
 |non=>exact .non
 |bl b=>exact .bl b
 |int i=>exact .int i
 |str x=>exact .str x
 |lst _ _=>simp[D.flat]at f
 |tup _ _=>simp[D.flat]at f
 |ins _ _ _=>simp[D.flat]at f
end
noncomputable def hide(A:Addr->Prop)(H:Hp):Hp:=λb=>if A b then none else H b
theorem bO{A:Addr->Prop}{H:Hp}{b:Addr}(h:¬A b):hide A H b=H b:=if_neg h
theorem cq{A:Addr->Prop}{H:Hp}{b:Addr}{o:HO}(h:hide A H b=some o):¬A b/\H b=some o:=by
 unfold hide at h
 by_cases e:A b
 ·rw[if_pos e]at h
  cases h
 ·rw[if_neg e]at h
  exact⟨e,h⟩
theorem bC{A:Addr->Prop}{H H':Hp}(h:aH H H'):aH (hide A H) (hide A H'):=λb o e=>by
 obtain⟨h1,h2⟩:=cq e
 rw[bO h1]
 exact h b o h2
theorem cY{A B:Addr->Prop}{H H':Hp}(h:aH H H')(s:∀b,B b->H b≠none->A b):aH (hide A H) (hide B H'):=λb o e=>by
 obtain⟨h1,h2⟩:=cq e
 rw[bO λz=>h1 (s b z (by rw[h2];simp))]
 exact h b o h2
theorem aG{A:Addr->Prop}{H:Hp}:aH (hide A H) H:=λb o e=>(cq e).2
theorem nW{A:Addr->Prop}{H:Hp}{a:Addr}{o:HO}(h:A a):hide A (upd H a o)=hide A H:=by
 funext b
 unfold hide
 by_cases e:A b
 ·rw[if_pos e,if_pos e]
 ·rw[if_neg e,if_neg e]
  exact aJ λz=>e (z▸h)
theorem cJ{H:Hp}{a:Addr}{o:HO}(h:H a=none):aH H (upd H a o):=λb u q=>by rw[aJ (bI q h)];exact q
noncomputable def Ej:Cn->List V->HO
 |.l _,vs=>.lst vs
 |.d d,vs=>.dK (List.zipWith (λ(p:Int×PV) (v:V)=>((Sum.inl p.1:Key),v)) d vs)
noncomputable def Ln:Cn->List PV
 |.l l=>l
 |.d d=>d.map (·.2)
noncomputable def vU(own:Nat->Addr)(ρ:di):Addr->Prop:=λb=>∃i l,ρ[i]?=some (.own l)/\own i=b
noncomputable def cK(A:Addr->Prop)(own:Nat->Addr)(ρ:di):Addr->Prop:=λb=>A b\/vU own ρ b
noncomputable abbrev cZ(A:Addr->Prop)(own:Nat->Addr)(ρ:di)(H:Hp):Hp:=hide (cK A own ρ) H
structure R(K:PySem.W.Frag)(κ:Kl)(G:Hp)(A:Addr->Prop)(bo:Nat->Option (Addr×List V))(own:Nat->Addr)(ρ:di)(σ:St)(H:Hp):Prop where
 al:∀b,A b->G b≠none
 bg:∀i a vs,bo i=some (a,vs)->G a=some (.lst vs)
 same:aH G H
 sh:∀(i:Nat) p,ρ[i]?=some (.sh p)->∃v,σ[i]?=some (some v)/\Rep K κ (cZ A own ρ H) v p
 ow:∀(i:Nat) l,ρ[i]?=some (.own l)->σ[i]?=some (some (.ref (own i)))/\G (own i)=none/\∃vs,H (own i)=some (Ej l vs)/\aS K κ (cZ A own ρ H) vs (Ln l)
 inj:∀(i j:Nat) l m,ρ[i]?=some (.own l)->ρ[j]?=some (.own m)->own i=own j->i=j
 bw:∀(i:Nat) l,ρ[i]?=some (.bw l)->∃a vs,bo i=some (a,vs)/\σ[i]?=some (some (.ref a))/\aS K κ (cZ A own ρ H) vs l
 len:σ.length=ρ.length
section
variable{K:PySem.W.Frag}{κ:Kl}{G G' H H' H1:Hp}{A:Addr->Prop}{bo:Nat->Option (Addr×List V)}{own cV:Nat->Addr}{ρ ρ':di}{σ σ':St}
theorem R.mono(r:R K κ G A bo own ρ σ H)(s:aH H H1):R K κ G A bo own ρ σ H1 where
 al:=r.al
 bg:=r.bg
 same:=r.same.trans s
 sh:=λi p e=>let⟨v,h1,h2⟩:=r.sh i p e;⟨v,h1,h2.mono (bC s)⟩
 ow:=λi l e=>let⟨h1,h2,vs,h3,h4⟩:=r.ow i l e;⟨h1,h2,vs,s _ _ h3,h4.mono (bC s)⟩
 inj:=r.inj
 bw:=λi l e=>let⟨a,vs,h1,h2,h3⟩:=r.bw i l e;⟨a,vs,h1,h2,h3.mono (bC s)⟩
 len:=r.len
theorem R.new(r:R K κ G A bo own ρ σ H){a:Addr}(h:H a=none):¬cK A own ρ a:=by
 rintro(z|⟨i,l,h1,rfl⟩)
 ·cases e:G a with
  |none=>exact r.al a z e
  |some o=>
   rw[r.same _ _ e]at h
   cases h
 ·obtain⟨_,_,vs,h3,_⟩:=r.ow i l h1
  rw[h3]at h
  cases h
theorem R.GU(r:R K κ G A bo own ρ σ H){b:Addr}(h:cK A own ρ b):H b≠none:=λz=>r.new z h
noncomputable def DD(own:Nat->Addr)(ρ:di)(H:Hp):Hp:=hide (vU own ρ) H
theorem yk:hide A (DD own ρ H)=cZ A own ρ H:=by
 funext b
 unfold DD cZ hide cK
 by_cases h1:A b<;>by_cases h2:vU own ρ b<;>simp[h1,h2]
theorem R.gv(r:R K κ G A bo own ρ σ H):aH G (DD own ρ H):=λb o e=>by
 unfold DD
 rw[bO]
 ·exact r.same _ _ e
 ·rintro⟨i,l,h1,rfl⟩
  rw[(r.ow i l h1).2.1]at e
  cases e
theorem R.big(r:R K κ G A bo own ρ σ H):R K κ (DD own ρ H) A bo own ρ σ H where
 al:=λb h z=>by
  cases e:G b with
  |none=>exact r.al b h e
  |some o=>
   rw[r.gv _ _ e]at z
   cases z
 bg:=λi a vs h=>r.gv _ _ (r.bg i a vs h)
 same:=aG
 sh:=r.sh
 ow:=λi l e=>let⟨h1,h2,h3⟩:=r.ow i l e;⟨h1,by unfold DD hide;rw[if_pos ⟨i,l,e,rfl⟩],h3⟩
 inj:=r.inj
 bw:=r.bw
 len:=r.len
theorem R.small(r:R K κ G' A bo own ρ σ H)(s:aH G G')(al:∀b,A b->G b≠none)(bg:∀i a vs,bo i=some (a,vs)->G a=some (.lst vs)):R K κ G A bo own ρ σ H where
 al:=al
 bg:=bg
 same:=s.trans r.same
 sh:=r.sh
 ow:=λi l e=>let⟨h1,h2,h3⟩:=r.ow i l e;⟨h1,s.free h2,h3⟩
 inj:=r.inj
 bw:=r.bw
 len:=r.len
theorem R.Ho(r:R K κ G A bo own ρ σ H):aH (hide A G) (cZ A own ρ H):=λb o e=>by
 obtain⟨h1,h2⟩:=cq e
 rw[cZ,bO]
 ·exact r.same _ _ h2
 ·rintro(z|⟨i,l,h3,rfl⟩)
  ·exact h1 z
  ·rw[(r.ow i l h3).2.1]at h2
   cases h2
theorem Ek{i:Nat}{p:PV}{b:Addr}(h:vU own (ρ.set i (.sh p)) b):vU own ρ b:=by
 obtain⟨j,l,h1,h2⟩:=h
 rw[List.getElem?_set]at h1
 split at h1
 ·split at h1<;>cases h1
 ·exact⟨j,l,h1,h2⟩
theorem lR{i:Nat}{p:PV}:aH (cZ A own ρ H) (cZ A own (ρ.set i (.sh p)) H):=cY (λ_ _ h=>h) λb h _=>by
 rcases h with h|h
 ·exact .inl h
 ·exact .inr (Ek h)
theorem R.set(r:R K κ G A bo own ρ σ H){i:Nat}{v:V}{p:PV}(h:Rep K κ (cZ A own ρ H) v p):R K κ G A bo own (ρ.set i (.sh p)) (σ.set i (some v)) H:=by
 have ne:∀{j:Nat} {x:Slot},(ρ.set i (.sh p))[j]?=some x->x≠.sh p->i≠j/\ρ[j]?=some x:=λ{j x} e nx=>by
  rw[List.getElem?_set]at e
  split at e
  ·split at e
   ·exact absurd (Option.some.inj e).symm nx
   ·cases e
  ·exact⟨by assumption,e⟩
 refine⟨r.al,r.bg,r.same,λj q e=>?_,λj l e=>?_,λj k l m e f=>?_,λj l e=>?_,by rw[List.length_set,List.length_set];exact r.len⟩
 ·by_cases hj:i=j
  ·subst hj
   rw[List.getElem?_set]at e
   rw[if_pos rfl]at e
   split at e
   ·injection e with e
    injection e with e
    subst e
    exact⟨v,by rw[List.getElem?_set,if_pos rfl,if_pos (by rw[r.len];assumption)],h.mono lR⟩
   ·cases e
  ·rw[List.getElem?_set,if_neg hj]at e
   obtain⟨u,h1,h2⟩:=r.sh j q e
   exact⟨u,by rw[List.getElem?_set,if_neg hj];exact h1,h2.mono lR⟩
 ·obtain⟨hj,e⟩:=ne e (by simp)
  obtain⟨h1,h2,vs,h3,h4⟩:=r.ow j l e
  exact⟨by rw[List.getElem?_set,if_neg hj];exact h1,h2,vs,h3,h4.mono lR⟩
 ·exact r.inj j k l m (ne e (by simp)).2 (ne f (by simp)).2
 ·obtain⟨hj,e⟩:=ne e (by simp)
  obtain⟨a,vs,h1,h2,h3⟩:=r.bw j l e
  exact⟨a,vs,h1,by rw[List.getElem?_set,if_neg hj];exact h2,h3.mono lR⟩
theorem R.NS(r:R K κ G A bo own ρ σ H){i:Nat}{a:Addr}{vs:List V}{l:Cn}(hG:G a=none)(hA:¬A a)(hj:∀(j:Nat) m,ρ[j]?=some (.own m)->j≠i->own j≠a)(s:aH (cZ A own ρ H) (hide (λb=>cK A own ρ b\/b=a) H1))(hk:∀b o,H b=some o->b≠a->H1 b=some o)
  (h1:H1 a=some (Ej l vs))(h2:aS K κ (hide (λb=>cK A own ρ b\/b=a) H1) vs (Ln l)):R K κ G A bo (λj=>if j=i then a else own j) (ρ.set i (.own l)) (σ.set i (some (.ref a))) H1:=by
 by_cases hi:i<ρ.length
 rotate_left
 ·rw[List.set_eq_of_length_le (by omega),List.set_eq_of_length_le (by rw[r.len];omega)]
  have oe:∀(j:Nat) x,ρ[j]?=some x->(if j=i then a else own j)=own j:=λj x e=>if_neg λz=>by
   have:=(List.getElem?_eq_some_iff.mp e).1
   omega
  have se:cK A (λj=>if j=i then a else own j) ρ=cK A own ρ:=by
   funext b
   unfold cK vU
   refine propext (or_congr Iff.rfl ⟨?_,?_⟩)
   ·rintro⟨j,m,e,z⟩
    exact⟨j,m,e,by rw[<-oe j _ e];exact z⟩
   ·rintro⟨j,m,e,z⟩
    exact⟨j,m,e,by show(if j=i then a else own j)=b;rw[oe j _ e];exact z⟩
  have sm:aH (cZ A own ρ H) (cZ A own ρ H1):=s.trans (cY (λ_ _ h=>h) λb h _=>.inl h)
  refine⟨r.al,r.bg,λb o e=>hk b o (r.same _ _ e) (λz=>by rw[z,hG]at e;cases e),λj q e=>?_,λj m e=>?_,λj k m n e f z=>?_,λj m e=>?_,r.len⟩
  ·obtain⟨u,z1,z2⟩:=r.sh j q e
   exact⟨u,z1,by rw[cZ,se];exact z2.mono sm⟩
  ·rw[oe j _ e]
   obtain⟨z1,z2,ws,z3,z4⟩:=r.ow j m e
   have Ub:j≠i:=λz=>by
    have:=(List.getElem?_eq_some_iff.mp e).1
    omega
   exact⟨z1,z2,ws,hk _ _ z3 (hj j m e Ub),by rw[cZ,se];exact z4.mono sm⟩
  ·skip
   rw[oe j _ e,oe k _ f]at z
   exact r.inj j k m n e f z
  ·obtain⟨b,ws,z1,z2,z3⟩:=r.bw j m e
   exact⟨b,ws,z1,z2,by rw[cZ,se];exact z3.mono sm⟩
 have NT:∀b,cK A (λj=>if j=i then a else own j) (ρ.set i (.own l)) b->cK A own ρ b\/b=a:=λb h=>by
  rcases h with h|⟨j,m,e,z⟩
  ·exact .inl (.inl h)
  ·by_cases SG:j=i
   ·subst SG
    try dsimp only at z
    rw[if_pos rfl]at z
    exact .inr z.symm
   ·dsimp only at z
    rw[if_neg SG]at z
    rw[List.getElem?_set,if_neg (Ne.symm SG)]at e
    exact .inl (.inr ⟨j,m,e,z⟩)
 have sm:aH (hide (λb=>cK A own ρ b\/b=a) H1) (cZ A (λj=>if j=i then a else own j) (ρ.set i (.own l)) H1):=cY (λ_ _ h=>h) λb h _=>NT b h
 have SH:aH (cZ A own ρ H) (cZ A (λj=>if j=i then a else own j) (ρ.set i (.own l)) H1):=s.trans sm
 refine⟨r.al,r.bg,λb o e=>hk b o (r.same _ _ e) (λz=>by rw[z,hG]at e;cases e),λj q e=>?_,λj m e=>?_,λj k m n e f z=>?_,λj m e=>?_,by rw[List.length_set,List.length_set];exact r.len⟩
 ·by_cases tL:i=j
  ·subst tL
   rw[List.getElem?_set,if_pos rfl,if_pos hi]at e
   cases e
  ·rw[List.getElem?_set,if_neg tL]at e
   obtain⟨u,z1,z2⟩:=r.sh j q e
   exact⟨u,by rw[List.getElem?_set,if_neg tL];exact z1,z2.mono SH⟩
 ·by_cases tL:i=j
  ·subst tL
   rw[List.getElem?_set,if_pos rfl,if_pos hi]at e
   injection e with e
   injection e with e
   subst e
   try dsimp only
   rw[if_pos rfl]
   exact⟨by rw[List.getElem?_set,if_pos rfl,if_pos (by rw[r.len];exact hi)],hG,vs,h1,h2.mono sm⟩
  ·rw[List.getElem?_set,if_neg tL]at e
   obtain⟨z1,z2,ws,z3,z4⟩:=r.ow j m e
   try dsimp only
   rw[if_neg (Ne.symm tL)]
   exact⟨by rw[List.getElem?_set,if_neg tL];exact z1,z2,ws,hk _ _ z3 (hj j m e (Ne.symm tL)),z4.mono SH⟩
 ·skip
  by_cases tL:i=j<;>by_cases GV:i=k
  ·rw[<-tL,<-GV]
  ·subst tL
   rw[List.getElem?_set,if_neg GV]at f
   rw[if_pos rfl,if_neg (Ne.symm GV)]at z
   exact absurd z.symm (hj k n f (Ne.symm GV))
  ·subst GV
   rw[List.getElem?_set,if_neg tL]at e
   rw[if_pos rfl,if_neg (Ne.symm tL)]at z
   exact absurd z (hj j m e (Ne.symm tL))
  ·rw[List.getElem?_set,if_neg tL]at e
   rw[List.getElem?_set,if_neg GV]at f
   rw[if_neg (Ne.symm tL),if_neg (Ne.symm GV)]at z
   exact r.inj j k m n e f z
 ·by_cases tL:i=j
  ·subst tL
   rw[List.getElem?_set,if_pos rfl,if_pos hi]at e
   cases e
  ·rw[List.getElem?_set,if_neg tL]at e
   obtain⟨b,ws,z1,z2,z3⟩:=r.bw j m e
   exact⟨b,ws,z1,by rw[List.getElem?_set,if_neg tL];exact z2,z3.mono SH⟩
end
end L2.D
namespace L2.D
open PySem PySem.Spec PyProof.Rows
open Classical
noncomputable def BR(K:PySem.W.Frag)(κ:Kl)(hH H:Hp)(v:V)(p:PV):Prop:=Rep K κ hH v p\/∃a vs l,v=.ref a/\p=.lst l/\SL K H a vs/\aS K κ hH vs l
noncomputable def OR(K:PySem.W.Frag)(κ:Kl)(A:Addr->Prop)(H H':Hp)(v:V)(p:PV):Prop:=∃a vs l,v=.ref a/\p=.lst l/\H a=none/\H' a=some (.lst vs)/\aS K κ (hide (λb=>A b\/b=a) H') vs l
noncomputable def NU(K:PySem.W.Frag)(κ:Kl)(te:TE)(f:Den):Prop:=
 ∀{G A bo own ρ σ H p Q},R K κ G A bo own ρ σ H->f ρ=some p->(∀v H',aH H H'->Rep K κ (cZ A own ρ H') v p->Q v H')->te σ H Q
noncomputable def NV(K:PySem.W.Frag)(κ:Kl)(te:TE)(f:Den):Prop:=
 ∀{G A bo own ρ σ H p Q},R K κ G A bo own ρ σ H->f ρ=some p->(∀v H',aH H H'->BR K κ (cZ A own ρ H') H' v p->Q v H')->te σ H Q
noncomputable def Uc(K:PySem.W.Frag)(κ:Kl)(te:TE)(f:Den):Prop:=
 ∀{G A bo own ρ σ H p Q},R K κ G A bo own ρ σ H->f ρ=some p->(∀v H',aH H H'->OR K κ (cK A own ρ) H H' v p->Q v H')->te σ H Q
noncomputable def SJ(K:PySem.W.Frag)(κ:Kl)(tt:TT)(f:ef):Prop:=
 ∀{G A bo own ρ σ H b Q},R K κ G A bo own ρ σ H->f ρ=some b->(∀H',aH H H'->Q b H')->tt σ H Q
noncomputable def DE(X:Cx)(κ:Kl)(e:Expr)(f:Den):Prop:=∃te,PE X e te/\NU X.K κ te f
noncomputable def DB(X:Cx)(κ:Kl)(e:Expr)(f:Den):Prop:=∃te,PE X e te/\NV X.K κ te f
noncomputable def DO(X:Cx)(κ:Kl)(e:Expr)(f:Den):Prop:=∃te,PE X e te/\Uc X.K κ te f
noncomputable def DT(X:Cx)(κ:Kl)(e:Expr)(f:ef):Prop:=∃tt,PT X e tt/\SJ X.K κ tt f
noncomputable def DW(X:Cx)(κ:Kl)(e:Expr)(f:ef):Prop:=∃tt,PW X e tt/\SJ X.K κ tt f
section
variable{K:PySem.W.Frag}{κ:Kl}{G hH Ud H H' H1:Hp}{A:Addr->Prop}{bo:Nat->Option (Addr×List V)}{own:Nat->Addr}{ρ:di}{σ:St}{v:V}{p:PV}
theorem BR.mono(h:BR K κ hH H v p)(s1:aH hH Ud)(s2:aH H H'):BR K κ Ud H' v p:=by
 rcases h with h|⟨a,vs,l,h1,h2,h3,h4⟩
 ·exact .inl (h.mono s1)
 ·exact .inr ⟨a,vs,l,h1,h2,s2.sl h3,h4.mono s1⟩
theorem BR.El(h:BR K κ (hide A H) H v p)(s2:aH H H'):BR K κ (hide A H') H' v p:=h.mono (bC s2) s2
theorem BR.full(h:BR K κ hH H v p)(s:aH hH H):Rep K κ H v p:=by
 rcases h with h|⟨a,vs,l,rfl,rfl,h3,h4⟩
 ·exact h.mono s
 ·exact .lst h3 (h4.mono s)
theorem BR.lst{l:List PV}(h:BR K κ hH H v (.lst l))(s:aH hH H):∃a vs,v=.ref a/\SL K H a vs/\aS K κ hH vs l:=by
 rcases h with h|⟨a,vs,l',h1,h2,h3,h4⟩
 ·cases h with
  |lst h1 h2=>exact⟨_,_,rfl,s.sl h1,h2⟩
 ·cases h2
  exact⟨a,vs,h1,h3,h4⟩
theorem BR.tup{l:List PV}(h:BR K κ hH H v (.tup l))(s:aH hH H):∃a vs,v=.ref a/\mQ K H a vs/\aS K κ hH vs l:=by
 rcases h with h|⟨a,vs,l',h1,h2,h3,h4⟩
 ·cases h with
  |tup h1 h2=>exact⟨_,_,rfl,va s h1,h2⟩
 ·cases h2
theorem BR.int{i:Int}(h:BR K κ hH H v (.int i)):v=.int i:=by
 rcases h with h|⟨a,vs,l',h1,h2,h3,h4⟩
 ·cases h;rfl
 ·cases h2
theorem BR.str{i:Str}(h:BR K κ hH H v (.str i)):v=.str i:=by
 rcases h with h|⟨a,vs,l',h1,h2,h3,h4⟩
 ·cases h;rfl
 ·cases h2
theorem Rep.Lk{i:Bool}(h:Rep K κ hH v (.bl i)):v=.bl i:=by cases h;rfl
theorem R.yl(r:R K κ G A bo own ρ σ H){a:Addr}{vs:List V}{l:List PV}(h:H a=none)(q:aS K κ (cZ A own ρ H) vs l):OR K κ (cK A own ρ) H (upd H a (.lst vs)) (.ref a) (.lst l):=
 ⟨a,vs,l,rfl,rfl,h,aQ,by
   rw[nW (.inr rfl)]
   exact q.mono (cY (λ_ _ z=>z) λb z nz=>by
    rcases z with z|z
    ·exact z
    ·rw[z]at nz
     exact absurd h nz)⟩
theorem OR.rep(r:R K κ G A bo own ρ σ H)(h:OR K κ (cK A own ρ) H H' v p):Rep K κ (cZ A own ρ H') v p:=by
 obtain⟨a,vs,l,rfl,rfl,h1,h2,h3⟩:=h
 refine .lst (SL.of ?_) (h3.mono (cY (λ_ _ z=>z) λb z _=>.inl z))
 rw[cZ,bO (r.new h1)]
 exact h2
theorem R.NW(r:R K κ G A bo own ρ σ H){a:Addr}{vs:List V}{l:List PV}(h:H a=none)(q:aS K κ (cZ A own ρ H) vs l):Rep K κ (cZ A own ρ (upd H a (.tup vs))) (.ref a) (.tup l):=by
 refine .tup (mQ.of ?_) (q.mono (bC (cJ h)))
 rw[cZ,bO (r.new h)]
 exact aQ
theorem tM{ta tb:TE}{fa fb:Den}{α:Type}{g:PV->PV->Option α}{z:α}{Rr:V->V->Hp->Prop}(ha:NV K κ ta fa)(hb:NV K κ tb fb)(r:R K κ G A bo own ρ σ H)
  (e:((fa ρ).bind λx=>(fb ρ).bind λy=>g x y)=some z)(q:∀x y p q H',aH H H'->R K κ G A bo own ρ σ H'->BR K κ (cZ A own ρ H') H' x p->BR K κ (cZ A own ρ H') H' y q->g p q=some z->Rr x y H'):ta σ H λx H1=>tb σ H1 λy H2=>Rr x y H2:=by
 obtain⟨p1,e1,e⟩:=Option.bind_eq_some_iff.mp e
 obtain⟨p2,e2,e⟩:=Option.bind_eq_some_iff.mp e
 refine ha r e1 λx H1 s1 b1=>?_
 refine hb (r.mono s1) e2 λy H2 s2 b2=>?_
 exact q x y p1 p2 H2 (s1.trans s2) (r.mono (s1.trans s2)) (b1.El s2) b2 e
end
theorem DE.b{X:Cx}{κ:Kl}{ex:Expr}{f:Den}(h:DE X κ ex f):DB X κ ex f:=let⟨te,h1,h2⟩:=h;⟨te,h1,λr e q=>h2 r e λv H' s z=>q v H' s (.inl z)⟩
theorem DO.e{X:Cx}{κ:Kl}{ex:Expr}{f:Den}(h:DO X κ ex f):DE X κ ex f:=let⟨te,h1,h2⟩:=h;⟨te,h1,λr e q=>h2 r e λv H' s z=>q v H' s (z.rep r)⟩
theorem DO.b{X:Cx}{κ:Kl}{ex:Expr}{f:Den}(h:DO X κ ex f):DB X κ ex f:=h.e.b
section
variable{X:Cx}{κ:Kl}{e a b c:Expr}{f fa fb fc:Den}{pos:Pos}
theorem aA{i:Int}{j pos}:DE X κ (.Constant (.int i) j pos) (dC (.int i)):=⟨_,Ai,λ{_ _ _ _ _ _ H _ _} r e q=>by cases e;exact q _ H (aH.refl _) (.int i)⟩
theorem rj{i:Bool}{j pos}:DE X κ (.Constant (.bool i) j pos) (dC (.bl i)):=⟨_,M9,λ{_ _ _ _ _ _ H _ _} r e q=>by cases e;exact q _ H (aH.refl _) (.bl i)⟩
theorem aZ{i:Str}{j pos}:DE X κ (.Constant (.str i) j pos) (dC (.str i)):=⟨_,Kv,λ{_ _ _ _ _ _ H _ _} r e q=>by cases e;exact q _ H (aH.refl _) (.str i)⟩
theorem aa(i:Nat){x:Str}{pos:Pos}(hN:X.N[i]?=some x:=by rfl)(hv:xS X.env.scope x:=by first|exact Or.inl rfl|exact Or.inr (Or.inl rfl)|exact Or.inr (Or.inr rfl))(hd:(x==("__debug__" :Str))=false:=by decide)
  (oU:(x==("__classdict__" :Str))=false:=by decide):DB X κ (.Name x pos) (dV i):=⟨_,en hN hv hd oU,λ{G A bo own ρ σ H p Q} r e q=>by
 unfold dV at e
 obtain⟨s,e1,e2⟩:=Option.bind_eq_some_iff.mp e
 cases s with
 |un=>cases e2
 |sh p'=>
  cases e2
  obtain⟨v,h1,h2⟩:=r.sh i _ e1
  exact⟨v,h1,q v H (aH.refl _) (.inl h2)⟩
 |own c=>
  cases c with
  |d _=>cases e2
  |l l=>
  cases e2
  obtain⟨h1,_,vs,h3,h4⟩:=r.ow i _ e1
  exact⟨_,h1,q _ H (aH.refl _) (.inr ⟨_,vs,l,rfl,rfl,SL.of h3,h4⟩)⟩
 |bw l=>
  cases e2
  obtain⟨a,vs,h0,h1,h4⟩:=r.bw i _ e1
  exact⟨_,h1,q _ H (aH.refl _) (.inr ⟨_,vs,l,rfl,rfl,SL.of (r.same _ _ (r.bg _ _ _ h0)),h4⟩)⟩⟩
theorem aM(i:Nat){x:Str}{pos:Pos}(hN:X.N[i]?=some x:=by rfl)(hv:xS X.env.scope x:=by first|exact Or.inl rfl|exact Or.inr (Or.inl rfl)|exact Or.inr (Or.inr rfl))(hd:(x==("__debug__" :Str))=false:=by decide)
  (oU:(x==("__classdict__" :Str))=false:=by decide):DE X κ (.Name x pos) (cP i):=⟨_,en hN hv hd oU,λ{G A bo own ρ σ H p Q} r e q=>by
 unfold cP at e
 obtain⟨s,e1,e2⟩:=Option.bind_eq_some_iff.mp e
 cases s with
 |un=>cases e2
 |sh p'=>
  cases e2
  obtain⟨v,h1,h2⟩:=r.sh i _ e1
  exact⟨v,h1,q v H (aH.refl _) h2⟩
 |own l=>cases e2
 |bw l=>cases e2⟩
theorem En{op:Operator}{C:Int->Int->Prop}{F:Int->Int->Int}{g:PV->PV->Option PV}(ho:mf X (binaryOp op) (rI C λi j=>.int (F i j)))(hg:∀p q z,g p q=some z->∃i j,p=.int i/\q=.int j/\C i j/\z=.int (F i j))
  (ha:DB X κ a fa)(hb:DB X κ b fb):DE X κ (.BinOp a op b pos) (ag g fa fb):=by
 obtain⟨ta,h1,h2⟩:=ha
 obtain⟨tb,h3,h4⟩:=hb
 refine⟨_,DY ho h1 h3,λ{G A bo own ρ σ H p Q} r e q=>?_⟩
 refine tM h2 h4 r e λx y p1 p2 H' s r' b1 b2 e'=>?_
 obtain⟨i,j,rfl,rfl,hC,rfl⟩:=hg _ _ _ e'
 exact⟨i,j,b1.int,b2.int,hC,q _ H' s (.int _)⟩
theorem Lo{op:Operator}{F:Int->Int->Int}{g:PV->PV->Option PV}(ho:mf X (binaryOp op) (G1 λi j=>.int (F i j)))(hg:∀p q z,g p q=some z->∃i j,p=.int i/\q=.int j/\z=.int (F i j))
  (ha:DB X κ a fa)(hb:DB X κ b fb):DE X κ (.BinOp a op b pos) (ag g fa fb):=by
 obtain⟨ta,h1,h2⟩:=ha
 obtain⟨tb,h3,h4⟩:=hb
 refine⟨_,DY ho h1 h3,λ{G A bo own ρ σ H p Q} r e q=>?_⟩
 refine tM h2 h4 r e λx y p1 p2 H' s r' b1 b2 e'=>?_
 obtain⟨i,j,rfl,rfl,rfl⟩:=hg _ _ _ e'
 exact⟨i,j,b1.int,b2.int,q _ H' s (.int _)⟩
theorem Eo(ha:DB X κ a fa)(hb:DB X κ b fb):DE X κ (.BinOp a .Sub b pos) (ag CQ fa fb):=Lo KY (λp q z h=>by
 (cases p<;>first|(cases h;done)|skip)<;>cases q<;>first|(cases h;exact⟨_,_,rfl,rfl,rfl⟩)|cases h) ha hb
theorem bD{α:Type}{c:Prop}[Decidable c]{x z:α}(h:(if c then some x else none)=some z):c/\x=z:=by
 split at h
 ·exact⟨by assumption,Option.some.inj h⟩
 ·cases h
theorem mT(ha:DB X κ a fa)(hb:DB X κ b fb):DE X κ (.BinOp a .FloorDiv b pos) (ag jH fa fb):=En G2 (λp q z h=>by
 (cases p<;>first|(cases h;done)|skip)<;>cases q<;>first|(cases h;done)|skip
 obtain⟨h1,h2⟩:=bD h
 simp only[Bool.and_eq_true,decide_eq_true_eq]at h1
 exact⟨_,_,rfl,rfl,h1,h2.symm⟩) ha hb
theorem dt(ha:DB X κ a fa)(hb:DB X κ b fb):DE X κ (.BinOp a .Mod b pos) (ag da fa fb):=En K0 (λp q z h=>by
 (cases p<;>first|(cases h;done)|skip)<;>cases q<;>first|(cases h;done)|skip
 obtain⟨h1,h2⟩:=bD h
 simp only[Bool.and_eq_true,decide_eq_true_eq]at h1
 exact⟨_,_,rfl,rfl,h1,h2.symm⟩) ha hb
theorem ph(ha:DB X κ a fa)(hb:DB X κ b fb):DE X κ (.BinOp a .Mult b pos) (ag pd fa fb):=En KZ (λp q z h=>by
 (cases p<;>first|(cases h;done)|skip)<;>cases q<;>first|(cases h;done)|skip
 obtain⟨h1,h2⟩:=bD h
 simp only[yb,Bool.or_eq_true,Bool.and_eq_true,decide_eq_true_eq]at h1
 exact⟨_,_,rfl,rfl,h1,h2.symm⟩) ha hb
theorem vV(ha:DB X κ a fa):DE X κ (.UnaryOp .USub a pos) (bf qZ fa):=by
 obtain⟨ta,h1,h2⟩:=ha
 refine⟨_,Nk K1 h1,λ{G A bo own ρ σ H p Q} r e q=>?_⟩
 obtain⟨p1,e1,e⟩:=Option.bind_eq_some_iff.mp e
 refine h2 r e1 λx H1 s1 b1=>?_
 cases p1<;>first|(cases e;done)|skip
 cases e
 exact⟨_,b1.int,q _ H1 s1 (.int _)⟩
theorem Lp{K:PySem.W.Frag}:mf X (binaryOp .Add) (λx y H Q=>∃l b xs zs,x=.ref l/\y=.ref b/\SL X.K H l xs/\SL X.K H b zs/\xs.length+zs.length<=sizeLine/\∀p,H p=none->Q (.ref p) (upd H p (.lst (xs++zs)))):=by
 intro pins s σ H x y v u Q I rx ry h
 obtain⟨l,b,xs,zs,rfl,rfl,hH,hB,hz,q⟩:=h
 cases rx
 cases ry
 obtain⟨its,n,r,ho,z⟩:=I.sl hH
 obtain⟨tK,n2,r2,Vb,z2⟩:=I.sl hB
 have l1:=r.length
 have l2:=r2.length
 refine PySem.P.add_list ho Vb ?_ (by rw[List.size_toArray,List.size_toArray];omega)
 have ea:its.toArray++tK.toArray=(its++tK).toArray:=by simp
 rw[ea]
 exact⟨.ref _,_,I.Sm (t':=s.toks) (r.append r2) (by rw[List.length_append];omega),rfl,q _ I.fresh⟩
theorem bj(ha:DB X κ a fa)(hb:DB X κ b fb):DE X κ (.BinOp a .Add b pos) (ag bF fa fb):=by
 obtain⟨ta,h1,h2⟩:=ha
 obtain⟨tb,h3,h4⟩:=hb
 refine⟨_,DY (KW.or (Al.or (Lp (K:=X.K)))) h1 h3,λ{G A bo own ρ σ H p Q} r e q=>?_⟩
 refine tM h2 h4 r e λx y p1 p2 H' s r' b1 b2 e'=>?_
 (cases p1<;>first|(cases e';done)|skip)<;>cases p2<;>first|(cases e';done)|skip
 ·cases e'
  exact .inl ⟨_,_,b1.int,b2.int,q _ H' s (.int _)⟩
 ·obtain⟨h1,rfl⟩:=bD e'
  exact .inr (.inl ⟨_,_,b1.str,b2.str,h1,q _ H' s (.str _)⟩)
 ·obtain⟨h1,rfl⟩:=bD e'
  obtain⟨a1,NX,rfl,q1,w1⟩:=b1.lst aG
  obtain⟨a2,Vc,rfl,q2,w2⟩:=b2.lst aG
  refine .inr (.inr ⟨a1,a2,NX,Vc,rfl,rfl,q1,q2,by rw[w1.length,w2.length];exact h1,λp hp=>?_⟩)
  exact q _ _ (s.trans (cJ hp)) ((r'.yl hp (w1.append w2)).rep r')
noncomputable def DC(X:Cx)(κ:Kl)(op:CmpOp)(a b:Expr)(f:Den):Prop:=∃r ta tb,mf X (compareOp op) r/\PE X a ta/\PE X b tb/\NU X.K κ (Nj r ta tb) f
theorem pj{op:CmpOp}(h:DC X κ op a b f)(hm:behindInMarks op b=false:=by first|exact D0 _|with_unfolding_all rfl):DE X κ (.Compare a [op] [b] pos) f:=
 let⟨_,_,_,h1,h2,h3,h4⟩:=h;⟨_,G4 h1 h2 h3 hm,h4⟩
theorem BO{K:PySem.W.Frag}{te:TE}(h:NU K κ te f):SJ K κ (Jl te) (tV f):=λ{G A bo own ρ σ H b Q} r e q=>by
 obtain⟨p,e1,e2⟩:=Option.bind_eq_some_iff.mp e
 refine h r e1 λv H' s z=>?_
 cases p<;>first|(cases e2;done)|skip
 cases e2
 exact⟨_,z.Lk,q H' s⟩
theorem dd{op:CmpOp}(h:DC X κ op a b f)(hm:behindInMarks op b=false:=by first|exact D0 _|with_unfolding_all rfl):DT X κ (.Compare a [op] [b] pos) (tV f):=
 let⟨_,_,_,h1,h2,h3,h4⟩:=h;⟨_,G5 h1 h2 h3 hm,BO h4⟩
theorem hU(h:DE X κ e f)(he:∀whole,isTrue e X.env whole=(do let v<-whole;standAt e.pos;holding [v] (truthy v)):=by intro _;rfl):DT X κ e (tV f):=
 let⟨_,h1,h2⟩:=h;⟨_,Kw h1 he,BO h2⟩
theorem NY{op:CmpOp}{F:Int->Int->Bool}{g:PV->PV->Option PV}(ho:mf X (compareOp op) (G1 λi j=>.bl (F i j)))(hg:∀p q z,g p q=some z->∃i j,p=.int i/\q=.int j/\z=.bl (F i j))
  (ha:DB X κ a fa)(hb:DB X κ b fb):DC X κ op a b (ag g fa fb):=by
 obtain⟨ta,h1,h2⟩:=ha
 obtain⟨tb,h3,h4⟩:=hb
 refine⟨_,_,_,ho,h1,h3,λ{G A bo own ρ σ H p Q} r e q=>?_⟩
 refine tM h2 h4 r e λx y p1 p2 H' s r' b1 b2 e'=>?_
 obtain⟨i,j,rfl,rfl,rfl⟩:=hg _ _ _ e'
 exact⟨i,j,b1.int,b2.int,q _ H' s (.bl _)⟩
theorem BP(ha:DB X κ a fa)(hb:DB X κ b fb):DC X κ .Lt a b (ag GS fa fb):=NY Nq (λp q z h=>by
 (cases p<;>first|(cases h;done)|skip)<;>cases q<;>first|(cases h;exact⟨_,_,rfl,rfl,rfl⟩)|cases h) ha hb
theorem Ep(ha:DB X κ a fa)(hb:DB X κ b fb):DC X κ .Gt a b (ag Jr fa fb):=NY Nr (λp q z h=>by
 (cases p<;>first|(cases h;done)|skip)<;>cases q<;>first|(cases h;exact⟨_,_,rfl,rfl,rfl⟩)|cases h) ha hb
variable{ft fu:ef}{rest:List Expr}
theorem pq(ha:DT X κ a ft):DT X κ (.UnaryOp .Not a pos) (nQ ft):=by
 obtain⟨ta,h1,h2⟩:=ha
 refine⟨_,Kx h1,λ{G A bo own ρ σ H p Q} r e q=>?_⟩
 obtain⟨c,e1,rfl⟩:=Option.map_eq_some_iff.mp e
 exact h2 r e1 λH' s=>q H' s
theorem pw(ha:DT X κ a ft):DW X κ (.BoolOp .Or [a] pos) ft:=let⟨_,h1,h2⟩:=ha;⟨_,pw_or1 h1,h2⟩
theorem rk(ha:DT X κ a ft)(hb:DW X κ (.BoolOp .Or (b::rest) pos) fu):DW X κ (.BoolOp .Or (a::b::rest) pos) (xU ft fu):=by
 obtain⟨ta,h1,h2⟩:=ha
 obtain⟨tb,h3,h4⟩:=hb
 refine⟨_,pw_or h1 h3,λ{G A bo own ρ σ H p Q} r e q=>?_⟩
 obtain⟨c,e1,e2⟩:=Option.bind_eq_some_iff.mp e
 refine h2 r e1 λH1 s1=>?_
 cases c with
 |false=>exact h4 (r.mono s1) e2 λH2 s2=>q H2 (s1.trans s2)
 |true=>cases e2;exact q H1 s1
theorem DW.t(h:DW X κ e ft):DT X κ e ft:=let⟨_,h1,h2⟩:=h;⟨_,h1.pt,h2⟩
theorem vW{op}(h:DE X κ a f):DE X κ (.BoolOp op [a] pos) f:=let⟨_,h1,h2⟩:=h;⟨_,Ky h1,h2⟩
theorem nX(ha:DE X κ a fa)(hb:DE X κ (.BoolOp .And (b::rest) pos) fb):DE X κ (.BoolOp .And (a::b::rest) pos) (jz fa fb):=by
 obtain⟨ta,h1,h2⟩:=ha
 obtain⟨tb,h3,h4⟩:=hb
 refine⟨_,Kz h1 h3,λ{G A bo own ρ σ H p Q} r e q=>?_⟩
 obtain⟨x,e1,e2⟩:=Option.bind_eq_some_iff.mp e
 obtain⟨c,e3,e4⟩:=Option.bind_eq_some_iff.mp e2
 refine h2 r e1 λv H1 s1 z=>?_
 cases x<;>first|(cases e3;done)|skip
 cases e3
 refine⟨_,z.Lk,?_⟩
 cases c with
 |true=>exact h4 (r.mono s1) e4 λv H2 s2 z=>q v H2 (s1.trans s2) z
 |false=>cases e4;exact q _ H1 s1 (.bl _)
theorem Hq(ha:DE X κ a fa):DE X κ (.UnaryOp .Not a pos) (Eh fa):=by
 obtain⟨ta,h1,h2⟩:=ha
 refine⟨_,KA h1,λ{G A bo own ρ σ H p Q} r e q=>?_⟩
 obtain⟨x,e1,e2⟩:=Option.bind_eq_some_iff.mp e
 obtain⟨c,e3,rfl⟩:=Option.map_eq_some_iff.mp e2
 refine h2 r e1 λv H1 s1 z=>?_
 cases x<;>first|(cases e3;done)|skip
 cases e3
 exact⟨_,z.Lk,q _ H1 s1 (.bl _)⟩
noncomputable def DA(X:Cx)(κ:Kl)(es:List Expr)(f:dq):Prop:=∃ta,PA X es ta/\∀{G A bo own ρ σ H ps Q},R X.K κ G A bo own ρ σ H->f ρ=some ps->(∀vs H',aH H H'->aS X.K κ (cZ A own ρ H') vs ps->Q vs H')->ta σ H Q
variable{es:List Expr}{fs:dq}
theorem aT:DA X κ [] aP:=⟨_,cu,λ{G A bo own ρ σ H ps Q} r e q=>by cases e;exact q [] H (aH.refl _) .nil⟩
theorem ah(ha:DE X κ a fa)(hr:DA X κ es fs)(hs:starEach (a::es) X.env=(false,eval a X.env)::starEach es X.env:=by rfl):DA X κ (a::es) (af fa fs):=by
 obtain⟨ta,h1,h2⟩:=ha
 obtain⟨tb,h3,h4⟩:=hr
 refine⟨_,aU h1 h3 hs,λ{G A bo own ρ σ H ps Q} r e q=>?_⟩
 obtain⟨x,e1,e2⟩:=Option.bind_eq_some_iff.mp e
 obtain⟨xs,e3,e4⟩:=Option.bind_eq_some_iff.mp e2
 cases e4
 refine h2 r e1 λv H1 s1 z1=>h4 (r.mono s1) e3 λvs H2 s2 z2=>q _ H2 (s1.trans s2) (.cons (z1.mono (bC s2)) z2)
theorem Az(h:DA X κ es fs):DO X κ (.List es pos) (Av fs):=by
 obtain⟨ta,h1,h2⟩:=h
 refine⟨_,D3 h1,λ{G A bo own ρ σ H ps Q} r e q=>?_⟩
 obtain⟨x,e1,e2⟩:=Option.bind_eq_some_iff.mp e
 obtain⟨h3,rfl⟩:=bD e2
 refine h2 r e1 λvs H1 s1 z1=>⟨by rw[z1.length];exact h3,λp hp=>q _ _ (s1.trans (cJ hp)) ?_⟩
 obtain⟨a,ws,l,w1,w2,w3,w4⟩:=(r.mono s1).yl hp z1
 refine⟨a,ws,l,w1,w2,?_,w4⟩
 cases w1
 exact s1.free hp
theorem fN{x1}(h:DA X κ es fs):DE X κ (.Tuple es x1 pos) (gc fs):=by
 obtain⟨ta,h1,h2⟩:=h
 refine⟨_,K5 h1,λ{G A bo own ρ σ H ps Q} r e q=>?_⟩
 obtain⟨x,e1,e2⟩:=Option.bind_eq_some_iff.mp e
 obtain⟨h3,rfl⟩:=bD e2
 exact h2 r e1 λvs H1 s1 z1=>⟨by rw[z1.length];exact h3,λp hp=>q _ _ (s1.trans (cJ hp)) ((r.mono s1).NW hp z1)⟩
end
noncomputable def RR(fr:Bool)(K:PySem.W.Frag)(κ:Kl)(A:Addr->Prop)(G H':Hp)(v:V)(p:PV):Prop:=if fr=true then OR K κ A G H' v p else Rep K κ (hide A H') v p
noncomputable def Er(K:PySem.W.Frag)(κ:Kl)(fr:Bool)(G:Hp)(A:Addr->Prop)(bo:Nat->Option (Addr×List V))(D:Ends):Fl->Prop
 |.nx ρ'=>∀cV σ' H',R K κ G A bo cV ρ' σ' H'->D.nx σ' H'
 |.bk ρ'=>∀cV σ' H',R K κ G A bo cV ρ' σ' H'->D.bk σ' H'
 |.ct ρ'=>∀cV σ' H',R K κ G A bo cV ρ' σ' H'->D.ct σ' H'
 |.rt p=>∀v H',aH G H'->RR fr K κ A G H' v p->D.rt v H'
noncomputable def GW(K:PySem.W.Frag)(κ:Kl)(fr:Bool)(ts:TS)(g:aY):Prop:=
 ∀{G A bo own ρ σ H fl D},R K κ G A bo own ρ σ H->g ρ=some fl->Er K κ fr G A bo D fl->ts D σ H
noncomputable def DS(X:Cx)(κ:Kl)(fr:Bool)(st:Stmt)(g:aY):Prop:=∃ts,PS X st ts/\GW X.K κ fr ts g
noncomputable def DJ(X:Cx)(κ:Kl)(fr:Bool)(st:List Stmt)(g:aY):Prop:=∃ts,Ae X st ts/\GW X.K κ fr ts g
theorem SK{K:PySem.W.Frag}{κ:Kl}{G H H':Hp}{A B:Addr->Prop}{v:V}{p:PV}(h:OR K κ B H H' v p)(s:aH G H)(Vd:∀b,A b->B b):OR K κ A G H' v p:=by
 obtain⟨a,vs,l,h1,h2,h3,h4,h5⟩:=h
 exact⟨a,vs,l,h1,h2,s.free h3,h4,h5.mono (cY (λ_ _ z=>z) λb z _=>z.imp (Vd b) id)⟩
section
variable{X:Cx}{κ:Kl}{fr:Bool}{st:Stmt}{rest:List Stmt}{g g':aY}{e a b c:Expr}{f:Den}{ft:ef}{pos:Pos}
theorem dM:DJ X κ fr [] cI:=⟨_,Bx,λ{G A bo own ρ σ H fl D} r e k=>by cases e;exact k own σ H r⟩
theorem Hr{K:PySem.W.Frag}{t u:TS}(h1:GW K κ fr t g)(h2:GW K κ fr u g'):GW K κ fr (KC t u) (ba g g'):=λ{G A bo own ρ σ H fl D} r e k=>by
 obtain⟨f1,e1,e2⟩:=Option.bind_eq_some_iff.mp e
 refine h1 r e1 ?_
 cases f1 with
 |nx ρ'=>exact λcV σ' H' r'=>h2 r' e2 k
 |rt p=>cases e2;exact k
 |bk ρ'=>cases e2;exact k
 |ct ρ'=>cases e2;exact k
theorem au(h1:DS X κ fr st g)(h2:DJ X κ fr rest g'):DJ X κ fr (st::rest) (ba g g'):=
 let⟨_,a1,a2⟩:=h1;let⟨_,b1,b2⟩:=h2;⟨_,fX a1 b1,Hr a2 b2⟩
theorem aE(h1:DS X κ fr st g):DJ X κ fr [st] g:=let⟨_,a1,a2⟩:=h1;⟨_,gE a1,a2⟩
theorem Hs{K:PySem.W.Frag}{u:TS}(i:Nat)(h2:GW K κ fr u g):GW K κ fr u (ba (Hm i) g):=λ{G A bo own ρ σ H fl D} r e k=>by
 obtain⟨f1,e1,e2⟩:=Option.bind_eq_some_iff.mp e
 unfold Hm at e1
 split at e1
 ·rename_i l h
  cases e1
  obtain⟨h1,h3,vs,h4,h5⟩:=r.ow i (.l l) h
  change H (own i)=some (.lst vs)at h4
  change aS _ _ _ vs l at h5
  refine h2 (own:=own) (σ:=σ) (H:=H) ?_ e2 k
  have hi:i<ρ.length:=(List.getElem?_eq_some_iff.mp h).1
  have s1:aH (cZ A own ρ H) (cZ A own (ρ.set i (.sh (.lst l))) H):=lR
  have DD:cZ A own (ρ.set i (.sh (.lst l))) H (own i)=some (.lst vs):=by
   rw[cZ,bO]
   ·exact h4
   ·rintro(z|⟨j,m,z1,z2⟩)
    ·exact r.al _ z h3
    ·by_cases hj:i=j
     ·subst hj
      rw[List.getElem?_set,if_pos rfl,if_pos hi]at z1
      cases z1
     ·rw[List.getElem?_set,if_neg hj]at z1
      exact hj (r.inj j i _ _ z1 h z2).symm
  refine⟨r.al,r.bg,r.same,λj q e=>?_,λj m e=>?_,λj k m n e f=>?_,λj m e=>?_,by rw[List.length_set];exact r.len⟩
  ·by_cases hj:i=j
   ·subst hj
    rw[List.getElem?_set,if_pos rfl,if_pos hi]at e
    cases e
    exact⟨_,h1,.lst (SL.of DD) (h5.mono s1)⟩
   ·rw[List.getElem?_set,if_neg hj]at e
    obtain⟨v,z1,z2⟩:=r.sh j q e
    exact⟨v,z1,z2.mono s1⟩
  ·by_cases hj:i=j
   ·subst hj
    rw[List.getElem?_set,if_pos rfl,if_pos hi]at e
    cases e
   ·rw[List.getElem?_set,if_neg hj]at e
    obtain⟨z1,z2,ws,z3,z4⟩:=r.ow j m e
    exact⟨z1,z2,ws,z3,z4.mono s1⟩
  ·have ne:∀{j:Nat} {m:Cn},(ρ.set i (.sh (.lst l)))[j]?=some (.own m)->ρ[j]?=some (.own m):=λ{j m} z=>by
     rw[List.getElem?_set]at z
     split at z
     ·first|cases z|(split at z<;>cases z)
     ·exact z
   exact r.inj j k m n (ne e) (ne f)
  ·by_cases hj:i=j
   ·subst hj
    rw[List.getElem?_set,if_pos rfl,if_pos hi]at e
    cases e
   ·rw[List.getElem?_set,if_neg hj]at e
    obtain⟨b,ws,z1,z2,z3⟩:=r.bw j m e
    exact⟨b,ws,z1,z2,z3.mono s1⟩
 ·cases e1
  exact h2 r e2 k
theorem Ht(i:Nat)(h:DJ X κ fr rest g):DJ X κ fr rest (ba (Hm i) g):=let⟨_,a1,a2⟩:=h;⟨_,a1,Hs i a2⟩
theorem Es:DS X κ fr (.Break pos) rb:=⟨_,DN,λ{G A bo own ρ σ H fl D} r e k=>by cases e;exact k own σ H r⟩
theorem bx(h:DE X κ e f):DS X κ false (.Return (some e) pos) (bZ f):=by
 obtain⟨te,h1,h2⟩:=h
 refine⟨_,mR h1,λ{G A bo own ρ σ H fl D} r e k=>?_⟩
 obtain⟨p,e1,rfl⟩:=Option.map_eq_some_iff.mp e
 refine h2 r e1 λv H' s z=>k v H' (r.same.trans s) ?_
 exact z.mono (cY (λ_ _ q=>q) λb q _=>.inl q)
theorem fO{ρ:di}{i:Nat}{l:List PV}(h:yg ρ i=some l):ρ[i]?=some (.ow l):=by
 unfold yg at h
 split at h
 ·rename_i l' e
  cases h
  exact e
 ·cases h
theorem Hu(i:Nat){x:Str}{p':Pos}(hN:X.N[i]?=some x:=by rfl)(hv:xS X.env.scope x:=by first|exact Or.inl rfl|exact Or.inr (Or.inl rfl)|exact Or.inr (Or.inr rfl))(hd:(x==("__debug__" :Str))=false:=by decide)
  (oU:(x==("__classdict__" :Str))=false:=by decide):DS X κ true (.Return (some (.Name x p')) pos) (Js i):=by
 refine⟨_,mR (en hN hv hd oU),λ{G A bo own ρ σ H fl D} r e k=>?_⟩
 obtain⟨l,e1,rfl⟩:=Option.map_eq_some_iff.mp e
 obtain⟨h1,h3,vs,h4,h5⟩:=r.ow i (.l l) (fO e1)
 change H (own i)=some (.lst vs)at h4
 change aS _ _ _ vs l at h5
 refine⟨_,h1,k _ H r.same ?_⟩
 exact⟨own i,vs,l,rfl,rfl,h3,h4,h5.mono (cY (λ_ _ z=>z) λb z _=>by
  rcases z with z|z
  ·exact .inl z
  ·exact .inr ⟨i,.l l,fO e1,z.symm⟩)⟩
theorem fJ{sa sb:List Stmt}(hc:DT X κ c ft)(ha:DJ X κ fr sa g)(hb:DJ X κ fr sb g'):DS X κ fr (.If c sa sb pos) (jD ft g g'):=by
 obtain⟨tc,h5,h6⟩:=hc
 obtain⟨ta,h1,h2⟩:=ha
 obtain⟨tb,h3,h4⟩:=hb
 refine⟨_,Jg h5 h1 h3,λ{G A bo own ρ σ H fl D} r e k=>?_⟩
 obtain⟨c,e1,e2⟩:=Option.bind_eq_some_iff.mp e
 refine h6 r e1 λH1 s1=>?_
 cases c with
 |true=>exact h2 (r.mono s1) e2 k
 |false=>exact h4 (r.mono s1) e2 k
theorem bK(i:Nat){x:Str}{p':Pos}(hN:X.N.Nodup)(h:DE X κ e f)(hi:X.N[i]?=some x:=by rfl)(hx:Loc X.env.scope x:=by first|exact Or.inl rfl|exact Or.inr rfl)(hs:swapsWith e (some (.Name x p')) pos.line X.env=pure false:=by rfl)
  (hf:X.fn x=true\/X.env.scope.names.lookup x=some .local:=by first|exact .inl rfl|exact .inr rfl):DS X κ fr (.Assign [.Name x p'] e pos) (cU i f):=by
 obtain⟨te,h1,h2⟩:=h
 refine⟨_,mS hN hi hx h1 hs hf,λ{G A bo own ρ σ H fl D} r e k=>?_⟩
 obtain⟨p,e1,rfl⟩:=Option.map_eq_some_iff.mp e
 exact h2 r e1 λv H' s z=>k _ _ _ ((r.mono s).set z)
theorem R.Lq{K:PySem.W.Frag}{G H H':Hp}{A:Addr->Prop}{bo:Nat->Option (Addr×List V)}{own:Nat->Addr}{ρ:di}{σ:St}(r:R K κ G A bo own ρ σ H)(s:aH H H'){i:Nat}{v:V}{l:List PV}(z:OR K κ (cK A own ρ) H H' v (.lst l)):
  ∃cV,R K κ G A bo cV (ρ.set i (.ow l)) (σ.set i (some v)) H':=by
 obtain⟨a,vs,l',rfl,z2,h3,h4,h5⟩:=z
 cases z2
 refine⟨_,r.NS (r.same.free h3) (λq=>r.new h3 (.inl q)) (λj m e _ q=>r.new h3 (.inr ⟨j,m,e,q⟩)) ?_ (λb o q _=>s b o q) h4 h5⟩
 exact cY s λb w nz=>by
  rcases w with w|w
  ·exact w
  ·rw[w]at nz
   exact absurd h3 nz
theorem qE(i:Nat){x:Str}{p':Pos}(hN:X.N.Nodup)(h:DO X κ e f)(hi:X.N[i]?=some x:=by rfl)(hx:Loc X.env.scope x:=by first|exact Or.inl rfl|exact Or.inr rfl)(hs:swapsWith e (some (.Name x p')) pos.line X.env=pure false:=by rfl)
  (hf:X.fn x=true\/X.env.scope.names.lookup x=some .local:=by first|exact .inl rfl|exact .inr rfl):DS X κ fr (.Assign [.Name x p'] e pos) (nV i f):=by
 obtain⟨te,h1,h2⟩:=h
 refine⟨_,mS hN hi hx h1 hs hf,λ{G A bo own ρ σ H fl D} r e k=>?_⟩
 obtain⟨p,e1,e2⟩:=Option.bind_eq_some_iff.mp e
 obtain⟨l,e3,rfl⟩:=Option.map_eq_some_iff.mp e2
 refine h2 r e1 λv H' s z=>?_
 cases p<;>first|(cases e3;done)|skip
 cases e3
 obtain⟨cV,r'⟩:=r.Lq s (i:=i) z
 exact k _ _ _ r'
theorem R.SM{K:PySem.W.Frag}{G H:Hp}{A:Addr->Prop}{bo:Nat->Option (Addr×List V)}{own:Nat->Addr}{ρ:di}{σ:St}(r:R K κ G A bo own ρ σ H){i:Nat}{l l':Cn}{ws:List V}(h:ρ[i]?=some (.own l))(q:aS K κ (cZ A own ρ H) ws (Ln l')):
  ∃cV,R K κ G A bo cV (ρ.set i (.own l')) σ (upd H (own i) (Ej l' ws)):=by
 obtain⟨h1,h3,vs,h4,h5⟩:=r.ow i l h
 have e:σ.set i (some (.ref (own i)))=σ:=by
  obtain⟨hl,hx⟩:=List.getElem?_eq_some_iff.mp h1
  rw[<-hx]
  exact List.set_getElem_self hl
 have hs:cK A own ρ (own i):=.inr ⟨i,l,h,rfl⟩
 have he:hide (λb=>cK A own ρ b\/b=own i) (upd H (own i) (Ej l' ws))=cZ A own ρ H:=by
  rw[nW (.inr rfl)]
  congr 1
  funext b
  refine propext ⟨λz=>?_,.inl⟩
  rcases z with z|z
  ·exact z
  ·rw[z]
   exact hs
 have:=r.NS (i:=i) (a:=own i) (vs:=ws) (l:=l') (H1:=upd H (own i) (Ej l' ws)) h3 (λz=>r.al _ z h3) (λj m e' hj z=>hj (r.inj j i _ _ e' h z)) (by rw[he];exact λ_ _ z=>z) (λb o z hb=>by rw[aJ hb];exact z) aQ (by rw[he];exact q)
 rw[e]at this
 exact⟨_,this⟩
noncomputable def Ju(K:PySem.W.Frag)(κ:Kl)(rm:V->List V->Hp->VK->Prop)(gm:List PV->List PV->Option (List PV)):Prop:=
 ∀{hH H:Hp} {a:Addr} {vs ws:List V} {l xs l':List PV} {Q:VK},aH hH H->H a=some (.lst vs)->aS K κ hH vs l->aS K κ hH ws xs->gm l xs=some l'->(∀us,aS K κ hH us l'->Q .non (upd H a (.lst us)))->rm (.ref a) ws H Q
theorem R.mut{K:PySem.W.Frag}{G H:Hp}{A:Addr->Prop}{bo:Nat->Option (Addr×List V)}{own:Nat->Addr}{ρ:di}{σ:St}(r:R K κ G A bo own ρ σ H){i:Nat}{l l':List PV}{ws:List V}(h:ρ[i]?=some (.ow l))(q:aS K κ (cZ A own ρ H) ws l'):
 ∃cV,R K κ G A bo cV (ρ.set i (.ow l')) σ (upd H (own i) (.lst ws)):=r.SM (l:=.l l) (l':=.l l') h q
theorem Hv{K:PySem.W.Frag}{rm:V->List V->Hp->VK->Prop}{gm:List PV->List PV->Option (List PV)}{fs:dq}{ta:TA}(i:Nat)(hg:Ju K κ rm gm)
  (ha:∀{G A bo own ρ σ H ps Q},R K κ G A bo own ρ σ H->fs ρ=some ps->(∀vs H',aH H H'->aS K κ (cZ A own ρ H') vs ps->Q vs H')->ta σ H Q):GW K κ fr (xW (TV K "list" rm (l6 i) ta)) (rf i gm fs):=λ{G A bo own ρ σ H fl D} r e k=>by
 obtain⟨xs,e1,e2⟩:=Option.bind_eq_some_iff.mp e
 obtain⟨l,e3,e4⟩:=Option.bind_eq_some_iff.mp e2
 obtain⟨l',e5,rfl⟩:=Option.map_eq_some_iff.mp e4
 have DH:=fO e3
 obtain⟨h1,h3,vs,h4,h5⟩:=r.ow i (.l l) DH
 change H (own i)=some (.lst vs)at h4
 change aS _ _ _ vs l at h5
 refine⟨_,h1,.inl ⟨rfl,vs,mP.of h4⟩,ha r e1 λws H2 s2 z2=>?_⟩
 refine hg aG (s2 _ _ h4) (h5.mono (bC s2)) z2 e5 λus z=>?_
 obtain⟨cV,r'⟩:=(r.mono s2).mut DH z
 exact k _ _ _ r'
theorem Et{K:PySem.W.Frag}{rm:V->List V->Hp->VK->Prop}{gm:List PV->List PV->Option (List PV)}(i:Nat)(hg:Ju K κ rm gm):GW K κ fr (xW (NI K "list" rm (l6 i))) (rf i gm aP):=λ{G A bo own ρ σ H fl D} r e k=>by
 obtain⟨xs,e1,e2⟩:=Option.bind_eq_some_iff.mp e
 obtain⟨l,e3,e4⟩:=Option.bind_eq_some_iff.mp e2
 obtain⟨l',e5,rfl⟩:=Option.map_eq_some_iff.mp e4
 have DH:=fO e3
 obtain⟨h1,h3,vs,h4,h5⟩:=r.ow i (.l l) DH
 change H (own i)=some (.lst vs)at h4
 change aS _ _ _ vs l at h5
 cases e1
 refine⟨_,h1,.inl ⟨rfl,vs,mP.of h4⟩,?_⟩
 refine hg aG h4 h5 .nil e5 λus z=>?_
 obtain⟨cV,r'⟩:=r.mut DH z
 exact k _ _ _ r'
theorem lT{x:Str}{p' apos dA:Pos}{ee:Expr}{fs:dq}(i:Nat)(ha:DA X κ [ee] fs)(hN:X.N[i]?=some x:=by rfl)(hv:xS X.env.scope x:=by first|exact Or.inl rfl|exact Or.inr (Or.inl rfl)|exact Or.inr (Or.inr rfl))(hd:(x==("__debug__" :Str))=false:=by decide)
  (oU:(x==("__classdict__" :Str))=false:=by decide)(jx:attributeBase (.Name x p') "append" X.env (eval (.Name x p') X.env)=eval (.Name x p') X.env:=by rfl)
  (vO:((backTo dA (starEach [ee] X.env)).all (λx=>!x.1)&&(backToKw dA (keywordEach [] X.env)).all (λx=>x.1.isSome)
    &&decide ([ee].length+([]:List Keyword).length+(if([]:List Keyword).isEmpty then 0 else 1)<30))=true:=by rfl)
  (hs:swapsWith (.Call (.Attribute (.Name x p') "append" apos) [ee] [] dA) none pos.line X.env=pure false:=by rfl)(jy:(apos.endLine==dA.line)=true:=by rfl)(oV:starEach [ee] X.env=(false,eval ee X.env)::starEach [] X.env:=by rfl):
  DS X κ fr (.Expr (.Call (.Attribute (.Name x p') "append" apos) [ee] [] dA) pos) (rf i iL fs):=by
 obtain⟨ta,h1,h2⟩:=ha
 refine⟨_,iK (BG PySem.F.plainAttrs_list PySem.F.slot_list_append PySem.F.type_list_append u4 (en hN hv hd oU) h1 jx vO jy oV rfl) hs,Hv i ?_ h2⟩
 intro hH H a vs ws l xs l' Q s h3 h4 h5 h6 q
 unfold iL at h6
 split at h6
 ·obtain⟨h7,rfl⟩:=bD h6
  cases h5 with
  |cons z t=>
   cases t
   exact⟨a,vs,_,rfl,rfl,h3,by rw[h4.length];exact h7,q _ (h4.append (.cons z .nil))⟩
 ·cases h6
theorem Eu{x:Str}{p' apos dA:Pos}(i:Nat)(hN:X.N[i]?=some x:=by rfl)(hv:xS X.env.scope x:=by first|exact Or.inl rfl|exact Or.inr (Or.inl rfl)|exact Or.inr (Or.inr rfl))(hd:(x==("__debug__" :Str))=false:=by decide)
  (oU:(x==("__classdict__" :Str))=false:=by decide)(jx:attributeBase (.Name x p') "clear" X.env (eval (.Name x p') X.env)=eval (.Name x p') X.env:=by rfl)
  (hs:swapsWith (.Call (.Attribute (.Name x p') "clear" apos) [] [] dA) none pos.line X.env=pure false:=by rfl)(jy:(apos.endLine==dA.line)=true:=by rfl):
  DS X κ fr (.Expr (.Call (.Attribute (.Name x p') "clear" apos) [] [] dA) pos) (rf i Eg aP):=by
 refine⟨_,iK (Lb PySem.F.plainAttrs_list PySem.F.slot_list_clear PySem.F.type_list_clear D9 (en hN hv hd oU) jx jy) hs,Et i ?_⟩
 intro hH H a vs ws l xs l' Q s h3 h4 h5 h6 q
 cases h5 with
 |cons _ _=>cases h6
 |nil=>
  cases h6
  exact⟨a,vs,rfl,rfl,h3,q [] .nil⟩
end
noncomputable def ym(K:PySem.W.Frag)(κ:Kl)(Gs:Hp)(A:Addr->Prop)(J:It)(ps:List PV):Prop:=
 ∀(i:Nat) (H2:Hp),aH Gs H2->(∀p,ps[i]?=some p->J.go i H2/\∀x H3,J.yld i H2 x H3->aH H2 H3/\∀B:Addr->Prop,(∀b,B b->H2 b≠none)->aH (hide A Gs) (hide B H2)->Rep K κ (hide B H3) x p)/\(ps.length<=i->J.stop i H2)
noncomputable def DI(X:Cx)(κ:Kl)(tg iter:Expr)(f:dq):Prop:=∃wi,PI X tg iter wi/\∀{G A bo own ρ σ H ps Q},R X.K κ G A bo own ρ σ H->f ρ=some ps->(∀J H',aH H H'->ym X.K κ (DD own ρ H') A J ps->Q J H')->wi σ H Q
noncomputable def Ri(X:Cx)(κ:Kl)(tg iter:Expr)(f:dq):Prop:=∃wi,PI X tg iter wi/\∀{G A bo own ρ σ H ps Q},R X.K κ G A bo own ρ σ H->f ρ=some ps->(∀J H',aH H H'->ym X.K κ H' (cK A own ρ) J ps->Q J H')->wi σ H Q
noncomputable def DG(X:Cx)(κ:Kl)(tg:Expr)(g:tx):Prop:=∃tt,PG X tg tt/\∀{G A bo own ρ σ H p v ρ' Q},R X.K κ G A bo own ρ σ H->Rep X.K κ (cZ A own ρ H) v p->g p ρ=some ρ'->(∀cV σ',R X.K κ G A bo cV ρ' σ' H->aH (cZ A own ρ H) (cZ A cV ρ' H)->Q σ' H)->tt v σ H Q
section
variable{K:PySem.W.Frag}{κ:Kl}{Gs:Hp}{A:Addr->Prop}{a:Addr}{vs:List V}{l:List PV}
theorem vb(h:SL K Gs a vs)(q:aS K κ (hide A Gs) vs l):ym K κ Gs A (RZ K a) l:=λi H2 s=>by
 have h2:mP K H2 a vs:=(s.sl h).sq
 refine⟨λp e=>?_,λhl=>⟨vs,h2,by rw[q.length];exact hl⟩⟩
 obtain⟨v,e1,r1⟩:=q.get e
 refine⟨⟨vs,v,h2,e1⟩,λx H3 ⟨y1,y2⟩=>?_⟩
 subst y1
 have:=y2 vs h2
 rw[e1]at this
 cases this
 exact⟨aH.refl _,λB _ sb=>r1.mono sb⟩
theorem Ew(h:mQ K Gs a vs)(q:aS K κ (hide A Gs) vs l):ym K κ Gs A (R0 K a) l:=λi H2 s=>by
 have h2:mQ K H2 a vs:=va s h
 refine⟨λp e=>?_,λhl=>⟨vs,h2,by rw[q.length];exact hl⟩⟩
 obtain⟨v,e1,r1⟩:=q.get e
 refine⟨⟨vs,v,h2,e1⟩,λx H3 ⟨y1,y2⟩=>?_⟩
 subst y1
 have:=y2 vs h2
 rw[e1]at this
 cases this
 exact⟨aH.refl _,λB _ sb=>r1.mono sb⟩
theorem AA{lo:Int}{n i:Nat}{p:PV}(h:(jI lo n)[i]?=some p):i<n/\p=.int (lo+(i:Nat)):=by
 unfold jI at h
 rw[List.getElem?_map]at h
 obtain⟨k,h1,rfl⟩:=Option.map_eq_some_iff.mp h
 obtain⟨h2,h3⟩:=List.getElem?_eq_some_iff.mp h1
 rw[List.getElem_range]at h3
 subst h3
 exact⟨by simpa using h2,rfl⟩
theorem AB{lo:Int}{n:Nat}:ym K κ Gs A (Nh lo n) (jI lo n):=λi H2 s=>by
 refine⟨λp e=>?_,λhl=>show n<=i by simpa[jI]using hl⟩
 obtain⟨h1,rfl⟩:=AA e
 refine⟨h1,λx H3 ⟨y1,y2⟩=>?_⟩
 subst y1 y2
 exact⟨aH.refl _,λB _ _=>.int _⟩
end
section
variable{X:Cx}{κ:Kl}{fr:Bool}{g:aY}{e a b c tg iter:Expr}{f fa fb:Den}{ft:ef}{pos:Pos}{fi:dq}{gt gu:tx}{body:List Stmt}
theorem Hw{A:Addr->Prop}{own:Nat->Addr}{ρ:di}{H:Hp}:aH (cZ A own ρ H) (DD own ρ H):=by
 rw[<-yk]
 exact aG
theorem Hx(h:DE X κ e f):DI X κ tg e (nList f):=by
 obtain⟨te,h1,h2⟩:=h
 refine⟨_,Bz h1,λ{G A bo own ρ σ H ps Q} r e q=>?_⟩
 obtain⟨p,e1,e2⟩:=Option.bind_eq_some_iff.mp e
 refine h2 r e1 λv H' s z=>?_
 cases p<;>first|(cases e2;done)|skip
 cases e2
 cases z with
 |lst q1 q2=>exact⟨_,rfl,⟨_,((aG (A:=cK A own ρ)).sl q1).sq⟩,q _ H' s (vb (Hw.sl q1) (by rw[yk];exact q2))⟩
theorem jA(h:DB X κ e f):Ri X κ tg e (nList f):=by
 obtain⟨te,h1,h2⟩:=h
 refine⟨_,Bz h1,λ{G A bo own ρ σ H ps Q} r e q=>?_⟩
 obtain⟨p,e1,e2⟩:=Option.bind_eq_some_iff.mp e
 refine h2 r e1 λv H' s z=>?_
 cases p<;>first|(cases e2;done)|skip
 cases e2
 obtain⟨a,vs,rfl,q1,q2⟩:=z.lst aG
 exact⟨_,rfl,⟨_,q1.sq⟩,q _ H' s (vb q1 q2)⟩
theorem BQ(h:DB X κ e f):Ri X κ tg e (Ef f):=by
 obtain⟨te,h1,h2⟩:=h
 refine⟨_,KN h1,λ{G A bo own ρ σ H ps Q} r e q=>?_⟩
 obtain⟨p,e1,e2⟩:=Option.bind_eq_some_iff.mp e
 refine h2 r e1 λv H' s z=>?_
 cases p<;>first|(cases e2;done)|skip
 cases e2
 obtain⟨a,vs,rfl,q1,q2⟩:=z.tup aG
 exact⟨_,rfl,⟨_,q1⟩,q _ H' s (Ew q1 q2)⟩
theorem SN{K:PySem.W.Frag}{te:TE}(h2:NV K κ te f){G A bo own ρ σ H ps}{Q:It->Hp->Prop}(r:R K κ G A bo own ρ σ H)(e:mi f ρ=some ps)(q:∀n H',aH H H'->ps=jI 0 n->Q (Nh 0 n) H'):Jj (kr te vG) σ H Q:=by
 obtain⟨p,e1,e2⟩:=Option.bind_eq_some_iff.mp e
 obtain⟨j,e3,e4⟩:=Option.bind_eq_some_iff.mp e2
 obtain⟨h3,h4⟩:=bD e4
 simp only[yf,Bool.and_eq_true,decide_eq_true_eq]at h3
 refine h2 r e1 λv H' s z=>?_
 cases p<;>first|(cases e3;done)|skip
 cases e3
 exact⟨_,by rw[z.int],h3.1,h3.2,q _ H' s h4.symm⟩
theorem qF{p pos:Pos}(h:DB X κ a f)(hm:X.mg "range" =none)(hg:Gl X "range" :=by rfl)(hs:starEach [a] X.env=[(false,eval a X.env)]:=by rfl):DI X κ tg (.Call (.Name "range" p) [a] [] pos) (mi f):=by
 obtain⟨te,h1,h2⟩:=h
 exact⟨_,CG hg hm (aU h1 cu hs) hs,λ{G A bo own ρ σ H ps Q} r e q=>SN h2 r e λn H' s e'=>q _ H' s (by rw[e'];exact AB)⟩
theorem fB(i:Nat){x:Str}(hN:X.N.Nodup)(hi:X.N[i]?=some x:=by rfl)(hx:Loc X.env.scope x:=by first|exact Or.inl rfl|exact Or.inr rfl)(hf:X.fn x=true\/X.env.scope.names.lookup x=some .local:=by first|exact .inl rfl|exact .inr rfl):DG X κ (.Name x pos) (b0 i):=
 ⟨_,GZ hN hi hx hf,λ{G A bo own ρ σ H p v ρ' Q} r z e q=>by cases e;exact q _ _ (r.set z) lR⟩
theorem Hy{k:Nat}(ha:DG X κ a gt)(hb:DG X κ b gu)(hc:X.calm=true:=by rfl)(hs:(assignEach [a,b] X.env).map (·.2)=assign a X.env::(assignEach [b] X.env).map (·.2):=by rfl)(oZ:(assignEach [b] X.env).map (·.2)=assign b X.env::(assignEach [] X.env).map (·.2):=by rfl)
  (hn:(assignEach [a,b] X.env).length=2:=by rfl)(oV:(assignEach [a,b] X.env).findIdx? (·.1)=none:=by rfl):DG X κ (.Tuple [a,b] k pos) (pf gt gu):=by
 obtain⟨ta,h1,h2⟩:=ha
 obtain⟨tb,h3,h4⟩:=hb
 refine⟨_,DU hc (qT h1 (qT h3 By oZ) hs) hn oV,λ{G A bo own ρ σ H p v ρ' Q} r z e q=>?_⟩
 unfold pf at e
 split at e
 ·rename_i x y
  obtain⟨ρ1,e1,e2⟩:=Option.bind_eq_some_iff.mp e
  cases z with
  |tup q1 q2=>
   cases q2 with
   |cons r1 q2=>
    cases q2 with
    |cons r2 q2=>
     cases q2
     refine⟨_,_,rfl,va (aG (A:=cK A own ρ)) q1,rfl,_,_,rfl,h2 r r1 e1 λcV σ' r' s'=>?_⟩
     exact⟨_,_,rfl,h4 r' (r2.mono s') e2 λrl σ2 r3 s3=>⟨rfl,q rl σ2 r3 (s'.trans s3)⟩⟩
 ·cases e
end
section
variable{K:PySem.W.Frag}{κ:Kl}{fr:Bool}{gb:aY}{ft:ef}{gt:tx}{fi:dq}
theorem CT{g:tx}{body:aY}{x:PV}{xs:List PV}{ρ:di}{fl:Fl}(h:forL g body (x::xs) ρ=some fl):∃ρ1 f,g x ρ=some ρ1/\body ρ1=some f/\(match f with
  |.nx ρ'=>forL g body xs ρ'
  |.ct ρ'=>forL g body xs ρ'
  |.bk ρ'=>some (.nx ρ')
  |.rt p=>some (.rt p))=some fl:=by
 unfold forL at h
 obtain⟨ρ1,e1,e2⟩:=Option.bind_eq_some_iff.mp h
 obtain⟨f,e3,e4⟩:=Option.bind_eq_some_iff.mp e2
 exact⟨ρ1,f,e1,e3,e4⟩
theorem CU{J:It}{ps:List PV}{G:Hp}{A:Addr->Prop}{bo:Nat->Option (Addr×List V)}{tg:TG}{tb:TS}{D:Ends}{own:Nat->Addr}{ρ:di}{σ:St}{H:Hp}{fl:Fl}
  (hI:ym K κ G A J ps)(hg:∀{own ρ σ H p v ρ' Q},R K κ G A bo own ρ σ H->Rep K κ (cZ A own ρ H) v p->gt p ρ=some ρ'->(∀cV σ',R K κ G A bo cV ρ' σ' H->aH (cZ A own ρ H) (cZ A cV ρ' H)->Q σ' H)->tg v σ H Q)
  (hb:GW K κ fr tb gb)(r:R K κ G A bo own ρ σ H)(e:forL gt gb ps ρ=some fl)(k:Er K κ fr G A bo D fl):
  ∃W:Nat->Nat->St->Hp->Prop,(∃m,W 0 m σ H)/\∀i m σ H,W i m σ H->
   (J.stop i H/\D.nx σ H)\/(J.go i H/\∃N:St->Hp->Prop,(∀σ' H',N σ' H'->∃m',m'<m/\W (i+1) m' σ' H')/\∀x H',J.yld i H x H'->tg x σ H' λσ2 H2=>tb {D with nx:=N,ct:=N,bk:=D.nx} σ2 H2):=by
 refine⟨λi m σ H=>m=ps.length-i/\i<=ps.length/\∃own ρ,R K κ G A bo own ρ σ H/\forL gt gb (ps.drop i) ρ=some fl,⟨ps.length,by simp,Nat.zero_le _,own,ρ,r,by simpa using e⟩,?_⟩
 rintro i m σ H ⟨rfl,hi,own,ρ,r,e⟩
 obtain⟨h1,h2⟩:=hI i H r.same
 by_cases xP:i<ps.length
 ·rw[List.drop_eq_getElem_cons xP]at e
  obtain⟨ρ1,f,e1,e3,e4⟩:=CT e
  obtain⟨h3,h4⟩:=h1 ps[i] (List.getElem?_eq_getElem xP)
  refine .inr ⟨h3,λσ' H'=>i+1<=ps.length/\∃own ρ,R K κ G A bo own ρ σ' H'/\forL gt gb (ps.drop (i+1)) ρ=some fl,λσ' H' ⟨q0,q⟩=>⟨ps.length-(i+1),by omega,rfl,q0,q⟩,λx H' y=>?_⟩
  obtain⟨s,q⟩:=h4 x H' y
  have r1:=r.mono s
  refine hg r1 (q (cK A own ρ) (λb hb=>r.GU hb) r.Ho) e1 λcV σ' r2 _=>?_
  refine hb r2 e3 ?_
  cases f with
  |nx ρ'=>exact λrl σ2 H2 r3=>⟨xP,rl,ρ',r3,e4⟩
  |ct ρ'=>exact λrl σ2 H2 r3=>⟨xP,rl,ρ',r3,e4⟩
  |bk ρ'=>cases e4;exact k
  |rt p=>cases e4;exact k
 ·have hn:ps.drop i=[]:=List.drop_eq_nil_of_le (by omega)
  rw[hn]at e
  cases e
  exact .inl ⟨h2 (by omega),k own σ H r⟩
theorem Er.small{G G':Hp}{A:Addr->Prop}{bo:Nat->Option (Addr×List V)}{D:Ends}{fl:Fl}(k:Er K κ fr G A bo D fl)(s:aH G G')(al:∀b,A b->G b≠none)(bg:∀i a vs,bo i=some (a,vs)->G a=some (.lst vs)):Er K κ fr G' A bo D fl:=by
 cases fl with
 |nx ρ'=>exact λcV σ' H' r=>k cV σ' H' (r.small s al bg)
 |bk ρ'=>exact λcV σ' H' r=>k cV σ' H' (r.small s al bg)
 |ct ρ'=>exact λcV σ' H' r=>k cV σ' H' (r.small s al bg)
 |rt p=>
  intro v H' s' q
  refine k v H' (s.trans s') ?_
  unfold RR at q⊢
  split
  ·rename_i h
   rw[if_pos h]at q
   exact SK q s λb z=>z
  ·rename_i h
   rw[if_neg h]at q
   exact q
end
section
variable{X:Cx}{κ:Kl}{fr:Bool}{g:aY}{e a b c tg iter:Expr}{f fa fb:Den}{ft:ef}{pos:Pos}{fi:dq}{gt gu:tx}{body:List Stmt}
theorem pA(hi:DI X κ tg iter fi)(hg:DG X κ tg gt)(hb:DJ X κ fr body g)(hp:PassesOwn (model X.prog X.w) X.A X.env X.xe:=by exact PassesOwn.never)(hc:X.calm=true:=by rfl)(hs:∀x,foldedSetIterable iter X.env x=pure x:=by intro _;rfl):DS X κ fr (.For tg iter body [] pos) (rg fi gt g):=by
 obtain⟨wi,h1,h2⟩:=hi
 obtain⟨tt,h3,h4⟩:=hg
 obtain⟨tb,h5,h6⟩:=hb
 refine⟨_,KO hp hc h1 h3 h5 hs,λ{G A bo own ρ σ H fl D} r e k=>?_⟩
 obtain⟨ps,e1,e2⟩:=Option.bind_eq_some_iff.mp e
 refine h2 r e1 λJ H' s hI=>?_
 have r1:=r.mono s
 exact CU hI h4 h6 r1.big e2 (k.small r1.gv r1.al r1.bg)
theorem Ex(n:Nat)(hc:DT X κ c ft)(hb:DJ X κ fr body g)(hp:PassesOwn (model X.prog X.w) X.A X.env X.xe:=by exact PassesOwn.never):DS X κ fr (.While c body [] pos) (fM ft g n):=by
 obtain⟨tc,h1,h2⟩:=hc
 obtain⟨tb,h3,h4⟩:=hb
 refine⟨_,xX hp h1 h3,λ{G A bo own ρ σ H fl D} r e k=>?_⟩
 refine⟨λm σ H=>∃own ρ,R X.K κ G A bo own ρ σ H/\fM ft g m ρ=some fl,⟨n,own,ρ,r,e⟩,?_⟩
 rintro m σ H ⟨own,ρ,r,e⟩
 cases m with
 |zero=>cases e
 |succ m=>
  unfold fM at e
  obtain⟨c,e1,e2⟩:=Option.bind_eq_some_iff.mp e
  refine h2 r e1 λH1 s1=>?_
  cases c with
  |false=>
   cases e2
   exact k own σ H1 (r.mono s1)
  |true=>
   obtain⟨f,e3,e4⟩:=Option.bind_eq_some_iff.mp e2
   refine⟨λσ' H'=>∃own ρ,R X.K κ G A bo own ρ σ' H'/\fM ft g m ρ=some fl,λσ' H' q=>⟨m,Nat.lt_succ_self m,q⟩,?_⟩
   refine h4 (r.mono s1) e3 ?_
   cases f with
   |nx ρ'=>exact λrl σ2 H2 r3=>⟨rl,ρ',r3,e4⟩
   |ct ρ'=>exact λrl σ2 H2 r3=>⟨rl,ρ',r3,e4⟩
   |bk ρ'=>cases e4;exact k
   |rt p=>cases e4;exact k
end
noncomputable def Rj(K:PySem.W.Frag)(κ:Kl)(f:Den):TE:=λσ H Q=>∃G A bo own ρ p,R K κ G A bo own ρ σ H/\f ρ=some p/\∀v H',aH H H'->Rep K κ (cZ A own ρ H') v p->Q v H'
noncomputable def SO(K:PySem.W.Frag)(κ:Kl)(f:ef):TT:=λσ H Q=>∃G A bo own ρ b,R K κ G A bo own ρ σ H/\f ρ=some b/\∀H',aH H H'->Q b H'
theorem DE.pe{X:Cx}{κ:Kl}{e:Expr}{f:Den}(h:DE X κ e f):PE X e (Rj X.K κ f):=λpins s σ H Q I ⟨_,_,_,_,_,_,r,e,q⟩=>let⟨_,h1,h2⟩:=h;h1 pins s σ H Q I (h2 r e q)
noncomputable def SQ{α:Type}(f:Nat->α)(d:α):Nat->α
 |0=>d
 |i+1=>f i
section
variable{K:PySem.W.Frag}{κ:Kl}{G H:Hp}{A:Addr->Prop}{bo:Nat->Option (Addr×List V)}{own:Nat->Addr}{ρ:di}{σ:St}{v:V}{p:PV}
theorem lU:cK A (SQ own 0) (.sh p::ρ)=cK A own ρ:=by
 funext b
 refine propext ⟨λz=>?_,λz=>?_⟩
 ·rcases z with z|⟨j,m,z1,z2⟩
  ·exact .inl z
  ·cases j with
   |zero=>simp at z1
   |succ j=>exact .inr ⟨j,m,by simpa using z1,z2⟩
 ·rcases z with z|⟨j,m,z1,z2⟩
  ·exact .inl z
  ·exact .inr ⟨j+1,m,by simpa using z1,z2⟩
theorem R.cons(r:R K κ G A bo own ρ σ H)(z:Rep K κ (cZ A own ρ H) v p):R K κ G A (SQ bo none) (SQ own 0) (.sh p::ρ) (some v::σ) H where
 al:=r.al
 bg:=λi a vs e=>by
  cases i with
  |zero=>cases e
  |succ i=>exact r.bg i a vs e
 same:=r.same
 sh:=λi q e=>by
  rw[cZ,lU]
  cases i with
  |zero=>
   simp at e
   subst e
   exact⟨v,rfl,z⟩
  |succ i=>exact r.sh i q (by simpa using e)
 ow:=λi l e=>by
  rw[cZ,lU]
  cases i with
  |zero=>simp at e
  |succ i=>exact r.ow i l (by simpa using e)
 inj:=λi j l m e f q=>by
  cases i with
  |zero=>simp at e
  |succ i=>
   cases j with
   |zero=>simp at f
   |succ j=>rw[r.inj i j l m (by simpa using e) (by simpa using f) q]
 bw:=λi l e=>by
  rw[cZ,lU]
  cases i with
  |zero=>simp at e
  |succ i=>exact r.bw i l (by simpa using e)
 len:=by rw[List.length_cons,List.length_cons,r.len]
theorem yn{wi:TI}{fi:dq}{c:ef}{e:Den}(hi:∀{G A bo own ρ σ H ps Q},R K κ G A bo own ρ σ H->fi ρ=some ps->(∀J H',aH H H'->ym K κ H' (cK A own ρ) J ps->Q J H')->wi σ H Q):
  Uc K κ (Ea wi (SO K κ c) (Rj K κ e)) (dZ fi c e):=λ{G A bo own ρ σ H p Q} r e0 q=>by
 obtain⟨ps,e1,e2⟩:=Option.bind_eq_some_iff.mp e0
 have h0:ps.length<=sizeLine/\(mj c e ρ ps).map PV.lst=some p:=by
  split at e2
  ·exact⟨by assumption,e2⟩
  ·cases e2
 obtain⟨zs,e3,rfl⟩:=Option.map_eq_some_iff.mp h0.2
 refine hi r e1 λJ H1 s1 hI=>?_
 refine⟨λi m acc H2=>m=ps.length-i/\i<=ps.length/\aH H1 H2/\acc.length<=i/\∃out rest,aS K κ (cZ A own ρ H2) acc out/\mj c e ρ (ps.drop i)=some rest/\out++rest=zs,
  ⟨ps.length,by simp,Nat.zero_le _,aH.refl _,Nat.zero_le _,[],zs,.nil,by simpa using e3,rfl⟩,?_⟩
 rintro i m acc H2 ⟨rfl,MW,s2,ha,out,rest,q1,q2,q3⟩
 obtain⟨h1,h2⟩:=hI i H2 s2
 have SR:=s1.trans s2
 have r2:=r.mono SR
 by_cases xP:i<ps.length
 ·rw[List.drop_eq_getElem_cons xP]at q2
  obtain⟨h3,h4⟩:=h1 ps[i] (List.getElem?_eq_getElem xP)
  refine .inr ⟨h3,by omega,λy H3 hy=>?_⟩
  obtain⟨s3,q4⟩:=h4 y H3 hy
  have rep:=q4 (cK A own ρ) (λb hb=>r2.GU hb) (bC s2)
  have r3:=(r2.mono s3).cons rep
  unfold mj at q2
  obtain⟨b,e4,e5⟩:=Option.bind_eq_some_iff.mp q2
  refine⟨_,_,_,_,_,_,r3,e4,λH4 s4=>?_⟩
  have r4:=r3.mono s4
  cases b with
  |true=>
   dsimp only
   rw[if_pos rfl]at e5⊢
   obtain⟨z,e6,e7⟩:=Option.bind_eq_some_iff.mp e5
   obtain⟨ws,e8,rfl⟩:=Option.map_eq_some_iff.mp e7
   refine⟨_,_,_,_,_,_,r4,e6,λv H5 s5 q5=>?_⟩
   rw[cZ,lU]at q5
   refine⟨ps.length-(i+1),by omega,rfl,xP,((s2.trans s3).trans s4).trans s5,by simp;omega,out++[z],ws,?_,e8,by rw[<-q3];simp⟩
   exact(q1.mono (bC ((s3.trans s4).trans s5))).append (.cons q5 .nil)
  |false=>
   dsimp only
   rw[if_neg Bool.false_ne_true]at e5⊢
   exact⟨ps.length-(i+1),by omega,rfl,xP,(s2.trans s3).trans s4,by omega,out,rest,q1.mono (bC (s3.trans s4)),e5,q3⟩
 ·have hn:ps.drop i=[]:=List.drop_eq_nil_of_le (by omega)
  rw[hn]at q2
  cases q2
  rw[List.append_nil]at q3
  subst q3
  refine .inl ⟨h2 (by omega),λp hp=>q _ _ (SR.trans (cJ hp)) ?_⟩
  obtain⟨a,ws,l,w1,w2,w3,w4⟩:=r2.yl hp q1
  refine⟨a,ws,l,w1,w2,?_,w4⟩
  cases w1
  exact SR.free hp
end
section
variable{X:Cx}{κ:Kl}{fr:Bool}{sc:Scope}{x:Str}{px pos:Pos}{elt iter c:Expr}{fi:dq}{ft:ef}{f:Den}
theorem jK(hi:Ri X κ (.Name x px) iter fi)(BJ:Scope)(N0 ys:List Str)(he:∀ex C s H,DE (X.qY sc x ys ex C s H) κ elt f)(Lr:X.env.scope=BJ:=by rfl)(SS:X.N=N0:=by rfl)(Lj:o9 BJ N0 sc x ys=true:=by decide+kernel)(hc:X.calm=true:=by rfl)
  (hs:∀x,foldedSetIterable iter X.env x=pure x:=by intro _;rfl):DO X κ (.ListComp elt [⟨.Name x px,iter,[],0⟩] sc pos) (dZ fi dr f):=by
 obtain⟨wi,h1,h2⟩:=hi
 refine⟨_,Hk h1 ys (tt:=SO X.K κ dr) (te:=Rj X.K κ f) (λex C s H=>?_) (λex C s H=>(he ex C s H).pe) (by rw[Lr,SS];exact Lj) hc hs,yn h2⟩
 intro pins s σ H Q I ⟨_,_,_,_,_,_,r,e,q⟩
 cases e
 exact x5 pins s σ H Q I (q _ (aH.refl _))
end
noncomputable def fK(K:PySem.W.Frag)(κ:Kl)(fr:Bool)(F:List PV->Option PV):Sp:=λvs H Q _=>∃(A:Addr->Prop) (ps:List PV) (p:PV),(∀b,A b->H b≠none)/\aS K κ (hide A H) vs ps/\F ps=some p/\∀v H',aH H H'->RR fr K κ A H H' v p->Q v H'
section
variable{X:Cx}{κ:Kl}{fr:Bool}{k:Nat}{f:Addr}{fd:FuncData}{ps:List Str}{F:List PV->Option PV}{x:Str}{p pos:Pos}{e:Expr}{es:List Expr}{fs:dq}
theorem cQ(FO:aL X.prog X.w X.K X.mg X.base cm k f fd ps (fK X.K κ false F))(hr:cT k X.A)(hm:X.mg x=some (.ref f))(hk:PySem.W.keepIn X.K (.ref f)=true)(hb:Binds X.K fd ps [])(ha:DA X κ (e::es) fs)(hg:Gl X x:=by rfl)(qq:(x==("__debug__" :Str))=false:=by decide)
  (he:starEach (e::es) X.env=(false,eval e X.env)::starEach es X.env:=by rfl)(hpl:(backTo pos (starEach es X.env)).any (·.1)=false:=by rfl):DE X κ (.Call (.Name x p) (e::es) [] pos) (cx F fs):=by
 obtain⟨ta,h1,h2⟩:=ha
 refine⟨_,vH FO hr hg hm hk hb .nil g0 h1 qq he hpl,λ{G A bo own ρ σ H p Q} r e q=>?_⟩
 obtain⟨xs,e1,e2⟩:=Option.bind_eq_some_iff.mp e
 refine h2 r e1 λvs H1 s1 z1=>?_
 rw[List.append_nil]
 exact⟨cK A own ρ,xs,p,λb hb=>(r.mono s1).GU hb,z1,e2,λv H' s z=>q v H' (s1.trans s) z⟩
theorem Hz(FO:aL X.prog X.w X.K X.mg X.base cm k f fd ps (fK X.K κ true F))(hr:cT k X.A)(hm:X.mg x=some (.ref f))(hk:PySem.W.keepIn X.K (.ref f)=true)(hb:Binds X.K fd ps [])(ha:DA X κ (e::es) fs)(hg:Gl X x:=by rfl)(qq:(x==("__debug__" :Str))=false:=by decide)
  (he:starEach (e::es) X.env=(false,eval e X.env)::starEach es X.env:=by rfl)(hpl:(backTo pos (starEach es X.env)).any (·.1)=false:=by rfl):DO X κ (.Call (.Name x p) (e::es) [] pos) (cx F fs):=by
 obtain⟨ta,h1,h2⟩:=ha
 refine⟨_,vH FO hr hg hm hk hb .nil g0 h1 qq he hpl,λ{G A bo own ρ σ H p Q} r e q=>?_⟩
 obtain⟨xs,e1,e2⟩:=Option.bind_eq_some_iff.mp e
 refine h2 r e1 λvs H1 s1 z1=>?_
 rw[List.append_nil]
 exact⟨cK A own ρ,xs,p,λb hb=>(r.mono s1).GU hb,z1,e2,λv H' s z=>q v H' (s1.trans s) (SK z s1 λb w=>w)⟩
end
section
variable{P:Program}{w:World}{K:PySem.W.Frag}{mg:Str->Option Value}{base:Heap}{κ:Kl}{fr:Bool}
theorem mU{n:Nat}{ps:List PV}{i:Nat}{s:Slot}(h:(iZ n ps)[i]?=some s):(∃p,ps[i]?=some p/\s=.sh p)\/s=.un:=by
 unfold iZ at h
 rw[List.getElem?_append]at h
 split at h
 ·rw[List.getElem?_map]at h
  obtain⟨p,h1,h2⟩:=Option.map_eq_some_iff.mp h
  exact .inl ⟨p,h1,h2.symm⟩
 ·rw[List.getElem?_replicate]at h
  split at h
  ·exact .inr (Option.some.inj h).symm
  ·cases h
theorem R.entry{A:Addr->Prop}{H:Hp}{N:List Str}{vs:List V}{ps:List PV}(al:∀b,A b->H b≠none)(h:aS K κ (hide A H) vs ps):R K κ H A (λ_=>none) (λ_=>0) (iZ N.length ps) (start N vs) H:=by
 have no:∀{i:Nat} {l:Cn},(iZ N.length ps)[i]?≠some (.own l):=λ{i l} e=>by
  rcases mU e with⟨p,_,z⟩|z<;>cases z
 have he:cK A (λ_=>0) (iZ N.length ps)=A:=by
  funext b
  refine propext ⟨λz=>?_,.inl⟩
  rcases z with z|⟨j,m,z1,z2⟩
  ·exact z
  ·exact absurd z1 no
 refine⟨al,λi a vs e=>(by cases e),λ_ _ z=>z,λi p e=>?_,λi l e=>absurd e no,λi j l m e=>absurd e no,λi l e=>?_,?_⟩
 ·rcases mU e with⟨p',h1,z⟩|z
  ·cases z
   obtain⟨v,h2,h3⟩:=h.get h1
   refine⟨v,?_,by rw[cZ,he];exact h3⟩
   unfold start
   rw[List.getElem?_append_left (by rw[List.length_map];exact(List.getElem?_eq_some_iff.mp h2).1),List.getElem?_map,h2]
   rfl
  ·cases z
 ·rcases mU e with⟨p,_,z⟩|z<;>cases z
 ·unfold start iZ
  simp[h.length]
theorem bG{x qual:Str}{st:Stmt}{f:Addr}{fd:FuncData}{N ps:List Str}{k:Nat}{g:aY}(F:qt K x qual st f fd)(S:aN N ps (ae st))
  (hb:∀(dY:Value) (A:Around) (outer:List Env) (s:Shared) (H:Hp) (E:XK),cT k (A.deeper (envOfC qual (ae st) s.heap.objs.size f dY))->DJ (vI cm P w K mg base N qual (ae st) f dY A outer s H E).DM κ fr (aI st) g):
  aL P w K mg base cm (k+1) f fd ps (fK K κ fr (fn fr N.length ps.length g)):=by
 refine F.ok S (λvs H Q E h=>?_) (λdY A outer s H vs Q E hr h=>?_)
 ·obtain⟨A,qs,p,_,h1,h2,_⟩:=h
  unfold fn at h2
  split at h2
  ·rw[h1.length]
   assumption
  ·cases h2
 ·obtain⟨A',qs,p,al,h1,h2,q⟩:=h
  obtain⟨ts,a1,a2⟩:=hb dY A outer s H E hr
  refine⟨ts,a1,?_⟩
  have h3:(g (iZ N.length qs)).bind (NP fr)=some p:=by
   unfold fn at h2
   split at h2
   ·exact h2
   ·cases h2
  obtain⟨fl,e1,e2⟩:=Option.bind_eq_some_iff.mp h3
  refine a2 (R.entry al h1) e1 ?_
  cases fl with
  |rt p'=>cases e2;exact q
  |nx ρ'=>
   cases fr with
   |true=>cases e2
   |false=>
    cases e2
    exact λcV σ' H' r'=>q _ _ r'.same .non
  |bk ρ'=>cases e2
  |ct ρ'=>cases e2
end
end L2.D
namespace L2.D
open PySem PySem.Spec PyProof.Rows PySem.SeqAt
open Classical
section
variable{X:Cx}{pins:List (Addr×Obj)}{σ:St}{H:Hp}{s:Shared}{κ:Kl}
theorem kz{f:PV->PV->Option Bool}:∀{l m:List PV} {es:List Bool},qu f l m=some es->l.length=m.length->es.length=l.length
 |[],[],_,h,_=>by cases h;rfl
 |a::l,b::m,es,h,e=>by
  unfold qu at h
  obtain⟨c,h1,h2⟩:=Option.bind_eq_some_iff.mp h
  obtain⟨cs,h3,rfl⟩:=Option.map_eq_some_iff.mp h2
  simp[kz h3 (by simpa using e)]
theorem nY{f:PV->PV->Option Bool}:∀{l m:List PV} {es:List Bool} {j:Nat} {p q:PV},qu f l m=some es->l[j]?=some p->m[j]?=some q->∃e,es[j]?=some e/\f p q=some e
 |[],_,_,_,_,_,_,hp,_=>by simp at hp
 |_::_,[],_,_,_,_,_,_,hq=>by simp at hq
 |a::l,b::m,es,0,p,q,h,hp,hq=>by
  unfold qu at h
  obtain⟨c,h1,h2⟩:=Option.bind_eq_some_iff.mp h
  obtain⟨cs,h3,rfl⟩:=Option.map_eq_some_iff.mp h2
  simp at hp hq
  subst hp hq
  exact⟨c,rfl,h1⟩
 |a::l,b::m,es,j+1,p,q,h,hp,hq=>by
  unfold qu at h
  obtain⟨c,h1,h2⟩:=Option.bind_eq_some_iff.mp h
  obtain⟨cs,h3,rfl⟩:=Option.map_eq_some_iff.mp h2
  obtain⟨e,h4,h5⟩:=nY (j:=j) h3 (by simpa using hp) (by simpa using hq)
  exact⟨e,by simpa using h4,h5⟩
theorem Ey:∀(n:Nat) (p:PV) (b:Bool),lO n p p=some b->b=true:=by
 intro n
 induction n with
 |zero=>
  intro p b h
  unfold lO at h
  cases p<;>simp[flat,GQ]at h<;>exact h
 |succ n ih=>
  have key:∀(l:List PV) (es:List Bool),qu (lO n) l l=some es->es.all id=true:=by
   intro l
   induction l with
   |nil=>intro es h;cases h;rfl
   |cons a l Ve=>
    intro es h
    unfold qu at h
    obtain⟨c,h1,h2⟩:=Option.bind_eq_some_iff.mp h
    obtain⟨cs,h3,rfl⟩:=Option.map_eq_some_iff.mp h2
    simp[ih _ _ h1,Ve _ h3]
  intro p b h
  cases p with
  |lst l=>
   unfold lO GR at h
   rw[if_pos rfl]at h
   obtain⟨es,h1,rfl⟩:=Option.map_eq_some_iff.mp h
   exact key l es h1
  |tup l=>
   unfold lO GR at h
   rw[if_pos rfl,if_pos rfl]at h
   obtain⟨es,h1,rfl⟩:=Option.map_eq_some_iff.mp h
   exact key l es h1
  |_=>simp[lO,flat,GQ]at h<;>exact h
theorem yo(I:Inv X pins σ H s){a:Addr}{xs ys:List V}(h:mP X.K H a xs)(h':mQ X.K H a ys):False:=by
 obtain⟨_,_,p1,_⟩:=I.list h
 obtain⟨_,_,p2,_⟩:=I.tuple h'
 obtain⟨o,e1,c1,_⟩:=p1.isList
 obtain⟨o2,e2,c2,_⟩:=p2
 rw[e1]at e2
 cases e2
 rw[c1]at c2
 injection c2 with z
 exact absurd z (by decide)
mutual
theorem Rep.inj(I:Inv X pins σ H s):∀{v:V} {p q:PV},Rep X.K κ H v p->Rep X.K κ H v q->(∀n b,lO n p q=some b->p=q)
 |_,_,_,.non,.non=>λ_ _ _=>rfl
 |_,_,_,.bl _,.bl _=>λ_ _ _=>rfl
 |_,_,_,.int _,.int _=>λ_ _ _=>rfl
 |_,_,_,.str _,.str _=>λ_ _ _=>rfl
 |_,_,_,.lst h r,q=>λn b e=>by
  cases q with
  |lst h' r'=>
   have:=I.xV h.sq h'.sq
   subst this
   cases n with
   |zero=>simp[lO,flat]at e
   |succ n=>
    unfold lO GR at e
    split at e
    ·obtain⟨es,e1,_⟩:=Option.map_eq_some_iff.mp e
     rw[aS.inj I r r' n es e1]
    ·rename_i hl
     exact absurd (r.length.symm.trans r'.length) hl
  |tup h' _=>exact(yo I h.sq h').elim
  |ins _ _ _=>cases n<;>simp[lO,flat]at e
 |_,_,_,.tup h r,q=>λn b e=>by
  cases q with
  |lst h' _=>exact(yo I h'.sq h).elim
  |tup h' r'=>
   have:=I.uV h h'
   subst this
   cases n with
   |zero=>simp[lO,flat]at e
   |succ n=>
    unfold lO GR at e
    have hl:=r.length.symm.trans r'.length
    rw[if_pos hl,if_pos hl]at e
    obtain⟨es,e1,_⟩:=Option.map_eq_some_iff.mp e
    rw[aS.inj I r r' n es e1]
  |ins _ _ _=>cases n<;>simp[lO,flat]at e
 |_,_,_,.ins _ _ _,q=>λn b e=>by
  cases n<;>cases q<;>simp[lO,flat]at e
theorem aS.inj(I:Inv X pins σ H s):∀{vs:List V} {l m:List PV},aS X.K κ H vs l->aS X.K κ H vs m->∀n es,qu (lO n) l m=some es->l=m
 |_,_,_,.nil,.nil=>λ_ _ _=>rfl
 |_,_,_,.cons r t,.cons r' t'=>λn es e=>by
  unfold qu at e
  obtain⟨c,h1,h2⟩:=Option.bind_eq_some_iff.mp e
  obtain⟨cs,h3,rfl⟩:=Option.map_eq_some_iff.mp h2
  rw[Rep.inj I r r' n c h1,aS.inj I t t' n cs h3]
end
theorem nZ{es:List Bool}{n:Nat}(h:es.length=n):((List.range n).all λj=>es.getD j false)=es.all id:=by
 subst h
 exact range_all es
theorem yp{A:Around}{a b:Addr}{xs ys:List V}(I:Inv X pins σ H s)(ha:mQ X.K H a xs)(hb:mQ X.K H b ys)(hl:xs.length=ys.length)(hu:A.units<cLine)(q:Nat->Bool)
  (hq:∀(j:Nat) x y u v,xs[j]?=some x->ys[j]?=some y->RelV x u->RelV y v->EqAt A.in1 s u v (q j)):RcAt A s (.ref a) (.ref b) ((List.range xs.length).all q):=by
 obtain⟨its,r1,p1,z1⟩:=I.tuple ha
 obtain⟨tK,r2,p2,z2⟩:=I.tuple hb
 have l1:=r1.length
 have l2:=r2.length
 have:=RcAt.tuples (A:=A) (s:=s) (e:=q) (l:=a) (b:=b) p1 p2 hu λj h1 h2=>?_
 ·rw[List.size_toArray,List.size_toArray,<-l1,<-l2,<-hl,Nat.min_self,beq_self_eq_true,Bool.and_true]at this
  exact this
 ·rw[List.size_toArray]at h1 h2
  obtain⟨x,hx⟩:∃x,xs[j]?=some x:=⟨xs[j],List.getElem?_eq_getElem (by omega)⟩
  obtain⟨y,hy⟩:∃y,ys[j]?=some y:=⟨ys[j],List.getElem?_eq_getElem (by omega)⟩
  obtain⟨u,e1,ru⟩:=r1.get hx
  obtain⟨v,e2,rv⟩:=r2.get hy
  have f1:its.toArray[j]=u:=by
   have:=(List.getElem?_eq_some_iff.mp e1).2
   simpa using this
  have f2:tK.toArray[j]=v:=by
   have:=(List.getElem?_eq_some_iff.mp e2).2
   simpa using this
  rw[f1,f2]
  exact hq j x y u v hx hy ru rv
theorem BS{A:Around}{v w:V}{u u':Value}{p q:PV}(f:(flat p&&flat q)=true)(r1:Rep X.K κ H v p)(r2:Rep X.K κ H w q)(e1:RelV v u)(e2:RelV w u'):EqAt A s u u' (GQ p q):=by
 rw[Bool.and_eq_true]at f
 have hv:gZ v=true:=by cases r1<;>simp_all[flat,gZ]
 have hw:gZ w=true:=by cases r2<;>simp_all[flat,gZ]
 have:GQ p q=DF v w:=by cases r1<;>cases r2<;>simp_all[flat,GQ,DF]
 rw[this]
 exact D6 e1 e2 hv hw
theorem yq(I:Inv X pins σ H s):∀(n:Nat) {p q:PV} {v w:V} {u u':Value} {A:Around} {b:Bool},A.units+n<cLine->Rep X.K κ H v p->Rep X.K κ H w q->RelV v u->RelV w u'->lO n p q=some b->EqAt A s u u' b:=by
 intro n
 induction n with
 |zero=>
  intro p q v w u u' A b hu r1 r2 e1 e2 h
  unfold lO at h
  obtain⟨h1,rfl⟩:=bD h
  exact BS h1 r1 r2 e1 e2
 |succ n ih=>
  intro p q v w u u' A b hu r1 r2 e1 e2 h
  have NZ:A.in1.units+n<cLine:=by
   have:A.in1.units=A.units+1:=rfl
   omega
  by_cases hf:(flat p&&flat q)=true
  ·have:lO (n+1) p q=some (GQ p q):=by
     cases p<;>cases q<;>simp_all[lO,flat]
   rw[this]at h
   cases h
   exact BS hf r1 r2 e1 e2
  ·by_cases hvw:v=w
   ·subst hvw
    have Vf:=Rep.inj I r1 r2 _ _ h
    subst Vf
    have hb:=Ey _ _ _ h
    subst hb
    cases r1 with
    |lst _ _=>cases e1;cases e2;exact EqAt.same _
    |tup _ _=>cases e1;cases e2;exact EqAt.same _
    |ins _ _ _=>cases e1;cases e2;exact EqAt.same _
    |_=>simp[flat]at hf
   ·have hr:∀{xs ys:List V} {l m:List PV} {es:List Bool},aS X.K κ H xs l->aS X.K κ H ys m->qu (lO n) l m=some es->∀(j:Nat) x y u v,xs[j]?=some x->ys[j]?=some y->RelV x u->RelV y v->EqAt A.in1 s u v (es.getD j false):=by
      intro xs ys l m es w1 w2 he j x y u v hx hy ru rv
      obtain⟨p1,g1,g2⟩:=w1.Ay hx
      obtain⟨p2,g3,g4⟩:=w2.Ay hy
      obtain⟨e,g5,g6⟩:=nY he g1 g3
      rw[List.getD_eq_getElem?_getD,g5]
      exact ih NZ g2 g4 ru rv g6
    cases r1 with
    |@lst a vs l h1 w1=>
     cases q with
     |lst m=>
      cases r2 with
      |@lst b' Vg _ h2 w2=>
       cases e1
       cases e2
       refine EqAt.of_refs (λz=>hvw (by rw[z])) ?_
       unfold lO GR at h
       split at h
       ·rename_i hl
        obtain⟨es,g1,rfl⟩:=Option.map_eq_some_iff.mp h
        have g2:=kz g1 hl
        have:=x9 I h1.sq h2.sq (A:=A) (by omega) (λj=>es.getD j false) (hr w1 w2 g1)
        rw[decide_eq_true (by rw[w1.length,w2.length];exact hl),Bool.true_and,nZ (by rw[w1.length];exact g2)]at this
        exact this
       ·rename_i hl
        cases h
        obtain⟨its,k1,p1,z1⟩:=I.list h1.sq
        obtain⟨tK,k2,p2,z2⟩:=I.list h2.sq
        have l1:=k1.length
        have l2:=k2.length
        have l3:=w1.length
        have l4:=w2.length
        exact RcAt.lists_lengths p1.isList p2.isList (by rw[List.size_toArray,List.size_toArray];simp;omega) (by omega)
     |_=>cases r2<;>simp[lO,flat]at h
    |@tup a vs l h1 w1=>
     cases q with
     |tup m=>
      cases r2 with
      |@tup b' Vg _ h2 w2=>
       cases e1
       cases e2
       refine EqAt.of_refs (λz=>hvw (by rw[z])) ?_
       unfold lO GR at h
       split at h
       ·rename_i hl
        try rw[if_pos hl]at h
        obtain⟨es,g1,rfl⟩:=Option.map_eq_some_iff.mp h
        have g2:=kz g1 hl
        have:=yp I h1 h2 (A:=A) (by rw[w1.length,w2.length];exact hl) (by omega) (λj=>es.getD j false) (hr w1 w2 g1)
        rw[nZ (by rw[w1.length];exact g2)]at this
        exact this
       ·cases h
     |_=>cases r2<;>simp[lO,flat]at h
    |ins _ _ _=>cases q<;>simp[lO,flat]at h
    |_=>cases r2<;>simp[lO,flat]at h hf
end
end L2.D
namespace L2.D
open PySem PySem.Spec PyProof.Rows PySem.SeqAt
open Classical
section
variable{X:Cx}{κ:Kl}{fr:Bool}{e a b c:Expr}{f fa fb fc:Den}{p pos:Pos}
noncomputable def SU(K:PySem.W.Frag)(κ:Kl)(neg:Bool):R2:=λx y H Q=>∃p q b,Rep K κ H x p/\Rep K κ H y q/\eqT p q=some b/\Q (.bl (if neg then !b else b)) H
theorem yr{pins:List (Addr×Obj)}{σ:St}{H:Hp}{s:Shared}{A:Around}{a b:Addr}{vs ws:List V}{l m:List PV}{r:Bool}(I:Inv X pins σ H s)(hu:A.units+20<cLine)(h1:SL X.K H a vs)(w1:aS X.K κ H vs l)(h2:SL X.K H b ws)(w2:aS X.K κ H ws m)
  (h:lO 20 (.lst l) (.lst m)=some r):RcAt A s (.ref a) (.ref b) r/\RcNeAt A s (.ref a) (.ref b) (!r):=by
 unfold lO GR at h
 have NZ:A.in1.units+19<cLine:=by
  have:A.in1.units=A.units+1:=rfl
  omega
 split at h
 ·rename_i hl
  obtain⟨es,g1,rfl⟩:=Option.map_eq_some_iff.mp h
  have g2:=kz g1 hl
  have hr:∀(j:Nat) x y u v,vs[j]?=some x->ws[j]?=some y->RelV x u->RelV y v->EqAt A.in1 s u v (es.getD j false):=by
   intro j x y u v hx hy ru rv
   obtain⟨p1,k1,k2⟩:=w1.Ay hx
   obtain⟨p2,k3,k4⟩:=w2.Ay hy
   obtain⟨e,k5,k6⟩:=nY g1 k1 k3
   rw[List.getD_eq_getElem?_getD,k5]
   exact yq I 19 NZ k2 k4 ru rv k6
  have z1:=x9 I h1.sq h2.sq (A:=A) (by omega) (λj=>es.getD j false) hr
  have z2:=Au I h1.sq h2.sq (A:=A) (by omega) (λj=>es.getD j false) hr
  rw[decide_eq_true (by rw[w1.length,w2.length];exact hl),Bool.true_and,nZ (by rw[w1.length];exact g2)]at z1 z2
  exact⟨z1,z2⟩
 ·rename_i hl
  cases h
  obtain⟨its,k1,p1,z1⟩:=I.list h1.sq
  obtain⟨tK,k2,p2,z2⟩:=I.list h2.sq
  have l1:=k1.length
  have l2:=k2.length
  have l3:=w1.length
  have l4:=w2.length
  exact⟨RcAt.lists_lengths p1.isList p2.isList (by rw[List.size_toArray,List.size_toArray];simp;omega) (by omega),RcNeAt.lists_lengths p1.isList p2.isList (by rw[List.size_toArray,List.size_toArray];simp;omega) (by omega)⟩
theorem HA{pins:List (Addr×Obj)}{σ:St}{H:Hp}{s:Shared}{A:Around}{a b:Addr}{vs ws:List V}{l m:List PV}{r:Bool}(I:Inv X pins σ H s)(hu:A.units+20<cLine)(h1:mQ X.K H a vs)(w1:aS X.K κ H vs l)(h2:mQ X.K H b ws)(w2:aS X.K κ H ws m)
  (h:lO 20 (.tup l) (.tup m)=some r):RcAt A s (.ref a) (.ref b) r:=by
 unfold lO GR at h
 have NZ:A.in1.units+19<cLine:=by
  have:A.in1.units=A.units+1:=rfl
  omega
 split at h
 ·rename_i hl
  try rw[if_pos hl]at h
  obtain⟨es,g1,rfl⟩:=Option.map_eq_some_iff.mp h
  have g2:=kz g1 hl
  have hr:∀(j:Nat) x y u v,vs[j]?=some x->ws[j]?=some y->RelV x u->RelV y v->EqAt A.in1 s u v (es.getD j false):=by
   intro j x y u v hx hy ru rv
   obtain⟨p1,k1,k2⟩:=w1.Ay hx
   obtain⟨p2,k3,k4⟩:=w2.Ay hy
   obtain⟨e,k5,k6⟩:=nY g1 k1 k3
   rw[List.getD_eq_getElem?_getD,k5]
   exact yq I 19 NZ k2 k4 ru rv k6
  have z1:=yp I h1 h2 (A:=A) (by rw[w1.length,w2.length];exact hl) (by omega) (λj=>es.getD j false) hr
  rw[nZ (by rw[w1.length];exact g2)]at z1
  exact z1
 ·cases h
theorem Ls(hu:X.A.units+20<cLine):mf X (compareOp .Eq) (SU X.K κ false):=by
 intro pins s σ H x y v u Q I rx ry h
 obtain⟨p,q,r,r1,r2,e,k⟩:=h
 cases p<;>cases q<;>first|cases e|skip
 all_goals first
  |(cases r1 with
   |lst h1 w1=>cases r2 with
    |lst h2 w2=>
     cases rx;cases ry
     exact(yr I hu h1 w1 h2 w2 e).1 _ _ _ _ ⟨.bl r,H,I,rfl,k⟩)
  |(cases r1 with
   |tup h1 w1=>cases r2 with
    |tup h2 w2=>
     cases rx;cases ry
     exact HA I hu h1 w1 h2 w2 e _ _ _ _ ⟨.bl r,H,I,rfl,k⟩)
  |(cases r1;cases r2;exact Nn pins s σ H _ _ v u Q I rx ry ⟨rfl,by simpa using k⟩)
theorem Lu(hu:X.A.units+20<cLine):mf X (compareOp .NotEq) (λx y H Q=>∃p q b,Rep X.K κ H x p/\Rep X.K κ H y q/\(∀l,p≠.tup l)/\eqT p q=some b/\Q (.bl (!b)) H):=by
 intro pins s σ H x y v u Q I rx ry h
 obtain⟨p,q,r,r1,r2,nt,e,k⟩:=h
 cases p<;>cases q<;>first|cases e|skip
 all_goals first
  |exact absurd rfl (nt _)
  |(cases r1 with
   |lst h1 w1=>cases r2 with
    |lst h2 w2=>
     cases rx;cases ry
     exact(yr I hu h1 w1 h2 w2 e).2 _ _ _ _ ⟨.bl (!r),H,I,rfl,k⟩)
  |(cases r1;cases r2;exact Np pins s σ H _ _ v u Q I rx ry ⟨rfl,by simpa using k⟩)
theorem N1{A:Around}(h:A.units+64<cLine):A.units+20<cLine:=by omega
theorem mm{k:Nat}(hr:cT k X.A)(ha:DB X κ a fa)(hb:DB X κ b fb):DC X κ .Eq a b (ag oW fa fb):=by
 obtain⟨ta,h1,h2⟩:=ha
 obtain⟨tb,h3,h4⟩:=hb
 refine⟨_,_,_,Ls (κ:=κ) (N1 hr.units),h1,h3,λ{G A bo own ρ σ H p Q} r e q=>?_⟩
 refine tM h2 h4 r e λx y p1 p2 H' s r' b1 b2 e'=>?_
 obtain⟨b,e1,rfl⟩:=Option.map_eq_some_iff.mp e'
 exact⟨p1,p2,b,b1.full aG,b2.full aG,e1,q _ H' s (.bl _)⟩
theorem yt{k:Nat}(hr:cT k X.A)(ha:DB X κ a fa)(hb:DB X κ b fb):DC X κ .NotEq a b (ag l8 fa fb):=by
 obtain⟨ta,h1,h2⟩:=ha
 obtain⟨tb,h3,h4⟩:=hb
 refine⟨_,_,_,Lu (κ:=κ) (N1 hr.units),h1,h3,λ{G A bo own ρ σ H p Q} r e q=>?_⟩
 refine tM h2 h4 r e λx y p1 p2 H' s r' b1 b2 e'=>?_
 have nt:∀l,p1≠.tup l:=λl z=>by rw[z]at e';cases e'
 have e2:Ua p1 p2=some p:=by cases p1<;>first|exact e'|exact absurd rfl (nt _)
 obtain⟨b,e1,rfl⟩:=Option.map_eq_some_iff.mp e2
 exact⟨p1,p2,b,b1.full aG,b2.full aG,nt,e1,q _ H' s (.bl _)⟩
theorem HB{K:PySem.W.Frag}{hH H:Hp}{x:V}{p:PV}(h:BR K κ hH H x p):yc p=some (.bl (decide (x=.non))):=by
 rcases h with h|⟨a,vs,l,rfl,rfl,_⟩
 ·cases h<;>simp[yc]
 ·simp[yc]
theorem Ez{j pos'}(ha:DB X κ a fa):DC X κ .Is a (.Constant .none j pos') (bf yc fa):=by
 obtain⟨ta,h1,h2⟩:=ha
 refine⟨_,_,_,K2,h1,Ku,λ{G A bo own ρ σ H p Q} r e q=>?_⟩
 obtain⟨p1,e1,e2⟩:=Option.bind_eq_some_iff.mp e
 refine h2 r e1 λx H1 s1 b1=>?_
 rw[HB b1]at e2
 cases e2
 exact⟨rfl,q _ H1 s1 (.bl _)⟩
theorem Jv{K:PySem.W.Frag}{H:Hp}:∀{vs:List V} {l:List PV},aS K κ H vs l->l.all flat=true->vs.all gZ=true
 |_,_,.nil,_=>rfl
 |_,_,.cons r t,h=>by
  rw[List.all_cons,Bool.and_eq_true]at h⊢
  refine⟨?_,Jv t h.2⟩
  cases r<;>simp_all[flat,gZ]
theorem N2{K:PySem.W.Frag}{H H':Hp}{v w:V}{p q:PV}(r1:Rep K κ H v p)(r2:Rep K κ H' w q)(f1:flat p=true)(f2:flat q=true):GQ p q=DF v w:=by
 cases r1<;>cases r2<;>simp_all[flat,GQ,DF]
theorem Jw{K:PySem.W.Frag}{H H':Hp}{v:V}{p:PV}(r:Rep K κ H v p)(f:flat p=true):∀{vs:List V} {l:List PV},aS K κ H' vs l->l.all flat=true->vR p l=Ra v vs
 |_,_,.nil,_=>rfl
 |_,_,.cons r1 t,h=>by
  rw[List.all_cons,Bool.and_eq_true]at h
  have ih:=Jw r f t h.2
  unfold vR Ra at ih⊢
  rw[List.any_cons,List.any_cons,ih,N2 r1 r h.1 f]
theorem BU{neg:Bool}{K:PySem.W.Frag}{hH H':Hp}{x y:V}{p1 p2 p:PV}{Q:VK}(b1:BR K κ hH H' x p1)(b2:BR K κ hH H' y p2)(s:aH hH H')(e:(if neg then ra p1 p2 else NO p1 p2)=some p)(q:∀b,p=.bl b->Q (.bl b) H'):Rb K neg x y H' Q:=by
 have go:∀(l:List PV) (vs:List V) (a:Addr),y=.ref a->(mP K H' a vs\/mQ K H' a vs)->aS K κ hH vs l->(if(flat p1&&l.all flat)=true then some (PV.bl (if neg then !vR p1 l else vR p1 l))else none)=some p->Rb K neg x y H' Q:=by
  intro l vs a hy hs w e
  obtain⟨h1,h2⟩:=bD e
  rw[Bool.and_eq_true]at h1
  have rx:=b1.full s
  refine⟨a,vs,hy,hs,?_,Jv w h1.2,?_⟩
  ·cases rx<;>simp_all[flat,gZ]
  ·rw[Jw rx h1.1 w h1.2]at h2
   exact q _ h2.symm
 cases p2 with
 |lst l=>
  obtain⟨a,vs,rfl,q1,q2⟩:=b2.lst s
  exact go l vs a rfl (.inl q1.sq) q2 (by cases neg<;>exact e)
 |tup l=>
  obtain⟨a,vs,rfl,q1,q2⟩:=b2.tup s
  exact go l vs a rfl (.inr q1) q2 (by cases neg<;>exact e)
 |_=>cases neg<;>cases e
theorem EA(ha:DB X κ a fa)(hb:DB X κ b fb):DC X κ .In a b (ag NO fa fb):=by
 obtain⟨ta,h1,h2⟩:=ha
 obtain⟨tb,h3,h4⟩:=hb
 refine⟨_,_,_,CN,h1,h3,λ{G A bo own ρ σ H p Q} r e q=>?_⟩
 refine tM h2 h4 r e λx y p1 p2 H' s r' b1 b2 e'=>?_
 exact BU (neg:=false) b1 b2 aG e' λb z=>q _ H' s (by rw[z];exact .bl _)
theorem EB(ha:DB X κ a fa)(hb:DB X κ b fb):DC X κ .NotIn a b (ag ra fa fb):=by
 obtain⟨ta,h1,h2⟩:=ha
 obtain⟨tb,h3,h4⟩:=hb
 refine⟨_,_,_,vL,h1,h3,λ{G A bo own ρ σ H p Q} r e q=>?_⟩
 refine tM h2 h4 r e λx y p1 p2 H' s r' b1 b2 e'=>?_
 exact BU (neg:=true) b1 b2 aG e' λb z=>q _ H' s (by rw[z];exact .bl _)
theorem fD(ha:DB X κ a fa)(hm:X.mg "len" =none)(hg:Gl X "len" :=by rfl)(hs:starEach [a] X.env=(false,eval a X.env)::starEach [] X.env:=by rfl):DE X κ (.Call (.Name "len" p) [a] [] pos) (bf eg fa):=by
 obtain⟨ta,h1,h2⟩:=ha
 refine⟨_,ku (nU.or vM) hg hm PySem.boot_len (aU h1 cu hs) (he:=hs),λ{G A bo own ρ σ H p Q} r e q=>?_⟩
 obtain⟨p1,e1,e2⟩:=Option.bind_eq_some_iff.mp e
 refine h2 r e1 λx H1 s1 b1=>?_
 cases p1<;>first|(cases e2;done)|skip
 ·obtain⟨z1,rfl⟩:=bD e2
  exact .inr ⟨_,by rw[b1.str],z1,q _ H1 s1 (.int _)⟩
 ·cases e2
  obtain⟨a,vs,rfl,q1,q2⟩:=b1.lst aG
  exact .inl ⟨a,vs,rfl,.inl q1.sq,q _ H1 s1 (by rw[q2.length];exact .int _)⟩
 ·cases e2
  obtain⟨a,vs,rfl,q1,q2⟩:=b1.tup aG
  exact .inl ⟨a,vs,rfl,.inr q1,q _ H1 s1 (by rw[q2.length];exact .int _)⟩
theorem HC(ha:DB X κ a fa)(hm:X.mg "list" =none)(hg:Gl X "list" :=by rfl)(hs:starEach [a] X.env=(false,eval a X.env)::starEach [] X.env:=by rfl):DO X κ (.Call (.Name "list" p) [a] [] pos) (bf yd fa):=by
 obtain⟨ta,h1,h2⟩:=ha
 refine⟨_,jw vN hg hm PyProof.Rows.boot_list (aU h1 cu hs) (he:=hs),λ{G A bo own ρ σ H p Q} r e q=>?_⟩
 obtain⟨p1,e1,e2⟩:=Option.bind_eq_some_iff.mp e
 refine h2 r e1 λx H1 s1 b1=>?_
 have fin:∀{vs l n},H1 n=none->aS X.K κ (cZ A own ρ H1) vs l->p=.lst l->Q (.ref n) (upd H1 n (.lst vs)):=λ{vs l n} hn w z=>by
  subst z
  refine q _ _ (s1.trans (cJ hn)) ?_
  obtain⟨a,ws,l,w1,w2,w3,w4⟩:=(r.mono s1).yl hn w
  refine⟨a,ws,l,w1,w2,?_,w4⟩
  cases w1
  exact s1.free hn
 cases p1<;>first|(cases e2;done)|skip
 ·obtain⟨a,vs,rfl,q1,q2⟩:=b1.lst aG
  exact⟨a,vs,rfl,.inl q1.sq,λn hn=>fin hn q2 (Option.some.inj e2).symm⟩
 ·obtain⟨a,vs,rfl,q1,q2⟩:=b1.tup aG
  exact⟨a,vs,rfl,.inr q1,λn hn=>fin hn q2 (Option.some.inj e2).symm⟩
theorem aS.at{K:PySem.W.Frag}{H:Hp}{vs:List V}{l:List PV}{i:Int}{p:PV}(h:aS K κ H vs l)(e:itemAt l i=some p):∃v,K7 vs i=some v/\Rep K κ H v p:=by
 obtain⟨j,e1,e2⟩:=Option.bind_eq_some_iff.mp e
 obtain⟨v,h1,h2⟩:=h.get e2
 refine⟨v,?_,h2⟩
 unfold K7
 rw[h.length]
 exact Option.bind_eq_some_iff.mpr ⟨j,e1,h1⟩
theorem hV(ha:DB X κ a fa)(hb:DB X κ b fb)(hs:BE b:=by intro _ _;rfl):DE X κ (.Subscript a b pos) (ag lP fa fb):=by
 obtain⟨ta,h1,h2⟩:=ha
 obtain⟨tb,h3,h4⟩:=hb
 refine⟨_,ND La h1 h3 hs,λ{G A bo own ρ σ H p Q} r e q=>?_⟩
 refine tM h2 h4 r e λx y p1 p2 H' s r' b1 b2 e'=>?_
 (cases p1<;>first|(cases e';done)|skip)<;>cases p2<;>first|(cases e';done)|skip
 ·rename_i x' i'
  have e3:(if x'.length<=sizeLine then(itemAt x'.cps.toList i').map λc=>PV.str ⟨#[c]⟩else none)=some p:=e'
  have z1:x'.length<=sizeLine:=by
   by_cases z:x'.length<=sizeLine
   ·exact z
   ·rw[if_neg z]at e3
    cases e3
  have z2:((itemAt x'.cps.toList i').map λc=>PV.str ⟨#[c]⟩)=some p:=by
   rw[if_pos z1]at e3
   exact e3
  obtain⟨c,e2,rfl⟩:=Option.map_eq_some_iff.mp z2
  exact .inr (.inr ⟨_,_,c,b1.str,b2.int,z1,e2,q _ H' s (.str _)⟩)
 ·obtain⟨a,vs,rfl,q1,q2⟩:=b1.lst aG
  obtain⟨v,z1,z2⟩:=q2.at e'
  exact .inl ⟨a,vs,_,v,rfl,b2.int,q1.sq,z1,q _ H' s z2⟩
 ·obtain⟨a,vs,rfl,q1,q2⟩:=b1.tup aG
  obtain⟨v,z1,z2⟩:=q2.at e'
  exact .inr (.inl ⟨a,vs,_,v,rfl,b2.int,q1,z1,q _ H' s z2⟩)
noncomputable def DP(X:Cx)(κ:Kl)(e:Option Expr)(f:vS):Prop:=∃to,PO X e to/\∀{G A bo own ρ σ H o Q},R X.K κ G A bo own ρ σ H->f ρ=some o->(∀H',aH H H'->Q o H')->to σ H Q
theorem fT:DP X κ none eW:=⟨_,Hc,λ{G A bo own ρ σ H o Q} r e q=>by cases e;exact q H (aH.refl _)⟩
theorem dj(ha:DB X κ a fa):DP X κ (some a) (bX fa):=by
 obtain⟨ta,h1,h2⟩:=ha
 refine⟨_,Hd h1,λ{G A bo own ρ σ H o Q} r e q=>?_⟩
 obtain⟨p,e1,e2⟩:=Option.bind_eq_some_iff.mp e
 obtain⟨i,e3,rfl⟩:=Option.map_eq_some_iff.mp e2
 refine h2 r e1 λx H1 s1 b1=>?_
 cases p<;>first|(cases e3;done)|skip
 cases e3
 exact⟨_,b1.int,q H1 s1⟩
theorem aS.cut{K:PySem.W.Frag}{H:Hp}{vs:List V}{l:List PV}(h:aS K κ H vs l)(lo hi:Option Int):aS K κ H (CM vs lo hi) (ky l lo hi):=by
 have e:∀n d o,HT.Af n d o=ye n d o:=λn d o=>by cases o<;>rfl
 unfold CM ky
 rw[h.length,e,e]
 exact(h.drop _).take _
theorem kB{p2:Pos}{lo hi:Option Expr}{fl fh:vS}(ha:DB X κ a fa)(hl:DP X κ lo fl)(hh:DP X κ hi fh):DO X κ (.Subscript a (.Slice lo hi none p2) pos) (BL fa fl fh):=by
 obtain⟨ta,h1,h2⟩:=ha
 obtain⟨tl,h3,h4⟩:=hl
 obtain⟨th,h5,h6⟩:=hh
 refine⟨_,xZ BF h1 h3 h5,λ{G A bo own ρ σ H p Q} r e q=>?_⟩
 obtain⟨p1,e1,e2⟩:=Option.bind_eq_some_iff.mp e
 obtain⟨o1,e3,e4⟩:=Option.bind_eq_some_iff.mp e2
 obtain⟨o2,e5,e6⟩:=Option.bind_eq_some_iff.mp e4
 refine h2 r e1 λx H1 s1 b1=>h4 (r.mono s1) e3 λH2 s2=>h6 ((r.mono s1).mono s2) e5 λH3 s3=>?_
 cases p1<;>first|(cases e6;done)|skip
 cases e6
 have Jx:=(s1.trans s2).trans s3
 obtain⟨a,vs,rfl,q1,q2⟩:=(b1.El (s2.trans s3)).lst aG
 refine⟨a,vs,rfl,q1.sq,λn hn=>q _ _ (Jx.trans (cJ hn)) ?_⟩
 obtain⟨a,ws,l,w1,w2,w3,w4⟩:=(r.mono Jx).yl hn (q2.cut o1 o2)
 refine⟨a,ws,l,w1,w2,?_,w4⟩
 cases w1
 exact Jx.free hn
noncomputable def N3:Nat->String
 |0=> "int"
 |1=> "bool"
 |2=> "str"
 |3=> "list"
 |4=> "tuple"
 |_=> "NoneType"
theorem Lv(K:PySem.W.Frag):∀j,j<6->∀k,k<5->PySem.W.kitOne K (.type (N3 j)) (.type (N3 k))=some (j==k||(k==0&&j==1)):=by
 intro j hj k hk
 rcases j with _|_|_|_|_|_|j<;>first|omega|(rcases k with _|_|_|_|_|k<;>first|omega|rfl)
theorem yu(k:Nat)(hk:k<5):gX X (.builtin "isinstance") (λxs H Q=>∃x p,xs=[x,.ty (N3 k)]/\Rep X.K κ H x p/\BK p≠6/\Q (.bl (Aw k p)) H):=by
 intro pins s σ H xs us Q I r h
 obtain⟨x,p,rfl,rp,h6,q⟩:=h
 obtain⟨u,c,rfl,ru,rc⟩:=vals2 r
 cases rc
 have fin:∀tk:Nat,EP X pins σ Q (.bool (Aw k p)) {s with toks:=tk}:=λtk=>⟨.bl _,H,I.tok _,rfl,q⟩
 have Jy:=λj hj=>Lv X.K j hj k hk
 cases rp with
 |non=>cases ru;exact PySem.W.kia_one PySem.W.kitx_none I.jC True.intro (Jy 5 (by decide)) (λz=>nomatch z) fin
 |bl b=>cases ru;exact PySem.W.kia_one PySem.W.kitx_bool I.jC True.intro (Jy 1 (by decide)) (λz=>nomatch z) fin
 |int i=>obtain⟨t,rfl⟩:=ru;exact PySem.W.kia_one PySem.W.kitx_int I.jC True.intro (Jy 0 (by decide)) (λz=>nomatch z) fin
 |str i=>obtain⟨t,rfl⟩:=ru;exact PySem.W.kia_one PySem.W.kitx_str I.jC True.intro (Jy 2 (by decide)) (λz=>nomatch z) fin
 |lst h1 _=>
  cases ru
  obtain⟨_,_,pl,_⟩:=I.list h1.sq
  obtain⟨o,ho,hc,_⟩:=pl.isList
  exact PySem.W.kia_one PySem.W.kitx_list I.jC ⟨o,ho,hc⟩ (Jy 3 (by decide)) (λz=>nomatch z) fin
 |tup h1 _=>
  cases ru
  obtain⟨_,_,pl,_⟩:=I.tuple h1
  obtain⟨o,ho,hc,_⟩:=pl
  exact PySem.W.kia_one PySem.W.kitx_tuple I.jC ⟨o,ho,hc⟩ (Jy 4 (by decide)) (λz=>nomatch z) fin
 |ins _ _ _=>exact absurd rfl h6
theorem jB{x:Str}{p2:Pos}(k:Nat)(hk:k<5)(hv:bootBuiltins x=some (.type (N3 k)))(ha:DB X κ a fa)(hm:X.mg "isinstance" =none)(yv:X.mg x=none)(hg:Gl X "isinstance")(CV:Gl X x)(hn:x≠ "__name__")(hd:(x==("__debug__" :Str))=false)
  (hs:starEach [a,.Name x p2] X.env=(false,eval a X.env)::starEach [.Name x p2] X.env)(oZ:starEach [.Name x p2] X.env=(false,eval (.Name x p2) X.env)::starEach [] X.env)(hpl:(backTo pos (starEach [.Name x p2] X.env)).any (·.1)=false):DE X κ (.Call (.Name "isinstance" p) [a,.Name x p2] [] pos) (bf (lQ k) fa):=by
 obtain⟨ta,h1,h2⟩:=ha
 refine⟨_,ku (yu (κ:=κ) k hk) hg hm PyProof.Rows.boot_isinstance (aU h1 (aU (GY CV yv hv (v:=.ty (N3 k)) rfl hn hd) cu oZ) hs) (he:=hs) (hpl:=hpl),λ{G A bo own ρ σ H p Q} r e q=>?_⟩
 obtain⟨p1,e1,e2⟩:=Option.bind_eq_some_iff.mp e
 refine h2 r e1 λx H1 s1 b1=>?_
 unfold lQ at e2
 split at e2
 ·cases e2
 ·cases e2
  exact⟨_,p1,rfl,b1.full aG,by assumption,q _ H1 s1 (.bl _)⟩
end
noncomputable def Wq:Kl:=⟨λ_=>0,λ_=>[]⟩
theorem CW{P:Program}{w:World}{K:PySem.W.Frag}{mg mb:Str->Option Value}{CX:GO}{k:Nat}{fa a:Addr}{fd:FuncData}{x:Str}{sp:Sp}{s₁:Shared}{vs:List Value}{ns:List Int}
  (KX:K.In s₁.heap)(MS:s₁.heap.Ns mainGlobals mg)(hb:s₁.heap.Ns builtinsNs mb)(Vh:∀x:Str,x≠ "__name__" ->mb x=bootBuiltins x)(SV:s₁.heap.NoLimit)(hg:s₁.gens=#[])
  (ha:s₁.heap.get? a=some {cls:=.type "list",data:=.seq vs.toArray})(hi:IntsAre vs ns)(hl:ns.length<=sizeLine)(hr:cT k callerA)
  (F:∀base:Heap,K.In base->base.Ns mainGlobals mg->aL P w K mg base CX k fa fd [x] sp)(N4:∀(s:Shared) (u:Value),BindsTo s fd ⟨[u],[]⟩ [(x,u)])
  (MQ:∀H:Hp,NN H->SL K H a (ns.map V.int)->sp [.ref a] H (λv _=>v=.bl true) λ_ _ _=>False)
  (Vi:∀H e s',CX [] H s₁ (λ_ _ _=>False) e s'->False):
  codeAny (model P w) callerA (.call (.ref fa) ⟨[.ref a],[]⟩) (λr s'=>r=.ok (.ret (.bool true))/\OldK s₁.heap s'.heap/\s'.os=s₁.os/\AllBare s'.gens) s₁:=by
 have rv:=u5 hi
 have SW:=hi.length
 have core:∀H:Hp,NN H->SL K H a (ns.map V.int)->qz P w H s₁.heap->(∀b,H b≠none->b=a)->(H a≠none->K.lookup a=none)->
   codeAny (model P w) callerA (.call (.ref fa) ⟨[.ref a],[]⟩) (λr s'=>r=.ok (.ret (.bool true))/\OldK s₁.heap s'.heap/\s'.os=s₁.os/\AllBare s'.gens) s₁:=by
  intro H hO hS eT hA hK
  have BV:∀{b:Addr} {o:Obj},s₁.heap.get? b=some o->H b=none->(vE s₁.heap H).get? b=some o:=λe n=>DL e n
  have Ny:∀{b:Addr} {o:Obj} {es:Array DictEntry} {ep:Nat},s₁.heap.get? b=some o->o.data=.dict es ep->H b=none:=λ{b o es ep} e d=>by
   cases q:H b with
   |none=>rfl
   |some u=>
    have e':b=a:=hA b (by rw[q];simp)
    subst e'
    rw[ha]at e;cases e
    have d':Data.seq vs.toArray _=Data.dict es ep:=d
    cases d'
  have Rk:∀{b:Addr} {m:Str->Option Value},s₁.heap.Ns b m->(vE s₁.heap H).Ns b m:=λ{b m} ⟨o,es,ep,e,d,r⟩=>⟨o,es,ep,BV e (Ny e d),d,r⟩
  have Ue:K.In (vE s₁.heap H):=λb o e=>BV (KX b o e) (by
   cases q:H b with
   |none=>rfl
   |some u=>
    have e':b=a:=hA b (by rw[q];simp)
    subst e'
    rw[hK (by rw[q];simp)]at e;cases e)
  have hM:Mod K mg (vE s₁.heap H):=⟨Ue,Rk MS,⟨mb,Rk hb,Vh⟩,let⟨mc,h1,h2⟩:=SV;⟨mc,Rk h1,h2⟩⟩
  have e0:Ap P w K mg (vE s₁.heap H) callerA [] s₁ H:=⟨rfl,hM,λb o e=>GX e,Nat.le_of_eq (CB _ _),trivial,λb hb=>absurd (show b∈([]:List Addr)from hb) (by simp),eT,.of_eq hg⟩
  refine codeAny_mono ((F _ Ue (Rk MS)).run callerA [] s₁ H ⟨[.ref a],[]⟩ [.ref a] [.ref a] _ _ hr e0 (N4 s₁ (.ref a)) (.cons rfl .nil) (MQ H hO hS)) λr s' h=>?_
  cases r with
  |error e=>exact(Vi H e s' h).elim
  |ok fl=>
   cases fl with
   |next=>exact False.elim h
   |brk=>exact False.elim h
   |cont=>exact False.elim h
   |ret u=>
    obtain⟨v,H',os,bare,un,SX,r',q⟩:=h
    have q':v=.bl true:=q
    subst q'
    obtain rfl:u=Value.bool true:=r'
    refine⟨rfl,OldK.of_keep λb o e=>?_,os,bare⟩
    cases q:H b with
    |none=>exact un.keep b o e q (by intro z;exact absurd (show b∈([]:List Addr)from z) (by simp)) (by simp)
    |some u=>
     rcases hO b with z|⟨ob,xs,z⟩
     ·rw[q]at z;cases z
     ·have z2:=un.qR b ob _ z
      obtain⟨e1,_⟩:=eT b _ z
      obtain⟨e2,_⟩:=SX b _ z2
      rw[e]at e1;cases e1
      exact e2
 cases hk:K.lookup a with
 |some o=>
  have e:=KX a o hk
  rw[ha]at e
  cases e
  refine core (λ_=>none) (λ_=>.inl rfl) (.inr ⟨vs,_,hk,by rw[SW];exact hl,rv⟩) (λb u z=>by have z':(none:Option HO)=some u:=z;cases z') (λb z=>absurd rfl z) λz=>absurd rfl z
 |none=>
  refine core (λb=>if b=a then some (.frz {cls:=.type "list",data:=.seq vs.toArray} (.lst (ns.map V.int)))else none) (λb=>?_) (.inl (.inr ⟨{cls:=.type "list",data:=.seq vs.toArray},if_pos rfl⟩)) (λb u z=>?_) (λb z=>?_) λ_=>hk
  ·by_cases hb:b=a
   ·exact .inr ⟨_,_,if_pos hb⟩
   ·exact .inl (if_neg hb)
  ·by_cases hb:b=a
   ·have z':=(if_pos hb).symm.trans z
    cases z'
    subst hb
    exact⟨ha,by rw[List.length_map];exact hl,vs,_,rv,ha⟩
   ·have z':=(if_neg hb).symm.trans z
    cases z'
  ·by_cases hb:b=a
   ·exact hb
   ·exact absurd (if_neg hb) z
theorem ints_rep{K:PySem.W.Frag}{κ:Kl}{H:Hp}:∀ns:List Int,aS K κ H (ns.map V.int) (ns.map PV.int)
 |[]=>.nil
 |n::ns=>.cons (.int n) (ints_rep ns)
section
variable{X:Cx}{κ:Kl}{fr:Bool}{e a b c:Expr}{f fa fb fc:Den}{p pos:Pos}
theorem EC{x:Str}{n:Int}(h:∃t,X.mg x=some (.int n t))(hg:Gl X x:=by rfl)(hd:(x==("__debug__" :Str))=false:=by decide):DE X κ (.Name x pos) (dC (.int n)):=by
 obtain⟨t,h⟩:=h
 exact⟨_,nP (v:=.int n) hg h ⟨t,rfl⟩ hd,λ{G A bo own ρ σ H p Q} r e q=>by cases e;exact q _ H (aH.refl _) (.int n)⟩
theorem mn{p2:Pos}(ha:DB X κ a fa)(hm:X.mg "isinstance" =none)(yv:X.mg "int" =none)(hg:Gl X "isinstance" :=by rfl)(CV:Gl X "int" :=by rfl)(hs:starEach [a,.Name "int" p2] X.env=(false,eval a X.env)::starEach [.Name "int" p2] X.env:=by rfl)(oZ:starEach [.Name "int" p2] X.env=(false,eval (.Name "int" p2) X.env)::starEach [] X.env:=by rfl)
 (hpl:(backTo pos (starEach [.Name "int" p2] X.env)).any (·.1)=false:=by rfl):DE X κ (.Call (.Name "isinstance" p) [a,.Name "int" p2] [] pos) (bf (lQ 0) fa):=jB 0 (by decide) PyProof.Rows.boot_int ha hm yv hg CV (by decide) (by decide) hs oZ hpl
theorem ia{p2:Pos}(ha:DB X κ a fa)(hm:X.mg "isinstance" =none)(yv:X.mg "bool" =none)(hg:Gl X "isinstance" :=by rfl)(CV:Gl X "bool" :=by rfl)(hs:starEach [a,.Name "bool" p2] X.env=(false,eval a X.env)::starEach [.Name "bool" p2] X.env:=by rfl)(oZ:starEach [.Name "bool" p2] X.env=(false,eval (.Name "bool" p2) X.env)::starEach [] X.env:=by rfl)
 (hpl:(backTo pos (starEach [.Name "bool" p2] X.env)).any (·.1)=false:=by rfl):DE X κ (.Call (.Name "isinstance" p) [a,.Name "bool" p2] [] pos) (bf (lQ 1) fa):=jB 1 (by decide) PyProof.Rows.boot_bool ha hm yv hg CV (by decide) (by decide) hs oZ hpl
theorem i3{p2:Pos}(ha:DB X κ a fa)(hm:X.mg "isinstance" =none)(yv:X.mg "str" =none)(hg:Gl X "isinstance" :=by rfl)(CV:Gl X "str" :=by rfl)(hs:starEach [a,.Name "str" p2] X.env=(false,eval a X.env)::starEach [.Name "str" p2] X.env:=by rfl)(oZ:starEach [.Name "str" p2] X.env=(false,eval (.Name "str" p2) X.env)::starEach [] X.env:=by rfl)
 (hpl:(backTo pos (starEach [.Name "str" p2] X.env)).any (·.1)=false:=by rfl):DE X κ (.Call (.Name "isinstance" p) [a,.Name "str" p2] [] pos) (bf (lQ 2) fa):=jB 2 (by decide) PyProof.Rows.boot_str ha hm yv hg CV (by decide) (by decide) hs oZ hpl
theorem ib{p2:Pos}(ha:DB X κ a fa)(hm:X.mg "isinstance" =none)(yv:X.mg "list" =none)(hg:Gl X "isinstance" :=by rfl)(CV:Gl X "list" :=by rfl)(hs:starEach [a,.Name "list" p2] X.env=(false,eval a X.env)::starEach [.Name "list" p2] X.env:=by rfl)(oZ:starEach [.Name "list" p2] X.env=(false,eval (.Name "list" p2) X.env)::starEach [] X.env:=by rfl)
 (hpl:(backTo pos (starEach [.Name "list" p2] X.env)).any (·.1)=false:=by rfl):DE X κ (.Call (.Name "isinstance" p) [a,.Name "list" p2] [] pos) (bf (lQ 3) fa):=jB 3 (by decide) PyProof.Rows.boot_list ha hm yv hg CV (by decide) (by decide) hs oZ hpl
theorem gd{p2:Pos}(ha:DB X κ a fa)(hm:X.mg "isinstance" =none)(yv:X.mg "tuple" =none)(hg:Gl X "isinstance" :=by rfl)(CV:Gl X "tuple" :=by rfl)(hs:starEach [a,.Name "tuple" p2] X.env=(false,eval a X.env)::starEach [.Name "tuple" p2] X.env:=by rfl)(oZ:starEach [.Name "tuple" p2] X.env=(false,eval (.Name "tuple" p2) X.env)::starEach [] X.env:=by rfl)
 (hpl:(backTo pos (starEach [.Name "tuple" p2] X.env)).any (·.1)=false:=by rfl):DE X κ (.Call (.Name "isinstance" p) [a,.Name "tuple" p2] [] pos) (bf (lQ 4) fa):=jB 4 (by decide) PyProof.Rows.boot_tuple ha hm yv hg CV (by decide) (by decide) hs oZ hpl
end
end L2.D
namespace L2.D
open PySem PySem.Spec PyProof.Rows
open Classical
section
variable{X:Cx}{pins:List (Addr×Obj)}{σ:St}{H:Hp}{s:Shared}{h':Heap}
theorem Jz{ch:List Addr}(hf:∀b∈ch,oY X pins H b):∀b∈ch,(b∈X.ex\/X.s₀.heap.objs.size<=b)/\b≠X.env.locals/\(∀x c,X.env.cells.lookup x=some c->c≠b)/\∀p∈X.pn++pins,p.1≠b:=λb hb=>by
 obtain⟨f0,f1,f2,f3,f4,f5⟩:=hf b hb
 exact⟨f3,f1,f4,f5⟩
theorem _root_.L2.Inv.HD{t':Nat}{ch:List Addr}(I:Inv X pins σ H s)(k:∀b o,b∉ch->s.heap.get? b=some o->h'.get? b=some o)(hf:∀b∈ch,oY X pins H b):Inv X pins σ H {s with heap:=h',toks:=t'}:=by
 have Jf:∀b u,H b=some u->b∉ch:=λb u e z=>by rw[(hf b z).1]at e;cases e
 refine I.step (g':=s.gens) (d':=s.drawn) (ch:=ch) (Jz hf) (λb o _ _ hc e _=>k b o hc e) (λb o _ _ hc e _=>⟨o.slots,k b o hc e⟩) (λ_ _ _ _ n=>n)
  (λb o hc e=>⟨o,k b o hc e⟩) (λ_ _ e=>e) (λ_ _ _ e=>e) (λb ps e=>⟨#[],by rw[e];simp⟩) (λm hm=>?_) (λb u e=>?_) I.bare
 ·obtain⟨o,es,ep,ho,r⟩:=hm
  exact⟨o,es,ep,k _ o (λz=>(hf _ z).2.1 rfl) ho,r⟩
 ·refine(I.eT b u e).xR (λc v hc q=>k c v ?_ q) (λ_ q=>q) λ_ _ q=>q
  rcases hc with z|z
  ·rw[z];exact Jf b u e
  ·exact Jf c _ z
theorem _root_.L2.Inv.CY{t':Nat}{ch:List Addr}{u:HO}(I:Inv X pins σ H s)(k:∀b o,b∉ch->s.heap.get? b=some o->h'.get? b=some o)(hf:∀b∈ch,oY X pins H b)
  (new:eV X.prog X.w (upd H s.heap.objs.size u) h' s.heap.objs.size u):Inv X pins σ (upd H s.heap.objs.size u) {s with heap:=h',toks:=t'}:=by
 have fr:H s.heap.objs.size=none:=I.eT.fresh (Nat.le_refl _)
 have Jf:∀b u,H b=some u->b∉ch:=λb u e z=>by rw[(hf b z).1]at e;cases e
 have sm:aH H (upd H s.heap.objs.size u):=cJ fr
 refine I.step (g':=s.gens) (d':=s.drawn) (ch:=ch) (Jz hf) (λb o _ _ hc e _=>k b o hc e) (λb o _ _ hc e _=>⟨o.slots,k b o hc e⟩) (λb o _ e n=>?_)
  (λb o hc e=>⟨o,k b o hc e⟩) (λ_ _ e=>sm _ _ e) (λ_ _ _ e=>sm _ _ e) (λb ps e=>⟨#[],by rw[sm _ _ e];simp⟩) (λm hm=>?_) (λb v e=>?_) I.bare
 ·rw[aJ (Nat.ne_of_lt (Heap.lt_size e))]
  exact n
 ·obtain⟨o,es,ep,ho,r⟩:=hm
  exact⟨o,es,ep,k _ o (λz=>(hf _ z).2.1 rfl) ho,r⟩
 ·by_cases hb:b=s.heap.objs.size
  ·subst hb
   rw[aQ]at e
   cases e
   exact new
  ·rw[aJ hb]at e
   refine(I.eT b v e).xR (λc v hc q=>k c v ?_ q) (λc q=>sm _ _ q) λc xs q=>sm _ _ q
   rcases hc with z|z
   ·rw[z];exact Jf b _ e
   ·exact Jf c _ z
end
end L2.D
namespace L2.D
open PySem PySem.Spec PyProof.Rows PySem.SeqAt
open Classical
section
variable{X:Cx}{κ:Kl}{fr:Bool}{pos:Pos}
theorem ED(i:Nat){y x:Str}{py px Ec:Pos}{sc:Scope}{elt iter:Expr}{fi:dq}{f:Den}(hN:X.N.Nodup)(hi:Ri X κ (.Name x px) iter fi)(BJ:Scope)(N0 ys:List Str)(he:∀ex C s H,DE (X.qY sc x ys ex C s H) κ elt f)(SD:X.N[i]?=some y:=by rfl)(hy:X.env.scope.names.lookup y=some .local:=by rfl)(Lr:X.env.scope=BJ:=by rfl)(SS:X.N=N0:=by rfl)(Lj:o9 BJ N0 sc x ys=true:=by decide+kernel)(hc:X.calm=true:=by rfl)
  (hs:∀x,foldedSetIterable iter X.env x=pure x:=by intro _;rfl)(SE:swapsWith (.ListComp elt [⟨.Name x px,iter,[],0⟩] sc pos) (some (.Name y py)) Ec.line X.env=pure true:=by rfl):
  DS X κ fr (.Assign [.Name y py] (.ListComp elt [⟨.Name x px,iter,[],0⟩] sc pos) Ec) (nV i (dZ fi dr f)):=by
 obtain⟨wi,h1,h2⟩:=hi
 refine⟨_,Hl hN SD hy h1 ys (tt:=SO X.K κ dr) (te:=Rj X.K κ f) (λex C s H=>?_) (λex C s H=>(he ex C s H).pe) (by rw[Lr,SS];exact Lj) hc hs SE,λ{G A bo own ρ σ H fl D} r e k=>?_⟩
 ·intro pins s σ H Q I ⟨_,_,_,_,_,_,r,e,q⟩
  cases e
  exact x5 pins s σ H Q I (q _ (aH.refl _))
 ·obtain⟨p,e1,e2⟩:=Option.bind_eq_some_iff.mp e
  obtain⟨l,e3,rfl⟩:=Option.map_eq_some_iff.mp e2
  refine yn h2 r e1 λv H' s z=>?_
  cases p<;>first|(cases e3;done)|skip
  cases e3
  obtain⟨cV,r'⟩:=r.Lq s (i:=i) z
  exact k _ _ _ r'
end
end L2.D
namespace L2.D
open PySem
theorem CZ{P:Program}{w:World}{K:PySem.W.Frag}{mg:Str->Option Value}{base:Heap}{κ:Kl}{fr:Bool}{k:Nat}{f:Addr}{fd:FuncData}{ps:List Str}:aL P w K mg base cm k f fd ps (fK K κ fr λ_=>none):=
 have no:∀{vs:List V} {H:Hp} {Q:VK} {E:XK},fK K κ fr (λ_=>none) vs H Q E->False:=λ⟨_,_,_,_,_,h2,_⟩=>by cases h2
 ⟨λ_ _ _ _ h=>(no h).elim,λ_ _ _ _ _ _ _ _ _ _ _ _ _ h=>(no h).elim⟩
end L2.D
namespace L2.D
open PySem PySem.Spec PyProof.Rows PySem.SeqAt
section
variable{X:Cx}{κ:Kl}{fr:Bool}{pos:Pos}{a e:Expr}{fa f:Den}
theorem EE{K:PySem.W.Frag}{H:Hp}:∀{vs:List V} {l:List PV} {ns:List Int},aS K κ H vs l->rh l=some ns->vs=ns.map V.int
 |_,_,_,.nil,h=>by cases h;rfl
 |_,p::_,_,.cons r t,h=>by
  cases p<;>first|(cases h;done)|skip
  obtain⟨cs,h1,rfl⟩:=Option.map_eq_some_iff.mp h
  cases r
  rw[List.map_cons,<-EE t h1]
end
end L2.D
namespace L2
open PySem PySem.Spec PyProof.Rows
noncomputable def N5(i:Expr):Prop:=∀ov iv,subscripted i false ov iv=operate [ov,iv] (getItem ov iv)
theorem HE{prog:Program}{w:World}{A:Around}{E:Value->Shared->Prop}{s:Shared}{env:Env}{value slice:Expr}{pos:Pos}{T id:String}{Q:Value->Shared->Prop}
  (hl:typeLookup (.type T) "__getitem__" =pure (some (.builtin id)))(hs:N5 slice)
  (h:wpAny (model prog w) A (eval value env) (λo s₁=>wpAny (model prog w) A (eval slice env) (λi s₂=>s₂.TypeIs o T/\wpAny (model prog w) A (getItem o i) Q E s₂) E s₁) E s):
  wpAny (model prog w) A (eval (.Subscript value slice pos) env) Q E s:=by
 refine Subscript_ (wpAny_mono h (λo s₁ h₁=>wpAny_mono h₁ (λi s₂ h₂=>?_) λ_ _ x=>x) λ_ _ x=>x)
 obtain⟨hT,h₂⟩:=h₂
 unfold subscriptTail
 refine wpAny_bind ?_
 rw[getitemInPython_of_ne hT.not_modules]
 refine wpAny_bind (wpAny_specialOf hT hl ?_)
 have fin:wpAny (model prog w) A (subscripted slice false o i) (λr s₃=>wpAny (model prog w) A (letTemporaryGo value o r>>=λ_=>pure r) Q E s₃) E s₂:=by
  rw[hs o i]
  exact wpAny_operating (wpAny_mono h₂ (λr s₃ h₃=>wpAny_bind (wpAny_letTemporaryGo (wpAny_pure h₃))) λ_ _ x=>x)
 first
  |exact wpAny_pure (wpAny_bind fin)
  |exact wpAny_bind (wpAny_pure (wpAny_bind fin))
  |exact wpAny_bind fin
end L2
namespace L2.D
open PySem PySem.Spec PyProof.Rows PySem.SeqAt
section
variable{X:Cx}{κ:Kl}{fr:Bool}{pos:Pos}{a b e k:Expr}{fa fb f fk:Den}
theorem Lx{tg:Expr}{gt:tx}(hg:DG X κ tg gt)(he:DE X κ e f)(hs:swapsWithSole [tg] e pos.line X.env=pure false:=by rfl)(hw:swappedStores [tg] e X.env=pure none:=by rfl)
  (Vj:(assignEach [tg] X.env).map (·.2)=[assign tg X.env]:=by rfl):DS X κ fr (.Assign [tg] e pos) (NQ gt f):=by
 obtain⟨te,h1,h2⟩:=he
 obtain⟨tt,h3,h4⟩:=hg
 refine⟨_,KI h1 h3 hs hw Vj,λ{G A bo own ρ σ H fl D} r e k=>?_⟩
 obtain⟨p,e1,e2⟩:=Option.bind_eq_some_iff.mp e
 obtain⟨ρ',e3,rfl⟩:=Option.map_eq_some_iff.mp e2
 refine h2 r e1 λv H1 s1 z1=>?_
 exact h4 (r.mono s1) z1 e3 λcV σ' r' _=>k _ _ _ r'
noncomputable def Rl(X:Cx)(κ:Kl)(Vk:List Expr)(gs:List tx):Prop:=∃tt,Nd X Vk tt/\∀{G A bo own ρ σ H ps vs ρ' Q},R X.K κ G A bo own ρ σ H->aS X.K κ (cZ A own ρ H) vs ps->BM gs ps ρ=some ρ'->(∀cV σ',R X.K κ G A bo cV ρ' σ' H->aH (cZ A own ρ H) (cZ A cV ρ' H)->Q σ' H)->tt vs σ H Q
theorem HF:Rl X κ [] []:=⟨_,By,λ{G A bo own ρ σ H ps vs ρ' Q} r z e q=>by
 cases z with
 |nil=>cases e;exact⟨rfl,q _ _ r λ_ _ h=>h⟩
 |cons _ _=>cases e⟩
theorem n5{es:List Expr}{gt:tx}{gs:List tx}(ha:DG X κ a gt)(hb:Rl X κ es gs)(hs:(assignEach (a::es) X.env).map (·.2)=assign a X.env::(assignEach es X.env).map (·.2):=by rfl):Rl X κ (a::es) (gt::gs):=by
 obtain⟨ta,h1,h2⟩:=ha
 obtain⟨tb,h3,h4⟩:=hb
 refine⟨_,qT h1 h3 hs,λ{G A bo own ρ σ H ps vs ρ' Q} r z e q=>?_⟩
 cases z with
 |nil=>cases e
 |cons r1 rs=>
  obtain⟨ρ1,e1,e2⟩:=Option.bind_eq_some_iff.mp e
  refine⟨_,_,rfl,h2 r r1 e1 λcV σ' r' s'=>?_⟩
  exact h4 r' (rs.mono s') e2 λrl σ2 r2 s2=>q rl σ2 r2 (s'.trans s2)
theorem vc:∀{gs:List tx} {ps:List PV} {ρ ρ':di},BM gs ps ρ=some ρ'->ps.length=gs.length
 |[],[],_,_,_=>rfl
 |[],_::_,_,_,e=>by cases e
 |_::_,[],_,_,e=>by cases e
 |t::ts,p::ps,ρ,ρ',e=>by
  obtain⟨ρ1,e1,e2⟩:=Option.bind_eq_some_iff.mp e
  rw[List.length_cons,List.length_cons,vc e2]
theorem Ly{es:List Expr}{gs:List tx}{k:Nat}(h:Rl X κ es gs)(hc:X.calm=true:=by rfl)(hn:(assignEach es X.env).length=gs.length:=by rfl)(oV:(assignEach es X.env).findIdx? (·.1)=none:=by rfl):DG X κ (.Tuple es k pos) (Ei gs):=by
 obtain⟨tt,h1,h2⟩:=h
 refine⟨_,DU hc h1 hn oV,λ{G A bo own ρ σ H p v ρ' Q} r z e q=>?_⟩
 unfold Ei at e
 split at e
 ·rename_i l
  cases z with
  |tup q1 q2=>
   refine⟨_,_,rfl,va (aG (A:=cK A own ρ)) q1,?_,h2 r q2 e q⟩
   rw[q2.length,vc e]
 ·cases e
end
section
variable{X:Cx}{κ:Kl}{pos p2:Pos}{a b e:Expr}{fa fb:Den}
theorem HG:NC X "str.find" (λx xs H Q=>∃i j,x=.str i/\xs=[.str j]/\Q (.int (Txt.find i j)) H):=by
 intro pins s σ H x xs v us Q I rx r h
 obtain⟨i,j,rfl,rfl,q⟩:=h
 obtain⟨t,rfl⟩:=rx
 obtain⟨u,rfl,t',rfl⟩:=vals1 r
 exact SC.find ⟨.int _,H,I.tok _,⟨_,rfl⟩,q⟩
theorem HH{apos:Pos}(ha:DB X κ a fa)(hb:DB X κ b fb)(jx:attributeBase a "find" X.env (eval a X.env)=eval a X.env:=by rfl)
  (vO:((backTo pos (starEach [b] X.env)).all (λx=>!x.1)&&(backToKw pos (keywordEach [] X.env)).all (λx=>x.1.isSome)
    &&decide ([b].length+([]:List Keyword).length+(if([]:List Keyword).isEmpty then 0 else 1)<30))=true:=by rfl)
  (jy:(apos.endLine==pos.line)=true:=by rfl)(hs:starEach [b] X.env=(false,eval b X.env)::starEach [] X.env:=by rfl):DE X κ (.Call (.Attribute a "find" apos) [b] [] pos) (ag Jt fa fb):=by
 obtain⟨ta,h1,h2⟩:=ha
 obtain⟨tb,h3,h4⟩:=hb
 refine⟨_,BG PySem.F.plainAttrs_str PySem.F.slot_str_find PySem.F.type_str_find HG h1 (aU h3 cu hs) jx vO jy hs,λ{G A bo own ρ σ H p Q} r e q=>?_⟩
 obtain⟨p1,e1,e2⟩:=Option.bind_eq_some_iff.mp e
 obtain⟨p2,e3,e4⟩:=Option.bind_eq_some_iff.mp e2
 (cases p1<;>first|(cases e4;done)|skip)<;>cases p2<;>first|(cases e4;done)|skip
 cases e4
 refine h2 r e1 λx H1 s1 b1=>?_
 rw[b1.str]
 refine⟨rfl,h4 (r.mono s1) e3 λy H2 s2 b2=>?_⟩
 rw[b2.str]
 exact⟨_,_,rfl,rfl,q _ H2 (s1.trans s2) (.int _)⟩
theorem vd:∀{ts:List Str} {us:List Value},Vals (ts.map V.str) us->∃l:List (Str×Tok),us=strValues l/\l.map (·.1)=ts
 |[],_,.nil=>⟨[],rfl,rfl⟩
 |x::ts,_,.cons ⟨t,ht⟩ r=>by
  obtain⟨l,h1,h2⟩:=vd r
  subst ht
  exact⟨(x,t)::l,by rw[h1];rfl,by rw[List.map_cons,h2]⟩
theorem EF{K:PySem.W.Frag}{H:Hp}:∀{vs:List V} {l:List PV} {ts:List Str},aS K κ H vs l->u9 l=some ts->vs=ts.map V.str
 |_,_,_,.nil,h=>by cases h;rfl
 |_,p::_,_,.cons r t,h=>by
  cases p<;>first|(cases h;done)|skip
  obtain⟨cs,h1,rfl⟩:=Option.map_eq_some_iff.mp h
  cases r
  rw[List.map_cons,<-EF t h1]
theorem HI:NC X "str.join" (λx xs H Q=>∃(i:Str) (p:Addr) (ts:List Str),x=.str i/\xs=[.ref p]/\mP X.K H p (ts.map V.str)/\JoinOk i ts=true/\Q (.str (Txt.join i ts)) H):=by
 intro pins s σ H x xs v us Q I rx r h
 obtain⟨i,p,ts,rfl,rfl,hq,ok,q⟩:=h
 obtain⟨t,rfl⟩:=rx
 obtain⟨u,rfl,ru⟩:=vals1 r
 cases ru
 obtain⟨its,rv,pl,hz⟩:=I.list hq
 obtain⟨l,rfl,hl⟩:=vd rv
 exact SC.join pl.isList hl ok λt' k=>⟨.str _,H,I.tok _,⟨_,rfl⟩,q⟩
theorem BW{apos:Pos}(ha:DB X κ a fa)(hb:DB X κ b fb)(jx:attributeBase a "join" X.env (eval a X.env)=eval a X.env:=by rfl)
  (vO:((backTo pos (starEach [b] X.env)).all (λx=>!x.1)&&(backToKw pos (keywordEach [] X.env)).all (λx=>x.1.isSome)
    &&decide ([b].length+([]:List Keyword).length+(if([]:List Keyword).isEmpty then 0 else 1)<30))=true:=by rfl)
  (jy:(apos.endLine==pos.line)=true:=by rfl)(hs:starEach [b] X.env=(false,eval b X.env)::starEach [] X.env:=by rfl):DE X κ (.Call (.Attribute a "join" apos) [b] [] pos) (ag yh fa fb):=by
 obtain⟨ta,h1,h2⟩:=ha
 obtain⟨tb,h3,h4⟩:=hb
 refine⟨_,BG PySem.F.plainAttrs_str PySem.F.slot_str_join PySem.F.type_str_join HI h1 (aU h3 cu hs) jx vO jy hs,λ{G A bo own ρ σ H p Q} r e q=>?_⟩
 obtain⟨p1,e1,e2⟩:=Option.bind_eq_some_iff.mp e
 obtain⟨p2,e3,e4⟩:=Option.bind_eq_some_iff.mp e2
 (cases p1<;>first|(cases e4;done)|skip)<;>cases p2<;>first|(cases e4;done)|skip
 obtain⟨ts,e5,e6⟩:=Option.bind_eq_some_iff.mp e4
 obtain⟨ok,rfl⟩:=bD e6
 refine h2 r e1 λx H1 s1 b1=>?_
 rw[b1.str]
 refine⟨rfl,h4 (r.mono s1) e3 λy H2 s2 b2=>?_⟩
 obtain⟨a,vs,rfl,q1,q2⟩:=b2.lst aG
 rw[EF q2 e5]at q1
 exact⟨_,a,ts,rfl,rfl,q1.sq,ok,q _ H2 (s1.trans s2) (.str _)⟩
theorem BX{p:Pos}(ha:DB X κ a fa)(hm:X.mg "str" =none)(hg:Gl X "str" :=by rfl)(hs:starEach [a] X.env=(false,eval a X.env)::starEach [] X.env:=by rfl):DE X κ (.Call (.Name "str" p) [a] [] pos) (bf CS fa):=by
 obtain⟨ta,h1,h2⟩:=ha
 refine⟨_,jw vF hg hm (by decide+kernel) (aU h1 cu hs) (he:=hs),λ{G A bo own ρ σ H p Q} r e q=>?_⟩
 obtain⟨p1,e1,e2⟩:=Option.bind_eq_some_iff.mp e
 refine h2 r e1 λx H1 s1 b1=>?_
 cases p1<;>first|(cases e2;done)|skip
 obtain⟨ok,rfl⟩:=bD e2
 rw[decide_eq_true_eq]at ok
 refine⟨_,by rw[b1.int],?_,q _ H1 s1 (.str _)⟩
 rename_i i
 have:i.natAbs.log2<20:=by
  by_cases h0:i.natAbs=0
  ·rw[h0];decide
  ·exact(Nat.log2_lt h0).mpr (by omega)
 omega
theorem yw{v:Value}{o:Option Int}(h:IsPart v o):∃l:Option (Int×Tok),v=partValue l/\l.map (·.1)=o:=by
 cases h with
 |none=>exact⟨none,rfl,rfl⟩
 |int i t=>exact⟨some (i,t),rfl,rfl⟩
theorem n6{α β:Type}(f:α->Option β):∀l:List α,(l.filterMap f).length<=l.length
 |[]=>Nat.le_refl _
 |x::l=>by
  have:=n6 f l
  rw[List.filterMap_cons]
  split
  ·rw[List.length_cons];omega
  ·rw[List.length_cons,List.length_cons];omega
end
section
variable{K:PySem.W.Frag}{κ:Kl}{H:Hp}
theorem BY{f:Str}{p:PV}:∀{ns:List Str} {vs:List V} {l:List PV},aS K κ H vs l->(ns.zip l).lookup f=some p->f∈ns/\∃v,(ns.zip vs).lookup f=some v/\Rep K κ H v p
 |[],_,_,_,h=>by cases h
 |n::ns,_,_,.nil,h=>by cases h
 |n::ns,_,_,.cons (v:=v) (p:=q) r t,h=>by
  rw[List.zip_cons_cons,List.lookup_cons]at h
  rw[List.zip_cons_cons,List.lookup_cons]
  by_cases e:f==n
  ·rw[e]at h⊢
   cases h
   exact⟨by rw[eq_of_beq e];exact List.mem_cons_self ..,v,rfl,r⟩
  ·have e':(f==n)=false:=by simpa using e
   rw[e']at h⊢
   obtain⟨h1,h2⟩:=BY t h
   exact⟨List.mem_cons_of_mem _ h1,h2⟩
end
theorem BR.rep{K:PySem.W.Frag}{κ:Kl}{hH H:Hp}{v:V}{c:Nat}{l:List PV}(h:BR K κ hH H v (.ins c l)):Rep K κ hH v (.ins c l):=by
 rcases h with h|⟨a,vs,l',h1,h2,h3,h4⟩
 ·exact h
 ·cases h2
noncomputable def EG(K:PySem.W.Frag)(κ:Kl)(f:Str):Prop:=∀c,f∈κ.fld c->tI K (κ.adr c)/\dn K (κ.adr c) f
section
variable{X:Cx}{κ:Kl}{pos apos:Pos}{a b e o:Expr}{es:List Expr}{fa fb fo:Den}{fs:dq}{m:Str}
theorem Lz{f:Str}(ha:DB X κ a fa)(hf:EG X.K κ f)(hb:attributeBase a f X.env (eval a X.env)=eval a X.env:=by rfl):DE X κ (.Attribute a f pos) (bf (gF κ.fld f) fa):=by
 obtain⟨ta,h1,h2⟩:=ha
 refine⟨_,K3 h1 hb,λ{G A bo own ρ σ H p Q} r e q=>?_⟩
 obtain⟨p1,e1,e2⟩:=Option.bind_eq_some_iff.mp e
 refine h2 r e1 λx H1 s1 b1=>?_
 cases p1<;>first|(cases e2;done)|skip
 rename_i c l
 cases b1.rep with
 |ins h3 h4 h5=>
  obtain⟨h6,v,h7,h8⟩:=BY h5 e2
  obtain⟨k1,k2⟩:=hf c h6
  exact⟨_,_,_,_,v,rfl,aG _ _ h3,k1,k2,h7,q v H1 s1 h8⟩
noncomputable def AD(X:Cx)(m:Str)(ta:TE)(t:TA):TE:=λσ H Q=>ta σ H λx H1=>∃(a C dx:Addr) (fs:List (Str×V)) (f:Addr) (fd:FuncData) (ps:List Str) (sp:Sp) (k:Nat),x=.ref a/\H1 a=some (.ins C dx fs)/\tI X.K C/\Meth X.K C m f/\fs.lookup m=none/\
 aL X.prog X.w X.K X.mg X.base cm k f fd ps sp/\cT k X.A/\Binds X.K fd ps []/\t σ H1 λvs H2=>sp (x::vs) H2 Q E0
theorem C0{pl:Sem Bool}{ta:TE}(he:PE X o ta)
  (ht:eval (.Call (.Attribute o m apos) [] [] pos) X.env=(do
    let ov<-eval o X.env
    standAt apos.atName
    let(f,first)<-holding [ov] (getMethod ov m pl)
    callWith pos f first (backTo pos (starEach [] X.env)) (backToKw pos (keywordEach [] X.env))):=by rfl):PE X (.Call (.Attribute o m apos) [] [] pos) (AD X m ta vG):=by
 intro pins s σ H Q I h
 refine PySem.W.methodCall_KW (pl:=pl) (eh (he pins s σ H _ I h) λu s1 d7=>?_) ht
 obtain⟨x,H1,I1,rx,a,C,dx,fs,f,fd,ps,sp,k,ex,ea,c,hm,l,F,hr,hb,q⟩:=d7
 subst ex
 obtain rfl:u=Value.ref a:=rx
 refine jG I1 ea c hm l ?_
 exact PySem.W.callWith_K0 (first:=[.ref a]) I1.jC hm.kp (o8 (us:=[.ref a]) (vs:=[.ref a]) (ds:=[]) (dvs:=[]) F hr hb .nil g0 I1 (.cons rfl .nil) q)
theorem EH{pl:Sem Bool}{ta:TE}{t:TA}(he:PE X o ta)(ha:PA X (e::es) t)
  (oV:starEach (e::es) X.env=(false,eval e X.env)::starEach es X.env:=by rfl)(hpl:(backTo pos (starEach es X.env)).any (·.1)=false:=by rfl)
  (ht:eval (.Call (.Attribute o m apos) (e::es) [] pos) X.env=(do
    let ov<-eval o X.env
    standAt apos.atName
    let(f,first)<-holding [ov] (getMethod ov m pl)
    callWith pos f first (backTo pos (starEach (e::es) X.env)) (backToKw pos (keywordEach [] X.env))):=by rfl):PE X (.Call (.Attribute o m apos) (e::es) [] pos) (AD X m ta t):=by
 intro pins s σ H Q I h
 refine PySem.W.methodCall_KW (pl:=pl) (eh (he pins s σ H _ I h) λu s1 d7=>?_) ht
 obtain⟨x,H1,I1,rx,a,C,dx,fs,f,fd,ps,sp,k,ex,ea,c,hm,l,F,hr,hb,q⟩:=d7
 subst ex
 obtain rfl:u=Value.ref a:=rx
 refine jG I1 ea c hm l ?_
 refine PySem.W.callWith_K (first:=[.ref a]) (h₀:=X.base) I.ok.mod.kin hm.kp (eh (ha pos pins s1 σ H1 _ I1 q) λus s2 ⟨vs,H2,I2,r,q2⟩=>⟨I2.jC,?_⟩) oV hpl
 refine o8 (us:=.ref a::us) (vs:=.ref a::vs) (ds:=[]) (dvs:=[]) F hr hb .nil g0 I2 (.cons rfl r) ?_
 rw[List.append_nil]
 exact q2
noncomputable def cL(P:Program)(w:World)(K:PySem.W.Frag)(mg:Str->Option Value)(base:Heap)(κ:Kl)(fr:Bool)(m:Str)(k:Nat)(ps:List Str)(Fs:Nat->List PV->Option PV):Prop:=
 ∀c xs p,Fs c xs=some p->∃(f:Addr) (fd:FuncData),tI K (κ.adr c)/\Meth K (κ.adr c) m f/\m∉κ.fld c/\aL P w K mg base cm k f fd ps (fK K κ fr (Fs c))/\Binds K fd ps []
theorem rn{α:Type}{f:Str}:∀{ns:List Str} {vs:List α},f∉ns->(ns.zip vs).lookup f=none
 |[],_,_=>rfl
 |n::ns,[],_=>rfl
 |n::ns,v::vs,h=>by
  rw[List.zip_cons_cons,List.lookup_cons]
  have e:(f==n)=false:=by
   rw[beq_eq_false_iff_ne]
   exact λz=>h (z▸List.mem_cons_self ..)
  rw[e]
  exact rn λz=>h (List.mem_cons_of_mem _ z)
theorem yx{fr:Bool}{k:Nat}{ps:List Str}{Fs:Nat->List PV->Option PV}{ta:TE}{t:TA}(M:cL X.prog X.w X.K X.mg X.base κ fr m k ps Fs)(hr:cT k X.A)(h2:NU X.K κ ta fo)
  (h4:∀{G A bo own ρ σ H ps Q},R X.K κ G A bo own ρ σ H->fs ρ=some ps->(∀vs H',aH H H'->aS X.K κ (cZ A own ρ H') vs ps->Q vs H')->t σ H Q)
  {G A bo own ρ σ H p}{Q:VK}(r:R X.K κ G A bo own ρ σ H)(e:eX Fs fo fs ρ=some p)(q:∀v H',aH H H'->RR fr X.K κ (cK A own ρ) H H' v p->Q v H'):AD X m ta t σ H Q:=by
 obtain⟨p1,e1,e2⟩:=Option.bind_eq_some_iff.mp e
 refine h2 r e1 λx H1 s1 z1=>?_
 cases p1<;>first|(cases e2;done)|skip
 rename_i c l
 obtain⟨xs,e3,e4⟩:=Option.bind_eq_some_iff.mp e2
 obtain⟨f,fd,k1,k2,k3,k4,k5⟩:=M c _ _ e4
 cases z1 with
 |ins h3 h5 h6=>
  refine⟨_,_,_,_,f,fd,ps,_,k,rfl,aG _ _ h3,k1,k2,rn k3,k4,hr,k5,h4 (r.mono s1) e3 λvs H2 s2 z2=>?_⟩
  refine⟨cK A own ρ,_,p,λb hb=>((r.mono s1).mono s2).GU hb,.cons ((Rep.ins h3 h5 h6).mono (bC s2)) z2,e4,λv H' s z=>q v H' ((s1.trans s2).trans s) ?_⟩
  unfold RR at z⊢
  split
  ·rename_i hh
   rw[if_pos hh]at z
   exact SK z (s1.trans s2) λb w=>w
  ·rename_i hh
   rw[if_neg hh]at z
   exact z
theorem eY{k:Nat}{ps:List Str}{Fs:Nat->List PV->Option PV}{pl:Sem Bool}(M:cL X.prog X.w X.K X.mg X.base κ false m k ps Fs)(hr:cT k X.A)(ho:DE X κ o fo)
  (ht:eval (.Call (.Attribute o m apos) [] [] pos) X.env=(do
    let ov<-eval o X.env
    standAt apos.atName
    let(f,first)<-holding [ov] (getMethod ov m pl)
    callWith pos f first (backTo pos (starEach [] X.env)) (backToKw pos (keywordEach [] X.env))):=by rfl):DE X κ (.Call (.Attribute o m apos) [] [] pos) (eX Fs fo aP):=by
 obtain⟨ta,h1,h2⟩:=ho
 refine⟨_,C0 h1 ht,λ{G A bo own ρ σ H p Q} r e q=>?_⟩
 exact yx M hr h2 (λ{G A bo own ρ σ H ps Q} r e q=>by cases e;exact q [] H (aH.refl _) .nil) r e λv H' s z=>q v H' s z
theorem BZ{k:Nat}{ps:List Str}{Fs:Nat->List PV->Option PV}{pl:Sem Bool}(M:cL X.prog X.w X.K X.mg X.base κ false m k ps Fs)(hr:cT k X.A)(ho:DE X κ o fo)(ha:DA X κ (e::es) fs)
  (oV:starEach (e::es) X.env=(false,eval e X.env)::starEach es X.env:=by rfl)(hpl:(backTo pos (starEach es X.env)).any (·.1)=false:=by rfl)
  (ht:eval (.Call (.Attribute o m apos) (e::es) [] pos) X.env=(do
    let ov<-eval o X.env
    standAt apos.atName
    let(f,first)<-holding [ov] (getMethod ov m pl)
    callWith pos f first (backTo pos (starEach (e::es) X.env)) (backToKw pos (keywordEach [] X.env))):=by rfl):DE X κ (.Call (.Attribute o m apos) (e::es) [] pos) (eX Fs fo fs):=by
 obtain⟨ta,h1,h2⟩:=ho
 obtain⟨t,h3,h4⟩:=ha
 refine⟨_,EH h1 h3 oV hpl ht,λ{G A bo own ρ σ H p Q} r e q=>?_⟩
 exact yx M hr h2 h4 r e λv H' s z=>q v H' s z
end
structure JA(K:PySem.W.Frag)(C:Addr)(m:Str)(f:Addr):Prop where
 rd:∃mc,PySem.W.readsIn K C mc=true/\PySem.W.findCls K (.ref C) mc m=some (.val (.ref f))
 ga:PySem.W.specialIn K (.ref C) "__getattribute__" =some (some (.builtin "type.__getattribute__"))
 hd:PySem.W.handedIn (.ref f)=true
 kp:PySem.W.keepIn K (.ref f)=true
section
variable{X:Cx}{κ:Kl}{pos apos np:Pos}{a b e o:Expr}{es:List Expr}{fa fb fo:Den}{m cn:Str}{C f:Addr}{fd:FuncData}{ps:List Str}{sp:Sp}{k:Nat}{t:TA}
theorem ro{pl:Sem Bool}(c:JA X.K C m f)(F:aL X.prog X.w X.K X.mg X.base cm k f fd ps sp)(hr:cT k X.A)(hg:Gl X cn)(hm:X.mg cn=some (.ref C))(hb:Binds X.K fd ps [])(ha:PA X (e::es) t)(qq:(cn==("__debug__" :Str))=false:=by decide)
  (oV:starEach (e::es) X.env=(false,eval e X.env)::starEach es X.env:=by rfl)(hpl:(backTo pos (starEach es X.env)).any (·.1)=false:=by rfl)
  (ht:eval (.Call (.Attribute (.Name cn np) m apos) (e::es) [] pos) X.env=(do
    let ov<-eval (.Name cn np) X.env
    standAt apos.atName
    let(f,first)<-holding [ov] (getMethod ov m pl)
    callWith pos f first (backTo pos (starEach (e::es) X.env)) (backToKw pos (keywordEach [] X.env))):=by rfl):PE X (.Call (.Attribute (.Name cn np) m apos) (e::es) [] pos) (BD sp [] E0 t):=by
 intro pins s σ H Q I h
 refine PySem.W.methodCall_KW (pl:=pl) (qB I hg hm ?_ qq) ht
 obtain⟨mc,h1,h2⟩:=c.rd
 refine PySem.W.method_cls I.jC c.ga (PySem.W.cls_value I.jC h1 h2 c.hd ?_)
 have I1:Inv X pins σ H {s with toks:=s.toks+1}:=I.tok _
 refine PySem.W.callWith_K (first:=[]) (h₀:=X.base) I.ok.mod.kin c.kp (eh (ha pos pins _ σ H _ I1 h) λus s2 ⟨vs,H2,I2,r,q2⟩=>⟨I2.jC,?_⟩) oV hpl
 exact o8 (ds:=[]) (dvs:=[]) F hr hb .nil g0 I2 r q2
end
noncomputable def mV(C:Addr):Sp:=λvs H Q _=>∃x dx v,vs=[.ref x,v]/\H x=some (.ins C dx [])/\Q .non (upd H x (.ins C dx [("name",v)]))
noncomputable def mq(K:PySem.W.Frag)(C:Addr):Sp:=λvs H Q _=>∃x dx v p ys,vs=[.ref x,v,.ref p]/\H x=some (.ins C dx [])/\SL K H p ys/\∀t,H t=none->Q .non (upd (upd (upd H x (.ins C dx [("wanted",v)])) t (.tup ys)) x (.ins C dx [("wanted",v),("parts",.ref t)]))
noncomputable def kC(K:PySem.W.Frag)(C:Addr)(g:List V->Int):Sp:=λvs H Q _=>∃x dx p ys,vs=[.ref x,.ref p]/\H x=some (.ins C dx [])/\SL K H p ys/\∀t,H t=none->Q .non (upd (upd (upd H x (.ins C dx [("wanted",.int (g ys))])) t (.tup ys)) x (.ins C dx [("wanted",.int (g ys)),("parts",.ref t)]))
theorem LA{K:PySem.W.Frag}{H:Hp}{x p C dx:Addr}{fs GL:List (Str×V)}{ys:List V}(h:H x=some (.ins C dx fs))(q:SL K H p ys):SL K (upd H x (.ins C dx GL)) p ys:=by
 rcases q with(q|⟨ob,q⟩)|q
 ·refine .inl (.inl ?_)
  rw[aJ]
  ·exact q
  ·rintro rfl
   rw[h]at q
   cases q
 ·refine .inl (.inr ⟨ob,?_⟩)
  rw[aJ]
  ·exact q
  ·rintro rfl
   rw[h]at q
   cases q
 ·exact .inr q
section
variable{K:PySem.W.Frag}{C:Addr}{κ:Kl}
noncomputable abbrev SY(K:PySem.W.Frag):List V->Hp->VK->Prop:=λxs H Q=>∃p ys,xs=[.ref p]/\((mP K H p ys/\∀l,H l=none->Q (.ref l) (upd H l (.tup ys)))\/(mQ K H p ys/\Q (.ref p) H))
noncomputable abbrev S0(K:PySem.W.Frag):List V->Hp->VK->Prop:=λxs H Q=>∃p ys,xs=[.ref p]/\(mP K H p ys\/mQ K H p ys)/\Q (.int ys.length) H
noncomputable abbrev DQ(Q:VK):Ends:={nx:=λ_ H'=>Q .non H',rt:=Q}
theorem HJ(cl:tI K C)(na:dn K C "name"){vs:List V}{H:Hp}{Q:VK}{E:XK}(h:mV C vs H Q E):G8 K (l6 0) (l6 1) "name" (DQ Q) (start ["self","name"] vs) H:=by
 obtain⟨x,dx,v,rfl,hx,q⟩:=h
 exact⟨v,rfl,_,rfl,x,C,dx,[],rfl,hx,cl,na,by decide,q⟩
theorem LB(cl:tI K C)(na:dn K C "wanted")(nb:dn K C "parts"){vs:List V}{H:Hp}{Q:VK}{E:XK}(h:mq K C vs H Q E):
  KC (G8 K (l6 0) (l6 1) "wanted") (G8 K (l6 0) (Q8 (SY K) (kr (l6 2) vG)) "parts") (DQ Q) (start ["self","wanted","parts"] vs) H:=by
 obtain⟨x,dx,v,p,ys,rfl,hx,hp,q⟩:=h
 refine⟨v,rfl,_,rfl,x,C,dx,[],rfl,hx,cl,na,by decide,?_⟩
 refine⟨_,rfl,p,ys,rfl,.inl ⟨(LA hx hp).sq,λt ht=>?_⟩⟩
 have tD:x≠t:=by
  rintro rfl
  rw[aQ]at ht
  cases ht
 have Vl:H t=none:=by
  rw[aJ (Ne.symm tD)]at ht
  exact ht
 refine⟨_,rfl,x,C,dx,[("wanted",v)],rfl,?_,cl,nb,(show(1:Nat)<1000 by decide),?_⟩
 ·rw[aJ tD]
  exact aQ
 ·exact q t Vl
theorem EI{ta:TE}{g:List V->Int}(ht:∀{σ:St} {H:Hp} {Q:VK} {p:Addr} {ys:List V},σ[1]?=some (some (.ref p))->SL K H p ys->Q (.int (g ys)) H->ta σ H Q){vs:List V}{H:Hp}{Q:VK}{E:XK}(h:kC K C g vs H Q E):
  xW (BD (mq K C) [] E0 (kr (l6 0) (kr ta (kr (l6 1) vG)))) (DQ Q) (start ["self","parts"] vs) H:=by
 obtain⟨x,dx,p,ys,rfl,hx,hp,q⟩:=h
 refine⟨_,rfl,ht rfl hp ⟨_,rfl,?_⟩⟩
 exact⟨x,dx,.int (g ys),p,ys,rfl,hx,hp,λt ht=>q t ht⟩
theorem LC{vs:List V}{H:Hp}{Q:VK}{E:XK}(h:mq K C vs H Q E):
  xW (BD (mq K C) [] E0 (kr (l6 0) (kr (l6 1) (kr (l6 2) vG)))) (DQ Q) (start ["self","many","parts"] vs) H:=by
 obtain⟨x,dx,v,p,ys,rfl,hx,hp,q⟩:=h
 refine⟨_,rfl,_,rfl,_,rfl,?_⟩
 exact⟨x,dx,v,p,ys,rfl,hx,hp,λt ht=>q t ht⟩
theorem EJ{vs:List V}{H:Hp}{Q:VK}{E:XK}(h:mV C vs H Q E):vs.length=2:=by
 obtain⟨x,dx,v,rfl,_⟩:=h
 rfl
theorem B0{vs:List V}{H:Hp}{Q:VK}{E:XK}(h:mq K C vs H Q E):vs.length=3:=by
 obtain⟨x,dx,v,p,ys,rfl,_⟩:=h
 rfl
theorem B1{g:List V->Int}{vs:List V}{H:Hp}{Q:VK}{E:XK}(h:kC K C g vs H Q E):vs.length=2:=by
 obtain⟨x,dx,p,ys,rfl,_⟩:=h
 rfl
theorem LD{σ:St}{H:Hp}{Q:VK}{p:Addr}{ys:List V}(h:σ[1]?=some (some (.ref p)))(hp:SL K H p ys)(q:Q (.int (ys.length:Nat)) H):Q8 (S0 K) (kr (l6 1) vG) σ H Q:=⟨_,h,p,ys,rfl,.inl hp.sq,q⟩
theorem LF{σ:St}{H:Hp}{Q:VK}{p:Addr}{ys:List V}(h:σ[1]?=some (some (.ref p)))(hp:SL K H p ys)(q:Q (.int 1) H):tC (.int 1) σ H Q:=q
end
section
variable{K:PySem.W.Frag}{κ:Kl}{G H H':Hp}{A:Addr->Prop}{bo:Nat->Option (Addr×List V)}{own:Nat->Addr}{ρ:di}{σ:St}
theorem lV{C x dx:Addr}(hx:H x=none)(hd:H dx=none)(hn:dx≠x):aH H (upd (upd H dx (.own x)) x (.ins C dx [])):=(cJ hd).trans (cJ (by rw[aJ (Ne.symm hn)];exact hx))
theorem rq{C x dx:Addr}{fs GL:List (Str×V)}{H0:Hp}(s:aH H0 H)(hx:H0 x=none):aH H0 (upd H x (.ins C dx GL)):=λb o e=>by
 rw[aJ (bI e hx)]
 exact s b o e
theorem HK{x dx:Addr}{v:V}{p:PV}(r:R K κ G A bo own ρ σ H)(hf:κ.fld 0=[("name" :Str)])(hx:H x=none)(hd:H dx=none)(hn:dx≠x)(z:Rep K κ (cZ A own ρ H) v p):
  aH H (upd (upd (upd H dx (.own x)) x (.ins (κ.adr 0) dx [])) x (.ins (κ.adr 0) dx [("name",v)]))/\Rep K κ (cZ A own ρ (upd (upd (upd H dx (.own x)) x (.ins (κ.adr 0) dx [])) x (.ins (κ.adr 0) dx [("name",v)]))) (.ref x) (.ins 0 [p]):=by
 have s1:aH H (upd (upd (upd H dx (.own x)) x (.ins (κ.adr 0) dx [])) x (.ins (κ.adr 0) dx [("name",v)])):=rq (fs:=[]) (lV (C:=κ.adr 0) hx hd hn) hx
 refine⟨s1,.ins (c:=0) (dx:=dx) (vs:=[v]) ?_ (by rw[hf];rfl) (.cons (z.mono (bC s1)) .nil)⟩
 rw[cZ,bO (r.new hx),aQ,hf]
 rfl
theorem EK{c:Nat}{x dx t:Addr}{v:V}{q:PV}{ys:List V}{l:List PV}(r:R K κ G A bo own ρ σ H)(hf:κ.fld c=[("wanted" :Str),("parts" :Str)])(hx:H x=none)(hd:H dx=none)(hn:dx≠x)(ht:upd (upd H dx (.own x)) x (.ins (κ.adr c) dx []) t=none)
  (zv:Rep K κ (cZ A own ρ H) v q)(z:aS K κ (cZ A own ρ H) ys l):
  aH H (upd (upd (upd (upd (upd H dx (.own x)) x (.ins (κ.adr c) dx [])) x (.ins (κ.adr c) dx [("wanted",v)])) t (.tup ys)) x (.ins (κ.adr c) dx [("wanted",v),("parts",.ref t)]))/\
  Rep K κ (cZ A own ρ (upd (upd (upd (upd (upd H dx (.own x)) x (.ins (κ.adr c) dx [])) x (.ins (κ.adr c) dx [("wanted",v)])) t (.tup ys)) x (.ins (κ.adr c) dx [("wanted",v),("parts",.ref t)]))) (.ref x) (.ins c [q,.tup l]):=by
 have s0:aH H (upd (upd H dx (.own x)) x (.ins (κ.adr c) dx [])):=lV (C:=κ.adr c) hx hd hn
 have tD:x≠t:=by
  rintro rfl
  rw[aQ]at ht
  cases ht
 have Ug:H t=none:=s0.free ht
 have s1:aH H (upd (upd (upd H dx (.own x)) x (.ins (κ.adr c) dx [])) x (.ins (κ.adr c) dx [("wanted",v)])):=rq (fs:=[]) s0 hx
 have s2:aH H (upd (upd (upd (upd H dx (.own x)) x (.ins (κ.adr c) dx [])) x (.ins (κ.adr c) dx [("wanted",v)])) t (.tup ys)):=λb o e=>by
  rw[aJ (bI e Ug)]
  exact s1 b o e
 have s3:aH H (upd (upd (upd (upd (upd H dx (.own x)) x (.ins (κ.adr c) dx [])) x (.ins (κ.adr c) dx [("wanted",v)])) t (.tup ys)) x (.ins (κ.adr c) dx [("wanted",v),("parts",.ref t)])):=rq (fs:=[]) s2 hx
 refine⟨s3,.ins (c:=c) (dx:=dx) (vs:=[v,.ref t]) ?_ (by rw[hf];rfl) (.cons (zv.mono (bC s3)) (.cons (.tup (vs:=ys) (.inl (.inl ?_)) (z.mono (bC s3))) .nil))⟩
 ·rw[cZ,bO (r.new hx),aQ,hf]
  rfl
 ·rw[cZ,bO (r.new Ug),aJ (Ne.symm tD)]
  exact aQ
end
section
variable{X:Cx}{κ:Kl}{pos p:Pos}{a b:Expr}{fa fb:Den}{f:Addr}{fd:FuncData}{ps:List Str}{k:Nat}{x:Str}
theorem ve(M:Mk X.K (κ.adr 0) f)(F:aL X.prog X.w X.K X.mg X.base cm k f fd ps (mV (κ.adr 0)))(hf:κ.fld 0=[("name" :Str)])(hr:cT (k+1) X.A)(hm:X.mg x=some (.ref (κ.adr 0)))(hb:Binds X.K fd ps [])(ha:DB X κ a fa)(hg:Gl X x:=by rfl)(qq:(x==("__debug__" :Str))=false:=by decide)
  (he:starEach [a] X.env=(false,eval a X.env)::starEach [] X.env:=by rfl):DE X κ (.Call (.Name x p) [a] [] pos) (bf BN fa):=by
 obtain⟨ta,h1,h2⟩:=ha
 refine⟨_,nS M F hr hg hm hb .nil g0 (aU h1 cu he) qq he,λ{G A bo own ρ σ H p Q} r e q=>?_⟩
 obtain⟨p1,e1,e2⟩:=Option.bind_eq_some_iff.mp e
 refine h2 r e1 λv H1 s1 b1=>?_
 cases p1<;>first|(cases e2;done)|skip
 cases e2
 intro y dy hy LG hn
 rw[b1.str]
 obtain⟨s3,z3⟩:=HK (r.mono s1) hf hy LG hn (.str _)
 exact⟨y,dy,_,rfl,aQ,rfl,q _ _ (s1.trans s3) z3⟩
theorem B2{c:Nat}{g:List V->Int}{gP:List PV->Int}{ta:TE}(Vm:∀{vs:List V} {l:List PV},vs.length=l.length->g vs=gP l)(hf:κ.fld c=[("wanted" :Str),("parts" :Str)])(h2:NV X.K κ ta fa):NU X.K κ (Jo (κ.adr c) (kC X.K (κ.adr c) g) [] E0 (kr ta vG)) (bf (λp=>match p with|.lst l=>some (.ins c [.int (gP l),.tup l])|_=>none) fa):=λ{G A bo own ρ σ H p Q} r e q=>by
 obtain⟨p1,e1,e2⟩:=Option.bind_eq_some_iff.mp e
 refine h2 r e1 λv H1 s1 b1=>?_
 cases p1<;>first|(cases e2;done)|skip
 rename_i l
 cases e2
 obtain⟨a,ys,rfl,q1,q2⟩:=b1.lst aG
 intro y dy hy LG hn
 have s0:aH H1 (upd (upd H1 dy (.own y)) y (.ins (κ.adr c) dy [])):=lV (C:=κ.adr c) hy LG hn
 refine⟨y,dy,a,ys,rfl,aQ,s0.sl q1,λt ht=>⟨rfl,?_⟩⟩
 rw[Vm q2.length]
 obtain⟨s3,z3⟩:=EK (r.mono s1) hf hy LG hn ht (.int (gP l)) q2
 exact q _ _ (s1.trans s3) z3
theorem yy(M:Mk X.K (κ.adr 1) f)(F:aL X.prog X.w X.K X.mg X.base cm k f fd ps (kC X.K (κ.adr 1) λys=>(ys.length:Nat)))(hf:κ.fld 1=[("wanted" :Str),("parts" :Str)])(hr:cT (k+1) X.A)(hm:X.mg x=some (.ref (κ.adr 1)))(hb:Binds X.K fd ps [])(ha:DB X κ a fa)(hg:Gl X x:=by rfl)(qq:(x==("__debug__" :Str))=false:=by decide)
  (he:starEach [a] X.env=(false,eval a X.env)::starEach [] X.env:=by rfl):DE X κ (.Call (.Name x p) [a] [] pos) (bf yi fa):=by
 obtain⟨ta,h1,h2⟩:=ha
 exact⟨_,nS M F hr hg hm hb .nil g0 (aU h1 cu he) qq he,λ{G A bo own ρ σ H p Q} r e q=>B2 (c:=1) (g:=λys=>(ys.length:Nat)) (gP:=λl=>(l.length:Nat)) (λh=>by rw[h]) hf h2 r (by
  obtain⟨p1,e1,e2⟩:=Option.bind_eq_some_iff.mp e
  refine Option.bind_eq_some_iff.mpr ⟨p1,e1,?_⟩
  cases p1<;>first|(cases e2;done)|exact e2) q⟩
theorem yz(M:Mk X.K (κ.adr 2) f)(F:aL X.prog X.w X.K X.mg X.base cm k f fd ps (kC X.K (κ.adr 2) λ_=>1))(hf:κ.fld 2=[("wanted" :Str),("parts" :Str)])(hr:cT (k+1) X.A)(hm:X.mg x=some (.ref (κ.adr 2)))(hb:Binds X.K fd ps [])(ha:DB X κ a fa)(hg:Gl X x:=by rfl)(qq:(x==("__debug__" :Str))=false:=by decide)
  (he:starEach [a] X.env=(false,eval a X.env)::starEach [] X.env:=by rfl):DE X κ (.Call (.Name x p) [a] [] pos) (bf yj fa):=by
 obtain⟨ta,h1,h2⟩:=ha
 exact⟨_,nS M F hr hg hm hb .nil g0 (aU h1 cu he) qq he,λ{G A bo own ρ σ H p Q} r e q=>B2 (c:=2) (g:=λ_=>1) (gP:=λ_=>1) (λ_=>rfl) hf h2 r (by
  obtain⟨p1,e1,e2⟩:=Option.bind_eq_some_iff.mp e
  refine Option.bind_eq_some_iff.mpr ⟨p1,e1,?_⟩
  cases p1<;>first|(cases e2;done)|exact e2) q⟩
theorem vf(M:Mk X.K (κ.adr 3) f)(F:aL X.prog X.w X.K X.mg X.base cm k f fd ps (mq X.K (κ.adr 3)))(hf:κ.fld 3=[("wanted" :Str),("parts" :Str)])(hr:cT (k+1) X.A)(hm:X.mg x=some (.ref (κ.adr 3)))(hb:Binds X.K fd ps [])(ha:DB X κ a fa)(rA:DB X κ b fb)(hg:Gl X x:=by rfl)(qq:(x==("__debug__" :Str))=false:=by decide)
  (he:starEach [a,b] X.env=(false,eval a X.env)::starEach [b] X.env:=by rfl)(Vn:starEach [b] X.env=(false,eval b X.env)::starEach [] X.env:=by rfl)(hpl:(backTo pos (starEach [b] X.env)).any (·.1)=false:=by rfl):DE X κ (.Call (.Name x p) [a,b] [] pos) (ag ri fa fb):=by
 obtain⟨ta,h1,h2⟩:=ha
 obtain⟨tb,h3,h4⟩:=rA
 refine⟨_,nS M F hr hg hm hb .nil g0 (aU h1 (aU h3 cu Vn) he) qq he hpl,λ{G A bo own ρ σ H p Q} r e q=>?_⟩
 refine tM h2 h4 r e λv u p1 p2 H1 s1 r1 b1 b2 e2=>?_
 (cases p1<;>first|(cases e2;done)|skip)<;>cases p2<;>first|(cases e2;done)|skip
 cases e2
 obtain⟨a,ys,rfl,q1,q2⟩:=b2.lst aG
 intro y dy hy LG hn
 have s0:aH H1 (upd (upd H1 dy (.own y)) y (.ins (κ.adr 3) dy [])):=lV (C:=κ.adr 3) hy LG hn
 rw[b1.int]
 refine⟨y,dy,_,a,ys,rfl,aQ,s0.sl q1,λt ht=>⟨rfl,?_⟩⟩
 obtain⟨s3,z3⟩:=EK r1 hf hy LG hn ht (.int _) q2
 exact q _ _ (s1.trans s3) z3
end
structure LH(K:PySem.W.Frag)(C CR:Addr):Prop where
 cl:tI K C
 ha:PySem.W.findIn K (.ref C) "__class__" =some (some (.builtin "object.__class__"))
 hn:PySem.W.specialIn K (.builtin "object.__class__") "__get__" =some (some (.builtin "getset_descriptor.__get__"))
 Q7:PySem.W.takesIn K (.builtin "object.__class__")=some true
 hm:PySem.W.mroIn K C (.type "object")=some true
 Jy:PySem.W.kitOne K (.ref C) (.ref CR)=some true
section
variable{X:Cx}{κ:Kl}{pos p:Pos}{a b:Expr}{fa fb:Den}
theorem EL{CR:Addr}:gX X (.builtin "isinstance") (λxs H Q=>∃(a C dx:Addr) (fs:List (Str×V)),xs=[.ref a,.ref CR]/\H a=some (.ins C dx fs)/\LH X.K C CR/\Q (.bl true) H):=by
 intro pins s σ H xs us Q I r h
 obtain⟨a,C,dx,fs,rfl,ha,ok,q⟩:=h
 cases r with
 |cons r1 r2=>
  cases r2 with
  |cons r2 r3=>
   cases r3
   cases r1
   cases r2
   exact CK (x:=.ref a) I rfl (.ins ha ok.cl ok.ha ok.hn ok.Q7 ok.hm) ok.Jy λtk=>⟨.bl true,H,I.tok _,rfl,q⟩
theorem LI{cn:Str}{p2:Pos}{CR:Addr}(ok:∀c,c<4->LH X.K (κ.adr c) CR)(ha:DB X κ a fa)(hm:X.mg "isinstance" =none)(yv:X.mg cn=some (.ref CR))(hg:Gl X "isinstance" :=by rfl)(CV:Gl X cn:=by rfl)(hd:(cn==("__debug__" :Str))=false:=by decide)
  (hs:starEach [a,.Name cn p2] X.env=(false,eval a X.env)::starEach [.Name cn p2] X.env:=by rfl)(oZ:starEach [.Name cn p2] X.env=(false,eval (.Name cn p2) X.env)::starEach [] X.env:=by rfl)(hpl:(backTo pos (starEach [.Name cn p2] X.env)).any (·.1)=false:=by rfl):DE X κ (.Call (.Name "isinstance" p) [a,.Name cn p2] [] pos) (bf Lm fa):=by
 obtain⟨ta,h1,h2⟩:=ha
 refine⟨_,ku (EL (CR:=CR)) hg hm PyProof.Rows.boot_isinstance (aU h1 (aU (nP CV yv (v:=.ref CR) rfl hd) cu oZ) hs) (he:=hs) (hpl:=hpl),λ{G A bo own ρ σ H p Q} r e q=>?_⟩
 obtain⟨p1,e1,e2⟩:=Option.bind_eq_some_iff.mp e
 refine h2 r e1 λx H1 s1 b1=>?_
 cases p1<;>first|(cases e2;done)|skip
 obtain⟨hc,rfl⟩:=bD e2
 cases b1.rep with
 |ins h3 h4 h5=>exact⟨_,_,_,_,rfl,aG _ _ h3,ok _ (of_decide_eq_true hc),q _ H1 s1 (.bl _)⟩
theorem rB(ha:DB X κ a fa)(hm:X.mg "tuple" =none)(hg:Gl X "tuple" :=by rfl)(hs:starEach [a] X.env=(false,eval a X.env)::starEach [] X.env:=by rfl):DE X κ (.Call (.Name "tuple" p) [a] [] pos) (bf vT fa):=by
 obtain⟨ta,h1,h2⟩:=ha
 refine⟨_,jw mh hg hm (by decide+kernel) (aU h1 cu hs) (he:=hs),λ{G A bo own ρ σ H p Q} r e q=>?_⟩
 obtain⟨p1,e1,e2⟩:=Option.bind_eq_some_iff.mp e
 refine h2 r e1 λx H1 s1 b1=>?_
 cases p1<;>first|(cases e2;done)|skip
 ·cases e2
  obtain⟨a,vs,rfl,q1,q2⟩:=b1.lst aG
  exact⟨a,vs,rfl,.inl ⟨q1.sq,λl hl=>q _ _ (s1.trans (cJ hl)) ((r.mono s1).NW hl q2)⟩⟩
 ·cases e2
  rcases b1 with b1|⟨_,_,_,_,z,_⟩
  ·cases b1 with
   |tup q1 q2=>exact⟨_,_,rfl,.inr ⟨va aG q1,q _ H1 s1 (.tup q1 q2)⟩⟩
  ·cases z
theorem yA(ns:List Int):∀n,n<ns.length->(ns.take (n+1)).tail.foldl (λa b=>if b>a then b else a) (ns.getD 0 0)=ns.getD (argBest (λi j=>decide (ns.getD i 0>ns.getD j 0)) n) 0
 |0,h=>by
  have:(ns.take 1).tail=[]:=by
   cases ns with
   |nil=>rfl
   |cons x l=>simp
  rw[this]
  rfl
 |n+1,h=>by
  have ih:=yA ns n (by omega)
  have e:(ns.take (n+1+1)).tail=(ns.take (n+1)).tail++[ns.getD (n+1) 0]:=by
   rw[List.take_add_one,List.getElem?_eq_getElem h,List.tail_append_of_ne_nil,List.getD_eq_getElem?_getD,List.getElem?_eq_getElem h]
   ·rfl
   ·intro z
    have h2:(ns.take (n+1)).length=0:=by rw[z];rfl
    rw[List.length_take]at h2
    omega
  rw[e,List.foldl_append,ih]
  show(if ns.getD (n+1) 0>ns.getD (argBest _ n) 0 then _ else _)=ns.getD (if decide (ns.getD (n+1) 0>ns.getD (argBest _ n) 0)=true then n+1 else argBest _ n) 0
  by_cases hh:ns.getD (n+1) 0>ns.getD (argBest (λi j=>decide (ns.getD i 0>ns.getD j 0)) n) 0
  ·rw[if_pos hh,if_pos (decide_eq_true hh)]
  ·rw[if_neg hh,if_neg (by rw[decide_eq_false hh];decide)]
theorem vg:∀{us:List Value} {ns:List Int},IntsAre us ns->∃xs:List (Int×Tok),us=xs.map (λp=>Value.int p.1 p.2)/\xs.map (·.1)=ns
 |_,_,.nil=>⟨[],rfl,rfl⟩
 |_,_,.cons i t h=>by
  obtain⟨xs,h1,h2⟩:=vg h
  exact⟨(i,t)::xs,by rw[h1];rfl,by rw[List.map_cons,h2]⟩
theorem tN(hc:X.calm=true):gX X (.builtin "max") (λxs H Q=>∃(p:Addr) (ns:List Int) (m:Int),xs=[.ref p]/\mP X.K H p (ns.map V.int)/\NR ns=some m/\Q (.int m) H):=by
 intro pins s σ H xs us Q I r h
 obtain⟨p,ns,m,rfl,hq,hm,q⟩:=h
 obtain⟨u,rfl,ru⟩:=vals1 r
 cases ru
 obtain⟨its,rv,pl,hz⟩:=I.list hq
 obtain⟨ts,rfl,ht⟩:=vg (intsAre_of rv)
 have hlen:ns.length=ts.length:=by rw[<-ht,List.length_map]
 have h0:0<ns.length:=by
  cases ns with
  |nil=>cases hm
  |cons _ _=>simp
 have na:∀i,numAt ts.toArray i=ns.getD i 0:=λi=>by
  unfold numAt
  rw[<-ht,List.getD_eq_getElem?_getD,List.getElem?_map]
  simp
 refine max_intList (xs:=ts.toArray) (I.ok.hd hc) (by simpa[intItems]using pl.isList) (by simpa using(hlen▸h0)) λv h' tk hv kp=>?_
 obtain⟨t,rfl⟩:=intItems_at hv
 have bm:=yA ns (ns.length-1) (by omega)
 rw[show ns.length-1+1=ns.length by omega,List.take_length]at bm
 have em:m=numAt ts.toArray (argBest (λi j=>decide (numAt ts.toArray i>numAt ts.toArray j)) (ts.toArray.size-1)):=by
  rw[na,List.size_toArray,<-hlen,show(λi j=>decide (numAt ts.toArray i>numAt ts.toArray j))=λi j=>decide (ns.getD i 0>ns.getD j 0)from by funext i j;rw[na,na],<-bm]
  cases ns with
  |nil=>cases hm
  |cons x l=>
   cases hm
   rfl
 rw[<-em]
 exact⟨.int m,H,I.kept (t':=tk) kp,⟨_,rfl⟩,q⟩
theorem vX(ha:DB X κ a fa)(hm:X.mg "max" =none)(hg:Gl X "max" :=by rfl)(hc:X.calm=true:=by rfl)(hs:starEach [a] X.env=(false,eval a X.env)::starEach [] X.env:=by rfl):DE X κ (.Call (.Name "max" p) [a] [] pos) (bf ml fa):=by
 obtain⟨ta,h1,h2⟩:=ha
 refine⟨_,ku (tN hc) hg hm (by decide+kernel) (aU h1 cu hs) (he:=hs),λ{G A bo own ρ σ H p Q} r e q=>?_⟩
 obtain⟨p1,e1,e2⟩:=Option.bind_eq_some_iff.mp e
 refine h2 r e1 λx H1 s1 b1=>?_
 cases p1<;>first|(cases e2;done)|skip
 obtain⟨ns,e3,e4⟩:=Option.bind_eq_some_iff.mp e2
 obtain⟨m,e5,rfl⟩:=Option.map_eq_some_iff.mp e4
 obtain⟨a,vs,rfl,q1,q2⟩:=b1.lst aG
 rw[EE q2 e3]at q1
 exact⟨a,ns,m,rfl,q1.sq,e5,q _ H1 s1 (.int _)⟩
theorem yB{l u st:Option (Int×Tok)}{y:Str}{t:Tok}{Q:Value->Shared->Prop}{s:Shared}(h0:(st.map (·.1)).getD 1≠0)(hy:y.length<=sizeLine)(q:∀t' k,Q (.str (bY y (l.map (·.1)) (u.map (·.1)) ((st.map (·.1)).getD 1)) t') {s with toks:=k}):(sliceMade y t l u st).post Q s:=by
 unfold sliceMade
 unfold bY at q
 unfold slicePicked
 split
 ·rename_i hh
  rw[if_pos hh]at q
  exact q t s.toks
 ·rename_i hh
  rw[if_neg hh]at q
  refine⟨?_,q _ _⟩
  show((Builtin.Str.strSliceIndices _ _ _ y.length).filterMap (y.cps[·]?)).toArray.size<=sizeLine
  rw[List.size_toArray]
  have h1:=n6 (y.cps[·]?) (Builtin.Str.strSliceIndices (l.map (·.1)) (u.map (·.1)) ((st.map (·.1)).getD 1) y.length)
  have h2:=sliceIndicesBy_le (l.map (·.1)) (u.map (·.1)) ((st.map (·.1)).getD 1) h0 y.length
  omega
theorem LJ:K6 X (λx lo hi H Q=>∃y,x=.str y/\y.length<=sizeLine/\Q (.str (bY y lo hi 1)) H):=by
 intro pins s σ H x v vl vu lo hi sl Q I rx hs pl pu h
 obtain⟨y,rfl,hy,q⟩:=h
 obtain⟨t,rfl⟩:=rx
 obtain⟨l,rfl,hl⟩:=yw pl
 obtain⟨u,rfl,hu⟩:=yw pu
 refine⟨"str",_,F.slot_str_getitem.lookup,typeIs_str _ _ _,wpAny_getItem_str_slice (l:=l) (u:=u) (st:=none) hs rfl (yB (st:=none) (by decide) hy λt' k=>?_)⟩
 rw[hl,hu]
 exact⟨.str _,H,I.tok _,⟨_,rfl⟩,q⟩
theorem fv{p2:Pos}{lo hi:Option Expr}{fl fh:vS}(ha:DB X κ a fa)(hl:DP X κ lo fl)(hh:DP X κ hi fh):DE X κ (.Subscript a (.Slice lo hi none p2) pos) (jJ fa fl fh):=by
 obtain⟨ta,h1,h2⟩:=ha
 obtain⟨tl,h3,h4⟩:=hl
 obtain⟨th,h5,h6⟩:=hh
 refine⟨_,xZ (BF.or LJ) h1 h3 h5,λ{G A bo own ρ σ H p Q} r e q=>?_⟩
 obtain⟨p1,e1,e2⟩:=Option.bind_eq_some_iff.mp e
 obtain⟨o1,e3,e4⟩:=Option.bind_eq_some_iff.mp e2
 obtain⟨o2,e5,e6⟩:=Option.bind_eq_some_iff.mp e4
 refine h2 r e1 λx H1 s1 b1=>h4 (r.mono s1) e3 λH2 s2=>h6 ((r.mono s1).mono s2) e5 λH3 s3=>?_
 have Jx:=(s1.trans s2).trans s3
 cases p1<;>first|(cases e6;done)|skip
 ·obtain⟨hy,rfl⟩:=bD e6
  exact .inr ⟨_,by rw[b1.str],hy,q _ H3 Jx (.str _)⟩
 ·cases e6
  obtain⟨a,vs,rfl,q1,q2⟩:=(b1.El (s2.trans s3)).lst aG
  exact .inl ⟨a,vs,rfl,q1.sq,λn hn=>q _ _ (Jx.trans (cJ hn)) (OR.rep (r.mono Jx) ((r.mono Jx).yl hn (q2.cut o1 o2)))⟩
end
section
variable{X:Cx}{κ:Kl}{pos p p2:Pos}{a b c e:Expr}{fa fb:Den}
theorem HL{te tc:TE}(he:PE X e te)(hc:PE X c tc):PE X (.Subscript e (.Slice none none (some c) p2) pos) (λσ H Q=>te σ H λx H1=>tc σ H1 λz H2=>∃y,x=.str y/\z=.int (-1)/\y.length<=sizeLine/\Q (.str (bY y none none (-1))) H2):=by
 intro pins s σ H Q I h
 refine Subscript_ (eh (he pins s σ H _ I h) λv s1 d7=>?_)
 obtain⟨x,H1,I1,r1,q1⟩:=d7
 refine wpAny_Slice ?_
 rw[evalPart_none]
 refine wpAny_pure (wpAny_pure ?_)
 rw[evalPart_some]
 refine eh (hc pins s1 σ H1 _ I1 q1) λu s3 d7=>?_
 obtain⟨z,H3,I3,r3,y,ex,ez,hy,q⟩:=d7
 subst ex ez
 obtain⟨t,rfl⟩:=r1
 obtain⟨t',rfl⟩:=r3
 have I4:Inv X pins σ H3 {s3 with heap:=s3.heap.push {cls:=.type "slice",data:=.fields #[.none,.none,.int (-1) t']}}:=I3.kept (t':=s3.toks) λb ob q=>Heap.get?_push_of_some _ q
 show wpAny (model X.prog X.w) X.A (subscriptTail e (.Slice none none (some c) p2) (.str y t) (.ref s3.heap.objs.size)) (EP X pins σ Q) X.xe {s3 with heap:=s3.heap.push {cls:=.type "slice",data:=.fields #[.none,.none,.int (-1) t']}}
 refine tail_any (ops:=[.ref s3.heap.objs.size,.str y t]) (T:= "str") (typeIs_str _ _ _) F.slot_str_getitem.lookup ?_ (by with_unfolding_all rfl)
 refine wpAny_getItem_str_slice (l:=none) (u:=none) (st:=some (-1,t')) ⟨_,Heap.get?_push_size _ rfl,rfl,rfl⟩ rfl (yB (st:=some (-1,t')) (show(-1:Int)≠0 by decide) hy λWr k=>?_)
 exact⟨.str _,H3,I4.tok _,⟨_,rfl⟩,q⟩
theorem HM(ha:DB X κ a fa)(hc:DB X κ c (bf qZ (dC (.int 1)))):DE X κ (.Subscript a (.Slice none none (some c) p2) pos) (bf Ll fa):=by
 obtain⟨ta,h1,h2⟩:=ha
 obtain⟨tc,h3,h4⟩:=hc
 refine⟨_,HL h1 h3,λ{G A bo own ρ σ H p Q} r e q=>?_⟩
 obtain⟨p1,e1,e2⟩:=Option.bind_eq_some_iff.mp e
 refine h2 r e1 λx H1 s1 b1=>h4 (r.mono s1) (p:=.int (-1)) rfl λz H2 s2 b2=>?_
 cases p1<;>first|(cases e2;done)|skip
 obtain⟨hy,rfl⟩:=bD e2
 exact⟨_,b1.str,b2.int,hy,q _ H2 (s1.trans s2) (.str _)⟩
end
theorem walkD2{l:PySem.W.OpenLaw}{n k:Nat}{q:Program}{loose:List Str}{XP:(Str->Option Value)->Heap->Prop}{YP:World->Heap->Prop}{d:DefRec}{K:Params->PySem.W.Frag}{x:Str}{F:List PV->Option PV}
  (hn:l.most=some n)(MP:n<=sizeLine)(Sq:d.params.defaults=[])(hr:cT k callerA)
  (hY:∀(w:World) (h:Heap),YP w h->(K w.params).In h)
  (FF:∀(w:World) (mg:Str->Option Value) (fa:Addr) (h:Heap),(K w.params).In h->h.Ns mainGlobals mg->mg d.name=some (.ref fa)->
    ∃(κ:Kl) (fd:FuncData),(∀(s:Shared) (u:Value),BindsTo s fd ⟨[u],[]⟩ [(x,u)])/\
     ∀base:Heap,(K w.params).In base->base.Ns mainGlobals mg->aL l.prog w (K w.params) mg base cm k fa fd [x] (fK (K w.params) κ false F))
  (hF:∀ns:List Int,ns.length<=n->F [.lst (ns.map .int)]=some (.bl true)):
  PySem.W.WalkO q loose XP YP l.row.toRowW d [] (λf vs=>PySem.call f vs):=by
 refine Att.x4 hn Sq λw s₀ s₁ mg mb fa o pm cd doc a vs ns G Y ho hd oU NM Le hints hlen hg=>?_
 have KX:=hY w _ Y
 obtain⟨κ,fd,hb,Vo⟩:=FF w mg fa _ KX G.T.g NM
 refine CW KX G.T.g G.T.b G.T.builtins G.T.nolimit hg Le hints (Nat.le_trans hlen MP) hr Vo hb (λH hO hS=>?_) λH e s' z=>z
 have e:hide (λ_=>False) H=H:=by
  funext b
  exact bO λz=>z
 refine⟨λ_=>False,[.lst (ns.map .int)],.bl true,λb z=>z.elim,.cons ?_ .nil,hF ns hlen,λv H' s z=>?_⟩
 ·rw[e]
  exact .lst hS (ints_rep ns)
 ·cases(show Rep (K w.params) κ _ v (.bl true)from z)
  rfl
theorem cL.mono{P:Program}{w:World}{K:PySem.W.Frag}{mg:Str->Option Value}{base:Heap}{κ:Kl}{fr:Bool}{m:Str}{j k:Nat}{ps:List Str}{Fs:Nat->List PV->Option PV}(M:cL P w K mg base κ fr m j ps Fs)(h:j<=k):cL P w K mg base κ fr m k ps Fs:=λc xs p e=>by
 obtain⟨f,fd,h1,h2,h3,h4,h5⟩:=M c xs p e
 exact⟨f,fd,h1,h2,h3,h4.mono h,h5⟩
structure Em(K:PySem.W.Frag)(x q:Str)(st:Stmt)(ps:List Str)(f:Addr)(fd:FuncData):Prop where
 F:L2.qt K x q st f fd
 b:L2.Binds K fd ps []
noncomputable def HN(s:Stmt)(j:Nat):Stmt:=match s with
 |.ClassDef _ _ _ b _ _ _ _ _ _ _=>b.getD j (.Pass ⟨0,0,0,0⟩)
 |_=>.Pass ⟨0,0,0,0⟩
section
variable{K:PySem.W.Frag}{mg:Str->Option Value}{κ:Kl}{CR CC fH fA fY fS fC:Addr}
theorem EM{c:Nat}{f:Str}(h:f∈MV c):(c=0/\f= "name")\/(0<c/\c<4/\(f= "wanted" \/f= "parts")):=by
 unfold MV at h
 split at h
 ·exact .inl ⟨by assumption,by simpa using h⟩
 ·split at h
  ·exact .inr ⟨by omega,by assumption,by simpa using h⟩
  ·cases h
end
theorem l9{α:Type}{us:List α}(h:us.length=1):∃a,us=[a]:=List.length_eq_one_iff.mp h
theorem pB{α:Type}{us:List α}(h:us.length=2):∃a b,us=[a,b]:=match us,h with|[a,b],_=>⟨a,b,rfl⟩
theorem EN{α:Type}{us:List α}(h:us.length=3):∃a b c,us=[a,b,c]:=match us,h with|[a,b,c],_=>⟨a,b,c,rfl⟩
theorem N6{α:Type}{us:List α}(h:us.length=4):∃a b c d,us=[a,b,c,d]:=match us,h with|[a,b,c,d],_=>⟨a,b,c,d,rfl⟩
section
variable{X:Cx}{κ:Kl}{a b c:Expr}{fa fb fc:Den}{pos:Pos}
theorem yC{K:PySem.W.Frag}{H:Hp}:∀ts:List Str,aS K κ H (ts.map V.str) (ts.map PV.str)
 |[]=>.nil
 |t::ts=>.cons (.str t) (yC ts)
end
end L2.D
namespace L2.D
open PySem PySem.Spec PyProof.Rows PySem.SeqAt
open Classical
noncomputable abbrev SI(h:Heap)(a:Addr)(x:Str)(t:Tok)(n:Nat):Prop:=h.IsStrIter a "str_ascii_iterator" x t n
theorem SI.up{h h':Heap}{a:Addr}{x:Str}{t:Tok}{n:Nat}(k:SI h a x t n)(up:∀o,h.get? a=some o->h'.get? a=some o):SI h' a x t n:=by
 obtain⟨o,e,r⟩:=k
 exact⟨o,up o e,r⟩
section
variable{prog:Program}{w:World}{A:Around}{E:Value->Shared->Prop}{s:Shared}{z TI TO i1 i2:Addr}{x y:Str}{t u:Tok}{n:Nat}{a b:Value}
theorem HP{c d:Nat}{Q:PySem.Fin->Shared->Prop}(D:ZipApart z TI TO i1 i2 TI TI)(z0:IsZip s.heap z TI TO .none)(p0:IsPair s.heap TI (.ref i1) (.ref i2))(q0:IsPair s.heap TO a b)(r1:SI s.heap i1 x t n)(r2:SI s.heap i2 y u n)(e1:x.cps[n]?=some c)(e2:y.cps[n]?=some d)
  (k:∀h' t1 t2 tk,IsZip h' z TI TO (rawInt s.heap.objs.size)->IsPair h' TO (.str ⟨#[c]⟩ t1) (.str ⟨#[d]⟩ t2)->SI h' i1 x t (n+1)->SI h' i2 y u (n+1)->IsPair h' s.heap.objs.size (.str ⟨#[c]⟩ t1) (.str ⟨#[d]⟩ t2)->(∀e o,e≠z->e≠TO->e≠i1->e≠i2->s.heap.get? e=some o->h'.get? e=some o)->Q (.done (.ret (.ref s.heap.objs.size))) {s with heap:=h',toks:=tk}):
  wpAny (model prog w) A (Builtin.«zip.__next__» ⟨[.ref z],[]⟩) Q E s:=by
 show wpAny _ _ (field (.ref z) 2>>=_) _ _ _
 refine wpAny_bind (wpAny_field z0 rfl (x:=.bool false) rfl ?_)
 show wpAny _ _ (field (.ref z) 3>>=_) _ _ _
 refine wpAny_bind (wpAny_field z0 rfl (x:=.ref TI) rfl (wpAny_bind (wpAny_seqItems p0 rfl ?_)))
 show wpAny _ _ (Builtin.SmallTypes.ownedTupleIsFree (.ref z)>>=_) _ _ _
 refine wpAny_bind ?_
 unfold Builtin.SmallTypes.ownedTupleIsFree
 refine wpAny_bind (wpAny_field z0 rfl (x:=.none) rfl (wpAny_pure ?_))
 simp only[if_true]
 refine wpAny_bind (wpAny_rule (wpAny_bind (wpAny_field z0 rfl (x:=.ref TO) rfl (wpAny_bind (wpAny_setField_rec z0 (by simp) λg1 z1 m1=>?_)))))
 have Rm:IsZip g1 z TI TO .ellipsis:=z1
 refine wpAny_bind ?_
 simp only[List.zipIdx_cons,List.zipIdx_nil,List.forIn_cons,List.forIn_nil]
 refine wpAny_bind (wpAny_bind (wpAny_onRaise ?_))
 show wpAny _ _ (Builtin.SmallTypes.nextOf (.ref i1)>>=_) _ _ _
 refine wpAny_bind (wpAny_nextOf_ascii_item (r1.extBut m1.extBut D.i1z) e1 λg2 k2 m2=>wpAny_pure ?_)
 have q2:IsPair g2 TO a b:=m2.extBut _ _ D.TOi1 (m1.extBut _ _ D.TOz q0)
 refine wpAny_bind (wpAny_seqItems q2 rfl (wpAny_bind (wpAny_updateSeq_pair q2 λg3 q3 m3=>?_)))
 refine wpAny_bind (wpAny_letGo (wpAny_pure (wpAny_bind (wpAny_bind (wpAny_onRaise ?_)))))
 show wpAny _ _ (Builtin.SmallTypes.nextOf (.ref i2)>>=_) _ _ _
 refine wpAny_bind (wpAny_nextOf_ascii_item (((r2.extBut m1.extBut D.i2z).extBut m2.extBut D.i12.symm).extBut m3.extBut D.TOi2.symm) e2 λg4 k4 m4=>wpAny_pure ?_)
 have q4:IsPair g4 TO (.str ⟨#[c]⟩ s.toks) b:=m4.extBut _ _ D.TOi2 q3
 refine wpAny_bind (wpAny_seqItems q4 rfl (wpAny_bind (wpAny_updateSeq_pair q4 λg5 q5 m5=>?_)))
 have Uh:IsPair g5 TO (.str ⟨#[c]⟩ s.toks) (.str ⟨#[d]⟩ (s.toks+1)):=q5
 refine wpAny_bind (wpAny_letGo (wpAny_pure (wpAny_pure (wpAny_bind (wpAny_seqItems Uh rfl (wpAny_bind (wpAny_newTuple ?_)))))))
 have sz:g5.objs.size=s.heap.objs.size:=by rw[m5.1,m4.1,m3.1,m2.1,m1.1]
 have z5:IsZip g5 z TI TO .ellipsis:=m5.extBut _ _ D.TOz.symm (m4.extBut _ _ D.i2z.symm (m3.extBut _ _ D.TOz.symm (m2.extBut _ _ D.i1z.symm Rm)))
 have f5:∀e o,e≠z->e≠TO->e≠i1->e≠i2->s.heap.get? e=some o->g5.get? e=some o:=λe o c1 c2 c3 c4 h=>m5.extBut _ _ c2 (m4.extBut _ _ c4 (m3.extBut _ _ c2 (m2.extBut _ _ c3 (m1.extBut _ _ c1 h))))
 have k5:SI g5 i1 x t (n+1):=((k2.extBut m3.extBut D.TOi1.symm).extBut m4.extBut D.i12).extBut m5.extBut D.TOi1.symm
 have l5:SI g5 i2 y u (n+1):=k4.extBut m5.extBut D.TOi2.symm
 have lt:=Heap.lt_size z5
 show wpAny _ _ (Builtin.SmallTypes.ownedTupleHandOut (.ref z) (.ref g5.objs.size)>>=_) _ _ _
 refine wpAny_bind ?_
 unfold Builtin.SmallTypes.ownedTupleHandOut
 have z6:IsZip (g5.push {cls:=.type "tuple",data:=.seq #[.str ⟨#[c]⟩ s.toks,.str ⟨#[d]⟩ (s.toks+1)]}) z TI TO .ellipsis:=Heap.get?_push_of_some _ z5
 refine wpAny_bind (wpAny_setField_rec z6 (by simp) λg7 z7 m7=>?_)
 have Vp:IsZip g7 z TI TO (rawInt g5.objs.size):=z7
 refine wpAny_setField_rec Vp (by simp) λg8 z8 m8=>?_
 have Ui:IsZip g8 z TI TO (rawInt g5.objs.size):=z8
 have up:∀e o,e≠z->g5.get? e=some o->g8.get? e=some o:=λe o c1 h=>m8.extBut _ _ c1 (m7.extBut _ _ c1 (Heap.get?_push_of_some _ h))
 have t8:IsPair g8 g5.objs.size (.str ⟨#[c]⟩ s.toks) (.str ⟨#[d]⟩ (s.toks+1)):=m8.extBut _ _ (Nat.ne_of_gt lt) (m7.extBut _ _ (Nat.ne_of_gt lt) (Heap.get?_push_size _ rfl))
 rw[sz]at Ui t8
 refine wpAny_pure ?_
 show Q (.done (.ret (.ref g5.objs.size))) _
 rw[sz]
 exact k g8 _ _ _ Ui (up _ _ D.TOz Uh) (k5.up λo e=>up _ o D.i1z e) (l5.up λo e=>up _ o D.i2z e) t8 λe o c1 c2 c3 c4 h=>up e o c1 (f5 e o c1 c2 c3 c4 h)
theorem LK{Q:PySem.Fin->Shared->Prop}(hh:A.handled=none)(D:ZipApart z TI TO i1 i2 TI TI)(z0:IsZip s.heap z TI TO .none)(p0:IsPair s.heap TI (.ref i1) (.ref i2))(q0:IsPair s.heap TO a b)(r1:SI s.heap i1 x t n)(r2:SI s.heap i2 y u n)(e0:x.cps[n]?=none\/y.cps[n]?=none)
  (k:∀h' e tk,(∀f o,f≠z->f≠TO->f≠i1->f≠i2->s.heap.get? f=some o->h'.get? f=some o)->(∃o,h'.get? e=some o/\o.cls=.type "StopIteration")->E (.ref e) {s with heap:=h',toks:=tk}):
  wpAny (model prog w) A (Builtin.«zip.__next__» ⟨[.ref z],[]⟩) Q E s:=by
 show wpAny _ _ (field (.ref z) 2>>=_) _ _ _
 refine wpAny_bind (wpAny_field z0 rfl (x:=.bool false) rfl ?_)
 show wpAny _ _ (field (.ref z) 3>>=_) _ _ _
 refine wpAny_bind (wpAny_field z0 rfl (x:=.ref TI) rfl (wpAny_bind (wpAny_seqItems p0 rfl ?_)))
 show wpAny _ _ (Builtin.SmallTypes.ownedTupleIsFree (.ref z)>>=_) _ _ _
 refine wpAny_bind ?_
 unfold Builtin.SmallTypes.ownedTupleIsFree
 refine wpAny_bind (wpAny_field z0 rfl (x:=.none) rfl (wpAny_pure ?_))
 simp only[if_true]
 refine wpAny_bind (wpAny_rule (wpAny_bind (wpAny_field z0 rfl (x:=.ref TO) rfl (wpAny_bind (wpAny_setField_rec z0 (by simp) λg1 z1 m1=>?_)))))
 have Rm:IsZip g1 z TI TO .ellipsis:=z1
 refine wpAny_bind ?_
 simp only[List.zipIdx_cons,List.zipIdx_nil,List.forIn_cons,List.forIn_nil]
 refine wpAny_bind (wpAny_bind (wpAny_onRaise ?_))
 show wpAny _ _ (Builtin.SmallTypes.nextOf (.ref i1)>>=_) _ _ _
 cases ex:x.cps[n]? with
 |none=>
  refine wpAny_bind (wpAny_nextOf_ascii_end hh (r1.extBut m1.extBut D.i1z) ex λg2 e m2 he=>?_)
  obtain⟨oe,h1,h2⟩:=he
  have z2:IsZip g2 z TI TO .ellipsis:=m2 _ _ D.i1z.symm Rm
  have ne:e≠z:=λv=>by subst v;rw[z2]at h1;cases h1;simp at h2
  exact wpAny_setField_rec z2 (by simp) λg3 _ m3=>k g3 e _ (λf o c1 _ c3 _ v=>m3.extBut _ _ c1 (m2 _ _ c3 (m1.extBut _ _ c1 v))) ⟨oe,m3.extBut _ _ ne h1,h2⟩
 |some c=>
  have ey:y.cps[n]?=none:=by rcases e0 with h|h;rw[ex]at h;cases h;exact h
  refine wpAny_bind (wpAny_nextOf_ascii_item (r1.extBut m1.extBut D.i1z) ex λg2 k2 m2=>wpAny_pure ?_)
  have q2:IsPair g2 TO a b:=m2.extBut _ _ D.TOi1 (m1.extBut _ _ D.TOz q0)
  refine wpAny_bind (wpAny_seqItems q2 rfl (wpAny_bind (wpAny_updateSeq_pair q2 λg3 q3 m3=>?_)))
  refine wpAny_bind (wpAny_letGo (wpAny_pure (wpAny_bind (wpAny_bind (wpAny_onRaise ?_)))))
  show wpAny _ _ (Builtin.SmallTypes.nextOf (.ref i2)>>=_) _ _ _
  refine wpAny_bind (wpAny_nextOf_ascii_end hh (((r2.extBut m1.extBut D.i2z).extBut m2.extBut D.i12.symm).extBut m3.extBut D.TOi2.symm) ey λg4 e m4 he=>?_)
  obtain⟨oe,h1,h2⟩:=he
  have z4:IsZip g4 z TI TO .ellipsis:=m4 _ _ D.i2z.symm (m3.extBut _ _ D.TOz.symm (m2.extBut _ _ D.i1z.symm Rm))
  have ne:e≠z:=λv=>by subst v;rw[z4]at h1;cases h1;simp at h2
  exact wpAny_setField_rec z4 (by simp) λg5 _ m5=>k g5 e _ (λf o c1 c2 c3 c4 v=>m5.extBut _ _ c1 (m4 _ _ c4 (m3.extBut _ _ c2 (m2.extBut _ _ c3 (m1.extBut _ _ c1 v))))) ⟨oe,m5.extBut _ _ ne h1,h2⟩
theorem C1{c d:Nat}{Q:Option Value->Shared->Prop}(D:ZipApart z TI TO i1 i2 TI TI)(z0:IsZip s.heap z TI TO .none)(p0:IsPair s.heap TI (.ref i1) (.ref i2))(q0:IsPair s.heap TO a b)(r1:SI s.heap i1 x t n)(r2:SI s.heap i2 y u n)(e1:x.cps[n]?=some c)(e2:y.cps[n]?=some d)
  (k:∀h' t1 t2 tk,IsZip h' z TI TO (rawInt s.heap.objs.size)->IsPair h' TO (.str ⟨#[c]⟩ t1) (.str ⟨#[d]⟩ t2)->SI h' i1 x t (n+1)->SI h' i2 y u (n+1)->IsPair h' s.heap.objs.size (.str ⟨#[c]⟩ t1) (.str ⟨#[d]⟩ t2)->(∀e o,e≠z->e≠TO->e≠i1->e≠i2->s.heap.get? e=some o->h'.get? e=some o)->Q (some (.ref s.heap.objs.size)) {s with heap:=h',toks:=tk}):
  wpAny (model prog w) A (pyNext (.ref z)) Q E s:=by
 have ty:s.TypeIs (.ref z) "zip" :=⟨_,z0,rfl⟩
 unfold pyNext
 exact wpAny_bind (wpAny_attempt (wpAny_callSpecial?_slot (name:=Str.ofString "__next__") ty F.slot_zip_next (wpAny_call_entry F.slot_zip_next ty F.entry_zip_next (HP D z0 p0 q0 r1 r2 e1 e2 λh' t1 t2 tk a1 a2 a3 a4 a5 a6=>⟨_,rfl,wpAny_pure (k h' t1 t2 tk a1 a2 a3 a4 a5 a6)⟩) (F.args_zip_next_1 _))))
theorem EO{Q:Option Value->Shared->Prop}(hh:A.handled=none)(D:ZipApart z TI TO i1 i2 TI TI)(z0:IsZip s.heap z TI TO .none)(p0:IsPair s.heap TI (.ref i1) (.ref i2))(q0:IsPair s.heap TO a b)(r1:SI s.heap i1 x t n)(r2:SI s.heap i2 y u n)(e0:x.cps[n]?=none\/y.cps[n]?=none)
  (k:∀h' tk,(∀f o,f≠z->f≠TO->f≠i1->f≠i2->s.heap.get? f=some o->h'.get? f=some o)->Q none {s with heap:=h',toks:=tk}):wpAny (model prog w) A (pyNext (.ref z)) Q E s:=by
 have ty:s.TypeIs (.ref z) "zip" :=⟨_,z0,rfl⟩
 unfold pyNext
 refine wpAny_bind (wpAny_attempt (wpAny_callSpecial?_slot (name:=Str.ofString "__next__") ty F.slot_zip_next (wpAny_call_entry F.slot_zip_next ty F.entry_zip_next (LK hh D z0 p0 q0 r1 r2 e0 λh' e tk g he=>?_) (F.args_zip_next_1 _))))
 obtain⟨o,h1,h2⟩:=he
 exact wpAny_bind (wpAny_isInstance (T:= "StopIteration") (b:=true) ⟨o,h1,h2⟩ isSubtype_stop (wpAny_pure (k _ _ g)))
end
noncomputable abbrev LL(h:Heap)(x:Str)(t:Tok):Heap:=h.push {cls:=.type "str_ascii_iterator",data:=.fields #[.str x t,.int 0 0]}
noncomputable abbrev Rn(h:Heap)(x:Str)(t:Tok)(y:Str)(u:Tok):Heap:=LL (LL h x t) y u
noncomputable abbrev Ro(h:Heap)(x:Str)(t:Tok)(y:Str)(u:Tok):Heap:=(Rn h x t y u).push {cls:=.type "tuple",data:=.seq #[.ref h.objs.size,.ref (LL h x t).objs.size]}
noncomputable abbrev Rp(h:Heap)(x:Str)(t:Tok)(y:Str)(u:Tok):Heap:=(Ro h x t y u).push {cls:=.type "tuple",data:=.seq #[.none,.none]}
noncomputable abbrev MX(h:Heap)(x:Str)(t:Tok)(y:Str)(u:Tok):Heap:=(Rp h x t y u).push {cls:=.type "zip",data:=.fields #[.none,.bool false,.bool false,.ref (Rn h x t y u).objs.size,.ref (Ro h x t y u).objs.size]}
theorem LM(x:Str)(t:Tok)(y:Str)(u:Tok)(hx:x.cps.all (·<128)=true)(hy:y.cps.all (·<128)=true):
  Meets (Builtin.«zip.__new__» ⟨[.type "zip",.str x t,.str y u],[]⟩) (λ_ R s=>R (.ok (.ret (.ref (Rp s.heap x t y u).objs.size))) {s with heap:=MX s.heap x t y u}):=
 .of_wp λprog w A R s h=>by
  obtain⟨hp,g,d,tk,os⟩:=s
  have Vq:=sub_zip
  have w1:=λ(prog:Program) (w:World) (A:Around) (E:Value->Shared->Prop) (s:Shared) (Q:Value->Shared->Prop) (q:Q (.ref s.heap.objs.size) {s with heap:=LL s.heap x t})=>wpAny_pyIter_ascii (prog:=prog) (w:=w) (A:=A) (E:=E) (s:=s) (t:=t) hx q
  have w2:=λ(prog:Program) (w:World) (A:Around) (E:Value->Shared->Prop) (s:Shared) (Q:Value->Shared->Prop) (q:Q (.ref s.heap.objs.size) {s with heap:=LL s.heap y u})=>wpAny_pyIter_ascii (prog:=prog) (w:=w) (A:=A) (E:=E) (s:=s) (t:=u) hy q
  wp_walk using w1,w2
  exact⟨_,rfl,h⟩
theorem ER(n:Nat):ZipApart (n+4) (n+2) (n+3) n (n+1) (n+2) (n+2):=by
 refine⟨?_,?_,?_,?_,?_,?_,?_,?_,?_,?_,?_,?_,?_,?_,?_,?_,?_,?_⟩<;>(intro(e:(_:Nat)=_);omega)
theorem HQ{prog:Program}{w:World}{A:Around}{E:Value->Shared->Prop}{s:Shared}{x y:Str}{t u:Tok}{Q:Value->Shared->Prop}(hx:x.cps.all (·<128)=true)(hy:y.cps.all (·<128)=true)
  (k:∀h',IsZip h' (s.heap.objs.size+4) (s.heap.objs.size+2) (s.heap.objs.size+3) .none->IsPair h' (s.heap.objs.size+2) (.ref s.heap.objs.size) (.ref (s.heap.objs.size+1))->IsPair h' (s.heap.objs.size+3) .none .none->SI h' s.heap.objs.size x t 0->SI h' (s.heap.objs.size+1) y u 0->
    (∀c o,s.heap.get? c=some o->h'.get? c=some o)->Q (.ref (s.heap.objs.size+4)) {s with heap:=h'}):wpAny (model prog w) A (call (.type "zip") [.str x t,.str y u]) Q E s:=by
 refine callType_new F.called_zip (by decide) (F.typeCall_zip_2 _ _) (F.newCall_zip_2 _ _) (λobj=>F.args_object_init_3 obj _ _) F.entry_zip_new (LM x t y u hx hy) ?_
 have n1:(LL s.heap x t).objs.size=s.heap.objs.size+1:=Heap.size_push ..
 have n2:(Rn s.heap x t y u).objs.size=s.heap.objs.size+2:=by rw[Heap.size_push,n1]
 have n3:(Ro s.heap x t y u).objs.size=s.heap.objs.size+3:=by rw[Heap.size_push,n2]
 have n4:(Rp s.heap x t y u).objs.size=s.heap.objs.size+4:=by rw[Heap.size_push,n3]
 have g5:(MX s.heap x t y u).get? (Rp s.heap x t y u).objs.size=some _:=Heap.get?_push_size _ rfl
 have g4:(MX s.heap x t y u).get? (Ro s.heap x t y u).objs.size=some _:=Heap.get?_push_of_some _ (Heap.get?_push_size _ rfl)
 have g3:(MX s.heap x t y u).get? (Rn s.heap x t y u).objs.size=some _:=Heap.get?_push_of_some _ (Heap.get?_push_of_some _ (Heap.get?_push_size _ rfl))
 have g2:(MX s.heap x t y u).get? (LL s.heap x t).objs.size=some _:=Heap.get?_push_of_some _ (Heap.get?_push_of_some _ (Heap.get?_push_of_some _ (Heap.get?_push_size _ rfl)))
 have g1:(MX s.heap x t y u).get? s.heap.objs.size=some _:=Heap.get?_push_of_some _ (Heap.get?_push_of_some _ (Heap.get?_push_of_some _ (Heap.get?_push_of_some _ (Heap.get?_push_size _ rfl))))
 show _/\_
 rw[n2,n3,n4]at g5
 rw[n1,n2]at g3
 rw[n3]at g4
 rw[n1]at g2
 rw[n4]
 exact⟨⟨_,g5,rfl⟩,k _ g5 g3 g4 ⟨_,g1,rfl,rfl⟩ ⟨_,g2,rfl,rfl⟩ λc o v=>Heap.get?_push_of_some _ (Heap.get?_push_of_some _ (Heap.get?_push_of_some _ (Heap.get?_push_of_some _ (Heap.get?_push_of_some _ v))))⟩
noncomputable def LN(x y:Str):It:=
 ⟨λi _=>i<x.cps.size/\i<y.cps.size,
  λi H v H'=>∃p c d,H p=none/\v=.ref p/\H'=upd H p (.tup [.str ⟨#[c]⟩,.str ⟨#[d]⟩])/\x.cps[i]?=some c/\y.cps[i]?=some d,
  λi _=>x.cps.size<=i\/y.cps.size<=i⟩
noncomputable def Vr(z TI TO i1 i2:Addr)(x y:Str)(t u:Tok)(i:Nat)(h:Heap):Prop:=IsZip h z TI TO .none/\IsPair h TI (.ref i1) (.ref i2)/\(∃a b,IsPair h TO a b)/\SI h i1 x t i/\SI h i2 y u i
theorem C3{P:Program}{w:World}{K:PySem.W.Frag}{elts:List Expr}{x1:Nat}{pos:Pos}{z TI TO i1 i2:Addr}{x y:Str}{t u:Tok}(D:ZipApart z TI TO i1 i2 TI TI):
  Turn P w K (.Tuple elts x1 pos) (LN x y) [z,TI,TO,i1,i2] z (Vr z TI TO i1 i2 x y t u) where
 mem:=by simp
 obj:=λi h st b hb=>by
  obtain⟨z0,p0,⟨a,c,q0⟩,⟨o1,e1,c1,d1⟩,⟨o2,e2,c2,d2⟩⟩:=st
  have rA:b=z\/b=TI\/b=TO\/b=i1\/b=i2:=by simpa using hb
  rcases rA with rfl|rfl|rfl|rfl|rfl
  ·exact⟨_,z0,λv q=>by cases q⟩
  ·exact⟨_,p0,λv q=>by cases q⟩
  ·exact⟨_,q0,λv q=>by cases q⟩
  ·exact⟨_,e1,λv q=>by rw[d1]at q;cases q⟩
  ·exact⟨_,e2,λv q=>by rw[d2]at q;cases q⟩
 keep:=λi h h' st k=>by
  obtain⟨z0,p0,⟨a,c,q0⟩,h1,h2⟩:=st
  exact⟨k _ (by simp) _ z0,k _ (by simp) _ p0,⟨a,c,k _ (by simp) _ q0⟩,h1.up λo e=>k _ (by simp) o e,h2.up λo e=>k _ (by simp) o e⟩
 item:=by
  intro X hP hw hK hc i pins s σ H E I hf st hg
  subst hP hw hK
  obtain⟨lx,ly⟩:i<x.cps.size/\i<y.cps.size:=hg
  obtain⟨z0,p0,⟨a,c,q0⟩,h1,h2⟩:=st
  refine C1 D z0 p0 q0 h1 h2 (c:=x.cps[i]) (d:=y.cps[i]) (by simp[lx]) (by simp[ly]) λh' t1 t2 tk a1 a2 a3 a4 a5 a7=>?_
  refine⟨.ref s.heap.objs.size,rfl,wpAny_letOwnedTupleGo_zip (s:={s with heap:=h',toks:=tk}) a1 λS1 b1 b2=>?_⟩
  have Vs:z<s.heap.objs.size:=Heap.lt_size z0
  have up:∀b o,b≠z->h'.get? b=some o->S1.get? b=some o:=λb o hb e=>(b2.2 b hb).trans e
  have kp:∀b o,b∉[z,TO,i1,i2]->s.heap.get? b=some o->S1.get? b=some o:=λb o hb e=>by
   have rA:b≠z/\b≠TO/\b≠i1/\b≠i2:=by simpa using hb
   exact up b o rA.1 (a7 b o rA.1 rA.2.1 rA.2.2.1 rA.2.2.2 e)
  have N7:IsPair S1 s.heap.objs.size (.str ⟨#[x.cps[i]]⟩ t1) (.str ⟨#[y.cps[i]]⟩ t2):=up _ _ (Nat.ne_of_gt Vs) a5
  have fr:H s.heap.objs.size=none:=I.eT.fresh (Nat.le_refl _)
  refine⟨.ref s.heap.objs.size,upd H s.heap.objs.size (.tup [.str ⟨#[x.cps[i]]⟩,.str ⟨#[y.cps[i]]⟩]),?_,rfl,?_,?_,?_⟩
  ·refine I.CY (t':=tk) (ch:=[z,TO,i1,i2]) kp (λb hb=>hf b ?_) ?_
   ·have rA:b=z\/b=TO\/b=i1\/b=i2:=by simpa using hb
    rcases rA with rfl|rfl|rfl|rfl<;>simp
   ·exact⟨⟨by show 2<=sizeLine;decide,⟨_,N7,rfl⟩⟩,[_,_],.cons ⟨_,rfl⟩ (.cons ⟨_,rfl⟩ .nil),⟨_,N7,rfl,_,rfl⟩⟩
  ·exact⟨_,_,_,fr,rfl,rfl,by simp[lx],by simp[ly]⟩
  ·exact⟨b1,up _ _ D.TIz (a7 _ _ D.TIz D.TITO D.TIi1 D.TIi2 p0),⟨_,_,up _ _ D.TOz a2⟩,a3.up λo e=>up _ _ D.i1z e,a4.up λo e=>up _ _ D.i2z e⟩
  ·intro b hb
   have:b<s.heap.objs.size:=by
    have rA:b=z\/b=TI\/b=TO\/b=i1\/b=i2:=by simpa using hb
    obtain⟨o1,e1,_⟩:=h1
    obtain⟨o2,e2,_⟩:=h2
    rcases rA with rfl|rfl|rfl|rfl|rfl
    ·exact Heap.lt_size z0
    ·exact Heap.lt_size p0
    ·exact Heap.lt_size q0
    ·exact Heap.lt_size e1
    ·exact Heap.lt_size e2
   rw[aJ (Nat.ne_of_lt this)]
   exact(hf b hb).1
 done:=by
  intro X hP hw hK hc i pins s σ H E I hf st hg
  subst hP hw hK
  have S2:x.cps.size<=i\/y.cps.size<=i:=hg
  obtain⟨z0,p0,⟨a,c,q0⟩,h1,h2⟩:=st
  refine EO (I.ok.hd hc) D z0 p0 q0 h1 h2 (by
   rcases S2 with q|q
   ·exact .inl (by simp;omega)
   ·exact .inr (by simp;omega)) λh' tk k=>⟨rfl,I.HD (t':=tk) (ch:=[z,TO,i1,i2]) (λb o hb e=>?_) λb hb=>hf b ?_⟩
  ·have rA:b≠z/\b≠TO/\b≠i1/\b≠i2:=by simpa using hb
   exact k b o rA.1 rA.2.1 rA.2.2.1 rA.2.2.2 e
  ·have rA:b=z\/b=TO\/b=i1\/b=i2:=by simpa using hb
   rcases rA with rfl|rfl|rfl|rfl<;>simp
 self:=λ_ _ _ _ _ st h=>wpAny_pyIter_zip st.1 h
section
variable{X:Cx}{κ:Kl}{a b:Expr}{fa fb:Den}{elts:List Expr}{x1:Nat}{tp:Pos}
noncomputable def N8(ta:TA):TI:=λσ H R=>ta σ H λvs H1=>∃x y,vs=[.str x,.str y]/\x.cps.all (·<128)=true/\y.cps.all (·<128)=true/\R (LN x y) H1
theorem HR{ta:TA}{p pos:Pos}(hg:Gl X "zip")(hm:X.mg "zip" =none)(ha:PA X [a,b] ta)(hs:starEach [a,b] X.env=[(false,eval a X.env),(false,eval b X.env)]:=by rfl)(oZ:starEach [b] X.env=[(false,eval b X.env)]:=by rfl):
  PI X (.Tuple elts x1 tp) (.Call (.Name "zip" p) [a,b] [] pos) (N8 ta):=by
 intro pins s σ H R I h
 refine Call_ (qS I hg hm PyProof.Rows.boot_zip (PyProof.Rows.callWith_type1 (eh (ha pos pins s σ H _ I h) λus s1 d7=>?_) (by rw[hs,oZ]) (by rw[oZ];rfl)))
 obtain⟨vs,H1,I1,r1,q1⟩:=d7
 obtain⟨x,y,rfl,hx,hy,q⟩:=q1
 obtain⟨u1,u2,rfl,r1,r2⟩:=vals2 r1
 obtain⟨t,rfl⟩:=r1
 obtain⟨u,rfl⟩:=r2
 refine HQ hx hy λh' hz Vt Vu Vv Vw hk=>?_
 refine wpAny_pyIter_zip (s:={s1 with heap:=h'}) hz ?_
 refine⟨s1.heap.objs.size+4,[s1.heap.objs.size+4,s1.heap.objs.size+2,s1.heap.objs.size+3,s1.heap.objs.size,s1.heap.objs.size+1],_,_,H1,rfl,I1.kept (t':=s1.toks) hk,C3 (ER _),⟨hz,Vt,⟨_,_,Vu⟩,Vv,Vw⟩,λb hb=>?_,q⟩
 have rA:b=s1.heap.objs.size+4\/b=s1.heap.objs.size+2\/b=s1.heap.objs.size+3\/b=s1.heap.objs.size\/b=s1.heap.objs.size+1:=by simpa using hb
 have hle:s1.heap.objs.size<=b:=by rcases rA with rfl|rfl|rfl|rfl|rfl<;>omega
 exact I1.G0 hle (I1.eT.fresh hle)
noncomputable def C4(x y:Str):List PV:=List.zipWith (λc d=>PV.tup [.str ⟨#[c]⟩,.str ⟨#[d]⟩]) x.cps.toList y.cps.toList
noncomputable def B3(a b:Den):dq:=λρ=>(a ρ).bind λp=>(toS p).bind λx=>(b ρ).bind λq=>(toS q).bind λy=>if x.cps.all (·<128)&&y.cps.all (·<128)then some (C4 x y)else none
theorem C5{K:PySem.W.Frag}{Gs:Hp}{A:Addr->Prop}(x y:Str):ym K κ Gs A (LN x y) (C4 x y):=λi H2 s=>by
 refine⟨λp e=>?_,λhl=>?_⟩
 ·unfold C4 at e
  rw[List.getElem?_zipWith]at e
  cases e1:x.cps.toList[i]? with
  |none=>rw[e1]at e;cases e
  |some c=>
   cases e2:y.cps.toList[i]? with
   |none=>rw[e1,e2]at e;cases e
   |some d=>
    rw[e1,e2]at e
    cases e
    have g1:x.cps[i]?=some c:=by rw[<-Array.getElem?_toList];exact e1
    have g2:y.cps[i]?=some d:=by rw[<-Array.getElem?_toList];exact e2
    refine⟨⟨(Array.getElem?_eq_some_iff.mp g1).1,(Array.getElem?_eq_some_iff.mp g2).1⟩,λz H3 ⟨p',c',d',y0,y1,y2,y3,y4⟩=>?_⟩
    subst y1 y2
    rw[g1]at y3
    rw[g2]at y4
    cases y3
    cases y4
    refine⟨cJ y0,λB hB sb=>.tup (mQ.of ?_) (.cons (.str _) (.cons (.str _) .nil))⟩
    rw[bO λz=>hB _ z y0]
    exact aQ
 ·unfold C4 at hl
  rw[List.length_zipWith]at hl
  show x.cps.size<=i\/y.cps.size<=i
  simp at hl
  omega
theorem HS{p pos:Pos}(ha:DE X κ a fa)(hb:DE X κ b fb)(hm:X.mg "zip" =none)(hg:Gl X "zip" :=by rfl)(hs:starEach [a,b] X.env=[(false,eval a X.env),(false,eval b X.env)]:=by rfl)(oZ:starEach [b] X.env=[(false,eval b X.env)]:=by rfl):
  DI X κ (.Tuple elts x1 tp) (.Call (.Name "zip" p) [a,b] [] pos) (B3 fa fb):=by
 obtain⟨ta,h1,h2⟩:=ha
 obtain⟨tb,h3,h4⟩:=hb
 refine⟨_,HR hg hm (aU h1 (aU h3 cu oZ) (by rw[hs,oZ])) hs oZ,λ{G A bo own ρ σ H ps Q} r e q=>?_⟩
 obtain⟨p1,e1,e2⟩:=Option.bind_eq_some_iff.mp e
 obtain⟨x,e3,e4⟩:=Option.bind_eq_some_iff.mp e2
 obtain⟨p2,e5,e6⟩:=Option.bind_eq_some_iff.mp e4
 obtain⟨y,e7,e8⟩:=Option.bind_eq_some_iff.mp e6
 obtain⟨S3,rfl⟩:=bD e8
 rw[Bool.and_eq_true]at S3
 cases qD e3
 cases qD e7
 refine h2 r e1 λv H1 s1 z1=>h4 (r.mono s1) e5 λw H2 s2 z2=>?_
 cases z1
 cases z2
 exact⟨x,y,rfl,S3.1,S3.2,q _ H2 (s1.trans s2) (C5 x y)⟩
end
noncomputable def n8(P:Params):List DictEntry->List (Str×Int)->Prop
 |[],[]=>True
 |e::es,(k,i)::cp=>(∃t u,e=⟨PyData.keyHash P k,.str k t,.int i u⟩)/\n8 P es cp
 |_,_=>False
theorem n8.lit{P:Params}:∀{es:List DictEntry} {cp:List (Str×Int)},n8 P es cp->PySem.W.KeysLit P es
 |[],[],_=>trivial
 |_::_,(k,i)::_,⟨⟨t,u,e⟩,h⟩=>⟨⟨k,t,by rw[e],by rw[e]⟩,h.lit⟩
theorem n8.find{P:Params}(s:Str):∀{es:List DictEntry} {cp:List (Str×Int)},n8 P es cp->(es.find? (λd=>Value.isStrOf s d.key)=none/\cp.lookup s=none)\/∃e i u,es.find? (λd=>Value.isStrOf s d.key)=some e/\e.val=.int i u/\cp.lookup s=some i
 |[],[],_=>.inl ⟨rfl,rfl⟩
 |e::es,(k,i)::cp,⟨⟨t,u,eq⟩,h⟩=>by
  subst eq
  rw[List.find?_cons,List.lookup_cons]
  have iff:Value.isStrOf s (.str k t)=(s==k):=by
   show(k==s)=(s==k)
   rw[Bool.eq_iff_iff,beq_iff_eq,beq_iff_eq]
   exact eq_comm
  show(match Value.isStrOf s (.str k t)with|true=>_|false=>_)=_/\_\/_
  by_cases hk:s=k
  ·have hb:(s==k)=true:=beq_iff_eq.mpr hk
   rw[hb]at iff
   refine .inr ⟨⟨PyData.keyHash P k,.str k t,.int i u⟩,i,u,?_,rfl,by rw[hb]⟩
   simp only[iff]
  ·have hb:(s==k)=false:=by rw[beq_eq_false_iff_ne];exact hk
   rw[hb]at iff
   simp only[iff,hb]
   exact h.find s
noncomputable def yD(P:Params)(K:PySem.W.Frag)(mg:Str->Option Value)(x:Str)(cp:List (Str×Int)):Prop:=∃(a:Addr) (es:Array DictEntry) (n:Nat),mg x=some (.ref a)/\K.lookup a=some ⟨.type "dict",none,.dict es n,#[]⟩/\n8 P es.toList cp/\(a==sysModules)=false
noncomputable def vY(cp:List (Str×Int))(p:PV):Option PV:=(toS p).map λs=>.bl !(cp.lookup s).isSome
noncomputable def yE(cp:List (Str×Int))(p:PV):Option PV:=(toS p).bind λs=>(cp.lookup s).map PV.int
section
variable{X:Cx}{κ:Kl}{a:Expr}{fa:Den}{pos p0:Pos}{x:Str}{cp:List (Str×Int)}
theorem ES{pins:List (Addr×Obj)}{σ:St}{H:Hp}{s:Shared}{d:Addr}{es:Array DictEntry}{n:Nat}(I:Inv X pins σ H s)(hk:X.K.lookup d=some ⟨.type "dict",none,.dict es n,#[]⟩)(he:n8 X.w.params es.toList cp):s.heap.MapOf (strKind X.prog X.w) d (λk=>findBy Value.isStrOf es k):=PySem.W.mapOf_K I.jC hk he.lit
theorem B4{es:Array DictEntry}{P:Params}(he:n8 P es.toList cp)(s:Str):(findBy Value.isStrOf es s=none/\cp.lookup s=none)\/∃i u,findBy Value.isStrOf es s=some (.int i u)/\cp.lookup s=some i:=by
 unfold findBy
 rw[<-Array.find?_toList]
 rcases he.find s with⟨h1,h2⟩|⟨e,i,u,h1,h2,h3⟩
 ·exact .inl ⟨by rw[h1];rfl,h2⟩
 ·exact .inr ⟨i,u,by rw[h1];show some e.val=_;rw[h2],h3⟩
theorem C6{ty:TE}{d:Addr}{es:Array DictEntry}{n:Nat}(hk:X.K.lookup d=some ⟨.type "dict",none,.dict es n,#[]⟩)(he:n8 X.w.params es.toList cp)(hd:(d==sysModules)=false):mf X (compareOp .NotIn) (λv u H Q=>∃s,v=.str s/\u=.ref d/\Q (.bl !(cp.lookup s).isSome) H):=by
 intro pins s σ H v u uv uu Q I rv ru h
 obtain⟨k,rfl,rfl,q⟩:=h
 obtain⟨t,rfl⟩:=rv
 cases ru
 refine wpAny_notIn_of (strKind_is X.prog X.w k t) hd (ES I hk he) ?_
 have e:(findBy Value.isStrOf es k).isSome=(cp.lookup k).isSome:=by
  rcases B4 he k with⟨h1,h2⟩|⟨i,u,h1,h2⟩<;>rw[h1,h2]<;>rfl
 rw[e]
 exact⟨.bl !(cp.lookup k).isSome,H,I.kept (h':=s.heap) (t':=s.toks+1) (λ_ _ z=>z),rfl,q⟩
theorem C7(D:yD X.w.params X.K X.mg x cp)(ha:DB X κ a fa)(hg:Gl X x:=by rfl)(hx:(x==("__debug__" :Str))=false:=by decide):DC X κ .NotIn a (.Name x p0) (bf (vY cp) fa):=by
 obtain⟨d,es,n,h1,h2,h3,h4⟩:=D
 obtain⟨ta,k1,k2⟩:=ha
 refine⟨_,_,_,C6 (ty:=ta) h2 h3 h4,k1,nP (v:=.ref d) hg h1 rfl hx,λ{G A bo own ρ σ H p Q} r e q=>?_⟩
 obtain⟨p1,e1,e2⟩:=Option.bind_eq_some_iff.mp e
 obtain⟨s,e3,e4⟩:=Option.map_eq_some_iff.mp e2
 cases qD e3
 cases e4
 exact k2 r e1 λv H' s' z=>⟨s,z.str,rfl,q _ H' s' (.bl _)⟩
theorem B5(D:yD X.w.params X.K X.mg x cp)(ha:DB X κ a fa)(hg:Gl X x:=by rfl)(hx:(x==("__debug__" :Str))=false:=by decide)(hs:N5 a:=by intro _ _;rfl):DE X κ (.Subscript (.Name x p0) a pos) (bf (yE cp) fa):=by
 obtain⟨d,es,n,h1,h2,h3,h4⟩:=D
 obtain⟨ta,k1,k2⟩:=ha
 refine⟨λσ H Q=>ta σ H λv H1=>∃s i,v=.str s/\cp.lookup s=some i/\Q (.int i) H1,?_,λ{G A bo own ρ σ H p Q} r e q=>?_⟩
 ·intro pins s σ H Q I h
  refine HE PySem.F.slot_dict_getitem.lookup hs (eh (nP (v:=.ref d) (pos:=p0) hg h1 rfl hx pins s σ H (λv H1=>v=.ref d/\ta σ H1 λv H2=>∃s i,v=.str s/\cp.lookup s=some i/\Q (.int i) H2) I ⟨rfl,h⟩) λu s1 ⟨v,H1,I1,ru,ev,q1⟩=>eh (k1 pins s1 σ H1 _ I1 q1) λiv s2 d7=>?_)
  obtain⟨y,H2,I2,ry,k,i,ey,hk,q2⟩:=d7
  subst ev ey
  cases ru
  obtain⟨t,rfl⟩:=ry
  refine⟨⟨_,I2.jC _ _ h2,rfl⟩,?_⟩
  rcases B4 h3 k with⟨z1,z2⟩|⟨i',u,z1,z2⟩
  ·rw[z2]at hk;cases hk
  ·rw[z2]at hk
   obtain rfl:=Option.some.inj hk
   exact wpAny_getItem_of (strKind_is X.prog X.w k t) (ES I2 h2 h3) z1 ⟨.int i',H2,I2.kept (h':=s2.heap) (t':=s2.toks+1) (λ_ _ z=>z),⟨u,rfl⟩,q2⟩
 ·obtain⟨p1,e1,e2⟩:=Option.bind_eq_some_iff.mp e
  obtain⟨s,e3,e4⟩:=Option.bind_eq_some_iff.mp e2
  obtain⟨i,e5,e6⟩:=Option.map_eq_some_iff.mp e4
  cases qD e3
  cases e6
  exact k2 r e1 λv H' s' z=>⟨s,i,z.str,e5,q _ H' s' (.int _)⟩
end
theorem yF:typeLookup (.type "dict") "__len__" =pure (some (.builtin "dict.__len__")):=PySem.F.slot_dict_len.lookup
section
variable{prog:Program}{w:World}{A:Around}{E:Value->Shared->Prop}{s:Shared}{d S:Addr}{cp:List (Str×Value)}{ep:Nat}
noncomputable abbrev ET(prog:Program)(w:World)(cp:List (Str×Value)):Nat->Value->Prop:=λi v=>∃k x,cp[i]?=some (k,x)/\(strKind prog w).is k v=true
theorem EU{R:Result->Shared->Prop}(hh:A.handled=none)(hd:(d==sysModules)=false)(res:Value)(c0:Nat)(hS:s.heap.get? S=some {cls:=.type "list",data:=.seq #[] c0})(m:s.heap.DictAt (strKind prog w) d cp ep)(ne:S≠d)
  (k:∀h' tk oa c',(∀b o,b≠S->s.heap.get? b=some o->h'.get? b=some o)->h'.get? S=some {cls:=.type "list",dict:=none,data:=.seq oa c',slots:=#[]}->ItemsOf (ET prog w cp) oa cp.length->R (.ok (.ret res)) {s with heap:=h',toks:=tk})(hn:cp.length<=sizeLine):
  wpAny (model prog w) A.in1 (Builtin.List.listExtendWith (.ref S) (.ref d) res) (λfin s'=>match fin with|.done f=>R (.ok f) s'|.again c'=>c'.quiet=true/\codeAny (model prog w) A c' R s') (λe s'=>R (.error e) s') s:=by
 have ty:s.TypeIs (.ref d) "dict" :=m.dictOf.typeIs
 have lS:=Heap.lt_size hS
 obtain⟨o,es,ho,_⟩:=id m
 have ld:=Heap.lt_size ho
 unfold Builtin.List.listExtendWith
 refine wpAny_bind (wpAny_typeOf ty ?_)
 have f1:Builtin.List.listSameRef (.ref S) (.ref d)=false:=by simp[Builtin.List.listSameRef,ne]
 have f2:(Value.type "dict" ==Value.type "list")=false:=by decide
 have f3:(Value.type "dict" ==Value.type "tuple")=false:=by decide
 simp only[f1,f2,f3,Bool.or_false,Bool.false_eq_true,if_false]
 refine wpAny_bind (wpAny_pyIter_dict hd m ?_)
 have up:∀b ob,s.heap.get? b=some ob->(s.heap.push {cls:=.type "dict_keyiterator",data:=.fields #[.ref d,.int 0 0,.int cp.length 0,.int ep 0]}).get? b=some ob:=λb ob e=>Heap.get?_push_of_some _ e
 have st:(s.heap.push {cls:=.type "dict_keyiterator",data:=.fields #[.ref d,.int 0 0,.int cp.length 0,.int ep 0]}).IsKeyIter s.heap.objs.size d 0 cp.length ep:=⟨_,Heap.get?_push_size _ rfl,rfl,rfl⟩
 have m1:=m.at' λob e=>up d ob e
 refine wpAny_bind (wpAny_holding ?_)
 unfold Builtin.List.listLengthHint
 have S4:Shared.TypeIs {s with heap:=s.heap.push {cls:=.type "dict_keyiterator",data:=.fields #[.ref d,.int 0 0,.int cp.length 0,.int ep 0]}} (.ref d) "dict" :=m1.dictOf.typeIs
 refine wpAny_bind (wpAny_specialOf S4 yF ?_)
 wp_delta
 refine wpAny_bind (wpAny_isInstance (b:=true) S4 (by rw[isSubtype_type];kernel_rfl) ?_)
 show wpAny _ _ (typeOf (Value.ref d)>>=_) _ _ _
 refine wpAny_bind (wpAny_typeOf S4 (wpAny_pure ?_))
 rw[if_pos (by decide)]
 have W:=(Walks.dictKeys (prog:=prog) (w:=w) (knd:=strKind prog w) (A:=A.in1) hh s.heap.objs.size d (Nat.ne_of_lt ld) cp ep).toS
 have nf:S∉[s.heap.objs.size,d]:=by
  simp only[List.mem_cons,List.not_mem_nil,or_false]
  exact λz=>z.elim (Nat.ne_of_lt lS) ne
 refine wpAny_bind (wpAny_rule (wpAny_bind ?_))
 show wpAny _ A.in1 (updateSeq S (·.push .none)>>=λ_=>updateSeq S (·.pop)) _ _ _
 refine wpAny_bind (wpAny_updateSeq (up _ _ hS) rfl ?_)
 have g2:=Heap.get?_update_self (Obj.mapSeq (·.push Value.none)) (up _ _ hS) rfl
 refine wpAny_updateSeq (hz:=by seq_fits) g2 rfl ?_
 have g3:=Heap.get?_update_self (Obj.mapSeq (·.pop)) g2 rfl
 generalize hH:((s.heap.push {cls:=.type "dict_keyiterator",data:=.fields #[.ref d,.int 0 0,.int cp.length 0,.int ep 0]}).update S (Obj.mapSeq (·.push Value.none))).update S (Obj.mapSeq (·.pop))=H3 at g3⊢
 have MY:∀b ob,b≠S->(s.heap.push {cls:=.type "dict_keyiterator",data:=.fields #[.ref d,.int 0 0,.int cp.length 0,.int ep 0]}).get? b=some ob->H3.get? b=some ob:=λb ob hb e=>by
  rw[<-hH]
  exact(Heap.get?_update_other _ _ (Ne.symm hb)).trans ((Heap.get?_update_other _ _ (Ne.symm hb)).trans e)
 refine wpAny_pure ⟨plainId_quiet F.plain_extend_loop _,codeAny_extend_loopS W hn _ nf _ cp.length 0 _ _ _ rfl (Nat.zero_le _) ⟨st.at λob e=>MY _ ob (Nat.ne_of_gt lS) e,m1.at' λob e=>MY _ ob ne.symm e⟩ g3 (ItemsOf.nil _) λs' oa c' hm N9 C8=>?_⟩
 rw[Moved.eq_with hm]
 refine k s'.heap s'.toks oa c' (λb ob hb e=>hm.heap b ob (λz=>?_) (MY b ob hb (up b ob e))) N9 C8
 rcases List.mem_cons.mp z with z|z
 ·exact hb z
 ·exact absurd (Heap.lt_size e) (by rw[List.mem_singleton.mp z];exact Nat.lt_irrefl _)
theorem C9{R:Result->Shared->Prop}(hh:A.handled=none)(hd:(d==sysModules)=false)(hS:s.heap.get? S=some {cls:=.type "list",data:=.seq #[]})(m:s.heap.DictAt (strKind prog w) d cp ep)(ne:S≠d)
  (k:∀h' tk oa c',(∀b o,b≠S->s.heap.get? b=some o->h'.get? b=some o)->h'.get? S=some {cls:=.type "list",dict:=none,data:=.seq oa c',slots:=#[]}->ItemsOf (ET prog w cp) oa cp.length->R (.ok (.ret .none)) {s with heap:=h',toks:=tk})(hn:cp.length<=sizeLine):
  wpAny (model prog w) A.in1 (Builtin.«list.__init__» ⟨[.ref S,.ref d],[]⟩) (λfin s'=>match fin with|.done f=>R (.ok f) s'|.again c'=>c'.quiet=true/\codeAny (model prog w) A c' R s') (λe s'=>R (.error e) s') s:=by
 show wpAny _ _ (Builtin.List.listItems (.ref S)>>=λold=>Builtin.List.listUpdate (.ref S) (λ_=>#[])>>=λ_=>letGo old.toList.reverse>>=λ_=>Builtin.List.listExtendWith (.ref S) (.ref d) .none) _ _ s
 refine wpAny_bind ?_
 unfold Builtin.List.listItems
 refine wpAny_bind (wpAny_seqItems hS rfl (wpAny_pure ?_))
 show wpAny _ _ (updateSeq S (λ_=>#[])>>=λ_=>letGo (#[]:Array Value).toList.reverse>>=λ_=>Builtin.List.listExtendWith (.ref S) (.ref d) .none) _ _ s
 refine wpAny_bind (wpAny_updateSeq hS rfl ?_)
 have MY:∀b o,b≠S->s.heap.get? b=some o->(s.heap.update S (Obj.mapSeq (λ_=>(#[]:Array Value)))).get? b=some o:=λb o hb e=>(Heap.get?_update_other _ _ (Ne.symm hb)).trans e
 refine wpAny_bind (wpAny_letGo (EU hh hd .none _ (Heap.get?_update_self (Obj.mapSeq (λ_=>(#[]:Array Value))) hS rfl) (m.at' λo e=>MY d o ne.symm e) ne (λh' tk oa c' hk N9 C8=>?_) hn))
 exact k h' tk oa c' (λb o hb e=>hk b o hb (MY b o hb e)) N9 C8
theorem list_dict{Q:Value->Shared->Prop}(hh:A.handled=none)(hd:(d==sysModules)=false)(m:s.heap.DictAt (strKind prog w) d cp ep)(hn:cp.length<=sizeLine)
  (k:∀h' tk oa c',(∀b o,s.heap.get? b=some o->h'.get? b=some o)->h'.get? s.heap.objs.size=some {cls:=.type "list",dict:=none,data:=.seq oa c',slots:=#[]}->ItemsOf (ET prog w cp) oa cp.length->Q (.ref s.heap.objs.size) {s with heap:=h',toks:=tk}):
  wpAny (model prog w) A (call (.type "list") [.ref d]) Q E s:=by
 obtain⟨o,es,ho,_⟩:=id m
 have ld:=Heap.lt_size ho
 refine callType_codes (Q₁:=λobj s₁=>obj=.ref s.heap.objs.size/\s₁={s with heap:=s.heap.push {cls:=.type "list",data:=.seq #[]}}) F.called_list (F.typeCall_list_1 _) F.entry_list_init (code_list_new _ ⟨rfl,rfl⟩) λobj s₁ h₁=>?_
 obtain⟨rfl,rfl⟩:=h₁
 have hS:(s.heap.push {cls:=.type "list",data:=.seq #[]}).get? s.heap.objs.size=some {cls:=.type "list",data:=.seq #[]}:=Heap.get?_push_size _ rfl
 refine⟨⟨_,hS,rfl⟩,F.args_list_init_2 _ _,C9 (A:=A.in1) hh hd hS (m.at' λo e=>Heap.get?_push_of_some _ e) (Nat.ne_of_gt ld) (λh' tk oa c' hk N9 C8=>?_) hn⟩
 exact⟨rfl,k h' tk oa c' (λb o e=>hk b o (Nat.ne_of_lt (Heap.lt_size e)) (Heap.get?_push_of_some _ e)) N9 C8⟩
end
noncomputable def rC:List DictEntry->List (Str×Int)->List (Str×Value)
 |e::es,(k,_)::cp=>(k,e.val)::rC es cp
 |_,_=>[]
theorem n8.pairs{P:Params}{prog:Program}{w:World}:∀{es:List DictEntry} {cp:List (Str×Int)},n8 P es cp->Pairs (strKind prog w) es (rC es cp)/\(rC es cp).map (·.1)=cp.map (·.1)
 |[],[],_=>⟨.nil,rfl⟩
 |e::es,(k,i)::cp,⟨⟨t,u,eq⟩,h⟩=>by
  obtain⟨a,b⟩:=h.pairs (prog:=prog) (w:=w)
  refine⟨.cons (kv:=(k,e.val)) ?_ rfl a,by show k::_=k::_;rw[b]⟩
  subst eq
  exact strKind_is prog w k t
section
variable{X:Cx}{κ:Kl}{pos p0 p:Pos}{x:Str}{cp:List (Str×Int)}
theorem HU{pins:List (Addr×Obj)}{σ:St}{H:Hp}{s:Shared}{d:Addr}{es:Array DictEntry}{n:Nat}(I:Inv X pins σ H s)(hk:X.K.lookup d=some ⟨.type "dict",none,.dict es n,#[]⟩)(he:n8 X.w.params es.toList cp)(nd:(cp.map (·.1)).Nodup):s.heap.DictAt (strKind X.prog X.w) d (rC es.toList cp) n:=by
 obtain⟨a,b⟩:=he.pairs (prog:=X.prog) (w:=X.w)
 refine⟨_,es,I.jC _ _ hk,⟨rfl,rfl,rfl⟩,rfl,λe hm=>?_,a,by rw[b];exact nd⟩
 obtain⟨k,t,e1,e2⟩:=he.lit.all e (Array.mem_toList_iff.mpr hm)
 exact⟨k,by rw[e1];exact strKind_is X.prog X.w k t,e2⟩
theorem Dc{prog:Program}{w:World}{k:Str}{v:Value}(h:(strKind prog w).is k v=true):∃t,v=.str k t:=by
 have h:Value.isStrOf k v=true:=h
 cases v with
 |str s t=>
  have h:(s==k)=true:=h
  exact⟨t,by rw[beq_iff_eq.mp h]⟩
 |_=>cases h
theorem vh:∀{us:List Value} {ks:List Str},us.length=ks.length->(∀(j:Nat) (v:Value),us[j]?=some v->∃k t,ks[j]?=some k/\v=Value.str k t)->Vals (ks.map V.str) us
 |[],[],_,_=>.nil
 |[],_::_,h,_=>by cases h
 |_::_,[],h,_=>by cases h
 |u::us,k::ks,h,f=>by
  obtain⟨k',t,e1,e2⟩:=f 0 u rfl
  cases e1
  exact .cons ⟨t,e2⟩ (vh (Nat.succ.inj h) λj v e=>f (j+1) v e)
theorem AE{d:Addr}{es:Array DictEntry}{n:Nat}(hc:X.calm=true)(hk:X.K.lookup d=some ⟨.type "dict",none,.dict es n,#[]⟩)(he:n8 X.w.params es.toList cp)(hd:(d==sysModules)=false)(nd:(cp.map (·.1)).Nodup)(hl:cp.length<=1000):
  gX X (.type "list") (λxs H Q=>xs=[.ref d]/\∀l,H l=none->Q (.ref l) (upd H l (.lst ((cp.map (·.1)).map V.str)))):=by
 intro pins s σ H xs us Q I r h
 obtain⟨rfl,q⟩:=h
 obtain⟨u,rfl,rx⟩:=vals1 r
 cases rx
 obtain⟨_,pk⟩:=he.pairs (prog:=X.prog) (w:=X.w)
 have pl:(rC es.toList cp).length=cp.length:=by
  have:=congrArg List.length pk
  simpa using this
 have zl:(1000:Nat)<=sizeLine:=by decide
 refine list_dict (I.ok.hd hc) hd (HU I hk he nd) (by omega) λh' tk acc c kp e hi=>?_
 have hv:Vals ((cp.map (·.1)).map V.str) acc.toList:=by
  refine vh ?_ λj v ej=>?_
  ·rw[Array.length_toList,hi.1,pl,List.length_map]
  ·obtain⟨k,y,e1,e2⟩:=hi.2 j v (by simpa using ej)
   obtain⟨t,e3⟩:=Dc e2
   refine⟨k,t,?_,e3⟩
   rw[<-pk,List.getElem?_map,e1]
   rfl
 refine⟨.ref s.heap.objs.size,_,I.laid (t':=tk) kp (Nat.le_refl _) (show eV X.prog X.w _ h' _ (.lst ((cp.map (·.1)).map V.str))from⟨?_,acc.toList,c,hv,e⟩),rfl,q _ (I.eT.fresh (Nat.le_refl _))⟩
 rw[List.length_map,List.length_map]
 omega
theorem EV(D:yD X.w.params X.K X.mg x cp)(nd:(cp.map (·.1)).Nodup)(hl:cp.length<=1000)(hm:X.mg "list" =none)(hg:Gl X "list" :=by rfl)(Vx:Gl X x:=by rfl)(hx:(x==("__debug__" :Str))=false:=by decide)(hc:X.calm=true:=by rfl)(hs:starEach [.Name x p0] X.env=(false,eval (.Name x p0) X.env)::starEach [] X.env:=by rfl):
  DO X κ (.Call (.Name "list" p) [.Name x p0] [] pos) (dC (.lst ((cp.map (·.1)).map PV.str))):=by
 obtain⟨d,es,n,h1,h2,h3,h4⟩:=D
 refine⟨_,jw (AE hc h2 h3 h4 nd hl) hg hm PyProof.Rows.boot_list (aU (nP (v:=.ref d) Vx h1 rfl hx) cu hs) (he:=hs),λ{G A bo own ρ σ H p Q} r e q=>?_⟩
 cases e
 refine⟨rfl,λD hD=>?_⟩
 refine q _ _ (cJ hD) ?_
 obtain⟨a,ws,l,w1,w2,w3,w4⟩:=r.yl hD (yC (κ:=κ) (cp.map (·.1)))
 refine⟨a,ws,l,w1,w2,?_,w4⟩
 cases w1
 exact hD
end
structure Rg where
 ws:List PV
 sg:Str
noncomputable def kn(c:Nat):List Str:=if c=4 then["words","signs","at"]else MV c
noncomputable def AF(t:Rg)(n:Int):PV:=.ins 4 [.lst t.ws,.str t.sg,.int n]
noncomputable abbrev qo(κ:Kl)(dx:Addr)(vw:V)(t:Rg)(n:Int):HO:=.ins (κ.adr 4) dx [(("words" :Str),vw),(("signs" :Str),.str t.sg),(("at" :Str),.int n)]
noncomputable def A1(A:Addr->Prop)(x:Addr):Addr->Prop:=λb=>A b\/b=x
noncomputable def nL(x:Addr):Addr->Prop:=λb=>b=x
noncomputable def wQ(t:Rg)(n:Int)(ρ:di):di:=ρ.set 0 (.sh (AF t n))
structure RQ(K:PySem.W.Frag)(κ:Kl)(G:Hp)(A:Addr->Prop)(x dx:Addr)(vw:V)(t:Rg)(n:Int)(own:Nat->Addr)(ρ:di)(σ:St)(H:Hp):Prop where
 r:R K κ (upd G x (qo κ dx vw t n)) (A1 A x) (λ_=>none) own ρ σ H
 self:σ[0]?=some (some (.ref x))
 zero:ρ[0]?=some .un
 wsr:Rep K κ (hide (A1 A x) G) vw (.lst t.ws)
 na:¬A x
 gx:G x≠none
section
variable{K:PySem.W.Frag}{κ:Kl}{G H H':Hp}{A:Addr->Prop}{x dx:Addr}{vw:V}{t:Rg}{n n':Int}{own:Nat->Addr}{ρ:di}{σ:St}
theorem RQ.ob(r:RQ K κ G A x dx vw t n own ρ σ H):H x=some (qo κ dx vw t n):=r.r.same x _ aQ
theorem RQ.mono(r:RQ K κ G A x dx vw t n own ρ σ H)(s:aH H H'):RQ K κ G A x dx vw t n own ρ σ H':=⟨r.r.mono s,r.self,r.zero,r.wsr,r.na,r.gx⟩
theorem rD{G:Hp}{x b:Addr}{o:HO}(h:upd G x o b=none):b≠x/\G b=none:=by
 by_cases e:b=x
 ·subst e
  rw[aQ]at h
  cases h
 ·rw[aJ e]at h
  exact⟨e,h⟩
theorem fP{b:Addr}{o:HO}(s:aH (hide (nL x) H) (hide (nL x) H'))(ne:b≠x)(h:H b=some o):H' b=some o:=by
 have e:hide (nL x) H b=some o:=by rw[bO (show¬nL x b from ne)];exact h
 exact(cq (s b o e)).2
theorem RQ.turn(r:RQ K κ G A x dx vw t n own ρ σ H)(s:aH (hide (nL x) H) (hide (nL x) H'))(e:H' x=some (qo κ dx vw t n')):RQ K κ G A x dx vw t n' own ρ σ H':=by
 have sS:aH (cZ (A1 A x) own ρ H) (cZ (A1 A x) own ρ H'):=λb o h=>by
  obtain⟨nb,hb⟩:=cq h
  have ne:b≠x:=λz=>nb (.inl (.inr z))
  rw[cZ,bO nb]
  exact fP s ne hb
 refine⟨⟨λb h=>?_,λi a vs e=>(by cases e),λb o h=>?_,λi p h=>?_,λi l h=>?_,r.r.inj,λi l h=>?_,r.r.len⟩,r.self,r.zero,r.wsr,r.na,r.gx⟩
 ·intro z
  obtain⟨ne,z⟩:=rD z
  have:=r.r.al b h
  rw[aJ ne]at this
  exact this z
 ·by_cases ne:b=x
  ·subst ne
   rw[aQ]at h
   cases h
   exact e
  ·rw[aJ ne]at h
   exact fP s ne (r.r.same b o (by rw[aJ ne];exact h))
 ·obtain⟨v,h1,h2⟩:=r.r.sh i p h
  exact⟨v,h1,h2.mono sS⟩
 ·obtain⟨h1,h2,vs,h3,h4⟩:=r.r.ow i l h
  obtain⟨ne,h2⟩:=rD h2
  exact⟨h1,by rw[aJ ne];exact h2,vs,fP s ne h3,h4.mono sS⟩
 ·obtain⟨a,vs,z,_⟩:=r.r.bw i l h
  cases z
theorem RQ.rd(hf:κ.fld 4=[("words" :Str),("signs" :Str),("at" :Str)])(r:RQ K κ G A x dx vw t n own ρ σ H):R K κ (upd G x (qo κ dx vw t n)) A (λ_=>none) own (wQ t n ρ) σ H:=by
 have h0:0<ρ.length:=(List.getElem?_eq_some_iff.mp r.zero).1
 have at_:∀{i:Nat} {s:Slot},(wQ t n ρ)[i]?=some s->(i=0/\s=.sh (AF t n))\/(i≠0/\ρ[i]?=some s):=λ{i s} e=>by
  unfold wQ at e
  by_cases hi:0=i
  ·subst hi
   rw[List.getElem?_set,if_pos rfl,if_pos h0]at e
   exact .inl ⟨rfl,(Option.some.inj e).symm⟩
  ·rw[List.getElem?_set_ne hi]at e
   exact .inr ⟨Ne.symm hi,e⟩
 have DM:∀{b:Addr},vU own (wQ t n ρ) b->(upd G x (qo κ dx vw t n)) b=none/\vU own ρ b:=λ{b} h=>by
  obtain⟨j,m,h1,h2⟩:=h
  rcases at_ h1 with⟨_,z⟩|⟨_,z⟩
  ·cases z
  ·refine⟨?_,j,m,z,h2⟩
   rw[<-h2]
   exact(r.r.ow j m z).2.1
 have sS:aH (cZ (A1 A x) own ρ H) (cZ A own (wQ t n ρ) H):=cY (λ_ _ z=>z) λb h _=>h.elim (λz=>.inl (.inl z)) λz=>.inr (DM z).2
 refine⟨λb h=>r.r.al b (.inl h),λi a vs e=>(by cases e),r.r.same,λi p h=>?_,λi l h=>?_,λi j l m h1 h2=>?_,λi l h=>?_,?_⟩
 ·rcases at_ h with⟨h1,h2⟩|⟨h1,h2⟩
  ·subst h1
   cases h2
   refine⟨_,r.self,.ins (c:=4) (vs:=[vw,.str t.sg,.int n]) (dx:=dx) ?_ (by rw[hf];rfl) (.cons (r.wsr.mono λb o hb=>?_) (.cons (.str _) (.cons (.int _) .nil)))⟩
   ·rw[cZ,bO λz=>?_,r.ob,hf]
    ·rfl
    ·rcases z with z|z
     ·exact r.na z
     ·have:=(DM z).1
      rw[aQ]at this
      cases this
   ·obtain⟨nb,hb⟩:=cq hb
    have ne:b≠x:=λz=>nb (.inr z)
    have hu:upd G x (qo κ dx vw t n) b=some o:=by rw[aJ ne];exact hb
    rw[cZ,bO λz=>?_]
    ·exact r.r.same b o hu
    ·rcases z with z|z
     ·exact nb (.inl z)
     ·rw[(DM z).1]at hu
      cases hu
  ·obtain⟨v,g1,g2⟩:=r.r.sh i p h2
   exact⟨v,g1,g2.mono sS⟩
 ·rcases at_ h with⟨_,z⟩|⟨_,z⟩
  ·cases z
  ·obtain⟨h1,h2,vs,h3,h4⟩:=r.r.ow i l z
   exact⟨h1,h2,vs,h3,h4.mono sS⟩
 ·rcases at_ h1 with⟨_,z⟩|⟨_,z⟩
  ·cases z
  ·rcases at_ h2 with⟨_,y⟩|⟨_,y⟩
   ·cases y
   ·exact r.r.inj i j l m z y
 ·rcases at_ h with⟨_,z⟩|⟨_,z⟩
  ·cases z
  ·obtain⟨a,vs,y,_⟩:=r.r.bw i l z
   cases y
 ·unfold wQ
  rw[List.length_set]
  exact r.r.len
theorem RQ.set(r:RQ K κ G A x dx vw t n own ρ σ H){i:Nat}(hi:i≠0){v:V}{p:PV}(z:Rep K κ (cZ (A1 A x) own ρ H) v p):RQ K κ G A x dx vw t n own (ρ.set i (.sh p)) (σ.set i (some v)) H:=
 ⟨r.r.set z,by rw[List.getElem?_set_ne hi];exact r.self,by rw[List.getElem?_set_ne hi];exact r.zero,r.wsr,r.na,r.gx⟩
end
noncomputable abbrev dB:=Rg->Int->di->Option (Int×Fl)
noncomputable abbrev iN:=Rg->Int->di->Option (Int×PV)
noncomputable abbrev FQ:=Rg->Int->List PV->Option (Int×PV)
noncomputable def kD:dB:=λ_ n ρ=>some (n,.nx ρ)
noncomputable def jL:dB:=λ_ _ _=>none
noncomputable def fj(a b:dB):dB:=λt n ρ=>(a t n ρ).bind λq=>match q with
 |(m,.nx ρ')=>b t m ρ'
 |(m,.rt p)=>some (m,.rt p)
 |_=>none
noncomputable def rE(i:Nat)(f:Den):dB:=λt n ρ=>(f (wQ t n ρ)).bind λp=>if flat p then some (n,.nx (ρ.set i (.sh p)))else none
noncomputable def AG(f:Den):dB:=λt n ρ=>(f (wQ t n ρ)).bind λp=>(Rh p).map λk=>(n+k,.nx ρ)
noncomputable def AH(c:ef)(a b:dB):dB:=λt n ρ=>(c (wQ t n ρ)).bind λk=>if k then a t n ρ else b t n ρ
noncomputable def yG(f:Den):dB:=λt n ρ=>(f (wQ t n ρ)).bind λp=>if flat p then some (n,.rt p)else none
noncomputable def yH(f:Den):dB:=λ_ n ρ=>(f ρ).map λp=>(n,.rt p)
noncomputable def yI(i:Nat):dB:=λ_ n ρ=>(yg ρ i).map λl=>(n,.rt (.lst l))
noncomputable def i4(c:ef)(body:dB):Nat->dB
 |0=>λ_ _ _=>none
 |k+1=>λt n ρ=>(c (wQ t n ρ)).bind λb=>if b then(body t n ρ).bind λq=>match q with
  |(m,.nx ρ')=>i4 c body k t m ρ'
  |_=>none
  else some (n,.nx ρ)
noncomputable def fL(F:FQ)(as:dq):iN:=λt n ρ=>(as (wQ t n ρ)).bind λps=>if ps.all flat then F t n ps else none
noncomputable def og(g:iN):dB:=λt n ρ=>(g t n ρ).map λq=>(q.1,.nx ρ)
noncomputable def yJ(i:Nat)(g:iN):dB:=λt n ρ=>(g t n ρ).bind λq=>if flat q.2 then some (q.1,.nx (ρ.set i (.sh q.2)))else none
noncomputable def RX(fr:Bool)(K:PySem.W.Frag)(κ:Kl)(S:Addr->Prop)(H H':Hp)(v:V)(p:PV):Prop:=if fr then OR K κ S H H' v p else Rep K κ (hide S H') v p
noncomputable def Oa(K:PySem.W.Frag)(κ:Kl)(fr:Bool)(G:Hp)(A:Addr->Prop)(x dx:Addr)(vw:V)(t:Rg)(D:Ends):Int×Fl->Prop
 |(n,.nx ρ)=>∀own σ H,RQ K κ G A x dx vw t n own ρ σ H->D.nx σ H
 |(n,.rt p)=>∀v H,aH (hide (nL x) G) (hide (nL x) H)->H x=some (qo κ dx vw t n)->RX fr K κ (A1 A x) G H v p->D.rt v H
 |_=>False
noncomputable def Uj(K:PySem.W.Frag)(κ:Kl)(fr:Bool)(ts:TS)(g:dB):Prop:=
 ∀{G A x dx vw t n own ρ σ H q D},RQ K κ G A x dx vw t n own ρ σ H->g t n ρ=some q->Oa K κ fr G A x dx vw t D q->ts D σ H
noncomputable def QS(X:Cx)(κ:Kl)(fr:Bool)(st:Stmt)(g:dB):Prop:=∃ts,PS X st ts/\Uj X.K κ fr ts g
noncomputable def JB(X:Cx)(κ:Kl)(fr:Bool)(st:List Stmt)(g:dB):Prop:=∃ts,Ae X st ts/\Uj X.K κ fr ts g
noncomputable def Vy(K:PySem.W.Frag)(κ:Kl)(fr:Bool)(te:TE)(g:iN):Prop:=
 ∀{G A x dx vw t n own ρ σ H n' p Q},RQ K κ G A x dx vw t n own ρ σ H->g t n ρ=some (n',p)->(∀v H',RQ K κ G A x dx vw t n' own ρ σ H'->aH (hide (nL x) H) (hide (nL x) H')->RX fr K κ (cK (A1 A x) own ρ) H H' v p->Q v H')->te σ H Q
noncomputable def QE(X:Cx)(κ:Kl)(fr:Bool)(e:Expr)(g:iN):Prop:=∃te,PE X e te/\Vy X.K κ fr te g
noncomputable def tO(K:PySem.W.Frag)(κ:Kl)(fr:Bool)(F:FQ):Sp:=λvs H Q _=>∃(A:Addr->Prop) (x dx:Addr) (vw:V) (t:Rg) (n n':Int) (ws:List V) (ps:List PV) (p:PV),vs=.ref x::ws/\(∀b,A b->H b≠none)/\¬A x/\H x=some (qo κ dx vw t n)/\Rep K κ (hide (A1 A x) H) vw (.lst t.ws)/\aS K κ (hide (A1 A x) H) ws ps/\F t n ps=some (n',p)/\
 ∀v H',aH (hide (nL x) H) (hide (nL x) H')->H' x=some (qo κ dx vw t n')->RX fr K κ (A1 A x) H H' v p->Q v H'
structure Cq(K:PySem.W.Frag)(κ:Kl):Prop where
 fld:κ.fld 4=[("words" :Str),("signs" :Str),("at" :Str)]
 cls:tI K (κ.adr 4)
 n3:dn K (κ.adr 4) "at"
section
variable{K:PySem.W.Frag}{κ:Kl}{G H H':Hp}{A:Addr->Prop}{x dx:Addr}{vw:V}{t:Rg}{n n':Int}{own:Nat->Addr}{ρ:di}{σ:St}
theorem qG:A1 (cK A own ρ) x=cK (A1 A x) own ρ:=by
 funext b
 refine propext ⟨?_,?_⟩
 ·rintro((z|z)|z)
  ·exact .inl (.inl z)
  ·exact .inr z
  ·exact .inl (.inr z)
 ·rintro((z|z)|z)
  ·exact .inl (.inl z)
  ·exact .inr z
  ·exact .inl (.inr z)
theorem RQ.ox(r:RQ K κ G A x dx vw t n own ρ σ H):¬vU own ρ x:=by
 rintro⟨j,m,h1,h2⟩
 have:=(r.r.ow j m h1).2.1
 rw[h2,aQ]at this
 cases this
theorem RQ.words(r:RQ K κ G A x dx vw t n own ρ σ H):Rep K κ (cZ (A1 A x) own ρ H) vw (.lst t.ws):=by
 refine r.wsr.mono λb o hb=>?_
 obtain⟨nb,hb⟩:=cq hb
 have ne:b≠x:=λz=>nb (.inr z)
 have hu:upd G x (qo κ dx vw t n) b=some o:=by rw[aJ ne];exact hb
 rw[cZ,bO λz=>?_]
 ·exact r.r.same b o hu
 ·rcases z with z|⟨j,m,h1,h2⟩
  ·exact nb z
  ·have:=(r.r.ow j m h1).2.1
   rw[h2,hu]at this
   cases this
theorem RQ.frame(r:RQ K κ G A x dx vw t n own ρ σ H):aH (hide (nL x) G) (hide (nL x) H):=λb o h=>by
 obtain⟨nb,hb⟩:=cq h
 rw[bO nb]
 exact r.r.same b o (by rw[aJ nb];exact hb)
end
section
variable{X:Cx}{κ:Kl}{fr:Bool}{st:Stmt}{rest body Uk:List Stmt}{g g':dB}{ge:iN}{a b c e kk:Expr}{es:List Expr}{f fk fa:Den}{fs:dq}{ft:ef}{pos p1 p2 p3 sp apos dA:Pos}{y m:Str}{py:Pos}
theorem oh:JB X κ fr [] kD:=⟨_,Bx,λ{G A x dx vw t n own ρ σ H q D} r e k=>by cases e;exact k own σ H r⟩
theorem du(h1:QS X κ fr st g)(h2:JB X κ fr rest g'):JB X κ fr (st::rest) (fj g g'):=by
 obtain⟨t1,a1,a2⟩:=h1
 obtain⟨t2,b1,b2⟩:=h2
 refine⟨_,fX a1 b1,λ{G A x dx vw t n own ρ σ H q D} r e k=>?_⟩
 obtain⟨⟨n1,fl⟩,e1,e2⟩:=Option.bind_eq_some_iff.mp e
 refine a2 r e1 ?_
 cases fl with
 |nx ρ'=>exact λcV σ' H' r'=>b2 r' e2 k
 |rt p=>cases e2;exact k
 |_=>cases e2
theorem fE(h1:QS X κ fr st g):JB X κ fr [st] g:=let⟨_,a1,a2⟩:=h1;⟨_,gE a1,a2⟩
theorem oi:QS X κ fr st jL:=⟨_,DR,λ{G A x dx vw t n own ρ σ H q D} r e k=>by cases e⟩
theorem B6(C:Cq X.K κ)(i:Nat)(hN:X.N.Nodup)(he:DE X κ e f)(hi:X.N[i]?=some y:=by rfl)(JC:i≠0:=by decide)(hx:Loc X.env.scope y:=by first|exact Or.inl rfl|exact Or.inr rfl)(hs:swapsWith e (some (.Name y py)) pos.line X.env=pure false:=by rfl)
  (hf:X.fn y=true\/X.env.scope.names.lookup y=some .local:=by first|exact .inl rfl|exact .inr rfl):QS X κ fr (.Assign [.Name y py] e pos) (rE i f):=by
 obtain⟨te,h1,h2⟩:=he
 refine⟨_,mS hN hi hx h1 hs hf,λ{G A x dx vw t n own ρ σ H q D} r e k=>?_⟩
 obtain⟨p,e1,e2⟩:=Option.bind_eq_some_iff.mp e
 obtain⟨HV,e3⟩:=bD e2
 cases e3
 refine h2 (r.rd C.fld) e1 λv H' s z=>?_
 exact k _ _ _ ((r.mono s).set JC (Rep.flat HV z))
theorem EW(C:Cq X.K κ)(he:DE X κ e f)(h0:X.N[0]?=some ("self" :Str):=by rfl)(hv:xS X.env.scope "self" :=by first|exact Or.inl rfl|exact Or.inr (Or.inl rfl)|exact Or.inr (Or.inr rfl)):QS X κ fr (.AugAssign (.Attribute (.Name "self" p1) "at" p2) .Add e pos) (AG f):=by
 obtain⟨te,h1,h2⟩:=he
 refine⟨_,CJ (en h0 hv) h1 K4,λ{G A x dx vw t n own ρ σ H q D} r e k=>?_⟩
 obtain⟨p,e1,e2⟩:=Option.bind_eq_some_iff.mp e
 obtain⟨j,e3,rfl⟩:=Option.map_eq_some_iff.mp e2
 cases p<;>first|(cases e3;done)|skip
 cases e3
 refine⟨_,r.self,x,_,dx,_,.int n,rfl,r.ob,C.cls,C.n3,rfl,h2 (r.rd C.fld) e1 λv H' s z=>?_⟩
 cases z
 have r1:=r.mono s
 refine⟨n,j,rfl,rfl,dx,_,r1.ob,(show(3:Nat)<1000 by decide),k own σ _ (r1.turn ?_ aQ)⟩
 rw[nW (show nL x x from rfl)]
 exact λ_ _ z=>z
theorem yK(C:Cq X.K κ)(hc:DT X κ c ft)(ha:JB X κ fr body g)(hb:JB X κ fr Uk g'):QS X κ fr (.If c body Uk pos) (AH ft g g'):=by
 obtain⟨tc,h1,h2⟩:=hc
 obtain⟨t1,a1,a2⟩:=ha
 obtain⟨t2,b1,b2⟩:=hb
 refine⟨_,Jg h1 a1 b1,λ{G A x dx vw t n own ρ σ H q D} r e k=>?_⟩
 obtain⟨z,e1,e2⟩:=Option.bind_eq_some_iff.mp e
 refine h2 (r.rd C.fld) e1 λH' s=>?_
 cases z with
 |true=>exact a2 (r.mono s) e2 k
 |false=>exact b2 (r.mono s) e2 k
theorem HW(C:Cq X.K κ)(he:DE X κ e f):QS X κ false (.Return (some e) pos) (yG f):=by
 obtain⟨te,h1,h2⟩:=he
 refine⟨_,mR h1,λ{G A x dx vw t n own ρ σ H q D} r e k=>?_⟩
 obtain⟨p,e1,e2⟩:=Option.bind_eq_some_iff.mp e
 obtain⟨HV,e3⟩:=bD e2
 cases e3
 exact h2 (r.rd C.fld) e1 λv H' s z=>k v H' (r.mono s).frame (r.mono s).ob (Rep.flat HV z)
theorem HY(he:DE X κ e f):QS X κ false (.Return (some e) pos) (yH f):=by
 obtain⟨te,h1,h2⟩:=he
 refine⟨_,mR h1,λ{G A x dx vw t n own ρ σ H q D} r e k=>?_⟩
 obtain⟨p,e1,rfl⟩:=Option.map_eq_some_iff.mp e
 exact h2 r.r e1 λv H' s z=>k v H' (r.mono s).frame (r.mono s).ob (z.mono (cY (λ_ _ q=>q) λb q _=>.inl q))
theorem HZ(i:Nat)(hN:X.N[i]?=some y:=by rfl)(hv:xS X.env.scope y:=by first|exact Or.inl rfl|exact Or.inr (Or.inl rfl)|exact Or.inr (Or.inr rfl))(hd:(y==("__debug__" :Str))=false:=by decide)
  (oU:(y==("__classdict__" :Str))=false:=by decide):QS X κ true (.Return (some (.Name y py)) pos) (yI i):=by
 refine⟨_,mR (en hN hv hd oU),λ{G A x dx vw t n own ρ σ H q D} r e k=>?_⟩
 obtain⟨l,e1,rfl⟩:=Option.map_eq_some_iff.mp e
 obtain⟨h1,h3,vs,h4,h5⟩:=r.r.ow i (.l l) (fO e1)
 change H (own i)=some (.lst vs)at h4
 change aS _ _ _ vs l at h5
 obtain⟨_,h3⟩:=rD h3
 refine⟨_,h1,k _ H r.frame r.ob ?_⟩
 exact⟨own i,vs,l,rfl,rfl,h3,h4,h5.mono (cY (λ_ _ z=>z) λb z _=>by
  rcases z with z|z
  ·exact .inl z
  ·exact .inr ⟨i,.l l,fO e1,z.symm⟩)⟩
theorem EX(C:Cq X.K κ)(n0:Nat)(hc:DT X κ c ft)(hb:JB X κ fr body g)(hp:PassesOwn (model X.prog X.w) X.A X.env X.xe:=by exact PassesOwn.never):QS X κ fr (.While c body [] pos) (i4 ft g n0):=by
 obtain⟨tc,h1,h2⟩:=hc
 obtain⟨tb,h3,h4⟩:=hb
 refine⟨_,xX hp h1 h3,λ{G A x dx vw t n own ρ σ H q D} r e k=>?_⟩
 refine⟨λm σ H=>∃n own ρ,RQ X.K κ G A x dx vw t n own ρ σ H/\i4 ft g m t n ρ=some q,⟨n0,n,own,ρ,r,e⟩,?_⟩
 rintro m σ H ⟨n,own,ρ,r,e⟩
 cases m with
 |zero=>cases e
 |succ m=>
  unfold i4 at e
  obtain⟨c,e1,e2⟩:=Option.bind_eq_some_iff.mp e
  refine h2 (r.rd C.fld) e1 λH1 s1=>?_
  cases c with
  |false=>
   cases e2
   exact k own σ H1 (r.mono s1)
  |true=>
   obtain⟨⟨n1,fl⟩,e3,e4⟩:=Option.bind_eq_some_iff.mp e2
   refine⟨λσ' H'=>∃n own ρ,RQ X.K κ G A x dx vw t n own ρ σ' H'/\i4 ft g m t n ρ=some q,λσ' H' z=>⟨m,Nat.lt_succ_self m,z⟩,?_⟩
   refine h4 (r.mono s1) e3 ?_
   cases fl with
   |nx ρ'=>exact λcV σ' H' r'=>⟨n1,cV,ρ',r',e4⟩
   |_=>cases e4
end
noncomputable def qv(fr:Bool)(n k:Nat)(body:dB):FQ:=λt m ps=>if ps.length+1=k then(body t m (.un::(ps.map Slot.sh++List.replicate (n-k) .un))).bind λq=>match q with
 |(m',.rt p)=>some (m',p)
 |(m',.nx _)=>if fr then none else some (m',.non)
 |_=>none
 else none
theorem oj{α:Type}{c:Prop}[Decidable c]{o:Option α}{z:α}(h:(if c then o else none)=some z):c/\o=some z:=by
 split at h
 ·exact⟨by assumption,h⟩
 ·cases h
theorem yL{K:PySem.W.Frag}{κ:Kl}{H1 H2:Hp}:∀{vs:List V} {l:List PV},l.all flat=true->aS K κ H1 vs l->aS K κ H2 vs l
 |_,_,_,.nil=>.nil
 |_::_,_,h,.cons q1 q2=>by
  rw[List.all_cons,Bool.and_eq_true]at h
  exact .cons (Rep.flat h.1 q1) (yL h.2 q2)
theorem RX.big{fr:Bool}{K:PySem.W.Frag}{κ:Kl}{S:Addr->Prop}{H H1 H2:Hp}{v:V}{p:PV}(s:aH H H1)(z:RX fr K κ S H1 H2 v p):RX fr K κ S H H2 v p:=by
 cases fr with
 |false=>exact z
 |true=>
  obtain⟨a,vs,l,h1,h2,h3,h4,h5⟩:=(show OR K κ S H1 H2 v p from z)
  exact⟨a,vs,l,h1,h2,s.free h3,h4,h5⟩
section
variable{X:Cx}{κ:Kl}{fr:Bool}{e:Expr}{es:List Expr}{fs:dq}{ge:iN}{pos p1 apos dA py:Pos}{y m:Str}
theorem qH{F:FQ}{k:Nat}{fo:Addr}{fd:FuncData}{ps:List Str}{pl:Sem Bool}(C:Cq X.K κ)(hm:Meth X.K (κ.adr 4) m fo)(FO:aL X.prog X.w X.K X.mg X.base cm k fo fd ps (tO X.K κ fr F))(hr:cT k X.A)(hb:Binds X.K fd ps [])(ha:DA X κ (e::es) fs)
  (h0:X.N[0]?=some ("self" :Str):=by rfl)(hv:xS X.env.scope "self" :=by first|exact Or.inl rfl|exact Or.inr (Or.inl rfl)|exact Or.inr (Or.inr rfl))
  (hn:∀u1 u2 u3:V,List.lookup m [(("words" :Str),u1),(("signs" :Str),u2),(("at" :Str),u3)]=none:=by intros;rfl)
  (oV:starEach (e::es) X.env=(false,eval e X.env)::starEach es X.env:=by rfl)(hpl:(backTo dA (starEach es X.env)).any (·.1)=false:=by rfl)
  (ht:eval (.Call (.Attribute (.Name "self" p1) m apos) (e::es) [] dA) X.env=(do
    let ov<-eval (.Name "self" p1) X.env
    standAt apos.atName
    let(f,first)<-holding [ov] (getMethod ov m pl)
    callWith dA f first (backTo dA (starEach (e::es) X.env)) (backToKw dA (keywordEach [] X.env))):=by rfl):QE X κ fr (.Call (.Attribute (.Name "self" p1) m apos) (e::es) [] dA) (fL F fs):=by
 obtain⟨ta,h1,h2⟩:=ha
 refine⟨_,Ha (pl:=pl) (en h0 hv) C.cls hm FO hr hb .nil g0 h1 oV hpl ht,λ{G A x dx vw t n own ρ σ H n' p Q} r e k=>?_⟩
 obtain⟨ps,e1,e2⟩:=Option.bind_eq_some_iff.mp e
 obtain⟨HV,e3⟩:=oj e2
 refine⟨_,r.self,x,dx,_,rfl,r.ob,hn _ _ _,h2 (r.rd C.fld) e1 λvs H1 s z=>?_⟩
 have r1:=r.mono s
 refine⟨cK A own ρ,x,dx,vw,t,n,n',vs,ps,p,by rw[List.append_nil],λb hb=>?_,λz=>z.elim r1.na r1.ox,r1.ob,by rw[qG];exact r1.words,yL HV z,e3,λv H2 s2 o2 z2=>?_⟩
 ·rcases hb with hb|⟨i,l,g1,g2⟩
  ·intro zn
   have:=r1.r.al b (.inl hb)
   exact this (r1.r.same.free zn)
  ·obtain⟨_,_,vs,g3,_⟩:=r1.r.ow i l g1
   rw[<-g2,g3]
   exact λz=>by cases z
 ·rw[qG]at z2
  exact k v H2 (r1.turn s2 o2) ((bC s).trans s2) (z2.big s)
theorem rF{F:FQ}{k:Nat}{fo:Addr}{fd:FuncData}{ps:List Str}{pl:Sem Bool}(C:Cq X.K κ)(hm:Meth X.K (κ.adr 4) m fo)(FO:aL X.prog X.w X.K X.mg X.base cm k fo fd ps (tO X.K κ fr F))(hr:cT k X.A)(hb:Binds X.K fd ps [])
  (h0:X.N[0]?=some ("self" :Str):=by rfl)(hv:xS X.env.scope "self" :=by first|exact Or.inl rfl|exact Or.inr (Or.inl rfl)|exact Or.inr (Or.inr rfl))
  (hn:∀u1 u2 u3:V,List.lookup m [(("words" :Str),u1),(("signs" :Str),u2),(("at" :Str),u3)]=none:=by intros;rfl)
  (ht:eval (.Call (.Attribute (.Name "self" p1) m apos) [] [] dA) X.env=(do
    let ov<-eval (.Name "self" p1) X.env
    standAt apos.atName
    let(f,first)<-holding [ov] (getMethod ov m pl)
    callWith dA f first (backTo dA (starEach [] X.env)) (backToKw dA (keywordEach [] X.env))):=by rfl):QE X κ fr (.Call (.Attribute (.Name "self" p1) m apos) [] [] dA) (fL F aP):=by
 refine⟨_,qX (pl:=pl) (en h0 hv) C.cls hm FO hr hb .nil g0 ht,λ{G A x dx vw t n own ρ σ H n' p Q} r1 e k=>?_⟩
 obtain⟨ps,e1,e2⟩:=Option.bind_eq_some_iff.mp e
 obtain⟨HV,e3⟩:=oj e2
 cases e1
 refine⟨_,r1.self,x,dx,_,rfl,r1.ob,hn _ _ _,?_⟩
 refine⟨cK A own ρ,x,dx,vw,t,n,n',[],[],p,rfl,λb hb=>?_,λz=>z.elim r1.na r1.ox,r1.ob,by rw[qG];exact r1.words,.nil,e3,λv H2 s2 o2 z2=>?_⟩
 ·rcases hb with hb|⟨i,l,g1,g2⟩
  ·intro zn
   have:=r1.r.al b (.inl hb)
   exact this (r1.r.same.free zn)
  ·obtain⟨_,_,vs,g3,_⟩:=r1.r.ow i l g1
   rw[<-g2,g3]
   exact λz=>by cases z
 ·rw[qG]at z2
  exact k v H2 (r1.turn s2 o2) s2 z2
theorem vZ{fe:Bool}(h:QE X κ fe e ge)(hs:swapsWith e none pos.line X.env=pure false:=by rfl):QS X κ fr (.Expr e pos) (og ge):=by
 obtain⟨te,h1,h2⟩:=h
 refine⟨_,iK h1 hs,λ{G A x dx vw t n own ρ σ H q D} r e k=>?_⟩
 obtain⟨⟨n',p⟩,e1,rfl⟩:=Option.map_eq_some_iff.mp e
 exact h2 r e1 λv H' r' _ _=>k own σ H' r'
theorem H9(i:Nat)(hN:X.N.Nodup)(h:QE X κ false e ge)(hi:X.N[i]?=some y:=by rfl)(JC:i≠0:=by decide)(hx:Loc X.env.scope y:=by first|exact Or.inl rfl|exact Or.inr rfl)(hs:swapsWith e (some (.Name y py)) pos.line X.env=pure false:=by rfl)
  (hf:X.fn y=true\/X.env.scope.names.lookup y=some .local:=by first|exact .inl rfl|exact .inr rfl):QS X κ fr (.Assign [.Name y py] e pos) (yJ i ge):=by
 obtain⟨te,h1,h2⟩:=h
 refine⟨_,mS hN hi hx h1 hs hf,λ{G A x dx vw t n own ρ σ H q D} r e k=>?_⟩
 obtain⟨⟨n',p⟩,e1,e2⟩:=Option.bind_eq_some_iff.mp e
 obtain⟨HV,e3⟩:=bD e2
 cases e3
 refine h2 r e1 λv H' r' _ z=>k _ _ _ (r'.set JC ?_)
 exact z
end
section
variable{P:Program}{w:World}{K:PySem.W.Frag}{mg:Str->Option Value}{base:Heap}{κ:Kl}{fr:Bool}
theorem RQ.entry{H:Hp}{N:List Str}{k:Nat}{A:Addr->Prop}{x dx:Addr}{vw:V}{t:Rg}{n:Int}{ws:List V}{ps:List PV}(hk:ps.length+1=k)(al:∀b,A b->H b≠none)(na:¬A x)(ob:H x=some (qo κ dx vw t n))(hw:Rep K κ (hide (A1 A x) H) vw (.lst t.ws))(h:aS K κ (hide (A1 A x) H) ws ps):
  RQ K κ H A x dx vw t n (λ_=>0) (.un::(ps.map Slot.sh++List.replicate (N.length-k) .un)) (start N (.ref x::ws)) H:=by
 have hl:=h.length
 have eu:upd H x (qo κ dx vw t n)=H:=by
  funext b
  by_cases e:b=x
  ·subst e
   rw[aQ,ob]
  ·rw[aJ e]
 have slot:∀{i:Nat} {s:Slot},(.un::(ps.map Slot.sh++List.replicate (N.length-k) .un):di)[i]?=some s->s=.un\/∃p j,s=.sh p/\i=j+1/\ps[j]?=some p:=λ{i s} e=>by
  cases i with
  |zero=>cases e;exact .inl rfl
  |succ i=>
   rw[List.getElem?_cons_succ,List.getElem?_append]at e
   split at e
   ·rw[List.getElem?_map]at e
    obtain⟨q,e1,e2⟩:=Option.map_eq_some_iff.mp e
    exact .inr ⟨q,i,e2.symm,rfl,e1⟩
   ·rw[List.getElem?_replicate]at e
    split at e
    ·cases e;exact .inl rfl
    ·cases e
 have tF:∀{i:Nat} {l:Cn},(.un::(ps.map Slot.sh++List.replicate (N.length-k) .un):di)[i]?≠some (.own l):=λ{i l} e=>by
  rcases slot e with z|⟨_,_,z,_⟩<;>cases z
 have hh:cZ (A1 A x) (λ_=>0) (.un::(ps.map Slot.sh++List.replicate (N.length-k) .un)) H=hide (A1 A x) H:=by
  unfold cZ
  congr 1
  funext b
  refine propext ⟨λz=>z.elim id λ⟨j,m,z,_⟩=>absurd z tF,λz=>.inl z⟩
 refine⟨⟨λb hb=>?_,λi a vs e=>(by cases e),by rw[eu];exact λ_ _ z=>z,λi p e=>?_,λi l e=>absurd e tF,λi j l m e=>absurd e tF,λi l e=>?_,?_⟩,rfl,rfl,hw,na,by rw[ob];exact λz=>by cases z⟩
 ·rw[eu]
  rcases hb with hb|hb
  ·exact al b hb
  ·rw[hb,ob]
   exact λz=>by cases z
 ·rcases slot e with z|⟨q,j,z,rfl,e1⟩
  ·cases z
  ·cases z
   obtain⟨v,h1,h2⟩:=h.get e1
   refine⟨v,?_,by rw[hh];exact h2⟩
   unfold start
   rw[List.map_cons,List.cons_append,List.getElem?_cons_succ,List.getElem?_append_left (by rw[List.length_map];exact(List.getElem?_eq_some_iff.mp h1).1),List.getElem?_map,h1]
   rfl
 ·rcases slot e with z|⟨_,_,z,_⟩<;>cases z
 ·unfold start
  simp only[List.length_append,List.length_map,List.length_cons,List.length_replicate,hl]
  rw[hk]
  omega
theorem yM{x qual:Str}{st:Stmt}{f:Addr}{fd:FuncData}{N ps:List Str}{k:Nat}{g:dB}(F:qt K x qual st f fd)(S:aN N ps (ae st))
  (hb:∀(dY:Value) (A:Around) (outer:List Env) (s:Shared) (H:Hp) (E:XK),cT k (A.deeper (envOfC qual (ae st) s.heap.objs.size f dY))->JB (vI cm P w K mg base N qual (ae st) f dY A outer s H E).DM κ fr (aI st) g):
  aL P w K mg base cm (k+1) f fd ps (tO K κ fr (qv fr N.length ps.length g)):=by
 refine F.ok S (λvs H Q E h=>?_) (λdY A outer s H vs Q E hr h=>?_)
 ·obtain⟨A',x,dx,vw,t,n,n',ws,qs,p,rfl,_,_,_,_,h1,h2,_⟩:=h
  unfold qv at h2
  obtain⟨hk,_⟩:=oj h2
  rw[List.length_cons,h1.length]
  exact hk
 ·obtain⟨A',x,dx,vw,t,n,n',ws,qs,p,rfl,al,na,ob,hw,h1,h2,q⟩:=h
  obtain⟨ts,a1,a2⟩:=hb dY A outer s H E hr
  refine⟨ts,a1,?_⟩
  unfold qv at h2
  obtain⟨hk,h3⟩:=oj h2
  obtain⟨⟨m,fl⟩,e1,e2⟩:=Option.bind_eq_some_iff.mp h3
  refine a2 (RQ.entry hk al na ob hw h1) e1 ?_
  cases fl with
  |nx ρ'=>
   cases fr with
   |true=>cases e2
   |false=>
    cases e2
    exact λcV σ' H' r'=>q .non H' r'.frame r'.ob .non
  |rt p'=>
   cases e2
   exact λv H' s' o' z=>q v H' s' o' z
  |_=>cases e2
end
noncomputable def rG(i:Nat)(g:iN):dB:=λt n ρ=>(g t n ρ).map λq=>(q.1,.nx (ρ.set i (.ow [q.2])))
noncomputable def EY(i:Nat)(g:iN):dB:=λt n ρ=>(yg ρ i).bind λl=>(g t n ρ).bind λq=>if l.length<sizeLine then some (q.1,.nx (ρ.set i (.ow (l++[q.2]))))else none
noncomputable def yN(F:List PV->Option PV)(f:Den)(g:iN):dB:=λt n ρ=>(f (wQ t n ρ)).bind λa=>if flat a then(g t n ρ).bind λq=>(F [a,q.2]).map λp=>(q.1,.rt p)else none
section
variable{X:Cx}{κ:Kl}{fr:Bool}{e a:Expr}{es:List Expr}{fa:Den}{ge:iN}{pos p1 p' apos dA py lp:Pos}{x y:Str}
theorem EZ(i:Nat)(hN:X.N.Nodup)(h:QE X κ false e ge)(hi:X.N[i]?=some y:=by rfl)(JC:i≠0:=by decide)(hx:Loc X.env.scope y:=by first|exact Or.inl rfl|exact Or.inr rfl)(hs:swapsWith (.List [e] lp) (some (.Name y py)) pos.line X.env=pure false:=by rfl)
  (hf:X.fn y=true\/X.env.scope.names.lookup y=some .local:=by first|exact .inl rfl|exact .inr rfl)(oV:starEach [e] X.env=(false,eval e X.env)::starEach [] X.env:=by rfl):QS X κ fr (.Assign [.Name y py] (.List [e] lp) pos) (rG i ge):=by
 obtain⟨te,h1,h2⟩:=h
 refine⟨_,mS hN hi hx (D3 (aU h1 cu oV)) hs hf,λ{G A x dx vw t n own ρ σ H q D} r e k=>?_⟩
 obtain⟨⟨n',p⟩,e1,rfl⟩:=Option.map_eq_some_iff.mp e
 refine h2 r e1 λv H1 r1 s1 z=>⟨(show(1:Nat)<=sizeLine by decide),λb hb=>?_⟩
 obtain⟨cV,r'⟩:=r1.r.Lq (i:=i) (cJ hb) (r1.r.yl hb (.cons (show Rep X.K κ (cZ (A1 A x) own ρ H1) v p from z) .nil))
 exact k cV _ _ ⟨r',by rw[List.getElem?_set_ne JC];exact r1.self,by rw[List.getElem?_set_ne JC];exact r1.zero,r1.wsr,r1.na,r1.gx⟩
theorem LO(i:Nat)(h:QE X κ false e ge)(hN:X.N[i]?=some y:=by rfl)(JC:i≠0:=by decide)(hv:xS X.env.scope y:=by first|exact Or.inl rfl|exact Or.inr (Or.inl rfl)|exact Or.inr (Or.inr rfl))(hd:(y==("__debug__" :Str))=false:=by decide)
  (oU:(y==("__classdict__" :Str))=false:=by decide)(jx:attributeBase (.Name y p') "append" X.env (eval (.Name y p') X.env)=eval (.Name y p') X.env:=by rfl)
  (vO:((backTo dA (starEach [e] X.env)).all (λx=>!x.1)&&(backToKw dA (keywordEach [] X.env)).all (λx=>x.1.isSome)
    &&decide ([e].length+([]:List Keyword).length+(if([]:List Keyword).isEmpty then 0 else 1)<30))=true:=by rfl)
  (hs:swapsWith (.Call (.Attribute (.Name y p') "append" apos) [e] [] dA) none pos.line X.env=pure false:=by rfl)(jy:(apos.endLine==dA.line)=true:=by rfl)(oV:starEach [e] X.env=(false,eval e X.env)::starEach [] X.env:=by rfl):
  QS X κ fr (.Expr (.Call (.Attribute (.Name y p') "append" apos) [e] [] dA) pos) (EY i ge):=by
 obtain⟨te,h1,h2⟩:=h
 refine⟨_,iK (BG PySem.F.plainAttrs_list PySem.F.slot_list_append PySem.F.type_list_append u4 (en hN hv hd oU) (aU h1 cu oV) jx vO jy oV rfl) hs,λ{G A x dx vw t n own ρ σ H q D} r e k=>?_⟩
 obtain⟨l,e3,e4⟩:=Option.bind_eq_some_iff.mp e
 obtain⟨⟨n',p⟩,e1,e5⟩:=Option.bind_eq_some_iff.mp e4
 obtain⟨hl,e6⟩:=oj e5
 cases e6
 have DH:=fO e3
 obtain⟨g1,g3,vs,g4,g5⟩:=r.r.ow i (.l l) DH
 change H (own i)=some (.lst vs)at g4
 refine⟨_,g1,.inl ⟨rfl,vs,mP.of g4⟩,h2 r e1 λv H1 r1 s1 z=>?_⟩
 obtain⟨_,_,NX,g6,g7⟩:=r1.r.ow i (.l l) DH
 change H1 (own i)=some (.lst NX)at g6
 change aS _ _ _ NX l at g7
 obtain⟨cV,r'⟩:=r1.r.mut DH (g7.append (.cons (show Rep X.K κ (cZ (A1 A x) own ρ H1) v p from z) .nil))
 refine⟨own i,NX,_,rfl,rfl,g6,by rw[g7.length];exact hl,k cV σ _ ⟨r',r1.self,by rw[List.getElem?_set_ne JC];exact r1.zero,r1.wsr,r1.na,r1.gx⟩⟩
theorem Ic{F:List PV->Option PV}{k:Nat}{f:Addr}{fd:FuncData}{ps:List Str}(C:Cq X.K κ)(FO:aL X.prog X.w X.K X.mg X.base cm k f fd ps (fK X.K κ false F))(hr:cT k X.A)(hm:X.mg x=some (.ref f))(hk:PySem.W.keepIn X.K (.ref f)=true)(hb:Binds X.K fd ps [])(ha:DE X κ a fa)(h:QE X κ true e ge)(hg:Gl X x:=by rfl)(qq:(x==("__debug__" :Str))=false:=by decide)
  (he:starEach [a,e] X.env=(false,eval a X.env)::starEach [e] X.env:=by rfl)(oV:starEach [e] X.env=(false,eval e X.env)::starEach [] X.env:=by rfl)(hpl:(backTo dA (starEach [e] X.env)).any (·.1)=false:=by rfl):QS X κ false (.Return (some (.Call (.Name x p1) [a,e] [] dA)) pos) (yN F fa ge):=by
 obtain⟨ta,k1,k2⟩:=ha
 obtain⟨te,h1,h2⟩:=h
 refine⟨_,mR (vH FO hr hg hm hk hb .nil g0 (aU k1 (aU h1 cu oV) he) qq he hpl),λ{G A x dx vw t n own ρ σ H q D} r e k=>?_⟩
 obtain⟨p0,e1,e2⟩:=Option.bind_eq_some_iff.mp e
 obtain⟨HV,e3⟩:=oj e2
 obtain⟨⟨n',p2⟩,e4,e5⟩:=Option.bind_eq_some_iff.mp e3
 obtain⟨p,e6,rfl⟩:=Option.map_eq_some_iff.mp e5
 refine k2 (r.rd C.fld) e1 λv0 H0 s0 z0=>h2 (r.mono s0) e4 λv H1 r1 s1 z=>?_
 have zr:Rep X.K κ (cZ (A1 A x) own ρ H1) v p2:=by
  obtain⟨b,vs,l,w1,w2,w3,w4,w5⟩:=(show OR X.K κ (cK (A1 A x) own ρ) H0 H1 v p2 from z)
  subst w1 w2
  refine .lst (SL.of ?_) (w5.mono (cY (λ_ _ q=>q) λc q _=>.inl q))
  rw[cZ,bO λq=>(r.mono s0).r.GU q w3]
  exact w4
 refine⟨cK (A1 A x) own ρ,[p0,p2],p,λb hb=>r1.r.GU hb,.cons (Rep.flat HV z0) (.cons zr .nil),e6,λv' H2 s2 z2=>?_⟩
 have r2:=r1.mono s2
 exact k v' H2 r2.frame r2.ob (z2.mono (cY (λ_ _ q=>q) λb q _=>.inl q))
end
section
variable{K:PySem.W.Frag}{κ:Kl}{G H H':Hp}{A:Addr->Prop}{x:Addr}{own:Nat->Addr}{ρ:di}{σ:St}{o o':HO}
theorem rH(s:aH (hide (nL x) H) (hide (nL x) H')):aH (cZ (A1 A x) own ρ H) (cZ (A1 A x) own ρ H'):=λb u h=>by
 obtain⟨nb,hb⟩:=cq h
 rw[cZ,bO nb]
 exact fP s (λz=>nb (.inl (.inr z))) hb
theorem R.Ob(r:R K κ (upd G x o) (A1 A x) (λ_=>none) own ρ σ H)(s:aH (hide (nL x) H) (hide (nL x) H'))(e:H' x=some o'):R K κ (upd G x o') (A1 A x) (λ_=>none) own ρ σ H':=by
 refine⟨λb h=>?_,λi a vs e=>(by cases e),λb u h=>?_,λi p h=>?_,λi l h=>?_,r.inj,λi l h=>?_,r.len⟩
 ·intro z
  obtain⟨ne,z⟩:=rD z
  have:=r.al b h
  rw[aJ ne]at this
  exact this z
 ·by_cases ne:b=x
  ·subst ne
   rw[aQ]at h
   cases h
   exact e
  ·rw[aJ ne]at h
   exact fP s ne (r.same b u (by rw[aJ ne];exact h))
 ·obtain⟨v,h1,h2⟩:=r.sh i p h
  exact⟨v,h1,h2.mono (rH s)⟩
 ·obtain⟨h1,h2,vs,h3,h4⟩:=r.ow i l h
  obtain⟨ne,h2⟩:=rD h2
  exact⟨h1,by rw[aJ ne];exact h2,vs,fP s ne h3,h4.mono (rH s)⟩
 ·obtain⟨a,vs,z,_⟩:=r.bw i l h
  cases z
theorem E1(h:H x=some o):upd H x o=H:=by
 funext b
 by_cases e:b=x
 ·subst e
  rw[aQ,h]
 ·rw[aJ e]
theorem R.LP{N:List Str}{k:Nat}{ws:List V}{ps:List PV}(hk:ps.length+1=k)(al:∀b,A b->H b≠none)(ob:H x=some o)(h:aS K κ (hide (A1 A x) H) ws ps):
  R K κ (upd H x o) (A1 A x) (λ_=>none) (λ_=>0) (.un::(ps.map Slot.sh++List.replicate (N.length-k) .un)) (start N (.ref x::ws)) H/\cZ (A1 A x) (λ_=>0) (.un::(ps.map Slot.sh++List.replicate (N.length-k) .un))=hide (A1 A x):=by
 have hl:=h.length
 have slot:∀{i:Nat} {s:Slot},(.un::(ps.map Slot.sh++List.replicate (N.length-k) .un):di)[i]?=some s->s=.un\/∃p j,s=.sh p/\i=j+1/\ps[j]?=some p:=λ{i s} e=>by
  cases i with
  |zero=>cases e;exact .inl rfl
  |succ i=>
   rw[List.getElem?_cons_succ,List.getElem?_append]at e
   split at e
   ·rw[List.getElem?_map]at e
    obtain⟨q,e1,e2⟩:=Option.map_eq_some_iff.mp e
    exact .inr ⟨q,i,e2.symm,rfl,e1⟩
   ·rw[List.getElem?_replicate]at e
    split at e
    ·cases e;exact .inl rfl
    ·cases e
 have tF:∀{i:Nat} {l:Cn},(.un::(ps.map Slot.sh++List.replicate (N.length-k) .un):di)[i]?≠some (.own l):=λ{i l} e=>by
  rcases slot e with z|⟨_,_,z,_⟩<;>cases z
 have hh:cZ (A1 A x) (λ_=>0) (.un::(ps.map Slot.sh++List.replicate (N.length-k) .un))=hide (A1 A x):=by
  funext H
  unfold cZ
  congr 1
  funext b
  refine propext ⟨λz=>z.elim id λ⟨j,m,z,_⟩=>absurd z tF,λz=>.inl z⟩
 refine⟨⟨λb hb=>?_,λi a vs e=>(by cases e),by rw[E1 ob];exact λ_ _ z=>z,λi p e=>?_,λi l e=>absurd e tF,λi j l m e=>absurd e tF,λi l e=>?_,?_⟩,hh⟩
 ·rw[E1 ob]
  rcases hb with hb|hb
  ·exact al b hb
  ·rw[hb,ob]
   exact λz=>by cases z
 ·rcases slot e with z|⟨q,j,z,rfl,e1⟩
  ·cases z
  ·cases z
   obtain⟨v,h1,h2⟩:=h.get e1
   refine⟨v,?_,by rw[hh];exact h2⟩
   unfold start
   rw[List.map_cons,List.cons_append,List.getElem?_cons_succ,List.getElem?_append_left (by rw[List.length_map];exact(List.getElem?_eq_some_iff.mp h1).1),List.getElem?_map,h1]
   rfl
 ·rcases slot e with z|⟨_,_,z,_⟩<;>cases z
 ·unfold start
  simp only[List.length_append,List.length_map,List.length_cons,List.length_replicate,hl]
  rw[hk]
  omega
end
noncomputable def vi(n k:Nat)(f1 f2:Den)(ps:List PV):Option Rg:=if ps.length+1=k then(f1 (.un::(ps.map Slot.sh++List.replicate (n-k) .un))).bind λa=>(f2 (.un::(ps.map Slot.sh++List.replicate (n-k) .un))).bind λb=>match a,b with
 |.lst ws,.str s=>some ⟨ws,s⟩
 |_,_=>none
 else none
noncomputable def Ie(K:PySem.W.Frag)(κ:Kl)(F:List PV->Option Rg):Sp:=λvs H Q _=>∃(A:Addr->Prop) (x dx:Addr) (ws:List V) (ps:List PV) (t:Rg),vs=.ref x::ws/\(∀b,A b->H b≠none)/\¬A x/\H x=some (.ins (κ.adr 4) dx [])/\aS K κ (hide (A1 A x) H) ws ps/\F ps=some t/\
 ∀vw H',aH (hide (nL x) H) (hide (nL x) H')->H' x=some (qo κ dx vw t 0)->Rep K κ (hide (A1 A x) H') vw (.lst t.ws)->Q .non H'
structure Ul(K:PySem.W.Frag)(κ:Kl):Prop where
 n1:dn K (κ.adr 4) "words"
 n2:dn K (κ.adr 4) "signs"
noncomputable def Vz(K:PySem.W.Frag)(κ:Kl)(ts:TS)(f1 f2:Den):Prop:=∀{A x dx own ρ σ H l0 s0 D},R K κ (upd H x (.ins (κ.adr 4) dx [])) (A1 A x) (λ_=>none) own ρ σ H->cZ (A1 A x) own ρ=hide (A1 A x)->σ[0]?=some (some (.ref x))->H x=some (.ins (κ.adr 4) dx [])->f1 ρ=some (.lst l0)->f2 ρ=some (.str s0)->
 (∀v σ' H',aH (hide (nL x) H) (hide (nL x) H')->H' x=some (qo κ dx v ⟨l0,s0⟩ 0)->Rep K κ (hide (A1 A x) H') v (.lst l0)->D.nx σ' H')->ts D σ H
noncomputable def QI(X:Cx)(κ:Kl)(VA:List Stmt)(f1 f2:Den):Prop:=∃ts,Ae X VA ts/\Vz X.K κ ts f1 f2
theorem Oc{X:Cx}{κ:Kl}{f1 f2:Den}{e1 e2:Expr}{a1 a2 a4 b1 b2 b4 c1 c2 c4 c5:Pos}{j:Nat}(C:Cq X.K κ)(C2:Ul X.K κ)(d1:DE X κ e1 f1)(d2:DE X κ e2 f2)(h0:X.N[0]?=some ("self" :Str):=by rfl)(hv:xS X.env.scope "self" :=by first|exact Or.inl rfl|exact Or.inr (Or.inl rfl)|exact Or.inr (Or.inr rfl))
  (w1:swapsWith e1 (some (.Attribute (.Name "self" a1) "words" a2)) a4.line X.env=pure false:=by rfl)(w2:swapsWith e2 (some (.Attribute (.Name "self" b1) "signs" b2)) b4.line X.env=pure false:=by rfl)(w3:swapsWith (.Constant (.int 0) j c5) (some (.Attribute (.Name "self" c1) "at" c2)) c4.line X.env=pure false:=by rfl):
  QI X κ [.Assign [.Attribute (.Name "self" a1) "words" a2] e1 a4,.Assign [.Attribute (.Name "self" b1) "signs" b2] e2 b4,.Assign [.Attribute (.Name "self" c1) "at" c2] (.Constant (.int 0) j c5) c4] f1 f2:=by
 obtain⟨t1,p1,q1⟩:=d1
 obtain⟨t2,p2,q2⟩:=d2
 refine⟨_,fX (o7 (en h0 hv) p1 w1) (fX (o7 (en h0 hv) p2 w2) (gE (o7 (en h0 hv) Ai w3))),?_⟩
 intro A x dx own ρ σ H l0 s0 D r hh self ob e3 e4 q
 refine q1 r e3 λv1 H1 s1 z1=>?_
 have r1:=r.mono s1
 have y1:Rep X.K κ (hide (A1 A x) H1) v1 (.lst l0):=by
  have:=z1
  rwa[hh]at this
 refine⟨_,self,x,_,dx,_,rfl,s1 _ _ ob,C.cls,C2.n1,(show(0:Nat)<1000 by decide),?_⟩
 have u1:∀{Hn:Hp} {on:HO},aH (hide (nL x) Hn) (hide (nL x) (upd Hn x on)):=λ{Hn on}=>by
  rw[nW (show nL x x from rfl)]
  exact λ_ _ z=>z
 have r2:=r1.Ob (o':=.ins (κ.adr 4) dx [(("words" :Str),v1)]) u1 aQ
 refine q2 r2 e4 λv2 H2 s2 z2=>?_
 cases z2
 have r3:=r2.mono s2
 have y2:=(y1.mono (hh▸rH (own:=own) (ρ:=ρ) (u1 (on:=.ins (κ.adr 4) dx [(("words" :Str),v1)])))).mono (bC s2)
 refine⟨_,self,x,_,dx,_,rfl,s2 _ _ aQ,C.cls,C2.n2,(show(1:Nat)<1000 by decide),?_⟩
 refine⟨_,self,x,_,dx,_,rfl,aQ,C.cls,C.n3,(show(2:Nat)<1000 by decide),?_⟩
 have sA:aH (hide (nL x) H) (hide (nL x) H1):=bC s1
 have sB:aH (hide (nL x) H1) (hide (nL x) H2):=u1.trans (bC s2)
 refine q v1 σ _ ((sA.trans sB).trans (u1.trans u1)) aQ (y2.mono λb o hb=>?_)
 obtain⟨nb,hb⟩:=cq hb
 have ne:b≠x:=λz=>nb (.inr z)
 rw[bO nb,aJ ne,aJ ne]
 exact hb
section
variable{P:Program}{w:World}{K:PySem.W.Frag}{mg:Str->Option Value}{base:Heap}{κ:Kl}
theorem Dd{x qual:Str}{st:Stmt}{f:Addr}{fd:FuncData}{N ps:List Str}{k:Nat}{f1 f2:Den}(F:qt K x qual st f fd)(S:aN N ps (ae st))
  (hb:∀(dY:Value) (A:Around) (outer:List Env) (s:Shared) (H:Hp) (E:XK),cT k (A.deeper (envOfC qual (ae st) s.heap.objs.size f dY))->QI (vI cm P w K mg base N qual (ae st) f dY A outer s H E).DM κ (aI st) f1 f2):
  aL P w K mg base cm (k+1) f fd ps (Ie K κ (vi N.length ps.length f1 f2)):=by
 refine F.ok S (λvs H Q E h=>?_) (λdY A outer s H vs Q E hr h=>?_)
 ·obtain⟨A',x,dx,ws,qs,t,rfl,_,_,_,h1,h2,_⟩:=h
  unfold vi at h2
  obtain⟨hk,_⟩:=oj h2
  rw[List.length_cons,h1.length]
  exact hk
 ·obtain⟨A',x,dx,ws,qs,t,rfl,al,na,ob,h1,h2,q⟩:=h
  obtain⟨ts,a1,a2⟩:=hb dY A outer s H E hr
  refine⟨ts,a1,?_⟩
  unfold vi at h2
  obtain⟨hk,h3⟩:=oj h2
  obtain⟨pa,e3,h4⟩:=Option.bind_eq_some_iff.mp h3
  obtain⟨pb,e4,h5⟩:=Option.bind_eq_some_iff.mp h4
  cases pa<;>first|(cases h5;done)|skip
  cases pb<;>first|(cases h5;done)|skip
  rename_i l0 s0
  cases h5
  obtain⟨r,hh⟩:=R.LP (N:=N) hk al ob h1
  exact a2 r hh rfl ob e3 e4 λv σ' H' s' o' z=>q v H' s' o' z
end
noncomputable def E2(i j:Nat)(FI:List PV->Option Rg)(FT FE:FQ)(as:dq):aY:=λρ=>if i<ρ.length/\j<ρ.length then(as ρ).bind λps=>(FI ps).bind λt=>(FT t 0 []).bind λq=>(FE t q.1 []).map λ_=>.rt q.2 else none
section
variable{X:Cx}{κ:Kl}{a b:Expr}{fs:dq}{x y z m1 m2:Str}{p pos p1 py pz q1 q2 q3 q4 q5 q6 q7 q8 q9 q0:Pos}
theorem E3{FI:List PV->Option Rg}{FT FE:FQ}{k1 k2 k3:Nat}{f1 f2 f3:Addr}{Um Uo Up:FuncData}{Uq Ur Us:List Str}{Ut Uu:Sem Bool}(C:Cq X.K κ)(i j:Nat)(hN:X.N.Nodup)
  (M:Mk X.K (κ.adr 4) f1)(VB:aL X.prog X.w X.K X.mg X.base cm k1 f1 Um Uq (Ie X.K κ FI))(VC:cT (k1+1) X.A)(S5:X.mg x=some (.ref (κ.adr 4)))(VD:Binds X.K Um Uq [])
  (yv:Meth X.K (κ.adr 4) m1 f2)(VE:aL X.prog X.w X.K X.mg X.base cm k2 f2 Uo Ur (tO X.K κ false FT))(VF:cT k2 X.A)(VG:Binds X.K Uo Ur [])
  (VH:Meth X.K (κ.adr 4) m2 f3)(VI:aL X.prog X.w X.K X.mg X.base cm k3 f3 Up Us (tO X.K κ false FE))(VJ:cT k3 X.A)(VL:Binds X.K Up Us [])(ha:DA X κ [a,b] fs)
  (hi:X.N[i]?=some y:=by rfl)(hj:X.N[j]?=some z:=by rfl)(VM:i≠j:=by decide)(hx:Loc X.env.scope y:=by first|exact Or.inl rfl|exact Or.inr rfl)(VN:Loc X.env.scope z:=by first|exact Or.inl rfl|exact Or.inr rfl)
  (hv:xS X.env.scope y:=by first|exact Or.inl rfl|exact Or.inr (Or.inl rfl)|exact Or.inr (Or.inr rfl))(VO:xS X.env.scope z:=by first|exact Or.inl rfl|exact Or.inr (Or.inl rfl)|exact Or.inr (Or.inr rfl))(hd:(y==("__debug__" :Str))=false:=by decide)(oU:(y==("__classdict__" :Str))=false:=by decide)(VP:(z==("__debug__" :Str))=false:=by decide)(VQ:(z==("__classdict__" :Str))=false:=by decide)
  (hf:X.fn y=true\/X.env.scope.names.lookup y=some .local:=by first|exact .inl rfl|exact .inr rfl)(VR:X.fn z=true\/X.env.scope.names.lookup z=some .local:=by first|exact .inl rfl|exact .inr rfl)
  (hg:Gl X x:=by rfl)(qq:(x==("__debug__" :Str))=false:=by decide)
  (he:starEach [a,b] X.env=(false,eval a X.env)::starEach [b] X.env:=by rfl)(hpl:(backTo pos (starEach [b] X.env)).any (·.1)=false:=by rfl)
  (Rt:swapsWith (.Call (.Name x p) [a,b] [] pos) (some (.Name y py)) p1.line X.env=pure false:=by rfl)
  (MZ:∀u1 u2 u3:V,List.lookup m1 [(("words" :Str),u1),(("signs" :Str),u2),(("at" :Str),u3)]=none:=by intros;rfl)(MP:∀u1 u2 u3:V,List.lookup m2 [(("words" :Str),u1),(("signs" :Str),u2),(("at" :Str),u3)]=none:=by intros;rfl)
  (VS:eval (.Call (.Attribute (.Name y q1) m1 q2) [] [] q3) X.env=(do
    let ov<-eval (.Name y q1) X.env
    standAt q2.atName
    let(f,first)<-holding [ov] (getMethod ov m1 Ut)
    callWith q3 f first (backTo q3 (starEach [] X.env)) (backToKw q3 (keywordEach [] X.env))):=by rfl)
  (VT:eval (.Call (.Attribute (.Name y q5) m2 q6) [] [] q7) X.env=(do
    let ov<-eval (.Name y q5) X.env
    standAt q6.atName
    let(f,first)<-holding [ov] (getMethod ov m2 Uu)
    callWith q7 f first (backTo q7 (starEach [] X.env)) (backToKw q7 (keywordEach [] X.env))):=by rfl)
  (oZ:swapsWith (.Call (.Attribute (.Name y q1) m1 q2) [] [] q3) (some (.Name z pz)) q4.line X.env=pure false:=by rfl)
  (VU:swapsWith (.Call (.Attribute (.Name y q5) m2 q6) [] [] q7) none q8.line X.env=pure false:=by rfl):
  DJ X κ false [.Assign [.Name y py] (.Call (.Name x p) [a,b] [] pos) p1,.Assign [.Name z pz] (.Call (.Attribute (.Name y q1) m1 q2) [] [] q3) q4,.Expr (.Call (.Attribute (.Name y q5) m2 q6) [] [] q7) q8,.Return (some (.Name z q0)) q9] (E2 i j FI FT FE fs):=by
 obtain⟨ta,h1,h2⟩:=ha
 refine⟨_,fX (mS hN hi hx (nS M VB VC hg S5 VD .nil g0 h1 qq he hpl) Rt hf) (fX (mS hN hj VN (qX (pl:=Ut) (en hi hv hd oU) C.cls yv VE VF VG .nil g0 VS) oZ VR) (fX (iK (qX (pl:=Uu) (en hi hv hd oU) C.cls VH VI VJ VL .nil g0 VT) VU) (gE (mR (en hj VO VP VQ))))),λ{G A bo own ρ σ H fl D} r e' q=>?_⟩
 obtain⟨⟨li,lj⟩,e'⟩:=oj e'
 obtain⟨qs,e1,e2⟩:=Option.bind_eq_some_iff.mp e'
 obtain⟨t,e3,e4⟩:=Option.bind_eq_some_iff.mp e2
 obtain⟨⟨n1,pr⟩,e5,e6⟩:=Option.bind_eq_some_iff.mp e4
 obtain⟨⟨n2,pe⟩,e7,rfl⟩:=Option.map_eq_some_iff.mp e6
 refine h2 r e1 λvs H1 s1 z1=>?_
 intro x dx Uv VV Ub
 have r1:=r.mono s1
 rw[List.append_nil]
 generalize MT:upd (upd H1 dx (.own x)) x (.ins (κ.adr 4) dx [])=H2
 have g1:H2 x=some (.ins (κ.adr 4) dx []):=by rw[<-MT];exact aQ
 have g2:∀b o,H1 b=some o->b≠x/\H2 b=some o:=λb o q=>by
  have n1:b≠x:=bI q Uv
  rw[<-MT,aJ n1,aJ (bI q VV)]
  exact⟨n1,q⟩
 have g3:∀b,H2 b=none->H1 b=none:=λb q=>by
  cases z:H1 b with
  |none=>rfl
  |some o=>rw[(g2 b o z).2]at q;cases q
 have nx:¬cK A own ρ x:=λz=>r1.GU z Uv
 refine⟨cK A own ρ,x,dx,vs,qs,t,rfl,λb hb z=>r1.GU hb (g3 b z),nx,g1,z1.mono λb o w=>?_,e3,λvw H3 s3 o3 w3=>⟨rfl,?_⟩⟩
 ·obtain⟨w1,w2⟩:=cq w
  obtain⟨w3,w4⟩:=g2 b o w2
  rw[bO λz=>z.elim w1 w3]
  exact w4
 ·have Uw:∀b,cK A own ρ b->H3 b≠none:=λb hb z=>by
    cases z1:H1 b with
    |none=>exact r1.GU hb z1
    |some o=>
     obtain⟨w1,w2⟩:=g2 b o z1
     rw[fP s3 w1 w2]at z
     cases z
  have si:(σ.set i (some (.ref x)))[i]?=some (some (.ref x)):=by rw[List.getElem?_set,if_pos rfl,if_pos (by rw[r.len];exact li)]
  refine⟨.ref x,si,x,dx,_,rfl,o3,MZ _ _ _,?_⟩
  refine⟨cK A own ρ,x,dx,vw,t,0,n1,[],[],pr,rfl,Uw,nx,o3,w3,.nil,e5,λv H4 s4 o4 w4=>?_⟩
  have VW:∀b,cK A own ρ b->H4 b≠none:=λb hb z=>by
   cases z3:H3 b with
   |none=>exact Uw b hb z3
   |some o=>
    have ne:b≠x:=λq=>nx (q▸hb)
    rw[fP s4 ne z3]at z
    cases z
  have VX:((σ.set i (some (.ref x))).set j (some v))[i]?=some (some (.ref x)):=by rw[List.getElem?_set_ne (Ne.symm VM)];exact si
  have sj:((σ.set i (some (.ref x))).set j (some v))[j]?=some (some v):=by rw[List.getElem?_set,if_pos rfl,if_pos (by rw[List.length_set,r.len];exact lj)]
  refine⟨.ref x,VX,x,dx,_,rfl,o4,MP _ _ _,?_⟩
  have w5:Rep X.K κ (hide (A1 (cK A own ρ) x) H4) vw (.lst t.ws):=w3.mono λb o hb=>by
   obtain⟨nb,hb⟩:=cq hb
   rw[bO nb]
   exact fP s4 (λz=>nb (.inr z)) hb
  refine⟨cK A own ρ,x,dx,vw,t,n1,n2,[],[],pe,rfl,VW,nx,o4,w5,.nil,e7,λv5 H5 s5 o5 w6=>?_⟩
  refine⟨_,sj,q v H5 (λb o hb=>?_) ?_⟩
  ·obtain⟨y1,y2⟩:=g2 b o (r1.same b o hb)
   exact fP s5 y1 (fP s4 y1 (fP s3 y1 y2))
  ·show Rep X.K κ (hide A H5) v pr
   refine(show Rep X.K κ (hide (A1 (cK A own ρ) x) H4) v pr from w4).mono λb o hb=>?_
   obtain⟨nb,hb⟩:=cq hb
   rw[bO λz=>nb (.inl (.inl z))]
   exact fP s5 (λz=>nb (.inr z)) hb
end
end L2.D
namespace L2.D
open PySem PySem.Spec PyProof.Rows PySem.SeqAt
structure km(K:PySem.W.Frag)(mg:Str->Option Value)(κ:Kl)(CR CC fH fA fY fS fC:Addr):Prop where
 fld:κ.fld=kn
 cls:∀c,c<4->tI K (κ.adr c)
 nn:dn K (κ.adr 0) "name"
 nw:∀c,0<c->c<4->dn K (κ.adr c) "wanted"
 np:∀c,0<c->c<4->dn K (κ.adr c) "parts"
 kH:Mk K (κ.adr 0) fH
 kA:Mk K (κ.adr 1) fA
 kY:Mk K (κ.adr 2) fY
 kS:Mk K (κ.adr 3) fS
 gH:mg "Hand" =some (.ref (κ.adr 0))
 gA:mg "All" =some (.ref (κ.adr 1))
 gY:mg "Any" =some (.ref (κ.adr 2))
 gS:mg "Some" =some (.ref (κ.adr 3))
 cf:JA K CC "__init__" fC
 gC:mg "Counting" =some (.ref CC)
 isR:∀c,c<4->LH K (κ.adr c) CR
 gR:mg "Rule" =some (.ref CR)
 rc:tI K (κ.adr 4)
 r1:dn K (κ.adr 4) "words"
 r2:dn K (κ.adr 4) "signs"
 r3:dn K (κ.adr 4) "at"
section
variable{K:PySem.W.Frag}{mg:Str->Option Value}{κ:Kl}{CR CC fH fA fY fS fC:Addr}
theorem De{c:Nat}{f:Str}(h:f∈kn c):(c=4/\(f= "words" \/f= "signs" \/f= "at"))\/f∈MV c:=by
 unfold kn at h
 split at h
 ·exact .inl ⟨by assumption,by simpa using h⟩
 ·exact .inr h
theorem km.ic(C:km K mg κ CR CC fH fA fY fS fC)(f:Str):EG K κ f:=λc h=>by
 rw[C.fld]at h
 rcases De h with⟨rfl,rfl|rfl|rfl⟩|h
 ·exact⟨C.rc,C.r1⟩
 ·exact⟨C.rc,C.r2⟩
 ·exact⟨C.rc,C.r3⟩
 ·rcases EM h with⟨rfl,rfl⟩|⟨h1,h2,rfl|rfl⟩
  ·exact⟨C.cls 0 (by decide),C.nn⟩
  ·exact⟨C.cls c h2,C.nw c h1 h2⟩
  ·exact⟨C.cls c h2,C.np c h1 h2⟩
theorem km.q(C:km K mg κ CR CC fH fA fY fS fC):Cq K κ:=⟨by rw[C.fld];rfl,C.rc,C.r3⟩
theorem km.q2(C:km K mg κ CR CC fH fA fY fS fC):Ul K κ:=⟨C.r1,C.r2⟩
end
theorem dN{X:Cx}{κ:Kl}{pos:Pos}{a:Expr}{fa:Den}{f:Str}(hκ:κ.fld=kn)(hf:EG X.K κ f)(ha:DB X κ a fa)(hb:attributeBase a f X.env (eval a X.env)=eval a X.env:=by rfl):DE X κ (.Attribute a f pos) (bf (gF kn f) fa):=by
 rw[<-hκ]
 exact Lz ha hf hb
noncomputable def pS(F:List PV->Option PV):Nat->List PV->Option PV:=λc=>if c=4 then F else λ_=>none
theorem pT{P:Program}{w:World}{K:PySem.W.Frag}{mg:Str->Option Value}{base:Heap}{κ:Kl}{fr:Bool}{m:Str}{k:Nat}{ps:List Str}{f:Addr}{fd:FuncData}{F:List PV->Option PV}(hc:tI K (κ.adr 4))(hf:κ.fld=kn)(hm:Meth K (κ.adr 4) m f)(FO:aL P w K mg base cm k f fd ps (fK K κ fr F))(hb:Binds K fd ps [])(hn:m∉kn 4:=by decide):cL P w K mg base κ fr m k ps (pS F):=λc xs p e=>by
 unfold pS at e
 split at e
 ·rename_i h
  subst h
  exact⟨f,fd,hc,hm,by rw[hf];exact hn,by unfold pS;rw[if_pos rfl];exact FO,hb⟩
 ·cases e
noncomputable def B7:PV->PV->Option PV
 |.int i,.int j=>some (.int (i+j))
 |_,_=>none
section
variable{X:Cx}{κ:Kl}{fr:Bool}{pos:Pos}{a e:Expr}{fa f:Den}
theorem yO(i:Nat){x:Str}{p':Pos}(hN:X.N.Nodup)(he:DB X κ e f)(hi:X.N[i]?=some x:=by rfl)(hx:Loc X.env.scope x:=by first|exact Or.inl rfl|exact Or.inr rfl)
  (hf:X.fn x=true\/X.env.scope.names.lookup x=some .local:=by first|exact .inl rfl|exact .inr rfl):DS X κ fr (.AugAssign (.Name x p') .Add e pos) (cU i (ag B7 (dV i) f)):=by
 obtain⟨te,h1,h2⟩:=he
 refine⟨_,KJ hN hi hx h1 G3 hf,λ{G A bo own ρ σ H fl D} r e k=>?_⟩
 obtain⟨p,e1,rfl⟩:=Option.map_eq_some_iff.mp e
 obtain⟨p1,e2,e3⟩:=Option.bind_eq_some_iff.mp e1
 obtain⟨p2,e4,e5⟩:=Option.bind_eq_some_iff.mp e3
 unfold dV at e2
 obtain⟨s,e6,e7⟩:=Option.bind_eq_some_iff.mp e2
 cases p1<;>first|(cases e5;done)|skip
 cases p2<;>first|(cases e5;done)|skip
 cases e5
 cases s with
 |un=>cases e7
 |own l=>cases l<;>cases e7
 |bw l=>cases e7
 |sh p'=>
  cases e7
  obtain⟨v,h3,h4⟩:=r.sh i _ e6
  cases h4
  refine⟨_,h3,h2 r e4 λv2 H1 s1 z1=>?_⟩
  exact⟨_,_,rfl,z1.int,k _ _ _ ((r.mono s1).set (.int _))⟩
end
end L2.D
namespace L2.D
theorem S6{n:Nat}(h:n<=100000):yf (n:Int)=true:=by
 unfold yf
 simp
 omega
end L2.D
namespace L2.D
open PySem
theorem vj:∀xs:List Int,rh (xs.map PV.int)=some xs
 |[]=>rfl
 |x::xs=>by
  rw[List.map_cons]
  unfold rh
  rw[vj xs]
  rfl
noncomputable abbrev rJ(l:List Nat):PV:=.lst (l.map λ(n:Nat)=>PV.int (n:Int))
theorem v3(g:tx)(body:aY)(x:PV)(xs:List PV)(ρ:di):forL g body (x::xs) ρ=(g x ρ).bind λρ1=>(body ρ1).bind λf=>match f with
 |.nx ρ'=>forL g body xs ρ'
 |.ct ρ'=>forL g body xs ρ'
 |.bk ρ'=>some (.nx ρ')
 |.rt p=>some (.rt p):=rfl
end L2.D
namespace L2.D.Sh
open PySem
noncomputable def i5:aY:=(ba (jD (tV (ag GS (dV 1) (bf eg (dV 0)))) (bZ (ag lP (dV 0) (dV 1))) cI) (bZ (dC (.int 0))))
noncomputable def gG(aV:List PV->Option PV):aY:=(jD (nQ (tV (cx aV (af (ag lP (dV 0) (dV 2)) (af (ag lP (dV 1) (dV 2)) aP))))) (bZ (dC (.bl false))) cI)
noncomputable def mW(aV:List PV->Option PV):aY:=(ba (jD (xU (tV (bf (lQ 4) (dV 1))) (tV (bf (lQ 3) (dV 1)))) (ba (jD (xU (tV (ag l8 (bf (lQ 4) (dV 0)) (bf (lQ 4) (dV 1)))) (tV (ag l8 (bf (lQ 3) (dV 0)) (bf (lQ 3) (dV 1))))) (bZ (dC (.bl false))) cI) (ba (jD (tV (ag l8 (bf eg (dV 0)) (bf eg (dV 1)))) (bZ (dC (.bl false))) cI) (ba (rg (mi (bf eg (dV 1))) (b0 2) (gG aV)) (bZ (dC (.bl true)))))) cI) (ba (jD (tV (bf (lQ 1) (dV 1))) (bZ (jz (bf (lQ 1) (dV 0)) (ag oW (dV 0) (dV 1)))) cI) (ba (jD (tV (bf (lQ 0) (dV 1))) (bZ (jz (bf (lQ 0) (dV 0)) (jz (Eh (bf (lQ 1) (dV 0))) (ag oW (dV 0) (dV 1))))) cI) (ba (jD (tV (bf (lQ 2) (dV 1))) (bZ (jz (bf (lQ 2) (dV 0)) (ag oW (dV 0) (dV 1)))) cI) (bZ (jz (bf yc (dV 1)) (bf yc (dV 0))))))))
end L2.D.Sh
namespace L2.D
open PySem
noncomputable abbrev VY:=fn false 2 2 Sh.i5
theorem E4{it:dq}{c:ef}{e:Den}{ρ:di}{xs zs:List PV}(h1:it ρ=some xs)(h2:xs.length<=sizeLine)(h3:mj c e ρ xs=some zs):dZ it c e ρ=some (.lst zs):=by
 unfold dZ
 rw[h1]
 show(if xs.length<=sizeLine then _ else none)=_
 rw[if_pos h2,h3]
 rfl
theorem lX{it:dq}{g:tx}{body:aY}{ρ:di}{xs:List PV}(h:it ρ=some xs):rg it g body ρ=forL g body xs ρ:=by
 unfold rg
 rw[h]
 rfl
theorem yP{a:Den}{ρ:di}{l:List PV}(h:a ρ=some (.lst l)):nList a ρ=some l:=by
 unfold nList
 rw[h]
 rfl
theorem aB{a b:aY}{ρ ρ':di}(h:a ρ=some (.nx ρ')):ba a b ρ=b ρ':=by
 unfold ba
 rw[h]
 rfl
theorem lZ{a b:aY}{ρ:di}{p:PV}(h:a ρ=some (.rt p)):ba a b ρ=some (.rt p):=by
 unfold ba
 rw[h]
 rfl
theorem iO{t:ef}{a b:aY}{ρ:di}(h:t ρ=some true):jD t a b ρ=a ρ:=by
 unfold jD
 rw[h]
 rfl
theorem eZ{t:ef}{a b:aY}{ρ:di}(h:t ρ=some false):jD t a b ρ=b ρ:=by
 unfold jD
 rw[h]
 rfl
theorem a9{i:Nat}{a:Den}{ρ:di}{p:PV}(h:a ρ=some p):cU i a ρ=some (.nx (ρ.set i (.sh p))):=by
 unfold cU
 rw[h]
 rfl
theorem kE{i:Nat}{a:Den}{ρ:di}{l:List PV}(h:a ρ=some (.lst l)):nV i a ρ=some (.nx (ρ.set i (.ow l))):=by
 unfold nV
 rw[h]
 rfl
theorem fF{a:Den}{ρ:di}{p:PV}(h:a ρ=some p):bZ a ρ=some (.rt p):=by
 unfold bZ
 rw[h]
 rfl
theorem bU{F:List PV->Option PV}{as:dq}{ρ:di}{ps:List PV}(h:as ρ=some ps):cx F as ρ=F ps:=by
 unfold cx
 rw[h]
 rfl
theorem bQ{a:Den}{ρ:di}{b:Bool}(h:a ρ=some (.bl b)):tV a ρ=some b:=by
 unfold tV
 rw[h]
 rfl
theorem jM{t:ef}{ρ:di}{b:Bool}(h:t ρ=some b):nQ t ρ=some (!b):=by
 unfold nQ
 rw[h]
 rfl
theorem kl{a b:ef}{ρ:di}(h:a ρ=some false):xU a b ρ=b ρ:=by
 unfold xU
 rw[h]
 rfl
theorem B8{a b:ef}{ρ:di}(h:a ρ=some true):xU a b ρ=some true:=by
 unfold xU
 rw[h]
 rfl
theorem aj{g:PV->PV->Option PV}{a b:Den}{ρ:di}{x y:PV}(h1:a ρ=some x)(h2:b ρ=some y):ag g a b ρ=g x y:=by
 unfold ag
 rw[h1]
 show(b ρ).bind _=_
 rw[h2]
 rfl
theorem b5{g:PV->Option PV}{a:Den}{ρ:di}{x:PV}(h1:a ρ=some x):bf g a ρ=g x:=by
 unfold bf
 rw[h1]
 rfl
theorem E5{a:Den}{ρ:di}{j:Int}(h1:a ρ=some (.int j))(h2:yf j=true):mi a ρ=some (jI 0 j.toNat):=by
 unfold mi
 rw[h1]
 simp only[Option.bind_some,Rh]
 rw[if_pos h2]
theorem Ig(i j:Int):oW (.int i) (.int j)=some (.bl (decide (i=j))):=rfl
theorem Ih(i j:Int):l8 (.int i) (.int j)=some (.bl (!decide (i=j))):=rfl
theorem fZ{fr:Bool}{n k:Nat}{body:aY}{ps:List PV}{p:PV}(h:ps.length=k)(e:body (iZ n ps)=some (.rt p)):fn fr n k body ps=some p:=by
 unfold fn
 rw[if_pos h,e]
 rfl
theorem v7(ns:List Int)(k:Nat):VY [.lst (ns.map PV.int),.int k]=some (.int (ns.getD k 0)):=by
 have t:tV (ag GS (dV 1) (bf eg (dV 0))) [.sh (.lst (ns.map PV.int)),.sh (.int k)]=some (decide (k<ns.length)):=by
  refine bQ ((aj (x:=.int k) (y:=.int ((ns.map PV.int).length:Nat)) rfl rfl).trans ?_)
  show some (PV.bl (decide ((k:Int)<(((ns.map PV.int).length:Nat):Int))))=_
  rw[List.length_map]
  congr 2
  rw[decide_eq_decide]
  omega
 by_cases h:k<ns.length
 ·rw[decide_eq_true h]at t
  have e:itemAt (ns.map PV.int) (k:Int)=some (.int (ns.getD k 0)):=by simp[itemAt,MU,h]
  exact fZ rfl (lZ ((iO t).trans (fF ((aj (x:=.lst (ns.map PV.int)) (y:=.int k) rfl rfl).trans e))))
 ·rw[decide_eq_false h]at t
  have h2:ns.getD k 0=0:=by
   rw[List.getD_eq_getElem?_getD,List.getElem?_eq_none (by omega)]
   rfl
  rw[h2]
  exact fZ rfl ((aB ((eZ t).trans rfl)).trans (fF rfl))
theorem fQ{fr:Bool}{n k:Nat}{f:Den}{ps:List PV}{p:PV}(h:ps.length=k)(e:f (iZ n ps)=some p):fn fr n k (bZ f) ps=some p:=by
 unfold fn
 rw[if_pos h]
 unfold bZ
 rw[e]
 rfl
noncomputable abbrev pl(l:List Nat):List PV:=l.map λ(n:Nat)=>PV.int (n:Int)
theorem E6(l:List Nat):rh (pl l)=some (l.map λ(n:Nat)=>(n:Int)):=by
 have:pl l=(l.map λ(n:Nat)=>(n:Int)).map PV.int:=by
  rw[List.map_map]
  rfl
 rw[this,vj]
theorem LQ{l:List Nat}{x:PV}(h:x∈pl l):∃n∈l,x=.int (n:Nat):=by
 obtain⟨n,hn,rfl⟩:=List.mem_map.mp h
 exact⟨n,hn,rfl⟩
theorem vk{i:Nat}{body:aY}:∀(xs:List PV) (ρ:di),(∀x∈xs,body (ρ.set i (.sh x))=some (.nx (ρ.set i (.sh x))))->∃s,forL (b0 i) body xs ρ=some (.nx (ρ.set i s))
 |[],ρ,_=>by
  by_cases h:i<ρ.length
  ·exact⟨ρ[i],by rw[List.set_getElem_self];rfl⟩
  ·exact⟨.un,by rw[List.set_eq_of_length_le (by omega)];rfl⟩
 |x::xs,ρ,h=>by
  obtain⟨s,e⟩:=vk xs (ρ.set i (.sh x)) (λy hy=>by
   rw[List.set_set]
   exact h y (List.mem_cons_of_mem _ hy))
  refine⟨s,?_⟩
  rw[v3]
  show((body (ρ.set i (.sh x))).bind _)=_
  rw[h x (List.mem_cons_self ..)]
  show forL (b0 i) body xs (ρ.set i (.sh x))=_
  rw[e,List.set_set]
theorem E7{α β:Type}(f:α->β)(l:List α)(lo hi:Option Int):ky (l.map f) lo hi=(ky l lo hi).map f:=by
 unfold ky
 rw[List.length_map,<-List.map_drop,<-List.map_take]
noncomputable abbrev oX(ns:List Int):PV:=.lst (ns.map PV.int)
theorem B9(a b:Nat):oW (.int a) (.int b)=some (.bl (decide (a=b))):=by
 rw[Ig]
 congr 2
 rw[decide_eq_decide]
 omega
theorem Ii(a b:Nat):l8 (.int a) (.int b)=some (.bl (!decide (a=b))):=by
 rw[Ih]
 congr 3
 rw[decide_eq_decide]
 omega
theorem et(x:Int){n:Nat}(h:0<n):da (.int x) (.int n)=some (.int (((x %(n:Int)).toNat:Nat):Int)):=by
 show(if decide (0<(n:Int))then some (PV.int (x %(n:Int)))else none)=_
 rw[if_pos (decide_eq_true (by omega))]
 have:=Int.emod_nonneg x (show(n:Int)≠0 by omega)
 congr 2
 omega
theorem mod_lt(x:Int){n:Nat}(h:0<n):(x %(n:Int)).toNat<n:=by
 have:=Int.emod_lt_of_pos x (show(0:Int)<n by omega)
 omega
theorem AI(n:Nat):jI 0 n=pl (List.range n):=by
 unfold jI
 refine List.map_congr_left λk _=>?_
 rw[Int.zero_add]
theorem om{a:Den}{ρ:di}{n:Nat}(h:a ρ=some (.int n))(hn:n<=100000):mi a ρ=some (pl (List.range n)):=by
 rw[E5 h (S6 hn),Int.toNat_natCast,AI]
theorem E8{t:ef}{body:aY}{n:Nat}{ρ:di}(h:t ρ=some false):fM t body (n+1) ρ=some (.nx ρ):=by
 unfold fM
 rw[h]
 rfl
theorem E9{t:ef}{body:aY}{n:Nat}{ρ ρ':di}(h:t ρ=some true)(hb:body ρ=some (.nx ρ')):fM t body (n+1) ρ=fM t body n ρ':=by
 conv=>lhs;unfold fM
 rw[h]
 show(body ρ).bind _=_
 rw[hb]
 rfl
theorem ay{a:Den}{as:dq}{ρ:di}{x:PV}{xs:List PV}(h1:a ρ=some x)(h2:as ρ=some xs):af a as ρ=some (x::xs):=by
 unfold af
 rw[h1,h2]
 rfl
theorem Ij{as:dq}{ρ:di}{xs:List PV}(h:as ρ=some xs)(hl:xs.length<=5000):Av as ρ=some (.lst xs):=by
 have zl:(5000:Nat)<=sizeLine:=by decide
 unfold Av
 rw[h]
 show(if xs.length<=sizeLine then some (PV.lst xs)else none)=_
 rw[if_pos (by omega)]
theorem same_int{F:List PV->Option PV}(a:Nat):fn false 3 2 (Sh.mW F) [.int a,.int a]=some (.bl true):=by
 refine fZ rfl ?_
 refine(aB (eZ ((kl (bQ rfl)).trans (bQ rfl)))).trans ?_
 refine(aB (eZ (bQ rfl))).trans ?_
 refine lZ ((iO (bQ rfl)).trans (fF ?_))
 show ag oW (dV 0) (dV 1) [.sh (.int a),.sh (.int a),.un]=_
 refine(aj (x:=.int a) (y:=.int a) rfl rfl).trans ?_
 rw[B9,decide_eq_true rfl]
theorem Ik{a b:Den}{ρ:di}(h:a ρ=some (.bl true)):jz a b ρ=b ρ:=by
 unfold jz
 rw[h]
 rfl
theorem cz(a b:Str):(a++b).length=a.length+b.length:=by
 show(a.cps++b.cps).size=_
 rw[Array.size_append]
 rfl
theorem pC(a b c:Str):(a++b)++c=a++(b++c):=by
 show Str.mk ((a.cps++b.cps)++c.cps)=Str.mk (a.cps++(b.cps++c.cps))
 rw[Array.append_assoc]
theorem JD{α β:Type}(f:α->Option β):∀l:List α,(l.filterMap f).length<=l.length
 |[]=>Nat.le_refl _
 |x::l=>by
  have:=JD f l
  rw[List.filterMap_cons]
  split
  ·rw[List.length_cons];omega
  ·rw[List.length_cons,List.length_cons];omega
theorem pD(x:Str)(lo hi:Option Int){st:Int}(h0:st≠0):(bY x lo hi st).length<=x.length:=by
 unfold bY
 split
 ·exact Nat.le_refl _
 ·show((Builtin.Str.strSliceIndices lo hi st x.length).filterMap (x.cps[·]?)).toArray.size<=_
  rw[List.size_toArray]
  have h1:=JD (x.cps[·]?) (Builtin.Str.strSliceIndices lo hi st x.length)
  have h2:=sliceIndicesBy_le lo hi st h0 x.length
  omega
theorem Fb{α β:Type}(f:α->Option β):∀l:List α,(∀x∈l,(f x).isSome=true)->(l.filterMap f).length=l.length
 |[],_=>rfl
 |x::l,h=>by
  have ih:=Fb f l λy hy=>h y (List.mem_cons_of_mem _ hy)
  obtain⟨z,hz⟩:=Option.isSome_iff_exists.mp (h x (List.mem_cons_self ..))
  rw[List.filterMap_cons,hz,List.length_cons,List.length_cons,ih]
theorem v8(x:Str)(n:Nat)(h:n<=x.length):(bY x none (some (n:Int)) 1).length=n:=by
 have e:Builtin.Str.strSliceIndices none (some (n:Int)) 1 x.length=(List.range n).map (0+·):=by
  have:=PySem.sliceRange_one 0 n
  rw[Nat.sub_zero]at this
  rw[<-this]
  unfold Builtin.Str.strSliceIndices
  simp only
  congr 1
  rw[if_pos (by decide),if_neg (by omega)]
  omega
 unfold bY
 rw[e]
 split
 ·rename_i hh
  rw[Bool.and_eq_true,beq_iff_eq,beq_iff_eq,List.length_map,List.length_range]at hh
  omega
 ·show(((List.range n).map (0+·)).filterMap (x.cps[·]?)).toArray.size=n
  rw[List.size_toArray,Fb,List.length_map,List.length_range]
  intro i hi
  obtain⟨k,hk,rfl⟩:=List.mem_map.mp hi
  have:=List.mem_range.mp hk
  have hl:0+k<x.cps.size:=by
   have:x.cps.size=x.length:=rfl
   omega
  have RL:k<x.cps.size:=by omega
  simp[RL]
noncomputable def md:Str:= "abcdefghijklmnopqrstuvwxyz"
theorem Fd:md.length=26:=by decide+kernel
theorem LR{x:Str}{i:Nat}(h:i<x.length)(hx:x.length<=5000):∃y:Str,y.length=1/\lP (.str x) (.int i)=some (.str y):=by
 have zl:(5000:Nat)<=sizeLine:=by decide
 have hl:i<x.cps.toList.length:=by
  rw[Array.length_toList]
  exact h
 have:itemAt x.cps.toList (i:Int)=some (x.cps.toList[i]'hl):=by
  unfold itemAt MU
  rw[if_pos (by omega),if_pos (by omega)]
  show x.cps.toList[(i:Int).toNat]?=_
  rw[Int.toNat_natCast,List.getElem?_eq_getElem hl]
 refine⟨⟨#[x.cps.toList[i]'hl]⟩,rfl,?_⟩
 show(if x.length<=sizeLine then(itemAt x.cps.toList (i:Int)).map (λc=>PV.str ⟨#[c]⟩)else none)=_
 rw[if_pos (by omega),this]
 rfl
theorem cy(a b:Str)(h:a.length+b.length<=100000):bF (.str a) (.str b)=some (.str (a++b)):=by
 have zl:(100000:Nat)<=sizeLine:=by decide
 show(if a.length+b.length<=sizeLine then some (PV.str (a++b))else none)=_
 rw[if_pos (by omega)]
theorem ie{A:Den}{lo hi:vS}{ρ:di}{y:Str}{l h:Option Int}(hA:A ρ=some (.str y))(hl:lo ρ=some l)(hh:hi ρ=some h)(hy:y.length<=100000):jJ A lo hi ρ=some (.str (bY y l h 1)):=by
 have zl:(100000:Nat)<=sizeLine:=by decide
 unfold jJ
 rw[hA,hl,hh]
 show(if y.length<=sizeLine then some (PV.str (bY y l h 1))else none)=_
 rw[if_pos (by omega)]
theorem gV{a b:Int}(h1:-100000000000<=a)(h2:a<=100000000000):pd (.int a) (.int b)=some (.int (a*b)):=by
 have:yb a b=true:=by
  unfold yb
  rw[Bool.or_eq_true,Bool.and_eq_true]
  exact .inl ⟨decide_eq_true (by omega),decide_eq_true (by omega)⟩
 show(if yb a b then some (PV.int (a*b))else none)=_
 rw[if_pos this]
theorem kG(a:Int){n:Int}(h:0<n):da (.int a) (.int n)=some (.int (a % n)):=by
 show(if decide (0<n)then some (PV.int (a % n))else none)=_
 rw[if_pos (decide_eq_true h)]
structure It where
 o:PV
 s:PV
 t:Str
 d:Nat
noncomputable def It.p(i:It):PV:=.tup [i.o,i.s,.str i.t,.int (i.d:Nat)]
noncomputable def wt(l:List It):Nat:=(l.map λi=>i.t.length+2).sum
theorem rK(l m:List It):wt (l++m)=wt l+wt m:=by
 unfold wt
 rw[List.map_append,List.sum_append]
theorem rL(i:It):wt [i]=i.t.length+2:=by
 unfold wt
 simp
theorem Il(i:It)(l:List It):wt (i::l)=i.t.length+2+wt l:=by
 unfold wt
 rw[List.map_cons,List.sum_cons]
theorem yQ{α:Type}{e:Den}{ρ:di}(v f:α->PV):∀(xs:List α),(∀x∈xs,e (.sh (v x)::ρ)=some (f x))->mj dr e ρ (xs.map v)=some (xs.map f)
 |[],_=>rfl
 |x::xs,h=>by
  have ih:=yQ v f xs λy hy=>h y (List.mem_cons_of_mem _ hy)
  show((some true).bind λb=>if b then(e (.sh (v x)::ρ)).bind λz=>(mj dr e ρ (xs.map v)).map (z::·)else mj dr e ρ (xs.map v))=_
  rw[h x (List.mem_cons_self ..),ih]
  rfl
theorem f6{α:Type}{it:dq}{e:Den}{ρ:di}(v f:α->PV){xs:List α}(h1:it ρ=some (xs.map v))(h2:xs.length<=5000)(h3:∀x∈xs,e (.sh (v x)::ρ)=some (f x)):dZ it dr e ρ=some (.lst (xs.map f)):=by
 have zl:(5000:Nat)<=sizeLine:=by decide
 exact E4 h1 (by rw[List.length_map];omega) (yQ v f xs h3)
theorem vm:∀ts:List Str,u9 (ts.map PV.str)=some ts
 |[]=>rfl
 |t::ts=>by
  show(u9 (ts.map PV.str)).map (t::·)=_
  rw[vm ts]
  rfl
theorem joinOk_of(sep:Str)(ts:List Str)(h:(ts.map λt=>t.length+sep.length).sum<=100000):JoinOk sep ts=true:=by
 have zl:(100000:Nat)<=sizeLine:=by decide
 have key:∀(ts:List Str) (a:Nat),ts.foldl (λacc t=>acc+t.length+sep.length) a=a+(ts.map λt=>t.length+sep.length).sum:=by
  intro ts
  induction ts with
  |nil=>intro a;rfl
  |cons t ts ih=>
   intro a
   rw[List.foldl_cons,ih,List.map_cons,List.sum_cons]
   omega
 unfold JoinOk Builtin.Str.tooLong
 rw[List.foldl_toArray',key]
 ·simp
  omega
 ·rfl
theorem join_le(sep:Str):∀ts:List Str,(Txt.join sep ts).length<=(ts.map λt=>t.length+sep.length).sum
 |[]=>Nat.zero_le _
 |t::ts=>by
  have key:∀(ts:List Str) (a:Array Nat),(ts.foldl (λacc (p:Str)=>acc++sep.cps++p.cps) a).size=a.size+(ts.map λt=>t.length+sep.length).sum:=by
   intro ts
   induction ts with
   |nil=>intro a;rfl
   |cons t ts ih=>
    intro a
    rw[List.foldl_cons,ih,List.map_cons,List.sum_cons,Array.size_append,Array.size_append]
    have:t.cps.size=t.length:=rfl
    have:sep.cps.size=sep.length:=rfl
    omega
  show(ts.foldl (λacc (p:Str)=>acc++sep.cps++p.cps) t.cps).size<=_
  rw[key,List.map_cons,List.sum_cons]
  have:t.cps.size=t.length:=rfl
  omega
theorem vn(sep:Str)(ts:List Str)(h:(ts.map λt=>t.length+sep.length).sum<=100000):yh (.str sep) (.lst (ts.map PV.str))=some (.str (Txt.join sep ts)):=by
 show(u9 (ts.map PV.str)).bind _=_
 rw[vm]
 show(if JoinOk sep ts then some (PV.str (Txt.join sep ts))else none)=_
 rw[if_pos (joinOk_of sep ts h)]
theorem fold_max:∀(ds:List Nat) (a:Nat),∃M:Nat,(ds.map λ(n:Nat)=>(n:Int)).foldl (λa b=>if b>a then b else a) (a:Int)=(M:Int)/\a<=M/\(∀x∈ds,x<=M)/\(M=a\/M∈ds)
 |[],a=>⟨a,rfl,Nat.le_refl _,by simp,.inl rfl⟩
 |d::ds,a=>by
  rw[List.map_cons,List.foldl_cons]
  by_cases h:d>a
  ·have e:(if(d:Int)>(a:Int)then(d:Int)else(a:Int))=(d:Int):=if_pos (by omega)
   rw[e]
   obtain⟨M,h1,h2,h3,h4⟩:=fold_max ds d
   refine⟨M,h1,by omega,λx hx=>?_,?_⟩
   ·rcases List.mem_cons.mp hx with rfl|hx
    ·exact h2
    ·exact h3 x hx
   ·rcases h4 with rfl|h4
    ·exact .inr (List.mem_cons_self ..)
    ·exact .inr (List.mem_cons_of_mem _ h4)
  ·have e:(if(d:Int)>(a:Int)then(d:Int)else(a:Int))=(a:Int):=if_neg (by omega)
   rw[e]
   obtain⟨M,h1,h2,h3,h4⟩:=fold_max ds a
   refine⟨M,h1,h2,λx hx=>?_,?_⟩
   ·rcases List.mem_cons.mp hx with rfl|hx
    ·omega
    ·exact h3 x hx
   ·rcases h4 with rfl|h4
    ·exact .inl rfl
    ·exact .inr (List.mem_cons_of_mem _ h4)
theorem rM(ds:List Nat)(h:ds≠[]):∃M:Nat,ml (rJ ds)=some (.int (M:Nat))/\(∀x∈ds,x<=M)/\M∈ds:=by
 cases ds with
 |nil=>exact absurd rfl h
 |cons d ds=>
  obtain⟨M,h1,h2,h3,h4⟩:=fold_max ds d
  refine⟨M,?_,λx hx=>?_,?_⟩
  ·show(rh (pl (d::ds))).bind _=_
   rw[E6]
   show(some ((ds.map λ(n:Nat)=>(n:Int)).foldl (λa b=>if b>a then b else a) (d:Int))).map PV.int=_
   rw[h1]
   rfl
  ·rcases List.mem_cons.mp hx with rfl|hx
   ·exact h2
   ·exact h3 x hx
  ·rcases h4 with rfl|h4
   ·exact List.mem_cons_self ..
   ·exact List.mem_cons_of_mem _ h4
theorem yR{α:Type}(l:List α)(j:Nat)(h:0<j):ky l (some (-(j:Int))) none=l.drop (l.length-j):=by
 unfold ky ye
 simp only
 rw[if_pos (by omega)]
 have:(-(j:Int)+(l.length:Int)).toNat=l.length-j:=by omega
 rw[this,List.take_of_length_le (by rw[List.length_drop];exact Nat.le_refl _)]
theorem Im{α:Type}(l:List α)(j:Nat)(h:0<j):ky l none (some (-(j:Int)))=l.take (l.length-j):=by
 unfold ky ye
 simp only
 rw[if_pos (by omega)]
 have:(-(j:Int)+(l.length:Int)).toNat=l.length-j:=by omega
 rw[this,List.drop_zero,Nat.sub_zero]
theorem Fe{α:Type}(l:List α)(j:Nat)(h:j<=l.length):ky l none (some (j:Int))=l.take j:=by
 unfold ky ye
 simp only
 rw[if_neg (by omega),List.drop_zero,Nat.sub_zero,Int.toNat_natCast,Nat.min_eq_left h]
theorem rN{A:Den}{lo hi:vS}{ρ:di}{l:List PV}{a b:Option Int}(hA:A ρ=some (.lst l))(hl:lo ρ=some a)(hh:hi ρ=some b):BL A lo hi ρ=some (.lst (ky l a b)):=by
 unfold BL
 rw[hA,hl,hh]
 rfl
theorem fg{as:dq}{ρ:di}{xs:List PV}(h:as ρ=some xs)(hl:xs.length<=5000):gc as ρ=some (.tup xs):=by
 have zl:(5000:Nat)<=sizeLine:=by decide
 unfold gc
 rw[h]
 show(if xs.length<=sizeLine then some (PV.tup xs)else none)=_
 rw[if_pos (by omega)]
noncomputable def As(x:Str):Prop:=∀c∈x.cps.toList,c<128
theorem Ff{x:Str}(h:As x):x.cps.all (·<128)=true:=by
 rw[<-Array.all_toList,List.all_eq_true]
 exact λc hc=>decide_eq_true (h c hc)
theorem pE{a b:Str}(ha:As a)(hb:As b):As (a++b):=λc hc=>by
 have e:(a++b).cps.toList=a.cps.toList++b.cps.toList:=Array.toList_append
 rw[e]at hc
 rcases List.mem_append.mp hc with h|h
 ·exact ha c h
 ·exact hb c h
theorem LS{x:Str}(h:As x)(lo hi:Option Int)(st:Int):As (bY x lo hi st):=by
 unfold bY
 split
 ·exact h
 ·intro c hc
  have hc:c∈(Builtin.Str.strSliceIndices lo hi st x.length).filterMap (x.cps[·]?):=hc
  obtain⟨i,_,e⟩:=List.mem_filterMap.mp hc
  exact h c (by rw[Array.mem_toList_iff];exact Array.mem_of_getElem? e)
noncomputable def VZ(x:Str):Bool:=x.cps.toList.all λc=>decide (c<128)
theorem yS{x:Str}(h:VZ x=true):As x:=λc hc=>of_decide_eq_true (List.all_eq_true.mp h c hc)
noncomputable def kept:List PV:=[.str "all",.str "any",.str "of"]
noncomputable def Lw(x:Str):Prop:=∀c∈x.cps.toList,97<=c/\c<=122
theorem Lw.as{x:Str}(h:Lw x):As x:=λc hc=>by have:=h c hc;omega
theorem v9{a b:Str}(ha:Lw a)(hb:Lw b):Lw (a++b):=λc hc=>by
 have e:(a++b).cps.toList=a.cps.toList++b.cps.toList:=Array.toList_append
 rw[e]at hc
 rcases List.mem_append.mp hc with h|h
 ·exact ha c h
 ·exact hb c h
theorem wa{x:Str}(h:Lw x)(lo hi:Option Int)(st:Int):Lw (bY x lo hi st):=by
 unfold bY
 split
 ·exact h
 ·intro c hc
  have hc:c∈(Builtin.Str.strSliceIndices lo hi st x.length).filterMap (x.cps[·]?):=hc
  obtain⟨i,_,e⟩:=List.mem_filterMap.mp hc
  exact h c (by rw[Array.mem_toList_iff];exact Array.mem_of_getElem? e)
noncomputable def S7(x:Str):Bool:=x.cps.toList.all λc=>decide (97<=c)&&decide (c<=122)
theorem Fg{x:Str}(h:S7 x=true):Lw x:=λc hc=>by
 have:=List.all_eq_true.mp h c hc
 simpa using this
noncomputable def jN(i:Nat):Str:=⟨#[97+i]⟩
theorem Ca{i:Nat}(h:i<26):Lw (jN i):=λc hc=>by
 have:c=97+i:=by simpa[jN]using hc
 omega
theorem Fh:((List.range 26).all λi=>itemAt md.cps.toList (i:Int)==some (97+i))=true:=by decide+kernel
theorem vo{i:Nat}(h:i<26):lP (.str md) (.int i)=some (.str (jN i)):=by
 have zl:(5000:Nat)<=sizeLine:=by decide
 have hc:=beq_iff_eq.mp (List.all_eq_true.mp Fh i (List.mem_range.mpr h))
 show(if md.length<=sizeLine then(itemAt md.cps.toList (i:Int)).map (λc=>PV.str ⟨#[c]⟩)else none)=_
 rw[if_pos (by rw[Fd];omega),hc]
 rfl
noncomputable def AJ:List Nat->List Nat->Nat
 |x::l,y::m=>(if x=y then 0 else 1)+AJ l m
 |_,_=>0
theorem rO:∀l:List Nat,AJ l l=0
 |[]=>rfl
 |x::l=>by
  show(if x=x then 0 else 1)+AJ l l=0
  rw[if_pos rfl,rO l]
theorem Cb(a b:List Nat):∀l:List Nat,AJ (l++a) (l++b)=AJ a b
 |[]=>rfl
 |x::l=>by
  show(if x=x then 0 else 1)+AJ (l++a) (l++b)=_
  rw[if_pos rfl,Cb a b l,Nat.zero_add]
theorem Ip(A C:Str){i j:Nat}(h:i≠j):AJ ((A++jN i)++C).cps.toList ((A++jN j)++C).cps.toList=1:=by
 have e:∀k,((A++jN k)++C).cps.toList=A.cps.toList++((97+k)::C.cps.toList):=λk=>by
  show((A.cps++#[97+k])++C.cps).toList=_
  simp
 rw[e,e,Cb]
 show(if 97+i=97+j then 0 else 1)+AJ C.cps.toList C.cps.toList=1
 rw[if_neg (by omega),rO]
noncomputable def fin(y:Str):Str:=if vR (.str y) kept=true then bY y none none (-1)else y
noncomputable def Ru:List Str:=["all","any","of"]
theorem LU:(Ru.all λx=>S7 (bY x none none (-1))&&decide ((bY x none none (-1)).length=x.length)&&!decide (AJ x.cps.toList (bY x none none (-1)).cps.toList=1)&&!decide (AJ (bY x none none (-1)).cps.toList x.cps.toList=1)&&Ru.all λy=>!decide (AJ x.cps.toList y.cps.toList=1))=true:=by decide+kernel
theorem yT{x:Str}:∀{ts:List Str},vR (.str x) (ts.map PV.str)=decide (x∈ts)
 |[]=>by simp[vR]
 |t::ts=>by
  have ih:=yT (x:=x) (ts:=ts)
  unfold vR at ih⊢
  rw[List.map_cons,List.any_cons,ih]
  show((t==x)||decide (x∈ts))=_
  by_cases h:t=x
  ·subst h
   simp
  ·rw[beq_eq_false_iff_ne.mpr h]
   simp[List.mem_cons,Ne.symm h]
theorem yU{x:Str}:vR (.str x) kept=decide (x∈Ru):=yT (ts:=Ru)
theorem Cc{x:Str}(h:vR (.str x) kept=true):Lw (bY x none none (-1))/\(bY x none none (-1)).length=x.length/\AJ x.cps.toList (bY x none none (-1)).cps.toList≠1/\AJ (bY x none none (-1)).cps.toList x.cps.toList≠1/\∀y,vR (.str y) kept=true->AJ x.cps.toList y.cps.toList≠1:=by
 rw[yU]at h
 have:=List.all_eq_true.mp LU x (of_decide_eq_true h)
 simp only[Bool.and_eq_true,Bool.not_eq_true',decide_eq_false_iff_not,decide_eq_true_eq]at this
 obtain⟨⟨⟨⟨h1,h2⟩,h3⟩,h4⟩,h5⟩:=this
 refine⟨Fg h1,h2,h3,h4,λy hy=>?_⟩
 rw[yU]at hy
 have:=List.all_eq_true.mp h5 y (of_decide_eq_true hy)
 simpa using this
theorem qI(x:Str):(fin x).length=x.length:=by
 unfold fin
 split
 ·rename_i h
  exact(Cc h).2.1
 ·rfl
theorem LV{x:Str}(h:Lw x):Lw (fin x):=by
 unfold fin
 split
 ·rename_i h
  exact(Cc h).1
 ·exact h
theorem LW{x y:Str}(h:AJ x.cps.toList y.cps.toList=1):fin x≠fin y:=by
 unfold fin
 split
 ·rename_i hx
  obtain⟨_,_,h3,_,h5⟩:=Cc hx
  split
  ·rename_i hy
   exact absurd h (h5 y hy)
  ·intro e
   rw[e]at h3
   exact h3 h
 ·split
  ·rename_i hy
   obtain⟨_,_,_,h4,_⟩:=Cc hy
   intro e
   rw[<-e]at h4
   exact h4 h
  ·intro e
   rw[e,rO]at h
   cases h
end L2.D
namespace L2.D.Rq
open PySem
noncomputable def oo:List (Str×Int):=[("all(",1),("any(",1),("1 of (",1),("2 of (",2),("3 of (",3),("4 of (",4),("5 of (",5),("6 of (",6),("7 of (",7),("8 of (",8)]
noncomputable def kF:List PV:=[.str "all(",.str "any(",.str "1 of (",.str "2 of (",.str "3 of (",.str "4 of (",.str "5 of (",.str "6 of (",.str "7 of (",.str "8 of ("]
noncomputable def ig:aY:=(ba (cU 2 (dC (.int 0))) (ba (rg (B3 (cP 0) (cP 1)) (pf (b0 3) (b0 4)) (ba (jD (tV (ag l8 (dV 3) (dV 4))) rb cI) (cU 2 (ag B7 (dV 2) (dC (.int 1)))))) (bZ (cP 2))))
noncomputable def cb:List PV->Option PV:=fn false 5 2 ig
noncomputable def tP:Den:=bf (gF kn "signs") (dV 0)
noncomputable def kI:Den:=bf (gF kn "at") (dV 0)
noncomputable def yV:Den:=bf (gF kn "words") (dV 0)
noncomputable def wb:aY:=bZ (ag oW (jJ tP (bX kI) (bX (ag bF kI (dC (.int 1))))) (dV 1))
noncomputable def fG:List PV->Option PV:=fn false 2 2 wb
noncomputable def kJ:dB:=fj (rE 1 (jJ tP (bX kI) eW)) (fj (rE 2 (bf ml (dZ (nList yV) dr (cx cb (af (cP 2) (af (cP 0) aP)))))) (fj (AG (cP 2)) (fj (AH (tV (ag ra (jJ (dV 1) eW (bX (dV 2))) yV)) jL kD) (yG (jJ (dV 1) eW (bX (dV 2)))))))
noncomputable def eC:FQ:=qv false 3 1 kJ
noncomputable def kK:dB:=fj (AH (nQ (tV (eX (pS fG) (cP 0) (af (cP 1) aP)))) jL kD) (AG (dC (.int 1)))
noncomputable def cc:FQ:=qv false 2 2 kK
noncomputable def gf:aY:=(ba (jD (tV (ag oW (dV 0) (dC (.str "all(")))) (bZ (bf yi (dV 1))) cI) (ba (jD (tV (ag oW (dV 0) (dC (.str "any(")))) (bZ (bf yj (dV 1))) cI) (bZ (ag ri (bf (yE oo) (dV 0)) (dV 1)))))
noncomputable def aX:List PV->Option PV:=fn false 2 2 gf
noncomputable def pF:ef:=xU (tV (ag GS (bf eg (dV 2)) (dV 1))) (nQ (tV (eX (pS fG) (cP 0) (af (dC (.str ")")) aP))))
noncomputable def pG(FT:FQ):dB:=fj (AH (tV (ag oW (bf eg (dV 2)) (dC (.int 8)))) jL kD) (fj (og (fL cc (af (dC (.str ",")) aP))) (fj (og (fL cc (af (dC (.str " ")) aP))) (EY 2 (fL FT aP))))
noncomputable def dO(FT:FQ):dB:=fj (rG 2 (fL FT aP)) (fj (i4 pF (pG FT) 10) (fj (og (fL cc (af (dC (.str ")")) aP))) (yI 2)))
noncomputable def eD(FP:FQ):dB:=fj (yJ 1 (fL eC aP)) (fj (AH (tV (bf (vY oo) (dV 1))) (yH (bf BN (dV 1))) kD) (yN aX (cP 1) (fL FP (af (bf (yE oo) (dV 1)) aP))))
noncomputable def cA:Nat->FQ
 |0=>λ_ _ _=>none
 |n+1=>qv false 2 1 (eD (qv true 3 2 (dO (cA n))))
noncomputable def mX:dB:=AH (tV (ag GS kI (bf eg tP))) jL kD
noncomputable def fm:FQ:=qv false 1 1 mX
noncomputable def kL:List PV->Option Rg:=vi 3 3 (ag bF (bf yd (dV 1)) (dC (.lst kF))) (cP 2)
noncomputable def AK:aY:=E2 2 3 kL (cA 24) fm (af (cP 0) (af (cP 1) aP))
noncomputable def fq:List PV->Option PV:=fn false 4 2 AK
noncomputable def pH:List Nat->List Nat->Nat
 |a::x,b::y=>if a=b then pH x y+1 else 0
 |_,_=>0
theorem LX(c d:Nat):l8 (.str ⟨#[c]⟩) (.str ⟨#[d]⟩)=some (.bl (!decide (c=d))):=by
 show some (PV.bl (!decide ((⟨#[c]⟩:Str)=⟨#[d]⟩)))=_
 congr 3
 rw[decide_eq_decide]
 constructor
 ·intro h
  injection h with h
  injection h with h
  exact(List.cons.inj h).1
 ·rintro rfl
  rfl
noncomputable abbrev AL:aY:=(ba (jD (tV (ag l8 (dV 3) (dV 4))) rb cI) (cU 2 (ag B7 (dV 2) (dC (.int 1)))))
theorem rP(s0 s1:Slot):∀(xs ys:List Nat) (k:Int) (s3 s4:Slot),∃t3 t4,forL (pf (b0 3) (b0 4)) AL (List.zipWith (λc d=>PV.tup [.str ⟨#[c]⟩,.str ⟨#[d]⟩]) xs ys) [s0,s1,.sh (.int k),s3,s4]=some (.nx [s0,s1,.sh (.int (k+(pH xs ys:Nat))),t3,t4])
 |[],ys,k,s3,s4=>⟨s3,s4,by
  show some (Fl.nx [s0,s1,.sh (.int k),s3,s4])=_
  rw[show pH [] ys=0 by unfold pH;rfl]
  simp⟩
 |_::_,[],k,s3,s4=>⟨s3,s4,by
  show some (Fl.nx [s0,s1,.sh (.int k),s3,s4])=_
  simp[pH]⟩
 |a::xs,b::ys,k,s3,s4=>by
  rw[List.zipWith_cons_cons,v3]
  have hg:pf (b0 3) (b0 4) (.tup [.str ⟨#[a]⟩,.str ⟨#[b]⟩]) [s0,s1,.sh (.int k),s3,s4]=some [s0,s1,.sh (.int k),.sh (.str ⟨#[a]⟩),.sh (.str ⟨#[b]⟩)]:=rfl
  rw[hg]
  have ht:tV (ag l8 (dV 3) (dV 4)) [s0,s1,.sh (.int k),.sh (.str ⟨#[a]⟩),.sh (.str ⟨#[b]⟩)]=some (!decide (a=b)):=bQ ((aj (x:=.str ⟨#[a]⟩) (y:=.str ⟨#[b]⟩) rfl rfl).trans (LX a b))
  by_cases h:a=b
  ·rw[decide_eq_true h]at ht
   have hb:AL [s0,s1,.sh (.int k),.sh (.str ⟨#[a]⟩),.sh (.str ⟨#[b]⟩)]=some (.nx [s0,s1,.sh (.int (k+1)),.sh (.str ⟨#[a]⟩),.sh (.str ⟨#[b]⟩)]):=(aB ((eZ ht).trans rfl)).trans rfl
   obtain⟨t3,t4,e⟩:=rP s0 s1 xs ys (k+1) (.sh (.str ⟨#[a]⟩)) (.sh (.str ⟨#[b]⟩))
   refine⟨t3,t4,?_⟩
   show(AL [s0,s1,.sh (.int k),.sh (.str ⟨#[a]⟩),.sh (.str ⟨#[b]⟩)]).bind _=_
   rw[hb]
   refine e.trans ?_
   have el:pH (a::xs) (b::ys)=pH xs ys+1:=by
    show(if a=b then pH xs ys+1 else 0)=_
    rw[if_pos h]
   rw[el]
   have:k+1+((pH xs ys:Nat):Int)=k+((pH xs ys+1:Nat):Int):=by omega
   rw[this]
  ·rw[decide_eq_false h]at ht
   have hb:AL [s0,s1,.sh (.int k),.sh (.str ⟨#[a]⟩),.sh (.str ⟨#[b]⟩)]=some (.bk [s0,s1,.sh (.int k),.sh (.str ⟨#[a]⟩),.sh (.str ⟨#[b]⟩)]):=by
    show(jD (tV (ag l8 (dV 3) (dV 4))) rb cI [s0,s1,.sh (.int k),.sh (.str ⟨#[a]⟩),.sh (.str ⟨#[b]⟩)]).bind _=_
    rw[iO ht]
    rfl
   refine⟨.sh (.str ⟨#[a]⟩),.sh (.str ⟨#[b]⟩),?_⟩
   show(AL [s0,s1,.sh (.int k),.sh (.str ⟨#[a]⟩),.sh (.str ⟨#[b]⟩)]).bind _=_
   rw[hb]
   have el:pH (a::xs) (b::ys)=0:=by
    show(if a=b then pH xs ys+1 else 0)=_
    rw[if_neg h]
   rw[el]
   show some (Fl.nx [s0,s1,.sh (.int k),.sh (.str ⟨#[a]⟩),.sh (.str ⟨#[b]⟩)])=_
   have:k+((0:Nat):Int)=k:=by omega
   rw[this]
theorem Df{x y:Str}(hx:As x)(hy:As y):cb [.str x,.str y]=some (.int (pH x.cps.toList y.cps.toList:Nat)):=by
 refine fZ rfl ?_
 refine(aB (a9 (p:=.int 0) rfl)).trans ?_
 have it:B3 (cP 0) (cP 1) [.sh (.str x),.sh (.str y),.sh (.int 0),.un,.un]=some (C4 x y):=by
  show(if x.cps.all (·<128)&&y.cps.all (·<128)then some (C4 x y)else none)=_
  rw[Ff hx,Ff hy]
  rfl
 obtain⟨t3,t4,e⟩:=rP (.sh (.str x)) (.sh (.str y)) x.cps.toList y.cps.toList 0 .un .un
 refine(aB ((lX it).trans e)).trans ?_
 refine fF ?_
 show some (PV.int (0+(pH x.cps.toList y.cps.toList:Nat)))=_
 rw[Int.zero_add]
section
variable{t:Rg}{n m:Int}{ρ ρ':di}{a b:dB}{f:Den}{p:PV}{q:Int×Fl}
theorem d9(h:a t n ρ=some (m,.nx ρ')):fj a b t n ρ=b t m ρ':=by
 unfold fj
 rw[h]
 rfl
theorem yW{i:Nat}(h:f (wQ t n ρ)=some p)(hf:flat p=true):rE i f t n ρ=some (n,.nx (ρ.set i (.sh p))):=by
 unfold rE
 rw[h]
 show(if flat p=true then _ else _)=_
 rw[if_pos hf]
theorem Cd{k:Int}(h:f (wQ t n ρ)=some (.int k)):AG f t n ρ=some (n+k,.nx ρ):=by
 unfold AG
 rw[h]
 rfl
theorem Od{c:ef}(h:c (wQ t n ρ)=some true):AH c a b t n ρ=a t n ρ:=by
 unfold AH
 rw[h]
 rfl
theorem yX{c:ef}(h:c (wQ t n ρ)=some false):AH c a b t n ρ=b t n ρ:=by
 unfold AH
 rw[h]
 rfl
theorem Fi(h:f (wQ t n ρ)=some p)(hf:flat p=true):yG f t n ρ=some (n,.rt p):=by
 unfold yG
 rw[h]
 show(if flat p=true then _ else _)=_
 rw[if_pos hf]
theorem wc{fr:Bool}{N k:Nat}{g:dB}{ps:List PV}(h:ps.length+1=k)(e:g t n (.un::(ps.map Slot.sh++List.replicate (N-k) .un))=some (m,.rt p)):qv fr N k g t n ps=some (m,p):=by
 unfold qv
 rw[if_pos h,e]
 rfl
theorem Fj{N k:Nat}{g:dB}{ps:List PV}(h:ps.length+1=k)(e:g t n (.un::(ps.map Slot.sh++List.replicate (N-k) .un))=some (m,.nx ρ')):qv false N k g t n ps=some (m,.non):=by
 unfold qv
 rw[if_pos h,e]
 rfl
end
theorem S8:(("words" :Str)==("words" :Str))=true:=by decide+kernel
theorem S9:(("signs" :Str)==("words" :Str))=false:=by decide+kernel
theorem Ta:(("signs" :Str)==("signs" :Str))=true:=by decide+kernel
theorem Tb:(("at" :Str)==("words" :Str))=false:=by decide+kernel
theorem Tc:(("at" :Str)==("signs" :Str))=false:=by decide+kernel
theorem Td:(("at" :Str)==("at" :Str))=true:=by decide+kernel
theorem LY(t:Rg)(n:Int):gF kn "words" (AF t n)=some (.lst t.ws):=by
 show List.lookup ("words" :Str) [(("words" :Str),PV.lst t.ws),(("signs" :Str),.str t.sg),(("at" :Str),.int n)]=_
 rw[List.lookup_cons,S8]
theorem Fm(t:Rg)(n:Int):gF kn "signs" (AF t n)=some (.str t.sg):=by
 show List.lookup ("signs" :Str) [(("words" :Str),PV.lst t.ws),(("signs" :Str),.str t.sg),(("at" :Str),.int n)]=_
 rw[List.lookup_cons,S9,List.lookup_cons,Ta]
theorem Fn(t:Rg)(n:Int):gF kn "at" (AF t n)=some (.int n):=by
 show List.lookup ("at" :Str) [(("words" :Str),PV.lst t.ws),(("signs" :Str),.str t.sg),(("at" :Str),.int n)]=_
 rw[List.lookup_cons,Tb,List.lookup_cons,Tc,List.lookup_cons,Td]
section
variable(t:Rg)(n:Int)(ρ:di)
theorem JE:tP (wQ t n (.un::ρ))=some (.str t.sg):=(b5 (x:=AF t n) rfl).trans (Fm t n)
theorem JF:kI (wQ t n (.un::ρ))=some (.int n):=(b5 (x:=AF t n) rfl).trans (Fn t n)
theorem JG:yV (wQ t n (.un::ρ))=some (.lst t.ws):=(b5 (x:=AF t n) rfl).trans (LY t n)
end
theorem Fo{α:Type}(l:List α)(a:Nat):∀k,a+k<=l.length->((List.range k).map (a+·)).filterMap (l[·]?)=(l.drop a).take k
 |0,_=>by simp
 |k+1,h=>by
  have ih:=Fo l a k (by omega)
  rw[List.range_succ,List.map_append,List.filterMap_append,ih,List.take_succ]
  congr 1
  have xP:a+k<l.length:=by omega
  rw[List.map_cons,List.map_nil,List.filterMap_cons,List.getElem?_eq_getElem xP,List.getElem?_drop,List.getElem?_eq_getElem xP]
  rfl
theorem wd{x:Str}{lo hi:Option Int}{a b:Nat}(Ws:a<=b)(hb:b<=x.length)(e:Builtin.Str.strSliceIndices lo hi 1 x.length=(List.range (b-a)).map (a+·)):(bY x lo hi 1).cps.toList=(x.cps.toList.drop a).take (b-a):=by
 have hl:x.cps.toList.length=x.length:=Array.length_toList
 unfold bY
 rw[e]
 split
 ·rename_i hh
  rw[Bool.and_eq_true,beq_iff_eq,beq_iff_eq,List.length_map,List.length_range]at hh
  have ha:a=0:=by omega
  have rA:b=x.length:=by omega
  subst ha
  rw[List.drop_zero,List.take_of_length_le (by omega)]
 ·have:=Fo x.cps.toList a (b-a) (by omega)
  rw[<-this]
  show((((List.range (b-a)).map (a+·)).filterMap (x.cps[·]?)).toArray).toList=_
  simp only[Array.getElem?_toList]
theorem Iq(n len:Nat)(h:n<=len):Builtin.Str.strSliceIndices (some (n:Int)) none 1 len=(List.range (len-n)).map (n+·):=by
 have:=PySem.sliceRange_one n len
 rw[<-this]
 unfold Builtin.Str.strSliceIndices
 simp only
 congr 1
 rw[if_pos (by decide),if_neg (by omega)]
 omega
theorem Oe(n len:Nat)(h:n<=len):Builtin.Str.strSliceIndices none (some (n:Int)) 1 len=(List.range (n-0)).map (0+·):=by
 have:=PySem.sliceRange_one 0 n
 rw[<-this]
 unfold Builtin.Str.strSliceIndices
 simp only
 congr 1
 rw[if_pos (by decide),if_neg (by omega)]
 omega
theorem LZ(a b len:Nat)(h:a<=b)(hb:b<=len):Builtin.Str.strSliceIndices (some (a:Int)) (some (b:Int)) 1 len=(List.range (b-a)).map (a+·):=by
 have:=PySem.sliceRange_one a b
 rw[<-this]
 unfold Builtin.Str.strSliceIndices
 simp only
 congr 1
 ·rw[if_pos (by decide),if_neg (by omega)]
  omega
 ·rw[if_pos (by decide),if_neg (by omega)]
  omega
theorem Fq{x:Str}{n:Nat}(h:n<=x.length):(bY x (some (n:Int)) none 1).cps.toList=x.cps.toList.drop n:=by
 rw[wd h (Nat.le_refl _) (Iq n x.length h),List.take_of_length_le]
 rw[List.length_drop,show x.cps.toList.length=x.length from Array.length_toList]
 exact Nat.le_refl _
theorem Ft{x:Str}{n:Nat}(h:n<=x.length):(bY x none (some (n:Int)) 1).cps.toList=x.cps.toList.take n:=by
 rw[wd (Nat.zero_le n) h (Oe n x.length h),List.drop_zero,Nat.sub_zero]
theorem Ce:∀(w post:List Nat),pH (w++post) w=w.length
 |[],post=>by cases post<;>rfl
 |a::w,post=>by
  show(if a=a then pH (w++post) w+1 else 0)=_
  rw[if_pos rfl,Ce w post,List.length_cons]
theorem Cf{x y:Str}(h:x.cps.toList=y.cps.toList):x=y:=by
 cases x
 cases y
 simp only[Str.mk.injEq]
 exact Array.toList_inj.mp h
theorem Fu{ws:List Str}{w:Str}(h:w∈ws):ra (.str w) (.lst (ws.map PV.str))=some (.bl false):=by
 have a:(ws.map PV.str).all flat=true:=List.all_eq_true.mpr λp hp=>by
  obtain⟨y,_,rfl⟩:=List.mem_map.mp hp
  rfl
 have b:vR (.str w) (ws.map PV.str)=true:=List.any_eq_true.mpr ⟨.str w,List.mem_map.mpr ⟨w,h,rfl⟩,by
  show(w==w)=true
  simp⟩
 show(if flat (.str w)&&(ws.map PV.str).all flat then some (PV.bl (!vR (.str w) (ws.map PV.str)))else none)=_
 rw[a,b]
 rfl
theorem Cg{ws:List Str}{sg w:Str}{n:Nat}{post:List Nat}(hs:As sg)(V0:∀v∈ws,As v)(hl:ws.length<=5000)(hlen:sg.length<=100000)(hn:n<=sg.length)(hw:w∈ws)(hr:sg.cps.toList.drop n=w.cps.toList++post)(hm:∀v∈ws,pH (w.cps.toList++post) v.cps.toList<=w.length):
  eC ⟨ws.map PV.str,sg⟩ (n:Nat) []=some (((n+w.length:Nat):Int),.str w):=by
 have e0:w.cps.toList.length=w.length:=Array.length_toList
 obtain⟨rest,Ci⟩:∃r,r=bY sg (some (n:Int)) none 1:=⟨_,rfl⟩
 have er:rest.cps.toList=w.cps.toList++post:=by rw[Ci,Fq hn,hr]
 have ar:As rest:=by rw[Ci];exact LS hs _ _ _
 have lr:rest.length<=sg.length:=by rw[Ci];exact pD _ _ _ (by decide)
 have lw:w.length<=rest.length:=by
  have:rest.cps.toList.length=rest.length:=Array.length_toList
  rw[er,List.length_append]at this
  omega
 have c1:jJ tP (bX kI) eW (wQ ⟨ws.map PV.str,sg⟩ (n:Nat) [.un,.un,.un])=some (.str rest):=by
  rw[Ci]
  refine ie (JE _ _ _) (l:=some (n:Int)) ?_ rfl hlen
  show(kI (wQ ⟨ws.map PV.str,sg⟩ (n:Nat) [.un,.un,.un])).bind _=_
  rw[JF]
  rfl
 have c2:bf ml (dZ (nList yV) dr (cx cb (af (cP 2) (af (cP 0) aP)))) (wQ ⟨ws.map PV.str,sg⟩ (n:Nat) [.un,.sh (.str rest),.un])=some (.int (w.length:Nat)):=by
  have dc:dZ (nList yV) dr (cx cb (af (cP 2) (af (cP 0) aP))) (wQ ⟨ws.map PV.str,sg⟩ (n:Nat) [.un,.sh (.str rest),.un])=some (.lst (ws.map λv=>.int (pH rest.cps.toList v.cps.toList:Nat))):=by
   refine f6 PV.str (λv=>.int (pH rest.cps.toList v.cps.toList:Nat)) (yP (JG _ _ _)) hl λv hv=>?_
   exact(bU (ps:=[.str rest,.str v]) rfl).trans (Df ar (V0 v hv))
  refine(b5 dc).trans ?_
  have ne:ws.map (λv=>pH rest.cps.toList v.cps.toList)≠[]:=λz=>by
   rw[List.map_eq_nil_iff]at z
   rw[z]at hw
   cases hw
  obtain⟨M,h1,h2,h3⟩:=rM _ ne
  have ep:rJ (ws.map λv=>pH rest.cps.toList v.cps.toList)=.lst (ws.map λv=>.int (pH rest.cps.toList v.cps.toList:Nat)):=by
   unfold rJ
   rw[List.map_map]
   rfl
  rw[ep]at h1
  rw[h1]
  have m1:=h2 _ (List.mem_map.mpr ⟨w,hw,rfl⟩)
  obtain⟨v,hv,ev⟩:=List.mem_map.mp h3
  have m2:=hm v hv
  rw[er]at m1 ev
  rw[Ce,e0]at m1
  have:M=w.length:=by omega
  rw[this]
 have c3:∀k:Int,jJ (dV 1) eW (bX (dV 2)) (wQ ⟨ws.map PV.str,sg⟩ k [.un,.sh (.str rest),.sh (.int (w.length:Nat))])=some (.str w):=λk=>by
  refine(ie (y:=rest) (l:=none) (h:=some ((w.length:Nat):Int)) rfl rfl rfl (by omega)).trans ?_
  have:bY rest none (some ((w.length:Nat):Int)) 1=w:=Cf (by
   rw[Ft lw,er,List.take_append_of_le_length (by omega),List.take_of_length_le (by omega)])
  rw[this]
 refine wc rfl ?_
 refine(d9 (yW c1 rfl)).trans ?_
 refine(d9 (yW c2 rfl)).trans ?_
 refine(d9 (Cd (k:=(w.length:Nat)) rfl)).trans ?_
 refine(d9 ((yX (bQ ((aj (c3 _) (JG _ _ _)).trans (Fu hw)))).trans rfl)).trans ?_
 refine(Fi (c3 _) rfl).trans ?_
 have:((n:Nat):Int)+((w.length:Nat):Int)=((n+w.length:Nat):Int):=by omega
 rw[this]
noncomputable abbrev one(c:Nat):Str:=⟨#[c]⟩
theorem beyond(x:Str)(lo hi:Nat)(h:x.length<=lo)(hh:lo<=hi):(bY x (some (lo:Int)) (some (hi:Int)) 1).cps.toList=[]:=by
 have e:Builtin.Str.strSliceIndices (some (lo:Int)) (some (hi:Int)) 1 x.length=(List.range (x.length-x.length)).map (x.length+·):=by
  have:=PySem.sliceRange_one x.length x.length
  rw[<-this]
  unfold Builtin.Str.strSliceIndices
  simp only
  congr 1
  ·rw[if_pos (by decide),if_neg (by omega)]
   omega
  ·rw[if_pos (by decide),if_neg (by omega)]
   omega
 rw[wd (Nat.le_refl _) (Nat.le_refl _) e,Nat.sub_self,List.take_zero]
theorem rQ{ws:List PV}{sg:Str}{n c:Nat}(hlen:sg.length<=100000):fG [AF ⟨ws,sg⟩ (n:Nat),.str (one c)]=some (.bl (decide ((sg.cps.toList.drop n).head?=some c))):=by
 have hl:sg.cps.toList.length=sg.length:=Array.length_toList
 refine fQ rfl ?_
 have c1:jJ tP (bX kI) (bX (ag bF kI (dC (.int 1)))) [.sh (AF ⟨ws,sg⟩ (n:Nat)),.sh (.str (one c))]=some (.str (bY sg (some (n:Int)) (some ((n+1:Nat):Int)) 1)):=by
  have a1:kI [.sh (AF ⟨ws,sg⟩ (n:Nat)),.sh (.str (one c))]=some (.int (n:Nat)):=(b5 (x:=AF ⟨ws,sg⟩ (n:Nat)) rfl).trans (Fn _ _)
  refine ie (y:=sg) ((b5 (x:=AF ⟨ws,sg⟩ (n:Nat)) rfl).trans (Fm _ _)) (l:=some (n:Int)) (h:=some ((n+1:Nat):Int)) ?_ ?_ hlen
  ·show(kI [.sh (AF ⟨ws,sg⟩ (n:Nat)),.sh (.str (one c))]).bind _=_
   rw[a1]
   rfl
  ·show(ag bF kI (dC (.int 1)) [.sh (AF ⟨ws,sg⟩ (n:Nat)),.sh (.str (one c))]).bind _=_
   rw[(aj (x:=.int (n:Nat)) (y:=.int 1) a1 rfl).trans rfl]
   show some (some ((n:Int)+1))=_
   rfl
 refine(aj c1 (y:=.str (one c)) rfl).trans ?_
 show some (PV.bl (decide (bY sg (some (n:Int)) (some ((n+1:Nat):Int)) 1=one c)))=_
 congr 2
 rw[decide_eq_decide]
 by_cases h:n<sg.length
 ·have e:(bY sg (some (n:Int)) (some ((n+1:Nat):Int)) 1).cps.toList=(sg.cps.toList.drop n).take 1:=by
    have:=wd (x:=sg) (a:=n) (b:=n+1) (by omega) (by omega) (LZ n (n+1) sg.length (by omega) (by omega))
    rw[this]
    congr 1
    omega
  constructor
  ·intro z
   rw[z]at e
   cases hd:sg.cps.toList.drop n with
   |nil=>rw[hd]at e;cases e
   |cons a l=>
    rw[hd]at e
    have:[c]=[a]:=e
    rw[(List.cons.inj this).1]
    rfl
  ·intro z
   refine Cf (e.trans ?_)
   cases hd:sg.cps.toList.drop n with
   |nil=>rw[hd]at z;cases z
   |cons a l=>
    rw[hd]at z
    cases z
    rfl
 ·have e:=beyond sg n (n+1) (by omega) (by omega)
  have hd:sg.cps.toList.drop n=[]:=List.drop_eq_nil_of_le (by omega)
  constructor
  ·intro z
   rw[z]at e
   cases e
  ·intro z
   rw[hd]at z
   cases z
theorem sign_eq{ws:List PV}{sg:Str}{n c:Nat}{r:List Nat}(hlen:sg.length<=100000)(h:sg.cps.toList.drop n=c::r):cc ⟨ws,sg⟩ (n:Nat) [.str (one c)]=some (((n+1:Nat):Int),.non):=by
 refine Fj (ρ':=[.un,.sh (.str (one c))]) rfl ?_
 have m:eX (pS fG) (cP 0) (af (cP 1) aP) (wQ ⟨ws,sg⟩ (n:Nat) [.un,.sh (.str (one c))])=some (.bl true):=by
  have:=rQ (ws:=ws) (sg:=sg) (n:=n) (c:=c) hlen
  rw[h]at this
  have e:decide ((c::r).head?=some c)=true:=decide_eq_true rfl
  rw[e]at this
  exact this
 refine(d9 ((yX (jM (b:=true) (bQ m))).trans rfl)).trans ?_
 exact Cd (k:=1) rfl
theorem AM:∀{w post v:List Nat},(∀c p v',post=c::p->v≠w++c::v')->pH (w++post) v<=w.length
 |[],[],v,_=>by
  cases v<;>exact Nat.le_refl _
 |[],c::p,[],_=>Nat.le_refl _
 |[],c::p,b::v,h=>by
  show(if c=b then pH p v+1 else 0)<=0
  rw[if_neg λe=>h c p v rfl (by rw[e];rfl)]
  exact Nat.le_refl _
 |a::w,post,[],_=>Nat.zero_le _
 |a::w,post,b::v,h=>by
  show(if a=b then pH (w++post) v+1 else 0)<=_
  split
  ·rename_i e
   have:=AM (w:=w) (post:=post) (v:=v) λc p v' e1 e2=>h c p v' e1 (by rw[e2,e];rfl)
   rw[List.length_cons]
   omega
  ·exact Nat.zero_le _
noncomputable def Behind(post:List Nat):Prop:=∀c p,post=c::p->c=44\/c=41
noncomputable def ops:List Str:=["all(","any(","1 of (","2 of (","3 of (","4 of (","5 of (","6 of (","7 of (","8 of ("]
noncomputable def Cj(x:Str):Prop:=∀c∈x.cps.toList,c≠44/\c≠41
theorem Ir:(ops.all λx=>x.cps.toList.all λc=>decide (c≠44)&&decide (c≠41)&&decide (c<128))=true:=by decide+kernel
theorem pI{x:Str}(h:x∈ops):Cj x/\As x:=by
 have h1:=List.all_eq_true.mp Ir x h
 refine⟨λc hc=>?_,λc hc=>?_⟩<;>
 ·have h2:=List.all_eq_true.mp h1 c hc
  simp only[Bool.and_eq_true,decide_eq_true_eq]at h2
  first|exact⟨h2.1.1,h2.1.2⟩|exact h2.2
theorem AN{w v:Str}{post:List Nat}(hb:Behind post)(hv:Cj v):pH (w.cps.toList++post) v.cps.toList<=w.length:=by
 have e0:w.cps.toList.length=w.length:=Array.length_toList
 rw[<-e0]
 refine AM λc p v' e1 e2=>?_
 have hc:=hv c (by rw[e2];simp)
 rcases hb c p e1 with z|z
 ·exact hc.1 z
 ·exact hc.2 z
theorem L0:(ops.all λx=>x.cps.toList.contains 40&&ops.all λy=>!(decide (y.cps.toList.take x.cps.toList.length=x.cps.toList)&&decide (x.cps.toList.length<y.cps.toList.length)))=true:=by decide+kernel
theorem Fv{w v:Str}{post:List Nat}(hw:w∈ops)(hv:v∈ops\/40∉v.cps.toList):pH (w.cps.toList++post) v.cps.toList<=w.length:=by
 have e0:w.cps.toList.length=w.length:=Array.length_toList
 have h1:=List.all_eq_true.mp L0 w hw
 rw[Bool.and_eq_true]at h1
 rw[<-e0]
 refine AM λc p v' _ e2=>?_
 rcases hv with hv|hv
 ·have h2:=List.all_eq_true.mp h1.2 v hv
  have a1:v.cps.toList.take w.cps.toList.length=w.cps.toList:=by rw[e2,List.take_left'];rfl
  have a2:w.cps.toList.length<v.cps.toList.length:=by rw[e2,List.length_append,List.length_cons];omega
  rw[decide_eq_true a1,decide_eq_true a2]at h2
  cases h2
 ·refine hv ?_
  rw[e2]
  exact List.mem_append_left _ (List.contains_iff_mem.mp h1.1)
structure we(x:Str):Prop where
 as:As x
 ne:Cj x
 no:40∉x.cps.toList
noncomputable abbrev wg(names:List Str):List PV:=(names++ops).map PV.str
section
variable{t:Rg}{n m:Int}{ρ ρ':di}{g:iN}{f:Den}{p:PV}
theorem yY{i:Nat}(h:g t n ρ=some (m,p))(hf:flat p=true):yJ i g t n ρ=some (m,.nx (ρ.set i (.sh p))):=by
 unfold yJ
 rw[h]
 show(if flat p=true then _ else _)=_
 rw[if_pos hf]
theorem Fw(h:f ρ=some p):yH f t n ρ=some (n,.rt p):=by
 unfold yH
 rw[h]
 rfl
theorem Iu{a b:dB}(h:a t n ρ=some (m,.rt p)):fj a b t n ρ=some (m,.rt p):=by
 unfold fj
 rw[h]
 rfl
theorem f9{F:FQ}{as:dq}{ps:List PV}(h:as (wQ t n ρ)=some ps)(hf:ps.all flat=true):fL F as t n ρ=F t n ps:=by
 unfold fL
 rw[h]
 show(if ps.all flat=true then _ else _)=_
 rw[if_pos hf]
theorem rR(h:g t n ρ=some (m,p)):og g t n ρ=some (m,.nx ρ):=by
 unfold og
 rw[h]
 rfl
end
theorem Iv:(oo.all λq=>q.1.cps.toList.contains 40)=true:=by decide+kernel
theorem Dg{x:Str}(h:40∉x.cps.toList):oo.lookup x=none:=by
 have hk:∀q∈oo,q.1≠x:=λq hq e=>by
  have:=List.all_eq_true.mp Iv q hq
  rw[e]at this
  exact h (List.contains_iff_mem.mp this)
 revert hk
 generalize oo=l
 induction l with
 |nil=>intro _;rfl
 |cons q l ih=>
  intro hk
  obtain⟨k,i⟩:=q
  rw[List.lookup_cons]
  have:(x==k)=false:=by
   rw[beq_eq_false_iff_ne]
   exact λe=>hk (k,i) (List.mem_cons_self ..) e.symm
  rw[this]
  exact ih λq hq=>hk q (List.mem_cons_of_mem _ hq)
theorem Fx{names:List Str}(hN:∀x∈names,we x):∀v∈names++ops,As v:=λv hv=>(List.mem_append.mp hv).elim (λh=>(hN v h).as) λh=>(pI h).2
theorem Dh{names:List Str}(hN:∀x∈names,we x):∀v∈names++ops,Cj v:=λv hv=>(List.mem_append.mp hv).elim (λh=>(hN v h).ne) λh=>(pI h).1
theorem Di{names:List Str}(hN:∀x∈names,we x)(hl:names.length<=1000){x:Str}(hx:x∈names){sg:Str}{n:Nat}{post:List Nat}(hs:As sg)(hlen:sg.length<=100000)(hn:n<=sg.length)(hr:sg.cps.toList.drop n=x.cps.toList++post)(hb:Behind post)(FP:FQ):
  qv false 2 1 (eD FP) ⟨wg names,sg⟩ (n:Nat) []=some (((n+x.length:Nat):Int),.ins 0 [.str x]):=by
 have w1:=Cg (ws:=names++ops) (n:=n) hs (Fx hN) (by rw[List.length_append];have:ops.length=10:=rfl;omega) hlen hn (List.mem_append_left _ hx) hr λv hv=>AN hb (Dh hN v hv)
 refine wc rfl ?_
 refine(d9 (yY ((f9 (ps:=[]) rfl rfl).trans w1) rfl)).trans ?_
 refine Iu ((Od ?_).trans (Fw rfl))
 refine bQ ((b5 (x:=.str x) rfl).trans ?_)
 show some (PV.bl !(oo.lookup x).isSome)=_
 rw[Dg (hN x hx).no]
 rfl
noncomputable def pJ(names:List Str)(F:FQ)(i:It):Prop:=∀{sg:Str} {n:Nat} {post:List Nat},As sg->sg.length<=100000->n<=sg.length->sg.cps.toList.drop n=i.t.cps.toList++post->Behind post->F ⟨wg names,sg⟩ (n:Nat) []=some (((n+i.t.length:Nat):Int),i.o)
noncomputable def ff:List It->List Nat
 |[]=>[]
 |i::l=>44::32::(i.t.cps.toList++ff l)
noncomputable def kM:List It->Nat
 |[]=>0
 |i::l=>2+i.t.length+kM l
theorem oq(l:List It)(post:List Nat):Behind (ff l++41::post):=by
 intro c p e
 cases l with
 |nil=>exact .inr (List.cons.inj e).1.symm
 |cons i l=>exact .inl (List.cons.inj e).1.symm
theorem gW{l a b:List Nat}{n:Nat}(h:l.drop n=a++b):l.drop (n+a.length)=b:=by
 rw[<-List.drop_drop,h,List.drop_left']
 rfl
section
variable{t:Rg}{n m:Int}{ρ:di}{g:iN}{p:PV}
theorem Iw{i:Nat}{l:List PV}(ho:yg ρ i=some l)(h:g t n ρ=some (m,p))(hl:l.length<sizeLine):EY i g t n ρ=some (m,.nx (ρ.set i (.ow (l++[p])))):=by
 unfold EY
 rw[ho]
 show((g t n ρ).bind _)=_
 rw[h]
 show(if l.length<sizeLine then _ else _)=_
 rw[if_pos hl]
end
theorem rS{names:List Str}{FT:FQ}{sg:Str}(hs:As sg)(hlen:sg.length<=100000){few:Nat}{post:List Nat}:∀(rest pU:List It) (n k:Nat),(∀i∈rest,pJ names FT i)->pU.length+rest.length<=8->few<=pU.length+rest.length->rest.length<k->n<=sg.length->sg.cps.toList.drop n=ff rest++41::post->
  i4 pF (pG FT) k ⟨wg names,sg⟩ (n:Nat) [.un,.sh (.int (few:Nat)),.ow (pU.map It.o)]=some (((n+kM rest:Nat):Int),.nx [.un,.sh (.int (few:Nat)),.ow ((pU++rest).map It.o)])
 |[],pU,n,0,_,_,_,h,_,_=>absurd h (by omega)
 |_::_,pU,n,0,_,_,_,h,_,_=>absurd h (by omega)
 |[],pU,n,k+1,hi,h8,hf,hk,hn,hd=>by
  have l1:bf eg (dV 2) (wQ ⟨wg names,sg⟩ (n:Nat) [.un,.sh (.int (few:Nat)),.ow (pU.map It.o)])=some (.int (pU.length:Nat)):=by
   show some (PV.int ((pU.map It.o).length:Nat))=_
   rw[List.length_map]
  have c1:pF (wQ ⟨wg names,sg⟩ (n:Nat) [.un,.sh (.int (few:Nat)),.ow (pU.map It.o)])=some false:=by
   refine(kl (bQ ((aj l1 (y:=.int (few:Nat)) rfl).trans ?_))).trans (jM (b:=true) (bQ ?_))
   ·show some (PV.bl (decide ((pU.length:Int)<(few:Int))))=_
    rw[decide_eq_false (by simp at hf;omega)]
   ·have:=rQ (ws:=wg names) (sg:=sg) (n:=n) (c:=41) hlen
    rw[hd]at this
    exact this
  unfold i4
  rw[c1,List.append_nil]
  rfl
 |i::rest,pU,n,k+1,hi,h8,hf,hk,hn,hd=>by
  have zl:(5000:Nat)<=sizeLine:=by decide
  have e0:i.t.cps.toList.length=i.t.length:=Array.length_toList
  have el:sg.cps.toList.length=sg.length:=Array.length_toList
  rw[List.length_cons]at h8 hf hk
  have l1:∀m:Int,bf eg (dV 2) (wQ ⟨wg names,sg⟩ m [.un,.sh (.int (few:Nat)),.ow (pU.map It.o)])=some (.int (pU.length:Nat)):=λm=>by
   show some (PV.int ((pU.map It.o).length:Nat))=_
   rw[List.length_map]
  have c1:pF (wQ ⟨wg names,sg⟩ (n:Nat) [.un,.sh (.int (few:Nat)),.ow (pU.map It.o)])=some true:=by
   by_cases xP:pU.length<few
   ·refine B8 (bQ ((aj (l1 _) (y:=.int (few:Nat)) rfl).trans ?_))
    show some (PV.bl (decide ((pU.length:Int)<(few:Int))))=_
    rw[decide_eq_true (by omega)]
   ·refine(kl (bQ ((aj (l1 _) (y:=.int (few:Nat)) rfl).trans ?_))).trans (jM (b:=false) (bQ ?_))
    ·show some (PV.bl (decide ((pU.length:Int)<(few:Int))))=_
     rw[decide_eq_false (by omega)]
    ·have:=rQ (ws:=wg names) (sg:=sg) (n:=n) (c:=41) hlen
     rw[hd]at this
     exact this
  have d1:sg.cps.toList.drop n=44::(32::(i.t.cps.toList++ff rest)++41::post):=hd
  have d2:sg.cps.toList.drop (n+1)=32::((i.t.cps.toList++ff rest)++41::post):=gW (a:=[44]) d1
  have d3:sg.cps.toList.drop (n+1+1)=i.t.cps.toList++(ff rest++41::post):=(gW (a:=[32]) d2).trans (List.append_assoc ..)
  have n3:n+1+1<=sg.length:=by
   have:=congrArg List.length d1
   rw[List.length_drop,List.length_cons,List.length_append,List.length_cons]at this
   omega
  have n4:n+1+1+i.t.length<=sg.length:=by
   have:=congrArg List.length d3
   rw[List.length_drop,List.length_append]at this
   omega
  have b1:pG FT ⟨wg names,sg⟩ (n:Nat) [.un,.sh (.int (few:Nat)),.ow (pU.map It.o)]=some (((n+1+1+i.t.length:Nat):Int),.nx [.un,.sh (.int (few:Nat)),.ow ((pU++[i]).map It.o)]):=by
   refine(d9 ((yX (bQ ((aj (l1 _) (y:=.int 8) rfl).trans ?_))).trans rfl)).trans ?_
   ·show some (PV.bl (decide ((pU.length:Int)=8)))=_
    rw[decide_eq_false (by omega)]
   refine(d9 (rR ((f9 (ps:=[.str (one 44)]) rfl rfl).trans (sign_eq hlen d1)))).trans ?_
   refine(d9 (rR ((f9 (ps:=[.str (one 32)]) rfl rfl).trans (sign_eq hlen d2)))).trans ?_
   refine(Iw (l:=pU.map It.o) rfl ((f9 (ps:=[]) rfl rfl).trans (hi i (List.mem_cons_self ..) hs hlen n3 d3 (oq rest post))) (by rw[List.length_map];omega)).trans ?_
   rw[List.map_append]
   rfl
  have ih:=rS hs hlen (few:=few) (post:=post) rest (pU++[i]) (n+1+1+i.t.length) k (λj hj=>hi j (List.mem_cons_of_mem _ hj)) (by rw[List.length_append];simp;omega) (by rw[List.length_append];simp;omega) (by omega) n4 (by rw[<-e0];exact gW d3)
  unfold i4
  rw[c1]
  show((pG FT ⟨wg names,sg⟩ (n:Nat) [.un,.sh (.int (few:Nat)),.ow (pU.map It.o)]).bind _)=_
  rw[b1]
  refine ih.trans ?_
  rw[List.append_assoc]
  have:n+1+1+i.t.length+kM rest=n+kM (i::rest):=by
   show _=n+(2+i.t.length+kM rest)
   omega
  rw[this]
  rfl
section
variable{t:Rg}{n m:Int}{ρ:di}{g:iN}{p:PV}
theorem Dj{i:Nat}(h:g t n ρ=some (m,p)):rG i g t n ρ=some (m,.nx (ρ.set i (.ow [p]))):=by
 unfold rG
 rw[h]
 rfl
theorem Fy{i:Nat}{l:List PV}(h:yg ρ i=some l):yI i t n ρ=some (n,.rt (.lst l)):=by
 unfold yI
 rw[h]
 rfl
theorem Fz{F:List PV->Option PV}{f:Den}{a r:PV}(h1:f (wQ t n ρ)=some a)(ha:flat a=true)(h2:g t n ρ=some (m,p))(h3:F [a,p]=some r):yN F f g t n ρ=some (m,.rt r):=by
 unfold yN
 rw[h1]
 show(if flat a=true then _ else _)=_
 rw[if_pos ha,h2]
 show(F [a,p]).map _=_
 rw[h3]
 rfl
end
theorem FA{names:List Str}{FT:FQ}{sg:Str}(hs:As sg)(hlen:sg.length<=100000){few n:Nat}{post:List Nat}{i:It}{rest:List It}(hi:∀j∈i::rest,pJ names FT j)(h8:rest.length+1<=8)(hf:few<=rest.length+1)(hn:n<=sg.length)(hd:sg.cps.toList.drop n=i.t.cps.toList++(ff rest++41::post)):
  qv true 3 2 (dO FT) ⟨wg names,sg⟩ (n:Nat) [.int (few:Nat)]=some (((n+i.t.length+kM rest+1:Nat):Int),.lst ((i::rest).map It.o)):=by
 have e0:i.t.cps.toList.length=i.t.length:=Array.length_toList
 have el:sg.cps.toList.length=sg.length:=Array.length_toList
 have d1:sg.cps.toList.drop (n+i.t.length)=ff rest++41::post:=by
  rw[<-e0]
  exact gW hd
 have n1:n+i.t.length<=sg.length:=by
  have:=congrArg List.length hd
  rw[List.length_drop,List.length_append]at this
  omega
 have tl:(ff rest).length=kM rest:=by
  clear hd d1 h8 hf hi
  induction rest with
  |nil=>rfl
  |cons j l ih=>
   show(44::32::(j.t.cps.toList++ff l)).length=2+j.t.length+kM l
   have e1:j.t.cps.toList.length=j.t.length:=Array.length_toList
   rw[List.length_cons,List.length_cons,List.length_append,ih,e1]
   omega
 have d2:sg.cps.toList.drop (n+i.t.length+kM rest)=41::post:=by
  rw[<-tl]
  exact gW d1
 refine wc rfl ?_
 refine(d9 (Dj (p:=i.o) ((f9 (ps:=[]) rfl rfl).trans (hi i (List.mem_cons_self ..) hs hlen hn hd (oq rest post))))).trans ?_
 refine(d9 (rS hs hlen (few:=few) (post:=post) rest [i] (n+i.t.length) 10 (λj hj=>hi j (List.mem_cons_of_mem _ hj)) (by simp;omega) (by simp;omega) (by omega) n1 d1)).trans ?_
 refine(d9 (rR ((f9 (ps:=[.str (one 41)]) rfl rfl).trans (sign_eq hlen d2)))).trans ?_
 exact Fy rfl
theorem FC{names:List Str}(hN:∀x∈names,we x)(hl:names.length<=1000){FT:FQ}{sg:Str}(hs:As sg)(hlen:sg.length<=100000){w:Str}(hw:w∈ops){few n:Nat}(hk:oo.lookup w=some (few:Int)){post:List Nat}{i:It}{rest:List It}{r:PV}(hi:∀j∈i::rest,pJ names FT j)(h8:rest.length+1<=8)(hf:few<=rest.length+1)(hn:n<=sg.length)
  (hd:sg.cps.toList.drop n=w.cps.toList++(i.t.cps.toList++(ff rest++41::post)))(hc:aX [.str w,.lst ((i::rest).map It.o)]=some r):
  qv false 2 1 (eD (qv true 3 2 (dO FT))) ⟨wg names,sg⟩ (n:Nat) []=some (((n+w.length+i.t.length+kM rest+1:Nat):Int),r):=by
 have e0:w.cps.toList.length=w.length:=Array.length_toList
 have el:sg.cps.toList.length=sg.length:=Array.length_toList
 have w1:=Cg (ws:=names++ops) (n:=n) hs (Fx hN) (by rw[List.length_append];have:ops.length=10:=rfl;omega) hlen hn (List.mem_append_right _ hw) hd λv hv=>Fv hw ((List.mem_append.mp hv).elim (λh=>.inr (hN v h).no) .inl)
 have n1:n+w.length<=sg.length:=by
  have:=congrArg List.length hd
  rw[List.length_drop,List.length_append]at this
  omega
 have d1:sg.cps.toList.drop (n+w.length)=i.t.cps.toList++(ff rest++41::post):=by
  rw[<-e0]
  exact gW hd
 refine wc rfl ?_
 refine(d9 (yY ((f9 (ps:=[]) rfl rfl).trans w1) rfl)).trans ?_
 refine(d9 ((yX (bQ ((b5 (x:=.str w) rfl).trans ?_))).trans rfl)).trans ?_
 ·show some (PV.bl !(oo.lookup w).isSome)=_
  rw[hk]
  rfl
 refine Fz (a:=.str w) rfl rfl ((f9 (ps:=[.int (few:Nat)]) ?_ rfl).trans (FA hs hlen hi h8 hf n1 d1)) hc
 refine ay ((b5 (x:=.str w) rfl).trans ?_) rfl
 show(oo.lookup w).map PV.int=_
 rw[hk]
 rfl
theorem L1{x y:Str}(h:x≠y){a b:Den}{ρ:di}(ha:a ρ=some (.str x))(hb:b ρ=some (.str y)):tV (ag oW a b) ρ=some false:=by
 refine bQ ((aj ha hb).trans ?_)
 show some (PV.bl (decide (x=y)))=_
 rw[decide_eq_false h]
theorem Of{x:Str}{a b:Den}{ρ:di}(ha:a ρ=some (.str x))(hb:b ρ=some (.str x)):tV (ag oW a b) ρ=some true:=by
 refine bQ ((aj ha hb).trans ?_)
 show some (PV.bl (decide (x=x)))=_
 rw[decide_eq_true rfl]
theorem L3(l:List PV):aX [.str "all(",.lst l]=some (.ins 1 [.int (l.length:Nat),.tup l]):=by
 refine fZ rfl ?_
 exact lZ ((iO (Of rfl rfl)).trans (fF rfl))
theorem ya:("any(" :Str)≠ "all(" :=by decide+kernel
theorem L4(l:List PV):aX [.str "any(",.lst l]=some (.ins 2 [.int 1,.tup l]):=by
 refine fZ rfl ?_
 refine(aB ((eZ (L1 ya rfl rfl)).trans rfl)).trans ?_
 exact lZ ((iO (Of rfl rfl)).trans (fF rfl))
noncomputable def DK(m:Nat):Str:=(toString (m:Int):Str)++(" of (" :Str)
theorem Iy:((List.range 8).all λk=>ops.contains (DK (k+1))&&decide (oo.lookup (DK (k+1))=some ((k+1:Nat):Int))&&!decide (DK (k+1)= "all(")&&!decide (DK (k+1)= "any("))=true:=by decide+kernel
theorem wj{m:Nat}(h1:1<=m)(h8:m<=8):DK m∈ops/\oo.lookup (DK m)=some (m:Int)/\DK m≠ "all(" /\DK m≠ "any(" :=by
 have:=List.all_eq_true.mp Iy (m-1) (List.mem_range.mpr (by omega))
 rw[show m-1+1=m by omega]at this
 simp only[Bool.and_eq_true,Bool.not_eq_true',decide_eq_true_eq,decide_eq_false_iff_not,List.contains_iff_mem]at this
 exact⟨this.1.1.1,this.1.1.2,this.1.2,this.2⟩
theorem Iz{m:Nat}(h1:1<=m)(h8:m<=8)(l:List PV):aX [.str (DK m),.lst l]=some (.ins 3 [.int (m:Nat),.tup l]):=by
 obtain⟨_,a2,a3,a4⟩:=wj h1 h8
 refine fZ rfl ?_
 refine(aB ((eZ (L1 a3 rfl rfl)).trans rfl)).trans ?_
 refine(aB ((eZ (L1 a4 rfl rfl)).trans rfl)).trans ?_
 refine fF ((aj (x:=.int (m:Nat)) (y:=.lst l) ((b5 (x:=.str (DK m)) rfl).trans ?_) rfl).trans rfl)
 show(oo.lookup (DK m)).map PV.int=_
 rw[a2]
 rfl
theorem FD:("all(" :Str)∈ops/\oo.lookup ("all(" :Str)=some ((1:Nat):Int):=by decide+kernel
theorem FG:("any(" :Str)∈ops/\oo.lookup ("any(" :Str)=some ((1:Nat):Int):=by decide+kernel
theorem L5:((", " :Str)).cps.toList=[44,32]:=by decide+kernel
theorem yZ:∀(rest:List It) (a:Array Nat),(((rest.map It.t).foldl (λacc (p:Str)=>acc++(", " :Str).cps++p.cps) a)).toList=a.toList++ff rest
 |[],a=>by simp[ff]
 |i::l,a=>by
  rw[List.map_cons,List.foldl_cons,yZ l,Array.toList_append,Array.toList_append,L5]
  show _=a.toList++44::32::(i.t.cps.toList++ff l)
  simp
theorem FH(i:It)(rest:List It):(Txt.join (", " :Str) ((i::rest).map It.t)).cps.toList=i.t.cps.toList++ff rest:=by
 show(((rest.map It.t).foldl (λacc (p:Str)=>acc++(", " :Str).cps++p.cps) i.t.cps)).toList=_
 exact yZ rest i.t.cps
theorem vp:∀rest:List It,(ff rest).length=kM rest
 |[]=>rfl
 |j::l=>by
  show(44::32::(j.t.cps.toList++ff l)).length=2+j.t.length+kM l
  have e1:j.t.cps.toList.length=j.t.length:=Array.length_toList
  rw[List.length_cons,List.length_cons,List.length_append,vp l,e1]
  omega
theorem Ck(x y:Str):(x++y).cps.toList=x.cps.toList++y.cps.toList:=by
 show(x.cps++y.cps).toList=_
 exact Array.toList_append ..
theorem Og:((")" :Str)).cps.toList=[41]:=by decide+kernel
theorem Dk{names:List Str}(hN:∀x∈names,we x)(hl:names.length<=1000){FT:FQ}{w:Str}(hw:w∈ops){few:Nat}(hk:oo.lookup w=some (few:Int)){its:List It}{r s:PV}{d:Nat}(h0:its≠[])(hi:∀j∈its,pJ names FT j)(h8:its.length<=8)(hf:few<=its.length)(hc:aX [.str w,.lst (its.map It.o)]=some r):
  pJ names (qv false 2 1 (eD (qv true 3 2 (dO FT)))) ⟨r,s,w++(Txt.join (", " :Str) (its.map It.t)++(")" :Str)),d⟩:=by
 intro sg n post hs hlen hn hd hb
 cases its with
 |nil=>exact absurd rfl h0
 |cons i rest=>
  have e:(w++(Txt.join (", " :Str) ((i::rest).map It.t)++(")" :Str))).cps.toList=w.cps.toList++((i.t.cps.toList++ff rest)++[41]):=by
   rw[Ck,Ck,FH,Og]
  have M5:sg.cps.toList.drop n=w.cps.toList++(i.t.cps.toList++(ff rest++41::post)):=by
   rw[hd]
   show(w++(Txt.join (", " :Str) ((i::rest).map It.t)++(")" :Str))).cps.toList++post=_
   rw[e]
   simp
  refine(FC hN hl hs hlen hw hk hi h8 hf hn M5 hc).trans ?_
  have el:(w++(Txt.join (", " :Str) ((i::rest).map It.t)++(")" :Str))).length=w.length+i.t.length+kM rest+1:=by
   have h1:(w++(Txt.join (", " :Str) ((i::rest).map It.t)++(")" :Str))).cps.toList.length=(w++(Txt.join (", " :Str) ((i::rest).map It.t)++(")" :Str))).length:=Array.length_toList
   rw[<-h1,e,List.length_append,List.length_append,List.length_append,vp]
   have e1:w.cps.toList.length=w.length:=Array.length_toList
   have e2:i.t.cps.toList.length=i.t.length:=Array.length_toList
   rw[e1,e2]
   show w.length+(i.t.length+kM rest+1)=_
   omega
  show some (((n+w.length+i.t.length+kM rest+1:Nat):Int),r)=some (((n+(w++(Txt.join (", " :Str) ((i::rest).map It.t)++(")" :Str))).length:Nat):Int),r)
  rw[el]
  have:n+w.length+i.t.length+kM rest+1=n+(w.length+i.t.length+kM rest+1):=by omega
  rw[this]
noncomputable def FJ(names:List Str)(i:It):Prop:=∀m,i.d<=m->pJ names (cA (m+1)) i
section
variable{names:List Str}(hN:∀x∈names,we x)(hl:names.length<=1000)
include hN hl
theorem FK{x:Str}(hx:x∈names){s:PV}:FJ names ⟨.ins 0 [.str x],s,x,0⟩:=λm _=>λ{sg n post} hs hlen hn hd hb=>Di hN hl hx hs hlen hn hd hb _
theorem wm{w:Str}(hw:w∈ops){few:Nat}(hk:oo.lookup w=some (few:Int)){its:List It}{r s:PV}{n:Nat}(h0:its≠[])(h8:its.length<=8)(hf:few<=its.length)(hi:∀i∈its,FJ names i/\i.d<=n)(hc:aX [.str w,.lst (its.map It.o)]=some r):
  FJ names ⟨r,s,w++(Txt.join (", " :Str) (its.map It.t)++(")" :Str)),1+n⟩:=λm hm=>by
 have Te:1+n<=m:=hm
 obtain⟨k,rfl⟩:∃k,m=k+1:=⟨m-1,by omega⟩
 exact @λsg n0 post hs hlen hn hd hb=>Dk (s:=s) (d:=1+n) hN hl hw hk h0 (λj hj=>(hi j hj).1 k (by have:=(hi j hj).2;omega)) h8 hf hc (sg:=sg) (n:=n0) (post:=post) hs hlen hn hd hb
theorem IA{its:List It}{s:PV}{n:Nat}(h0:its≠[])(h8:its.length<=8)(hi:∀i∈its,FJ names i/\i.d<=n):FJ names ⟨.ins 1 [.int (its.length:Nat),.tup (its.map It.o)],s,("all(" :Str)++(Txt.join (", " :Str) (its.map It.t)++(")" :Str)),1+n⟩:=
 wm hN hl FD.1 FD.2 h0 h8 (by cases its with|nil=>exact absurd rfl h0|cons _ _=>simp) hi ((L3 _).trans (by rw[List.length_map]))
theorem IB{its:List It}{s:PV}{n:Nat}(h0:its≠[])(h8:its.length<=8)(hi:∀i∈its,FJ names i/\i.d<=n):FJ names ⟨.ins 2 [.int 1,.tup (its.map It.o)],s,("any(" :Str)++(Txt.join (", " :Str) (its.map It.t)++(")" :Str)),1+n⟩:=
 wm hN hl FG.1 FG.2 h0 h8 (by cases its with|nil=>exact absurd rfl h0|cons _ _=>simp) hi (L4 _)
theorem FL{its:List It}{s:PV}{n m:Nat}(h0:its≠[])(h8:its.length<=8)(hi:∀i∈its,FJ names i/\i.d<=n)(h1:1<=m)(hm:m<=its.length):FJ names ⟨.ins 3 [.int (m:Nat),.tup (its.map It.o)],s,DK m++(Txt.join (", " :Str) (its.map It.t)++(")" :Str)),1+n⟩:=
 wm hN hl (wj h1 (by omega)).1 (wj h1 (by omega)).2.1 h0 h8 hm hi (Iz h1 (by omega) _)
theorem IC{i:It}(hi:FJ names i)(hd:i.d<=22)(hs:As i.t)(hlen:i.t.length<=100000):fq [.tup (names.map PV.str),.str i.t]=some i.o:=by
 have zl:(100000:Nat)<=sizeLine:=by decide
 have el:i.t.cps.toList.length=i.t.length:=Array.length_toList
 have f1:kL [.tup (names.map PV.str),.str i.t]=some ⟨wg names,i.t⟩:=by
  have a1:ag bF (bf yd (dV 1)) (dC (.lst kF)) [.un,.sh (.tup (names.map PV.str)),.sh (.str i.t)]=some (.lst (wg names)):=by
   refine(aj (x:=.lst (names.map PV.str)) (y:=.lst kF) rfl rfl).trans ?_
   show(if(names.map PV.str).length+kF.length<=sizeLine then some (PV.lst (names.map PV.str++kF))else none)=_
   rw[if_pos (by rw[List.length_map];have:kF.length=10:=rfl;omega)]
   unfold wg
   rw[List.map_append]
   rfl
  unfold kL vi
  show((ag bF (bf yd (dV 1)) (dC (.lst kF)) [.un,.sh (.tup (names.map PV.str)),.sh (.str i.t)]).bind _)=_
  rw[a1]
  rfl
 have f2:=hi 23 (by omega) (sg:=i.t) (n:=0) (post:=[]) hs hlen (Nat.zero_le _) (by rw[List.drop_zero,List.append_nil]) (λc p e=>by cases e)
 have f3:fm ⟨wg names,i.t⟩ ((0+i.t.length:Nat):Int) []=some (((0+i.t.length:Nat):Int),.non):=by
  refine Fj (ρ':=[.un]) rfl ((yX (bQ ?_)).trans rfl)
  refine(aj (x:=.int ((0+i.t.length:Nat):Int)) (y:=.int (i.t.length:Nat)) (JF _ _ _) ((b5 (JE _ _ _)).trans (if_pos (Nat.le_trans hlen zl)))).trans ?_
  show some (PV.bl (decide (((0+i.t.length:Nat):Int)<(i.t.length:Int))))=_
  rw[decide_eq_false (by omega)]
 refine fZ rfl ?_
 show(if 2<4/\3<4 then _ else none)=_
 rw[if_pos ⟨by decide,by decide⟩]
 show((kL [.tup (names.map PV.str),.str i.t]).bind _)=_
 rw[f1]
 show((cA 24 ⟨wg names,i.t⟩ ((0:Nat):Int) []).bind _)=_
 rw[f2]
 show((fm ⟨wg names,i.t⟩ ((0+i.t.length:Nat):Int) []).map _)=_
 rw[f3]
 rfl
end
end L2.D.Rq
namespace L2.D.My
open PySem
noncomputable def ot(aK:Nat->List PV->Option PV):aY:=(bZ (gc (af (dC (.str "all")) (af (eX aK (cP 0) aP) aP))))
noncomputable def pV(aR:Nat->List PV->Option PV):aY:=(bZ (ag bF (ag bF (dC (.str "all(")) (eX aR (cP 0) aP)) (dC (.str ")"))))
noncomputable def ou(aK:Nat->List PV->Option PV):aY:=(bZ (gc (af (dC (.str "any")) (af (eX aK (cP 0) aP) aP))))
noncomputable def pW(aR:Nat->List PV->Option PV):aY:=(bZ (ag bF (ag bF (dC (.str "any(")) (eX aR (cP 0) aP)) (dC (.str ")"))))
noncomputable def bq(bP:Nat->List PV->Option PV):aY:=(bZ (bf vT (dZ (Ef (bf (gF kn "parts") (dV 0))) dr (eX bP (cP 0) aP))))
noncomputable def bB(cB:Nat->List PV->Option PV):aY:=(bZ (ag yh (dC (.str ", ")) (dZ (Ef (bf (gF kn "parts") (dV 0))) dr (eX cB (cP 0) aP))))
noncomputable def mv:aY:=(bZ (gc (af (dC (.str "hand")) (af (bf (gF kn "name") (dV 0)) aP))))
noncomputable def oy:aY:=(bZ (bf (gF kn "name") (dV 0)))
noncomputable def mx(aK:Nat->List PV->Option PV):aY:=(bZ (gc (af (dC (.str "some")) (af (bf (gF kn "wanted") (dV 0)) (af (eX aK (cP 0) aP) aP)))))
noncomputable def oz(aR:Nat->List PV->Option PV):aY:=(bZ (ag bF (ag bF (ag bF (bf CS (bf (gF kn "wanted") (dV 0))) (dC (.str " of ("))) (eX aR (cP 0) aP)) (dC (.str ")"))))
noncomputable def dP(bP:Nat->List PV->Option PV):Nat->List PV->Option PV
 |1=>fn false 1 1 (bq bP)
 |2=>fn false 1 1 (bq bP)
 |3=>fn false 1 1 (bq bP)
 |_=>λ_=>none
noncomputable def fI:Nat->Nat->List PV->Option PV
 |0,_=>λ_=>none
 |n+1,0=>fn false 1 1 (mv)
 |n+1,1=>fn false 1 1 (ot (dP (fI n)))
 |n+1,2=>fn false 1 1 (ou (dP (fI n)))
 |n+1,3=>fn false 1 1 (mx (dP (fI n)))
 |_+1,_=>λ_=>none
noncomputable def bP:Nat->List PV->Option PV:=fI 24
noncomputable def eU(cB:Nat->List PV->Option PV):Nat->List PV->Option PV
 |1=>fn false 1 1 (bB cB)
 |2=>fn false 1 1 (bB cB)
 |3=>fn false 1 1 (bB cB)
 |_=>λ_=>none
noncomputable def gI:Nat->Nat->List PV->Option PV
 |0,_=>λ_=>none
 |n+1,0=>fn false 1 1 (oy)
 |n+1,1=>fn false 1 1 (pV (eU (gI n)))
 |n+1,2=>fn false 1 1 (pW (eU (gI n)))
 |n+1,3=>fn false 1 1 (oz (eU (gI n)))
 |_+1,_=>λ_=>none
noncomputable def cB:Nat->List PV->Option PV:=gI 24
noncomputable def i5:aY:=(ba (jD (tV (ag GS (dV 1) (bf eg (dV 0)))) (bZ (ag lP (dV 0) (dV 1))) cI) (bZ (dC (.int 0))))
noncomputable def F_law_cell_at:List PV->Option PV:=fn false 2 2 (i5)
noncomputable def AO:aY:=(ba (cU 4 (dC (.str "abcdefghijklmnopqrstuvwxyz"))) (ba (cU 5 (ag lP (dV 4) (ag da (ag bF (ag Jt (dV 4) (ag lP (dV 0) (dV 1))) (ag pd (dC (.int 3)) (dV 3))) (dC (.int 26))))) (bZ (ag bF (ag bF (jJ (dV 0) eW (bX (dV 1))) (dV 5)) (jJ (dV 0) (bX (ag bF (dV 1) (dC (.int 1)))) (bX (dV 2)))))))
noncomputable def bL:List PV->Option PV:=fn false 6 4 (AO)
noncomputable def jO:aY:=(ba (cU 2 (ag da (ag bF (ag bF (ag bF (ag pd (dV 2) (dV 2)) (ag pd (dC (.int 48271)) (dV 2))) (dV 4)) (dC (.int 1))) (dC (.int 2147483647)))) (cU 3 (ag bF (dV 3) (ag lP (dC (.str "abcdefghijklmnopqrstuvwxyz")) (ag da (dV 2) (dC (.int 26)))))))
noncomputable def AQ:aY:=(ba (cU 2 (ag da (ag bF (ag pd (ag da (dV 0) (dC (.int 2147483647))) (dC (.int 16807))) (dC (.int 11))) (dC (.int 2147483647)))) (ba (cU 3 (dC (.str ""))) (ba (rg (mi (dV 1)) (b0 4) jO) (bZ (cP 3)))))
noncomputable def F_law_base:List PV->Option PV:=fn false 5 2 (AQ)
noncomputable def i6(F_law_cell_at bL F_law_base:List PV->Option PV):aY:=(ba (cU 10 (cx bL (af (cP 7) (af (ag da (ag jH (dV 3) (dC (.int 80))) (dV 4)) (af (cP 4) (af (cP 9) aP)))))) (ba (jD (tV (ag oW (ag da (ag jH (dV 3) (dC (.int 20))) (dC (.int 4))) (dC (.int 1)))) (cU 10 (jJ (dV 7) eW (bX (ag bF (dV 9) (dC (.int 1)))))) cI) (ba (jD (tV (ag NO (dV 10) (gc (af (dC (.str "all")) (af (dC (.str "any")) (af (dC (.str "of")) aP)))))) (cU 10 (bf Ll (dV 10))) cI) (rf 8 iL (af (cP 10) aP)))))
noncomputable def pX(F_law_cell_at bL F_law_base:List PV->Option PV):aY:=(ba (cU 3 (cx F_law_cell_at (af (cP 0) (af (cP 1) aP)))) (ba (cU 4 (ag bF (dC (.int 1)) (ag da (dV 3) (dC (.int 20))))) (ba (cU 5 (cx F_law_cell_at (af (cP 0) (af (ag bF (dV 1) (dC (.int 1))) aP)))) (ba (cU 6 (ag lP (Av (af (dC (.str "")) (af (dC (.str "")) (af (dC (.str "all")) (af (dC (.str "")) (af (dC (.str "any")) (af (dC (.str "")) (af (dC (.str "of")) (af (dC (.str "al")) aP))))))))) (ag da (dV 5) (dC (.int 8))))) (ba (cU 7 (jJ (ag bF (dV 6) (cx F_law_base (af (ag jH (dV 5) (dC (.int 8))) (af (dC (.int 20)) aP)))) eW (bX (dC (.int 20))))) (ba (nV 8 (Av aP)) (ba (rg (mi (dV 2)) (b0 9) (i6 F_law_cell_at bL F_law_base)) (Js 8))))))))
noncomputable def fw:List PV->Option PV:=fn true 11 3 (pX F_law_cell_at bL F_law_base)
noncomputable def AR(fw F_law_cell_at:List PV->Option PV):aY:=(bZ (bf vT (cx fw (af (cP 0) (af (dC (.int 2)) (af (ag bF (dC (.int 1)) (ag da (cx F_law_cell_at (af (cP 0) (af (dC (.int 0)) aP))) (dC (.int 6)))) aP))))))
noncomputable def F_law_roll:List PV->Option PV:=fn false 1 1 (AR fw F_law_cell_at)
noncomputable def tQ:aY:=(ba (nV 3 (dZ (nList (dV 2)) dr (ag lP (dV 0) (dC (.int 0))))) (ba (cU 4 (bf vT (dZ (nList (dV 2)) dr (ag lP (dV 0) (dC (.int 1)))))) (ba (cU 5 (ag bF (ag yh (dC (.str ", ")) (dZ (nList (dV 2)) dr (ag lP (dV 0) (dC (.int 2))))) (dC (.str ")")))) (ba (cU 6 (ag bF (dC (.int 1)) (bf ml (dZ (nList (dV 2)) dr (ag lP (dV 0) (dC (.int 3))))))) (ba (jD (tV (ag oW (dV 0) (dC (.int 0)))) (cU 7 (gc (af (bf yi (dV 3)) (af (gc (af (dC (.str "all")) (af (cP 4) aP))) (af (ag bF (dC (.str "all(")) (dV 5)) (af (cP 6) aP)))))) (jD (tV (ag oW (dV 0) (dC (.int 1)))) (cU 7 (gc (af (bf yj (dV 3)) (af (gc (af (dC (.str "any")) (af (cP 4) aP))) (af (ag bF (dC (.str "any(")) (dV 5)) (af (cP 6) aP)))))) (cU 7 (gc (af (ag ri (dV 1) (dV 3)) (af (gc (af (dC (.str "some")) (af (cP 1) (af (cP 4) aP)))) (af (ag bF (ag bF (bf CS (dV 1)) (dC (.str " of ("))) (dV 5)) (af (cP 6) aP)))))))) (ba (rf 3 Eg aP) (bZ (cP 7))))))))
noncomputable def av:List PV->Option PV:=fn false 8 3 (tQ)
noncomputable def ij(av:List PV->Option PV):aY:=(ba (cU 2 (ag da (ag bF (ag pd (dV 2) (dV 2)) (ag pd (dC (.int 48271)) (dV 2))) (dC (.int 2147483647)))) (ba (cU 3 (BL (dV 0) (bX (bf qZ (dC (.int 8)))) eW)) (ba (nV 0 (BL (dV 0) eW (bX (bf qZ (dC (.int 8)))))) (rf 0 iL (af (cx av (af (ag da (dV 2) (dC (.int 3))) (af (ag bF (dC (.int 1)) (ag da (ag jH (dV 2) (dC (.int 3))) (bf eg (dV 3)))) (af (cP 3) aP)))) aP)))))
noncomputable def oA(av:List PV->Option PV):aY:=(ba (cU 2 (ag bF (dC (.int 1)) (ag da (dV 1) (dC (.int 2147483646))))) (ba (fM (tV (ag Jr (bf eg (dV 0)) (dC (.int 1)))) (ij av) 1000) (bZ (ag lP (dV 0) (dC (.int 0))))))
noncomputable def F_law_folded:List PV->Option PV:=fn false 4 2 (oA av)
noncomputable def AS:aY:=(bZ (gc (af (bf BN (dV 0)) (af (gc (af (dC (.str "hand")) (af (cP 0) aP))) (af (cP 0) (af (dC (.int 0)) aP))))))
noncomputable def bM:List PV->Option PV:=fn false 1 1 (AS)
noncomputable def i7(F_law_folded bM F_law_cell_at av:List PV->Option PV):aY:=(ba (cU 7 (BL (dV 4) (bX (bf qZ (ag bF (dC (.int 1)) (ag da (ag jH (dV 6) (dC (.int 9))) (dC (.int 8)))))) eW)) (ba (cU 8 (bf ml (dZ (nList (dV 7)) dr (ag lP (dV 0) (dC (.int 3)))))) (jD (xU (tV (ag GS (ag da (dV 6) (dC (.int 9))) (dC (.int 6)))) (xU (tV (ag Jr (dV 8) (dC (.int 11)))) (tV (ag Jr (dV 5) (dC (.int 13)))))) (rf 4 iL (af (cx bM (af (ag lP (dV 3) (ag da (ag jH (dV 6) (dC (.int 9))) (bf eg (dV 3)))) aP)) aP)) (ba (nV 4 (BL (dV 4) eW (bX (ag CQ (bf eg (dV 4)) (bf eg (dV 7)))))) (ba (rf 4 iL (af (cx av (af (ag CQ (ag da (dV 6) (dC (.int 9))) (dC (.int 6))) (af (ag bF (dC (.int 1)) (ag da (ag jH (dV 6) (dC (.int 72))) (bf eg (dV 7)))) (af (cP 7) aP)))) aP)) (cU 5 (ag bF (dV 5) (dC (.int 1)))))))))
noncomputable def pY(F_law_folded bM F_law_cell_at av:List PV->Option PV):aY:=(ba (nV 4 (Av (af (cx bM (af (ag lP (dV 3) (ag da (cx F_law_cell_at (af (cP 0) (af (cP 1) aP))) (bf eg (dV 3)))) aP)) aP))) (ba (cU 5 (dC (.int 0))) (ba (rg (nList (BL (dV 0) (bX (ag bF (dV 1) (dC (.int 1)))) (bX (ag bF (dV 1) (dV 2))))) (b0 6) (i7 F_law_folded bM F_law_cell_at av)) (ba (Hm 4) (bZ (cx F_law_folded (af (cP 4) (af (cx F_law_cell_at (af (cP 0) (af (dC (.int 1)) aP))) aP))))))))
noncomputable def F_law_built:List PV->Option PV:=fn false 9 4 (pY F_law_folded bM F_law_cell_at av)
noncomputable def oo:List (Str×Int):=[("all(",1),("any(",1),("1 of (",1),("2 of (",2),("3 of (",3),("4 of (",4),("5 of (",5),("6 of (",6),("7 of (",7),("8 of (",8)]
noncomputable def kF:List PV:=[.str "all(",.str "any(",.str "1 of (",.str "2 of (",.str "3 of (",.str "4 of (",.str "5 of (",.str "6 of (",.str "7 of (",.str "8 of ("]
noncomputable def ig:aY:=(ba (cU 2 (dC (.int 0))) (ba (rg (B3 (cP 0) (cP 1)) (pf (b0 3) (b0 4)) (ba (jD (tV (ag l8 (dV 3) (dV 4))) rb cI) (cU 2 (ag B7 (dV 2) (dC (.int 1)))))) (bZ (cP 2))))
noncomputable def cb:List PV->Option PV:=fn false 5 2 ig
noncomputable def tP:Den:=bf (gF kn "signs") (dV 0)
noncomputable def kI:Den:=bf (gF kn "at") (dV 0)
noncomputable def yV:Den:=bf (gF kn "words") (dV 0)
noncomputable def wb:aY:=bZ (ag oW (jJ tP (bX kI) (bX (ag bF kI (dC (.int 1))))) (dV 1))
noncomputable def fG:List PV->Option PV:=fn false 2 2 wb
noncomputable def kJ:dB:=fj (rE 1 (jJ tP (bX kI) eW)) (fj (rE 2 (bf ml (dZ (nList yV) dr (cx cb (af (cP 2) (af (cP 0) aP)))))) (fj (AG (cP 2)) (fj (AH (tV (ag ra (jJ (dV 1) eW (bX (dV 2))) yV)) jL kD) (yG (jJ (dV 1) eW (bX (dV 2)))))))
noncomputable def eC:FQ:=qv false 3 1 kJ
noncomputable def kK:dB:=fj (AH (nQ (tV (eX (pS fG) (cP 0) (af (cP 1) aP)))) jL kD) (AG (dC (.int 1)))
noncomputable def cc:FQ:=qv false 2 2 kK
noncomputable def gf:aY:=(ba (jD (tV (ag oW (dV 0) (dC (.str "all(")))) (bZ (bf yi (dV 1))) cI) (ba (jD (tV (ag oW (dV 0) (dC (.str "any(")))) (bZ (bf yj (dV 1))) cI) (bZ (ag ri (bf (yE oo) (dV 0)) (dV 1)))))
noncomputable def aX:List PV->Option PV:=fn false 2 2 gf
noncomputable def pF:ef:=xU (tV (ag GS (bf eg (dV 2)) (dV 1))) (nQ (tV (eX (pS fG) (cP 0) (af (dC (.str ")")) aP))))
noncomputable def pG(FT:FQ):dB:=fj (AH (tV (ag oW (bf eg (dV 2)) (dC (.int 8)))) jL kD) (fj (og (fL cc (af (dC (.str ",")) aP))) (fj (og (fL cc (af (dC (.str " ")) aP))) (EY 2 (fL FT aP))))
noncomputable def dO(FT:FQ):dB:=fj (rG 2 (fL FT aP)) (fj (i4 pF (pG FT) 10) (fj (og (fL cc (af (dC (.str ")")) aP))) (yI 2)))
noncomputable def eD(FP:FQ):dB:=fj (yJ 1 (fL eC aP)) (fj (AH (tV (bf (vY oo) (dV 1))) (yH (bf BN (dV 1))) kD) (yN aX (cP 1) (fL FP (af (bf (yE oo) (dV 1)) aP))))
noncomputable def cA:Nat->FQ
 |0=>λ_ _ _=>none
 |n+1=>qv false 2 1 (eD (qv true 3 2 (dO (cA n))))
noncomputable def mX:dB:=AH (tV (ag GS kI (bf eg tP))) jL kD
noncomputable def fm:FQ:=qv false 1 1 mX
noncomputable def kL:List PV->Option Rg:=vi 3 3 (ag bF (bf yd (dV 1)) (dC (.lst kF))) (cP 2)
noncomputable def AK:aY:=E2 2 3 kL (cA 24) fm (af (cP 0) (af (cP 1) aP))
noncomputable def fq:List PV->Option PV:=fn false 4 2 AK
noncomputable def gG(aV:List PV->Option PV):aY:=(jD (nQ (tV (cx aV (af (ag lP (dV 0) (dV 2)) (af (ag lP (dV 1) (dV 2)) aP))))) (bZ (dC (.bl false))) cI)
noncomputable def mW(aV:List PV->Option PV):aY:=(ba (jD (xU (tV (bf (lQ 4) (dV 1))) (tV (bf (lQ 3) (dV 1)))) (ba (jD (xU (tV (ag l8 (bf (lQ 4) (dV 0)) (bf (lQ 4) (dV 1)))) (tV (ag l8 (bf (lQ 3) (dV 0)) (bf (lQ 3) (dV 1))))) (bZ (dC (.bl false))) cI) (ba (jD (tV (ag l8 (bf eg (dV 0)) (bf eg (dV 1)))) (bZ (dC (.bl false))) cI) (ba (rg (mi (bf eg (dV 1))) (b0 2) (gG aV)) (bZ (dC (.bl true)))))) cI) (ba (jD (tV (bf (lQ 1) (dV 1))) (bZ (jz (bf (lQ 1) (dV 0)) (ag oW (dV 0) (dV 1)))) cI) (ba (jD (tV (bf (lQ 0) (dV 1))) (bZ (jz (bf (lQ 0) (dV 0)) (jz (Eh (bf (lQ 1) (dV 0))) (ag oW (dV 0) (dV 1))))) cI) (ba (jD (tV (bf (lQ 2) (dV 1))) (bZ (jz (bf (lQ 2) (dV 0)) (ag oW (dV 0) (dV 1)))) cI) (bZ (jz (bf yc (dV 1)) (bf yc (dV 0))))))))
noncomputable def cg:Nat->List PV->Option PV
 |0=>λ_=>none
 |n+1=>fn false 3 2 (mW (cg n))
noncomputable def aV:List PV->Option PV:=cg 50
noncomputable def wo(F_law_roll F_law_built fq aV:List PV->Option PV)(bP cB:Nat->List PV->Option PV):aY:=(ba (cU 7 (cx fq (af (cP 1) (af (cP 4) aP)))) (ba (jD (xU (nQ (tV (bf Lm (dV 7)))) (nQ (tV (cx aV (af (eX bP (cP 7) aP) (af (cP 3) aP)))))) (bZ (dC (.bl false))) cI) (ba (cU 8 (eX cB (cP 7) aP)) (jD (xU (nQ (tV (bf (lQ 2) (dV 8)))) (tV (ag l8 (dV 8) (dV 4)))) (bZ (dC (.bl false))) cI))))
noncomputable def JH(F_law_roll F_law_built fq aV:List PV->Option PV)(bP cB:Nat->List PV->Option PV):aY:=(ba (cU 1 (cx F_law_roll (af (cP 0) aP))) (ba (NQ (Ei [(b0 2),(b0 3),(b0 4),(b0 5)]) (cx F_law_built (af (cP 0) (af (dC (.int 6)) (af (dC (.int 24)) (af (cP 1) aP)))))) (ba (rg (mi (dC (.int 2))) (b0 6) (wo F_law_roll F_law_built fq aV bP cB)) (bZ (dC (.bl true))))))
noncomputable def Cm:List PV->Option PV:=fn false 9 1 (JH F_law_roll F_law_built fq aV bP cB)
noncomputable def top(i:Nat):Stmt:=PySem.Challenge.pw_signright_k22_rules_read.main.body.getD i (.Pass ⟨0,0,0,0⟩)
noncomputable def aq(i j:Nat):Stmt:=HN (top i) j
structure Bl(mg:Str->Option Value):Prop where
 bool:mg "bool" =none
 int:mg "int" =none
 isinstance:mg "isinstance" =none
 len:mg "len" =none
 list:mg "list" =none
 max:mg "max" =none
 range:mg "range" =none
 str:mg "str" =none
 tuple:mg "tuple" =none
 zip:mg "zip" =none
 g_MOST_PARTS:∃t,mg "MOST_PARTS" =some (.int 8 t)
structure Ed(K:PySem.W.Frag)(mg:Str->Option Value)(x:Str)(st:Stmt)(ps:List Str)(f:Addr)(fd:FuncData):Prop where
 F:L2.qt K x x st f fd
 b:L2.Binds K fd ps []
 m:mg x=some (.ref f)
section
variable{P:Program}{w:World}{K:PySem.W.Frag}{mg:Str->Option Value}{base:Heap}{κ:Kl}{CR CC dv dD dE dF de:Addr}{oB rT rV rW y6:FuncData}{b6 cF b7 cG ai ak bR b8 bS b9 bA eE eF dG eG bT c6 eH dH pK df vq:Addr}{i8 jP i9 jQ cv cM ik ja il jb cj iP iQ gJ iR dw fU iS gK Co fz FN:FuncData}
theorem my:aN ["self"] ["self"] (ae (aq 8 1)):=⟨rfl,rfl,rfl,by decide+kernel,rfl,by decide+kernel,by decide+kernel⟩
theorem tR{k0:Nat}{aK:Nat->List PV->Option PV}(y7:1<=k0)(B:Bl mg)(dQ:Em K "shape" "All.shape" (aq 8 1) ["self"] b6 i8)(C:km K mg κ CR CC dv dD dE dF de)(bt:cL P w K mg base κ false "shapes_of_parts" k0 ["self"] aK):aL P w K mg base cm (k0+1) b6 i8 ["self"] (fK K κ false (fn false 1 1 (ot aK))):=
 bG dQ.F my λdY A outer s H E hr=>have nd:=my.nd;(aE (bx (fN (ah aZ (ah (eY bt hr (aM 0)) aT)))))
theorem oC:aN ["self"] ["self"] (ae (aq 8 2)):=⟨rfl,rfl,rfl,by decide+kernel,rfl,by decide+kernel,by decide+kernel⟩
theorem wq{k0:Nat}{aR:Nat->List PV->Option PV}(y7:1<=k0)(B:Bl mg)(eI:Em K "text" "All.text" (aq 8 2) ["self"] cF jP)(C:km K mg κ CR CC dv dD dE dF de)(bH:cL P w K mg base κ false "text_of_parts" k0 ["self"] aR):aL P w K mg base cm (k0+1) cF jP ["self"] (fK K κ false (fn false 1 1 (pV aR))):=
 bG eI.F oC λdY A outer s H E hr=>have nd:=oC.nd;(aE (bx (bj (DE.b (bj (DE.b aZ) (DE.b (eY bH hr (aM 0))))) (DE.b aZ))))
theorem mz:aN ["self"] ["self"] (ae (aq 9 1)):=⟨rfl,rfl,rfl,by decide+kernel,rfl,by decide+kernel,by decide+kernel⟩
theorem tS{k0:Nat}{aK:Nat->List PV->Option PV}(y7:1<=k0)(B:Bl mg)(dR:Em K "shape" "Any.shape" (aq 9 1) ["self"] b7 i9)(C:km K mg κ CR CC dv dD dE dF de)(bt:cL P w K mg base κ false "shapes_of_parts" k0 ["self"] aK):aL P w K mg base cm (k0+1) b7 i9 ["self"] (fK K κ false (fn false 1 1 (ou aK))):=
 bG dR.F mz λdY A outer s H E hr=>have nd:=mz.nd;(aE (bx (fN (ah aZ (ah (eY bt hr (aM 0)) aT)))))
theorem oE:aN ["self"] ["self"] (ae (aq 9 2)):=⟨rfl,rfl,rfl,by decide+kernel,rfl,by decide+kernel,by decide+kernel⟩
theorem wu{k0:Nat}{aR:Nat->List PV->Option PV}(y7:1<=k0)(B:Bl mg)(eJ:Em K "text" "Any.text" (aq 9 2) ["self"] cG jQ)(C:km K mg κ CR CC dv dD dE dF de)(bH:cL P w K mg base κ false "text_of_parts" k0 ["self"] aR):aL P w K mg base cm (k0+1) cG jQ ["self"] (fK K κ false (fn false 1 1 (pW aR))):=
 bG eJ.F oE λdY A outer s H E hr=>have nd:=oE.nd;(aE (bx (bj (DE.b (bj (DE.b aZ) (DE.b (eY bH hr (aM 0))))) (DE.b aZ))))
theorem d0:aN ["self"] ["self"] (ae (aq 7 3)):=⟨rfl,rfl,rfl,by decide+kernel,rfl,by decide+kernel,by decide+kernel⟩
theorem cw{k0:Nat}{bP:Nat->List PV->Option PV}(y7:1<=k0)(B:Bl mg)(az:Em K "shapes_of_parts" "Counting.shapes_of_parts" (aq 7 3) ["self"] ai cv)(C:km K mg κ CR CC dv dD dE dF de)(gL:cL P w K mg base κ false "shape" k0 ["self"] bP):aL P w K mg base cm (k0+1) ai cv ["self"] (fK K κ false (fn false 1 1 (bq bP))):=
 bG az.F d0 λdY A outer s H E hr=>have nd:=d0.nd;(aE (bx (rB (DO.b (jK (BQ (DE.b (dN C.fld (C.ic _) (aa 0)))) (ae (aq 7 3)) ["self"] ["self"] (λex C s H=>(eY gL hr (aM 0))))) B.tuple)))
theorem eK:aN ["self"] ["self"] (ae (aq 7 4)):=⟨rfl,rfl,rfl,by decide+kernel,rfl,by decide+kernel,by decide+kernel⟩
theorem cN{k0:Nat}{cB:Nat->List PV->Option PV}(y7:1<=k0)(B:Bl mg)(aC:Em K "text_of_parts" "Counting.text_of_parts" (aq 7 4) ["self"] ak cM)(C:km K mg κ CR CC dv dD dE dF de)(jR:cL P w K mg base κ false "text" k0 ["self"] cB):aL P w K mg base cm (k0+1) ak cM ["self"] (fK K κ false (fn false 1 1 (bB cB))):=
 bG aC.F eK λdY A outer s H E hr=>have nd:=eK.nd;(aE (bx (BW (DE.b aZ) (DO.b (jK (BQ (DE.b (dN C.fld (C.ic _) (aa 0)))) (ae (aq 7 4)) ["self"] ["self"] (λex C s H=>(eY jR hr (aM 0))))))))
theorem kN:aN ["self"] ["self"] (ae (aq 6 1)):=⟨rfl,rfl,rfl,by decide+kernel,rfl,by decide+kernel,by decide+kernel⟩
theorem rX{k0:Nat}(y7:1<=k0)(B:Bl mg)(dg:Em K "shape" "Hand.shape" (aq 6 1) ["self"] bR ik)(C:km K mg κ CR CC dv dD dE dF de):aL P w K mg base cm (k0+1) bR ik ["self"] (fK K κ false (fn false 1 1 (mv))):=
 bG dg.F kN λdY A outer s H E hr=>have nd:=kN.nd;(aE (bx (fN (ah aZ (ah (dN C.fld (C.ic _) (aa 0)) aT)))))
theorem mB:aN ["self"] ["self"] (ae (aq 6 2)):=⟨rfl,rfl,rfl,by decide+kernel,rfl,by decide+kernel,by decide+kernel⟩
theorem tT{k0:Nat}(y7:1<=k0)(B:Bl mg)(dS:Em K "text" "Hand.text" (aq 6 2) ["self"] b8 ja)(C:km K mg κ CR CC dv dD dE dF de):aL P w K mg base cm (k0+1) b8 ja ["self"] (fK K κ false (fn false 1 1 (oy))):=
 bG dS.F mB λdY A outer s H E hr=>have nd:=mB.nd;(aE (bx (dN C.fld (C.ic _) (aa 0))))
theorem kO:aN ["self"] ["self"] (ae (aq 10 1)):=⟨rfl,rfl,rfl,by decide+kernel,rfl,by decide+kernel,by decide+kernel⟩
theorem rY{k0:Nat}{aK:Nat->List PV->Option PV}(y7:1<=k0)(B:Bl mg)(dh:Em K "shape" "Some.shape" (aq 10 1) ["self"] bS il)(C:km K mg κ CR CC dv dD dE dF de)(bt:cL P w K mg base κ false "shapes_of_parts" k0 ["self"] aK):aL P w K mg base cm (k0+1) bS il ["self"] (fK K κ false (fn false 1 1 (mx aK))):=
 bG dh.F kO λdY A outer s H E hr=>have nd:=kO.nd;(aE (bx (fN (ah aZ (ah (dN C.fld (C.ic _) (aa 0)) (ah (eY bt hr (aM 0)) aT))))))
theorem mC:aN ["self"] ["self"] (ae (aq 10 2)):=⟨rfl,rfl,rfl,by decide+kernel,rfl,by decide+kernel,by decide+kernel⟩
theorem tU{k0:Nat}{aR:Nat->List PV->Option PV}(y7:1<=k0)(B:Bl mg)(dU:Em K "text" "Some.text" (aq 10 2) ["self"] b9 jb)(C:km K mg κ CR CC dv dD dE dF de)(bH:cL P w K mg base κ false "text_of_parts" k0 ["self"] aR):aL P w K mg base cm (k0+1) b9 jb ["self"] (fK K κ false (fn false 1 1 (oz aR))):=
 bG dU.F mC λdY A outer s H E hr=>have nd:=mC.nd;(aE (bx (bj (DE.b (bj (DE.b (bj (DE.b (BX (DE.b (dN C.fld (C.ic _) (aa 0))) B.str)) (DE.b aZ))) (DE.b (eY bH hr (aM 0))))) (DE.b aZ))))
theorem kP:aN ["_law_script","_law_k"] ["_law_script","_law_k"] (ae (top 19)):=⟨rfl,rfl,rfl,by decide+kernel,rfl,by decide+kernel,by decide+kernel⟩
theorem rZ(B:Bl mg)(aD:Ed K mg "_law_cell_at" (top 19) ["_law_script","_law_k"] bA cj):aL P w K mg base cm 1 bA cj ["_law_script","_law_k"] (fK K κ false F_law_cell_at):=
 bG aD.F kP λdY A outer s H E hr=>have nd:=kP.nd;(au (fJ (dd (BP (aa 1) (DE.b (fD (aa 0) B.len)))) (aE (bx (hV (aa 0) (aa 1)))) dM) (aE (bx aA)))
theorem pZ:aN ["_law_base_here","_law_place","_law_size","_law_k","_law_letters","_law_other"] ["_law_base_here","_law_place","_law_size","_law_k"] (ae (top 21)):=⟨rfl,rfl,rfl,by decide+kernel,rfl,by decide+kernel,by decide+kernel⟩
theorem y8(B:Bl mg)(eL:Ed K mg "_law_name" (top 21) ["_law_base_here","_law_place","_law_size","_law_k"] eE iP):aL P w K mg base cm 1 eE iP ["_law_base_here","_law_place","_law_size","_law_k"] (fK K κ false bL):=
 bG eL.F pZ λdY A outer s H E hr=>have nd:=pZ.nd;(au (bK 4 nd aZ) (au (bK 5 nd (hV (aa 4) (DE.b (dt (DE.b (bj (DE.b (HH (aa 4) (DE.b (hV (aa 0) (aa 1))))) (DE.b (ph (DE.b aA) (aa 3))))) (DE.b aA))))) (aE (bx (bj (DE.b (bj (DE.b (fv (aa 0) fT (dj (aa 1)))) (aa 5))) (DE.b (fv (aa 0) (dj (DE.b (bj (aa 1) (DE.b aA)))) (dj (aa 2)))))))))
theorem p6:aN ["_law_cell","_law_size","_law_number","_law_found","_law_k"] ["_law_cell","_law_size"] (ae (top 20)):=⟨rfl,rfl,rfl,by decide+kernel,rfl,by decide+kernel,by decide+kernel⟩
theorem y9(B:Bl mg)(eN:Ed K mg "_law_base" (top 20) ["_law_cell","_law_size"] eF iQ):aL P w K mg base cm 1 eF iQ ["_law_cell","_law_size"] (fK K κ false F_law_base):=
 bG eN.F p6 λdY A outer s H E hr=>have nd:=p6.nd;(au (bK 2 nd (dt (DE.b (bj (DE.b (ph (DE.b (dt (aa 0) (DE.b aA))) (DE.b aA))) (DE.b aA))) (DE.b aA))) (au (bK 3 nd aZ) (au (pA (qF (aa 1) B.range) (fB 4 nd) (au (bK 2 nd (dt (DE.b (bj (DE.b (bj (DE.b (bj (DE.b (ph (aa 2) (aa 2))) (DE.b (ph (DE.b aA) (aa 2))))) (aa 4))) (DE.b aA))) (DE.b aA))) (aE (bK 3 nd (bj (aa 3) (DE.b (hV (DE.b aZ) (DE.b (dt (aa 2) (DE.b aA)))))))))) (aE (bx (aM 3))))))
theorem oF:aN ["_law_script","_law_at","_law_many","_law_cell","_law_size","_law_more","_law_word","_law_base_here","_law_names_here","_law_k","_law_name_here"] ["_law_script","_law_at","_law_many"] (ae (top 22)):=⟨rfl,rfl,rfl,by decide+kernel,rfl,by decide+kernel,by decide+kernel⟩
theorem wx(B:Bl mg)(dI:Ed K mg "_law_names" (top 22) ["_law_script","_law_at","_law_many"] dG gJ)(aD:Ed K mg "_law_cell_at" (top 19) ["_law_script","_law_k"] bA cj)(bE:aL P w K mg base cm 1 bA cj ["_law_script","_law_k"] (fK K κ false F_law_cell_at))(eL:Ed K mg "_law_name" (top 21) ["_law_base_here","_law_place","_law_size","_law_k"] eE iP)(mY:aL P w K mg base cm 1 eE iP ["_law_base_here","_law_place","_law_size","_law_k"] (fK K κ false bL))(eN:Ed K mg "_law_base" (top 20) ["_law_cell","_law_size"] eF iQ)(mZ:aL P w K mg base cm 1 eF iQ ["_law_cell","_law_size"] (fK K κ false F_law_base)):aL P w K mg base cm 2 dG gJ ["_law_script","_law_at","_law_many"] (fK K κ true fw):=
 bG dI.F oF λdY A outer s H E hr=>have nd:=oF.nd;(au (bK 3 nd (cQ (bE.mono (by decide)) hr aD.m aD.F.kp aD.b (ah (aM 0) (ah (aM 1) aT)))) (au (bK 4 nd (bj (DE.b aA) (DE.b (dt (aa 3) (DE.b aA))))) (au (bK 5 nd (cQ (bE.mono (by decide)) hr aD.m aD.F.kp aD.b (ah (aM 0) (ah (bj (aa 1) (DE.b aA)) aT)))) (au (bK 6 nd (hV (DO.b (Az (ah aZ (ah aZ (ah aZ (ah aZ (ah aZ (ah aZ (ah aZ (ah aZ aT)))))))))) (DE.b (dt (aa 5) (DE.b aA))))) (au (bK 7 nd (fv (DE.b (bj (aa 6) (DE.b (cQ (mZ.mono (by decide)) hr eN.m eN.F.kp eN.b (ah (mT (aa 5) (DE.b aA)) (ah aA aT)))))) fT (dj (DE.b aA)))) (au (qE 8 nd (Az aT)) (au (pA (qF (aa 2) B.range) (fB 9 nd) (au (bK 10 nd (cQ (mY.mono (by decide)) hr eL.m eL.F.kp eL.b (ah (aM 7) (ah (dt (DE.b (mT (aa 3) (DE.b aA))) (aa 4)) (ah (aM 4) (ah (aM 9) aT)))))) (au (fJ (dd (mm hr (DE.b (dt (DE.b (mT (aa 3) (DE.b aA))) (DE.b aA))) (DE.b aA))) (aE (bK 10 nd (fv (aa 7) fT (dj (DE.b (bj (aa 9) (DE.b aA))))))) dM) (au (fJ (dd (EA (aa 10) (DE.b (fN (ah aZ (ah aZ (ah aZ aT))))))) (aE (bK 10 nd (HM (aa 10) (DE.b (vV (DE.b aA)))))) dM) (aE (lT 8 (ah (aM 10) aT))))))) (aE (Hu 8)))))))))
theorem p7:aN ["_law_script"] ["_law_script"] (ae (top 23)):=⟨rfl,rfl,rfl,by decide+kernel,rfl,by decide+kernel,by decide+kernel⟩
theorem za(B:Bl mg)(eO:Ed K mg "_law_roll" (top 23) ["_law_script"] eG iR)(dI:Ed K mg "_law_names" (top 22) ["_law_script","_law_at","_law_many"] dG gJ)(kQ:aL P w K mg base cm 2 dG gJ ["_law_script","_law_at","_law_many"] (fK K κ true fw))(aD:Ed K mg "_law_cell_at" (top 19) ["_law_script","_law_k"] bA cj)(bE:aL P w K mg base cm 1 bA cj ["_law_script","_law_k"] (fK K κ false F_law_cell_at)):aL P w K mg base cm 3 eG iR ["_law_script"] (fK K κ false F_law_roll):=
 bG eO.F p7 λdY A outer s H E hr=>have nd:=p7.nd;(aE (bx (rB (DO.b (Hz (kQ.mono (by decide)) hr dI.m dI.F.kp dI.b (ah (aM 0) (ah aA (ah (bj (DE.b aA) (DE.b (dt (DE.b (cQ (bE.mono (by decide)) hr aD.m aD.F.kp aD.b (ah (aM 0) (ah aA aT)))) (DE.b aA)))) aT))))) B.tuple)))
theorem kR:aN ["_law_kind","_law_many","_law_items","_law_parts","_law_shapes","_law_texts","_law_deep","_law_found"] ["_law_kind","_law_many","_law_items"] (ae (top 25)):=⟨rfl,rfl,rfl,by decide+kernel,rfl,by decide+kernel,by decide+kernel⟩
theorem r0(B:Bl mg)(bh:Ed K mg "_law_counted" (top 25) ["_law_kind","_law_many","_law_items"] bT dw)(C:km K mg κ CR CC dv dD dE dF de)(Dl:aL P w K mg base cm 2 dD rT ["self","parts"] (kC K (κ.adr 1) λys=>(ys.length:Nat)))(Dm:Binds K rT ["self","parts"] [])(Dn:aL P w K mg base cm 2 dE rV ["self","parts"] (kC K (κ.adr 2) λ_=>1))(Dp:Binds K rV ["self","parts"] [])(Dq:aL P w K mg base cm 2 dF rW ["self","many","parts"] (mq K (κ.adr 3)))(Dr:Binds K rW ["self","many","parts"] []):aL P w K mg base cm 6 bT dw ["_law_kind","_law_many","_law_items"] (fK K κ false av):=
 bG bh.F kR λdY A outer s H E hr=>have nd:=kR.nd;(au (ED 3 nd (jA (aa 2)) (ae (top 25)) ["_law_kind","_law_many","_law_items","_law_parts","_law_shapes","_law_texts","_law_deep","_law_found"] ["_law_kind","_law_many","_law_items","_law_parts","_law_shapes","_law_texts","_law_deep","_law_found"] (λex C s H=>(hV (aa 0) (DE.b aA)))) (au (bK 4 nd (rB (DO.b (jK (jA (aa 2)) (ae (top 25)) ["_law_kind","_law_many","_law_items","_law_parts","_law_shapes","_law_texts","_law_deep","_law_found"] ["_law_kind","_law_many","_law_items","_law_parts","_law_shapes","_law_texts","_law_deep","_law_found"] (λex C s H=>(hV (aa 0) (DE.b aA))))) B.tuple)) (au (bK 5 nd (bj (DE.b (BW (DE.b aZ) (DO.b (jK (jA (aa 2)) (ae (top 25)) ["_law_kind","_law_many","_law_items","_law_parts","_law_shapes","_law_texts","_law_deep","_law_found"] ["_law_kind","_law_many","_law_items","_law_parts","_law_shapes","_law_texts","_law_deep","_law_found"] (λex C s H=>(hV (aa 0) (DE.b aA))))))) (DE.b aZ))) (au (bK 6 nd (bj (DE.b aA) (DE.b (vX (DO.b (jK (jA (aa 2)) (ae (top 25)) ["_law_kind","_law_many","_law_items","_law_parts","_law_shapes","_law_texts","_law_deep","_law_found"] ["_law_kind","_law_many","_law_items","_law_parts","_law_shapes","_law_texts","_law_deep","_law_found"] (λex C s H=>(hV (aa 0) (DE.b aA))))) B.max)))) (au (fJ (dd (mm hr (aa 0) (DE.b aA))) (aE (bK 7 nd (fN (ah (yy C.kA Dl (by rw[C.fld];rfl) (hr.mono (by decide)) C.gA Dm (aa 3)) (ah (fN (ah aZ (ah (aM 4) aT))) (ah (bj (DE.b aZ) (aa 5)) (ah (aM 6) aT))))))) (aE (fJ (dd (mm hr (aa 0) (DE.b aA))) (aE (bK 7 nd (fN (ah (yz C.kY Dn (by rw[C.fld];rfl) (hr.mono (by decide)) C.gY Dp (aa 3)) (ah (fN (ah aZ (ah (aM 4) aT))) (ah (bj (DE.b aZ) (aa 5)) (ah (aM 6) aT))))))) (aE (bK 7 nd (fN (ah (vf C.kS Dq (by rw[C.fld];rfl) (hr.mono (by decide)) C.gS Dr (aa 1) (aa 3)) (ah (fN (ah aZ (ah (aM 1) (ah (aM 4) aT)))) (ah (bj (DE.b (bj (DE.b (BX (aa 1) B.str)) (DE.b aZ))) (aa 5)) (ah (aM 6) aT)))))))))) (au (Eu 3) (aE (bx (aM 7)))))))))
theorem mD:aN ["_law_pile","_law_cell","_law_number","_law_items"] ["_law_pile","_law_cell"] (ae (top 26)):=⟨rfl,rfl,rfl,by decide+kernel,rfl,by decide+kernel,by decide+kernel⟩
theorem tW(B:Bl mg)(c7:Ed K mg "_law_folded" (top 26) ["_law_pile","_law_cell"] c6 fU)(bh:Ed K mg "_law_counted" (top 25) ["_law_kind","_law_many","_law_items"] bT dw)(d6:aL P w K mg base cm 6 bT dw ["_law_kind","_law_many","_law_items"] (fK K κ false av)):aL P w K mg base cm 7 c6 fU ["_law_pile","_law_cell"] (fK K κ false F_law_folded):=
 bG c7.F mD λdY A outer s H E hr=>have nd:=mD.nd;(au (bK 2 nd (bj (DE.b aA) (DE.b (dt (aa 1) (DE.b aA))))) (au (Ex 1000 (dd (Ep (DE.b (fD (aa 0) B.len)) (DE.b aA))) (au (bK 2 nd (dt (DE.b (bj (DE.b (ph (aa 2) (aa 2))) (DE.b (ph (DE.b aA) (aa 2))))) (DE.b aA))) (au (bK 3 nd (DO.e (kB (aa 0) (dj (DE.b (vV (DE.b aA)))) fT))) (au (qE 0 nd (kB (aa 0) fT (dj (DE.b (vV (DE.b aA)))))) (aE (lT 0 (ah (cQ (d6.mono (by decide)) hr bh.m bh.F.kp bh.b (ah (dt (aa 2) (DE.b aA)) (ah (bj (DE.b aA) (DE.b (dt (DE.b (mT (aa 2) (DE.b aA))) (DE.b (fD (aa 3) B.len))))) (ah (aM 3) aT)))) aT))))))) (aE (bx (hV (aa 0) (DE.b aA))))))
theorem p8:aN ["_law_name_here"] ["_law_name_here"] (ae (top 24)):=⟨rfl,rfl,rfl,by decide+kernel,rfl,by decide+kernel,by decide+kernel⟩
theorem zb(B:Bl mg)(cO:Ed K mg "_law_hand" (top 24) ["_law_name_here"] eH iS)(C:km K mg κ CR CC dv dD dE dF de)(wy:aL P w K mg base cm 1 dv oB ["self","name"] (mV (κ.adr 0)))(wz:Binds K oB ["self","name"] []):aL P w K mg base cm 6 eH iS ["_law_name_here"] (fK K κ false bM):=
 bG cO.F p8 λdY A outer s H E hr=>have nd:=p8.nd;(aE (bx (fN (ah (ve C.kH wy (by rw[C.fld];rfl) (hr.mono (by decide)) C.gH wz (aa 0)) (ah (fN (ah aZ (ah (aM 0) aT))) (ah (aM 0) (ah aA aT)))))))
theorem oG:aN ["_law_script","_law_at","_law_size","_law_roll_here","_law_pile","_law_heads","_law_cell","_law_items","_law_deep"] ["_law_script","_law_at","_law_size","_law_roll_here"] (ae (top 27)):=⟨rfl,rfl,rfl,by decide+kernel,rfl,by decide+kernel,by decide+kernel⟩
theorem wA(B:Bl mg)(dJ:Ed K mg "_law_built" (top 27) ["_law_script","_law_at","_law_size","_law_roll_here"] dH gK)(c7:Ed K mg "_law_folded" (top 26) ["_law_pile","_law_cell"] c6 fU)(jS:aL P w K mg base cm 7 c6 fU ["_law_pile","_law_cell"] (fK K κ false F_law_folded))(cO:Ed K mg "_law_hand" (top 24) ["_law_name_here"] eH iS)(jT:aL P w K mg base cm 6 eH iS ["_law_name_here"] (fK K κ false bM))(aD:Ed K mg "_law_cell_at" (top 19) ["_law_script","_law_k"] bA cj)(bE:aL P w K mg base cm 1 bA cj ["_law_script","_law_k"] (fK K κ false F_law_cell_at))(bh:Ed K mg "_law_counted" (top 25) ["_law_kind","_law_many","_law_items"] bT dw)(d6:aL P w K mg base cm 6 bT dw ["_law_kind","_law_many","_law_items"] (fK K κ false av)):aL P w K mg base cm 8 dH gK ["_law_script","_law_at","_law_size","_law_roll_here"] (fK K κ false F_law_built):=
 bG dJ.F oG λdY A outer s H E hr=>have nd:=oG.nd;(au (qE 4 nd (Az (ah (cQ (jT.mono (by decide)) hr cO.m cO.F.kp cO.b (ah (hV (aa 3) (DE.b (dt (DE.b (cQ (bE.mono (by decide)) hr aD.m aD.F.kp aD.b (ah (aM 0) (ah (aM 1) aT)))) (DE.b (fD (aa 3) B.len))))) aT)) aT))) (au (bK 5 nd aA) (au (pA (Hx (DO.e (kB (aa 0) (dj (DE.b (bj (aa 1) (DE.b aA)))) (dj (DE.b (bj (aa 1) (aa 2))))))) (fB 6 nd) (au (bK 7 nd (DO.e (kB (aa 4) (dj (DE.b (vV (DE.b (bj (DE.b aA) (DE.b (dt (DE.b (mT (aa 6) (DE.b aA))) (DE.b aA)))))))) fT))) (au (bK 8 nd (vX (DO.b (jK (jA (aa 7)) (ae (top 27)) ["_law_script","_law_at","_law_size","_law_roll_here","_law_pile","_law_heads","_law_cell","_law_items","_law_deep"] ["_law_script","_law_at","_law_size","_law_roll_here","_law_pile","_law_heads","_law_cell","_law_items","_law_deep"] (λex C s H=>(hV (aa 0) (DE.b aA))))) B.max)) (aE (fJ (DW.t (rk (dd (BP (DE.b (dt (aa 6) (DE.b aA))) (DE.b aA))) (rk (dd (Ep (aa 8) (DE.b aA))) (pw (dd (Ep (aa 5) (DE.b aA))))))) (aE (lT 4 (ah (cQ (jT.mono (by decide)) hr cO.m cO.F.kp cO.b (ah (hV (aa 3) (DE.b (dt (DE.b (mT (aa 6) (DE.b aA))) (DE.b (fD (aa 3) B.len))))) aT)) aT))) (au (qE 4 nd (kB (aa 4) fT (dj (DE.b (Eo (DE.b (fD (aa 4) B.len)) (DE.b (fD (aa 7) B.len))))))) (au (lT 4 (ah (cQ (d6.mono (by decide)) hr bh.m bh.F.kp bh.b (ah (Eo (DE.b (dt (aa 6) (DE.b aA))) (DE.b aA)) (ah (bj (DE.b aA) (DE.b (dt (DE.b (mT (aa 6) (DE.b aA))) (DE.b (fD (aa 7) B.len))))) (ah (aM 7) aT)))) aT)) (aE (bK 5 nd (bj (aa 5) (DE.b aA))))))))))) (Ht 4 (aE (bx (cQ (jS.mono (by decide)) hr c7.m c7.F.kp c7.b (ah (aM 4) (ah (cQ (bE.mono (by decide)) hr aD.m aD.F.kp aD.b (ah (aM 0) (ah aA aT))) aT)))))))))
variable{tX qw oH qx:Addr}{zc vt p9 vv:FuncData}
theorem JI:aN ["text","word","signs","one","two"] ["text","word"] (ae (top 14)):=⟨rfl,rfl,rfl,by decide+kernel,rfl,by decide+kernel,by decide+kernel⟩
theorem Oh(hz:mg "zip" =none)(F:qt K "shared_signs" "shared_signs" (top 14) tX zc):aL P w K mg base cm 1 tX zc ["text","word"] (fK K κ false cb):=
 bG F JI λdY A outer s H E hr=>have nd:=JI.nd;(au (bK 2 nd aA) (au (pA (HS (aM 0) (aM 1) hz) (Hy (fB 3 nd) (fB 4 nd)) (au (fJ (dd (yt hr (aa 3) (aa 4))) (aE Es) dM) (aE (yO 2 nd (DE.b aA))))) (aE (bx (aM 2)))))
theorem JJ:aN ["self","sign"] ["self","sign"] (ae (aq 16 2)):=⟨rfl,rfl,rfl,by decide+kernel,rfl,by decide+kernel,by decide+kernel⟩
theorem Oi(C:km K mg κ CR CC dv dD dE dF de)(F:qt K "comes" "Reading.comes" (aq 16 2) oH p9):aL P w K mg base cm 1 oH p9 ["self","sign"] (fK K κ false fG):=
 bG F JJ λdY A outer s H E hr=>have nd:=JJ.nd;(aE (bx (pj (mm hr (DE.b (fv (DE.b (dN C.fld (C.ic _) (aa 0))) (dj (DE.b (dN C.fld (C.ic _) (aa 0)))) (dj (DE.b (bj (DE.b (dN C.fld (C.ic _) (aa 0))) (DE.b aA)))))) (aa 1)))))
theorem JK:aN ["self","rest","reach"] ["self"] (ae (aq 16 1)):=⟨rfl,rfl,rfl,by decide+kernel,rfl,by decide+kernel,by decide+kernel⟩
theorem Oj(V1:mg "max" =none)(C:km K mg κ CR CC dv dD dE dF de)(F:qt K "take_word" "Reading.take_word" (aq 16 1) qw vt)
  (Fs:qt K "shared_signs" "shared_signs" (top 14) tX zc)(ms:mg "shared_signs" =some (.ref tX))(bs:Binds K zc ["text","word"] [])(Gs:aL P w K mg base cm 1 tX zc ["text","word"] (fK K κ false cb)):aL P w K mg base cm 2 qw vt ["self"] (tO K κ false eC):=
 yM F JK λdY A outer s H E hr=>have nd:=JK.nd;have q:=C.q;(du (B6 q 1 nd (fv (DE.b (dN C.fld (C.ic _) (aa 0))) (dj (DE.b (dN C.fld (C.ic _) (aa 0)))) fT)) (du (B6 q 2 nd (vX (DO.b (jK (jA (DE.b (dN C.fld (C.ic _) (aa 0)))) (ae (aq 16 1)) ["self","rest","reach"] ["self","rest","reach"] (λex C s H=>(cQ (Gs.mono (by decide)) hr ms Fs.kp bs (ah (aM 2) (ah (aM 0) aT)))))) V1)) (du (EW q (aM 2)) (du (yK q (dd (EB (DE.b (fv (aa 1) fT (dj (aa 2)))) (DE.b (dN C.fld (C.ic _) (aa 0))))) (fE oi) oh) (fE (HW q (fv (aa 1) fT (dj (aa 2)))))))))
theorem JL:aN ["self","sign"] ["self","sign"] (ae (aq 16 3)):=⟨rfl,rfl,rfl,by decide+kernel,rfl,by decide+kernel,by decide+kernel⟩
theorem Ol(C:km K mg κ CR CC dv dD dE dF de)(F:qt K "take_sign" "Reading.take_sign" (aq 16 3) qx vv)(hm:Meth K (κ.adr 4) "comes" oH)(bc:Binds K p9 ["self","sign"] [])(Gc:aL P w K mg base cm 1 oH p9 ["self","sign"] (fK K κ false fG)):aL P w K mg base cm 2 qx vv ["self","sign"] (tO K κ false cc):=
 yM F JL λdY A outer s H E hr=>have nd:=JL.nd;have q:=C.q;have M:=pT C.rc C.fld hm Gc bc;(du (yK q (pq (hU (BZ M hr (aM 0) (ah (aM 1) aT)))) (fE oi) oh) (fE (EW q aA)))
variable{pL qy m6 tY tZ Om fi:Addr}{qa vx oI Cp Cr JM oB rT rV rW:FuncData}
theorem JN:aN ["opening","parts"] ["opening","parts"] (ae (top 15)):=⟨rfl,rfl,rfl,by decide+kernel,rfl,by decide+kernel,by decide+kernel⟩
theorem Oo(C:km K mg κ CR CC dv dD dE dF de)(D:yD w.params K mg "FEWEST_PARTS" oo)(F:qt K "counting_rule" "counting_rule" (top 15) pL qa)
  (Dl:aL P w K mg base cm 2 dD rT ["self","parts"] (kC K (κ.adr 1) λys=>(ys.length:Nat)))(Dm:Binds K rT ["self","parts"] [])(Dn:aL P w K mg base cm 2 dE rV ["self","parts"] (kC K (κ.adr 2) λ_=>1))(Dp:Binds K rV ["self","parts"] [])(Dq:aL P w K mg base cm 2 dF rW ["self","many","parts"] (mq K (κ.adr 3)))(Dr:Binds K rW ["self","many","parts"] []):aL P w K mg base cm 5 pL qa ["opening","parts"] (fK K κ false aX):=
 bG F JN λdY A outer s H E hr=>have nd:=JN.nd;(au (fJ (dd (mm hr (aa 0) (DE.b aZ))) (aE (bx (yy C.kA Dl (by rw[C.fld];rfl) (hr.mono (by decide)) C.gA Dm (aa 1)))) dM) (au (fJ (dd (mm hr (aa 0) (DE.b aZ))) (aE (bx (yz C.kY Dn (by rw[C.fld];rfl) (hr.mono (by decide)) C.gY Dp (aa 1)))) dM) (aE (bx (vf C.kS Dq (by rw[C.fld];rfl) (hr.mono (by decide)) C.gS Dr (DE.b (B5 D (aa 0))) (aa 1))))))
theorem JO:aN ["self"] ["self"] (ae (aq 16 6)):=⟨rfl,rfl,rfl,by decide+kernel,rfl,by decide+kernel,by decide+kernel⟩
theorem Oq(hl:mg "len" =none)(C:km K mg κ CR CC dv dD dE dF de)(F:qt K "take_end" "Reading.take_end" (aq 16 6) tY Cp):aL P w K mg base cm 1 tY Cp ["self"] (tO K κ false fm):=
 yM F JO λdY A outer s H E hr=>have nd:=JO.nd;have q:=C.q;(fE (yK q (dd (BP (DE.b (dN C.fld (C.ic _) (aa 0))) (DE.b (fD (DE.b (dN C.fld (C.ic _) (aa 0))) hl)))) (fE oi) oh))
theorem JP:aN ["self","fewest","parts"] ["self","fewest"] (ae (aq 16 4)):=⟨rfl,rfl,rfl,by decide+kernel,rfl,by decide+kernel,by decide+kernel⟩
theorem Ot{FT:FQ}{k:Nat}(hk:2<=k)(hl:mg "len" =none)(hM:∃t,mg "MOST_PARTS" =some (.int 8 t))(C:km K mg κ CR CC dv dD dE dF de)(F:qt K "take_parts" "Reading.take_parts" (aq 16 4) qy vx)
  (mc:Meth K (κ.adr 4) "comes" oH)(bc:Binds K p9 ["self","sign"] [])(Gc:aL P w K mg base cm 1 oH p9 ["self","sign"] (fK K κ false fG))(ms:Meth K (κ.adr 4) "take_sign" qx)(bs:Binds K vv ["self","sign"] [])(Gs:aL P w K mg base cm 2 qx vv ["self","sign"] (tO K κ false cc))
  (mr:Meth K (κ.adr 4) "take_rule" m6)(br:Binds K oI ["self"] [])(Gr:aL P w K mg base cm k m6 oI ["self"] (tO K κ false FT)):aL P w K mg base cm (k+1) qy vx ["self","fewest"] (tO K κ true (qv true 3 2 (dO FT))):=
 yM F JP λdY A outer s H E hr=>have nd:=JP.nd;have q:=C.q;have M:=(pT C.rc C.fld mc Gc bc).mono (Nat.le_trans (by decide) hk);have Gs:=Gs.mono hk;(du (EZ 2 nd (rF q mr Gr hr br)) (du (EX q 10 (DW.t (rk (dd (BP (DE.b (fD (aa 2) hl)) (aa 1))) (pw (pq (hU (BZ M hr (aM 0) (ah aZ aT))))))) (du (yK q (dd (mm hr (DE.b (fD (aa 2) hl)) (DE.b (EC hM)))) (fE oi) oh) (du (vZ (qH q ms Gs hr bs (ah aZ aT))) (du (vZ (qH q ms Gs hr bs (ah aZ aT))) (fE (LO 2 (rF q mr Gr hr br))))))) (du (vZ (qH q ms Gs hr bs (ah aZ aT))) (fE (HZ 2)))))
theorem JQ:aN ["self","word"] ["self"] (ae (aq 16 5)):=⟨rfl,rfl,rfl,by decide+kernel,rfl,by decide+kernel,by decide+kernel⟩
theorem Ou{FP:FQ}{k:Nat}(hk:5<=k)(C:km K mg κ CR CC dv dD dE dF de)(D:yD w.params K mg "FEWEST_PARTS" oo)(F:qt K "take_rule" "Reading.take_rule" (aq 16 5) m6 oI)(wy:aL P w K mg base cm 1 dv oB ["self","name"] (mV (κ.adr 0)))(wz:Binds K oB ["self","name"] [])
  (mw:Meth K (κ.adr 4) "take_word" qw)(bw:Binds K vt ["self"] [])(Gw:aL P w K mg base cm 2 qw vt ["self"] (tO K κ false eC))(Fc:qt K "counting_rule" "counting_rule" (top 15) pL qa)(Rv:mg "counting_rule" =some (.ref pL))(Rw:Binds K qa ["opening","parts"] [])(Rx:aL P w K mg base cm 5 pL qa ["opening","parts"] (fK K κ false aX))
  (mp:Meth K (κ.adr 4) "take_parts" qy)(bp:Binds K vx ["self","fewest"] [])(Gp:aL P w K mg base cm k qy vx ["self","fewest"] (tO K κ true FP)):aL P w K mg base cm (k+1) m6 oI ["self"] (tO K κ false (qv false 2 1 (eD FP))):=
 yM F JQ λdY A outer s H E hr=>have nd:=JQ.nd;have q:=C.q;(du (H9 1 nd (rF q mw (Gw.mono (Nat.le_trans (by decide) hk)) hr bw)) (du (yK q (dd (C7 D (aa 1))) (fE (HY (ve C.kH wy (by rw[C.fld];rfl) (hr.mono (Nat.le_trans (by decide) hk)) C.gH wz (aa 1)))) oh) (fE (Ic q (Rx.mono hk) hr Rv Fc.kp Rw (aM 1) (qH q mp Gp hr bp (ah (B5 D (aa 1)) aT))))))
theorem AU{k:Nat}{f:Addr}{fd:FuncData}{ps:List Str}{fr:Bool}:aL P w K mg base cm k f fd ps (tO K κ fr λ_ _ _=>none):=
 have no:∀{vs:List V} {H:Hp} {Q:VK} {E:XK},tO K κ fr (λ_ _ _=>none) vs H Q E->False:=λ⟨_,_,_,_,_,_,_,_,_,_,_,_,_,_,_,_,z,_⟩=>by cases z
 ⟨λ_ _ _ _ h=>(no h).elim,λ_ _ _ _ _ _ _ _ _ _ _ _ _ h=>(no h).elim⟩
theorem FR(hl:mg "len" =none)(hM:∃t,mg "MOST_PARTS" =some (.int 8 t))(C:km K mg κ CR CC dv dD dE dF de)(D:yD w.params K mg "FEWEST_PARTS" oo)(F:qt K "take_rule" "Reading.take_rule" (aq 16 5) m6 oI)(Fp:qt K "take_parts" "Reading.take_parts" (aq 16 4) qy vx)(wy:aL P w K mg base cm 1 dv oB ["self","name"] (mV (κ.adr 0)))(wz:Binds K oB ["self","name"] [])
  (mw:Meth K (κ.adr 4) "take_word" qw)(bw:Binds K vt ["self"] [])(Gw:aL P w K mg base cm 2 qw vt ["self"] (tO K κ false eC))(Fc:qt K "counting_rule" "counting_rule" (top 15) pL qa)(Rv:mg "counting_rule" =some (.ref pL))(Rw:Binds K qa ["opening","parts"] [])(Rx:aL P w K mg base cm 5 pL qa ["opening","parts"] (fK K κ false aX))
  (mc:Meth K (κ.adr 4) "comes" oH)(bc:Binds K p9 ["self","sign"] [])(Gc:aL P w K mg base cm 1 oH p9 ["self","sign"] (fK K κ false fG))(ms:Meth K (κ.adr 4) "take_sign" qx)(bs:Binds K vv ["self","sign"] [])(Gs:aL P w K mg base cm 2 qx vv ["self","sign"] (tO K κ false cc))
  (mr:Meth K (κ.adr 4) "take_rule" m6)(br:Binds K oI ["self"] [])(mp:Meth K (κ.adr 4) "take_parts" qy)(bp:Binds K vx ["self","fewest"] []):∀n:Nat,aL P w K mg base cm (4+2*n) m6 oI ["self"] (tO K κ false (cA n))
 |0=>AU
 |n+1=>Ou (k:=4+2*n+1) (by omega) C D F wy wz mw bw Gw Fc Rv Rw Rx mp bp (Ot (by omega) hl hM C Fp mc bc Gc ms bs Gs mr br (FR hl hM C D F Fp wy wz mw bw Gw Fc Rv Rw Rx mc bc Gc ms bs Gs mr br mp bp n))
theorem JR:aN ["self","roll","text"] ["self","roll","text"] (ae (aq 16 0)):=⟨rfl,rfl,rfl,by decide+kernel,rfl,by decide+kernel,by decide+kernel⟩
theorem FU:(oo.map (·.1)).Nodup:=by decide+kernel
theorem Ov(hL:mg "list" =none)(C:km K mg κ CR CC dv dD dE dF de)(D:yD w.params K mg "FEWEST_PARTS" oo)(F:qt K "__init__" "Reading.__init__" (aq 16 0) tZ Cr):aL P w K mg base cm 1 tZ Cr ["self","roll","text"] (Ie K κ kL):=
 Dd F JR λdY A outer s H E hr=>have nd:=JR.nd;Oc C.q C.q2 (bj (DO.b (HC (aa 1) hL)) (DO.b (EV D FU (by decide) hL))) (aM 2)
theorem JS:aN ["roll","text","reading","rule"] ["roll","text"] (ae (top 17)):=⟨rfl,rfl,rfl,by decide+kernel,rfl,by decide+kernel,by decide+kernel⟩
theorem Ow(C:km K mg κ CR CC dv dD dE dF de)(F:qt K "read" "read" (top 17) Om JM)(M:Mk K (κ.adr 4) tZ)(gm:mg "Reading" =some (.ref (κ.adr 4)))(bi:Binds K Cr ["self","roll","text"] [])(Gi:aL P w K mg base cm 1 tZ Cr ["self","roll","text"] (Ie K κ kL))
  (mr:Meth K (κ.adr 4) "take_rule" m6)(br:Binds K oI ["self"] [])(Gr:aL P w K mg base cm 52 m6 oI ["self"] (tO K κ false (cA 24)))(me:Meth K (κ.adr 4) "take_end" tY)(be:Binds K Cp ["self"] [])(Ge:aL P w K mg base cm 1 tY Cp ["self"] (tO K κ false fm)):aL P w K mg base cm 53 Om JM ["roll","text"] (fK K κ false fq):=
 bG F JS λdY A outer s H E hr=>have nd:=JS.nd;E3 C.q 2 3 nd M (Gi.mono (by decide:1<=51)) hr gm bi mr Gr hr br me (Ge.mono (by decide:1<=52)) hr be (ah (aM 0) (ah (aM 1) aT))
theorem qb:aN ["_law_found","_law_due","_law_k"] ["_law_found","_law_due"] (ae (top 28)):=⟨rfl,rfl,rfl,by decide+kernel,rfl,by decide+kernel,by decide+kernel⟩
theorem oJ(B:Bl mg)(bV:Ed K mg "_law_same" (top 28) ["_law_found","_law_due"] df fz):∀n:Nat,aL P w K mg base cm n df fz ["_law_found","_law_due"] (fK K κ false (cg n))
 |0=>CZ
 |n+1=>have ip:=oJ B bV n;bG bV.F qb λdY A outer s H E hr=>have nd:=qb.nd;(au (fJ (DW.t (rk (hU (gd (aa 1) B.isinstance B.tuple)) (pw (hU (ib (aa 1) B.isinstance B.list))))) (au (fJ (DW.t (rk (dd (yt hr (DE.b (gd (aa 0) B.isinstance B.tuple)) (DE.b (gd (aa 1) B.isinstance B.tuple)))) (pw (dd (yt hr (DE.b (ib (aa 0) B.isinstance B.list)) (DE.b (ib (aa 1) B.isinstance B.list))))))) (aE (bx rj)) dM) (au (fJ (dd (yt hr (DE.b (fD (aa 0) B.len)) (DE.b (fD (aa 1) B.len)))) (aE (bx rj)) dM) (au (pA (qF (DE.b (fD (aa 1) B.len)) B.range) (fB 2 nd) (aE (fJ (pq (hU (cQ ip hr bV.m bV.F.kp bV.b (ah (hV (aa 0) (aa 2)) (ah (hV (aa 1) (aa 2)) aT))))) (aE (bx rj)) dM))) (aE (bx rj))))) dM) (au (fJ (hU (ia (aa 1) B.isinstance B.bool)) (aE (bx (nX (ia (aa 0) B.isinstance B.bool) (vW (pj (mm hr (aa 0) (aa 1))))))) dM) (au (fJ (hU (mn (aa 1) B.isinstance B.int)) (aE (bx (nX (mn (aa 0) B.isinstance B.int) (nX (Hq (ia (aa 0) B.isinstance B.bool)) (vW (pj (mm hr (aa 0) (aa 1)))))))) dM) (au (fJ (hU (i3 (aa 1) B.isinstance B.str)) (aE (bx (nX (i3 (aa 0) B.isinstance B.str) (vW (pj (mm hr (aa 0) (aa 1))))))) dM) (aE (bx (nX (pj (Ez (aa 1))) (vW (pj (Ez (aa 0)))))))))))
theorem zd(B:Bl mg)(bV:Ed K mg "_law_same" (top 28) ["_law_found","_law_due"] df fz):aL P w K mg base cm 50 df fz ["_law_found","_law_due"] (fK K κ false aV):=oJ B bV 50
theorem FV:aN ["_law_script","_law_roll_here","_law_rule","_law_shape","_law_text","_law_deep","_law_k","_law_found","_law_told"] ["_law_script"] (ae (top 29)):=⟨rfl,rfl,rfl,by decide+kernel,rfl,by decide+kernel,by decide+kernel⟩
theorem L6(B:Bl mg)(FW:Ed K mg "law" (top 29) ["_law_script"] vq FN)(C:km K mg κ CR CC dv dD dE dF de)(gL:cL P w K mg base κ false "shape" 49 ["self"] bP)(jR:cL P w K mg base κ false "text" 49 ["self"] cB)(eO:Ed K mg "_law_roll" (top 23) ["_law_script"] eG iR)(m9:aL P w K mg base cm 3 eG iR ["_law_script"] (fK K κ false F_law_roll))(dJ:Ed K mg "_law_built" (top 27) ["_law_script","_law_at","_law_size","_law_roll_here"] dH gK)(kT:aL P w K mg base cm 8 dH gK ["_law_script","_law_at","_law_size","_law_roll_here"] (fK K κ false F_law_built))(pM:Ed K mg "read" (top 17) ["roll","text"] pK Co)(AV:aL P w K mg base cm 53 pK Co ["roll","text"] (fK K κ false fq))(bV:Ed K mg "_law_same" (top 28) ["_law_found","_law_due"] df fz)(ip:aL P w K mg base cm 50 df fz ["_law_found","_law_due"] (fK K κ false aV)):aL P w K mg base cm 54 vq FN ["_law_script"] (fK K κ false Cm):=
 bG FW.F FV λdY A outer s H E hr=>have nd:=FV.nd;(au (bK 1 nd (cQ (m9.mono (by decide)) hr eO.m eO.F.kp eO.b (ah (aM 0) aT))) (au (Lx (Ly (n5 (fB 2 nd) (n5 (fB 3 nd) (n5 (fB 4 nd) (n5 (fB 5 nd) HF))))) (cQ (kT.mono (by decide)) hr dJ.m dJ.F.kp dJ.b (ah (aM 0) (ah aA (ah aA (ah (aM 1) aT)))))) (au (pA (qF (DE.b aA) B.range) (fB 6 nd) (au (bK 7 nd (cQ (AV.mono (by decide)) hr pM.m pM.F.kp pM.b (ah (aM 1) (ah (aM 4) aT)))) (au (fJ (DW.t (rk (pq (hU (LI C.isR (aa 7) B.isinstance C.gR))) (pw (pq (hU (cQ (ip.mono (by decide)) hr bV.m bV.F.kp bV.b (ah (eY (gL.mono (by decide)) hr (aM 7)) (ah (aM 3) aT)))))))) (aE (bx rj)) dM) (au (bK 8 nd (eY (jR.mono (by decide)) hr (aM 7))) (aE (fJ (DW.t (rk (pq (hU (i3 (aa 8) B.isinstance B.str))) (pw (dd (yt hr (aa 8) (aa 4)))))) (aE (bx rj)) dM)))))) (aE (bx rj)))))
theorem vy(B:Bl mg)(C:km K mg κ CR CC dv dD dE dF de)(dQ:Em K "shape" "All.shape" (aq 8 1) ["self"] b6 i8)(dR:Em K "shape" "Any.shape" (aq 9 1) ["self"] b7 i9)(az:Em K "shapes_of_parts" "Counting.shapes_of_parts" (aq 7 3) ["self"] ai cv)(dg:Em K "shape" "Hand.shape" (aq 6 1) ["self"] bR ik)(dh:Em K "shape" "Some.shape" (aq 10 1) ["self"] bS il)(gM:Meth K (κ.adr 0) "shape" bR)(iT:Meth K (κ.adr 1) "shape" b6)(iU:Meth K (κ.adr 2) "shape" b7)(gN:Meth K (κ.adr 3) "shape" bS)(cR:Meth K (κ.adr 1) "shapes_of_parts" ai)(cS:Meth K (κ.adr 2) "shapes_of_parts" ai)(cC:Meth K (κ.adr 3) "shapes_of_parts" ai):∀n:Nat,cL P w K mg base κ false "shape" (1+2*n) ["self"] (fI n)
 |0=>λc xs p h=>by cases h
 |n+1=>by
  have gL:=vy B C dQ dR az dg dh gM iT iU gN cR cS cC n
  have ID:1<=1+2*n+1:=by omega
  have y7:1<=1+2*n:=by omega
  have bt:cL P w K mg base κ false "shapes_of_parts" (1+2*n+1) ["self"] (dP (fI n)):=λc xs p h=>match c,h with
   |1,_=>⟨_,_,C.cls 1 (by decide),cR,by rw[C.fld];decide,cw y7 B az C gL,az.b⟩
   |2,_=>⟨_,_,C.cls 2 (by decide),cS,by rw[C.fld];decide,cw y7 B az C gL,az.b⟩
   |3,_=>⟨_,_,C.cls 3 (by decide),cC,by rw[C.fld];decide,cw y7 B az C gL,az.b⟩
   |0,h=>by cases h
   |_+4,h=>by cases h
  exact λc xs p h=>match c,h with
   |0,_=>⟨_,_,C.cls 0 (by decide),gM,by rw[C.fld];decide,rX ID B dg C,dg.b⟩
   |1,_=>⟨_,_,C.cls 1 (by decide),iT,by rw[C.fld];decide,tR ID B dQ C bt,dQ.b⟩
   |2,_=>⟨_,_,C.cls 2 (by decide),iU,by rw[C.fld];decide,tS ID B dR C bt,dR.b⟩
   |3,_=>⟨_,_,C.cls 3 (by decide),gN,by rw[C.fld];decide,rY ID B dh C bt,dh.b⟩
   |_+4,h=>by cases h
theorem ze(B:Bl mg)(C:km K mg κ CR CC dv dD dE dF de)(eI:Em K "text" "All.text" (aq 8 2) ["self"] cF jP)(eJ:Em K "text" "Any.text" (aq 9 2) ["self"] cG jQ)(aC:Em K "text_of_parts" "Counting.text_of_parts" (aq 7 4) ["self"] ak cM)(dS:Em K "text" "Hand.text" (aq 6 2) ["self"] b8 ja)(dU:Em K "text" "Some.text" (aq 10 2) ["self"] b9 jb)(iV:Meth K (κ.adr 0) "text" b8)(jU:Meth K (κ.adr 1) "text" cF)(jV:Meth K (κ.adr 2) "text" cG)(iW:Meth K (κ.adr 3) "text" b9)(dk:Meth K (κ.adr 1) "text_of_parts" ak)(dm:Meth K (κ.adr 2) "text_of_parts" ak)(c8:Meth K (κ.adr 3) "text_of_parts" ak):∀n:Nat,cL P w K mg base κ false "text" (1+2*n) ["self"] (gI n)
 |0=>λc xs p h=>by cases h
 |n+1=>by
  have jR:=ze B C eI eJ aC dS dU iV jU jV iW dk dm c8 n
  have ID:1<=1+2*n+1:=by omega
  have y7:1<=1+2*n:=by omega
  have bH:cL P w K mg base κ false "text_of_parts" (1+2*n+1) ["self"] (eU (gI n)):=λc xs p h=>match c,h with
   |1,_=>⟨_,_,C.cls 1 (by decide),dk,by rw[C.fld];decide,cN y7 B aC C jR,aC.b⟩
   |2,_=>⟨_,_,C.cls 2 (by decide),dm,by rw[C.fld];decide,cN y7 B aC C jR,aC.b⟩
   |3,_=>⟨_,_,C.cls 3 (by decide),c8,by rw[C.fld];decide,cN y7 B aC C jR,aC.b⟩
   |0,h=>by cases h
   |_+4,h=>by cases h
  exact λc xs p h=>match c,h with
   |0,_=>⟨_,_,C.cls 0 (by decide),iV,by rw[C.fld];decide,tT ID B dS C,dS.b⟩
   |1,_=>⟨_,_,C.cls 1 (by decide),jU,by rw[C.fld];decide,wq ID B eI C bH,eI.b⟩
   |2,_=>⟨_,_,C.cls 2 (by decide),jV,by rw[C.fld];decide,wu ID B eJ C bH,eJ.b⟩
   |3,_=>⟨_,_,C.cls 3 (by decide),iW,by rw[C.fld];decide,tU ID B dU C bH,dU.b⟩
   |_+4,h=>by cases h
theorem Ox:aN ["self","name"] ["self","name"] (ae (aq 6 0)):=⟨rfl,rfl,rfl,by decide+kernel,rfl,by decide+kernel,by decide+kernel⟩
theorem Oy:aN ["self","parts"] ["self","parts"] (ae (aq 8 0)):=⟨rfl,rfl,rfl,by decide+kernel,rfl,by decide+kernel,by decide+kernel⟩
theorem Oz:aN ["self","parts"] ["self","parts"] (ae (aq 9 0)):=⟨rfl,rfl,rfl,by decide+kernel,rfl,by decide+kernel,by decide+kernel⟩
theorem OA:aN ["self","many","parts"] ["self","many","parts"] (ae (aq 10 0)):=⟨rfl,rfl,rfl,by decide+kernel,rfl,by decide+kernel,by decide+kernel⟩
theorem OB:aN ["self","wanted","parts"] ["self","wanted","parts"] (ae (aq 7 0)):=⟨rfl,rfl,rfl,by decide+kernel,rfl,by decide+kernel,by decide+kernel⟩
theorem OC(B:Bl mg)(C:km K mg κ CR CC dv dD dE dF de)(d:Em K "__init__" "Hand.__init__" (aq 6 0) ["self","name"] dv oB):aL P w K mg base cm 1 dv oB ["self","name"] (mV (κ.adr 0)):=
 d.F.ok Ox (λvs H Q E h=>EJ h) λdY A outer s H vs Q E hr h=>⟨_,gE (o7 (pv 0) (pv 1) rfl),HJ (C.cls 0 (by decide)) C.nn h⟩
theorem FX(B:Bl mg)(C:km K mg κ CR CC dv dD dE dF de)(c:Nat)(h0:0<c)(h4:c<4)(d:Em K "__init__" "Counting.__init__" (aq 7 0) ["self","wanted","parts"] de y6):aL P w K mg base cm 1 de y6 ["self","wanted","parts"] (mq K (κ.adr c)):=
 d.F.ok OB (λvs H Q E h=>B0 h) λdY A outer s H vs Q E hr h=>⟨_,fX (o7 (pv 0) (pv 1) rfl) (gE (o7 (pv 0) (jw mh (by rfl) B.tuple (by decide+kernel) (aU (pv 2) cu)) rfl)),LB (C.cls c h4) (C.nw c h0 h4) (C.np c h0 h4) h⟩
theorem OD(B:Bl mg)(C:km K mg κ CR CC dv dD dE dF de)(dC:Em K "__init__" "Counting.__init__" (aq 7 0) ["self","wanted","parts"] de y6)(d:Em K "__init__" "All.__init__" (aq 8 0) ["self","parts"] dD rT):aL P w K mg base cm 2 dD rT ["self","parts"] (kC K (κ.adr 1) λys=>(ys.length:Nat)):=
 d.F.ok Oy (λvs H Q E h=>B1 h) λdY A outer s H vs Q E hr h=>⟨_,gE (iK (ro C.cf (FX B C 1 (by decide) (by decide) dC) hr (by rfl) C.gC dC.b (aU (pv 0) (aU (ku nU (by rfl) B.len PySem.boot_len (aU (pv 1) cu)) (aU (pv 1) cu))))),EI LD h⟩
theorem OE(B:Bl mg)(C:km K mg κ CR CC dv dD dE dF de)(dC:Em K "__init__" "Counting.__init__" (aq 7 0) ["self","wanted","parts"] de y6)(d:Em K "__init__" "Any.__init__" (aq 9 0) ["self","parts"] dE rV):aL P w K mg base cm 2 dE rV ["self","parts"] (kC K (κ.adr 2) λ_=>1):=
 d.F.ok Oz (λvs H Q E h=>B1 h) λdY A outer s H vs Q E hr h=>⟨_,gE (iK (ro C.cf (FX B C 2 (by decide) (by decide) dC) hr (by rfl) C.gC dC.b (aU (pv 0) (aU Ai (aU (pv 1) cu))))),EI LF h⟩
theorem OF(B:Bl mg)(C:km K mg κ CR CC dv dD dE dF de)(dC:Em K "__init__" "Counting.__init__" (aq 7 0) ["self","wanted","parts"] de y6)(d:Em K "__init__" "Some.__init__" (aq 10 0) ["self","many","parts"] dF rW):aL P w K mg base cm 2 dF rW ["self","many","parts"] (mq K (κ.adr 3)):=
 d.F.ok OA (λvs H Q E h=>B0 h) λdY A outer s H vs Q E hr h=>⟨_,gE (iK (ro C.cf (FX B C 3 (by decide) (by decide) dC) hr (by rfl) C.gC dC.b (aU (pv 0) (aU (pv 1) (aU (pv 2) cu))))),LC h⟩
end
section
variable{l:PySem.W.OpenLaw}{w:World}{K:PySem.W.Frag}{h:Heap}{mg:Str->Option Value}
theorem all_mk{fa:Addr}(X:K.In h)(G:h.Ns mainGlobals mg)(V2:mg "law" =some (.ref fa))
  {pN fR c_Hand c_All c_Any c_Some c_Reading:Addr}
  {OG OH:Option Addr}{OI:Array (Option Value)}{OJ OK EA OL JT OM:Value}{tZ:Addr}
  {ON OO:Option Addr}{OP:Array (Option Value)}{OQ OS OT OU JU OV:Value}{qw:Addr}
  {OW OX:Option Addr}{OY:Array (Option Value)}{OZ O0 O1 O2 JV O3:Value}{oH:Addr}
  {O4 O5:Option Addr}{O6:Array (Option Value)}{O7 O8 O9 Pc JW Pd:Value}{qx:Addr}
  {Pe Pf:Option Addr}{Pg:Array (Option Value)}{Ph Pj Pk Pl JX Pm:Value}{qy:Addr}
  {Pn Po:Option Addr}{Pp:Array (Option Value)}{Pq Pr Pt Pu JY Pw:Value}{m6:Addr}
  {Px Py:Option Addr}{Pz:Array (Option Value)}{PB PC PD PF JZ PH:Value}{tY:Addr}
  {PJ PK:Option Addr}{PL:Array (Option Value)}{PM PN PQ PR J0 PU:Value}{tX:Addr}
  {PX PY:Option Addr}{PZ:Array (Option Value)}{P0 P1 P2 P4 J1 P5:Value}{pL:Addr}
  {IE:Addr}{FY:Array DictEntry}{P6:Nat}
  {P7 P8:Option Addr}{P9:Array (Option Value)}{Qa Qb Qc Qd J2 Qe:Value}{dv:Addr}
  {Qf Qg:Option Addr}{Qh:Array (Option Value)}{Qi Qj Qk Ql J3 Qm:Value}{dD:Addr}
  {Qn Qo:Option Addr}{Qp:Array (Option Value)}{Qq Qr Qs Qt J4 Qu:Value}{dE:Addr}
  {Qv Qw:Option Addr}{Qx:Array (Option Value)}{Qy Qz QA QB J5 QC:Value}{dF:Addr}
  {QD QF:Option Addr}{QG:Array (Option Value)}{QH QJ QK QL J6 QM:Value}{de:Addr}
  {t5 ua:Option Addr}{ub:Array (Option Value)}{uc ud ue uf mE ug:Value}{b6:Addr}
  {wB wC:Option Addr}{wD:Array (Option Value)}{wF wG wH wI oK wJ:Value}{cF:Addr}
  {uh ui:Option Addr}{uj:Array (Option Value)}{uk um uo uq mF ur:Value}{b7:Addr}
  {wK wL:Option Addr}{wM:Array (Option Value)}{wN wO wR wU oM wV:Value}{cG:Addr}
  {gg gh:Option Addr}{gi:Array (Option Value)}{gj gk gn gp d4 gq:Value}{ai:Addr}
  {iq ir:Option Addr}{iu:Array (Option Value)}{iw ix iy iz eP iA:Value}{ak:Addr}
  {r9 sd:Option Addr}{sf:Array (Option Value)}{sk so sr su kU sv:Value}{bR:Addr}
  {uw ux:Option Addr}{uy:Array (Option Value)}{uz uA uB uC mG uD:Value}{b8:Addr}
  {sx sy:Option Addr}{sC:Array (Option Value)}{sD sE sF sG kW sH:Value}{bS:Addr}
  {uE uF:Option Addr}{uG:Array (Option Value)}{uH uI uJ uK mH uL:Value}{b9:Addr}
  {sI sJ:Option Addr}{sL:Array (Option Value)}{sM sN sO sP kX sQ:Value}{bA:Addr}
  {zf zg:Option Addr}{zh:Array (Option Value)}{zi zj zk zm qc zo:Value}{eE:Addr}
  {zp zq:Option Addr}{zt:Array (Option Value)}{zu zw zx zy qd zz:Value}{eF:Addr}
  {wW wX:Option Addr}{wY:Array (Option Value)}{wZ w9 xa xb oN xc:Value}{dG:Addr}
  {zA zB:Option Addr}{zC:Array (Option Value)}{zD zE zF zG qe zH:Value}{eG:Addr}
  {sR sT:Option Addr}{sU:Array (Option Value)}{sV sW sX sY kZ sZ:Value}{bT:Addr}
  {uM uN:Option Addr}{uO:Array (Option Value)}{uP uQ uR uS mI uT:Value}{c6:Addr}
  {zI zJ:Option Addr}{zK:Array (Option Value)}{zL zM zN zO qf zP:Value}{eH:Addr}
  {xf xg:Option Addr}{xh:Array (Option Value)}{xi xj xk xm oO xn:Value}{dH:Addr}
  {IF IG:Option Addr}{IH:Array (Option Value)}{II IJ IK IL Cs IM:Value}{pK:Addr}
  {zQ zR:Option Addr}{zS:Array (Option Value)}{zT zU zV zW qg zX:Value}{df:Addr}
  {L7 FZ:Option Addr}{L8:Array (Option Value)}{L9 F0 F1 F2 AW F3:Value}{vq:Addr}
  {xp:Tok}
  (AX:PySem.W.nsIn K mainGlobals "Rule" =some (some (.ref pN)))
  (nc:PySem.W.nsIn K mainGlobals "Counting" =some (some (.ref fR)))
  (AY:PySem.W.nsIn K mainGlobals "Hand" =some (some (.ref c_Hand)))
  (F4:PySem.W.nsIn K mainGlobals "All" =some (some (.ref c_All)))
  (F5:PySem.W.nsIn K mainGlobals "Any" =some (some (.ref c_Any)))
  (AZ:PySem.W.nsIn K mainGlobals "Some" =some (some (.ref c_Some)))
  (pO:PySem.W.nsIn K mainGlobals "Reading" =some (some (.ref c_Reading)))
  (qJ:PySem.W.plainGet K c_Hand Str.empty=true)
  (qK:PySem.W.hasDictIn K c_Hand=true)
  (qL:PySem.W.plainOver K c_Hand=true)
  (qM:PySem.W.findIn K (.ref c_Hand) "__setattr__" =some (some (.builtin "object.__setattr__")))
  (xq:PySem.W.makesIn K c_Hand=true)
  (xr:PySem.W.keepIn K (.ref c_Hand)=true)
  (xt:PySem.W.findIn K (.ref c_Hand) "__class__" =some (some (.builtin "object.__class__")))
  (xu:PySem.W.mroIn K c_Hand (.type "object")=some true)
  (xv:PySem.W.kitOne K (.ref c_Hand) (.ref pN)=some true)
  (k7:PySem.W.findIn K (.ref c_Hand) "name" =some none)
  (xw:PySem.W.plainGet K c_All Str.empty=true)
  (xx:PySem.W.hasDictIn K c_All=true)
  (xy:PySem.W.plainOver K c_All=true)
  (xA:PySem.W.findIn K (.ref c_All) "__setattr__" =some (some (.builtin "object.__setattr__")))
  (A0:PySem.W.makesIn K c_All=true)
  (A2:PySem.W.keepIn K (.ref c_All)=true)
  (A3:PySem.W.findIn K (.ref c_All) "__class__" =some (some (.builtin "object.__class__")))
  (A4:PySem.W.mroIn K c_All (.type "object")=some true)
  (A5:PySem.W.kitOne K (.ref c_All) (.ref pN)=some true)
  (jW:PySem.W.findIn K (.ref c_All) "wanted" =some none)
  (k8:PySem.W.findIn K (.ref c_All) "parts" =some none)
  (xB:PySem.W.plainGet K c_Any Str.empty=true)
  (xC:PySem.W.hasDictIn K c_Any=true)
  (xD:PySem.W.plainOver K c_Any=true)
  (xE:PySem.W.findIn K (.ref c_Any) "__setattr__" =some (some (.builtin "object.__setattr__")))
  (A6:PySem.W.makesIn K c_Any=true)
  (A7:PySem.W.keepIn K (.ref c_Any)=true)
  (A8:PySem.W.findIn K (.ref c_Any) "__class__" =some (some (.builtin "object.__class__")))
  (A9:PySem.W.mroIn K c_Any (.type "object")=some true)
  (Ba:PySem.W.kitOne K (.ref c_Any) (.ref pN)=some true)
  (jX:PySem.W.findIn K (.ref c_Any) "wanted" =some none)
  (k9:PySem.W.findIn K (.ref c_Any) "parts" =some none)
  (qN:PySem.W.plainGet K c_Some Str.empty=true)
  (qO:PySem.W.hasDictIn K c_Some=true)
  (qP:PySem.W.plainOver K c_Some=true)
  (qQ:PySem.W.findIn K (.ref c_Some) "__setattr__" =some (some (.builtin "object.__setattr__")))
  (xF:PySem.W.makesIn K c_Some=true)
  (xG:PySem.W.keepIn K (.ref c_Some)=true)
  (xH:PySem.W.findIn K (.ref c_Some) "__class__" =some (some (.builtin "object.__class__")))
  (xI:PySem.W.mroIn K c_Some (.type "object")=some true)
  (xJ:PySem.W.kitOne K (.ref c_Some) (.ref pN)=some true)
  (jc:PySem.W.findIn K (.ref c_Some) "wanted" =some none)
  (jY:PySem.W.findIn K (.ref c_Some) "parts" =some none)
  (ng:PySem.W.plainGet K c_Reading Str.empty=true)
  (nh:PySem.W.hasDictIn K c_Reading=true)
  (ni:PySem.W.plainOver K c_Reading=true)
  (nj:PySem.W.findIn K (.ref c_Reading) "__setattr__" =some (some (.builtin "object.__setattr__")))
  (nk:PySem.W.makesIn K c_Reading=true)
  (nq:PySem.W.keepIn K (.ref c_Reading)=true)
  (gr:PySem.W.findIn K (.ref c_Reading) "words" =some none)
  (gw:PySem.W.findIn K (.ref c_Reading) "signs" =some none)
  (jZ:PySem.W.findIn K (.ref c_Reading) "at" =some none)
  (Ct:PySem.W.findIn K (.ref c_Reading) "__init__" =some (some (.ref tZ)))
  (Cu:PySem.W.isFn K (.ref tZ)=true)
  (Ma:K.lookup tZ=some ⟨OJ,OG,.func (PySem.W.fnOf "__init__" "Reading.__init__" (aO (aq 16 0)) (aI (aq 16 0)) (ae (aq 16 0)) .none OK EA OL OH JT OM),OI⟩)
  (Bb:PySem.W.codeIn K JT "Reading.__init__" =true)
  (IP:PySem.W.keepIn K (.ref tZ)=true)
  (F6:PySem.W.findIn K (.ref c_Reading) "take_word" =some (some (.ref qw)))
  (F7:PySem.W.isFn K (.ref qw)=true)
  (Mb:K.lookup qw=some ⟨OQ,ON,.func (PySem.W.fnOf "take_word" "Reading.take_word" (aO (aq 16 1)) (aI (aq 16 1)) (ae (aq 16 1)) .none OS OT OU OO JU OV),OP⟩)
  (Bc:PySem.W.codeIn K JU "Reading.take_word" =true)
  (IQ:PySem.W.keepIn K (.ref qw)=true)
  (F8:PySem.W.findIn K (.ref c_Reading) "comes" =some (some (.ref oH)))
  (F9:PySem.W.isFn K (.ref oH)=true)
  (Mc:K.lookup oH=some ⟨OZ,OW,.func (PySem.W.fnOf "comes" "Reading.comes" (aO (aq 16 2)) (aI (aq 16 2)) (ae (aq 16 2)) .none O0 O1 O2 OX JV O3),OY⟩)
  (Bd:PySem.W.codeIn K JV "Reading.comes" =true)
  (IS:PySem.W.keepIn K (.ref oH)=true)
  (Ga:PySem.W.findIn K (.ref c_Reading) "take_sign" =some (some (.ref qx)))
  (Gb:PySem.W.isFn K (.ref qx)=true)
  (Md:K.lookup qx=some ⟨O7,O4,.func (PySem.W.fnOf "take_sign" "Reading.take_sign" (aO (aq 16 3)) (aI (aq 16 3)) (ae (aq 16 3)) .none O8 O9 Pc O5 JW Pd),O6⟩)
  (Be:PySem.W.codeIn K JW "Reading.take_sign" =true)
  (IT:PySem.W.keepIn K (.ref qx)=true)
  (Gd:PySem.W.findIn K (.ref c_Reading) "take_parts" =some (some (.ref qy)))
  (Gf:PySem.W.isFn K (.ref qy)=true)
  (Me:K.lookup qy=some ⟨Ph,Pe,.func (PySem.W.fnOf "take_parts" "Reading.take_parts" (aO (aq 16 4)) (aI (aq 16 4)) (ae (aq 16 4)) .none Pj Pk Pl Pf JX Pm),Pg⟩)
  (Bf:PySem.W.codeIn K JX "Reading.take_parts" =true)
  (IU:PySem.W.keepIn K (.ref qy)=true)
  (Gg:PySem.W.findIn K (.ref c_Reading) "take_rule" =some (some (.ref m6)))
  (Gh:PySem.W.isFn K (.ref m6)=true)
  (Mf:K.lookup m6=some ⟨Pq,Pn,.func (PySem.W.fnOf "take_rule" "Reading.take_rule" (aO (aq 16 5)) (aI (aq 16 5)) (ae (aq 16 5)) .none Pr Pt Pu Po JY Pw),Pp⟩)
  (Bg:PySem.W.codeIn K JY "Reading.take_rule" =true)
  (IV:PySem.W.keepIn K (.ref m6)=true)
  (Gj:PySem.W.findIn K (.ref c_Reading) "take_end" =some (some (.ref tY)))
  (Gk:PySem.W.isFn K (.ref tY)=true)
  (Mg:K.lookup tY=some ⟨PB,Px,.func (PySem.W.fnOf "take_end" "Reading.take_end" (aO (aq 16 6)) (aI (aq 16 6)) (ae (aq 16 6)) .none PC PD PF Py JZ PH),Pz⟩)
  (Bh:PySem.W.codeIn K JZ "Reading.take_end" =true)
  (IW:PySem.W.keepIn K (.ref tY)=true)
  (Mh:PySem.W.nsIn K mainGlobals "shared_signs" =some (some (.ref tX)))
  (Mi:K.lookup tX=some ⟨PM,PJ,.func (PySem.W.fnOf "shared_signs" "shared_signs" (aO (top 14)) (aI (top 14)) (ae (top 14)) .none PN PQ PR PK J0 PU),PL⟩)
  (Bi:PySem.W.codeIn K J0 "shared_signs" =true)
  (Mj:PySem.W.keepIn K (.ref tX)=true)
  (Ml:PySem.W.nsIn K mainGlobals "counting_rule" =some (some (.ref pL)))
  (Mm:K.lookup pL=some ⟨P0,PX,.func (PySem.W.fnOf "counting_rule" "counting_rule" (aO (top 15)) (aI (top 15)) (ae (top 15)) .none P1 P2 P4 PY J1 P5),PZ⟩)
  (Bj:PySem.W.codeIn K J1 "counting_rule" =true)
  (Mn:PySem.W.keepIn K (.ref pL)=true)
  (Mo:PySem.W.nsIn K mainGlobals "FEWEST_PARTS" =some (some (.ref IE)))
  (Mp:K.lookup IE=some ⟨.type "dict",none,.dict FY P6,#[]⟩)
  (Mq:n8 w.params FY.toList oo)
  (Mr:(IE==sysModules)=false)
  (M0:PySem.W.specialIn K (.builtin "object.__class__") "__get__" =some (some (.builtin "getset_descriptor.__get__")))
  (M1:PySem.W.takesIn K (.builtin "object.__class__")=some true)
  (fiH:PySem.W.findIn K (.ref c_Hand) "__init__" =some (some (.ref dv)))
  (fnH:PySem.W.isFn K (.ref dv)=true)
  (Ms:K.lookup dv=some ⟨Qa,P7,.func (PySem.W.fnOf "__init__" "Hand.__init__" (aO (aq 6 0)) (aI (aq 6 0)) (ae (aq 6 0)) .none Qb Qc Qd P8 J2 Qe),P9⟩)
  (Mt:PySem.W.codeIn K J2 "Hand.__init__" =true)
  (Mu:PySem.W.keepIn K (.ref dv)=true)
  (fiA:PySem.W.findIn K (.ref c_All) "__init__" =some (some (.ref dD)))
  (fnA:PySem.W.isFn K (.ref dD)=true)
  (Mv:K.lookup dD=some ⟨Qi,Qf,.func (PySem.W.fnOf "__init__" "All.__init__" (aO (aq 8 0)) (aI (aq 8 0)) (ae (aq 8 0)) .none Qj Qk Ql Qg J3 Qm),Qh⟩)
  (Mw:PySem.W.codeIn K J3 "All.__init__" =true)
  (Mx:PySem.W.keepIn K (.ref dD)=true)
  (fiY:PySem.W.findIn K (.ref c_Any) "__init__" =some (some (.ref dE)))
  (fnY:PySem.W.isFn K (.ref dE)=true)
  (Mz:K.lookup dE=some ⟨Qq,Qn,.func (PySem.W.fnOf "__init__" "Any.__init__" (aO (aq 9 0)) (aI (aq 9 0)) (ae (aq 9 0)) .none Qr Qs Qt Qo J4 Qu),Qp⟩)
  (MA:PySem.W.codeIn K J4 "Any.__init__" =true)
  (MB:PySem.W.keepIn K (.ref dE)=true)
  (fiS:PySem.W.findIn K (.ref c_Some) "__init__" =some (some (.ref dF)))
  (fnS:PySem.W.isFn K (.ref dF)=true)
  (MC:K.lookup dF=some ⟨Qy,Qv,.func (PySem.W.fnOf "__init__" "Some.__init__" (aO (aq 10 0)) (aI (aq 10 0)) (ae (aq 10 0)) .none Qz QA QB Qw J5 QC),Qx⟩)
  (MD:PySem.W.codeIn K J5 "Some.__init__" =true)
  (ME:PySem.W.keepIn K (.ref dF)=true)
  (fiC:PySem.W.findIn K (.ref fR) "__init__" =some (some (.ref de)))
  (fnC:PySem.W.isFn K (.ref de)=true)
  (MF:K.lookup de=some ⟨QH,QD,.func (PySem.W.fnOf "__init__" "Counting.__init__" (aO (aq 7 0)) (aI (aq 7 0)) (ae (aq 7 0)) .none QJ QK QL QF J6 QM),QG⟩)
  (MG:PySem.W.codeIn K J6 "Counting.__init__" =true)
  (IX:PySem.W.keepIn K (.ref de)=true)
  (rdC:PySem.W.readsIn K fR (.type "type")=true)
  (fcC:PySem.W.findCls K (.ref fR) (.type "type") "__init__" =some (.val (.ref de)))
  (gaC:PySem.W.specialIn K (.ref fR) "__getattribute__" =some (some (.builtin "type.__getattribute__")))
  (hdC:PySem.W.handedIn (.ref de)=true)
  (j0:PySem.W.findIn K (.ref c_All) "shape" =some (some (.ref b6)))
  (jd:PySem.W.isFn K (.ref b6)=true)
  (j1:K.lookup b6=some ⟨uc,t5,.func (PySem.W.fnOf "shape" "All.shape" (aO (aq 8 1)) (aI (aq 8 1)) (ae (aq 8 1)) .none ud ue uf ua mE ug),ub⟩)
  (iB:PySem.W.codeIn K mE "All.shape" =true)
  (gO:PySem.W.keepIn K (.ref b6)=true)
  (lg:PySem.W.findIn K (.ref c_All) "text" =some (some (.ref cF)))
  (j2:PySem.W.isFn K (.ref cF)=true)
  (lh:K.lookup cF=some ⟨wF,wB,.func (PySem.W.fnOf "text" "All.text" (aO (aq 8 2)) (aI (aq 8 2)) (ae (aq 8 2)) .none wG wH wI wC oK wJ),wD⟩)
  (je:PySem.W.codeIn K oK "All.text" =true)
  (iX:PySem.W.keepIn K (.ref cF)=true)
  (j3:PySem.W.findIn K (.ref c_Any) "shape" =some (some (.ref b7)))
  (jf:PySem.W.isFn K (.ref b7)=true)
  (j4:K.lookup b7=some ⟨uk,uh,.func (PySem.W.fnOf "shape" "Any.shape" (aO (aq 9 1)) (aI (aq 9 1)) (ae (aq 9 1)) .none um uo uq ui mF ur),uj⟩)
  (iC:PySem.W.codeIn K mF "Any.shape" =true)
  (gQ:PySem.W.keepIn K (.ref b7)=true)
  (ll:PySem.W.findIn K (.ref c_Any) "text" =some (some (.ref cG)))
  (j5:PySem.W.isFn K (.ref cG)=true)
  (lq:K.lookup cG=some ⟨wN,wK,.func (PySem.W.fnOf "text" "Any.text" (aO (aq 9 2)) (aI (aq 9 2)) (ae (aq 9 2)) .none wO wR wU wL oM wV),wM⟩)
  (jg:PySem.W.codeIn K oM "Any.text" =true)
  (iY:PySem.W.keepIn K (.ref cG)=true)
  (dW:PySem.W.findIn K (.ref c_All) "shapes_of_parts" =some (some (.ref ai)))
  (dX:PySem.W.findIn K (.ref c_Any) "shapes_of_parts" =some (some (.ref ai)))
  (dz:PySem.W.findIn K (.ref c_Some) "shapes_of_parts" =some (some (.ref ai)))
  (bb:PySem.W.isFn K (.ref ai)=true)
  (cD:K.lookup ai=some ⟨gj,gg,.func (PySem.W.fnOf "shapes_of_parts" "Counting.shapes_of_parts" (aO (aq 7 3)) (aI (aq 7 3)) (ae (aq 7 3)) .none gk gn gp gh d4 gq),gi⟩)
  (ck:PySem.W.codeIn K d4 "Counting.shapes_of_parts" =true)
  (aW:PySem.W.keepIn K (.ref ai)=true)
  (eQ:PySem.W.findIn K (.ref c_All) "text_of_parts" =some (some (.ref ak)))
  (eR:PySem.W.findIn K (.ref c_Any) "text_of_parts" =some (some (.ref ak)))
  (d8:PySem.W.findIn K (.ref c_Some) "text_of_parts" =some (some (.ref ak)))
  (bz:PySem.W.isFn K (.ref ak)=true)
  (cW:K.lookup ak=some ⟨iw,iq,.func (PySem.W.fnOf "text_of_parts" "Counting.text_of_parts" (aO (aq 7 4)) (aI (aq 7 4)) (ae (aq 7 4)) .none ix iy iz ir eP iA),iu⟩)
  (cE:PySem.W.codeIn K eP "Counting.text_of_parts" =true)
  (a8:PySem.W.keepIn K (.ref ak)=true)
  (jh:PySem.W.findIn K (.ref c_Hand) "shape" =some (some (.ref bR)))
  (iD:PySem.W.isFn K (.ref bR)=true)
  (ji:K.lookup bR=some ⟨sk,r9,.func (PySem.W.fnOf "shape" "Hand.shape" (aO (aq 6 1)) (aI (aq 6 1)) (ae (aq 6 1)) .none so sr su sd kU sv),sf⟩)
  (gy:PySem.W.codeIn K kU "Hand.shape" =true)
  (fV:PySem.W.keepIn K (.ref bR)=true)
  (j6:PySem.W.findIn K (.ref c_Hand) "text" =some (some (.ref b8)))
  (jj:PySem.W.isFn K (.ref b8)=true)
  (j7:K.lookup b8=some ⟨uz,uw,.func (PySem.W.fnOf "text" "Hand.text" (aO (aq 6 2)) (aI (aq 6 2)) (ae (aq 6 2)) .none uA uB uC ux mG uD),uy⟩)
  (iE:PySem.W.codeIn K mG "Hand.text" =true)
  (gT:PySem.W.keepIn K (.ref b8)=true)
  (jk:PySem.W.findIn K (.ref c_Some) "shape" =some (some (.ref bS)))
  (iF:PySem.W.isFn K (.ref bS)=true)
  (jl:K.lookup bS=some ⟨sD,sx,.func (PySem.W.fnOf "shape" "Some.shape" (aO (aq 10 1)) (aI (aq 10 1)) (ae (aq 10 1)) .none sE sF sG sy kW sH),sC⟩)
  (gz:PySem.W.codeIn K kW "Some.shape" =true)
  (fW:PySem.W.keepIn K (.ref bS)=true)
  (j8:PySem.W.findIn K (.ref c_Some) "text" =some (some (.ref b9)))
  (jm:PySem.W.isFn K (.ref b9)=true)
  (j9:K.lookup b9=some ⟨uH,uE,.func (PySem.W.fnOf "text" "Some.text" (aO (aq 10 2)) (aI (aq 10 2)) (ae (aq 10 2)) .none uI uJ uK uF mH uL),uG⟩)
  (iG:PySem.W.codeIn K mH "Some.text" =true)
  (gU:PySem.W.keepIn K (.ref b9)=true)
  (jn:PySem.W.nsIn K mainGlobals "_law_cell_at" =some (some (.ref bA)))
  (jo:K.lookup bA=some ⟨sM,sI,.func (PySem.W.fnOf "_law_cell_at" "_law_cell_at" (aO (top 19)) (aI (top 19)) (ae (top 19)) .none sN sO sP sJ kX sQ),sL⟩)
  (gB:PySem.W.codeIn K kX "_law_cell_at" =true)
  (jq:PySem.W.keepIn K (.ref bA)=true)
  (nr:PySem.W.nsIn K mainGlobals "_law_name" =some (some (.ref eE)))
  (nu:K.lookup eE=some ⟨zi,zf,.func (PySem.W.fnOf "_law_name" "_law_name" (aO (top 21)) (aI (top 21)) (ae (top 21)) .none zj zk zm zg qc zo),zh⟩)
  (ka:PySem.W.codeIn K qc "_law_name" =true)
  (nv:PySem.W.keepIn K (.ref eE)=true)
  (ny:PySem.W.nsIn K mainGlobals "_law_base" =some (some (.ref eF)))
  (nA:K.lookup eF=some ⟨zu,zp,.func (PySem.W.fnOf "_law_base" "_law_base" (aO (top 20)) (aI (top 20)) (ae (top 20)) .none zw zx zy zq qd zz),zt⟩)
  (kb:PySem.W.codeIn K qd "_law_base" =true)
  (nB:PySem.W.keepIn K (.ref eF)=true)
  (lu:PySem.W.nsIn K mainGlobals "_law_names" =some (some (.ref dG)))
  (lz:K.lookup dG=some ⟨wZ,wW,.func (PySem.W.fnOf "_law_names" "_law_names" (aO (top 22)) (aI (top 22)) (ae (top 22)) .none w9 xa xb wX oN xc),wY⟩)
  (jr:PySem.W.codeIn K oN "_law_names" =true)
  (lD:PySem.W.keepIn K (.ref dG)=true)
  (nC:PySem.W.nsIn K mainGlobals "_law_roll" =some (some (.ref eG)))
  (nD:K.lookup eG=some ⟨zD,zA,.func (PySem.W.fnOf "_law_roll" "_law_roll" (aO (top 23)) (aI (top 23)) (ae (top 23)) .none zE zF zG zB qe zH),zC⟩)
  (kc:PySem.W.codeIn K qe "_law_roll" =true)
  (nE:PySem.W.keepIn K (.ref eG)=true)
  (js:PySem.W.nsIn K mainGlobals "_law_counted" =some (some (.ref bT)))
  (jt:K.lookup bT=some ⟨sV,sR,.func (PySem.W.fnOf "_law_counted" "_law_counted" (aO (top 25)) (aI (top 25)) (ae (top 25)) .none sW sX sY sT kZ sZ),sU⟩)
  (gD:PySem.W.codeIn K kZ "_law_counted" =true)
  (ju:PySem.W.keepIn K (.ref bT)=true)
  (kd:PySem.W.nsIn K mainGlobals "_law_folded" =some (some (.ref c6)))
  (ke:K.lookup c6=some ⟨uP,uM,.func (PySem.W.fnOf "_law_folded" "_law_folded" (aO (top 26)) (aI (top 26)) (ae (top 26)) .none uQ uR uS uN mI uT),uO⟩)
  (iH:PySem.W.codeIn K mI "_law_folded" =true)
  (kf:PySem.W.keepIn K (.ref c6)=true)
  (nF:PySem.W.nsIn K mainGlobals "_law_hand" =some (some (.ref eH)))
  (nG:K.lookup eH=some ⟨zL,zI,.func (PySem.W.fnOf "_law_hand" "_law_hand" (aO (top 24)) (aI (top 24)) (ae (top 24)) .none zM zN zO zJ qf zP),zK⟩)
  (kg:PySem.W.codeIn K qf "_law_hand" =true)
  (nH:PySem.W.keepIn K (.ref eH)=true)
  (lE:PySem.W.nsIn K mainGlobals "_law_built" =some (some (.ref dH)))
  (lF:K.lookup dH=some ⟨xi,xf,.func (PySem.W.fnOf "_law_built" "_law_built" (aO (top 27)) (aI (top 27)) (ae (top 27)) .none xj xk xm xg oO xn),xh⟩)
  (jv:PySem.W.codeIn K oO "_law_built" =true)
  (lG:PySem.W.keepIn K (.ref dH)=true)
  (Bk:PySem.W.nsIn K mainGlobals "read" =some (some (.ref pK)))
  (Bm:K.lookup pK=some ⟨II,IF,.func (PySem.W.fnOf "read" "read" (aO (top 17)) (aI (top 17)) (ae (top 17)) .none IJ IK IL IG Cs IM),IH⟩)
  (td:PySem.W.codeIn K Cs "read" =true)
  (Bn:PySem.W.keepIn K (.ref pK)=true)
  (nI:PySem.W.nsIn K mainGlobals "_law_same" =some (some (.ref df)))
  (nJ:K.lookup df=some ⟨zT,zQ,.func (PySem.W.fnOf "_law_same" "_law_same" (aO (top 28)) (aI (top 28)) (ae (top 28)) .none zU zV zW zR qg zX),zS⟩)
  (kh:PySem.W.codeIn K qg "_law_same" =true)
  (nK:PySem.W.keepIn K (.ref df)=true)
  (Cv:PySem.W.nsIn K mainGlobals "law" =some (some (.ref vq)))
  (Gm:K.lookup vq=some ⟨L9,L7,.func (PySem.W.fnOf "law" "law" (aO (top 29)) (aI (top 29)) (ae (top 29)) .none F0 F1 F2 FZ AW F3),L8⟩)
  (xK:PySem.W.codeIn K AW "law" =true)
  (Gn:PySem.W.keepIn K (.ref vq)=true)
  (Bo:PySem.W.nsIn K mainGlobals "bool" =some none)
  (Gq:PySem.W.nsIn K mainGlobals "int" =some none)
  (ki:PySem.W.nsIn K mainGlobals "isinstance" =some none)
  (Gu:PySem.W.nsIn K mainGlobals "len" =some none)
  (Bp:PySem.W.nsIn K mainGlobals "list" =some none)
  (Gv:PySem.W.nsIn K mainGlobals "max" =some none)
  (xM:PySem.W.nsIn K mainGlobals "range" =some none)
  (Gx:PySem.W.nsIn K mainGlobals "str" =some none)
  (xN:PySem.W.nsIn K mainGlobals "tuple" =some none)
  (Gy:PySem.W.nsIn K mainGlobals "zip" =some none)
  (kj:PySem.W.nsIn K mainGlobals "MOST_PARTS" =some (some (.int 8 xp)))
  :∃(κ:Kl) (fd:FuncData),(∀(s:Shared) (v:Value),BindsTo s fd ⟨[v],[]⟩ [("_law_script",v)])/\∀base:Heap,K.In base->base.Ns mainGlobals mg->aL l.prog w K mg base cm 54 fa fd ["_law_script"] (fK K κ false Cm):=by
 have e:=V2.symm.trans (PySem.W.mg_of X G Cv)
 cases e
 have mJ:=bu (st:=(aq 8 1)) j1 iB gO
 have dQ:Em K "shape" "All.shape" (aq 8 1) ["self"] _ _:=⟨mJ,mJ.binds (ps:=["self"]) λ_ _ _ _ _ _ us hl=>by obtain⟨a0,rfl⟩:=l9 hl;rfl⟩
 have oP:=bu (st:=(aq 8 2)) lh je iX
 have eI:Em K "text" "All.text" (aq 8 2) ["self"] _ _:=⟨oP,oP.binds (ps:=["self"]) λ_ _ _ _ _ _ us hl=>by obtain⟨a0,rfl⟩:=l9 hl;rfl⟩
 have mK:=bu (st:=(aq 9 1)) j4 iC gQ
 have dR:Em K "shape" "Any.shape" (aq 9 1) ["self"] _ _:=⟨mK,mK.binds (ps:=["self"]) λ_ _ _ _ _ _ us hl=>by obtain⟨a0,rfl⟩:=l9 hl;rfl⟩
 have oQ:=bu (st:=(aq 9 2)) lq jg iY
 have eJ:Em K "text" "Any.text" (aq 9 2) ["self"] _ _:=⟨oQ,oQ.binds (ps:=["self"]) λ_ _ _ _ _ _ us hl=>by obtain⟨a0,rfl⟩:=l9 hl;rfl⟩
 have d5:=bu (st:=(aq 7 3)) cD ck aW
 have az:Em K "shapes_of_parts" "Counting.shapes_of_parts" (aq 7 3) ["self"] _ _:=⟨d5,d5.binds (ps:=["self"]) λ_ _ _ _ _ _ us hl=>by obtain⟨a0,rfl⟩:=l9 hl;rfl⟩
 have eS:=bu (st:=(aq 7 4)) cW cE a8
 have aC:Em K "text_of_parts" "Counting.text_of_parts" (aq 7 4) ["self"] _ _:=⟨eS,eS.binds (ps:=["self"]) λ_ _ _ _ _ _ us hl=>by obtain⟨a0,rfl⟩:=l9 hl;rfl⟩
 have lH:=bu (st:=(aq 6 1)) ji gy fV
 have dg:Em K "shape" "Hand.shape" (aq 6 1) ["self"] _ _:=⟨lH,lH.binds (ps:=["self"]) λ_ _ _ _ _ _ us hl=>by obtain⟨a0,rfl⟩:=l9 hl;rfl⟩
 have mL:=bu (st:=(aq 6 2)) j7 iE gT
 have dS:Em K "text" "Hand.text" (aq 6 2) ["self"] _ _:=⟨mL,mL.binds (ps:=["self"]) λ_ _ _ _ _ _ us hl=>by obtain⟨a0,rfl⟩:=l9 hl;rfl⟩
 have lI:=bu (st:=(aq 10 1)) jl gz fW
 have dh:Em K "shape" "Some.shape" (aq 10 1) ["self"] _ _:=⟨lI,lI.binds (ps:=["self"]) λ_ _ _ _ _ _ us hl=>by obtain⟨a0,rfl⟩:=l9 hl;rfl⟩
 have mM:=bu (st:=(aq 10 2)) j9 iG gU
 have dU:Em K "text" "Some.text" (aq 10 2) ["self"] _ _:=⟨mM,mM.binds (ps:=["self"]) λ_ _ _ _ _ _ us hl=>by obtain⟨a0,rfl⟩:=l9 hl;rfl⟩
 have lK:=bu (st:=(top 19)) jo gB jq
 have aD:Ed K mg "_law_cell_at" (top 19) ["_law_script","_law_k"] _ _:=⟨lK,lK.binds (ps:=["_law_script","_law_k"]) λ_ _ _ _ _ _ us hl=>by obtain⟨a0,a1,rfl⟩:=pB hl;rfl,PySem.W.mg_of X G jn⟩
 have qh:=bu (st:=(top 21)) nu ka nv
 have eL:Ed K mg "_law_name" (top 21) ["_law_base_here","_law_place","_law_size","_law_k"] _ _:=⟨qh,qh.binds (ps:=["_law_base_here","_law_place","_law_size","_law_k"]) λ_ _ _ _ _ _ us hl=>by obtain⟨a0,a1,a2,a3,rfl⟩:=N6 hl;rfl,PySem.W.mg_of X G nr⟩
 have qi:=bu (st:=(top 20)) nA kb nB
 have eN:Ed K mg "_law_base" (top 20) ["_law_cell","_law_size"] _ _:=⟨qi,qi.binds (ps:=["_law_cell","_law_size"]) λ_ _ _ _ _ _ us hl=>by obtain⟨a0,a1,rfl⟩:=pB hl;rfl,PySem.W.mg_of X G ny⟩
 have oR:=bu (st:=(top 22)) lz jr lD
 have dI:Ed K mg "_law_names" (top 22) ["_law_script","_law_at","_law_many"] _ _:=⟨oR,oR.binds (ps:=["_law_script","_law_at","_law_many"]) λ_ _ _ _ _ _ us hl=>by obtain⟨a0,a1,a2,rfl⟩:=EN hl;rfl,PySem.W.mg_of X G lu⟩
 have qj:=bu (st:=(top 23)) nD kc nE
 have eO:Ed K mg "_law_roll" (top 23) ["_law_script"] _ _:=⟨qj,qj.binds (ps:=["_law_script"]) λ_ _ _ _ _ _ us hl=>by obtain⟨a0,rfl⟩:=l9 hl;rfl,PySem.W.mg_of X G nC⟩
 have lL:=bu (st:=(top 25)) jt gD ju
 have bh:Ed K mg "_law_counted" (top 25) ["_law_kind","_law_many","_law_items"] _ _:=⟨lL,lL.binds (ps:=["_law_kind","_law_many","_law_items"]) λ_ _ _ _ _ _ us hl=>by obtain⟨a0,a1,a2,rfl⟩:=EN hl;rfl,PySem.W.mg_of X G js⟩
 have mN:=bu (st:=(top 26)) ke iH kf
 have c7:Ed K mg "_law_folded" (top 26) ["_law_pile","_law_cell"] _ _:=⟨mN,mN.binds (ps:=["_law_pile","_law_cell"]) λ_ _ _ _ _ _ us hl=>by obtain⟨a0,a1,rfl⟩:=pB hl;rfl,PySem.W.mg_of X G kd⟩
 have qk:=bu (st:=(top 24)) nG kg nH
 have cO:Ed K mg "_law_hand" (top 24) ["_law_name_here"] _ _:=⟨qk,qk.binds (ps:=["_law_name_here"]) λ_ _ _ _ _ _ us hl=>by obtain⟨a0,rfl⟩:=l9 hl;rfl,PySem.W.mg_of X G nF⟩
 have oS:=bu (st:=(top 27)) lF jv lG
 have dJ:Ed K mg "_law_built" (top 27) ["_law_script","_law_at","_law_size","_law_roll_here"] _ _:=⟨oS,oS.binds (ps:=["_law_script","_law_at","_law_size","_law_roll_here"]) λ_ _ _ _ _ _ us hl=>by obtain⟨a0,a1,a2,a3,rfl⟩:=N6 hl;rfl,PySem.W.mg_of X G lE⟩
 have Cw:=bu (st:=(top 17)) Bm td Bn
 have pM:Ed K mg "read" (top 17) ["roll","text"] _ _:=⟨Cw,Cw.binds (ps:=["roll","text"]) λ_ _ _ _ _ _ us hl=>by obtain⟨a0,a1,rfl⟩:=pB hl;rfl,PySem.W.mg_of X G Bk⟩
 have ql:=bu (st:=(top 28)) nJ kh nK
 have bV:Ed K mg "_law_same" (top 28) ["_law_found","_law_due"] _ _:=⟨ql,ql.binds (ps:=["_law_found","_law_due"]) λ_ _ _ _ _ _ us hl=>by obtain⟨a0,a1,rfl⟩:=pB hl;rfl,PySem.W.mg_of X G nI⟩
 have Gz:=bu (st:=(top 29)) Gm xK Gn
 have FW:Ed K mg "law" (top 29) ["_law_script"] _ _:=⟨Gz,Gz.binds (ps:=["_law_script"]) λ_ _ _ _ _ _ us hl=>by obtain⟨a0,rfl⟩:=l9 hl;rfl,PySem.W.mg_of X G Cv⟩
 have J7:=bu (st:=(aq 6 0)) Ms Mt Mu
 have QN:Em K "__init__" "Hand.__init__" (aq 6 0) ["self","name"] _ _:=⟨J7,J7.binds (ps:=["self","name"]) λ_ _ _ _ _ _ us hl=>by obtain⟨a0,a1,rfl⟩:=pB hl;rfl⟩
 have J8:=bu (st:=(aq 8 0)) Mv Mw Mx
 have QO:Em K "__init__" "All.__init__" (aq 8 0) ["self","parts"] _ _:=⟨J8,J8.binds (ps:=["self","parts"]) λ_ _ _ _ _ _ us hl=>by obtain⟨a0,a1,rfl⟩:=pB hl;rfl⟩
 have J9:=bu (st:=(aq 9 0)) Mz MA MB
 have QP:Em K "__init__" "Any.__init__" (aq 9 0) ["self","parts"] _ _:=⟨J9,J9.binds (ps:=["self","parts"]) λ_ _ _ _ _ _ us hl=>by obtain⟨a0,a1,rfl⟩:=pB hl;rfl⟩
 have Ka:=bu (st:=(aq 10 0)) MC MD ME
 have QQ:Em K "__init__" "Some.__init__" (aq 10 0) ["self","many","parts"] _ _:=⟨Ka,Ka.binds (ps:=["self","many","parts"]) λ_ _ _ _ _ _ us hl=>by obtain⟨a0,a1,a2,rfl⟩:=EN hl;rfl⟩
 have Kb:=bu (st:=(aq 7 0)) MF MG IX
 have MH:Em K "__init__" "Counting.__init__" (aq 7 0) ["self","wanted","parts"] _ _:=⟨Kb,Kb.binds (ps:=["self","wanted","parts"]) λ_ _ _ _ _ _ us hl=>by obtain⟨a0,a1,a2,rfl⟩:=EN hl;rfl⟩
 have B:Bl mg:=⟨PySem.W.mg_none_of X G Bo,PySem.W.mg_none_of X G Gq,PySem.W.mg_none_of X G ki,PySem.W.mg_none_of X G Gu,PySem.W.mg_none_of X G Bp,PySem.W.mg_none_of X G Gv,PySem.W.mg_none_of X G xM,PySem.W.mg_none_of X G Gx,PySem.W.mg_none_of X G xN,PySem.W.mg_none_of X G Gy,⟨_,PySem.W.mg_of X G kj⟩⟩
 let κ:Kl:=⟨λc=>match c with|0=>c_Hand|1=>c_All|2=>c_Any|3=>c_Some|_=>c_Reading,kn⟩
 have C:km K mg κ pN fR dv dD dE dF de:=⟨rfl,λc hc=>match c,hc with|0,_=>⟨qJ,qK,qL,qM⟩|1,_=>⟨xw,xx,xy,xA⟩|2,_=>⟨xB,xC,xD,xE⟩|3,_=>⟨qN,qO,qP,qQ⟩|_+4,hc=>absurd hc (by omega),k7,λc h0 hc=>match c,h0,hc with|0,h0,_=>absurd h0 (by omega)|1,_,_=>jW|2,_,_=>jX|3,_,_=>jc|_+4,_,hc=>absurd hc (by omega),λc h0 hc=>match c,h0,hc with|0,h0,_=>absurd h0 (by omega)|1,_,_=>k8|2,_,_=>k9|3,_,_=>jY|_+4,_,hc=>absurd hc (by omega),⟨xq,fiH,fnH,xr⟩,⟨A0,fiA,fnA,A2⟩,⟨A6,fiY,fnY,A7⟩,⟨xF,fiS,fnS,xG⟩,PySem.W.mg_of X G AY,PySem.W.mg_of X G F4,PySem.W.mg_of X G F5,PySem.W.mg_of X G AZ,⟨⟨_,rdC,fcC⟩,gaC,hdC,IX⟩,PySem.W.mg_of X G nc,λc hc=>match c,hc with|0,_=>⟨⟨qJ,qK,qL,qM⟩,xt,M0,M1,xu,xv⟩|1,_=>⟨⟨xw,xx,xy,xA⟩,A3,M0,M1,A4,A5⟩|2,_=>⟨⟨xB,xC,xD,xE⟩,A8,M0,M1,A9,Ba⟩|3,_=>⟨⟨qN,qO,qP,qQ⟩,xH,M0,M1,xI,xJ⟩|_+4,hc=>absurd hc (by omega),PySem.W.mg_of X G AX,⟨ng,nh,ni,nj⟩,gr,gw,jZ⟩
 have Kc:=bu (st:=(aq 16 0)) Ma Bb IP
 have Tf:=Kc.binds (ps:=["self","roll","text"]) (λ_ _ _ _ _ _ us hl=>by obtain⟨a0,a1,a2,rfl⟩:=EN hl;rfl)
 have V3:Meth K (κ.adr 4) "__init__" tZ:=⟨Ct,Cu,IP⟩
 have Kd:=bu (st:=(aq 16 1)) Mb Bc IQ
 have Tg:=Kd.binds (ps:=["self"]) (λ_ _ _ _ _ _ us hl=>by obtain⟨a0,rfl⟩:=l9 hl;rfl)
 have Th:Meth K (κ.adr 4) "take_word" qw:=⟨F6,F7,IQ⟩
 have Ke:=bu (st:=(aq 16 2)) Mc Bd IS
 have QR:=Ke.binds (ps:=["self","sign"]) (λ_ _ _ _ _ _ us hl=>by obtain⟨a0,a1,rfl⟩:=pB hl;rfl)
 have QT:Meth K (κ.adr 4) "comes" oH:=⟨F8,F9,IS⟩
 have Kf:=bu (st:=(aq 16 3)) Md Be IT
 have Ti:=Kf.binds (ps:=["self","sign"]) (λ_ _ _ _ _ _ us hl=>by obtain⟨a0,a1,rfl⟩:=pB hl;rfl)
 have Tj:Meth K (κ.adr 4) "take_sign" qx:=⟨Ga,Gb,IT⟩
 have Kg:=bu (st:=(aq 16 4)) Me Bf IU
 have Tn:=Kg.binds (ps:=["self","fewest"]) (λ_ _ _ _ _ _ us hl=>by obtain⟨a0,a1,rfl⟩:=pB hl;rfl)
 have To:Meth K (κ.adr 4) "take_parts" qy:=⟨Gd,Gf,IU⟩
 have Kh:=bu (st:=(aq 16 5)) Mf Bg IV
 have QU:=Kh.binds (ps:=["self"]) (λ_ _ _ _ _ _ us hl=>by obtain⟨a0,rfl⟩:=l9 hl;rfl)
 have QV:Meth K (κ.adr 4) "take_rule" m6:=⟨Gg,Gh,IV⟩
 have Ki:=bu (st:=(aq 16 6)) Mg Bh IW
 have Tp:=Ki.binds (ps:=["self"]) (λ_ _ _ _ _ _ us hl=>by obtain⟨a0,rfl⟩:=l9 hl;rfl)
 have Tq:Meth K (κ.adr 4) "take_end" tY:=⟨Gj,Gk,IW⟩
 have GA:=bu (st:=(top 14)) Mi Bi Mj
 have AL:=GA.binds (ps:=["text","word"]) (λ_ _ _ _ _ _ us hl=>by obtain⟨a0,a1,rfl⟩:=pB hl;rfl)
 have Tr:mg "shared_signs" =some (.ref tX):=PySem.W.mg_of X G Mh
 have GB:=bu (st:=(top 15)) Mm Bj Mn
 have Ts:=GB.binds (ps:=["opening","parts"]) (λ_ _ _ _ _ _ us hl=>by obtain⟨a0,a1,rfl⟩:=pB hl;rfl)
 have Tt:mg "counting_rule" =some (.ref pL):=PySem.W.mg_of X G Ml
 have D:yD w.params K mg "FEWEST_PARTS" oo:=⟨IE,FY,P6,PySem.W.mg_of X G Mo,Mp,Mq,Mr⟩
 refine⟨κ,PySem.W.fnOf "law" "law" (aO (top 29)) (aI (top 29)) (ae (top 29)) .none F0 F1 F2 FZ AW F3,λs v=>.of_eq rfl,λbase _ _=>?_⟩
 have wy:=OC (P:=l.prog) (w:=w) (base:=base) B C QN
 have wz:=QN.b
 have Dl:=OD (P:=l.prog) (w:=w) (base:=base) B C MH QO
 have Dm:=QO.b
 have Dn:=OE (P:=l.prog) (w:=w) (base:=base) B C MH QP
 have Dp:=QP.b
 have Dq:=OF (P:=l.prog) (w:=w) (base:=base) B C MH QQ
 have Dr:=QQ.b
 have gM:Meth K (κ.adr 0) "shape" bR:=⟨jh,iD,fV⟩
 have iT:Meth K (κ.adr 1) "shape" b6:=⟨j0,jd,gO⟩
 have iU:Meth K (κ.adr 2) "shape" b7:=⟨j3,jf,gQ⟩
 have gN:Meth K (κ.adr 3) "shape" bS:=⟨jk,iF,fW⟩
 have cR:Meth K (κ.adr 1) "shapes_of_parts" ai:=⟨dW,bb,aW⟩
 have cS:Meth K (κ.adr 2) "shapes_of_parts" ai:=⟨dX,bb,aW⟩
 have cC:Meth K (κ.adr 3) "shapes_of_parts" ai:=⟨dz,bb,aW⟩
 have gL:cL l.prog w K mg base κ false "shape" 49 _ bP:=vy (P:=l.prog) (w:=w) (base:=base) B C dQ dR az dg dh gM iT iU gN cR cS cC 24
 have iV:Meth K (κ.adr 0) "text" b8:=⟨j6,jj,gT⟩
 have jU:Meth K (κ.adr 1) "text" cF:=⟨lg,j2,iX⟩
 have jV:Meth K (κ.adr 2) "text" cG:=⟨ll,j5,iY⟩
 have iW:Meth K (κ.adr 3) "text" b9:=⟨j8,jm,gU⟩
 have dk:Meth K (κ.adr 1) "text_of_parts" ak:=⟨eQ,bz,a8⟩
 have dm:Meth K (κ.adr 2) "text_of_parts" ak:=⟨eR,bz,a8⟩
 have c8:Meth K (κ.adr 3) "text_of_parts" ak:=⟨d8,bz,a8⟩
 have jR:cL l.prog w K mg base κ false "text" 49 _ cB:=ze (P:=l.prog) (w:=w) (base:=base) B C eI eJ aC dS dU iV jU jV iW dk dm c8 24
 have bE:=rZ (P:=l.prog) (w:=w) (base:=base) (κ:=κ) B aD
 have mY:=y8 (P:=l.prog) (w:=w) (base:=base) (κ:=κ) B eL
 have mZ:=y9 (P:=l.prog) (w:=w) (base:=base) (κ:=κ) B eN
 have kQ:=wx (P:=l.prog) (w:=w) (base:=base) (κ:=κ) B dI aD bE eL mY eN mZ
 have m9:=za (P:=l.prog) (w:=w) (base:=base) (κ:=κ) B eO dI kQ aD bE
 have d6:=r0 (P:=l.prog) (w:=w) (base:=base) (κ:=κ) B bh C Dl Dm Dn Dp Dq Dr
 have jS:=tW (P:=l.prog) (w:=w) (base:=base) (κ:=κ) B c7 bh d6
 have jT:=zb (P:=l.prog) (w:=w) (base:=base) (κ:=κ) B cO C wy wz
 have kT:=wA (P:=l.prog) (w:=w) (base:=base) (κ:=κ) B dJ c7 jS cO jT aD bE bh d6
 have Tu:=Oh (P:=l.prog) (w:=w) (base:=base) (κ:=κ) B.zip GA
 have QW:=Oi (P:=l.prog) (w:=w) (base:=base) (κ:=κ) C Ke
 have Tv:=Oj (P:=l.prog) (w:=w) (base:=base) (κ:=κ) B.max C Kd GA Tr AL Tu
 have Tw:=Ol (P:=l.prog) (w:=w) (base:=base) (κ:=κ) C Kf QT QR QW
 have Tx:=Oo (P:=l.prog) (w:=w) (base:=base) (κ:=κ) C D GB Dl Dm Dn Dp Dq Dr
 have Tz:=Oq (P:=l.prog) (w:=w) (base:=base) (κ:=κ) B.len C Ki
 have TB:=FR (P:=l.prog) (w:=w) (base:=base) (κ:=κ) B.len B.g_MOST_PARTS C D Kh Kg wy wz Th Tg Tv GB Tt Ts Tx QT QR QW Tj Ti Tw QV QU To Tn 24
 have TC:=Ov (P:=l.prog) (w:=w) (base:=base) (κ:=κ) B.list C D Kc
 have AV:=Ow (P:=l.prog) (w:=w) (base:=base) (κ:=κ) C pM.F ⟨nk,Ct,Cu,nq⟩ (PySem.W.mg_of X G pO) Tf TC QV QU TB Tq Tp Tz
 have ip:=zd (P:=l.prog) (w:=w) (base:=base) (κ:=κ) B bV
 have QX:=L6 (P:=l.prog) (w:=w) (base:=base) (κ:=κ) B FW C gL jR eO m9 dJ kT pM AV bV ip
 exact QX
end
noncomputable def QY(x:Str):Prop:=Lw x/\1<=x.length/\x.length<=50
theorem oT{i:Nat}{body:aY}{x:PV}{xs:List PV}{ρ ρ':di}(h:body (ρ.set i (.sh x))=some (.nx ρ')):forL (b0 i) body (x::xs) ρ=forL (b0 i) body xs ρ':=by
 rw[v3]
 show(body (ρ.set i (.sh x))).bind _=_
 rw[h]
 rfl
theorem Ds(x:Str)(n:Nat)(h:x.length<=n):(bY x none (some (n:Int)) 1).length=x.length:=by
 have e:Builtin.Str.strSliceIndices none (some (n:Int)) 1 x.length=(List.range x.length).map (0+·):=by
  have:=PySem.sliceRange_one 0 x.length
  rw[Nat.sub_zero]at this
  rw[<-this]
  unfold Builtin.Str.strSliceIndices
  simp only
  congr 1
  rw[if_pos (by decide),if_neg (by omega)]
  omega
 unfold bY
 rw[e]
 rw[if_pos (by rw[List.length_map,List.length_range];simp)]
theorem Dt(s0 s1:Slot){m:Int}(h0:0<=m)(h1:m<2147483647){x:Str}(hx:x.length<=100)(k:Nat):∃m' x',0<=m'/\m'<2147483647/\x'.length=x.length+1/\(Lw x->Lw x')/\jO [s0,s1,.sh (.int m),.sh (.str x),.sh (.int k)]=some (.nx [s0,s1,.sh (.int m'),.sh (.str x'),.sh (.int k)]):=by
 have e1:ag da (ag bF (ag bF (ag bF (ag pd (dV 2) (dV 2)) (ag pd (dC (.int 48271)) (dV 2))) (dV 4)) (dC (.int 1))) (dC (.int 2147483647)) [s0,s1,.sh (.int m),.sh (.str x),.sh (.int k)]=some (.int ((m*m+48271*m+k+1) % 2147483647)):=by
  refine(aj (x:=.int (m*m+48271*m+k+1)) (y:=.int 2147483647) ?_ rfl).trans (kG _ (by decide))
  refine(aj (x:=.int (m*m+48271*m+k)) (y:=.int 1) ?_ rfl).trans rfl
  refine(aj (x:=.int (m*m+48271*m)) (y:=.int k) ?_ rfl).trans rfl
  refine(aj ((aj (x:=.int m) (y:=.int m) rfl rfl).trans (gV (by omega) (by omega))) ((aj (x:=.int 48271) (y:=.int m) rfl rfl).trans (gV (by omega) (by omega)))).trans rfl
 have b1:=Int.emod_nonneg (m*m+48271*m+k+1) (show(2147483647:Int)≠0 by decide)
 have b2:=Int.emod_lt_of_pos (m*m+48271*m+k+1) (show(0:Int)<2147483647 by decide)
 generalize(m*m+48271*m+k+1) % 2147483647=m' at e1 b1 b2
 have b3:=mod_lt m' (n:=26) (by decide)
 have ey:=vo b3
 refine⟨m',x++jN ((m' %((26:Nat):Int)).toNat),b1,b2,by rw[cz];rfl,λh=>v9 h (Ca b3),(aB (a9 e1)).trans (a9 ?_)⟩
 refine(aj (x:=.str x) (y:=.str (jN ((m' %((26:Nat):Int)).toNat))) rfl ?_).trans (cy _ _ (by show x.length+1<=_;omega))
 exact(aj (x:=.str md) rfl ((aj (x:=.int m') (y:=.int ((26:Nat):Int)) rfl rfl).trans (et _ (by decide)))).trans ey
theorem zY(s0 s1:Slot):∀(ks:List Nat) (m:Int) (x:Str) (s4:Slot),0<=m->m<2147483647->x.length+ks.length<=100->
  ∃m' x' t4,x'.length=x.length+ks.length/\(Lw x->Lw x')/\forL (b0 4) jO (pl ks) [s0,s1,.sh (.int m),.sh (.str x),s4]=some (.nx [s0,s1,.sh (.int m'),.sh (.str x'),t4])
 |[],m,x,s4,_,_,_=>⟨m,x,s4,rfl,id,rfl⟩
 |k::ks,m,x,s4,h0,h1,h2=>by
  rw[List.length_cons]at h2
  obtain⟨m1,x1,a1,a2,a3,a5,a4⟩:=Dt s0 s1 h0 h1 (x:=x) (by omega) k
  obtain⟨m2,x2,t4,b1,b3,b2⟩:=zY s0 s1 ks m1 x1 (.sh (.int k)) a1 a2 (by omega)
  refine⟨m2,x2,t4,by rw[b1,a3,List.length_cons];omega,λh=>b3 (a5 h),Eq.trans ?_ b2⟩
  exact oT (i:=4) (x:=.int k) (xs:=pl ks) (ρ:=[s0,s1,.sh (.int m),.sh (.str x),s4]) a4
theorem IY(c:Int):∃x:Str,x.length=20/\Lw x/\F_law_base [.int c,.int 20]=some (.str x):=by
 have b1:=Int.emod_nonneg c (show(2147483647:Int)≠0 by decide)
 have b2:=Int.emod_lt_of_pos c (show(0:Int)<2147483647 by decide)
 have e1:ag da (ag bF (ag pd (ag da (dV 0) (dC (.int 2147483647))) (dC (.int 16807))) (dC (.int 11))) (dC (.int 2147483647)) [.sh (.int c),.sh (.int 20),.un,.un,.un]=some (.int ((c % 2147483647*16807+11) % 2147483647)):=by
  refine(aj (x:=.int (c % 2147483647*16807+11)) (y:=.int 2147483647) ?_ rfl).trans (kG _ (by decide))
  refine(aj (x:=.int (c % 2147483647*16807)) (y:=.int 11) ?_ rfl).trans rfl
  exact(aj (x:=.int (c % 2147483647)) (y:=.int 16807) ((aj (x:=.int c) (y:=.int 2147483647) rfl rfl).trans (kG _ (by decide))) rfl).trans (gV (by omega) (by omega))
 have b3:=Int.emod_nonneg (c % 2147483647*16807+11) (show(2147483647:Int)≠0 by decide)
 have b4:=Int.emod_lt_of_pos (c % 2147483647*16807+11) (show(0:Int)<2147483647 by decide)
 generalize(c % 2147483647*16807+11) % 2147483647=m at e1 b3 b4
 obtain⟨m',x',t4,h1,h3,h2⟩:=zY (.sh (.int c)) (.sh (.int 20)) (List.range 20) m "" .un b3 b4 (by decide)
 refine⟨x',by rw[h1];decide,h3 (Fg (by decide+kernel)),fZ rfl ?_⟩
 refine(aB (a9 e1)).trans ((aB (a9 (p:=.str "") rfl)).trans ?_)
 exact(aB ((lX (om (n:=20) rfl (by decide))).trans h2)).trans rfl
theorem IZ{b:Str}{place size:Nat}(h1:place<b.length)(h2:b.length<=100):∃F:Int,∀k:Nat,k<=1000->bL [.str b,.int place,.int size,.int k]=some (.str ((bY b none (some (place:Int)) 1++jN ((F+3*(k:Int)) %((26:Nat):Int)).toNat)++bY b (some ((place+1:Nat):Int)) (some (size:Int)) 1)):=by
 obtain⟨c,hc,ec⟩:=LR (x:=b) (i:=place) h1 (by omega)
 refine⟨Txt.find md c,λk h3=>?_⟩
 have b3:=mod_lt (Txt.find md c+3*(k:Int)) (n:=26) (by decide)
 have ey:=vo b3
 have c1:=pD b none (some (place:Int)) (st:=1) (by decide)
 have c2:=pD b (some ((place+1:Nat):Int)) (some (size:Int)) (st:=1) (by decide)
 refine fZ rfl ?_
 refine(aB (a9 (p:=.str md) rfl)).trans ((aB (a9 (p:=.str (jN ((Txt.find md c+3*(k:Int)) %((26:Nat):Int)).toNat)) ?_)).trans (fF ?_))
 ·refine(aj (x:=.str md) rfl ((aj (x:=.int (Txt.find md c+3*(k:Int))) (y:=.int ((26:Nat):Int)) ?_ rfl).trans (et _ (by decide)))).trans ey
  refine(aj (x:=.int (Txt.find md c)) (y:=.int (3*(k:Int))) ?_ ((aj (x:=.int 3) (y:=.int k) rfl rfl).trans (gV (by decide) (by decide)))).trans rfl
  exact(aj (x:=.str md) rfl ((aj (x:=.str b) (y:=.int place) rfl rfl).trans ec)).trans rfl
 ·have hj:∀j,(jN j).length=1:=λ_=>rfl
  have hj:=hj ((Txt.find md c+3*(k:Int)) %((26:Nat):Int)).toNat
  refine(aj ((aj (y:=.str (jN ((Txt.find md c+3*(k:Int)) %((26:Nat):Int)).toNat)) (ie (y:=b) rfl rfl rfl (by omega)) rfl).trans (cy _ _ (by omega))) (ie (y:=b) (l:=some ((place+1:Nat):Int)) rfl rfl rfl (by omega))).trans (cy _ _ (by rw[cz];omega))
noncomputable def tf:List PV:=[.str "",.str "",.str "all",.str "",.str "any",.str "",.str "of",.str "al"]
theorem Du:((List.range 8).all λi=>match itemAt tf (i:Int)with|some (.str w)=>decide (w.length<=3)&&S7 w|_=>false)=true:=by decide+kernel
theorem GC{i:Nat}(h:i<8):∃w:Str,w.length<=3/\Lw w/\lP (.lst tf) (.int i)=some (.str w):=by
 have:=List.all_eq_true.mp Du i (List.mem_range.mpr h)
 show∃w:Str,w.length<=3/\Lw w/\itemAt tf (i:Int)=some (.str w)
 split at this
 ·rename_i w e
  rw[Bool.and_eq_true]at this
  exact⟨w,of_decide_eq_true this.1,Fg this.2,e⟩
 ·cases this
noncomputable def y2(cell:Int)(b:Str)(place size:Nat)(F:Int)(k:Nat):Str:=if decide (cell/20 % 4=1)=true then bY b none (some ((k+1:Nat):Int)) 1 else(bY b none (some (place:Int)) 1++jN ((F+3*(k:Int)) %((26:Nat):Int)).toNat)++bY b (some ((place+1:Nat):Int)) (some (size:Int)) 1
theorem Kj{cell:Int}{b:Str}{place size:Nat}{F:Int}(hb:b.length=20)(ab:Lw b)(k:Nat):QY (y2 cell b place size F k):=by
 have c1:=pD b none (some (place:Int)) (st:=1) (by decide)
 have c2:=pD b (some ((place+1:Nat):Int)) (some (size:Int)) (st:=1) (by decide)
 have c3:=pD b none (some ((k+1:Nat):Int)) (st:=1) (by decide)
 unfold y2
 split
 ·refine⟨wa ab _ _ _,?_,by omega⟩
  by_cases V4:k+1<=b.length
  ·rw[v8 b (k+1) V4];omega
  ·rw[Ds b (k+1) (by omega)];omega
 ·have hj:(jN ((F+3*(k:Int)) %((26:Nat):Int)).toNat).length=1:=rfl
  exact⟨v9 (v9 (wa ab _ _ _) (Ca (mod_lt _ (by decide)))) (wa ab _ _ _),by rw[cz,cz,hj];omega,by rw[cz,cz,hj];omega⟩
theorem QZ{cell:Int}{b:Str}{place size:Nat}{F:Int}(hb:b.length=20){j k:Nat}(hj:j<6)(hk:k<6)(h:j≠k):fin (y2 cell b place size F j)≠fin (y2 cell b place size F k):=by
 unfold y2
 cases decide (cell/20 % 4=1)with
 |true=>
  rw[if_pos rfl,if_pos rfl]
  intro e
  have:=congrArg Str.length e
  rw[qI,qI,v8 b (j+1) (by omega),v8 b (k+1) (by omega)]at this
  omega
 |false=>
  rw[if_neg Bool.noConfusion,if_neg Bool.noConfusion]
  exact LW (Ip _ _ (by omega))
section
variable{F_law_cell_at bL F_law_base:List PV->Option PV}(hC:∀(ns:List Int) (k:Nat),F_law_cell_at [oX ns,.int k]=some (.int (ns.getD k 0)))
 (hB:∀c:Int,∃x:Str,x.length=20/\Lw x/\F_law_base [.int c,.int 20]=some (.str x))
theorem Bq(s0 s1 s2 s5 s6:Slot)(cell:Int){s:Nat}(Ry:0<s){b:Str}(hb:b.length=20)(ab:Lw b){F:Int}(acc:List Str)(C8:acc.length<=1000)(k:Nat)(Kk:Slot)
  (e1:bL [.str b,.int ((cell/80 %(s:Int)).toNat:Nat),.int s,.int k]=some (.str ((bY b none (some ((cell/80 %(s:Int)).toNat:Int)) 1++jN ((F+3*(k:Int)) %((26:Nat):Int)).toNat)++bY b (some (((cell/80 %(s:Int)).toNat+1:Nat):Int)) (some (s:Int)) 1))):
  i6 F_law_cell_at bL F_law_base [s0,s1,s2,.sh (.int cell),.sh (.int s),s5,s6,.sh (.str b),.ow (acc.map PV.str),.sh (.int k),Kk]=some (.nx [s0,s1,s2,.sh (.int cell),.sh (.int s),s5,s6,.sh (.str b),.ow ((acc++[fin (y2 cell b (cell/80 %(s:Int)).toNat s F k)]).map PV.str),.sh (.int k),.sh (.str (fin (y2 cell b (cell/80 %(s:Int)).toNat s F k)))]):=by
 have zl:(5000:Nat)<=sizeLine:=by decide
 obtain⟨_,_,l2⟩:=Kj (cell:=cell) (place:=(cell/80 %(s:Int)).toNat) (size:=s) (F:=F) hb ab k
 have Jk:(jD (tV (ag oW (ag da (ag jH (dV 3) (dC (.int 20))) (dC (.int 4))) (dC (.int 1)))) (cU 10 (jJ (dV 7) eW (bX (ag bF (dV 9) (dC (.int 1)))))) cI) [s0,s1,s2,.sh (.int cell),.sh (.int s),s5,s6,.sh (.str b),.ow (acc.map PV.str),.sh (.int k),.sh (.str ((bY b none (some ((cell/80 %(s:Int)).toNat:Int)) 1++jN ((F+3*(k:Int)) %((26:Nat):Int)).toNat)++bY b (some (((cell/80 %(s:Int)).toNat+1:Nat):Int)) (some (s:Int)) 1))]=some (.nx [s0,s1,s2,.sh (.int cell),.sh (.int s),s5,s6,.sh (.str b),.ow (acc.map PV.str),.sh (.int k),.sh (.str (y2 cell b (cell/80 %(s:Int)).toNat s F k))]):=by
  unfold y2
  generalize((bY b none (some ((cell/80 %(s:Int)).toNat:Int)) 1++jN ((F+3*(k:Int)) %((26:Nat):Int)).toNat)++bY b (some (((cell/80 %(s:Int)).toNat+1:Nat):Int)) (some (s:Int)) 1)=y1
  have t:tV (ag oW (ag da (ag jH (dV 3) (dC (.int 20))) (dC (.int 4))) (dC (.int 1))) [s0,s1,s2,.sh (.int cell),.sh (.int s),s5,s6,.sh (.str b),.ow (acc.map PV.str),.sh (.int k),.sh (.str y1)]=some (decide (cell/20 % 4=1)):=bQ rfl
  cases hd:decide (cell/20 % 4=1)
  ·rw[hd]at t
   exact(eZ t).trans rfl
  ·rw[hd]at t
   refine(iO t).trans (a9 ?_)
   exact ie (y:=b) (h:=some ((k+1:Nat):Int)) rfl rfl rfl (by omega)
 generalize y2 cell b (cell/80 %(s:Int)).toNat s F k=y at Jk l2
 have Q6:(jD (tV (ag NO (dV 10) (gc (af (dC (.str "all")) (af (dC (.str "any")) (af (dC (.str "of")) aP)))))) (cU 10 (bf Ll (dV 10))) cI) [s0,s1,s2,.sh (.int cell),.sh (.int s),s5,s6,.sh (.str b),.ow (acc.map PV.str),.sh (.int k),.sh (.str y)]=some (.nx [s0,s1,s2,.sh (.int cell),.sh (.int s),s5,s6,.sh (.str b),.ow (acc.map PV.str),.sh (.int k),.sh (.str (fin y))]):=by
  have tt:gc (af (dC (.str "all")) (af (dC (.str "any")) (af (dC (.str "of")) aP))) [s0,s1,s2,.sh (.int cell),.sh (.int s),s5,s6,.sh (.str b),.ow (acc.map PV.str),.sh (.int k),.sh (.str y)]=some (.tup kept):=by
   show(if(3:Nat)<=sizeLine then some (PV.tup kept)else none)=_
   rw[if_pos (by omega)]
  have t:tV (ag NO (dV 10) (gc (af (dC (.str "all")) (af (dC (.str "any")) (af (dC (.str "of")) aP))))) [s0,s1,s2,.sh (.int cell),.sh (.int s),s5,s6,.sh (.str b),.ow (acc.map PV.str),.sh (.int k),.sh (.str y)]=some (vR (.str y) kept):=bQ ((aj (x:=.str y) rfl tt).trans rfl)
  unfold fin
  cases hd:vR (.str y) kept
  ·rw[hd]at t
   exact(eZ t).trans rfl
  ·rw[hd]at t
   refine(iO t).trans (a9 ?_)
   show(if y.length<=sizeLine then some (PV.str (bY y none none (-1)))else none)=_
   rw[if_pos (by omega)]
   rfl
 refine(aB (a9 ((bU (ay (x:=.str b) rfl (ay ((aj (x:=.int (cell/80)) (y:=.int s) rfl rfl).trans (et _ Ry)) (ay (x:=.int s) rfl (ay (x:=.int k) rfl rfl))))).trans e1))).trans ?_
 refine(aB Jk).trans ((aB Q6).trans ?_)
 show((if(acc.map PV.str).length<sizeLine then some (acc.map PV.str++[PV.str (fin y)])else none).map λl'=>Fl.nx [s0,s1,s2,.sh (.int cell),.sh (.int s),s5,s6,.sh (.str b),.ow l',.sh (.int k),.sh (.str (fin y))])=_
 rw[if_pos (by rw[List.length_map];omega),List.map_append]
 rfl
theorem vz(s0 s1 s2 s5 s6:Slot)(cell:Int){s:Nat}(Ry:0<s){b:Str}(hb:b.length=20)(ab:Lw b){F:Int}
  (e1:∀k:Nat,k<=1000->bL [.str b,.int ((cell/80 %(s:Int)).toNat:Nat),.int s,.int k]=some (.str ((bY b none (some ((cell/80 %(s:Int)).toNat:Int)) 1++jN ((F+3*(k:Int)) %((26:Nat):Int)).toNat)++bY b (some (((cell/80 %(s:Int)).toNat+1:Nat):Int)) (some (s:Int)) 1))):
  ∀(ks:List Nat) (acc:List Str) (s9 Kk:Slot),(∀k∈ks,k<=1000)->acc.length+ks.length<=1000->
  ∃(t9 Rz:Slot),forL (b0 9) (i6 F_law_cell_at bL F_law_base) (pl ks) [s0,s1,s2,.sh (.int cell),.sh (.int s),s5,s6,.sh (.str b),.ow (acc.map PV.str),s9,Kk]=some (.nx [s0,s1,s2,.sh (.int cell),.sh (.int s),s5,s6,.sh (.str b),.ow ((acc++ks.map λk=>fin (y2 cell b (cell/80 %(s:Int)).toNat s F k)).map PV.str),t9,Rz])
 |[],acc,s9,Kk,_,_=>⟨s9,Kk,by rw[List.map_nil,List.append_nil];rfl⟩
 |k::ks,acc,s9,Kk,h1,h2=>by
  rw[List.length_cons]at h2
  have e:=Bq (F_law_cell_at:=F_law_cell_at) (F_law_base:=F_law_base) s0 s1 s2 s5 s6 cell Ry hb ab acc (by omega) k Kk (e1 k (h1 k (List.mem_cons_self ..)))
  obtain⟨t9,Rz,q3⟩:=vz s0 s1 s2 s5 s6 cell Ry hb ab e1 ks (acc++[fin (y2 cell b (cell/80 %(s:Int)).toNat s F k)]) (.sh (.int k)) (.sh (.str (fin (y2 cell b (cell/80 %(s:Int)).toNat s F k)))) (λx hx=>h1 x (List.mem_cons_of_mem _ hx)) (by rw[List.length_append,List.length_singleton];omega)
  rw[List.append_assoc,List.singleton_append]at q3
  refine⟨t9,Rz,Eq.trans ?_ q3⟩
  exact oT (i:=9) (x:=.int k) (xs:=pl ks) (ρ:=[s0,s1,s2,.sh (.int cell),.sh (.int s),s5,s6,.sh (.str b),.ow (acc.map PV.str),s9,Kk]) e
include hC hB in
theorem Dv(hN:∀{b:Str} {place size:Nat},place<b.length->b.length<=100->∃F:Int,∀k:Nat,k<=1000->bL [.str b,.int place,.int size,.int k]=some (.str ((bY b none (some (place:Int)) 1++jN ((F+3*(k:Int)) %((26:Nat):Int)).toNat)++bY b (some ((place+1:Nat):Int)) (some (size:Int)) 1)))
  (ns:List Int)(a many:Nat)(hm:many<=6):∃f:Nat->Str,(∀k,QY (f k))/\(∀j k,j<6->k<6->j≠k->f j≠f k)/\fn true 11 3 (pX F_law_cell_at bL F_law_base) [oX ns,.int a,.int many]=some (.lst (((List.range many).map f).map PV.str)):=by
 have zl:(5000:Nat)<=sizeLine:=by decide
 have hs:=mod_lt (ns.getD a 0) (n:=20) (by decide)
 have hw:=mod_lt (ns.getD (a+1) 0) (n:=8) (by decide)
 obtain⟨w,lw,aw,ew⟩:=GC hw
 obtain⟨x,lx,ax,ex⟩:=hB (ns.getD (a+1) 0/8)
 have lb:(bY (w++x) none (some ((20:Nat):Int)) 1).length=20:=v8 (w++x) 20 (by rw[cz];omega)
 have ab:Lw (bY (w++x) none (some ((20:Nat):Int)) 1):=wa (v9 aw ax) _ _ _
 generalize eb:bY (w++x) none (some ((20:Nat):Int)) 1=b at lb ab
 have hp:=mod_lt (ns.getD a 0/80) (n:=1+(ns.getD a 0 %((20:Nat):Int)).toNat) (by omega)
 obtain⟨F,hF⟩:=hN (b:=b) (place:=(ns.getD a 0/80 %((1+(ns.getD a 0 %((20:Nat):Int)).toNat:Nat):Int)).toNat) (size:=1+(ns.getD a 0 %((20:Nat):Int)).toNat) (by omega) (by omega)
 obtain⟨t9,Rz,q3⟩:=vz (F_law_cell_at:=F_law_cell_at) (F_law_base:=F_law_base) (.sh (oX ns)) (.sh (.int a)) (.sh (.int many)) (.sh (.int (ns.getD (a+1) 0))) (.sh (.str w)) (ns.getD a 0) (s:=1+(ns.getD a 0 %((20:Nat):Int)).toNat) (by omega) lb ab hF (List.range many) [] .un .un (λk hk=>by have:=List.mem_range.mp hk;omega) (by rw[List.length_range];simp;omega)
 rw[List.nil_append]at q3
 refine⟨λk=>fin (y2 (ns.getD a 0) b (ns.getD a 0/80 %((1+(ns.getD a 0 %((20:Nat):Int)).toNat:Nat):Int)).toNat (1+(ns.getD a 0 %((20:Nat):Int)).toNat) F k),λk=>?_,λj k hj hk h=>QZ lb hj hk h,fZ rfl ?_⟩
 ·obtain⟨o1,o2,o3⟩:=Kj (cell:=ns.getD a 0) (place:=(ns.getD a 0/80 %((1+(ns.getD a 0 %((20:Nat):Int)).toNat:Nat):Int)).toNat) (size:=1+(ns.getD a 0 %((20:Nat):Int)).toNat) (F:=F) lb ab k
  exact⟨LV o1,by rw[qI];exact o2,by rw[qI];exact o3⟩
 refine(aB (a9 ((bU (ps:=[oX ns,.int a]) rfl).trans (hC ns a)))).trans ?_
 refine(aB (a9 (p:=.int ((1+(ns.getD a 0 %((20:Nat):Int)).toNat:Nat):Int)) ((aj (x:=.int ((1:Nat):Int)) rfl ((aj (x:=.int (ns.getD a 0)) (y:=.int ((20:Nat):Int)) rfl rfl).trans (et _ (by decide)))).trans rfl))).trans ?_
 refine(aB (a9 ((bU (ps:=[oX ns,.int ((a+1:Nat):Int)]) rfl).trans (hC ns (a+1))))).trans ?_
 generalize ns.getD (a+1) 0=more at*
 generalize ns.getD a 0=cell at*
 have V5:ag lP (Av (af (dC (.str "")) (af (dC (.str "")) (af (dC (.str "all")) (af (dC (.str "")) (af (dC (.str "any")) (af (dC (.str "")) (af (dC (.str "of")) (af (dC (.str "al")) aP))))))))) (ag da (dV 5) (dC (.int 8))) [.sh (oX ns),.sh (.int a),.sh (.int many),.sh (.int cell),.sh (.int ((1+(cell %((20:Nat):Int)).toNat:Nat):Int)),.sh (.int more),.un,.un,.un,.un,.un]=some (.str w):=by
  refine(aj (x:=.lst tf) ?_ ((aj (x:=.int more) (y:=.int ((8:Nat):Int)) rfl rfl).trans (et _ (by decide)))).trans ew
  show(if(8:Nat)<=sizeLine then some (PV.lst tf)else none)=_
  rw[if_pos (by omega)]
 refine(aB (a9 V5)).trans ?_
 refine(aB (a9 (p:=.str b) ?_)).trans ?_
 ·rw[<-eb]
  refine ie (h:=some ((20:Nat):Int)) ((aj (x:=.str w) (y:=.str x) rfl ?_).trans (cy _ _ (by omega))) rfl rfl (by rw[cz];omega)
  exact(bU (ps:=[.int (more/8),.int 20]) rfl).trans ex
 refine(aB (kE (l:=[]) rfl)).trans ?_
 exact(aB ((lX (om (n:=many) rfl (by omega))).trans q3)).trans rfl
end
theorem GD(ns:List Int)(a many:Nat)(hm:many<=6):∃f:Nat->Str,(∀k,QY (f k))/\(∀j k,j<6->k<6->j≠k->f j≠f k)/\fw [oX ns,.int a,.int many]=some (.lst (((List.range many).map f).map PV.str)):=Dv v7 IY IZ ns a many hm
noncomputable abbrev zZ:Str:= ", "
noncomputable abbrev qm:Str:= ")"
noncomputable def Jn(its:List It):Str:=Txt.join zZ (its.map It.t)
theorem Br(its:List It):((its.map It.t).map λt=>t.length+zZ.length).sum=wt its:=by
 unfold wt
 rw[List.map_map]
 rfl
theorem Cy(its:List It):(Jn its).length<=wt its:=by
 have:=join_le zZ (its.map It.t)
 rw[Br]at this
 exact this
structure Q0(names:List Str)(Ok:It->Prop):Prop where
 hand:∀x∈names,Ok ⟨.ins 0 [.str x],.tup [.str "hand",.str x],x,0⟩
 all:∀(its:List It) (n:Nat),its≠[]->its.length<=8->wt its<=50000->(∀i∈its,Ok i/\i.d<=n)->Ok ⟨.ins 1 [.int (its.length:Nat),.tup (its.map It.o)],.tup [.str "all",.tup (its.map It.s)],("all(" :Str)++(Jn its++qm),1+n⟩
 any:∀(its:List It) (n:Nat),its≠[]->its.length<=8->wt its<=50000->(∀i∈its,Ok i/\i.d<=n)->Ok ⟨.ins 2 [.int 1,.tup (its.map It.o)],.tup [.str "any",.tup (its.map It.s)],("any(" :Str)++(Jn its++qm),1+n⟩
 some:∀(its:List It) (n m:Nat),its≠[]->its.length<=8->wt its<=50000->(∀i∈its,Ok i/\i.d<=n)->1<=m->m<=its.length->Ok ⟨.ins 3 [.int (m:Nat),.tup (its.map It.o)],.tup [.str "some",.int (m:Nat),.tup (its.map It.s)],((toString (m:Int):Str)++(" of (" :Str))++(Jn its++qm),1+n⟩
theorem I9:((List.range 9).all λm=>decide ((toString (m:Int):Str).length<=1))=true:=by decide+kernel
theorem GF{m:Nat}(h:m<=8):(toString (m:Int):Str).length<=1:=of_decide_eq_true (List.all_eq_true.mp I9 m (List.mem_range.mpr (by omega)))
theorem z9(i:It)(s:List Slot)(k:Nat)(p:PV)(h:[i.o,i.s,.str i.t,.int (i.d:Nat)][k]?=some p):ag lP (dV 0) (dC (.int (k:Nat))) (.sh i.p::s)=some p:=by
 have hk:k<4:=(List.getElem?_eq_some_iff.mp h).1
 show itemAt [i.o,i.s,.str i.t,.int (i.d:Nat)] (k:Int)=some p
 unfold itemAt MU
 rw[if_pos (by omega),if_pos (by show(k:Int)<((4:Nat):Int);omega)]
 show[i.o,i.s,.str i.t,.int (i.d:Nat)][(k:Int).toNat]?=_
 rw[Int.toNat_natCast]
 exact h
theorem tj{names:List Str}{Ok:It->Prop}(B:Q0 names Ok){kind m:Nat}(hk:kind<3){its:List It}(h0:its≠[])(h8:its.length<=8)(hw:wt its<=50000)(S5:1<=m)(yv:m<=its.length)(ho:∀i∈its,Ok i):
  ∃r:It,Ok r/\(∃i∈its,r.d=1+i.d)/\r.t.length+2<=wt its+10/\av [.int kind,.int m,.lst (its.map It.p)]=some r.p:=by
 have zl:(100000:Nat)<=sizeLine:=by decide
 obtain⟨M,eM,TF,Ux⟩:=rM (its.map It.d) (by simpa using h0)
 obtain⟨iM,V6,V7⟩:=List.mem_map.mp Ux
 have hn:∀i∈its,Ok i/\i.d<=M:=λi hi=>⟨ho i hi,TF _ (List.mem_map.mpr ⟨i,hi,rfl⟩)⟩
 have lJ:=Cy its
 have l1:=GF (m:=m) (by omega)
 have c0:∀s3 s4 s5 s6 s7,dZ (nList (dV 2)) dr (ag lP (dV 0) (dC (.int 0))) [.sh (.int kind),.sh (.int m),.sh (.lst (its.map It.p)),s3,s4,s5,s6,s7]=some (.lst (its.map It.o)):=λs3 s4 s5 s6 s7=>f6 It.p It.o rfl (by omega) λi _=>z9 i _ 0 _ rfl
 have c1:∀s3 s4 s5 s6 s7,dZ (nList (dV 2)) dr (ag lP (dV 0) (dC (.int 1))) [.sh (.int kind),.sh (.int m),.sh (.lst (its.map It.p)),s3,s4,s5,s6,s7]=some (.lst (its.map It.s)):=λs3 s4 s5 s6 s7=>f6 It.p It.s rfl (by omega) λi _=>z9 i _ 1 _ rfl
 have c2:∀s3 s4 s5 s6 s7,dZ (nList (dV 2)) dr (ag lP (dV 0) (dC (.int 2))) [.sh (.int kind),.sh (.int m),.sh (.lst (its.map It.p)),s3,s4,s5,s6,s7]=some (.lst (its.map λi=>.str i.t)):=λs3 s4 s5 s6 s7=>f6 It.p (λi=>.str i.t) rfl (by omega) λi _=>z9 i _ 2 _ rfl
 have c3:∀s3 s4 s5 s6 s7,dZ (nList (dV 2)) dr (ag lP (dV 0) (dC (.int 3))) [.sh (.int kind),.sh (.int m),.sh (.lst (its.map It.p)),s3,s4,s5,s6,s7]=some (.lst (its.map λi=>.int (i.d:Nat))):=λs3 s4 s5 s6 s7=>f6 It.p (λi=>.int (i.d:Nat)) rfl (by omega) λi _=>z9 i _ 3 _ rfl
 have hJ:yh (.str zZ) (.lst (its.map λi=>.str i.t))=some (.str (Jn its)):=by
  have:=vn zZ (its.map It.t) (by rw[Br];omega)
  rw[List.map_map]at this
  exact this
 have TH:ml (.lst (its.map λi=>.int (i.d:Nat)))=some (.int (M:Nat)):=by
  have e:rJ (its.map It.d)=.lst (its.map λi=>.int (i.d:Nat)):=by
   unfold rJ
   rw[List.map_map]
   rfl
  rw[<-e]
  exact eM
 have fin:∀(r:It),Ok r->r.d=1+M->r.t.length+2<=wt its+10->(jD (tV (ag oW (dV 0) (dC (.int 0)))) (cU 7 (gc (af (bf yi (dV 3)) (af (gc (af (dC (.str "all")) (af (cP 4) aP))) (af (ag bF (dC (.str "all(")) (dV 5)) (af (cP 6) aP)))))) (jD (tV (ag oW (dV 0) (dC (.int 1)))) (cU 7 (gc (af (bf yj (dV 3)) (af (gc (af (dC (.str "any")) (af (cP 4) aP))) (af (ag bF (dC (.str "any(")) (dV 5)) (af (cP 6) aP)))))) (cU 7 (gc (af (ag ri (dV 1) (dV 3)) (af (gc (af (dC (.str "some")) (af (cP 1) (af (cP 4) aP)))) (af (ag bF (ag bF (bf CS (dV 1)) (dC (.str " of ("))) (dV 5)) (af (cP 6) aP))))))))
   [.sh (.int kind),.sh (.int m),.sh (.lst (its.map It.p)),.ow (its.map It.o),.sh (.tup (its.map It.s)),.sh (.str (Jn its++qm)),.sh (.int ((1+M:Nat):Int)),.un]=some (.nx [.sh (.int kind),.sh (.int m),.sh (.lst (its.map It.p)),.ow (its.map It.o),.sh (.tup (its.map It.s)),.sh (.str (Jn its++qm)),.sh (.int ((1+M:Nat):Int)),.sh r.p])->
   ∃r:It,Ok r/\(∃i∈its,r.d=1+i.d)/\r.t.length+2<=wt its+10/\av [.int kind,.int m,.lst (its.map It.p)]=some r.p:=λr h1 h2 h3 h4=>by
  refine⟨r,h1,⟨iM,V6,by rw[h2,V7]⟩,h3,fZ rfl ?_⟩
  refine(aB (kE (c0 _ _ _ _ _))).trans ?_
  refine(aB (a9 (p:=.tup (its.map It.s)) ((b5 (c1 _ _ _ _ _)).trans rfl))).trans ?_
  refine(aB (a9 (p:=.str (Jn its++qm)) ((aj (y:=.str qm) ((aj (x:=.str zZ) rfl (c2 _ _ _ _ _)).trans hJ) rfl).trans (cy _ _ (by have:qm.length=1:=rfl;omega))))).trans ?_
  refine(aB (a9 (p:=.int ((1+M:Nat):Int)) ((aj (x:=.int ((1:Nat):Int)) rfl ((b5 (c3 _ _ _ _ _)).trans TH)).trans rfl))).trans ?_
  refine(aB h4).trans ?_
  exact(aB (ρ':=[.sh (.int kind),.sh (.int m),.sh (.lst (its.map It.p)),.ow [],.sh (.tup (its.map It.s)),.sh (.str (Jn its++qm)),.sh (.int ((1+M:Nat):Int)),.sh r.p]) rfl).trans rfl
 have T:∀(k:Nat) s7,tV (ag oW (dV 0) (dC (.int k))) [.sh (.int kind),.sh (.int m),.sh (.lst (its.map It.p)),.ow (its.map It.o),.sh (.tup (its.map It.s)),.sh (.str (Jn its++qm)),.sh (.int ((1+M:Nat):Int)),s7]=some (decide (kind=k)):=λk s7=>bQ ((aj (x:=.int kind) (y:=.int k) rfl rfl).trans (B9 _ _))
 have lB:(Jn its++qm).length=(Jn its).length+1:=by rw[cz];rfl
 have lA:("all(" :Str).length=4:=by decide+kernel
 have lY:("any(" :Str).length=4:=by decide+kernel
 have lS:(" of (" :Str).length=5:=by decide+kernel
 by_cases k0:kind=0
 ·refine fin ⟨.ins 1 [.int (its.length:Nat),.tup (its.map It.o)],.tup [.str "all",.tup (its.map It.s)],("all(" :Str)++(Jn its++qm),1+M⟩ (B.all its M h0 h8 hw hn) rfl (by show(("all(" :Str)++(Jn its++qm)).length+2<=_;rw[cz,lB,lA];omega) ((iO ((T 0 _).trans (by rw[decide_eq_true k0]))).trans (a9 ?_))
  refine fg (ay (x:=.ins 1 [.int (its.length:Nat),.tup (its.map It.o)]) ?_ (ay (x:=.tup [.str "all",.tup (its.map It.s)]) (fg (xs:=[.str "all",.tup (its.map It.s)]) rfl (by simp)) (ay ((aj (x:=.str "all(") (y:=.str (Jn its++qm)) rfl rfl).trans (cy _ _ (by rw[lB,lA];omega))) (ay (x:=.int ((1+M:Nat):Int)) rfl rfl)))) (by simp)
  show some (PV.ins 1 [.int ((its.map It.o).length:Nat),.tup (its.map It.o)])=_
  rw[List.length_map]
 ·by_cases k1:kind=1
  ·refine fin ⟨.ins 2 [.int 1,.tup (its.map It.o)],.tup [.str "any",.tup (its.map It.s)],("any(" :Str)++(Jn its++qm),1+M⟩ (B.any its M h0 h8 hw hn) rfl (by show(("any(" :Str)++(Jn its++qm)).length+2<=_;rw[cz,lB,lY];omega) ((eZ ((T 0 _).trans (by rw[decide_eq_false k0]))).trans ((iO ((T 1 _).trans (by rw[decide_eq_true k1]))).trans (a9 ?_)))
   exact fg (ay (x:=.ins 2 [.int 1,.tup (its.map It.o)]) rfl (ay (x:=.tup [.str "any",.tup (its.map It.s)]) (fg (xs:=[.str "any",.tup (its.map It.s)]) rfl (by simp)) (ay ((aj (x:=.str "any(") (y:=.str (Jn its++qm)) rfl rfl).trans (cy _ _ (by rw[lB,lY];omega))) (ay (x:=.int ((1+M:Nat):Int)) rfl rfl)))) (by simp)
  ·have oV:CS (.int (m:Nat))=some (.str (toString (m:Int))):=by
     show(if decide ((m:Int).natAbs<1000000)then some (PV.str (toString (m:Int)))else none)=_
     rw[if_pos (decide_eq_true (by omega))]
   refine fin ⟨.ins 3 [.int (m:Nat),.tup (its.map It.o)],.tup [.str "some",.int (m:Nat),.tup (its.map It.s)],((toString (m:Int):Str)++(" of (" :Str))++(Jn its++qm),1+M⟩ (B.some its M m h0 h8 hw hn S5 yv) rfl (by show(((toString (m:Int):Str)++(" of (" :Str))++(Jn its++qm)).length+2<=_;rw[cz,cz,lB,lS];omega) ((eZ ((T 0 _).trans (by rw[decide_eq_false k0]))).trans ((eZ ((T 1 _).trans (by rw[decide_eq_false k1]))).trans (a9 ?_)))
   refine fg (ay (x:=.ins 3 [.int (m:Nat),.tup (its.map It.o)]) rfl (ay (x:=.tup [.str "some",.int (m:Nat),.tup (its.map It.s)]) (fg (xs:=[.str "some",.int (m:Nat),.tup (its.map It.s)]) rfl (by simp)) (ay ((aj (y:=.str (Jn its++qm)) ((aj (x:=.str (toString (m:Int))) (y:=.str " of (") ((b5 (x:=.int (m:Nat)) rfl).trans oV) rfl).trans (cy _ _ (by rw[lS];omega))) rfl).trans (cy _ _ (by rw[cz,lB,lS];omega))) (ay (x:=.int ((1+M:Nat):Int)) rfl rfl)))) (by simp)
theorem GG:∀P:List It,P.length*2<=wt P
 |[]=>Nat.zero_le _
 |i::P=>by
  have:=GG P
  rw[Il,List.length_cons]
  omega
theorem ends(P:List It)(j:Nat):P.take (P.length-j)++P.drop (P.length-j)=P:=List.take_append_drop ..
section
variable{Ok:It->Prop}{av:List PV->Option PV}
 (hF:∀{kind m:Nat},kind<3->∀{its:List It},its≠[]->its.length<=8->wt its<=50000->1<=m->m<=its.length->(∀i∈its,Ok i)->∃r:It,Ok r/\(∃i∈its,r.d=1+i.d)/\r.t.length+2<=wt its+10/\av [.int kind,.int m,.lst (its.map It.p)]=some r.p)
include hF
theorem Dw{P:List It}(h2:2<=P.length)(hP:∀i∈P,Ok i){D W:Nat}(hd:∀i∈P,i.d<=D)(hw:wt P<=W)(hW:W<=49000){s0:Slot}(hs:s0=.sh (.lst (P.map It.p))\/s0=.ow (P.map It.p))(s1:Slot){n:Int}(RA:0<=n)(MZ:n<2147483647)(s3:Slot):
  ∃(Q:List It) (n':Int) (t3:Slot),Q.length+1=P.length-min 8 P.length+2/\(∀i∈Q,Ok i)/\(∀i∈Q,i.d<=D+1)/\wt Q<=W+10/\0<=n'/\n'<2147483647/\ij av [s0,s1,.sh (.int n),s3]=some (.nx [.ow (Q.map It.p),s1,.sh (.int n'),t3]):=by
 have zl:(100000:Nat)<=sizeLine:=by decide
 have v0:∀r1 r2 r3,dV 0 [s0,r1,r2,r3]=some (.lst (P.map It.p)):=λr1 r2 r3=>by
  rcases hs with rfl|rfl<;>rfl
 have e1:ag da (ag bF (ag pd (dV 2) (dV 2)) (ag pd (dC (.int 48271)) (dV 2))) (dC (.int 2147483647)) [s0,s1,.sh (.int n),s3]=some (.int ((n*n+48271*n) % 2147483647)):=
  (aj (x:=.int (n*n+48271*n)) (y:=.int 2147483647) ((aj ((aj (x:=.int n) (y:=.int n) rfl rfl).trans (gV (by omega) (by omega))) ((aj (x:=.int 48271) (y:=.int n) rfl rfl).trans (gV (by omega) (by omega)))).trans rfl) rfl).trans (kG _ (by decide))
 have b1:=Int.emod_nonneg (n*n+48271*n) (show(2147483647:Int)≠0 by decide)
 have b2:=Int.emod_lt_of_pos (n*n+48271*n) (show(0:Int)<2147483647 by decide)
 generalize(n*n+48271*n) % 2147483647=n' at e1 b1 b2
 have es:=ends P 8
 generalize eA:P.take (P.length-8)=Pa at es
 generalize eB:P.drop (P.length-8)=Pb at es
 have lb:Pb.length=min 8 P.length:=by rw[<-eB,List.length_drop];omega
 have la:Pa.length=P.length-8:=by rw[<-eA,List.length_take];omega
 have mb:∀i∈Pb,i∈P:=λi hi=>by rw[<-es];exact List.mem_append_right _ hi
 have ma:∀i∈Pa,i∈P:=λi hi=>by rw[<-es];exact List.mem_append_left _ hi
 have V8:wt Pa+wt Pb=wt P:=by rw[<-rK,es]
 have hk:=mod_lt n' (n:=3) (by decide)
 have hm:=mod_lt (n'/3) (n:=Pb.length) (by omega)
 obtain⟨r,r1,⟨i,hi,r2⟩,r3,r4⟩:=hF (kind:=(n' %((3:Nat):Int)).toNat) (m:=1+(n'/3 %(Pb.length:Int)).toNat) hk (its:=Pb) (λz=>by rw[z]at lb;simp at lb;omega) (by omega) (by omega) (by omega) (by omega) λi hi=>hP i (mb i hi)
 refine⟨Pa++[r],n',.sh (.lst (Pb.map It.p)),by rw[List.length_append,List.length_singleton];omega,λx hx=>?_,λx hx=>?_,by rw[rK,rL];omega,b1,b2,?_⟩
 ·rcases List.mem_append.mp hx with hx|hx
  ·exact hP x (ma x hx)
  ·obtain rfl:=List.mem_singleton.mp hx
   exact r1
 ·rcases List.mem_append.mp hx with hx|hx
  ·have:=hd x (ma x hx)
   omega
  ·obtain rfl:=List.mem_singleton.mp hx
   have:=hd i (mb i hi)
   omega
 ·refine(aB (a9 e1)).trans ?_
  have e3:BL (dV 0) (bX (bf qZ (dC (.int 8)))) eW [s0,s1,.sh (.int n'),s3]=some (.lst (Pb.map It.p)):=by
   refine(rN (a:=some (-((8:Nat):Int))) (v0 _ _ _) rfl rfl).trans ?_
   rw[yR _ 8 (by decide),List.length_map,<-List.map_drop,eB]
  refine(aB (a9 e3)).trans ?_
  have e4:BL (dV 0) eW (bX (bf qZ (dC (.int 8)))) [s0,s1,.sh (.int n'),.sh (.lst (Pb.map It.p))]=some (.lst (Pa.map It.p)):=by
   refine(rN (b:=some (-((8:Nat):Int))) (v0 _ _ _) rfl rfl).trans ?_
   rw[Im _ 8 (by decide),List.length_map,<-List.map_take,eA]
  refine(aB (kE e4)).trans ?_
  have e5:cx av (af (ag da (dV 2) (dC (.int 3))) (af (ag bF (dC (.int 1)) (ag da (ag jH (dV 2) (dC (.int 3))) (bf eg (dV 3)))) (af (cP 3) aP))) [.ow (Pa.map It.p),s1,.sh (.int n'),.sh (.lst (Pb.map It.p))]=some r.p:=by
   refine(bU (ay ((aj (x:=.int n') (y:=.int ((3:Nat):Int)) rfl rfl).trans (et _ (by decide))) (ay (x:=.int ((1+(n'/3 %(Pb.length:Int)).toNat:Nat):Int)) ?_ (ay (x:=.lst (Pb.map It.p)) rfl rfl)))).trans r4
   refine(aj (x:=.int ((1:Nat):Int)) rfl ((aj (x:=.int (n'/3)) (y:=.int (Pb.length:Nat)) rfl ?_).trans (et _ (by omega)))).trans rfl
   show some (PV.int ((Pb.map It.p).length:Nat))=_
   rw[List.length_map]
  show((af (cx av (af (ag da (dV 2) (dC (.int 3))) (af (ag bF (dC (.int 1)) (ag da (ag jH (dV 2) (dC (.int 3))) (bf eg (dV 3)))) (af (cP 3) aP)))) aP) [.ow (Pa.map It.p),s1,.sh (.int n'),.sh (.lst (Pb.map It.p))]).bind _=_
  rw[ay e5 rfl]
  show((if(Pa.map It.p).length<sizeLine then some (Pa.map It.p++[r.p])else none).map λl'=>Fl.nx [.ow l',s1,.sh (.int n'),.sh (.lst (Pb.map It.p))])=_
  have wl:=GG P
  rw[if_pos (by rw[List.length_map];omega),List.map_append]
  rfl
theorem vA(s1:Slot):∀(k:Nat) {P:List It} (h1:1<=P.length) (hk:P.length<=1+7*k) (hP:∀i∈P,Ok i) {D W:Nat} (hd:∀i∈P,i.d<=D) (hw:wt P<=W) (hW:W+10*k<=49000) {s0:Slot} (hs:s0=.sh (.lst (P.map It.p))\/s0=.ow (P.map It.p)) {n:Int} (RA:0<=n) (MZ:n<2147483647) (s3:Slot) (f:Nat) (hf:k<f),
  ∃(r:It) (t0 t2 t3:Slot),(t0=.sh (.lst [r.p])\/t0=.ow [r.p])/\Ok r/\(r.d<=D+k/\r.t.length+2<=W+10*k)/\fM (tV (ag Jr (bf eg (dV 0)) (dC (.int 1)))) (ij av) f [s0,s1,.sh (.int n),s3]=some (.nx [t0,s1,t2,t3])
 |k,P,h1,hk,hP,D,W,hd,hw,hW,s0,hs,n,RA,MZ,s3,0,hf=>by omega
 |k,P,h1,hk,hP,D,W,hd,hw,hW,s0,hs,n,RA,MZ,s3,f+1,hf=>by
  have v0:∀r1 r2 r3,dV 0 [s0,r1,r2,r3]=some (.lst (P.map It.p)):=λr1 r2 r3=>by
   rcases hs with rfl|rfl<;>rfl
  have t:tV (ag Jr (bf eg (dV 0)) (dC (.int 1))) [s0,s1,.sh (.int n),s3]=some (decide (1<P.length)):=by
   refine bQ ((aj (x:=.int (P.length:Nat)) (y:=.int 1) ((b5 (v0 _ _ _)).trans ?_) rfl).trans ?_)
   ·show some (PV.int ((P.map It.p).length:Nat))=_
    rw[List.length_map]
   ·show some (PV.bl (decide ((1:Int)<(P.length:Int))))=_
    congr 2
    rw[decide_eq_decide]
    omega
  by_cases h2:1<P.length
  ·rw[decide_eq_true h2]at t
   match k,hk with
   |0,hk=>omega
   |k+1,hk=>
    obtain⟨Q,n',t3,q1,q2,q3,q4,q5,q6,q7⟩:=Dw hF (P:=P) (by omega) hP hd hw (by omega) hs s1 RA MZ s3
    obtain⟨r,t0,t2,V9,a1,a2,a3,a4⟩:=vA s1 k (P:=Q) (by omega) (by omega) q2 (D:=D+1) (W:=W+10) q3 q4 (by omega) (s0:=.ow (Q.map It.p)) (.inr rfl) q5 q6 t3 f (by omega)
    exact⟨r,t0,t2,V9,a1,a2,⟨by omega,by omega⟩,(E9 t q7).trans a4⟩
  ·rw[decide_eq_false h2]at t
   obtain⟨r,rfl⟩:∃r,P=[r]:=List.length_eq_one_iff.mp (by omega)
   exact⟨r,s0,.sh (.int n),s3,hs,hP r (List.mem_cons_self ..),⟨by have:=hd r (List.mem_cons_self ..);omega,by rw[rL]at hw;omega⟩,E8 t⟩
theorem Bs{P:List It}(h1:1<=P.length)(Wt:P.length<=57)(hP:∀i∈P,Ok i){D:Nat}(hd:∀i∈P,i.d<=D)(hw:wt P<=10000)(c:Int):∃r:It,Ok r/\(r.d<=D+8/\r.t.length<=11000)/\fn false 4 2 (oA av) [.lst (P.map It.p),.int c]=some r.p:=by
 have b1:=Int.emod_nonneg c (show(2147483646:Int)≠0 by decide)
 have b2:=Int.emod_lt_of_pos c (show(0:Int)<2147483646 by decide)
 obtain⟨r,t0,t2,t3,a1,a2,a3,a4⟩:=vA hF (.sh (.int c)) 8 (P:=P) h1 (by omega) hP hd hw (by omega) (s0:=.sh (.lst (P.map It.p))) (.inl rfl) (n:=1+c % 2147483646) (by omega) (by omega) .un 1000 (by decide)
 refine⟨r,a2,⟨by omega,by omega⟩,fZ rfl ?_⟩
 refine(aB (a9 (p:=.int (1+c % 2147483646)) ((aj (x:=.int 1) rfl ((aj (x:=.int c) (y:=.int 2147483646) rfl rfl).trans (kG _ (by decide)))).trans rfl))).trans ?_
 refine(aB a4).trans (fF ?_)
 rcases a1 with rfl|rfl<;>rfl
end
theorem Ja(x:Str):bM [.str x]=some (It.p ⟨.ins 0 [.str x],.tup [.str "hand",.str x],x,0⟩):=by
 refine fQ rfl ?_
 exact fg (ay (x:=.ins 0 [.str x]) rfl (ay (x:=.tup [.str "hand",.str x]) (fg (xs:=[.str "hand",.str x]) rfl (by simp)) (ay (x:=.str x) rfl (ay (x:=.int ((0:Nat):Int)) rfl rfl)))) (by simp)
structure Dx(Ok:It->Prop)(k:Nat)(P:List It):Prop where
 pos:1<=P.length
 len:P.length<=1+k
 ok:∀i∈P,Ok i
 dp:∀i∈P,i.d<=12
 wt:wt P<=60*(1+k)
section
variable{names:List Str}{Ok:It->Prop}(B:Q0 names Ok)(hn:∀x∈names,x.length<=50){F_law_folded bM F_law_cell_at av:List PV->Option PV}
 (hH:∀x:Str,bM [.str x]=some (It.p ⟨.ins 0 [.str x],.tup [.str "hand",.str x],x,0⟩))
 (hF:∀{kind m:Nat},kind<3->∀{its:List It},its≠[]->its.length<=8->wt its<=50000->1<=m->m<=its.length->(∀i∈its,Ok i)->∃r:It,Ok r/\(∃i∈its,r.d=1+i.d)/\r.t.length+2<=wt its+10/\av [.int kind,.int m,.lst (its.map It.p)]=some r.p)
include B hn hH
theorem Cz(h0:names≠[])(c:Int){A L:Den}{ρ:di}(hA:A ρ=some (.tup (names.map PV.str)))(hL:L ρ=some (.int c)):∃x∈names,ag lP A (ag da L (bf eg A)) ρ=some (.str x):=by
 have hl:0<names.length:=List.length_pos_iff.mpr h0
 have hi:=mod_lt c hl
 refine⟨names[(c %(names.length:Int)).toNat],List.getElem_mem hi,?_⟩
 refine(aj hA ((aj hL ((b5 hA).trans ?_)).trans (et c hl))).trans ?_
 ·show some (PV.int ((names.map PV.str).length:Nat))=_
  rw[List.length_map]
 ·show itemAt (names.map PV.str) (((c %(names.length:Int)).toNat:Nat):Int)=_
  unfold itemAt MU
  rw[if_pos (by omega),if_pos (by rw[List.length_map];omega)]
  show(names.map PV.str)[(((c %(names.length:Int)).toNat:Nat):Int).toNat]?=_
  rw[Int.toNat_natCast,List.getElem?_map,List.getElem?_eq_getElem hi]
  rfl
include hF
theorem Bt(h0:names≠[])(s0 s1 s2:Slot)(cell:Int){k:Nat}(hk:k<=100){P:List It}(hP:Dx Ok k P)(heads:Nat)(s7 s8:Slot):
  ∃(Q:List It) (tm:Nat) (t7 t8:Slot),Dx Ok (k+1) Q/\i7 F_law_folded bM F_law_cell_at av [s0,s1,s2,.sh (.tup (names.map PV.str)),.ow (P.map It.p),.sh (.int (heads:Nat)),.sh (.int cell),s7,s8]=some (.nx [s0,s1,s2,.sh (.tup (names.map PV.str)),.ow (Q.map It.p),.sh (.int (tm:Nat)),.sh (.int cell),t7,t8]):=by
 have zl:(100000:Nat)<=sizeLine:=by decide
 obtain⟨p1,p2,p3,p4,p5⟩:=hP
 have hj:=mod_lt (cell/9) (n:=8) (by decide)
 generalize ej:1+(cell/9 %((8:Nat):Int)).toNat=j at*
 have es:=ends P j
 generalize eA:P.take (P.length-j)=Pa at es
 generalize eB:P.drop (P.length-j)=Pb at es
 have lb:Pb.length=min j P.length:=by rw[<-eB,List.length_drop];omega
 have la:Pa.length=P.length-j:=by rw[<-eA,List.length_take];omega
 have mb:∀i∈Pb,i∈P:=λi hi=>by rw[<-es];exact List.mem_append_right _ hi
 have ma:∀i∈Pa,i∈P:=λi hi=>by rw[<-es];exact List.mem_append_left _ hi
 have V8:L2.D.wt Pa+L2.D.wt Pb=L2.D.wt P:=by rw[<-rK,es]
 have e1:BL (dV 4) (bX (bf qZ (ag bF (dC (.int 1)) (ag da (ag jH (dV 6) (dC (.int 9))) (dC (.int 8)))))) eW [s0,s1,s2,.sh (.tup (names.map PV.str)),.ow (P.map It.p),.sh (.int (heads:Nat)),.sh (.int cell),s7,s8]=some (.lst (Pb.map It.p)):=by
  have eo:(bX (bf qZ (ag bF (dC (.int 1)) (ag da (ag jH (dV 6) (dC (.int 9))) (dC (.int 8)))))) [s0,s1,s2,.sh (.tup (names.map PV.str)),.ow (P.map It.p),.sh (.int (heads:Nat)),.sh (.int cell),s7,s8]=some (some (-(j:Int))):=by
   have:bf qZ (ag bF (dC (.int 1)) (ag da (ag jH (dV 6) (dC (.int 9))) (dC (.int 8)))) [s0,s1,s2,.sh (.tup (names.map PV.str)),.ow (P.map It.p),.sh (.int (heads:Nat)),.sh (.int cell),s7,s8]=some (.int (-(j:Int))):=by
    refine(b5 (x:=.int (j:Int)) ?_).trans rfl
    rw[<-ej]
    exact(aj (x:=.int ((1:Nat):Int)) rfl ((aj (x:=.int (cell/9)) (y:=.int ((8:Nat):Int)) rfl rfl).trans (et _ (by decide)))).trans rfl
   unfold bX
   rw[this]
   rfl
  refine(rN (l:=P.map It.p) rfl eo rfl).trans ?_
  rw[yR _ j (by omega),List.length_map,<-List.map_drop,eB]
 have Uy:Pb≠[]:=λz=>by rw[z]at lb;simp at lb;omega
 obtain⟨M,eM,TF,Ux⟩:=rM (Pb.map It.d) (by simpa using Uy)
 have c3:∀s8,dZ (nList (dV 7)) dr (ag lP (dV 0) (dC (.int 3))) [s0,s1,s2,.sh (.tup (names.map PV.str)),.ow (P.map It.p),.sh (.int (heads:Nat)),.sh (.int cell),.sh (.lst (Pb.map It.p)),s8]=some (.lst (Pb.map λi=>.int (i.d:Nat))):=λs8=>f6 It.p (λi=>.int (i.d:Nat)) rfl (by omega) λi _=>z9 i _ 3 _ rfl
 have TH:ml (.lst (Pb.map λi=>.int (i.d:Nat)))=some (.int (M:Nat)):=by
  have e:rJ (Pb.map It.d)=.lst (Pb.map λi=>.int (i.d:Nat)):=by
   unfold rJ
   rw[List.map_map]
   rfl
  rw[<-e]
  exact eM
 have app:∀(Z:List It) (r:It) (s5 s7 s8:Slot),Z.length<=1000->∀{E:Den},E [s0,s1,s2,.sh (.tup (names.map PV.str)),.ow (Z.map It.p),s5,.sh (.int cell),s7,s8]=some r.p->rf 4 iL (af E aP) [s0,s1,s2,.sh (.tup (names.map PV.str)),.ow (Z.map It.p),s5,.sh (.int cell),s7,s8]=some (.nx [s0,s1,s2,.sh (.tup (names.map PV.str)),.ow ((Z++[r]).map It.p),s5,.sh (.int cell),s7,s8]):=λZ r s5 s7 s8 hZ E hE=>by
  show((af E aP) [s0,s1,s2,.sh (.tup (names.map PV.str)),.ow (Z.map It.p),s5,.sh (.int cell),s7,s8]).bind _=_
  rw[ay hE rfl]
  show((if(Z.map It.p).length<sizeLine then some (Z.map It.p++[r.p])else none).map λl'=>Fl.nx [s0,s1,s2,.sh (.tup (names.map PV.str)),.ow l',s5,.sh (.int cell),s7,s8])=_
  rw[if_pos (by rw[List.length_map];omega),List.map_append]
  rfl
 have T1:tV (ag GS (ag da (dV 6) (dC (.int 9))) (dC (.int 6))) [s0,s1,s2,.sh (.tup (names.map PV.str)),.ow (P.map It.p),.sh (.int (heads:Nat)),.sh (.int cell),.sh (.lst (Pb.map It.p)),.sh (.int (M:Nat))]=some (decide (cell % 9<6)):=bQ rfl
 have T2:tV (ag Jr (dV 8) (dC (.int 11))) [s0,s1,s2,.sh (.tup (names.map PV.str)),.ow (P.map It.p),.sh (.int (heads:Nat)),.sh (.int cell),.sh (.lst (Pb.map It.p)),.sh (.int (M:Nat))]=some (decide ((11:Int)<(M:Int))):=bQ rfl
 have T3:tV (ag Jr (dV 5) (dC (.int 13))) [s0,s1,s2,.sh (.tup (names.map PV.str)),.ow (P.map It.p),.sh (.int (heads:Nat)),.sh (.int cell),.sh (.lst (Pb.map It.p)),.sh (.int (M:Nat))]=some (decide ((13:Int)<(heads:Int))):=bQ rfl
 have pre:∀{fl:Fl} {X:aY},X [s0,s1,s2,.sh (.tup (names.map PV.str)),.ow (P.map It.p),.sh (.int (heads:Nat)),.sh (.int cell),.sh (.lst (Pb.map It.p)),.sh (.int (M:Nat))]=some fl->(ba (cU 7 (BL (dV 4) (bX (bf qZ (ag bF (dC (.int 1)) (ag da (ag jH (dV 6) (dC (.int 9))) (dC (.int 8)))))) eW)) (ba (cU 8 (bf ml (dZ (nList (dV 7)) dr (ag lP (dV 0) (dC (.int 3)))))) X)) [s0,s1,s2,.sh (.tup (names.map PV.str)),.ow (P.map It.p),.sh (.int (heads:Nat)),.sh (.int cell),s7,s8]=some fl:=λhX=>(aB (a9 e1)).trans ((aB (a9 ((b5 (c3 _)).trans TH))).trans hX)
 have tq:∃(Q:List It) (tm:Nat) (t7 t8:Slot),Dx Ok (k+1) Q/\(rf 4 iL (af (cx bM (af (ag lP (dV 3) (ag da (ag jH (dV 6) (dC (.int 9))) (bf eg (dV 3)))) aP)) aP)) [s0,s1,s2,.sh (.tup (names.map PV.str)),.ow (P.map It.p),.sh (.int (heads:Nat)),.sh (.int cell),.sh (.lst (Pb.map It.p)),.sh (.int (M:Nat))]=some (.nx [s0,s1,s2,.sh (.tup (names.map PV.str)),.ow (Q.map It.p),.sh (.int (tm:Nat)),.sh (.int cell),t7,t8]):=by
  obtain⟨x,hx,ex⟩:=Cz B hn hH h0 (cell/9) (A:=dV 3) (L:=ag jH (dV 6) (dC (.int 9))) (ρ:=[s0,s1,s2,.sh (.tup (names.map PV.str)),.ow (P.map It.p),.sh (.int (heads:Nat)),.sh (.int cell),.sh (.lst (Pb.map It.p)),.sh (.int (M:Nat))]) rfl rfl
  have hl:=hn x hx
  refine⟨P++[⟨.ins 0 [.str x],.tup [.str "hand",.str x],x,0⟩],heads,_,_,⟨by rw[List.length_append];omega,by rw[List.length_append,List.length_singleton];omega,λi hi=>?_,λi hi=>?_,by rw[rK,rL];show _+(x.length+2)<=_;omega⟩,app P _ _ _ _ (by omega) ((bU (ay ex rfl)).trans (hH x))⟩
  ·rcases List.mem_append.mp hi with hi|hi
   ·exact p3 i hi
   ·obtain rfl:=List.mem_singleton.mp hi
    exact B.hand x hx
  ·rcases List.mem_append.mp hi with hi|hi
   ·exact p4 i hi
   ·obtain rfl:=List.mem_singleton.mp hi
    exact Nat.zero_le _
 by_cases g1:cell % 9<6
 ·obtain⟨Q,h',t7,t8,q1,q2⟩:=tq
  exact⟨Q,h',t7,t8,q1,pre ((iO (B8 (T1.trans (by rw[decide_eq_true g1])))).trans q2)⟩
 ·by_cases g2:(11:Int)<(M:Int)
  ·obtain⟨Q,h',t7,t8,q1,q2⟩:=tq
   exact⟨Q,h',t7,t8,q1,pre ((iO ((kl (T1.trans (by rw[decide_eq_false g1]))).trans (B8 (T2.trans (by rw[decide_eq_true g2]))))).trans q2)⟩
  ·by_cases g3:(13:Int)<(heads:Int)
   ·obtain⟨Q,h',t7,t8,q1,q2⟩:=tq
    exact⟨Q,h',t7,t8,q1,pre ((iO ((kl (T1.trans (by rw[decide_eq_false g1]))).trans ((kl (T2.trans (by rw[decide_eq_false g2]))).trans (T3.trans (by rw[decide_eq_true g3]))))).trans q2)⟩
   ·have c9:=Int.emod_lt_of_pos cell (show(0:Int)<9 by decide)
    have hm:=mod_lt (cell/72) (n:=Pb.length) (by omega)
    have ek:cell % 9-6=(((cell % 9-6).toNat:Nat):Int):=by omega
    obtain⟨r,r1,⟨i,hi,r2⟩,r3,r4⟩:=hF (kind:=(cell % 9-6).toNat) (m:=1+(cell/72 %(Pb.length:Int)).toNat) (by omega) (its:=Pb) Uy (by omega) (by omega) (by omega) (by omega) λi hi=>p3 i (mb i hi)
    have Wu:i.d<=M:=TF _ (List.mem_map.mpr ⟨i,hi,rfl⟩)
    refine⟨Pa++[r],heads+1,.sh (.lst (Pb.map It.p)),.sh (.int (M:Nat)),⟨by rw[List.length_append,List.length_singleton];omega,by rw[List.length_append,List.length_singleton];omega,λx hx=>?_,λx hx=>?_,by rw[rK,rL];omega⟩,pre ((eZ ((kl (T1.trans (by rw[decide_eq_false g1]))).trans ((kl (T2.trans (by rw[decide_eq_false g2]))).trans (T3.trans (by rw[decide_eq_false g3]))))).trans ?_)⟩
    ·rcases List.mem_append.mp hx with hx|hx
     ·exact p3 x (ma x hx)
     ·obtain rfl:=List.mem_singleton.mp hx
      exact r1
    ·rcases List.mem_append.mp hx with hx|hx
     ·exact p4 x (ma x hx)
     ·obtain rfl:=List.mem_singleton.mp hx
      omega
    ·have e4:BL (dV 4) eW (bX (ag CQ (bf eg (dV 4)) (bf eg (dV 7)))) [s0,s1,s2,.sh (.tup (names.map PV.str)),.ow (P.map It.p),.sh (.int (heads:Nat)),.sh (.int cell),.sh (.lst (Pb.map It.p)),.sh (.int (M:Nat))]=some (.lst (Pa.map It.p)):=by
       have eo:(bX (ag CQ (bf eg (dV 4)) (bf eg (dV 7)))) [s0,s1,s2,.sh (.tup (names.map PV.str)),.ow (P.map It.p),.sh (.int (heads:Nat)),.sh (.int cell),.sh (.lst (Pb.map It.p)),.sh (.int (M:Nat))]=some (some ((P.length-j:Nat):Int)):=by
        show some (some (((P.map It.p).length:Int)-((Pb.map It.p).length:Int)))=_
        rw[List.length_map,List.length_map,lb]
        congr 2
        omega
       refine(rN (l:=P.map It.p) rfl rfl eo).trans ?_
       rw[Fe _ _ (by rw[List.length_map];omega),<-List.map_take,eA]
     refine(aB (kE e4)).trans ?_
     have e5:cx av (af (ag CQ (ag da (dV 6) (dC (.int 9))) (dC (.int 6))) (af (ag bF (dC (.int 1)) (ag da (ag jH (dV 6) (dC (.int 72))) (bf eg (dV 7)))) (af (cP 7) aP))) [s0,s1,s2,.sh (.tup (names.map PV.str)),.ow (Pa.map It.p),.sh (.int (heads:Nat)),.sh (.int cell),.sh (.lst (Pb.map It.p)),.sh (.int (M:Nat))]=some r.p:=by
      refine(bU (ay (x:=.int (((cell % 9-6).toNat:Nat):Int)) ?_ (ay (x:=.int ((1+(cell/72 %(Pb.length:Int)).toNat:Nat):Int)) ?_ (ay (x:=.lst (Pb.map It.p)) rfl rfl)))).trans r4
      ·rw[<-ek]
       rfl
      ·refine(aj (x:=.int ((1:Nat):Int)) rfl ((aj (x:=.int (cell/72)) (y:=.int (Pb.length:Nat)) rfl ?_).trans (et _ (by omega)))).trans rfl
       show some (PV.int ((Pb.map It.p).length:Nat))=_
       rw[List.length_map]
     refine(aB (app Pa r _ _ _ (by omega) e5)).trans ?_
     exact a9 rfl
theorem vB(h0:names≠[])(s0 s1 s2:Slot):∀(cs:List Int) (k:Nat) (hk:k+cs.length<=100) {P:List It} (hP:Dx Ok k P) (heads:Nat) (s6 s7 s8:Slot),
  ∃(Q:List It) (tm:Nat) (t6 t7 t8:Slot),Dx Ok (k+cs.length) Q/\forL (b0 6) (i7 F_law_folded bM F_law_cell_at av) (cs.map PV.int) [s0,s1,s2,.sh (.tup (names.map PV.str)),.ow (P.map It.p),.sh (.int (heads:Nat)),s6,s7,s8]=some (.nx [s0,s1,s2,.sh (.tup (names.map PV.str)),.ow (Q.map It.p),.sh (.int (tm:Nat)),t6,t7,t8])
 |[],k,hk,P,hP,heads,s6,s7,s8=>⟨P,heads,s6,s7,s8,hP,rfl⟩
 |c::cs,k,hk,P,hP,heads,s6,s7,s8=>by
  rw[List.length_cons]at hk
  obtain⟨Q,h1,t7,t8,q1,q2⟩:=Bt B hn hH hF h0 s0 s1 s2 c (by omega) hP heads s7 s8
  obtain⟨Q',h2,u6,u7,u8,q3,q4⟩:=vB h0 s0 s1 s2 cs (k+1) (by omega) q1 h1 (.sh (.int c)) t7 t8
  refine⟨Q',h2,u6,u7,u8,?_,Eq.trans ?_ q4⟩
  ·rw[List.length_cons,show k+(cs.length+1)=k+1+cs.length by omega]
   exact q3
  ·exact oT (i:=6) (x:=.int c) (xs:=cs.map PV.int) (ρ:=[s0,s1,s2,.sh (.tup (names.map PV.str)),.ow (P.map It.p),.sh (.int (heads:Nat)),s6,s7,s8]) q2
theorem Dy(h0:names≠[])(hC:∀(ns:List Int) (k:Nat),F_law_cell_at [oX ns,.int k]=some (.int (ns.getD k 0)))
  (hL:∀{P:List It},1<=P.length->P.length<=57->(∀i∈P,Ok i)->∀{D:Nat},(∀i∈P,i.d<=D)->L2.D.wt P<=10000->∀c:Int,∃r:It,Ok r/\(r.d<=D+8/\r.t.length<=11000)/\F_law_folded [.lst (P.map It.p),.int c]=some r.p)
  (ns:List Int)(a size:Nat)(Rt:1<=size)(hs:size<=50):∃r:It,Ok r/\(r.d<=20/\r.t.length<=11000)/\fn false 9 4 (pY F_law_folded bM F_law_cell_at av) [oX ns,.int a,.int size,.tup (names.map PV.str)]=some r.p:=by
 have zl:(100000:Nat)<=sizeLine:=by decide
 obtain⟨x,hx,ex⟩:=Cz B hn hH h0 (ns.getD a 0) (A:=dV 3) (L:=cx F_law_cell_at (af (cP 0) (af (cP 1) aP))) (ρ:=[.sh (oX ns),.sh (.int a),.sh (.int size),.sh (.tup (names.map PV.str)),.un,.un,.un,.un,.un]) rfl ((bU (ps:=[oX ns,.int a]) rfl).trans (hC ns a))
 have hl:=hn x hx
 have cl:(ky ns (some ((a+1:Nat):Int)) (some ((a+size:Nat):Int))).length<=49:=by
  unfold ky ye
  simp only
  rw[if_neg (by omega),if_neg (by omega),List.length_take,List.length_drop,Int.toNat_natCast,Int.toNat_natCast]
  omega
 generalize Wa:ky ns (some ((a+1:Nat):Int)) (some ((a+size:Nat):Int))=cs at cl
 have Wb:Dx Ok 0 [⟨.ins 0 [.str x],.tup [.str "hand",.str x],x,0⟩]:=⟨by simp,by simp,λi hi=>by
  obtain rfl:=List.mem_singleton.mp hi
  exact B.hand x hx,λi hi=>by
  obtain rfl:=List.mem_singleton.mp hi
  exact Nat.zero_le _,by rw[rL];show x.length+2<=_;omega⟩
 obtain⟨Q,h',t6,t7,t8,q1,q2⟩:=vB B hn hH hF (F_law_folded:=F_law_folded) (F_law_cell_at:=F_law_cell_at) h0 (.sh (oX ns)) (.sh (.int a)) (.sh (.int size)) cs 0 (by omega) Wb 0 .un .un .un
 obtain⟨p1,p2,p3,p4,p5⟩:=q1
 obtain⟨r,r1,r2,r3⟩:=hL (P:=Q) p1 (by omega) p3 p4 (by omega) (ns.getD 1 0)
 refine⟨r,r1,⟨by omega,by omega⟩,fZ rfl ?_⟩
 refine(aB (kE (l:=[It.p ⟨.ins 0 [.str x],.tup [.str "hand",.str x],x,0⟩]) (Ij (ay ((bU (ay ex rfl)).trans (hH x)) rfl) (by simp)))).trans ?_
 refine(aB (a9 (p:=.int ((0:Nat):Int)) rfl)).trans ?_
 have ei:nList (BL (dV 0) (bX (ag bF (dV 1) (dC (.int 1)))) (bX (ag bF (dV 1) (dV 2)))) [.sh (oX ns),.sh (.int a),.sh (.int size),.sh (.tup (names.map PV.str)),.ow [It.p ⟨.ins 0 [.str x],.tup [.str "hand",.str x],x,0⟩],.sh (.int ((0:Nat):Int)),.un,.un,.un]=some (cs.map PV.int):=by
  refine yP ((rN (l:=ns.map PV.int) (a:=some ((a+1:Nat):Int)) (b:=some ((a+size:Nat):Int)) rfl rfl rfl).trans ?_)
  rw[E7,Wa]
 refine(aB ((lX ei).trans q2)).trans ?_
 refine(aB (ρ':=[.sh (oX ns),.sh (.int a),.sh (.int size),.sh (.tup (names.map PV.str)),.sh (.lst (Q.map It.p)),.sh (.int (h':Nat)),t6,t7,t8]) rfl).trans ?_
 exact fF ((bU (ay (x:=.lst (Q.map It.p)) rfl (ay ((bU (ps:=[oX ns,.int ((1:Nat):Int)]) rfl).trans (hC ns 1)) rfl))).trans r3)
end
theorem GH{names:List Str}{Ok:It->Prop}(B:Q0 names Ok)(hn:∀x∈names,x.length<=50)(h0:names≠[])(ns:List Int)(a size:Nat)(Rt:1<=size)(hs:size<=50):∃r:It,Ok r/\(r.d<=20/\r.t.length<=11000)/\F_law_built [oX ns,.int a,.int size,.tup (names.map PV.str)]=some r.p:=
 Dy B hn Ja (tj B) h0 v7 (Bs (tj B)) ns a size Rt hs
theorem same_str(m:Nat)(x:Str):cg (m+1) [.str x,.str x]=some (.bl true):=by
 refine fZ rfl ?_
 refine(aB ((eZ ((kl (bQ rfl)).trans (bQ rfl))).trans rfl)).trans ?_
 refine(aB ((eZ (bQ rfl)).trans rfl)).trans ?_
 refine(aB ((eZ (bQ rfl)).trans rfl)).trans ?_
 refine lZ ((iO (bQ rfl)).trans (fF ?_))
 refine(Ik rfl).trans ((aj (x:=.str x) (y:=.str x) rfl rfl).trans ?_)
 show some (PV.bl (decide (x=x)))=_
 rw[decide_eq_true rfl]
theorem GI(m a:Nat):cg (m+1) [.int (a:Nat),.int (a:Nat)]=some (.bl true):=same_int (F:=cg m) a
theorem lM{m:Nat}{l:List PV}(h:∀p∈l,cg m [p,p]=some (.bl true))(hl:l.length<=5000):cg (m+1) [.tup l,.tup l]=some (.bl true):=by
 refine fZ rfl ?_
 refine lZ ((iO (B8 (bQ rfl))).trans ?_)
 refine(aB ((eZ ((kl (bQ rfl)).trans (bQ rfl))).trans rfl)).trans ?_
 refine(aB ((eZ (bQ ((aj (x:=.int (l.length:Nat)) (y:=.int (l.length:Nat)) rfl rfl).trans ?_))).trans rfl)).trans ?_
 ·rw[Ii,decide_eq_true rfl]
  rfl
 obtain⟨t,f⟩:=vk (i:=2) (body:=gG (cg m)) (pl (List.range l.length)) [.sh (.tup l),.sh (.tup l),.un] (by
  intro x hx
  obtain⟨k,hk,rfl⟩:=LQ hx
  have GV:=List.mem_range.mp hk
  have it:itemAt l ((k:Nat):Int)=some l[k]:=by
   unfold itemAt MU
   rw[if_pos (by omega),if_pos (by omega)]
   show l[((k:Nat):Int).toNat]?=_
   rw[Int.toNat_natCast,List.getElem?_eq_getElem GV]
  have i0:ag lP (dV 0) (dV 2) [.sh (.tup l),.sh (.tup l),.sh (.int (k:Nat))]=some l[k]:=it
  have i1:ag lP (dV 1) (dV 2) [.sh (.tup l),.sh (.tup l),.sh (.int (k:Nat))]=some l[k]:=it
  exact(eZ (jM (b:=true) (bQ ((bU (ay i0 (ay i1 rfl))).trans (h _ (List.getElem_mem GV)))))).trans rfl)
 exact(aB ((lX (om (n:=l.length) rfl (by omega))).trans f)).trans rfl
theorem MI:(("parts" :Str)==("wanted" :Str))=false:=by decide+kernel
theorem MJ:(("parts" :Str)==("parts" :Str))=true:=by decide+kernel
theorem MK:(("wanted" :Str)==("wanted" :Str))=true:=by decide+kernel
theorem ML:(("name" :Str)==("name" :Str))=true:=by decide+kernel
theorem Aa(p:PV):gF kn "name" (.ins 0 [p])=some p:=by
 show List.lookup ("name" :Str) [("name",p)]=_
 rw[List.lookup_cons,ML]
theorem tu{c:Nat}(h0:0<c)(h4:c<4)(w q:PV):gF kn "wanted" (.ins c [w,q])=some w:=by
 have e:kn c=[("wanted" :Str),("parts" :Str)]:=by
  unfold kn MV
  rw[if_neg (by omega),if_neg (by omega),if_pos h4]
 show List.lookup ("wanted" :Str) ((kn c).zip [w,q])=_
 rw[e,List.zip_cons_cons,List.lookup_cons,MK]
theorem vC{c:Nat}(h0:0<c)(h4:c<4)(w q:PV):gF kn "parts" (.ins c [w,q])=some q:=by
 have e:kn c=[("wanted" :Str),("parts" :Str)]:=by
  unfold kn MV
  rw[if_neg (by omega),if_neg (by omega),if_pos h4]
 show List.lookup ("parts" :Str) ((kn c).zip [w,q])=_
 rw[e,List.zip_cons_cons,List.lookup_cons,MI,List.zip_cons_cons,List.lookup_cons,MJ]
noncomputable def Ok(i:It):Prop:=∃c l,i.o=.ins c l/\c<4/\(∀m,i.d<=m->fI (m+1) c [i.o]=some i.s/\gI (m+1) c [i.o]=some (.str i.t))/\∀m,2*i.d+2<=m->cg m [i.s,i.s]=some (.bl true)
theorem CA(x:Str):Ok ⟨.ins 0 [.str x],.tup [.str "hand",.str x],x,0⟩:=by
 refine⟨0,_,rfl,by decide,λm _=>⟨?_,?_⟩,λm hm=>?_⟩
 ·exact fQ rfl (fg (ay (x:=.str "hand") rfl (ay ((b5 (x:=.ins 0 [.str x]) rfl).trans (Aa _)) rfl)) (by simp))
 ·exact fQ rfl ((b5 (x:=.ins 0 [.str x]) rfl).trans (Aa _))
 ·obtain⟨k,rfl⟩:∃k,m=k+2:=⟨m-2,by omega⟩
  refine lM (λp hp=>?_) (by simp)
  simp only[List.mem_cons,List.not_mem_nil,or_false]at hp
  rcases hp with rfl|rfl<;>exact same_str _ _
section
variable{its:List It}{n:Nat}(h8:its.length<=8)(hw:wt its<=50000)(hi:∀i∈its,Ok i/\i.d<=n)
include h8 hw hi
theorem pP{m c:Nat}(hm:n<m)(h0:0<c)(h4:c<4)(w:PV):fn false 1 1 (bq (fI m)) [.ins c [w,.tup (its.map It.o)]]=some (.tup (its.map It.s)):=by
 refine fQ rfl ?_
 have dc:dZ (Ef (bf (gF kn "parts") (dV 0))) dr (eX (fI m) (cP 0) aP) [.sh (.ins c [w,.tup (its.map It.o)])]=some (.lst (its.map It.s)):=by
  refine f6 It.o It.s ?_ (by omega) λi MW=>?_
  ·show((bf (gF kn "parts") (dV 0)) [.sh (.ins c [w,.tup (its.map It.o)])]).bind Ax=_
   rw[(b5 (x:=.ins c [w,.tup (its.map It.o)]) rfl).trans (vC h0 h4 _ _)]
   rfl
  ·obtain⟨⟨ci,l,e,_,hs,_⟩,hd⟩:=hi i MW
   obtain⟨k,rfl⟩:∃k,m=k+1:=⟨m-1,by omega⟩
   have:=(hs k (by omega)).1
   rw[e]at this⊢
   exact this
 exact(b5 dc).trans rfl
theorem tw{m c:Nat}(hm:n<m)(h0:0<c)(h4:c<4)(w:PV):fn false 1 1 (bB (gI m)) [.ins c [w,.tup (its.map It.o)]]=some (.str (Jn its)):=by
 refine fQ rfl ?_
 have dc:dZ (Ef (bf (gF kn "parts") (dV 0))) dr (eX (gI m) (cP 0) aP) [.sh (.ins c [w,.tup (its.map It.o)])]=some (.lst (its.map λi=>.str i.t)):=by
  refine f6 It.o (λi=>.str i.t) ?_ (by omega) λi MW=>?_
  ·show((bf (gF kn "parts") (dV 0)) [.sh (.ins c [w,.tup (its.map It.o)])]).bind Ax=_
   rw[(b5 (x:=.ins c [w,.tup (its.map It.o)]) rfl).trans (vC h0 h4 _ _)]
   rfl
  ·obtain⟨⟨ci,l,e,_,hs,_⟩,hd⟩:=hi i MW
   obtain⟨k,rfl⟩:∃k,m=k+1:=⟨m-1,by omega⟩
   have:=(hs k (by omega)).2
   rw[e]at this⊢
   exact this
 refine(aj (x:=.str zZ) rfl dc).trans ?_
 have:=vn zZ (its.map It.t) (by rw[Br];omega)
 rw[List.map_map]at this
 exact this
theorem lN{m:Nat}(hm:2*n+3<=m):cg m [.tup (its.map It.s),.tup (its.map It.s)]=some (.bl true):=by
 obtain⟨k,rfl⟩:∃k,m=k+1:=⟨m-1,by omega⟩
 refine lM (λp hp=>?_) (by rw[List.length_map];omega)
 obtain⟨i,MW,rfl⟩:=List.mem_map.mp hp
 obtain⟨⟨_,_,_,_,_,hq⟩,hd⟩:=hi i MW
 exact hq k (by omega)
end
theorem MM(names:List Str):Q0 names Ok where
 hand:=λx _=>CA x
 all:=λits n h0 h8 hw hi=>by
  have lJ:=Cy its
  have lA:("all(" :Str).length=4:=by decide+kernel
  have lC:qm.length=1:=rfl
  refine⟨1,_,rfl,by decide,λm hm=>⟨?_,?_⟩,λm hm=>?_⟩
  ·refine fQ rfl (fg (ay (x:=.str "all") rfl (ay (x:=.tup (its.map It.s)) ?_ rfl)) (by simp))
   exact pP h8 hw hi (m:=m) (c:=1) (by have:1+n<=m:=hm;omega) (by decide) (by decide) _
  ·have e:=tw h8 hw hi (m:=m) (c:=1) (by have:1+n<=m:=hm;omega) (by decide) (by decide) (.int (its.length:Nat))
   rw[<-pC]
   exact fQ rfl ((aj (y:=.str qm) ((aj (x:=.str "all(") (y:=.str (Jn its)) rfl e).trans (cy _ _ (by omega))) rfl).trans (cy _ _ (by rw[cz];omega)))
  ·have Te:2*(1+n)+2<=m:=hm
   obtain⟨k,rfl⟩:∃k,m=k+2:=⟨m-2,by omega⟩
   refine lM (λp hp=>?_) (by simp)
   simp only[List.mem_cons,List.not_mem_nil,or_false]at hp
   rcases hp with rfl|rfl
   ·exact same_str _ _
   ·exact lN h8 hw hi (by omega)
 any:=λits n h0 h8 hw hi=>by
  have lJ:=Cy its
  have lA:("any(" :Str).length=4:=by decide+kernel
  have lC:qm.length=1:=rfl
  refine⟨2,_,rfl,by decide,λm hm=>⟨?_,?_⟩,λm hm=>?_⟩
  ·refine fQ rfl (fg (ay (x:=.str "any") rfl (ay (x:=.tup (its.map It.s)) ?_ rfl)) (by simp))
   exact pP h8 hw hi (m:=m) (c:=2) (by have:1+n<=m:=hm;omega) (by decide) (by decide) _
  ·have e:=tw h8 hw hi (m:=m) (c:=2) (by have:1+n<=m:=hm;omega) (by decide) (by decide) (.int 1)
   rw[<-pC]
   exact fQ rfl ((aj (y:=.str qm) ((aj (x:=.str "any(") (y:=.str (Jn its)) rfl e).trans (cy _ _ (by omega))) rfl).trans (cy _ _ (by rw[cz];omega)))
  ·have Te:2*(1+n)+2<=m:=hm
   obtain⟨k,rfl⟩:∃k,m=k+2:=⟨m-2,by omega⟩
   refine lM (λp hp=>?_) (by simp)
   simp only[List.mem_cons,List.not_mem_nil,or_false]at hp
   rcases hp with rfl|rfl
   ·exact same_str _ _
   ·exact lN h8 hw hi (by omega)
 some:=λits n w h0 h8 hw hi h1 h2=>by
  have lJ:=Cy its
  have lS:(" of (" :Str).length=5:=by decide+kernel
  have lW:=GF (m:=w) (by omega)
  have lC:qm.length=1:=rfl
  refine⟨3,_,rfl,by decide,λm hm=>⟨?_,?_⟩,λm hm=>?_⟩
  ·refine fQ rfl (fg (ay (x:=.str "some") rfl (ay (x:=.int (w:Nat)) ((b5 (x:=.ins 3 [.int (w:Nat),.tup (its.map It.o)]) rfl).trans (tu (by decide) (by decide) _ _)) (ay (x:=.tup (its.map It.s)) ?_ rfl))) (by simp))
   exact pP h8 hw hi (m:=m) (c:=3) (by have:1+n<=m:=hm;omega) (by decide) (by decide) _
  ·have e:=tw h8 hw hi (m:=m) (c:=3) (by have:1+n<=m:=hm;omega) (by decide) (by decide) (.int (w:Nat))
   have oV:CS (.int (w:Nat))=some (.str (toString (w:Int))):=by
    show(if decide ((w:Int).natAbs<1000000)then some (PV.str (toString (w:Int)))else none)=_
    rw[if_pos (decide_eq_true (by omega))]
   rw[<-pC]
   refine fQ rfl ((aj (y:=.str qm) ((aj (x:=.str ((toString (w:Int):Str)++(" of (" :Str))) (y:=.str (Jn its)) ?_ e).trans (cy _ _ (by rw[cz];omega))) rfl).trans (cy _ _ (by rw[cz,cz];omega)))
   exact(aj (x:=.str (toString (w:Int))) (y:=.str " of (") ((b5 ((b5 (x:=.ins 3 [.int (w:Nat),.tup (its.map It.o)]) rfl).trans (tu (by decide) (by decide) _ _))).trans oV) rfl).trans (cy _ _ (by omega))
  ·have Te:2*(1+n)+2<=m:=hm
   obtain⟨k,rfl⟩:∃k,m=k+2:=⟨m-2,by omega⟩
   refine lM (λp hp=>?_) (by simp)
   simp only[List.mem_cons,List.not_mem_nil,or_false]at hp
   rcases hp with rfl|rfl|rfl
   ·exact same_str _ _
   ·exact GI _ _
   ·exact lN h8 hw hi (by omega)
theorem Ab:∀{l:List It},(∀i∈l,As i.t)->∀c∈Rq.ff l,c<128
 |[],_,c,hc=>by cases hc
 |i::l,h,c,hc=>by
  rcases List.mem_cons.mp hc with rfl|hc
  ·decide
  rcases List.mem_cons.mp hc with rfl|hc
  ·decide
  rcases List.mem_append.mp hc with hc|hc
  ·exact h i (List.mem_cons_self ..) c hc
  ·exact Ab (λj hj=>h j (List.mem_cons_of_mem _ hj)) c hc
theorem xO{its:List It}(h:∀i∈its,As i.t)(h0:its≠[]):As (Txt.join (", " :Str) (its.map It.t)):=by
 cases its with
 |nil=>exact absurd rfl h0
 |cons i rest=>
  intro c hc
  rw[Rq.FH]at hc
  rcases List.mem_append.mp hc with hc|hc
  ·exact h i (List.mem_cons_self ..) c hc
  ·exact Ab (λj hj=>h j (List.mem_cons_of_mem _ hj)) c hc
noncomputable def Wc(names:List Str)(i:It):Prop:=Ok i/\Rq.FJ names i/\As i.t
theorem Wd{names:List Str}(hN:∀x∈names,Rq.we x)(hl:names.length<=1000):Q0 names (Wc names) where
 hand:=λx hx=>⟨CA x,Rq.FK hN hl hx,(hN x hx).as⟩
 all:=λits n h0 h8 hw hi=>⟨(MM names).all its n h0 h8 hw λi h=>⟨(hi i h).1.1,(hi i h).2⟩,Rq.IA hN hl h0 h8 λi h=>⟨(hi i h).1.2.1,(hi i h).2⟩,pE (yS (by decide+kernel)) (pE (xO (λi h=>(hi i h).1.2.2) h0) (yS (by decide+kernel)))⟩
 any:=λits n h0 h8 hw hi=>⟨(MM names).any its n h0 h8 hw λi h=>⟨(hi i h).1.1,(hi i h).2⟩,Rq.IB hN hl h0 h8 λi h=>⟨(hi i h).1.2.1,(hi i h).2⟩,pE (yS (by decide+kernel)) (pE (xO (λi h=>(hi i h).1.2.2) h0) (yS (by decide+kernel)))⟩
 some:=λits n m h0 h8 hw hi h1 h2=>⟨(MM names).some its n m h0 h8 hw (λi h=>⟨(hi i h).1.1,(hi i h).2⟩) h1 h2,Rq.FL hN hl h0 h8 (λi h=>⟨(hi i h).1.2.1,(hi i h).2⟩) h1 h2,pE (Rq.pI (Rq.wj h1 (by omega)).1).2 (pE (xO (λi h=>(hi i h).1.2.2) h0) (yS (by decide+kernel)))⟩
section
variable{F_law_roll F_law_built fq aV:List PV->Option PV}{bP cB:Nat->List PV->Option PV}
theorem GJ{names:PV}{i:It}(hR:fq [names,.str i.t]=some i.o)(hT:∃c l,i.o=.ins c l/\c<4/\bP c [i.o]=some i.s/\cB c [i.o]=some (.str i.t))(h3:aV [i.s,i.s]=some (.bl true))(s0 s2 s5 s6 s7 s8:Slot):
  wo F_law_roll F_law_built fq aV bP cB [s0,.sh names,s2,.sh i.s,.sh (.str i.t),s5,s6,s7,s8]=some (.nx [s0,.sh names,s2,.sh i.s,.sh (.str i.t),s5,s6,.sh i.o,.sh (.str i.t)]):=by
 obtain⟨c,l,e,hc,h1,h2⟩:=hT
 obtain⟨o,s,t,d⟩:=i
 simp only at e h1 h2 h3 hR⊢
 subst e
 refine(aB (a9 ((bU (ps:=[names,.str t]) rfl).trans hR))).trans ?_
 have r:bf Lm (dV 7) [s0,.sh names,s2,.sh s,.sh (.str t),s5,s6,.sh (.ins c l),s8]=some (.bl true):=by
  show(if decide (c<4)then some (PV.bl true)else none)=_
  rw[if_pos (decide_eq_true hc)]
 have m1:eX bP (cP 7) aP [s0,.sh names,s2,.sh s,.sh (.str t),s5,s6,.sh (.ins c l),s8]=some s:=h1
 have m2:eX cB (cP 7) aP [s0,.sh names,s2,.sh s,.sh (.str t),s5,s6,.sh (.ins c l),s8]=some (.str t):=h2
 refine(aB ((eZ ((kl (jM (b:=true) (bQ r))).trans (jM (b:=true) (bQ ((bU (ay m1 (ay (x:=s) rfl rfl))).trans h3))))).trans rfl)).trans ?_
 refine(aB (a9 m2)).trans ?_
 refine(eZ ((kl (jM (b:=true) (bQ rfl))).trans (bQ ((aj (x:=.str t) (y:=.str t) rfl rfl).trans ?_)))).trans rfl
 show some (PV.bl (!decide (t=t)))=_
 rw[decide_eq_true rfl]
 rfl
theorem Jb{names:List Str}{r:It}{ns:List Int}(hT:∃c l,r.o=.ins c l/\c<4/\bP c [r.o]=some r.s/\cB c [r.o]=some (.str r.t))(hE:aV [r.s,r.s]=some (.bl true))
  (hR:F_law_roll [oX ns]=some (.tup (names.map PV.str)))
  (hB:F_law_built [oX ns,.int (6:Nat),.int (24:Nat),.tup (names.map PV.str)]=some r.p)
  (hD:fq [.tup (names.map PV.str),.str r.t]=some r.o):fn false 9 1 (JH F_law_roll F_law_built fq aV bP cB) [oX ns]=some (.bl true):=by
 refine fZ rfl ?_
 refine(aB (a9 ((bU (ps:=[oX ns]) rfl).trans hR))).trans ?_
 refine(aB (ρ':=[.sh (oX ns),.sh (.tup (names.map PV.str)),.sh r.o,.sh r.s,.sh (.str r.t),.sh (.int (r.d:Nat)),.un,.un,.un]) ?_).trans ?_
 ·show((cx F_law_built _ _).bind _)=_
  rw[(bU (ps:=[oX ns,.int (6:Nat),.int (24:Nat),.tup (names.map PV.str)]) rfl).trans hB]
  rfl
 have step:=λs6 s7 s8=>GJ (F_law_roll:=F_law_roll) (F_law_built:=F_law_built) hD hT hE (.sh (oX ns)) (.sh r.o) (.sh (.int (r.d:Nat))) s6 s7 s8
 have f:forL (b0 6) (wo F_law_roll F_law_built fq aV bP cB) (pl (List.range 2)) [.sh (oX ns),.sh (.tup (names.map PV.str)),.sh r.o,.sh r.s,.sh (.str r.t),.sh (.int (r.d:Nat)),.un,.un,.un]=some (.nx [.sh (oX ns),.sh (.tup (names.map PV.str)),.sh r.o,.sh r.s,.sh (.str r.t),.sh (.int (r.d:Nat)),.sh (.int (1:Nat)),.sh r.o,.sh (.str r.t)]):=by
  refine(oT (i:=6) (x:=.int (0:Nat)) (xs:=pl [1]) (step (.sh (.int (0:Nat))) .un .un)).trans ?_
  refine(oT (i:=6) (x:=.int (1:Nat)) (xs:=pl []) (step (.sh (.int (1:Nat))) (.sh r.o) (.sh (.str r.t)))).trans ?_
  rfl
 exact(aB ((lX (om (n:=2) rfl (by decide))).trans f)).trans rfl
end
theorem Q1{x:Str}(h:QY x):Rq.we x:=⟨h.1.as,λc hc=>by have:=h.1 c hc;omega,λz=>by have:=h.1 _ z;omega⟩
theorem Jc(ns:List Int):∃xs:List Str,xs≠[]/\xs.length<=6/\(∀x∈xs,QY x)/\F_law_roll [oX ns]=some (.tup (xs.map PV.str)):=by
 have hz:=mod_lt (ns.getD 0 0) (n:=6) (by decide)
 obtain⟨f,h1,h2,h3⟩:=GD ns 2 (1+(ns.getD 0 0 %((6:Nat):Int)).toNat) (by omega)
 refine⟨_,λz=>?_,?_,λx hx=>?_,fQ rfl ((b5 ((bU (ay (x:=oX ns) rfl (ay (x:=.int (2:Nat)) rfl (ay (x:=.int ((1+(ns.getD 0 0 %((6:Nat):Int)).toNat:Nat):Int)) ?_ rfl)))).trans h3)).trans rfl)⟩
 ·have:=congrArg List.length z
  rw[List.length_map,List.length_range]at this
  simp at this
 ·rw[List.length_map,List.length_range]
  omega
 ·obtain⟨k,_,rfl⟩:=List.mem_map.mp hx
  exact h1 k
 ·exact(aj (x:=.int ((1:Nat):Int)) rfl ((aj (y:=.int ((6:Nat):Int)) ((bU (ps:=[oX ns,.int (0:Nat)]) rfl).trans (v7 ns 0)) rfl).trans (et _ (by decide)))).trans rfl
theorem tabs(i:It)(h:Ok i)(hd:i.d<=20):∃c l,i.o=.ins c l/\c<4/\bP c [i.o]=some i.s/\cB c [i.o]=some (.str i.t):=by
 obtain⟨c,l,e,hc,hs,_⟩:=h
 exact⟨c,l,e,hc,(hs 23 (by omega)).1,(hs 23 (by omega)).2⟩
theorem Jd(i:It)(h:Ok i)(hd:i.d<=20):aV [i.s,i.s]=some (.bl true):=by
 obtain⟨c,l,e,hc,_,hq⟩:=h
 exact hq 50 (by omega)
theorem law_true(ns:List Int)(h:ns.length<=63):Cm [.lst (ns.map .int)]=some (.bl true):=by
 obtain⟨xs,x0,x6,xo,ex⟩:=Jc ns
 have hN:∀x∈xs,Rq.we x:=λx hx=>Q1 (xo x hx)
 have hl:xs.length<=1000:=by omega
 obtain⟨r,⟨r1,r2,r3⟩,⟨r4,r5⟩,r6⟩:=GH (Wd hN hl) (λx hx=>(xo x hx).2.2) x0 ns 6 24 (by decide) (by decide)
 exact Jb (tabs r r1 r4) (Jd r r1 r4) ex r6 (Rq.IC hN hl r2 (by omega) r3 (by omega))
end L2.D.My
open PySem PySem.W PyProof.Rows
theorem PySem.Challenge.cw_signright_k22_rules_read_holds : PySem.Challenge.rw_signright_k22_rules_read.Holds := by
  w_on
  refine PySem.W.holds_law (by kernel_rfl) fun We => ?_
  refine PySem.W.holds_open (q := L2.D.My.Dz) (loose := ["FEWEST_PARTS"]) (Xt := L2.D.My.MN) (XP := XL L2.D.My.Dz []) (Yf := Hook.obs (kHook L2.D.My.Ac L2.D.My.Ad L2.D.My.Ag)) (Ya := Hook.val (kHook L2.D.My.Ac L2.D.My.Ad L2.D.My.Ag)) (YP := Hook.says (kHook L2.D.My.Ac L2.D.My.Ad L2.D.My.Ag)) (N := 20000) L2.D.My.UG (Hook.of (kHook L2.D.My.Ac L2.D.My.Ad L2.D.My.Ag)) (Hook.keeps (kHook L2.D.My.Ac L2.D.My.Ad L2.D.My.Ag)) (fun s e => xl_of s (Bool.and_eq_true_iff.mp e).1) XL.keeps (by rfl) (by rfl) (by rfl) (fun s e => recFacts_of (Bool.and_eq_true_iff.mp e).2) (by rfl) (by first | assumption | decide +kernel) (by decide +kernel) ⟨rfl, rfl, rfl, rfl, rfl, by decide +kernel⟩ ?hw ?hc
  (case hw => w_witness2)
  k_fill
  refine L2.D.walkD2 (l := PySem.Challenge.rw_signright_k22_rules_read) (k := 54) (x := "_law_script") (F := L2.D.My.Cm) rfl (by decide) rfl ⟨rfl, by decide, by decide⟩ (fun w h Y => PySem.W.kIn_of Y) ?F L2.D.My.law_true
  case F =>
    intro w mg fa h KX G NM
    refine' L2.D.My.all_mk KX G NM ?AX ?nc ?AY ?F4 ?F5 ?AZ ?pO ?qJ ?qK ?qL ?qM ?xq ?xr ?xt ?xu ?xv ?k7 ?xw ?xx ?xy ?xA ?A0 ?A2 ?A3 ?A4 ?A5 ?jW ?k8 ?xB ?xC ?xD ?xE ?A6 ?A7 ?A8 ?A9 ?Ba ?jX ?k9 ?qN ?qO ?qP ?qQ ?xF ?xG ?xH ?xI ?xJ ?jc ?jY ?ng ?nh ?ni ?nj ?nk ?nq ?gr ?gw ?jZ ?Ct ?Cu ?Ma ?Bb ?IP ?F6 ?F7 ?Mb ?Bc ?IQ ?F8 ?F9 ?Mc ?Bd ?IS ?Ga ?Gb ?Md ?Be ?IT ?Gd ?Gf ?Me ?Bf ?IU ?Gg ?Gh ?Mf ?Bg ?IV ?Gj ?Gk ?Mg ?Bh ?IW ?Mh ?Mi ?Bi ?Mj ?Ml ?Mm ?Bj ?Mn ?Mo ?Mp ?Mq ?Mr ?M0 ?M1 ?fiH ?fnH ?Ms ?Mt ?Mu ?fiA ?fnA ?Mv ?Mw ?Mx ?fiY ?fnY ?Mz ?MA ?MB ?fiS ?fnS ?MC ?MD ?ME ?fiC ?fnC ?MF ?MG ?IX ?rdC ?fcC ?gaC ?hdC ?j0 ?jd ?j1 ?iB ?gO ?lg ?j2 ?lh ?je ?iX ?j3 ?jf ?j4 ?iC ?gQ ?ll ?j5 ?lq ?jg ?iY ?dW ?dX ?dz ?bb ?cD ?ck ?aW ?eQ ?eR ?d8 ?bz ?cW ?cE ?a8 ?jh ?iD ?ji ?gy ?fV ?j6 ?jj ?j7 ?iE ?gT ?jk ?iF ?jl ?gz ?fW ?j8 ?jm ?j9 ?iG ?gU ?jn ?jo ?gB ?jq ?nr ?nu ?ka ?nv ?ny ?nA ?kb ?nB ?lu ?lz ?jr ?lD ?nC ?nD ?kc ?nE ?js ?jt ?gD ?ju ?kd ?ke ?iH ?kf ?nF ?nG ?kg ?nH ?lE ?lF ?jv ?lG ?Bk ?Bm ?td ?Bn ?nI ?nJ ?kh ?nK ?Cv ?Gm ?xK ?Gn ?Bo ?Gq ?ki ?Gu ?Bp ?Gv ?xM ?Gx ?xN ?Gy ?kj
    (case AX => k_is)
    (case nc => k_is)
    (case AY => k_is)
    (case F4 => k_is)
    (case F5 => k_is)
    (case AZ => k_is)
    (case pO => k_is)
    (case qJ => k_is)
    (case qK => k_is)
    (case qL => k_is)
    (case qM => k_is)
    (case xq => k_is)
    (case xr => k_is)
    (case xt => k_is)
    (case xu => k_is)
    (case xv => kit_is)
    (case k7 => k_is)
    (case xw => k_is)
    (case xx => k_is)
    (case xy => k_is)
    (case xA => k_is)
    (case A0 => k_is)
    (case A2 => k_is)
    (case A3 => k_is)
    (case A4 => k_is)
    (case A5 => kit_is)
    (case jW => k_is)
    (case k8 => k_is)
    (case xB => k_is)
    (case xC => k_is)
    (case xD => k_is)
    (case xE => k_is)
    (case A6 => k_is)
    (case A7 => k_is)
    (case A8 => k_is)
    (case A9 => k_is)
    (case Ba => kit_is)
    (case jX => k_is)
    (case k9 => k_is)
    (case qN => k_is)
    (case qO => k_is)
    (case qP => k_is)
    (case qQ => k_is)
    (case xF => k_is)
    (case xG => k_is)
    (case xH => k_is)
    (case xI => k_is)
    (case xJ => kit_is)
    (case jc => k_is)
    (case jY => k_is)
    (case ng => k_is)
    (case nh => k_is)
    (case ni => k_is)
    (case nj => k_is)
    (case nk => k_is)
    (case nq => k_is)
    (case gr => k_is)
    (case gw => k_is)
    (case jZ => k_is)
    (case Ct => k_is)
    (case Cu => k_is)
    (case Ma => k_is)
    (case Bb => k_is)
    (case IP => k_is)
    (case F6 => k_is)
    (case F7 => k_is)
    (case Mb => k_is)
    (case Bc => k_is)
    (case IQ => k_is)
    (case F8 => k_is)
    (case F9 => k_is)
    (case Mc => k_is)
    (case Bd => k_is)
    (case IS => k_is)
    (case Ga => k_is)
    (case Gb => k_is)
    (case Md => k_is)
    (case Be => k_is)
    (case IT => k_is)
    (case Gd => k_is)
    (case Gf => k_is)
    (case Me => k_is)
    (case Bf => k_is)
    (case IU => k_is)
    (case Gg => k_is)
    (case Gh => k_is)
    (case Mf => k_is)
    (case Bg => k_is)
    (case IV => k_is)
    (case Gj => k_is)
    (case Gk => k_is)
    (case Mg => k_is)
    (case Bh => k_is)
    (case IW => k_is)
    (case Mh => k_is)
    (case Mi => k_is)
    (case Bi => k_is)
    (case Mj => k_is)
    (case Ml => k_is)
    (case Mm => k_is)
    (case Bj => k_is)
    (case Mn => k_is)
    (case Mo => k_is)
    (case Mp => k_is)
    (case Mq => exact ⟨⟨_, _, rfl⟩, ⟨_, _, rfl⟩, ⟨_, _, rfl⟩, ⟨_, _, rfl⟩, ⟨_, _, rfl⟩, ⟨_, _, rfl⟩, ⟨_, _, rfl⟩, ⟨_, _, rfl⟩, ⟨_, _, rfl⟩, ⟨_, _, rfl⟩, trivial⟩)
    (case Mr => rfl)
    (case M0 => k_is)
    (case M1 => k_is)
    (case fiH => k_is)
    (case fnH => k_is)
    (case Ms => k_is)
    (case Mt => k_is)
    (case Mu => k_is)
    (case fiA => k_is)
    (case fnA => k_is)
    (case Mv => k_is)
    (case Mw => k_is)
    (case Mx => k_is)
    (case fiY => k_is)
    (case fnY => k_is)
    (case Mz => k_is)
    (case MA => k_is)
    (case MB => k_is)
    (case fiS => k_is)
    (case fnS => k_is)
    (case MC => k_is)
    (case MD => k_is)
    (case ME => k_is)
    (case fiC => k_is)
    (case fnC => k_is)
    (case MF => k_is)
    (case MG => k_is)
    (case IX => k_is)
    (case rdC => k_is)
    (case fcC => k_is)
    (case gaC => k_is)
    (case hdC => rfl)
    (case j0 => k_is)
    (case jd => k_is)
    (case j1 => k_is)
    (case iB => k_is)
    (case gO => k_is)
    (case lg => k_is)
    (case j2 => k_is)
    (case lh => k_is)
    (case je => k_is)
    (case iX => k_is)
    (case j3 => k_is)
    (case jf => k_is)
    (case j4 => k_is)
    (case iC => k_is)
    (case gQ => k_is)
    (case ll => k_is)
    (case j5 => k_is)
    (case lq => k_is)
    (case jg => k_is)
    (case iY => k_is)
    (case dW => k_is)
    (case dX => k_is)
    (case dz => k_is)
    (case bb => k_is)
    (case cD => k_is)
    (case ck => k_is)
    (case aW => k_is)
    (case eQ => k_is)
    (case eR => k_is)
    (case d8 => k_is)
    (case bz => k_is)
    (case cW => k_is)
    (case cE => k_is)
    (case a8 => k_is)
    (case jh => k_is)
    (case iD => k_is)
    (case ji => k_is)
    (case gy => k_is)
    (case fV => k_is)
    (case j6 => k_is)
    (case jj => k_is)
    (case j7 => k_is)
    (case iE => k_is)
    (case gT => k_is)
    (case jk => k_is)
    (case iF => k_is)
    (case jl => k_is)
    (case gz => k_is)
    (case fW => k_is)
    (case j8 => k_is)
    (case jm => k_is)
    (case j9 => k_is)
    (case iG => k_is)
    (case gU => k_is)
    (case jn => k_is)
    (case jo => k_is)
    (case gB => k_is)
    (case jq => k_is)
    (case nr => k_is)
    (case nu => k_is)
    (case ka => k_is)
    (case nv => k_is)
    (case ny => k_is)
    (case nA => k_is)
    (case kb => k_is)
    (case nB => k_is)
    (case lu => k_is)
    (case lz => k_is)
    (case jr => k_is)
    (case lD => k_is)
    (case nC => k_is)
    (case nD => k_is)
    (case kc => k_is)
    (case nE => k_is)
    (case js => k_is)
    (case jt => k_is)
    (case gD => k_is)
    (case ju => k_is)
    (case kd => k_is)
    (case ke => k_is)
    (case iH => k_is)
    (case kf => k_is)
    (case nF => k_is)
    (case nG => k_is)
    (case kg => k_is)
    (case nH => k_is)
    (case lE => k_is)
    (case lF => k_is)
    (case jv => k_is)
    (case lG => k_is)
    (case Bk => k_is)
    (case Bm => k_is)
    (case td => k_is)
    (case Bn => k_is)
    (case nI => k_is)
    (case nJ => k_is)
    (case kh => k_is)
    (case nK => k_is)
    (case Cv => k_is)
    (case Gm => k_is)
    (case xK => k_is)
    (case Gn => k_is)
    (case Bo => k_is)
    (case Gq => k_is)
    (case ki => k_is)
    (case Gu => k_is)
    (case Bp => k_is)
    (case Gv => k_is)
    (case xM => k_is)
    (case Gx => k_is)
    (case xN => k_is)
    (case Gy => k_is)
    (case kj => k_is)
