import PyProof.Rows.All
import Wide.All
import OpenK.AllK
import Wide.FinOn
import PyProof.EqAt
import PyProof.EqKinds
import PyProof.TupleCall
import PyProof.NeKinds
import PySem.Challenge.RW_bedround_k04_all_states
set_option Elab.async false
set_option linter.all false
set_option maxRecDepth 100000
namespace L2
open PySem PySem.Spec PyProof.Rows
def aF0 (s:Stmt)(j:Nat):Stmt:=match s with
 | .ClassDef _ _ _ body _ _ _ _ _ _ _=>body.getD j (.Pass ⟨0,0,0,0⟩)
 |_=> .Pass ⟨0,0,0,0⟩
def ch0 (s:Stmt):Arguments:=match s with
 | .FunctionDef _ a _ _ _ _ _ _ _ _=>a
 |_=>{posonlyargs:=[],args:=[],vararg:=none,kwonlyargs:=[],kw_defaults:=[],kwarg:=none,defaults:=[]}
def bC0 (s:Stmt):List Stmt:=match s with
 | .FunctionDef _ _ b _ _ _ _ _ _ _=>b
 |_=> []
def af0 (s:Stmt):Scope:=match s with
 | .FunctionDef _ _ _ _ _ _ sc _ _ _=>sc
 |_=>{kind:=.function,names:=[],isGenerator:=false,isCoroutine:=false}
end L2
namespace Bed1
open PySem PySem.W PyProof.Rows L2
def top (i:Nat):Stmt:=PySem.Challenge.pw_bedround_k04_all_states.main.body.getD i (.Pass ⟨0,0,0,0⟩)
abbrev Kr (n:Nat):Value:=.ref n
abbrev Ki (n:Nat):Value:=.int (Int.ofNat n) 0
abbrev Ks (x:String)(t:Nat):Value:=.str (.ofString x) t
abbrev Kp (t:Nat):Value:=Ks "/claim/cut.py" t
abbrev Ke (P:Params)(x:String)(t:Nat)(v:Value):DictEntry:=⟨PyData.keyHash P (.ofString x),Ks x t,v⟩
abbrev Kt (l:Array Value):Obj:=⟨.type "tuple",none,.seq l 0,#[]⟩
abbrev Kc (l:Array Value):Obj:=⟨.type "code",none,.fields l,#[]⟩
abbrev Kd (l:Array DictEntry)(n:Nat):Obj:=⟨.type "dict",none,.dict l n,#[]⟩
abbrev Kf (x q:Str)(st:Stmt)(m c:Value):Obj:=⟨.type "function",none,.func (PySem.W.fnOf x q (ch0 st) (bC0 st) (af0 st) .none .none .none m none c .none),#[]⟩
def KK:Params->PySem.W.Frag:=fun P=>(nat_lit 2,⟨.none,none,(.dict #[] 0),#[]⟩)::
(nat_lit 3,Kd #[Ke P "__name__" 165 (Ks "law_bedround_k04_all_states" 539),Ke P "__doc__" 166 .none,Ke P "__package__" 167 .none,Ke P "__loader__" 168 (.builtin "__main__.__loader__#opaque"),Ke P "__spec__" 169 .none,Ke P "__annotations__" 170 (Kr 6),Ke P "__builtins__" 171 (Kr 4),Ke P "__file__" 173 (Kp 172),Ke P "__cached__" 174 .none,Ke P "_wall" 193 (Kr 21),Ke P "Web" 283 (Kr 80),Ke P "all_states" 291 (Kr 89),Ke P "BedError" 311 (Kr 99),Ke P "BadGarden" 327 (Kr 112),Ke P "MOST_BEDS" 331 (.int 3 330),Ke P "MOST_CROPS" 333 (.int 5 332),Ke P "MOST_TOP" 335 (.int 5 334),Ke P "MOST_CHANGE" 337 (.int 3 336),Ke P "MOST_HARVEST" 339 (.int 1000 338),Ke P "MOST_GAP" 341 (.int 3 340),Ke P "MOST_WANTED" 343 (.int 3 342),Ke P "is_within" 352 (Kr 121),Ke P "check_within" 362 (Kr 128),Ke P "check_name" 370 (Kr 135),Ke P "check_beds" 379 (Kr 142),Ke P "check_crop" 386 (Kr 149),Ke P "check_crops" 396 (Kr 156),Ke P "check_wants" 406 (Kr 163),Ke P "names_of" 412 (Kr 168),Ke P "numbers_of" 418 (Kr 173),Ke P "lengthened" 424 (Kr 178),Ke P "Garden" 538 (Kr 253),Ke P "_law_cell_at" 548 (Kr 264),Ke P "_law_draw" 556 (Kr 271),Ke P "_law_whole" 563 (Kr 278),Ke P "_law_crop" 577 (Kr 285),Ke P "_law_wants" 590 (Kr 292),Ke P "_law_garden" 596 (Kr 297),Ke P "_law_beds" 605 (Kr 304),Ke P "_law_handed" 611 (Kr 309),Ke P "_law_memory" 617 (Kr 314),Ke P "_law_lets" 628 (Kr 321),Ke P "_law_wanted" 634 (Kr 326),Ke P "_law_longer" 645 (Kr 333),Ke P "_law_may" 651 (Kr 338),Ke P "_law_behind" 663 (Kr 345),Ke P "_law_start" 669 (Kr 350),Ke P "_law_gain" 675 (Kr 355),Ke P "_law_states" 681 (Kr 360),Ke P "law" 687 (Kr 365)] 50)::
(nat_lit 15,Kt #[])::
(nat_lit 17,Kt #[(Ks "k" 190)])::
(nat_lit 18,Kt #[])::
(nat_lit 20,Kc #[(Ks "_wall" 187),(Ks "_wall" 188),(Kp 189),(Ki 1),(Ki 1),(Ki 0),(Ki 0),(Ki 3),(Kr 15),(.bool true),(Ki 181),(Kr 16),.none,(Kr 17),(Kr 18),(Kr 19),(Ki 191),(Ki 1),(Kp 192)])::
(nat_lit 21,Kf "_wall" "_wall" (top 0) (Ks "__main__" 164) (Kr 20))::
(nat_lit 29,Kt #[])::
(nat_lit 31,Kt #[(Ks "self" 211),(Ks "garden" 212)])::
(nat_lit 32,Kt #[])::
(nat_lit 34,Kc #[(Ks "__init__" 208),(Ks "Web.__init__" 209),(Kp 210),(Ki 7),(Ki 2),(Ki 0),(Ki 0),(Ki 3),(Kr 29),(.bool true),(Ki 181),(Kr 30),.none,(Kr 31),(Kr 32),(Kr 33),(Ki 213),(Ki 7),(Kp 214)])::
(nat_lit 35,Kf "__init__" "Web.__init__" (aF0 (top 2) 0) (Ks "bedround.webs" 194) (Kr 34))::
(nat_lit 36,Kt #[])::
(nat_lit 38,Kt #[(Ks "self" 219),(Ks "state" 220),(Ks "came" 221)])::
(nat_lit 39,Kt #[])::
(nat_lit 41,Kc #[(Ks "number_of" 216),(Ks "Web.number_of" 217),(Kp 218),(Ki 15),(Ki 3),(Ki 0),(Ki 0),(Ki 3),(Kr 36),(.bool true),(Ki 181),(Kr 37),.none,(Kr 38),(Kr 39),(Kr 40),(Ki 222),(Ki 15),(Kp 223)])::
(nat_lit 42,Kf "number_of" "Web.number_of" (aF0 (top 2) 1) (Ks "bedround.webs" 194) (Kr 41))::
(nat_lit 43,Kt #[])::
(nat_lit 45,Kt #[(Ks "self" 228),(Ks "number" 229)])::
(nat_lit 46,Kt #[])::
(nat_lit 48,Kc #[(Ks "moves_of" 225),(Ks "Web.moves_of" 226),(Kp 227),(Ki 22),(Ki 2),(Ki 0),(Ki 0),(Ki 3),(Kr 43),(.bool true),(Ki 181),(Kr 44),.none,(Kr 45),(Kr 46),(Kr 47),(Ki 230),(Ki 22),(Kp 231)])::
(nat_lit 49,Kf "moves_of" "Web.moves_of" (aF0 (top 2) 2) (Ks "bedround.webs" 194) (Kr 48))::
(nat_lit 50,Kt #[])::
(nat_lit 52,Kt #[(Ks "self" 236),(Ks "number" 237),(Ks "state" 238),(Ks "moves" 239),(Ks "planting" 240),(Ks "later" 241)])::
(nat_lit 53,Kt #[])::
(nat_lit 55,Kc #[(Ks "worked_out" 233),(Ks "Web.worked_out" 234),(Kp 235),(Ki 27),(Ki 2),(Ki 0),(Ki 0),(Ki 3),(Kr 50),(.bool true),(Ki 181),(Kr 51),.none,(Kr 52),(Kr 53),(Kr 54),(Ki 242),(Ki 27),(Kp 243)])::
(nat_lit 56,Kf "worked_out" "Web.worked_out" (aF0 (top 2) 3) (Ks "bedround.webs" 194) (Kr 55))::
(nat_lit 57,Kt #[])::
(nat_lit 59,Kt #[(Ks "self" 248),(Ks "first" 249),(Ks "count" 250),(Ks "number" 251)])::
(nat_lit 60,Kt #[])::
(nat_lit 62,Kc #[(Ks "widen" 245),(Ks "Web.widen" 246),(Kp 247),(Ki 35),(Ki 2),(Ki 0),(Ki 0),(Ki 3),(Kr 57),(.bool true),(Ki 181),(Kr 58),.none,(Kr 59),(Kr 60),(Kr 61),(Ki 252),(Ki 35),(Kp 253)])::
(nat_lit 63,Kf "widen" "Web.widen" (aF0 (top 2) 4) (Ks "bedround.webs" 194) (Kr 62))::
(nat_lit 64,Kt #[])::
(nat_lit 66,Kt #[(Ks "self" 258),(Ks "done" 259)])::
(nat_lit 67,Kt #[])::
(nat_lit 69,Kc #[(Ks "widen_fully" 255),(Ks "Web.widen_fully" 256),(Kp 257),(Ki 41),(Ki 1),(Ki 0),(Ki 0),(Ki 3),(Kr 64),(.bool true),(Ki 181),(Kr 65),.none,(Kr 66),(Kr 67),(Kr 68),(Ki 260),(Ki 41),(Kp 261)])::
(nat_lit 70,Kf "widen_fully" "Web.widen_fully" (aF0 (top 2) 5) (Ks "bedround.webs" 194) (Kr 69))::
(nat_lit 71,Kt #[])::
(nat_lit 73,Kt #[(Ks "self" 266),(Ks "number" 267)])::
(nat_lit 74,Kt #[])::
(nat_lit 76,Kc #[(Ks "way_to" 263),(Ks "Web.way_to" 264),(Kp 265),(Ki 46),(Ki 2),(Ki 0),(Ki 0),(Ki 3),(Kr 71),(.bool true),(Ki 181),(Kr 72),.none,(Kr 73),(Kr 74),(Kr 75),(Ki 268),(Ki 46),(Kp 269)])::
(nat_lit 77,Kf "way_to" "Web.way_to" (aF0 (top 2) 6) (Ks "bedround.webs" 194) (Kr 76))::
(nat_lit 78,Kt #[(Ks "came" 271),(Ks "garden" 272),(Ks "moves" 273),(Ks "numbers" 274),(Ks "states" 275)])::
(nat_lit 79,Kd #[Ke P "__module__" 203 (Ks "bedround.webs" 194),Ke P "__firstlineno__" 207 (.int 5 206),Ke P "__init__" 215 (Kr 35),Ke P "number_of" 224 (Kr 42),Ke P "moves_of" 232 (Kr 49),Ke P "worked_out" 244 (Kr 56),Ke P "widen" 254 (Kr 63),Ke P "widen_fully" 262 (Kr 70),Ke P "way_to" 270 (Kr 77),Ke P "__static_attributes__" 276 (Kr 78),Ke P "__dict__" 278 (Kr 81),Ke P "__weakref__" 280 (Kr 82),Ke P "__doc__" 281 .none] 4)::
(nat_lit 80,⟨(.type "type"),none,(.cls ⟨"Web",[(.type "object")],[(Kr 80),(.type "object")],79, "Web",true,[],[],false,none,false⟩),#[none,none,(some (Ks "Web" 196)),(some (Ks "Web" 204)),(some (.builtin "object.__new__")),(some (.bool true))]⟩)::
(nat_lit 81,⟨(.type "getset_descriptor"),none,(.fields #[(Ks "__dict__" 277),(Kr 80),(.builtin "function.__dict__"),(.builtin "function.__dict__#set")]),#[]⟩)::
(nat_lit 82,⟨(.type "getset_descriptor"),none,(.fields #[(Ks "__weakref__" 279),(Kr 80),(.builtin "ExceptionGroup.__weakref__"),.none]),#[]⟩)::
(nat_lit 85,Kt #[])::
(nat_lit 88,Kc #[(Ks "all_states" 286),(Ks "all_states" 287),(Kp 288),(Ki 49),(Ki 1),(Ki 0),(Ki 0),(Ki 3),(Kr 85),(.bool true),(Ki 181),(Kr 86),.none,.none,.none,(Kr 87),(Ki 289),(Ki 49),(Kp 290)])::
(nat_lit 89,Kf "all_states" "all_states" (top 4) (Ks "bedround.states" 284) (Kr 88))::
(nat_lit 90,Kt #[(.type "ValueError")])::
(nat_lit 97,Kt #[])::
(nat_lit 98,Kd #[Ke P "__module__" 301 (Ks "bedround.errors" 292),Ke P "__firstlineno__" 305 (.int 57 304),Ke P "__static_attributes__" 306 (Kr 97),Ke P "__weakref__" 308 (Kr 100),Ke P "__doc__" 309 .none] 3)::
(nat_lit 99,⟨(.type "type"),none,(.cls ⟨"BedError",[(.type "ValueError")],[(Kr 99),(.type "ValueError"),(.type "Exception"),(.type "BaseException"),(.type "object")],98, "BedError",true,[],[(Kr 112)],false,none,false⟩),#[(some (Kr 90)),none,(some (Ks "BedError" 294)),(some (Ks "BedError" 302)),(some (.builtin "ValueError.__new__")),(some (.bool true))]⟩)::
(nat_lit 100,⟨(.type "getset_descriptor"),none,(.fields #[(Ks "__weakref__" 307),(Kr 99),(.builtin "ExceptionGroup.__weakref__"),.none]),#[]⟩)::
(nat_lit 103,Kt #[(Kr 99)])::
(nat_lit 110,Kt #[])::
(nat_lit 111,Kd #[Ke P "__module__" 319 (Ks "bedround.errors" 292),Ke P "__firstlineno__" 323 (.int 59 322),Ke P "__static_attributes__" 324 (Kr 110),Ke P "__doc__" 325 .none] 2)::
(nat_lit 112,⟨(.type "type"),none,(.cls ⟨"BadGarden",[(Kr 99)],[(Kr 112),(Kr 99),(.type "ValueError"),(.type "Exception"),(.type "BaseException"),(.type "object")],111, "BadGarden",true,[],[],false,none,false⟩),#[(some (Kr 103)),none,(some (Ks "BadGarden" 312)),(some (Ks "BadGarden" 320)),(some (.builtin "ValueError.__new__")),(some (.bool true))]⟩)::
(nat_lit 115,Kt #[])::
(nat_lit 117,Kt #[(Ks "value" 347),(Ks "least" 348),(Ks "most" 349)])::
(nat_lit 118,Kt #[])::
(nat_lit 120,Kc #[(Ks "is_within" 344),(Ks "is_within" 345),(Kp 346),(Ki 69),(Ki 3),(Ki 0),(Ki 0),(Ki 3),(Kr 115),(.bool true),(Ki 181),(Kr 116),.none,(Kr 117),(Kr 118),(Kr 119),(Ki 350),(Ki 69),(Kp 351)])::
(nat_lit 121,Kf "is_within" "is_within" (top 16) (Ks "bedround.gardens" 328) (Kr 120))::
(nat_lit 122,Kt #[])::
(nat_lit 124,Kt #[(Ks "value" 356),(Ks "least" 357),(Ks "most" 358),(Ks "what" 359)])::
(nat_lit 125,Kt #[])::
(nat_lit 127,Kc #[(Ks "check_within" 353),(Ks "check_within" 354),(Kp 355),(Ki 73),(Ki 4),(Ki 0),(Ki 0),(Ki 3),(Kr 122),(.bool true),(Ki 181),(Kr 123),.none,(Kr 124),(Kr 125),(Kr 126),(Ki 360),(Ki 73),(Kp 361)])::
(nat_lit 128,Kf "check_within" "check_within" (top 17) (Ks "bedround.gardens" 328) (Kr 127))::
(nat_lit 129,Kt #[])::
(nat_lit 131,Kt #[(Ks "name" 366),(Ks "names" 367)])::
(nat_lit 132,Kt #[])::
(nat_lit 134,Kc #[(Ks "check_name" 363),(Ks "check_name" 364),(Kp 365),(Ki 76),(Ki 2),(Ki 0),(Ki 0),(Ki 3),(Kr 129),(.bool true),(Ki 181),(Kr 130),.none,(Kr 131),(Kr 132),(Kr 133),(Ki 368),(Ki 76),(Kp 369)])::
(nat_lit 135,Kf "check_name" "check_name" (top 18) (Ks "bedround.gardens" 328) (Kr 134))::
(nat_lit 136,Kt #[])::
(nat_lit 138,Kt #[(Ks "soils" 374),(Ks "top" 375),(Ks "soil" 376)])::
(nat_lit 139,Kt #[])::
(nat_lit 141,Kc #[(Ks "check_beds" 371),(Ks "check_beds" 372),(Kp 373),(Ki 79),(Ki 2),(Ki 0),(Ki 0),(Ki 3),(Kr 136),(.bool true),(Ki 181),(Kr 137),.none,(Kr 138),(Kr 139),(Kr 140),(Ki 377),(Ki 79),(Kp 378)])::
(nat_lit 142,Kf "check_beds" "check_beds" (top 19) (Ks "bedround.gardens" 328) (Kr 141))::
(nat_lit 143,Kt #[])::
(nat_lit 145,Kt #[(Ks "crop" 383)])::
(nat_lit 146,Kt #[])::
(nat_lit 148,Kc #[(Ks "check_crop" 380),(Ks "check_crop" 381),(Kp 382),(Ki 86),(Ki 1),(Ki 0),(Ki 0),(Ki 3),(Kr 143),(.bool true),(Ki 181),(Kr 144),.none,(Kr 145),(Kr 146),(Kr 147),(Ki 384),(Ki 86),(Kp 385)])::
(nat_lit 149,Kf "check_crop" "check_crop" (top 20) (Ks "bedround.gardens" 328) (Kr 148))::
(nat_lit 150,Kt #[])::
(nat_lit 152,Kt #[(Ks "crops" 390),(Ks "crop" 391),(Ks "names" 392),(Ks "name" 393)])::
(nat_lit 153,Kt #[])::
(nat_lit 155,Kc #[(Ks "check_crops" 387),(Ks "check_crops" 388),(Kp 389),(Ki 96),(Ki 1),(Ki 0),(Ki 0),(Ki 3),(Kr 150),(.bool true),(Ki 181),(Kr 151),.none,(Kr 152),(Kr 153),(Kr 154),(Ki 394),(Ki 96),(Kp 395)])::
(nat_lit 156,Kf "check_crops" "check_crops" (top 21) (Ks "bedround.gardens" 328) (Kr 155))::
(nat_lit 157,Kt #[])::
(nat_lit 159,Kt #[(Ks "wants" 400),(Ks "names" 401),(Ks "name" 402),(Ks "pair" 403)])::
(nat_lit 160,Kt #[])::
(nat_lit 162,Kc #[(Ks "check_wants" 397),(Ks "check_wants" 398),(Kp 399),(Ki 108),(Ki 2),(Ki 0),(Ki 0),(Ki 3),(Kr 157),(.bool true),(Ki 181),(Kr 158),.none,(Kr 159),(Kr 160),(Kr 161),(Ki 404),(Ki 108),(Kp 405)])::
(nat_lit 163,Kf "check_wants" "check_wants" (top 22) (Ks "bedround.gardens" 328) (Kr 162))::
(nat_lit 164,Kt #[])::
(nat_lit 167,Kc #[(Ks "names_of" 407),(Ks "names_of" 408),(Kp 409),(Ki 117),(Ki 1),(Ki 0),(Ki 0),(Ki 3),(Kr 164),(.bool true),(Ki 181),(Kr 165),.none,.none,.none,(Kr 166),(Ki 410),(Ki 117),(Kp 411)])::
(nat_lit 168,Kf "names_of" "names_of" (top 23) (Ks "bedround.gardens" 328) (Kr 167))::
(nat_lit 169,Kt #[])::
(nat_lit 172,Kc #[(Ks "numbers_of" 413),(Ks "numbers_of" 414),(Kp 415),(Ki 119),(Ki 2),(Ki 0),(Ki 0),(Ki 3),(Kr 169),(.bool true),(Ki 181),(Kr 170),.none,.none,.none,(Kr 171),(Ki 416),(Ki 119),(Kp 417)])::
(nat_lit 173,Kf "numbers_of" "numbers_of" (top 24) (Ks "bedround.gardens" 328) (Kr 172))::
(nat_lit 174,Kt #[])::
(nat_lit 177,Kc #[(Ks "lengthened" 419),(Ks "lengthened" 420),(Kp 421),(Ki 121),(Ki 2),(Ki 0),(Ki 0),(Ki 3),(Kr 174),(.bool true),(Ki 181),(Kr 175),.none,.none,.none,(Kr 176),(Ki 422),(Ki 121),(Kp 423)])::
(nat_lit 178,Kf "lengthened" "lengthened" (top 25) (Ks "bedround.gardens" 328) (Kr 177))::
(nat_lit 186,Kt #[])::
(nat_lit 189,Kc #[(Ks "__init__" 437),(Ks "Garden.__init__" 438),(Kp 439),(Ki 128),(Ki 5),(Ki 0),(Ki 0),(Ki 3),(Kr 186),(.bool true),(Ki 181),(Kr 187),.none,.none,.none,(Kr 188),(Ki 440),(Ki 128),(Kp 441)])::
(nat_lit 190,Kf "__init__" "Garden.__init__" (aF0 (top 26) 0) (Ks "bedround.gardens" 328) (Kr 189))::
(nat_lit 191,Kt #[])::
(nat_lit 194,Kc #[(Ks "start" 443),(Ks "Garden.start" 444),(Kp 445),(Ki 142),(Ki 1),(Ki 0),(Ki 0),(Ki 3),(Kr 191),(.bool true),(Ki 181),(Kr 192),.none,.none,.none,(Kr 193),(Ki 446),(Ki 142),(Kp 447)])::
(nat_lit 195,Kf "start" "Garden.start" (aF0 (top 26) 1) (Ks "bedround.gardens" 328) (Kr 194))::
(nat_lit 196,Kt #[])::
(nat_lit 199,Kc #[(Ks "may" 449),(Ks "Garden.may" 450),(Kp 451),(Ki 145),(Ki 2),(Ki 0),(Ki 0),(Ki 3),(Kr 196),(.bool true),(Ki 181),(Kr 197),.none,.none,.none,(Kr 198),(Ki 452),(Ki 145),(Kp 453)])::
(nat_lit 200,Kf "may" "Garden.may" (aF0 (top 26) 2) (Ks "bedround.gardens" 328) (Kr 199))::
(nat_lit 201,Kt #[])::
(nat_lit 203,Kt #[(Ks "self" 458),(Ks "state" 459),(Ks "planting" 460)])::
(nat_lit 204,Kt #[])::
(nat_lit 206,Kc #[(Ks "behind" 455),(Ks "Garden.behind" 456),(Kp 457),(Ki 151),(Ki 3),(Ki 0),(Ki 0),(Ki 3),(Kr 201),(.bool true),(Ki 181),(Kr 202),.none,(Kr 203),(Kr 204),(Kr 205),(Ki 461),(Ki 151),(Kp 462)])::
(nat_lit 207,Kf "behind" "Garden.behind" (aF0 (top 26) 3) (Ks "bedround.gardens" 328) (Kr 206))::
(nat_lit 208,Kt #[])::
(nat_lit 211,Kc #[(Ks "harvest" 464),(Ks "Garden.harvest" 465),(Kp 466),(Ki 154),(Ki 2),(Ki 0),(Ki 0),(Ki 3),(Kr 208),(.bool true),(Ki 181),(Kr 209),.none,.none,.none,(Kr 210),(Ki 467),(Ki 154),(Kp 468)])::
(nat_lit 212,Kf "harvest" "Garden.harvest" (aF0 (top 26) 4) (Ks "bedround.gardens" 328) (Kr 211))::
(nat_lit 213,Kt #[])::
(nat_lit 216,Kc #[(Ks "crops_for" 470),(Ks "Garden.crops_for" 471),(Kp 472),(Ki 157),(Ki 3),(Ki 0),(Ki 0),(Ki 3),(Kr 213),(.bool true),(Ki 181),(Kr 214),.none,.none,.none,(Kr 215),(Ki 473),(Ki 157),(Kp 474)])::
(nat_lit 217,Kf "crops_for" "Garden.crops_for" (aF0 (top 26) 5) (Ks "bedround.gardens" 328) (Kr 216))::
(nat_lit 218,Kt #[])::
(nat_lit 220,Kt #[(Ks "self" 479),(Ks "soil" 480),(Ks "stood" 481),(Ks "crop" 482)])::
(nat_lit 221,Kt #[])::
(nat_lit 223,Kc #[(Ks "lets" 476),(Ks "Garden.lets" 477),(Kp 478),(Ki 160),(Ki 4),(Ki 0),(Ki 0),(Ki 3),(Kr 218),(.bool true),(Ki 181),(Kr 219),.none,(Kr 220),(Kr 221),(Kr 222),(Ki 483),(Ki 160),(Kp 484)])::
(nat_lit 224,Kf "lets" "Garden.lets" (aF0 (top 26) 6) (Ks "bedround.gardens" 328) (Kr 223))::
(nat_lit 225,Kt #[])::
(nat_lit 227,Kt #[(Ks "self" 489),(Ks "planting" 490),(Ks "crop" 491),(Ks "least" 492),(Ks "most" 493)])::
(nat_lit 228,Kt #[])::
(nat_lit 230,Kc #[(Ks "meets_wants" 486),(Ks "Garden.meets_wants" 487),(Kp 488),(Ki 167),(Ki 2),(Ki 0),(Ki 0),(Ki 3),(Kr 225),(.bool true),(Ki 181),(Kr 226),.none,(Kr 227),(Kr 228),(Kr 229),(Ki 494),(Ki 167),(Kp 495)])::
(nat_lit 231,Kf "meets_wants" "Garden.meets_wants" (aF0 (top 26) 7) (Ks "bedround.gardens" 328) (Kr 230))::
(nat_lit 232,Kt #[])::
(nat_lit 234,Kt #[(Ks "self" 500),(Ks "state" 501),(Ks "planting" 502)])::
(nat_lit 235,Kt #[])::
(nat_lit 237,Kc #[(Ks "fits" 497),(Ks "Garden.fits" 498),(Kp 499),(Ki 173),(Ki 3),(Ki 0),(Ki 0),(Ki 3),(Kr 232),(.bool true),(Ki 181),(Kr 233),.none,(Kr 234),(Kr 235),(Kr 236),(Ki 503),(Ki 173),(Kp 504)])::
(nat_lit 238,Kf "fits" "Garden.fits" (aF0 (top 26) 8) (Ks "bedround.gardens" 328) (Kr 237))::
(nat_lit 239,Kt #[])::
(nat_lit 242,Kc #[(Ks "beds_behind" 506),(Ks "Garden.beds_behind" 507),(Kp 508),(Ki 176),(Ki 3),(Ki 0),(Ki 0),(Ki 3),(Kr 239),(.bool true),(Ki 181),(Kr 240),.none,.none,.none,(Kr 241),(Ki 509),(Ki 176),(Kp 510)])::
(nat_lit 243,Kf "beds_behind" "Garden.beds_behind" (aF0 (top 26) 9) (Ks "bedround.gardens" 328) (Kr 242))::
(nat_lit 244,Kt #[])::
(nat_lit 246,Kt #[(Ks "self" 515),(Ks "soil" 516),(Ks "stood" 517),(Ks "crop" 518),(Ks "row" 519)])::
(nat_lit 247,Kt #[])::
(nat_lit 249,Kc #[(Ks "bed_behind" 512),(Ks "Garden.bed_behind" 513),(Kp 514),(Ki 179),(Ki 4),(Ki 0),(Ki 0),(Ki 3),(Kr 244),(.bool true),(Ki 181),(Kr 245),.none,(Kr 246),(Kr 247),(Kr 248),(Ki 520),(Ki 179),(Kp 521)])::
(nat_lit 250,Kf "bed_behind" "Garden.bed_behind" (aF0 (top 26) 10) (Ks "bedround.gardens" 328) (Kr 249))::
(nat_lit 251,Kt #[(Ks "bars" 523),(Ks "changes" 524),(Ks "depth" 525),(Ks "gaps" 526),(Ks "harvests" 527),(Ks "soils" 528),(Ks "top" 529),(Ks "wants" 530)])::
(nat_lit 252,Kd #[Ke P "__module__" 432 (Ks "bedround.gardens" 328),Ke P "__firstlineno__" 436 (.int 126 435),Ke P "__init__" 442 (Kr 190),Ke P "start" 448 (Kr 195),Ke P "may" 454 (Kr 200),Ke P "behind" 463 (Kr 207),Ke P "harvest" 469 (Kr 212),Ke P "crops_for" 475 (Kr 217),Ke P "lets" 485 (Kr 224),Ke P "meets_wants" 496 (Kr 231),Ke P "fits" 505 (Kr 238),Ke P "beds_behind" 511 (Kr 243),Ke P "bed_behind" 522 (Kr 250),Ke P "__static_attributes__" 531 (Kr 251),Ke P "__dict__" 533 (Kr 254),Ke P "__weakref__" 535 (Kr 255),Ke P "__doc__" 536 .none] 4)::
(nat_lit 253,⟨(.type "type"),none,(.cls ⟨"Garden",[(.type "object")],[(Kr 253),(.type "object")],252, "Garden",true,[],[],false,none,false⟩),#[none,none,(some (Ks "Garden" 425)),(some (Ks "Garden" 433)),(some (.builtin "object.__new__")),(some (.bool true))]⟩)::
(nat_lit 254,⟨(.type "getset_descriptor"),none,(.fields #[(Ks "__dict__" 532),(Kr 253),(.builtin "function.__dict__"),(.builtin "function.__dict__#set")]),#[]⟩)::
(nat_lit 255,⟨(.type "getset_descriptor"),none,(.fields #[(Ks "__weakref__" 534),(Kr 253),(.builtin "ExceptionGroup.__weakref__"),.none]),#[]⟩)::
(nat_lit 258,Kt #[])::
(nat_lit 260,Kt #[(Ks "script" 544),(Ks "k" 545)])::
(nat_lit 261,Kt #[])::
(nat_lit 263,Kc #[(Ks "_law_cell_at" 541),(Ks "_law_cell_at" 542),(Kp 543),(Ki 183),(Ki 2),(Ki 0),(Ki 0),(Ki 3),(Kr 258),(.bool true),(Ki 181),(Kr 259),.none,(Kr 260),(Kr 261),(Kr 262),(Ki 546),(Ki 183),(Kp 547)])::
(nat_lit 264,Kf "_law_cell_at" "_law_cell_at" (top 28) (Ks "law_bedround_k04_all_states" 539) (Kr 263))::
(nat_lit 265,Kt #[])::
(nat_lit 267,Kt #[(Ks "script" 552),(Ks "k" 553)])::
(nat_lit 268,Kt #[])::
(nat_lit 270,Kc #[(Ks "_law_draw" 549),(Ks "_law_draw" 550),(Kp 551),(Ki 187),(Ki 2),(Ki 0),(Ki 0),(Ki 3),(Kr 265),(.bool true),(Ki 181),(Kr 266),.none,(Kr 267),(Kr 268),(Kr 269),(Ki 554),(Ki 187),(Kp 555)])::
(nat_lit 271,Kf "_law_draw" "_law_draw" (top 29) (Ks "law_bedround_k04_all_states" 539) (Kr 270))::
(nat_lit 279,Kt #[])::
(nat_lit 281,Kt #[(Ks "script" 567),(Ks "k" 568),(Ks "names" 569),(Ks "gaps" 570),(Ks "bars" 571),(Ks "j" 572),(Ks "harvest" 573),(Ks "change" 574)])::
(nat_lit 282,Kt #[])::
(nat_lit 284,Kc #[(Ks "_law_crop" 564),(Ks "_law_crop" 565),(Kp 566),(Ki 191),(Ki 4),(Ki 0),(Ki 0),(Ki 3),(Kr 279),(.bool true),(Ki 181),(Kr 280),.none,(Kr 281),(Kr 282),(Kr 283),(Ki 575),(Ki 191),(Kp 576)])::
(nat_lit 285,Kf "_law_crop" "_law_crop" (top 31) (Ks "law_bedround_k04_all_states" 539) (Kr 284))::
(nat_lit 286,Kt #[])::
(nat_lit 288,Kt #[(Ks "script" 581),(Ks "names" 582),(Ks "beds" 583),(Ks "wants" 584),(Ks "k" 585),(Ks "cell" 586),(Ks "least" 587)])::
(nat_lit 289,Kt #[])::
(nat_lit 291,Kc #[(Ks "_law_wants" 578),(Ks "_law_wants" 579),(Kp 580),(Ki 199),(Ki 3),(Ki 0),(Ki 0),(Ki 3),(Kr 286),(.bool true),(Ki 181),(Kr 287),.none,(Kr 288),(Kr 289),(Kr 290),(Ki 588),(Ki 199),(Kp 589)])::
(nat_lit 292,Kf "_law_wants" "_law_wants" (top 32) (Ks "law_bedround_k04_all_states" 539) (Kr 291))::
(nat_lit 293,Kt #[])::
(nat_lit 296,Kc #[(Ks "_law_garden" 591),(Ks "_law_garden" 592),(Kp 593),(Ki 207),(Ki 2),(Ki 0),(Ki 0),(Ki 3),(Kr 293),(.bool true),(Ki 181),(Kr 294),.none,.none,.none,(Kr 295),(Ki 594),(Ki 207),(Kp 595)])::
(nat_lit 297,Kf "_law_garden" "_law_garden" (top 33) (Ks "law_bedround_k04_all_states" 539) (Kr 296))::
(nat_lit 298,Kt #[])::
(nat_lit 300,Kt #[(Ks "script" 600),(Ks "most" 601),(Ks "cell" 602)])::
(nat_lit 301,Kt #[])::
(nat_lit 303,Kc #[(Ks "_law_beds" 597),(Ks "_law_beds" 598),(Kp 599),(Ki 222),(Ki 2),(Ki 0),(Ki 0),(Ki 3),(Kr 298),(.bool true),(Ki 181),(Kr 299),.none,(Kr 300),(Kr 301),(Kr 302),(Ki 603),(Ki 222),(Kp 604)])::
(nat_lit 304,Kf "_law_beds" "_law_beds" (top 34) (Ks "law_bedround_k04_all_states" 539) (Kr 303))::
(nat_lit 305,Kt #[])::
(nat_lit 308,Kc #[(Ks "_law_handed" 606),(Ks "_law_handed" 607),(Kp 608),(Ki 229),(Ki 1),(Ki 0),(Ki 0),(Ki 3),(Kr 305),(.bool true),(Ki 181),(Kr 306),.none,.none,.none,(Kr 307),(Ki 609),(Ki 229),(Kp 610)])::
(nat_lit 309,Kf "_law_handed" "_law_handed" (top 35) (Ks "law_bedround_k04_all_states" 539) (Kr 308))::
(nat_lit 310,Kt #[])::
(nat_lit 313,Kc #[(Ks "_law_memory" 612),(Ks "_law_memory" 613),(Kp 614),(Ki 232),(Ki 1),(Ki 0),(Ki 0),(Ki 3),(Kr 310),(.bool true),(Ki 181),(Kr 311),.none,.none,.none,(Kr 312),(Ki 615),(Ki 232),(Kp 616)])::
(nat_lit 314,Kf "_law_memory" "_law_memory" (top 36) (Ks "law_bedround_k04_all_states" 539) (Kr 313))::
(nat_lit 315,Kt #[])::
(nat_lit 317,Kt #[(Ks "plot" 621),(Ks "bed" 622),(Ks "number" 623),(Ks "crop" 624),(Ks "k" 625)])::
(nat_lit 318,Kt #[])::
(nat_lit 320,Kc #[(Ks "_law_lets" 618),(Ks "_law_lets" 619),(Kp 620),(Ki 234),(Ki 3),(Ki 0),(Ki 0),(Ki 3),(Kr 315),(.bool true),(Ki 181),(Kr 316),.none,(Kr 317),(Kr 318),(Kr 319),(Ki 626),(Ki 234),(Kp 627)])::
(nat_lit 321,Kf "_law_lets" "_law_lets" (top 37) (Ks "law_bedround_k04_all_states" 539) (Kr 320))::
(nat_lit 322,Kt #[])::
(nat_lit 325,Kc #[(Ks "_law_wanted" 629),(Ks "_law_wanted" 630),(Kp 631),(Ki 242),(Ki 2),(Ki 0),(Ki 0),(Ki 3),(Kr 322),(.bool true),(Ki 181),(Kr 323),.none,.none,.none,(Kr 324),(Ki 632),(Ki 242),(Kp 633)])::
(nat_lit 326,Kf "_law_wanted" "_law_wanted" (top 38) (Ks "law_bedround_k04_all_states" 539) (Kr 325))::
(nat_lit 327,Kt #[])::
(nat_lit 329,Kt #[(Ks "rows" 638),(Ks "numbers" 639),(Ks "longer" 640),(Ks "row" 641),(Ks "number" 642)])::
(nat_lit 330,Kt #[])::
(nat_lit 332,Kc #[(Ks "_law_longer" 635),(Ks "_law_longer" 636),(Kp 637),(Ki 248),(Ki 2),(Ki 0),(Ki 0),(Ki 3),(Kr 327),(.bool true),(Ki 181),(Kr 328),.none,(Kr 329),(Kr 330),(Kr 331),(Ki 643),(Ki 248),(Kp 644)])::
(nat_lit 333,Kf "_law_longer" "_law_longer" (top 39) (Ks "law_bedround_k04_all_states" 539) (Kr 332))::
(nat_lit 334,Kt #[])::
(nat_lit 337,Kc #[(Ks "_law_may" 646),(Ks "_law_may" 647),(Kp 648),(Ki 254),(Ki 2),(Ki 0),(Ki 0),(Ki 3),(Kr 334),(.bool true),(Ki 181),(Kr 335),.none,.none,.none,(Kr 336),(Ki 649),(Ki 254),(Kp 650)])::
(nat_lit 338,Kf "_law_may" "_law_may" (top 40) (Ks "law_bedround_k04_all_states" 539) (Kr 337))::
(nat_lit 339,Kt #[])::
(nat_lit 341,Kt #[(Ks "plot" 655),(Ks "state" 656),(Ks "planting" 657),(Ks "beds" 658),(Ks "k" 659),(Ks "soil" 660)])::
(nat_lit 342,Kt #[])::
(nat_lit 344,Kc #[(Ks "_law_behind" 652),(Ks "_law_behind" 653),(Kp 654),(Ki 259),(Ki 3),(Ki 0),(Ki 0),(Ki 3),(Kr 339),(.bool true),(Ki 181),(Kr 340),.none,(Kr 341),(Kr 342),(Kr 343),(Ki 661),(Ki 259),(Kp 662)])::
(nat_lit 345,Kf "_law_behind" "_law_behind" (top 41) (Ks "law_bedround_k04_all_states" 539) (Kr 344))::
(nat_lit 346,Kt #[])::
(nat_lit 349,Kc #[(Ks "_law_start" 664),(Ks "_law_start" 665),(Kp 666),(Ki 265),(Ki 1),(Ki 0),(Ki 0),(Ki 3),(Kr 346),(.bool true),(Ki 181),(Kr 347),.none,.none,.none,(Kr 348),(Ki 667),(Ki 265),(Kp 668)])::
(nat_lit 350,Kf "_law_start" "_law_start" (top 42) (Ks "law_bedround_k04_all_states" 539) (Kr 349))::
(nat_lit 356,Kt #[])::
(nat_lit 359,Kc #[(Ks "_law_states" 676),(Ks "_law_states" 677),(Kp 678),(Ki 269),(Ki 1),(Ki 0),(Ki 0),(Ki 3),(Kr 356),(.bool true),(Ki 181),(Kr 357),.none,.none,.none,(Kr 358),(Ki 679),(Ki 269),(Kp 680)])::
(nat_lit 360,Kf "_law_states" "_law_states" (top 44) (Ks "law_bedround_k04_all_states" 539) (Kr 359))::
(nat_lit 361,Kt #[])::
(nat_lit 364,Kc #[(Ks "law" 682),(Ks "law" 683),(Kp 684),(Ki 278),(Ki 1),(Ki 0),(Ki 0),(Ki 3),(Kr 361),(.bool true),(Ki 181),(Kr 362),.none,.none,.none,(Kr 363),(Ki 685),(Ki 278),(Kp 686)])::
(nat_lit 365,Kf "law" "law" (top 45) (Ks "law_bedround_k04_all_states" 539) (Kr 364))::[]
def KA:List Nat:=[2,3,15,17,18,20,21,29,31,32,34,35,36,38,39,41,42,43,45,46,48,49,50,52,53,55,56,57,59,60,62,63,64,66,67,69,70,71,73,74,76,77,78,79,80,81,82,85,88,89,90,97,98,99,100,103,110,111,112,115,117,118,120,121,122,124,125,127,128,129,131,132,134,135,136,138,139,141,142,143,145,146,148,149,150,152,153,155,156,157,159,160,162,163,164,167,168,169,172,173,174,177,178,186,189,190,191,194,195,196,199,200,201,203,204,206,207,208,211,212,213,216,217,218,220,221,223,224,225,227,228,230,231,232,234,235,237,238,239,242,243,244,246,247,249,250,251,252,253,254,255,258,260,261,263,264,265,267,268,270,271,279,281,282,284,285,286,288,289,291,292,293,296,297,298,300,301,303,304,305,308,309,310,313,314,315,317,318,320,321,322,325,326,327,329,330,332,333,334,337,338,339,341,342,344,345,346,349,350,356,359,360,361,364,365]
theorem KE (P:Params):KA=(KK P).map (·.1):=by kernel_rfl
def qv:Program:={PySem.Challenge.pw_bedround_k04_all_states with main:={PySem.Challenge.pw_bedround_k04_all_states.main with body:=[top 0,top 2,top 4,top 6,top 7,top 9,top 10,top 11,top 12,top 13,top 14,top 15,top 16,top 17,top 18,top 19,top 20,top 21,top 22,top 23,top 24,top 25,top 26,top 28,top 29,top 30,top 31,top 32,top 33,top 34,top 35,top 36,top 37,top 38,top 39,top 40,top 41,top 42,top 43,top 44,top 45]}}
theorem lb_and {α β γ : Type} {x : Option α} {f : α → β} {g : α → γ} {a : β} {b : γ} (h1 : x.map f = some a) (h2 : x.map g = some b) : x.map (fun s => (f s, g s)) = some (a, b) := by
  obtain ⟨s, e, e1⟩ := Option.map_eq_some_iff.mp h1
  obtain ⟨s', e', e2⟩ := Option.map_eq_some_iff.mp h2
  rw [e] at e'
  rw [e, ← e1, ← e2, ← Option.some.inj e']
  rfl
theorem lb {p q : Program} {loose : List Str} {Xt : Shared → Bool} {α : Type} {Yf : Shared → α} {Ya : World → α} {N : Nat} (e : opening p = plainProg p.main.scope.names) (hN : Nat.ble 600 N = true) (f : ∀ s, fenceModules? p s = some s)
    (h1 : ∀ (w : World) (os : OsState), (topFrom treeTable p w N ⟨boot_heap w.params, Array.mk [], boot_drawn, boot_toks, os⟩).map (fun s => (openSeen q loose (importedModules p.main.body) Xt true s).1) = some (openGood q loose).1)
    (h2 : ∀ (w : World) (os : OsState), (topFrom treeTable p w N ⟨boot_heap w.params, Array.mk [], boot_drawn, boot_toks, os⟩).map (fun s => (openSeen q loose (importedModules p.main.body) Xt true s).2) = some (openGood q loose).2)
    (h3 : ∀ (w : World) (os : OsState), (topFrom treeTable p w N ⟨boot_heap w.params, Array.mk [], boot_drawn, boot_toks, os⟩).map Yf = some (Ya w)) : LeftO p q loose Xt Yf Ya N := fun w => by
  obtain ⟨⟨h0, gs, d, k, os⟩, e1, e2⟩ := Option.map_eq_some_iff.mp (boot_open e hN f w)
  obtain ⟨rfl, rfl, rfl, rfl⟩ : h0 = boot_heap w.params ∧ gs = Array.mk [] ∧ d = boot_drawn ∧ k = boot_toks := by simpa using e2
  unfold openEnds
  rw [e1]
  exact lb_and (lb_and (h1 w os) (h2 w os)) (h3 w os)
def hlX (s : Shared) : Bool := PySem.W.xlAt qv [] s && PySem.W.recOk (RowW.records (PySem.Challenge.rw_bedround_k04_all_states.row).toRowW) s
theorem HL1 (w : World) (os : OsState) : (topFrom treeTable (PySem.Challenge.rw_bedround_k04_all_states.row).prog w 4810 ⟨boot_heap w.params, Array.mk [], boot_drawn, boot_toks, os⟩).map (fun s => (openSeen qv [] (importedModules (PySem.Challenge.rw_bedround_k04_all_states.row).prog.main.body) hlX true s).1) = some (openGood qv []).1 := by
  kernel_rfl
theorem HL2 (w : World) (os : OsState) : (topFrom treeTable (PySem.Challenge.rw_bedround_k04_all_states.row).prog w 4810 ⟨boot_heap w.params, Array.mk [], boot_drawn, boot_toks, os⟩).map (fun s => (openSeen qv [] (importedModules (PySem.Challenge.rw_bedround_k04_all_states.row).prog.main.body) hlX true s).2) = some (openGood qv []).2 := by
  kernel_rfl
theorem HL3 (w : World) (os : OsState) : (topFrom treeTable (PySem.Challenge.rw_bedround_k04_all_states.row).prog w 4810 ⟨boot_heap w.params, Array.mk [], boot_drawn, boot_toks, os⟩).map (PySem.W.Hook.obs (PySem.W.kHook KK KA KE)) = some (PySem.W.Hook.val (PySem.W.kHook KK KA KE) w) := by
  kernel_rfl
theorem HL : PySem.W.LeftO (PySem.Challenge.rw_bedround_k04_all_states.row).prog qv [] (fun s => PySem.W.xlAt qv [] s && PySem.W.recOk (RowW.records (PySem.Challenge.rw_bedround_k04_all_states.row).toRowW) s) (PySem.W.Hook.obs (PySem.W.kHook KK KA KE)) (PySem.W.Hook.val (PySem.W.kHook KK KA KE)) 4810 := by
  refine lb (by rfl) (by rfl) (fun s => by rfl) HL1 HL2 HL3
end Bed1
namespace L2
open PySem PySem.Spec PyProof.Rows
abbrev Key:=Sum Int Str
def in0:Key->Value->Bool
 | .inl k,v=>Value.isInt k v
 | .inr x,v=>Value.isStrOf x v
def keyH (w:World):Key->Int
 | .inl k=>hashInt k
 | .inr x=>hashStr w x
theorem aQ0:∀{k:Key} {v:Value},in0 k v=true->(∃i t,k=Sum.inl i/\v=Value.int i t)\/ (∃x t,k=Sum.inr x/\v=Value.str x t)
 | .inl i,v,h=>by
  obtain⟨t,e⟩:=Value.isInt_shape (k:=i) (v:=v) h
  exact .inl ⟨i,t,rfl,e⟩
 | .inr x,v,h=>by
  obtain⟨t,e⟩:=Value.isStrOf_shape (x:=x) (v:=v) h
  exact .inr ⟨x,t,rfl,e⟩
theorem kT0 (i:Int)(t:Tok):in0 (.inl i) (.int i t)=true:=by simp [in0,Value.isInt]
theorem kD0 (x:Str)(t:Tok):in0 (.inr x) (.str x t)=true:=by simp [in0,Value.isStrOf]
theorem pc0 (a b:Int):decide ((Sum.inl a:Key)=Sum.inl b)=(a==b):=by
 by_cases e:a=b
 ·subst e; simp
 ·have h:¬(Sum.inl a:Key)=Sum.inl b:=fun q=>e (Sum.inl.inj q)
  rw [decide_eq_false h]
  exact(beq_eq_false_iff_ne.mpr e).symm
theorem mI0 (a b:Str):decide ((Sum.inr a:Key)=Sum.inr b)=decide (a=b):=by
 by_cases e:a=b
 ·subst e; simp
 ·have h:¬(Sum.inr a:Key)=Sum.inr b:=fun q=>e (Sum.inr.inj q)
  rw [decide_eq_false h,decide_eq_false e]
theorem pH0 (a:Int)(b:Str):decide ((Sum.inl a:Key)=Sum.inr b)=false:=decide_eq_false (fun q=>nomatch q)
theorem pw0 (a:Str)(b:Int):decide ((Sum.inr a:Key)=Sum.inl b)=false:=decide_eq_false (fun q=>nomatch q)
def aN0 (prog:Program)(w:World):PySem.KeyKind prog w Key where
 is:=in0
 hash:=keyH w
 inj:=fun v a b ha hb=>by
  rcases aQ0 ha with⟨i,t,rfl,rfl⟩|⟨x,t,rfl,rfl⟩
  ·rcases aQ0 hb with⟨j,u,rfl,e⟩|⟨y,u,rfl,e⟩
   ·injection e with e1 _; rw [e1]
   ·exact nomatch e
  ·rcases aQ0 hb with⟨j,u,rfl,e⟩|⟨y,u,rfl,e⟩
   ·exact nomatch e
   ·injection e with e1 _; rw [e1]
 byValue:=fun k v h=>by
  rcases aQ0 h with⟨i,t,rfl,rfl⟩|⟨x,t,rfl,rfl⟩<;>rfl
 pyHash:=fun hv h=>by
  rcases aQ0 hv with⟨i,t,rfl,rfl⟩|⟨x,t,rfl,rfl⟩
  ·exact wpAny_pyHash_int h
  ·exact wpAny_pyHash_str h
 eqBool:=fun hu hv h=>by
  rcases aQ0 hu with⟨i,t,rfl,rfl⟩|⟨x,t,rfl,rfl⟩
  ·rcases aQ0 hv with⟨j,u,rfl,rfl⟩|⟨y,u,rfl,rfl⟩
   ·rw [pc0] at h; exact wpAny_eqBool_int h
   ·rw [pH0] at h; exact SeqAt.EqAt.int_str i t y u _ _ _ _ h
  ·rcases aQ0 hv with⟨j,u,rfl,rfl⟩|⟨y,u,rfl,rfl⟩
   ·rw [pw0] at h; exact SeqAt.EqAt.str_int x t j u _ _ _ _ h
   ·rw [mI0] at h; exact wpAny_eqBool_str h
 «strs»:=fun k x t v h=>by
  rcases aQ0 h with⟨i,u,rfl,e⟩|⟨y,u,rfl,e⟩
  ·exact nomatch e
  ·injection e with e1 _
   subst e1
   cases v<;>rfl
abbrev SK:=List (Int × List Int)
section
variable {prog:Program}{w:World}{A:Around}{s:Shared}
def TupOf (h:Heap)(R:List Value->Prop)(v:Value):Prop:=∃a l,v=.ref a/\h.IsTuple a l/\R l.toList
def isInt (j:Int)(v:Value):Prop:=∃t,v=.int j t
def isInts (h:Heap)(js:List Int)(v:Value):Prop:=TupOf h (Paired isInt js) v
def isBed (h:Heap)(b:Int × List Int)(v:Value):Prop:=TupOf h (fun l=>∃x y,l=[x,y]/\isInt b.1 x/\isInts h b.2 y) v
def isSK (h:Heap)(k:SK)(v:Value):Prop:=TupOf h (Paired (isBed h) k) v
theorem TupOf.inj {h:Heap}{R S:List Value->Prop}{v:Value}(x:TupOf h R v)(y:TupOf h S v):∃l,R l/\S l:=by
 obtain⟨a,l,rfl,⟨o,h1,_,n,h2⟩,r⟩:=x
 obtain⟨b,m,e,⟨o',h1',_,n',h2'⟩,r'⟩:=y
 cases e
 rw [h1] at h1'; cases h1'
 rw [h2] at h2'; cases h2'
 exact⟨_,r,r'⟩
theorem TupOf.imp {h h':Heap}{R S:List Value->Prop}{v:Value}(x:TupOf h R v)(k:∀a o l n,h.get? a=some o->o.data=.seq l n->h'.get? a=some o)(i:∀l,R l->S l):TupOf h' S v:=by
 obtain⟨a,l,e,⟨o,h1,h2,n,h3⟩,r⟩:=x
 exact⟨a,l,e,⟨o,k a o l n h1 h3,h2,n,h3⟩,i _ r⟩
theorem Paired.inj2 {α β:Type}{R:α->β->Prop}(hR:∀a b c,R a c->R b c->a=b):∀{x y:List α} {l:List β},Paired R x l->Paired R y l->x=y
 |_,_,_,.nil,.nil=>rfl
 |_,_,_,.cons h t,.cons h' t'=>by rw [hR _ _ _ h h',Paired.inj2 hR t t']
theorem Paired.map2 {α β:Type}{R S:α->β->Prop}(f:∀a b,R a b->S a b):∀{x:List α} {y:List β},Paired R x y->Paired S x y
 |_,_,.nil=> .nil
 |_,_,.cons h t=> .cons (f _ _ h) (Paired.map2 f t)
theorem Paired.get1 {α β:Type}{R:α->β->Prop}:∀{x:List α} {l:List β} {i:Nat} {c:β},Paired R x l->l[i]?=some c->∃p,x[i]?=some p/\R p c
 |_,_,_,_,.nil,e=>by simp at e
 |_,_,0,_,.cons h _,e=>by simp at e; subst e; exact⟨_,rfl,h⟩
 |_,_,i+1,c,.cons _ r,e=>by
  obtain⟨p,h1,h2⟩:=Paired.get1 (i:=i) (c:=c) r (by simpa using e)
  exact⟨p,by simpa using h1,h2⟩
theorem isInt.inj {a b:Int}{v:Value}(x:isInt a v)(y:isInt b v):a=b:=by
 obtain⟨t,rfl⟩:=x
 obtain⟨u,e⟩:=y
 cases e; rfl
theorem isInts.inj {h:Heap}{a b:List Int}{v:Value}(x:isInts h a v)(y:isInts h b v):a=b:=by
 obtain⟨l,r,r'⟩:=TupOf.inj x y
 exact Paired.inj2 (R:=isInt) (fun _ _ _ x y=>isInt.inj x y) r r'
theorem isBed.inj {h:Heap}{a b:Int × List Int}{v:Value}(x:isBed h a v)(y:isBed h b v):a=b:=by
 obtain⟨l,⟨p,q,rfl,h1,h2⟩,p',q',e,h1',h2'⟩:=TupOf.inj x y
 cases e
 obtain⟨a1,a2⟩:=a
 obtain⟨b1,b2⟩:=b
 rw [show a1=b1 from h1.inj h1',show a2=b2 from isInts.inj h2 h2']
theorem isSK.inj {h:Heap}{a b:SK}{v:Value}(x:isSK h a v)(y:isSK h b v):a=b:=by
 obtain⟨l,r,r'⟩:=TupOf.inj x y
 exact Paired.inj2 (R:=isBed h) (fun _ _ _ x y=>isBed.inj x y) r r'
theorem isSK.keeps {h h':Heap}{k:SK}{v:Value}(x:isSK h k v)(z:∀a o l n,h.get? a=some o->o.data=.seq l n->h'.get? a=some o):isSK h' k v:=
 TupOf.imp x z fun _ r=>Paired.map2 (fun _ _ b=>TupOf.imp b z fun _ ⟨p,q,e,h1,h2⟩=>⟨p,q,e,h1,TupOf.imp h2 z fun _ r=>r⟩) r
def dD0 (prog:Program)(w:World)(A:Around)(s:Shared)(v:Value)(z:Int × Nat):Prop:=
 ∀(t:Nat) (E:Value->Shared->Prop) (Q:Int->Shared->Prop),Q z.1 {s with toks:=t+z.2}->wpAny (model prog w) A (pyHash v) Q E {s with toks:=t}
def la0 (zs:List (Int × Nat)):Int × Nat:=(reduceHash (Builtin.Tuple.tupleHashOf (zs.map (·.1))),(zs.map (·.2)).sum+1)
theorem dv0 {a:Addr}{l:Array Value}{zs:List (Int × Nat)}(hu:A.units<cLine)(ha:s.heap.IsTuple a l)(r:Paired (fun z v=>dD0 prog w A.in1 s v z) zs l.toList):dD0 prog w A s (.ref a) (la0 zs):=by
 obtain⟨o,h1,h2,n,h3⟩:=ha
 intro t E Q h
 have hT:({s with toks:=t}:Shared).TypeIs (.ref a) "tuple" :=⟨o,h1,h2⟩
 unfold pyHash
 first|unfold pyHashByItsType|skip
 first|refine wpAny_bind (wpAny_cRoomFor_or (.inr hu) ?_)|skip
 refine wpAny_bind (wpAny_specialOf hT F.slot_tuple_hash.lookup ?_)
 show wpAny _ _ (if(some (Value.builtin "tuple.__hash__")==some Value.none)=true then _ else _) _ _ _
 rw [if_neg (by rw [beq_builtin_none]; exact Bool.false_ne_true)]
 refine wpAny_bind (wpAny_specialOf hT F.slot_tuple_hash.lookup ?_)
 show wpAny _ _ (callSpecialIfBoundUnlessNone? (.ref a) "__hash__" _>>=_) _ _ _
 refine wpAny_bind (wpAny_callSpecialIfBoundUnlessNone?_slot hT F.slot_tuple_hash (wpAny_call_entry F.slot_tuple_hash hT F.entry_tuple_hash ?_ (F.args_tuple_hash_1 _)))
 show wpAny _ _ (Builtin.Tuple.tupleItemsOf (.ref a)>>=_) _ _ _
 refine wpAny_bind (wpAny_tupleItemsOf h1 h3 (wpAny_bind ?_))
 rw [<- Array.forIn_toList]
 refine wpAny_forIn_list _
  (fun more (b:Array Int) s'=>∃p q,zs=p++q/\Paired (fun z v=>dD0 prog w A.in1 s v z) q more/\b.toList=p.map (·.1)/\s'={s with toks:=t+(p.map (·.2)).sum})
  _ ?_ ?_ _ _ ⟨[],zs,rfl,r,rfl,rfl⟩
 ·rintro x more b s' ⟨p,q,rfl,hl,hb,rfl⟩
  cases hl with
  | @cons z _ q' _ hz hl'=>
   refine wpAny_bind (hz _ _ _ ?_)
   have fin:∃p' q'',p++z::q'=p'++q''/\Paired (fun z v=>dD0 prog w A.in1 s v z) q'' more/\(b.push z.1).toList=p'.map (·.1)/\({s with toks:=t+(p.map (·.2)).sum+z.2}:Shared)={s with toks:=t+(p'.map (·.2)).sum}:=
    ⟨p++ [z],q',by simp,hl',by simp [hb],by simp [Nat.add_assoc]⟩
   first
    |exact wpAny_pure fin
    |exact wpAny_bind (wpAny_pure (wpAny_pure fin))
 ·rintro b s' ⟨p,q,rfl,hl,hb,rfl⟩
  cases hl
  rw [List.append_nil] at h
  show wpAny _ _ (retInt (Builtin.Tuple.tupleHashOf b.toList)) _ _ _
  rw [hb]
  refine wpAny_ret_mkInt ?_
  show wpAny _ _ (if(decide (-(2:Int)^63<=Builtin.Tuple.tupleHashOf (p.map (·.1))) && decide (Builtin.Tuple.tupleHashOf (p.map (·.1))<2^63))=true then _ else _) _ _ _
  unfold la0 reduceHash at h
  by_cases hr:(decide (-(2:Int)^63<=Builtin.Tuple.tupleHashOf (p.map (·.1))) && decide (Builtin.Tuple.tupleHashOf (p.map (·.1))<2^63))=true
  ·rw [if_pos hr]
   simp only [if_pos hr] at h
   exact wpAny_pure (by simpa [Nat.add_assoc] using h)
  ·rw [if_neg hr]
   simp only [if_neg hr] at h
   exact wpAny_bind (wpAny_rule (wpAny_pure (by simpa [Nat.add_assoc] using h)))
def lY0 (j:Int):Int × Nat:=(hashInt j,1)
def mO0 (js:List Int):Int × Nat:=la0 (js.map lY0)
def nZ0 (b:Int × List Int):Int × Nat:=la0 [lY0 b.1,mO0 b.2]
def nM0 (k:SK):Int × Nat:=la0 (k.map nZ0)
theorem isInt.hash {j:Int}{v:Value}(x:isInt j v):dD0 prog w A s v (lY0 j):=by
 obtain⟨t,rfl⟩:=x
 exact fun t E Q h=>wpAny_pyHash_int (s:={s with toks:=t}) h
theorem Paired.mapL {α β γ:Type}{R:α->γ->Prop}{S:β->γ->Prop}(f:α->β)(h:∀a c,R a c->S (f a) c):∀{x:List α} {z:List γ},Paired R x z->Paired S (x.map f) z
 |_,_,.nil=> .nil
 |_,_,.cons p t=> .cons (h _ _ p) (Paired.mapL f h t)
theorem isInts.hash {js:List Int}{v:Value}(hu:A.units<cLine)(x:isInts s.heap js v):dD0 prog w A s v (mO0 js):=by
 obtain⟨a,l,rfl,h1,r⟩:=x
 exact dv0 hu h1 (Paired.mapL lY0 (fun _ _=>isInt.hash) r)
theorem isBed.hash {b:Int × List Int}{v:Value}(hu:A.units+1<cLine)(x:isBed s.heap b v):dD0 prog w A s v (nZ0 b):=by
 obtain⟨a,l,rfl,h1,p,q,e,r1,r2⟩:=x
 refine dv0 (by omega) h1 ?_
 rw [e]
 exact .cons r1.hash (.cons (r2.hash hu) .nil)
theorem isSK.hash {k:SK}{v:Value}(hu:A.units+2<cLine)(x:isSK s.heap k v):dD0 prog w A s v (nM0 k):=by
 obtain⟨a,l,rfl,h1,r⟩:=x
 exact dv0 (by omega) h1 (Paired.mapL nZ0 (fun _ _=>isBed.hash (by show A.units+1+1<_; omega)) r)
theorem jV0 {a b:Addr}{l m:Array Value}{α:Type} [DecidableEq α]{R:α->Value->Prop}(hu:A.units<cLine)(h1:s.heap.IsTuple a l)(h2:s.heap.IsTuple b m){x y:List α}(r1:Paired R x l.toList)(r2:Paired R y m.toList)(same:a=b->x=y)
  (he:∀p q u v,R p u->R q v->SeqAt.EqAt A.in1 s u v (decide (p=q))):SeqAt.EqAt A s (.ref a) (.ref b) (decide (x=y)):=by
 by_cases hab:a=b
 ·rw [decide_eq_true (same hab),hab]
  exact SeqAt.EqAt.same _
 have key:∀{x y:List α} {l m:List Value},Paired R x l->Paired R y m->((List.range (min l.length m.length)).all (fun j=>match x[j]?,y[j]? with|some p,some q=>decide (p=q)|_,_=>false) && l.length==m.length)=decide (x=y):=by
  intro x y l m r1
  induction r1 generalizing y m with
  |nil=>intro r2; cases r2<;>simp
  |cons h t ih=>
   intro r2
   cases r2 with
   |nil=>simp
   |cons h' t'=>
    rw [List.length_cons,List.length_cons,Nat.succ_min_succ,List.range_succ_eq_map,List.all_cons,List.all_map]
    have:=ih t'
    simp only [List.getElem?_cons_zero,Function.comp_def,Nat.succ_eq_add_one,List.getElem?_cons_succ,Bool.and_assoc]
    have e1:∀i j:Nat,(i+1==j+1)=(i==j):=fun i j=>by simp
    rw [e1,this]
    simp
 have e:=SeqAt.RcAt.tuples (A:=A) (s:=s) (e:=fun j=>match x[j]?,y[j]? with|some p,some q=>decide (p=q)|_,_=>false) h1 h2 hu fun j g1 g2=>by
  obtain⟨p,hp,rp⟩:=Paired.get1 r1 (i:=j) (c:=l[j]) (by simp [g1])
  obtain⟨q,hq,rq⟩:=Paired.get1 r2 (i:=j) (c:=m[j]) (by simp [g2])
  simp only [hp,hq]
  exact he _ _ _ _ rp rq
 have k:=key r1 r2
 simp only [Array.length_toList] at k
 rw [k] at e
 exact SeqAt.EqAt.of_refs hab e
theorem isInt.eqAt {i j:Int}{u v:Value}(x:isInt i u)(y:isInt j v):SeqAt.EqAt A s u v (decide (i=j)):=by
 obtain⟨t,rfl⟩:=x
 obtain⟨t',rfl⟩:=y
 have e:=SeqAt.EqAt.int_int (A:=A) (s:=s) i t j t'
 rw [show (i==j)=decide (i=j) from by by_cases h:i=j<;>simp [h]] at e
 exact e
theorem isInts.eqAt {i j:List Int}{u v:Value}(hu:A.units<cLine)(x:isInts s.heap i u)(y:isInts s.heap j v):SeqAt.EqAt A s u v (decide (i=j)):=by
 obtain⟨a,l,rfl,h1,r1⟩:=id x
 obtain⟨b,m,rfl,h2,r2⟩:=id y
 exact jV0 hu h1 h2 r1 r2 (fun e=>by subst e; exact x.inj y) fun p q u v=>isInt.eqAt
theorem isBed.eqAt {i j:Int × List Int}{u v:Value}(hu:A.units+1<cLine)(x:isBed s.heap i u)(y:isBed s.heap j v):SeqAt.EqAt A s u v (decide (i=j)):=by
 obtain⟨a,l,rfl,h1,p,q,e1,r1,r1'⟩:=id x
 obtain⟨b,m,rfl,h2,p',q',e2,r2,r2'⟩:=id y
 by_cases hab:a=b
 ·subst hab
  rw [decide_eq_true (x.inj y)]
  exact SeqAt.EqAt.same _
 obtain rfl:l= #[p,q]:=by cases l; simp at e1; rw [e1]
 obtain rfl:m= #[p',q']:=by cases m; simp at e2; rw [e2]
 have e:=SeqAt.RcAt.tuples (A:=A) (s:=s) (e:=fun k=>if k=0 then decide (i.1=j.1) else decide (i.2=j.2)) h1 h2 (by omega) fun k g1 g2=>by
  match k,g1,g2 with
  |0,_,_=>exact r1.eqAt r2
  |1,_,_=>exact isInts.eqAt hu r1' r2'
  |k+2,g,_=>exact absurd g (by simp)
 have:((List.range (min #[p,q].size #[p',q'].size)).all (fun k=>if k=0 then decide (i.1=j.1) else decide (i.2=j.2)) && #[p,q].size== #[p',q'].size)=decide (i=j):=by
  obtain⟨i1,i2⟩:=i
  obtain⟨j1,j2⟩:=j
  show ((List.range 2).all _ && true)=_
  simp [List.range_succ]
 rw [this] at e
 exact SeqAt.EqAt.of_refs hab e
theorem isSK.eqAt {i j:SK}{u v:Value}(hu:A.units+2<cLine)(x:isSK s.heap i u)(y:isSK s.heap j v):SeqAt.EqAt A s u v (decide (i=j)):=by
 obtain⟨a,l,rfl,h1,r1⟩:=id x
 obtain⟨b,m,rfl,h2,r2⟩:=id y
 exact jV0 (by omega) h1 h2 r1 r2 (fun e=>by subst e; exact x.inj y) fun p q u v=>isBed.eqAt (by show A.units+1+1<_; omega)
def co0 (prog:Program)(w:World)(A:Around)(s:Shared)(n:Nat)(v:Value):Prop:=∀(E:Value->Shared->Prop) (Q:Bool->Shared->Prop),Q true s->wpAny (model prog w) A (eqIsQuiet n v) Q E s
theorem dc0 {a:Addr}{l:Array Value}{n:Nat}(ha:s.heap.IsTuple a l)(r:∀v∈l.toList,co0 prog w A s n v):co0 prog w A s (n+1) (.ref a):=by
 obtain⟨o,h1,h2,k,h3⟩:=ha
 have hT:s.TypeIs (.ref a) "tuple" :=⟨o,h1,h2⟩
 intro E Q h
 unfold eqIsQuiet
 refine wpAny_bind (wpAny_specialOf hT F.slot_tuple_eq.lookup ?_)
 show wpAny _ _ (isInstance (.ref a) (.type "tuple")>>=_) _ _ _
 refine wpAny_bind (wpAny_isInstance hT isSubtype_tuple_tuple ?_)
 simp only [Bool.not_true,Bool.false_eq_true,if_false]
 refine wpAny_bind (wpAny_seqItems h1 h3 (wpAny_bind ?_))
 show wpAny _ _ (forIn l _ _) _ _ _
 rw [<- Array.forIn_toList]
 refine wpAny_forIn_list _ (fun more b s'=>b.1=none/\s'=s/\∀v∈more,co0 prog w A s n v) _ ?_ ?_ _ _ ⟨rfl,rfl,r⟩
 ·rintro v more b s' ⟨hb,rfl,hq⟩
  refine wpAny_bind (hq v List.mem_cons_self _ _ ?_)
  simp only [Bool.not_true,Bool.false_eq_true,if_false]
  exact wpAny_pure ⟨rfl,rfl,fun u hu=>hq u (List.mem_cons_of_mem _ hu)⟩
 ·rintro⟨b1,b2⟩ s' ⟨hb,rfl,_⟩
  simp only at hb
  subst hb
  exact wpAny_pure h
theorem Paired.right {α β:Type}{R:α->β->Prop}{S:β->Prop}(f:∀a b,R a b->S b):∀{x:List α} {l:List β},Paired R x l->∀b∈l,S b
 |_,_,.nil,b,h=>nomatch h
 |_,_,.cons p t,b,h=>by
  rcases List.mem_cons.mp h with e|h
  ·rw [e]; exact f _ _ p
  ·exact Paired.right f t b h
theorem isInt.quiet {i:Int}{v:Value}{n:Nat}(x:isInt i v):co0 prog w A s n v:=by
 obtain⟨t,rfl⟩:=x
 intro E Q h
 rw [eqIsQuiet_byValue _ rfl]
 exact wpAny_pure h
theorem isInts.quiet {i:List Int}{v:Value}{n:Nat}(x:isInts s.heap i v):co0 prog w A s (n+1) v:=by
 obtain⟨a,l,rfl,h1,r⟩:=x
 exact dc0 h1 (Paired.right (S:=co0 prog w A s n) (fun _ _ x=>isInt.quiet x) r)
theorem isBed.quiet {i:Int × List Int}{v:Value}{n:Nat}(x:isBed s.heap i v):co0 prog w A s (n+2) v:=by
 obtain⟨a,l,rfl,h1,p,q,e,r1,r2⟩:=x
 refine dc0 h1 fun v hv=> ?_
 rw [e] at hv
 rcases List.mem_cons.mp hv with e|hv
 ·rw [e]; exact r1.quiet
 ·rw [List.mem_singleton.mp hv]; exact r2.quiet
theorem isSK.quiet {i:SK}{v:Value}{n:Nat}(x:isSK s.heap i v):co0 prog w A s (n+3) v:=by
 obtain⟨a,l,rfl,h1,r⟩:=x
 exact dc0 h1 (Paired.right (S:=co0 prog w A s (n+2)) (fun _ _ x=>isBed.quiet x) r)
end
def bO0 (prog:Program)(w:World):HeapKind prog w SK where
 is:=fun h k a=>isSK h k (.ref a)
 hash:=fun k=>(nM0 k).1
 draws:=fun k=>(nM0 k).2
 room:=fun A=>A.units+2<cLine
 inj:=isSK.inj
 keeps:=fun{h h' k a d o es ep} x ho hd hs=>isSK.keeps x fun b u l n e c=>by
  refine(hs.2 b ?_).trans e
  rintro rfl
  rw [ho] at e; cases e
  rw [hd] at c; cases c
 pyHash:=fun{A E s k a Q} hu x h=>isSK.hash hu x s.toks E Q h
 eqBool:=fun hu x y h=>isSK.eqAt hu x y _ _ _ _ h
 quiet:=fun x h=>isSK.quiet (n:=5) x _ _ h
theorem gs0 (prog:Program)(w:World)(i:Int)(t:Tok):(aN0 prog w).is (.inl i) (.int i t)=true:=kT0 i t
theorem gw0 (prog:Program)(w:World)(x:Str)(t:Tok):(aN0 prog w).is (.inr x) (.str x t)=true:=kD0 x t
end L2
namespace L2
open PySem PySem.Spec PyProof.Rows
inductive V where
 |non|bl (b:Bool)|int (i:Int)|str (x:Str)|byt (b:Array UInt8)|flt (b:UInt64)|ref (a:Addr)|ty (n:String)
 deriving DecidableEq
def RelV:V->Value->Prop
 | .non,u=>u=Value.none
 | .bl b,u=>u=Value.bool b
 | .int i,u=>∃t,u=Value.int i t
 | .str x,u=>∃t,u=Value.str x t
 | .byt b,u=>∃t,u=Value.bytes b t
 | .flt b,u=>∃t,u=Value.float b t
 | .ref a,u=>u=Value.ref a
 | .ty n,u=>u=Value.type n
abbrev Vals:List V->List Value->Prop:=Paired RelV
theorem Vals.length {xs:List V}{us:List Value}(r:Vals xs us):xs.length=us.length:=Paired.length r
theorem Vals.get:∀{xs:List V} {us:List Value} {i:Nat} {x:V},Vals xs us->xs[i]?=some x->∃u,us[i]?=some u/\RelV x u
 |_,_,_,_,.nil,e=>by simp at e
 |_,_,0,_,.cons r _,e=>by simp at e; subst e; exact⟨_,rfl,r⟩
 |_,_,i+1,x,.cons _ t,e=>by
  obtain⟨u,h1,h2⟩:=Vals.get (i:=i) (x:=x) t (by simpa using e)
  exact⟨u,by simpa using h1,h2⟩
theorem Vals.append:∀{xs ys:List V} {us ws:List Value},Vals xs us->Vals ys ws->Vals (xs++ys) (us++ws)
 |_,_,_,_,.nil,s=>s
 |_,_,_,_,.cons r t,s=> .cons r (Vals.append t s)
theorem Vals.take:∀{xs:List V} {us:List Value} (n:Nat),Vals xs us->Vals (xs.take n) (us.take n)
 |_,_,0,_=> .nil
 |_,_,_+1,.nil=> .nil
 |_,_,n+1,.cons r t=> .cons r (Vals.take n t)
theorem Vals.drop:∀{xs:List V} {us:List Value} (n:Nat),Vals xs us->Vals (xs.drop n) (us.drop n)
 |_,_,0,r=>r
 |_,_,_+1,.nil=> .nil
 |_,_,n+1,.cons _ t=>Vals.drop n t
def RelO:Option V->Option Value->Prop
 |some v,some u=>RelV v u
 |none,none=>True
 |_,_=>False
def KV {κ:Type}:List (κ × V)->List (κ × Value)->Prop:=Paired fun(p:κ × V) (q:κ × Value)=>p.1=q.1/\RelV p.2 q.2
def kV:Key->V
 | .inl i=> .int i
 | .inr x=> .str x
inductive HO where
 /-- a list -/
 |lst (xs:List V)
 /-- a tuple (never changes) -/
 |tup (xs:List V)
 /-- a dict whose keys are ints and texts; one whose keys are tuples of ints and texts (the empty one is both) -/
 |dK (kvs:List (Key × V))|dT (kvs:List (SK × V))
 /-- a set of ints:its members,its size -/
 |set (S:Int->Bool) (n:Nat)
 /-- an instance of the class at C,its dict at dx,its attributes -/
 |ins (C dx:Addr) (fs:List (Str × V))
 /-- the dict of the instance at x -/
 |own (x:Addr)
 /-- the dict of an exception -/
 |xd (fs:List (Str × V))
 /-- a bound method,f of x -/
 |met (f x:Addr)
 /-- a range object lo,lo+1,.. below hi -/
 |rng (lo hi:Int)
 /-- a thing that is known to the object (the script; a dict while a loop walks it):read,never written while it is so -/
 |frz (o:Obj) (u:HO)
 /-- a code object's table -/
 |tbl (ps:Array Value)
 /-- any other thing,by what is true of its one object (a def of one's own:SetO a S n:=HO.ext fun h=> ..) -/
 |ext (φ:Heap->Prop)
abbrev Hp:=Addr->Option HO
def upd (H:Hp)(a:Addr)(o:HO):Hp:=fun b=>if b=a then some o else H b
theorem ai0 {H:Hp}{a:Addr}{o:HO}:upd H a o a=some o:=by unfold upd; rw [if_pos rfl]
theorem ah0 {H:Hp}{a b:Addr}{o:HO}(h:b≠a):upd H a o b=H b:=by unfold upd; rw [if_neg h]
theorem bJ0 {H:Hp}{a b:Addr}{o u:HO}(h:H a=some o)(h':H b=some u)(d:o≠u):a≠b:=by
 intro e; subst e; rw [h] at h'; exact d (Option.some.inj h')
theorem am0 {H:Hp}{a b:Addr}{o:HO}(h:H a=some o)(h':H b=none):a≠b:=by
 intro e; subst e; rw [h] at h'; cases h'
def BedAt (H:Hp)(p:Int × List Int)(x:V):Prop:=∃c d,x=.ref c/\H c=some (.tup [.int p.1,.ref d])/\H d=some (.tup (p.2.map .int))
def KeyAt (H:Hp)(b:Addr)(k:SK):Prop:=∃xs,H b=some (.tup xs)/\Paired (BedAt H) k xs
theorem KeyAt.keeps {H H':Hp}{b:Addr}{k:SK}(h:KeyAt H b k)(ht:∀b xs,H b=some (.tup xs)->H' b=some (.tup xs)):KeyAt H' b k:=by
 obtain⟨xs,h1,r⟩:=h
 exact⟨xs,ht _ _ h1,Paired.map2 (fun _ _ ⟨c,d,e,h2,h3⟩=>⟨c,d,e,ht _ _ h2,ht _ _ h3⟩) r⟩
section
variable (P:Program)(w:World)
def ObjOk (H:Hp)(h:Heap)(a:Addr):HO->Prop
 | .lst xs=>xs.length<=sizeLine/\∃(its:List Value) (n:Nat),Vals xs its/\h.get? a=some {cls:=.type "list",data:=.seq its.toArray n}
 | .tup xs=>xs.length<=sizeLine/\∃its:List Value,Vals xs its/\IsTup h a its.toArray/\∃ob,h.get? a=some ob/\ob.dict=none
 | .dK kvs=>kvs.length<=sizeLine/\(a==sysModules)=false/\∃vs,KV kvs vs/\h.DictOf (aN0 P w) a vs
 | .dT kvs=>kvs.length<=sizeLine/\(a==sysModules)=false/\∃xs:List (SK × Addr × Value),
   Paired (fun(p:SK × V) (q:SK × Addr × Value)=>p.1=q.1/\KeyAt H q.2.1 p.1/\RelV p.2 q.2.2) kvs xs/\
   ∃o es ep,h.get? a=some o/\o.ExactDict/\o.data=.dict es ep/\es.toList=xs.map (entryOfKey (bO0 P w))/\(xs.map (·.1)).Nodup
 | .set S n=>h.SetOf (intKind P w) a S n
 | .ins C dx fs=>H dx=some (.own a)/\fs.length<=1000/\dx≠a/\h.get? a=some (PySem.W.instObj C dx)/\
   ∃mA,h.Ns1 dx mA/\(∀f,RelO (fs.lookup f) (mA f))/\PySem.Within mA (fs.map (·.1))
 | .own _=>∃o,h.get? a=some o
 | .xd fs=>∃mA,h.Ns1 a mA/\∀f,RelO (fs.lookup f) (mA f)
 | .rng lo hi=>∃t u v,h.get? a=some {cls:=.type "range",data:=.fields #[.int lo t,.int hi u,.int 1 v]}
 | .frz o u=>h.get? a=some o/\ObjOk H h a u
 | .tbl ps=>h.get? a=some {cls:=.none,data:=.fields ps}
 | .met f x=>h.get? a=some (PySem.W.methodObj (.ref f) (.ref x))
 | .ext φ=>φ h/\(∃o,h.get? a=some o)/\∀h1 h2:Heap,φ h1->(∀o,h1.get? a=some o->h2.get? a=some o)->φ h2
def HOk (H:Hp)(h:Heap):Prop:=∀a o,H a=some o->ObjOk P w H h a o
end
section
variable {P:Program}{w:World}{H H':Hp}{h h':Heap}{a:Addr}{o:HO}
theorem ObjOk.lt (x:ObjOk P w H h a o):a<h.objs.size:=by
 cases o with
 |lst xs=>obtain⟨_,_,_,_,e⟩:=x; exact Heap.lt_size e
 |tup xs=>obtain⟨_,_,_,p⟩:=x; exact p.1.lt
 |dK kvs=>obtain⟨_,_,_,_,o,_,_,e,_⟩:=x; exact Heap.lt_size e
 |dT kvs=>obtain⟨_,_,_,_,o,_,_,e,_⟩:=x; exact Heap.lt_size e
 |set S n=>obtain⟨o,_,_,_,e,_⟩:=x; exact Heap.lt_size e
 |ins C dx fs=>obtain⟨_,_,_,e,_⟩:=x; exact Heap.lt_size e
 |own y=>obtain⟨_,e⟩:=x; exact Heap.lt_size e
 |xd fs=>obtain⟨_,⟨_,_,_,e,_⟩,_⟩:=x; exact Heap.lt_size e
 |rng lo hi=>obtain⟨_,_,_,e⟩:=x; exact Heap.lt_size e
 |frz ob u=>obtain⟨e,_⟩:=x; exact Heap.lt_size e
 |tbl ps=>exact Heap.lt_size (show h.get? a=some _ from x)
 |met f y=>exact Heap.lt_size (show h.get? a=some _ from x)
 |ext φ=>obtain⟨_,⟨_,e⟩,_⟩:=x; exact Heap.lt_size e
theorem Paired.mapP {α β:Type}{F G:α->β->Prop}:∀{l₁:List α} {l₂:List β},Paired F l₁ l₂->(∀a b,F a b->G a b)->Paired G l₁ l₂
 |_,_,.nil,_=> .nil
 |_,_,.cons r t,f=> .cons (f _ _ r) (Paired.mapP t f)
theorem ObjOk.stay (x:ObjOk P w H h a o)(k:∀b u,(b=a\/ H b=some (.own a))->h.get? b=some u->h'.get? b=some u)
  (ho:∀b,H b=some (.own a)->H' b=some (.own a)) (ht:∀b xs,H b=some (.tup xs)->H' b=some (.tup xs)):ObjOk P w H' h' a o:=by
 induction o with
 |lst xs=>obtain⟨z,its,n,r,e⟩:=x; exact⟨z,its,n,r,k _ _ (.inl rfl) e⟩
 |tup xs=>obtain⟨z,its,r,⟨ob,e,c⟩,ob2,e2,c2⟩:=x; exact⟨z,its,r,⟨ob,k _ _ (.inl rfl) e,c⟩,ob2,k _ _ (.inl rfl) e2,c2⟩
 |dK kvs=>obtain⟨z,y,vs,r,ob,es,ep,e,c⟩:=x; exact⟨z,y,vs,r,ob,es,ep,k _ _ (.inl rfl) e,c⟩
 |dT kvs=>
  obtain⟨z,y,xs,r,ob,es,ep,e,c⟩:=x
  exact⟨z,y,xs,Paired.mapP r fun p q z=>⟨z.1,z.2.1.keeps ht,z.2.2⟩,ob,es,ep,k _ _ (.inl rfl) e,c⟩
 |set S n=>obtain⟨ob,es,ep,t,e,c⟩:=x; exact⟨ob,es,ep,t,k _ _ (.inl rfl) e,c⟩
 |ins C dx fs=>
  obtain⟨d,z,ne,e,mA,⟨od,es,ep,e2,c⟩,r⟩:=x
  exact⟨ho _ d,z,ne,k _ _ (.inl rfl) e,mA,⟨od,es,ep,k _ _ (.inr d) e2,c⟩,r⟩
 |own y=>obtain⟨ob,e⟩:=x; exact⟨ob,k _ _ (.inl rfl) e⟩
 |xd fs=>obtain⟨mA,⟨od,es,ep,e,c⟩,r⟩:=x; exact⟨mA,⟨od,es,ep,k _ _ (.inl rfl) e,c⟩,r⟩
 |rng lo hi=>obtain⟨t,u,v,e⟩:=x; exact⟨t,u,v,k _ _ (.inl rfl) e⟩
 |frz ob u ih=>obtain⟨e,q⟩:=x; exact⟨k _ _ (.inl rfl) e,ih q⟩
 |tbl ps=>
  have e:h.get? a=some {cls:=.none,data:=.fields ps}:=x
  show h'.get? a=some {cls:=.none,data:=.fields ps}
  exact k a _ (.inl rfl) e
 |met f y=>
  have e:h.get? a=some (PySem.W.methodObj (.ref f) (.ref y)):=x
  show h'.get? a=some (PySem.W.methodObj (.ref f) (.ref y))
  exact k a _ (.inl rfl) e
 |ext φ=>obtain⟨p,⟨o,e⟩,st⟩:=x; exact⟨st _ _ p fun o q=>k _ _ (.inl rfl) q,⟨o,k _ _ (.inl rfl) e⟩,st⟩
theorem HOk.lt (x:HOk P w H h)(e:H a=some o):a<h.objs.size:=(x a o e).lt
theorem HOk.fresh (x:HOk P w H h)(e:h.objs.size<=a):H a=none:=by
 cases q:H a with
 |none=>rfl
 |some u=>exact absurd (Nat.lt_of_lt_of_le (x.lt q) e) (Nat.lt_irrefl _)
theorem HOk.kept (x:HOk P w H h)(k:∀b u,h.get? b=some u->h'.get? b=some u):HOk P w H h':=fun a o e=>
 (x a o e).stay (fun b u _ q=>k b u q) (fun _ q=>q) fun _ _ q=>q
theorem HOk.laid (x:HOk P w H h)(k:∀b u,h.get? b=some u->h'.get? b=some u)(hp:h.objs.size<=a)(new:ObjOk P w (upd H a o) h' a o):HOk P w (upd H a o) h':=fun b u e=>by
 have hn:=x.fresh hp
 by_cases hb:b=a
 ·subst hb; rw [ai0] at e; cases e; exact new
 ·rw [ah0 hb] at e
  exact(x b u e).stay (fun c v _ q=>k c v q) (fun c q=>by rw [ah0 (am0 q hn)]; exact q) fun c xs q=>by rw [ah0 (am0 q hn)]; exact q
end
def Rd (H:Hp)(a:Addr)(u:HO):Prop:=H a=some u\/ ∃o,H a=some (.frz o u)
theorem Rd.ok {P:Program}{w:World}{H:Hp}{h:Heap}{a:Addr}{u:HO}(r:Rd H a u)(x:HOk P w H h):ObjOk P w H h a u:=by
 rcases r with r|⟨o,r⟩
 ·exact x a u r
 ·obtain⟨_,q⟩:=x a _ r
  exact q
def Mut:Option HO->Prop
 |some (.lst _)=>True
 |some (.dK _)=>True
 |some (.dT _)=>True
 |some (.set _ _)=>True
 |some (.ins _ _ _)=>True
 |some (.ext _)=>True
 |_=>False
section
variable {P:Program}{w:World}{H:Hp}{h h':Heap}{x e:Addr}{o':HO}
theorem HOk.write (ok:HOk P w H h)(mu:Mut (H x))(he:e=x\/ H e=some (.own x))(k:∀b u,b≠e->h.get? b=some u->h'.get? b=some u)(heo:∃u,h'.get? e=some u)
  (new:ObjOk P w (upd H x o') h' x o'):HOk P w (upd H x o') h':=fun b u q=>by
 have nown:∀c y,H c=some (.own y)->c≠x:=fun c y r z=>by subst z; rw [r] at mu; exact mu
 have ntup:∀c xs,H c=some (.tup xs)->c≠x:=fun c xs r z=>by subst z; rw [r] at mu; exact mu
 by_cases hb:b=x
 ·subst hb; rw [ai0] at q; cases q; exact new
 ·rw [ah0 hb] at q
  by_cases hbe:b=e
  ·have q':H b=some (.own x):=by
    rcases he with z|z
    ·exact absurd (hbe.trans z) hb
    ·rw [hbe]; exact z
   rw [q] at q'; cases q'
   obtain⟨v,hv⟩:=heo
   exact⟨v,by rw [hbe]; exact hv⟩
  ·refine(ok b u q).stay (fun c v hc r=>k c v ?_ r) (fun c r=>by rw [ah0 (nown c b r)]; exact r) fun c xs r=>by rw [ah0 (ntup c xs r)]; exact r
   rcases hc with rfl|hc
   ·exact hbe
   ·rintro rfl
    rcases he with z|z
    ·exact nown c b hc z
    ·rw [hc] at z; cases z; exact hb rfl
end
structure Un (fs ex:List Addr)(H H':Hp)(h h':Heap):Prop where
 keep:∀b o,h.get? b=some o->H b=none->b∉fs->b∉ex->h'.get? b=some o
 slot:∀b o,h.get? b=some o->H b=none->b∈fs->b∉ex->∃sl,h'.get? b=some {o with slots:=sl}
 free:∀b o,h.get? b=some o->H b=none->b∉ex->H' b=none
 there:∀b o,h.get? b=some o->b∉ex->∃o',h'.get? b=some o'
 tups:∀b xs,H b=some (.tup xs)->H' b=some (.tup xs)
 frzs:∀b o u,H b=some (.frz o u)->H' b=some (.frz o u)
 tbls:∀b ps,H b=some (.tbl ps)->∃more,H' b=some (.tbl (ps++more))
section
variable {fs fs' ex ex':List Addr}{H H1 H2:Hp}{h h1 h2 h':Heap}{a x e:Addr}{o:HO}
theorem Un.any (u:Un fs ex H H1 h h1){b:Addr}{ob:Obj}(q:h.get? b=some ob)(n:H b=none)(hx:b∉ex):∃sl,h1.get? b=some {ob with slots:=sl}:=by
 by_cases hb:b∈fs
 ·exact u.slot b ob q n hb hx
 ·exact⟨ob.slots,u.keep b ob q n hb hx⟩
theorem Un.kept (k:∀b u,h.get? b=some u->h'.get? b=some u):Un fs ex H H h h':=
 ⟨fun b ob q _ _ _=>k b ob q,fun b ob q _ _ _=>⟨ob.slots,k b ob q⟩,fun _ _ _ n _=>n,fun b ob q _=>⟨ob,k b ob q⟩,fun _ _ q=>q,fun _ _ _ q=>q,fun _ ps q=>⟨#[],by rw [q]; simp⟩⟩
theorem Un.refl:Un fs ex H H h h:=Un.kept fun _ _ q=>q
theorem Un.laid (k:∀b u,h.get? b=some u->h'.get? b=some u)(hp:h.objs.size<=a)(hn:H a=none):Un fs ex H (upd H a o) h h' where
 keep:=fun b u q _ _ _=>k b u q
 slot:=fun b u q _ _ _=>⟨u.slots,k b u q⟩
 free:=fun b u q n _=>by rw [ah0 (Nat.ne_of_lt (Nat.lt_of_lt_of_le (Heap.lt_size q) hp))]; exact n
 there:=fun b u q _=>⟨u,k b u q⟩
 tups:=fun b xs q=>by rw [ah0 (am0 q hn)]; exact q
 frzs:=fun b u xs q=>by rw [ah0 (am0 q hn)]; exact q
 tbls:=fun b ps q=>⟨#[],by rw [ah0 (am0 q hn),q]; simp⟩
theorem Un.write (mu:Mut (H x))(he:e=x\/ H e=some (.own x))(k:∀b u,b≠e->h.get? b=some u->h'.get? b=some u)(heo:∃u,h'.get? e=some u):Un fs ex H (upd H x o) h h':=by
 have hx:∀b,H b=none->b≠x:=fun b n z=>by subst z; rw [n] at mu; exact mu
 have hb:∀b,H b=none->b≠e:=fun b n z=>by
  subst z
  rcases he with r|r
  ·exact hx b n r
  ·rw [n] at r; cases r
 have hm:∀b u,H b=some u->¬Mut (some u)->b≠x:=fun b u q nm z=>by subst z; rw [q] at mu; exact nm mu
 refine⟨fun b u q n _ _=>k b u (hb b n) q,fun b u q n _ _=>⟨u.slots,k b u (hb b n) q⟩,fun b u q n _=>by rw [ah0 (hx b n)]; exact n,fun b u q _=> ?_,
  fun b xs q=>by rw [ah0 (hm b _ q fun z=>z)]; exact q,fun b u xs q=>by rw [ah0 (hm b _ q fun z=>z)]; exact q,fun b ps q=>⟨#[],by rw [ah0 (hm b _ q fun z=>z),q]; simp⟩⟩
 by_cases hbe:b=e
 ·subst hbe; exact heo
 ·exact⟨u,k b u hbe q⟩
end
def trk (h:Heap)(H:Hp):List Addr:=(List.range h.objs.size).filter fun a=>(H a).isSome
def hidT (h:Heap)(H:Hp):Heap:=PySem.W.hideAll h (trk h H)
theorem jy0 (h:Heap)(H:Hp):(hidT h H).objs.size=h.objs.size:=PySem.W.hideAll_size _ _
theorem ms0 {h:Heap}{H:Hp}{b:Addr}{o:Obj}(e:h.get? b=some o)(n:H b=none):(hidT h H).get? b=some o:=
 PySem.W.hideAll_get _ e fun hm=>by
  have q:(H b).isSome=true:=(List.mem_filter.mp hm).2
  rw [n] at q; simp at q
theorem oK0 {h:Heap}{H:Hp}{b:Addr}{o:Obj}(e:(hidT h H).get? b=some o):h.get? b=some o/\H b=none:=by
 have e':h.get? b=some o:=PySem.W.of_hideAll (trk h H) e
 refine⟨e',?_⟩
 cases q:H b with
 |none=>rfl
 |some x=>
  have hm:b∈trk h H:=List.mem_filter.mpr ⟨List.mem_range.mpr (Heap.lt_size e'),by simp [q]⟩
  have z:(hidT h H).get? b=none:=PySem.W.hideAll_none (trk h H) hm
  rw [z] at e; cases e
end L2
namespace L2
open PySem PySem.Spec PyProof.Rows
structure Mod (K:PySem.W.Frag)(mg:Str->Option Value)(base:Heap):Prop where
 kin:K.In base
 glob:base.Ns mainGlobals mg
 blt:∃mb,base.Ns builtinsNs mb/\∀x:Str,x≠ "__name__" ->mb x=bootBuiltins x
 nolimit:base.NoLimit
structure Cx where
 prog:Program
 w:World
 K:PySem.W.Frag
 mg:Str->Option Value
 base:Heap
 A:Around
 N:List Str
 s₀:Shared
 H₀:Hp
 env:Env
 outer:List Env
 stack:List Env
 ex:List Addr
 fn:Str->Bool
 calm:Bool
 pn:List (Addr × Obj)
 xe:Value->Shared->Prop
def frs (l:List Env):List Addr:=l.filterMap (·.frame)
abbrev Cx.fs (X:Cx):List Addr:=frs X.outer
def Vis (sc:Scope)(x:Str):Prop:=sc.names.lookup x=some .local\/ sc.names.lookup x=some .cell\/ sc.names.lookup x=some .free
def Loc (sc:Scope)(x:Str):Prop:=sc.names.lookup x=some .local\/ sc.names.lookup x=some .cell
def Look (env:Env)(h:Heap)(m:Str->Option Value)(x:Str)(u:Value):Prop:=
 (env.kindOf x=some .local/\m x=some u)\/ ((env.kindOf x=some .cell\/ env.kindOf x=some .free)/\∃c,env.cells.lookup x=some c/\h.IsCell c (some u))
structure Cx.Ok (X:Cx):Prop where
 mod:Mod X.K X.mg X.base
 kind:X.env.scope.kind=.function
 glob:X.env.globals=mainGlobals
 blt:X.env.builtins=builtinsNs
 above:X.s₀.heap.objs.size<=X.env.locals
 inj:∀x y c,X.env.cells.lookup x=some c->X.env.cells.lookup y=some c->x=y
 has:∀x,(X.env.kindOf x=some .cell\/ X.env.kindOf x=some .free)->∃c,X.env.cells.lookup x=some c
 cab:∀x c,X.fn x=true->X.env.cells.lookup x=some c->X.s₀.heap.objs.size<=c
 hd:X.calm=true->X.A.handled=none
 frames:X.A.frames=some X.stack
 stk:X.stack=X.outer\/ (X.stack=X.env::X.outer/\X.env.frame=some X.env.locals)
 exf:∀b∈X.ex,b≠X.env.locals/\∀x c,X.env.cells.lookup x=some c->c≠b
 bs:∀b o,X.base.get? b=some o->X.s₀.heap.get? b=some o/\X.H₀ b=none
 bsz:X.base.objs.size<=X.s₀.heap.objs.size
 noex:∀b o,X.base.get? b=some o->b∉X.ex
 exfs:∀b∈X.ex,b∉X.fs
 funs:X.s₀.heap.FunFrames X.base X.outer
 frf:∀b∈X.fs,X.H₀ b=none
structure Inv (X:Cx)(pins:List (Addr × Obj))(σ:List (Option V))(H:Hp)(s:Shared):Prop where
 ok:X.Ok
 os:s.os=X.s₀.os
 bare:AllBare s.gens
 base:Un X.fs X.ex X.H₀ H X.s₀.heap s.heap
 loc:∃m,s.heap.Ns X.env.locals m/\∀(i:Nat) (x:Str) (v:V),X.N[i]?=some x->σ[i]?=some (some v)->Vis X.env.scope x->∃u,RelV v u/\Look X.env s.heap m x u
 cell:∀x c,X.env.cells.lookup x=some c->∃v,s.heap.IsCell c v
 free:H X.env.locals=none
 freeC:∀x c,X.env.cells.lookup x=some c->H c=none
 pin:∀p∈X.pn++pins,s.heap.get? p.1=some p.2/\H p.1=none/\p.1≠X.env.locals/\p.1∉X.fs/\∀v,p.2.data≠ .cell v
 hok:HOk X.prog X.w H s.heap
 len:σ.length=X.N.length
section
variable {X:Cx}{pins:List (Addr × Obj)}{σ:List (Option V)}{H H':Hp}{s:Shared}{h':Heap}
theorem Cx.Ok.nofr (ok:X.Ok){b:Addr}{o:Obj}(e:X.base.get? b=some o):b∉X.fs:=fun hb=>by
 have:=(ok.funs.mem hb).1
 rw [e] at this; cases this
theorem Inv.bs (I:Inv X pins σ H s):∀b o,X.base.get? b=some o->s.heap.get? b=some o/\H b=none:=fun b o e=>
 ⟨I.base.keep b o (I.ok.bs b o e).1 (I.ok.bs b o e).2 (I.ok.nofr e) (I.ok.noex b o e),I.base.free b o (I.ok.bs b o e).1 (I.ok.bs b o e).2 (I.ok.noex b o e)⟩
theorem Inv.bk (I:Inv X pins σ H s):∀b o,X.base.get? b=some o->s.heap.get? b=some o:=fun b o e=>(I.bs b o e).1
theorem Inv.mod (I:Inv X pins σ H s):Mod X.K X.mg X.base:=I.ok.mod
theorem Inv.kIn (I:Inv X pins σ H s):X.K.In s.heap:=I.ok.mod.kin.keeps I.bk
theorem Inv.fr (I:Inv X pins σ H s):∃m,Fr X.base X.env.locals s.heap m:=
 let ⟨m,hn,_⟩:=I.loc
 ⟨m,hn,I.bk,Nat.le_trans I.ok.bsz I.ok.above⟩
theorem Inv.lt (I:Inv X pins σ H s):X.env.locals<s.heap.objs.size:=let ⟨_,hn,_⟩:=I.loc; hn.lt
theorem Inv.sz (I:Inv X pins σ H s):X.s₀.heap.objs.size<=s.heap.objs.size:=Nat.le_trans I.ok.above (Nat.le_of_lt I.lt)
theorem Inv.nofs (I:Inv X pins σ H s){a:Addr}(h:s.heap.objs.size<=a):a∉X.fs:=fun hb=>by
 obtain⟨_,o,ho,_⟩:=I.ok.funs.mem hb
 exact absurd (Nat.lt_of_lt_of_le (Heap.lt_size ho) (Nat.le_trans I.sz h)) (Nat.lt_irrefl _)
theorem Inv.cne (I:Inv X pins σ H s):∀x c,X.env.cells.lookup x=some c->c≠X.env.locals:=fun x c e z=>by
 obtain⟨v,o,ho,hd⟩:=I.cell x c e
 obtain⟨m,⟨o',es,ep,ho',hd',_⟩,_⟩:=I.loc
 rw [z,ho'] at ho; cases ho; rw [hd'] at hd; cases hd
theorem Inv.funs (I:Inv X pins σ H s):s.heap.FunFrames X.base X.outer:=by
 have all:∀(l:List Env),(∀b∈frs l,b∈X.fs)->X.s₀.heap.FunFrames X.base l->s.heap.FunFrames X.base l:=by
  intro l
  induction l with
  |nil=>intro _ _; trivial
  |cons env r ih=>
   intro hs hl
   obtain⟨hk,⟨L,o,hf,hn,ho,hd⟩,hr⟩:=hl
   have hL:L∈X.fs:=hs L (by unfold frs; rw [List.filterMap_cons,hf]; exact List.mem_cons_self)
   obtain⟨sl,e⟩:=I.base.slot L o ho (I.ok.frf L hL) hL fun z=>I.ok.exfs L z hL
   exact⟨hk,⟨L,_,hf,hn,e,hd⟩,ih (fun b hb=>hs b (by unfold frs; rw [List.filterMap_cons,hf]; exact List.mem_cons_of_mem _ hb)) hr⟩
 exact all X.outer (fun _ hb=>hb) I.ok.funs
theorem Inv.stack (I:Inv X pins σ H s):s.heap.FunFrames X.base X.stack:=by
 rcases I.ok.stk with e|⟨e,hf⟩
 ·rw [e]; exact I.funs
 ·rw [e]
  obtain⟨m,hn,_⟩:=I.loc
  refine .cons (by rw [I.ok.kind]; decide) hf hn ?_ I.funs
  exact Heap.get?_none_of_le (Nat.le_trans I.ok.bsz I.ok.above)
theorem Inv.stkSub (I:Inv X pins σ H s):∀b∈frs X.stack,b∈X.env.locals::X.fs:=fun b hb=>by
 rcases I.ok.stk with e|⟨e,hf⟩
 ·rw [e] at hb; exact List.mem_cons_of_mem _ hb
 ·rw [e] at hb
  unfold frs at hb
  rw [List.filterMap_cons,hf] at hb
  exact hb
theorem Inv.stkFree (I:Inv X pins σ H s):∀b∈frs X.stack,H b=none:=fun b hb=>by
 rcases List.mem_cons.mp (I.stkSub b hb) with e|hb
 ·rw [e]; exact I.free
 ·obtain⟨_,o,ho,_⟩:=I.ok.funs.mem hb
  exact I.base.free b o ho (I.ok.frf b hb) fun z=>I.ok.exfs b z hb
theorem Inv.step {g':Array GenState}{t':Nat}{d':Drawn}{ch:List Addr}(I:Inv X pins σ H s)
  (hch:∀b∈ch,(b∈X.ex\/ X.s₀.heap.objs.size<=b)/\b≠X.env.locals/\(∀x c,X.env.cells.lookup x=some c->c≠b)/\∀p∈X.pn++pins,p.1≠b)
  (keep:∀b o,b≠X.env.locals->b∉X.fs->b∉ch->s.heap.get? b=some o->H b=none->h'.get? b=some o)
  (slot:∀b o,b≠X.env.locals->b∈X.fs->b∉ch->s.heap.get? b=some o->H b=none->∃sl,h'.get? b=some {o with slots:=sl}) (free:∀b o,b∉ch->s.heap.get? b=some o->H b=none->H' b=none)
  (there:∀b o,b∉ch->s.heap.get? b=some o->∃o',h'.get? b=some o')
  (tups:∀b xs,H b=some (.tup xs)->H' b=some (.tup xs)) (frzs:∀b o u,H b=some (.frz o u)->H' b=some (.frz o u)) (tbls:∀b ps,H b=some (.tbl ps)->∃more,H' b=some (.tbl (ps++more)))
  (ns:∀m,s.heap.Ns X.env.locals m->h'.Ns X.env.locals m) (hok:HOk X.prog X.w H' h') (hg:AllBare g'):
  Inv X pins σ H' {s with heap:=h',gens:=g',drawn:=d',toks:=t'}:=by
 have neL:∀b o,X.s₀.heap.get? b=some o->b≠X.env.locals:=fun b o e=>Nat.ne_of_lt (Nat.lt_of_lt_of_le (Heap.lt_size e) I.ok.above)
 have neC:∀b o,X.s₀.heap.get? b=some o->b∉X.ex->b∉ch:=fun b o e hx hb=>by
  rcases(hch b hb).1 with z|z
  ·exact hx z
  ·exact absurd (Nat.lt_of_lt_of_le (Heap.lt_size e) z) (Nat.lt_irrefl _)
 have cellK:∀x c,X.env.cells.lookup x=some c->∀v,s.heap.IsCell c v->h'.IsCell c v:=fun x c e v ⟨o,ho,hd⟩=>by
  have nch:c∉ch:=fun z=>(hch c z).2.2.1 x c e rfl
  by_cases hc:c∈X.fs
  ·obtain⟨sl,q⟩:=slot c o (I.cne x c e) hc nch ho (I.freeC x c e)
   exact⟨_,q,hd⟩
  ·exact⟨o,keep c o (I.cne x c e) hc nch ho (I.freeC x c e),hd⟩
 refine⟨I.ok,I.os,hg,⟨fun b o e n hb hx=> ?_,fun b o e n hb hx=> ?_,fun b o e n hx=> ?_,fun b o e hx=> ?_,fun b xs e=>tups b xs (I.base.tups b xs e),fun b o xs e=>frzs b o xs (I.base.frzs b o xs e),fun b ps e=> ?_⟩,?_,fun x c e=> ?_,?_,fun x c e=> ?_,fun p hp=> ?_,hok,I.len⟩
 ·exact keep b o (neL b o e) hb (neC b o e hx) (I.base.keep b o e n hb hx) (I.base.free b o e n hx)
 ·obtain⟨sl,e1⟩:=I.base.slot b o e n hb hx
  obtain⟨sl',e2⟩:=slot b _ (neL b o e) hb (neC b o e hx) e1 (I.base.free b o e n hx)
  exact⟨sl',e2⟩
 ·obtain⟨o',e1⟩:=I.base.there b o e hx
  exact free b o' (neC b o e hx) e1 (I.base.free b o e n hx)
 ·obtain⟨o',e1⟩:=I.base.there b o e hx
  exact there b o' (neC b o e hx) e1
 ·obtain⟨m1,e1⟩:=I.base.tbls b ps e
  obtain⟨m2,e2⟩:=tbls b _ e1
  exact⟨m1++m2,by rw [e2,Array.append_assoc]⟩
 ·obtain⟨m,hn,hl⟩:=I.loc
  refine⟨m,ns m hn,fun i x v e1 e2 e3=> ?_⟩
  obtain⟨u,r,l⟩:=hl i x v e1 e2 e3
  refine⟨u,r,?_⟩
  rcases l with l|⟨k,c,e,z⟩
  ·exact .inl l
  ·exact .inr ⟨k,c,e,cellK x c e _ z⟩
 ·obtain⟨v,z⟩:=I.cell x c e
  exact⟨v,cellK x c e v z⟩
 ·obtain⟨m,⟨o,_,_,ho,_⟩,_⟩:=I.loc
  exact free _ o (fun z=>(hch _ z).2.1 rfl) ho I.free
 ·obtain⟨v,o,ho,hd⟩:=I.cell x c e
  exact free c o (fun z=>(hch c z).2.2.1 x c e rfl) ho (I.freeC x c e)
 ·obtain⟨e,n,ne,nf,d⟩:=I.pin p hp
  have nch:p.1∉ch:=fun z=>(hch p.1 z).2.2.2 p hp rfl
  exact⟨keep p.1 p.2 ne nf nch e n,free p.1 p.2 nch e n,ne,nf,d⟩
theorem Inv.un {t':Nat}(I:Inv X pins σ H s)(u:Un X.fs [] H H' s.heap h')(hok:HOk X.prog X.w H' h'):Inv X pins σ H' {s with heap:=h',toks:=t'}:=by
 obtain⟨m,⟨o,es,ep,ho,r⟩,_⟩:=id I.loc
 obtain⟨sl,hL⟩:=u.any ho I.free (by simp)
 exact I.step (g':=s.gens) (d':=s.drawn) (ch:=[]) (fun _ z=>nomatch z) (fun b o _ hb _ e n=>u.keep b o e n hb (by simp)) (fun b o _ hb _ e n=>u.slot b o e n hb (by simp)) (fun b o _ e n=>u.free b o e n (by simp)) (fun b o _ e=>u.there b o e (by simp)) u.tups u.frzs u.tbls (fun m' hm=>by
  obtain⟨o',es',ep',ho',r'⟩:=hm
  rw [ho] at ho'; cases ho'
  exact⟨_,es',ep',hL,r'⟩) hok I.bare
theorem Inv.call {g':Array GenState}{t':Nat}{d':Drawn}{ch:List Addr}(I:Inv X pins σ H s)(u:Un (frs X.stack) ch H H' s.heap h')(hok:HOk X.prog X.w H' h')(hg:AllBare g')
  (hch:∀b∈ch,(b∈X.ex\/ X.s₀.heap.objs.size<=b)/\b≠X.env.locals/\(∀x c,X.env.cells.lookup x=some c->c≠b)/\∀p∈X.pn++pins,p.1≠b):
  Inv X pins σ H' {s with heap:=h',gens:=g',drawn:=d',toks:=t'}:=by
 obtain⟨m,⟨o,es,ep,ho,r⟩,_⟩:=id I.loc
 obtain⟨sl,hL⟩:=u.any ho I.free fun z=>(hch _ z).2.1 rfl
 exact I.step (ch:=ch) hch (fun b o hL hb hc e n=>u.keep b o e n (fun z=>(List.mem_cons.mp (I.stkSub b z)).elim hL hb) hc) (fun b o _ _ hc e n=>u.any e n hc) (fun b o hc e n=>u.free b o e n hc) (fun b o hc e=>u.there b o e hc) u.tups u.frzs u.tbls (fun m' hm=>by
  obtain⟨o',es',ep',ho',r'⟩:=hm
  rw [ho] at ho'; cases ho'
  exact⟨_,es',ep',hL,r'⟩) hok hg
theorem Inv.turned {t':Nat}{it:Addr}(I:Inv X pins σ H s)(k:∀b o,b≠it->s.heap.get? b=some o->h'.get? b=some o)(hn:H it=none)(hL:it≠X.env.locals)
  (h1:it∈X.ex\/ X.s₀.heap.objs.size<=it) (h2:∀x c,X.env.cells.lookup x=some c->c≠it) (h3:∀p∈X.pn++pins,p.1≠it):Inv X pins σ H {s with heap:=h',toks:=t'}:=by
 have nit:∀b u,H b=some u->b≠it:=fun b u e z=>by rw [z,hn] at e; cases e
 refine I.step (g':=s.gens) (d':=s.drawn) (ch:=[it]) (fun b hb=> ?_) (fun b o _ _ hc e _=>k b o (fun z=>hc (by simp [z])) e) (fun b o _ _ hc e _=>⟨o.slots,k b o (fun z=>hc (by simp [z])) e⟩) (fun _ _ _ _ n=>n)
  (fun b o hc e=>⟨o,k b o (fun z=>hc (by simp [z])) e⟩) (fun _ _ e=>e) (fun _ _ _ e=>e) (fun b ps e=>⟨#[],by rw [e]; simp⟩) (fun m hm=> ?_) (fun b u e=> ?_) I.bare
 ·have e:b=it:=by simpa using hb
  subst e
  exact⟨h1,hL,h2,h3⟩
 ·obtain⟨o,es,ep,ho,r⟩:=hm
  exact⟨o,es,ep,k _ o (Ne.symm hL) ho,r⟩
 ·refine(I.hok b u e).stay (fun c v hc q=>k c v ?_ q) (fun _ q=>q) fun _ _ q=>q
  rcases hc with z|z
  ·rw [z]; exact nit b u e
  ·exact nit c _ z
theorem Inv.tok (I:Inv X pins σ H s)(t:Nat):Inv X pins σ H {s with toks:=t}:=I.un (h':=s.heap) (t':=t) Un.refl I.hok
theorem Inv.kept {t':Nat}(I:Inv X pins σ H s)(k:∀b u,s.heap.get? b=some u->h'.get? b=some u):Inv X pins σ H {s with heap:=h',toks:=t'}:=I.un (Un.kept k) (I.hok.kept k)
theorem Inv.laid {a:Addr}{o:HO}{t':Nat}(I:Inv X pins σ H s)(k:∀b u,s.heap.get? b=some u->h'.get? b=some u)(hp:s.heap.objs.size<=a)(new:ObjOk X.prog X.w (upd H a o) h' a o):
  Inv X pins σ (upd H a o) {s with heap:=h',toks:=t'}:=I.un (Un.laid k hp (I.hok.fresh hp)) (I.hok.laid k hp new)
theorem Inv.write {x e:Addr}{o:HO}{t':Nat}(I:Inv X pins σ H s)(mu:Mut (H x))(he:e=x\/ H e=some (.own x))(k:∀b u,b≠e->s.heap.get? b=some u->h'.get? b=some u)(heo:∃u,h'.get? e=some u)
  (new:ObjOk X.prog X.w (upd H x o) h' x o):Inv X pins σ (upd H x o) {s with heap:=h',toks:=t'}:=I.un (Un.write mu he k heo) (I.hok.write mu he k heo new)
theorem Inv.weak {σ':List (Option V)}(I:Inv X pins σ H s)(hl:σ'.length=σ.length)(w:∀(i:Nat) v,σ'[i]?=some (some v)->σ[i]?=some (some v)):Inv X pins σ' H s:=
 ⟨I.ok,I.os,I.bare,I.base,let ⟨m,hn,hl'⟩:=I.loc; ⟨m,hn,fun i x v e1 e2 e3=>hl' i x v e1 (w i v e2) e3⟩,I.cell,I.free,I.freeC,I.pin,I.hok,hl.trans I.len⟩
theorem Inv.pins_of {pins':List (Addr × Obj)}(I:Inv X pins σ H s)(h:∀p∈pins',s.heap.get? p.1=some p.2/\H p.1=none/\p.1≠X.env.locals/\p.1∉X.fs/\∀v,p.2.data≠ .cell v):Inv X pins' σ H s:=
 ⟨I.ok,I.os,I.bare,I.base,I.loc,I.cell,I.free,I.freeC,fun p hp=>(List.mem_append.mp hp).elim (fun z=>I.pin p (List.mem_append_left _ z)) (h p),I.hok,I.len⟩
theorem ia0 {N:List Str}(hN:N.Nodup){i j:Nat}{x:Str}(a:N[i]?=some x)(b:N[j]?=some x):i=j:=by
 obtain⟨h1,e1⟩:=List.getElem?_eq_some_iff.mp a
 obtain⟨h2,e2⟩:=List.getElem?_eq_some_iff.mp b
 exact(List.getElem_inj hN).mp (e1.trans e2.symm)
theorem fO0 {M:Model}{A:Around}{E:Value->Shared->Prop}{i:Nat}{x:Str}{v:V}{u:Value}{Q:Unit->Shared->Prop}(I:Inv X pins σ H s)(hN:X.N.Nodup)(hi:X.N[i]?=some x)(hx:Loc X.env.scope x)(r:RelV v u)
  (h:∀s',Inv X pins (σ.set i (some v)) H s'->(∃a,Heap.SameBut a s.heap s'.heap/\(a=X.env.locals\/ X.env.cells.lookup x=some a))->Q () s') (hf:X.fn x=true\/ X.env.scope.names.lookup x=some .local:=by first|exact .inl rfl|exact .inr rfl|assumption):wpAny M A (storeName X.env x u) Q E s:=by
 obtain⟨m,hn,hl⟩:=id I.loc
 have hcls:(X.env.scope.kind==.class||(X.env.scope.kind==.module && X.env.locals !=X.env.globals))=false:=by rw [I.ok.kind]; rfl
 have hiσ:i<σ.length:=by rw [I.len]; exact(List.getElem?_eq_some_iff.mp hi).1
 have cne:=I.cne
 have tracked:∀{a:Addr} {h':Heap},(∃o,s.heap.get? a=some o/\H a=none)->Heap.SameBut a s.heap h'->HOk X.prog X.w H h':=fun{a h'} ha hs b ob e=>by
  obtain⟨_,_,hfree⟩:=ha
  refine(I.hok b ob e).stay (fun c w' hc q=>(hs.2 c ?_).trans q) (fun _ q=>q) fun _ _ q=>q
  rintro rfl
  rcases hc with rfl|hc
  ·rw [hfree] at e; cases e
  ·rw [hfree] at hc; cases hc
 rcases hx with hk|hk
 ·refine wpAny_storeName_local hk hn (fun h' hn' hs=> ?_) hcls
  obtain⟨oL,_,_,hoL,_⟩:=id hn
  refine h _ ⟨I.ok,I.os,I.bare,⟨fun b o e n hb hx=> ?_,fun b o e n hb hx=> ?_,I.base.free,fun b o e hx=> ?_,I.base.tups,I.base.frzs,I.base.tbls⟩,⟨_,hn',fun j y v' e1 e2 e3=> ?_⟩,fun y c e=> ?_,I.free,I.freeC,fun p hp=> ?_,tracked ⟨oL,hoL,I.free⟩ hs,by simpa using I.len⟩ ⟨_,hs,.inl rfl⟩
  ·exact(hs.2 b (Nat.ne_of_lt (Nat.lt_of_lt_of_le (Heap.lt_size e) I.ok.above))).trans (I.base.keep b o e n hb hx)
  ·obtain⟨sl,e1⟩:=I.base.slot b o e n hb hx
   exact⟨sl,(hs.2 b (Nat.ne_of_lt (Nat.lt_of_lt_of_le (Heap.lt_size e) I.ok.above))).trans e1⟩
  ·obtain⟨o',e1⟩:=I.base.there b o e hx
   exact⟨o',(hs.2 b (Nat.ne_of_lt (Nat.lt_of_lt_of_le (Heap.lt_size e) I.ok.above))).trans e1⟩
  ·by_cases hj:j=i
   ·subst hj
    rw [hi] at e1; cases e1
    rw [List.getElem?_set_self hiσ] at e2
    cases e2
    exact⟨u,r,.inl ⟨hk,by simp⟩⟩
   ·rw [List.getElem?_set_ne (Ne.symm hj)] at e2
    obtain⟨u',r',q⟩:=hl j y v' e1 e2 e3
    refine⟨u',r',?_⟩
    rcases q with⟨k,e⟩|⟨k,c,e,z⟩
    ·refine .inl ⟨k,?_⟩
     have:y≠x:=fun e=>hj (ia0 hN e1 (e▸hi))
     simp [this,e]
    ·exact .inr ⟨k,c,e,z.sameBut hs (cne y c e)⟩
  ·obtain⟨w',z⟩:=I.cell y c e
   exact⟨w',z.sameBut hs (cne y c e)⟩
  ·obtain⟨e,n,ne,nf,d⟩:=I.pin p hp
   exact⟨(hs.2 p.1 ne).trans e,n,ne,nf,d⟩
 ·have hfn:X.fn x=true:=by
   rcases hf with z|z
   ·exact z
   ·rw [z] at hk; cases hk
  obtain⟨c,hc⟩:=I.ok.has x (.inl hk)
  obtain⟨w',z⟩:=I.cell x c hc
  refine wpAny_storeName_cell I.ok.kind hk hc z (fun h' hc' hs=> ?_)
  obtain⟨oc,hoc,hocd⟩:=id z
  refine h {s with heap:=h'} ⟨I.ok,I.os,I.bare,⟨fun b o e n hb hx=> ?_,fun b o e n hb hx=> ?_,I.base.free,fun b o e hx=> ?_,I.base.tups,I.base.frzs,I.base.tbls⟩,⟨m,hn.sameBut hs (Ne.symm (cne x c hc)),fun j y v' e1 e2 e3=> ?_⟩,fun y c' e=> ?_,I.free,I.freeC,fun p hp=> ?_,tracked ⟨oc,hoc,I.freeC x c hc⟩ hs,by simpa using I.len⟩ ⟨c,hs,.inr hc⟩
  ·exact(hs.2 b (Nat.ne_of_lt (Nat.lt_of_lt_of_le (Heap.lt_size e) (I.ok.cab x c hfn hc)))).trans (I.base.keep b o e n hb hx)
  ·obtain⟨sl,e1⟩:=I.base.slot b o e n hb hx
   exact⟨sl,(hs.2 b (Nat.ne_of_lt (Nat.lt_of_lt_of_le (Heap.lt_size e) (I.ok.cab x c hfn hc)))).trans e1⟩
  ·obtain⟨o',e1⟩:=I.base.there b o e hx
   exact⟨o',(hs.2 b (Nat.ne_of_lt (Nat.lt_of_lt_of_le (Heap.lt_size e) (I.ok.cab x c hfn hc)))).trans e1⟩
  ·by_cases hj:j=i
   ·subst hj
    rw [hi] at e1; cases e1
    rw [List.getElem?_set_self hiσ] at e2
    cases e2
    exact⟨u,r,.inr ⟨.inl hk,c,hc,hc'⟩⟩
   ·rw [List.getElem?_set_ne (Ne.symm hj)] at e2
    obtain⟨u',r',q⟩:=hl j y v' e1 e2 e3
    refine⟨u',r',?_⟩
    rcases q with q|⟨k,c',e,z'⟩
    ·exact .inl q
    ·refine .inr ⟨k,c',e,z'.sameBut hs ?_⟩
     rintro rfl
     exact hj (ia0 hN e1 (I.ok.inj _ _ _ e hc▸hi))
  ·by_cases hcc:c'=c
   ·subst hcc; exact⟨_,hc'⟩
   ·obtain⟨w2,z2⟩:=I.cell y c' e
    exact⟨w2,z2.sameBut hs hcc⟩
  ·obtain⟨e,n,ne,nf,d⟩:=I.pin p hp
   refine⟨(hs.2 p.1 ?_).trans e,n,ne,nf,d⟩
   intro q
   rw [q,hoc] at e
   have q':oc=p.2:=Option.some.inj e
   exact d w' (by rw [<- q']; exact hocd)
theorem gV0 {M:Model}{A:Around}{E:Value->Shared->Prop}{i:Nat}{x:Str}{v:V}{u:Value}{Q:Unit->Shared->Prop}(I:Inv X pins σ H s)(hN:X.N.Nodup)(hi:X.N[i]?=some x)(hx:Loc X.env.scope x)(r:RelV v u)
  (h:∀s',Inv X pins (σ.set i (some v)) H s'->Q () s') (hf:X.fn x=true\/ X.env.scope.names.lookup x=some .local:=by first|exact .inl rfl|exact .inr rfl|assumption):wpAny M A (storeName X.env x u) Q E s:=
 fO0 I hN hi hx r (fun s' I' _=>h s' I') hf
theorem Inv.call' {s':Shared}{ch:List Addr}(I:Inv X pins σ H s)(ho:s'.os=s.os)(u:Un (frs X.stack) ch H H' s.heap s'.heap)(hok:HOk X.prog X.w H' s'.heap)(hg:AllBare s'.gens)
  (hch:∀b∈ch,(b∈X.ex\/ X.s₀.heap.objs.size<=b)/\b≠X.env.locals/\(∀x c,X.env.cells.lookup x=some c->c≠b)/\∀p∈X.pn++pins,p.1≠b):Inv X pins σ H' s':=by
 obtain⟨h',g',d',t',o'⟩:=s'
 have e:o'=s.os:=ho
 subst e
 exact I.call (g':=g') (t':=t') (d':=d') u hok hg hch
end
abbrev XK:=Value->Option Addr->Hp->Prop
abbrev St:=List (Option V)
abbrev VK:=V->Hp->Prop
abbrev TE:=St->Hp->VK->Prop
abbrev TT:=St->Hp->(Bool->Hp->Prop)->Prop
abbrev TA:=St->Hp->(List V->Hp->Prop)->Prop
structure Ends where
 nx:St->Hp->Prop
 rt:VK
 bk:St->Hp->Prop:=fun _ _=>False
 ct:St->Hp->Prop:=fun _ _=>False
abbrev TS:=Ends->St->Hp->Prop
def EP (X:Cx)(pins:List (Addr × Obj))(σ:St)(Q:VK)(u:Value)(s':Shared):Prop:=∃v H',Inv X pins σ H' s'/\RelV v u/\Q v H'
def TP (X:Cx)(pins:List (Addr × Obj))(σ:St)(Q:Bool->Hp->Prop)(b:Bool)(s':Shared):Prop:=∃H',Inv X pins σ H' s'/\Q b H'
def AP (X:Cx)(pins:List (Addr × Obj))(σ:St)(Q:List V->Hp->Prop)(us:List Value)(s':Shared):Prop:=∃vs H',Inv X pins σ H' s'/\Vals vs us/\Q vs H'
def SP (X:Cx)(pins:List (Addr × Obj))(D:Ends)(f:Flow)(s':Shared):Prop:=
 match f with
 | .next=>∃σ' H',Inv X pins σ' H' s'/\D.nx σ' H'
 | .brk=>∃σ' H',Inv X pins σ' H' s'/\D.bk σ' H'
 | .cont=>∃σ' H',Inv X pins σ' H' s'/\D.ct σ' H'
 | .ret u=>∃v σ' H',Inv X pins σ' H' s'/\RelV v u/\D.rt v H'
def PE (X:Cx)(e:Expr)(t:TE):Prop:=
 ∀(pins:List (Addr × Obj)) (s:Shared) (σ:St) (H:Hp) (Q:VK),Inv X pins σ H s->t σ H Q->wpAny (model X.prog X.w) X.A (eval e X.env) (EP X pins σ Q) X.xe s
def PT (X:Cx)(e:Expr)(t:TT):Prop:=
 ∀(pins:List (Addr × Obj)) (s:Shared) (σ:St) (H:Hp) (Q:Bool->Hp->Prop),Inv X pins σ H s->t σ H Q->wpAny (model X.prog X.w) X.A (isTrue e X.env (eval e X.env)) (TP X pins σ Q) X.xe s
def PW (X:Cx)(e:Expr)(t:TT):Prop:=
 ∀(whole:Sem Value) (pins:List (Addr × Obj)) (s:Shared) (σ:St) (H:Hp) (Q:Bool->Hp->Prop),Inv X pins σ H s->t σ H Q->wpAny (model X.prog X.w) X.A (isTrue e X.env whole) (TP X pins σ Q) X.xe s
theorem PW.pt {X:Cx}{e:Expr}{t:TT}(h:PW X e t):PT X e t:=h _
def PA (X:Cx)(es:List Expr)(t:TA):Prop:=
 ∀(pos:Pos) (pins:List (Addr × Obj)) (s:Shared) (σ:St) (H:Hp) (Q:List V->Hp->Prop),Inv X pins σ H s->t σ H Q->wpAny (model X.prog X.w) X.A (spliced (backTo pos (starEach es X.env))) (AP X pins σ Q) X.xe s
def PS (X:Cx)(st:Stmt)(t:TS):Prop:=
 ∀(pins:List (Addr × Obj)) (s:Shared) (σ:St) (H:Hp) (D:Ends),Inv X pins σ H s->t D σ H->wpAny (model X.prog X.w) X.A (exec st X.env) (SP X pins D) X.xe s
def PSs (X:Cx)(st:List Stmt)(t:TS):Prop:=
 ∀(pins:List (Addr × Obj)) (s:Shared) (σ:St) (H:Hp) (D:Ends),Inv X pins σ H s->t D σ H->wpAny (model X.prog X.w) X.A (execs st X.env) (SP X pins D) X.xe s
theorem thn {α:Type}{t:Sem α}{Q Q':α->Shared->Prop}{M:Model}{A:Around}{E:Value->Shared->Prop}{s:Shared}(h:wpAny M A t Q E s)(hQ:∀a s,Q a s->Q' a s):wpAny M A t Q' E s:=wpAny_mono h hQ fun _ _ x=>x
end L2
namespace L2
open PySem PySem.Spec PyProof.Rows
section
variable {X:Cx}
theorem bin {a b:Expr}{ta tb:TE}(ha:PE X a ta)(hb:PE X b tb){pins:List (Addr × Obj)}{s:Shared}{σ:St}{H:Hp}{R:V->V->Hp->Prop}(I:Inv X pins σ H s)(h:ta σ H fun x H1=>tb σ H1 fun y H2=>R x y H2)
  {α:Type} {Q:α->Shared->Prop} {f:Value->Value->Sem α}
  (hf:∀v u s2 x y H2,Inv X pins σ H2 s2->RelV x v->RelV y u->R x y H2->wpAny (model X.prog X.w) X.A (f v u) Q X.xe s2):
  wpAny (model X.prog X.w) X.A (eval a X.env) (fun v s₁=>wpAny (model X.prog X.w) X.A (eval b X.env) (fun u s₂=>wpAny (model X.prog X.w) X.A (f v u) Q X.xe s₂) X.xe s₁) X.xe s:=by
 refine thn (ha pins s σ H _ I h) fun v s1 ⟨x,H1,I1,r1,q1⟩=> ?_
 refine thn (hb pins s1 σ H1 _ I1 q1) fun u s2 ⟨y,H2,I2,r2,q2⟩=> ?_
 exact hf v u s2 x y H2 I2 r1 r2 q2
def tVar (i:Nat):TE:=fun σ H Q=>∃v,σ[i]?=some (some v)/\Q v H
def tC (v:V):TE:=fun _ H Q=>Q v H
theorem oZ0 {i:Nat}{x:Str}{pos:Pos}(hN:X.N[i]?=some x)(hv:Vis X.env.scope x)(hd:(x==("__debug__" :Str))=false:=by decide) (hcd:(x==("__classdict__" :Str))=false:=by decide):PE X (.Name x pos) (tVar i):=by
 intro pins s σ H Q I h
 obtain⟨v,e,h⟩:=h
 obtain⟨m,hn,hl⟩:=I.loc
 obtain⟨u,r,l⟩:=hl i x v hN e hv
 have fin:EP X pins σ Q u s:=⟨v,H,I,r,h⟩
 rcases l with⟨hk,hm⟩|⟨hk,c,hc,hcell⟩
 ·exact wpAny_Name (wpAny_loadName_local I.ok.kind hk hn hm fin) hd
 ·rcases hk with hk|hk
  ·exact wpAny_Name (wpAny_loadName_cell I.ok.kind hk hc hcell fin) hd
  ·exact wpAny_Name (wpAny_loadName_free I.ok.kind hk hc hcell fin hcd) hd
theorem jS0 {i j pos}:PE X (.Constant (.int i) j pos) (tC (.int i)):=fun _ _ _ H _ I h=>wpAny_Constant_int ⟨.int i,H,I.tok _,⟨_,rfl⟩,h⟩
theorem lH0 {b j pos}:PE X (.Constant (.bool b) j pos) (tC (.bl b)):=fun _ _ _ H _ I h=>Constant_bool ⟨.bl b,H,I,rfl,h⟩
theorem pm0 {j pos}:PE X (.Constant .none j pos) (tC .non):=fun _ _ _ H _ I h=>Constant_none ⟨.non,H,I,rfl,h⟩
theorem mK0 {x j pos}:PE X (.Constant (.str x) j pos) (tC (.str x)):=fun _ _ _ H _ I h=>Calls.Constant_str ⟨.str x,H,I.tok _,⟨_,rfl⟩,h⟩
def Gl (X:Cx)(x:Str):Prop:=X.env.kindOf x=some .globalImplicit
theorem gG0 {E:Value->Shared->Prop}{pins:List (Addr × Obj)}{s:Shared}{σ:St}{H:Hp}{x:Str}{u:Value}{pos:Pos}{Q:Value->Shared->Prop}(I:Inv X pins σ H s)(hg:Gl X x)(hm:X.mg x=some u)(h:Q u s)
  (hd:(x==("__debug__" :Str))=false:=by decide):wpAny (model X.prog X.w) X.A (eval (.Name x pos) X.env) Q E s:=
 Calls.Name_function_global I.ok.kind hg (Calls.loadGlobal_global (by rw [I.ok.glob]; exact I.mod.glob.keeps I.bk) hm h) hd
theorem df0 {E:Value->Shared->Prop}{pins:List (Addr × Obj)}{s:Shared}{σ:St}{H:Hp}{x:Str}{u:Value}{pos:Pos}{Q:Value->Shared->Prop}(I:Inv X pins σ H s)(hg:Gl X x)(hm:X.mg x=none)(hv:bootBuiltins x=some u)(h:Q u s)
  (hn:x≠ "__name__" :=by decide) (hd:(x==("__debug__" :Str))=false:=by decide):wpAny (model X.prog X.w) X.A (eval (.Name x pos) X.env) Q E s:=by
 obtain⟨mb,h1,h2⟩:=I.mod.blt
 exact Calls.Name_function_global I.ok.kind hg (Calls.loadGlobal_builtin (by rw [I.ok.glob]; exact I.mod.glob.keeps I.bk) hm (by rw [I.ok.blt]; exact h1.keeps I.bk) ((h2 x hn).trans hv) h) hd
theorem nL0 {x:Str}{v:V}{u:Value}{pos:Pos}(hg:Gl X x)(hm:X.mg x=some u)(r:RelV v u)(hd:(x==("__debug__" :Str))=false:=by decide):PE X (.Name x pos) (tC v):=
 fun _ _ _ H _ I h=>gG0 I hg hm ⟨v,H,I,r,h⟩ hd
theorem fl0 {x:Str}{v:V}{u:Value}{pos:Pos}(hg:Gl X x)(hm:X.mg x=none)(hv:bootBuiltins x=some u)(r:RelV v u)(hn:x≠ "__name__" :=by decide) (hd:(x==("__debug__" :Str))=false:=by decide):PE X (.Name x pos) (tC v):=
 fun _ _ _ H _ I h=>df0 I hg hm hv ⟨v,H,I,r,h⟩ hn hd
variable {a b:Expr}{ta tb:TE}{pos:Pos}
def PC (X:Cx)(op:CmpOp)(a b:Expr)(t:TE):Prop:=
 ∀(pins:List (Addr × Obj)) (s:Shared) (σ:St) (H:Hp) (Q:VK),Inv X pins σ H s->t σ H Q->
  wpAny (model X.prog X.w) X.A (eval a X.env) (fun v s₁=>wpAny (model X.prog X.w) X.A (eval b X.env) (fun u s₂=>wpAny (model X.prog X.w) X.A (compareOp op v u) (EP X pins σ Q) X.xe s₂) X.xe s₁) X.xe s
def tB (t:TE):TT:=fun σ H Q=>t σ H fun x H1=>∃c,x=.bl c/\Q c H1
theorem iK0 {op:CmpOp}{t:TE}(h:PC X op a b t)(h1:behindInMarks op b=false:=by first|exact nobehind _ (by decide) (by decide)|rfl):PT X (.Compare a [op] [b] pos) (tB t):=by
 intro pins s σ H Q I hw
 refine wpAny_isTrue_Compare1 (thn (h pins s σ H _ I hw) fun v s1 h1=>thn h1 fun u s2 h2=>thn h2 fun c s3 ⟨x,H1,I1,r1,q1⟩=> ?_) h1
 obtain⟨d,rfl,q⟩:=q1
 cases r1
 exact wpAny_truthy_bool ⟨H1,I1,q⟩
theorem iX0 {e:Expr}{t:TE}(h:PE X e t)(he:∀whole,isTrue e X.env whole=(do let v<- whole; standAt e.pos; holding [v] (truthy v)):=by intro _; rfl):PT X e (tB t):=by
 intro pins s σ H Q I hw
 refine isTrue_plain (thn (h pins s σ H _ I hw) fun v s1 ⟨x,H1,I1,r1,q1⟩=> ?_) (he _)
 obtain⟨d,rfl,q⟩:=q1
 cases r1
 exact wpAny_truthy_bool ⟨H1,I1,q⟩
variable {tA tB':TT}{rest:List Expr}
def tAnd (t u:TT):TT:=fun σ H Q=>t σ H fun c H1=>if c=true then u σ H1 Q else Q false H1
def tOr (t u:TT):TT:=fun σ H Q=>t σ H fun c H1=>if c=true then Q true H1 else u σ H1 Q
def tNot (t:TT):TT:=fun σ H Q=>t σ H fun c H1=>Q (!c) H1
theorem nR0 (ha:PT X a tA):PW X (.BoolOp .And [a] pos) tA:=by
 intro wh pins s σ H Q I h
 refine isTrue_and (thn (ha pins s σ H Q I h) fun c s1 e=> ?_)
 cases c with
 |true=>exact isTrue_and_nil e
 |false=>exact e
theorem jX0 (ha:PT X a tA):PW X (.BoolOp .Or [a] pos) tA:=by
 intro wh pins s σ H Q I h
 refine isTrue_or (thn (ha pins s σ H Q I h) fun c s1 e=> ?_)
 cases c with
 |false=>exact isTrue_or_nil e
 |true=>exact e
theorem pj0 (ha:PT X a tA)(hb:PW X (.BoolOp .And (b::rest) pos) tB'):PW X (.BoolOp .And (a::b::rest) pos) (tAnd tA tB'):=by
 intro wh pins s σ H Q I h
 refine isTrue_and (thn (ha pins s σ H _ I h) fun c s1 ⟨H1,I1,q1⟩=> ?_)
 cases c with
 |true=>exact hb wh pins s1 σ H1 Q I1 q1
 |false=>exact⟨H1,I1,q1⟩
theorem oz0 (ha:PT X a tA)(hb:PW X (.BoolOp .Or (b::rest) pos) tB'):PW X (.BoolOp .Or (a::b::rest) pos) (tOr tA tB'):=by
 intro wh pins s σ H Q I h
 refine isTrue_or (thn (ha pins s σ H _ I h) fun c s1 ⟨H1,I1,q1⟩=> ?_)
 cases c with
 |true=>exact⟨H1,I1,q1⟩
 |false=>exact hb wh pins s1 σ H1 Q I1 q1
theorem jK0 (ha:PT X a tA):PT X (.UnaryOp .Not a pos) (tNot tA):=by
 intro pins s σ H Q I h
 exact isTrue_not (ha pins s σ H (fun c H1=>Q (!c) H1) I h)
def tOrV (ta tb:TE):TE:=fun σ H Q=>ta σ H fun x H1=>∃c,x=.bl c/\if c=true then Q (.bl true) H1 else tb σ H1 Q
theorem pA0 {op}{t:TE}(h:PE X a t):PE X (.BoolOp op [a] pos) t:=fun pins s σ H Q I hw=>BoolOp_one (h pins s σ H Q I hw)
theorem pe_or (ha:PE X a ta)(hb:PE X (.BoolOp .Or (b::rest) pos) tb):PE X (.BoolOp .Or (a::b::rest) pos) (tOrV ta tb):=by
 intro pins s σ H Q I h
 refine BoolOp_or (thn (ha pins s σ H _ I h) fun v s1 ⟨x,H1,I1,r1,q1⟩=> ?_)
 obtain⟨c,rfl,q1⟩:=q1
 cases r1
 refine wpAny_truthy_bool ?_
 cases c with
 |false=>exact hb pins s1 σ H1 Q I1 q1
 |true=>exact⟨.bl true,H1,I1,rfl,q1⟩
end
end L2
namespace L2
open PySem PySem.Spec PyProof.Rows
def SqL (K:PySem.W.Frag)(H:Hp)(a:Addr)(xs:List V):Prop:=
 Rd H a (.lst xs)\/
  ∃(o:Obj) (its:Array Value) (n:Nat),K.lookup a=some o/\o.cls=.type "list" /\o.dict=none/\o.data=.seq its n/\its.size<=sizeLine/\Vals xs its.toList
def SqT (K:PySem.W.Frag)(H:Hp)(a:Addr)(xs:List V):Prop:=
 Rd H a (.tup xs)\/
  ∃(o:Obj) (its:Array Value) (n:Nat),K.lookup a=some o/\o.cls=.type "tuple" /\o.data=.seq its n/\its.size<=sizeLine/\Vals xs its.toList
def absV:Value->Option V
 | .none=>some .non
 | .bool b=>some (.bl b)
 | .int i _=>some (.int i)
 | .str x _=>some (.str x)
 | .bytes b _=>some (.byt b)
 | .float b _=>some (.flt b)
 | .ref a=>some (.ref a)
 | .type n=>some (.ty n)
 |_=>none
theorem RelV.abs {x:V}{u:Value}(r:RelV x u):absV u=some x:=by
 cases x with
 |non=>cases r; rfl
 |bl _=>cases r; rfl
 |int _=>obtain⟨t,rfl⟩:=r; rfl
 |str _=>obtain⟨t,rfl⟩:=r; rfl
 |byt _=>obtain⟨t,rfl⟩:=r; rfl
 |flt _=>obtain⟨t,rfl⟩:=r; rfl
 |ref _=>cases r; rfl
 |ty _=>cases r; rfl
theorem RelV.inj {x y:V}{u:Value}(r:RelV x u)(q:RelV y u):x=y:=Option.some.inj (r.abs.symm.trans q.abs)
theorem Vals.inj:∀{xs ys:List V} {us:List Value},Vals xs us->Vals ys us->xs=ys
 |_,_,_,.nil,.nil=>rfl
 |_,_,_,.cons r t,.cons r' t'=>by rw [r.inj r',Vals.inj t t']
section
variable {X:Cx}{pins:List (Addr × Obj)}{σ:St}{H:Hp}{s:Shared}{a:Addr}{xs ys:List V}
theorem SqL.of {K:PySem.W.Frag}(h:H a=some (.lst xs)):SqL K H a xs:=.inl (.inl h)
theorem SqT.of {K:PySem.W.Frag}(h:H a=some (.tup xs)):SqT K H a xs:=.inl (.inl h)
theorem Inv.list (I:Inv X pins σ H s)(h:SqL X.K H a xs):∃its:List Value,Vals xs its/\PlainL s.heap a its.toArray/\xs.length<=sizeLine:=by
 rcases h with h|⟨o,its,n,hk,hc,hd,hs,hz,r⟩
 ·obtain⟨z,its,n,r,e⟩:=h.ok I.hok
  exact⟨its,r,⟨_,n,e,rfl,rfl,rfl⟩,z⟩
 ·refine⟨its.toList,r,⟨o,n,I.kIn a o hk,hc,hd,by simpa using hs⟩,?_⟩
  have e:=r.length
  simp only [Array.length_toList] at e
  omega
theorem Inv.tuple (I:Inv X pins σ H s)(h:SqT X.K H a xs):∃its:List Value,Vals xs its/\IsTup s.heap a its.toArray/\xs.length<=sizeLine:=by
 rcases h with h|⟨o,its,n,hk,hc,hs,hz,r⟩
 ·obtain⟨z,its,r,p⟩:=h.ok I.hok
  exact⟨its,r,p.1,z⟩
 ·refine⟨its.toList,r,⟨o,I.kIn a o hk,hc,n,by simpa using hs⟩,?_⟩
  have e:=r.length
  simp only [Array.length_toList] at e
  omega
theorem Inv.list_inj (I:Inv X pins σ H s)(h:SqL X.K H a xs)(h':SqL X.K H a ys):xs=ys:=by
 obtain⟨its,r,⟨o,n,e,_,_,d⟩,_⟩:=I.list h
 obtain⟨its',r',⟨o',n',e',_,_,d'⟩,_⟩:=I.list h'
 rw [e] at e'; cases e'
 rw [d] at d'
 injection d' with d1 _
 have:its=its':=by simpa using congrArg Array.toList d1
 subst this
 exact r.inj r'
theorem Inv.tuple_inj (I:Inv X pins σ H s)(h:SqT X.K H a xs)(h':SqT X.K H a ys):xs=ys:=by
 obtain⟨its,r,⟨o,e,_,n,d⟩,_⟩:=I.tuple h
 obtain⟨its',r',⟨o',e',_,n',d'⟩,_⟩:=I.tuple h'
 rw [e] at e'; cases e'
 rw [d] at d'
 injection d' with d1 _
 have:its=its':=by simpa using congrArg Array.toList d1
 subst this
 exact r.inj r'
end
abbrev Cx.wish (X:Cx)(E:Value->Shared->Prop):Cx:={X with xe:=E}
abbrev Cx.nox (X:Cx):Cx:=X.wish fun _ _=>False
theorem Cx.Ok.wish {X:Cx}(ok:X.Ok)(E:Value->Shared->Prop):(X.wish E).Ok:=
 ⟨ok.mod,ok.kind,ok.glob,ok.blt,ok.above,ok.inj,ok.has,ok.cab,ok.hd,ok.frames,ok.stk,ok.exf,ok.bs,ok.bsz,ok.noex,ok.exfs,ok.funs,ok.frf⟩
theorem Cx.Ok.unwish {X:Cx}{E:Value->Shared->Prop}(ok:(X.wish E).Ok):X.Ok:=
 ⟨ok.mod,ok.kind,ok.glob,ok.blt,ok.above,ok.inj,ok.has,ok.cab,ok.hd,ok.frames,ok.stk,ok.exf,ok.bs,ok.bsz,ok.noex,ok.exfs,ok.funs,ok.frf⟩
section
variable {X:Cx}{pins:List (Addr × Obj)}{σ:St}{H:Hp}{s:Shared}{E:Value->Shared->Prop}
theorem Inv.wish (I:Inv X pins σ H s)(E:Value->Shared->Prop):Inv (X.wish E) pins σ H s:=⟨I.ok.wish E,I.os,I.bare,I.base,I.loc,I.cell,I.free,I.freeC,I.pin,I.hok,I.len⟩
theorem Inv.unwish (I:Inv (X.wish E) pins σ H s):Inv X pins σ H s:=⟨I.ok.unwish,I.os,I.bare,I.base,I.loc,I.cell,I.free,I.freeC,I.pin,I.hok,I.len⟩
theorem SP.unwish {D:Ends}{f:Flow}{s':Shared}(h:SP (X.wish E) pins D f s'):SP X pins D f s':=by
 cases f with
 |next=>obtain⟨σ',H',I,q⟩:=h; exact⟨σ',H',I.unwish,q⟩
 |brk=>obtain⟨σ',H',I,q⟩:=h; exact⟨σ',H',I.unwish,q⟩
 |cont=>obtain⟨σ',H',I,q⟩:=h; exact⟨σ',H',I.unwish,q⟩
 |ret u=>obtain⟨v,σ',H',I,r,q⟩:=h; exact⟨v,σ',H',I.unwish,r,q⟩
theorem PSs.nox {st:List Stmt}{t:TS}(h:PSs X.nox st t):PSs X st t:=fun pins s σ H D I hw=>
 wpAny_mono (h pins s σ H D (I.wish _) hw) (fun _ _ q=>q.unwish) fun _ _ z=>False.elim z
end
section
variable {X:Cx}{st:Stmt}{rest:List Stmt}{t u:TS}{e:Expr}{te:TE}{pos:Pos}
def tNext:TS:=fun D σ H=>D.nx σ H
def tSeq (t u:TS):TS:=fun D σ H=>t {D with nx:=u D} σ H
theorem dz0:PSs X [] tNext:=fun _ _ σ H _ I h=>wpAny_execs_nil ⟨σ,H,I,h⟩
theorem ax0 (h1:PS X st t)(h2:PSs X rest u):PSs X (st::rest) (tSeq t u):=by
 intro pins s σ H D I h
 refine wpAny_execs_cons (thn (h1 pins s σ H {D with nx:=u D} I h) fun f s1 q=> ?_)
 cases f with
 |next=>
  obtain⟨σ',H',I',q⟩:=q
  exact h2 pins s1 σ' H' D I' q
 |ret v=>exact q
 |brk=>exact q
 |cont=>exact q
theorem aW0 (h1:PS X st t):PSs X [st] t:=by
 intro pins s σ H D I h
 refine wpAny_execs_cons (thn (h1 pins s σ H D I h) fun f s1 q=> ?_)
 cases f with
 |next=>exact wpAny_execs_nil q
 |ret v=>exact q
 |brk=>exact q
 |cont=>exact q
theorem Inv.quiet {pins:List (Addr × Obj)}{σ:St}{H:Hp}{s:Shared}(I:Inv X pins σ H s):interactive X.env=false:=by simp [interactive,I.ok.kind]
def tDrop (te:TE):TS:=fun D σ H=>te σ H fun _ H1=>D.nx σ H1
theorem bK0 (he:PE X e te)(hs:swapsWith e none pos.line X.env=pure false:=by rfl):PS X (.Expr e pos) (tDrop te):=by
 intro pins s σ H D I h
 exact wpAny_Expr_any (thn (he pins s σ H _ I h) fun v s1 ⟨x,H1,I1,r1,q1⟩=>⟨σ,H1,I1,q1⟩) I.quiet hs
def tRet (te:TE):TS:=fun D σ H=>te σ H D.rt
theorem cu0 (he:PE X e te):PS X (.Return (some e) pos) (tRet te):=by
 intro pins s σ H D I h
 exact wpAny_Return_some (thn (he pins s σ H _ I h) fun v s1 ⟨x,H1,I1,r1,q1⟩=>⟨x,σ,H1,I1,r1,q1⟩)
def tIfS (c:TT)(t u:TS):TS:=fun D σ H=>c σ H fun b H1=>if b=true then t D σ H1 else u D σ H1
theorem ie0 {c:Expr}{a b:List Stmt}{tc:TT}(hc:PT X c tc)(ha:PSs X a t)(hb:PSs X b u):PS X (.If c a b pos) (tIfS tc t u):=by
 intro pins s σ H D I h
 refine wpAny_If (thn (hc pins s σ H _ I h) fun d s1 ⟨H1,I1,q1⟩=> ?_)
 cases d with
 |true=>exact ha pins s1 σ H1 D I1 q1
 |false=>exact hb pins s1 σ H1 D I1 q1
def mP0:TS:=fun _ _ _=>False
theorem lG0:PS X st mP0:=fun _ _ _ _ _ _ h=>h.elim
theorem kW0 {sts:List Stmt}:PSs X sts mP0:=fun _ _ _ _ _ _ h=>h.elim
end
abbrev TG:=V->St->Hp->(St->Hp->Prop)->Prop
abbrev TGs:=List V->St->Hp->(St->Hp->Prop)->Prop
def PG (X:Cx)(target:Expr)(t:TG):Prop:=
 ∀(pins:List (Addr × Obj)) (s:Shared) (σ:St) (H:Hp) (v:V) (u:Value) (Q:St->Hp->Prop),Inv X pins σ H s->RelV v u->t v σ H Q->
  wpAny (model X.prog X.w) X.A (assign target X.env u) (fun _ s'=>∃σ' H',Inv X pins σ' H' s'/\Q σ' H') X.xe s
def PGs (X:Cx)(ts:List Expr)(t:TGs):Prop:=
 ∀(pins:List (Addr × Obj)) (s:Shared) (σ:St) (H:Hp) (vs:List V) (us:List Value) (Q:St->Hp->Prop),Inv X pins σ H s->Vals vs us->t vs σ H Q->
  wpAny (model X.prog X.w) X.A (assignInOrder ((assignEach ts X.env).map (·.2)) us) (fun _ s'=>∃σ' H',Inv X pins σ' H' s'/\Q σ' H') X.xe s
section
variable {X:Cx}{pos:Pos}
def cm0 (i:Nat):TG:=fun v σ H Q=>Q (σ.set i (some v)) H
theorem as0 {i:Nat}{x:Str}(hN:X.N.Nodup)(hi:X.N[i]?=some x)(hx:Loc X.env.scope x)(hf:X.fn x=true\/ X.env.scope.names.lookup x=some .local:=by first|exact .inl rfl|exact .inr rfl|assumption):PG X (.Name x pos) (cm0 i):=by
 intro pins s σ H v u Q I r h
 exact wpAny_assign_Name (gV0 I hN hi hx r (fun s' I'=>⟨_,H,I',h⟩) hf)
def gNil:TGs:=fun vs σ H Q=>vs=[]/\Q σ H
def eA0 (t:TG)(u:TGs):TGs:=fun vs σ H Q=>∃v r,vs=v::r/\t v σ H fun σ' H'=>u r σ' H' Q
theorem cW0:PGs X [] gNil:=by
 intro pins s σ H vs us Q I r h
 obtain⟨e,h⟩:=h
 subst e
 cases r
 exact assignInOrder_nil ⟨σ,H,I,h⟩
theorem bd0 {e:Expr}{es:List Expr}{t:TG}{u:TGs}(h1:PG X e t)(h2:PGs X es u)
  (hs:(assignEach (e::es) X.env).map (·.2)=assign e X.env::(assignEach es X.env).map (·.2):=by rfl):PGs X (e::es) (eA0 t u):=by
 intro pins s σ H vs us Q I r h
 obtain⟨v,vr,e1,h⟩:=h
 subst e1
 cases r with
 |cons r rr=>
  rw [hs]
  refine assignInOrder_cons (thn (h1 pins s σ H _ _ _ I r h) fun _ s1 ⟨σ1,H1,I1,q1⟩=> ?_)
  exact h2 pins s1 σ1 H1 _ _ Q I1 rr q1
def gTup (K:PySem.W.Frag)(n:Nat)(t:TGs):TG:=fun v σ H Q=>∃a xs,v=.ref a/\SqT K H a xs/\xs.length=n/\t xs σ H Q
theorem eh0 {es:List Expr}{k:Nat}{t:TGs}{n:Nat}(hc:X.calm=true)(h:PGs X es t)
  (hn:(assignEach es X.env).length=n:=by rfl) (hst:(assignEach es X.env).findIdx? (·.1)=none:=by rfl):PG X (.Tuple es k pos) (gTup X.K n t):=by
 intro pins s σ H v u Q I r hw
 obtain⟨a,xs,e1,hq,hl,hw⟩:=hw
 subst e1
 cases r
 obtain⟨its,rv,ht,hz⟩:=I.tuple hq
 refine assign_Tuple_tuple (I.ok.hd hc) ht (by simp [hn,<- hl,rv.length]) hst fun h' hx=> ?_
 have I1:Inv X pins σ H {s with heap:=h'}:=I.kept (t':=s.toks) fun b o e=>hx b o (Nat.ne_of_lt (Heap.lt_size e)) e
 exact h pins _ σ H xs _ Q I1 (by simpa using rv) hw
def tAsg (te:TE)(g:TG):TS:=fun D σ H=>te σ H fun x H1=>g x σ H1 D.nx
theorem bX0 {i:Nat}{x:Str}{e:Expr}{te:TE}{pos':Pos}(hN:X.N.Nodup)(hi:X.N[i]?=some x)(hx:Loc X.env.scope x)(he:PE X e te)(hs:swapsWith e (some (.Name x pos')) pos.line X.env=pure false:=by rfl)(hf:X.fn x=true\/ X.env.scope.names.lookup x=some .local:=by first|exact .inl rfl|exact .inr rfl|assumption):
  PS X (.Assign [.Name x pos'] e pos) (tAsg te (cm0 i)):=by
 intro pins s σ H D I h
 refine wpAny_Assign_Name (thn (he pins s σ H _ I h) fun v s1 ⟨y,H1,I1,r1,q1⟩=> ?_) hs
 exact gV0 I1 hN hi hx r1 (fun s2 I2=>⟨_,H1,I2,q1⟩) hf
end
section
variable {X:Cx}{pos:Pos}
def pa0 (c:TT)(tb:TS):TS:=fun D σ H=>∃W:Nat->St->Hp->Prop,(∃m,W m σ H)/\∀m σ H,W m σ H->
 c σ H fun b H1=>if b=true then∃N:St->Hp->Prop,(∀σ' H',N σ' H'->∃m',m'<m/\W m' σ' H')/\tb {D with nx:=N,ct:=N,bk:=D.nx} σ H1 else D.nx σ H1
theorem gZ0 {c:Expr}{body:List Stmt}{tc:TT}{tb:TS}(hp:PassesOwn (model X.prog X.w) X.A X.env X.xe)(hc:PT X c tc)(hb:PSs X body tb):PS X (.While c body [] pos) (pa0 tc tb):=by
 intro pins s σ H D I h
 obtain⟨W,⟨m0,w0⟩,turn⟩:=h
 refine wpAny_While (codeAny_whileLoop (fun n s'=>∃σ' H',Inv X pins σ' H' s'/\W n σ' H') ?_ m0 ⟨σ,H,I,w0⟩)
 rintro n s1 ⟨σ1,H1,I1,w1⟩
 refine wpAny_passesOwn hp (thn (hc pins s1 σ1 H1 _ I1 (turn n σ1 H1 w1)) fun b s2 ⟨H2,I2,q2⟩=> ?_)
 cases b with
 |true=>
  obtain⟨N,hN,q2⟩:=q2
  rw [if_pos rfl]
  refine wpAny_passesOwn hp (thn (hb pins s2 σ1 H2 _ I2 q2) fun f s3 q3=> ?_)
  cases f with
  |next=>
   obtain⟨σ3,H3,I3,n3⟩:=q3
   obtain⟨m',hm,w3⟩:=hN σ3 H3 n3
   exact⟨m',hm,σ3,H3,I3,w3⟩
  |cont=>
   obtain⟨σ3,H3,I3,n3⟩:=q3
   obtain⟨m',hm,w3⟩:=hN σ3 H3 n3
   exact⟨m',hm,σ3,H3,I3,w3⟩
  |brk=>exact q3
  |ret v=>exact q3
 |false=>
  rw [if_neg Bool.false_ne_true]
  exact wpAny_execs_nil ⟨σ1,H2,I2,q2⟩
end
structure It where
 go:Nat->Hp->Prop
 yld:Nat->Hp->V->Hp->Prop
 stop:Nat->Hp->Prop
def FpOk (X:Cx)(pins:List (Addr × Obj))(H:Hp)(b:Addr):Prop:=
 H b=none/\b≠X.env.locals/\b∉X.fs/\(b∈X.ex\/ X.s₀.heap.objs.size<=b)/\(∀x c,X.env.cells.lookup x=some c->c≠b)/\∀p∈X.pn++pins,p.1≠b
theorem Inv.fpOk {X:Cx}{pins:List (Addr × Obj)}{σ:St}{H H':Hp}{s:Shared}{b:Addr}(I:Inv X pins σ H s)(hb:s.heap.objs.size<=b)(hn:H' b=none):FpOk X pins H' b:=by
 refine⟨hn,Nat.ne_of_gt (Nat.lt_of_lt_of_le I.lt hb),I.nofs hb,.inr (Nat.le_trans I.sz hb),fun x c e z=> ?_,fun p hp z=> ?_⟩
 ·obtain⟨v,q⟩:=I.cell x c e
  exact absurd (Nat.lt_of_lt_of_le q.lt (by rw [z]; exact hb)) (Nat.lt_irrefl _)
 ·exact absurd (Nat.lt_of_lt_of_le (Heap.lt_size (I.pin p hp).1) (by rw [z]; exact hb)) (Nat.lt_irrefl _)
structure Turn (P:Program)(w:World)(K:PySem.W.Frag)(tg:Expr)(J:It)(fp:List Addr)(it:Addr)(tn:Nat->Heap->Prop):Prop where
 mem:it∈fp
 obj:∀i h,tn i h->∀b∈fp,∃o,h.get? b=some o/\∀v,o.data≠ .cell v
 keep:∀i h h',tn i h->(∀b∈fp,∀o,h.get? b=some o->h'.get? b=some o)->tn i h'
 item:∀(X:Cx),X.prog=P->X.w=w->X.K=K->X.calm=true->∀(i:Nat) (pins:List (Addr × Obj)) (s:Shared) (σ:St) (H:Hp) (E:Value->Shared->Prop),Inv X pins σ H s->(∀b∈fp,FpOk X pins H b)->tn i s.heap->J.go i H->
  wpAny (model P w) X.A (pyNext (.ref it)) (fun r s1=>∃u,r=some u/\
   wpAny (model P w) X.A (letOwnedTupleGo tg (.ref it) u) (fun _ s2=>∃x H',Inv X pins σ H' s2/\RelV x u/\J.yld i H x H'/\tn (i+1) s2.heap/\∀b∈fp,H' b=none) E s1) E s
 done:∀(X:Cx),X.prog=P->X.w=w->X.K=K->X.calm=true->∀(i:Nat) (pins:List (Addr × Obj)) (s:Shared) (σ:St) (H:Hp) (E:Value->Shared->Prop),Inv X pins σ H s->(∀b∈fp,FpOk X pins H b)->tn i s.heap->J.stop i H->
  wpAny (model P w) X.A (pyNext (.ref it)) (fun r s1=>r=none/\Inv X pins σ H s1) E s
 self:∀(A:Around) (i:Nat) (s:Shared) (Q:Value->Shared->Prop) (E:Value->Shared->Prop),tn i s.heap->Q (.ref it) s->wpAny (model P w) A (pyIter (.ref it)) Q E s
abbrev TI:=St->Hp->(It->Hp->Prop)->Prop
def PIE (X:Cx)(pins:List (Addr × Obj))(σ:St)(tg:Expr)(R:It->Hp->Prop)(itv:Value)(s2:Shared):Prop:=
 ∃(it:Addr) (fp:List Addr) (tn:Nat->Heap->Prop) (J:It) (H':Hp),itv=.ref it/\Inv X pins σ H' s2/\Turn X.prog X.w X.K tg J fp it tn/\tn 0 s2.heap/\(∀b∈fp,FpOk X pins H' b)/\R J H'
def PI (X:Cx)(tg iter:Expr)(wi:TI):Prop:=
 ∀(pins:List (Addr × Obj)) (s:Shared) (σ:St) (H:Hp) (R:It->Hp->Prop),Inv X pins σ H s->wi σ H R->
  wpAny (model X.prog X.w) X.A (eval iter X.env) (fun v s1=>wpAny (model X.prog X.w) X.A (pyIter v) (PIE X pins σ tg R) X.xe s1) X.xe s
theorem iL0 {M:Model}{A:Around}{E:Value->Shared->Prop}{s:Shared}{tg:Expr}{it:Addr}{u:Value}{o:Obj}{n:String}{vs:Array Value}{Q:Unit->Shared->Prop}(ho:s.heap.get? it=some o)(hc:o.cls=.type n)(hd:o.data=.fields vs)
    (hn:["enumerate", "zip", "dict_itemiterator", "dict_reverseitemiterator", "odict_iterator", "itertools.zip_longest", "itertools.pairwise"].contains n=false) (hQ:Q () s):wpAny M A (letOwnedTupleGo tg (.ref it) u) Q E s:=by
  unfold letOwnedTupleGo
  cases tg<;>first
    |exact wpAny_pure hQ
    | (cases u<;>first
        |exact wpAny_pure hQ
        | (refine wpAny_bind (wpAny_load ho ?_)
           rw [hc,hd]
           show wpAny M A (if(["enumerate", "zip", "dict_itemiterator", "dict_reverseitemiterator", "odict_iterator", "itertools.zip_longest", "itertools.pairwise"].contains n && vs[0]?==some (rawInt _))=true then _ else _) Q E s
           rw [if_neg (by intro h; rw [hn,Bool.false_and] at h; cases h)]
           exact wpAny_pure hQ))
def Itl (K:PySem.W.Frag)(a:Addr):It:=
 ⟨fun i H=>∃xs x,SqL K H a xs/\xs[i]?=some x,fun i H x H'=>H'=H/\∀xs,SqL K H a xs->xs[i]?=some x,fun i H=>∃xs,SqL K H a xs/\xs.length<=i⟩
def Itt (K:PySem.W.Frag)(a:Addr):It:=
 ⟨fun i H=>∃xs x,SqT K H a xs/\xs[i]?=some x,fun i H x H'=>H'=H/\∀xs,SqT K H a xs->xs[i]?=some x,fun i H=>∃xs,SqT K H a xs/\xs.length<=i⟩
def Itr (lo:Int)(n:Nat):It:=⟨fun i _=>i<n,fun i H x H'=>H'=H/\x=.int (lo+i),fun i _=>n<=i⟩
theorem iW0 {P:Program}{w:World}{K:PySem.W.Frag}{tg:Expr}(a it:Addr):Turn P w K tg (Itl K a) [it] it (fun i h=>h.IsListIter it a i) where
 mem:=by simp
 obj:=fun i h st b hb=>by
  have e:b=it:=by simpa using hb
  subst e
  obtain⟨o,e,c,d⟩:=st
  exact⟨o,e,fun v z=>by rw [d] at z; cases z⟩
 keep:=fun i h h' st k=>st.at fun o e=>k it (by simp) o e
 item:=by
  intro X hP hw hK hc i pins s σ H E I hf st hg
  subst hP hw hK
  obtain⟨xs,x,hq,hx⟩:=hg
  obtain⟨its,rv,p,hz⟩:=I.list hq
  obtain⟨u,hu,ru⟩:=rv.get hx
  obtain⟨f0,f1,f2,f3,f4,f5⟩:=hf it (by simp)
  refine wpAny_pyNext_list_item st p.isList (x:=u) (by simpa using hu) fun h' st' sb=> ?_
  have I1:Inv X pins σ H {s with heap:=h'}:=I.turned (t':=s.toks) (fun b o hb e=>(sb.2 b hb).trans e) f0 f1 f3 f4 f5
  obtain⟨o,e,c,d⟩:=id st'
  exact⟨u,rfl,iL0 (s:={s with heap:=h'}) e c d (by decide) ⟨x,H,I1,ru,⟨rfl,fun ys hy=>by rw [I.list_inj hy hq]; exact hx⟩,st',fun b hb=>(hf b hb).1⟩⟩
 done:=by
  intro X hP hw hK hc i pins s σ H E I hf st hg
  subst hP hw hK
  obtain⟨xs,hq,hx⟩:=hg
  obtain⟨its,rv,p,hz⟩:=I.list hq
  obtain⟨f0,f1,f2,f3,f4,f5⟩:=hf it (by simp)
  have hl:=rv.length
  exact wpAny_pyNext_list_end (I.ok.hd hc) st p.isList (by simp; omega) fun h' eb=>⟨rfl,I.turned (t':=s.toks) (fun b o hb e=>eb b o hb e) f0 f1 f3 f4 f5⟩
 self:=fun _ _ _ _ _ st h=>wpAny_pyIter_listiter st h
theorem if0 {P:Program}{w:World}{K:PySem.W.Frag}{tg:Expr}(a it:Addr):Turn P w K tg (Itt K a) [it] it (fun i h=>h.IsTupleIter it a i) where
 mem:=by simp
 obj:=fun i h st b hb=>by
  have e:b=it:=by simpa using hb
  subst e
  obtain⟨o,e,c,d⟩:=st
  exact⟨o,e,fun v z=>by rw [d] at z; cases z⟩
 keep:=fun i h h' st k=>st.at fun o e=>k it (by simp) o e
 item:=by
  intro X hP hw hK hc i pins s σ H E I hf st hg
  subst hP hw hK
  obtain⟨xs,x,hq,hx⟩:=hg
  obtain⟨its,rv,p,hz⟩:=I.tuple hq
  obtain⟨u,hu,ru⟩:=rv.get hx
  obtain⟨f0,f1,f2,f3,f4,f5⟩:=hf it (by simp)
  refine wpAny_pyNext_tuple_item st (show s.heap.IsTuple a its.toArray from p) (x:=u) (by simpa using hu) fun h' st' sb=> ?_
  have I1:Inv X pins σ H {s with heap:=h'}:=I.turned (t':=s.toks) (fun b o hb e=>(sb.2 b hb).trans e) f0 f1 f3 f4 f5
  obtain⟨o,e,c,d⟩:=id st'
  exact⟨u,rfl,iL0 (s:={s with heap:=h'}) e c d (by decide) ⟨x,H,I1,ru,⟨rfl,fun ys hy=>by rw [I.tuple_inj hy hq]; exact hx⟩,st',fun b hb=>(hf b hb).1⟩⟩
 done:=by
  intro X hP hw hK hc i pins s σ H E I hf st hg
  subst hP hw hK
  obtain⟨xs,hq,hx⟩:=hg
  obtain⟨its,rv,p,hz⟩:=I.tuple hq
  obtain⟨f0,f1,f2,f3,f4,f5⟩:=hf it (by simp)
  have hl:=rv.length
  exact wpAny_pyNext_tuple_end (I.ok.hd hc) st (show s.heap.IsTuple a its.toArray from p) (by simp; omega) fun h' eb=>⟨rfl,I.turned (t':=s.toks) (fun b o hb e=>eb b o hb e) f0 f1 f3 f4 f5⟩
 self:=fun _ _ _ _ _ st h=>wpAny_pyIter_tupleiter st h
theorem il0 {P:Program}{w:World}{K:PySem.W.Frag}{tg:Expr}(it:Addr)(lo:Int)(n:Nat):Turn P w K tg (Itr lo n) [it] it (fun i h=>IsRangeIter h it (lo+(i:Nat)*1) ((n:Int) - (i:Nat)) 1) where
 mem:=by simp
 obj:=fun i h st b hb=>by
  have e:b=it:=by simpa using hb
  subst e
  exact⟨_,st,fun v z=>by
   have z':Data.fields _=Data.cell v:=z
   cases z'⟩
 keep:=fun i h h' st k=>k it (by simp) _ st
 item:=by
  intro X hP hw hK hc i pins s σ H E I hf st hg
  subst hP hw hK
  obtain⟨f0,f1,f2,f3,f4,f5⟩:=hf it (by simp)
  have W:=Walks.range (prog:=X.prog) (w:=X.w) (I.ok.hd hc) it lo 1 n
  refine W.item i s _ _ hg st fun v h' tk hv st' kk=> ?_
  obtain⟨t,rfl⟩:=hv
  have I1:Inv X pins σ H {s with heap:=h',toks:=tk}:=I.turned (fun b o hb e=>kk b o (by simpa using hb) e) f0 f1 f3 f4 f5
  refine⟨_,rfl,iL0 (s:={s with heap:=h',toks:=tk}) (n:= "range_iterator") st' rfl rfl (by decide) ⟨.int (lo+i),H,I1,⟨t,?_⟩,⟨rfl,rfl⟩,st',fun b hb=>(hf b hb).1⟩⟩
  rw [Int.mul_one]
 done:=by
  intro X hP hw hK hc i pins s σ H E I hf st hg
  subst hP hw hK
  obtain⟨f0,f1,f2,f3,f4,f5⟩:=hf it (by simp)
  exact wpAny_pyNext_range_end (I.ok.hd hc) st (by have:n<=i:=hg; omega) fun h' eb=>⟨rfl,I.turned (t':=s.toks) (fun b o hb e=>eb b o hb e) f0 f1 f3 f4 f5⟩
 self:=fun _ _ _ _ _ st h=>wpAny_pyIter_rangeiter st h
end L2
namespace L2
open PySem PySem.Spec PyProof.Rows
section
variable {X:Cx}{tg:Expr}
def iList (K:PySem.W.Frag)(tl:TE):TI:=fun σ H R=>tl σ H fun x H1=>∃a,x=.ref a/\(∃xs,SqL K H1 a xs)/\R (Itl K a) H1
def iTup (K:PySem.W.Frag)(tl:TE):TI:=fun σ H R=>tl σ H fun x H1=>∃a,x=.ref a/\(∃xs,SqT K H1 a xs)/\R (Itt K a) H1
theorem dq0 {l:Expr}{tl:TE}(hl:PE X l tl):PI X tg l (iList X.K tl):=by
 intro pins s σ H R I h
 refine thn (hl pins s σ H _ I h) fun v s1 ⟨x,H1,I1,r1,q1⟩=> ?_
 obtain⟨a,e,⟨xs,hq⟩,q⟩:=q1
 subst e
 cases r1
 obtain⟨its,rv,p,hz⟩:=I1.list hq
 refine wpAny_pyIter_list p.isList ?_
 refine⟨s1.heap.objs.size,[s1.heap.objs.size],_,_,H1,rfl,I1.kept (t':=s1.toks) fun b o e=>Heap.get?_push_of_some _ e,iW0 a _,⟨_,Heap.get?_push_size _ rfl,rfl,rfl⟩,fun b hb=> ?_,q⟩
 have e:b=s1.heap.objs.size:=by simpa using hb
 subst e
 exact I1.fpOk (Nat.le_refl _) (I1.hok.fresh (Nat.le_refl _))
theorem pp0 {l:Expr}{tl:TE}(hl:PE X l tl):PI X tg l (iTup X.K tl):=by
 intro pins s σ H R I h
 refine thn (hl pins s σ H _ I h) fun v s1 ⟨x,H1,I1,r1,q1⟩=> ?_
 obtain⟨a,e,⟨xs,hq⟩,q⟩:=q1
 subst e
 cases r1
 obtain⟨its,rv,p,hz⟩:=I1.tuple hq
 refine wpAny_pyIter_tuple (show s1.heap.IsTuple a its.toArray from p) ?_
 refine⟨s1.heap.objs.size,[s1.heap.objs.size],_,_,H1,rfl,I1.kept (t':=s1.toks) fun b o e=>Heap.get?_push_of_some _ e,if0 a _,⟨_,Heap.get?_push_size _ rfl,rfl,rfl⟩,fun b hb=> ?_,q⟩
 have e:b=s1.heap.objs.size:=by simpa using hb
 subst e
 exact I1.fpOk (Nat.le_refl _) (I1.hok.fresh (Nat.le_refl _))
theorem id0 {pins:List (Addr × Obj)}{σ:St}{H:Hp}{s:Shared}{R:It->Hp->Prop}{E:Value->Shared->Prop}{lo hi:Int}{t u v:Tok}{tk:Nat}(I:Inv X pins σ H s)(h1: -(2^62)<=lo)(h2:lo<2^62)(h3: -(2^62)<=hi)(h4:hi<2^62)
  (q:R (Itr lo (hi - lo).toNat) H):wpAny (model X.prog X.w) X.A (pyIter (.ref s.heap.objs.size)) (PIE X pins σ tg R) E {s with heap:=s.heap.push {cls:=.type "range",data:=.fields #[.int lo t,.int hi u,.int 1 v]},toks:=tk}:=by
 refine wpAny_pyIter_range (IsRange.new ..) (small_one h1 h2 h3 h4) ?_
 have I1:Inv X pins σ H {s with heap:=s.heap.push {cls:=.type "range",data:=.fields #[.int lo t,.int hi u,.int 1 v]},toks:=tk}:=I.kept fun b o e=>Heap.get?_push_of_some _ e
 refine⟨(s.heap.push {cls:=.type "range",data:=.fields #[.int lo t,.int hi u,.int 1 v]}).objs.size,[(s.heap.push {cls:=.type "range",data:=.fields #[.int lo t,.int hi u,.int 1 v]}).objs.size],_,_,H,rfl,
  I1.kept (t':=tk) fun b o e=>Heap.get?_push_of_some _ e,il0 _ lo (hi - lo).toNat,?_,fun b hb=> ?_,q⟩
 ·have e1:lo+((0:Nat):Int)*1=lo:=by simp
  have e2:(((hi - lo).toNat:Nat):Int) - ((0:Nat):Int)=Builtin.Range.rangeSize lo hi 1:=by rw [rangeSize_one]; split<;>omega
  show IsRangeIter _ _ (lo+((0:Nat):Int)*1) ((((hi - lo).toNat:Nat):Int) - ((0:Nat):Int)) 1
  rw [e1,e2]
  exact Heap.get?_push_size _ rfl
 ·have e:b=(s.heap.push {cls:=.type "range",data:=.fields #[.int lo t,.int hi u,.int 1 v]}).objs.size:=by simpa using hb
  subst e
  exact I1.fpOk (Nat.le_refl _) (I1.hok.fresh (Nat.le_refl _))
def iRng1 (ta:TA):TI:=fun σ H R=>ta σ H fun vs H1=>∃j:Int,vs=[.int j]/\ -(2^62)<=j/\j<2^62/\R (Itr 0 j.toNat) H1
def iRng2 (ta:TA):TI:=fun σ H R=>ta σ H fun vs H1=>∃i j:Int,vs=[.int i,.int j]/\(-(2^62)<=i/\i<2^62/\ -(2^62)<=j/\j<2^62)/\R (Itr i (j - i).toNat) H1
theorem jG0 {a:Expr}{ta:TA}{p pos:Pos}(hg:Gl X "range") (hm:X.mg "range" =none) (ha:PA X [a] ta) (hs:starEach [a] X.env=[(false,eval a X.env)]:=by rfl):PI X tg (.Call (.Name "range" p) [a] [] pos) (iRng1 ta):=by
 intro pins s σ H R I h
 refine Call_ (df0 I hg hm boot_range (PyProof.Rows.callWith_type1 (thn (ha pos pins s σ H _ I h) fun us s1 ⟨vs,H1,I1,r1,q1⟩=> ?_) hs rfl))
 obtain⟨j,e,q1,q2,q⟩:=q1
 subst e
 cases r1 with
 |cons r rr=>
  cases rr
  obtain⟨t,rfl⟩:=r
  exact call_range_1 (id0 I1 (by omega) (by omega) q1 q2 (by simpa using q))
theorem kO0 {a b:Expr}{ta:TA}{p pos:Pos}(hg:Gl X "range") (hm:X.mg "range" =none) (ha:PA X [a,b] ta) (hs:starEach [a,b] X.env=[(false,eval a X.env),(false,eval b X.env)]:=by rfl) (hs2:starEach [b] X.env=[(false,eval b X.env)]:=by rfl):
  PI X tg (.Call (.Name "range" p) [a,b] [] pos) (iRng2 ta):=by
 intro pins s σ H R I h
 refine Call_ (df0 I hg hm boot_range (PyProof.Rows.callWith_type1 (thn (ha pos pins s σ H _ I h) fun us s1 ⟨vs,H1,I1,r1,q1⟩=> ?_) (by rw [hs,hs2]) (by rw [hs2]; rfl)))
 obtain⟨i,j,e,⟨q1,q2,q3,q4⟩,q⟩:=q1
 subst e
 cases r1 with
 |cons r rr=>
  cases rr with
  |cons r' rr=>
   cases rr
   obtain⟨t,rfl⟩:=r
   obtain⟨t',rfl⟩:=r'
   exact call_range_2 (id0 I1 q1 q2 q3 q4 q)
def tFor (wi:TI)(g:TG)(tb:TS):TS:=fun D σ H=>wi σ H fun J H1=>∃W:Nat->Nat->St->Hp->Prop,(∃m,W 0 m σ H1)/\∀i m σ H,W i m σ H->
 (J.stop i H/\D.nx σ H)\/ (J.go i H/\∃N:St->Hp->Prop,(∀σ' H',N σ' H'->∃m',m'<m/\W (i+1) m' σ' H')/\∀x H',J.yld i H x H'->g x σ H' fun σ2 H2=>tb {D with nx:=N,ct:=N,bk:=D.nx} σ2 H2)
def ea0 (fp:List Addr)(h:Heap):List (Addr × Obj):=fp.filterMap fun b=>(h.get? b).map fun o=>(b,o)
theorem bS0 {fp:List Addr}{h:Heap}{b:Addr}{o:Obj}(hb:b∈fp)(e:h.get? b=some o):(b,o)∈ea0 fp h:=List.mem_filterMap.mpr ⟨b,hb,by rw [e]; rfl⟩
theorem fM0 {fp:List Addr}{h:Heap}{p:Addr × Obj}(hp:p∈ea0 fp h):p.1∈fp/\h.get? p.1=some p.2:=by
 obtain⟨b,hb,e⟩:=List.mem_filterMap.mp hp
 cases q:h.get? b with
 |none=>rw [q] at e; cases e
 |some o=>
  rw [q] at e
  have e':(b,o)=p:=Option.some.inj e
  subst e'
  exact⟨hb,q⟩
theorem Inv.pinned {pins:List (Addr × Obj)}{σ:St}{H:Hp}{s:Shared}{fp:List Addr}(I:Inv X pins σ H s)(hf:∀b∈fp,FpOk X pins H b)(ho:∀b∈fp,∃o,s.heap.get? b=some o/\∀v,o.data≠ .cell v):Inv X (pins++ea0 fp s.heap) σ H s:=
 I.pins_of fun p hp=>(List.mem_append.mp hp).elim (fun z=>I.pin p (List.mem_append_right _ z)) fun z=>by
  obtain⟨hb,e⟩:=fM0 z
  obtain⟨f0,f1,f2,_⟩:=hf p.1 hb
  obtain⟨o,e',d⟩:=ho p.1 hb
  rw [e] at e'; cases e'
  exact⟨e,f0,f1,f2,d⟩
theorem Inv.unpinned {pins pl:List (Addr × Obj)}{σ:St}{H:Hp}{s:Shared}(I:Inv X (pins++pl) σ H s):Inv X pins σ H s:=I.pins_of fun p hp=>I.pin p (List.mem_append_right _ (List.mem_append_left _ hp))
theorem fP0 {iter:Expr}{body:List Stmt}{wi:TI}{g:TG}{tb:TS}{pos:Pos}(hp:PassesOwn (model X.prog X.w) X.A X.env X.xe)(hc:X.calm=true)(hi:PI X tg iter wi)(hg:PG X tg g)(hb:PSs X body tb)
  (hs:∀x,foldedSetIterable iter X.env x=pure x:=by intro _; rfl):PS X (.For tg iter body [] pos) (tFor wi g tb):=by
 intro pins s σ H D I h
 refine wpAny_For (thn (hi pins s σ H _ I h) fun v s1 h1=>thn h1 fun itv s2 h2=> ?_) hs
 obtain⟨it,fp,tn,J,H2,e,I2,T,st2,f2,W,⟨m0,w0⟩,turn⟩:=h2
 subst e
 -- what stays true of the iterator's objects through the loop
 have stat:∀{H':Hp},(∀b∈fp,H' b=none)->∀b∈fp,FpOk X pins H' b:=fun hn b hb=>⟨hn b hb,(f2 b hb).2⟩
 refine codeAny_forLoop_any (fun n s'=>∃i σ' H',Inv X pins σ' H' s'/\tn i s'.heap/\(∀b∈fp,H' b=none)/\W i n σ' H') ?_ m0 ⟨0,σ,H2,I2,st2,fun b hb=>(f2 b hb).1,w0⟩
 rintro n s3 ⟨i,σ3,H3,I3,st3,fr3,w3⟩
 rcases turn i n σ3 H3 w3 with⟨stop,qn⟩|⟨go,N,hN,step⟩
 ·refine wpAny_passesOwn hp (thn (T.done X rfl rfl rfl hc i pins s3 σ3 H3 X.xe I3 (stat fr3) st3 stop) fun r s4 ⟨hr,I4⟩=> ?_)
  subst hr
  exact wpAny_execs_nil ⟨σ3,H3,I4,qn⟩
 ·refine wpAny_passesOwn hp (thn (T.item X rfl rfl rfl hc i pins s3 σ3 H3 X.xe I3 (stat fr3) st3 go) fun r s4 ⟨u,hr,h4⟩=> ?_)
  subst hr
  refine wpAny_passesOwn hp (thn h4 fun _ s5 ⟨x,H5,I5,r5,y5,st5,fr5⟩=> ?_)
  have I5':=I5.pinned (stat fr5) (T.obj _ _ st5)
  refine wpAny_passesOwn hp (thn (hg _ s5 σ3 H5 x u _ I5' r5 (step x H5 y5)) fun _ s6 ⟨σ6,H6,I6,q6⟩=> ?_)
  refine wpAny_passesOwn hp (thn (hb _ s6 σ6 H6 _ I6 q6) fun f s7 q7=> ?_)
  have again:∀{σ7:St} {H7:Hp},Inv X (pins++ea0 fp s5.heap) σ7 H7 s7->N σ7 H7->∃m,m<n/\∃i σ' H',Inv X pins σ' H' s7/\tn i s7.heap/\(∀b∈fp,H' b=none)/\W i m σ' H':=fun{σ7 H7} I7 n7=>by
   obtain⟨m',hm,w7⟩:=hN σ7 H7 n7
   refine⟨m',hm,i+1,σ7,H7,I7.unpinned,T.keep _ _ _ st5 fun b hb o e=>(I7.pin (b,o) (List.mem_append_right _ (List.mem_append_right _ (bS0 hb e)))).1,fun b hb=> ?_,w7⟩
   obtain⟨o,e,d⟩:=T.obj _ _ st5 b hb
   exact(I7.pin (b,o) (List.mem_append_right _ (List.mem_append_right _ (bS0 hb e)))).2.1
  cases f with
  |next=>obtain⟨σ7,H7,I7,n7⟩:=q7; exact again I7 n7
  |cont=>obtain⟨σ7,H7,I7,n7⟩:=q7; exact again I7 n7
  |brk=>obtain⟨σ7,H7,I7,q7⟩:=q7; exact⟨σ7,H7,I7.unpinned,q7⟩
  |ret v=>obtain⟨x7,σ7,H7,I7,r7,q7⟩:=q7; exact⟨x7,σ7,H7,I7.unpinned,r7,q7⟩
end
theorem kN0 {lo:Int}{n:Nat}{g:TG}{tb:TS}{D:Ends}{σ:St}{H:Hp}(Pv:Nat->St->Hp->Prop)(h0:Pv 0 σ H)
  (hs:∀i σ H,i<n->Pv i σ H->g (.int (lo+i)) σ H fun σ2 H2=>tb {D with nx:=Pv (i+1),ct:=Pv (i+1),bk:=D.nx} σ2 H2) (hd:∀σ H,Pv n σ H->D.nx σ H):
  ∃W:Nat->Nat->St->Hp->Prop,(∃m,W 0 m σ H)/\∀i m σ H,W i m σ H->
   ((Itr lo n).stop i H/\D.nx σ H)\/ ((Itr lo n).go i H/\∃N:St->Hp->Prop,(∀σ' H',N σ' H'->∃m',m'<m/\W (i+1) m' σ' H')/\∀x H',(Itr lo n).yld i H x H'->g x σ H' fun σ2 H2=>tb {D with nx:=N,ct:=N,bk:=D.nx} σ2 H2):=by
 refine⟨fun i m σ H=>m=n - i/\i<=n/\Pv i σ H,⟨n,by simp,Nat.zero_le _,h0⟩,?_⟩
 rintro i m σ H ⟨rfl,hi,p⟩
 by_cases hlt:i<n
 ·refine .inr ⟨hlt,Pv (i+1),fun σ' H' p'=>⟨n - (i+1),by omega,rfl,hlt,p'⟩,fun x H' y=> ?_⟩
  obtain⟨e,y⟩:=y
  subst e y
  exact hs i σ _ hlt p
 ·have e:i=n:=by omega
  subst e
  exact .inl ⟨Nat.le_refl _,hd σ H p⟩
end L2
namespace L2
open PySem PySem.Spec PyProof.Rows
abbrev R2:=V->V->Hp->VK->Prop
def OpR (X:Cx)(f:Value->Value->Sem Value)(r:R2):Prop:=
 ∀(pins:List (Addr × Obj)) (s:Shared) (σ:St) (H:Hp) (x y:V) (v u:Value) (Q:VK),Inv X pins σ H s->RelV x v->RelV y u->r x y H Q->
  wpAny (model X.prog X.w) X.A (f v u) (EP X pins σ Q) X.xe s
def UnR (X:Cx)(f:Value->Sem Value)(r:V->Hp->VK->Prop):Prop:=
 ∀(pins:List (Addr × Obj)) (s:Shared) (σ:St) (H:Hp) (x:V) (v:Value) (Q:VK),Inv X pins σ H s->RelV x v->r x H Q->
  wpAny (model X.prog X.w) X.A (f v) (EP X pins σ Q) X.xe s
def dl0 (X:Cx)(f:Value)(r:List V->Hp->VK->Prop):Prop:=
 ∀(pins:List (Addr × Obj)) (s:Shared) (σ:St) (H:Hp) (xs:List V) (us:List Value) (Q:VK),Inv X pins σ H s->Vals xs us->r xs H Q->
  wpAny (model X.prog X.w) X.A (call f us) (EP X pins σ Q) X.xe s
def TruR (X:Cx)(r:V->Hp->(Bool->Hp->Prop)->Prop):Prop:=
 ∀(pins:List (Addr × Obj)) (s:Shared) (σ:St) (H:Hp) (x:V) (v:Value) (Q:Bool->Hp->Prop),Inv X pins σ H s->RelV x v->r x H Q->
  wpAny (model X.prog X.w) X.A (truthy v) (TP X pins σ Q) X.xe s
def tOp (r:R2)(ta tb:TE):TE:=fun σ H Q=>ta σ H fun x H1=>tb σ H1 fun y H2=>r x y H2 Q
def tUn (r:V->Hp->VK->Prop)(ta:TE):TE:=fun σ H Q=>ta σ H fun x H1=>r x H1 Q
def rI (C:Int->Int->Prop)(g:Int->Int->V):R2:=fun x y H Q=>∃i j,x=.int i/\y=.int j/\C i j/\Q (g i j) H
def rI0 (g:Int->Int->V):R2:=fun x y H Q=>∃i j,x=.int i/\y=.int j/\Q (g i j) H
def rU (g:Int->V):V->Hp->VK->Prop:=fun x H Q=>∃i,x=.int i/\Q (g i) H
section
variable {X:Cx}{a b c:Expr}{ta tb tc:TE}{pos:Pos}
theorem binT (ha:PE X a ta)(hb:PE X b tb){pins:List (Addr × Obj)}{s:Shared}{σ:St}{H:Hp}{R:V->V->Hp->Prop}(I:Inv X pins σ H s)
  (h:ta σ H fun x H1=>tb σ H1 fun y H2=>R x y H2) {Q:Value->Shared->Prop} {f:Value->Value->Sem Value}
  (hf:∀v u s2 x y H2,Inv X pins σ H2 s2->RelV x v->RelV y u->R x y H2->wpAny (model X.prog X.w) X.A (f v u) Q X.xe s2):
  wpAny (model X.prog X.w) X.A (eval a X.env) (fun v s₁=>wpAny (model X.prog X.w) X.A (eval b X.env) (fun u s₂=>wpAny (model X.prog X.w) X.A (f v u) Q X.xe s₂) X.xe s₁) X.xe s:=by
 refine thn (ha pins s σ H _ I h) fun v s1 ⟨x,H1,I1,r1,q1⟩=> ?_
 refine thn (hb pins s1 σ H1 _ I1 q1) fun u s2 ⟨y,H2,I2,r2,q2⟩=> ?_
 exact hf v u s2 x y H2 I2 r1 r2 q2
theorem pe_op {op:Operator}{r:R2}(ho:OpR X (binaryOp op) r)(ha:PE X a ta)(hb:PE X b tb):PE X (.BinOp a op b pos) (tOp r ta tb):=by
 intro pins s σ H Q I h
 exact wpAny_BinOp (binT ha hb I h fun v u s2 x y H2 I2 rx ry q=>ho pins s2 σ H2 x y v u Q I2 rx ry q)
theorem pe_un {op:UnaryOp}{r:V->Hp->VK->Prop}(ho:UnR X (unaryOp op) r)(ha:PE X a ta):PE X (.UnaryOp op a pos) (tUn r ta):=by
 intro pins s σ H Q I h
 exact UnaryOp_ (thn (ha pins s σ H _ I h) fun v s1 ⟨x,H1,I1,r1,q1⟩=>ho pins s1 σ H1 x v Q I1 r1 q1)
theorem opI {f:Value->Value->Sem Value}{C:Int->Int->Prop}{g:Int->Int->Int}
  (rule:∀(i j:Int) (t u:Tok) (s:Shared) (Q:Value->Shared->Prop) (E:Value->Shared->Prop),C i j->Q (.int (g i j) s.toks) {s with toks:=s.toks+1}->wpAny (model X.prog X.w) X.A (f (.int i t) (.int j u)) Q E s):
  OpR X f (rI C fun i j=> .int (g i j)):=by
 intro pins s σ H x y v u Q I rx ry h
 obtain⟨i,j,rfl,rfl,hc,q⟩:=h
 obtain⟨t,rfl⟩:=rx
 obtain⟨t',rfl⟩:=ry
 exact rule i j t t' s _ _ hc ⟨.int (g i j),H,I.tok _,⟨_,rfl⟩,q⟩
theorem opI0 {f:Value->Value->Sem Value}{g:Int->Int->Int}
  (rule:∀(i j:Int) (t u:Tok) (s:Shared) (Q:Value->Shared->Prop) (E:Value->Shared->Prop),Q (.int (g i j) s.toks) {s with toks:=s.toks+1}->wpAny (model X.prog X.w) X.A (f (.int i t) (.int j u)) Q E s):
  OpR X f (rI0 fun i j=> .int (g i j)):=by
 intro pins s σ H x y v u Q I rx ry h
 obtain⟨i,j,rfl,rfl,q⟩:=h
 obtain⟨t,rfl⟩:=rx
 obtain⟨t',rfl⟩:=ry
 exact rule i j t t' s _ _ ⟨.int (g i j),H,I.tok _,⟨_,rfl⟩,q⟩
theorem opB0 {f:Value->Value->Sem Value}{g:Int->Int->Bool}
  (rule:∀(i j:Int) (t u:Tok) (s:Shared) (Q:Value->Shared->Prop) (E:Value->Shared->Prop),Q (.bool (g i j)) s->wpAny (model X.prog X.w) X.A (f (.int i t) (.int j u)) Q E s):
  OpR X f (rI0 fun i j=> .bl (g i j)):=by
 intro pins s σ H x y v u Q I rx ry h
 obtain⟨i,j,rfl,rfl,q⟩:=h
 obtain⟨t,rfl⟩:=rx
 obtain⟨t',rfl⟩:=ry
 exact rule i j t t' s _ _ ⟨.bl (g i j),H,I,rfl,q⟩
def CDiv (i j:Int):Prop:=0<j/\j<1073741824
def CMul (i j:Int):Prop:=(-(2^64)<i/\i<2^64)\/ (-(2^64)<j/\j<2^64)
theorem CMul.ok {i j:Int}(h:CMul i j):IntMulOk i j:=by
 rcases h with⟨h1,h2⟩|⟨h1,h2⟩
 ·exact .of_left (intBits_le_64 h1 h2)
 ·exact .of_right (intBits_le_64 h1 h2)
theorem pt0:OpR X (binaryOp .Add) (rI0 fun i j=> .int (i+j)):=opI0 fun _ _ _ _ _ _ _ q=>add_int q
theorem pl0:OpR X (binaryOp .Sub) (rI0 fun i j=> .int (i - j)):=opI0 fun _ _ _ _ _ _ _ q=>sub_int q
theorem pB0:OpR X (binaryOp .Mult) (rI CMul fun i j=> .int (i*j)):=opI fun _ _ _ _ _ _ _ hc q=>mul_int q hc.ok
theorem oC0:OpR X (binaryOp .FloorDiv) (rI CDiv fun i j=> .int (i / j)):=opI fun i j _ _ _ _ _ hc q=>by
 have h1:(0:Int)<j:=hc.1
 have h2:j<1073741824:=hc.2
 exact floordiv_int (by omega) (by rw [Int.fdiv_eq_ediv_of_nonneg i (by omega)]; exact q) (.inl (PyProof.noPylong_small (by omega)))
theorem pD0:OpR X (binaryOp .Mod) (rI (fun _ j=>0<j) fun i j=> .int (i%j)):=opI fun i j _ _ _ _ _ hc q=>by
 have h1:(0:Int)<j:=hc
 exact mod_int' (by omega) (by rw [Int.fmod_eq_emod_of_nonneg i (by omega)]; exact q)
theorem unI {f:Value->Sem Value}{g:Int->Int}
  (rule:∀(i:Int) (t:Tok) (s:Shared) (Q:Value->Shared->Prop) (E:Value->Shared->Prop),Q (.int (g i) s.toks) {s with toks:=s.toks+1}->wpAny (model X.prog X.w) X.A (f (.int i t)) Q E s):
  UnR X f (rU fun i=> .int (g i)):=by
 intro pins s σ H x v Q I rx h
 obtain⟨i,rfl,q⟩:=h
 obtain⟨t,rfl⟩:=rx
 exact rule i t s _ _ ⟨.int (g i),H,I.tok _,⟨_,rfl⟩,q⟩
theorem pI0:UnR X (unaryOp .USub) (rU fun i=> .int (-i)):=unI fun _ _ _ _ _ q=>neg_int q
end
def scal:V->V->Bool
 | .non,.non=>true| .non,.int _=>true| .int _,.non=>true| .non,.bl _=>true| .bl _,.non=>true| .non,.str _=>true| .str _,.non=>true
 | .int _,.int _=>true| .bl _,.bl _=>true| .str _,.str _=>true| .byt _,.byt _=>true
 | .int _,.str _=>true| .str _,.int _=>true| .bl _,.str _=>true| .str _,.bl _=>true
 |_,_=>false
def rEq:R2:=fun x y H Q=>scal x y=true/\Q (.bl (decide (x=y))) H
def rNe:R2:=fun x y H Q=>scal x y=true/\Q (.bl (!decide (x=y))) H
theorem jF0 {i j:Int}:decide (V.int i=V.int j)=(i==j):=by
 rw [Bool.eq_iff_iff]
 simp
theorem mU0 {i j:Bool}:decide (V.bl i=V.bl j)=(i==j):=by
 rw [Bool.eq_iff_iff]
 simp
theorem iI0 {i j:Str}:decide (V.str i=V.str j)=(i==j):=by
 rw [Bool.eq_iff_iff]
 simp
theorem kU0 {i j:Array UInt8}:decide (V.byt i=V.byt j)=(i.toList==j.toList):=by
 rw [Bool.eq_iff_iff]
 cases i
 cases j
 simp
section
variable {X:Cx}{a b c:Expr}{ta tb tc:TE}{pos:Pos}
theorem aS0 {pins:List (Addr × Obj)}{σ:St}{H:Hp}{s:Shared}{Q:VK}{k k':Bool}(I:Inv X pins σ H s)(q:Q (.bl k) H)(e:k=k'):EP X pins σ Q (.bool k') s:=by
 subst e
 exact⟨.bl k,H,I,rfl,q⟩
theorem op_eq:OpR X (compareOp .Eq) rEq:=by
 intro pins s σ H x y v u Q I rx ry h
 obtain⟨hs,q⟩:=h
 cases x with
 |non=>
  cases rx
  cases y with
  |non=>cases ry; exact PySem.EqNone.eq_none_none (aS0 I q (by simp))
  |bl j=>cases ry; exact PySem.EqNone.eq_none_bool (aS0 I q (by simp))
  |int j=>obtain⟨t',rfl⟩:=ry; exact PySem.EqNone.eq_none_int (aS0 I q (by simp))
  |str j=>obtain⟨t',rfl⟩:=ry; exact PySem.EqNone.eq_none_str (aS0 I q (by simp))
  |_=>exact absurd (show false=true from hs) Bool.false_ne_true
 |bl i=>
  cases rx
  cases y with
  |non=>cases ry; exact PySem.EqNone.eq_bool_none (aS0 I q (by simp))
  |bl j=>cases ry; exact eq_bool (aS0 I q mU0)
  |str j=>obtain⟨t',rfl⟩:=ry; exact PySem.EqMixed.eq_bool_str (aS0 I q (by simp))
  |_=>exact absurd (show false=true from hs) Bool.false_ne_true
 |int i=>
  obtain⟨t,rfl⟩:=rx
  cases y with
  |non=>cases ry; exact PySem.EqNone.eq_int_none (aS0 I q (by simp))
  |int j=>obtain⟨t',rfl⟩:=ry; exact eq_int (aS0 I q jF0)
  |str j=>obtain⟨t',rfl⟩:=ry; exact PySem.EqMixed.eq_int_str (aS0 I q (by simp))
  |_=>exact absurd (show false=true from hs) Bool.false_ne_true
 |str i=>
  obtain⟨t,rfl⟩:=rx
  cases y with
  |non=>cases ry; exact PySem.EqNone.eq_str_none (aS0 I q (by simp))
  |bl j=>cases ry; exact PySem.EqMixed.eq_str_bool (aS0 I q (by simp))
  |int j=>obtain⟨t',rfl⟩:=ry; exact PySem.EqMixed.eq_str_int (aS0 I q (by simp))
  |str j=>obtain⟨t',rfl⟩:=ry; exact eq_str (aS0 I q iI0)
  |_=>exact absurd (show false=true from hs) Bool.false_ne_true
 |byt i=>
  obtain⟨t,rfl⟩:=rx
  cases y with
  |byt j=>obtain⟨t',rfl⟩:=ry; exact PySem.W.eq_bytes (aS0 I q kU0)
  |_=>exact absurd (show false=true from hs) Bool.false_ne_true
 |_=>cases y<;>exact absurd (show false=true from hs) Bool.false_ne_true
theorem op_ne:OpR X (compareOp .NotEq) rNe:=by
 intro pins s σ H x y v u Q I rx ry h
 obtain⟨hs,q⟩:=h
 cases x with
 |non=>
  cases rx
  cases y with
  |non=>cases ry; exact PySem.EqNone.ne_none_none (aS0 I q (by simp))
  |bl j=>cases ry; exact PySem.EqNone.ne_none_bool (aS0 I q (by simp))
  |int j=>obtain⟨t',rfl⟩:=ry; exact PySem.EqNone.ne_none_int (aS0 I q (by simp))
  |str j=>obtain⟨t',rfl⟩:=ry; exact PySem.EqNone.ne_none_str (aS0 I q (by simp))
  |_=>exact absurd (show false=true from hs) Bool.false_ne_true
 |bl i=>
  cases rx
  cases y with
  |non=>cases ry; exact PySem.EqNone.ne_bool_none (aS0 I q (by simp))
  |bl j=>cases ry; exact ne_bool (aS0 I q (congrArg not mU0))
  |str j=>obtain⟨t',rfl⟩:=ry; exact PySem.EqMixed.ne_bool_str (aS0 I q (by simp))
  |_=>exact absurd (show false=true from hs) Bool.false_ne_true
 |int i=>
  obtain⟨t,rfl⟩:=rx
  cases y with
  |non=>cases ry; exact PySem.EqNone.ne_int_none (aS0 I q (by simp))
  |int j=>obtain⟨t',rfl⟩:=ry; exact ne_int (aS0 I q (congrArg not jF0))
  |str j=>obtain⟨t',rfl⟩:=ry; exact PySem.EqMixed.ne_int_str (aS0 I q (by simp))
  |_=>exact absurd (show false=true from hs) Bool.false_ne_true
 |str i=>
  obtain⟨t,rfl⟩:=rx
  cases y with
  |non=>cases ry; exact PySem.EqNone.ne_str_none (aS0 I q (by simp))
  |bl j=>cases ry; exact PySem.EqMixed.ne_str_bool (aS0 I q (by simp))
  |int j=>obtain⟨t',rfl⟩:=ry; exact PySem.EqMixed.ne_str_int (aS0 I q (by simp))
  |str j=>obtain⟨t',rfl⟩:=ry; exact ne_str (aS0 I q (congrArg not iI0))
  |_=>exact absurd (show false=true from hs) Bool.false_ne_true
 |byt i=>
  obtain⟨t,rfl⟩:=rx
  cases y with
  |byt j=>obtain⟨t',rfl⟩:=ry; exact PySem.W.ne_bytes (aS0 I q (congrArg not kU0))
  |_=>exact absurd (show false=true from hs) Bool.false_ne_true
 |_=>cases y<;>exact absurd (show false=true from hs) Bool.false_ne_true
theorem op_lt:OpR X (compareOp .Lt) (rI0 fun i j=> .bl (decide (i<j))):=opB0 fun _ _ _ _ _ _ _ q=>lt_int q
theorem mh0:OpR X (compareOp .LtE) (rI0 fun i j=> .bl (decide (i<=j))):=opB0 fun _ _ _ _ _ _ _ q=>le_int q
theorem op_gt:OpR X (compareOp .Gt) (rI0 fun i j=> .bl (decide (j<i))):=opB0 fun _ _ _ _ _ _ _ q=>gt_int q
theorem OpR.or {f:Value->Value->Sem Value}{r r':R2}(h:OpR X f r)(h':OpR X f r'):OpR X f (fun x y H Q=>r x y H Q\/ r' x y H Q):=by
 intro pins s σ H x y v u Q I rx ry q
 rcases q with q|q
 ·exact h pins s σ H x y v u Q I rx ry q
 ·exact h' pins s σ H x y v u Q I rx ry q
theorem dB0 (b:Expr){op:CmpOp}(h:op≠ .In:=by decide)(h2:op≠ .NotIn:=by decide):behindInMarks op b=false:=by
 have e1:(op==CmpOp.In)=false:=by cases op<;>first|rfl|exact absurd rfl h
 have e2:(op==CmpOp.NotIn)=false:=by cases op<;>first|rfl|exact absurd rfl h2
 cases b<;>simp [behindInMarks,e1,e2]
theorem jB0 {op:CmpOp}{r:R2}(ho:OpR X (compareOp op) r)(ha:PE X a ta)(hb:PE X b tb)(hm:behindInMarks op b=false):PE X (.Compare a [op] [b] pos) (tOp r ta tb):=by
 intro pins s σ H Q I h
 exact wpAny_Compare1 (binT ha hb I h fun v u s2 x y H2 I2 rx ry q=>ho pins s2 σ H2 x y v u Q I2 rx ry q) hm
def lB0 (t:TE):TT:=fun σ H Q=>t σ H fun x H'=>∃k,x=.bl k/\Q k H'
theorem fn0 {op:CmpOp}{r:R2}(ho:OpR X (compareOp op) r)(ha:PE X a ta)(hb:PE X b tb)(hm:behindInMarks op b=false):PT X (.Compare a [op] [b] pos) (lB0 (tOp r ta tb)):=by
 intro pins s σ H Q I h
 refine wpAny_isTrue_Compare1 (thn (ha pins s σ H _ I h) fun v s1 ⟨x,H1,I1,r1,q1⟩=>thn (hb pins s1 σ H1 _ I1 q1) fun u s2 ⟨y,H2,I2,r2,q2⟩=>
  thn (ho pins s2 σ H2 x y v u _ I2 r1 r2 q2) fun c s3 ⟨z,H3,I3,r3,k,e,q3⟩=> ?_) hm
 subst e
 cases r3
 exact wpAny_truthy_bool ⟨H3,I3,q3⟩
def iY0 (r r':R2)(ta tb tc:TE):TE:=fun σ H Q=>ta σ H fun x H1=>tb σ H1 fun y H2=>r x y H2 fun z H3=>∃k,z=.bl k/\
 (if k=true then tc σ H3 fun w' H4=>r' y w' H4 Q else Q (.bl false) H3)
theorem lR0 {op op':CmpOp}{r r':R2}(ho:OpR X (compareOp op) r)(ho':OpR X (compareOp op') r')(ha:PE X a ta)(hb:PE X b tb)(hc:PE X c tc)
  (hm:lastMarks [op,op'] [b,c]=false:=by with_unfolding_all rfl):PE X (.Compare a [op,op'] [b,c] pos) (iY0 r r' ta tb tc):=by
 intro pins s σ H Q I h
 refine Compare_chain (thn (ha pins s σ H _ I h) fun v s1 ⟨x,H1,I1,r1,q1⟩=>chain_link (thn (hb pins s1 σ H1 _ I1 q1) fun u s2 ⟨y,H2,I2,r2,q2⟩=>
  thn (ho pins s2 σ H2 x y v u _ I2 r1 r2 q2) fun d s3 ⟨z,H3,I3,r3,k,e,q3⟩=> ?_)) hm
 subst e
 cases r3
 refine wpAny_truthy_bool ?_
 cases k with
 |false=>exact ite_ff ⟨.bl false,H3,I3,rfl,q3⟩
 |true=>exact ite_tt (chain_last (thn (hc pins s3 σ H3 _ I3 q3) fun w' s4 ⟨z',H4,I4,r4,q4⟩=>ho' pins s4 σ H4 y z' u w' Q I4 r2 r4 q4))
theorem lz0 {op op':CmpOp}{r r':R2}(ho:OpR X (compareOp op) r)(ho':OpR X (compareOp op') r')(ha:PE X a ta)(hb:PE X b tb)(hc:PE X c tc)
  (hm:lastMarks [op,op'] [b,c]=false:=by with_unfolding_all rfl):PT X (.Compare a [op,op'] [b,c] pos) (lB0 (iY0 r r' ta tb tc)):=by
 intro pins s σ H Q I h
 refine isTrue_chain (thn (ha pins s σ H _ I h) fun v s1 ⟨x,H1,I1,r1,q1⟩=>test_link (thn (hb pins s1 σ H1 _ I1 q1) fun u s2 ⟨y,H2,I2,r2,q2⟩=>
  thn (ho pins s2 σ H2 x y v u _ I2 r1 r2 q2) fun d s3 ⟨z,H3,I3,r3,k,e,q3⟩=> ?_)) hm
 subst e
 cases r3
 refine wpAny_truthy_bool ?_
 cases k with
 |false=>
  obtain⟨k',e',q'⟩:=q3
  cases e'
  exact ite_ff ⟨H3,I3,q'⟩
 |true=>
  refine ite_tt (test_last (thn (hc pins s3 σ H3 _ I3 q3) fun w' s4 ⟨z',H4,I4,r4,q4⟩=>thn (ho' pins s4 σ H4 y z' u w' _ I4 r2 r4 q4) fun d' s5 ⟨z2,H5,I5,r5,k2,e2,q5⟩=> ?_))
  subst e2
  cases r5
  exact wpAny_truthy_bool ⟨H5,I5,q5⟩
def TruV (K:PySem.W.Frag)(x:V)(H:Hp)(k:Bool):Prop:=
 match x with
 | .non=>k=false
 | .bl b=>k=b
 | .int i=>k=(i !=0)
 | .str y=>y.length<=sizeLine/\k=((y.length:Int) !=0)
 | .byt y=>y.size<=sizeLine/\k=((y.size:Int) !=0)
 | .ref p=>(∃xs,SqL K H p xs/\k= !xs.isEmpty)\/ (∃xs,SqT K H p xs/\k= !xs.isEmpty)\/ ∃kvs,H p=some (.dK kvs)/\k= !kvs.isEmpty
 |_=>False
theorem iy0 {κ:Type}{kvs:List (κ × V)}{vs:List (κ × Value)}(r:KV kvs vs):(!vs.isEmpty)= !kvs.isEmpty:=by
 cases r<;>rfl
theorem eE0 {xs:List V}{its:List Value}(r:Vals xs its):(!its.toArray.isEmpty)= !xs.isEmpty:=by
 cases r<;>simp
theorem eW0:(sizeLine:Nat)<2^63:=by rw [sizeLine_eq]; decide
theorem oL0:TruR X (fun x H Q=>∃k,TruV X.K x H k/\Q k H):=by
 intro pins s σ H x v Q I rx h
 obtain⟨k,e,q⟩:=h
 have hl:=eW0
 have hs:sizeLine=16777216:=sizeLine_eq
 cases x with
 |non=>
  cases rx
  have e':k=false:=e
  subst e'
  exact truthy_none ⟨H,I,q⟩
 |bl b=>
  cases rx
  have e':k=b:=e
  subst e'
  exact wpAny_truthy_bool ⟨H,I,q⟩
 |int i=>
  obtain⟨t,rfl⟩:=rx
  have e':k=(i !=0):=e
  subst e'
  exact PySem.P.truthy_int ⟨H,I,q⟩
 |str y=>
  obtain⟨t,rfl⟩:=rx
  obtain⟨hy,e'⟩:y.length<=sizeLine/\k=((y.length:Int) !=0):=e
  subst e'
  exact PySem.P.truthy_str (by omega) ⟨H,I.tok _,q⟩
 |byt y=>
  obtain⟨t,rfl⟩:=rx
  obtain⟨hy,e'⟩:y.size<=sizeLine/\k=((y.size:Int) !=0):=e
  subst e'
  exact PySem.W.truthy_bytes (by omega) ⟨H,I.tok _,q⟩
 |ref p=>
  cases rx
  have e':(∃xs,SqL X.K H p xs/\k= !xs.isEmpty)\/ (∃xs,SqT X.K H p xs/\k= !xs.isEmpty)\/ ∃kvs,H p=some (.dK kvs)/\k= !kvs.isEmpty:=e
  rcases e' with⟨xs,hx,e'⟩|⟨xs,hx,e'⟩|⟨kvs,hx,e'⟩
  ·subst e'
   obtain⟨its,r,pl,hz⟩:=I.list hx
   have hlen:=r.length
   exact wpAny_truthy_list pl.isList (by simp only [List.size_toArray]; omega) ⟨H,I.tok _,by rw [eE0 r]; exact q⟩
  ·subst e'
   obtain⟨its,r,pl,hz⟩:=I.tuple hx
   have hlen:=r.length
   exact truthy_tuple pl (by simp only [List.size_toArray]; omega) ⟨H,I.tok _,by rw [eE0 r]; exact q⟩
  ·subst e'
   obtain⟨hz,hS,vs,r,m⟩:kvs.length<=sizeLine/\(p==sysModules)=false/\∃vs,KV kvs vs/\s.heap.DictOf (aN0 X.prog X.w) p vs:=I.hok p _ hx
   have hlen:kvs.length=vs.length:=Paired.length r
   exact wpAny_truthy_dict hS m (by omega) ⟨H,I.tok _,by rw [iy0 r]; exact q⟩
 |_=>exact(show False from e).elim
theorem lL0 (ha:PE X a ta)(he:∀whole,isTrue a X.env whole=(do let v<- whole; standAt a.pos; holding [v] (truthy v))):
  PT X a (fun σ H Q=>ta σ H fun x H'=>∃k,TruV X.K x H' k/\Q k H'):=by
 intro pins s σ H Q I h
 exact isTrue_plain (thn (ha pins s σ H _ I h) fun v s1 ⟨x,H1,I1,r1,q1⟩=>oL0 pins s1 σ H1 x v Q I1 r1 q1) (he _)
theorem gr0 {x:V}{us:List Value}(r:Vals [x] us):∃u,us=[u]/\RelV x u:=by
 cases r with
 |cons r1 r2=>cases r2; exact⟨_,rfl,r1⟩
theorem lu0 {x y:V}{us:List Value}(r:Vals [x,y] us):∃u w',us=[u,w']/\RelV x u/\RelV y w':=by
 cases r with
 |cons r1 r2=>
  cases r2 with
  |cons r3 r4=>cases r4; exact⟨_,_,rfl,r1,r3⟩
theorem jU0 (hc:X.calm=true):dl0 X (.builtin "max") (fun xs H Q=>∃i j,xs=[.int i,.int j]/\Q (.int (if j>i then j else i)) H):=by
 intro pins s σ H xs us Q I r h
 obtain⟨i,j,rfl,q⟩:=h
 obtain⟨u,w',rfl,⟨t,rfl⟩,⟨t',rfl⟩⟩:=lu0 r
 refine max_two_ints (I.ok.hd hc) fun h' tk k=>⟨_,H,I.kept k,?_,q⟩
 by_cases hj:j>i
 ·rw [if_pos hj,if_pos hj]; exact⟨_,rfl⟩
 ·rw [if_neg hj,if_neg hj]; exact⟨_,rfl⟩
theorem kP0 (hc:X.calm=true):dl0 X (.builtin "min") (fun xs H Q=>∃i j,xs=[.int i,.int j]/\Q (.int (if j<i then j else i)) H):=by
 intro pins s σ H xs us Q I r h
 obtain⟨i,j,rfl,q⟩:=h
 obtain⟨u,w',rfl,⟨t,rfl⟩,⟨t',rfl⟩⟩:=lu0 r
 refine min_two_ints (I.ok.hd hc) fun h' tk k=>⟨_,H,I.kept k,?_,q⟩
 by_cases hj:j<i
 ·rw [if_pos hj,if_pos hj]; exact⟨_,rfl⟩
 ·rw [if_neg hj,if_neg hj]; exact⟨_,rfl⟩
def LenV (K:PySem.W.Frag)(x:V)(H:Hp)(n:Nat):Prop:=
 match x with
 | .str y=>y.length<=sizeLine/\n=y.length
 | .byt y=>y.size<=sizeLine/\n=y.size
 | .ref p=>(∃xs,SqL K H p xs/\n=xs.length)\/ ∃xs,SqT K H p xs/\n=xs.length
 |_=>False
theorem mu0:dl0 X (.builtin "len") (fun xs H Q=>∃x n,xs=[x]/\LenV X.K x H n/\Q (.int n) H):=by
 intro pins s σ H xs us Q I r h
 obtain⟨x,n,rfl,e,q⟩:=h
 obtain⟨u,rfl,rx⟩:=gr0 r
 have hl:=eW0
 have hs:sizeLine=16777216:=sizeLine_eq
 cases x with
 |str y=>
  obtain⟨t,rfl⟩:=rx
  obtain⟨hy,e'⟩:y.length<=sizeLine/\n=y.length:=e
  subst e'
  exact len_str (by omega) ⟨.int _,H,I.tok _,⟨_,rfl⟩,q⟩
 |byt y=>
  obtain⟨t,rfl⟩:=rx
  obtain⟨hy,e'⟩:y.size<=sizeLine/\n=y.size:=e
  subst e'
  exact PySem.W.len_bytes (by omega) ⟨.int _,H,I.tok _,⟨_,rfl⟩,q⟩
 |ref p=>
  cases rx
  have e':(∃xs,SqL X.K H p xs/\n=xs.length)\/ ∃xs,SqT X.K H p xs/\n=xs.length:=e
  rcases e' with⟨xs,hx,e'⟩|⟨xs,hx,e'⟩
  ·subst e'
   obtain⟨its,r',pl,hz⟩:=I.list hx
   have hlen:=r'.length
   exact Calls.call_len_list pl.isList (by simp only [List.size_toArray]; omega) ⟨.int xs.length,H,I.tok _,⟨_,by simp only [List.size_toArray]; rw [hlen]⟩,q⟩
  ·subst e'
   obtain⟨its,r',pl,hz⟩:=I.tuple hx
   have hlen:=r'.length
   exact len_tuple pl (by simp only [List.size_toArray]; omega) ⟨.int xs.length,H,I.tok _,⟨_,by simp only [List.size_toArray]; rw [hlen]⟩,q⟩
 |_=>exact(show False from e).elim
end
end L2
namespace L2
open PySem PySem.Spec PyProof.Rows
structure ObjM (h:Heap)(x dx C:Addr)(mA:Str->Option Value):Prop where
 obj:h.get? x=some (PySem.W.instObj C dx)
 ns:h.Ns1 dx mA
 ne:dx≠x
theorem jD0 {h:Heap}{dx:Addr}{mA:Str->Option Value}(n:h.Ns1 dx mA):∃od,h.get? dx=some od/\∀name,PySem.W.lookIn name od=some (mA name):=by
 obtain⟨o,es,ep,ho,hd,hk,_,hm⟩:=n
 refine⟨o,ho,fun name=> ?_⟩
 have e:=hm name
 unfold nsFind findBy at e
 rw [<- Array.find?_toList] at e
 unfold PySem.W.lookIn
 rw [hd]
 dsimp only
 split
 ·rename_i y q
  rw [q] at e
  exact congrArg some e
 ·rename_i q
  rw [q] at e
  have a:es.toList.any (·.refKey)=false:=by
   rw [List.any_eq_false]
   intro y hy
   obtain⟨z,t,hkey⟩:=hk y (Array.mem_toList_iff.mp hy)
   simp [DictEntry.refKey,hkey]
  have a':¬es.toList.any (·.refKey)=true:=by rw [a]; exact Bool.false_ne_true
  rw [if_neg a']
  exact congrArg some e
theorem ObjM.look {h:Heap}{x dx C:Addr}{mA:Str->Option Value}(I:ObjM h x dx C mA):∃od,PySem.W.InstAt h x (PySem.W.instObj C dx) C (some od)/\∀name,PySem.W.lookIn name od=some (mA name):=
 let ⟨od,ho,hl⟩:=jD0 I.ns
 ⟨od,⟨I.obj,rfl,rfl,ho⟩,hl⟩
section
variable {prog:Program}{w:World}{A:Around}{E:Value->Shared->Prop}{s:Shared}{K:PySem.W.Frag}{x dx C f:Addr}{mA:Str->Option Value}{name:Str}{v:Value}
theorem oe0 {expr:Bool}{Q:Value->Shared->Prop}(X:K.In s.heap)(I:ObjM s.heap x dx C mA)(hg:PySem.W.plainGet K C name=true)(hh:PySem.W.hasDictIn K C=true)
  (ha:PySem.W.findIn K (.ref C) name=some none) (hv:mA name=some v) (hv':PySem.W.handedIn v=true) (h:Q v {s with toks:=s.toks+1}):
  wpAny (model prog w) A (getAttr (.ref x) name expr) Q E s:=by
 obtain⟨od,J,hl⟩:=I.look
 exact PySem.W.get_value X J (PySem.W.plainGet_of hg).1 (PySem.W.findObj_own hh ha rfl (by rw [hl,hv])) hv' h
theorem lC0 {pl:Sem Bool}{Q:Value × List Value->Shared->Prop}(X:K.In s.heap)(I:ObjM s.heap x dx C mA)(hg:PySem.W.plainGet K C name=true)
  (hf:PySem.W.findIn K (.ref C) name=some (some (.ref f))) (ht:PySem.W.isFn K (.ref f)=true) (hv:mA name=none) (h:Q (.ref f,[.ref x]) s):
  wpAny (model prog w) A (getMethod (.ref x) name pl) Q E s:=by
 obtain⟨od,J,hl⟩:=I.look
 exact PySem.W.method_fn X J (PySem.W.plainGet_of hg).1 (PySem.W.plainGet_of hg).2 hf (beq_iff_eq.mp ht) (by show (PySem.W.lookIn name od).map (·.isSome)=some false; rw [hl,hv]; rfl) h
theorem op0 {ns:List Str}{Q:Unit->Shared->Prop}(X:K.In s.heap)(I:ObjM s.heap x dx C mA)
  (hs:PySem.W.findIn K (.ref C) "__setattr__" =some (some (.builtin "object.__setattr__"))) (hp:PySem.W.plainOver K C=true) (ht:PySem.W.takerIn K C name=some none) (hh:PySem.W.hasDictIn K C=true)
  (hw:PySem.Within mA ns) (hsz:ns.length<=sizeLine)
  (h:∀h',ObjM h' x dx C (fun y=>if y=name then some v else mA y)->Heap.SameBut dx s.heap h'->Q () {s with heap:=h',toks:=s.toks+2}):
  wpAny (model prog w) A (setAttr (.ref x) name v) Q E s:=by
 obtain⟨od,J,hl⟩:=I.look
 refine PySem.W.set_plain X J hs (PySem.W.osa_open (s:={s with toks:=s.toks+1}) (r:=none) X J hp ht fun b=> ?_)
 obtain⟨cd,hc,hd'⟩:=PySem.W.any_some hh
 have hx:s.heap.get? x=some ⟨.ref C,some dx,.plain,#[]⟩:=I.obj
 refine wpAny_bind (wpAny_pure (wpAny_bind (wpAny_bind (wpAny_loadPart hx (wpAny_bind (PySem.W.Looks.here (s:={s with toks:=s.toks+1}) (PySem.W.looks_clsIn X hc) ?_))))))
 rw [hd']
 refine wpAny_pure (a:=some dx) (wpAny_bind (wpAny_pure (wpAny_bind ?_)))
 refine wpAny_nsSet1 (s:={s with toks:=s.toks+1}) I.ns fun h' hn2 hs2=> ?_
 obtain⟨oD,esD,epD,hoD,hdD,hcD⟩:=hn2.count (PySem.Within.cons name v hw)
 refine wpAny_bind (wpAny_lookBehind hoD (by rw [hdD]; exact pastItsLine_dict (Nat.le_trans hcD (by rw [List.length_cons]; omega))) ?_)
 exact wpAny_pure (h _ ⟨(hs2.2 _ (Ne.symm I.ne)).trans I.obj,hn2,I.ne⟩ hs2)
theorem mb0 {R:Result->Shared->Prop}{vs:List Value}{kw:List (Str × Value)}(X:K.In s.heap)(hm:PySem.W.makesIn K C=true)
  (hi:PySem.W.findIn K (.ref C) "__init__" =some (some (.ref f))) (hf:PySem.W.typeIn K (.ref f)=some (.type "function"))
  (h:codeAny (model prog w) (A.under (.builtin "type.__call__" ⟨.ref C::vs,kw⟩)) (.call (.ref f) ⟨.ref (s.heap.objs.size+1)::vs,kw⟩) (PySem.W.InitBack (s.heap.objs.size+1) R)
   {s with heap:=(s.heap.push PySem.W.emptyDict).push (PySem.W.instObj C s.heap.objs.size)}):
  codeAny (model prog w) A (.call (.ref C) ⟨vs,kw⟩) R s:=by
 obtain⟨hh,g,d,t,os⟩:=s
 exact PySem.W.make_core (PySem.W.makes_of X hm) (PySem.W.looks_findIn X hi) (fun self=>PySem.W.bind_fn X self hf) (.inl rfl) h
end
def putF (f:Str)(v:V):List (Str × V)->List (Str × V)
 | []=> [(f,v)]
 | (g,x)::r=>if g=f then(g,v)::r else(g,x)::putF f v r
theorem ei0 (f g:Str)(v:V):∀fs:List (Str × V),(putF f v fs).lookup g=if g=f then some v else fs.lookup g
 | []=>by
  show List.lookup g [(f,v)]=_
  by_cases h:g=f
  ·have hb:(g==f)=true:=beq_iff_eq.mpr h
   simp only [List.lookup,hb,if_pos h]
  ·have hb:(g==f)=false:=beq_eq_false_iff_ne.mpr h
   simp only [List.lookup,hb,if_neg h]
 | (k,x)::r=>by
  have ih:=ei0 f g v r
  rw [show putF f v ((k,x)::r)=(if k=f then(k,v)::r else(k,x)::putF f v r) from rfl]
  by_cases hk:k=f
  ·rw [if_pos hk]
   by_cases h:g=k
   ·have hb:(g==k)=true:=beq_iff_eq.mpr h
    simp only [List.lookup,hb,if_pos (h.trans hk)]
   ·have hb:(g==k)=false:=beq_eq_false_iff_ne.mpr h
    simp only [List.lookup,hb,if_neg (fun e:g=f=>h (e.trans hk.symm))]
  ·rw [if_neg hk]
   by_cases h:g=k
   ·have hb:(g==k)=true:=beq_iff_eq.mpr h
    simp only [List.lookup,hb,if_neg (fun e:g=f=>hk (h.symm.trans e))]
   ·have hb:(g==k)=false:=beq_eq_false_iff_ne.mpr h
    simp only [List.lookup,hb]
    exact ih
theorem eq0 (f:Str)(v:V):∀fs:List (Str × V),f∈(putF f v fs).map (·.1)/\∀g,g∈fs.map (·.1)->g∈(putF f v fs).map (·.1)
 | []=>⟨by simp [putF],fun g h=>by simp at h⟩
 | (k,x)::r=>by
  obtain⟨i1,i2⟩:=eq0 f v r
  rw [show putF f v ((k,x)::r)=(if k=f then(k,v)::r else(k,x)::putF f v r) from rfl]
  by_cases hk:k=f
  ·rw [if_pos hk]
   subst hk
   exact⟨by simp,fun g h=>by simpa using h⟩
  ·rw [if_neg hk]
   refine⟨?_,fun g h=> ?_⟩
   ·rw [List.map_cons]
    exact List.mem_cons_of_mem _ i1
   ·rw [List.map_cons] at h ⊢
    rcases List.mem_cons.mp h with e|e
    ·exact List.mem_cons.mpr (.inl e)
    ·exact List.mem_cons_of_mem _ (i2 g e)
theorem eg0 (f:Str)(v:V):∀fs:List (Str × V),(putF f v fs).length<=fs.length+1
 | []=>by simp [putF]
 | (k,x)::r=>by
  have ih:=eg0 f v r
  rw [show putF f v ((k,x)::r)=(if k=f then(k,v)::r else(k,x)::putF f v r) from rfl]
  by_cases hk:k=f
  ·rw [if_pos hk,List.length_cons,List.length_cons]; omega
  ·rw [if_neg hk,List.length_cons,List.length_cons]; omega
theorem RelO.some_of {v:V}{o:Option Value}(r:RelO (some v) o):∃u,o=some u/\RelV v u:=by
 cases o with
 |none=>exact(show False from r).elim
 |some u=>exact⟨u,rfl,r⟩
theorem RelO.none_of {o:Option Value}(r:RelO none o):o=none:=by
 cases o with
 |none=>rfl
 |some u=>exact(show False from r).elim
theorem kt0 {v:V}{u:Value}(r:RelV v u):PySem.W.handedIn u=true:=by
 cases v with
 |non=>cases (show u=Value.none from r); rfl
 |bl b=>cases (show u=Value.bool b from r); rfl
 |int i=>obtain⟨t,e⟩:=(show∃t,u=Value.int i t from r); cases e; rfl
 |str x=>obtain⟨t,e⟩:=(show∃t,u=Value.str x t from r); cases e; rfl
 |byt b=>obtain⟨t,e⟩:=(show∃t,u=Value.bytes b t from r); cases e; rfl
 |flt b=>obtain⟨t,e⟩:=(show∃t,u=Value.float b t from r); cases e; rfl
 |ref a=>cases (show u=Value.ref a from r); rfl
 |ty n=>cases (show u=Value.type n from r); rfl
section
variable {P:Program}{w:World}{H H':Hp}{h h':Heap}{a C dx:Addr}{fs fs':List (Str × V)}
theorem fd0 (hok:HOk P w H h)(e:H a=some (.ins C dx fs)):∃mA,ObjM h a dx C mA/\(∀f,RelO (fs.lookup f) (mA f))/\PySem.Within mA (fs.map (·.1))/\fs.length<=1000/\H dx=some (.own a):=by
 obtain⟨d,z,ne,ob,mA,n,r,q⟩:=(show ObjOk P w H h a (.ins C dx fs) from hok a _ e)
 exact⟨mA,⟨ob,n,ne⟩,r,q,z,d⟩
end
structure Cls (K:PySem.W.Frag)(C:Addr):Prop where
 pg:PySem.W.plainGet K C Str.empty=true
 hd:PySem.W.hasDictIn K C=true
 po:PySem.W.plainOver K C=true
 sa:PySem.W.findIn K (.ref C) "__setattr__" =some (some (.builtin "object.__setattr__"))
theorem Cls.get {K:PySem.W.Frag}{C:Addr}(c:Cls K C)(f:Str):PySem.W.plainGet K C f=true:=c.pg
def NoAttr (K:PySem.W.Frag)(C:Addr)(f:Str):Prop:=PySem.W.findIn K (.ref C) f=some none
theorem NoAttr.taker {K:PySem.W.Frag}{C:Addr}{f:Str}(n:NoAttr K C f):PySem.W.takerIn K C f=some none:=by
 unfold PySem.W.takerIn
 rw [show PySem.W.findIn K (.ref C) f=some none from n]
 rfl
structure Meth (K:PySem.W.Frag)(C:Addr)(m:Str)(f:Addr):Prop where
 at_:PySem.W.findIn K (.ref C) m=some (some (.ref f))
 fn:PySem.W.isFn K (.ref f)=true
 kp:PySem.W.keepIn K (.ref f)=true
section
variable {X:Cx}{pins:List (Addr × Obj)}{σ:St}{H:Hp}{s:Shared}{a C dx:Addr}{fs:List (Str × V)}{f:Str}{v:V}{A:Around}{E:Value->Shared->Prop}
theorem iz0 {b:Bool}{Q:Value->Shared->Prop}(I:Inv X pins σ H s)(e:H a=some (.ins C dx fs))(c:Cls X.K C)(n:NoAttr X.K C f)(l:fs.lookup f=some v)
  (h:∀u s',Inv X pins σ H s'->RelV v u->Q u s'):wpAny (model X.prog X.w) A (getAttr (.ref a) f b) Q E s:=by
 obtain⟨mA,O,r,_,_,_⟩:=fd0 I.hok e
 obtain⟨u,hu,ru⟩:=RelO.some_of (v:=v) (o:=mA f) (by rw [<- l]; exact r f)
 exact oe0 I.kIn O (c.get f) c.hd n hu (kt0 ru) (h u _ (I.tok _) ru)
theorem dw0 {m:Str}{g:Addr}{pl:Sem Bool}{Q:Value × List Value->Shared->Prop}(I:Inv X pins σ H s)(e:H a=some (.ins C dx fs))(c:Cls X.K C)(k:Meth X.K C m g)(l:fs.lookup m=none)
  (h:Q (.ref g,[.ref a]) s):wpAny (model X.prog X.w) A (getMethod (.ref a) m pl) Q E s:=by
 obtain⟨mA,O,r,_,_,_⟩:=fd0 I.hok e
 have hn:mA m=none:=RelO.none_of (by rw [<- l]; exact r m)
 exact lC0 I.kIn O (c.get m) k.at_ k.fn hn h
theorem iq0 {y:V}{u:Value}{Q:Unit->Shared->Prop}(I:Inv X pins σ H s)(e:H a=some (.ins C dx fs))(c:Cls X.K C)(n:NoAttr X.K C f)(hl:fs.length<1000)(ry:RelV y u)
  (h:∀s',Inv X pins σ (upd H a (.ins C dx (putF f y fs))) s'->Q () s'):wpAny (model X.prog X.w) A (setAttr (.ref a) f u) Q E s:=by
 obtain⟨mA,O,r,wi,_,ho⟩:=fd0 I.hok e
 have hz:(fs.map (·.1)).length<=sizeLine:=by rw [List.length_map,sizeLine_eq]; omega
 refine op0 I.kIn O c.sa c.po n.taker c.hd wi hz fun h' O' sb=>h _ ?_
 have hd:∃o,h'.get? dx=some o:=let ⟨o,_,_,e',_⟩:=O'.ns; ⟨o,e'⟩
 refine I.write (x:=a) (e:=dx) (by rw [e]; exact True.intro) (.inr ho) (fun b q hb z=>(sb.2 b hb).trans z) hd ?_
 refine⟨by rw [ah0 O.ne]; exact ho,?_,O.ne,O'.obj,_,O'.ns,fun g=> ?_,fun g hg=> ?_⟩
 ·have:=eg0 f y fs; omega
 ·show RelO ((putF f y fs).lookup g) (if g=f then some u else mA g)
  rw [ei0]
  by_cases q:g=f
  ·rw [if_pos q,if_pos q]; exact ry
  ·rw [if_neg q,if_neg q]; exact r g
 ·by_cases q:g=f
  ·rw [q]; exact(eq0 f y fs).1
  ·refine(eq0 f y fs).2 g (wi g fun z=>hg ?_)
   show (if g=f then some u else mA g)=none
   rw [if_neg q]; exact z
theorem Inv.made (I:Inv X pins σ H s):Inv X pins σ (upd (upd H s.heap.objs.size (.own (s.heap.objs.size+1))) (s.heap.objs.size+1) (.ins C s.heap.objs.size []))
  {s with heap:=(s.heap.push PySem.W.emptyDict).push (PySem.W.instObj C s.heap.objs.size)}:=by
 have e1:(s.heap.push PySem.W.emptyDict).get? s.heap.objs.size=some PySem.W.emptyDict:=Heap.get?_push_size s.heap rfl
 have e2:((s.heap.push PySem.W.emptyDict).push (PySem.W.instObj C s.heap.objs.size)).get? (s.heap.objs.size+1)=some (PySem.W.instObj C s.heap.objs.size):=by
  have:=Heap.get?_push_size (s.heap.push PySem.W.emptyDict) (o:=PySem.W.instObj C s.heap.objs.size) rfl
  rwa [Heap.size_push] at this
 have e3:(s.heap.push PySem.W.emptyDict).Ns s.heap.objs.size (fun _=>none):=⟨PySem.W.emptyDict,#[],_,e1,rfl,(fun e he=>absurd he (by simp)),fun _=>rfl⟩
 have I1:=I.laid (a:=s.heap.objs.size) (o:=.own (s.heap.objs.size+1)) (h':=s.heap.push PySem.W.emptyDict) (t':=s.toks) (fun b u q=>Heap.get?_push_of_some _ q) (Nat.le_refl _) ⟨_,e1⟩
 refine I1.laid (a:=s.heap.objs.size+1) (o:=.ins C s.heap.objs.size []) (t':=s.toks) (fun b u q=>Heap.get?_push_of_some _ q) (Nat.le_of_eq (Heap.size_push _ _)) ?_
 have ne:s.heap.objs.size≠s.heap.objs.size+1:=Nat.ne_of_lt (Nat.lt_succ_self _)
 refine⟨by rw [ah0 ne,ai0],Nat.zero_le _,ne,e2,fun _=>none,(Heap.Ns1.of_empty e3).at fun o q=>Heap.get?_push_of_some _ q,fun _=>True.intro,fun y hy=>absurd rfl hy⟩
theorem ow0 {prog:Program}{w:World}{env:Env}{e:Expr}{f:Str}{pos:Pos}{s:Shared}{Q:Value->Shared->Prop}(hb:attributeBase e f env (eval e env)=eval e env)
  (h:wpAny (model prog w) A (eval e env) (fun o s₁=>wpAny (model prog w) A (getAttr o f true) Q E s₁) E s):wpAny (model prog w) A (eval (.Attribute e f pos) env) Q E s:=
 Attribute_any_ h (by rw [arm_eval_Attribute,hb])
end
def tFld (K:PySem.W.Frag)(ta:TE)(f:Str):TE:=fun σ H Q=>ta σ H fun x H1=>∃a C dx fs v,x=.ref a/\H1 a=some (.ins C dx fs)/\Cls K C/\NoAttr K C f/\fs.lookup f=some v/\Q v H1
def sFld (K:PySem.W.Frag)(ta tv:TE)(f:Str):TS:=fun D σ H=>tv σ H fun y H1=>ta σ H1 fun x H2=>∃a C dx fs,x=.ref a/\H2 a=some (.ins C dx fs)/\Cls K C/\NoAttr K C f/\fs.length<1000/\
 D.nx σ (upd H2 a (.ins C dx (putF f y fs)))
section
variable {X:Cx}{o e value:Expr}{f:Str}{pos pos' tpos:Pos}{ta tv:TE}
theorem bF0 (he:PE X e ta)(hb:attributeBase e f X.env (eval e X.env)=eval e X.env):PE X (.Attribute e f pos) (tFld X.K ta f):=by
 intro pins s σ H Q I h
 refine ow0 hb (thn (he pins s σ H _ I h) fun u s1 ⟨x,H1,I1,rx,a,C,dx,fs,v,ex,ea,c,n,l,q⟩=> ?_)
 subst ex
 obtain rfl:u=Value.ref a:=rx
 exact iz0 I1 ea c n l fun u' s2 I2 ru=>⟨v,H1,I2,ru,q⟩
theorem eX0 (ha:PE X o ta)(hv:PE X value tv)(hs:swapsWith value (some (.Attribute o f pos')) pos.line X.env=pure false):PS X (.Assign [.Attribute o f pos'] value pos) (sFld X.K ta tv f):=by
 intro pins s σ H D I h
 refine plainObj_wpAny_Assign_Attribute (thn (hv pins s σ H _ I h) fun u s1 ⟨y,H1,I1,ry,q⟩=>thn (ha pins s1 σ H1 _ I1 q) fun ov s2 ⟨x,H2,I2,rx,a,C,dx,fs,ex,ea,c,n,l,q2⟩=> ?_) hs
 subst ex
 obtain rfl:ov=Value.ref a:=rx
 exact iq0 I2 ea c n l ry fun s3 I3=>⟨σ,_,I3,q2⟩
theorem od0 {pl:Sem Bool}{m:Str}{apos:Pos}{args:List Expr}{pins:List (Addr × Obj)}{s:Shared}{σ:St}{H:Hp}{Q:Value->Shared->Prop}{te:TE}(he:PE X e te)(I:Inv X pins σ H s)
  (h:te σ H fun x H1=>∃a C dx fs g,x=.ref a/\H1 a=some (.ins C dx fs)/\Cls X.K C/\Meth X.K C m g/\fs.lookup m=none/\
   ∀s1,Inv X pins σ H1 s1->wpAny (model X.prog X.w) X.A (callWith pos (.ref g) [.ref a] (backTo pos (starEach args X.env)) (backToKw pos (keywordEach [] X.env))) Q X.xe s1)
  (ht:eval (.Call (.Attribute e m apos) args [] pos) X.env=(do
   let ov<- eval e X.env
   standAt apos.atName
   let (f,first)<- holding [ov] (getMethod ov m pl)
   callWith pos f first (backTo pos (starEach args X.env)) (backToKw pos (keywordEach [] X.env)))):
  wpAny (model X.prog X.w) X.A (eval (.Call (.Attribute e m apos) args [] pos) X.env) Q X.xe s:=by
 refine PySem.W.methodCall_KW (pl:=pl) (thn (he pins s σ H _ I h) fun u s1 ⟨x,H1,I1,rx,a,C,dx,fs,g,ex,ea,c,k,l,q⟩=> ?_) ht
 subst ex
 obtain rfl:u=Value.ref a:=rx
 exact dw0 I1 ea c k l (q s1 I1)
end
section
variable {X:Cx}{pins:List (Addr × Obj)}{σ:St}{H:Hp}{s:Shared}{A:Around}{E:Value->Shared->Prop}{Q:Value->Shared->Prop}{c:Value}{b:Bool}
inductive TyOf (K:PySem.W.Frag) (H:Hp):V->Value->Prop where
 |non:TyOf K H .non (.type "NoneType")
 |bl (x:Bool):TyOf K H (.bl x) (.type "bool")
 |int (i:Int):TyOf K H (.int i) (.type "int")
 |str (x:Str):TyOf K H (.str x) (.type "str")
 |flt (x:UInt64):TyOf K H (.flt x) (.type "float")
 |lst {a:Addr} {xs:List V} (e:H a=some (.lst xs)):TyOf K H (.ref a) (.type "list")
 |frz {a:Addr} {o:Obj} {xs:List V} (e:H a=some (.frz o (.lst xs))):TyOf K H (.ref a) (.type "list")
 |tup {a:Addr} {xs:List V} (e:H a=some (.tup xs)):TyOf K H (.ref a) (.type "tuple")
 |dK {a:Addr} {kvs:List (Key × V)} (e:H a=some (.dK kvs)):TyOf K H (.ref a) (.type "dict")
 |dT {a:Addr} {kvs:List (SK × V)} (e:H a=some (.dT kvs)):TyOf K H (.ref a) (.type "dict")
 |fD {a:Addr} {o:Obj} {kvs:List (Key × V)} (e:H a=some (.frz o (.dK kvs))):TyOf K H (.ref a) (.type "dict")
 |ins {a C dx:Addr} {fs:List (Str × V)} (e:H a=some (.ins C dx fs)) (cl:Cls K C) (ha:PySem.W.findIn K (.ref C) "__class__" =some (some (.builtin "object.__class__")))
   (hn:PySem.W.specialIn K (.builtin "object.__class__") "__get__" =some (some (.builtin "getset_descriptor.__get__"))) (htk:PySem.W.takesIn K (.builtin "object.__class__")=some true)
   (hm:PySem.W.mroIn K C (.type "object")=some true):TyOf K H (.ref a) (.ref C)
theorem jA0 {x:V}{u t:Value}(I:Inv X pins σ H s)(rx:RelV x u)(ty:TyOf X.K H x t)(e:PySem.W.kitOne X.K t c=some b)(h:∀tk,Q (.bool b) {s with toks:=tk}):
  wpAny (model X.prog X.w) A (call (.builtin "isinstance") [u,c]) Q E s:=by
 cases ty with
 |non=>cases (show u=Value.none from rx); exact PySem.W.kia_one PySem.W.kitx_none I.kIn True.intro e (fun z=>nomatch z) h
 |bl y=>cases (show u=Value.bool y from rx); exact PySem.W.kia_one PySem.W.kitx_bool I.kIn True.intro e (fun z=>nomatch z) h
 |int i=>obtain⟨t,q⟩:=(show∃t,u=Value.int i t from rx); cases q; exact PySem.W.kia_one PySem.W.kitx_int I.kIn True.intro e (fun z=>nomatch z) h
 |str y=>obtain⟨t,q⟩:=(show∃t,u=Value.str y t from rx); cases q; exact PySem.W.kia_one PySem.W.kitx_str I.kIn True.intro e (fun z=>nomatch z) h
 |flt y=>obtain⟨t,q⟩:=(show∃t,u=Value.float y t from rx); cases q; exact PySem.W.kia_one PySem.W.kitx_float I.kIn True.intro e (fun z=>nomatch z) h
 | @lst a xs ea=>
  cases (show u=Value.ref a from rx)
  obtain⟨_,_,n,_,h1⟩:=(show ObjOk X.prog X.w H s.heap a (.lst xs) from I.hok a _ ea)
  exact PySem.W.kia_one PySem.W.kitx_list I.kIn ⟨_,h1,rfl⟩ e (fun z=>nomatch z) h
 | @frz a ob xs ea=>
  cases (show u=Value.ref a from rx)
  obtain⟨_,_,_,n,_,h1⟩:=(show ObjOk X.prog X.w H s.heap a (.frz ob (.lst xs)) from I.hok a _ ea)
  exact PySem.W.kia_one PySem.W.kitx_list I.kIn ⟨_,h1,rfl⟩ e (fun z=>nomatch z) h
 | @tup a xs ea=>
  cases (show u=Value.ref a from rx)
  obtain⟨_,_,_,p,_⟩:=(show ObjOk X.prog X.w H s.heap a (.tup xs) from I.hok a _ ea)
  obtain⟨o,h1,h2,_⟩:=p
  exact PySem.W.kia_one PySem.W.kitx_tuple I.kIn ⟨o,h1,h2⟩ e (fun z=>nomatch z) h
 | @dK a kvs ea=>
  cases (show u=Value.ref a from rx)
  obtain⟨_,_,vs,_,p⟩:=(show ObjOk X.prog X.w H s.heap a (.dK kvs) from I.hok a _ ea)
  obtain⟨o,es,ep,h1,h2,_⟩:=p
  exact PySem.W.kia_one PySem.W.kitx_dict I.kIn ⟨o,h1,h2.1⟩ e (fun z=>nomatch z) h
 | @fD a ob kvs ea=>
  cases (show u=Value.ref a from rx)
  obtain⟨_,_,_,vs,_,p⟩:=(show ObjOk X.prog X.w H s.heap a (.frz ob (.dK kvs)) from I.hok a _ ea)
  obtain⟨o,es,ep,h1,h2,_⟩:=p
  exact PySem.W.kia_one PySem.W.kitx_dict I.kIn ⟨o,h1,h2.1⟩ e (fun z=>nomatch z) h
 | @dT a kvs ea=>
  cases (show u=Value.ref a from rx)
  obtain⟨_,_,xs,_,o,es,ep,h1,h2,_⟩:=(show ObjOk X.prog X.w H s.heap a (.dT kvs) from I.hok a _ ea)
  exact PySem.W.kia_one PySem.W.kitx_dict I.kIn ⟨o,h1,h2.1⟩ e (fun z=>nomatch z) h
 | @ins a C dx fs ea cl ha hn htk hm=>
  cases (show u=Value.ref a from rx)
  obtain⟨mA,O,_⟩:=fd0 I.hok ea
  obtain⟨od,J,_⟩:=O.look
  exact PySem.W.kia_one (PySem.W.kitx_own (cl.get _) cl.hd ha hn htk hm) I.kIn J e (fun z=>nomatch z) h
end
end L2
namespace L2
open PySem PySem.Spec PyProof.Rows
structure Room (k:Nat)(A:Around):Prop where
 hd:A.handled=none
 dp:A.depth+3*k+5<recursionLimit
 un:A.units+16*k+200<cLine
theorem Room.mono {j k:Nat}{A:Around}(r:Room k A)(h:j<=k):Room j A:=⟨r.hd,by have:=r.dp; omega,by have:=r.un; omega⟩
theorem Room.deeper {k:Nat}{A:Around}(r:Room (k+1) A)(env:Env):Room k (A.deeper env):=
 ⟨r.hd,by have:=r.dp; show A.depth+1+3*k+5<_; omega,by have:=r.un; show A.units+3+16*k+200<_; omega⟩
theorem iw0 {A:Around}{C:Addr}{us:List Value}{kw:List (Str × Value)}:(A.under (.builtin "type.__call__" ⟨.ref C::us,kw⟩)).depth=A.depth+1:=by
 first|rfl|simp [Around.under,Code.weight,Code.isCreation,Code.isGuard,Code.isCaller,Code.frames,Code.isFrame,guardIds]
theorem ik0 {A:Around}{C:Addr}{us:List Value}{kw:List (Str × Value)}:(A.under (.builtin "type.__call__" ⟨.ref C::us,kw⟩)).units=A.units+1:=by
 first|rfl|simp [Around.under,Code.cUnits,Code.frames,Code.isFrame]
theorem Room.make {k:Nat}{A:Around}(r:Room (k+1) A)(C:Addr)(us:List Value)(kw:List (Str × Value)):Room k (A.under (.builtin "type.__call__" ⟨.ref C::us,kw⟩)):=
 ⟨r.hd,by have:=r.dp; rw [iw0]; omega,by have:=r.un; rw [ik0]; omega⟩
theorem Room.depth {k:Nat}{A:Around}(r:Room k A):A.depth<recursionLimit:=by have:=r.dp; omega
theorem Room.units {k:Nat}{A:Around}(r:Room k A):A.units+64<cLine:=by have:=r.un; omega
def tNil:TA:=fun _ H Q=>Q [] H
def ey0 (ta:TE)(tr:TA):TA:=fun σ H Q=>ta σ H fun x H1=>tr σ H1 fun xs H2=>Q (x::xs) H2
section
variable {X:Cx}{e:Expr}{es:List Expr}{te:TE}{t:TA}{pos:Pos}
theorem aG0:PA X [] tNil:=fun _ _ _ _ H Q I h=>Calls.spliced_nil ⟨[],H,I,.nil,h⟩
theorem ap0 (ha:PE X e te)(hr:PA X es t)(hs:starEach (e::es) X.env=(false,eval e X.env)::starEach es X.env:=by rfl):PA X (e::es) (ey0 te t):=by
 intro pos pins s σ H Q I h
 rw [hs]
 show wpAny _ _ (spliced ((false,eval e X.env)::backTo pos (starEach es X.env))) _ _ s
 refine Calls.spliced_cons (thn (ha pins s σ H _ I h) fun u s1 ⟨x,H1,I1,r1,q1⟩=> ?_)
 exact thn (hr pos pins s1 σ H1 _ I1 q1) fun us s2 ⟨xs,H2,I2,r2,q2⟩=>⟨x::xs,H2,I2,.cons r1 r2,q2⟩
def tTup (t:TA):TE:=fun σ H Q=>t σ H fun xs H1=>xs.length<=sizeLine/\∀p,H1 p=none->Q (.ref p) (upd H1 p (.tup xs))
def tLst (t:TA):TE:=fun σ H Q=>t σ H fun xs H1=>xs.length<=sizeLine/\∀p,H1 p=none->Q (.ref p) (upd H1 p (.lst xs))
theorem fT0 {x1}(h:PA X es t):PE X (.Tuple es x1 pos) (tTup t):=by
 intro pins s σ H Q I hq
 refine wpAny_Tuple_spliced (thn (h pos pins s σ H _ I hq) fun us s1 ⟨xs,H1,I1,r,z,q⟩=>⟨by rw [<- r.length]; exact z,?_⟩)
 have hf:H1 s1.heap.objs.size=none:=I1.hok.fresh (Nat.le_refl _)
 refine⟨.ref s1.heap.objs.size,upd H1 s1.heap.objs.size (.tup xs),I1.laid (t':=s1.toks) (fun b u e=>Heap.get?_push_of_some _ e) (Nat.le_refl _) ?_,rfl,q _ hf⟩
 exact⟨z,us,r,⟨_,Heap.get?_push_size _ rfl,rfl,_,rfl⟩,_,Heap.get?_push_size _ rfl,rfl⟩
theorem fD0 (h:PA X es t):PE X (.List es pos) (tLst t):=by
 intro pins s σ H Q I hq
 refine wpAny_List_spliced (thn (h pos pins s σ H _ I hq) fun us s1 ⟨xs,H1,I1,r,z,q⟩=>⟨by rw [<- r.length]; exact z,?_⟩)
 have hf:H1 s1.heap.objs.size=none:=I1.hok.fresh (Nat.le_refl _)
 refine⟨.ref s1.heap.objs.size,upd H1 s1.heap.objs.size (.lst xs),I1.laid (t':=s1.toks) (fun b u e=>Heap.get?_push_of_some _ e) (Nat.le_refl _) ?_,rfl,q _ hf⟩
 exact⟨z,us,0,r,Heap.get?_push_size _ rfl⟩
end
abbrev Sp:=List V->Hp->VK->XK->Prop
abbrev CXT:=List Env->Hp->Shared->XK->Value->Shared->Prop
structure Env0 (P:Program)(w:World)(K:PySem.W.Frag)(mg:Str->Option Value)(base:Heap)(A:Around)(outer:List Env)(s:Shared)(H:Hp):Prop where
 frames:A.frames=some outer
 mod:Mod K mg base
 bs:∀b o,base.get? b=some o->s.heap.get? b=some o/\H b=none
 bsz:base.objs.size<=s.heap.objs.size
 funs:s.heap.FunFrames base outer
 frf:∀b∈frs outer,H b=none
 hok:HOk P w H s.heap
 bare:AllBare s.gens
def CE (outer:List Env)(P:Program)(w:World)(H:Hp)(s:Shared)(Q:VK)(u:Value)(s':Shared):Prop:=
 ∃v H',s'.os=s.os/\AllBare s'.gens/\Un (frs outer) [] H H' s.heap s'.heap/\HOk P w H' s'.heap/\RelV v u/\Q v H'
def CR (CX:CXT)(outer:List Env)(P:Program)(w:World)(H:Hp)(s:Shared)(Q:VK)(E:XK)(r:Result)(s':Shared):Prop:=
 match r with
 | .ok (.ret u)=>CE outer P w H s Q u s'
 | .ok _=>False
 | .error e=>CX outer H s E e s'
structure FnOk (P:Program)(w:World)(K:PySem.W.Frag)(mg:Str->Option Value)(base:Heap)(CX:CXT)(k:Nat)(f:Addr)(fd:FuncData)(ps:List Str)(sp:Sp):Prop where
 len:∀vs H Q E,sp vs H Q E->vs.length=ps.length
 run:∀(A:Around) (outer:List Env) (s:Shared) (H:Hp) (args:Args) (us:List Value) (vs:List V) (Q:VK) (E:XK),Room k A->Env0 P w K mg base A outer s H->BindsTo s fd args (ps.zip us)->Vals vs us->sp vs H Q E->
  codeAny (model P w) A (.call (.ref f) args) (CR CX outer P w H s Q E) s
theorem FnOk.mono {P:Program}{w:World}{K:PySem.W.Frag}{mg:Str->Option Value}{base:Heap}{CX:CXT}{j k:Nat}{f:Addr}{fd:FuncData}{ps:List Str}{sp:Sp}(F:FnOk P w K mg base CX j f fd ps sp)(h:j<=k):
  FnOk P w K mg base CX k f fd ps sp:=⟨F.len,fun A outer s H args us vs Q E hr=>F.run A outer s H args us vs Q E (hr.mono h)⟩
theorem FnOk.imp {P:Program}{w:World}{K:PySem.W.Frag}{mg:Str->Option Value}{base:Heap}{CX:CXT}{k:Nat}{f:Addr}{fd:FuncData}{ps:List Str}{sp sp':Sp}(F:FnOk P w K mg base CX k f fd ps sp)
  (h:∀vs H Q E,sp' vs H Q E->sp vs H Q E):FnOk P w K mg base CX k f fd ps sp':=
 ⟨fun vs H Q E q=>F.len vs H Q E (h _ _ _ _ q),fun A outer s H args us vs Q E hr he hb hv hs=>F.run A outer s H args us vs Q E hr he hb hv (h _ _ _ _ hs)⟩
theorem Env0.make {P:Program}{w:World}{K:PySem.W.Frag}{mg:Str->Option Value}{base:Heap}{A:Around}{outer:List Env}{s:Shared}{H:Hp}(e:Env0 P w K mg base A outer s H)(C:Addr)(us:List Value)(kw:List (Str × Value)):
  Env0 P w K mg base (A.under (.builtin "type.__call__" ⟨.ref C::us,kw⟩)) outer s H:=⟨by first|exact e.frames|(simpa [Around.under,Code.envs,Code.isFrame,pushEnvs] using e.frames),e.mod,e.bs,e.bsz,e.funs,e.frf,e.hok,e.bare⟩
section
variable {X:Cx}{pins:List (Addr × Obj)}{σ:St}{H:Hp}{s s':Shared}
theorem Inv.env0 (I:Inv X pins σ H s):Env0 X.prog X.w X.K X.mg X.base X.A X.stack s H:=
 ⟨I.ok.frames,I.ok.mod,I.bs,Nat.le_trans I.ok.bsz I.sz,I.stack,I.stkFree,I.hok,I.bare⟩
theorem Inv.after {Q:VK}{u:Value}(I:Inv X pins σ H s)(h:CE X.stack X.prog X.w H s Q u s'):EP X pins σ Q u s':=by
 obtain⟨v,H',os,bare,un,hok,r,q⟩:=h
 obtain⟨hh,g,d,t,os'⟩:=s'
 obtain rfl:os'=s.os:=os
 exact⟨v,H',I.call (h':=hh) (g':=g) (d':=d) (t':=t) (ch:=[]) un hok bare (fun b z=>absurd z (by simp)),r,q⟩
end
def mF0 (sp:Sp)(dvs:List V)(E:XK)(t:TA):TE:=fun σ H Q=>t σ H fun vs H1=>sp (vs++dvs) H1 Q E
def my0 (C:Addr)(m:Str)(sp:Sp)(dvs:List V)(E:XK)(ta:TE)(t:TA):TE:=fun σ H Q=>ta σ H fun x H1=>∃a dx fs,x=.ref a/\H1 a=some (.ins C dx fs)/\fs.lookup m=none/\
 t σ H1 fun vs H2=>sp (x::(vs++dvs)) H2 Q E
def tMake (C:Addr)(sp:Sp)(dvs:List V)(E:XK)(t:TA):TE:=fun σ H Q=>t σ H fun vs H1=>∀x dx,H1 x=none->H1 dx=none->dx≠x->
 sp (.ref x::(vs++dvs)) (upd (upd H1 dx (.own x)) x (.ins C dx [])) (fun v H2=>v=.non/\Q (.ref x) H2) E
def Binds (K:PySem.W.Frag)(fd:FuncData)(ps:List Str)(ds:List Value):Prop:=
 ∀(s:Shared) (us:List Value),K.In s.heap->(us++ds).length=ps.length->BindsTo s fd ⟨us,[]⟩ (ps.zip (us++ds))
theorem Binds.all {K:PySem.W.Frag}{fd:FuncData}{ps:List Str}(h:∀us:List Value,us.length=ps.length->bindArgs fd ⟨us,[]⟩=pure (ps.zip us)):Binds K fd ps []:=fun s us _ hl=>by
 rw [List.append_nil] at hl ⊢
 exact .of_eq (h us hl)
def dZ0 (CX:CXT)(X:Cx)(E:XK):Prop:=∀(pins:List (Addr × Obj)) (σ:St) (H:Hp) (s:Shared) (e:Value) (s':Shared),Inv X pins σ H s->CX X.stack H s E e s'->X.xe e s'
section
variable {X:Cx}{CX:CXT}{k:Nat}{f C:Addr}{fd:FuncData}{ps:List Str}{sp:Sp}{dvs:List V}{ds:List Value}{E:XK}{x m:Str}{p pos apos:Pos}{e o:Expr}{es:List Expr}{ta:TE}{t:TA}
theorem jN0 {pins:List (Addr × Obj)}{σ:St}{H:Hp}{s:Shared}{Q:VK}{us:List Value}{vs:List V}(F:FnOk X.prog X.w X.K X.mg X.base CX k f fd ps sp)(hr:Room k X.A)(hb:Binds X.K fd ps ds)(hd:Vals dvs ds)(hx:dZ0 CX X E)
  (I:Inv X pins σ H s) (r:Vals vs us) (h:sp (vs++dvs) H Q E):wpAny (model X.prog X.w) X.A (call (.ref f) us) (EP X pins σ Q) X.xe s:=by
 have r2:Vals (vs++dvs) (us++ds):=r.append hd
 have hl:(us++ds).length=ps.length:=by rw [<- r2.length]; exact F.len _ _ _ _ h
 refine wpAny_call (codeAny_mono (F.run X.A X.stack s H ⟨us,[]⟩ (us++ds) (vs++dvs) Q E hr I.env0 (hb s us I.kIn hl) r2 h) fun r s' hq=> ?_)
 cases r with
 |error e=>exact hx pins σ H s e s' I hq
 |ok fl=>
  cases fl with
  |ret u=>exact I.after hq
  |next=>exact False.elim hq
  |brk=>exact False.elim hq
  |cont=>exact False.elim hq
theorem cn0 (F:FnOk X.prog X.w X.K X.mg X.base CX k f fd ps sp)(hr:Room k X.A)(hg:Gl X x)(hm:X.mg x=some (.ref f))(hk:PySem.W.keepIn X.K (.ref f)=true)(hb:Binds X.K fd ps ds)(hd:Vals dvs ds)(hx:dZ0 CX X E)
  (ha:PA X (e::es) t) (hdb:(x==("__debug__" :Str))=false:=by decide) (he:starEach (e::es) X.env=(false,eval e X.env)::starEach es X.env:=by rfl) (hpl:(backTo pos (starEach es X.env)).any (·.1)=false:=by rfl):
  PE X (.Call (.Name x p) (e::es) [] pos) (mF0 sp dvs E t):=by
 intro pins s σ H Q I h
 refine wpAny_Call_Name_kw (gG0 I hg hm ?_ hdb)
 refine PySem.W.callWith_K (h₀:=X.base) I.ok.mod.kin hk (thn (ha pos pins s σ H _ I h) fun us s1 ⟨vs,H1,I1,r,q⟩=>⟨I1.kIn,?_⟩) he hpl
 exact jN0 F hr hb hd hx I1 r q
theorem cg0 {pl:Sem Bool}(he:PE X o ta)(c:Cls X.K C)(hm:Meth X.K C m f)(F:FnOk X.prog X.w X.K X.mg X.base CX k f fd ps sp)(hr:Room k X.A)(hb:Binds X.K fd ps ds)(hd:Vals dvs ds)(hx:dZ0 CX X E)(ha:PA X (e::es) t)
  (hst:starEach (e::es) X.env=(false,eval e X.env)::starEach es X.env:=by rfl) (hpl:(backTo pos (starEach es X.env)).any (·.1)=false:=by rfl)
  (ht:eval (.Call (.Attribute o m apos) (e::es) [] pos) X.env=(do
   let ov<- eval o X.env
   standAt apos.atName
   let (f,first)<- holding [ov] (getMethod ov m pl)
   callWith pos f first (backTo pos (starEach (e::es) X.env)) (backToKw pos (keywordEach [] X.env))):=by rfl):
  PE X (.Call (.Attribute o m apos) (e::es) [] pos) (my0 C m sp dvs E ta t):=by
 intro pins s σ H Q I h
 refine PySem.W.methodCall_KW (pl:=pl) (thn (he pins s σ H _ I h) fun u s1 ⟨x,H1,I1,rx,a,dx,fs,ex,ea,l,q⟩=> ?_) ht
 subst ex
 obtain rfl:u=Value.ref a:=rx
 refine dw0 I1 ea c hm l ?_
 refine PySem.W.callWith_K (first:=[.ref a]) (h₀:=X.base) I.ok.mod.kin hm.kp (thn (ha pos pins s1 σ H1 _ I1 q) fun us s2 ⟨vs,H2,I2,r,q2⟩=>⟨I2.kIn,?_⟩) hst hpl
 exact jN0 (us:=.ref a::us) (vs:=.ref a::vs) F hr hb hd hx I2 (.cons rfl r) q2
theorem gO0 {pl:Sem Bool}(he:PE X o ta)(c:Cls X.K C)(hm:Meth X.K C m f)(F:FnOk X.prog X.w X.K X.mg X.base CX k f fd ps sp)(hr:Room k X.A)(hb:Binds X.K fd ps ds)(hd:Vals dvs ds)(hx:dZ0 CX X E)
  (ht:eval (.Call (.Attribute o m apos) [] [] pos) X.env=(do
   let ov<- eval o X.env
   standAt apos.atName
   let (f,first)<- holding [ov] (getMethod ov m pl)
   callWith pos f first (backTo pos (starEach [] X.env)) (backToKw pos (keywordEach [] X.env))):=by rfl):
  PE X (.Call (.Attribute o m apos) [] [] pos) (my0 C m sp dvs E ta tNil):=by
 intro pins s σ H Q I h
 refine PySem.W.methodCall_KW (pl:=pl) (thn (he pins s σ H _ I h) fun u s1 ⟨x,H1,I1,rx,a,dx,fs,ex,ea,l,q⟩=> ?_) ht
 subst ex
 obtain rfl:u=Value.ref a:=rx
 refine dw0 I1 ea c hm l ?_
 exact PySem.W.callWith_K0 (first:=[.ref a]) I1.kIn hm.kp (jN0 (us:=[.ref a]) (vs:=[.ref a]) F hr hb hd hx I1 (.cons rfl .nil) q)
structure Mk (K:PySem.W.Frag)(C f:Addr):Prop where
 makes:PySem.W.makesIn K C=true
 init:PySem.W.findIn K (.ref C) "__init__" =some (some (.ref f))
 fn:PySem.W.isFn K (.ref f)=true
 kp:PySem.W.keepIn K (.ref C)=true
theorem mG0 {pins:List (Addr × Obj)}{σ:St}{H:Hp}{s:Shared}{Q:VK}{us:List Value}{vs:List V}(M:Mk X.K C f)(F:FnOk X.prog X.w X.K X.mg X.base CX k f fd ps sp)(hr:Room (k+1) X.A)(hb:Binds X.K fd ps ds)(hd:Vals dvs ds)
  (hx:dZ0 CX X E) (I:Inv X pins σ H s) (r:Vals vs us)
  (h:∀x dx,H x=none->H dx=none->dx≠x->sp (.ref x::(vs++dvs)) (upd (upd H dx (.own x)) x (.ins C dx [])) (fun v H2=>v=.non/\Q (.ref x) H2) E):
  wpAny (model X.prog X.w) X.A (call (.ref C) us) (EP X pins σ Q) X.xe s:=by
 have hq:=h (s.heap.objs.size+1) s.heap.objs.size (I.hok.fresh (Nat.le_succ _)) (I.hok.fresh (Nat.le_refl _)) (Nat.ne_of_lt (Nat.lt_succ_self _))
 have I2:=Inv.made (C:=C) I
 have r2:Vals (V.ref (s.heap.objs.size+1)::(vs++dvs)) (Value.ref (s.heap.objs.size+1)::(us++ds)):=.cons rfl (r.append hd)
 have hl:(Value.ref (s.heap.objs.size+1)::us++ds).length=ps.length:=by
  have e:=r2.length
  rw [F.len _ _ _ _ hq] at e
  exact e.symm
 refine wpAny_call (mb0 (f:=f) I.kIn M.makes M.init (beq_iff_eq.mp M.fn) (codeAny_mono (F.run _ X.stack _ _ ⟨Value.ref (s.heap.objs.size+1)::us,[]⟩ (Value.ref (s.heap.objs.size+1)::(us++ds)) _ _ E (hr.make C us [])
  (I2.env0.make C us []) (hb _ (Value.ref (s.heap.objs.size+1)::us) I2.kIn hl) r2 hq) fun r s' hq'=> ?_))
 cases r with
 |error e=>exact hx pins σ _ _ e s' I2 hq'
 |ok fl=>
  cases fl with
  |ret u=>
   obtain⟨v,H',I3,rv,ev,q3⟩:=I2.after hq'
   subst ev
   exact⟨rv,⟨V.ref (s.heap.objs.size+1),H',I3,rfl,q3⟩⟩
  |next=>exact False.elim hq'
  |brk=>exact False.elim hq'
  |cont=>exact False.elim hq'
theorem jw0 (M:Mk X.K C f)(F:FnOk X.prog X.w X.K X.mg X.base CX k f fd ps sp)(hr:Room (k+1) X.A)(hg:Gl X x)(hm:X.mg x=some (.ref C))(hb:Binds X.K fd ps ds)(hd:Vals dvs ds)(hx:dZ0 CX X E)
  (ha:PA X (e::es) t) (hdb:(x==("__debug__" :Str))=false:=by decide) (he:starEach (e::es) X.env=(false,eval e X.env)::starEach es X.env:=by rfl) (hpl:(backTo pos (starEach es X.env)).any (·.1)=false:=by rfl):
  PE X (.Call (.Name x p) (e::es) [] pos) (tMake C sp dvs E t):=by
 intro pins s σ H Q I h
 refine wpAny_Call_Name_kw (gG0 I hg hm ?_ hdb)
 refine PySem.W.callWith_K (h₀:=X.base) I.ok.mod.kin M.kp (thn (ha pos pins s σ H _ I h) fun us s1 ⟨vs,H1,I1,r,q⟩=>⟨I1.kIn,?_⟩) he hpl
 exact mG0 M F hr hb hd hx I1 r q
end
section
variable {X:Cx}{CX:CXT}{k:Nat}{f C:Addr}{fd:FuncData}{ps ks:List Str}{sp:Sp}{E:XK}{x m:Str}{p pos apos kpos:Pos}{e o:Expr}{es:List Expr}{kws:List Keyword}{te ta:TE}{t tk:TA}{nm:Option Str}
variable {g:List Value->List Value->List Value}{gV:List V->List V->List V}
end
structure FnScope (N P:List Str)(sc:Scope):Prop where
 kind:sc.kind=.function
 co:sc.isCoroutine=false
 gen:sc.isGenerator=false
 nd:N.Nodup
 pre:N.take P.length=P
 par:∀x∈P,sc.names.lookup x=some .local\/ sc.names.lookup x=some .cell
 nofree:∀y∈sc.names,y.2≠ .free
theorem fy0 {kindOf:Str->Option NameKind}{x:Str}:∀{binds:List (Str × Value)} {m:Str->Option Value},(∀v,(x,v)∉binds)->bindL kindOf binds m x=m x
 | [],_,_=>rfl
 | (n,v)::r,m,h=>by
  unfold bindL
  rw [fy0 fun w hw=>h w (List.mem_cons_of_mem _ hw)]
  split
  ·have:x≠n:=by rintro rfl; exact h v List.mem_cons_self
   simp [this]
  ·rfl
theorem fC0 {kindOf:Str->Option NameKind}{x:Str}:∀{binds:List (Str × Value)} {m:Str->Option Value},(∀v,(x,v)∉binds)->bindC kindOf binds m x=m x
 | [],_,_=>rfl
 | (n,v)::r,m,h=>by
  unfold bindC
  rw [fC0 fun w hw=>h w (List.mem_cons_of_mem _ hw)]
  split
  ·rfl
  ·have:x≠n:=by rintro rfl; exact h v List.mem_cons_self
   simp [this]
theorem gl0 {kindOf:Str->Option NameKind}{x:Str}{v:Value}:∀{P:List Str} {vs:List Value} {i:Nat} {m:Str->Option Value},P.Nodup->P[i]?=some x->vs[i]?=some v->kindOf x=some .local->
  bindL kindOf (P.zip vs) m x=some v
 | [],_,_,_,_,h,_,_=>by simp at h
 |_::_,[],_,_,_,_,h,_=>by simp at h
 |p::P,w::vs,0,m,nd,h1,h2,hk=>by
  simp at h1 h2; subst h1; subst h2
  show bindL kindOf ((p,w)::P.zip vs) m p=_
  unfold bindL
  rw [fy0 fun v hv=>(List.nodup_cons.mp nd).1 (List.of_mem_zip hv).1,if_pos hk]
  simp
 |p::P,w::vs,i+1,m,nd,h1,h2,hk=>by
  show bindL kindOf ((p,w)::P.zip vs) m x=_
  unfold bindL
  exact gl0 (i:=i) (List.nodup_cons.mp nd).2 (by simpa using h1) (by simpa using h2) hk
theorem gc0 {kindOf:Str->Option NameKind}{x:Str}{v:Value}:∀{P:List Str} {vs:List Value} {i:Nat} {m:Str->Option Value},P.Nodup->P[i]?=some x->vs[i]?=some v->kindOf x≠some .local->
  bindC kindOf (P.zip vs) m x=some v
 | [],_,_,_,_,h,_,_=>by simp at h
 |_::_,[],_,_,_,_,h,_=>by simp at h
 |p::P,w::vs,0,m,nd,h1,h2,hk=>by
  simp at h1 h2; subst h1; subst h2
  show bindC kindOf ((p,w)::P.zip vs) m p=_
  unfold bindC
  rw [fC0 fun v hv=>(List.nodup_cons.mp nd).1 (List.of_mem_zip hv).1,if_neg hk]
  simp
 |p::P,w::vs,i+1,m,nd,h1,h2,hk=>by
  show bindC kindOf ((p,w)::P.zip vs) m x=_
  unfold bindC
  exact gc0 (i:=i) (List.nodup_cons.mp nd).2 (by simpa using h1) (by simpa using h2) hk
def start (N:List Str)(vs:List V):St:=vs.map some++List.replicate (N.length - vs.length) none
def cxOf (CX:CXT)(P:Program)(w:World)(K:PySem.W.Frag)(mg:Str->Option Value)(base:Heap)(N:List Str)(qual:Str)(scope:Scope)(f:Addr)(cd:Value)(A:Around)(outer:List Env)(s:Shared)(H:Hp)(E:XK):Cx where
 prog:=P
 w:=w
 K:=K
 mg:=mg
 base:=base
 A:=A.deeper (envOfC qual scope s.heap.objs.size f cd)
 N:=N
 s₀:=s
 H₀:=H
 env:=envOfC qual scope s.heap.objs.size f cd
 outer:=outer
 stack:=envOfC qual scope s.heap.objs.size f cd::outer
 ex:=[]
 calm:=true
 fn:=fun _=>true
 pn:=[]
 xe:=fun e s'=>wpAny (model P w) (A.deeper (envOfC qual scope s.heap.objs.size f cd)) (leaving (envOfC qual scope s.heap.objs.size f cd) e) (fun _ s''=>CX outer H s E e s'') (fun e' s''=>CX outer H s E e' s'') s'
theorem hO0 {sc:Scope}{n:Nat}{x:Str}(h:sc.names.lookup x=some .cell):∃c,(cellsFrom n sc.names []).lookup x=some c:=by
 have q:=PySem.W.cellsFrom_some sc.names n [] (.inl h)
 exact Option.isSome_iff_exists.mp q
theorem lm0 {CX:CXT}{P:Program}{w:World}{K:PySem.W.Frag}{mg:Str->Option Value}{base:Heap}{N ps:List Str}{qual:Str}{scope:Scope}{f:Addr}{cd:Value}{A:Around}{outer:List Env}{s s1:Shared}{H:Hp}{E:XK}{us:List Value}{vs:List V}
  (S:FnScope N ps scope) (hd:A.handled=none) (e0:Env0 P w K mg base A outer s H) (hl:vs.length=ps.length) (r:Vals vs us)
  (x:InCallC s s.heap.objs.size (bindL (envOfC qual scope s.heap.objs.size f cd).kindOf (ps.zip us) fun _=>none) (cellsFrom (s.heap.objs.size+1) scope.names []) (bindC (envOfC qual scope s.heap.objs.size f cd).kindOf (ps.zip us) fun _=>none) s1):
  Inv (cxOf CX P w K mg base N qual scope f cd A outer s H E) [] (start N vs) H s1:=by
 have hpl:ps.length<=N.length:=by have:=congrArg List.length S.pre; rw [List.length_take] at this; omega
 obtain⟨h1,tk,rfl,hk⟩:=x.done
 have noA:∀b:Addr,b∉(cxOf CX P w K mg base N qual scope f cd A outer s H E).ex:=fun b z=>absurd (show b∈([]:List Addr) from z) (by simp)
 refine⟨⟨e0.mod,S.kind,rfl,rfl,Nat.le_refl _,fun y z c h1 h2=> ?_,fun y hy=> ?_,fun y c _ h=> ?_,fun _=>hd,Around.frames_deeper e0.frames,.inr ⟨rfl,rfl⟩,fun b z=>absurd z (noA b),e0.bs,e0.bsz,fun b _ _=>noA b,fun b z=>absurd z (noA b),e0.funs,e0.frf⟩,
  rfl,e0.bare,Un.kept hk,⟨_,x.toInCall.ns,fun i y v h1 h2 h3=> ?_⟩,fun y c h=>⟨_,x.cell y c h⟩,e0.hok.fresh (Nat.le_refl _),fun y c h=> ?_,fun p hp=>absurd (show p∈([]:List (Addr × Obj)) from hp) (by simp),e0.hok.kept hk,?_⟩
 ·exact name_of_addr x.apart (PySem.mem_of_lookup h1) (PySem.mem_of_lookup h2)
 ·have hy:scope.names.lookup y=some .cell\/ scope.names.lookup y=some .free:=hy
  rcases hy with hy|hy
  ·exact hO0 hy
  ·exact absurd rfl (S.nofree _ (PySem.mem_of_lookup hy))
 ·exact Nat.le_of_lt (x.above y c (PySem.mem_of_lookup h))
 ·have hi:i<vs.length:=by
   unfold start at h2
   by_cases hi:i<vs.length
   ·exact hi
   ·rw [List.getElem?_append_right (by simpa using hi)] at h2
    rw [List.getElem?_replicate] at h2
    split at h2<;>cases h2
  have ha:vs[i]?=some v:=by
   unfold start at h2
   rw [List.getElem?_append_left (by simpa using hi),List.getElem?_map] at h2
   cases e:vs[i]? with
   |none=>rw [e] at h2; cases h2
   |some a=>rw [e] at h2; cases h2; rfl
  obtain⟨u,hu,rv⟩:=r.get ha
  have hp:ps[i]?=some y:=by
   rw [<- S.pre,List.getElem?_take_of_lt (by omega)]; exact h1
  have ndP:ps.Nodup:=by rw [<- S.pre]; exact S.nd.sublist (List.take_sublist _ _)
  refine⟨u,rv,?_⟩
  rcases S.par y (List.mem_of_getElem? hp) with k|k
  ·exact .inl ⟨k,gl0 ndP hp hu k⟩
  ·obtain⟨c,e⟩:=hO0 (n:=s.heap.objs.size+1) k
   refine .inr ⟨.inl k,c,e,?_⟩
   have q:=x.cell y c e
   rw [gc0 ndP hp hu (by show scope.names.lookup y≠_; rw [k]; decide)] at q
   exact q
 ·exact e0.hok.fresh (Nat.le_of_lt (x.above y c (PySem.mem_of_lookup h)))
 ·unfold start
  show _=N.length
  rw [List.length_append,List.length_map,List.length_replicate]
  omega
theorem fn_of {CX:CXT}{P:Program}{w:World}{K:PySem.W.Frag}{mg:Str->Option Value}{base:Heap}{k:Nat}{f:Addr}{name qual:Str}{params:Arguments}{body:List Stmt}{scope:Scope}{dV kV doc pm cdv ct oc:Value}{an od:Option Addr}
  {osl:Array (Option Value)} {N ps:List Str} {sp:Sp} (lk:K.lookup f=some ⟨oc,od,.func (PySem.W.fnOf name qual params body scope dV kV doc pm an cdv ct),osl⟩) (hcd:PySem.W.codeIn K cdv qual=true) (S:FnScope N ps scope)
  (len:∀vs H Q E,sp vs H Q E->vs.length=ps.length)
  (hbody:∀(A:Around) (outer:List Env) (s:Shared) (H:Hp) (vs:List V) (Q:VK) (E:XK),Room k (A.deeper (envOfC qual scope s.heap.objs.size f cdv))->sp vs H Q E->
   ∃t,PSs (cxOf CX P w K mg base N qual scope f cdv A outer s H E) body t/\t {nx:=fun _ H'=>Q .non H',rt:=Q} (start N vs) H):
  FnOk P w K mg base CX (k+1) f (PySem.W.fnOf name qual params body scope dV kV doc pm an cdv ct) ps sp:=by
 refine⟨len,fun A outer s H args us vs Q E hr e0 hb r hsp=> ?_⟩
 have hl:=len _ _ _ _ hsp
 have KX:K.In s.heap:=e0.mod.kin.keeps fun b o e=>(e0.bs b o e).1
 have lim:s.heap.NoLimit:=e0.mod.nolimit.keeps fun b o e=>(e0.bs b o e).1
 have hkind:∀y∈ps.zip us,scope.names.lookup y.1=some .local\/ (scope.names.lookup y.1=some .cell/\((cellsFrom (s.heap.objs.size+1) scope.names []).lookup y.1).isSome=true):=fun⟨n,v⟩ hy=>by
  rcases S.par n (List.of_mem_zip hy).1 with q|q
  ·exact .inl q
  ·exact .inr ⟨q,PySem.W.cellsFrom_some _ _ _ (.inl q)⟩
 refine codeAny_call_function hr.depth (KX _ _ lk) rfl S.co S.gen rfl (PySem.W.codeRec_of KX hcd) (hb _ _ _ _ ?_)
 refine wpAny_newFunctionEnv_cells S.kind hkind fun env he s1 x=> ?_
 subst he
 refine⟨lim.keeps x.toInCall.keep,codeAny_func ?_⟩
 obtain⟨t,ht,hq⟩:=hbody A outer s H vs Q E (hr.deeper _) hsp
 have I:Inv (cxOf CX P w K mg base N qual scope f cdv A outer s H E) [] (start N vs) H s1:=lm0 S hr.hd e0 hl r x
 refine wpAny_mono (ht [] s1 (start N vs) H _ I hq) (fun fl s' hs=> ?_) fun e s' hs=>hs
 have fin:∀{σ':St} {H':Hp} {v:V} {u:Value},Inv (cxOf CX P w K mg base N qual scope f cdv A outer s H E) [] σ' H' s'->RelV v u->Q v H'->CE outer P w H s Q u s':=
  fun{σ' H' v u} J rv q=>⟨v,H',J.os,J.bare,J.base,J.hok,rv,q⟩
 cases fl with
 |ret u=>
  obtain⟨v,σ',H',J,rv,q⟩:=hs
  exact fin J rv q
 |next=>
  obtain⟨σ',H',J,q⟩:=hs
  exact fin (v:=V.non) (u:=Value.none) J rfl q
 |brk=>
  obtain⟨_,_,_,q⟩:=hs
  exact False.elim q
 |cont=>
  obtain⟨_,_,_,q⟩:=hs
  exact False.elim q
end L2
namespace L2
open PySem PySem.Spec PyProof.Rows
section
variable {X:Cx}{x:Str}{p pos:Pos}{e:Expr}{es:List Expr}{t:TA}{id T:String}{r:List V->Hp->VK->Prop}
def tCB (r:List V->Hp->VK->Prop)(t:TA):TE:=fun σ H Q=>t σ H fun vs H1=>r vs H1 Q
theorem cb0 (hc:dl0 X (.builtin id) r)(hg:Gl X x)(hm:X.mg x=none)(hv:bootBuiltins x=some (.builtin id))(ha:PA X (e::es) t)(hn:x≠ "__name__" :=by decide) (hdb:(x==("__debug__" :Str))=false:=by decide)
  (he:starEach (e::es) X.env=(false,eval e X.env)::starEach es X.env:=by rfl) (hpl:(backTo pos (starEach es X.env)).any (·.1)=false:=by rfl):PE X (.Call (.Name x p) (e::es) [] pos) (tCB r t):=by
 intro pins s σ H Q I h
 refine wpAny_Call_Name_kw (df0 I hg hm hv ?_ hn hdb)
 exact PyProof.Rows.callWith_builtin1 (thn (ha pos pins s σ H _ I h) fun us s1 ⟨vs,H1,I1,r1,q1⟩=>hc pins s1 σ H1 vs us Q I1 r1 q1) he hpl
theorem fN0 (hc:dl0 X (.type T) r)(hg:Gl X x)(hm:X.mg x=none)(hv:bootBuiltins x=some (.type T))(ha:PA X (e::es) t)(hn:x≠ "__name__" :=by decide) (hdb:(x==("__debug__" :Str))=false:=by decide)
  (he:starEach (e::es) X.env=(false,eval e X.env)::starEach es X.env:=by rfl) (hpl:(backTo pos (starEach es X.env)).any (·.1)=false:=by rfl):PE X (.Call (.Name x p) (e::es) [] pos) (tCB r t):=by
 intro pins s σ H Q I h
 refine wpAny_Call_Name_kw (df0 I hg hm hv ?_ hn hdb)
 exact PyProof.Rows.callWith_type1 (thn (ha pos pins s σ H _ I h) fun us s1 ⟨vs,H1,I1,r1,q1⟩=>hc pins s1 σ H1 vs us Q I1 r1 q1) he hpl
end
end L2
namespace HT
open PySem PyProof.Rows
section
open PySem.SeqAt
open PySem.AutoSeq1 (wpAny_loadPart')
open PySem.MeetsSeq PySem.MeetsSeq2 PySem.MeetsSeq3
end
section
variable {prog:Program}{w:World}{A:Around}{E:Value->Shared->Prop}{s:Shared}
theorem cat_tup {t b:Addr}{vs ws:List Value}{Q:Value->Shared->Prop}(ht:IsTup s.heap t vs.toArray)(hb:IsTup s.heap b ws.toArray)(hv:vs≠ [])
  (h1:ws=[]->Q (.ref t) s) (h2:ws≠ []->Q (.ref s.heap.objs.size) {s with heap:=s.heap.push {cls:=.type "tuple",data:=.seq (vs++ws).toArray}})
  (hsz:vs.length+ws.length<=sizeLine):wpAny (model prog w) A (binaryOp .Add (.ref t) (.ref b)) Q E s:=by
 obtain⟨⟨cls,dd,data,sl⟩,ho,hc,n,hd⟩:=id ht
 obtain⟨⟨cls2,dd2,data2,sl2⟩,ho2,hc2,n2,hd2⟩:=id hb
 simp only at hc hd hc2 hd2
 subst hc hd hc2 hd2
 have e:vs.toArray++ws.toArray=(vs++ws).toArray:=by simp
 by_cases hw:ws=[]
 ·exact concat_meets ⟨_,ho,rfl⟩ ⟨_,ho2,rfl⟩ noFill_tuple_add seq_tuple_add PySem.F.slot_tuple_add PySem.F.entry_tuple_add (PySem.F.args_tuple_add_2 _ _)
   (tuple_addW1 t b vs.toArray ws.toArray n n2 dd dd2 sl sl2 (by simpa using hv) (by simp [hw])) ⟨ho,ho2,h1 hw⟩
 ·refine concat_meets ⟨_,ho,rfl⟩ ⟨_,ho2,rfl⟩ noFill_tuple_add seq_tuple_add PySem.F.slot_tuple_add PySem.F.entry_tuple_add (PySem.F.args_tuple_add_2 _ _)
   (tuple_addW2 t b vs.toArray ws.toArray n n2 dd dd2 sl sl2 (by simpa using hv) (by simpa using hw) (by rw [List.size_toArray,List.size_toArray]; exact hsz)) ⟨ho,ho2,?_⟩
  rw [e]
  exact h2 hw
def sIx (n d:Nat):Option Int->Nat
 |none=>d
 |some v=>if v<0 then(v+(n:Int)).toNat else min v.toNat n
theorem sIx_none (n d:Nat):sIx n d none=d:=rfl
theorem pu0 (n d:Nat)(hd:d<=n)(o:Option Int):sIx n d o<=n:=by
 cases o with
 |none=>exact hd
 |some v=>
  show (if v<0 then(v+(n:Int)).toNat else min v.toNat n)<=n
  by_cases hv:v<0
  ·rw [if_pos hv]; omega
  ·rw [if_neg hv]; exact Nat.min_le_right _ _
theorem kw0 (v:Int)(n d:Nat):(if v<0 then max (v+(n:Int)) 0 else min v (n:Int))=((sIx n d (some v):Nat):Int):=by
 show (if v<0 then max (v+(n:Int)) 0 else min v (n:Int))=(((if v<0 then(v+(n:Int)).toNat else min v.toNat n):Nat):Int)
 by_cases hv:v<0
 ·simp only [if_pos hv]; omega
 ·simp only [if_neg hv]; omega
theorem iv0 (lo hi:Option Int)(n:Nat):Builtin.Slice.sliceAdjust lo hi 1 (n:Int)=(((sIx n 0 lo:Nat):Int),((sIx n n hi:Nat):Int)):=by
 have h1:¬((1:Int)<0):=by omega
 unfold Builtin.Slice.sliceAdjust
 simp only [h1,if_false]
 refine Prod.ext ?_ ?_
 ·cases lo with
  |none=>rfl
  |some v=>exact kw0 v n 0
 ·cases hi with
  |none=>rfl
  |some v=>exact kw0 v n n
theorem iA0 (i j:Nat):Builtin.Slice.slicePlaces (i:Int) (j:Int) 1=j - i:=by
 unfold Builtin.Slice.slicePlaces
 have h1:(1:Int)>0:=by omega
 simp only [h1,if_true,Int.ediv_one]
 split<;>omega
theorem eD0 {v:Value}{o:Option Int}{Q:Option Int->Shared->Prop}(p:IsPart v o)(h:Q o s):wpAny (model prog w) A (Builtin.Slice.slicePartIndex v) Q E s:=by
 cases p with
 |none=>exact slicePart_none h
 |int i t=>exact slicePart_int h
theorem sliceApplied_gen {sl:Addr}{vl vu:Value}{lo hi:Option Int}{n:Nat}{Q:Int × Int × Nat->Shared->Prop}(hs:s.heap.IsSliceOf sl vl vu .none)(pl:IsPart vl lo)(pu:IsPart vu hi)
  (h:Q (((sIx n 0 lo:Nat):Int),1,sIx n n hi - sIx n 0 lo) s):wpAny (model prog w) A (Builtin.Slice.sliceApplied (.ref sl) (pure (n:Int))) Q E s:=by
 obtain⟨os,hos,hcs,hds⟩:=id hs
 unfold Builtin.Slice.sliceApplied Builtin.Slice.sliceFields
 refine wpAny_bind (wpAny_bind (wpAny_field hos hds (x:=vl) rfl (wpAny_bind (wpAny_field hos hds (x:=vu) rfl (wpAny_bind (wpAny_field hos hds (x:=.none) rfl (wpAny_pure ?_)))))))
 refine wpAny_bind (slicePart_none ?_)
 show wpAny _ _ (if((1:Int)==0)=true then _ else _) _ _ s
 rw [if_neg (by decide)]
 refine wpAny_bind (eD0 pl (wpAny_bind (eD0 pu (wpAny_bind (wpAny_pure ?_)))))
 show wpAny _ _ (match Builtin.Slice.sliceAdjust lo hi 1 (n:Int) with|(lo,hi)=>pure (lo,(1:Int),Builtin.Slice.slicePlaces lo hi 1)) _ _ s
 rw [iv0 lo hi n]
 show wpAny _ _ (pure (((sIx n 0 lo:Nat):Int),(1:Int),Builtin.Slice.slicePlaces ((sIx n 0 lo:Nat):Int) ((sIx n n hi:Nat):Int) 1)) _ _ s
 rw [iA0]
 exact wpAny_pure h
theorem mq0 (xs:Array Value)(i k:Nat):((List.range k).filterMap fun(m:Nat)=>xs[((i:Int)+(m:Int)*1).toNat]?).toArray=((xs.toList.drop i).take k).toArray:=by
 have e:(fun(m:Nat)=>xs[((i:Int)+(m:Int)*1).toNat]?)=fun m=>xs[i+m]?:=by
  funext m
  have:((i:Int)+(m:Int)*1).toNat=i+m:=by omega
  rw [this]
 rw [e]
 have:=pick_run xs i k
 rw [List.filterMap_map] at this
 have e2:((fun x=>xs[x]?)∘fun x=>i+x)=fun m=>xs[i+m]?:=rfl
 rw [e2] at this
 rw [this]
theorem getItem_tuple_cut {t sl:Addr}{items:Array Value}{vl vu:Value}{lo hi:Option Int}{Q:Value->Shared->Prop}(ht:IsTup s.heap t items)(hs:s.heap.IsSliceOf sl vl vu .none)(pl:IsPart vl lo)(pu:IsPart vu hi)
  (hw:¬(sIx items.size 0 lo=0/\sIx items.size items.size hi=items.size))
  (h:Q (.ref s.heap.objs.size) {s with heap:=s.heap.push {cls:=.type "tuple",data:=.seq ((items.toList.drop (sIx items.size 0 lo)).take (sIx items.size items.size hi - sIx items.size 0 lo)).toArray}})
  (hsz:items.size<=sizeLine):wpAny (model prog w) A (getItem (.ref t) (.ref sl)) Q E s:=by
 have htake:sizeOk (.seq ((items.toList.drop (sIx items.size 0 lo)).take (sIx items.size items.size hi - sIx items.size 0 lo)).toArray):=by
  show ((items.toList.drop (sIx items.size 0 lo)).take (sIx items.size items.size hi - sIx items.size 0 lo)).toArray.size<=sizeLine
  rw [List.size_toArray,List.length_take,List.length_drop,Array.length_toList]
  omega
 have hj:sIx items.size items.size hi<=items.size:=pu0 _ _ (Nat.le_refl _) hi
 obtain⟨os,hos,hcs,hds⟩:=id hs
 have hTs:s.TypeIs (.ref sl) "slice" :=⟨os,hos,hcs⟩
 unfold getItem
 try with_reducible refine wpAny_holding ?_
 first|refine wpAny_bind (wpAny_pure ?_)|skip
 refine wpAny_bind (wpAny_sequenceKey ht.typeIs (by decide) ?_)
 refine wpAny_bind (wpAny_callSpecial?_slot (name:=Str.ofString "__getitem__") ht.typeIs PyProof.Rows.slot_tuple_getitem
  (wpAny_call_entry PyProof.Rows.slot_tuple_getitem ht.typeIs entry_tuple_getitem ?_ (args_tuple_getitem _ _)))
 show wpAny _ _ (Builtin.Tuple.tupleItemsOf (.ref t)>>=_) _ _ s
 refine wpAny_bind (tupleItemsOf_ ht ?_)
 refine wpAny_bind (wpAny_typeOf hTs ?_)
 rw [if_pos (by decide)]
 refine wpAny_bind (sliceApplied_gen hs pl pu ?_)
 have hno:¬((((sIx items.size 0 lo:Nat):Int)==0 && (1:Int)==1 && (sIx items.size items.size hi - sIx items.size 0 lo)==items.size)=true):=by
  intro q
  rw [Bool.and_eq_true,Bool.and_eq_true] at q
  have q1:((sIx items.size 0 lo:Nat):Int)=0:=eq_of_beq q.1.1
  have q2:sIx items.size items.size hi - sIx items.size 0 lo=items.size:=eq_of_beq q.2
  exact hw ⟨by omega,by omega⟩
 show wpAny _ _ (if(((sIx items.size 0 lo:Nat):Int)==0 && (1:Int)==1 && (sIx items.size items.size hi - sIx items.size 0 lo)==items.size)=true then _ else _) _ _ s
 rw [if_neg hno,mq0]
 first
  |exact wpAny_bind (m:=Builtin.Tuple.tupleExact _) (wpAny_newObj_type (wpAny_pure ⟨_,rfl,wpAny_pure h⟩) htake)
  |exact wpAny_bind (m:=Builtin.Tuple.tupleExact _) (wpAny_newObj_type (wpAny_bind (wpAny_pure (wpAny_pure ⟨_,rfl,wpAny_pure h⟩))) htake)
  |exact wpAny_bind (wpAny_bind (m:=Builtin.Tuple.tupleExact _) (wpAny_newObj_type (wpAny_pure (wpAny_pure ⟨_,rfl,wpAny_pure h⟩)) htake))
  |exact wpAny_bind (wpAny_bind (m:=Builtin.Tuple.tupleExact _) (wpAny_newObj_type (wpAny_pure ⟨_,rfl,wpAny_pure h⟩) htake))
end
end HT
namespace L2
open PySem PySem.Spec PyProof.Rows
abbrev TO:=St->Hp->(Option Int->Hp->Prop)->Prop
def PO (X:Cx)(e:Option Expr)(t:TO):Prop:=
 ∀(pins:List (Addr × Obj)) (s:Shared) (σ:St) (H:Hp) (Q:Option Int->Hp->Prop),Inv X pins σ H s->t σ H Q->
  wpAny (model X.prog X.w) X.A (evalPart e X.env) (fun u s'=>∃o H',Inv X pins σ H' s'/\IsPart u o/\Q o H') X.xe s
def ok0:TO:=fun _ H Q=>Q none H
def tPart (t:TE):TO:=fun σ H Q=>t σ H fun x H1=>∃i,x=.int i/\Q (some i) H1
section
variable {X:Cx}{e:Expr}{te:TE}{lo hi:Option Expr}{tl th:TO}{pos p2:Pos}
theorem nN0:PO X none ok0:=by
 intro pins s σ H Q I h
 rw [evalPart_none]
 exact wpAny_pure ⟨none,H,I,.none,h⟩
theorem nt0 (h:PE X e te):PO X (some e) (tPart te):=by
 intro pins s σ H Q I hw
 rw [evalPart_some]
 refine thn (h pins s σ H _ I hw) fun u s1 ⟨x,H1,I1,r1,q1⟩=> ?_
 obtain⟨i,rfl,q⟩:=q1
 obtain⟨t,rfl⟩:=r1
 exact⟨some i,H1,I1,.int i t,q⟩
def SlR (X:Cx)(r:V->Option Int->Option Int->Hp->VK->Prop):Prop:=
 ∀(pins:List (Addr × Obj)) (s:Shared) (σ:St) (H:Hp) (x:V) (v vl vu:Value) (lo hi:Option Int) (sl:Addr) (Q:VK),Inv X pins σ H s->RelV x v->s.heap.IsSliceOf sl vl vu .none->IsPart vl lo->IsPart vu hi->r x lo hi H Q->
  ∃T id,typeLookup (.type T) "__getitem__" =pure (some (.builtin id))/\s.TypeIs v T/\wpAny (model X.prog X.w) X.A (getItem v (.ref sl)) (EP X pins σ Q) X.xe s
theorem SlR.or {r r':V->Option Int->Option Int->Hp->VK->Prop}(h:SlR X r)(h':SlR X r'):SlR X (fun x lo hi H Q=>r x lo hi H Q\/ r' x lo hi H Q):=by
 intro pins s σ H x v vl vu lo hi sl Q I rx hs pl pu q
 rcases q with q|q
 ·exact h pins s σ H x v vl vu lo hi sl Q I rx hs pl pu q
 ·exact h' pins s σ H x v vl vu lo hi sl Q I rx hs pl pu q
def tSl (r:V->Option Int->Option Int->Hp->VK->Prop)(te:TE)(tl th:TO):TE:=fun σ H Q=>te σ H fun x H1=>tl σ H1 fun l H2=>th σ H2 fun u H3=>r x l u H3 Q
theorem gM0 {r:V->Option Int->Option Int->Hp->VK->Prop}(hr:SlR X r)(he:PE X e te)(hl:PO X lo tl)(hu:PO X hi th):PE X (.Subscript e (.Slice lo hi none p2) pos) (tSl r te tl th):=by
 intro pins s σ H Q I h
 refine Subscript_ (thn (he pins s σ H _ I h) fun v s1 ⟨x,H1,I1,r1,q1⟩=> ?_)
 refine wpAny_Slice (thn (hl pins s1 σ H1 _ I1 q1) fun vl s2 ⟨l,H2,I2,pl,q2⟩=>thn (hu pins s2 σ H2 _ I2 q2) fun vu s3 ⟨u,H3,I3,pu,q3⟩=> ?_)
 rw [evalPart_none]
 refine wpAny_pure ?_
 have I4:Inv X pins σ H3 {s3 with heap:=s3.heap.push {cls:=.type "slice",data:=.fields #[vl,vu,.none]}}:=I3.kept (t':=s3.toks) fun b ob q=>Heap.get?_push_of_some _ q
 obtain⟨T,id,hT,ht,hg⟩:=hr pins {s3 with heap:=s3.heap.push {cls:=.type "slice",data:=.fields #[vl,vu,.none]}} σ H3 x v vl vu l u s3.heap.objs.size Q I4 r1 (Heap.IsSliceOf.new ..) pl pu q3
 show wpAny (model X.prog X.w) X.A (subscriptTail e (.Slice lo hi none p2) v (.ref s3.heap.objs.size)) (EP X pins σ Q) X.xe {s3 with heap:=s3.heap.push {cls:=.type "slice",data:=.fields #[vl,vu,.none]}}
 exact tail_any (ops:=[.ref s3.heap.objs.size,v]) ht hT hg (by with_unfolding_all rfl)
def cutV (xs:List V)(lo hi:Option Int):List V:=(xs.drop (HT.sIx xs.length 0 lo)).take (HT.sIx xs.length xs.length hi - HT.sIx xs.length 0 lo)
theorem ex0 (xs:List V)(lo hi:Option Int):(cutV xs lo hi).length<=xs.length:=by
 unfold cutV
 rw [List.length_take,List.length_drop]
 omega
def rSlT (K:PySem.W.Frag):V->Option Int->Option Int->Hp->VK->Prop:=fun x lo hi H Q=>∃a xs,x=.ref a/\SqT K H a xs/\
 ¬(HT.sIx xs.length 0 lo=0/\HT.sIx xs.length xs.length hi=xs.length)/\∀p,H p=none->Q (.ref p) (upd H p (.tup (cutV xs lo hi)))
theorem pn0:SlR X (rSlT X.K):=by
 intro pins s σ H x v vl vu lo hi sl Q I rx hs pl pu h
 obtain⟨a,xs,rfl,hx,hw,q⟩:=h
 cases rx
 obtain⟨its,r,ht,hz⟩:=I.tuple hx
 have hlen:its.toArray.size=xs.length:=by rw [List.size_toArray]; exact r.length.symm
 refine⟨"tuple",_,PyProof.Rows.slot_tuple_getitem.lookup,ht.typeIs,?_⟩
 refine HT.getItem_tuple_cut ht hs pl pu (by rw [hlen]; exact hw) ?_ (by rw [hlen]; exact hz)
 rw [hlen]
 refine⟨.ref s.heap.objs.size,_,I.laid (t':=s.toks) (o:=.tup (cutV xs lo hi)) (fun b ob q=>Heap.get?_push_of_some _ q) (Nat.le_refl _) ?_,rfl,q _ (I.hok.fresh (Nat.le_refl _))⟩
 exact⟨Nat.le_trans (ex0 xs lo hi) hz,_,(r.drop (HT.sIx xs.length 0 lo)).take (HT.sIx xs.length xs.length hi - HT.sIx xs.length 0 lo),IsTup.new _ _,_,Heap.get?_push_size _ rfl,rfl⟩
def rCatT (K:PySem.W.Frag):R2:=fun x y H Q=>∃a b xs ys,x=.ref a/\y=.ref b/\SqT K H a xs/\SqT K H b ys/\xs≠ []/\xs.length+ys.length<=sizeLine/\
 (ys=[]->Q (.ref a) H)/\(ys≠ []->∀p,H p=none->Q (.ref p) (upd H p (.tup (xs++ys))))
theorem Vals.nil_iff {xs:List V}{us:List Value}(r:Vals xs us):us=[]↔xs=[]:=by
 cases r with
 |nil=>simp
 |cons _ _=>simp
theorem nz0:OpR X (binaryOp .Add) (rCatT X.K):=by
 intro pins s σ H x y v u Q I rx ry h
 obtain⟨a,b,xs,ys,rfl,rfl,ha,hb,hx,hz,q1,q2⟩:=h
 cases rx
 cases ry
 obtain⟨its,r1,p1,_⟩:=I.tuple ha
 obtain⟨its2,r2,p2,_⟩:=I.tuple hb
 refine HT.cat_tup p1 p2 (fun z=>hx (r1.nil_iff.mp z)) (fun z=>⟨.ref a,H,I,rfl,q1 (r2.nil_iff.mp z)⟩) (fun z=> ?_) (by rw [<- r1.length,<- r2.length]; exact hz)
 refine⟨.ref s.heap.objs.size,_,I.laid (t':=s.toks) (o:=.tup (xs++ys)) (fun b ob q=>Heap.get?_push_of_some _ q) (Nat.le_refl _) ?_,rfl,q2 (fun w=>z (r2.nil_iff.mpr w)) _ (I.hok.fresh (Nat.le_refl _))⟩
 exact⟨by rw [List.length_append]; exact hz,_,r1.append r2,IsTup.new _ _,_,Heap.get?_push_size _ rfl,rfl⟩
end
end L2
namespace L2
open PySem PySem.Spec PyProof.Rows
def ixN (n:Nat)(i:Int):Option Nat:=if 0<=i then(if i<n then some i.toNat else none) else if -(n:Int)<=i then some (i+n).toNat else none
def atI {α:Type}(xs:List α)(i:Int):Option α:=(ixN xs.length i).bind fun j=>xs[j]?
theorem nP0 {n:Nat}{i:Int}{j:Nat}(h:ixN n i=some j):seqIndex? i n=some j/\j<n/\ -(n:Int)<=i/\i<n:=by
 unfold ixN at h
 by_cases h0:0<=i
 ·rw [if_pos h0] at h
  by_cases h1:i<n
  ·rw [if_pos h1] at h
   have e:i.toNat=j:=Option.some.inj h
   exact⟨by rw [seqIndex_of h0 h1,e],by omega,by omega,h1⟩
  ·rw [if_neg h1] at h; cases h
 ·rw [if_neg h0] at h
  by_cases h1: -(n:Int)<=i
  ·rw [if_pos h1] at h
   have e:(i+n).toNat=j:=Option.some.inj h
   exact⟨by rw [seqIndex_neg (by omega) h1,e],by omega,h1,by omega⟩
  ·rw [if_neg h1] at h; cases h
theorem gq0 {α:Type}{xs:List α}{i:Int}{v:α}(h:atI xs i=some v):∃j,seqIndex? i xs.length=some j/\xs[j]?=some v/\j<xs.length/\ -(xs.length:Int)<=i/\i<xs.length:=by
 unfold atI at h
 cases e:ixN xs.length i with
 |none=>rw [e] at h; cases h
 |some j=>
  rw [e] at h
  obtain⟨h1,h2,h3,h4⟩:=nP0 e
  exact⟨j,h1,h,h2,h3,h4⟩
theorem atI_nat {α:Type}{xs:List α}{j:Nat}{v:α}(h:xs[j]?=some v):atI xs (j:Int)=some v:=by
 have hj:j<xs.length:=(List.getElem?_eq_some_iff.mp h).1
 have e:ixN xs.length (j:Int)=some j:=by
  unfold ixN
  rw [if_pos (by omega),if_pos (by omega)]; simp
 unfold atI; rw [e]; exact h
def li0 (b:Expr):Prop:=∀o i,subscripted b false o i=operate [o,i] (getItem o i)
def IxR (X:Cx)(r:R2):Prop:=
 ∀(value slice:Expr) (pins:List (Addr × Obj)) (s:Shared) (σ:St) (H:Hp) (x y:V) (v u:Value) (Q:VK),Inv X pins σ H s->RelV x v->RelV y u->r x y H Q->
  subscripted slice false v u=operate [v,u] (getItem v u)->wpAny (model X.prog X.w) X.A (subscriptTail value slice v u) (EP X pins σ Q) X.xe s
def MtR (X:Cx)(id:String)(r:V->List V->Hp->VK->Prop):Prop:=
 ∀(pins:List (Addr × Obj)) (s:Shared) (σ:St) (H:Hp) (x:V) (xs:List V) (v:Value) (us:List Value) (Q:VK),Inv X pins σ H s->RelV x v->Vals xs us->r x xs H Q->
  wpAny (model X.prog X.w) X.A (call (.builtin id) (v::us)) (EP X pins σ Q) X.xe s
section
variable {X:Cx}{a b:Expr}{ta tb:TE}{pos:Pos}
theorem IxR.or {r r':R2}(h:IxR X r)(h':IxR X r'):IxR X (fun x y H Q=>r x y H Q\/ r' x y H Q):=by
 intro value slice pins s σ H x y v u Q I rx ry q hs
 rcases q with q|q
 ·exact h value slice pins s σ H x y v u Q I rx ry q hs
 ·exact h' value slice pins s σ H x y v u Q I rx ry q hs
theorem mr0 {r:R2}(hr:IxR X r)(ha:PE X a ta)(hb:PE X b tb)(hs:li0 b):PE X (.Subscript a b pos) (tOp r ta tb):=by
 intro pins s σ H Q I h
 exact Subscript_ (binT ha hb I h fun v u s2 x y H2 I2 rx ry q=>hr a b pins s2 σ H2 x y v u Q I2 rx ry q (hs _ _))
def rIxL (K:PySem.W.Frag):R2:=fun x y H Q=>∃p xs i v,x=.ref p/\y=.int i/\SqL K H p xs/\atI xs i=some v/\Q v H
def rIxT (K:PySem.W.Frag):R2:=fun x y H Q=>∃p xs i v,x=.ref p/\y=.int i/\SqT K H p xs/\atI xs i=some v/\Q v H
def rIxS:R2:=fun x y H Q=>∃z i c,x=.str z/\y=.int i/\z.length<=sizeLine/\atI z.cps.toList i=some c/\Q (.str ⟨#[c]⟩) H
theorem ix_list:IxR X (rIxL X.K):=by
 intro value slice pins s σ H x y v u Q I rx ry h hs
 obtain⟨p,xs,i,z,rfl,rfl,hq,he,q⟩:=h
 cases rx
 obtain⟨t,rfl⟩:=ry
 obtain⟨its,r,pl,hz⟩:=I.list hq
 obtain⟨j,h1,h2,h3,h4,h5⟩:=gq0 he
 obtain⟨w,ew,rw'⟩:=r.get h2
 have hl:=r.length
 have hn:=eW0
 have fin:EP X pins σ Q w s:=⟨z,H,I,rw',q⟩
 by_cases h0:0<=i
 ·have hj:i.toNat=j:=by
   rw [seqIndex_of h0 h5] at h1
   exact Option.some.inj h1
  exact item_listR pl.isList h0 (by omega) (by rw [hj]; simpa using ew) fin hs
 ·have hj:(i+(its.toArray.size:Int)).toNat=j:=by
   rw [seqIndex_neg (by omega) h4] at h1
   rw [List.size_toArray,<- hl]
   exact Option.some.inj h1
  exact subscriptTail_builtinR (x:=w) pl.isList.typeIs slot_list_getitem.lookup
   (wpAny_getItem_list_neg (Q:=fun r s'=>r=w/\EP X pins σ Q r s') pl.isList (by omega) (by rw [List.size_toArray]<;>omega) (by omega) (by rw [hj]; simpa using ew) ⟨rfl,fin⟩) hs
theorem ix_tup:IxR X (rIxT X.K):=by
 intro value slice pins s σ H x y v u Q I rx ry h hs
 obtain⟨p,xs,i,z,rfl,rfl,hq,he,q⟩:=h
 cases rx
 obtain⟨t,rfl⟩:=ry
 obtain⟨its,r,pl,hz⟩:=I.tuple hq
 obtain⟨j,h1,h2,h3,h4,h5⟩:=gq0 he
 obtain⟨w,ew,rw'⟩:=r.get h2
 have hl:=r.length
 have hn:=eW0
 have fin:EP X pins σ Q w s:=⟨z,H,I,rw',q⟩
 exact subscriptTail_builtinR (x:=w) pl.typeIs slot_tuple_getitem.lookup
  (getItem_tuple (j:=j) (Q:=fun r s'=>r=w/\EP X pins σ Q r s') pl (by omega) (by omega) (by rw [List.size_toArray,<- hl]; exact h1) (by simpa using ew) ⟨rfl,fin⟩) hs
theorem po0:IxR X rIxS:=by
 intro value slice pins s σ H x y v u Q I rx ry h hs
 obtain⟨z,i,c,rfl,rfl,hz,he,q⟩:=h
 obtain⟨t,rfl⟩:=rx
 obtain⟨t',rfl⟩:=ry
 obtain⟨j,h1,h2,h3,h4,h5⟩:=gq0 he
 have hl:z.cps.toList.length=z.length:=by simp [Str.length]
 rw [hl] at h1 h4 h5
 have hn:=eW0
 exact tail_any (typeIs_str s z t) slot_str_getitem.lookup (getItem_str (c:=c) (by
  have e1:decide (i< -(2^63:Int))=false:=decide_eq_false (by omega)
  have e2:decide (i≥2^63)=false:=decide_eq_false (by omega)
  rw [e1,e2,Bool.or_false]) (by rw [h1]; simpa using h2) ⟨.str ⟨#[c]⟩,H,I.tok _,⟨_,rfl⟩,q⟩) hs
def rIx (K:PySem.W.Frag):R2:=fun x y H Q=>rIxL K x y H Q\/ rIxT K x y H Q\/ rIxS x y H Q
theorem oO0:IxR X (rIx X.K):=ix_list.or (ix_tup.or po0)
theorem ge0 (lo hi:Option Int)(n:Nat):(sliceBounds lo hi none n).1=((HT.sIx n 0 lo:Nat):Int)/\(sliceBounds lo hi none n).2.1=((HT.sIx n n hi:Nat):Int)/\(sliceBounds lo hi none n).2.2=1:=by
 refine⟨?_,?_,rfl⟩
 ·cases lo with
  |none=>simp [sliceBounds,HT.sIx]
  |some i=>
   simp only [sliceBounds,HT.sIx,Option.getD_none,show (1:Int)>0 by decide,if_true]
   by_cases h:i<0
   ·simp only [h,if_true]<;>omega
   ·simp only [h,if_false]<;>omega
 ·cases hi with
  |none=>simp [sliceBounds,HT.sIx]
  |some i=>
   simp only [sliceBounds,HT.sIx,Option.getD_none,show (1:Int)>0 by decide,if_true]
   by_cases h:i<0
   ·simp only [h,if_true]<;>omega
   ·simp only [h,if_false]<;>omega
theorem fg0 (its:List Value)(lo hi:Option Int):slicePick its.toArray lo hi none=((its.drop (HT.sIx its.length 0 lo)).take (HT.sIx its.length its.length hi - HT.sIx its.length 0 lo)).toArray:=by
 obtain⟨h1,h2,h3⟩:=ge0 lo hi its.toArray.size
 unfold slicePick
 rw [h1,h2,h3]
 simp only [sliceRange_one,pick_run,List.size_toArray]<;>rfl
def rSlL (K:PySem.W.Frag):V->Option Int->Option Int->Hp->VK->Prop:=fun x lo hi H Q=>∃a xs,x=.ref a/\SqL K H a xs/\∀p,H p=none->Q (.ref p) (upd H p (.lst (cutV xs lo hi)))
theorem ot0:SlR X (rSlL X.K):=by
 intro pins s σ H x v vl vu lo hi sl Q I rx hs pl pu h
 obtain⟨a,xs,rfl,hx,q⟩:=h
 cases rx
 obtain⟨its,r,ht,hz⟩:=I.list hx
 have hlen:=r.length
 refine⟨"list",_,slot_list_getitem.lookup,ht.isList.typeIs,?_⟩
 refine wpAny_getItem_list_slice ht.isList hs pl pu .none (by simp) ?_ (by rw [List.size_toArray]<;>omega)
 rw [fg0,<- hlen]
 refine⟨.ref s.heap.objs.size,_,I.laid (t':=s.toks) (o:=.lst (cutV xs lo hi)) (fun b ob q=>Heap.get?_push_of_some _ q) (Nat.le_refl _) ?_,rfl,q _ (I.hok.fresh (Nat.le_refl _))⟩
 exact⟨Nat.le_trans (ex0 xs lo hi) hz,_,0,(r.drop (HT.sIx xs.length 0 lo)).take (HT.sIx xs.length xs.length hi - HT.sIx xs.length 0 lo),Heap.get?_push_size _ rfl⟩
def bL0:V->Bool
 | .non=>true
 | .bl _=>true
 | .int _=>true
 | .str _=>true
 |_=>false
def eqV:V->V->Bool
 | .non,.non=>true
 | .bl a,.bl b=>a==b
 | .bl a,.int b=>(if a then 1 else 0)==b
 | .int a,.bl b=>a==(if b then 1 else 0)
 | .int a,.int b=>a==b
 | .str a,.str b=>a==b
 |_,_=>false
theorem mN0 {A:Around}{s:Shared}{y x:V}{u v:Value}(ry:RelV y u)(rx:RelV x v)(fy:bL0 y=true)(fx:bL0 x=true):SeqAt.EqAt A s u v (eqV y x):=by
 cases y with
 |non=>
  cases ry
  cases x with
  |non=>cases rx; exact SeqAt.EqAt.same _
  |bl b=>cases rx; exact SeqAt.EqAt.none_bool b
  |int b=>obtain⟨t,rfl⟩:=rx; exact SeqAt.EqAt.none_int b t
  |str b=>obtain⟨t,rfl⟩:=rx; exact SeqAt.EqAt.none_str b t
  |_=>exact absurd (show false=true from fx) Bool.false_ne_true
 |bl a=>
  cases ry
  cases x with
  |non=>cases rx; exact SeqAt.EqAt.bool_none a
  |bl b=>cases rx; exact SeqAt.EqAt.bool_bool a b
  |int b=>obtain⟨t,rfl⟩:=rx; exact SeqAt.EqAt.bool_int a b t
  |str b=>obtain⟨t,rfl⟩:=rx; exact SeqAt.EqAt.bool_str a b t
  |_=>exact absurd (show false=true from fx) Bool.false_ne_true
 |int a=>
  obtain⟨t',rfl⟩:=ry
  cases x with
  |non=>cases rx; exact SeqAt.EqAt.int_none a t'
  |bl b=>cases rx; exact SeqAt.EqAt.int_bool a t' b
  |int b=>obtain⟨t,rfl⟩:=rx; exact SeqAt.EqAt.int_int a t' b t
  |str b=>obtain⟨t,rfl⟩:=rx; exact SeqAt.EqAt.int_str a t' b t
  |_=>exact absurd (show false=true from fx) Bool.false_ne_true
 |str a=>
  obtain⟨t',rfl⟩:=ry
  cases x with
  |non=>cases rx; exact SeqAt.EqAt.str_none a t'
  |bl b=>cases rx; exact SeqAt.EqAt.str_bool a t' b
  |int b=>obtain⟨t,rfl⟩:=rx; exact SeqAt.EqAt.str_int a t' b t
  |str b=>obtain⟨t,rfl⟩:=rx; exact SeqAt.EqAt.str_str a t' b t
  |_=>exact absurd (show false=true from fx) Bool.false_ne_true
 |_=>exact absurd (show false=true from fy) Bool.false_ne_true
def eqU (x:V)(u:Value):Bool:=match u with
 | .none=>eqV .non x
 | .bool b=>eqV (.bl b) x
 | .int i _=>eqV (.int i) x
 | .str z _=>eqV (.str z) x
 |_=>false
theorem hx0 {x y:V}{u:Value}(r:RelV y u)(f:bL0 y=true):eqU x u=eqV y x:=by
 cases y with
 |non=>cases r; rfl
 |bl b=>cases r; rfl
 |int i=>obtain⟨t,rfl⟩:=r; rfl
 |str z=>obtain⟨t,rfl⟩:=r; rfl
 |_=>exact absurd (show false=true from f) Bool.false_ne_true
theorem dP0 {x:V}:∀{xs:List V} {us:List Value},Vals xs us->xs.all bL0=true->us.any (eqU x)=xs.any fun y=>eqV y x
 |_,_,.nil,_=>rfl
 |y::xs,u::us,.cons r t,f=>by
  rw [List.all_cons,Bool.and_eq_true] at f
  rw [List.any_cons,List.any_cons,hx0 r f.1,dP0 t f.2]
theorem cc0 {A:Around}{s:Shared}{x:V}{v:Value}(rx:RelV x v)(fx:bL0 x=true):∀{xs:List V} {us:List Value},Vals xs us->xs.all bL0=true->∀u∈us,SeqAt.EqAt A s u v (eqU x u)
 |_,_,.nil,_=>fun u hu=>by cases hu
 |y::xs,u::us,.cons r t,f=>fun u' hu=>by
  rw [List.all_cons,Bool.and_eq_true] at f
  rcases List.mem_cons.mp hu with rfl|hu
  ·rw [hx0 r f.1]; exact mN0 r rx f.1 fx
  ·exact cc0 rx fx t f.2 u' hu
def inV (x:V)(xs:List V):Bool:=xs.any fun y=>eqV y x
def rIn (K:PySem.W.Frag)(neg:Bool):R2:=fun x y H Q=>∃p xs,y=.ref p/\(SqL K H p xs\/ SqT K H p xs)/\bL0 x=true/\xs.all bL0=true/\Q (.bl (if neg then !inV x xs else inV x xs)) H
theorem fZ0:OpR X (compareOp .In) (rIn X.K false):=by
 intro pins s σ H x y v u Q I rx ry h
 obtain⟨p,xs,rfl,hq,fx,fs,q⟩:=h
 cases ry
 rcases hq with hq|hq
 ·obtain⟨its,r,pl,hz⟩:=I.list hq
  refine SeqAt.in_listAt (eqU x) pl.isList (fun w hw=>cc0 rx fx r fs w (by simpa using hw)) ⟨.bl _,H,I,rfl,?_⟩
  rw [show its.toArray.any (eqU x)=its.any (eqU x) by simp,dP0 r fs]
  exact q
 ·obtain⟨its,r,pl,hz⟩:=I.tuple hq
  refine SeqAt.in_tupleAt (eqU x) pl (fun w hw=>cc0 rx fx r fs w (by simpa using hw)) ⟨.bl _,H,I,rfl,?_⟩
  rw [show its.toArray.any (eqU x)=its.any (eqU x) by simp,dP0 r fs]
  exact q
theorem dE0:OpR X (compareOp .NotIn) (rIn X.K true):=by
 intro pins s σ H x y v u Q I rx ry h
 obtain⟨p,xs,rfl,hq,fx,fs,q⟩:=h
 cases ry
 rcases hq with hq|hq
 ·obtain⟨its,r,pl,hz⟩:=I.list hq
  refine SeqAt.notIn_listAt (eqU x) pl.isList (fun w hw=>cc0 rx fx r fs w (by simpa using hw)) ⟨.bl _,H,I,rfl,?_⟩
  rw [show its.toArray.any (eqU x)=its.any (eqU x) by simp,dP0 r fs]
  exact q
 ·obtain⟨its,r,pl,hz⟩:=I.tuple hq
  refine SeqAt.notIn_tupleAt (eqU x) pl (fun w hw=>cc0 rx fx r fs w (by simpa using hw)) ⟨.bl _,H,I,rfl,?_⟩
  rw [show its.toArray.any (eqU x)=its.any (eqU x) by simp,dP0 r fs]
  exact q
theorem cG0:dl0 X (.builtin "len") (fun xs H Q=>∃p ys,xs=[.ref p]/\(SqL X.K H p ys\/ SqT X.K H p ys)/\Q (.int ys.length) H):=by
 intro pins s σ H xs us Q I r h
 obtain⟨p,ys,rfl,hq,q⟩:=h
 obtain⟨u,rfl,rx⟩:=gr0 r
 cases rx
 have hn:=eW0
 rcases hq with hq|hq
 ·obtain⟨its,r',pl,hz⟩:=I.list hq
  have hlen:=r'.length
  exact Calls.call_len_list pl.isList (by simp only [List.size_toArray]<;>omega) ⟨.int ys.length,H,I.tok _,⟨s.toks+1,by rw [List.size_toArray,hlen]⟩,q⟩
 ·obtain⟨its,r',pl,hz⟩:=I.tuple hq
  have hlen:=r'.length
  exact len_tuple pl (by simp only [List.size_toArray]<;>omega) ⟨.int ys.length,H,I.tok _,⟨s.toks+1,by rw [List.size_toArray,hlen]⟩,q⟩
theorem gi0:dl0 X (.type "list") (fun xs H Q=>∃p ys,xs=[.ref p]/\(SqL X.K H p ys\/ SqT X.K H p ys)/\∀l,H l=none->Q (.ref l) (upd H l (.lst ys))):=by
 intro pins s σ H xs us Q I r h
 obtain⟨p,ys,rfl,hq,q⟩:=h
 obtain⟨u,rfl,rx⟩:=gr0 r
 cases rx
 have fin:∀(its:List Value),Vals ys its->ys.length<=sizeLine->∀(h':Heap) (c':Nat),(∀b o',s.heap.get? b=some o'->h'.get? b=some o')->
   h'.get? s.heap.objs.size=some {cls:=.type "list",dict:=none,data:=.seq its.toArray c',slots:= #[]}->EP X pins σ Q (.ref s.heap.objs.size) {s with heap:=h'}:=fun its r' hz h' c' kp e=>
  ⟨.ref s.heap.objs.size,_,I.laid (t':=s.toks) kp (Nat.le_refl _) (show ObjOk X.prog X.w _ h' _ (.lst ys) from⟨hz,its,c',r',e⟩),rfl,q _ (I.hok.fresh (Nat.le_refl _))⟩
 rcases hq with hq|hq
 ·obtain⟨its,r',pl,hz⟩:=I.list hq
  have hlen:=r'.length
  obtain⟨o,ho,hc,n,hd⟩:=pl.isList
  exact call_list_seq p (.inl rfl) ho hc hd (fun h' c' kp e=>fin its r' hz h' c' kp e) (by simp only [List.size_toArray]<;>omega)
 ·obtain⟨its,r',pl,hz⟩:=I.tuple hq
  have hlen:=r'.length
  obtain⟨o,ho,hc,n,hd⟩:=pl
  exact call_list_seq p (.inr rfl) ho hc hd (fun h' c' kp e=>fin its r' hz h' c' kp e) (by simp only [List.size_toArray]<;>omega)
theorem fu0:dl0 X (.type "tuple") (fun xs H Q=>∃p ys,xs=[.ref p]/\((SqL X.K H p ys/\∀l,H l=none->Q (.ref l) (upd H l (.tup ys)))\/ (SqT X.K H p ys/\Q (.ref p) H))):=by
 intro pins s σ H xs us Q I r h
 obtain⟨p,ys,rfl,h⟩:=h
 obtain⟨u,rfl,rx⟩:=gr0 r
 cases rx
 rcases h with⟨hq,q⟩|⟨hq,q⟩
 ·obtain⟨its,r',pl,hz⟩:=I.list hq
  have hlen:=r'.length
  refine call_tuple_list pl.isList (fun h' kp=> ?_) (by simp only [List.size_toArray]<;>omega)
  have I1:Inv X pins σ H {s with heap:=h'}:=I.kept (t':=s.toks) kp
  have I2:Inv X pins σ (upd H h'.objs.size (.tup ys)) {s with heap:=h'.push {cls:=.type "tuple",data:=.seq its.toArray}}:=
   I1.laid (t':=s.toks) (fun b o e=>Heap.get?_push_of_some _ e) (Nat.le_refl _) (show ObjOk X.prog X.w _ _ _ (.tup ys) from⟨hz,its,r',IsTup.new _ _,_,Heap.get?_push_size _ rfl,rfl⟩)
  exact⟨.ref h'.objs.size,_,I2,rfl,q _ (I1.hok.fresh (Nat.le_refl _))⟩
 ·obtain⟨its,r',pl,hz⟩:=I.tuple hq
  exact call_tuple_same pl ⟨.ref p,H,I,rfl,q⟩
def tyV (K:PySem.W.Frag)(T:String)(x:V)(H:Hp):Prop:=match x with
 | .str _=>T= "str"
 | .int _=>T= "int"
 | .ref p=>(T= "list" /\∃xs,SqL K H p xs)\/ (T= "tuple" /\∃o,K.lookup p=some o/\o.cls=.type "tuple" /\o.dict=none)\/
   (T= "dict" /\((∃kvs,H p=some (.dK kvs))\/ ∃kvs,H p=some (.dT kvs)))\/ (T= "set" /\∃S n,H p=some (.set S n))
 |_=>False
theorem mL0 {pins:List (Addr × Obj)}{σ:St}{H:Hp}{s:Shared}{T:String}{x:V}{v:Value}(I:Inv X pins σ H s)(r:RelV x v)(ty:tyV X.K T x H):
  s.TypeIs v T/\∀a,v=.ref a->∃ob,s.heap.get? a=some ob/\ob.dict=none:=by
 cases x with
 |str z=>
  obtain⟨t,rfl⟩:=r
  cases (show T= "str" from ty)
  exact⟨typeIs_str s z t,fun _ e=>nomatch e⟩
 |int i=>
  obtain⟨t,rfl⟩:=r
  cases (show T= "int" from ty)
  exact⟨typeIs_int s i t,fun _ e=>nomatch e⟩
 |ref p=>
  cases r
  rcases ty with⟨rfl,xs,hq⟩|⟨rfl,o,hk,hc,hd⟩|⟨rfl,hk⟩|⟨rfl,S,n,hk⟩
  ·obtain⟨its,_,pl,_⟩:=I.list hq
   refine⟨pl.isList.typeIs,fun a e=> ?_⟩
   cases e
   obtain⟨o,n,e,c,hd,_⟩:=pl
   exact⟨o,e,hd⟩
  ·refine⟨⟨o,I.kIn p o hk,hc⟩,fun a e=> ?_⟩
   cases e
   exact⟨o,I.kIn _ o hk,hd⟩
  ·have z:∃o,s.heap.get? p=some o/\o.ExactDict:=by
    rcases hk with⟨kvs,hk⟩|⟨kvs,hk⟩
    ·obtain⟨_,_,_,_,o,_,_,e,ex,_⟩:=I.hok p _ hk
     exact⟨o,e,ex⟩
    ·obtain⟨_,_,_,_,o,_,_,e,ex,_⟩:=I.hok p _ hk
     exact⟨o,e,ex⟩
   obtain⟨o,e,ex⟩:=z
   refine⟨⟨o,e,ex.1⟩,fun a e2=> ?_⟩
   cases e2
   exact⟨o,e,ex.2.1⟩
  ·obtain⟨o,_,_,_,e,ex,_⟩:=I.hok p _ hk
   refine⟨⟨o,e,ex.1⟩,fun a e2=> ?_⟩
   cases e2
   exact⟨o,e,ex.2.1⟩
 |_=>exact False.elim ty
def tBM0 (K:PySem.W.Frag)(T:String)(r:V->List V->Hp->VK->Prop)(to:TE):TE:=fun σ H Q=>to σ H fun x H1=>tyV K T x H1/\r x [] H1 Q
def tBM (K:PySem.W.Frag)(T:String)(r:V->List V->Hp->VK->Prop)(to:TE)(t:TA):TE:=fun σ H Q=>to σ H fun x H1=>tyV K T x H1/\t σ H1 fun xs H2=>r x xs H2 Q
variable {o e:Expr}{es:List Expr}{to:TE}{t:TA}{name:Str}{apos cpos:Pos}{T id:String}{r:V->List V->Hp->VK->Prop}
theorem na0 (pa:PlainAttrs T)(slot:Slot T name id)(hty:typeOf (.builtin id)=pure (.type "method_descriptor")) (hm:MtR X id r) (ho:PE X o to)
  (hbase:attributeBase o name X.env (eval o X.env)=eval o X.env:=by rfl) (hline:(apos.endLine==cpos.line)=true:=by rfl):PE X (.Call (.Attribute o name apos) [] [] cpos) (tBM0 X.K T r to):=by
 intro pins s σ H Q I h
 refine wpAny_Call_method0_late hbase hline (thn (ho pins s σ H _ I h) fun v s1 ⟨x,H1,I1,r1,ty,q1⟩=> ?_)
 obtain⟨h1,h2⟩:=mL0 I1 r1 ty
 exact⟨T,id,pa,slot,hty,h1,h2,Calls.callWith_builtin rfl (PySem.evalArgs_none (hm pins s1 σ H1 x [] v [] Q I1 r1 .nil q1))⟩
theorem fF0 (pa:PlainAttrs T)(slot:Slot T name id)(hty:typeOf (.builtin id)=pure (.type "method_descriptor")) (hm:MtR X id r) (ho:PE X o to) (ha:PA X (e::es) t)
  (hbase:attributeBase o name X.env (eval o X.env)=eval o X.env:=by rfl)
  (hfew:((backTo cpos (starEach (e::es) X.env)).all (fun x=> !x.1) && (backToKw cpos (keywordEach [] X.env)).all (fun x=>x.1.isSome)
   && decide ((e::es).length+([]:List Keyword).length+(if([]:List Keyword).isEmpty then 0 else 1)<30))=true:=by rfl)
  (hline:(apos.endLine==cpos.line)=true:=by rfl) (hs:starEach (e::es) X.env=(false,eval e X.env)::starEach es X.env:=by rfl) (hplain:(backTo cpos (starEach es X.env)).any (·.1)=false:=by rfl):
  PE X (.Call (.Attribute o name apos) (e::es) [] cpos) (tBM X.K T r to t):=by
 intro pins s σ H Q I h
 refine wpAny_Call_method_late hbase hfew hline rfl (thn (ho pins s σ H _ I h) fun v s1 ⟨x,H1,I1,r1,ty,q1⟩=> ?_)
 obtain⟨h1,h2⟩:=mL0 I1 r1 ty
 refine⟨T,id,pa,slot,hty,h1,h2,?_⟩
 have hA:=ha cpos pins s1 σ H1 _ I1 q1
 rw [hs] at hA ⊢
 refine Calls.callWith_builtin (by show (false||(backTo cpos (starEach es X.env)).any (·.1))=false; rw [hplain]<;>rfl) (Calls.evalArgs_plain ?_)
 exact thn hA fun us s2 ⟨vs,H2,I2,r2,q2⟩=>hm pins s2 σ H2 x vs v us Q I2 r1 r2 q2
end
end L2
namespace L2
open PySem PySem.Spec PyProof.Rows
def MtM (X:Cx)(id:String)(r:V->List V->Hp->VK->Prop):Prop:=
 ∀(pins:List (Addr × Obj)) (s:Shared) (σ:St) (H:Hp) (x:V) (xs:List V) (v:Value) (us:List Value) (Q:VK),Inv X pins σ H s->RelV x v->Vals xs us->r x xs H Q->
  wpAny (model X.prog X.w) X.A (call (.builtin id) (v::us)) (EP X pins σ Q) X.xe s
theorem Vals.one:∀{x:V} {us:List Value},Vals [x] us->∃u,us=[u]/\RelV x u
 |_,_,.cons r .nil=>⟨_,rfl,r⟩
theorem Vals.zero:∀{us:List Value},Vals [] us->us=[]
 |_,.nil=>rfl
theorem Vals.dropLast {xs:List V}{us:List Value}(h:Vals xs us):Vals xs.dropLast us.dropLast:=by
 induction h with
 |nil=>exact .nil
 |cons r t ih=>
  cases t with
  |nil=>exact .nil
  |cons q t'=>exact .cons r ih
theorem is0 {α:Type}(l:List α):l.eraseIdx (l.length - 1)=l.dropLast:=by
 induction l with
 |nil=>rfl
 |cons a r ih=>
  cases r with
  |nil=>rfl
  |cons b r=>
   have e:(a::b::r).length - 1=((b::r).length - 1)+1:=by
    have h1:(a::b::r).length=r.length+2:=rfl
    have h2:(b::r).length=r.length+1:=rfl
    omega
   rw [e,List.eraseIdx_cons_succ,ih]
   all_goals rfl
section
variable {X:Cx}{pins:List (Addr × Obj)}{σ:St}{H:Hp}{s:Shared}{l b:Addr}{xs ys zs:List V}
theorem Inv.lset {its its':List Value}{n:Nat}{f:Array Value->Array Value}{t':Nat}(I:Inv X pins σ H s)(hH:H l=some (.lst xs))
  (e:s.heap.get? l=some {cls:=.type "list",data:=.seq its.toArray n}) (hf:f its.toArray=its'.toArray) (hv:Vals ys its') (hz:ys.length<=sizeLine):
  Inv X pins σ (upd H l (.lst ys)) {s with heap:=s.heap.update l (Obj.mapSeq f),toks:=t'}:=by
 have q:=PySem.IsL.update e f
 rw [hf] at q
 refine I.write (x:=l) (e:=l) (by rw [hH]; exact trivial) (.inl rfl) (fun b' u hb hu=>(Heap.get?_update_other s.heap (Obj.mapSeq f) (Ne.symm hb)).trans hu) ⟨_,q⟩ ?_
 exact⟨hz,its',_,hv,q⟩
theorem Inv.lnew {its:List Value}{t':Nat}(I:Inv X pins σ H s)(hv:Vals ys its)(hz:ys.length<=sizeLine):
  Inv X pins σ (upd H s.heap.objs.size (.lst ys)) {s with heap:=s.heap.push {cls:=.type "list",data:=.seq its.toArray},toks:=t'}:=
 I.laid (fun _ _ q=>Heap.get?_push_of_some _ q) (Nat.le_refl _) ⟨hz,its,0,hv,Heap.get?_push_size _ rfl⟩
theorem Inv.fresh (I:Inv X pins σ H s):H s.heap.objs.size=none:=I.hok.fresh (Nat.le_refl _)
theorem Inv.lstM (I:Inv X pins σ H s)(hH:H l=some (.lst xs)):xs.length<=sizeLine/\∃(its:List Value) (n:Nat),Vals xs its/\xs.length=its.length/\s.heap.get? l=some {cls:=.type "list",data:=.seq its.toArray n}:=by
 obtain⟨z,its,n,r,e⟩:=I.hok l _ hH
 exact⟨z,its,n,r,r.length,e⟩
theorem mk0 {n:Nat}(h:n<=sizeLine):Builtin.List.listTooLong n=false:=by
 unfold Builtin.List.listTooLong
 exact decide_eq_false (by omega)
end
section
variable {X:Cx}
def ni0:V->List V->Hp->VK->Prop:=fun x vs H Q=>∃l xs y,x=.ref l/\vs=[y]/\H l=some (.lst xs)/\xs.length<sizeLine/\Q .non (upd H l (.lst (xs++ [y])))
theorem cH0:MtM X "list.append" ni0:=by
 intro pins s σ H x vs v us Q I rx rv h
 obtain⟨l,xs,y,rfl,rfl,hH,hz,q⟩:=h
 cases rx
 obtain⟨u,rfl,ru⟩:=rv.one
 obtain⟨z,its,n,r,hl,e⟩:=I.lstM hH
 refine call_meets F.slot_list_append ⟨_,e,rfl⟩ F.entry_list_append (F.args_list_append_2 _ _) (PySem.list_append l its.toArray n u (by rw [List.size_toArray]; omega)) ⟨e,?_⟩
 refine⟨.non,_,I.lset (its':=its++ [u]) hH e (by simp) (r.append (.cons ru .nil)) ?_,rfl,q⟩
 rw [List.length_append,List.length_singleton]
 omega
def np0:V->List V->Hp->VK->Prop:=fun x vs H Q=>∃l b xs zs,x=.ref l/\vs=[.ref b]/\H l=some (.lst xs)/\H b=some (.lst zs)/\xs.length+zs.length<=sizeLine/\Q .non (upd H l (.lst (xs++zs)))
theorem fR0:MtM X "list.extend" np0:=by
 intro pins s σ H x vs v us Q I rx rv h
 obtain⟨l,b,xs,zs,rfl,rfl,hH,hB,hz,q⟩:=h
 cases rx
 obtain⟨u,rfl,ru⟩:=rv.one
 cases ru
 obtain⟨z,its,n,r,hl,e⟩:=I.lstM hH
 obtain⟨z2,its2,n2,r2,hl2,e2⟩:=I.lstM hB
 have hsz:its.toArray.size+its2.toArray.size<=sizeLine:=by rw [List.size_toArray,List.size_toArray]; omega
 have hlong:¬(!its.toArray.isEmpty && Builtin.List.listTooLong (its.toArray.size+its2.toArray.size))=true:=by
  rw [mk0 hsz,Bool.and_false]
  exact Bool.false_ne_true
 refine call_meets F.slot_list_extend ⟨_,e,rfl⟩ F.entry_list_extend (F.args_list_extend_2 _ _)
  (AutoSeq1.list_extend_list_list_0 l its.toArray n b its2.toArray n2 hlong (by rw [List.size_toArray]; omega) (by omega)) ⟨e,e2,?_⟩
 refine⟨.non,_,I.lset (its':=its++its2) hH e (by simp) (r.append r2) ?_,rfl,q⟩
 rw [List.length_append]
 omega
def rPop:V->List V->Hp->VK->Prop:=fun x vs H Q=>∃l xs y,x=.ref l/\vs=[]/\H l=some (.lst xs)/\xs[xs.length - 1]?=some y/\Q y (upd H l (.lst xs.dropLast))
theorem oP0:MtM X "list.pop" rPop:=by
 intro pins s σ H x vs v us Q I rx rv h
 obtain⟨l,xs,y,rfl,rfl,hH,hy,q⟩:=h
 cases rx
 have hus:=rv.zero
 subst hus
 obtain⟨z,its,n,r,hl,e⟩:=I.lstM hH
 obtain⟨u,hu,ru⟩:=r.get hy
 have hy':its.toArray[its.toArray.size - 1]?=some u:=by
  show its.toArray[its.length - 1]?=some u
  rw [<- Array.getElem?_toList,<- hl]
  exact hu
 refine call_meets F.slot_list_pop ⟨_,e,rfl⟩ F.entry_list_pop (F.args_list_pop_1 _) (MeetsSeq.list_pop_last l its.toArray n u hy' (by rw [List.size_toArray]; omega)) ⟨e,?_⟩
 refine⟨y,_,I.lset (its':=its.dropLast) hH e ?_ r.dropLast ?_,ru,q⟩
 ·show its.toArray.eraseIdxIfInBounds (its.toArray.size - 1)=its.dropLast.toArray
  rw [List.size_toArray,List.eraseIdxIfInBounds_toArray,is0]
 ·rw [List.length_dropLast]
  omega
def rCat:R2:=fun x y H Q=>∃l b xs zs,x=.ref l/\y=.ref b/\H l=some (.lst xs)/\H b=some (.lst zs)/\xs.length+zs.length<=sizeLine/\∀p,H p=none->Q (.ref p) (upd H p (.lst (xs++zs)))
theorem pG0:OpR X (binaryOp .Add) rCat:=by
 intro pins s σ H x y v u Q I rx ry h
 obtain⟨l,b,xs,zs,rfl,rfl,hH,hB,hz,q⟩:=h
 cases rx
 cases ry
 obtain⟨z,its,n,r,hl,e⟩:=I.lstM hH
 obtain⟨z2,its2,n2,r2,hl2,e2⟩:=I.lstM hB
 refine PySem.P.add_list e e2 ?_ (by rw [List.size_toArray,List.size_toArray]; omega)
 have ea:its.toArray++its2.toArray=(its++its2).toArray:=by simp
 rw [ea]
 exact⟨.ref _,_,I.lnew (t':=s.toks) (r.append r2) (by rw [List.length_append]; omega),rfl,q _ I.fresh⟩
end
section
variable {prog:Program}{w:World}{A:Around}{E:Value->Shared->Prop}{s:Shared}
set_option maxRecDepth 100000 in
end
section
variable {X:Cx}
end
end L2
namespace L2
open PySem PySem.Spec PyProof.Rows
section
variable {κ:Type} [DecidableEq κ]
def valV (kvs:List (κ × V))(k:κ):Option V:=(kvs.find? fun kv=>decide (kv.1=k)).map (·.2)
def putK (kvs:List (κ × V))(k:κ)(v:V):List (κ × V):=
 if(kvs.any fun kv=>decide (kv.1=k))=true then kvs.map (fun kv=>if kv.1=k then(kv.1,v) else kv) else kvs++ [(k,v)]
theorem bo0 {p:κ × V}{r:List (κ × V)}{k:κ}(e:p.1=k):valV (p::r) k=some p.2:=by simp [valV,List.find?_cons,e]
theorem bk0 {p:κ × V}{r:List (κ × V)}{k:κ}(e:¬p.1=k):valV (p::r) k=valV r k:=by simp [valV,List.find?_cons,e]
theorem fb0 (k:κ):∀kvs:List (κ × V),(kvs.any fun kv=>decide (kv.1=k))=(valV kvs k).isSome
 | []=>rfl
 |p::r=>by
  rw [List.any_cons]
  by_cases e:p.1=k
  ·simp only [bo0 e,decide_eq_true e,Bool.true_or,Option.isSome_some]
  ·rw [bk0 e,decide_eq_false e,Bool.false_or]; exact fb0 k r
theorem eb0 (k j:κ)(y:V):∀kvs:List (κ × V),valV kvs k=none->valV (kvs++ [(k,y)]) j=if j=k then some y else valV kvs j
 | [],_=>by
  by_cases e:k=j
  ·rw [if_pos e.symm]; exact bo0 (p:=(k,y)) e
  ·rw [if_neg (fun z=>e z.symm)]; exact bk0 (p:=(k,y)) e
 |p::r,hn=>by
  rw [List.cons_append]
  have hk:¬p.1=k:=fun z=>by rw [bo0 z] at hn; cases hn
  rw [bk0 hk] at hn
  have ih:=eb0 k j y r hn
  by_cases e:p.1=j
  ·rw [bo0 e,bo0 e,if_neg (fun z=>hk (e.trans z))]
  ·rw [bk0 e,bk0 e,ih]
theorem eo0 (kvs:List (κ × V))(k:κ)(v:V):(putK kvs k v).length<=kvs.length+1:=by
 unfold putK
 split
 ·rw [List.length_map]; omega
 ·rw [List.length_append,List.length_cons,List.length_nil]; omega
theorem dM0 {kvs:List (κ × V)}{k:κ}(v:V)(h:valV kvs k=none):putK kvs k v=kvs++ [(k,v)]:=by
 unfold putK
 rw [fb0,h]
 exact if_neg (by decide)
theorem RelO.isSome_eq {o:Option V}{u:Option Value}(r:RelO o u):o.isSome=u.isSome:=by
 cases o with
 |none=>cases u with
  |none=>rfl
  |some _=>exact(show False from r).elim
 |some _=>cases u with
  |none=>exact(show False from r).elim
  |some _=>rfl
theorem KV.val {kvs:List (κ × V)}{vs:List (κ × Value)}(r:KV kvs vs)(k:κ):RelO (valV kvs k) (valueAt vs k):=by
 unfold KV at r
 induction r with
 |nil=>exact True.intro
 | @cons p q ps qs h t ih=>
  obtain⟨h1,h2⟩:=h
  by_cases e:p.1=k
  ·have e':q.1=k:=h1.symm.trans e
   have b:valueAt (q::qs) k=some q.2:=by simp [valueAt,List.find?_cons,e']
   rw [bo0 e,b]; exact h2
  ·have e':¬q.1=k:=fun z=>e (h1.trans z)
   have b:valueAt (q::qs) k=valueAt qs k:=by simp [valueAt,List.find?_cons,e']
   rw [bk0 e,b]; exact ih
theorem KV.any {kvs:List (κ × V)}{vs:List (κ × Value)}(r:KV kvs vs)(k:κ):(kvs.any fun kv=>decide (kv.1=k))=vs.any fun kv=>decide (kv.1=k):=by
 unfold KV at r
 induction r with
 |nil=>rfl
 |cons h t ih=>rw [List.any_cons,List.any_cons,ih,h.1]
theorem KV.repl {kvs:List (κ × V)}{vs:List (κ × Value)}(r:KV kvs vs)(k:κ){y:V}{u:Value}(ry:RelV y u):
  KV (kvs.map fun kv=>if kv.1=k then(kv.1,y) else kv) (vs.map fun kv=>if kv.1=k then(kv.1,u) else kv):=by
 unfold KV at r ⊢
 induction r with
 |nil=>exact .nil
 | @cons p q ps qs h t ih=>
  rw [List.map_cons,List.map_cons]
  refine .cons ?_ ih
  obtain⟨h1,h2⟩:=h
  by_cases e:p.1=k
  ·rw [if_pos e,if_pos (h1.symm.trans e)]; exact⟨h1,ry⟩
  ·rw [if_neg e,if_neg (fun z=>e (h1.trans z))]; exact⟨h1,h2⟩
theorem KV.put {kvs:List (κ × V)}{vs:List (κ × Value)}(r:KV kvs vs)(k:κ){y:V}{u:Value}(ry:RelV y u):KV (putK kvs k y) (stored vs k u):=by
 unfold putK stored
 rw [r.any k]
 by_cases e:(vs.any fun kv=>decide (kv.1=k))=true
 ·rw [if_pos e,if_pos e]; exact r.repl k ry
 ·rw [if_neg e,if_neg e]; exact Paired.snoc r ⟨rfl,ry⟩
theorem KV.length {kvs:List (κ × V)}{vs:List (κ × Value)}(r:KV kvs vs):kvs.length=vs.length:=Paired.length r
end
theorem mA0 {P:Program}{w:World}{k:Key}{u:Value}(r:RelV (kV k) u):(aN0 P w).is k u=true:=by
 cases k with
 |inl i=>obtain⟨t,e⟩:=(show∃t,u=Value.int i t from r); subst e; exact gs0 P w i t
 |inr x=>obtain⟨t,e⟩:=(show∃t,u=Value.str x t from r); subst e; exact gw0 P w x t
abbrev KT (H:Hp):List (SK × V)->List (SK × Addr × Value)->Prop:=Paired fun p q=>p.1=q.1/\KeyAt H q.2.1 p.1/\RelV p.2 q.2.2
theorem KT.val {H:Hp}{kvs:List (SK × V)}{xs:List (SK × Addr × Value)}(r:KT H kvs xs)(k:SK):RelO (valV kvs k) ((atKey xs k).map (·.2)):=by
 induction r with
 |nil=>exact True.intro
 | @cons p q ps qs h t ih=>
  obtain⟨h1,_,h2⟩:=h
  by_cases e:p.1=k
  ·have e':q.1=k:=h1.symm.trans e
   have b:atKey (q::qs) k=some q.2:=by simp [atKey,List.find?_cons,e']
   rw [bo0 e,b]; exact h2
  ·have e':¬q.1=k:=fun z=>e (h1.trans z)
   have b:atKey (q::qs) k=atKey qs k:=by simp [atKey,List.find?_cons,e']
   rw [bk0 e,b]; exact ih
theorem KT.repl {H:Hp}{kvs:List (SK × V)}{xs:List (SK × Addr × Value)}(r:KT H kvs xs)(k:SK){y:V}{u:Value}(ry:RelV y u):
  KT H (kvs.map fun kv=>if kv.1=k then(kv.1,y) else kv) (xs.map (putAt k u)):=by
 induction r with
 |nil=>exact .nil
 | @cons p q ps qs h t ih=>
  rw [List.map_cons,List.map_cons]
  refine .cons ?_ ih
  obtain⟨h1,h2,h3⟩:=h
  unfold putAt
  by_cases e:p.1=k
  ·rw [if_pos e,if_pos (h1.symm.trans e)]; exact⟨h1,h2,ry⟩
  ·rw [if_neg e,if_neg (fun z=>e (h1.trans z))]; exact⟨h1,h2,h3⟩
theorem KT.put {H:Hp}{kvs:List (SK × V)}{xs:List (SK × Addr × Value)}(r:KT H kvs xs)(k:SK){b:Addr}{y:V}{u:Value}(hb:KeyAt H b k)(ry:RelV y u):
  KT H (putK kvs k y) (storedH xs k b u):=by
 have e:(kvs.any fun kv=>decide (kv.1=k))=(atKey xs k).isSome:=by
  rw [fb0,(r.val k).isSome_eq,Option.isSome_map]
 unfold putK storedH
 rw [e]
 by_cases q:(atKey xs k).isSome=true
 ·rw [if_pos q,if_pos q]; exact r.repl k ry
 ·rw [if_neg q,if_neg q]; exact Paired.snoc r ⟨rfl,hb,ry⟩
theorem KT.keeps {H H':Hp}{kvs:List (SK × V)}{xs:List (SK × Addr × Value)}(r:KT H kvs xs)(ht:∀b ys,H b=some (.tup ys)->H' b=some (.tup ys)):KT H' kvs xs:=
 Paired.mapP r fun _ _ z=>⟨z.1,z.2.1.keeps ht,z.2.2⟩
section
variable {P:Program}{w:World}{H:Hp}{h:Heap}{a:Addr}
theorem rd_of {u:HO}(ok:HOk P w H h)(e:Rd H a u):ObjOk P w H h a u:=e.ok ok
theorem jP0 {kvs:List (Key × V)}(ok:HOk P w H h)(e:Rd H a (.dK kvs)):kvs.length<=sizeLine/\(a==sysModules)=false/\∃vs,KV kvs vs/\h.DictOf (aN0 P w) a vs:=
 show ObjOk P w H h a (.dK kvs) from rd_of ok e
theorem dk_of {kvs:List (Key × V)}(ok:HOk P w H h)(e:H a=some (.dK kvs)):kvs.length<=sizeLine/\(a==sysModules)=false/\∃vs,KV kvs vs/\h.DictOf (aN0 P w) a vs:=jP0 ok (.inl e)
theorem lp0 {xs:List V}(ok:HOk P w H h)(e:H a=some (.tup xs)):∃its:List Value,Vals xs its/\h.IsTuple a its.toArray:=by
 obtain⟨_,its,r,q,_⟩:=(show ObjOk P w H h a (.tup xs) from ok a _ e)
 exact⟨its,r,q⟩
theorem Vals.ints:∀{js:List Int} {us:List Value},Vals (js.map V.int) us->Paired isInt js us
 | [],_,r=>by cases r; exact .nil
 |j::js,_,r=>by
  rw [List.map_cons] at r
  cases r with
  |cons p t=>exact .cons p (Vals.ints t)
theorem hw0 {ks:SK}(ok:HOk P w H h)(e:KeyAt H a ks):(bO0 P w).is h ks a:=by
 obtain⟨xs,h1,r⟩:=e
 obtain⟨its,vs,ht⟩:=lp0 ok h1
 refine⟨a,its.toArray,rfl,ht,?_⟩
 rw [List.toList_toArray]
 clear h1 ht
 induction r generalizing its with
 |nil=>cases vs; exact .nil
 |cons p _ ih=>
  cases vs with
  |cons pv vs=>
   obtain⟨c,d,rfl,h2,h3⟩:=p
   cases pv
   refine .cons ?_ (ih _ vs)
   obtain⟨l1,v1,t1⟩:=lp0 ok h2
   obtain⟨l2,v2,t2⟩:=lp0 ok h3
   cases v1 with
   |cons q1 v1=>
    cases v1 with
    |cons q2 v1=>
     cases v1
     cases q2
     exact⟨c,_,rfl,t1,_,_,rfl,q1,d,_,rfl,t2,by rw [List.toList_toArray]; exact v2.ints⟩
theorem ga0 {kvs:List (SK × V)}(ok:HOk P w H h)(e:Rd H a (.dT kvs)):kvs.length<=sizeLine/\(a==sysModules)=false/\
  ∃xs,KT H kvs xs/\h.DictOfH (bO0 P w) a xs:=by
 obtain⟨z,y,xs,r,o,es,ep,h1,h2,h3,h4,h5⟩:=(show ObjOk P w H h a (.dT kvs) from rd_of ok e)
 refine⟨z,y,xs,r,o,es,ep,h1,h2,h3,h4,fun x hx=> ?_,h5⟩
 have all:∀{l:List (SK × V)} {m:List (SK × Addr × Value)},KT H l m->∀x∈m,(bO0 P w).is h x.1 x.2.1:=by
  intro l m q
  induction q with
  |nil=>intro x hx; exact nomatch hx
  | @cons p q ps qs hq t ih=>
   intro x hx
   rcases List.mem_cons.mp hx with e|hx
   ·subst e
    exact hw0 ok (by rw [<- hq.1]; exact hq.2.1)
   ·exact ih x hx
 exact all r x hx
theorem dt_of {kvs:List (SK × V)}(ok:HOk P w H h)(e:H a=some (.dT kvs)):kvs.length<=sizeLine/\(a==sysModules)=false/\
  ∃xs,KT H kvs xs/\h.DictOfH (bO0 P w) a xs:=ga0 ok (.inl e)
end
def DGet (H:Hp)(a:Addr)(y:V)(r:Option V):Prop:=
 (∃kvs k,Rd H a (.dK kvs)/\y=kV k/\r=valV kvs k)\/ ∃kvs k b,Rd H a (.dT kvs)/\y=.ref b/\KeyAt H b k/\r=valV kvs k
def DPut (H:Hp)(a:Addr)(y v:V)(H':Hp):Prop:=
 (∃kvs k,H a=some (.dK kvs)/\y=kV k/\kvs.length<sizeLine/\H'=upd H a (.dK (putK kvs k v)))\/
 ∃kvs k b,H a=some (.dT kvs)/\y=.ref b/\KeyAt H b k/\kvs.length<sizeLine/\H'=upd H a (.dT (putK kvs k v))
theorem DGet.k {H:Hp}{a:Addr}{kvs:List (Key × V)}{k:Key}(e:H a=some (.dK kvs)):DGet H a (kV k) (valV kvs k):=.inl ⟨kvs,k,.inl e,rfl,rfl⟩
theorem DGet.t {H:Hp}{a b:Addr}{kvs:List (SK × V)}{k:SK}(e:H a=some (.dT kvs))(eb:KeyAt H b k):DGet H a (.ref b) (valV kvs k):=.inr ⟨kvs,k,b,.inl e,rfl,eb,rfl⟩
theorem DPut.k {H:Hp}{a:Addr}{kvs:List (Key × V)}{k:Key}{v:V}(e:H a=some (.dK kvs))(hl:kvs.length<sizeLine):DPut H a (kV k) v (upd H a (.dK (putK kvs k v))):=.inl ⟨kvs,k,e,rfl,hl,rfl⟩
theorem DPut.t {H:Hp}{a b:Addr}{kvs:List (SK × V)}{k:SK}{v:V}(e:H a=some (.dT kvs))(eb:KeyAt H b k)(hl:kvs.length<sizeLine):
  DPut H a (.ref b) v (upd H a (.dT (putK kvs k v))):=.inr ⟨kvs,k,b,e,rfl,eb,hl,rfl⟩
theorem gt0 {P:Program}{w:World}{A:Around}(hu:A.units+4<cLine):(bO0 P w).room A.in1:=by show A.units+1+2<cLine; omega
section
variable {X:Cx}{pins:List (Addr × Obj)}{σ:St}{H:Hp}{s:Shared}{a:Addr}{y v:V}{u r:Value}{o:Option V}{A:Around}{E:Value->Shared->Prop}
theorem Inv.big (I:Inv X pins σ H s):sysModules<s.heap.objs.size:=by
 have h:mainGlobals<s.heap.objs.size:=(I.mod.glob.keeps I.bk).lt
 exact Nat.lt_trans (by decide) h
theorem kL0 {Q:Value->Shared->Prop}(hu:A.units+4<cLine)(I:Inv X pins σ H s)(g:DGet H a y (some v))(ry:RelV y u)(h:∀w' s',Inv X pins σ H s'->RelV v w'->Q w' s'):
  wpAny (model X.prog X.w) A (getItem (.ref a) u) Q E s:=by
 rcases g with⟨kvs,k,e,ey,l⟩|⟨kvs,k,b,e,ey,eb,l⟩
 ·subst ey
  obtain⟨z,hd,vs,rel,dd⟩:=jP0 I.hok e
  obtain⟨w',hw,rw'⟩:=RelO.some_of (v:=v) (o:=valueAt vs k) (by rw [l]; exact rel.val k)
  exact wpAny_getItem_of (mA0 ry) dd.mapOf hw (h w' _ (I.tok _) rw')
 ·subst ey
  cases (show u=Value.ref b from ry)
  obtain⟨z,hd,xs,rel,dd⟩:=ga0 I.hok e
  obtain⟨w',hw,rw'⟩:=RelO.some_of (v:=v) (o:=(atKey xs k).map (·.2)) (by rw [l]; exact rel.val k)
  obtain⟨p,hp,hp2⟩:=Option.map_eq_some_iff.mp hw
  refine wpAny_getItem_heap (gt0 hu) (hw0 I.hok eb) dd hp ?_
  rw [hp2]
  exact h w' _ (I.tok _) rw'
theorem ol0 {Q:Value->Shared->Prop}(hu:A.units+4<cLine)(I:Inv X pins σ H s)(g:DGet H a y o)(ry:RelV y u)(h:∀s',Inv X pins σ H s'->Q (.bool (!o.isSome)) s'):
  wpAny (model X.prog X.w) A (compareOp .NotIn u (.ref a)) Q E s:=by
 rcases g with⟨kvs,k,e,ey,l⟩|⟨kvs,k,b,e,ey,eb,l⟩
 ·subst ey
  obtain⟨z,hd,vs,rel,dd⟩:=jP0 I.hok e
  refine wpAny_notIn_of (mA0 ry) hd dd.mapOf ?_
  rw [<- (rel.val k).isSome_eq,<- l]
  exact h _ (I.tok _)
 ·subst ey
  cases (show u=Value.ref b from ry)
  obtain⟨z,hd,xs,rel,dd⟩:=ga0 I.hok e
  refine wpAny_notIn_heap (gt0 hu) (hw0 I.hok eb) hd dd ?_
  have q:=(rel.val k).isSome_eq
  rw [Option.isSome_map] at q
  rw [<- q,<- l]
  exact h _ (I.tok _)
theorem gu0 {h':Heap}{t':Nat}{ob:HO}(I:Inv X pins σ H s)(mu:Mut (H a))(hs:Heap.SameBut a s.heap h')(he:∃q,h'.get? a=some q)(new:ObjOk X.prog X.w (upd H a ob) h' a ob):
  Inv X pins σ (upd H a ob) {s with heap:=h',toks:=t'}:=
 I.write (x:=a) (e:=a) mu (.inl rfl) (fun b q hb z=>(hs.2 b hb).trans z) he new
theorem mY0 {P:Program}{w:World}{H':Hp}{h':Heap}{kvs:List (Key × V)}{vs:List (Key × Value)}(z:kvs.length<=sizeLine)(hd:(a==sysModules)=false)(rel:KV kvs vs)(dd:h'.DictOf (aN0 P w) a vs):
  ObjOk P w H' h' a (.dK kvs):=⟨z,hd,vs,rel,dd⟩
theorem kX0 {H':Hp}{Q:Unit->Shared->Prop}(hu:A.units+4<cLine)(I:Inv X pins σ H s)(g:DPut H a y v H')(ry:RelV y u)(rv:RelV v r)(h:∀s',Inv X pins σ H' s'->Q () s'):
  wpAny (model X.prog X.w) A (setItem (.ref a) u r) Q E s:=by
 rcases g with⟨kvs,k,e,ey,l,eH⟩|⟨kvs,k,b,e,ey,eb,l,eH⟩
 ·subst ey eH
  obtain⟨z,hd,vs,rel,dd⟩:=dk_of I.hok e
  have hz:vs.length<=sizeLine:=by rw [<- rel.length]; exact z
  have hl:(putK kvs k v).length<=sizeLine:=by have:=eo0 kvs k v; omega
  refine wpAny_setItem_pairs (hsz:=hz) (mA0 ry) dd fun h' dd' hs=>h _ ?_
  have he:∃q,h'.get? a=some q:=let ⟨q,_,_,hq,_⟩:=dd'; ⟨q,hq⟩
  exact gu0 I (by rw [e]; exact True.intro) hs he (mY0 hl hd (rel.put k rv) dd')
 ·subst ey eH
  cases (show u=Value.ref b from ry)
  obtain⟨z,hd,xs,rel,dd⟩:=dt_of I.hok e
  have hz:xs.length<=sizeLine:=by rw [<- Paired.length rel]; exact z
  have hl:(putK kvs k v).length<=sizeLine:=by have:=eo0 kvs k v; omega
  refine wpAny_setItem_heap (hsz:=hz) (gt0 hu) (hw0 I.hok eb) dd fun h' dd' hs=>h _ ?_
  obtain⟨q,es,ep,hq,h2,h3,h4,_,h5⟩:=dd'
  refine gu0 I (by rw [e]; exact True.intro) hs ⟨q,hq⟩ ⟨hl,hd,_,(rel.put k eb rv).keeps fun c ys ec=> ?_,q,es,ep,hq,h2,h3,h4,h5⟩
  rw [ah0 (bJ0 ec e (fun z=>nomatch z))]
  exact ec
end
section
variable {X:Cx}{pins:List (Addr × Obj)}{σ:St}{H:Hp}{s:Shared}{a:Addr}{kvs:List (Key × V)}{k:Key}{u:Value}{A:Around}{E:Value->Shared->Prop}
end
def NoSl (i:Expr):Prop:=∀ov iv,subscripted i false ov iv=operate [ov,iv] (getItem ov iv)
theorem nv0 {prog:Program}{w:World}{A:Around}{E:Value->Shared->Prop}{s:Shared}{env:Env}{value slice:Expr}{pos:Pos}{T id:String}{Q:Value->Shared->Prop}
  (hl:typeLookup (.type T) "__getitem__" =pure (some (.builtin id))) (hs:NoSl slice)
  (h:wpAny (model prog w) A (eval value env) (fun o s₁=>wpAny (model prog w) A (eval slice env) (fun i s₂=>s₂.TypeIs o T/\wpAny (model prog w) A (getItem o i) Q E s₂) E s₁) E s):
  wpAny (model prog w) A (eval (.Subscript value slice pos) env) Q E s:=by
 refine Subscript_ (wpAny_mono h (fun o s₁ h₁=>wpAny_mono h₁ (fun i s₂ h₂=> ?_) fun _ _ x=>x) fun _ _ x=>x)
 obtain⟨hT,h₂⟩:=h₂
 unfold subscriptTail
 refine wpAny_bind ?_
 rw [getitemInPython_of_ne hT.not_modules]
 refine wpAny_bind (wpAny_specialOf hT hl ?_)
 have fin:wpAny (model prog w) A (subscripted slice false o i) (fun r s₃=>wpAny (model prog w) A (letTemporaryGo value o r>>=fun _=>pure r) Q E s₃) E s₂:=by
  rw [hs o i]
  exact wpAny_operating (wpAny_mono h₂ (fun r s₃ h₃=>wpAny_bind (wpAny_letTemporaryGo (wpAny_pure h₃))) fun _ _ x=>x)
 first
  |exact wpAny_pure (wpAny_bind fin)
  |exact wpAny_bind (wpAny_pure (wpAny_bind fin))
  |exact wpAny_bind fin
theorem gz0 {X:Cx}{pins:List (Addr × Obj)}{σ:St}{H:Hp}{s:Shared}{a:Addr}{y:V}{o:Option V}(I:Inv X pins σ H s)(g:DGet H a y o):s.TypeIs (.ref a) "dict" :=by
 rcases g with⟨kvs,k,e,_,_⟩|⟨kvs,k,b,e,_,_,_⟩
 ·obtain⟨_,_,vs,_,dd⟩:=jP0 I.hok e
  exact dd.typeIs
 ·obtain⟨_,_,xs,_,dd⟩:=ga0 I.hok e
  exact dd.typeIs
def tDGet (td ty:TE):TE:=fun σ H Q=>td σ H fun x H1=>ty σ H1 fun y H2=>∃a v,x=.ref a/\DGet H2 a y (some v)/\Q v H2
def nw0 (ty td:TE):TE:=fun σ H Q=>ty σ H fun y H1=>td σ H1 fun x H2=>∃a o,x=.ref a/\DGet H2 a y o/\Q (.bl (!o.isSome)) H2
def sDPut (td ty tv:TE):TS:=fun D σ H=>tv σ H fun v H1=>td σ H1 fun x H2=>ty σ H2 fun y H3=>∃a H4,x=.ref a/\DPut H3 a y v H4/\D.nx σ H4
section
variable {X:Cx}{o i e value:Expr}{pos pos' tpos:Pos}{td ty tv:TE}
theorem cU0 (hu:X.A.units+4<cLine)(ho:PE X o td)(hi:PE X i ty)(hs:NoSl i):PE X (.Subscript o i pos) (tDGet td ty):=by
 intro pins s σ H Q I h
 refine nv0 PySem.F.slot_dict_getitem.lookup hs (thn (ho pins s σ H _ I h) fun u s1 ⟨x,H1,I1,rx,q1⟩=>thn (hi pins s1 σ H1 _ I1 q1) fun iv s2 ⟨y,H2,I2,ry,a,v,ex,g,q2⟩=> ?_)
 subst ex
 obtain rfl:u=Value.ref a:=rx
 exact⟨gz0 I2 g,kL0 hu I2 g ry fun w' s3 I3 rw'=>⟨v,H2,I3,rw',q2⟩⟩
theorem dS0 (hu:X.A.units+4<cLine)(hi:PE X i ty)(ho:PE X o td):PC X .NotIn i o (nw0 ty td):=by
 intro pins s σ H Q I h
 refine thn (hi pins s σ H _ I h) fun iv s1 ⟨y,H1,I1,ry,q1⟩=>thn (ho pins s1 σ H1 _ I1 q1) fun u s2 ⟨x,H2,I2,rx,a,ov,ex,g,q2⟩=> ?_
 subst ex
 obtain rfl:u=Value.ref a:=rx
 exact ol0 hu I2 g ry fun s3 I3=>⟨.bl (!ov.isSome),H2,I3,rfl,q2⟩
theorem ec0 (hu:X.A.units+4<cLine)(ho:PE X o td)(hi:PE X i ty)(hv:PE X value tv)(hs:swapsWith value (some (.Subscript o i pos')) pos.line X.env=pure false):
  PS X (.Assign [.Subscript o i pos'] value pos) (sDPut td ty tv):=by
 intro pins s σ H D I h
 refine wpAny_Assign_Subscript (thn (hv pins s σ H _ I h) fun r s1 ⟨v,H1,I1,rv,q1⟩=>thn (ho pins s1 σ H1 _ I1 q1) fun u s2 ⟨x,H2,I2,rx,q2⟩=>thn (hi pins s2 σ H2 _ I2 q2) fun iv s3 ⟨y,H3,I3,ry,a,H4,ex,g,q3⟩=> ?_) hs
 subst ex
 obtain rfl:u=Value.ref a:=rx
 exact kX0 hu I3 g ry rv fun s4 I4=>⟨σ,H4,I4,q3⟩
end
theorem lJ0 {P:Program}{w:World}{H:Hp}(h:Heap)(hb:sysModules<h.objs.size):ObjOk P w H (h.push {cls:=.type "dict",data:=.dict #[]}) h.objs.size (.dK []):=
 ⟨Nat.zero_le _,beq_eq_false_iff_ne.mpr (Ne.symm (Nat.ne_of_lt hb)),[],.nil,Heap.DictOf.new h⟩
theorem me0 {P:Program}{w:World}{H:Hp}(h:Heap)(hb:sysModules<h.objs.size):ObjOk P w H (h.push {cls:=.type "dict",data:=.dict #[]}) h.objs.size (.dT []):=
 ⟨Nat.zero_le _,beq_eq_false_iff_ne.mpr (Ne.symm (Nat.ne_of_lt hb)),[],.nil,_,#[],0,Heap.get?_push_size _ rfl,⟨rfl,rfl,rfl⟩,rfl,rfl,List.nodup_nil⟩
def pJ0:TE:=fun _ H Q=>∀p,H p=none->Q (.ref p) (upd H p (.dK []))
def ph0:TE:=fun _ H Q=>∀p,H p=none->Q (.ref p) (upd H p (.dT []))
section
variable {X:Cx}{pos:Pos}
theorem hS0:PE X (.Dict [] [] pos) pJ0:=fun pins s σ H Q I h=>
 wpAny_Dict_empty ⟨.ref s.heap.objs.size,_,I.laid (a:=s.heap.objs.size) (o:=.dK []) (t':=s.toks) (fun _ _ q=>Heap.get?_push_of_some _ q) (Nat.le_refl _) (lJ0 s.heap I.big),rfl,h _ (I.hok.fresh (Nat.le_refl _))⟩
theorem fm0:PE X (.Dict [] [] pos) ph0:=fun pins s σ H Q I h=>
 wpAny_Dict_empty ⟨.ref s.heap.objs.size,_,I.laid (a:=s.heap.objs.size) (o:=.dT []) (t':=s.toks) (fun _ _ q=>Heap.get?_push_of_some _ q) (Nat.le_refl _) (me0 s.heap I.big),rfl,h _ (I.hok.fresh (Nat.le_refl _))⟩
end
section
variable {X:Cx}{pins:List (Addr × Obj)}{σ:St}{H:Hp}{s:Shared}{a:Addr}{y d:V}{u r:Value}{o:Option V}{A:Around}{E:Value->Shared->Prop}
end
section
variable {X:Cx}{o e f:Expr}{apos cpos:Pos}{td ty tx:TE}
end
section
variable {X:Cx}{pins:List (Addr × Obj)}{σ:St}{H:Hp}{s:Shared}{a:Addr}{kvs:List (Key × V)}{A:Around}{E:Value->Shared->Prop}
theorem lQ0 {Q:Value->Shared->Prop}(I:Inv X pins σ H s)(e:Rd H a (.dK kvs))(h:∀p s',H p=none->Inv X pins σ (upd H p (.dK kvs)) s'->Q (.ref p) s'):wpAny (model X.prog X.w) A (call (.type "dict") [.ref a]) Q E s:=by
 obtain⟨z,hd,vs,rel,dd⟩:=jP0 I.hok e
 refine kt_call_dict hd dd (by rw [<- rel.length]; exact z) fun h' dd' hs=> ?_
 refine h _ _ (I.hok.fresh (Nat.le_refl _)) (I.laid (a:=s.heap.objs.size) (o:=.dK kvs) (t':=s.toks) (fun b q hq=> ?_) (Nat.le_refl _) (mY0 z (beq_eq_false_iff_ne.mpr (Ne.symm (Nat.ne_of_lt I.big))) rel dd'))
 exact(hs.2 b (Nat.ne_of_lt (Heap.lt_size hq))).trans (Heap.get?_push_of_some _ hq)
end
section
variable {X:Cx}{pins:List (Addr × Obj)}{σ:St}{H:Hp}{s:Shared}{a:Addr}{y:V}{u:Value}{A:Around}{E:Value->Shared->Prop}
end
end L2
namespace Att
open PySem PySem.W PySem.Calls PyProof.Rows
theorem ej0 {P:Params}{h:Heap}:∀(ns:List Int) (vs:List Value),WellAll P h vs (ns.map WData.int)->IntsAre vs ns:=by
 intro ns
 induction ns with
 |nil=>
  intro vs w
  rw [List.map_nil] at w
  cases w
  exact .nil
 |cons n ns ih=>
  intro vs w
  rw [List.map_cons] at w
  cases w with
  |cons a b=>
   cases a
   exact .cons _ _ (ih _ b)
theorem jC0 {l:OpenLaw}{n:Nat}(hn:l.most=some n){P:Params}{h:Heap}{args:List WData}{vals:List Value}
  (hpre:l.row.toRowW.claim.pre args=true) (hwl:WellAll P h vals args):
  ∃a vs ns,vals=[Value.ref a]/\args=[WData.list (ns.map WData.int)]/\h.get? a=some {cls:=.type "list",data:=.seq vs.toArray}/\IntsAre vs ns/\ns.length<=n:=by
 have hsh:WShape.hasAll [] args [.list .int]=true:=(pre_splitW hpre).1
 have hc:l.pre.holds [] {args:=args}=true:=(pre_splitW hpre).2
 obtain⟨d,r,rfl,h1,h2⟩:=hasAllW_cons hsh
 obtain rfl:=hasAllW_nil h2
 obtain⟨xs,rfl,h3⟩:=hasW_list h1
 obtain⟨ns,rfl⟩:=items_int h3
 have hlen:ns.length<=n:=by
  unfold OpenLaw.pre at hc
  have h4:(WTm.not (.lt (.lit (.int (n:Int))) (.len (.arg 0)))).holds [] {args:=[.list (ns.map .int)]}=true:=by
   have h4:=(holds_andW hc).1
   rw [hn] at h4
   exact h4
  have h5:=condW_of h4 (w_not (w_lt w_lit (w_len_list (w_arg rfl))))
  rw [List.length_map] at h5
  refine Nat.le_of_not_lt fun q=> ?_
  have q':(n:Int)<((ns.length:Nat):Int):=by omega
  first
   | (rw [decide_eq_true q'] at h5; exact absurd h5 (by decide))
   | (simp at h5; omega)
 cases hwl with
 |cons w1 w2=>
  cases w2
  cases w1 with
  |list ho hall=>exact⟨_,_,ns,rfl,rfl,ho,ej0 ns _ hall,hlen⟩
theorem iZ0 (l:OpenLaw)(args:List WData):l.row.toRowW.claim.post args (.bool true) args=true:=
 postW_of (r:=l.row.toRowW) (X:=(true==true))
  (show WShape.has [] (.bool true) .bool=true by first|rfl|decide|simp [WShape.has,WShape.arms,WShape.armsAll])
  (show (WTm.eq .res (.lit (.bool true))).value [] {args:=args,res:=some (.bool true),after:=args}=some (.bool (true==true)) from w_eq_bool (w_res rfl) w_lit) rfl
theorem attach_call {l:OpenLaw}{n:Nat}{q:Program}{loose:List Str}{XP:(Str->Option Value)->Heap->Prop}{YP:World->Heap->Prop}{d:DefRec}
  (hn:l.most=some n) (hdf:d.params.defaults=[])
  (call:∀(w:World) (s₀ s₁:Shared) (mg mb:Str->Option Value) (fa:Addr) (o:Obj) (pm cd doc:Value) (a:Addr) (vs:List Value) (ns:List Int),
   Ground q loose [] XP w s₀ mg mb s₁.heap->YP w s₁.heap->
   s₁.heap.get? fa=some o->o.data=.func (docDef d.name d.params d.body d.scope pm cd doc)->s₁.heap.CodeRec cd d.name->mg d.name=some (.ref fa)->
   s₁.heap.get? a=some {cls:=.type "list",data:=.seq vs.toArray}->IntsAre vs ns->ns.length<=n->s₁.gens= #[]->
   codeAny (model l.prog w) callerA (.call (.ref fa) ⟨[.ref a],[]⟩) (fun r s'=>r=.ok (.ret (.bool true))/\OldK s₁.heap s'.heap/\s'.os=s₁.os/\AllBare s'.gens) s₁):
  WalkO q loose XP YP l.row.toRowW d [] (fun f vs=>PySem.call f vs):=by
 intro w s₀ s₁ mg mb G Y fa o pm cd doc dV kV ho hd hcd hD hmg hg args vals as hpre hlay hrd hwl hlo
 obtain rfl:dV=.none:=Dflts.none hD hdf
 obtain rfl:kV=.none:=Dflts.noKw hD
 obtain⟨a,vs,ns,rfl,rfl,hobj,hints,hlen⟩:=jC0 hn hpre hwl
 refine enter_call (codeAny_mono (call w s₀ s₁ mg mb fa o pm cd doc a vs ns G Y ho (fd_plain hd) hcd hmg hobj hints hlen hg) fun r s' hq=> ?_)
 obtain⟨rfl,h2,h3,h4⟩:=hq
 exact⟨.inl ⟨.bool true,.bool true,[],rfl,fun _=>rfl,.bool true,iZ0 l _,fun _=>⟨List.Pairwise.nil,fun _ hm=>(nomatch hm)⟩⟩,h2,h3,h4⟩
section
variable {prog:Program}{w:World}{A:Around}{E:Value->Shared->Prop}{s:Shared}{K:Frag}
end
end Att
namespace L2
open PySem PySem.Spec PyProof.Rows
theorem fE0:∀{vs:List Value} {ns:List Int},IntsAre vs ns->Vals (ns.map V.int) vs
 |_,_,.nil=> .nil
 |_,_,.cons n t h=> .cons ⟨t,rfl⟩ (fE0 h)
def Only (H:Hp):Prop:=∀b,H b=none\/ ∃o xs,H b=some (.frz o (.lst xs))
theorem mv0 {P:Program}{w:World}{K:PySem.W.Frag}{mg mb:Str->Option Value}{CX:CXT}{k:Nat}{fa a:Addr}{fd:FuncData}{x:Str}{sp:Sp}{s₁:Shared}{vs:List Value}{ns:List Int}
  (KX:K.In s₁.heap) (hns:s₁.heap.Ns mainGlobals mg) (hb:s₁.heap.Ns builtinsNs mb) (hbb:∀x:Str,x≠ "__name__" ->mb x=bootBuiltins x) (hlim:s₁.heap.NoLimit) (hg:s₁.gens= #[])
  (ha:s₁.heap.get? a=some {cls:=.type "list",data:=.seq vs.toArray}) (hi:IntsAre vs ns) (hl:ns.length<=sizeLine) (hr:Room k callerA)
  (F:∀base:Heap,K.In base->base.Ns mainGlobals mg->FnOk P w K mg base CX k fa fd [x] sp) (hbind:∀(s:Shared) (u:Value),BindsTo s fd ⟨[u],[]⟩ [(x,u)])
  (hsp:∀H:Hp,Only H->SqL K H a (ns.map V.int)->sp [.ref a] H (fun v _=>v=.bl true) fun _ _ _=>False)
  (hCX:∀H e s',CX [] H s₁ (fun _ _ _=>False) e s'->False):
  codeAny (model P w) callerA (.call (.ref fa) ⟨[.ref a],[]⟩) (fun r s'=>r=.ok (.ret (.bool true))/\OldK s₁.heap s'.heap/\s'.os=s₁.os/\AllBare s'.gens) s₁:=by
 have rv:=fE0 hi
 have lenV:=hi.length
 -- from an abstract heap in which nothing but the script may be tracked
 have core:∀H:Hp,Only H->SqL K H a (ns.map V.int)->HOk P w H s₁.heap->(∀b,H b≠none->b=a)->(H a≠none->K.lookup a=none)->
   codeAny (model P w) callerA (.call (.ref fa) ⟨[.ref a],[]⟩) (fun r s'=>r=.ok (.ret (.bool true))/\OldK s₁.heap s'.heap/\s'.os=s₁.os/\AllBare s'.gens) s₁:=by
  intro H hO hS hok hA hK
  have base_of:∀{b:Addr} {o:Obj},s₁.heap.get? b=some o->H b=none->(hidT s₁.heap H).get? b=some o:=fun e n=>ms0 e n
  have noA:∀{b:Addr} {o:Obj} {es:Array DictEntry} {ep:Nat},s₁.heap.get? b=some o->o.data=.dict es ep->H b=none:=fun{b o es ep} e d=>by
   cases q:H b with
   |none=>rfl
   |some u=>
    have e':b=a:=hA b (by rw [q]; simp)
    subst e'
    rw [ha] at e; cases e
    have d':Data.seq vs.toArray _=Data.dict es ep:=d
    cases d'
  have nsK:∀{b:Addr} {m:Str->Option Value},s₁.heap.Ns b m->(hidT s₁.heap H).Ns b m:=fun{b m} ⟨o,es,ep,e,d,r⟩=>⟨o,es,ep,base_of e (noA e d),d,r⟩
  have hKb:K.In (hidT s₁.heap H):=fun b o e=>base_of (KX b o e) (by
   cases q:H b with
   |none=>rfl
   |some u=>
    have e':b=a:=hA b (by rw [q]; simp)
    subst e'
    rw [hK (by rw [q]; simp)] at e; cases e)
  have hM:Mod K mg (hidT s₁.heap H):=⟨hKb,nsK hns,⟨mb,nsK hb,hbb⟩,let ⟨mc,h1,h2⟩:=hlim; ⟨mc,nsK h1,h2⟩⟩
  have e0:Env0 P w K mg (hidT s₁.heap H) callerA [] s₁ H:=⟨rfl,hM,fun b o e=>oK0 e,Nat.le_of_eq (jy0 _ _),trivial,fun b hb=>absurd (show b∈([]:List Addr) from hb) (by simp),hok,.of_eq hg⟩
  refine codeAny_mono ((F _ hKb (nsK hns)).run callerA [] s₁ H ⟨[.ref a],[]⟩ [.ref a] [.ref a] _ _ hr e0 (hbind s₁ (.ref a)) (.cons rfl .nil) (hsp H hO hS)) fun r s' h=> ?_
  cases r with
  |error e=>exact(hCX H e s' h).elim
  |ok fl=>
   cases fl with
   |next=>exact False.elim h
   |brk=>exact False.elim h
   |cont=>exact False.elim h
   |ret u=>
    obtain⟨v,H',os,bare,un,hok',r',q⟩:=h
    have q':v=.bl true:=q
    subst q'
    obtain rfl:u=Value.bool true:=r'
    refine⟨rfl,OldK.of_keep fun b o e=> ?_,os,bare⟩
    cases q:H b with
    |none=>exact un.keep b o e q (by intro z; exact absurd (show b∈([]:List Addr) from z) (by simp)) (by simp)
    |some u=>
     rcases hO b with z|⟨ob,xs,z⟩
     ·rw [q] at z; cases z
     ·have z2:=un.frzs b ob _ z
      obtain⟨e1,_⟩:=hok b _ z
      obtain⟨e2,_⟩:=hok' b _ z2
      rw [e] at e1; cases e1
      exact e2
 cases hk:K.lookup a with
 |some o=>
  -- the script is one of the module's own objects
  have e:=KX a o hk
  rw [ha] at e
  cases e
  refine core (fun _=>none) (fun _=> .inl rfl) (.inr ⟨_,vs.toArray,_,hk,rfl,rfl,rfl,by rw [List.size_toArray,lenV]; exact hl,by simpa using rv⟩) (fun b u z=>by have z':(none:Option HO)=some u:=z; cases z') (fun b z=>absurd rfl z) fun z=>absurd rfl z
 |none=>
  refine core (fun b=>if b=a then some (.frz {cls:=.type "list",data:=.seq vs.toArray} (.lst (ns.map V.int))) else none) (fun b=> ?_) (.inl (.inr ⟨{cls:=.type "list",data:=.seq vs.toArray},if_pos rfl⟩)) (fun b u z=> ?_) (fun b z=> ?_) fun _=>hk
  ·by_cases hb:b=a
   ·exact .inr ⟨_,_,if_pos hb⟩
   ·exact .inl (if_neg hb)
  ·by_cases hb:b=a
   ·have z':=(if_pos hb).symm.trans z
    cases z'
    subst hb
    exact⟨ha,by rw [List.length_map]; exact hl,vs,_,rv,ha⟩
   ·have z':=(if_neg hb).symm.trans z
    cases z'
  ·by_cases hb:b=a
   ·exact hb
   ·exact absurd (if_neg hb) z
end L2
namespace L2
open PySem PySem.Spec PyProof.Rows
theorem walk_of {l:PySem.W.OpenLaw}{n k:Nat}{q:Program}{loose:List Str}{XP:(Str->Option Value)->Heap->Prop}{YP:World->Heap->Prop}{d:DefRec}{K:Params->PySem.W.Frag}{CX:World->CXT}{sp:World->Sp}{x:Str}
  (hn:l.most=some n) (hn2:n<=sizeLine) (hdf:d.params.defaults=[]) (hr:Room k callerA)
  (hY:∀(w:World) (h:Heap),YP w h->(K w.params).In h)
  (F:∀(w:World) (mg:Str->Option Value) (fa:Addr) (h:Heap),(K w.params).In h->h.Ns mainGlobals mg->mg d.name=some (.ref fa)->
   ∃fd:FuncData,(∀(s:Shared) (u:Value),BindsTo s fd ⟨[u],[]⟩ [(x,u)])/\
    ∀base:Heap,(K w.params).In base->base.Ns mainGlobals mg->FnOk l.prog w (K w.params) mg base (CX w) k fa fd [x] (sp w))
  (hsp:∀(w:World) (H:Hp) (a:Addr) (ns:List Int),ns.length<=n->Only H->SqL (K w.params) H a (ns.map V.int)->sp w [.ref a] H (fun v _=>v=.bl true) fun _ _ _=>False)
  (hCX:∀(w:World) (H:Hp) (s:Shared) (e:Value) (s':Shared),CX w [] H s (fun _ _ _=>False) e s'->False):
  PySem.W.WalkO q loose XP YP l.row.toRowW d [] (fun f vs=>PySem.call f vs):=by
 refine Att.attach_call hn hdf fun w s₀ s₁ mg mb fa o pm cd doc a vs ns G Y ho hd hcd hmg hobj hints hlen hg=> ?_
 have KX:=hY w _ Y
 obtain⟨fd,hb,hF⟩:=F w mg fa _ KX G.T.g hmg
 exact mv0 KX G.T.g G.T.b G.T.builtins G.T.nolimit hg hobj hints (Nat.le_trans hlen hn2) hr hF hb (fun H hO hS=>hsp w H a ns hlen hO hS) fun H e s'=>hCX w H s₁ e s'
end L2
namespace L2
open PySem PySem.Spec PyProof.Rows
abbrev CX0:CXT:=fun _ _ _ _ _ _=>False
abbrev E0:XK:=fun _ _ _=>False
theorem bU0 {X:Cx}:dZ0 CX0 X E0:=fun _ _ _ _ _ _ _ h=>h.elim
structure Fun (K:PySem.W.Frag)(x qual:Str)(st:Stmt)(f:Addr)(fd:FuncData):Prop where
 ex:∃(oc:Value) (od:Option Addr) (kV doc pm:Value) (an:Option Addr) (cdv ct:Value) (osl:Array (Option Value)),
  fd=PySem.W.fnOf x qual (ch0 st) (bC0 st) (af0 st) .none kV doc pm an cdv ct/\K.lookup f=some ⟨oc,od,.func fd,osl⟩/\PySem.W.codeIn K cdv qual=true
 kp:PySem.W.keepIn K (.ref f)=true
section
variable {P:Program}{w:World}{K:PySem.W.Frag}{mg:Str->Option Value}{base:Heap}
theorem Fun.ok {x qual:Str}{st:Stmt}{f:Addr}{fd:FuncData}{N ps:List Str}{k:Nat}{sp:Sp}(F:Fun K x qual st f fd)(S:FnScope N ps (af0 st))(len:∀vs H Q E,sp vs H Q E->vs.length=ps.length)
  (hbody:∀(cdv:Value) (A:Around) (outer:List Env) (s:Shared) (H:Hp) (vs:List V) (Q:VK) (E:XK),Room k (A.deeper (envOfC qual (af0 st) s.heap.objs.size f cdv))->sp vs H Q E->
   ∃t,PSs (cxOf CX0 P w K mg base N qual (af0 st) f cdv A outer s H E).nox (bC0 st) t/\t {nx:=fun _ H'=>Q .non H',rt:=Q} (start N vs) H):FnOk P w K mg base CX0 (k+1) f fd ps sp:=by
 obtain⟨oc,od,kV,doc,pm,an,cdv,ct,osl,rfl,lk,hcd⟩:=F.ex
 refine fn_of lk hcd S len fun A outer s H vs Q E hr hsp=> ?_
 obtain⟨t,h,q⟩:=hbody cdv A outer s H vs Q E hr hsp
 exact⟨t,h.nox,q⟩
theorem Fun.binds {x qual:Str}{st:Stmt}{f:Addr}{fd:FuncData}{ps:List Str}(F:Fun K x qual st f fd)
  (h:∀(kV doc pm:Value) (an:Option Addr) (cdv ct:Value) (us:List Value),us.length=ps.length->bindArgs (PySem.W.fnOf x qual (ch0 st) (bC0 st) (af0 st) .none kV doc pm an cdv ct) ⟨us,[]⟩=pure (ps.zip us)):Binds K fd ps []:=by
 obtain⟨oc,od,kV,doc,pm,an,cdv,ct,osl,rfl,lk,hcd⟩:=F.ex
 exact .all (h kV doc pm an cdv ct)
theorem er0 {x qual:Str}{st:Stmt}{f:Addr}{oc:Value}{od an:Option Addr}{osl:Array (Option Value)}{kV doc pm cdv ct:Value}(l:K.lookup f=some ⟨oc,od,.func (PySem.W.fnOf x qual (ch0 st) (bC0 st) (af0 st) .none kV doc pm an cdv ct),osl⟩)
  (c:PySem.W.codeIn K cdv qual=true) (k:PySem.W.keepIn K (.ref f)=true):Fun K x qual st f (PySem.W.fnOf x qual (ch0 st) (bC0 st) (af0 st) .none kV doc pm an cdv ct):=⟨⟨oc,od,kV,doc,pm,an,cdv,ct,osl,rfl,l,c⟩,k⟩
end
theorem cP0 {A:Around}{k:Nat}(hr:Room k A):A.units+4<cLine:=Nat.lt_of_le_of_lt (Nat.add_le_add_left (by decide:4<=64) _) hr.units
section
variable {X:Cx}
theorem pv (i:Nat){x:Str}{pos:Pos}(hN:X.N[i]?=some x:=by rfl)(hv:Vis X.env.scope x:=by first|exact Or.inl rfl|exact Or.inr (Or.inl rfl)|exact Or.inr (Or.inr rfl))(hd:(x==("__debug__" :Str))=false:=by decide)
  (hcd:(x==("__classdict__" :Str))=false:=by decide):PE X (.Name x pos) (tVar i):=oZ0 hN hv hd hcd
end
theorem iteF {A B:Prop}(h:B):if false=true then A else B:=by
 rw [if_neg Bool.false_ne_true]
 exact h
theorem iteT {A B:Prop}(h:A):if true=true then A else B:=by
 rw [if_pos rfl]
 exact h
section
variable {κ:Type} [DecidableEq κ]
theorem iR0:∀{l:List κ} {k:κ},l.Nodup->¬k∈l->(l++ [k]).Nodup
 | [],k,_,_=>by simp
 |a::r,k,h,hk=>by
  obtain⟨h1,h2⟩:=List.nodup_cons.mp h
  show (a::(r++ [k])).Nodup
  refine List.nodup_cons.mpr ⟨fun m=> ?_,iR0 h2 fun m=>hk (List.mem_cons.mpr (Or.inr m))⟩
  rcases List.mem_append.mp m with q|q
  ·exact h1 q
  ·exact hk (List.mem_cons.mpr (Or.inl (List.mem_singleton.mp q).symm))
end
end L2
set_option Elab.async false
set_option linter.all false
set_option maxRecDepth 100000
set_option maxHeartbeats 4000000
namespace L2
open PySem PySem.Spec PyProof.Rows
def cs0 (env:Env):List (Str × NameKind)->List (Str × Addr)->List (Str × Addr)
 | [],acc=>acc
 | (n,k)::r,acc=>if k==.free then cs0 env r ((n,(env.cells.lookup n).getD 0)::acc) else cs0 env r acc
theorem eK0 {env:Env}:∀(names:List (Str × NameKind)) (acc:List (Str × Addr)),(∀x∈names,x.2=.free->∃c,env.cells.lookup x.1=some c)->
  (forIn (m:=Sem) names acc fun x cs=>match x with|(name,kind)=>if kind==NameKind.free then(do let c<- cellOf env name; pure (ForInStep.yield ((name,c)::cs))) else pure (ForInStep.yield cs))=pure (cs0 env names acc)
 | [],acc,_=>rfl
 | (n,k)::r,acc,h=>by
  rw [List.forIn_cons]
  have hr:=fun acc'=>eK0 r acc' fun x hx=>h x (List.mem_cons_of_mem _ hx)
  cases hk:(k==NameKind.free) with
  |true=>
   have hk':k=.free:=by simpa using hk
   obtain⟨c,hc⟩:=h (n,k) List.mem_cons_self hk'
   have hc:env.cells.lookup n=some c:=hc
   have e:cs0 env ((n,k)::r) acc=cs0 env r ((n,c)::acc):=by
    show (if(k==NameKind.free)=true then _ else _)=_
    rw [hk,if_pos rfl,hc]
    rfl
   rw [e]
   simp only [hk,if_true,cellOf,hc]
   exact hr ((n,c)::acc)
  |false=>
   have e:cs0 env ((n,k)::r) acc=cs0 env r acc:=by
    show (if(k==NameKind.free)=true then _ else _)=_
    rw [hk,if_neg Bool.false_ne_true]
   rw [e]
   simp only [hk,Bool.false_eq_true,if_false]
   exact hr acc
theorem dg0 {env:Env}{scope:Scope}(h:∀x∈scope.names,x.2=.free->∃c,env.cells.lookup x.1=some c):closureFor scope env=pure (cs0 env scope.names []):=by
 have e:=eK0 scope.names [] h
 unfold closureFor
 have e2:(forIn (m:=Sem) scope.names ([]:List (Str × Addr)) fun x r=>match x with|(name,kind)=>if kind==NameKind.free then(do let c<- cellOf env name; pure (ForInStep.yield ((name,c)::r))) else pure (ForInStep.yield r))=pure (cs0 env scope.names []):=e
 first
  | (rw [e2]; rfl)
  | (simp only [e2]; rfl)
  |exact congrArg (fun z=>z>>=fun cs=>pure cs) e2
theorem fi0 {env:Env}:∀(names:List (Str × NameKind)) (acc:List (Str × Addr)),(∀x∈names,x.2=.free->∃c,env.cells.lookup x.1=some c)->(∀x c,acc.lookup x=some c->env.cells.lookup x=some c)->
  ∀x c,(cs0 env names acc).lookup x=some c->env.cells.lookup x=some c
 | [],_,_,ha,x,c,e=>ha x c e
 | (n,k)::r,acc,h,ha,x,c,e=>by
  have hr:∀x∈r,x.2=.free->∃c,env.cells.lookup x.1=some c:=fun x hx=>h x (List.mem_cons_of_mem _ hx)
  unfold cs0 at e
  cases hk:(k==NameKind.free) with
  |true=>
   obtain⟨d,hd⟩:=h (n,k) List.mem_cons_self (by simpa using hk)
   have hd:env.cells.lookup n=some d:=hd
   rw [hk,if_pos rfl,hd] at e
   refine fi0 r _ hr (fun y c' q=> ?_) x c e
   rw [List.lookup_cons] at q
   cases hy:y==n with
   |true=>
    rw [hy] at q
    have e1:y=n:=by simpa using hy
    rw [e1,hd]
    exact q
   |false=>rw [hy] at q; exact ha y c' q
  |false=>
   rw [hk,if_neg Bool.false_ne_true] at e
   exact fi0 r acc hr ha x c e
theorem gA0 {env:Env}{x:Str}:∀(names:List (Str × NameKind)) (acc:List (Str × Addr)),(∃c,acc.lookup x=some c)->∃c,(cs0 env names acc).lookup x=some c
 | [],_,h=>h
 | (n,k)::r,acc,h=>by
  unfold cs0
  split
  ·refine gA0 r _ ?_
   rw [List.lookup_cons]
   cases hy:x==n with
   |true=>exact⟨_,rfl⟩
   |false=>exact h
  ·exact gA0 r acc h
theorem fo0 {env:Env}{x:Str}:∀(names:List (Str × NameKind)) (acc:List (Str × Addr)),(x,NameKind.free)∈names->∃c,(cs0 env names acc).lookup x=some c
 | [],_,h=>nomatch h
 | (n,k)::r,acc,h=>by
  unfold cs0
  rcases List.mem_cons.mp h with e|h
  ·cases e
   rw [if_pos (by rfl)]
   exact gA0 r _ ⟨(env.cells.lookup x).getD 0,by rw [List.lookup_cons]; simp⟩
  ·split
   ·exact fo0 r _ h
   ·exact fo0 r _ h
def dI0 (scope:Scope)(own N:List Str)(oc:Scope):Bool:=
 scope.kind==.function && scope.names.all (fun x=>x.2 !=.cell) && scope.names.all (fun x=>x.2 !=.local||scope.names.lookup x.1==some .local) &&
 scope.names.all (fun x=>x.2 !=.free||(scope.names.lookup x.1==some .free && (oc.names.lookup x.1==some .cell||oc.names.lookup x.1==some .free))) &&
 scope.names.lookup Str.empty==none &&
 N.all (fun y=>own.contains y||(scope.names.lookup y !=some .local && scope.names.lookup y !=some .cell))
def hide (own:List Str)(N:List Str):List Str:=N.map fun y=>if own.contains y then Str.empty else y
structure CompOk (scope:Scope)(own N:List Str)(oc:Scope):Prop where
 kind:scope.kind=.function
 nocell:∀x∈scope.names,x.2≠ .cell
 loc:∀x∈scope.names,x.2=.local->scope.names.lookup x.1=some .local
 free:∀x∈scope.names,x.2=.free->scope.names.lookup x.1=some .free/\(oc.names.lookup x.1=some .cell\/ oc.names.lookup x.1=some .free)
 empty:scope.names.lookup Str.empty=none
 outer:∀y∈N,own.contains y=false->scope.names.lookup y≠some .local/\scope.names.lookup y≠some .cell
theorem fI0 {scope:Scope}{own N:List Str}{oc:Scope}(h:dI0 scope own N oc=true):CompOk scope own N oc:=by
 unfold dI0 at h
 simp only [Bool.and_eq_true,List.all_eq_true,Bool.or_eq_true,bne_iff_ne,ne_eq,beq_iff_eq] at h
 obtain⟨⟨⟨⟨⟨h1,h2⟩,h3⟩,h4⟩,h5⟩,h6⟩:=h
 refine⟨h1,fun x hx=>h2 x hx,fun x hx e=> ?_,fun x hx e=> ?_,h5,fun y hy e=> ?_⟩
 ·rcases h3 x hx with q|q
  ·exact absurd e q
  ·exact q
 ·rcases h4 x hx with q|q
  ·exact absurd e q
  ·exact q
 ·rcases h6 y hy with q|q
  ·rw [e] at q; cases q
  ·exact q
def blk (X:Cx)(N:List Str)(scope:Scope)(C:Addr)(s₂:Shared)(H₂:Hp)(fp:List Addr):Cx where
 prog:=X.prog
 w:=X.w
 K:=X.K
 mg:=X.mg
 base:=X.base
 A:=X.A
 N:=N
 s₀:=s₂
 H₀:=H₂
 env:=compEnvC scope (cs0 X.env scope.names []) C X.env
 outer:=X.stack
 stack:=X.stack
 ex:=fp
 fn:=fun _=>false
 calm:=X.calm
 pn:=[]
 xe:=fun _ _=>False
theorem cJ0 {scope:Scope}{env:Env}{x:Str}:∀(names:List (Str × NameKind)),
  (names.map fun(n,k)=>if(k==NameKind.free && env.scope.kind==.function && env.kindOf n==some .cell) then(n,NameKind.cell) else(n,k)).lookup x=
   (names.lookup x).map fun k=>if(k==NameKind.free && env.scope.kind==.function && env.kindOf x==some .cell) then NameKind.cell else k
 | []=>rfl
 | (n,k)::r=>by
  have ih:=cJ0 (scope:=scope) (env:=env) (x:=x) r
  rw [List.map_cons]
  show List.lookup x ((if(k==NameKind.free && env.scope.kind==.function && env.kindOf n==some .cell)=true then(n,NameKind.cell) else(n,k))::_)=_
  cases hx:x==n with
  |true=>
   have e:x=n:=by simpa using hx
   subst e
   by_cases hc:(k==NameKind.free && env.scope.kind==.function && env.kindOf x==some .cell)=true
   ·rw [if_pos hc,List.lookup_cons,List.lookup_cons,beq_self_eq_true]
    show some NameKind.cell=Option.map _ (some k)
    rw [Option.map_some,if_pos hc]
   ·rw [if_neg hc,List.lookup_cons,List.lookup_cons,beq_self_eq_true]
    show some k=Option.map _ (some k)
    rw [Option.map_some,if_neg hc]
  |false=>
   by_cases hc:(k==NameKind.free && env.scope.kind==.function && env.kindOf n==some .cell)=true
   ·rw [if_pos hc]; simp only [List.lookup_cons,hx]; exact ih
   ·rw [if_neg hc]; simp only [List.lookup_cons,hx]; exact ih
section
variable {X:Cx}{pins:List (Addr × Obj)}{σ:St}{H:Hp}{s:Shared}{scope:Scope}{own N:List Str}{fp:List Addr}{C:Addr}
theorem du0 (I:Inv X pins σ H s)(ck:CompOk scope own X.N X.env.scope):∀x∈scope.names,x.2=.free->∃c,X.env.cells.lookup x.1=some c:=fun x hx e=>by
 obtain⟨_,h⟩:=ck.free x hx e
 exact I.ok.has x.1 h
theorem bG0 (I:Inv X pins σ H s)(ck:CompOk scope own X.N X.env.scope){x:Str}{c:Addr}(h:(cs0 X.env scope.names []).lookup x=some c):X.env.cells.lookup x=some c:=
 fi0 scope.names [] (du0 I ck) (fun _ _ z=>nomatch z) x c h
theorem oX0 (I:Inv X pins σ H s)(ck:CompOk scope own X.N X.env.scope)(hf:∀b∈fp,FpOk X pins H b)(hC:s.heap.objs.size<=C)(hCf:∀b∈fp,b≠C):(blk X N scope C s H fp).Ok where
 mod:=I.ok.mod
 kind:=ck.kind
 glob:=I.ok.glob
 blt:=I.ok.blt
 above:=hC
 inj:=fun x y c h1 h2=>I.ok.inj x y c (bG0 I ck h1) (bG0 I ck h2)
 has:=fun x h=>by
  have e:(relabel scope X.env).names.lookup x=some .cell\/ (relabel scope X.env).names.lookup x=some .free:=h
  have l:=cJ0 (scope:=scope) (env:=X.env) (x:=x) scope.names
  have l':(relabel scope X.env).names.lookup x=(scope.names.lookup x).map fun k=>if(k==NameKind.free && X.env.scope.kind==.function && X.env.kindOf x==some .cell) then NameKind.cell else k:=l
  rw [l'] at e
  have hfree:scope.names.lookup x=some .free:=by
   cases q:scope.names.lookup x with
   |none=>rw [q] at e; rcases e with e|e<;>cases e
   |some k=>
    have hm:(x,k)∈scope.names:=PySem.mem_of_lookup q
    rw [q] at e
    by_cases hk:k=.free
    ·rw [hk]
    ·have hb:(k==NameKind.free)=false:=by simpa using hk
     simp only [hb,Bool.false_and,Bool.false_eq_true,if_false,Option.map_some] at e
     rcases e with e|e
     ·cases e; exact absurd rfl (ck.nocell _ hm)
     ·cases e; exact absurd rfl hk
  exact fo0 scope.names [] (PySem.mem_of_lookup hfree)
 cab:=fun _ _ h _=>by cases h
 hd:=I.ok.hd
 frames:=I.ok.frames
 stk:=.inl rfl
 exf:=fun b hb=>⟨hCf b hb,fun x c h=>(hf b hb).2.2.2.2.1 x c (bG0 I ck h)⟩
 bs:=I.bs
 bsz:=Nat.le_trans I.ok.bsz I.sz
 noex:=fun b o e hb=>by
  obtain⟨_,_,_,h,_⟩:=hf b hb
  rcases h with h|h
  ·exact I.ok.noex b o e h
  ·exact absurd (Nat.lt_of_lt_of_le (Heap.lt_size e) (Nat.le_trans I.ok.bsz h)) (Nat.lt_irrefl _)
 exfs:=fun b hb z=>by
  obtain⟨_,h1,h2,_⟩:=hf b hb
  rcases List.mem_cons.mp (I.stkSub b z) with e|e
  ·exact h1 e
  ·exact h2 e
 funs:=I.stack
 frf:=I.stkFree
theorem ou0 {h₁:Heap}{tk:Nat}{D:Addr}{oD:Obj}(I:Inv X pins σ H s)(ck:CompOk scope own X.N X.env.scope)(hf:∀b∈fp,FpOk X pins H b)(hfo:∀b∈fp,b<s.heap.objs.size)(hC:s.heap.objs.size<=C)(hD:s.heap.objs.size<=D)(hDC:D≠C)
  (old:∀b o,s.heap.get? b=some o->h₁.get? b=some o) (hns:h₁.Ns C fun _=>none) (hoD:h₁.get? D=some oD) (hcell:∀v,oD.data≠ .cell v):
  Inv (blk X (own++hide own X.N) scope C s H fp) [(D,oD)] (List.replicate own.length none++σ) H {s with heap:=h₁,toks:=tk} where
 ok:=oX0 I ck hf hC fun b hb z=>absurd (hfo b hb) (by rw [z]; exact Nat.not_lt.mpr hC)
 os:=rfl
 bare:=I.bare
 base:=Un.kept old
 loc:=by
  refine⟨_,hns,fun i x v e1 e2 e3=> ?_⟩
  have e1:(own++hide own X.N)[i]?=some x:=e1
  have hi:¬i<own.length:=fun hi=>by
   rw [List.getElem?_append_left (by simpa using hi),List.getElem?_replicate,if_pos hi] at e2
   cases e2
  rw [List.getElem?_append_right (by simpa using hi),List.length_replicate] at e2
  rw [List.getElem?_append_right (by omega)] at e1
  unfold hide at e1
  rw [List.getElem?_map] at e1
  cases q:X.N[i - own.length]? with
  |none=>rw [q] at e1; cases e1
  |some y=>
   rw [q] at e1
   have e1:(if own.contains y=true then Str.empty else y)=x:=Option.some.inj e1
   have l:(relabel scope X.env).names.lookup x=(scope.names.lookup x).map fun k=>if(k==NameKind.free && X.env.scope.kind==.function && X.env.kindOf x==some .cell) then NameKind.cell else k:=cJ0 (scope:=scope) (env:=X.env) (x:=x) scope.names
   have e3:(relabel scope X.env).names.lookup x=some .local\/ (relabel scope X.env).names.lookup x=some .cell\/ (relabel scope X.env).names.lookup x=some .free:=e3
   cases ho:own.contains y with
   |true=>
    rw [ho,if_pos rfl] at e1
    subst e1
    rw [l,ck.empty] at e3
    rcases e3 with e3|e3|e3<;>cases e3
   |false=>
    rw [ho,if_neg Bool.false_ne_true] at e1
    subst e1
    obtain⟨n1,n2⟩:=ck.outer y (List.mem_of_getElem? q) ho
    have hfree:scope.names.lookup y=some .free:=by
     rw [l] at e3
     cases q:scope.names.lookup y with
     |none=>rw [q] at e3; rcases e3 with e3|e3|e3<;>cases e3
     |some k=>
      by_cases hk:k=.free
      ·rw [hk]
      ·have hb:(k==NameKind.free)=false:=by simpa using hk
       rw [q] at e3
       simp only [hb,Bool.false_and,Bool.false_eq_true,if_false,Option.map_some] at e3
       rcases e3 with e3|e3|e3
       ·cases e3; exact absurd q n1
       ·cases e3; exact absurd q n2
       ·cases e3; exact absurd rfl hk
    obtain⟨_,ho2⟩:=ck.free (y,.free) (PySem.mem_of_lookup hfree) rfl
    have ho2:X.env.scope.names.lookup y=some .cell\/ X.env.scope.names.lookup y=some .free:=ho2
    obtain⟨m,hn,hl⟩:=I.loc
    obtain⟨u,r,lk⟩:=hl (i - own.length) y v q e2 (ho2.elim (fun z=> .inr (.inl z)) fun z=> .inr (.inr z))
    refine⟨u,r,.inr ⟨?_,?_⟩⟩
    ·show (relabel scope X.env).names.lookup y=some .cell\/ (relabel scope X.env).names.lookup y=some .free
     rcases e3 with z|z|z
     ·exfalso
      rw [l,hfree] at z
      simp only [Option.map_some] at z
      split at z<;>cases z
     ·exact .inl z
     ·exact .inr z
    ·rcases lk with⟨k,_⟩|⟨_,c,hc,hcell⟩
     ·have k:X.env.scope.names.lookup y=some .local:=k
      rw [k] at ho2
      rcases ho2 with z|z<;>cases z
     ·obtain⟨c',hc'⟩:=fo0 (env:=X.env) scope.names [] (PySem.mem_of_lookup hfree)
      have e:=bG0 I ck hc'
      rw [hc] at e
      cases e
      obtain⟨o,ho,hd⟩:=hcell
      exact⟨c,hc',o,old c o ho,hd⟩
 cell:=fun x c h=>by
  obtain⟨v,o,ho,hd⟩:=I.cell x c (bG0 I ck h)
  exact⟨v,o,old c o ho,hd⟩
 free:=I.hok.fresh hC
 freeC:=fun x c h=>I.freeC x c (bG0 I ck h)
 pin:=fun p hp=>by
  have e:p=(D,oD):=by simpa [blk] using hp
  subst e
  refine⟨hoD,I.hok.fresh hD,hDC,fun z=> ?_,hcell⟩
  rcases List.mem_cons.mp (I.stkSub D z) with e|e
  ·exact absurd I.lt (by rw [<- e]; exact Nat.not_lt.mpr hD)
  ·exact I.nofs hD e
 hok:=I.hok.kept old
 len:=by
  show (List.replicate own.length none++σ).length=(own++hide own X.N).length
  unfold hide
  rw [List.length_append,List.length_append,List.length_replicate,List.length_map,I.len]
end
theorem fx0 {prog:Program}{w:World}{A:Around}{R:Result->Shared->Prop}{s:Shared}{elt target iter:Expr}{ifs:List Expr}{scope:Scope}{pos:Pos}{it acc:Value}{env:Env}(I:Nat->Shared->Prop)
  (turn:∀n s,I n s->wpAny (model prog w) A (pyNext it) (fun r s₁=>match r with
   |none=>R (.ok .next) s₁
   |some v=>wpAny (model prog w) A (letOwnedTupleGo target it v) (fun _ s₁'=>wpAny (model prog w) A (assign target env v) (fun _ s₂=>
     wpAny (model prog w) A (forIn ifs true fun c r=>if r=true then do let ok<- isTrue c env (eval c env); pure (ForInStep.yield ok) else pure (ForInStep.yield r)) (fun ok s₃=>
      if ok=true then wpAny (model prog w) A (eval elt env) (fun x s₄=>
       wpAny (model prog w) A (call (.builtin "list.append") [acc,x]) (fun _ s₅=>∃m,m<n/\I m s₅) (fun _ _=>False) s₄) (fun _ _=>False) s₃
      else∃m,m<n/\I m s₃) (fun _ _=>False) s₂) (fun _ _=>False) s₁') (fun _ _=>False) s₁) (fun _ _=>False) s)
  (n:Nat) (h:I n s):
  codeAny (model prog w) A (.compLoop (.ListComp elt [⟨target,iter,ifs,0⟩] scope pos) 0 it acc env) R s:=by
 refine codeAny_loop rfl I (fun n s hI=> ?_) n h
 show wpAny _ A ((compTurn (.ListComp elt [⟨target,iter,ifs,0⟩] scope pos) 0 it acc env).onRaise (fun x=>do noteFrame x env; theTreesLotGoes x)) _ _ s
 refine wpAny_noted ?_
 rw [compTurn_list]
 refine wpAny_bind (wpAny_standAt (wpAny_bind (wpAny_mono (turn n s hI) (fun r s₁ h₁=> ?_) fun _ _ h'=>h'.elim)))
 cases r with
 |none=>exact wpAny_pure h₁
 |some v=>
  refine wpAny_bind (wpAny_mono h₁ (fun _ s₁' h₁'=>wpAny_bind (wpAny_mono h₁' (fun _ s₂ h₂=>wpAny_bind (wpAny_mono h₂ (fun ok s₃ h₃=> ?_) fun _ _ h'=>h'.elim)) fun _ _ h'=>h'.elim)) fun _ _ h'=>h'.elim)
  cases ok with
  |false=>exact wpAny_pure ⟨rfl,h₃⟩
  |true=>
   exact wpAny_bind (wpAny_bind (wpAny_mono h₃ (fun x s₄ h₄=>wpAny_bind (wpAny_mono h₄ (fun _ s₅ h₅=>wpAny_pure (wpAny_pure ⟨rfl,h₅⟩)) fun _ _ h'=>h'.elim)) fun _ _ h'=>h'.elim))
def PIf (X:Cx)(ifs:List Expr)(t:TT):Prop:=
 ∀(pins:List (Addr × Obj)) (s:Shared) (σ:St) (H:Hp) (Q:Bool->Hp->Prop),Inv X pins σ H s->t σ H Q->
  wpAny (model X.prog X.w) X.A (forIn ifs true fun c r=>if r=true then do let ok<- isTrue c X.env (eval c X.env); pure (ForInStep.yield ok) else pure (ForInStep.yield r)) (TP X pins σ Q) X.xe s
def lA0:TT:=fun _ H Q=>Q true H
theorem el0 {X:Cx}:PIf X [] lA0:=fun pins s σ H Q I h=>wpAny_tests_nil ⟨H,I,h⟩
theorem of0 {X:Cx}{c:Expr}{t:TT}(h:PT X c t):PIf X [c] t:=fun pins s σ H Q I q=>wpAny_tests_one (h pins s σ H Q I q)
def lW0 (n:Nat)(wi:TI)(g:TG)(tt:TT)(te:TE):TE:=fun σ H Q=>wi σ H fun J H1=>∃W:Nat->Nat->List V->Hp->Prop,(∃m,W 0 m [] H1)/\∀i m ys H,W i m ys H->
 (J.stop i H/\∀p,H p=none->Q (.ref p) (upd H p (.lst ys)))\/ (J.go i H/\∀x H',J.yld i H x H'->g x (List.replicate n none++σ) H' fun σ2 H2=>σ2.drop n=σ/\tt σ2 H2 fun b H3=>
  if b=true then te σ2 H3 fun y H4=>ys.length<sizeLine/\∃m',m'<m/\W (i+1) m' (ys++ [y]) H4 else∃m',m'<m/\W (i+1) m' ys H3)
theorem HOk.adopt {P:Program}{w:World}{H:Hp}{h:Heap}{a:Addr}{o:HO}(x:HOk P w H h)(hn:H a=none)(new:ObjOk P w (upd H a o) h a o):HOk P w (upd H a o) h:=fun b u e=>by
 by_cases hb:b=a
 ·subst hb; rw [ai0] at e; cases e; exact new
 ·rw [ah0 hb] at e
  exact(x b u e).stay (fun c v _ q=>q) (fun c q=>by rw [ah0 (am0 q hn)]; exact q) fun c xs q=>by rw [ah0 (am0 q hn)]; exact q
section
variable {X:Cx}{scope:Scope}{own:List Str}{elt tg iter:Expr}{ifs:List Expr}{pos:Pos}{wi:TI}{g:TG}{tt:TT}{te:TE}
theorem hZ0 {pins:List (Addr × Obj)}{σ:St}{s₂:Shared}{Q:VK}{it:Addr}{fp:List Addr}{tn:Nat->Heap->Prop}{J:It}{H₂:Hp}{RR:Value->Addr->Result->Shared->Prop}{E:Value->Shared->Prop}(hc:X.calm=true)(ck:CompOk scope own X.N X.env.scope)
  (hg:∀C s₂ H₂ fp,PG (blk X (own++hide own X.N) scope C s₂ H₂ fp) tg g) (ht:∀C s₂ H₂ fp,PIf (blk X (own++hide own X.N) scope C s₂ H₂ fp) ifs tt) (he:∀C s₂ H₂ fp,PE (blk X (own++hide own X.N) scope C s₂ H₂ fp) elt te)
  (I2:Inv X pins σ H₂ s₂) (T:Turn X.prog X.w X.K tg J fp it tn) (st2:tn 0 s₂.heap) (f2:∀b∈fp,FpOk X pins H₂ b)
  (hw:∃W:Nat->Nat->List V->Hp->Prop,(∃m,W 0 m [] H₂)/\∀i m ys H,W i m ys H->
   (J.stop i H/\∀p,H p=none->Q (.ref p) (upd H p (.lst ys)))\/ (J.go i H/\∀x H',J.yld i H x H'->g x (List.replicate own.length none++σ) H' fun σ2 H2=>σ2.drop own.length=σ/\tt σ2 H2 fun b H3=>
    if b=true then te σ2 H3 fun y H4=>ys.length<sizeLine/\∃m',m'<m/\W (i+1) m' (ys++ [y]) H4 else∃m',m'<m/\W (i+1) m' ys H3))
  (hRR:∀D C s' H' m',Inv X pins σ H' s'->H' C=none->s₂.heap.objs.size<=C->s'.heap.Ns C m'->Q (.ref D) H'->RR (.ref D) C (.ok .next) s'):
  wpAny (model X.prog X.w) X.A (newList []) (fun acc s₃=>wpAny (model X.prog X.w) X.A (newFunctionEnv scope X.env.globals (cs0 X.env scope.names []) [] X.env.qual none .none (some X.env)) (fun cenv s₄=>
   codeAny (model X.prog X.w) X.A (.compStart (.ListComp elt [⟨tg,iter,ifs,0⟩] scope pos) 0 (.ref it) acc {cenv with scope:=relabel scope X.env}) (RR acc cenv.locals) s₄) E s₃) E s₂:=by
 obtain⟨W,⟨m0,w0⟩,turn⟩:=hw
 refine wpAny_newObj_type (wpAny_newFunctionEnv ck.nocell (by intro y hy; simp at hy) (fun h₁ hns₁ hsb₁=> ?_) ck.kind)
 dsimp only at hns₁ hsb₁ ⊢
 generalize hH2:s₂.heap.push {cls:=.type "list",dict:=none,data:=.seq ([]:List Value).toArray}=P2 at hns₁ hsb₁ ⊢
 have hCs:P2.objs.size=s₂.heap.objs.size+1:=by rw [<- hH2,Heap.size_push]
 have hDC:s₂.heap.objs.size≠P2.objs.size:=by rw [hCs]; exact Nat.ne_of_lt (Nat.lt_succ_self _)
 have hCle:s₂.heap.objs.size<=P2.objs.size:=by rw [hCs]; exact Nat.le_succ _
 have below:∀b,b<s₂.heap.objs.size->b≠P2.objs.size:=fun b hb=>by rw [hCs]; exact Nat.ne_of_lt (Nat.lt_succ_of_lt hb)
 have old:∀b o,s₂.heap.get? b=some o->h₁.get? b=some o:=fun b o e=>hsb₁.extBut b o (below b (Heap.lt_size e)) (Heap.get?_push_of_some _ (hH2▸Heap.get?_push_of_some _ e))
 have hacc:h₁.get? s₂.heap.objs.size=some {cls:=.type "list",dict:=none,data:=.seq ([]:List Value).toArray}:=hsb₁.extBut _ _ hDC (Heap.get?_push_of_some _ (hH2▸Heap.get?_push_size _ rfl))
 have hfo:∀b∈fp,b<s₂.heap.objs.size:=fun b hb=>by
  obtain⟨o,e,_⟩:=T.obj _ _ st2 b hb
  exact Heap.lt_size e
 have I1:Inv (blk X (own++hide own X.N) scope P2.objs.size s₂ H₂ fp) [(s₂.heap.objs.size,{cls:=.type "list",dict:=none,data:=.seq ([]:List Value).toArray})] (List.replicate own.length none++σ) H₂ {s₂ with heap:=h₁,toks:=s₂.toks+([]:List (Str × Value)).length}:=
  ou0 I2 ck f2 hfo hCle (Nat.le_refl _) hDC old (by simpa using hns₁) hacc (fun v z=>nomatch z)
 have stat:∀{H':Hp} {oD:Obj},(∀b∈fp,H' b=none)->∀b∈fp,FpOk (blk X (own++hide own X.N) scope P2.objs.size s₂ H₂ fp) [(s₂.heap.objs.size,oD)] H' b:=fun{H' oD} hn b hb=>by
  obtain⟨_,q1,q2,q3,q4,q5⟩:=f2 b hb
  refine⟨hn b hb,below b (hfo b hb),fun z=> ?_,.inl hb,fun x c h=>q4 x c (bG0 I2 ck h),fun p hp z=> ?_⟩
  ·rcases List.mem_cons.mp (I2.stkSub b z) with e|e
   ·exact q1 e
   ·exact q2 e
  ·have e:p=(s₂.heap.objs.size,oD):=by simpa [blk] using hp
   rw [e] at z
   exact absurd (hfo b hb) (by rw [<- z]; exact Nat.lt_irrefl _)
 have loop:codeAny (model X.prog X.w) X.A (.compLoop (.ListComp elt [⟨tg,iter,ifs,0⟩] scope pos) 0 (.ref it) (.ref s₂.heap.objs.size) (compEnvC scope (cs0 X.env scope.names []) P2.objs.size X.env))
   (RR (.ref s₂.heap.objs.size) P2.objs.size) {s₂ with heap:=h₁,toks:=s₂.toks+([]:List (Str × Value)).length}:=by
  refine fx0 (fun n s'=>∃i ys its k H',Inv (blk X (own++hide own X.N) scope P2.objs.size s₂ H₂ fp) [(s₂.heap.objs.size,{cls:=.type "list",data:=.seq its k})] (List.replicate own.length none++σ) H' s'/\tn i s'.heap/\(∀b∈fp,H' b=none)/\Vals ys its.toList/\ys.length<=sizeLine/\W i n ys H') ?_ m0
   ⟨0,[],#[],0,H₂,I1,T.keep _ _ _ st2 (fun b _ o e=>old b o e),fun b hb=>(f2 b hb).1,.nil,Nat.zero_le _,w0⟩
  rintro n s3 ⟨i,ys,its,k,H3,I3,st3,fr3,rv,hz,w3⟩
  rcases turn i n ys H3 w3 with⟨stop,q⟩|⟨go,step⟩
  ·refine thn (T.done (blk X (own++hide own X.N) scope P2.objs.size s₂ H₂ fp) rfl rfl rfl hc i _ s3 _ H3 _ I3 (stat fr3) st3 stop) fun r s4 ⟨hr,I4⟩=> ?_
   subst hr
   obtain⟨hoD,hDn,_,hDfs,_⟩:=I4.pin (s₂.heap.objs.size,{cls:=.type "list",data:=.seq its k}) (by simp [blk])
   have hDn:H3 s₂.heap.objs.size=none:=hDn
   obtain⟨m',hn',_⟩:=I4.loc
   have hCn:H3 P2.objs.size=none:=I4.free
   have un:Un (frs X.stack) fp H₂ (upd H3 s₂.heap.objs.size (.lst ys)) s₂.heap s4.heap:=by
    have b:=I4.base
    refine⟨b.keep,b.slot,fun c o e n hx=> ?_,b.there,fun c xs e=> ?_,fun c o u e=> ?_,fun c ps e=> ?_⟩
    ·rw [ah0 (Nat.ne_of_lt (Heap.lt_size e))]; exact b.free c o e n hx
    ·have q:=b.tups c xs e
     rw [ah0 (am0 q hDn)]; exact q
    ·have q:=b.frzs c o u e
     rw [ah0 (am0 q hDn)]; exact q
    ·obtain⟨mo,q⟩:=b.tbls c ps e
     exact⟨mo,by rw [ah0 (am0 q hDn)]; exact q⟩
   have hok:HOk X.prog X.w (upd H3 s₂.heap.objs.size (.lst ys)) s4.heap:=HOk.adopt I4.hok hDn ⟨hz,its.toList,k,rv,by simpa using hoD⟩
   have I5:Inv X pins σ (upd H3 s₂.heap.objs.size (.lst ys)) s4:=I2.call' (ch:=fp) I4.os un hok I4.bare fun b hb=>by
    obtain⟨_,q1,q2,q3,q4,q5⟩:=f2 b hb
    exact⟨q3,q1,q4,q5⟩
   exact hRR _ _ s4 _ m' I5 (by rw [ah0 (Ne.symm hDC)]; exact hCn) hCle hn' (q _ hDn)
  ·refine thn (T.item (blk X (own++hide own X.N) scope P2.objs.size s₂ H₂ fp) rfl rfl rfl hc i _ s3 _ H3 _ I3 (stat fr3) st3 go) fun r s4 ⟨u,hr,h4⟩=> ?_
   subst hr
   refine thn h4 fun _ s5 ⟨x,H5,I5,r5,y5,st5,fr5⟩=> ?_
   have I5':=I5.pinned (stat fr5) (T.obj _ _ st5)
   refine thn (hg _ _ _ _ _ s5 _ H5 x u _ I5' r5 (step x H5 y5)) fun _ s6 ⟨σ6,H6,I6,hσ,q6⟩=> ?_
   refine thn (ht _ _ _ _ _ s6 σ6 H6 _ I6 q6) fun b s7 ⟨H7,I7,q7⟩=> ?_
   have wk:∀{pl:List (Addr × Obj)} {H7:Hp} {s7:Shared},Inv (blk X (own++hide own X.N) scope P2.objs.size s₂ H₂ fp) pl σ6 H7 s7->Inv (blk X (own++hide own X.N) scope P2.objs.size s₂ H₂ fp) pl (List.replicate own.length none++σ) H7 s7:=fun{pl H7 s7} J=>by
    refine J.weak ?_ fun j v e=> ?_
    ·have e1:=J.len
     have e2:=I5.len
     rw [e1,e2]
    ·have hj:¬j<own.length:=fun hj=>by
      rw [List.getElem?_append_left (by simpa using hj),List.getElem?_replicate,if_pos hj] at e
      cases e
     rw [List.getElem?_append_right (by simpa using hj),List.length_replicate,<- hσ,List.getElem?_drop] at e
     rw [<- e]
     congr 1
     omega
   have pfp:∀p∈ea0 fp s5.heap,p.1<s₂.heap.objs.size:=fun p hp=>hfo _ (fM0 hp).1
   cases b with
   |false=>
    rw [if_neg Bool.false_ne_true] at q7
    rw [if_neg Bool.false_ne_true]
    obtain⟨m',hm,w7⟩:=q7
    refine⟨m',hm,i+1,ys,its,k,H7,wk I7.unpinned,T.keep _ _ _ st5 fun b hb o e=>(I7.pin (b,o) (List.mem_append_right _ (List.mem_append_right _ (bS0 hb e)))).1,fun b hb=> ?_,rv,hz,w7⟩
    obtain⟨o,e,d⟩:=T.obj _ _ st5 b hb
    exact(I7.pin (b,o) (List.mem_append_right _ (List.mem_append_right _ (bS0 hb e)))).2.1
   |true=>
    rw [if_pos rfl] at q7
    rw [if_pos rfl]
    refine thn (he _ _ _ _ _ s7 σ6 H7 _ I7 q7) fun u8 s8 ⟨y,H8,I8,r8,hl8,m',hm,w8⟩=> ?_
    obtain⟨hoD,hDn,_,hDfs,_⟩:=I8.pin (s₂.heap.objs.size,{cls:=.type "list",data:=.seq its k}) (by simp [blk])
    have hDn:H8 s₂.heap.objs.size=none:=hDn
    have hDfs:s₂.heap.objs.size∉frs X.stack:=hDfs
    have hits:its.size=ys.length:=by rw [rv.length]; simp
    refine wpAny_list_append_plain (hsz:=by rw [hits]; exact hz) ⟨k,hoD⟩ fun h9 hpl hsb=> ?_
    obtain⟨k9,e9⟩:=hpl
    have I8a:Inv (blk X (own++hide own X.N) scope P2.objs.size s₂ H₂ fp) (ea0 fp s5.heap) σ6 H8 s8:=I8.pins_of fun p hp=>I8.pin p (List.mem_append_right _ (List.mem_append_right _ hp))
    have I9:Inv (blk X (own++hide own X.N) scope P2.objs.size s₂ H₂ fp) (ea0 fp s5.heap) σ6 H8 {s8 with heap:=h9}:=I8a.turned (t':=s8.toks) (it:=s₂.heap.objs.size) (fun b o hb e=>(hsb.2 b hb).trans e) hDn hDC (.inr (Nat.le_refl _))
     (fun x c h z=>by
      obtain⟨v,o,ho,_⟩:=I2.cell x c (bG0 I2 ck h)
      exact absurd (Heap.lt_size ho) (by rw [z]; exact Nat.lt_irrefl _))
     (fun p hp z=>absurd (pfp p (by simpa [blk] using hp)) (by rw [z]; exact Nat.lt_irrefl _))
    have keepfp:∀b∈fp,∀o,s5.heap.get? b=some o->h9.get? b=some o:=fun b hb o e=>(I9.pin (b,o) (List.mem_append_right _ (bS0 hb e))).1
    have frfp:∀b∈fp,H8 b=none:=fun b hb=>by
     obtain⟨o,e,d⟩:=T.obj _ _ st5 b hb
     exact(I9.pin (b,o) (List.mem_append_right _ (bS0 hb e))).2.1
    have I10:Inv (blk X (own++hide own X.N) scope P2.objs.size s₂ H₂ fp) [(s₂.heap.objs.size,{cls:=.type "list",data:=.seq (its.push u8) k9})] σ6 H8 {s8 with heap:=h9}:=I9.pins_of fun p hp=>by
     have e:p=(s₂.heap.objs.size,{cls:=.type "list",data:=.seq (its.push u8) k9}):=by simpa using hp
     subst e
     exact⟨e9,hDn,hDC,hDfs,fun v z=>nomatch z⟩
    refine⟨m',hm,i+1,ys++ [y],its.push u8,k9,H8,wk I10,T.keep _ _ _ st5 keepfp,frfp,?_,?_,w8⟩
    ·rw [Array.toList_push]
     exact Vals.append rv (.cons r8 .nil)
    ·rw [List.length_append,List.length_singleton]
     exact hl8
 exact codeAny_compStart_list loop (T.self X.A 0 _ _ _ (T.keep _ _ _ st2 fun b _ o e=>old b o e) loop)
theorem ev0 (hc:X.calm=true)(ck:dI0 scope own X.N X.env.scope=true)(hi:PI X tg iter wi)
  (hg:∀C s₂ H₂ fp,PG (blk X (own++hide own X.N) scope C s₂ H₂ fp) tg g) (ht:∀C s₂ H₂ fp,PIf (blk X (own++hide own X.N) scope C s₂ H₂ fp) ifs tt) (he:∀C s₂ H₂ fp,PE (blk X (own++hide own X.N) scope C s₂ H₂ fp) elt te)
  (hs:∀x,foldedSetIterable iter X.env x=pure x:=by intro _; rfl):PE X (.ListComp elt [⟨tg,iter,ifs,0⟩] scope pos) (lW0 own.length wi g tt te):=by
 intro pins s σ H Q I h
 have ck:=fI0 ck
 rw [eval_ListComp]
 refine wpAny_comprehension_free (use:=none) rfl hs (dg0 (du0 I ck)) ck.kind ck.loc (thn (hi pins s σ H _ I h) fun v s1 h1=>thn h1 fun itv s2 h2=> ?_)
 obtain⟨it,fp,tn,J,H2,e,I2,T,st2,f2,hw⟩:=h2
 subst e
 refine hZ0 (RR:=fun acc C=>compPost (model X.prog X.w) X.A X.xe none (EP X pins σ Q) acc C) hc ck hg ht he I2 T st2 f2 hw ?_
 intro D C s' H' m' I' hCn hC hn q
 refine⟨m',hn,fun h' hsb=>⟨.ref D,H',?_,rfl,q⟩⟩
 refine I'.turned (t':=s'.toks) (it:=C) (fun b o hb e=>(hsb.2 b hb).trans e) hCn (Nat.ne_of_gt (Nat.lt_of_lt_of_le I2.lt hC)) (.inr (Nat.le_trans I2.sz hC)) (fun x c e z=> ?_) fun p hp z=> ?_
 ·obtain⟨v,o,ho,_⟩:=I2.cell x c e
  exact absurd (Heap.lt_size ho) (by rw [z]; exact Nat.not_lt.mpr hC)
 ·exact absurd (Heap.lt_size (I2.pin p hp).1) (by rw [z]; exact Nat.not_lt.mpr hC)
theorem oi0 {i:Nat}{y:Str}{py spos:Pos}(hN:X.N.Nodup)(hiN:X.N[i]?=some y)(hy:Loc X.env.scope y)(hc:X.calm=true)(ck:dI0 scope own X.N X.env.scope=true)(hi:PI X tg iter wi)
  (hg:∀C s₂ H₂ fp,PG (blk X (own++hide own X.N) scope C s₂ H₂ fp) tg g) (ht:∀C s₂ H₂ fp,PIf (blk X (own++hide own X.N) scope C s₂ H₂ fp) ifs tt) (he:∀C s₂ H₂ fp,PE (blk X (own++hide own X.N) scope C s₂ H₂ fp) elt te)
  (hsw:swapsWith (.ListComp elt [⟨tg,iter,ifs,0⟩] scope pos) (some (.Name y py)) spos.line X.env=pure true)
  (hs:∀x,foldedSetIterable iter X.env x=pure x:=by intro _; rfl) (hf:X.fn y=true\/ X.env.scope.names.lookup y=some .local:=by first|exact .inl rfl|exact .inr rfl|assumption):
  PS X (.Assign [.Name y py] (.ListComp elt [⟨tg,iter,ifs,0⟩] scope pos) spos) (tAsg (lW0 own.length wi g tt te) (cm0 i)):=by
 intro pins s σ H D I h
 have ck:=fI0 ck
 rw [exec_Assign_Name_used _ _ _ _ hsw]
 refine wpAny_bind (wpAny_standAt (wpAny_bind ?_))
 show wpAny _ X.A (do let _<- comprehension (.ListComp elt [⟨tg,iter,ifs,0⟩] scope pos) scope X.env _ (newList []) false (eval iter X.env) (some (assign (.Name y py) X.env))) _ _ s
 refine wpAny_bind (wpAny_mono (wpAny_comprehension_free (use:=some (assign (.Name y py) X.env)) (Q:=fun _ s'=>SP X pins D .next s') rfl hs (dg0 (du0 I ck)) ck.kind ck.loc
  (thn (hi pins s σ H _ I h) fun v s1 h1=>thn h1 fun itv s2 h2=> ?_)) (fun _ s' hq=>wpAny_pure (wpAny_pure hq)) fun _ _ e=>e)
 obtain⟨it,fp,tn,J,H2,e,I2,T,st2,f2,hw⟩:=h2
 subst e
 refine hZ0 (Q:=fun v H'=>D.nx (σ.set i (some v)) H') (RR:=fun acc C=>compPost (model X.prog X.w) X.A X.xe (some (assign (.Name y py) X.env)) (fun _ s'=>SP X pins D .next s') acc C) hc ck hg ht he I2 T st2 f2 hw ?_
 intro Dd C s' H' m' I' hCn hC hn q
 have neL:C≠X.env.locals:=Nat.ne_of_gt (Nat.lt_of_lt_of_le I2.lt hC)
 have neC:∀x c,X.env.cells.lookup x=some c->c≠C:=fun x c e z=>by
  obtain⟨v,o,ho,_⟩:=I2.cell x c e
  exact absurd (Heap.lt_size ho) (by rw [z]; exact Nat.not_lt.mpr hC)
 show wpAny _ X.A (assign (.Name y py) X.env (.ref Dd)) _ _ s'
 refine wpAny_assign_Name (fO0 I' hN hiN hy (v:=.ref Dd) rfl (fun s'' I'' ⟨a,hsb,ha⟩=> ?_) hf)
 refine⟨m',hn.sameBut hsb ?_,fun h' hsb'=>⟨_,H',?_,q⟩⟩
 ·rcases ha with e|e
  ·rw [e]; exact neL
  ·exact Ne.symm (neC y a e)
 ·refine I''.turned (t':=s''.toks) (it:=C) (fun b o hb e=>(hsb'.2 b hb).trans e) hCn neL (.inr (Nat.le_trans I2.sz hC)) neC fun p hp z=> ?_
  exact absurd (Heap.lt_size (I2.pin p hp).1) (by rw [z]; exact Nat.not_lt.mpr hC)
end
end L2
set_option Elab.async false
set_option linter.all false
set_option maxRecDepth 100000
set_option maxHeartbeats 4000000
namespace L2.BD
open PySem PySem.Spec PyProof.Rows
inductive T where
 |non|bl (b:Bool)|int (i:Int)|str (x:Str)
 |tup (ts:List T)|lst (ts:List T)|dct (kvs:List (Str × T))|ins (C:Addr) (fs:List (Str × T))|exc (C:Addr)|scr (ns:List Int)
mutual
/-- v stands for the tree; the lists,dicts and instances in it are frozen (F) -/
inductive Rp (F:Addr->Prop) (H:Hp):V->T->Prop
 |non:Rp F H .non .non
 |bl (b:Bool):Rp F H (.bl b) (.bl b)
 |int (i:Int):Rp F H (.int i) (.int i)
 |str (x:Str):Rp F H (.str x) (.str x)
 |tup {a:Addr} {xs:List V} {ts:List T} (h:H a=some (.tup xs)) (r:Rps F H xs ts):Rp F H (.ref a) (.tup ts)
 |lst {a:Addr} {xs:List V} {ts:List T} (f:F a) (h:H a=some (.lst xs)) (r:Rps F H xs ts):Rp F H (.ref a) (.lst ts)
 |dct {a:Addr} {o:Obj} {kvs:List (Key × V)} {kts:List (Str × T)} (f:F a) (h:H a=some (.frz o (.dK kvs))) (r:Rpk F H kvs kts):Rp F H (.ref a) (.dct kts)
 |ins {a C dx:Addr} {fs:List (Str × V)} {fts:List (Str × T)} (f:F a) (h:H a=some (.ins C dx fs)) (r:Rpf F H fs fts):Rp F H (.ref a) (.ins C fts)
 |exc {a C:Addr} {o:Obj} (f:F a) (h:H a=some (.frz o (.ext fun _=>True))) (hc:o.cls=.ref C):Rp F H (.ref a) (.exc C)
 |scr {a:Addr} {o:Obj} {ns:List Int} (f:F a) (h:H a=some (.frz o (.lst (ns.map V.int)))):Rp F H (.ref a) (.scr ns)
inductive Rps (F:Addr->Prop) (H:Hp):List V->List T->Prop
 |nil:Rps F H [] []
 |cons {v:V} {t:T} {vs:List V} {ts:List T} (h:Rp F H v t) (r:Rps F H vs ts):Rps F H (v::vs) (t::ts)
inductive Rpk (F:Addr->Prop) (H:Hp):List (Key × V)->List (Str × T)->Prop
 |nil:Rpk F H [] []
 |cons {k:Str} {v:V} {t:T} {vs:List (Key × V)} {ts:List (Str × T)} (h:Rp F H v t) (r:Rpk F H vs ts):Rpk F H ((Sum.inr k,v)::vs) ((k,t)::ts)
inductive Rpf (F:Addr->Prop) (H:Hp):List (Str × V)->List (Str × T)->Prop
 |nil:Rpf F H [] []
 |cons {k:Str} {v:V} {t:T} {vs:List (Str × V)} {ts:List (Str × T)} (h:Rp F H v t) (r:Rpf F H vs ts):Rpf F H ((k,v)::vs) ((k,t)::ts)
end
structure Keep (F:Addr->Prop)(H:Hp)(F':Addr->Prop)(H':Hp):Prop where
 sub:∀a,F a->F' a
 frz:∀a o,F a->H a=some o->H' a=some o
 tup:∀a xs,H a=some (.tup xs)->H' a=some (.tup xs)
theorem Keep.refl {F:Addr->Prop}{H:Hp}:Keep F H F H:=⟨fun _ h=>h,fun _ _ _ h=>h,fun _ _ h=>h⟩
theorem Keep.trans {F F1 F2:Addr->Prop}{H H1 H2:Hp}(a:Keep F H F1 H1)(b:Keep F1 H1 F2 H2):Keep F H F2 H2:=
 ⟨fun x h=>b.sub x (a.sub x h),fun x o f h=>b.frz x o (a.sub x f) (a.frz x o f h),fun x xs h=>b.tup x xs (a.tup x xs h)⟩
mutual
theorem Rp.keep {F F':Addr->Prop}{H H':Hp}(k:Keep F H F' H'):∀{v:V} {t:T},Rp F H v t->Rp F' H' v t
 |_,_,.non=> .non
 |_,_,.bl b=> .bl b
 |_,_,.int i=> .int i
 |_,_,.str x=> .str x
 |_,_,.tup h r=> .tup (k.tup _ _ h) (Rps.keep k r)
 |_,_,.lst f h r=> .lst (k.sub _ f) (k.frz _ _ f h) (Rps.keep k r)
 |_,_,.dct f h r=> .dct (k.sub _ f) (k.frz _ _ f h) (Rpk.keep k r)
 |_,_,.ins f h r=> .ins (k.sub _ f) (k.frz _ _ f h) (Rpf.keep k r)
 |_,_,.exc f h c=> .exc (k.sub _ f) (k.frz _ _ f h) c
 |_,_,.scr f h=> .scr (k.sub _ f) (k.frz _ _ f h)
theorem Rps.keep {F F':Addr->Prop}{H H':Hp}(k:Keep F H F' H'):∀{v:List V} {t:List T},Rps F H v t->Rps F' H' v t
 |_,_,.nil=> .nil
 |_,_,.cons h r=> .cons (Rp.keep k h) (Rps.keep k r)
theorem Rpk.keep {F F':Addr->Prop}{H H':Hp}(k:Keep F H F' H'):∀{v:List (Key × V)} {t:List (Str × T)},Rpk F H v t->Rpk F' H' v t
 |_,_,.nil=> .nil
 |_,_,.cons h r=> .cons (Rp.keep k h) (Rpk.keep k r)
theorem Rpf.keep {F F':Addr->Prop}{H H':Hp}(k:Keep F H F' H'):∀{v:List (Str × V)} {t:List (Str × T)},Rpf F H v t->Rpf F' H' v t
 |_,_,.nil=> .nil
 |_,_,.cons h r=> .cons (Rp.keep k h) (Rpf.keep k r)
end
inductive Rp1 (F:Addr->Prop) (H:Hp):Addr->T->Prop
 |lst {a:Addr} {xs:List V} {ts:List T} (h:H a=some (.lst xs)) (r:Rps F H xs ts):Rp1 F H a (.lst ts)
 |dct {a:Addr} {kvs:List (Key × V)} {kts:List (Str × T)} (h:H a=some (.dK kvs)) (r:Rpk F H kvs kts):Rp1 F H a (.dct kts)
 |ins {a C dx:Addr} {fs:List (Str × V)} {fts:List (Str × T)} (h:H a=some (.ins C dx fs)) (r:Rpf F H fs fts):Rp1 F H a (.ins C fts)
theorem Rp1.there {F:Addr->Prop}{H:Hp}{a:Addr}{t:T}(h:Rp1 F H a t):∃o,H a=some o:=by
 cases h<;>exact⟨_,by assumption⟩
theorem Rp1.keep {F F':Addr->Prop}{H H':Hp}{a:Addr}{t:T}(k:Keep F H F' H')(e:H' a=H a)(h:Rp1 F H a t):Rp1 F' H' a t:=by
 cases h with
 |lst h r=>exact .lst (e.trans h) (r.keep k)
 |dct h r=>exact .dct (e.trans h) (r.keep k)
 |ins h r=>exact .ins (e.trans h) (r.keep k)
def isD:T->Bool
 | .dct _=>true
 |_=>false
theorem Rp1.frozen {F:Addr->Prop}{H:Hp}{a:Addr}{t:T}(f:F a)(h:Rp1 F H a t)(nd:isD t=false):Rp F H (.ref a) t:=by
 cases h with
 |lst h r=>exact .lst f h r
 |dct h r=>cases nd
 |ins h r=>exact .ins f h r
inductive Rb (F:Addr->Prop) (H:Hp):V->T->Prop
 |v {v:V} {t:T} (h:Rp F H v t):Rb F H v t
 |o {a:Addr} {t:T} (h:Rp1 F H a t):Rb F H (.ref a) t
abbrev Rbs (F:Addr->Prop)(H:Hp):List V->List T->Prop:=Paired (Rb F H)
section
variable {F:Addr->Prop}{H:Hp}{v:V}
theorem Rb.int_ {i:Int}(h:Rb F H v (.int i)):v=.int i:=by
 cases h with
 |v h=>cases h; rfl
 |o h=>cases h
theorem Rb.bl_ {i:Bool}(h:Rb F H v (.bl i)):v=.bl i:=by
 cases h with
 |v h=>cases h; rfl
 |o h=>cases h
theorem Rb.str_ {i:Str}(h:Rb F H v (.str i)):v=.str i:=by
 cases h with
 |v h=>cases h; rfl
 |o h=>cases h
theorem Rb.non_ (h:Rb F H v .non):v=.non:=by
 cases h with
 |v h=>cases h; rfl
 |o h=>cases h
theorem Rb.tup_ {ts:List T}(h:Rb F H v (.tup ts)):∃a xs,v=.ref a/\H a=some (.tup xs)/\Rps F H xs ts:=by
 cases h with
 |v h=>cases h with|tup h r=>exact⟨_,_,rfl,h,r⟩
 |o h=>cases h
theorem Rb.lst_ {ts:List T}(h:Rb F H v (.lst ts)):∃a xs,v=.ref a/\H a=some (.lst xs)/\Rps F H xs ts:=by
 cases h with
 |v h=>cases h with|lst f h r=>exact⟨_,_,rfl,h,r⟩
 |o h=>cases h with|lst h r=>exact⟨_,_,rfl,h,r⟩
theorem Rb.scr_ {ns:List Int}(h:Rb F H v (.scr ns)):∃a o,v=.ref a/\H a=some (.frz o (.lst (ns.map V.int))):=by
 cases h with
 |v h=>cases h with|scr f h=>exact⟨_,_,rfl,h⟩
 |o h=>cases h
theorem Rb.dct_ {ts:List (Str × T)}(h:Rb F H v (.dct ts)):∃a xs,v=.ref a/\Rd H a (.dK xs)/\Rpk F H xs ts:=by
 cases h with
 |v h=>cases h with|dct f h r=>exact⟨_,_,rfl,.inr ⟨_,h⟩,r⟩
 |o h=>cases h with|dct h r=>exact⟨_,_,rfl,.inl h,r⟩
theorem Rb.ins_ {C:Addr}{ts:List (Str × T)}(h:Rb F H v (.ins C ts)):∃a dx xs,v=.ref a/\H a=some (.ins C dx xs)/\Rpf F H xs ts:=by
 cases h with
 |v h=>cases h with|ins f h r=>exact⟨_,_,_,rfl,h,r⟩
 |o h=>cases h with|ins h r=>exact⟨_,_,_,rfl,h,r⟩
end
section
variable {F:Addr->Prop}{H:Hp}
theorem Rps.length:∀{xs:List V} {ts:List T},Rps F H xs ts->xs.length=ts.length
 |_,_,.nil=>rfl
 |_,_,.cons _ r=>by simp [Rps.length r]
theorem Rps.get:∀{xs:List V} {ts:List T} {i:Nat} {t:T},Rps F H xs ts->ts[i]?=some t->∃x,xs[i]?=some x/\Rp F H x t
 |_,_,_,_,.nil,e=>by simp at e
 |_,_,0,_,.cons h _,e=>by simp at e; subst e; exact⟨_,rfl,h⟩
 |_,_,i+1,t,.cons _ r,e=>by
  obtain⟨x,h1,h2⟩:=Rps.get (i:=i) (t:=t) r (by simpa using e)
  exact⟨x,by simpa using h1,h2⟩
theorem Rps.get':∀{xs:List V} {ts:List T} {i:Nat} {x:V},Rps F H xs ts->xs[i]?=some x->∃t,ts[i]?=some t/\Rp F H x t
 |_,_,_,_,.nil,e=>by simp at e
 |_,_,0,_,.cons h _,e=>by simp at e; subst e; exact⟨_,rfl,h⟩
 |_,_,i+1,x,.cons _ r,e=>by
  obtain⟨t,h1,h2⟩:=Rps.get' (i:=i) (x:=x) r (by simpa using e)
  exact⟨t,by simpa using h1,h2⟩
theorem Rps.append:∀{xs ys:List V} {ts us:List T},Rps F H xs ts->Rps F H ys us->Rps F H (xs++ys) (ts++us)
 |_,_,_,_,.nil,s=>s
 |_,_,_,_,.cons h r,s=> .cons h (Rps.append r s)
theorem Rps.take:∀{xs:List V} {ts:List T} (n:Nat),Rps F H xs ts->Rps F H (xs.take n) (ts.take n)
 |_,_,0,_=> .nil
 |_,_,_+1,.nil=> .nil
 |_,_,n+1,.cons h r=> .cons h (Rps.take n r)
theorem Rps.drop:∀{xs:List V} {ts:List T} (n:Nat),Rps F H xs ts->Rps F H (xs.drop n) (ts.drop n)
 |_,_,0,r=>r
 |_,_,_+1,.nil=> .nil
 |_,_,n+1,.cons _ r=>Rps.drop n r
theorem Rps.one {xs:List V}{t:T}(h:Rps F H xs [t]):∃x,xs=[x]/\Rp F H x t:=by
 cases h with|cons h r=>cases r; exact⟨_,rfl,h⟩
theorem Rps.two {xs:List V}{t u:T}(h:Rps F H xs [t,u]):∃x y,xs=[x,y]/\Rp F H x t/\Rp F H y u:=by
 cases h with|cons h r=>cases r with|cons h' r=>cases r; exact⟨_,_,rfl,h,h'⟩
theorem Rbs.one {xs:List V}{t:T}(h:Rbs F H xs [t]):∃x,xs=[x]/\Rb F H x t:=by
 cases h with|cons h r=>cases r; exact⟨_,rfl,h⟩
theorem Rbs.two {xs:List V}{t u:T}(h:Rbs F H xs [t,u]):∃x y,xs=[x,y]/\Rb F H x t/\Rb F H y u:=by
 cases h with|cons h r=>cases r with|cons h' r=>cases r; exact⟨_,_,rfl,h,h'⟩
theorem Rpf.look:∀{fs:List (Str × V)} {ts:List (Str × T)} {f:Str} {t:T},Rpf F H fs ts->ts.lookup f=some t->∃v,fs.lookup f=some v/\Rp F H v t
 |_,_,_,_,.nil,e=>by simp at e
 |_,_,f,t,.cons (k:=k) h r,e=>by
  rw [List.lookup_cons] at e
  rw [List.lookup_cons]
  cases q:f==k with
  |true=>rw [q] at e; cases e; exact⟨_,rfl,h⟩
  |false=>rw [q] at e; exact Rpf.look r e
theorem Rpf.look_none:∀{fs:List (Str × V)} {ts:List (Str × T)} {f:Str},Rpf F H fs ts->ts.lookup f=none->fs.lookup f=none
 |_,_,_,.nil,_=>rfl
 |_,_,f,.cons (k:=k) h r,e=>by
  rw [List.lookup_cons] at e
  rw [List.lookup_cons]
  cases q:f==k with
  |true=>rw [q] at e; cases e
  |false=>rw [q] at e; exact Rpf.look_none r e
theorem Rpf.length:∀{xs:List (Str × V)} {ts:List (Str × T)},Rpf F H xs ts->xs.length=ts.length
 |_,_,.nil=>rfl
 |_,_,.cons _ r=>by simp [Rpf.length r]
theorem Rpk.length:∀{xs:List (Key × V)} {ts:List (Str × T)},Rpk F H xs ts->xs.length=ts.length
 |_,_,.nil=>rfl
 |_,_,.cons _ r=>by simp [Rpk.length r]
end
inductive Sl where
 |un|sh (t:T)|ow (t:T)|fix (v:V) (t:T)
abbrev En:=List Sl
structure Fx where
 H₀:Hp
 F₀:Addr->Prop
 me:Addr->Prop:=fun _=>True
 xk:Addr->Hp->Prop:=fun _ _=>False
def isI:T->Bool
 | .ins _ _=>true
 |_=>false
structure Rel (Y:Fx)(F:Addr->Prop)(ε:En)(σ:St)(H:Hp):Prop where
 len:ε.length=σ.length
 sh:∀(i:Nat) t,ε[i]?=some (.sh t)->∃v,σ[i]?=some (some v)/\Rp F H v t
 ow:∀(i:Nat) t,ε[i]?=some (.ow t)->∃a,σ[i]?=some (some (.ref a))/\¬F a/\Y.H₀ a=none/\Rp1 F H a t
 inj:∀(i j:Nat) t u a,i≠j->ε[i]?=some (.ow t)->ε[j]?=some (.ow u)->σ[i]?=some (some (.ref a))->σ[j]?=some (some (.ref a))->False
 same:∀b o,Y.H₀ b=some o->H b=some o
 sub:∀a,Y.F₀ a->F a
 new:∀a,F a->Y.F₀ a\/ Y.H₀ a=none
 trk:∀a,F a->∃o,H a=some o
 me:∀(i:Nat) t a,ε[i]?=some (.ow t)->isI t=true->σ[i]?=some (some (.ref a))->Y.me a
 fx:∀(i:Nat) v t,ε[i]?=some (.fix v t)->σ[i]?=some (some v)/\Rp F H v t
structure Mono (F:Addr->Prop)(H:Hp)(F':Addr->Prop)(H':Hp):Prop where
 ext:∀b o,H b=some o->H' b=some o
 sub:∀a,F a->F' a
 new:∀a,F' a->F a\/ H a=none
 trk:∀a,F' a->∃o,H' a=some o
theorem Mono.keep {F F':Addr->Prop}{H H':Hp}(m:Mono F H F' H'):Keep F H F' H':=⟨m.sub,fun a o _ h=>m.ext a o h,fun a xs h=>m.ext a _ h⟩
theorem Mono.free {F F':Addr->Prop}{H H':Hp}(m:Mono F H F' H'){a:Addr}(h:H' a=none):H a=none:=by
 cases q:H a with
 |none=>rfl
 |some o=>rw [m.ext a o q] at h; cases h
theorem Mono.trans {F F1 F2:Addr->Prop}{H H1 H2:Hp}(a:Mono F H F1 H1)(b:Mono F1 H1 F2 H2):Mono F H F2 H2:=
 ⟨fun x o h=>b.ext x o (a.ext x o h),fun x h=>b.sub x (a.sub x h),fun x h=>(b.new x h).elim (a.new x) fun z=> .inr (a.free z),b.trk⟩
theorem Mono.refl {F:Addr->Prop}{H:Hp}(t:∀a,F a->∃o,H a=some o):Mono F H F H:=⟨fun _ _ h=>h,fun _ h=>h,fun _ h=> .inl h,t⟩
theorem Rel.refl {Y:Fx}{F:Addr->Prop}{ε:En}{σ:St}{H:Hp}(r:Rel Y F ε σ H):Mono F H F H:=.refl r.trk
theorem Mono.laid {F:Addr->Prop}{H:Hp}{p:Addr}{o:HO}(t:∀a,F a->∃o,H a=some o)(hp:H p=none):Mono F H F (upd H p o):=by
 have e:∀b u,H b=some u->upd H p o b=some u:=fun b u h=>by rw [ah0 (am0 h hp)]; exact h
 exact⟨e,fun _ h=>h,fun _ h=> .inl h,fun a h=>let ⟨u,q⟩:=t a h; ⟨u,e a u q⟩⟩
theorem Mono.freeze {F F':Addr->Prop}{H H':Hp}{a:Addr}(m:Mono F H F' H')(n:H a=none)(t:∃o,H' a=some o):Mono F H (fun b=>F' b\/ b=a) H':=
 ⟨m.ext,fun x h=> .inl (m.sub x h),fun x h=>h.elim (m.new x) fun e=> .inr (e▸n),fun x h=>h.elim (m.trk x) fun e=>e▸t⟩
theorem Keep.freeze {F:Addr->Prop}{H:Hp}{a:Addr}:Keep F H (fun b=>F b\/ b=a) H:=⟨fun _ h=> .inl h,fun _ _ _ h=>h,fun _ _ h=>h⟩
theorem Rb.keep {F F':Addr->Prop}{H H':Hp}(m:Mono F H F' H'){v:V}{t:T}(h:Rb F H v t):Rb F' H' v t:=by
 cases h with
 |v h=>exact .v (h.keep m.keep)
 |o h=>
  obtain⟨o,q⟩:=h.there
  exact .o (h.keep m.keep ((m.ext _ o q).trans q.symm))
theorem Rel.mono {Y:Fx}{F F':Addr->Prop}{ε:En}{σ:St}{H H':Hp}(r:Rel Y F ε σ H)(m:Mono F H F' H'):Rel Y F' ε σ H' where
 len:=r.len
 sh:=fun i t e=>let ⟨v,h1,h2⟩:=r.sh i t e; ⟨v,h1,h2.keep m.keep⟩
 ow:=fun i t e=>by
  obtain⟨a,h1,h2,h3,h4⟩:=r.ow i t e
  obtain⟨o,q⟩:=h4.there
  refine⟨a,h1,fun z=> ?_,h3,h4.keep m.keep ((m.ext _ o q).trans q.symm)⟩
  rcases m.new a z with z|z
  ·exact h2 z
  ·rw [z] at q; cases q
 inj:=r.inj
 same:=fun b o h=>m.ext b o (r.same b o h)
 sub:=fun a h=>m.sub a (r.sub a h)
 new:=fun a h=>by
  rcases m.new a h with z|z
  ·exact r.new a z
  ·refine .inr ?_
   cases q:Y.H₀ a with
   |none=>rfl
   |some o=>rw [r.same a o q] at z; cases z
 trk:=m.trk
 me:=r.me
 fx:=fun i v t e=>let ⟨h1,h2⟩:=r.fx i v t e; ⟨h1,h2.keep m.keep⟩
section
variable (Y:Fx)
def Tr (f:En->Option T):TE:=fun σ H Q=>∃F ε t,Rel Y F ε σ H/\f ε=some t/\∀F' v H',Mono F H F' H'->Rp F' H' v t->Q v H'
def TrB (f:En->Option T):TE:=fun σ H Q=>∃F ε t,Rel Y F ε σ H/\f ε=some t/\∀F' v H',Mono F H F' H'->Rb F' H' v t->Q v H'
def TrF (f:En->Option T):TE:=fun σ H Q=>∃F ε t,Rel Y F ε σ H/\f ε=some t/\∀F' a H',Mono F H F' H'->H a=none->¬F' a->Rp1 F' H' a t->Q (.ref a) H'
def TrT (f:En->Option Bool):TT:=fun σ H Q=>∃F ε b,Rel Y F ε σ H/\f ε=some b/\∀F' H',Mono F H F' H'->Q b H'
def TrA (f:En->Option (List T)):TA:=fun σ H Q=>∃F ε ts,Rel Y F ε σ H/\f ε=some ts/\∀F' vs H',Mono F H F' H'->Rps F' H' vs ts->Q vs H'
def TrAB (f:En->Option (List T)):TA:=fun σ H Q=>∃F ε ts,Rel Y F ε σ H/\f ε=some ts/\∀F' vs H',Mono F H F' H'->Rbs F' H' vs ts->Q vs H'
end
abbrev SE (X:Cx)(Y:Fx)(e:Expr)(f:En->Option T):Prop:=PE X e (Tr Y f)
abbrev BE (X:Cx)(Y:Fx)(e:Expr)(f:En->Option T):Prop:=PE X e (TrB Y f)
abbrev FE (X:Cx)(Y:Fx)(e:Expr)(f:En->Option T):Prop:=PE X e (TrF Y f)
abbrev QT (X:Cx)(Y:Fx)(e:Expr)(f:En->Option Bool):Prop:=PT X e (TrT Y f)
abbrev QW (X:Cx)(Y:Fx)(e:Expr)(f:En->Option Bool):Prop:=PW X e (TrT Y f)
abbrev SA (X:Cx)(Y:Fx)(es:List Expr)(f:En->Option (List T)):Prop:=PA X es (TrA Y f)
abbrev BA (X:Cx)(Y:Fx)(es:List Expr)(f:En->Option (List T)):Prop:=PA X es (TrAB Y f)
section
variable {X:Cx}{Y:Fx}{e a b:Expr}{pos:Pos}{f g:En->Option T}
theorem PE.imp {t t':TE}(h:PE X e t)(i:∀σ H Q,t' σ H Q->t σ H Q):PE X e t':=fun pins s σ H Q I q=>h pins s σ H Q I (i σ H Q q)
theorem PT.imp {t t':TT}(h:PT X e t)(i:∀σ H Q,t' σ H Q->t σ H Q):PT X e t':=fun pins s σ H Q I q=>h pins s σ H Q I (i σ H Q q)
theorem PW.imp {t t':TT}(h:PW X e t)(i:∀σ H Q,t' σ H Q->t σ H Q):PW X e t':=fun wh pins s σ H Q I q=>h wh pins s σ H Q I (i σ H Q q)
theorem PA.imp {es:List Expr}{t t':TA}(h:PA X es t)(i:∀σ H Q,t' σ H Q->t σ H Q):PA X es t':=fun p pins s σ H Q I q=>h p pins s σ H Q I (i σ H Q q)
theorem PS.imp {st:Stmt}{t t':TS}(h:PS X st t)(i:∀D σ H,t' D σ H->t D σ H):PS X st t':=fun pins s σ H D I q=>h pins s σ H D I (i D σ H q)
theorem PSs.imp {st:List Stmt}{t t':TS}(h:PSs X st t)(i:∀D σ H,t' D σ H->t D σ H):PSs X st t':=fun pins s σ H D I q=>h pins s σ H D I (i D σ H q)
theorem ae0 (h:SE X Y e f):BE X Y e f:=PE.imp h fun _ _ _ ⟨F,ε,t,r,hf,k⟩=>⟨F,ε,t,r,hf,fun F' v H' m q=>k F' v H' m (.v q)⟩
theorem _root_.L2.Inv.seal {X:Cx}{pins:List (Addr × Obj)}{σ:St}{H:Hp}{s:Shared}{a:Addr}{kvs:List (Key × V)}(I:Inv X pins σ H s)(h:H a=some (.dK kvs))(h0:X.H₀ a=none\/ True)(hn:∀o u,X.H₀ a≠some (.frz o u))(ht:∀xs,X.H₀ a≠some (.tup xs))(hb:∀ps,X.H₀ a≠some (.tbl ps)):
  ∃o,Inv X pins σ (upd H a (.frz o (.dK kvs))) s:=by
 have ok:=I.hok a _ h
 obtain⟨_,_,_,_,ob,_,_,hob,_⟩:=id ok
 have hm:∀b u,H b=some u->b≠a->upd H a (.frz ob (.dK kvs)) b=some u:=fun b u q ne=>by rw [ah0 ne]; exact q
 have up:∀b u,H b=some u->(∀z,u≠ .dK z)->upd H a (.frz ob (.dK kvs)) b=some u:=fun b u q ne=>hm b u q fun z=>by rw [z,h] at q; exact ne kvs (Option.some.inj q).symm
 have nn:∀b,H b=none->upd H a (.frz ob (.dK kvs)) b=none:=fun b q=>by rw [ah0 (fun z=>by rw [z,h] at q; cases q)]; exact q
 refine⟨ob,⟨I.ok,I.os,I.bare,⟨I.base.keep,I.base.slot,fun b o e n hx=>nn b (I.base.free b o e n hx),I.base.there,fun b xs e=>up b _ (I.base.tups b xs e) (fun z w=>by cases w),fun b o u e=> ?_,fun b ps e=> ?_⟩,I.loc,I.cell,nn _ I.free,fun x c e=>nn c (I.freeC x c e),fun p hp=> ?_,fun b u e=> ?_,I.len⟩⟩
 ·refine up b _ (I.base.frzs b o u e) fun z w=>by cases w
 ·obtain⟨mo,q⟩:=I.base.tbls b ps e
  exact⟨mo,up b _ q fun z w=>by cases w⟩
 ·obtain⟨h1,h2,h3⟩:=I.pin p hp
  exact⟨h1,nn _ h2,h3⟩
 ·have st:∀{c:Addr} {v:HO},ObjOk X.prog X.w H s.heap c v->ObjOk X.prog X.w (upd H a (.frz ob (.dK kvs))) s.heap c v:=fun x=>x.stay (fun _ _ _ q=>q) (fun c q=>up c _ q fun z w=>by cases w) fun c xs q=>up c _ q fun z w=>by cases w
  by_cases hba:b=a
  ·subst hba
   rw [ai0] at e
   cases e
   exact⟨hob,st ok⟩
  ·rw [ah0 hba] at e
   exact st (I.hok b u e)
theorem cw0 (h:FE X Y e f):SE X Y e f:=by
 intro pins s σ H Q I ⟨F,ε,t,r,hf,k⟩
 refine thn (h pins s σ H (fun v H'=>∃F' a,v=.ref a/\Mono F H F' H'/\H a=none/\¬F' a/\Rp1 F' H' a t) I ⟨F,ε,t,r,hf,fun F' a H' m n nf q=>⟨F',a,rfl,m,n,nf,q⟩⟩) fun u s1 ⟨v,H1,I1,rv,F1,a,ev,m,n,nf,q⟩=> ?_
 subst ev
 by_cases hd:isD t=true
 ·cases t with
  |dct kts=>
   cases q with
   |dct ha rs=>
    rename_i kvs
    have z1:∀o u,X.H₀ a≠some (.frz o u):=fun o u z=>by have:=I.base.frzs a o u z; rw [n] at this; cases this
    have z2:∀xs,X.H₀ a≠some (.tup xs):=fun xs z=>by have:=I.base.tups a xs z; rw [n] at this; cases this
    have z3:∀ps,X.H₀ a≠some (.tbl ps):=fun ps z=>by obtain⟨mo,w⟩:=I.base.tbls a ps z; rw [n] at w; cases w
    obtain⟨ob,I2⟩:=I1.seal ha (.inr trivial) z1 z2 z3
    have kp:Keep F1 H1 (fun b=>F1 b\/ b=a) (upd H1 a (.frz ob (.dK kvs))):=⟨fun _ h=> .inl h,fun b u f q=>by rw [ah0 (fun(z:b=a)=>nf (z▸f))]; exact q,fun b xs q=>by rw [ah0 (fun(z:b=a)=>by rw [z,ha] at q; cases q)]; exact q⟩
    have m2:Mono F H (fun b=>F1 b\/ b=a) (upd H1 a (.frz ob (.dK kvs))):=⟨fun b u q=>by rw [ah0 (am0 q n)]; exact m.ext b u q,fun b q=> .inl (m.sub b q),fun b q=>q.elim (m.new b) fun z=> .inr (z▸n),fun b q=>by
     by_cases z:b=a
     ·exact⟨_,by rw [z]; exact ai0⟩
     ·rcases q with q|q
      ·obtain⟨u,w⟩:=m.trk b q
       exact⟨u,by rw [ah0 z]; exact w⟩
      ·exact absurd q z⟩
    exact⟨.ref a,_,I2,rv,k _ _ _ m2 (.dct (.inr rfl) ai0 (rs.keep kp))⟩
  |_=>cases hd
 ·exact⟨.ref a,H1,I1,rv,k _ _ _ (m.freeze n q.there) ((q.keep Keep.freeze rfl).frozen (.inr rfl) (by simpa using hd))⟩
theorem cj0 (h:FE X Y e f):BE X Y e f:=ae0 (cw0 h)
def eVar (i:Nat):En->Option T:=fun ε=>match ε[i]? with|some (.sh t)=>some t|some (.fix _ t)=>some t|_=>none
def bVar (i:Nat):En->Option T:=fun ε=>match ε[i]? with|some (.sh t)=>some t|some (.ow t)=>some t|some (.fix _ t)=>some t|_=>none
def eC (t:T):En->Option T:=fun _=>some t
theorem aj0 {i:Nat}{x:Str}(h:PE X (.Name x pos) (tVar i)):SE X Y (.Name x pos) (eVar i):=PE.imp h fun σ H Q ⟨F,ε,t,r,hf,k⟩=>by
 unfold eVar at hf
 split at hf
 ·cases hf
  obtain⟨v,h1,h2⟩:=r.sh i t (by assumption)
  exact⟨v,h1,k F v H r.refl h2⟩
 ·cases hf
  obtain⟨h1,h2⟩:=r.fx i _ _ (by assumption)
  exact⟨_,h1,k F _ H r.refl h2⟩
 ·cases hf
theorem ac0 {i:Nat}{x:Str}(h:PE X (.Name x pos) (tVar i)):BE X Y (.Name x pos) (bVar i):=PE.imp h fun σ H Q ⟨F,ε,t,r,hf,k⟩=>by
 unfold bVar at hf
 split at hf
 ·cases hf
  obtain⟨v,h1,h2⟩:=r.sh i t (by assumption)
  exact⟨v,h1,k F v H r.refl (.v h2)⟩
 ·cases hf
  obtain⟨a,h1,_,_,h2⟩:=r.ow i t (by assumption)
  exact⟨_,h1,k F _ H r.refl (.o h2)⟩
 ·cases hf
  obtain⟨h1,h2⟩:=r.fx i _ _ (by assumption)
  exact⟨_,h1,k F _ H r.refl (.v h2)⟩
 ·cases hf
theorem mc0 {v:V}{t:T}(h:PE X e (tC v))(r:∀F H,Rp F H v t):SE X Y e (eC t):=PE.imp h fun σ H Q ⟨F,ε,u,rl,hf,k⟩=>by
 cases hf
 exact k F v H rl.refl (r F H)
theorem ad0 {i:Int}{j:Nat}:SE X Y (.Constant (.int i) j pos) (eC (.int i)):=mc0 jS0 fun _ _=> .int i
theorem eZ0 {i:Bool}{j:Nat}:SE X Y (.Constant (.bool i) j pos) (eC (.bl i)):=mc0 lH0 fun _ _=> .bl i
theorem bW0 {i:Str}{j:Nat}:SE X Y (.Constant (.str i) j pos) (eC (.str i)):=mc0 mK0 fun _ _=> .str i
def e1 (φ:T->Option T)(f:En->Option T):En->Option T:=fun ε=>(f ε).bind φ
def e2 (φ:T->T->Option T)(f g:En->Option T):En->Option T:=fun ε=>(f ε).bind fun s=>(g ε).bind fun t=>φ s t
def Op2 (r:R2)(φ:T->T->Option T):Prop:=∀F H x y s t u Q,(∀a,F a->∃o,H a=some o)->Rb F H x s->Rb F H y t->φ s t=some u->(∀F' v H',Mono F H F' H'->Rp F' H' v u->Q v H')->r x y H Q
theorem mz0 {r:R2}{φ:T->T->Option T}(o:Op2 r φ)(σ:St)(H:Hp)(Q:VK)(h:Tr Y (e2 φ f g) σ H Q):tOp r (TrB Y f) (TrB Y g) σ H Q:=by
 obtain⟨F,ε,u,rl,hf,k⟩:=h
 unfold e2 at hf
 cases q1:f ε with
 |none=>rw [q1] at hf; cases hf
 |some s=>
  rw [q1] at hf
  cases q2:g ε with
  |none=>simp only [Option.bind_some,q2] at hf; cases hf
  |some t=>
   simp only [Option.bind_some,q2] at hf
   refine⟨F,ε,s,rl,q1,fun F1 x H1 m1 r1=>⟨F1,ε,t,rl.mono m1,q2,fun F2 y H2 m2 r2=> ?_⟩⟩
   exact o F2 H2 x y s t u Q m2.trk (r1.keep m2) r2 hf fun F3 v H3 m3 r3=>k F3 v H3 ((m1.trans m2).trans m3) r3
theorem it0 {op:Operator}{r:R2}{φ:T->T->Option T}(ho:OpR X (binaryOp op) r)(o:Op2 r φ)(ha:BE X Y a f)(hb:BE X Y b g):SE X Y (.BinOp a op b pos) (e2 φ f g):=PE.imp (pe_op ho ha hb) (mz0 o)
theorem ne0 {op:CmpOp}{r:R2}{φ:T->T->Option T}(ho:OpR X (compareOp op) r)(o:Op2 r φ)(ha:BE X Y a f)(hb:BE X Y b g)(hm:behindInMarks op b=false):SE X Y (.Compare a [op] [b] pos) (e2 φ f g):=PE.imp (jB0 ho ha hb hm) (mz0 o)
def qB (f:En->Option T):En->Option Bool:=fun ε=>match f ε with|some (.bl b)=>some b|_=>none
theorem gp0 {te:TE}(h:∀σ H Q,Tr Y f σ H Q->te σ H Q)(σ:St)(H:Hp)(Q:Bool->Hp->Prop)(q:TrT Y (qB f) σ H Q):lB0 te σ H Q:=by
 obtain⟨F,ε,b,rl,hf,k⟩:=q
 unfold qB at hf
 split at hf
 ·cases hf
  refine h σ H _ ⟨F,ε,.bl b,rl,by assumption,fun F' v H' m r=>⟨b,(Rb.v r).bl_,k F' H' m⟩⟩
 ·cases hf
theorem eF0 {op:CmpOp}{r:R2}{φ:T->T->Option T}(ho:OpR X (compareOp op) r)(o:Op2 r φ)(ha:BE X Y a f)(hb:BE X Y b g)(hm:behindInMarks op b=false):QT X Y (.Compare a [op] [b] pos) (qB (e2 φ f g)):=PT.imp (fn0 ho ha hb hm) (gp0 (mz0 o))
theorem ce0 (h:SE X Y e f)(he:∀whole,isTrue e X.env whole=(do let v<- whole; standAt e.pos; holding [v] (truthy v)):=by intro _; rfl):QT X Y e (qB f):=PT.imp (iX0 h he) (gp0 fun _ _ _ z=>z)
def qNot (f:En->Option Bool):En->Option Bool:=fun ε=>(f ε).map (!·)
def qAnd (f g:En->Option Bool):En->Option Bool:=fun ε=>(f ε).bind fun b=>if b=true then g ε else some false
def qOr (f g:En->Option Bool):En->Option Bool:=fun ε=>(f ε).bind fun b=>if b=true then some true else g ε
variable {p q:En->Option Bool}{rest:List Expr}
theorem cS0 (h:QT X Y a p):QT X Y (.UnaryOp .Not a pos) (qNot p):=PT.imp (jK0 h) fun σ H Q ⟨F,ε,b,rl,hf,k⟩=>by
 unfold qNot at hf
 cases e:p ε with
 |none=>rw [e] at hf; cases hf
 |some c=>rw [e] at hf; cases hf; exact⟨F,ε,c,rl,e,k⟩
theorem nS0 (h:QT X Y a p):QW X Y (.BoolOp .And [a] pos) p:=nR0 h
theorem fz0 (h:QT X Y a p):QW X Y (.BoolOp .Or [a] pos) p:=jX0 h
theorem oW0 (h:QT X Y a p)(h2:QW X Y (.BoolOp .And (b::rest) pos) q):QW X Y (.BoolOp .And (a::b::rest) pos) (qAnd p q):=PW.imp (pj0 h h2) fun σ H Q ⟨F,ε,c,rl,hf,k⟩=>by
 unfold qAnd at hf
 cases e:p ε with
 |none=>rw [e] at hf; cases hf
 |some d=>
  rw [e] at hf
  refine⟨F,ε,d,rl,e,fun F1 H1 m1=> ?_⟩
  cases d with
  |true=>exact⟨F1,ε,c,rl.mono m1,by simpa using hf,fun F2 H2 m2=>k F2 H2 (m1.trans m2)⟩
  |false=>cases hf; exact k F1 H1 m1
theorem iT0 (h:QT X Y a p)(h2:QW X Y (.BoolOp .Or (b::rest) pos) q):QW X Y (.BoolOp .Or (a::b::rest) pos) (qOr p q):=PW.imp (oz0 h h2) fun σ H Q ⟨F,ε,c,rl,hf,k⟩=>by
 unfold qOr at hf
 cases e:p ε with
 |none=>rw [e] at hf; cases hf
 |some d=>
  rw [e] at hf
  refine⟨F,ε,d,rl,e,fun F1 H1 m1=> ?_⟩
  cases d with
  |true=>cases hf; exact k F1 H1 m1
  |false=>exact⟨F1,ε,c,rl.mono m1,by simpa using hf,fun F2 H2 m2=>k F2 H2 (m1.trans m2)⟩
theorem qt_w (h:QW X Y e p):QT X Y e p:=h.pt
end
inductive Fl where
 |nx (ε:En)|rt (o:Bool) (t:T)|bk (ε:En)|ct (ε:En)|xc (C:Addr)
structure End (Y:Fx)(F:Addr->Prop)(H:Hp):Prop where
 same:∀b o,Y.H₀ b=some o->H b=some o
 sub:∀a,Y.F₀ a->F a
 new:∀a,F a->Y.F₀ a\/ Y.H₀ a=none
 trk:∀a,F a->∃o,H a=some o
theorem Rel.fin {Y:Fx}{F:Addr->Prop}{ε:En}{σ:St}{H:Hp}(r:Rel Y F ε σ H):End Y F H:=⟨r.same,r.sub,r.new,r.trk⟩
def Res (Y:Fx)(o:Bool)(F:Addr->Prop)(H:Hp)(v:V)(t:T):Prop:=
 if o=true then∃a,v=.ref a/\¬F a/\Y.H₀ a=none/\Rp1 F H a t else Rp F H v t
def Post (Y:Fx)(D:Ends)(F:Addr->Prop)(H:Hp):Fl->Prop
 | .nx ε=>∀F' σ' H',Keep F H F' H'->Rel Y F' ε σ' H'->D.nx σ' H'
 | .rt o t=>∀F' v H',End Y F' H'->Res Y o F' H' v t->D.rt v H'
 | .bk ε=>∀F' σ' H',Keep F H F' H'->Rel Y F' ε σ' H'->D.bk σ' H'
 | .ct ε=>∀F' σ' H',Keep F H F' H'->Rel Y F' ε σ' H'->D.ct σ' H'
 | .xc C=>∀F' H',End Y F' H'->Y.xk C H'
theorem Post.keep {Y:Fx}{D:Ends}{F F1:Addr->Prop}{H H1:Hp}{fl:Fl}(k:Keep F H F1 H1)(p:Post Y D F H fl):Post Y D F1 H1 fl:=by
 cases fl with
 |nx ε=>exact fun F' σ' H' k' r=>p F' σ' H' (k.trans k') r
 |rt o t=>exact p
 |bk ε=>exact fun F' σ' H' k' r=>p F' σ' H' (k.trans k') r
 |ct ε=>exact fun F' σ' H' k' r=>p F' σ' H' (k.trans k') r
 |xc C=>exact p
def TrS (Y:Fx)(g:En->Option Fl):TS:=fun D σ H=>∃F ε fl,Rel Y F ε σ H/\g ε=some fl/\Post Y D F H fl
abbrev SS (X:Cx)(Y:Fx)(st:Stmt)(g:En->Option Fl):Prop:=PS X st (TrS Y g)
abbrev SSs (X:Cx)(Y:Fx)(st:List Stmt)(g:En->Option Fl):Prop:=PSs X st (TrS Y g)
theorem aO0 {α:Type}{l:List α}{i j:Nat}{a b:α}(h:(l.set i a)[j]?=some b):(j=i/\i<l.length/\b=a)\/ (j≠i/\l[j]?=some b):=by
 rw [List.getElem?_set] at h
 by_cases e:i=j
 ·rw [if_pos e] at h
  by_cases h2:i<l.length
  ·rw [if_pos h2] at h; exact .inl ⟨e.symm,h2,(Option.some.inj h).symm⟩
  ·rw [if_neg h2] at h; cases h
 ·rw [if_neg e] at h
  exact .inr ⟨fun z=>e z.symm,h⟩
section
variable {Y:Fx}{F:Addr->Prop}{ε:En}{σ:St}{H:Hp}
theorem Rel.set_sh (r:Rel Y F ε σ H){i:Nat}{v:V}{t:T}(h:Rp F H v t):Rel Y F (ε.set i (.sh t)) (σ.set i (some v)) H where
 len:=by rw [List.length_set,List.length_set]; exact r.len
 sh:=fun j u e=>by
  rcases aO0 e with⟨rfl,hl,e⟩|⟨ne,e⟩
  ·cases e; exact⟨v,by rw [List.getElem?_set_self (by rw [<- r.len]; exact hl)],h⟩
  ·obtain⟨v',h1,h2⟩:=r.sh j u e
   exact⟨v',by rw [List.getElem?_set_ne (Ne.symm ne)]; exact h1,h2⟩
 ow:=fun j u e=>by
  rcases aO0 e with⟨rfl,hl,e⟩|⟨ne,e⟩
  ·cases e
  ·obtain⟨a,h1,h2⟩:=r.ow j u e
   exact⟨a,by rw [List.getElem?_set_ne (Ne.symm ne)]; exact h1,h2⟩
 inj:=fun j k u w a ne e1 e2 s1 s2=>by
  rcases aO0 e1 with⟨rfl,hl,e⟩|⟨n1,e1⟩
  ·cases e
  rcases aO0 e2 with⟨rfl,hl,e⟩|⟨n2,e2⟩
  ·cases e
  rw [List.getElem?_set_ne (Ne.symm n1)] at s1
  rw [List.getElem?_set_ne (Ne.symm n2)] at s2
  exact r.inj j k u w a ne e1 e2 s1 s2
 same:=r.same
 sub:=r.sub
 new:=r.new
 trk:=r.trk
 me:=fun j u b e hi s1=>by
  rcases aO0 e with⟨rfl,hl,e⟩|⟨ne,e⟩
  ·cases e
  ·rw [List.getElem?_set_ne (Ne.symm ne)] at s1
   exact r.me j u b e hi s1
 fx:=fun j v' u e=>by
  rcases aO0 e with⟨rfl,hl,e⟩|⟨ne,e⟩
  ·cases e
  ·rw [List.getElem?_set_ne (Ne.symm ne)]
   exact r.fx j v' u e
theorem Rel.set_ow (r:Rel Y F ε σ H){i:Nat}{a:Addr}{t:T}(nf:¬F a)(h0:Y.H₀ a=none)(h:Rp1 F H a t)(hn:∀(j:Nat) u,ε[j]?=some (.ow u)->σ[j]?≠some (some (.ref a)))(hm:isI t=false):Rel Y F (ε.set i (.ow t)) (σ.set i (some (.ref a))) H where
 len:=by rw [List.length_set,List.length_set]; exact r.len
 sh:=fun j u e=>by
  rcases aO0 e with⟨rfl,hl,e⟩|⟨ne,e⟩
  ·cases e
  ·obtain⟨v',h1,h2⟩:=r.sh j u e
   exact⟨v',by rw [List.getElem?_set_ne (Ne.symm ne)]; exact h1,h2⟩
 ow:=fun j u e=>by
  rcases aO0 e with⟨rfl,hl,e⟩|⟨ne,e⟩
  ·cases e; exact⟨a,by rw [List.getElem?_set_self (by rw [<- r.len]; exact hl)],nf,h0,h⟩
  ·obtain⟨a,h1,h2⟩:=r.ow j u e
   exact⟨a,by rw [List.getElem?_set_ne (Ne.symm ne)]; exact h1,h2⟩
 inj:=fun j k u w b ne e1 e2 s1 s2=>by
  rcases aO0 e1 with⟨z1,hl,_⟩|⟨n1,q1⟩
  ·rcases aO0 e2 with⟨z2,hl2,_⟩|⟨n2,q2⟩
   ·exact ne (z1.trans z2.symm)
   ·rw [z1,List.getElem?_set_self (by rw [<- r.len]; exact hl)] at s1
    cases s1
    rw [List.getElem?_set_ne (Ne.symm n2)] at s2
    exact hn k w q2 s2
  ·rcases aO0 e2 with⟨z2,hl2,_⟩|⟨n2,q2⟩
   ·rw [z2,List.getElem?_set_self (by rw [<- r.len]; exact hl2)] at s2
    cases s2
    rw [List.getElem?_set_ne (Ne.symm n1)] at s1
    exact hn j u q1 s1
   ·rw [List.getElem?_set_ne (Ne.symm n1)] at s1
    rw [List.getElem?_set_ne (Ne.symm n2)] at s2
    exact r.inj j k u w b ne q1 q2 s1 s2
 same:=r.same
 sub:=r.sub
 new:=r.new
 trk:=r.trk
 me:=fun j u b e hi s1=>by
  rcases aO0 e with⟨rfl,hl,e⟩|⟨ne,e⟩
  ·cases e; rw [hm] at hi; cases hi
  ·rw [List.getElem?_set_ne (Ne.symm ne)] at s1
   exact r.me j u b e hi s1
 fx:=fun j v' u e=>by
  rcases aO0 e with⟨rfl,hl,e⟩|⟨ne,e⟩
  ·cases e
  ·rw [List.getElem?_set_ne (Ne.symm ne)]
   exact r.fx j v' u e
theorem Rel.write (r:Rel Y F ε σ H){i:Nat}{a:Addr}{t t':T}{o:HO}(e:ε[i]?=some (.ow t))(s:σ[i]?=some (some (.ref a)))(mu:∀xs,H a≠some (.tup xs))(h:Rp1 F (upd H a o) a t')(hm:isI t'=true->isI t=true:=by exact fun z=>nomatch z):
  Rel Y F (ε.set i (.ow t')) σ (upd H a o)/\Keep F H F (upd H a o):=by
 obtain⟨a',s',nf,h0,hr⟩:=r.ow i t e
 rw [s] at s'
 cases s'
 have k:Keep F H F (upd H a o):=⟨fun _ h=>h,fun b u f q=>by rw [ah0 (fun(z:b=a)=>nf (z▸f))]; exact q,fun b xs q=>by rw [ah0 (fun(z:b=a)=>mu xs (z▸q))]; exact q⟩
 have hil:i<ε.length:=(List.getElem?_eq_some_iff.mp e).1
 refine⟨⟨by rw [List.length_set]; exact r.len,fun j u q=> ?_,fun j u q=> ?_,fun j k' u w b ne e1 e2 s1 s2=> ?_,fun b u q=> ?_,r.sub,r.new,fun b f=> ?_,fun j u b q hi s1=> ?_,fun j v' u q=> ?_⟩,k⟩
 ·rcases aO0 q with⟨rfl,hl,q⟩|⟨ne,q⟩
  ·cases q
  ·obtain⟨v',h1,h2⟩:=r.sh j u q
   exact⟨v',h1,h2.keep k⟩
 ·rcases aO0 q with⟨rfl,hl,q⟩|⟨ne,q⟩
  ·cases q; exact⟨a,s,nf,h0,h⟩
  ·obtain⟨b,h1,h2,h3,h4⟩:=r.ow j u q
   have nba:b≠a:=fun z=>r.inj j i u t a ne q e (z▸h1) s
   exact⟨b,h1,h2,h3,h4.keep k (ah0 nba)⟩
 ·rcases aO0 e1 with⟨rfl,hl,q⟩|⟨n1,q1⟩
  ·rcases aO0 e2 with⟨rfl,hl2,q2⟩|⟨n2,q2⟩
   ·exact ne rfl
   ·exact r.inj _ k' t w b ne e q2 s1 s2
  ·rcases aO0 e2 with⟨rfl,hl2,q2⟩|⟨n2,q2⟩
   ·exact r.inj j _ u t b ne q1 e s1 s2
   ·exact r.inj j k' u w b ne q1 q2 s1 s2
 ·rw [ah0 (fun z=>by rw [z,h0] at q; cases q)]
  exact r.same b u q
 ·obtain⟨u,q⟩:=r.trk b f
  exact⟨u,by rw [ah0 (fun(z:b=a)=>nf (z▸f))]; exact q⟩
 ·rcases aO0 q with⟨rfl,hl,q⟩|⟨ne,q⟩
  ·cases q; exact r.me _ t b e (hm hi) s1
  ·exact r.me j u b q hi s1
 ·rcases aO0 q with⟨rfl,hl,q⟩|⟨ne,q⟩
  ·cases q
  ·obtain⟨h1,h2⟩:=r.fx j v' u q
   exact⟨h1,h2.keep k⟩
def frz (i:Nat)(ε:En):En:=match ε[i]? with|some (.ow t)=>if isD t then ε else ε.set i (.sh t)|_=>ε
theorem Rel.freeze (r:Rel Y F ε σ H)(i:Nat):∃F',Rel Y F' (frz i ε) σ H/\Keep F H F' H:=by
 unfold frz
 split
 ·rename_i t e
  split
  ·exact⟨F,r,Keep.refl⟩
  rename_i nd
  obtain⟨a,s,nf,h0,hr⟩:=r.ow i t e
  have k:Keep F H (fun b=>F b\/ b=a) H:=Keep.freeze
  refine⟨fun b=>F b\/ b=a,⟨by rw [List.length_set]; exact r.len,fun j u q=> ?_,fun j u q=> ?_,fun j k' u w b ne e1 e2 s1 s2=> ?_,r.same,fun b f=> .inl (r.sub b f),fun b f=> ?_,fun b f=> ?_,fun j u b q hi s1=> ?_,fun j v' u q=> ?_⟩,k⟩
  ·rcases aO0 q with⟨rfl,hl,q⟩|⟨ne,q⟩
   ·cases q; exact⟨_,s,(hr.keep k rfl).frozen (.inr rfl) (by simpa using nd)⟩
   ·obtain⟨v',h1,h2⟩:=r.sh j u q
    exact⟨v',h1,h2.keep k⟩
  ·rcases aO0 q with⟨rfl,hl,q⟩|⟨ne,q⟩
   ·cases q
   ·obtain⟨b,h1,h2,h3,h4⟩:=r.ow j u q
    refine⟨b,h1,fun z=>z.elim h2 fun z=>r.inj j i u t a ne q e (z▸h1) s,h3,h4.keep k rfl⟩
  ·rcases aO0 e1 with⟨rfl,hl,q⟩|⟨n1,q1⟩
   ·cases q
   ·rcases aO0 e2 with⟨rfl,hl2,q2⟩|⟨n2,q2⟩
    ·cases q2
    ·exact r.inj j k' u w b ne q1 q2 s1 s2
  ·exact f.elim (r.new b) fun z=> .inr (z▸h0)
  ·rcases f with f|f
   ·exact r.trk b f
   ·rw [f]; exact hr.there
  ·rcases aO0 q with⟨rfl,hl,q⟩|⟨ne,q⟩
   ·cases q
   ·exact r.me j u b q hi s1
  ·rcases aO0 q with⟨rfl,hl,q⟩|⟨ne,q⟩
   ·cases q
   ·obtain⟨h1,h2⟩:=r.fx j v' u q
    exact⟨h1,h2.keep k⟩
 ·exact⟨F,r,Keep.refl⟩
end
section
variable {X:Cx}{Y:Fx}{st:Stmt}{rest:List Stmt}{e:Expr}{pos pos':Pos}{f:En->Option T}{g g2:En->Option Fl}{p:En->Option Bool}
theorem kK0 (i:Nat)(h:SS X Y st g):SS X Y st (fun ε=>g (frz i ε)):=PS.imp h fun D σ H ⟨F,ε,fl,r,hg,k⟩=>by
 obtain⟨F',r',kp⟩:=r.freeze i
 exact⟨F',frz i ε,fl,r',hg,k.keep kp⟩
def sNx:En->Option Fl:=fun ε=>some (.nx ε)
def sSeq (g g2:En->Option Fl):En->Option Fl:=fun ε=>(g ε).bind fun fl=>match fl with| .nx ε'=>g2 ε'|fl=>some fl
theorem aP0:SSs X Y [] sNx:=PSs.imp dz0 fun D σ H ⟨F,ε,fl,r,hg,k⟩=>by cases hg; exact k F σ H Keep.refl r
theorem ag0 (h1:SS X Y st g)(h2:SSs X Y rest g2):SSs X Y (st::rest) (sSeq g g2):=PSs.imp (ax0 h1 h2) fun D σ H ⟨F,ε,fl,r,hg,k⟩=>by
 unfold sSeq at hg
 cases q:g ε with
 |none=>rw [q] at hg; cases hg
 |some fl1=>
  rw [q] at hg
  refine⟨F,ε,fl1,r,q,?_⟩
  cases fl1 with
  |nx ε'=>exact fun F' σ' H' kp r'=>⟨F',ε',fl,r',hg,k.keep kp⟩
  |rt o t=>cases hg; exact k
  |bk ε'=>cases hg; exact k
  |ct ε'=>cases hg; exact k
  |xc C=>cases hg; exact k
theorem ak0 (h1:SS X Y st g):SSs X Y [st] g:=aW0 h1
theorem pE0 {sts:List Stmt}:SSs X Y sts (fun _=>none):=PSs.imp kW0 fun D σ H ⟨F,ε,fl,r,hg,k⟩=>by cases hg
theorem bD0:SS X Y st (fun _=>none):=PS.imp lG0 fun D σ H ⟨F,ε,fl,r,hg,k⟩=>by cases hg
def sIf (p:En->Option Bool)(g g2:En->Option Fl):En->Option Fl:=fun ε=>(p ε).bind fun b=>if b=true then g ε else g2 ε
theorem bT0 {c:Expr}{a b:List Stmt}(hc:QT X Y c p)(ha:SSs X Y a g)(hb:SSs X Y b g2):SS X Y (.If c a b pos) (sIf p g g2):=PS.imp (ie0 hc ha hb) fun D σ H ⟨F,ε,fl,r,hg,k⟩=>by
 unfold sIf at hg
 cases q:p ε with
 |none=>rw [q] at hg; cases hg
 |some d=>
  rw [q] at hg
  refine⟨F,ε,d,r,q,fun F' H' m=> ?_⟩
  cases d with
  |true=>rw [if_pos rfl]; exact⟨F',ε,fl,r.mono m,by simpa using hg,k.keep m.keep⟩
  |false=>rw [if_neg Bool.false_ne_true]; exact⟨F',ε,fl,r.mono m,by simpa using hg,k.keep m.keep⟩
def sSet (i:Nat)(f:En->Option T):En->Option Fl:=fun ε=>(f ε).map fun t=> .nx (ε.set i (.sh t))
def cz0 (i:Nat)(f:En->Option T):En->Option Fl:=fun ε=>(f ε).bind fun t=>if isI t=true then none else some (.nx (ε.set i (.ow t)))
theorem gm0 {te:TE}{i:Nat}(h:PS X st (tAsg te (cm0 i)))(ht:∀σ H Q,Tr Y f σ H Q->te σ H Q):SS X Y st (sSet i f):=PS.imp h fun D σ H ⟨F,ε,fl,r,hg,k⟩=>by
 unfold sSet at hg
 cases q:f ε with
 |none=>rw [q] at hg; cases hg
 |some t=>
  rw [q] at hg; cases hg
  exact ht _ _ _ ⟨F,ε,t,r,q,fun F' v H' m rv=>k F' _ H' m.keep ((r.mono m).set_sh rv)⟩
theorem ir0 {te:TE}{i:Nat}(h:PS X st (tAsg te (cm0 i)))(ht:∀σ H Q,TrF Y f σ H Q->te σ H Q):SS X Y st (cz0 i f):=PS.imp h fun D σ H ⟨F,ε,fl,r,hg,k⟩=>by
 unfold cz0 at hg
 cases q:f ε with
 |none=>rw [q] at hg; cases hg
 |some t=>
  rw [q] at hg
  simp only [Option.bind_some] at hg
  split at hg
  ·cases hg
  rename_i hi
  cases hg
  refine ht _ _ _ ⟨F,ε,t,r,q,fun F' a H' m n nf rv=>k F' _ H' m.keep ((r.mono m).set_ow nf ?_ rv (fun j u e z=> ?_) (by simpa using hi))⟩
  ·cases q:Y.H₀ a with
   |none=>rfl
   |some o=>rw [r.same a o q] at n; cases n
  ·obtain⟨b,h1,_,_,h2⟩:=r.ow j u e
   rw [h1] at z
   cases z
   obtain⟨o,q⟩:=h2.there
   rw [q] at n; cases n
theorem aZ0 {i:Nat}{x:Str}(hN:X.N.Nodup)(hi:X.N[i]?=some x)(hx:Loc X.env.scope x)(he:SE X Y e f)(hs:swapsWith e (some (.Name x pos')) pos.line X.env=pure false:=by rfl)
  (hf:X.fn x=true\/ X.env.scope.names.lookup x=some .local:=by first|exact .inl rfl|exact .inr rfl|assumption):SS X Y (.Assign [.Name x pos'] e pos) (sSet i f):=gm0 (bX0 hN hi hx he hs hf) fun _ _ _ z=>z
theorem dR0 {i:Nat}{x:Str}(hN:X.N.Nodup)(hi:X.N[i]?=some x)(hx:Loc X.env.scope x)(he:FE X Y e f)(hs:swapsWith e (some (.Name x pos')) pos.line X.env=pure false:=by rfl)
  (hf:X.fn x=true\/ X.env.scope.names.lookup x=some .local:=by first|exact .inl rfl|exact .inr rfl|assumption):SS X Y (.Assign [.Name x pos'] e pos) (cz0 i f):=ir0 (bX0 hN hi hx he hs hf) fun _ _ _ z=>z
def sRet (o:Bool)(f:En->Option T):En->Option Fl:=fun ε=>(f ε).map fun t=> .rt o t
theorem aY0 (he:SE X Y e f):SS X Y (.Return (some e) pos) (sRet false f):=PS.imp (cu0 he) fun D σ H ⟨F,ε,fl,r,hg,k⟩=>by
 unfold sRet at hg
 cases q:f ε with
 |none=>rw [q] at hg; cases hg
 |some t=>
  rw [q] at hg; cases hg
  exact⟨F,ε,t,r,q,fun F' v H' m rv=>k F' v H' (r.mono m).fin rv⟩
theorem en0 (he:FE X Y e f):SS X Y (.Return (some e) pos) (sRet true f):=PS.imp (cu0 he) fun D σ H ⟨F,ε,fl,r,hg,k⟩=>by
 unfold sRet at hg
 cases q:f ε with
 |none=>rw [q] at hg; cases hg
 |some t=>
  rw [q] at hg; cases hg
  refine⟨F,ε,t,r,q,fun F' a H' m n nf rv=>k F' _ H' (r.mono m).fin ⟨a,rfl,nf,?_,rv⟩⟩
  cases q:Y.H₀ a with
  |none=>rfl
  |some o=>rw [r.same a o q] at n; cases n
def eB0 (i:Nat):En->Option Fl:=fun ε=>match ε[i]? with|some (.ow t)=>some (.rt true t)|_=>none
theorem go0 {i:Nat}{x:Str}(h:PE X (.Name x pos') (tVar i)):SS X Y (.Return (some (.Name x pos')) pos) (eB0 i):=PS.imp (cu0 h) fun D σ H ⟨F,ε,fl,r,hg,k⟩=>by
 unfold eB0 at hg
 split at hg
 ·cases hg
  obtain⟨a,s,nf,h0,hr⟩:=r.ow i _ (by assumption)
  exact⟨_,s,k F _ H r.fin ⟨a,rfl,nf,h0,hr⟩⟩
 ·cases hg
def aT0 (f:En->Option T):En->Option Fl:=fun ε=>(f ε).map fun _=> .nx ε
theorem bq0 (he:SE X Y e f)(hs:swapsWith e none pos.line X.env=pure false:=by rfl):SS X Y (.Expr e pos) (aT0 f):=PS.imp (bK0 he hs) fun D σ H ⟨F,ε,fl,r,hg,k⟩=>by
 unfold aT0 at hg
 cases q:f ε with
 |none=>rw [q] at hg; cases hg
 |some t=>
  rw [q] at hg; cases hg
  exact⟨F,ε,t,r,q,fun F' v H' m rv=>k F' σ H' m.keep (r.mono m)⟩
end
end L2.BD
set_option Elab.async false
set_option linter.all false
set_option maxRecDepth 100000
set_option maxHeartbeats 4000000
namespace L2.BD
open PySem PySem.Spec PyProof.Rows
def aNil:En->Option (List T):=fun _=>some []
def aa0 (f:En->Option T)(g:En->Option (List T)):En->Option (List T):=fun ε=>(f ε).bind fun t=>(g ε).bind fun ts=>some (t::ts)
section
variable {X:Cx}{Y:Fx}{e a b:Expr}{es:List Expr}{pos p:Pos}{f g:En->Option T}{fa:En->Option (List T)}
theorem an0:SA X Y [] aNil:=PA.imp aG0 fun σ H Q ⟨F,ε,ts,r,hf,k⟩=>by cases hf; exact k F [] H r.refl .nil
theorem aD0:BA X Y [] aNil:=PA.imp aG0 fun σ H Q ⟨F,ε,ts,r,hf,k⟩=>by cases hf; exact k F [] H r.refl .nil
theorem eP0 {ε:En}{ts:List T}(h:aa0 f fa ε=some ts):∃t us,f ε=some t/\fa ε=some us/\ts=t::us:=by
 unfold aa0 at h
 cases q1:f ε with
 |none=>rw [q1] at h; cases h
 |some t=>
  rw [q1] at h
  cases q2:fa ε with
  |none=>simp only [Option.bind_some,q2] at h; cases h
  |some us=>simp only [Option.bind_some,q2] at h; cases h; exact⟨t,us,rfl,rfl,rfl⟩
theorem ab0 (ha:SE X Y e f)(hr:SA X Y es fa)(hs:starEach (e::es) X.env=(false,eval e X.env)::starEach es X.env:=by rfl):SA X Y (e::es) (aa0 f fa):=PA.imp (ap0 ha hr hs) fun σ H Q ⟨F,ε,ts,r,hf,k⟩=>by
 obtain⟨t,us,q1,q2,rfl⟩:=eP0 hf
 exact⟨F,ε,t,r,q1,fun F1 x H1 m1 r1=>⟨F1,ε,us,r.mono m1,q2,fun F2 xs H2 m2 r2=>k F2 (x::xs) H2 (m1.trans m2) (.cons (r1.keep m2.keep) r2)⟩⟩
theorem aq0 (ha:BE X Y e f)(hr:BA X Y es fa)(hs:starEach (e::es) X.env=(false,eval e X.env)::starEach es X.env:=by rfl):BA X Y (e::es) (aa0 f fa):=PA.imp (ap0 ha hr hs) fun σ H Q ⟨F,ε,ts,r,hf,k⟩=>by
 obtain⟨t,us,q1,q2,rfl⟩:=eP0 hf
 exact⟨F,ε,t,r,q1,fun F1 x H1 m1 r1=>⟨F1,ε,us,r.mono m1,q2,fun F2 xs H2 m2 r2=>k F2 (x::xs) H2 (m1.trans m2) (.cons (r1.keep m2) r2)⟩⟩
def aw0 (φ:List T->Option T)(g:En->Option (List T)):En->Option T:=fun ε=>(g ε).bind φ
theorem eH0 {φ:List T->Option T}{ε:En}{u:T}(h:aw0 φ fa ε=some u):∃ts,fa ε=some ts/\φ ts=some u:=by
 unfold aw0 at h
 cases q:fa ε with
 |none=>rw [q] at h; cases h
 |some ts=>rw [q] at h; exact⟨ts,rfl,h⟩
def Trk (F:Addr->Prop)(H:Hp):Prop:=∀a,F a->∃o,H a=some o
def OpN (r:List V->Hp->VK->Prop)(φ:List T->Option T):Prop:=∀F H xs ts u Q,Trk F H->Rbs F H xs ts->φ ts=some u->(∀F' v H',Mono F H F' H'->Rp F' H' v u->Q v H')->r xs H Q
def OpNF (r:List V->Hp->VK->Prop)(φ:List T->Option T):Prop:=∀F H xs ts u Q,Trk F H->Rbs F H xs ts->φ ts=some u->(∀F' a H',Mono F H F' H'->H a=none->¬F' a->Rp1 F' H' a u->Q (.ref a) H')->r xs H Q
theorem tr_cb {r:List V->Hp->VK->Prop}{φ:List T->Option T}(o:OpN r φ)(σ:St)(H:Hp)(Q:VK)(h:Tr Y (aw0 φ fa) σ H Q):tCB r (TrAB Y fa) σ H Q:=by
 obtain⟨F,ε,u,rl,hf,k⟩:=h
 obtain⟨ts,q1,q2⟩:=eH0 hf
 exact⟨F,ε,ts,rl,q1,fun F1 xs H1 m1 r1=>o F1 H1 xs ts u Q m1.trk r1 q2 fun F2 v H2 m2 r2=>k F2 v H2 (m1.trans m2) r2⟩
theorem pC0 {r:List V->Hp->VK->Prop}{φ:List T->Option T}(o:OpNF r φ)(σ:St)(H:Hp)(Q:VK)(h:TrF Y (aw0 φ fa) σ H Q):tCB r (TrAB Y fa) σ H Q:=by
 obtain⟨F,ε,u,rl,hf,k⟩:=h
 obtain⟨ts,q1,q2⟩:=eH0 hf
 exact⟨F,ε,ts,rl,q1,fun F1 xs H1 m1 r1=>o F1 H1 xs ts u Q m1.trk r1 q2 fun F2 a H2 m2 n nf r2=>k F2 a H2 (m1.trans m2) (m1.free n) nf r2⟩
section
variable {x:Str}{id T':String}{r:List V->Hp->VK->Prop}{φ:List T->Option T}
theorem dN0 (hc:dl0 X (.builtin id) r)(o:OpN r φ)(hg:Gl X x)(hm:X.mg x=none)(hv:bootBuiltins x=some (.builtin id))(ha:BA X Y (e::es) fa)(hn:x≠ "__name__" :=by decide) (hdb:(x==("__debug__" :Str))=false:=by decide)
  (he:starEach (e::es) X.env=(false,eval e X.env)::starEach es X.env:=by rfl) (hpl:(backTo pos (starEach es X.env)).any (·.1)=false:=by rfl):SE X Y (.Call (.Name x p) (e::es) [] pos) (aw0 φ fa):=PE.imp (cb0 hc hg hm hv ha hn hdb he hpl) (tr_cb o)
theorem jR0 (hc:dl0 X (.type T') r)(o:OpN r φ)(hg:Gl X x)(hm:X.mg x=none)(hv:bootBuiltins x=some (.type T'))(ha:BA X Y (e::es) fa)(hn:x≠ "__name__" :=by decide) (hdb:(x==("__debug__" :Str))=false:=by decide)
  (he:starEach (e::es) X.env=(false,eval e X.env)::starEach es X.env:=by rfl) (hpl:(backTo pos (starEach es X.env)).any (·.1)=false:=by rfl):SE X Y (.Call (.Name x p) (e::es) [] pos) (aw0 φ fa):=PE.imp (fN0 hc hg hm hv ha hn hdb he hpl) (tr_cb o)
theorem fB0 (hc:dl0 X (.type T') r)(o:OpNF r φ)(hg:Gl X x)(hm:X.mg x=none)(hv:bootBuiltins x=some (.type T'))(ha:BA X Y (e::es) fa)(hn:x≠ "__name__" :=by decide) (hdb:(x==("__debug__" :Str))=false:=by decide)
  (he:starEach (e::es) X.env=(false,eval e X.env)::starEach es X.env:=by rfl) (hpl:(backTo pos (starEach es X.env)).any (·.1)=false:=by rfl):FE X Y (.Call (.Name x p) (e::es) [] pos) (aw0 φ fa):=PE.imp (fN0 hc hg hm hv ha hn hdb he hpl) (pC0 o)
end
theorem Rps.laid {F:Addr->Prop}{H:Hp}{p:Addr}{o:HO}{xs:List V}{ts:List T}(hp:H p=none)(h:Rps F H xs ts)(t:Trk F H):Rps F (upd H p o) xs ts:=h.keep (Mono.laid t hp).keep
theorem Trk.new {F:Addr->Prop}{H:Hp}{p:Addr}(t:Trk F H)(hp:H p=none):¬F p:=fun f=>by
 obtain⟨o,q⟩:=t p f
 rw [q] at hp; cases hp
def big:Nat:=1000000
theorem eL0 {n:Nat}(h:n<=big):n<=sizeLine:=Nat.le_trans h (by decide)
theorem kZ0 {n:Nat}(h:n<big):n<sizeLine:=Nat.lt_of_lt_of_le h (by decide)
def eTup (g:En->Option (List T)):En->Option T:=fun ε=>(g ε).bind fun ts=>if ts.length<=big then some (.tup ts) else none
def eLst (g:En->Option (List T)):En->Option T:=fun ε=>(g ε).bind fun ts=>if ts.length<=big then some (.lst ts) else none
theorem bx0 {x1:Nat}(h:SA X Y es fa):SE X Y (.Tuple es x1 pos) (eTup fa):=PE.imp (fT0 h) fun σ H Q ⟨F,ε,u,rl,hf,k⟩=>by
 unfold eTup at hf
 cases q:fa ε with
 |none=>rw [q] at hf; cases hf
 |some ts=>
  rw [q] at hf
  simp only [Option.bind_some] at hf
  split at hf
  ·cases hf
   refine⟨F,ε,ts,rl,q,fun F1 xs H1 m1 r1=>⟨eL0 (by rw [r1.length]; assumption),fun pp hp=> ?_⟩⟩
   exact k F1 _ _ (m1.trans (Mono.laid m1.trk hp)) (.tup ai0 (r1.laid hp m1.trk))
  ·cases hf
theorem ca0 (h:SA X Y es fa):FE X Y (.List es pos) (eLst fa):=PE.imp (fD0 h) fun σ H Q ⟨F,ε,u,rl,hf,k⟩=>by
 unfold eLst at hf
 cases q:fa ε with
 |none=>rw [q] at hf; cases hf
 |some ts=>
  rw [q] at hf
  simp only [Option.bind_some] at hf
  split at hf
  ·cases hf
   refine⟨F,ε,ts,rl,q,fun F1 xs H1 m1 r1=>⟨eL0 (by rw [r1.length]; assumption),fun pp hp=> ?_⟩⟩
   exact k F1 _ _ (m1.trans (Mono.laid m1.trk hp)) (m1.free hp) (Trk.new m1.trk hp) (.lst ai0 (r1.laid hp m1.trk))
  ·cases hf
def eDct0:En->Option T:=fun _=>some (.dct [])
theorem nm0:FE X Y (.Dict [] [] pos) eDct0:=PE.imp hS0 fun σ H Q ⟨F,ε,u,rl,hf,k⟩=>by
 cases hf
 intro pp hp
 exact k F _ _ (Mono.laid rl.trk hp) hp (Trk.new rl.trk hp) (.dct ai0 .nil)
end
def φAdd:T->T->Option T| .int i,.int j=>some (.int (i+j))|_,_=>none
def φSub:T->T->Option T| .int i,.int j=>some (.int (i - j))|_,_=>none
def φMul:T->T->Option T| .int i,.int j=>if -(2^64)<j/\j<2^64 then some (.int (i*j)) else none|_,_=>none
def φMod:T->T->Option T| .int i,.int j=>if 0<j then some (.int (i%j)) else none|_,_=>none
def φDiv:T->T->Option T| .int i,.int j=>if 0<j/\j<1073741824 then some (.int (i / j)) else none|_,_=>none
def φLt:T->T->Option T| .int i,.int j=>some (.bl (decide (i<j)))|_,_=>none
def φLe:T->T->Option T| .int i,.int j=>some (.bl (decide (i<=j)))|_,_=>none
def φGt:T->T->Option T| .int i,.int j=>some (.bl (decide (j<i)))|_,_=>none
def φGe:T->T->Option T| .int i,.int j=>some (.bl (decide (j<=i)))|_,_=>none
def φLen:List T->Option T
 | [.lst ts]=>some (.int ts.length)
 | [.tup ts]=>some (.int ts.length)
 | [.str x]=>if x.length<=big then some (.int x.length) else none
 | [.scr ns]=>some (.int ns.length)
 |_=>none
def bi0:List T->Option T
 | [.lst ts]=>some (.tup ts)
 | [.tup ts]=>some (.tup ts)
 |_=>none
def fs0:List T->Option T
 | [.lst ts]=>some (.lst ts)
 | [.tup ts]=>some (.lst ts)
 |_=>none
def dy0:List T->Option T| [.int i,.int j]=>some (.int (if j<i then j else i))|_=>none
def ij0:List T->Option T| [.int i,.int j]=>some (.int (if j>i then j else i))|_=>none
def φIx:T->T->Option T
 | .lst ts,.int i=>atI ts i
 | .tup ts,.int i=>atI ts i
 | .scr ns,.int i=>(atI ns i).map .int
 |_,_=>none
theorem oj0 {ns:List Int}{i z:Int}(h:L2.atI ns i=some z):L2.atI (ns.map V.int) i=some (.int z):=by
 unfold L2.atI at h ⊢
 rw [List.length_map]
 obtain⟨j,h1,h2⟩:=Option.bind_eq_some_iff.mp h
 rw [h1,Option.bind_some,List.getElem?_map,h2]
 rfl
theorem Rps.atI {F:Addr->Prop}{H:Hp}{xs:List V}{ts:List T}{i:Int}{t:T}(r:Rps F H xs ts)(h:L2.atI ts i=some t):∃x,L2.atI xs i=some x/\Rp F H x t:=by
 unfold L2.atI at h ⊢
 rw [r.length]
 cases q:ixN ts.length i with
 |none=>rw [q] at h; cases h
 |some j=>rw [q] at h; exact r.get h
section
variable {X:Cx}
theorem o_add:Op2 (rI0 fun i j=> .int (i+j)) φAdd:=by
 intro F H x y s t u Q tk rx ry h k
 unfold φAdd at h
 split at h
 ·cases h; exact⟨_,_,rx.int_,ry.int_,k F _ H (.refl tk) (.int _)⟩
 ·cases h
theorem o_sub:Op2 (rI0 fun i j=> .int (i - j)) φSub:=by
 intro F H x y s t u Q tk rx ry h k
 unfold φSub at h
 split at h
 ·cases h; exact⟨_,_,rx.int_,ry.int_,k F _ H (.refl tk) (.int _)⟩
 ·cases h
theorem o_mul:Op2 (rI CMul fun i j=> .int (i*j)) φMul:=by
 intro F H x y s t u Q tk rx ry h k
 unfold φMul at h
 split at h
 ·split at h
  ·rename_i c
   cases h; exact⟨_,_,rx.int_,ry.int_,.inr ⟨c.1,c.2⟩,k F _ H (.refl tk) (.int _)⟩
  ·cases h
 ·cases h
theorem o_mod:Op2 (rI (fun _ j=>0<j) fun i j=> .int (i%j)) φMod:=by
 intro F H x y s t u Q tk rx ry h k
 unfold φMod at h
 split at h
 ·split at h
  ·cases h; exact⟨_,_,rx.int_,ry.int_,by assumption,k F _ H (.refl tk) (.int _)⟩
  ·cases h
 ·cases h
theorem o_div:Op2 (rI CDiv fun i j=> .int (i / j)) φDiv:=by
 intro F H x y s t u Q tk rx ry h k
 unfold φDiv at h
 split at h
 ·split at h
  ·rename_i c
   cases h; exact⟨_,_,rx.int_,ry.int_,⟨c.1,c.2⟩,k F _ H (.refl tk) (.int _)⟩
  ·cases h
 ·cases h
theorem o_lt:Op2 (rI0 fun i j=> .bl (decide (i<j))) φLt:=by
 intro F H x y s t u Q tk rx ry h k
 unfold φLt at h
 split at h
 ·cases h; exact⟨_,_,rx.int_,ry.int_,k F _ H (.refl tk) (.bl _)⟩
 ·cases h
theorem o_le:Op2 (rI0 fun i j=> .bl (decide (i<=j))) φLe:=by
 intro F H x y s t u Q tk rx ry h k
 unfold φLe at h
 split at h
 ·cases h; exact⟨_,_,rx.int_,ry.int_,k F _ H (.refl tk) (.bl _)⟩
 ·cases h
theorem o_gt:Op2 (rI0 fun i j=> .bl (decide (j<i))) φGt:=by
 intro F H x y s t u Q tk rx ry h k
 unfold φGt at h
 split at h
 ·cases h; exact⟨_,_,rx.int_,ry.int_,k F _ H (.refl tk) (.bl _)⟩
 ·cases h
theorem o_len {K:PySem.W.Frag}:OpN (fun xs H Q=>∃x n,xs=[x]/\LenV K x H n/\Q (.int n) H) φLen:=by
 intro F H xs ts u Q tk r h k
 unfold φLen at h
 split at h
 ·obtain⟨x,rfl,rx⟩:=Rbs.one r
  obtain⟨a,ys,rfl,ha,ry⟩:=rx.lst_
  cases h
  exact⟨_,_,rfl,.inl ⟨ys,SqL.of ha,rfl⟩,by rw [ry.length]; exact k F _ H (.refl tk) (.int _)⟩
 ·obtain⟨x,rfl,rx⟩:=Rbs.one r
  obtain⟨a,ys,rfl,ha,ry⟩:=rx.tup_
  cases h
  exact⟨_,_,rfl,.inr ⟨ys,SqT.of ha,rfl⟩,by rw [ry.length]; exact k F _ H (.refl tk) (.int _)⟩
 ·obtain⟨x,rfl,rx⟩:=Rbs.one r
  cases rx.str_
  split at h
  ·cases h
   exact⟨_,_,rfl,⟨eL0 (by assumption),rfl⟩,k F _ H (.refl tk) (.int _)⟩
  ·cases h
 ·obtain⟨x,rfl,rx⟩:=Rbs.one r
  obtain⟨a,o,rfl,ha⟩:=rx.scr_
  cases h
  exact⟨_,_,rfl,.inl ⟨_,.inl (.inr ⟨o,ha⟩),rfl⟩,by rw [List.length_map]; exact k F _ H (.refl tk) (.int _)⟩
 ·cases h
theorem ov0 {K:PySem.W.Frag}:OpN (fun xs H Q=>∃p ys,xs=[.ref p]/\((SqL K H p ys/\∀l,H l=none->Q (.ref l) (upd H l (.tup ys)))\/ (SqT K H p ys/\Q (.ref p) H))) bi0:=by
 intro F H xs ts u Q tk r h k
 unfold bi0 at h
 split at h
 ·obtain⟨x,rfl,rx⟩:=Rbs.one r
  obtain⟨a,ys,rfl,ha,ry⟩:=rx.lst_
  cases h
  exact⟨_,_,rfl,.inl ⟨SqL.of ha,fun l hl=>k F _ _ (Mono.laid tk hl) (.tup ai0 (ry.laid hl tk))⟩⟩
 ·obtain⟨x,rfl,rx⟩:=Rbs.one r
  obtain⟨a,ys,rfl,ha,ry⟩:=rx.tup_
  cases h
  exact⟨_,_,rfl,.inr ⟨SqT.of ha,k F _ H (.refl tk) (.tup ha ry)⟩⟩
 ·cases h
theorem pv0 {K:PySem.W.Frag}:OpNF (fun xs H Q=>∃p ys,xs=[.ref p]/\(SqL K H p ys\/ SqT K H p ys)/\∀l,H l=none->Q (.ref l) (upd H l (.lst ys))) fs0:=by
 intro F H xs ts u Q tk r h k
 unfold fs0 at h
 split at h
 ·obtain⟨x,rfl,rx⟩:=Rbs.one r
  obtain⟨a,ys,rfl,ha,ry⟩:=rx.lst_
  cases h
  exact⟨_,_,rfl,.inl (SqL.of ha),fun l hl=>k F _ _ (Mono.laid tk hl) hl (Trk.new tk hl) (.lst ai0 (ry.laid hl tk))⟩
 ·obtain⟨x,rfl,rx⟩:=Rbs.one r
  obtain⟨a,ys,rfl,ha,ry⟩:=rx.tup_
  cases h
  exact⟨_,_,rfl,.inr (SqT.of ha),fun l hl=>k F _ _ (Mono.laid tk hl) hl (Trk.new tk hl) (.lst ai0 (ry.laid hl tk))⟩
 ·cases h
theorem pf0:OpN (fun xs H Q=>∃i j,xs=[.int i,.int j]/\Q (.int (if j<i then j else i)) H) dy0:=by
 intro F H xs ts u Q tk r h k
 unfold dy0 at h
 split at h
 ·obtain⟨x,y,rfl,rx,ry⟩:=Rbs.two r
  cases rx.int_; cases ry.int_; cases h
  exact⟨_,_,rfl,k F _ H (.refl tk) (.int _)⟩
 ·cases h
theorem pg0:OpN (fun xs H Q=>∃i j,xs=[.int i,.int j]/\Q (.int (if j>i then j else i)) H) ij0:=by
 intro F H xs ts u Q tk r h k
 unfold ij0 at h
 split at h
 ·obtain⟨x,y,rfl,rx,ry⟩:=Rbs.two r
  cases rx.int_; cases ry.int_; cases h
  exact⟨_,_,rfl,k F _ H (.refl tk) (.int _)⟩
 ·cases h
theorem o_ix {K:PySem.W.Frag}:Op2 (rIx K) φIx:=by
 intro F H x y s t u Q tk rx ry h k
 unfold φIx at h
 split at h
 ·obtain⟨a,ys,rfl,ha,r⟩:=rx.lst_
  obtain⟨z,h1,h2⟩:=r.atI h
  exact .inl ⟨a,ys,_,z,rfl,ry.int_,SqL.of ha,h1,k F _ H (.refl tk) h2⟩
 ·obtain⟨a,ys,rfl,ha,r⟩:=rx.tup_
  obtain⟨z,h1,h2⟩:=r.atI h
  exact .inr (.inl ⟨a,ys,_,z,rfl,ry.int_,SqT.of ha,h1,k F _ H (.refl tk) h2⟩)
 ·rename_i ns i
  obtain⟨a,o,rfl,ha⟩:=rx.scr_
  cases q:L2.atI ns i with
  |none=>rw [q] at h; cases h
  |some z=>
   rw [q] at h
   cases h
   exact .inl ⟨a,_,_,.int z,rfl,ry.int_,.inl (.inr ⟨o,ha⟩),oj0 q,k F _ H (.refl tk) (.int z)⟩
 ·cases h
end
section
variable {X:Cx}{Y:Fx}{e a b:Expr}{pos:Pos}{f g:En->Option T}
theorem aB0 (ha:BE X Y a f)(hb:BE X Y b g)(hs:li0 b:=by intro _ _; rfl):SE X Y (.Subscript a b pos) (e2 φIx f g):=PE.imp (mr0 oO0 ha hb hs) (mz0 o_ix)
end
end L2.BD
set_option Elab.async false
set_option linter.all false
set_option maxRecDepth 100000
set_option maxHeartbeats 4000000
namespace L2.BD
open PySem PySem.Spec PyProof.Rows
def gg0 (J:It)(F₀:Addr->Prop)(H₀:Hp)(ts:List T):Prop:=∀(i:Nat) F H,Keep F₀ H₀ F H->Trk F H->
 (∀t,ts[i]?=some t->J.go i H/\∀x H',J.yld i H x H'->∃F',Mono F H F' H'/\Rp F' H' x t)/\(i=ts.length->J.stop i H)
def TrI (Y:Fx)(f:En->Option (List T)):TI:=fun σ H R=>∃F ε ts,Rel Y F ε σ H/\f ε=some ts/\∀F' H' J,Mono F H F' H'->gg0 J F' H' ts->R J H'
abbrev SI (X:Cx)(Y:Fx)(tg e:Expr)(f:En->Option (List T)):Prop:=PI X tg e (TrI Y f)
theorem PI.imp {X:Cx}{tg e:Expr}{t t':TI}(h:PI X tg e t)(i:∀σ H R,t' σ H R->t σ H R):PI X tg e t':=fun pins s σ H R I q=>h pins s σ H R I (i σ H R q)
def TrG (Y:Fx)(bd:T->En->Option En):TG:=fun v σ H Q=>∃F ε t ε',Rel Y F ε σ H/\Rp F H v t/\bd t ε=some ε'/\∀σ',Rel Y F ε' σ' H->Q σ' H
abbrev SG (X:Cx)(Y:Fx)(tg:Expr)(bd:T->En->Option En):Prop:=PG X tg (TrG Y bd)
theorem PG.imp {X:Cx}{tg:Expr}{t t':TG}(h:PG X tg t)(i:∀v σ H Q,t' v σ H Q->t v σ H Q):PG X tg t':=fun pins s σ H v u Q I r q=>h pins s σ H v u Q I r (i v σ H Q q)
def ao0 (i:Nat)(t:T)(ε:En):Option En:=some (ε.set i (.sh t))
def cf0 (i j:Nat)(t:T)(ε:En):Option En:=match t with| .tup [a,b]=>some ((ε.set i (.sh a)).set j (.sh b))|_=>none
def hB0 (i j k:Nat)(t:T)(ε:En):Option En:=match t with| .tup [a,b,c]=>some (((ε.set i (.sh a)).set j (.sh b)).set k (.sh c))|_=>none
section
variable {X:Cx}{Y:Fx}{tg e iter:Expr}{pos:Pos}
theorem bB0 {i:Nat}{x:Str}(h:PG X (.Name x pos) (cm0 i)):SG X Y (.Name x pos) (ao0 i):=PG.imp h fun v σ H Q ⟨F,ε,t,ε',r,rv,hb,k⟩=>by
 cases hb
 exact k _ (r.set_sh rv)
theorem lh0 {i j:Nat}{es:List Expr}{k:Nat}(h:PG X (.Tuple es k pos) (gTup X.K 2 (eA0 (cm0 i) (eA0 (cm0 j) gNil)))):SG X Y (.Tuple es k pos) (cf0 i j):=PG.imp h fun v σ H Q ⟨F,ε,t,ε',r,rv,hb,k⟩=>by
 unfold cf0 at hb
 split at hb
 ·cases hb
  obtain⟨a,xs,rfl,ha,rs⟩:=(Rb.v rv).tup_
  obtain⟨x,y,rfl,rx,ry⟩:=rs.two
  exact⟨a,_,rfl,SqT.of ha,rfl,x,_,rfl,y,_,rfl,rfl,k _ ((r.set_sh rx).set_sh ry)⟩
 ·cases hb
theorem oo0 {i j l:Nat}{es:List Expr}{k:Nat}(h:PG X (.Tuple es k pos) (gTup X.K 3 (eA0 (cm0 i) (eA0 (cm0 j) (eA0 (cm0 l) gNil))))):SG X Y (.Tuple es k pos) (hB0 i j l):=PG.imp h fun v σ H Q ⟨F,ε,t,ε',r,rv,hb,k⟩=>by
 unfold hB0 at hb
 split at hb
 ·cases hb
  obtain⟨a,xs,rfl,ha,rs⟩:=(Rb.v rv).tup_
  cases rs with
  |cons rx rs=>
   obtain⟨y,z,rfl,ry,rz⟩:=rs.two
   exact⟨a,_,rfl,SqT.of ha,rfl,_,_,rfl,y,_,rfl,z,_,rfl,rfl,k _ (((r.set_sh rx).set_sh ry).set_sh rz)⟩
 ·cases hb
def iLst (f:En->Option T):En->Option (List T):=fun ε=>match f ε with|some (.lst ts)=>some ts|_=>none
def iTpl (f:En->Option T):En->Option (List T):=fun ε=>match f ε with|some (.tup ts)=>some ts|_=>none
theorem bc0 {f:En->Option T}(h:SE X Y e f):SI X Y tg e (iLst f):=PI.imp (dq0 h) fun σ H R ⟨F,ε,ts,r,hf,k⟩=>by
 unfold iLst at hf
 split at hf
 ·cases hf
  refine⟨F,ε,_,r,by assumption,fun F1 v H1 m1 r1=> ?_⟩
  cases r1 with
  | @lst a xs _ fa ha rs=>
   refine⟨a,rfl,⟨xs,SqL.of ha⟩,k F1 H1 _ m1 fun i F2 H2 kp tk=>⟨fun t e=> ?_,fun e=>⟨xs,SqL.of (kp.frz a _ fa ha),by rw [rs.length,e]; exact Nat.le_refl _⟩⟩⟩
   obtain⟨x,hx,rx⟩:=rs.get e
   have sq:SqL X.K H2 a xs:=SqL.of (kp.frz a _ fa ha)
   exact⟨⟨xs,x,sq,hx⟩,fun y H3 hy=>by
    obtain⟨rfl,hy⟩:=hy
    have e2:=hy xs sq
    rw [hx] at e2
    cases e2
    exact⟨F2,.refl tk,rx.keep kp⟩⟩
 ·cases hf
theorem fG0 {f:En->Option T}(h:SE X Y e f):SI X Y tg e (iTpl f):=PI.imp (pp0 h) fun σ H R ⟨F,ε,ts,r,hf,k⟩=>by
 unfold iTpl at hf
 split at hf
 ·cases hf
  refine⟨F,ε,_,r,by assumption,fun F1 v H1 m1 r1=> ?_⟩
  cases r1 with
  | @tup a xs _ ha rs=>
   refine⟨a,rfl,⟨xs,SqT.of ha⟩,k F1 H1 _ m1 fun i F2 H2 kp tk=>⟨fun t e=> ?_,fun e=>⟨xs,SqT.of (kp.tup a _ ha),by rw [rs.length,e]; exact Nat.le_refl _⟩⟩⟩
   obtain⟨x,hx,rx⟩:=rs.get e
   have sq:SqT X.K H2 a xs:=SqT.of (kp.tup a _ ha)
   exact⟨⟨xs,x,sq,hx⟩,fun y H3 hy=>by
    obtain⟨rfl,hy⟩:=hy
    have e2:=hy xs sq
    rw [hx] at e2
    cases e2
    exact⟨F2,.refl tk,rx.keep kp⟩⟩
 ·cases hf
def bb0 (lo:Int)(n:Nat):List T:=(List.range n).map fun(k:Nat)=>T.int (lo+(k:Int))
theorem eO0 {lo:Int}{n i:Nat}{t:T}(h:(bb0 lo n)[i]?=some t):i<n/\t=.int (lo+i):=by
 unfold bb0 at h
 rw [List.getElem?_map] at h
 by_cases hi:i<n
 ·rw [List.getElem?_range hi] at h
  exact⟨hi,(Option.some.inj h).symm⟩
 ·rw [List.getElem?_eq_none (by simpa using hi)] at h
  cases h
theorem bt0 (lo:Int)(n:Nat):(bb0 lo n).length=n:=by unfold bb0; rw [List.length_map,List.length_range]
theorem gf0 {F:Addr->Prop}{H:Hp}(lo:Int)(n:Nat):gg0 (Itr lo n) F H (bb0 lo n):=fun i F1 H1 kp tk=>by
 refine⟨fun t e=> ?_,fun e=> ?_⟩
 ·obtain⟨hi,rfl⟩:=eO0 e
  exact⟨hi,fun x H' ⟨e1,e2⟩=>by subst e1 e2; exact⟨F1,.refl tk,.int _⟩⟩
 ·rw [bt0] at e
  exact Nat.le_of_eq e.symm
def aR0 (g:En->Option (List T)):En->Option (List T):=fun ε=>match g ε with|some [.int j]=>if -(2^62)<=j/\j<2^62 then some (bb0 0 j.toNat) else none|_=>none
theorem bI0 {a:Expr}{p:Pos}{g:En->Option (List T)}(hg:Gl X "range") (hm:X.mg "range" =none) (ha:BA X Y [a] g) (hs:starEach [a] X.env=[(false,eval a X.env)]:=by rfl):SI X Y tg (.Call (.Name "range" p) [a] [] pos) (aR0 g):=PI.imp (jG0 hg hm ha hs) fun σ H R ⟨F,ε,ts,r,hf,k⟩=>by
 unfold aR0 at hf
 split at hf
 ·split at hf
  ·rename_i c
   cases hf
   refine⟨F,ε,_,r,by assumption,fun F1 vs H1 m1 r1=> ?_⟩
   obtain⟨x,rfl,rx⟩:=Rbs.one r1
   cases rx.int_
   exact⟨_,rfl,c.1,c.2,k F1 H1 _ m1 (gf0 0 _)⟩
  ·cases hf
 ·cases hf
def db0 (bd:T->En->Option En)(body:En->Option Fl):List T->En->Option Fl
 | [],ε=>some (.nx ε)
 |t::ts,ε=>(bd t ε).bind fun ε1=>(body ε1).bind fun fl=>match fl with
  | .nx ε'=>db0 bd body ts ε'
  | .ct ε'=>db0 bd body ts ε'
  | .bk ε'=>some (.nx ε')
  | .rt o t=>some (.rt o t)
  | .xc C=>some (.xc C)
def sFor (f:En->Option (List T))(bd:T->En->Option En)(body:En->Option Fl):En->Option Fl:=fun ε=>(f ε).bind fun ts=>db0 bd body ts ε
theorem bP0 {f:En->Option (List T)}{bd:T->En->Option En}{body:List Stmt}{g:En->Option Fl}(hp:PassesOwn (model X.prog X.w) X.A X.env X.xe)(hc:X.calm=true)(hi:SI X Y tg iter f)(hg:SG X Y tg bd)(hb:SSs X Y body g)
  (hs:∀x,foldedSetIterable iter X.env x=pure x:=by intro _; rfl):SS X Y (.For tg iter body [] pos) (sFor f bd g):=PS.imp (fP0 hp hc hi hg hb hs) fun D σ H ⟨F,ε,fl,r,hf,k⟩=>by
 unfold sFor at hf
 cases q:f ε with
 |none=>rw [q] at hf; cases hf
 |some ts=>
  rw [q] at hf
  have hf:db0 bd g ts ε=some fl:=hf
  refine⟨F,ε,ts,r,q,fun F1 H1 J m1 yl=> ?_⟩
  refine⟨fun i m σ H=>m=ts.length - i/\i<=ts.length/\∃F2 ε2,Rel Y F2 ε2 σ H/\Keep F1 H1 F2 H/\db0 bd g (ts.drop i) ε2=some fl,⟨ts.length,by simp,Nat.zero_le _,F1,ε,r.mono m1,Keep.refl,by simpa using hf⟩,?_⟩
  rintro i m σ2 H2 ⟨rfl,hi,F2,ε2,r2,k2,l2⟩
  obtain⟨y1,y2⟩:=yl i F2 H2 k2 r2.trk
  have post:Post Y D F2 H2 fl:=(k.keep m1.keep).keep k2
  by_cases hlt:i<ts.length
  ·have e:ts[i]?=some ts[i]:=by simp [hlt]
   obtain⟨go,yld⟩:=y1 _ e
   have hd:ts.drop i=ts[i]::ts.drop (i+1):=List.drop_eq_getElem_cons hlt
   rw [hd] at l2
   unfold db0 at l2
   cases qb:bd ts[i] ε2 with
   |none=>rw [qb] at l2; cases l2
   |some ε3=>
    rw [qb] at l2
    simp only [Option.bind_some] at l2
    cases qg:g ε3 with
    |none=>rw [qg] at l2; cases l2
    |some fl3=>
     rw [qg] at l2
     simp only [Option.bind_some] at l2
     refine .inr ⟨go,fun σ' H'=>i+1<=ts.length/\∃F4 ε4,Rel Y F4 ε4 σ' H'/\Keep F1 H1 F4 H'/\db0 bd g (ts.drop (i+1)) ε4=some fl,fun σ' H' ⟨h1,h2⟩=>⟨ts.length - (i+1),by omega,rfl,h1,h2⟩,fun x H' y=> ?_⟩
     obtain⟨F3,m3,rx⟩:=yld x H' y
     refine⟨F3,ε2,_,ε3,r2.mono m3,rx,qb,fun σ3 r3=>⟨F3,ε3,fl3,r3,qg,?_⟩⟩
     have post3:Post Y D F3 H' fl:=post.keep m3.keep
     cases fl3 with
     |nx ε4=>exact fun F4 σ4 H4 k4 r4=>⟨hlt,F4,ε4,r4,(k2.trans m3.keep).trans k4,l2⟩
     |ct ε4=>exact fun F4 σ4 H4 k4 r4=>⟨hlt,F4,ε4,r4,(k2.trans m3.keep).trans k4,l2⟩
     |bk ε4=>cases l2; exact fun F4 σ4 H4 k4 r4=>post3 F4 σ4 H4 k4 r4
     |rt o t=>cases l2; exact post3
     |xc C=>cases l2; exact post3
  ·have e:i=ts.length:=by omega
   subst e
   have hd:ts.drop ts.length=[]:=List.drop_length
   rw [hd] at l2
   cases l2
   exact .inl ⟨y2 rfl,post F2 σ2 H2 Keep.refl r2⟩
def dK0 (n:Nat)(ε:En)(bd:T->En->Option En)(p:En->Option Bool)(f:En->Option T):List T->Option (List T)
 | []=>some []
 |t::ts=>(bd t (List.replicate n .un++ε)).bind fun ε1=>(p ε1).bind fun b=>if b=true then(f ε1).bind fun y=>(dK0 n ε bd p f ts).bind fun ys=>some (y::ys) else dK0 n ε bd p f ts
def aX0 (n:Nat)(it:En->Option (List T))(bd:T->En->Option En)(p:En->Option Bool)(f:En->Option T):En->Option T:=fun ε=>(it ε).bind fun ts=>if ts.length<=big then(dK0 n ε bd p f ts).map .lst else none
theorem Rel.block {Y:Fx}{F:Addr->Prop}{ε:En}{σ:St}{H:Hp}(r:Rel Y F ε σ H)(n:Nat):Rel Y F (List.replicate n .un++ε) (List.replicate n none++σ) H:=by
 have gE:∀(i:Nat) (z:Sl),(List.replicate n Sl.un++ε)[i]?=some z->z≠ .un->n<=i/\ε[i - n]?=some z:=fun i z e hz=>by
  by_cases hi:i<n
  ·rw [List.getElem?_append_left (by simpa using hi),List.getElem?_replicate,if_pos hi] at e
   exact absurd (Option.some.inj e).symm hz
  ·rw [List.getElem?_append_right (by simpa using hi),List.length_replicate] at e
   exact⟨by omega,e⟩
 have gS:∀i,n<=i->(List.replicate n none++σ)[i]?=σ[i - n]?:=fun i hi=>by
  rw [List.getElem?_append_right (by simpa using hi),List.length_replicate]
 refine⟨by rw [List.length_append,List.length_append,List.length_replicate,List.length_replicate,r.len],fun i t e=> ?_,fun i t e=> ?_,fun i j t u a ne e1 e2 s1 s2=> ?_,r.same,r.sub,r.new,r.trk,fun i t a e hi s1=> ?_,fun i v t e=> ?_⟩
 ·obtain⟨hi,e⟩:=gE i _ e (fun z=>nomatch z)
  rw [gS i hi]
  exact r.sh _ t e
 ·obtain⟨hi,e⟩:=gE i _ e (fun z=>nomatch z)
  rw [gS i hi]
  exact r.ow _ t e
 ·obtain⟨hi,e1⟩:=gE i _ e1 (fun z=>nomatch z)
  obtain⟨hj,e2⟩:=gE j _ e2 (fun z=>nomatch z)
  rw [gS i hi] at s1
  rw [gS j hj] at s2
  exact r.inj (i - n) (j - n) t u a (by omega) e1 e2 s1 s2
 ·obtain⟨hj,e⟩:=gE i _ e (fun z=>nomatch z)
  rw [gS i hj] at s1
  exact r.me _ t a e hi s1
 ·obtain⟨hi,e⟩:=gE i _ e (fun z=>nomatch z)
  rw [gS i hi]
  exact r.fx _ v t e
def BdOk (n:Nat)(g:TG)(bd:T->En->Option En):Prop:=∀(Y:Fx) v σ H F ε t ε' (Q:St->Hp->Prop),Rel Y F (List.replicate n .un++ε) (List.replicate n none++σ) H->Rp F H v t->bd t (List.replicate n .un++ε)=some ε'->(∀σ',Rel Y F ε' σ' H->σ'.drop n=σ->Q σ' H)->g v (List.replicate n none++σ) H Q
theorem bg0:BdOk 1 (cm0 0) (ao0 0):=fun Y v σ H F ε t ε' Q r rv hb k=>by
 cases hb
 exact k _ (r.set_sh rv) rfl
theorem ln0 {K:PySem.W.Frag}:BdOk 2 (gTup K 2 (eA0 (cm0 0) (eA0 (cm0 1) gNil))) (cf0 0 1):=fun Y v σ H F ε t ε' Q r rv hb k=>by
 unfold cf0 at hb
 split at hb
 ·cases hb
  obtain⟨a,xs,rfl,ha,rs⟩:=(Rb.v rv).tup_
  obtain⟨x,y,rfl,rx,ry⟩:=rs.two
  exact⟨a,_,rfl,SqT.of ha,rfl,x,_,rfl,y,_,rfl,rfl,k _ ((r.set_sh rx).set_sh ry) rfl⟩
 ·cases hb
theorem kE0 {n:Nat}{it:En->Option (List T)}{g:TG}{bd:T->En->Option En}{p:En->Option Bool}{f:En->Option T}(hb:BdOk n g bd)(σ:St)(H:Hp)(Q:VK)(h:TrF Y (aX0 n it bd p f) σ H Q):
  lW0 n (TrI Y it) g (TrT Y p) (Tr Y f) σ H Q:=by
 obtain⟨F,ε,u,r,hf,k⟩:=h
 unfold aX0 at hf
 cases q:it ε with
 |none=>rw [q] at hf; cases hf
 |some ts=>
  rw [q] at hf
  simp only [Option.bind_some] at hf
  split at hf
  rotate_left
  ·cases hf
  rename_i hbig
  cases q2:dK0 n ε bd p f ts with
  |none=>rw [q2] at hf; cases hf
  |some us=>
   rw [q2] at hf
   cases hf
   refine⟨F,ε,ts,r,q,fun F1 H1 J m1 yl=> ?_⟩
   refine⟨fun i m ys H=>m=ts.length - i/\i<=ts.length/\ys.length<=i/\∃F2 us1 us2,us=us1++us2/\Mono F1 H1 F2 H/\Rps F2 H ys us1/\dK0 n ε bd p f (ts.drop i)=some us2,
    ⟨ts.length,by simp,Nat.zero_le _,Nat.zero_le _,F1,[],us,rfl,.refl m1.trk,.nil,by simpa using q2⟩,?_⟩
   rintro i m ys H2 ⟨rfl,hi,hys,F2,us1,us2,rfl,m2,rs,l2⟩
   obtain⟨y1,y2⟩:=yl i F2 H2 m2.keep m2.trk
   by_cases hlt:i<ts.length
   ·have e:ts[i]?=some ts[i]:=by simp [hlt]
    obtain⟨go,yld⟩:=y1 _ e
    have hd:ts.drop i=ts[i]::ts.drop (i+1):=List.drop_eq_getElem_cons hlt
    rw [hd] at l2
    unfold dK0 at l2
    refine .inr ⟨go,fun x H' y=> ?_⟩
    obtain⟨F3,m3,rx⟩:=yld x H' y
    have r3:=((r.mono m1).mono (m2.trans m3)).block n
    cases qb:bd ts[i] (List.replicate n .un++ε) with
    |none=>rw [qb] at l2; cases l2
    |some ε3=>
     rw [qb] at l2
     simp only [Option.bind_some] at l2
     cases qp:p ε3 with
     |none=>rw [qp] at l2; cases l2
     |some b=>
      rw [qp] at l2
      simp only [Option.bind_some] at l2
      refine hb Y x σ H' F3 ε ts[i] ε3 _ r3 rx qb fun σ3 r4 hσ=>⟨hσ,F3,ε3,b,r4,qp,fun F4 H4 m4=> ?_⟩
      have m14:Mono F1 H1 F4 H4:=(m2.trans m3).trans m4
      cases b with
      |false=>
       dsimp only
       rw [if_neg Bool.false_ne_true] at l2 ⊢
       exact⟨_,by omega,rfl,hlt,by omega,F4,us1,us2,rfl,m14,rs.keep (m3.trans m4).keep,l2⟩
      |true=>
       dsimp only
       rw [if_pos rfl] at l2 ⊢
       cases qf:f ε3 with
       |none=>rw [qf] at l2; cases l2
       |some t3=>
        rw [qf] at l2
        simp only [Option.bind_some] at l2
        cases qr:dK0 n ε bd p f (ts.drop (i+1)) with
        |none=>rw [qr] at l2; cases l2
        |some us3=>
         rw [qr] at l2
         cases l2
         refine⟨F4,ε3,t3,r4.mono m4,qf,fun F5 v H5 m5 r5=>⟨?_,_,(show ts.length - (i+1)<ts.length - i by omega),rfl,hlt,?_,F5,us1++ [t3],us3,by simp,m14.trans m5,(rs.keep ((m3.trans m4).trans m5).keep).append (.cons r5 .nil),(by first|exact qr|rfl)⟩⟩
         ·exact kZ0 (by omega)
         ·rw [List.length_append,List.length_singleton]; omega
   ·have e:i=ts.length:=by omega
    subst e
    have hd:ts.drop ts.length=[]:=List.drop_length
    rw [hd] at l2
    cases l2
    refine .inl ⟨y2 rfl,fun pp hp=> ?_⟩
    rw [List.append_nil] at k
    exact k F2 _ _ ((m1.trans m2).trans (Mono.laid m2.trk hp)) ((m1.trans m2).free hp) (Trk.new m2.trk hp) (.lst ai0 (rs.laid hp m2.trk))
section
variable {scope:Scope}{own:List Str}{elt:Expr}{ifs:List Expr}{g:TG}{it:En->Option (List T)}{bd:T->En->Option En}{p:En->Option Bool}{f:En->Option T}
abbrev Blk (X:Cx)(own:List Str)(scope:Scope)(C:Addr)(s:Shared)(H:Hp)(fp:List Addr):Cx:=blk X (own++hide own X.N) scope C s H fp
theorem bm0 (hc:X.calm=true)(ck:dI0 scope own X.N X.env.scope=true)(hi:SI X Y tg iter it)(hb:BdOk own.length g bd)
  (hg:∀C s₂ H₂ fp,PG (Blk X own scope C s₂ H₂ fp) tg g) (ht:∀C s₂ H₂ fp,PIf (Blk X own scope C s₂ H₂ fp) ifs (TrT Y p)) (he:∀C s₂ H₂ fp,SE (Blk X own scope C s₂ H₂ fp) Y elt f)
  (hs:∀x,foldedSetIterable iter X.env x=pure x:=by intro _; rfl):FE X Y (.ListComp elt [⟨tg,iter,ifs,0⟩] scope pos) (aX0 own.length it bd p f):=PE.imp (ev0 hc ck hi hg ht he hs) (kE0 hb)
theorem fe0 {i:Nat}{y:Str}{py spos:Pos}(hN:X.N.Nodup)(hiN:X.N[i]?=some y)(hy:Loc X.env.scope y)(hc:X.calm=true)(ck:dI0 scope own X.N X.env.scope=true)(hi:SI X Y tg iter it)(hb:BdOk own.length g bd)
  (hg:∀C s₂ H₂ fp,PG (Blk X own scope C s₂ H₂ fp) tg g) (ht:∀C s₂ H₂ fp,PIf (Blk X own scope C s₂ H₂ fp) ifs (TrT Y p)) (he:∀C s₂ H₂ fp,SE (Blk X own scope C s₂ H₂ fp) Y elt f)
  (hsw:swapsWith (.ListComp elt [⟨tg,iter,ifs,0⟩] scope pos) (some (.Name y py)) spos.line X.env=pure true)
  (hs:∀x,foldedSetIterable iter X.env x=pure x:=by intro _; rfl) (hf:X.fn y=true\/ X.env.scope.names.lookup y=some .local:=by first|exact .inl rfl|exact .inr rfl|assumption):
  SS X Y (.Assign [.Name y py] (.ListComp elt [⟨tg,iter,ifs,0⟩] scope pos) spos) (sSet i (aX0 own.length it bd p f)):=
 gm0 (oi0 hN hiN hy hc ck hi hg ht he hsw hs hf) fun σ H Q h=>kE0 hb σ H Q (by
  obtain⟨F,ε,t,r,hf,k⟩:=h
  refine⟨F,ε,t,r,hf,fun F' a H' m n nf q=>k _ _ _ (m.freeze n q.there) ((q.keep Keep.freeze rfl).frozen (.inr rfl) ?_)⟩
  unfold aX0 at hf
  cases q:it ε with
  |none=>rw [q] at hf; cases hf
  |some ts=>
   rw [q] at hf
   simp only [Option.bind_some] at hf
   split at hf
   ·cases q2:dK0 own.length ε bd p f ts with
    |none=>rw [q2] at hf; cases hf
    |some us=>rw [q2] at hf; cases hf; rfl
   ·cases hf)
end
def bn0:En->Option Bool:=fun _=>some true
theorem bN0 {X:Cx}{Y:Fx}:PIf X [] (TrT Y bn0):=fun pins s σ H Q I ⟨F,ε,b,r,hf,k⟩=>by
 cases hf
 exact el0 pins s σ H Q I (k F H r.refl)
theorem ht0 {X:Cx}{Y:Fx}{c:Expr}{p:En->Option Bool}(h:QT X Y c p):PIf X [c] (TrT Y p):=of0 h
end
def ResC (o:Bool)(H:Hp)(F':Addr->Prop)(H':Hp)(v:V)(t:T):Prop:=
 if o=true then∃a,v=.ref a/\H a=none/\¬F' a/\Rp1 F' H' a t else Rp F' H' v t
def spP (gs:List T->Option (Bool × T)):Sp:=fun vs H Q _=>∃F ts o t,Trk F H/\Rps F H vs ts/\gs ts=some (o,t)/\∀F' v H',Mono F H F' H'->ResC o H F' H' v t->Q v H'
def cC0 (N:List Str)(ts:List T):En:=ts.map .sh++List.replicate (N.length - ts.length) .un
def cv0:Fl->Option (Bool × T)
 | .rt o t=>some (o,t)
 | .nx _=>some (false,.non)
 |_=>none
theorem dQ0 {N:List Str}{F:Addr->Prop}{H:Hp}{vs:List V}{ts:List T}(tk:Trk F H)(r:Rps F H vs ts):Rel ⟨H,F,fun _=>True,fun _ _=>False⟩ F (cC0 N ts) (start N vs) H where
 len:=by
  unfold cC0 start
  rw [List.length_append,List.length_append,List.length_map,List.length_map,List.length_replicate,List.length_replicate,r.length]
 sh:=fun i t e=>by
  unfold cC0 at e
  by_cases hi:i<ts.length
  ·rw [List.getElem?_append_left (by simpa using hi),List.getElem?_map] at e
   cases q:ts[i]? with
   |none=>rw [q] at e; cases e
   |some t'=>
    rw [q] at e
    have e:Sl.sh t'=.sh t:=Option.some.inj e
    cases e
    obtain⟨x,hx,rx⟩:=r.get q
    refine⟨x,?_,rx⟩
    unfold start
    rw [List.getElem?_append_left (by rw [List.length_map,r.length]; exact hi),List.getElem?_map,hx]
    rfl
  ·rw [List.getElem?_append_right (by simpa using hi),List.getElem?_replicate] at e
   split at e<;>cases e
 ow:=fun i t e=>by
  exfalso
  unfold cC0 at e
  by_cases hi:i<ts.length
  ·rw [List.getElem?_append_left (by simpa using hi),List.getElem?_map] at e
   cases q:ts[i]? with
   |none=>rw [q] at e; cases e
   |some t'=>rw [q] at e; cases e
  ·rw [List.getElem?_append_right (by simpa using hi),List.getElem?_replicate] at e
   split at e<;>cases e
 inj:=fun i j t u a ne e _ _ _=>by
  exfalso
  unfold cC0 at e
  by_cases hi:i<ts.length
  ·rw [List.getElem?_append_left (by simpa using hi),List.getElem?_map] at e
   cases q:ts[i]? with
   |none=>rw [q] at e; cases e
   |some t'=>rw [q] at e; cases e
  ·rw [List.getElem?_append_right (by simpa using hi),List.getElem?_replicate] at e
   split at e<;>cases e
 same:=fun _ _ h=>h
 sub:=fun _ h=>h
 new:=fun _ h=> .inl h
 trk:=tk
 me:=fun i t a e _ _=>by
  exfalso
  unfold cC0 at e
  by_cases hi:i<ts.length
  ·rw [List.getElem?_append_left (by simpa using hi),List.getElem?_map] at e
   cases q:ts[i]? with
   |none=>rw [q] at e; cases e
   |some t'=>rw [q] at e; cases e
  ·rw [List.getElem?_append_right (by simpa using hi),List.getElem?_replicate] at e
   split at e<;>cases e
 fx:=fun i v t e=>by
  exfalso
  unfold cC0 at e
  by_cases hi:i<ts.length
  ·rw [List.getElem?_append_left (by simpa using hi),List.getElem?_map] at e
   cases q:ts[i]? with
   |none=>rw [q] at e; cases e
   |some t'=>rw [q] at e; cases e
  ·rw [List.getElem?_append_right (by simpa using hi),List.getElem?_replicate] at e
   split at e<;>cases e
section
variable {P:Program}{w:World}{K:PySem.W.Frag}{mg:Str->Option Value}{base:Heap}
theorem aJ0 {x qual:Str}{st:Stmt}{f:Addr}{fd:FuncData}{N ps:List Str}{k:Nat}{gs:List T->Option (Bool × T)}(Fn:Fun K x qual st f fd)(S:FnScope N ps (af0 st))
  (hlen:∀ts r,gs ts=some r->ts.length=ps.length)
  (hbody:∀(cdv:Value) (A:Around) (outer:List Env) (s:Shared) (H:Hp) (E:XK) (F:Addr->Prop),Room k (A.deeper (envOfC qual (af0 st) s.heap.objs.size f cdv))->
   ∃g,SSs ((cxOf CX0 P w K mg base N qual (af0 st) f cdv A outer s H E).nox) ⟨H,F,fun _=>True,fun _ _=>False⟩ (bC0 st) g/\∀ts o t,gs ts=some (o,t)->(g (cC0 N ts)).bind cv0=some (o,t)):FnOk P w K mg base CX0 (k+1) f fd ps (spP gs):=by
 refine Fn.ok S (fun vs H Q E h=> ?_) fun cdv A outer s H vs Q E hr h=> ?_
 ·obtain⟨F,ts,o,t,_,r,e,_⟩:=h
  rw [r.length]
  exact hlen ts _ e
 ·obtain⟨F,ts,o,t,tk,r,e,q⟩:=h
  obtain⟨g,hg,hv⟩:=hbody cdv A outer s H E F hr
  refine⟨_,hg,?_⟩
  have hv:=hv ts o t e
  cases qg:g (cC0 N ts) with
  |none=>rw [qg] at hv; cases hv
  |some fl=>
   rw [qg] at hv
   have hv:cv0 fl=some (o,t):=hv
   refine⟨F,cC0 N ts,fl,dQ0 tk r,qg,?_⟩
   have mono:∀{F':Addr->Prop} {H':Hp},End ⟨H,F,fun _=>True,fun _ _=>False⟩ F' H'->Mono F H F' H':=fun e=>⟨e.same,e.sub,e.new,e.trk⟩
   cases fl with
   |nx ε=>cases hv; exact fun F' σ' H' _ rl=>q F' .non H' (mono rl.fin) (show Rp F' H' .non .non from .non)
   |rt o' t'=>
    cases hv
    intro F' v H' en rs
    refine q F' v H' (mono en) ?_
    cases o with
    |false=>exact rs
    |true=>
     obtain⟨a,h1,h2,h3,h4⟩:=(show∃a,v=.ref a/\¬F' a/\H a=none/\Rp1 F' H' a t from rs)
     exact⟨a,h1,h3,h2,h4⟩
   |bk ε=>cases hv
   |ct ε=>cases hv
   |xc C=>cases hv
end
def noD (bt:Bool × T):Option T:=if bt.1 && isD bt.2 then none else some bt.2
def eFn (gs:List T->Option (Bool × T))(g:En->Option (List T)):En->Option T:=fun ε=>(g ε).bind fun ts=>(gs ts).bind noD
section
variable {X:Cx}{Y:Fx}{k:Nat}{f C:Addr}{fd:FuncData}{ps:List Str}{x m:Str}{p pos apos:Pos}{e o:Expr}{es:List Expr}{gs:List T->Option (Bool × T)}{fa:En->Option (List T)}{fo:En->Option T}
theorem mW0 {b:Bool}{F F':Addr->Prop}{H H':Hp}{v:V}{t u:T}(hn:noD (b,t)=some u)(m:Mono F H F' H')(r:ResC b H F' H' v t):∃F'',Mono F H F'' H'/\Rp F'' H' v u:=by
 unfold noD at hn
 split at hn
 ·cases hn
 rename_i nd
 cases hn
 cases b with
 |false=>exact⟨F',m,r⟩
 |true=>
  obtain⟨a,rfl,n,nf,q⟩:=(show∃a,v=.ref a/\H a=none/\¬F' a/\Rp1 F' H' a t from r)
  exact⟨_,m.freeze n q.there,(q.keep Keep.freeze rfl).frozen (.inr rfl) (by simpa using nd)⟩
theorem tr_fn (σ:St)(H:Hp)(Q:VK)(h:Tr Y (eFn gs fa) σ H Q):mF0 (spP gs) [] E0 (TrA Y fa) σ H Q:=by
 obtain⟨F,ε,u,rl,hf,k⟩:=h
 unfold eFn at hf
 cases q:fa ε with
 |none=>rw [q] at hf; cases hf
 |some ts=>
  rw [q] at hf
  simp only [Option.bind_some] at hf
  cases q2:gs ts with
  |none=>rw [q2] at hf; cases hf
  |some bt=>
   obtain⟨b,t⟩:=bt
   rw [q2] at hf
   have hf:noD (b,t)=some u:=hf
   refine⟨F,ε,ts,rl,q,fun F1 vs H1 m1 r1=>⟨F1,ts,b,t,m1.trk,by rw [List.append_nil]; exact r1,q2,fun F2 v H2 m2 r2=> ?_⟩⟩
   obtain⟨F3,m3,r3⟩:=mW0 hf m2 r2
   exact k F3 v H2 (m1.trans m3) r3
def eFnF (gs:List T->Option (Bool × T))(g:En->Option (List T)):En->Option T:=fun ε=>(g ε).bind fun ts=>match gs ts with|some (true,t)=>some t|_=>none
theorem oN0 (σ:St)(H:Hp)(Q:VK)(h:TrF Y (eFnF gs fa) σ H Q):mF0 (spP gs) [] E0 (TrA Y fa) σ H Q:=by
 obtain⟨F,ε,u,rl,hf,k⟩:=h
 unfold eFnF at hf
 cases q:fa ε with
 |none=>rw [q] at hf; cases hf
 |some ts=>
  rw [q] at hf
  simp only [Option.bind_some] at hf
  split at hf
  ·cases hf
   refine⟨F,ε,ts,rl,q,fun F1 vs H1 m1 r1=>⟨F1,ts,true,u,m1.trk,by rw [List.append_nil]; exact r1,by assumption,fun F2 v H2 m2 r2=> ?_⟩⟩
   obtain⟨a,rfl,n,nf,q⟩:=(show∃a,v=.ref a/\H1 a=none/\¬F2 a/\Rp1 F2 H2 a u from r2)
   exact k F2 a H2 (m1.trans m2) (m1.free n) nf q
  ·cases hf
theorem se_fn (Fn:FnOk X.prog X.w X.K X.mg X.base CX0 k f fd ps (spP gs))(hr:Room k X.A)(hg:Gl X x)(hm:X.mg x=some (.ref f))(hk:PySem.W.keepIn X.K (.ref f)=true)(hb:Binds X.K fd ps [])(ha:SA X Y (e::es) fa)
  (hdb:(x==("__debug__" :Str))=false:=by decide) (he:starEach (e::es) X.env=(false,eval e X.env)::starEach es X.env:=by rfl) (hpl:(backTo pos (starEach es X.env)).any (·.1)=false:=by rfl):
  SE X Y (.Call (.Name x p) (e::es) [] pos) (eFn gs fa):=PE.imp (cn0 Fn hr hg hm hk hb .nil bU0 ha hdb he hpl) tr_fn
theorem fe_fn (Fn:FnOk X.prog X.w X.K X.mg X.base CX0 k f fd ps (spP gs))(hr:Room k X.A)(hg:Gl X x)(hm:X.mg x=some (.ref f))(hk:PySem.W.keepIn X.K (.ref f)=true)(hb:Binds X.K fd ps [])(ha:SA X Y (e::es) fa)
  (hdb:(x==("__debug__" :Str))=false:=by decide) (he:starEach (e::es) X.env=(false,eval e X.env)::starEach es X.env:=by rfl) (hpl:(backTo pos (starEach es X.env)).any (·.1)=false:=by rfl):
  FE X Y (.Call (.Name x p) (e::es) [] pos) (eFnF gs fa):=PE.imp (cn0 Fn hr hg hm hk hb .nil bU0 ha hdb he hpl) oN0
def dx0 (C:Addr)(m:Str)(gs:List T->Option (Bool × T))(fo:En->Option T)(g:En->Option (List T)):En->Option T:=fun ε=>match fo ε with
 |some (.ins C' fs)=>if C'=C/\fs.lookup m=none then(g ε).bind fun ts=>(gs (.ins C' fs::ts)).bind noD else none
 |_=>none
theorem oE0 (σ:St)(H:Hp)(Q:VK)(h:Tr Y (dx0 C m gs fo fa) σ H Q):my0 C m (spP gs) [] E0 (Tr Y fo) (TrA Y fa) σ H Q:=by
 obtain⟨F,ε,u,rl,hf,k⟩:=h
 unfold dx0 at hf
 split at hf
 ·rename_i C' fs qo
  split at hf
  ·rename_i hc
   obtain⟨rfl,hl⟩:=hc
   refine⟨F,ε,_,rl,qo,fun F1 v H1 m1 r1=> ?_⟩
   cases hr:r1 with
   | @ins a _ dx fv _ fa' ha rf=>
    refine⟨a,dx,fv,rfl,ha,rf.look_none hl,?_⟩
    cases q:fa ε with
    |none=>rw [q] at hf; cases hf
    |some ts=>
     rw [q] at hf
     simp only [Option.bind_some] at hf
     cases q2:gs (.ins C' fs::ts) with
     |none=>rw [q2] at hf; cases hf
     |some bt=>
      obtain⟨b,t⟩:=bt
      rw [q2] at hf
      have hf:noD (b,t)=some u:=hf
      refine⟨F1,ε,ts,rl.mono m1,q,fun F2 vs H2 m2 r2=>⟨F2,.ins C' fs::ts,b,t,m2.trk,by rw [List.append_nil]; exact .cons (r1.keep m2.keep) r2,q2,fun F3 v H3 m3 r3=> ?_⟩⟩
      obtain⟨F4,m4,r4⟩:=mW0 hf m3 r3
      exact k F4 v H3 ((m1.trans m2).trans m4) r4
  ·cases hf
 ·cases hf
theorem oa0 {pl:Sem Bool}(ho:SE X Y o fo)(c:Cls X.K C)(hm:Meth X.K C m f)(Fn:FnOk X.prog X.w X.K X.mg X.base CX0 k f fd ps (spP gs))(hr:Room k X.A)(hb:Binds X.K fd ps [])(ha:SA X Y (e::es) fa)
  (hst:starEach (e::es) X.env=(false,eval e X.env)::starEach es X.env:=by rfl) (hpl:(backTo pos (starEach es X.env)).any (·.1)=false:=by rfl)
  (ht:eval (.Call (.Attribute o m apos) (e::es) [] pos) X.env=(do
   let ov<- eval o X.env
   standAt apos.atName
   let (f,first)<- holding [ov] (getMethod ov m pl)
   callWith pos f first (backTo pos (starEach (e::es) X.env)) (backToKw pos (keywordEach [] X.env))):=by rfl):
  SE X Y (.Call (.Attribute o m apos) (e::es) [] pos) (dx0 C m gs fo fa):=PE.imp (cg0 ho c hm Fn hr hb .nil bU0 ha hst hpl ht) oE0
def eFld (C:Addr)(n:Str)(fo:En->Option T):En->Option T:=fun ε=>match fo ε with
 |some (.ins C' fs)=>if C'=C then fs.lookup n else none
 |_=>none
theorem cT0 (ho:BE X Y o fo)(c:Cls X.K C)(na:NoAttr X.K C m)(hb:attributeBase o m X.env (eval o X.env)=eval o X.env:=by rfl):SE X Y (.Attribute o m pos) (eFld C m fo):=PE.imp (bF0 ho hb) fun σ H Q ⟨F,ε,u,rl,hf,k⟩=>by
 unfold eFld at hf
 split at hf
 ·rename_i C' fs qo
  split at hf
  ·rename_i hc
   subst hc
   refine⟨F,ε,_,rl,qo,fun F1 v H1 m1 r1=> ?_⟩
   obtain⟨a,dx,xs,rfl,ha,rf⟩:=r1.ins_
   obtain⟨v,h1,h2⟩:=rf.look hf
   exact⟨a,C',dx,xs,v,rfl,ha,c,na,h1,k F1 v H1 m1 h2⟩
  ·cases hf
 ·cases hf
end
end L2.BD
set_option Elab.async false
set_option linter.all false
set_option maxRecDepth 100000
set_option maxHeartbeats 4000000
namespace L2.BD
open PySem PySem.Spec PyProof.Rows
def aV0:T->Bool
 | .non=>true| .bl _=>true| .int _=>true| .str _=>true|_=>false
def toV:T->V
 | .bl b=> .bl b| .int i=> .int i| .str x=> .str x|_=> .non
theorem Rb.flat {F:Addr->Prop}{H:Hp}{v:V}{t:T}(r:Rb F H v t)(h:aV0 t=true):v=toV t/\bL0 v=true:=by
 cases t with
 |non=>cases r.non_; exact⟨rfl,rfl⟩
 |bl b=>cases r.bl_; exact⟨rfl,rfl⟩
 |int i=>cases r.int_; exact⟨rfl,rfl⟩
 |str x=>cases r.str_; exact⟨rfl,rfl⟩
 |_=>cases h
theorem Rps.flat {F:Addr->Prop}{H:Hp}:∀{xs:List V} {ts:List T},Rps F H xs ts->ts.all aV0=true->xs=ts.map toV/\xs.all bL0=true
 |_,_,.nil,_=>⟨rfl,rfl⟩
 |_,_,.cons h r,e=>by
  rw [List.all_cons,Bool.and_eq_true] at e
  obtain⟨h1,h2⟩:=(Rb.v h).flat e.1
  obtain⟨h3,h4⟩:=Rps.flat r e.2
  rw [List.map_cons,List.all_cons,<- h1,<- h3,h2,h4]
  exact⟨rfl,rfl⟩
def eqLW (f:T->T->Option Bool):List T->List T->Option Bool
 | [],[]=>some true
 | [],_::_=>some false
 |_::_,[]=>some false
 |a::as,b::bs=>(f a b).bind fun x=>(eqLW f as bs).bind fun r=>some (x && r)
def eqT:Nat->T->T->Option Bool
 |0,_,_=>none
 |n+1,.tup xs,.tup ys=>eqLW (eqT n) xs ys
 |n+1,.lst xs,.lst ys=>eqLW (eqT n) xs ys
 |_+1,a,b=>if aV0 a && aV0 b then some (eqV (toV a) (toV b)) else none
theorem et0 {f:T->T->Option Bool}(hf:∀t b,f t t=some b->b=true):∀(ts:List T) (b:Bool),eqLW f ts ts=some b->b=true
 | [],b,h=>by cases h; rfl
 |t::ts,b,h=>by
  unfold eqLW at h
  cases q:f t t with
  |none=>rw [q] at h; cases h
  |some x=>
   rw [q] at h
   simp only [Option.bind_some] at h
   cases q2:eqLW f ts ts with
   |none=>rw [q2] at h; cases h
   |some r=>
    rw [q2] at h
    cases h
    rw [hf t x q,et0 hf ts r q2]
    rfl
theorem fv0 {t:T}(h:aV0 t=true):eqV (toV t) (toV t)=true:=by
 cases t<;>simp [toV,eqV,aV0] at*
theorem fh0:∀(n:Nat) (t:T) (b:Bool),eqT n t t=some b->b=true
 |0,_,_,h=>by cases h
 |n+1,t,b,h=>by
  cases t with
  |tup ts=>exact et0 (fh0 n) ts b h
  |lst ts=>exact et0 (fh0 n) ts b h
  |dct kvs=>cases h
  |ins C fs=>cases h
  |exc C=>cases h
  |scr ns=>cases h
  |non=>cases h; rfl
  |bl c=>cases h; exact fv0 (t:=.bl c) rfl
  |int i=>cases h; exact fv0 (t:=.int i) rfl
  |str x=>cases h; exact fv0 (t:=.str x) rfl
theorem dW0:∀{xs ys:List Int},xs.map V.int=ys.map V.int->xs=ys
 | [],[],_=>rfl
 | [],_::_,h=>by cases h
 |_::_,[],h=>by cases h
 |x::xs,y::ys,h=>by
  rw [List.map_cons,List.map_cons] at h
  obtain⟨h1,h2⟩:=List.cons.inj h
  rw [V.int.inj h1,dW0 h2]
mutual
theorem Rp.inj {F F':Addr->Prop}{H:Hp}:∀{v:V} {t t':T},Rp F H v t->Rp F' H v t'->t=t'
 |_,_,_,.non,h=>by cases h; rfl
 |_,_,_,.bl _,h=>by cases h; rfl
 |_,_,_,.int _,h=>by cases h; rfl
 |_,_,_,.str _,h=>by cases h; rfl
 |_,_,_,.tup e r,h=>by
  cases h with
  |tup e' r'=>rw [e] at e'; cases e'; rw [Rps.inj r r']
  |lst _ e' _=>rw [e] at e'; cases e'
  |dct _ e' _=>rw [e] at e'; cases e'
  |ins _ e' _=>rw [e] at e'; cases e'
  |exc _ e' _=>rw [e] at e'; cases e'
  |scr _ e'=>rw [e] at e'; cases e'
 |_,_,_,.lst _ e r,h=>by
  cases h with
  |lst _ e' r'=>rw [e] at e'; cases e'; rw [Rps.inj r r']
  |tup e' _=>rw [e] at e'; cases e'
  |dct _ e' _=>rw [e] at e'; cases e'
  |ins _ e' _=>rw [e] at e'; cases e'
  |exc _ e' _=>rw [e] at e'; cases e'
  |scr _ e'=>rw [e] at e'; cases e'
 |_,_,_,.dct _ e r,h=>by
  cases h with
  |dct _ e' r'=>rw [e] at e'; cases e'; rw [Rpk.inj r r']
  |tup e' _=>rw [e] at e'; cases e'
  |lst _ e' _=>rw [e] at e'; cases e'
  |ins _ e' _=>rw [e] at e'; cases e'
  |exc _ e' _=>rw [e] at e'; cases e'
  |scr _ e'=>rw [e] at e'; cases e'
 |_,_,_,.ins _ e r,h=>by
  cases h with
  |ins _ e' r'=>rw [e] at e'; cases e'; rw [Rpf.inj r r']
  |exc _ e' _=>rw [e] at e'; cases e'
  |scr _ e'=>rw [e] at e'; cases e'
  |tup e' _=>rw [e] at e'; cases e'
  |lst _ e' _=>rw [e] at e'; cases e'
  |dct _ e' _=>rw [e] at e'; cases e'
 |_,_,_,.exc _ e c,h=>by
  cases h with
  |exc _ e' c'=>rw [e] at e'; cases e'; rw [c] at c'; cases c'; rfl
  |scr _ e'=>rw [e] at e'; cases e'
  |ins _ e' _=>rw [e] at e'; cases e'
  |tup e' _=>rw [e] at e'; cases e'
  |lst _ e' _=>rw [e] at e'; cases e'
  |dct _ e' _=>rw [e] at e'; cases e'
 |_,_,_,.scr _ e,h=>by
  cases h with
  |scr _ e'=>rw [e] at e'; have z:=HO.lst.inj (HO.frz.inj (Option.some.inj e')).2; rw [dW0 z]
  |exc _ e' _=>rw [e] at e'; cases e'
  |ins _ e' _=>rw [e] at e'; cases e'
  |tup e' _=>rw [e] at e'; cases e'
  |lst _ e' _=>rw [e] at e'; cases e'
  |dct _ e' _=>rw [e] at e'; cases e'
theorem Rps.inj {F F':Addr->Prop}{H:Hp}:∀{v:List V} {t t':List T},Rps F H v t->Rps F' H v t'->t=t'
 |_,_,_,.nil,h=>by cases h; rfl
 |_,_,_,.cons h r,h'=>by cases h' with|cons h2 r2=>rw [Rp.inj h h2,Rps.inj r r2]
theorem Rpk.inj {F F':Addr->Prop}{H:Hp}:∀{v:List (Key × V)} {t t':List (Str × T)},Rpk F H v t->Rpk F' H v t'->t=t'
 |_,_,_,.nil,h=>by cases h; rfl
 |_,_,_,.cons h r,h'=>by cases h' with|cons h2 r2=>rw [Rp.inj h h2,Rpk.inj r r2]
theorem Rpf.inj {F F':Addr->Prop}{H:Hp}:∀{v:List (Str × V)} {t t':List (Str × T)},Rpf F H v t->Rpf F' H v t'->t=t'
 |_,_,_,.nil,h=>by cases h; rfl
 |_,_,_,.cons h r,h'=>by cases h' with|cons h2 r2=>rw [Rp.inj h h2,Rpf.inj r r2]
end
theorem Rb.inj {F:Addr->Prop}{H:Hp}{v:V}{t t':T}(h:Rb F H v t)(h':Rb F H v t'):t=t':=by
 cases h with
 |v h=>
  cases h' with
  |v h'=>exact h.inj h'
  |o h'=>
   cases h' with
   |lst e r=>cases h with
    |lst _ e' r'=>rw [e] at e'; cases e'; rw [r'.inj r]
    |tup e' _=>rw [e] at e'; cases e'
    |dct _ e' _=>rw [e] at e'; cases e'
    |ins _ e' _=>rw [e] at e'; cases e'
    |exc _ e' _=>rw [e] at e'; cases e'
    |scr _ e'=>rw [e] at e'; cases e'
   |dct e r=>cases h with
    |lst _ e' r'=>rw [e] at e'; cases e'
    |tup e' _=>rw [e] at e'; cases e'
    |dct _ e' _=>rw [e] at e'; cases e'
    |ins _ e' _=>rw [e] at e'; cases e'
    |exc _ e' _=>rw [e] at e'; cases e'
    |scr _ e'=>rw [e] at e'; cases e'
   |ins e r=>cases h with
    |lst _ e' r'=>rw [e] at e'; cases e'
    |tup e' _=>rw [e] at e'; cases e'
    |dct _ e' _=>rw [e] at e'; cases e'
    |ins _ e' r'=>rw [e] at e'; cases e'; rw [r'.inj r]
    |exc _ e' _=>rw [e] at e'; cases e'
    |scr _ e'=>rw [e] at e'; cases e'
 |o h=>
  cases h' with
  |v h'=>
   cases h with
   |lst e r=>cases h' with
    |lst _ e' r'=>rw [e] at e'; cases e'; rw [r'.inj r]
    |tup e' _=>rw [e] at e'; cases e'
    |dct _ e' _=>rw [e] at e'; cases e'
    |ins _ e' _=>rw [e] at e'; cases e'
    |exc _ e' _=>rw [e] at e'; cases e'
    |scr _ e'=>rw [e] at e'; cases e'
   |dct e r=>cases h' with
    |lst _ e' r'=>rw [e] at e'; cases e'
    |tup e' _=>rw [e] at e'; cases e'
    |dct _ e' _=>rw [e] at e'; cases e'
    |ins _ e' _=>rw [e] at e'; cases e'
    |exc _ e' _=>rw [e] at e'; cases e'
    |scr _ e'=>rw [e] at e'; cases e'
   |ins e r=>cases h' with
    |lst _ e' r'=>rw [e] at e'; cases e'
    |tup e' _=>rw [e] at e'; cases e'
    |dct _ e' _=>rw [e] at e'; cases e'
    |ins _ e' r'=>rw [e] at e'; cases e'; rw [r'.inj r]
    |exc _ e' _=>rw [e] at e'; cases e'
    |scr _ e'=>rw [e] at e'; cases e'
  |o h'=>
   cases h with
   |lst e r=>cases h' with
    |lst e' r'=>rw [e] at e'; cases e'; rw [r.inj r']
    |dct e' r'=>rw [e] at e'; cases e'
    |ins e' r'=>rw [e] at e'; cases e'
   |dct e r=>cases h' with
    |lst e' r'=>rw [e] at e'; cases e'
    |dct e' r'=>rw [e] at e'; cases e'; rw [r.inj r']
    |ins e' r'=>rw [e] at e'; cases e'
   |ins e r=>cases h' with
    |lst e' r'=>rw [e] at e'; cases e'
    |dct e' r'=>rw [e] at e'; cases e'
    |ins e' r'=>rw [e] at e'; cases e'; rw [r.inj r']
theorem hN0 {f:T->T->Option Bool}:∀{xs ys:List T} {b:Bool},eqLW f xs ys=some b->(∀(j:Nat) x y,xs[j]?=some x->ys[j]?=some y->∃c,f x y=some c)/\
   ∀e:Nat->Bool,(∀(j:Nat) x y,xs[j]?=some x->ys[j]?=some y->f x y=some (e j))->b=((List.range (min xs.length ys.length)).all e && xs.length==ys.length)
 | [],[],b,h=>by cases h; exact⟨fun j x y e=>by simp at e,fun e _=>by simp⟩
 | [],_::_,b,h=>by cases h; exact⟨fun j x y e=>by simp at e,fun e _=>by simp⟩
 |_::_,[],b,h=>by cases h; exact⟨fun j x y _ e=>by simp at e,fun e _=>by simp⟩
 |a::as,c::cs,b,h=>by
  unfold eqLW at h
  cases q:f a c with
  |none=>rw [q] at h; cases h
  |some x=>
   rw [q] at h
   simp only [Option.bind_some] at h
   cases q2:eqLW f as cs with
   |none=>rw [q2] at h; cases h
   |some r=>
    rw [q2] at h
    cases h
    obtain⟨h1,h2⟩:=hN0 q2
    refine⟨fun j y z e1 e2=> ?_,fun e he=> ?_⟩
    ·cases j with
     |zero=>simp at e1 e2; subst e1 e2; exact⟨x,q⟩
     |succ j=>exact h1 j y z (by simpa using e1) (by simpa using e2)
    ·have e0:=he 0 a c rfl rfl
     rw [q] at e0
     cases e0
     have e1:=h2 (fun j=>e (j+1)) fun j y z e1 e2=>he (j+1) y z (by simpa using e1) (by simpa using e2)
     rw [e1,List.length_cons,List.length_cons,Nat.succ_min_succ,List.range_succ_eq_map,List.all_cons,List.all_map]
     simp [Function.comp_def,Bool.and_assoc]
section
variable {X:Cx}{pins:List (Addr × Obj)}{σ:St}{H:Hp}{s:Shared}{F:Addr->Prop}
theorem cO0 {A:Around}{n:Nat}{xs ys:List V}{ts us:List T}{its jts:List Value}{b:Bool}(I:Inv X pins σ H s)
  (ih:∀(t1 t2:T) (b:Bool) (A:Around) (x y:V) (u v:Value),eqT n t1 t2=some b->A.units+n<cLine->Rb F H x t1->Rb F H y t2->RelV x u->RelV y v->SeqAt.EqAt A s u v b)
  (hu:A.units+(n+1)<cLine) (r1:Rps F H xs ts) (r2:Rps F H ys us) (v1:Vals xs its) (v2:Vals ys jts) (e:eqLW (eqT n) ts us=some b):
  ∃f:Nat->Bool,(∀(j:Nat) (h1:j<its.toArray.size) (h2:j<jts.toArray.size),SeqAt.EqAt A.in1 s its.toArray[j] jts.toArray[j] (f j))/\b=((List.range (min its.toArray.size jts.toArray.size)).all f && its.toArray.size==jts.toArray.size):=by
 obtain⟨h1,h2⟩:=hN0 e
 have l1:its.toArray.size=ts.length:=by rw [List.size_toArray,<- v1.length,r1.length]
 have l2:jts.toArray.size=us.length:=by rw [List.size_toArray,<- v2.length,r2.length]
 refine⟨fun j=>match ts[j]?,us[j]? with|some x,some y=>(eqT n x y).getD false|_,_=>false,fun j g1 g2=> ?_,?_⟩
 ·have e1:ts[j]?=some ts[j]:=by simp [l1▸g1]
  have e2:us[j]?=some us[j]:=by simp [l2▸g2]
  obtain⟨c,hc⟩:=h1 j _ _ e1 e2
  obtain⟨x,hx,rx⟩:=r1.get e1
  obtain⟨y,hy,ry⟩:=r2.get e2
  obtain⟨u,hu1,ru⟩:=v1.get hx
  obtain⟨v,hv1,rv⟩:=v2.get hy
  have q:=ih _ _ c A.in1 x y u v hc (by show A.units+1+n<cLine; omega) (.v rx) (.v ry) ru rv
  simp only [e1,e2,hc,Option.getD_some]
  have eu:its.toArray[j]=u:=by
   have:its[j]?=some its[j]:=by simp [by simpa using g1]
   rw [this] at hu1
   simpa using hu1
  have ev:jts.toArray[j]=v:=by
   have:jts[j]?=some jts[j]:=by simp [by simpa using g2]
   rw [this] at hv1
   simpa using hv1
  rw [eu,ev]
  exact q
 ·rw [l1,l2]
  exact h2 _ fun j x y e1 e2=>by
   obtain⟨c,hc⟩:=h1 j x y e1 e2
   simp only [e1,e2,hc,Option.getD_some]
theorem lb0 (I:Inv X pins σ H s):∀(n:Nat) (t1 t2:T) (b:Bool) (A:Around) (x y:V) (u v:Value),eqT n t1 t2=some b->A.units+n<cLine->Rb F H x t1->Rb F H y t2->RelV x u->RelV y v->SeqAt.EqAt A s u v b:=by
 intro n
 induction n with
 |zero=>intro t1 t2 b A x y u v h; cases h
 |succ n ih=>
  intro t1 t2 b A x y u v h hu r1 r2 ru rv
  have hu0:A.units<cLine:=by omega
  have same:∀{a:Addr},x=.ref a->y=.ref a->SeqAt.EqAt A s u v b:=fun{a} e1 e2=>by
   subst e1 e2
   cases ru; cases rv
   have e:=r1.inj r2
   subst e
   rw [fh0 _ _ _ h]
   exact SeqAt.EqAt.same _
  have flatc:(if aV0 t1 && aV0 t2 then some (eqV (toV t1) (toV t2)) else none)=some b->SeqAt.EqAt A s u v b:=fun h=>by
   split at h
   ·rename_i hf
    rw [Bool.and_eq_true] at hf
    cases h
    obtain⟨e1,f1⟩:=r1.flat hf.1
    obtain⟨e2,f2⟩:=r2.flat hf.2
    subst e1 e2
    exact mN0 ru rv f1 f2
   ·cases h
  cases t1 with
  |tup xs=>
   cases t2 with
   |tup ys=>
    obtain⟨a,vs,rfl,ha,q1⟩:=r1.tup_
    obtain⟨c,ws,rfl,hc,q2⟩:=r2.tup_
    by_cases hac:a=c
    ·exact same rfl (by rw [hac])
    ·cases ru; cases rv
     obtain⟨its,w1,p1,_⟩:=I.tuple (SqT.of ha)
     obtain⟨jts,w2,p2,_⟩:=I.tuple (SqT.of hc)
     obtain⟨f,hf,e⟩:=cO0 (A:=A) I ih hu q1 q2 w1 w2 h
     rw [e]
     exact SeqAt.EqAt.of_refs hac (SeqAt.RcAt.tuples p1 p2 hu0 hf)
   |_=>exact flatc h
  |lst xs=>
   cases t2 with
   |lst ys=>
    obtain⟨a,vs,rfl,ha,q1⟩:=r1.lst_
    obtain⟨c,ws,rfl,hc,q2⟩:=r2.lst_
    by_cases hac:a=c
    ·exact same rfl (by rw [hac])
    ·cases ru; cases rv
     obtain⟨its,w1,p1,_⟩:=I.list (SqL.of ha)
     obtain⟨jts,w2,p2,_⟩:=I.list (SqL.of hc)
     obtain⟨f,hf,e⟩:=cO0 (A:=A) I ih hu q1 q2 w1 w2 h
     rw [e]
     by_cases hsz:its.toArray.size=jts.toArray.size
     ·rw [hsz,Nat.min_self,beq_self_eq_true,Bool.and_true]
      have:=SeqAt.EqAt.of_refs hac (SeqAt.RcAt.lists p1.isList p2.isList hsz hu0 hf)
      rw [hsz] at this
      exact this
     ·have hb:(its.toArray.size==jts.toArray.size)=false:=by simpa using hsz
      rw [hb,Bool.and_false]
      exact SeqAt.EqAt.of_refs hac (SeqAt.RcAt.lists_lengths p1.isList p2.isList (by simpa using hsz) hu0)
   |_=>exact flatc h
  |dct xs=>exact flatc h
  |ins C fs=>exact flatc h
  |exc C=>exact flatc h
  |scr ns=>exact flatc h
  |non=>exact flatc (by cases t2<;>exact h)
  |bl c=>exact flatc (by cases t2<;>exact h)
  |int i=>exact flatc (by cases t2<;>exact h)
  |str z=>exact flatc (by cases t2<;>exact h)
theorem mQ0 (hu:X.A.units+20<cLine):OpR X (compareOp .Eq) (fun x y H Q=>∃F t1 t2 b,Rb F H x t1/\Rb F H y t2/\aV0 t1=false/\eqT 9 t1 t2=some b/\Q (.bl b) H):=by
 intro pins s σ H x y u v Q I ru rv h
 obtain⟨F,t1,t2,b,r1,r2,nf,h,q⟩:=h
 have hu0:X.A.units<cLine:=by omega
 have fin:EP X pins σ Q (.bool b) s:=⟨.bl b,H,I,rfl,q⟩
 have ih:=lb0 (F:=F) I 8
 cases t1 with
 |tup xs=>
  cases t2 with
  |tup ys=>
   obtain⟨a,vs,rfl,ha,q1⟩:=r1.tup_
   obtain⟨c,ws,rfl,hc,q2⟩:=r2.tup_
   cases ru; cases rv
   obtain⟨its,w1,p1,_⟩:=I.tuple (SqT.of ha)
   obtain⟨jts,w2,p2,_⟩:=I.tuple (SqT.of hc)
   obtain⟨f,hf,e⟩:=cO0 (A:=X.A) I ih (by omega) q1 q2 w1 w2 h
   rw [e] at fin
   exact SeqAt.eq_tupleAt p1 p2 hu0 hf fin
  |_=>cases h
 |lst xs=>
  cases t2 with
  |lst ys=>
   obtain⟨a,vs,rfl,ha,q1⟩:=r1.lst_
   obtain⟨c,ws,rfl,hc,q2⟩:=r2.lst_
   cases ru; cases rv
   obtain⟨its,w1,p1,_⟩:=I.list (SqL.of ha)
   obtain⟨jts,w2,p2,_⟩:=I.list (SqL.of hc)
   obtain⟨f,hf,e⟩:=cO0 (A:=X.A) I ih (by omega) q1 q2 w1 w2 h
   rw [e] at fin
   by_cases hsz:its.toArray.size=jts.toArray.size
   ·rw [<- hsz,Nat.min_self,beq_self_eq_true,Bool.and_true] at fin
    exact SeqAt.eq_listAt p1.isList p2.isList hsz hu0 hf fin
   ·have hb:(its.toArray.size==jts.toArray.size)=false:=by simpa using hsz
    rw [hb,Bool.and_false] at fin
    exact SeqAt.eq_list_lengthsAt p1.isList p2.isList (by simpa using hsz) hu0 fin
  |_=>cases h
 |_=>first|(cases nf; done)|(cases h; done)|(cases t2<;>cases h)
theorem pr0 (hu:X.A.units+20<cLine):OpR X (compareOp .NotEq) (fun x y H Q=>∃F t1 t2 b,Rb F H x t1/\Rb F H y t2/\aV0 t1=false/\eqT 9 t1 t2=some b/\Q (.bl (!b)) H):=by
 intro pins s σ H x y u v Q I ru rv h
 obtain⟨F,t1,t2,b,r1,r2,nf,h,q⟩:=h
 have hu0:X.A.units<cLine:=by omega
 have fin:EP X pins σ Q (.bool (!b)) s:=⟨.bl (!b),H,I,rfl,q⟩
 have ih:=lb0 (F:=F) I 8
 cases t1 with
 |tup xs=>
  cases t2 with
  |tup ys=>
   obtain⟨a,vs,rfl,ha,q1⟩:=r1.tup_
   obtain⟨c,ws,rfl,hc,q2⟩:=r2.tup_
   cases ru; cases rv
   obtain⟨its,w1,p1,_⟩:=I.tuple (SqT.of ha)
   obtain⟨jts,w2,p2,_⟩:=I.tuple (SqT.of hc)
   obtain⟨f,hf,e⟩:=cO0 (A:=X.A) I ih (by omega) q1 q2 w1 w2 h
   rw [e] at fin
   exact SeqAt.RcNeAt.tuples p1 p2 hu0 hf _ _ _ _ fin
  |_=>cases h
 |lst xs=>
  cases t2 with
  |lst ys=>
   obtain⟨a,vs,rfl,ha,q1⟩:=r1.lst_
   obtain⟨c,ws,rfl,hc,q2⟩:=r2.lst_
   cases ru; cases rv
   obtain⟨its,w1,p1,_⟩:=I.list (SqL.of ha)
   obtain⟨jts,w2,p2,_⟩:=I.list (SqL.of hc)
   obtain⟨f,hf,e⟩:=cO0 (A:=X.A) I ih (by omega) q1 q2 w1 w2 h
   rw [e] at fin
   by_cases hsz:its.toArray.size=jts.toArray.size
   ·rw [<- hsz,Nat.min_self,beq_self_eq_true,Bool.and_true] at fin
    exact SeqAt.RcNeAt.lists p1.isList p2.isList hsz hu0 hf _ _ _ _ fin
   ·have hb:(its.toArray.size==jts.toArray.size)=false:=by simpa using hsz
    rw [hb,Bool.and_false] at fin
    exact SeqAt.RcNeAt.lists_lengths p1.isList p2.isList (by simpa using hsz) hu0 _ _ _ _ fin
  |_=>cases h
 |_=>first|(cases nf; done)|(cases h; done)|(cases t2<;>cases h)
end
def φEq (s t:T):Option T:=if aV0 s && aV0 t then(if scal (toV s) (toV t) then some (.bl (decide (toV s=toV t))) else none) else if aV0 s then none else(eqT 9 s t).map .bl
def φNe (s t:T):Option T:=if aV0 s && aV0 t then(if scal (toV s) (toV t) then some (.bl (!decide (toV s=toV t))) else none) else if aV0 s then none else(eqT 9 s t).map fun b=> .bl (!b)
theorem o_eq:Op2 (fun x y H Q=>rEq x y H Q\/ ∃F t1 t2 b,Rb F H x t1/\Rb F H y t2/\aV0 t1=false/\eqT 9 t1 t2=some b/\Q (.bl b) H) φEq:=by
 intro F H x y s t u Q tk rx ry h k
 unfold φEq at h
 split at h
 ·rename_i hf
  rw [Bool.and_eq_true] at hf
  split at h
  ·cases h
   obtain⟨e1,_⟩:=rx.flat hf.1
   obtain⟨e2,_⟩:=ry.flat hf.2
   subst e1 e2
   exact .inl ⟨by assumption,k F _ H (.refl tk) (.bl _)⟩
  ·cases h
 ·split at h
  ·cases h
  ·rename_i nf
   cases q:eqT 9 s t with
   |none=>rw [q] at h; cases h
   |some b=>rw [q] at h; cases h; exact .inr ⟨F,s,t,b,rx,ry,by simpa using nf,q,k F _ H (.refl tk) (.bl _)⟩
theorem o_ne:Op2 (fun x y H Q=>rNe x y H Q\/ ∃F t1 t2 b,Rb F H x t1/\Rb F H y t2/\aV0 t1=false/\eqT 9 t1 t2=some b/\Q (.bl (!b)) H) φNe:=by
 intro F H x y s t u Q tk rx ry h k
 unfold φNe at h
 split at h
 ·rename_i hf
  rw [Bool.and_eq_true] at hf
  split at h
  ·cases h
   obtain⟨e1,_⟩:=rx.flat hf.1
   obtain⟨e2,_⟩:=ry.flat hf.2
   subst e1 e2
   exact .inl ⟨by assumption,k F _ H (.refl tk) (.bl _)⟩
  ·cases h
 ·split at h
  ·cases h
  ·rename_i nf
   cases q:eqT 9 s t with
   |none=>rw [q] at h; cases h
   |some b=>rw [q] at h; cases h; exact .inr ⟨F,s,t,b,rx,ry,by simpa using nf,q,k F _ H (.refl tk) (.bl _)⟩
section
variable {X:Cx}{Y:Fx}{a b c:Expr}{pos:Pos}{f g h:En->Option T}
theorem gH0 (hu:X.A.units+20<cLine)(ha:BE X Y a f)(hb:BE X Y b g):QT X Y (.Compare a [.Eq] [b] pos) (qB (e2 φEq f g)):=eF0 (op_eq.or (mQ0 hu)) o_eq ha hb (dB0 _)
theorem nW0 (hu:X.A.units+20<cLine)(ha:BE X Y a f)(hb:BE X Y b g):QT X Y (.Compare a [.NotEq] [b] pos) (qB (e2 φNe f g)):=eF0 (op_ne.or (pr0 hu)) o_ne ha hb (dB0 _)
theorem se_eq (hu:X.A.units+20<cLine)(ha:BE X Y a f)(hb:BE X Y b g):SE X Y (.Compare a [.Eq] [b] pos) (e2 φEq f g):=ne0 (op_eq.or (mQ0 hu)) o_eq ha hb (dB0 _)
theorem lP0 (ha:BE X Y a f)(hb:BE X Y b g):QT X Y (.Compare a [.Lt] [b] pos) (qB (e2 φLt f g)):=eF0 op_lt o_lt ha hb (dB0 _)
theorem qt_gt (ha:BE X Y a f)(hb:BE X Y b g):QT X Y (.Compare a [.Gt] [b] pos) (qB (e2 φGt f g)):=eF0 op_gt o_gt ha hb (dB0 _)
theorem br0 (ha:BE X Y a f)(hb:BE X Y b g):SE X Y (.BinOp a .Add b pos) (e2 φAdd f g):=it0 pt0 o_add ha hb
theorem pe0 (ha:BE X Y a f)(hb:BE X Y b g):SE X Y (.BinOp a .Sub b pos) (e2 φSub f g):=it0 pl0 o_sub ha hb
theorem dY0 (ha:BE X Y a f)(hb:BE X Y b g):SE X Y (.BinOp a .Mult b pos) (e2 φMul f g):=it0 pB0 o_mul ha hb
theorem by0 (ha:BE X Y a f)(hb:BE X Y b g):SE X Y (.BinOp a .Mod b pos) (e2 φMod f g):=it0 pD0 o_mod ha hb
theorem nc0 (ha:BE X Y a f)(hb:BE X Y b g):SE X Y (.BinOp a .FloorDiv b pos) (e2 φDiv f g):=it0 oC0 o_div ha hb
def φIn (neg:Bool)(s t:T):Option T:=match t with
 | .lst ts=>if aV0 s && ts.all aV0 then some (.bl (if neg then !(ts.any fun y=>eqV (toV y) (toV s)) else ts.any fun y=>eqV (toV y) (toV s))) else none
 | .tup ts=>if aV0 s && ts.all aV0 then some (.bl (if neg then !(ts.any fun y=>eqV (toV y) (toV s)) else ts.any fun y=>eqV (toV y) (toV s))) else none
 |_=>none
theorem lg0 (x:V)(ts:List T):inV x (ts.map toV)=ts.any fun y=>eqV (toV y) x:=by
 unfold inV
 rw [List.any_map]
 rfl
theorem o_in {K:PySem.W.Frag}(neg:Bool):Op2 (rIn K neg) (φIn neg):=by
 intro F H x y s t u Q tk rx ry h k
 unfold φIn at h
 split at h
 ·split at h
  ·rename_i hf
   rw [Bool.and_eq_true] at hf
   cases h
   obtain⟨a,xs,rfl,ha,r⟩:=ry.lst_
   obtain⟨e1,f1⟩:=rx.flat hf.1
   obtain⟨e2,f2⟩:=r.flat hf.2
   refine⟨a,xs,rfl,.inl (SqL.of ha),f1,f2,?_⟩
   rw [e1,e2,lg0]
   exact k F _ H (.refl tk) (.bl _)
  ·cases h
 ·split at h
  ·rename_i hf
   rw [Bool.and_eq_true] at hf
   cases h
   obtain⟨a,xs,rfl,ha,r⟩:=ry.tup_
   obtain⟨e1,f1⟩:=rx.flat hf.1
   obtain⟨e2,f2⟩:=r.flat hf.2
   refine⟨a,xs,rfl,.inr (SqT.of ha),f1,f2,?_⟩
   rw [e1,e2,lg0]
   exact k F _ H (.refl tk) (.bl _)
  ·cases h
 ·cases h
theorem qt_in (ha:BE X Y a f)(hb:BE X Y b g)(hm:behindInMarks .In b=false:=by with_unfolding_all rfl):QT X Y (.Compare a [.In] [b] pos) (qB (e2 (φIn false) f g)):=eF0 fZ0 (o_in false) ha hb hm
theorem lO0 (ha:BE X Y a f)(hb:BE X Y b g)(hm:behindInMarks .NotIn b=false:=by with_unfolding_all rfl):QT X Y (.Compare a [.NotIn] [b] pos) (qB (e2 (φIn true) f g)):=eF0 dE0 (o_in true) ha hb hm
theorem gX0 (ha:BE X Y a f)(hb:BE X Y b g)(hm:behindInMarks .NotIn b=false:=by with_unfolding_all rfl):SE X Y (.Compare a [.NotIn] [b] pos) (e2 (φIn true) f g):=ne0 dE0 (o_in true) ha hb hm
def cR0 (φ φ':T->T->Option T)(f g h:En->Option T):En->Option T:=fun ε=>(f ε).bind fun s=>(g ε).bind fun t=>(φ s t).bind fun z=>match z with
 | .bl true=>(h ε).bind fun u=>φ' t u
 | .bl false=>some (.bl false)
 |_=>none
theorem hC0 {r r':R2}{φ φ':T->T->Option T}(o:Op2 r φ)(o':Op2 r' φ')(σ:St)(H:Hp)(Q:VK)(q:Tr Y (cR0 φ φ' f g h) σ H Q):iY0 r r' (TrB Y f) (TrB Y g) (TrB Y h) σ H Q:=by
 obtain⟨F,ε,u,rl,hf,k⟩:=q
 unfold cR0 at hf
 cases q1:f ε with
 |none=>rw [q1] at hf; cases hf
 |some s=>
  cases q2:g ε with
  |none=>rw [q1] at hf; simp only [Option.bind_some,q2] at hf; cases hf
  |some t=>
   rw [q1] at hf
   simp only [Option.bind_some,q2] at hf
   cases q3:φ s t with
   |none=>rw [q3] at hf; cases hf
   |some z=>
    rw [q3] at hf
    simp only [Option.bind_some] at hf
    refine⟨F,ε,s,rl,q1,fun F1 x H1 m1 r1=>⟨F1,ε,t,rl.mono m1,q2,fun F2 y H2 m2 r2=> ?_⟩⟩
    refine o F2 H2 x y s t z _ m2.trk (r1.keep m2) r2 q3 fun F3 v H3 m3 r3=> ?_
    split at hf
    ·refine⟨true,(Rb.v r3).bl_,?_⟩
     rw [if_pos rfl]
     cases q4:h ε with
     |none=>rw [q4] at hf; cases hf
     |some w=>
      rw [q4] at hf
      simp only [Option.bind_some] at hf
      exact⟨F3,ε,w,rl.mono ((m1.trans m2).trans m3),q4,fun F4 y' H4 m4 r4=>o' F4 H4 y y' t w u Q m4.trk (r2.keep (m3.trans m4)) r4 hf fun F5 v' H5 m5 r5=>k F5 v' H5 ((((m1.trans m2).trans m3).trans m4).trans m5) r5⟩
    ·cases hf
     refine⟨false,(Rb.v r3).bl_,?_⟩
     rw [if_neg Bool.false_ne_true]
     exact k F3 _ H3 ((m1.trans m2).trans m3) (.bl _)
    ·cases hf
theorem lS0 {op op':CmpOp}{r r':R2}{φ φ':T->T->Option T}(ho:OpR X (compareOp op) r)(ho':OpR X (compareOp op') r')(o:Op2 r φ)(o':Op2 r' φ')(ha:BE X Y a f)(hb:BE X Y b g)(hc:BE X Y c h)
  (hm:lastMarks [op,op'] [b,c]=false:=by with_unfolding_all rfl):SE X Y (.Compare a [op,op'] [b,c] pos) (cR0 φ φ' f g h):=PE.imp (lR0 ho ho' ha hb hc hm) (hC0 o o')
theorem lw0 {op op':CmpOp}{r r':R2}{φ φ':T->T->Option T}(ho:OpR X (compareOp op) r)(ho':OpR X (compareOp op') r')(o:Op2 r φ)(o':Op2 r' φ')(ha:BE X Y a f)(hb:BE X Y b g)(hc:BE X Y c h)
  (hm:lastMarks [op,op'] [b,c]=false:=by with_unfolding_all rfl):QT X Y (.Compare a [op,op'] [b,c] pos) (qB (cR0 φ φ' f g h)):=PT.imp (lz0 ho ho' ha hb hc hm) (gp0 (hC0 o o'))
def eOr (f g:En->Option T):En->Option T:=fun ε=>(f ε).bind fun z=>match z with| .bl true=>some (.bl true)| .bl false=>g ε|_=>none
variable {rest:List Expr}
theorem mR0 {op:BoolOp}(ha:SE X Y a f):SE X Y (.BoolOp op [a] pos) f:=pA0 ha
theorem se_or (ha:SE X Y a f)(hb:SE X Y (.BoolOp .Or (b::rest) pos) g):SE X Y (.BoolOp .Or (a::b::rest) pos) (eOr f g):=PE.imp (pe_or ha hb) fun σ H Q ⟨F,ε,u,rl,hf,k⟩=>by
 unfold eOr at hf
 cases q1:f ε with
 |none=>rw [q1] at hf; cases hf
 |some z=>
  rw [q1] at hf
  simp only [Option.bind_some] at hf
  refine⟨F,ε,z,rl,q1,fun F1 v H1 m1 r1=> ?_⟩
  split at hf
  ·cases hf; exact⟨true,(Rb.v r1).bl_,by rw [if_pos rfl]; exact k F1 _ H1 m1 (.bl _)⟩
  ·exact⟨false,(Rb.v r1).bl_,by rw [if_neg Bool.false_ne_true]; exact⟨F1,ε,u,rl.mono m1,hf,fun F2 w H2 m2 r2=>k F2 w H2 (m1.trans m2) r2⟩⟩
  ·cases hf
theorem oJ0 {x:Str}{u:Value}{v:V}{t:T}(hg:Gl X x)(hm:X.mg x=some u)(r:RelV v u)(hr:∀F H,Rp F H v t)(hd:(x==("__debug__" :Str))=false:=by decide):SE X Y (.Name x pos) (eC t):=mc0 (nL0 hg hm r hd) hr
end
end L2.BD
set_option Elab.async false
set_option linter.all false
set_option maxRecDepth 100000
set_option maxHeartbeats 4000000
namespace L2.BD
open PySem PySem.Spec PyProof.Rows
def tyT:T->Option String
 | .non=>some "NoneType" | .bl _=>some "bool" | .int _=>some "int" | .str _=>some "str" | .tup _=>some "tuple" | .lst _=>some "list" | .dct _=>some "dict" | .ins _ _=>none| .exc _=>none| .scr _=>none
inductive Bty:String->Prop
 |bool:Bty "bool" |int:Bty "int" |str:Bty "str" |list:Bty "list" |tuple:Bty "tuple" |dict:Bty "dict"
def isT (n:String)(t:T):Option Bool:=match t with
 | .non=>some false
 | .bl _=>some (n== "bool" ||n== "int")
 | .int _=>some (n== "int")
 | .str _=>some (n== "str")
 | .tup _=>some (n== "tuple")
 | .lst _=>some (n== "list")
 | .dct _=>some (n== "dict")
 | .ins _ _=>none
 | .exc _=>none
 | .scr _=>none
theorem ty_of {K:PySem.W.Frag}{F:Addr->Prop}{H:Hp}{v:V}{t:T}{n:String}{b:Bool}(h:Bty n)(r:Rb F H v t)(e:isT n t=some b):∃u,TyOf K H v u/\PySem.W.kitOne K u (.type n)=some b:=by
 cases t with
 |non=>cases r.non_; refine⟨_,.non,?_⟩; cases e; cases h<;>rfl
 |bl c=>cases r.bl_; refine⟨_,.bl c,?_⟩; cases e; cases h<;>rfl
 |int i=>cases r.int_; refine⟨_,.int i,?_⟩; cases e; cases h<;>rfl
 |str x=>cases r.str_; refine⟨_,.str x,?_⟩; cases e; cases h<;>rfl
 |tup ts=>obtain⟨a,xs,rfl,ha,_⟩:=r.tup_; refine⟨_,.tup ha,?_⟩; cases e; cases h<;>rfl
 |lst ts=>obtain⟨a,xs,rfl,ha,_⟩:=r.lst_; refine⟨_,.lst ha,?_⟩; cases e; cases h<;>rfl
 |dct ts=>
  obtain⟨a,xs,rfl,ha,_⟩:=r.dct_
  rcases ha with ha|⟨o,ha⟩
  ·refine⟨_,.dK ha,?_⟩; cases e; cases h<;>rfl
  ·refine⟨_,.fD ha,?_⟩; cases e; cases h<;>rfl
 |ins C fs=>cases e
 |exc C=>cases e
 |scr ns=>cases e
section
variable {X:Cx}{Y:Fx}{e a b:Expr}{es:List Expr}{pos p p2:Pos}{f g:En->Option T}{fa:En->Option (List T)}
theorem ct0:dl0 X (.builtin "isinstance") (fun xs H Q=>∃x n t c,xs=[x,.ty n]/\TyOf X.K H x t/\PySem.W.kitOne X.K t (.type n)=some c/\Q (.bl c) H):=by
 intro pins s σ H xs us Q I r h
 obtain⟨x,n,t,c,rfl,ty,e,q⟩:=h
 obtain⟨u,w',rfl,rx,ry⟩:=lu0 r
 cases ry
 exact jA0 I rx ty e fun tk=>⟨.bl c,H,I.tok _,rfl,q⟩
def eIs (n:String)(f:En->Option T):En->Option T:=fun ε=>(f ε).bind fun t=>(isT n t).map .bl
theorem fr0 {n:String}{x:Str}(hn:Bty n)(hg:Gl X "isinstance") (hm:X.mg "isinstance" =none) (hgx:Gl X x) (hmx:X.mg x=none) (hvx:bootBuiltins x=some (.type n)) (ha:BE X Y a f)
  (hv:bootBuiltins "isinstance" =some (.builtin "isinstance"):=by rfl) (hnn:x≠ "__name__" :=by decide) (hdb:(x==("__debug__" :Str))=false:=by decide)
  (he:starEach [a,.Name x p2] X.env=[(false,eval a X.env),(false,eval (.Name x p2) X.env)]:=by rfl) (hpl:(backTo pos (starEach [.Name x p2] X.env)).any (·.1)=false:=by rfl):
  SE X Y (.Call (.Name "isinstance" p) [a,.Name x p2] [] pos) (eIs n f):=
 PE.imp (cb0 ct0 hg hm hv (ap0 ha (ap0 (fl0 (v:=.ty n) hgx hmx hvx rfl hnn hdb) aG0 rfl) he) (by decide) (by decide) he hpl) fun σ H Q ⟨F,ε,u,rl,hf,k⟩=>by
  unfold eIs at hf
  cases q:f ε with
  |none=>rw [q] at hf; cases hf
  |some t=>
   rw [q] at hf
   simp only [Option.bind_some] at hf
   cases q2:isT n t with
   |none=>rw [q2] at hf; cases hf
   |some c=>
    rw [q2] at hf
    cases hf
    refine⟨F,ε,t,rl,q,fun F1 v H1 m1 r1=> ?_⟩
    obtain⟨u,h1,h2⟩:=ty_of (K:=X.K) hn r1 q2
    exact⟨v,n,u,c,rfl,h1,h2,k F1 _ H1 m1 (.bl c)⟩
theorem ck0 (hg:Gl X "len") (hm:X.mg "len" =none) (ha:BA X Y [a] fa) (hv:bootBuiltins "len" =some (.builtin "len"):=by rfl) (he:starEach [a] X.env=[(false,eval a X.env)]:=by rfl):SE X Y (.Call (.Name "len" p) [a] [] pos) (aw0 φLen fa):=dN0 mu0 o_len hg hm hv ha (by decide) (by decide) he rfl
theorem bv0 (hg:Gl X "tuple") (hm:X.mg "tuple" =none) (ha:BA X Y [a] fa) (hv:bootBuiltins "tuple" =some (.type "tuple"):=by rfl) (he:starEach [a] X.env=[(false,eval a X.env)]:=by rfl):SE X Y (.Call (.Name "tuple" p) [a] [] pos) (aw0 bi0 fa):=jR0 fu0 ov0 hg hm hv ha (by decide) (by decide) he rfl
theorem jz0 (hg:Gl X "list") (hm:X.mg "list" =none) (ha:BA X Y [a] fa) (hv:bootBuiltins "list" =some (.type "list"):=by rfl) (he:starEach [a] X.env=[(false,eval a X.env)]:=by rfl):FE X Y (.Call (.Name "list" p) [a] [] pos) (aw0 fs0 fa):=fB0 gi0 pv0 hg hm hv ha (by decide) (by decide) he rfl
theorem fa0 (hc:X.calm=true)(hg:Gl X "min") (hm:X.mg "min" =none) (ha:BA X Y [a,b] fa) (hv:bootBuiltins "min" =some (.builtin "min"):=by rfl) (he:starEach [a,b] X.env=(false,eval a X.env)::starEach [b] X.env:=by rfl) (hpl:(backTo pos (starEach [b] X.env)).any (·.1)=false:=by rfl):SE X Y (.Call (.Name "min" p) [a,b] [] pos) (aw0 dy0 fa):=dN0 (kP0 hc) pf0 hg hm hv ha (by decide) (by decide) he hpl
theorem nu0 (hc:X.calm=true)(hg:Gl X "max") (hm:X.mg "max" =none) (ha:BA X Y [a,b] fa) (hv:bootBuiltins "max" =some (.builtin "max"):=by rfl) (he:starEach [a,b] X.env=(false,eval a X.env)::starEach [b] X.env:=by rfl) (hpl:(backTo pos (starEach [b] X.env)).any (·.1)=false:=by rfl):SE X Y (.Call (.Name "max" p) [a,b] [] pos) (aw0 ij0 fa):=dN0 (jU0 hc) pg0 hg hm hv ha (by decide) (by decide) he hpl
def dp0:List T->Option (List Int)
 | []=>some []
 | .int i::ts=>(dp0 ts).map (i:: ·)
 |_=>none
theorem fS0 (ns:List Int):dp0 (ns.map T.int)=some ns:=by
 induction ns with
 |nil=>rfl
 |cons n ns ih=>show (dp0 (ns.map T.int)).map (n:: ·)=_; rw [ih]; rfl
theorem gT0:∀{ts:List T} {ns:List Int},dp0 ts=some ns->ts=ns.map T.int
 | [],ns,h=>by cases h; rfl
 | .int i::ts,ns,h=>by
  have h:(dp0 ts).map (i:: ·)=some ns:=h
  cases q:dp0 ts with
  |none=>rw [q] at h; cases h
  |some ms=>rw [q] at h; cases h; rw [gT0 q]; rfl
theorem Rps.ints {F:Addr->Prop}{H:Hp}:∀{xs:List V} {ns:List Int},Rps F H xs (ns.map T.int)->xs=ns.map V.int
 |_,[],h=>by cases h; rfl
 |_,n::ns,h=>by
  cases h with
  |cons h r=>cases h; rw [Rps.ints r]; rfl
def φSum:List T->Option T
 | [.lst ts]=>(dp0 ts).map fun ns=> .int ns.sum
 |_=>none
theorem Rp1.lst_ {F:Addr->Prop}{H:Hp}{a:Addr}{ts:List T}(h:Rp1 F H a (.lst ts)):∃xs,H a=some (.lst xs)/\Rps F H xs ts:=by
 cases h with|lst h r=>exact⟨_,h,r⟩
theorem Rp1.dct_ {F:Addr->Prop}{H:Hp}{a:Addr}{ts:List (Str × T)}(h:Rp1 F H a (.dct ts)):∃xs,H a=some (.dK xs)/\Rpk F H xs ts:=by
 cases h with|dct h r=>exact⟨_,h,r⟩
theorem Rp1.ins_ {F:Addr->Prop}{H:Hp}{a C:Addr}{ts:List (Str × T)}(h:Rp1 F H a (.ins C ts)):∃dx xs,H a=some (.ins C dx xs)/\Rpf F H xs ts:=by
 cases h with|ins h r=>exact⟨_,_,h,r⟩
def sApp (i:Nat)(f:En->Option T):En->Option Fl:=fun ε=>match ε[i]? with
 |some (.ow (.lst ts))=>(f ε).bind fun t=>if ts.length<big then some (.nx (ε.set i (.ow (.lst (ts++ [t]))))) else none
 |_=>none
theorem ef0 {i:Nat}{x:Str}{px apos cpos:Pos}(hx:PE X (.Name x px) (tVar i))(he:SE X Y e f)
  (hbase:attributeBase (.Name x px) "append" X.env (eval (.Name x px) X.env)=eval (.Name x px) X.env:=by rfl)
  (hfew:((backTo cpos (starEach [e] X.env)).all (fun x=> !x.1) && (backToKw cpos (keywordEach [] X.env)).all (fun x=>x.1.isSome)
   && decide (([e]:List Expr).length+([]:List Keyword).length+(if([]:List Keyword).isEmpty then 0 else 1)<30))=true:=by rfl)
  (hline:(apos.endLine==cpos.line)=true:=by rfl) (hs:starEach [e] X.env=[(false,eval e X.env)]:=by rfl) (hsw:swapsWith (.Call (.Attribute (.Name x px) "append" apos) [e] [] cpos) none pos.line X.env=pure false:=by rfl):
  SS X Y (.Expr (.Call (.Attribute (.Name x px) "append" apos) [e] [] cpos) pos) (sApp i f):=
 PS.imp (bK0 (fF0 PySem.F.plainAttrs_list PySem.F.slot_list_append PySem.F.type_list_append cH0 hx (ap0 he aG0 hs) hbase hfew hline hs rfl) hsw) fun D σ H ⟨F,ε,fl,r,hg,k⟩=>by
  unfold sApp at hg
  split at hg
  ·rename_i ts e1
   obtain⟨a,s1,nf,h0,hr⟩:=r.ow i _ e1
   cases q:f ε with
   |none=>rw [q] at hg; cases hg
   |some t=>
    rw [q] at hg
    simp only [Option.bind_some] at hg
    split at hg
    ·rename_i hb
     cases hg
     obtain⟨xs,ha,rs⟩:=hr.lst_
     ·refine⟨_,s1,.inl ⟨rfl,xs,SqL.of ha⟩,F,ε,t,r,q,fun F1 v H1 m1 r1=>⟨a,xs,v,rfl,rfl,m1.ext _ _ ha,kZ0 (by rw [rs.length]; exact hb),?_⟩⟩
      have hne:∀ys,H1 a≠some (.tup ys):=fun ys z=>by rw [m1.ext _ _ ha] at z; cases z
      have kp:Keep F1 H1 F1 (upd H1 a (.lst (xs++ [v]))):=by
       have nf1:¬F1 a:=fun z=>(m1.new a z).elim nf fun w=>by rw [ha] at w; cases w
       exact⟨fun _ h=>h,fun b u f q=>by rw [ah0 (fun(z:b=a)=>nf1 (z▸f))]; exact q,fun b ys q=>by rw [ah0 (fun(z:b=a)=>hne ys (z▸q))]; exact q⟩
      obtain⟨r2,k2⟩:=(r.mono m1).write (o:=.lst (xs++ [v])) (t':=.lst (ts++ [t])) e1 s1 hne (.lst ai0 (((rs.keep m1.keep).append (.cons r1 .nil)).keep kp))
      exact k F1 σ _ (m1.keep.trans k2) r2
    ·cases hg
  ·cases hg
def sExt (i:Nat)(f:En->Option T):En->Option Fl:=fun ε=>match ε[i]? with
 |some (.ow (.lst ts))=>(f ε).bind fun t=>match t with
  | .lst us=>if ts.length+us.length<=big then some (.nx (ε.set i (.ow (.lst (ts++us))))) else none
  |_=>none
 |_=>none
theorem jM0 {i:Nat}{x:Str}{px apos cpos:Pos}(hx:PE X (.Name x px) (tVar i))(he:SE X Y e f)
  (hbase:attributeBase (.Name x px) "extend" X.env (eval (.Name x px) X.env)=eval (.Name x px) X.env:=by rfl)
  (hfew:((backTo cpos (starEach [e] X.env)).all (fun x=> !x.1) && (backToKw cpos (keywordEach [] X.env)).all (fun x=>x.1.isSome)
   && decide (([e]:List Expr).length+([]:List Keyword).length+(if([]:List Keyword).isEmpty then 0 else 1)<30))=true:=by rfl)
  (hline:(apos.endLine==cpos.line)=true:=by rfl) (hs:starEach [e] X.env=[(false,eval e X.env)]:=by rfl) (hsw:swapsWith (.Call (.Attribute (.Name x px) "extend" apos) [e] [] cpos) none pos.line X.env=pure false:=by rfl):
  SS X Y (.Expr (.Call (.Attribute (.Name x px) "extend" apos) [e] [] cpos) pos) (sExt i f):=
 PS.imp (bK0 (fF0 PySem.F.plainAttrs_list PySem.F.slot_list_extend PySem.F.type_list_extend fR0 hx (ap0 he aG0 hs) hbase hfew hline hs rfl) hsw) fun D σ H ⟨F,ε,fl,r,hg,k⟩=>by
  unfold sExt at hg
  split at hg
  ·rename_i ts e1
   obtain⟨a,s1,nf,h0,hr⟩:=r.ow i _ e1
   cases q:f ε with
   |none=>rw [q] at hg; cases hg
   |some t=>
    rw [q] at hg
    simp only [Option.bind_some] at hg
    split at hg
    ·split at hg
     ·rename_i us hb
      cases hg
      obtain⟨xs,ha,rs⟩:=hr.lst_
      ·refine⟨_,s1,.inl ⟨rfl,xs,SqL.of ha⟩,F,ε,_,r,q,fun F1 v H1 m1 r1=> ?_⟩
       obtain⟨c,zs,rfl,hc,rz⟩:=(Rb.v r1).lst_
       refine⟨a,c,xs,zs,rfl,rfl,m1.ext _ _ ha,hc,eL0 (by rw [rs.length,rz.length]; exact hb),?_⟩
       have hne:∀ys,H1 a≠some (.tup ys):=fun ys z=>by rw [m1.ext _ _ ha] at z; cases z
       have kp:Keep F1 H1 F1 (upd H1 a (.lst (xs++zs))):=by
        have nf1:¬F1 a:=fun z=>(m1.new a z).elim nf fun w=>by rw [ha] at w; cases w
        exact⟨fun _ h=>h,fun b u f q=>by rw [ah0 (fun(z:b=a)=>nf1 (z▸f))]; exact q,fun b ys q=>by rw [ah0 (fun(z:b=a)=>hne ys (z▸q))]; exact q⟩
       obtain⟨r2,k2⟩:=(r.mono m1).write (o:=.lst (xs++zs)) (t':=.lst (ts++us)) e1 s1 hne (.lst ai0 (((rs.keep m1.keep).append rz).keep kp))
       exact k F1 σ _ (m1.keep.trans k2) r2
     ·cases hg
    ·cases hg
  ·cases hg
end
end L2.BD
set_option Elab.async false
set_option linter.all false
set_option maxRecDepth 100000
set_option maxHeartbeats 4000000
namespace L2.BD
open PySem PySem.Spec PyProof.Rows
section
variable {X:Cx}{Y:Fx}{e a b:Expr}{es:List Expr}{pos p p2:Pos}{f g:En->Option T}{fa:En->Option (List T)}
def φNeg:T->Option T| .int i=>some (.int (-i))|_=>none
theorem py0 (ha:BE X Y a f):SE X Y (.UnaryOp .USub a pos) (e1 φNeg f):=PE.imp (pe_un pI0 ha) fun σ H Q ⟨F,ε,u,rl,hf,k⟩=>by
 unfold e1 at hf
 cases q:f ε with
 |none=>rw [q] at hf; cases hf
 |some t=>
  rw [q] at hf
  refine⟨F,ε,t,rl,q,fun F1 v H1 m1 r1=> ?_⟩
  unfold φNeg at hf
  simp only [Option.bind_some] at hf
  split at hf
  ·cases hf; exact⟨_,r1.int_,k F1 _ H1 m1 (.int _)⟩
  ·cases hf
def nd0 (K:PySem.W.Frag):R2:=fun x y H Q=>∃a b xs ys,x=.ref a/\y=.ref b/\SqT K H a xs/\SqT K H b ys/\xs=[]/\Q (.ref b) H
theorem op_catT':OpR X (binaryOp .Add) (nd0 X.K):=by
 intro pins s σ H x y v u Q I rx ry h
 obtain⟨a,b,xs,ys,rfl,rfl,ha,hb,hx,q⟩:=h
 cases rx
 cases ry
 obtain⟨its,r1,p1,_⟩:=I.tuple ha
 obtain⟨its2,r2,p2,_⟩:=I.tuple hb
 subst hx
 cases r1
 obtain⟨⟨cls,dd,data,sl⟩,ho,hc,n,hd⟩:=id p1
 obtain⟨⟨cls2,dd2,data2,sl2⟩,ho2,hc2,n2,hd2⟩:=id p2
 cases hc; cases hd; cases hc2; cases hd2
 exact concat_meets ⟨_,ho,rfl⟩ ⟨_,ho2,rfl⟩ noFill_tuple_add seq_tuple_add PySem.F.slot_tuple_add PySem.F.entry_tuple_add (PySem.F.args_tuple_add_2 _ _)
  (tuple_addW0 a b _ _ n n2 dd dd2 sl sl2 rfl) ⟨ho,ho2,⟨.ref b,H,I,rfl,q⟩⟩
def cx0:T->T->Option T| .tup ts,.tup us=>if ts.length+us.length<=big then some (.tup (ts++us)) else none|_,_=>none
theorem oS0 {K:PySem.W.Frag}:Op2 (fun x y H Q=>nd0 K x y H Q\/ rCatT K x y H Q) cx0:=by
 intro F H x y s t u Q tk rx ry h k
 unfold cx0 at h
 split at h
 ·split at h
  ·rename_i hb
   cases h
   obtain⟨a,xs,rfl,ha,r1⟩:=rx.tup_
   obtain⟨b,ys,rfl,hb',r2⟩:=ry.tup_
   cases r1 with
   |nil=>exact .inl ⟨a,b,_,ys,rfl,rfl,SqT.of ha,SqT.of hb',rfl,k F _ H (.refl tk) (.tup hb' r2)⟩
   |cons h1 r1=>
    refine .inr ⟨a,b,_,ys,rfl,rfl,SqT.of ha,SqT.of hb',by simp,eL0 (by have:=r1.length; have:=r2.length; simp at hb ⊢; omega),fun z=> ?_,fun z pp hp=> ?_⟩
    ·subst z
     cases r2
     rw [List.append_nil] at k
     exact k F _ H (.refl tk) (.tup ha (.cons h1 r1))
    ·exact k F _ _ (Mono.laid tk hp) (.tup ai0 (((Rps.cons h1 r1).append r2).laid hp tk))
  ·cases h
 ·cases h
theorem ee0 (ha:BE X Y a f)(hb:BE X Y b g):SE X Y (.BinOp a .Add b pos) (e2 cx0 f g):=it0 (op_catT'.or nz0) oS0 ha hb
def Op2F (r:R2)(φ:T->T->Option T):Prop:=∀F H x y s t u Q,Trk F H->Rb F H x s->Rb F H y t->φ s t=some u->(∀F' a H',Mono F H F' H'->H a=none->¬F' a->Rp1 F' H' a u->Q (.ref a) H')->r x y H Q
theorem oU0 {r:R2}{φ:T->T->Option T}(o:Op2F r φ)(σ:St)(H:Hp)(Q:VK)(h:TrF Y (e2 φ f g) σ H Q):tOp r (TrB Y f) (TrB Y g) σ H Q:=by
 obtain⟨F,ε,u,rl,hf,k⟩:=h
 unfold e2 at hf
 cases q1:f ε with
 |none=>rw [q1] at hf; cases hf
 |some s=>
  rw [q1] at hf
  cases q2:g ε with
  |none=>simp only [Option.bind_some,q2] at hf; cases hf
  |some t=>
   simp only [Option.bind_some,q2] at hf
   refine⟨F,ε,s,rl,q1,fun F1 x H1 m1 r1=>⟨F1,ε,t,rl.mono m1,q2,fun F2 y H2 m2 r2=> ?_⟩⟩
   exact o F2 H2 x y s t u Q m2.trk (r1.keep m2) r2 hf fun F3 c H3 m3 n nf r3=>k F3 c H3 ((m1.trans m2).trans m3) ((m1.trans m2).free n) nf r3
def gn0:T->T->Option T| .lst ts,.lst us=>if ts.length+us.length<=big then some (.lst (ts++us)) else none|_,_=>none
theorem px0:Op2F rCat gn0:=by
 intro F H x y s t u Q tk rx ry h k
 unfold gn0 at h
 split at h
 ·split at h
  ·rename_i hb
   cases h
   obtain⟨a,xs,rfl,ha,r1⟩:=rx.lst_
   obtain⟨b,ys,rfl,hb',r2⟩:=ry.lst_
   exact⟨a,b,xs,ys,rfl,rfl,ha,hb',eL0 (by rw [r1.length,r2.length]; exact hb),fun pp hp=>k F _ _ (Mono.laid tk hp) hp (Trk.new tk hp) (.lst ai0 ((r1.append r2).laid hp tk))⟩
  ·cases h
 ·cases h
theorem kH0 (ha:BE X Y a f)(hb:BE X Y b g):FE X Y (.BinOp a .Add b pos) (e2 gn0 f g):=PE.imp (pe_op pG0 ha hb) (oU0 px0)
theorem sl_tupW:SlR X (fun x lo hi H Q=>∃a xs,x=.ref a/\SqT X.K H a xs/\HT.sIx xs.length 0 lo=0/\HT.sIx xs.length xs.length hi=xs.length/\Q (.ref a) H):=by
 intro pins s σ H x v vl vu lo hi sl Q I rx hs pl pu h
 obtain⟨a,xs,rfl,hx,w1,w2,q⟩:=h
 cases rx
 obtain⟨its,r,ht,hz⟩:=I.tuple hx
 have hlen:its.toArray.size=xs.length:=by rw [List.size_toArray]; exact r.length.symm
 refine⟨"tuple",_,PyProof.Rows.slot_tuple_getitem.lookup,ht.typeIs,?_⟩
 obtain⟨os,hos,hcs,hds⟩:=id hs
 have hTs:s.TypeIs (.ref sl) "slice" :=⟨os,hos,hcs⟩
 unfold getItem
 try with_reducible refine wpAny_holding ?_
 first|refine wpAny_bind (wpAny_pure ?_)|skip
 refine wpAny_bind (wpAny_sequenceKey ht.typeIs (by decide) ?_)
 refine wpAny_bind (wpAny_callSpecial?_slot (name:=Str.ofString "__getitem__") ht.typeIs PyProof.Rows.slot_tuple_getitem (wpAny_call_entry PyProof.Rows.slot_tuple_getitem ht.typeIs entry_tuple_getitem ?_ (args_tuple_getitem _ _)))
 show wpAny _ _ (Builtin.Tuple.tupleItemsOf (.ref a)>>=_) _ _ s
 refine wpAny_bind (tupleItemsOf_ ht (wpAny_bind (wpAny_typeOf hTs ?_)))
 rw [if_pos (by decide)]
 refine wpAny_bind (HT.sliceApplied_gen hs pl pu ?_)
 show wpAny _ _ (if(((HT.sIx its.toArray.size 0 lo:Nat):Int)==0 && (1:Int)==1 && (HT.sIx its.toArray.size its.toArray.size hi - HT.sIx its.toArray.size 0 lo)==its.toArray.size)=true then _ else _) _ _ s
 rw [hlen,w1,w2,if_pos (by simp)]
 have fin:EP X pins σ Q (.ref a) s:=⟨.ref a,H,I,rfl,q⟩
 unfold Builtin.Tuple.tupleIsExact
 first
  |exact wpAny_bind (wpAny_bind (wpAny_typeOf ht.typeIs (wpAny_pure (by rw [if_pos (by decide)]; exact wpAny_bind (wpAny_rule (wpAny_bind (wpAny_pure (wpAny_pure ⟨_,rfl,wpAny_pure fin⟩))))))))
  |exact wpAny_bind (wpAny_bind (wpAny_typeOf ht.typeIs (wpAny_pure (by rw [if_pos (by decide)]; exact wpAny_bind (wpAny_rule (wpAny_pure ⟨_,rfl,wpAny_pure fin⟩))))))
  |exact wpAny_bind (wpAny_bind (wpAny_typeOf ht.typeIs (wpAny_pure (by rw [if_pos (by decide)]; exact wpAny_bind (wpAny_rule (wpAny_bind (wpAny_pure ⟨_,rfl,wpAny_pure fin⟩)))))))
def ba0 (f:Option (En->Option T)):En->Option (Option Int):=fun ε=>match f with
 |none=>some none
 |some f=>match f ε with|some (.int i)=>some (some i)|_=>none
def TrO (Y:Fx)(f:En->Option (Option Int)):TO:=fun σ H Q=>∃F ε o,Rel Y F ε σ H/\f ε=some o/\∀F' H',Mono F H F' H'->Q o H'
theorem da0:PO X none (TrO Y (ba0 none)):=fun pins s σ H Q I ⟨F,ε,o,r,hf,k⟩=>by
 cases hf
 exact nN0 pins s σ H Q I (k F H r.refl)
theorem cY0 (h:BE X Y e f):PO X (some e) (TrO Y (ba0 (some f))):=fun pins s σ H Q I ⟨F,ε,o,r,hf,k⟩=>by
 refine nt0 h pins s σ H Q I ?_
 have hf:(match f ε with|some (.int i)=>some (some i)|_=>none)=some o:=hf
 split at hf
 ·cases hf
  exact⟨F,ε,_,r,by assumption,fun F1 v H1 m1 r1=>⟨_,r1.int_,k F1 H1 m1⟩⟩
 ·cases hf
def cutT (ts:List T)(lo hi:Option Int):List T:=(ts.drop (HT.sIx ts.length 0 lo)).take (HT.sIx ts.length ts.length hi - HT.sIx ts.length 0 lo)
def eSlT (f:En->Option T)(lo hi:En->Option (Option Int)):En->Option T:=fun ε=>match f ε with
 |some (.tup ts)=>(lo ε).bind fun l=>(hi ε).bind fun h=>some (.tup (cutT ts l h))
 |_=>none
def eSlL (f:En->Option T)(lo hi:En->Option (Option Int)):En->Option T:=fun ε=>match f ε with
 |some (.lst ts)=>(lo ε).bind fun l=>(hi ε).bind fun h=>some (.lst (cutT ts l h))
 |_=>none
theorem Rps.cut {F:Addr->Prop}{H:Hp}{xs:List V}{ts:List T}(r:Rps F H xs ts)(lo hi:Option Int):Rps F H (cutV xs lo hi) (cutT ts lo hi):=by
 unfold cutV cutT
 rw [r.length]
 exact(r.drop _).take _
variable {lo hi:Option Expr}{fl fh:En->Option (Option Int)}
theorem gY0 (ha:BE X Y a f)(hl:PO X lo (TrO Y fl))(hh:PO X hi (TrO Y fh)):SE X Y (.Subscript a (.Slice lo hi none p2) pos) (eSlT f fl fh):=PE.imp (gM0 (sl_tupW.or pn0) ha hl hh) fun σ H Q ⟨F,ε,u,rl,hf,k⟩=>by
 unfold eSlT at hf
 split at hf
 ·rename_i ts qf
  cases q1:fl ε with
  |none=>rw [q1] at hf; cases hf
  |some l=>
   cases q2:fh ε with
   |none=>rw [q1] at hf; simp only [Option.bind_some,q2] at hf; cases hf
   |some h=>
    rw [q1] at hf
    simp only [Option.bind_some,q2] at hf
    cases hf
    refine⟨F,ε,_,rl,qf,fun F1 v H1 m1 r1=>⟨F1,ε,l,rl.mono m1,q1,fun F2 H2 m2=>⟨F2,ε,h,rl.mono (m1.trans m2),q2,fun F3 H3 m3=> ?_⟩⟩⟩
    obtain⟨c,xs,rfl,hc,rs⟩:=(r1.keep (m2.trans m3)).tup_
    have m13:Mono F H F3 H3:=(m1.trans m2).trans m3
    by_cases hw:HT.sIx xs.length 0 l=0/\HT.sIx xs.length xs.length h=xs.length
    ·refine .inl ⟨c,xs,rfl,SqT.of hc,hw.1,hw.2,k F3 _ H3 m13 ?_⟩
     have e:cutT ts l h=ts:=by
      unfold cutT
      rw [<- rs.length,hw.1,hw.2,List.drop_zero,Nat.sub_zero,rs.length,List.take_length]
     rw [e]
     exact .tup hc rs
    ·exact .inr ⟨c,xs,rfl,SqT.of hc,hw,fun pp hp=>k F3 _ _ (m13.trans (Mono.laid m3.trk hp)) (.tup ai0 ((rs.cut l h).laid hp m3.trk))⟩
 ·cases hf
theorem le0 (ha:BE X Y a f)(hl:PO X lo (TrO Y fl))(hh:PO X hi (TrO Y fh)):FE X Y (.Subscript a (.Slice lo hi none p2) pos) (eSlL f fl fh):=PE.imp (gM0 ot0 ha hl hh) fun σ H Q ⟨F,ε,u,rl,hf,k⟩=>by
 unfold eSlL at hf
 split at hf
 ·rename_i ts qf
  cases q1:fl ε with
  |none=>rw [q1] at hf; cases hf
  |some l=>
   cases q2:fh ε with
   |none=>rw [q1] at hf; simp only [Option.bind_some,q2] at hf; cases hf
   |some h=>
    rw [q1] at hf
    simp only [Option.bind_some,q2] at hf
    cases hf
    refine⟨F,ε,_,rl,qf,fun F1 v H1 m1 r1=>⟨F1,ε,l,rl.mono m1,q1,fun F2 H2 m2=>⟨F2,ε,h,rl.mono (m1.trans m2),q2,fun F3 H3 m3=> ?_⟩⟩⟩
    obtain⟨c,xs,rfl,hc,rs⟩:=(r1.keep (m2.trans m3)).lst_
    have m13:Mono F H F3 H3:=(m1.trans m2).trans m3
    exact⟨c,xs,rfl,SqL.of hc,fun pp hp=>k F3 _ _ (m13.trans (Mono.laid m3.trk hp)) (m13.free hp) (Trk.new m3.trk hp) (.lst ai0 ((rs.cut l h).laid hp m3.trk))⟩
 ·cases hf
def idxT (ts:List T)(s:T):Option Nat:=ts.findIdx? fun y=>eqV (toV y) (toV s)
def cD0 (o:T)(xs:List T):Option T:=match o,xs with
 | .lst ts,[s]=>if aV0 s && ts.all aV0 && decide (ts.length<=big) then(idxT ts s).map fun(j:Nat)=> .int (j:Int) else none
 |_,_=>none
def de0 (o:T)(xs:List T):Option T:=match o,xs with
 | .lst ts,[s]=>if aV0 s && ts.all aV0 then some (.int ((ts.countP fun y=>eqV (toV y) (toV s):Nat):Int)) else none
 |_,_=>none
def cZ0 (o:T)(xs:List T):Option T:=match o,xs with
 | .tup ts,[s]=>if aV0 s && ts.all aV0 then some (.int ((ts.countP fun y=>eqV (toV y) (toV s):Nat):Int)) else none
 |_,_=>none
theorem es0 {x:V}:∀{xs:List V} {us:List Value},Vals xs us->xs.all bL0=true->us.countP (eqU x)=xs.countP fun y=>eqV y x
 |_,_,.nil,_=>rfl
 |y::xs,u::us,.cons r t,f=>by
  rw [List.all_cons,Bool.and_eq_true] at f
  rw [List.countP_cons,List.countP_cons,hx0 r f.1,es0 t f.2]
theorem ep0 {x:V}:∀{xs:List V} {us:List Value},Vals xs us->xs.all bL0=true->us.findIdx? (eqU x)=xs.findIdx? fun y=>eqV y x
 |_,_,.nil,_=>rfl
 |y::xs,u::us,.cons r t,f=>by
  rw [List.all_cons,Bool.and_eq_true] at f
  rw [List.findIdx?_cons,List.findIdx?_cons,hx0 r f.1,ep0 t f.2]
theorem mo0:MtR X "list.index" (fun x vs H Q=>∃(l:Addr) (xs:List V) (y:V) (j:Nat),x=.ref l/\vs=[y]/\SqL X.K H l xs/\bL0 y=true/\xs.all bL0=true/\xs.length<=big/\(xs.findIdx? fun z=>eqV z y)=some j/\Q (.int (j:Int)) H):=by
 intro pins s σ H x vs v us Q I rx rv h
 obtain⟨l,xs,y,j,rfl,rfl,hl,fy,fs,hz,hj,q⟩:=h
 cases rx
 obtain⟨u,rfl,ru⟩:=rv.one
 obtain⟨its,r,pl,_⟩:=I.list hl
 rw [<- ep0 r fs] at hj
 obtain⟨hlt,hit,hno⟩:=List.findIdx?_eq_some_iff_getElem.mp hj
 obtain⟨⟨cls,dd,data,sl⟩,n,ho,hc,hdd,hd⟩:=pl
 cases hc; cases hd; cases hdd
 have hlen:=r.length
 refine call_meets PySem.F.slot_list_index ⟨_,ho,rfl⟩ PySem.F.entry_list_index (PySem.F.args_list_index_2 _ _) (SeqAt.list_indexAt l its.toArray n none sl u (eqU y) j (by simpa using hlt) ?_ (by simpa using hit) fun m hm hmj=> ?_) ⟨ho,fun z hz=>cc0 ru fy r fs z (by simpa using hz),?_⟩
 ·have:j<1000000:=Nat.lt_of_lt_of_le hlt (by rw [<- hlen]; exact hz)
  omega
 ·simpa using hno m hmj
 ·exact⟨.int j,H,I.tok _,⟨_,rfl⟩,q⟩
theorem ml0:MtR X "list.count" (fun x vs H Q=>∃(l:Addr) (xs:List V) (y:V),x=.ref l/\vs=[y]/\SqL X.K H l xs/\bL0 y=true/\xs.all bL0=true/\Q (.int ((xs.countP fun z=>eqV z y:Nat):Int)) H):=by
 intro pins s σ H x vs v us Q I rx rv h
 obtain⟨l,xs,y,rfl,rfl,hl,fy,fs,q⟩:=h
 cases rx
 obtain⟨u,rfl,ru⟩:=rv.one
 obtain⟨its,r,pl,_⟩:=I.list hl
 obtain⟨⟨cls,dd,data,sl⟩,n,ho,hc,hdd,hd⟩:=pl
 cases hc; cases hd; cases hdd
 refine call_meets PySem.F.slot_list_count ⟨_,ho,rfl⟩ PySem.F.entry_list_count (PySem.F.args_list_count_2 _ _) (SeqAt.list_countAt l its.toArray n none sl u (eqU y)) ⟨ho,fun z hz=>cc0 ru fy r fs z (by simpa using hz),?_⟩
 refine⟨.int _,H,I.tok _,⟨_,rfl⟩,?_⟩
 rw [show its.toArray.toList=its by simp,es0 r fs]
 exact q
theorem lt0:MtR X "tuple.count" (fun x vs H Q=>∃(l:Addr) (xs:List V) (y:V),x=.ref l/\vs=[y]/\SqT X.K H l xs/\bL0 y=true/\xs.all bL0=true/\Q (.int ((xs.countP fun z=>eqV z y:Nat):Int)) H):=by
 intro pins s σ H x vs v us Q I rx rv h
 obtain⟨l,xs,y,rfl,rfl,hl,fy,fs,q⟩:=h
 cases rx
 obtain⟨u,rfl,ru⟩:=rv.one
 obtain⟨its,r,pl,_⟩:=I.tuple hl
 obtain⟨⟨cls,dd,data,sl⟩,ho,hc,n,hd⟩:=pl
 cases hc; cases hd
 refine call_meets PySem.F.slot_tuple_count ⟨_,ho,rfl⟩ PySem.F.entry_tuple_count (PySem.F.args_tuple_count_2 _ _) (SeqAt.tuple_countAt l its.toArray n dd sl u (eqU y)) ⟨ho,fun z hz=>cc0 ru fy r fs z (by simpa using hz),?_⟩
 refine⟨.int _,H,I.tok _,⟨_,rfl⟩,?_⟩
 rw [show its.toArray.toList=its by simp,es0 r fs]
 exact q
end
end L2.BD
set_option Elab.async false
set_option linter.all false
set_option maxRecDepth 100000
set_option maxHeartbeats 4000000
namespace L2
open PySem PySem.Spec PyProof.Rows
theorem kV_of {P:Program}{w:World}{k:Key}{u:Value}(h:(aN0 P w).is k u=true):RelV (kV k) u:=by
 rcases aQ0 (k:=k) (v:=u) h with⟨i,t,rfl,rfl⟩|⟨x,t,rfl,rfl⟩
 ·exact⟨t,rfl⟩
 ·exact⟨t,rfl⟩
theorem bR0 {X:Cx}{pins:List (Addr × Obj)}{σ:St}{H:Hp}{s:Shared}{a:Addr}{ob:Obj}{kvs:List (Key × V)}{es:Array DictEntry}{ep:Nat}(I:Inv X pins σ H s)(h:H a=some (.frz ob (.dK kvs)))(hd:ob.data=.dict es ep):
  s.heap.get? a=some ob/\(a==sysModules)=false/\ob.dict=none/\∃vs,KV kvs vs/\s.heap.DictAt (aN0 X.prog X.w) a vs ep:=by
 obtain⟨h1,_,h2,vs,r,o,es',ep',h3,h4,h5,h6⟩:=(show ObjOk X.prog X.w H s.heap a (.frz ob (.dK kvs)) from I.hok a _ h)
 rw [h1] at h3
 cases h3
 rw [hd] at h5
 cases h5
 exact⟨h1,h2,h4.2.1,vs,r,ob,es,h1,h4,hd,h6⟩
def Itk (a:Addr)(ob:Obj)(kvs:List (Key × V)):It:=
 ⟨fun i H=>H a=some (.frz ob (.dK kvs))/\i<kvs.length,fun i H x H'=>H'=H/\∃k v,kvs[i]?=some (k,v)/\x=kV k,fun i H=>H a=some (.frz ob (.dK kvs))/\kvs.length<=i⟩
def Itp (a:Addr)(ob:Obj)(kvs:List (Key × V)):It:=
 ⟨fun i H=>H a=some (.frz ob (.dK kvs))/\i<kvs.length,fun i H x H'=>∃p k v,H p=none/\kvs[i]?=some (k,v)/\x=.ref p/\H'=upd H p (.tup [kV k,v]),fun i H=>H a=some (.frz ob (.dK kvs))/\kvs.length<=i⟩
theorem KV.at {κ:Type}:∀{kvs:List (κ × V)} {vs:List (κ × Value)} {i:Nat} {k:κ} {v:V},KV kvs vs->kvs[i]?=some (k,v)->∃u,vs[i]?=some (k,u)/\RelV v u
 |_,_,_,_,_,.nil,e=>by simp at e
 |_,_,0,k,v,.cons (b:=b) h _,e=>by
  simp at e
  subst e
  obtain⟨b1,b2⟩:=b
  obtain⟨rfl,h2⟩:=h
  exact⟨b2,rfl,h2⟩
 |_,_,i+1,k,v,.cons _ t,e=>by
  obtain⟨u,h1,h2⟩:=KV.at (i:=i) (k:=k) (v:=v) t (by simpa using e)
  exact⟨u,by simpa using h1,h2⟩
theorem ls0 {P:Program}{w:World}{K:PySem.W.Frag}{tg:Expr}(a it:Addr){ob:Obj}{kvs:List (Key × V)}{es:Array DictEntry}{ep:Nat}(hd:ob.data=.dict es ep):
  Turn P w K tg (Itk a ob kvs) [it] it (fun i h=>h.IsKeyIter it a i kvs.length ep) where
 mem:=by simp
 obj:=fun i h st b hb=>by
  have e:b=it:=by simpa using hb
  subst e
  obtain⟨o,e,c,d⟩:=st
  exact⟨o,e,fun v z=>by rw [d] at z; cases z⟩
 keep:=fun i h h' st k=>by
  obtain⟨o,e,c⟩:=st
  exact⟨o,k it (by simp) o e,c⟩
 item:=by
  intro X hP hw hK hc i pins s σ H E I hf st hg
  subst hP hw hK
  obtain⟨hH,hi⟩:=hg
  obtain⟨_,_,_,vs,rv,da⟩:=bR0 I hH hd
  obtain⟨k,v,hkv⟩:∃k v,kvs[i]?=some (k,v):=⟨_,_,by rw [List.getElem?_eq_getElem hi]⟩
  obtain⟨u,hu,_⟩:=rv.at hkv
  have hlen:kvs.length=vs.length:=rv.length
  rw [hlen] at st
  obtain⟨f0,f1,f2,f3,f4,f5⟩:=hf it (by simp)
  refine wpAny_pyNext_dict_item st da hu fun key h' hk st' sb=> ?_
  have I1:Inv X pins σ H {s with heap:=h'}:=I.turned (t':=s.toks) (fun b o hb e=>(sb.2 b hb).trans e) f0 f1 f3 f4 f5
  obtain⟨o,e,c,d⟩:=id st'
  exact⟨key,rfl,iL0 (s:={s with heap:=h'}) e c d (by decide) ⟨kV k,H,I1,kV_of hk,⟨rfl,k,v,hkv,rfl⟩,by rw [hlen]; exact st',fun b hb=>(hf b hb).1⟩⟩
 done:=by
  intro X hP hw hK hc i pins s σ H E I hf st hg
  subst hP hw hK
  obtain⟨hH,hi⟩:=hg
  obtain⟨_,_,_,vs,rv,da⟩:=bR0 I hH hd
  have hlen:kvs.length=vs.length:=rv.length
  rw [hlen] at st
  obtain⟨f0,f1,f2,f3,f4,f5⟩:=hf it (by simp)
  exact wpAny_pyNext_dict_end (I.ok.hd hc) st da (List.getElem?_eq_none (by rw [<- hlen]; exact hi)) fun h' eb=>⟨rfl,I.turned (t':=s.toks) (fun b o hb e=>eb b o hb e) f0 f1 f3 f4 f5⟩
 self:=fun A i s Q E st h=>by
  obtain⟨o,ho,hc,hd⟩:=id st
  exact wpAny_pyIter_keyiter st h
theorem Inv.turnedLaid {X:Cx}{pins:List (Addr × Obj)}{σ:St}{H:Hp}{s:Shared}{h':Heap}{t':Nat}{it:List Addr}{a:Addr}{o:HO}(I:Inv X pins σ H s)(k:∀b o,b∉it->s.heap.get? b=some o->h'.get? b=some o)
  (hi:∀b∈it,H b=none/\b≠X.env.locals/\(b∈X.ex\/ X.s₀.heap.objs.size<=b)/\(∀x c,X.env.cells.lookup x=some c->c≠b)/\∀p∈X.pn++pins,p.1≠b)
  (hp:s.heap.objs.size<=a) (new:ObjOk X.prog X.w (upd H a o) h' a o):Inv X pins σ (upd H a o) {s with heap:=h',toks:=t'}:=by
 have hn:H a=none:=I.hok.fresh hp
 have nit:∀b u,H b=some u->b∉it:=fun b u e z=>by rw [(hi b z).1] at e; cases e
 refine I.step (g':=s.gens) (d':=s.drawn) (ch:=it) (fun b hb=>(hi b hb).2.elim fun q1 q=>⟨q.1,q1,q.2.1,q.2.2⟩) (fun b o _ _ hc e _=>k b o hc e) (fun b o _ _ hc e _=>⟨o.slots,k b o hc e⟩) (fun b o hc e n=> ?_)
  (fun b o hc e=>⟨o,k b o hc e⟩) (fun b xs e=>by rw [ah0 (am0 e hn)]; exact e) (fun b o u e=>by rw [ah0 (am0 e hn)]; exact e) (fun b ps e=>⟨#[],by rw [ah0 (am0 e hn),e]; simp⟩) (fun m hm=> ?_) (fun b u e=> ?_) I.bare
 ·rw [ah0 (Nat.ne_of_lt (Nat.lt_of_lt_of_le (Heap.lt_size e) hp))]; exact n
 ·obtain⟨o,es,ep,ho,r⟩:=hm
  exact⟨o,es,ep,k _ o (fun z=>(hi _ z).2.1 rfl) ho,r⟩
 ·by_cases hb:b=a
  ·subst hb; rw [ai0] at e; cases e; exact new
  ·rw [ah0 hb] at e
   refine(I.hok b u e).stay (fun c v hc q=>k c v ?_ q) (fun c q=>by rw [ah0 (am0 q hn)]; exact q) fun c xs q=>by rw [ah0 (am0 q hn)]; exact q
   rcases hc with z|z
   ·rw [z]; exact nit b u e
   ·exact nit c _ z
theorem dd0:entryFor table "dict_itemiterator.__iter__" =some Builtin.«dict_keyiterator.__iter__»:=
 entryFor_alias (id':= "dict_keyiterator.__iter__") (by kernel_rfl) (by first|rfl|decide +kernel) (by decide +kernel) (by kernel_rfl)
theorem ii0 {P:Program}{w:World}{K:PySem.W.Frag}{elts:List Expr}{x1:Nat}{tp:Pos}(a it:Addr){ob:Obj}{kvs:List (Key × V)}{es:Array DictEntry}{ep:Nat}(hd:ob.data=.dict es ep):
  Turn P w K (.Tuple elts x1 tp) (Itp a ob kvs) [it] it (fun i h=>∃ok ov,IsItemIter h it a i kvs.length ep ok ov) where
 mem:=by simp
 obj:=fun i h st b hb=>by
  have e:b=it:=by simpa using hb
  subst e
  obtain⟨ok,ov,st⟩:=st
  exact⟨_,st,fun v z=>by
   have z':Data.fields _=Data.cell v:=z
   cases z'⟩
 keep:=fun i h h' ⟨ok,ov,st⟩ k=>⟨ok,ov,k it (by simp) _ st⟩
 item:=by
  intro X hP hw hK hc i pins s σ H E I hf st hg
  subst hP hw hK
  obtain⟨hH,hi⟩:=hg
  obtain⟨ok,ov,st⟩:=st
  obtain⟨_,_,_,vs,rv,da⟩:=bR0 I hH hd
  obtain⟨k,v,hkv⟩:∃k v,kvs[i]?=some (k,v):=⟨_,_,by rw [List.getElem?_eq_getElem hi]⟩
  obtain⟨u,hu,ru⟩:=rv.at hkv
  have hlen:kvs.length=vs.length:=rv.length
  rw [hlen] at st
  obtain⟨f0,f1,f2,f3,f4,f5⟩:=hf it (by simp)
  refine wpAny_pyNext_items_item st da hu fun key h' hk st' ht hsz kk=>⟨_,rfl,?_⟩
  refine wpAny_letOwnedTupleGo_items st' fun h'' st'' sb=> ?_
  have hit:it<s.heap.objs.size:=Heap.lt_size st
  have hn:H s.heap.objs.size=none:=I.hok.fresh (Nat.le_refl _)
  have ht2:h''.get? s.heap.objs.size=some {cls:=.type "tuple",data:=.seq #[key,u]}:=(sb.2 _ (Nat.ne_of_gt hit)).trans ht
  have I2:Inv X pins σ (upd H s.heap.objs.size (.tup [kV k,v])) {s with heap:=h''}:=by
   refine I.turnedLaid (t':=s.toks) (it:=[it]) (fun b o hb e=>(sb.2 b (by simpa using hb)).trans (kk b o (by simpa using hb) e)) (fun b hb=> ?_) (Nat.le_refl _) ?_
   ·have e:b=it:=by simpa using hb
    rw [e]
    exact⟨f0,f1,f3,f4,f5⟩
   ·exact⟨by simp only [List.length_cons,List.length_nil]; rw [sizeLine_eq]; decide,[key,u],.cons (kV_of hk) (.cons ru .nil),⟨_,ht2,rfl,0,rfl⟩,_,ht2,rfl⟩
  exact⟨.ref s.heap.objs.size,_,I2,rfl,⟨_,k,v,hn,hkv,rfl,rfl⟩,⟨_,_,by rw [hlen]; exact st''⟩,fun b hb=>by
   have e:b=it:=by simpa using hb
   rw [e,ah0 (Nat.ne_of_lt hit)]
   exact f0⟩
 done:=by
  intro X hP hw hK hc i pins s σ H E I hf st hg
  subst hP hw hK
  obtain⟨hH,hi⟩:=hg
  obtain⟨ok,ov,st⟩:=st
  obtain⟨_,_,_,vs,rv,da⟩:=bR0 I hH hd
  have hlen:kvs.length=vs.length:=rv.length
  rw [hlen] at st
  obtain⟨f0,f1,f2,f3,f4,f5⟩:=hf it (by simp)
  exact wpAny_pyNext_items_end (I.ok.hd hc) st da (List.getElem?_eq_none (by rw [<- hlen]; exact hi)) fun h' eb=>⟨rfl,I.turned (t':=s.toks) (fun b o hb e=>eb b o hb e) f0 f1 f3 f4 f5⟩
 self:=fun A i s Q E ⟨ok,ov,st⟩ h=>by
  have hT:s.TypeIs (.ref it) "dict_itemiterator" :=⟨_,st,rfl⟩
  refine wpAny_pyIter_slot hT F.slot_dict_itemiterator_iter (wpAny_call_entry F.slot_dict_itemiterator_iter hT dd0 ?_ (F.args_dict_itemiterator_iter_1 _))
  show wpAny _ _ (ret (.ref it)) _ _ s
  exact wpAny_pure ⟨_,rfl,_,_,hT,F.slot_dict_itemiterator_next.lookup,h⟩
section
variable {X:Cx}{tg:Expr}
def iKeys (tl:TE):TI:=fun σ H R=>tl σ H fun x H1=>∃a ob kvs,x=.ref a/\H1 a=some (.frz ob (.dK kvs))/\R (Itk a ob kvs) H1
theorem nJ0 {l:Expr}{tl:TE}(hl:PE X l tl):PI X tg l (iKeys tl):=by
 intro pins s σ H R I h
 refine thn (hl pins s σ H _ I h) fun v s1 ⟨x,H1,I1,r1,a,ob,kvs,e,ha,q⟩=> ?_
 subst e
 cases r1
 have ok:ObjOk X.prog X.w H1 s1.heap a (.frz ob (.dK kvs)):=I1.hok a _ ha
 obtain⟨h1,_,h2,vs,rv,o,es,ep,h3,h4,h5,_⟩:=ok
 rw [h1] at h3
 cases h3
 obtain⟨_,_,_,vs,rv,da⟩:=bR0 I1 ha h5
 refine wpAny_pyIter_dict h2 da ?_
 refine⟨s1.heap.objs.size,[s1.heap.objs.size],_,_,H1,rfl,I1.kept (t':=s1.toks) fun b o e=>Heap.get?_push_of_some _ e,ls0 a _ h5,⟨_,Heap.get?_push_size _ rfl,rfl,by rw [rv.length]; rfl⟩,fun b hb=> ?_,q⟩
 have e:b=s1.heap.objs.size:=by simpa using hb
 subst e
 exact I1.fpOk (Nat.le_refl _) (I1.hok.fresh (Nat.le_refl _))
def pq0 (tl:TE):TI:=fun σ H R=>tl σ H fun x H1=>∃a ob kvs,x=.ref a/\H1 a=some (.frz ob (.dK kvs))/\R (Itp a ob kvs) H1
theorem mD0 {l:Expr}{tl:TE}{elts:List Expr}{x1:Nat}{tp apos pos:Pos}(hl:PE X l tl)(hbase:attributeBase l "items" X.env (eval l X.env)=eval l X.env:=by rfl) (hline:(apos.endLine==pos.line)=true:=by rfl):
  PI X (.Tuple elts x1 tp) (.Call (.Attribute l "items" apos) [] [] pos) (pq0 tl):=by
 intro pins s σ H R I h
 refine wpAny_Call_method0_late hbase hline (thn (hl pins s σ H _ I h) fun v s1 ⟨x,H1,I1,r1,a,ob,kvs,e,ha,q⟩=> ?_)
 subst e
 cases r1
 have ok:ObjOk X.prog X.w H1 s1.heap a (.frz ob (.dK kvs)):=I1.hok a _ ha
 obtain⟨h1,_,h2,vs,rv,o,es,ep,h3,h4,h5,_⟩:=ok
 rw [h1] at h3
 cases h3
 obtain⟨_,_,hdn,vs,rv,da⟩:=bR0 I1 ha h5
 refine⟨"dict", "dict.items",F.plainAttrs_dict,F.slot_dict_items,F.type_dict_items,da.dictOf.typeIs,fun b e=> ?_,Calls.callWith_builtin rfl (PySem.evalArgs_none ?_)⟩
 ·cases e
  exact⟨ob,h1,hdn⟩
 refine call_meetsIn F.slot_dict_items da.dictOf.typeIs F.entry_dict_items (F.args_dict_items_1 _) (meets_dict_items (aN0 X.prog X.w) a h2) ⟨⟨vs,da.dictOf⟩,?_⟩
 have I2:Inv X pins σ H1 {s1 with heap:=s1.heap.push {cls:=.type "dict_items",data:=.fields #[.ref a]}}:=I1.kept (t':=s1.toks) fun b o e=>Heap.get?_push_of_some _ e
 refine wpAny_pyIter_items (v:=s1.heap.objs.size) (d:=a) ⟨_,Heap.get?_push_size _ rfl,rfl,rfl⟩ (da.push _) ?_
 refine⟨_,[_],_,_,H1,rfl,I2.kept (t':=s1.toks) fun b o e=>Heap.get?_push_of_some _ e,ii0 a _ h5,⟨.none,.none,by rw [rv.length]; exact Heap.get?_push_size _ rfl⟩,fun b hb=> ?_,q⟩
 have e:b=(s1.heap.push {cls:=.type "dict_items",data:=.fields #[.ref a]}).objs.size:=by simpa using hb
 subst e
 exact I2.fpOk (Nat.le_refl _) (I2.hok.fresh (Nat.le_refl _))
end
end L2
namespace L2.BD
open PySem PySem.Spec PyProof.Rows
theorem Rpk.at {F:Addr->Prop}{H:Hp}:∀{kvs:List (Key × V)} {kts:List (Str × T)} {i:Nat} {k:Str} {t:T},Rpk F H kvs kts->kts[i]?=some (k,t)->∃v,kvs[i]?=some (Sum.inr k,v)/\Rp F H v t
 |_,_,_,_,_,.nil,e=>by simp at e
 |_,_,0,k,t,.cons h _,e=>by simp at e; obtain⟨rfl,rfl⟩:=e; exact⟨_,rfl,h⟩
 |_,_,i+1,k,t,.cons _ r,e=>by
  obtain⟨v,h1,h2⟩:=Rpk.at (i:=i) (k:=k) (t:=t) r (by simpa using e)
  exact⟨v,by simpa using h1,h2⟩
section
variable {X:Cx}{Y:Fx}{tg e a b o:Expr}{es:List Expr}{pos p apos cpos:Pos}{f g h:En->Option T}{fa:En->Option (List T)}
def iKey (f:En->Option T):En->Option (List T):=fun ε=>match f ε with|some (.dct kts)=>some (kts.map fun kt=>T.str kt.1)|_=>none
theorem nl0 (hl:SE X Y e f):SI X Y tg e (iKey f):=PI.imp (nJ0 hl) fun σ H R ⟨F,ε,ts,r,hf,k⟩=>by
 unfold iKey at hf
 split at hf
 ·rename_i kts qf
  cases hf
  refine⟨F,ε,_,r,qf,fun F1 v H1 m1 r1=> ?_⟩
  cases r1 with
  | @dct a ob kvs _ fa' ha rs=>
   refine⟨a,ob,kvs,rfl,ha,k F1 H1 _ m1 fun i F2 H2 kp tk=>⟨fun t e=> ?_,fun e=>⟨kp.frz a _ fa' ha,by rw [rs.length,e,List.length_map]; exact Nat.le_refl _⟩⟩⟩
   rw [List.getElem?_map] at e
   cases q:kts[i]? with
   |none=>rw [q] at e; cases e
   |some kt=>
    rw [q] at e
    cases e
    obtain⟨k0,t0⟩:=kt
    obtain⟨v,hv,_⟩:=rs.at q
    exact⟨⟨kp.frz a _ fa' ha,(List.getElem?_eq_some_iff.mp hv).1⟩,fun x H' ⟨e1,k1,v1,e2,e3⟩=>by
     subst e1 e3
     rw [hv] at e2
     cases e2
     exact⟨F2,.refl tk,.str _⟩⟩
 ·cases hf
def fW0 (f:En->Option T):En->Option (List T):=fun ε=>match f ε with|some (.dct kts)=>some (kts.map fun kt=>T.tup [.str kt.1,kt.2])|_=>none
theorem gU0 {elts:List Expr}{x1:Nat}{tp:Pos}(hl:SE X Y e f)(hbase:attributeBase e "items" X.env (eval e X.env)=eval e X.env:=by rfl) (hline:(apos.endLine==pos.line)=true:=by rfl):
  SI X Y (.Tuple elts x1 tp) (.Call (.Attribute e "items" apos) [] [] pos) (fW0 f):=PI.imp (mD0 hl hbase hline) fun σ H R ⟨F,ε,ts,r,hf,k⟩=>by
 unfold fW0 at hf
 split at hf
 ·rename_i kts qf
  cases hf
  refine⟨F,ε,_,r,qf,fun F1 v H1 m1 r1=> ?_⟩
  cases r1 with
  | @dct a ob kvs _ fa' ha rs=>
   refine⟨a,ob,kvs,rfl,ha,k F1 H1 _ m1 fun i F2 H2 kp tk=>⟨fun t e=> ?_,fun e=>⟨kp.frz a _ fa' ha,by rw [rs.length,e,List.length_map]; exact Nat.le_refl _⟩⟩⟩
   rw [List.getElem?_map] at e
   cases q:kts[i]? with
   |none=>rw [q] at e; cases e
   |some kt=>
    rw [q] at e
    cases e
    obtain⟨k0,t0⟩:=kt
    obtain⟨v,hv,rv⟩:=rs.at q
    exact⟨⟨kp.frz a _ fa' ha,(List.getElem?_eq_some_iff.mp hv).1⟩,fun x H' ⟨pp,k1,v1,hp,e2,e3,e4⟩=>by
     subst e3 e4
     rw [hv] at e2
     cases e2
     exact⟨F2,Mono.laid tk hp,.tup ai0 (.cons (.str _) (.cons (((rv.keep kp)).keep (Mono.laid tk hp).keep) .nil))⟩⟩
 ·cases hf
theorem Rpk.val {F:Addr->Prop}{H:Hp}{k:Str}:∀{kvs:List (Key × V)} {kts:List (Str × T)} {t:T},Rpk F H kvs kts->kts.lookup k=some t->∃v,valV kvs (Sum.inr k:Key)=some v/\Rp F H v t
 |_,_,_,.nil,e=>by simp at e
 |_,_,t,.cons (k:=k0) h r,e=>by
  rw [List.lookup_cons] at e
  by_cases hk:k0=k
  ·rw [hk,beq_self_eq_true] at e
   cases e
   exact⟨_,bo0 (by rw [hk]),h⟩
  ·have hb:(k==k0)=false:=by simpa using fun z=>hk z.symm
   rw [hb] at e
   obtain⟨v,h1,h2⟩:=Rpk.val r e
   exact⟨v,(bk0 (fun z=>hk (Sum.inr.inj z))).trans h1,h2⟩
def gv0:T->T->Option T| .dct kts,.str k=>kts.lookup k|_,_=>none
theorem jT0 (hu:X.A.units+4<cLine)(ha:BE X Y a f)(hb:BE X Y b g)(hs:NoSl b:=by intro _ _; rfl):SE X Y (.Subscript a b pos) (e2 gv0 f g):=PE.imp (cU0 hu ha hb hs) fun σ H Q ⟨F,ε,u,rl,hf,k⟩=>by
 unfold e2 at hf
 cases q1:f ε with
 |none=>rw [q1] at hf; cases hf
 |some s=>
  rw [q1] at hf
  cases q2:g ε with
  |none=>simp only [Option.bind_some,q2] at hf; cases hf
  |some t=>
   simp only [Option.bind_some,q2] at hf
   unfold gv0 at hf
   split at hf
   ·refine⟨F,ε,_,rl,q1,fun F1 x H1 m1 r1=>⟨F1,ε,_,rl.mono m1,q2,fun F2 y H2 m2 r2=> ?_⟩⟩
    obtain⟨c,xs,rfl,hc,rs⟩:=(r1.keep m2).dct_
    obtain⟨v,h1,h2⟩:=rs.val hf
    cases r2.str_
    exact⟨c,v,rfl,.inl ⟨xs,Sum.inr _,hc,rfl,h1.symm⟩,k F2 v H2 (m1.trans m2) h2⟩
   ·cases hf
def putT (kts:List (Str × T))(k:Str)(t:T):List (Str × T):=if kts.any (fun kv=>decide (kv.1=k)) then kts.map (fun kv=>if kv.1=k then(kv.1,t) else kv) else kts++ [(k,t)]
theorem Rpk.any {F:Addr->Prop}{H:Hp}{k:Str}:∀{kvs:List (Key × V)} {kts:List (Str × T)},Rpk F H kvs kts->(kvs.any fun kv=>decide (kv.1=(Sum.inr k:Key)))=kts.any fun kv=>decide (kv.1=k)
 |_,_,.nil=>rfl
 |_,_,.cons (k:=k0) h r=>by rw [List.any_cons,List.any_cons,Rpk.any r,mI0]
theorem Rpk.repl {F:Addr->Prop}{H:Hp}{k:Str}{v:V}{t:T}(hv:Rp F H v t):∀{kvs:List (Key × V)} {kts:List (Str × T)},Rpk F H kvs kts->
  Rpk F H (kvs.map fun kv=>if kv.1=(Sum.inr k:Key) then(kv.1,v) else kv) (kts.map fun kv=>if kv.1=k then(kv.1,t) else kv)
 |_,_,.nil=> .nil
 |_,_,.cons (k:=k0) h r=>by
  rw [List.map_cons,List.map_cons]
  by_cases e:k0=k
  ·rw [if_pos (by rw [e]),if_pos e]; exact .cons hv (Rpk.repl hv r)
  ·rw [if_neg (fun z=>e (Sum.inr.inj z)),if_neg e]; exact .cons h (Rpk.repl hv r)
theorem Rpk.snoc {F:Addr->Prop}{H:Hp}{k:Str}{v:V}{t:T}(hv:Rp F H v t):∀{kvs:List (Key × V)} {kts:List (Str × T)},Rpk F H kvs kts->Rpk F H (kvs++ [(Sum.inr k,v)]) (kts++ [(k,t)])
 |_,_,.nil=> .cons hv .nil
 |_,_,.cons h r=> .cons h (Rpk.snoc hv r)
theorem Rpk.put {F:Addr->Prop}{H:Hp}{k:Str}{v:V}{t:T}{kvs:List (Key × V)}{kts:List (Str × T)}(r:Rpk F H kvs kts)(hv:Rp F H v t):Rpk F H (putK kvs (Sum.inr k) v) (putT kts k t):=by
 unfold putK putT
 rw [r.any]
 split
 ·exact r.repl hv
 ·exact r.snoc hv
def sDPut (i:Nat)(fk fv:En->Option T):En->Option Fl:=fun ε=>match ε[i]? with
 |some (.ow (.dct kts))=>(fv ε).bind fun v=>match fk ε with
  |some (.str k)=>if kts.length<big then some (.nx (ε.set i (.ow (.dct (putT kts k v))))) else none
  |_=>none
 |_=>none
theorem nX0 {i:Nat}{x:Str}{px pos':Pos}(hu:X.A.units+4<cLine)(hx:PE X (.Name x px) (tVar i))(hk:BE X Y b g)(hv:SE X Y e f)
  (hs:swapsWith e (some (.Subscript (.Name x px) b pos')) pos.line X.env=pure false:=by rfl):SS X Y (.Assign [.Subscript (.Name x px) b pos'] e pos) (sDPut i g f):=
 PS.imp (ec0 hu hx hk hv hs) fun D σ H ⟨F,ε,fl,r,hg,k⟩=>by
  unfold sDPut at hg
  split at hg
  ·rename_i kts e1
   obtain⟨c,s1,nf,h0,hr⟩:=r.ow i _ e1
   cases q:f ε with
   |none=>rw [q] at hg; cases hg
   |some t=>
    rw [q] at hg
    simp only [Option.bind_some] at hg
    split at hg
    ·split at hg
     ·rename_i ks qk hb
      cases hg
      obtain⟨xs,ha,rs⟩:=hr.dct_
      refine⟨F,ε,t,r,q,fun F1 v H1 m1 r1=>⟨_,s1,F1,ε,_,r.mono m1,qk,fun F2 y H2 m2 r2=> ?_⟩⟩
      have m12:=m1.trans m2
      have ha2:=m12.ext _ _ ha
      cases r2.str_
      refine⟨c,_,rfl,DPut.k (k:=Sum.inr ks) ha2 (kZ0 (by rw [rs.length]; exact hb)),?_⟩
      have hne:∀ys,H2 c≠some (.tup ys):=fun ys z=>by rw [ha2] at z; cases z
      have kp:Keep F2 H2 F2 (upd H2 c (.dK (putK xs (Sum.inr ks) v))):=by
       have nf1:¬F2 c:=fun z=>(m12.new c z).elim nf fun w=>by rw [ha] at w; cases w
       exact⟨fun _ h=>h,fun b u f q=>by rw [ah0 (fun(z:b=c)=>nf1 (z▸f))]; exact q,fun b ys q=>by rw [ah0 (fun(z:b=c)=>hne ys (z▸q))]; exact q⟩
      obtain⟨r3,k3⟩:=(r.mono m12).write (o:=.dK (putK xs (Sum.inr ks) v)) (t':=.dct (putT kts ks t)) e1 s1 hne (.dct ai0 (((rs.keep m12.keep).put (r1.keep m2.keep)).keep kp))
      exact k F2 σ _ (m12.keep.trans k3) r3
     ·cases hg
    ·cases hg
  ·cases hg
def jY0:List T->Option T| [.dct kts]=>some (.dct kts)|_=>none
theorem iD0:dl0 X (.type "dict") (fun xs H Q=>∃(a:Addr) (kvs:List (Key × V)),xs=[.ref a]/\Rd H a (.dK kvs)/\∀p,H p=none->Q (.ref p) (upd H p (.dK kvs))):=by
 intro pins s σ H xs us Q I r h
 obtain⟨a,kvs,rfl,ha,q⟩:=h
 obtain⟨u,rfl,ru⟩:=gr0 r
 cases ru
 exact lQ0 I ha fun p s' hp I'=>⟨.ref p,_,I',rfl,q p hp⟩
theorem ps0:OpNF (fun xs H Q=>∃(a:Addr) (kvs:List (Key × V)),xs=[.ref a]/\Rd H a (.dK kvs)/\∀p,H p=none->Q (.ref p) (upd H p (.dK kvs))) jY0:=by
 intro F H xs ts u Q tk r h k
 unfold jY0 at h
 split at h
 ·obtain⟨x,rfl,rx⟩:=Rbs.one r
  obtain⟨a,ys,rfl,ha,ry⟩:=rx.dct_
  cases h
  exact⟨_,_,rfl,ha,fun l hl=>k F _ _ (Mono.laid tk hl) hl (Trk.new tk hl) (.dct ai0 (ry.keep (Mono.laid tk hl).keep))⟩
 ·cases h
theorem nj0 (hg:Gl X "dict") (hm:X.mg "dict" =none) (ha:BA X Y [a] fa) (hv:bootBuiltins "dict" =some (.type "dict"):=by rfl) (he:starEach [a] X.env=[(false,eval a X.env)]:=by rfl):FE X Y (.Call (.Name "dict" p) [a] [] pos) (aw0 jY0 fa):=fB0 iD0 ps0 hg hm hv ha (by decide) (by decide) he rfl
def eBM (φ:T->List T->Option T)(fo:En->Option T)(fa:En->Option (List T)):En->Option T:=fun ε=>(fo ε).bind fun o=>(fa ε).bind fun ts=>φ o ts
def OpM (r:V->List V->Hp->VK->Prop)(φ:T->List T->Option T):Prop:=∀F H x xs s ts u Q,Trk F H->Rb F H x s->Rbs F H xs ts->φ s ts=some u->(∀F' v H',Mono F H F' H'->Rp F' H' v u->Q v H')->r x xs H Q
theorem oB0 {K:PySem.W.Frag}:OpM (fun x vs H Q=>∃(l:Addr) (xs:List V) (y:V) (j:Nat),x=.ref l/\vs=[y]/\SqL K H l xs/\bL0 y=true/\xs.all bL0=true/\xs.length<=big/\(xs.findIdx? fun z=>eqV z y)=some j/\Q (.int (j:Int)) H) cD0:=by
 intro F H x xs s ts u Q tk rx rs h k
 unfold cD0 at h
 split at h
 ·split at h
  ·rename_i us s' hf
   rw [Bool.and_eq_true,Bool.and_eq_true,decide_eq_true_eq] at hf
   obtain⟨y,rfl,ry⟩:=Rbs.one rs
   obtain⟨a,ys,rfl,ha,r⟩:=rx.lst_
   obtain⟨e1,f1⟩:=ry.flat hf.1.1
   obtain⟨e2,f2⟩:=r.flat hf.1.2
   cases q:idxT us s' with
   |none=>rw [q] at h; cases h
   |some j=>
    rw [q] at h; cases h
    refine⟨a,ys,y,j,rfl,rfl,SqL.of ha,f1,f2,by rw [r.length]; exact hf.2,?_,k F _ H (.refl tk) (.int _)⟩
    rw [e1,e2,List.findIdx?_map]
    exact q
  ·cases h
 ·cases h
theorem nn0 {K:PySem.W.Frag}:OpM (fun x vs H Q=>∃(l:Addr) (xs:List V) (y:V),x=.ref l/\vs=[y]/\SqL K H l xs/\bL0 y=true/\xs.all bL0=true/\Q (.int ((xs.countP fun z=>eqV z y:Nat):Int)) H) de0:=by
 intro F H x xs s ts u Q tk rx rs h k
 unfold de0 at h
 split at h
 ·split at h
  ·rename_i us s' hf
   rw [Bool.and_eq_true] at hf
   cases h
   obtain⟨y,rfl,ry⟩:=Rbs.one rs
   obtain⟨a,ys,rfl,ha,r⟩:=rx.lst_
   obtain⟨e1,f1⟩:=ry.flat hf.1
   obtain⟨e2,f2⟩:=r.flat hf.2
   refine⟨a,ys,y,rfl,rfl,SqL.of ha,f1,f2,?_⟩
   rw [e1,e2,List.countP_map]
   exact k F _ H (.refl tk) (.int _)
  ·cases h
 ·cases h
theorem lM0 {K:PySem.W.Frag}:OpM (fun x vs H Q=>∃(l:Addr) (xs:List V) (y:V),x=.ref l/\vs=[y]/\SqT K H l xs/\bL0 y=true/\xs.all bL0=true/\Q (.int ((xs.countP fun z=>eqV z y:Nat):Int)) H) cZ0:=by
 intro F H x xs s ts u Q tk rx rs h k
 unfold cZ0 at h
 split at h
 ·split at h
  ·rename_i us s' hf
   rw [Bool.and_eq_true] at hf
   cases h
   obtain⟨y,rfl,ry⟩:=Rbs.one rs
   obtain⟨a,ys,rfl,ha,r⟩:=rx.tup_
   obtain⟨e1,f1⟩:=ry.flat hf.1
   obtain⟨e2,f2⟩:=r.flat hf.2
   refine⟨a,ys,y,rfl,rfl,SqT.of ha,f1,f2,?_⟩
   rw [e1,e2,List.countP_map]
   exact k F _ H (.refl tk) (.int _)
  ·cases h
 ·cases h
theorem gQ0 {φ:T->List T->Option T}{ε:En}{u:T}(q:eBM φ f fa ε=some u):∃s ts,f ε=some s/\fa ε=some ts/\φ s ts=some u:=by
 unfold eBM at q
 cases q1:f ε with
 |none=>rw [q1] at q; cases q
 |some s=>
  rw [q1] at q
  cases q2:fa ε with
  |none=>simp only [Option.bind_some,q2] at q; cases q
  |some ts=>simp only [Option.bind_some,q2] at q; exact⟨s,ts,rfl,rfl,q⟩
theorem mM0 {name:Str}{id:String}{r:V->List V->Hp->VK->Prop}{φ:T->List T->Option T}(slot:Slot "list" name id) (hty:typeOf (.builtin id)=pure (.type "method_descriptor")) (hm:MtR X id r) (om:OpM r φ) (hl:∀s ts u,φ s ts=some u->∃us,s=.lst us) (ho:BE X Y o f) (ha:BA X Y [e] fa)
  (hbase:attributeBase o name X.env (eval o X.env)=eval o X.env:=by rfl)
  (hfew:((backTo cpos (starEach [e] X.env)).all (fun x=> !x.1) && (backToKw cpos (keywordEach [] X.env)).all (fun x=>x.1.isSome)
   && decide (([e]:List Expr).length+([]:List Keyword).length+(if([]:List Keyword).isEmpty then 0 else 1)<30))=true:=by rfl)
  (hline:(apos.endLine==cpos.line)=true:=by rfl) (hs:starEach [e] X.env=[(false,eval e X.env)]:=by rfl):SE X Y (.Call (.Attribute o name apos) [e] [] cpos) (eBM φ f fa):=
 PE.imp (fF0 PySem.F.plainAttrs_list slot hty hm ho ha hbase hfew hline hs rfl) fun σ H Q ⟨F,ε,u,rl,hf,k⟩=>by
  obtain⟨s,ts,q1,q2,q3⟩:=gQ0 hf
  obtain⟨us,rfl⟩:=hl _ _ _ q3
  refine⟨F,ε,_,rl,q1,fun F1 x H1 m1 r1=> ?_⟩
  obtain⟨a,xs,e1,ha1,_⟩:=r1.lst_
  refine⟨by rw [e1]; exact .inl ⟨rfl,xs,SqL.of ha1⟩,F1,ε,ts,rl.mono m1,q2,fun F2 ys H2 m2 r2=>om F2 H2 x ys _ ts u Q m2.trk (r1.keep m2) r2 q3 fun F3 v H3 m3 r3=>k F3 v H3 ((m1.trans m2).trans m3) r3⟩
theorem hL0 (ho:BE X Y o f)(ha:BA X Y [e] fa)(hbase:attributeBase o "index" X.env (eval o X.env)=eval o X.env:=by rfl)
  (hfew:((backTo cpos (starEach [e] X.env)).all (fun x=> !x.1) && (backToKw cpos (keywordEach [] X.env)).all (fun x=>x.1.isSome)
   && decide (([e]:List Expr).length+([]:List Keyword).length+(if([]:List Keyword).isEmpty then 0 else 1)<30))=true:=by rfl)
  (hline:(apos.endLine==cpos.line)=true:=by rfl) (hs:starEach [e] X.env=[(false,eval e X.env)]:=by rfl):SE X Y (.Call (.Attribute o "index" apos) [e] [] cpos) (eBM cD0 f fa):=
 mM0 PySem.F.slot_list_index PySem.F.type_list_index mo0 oB0 (fun s ts u q=>by unfold cD0 at q; split at q; exact⟨_,rfl⟩; cases q) ho ha hbase hfew hline hs
theorem hR0 (ho:BE X Y o f)(ha:BA X Y [e] fa)(hbase:attributeBase o "count" X.env (eval o X.env)=eval o X.env:=by rfl)
  (hfew:((backTo cpos (starEach [e] X.env)).all (fun x=> !x.1) && (backToKw cpos (keywordEach [] X.env)).all (fun x=>x.1.isSome)
   && decide (([e]:List Expr).length+([]:List Keyword).length+(if([]:List Keyword).isEmpty then 0 else 1)<30))=true:=by rfl)
  (hline:(apos.endLine==cpos.line)=true:=by rfl) (hs:starEach [e] X.env=[(false,eval e X.env)]:=by rfl):SE X Y (.Call (.Attribute o "count" apos) [e] [] cpos) (eBM de0 f fa):=
 mM0 PySem.F.slot_list_count PySem.F.type_list_count ml0 nn0 (fun s ts u q=>by unfold de0 at q; split at q; exact⟨_,rfl⟩; cases q) ho ha hbase hfew hline hs
theorem lj0 (ho:BE X Y o f)(ha:BA X Y [e] fa)(hbase:attributeBase o "count" X.env (eval o X.env)=eval o X.env:=by rfl)
  (hfew:((backTo cpos (starEach [e] X.env)).all (fun x=> !x.1) && (backToKw cpos (keywordEach [] X.env)).all (fun x=>x.1.isSome)
   && decide (([e]:List Expr).length+([]:List Keyword).length+(if([]:List Keyword).isEmpty then 0 else 1)<30))=true:=by rfl)
  (hline:(apos.endLine==cpos.line)=true:=by rfl) (hs:starEach [e] X.env=[(false,eval e X.env)]:=by rfl):SE X Y (.Call (.Attribute o "count" apos) [e] [] cpos) (eBM cZ0 f fa):=by
 intro pins s σ H Q I hw
 obtain⟨F,ε,u,rl,hf,k⟩:=hw
 obtain⟨t,ts,q1,q2,q3⟩:=gQ0 hf
 obtain⟨us,rfl⟩:∃us,t=.tup us:=by unfold cZ0 at q3; split at q3; exact⟨_,rfl⟩; cases q3
 refine wpAny_Call_method_late hbase hfew hline rfl (thn (ho pins s σ H (fun x H1=>∃F1,Mono F H F1 H1/\Rb F1 H1 x (.tup us)) I ⟨F,ε,_,rl,q1,fun F1 v H1 m1 r1=>⟨F1,m1,r1⟩⟩) fun v s1 ⟨x,H1,I1,r1,F1,m1,rb⟩=> ?_)
 obtain⟨a,xs,rfl,ha1,_⟩:=rb.tup_
 cases r1
 obtain⟨_,its,_,p,ob,hob,hod⟩:=(show ObjOk X.prog X.w H1 s1.heap a (.tup xs) from I1.hok a _ ha1)
 refine⟨"tuple", "tuple.count",PySem.F.plainAttrs_tuple,PySem.F.slot_tuple_count,PySem.F.type_tuple_count,p.typeIs,fun b e=> ?_,?_⟩
 ·cases e
  exact⟨ob,hob,hod⟩
 have hA:=ha cpos pins s1 σ H1 (fun ys H2=>∃F2,Mono F1 H1 F2 H2/\Rbs F2 H2 ys ts) I1 ⟨F1,ε,ts,rl.mono m1,q2,fun F2 ys H2 m2 r2=>⟨F2,m2,r2⟩⟩
 rw [hs] at hA ⊢
 refine Calls.callWith_builtin rfl (Calls.evalArgs_plain ?_)
 exact thn hA fun us' s2 ⟨vs,H2,I2,r2,F2,m2,rb2⟩=>lt0 pins s2 σ H2 (.ref a) vs (.ref a) us' Q I2 rfl r2 (lM0 F2 H2 _ vs _ ts u Q m2.trk (rb.keep m2) rb2 q3 fun F3 v H3 m3 r3=>k F3 v H3 ((m1.trans m2).trans m3) r3)
end
end L2.BD
set_option Elab.async false
set_option linter.all false
set_option maxRecDepth 100000
set_option maxHeartbeats 4000000
namespace L2
open PySem PySem.Spec PyProof.Rows
section
variable {prog:Program}{w:World}{A:Around}{E:Value->Shared->Prop}{s:Shared}
theorem ds0 {u t:Addr}{i:Nat}{its:Array Value}{x:Value}{Q:Value->Shared->Prop}(hu:s.heap.IsTupleIter u t i)(ht:s.heap.IsTuple t its)(hx:its[i]?=some x)
  (k:∀h',h'.IsTupleIter u t (i+1)->Heap.SameBut u s.heap h'->Q x {s with heap:=h'}):wpAny (model prog w) A (Builtin.SmallTypes.nextOf (.ref u)) Q E s:=by
 obtain⟨ou,gu,cu,du⟩:=id hu
 obtain⟨ot,gt,_,nt,dt⟩:=ht
 unfold Builtin.SmallTypes.nextOf
 refine wpAny_bind (wpAny_callSpecial?_slot (name:=Str.ofString "__next__") hu.typeIs F.slot_tuple_iterator_next (wpAny_call_entry F.slot_tuple_iterator_next hu.typeIs F.entry_tuple_iterator_next ?_ (F.args_tuple_iterator_next_1 _)))
 show wpAny _ _ (field (.ref u) 0>>=_) _ _ s; refine wpAny_bind (wpAny_field gu du (x:=.ref t) rfl ?_)
 show wpAny _ _ (if(Value.ref t==Value.none)=true then _ else _) _ _ s; rw [if_neg (by exact Bool.false_ne_true)]
 show wpAny _ _ (field (.ref u) 1>>=_) _ _ s; refine wpAny_bind (wpAny_field gu du (x:=.int i 0) rfl ?_)
 show wpAny _ _ (seqItems? (.ref t)>>=_) _ _ s; refine wpAny_bind (wpAny_seqItems gt dt ?_); simp only [Int.toNat_natCast,hx]
 refine wpAny_bind (wpAny_setField gu du (by simp) (wpAny_pure ⟨x,rfl,wpAny_pure (k _ ⟨_,Heap.get?_update_self _ gu (Obj.isFreed_of_fields (Obj.data_mapFields du _)),(Obj.cls_mapFields ..).trans cu,?_⟩ (Heap.SameBut.update ..))⟩))
 rw [Obj.data_mapFields du]; simp [rawInt]
theorem fJ0 {u t:Addr}{i:Nat}{its:Array Value}{Q:Value->Shared->Prop}(hh:A.handled=none)(hu:s.heap.IsTupleIter u t i)(ht:s.heap.IsTuple t its)(hx:its[i]?=none)
  (k:∀h' e,Heap.ExtBut u s.heap h'->(∃o,h'.get? e=some o/\o.cls=.type "StopIteration")->E (.ref e) {s with heap:=h'}):wpAny (model prog w) A (Builtin.SmallTypes.nextOf (.ref u)) Q E s:=by
 obtain⟨ou,gu,cu,du⟩:=id hu
 obtain⟨ot,gt,_,nt,dt⟩:=ht
 unfold Builtin.SmallTypes.nextOf
 refine wpAny_bind (wpAny_callSpecial?_slot (name:=Str.ofString "__next__") hu.typeIs F.slot_tuple_iterator_next (wpAny_call_entry F.slot_tuple_iterator_next hu.typeIs F.entry_tuple_iterator_next ?_ (F.args_tuple_iterator_next_1 _)))
 show wpAny _ _ (field (.ref u) 0>>=_) _ _ s; refine wpAny_bind (wpAny_field gu du (x:=.ref t) rfl ?_)
 show wpAny _ _ (if(Value.ref t==Value.none)=true then _ else _) _ _ s; rw [if_neg (by exact Bool.false_ne_true)]
 show wpAny _ _ (field (.ref u) 1>>=_) _ _ s; refine wpAny_bind (wpAny_field gu du (x:=.int i 0) rfl ?_)
 show wpAny _ _ (seqItems? (.ref t)>>=_) _ _ s; refine wpAny_bind (wpAny_seqItems gt dt ?_); simp only [Int.toNat_natCast,hx]
 refine wpAny_bind (wpAny_rule (wpAny_bind (wpAny_setField gu du (by simp) ?_))); show wpAny _ _ (newExc (.type "StopIteration") []>>=_) _ _ _
 refine wpAny_bind ?_; simp only [newExc,newTuple]; refine wpAny_bind (wpAny_newObj_type ?_ (by size_fits))
 refine wpAny_bind (m:=firstArgMember _ _) (wpAny_of_eq (a:=Value.none) (by first|rfl|(simp only [firstArgMember]; rfl)) (wpAny_newObj_type ?_ (by size_fits)))
 simp only [raiseNew]; refine wpAny_bind (wpAny_handled ?_); (first|rw [show A.in1.handled=none from hh]|rw [hh])
 exact wpAny_bind (wpAny_pure (wpAny_throw (k _ _ (((Heap.SameBut.update ..).extBut.push _).push _) ⟨_,Heap.get?_push_size _ rfl,rfl⟩)))
theorem iH0 {z ti to' u1 u2 l1 l2:Addr}{k1 k2:Nat}{xs ys:Array Value}{x y a b:Value}{Q:Value->Shared->Prop}(D:ZipApart z ti to' u1 u2 l1 l2)
  (gz:IsZip s.heap z ti to' .none) (gi:IsPair s.heap ti (.ref u1) (.ref u2)) (go:IsPair s.heap to' a b) (g1:s.heap.IsTupleIter u1 l1 k1) (g2:s.heap.IsTupleIter u2 l2 k2) (gl1:s.heap.IsTuple l1 xs) (gl2:s.heap.IsTuple l2 ys) (hx:xs[k1]?=some x) (hy:ys[k2]?=some y)
  (k:∀h',IsZip h' z ti to' (rawInt s.heap.objs.size)->IsPair h' to' x y->h'.IsTupleIter u1 l1 (k1+1)->h'.IsTupleIter u2 l2 (k2+1)->IsPair h' s.heap.objs.size x y->h'.objs.size=s.heap.objs.size+1->
   (∀c o,c≠z->c≠to'->c≠u1->c≠u2->s.heap.get? c=some o->h'.get? c=some o)->Q (.ref s.heap.objs.size) {s with heap:=h'}):
  wpAny (model prog w) A (Builtin.«zip.__next__» ⟨[.ref z],[]⟩) (fun fin s'=>∃v,fin=.done (.ret v)/\Q v s') E s:=by
 show wpAny _ _ (field (.ref z) 2>>=_) _ _ s; refine wpAny_bind (wpAny_field gz rfl (x:=.bool false) rfl ?_)
 show wpAny _ _ (field (.ref z) 3>>=_) _ _ s; refine wpAny_bind (wpAny_field gz rfl (x:=.ref ti) rfl (wpAny_bind (wpAny_seqItems gi rfl ?_)))
 show wpAny _ _ (Builtin.SmallTypes.ownedTupleIsFree (.ref z)>>=_) _ _ s; refine wpAny_bind ?_; unfold Builtin.SmallTypes.ownedTupleIsFree
 refine wpAny_bind (wpAny_field gz rfl (x:=.none) rfl (wpAny_pure ?_)); simp only [if_true]; refine wpAny_bind (wpAny_rule (wpAny_bind (wpAny_field gz rfl (x:=.ref to') rfl ?_)))
 refine wpAny_bind (wpAny_setField_rec gz (by simp) fun ha gza sa=> ?_); replace gza:IsZip ha z ti to' .ellipsis:=gza
 refine wpAny_bind ?_; simp only [List.zipIdx_cons,List.zipIdx_nil,List.forIn_cons,List.forIn_nil]; refine wpAny_bind (wpAny_bind (wpAny_onRaise ?_))
 show wpAny _ _ (Builtin.SmallTypes.nextOf (.ref u1)>>=_) _ _ _; refine wpAny_bind (ds0 (g1.extBut sa.extBut D.i1z) (gl1.extBut sa.extBut D.l1z) hx fun hb g1b sb=>wpAny_pure ?_)
 have gob:IsPair hb to' a b:=sb.extBut _ _ D.TOi1 (sa.extBut _ _ D.TOz go)
 refine wpAny_bind (wpAny_seqItems gob rfl (wpAny_bind (wpAny_updateSeq_pair gob fun hc goc sc=> ?_))); replace goc:IsPair hc to' x b:=goc
 refine wpAny_bind (wpAny_letGo (wpAny_pure (wpAny_bind (wpAny_bind (wpAny_onRaise ?_)))))
 show wpAny _ _ (Builtin.SmallTypes.nextOf (.ref u2)>>=_) _ _ _
 refine wpAny_bind (ds0 (((g2.extBut sa.extBut D.i2z).extBut sb.extBut D.i12.symm).extBut sc.extBut D.TOi2.symm) (((gl2.extBut sa.extBut D.l2z).extBut sb.extBut D.l2i1).extBut sc.extBut D.l2TO) hy fun hd g2d sd=>wpAny_pure ?_)
 have god:IsPair hd to' x b:=sd.extBut _ _ D.TOi2 goc
 refine wpAny_bind (wpAny_seqItems god rfl (wpAny_bind (wpAny_updateSeq_pair god fun he goe se=> ?_))); replace goe:IsPair he to' x y:=goe
 refine wpAny_bind (wpAny_letGo (wpAny_pure (wpAny_pure (wpAny_bind (wpAny_seqItems goe rfl (wpAny_bind (wpAny_newTuple ?_)))))))
 have sz:he.objs.size=s.heap.objs.size:=by rw [se.1,sd.1,sc.1,sb.1,sa.1]
 have gze:IsZip he z ti to' .ellipsis:=se.extBut _ _ D.TOz.symm (sd.extBut _ _ D.i2z.symm (sc.extBut _ _ D.TOz.symm (sb.extBut _ _ D.i1z.symm gza)))
 have ke:∀c o,c≠z->c≠to'->c≠u1->c≠u2->s.heap.get? c=some o->he.get? c=some o:=fun c o n1 n2 n3 n4 g=>se.extBut _ _ n2 (sd.extBut _ _ n4 (sc.extBut _ _ n2 (sb.extBut _ _ n3 (sa.extBut _ _ n1 g))))
 have g1e:he.IsTupleIter u1 l1 (k1+1):=((g1b.extBut sc.extBut D.TOi1.symm).extBut sd.extBut D.i12).extBut se.extBut D.TOi1.symm
 have g2e:he.IsTupleIter u2 l2 (k2+1):=g2d.extBut se.extBut D.TOi2.symm
 have zlt:z<he.objs.size:=Heap.lt_size gze
 show wpAny _ _ (Builtin.SmallTypes.ownedTupleHandOut (.ref z) (.ref he.objs.size)>>=_) _ _ _; refine wpAny_bind ?_; unfold Builtin.SmallTypes.ownedTupleHandOut
 have gzf:IsZip (he.push {cls:=.type "tuple",data:=.seq #[x,y]}) z ti to' .ellipsis:=Heap.get?_push_of_some _ gze
 refine wpAny_bind (wpAny_setField_rec gzf (by simp) fun hg gzg sg=> ?_); replace gzg:IsZip hg z ti to' (rawInt he.objs.size):=gzg
 refine wpAny_setField_rec gzg (by simp) fun hi gzi si=> ?_; replace gzi:IsZip hi z ti to' (rawInt he.objs.size):=gzi
 have up:∀c o,c≠z->he.get? c=some o->hi.get? c=some o:=fun c o n g=>si.extBut _ _ n (sg.extBut _ _ n (Heap.get?_push_of_some _ g))
 have gti:IsPair hi he.objs.size x y:=si.extBut _ _ (Nat.ne_of_gt zlt) (sg.extBut _ _ (Nat.ne_of_gt zlt) (Heap.get?_push_size _ rfl))
 have szi:hi.objs.size=he.objs.size+1:=by rw [si.1,sg.1,Heap.size_push]
 rw [sz] at gzi gti szi
 refine wpAny_pure ⟨_,rfl,?_⟩; show Q (.ref he.objs.size) _; rw [sz]
 have at1:∀{h h':Heap} {u l:Addr} {i:Nat},h.IsTupleIter u l i->(∀o,h.get? u=some o->h'.get? u=some o)->h'.IsTupleIter u l i:=fun⟨o,e,r⟩ f=>⟨o,f o e,r⟩
 exact k hi gzi (up _ _ D.TOz goe) (at1 g1e fun o g=>up _ o D.i1z g) (at1 g2e fun o g=>up _ o D.i2z g) gti szi fun c o n1 n2 n3 n4 g=>up c o n1 (ke c o n1 n2 n3 n4 g)
theorem lF0 {z ti to' u1 u2 l1 l2:Addr}{k1 k2:Nat}{xs ys:Array Value}{a b:Value}{Q:Fin->Shared->Prop}(hh:A.handled=none)(D:ZipApart z ti to' u1 u2 l1 l2)
  (gz:IsZip s.heap z ti to' .none) (gi:IsPair s.heap ti (.ref u1) (.ref u2)) (go:IsPair s.heap to' a b) (g1:s.heap.IsTupleIter u1 l1 k1) (g2:s.heap.IsTupleIter u2 l2 k2) (gl1:s.heap.IsTuple l1 xs) (gl2:s.heap.IsTuple l2 ys) (hend:xs[k1]?=none\/ ys[k2]?=none)
  (k:∀h' e,(∀c o,c≠z->c≠to'->c≠u1->c≠u2->s.heap.get? c=some o->h'.get? c=some o)->(∃o,h'.get? e=some o/\o.cls=.type "StopIteration")->E (.ref e) {s with heap:=h'}):
  wpAny (model prog w) A (Builtin.«zip.__next__» ⟨[.ref z],[]⟩) Q E s:=by
 show wpAny _ _ (field (.ref z) 2>>=_) _ _ s; refine wpAny_bind (wpAny_field gz rfl (x:=.bool false) rfl ?_)
 show wpAny _ _ (field (.ref z) 3>>=_) _ _ s; refine wpAny_bind (wpAny_field gz rfl (x:=.ref ti) rfl (wpAny_bind (wpAny_seqItems gi rfl ?_)))
 show wpAny _ _ (Builtin.SmallTypes.ownedTupleIsFree (.ref z)>>=_) _ _ s; refine wpAny_bind ?_; unfold Builtin.SmallTypes.ownedTupleIsFree
 refine wpAny_bind (wpAny_field gz rfl (x:=.none) rfl (wpAny_pure ?_)); simp only [if_true]; refine wpAny_bind (wpAny_rule (wpAny_bind (wpAny_field gz rfl (x:=.ref to') rfl ?_)))
 refine wpAny_bind (wpAny_setField_rec gz (by simp) fun ha gza sa=> ?_); replace gza:IsZip ha z ti to' .ellipsis:=gza
 refine wpAny_bind ?_; simp only [List.zipIdx_cons,List.zipIdx_nil,List.forIn_cons,List.forIn_nil]; refine wpAny_bind (wpAny_bind (wpAny_onRaise ?_))
 show wpAny _ _ (Builtin.SmallTypes.nextOf (.ref u1)>>=_) _ _ _
 cases hx:xs[k1]? with
 |none=>
  refine wpAny_bind (fJ0 hh (g1.extBut sa.extBut D.i1z) (gl1.extBut sa.extBut D.l1z) hx fun hb e sb ge=> ?_)
  obtain⟨oe,goe,ce⟩:=ge
  have gzb:IsZip hb z ti to' .ellipsis:=sb _ _ D.i1z.symm gza
  have nez:e≠z:=fun q=>by subst q; rw [gzb] at goe; cases goe; simp at ce
  exact wpAny_setField_rec gzb (by simp) fun hc _ sc=>k hc e (fun c o n1 _ n3 _ g=>sc.extBut _ _ n1 (sb _ _ n3 (sa.extBut _ _ n1 g))) ⟨oe,sc.extBut _ _ nez goe,ce⟩
 |some x=>
  have hy:ys[k2]?=none:=by
   rcases hend with q|q
   ·rw [hx] at q; cases q
   ·exact q
  refine wpAny_bind (ds0 (g1.extBut sa.extBut D.i1z) (gl1.extBut sa.extBut D.l1z) hx fun hb g1b sb=>wpAny_pure ?_)
  have gob:IsPair hb to' a b:=sb.extBut _ _ D.TOi1 (sa.extBut _ _ D.TOz go)
  refine wpAny_bind (wpAny_seqItems gob rfl (wpAny_bind (wpAny_updateSeq_pair gob fun hc goc sc=>wpAny_bind (wpAny_letGo (wpAny_pure (wpAny_bind (wpAny_bind (wpAny_onRaise ?_))))))))
  show wpAny _ _ (Builtin.SmallTypes.nextOf (.ref u2)>>=_) _ _ _
  refine wpAny_bind (fJ0 hh (((g2.extBut sa.extBut D.i2z).extBut sb.extBut D.i12.symm).extBut sc.extBut D.TOi2.symm) (((gl2.extBut sa.extBut D.l2z).extBut sb.extBut D.l2i1).extBut sc.extBut D.l2TO) hy fun hd e sd ge=> ?_)
  obtain⟨oe,goe,ce⟩:=ge
  have gzd:IsZip hd z ti to' .ellipsis:=sd _ _ D.i2z.symm (sc.extBut _ _ D.TOz.symm (sb.extBut _ _ D.i1z.symm gza))
  have nez:e≠z:=fun q=>by subst q; rw [gzd] at goe; cases goe; simp at ce
  exact wpAny_setField_rec gzd (by simp) fun hf _ sf=>k hf e (fun c o n1 n2 n3 n4 g=>sf.extBut _ _ n1 (sd _ _ n4 (sc.extBut _ _ n2 (sb.extBut _ _ n3 (sa.extBut _ _ n1 g))))) ⟨oe,sf.extBut _ _ nez goe,ce⟩
abbrev tzH1 (h:Heap)(l1:Addr):Heap:=h.push {cls:=.type "tuple_iterator",data:=.fields #[.ref l1,.int 0 0]}
abbrev tzH2 (h:Heap)(l1 l2:Addr):Heap:=(tzH1 h l1).push {cls:=.type "tuple_iterator",data:=.fields #[.ref l2,.int 0 0]}
abbrev tzH3 (h:Heap)(l1 l2:Addr):Heap:=(tzH2 h l1 l2).push {cls:=.type "tuple",data:=.seq #[.ref h.objs.size,.ref (tzH1 h l1).objs.size]}
abbrev tzH4 (h:Heap)(l1 l2:Addr):Heap:=(tzH3 h l1 l2).push {cls:=.type "tuple",data:=.seq #[.none,.none]}
abbrev tzH5 (h:Heap)(l1 l2:Addr):Heap:=(tzH4 h l1 l2).push {cls:=.type "zip",data:=.fields #[.none,.bool false,.bool false,.ref (tzH2 h l1 l2).objs.size,.ref (tzH3 h l1 l2).objs.size]}
theorem mf0 (l1 l2:Addr)(xs ys:Array Value):Meets (Builtin.«zip.__new__» ⟨[.type "zip",.ref l1,.ref l2],[]⟩) (fun _ R s=>s.heap.IsTuple l1 xs/\s.heap.IsTuple l2 ys/\R (.ok (.ret (.ref (tzH4 s.heap l1 l2).objs.size))) {s with heap:=tzH5 s.heap l1 l2}):=
 .of_wp fun prog w A R s h=>by
  obtain⟨hp,g,d,tk,os⟩:=s
  obtain⟨g1,g2,h⟩:=h
  have hsub:=sub_zip
  have q1:Heap.IsTuple (Shared.heap ⟨hp,g,d,tk,os⟩) l1 xs:=g1
  have q2:Heap.IsTuple (Shared.heap ⟨hp.push {cls:=.type "tuple_iterator",data:=.fields #[.ref l1,.int 0 0]},g,d,tk,os⟩) l2 ys:=Heap.IsTuple.push g2 _
  wp_walk using wpAny_pyIter_tuple q1,wpAny_pyIter_tuple q2
  exact⟨_,rfl,h⟩
theorem kB0 {l1 l2:Addr}{xs ys:Array Value}{Q:Value->Shared->Prop}(g1:s.heap.IsTuple l1 xs)(g2:s.heap.IsTuple l2 ys)
  (k:∀h',IsZip h' (s.heap.objs.size+4) (s.heap.objs.size+2) (s.heap.objs.size+3) .none->IsPair h' (s.heap.objs.size+2) (.ref s.heap.objs.size) (.ref (s.heap.objs.size+1))->IsPair h' (s.heap.objs.size+3) .none .none->
   h'.IsTupleIter s.heap.objs.size l1 0->h'.IsTupleIter (s.heap.objs.size+1) l2 0->h'.objs.size=s.heap.objs.size+5->(∀c o,s.heap.get? c=some o->h'.get? c=some o)->Q (.ref (s.heap.objs.size+4)) {s with heap:=h'}):
  wpAny (model prog w) A (call (.type "zip") [.ref l1,.ref l2]) Q E s:=by
 refine callType_new F.called_zip (by decide) (F.typeCall_zip_2 _ _) (F.newCall_zip_2 _ _) (fun obj=>F.args_object_init_3 obj _ _) F.entry_zip_new (mf0 l1 l2 xs ys) ⟨g1,g2,?_⟩
 have z1:(tzH1 s.heap l1).objs.size=s.heap.objs.size+1:=Heap.size_push ..
 have z2:(tzH2 s.heap l1 l2).objs.size=s.heap.objs.size+2:=by rw [Heap.size_push,z1]
 have z3:(tzH3 s.heap l1 l2).objs.size=s.heap.objs.size+3:=by rw [Heap.size_push,z2]
 have z4:(tzH4 s.heap l1 l2).objs.size=s.heap.objs.size+4:=by rw [Heap.size_push,z3]
 have z5:(tzH5 s.heap l1 l2).objs.size=s.heap.objs.size+5:=by rw [Heap.size_push,z4]
 have f5:(tzH5 s.heap l1 l2).get? (tzH4 s.heap l1 l2).objs.size=some _:=Heap.get?_push_size _ rfl
 have f4:(tzH5 s.heap l1 l2).get? (tzH3 s.heap l1 l2).objs.size=some _:=Heap.get?_push_of_some _ (Heap.get?_push_size _ rfl)
 have f3:(tzH5 s.heap l1 l2).get? (tzH2 s.heap l1 l2).objs.size=some _:=Heap.get?_push_of_some _ (Heap.get?_push_of_some _ (Heap.get?_push_size _ rfl))
 have f2:(tzH5 s.heap l1 l2).get? (tzH1 s.heap l1).objs.size=some _:=Heap.get?_push_of_some _ (Heap.get?_push_of_some _ (Heap.get?_push_of_some _ (Heap.get?_push_size _ rfl)))
 have f1:(tzH5 s.heap l1 l2).get? s.heap.objs.size=some _:=Heap.get?_push_of_some _ (Heap.get?_push_of_some _ (Heap.get?_push_of_some _ (Heap.get?_push_of_some _ (Heap.get?_push_size _ rfl))))
 show _/\_
 rw [z2,z3,z4] at f5; rw [z1,z2] at f3; rw [z3] at f4; rw [z1] at f2; rw [z4]
 exact⟨⟨_,f5,rfl⟩,k _ f5 f3 f4 ⟨_,f1,rfl,rfl⟩ ⟨_,f2,rfl,rfl⟩ z5 fun c o g=>Heap.get?_push_of_some _ (Heap.get?_push_of_some _ (Heap.get?_push_of_some _ (Heap.get?_push_of_some _ (Heap.get?_push_of_some _ g))))⟩
end
def Itz (K:PySem.W.Frag)(a b:Addr):It:=
  ⟨fun i H=>∃xs ys x y,SqT K H a xs/\SqT K H b ys/\xs[i]?=some x/\ys[i]?=some y,
   fun i H v H'=>∃p,H p=none/\v=.ref p/\∀xs ys,SqT K H a xs->SqT K H b ys->∃x y,xs[i]?=some x/\ys[i]?=some y/\H'=upd H p (.tup [x,y]),
   fun i H=>∃xs ys,SqT K H a xs/\SqT K H b ys/\(xs.length<=i\/ ys.length<=i)⟩
theorem lI0 {P:Program}{w:World}{K:PySem.W.Frag}{elts:List Expr}{x1:Nat}{tp:Pos}{z ti to' u1 u2 a b:Addr}(D:ZipApart z ti to' u1 u2 a b):
  Turn P w K (.Tuple elts x1 tp) (Itz K a b) [z,ti,to',u1,u2] z (fun i h=>IsZip h z ti to' .none/\IsPair h ti (.ref u1) (.ref u2)/\(∃c d,IsPair h to' c d)/\h.IsTupleIter u1 a i/\h.IsTupleIter u2 b i) where
 mem:=by simp
 obj:=fun i h st q hq=>by
  obtain⟨g1,g2,⟨c,d,g3⟩,⟨o4,g4,_,d4⟩,⟨o5,g5,_,d5⟩⟩:=st
  simp only [List.mem_cons,List.not_mem_nil,or_false] at hq
  rcases hq with rfl|rfl|rfl|rfl|rfl
  ·exact⟨_,g1,fun v e=>nomatch e⟩
  ·exact⟨_,g2,fun v e=>nomatch e⟩
  ·exact⟨_,g3,fun v e=>nomatch e⟩
  ·exact⟨_,g4,fun v e=>by rw [d4] at e; cases e⟩
  ·exact⟨_,g5,fun v e=>by rw [d5] at e; cases e⟩
 keep:=fun i h h' st k=>by
  obtain⟨g1,g2,⟨c,d,g3⟩,⟨o4,g4,r4⟩,⟨o5,g5,r5⟩⟩:=st
  exact⟨k z (by simp) _ g1,k ti (by simp) _ g2,⟨c,d,k to' (by simp) _ g3⟩,⟨o4,k u1 (by simp) _ g4,r4⟩,⟨o5,k u2 (by simp) _ g5,r5⟩⟩
 item:=by
  intro X hP hw hK hc i pins s σ H E I hf st hg
  subst hP hw hK
  obtain⟨xs,ys,x,y,ha,hb,hx,hy⟩:=hg
  obtain⟨g1,g2,⟨c,d,g3⟩,g4,g5⟩:=st
  obtain⟨its,rv,p,hz⟩:=I.tuple ha
  obtain⟨jts,rw',p',hz'⟩:=I.tuple hb
  obtain⟨u,hu,ru⟩:=rv.get hx
  obtain⟨v,hv,rv'⟩:=rw'.get hy
  have hT:s.TypeIs (.ref z) "zip" :=⟨_,g1,rfl⟩
  unfold pyNext
  refine wpAny_bind (wpAny_attempt (wpAny_callSpecial?_slot (name:=Str.ofString "__next__") hT F.slot_zip_next (wpAny_call_entry F.slot_zip_next hT F.entry_zip_next
   (iH0 (x:=u) (y:=v) D g1 g2 g3 g4 g5 (show s.heap.IsTuple a its.toArray from p) (show s.heap.IsTuple b jts.toArray from p') (by simpa using hu) (by simpa using hv) fun h' a1 a2 a3 a4 a5 a6 a7=>wpAny_pure ⟨_,rfl,?_⟩) (F.args_zip_next_1 _))))
  refine wpAny_letOwnedTupleGo_zip a1 fun h'' gz sb=> ?_
  have hn:H s.heap.objs.size=none:=I.hok.fresh (Nat.le_refl _)
  have zlt:z<s.heap.objs.size:=Heap.lt_size g1
  have hfp:∀q∈ [z,ti,to',u1,u2],q<s.heap.objs.size:=fun q hq=>by
   obtain⟨_,g4',_⟩:=id g4
   obtain⟨_,g5',_⟩:=id g5
   simp only [List.mem_cons,List.not_mem_nil,or_false] at hq
   rcases hq with rfl|rfl|rfl|rfl|rfl
   ·exact Heap.lt_size g1
   ·exact Heap.lt_size g2
   ·exact Heap.lt_size g3
   ·exact Heap.lt_size g4'
   ·exact Heap.lt_size g5'
  have ht2:h''.get? s.heap.objs.size=some {cls:=.type "tuple",data:=.seq #[u,v]}:=sb.extBut _ _ (Nat.ne_of_gt zlt) a5
  have I2:Inv X pins σ (upd H s.heap.objs.size (.tup [x,y])) {s with heap:=h''}:=by
   refine I.turnedLaid (t':=s.toks) (it:=[z,ti,to',u1,u2]) (fun q o hq e=> ?_) (fun q hq=> ?_) (Nat.le_refl _) ?_
   ·simp only [List.mem_cons,List.not_mem_nil,or_false,not_or] at hq
    exact sb.extBut _ _ hq.1 (a7 q o hq.1 hq.2.2.1 hq.2.2.2.1 hq.2.2.2.2 e)
   ·obtain⟨f0,f1,f2,f3,f4,f5⟩:=hf q hq
    exact⟨f0,f1,f3,f4,f5⟩
   ·exact⟨by simp only [List.length_cons,List.length_nil]; rw [sizeLine_eq]; decide,[u,v],.cons ru (.cons rv' .nil),⟨_,ht2,rfl,0,rfl⟩,_,ht2,rfl⟩
  have at1:∀{h h':Heap} {u l:Addr} {i:Nat},h.IsTupleIter u l i->(∀o,h.get? u=some o->h'.get? u=some o)->h'.IsTupleIter u l i:=fun⟨o,e,r⟩ f=>⟨o,f o e,r⟩
  refine⟨.ref s.heap.objs.size,_,I2,rfl,⟨_,hn,rfl,fun xs' ys' q1 q2=> ?_⟩,⟨gz,sb.extBut _ _ D.TIz (a7 _ _ D.TIz D.TITO D.TIi1 D.TIi2 g2),⟨_,_,sb.extBut _ _ D.TOz a2⟩,at1 a3 fun o g=>sb.extBut _ _ D.i1z g,at1 a4 fun o g=>sb.extBut _ _ D.i2z g⟩,fun q hq=> ?_⟩
  ·rw [I.tuple_inj q1 ha,I.tuple_inj q2 hb]
   exact⟨x,y,hx,hy,rfl⟩
  ·rw [ah0 (Nat.ne_of_lt (hfp q hq))]
   exact(hf q hq).1
 done:=by
  intro X hP hw hK hc i pins s σ H E I hf st hg
  subst hP hw hK
  obtain⟨xs,ys,ha,hb,he⟩:=hg
  obtain⟨g1,g2,⟨c,d,g3⟩,g4,g5⟩:=st
  obtain⟨its,rv,p,hz⟩:=I.tuple ha
  obtain⟨jts,rw',p',hz'⟩:=I.tuple hb
  have l1:=rv.length
  have l2:=rw'.length
  have hT:s.TypeIs (.ref z) "zip" :=⟨_,g1,rfl⟩
  unfold pyNext
  refine wpAny_bind (wpAny_attempt (wpAny_callSpecial?_slot (name:=Str.ofString "__next__") hT F.slot_zip_next (wpAny_call_entry F.slot_zip_next hT F.entry_zip_next
   (lF0 (xs:=its.toArray) (ys:=jts.toArray) (I.ok.hd hc) D g1 g2 g3 g4 g5 p p' (he.imp (fun q=>by simp; omega) fun q=>by simp; omega) fun h' e hk ge=> ?_) (F.args_zip_next_1 _))))
  obtain⟨o,ho,hc'⟩:=ge
  refine wpAny_bind (wpAny_isInstance (T:= "StopIteration") (b:=true) ⟨o,ho,hc'⟩ isSubtype_stop (wpAny_pure ⟨rfl,?_⟩))
  have nit:∀q u,H q=some u->q∉ [z,ti,to',u1,u2]:=fun q u e zz=>by rw [(hf q zz).1] at e; cases e
  have kk:∀q o,q∉ [z,ti,to',u1,u2]->s.heap.get? q=some o->h'.get? q=some o:=fun q o hq e=>by
   simp only [List.mem_cons,List.not_mem_nil,or_false,not_or] at hq
   exact hk q o hq.1 hq.2.2.1 hq.2.2.2.1 hq.2.2.2.2 e
  refine I.step (g':=s.gens) (d':=s.drawn) (t':=s.toks) (ch:=[z,ti,to',u1,u2]) (fun q hq=> ?_) (fun q o _ _ hc e _=> ?_) (fun q o _ _ hc e _=>⟨o.slots,?_⟩) (fun q o hc e n=>n) (fun q o hc e=>⟨o,?_⟩) (fun _ _ e=>e) (fun _ _ _ e=>e) (fun q ps e=>⟨#[],by rw [e]; simp⟩) (fun m hm=> ?_) (fun q u e=> ?_) I.bare
  ·obtain⟨f0,f1,f2,f3,f4,f5⟩:=hf q hq
   exact⟨f3,f1,f4,f5⟩
  ·exact kk q o hc e
  ·exact kk q o hc e
  ·exact kk q o hc e
  ·obtain⟨o,es,ep,ho,r⟩:=hm
   exact⟨o,es,ep,kk _ o (fun zz=>(hf _ zz).2.1 rfl) ho,r⟩
  ·refine(I.hok q u e).stay (fun c v hc g=>kk c v ?_ g) (fun _ g=>g) fun _ _ g=>g
   rcases hc with zz|zz
   ·rw [zz]; exact nit q u e
   ·exact nit c _ zz
 self:=fun A i s Q E st h=>wpAny_pyIter_zip st.1 h
section
variable {X:Cx}
def iZip (K:PySem.W.Frag)(ta:TA):TI:=fun σ H R=>ta σ H fun vs H1=>∃a b xs ys,vs=[.ref a,.ref b]/\SqT K H1 a xs/\SqT K H1 b ys/\R (Itz K a b) H1
theorem oR0 {a b:Expr}{ta:TA}{elts:List Expr}{x1:Nat}{tp p pos:Pos}(hg:Gl X "zip") (hm:X.mg "zip" =none) (ha:PA X [a,b] ta) (hv:bootBuiltins "zip" =some (.type "zip"):=by rfl) (hs:starEach [a,b] X.env=(false,eval a X.env)::starEach [b] X.env:=by rfl) (hpl:(backTo pos (starEach [b] X.env)).any (·.1)=false:=by rfl):
  PI X (.Tuple elts x1 tp) (.Call (.Name "zip" p) [a,b] [] pos) (iZip X.K ta):=by
 intro pins s σ H R I h
 refine wpAny_Call_Name_kw (df0 I hg hm hv (PyProof.Rows.callWith_type1 (thn (ha pos pins s σ H _ I h) fun us s1 ⟨vs,H1,I1,r1,q1⟩=> ?_) hs hpl) (by decide) (by decide))
 obtain⟨c,d,xs,ys,rfl,hc,hd,q⟩:=q1
 obtain⟨u,v,rfl,ru,rv⟩:=lu0 r1
 cases ru; cases rv
 obtain⟨its,_,p1,_⟩:=I1.tuple hc
 obtain⟨jts,_,p2,_⟩:=I1.tuple hd
 obtain⟨o1,e1,_⟩:=id p1
 obtain⟨o2,e2,_⟩:=id p2
 have lc:c<s1.heap.objs.size:=Heap.lt_size e1
 have ld:d<s1.heap.objs.size:=Heap.lt_size e2
 refine kB0 p1 p2 fun h' g1 g2 g3 g4 g5 sz kk=>wpAny_pyIter_zip g1 ?_
 have I2:Inv X pins σ H1 {s1 with heap:=h'}:=I1.kept (t':=s1.toks) kk
 have D:ZipApart (s1.heap.objs.size+4) (s1.heap.objs.size+2) (s1.heap.objs.size+3) s1.heap.objs.size (s1.heap.objs.size+1) c d:=by
  have up:∀{m n k:Nat},m<n->m≠n+k:=fun h=>Nat.ne_of_lt (Nat.lt_add_right _ h)
  have nn:∀(n j k:Nat),j≠k->n+j≠n+k:=fun n j k h q=>h (Nat.add_left_cancel q)
  exact⟨nn _ 2 4 (by decide),nn _ 3 4 (by decide),nn _ 0 4 (by decide),nn _ 1 4 (by decide),nn _ 2 3 (by decide),nn _ 2 0 (by decide),nn _ 2 1 (by decide),nn _ 3 0 (by decide),nn _ 3 1 (by decide),nn _ 0 1 (by decide),
   up (k:=4) lc,up (k:=3) lc,up (k:=0) lc,up (k:=1) lc,up (k:=4) ld,up (k:=3) ld,up (k:=0) ld,up (k:=1) ld⟩
 refine⟨_,[_,_,_,_,_],_,_,H1,rfl,I2,lI0 D,⟨g1,g2,⟨_,_,g3⟩,g4,g5⟩,fun q hq=> ?_,q⟩
 simp only [List.mem_cons,List.not_mem_nil,or_false] at hq
 rcases hq with rfl|rfl|rfl|rfl|rfl<;>exact I1.fpOk (by first|exact Nat.le_refl _|exact Nat.le_add_right _ _) (I1.hok.fresh (by first|exact Nat.le_refl _|exact Nat.le_add_right _ _))
end
end L2
namespace L2.BD
open PySem PySem.Spec PyProof.Rows
section
variable {X:Cx}{Y:Fx}{a b:Expr}{fa:En->Option (List T)}
def zipT:List T->List T->List T
 |x::xs,y::ys=> .tup [x,y]::zipT xs ys
 |_,_=> []
theorem gN0:∀{xs ys:List T} {i:Nat} {t:T},(zipT xs ys)[i]?=some t->∃x y,xs[i]?=some x/\ys[i]?=some y/\t=.tup [x,y]
 | [],_,_,_,e=>by simp [zipT] at e
 |_::_,[],_,_,e=>by simp [zipT] at e
 |x::xs,y::ys,0,t,e=>by simp [zipT] at e; exact⟨x,y,rfl,rfl,e.symm⟩
 |x::xs,y::ys,i+1,t,e=>by
  obtain⟨u,v,h1,h2,h3⟩:=gN0 (xs:=xs) (ys:=ys) (i:=i) (t:=t) (by simpa [zipT] using e)
  exact⟨u,v,by simpa using h1,by simpa using h2,h3⟩
theorem hM0:∀(xs ys:List T),xs.length<=(zipT xs ys).length\/ ys.length<=(zipT xs ys).length
 | [],_=> .inl (Nat.zero_le _)
 |_::_,[]=> .inr (Nat.zero_le _)
 |x::xs,y::ys=>(hM0 xs ys).imp Nat.succ_le_succ Nat.succ_le_succ
def mn0 (g:En->Option (List T)):En->Option (List T):=fun ε=>match g ε with|some [.tup xs,.tup ys]=>some (zipT xs ys)|_=>none
theorem pz0 {elts:List Expr}{x1:Nat}{tp p pos:Pos}(hg:Gl X "zip") (hm:X.mg "zip" =none) (ha:BA X Y [a,b] fa) (hv:bootBuiltins "zip" =some (.type "zip"):=by rfl) (hs:starEach [a,b] X.env=(false,eval a X.env)::starEach [b] X.env:=by rfl) (hpl:(backTo pos (starEach [b] X.env)).any (·.1)=false:=by rfl):
  SI X Y (.Tuple elts x1 tp) (.Call (.Name "zip" p) [a,b] [] pos) (mn0 fa):=PI.imp (oR0 hg hm ha hv hs hpl) fun σ H R ⟨F,ε,ts,r,hf,k⟩=>by
 unfold mn0 at hf
 split at hf
 ·rename_i ts us qf
  cases hf
  refine⟨F,ε,_,r,qf,fun F1 vs H1 m1 r1=> ?_⟩
  obtain⟨x,y,rfl,rx,ry⟩:=Rbs.two r1
  obtain⟨c,xs,rfl,hc,rxs⟩:=rx.tup_
  obtain⟨d,ys,rfl,hd,rys⟩:=ry.tup_
  refine⟨c,d,xs,ys,rfl,SqT.of hc,SqT.of hd,k F1 H1 _ m1 fun i F2 H2 kp tk=> ?_⟩
  have sc:SqT X.K H2 c xs:=SqT.of (kp.tup c _ hc)
  have sd:SqT X.K H2 d ys:=SqT.of (kp.tup d _ hd)
  refine⟨fun t e=> ?_,fun e=>⟨xs,ys,sc,sd,by rw [rxs.length,rys.length,e]; exact hM0 _ _⟩⟩
  obtain⟨u,v,h1,h2,rfl⟩:=gN0 e
  obtain⟨x,hx,rx⟩:=rxs.get h1
  obtain⟨y,hy,ry⟩:=rys.get h2
  refine⟨⟨xs,ys,x,y,sc,sd,hx,hy⟩,fun w H' ⟨pp,hp,e1,e2⟩=> ?_⟩
  obtain⟨x',y',q1,q2,q3⟩:=e2 xs ys sc sd
  rw [hx] at q1; cases q1
  rw [hy] at q2; cases q2
  subst e1 q3
  have ml:=Mono.laid (o:=.tup [x,y]) tk hp
  exact⟨F2,ml,.tup ai0 (.cons ((rx.keep kp).keep ml.keep) (.cons ((ry.keep kp).keep ml.keep) .nil))⟩
 ·cases hf
end
end L2.BD
set_option Elab.async false
set_option linter.all false
set_option maxRecDepth 100000
set_option maxHeartbeats 4000000
namespace L2
open PySem PySem.Spec PyProof.Rows
theorem mS0 {α β:Type} [DecidableEq α] [DecidableEq β]: @LawfulBEq (Sum α β) instBEqOfDecidableEq:=inferInstance
instance memKey (k:Key) (l:List Key):Decidable (k∈l):=decidable_of_iff (l.any (fun x=>decide (x=k))=true) (by simp)
def metK:List Key->List Key
 |ks=>ks.foldl (fun acc k=>if k∈acc then acc else acc++ [k]) []
theorem fQ0 (ks:List Key)(k:Key):metK (ks++ [k])=if k∈metK ks then metK ks else metK ks++ [k]:=by
 unfold metK
 rw [List.foldl_append]
 rfl
theorem oc0 (ks:List Key):(metK ks).length<=ks.length:=by
 have gen:∀(ks acc:List Key),(ks.foldl (fun acc k=>if k∈acc then acc else acc++ [k]) acc).length<=acc.length+ks.length:=by
  intro ks
  induction ks with
  |nil=>intro acc; simp
  |cons k ks ih=>
   intro acc
   rw [List.foldl_cons]
   refine Nat.le_trans (ih _) ?_
   split
   ·simp
   ·simp; omega
 have:=gen ks []
 simp only [List.length_nil,Nat.zero_add] at this
 exact this
section
variable {prog:Program}{w:World}{A:Around}{E:Value->Shared->Prop}{s:Shared}
theorem eN0 {h:Heap}{a:Addr}{S S':Key->Bool}{n n':Nat}(g:h.SetOf (aN0 prog w) a S n)(e:S=S')(en:n=n'):h.SetOf (aN0 prog w) a S' n':=by
 subst e en; exact g
theorem hH0 {h h':Heap}{a:Addr}{S:Key->Bool}{n:Nat}(g:h.SetOf (aN0 prog w) a S n)(f:∀o,h.get? a=some o->h'.get? a=some o):h'.SetOf (aN0 prog w) a S n:=by
 obtain⟨o,es,ep,tb,ho,r⟩:=g
 exact⟨o,es,ep,tb,f o ho,r⟩
theorem on0 {k:Key}{v:Value}(h:(aN0 prog w).is k v=true):v.scannable=true:=by
 rcases aQ0 (k:=k) (v:=v) h with⟨i,t,rfl,rfl⟩|⟨x,t,rfl,rfl⟩<;>rfl
theorem mw0 {R:Result->Shared->Prop}{u l:Addr}{its:Array Value}{ks:List Key}(hh:A.in1.handled=none)(hne:l≠u)(S:Addr)(nu:S≠u)(nl:S≠l)(hks:ks.length=its.size)(hk:∀(i:Nat) v k,its[i]?=some v->ks[i]?=some k->(aN0 prog w).is k v=true)(hb:its.size+1<scanBound):
  ∀(m i:Nat) (s:Shared),its.size - i=m->i<=its.size->s.heap.IsListIter u l i->s.heap.IsList l its->s.heap.SetOf (aN0 prog w) S (fun k=>decide (k∈metK (ks.take i))) (metK (ks.take i)).length->
   (∀h' t',h'.SetOf (aN0 prog w) S (fun k=>decide (k∈metK ks)) (metK ks).length->(∀b o,b≠S->b≠u->s.heap.get? b=some o->h'.get? b=some o)->R (.ok (.ret .none)) {s with heap:=h',toks:=t'})->
   codeAny (model prog w) A (.builtin "set.update.loop" ⟨[.ref S,.ref u],[]⟩) R s:=by
 intro m
 induction m with
 |zero=>
  intro i s hm hi gu gl gs k
  have e:i=its.size:=by omega
  subst e
  refine codeAny_builtin F.entry_set_update_loop ?_; rw [Around.under_plainId F.plain_set_update_loop _]
  show wpAny _ A.in1 (pyNext (.ref u)>>=_) _ _ s; refine wpAny_bind (wpAny_pyNext_list_end hh gu gl (by simp) fun h' eb=> ?_)
  show wpAny _ A.in1 (ret Value.none) _ _ _; refine wpAny_pure ?_
  rw [<- hks,List.take_length] at gs
  exact k h' s.toks (hH0 gs fun o g=>eb _ o nu g) fun b o n1 n2 g=>eb b o n2 g
 |succ m ih=>
  intro i s hm hi gu gl gs k
  have hlt:i<its.size:=by omega
  have hlk:i<ks.length:=by omega
  have kv:=hk i its[i] ks[i] (Array.getElem?_eq_getElem hlt) (List.getElem?_eq_getElem hlk)
  refine codeAny_builtin F.entry_set_update_loop ?_; rw [Around.under_plainId F.plain_set_update_loop _]
  show wpAny _ A.in1 (pyNext (.ref u)>>=_) _ _ s; refine wpAny_bind (wpAny_pyNext_list_item gu gl (Array.getElem?_eq_getElem hlt) fun h1 gu1 sb1=> ?_)
  have gs1:=hH0 gs fun o g=>(sb1.2 S nu).trans g
  show wpAny _ A.in1 (holding [its[i]] (setAdd S its[i])>>=_) _ _ _; refine wpAny_bind (wpAny_holding ?_); unfold setAdd; refine wpAny_holding (wpAny_bind ((aN0 prog w).pyHash kv ?_))
  have room:(metK (ks.take i)).length+1<scanBound:=by have:=oc0 (ks.take i); rw [List.length_take] at this; omega
  refine wpAny_setAddHashed_of (knd:=aN0 prog w) (s:={s with heap:=h1,toks:=s.toks+1}) kv (on0 kv) gs1 room fun h2 sb2 gs2=> ?_
  have et:ks.take (i+1)=ks.take i++ [ks[i]]:=by rw [List.take_add_one,List.getElem?_eq_getElem hlk]; rfl
  have gs3:h2.SetOf (aN0 prog w) S (fun k=>decide (k∈metK (ks.take (i+1)))) (metK (ks.take (i+1))).length:=by
   refine eN0 gs2 (funext fun q=> ?_) ?_
   ·rw [et,fQ0]
    by_cases z:ks[i]∈metK (ks.take i)
    ·rw [if_pos z]
     by_cases y:q=ks[i]
     ·subst y; simp [z]
     ·simp [y]
    ·rw [if_neg z]
     simp [List.mem_append,Bool.decide_or]
   ·rw [et,fQ0]
    by_cases z:ks[i]∈metK (ks.take i)
    ·simp [z]
    ·simp [z]
  have at1:∀{h h':Heap},h.IsListIter u l (i+1)->(∀o,h.get? u=some o->h'.get? u=some o)->h'.IsListIter u l (i+1):=fun⟨o,e,r⟩ f=>⟨o,f o e,r⟩
  refine wpAny_pure ⟨plainId_quiet F.plain_set_update_loop _,ih (i+1) _ (by omega) hlt (at1 gu1 fun o g=>(sb2.2 u (Ne.symm nu)).trans g) ((gl.extBut sb1.extBut hne).extBut sb2.extBut (Ne.symm nl)) gs3 fun h3 t3 g3 kk=> ?_⟩
  exact k h3 t3 g3 fun b o n1 n2 g=>kk b o n1 n2 ((sb2.2 b n1).trans ((sb1.2 b n2).trans g))
theorem kz0 {l:Addr}{its:Array Value}{ks:List Key}{Q:Value->Shared->Prop}(hh:A.handled=none)(gl:s.heap.IsList l its)(hks:ks.length=its.size)(hk:∀(i:Nat) v k,its[i]?=some v->ks[i]?=some k->(aN0 prog w).is k v=true)(hb:its.size+1<scanBound)
  (k:∀h' t',h'.SetOf (aN0 prog w) s.heap.objs.size (fun k=>decide (k∈metK ks)) (metK ks).length->(∀b o,b<s.heap.objs.size->s.heap.get? b=some o->h'.get? b=some o)->Q (.ref s.heap.objs.size) {s with heap:=h',toks:=t'}):
  wpAny (model prog w) A (call (.type "set") [.ref l]) Q E s:=by
 obtain⟨c,tl,mro⟩:=F.called_set.mro
 have made:=F.called_set.made
 have sub:=F.called_set.sub
 refine wpAny_call (codeAny_of_tree ?_); show wpAny _ _ (callAny (.type "set") _) _ _ _
 refine wpAny_pure ⟨Code.quiet_builtin _ (by decide +kernel),codeAny_builtin F.entry_type_call ?_⟩; rw [Around.under_plain (weight_type_call_type "set" [.ref l] []) rfl]
 have n1:=F.called_set.notType
 have n2:=F.called_set.canCreate
 have n3:=F.typeCall_set_1 (.ref l)
 (repeat (any_goals (first|assumption|wp_step)))
 refine codeAny_mono (code_set_new_1 (.ref l) (E:=E) (Q₁:=fun obj s₁=>∃led:Bool,obj=.ref s.heap.objs.size/\s₁={s with heap:=s.heap.push {cls:=.type "set",dict:=none,data:=.set #[] 0 (.fresh 0 0 led)}}) fun led=>⟨led,rfl,rfl⟩) fun r s1 hr=> ?_
 cases r with
 |error e=>exact hr
 |ok fl=>
  cases fl with
  |ret obj=>
   obtain⟨led,rfl,rfl⟩:=hr
   have gS:(s.heap.push {cls:=.type "set",dict:=none,data:=.set #[] 0 (.fresh 0 0 led)}).get? s.heap.objs.size=some {cls:=.type "set",dict:=none,data:=.set #[] 0 (.fresh 0 0 led)}:=Heap.get?_push_size _ rfl
   have gT:Shared.TypeIs {s with heap:=s.heap.push {cls:=.type "set",dict:=none,data:=.set #[] 0 (.fresh 0 0 led)}} (.ref s.heap.objs.size) "set" :=⟨_,gS,rfl⟩
   have il:=F.called_set.init.lookup
   have ib:=F.called_set.init.bind (.ref s.heap.objs.size)
   (repeat (any_goals (first|assumption|wp_step)))
   refine codeAny_mono (codeAny_call_builtin (R:=wants (fun r s₂=>r=.none/\∃h' tk,s₂={s with heap:=h',toks:=tk}/\h'.SetOf (aN0 prog w) s.heap.objs.size (fun k=>decide (k∈metK ks)) (metK ks).length/\
     (∀b o,b<s.heap.objs.size->s.heap.get? b=some o->h'.get? b=some o)) E) F.called_set.init.plain F.entry_set_init (check_set_init_1 gT ?_)) fun r₂ s₂ hr₂=> ?_
   ·obtain⟨⟨oc,od,ob,os⟩,go,cl,nl,dl⟩:=id gl
    simp only at cl dl
    subst cl; subst dl
    have go':(s.heap.push {cls:=.type "set",dict:=none,data:=.set #[] 0 (.fresh 0 0 led)}).get? l=some {cls:=.type "list",dict:=od,data:=.seq its nl,slots:=os}:=Heap.get?_push_of_some _ go
    have m1:=F.sub_list_set
    have m2:=F.sub_list_frozenset
    have m3:(Value.type "list" ==Value.type "dict")=false:=by decide
    have gl1:(s.heap.push {cls:=.type "set",dict:=none,data:=.set #[] 0 (.fresh 0 0 led)}).IsList l its:=⟨_,go',rfl,nl,rfl⟩
    unfold Builtin.«set.__init__» noKeywords Builtin.Frozenset.updateFrom
    generalize hPI:pyIter=PI
    (wp_walk; subst hPI)
    refine wpAny_pyIter_list gl1 (wpAny_bind (wpAny_runValue ?_))
    have ll:l<s.heap.objs.size:=Heap.lt_size go
    have h3:A.in1.in1.in1.handled=none:=by simp [hh]
    refine mw0 (its:=its) (ks:=ks) (l:=l) h3 (by rw [Heap.size_push]; exact Nat.ne_of_lt (Nat.lt_succ_of_lt ll)) s.heap.objs.size (by rw [Heap.size_push]; exact Nat.ne_of_lt (Nat.lt_succ_self _)) (Nat.ne_of_gt ll) hks hk hb (its.size - 0) 0 _ (by omega) (Nat.zero_le _) ⟨_,Heap.get?_push_size _ rfl,rfl,rfl⟩ (gl1.push _) ?_ fun h' t' g' kk=> ?_
    ·exact eN0 (@Obj.SetObjOf.setOf _ _ _ _ instBEqOfDecidableEq mS0 _ _ _ _ _ _ (@PyProof.Rows.setObjOf_fresh prog w Key _ instBEqOfDecidableEq mS0 (aN0 prog w) led) (Heap.get?_push_of_some _ gS) (by unfold scanBound; omega)) (funext fun q=>by exact(decide_eq_false (by rw [List.take_zero]; exact List.not_mem_nil)).symm) rfl
    ·show wpAny _ _ _ _ _ _; refine wpAny_pure ?_; show wpAny _ _ (ret Value.none) _ _ _
     refine wpAny_pure ⟨rfl,h',t',rfl,g',fun b o hb e=> ?_⟩
     exact kk b o (Nat.ne_of_lt hb) (by rw [Heap.size_push]; exact Nat.ne_of_lt (Nat.lt_succ_of_lt hb)) (Heap.get?_push_of_some _ (Heap.get?_push_of_some _ e))
   ·cases r₂ with
    |error e=>exact hr₂
    |ok fl₂=>
     cases fl₂ with
     |ret r=>
      obtain⟨rfl,h',tk,rfl,gS',kk⟩:=hr₂
      (repeat (any_goals (first|assumption|wp_step)))
      exact k _ _ gS' kk
     |_=>exact hr₂.elim
  |_=>exact hr.elim
end
section
variable {X:Cx}{e:Expr}{p p2 pos pos2:Pos}
theorem iP0 {te:TE}(hc:X.calm=true)(hgl:Gl X "len") (hml:X.mg "len" =none) (hgs:Gl X "set") (hms:X.mg "set" =none) (he:PE X e te) (hv:bootBuiltins "len" =some (.builtin "len"):=by rfl) (hv2:bootBuiltins "set" =some (.type "set"):=by rfl)
  (hs:starEach [.Call (.Name "set" p2) [e] [] pos2] X.env=[(false,eval (.Call (.Name "set" p2) [e] [] pos2) X.env)]:=by rfl) (hs2:starEach [e] X.env=[(false,eval e X.env)]:=by rfl):
  PE X (.Call (.Name "len" p) [.Call (.Name "set" p2) [e] [] pos2] [] pos) (fun σ H Q=>te σ H fun x H1=>∃a ks,x=.ref a/\SqL X.K H1 a (ks.map kV)/\ks.length+1<scanBound/\Q (.int ((metK ks).length:Int)) H1):=by
 intro pins s σ H Q I h
 refine wpAny_Call_Name_kw (df0 I hgl hml hv ?_ (by decide) (by decide))
 refine PyProof.Rows.callWith_builtin1 ?_ hs rfl
 rw [hs]
 show wpAny _ _ (spliced [(false,_)]) _ _ s
 refine Calls.spliced_cons ?_
 refine wpAny_Call_Name_kw (df0 I hgs hms hv2 ?_ (by decide) (by decide))
 refine PyProof.Rows.callWith_type1 ?_ hs2 rfl
 rw [hs2]
 show wpAny _ _ (spliced [(false,_)]) _ _ s
 refine Calls.spliced_cons (thn (he pins s σ H _ I h) fun u s1 ⟨x,H1,I1,r1,a,ks,ev,ha,hb,q⟩=>Calls.spliced_nil ?_)
 subst ev
 cases r1
 obtain⟨its,rv,pl,_⟩:=I1.list ha
 have hl:ks.length=its.toArray.size:=by rw [List.size_toArray,<- rv.length,List.length_map]
 refine kz0 (ks:=ks) (I1.ok.hd hc) pl.isList hl (fun i v k g1 g2=> ?_) (by rw [<- hl]; exact hb) fun h' t' gS kk=> ?_
 ·obtain⟨u,h1,h2⟩:=rv.get (i:=i) (x:=kV k) (by rw [List.getElem?_map,g2]; rfl)
  have:its[i]?=some v:=by simpa using g1
  rw [this] at h1
  cases h1
  exact mA0 h2
 ·have I2:Inv X pins σ H1 {s1 with heap:=h',toks:=t'}:=I1.kept fun b o g=>kk b o (Heap.lt_size g) g
  refine Calls.spliced_nil ?_
  obtain⟨o,es,ep,tb,ho,hex,hd,_,_,hbd,hf,hn⟩:=gS
  refine call_len_set ho hex hd hf (by unfold scanBound at hbd; omega) ⟨.int _,H1,(I2.tok _),⟨_,rfl⟩,?_⟩
  rw [hn]
  exact q
end
end L2
set_option Elab.async false
set_option linter.all false
set_option maxRecDepth 100000
set_option maxHeartbeats 4000000
namespace L2
open PySem PySem.Spec PyProof.Rows
def maxI:Int->List Int->Int
 |m,[]=>m
 |m,x::xs=>maxI (if x>m then x else m) xs
theorem fH0 (bt:Nat->Nat->Bool)(k:Nat):argBest bt (k+1)=if bt (k+1) (argBest bt k) then k+1 else argBest bt k:=rfl
theorem fw0:∀(xs:List Int) (m y:Int),maxI m (xs++ [y])=if y>maxI m xs then y else maxI m xs
 | [],m,y=>rfl
 |x::xs,m,y=>by
  show maxI _ (xs++ [y])=_
  rw [fw0 xs]
  rfl
theorem ew0 (n:Int)(ns:List Int)(bt:Nat->Nat->Bool)(hb:∀i j x y,(n::ns)[i]?=some x->(n::ns)[j]?=some y->bt i j=decide (x>y)):∀k,k<=ns.length->(n::ns)[argBest bt k]?=some (maxI n (ns.take k))
 |0,_=>rfl
 |k+1,h=>by
  have ih:=ew0 n ns bt hb k (by omega)
  have hk:k<ns.length:=by omega
  have e1:(n::ns)[k+1]?=some ns[k]:=by rw [List.getElem?_cons_succ]; exact List.getElem?_eq_getElem hk
  have et:ns.take (k+1)=ns.take k++ [ns[k]]:=by rw [List.take_add_one,List.getElem?_eq_getElem hk]; rfl
  rw [fH0,hb _ _ _ _ e1 ih,et,fw0]
  by_cases c:ns[k]>maxI n (ns.take k)
  ·rw [decide_eq_true c,if_pos rfl,if_pos c]; exact e1
  ·rw [decide_eq_false c,if_neg Bool.false_ne_true,if_neg c]; exact ih
section
variable {X:Cx}
theorem kS0 {ns:List Int}{its:List Value}(rv:Vals (ns.map V.int) its){i:Nat}{v:Value}(h:its.toArray[i]?=some v):∃m t,ns[i]?=some m/\v=.int m t:=by
 have h:its[i]?=some v:=by simpa using h
 have hi:i<its.length:=(List.getElem?_eq_some_iff.mp h).1
 have hn:i<ns.length:=by have:=rv.length; rw [List.length_map] at this; omega
 obtain⟨u,h1,h2⟩:=rv.get (i:=i) (x:=V.int ns[i]) (by rw [List.getElem?_map,List.getElem?_eq_getElem hn]; rfl)
 rw [h] at h1
 cases h1
 obtain⟨t,rfl⟩:=h2
 exact⟨_,t,List.getElem?_eq_getElem hn,rfl⟩
theorem iF0 (hc:X.calm=true):dl0 X (.builtin "max") (fun xs H Q=>∃(a:Addr) (n:Int) (ns:List Int),xs=[.ref a]/\(SqL X.K H a ((n::ns).map V.int)\/ SqT X.K H a ((n::ns).map V.int))/\Q (.int (maxI n ns)) H):=by
 intro pins s σ H xs us Q I r h
 obtain⟨a,n,ns,rfl,ha,q⟩:=h
 obtain⟨u,rfl,ru⟩:=gr0 r
 cases ru
 have hh:X.A.in1.handled=none:=by simp [I.ok.hd hc]
 have cmp:∀{its:List Value},Vals ((n::ns).map V.int) its->CmpOf X.prog X.w X.A.in1 CmpOp.Gt (fun i v=>its.toArray[i]?=some v) (fun i j=>decide ((n::ns).getD i 0>(n::ns).getD j 0)):=by
  intro its rv i j vi vj s Q E h1 h2 q
  obtain⟨x,t,e1,rfl⟩:=kS0 rv h1
  obtain⟨y,t',e2,rfl⟩:=kS0 rv h2
  refine gt_int ?_
  have q:Q (.bool (decide ((n::ns).getD i 0>(n::ns).getD j 0))) s:=q
  rw [List.getD_eq_getElem?_getD,List.getD_eq_getElem?_getD,e1,e2] at q
  exact q
 have bt:∀i j x y,(n::ns)[i]?=some x->(n::ns)[j]?=some y->(fun i j=>decide ((n::ns).getD i 0>(n::ns).getD j 0)) i j=decide (x>y):=fun i j x y e1 e2=>by
  show decide ((n::ns).getD i 0>(n::ns).getD j 0)=_
  rw [List.getD_eq_getElem?_getD,List.getD_eq_getElem?_getD,e1,e2]; rfl
 have fin:∀{its:List Value} {v:Value},Vals ((n::ns).map V.int) its->its.toArray[argBest (fun i j=>decide ((n::ns).getD i 0>(n::ns).getD j 0)) (its.toArray.size - 1)]?=some v->RelV (V.int (maxI n ns)) v:=fun{its v} rv g=>by
  have el:its.toArray.size - 1=ns.length:=by have:=rv.length; simp at this; rw [List.size_toArray,<- this]; omega
  rw [el] at g
  obtain⟨m,t,e,rfl⟩:=kS0 rv g
  rw [ew0 n ns _ bt _ (Nat.le_refl _),List.take_length] at e
  cases e
  exact⟨t,rfl⟩
 have pos:∀{its:List Value},Vals ((n::ns).map V.int) its->0<its.toArray.size:=fun{its} rv=>by have:=rv.length; simp at this; rw [List.size_toArray,<- this]; omega
 rcases ha with ha|ha
 ·obtain⟨its,rv,pl,_⟩:=I.list ha
  have la:a<s.heap.objs.size:=let ⟨o,e,_⟩:=pl.isList; Heap.lt_size e
  refine call_max_walk (wpAny_pyIter_list pl.isList ⟨_,_,_,_,_,_,_,rfl,Walks.list hh s.heap.objs.size a (Nat.ne_of_lt la) its.toArray,⟨⟨_,Heap.get?_push_size _ rfl,rfl,rfl⟩,pl.isList.push _⟩,fun b hb=> ?_,pos rv,cmp rv,fun v h' tk g k=> ?_⟩)
  ·rw [Heap.size_push]
   rcases List.mem_cons.mp hb with rfl|hb
   ·exact Nat.lt_succ_self _
   ·rw [List.mem_singleton.mp hb]; exact Nat.lt_succ_of_lt la
  ·exact⟨.int _,H,I.kept fun b o e=>k b o (fun z=>by rw [List.mem_singleton.mp z] at e; exact absurd (Heap.lt_size e) (Nat.lt_irrefl _)) (Heap.get?_push_of_some _ e),fin rv g,q⟩
 ·obtain⟨its,rv,pl,_⟩:=I.tuple ha
  have pl:s.heap.IsTuple a its.toArray:=pl
  have la:a<s.heap.objs.size:=let ⟨o,e,_⟩:=pl; Heap.lt_size e
  refine call_max_walk (wpAny_pyIter_tuple pl ⟨_,_,_,_,_,_,_,rfl,Walks.tuple hh s.heap.objs.size a (Nat.ne_of_lt la) its.toArray,⟨⟨_,Heap.get?_push_size _ rfl,rfl,rfl⟩,pl.push _⟩,fun b hb=> ?_,pos rv,cmp rv,fun v h' tk g k=> ?_⟩)
  ·rw [Heap.size_push]
   rcases List.mem_cons.mp hb with rfl|hb
   ·exact Nat.lt_succ_self _
   ·rw [List.mem_singleton.mp hb]; exact Nat.lt_succ_of_lt la
  ·exact⟨.int _,H,I.kept fun b o e=>k b o (fun z=>by rw [List.mem_singleton.mp z] at e; exact absurd (Heap.lt_size e) (Nat.lt_irrefl _)) (Heap.get?_push_of_some _ e),fin rv g,q⟩
end
end L2
namespace L2.BD
open PySem PySem.Spec PyProof.Rows
section
variable {X:Cx}{Y:Fx}{e a b:Expr}{pos p p2 pos2:Pos}{f:En->Option T}{fa:En->Option (List T)}
def maxO:List Int->Option T
 |n::ns=>some (.int (maxI n ns))
 | []=>none
def φMax:List T->Option T
 | [.lst ts]=>(dp0 ts).bind maxO
 | [.tup ts]=>(dp0 ts).bind maxO
 |_=>none
theorem gk0 {ts:List T}{u:T}(h:(dp0 ts).bind maxO=some u):∃n ns,ts=(n::ns).map T.int/\u=.int (maxI n ns):=by
 cases q:dp0 ts with
 |none=>rw [q] at h; cases h
 |some ms=>
  rw [q] at h
  cases ms with
  |nil=>cases h
  |cons n ns=>cases h; exact⟨n,ns,gT0 q,rfl⟩
theorem o_max {K:PySem.W.Frag}:OpN (fun xs H Q=>∃(a:Addr) (n:Int) (ns:List Int),xs=[.ref a]/\(SqL K H a ((n::ns).map V.int)\/ SqT K H a ((n::ns).map V.int))/\Q (.int (maxI n ns)) H) φMax:=by
 intro F H xs ts u Q tk r h k
 unfold φMax at h
 split at h
 ·obtain⟨x,rfl,rx⟩:=Rbs.one r
  obtain⟨a,ys,rfl,ha,ry⟩:=rx.lst_
  obtain⟨n,ns,rfl,rfl⟩:=gk0 h
  rw [ry.ints] at ha
  exact⟨a,n,ns,rfl,.inl (SqL.of ha),k F _ H (.refl tk) (.int _)⟩
 ·obtain⟨x,rfl,rx⟩:=Rbs.one r
  obtain⟨a,ys,rfl,ha,ry⟩:=rx.tup_
  obtain⟨n,ns,rfl,rfl⟩:=gk0 h
  rw [ry.ints] at ha
  exact⟨a,n,ns,rfl,.inr (SqT.of ha),k F _ H (.refl tk) (.int _)⟩
 ·cases h
theorem mJ0 (hc:X.calm=true)(hg:Gl X "max") (hm:X.mg "max" =none) (ha:BA X Y [a] fa) (hv:bootBuiltins "max" =some (.builtin "max"):=by rfl) (he:starEach [a] X.env=[(false,eval a X.env)]:=by rfl):SE X Y (.Call (.Name "max" p) [a] [] pos) (aw0 φMax fa):=dN0 (iF0 hc) o_max hg hm hv ha (by decide) (by decide) he rfl
def fV0:List T->Option (List Str)
 | []=>some []
 | .str i::ts=>(fV0 ts).map (i:: ·)
 |_=>none
theorem jO0 (ns:List Str):fV0 (ns.map T.str)=some ns:=by
 induction ns with
 |nil=>rfl
 |cons n ns ih=>show (fV0 (ns.map T.str)).map (n:: ·)=_; rw [ih]; rfl
theorem hz0:∀{ts:List T} {ns:List Str},fV0 ts=some ns->ts=ns.map T.str
 | [],ns,h=>by cases h; rfl
 | .str i::ts,ns,h=>by
  have h:(fV0 ts).map (i:: ·)=some ns:=h
  cases q:fV0 ts with
  |none=>rw [q] at h; cases h
  |some ms=>rw [q] at h; cases h; rw [hz0 q]; rfl
theorem Rps.strs {F:Addr->Prop}{H:Hp}:∀{xs:List V} {ns:List Str},Rps F H xs (ns.map T.str)->xs=ns.map V.str
 |_,[],h=>by cases h; rfl
 |_,n::ns,h=>by
  cases h with
  |cons h r=>cases h; rw [Rps.strs r]; rfl
def dr0 (f:En->Option T):En->Option T:=fun ε=>match f ε with
 |some (.lst ts)=>(fV0 ts).bind fun ns=>if ns.length<=1000 then some (.int (metK (ns.map Sum.inr)).length) else none
 |_=>none
theorem kF0 (hc:X.calm=true)(hgl:Gl X "len") (hml:X.mg "len" =none) (hgs:Gl X "set") (hms:X.mg "set" =none) (he:BE X Y e f)
  (hs:starEach [.Call (.Name "set" p2) [e] [] pos2] X.env=[(false,eval (.Call (.Name "set" p2) [e] [] pos2) X.env)]:=by rfl) (hs2:starEach [e] X.env=[(false,eval e X.env)]:=by rfl):
  SE X Y (.Call (.Name "len" p) [.Call (.Name "set" p2) [e] [] pos2] [] pos) (dr0 f):=PE.imp (iP0 hc hgl hml hgs hms he rfl rfl hs hs2) fun σ H Q ⟨F,ε,u,r,hf,k⟩=>by
 unfold dr0 at hf
 split at hf
 ·rename_i ts qf
  cases q:fV0 ts with
  |none=>rw [q] at hf; cases hf
  |some ns=>
   rw [q] at hf
   simp only [Option.bind_some] at hf
   split at hf
   ·rename_i hb
    cases hf
    refine⟨F,ε,_,r,qf,fun F1 v H1 m1 rv=> ?_⟩
    obtain⟨a,xs,rfl,ha,rs⟩:=rv.lst_
    rw [hz0 q] at rs
    rw [rs.strs] at ha
    refine⟨a,ns.map Sum.inr,rfl,?_,?_,k F1 _ H1 m1 (.int _)⟩
    ·rw [List.map_map]; exact SqL.of ha
    ·rw [List.length_map]; unfold scanBound; omega
   ·cases hf
 ·cases hf
def ix0 (f:Str)(t:T):List (Str × T)->List (Str × T)
 | []=> [(f,t)]
 | (g,x)::r=>if g=f then(g,t)::r else(g,x)::ix0 f t r
theorem Rpf.put {F:Addr->Prop}{H:Hp}{n:Str}{v:V}{t:T}(h:Rp F H v t):∀{fs:List (Str × V)} {ts:List (Str × T)},Rpf F H fs ts->Rpf F H (putF n v fs) (ix0 n t ts)
 |_,_,.nil=> .cons h .nil
 |_,_,.cons (k:=k) q r=>by
  unfold putF ix0
  by_cases e:k=n
  ·rw [if_pos e,if_pos e]; exact .cons h r
  ·rw [if_neg e,if_neg e]; exact .cons q (Rpf.put h r)
def cl0 (C:Addr)(i:Nat)(n:Str)(f:En->Option T):En->Option Fl:=fun ε=>match ε[i]? with
 |some (.ow (.ins C' fs))=>if C'=C/\fs.length<1000 then(f ε).bind fun t=>some (.nx (ε.set i (.ow (.ins C' (ix0 n t fs))))) else none
 |_=>none
theorem cI0 {C:Addr}{i:Nat}{x n:Str}{px apos:Pos}(hx:PE X (.Name x px) (tVar i))(c:Cls X.K C)(na:NoAttr X.K C n)(he:SE X Y e f)(hs:swapsWith e (some (.Attribute (.Name x px) n apos)) pos.line X.env=pure false:=by rfl):
  SS X Y (.Assign [.Attribute (.Name x px) n apos] e pos) (cl0 C i n f):=PS.imp (eX0 hx he hs) fun D σ H ⟨F,ε,fl,r,hg,k⟩=>by
 unfold cl0 at hg
 split at hg
 ·rename_i C' fs e1
  split at hg
  ·rename_i hc
   obtain⟨rfl,hl⟩:=hc
   cases q:f ε with
   |none=>rw [q] at hg; cases hg
   |some t=>
    rw [q] at hg
    cases hg
    refine⟨F,ε,t,r,q,fun F1 v H1 m1 rv=> ?_⟩
    obtain⟨a,s1,nf,h0,hr⟩:=(r.mono m1).ow i _ e1
    obtain⟨dx,xs,ha,rf⟩:=hr.ins_
    refine⟨_,s1,a,C',dx,xs,rfl,ha,c,na,by rw [rf.length]; exact hl,?_⟩
    have hne:∀ys,H1 a≠some (.tup ys):=fun ys z=>by rw [ha] at z; cases z
    have kp:Keep F1 H1 F1 (upd H1 a (.ins C' dx (putF n v xs))):=⟨fun _ h=>h,fun b u f q=>by rw [ah0 (fun(z:b=a)=>nf (z▸f))]; exact q,fun b ys q=>by rw [ah0 (fun(z:b=a)=>hne ys (z▸q))]; exact q⟩
    obtain⟨r2,k2⟩:=(r.mono m1).write (o:=.ins C' dx (putF n v xs)) (t':=.ins C' (ix0 n t fs)) e1 s1 hne (.ins ai0 ((rf.put rv).keep kp)) (fun _=>rfl)
    exact k F1 σ _ (m1.keep.trans k2) r2
  ·cases hg
 ·cases hg
end
def spI (C:Addr)(gs:List T->Option (List (Str × T))):Sp:=fun vs H Q _=>∃(F:Addr->Prop) (x dx:Addr) (us:List V) (ts:List T) (fts:List (Str × T)),vs=.ref x::us/\H x=some (.ins C dx [])/\¬F x/\Trk F H/\Rps F H us ts/\gs ts=some fts/\
 ∀F' H',(∀b o,b≠x->H b=some o->H' b=some o)->(∀a,F a->F' a)->(∀a,F' a->F a\/ H a=none\/ a=x)->¬F' x->Trk F' H'->Rp1 F' H' x (.ins C fts)->Q .non H'
def gC0 (C:Addr)(N:List Str)(ts:List T):En:=.ow (.ins C [])::cC0 N.tail ts
def retI (C:Addr):Fl->Option (List (Str × T))
 | .nx (.ow (.ins C' fs)::_)=>if C'=C then some fs else none
 |_=>none
theorem mj0 {C dx x:Addr}{n:Str}{N:List Str}{F:Addr->Prop}{H:Hp}{us:List V}{ts:List T}(tk:Trk F H)(hx:H x=some (.ins C dx []))(nf:¬F x)(r:Rps F H us ts):
  Rel ⟨fun b=>if b=x then none else H b,F,fun a=>a=x,fun _ _=>False⟩ F (gC0 C (n::N) ts) (start (n::N) (.ref x::us)) H:=by
 have R:=dQ0 (N:=N) tk r
 have es:start (n::N) (.ref x::us)=some (.ref x)::start N us:=by
  unfold start
  simp only [List.map_cons,List.length_cons,List.cons_append,Nat.add_sub_add_right]
 rw [es]
 have noO:∀(i:Nat) t,(cC0 N ts)[i]?≠some (.ow t):=fun i t e=>by
  unfold cC0 at e
  by_cases hi:i<ts.length
  ·rw [List.getElem?_append_left (by simpa using hi),List.getElem?_map] at e
   cases q:ts[i]? with
   |none=>rw [q] at e; cases e
   |some t'=>rw [q] at e; cases e
  ·rw [List.getElem?_append_right (by simpa using hi),List.getElem?_replicate] at e
   split at e<;>cases e
 refine⟨?_,fun i t e=> ?_,fun i t e=> ?_,fun i j t u a ne e1 e2 s1 s2=> ?_,fun b o h=> ?_,fun _ h=>h,fun _ h=> .inl h,tk,fun i t a e hi s1=> ?_,fun i v t e=> ?_⟩
 ·show (cC0 N ts).length+1=_
  rw [List.length_cons,R.len]
 ·cases i with
  |zero=>cases e
  |succ i=>exact R.sh i t e
 ·cases i with
  |zero=>cases e; exact⟨x,rfl,nf,if_pos rfl,.ins hx .nil⟩
  |succ i=>exact absurd e (noO i t)
 ·cases i with
  |zero=>
   cases j with
   |zero=>exact ne rfl
   |succ j=>exact noO j u e2
  |succ i=>exact noO i t e1
 ·have h:(if b=x then none else H b)=some o:=h
  by_cases z:b=x
  ·rw [if_pos z] at h; cases h
  ·rw [if_neg z] at h; exact h
 ·cases i with
  |zero=>cases s1; rfl
  |succ i=>exact absurd e (noO i t)
 ·cases i with
  |zero=>cases e
  |succ i=>exact R.fx i v t e
section
variable {P:Program}{w:World}{K:PySem.W.Frag}{mg:Str->Option Value}{base:Heap}
theorem om0 {x qual n:Str}{st:Stmt}{f C:Addr}{fd:FuncData}{N ps:List Str}{k:Nat}{gs:List T->Option (List (Str × T))}(Fn:Fun K x qual st f fd)(S:FnScope (n::N) ps (af0 st))
  (hlen:∀ts r,gs ts=some r->ts.length+1=ps.length)
  (hbody:∀(cdv:Value) (A:Around) (outer:List Env) (s:Shared) (H:Hp) (E:XK) (Y:Fx),Room k (A.deeper (envOfC qual (af0 st) s.heap.objs.size f cdv))->
   ∃g,SSs ((cxOf CX0 P w K mg base (n::N) qual (af0 st) f cdv A outer s H E).nox) Y (bC0 st) g/\∀ts r,gs ts=some r->(g (gC0 C (n::N) ts)).bind (retI C)=some r):FnOk P w K mg base CX0 (k+1) f fd ps (spI C gs):=by
 refine Fn.ok S (fun vs H Q E h=> ?_) fun cdv A outer s H vs Q E hr h=> ?_
 ·obtain⟨F,x,dx,us,ts,fts,rfl,_,_,_,r,e,_⟩:=h
  rw [List.length_cons,r.length]
  exact hlen ts _ e
 ·obtain⟨F,x,dx,us,ts,fts,rfl,hx,nf,tk,r,e,q⟩:=h
  obtain⟨g,hg,hv⟩:=hbody cdv A outer s H E ⟨fun b=>if b=x then none else H b,F,fun a=>a=x,fun _ _=>False⟩ hr
  refine⟨_,hg,?_⟩
  have hv:=hv ts fts e
  cases qg:g (gC0 C (n::N) ts) with
  |none=>rw [qg] at hv; cases hv
  |some fl=>
   rw [qg] at hv
   have hv:retI C fl=some fts:=hv
   refine⟨F,gC0 C (n::N) ts,fl,mj0 tk hx nf r,qg,?_⟩
   unfold retI at hv
   split at hv
   ·split at hv
    ·rename_i C' fs ε hc
     cases hv
     subst hc
     intro F' σ' H' _ rl
     obtain⟨a,s1,nf1,h0,hr⟩:=rl.ow 0 _ rfl
     obtain rfl:a=x:=rl.me 0 _ a rfl rfl s1
     refine q F' H' (fun b o nb hb=>rl.same b o (by show (if b=a then none else H b)=some o; rw [if_neg nb]; exact hb)) rl.sub (fun b hb=> ?_) nf1 rl.trk hr
     rcases rl.new b hb with z|z
     ·exact .inl z
     ·have z:(if b=a then none else H b)=none:=z
      by_cases nb:b=a
      ·exact .inr (.inr nb)
      ·rw [if_neg nb] at z; exact .inr (.inl z)
    ·cases hv
   ·cases hv
end
section
variable {X:Cx}{Y:Fx}{k:Nat}{f C:Addr}{fd:FuncData}{ps:List Str}{x:Str}{p pos:Pos}{e:Expr}{es:List Expr}{gs:List T->Option (List (Str × T))}{fa:En->Option (List T)}
def lc0 (C:Addr)(gs:List T->Option (List (Str × T)))(g:En->Option (List T)):En->Option T:=fun ε=>(g ε).bind fun ts=>(gs ts).map fun fs=> .ins C fs
theorem nq0 (M:Mk X.K C f)(Fn:FnOk X.prog X.w X.K X.mg X.base CX0 k f fd ps (spI C gs))(hr:Room (k+1) X.A)(hg:Gl X x)(hm:X.mg x=some (.ref C))(hb:Binds X.K fd ps [])(ha:SA X Y (e::es) fa)
  (hdb:(x==("__debug__" :Str))=false:=by decide) (he:starEach (e::es) X.env=(false,eval e X.env)::starEach es X.env:=by rfl) (hpl:(backTo pos (starEach es X.env)).any (·.1)=false:=by rfl):
  FE X Y (.Call (.Name x p) (e::es) [] pos) (lc0 C gs fa):=PE.imp (jw0 M Fn hr hg hm hb .nil bU0 ha hdb he hpl) fun σ H Q ⟨F,ε,u,rl,hf,k⟩=>by
 unfold lc0 at hf
 cases q:fa ε with
 |none=>rw [q] at hf; cases hf
 |some ts=>
  rw [q] at hf
  simp only [Option.bind_some] at hf
  cases q2:gs ts with
  |none=>rw [q2] at hf; cases hf
  |some fs=>
   rw [q2] at hf
   cases hf
   refine⟨F,ε,ts,rl,q,fun F1 vs H1 m1 r1 y dy hy hdy ne=> ?_⟩
   have ext:∀b o,H1 b=some o->upd (upd H1 dy (.own y)) y (.ins C dy []) b=some o:=fun b o h=>by rw [ah0 (am0 h hy),ah0 (am0 h hdy)]; exact h
   have tk2:Trk F1 (upd (upd H1 dy (.own y)) y (.ins C dy [])):=fun b fb=>let ⟨o,h⟩:=m1.trk b fb; ⟨o,ext b o h⟩
   have kp:Keep F1 H1 F1 (upd (upd H1 dy (.own y)) y (.ins C dy [])):=⟨fun _ h=>h,fun b o _ h=>ext b o h,fun b xs h=>ext b _ h⟩
   refine⟨F1,y,dy,vs,ts,fs,by rw [List.append_nil],ai0,Trk.new m1.trk hy,tk2,r1.keep kp,q2,fun F2 H2 s2 sb nw nf tk hr=>⟨rfl,?_⟩⟩
   have m2:Mono F1 H1 F2 H2:=⟨fun b o h=>s2 b o (am0 h hy) (ext b o h),sb,fun b fb=> ?_,tk⟩
   ·exact k F2 y H2 (m1.trans m2) (m1.free hy) nf hr
   ·rcases nw b fb with z|z|z
    ·exact .inl z
    ·refine .inr ?_
     cases w:H1 b with
     |none=>rfl
     |some o=>rw [ext b o w] at z; cases z
    ·exact absurd fb (z▸nf)
end
end L2.BD
set_option Elab.async false
set_option linter.all false
set_option maxRecDepth 100000
set_option maxHeartbeats 4000000
namespace L2.BD
open PySem PySem.Spec PyProof.Rows
section
variable (P:Program)(w:World)(K:PySem.W.Frag)(mg:Str->Option Value)(base:Heap)
def aL0 (k:Nat)(x:Str)(ps:List Str)(gs:List T->Option (Bool × T)):Prop:=∃f fd,FnOk P w K mg base CX0 k f fd ps (spP gs)/\mg x=some (.ref f)/\PySem.W.keepIn K (.ref f)=true/\Binds K fd ps []
def cQ0 (C:Addr)(k:Nat)(x:Str)(ps:List Str)(gs:List T->Option (Bool × T)):Prop:=∃f fd,FnOk P w K mg base CX0 k f fd ps (spP gs)/\Meth K C x f/\Binds K fd ps []
def oF0 (C:Addr)(k:Nat)(x:Str)(ps:List Str)(gs:List T->Option (List (Str × T))):Prop:=∃f fd,FnOk P w K mg base CX0 k f fd ps (spI C gs)/\Mk K C f/\mg x=some (.ref C)/\Binds K fd ps []
end
theorem bQ0 {X:Cx}{scope:Scope}{own:List Str}(N:List Str)(sc:Scope)(h1:X.N=N)(h2:X.env.scope=sc)(h:dI0 scope own N sc=true):dI0 scope own X.N X.env.scope=true:=by rw [h1,h2]; exact h
theorem bz0 {X:Cx}(N:List Str)(h1:X.N=N)(h:N.Nodup):X.N.Nodup:=by rw [h1]; exact h
theorem hu20 {A:Around}{k:Nat}(hr:Room k A):A.units+20<cLine:=Nat.lt_of_le_of_lt (Nat.add_le_add_left (by decide:20<=64) _) hr.units
def fnT (N:List Str)(n:Nat)(g:En->Option Fl):List T->Option (Bool × T):=fun ts=>if ts.length=n then(g (cC0 N ts)).bind cv0 else none
def fnI (C:Addr)(N:List Str)(n:Nat)(g:En->Option Fl):List T->Option (List (Str × T)):=fun ts=>if ts.length+1=n then(g (gC0 C N ts)).bind (retI C) else none
theorem aA0 {N:List Str}{n:Nat}{g:En->Option Fl}{ts:List T}{o:Bool}{t:T}(h:fnT N n g ts=some (o,t)):(g (cC0 N ts)).bind cv0=some (o,t):=by
 unfold fnT at h
 split at h
 ·exact h
 ·cases h
theorem aH0 {N:List Str}{n:Nat}{g:En->Option Fl}{ts:List T}{r:Bool × T}(h:fnT N n g ts=some r):ts.length=n:=by
 unfold fnT at h
 split at h
 ·assumption
 ·cases h
theorem mx0 {C:Addr}{N:List Str}{n:Nat}{g:En->Option Fl}{ts:List T}{t:List (Str × T)}(h:fnI C N n g ts=some t):(g (gC0 C N ts)).bind (retI C)=some t:=by
 unfold fnI at h
 split at h
 ·exact h
 ·cases h
theorem ob0 {C:Addr}{N:List Str}{n:Nat}{g:En->Option Fl}{ts:List T}{r:List (Str × T)}(h:fnI C N n g ts=some r):ts.length+1=n:=by
 unfold fnI at h
 split at h
 ·assumption
 ·cases h
section
variable {X:Cx}{Y:Fx}{k:Nat}{C:Addr}{ps:List Str}{x m:Str}{p pos apos:Pos}{e o:Expr}{es:List Expr}{gs:List T->Option (Bool × T)}{fa:En->Option (List T)}{fo:En->Option T}
theorem cd0 {x:Str}{i:Int}(hg:Gl X x)(hm:∃t,X.mg x=some (.int i t))(hd:(x==("__debug__" :Str))=false:=by decide):SE X Y (.Name x pos) (eC (.int i)):=by
 obtain⟨t,hm⟩:=hm
 exact oJ0 (v:=.int i) hg hm ⟨t,rfl⟩ (fun _ _=> .int i) hd
theorem aM0 (D:aL0 X.prog X.w X.K X.mg X.base k x ps gs)(hr:Room k X.A)(hg:Gl X x)(ha:SA X Y (e::es) fa)
  (hdb:(x==("__debug__" :Str))=false:=by decide) (he:starEach (e::es) X.env=(false,eval e X.env)::starEach es X.env:=by rfl) (hpl:(backTo pos (starEach es X.env)).any (·.1)=false:=by rfl):
  SE X Y (.Call (.Name x p) (e::es) [] pos) (eFn gs fa):=by
 obtain⟨f,fd,F,h1,h2,h3⟩:=D
 exact se_fn F hr hg h1 h2 h3 ha hdb he hpl
theorem eG0 (D:aL0 X.prog X.w X.K X.mg X.base k x ps gs)(hr:Room k X.A)(hg:Gl X x)(ha:SA X Y (e::es) fa)
  (hdb:(x==("__debug__" :Str))=false:=by decide) (he:starEach (e::es) X.env=(false,eval e X.env)::starEach es X.env:=by rfl) (hpl:(backTo pos (starEach es X.env)).any (·.1)=false:=by rfl):
  FE X Y (.Call (.Name x p) (e::es) [] pos) (eFnF gs fa):=by
 obtain⟨f,fd,F,h1,h2,h3⟩:=D
 exact fe_fn F hr hg h1 h2 h3 ha hdb he hpl
theorem fe_mk {gs:List T->Option (List (Str × T))}(D:oF0 X.prog X.w X.K X.mg X.base C k x ps gs)(hr:Room (k+1) X.A)(hg:Gl X x)(ha:SA X Y (e::es) fa)
  (hdb:(x==("__debug__" :Str))=false:=by decide) (he:starEach (e::es) X.env=(false,eval e X.env)::starEach es X.env:=by rfl) (hpl:(backTo pos (starEach es X.env)).any (·.1)=false:=by rfl):
  FE X Y (.Call (.Name x p) (e::es) [] pos) (lc0 C gs fa):=by
 obtain⟨f,fd,F,h1,h2,h3⟩:=D
 exact nq0 h1 F hr hg h2 h3 ha hdb he hpl
def eI0 (C:Addr)(m:Str)(gs:List T->Option (Bool × T))(fo:En->Option T)(g:En->Option (List T)):En->Option T:=fun ε=>match fo ε with
 |some (.ins C' fs)=>if C'=C/\fs.lookup m=none then(g ε).bind fun ts=>match gs (.ins C' fs::ts) with|some (true,t)=>some t|_=>none else none
 |_=>none
theorem lx0 (σ:St)(H:Hp)(Q:VK)(h:TrF Y (eI0 C m gs fo fa) σ H Q):my0 C m (spP gs) [] E0 (Tr Y fo) (TrA Y fa) σ H Q:=by
 obtain⟨F,ε,u,rl,hf,k⟩:=h
 unfold eI0 at hf
 split at hf
 ·rename_i C' fs qo
  split at hf
  ·rename_i hc
   obtain⟨rfl,hl⟩:=hc
   refine⟨F,ε,_,rl,qo,fun F1 v H1 m1 r1=> ?_⟩
   cases hr:r1 with
   | @ins a _ dx fv _ fa' ha rf=>
    refine⟨a,dx,fv,rfl,ha,rf.look_none hl,?_⟩
    cases q:fa ε with
    |none=>rw [q] at hf; cases hf
    |some ts=>
     rw [q] at hf
     simp only [Option.bind_some] at hf
     split at hf
     ·rename_i t q2
      cases hf
      refine⟨F1,ε,ts,rl.mono m1,q,fun F2 vs H2 m2 r2=>⟨F2,.ins C' fs::ts,true,u,m2.trk,by rw [List.append_nil]; exact .cons (r1.keep m2.keep) r2,q2,fun F3 v H3 m3 r3=> ?_⟩⟩
      obtain⟨b,rfl,n,nf,z⟩:=(show∃b,v=.ref b/\H2 b=none/\¬F3 b/\Rp1 F3 H3 b u from r3)
      exact k F3 b H3 ((m1.trans m2).trans m3) ((m1.trans m2).free n) nf z
     ·cases hf
  ·cases hf
 ·cases hf
theorem nD0 {pl:Sem Bool}(ho:SE X Y o fo)(c:Cls X.K C)(D:cQ0 X.prog X.w X.K X.mg X.base C k m ps gs)(hr:Room k X.A)(ha:SA X Y (e::es) fa)
  (hst:starEach (e::es) X.env=(false,eval e X.env)::starEach es X.env:=by rfl) (hpl:(backTo pos (starEach es X.env)).any (·.1)=false:=by rfl)
  (ht:eval (.Call (.Attribute o m apos) (e::es) [] pos) X.env=(do
   let ov<- eval o X.env
   standAt apos.atName
   let (f,first)<- holding [ov] (getMethod ov m pl)
   callWith pos f first (backTo pos (starEach (e::es) X.env)) (backToKw pos (keywordEach [] X.env))):=by rfl):
  SE X Y (.Call (.Attribute o m apos) (e::es) [] pos) (dx0 C m gs fo fa):=by
 obtain⟨f,fd,F,h1,h2⟩:=D
 exact oa0 ho c h1 F hr h2 ha hst hpl ht
theorem fe_me {pl:Sem Bool}(ho:SE X Y o fo)(c:Cls X.K C)(D:cQ0 X.prog X.w X.K X.mg X.base C k m ps gs)(hr:Room k X.A)(ha:SA X Y (e::es) fa)
  (hst:starEach (e::es) X.env=(false,eval e X.env)::starEach es X.env:=by rfl) (hpl:(backTo pos (starEach es X.env)).any (·.1)=false:=by rfl)
  (ht:eval (.Call (.Attribute o m apos) (e::es) [] pos) X.env=(do
   let ov<- eval o X.env
   standAt apos.atName
   let (f,first)<- holding [ov] (getMethod ov m pl)
   callWith pos f first (backTo pos (starEach (e::es) X.env)) (backToKw pos (keywordEach [] X.env))):=by rfl):
  FE X Y (.Call (.Attribute o m apos) (e::es) [] pos) (eI0 C m gs fo fa):=by
 obtain⟨f,fd,F,h1,h2⟩:=D
 exact PE.imp (cg0 ho c h1 F hr h2 .nil bU0 ha hst hpl ht) lx0
end
end L2.BD
set_option Elab.async false
set_option linter.all false
set_option maxRecDepth 100000
set_option maxHeartbeats 4000000
namespace L2.BD
open PySem PySem.Spec
theorem ic0 {n:Nat}{ε:En}{bd:T->En->Option En}{p:En->Option Bool}{f:En->Option T}{P:T->Bool}{G:T->T}:∀(ts:List T),
  (∀t,t∈ts->∃ε1,bd t (List.replicate n .un++ε)=some ε1/\p ε1=some (P t)/\(P t=true->f ε1=some (G t)))->dK0 n ε bd p f ts=some ((ts.filter P).map G)
 | [],_=>rfl
 |t::ts,h=>by
  obtain⟨ε1,h1,h2,h3⟩:=h t (List.mem_cons_self ..)
  have ih:=ic0 ts fun u hu=>h u (List.mem_cons_of_mem _ hu)
  unfold dK0
  rw [h1,Option.bind_some,h2,Option.bind_some,ih]
  cases q:P t with
  |true=>rw [if_pos rfl,h3 q,Option.bind_some,Option.bind_some,List.filter_cons_of_pos q]; rfl
  |false=>rw [if_neg Bool.false_ne_true,List.filter_cons_of_neg (by simp [q])]
theorem dh0 {n:Nat}{it:En->Option (List T)}{ε:En}{bd:T->En->Option En}{p:En->Option Bool}{f:En->Option T}{P:T->Bool}{G:T->T}{ts:List T}(hi:it ε=some ts)(hl:ts.length<=big)
  (h:∀t,t∈ts->∃ε1,bd t (List.replicate n .un++ε)=some ε1/\p ε1=some (P t)/\(P t=true->f ε1=some (G t))):aX0 n it bd p f ε=some (.lst ((ts.filter P).map G)):=by
 unfold aX0
 rw [hi,Option.bind_some,if_pos hl,ic0 ts h]
 rfl
theorem bf0 {n:Nat}{it:En->Option (List T)}{ε:En}{bd:T->En->Option En}{f:En->Option T}{G:T->T}{ts:List T}(hi:it ε=some ts)(hl:ts.length<=big)
  (h:∀t,t∈ts->∃ε1,bd t (List.replicate n .un++ε)=some ε1/\f ε1=some (G t)):aX0 n it bd bn0 f ε=some (.lst (ts.map G)):=by
 have:=dh0 (p:=bn0) (P:=fun _=>true) (f:=f) (G:=G) hi hl fun t ht=>let ⟨ε1,h1,h2⟩:=h t ht; ⟨ε1,h1,rfl,fun _=>h2⟩
 rw [this,List.filter_eq_self.mpr (fun _ _=>rfl)]
theorem bh0 {bd:T->En->Option En}{body:En->Option Fl}(I:Nat->En->Prop):∀(ts:List T) (k:Nat) (ε:En),I k ε->
  (∀(i:Nat) t ε,ts[i]?=some t->I (k+i) ε->∃ε1 ε2,bd t ε=some ε1/\(body ε1=some (.nx ε2)\/ body ε1=some (.ct ε2))/\I (k+i+1) ε2)->∃ε',db0 bd body ts ε=some (.nx ε')/\I (k+ts.length) ε'
 | [],k,ε,h0,_=>⟨ε,rfl,h0⟩
 |t::ts,k,ε,h0,h=>by
  obtain⟨ε1,ε2,h1,h2,h3⟩:=h 0 t ε rfl h0
  obtain⟨ε',h4,h5⟩:=bh0 I ts (k+1) ε2 h3 fun i u η hu hi=>by
   have e:k+1+i=k+(i+1):=by omega
   rw [e] at hi ⊢
   exact h (i+1) u η hu hi
  refine⟨ε',?_,by rw [List.length_cons,show k+(ts.length+1)=k+1+ts.length by omega]; exact h5⟩
  unfold db0
  rw [h1]
  rcases h2 with h2|h2
  ·simp only [Option.bind_some,h2]; exact h4
  ·simp only [Option.bind_some,h2]; exact h4
theorem dO0 {bd:T->En->Option En}{body:En->Option Fl}{o:Bool}{r:T}(I:En->Prop)(P:T->Bool):∀(ts:List T) (ε:En),I ε->
  (∀t ε,t∈ts->I ε->∃ε1,bd t ε=some ε1/\(P t=true->body ε1=some (.rt o r))/\(P t=false->∃ε2,body ε1=some (.nx ε2)/\I ε2))->
  (ts.any P=true->db0 bd body ts ε=some (.rt o r))/\(ts.any P=false->∃ε',db0 bd body ts ε=some (.nx ε')/\I ε')
 | [],ε,h0,_=>⟨(fun h=>nomatch h),fun _=>⟨ε,rfl,h0⟩⟩
 |t::ts,ε,h0,h=>by
  obtain⟨ε1,h1,h2,h3⟩:=h t ε (List.mem_cons_self ..) h0
  cases q:P t with
  |true=>
   refine⟨fun _=> ?_,fun z=>by rw [List.any_cons,q] at z; cases z⟩
   unfold db0
   rw [h1]
   simp only [Option.bind_some,h2 q]
  |false=>
   obtain⟨ε2,h4,h5⟩:=h3 q
   obtain⟨a,b⟩:=dO0 I P ts ε2 h5 fun u η hu=>h u η (List.mem_cons_of_mem _ hu)
   rw [List.any_cons,q,Bool.false_or]
   refine⟨fun z=> ?_,fun z=> ?_⟩
   ·have:=a z
    unfold db0
    rw [h1]
    simp only [Option.bind_some,h4,this]
   ·obtain⟨ε',c,d⟩:=b z
    refine⟨ε',?_,d⟩
    unfold db0
    rw [h1]
    simp only [Option.bind_some,h4,c]
end L2.BD
set_option Elab.async false
set_option linter.all false
set_option maxRecDepth 100000
set_option maxHeartbeats 4000000
namespace L2
open PySem PySem.Spec PyProof.Rows
def Ite (K:PySem.W.Frag)(a:Addr):It:=
  ⟨fun i H=>∃xs x,SqL K H a xs/\xs[i]?=some x,
   fun i H v H'=>∃p,H p=none/\v=.ref p/\∀xs,SqL K H a xs->∃x,xs[i]?=some x/\H'=upd H p (.tup [.int i,x]),
   fun i H=>∃xs,SqL K H a xs/\xs.length<=i⟩
theorem iU0 {P:Program}{w:World}{K:PySem.W.Frag}{elts:List Expr}{x1:Nat}{tp:Pos}{z u a:Addr}(hzu:z≠u):
  Turn P w K (.Tuple elts x1 tp) (Ite K a) [z,u] z (fun i h=>(∃old,IsEnum h z u i old)/\h.IsListIter u a i) where
 mem:=by simp
 obj:=fun i h st q hq=>by
  obtain⟨⟨old,g1⟩,⟨o4,g4,_,d4⟩⟩:=st
  simp only [List.mem_cons,List.not_mem_nil,or_false] at hq
  rcases hq with rfl|rfl
  ·exact⟨_,g1,fun v e=>nomatch e⟩
  ·exact⟨_,g4,fun v e=>by rw [d4] at e; cases e⟩
 keep:=fun i h h' st k=>by
  obtain⟨⟨old,g1⟩,⟨o4,g4,r4⟩⟩:=st
  exact⟨⟨old,k z (by simp) _ g1⟩,⟨o4,k u (by simp) _ g4,r4⟩⟩
 item:=by
  intro X hP hw hK hc i pins s σ H E I hf st hg
  subst hP hw hK
  obtain⟨xs,x,ha,hx⟩:=hg
  obtain⟨⟨old,g1⟩,g4⟩:=st
  obtain⟨its,rv,p,hz⟩:=I.list ha
  obtain⟨v,hv,rv'⟩:=rv.get hx
  refine wpAny_pyNext_enum_item (x:=v) g1 g4 p.isList (by simpa using hv) hzu fun h' a1 a2 a3 a4 a5=>⟨_,rfl,?_⟩
  refine wpAny_letOwnedTupleGo_enum a1 fun h'' gz sb=> ?_
  have hn:H s.heap.objs.size=none:=I.hok.fresh (Nat.le_refl _)
  have zlt:z<s.heap.objs.size:=Heap.lt_size g1
  have ult:u<s.heap.objs.size:=let ⟨_,q,_⟩:=g4; Heap.lt_size q
  have ht2:h''.get? s.heap.objs.size=some {cls:=.type "tuple",data:=.seq #[.int i s.toks,v]}:=sb.extBut _ _ (Nat.ne_of_gt zlt) a3
  have I2:Inv X pins σ (upd H s.heap.objs.size (.tup [.int i,x])) {s with heap:=h'',toks:=s.toks+1}:=by
   refine I.turnedLaid (t':=s.toks+1) (it:=[z,u]) (fun q o hq e=> ?_) (fun q hq=> ?_) (Nat.le_refl _) ?_
   ·simp only [List.mem_cons,List.not_mem_nil,or_false,not_or] at hq
    exact sb.extBut _ _ hq.1 (a5 q o hq.1 hq.2 e)
   ·obtain⟨f0,f1,f2,f3,f4,f5⟩:=hf q hq
    exact⟨f0,f1,f3,f4,f5⟩
   ·exact⟨by simp only [List.length_cons,List.length_nil]; rw [sizeLine_eq]; decide,[.int i s.toks,v],.cons ⟨_,rfl⟩ (.cons rv' .nil),⟨_,ht2,rfl,0,rfl⟩,_,ht2,rfl⟩
  have at1:∀{h h':Heap} {u l:Addr} {i:Nat},h.IsListIter u l i->(∀o,h.get? u=some o->h'.get? u=some o)->h'.IsListIter u l i:=fun⟨o,e,r⟩ f=>⟨o,f o e,r⟩
  refine⟨.ref s.heap.objs.size,_,I2,rfl,⟨_,hn,rfl,fun xs' q1=> ?_⟩,⟨⟨_,by simpa using gz⟩,at1 a2 fun o g=>sb.extBut _ _ (Ne.symm hzu) g⟩,fun q hq=> ?_⟩
  ·rw [I.list_inj q1 ha]
   exact⟨x,hx,rfl⟩
  ·have hq':=hq
   simp only [List.mem_cons,List.not_mem_nil,or_false] at hq'
   rw [ah0 (by rcases hq' with rfl|rfl; exact Nat.ne_of_lt zlt; exact Nat.ne_of_lt ult)]
   exact(hf q hq).1
 done:=by
  intro X hP hw hK hc i pins s σ H E I hf st hg
  subst hP hw hK
  obtain⟨xs,ha,he⟩:=hg
  obtain⟨⟨old,g1⟩,g4⟩:=st
  obtain⟨its,rv,p,hz⟩:=I.list ha
  have l1:=rv.length
  obtain⟨f0,f1,f2,f3,f4,f5⟩:=hf u (by simp)
  exact wpAny_pyNext_enum_end (I.ok.hd hc) g1 g4 p.isList (by simp; omega) fun h' eb=>⟨rfl,I.turned (t':=s.toks) (fun b o hb e=>eb b o hb e) f0 f1 f3 f4 f5⟩
 self:=fun A i s Q E st h=>let ⟨old,g⟩:=st.1; wpAny_pyIter_enum g h
section
variable {X:Cx}
def iEnum (K:PySem.W.Frag)(ta:TA):TI:=fun σ H R=>ta σ H fun vs H1=>∃a xs,vs=[.ref a]/\SqL K H1 a xs/\R (Ite K a) H1
theorem ox0 {a:Expr}{ta:TA}{elts:List Expr}{x1:Nat}{tp p pos:Pos}(hg:Gl X "enumerate") (hm:X.mg "enumerate" =none) (ha:PA X [a] ta) (hv:bootBuiltins "enumerate" =some (.type "enumerate"):=by rfl) (hs:starEach [a] X.env=[(false,eval a X.env)]:=by rfl):
  PI X (.Tuple elts x1 tp) (.Call (.Name "enumerate" p) [a] [] pos) (iEnum X.K ta):=by
 intro pins s σ H R I h
 refine wpAny_Call_Name_kw (df0 I hg hm hv (PyProof.Rows.callWith_type1 (thn (ha pos pins s σ H _ I h) fun us s1 ⟨vs,H1,I1,r1,q1⟩=> ?_) hs rfl) (by decide) (by decide))
 obtain⟨c,xs,rfl,hc,q⟩:=q1
 obtain⟨u,rfl,ru⟩:=gr0 r1
 cases ru
 obtain⟨its,_,p1,_⟩:=I1.list hc
 refine call_enumerate_list p1.isList fun h' g1 g2 sz kk=>wpAny_pyIter_enum g1 ?_
 have I2:Inv X pins σ H1 {s1 with heap:=h'}:=I1.kept (t':=s1.toks) kk
 refine⟨_,[_,_],_,_,H1,rfl,I2,iU0 (Nat.succ_ne_self _),⟨⟨_,g1⟩,g2⟩,fun q hq=> ?_,q⟩
 simp only [List.mem_cons,List.not_mem_nil,or_false] at hq
 rcases hq with rfl|rfl<;>exact I1.fpOk (by first|exact Nat.le_refl _|exact Nat.le_add_right _ _) (I1.hok.fresh (by first|exact Nat.le_refl _|exact Nat.le_add_right _ _))
end
end L2
set_option Elab.async false
set_option linter.all false
set_option maxRecDepth 100000
set_option maxHeartbeats 4000000
namespace L2
open PySem PySem.Spec PyProof.Rows
def EqP (P:Program)(w:World)(A:Around)(s:Shared)(u v:Value):Prop:=∀(E:Value->Shared->Prop) (Q:Bool->Shared->Prop),Q true s->wpAny (model P w) A (eqBool u v) Q E s
section
variable {P:Program}{w:World}{A:Around}{E:Value->Shared->Prop}{s:Shared}{a b:Addr}{xs ys:List (SK × Addr × Value)}
theorem dU0 {id:String}{Q:Bool->Shared->Prop}(hu:A.units+4<cLine)(ha:(a==sysModules)=false)(hb:(b==sysModules)=false)(da:s.heap.DictOfH (bO0 P w) a xs)(db:s.heap.DictOfH (bO0 P w) b ys)(hl:xs.length=ys.length)
  (hits:∀x∈xs,∃p,atKey ys x.1=some p/\EqP P w A s x.2.2 p.2) (h:Q true s):wpAny (model P w) A (Builtin.Dict.samePairs id a b) Q E s:=by
 obtain⟨oa,es,ep,goa,_,gda,gea,gka,gna⟩:=da
 obtain⟨ob,fs,fp,gob,_,gdb,geb,gkb,gnb⟩:=db
 have la:es.size=xs.length:=size_of_entries gea
 have lb:fs.size=ys.length:=size_of_entries geb
 unfold Builtin.Dict.samePairs
 have sa:∀{c:Addr} {R:Unit->Shared->Prop},(c==sysModules)=false->R () s->wpAny (model P w) A (Builtin.Dict.showsAll c) R E s:=fun hc hR=>by
  unfold Builtin.Dict.showsAll
  rw [hc]
  exact wpAny_pure hR
 refine wpAny_bind (sa ha (wpAny_bind (sa hb ?_)))
 refine wpAny_bind (wpAny_dictEntries goa gda (wpAny_bind (wpAny_dictEntries gob gdb ?_)))
 have hne:¬(es.size !=fs.size)=true:=by rw [la,lb,hl]; simp
 dsimp only
 rw [if_neg hne]
 refine wpAny_bind (wpAny_dictEpoch goa gda (wpAny_bind ?_))
 rw [Std.Legacy.Range.forIn_eq_forIn_range']
 simp only [Std.Legacy.Range.size,Nat.sub_zero,Nat.add_sub_cancel,Nat.div_one]
 refine wpAny_forIn_list _ (fun more q s'=>s'=s/\q=(none,())/\∃i,more=List.range' i (es.size - i)/\i<=es.size) _ ?_ ?_ _ _ ⟨rfl,rfl,0,by simp,Nat.zero_le _⟩
 ·rintro x more q s' ⟨rfl,rfl,i,hr,hi⟩
  obtain⟨lt,rfl,hm⟩:i<es.size/\x=i/\more=List.range' (i+1) (es.size - (i+1)):=by
   cases e:es.size - i with
   |zero=>rw [e] at hr; simp at hr
   |succ n=>
    rw [e,List.range'_succ] at hr
    injection hr with h1 h2
    exact⟨by omega,h1,by rw [h2]; congr 1; omega⟩
  refine wpAny_bind (wpAny_dictEntries goa gda ?_)
  obtain⟨y,hy⟩:∃y,xs[x]?=some y:=⟨_,List.getElem?_eq_getElem (by omega)⟩
  have he:es[x]?=some (entryOfKey (bO0 P w) y):=by rw [entry_at gea x,hy]; rfl
  rw [he]
  have my:y∈xs:=List.mem_of_getElem? hy
  obtain⟨p,hp,eq⟩:=hits y my
  dsimp only
  refine wpAny_bind (wpAny_holding (wpAny_bind (wpAny_dictFind_heap (knd:=bO0 P w) (k:=y.1) (a:=y.2.1) (xs:=ys) (by show A.units+2<cLine; omega) (gka y my) gob gdb geb gkb gnb (fun hno=> ?_) fun j p' hj=> ?_)))
  ·rw [atKey_none_of_get hno] at hp; cases hp
  ·have e2:=atKey_of_get gnb hj
   rw [hp] at e2
   cases e2
   refine wpAny_bind (wpAny_dictEntries gob gdb ?_)
   rw [entry_at geb j,hj]
   refine wpAny_holding (eq _ _ ?_)
   show wpAny _ _ (if(!true)=true then _ else _) _ _ _
   rw [if_neg (by decide)]
   refine wpAny_bind (wpAny_dictEpoch goa gda ?_)
   rw [if_neg (by simp)]
   exact wpAny_pure ⟨rfl,rfl,x+1,hm,lt⟩
 ·rintro q s' ⟨rfl,rfl,_⟩
  exact wpAny_pure h
theorem kC0 {Q:Value->Shared->Prop}(hu:A.units+5<cLine)(ha:(a==sysModules)=false)(hb:(b==sysModules)=false)(da:s.heap.DictOfH (bO0 P w) a xs)(db:s.heap.DictOfH (bO0 P w) b ys)(hl:xs.length=ys.length)
  (hits:∀x∈xs,∃p,atKey ys x.1=some p/\EqP P w A.in1 s x.2.2 p.2) (h:Q (.bool true) s):wpAny (model P w) A (compareOp .Eq (.ref a) (.ref b)) Q E s:=by
 refine wpAny_richCompare_same_room (op:=.Eq) da.typeIs db.typeIs PySem.F.slot_dict_eq (wpAny_call_entry PySem.F.slot_dict_eq da.typeIs PySem.F.entry_dict_eq ?_ (PySem.F.args_dict_eq_2 _ _)) (by omega)
 show wpAny _ _ (Builtin.Dict.dictSlotArgs "__eq__" ⟨[.ref a,.ref b],[]⟩>>=_) _ _ s
 unfold Builtin.Dict.dictSlotArgs
 refine wpAny_bind (wpAny_bind (wpAny_notOrdered_dict da.typeIs (wpAny_pure (a:=(Value.ref a,Value.ref b)) ?_)))
 refine wpAny_bind (wpAny_isInstance (T:= "dict") db.typeIs PySem.F.sub_dict_dict ?_)
 simp only [Bool.not_true,Bool.false_eq_true,if_false]
 refine wpAny_bind (wpAny_pure (wpAny_bind (wpAny_pure (wpAny_bind (dU0 (by show A.units+1+4<_; omega) ha hb da db hl hits ?_)))))
 exact wpAny_pure ⟨_,rfl,(fun x=>nomatch x),h⟩
theorem kV0 {Q:Value->Shared->Prop}(hu:A.units+5<cLine)(ha:(a==sysModules)=false)(hb:(b==sysModules)=false)(da:s.heap.DictOfH (bO0 P w) a xs)(db:s.heap.DictOfH (bO0 P w) b ys)(hl:xs.length=ys.length)
  (hits:∀x∈xs,∃p,atKey ys x.1=some p/\EqP P w A.in1 s x.2.2 p.2) (h:Q (.bool false) s):wpAny (model P w) A (compareOp .NotEq (.ref a) (.ref b)) Q E s:=by
 refine wpAny_richCompare_same_room (op:=.NotEq) da.typeIs db.typeIs PySem.F.slot_dict_ne (wpAny_call_entry PySem.F.slot_dict_ne da.typeIs PySem.F.entry_dict_ne ?_ (PySem.F.args_dict_ne_2 _ _)) (by omega)
 show wpAny _ _ (Builtin.Dict.dictSlotArgs "__ne__" ⟨[.ref a,.ref b],[]⟩>>=_) _ _ s
 unfold Builtin.Dict.dictSlotArgs
 refine wpAny_bind (wpAny_bind (wpAny_notOrdered_dict da.typeIs (wpAny_pure (a:=(Value.ref a,Value.ref b)) ?_)))
 refine wpAny_bind (wpAny_isInstance (T:= "dict") db.typeIs PySem.F.sub_dict_dict ?_)
 simp only [Bool.not_true,Bool.false_eq_true,if_false]
 refine wpAny_bind (wpAny_pure (wpAny_bind (wpAny_pure (wpAny_bind (dU0 (by show A.units+1+4<_; omega) ha hb da db hl hits ?_)))))
 exact wpAny_pure ⟨_,rfl,(fun x=>nomatch x),h⟩
end
def Itq (a:Addr)(ob:Obj)(kvs:List (SK × V)):It:=
 ⟨fun i H=>H a=some (.frz ob (.dT kvs))/\i<kvs.length,fun i H x H'=>H'=H/\∃k v b,kvs[i]?=some (k,v)/\x=.ref b/\KeyAt H b k,fun i H=>H a=some (.frz ob (.dT kvs))/\kvs.length<=i⟩
theorem KT.at {H:Hp}:∀{kvs:List (SK × V)} {xs:List (SK × Addr × Value)} {i:Nat} {k:SK} {v:V},KT H kvs xs->kvs[i]?=some (k,v)->∃b u,xs[i]?=some (k,b,u)/\KeyAt H b k/\RelV v u
 |_,_,_,_,_,.nil,e=>by simp at e
 |_,_,0,k,v,.cons (b:=b) h _,e=>by
  simp at e
  subst e
  obtain⟨b1,b2,b3⟩:=b
  obtain⟨rfl,h2,h3⟩:=h
  exact⟨b2,b3,rfl,h2,h3⟩
 |_,_,i+1,k,v,.cons _ t,e=>by
  obtain⟨b,u,h1,h2⟩:=KT.at (i:=i) (k:=k) (v:=v) t (by simpa using e)
  exact⟨b,u,by simpa using h1,h2⟩
section
variable {P:Program}{w:World}{A:Around}{E:Value->Shared->Prop}{s:Shared}
theorem lK0 {it d:Addr}{i n ep:Nat}{od:Obj}{es:Array DictEntry}{e:DictEntry}{Q:Option Value->Shared->Prop}(hit:s.heap.IsKeyIter it d i n ep)(hod:s.heap.get? d=some od)(hdd:od.data=.dict es ep)(hsz:es.size=n)(he:es[i]?=some e)
  (hQ:∀h',h'.IsKeyIter it d (i+1) n ep->Heap.SameBut it s.heap h'->Q (some e.key) {s with heap:=h'}):wpAny (model P w) A (pyNext (.ref it)) Q E s:=by
 obtain⟨o,ho,hc,hd⟩:=id hit
 unfold pyNext
 refine wpAny_bind (wpAny_attempt (wpAny_callSpecial?_slot (name:=Str.ofString "__next__") hit.typeIs F.slot_dict_keyiterator_next (wpAny_call_entry F.slot_dict_keyiterator_next hit.typeIs F.entry_dict_keyiterator_next ?_ (F.args_dict_keyiterator_next_1 _))))
 refine wpAny_bind (wpAny_pure (wpAny_bind (wpAny_bind ?_)))
 first|refine wpAny_bind (wpAny_typeNameOfWhole_keyiter hit.typeIs (wpAny_pure ?_))|refine wpAny_bind (wpAny_typeNameOf_keyiter hit.typeIs (wpAny_pure ?_))
 refine wpAny_bind (wpAny_fieldsOf ho hd ?_)
 simp only [show Builtin.Dict_items.ownsTuple "dict_keyiterator" =false by decide,Bool.false_eq_true,if_false]
 show wpAny _ _ (if(Value.ref d==Value.none)=true then _ else _) _ _ _
 rw [if_neg (show¬((Value.ref d==Value.none)=true) from Bool.false_ne_true)]
 refine wpAny_bind (wpAny_pure (wpAny_bind (wpAny_dictEntries hod hdd ?_)))
 rw [if_neg (by rw [hsz]; simp)]
 refine wpAny_bind (wpAny_pure (wpAny_bind (wpAny_dictEpoch hod hdd ?_)))
 rw [if_neg (by simp)]
 refine wpAny_pure ?_
 simp only [show¬((i:Int)<0) from by omega,if_false,Int.toNat_natCast,he]
 refine wpAny_bind ?_
 first|refine wpAny_bind (wpAny_typeNameOfWhole_keyiter hit.typeIs (wpAny_pure ?_))|refine wpAny_bind (wpAny_typeNameOf_keyiter hit.typeIs (wpAny_pure ?_))
 refine wpAny_bind (wpAny_isOneOf_keyiter hit.typeIs ?_)
 show wpAny _ _ (setField (.ref it) 1 (rawInt ((i:Int)+1))>>=_) _ _ _
 refine wpAny_bind (wpAny_setField ho hd (by simp) ?_)
 have nx:(s.heap.update it (Obj.mapFields (·.setIfInBounds 1 (rawInt ((i:Int)+1))))).IsKeyIter it d (i+1) n ep:=
  ⟨_,Heap.get?_update_self _ ho (Obj.isFreed_of_fields (Obj.data_mapFields hd _)),(Obj.cls_mapFields ..).trans hc,by rw [Obj.data_mapFields hd]; simp [rawInt]⟩
 refine wpAny_bind (wpAny_holding ?_)
 refine wpAny_bind (wpAny_isOneOf_keyiter (s:={s with heap:=s.heap.update it (Obj.mapFields (·.setIfInBounds 1 (rawInt ((i:Int)+1))))}) nx.typeIs ?_)
 show wpAny _ _ (pure e.key) _ _ _
 exact wpAny_pure (wpAny_pure ⟨_,rfl,wpAny_pure (hQ _ nx (Heap.SameBut.update ..))⟩)
theorem mg0 {it d:Addr}{i n ep:Nat}{od:Obj}{es:Array DictEntry}{Q:Option Value->Shared->Prop}(hh:A.handled=none)(hit:s.heap.IsKeyIter it d i n ep)(hod:s.heap.get? d=some od)(hdd:od.data=.dict es ep)(hsz:es.size=n)(he:n<=i)
  (hQ:∀h',Heap.ExtBut it s.heap h'->Q none {s with heap:=h'}):wpAny (model P w) A (pyNext (.ref it)) Q E s:=by
 obtain⟨o,ho,hc,hd⟩:=id hit
 unfold pyNext
 refine wpAny_bind (wpAny_attempt (wpAny_callSpecial?_slot (name:=Str.ofString "__next__") hit.typeIs F.slot_dict_keyiterator_next (wpAny_call_entry F.slot_dict_keyiterator_next hit.typeIs F.entry_dict_keyiterator_next ?_ (F.args_dict_keyiterator_next_1 _))))
 refine wpAny_bind (wpAny_pure (wpAny_bind (wpAny_bind ?_)))
 first|refine wpAny_bind (wpAny_typeNameOfWhole_keyiter hit.typeIs (wpAny_pure ?_))|refine wpAny_bind (wpAny_typeNameOf_keyiter hit.typeIs (wpAny_pure ?_))
 refine wpAny_bind (wpAny_fieldsOf ho hd ?_)
 simp only [show Builtin.Dict_items.ownsTuple "dict_keyiterator" =false by decide,Bool.false_eq_true,if_false]
 show wpAny _ _ (if(Value.ref d==Value.none)=true then _ else _) _ _ _
 rw [if_neg (show¬((Value.ref d==Value.none)=true) from Bool.false_ne_true)]
 refine wpAny_bind (wpAny_pure (wpAny_bind (wpAny_dictEntries hod hdd ?_)))
 rw [if_neg (by rw [hsz]; simp)]
 refine wpAny_bind (wpAny_pure (wpAny_bind (wpAny_dictEpoch hod hdd ?_)))
 rw [if_neg (by simp)]
 refine wpAny_pure ?_
 simp only [show¬((i:Int)<0) from by omega,if_false,Int.toNat_natCast,Array.getElem?_eq_none (show es.size<=i by omega)]
 refine wpAny_bind ?_
 first|refine wpAny_bind (wpAny_typeNameOfWhole_keyiter hit.typeIs (wpAny_pure ?_))|refine wpAny_bind (wpAny_typeNameOf_keyiter hit.typeIs (wpAny_pure ?_))
 show wpAny _ _ (setField (.ref it) 0 .none>>=_) _ _ _
 refine wpAny_bind (wpAny_setField ho hd (by simp) ?_)
 show wpAny _ _ (newExc (.type "StopIteration") []>>=_) _ _ _
 refine wpAny_bind ?_
 simp only [newExc,newTuple]
 refine wpAny_bind (wpAny_newObj_type ?_ (by size_fits))
 refine wpAny_bind (m:=firstArgMember _ _) (wpAny_of_eq (a:=Value.none) (by first|rfl|(simp only [firstArgMember]; rfl)) ?_)
 refine wpAny_newObj_type ?_ (by size_fits)
 simp only [raiseNew]
 refine wpAny_bind (wpAny_handled ?_)
 rw [show A.in1.handled=none from hh]
 refine wpAny_bind (wpAny_pure (wpAny_throw ?_))
 refine wpAny_bind (wpAny_isInstance (T:= "StopIteration") (b:=true) ⟨_,Heap.get?_push_size _ rfl,rfl⟩ isSubtype_stop ?_)
 exact wpAny_pure (hQ _ (((Heap.SameBut.update ..).extBut.push _).push _))
end
theorem dH0 {X:Cx}{pins:List (Addr × Obj)}{σ:St}{H:Hp}{s:Shared}{a:Addr}{ob:Obj}{kvs:List (SK × V)}{es:Array DictEntry}{ep:Nat}(I:Inv X pins σ H s)(h:H a=some (.frz ob (.dT kvs)))(hd:ob.data=.dict es ep):
  s.heap.get? a=some ob/\∃xs,KT H kvs xs/\es.toList=xs.map (entryOfKey (bO0 X.prog X.w)):=by
 obtain⟨h1,_,h2,xs,r,o,es',ep',h3,h4,h5,h6,_⟩:=(show ObjOk X.prog X.w H s.heap a (.frz ob (.dT kvs)) from I.hok a _ h)
 rw [h1] at h3
 cases h3
 rw [hd] at h5
 cases h5
 exact⟨h1,xs,r,h6⟩
theorem gF0 {P:Program}{w:World}{K:PySem.W.Frag}{tg:Expr}(a it:Addr){ob:Obj}{kvs:List (SK × V)}{es:Array DictEntry}{ep:Nat}(hd:ob.data=.dict es ep):
  Turn P w K tg (Itq a ob kvs) [it] it (fun i h=>h.IsKeyIter it a i kvs.length ep) where
 mem:=by simp
 obj:=fun i h st b hb=>by
  have e:b=it:=by simpa using hb
  subst e
  obtain⟨o,e,c,d⟩:=st
  exact⟨o,e,fun v z=>by rw [d] at z; cases z⟩
 keep:=fun i h h' st k=>by
  obtain⟨o,e,c⟩:=st
  exact⟨o,k it (by simp) o e,c⟩
 item:=by
  intro X hP hw hK hc i pins s σ H E I hf st hg
  subst hP hw hK
  obtain⟨hH,hi⟩:=hg
  obtain⟨g1,xs,rv,ge⟩:=dH0 I hH hd
  obtain⟨k,v,hkv⟩:∃k v,kvs[i]?=some (k,v):=⟨_,_,by rw [List.getElem?_eq_getElem hi]⟩
  obtain⟨b,u,hu,hk,_⟩:=rv.at hkv
  have hlen:kvs.length=xs.length:=Paired.length rv
  obtain⟨f0,f1,f2,f3,f4,f5⟩:=hf it (by simp)
  refine lK0 st g1 hd (by rw [size_of_entries ge,hlen]) (e:=entryOfKey (bO0 X.prog X.w) (k,b,u)) (by rw [entry_at ge i,hu]; rfl) fun h' st' sb=> ?_
  have I1:Inv X pins σ H {s with heap:=h'}:=I.turned (t':=s.toks) (fun b o hb e=>(sb.2 b hb).trans e) f0 f1 f3 f4 f5
  obtain⟨o,e,c,d⟩:=id st'
  exact⟨_,rfl,iL0 (s:={s with heap:=h'}) e c d (by decide) ⟨.ref b,H,I1,rfl,⟨rfl,k,v,b,hkv,rfl,hk⟩,st',fun b hb=>(hf b hb).1⟩⟩
 done:=by
  intro X hP hw hK hc i pins s σ H E I hf st hg
  subst hP hw hK
  obtain⟨hH,hi⟩:=hg
  obtain⟨g1,xs,rv,ge⟩:=dH0 I hH hd
  have hlen:kvs.length=xs.length:=Paired.length rv
  obtain⟨f0,f1,f2,f3,f4,f5⟩:=hf it (by simp)
  exact mg0 (I.ok.hd hc) st g1 hd (by rw [size_of_entries ge,hlen]) hi fun h' eb=>⟨rfl,I.turned (t':=s.toks) (fun b o hb e=>eb b o hb e) f0 f1 f3 f4 f5⟩
 self:=fun A i s Q E st h=>by
  obtain⟨o,ho,hc,hd⟩:=id st
  exact wpAny_pyIter_keyiter st h
end L2
namespace L2
open PySem PySem.Spec PyProof.Rows
section
variable {X:Cx}{tg:Expr}
def os0 (tl:TE):TI:=fun σ H R=>tl σ H fun x H1=>∃a ob kvs,x=.ref a/\H1 a=some (.frz ob (.dT kvs))/\R (Itq a ob kvs) H1
theorem kv0 {l:Expr}{tl:TE}(hl:PE X l tl):PI X tg l (os0 tl):=by
 intro pins s σ H R I h
 refine thn (hl pins s σ H _ I h) fun v s1 ⟨x,H1,I1,r1,a,ob,kvs,e,ha,q⟩=> ?_
 subst e
 cases r1
 obtain⟨h1,_,h2,xs,rv,o,es,ep,h3,h4,h5,h6,_⟩:=(show ObjOk X.prog X.w H1 s1.heap a (.frz ob (.dT kvs)) from I1.hok a _ ha)
 rw [h1] at h3
 cases h3
 have hT:s1.TypeIs (.ref a) "dict" :=⟨ob,h1,h4.1⟩
 have hsz:es.size=kvs.length:=by rw [size_of_entries h6]; exact(Paired.length rv).symm
 refine wpAny_pyIter_slot hT F.slot_dict_iter (wpAny_call_entry F.slot_dict_iter hT F.entry_dict_iter ?_ (F.args_dict_iter_1 _))
 unfold Builtin.«dict.__iter__» Builtin.Dict.dictSlotNone
 refine wpAny_bind (wpAny_bind (wpAny_notOrdered_dict hT (wpAny_pure (a:=Value.ref a) ?_)))
 show wpAny _ _ (Builtin.Dict.showsAll a>>=_) _ _ _
 unfold Builtin.Dict.showsAll
 rw [if_neg (by rw [h2]; exact Bool.false_ne_true)]
 refine wpAny_bind (wpAny_pure (wpAny_bind (wpAny_dictEntries h1 h5 (wpAny_bind (wpAny_dictEpoch h1 h5 ?_)))))
 refine wpAny_bind (wpAny_newObj_type (wpAny_pure ⟨_,rfl, "dict_keyiterator",_,⟨_,Heap.get?_push_size _ rfl,rfl⟩,F.slot_dict_keyiterator_next.lookup,?_⟩))
 refine⟨s1.heap.objs.size,[s1.heap.objs.size],_,_,H1,rfl,I1.kept (t':=s1.toks) fun b o e=>Heap.get?_push_of_some _ e,gF0 a _ h5,⟨_,Heap.get?_push_size _ rfl,rfl,by rw [<- hsz]; rfl⟩,fun b hb=> ?_,q⟩
 have e:b=s1.heap.objs.size:=by simpa using hb
 subst e
 exact I1.fpOk (Nat.le_refl _) (I1.hok.fresh (Nat.le_refl _))
theorem Inv.swap {pins:List (Addr × Obj)}{σ:St}{H:Hp}{s:Shared}{a:Addr}{u o':HO}(I:Inv X pins σ H s)(h:H a=some u)(h0:X.H₀ a=none)(nt:∀xs,u≠ .tup xs)(no:∀x,u≠ .own x)(new:ObjOk X.prog X.w H s.heap a o'):Inv X pins σ (upd H a o') s:=by
 have hm:∀b u,H b=some u->b≠a->upd H a o' b=some u:=fun b u q ne=>by rw [ah0 ne]; exact q
 have nn:∀b,H b=none->upd H a o' b=none:=fun b q=>by rw [ah0 (fun z=>by rw [z,h] at q; cases q)]; exact q
 have b0:∀{b:Addr} {z:HO},X.H₀ b=some z->b≠a:=fun e z=>by rw [z,h0] at e; cases e
 have st:∀{c:Addr} {v:HO},ObjOk X.prog X.w H s.heap c v->ObjOk X.prog X.w (upd H a o') s.heap c v:=fun x=>x.stay (fun _ _ _ q=>q) (fun c q=>hm c _ q fun z=>by rw [z,h] at q; exact no _ (Option.some.inj q)) fun c xs q=>hm c _ q fun z=>by rw [z,h] at q; exact nt _ (Option.some.inj q)
 refine⟨I.ok,I.os,I.bare,⟨I.base.keep,I.base.slot,fun b o e n hx=>nn b (I.base.free b o e n hx),I.base.there,fun b xs e=>hm b _ (I.base.tups b xs e) (b0 e),fun b o u e=>hm b _ (I.base.frzs b o u e) (b0 e),fun b ps e=>let ⟨mo,q⟩:=I.base.tbls b ps e; ⟨mo,hm b _ q (b0 e)⟩⟩,I.loc,I.cell,nn _ I.free,fun x c e=>nn c (I.freeC x c e),fun p hp=>let ⟨h1,h2,h3⟩:=I.pin p hp; ⟨h1,nn _ h2,h3⟩,fun b u e=> ?_,I.len⟩
 by_cases hba:b=a
 ·subst hba
  rw [ai0] at e
  cases e
  exact st new
 ·rw [ah0 hba] at e
  exact st (I.hok b u e)
theorem Inv.sealT {pins:List (Addr × Obj)}{σ:St}{H:Hp}{s:Shared}{a:Addr}{kvs:List (SK × V)}(I:Inv X pins σ H s)(h:H a=some (.dT kvs))(h0:X.H₀ a=none):∃o,Inv X pins σ (upd H a (.frz o (.dT kvs))) s:=by
 have ok:ObjOk X.prog X.w H s.heap a (.dT kvs):=I.hok a _ h
 obtain⟨_,_,_,_,ob,_,_,hob,_⟩:=id ok
 exact⟨ob,I.swap h h0 (fun _ z=>by cases z) (fun _ z=>by cases z) ⟨hob,ok⟩⟩
theorem Inv.unsealT {pins:List (Addr × Obj)}{σ:St}{H:Hp}{s:Shared}{a:Addr}{o:Obj}{kvs:List (SK × V)}(I:Inv X pins σ H s)(h:H a=some (.frz o (.dT kvs)))(h0:X.H₀ a=none):Inv X pins σ (upd H a (.dT kvs)) s:=
 I.swap h h0 (fun _ z=>by cases z) (fun _ z=>by cases z) (show s.heap.get? a=some o/\ObjOk X.prog X.w H s.heap a (.dT kvs) from I.hok a _ h).2
theorem mE0 {st:Stmt}{t:TS}(h:PS X st t):PS X st (fun D σ H=>∃a kvs,H a=some (.dT kvs)/\X.H₀ a=none/\∀o,t D σ (upd H a (.frz o (.dT kvs)))):=fun pins s σ H D I ⟨a,kvs,e,e0,q⟩=>by
 obtain⟨o,I'⟩:=I.sealT e e0
 exact h pins s σ _ D I' (q o)
theorem io0 {st:Stmt}{t:TS}(h:PS X st t):PS X st (fun D σ H=>∃a o kvs,H a=some (.frz o (.dT kvs))/\X.H₀ a=none/\t D σ (upd H a (.dT kvs))):=fun pins s σ H D I ⟨a,o,kvs,e,e0,q⟩=>h pins s σ _ D (I.unsealT e e0) q
def nO0:V->List V->Hp->VK->Prop:=fun x vs H Q=>∃l kvs,x=.ref l/\vs=[]/\H l=some (.dT kvs)/\Q .non (upd H l (.dT []))
theorem lr0:MtM X "dict.clear" nO0:=by
 intro pins s σ H x vs v us Q I rx rv h
 obtain⟨l,kvs,rfl,rfl,hH,q⟩:=h
 cases rx
 have hus:=rv.zero
 subst hus
 obtain⟨z,hd,xs,r,o,es,ep,h1,h2,h3,h4,h5⟩:=(show ObjOk X.prog X.w H s.heap l (.dT kvs) from I.hok l _ hH)
 have hT:s.TypeIs (.ref l) "dict" :=⟨o,h1,h2.1⟩
 have hes:es.size<=sizeLine:=by rw [size_of_entries h4]; exact(Paired.length r)▸z
 refine wpAny_call_entry PySem.F.slot_dict_clear hT PySem.F.entry_dict_clear ?_ (PySem.F.args_dict_clear_1 _)
 unfold Builtin.«dict.clear» Builtin.Dict.noArgs
 refine wpAny_bind (wpAny_bind (wpAny_notOrdered_dict hT (wpAny_pure (a:=l) ?_)))
 refine wpAny_bind (wpAny_dictEntries h1 h3 (wpAny_bind ?_))
 unfold bearsInstanceDictMark
 refine wpAny_bind (wpAny_load h1 (wpAny_pure (wpAny_bind (wpAny_updateDictKeys (hz:=hes) h1 h3 ?_))))
 have fin:EP X pins σ Q .none {s with heap:=s.heap.update l (Obj.mapDictKeys fun _=> #[])}:=
  ⟨.non,_,gu0 (ob:=.dT []) (t':=s.toks) I (by rw [hH]; exact True.intro) (Heap.SameBut.update ..) ⟨_,Heap.get?_update_self _ h1 (Obj.isFreed_of_dict (Obj.data_mapDictKeys h3 _))⟩
   ⟨Nat.zero_le _,hd,[],.nil,_,_,ep+1,Heap.get?_update_self _ h1 (Obj.isFreed_of_dict (Obj.data_mapDictKeys h3 _)),h2.mapDictKeys _,Obj.data_mapDictKeys h3 _,rfl,List.nodup_nil⟩,rfl,q⟩
 split
 ·exact wpAny_bind (wpAny_letGo (wpAny_pure ⟨.none,rfl,fin⟩))
 ·exact wpAny_bind (wpAny_pure (wpAny_pure ⟨.none,rfl,fin⟩))
end
end L2
namespace L2.BD
open PySem PySem.Spec PyProof.Rows
def oy0 (F:Addr->Prop)(H:Hp)(kvs lvs:List (SK × V)):Prop:=kvs.length=lvs.length/\∀kv∈kvs,∃v' t,valV lvs kv.1=some v'/\Rb F H kv.2 t/\Rb F H v' t/\eqT 9 t t=some true
def mX0 (b:Bool):R2:=fun x y H Q=>∃a c F kvs lvs,x=.ref a/\y=.ref c/\Rd H a (.dT kvs)/\Rd H c (.dT lvs)/\oy0 F H kvs lvs/\Q (.bl b) H
section
variable {X:Cx}{pins:List (Addr × Obj)}{σ:St}{H:Hp}{s:Shared}{F:Addr->Prop}
theorem eV0 {A:Around}(hu:A.units+9<cLine)(I:Inv X pins σ H s){kvs lvs:List (SK × V)}{xs ys:List (SK × Addr × Value)}(r1:KT H kvs xs)(r2:KT H lvs ys)(h:oy0 F H kvs lvs):∀x∈xs,∃p,atKey ys x.1=some p/\EqP X.prog X.w A s x.2.2 p.2:=by
 intro x hx
 obtain⟨i,hi⟩:=List.mem_iff_getElem?.mp hx
 obtain⟨kv,e1,k1,k2,k3⟩:=Paired.get1 r1 hi
 obtain⟨v',t,e2,q1,q2,e3⟩:=h.2 kv (List.mem_of_getElem? e1)
 have q:=r2.val kv.1
 rw [e2] at q
 cases e4:atKey ys kv.1 with
 |none=>rw [e4] at q; exact q.elim
 |some p=>
  rw [e4] at q
  refine⟨p,by rw [<- k1]; exact e4,fun E Q hq=> ?_⟩
  exact lb0 (F:=F) I 9 t t true A kv.2 v' _ _ e3 hu q1 q2 k3 q _ _ _ _ hq
theorem pd0 (hu:X.A.units+20<cLine):OpR X (compareOp .Eq) (mX0 true):=by
 intro pins s σ H x y v u Q I rx ry ⟨a,c,F,kvs,lvs,e1,e2,h1,h2,al,q⟩
 subst e1 e2
 cases rx; cases ry
 obtain⟨z1,y1,xs,r1,d1⟩:=ga0 I.hok h1
 obtain⟨z2,y2,ys,r2,d2⟩:=ga0 I.hok h2
 refine kC0 (by omega) y1 y2 d1 d2 (by rw [<- Paired.length r1,<- Paired.length r2,al.1]) (eV0 (by show X.A.units+1+9<_; omega) I r1 r2 al) ⟨.bl true,H,I,rfl,q⟩
theorem oM0 (hu:X.A.units+20<cLine):OpR X (compareOp .NotEq) (mX0 false):=by
 intro pins s σ H x y v u Q I rx ry ⟨a,c,F,kvs,lvs,e1,e2,h1,h2,al,q⟩
 subst e1 e2
 cases rx; cases ry
 obtain⟨z1,y1,xs,r1,d1⟩:=ga0 I.hok h1
 obtain⟨z2,y2,ys,r2,d2⟩:=ga0 I.hok h2
 refine kV0 (by omega) y1 y2 d1 d2 (by rw [<- Paired.length r1,<- Paired.length r2,al.1]) (eV0 (by show X.A.units+1+9<_; omega) I r1 r2 al) ⟨.bl false,H,I,rfl,q⟩
end
end L2.BD
set_option Elab.async false
set_option linter.all false
set_option maxRecDepth 100000
set_option maxHeartbeats 4000000
namespace L2.BD
open PySem PySem.Spec PyProof.Rows
structure Chg (L:List Addr)(F:Addr->Prop)(H:Hp)(F':Addr->Prop)(H':Hp):Prop where
 ext:∀b o,b∉L->H b=some o->H' b=some o
 sub:∀a,F a->F' a
 new:∀a,F' a->F a\/ H a=none
 trk:Trk F' H'
 there:∀b,H b≠none->H' b≠none
def dT0 (L:List Addr)(F:Addr->Prop)(H:Hp):Prop:=∀a∈L,¬F a/\∀xs,H a≠some (.tup xs)
section
variable {L:List Addr}{F F1 F2:Addr->Prop}{H H1 H2:Hp}
theorem Chg.keep (c:Chg L F H F1 H1)(l:dT0 L F H):Keep F H F1 H1:=⟨c.sub,fun a o f h=>c.ext a o (fun z=>(l a z).1 f) h,fun a xs h=>c.ext a _ (fun z=>(l a z).2 xs h) h⟩
theorem Mono.chg (m:Mono F H F1 H1):Chg L F H F1 H1:=⟨fun b o _ h=>m.ext b o h,m.sub,m.new,m.trk,fun b h z=>by
 cases q:H b with
 |none=>exact h q
 |some o=>rw [m.ext b o q] at z; cases z⟩
theorem Chg.trans (a:Chg L F H F1 H1)(b:Chg L F1 H1 F2 H2):Chg L F H F2 H2:=
 ⟨fun x o n h=>b.ext x o n (a.ext x o n h),fun x h=>b.sub x (a.sub x h),fun x h=>(b.new x h).elim (a.new x) fun z=> .inr (Classical.byContradiction fun q=>a.there x q z),b.trk,fun x h=>b.there x (a.there x h)⟩
theorem Chg.mono {L':List Addr}(h:∀a∈L,a∈L')(c:Chg L F H F1 H1):Chg L' F H F1 H1:=⟨fun b o n=>c.ext b o fun z=>n (h b z),c.sub,c.new,c.trk,c.there⟩
theorem Chg.write {a:Addr}{o:HO}(tk:Trk F H)(ha:a∈L)(hh:H a≠none):Chg L F H F (upd H a o):=
 ⟨fun b u n h=>by rw [ah0 (fun(z:b=a)=>n (z▸ha))]; exact h,fun _ h=>h,fun _ h=> .inl h,fun b h=>by
  by_cases z:b=a
  ·exact⟨o,by rw [z]; exact ai0⟩
  ·rw [ah0 z]; exact tk b h,fun b h=>by
  by_cases z:b=a
  ·rw [z,ai0]; exact fun q=>nomatch q
  ·rw [ah0 z]; exact h⟩
theorem Chg.free (c:Chg L F H F1 H1){a:Addr}(nf:¬F a)(h:H a≠none):¬F1 a:=fun z=>(c.new a z).elim nf h
theorem Chg.freeze {a:Addr}(c:Chg L F H F1 H1)(n:H a=none)(t:∃o,H1 a=some o):Chg L F H (fun b=>F1 b\/ b=a) H1:=
 ⟨c.ext,fun x h=> .inl (c.sub x h),fun x h=>h.elim (c.new x) fun e=> .inr (e▸n),fun x h=>h.elim (c.trk x) fun e=>e▸t,c.there⟩
end
section
variable {K:PySem.W.Frag}{σ:St}{H:Hp}{Q:VK}
theorem nU0 {i:Nat}{f:Str}{a C dx:Addr}{fs:List (Str × V)}{v:V}(h:σ[i]?=some (some (.ref a)))(hH:H a=some (.ins C dx fs))(c:Cls K C)(na:NoAttr K C f)(l:fs.lookup f=some v)(q:Q v H):tFld K (tVar i) f σ H Q:=
 ⟨_,h,a,C,dx,fs,v,rfl,hH,c,na,l,q⟩
end
theorem jE0 {J:It}{F0:Addr->Prop}{H0:Hp}{ts:List T}{g:TG}{tb:TS}{D:Ends}{σ:St}(hy:gg0 J F0 H0 ts)(W:Nat->(Addr->Prop)->St->Hp->Prop)(hk:∀i F σ H,W i F σ H->Keep F0 H0 F H/\Trk F H)(h0:W 0 F0 σ H0)
  (hs:∀(i:Nat) t F σ H F' H' v,ts[i]?=some t->W i F σ H->Mono F H F' H'->Rp F' H' v t->g v σ H' fun σ2 H2=>tb {D with nx:=fun σ H=>∃F,W (i+1) F σ H,ct:=fun σ H=>∃F,W (i+1) F σ H,bk:=D.nx} σ2 H2)
  (hd:∀F σ H,W ts.length F σ H->D.nx σ H):
  ∃W:Nat->Nat->St->Hp->Prop,(∃m,W 0 m σ H0)/\∀i m σ H,W i m σ H->
   (J.stop i H/\D.nx σ H)\/ (J.go i H/\∃N:St->Hp->Prop,(∀σ' H',N σ' H'->∃m',m'<m/\W (i+1) m' σ' H')/\∀x H',J.yld i H x H'->g x σ H' fun σ2 H2=>tb {D with nx:=N,ct:=N,bk:=D.nx} σ2 H2):=by
 refine⟨fun i m σ H=>i<=ts.length/\m=ts.length - i/\∃F,W i F σ H,⟨_,Nat.zero_le _,rfl,F0,h0⟩,fun i m σ H ⟨hi,hm,F,w⟩=> ?_⟩
 obtain⟨kp,tk⟩:=hk i F σ H w
 obtain⟨y1,y2⟩:=hy i F H kp tk
 by_cases e:i=ts.length
 ·subst e
  exact .inl ⟨y2 rfl,hd F σ H w⟩
 ·have hi:i<ts.length:=by omega
  obtain⟨go,yl⟩:=y1 ts[i] (List.getElem?_eq_getElem hi)
  refine .inr ⟨go,fun σ H=>∃F,W (i+1) F σ H,fun σ' H' ⟨F',w'⟩=>⟨ts.length - (i+1),by omega,by omega,rfl,F',w'⟩,fun x H' hy=> ?_⟩
  obtain⟨F',m',rx⟩:=yl x H' hy
  exact hs i ts[i] F σ H F' H' x (List.getElem?_eq_getElem hi) w m' rx
theorem bV0 {K:PySem.W.Frag}{a:Addr}{F:Addr->Prop}{H:Hp}{xs:List V}{ts:List T}(f:F a)(h:H a=some (.lst xs))(r:Rps F H xs ts):gg0 (Itl K a) F H ts:=fun i F1 H1 kp tk=>by
 have h1:=kp.frz a _ f h
 have r1:=r.keep kp
 refine⟨fun t e=> ?_,fun e=>⟨xs,SqL.of h1,by rw [r.length]; omega⟩⟩
 obtain⟨x,hx,rx⟩:=r1.get e
 refine⟨⟨xs,x,SqL.of h1,hx⟩,fun y H' ⟨e',hy⟩=> ?_⟩
 subst e'
 have:=hy xs (SqL.of h1)
 rw [hx] at this
 cases this
 exact⟨F1,.refl tk,rx⟩
theorem Trk.not {F:Addr->Prop}{H:Hp}(t:Trk F H){a:Addr}(h:H a=none):¬F a:=fun f=>by
 obtain⟨o,e⟩:=t a f
 rw [h] at e; cases e
theorem Rp.ins_ {F:Addr->Prop}{H:Hp}{v:V}{C:Addr}{ts:List (Str × T)}(h:Rp F H v (.ins C ts)):∃a dx xs,v=.ref a/\H a=some (.ins C dx xs)/\Rpf F H xs ts:=(Rb.v h).ins_
def hT0 (n:Nat)(J:It)(g:TG)(te:TE)(σ:St)(Q:VK)(H:Hp):Prop:=
  ∃W:Nat->Nat->List V->Hp->Prop,(∃m,W 0 m [] H)/\∀i m ys H,W i m ys H->
   (J.stop i H/\∀p,H p=none->Q (.ref p) (upd H p (.lst ys)))\/ (J.go i H/\∀x H',J.yld i H x H'->g x (List.replicate n none++σ) H' fun σ2 H2=>σ2.drop n=σ/\lA0 σ2 H2 fun b H3=>
    if b=true then te σ2 H3 fun y H4=>ys.length<sizeLine/\∃m',m'<m/\W (i+1) m' (ys++ [y]) H4 else∃m',m'<m/\W (i+1) m' ys H3)
theorem hY0 {n:Nat}{wi:TI}{g:TG}{te:TE}{σ:St}{H:Hp}{Q:VK}(h:wi σ H fun J H1=>hT0 n J g te σ Q H1):lW0 n wi g lA0 te σ H Q:=h
theorem mV0 {td ty tv:TE}{D:Ends}{σ:St}{H:Hp}(h:tv σ H fun v H1=>td σ H1 fun x H2=>ty σ H2 fun y H3=>∃a H4,x=.ref a/\DPut H3 a y v H4/\D.nx σ H4):L2.sDPut td ty tv D σ H:=h
theorem cK0 {n:Nat}{J:It}{F:Addr->Prop}{H:Hp}{ts us:List T}{g:TG}{te:TE}{σ:St}{Q:VK}(hy:gg0 J F H ts)(tk:Trk F H)(hl:ts.length<=1000000)(hu:us.length=ts.length)
  (hs:∀(i:Nat) t u F1 H1 x (R:VK),ts[i]?=some t->us[i]?=some u->Mono F H F1 H1->Rp F1 H1 x t->(∀F3 y H3,Mono F1 H1 F3 H3->Rp F3 H3 y u->R y H3)->g x (List.replicate n none++σ) H1 fun σ2 H2=>σ2.drop n=σ/\te σ2 H2 R)
  (q:∀F1 H1 p ys,Mono F H F1 H1->H1 p=none->Rps F1 H1 ys us->Q (.ref p) (upd H1 p (.lst ys))):
  hT0 n J g te σ Q H:=by
 refine⟨fun i m ys H1=>i<=ts.length/\m=ts.length - i/\ys.length=i/\∃F1,Mono F H F1 H1/\Rps F1 H1 ys (us.take i),⟨_,Nat.zero_le _,rfl,rfl,F,.refl tk,by rw [List.take_zero]; exact .nil⟩,fun i m ys H1 ⟨hi,hm,hy',F1,m1,r1⟩=> ?_⟩
 obtain⟨y1,y2⟩:=hy i F1 H1 m1.keep m1.trk
 by_cases e:i=ts.length
 ·subst e
  refine .inl ⟨y2 rfl,fun p hp=>q F1 H1 p ys m1 hp ?_⟩
  rw [<- hu,List.take_length] at r1
  exact r1
 ·have hi:i<ts.length:=by omega
  have hi2:i<us.length:=by omega
  obtain⟨go,yl⟩:=y1 ts[i] (List.getElem?_eq_getElem hi)
  refine .inr ⟨go,fun x H' hx=> ?_⟩
  obtain⟨F',m',rx⟩:=yl x H' hx
  have fe:∀(A:St->Hp->Hp->Prop) (B:St->Hp->Prop),(fun(σ2:St) (H2:Hp)=>σ2.drop n=σ/\lA0 σ2 H2 fun b H3=>if b=true then A σ2 H2 H3 else B σ2 H3)=fun σ2 H2=>σ2.drop n=σ/\A σ2 H2 H2:=fun A B=>by
   funext σ2 H2
   show (_/\(if true=true then A σ2 H2 H2 else B σ2 H2))=_
   rw [if_pos rfl]
  have fe:=fe (fun σ2 _ H3=>te σ2 H3 fun y H4=>ys.length<sizeLine/\∃m',m'<m/\i+1<=ts.length/\m'=ts.length - (i+1)/\(ys++ [y]).length=i+1/\∃F1,Mono F H F1 H4/\Rps F1 H4 (ys++ [y]) (us.take (i+1)))
  rw [fe]
  refine hs i ts[i] us[i] F' H' x _ (List.getElem?_eq_getElem hi) (List.getElem?_eq_getElem hi2) (m1.trans m') rx fun F3 y H3 m3 ry=>⟨by rw [sizeLine_eq]; omega,_,by omega,hi,rfl,by rw [List.length_append,hy']; rfl,F3,(m1.trans m').trans m3,?_⟩
  rw [List.take_succ_eq_append_getElem hi2]
  exact(r1.keep (m'.trans m3).keep).append (.cons ry .nil)
end L2.BD
set_option Elab.async false
set_option linter.all false
set_option maxRecDepth 100000
set_option maxHeartbeats 4000000
namespace L2.BD
open PySem PySem.Spec PyProof.Rows
theorem Chg.toMono {L:List Addr}{F F1:Addr->Prop}{H H1:Hp}(c:Chg L F H F1 H1)(h:∀a∈L,H a=none):Mono F H F1 H1:=⟨fun b o e=>c.ext b o (fun z=>by rw [h b z] at e; cases e) e,c.sub,c.new,c.trk⟩
theorem lU0 {K:PySem.W.Frag}{a:Addr}{xs:List V}{g:TG}{tb:TS}{D:Ends}{σ:St}{H:Hp}(Pv:Nat->St->Hp->Prop)(h0:Pv 0 σ H)(hl:∀i σ H,Pv i σ H->H a=some (.lst xs))
  (hs:∀(i:Nat) x σ H p,xs[i]?=some x->Pv i σ H->H p=none->g (.ref p) σ (upd H p (.tup [.int i,x])) fun σ2 H2=>tb {D with nx:=Pv (i+1),ct:=Pv (i+1),bk:=D.nx} σ2 H2) (hd:∀σ H,Pv xs.length σ H->D.nx σ H):
  ∃W:Nat->Nat->St->Hp->Prop,(∃m,W 0 m σ H)/\∀i m σ H,W i m σ H->
   ((Ite K a).stop i H/\D.nx σ H)\/ ((Ite K a).go i H/\∃N:St->Hp->Prop,(∀σ' H',N σ' H'->∃m',m'<m/\W (i+1) m' σ' H')/\∀x H',(Ite K a).yld i H x H'->g x σ H' fun σ2 H2=>tb {D with nx:=N,ct:=N,bk:=D.nx} σ2 H2):=by
 refine⟨fun i m σ H=>i<=xs.length/\m=xs.length - i/\Pv i σ H,⟨_,Nat.zero_le _,rfl,h0⟩,fun i m σ H ⟨hi,hm,w⟩=> ?_⟩
 have ha:=SqL.of (K:=K) (hl i σ H w)
 by_cases e:i=xs.length
 ·subst e
  exact .inl ⟨⟨xs,ha,Nat.le_refl _⟩,hd σ H w⟩
 ·have hi:i<xs.length:=by omega
  refine .inr ⟨⟨xs,xs[i],ha,List.getElem?_eq_getElem hi⟩,Pv (i+1),fun σ' H' w'=>⟨xs.length - (i+1),by omega,by omega,rfl,w'⟩,fun x H' ⟨p,hp,ex,hy⟩=> ?_⟩
  obtain⟨y,hy1,hy2⟩:=hy xs ha
  subst ex hy2
  exact hs i y σ H p hy1 w hp
theorem im0 {a:Addr}{ob:Obj}{kvs:List (SK × V)}{g:TG}{tb:TS}{D:Ends}{σ:L2.St}{H:Hp}(Pv:Nat->L2.St->Hp->Prop)(h0:Pv 0 σ H)(hl:∀i σ H,Pv i σ H->H a=some (.frz ob (.dT kvs)))
  (hs:∀(i:Nat) k v b σ H,kvs[i]?=some (k,v)->Pv i σ H->KeyAt H b k->g (.ref b) σ H fun σ2 H2=>tb {D with nx:=Pv (i+1),ct:=Pv (i+1),bk:=D.nx} σ2 H2) (hd:∀σ H,Pv kvs.length σ H->D.nx σ H):
  ∃W:Nat->Nat->L2.St->Hp->Prop,(∃m,W 0 m σ H)/\∀i m σ H,W i m σ H->
   ((Itq a ob kvs).stop i H/\D.nx σ H)\/ ((Itq a ob kvs).go i H/\∃N:L2.St->Hp->Prop,(∀σ' H',N σ' H'->∃m',m'<m/\W (i+1) m' σ' H')/\∀x H',(Itq a ob kvs).yld i H x H'->g x σ H' fun σ2 H2=>tb {D with nx:=N,ct:=N,bk:=D.nx} σ2 H2):=by
 refine⟨fun i m σ H=>i<=kvs.length/\m=kvs.length - i/\Pv i σ H,⟨_,Nat.zero_le _,rfl,h0⟩,fun i m σ H ⟨hi,hm,w⟩=> ?_⟩
 have ha:=hl i σ H w
 by_cases e:i=kvs.length
 ·subst e
  exact .inl ⟨⟨ha,Nat.le_refl _⟩,hd σ H w⟩
 ·have hi:i<kvs.length:=by omega
  refine .inr ⟨⟨ha,hi⟩,Pv (i+1),fun σ' H' w'=>⟨kvs.length - (i+1),by omega,by omega,rfl,w'⟩,fun x H' ⟨e,k,v,b,h1,h2,h3⟩=> ?_⟩
  subst e h2
  exact hs i k v b σ H' h1 w h3
theorem oY0:1<=sizeLine:=by rw [sizeLine_eq]; decide
theorem r_seq {t u:TS}{D:Ends}{σ:L2.St}{H:Hp}(h:t {D with nx:=u D} σ H):tSeq t u D σ H:=h
theorem oT0 {te:TE}{tr:TA}{σ:L2.St}{H:Hp}{Q:List V->Hp->Prop}(h:te σ H fun x H1=>tr σ H1 fun xs H2=>Q (x::xs) H2):ey0 te tr σ H Q:=h
theorem atI1 {xs:List V}{v:V}(h:xs[1]?=some v):atI xs 1=some v:=atI_nat h
theorem nQ0 {r:R2}{v:V}{tb:TE}{σ:L2.St}{H:Hp}{Q:Bool->Hp->Prop}(h:tb σ H fun y H2=>r v y H2 fun x H'=>∃k,x=.bl k/\Q k H'):lB0 (tOp r (tC v) tb) σ H Q:=h
end L2.BD
set_option Elab.async false
set_option linter.all false
set_option maxRecDepth 100000
set_option maxHeartbeats 4000000
namespace Bed1
open PySem PySem.Spec PyProof.Rows L2 L2.BD
seal PE PT PW PA PS PSs PI PG PGs PIf PO
abbrev ja0:Stmt:=top 16
def zj0:List Str:=["value", "least", "most"]
def Q4:List Str:=["value", "least", "most"]
def Yb0 (C:Addr):En->Option Fl:=(sSeq (sIf (qOr (qB (eIs "bool" (bVar 0))) (qNot (qB (eIs "int" (bVar 0))))) (sRet false (eC (.bl false))) sNx)
  (sRet false (cR0 φLe φLe (bVar 1) (bVar 0) (bVar 2))))
def J4 (C:Addr):List T->Option (Bool × T):=fnT zj0 3 (Yb0 C)
abbrev ka0:Stmt:=top 17
def qj0:List Str:=["value", "least", "most", "what"]
def J1:List Str:=["value", "least", "most", "what"]
def Xb0 (C:Addr):En->Option Fl:=(sIf (qNot (qB (eFn (J4 C) (aa0 (eVar 0) (aa0 (eVar 1) (aa0 (eVar 2) aNil)))))) (fun _=>none) sNx)
def y0 (C:Addr):List T->Option (Bool × T):=fnT qj0 4 (Xb0 C)
abbrev wa0:Stmt:=top 19
def jj0:List Str:=["soils", "top", "soil"]
def K4:List Str:=["soils", "top"]
def zc0 (C:Addr):En->Option Fl:=(sSeq (aT0 (eFn (y0 C) (aa0 (eVar 1) (aa0 (eC (.int 1)) (aa0 (eC (.int 5)) (aa0 (eC (.str "the top")) aNil))))))
  (sSeq (sIf (qNot (qB (eIs "list" (bVar 0)))) (fun _=>none) sNx)
  (sSeq (aT0 (eFn (y0 C) (aa0 (aw0 φLen (aa0 (bVar 0) aNil)) (aa0 (eC (.int 1)) (aa0 (eC (.int 3)) (aa0 (eC (.str "the count of beds")) aNil))))))
  (sFor (iLst (eVar 0)) (ao0 2) (aT0 (eFn (y0 C) (aa0 (eVar 2) (aa0 (eC (.int 0)) (aa0 (eVar 1) (aa0 (eC (.str "the soil of a bed")) aNil))))))))))
def Q2 (C:Addr):List T->Option (Bool × T):=fnT jj0 2 (zc0 C)
abbrev va0:Stmt:=top 20
def kj0:List Str:=["crop"]
def W4:List Str:=["crop"]
def qc0 (C:Addr):En->Option Fl:=(sSeq (sIf (qOr (qNot (qB (eIs "tuple" (bVar 0)))) (qB (e2 φNe (aw0 φLen (aa0 (bVar 0) aNil)) (eC (.int 5))))) (fun _=>none) sNx)
  (sSeq (sIf (qOr (qNot (qB (eIs "str" (e2 φIx (bVar 0) (eC (.int 0)))))) (qB (e2 φEq (e2 φIx (bVar 0) (eC (.int 0))) (eC (.str ""))))) (fun _=>none) sNx)
  (sSeq (aT0 (eFn (y0 C) (aa0 (e2 φIx (bVar 0) (eC (.int 1))) (aa0 (e1 φNeg (eC (.int 3))) (aa0 (eC (.int 3)) (aa0 (eC (.str "the change of a crop")) aNil))))))
  (sSeq (aT0 (eFn (y0 C) (aa0 (e2 φIx (bVar 0) (eC (.int 2))) (aa0 (eC (.int 0)) (aa0 (eC (.int 1000)) (aa0 (eC (.str "the harvest of a crop")) aNil))))))
  (sSeq (aT0 (eFn (y0 C) (aa0 (e2 φIx (bVar 0) (eC (.int 3))) (aa0 (eC (.int 0)) (aa0 (eC (.int 3)) (aa0 (eC (.str "the gap of a crop")) aNil))))))
  (sIf (qNot (qB (eIs "list" (e2 φIx (bVar 0) (eC (.int 4)))))) (fun _=>none) sNx))))))
def J2 (C:Addr):List T->Option (Bool × T):=fnT kj0 1 (qc0 C)
abbrev ya0:Stmt:=top 18
def wj0:List Str:=["name", "names"]
def V2:List Str:=["name", "names"]
def jc0 (C:Addr):En->Option Fl:=(sIf (qB (e2 (φIn true) (bVar 0) (bVar 1))) (fun _=>none) sNx)
def W0 (C:Addr):List T->Option (Bool × T):=fnT wj0 2 (jc0 C)
abbrev Q8:Stmt:=top 23
def kc0:List Str:=["crops"]
def Y2:List Str:=["crops"]
def wc0 (C:Addr):En->Option Fl:=(sRet true (aX0 1 (iLst (eVar 0)) (ao0 0) bn0 (e2 φIx (bVar 0) (eC (.int 0)))))
def Z1 (C:Addr):List T->Option (Bool × T):=fnT kc0 1 (wc0 C)
abbrev xa0:Stmt:=top 21
def vj0:List Str:=["crops", "crop", "names", "name"]
def V4:List Str:=["crops"]
def vc0 (C:Addr):En->Option Fl:=(sSeq (sIf (qNot (qB (eIs "list" (bVar 0)))) (fun _=>none) sNx)
  (sSeq (aT0 (eFn (y0 C) (aa0 (aw0 φLen (aa0 (bVar 0) aNil)) (aa0 (eC (.int 1)) (aa0 (eC (.int 5)) (aa0 (eC (.str "the count of crops")) aNil))))))
  (sSeq (sFor (iLst (eVar 0)) (ao0 1) (aT0 (eFn (J2 C) (aa0 (eVar 1) aNil))))
  (sSeq (sSet 2 (eFnF (Z1 C) (aa0 (eVar 0) aNil)))
  (sSeq (sIf (qB (e2 φNe (dr0 (bVar 2)) (aw0 φLen (aa0 (bVar 2) aNil)))) (fun _=>none) sNx)
  (sFor (iLst (eVar 0)) (ao0 1) (sFor (iLst (e2 φIx (bVar 1) (eC (.int 4)))) (ao0 3) (aT0 (eFn (W0 C) (aa0 (eVar 3) (aa0 (eVar 2) aNil)))))))))))
def X2 (C:Addr):List T->Option (Bool × T):=fnT vj0 1 (vc0 C)
abbrev ha0:Stmt:=top 22
def yj0:List Str:=["wants", "names", "name", "pair"]
def Y4:List Str:=["wants", "names"]
def yc0 (C:Addr):En->Option Fl:=(sSeq (sIf (qNot (qB (eIs "dict" (bVar 0)))) (fun _=>none) sNx)
  (sFor (fW0 (eVar 0)) (cf0 2 3) (sSeq (aT0 (eFn (W0 C) (aa0 (eVar 2) (aa0 (eVar 1) aNil))))
  (sSeq (sIf (qOr (qNot (qB (eIs "tuple" (bVar 3)))) (qB (e2 φNe (aw0 φLen (aa0 (bVar 3) aNil)) (eC (.int 2))))) (fun _=>none) sNx)
  (sSeq (aT0 (eFn (y0 C) (aa0 (e2 φIx (bVar 3) (eC (.int 1))) (aa0 (eC (.int 0)) (aa0 (eC (.int 3)) (aa0 (eC (.str "the most of a want")) aNil))))))
  (aT0 (eFn (y0 C) (aa0 (e2 φIx (bVar 3) (eC (.int 0))) (aa0 (eC (.int 0)) (aa0 (e2 φIx (bVar 3) (eC (.int 1))) (aa0 (eC (.str "the least of a want")) aNil)))))))))))
def j3 (C:Addr):List T->Option (Bool × T):=fnT yj0 2 (yc0 C)
abbrev J8:Stmt:=top 24
def xc0:List Str:=["some", "names"]
def X4:List Str:=["some", "names"]
def Zc0 (C:Addr):En->Option Fl:=(sRet false (aw0 bi0 (aa0 (aX0 1 (iLst (eVar 0)) (ao0 0) bn0 (eBM cD0 (bVar 2) (aa0 (bVar 0) aNil))) aNil)))
def W1 (C:Addr):List T->Option (Bool × T):=fnT xc0 2 (Zc0 C)
abbrev V1:Stmt:=aF0 (top 26) 0
def V0:List Str:=["self", "soils", "top", "crops", "wants", "names"]
def j5:List Str:=["self", "soils", "top", "crops", "wants"]
def Qc0 (C:Addr):En->Option Fl:=(sSeq (aT0 (eFn (Q2 C) (aa0 (eVar 1) (aa0 (eVar 2) aNil))))
  (sSeq (aT0 (eFn (X2 C) (aa0 (eVar 3) aNil)))
  (sSeq (sSet 5 (eFnF (Z1 C) (aa0 (eVar 3) aNil)))
  (sSeq (aT0 (eFn (j3 C) (aa0 (eVar 4) (aa0 (eVar 5) aNil))))
  (sSeq (cl0 C 0 "soils" (aw0 bi0 (aa0 (bVar 1) aNil)))
  (sSeq (cl0 C 0 "top" (eVar 2))
  (sSeq (cl0 C 0 "changes" (aw0 bi0 (aa0 (aX0 1 (iLst (eVar 3)) (ao0 0) bn0 (e2 φIx (bVar 0) (eC (.int 1)))) aNil)))
  (sSeq (cl0 C 0 "harvests" (aw0 bi0 (aa0 (aX0 1 (iLst (eVar 3)) (ao0 0) bn0 (e2 φIx (bVar 0) (eC (.int 2)))) aNil)))
  (sSeq (cl0 C 0 "gaps" (aw0 bi0 (aa0 (aX0 1 (iLst (eVar 3)) (ao0 0) bn0 (e2 φIx (bVar 0) (eC (.int 3)))) aNil)))
  (sSeq (cl0 C 0 "bars" (aw0 bi0 (aa0 (aX0 1 (iLst (eVar 3)) (ao0 0) bn0 (eFn (W1 C) (aa0 (e2 φIx (bVar 0) (eC (.int 4))) (aa0 (eVar 6) aNil)))) aNil)))
  (sSeq (cl0 C 0 "wants" (aw0 bi0 (aa0 (aX0 2 (fW0 (eVar 4)) (cf0 0 1) bn0 (eTup (aa0 (eBM cD0 (bVar 7) (aa0 (bVar 0) aNil)) (aa0 (e2 φIx (bVar 1) (eC (.int 0))) (aa0 (e2 φIx (bVar 1) (eC (.int 1))) aNil))))) aNil)))
  (cl0 C 0 "depth" (aw0 ij0 (aa0 (eC (.int 1)) (aa0 (aw0 φMax (aa0 (eFld C "gaps" (bVar 0)) aNil)) aNil)))))))))))))))
def Z5 (C:Addr):List T->Option (List (Str × T)):=fnI C V0 5 (Qc0 C)
abbrev K8:Stmt:=aF0 (top 26) 1
def Jc0:List Str:=["self"]
def Q5:List Str:=["self"]
def Kc0 (C:Addr):En->Option Fl:=(sRet false (aw0 bi0 (aa0 (aX0 1 (iTpl (eFld C "soils" (bVar 0))) (ao0 0) bn0 (eTup (aa0 (eVar 0) (aa0 (eTup aNil) aNil)))) aNil)))
def W8 (C:Addr):List T->Option (Bool × T):=fnT Jc0 1 (Kc0 C)
abbrev Za0:Stmt:=aF0 (top 26) 6
def xj0:List Str:=["self", "soil", "stood", "crop"]
def J5:List Str:=["self", "soil", "stood", "crop"]
def Wc0 (C:Addr):En->Option Fl:=(sSeq (sIf (qB (e2 φLt (e2 φAdd (bVar 1) (e2 φIx (eFld C "changes" (bVar 0)) (bVar 3))) (eC (.int 0)))) (sRet false (eC (.bl false))) sNx)
  (sSeq (sIf (qB (e2 (φIn false) (bVar 3) (eSlT (bVar 2) (ba0 none) (ba0 (some (e2 φIx (eFld C "gaps" (bVar 0)) (bVar 3))))))) (sRet false (eC (.bl false))) sNx)
  (sRet false (eOr (e2 φEq (aw0 φLen (aa0 (bVar 2) aNil)) (eC (.int 0))) (e2 (φIn true) (e2 φIx (bVar 2) (eC (.int 0))) (e2 φIx (eFld C "bars" (bVar 0)) (bVar 3)))))))
def v3 (C:Addr):List T->Option (Bool × T):=fnT xj0 4 (Wc0 C)
abbrev V8:Stmt:=aF0 (top 26) 5
def Vc0:List Str:=["self", "soil", "stood"]
def K5:List Str:=["self", "soil", "stood"]
def Yc0 (C:Addr):En->Option Fl:=(sRet true (aX0 1 (aR0 (aa0 (aw0 φLen (aa0 (eFld C "changes" (bVar 0)) aNil)) aNil)) (ao0 0) (qB (dx0 C "lets" (v3 C) (eVar 1) (aa0 (eVar 2) (aa0 (eVar 3) (aa0 (eVar 0) aNil))))) (eVar 0)))
def y3 (C:Addr):List T->Option (Bool × T):=fnT Vc0 3 (Yc0 C)
abbrev Qa0:Stmt:=aF0 (top 26) 7
def hj0:List Str:=["self", "planting", "crop", "least", "most"]
def W5:List Str:=["self", "planting"]
def Xc0 (C:Addr):En->Option Fl:=(sSeq (sFor (iTpl (eFld C "wants" (bVar 0))) (hB0 2 3 4) (sIf (qNot (qB (cR0 φLe φLe (bVar 3) (eBM cZ0 (bVar 1) (aa0 (bVar 2) aNil)) (bVar 4)))) (sRet false (eC (.bl false))) sNx))
  (sRet false (eC (.bl true))))
def x3 (C:Addr):List T->Option (Bool × T):=fnT hj0 2 (Xc0 C)
abbrev Y8:Stmt:=top 25
def zd0:List Str:=["rows", "crops", "longer", "row"]
def V5:List Str:=["rows", "crops"]
def qd0 (C:Addr):En->Option Fl:=(sSeq (cz0 2 (eLst aNil))
  (sSeq (sFor (iLst (eVar 0)) (ao0 3) (sExt 2 (aX0 1 (iLst (eVar 1)) (ao0 0) bn0 (e2 cx0 (bVar 4) (eTup (aa0 (eVar 0) aNil))))))
  (eB0 2)))
def Z3 (C:Addr):List T->Option (Bool × T):=fnT zd0 2 (qd0 C)
abbrev X8:Stmt:=aF0 (top 26) 2
def jd0:List Str:=["self", "state", "rows", "soil", "stood"]
def Y5:List Str:=["self", "state"]
def kd0 (C:Addr):En->Option Fl:=(sSeq (sSet 2 (eLst (aa0 (eTup aNil) aNil)))
  (sSeq (sFor (iTpl (eVar 1)) (cf0 3 4) (sSet 2 (eFnF (Z3 C) (aa0 (eVar 2) (aa0 (eI0 C "crops_for" (y3 C) (eVar 0) (aa0 (eVar 3) (aa0 (eVar 4) aNil))) aNil)))))
  (sRet true (aX0 1 (iLst (eVar 2)) (ao0 0) (qB (dx0 C "meets_wants" (x3 C) (eVar 1) (aa0 (eVar 0) aNil))) (eVar 0)))))
def z9 (C:Addr):List T->Option (Bool × T):=fnT jd0 2 (kd0 C)
abbrev Ja0:Stmt:=aF0 (top 26) 10
def Zj0:List Str:=["self", "soil", "stood", "crop", "row"]
def X5:List Str:=["self", "soil", "stood", "crop"]
def wd0 (C:Addr):En->Option Fl:=(sSeq (sSet 4 (e2 cx0 (eTup (aa0 (eVar 3) aNil)) (bVar 2)))
  (sRet false (eTup (aa0 (aw0 dy0 (aa0 (eFld C "top" (bVar 0)) (aa0 (e2 φAdd (bVar 1) (e2 φIx (eFld C "changes" (bVar 0)) (bVar 3))) aNil))) (aa0 (eSlT (bVar 4) (ba0 none) (ba0 (some (eFld C "depth" (bVar 0))))) aNil)))))
def Q3 (C:Addr):List T->Option (Bool × T):=fnT Zj0 4 (wd0 C)
abbrev q9:Stmt:=aF0 (top 26) 9
def Ka0:List Str:=["self", "state", "planting"]
def j6:List Str:=["self", "state", "planting"]
def vd0 (C:Addr):En->Option Fl:=(sRet false (aw0 bi0 (aa0 (aX0 2 (mn0 (aa0 (bVar 1) (aa0 (bVar 2) aNil))) (cf0 0 1) bn0 (dx0 C "bed_behind" (Q3 C) (eVar 2) (aa0 (e2 φIx (bVar 0) (eC (.int 0))) (aa0 (e2 φIx (bVar 0) (eC (.int 1))) (aa0 (eVar 1) aNil))))) aNil)))
def j9 (C:Addr):List T->Option (Bool × T):=fnT Ka0 3 (vd0 C)
abbrev Wa0:Stmt:=top 28
def Qj0:List Str:=["script", "k"]
def w6:List Str:=["script", "k"]
def yd0 (C:Addr):En->Option Fl:=(sSeq (sIf (qB (e2 φLt (bVar 1) (aw0 φLen (aa0 (bVar 0) aNil)))) (sRet false (e2 φIx (bVar 0) (bVar 1))) sNx)
  (sRet false (eC (.int 0))))
def J3 (C:Addr):List T->Option (Bool × T):=fnT Qj0 2 (yd0 C)
abbrev Va0:Stmt:=top 29
def Jj0:List Str:=["script", "k"]
def Y1:List Str:=["script", "k"]
def xd0 (C:Addr):En->Option Fl:=(sRet false (e2 φMod (e2 φMul (e2 φAdd (eFn (J3 C) (aa0 (eVar 0) (aa0 (e2 φMod (bVar 1) (eC (.int 61))) aNil))) (e2 φMul (eC (.int 7919)) (bVar 1))) (e2 φAdd (eC (.int 48271)) (e2 φMul (eC (.int 2)) (bVar 1)))) (eC (.int 2147483647))))
def j0 (C:Addr):List T->Option (Bool × T):=fnT Jj0 2 (xd0 C)
abbrev Ya0:Stmt:=top 34
def Kj0:List Str:=["script", "most", "cell"]
def y6:List Str:=["script", "most"]
def Zd0 (C:Addr):En->Option Fl:=(sSeq (sSet 2 (eFn (j0 C) (aa0 (eVar 0) (aa0 (eC (.int 8)) aNil))))
  (sSeq (sIf (qB (e2 φEq (bVar 1) (eC (.int 3)))) (sRet false (e2 φAdd (eC (.int 1)) (e2 φMod (bVar 2) (eC (.int 3))))) sNx)
  (sSeq (sIf (qAnd (qB (e2 φEq (bVar 1) (eC (.int 2)))) (qB (e2 φEq (e2 φMod (bVar 2) (eC (.int 8))) (eC (.int 7))))) (sRet false (eC (.int 3))) sNx)
  (sRet false (e2 φAdd (eC (.int 1)) (e2 φMod (bVar 2) (eC (.int 2))))))))
def Z6 (C:Addr):List T->Option (Bool × T):=fnT Kj0 2 (Zd0 C)
abbrev Xa0:Stmt:=top 31
def Wj0:List Str:=["script", "k", "names", "gaps", "bars", "j", "harvest", "change"]
def Q6:List Str:=["script", "k", "names", "gaps"]
def Qd0 (C:Addr):En->Option Fl:=(sSeq (cz0 4 (eLst aNil))
  (sSeq (sFor (aR0 (aa0 (aw0 φLen (aa0 (bVar 2) aNil)) aNil)) (ao0 5) (sIf (qB (e2 φEq (e2 φMod (eFn (j0 C) (aa0 (eVar 0) (aa0 (e2 φAdd (e2 φAdd (eC (.int 20)) (e2 φMul (eC (.int 10)) (bVar 1))) (bVar 5)) aNil))) (eC (.int 5))) (eC (.int 1)))) (sApp 4 (e2 φIx (bVar 2) (bVar 5))) sNx))
  (sSeq (sSet 6 (e2 φMod (eFn (j0 C) (aa0 (eVar 0) (aa0 (e2 φAdd (eC (.int 26)) (e2 φMul (eC (.int 10)) (bVar 1))) aNil))) (e2 φIx (eLst (aa0 (eC (.int 10)) (aa0 (eC (.int 3)) (aa0 (eC (.int 1001)) aNil)))) (e2 φMod (eFn (j0 C) (aa0 (eVar 0) (aa0 (eC (.int 9)) aNil))) (eC (.int 3))))))
  (sSeq (sSet 7 (e2 φSub (e2 φMod (eFn (j0 C) (aa0 (eVar 0) (aa0 (e2 φAdd (eC (.int 27)) (e2 φMul (eC (.int 10)) (bVar 1))) aNil))) (eC (.int 7))) (eC (.int 3))))
  (fun ε=>(sRet false (eTup (aa0 (e2 φIx (bVar 2) (bVar 1)) (aa0 (eVar 7) (aa0 (eVar 6) (aa0 (e2 φMod (eFn (j0 C) (aa0 (eVar 0) (aa0 (e2 φAdd (eC (.int 28)) (e2 φMul (eC (.int 10)) (bVar 1))) aNil))) (e2 φAdd (bVar 3) (eC (.int 1)))) (aa0 (eVar 4) aNil))))))) (frz 4 ε))))))
def K3 (C:Addr):List T->Option (Bool × T):=fnT Wj0 4 (Qd0 C)
abbrev zb0:Stmt:=top 32
def Vj0:List Str:=["script", "names", "beds", "wants", "k", "cell", "least"]
def J6:List Str:=["script", "names", "beds"]
def Jd0 (C:Addr):En->Option Fl:=(sSeq (cz0 3 eDct0)
  (sSeq (sFor (aR0 (aa0 (aw0 φLen (aa0 (bVar 1) aNil)) aNil)) (ao0 4) (sSeq (sSet 5 (eFn (j0 C) (aa0 (eVar 0) (aa0 (e2 φAdd (eC (.int 80)) (bVar 4)) aNil))))
  (sIf (qB (e2 φEq (e2 φMod (bVar 5) (eC (.int 5))) (eC (.int 1)))) (sSeq (sSet 6 (e2 φIx (eLst (aa0 (eC (.int 0)) (aa0 (eC (.int 0)) (aa0 (eC (.int 1)) (aa0 (eVar 2) aNil))))) (e2 φMod (e2 φDiv (bVar 5) (eC (.int 5))) (eC (.int 4)))))
  (sDPut 3 (e2 φIx (bVar 1) (bVar 4)) (eTup (aa0 (eVar 6) (aa0 (aw0 dy0 (aa0 (eC (.int 3)) (aa0 (e2 φAdd (bVar 6) (e2 φMod (e2 φDiv (bVar 5) (eC (.int 20))) (e2 φAdd (bVar 2) (eC (.int 1))))) aNil))) aNil))))) sNx)))
  (eB0 3)))
def K6 (C:Addr):List T->Option (Bool × T):=fnT Vj0 3 (Jd0 C)
abbrev W6:Stmt:=top 33
def w9:List Str:=["script", "beds", "mode", "top", "many", "gaps", "turn", "names", "crops", "soils"]
def V6:List Str:=["script", "beds"]
def Kd0 (C:Addr):En->Option Fl:=(sSeq (sSet 2 (e2 φMod (eFn (j0 C) (aa0 (eVar 0) (aa0 (eC (.int 1)) aNil))) (eC (.int 8))))
  (sSeq (sSet 3 (e2 φIx (eLst (aa0 (eC (.int 1)) (aa0 (eC (.int 2)) (aa0 (eC (.int 3)) (aa0 (eC (.int 3)) (aa0 (eC (.int 2)) (aa0 (eC (.int 5)) (aa0 (eC (.int 4)) (aa0 (eC (.int 1)) aNil))))))))) (bVar 2)))
  (sSeq (sSet 4 (e2 φIx (eLst (aa0 (eC (.int 4)) (aa0 (eC (.int 3)) (aa0 (eC (.int 4)) (aa0 (eC (.int 3)) (aa0 (eC (.int 2)) (aa0 (eC (.int 2)) (aa0 (eC (.int 2)) (aa0 (eC (.int 3)) aNil))))))))) (bVar 2)))
  (sSeq (sSet 5 (e2 φIx (eLst (aa0 (eC (.int 1)) (aa0 (eC (.int 2)) (aa0 (eC (.int 2)) (aa0 (eC (.int 1)) (aa0 (eC (.int 3)) (aa0 (eC (.int 2)) (aa0 (eC (.int 3)) (aa0 (eC (.int 3)) aNil))))))))) (bVar 2)))
  (sSeq (sIf (qB (e2 φGt (bVar 1) (eC (.int 1)))) (sSeq (sSet 3 (eC (.int 1)))
  (sSeq (sSet 4 (e2 φAdd (eC (.int 1)) (e2 φMod (eFn (j0 C) (aa0 (eVar 0) (aa0 (eC (.int 2)) aNil))) (eC (.int 2)))))
  (sSet 5 (e2 φMod (eFn (j0 C) (aa0 (eVar 0) (aa0 (eC (.int 4)) aNil))) (eC (.int 2)))))) sNx)
  (sSeq (sSet 6 (e2 φMod (eFn (j0 C) (aa0 (eVar 0) (aa0 (eC (.int 3)) aNil))) (eC (.int 5))))
  (sSeq (sSet 7 (eLst (aa0 (eC (.str "bean")) (aa0 (eC (.str "rye")) (aa0 (eC (.str "kale")) (aa0 (eC (.str "oat")) (aa0 (eC (.str "pea")) aNil)))))))
  (sSeq (sSet 7 (eSlL (e2 gn0 (eSlL (bVar 7) (ba0 (some (bVar 6))) (ba0 none)) (eSlL (bVar 7) (ba0 none) (ba0 (some (bVar 6))))) (ba0 none) (ba0 (some (bVar 4)))))
  (sSeq (sSet 8 (aX0 1 (aR0 (aa0 (bVar 4) aNil)) (ao0 0) bn0 (eFn (K3 C) (aa0 (eVar 1) (aa0 (eVar 0) (aa0 (eVar 8) (aa0 (eVar 6) aNil)))))))
  (sSeq (sSet 9 (aX0 1 (aR0 (aa0 (bVar 1) aNil)) (ao0 0) bn0 (e2 φMod (eFn (j0 C) (aa0 (eVar 1) (aa0 (e2 φAdd (eC (.int 5)) (bVar 0)) aNil))) (e2 φAdd (bVar 4) (eC (.int 1))))))
  (sRet false (eTup (aa0 (eVar 9) (aa0 (eVar 3) (aa0 (eVar 8) (aa0 (eFnF (K6 C) (aa0 (eVar 0) (aa0 (eVar 7) (aa0 (eVar 1) aNil)))) aNil))))))))))))))))
def v9 (C:Addr):List T->Option (Bool × T):=fnT w9 2 (Kd0 C)
abbrev y9:Stmt:=top 35
def Wd0:List Str:=["plot", "crops"]
def Y6:List Str:=["plot"]
def Vd0 (C:Addr):En->Option Fl:=(sSeq (sSet 1 (aX0 1 (iLst (e2 φIx (bVar 0) (eC (.int 2)))) (ao0 0) bn0 (e2 cx0 (eSlT (bVar 0) (ba0 none) (ba0 (some (eC (.int 4))))) (eTup (aa0 (aw0 fs0 (aa0 (e2 φIx (bVar 0) (eC (.int 4))) aNil)) aNil)))))
  (sRet true (eLst (aa0 (aw0 fs0 (aa0 (e2 φIx (bVar 0) (eC (.int 0))) aNil)) (aa0 (e2 φIx (bVar 0) (eC (.int 1))) (aa0 (eVar 1) (aa0 (aw0 jY0 (aa0 (e2 φIx (bVar 0) (eC (.int 3))) aNil)) aNil)))))))
def x9 (C:Addr):List T->Option (Bool × T):=fnT Wd0 1 (Vd0 C)
abbrev qb0:Stmt:=top 37
def Yj0:List Str:=["plot", "bed", "number", "crop", "k"]
def X6:List Str:=["plot", "bed", "number"]
def Yd0 (C:Addr):En->Option Fl:=(sSeq (sSet 3 (e2 φIx (e2 φIx (bVar 0) (eC (.int 2))) (bVar 2)))
  (sSeq (sIf (qB (e2 φLt (e2 φAdd (e2 φIx (bVar 1) (eC (.int 0))) (e2 φIx (bVar 3) (eC (.int 1)))) (eC (.int 0)))) (sRet false (eC (.bl false))) sNx)
  (sSeq (sFor (aR0 (aa0 (aw0 dy0 (aa0 (e2 φIx (bVar 3) (eC (.int 3))) (aa0 (aw0 φLen (aa0 (e2 φIx (bVar 1) (eC (.int 1))) aNil)) aNil))) aNil)) (ao0 4) (sIf (qB (e2 φEq (e2 φIx (e2 φIx (bVar 1) (eC (.int 1))) (bVar 4)) (bVar 2))) (sRet false (eC (.bl false))) sNx))
  (sRet false (eOr (e2 φEq (e2 φIx (bVar 1) (eC (.int 1))) (eTup aNil)) (e2 (φIn true) (e2 φIx (e2 φIx (e2 φIx (bVar 0) (eC (.int 2))) (e2 φIx (e2 φIx (bVar 1) (eC (.int 1))) (eC (.int 0)))) (eC (.int 0))) (e2 φIx (bVar 3) (eC (.int 4)))))))))
def X1 (C:Addr):List T->Option (Bool × T):=fnT Yj0 3 (Yd0 C)
abbrev jb0:Stmt:=top 39
def Xj0:List Str:=["rows", "numbers", "longer", "row", "number"]
def z7:List Str:=["rows", "numbers"]
def Xd0 (C:Addr):En->Option Fl:=(sSeq (cz0 2 (eLst aNil))
  (sSeq (sFor (iLst (eVar 0)) (ao0 3) (sFor (iLst (eVar 1)) (ao0 4) (sApp 2 (e2 cx0 (bVar 3) (eTup (aa0 (eVar 4) aNil))))))
  (eB0 2)))
def W3 (C:Addr):List T->Option (Bool × T):=fnT Xj0 2 (Xd0 C)
abbrev Z9:Stmt:=top 38
def ze0:List Str:=["plot", "planting", "names", "name"]
def j7:List Str:=["plot", "planting"]
def qe0 (C:Addr):En->Option Fl:=(sSeq (sSet 2 (aX0 1 (iTpl (eVar 1)) (ao0 0) bn0 (e2 φIx (e2 φIx (e2 φIx (bVar 1) (eC (.int 2))) (bVar 0)) (eC (.int 0)))))
  (sSeq (sFor (iKey (e2 φIx (bVar 0) (eC (.int 3)))) (ao0 3) (sIf (qOr (qB (e2 φLt (eBM de0 (bVar 2) (aa0 (bVar 3) aNil)) (e2 φIx (e2 gv0 (e2 φIx (bVar 0) (eC (.int 3))) (bVar 3)) (eC (.int 0))))) (qB (e2 φGt (eBM de0 (bVar 2) (aa0 (bVar 3) aNil)) (e2 φIx (e2 gv0 (e2 φIx (bVar 0) (eC (.int 3))) (bVar 3)) (eC (.int 1)))))) (sRet false (eC (.bl false))) sNx))
  (sRet false (eC (.bl true)))))
def V3 (C:Addr):List T->Option (Bool × T):=fnT ze0 2 (qe0 C)
abbrev v7:Stmt:=top 40
def Q9:List Str:=["plot", "state", "rows", "bed"]
def y7:List Str:=["plot", "state"]
def je0 (C:Addr):En->Option Fl:=(sSeq (sSet 2 (eLst (aa0 (eTup aNil) aNil)))
  (sSeq (sFor (iTpl (eVar 1)) (ao0 3) (sSet 2 (eFnF (W3 C) (aa0 (eVar 2) (aa0 (aX0 1 (aR0 (aa0 (aw0 φLen (aa0 (e2 φIx (bVar 0) (eC (.int 2))) aNil)) aNil)) (ao0 0) (qB (eFn (X1 C) (aa0 (eVar 1) (aa0 (eVar 4) (aa0 (eVar 0) aNil))))) (eVar 0)) aNil)))))
  (sRet true (aX0 1 (iLst (eVar 2)) (ao0 0) (qB (eFn (V3 C) (aa0 (eVar 1) (aa0 (eVar 0) aNil)))) (eVar 0)))))
def J9 (C:Addr):List T->Option (Bool × T):=fnT Q9 2 (je0 C)
abbrev K9:Stmt:=top 36
def ke0:List Str:=["plot"]
def Z7:List Str:=["plot"]
def we0 (C:Addr):En->Option Fl:=(sRet false (aw0 φMax (aa0 (e2 gn0 (eLst (aa0 (eC (.int 1)) aNil)) (aX0 1 (iLst (e2 φIx (bVar 0) (eC (.int 2)))) (ao0 0) bn0 (e2 φIx (bVar 0) (eC (.int 3))))) aNil)))
def Y3 (C:Addr):List T->Option (Bool × T):=fnT ke0 1 (we0 C)
abbrev kb0:Stmt:=top 41
def zk0:List Str:=["plot", "state", "planting", "beds", "k", "soil"]
def Q7:List Str:=["plot", "state", "planting"]
def ve0 (C:Addr):En->Option Fl:=(sSeq (cz0 3 (eLst aNil))
  (sSeq (sFor (aR0 (aa0 (aw0 φLen (aa0 (bVar 1) aNil)) aNil)) (ao0 4) (sSeq (sSet 5 (aw0 dy0 (aa0 (e2 φIx (bVar 0) (eC (.int 1))) (aa0 (e2 φAdd (e2 φIx (e2 φIx (bVar 1) (bVar 4)) (eC (.int 0))) (e2 φIx (e2 φIx (e2 φIx (bVar 0) (eC (.int 2))) (e2 φIx (bVar 2) (bVar 4))) (eC (.int 1)))) aNil))))
  (sApp 3 (eTup (aa0 (eVar 5) (aa0 (eSlT (e2 cx0 (eTup (aa0 (e2 φIx (bVar 2) (bVar 4)) aNil)) (e2 φIx (e2 φIx (bVar 1) (bVar 4)) (eC (.int 1)))) (ba0 none) (ba0 (some (eFn (Y3 C) (aa0 (eVar 0) aNil))))) aNil))))))
  (sRet false (aw0 bi0 (aa0 (bVar 3) aNil)))))
def J7 (C:Addr):List T->Option (Bool × T):=fnT zk0 3 (ve0 C)
abbrev W9:Stmt:=top 42
def ye0:List Str:=["plot"]
def X3:List Str:=["plot"]
def xe0 (C:Addr):En->Option Fl:=(sRet false (aw0 bi0 (aa0 (aX0 1 (iLst (e2 φIx (bVar 0) (eC (.int 0)))) (ao0 0) bn0 (eTup (aa0 (eVar 0) (aa0 (eTup aNil) aNil)))) aNil)))
def K7 (C:Addr):List T->Option (Bool × T):=fnT ye0 1 (xe0 C)
abbrev wb0:Stmt:=aF0 (top 2) 0
def W7:List Str:=["self", "garden"]
theorem qk0:FnScope ["self", "garden"] ["self", "garden"] (af0 wb0):=⟨rfl,rfl,rfl,by decide +kernel,rfl,by decide +kernel,by decide +kernel⟩
abbrev vb0:Stmt:=aF0 (top 2) 1
def j4:List Str:=["self", "state", "came"]
theorem jk0:FnScope ["self", "state", "came"] ["self", "state", "came"] (af0 vb0):=⟨rfl,rfl,rfl,by decide +kernel,rfl,by decide +kernel,by decide +kernel⟩
abbrev yb0:Stmt:=aF0 (top 2) 2
def v4:List Str:=["self", "number"]
theorem kk0:FnScope ["self", "number"] ["self", "number"] (af0 yb0):=⟨rfl,rfl,rfl,by decide +kernel,rfl,by decide +kernel,by decide +kernel⟩
abbrev xb0:Stmt:=aF0 (top 2) 3
def V7:List Str:=["self", "number"]
theorem wk0:FnScope ["self", "number", "state", "moves", "planting", "later"] ["self", "number"] (af0 xb0):=⟨rfl,rfl,rfl,by decide +kernel,rfl,by decide +kernel,by decide +kernel⟩
abbrev hb0:Stmt:=aF0 (top 2) 4
def Y7:List Str:=["self", "first"]
theorem vk0:FnScope ["self", "first", "count", "number"] ["self", "first"] (af0 hb0):=⟨rfl,rfl,rfl,by decide +kernel,rfl,by decide +kernel,by decide +kernel⟩
abbrev Zb0:Stmt:=aF0 (top 2) 5
def X7:List Str:=["self"]
theorem yk0:FnScope ["self", "done"] ["self"] (af0 Zb0):=⟨rfl,rfl,rfl,by decide +kernel,rfl,by decide +kernel,by decide +kernel⟩
abbrev V9:Stmt:=top 4
def he0:List Str:=["garden", "web", "told", "number", "state"]
def z8:List Str:=["garden"]
theorem xk0:FnScope ["garden", "web", "told", "number", "state"] ["garden"] (af0 V9):=⟨rfl,rfl,rfl,by decide +kernel,rfl,by decide +kernel,by decide +kernel⟩
abbrev q8:Stmt:=top 44
def Qb0:List Str:=["plot", "found", "queue", "state"]
def j8:List Str:=["plot"]
theorem hk0:FnScope ["plot", "found", "queue", "state"] ["plot"] (af0 q8):=⟨rfl,rfl,rfl,by decide +kernel,rfl,by decide +kernel,by decide +kernel⟩
abbrev Y0:Stmt:=top 45
def Ze0:List Str:=["script", "plot", "handed", "garden", "due", "found", "state"]
def Qe0:List Str:=["script"]
theorem Zk0:FnScope ["script", "plot", "handed", "garden", "due", "found", "state"] ["script"] (af0 Y0):=⟨rfl,rfl,rfl,by decide +kernel,rfl,by decide +kernel,by decide +kernel⟩
structure Txt (K:PySem.W.Frag)(mg:Str->Option Value)(C CWeb:Addr):Prop where
 cl_Garden:Cls K C
 Kg0:NoAttr K C "bars"
 Jb0:NoAttr K C "changes"
 Wg0:NoAttr K C "depth"
 Je0:NoAttr K C "gaps"
 Qk0:NoAttr K C "harvests"
 Vg0:NoAttr K C "soils"
 Yg0:NoAttr K C "top"
 Xg0:NoAttr K C "wants"
 cl_Web:Cls K CWeb
 Y9:NoAttr K CWeb "garden"
 Q1:NoAttr K CWeb "states"
 y4:NoAttr K CWeb "numbers"
 Kb0:NoAttr K CWeb "came"
 Z4:NoAttr K CWeb "moves"
 Ke0:mg "bool" =none
 X9:mg "dict" =none
 We0:mg "enumerate" =none
 Ve0:mg "int" =none
 K0:mg "isinstance" =none
 Z0:mg "len" =none
 Z2:mg "list" =none
 za0:mg "max" =none
 v8:mg "min" =none
 X0:mg "range" =none
 Ye0:mg "set" =none
 Xe0:mg "str" =none
 J0:mg "tuple" =none
 zf0:mg "zip" =none
 qf0:∃t,mg "MOST_BEDS" =some (.int 3 t)
 Wb0:∃t,mg "MOST_CHANGE" =some (.int 3 t)
 jf0:∃t,mg "MOST_CROPS" =some (.int 5 t)
 kf0:∃t,mg "MOST_GAP" =some (.int 3 t)
 wf0:∃t,mg "MOST_HARVEST" =some (.int 1000 t)
 vf0:∃t,mg "MOST_TOP" =some (.int 5 t)
 yf0:∃t,mg "MOST_WANTED" =some (.int 3 t)
section
variable {P:Program}{w:World}{K:PySem.W.Frag}{mg:Str->Option Value}{base:Heap}{C CWeb f:Addr}{fd:FuncData}
theorem zh0:FnScope ["value", "least", "most"] ["value", "least", "most"] (af0 ja0):=⟨rfl,rfl,rfl,by decide +kernel,rfl,by decide +kernel,by decide +kernel⟩
theorem Jk0 (F:Fun K "is_within" "is_within" ja0 f fd) (T:Txt K mg C CWeb)  :FnOk P w K mg base CX0 1 f fd Q4 (spP (J4 C)):=by
 have sc:=zh0
 refine aJ0 F zh0 (fun _ _ h=>aH0 h) fun cdv A outer s H E FF hr=>⟨Yb0 C,?_,fun ts o t h=>aA0 h⟩
 exact(ag0 (bT0 (qt_w (iT0 (ce0 (fr0 (n:= "bool") (x:= "bool") .bool (by rfl) T.K0 (by rfl) T.Ke0 (by rfl) (ac0 (pv 0)))) (fz0 (cS0 (ce0 (fr0 (n:= "int") (x:= "int") .int (by rfl) T.K0 (by rfl) T.Ve0 (by rfl) (ac0 (pv 0)))))))) (ak0 (aY0 eZ0)) aP0)
   (ak0 (aY0 (lS0 mh0 mh0 o_le o_le (ac0 (pv 1)) (ac0 (pv 0)) (ac0 (pv 2))))))
theorem qh0:FnScope ["value", "least", "most", "what"] ["value", "least", "most", "what"] (af0 ka0):=⟨rfl,rfl,rfl,by decide +kernel,rfl,by decide +kernel,by decide +kernel⟩
theorem Kk0 (F:Fun K "check_within" "check_within" ka0 f fd) (T:Txt K mg C CWeb) (xf0:aL0 P w K mg base 1 "is_within" Q4 (J4 C)):FnOk P w K mg base CX0 2 f fd J1 (spP (y0 C)):=by
 have sc:=qh0
 refine aJ0 F qh0 (fun _ _ h=>aH0 h) fun cdv A outer s H E FF hr=>⟨Xb0 C,?_,fun ts o t h=>aA0 h⟩
 exact(ak0 (bT0 (cS0 (ce0 (aM0 xf0 (hr.mono (by decide)) (by rfl) (ab0 (aj0 (pv 0)) (ab0 (aj0 (pv 1)) (ab0 (aj0 (pv 2)) an0)))))) (ak0 bD0) aP0))
theorem jh0:FnScope ["soils", "top", "soil"] ["soils", "top"] (af0 wa0):=⟨rfl,rfl,rfl,by decide +kernel,rfl,by decide +kernel,by decide +kernel⟩
theorem Wk0 (F:Fun K "check_beds" "check_beds" wa0 f fd) (T:Txt K mg C CWeb) (Q0:aL0 P w K mg base 2 "check_within" J1 (y0 C)):FnOk P w K mg base CX0 3 f fd K4 (spP (Q2 C)):=by
 have sc:=jh0
 refine aJ0 F jh0 (fun _ _ h=>aH0 h) fun cdv A outer s H E FF hr=>⟨zc0 C,?_,fun ts o t h=>aA0 h⟩
 exact(ag0 (bq0 (aM0 Q0 (hr.mono (by decide)) (by rfl) (ab0 (aj0 (pv 1)) (ab0 ad0 (ab0 (cd0 (by rfl) T.vf0) (ab0 bW0 an0))))))
   (ag0 (bT0 (cS0 (ce0 (fr0 (n:= "list") (x:= "list") .list (by rfl) T.K0 (by rfl) T.Z2 (by rfl) (ac0 (pv 0))))) (ak0 bD0) aP0)
   (ag0 (bq0 (aM0 Q0 (hr.mono (by decide)) (by rfl) (ab0 (ck0 (by rfl) T.Z0 (aq0 (ac0 (pv 0)) aD0)) (ab0 ad0 (ab0 (cd0 (by rfl) T.qf0) (ab0 bW0 an0))))))
   (ak0 (bP0 PassesOwn.never rfl (bc0 (aj0 (pv 0))) (bB0 (as0 (i:=2) sc.nd rfl (Or.inl rfl)))
   (ak0 (bq0 (aM0 Q0 (hr.mono (by decide)) (by rfl) (ab0 (aj0 (pv 2)) (ab0 ad0 (ab0 (aj0 (pv 1)) (ab0 bW0 an0))))))))))))
theorem kh0:FnScope ["crop"] ["crop"] (af0 va0):=⟨rfl,rfl,rfl,by decide +kernel,rfl,by decide +kernel,by decide +kernel⟩
theorem Vk0 (F:Fun K "check_crop" "check_crop" va0 f fd) (T:Txt K mg C CWeb) (Q0:aL0 P w K mg base 2 "check_within" J1 (y0 C)):FnOk P w K mg base CX0 3 f fd W4 (spP (J2 C)):=by
 have sc:=kh0
 refine aJ0 F kh0 (fun _ _ h=>aH0 h) fun cdv A outer s H E FF hr=>⟨qc0 C,?_,fun ts o t h=>aA0 h⟩
 exact(ag0 (bT0 (qt_w (iT0 (cS0 (ce0 (fr0 (n:= "tuple") (x:= "tuple") .tuple (by rfl) T.K0 (by rfl) T.J0 (by rfl) (ac0 (pv 0))))) (fz0 (nW0 (hu20 hr) (ae0 (ck0 (by rfl) T.Z0 (aq0 (ac0 (pv 0)) aD0))) (ae0 ad0))))) (ak0 bD0) aP0)
   (ag0 (bT0 (qt_w (iT0 (cS0 (ce0 (fr0 (n:= "str") (x:= "str") .str (by rfl) T.K0 (by rfl) T.Xe0 (by rfl) (ae0 (aB0 (ac0 (pv 0)) (ae0 ad0)))))) (fz0 (gH0 (hu20 hr) (ae0 (aB0 (ac0 (pv 0)) (ae0 ad0))) (ae0 bW0))))) (ak0 bD0) aP0)
   (ag0 (bq0 (aM0 Q0 (hr.mono (by decide)) (by rfl) (ab0 (aB0 (ac0 (pv 0)) (ae0 ad0)) (ab0 (py0 (ae0 (cd0 (by rfl) T.Wb0))) (ab0 (cd0 (by rfl) T.Wb0) (ab0 bW0 an0))))))
   (ag0 (bq0 (aM0 Q0 (hr.mono (by decide)) (by rfl) (ab0 (aB0 (ac0 (pv 0)) (ae0 ad0)) (ab0 ad0 (ab0 (cd0 (by rfl) T.wf0) (ab0 bW0 an0))))))
   (ag0 (bq0 (aM0 Q0 (hr.mono (by decide)) (by rfl) (ab0 (aB0 (ac0 (pv 0)) (ae0 ad0)) (ab0 ad0 (ab0 (cd0 (by rfl) T.kf0) (ab0 bW0 an0))))))
   (ak0 (bT0 (cS0 (ce0 (fr0 (n:= "list") (x:= "list") .list (by rfl) T.K0 (by rfl) T.Z2 (by rfl) (ae0 (aB0 (ac0 (pv 0)) (ae0 ad0)))))) (ak0 bD0) aP0)))))))
theorem wh0:FnScope ["name", "names"] ["name", "names"] (af0 ya0):=⟨rfl,rfl,rfl,by decide +kernel,rfl,by decide +kernel,by decide +kernel⟩
theorem Yk0 (F:Fun K "check_name" "check_name" ya0 f fd) (T:Txt K mg C CWeb)  :FnOk P w K mg base CX0 1 f fd V2 (spP (W0 C)):=by
 have sc:=wh0
 refine aJ0 F wh0 (fun _ _ h=>aH0 h) fun cdv A outer s H E FF hr=>⟨jc0 C,?_,fun ts o t h=>aA0 h⟩
 exact(ak0 (bT0 (lO0 (ac0 (pv 0)) (ac0 (pv 1))) (ak0 bD0) aP0))
theorem vh0:FnScope ["crops"] ["crops"] (af0 Q8):=⟨rfl,rfl,rfl,by decide +kernel,rfl,by decide +kernel,by decide +kernel⟩
theorem Xk0 (F:Fun K "names_of" "names_of" Q8 f fd) (T:Txt K mg C CWeb)  :FnOk P w K mg base CX0 1 f fd Y2 (spP (Z1 C)):=by
 have sc:=vh0
 refine aJ0 F vh0 (fun _ _ h=>aH0 h) fun cdv A outer s H E FF hr=>⟨wc0 C,?_,fun ts o t h=>aA0 h⟩
 exact(ak0 (en0 (bm0 rfl (own:=["crop"]) (bQ0 kc0 (af0 Q8) rfl rfl (by decide +kernel)) (bc0 (aj0 (pv 0))) bg0 (fun _ _ _ _=>(as0 (i:=0) (bz0 ((["crop"]:List Str)++hide ["crop"] kc0) rfl (by decide +kernel)) rfl (Or.inl rfl))) (fun _ _ _ _=>bN0) (fun _ _ _ _=>(aB0 (ac0 (pv 0)) (ae0 ad0))))))
theorem yh0:FnScope ["crops", "crop", "names", "name"] ["crops"] (af0 xa0):=⟨rfl,rfl,rfl,by decide +kernel,rfl,by decide +kernel,by decide +kernel⟩
theorem zl0 (F:Fun K "check_crops" "check_crops" xa0 f fd) (T:Txt K mg C CWeb) (hf0:aL0 P w K mg base 3 "check_crop" W4 (J2 C)) (y8:aL0 P w K mg base 1 "check_name" V2 (W0 C)) (Q0:aL0 P w K mg base 2 "check_within" J1 (y0 C)) (Z8:aL0 P w K mg base 1 "names_of" Y2 (Z1 C)):FnOk P w K mg base CX0 4 f fd V4 (spP (X2 C)):=by
 have sc:=yh0
 refine aJ0 F yh0 (fun _ _ h=>aH0 h) fun cdv A outer s H E FF hr=>⟨vc0 C,?_,fun ts o t h=>aA0 h⟩
 exact(ag0 (bT0 (cS0 (ce0 (fr0 (n:= "list") (x:= "list") .list (by rfl) T.K0 (by rfl) T.Z2 (by rfl) (ac0 (pv 0))))) (ak0 bD0) aP0)
   (ag0 (bq0 (aM0 Q0 (hr.mono (by decide)) (by rfl) (ab0 (ck0 (by rfl) T.Z0 (aq0 (ac0 (pv 0)) aD0)) (ab0 ad0 (ab0 (cd0 (by rfl) T.jf0) (ab0 bW0 an0))))))
   (ag0 (bP0 PassesOwn.never rfl (bc0 (aj0 (pv 0))) (bB0 (as0 (i:=1) sc.nd rfl (Or.inl rfl)))
   (ak0 (bq0 (aM0 hf0 (hr.mono (by decide)) (by rfl) (ab0 (aj0 (pv 1)) an0)))))
   (ag0 (aZ0 (i:=2) sc.nd rfl (Or.inl rfl) (cw0 (eG0 Z8 (hr.mono (by decide)) (by rfl) (ab0 (aj0 (pv 0)) an0))))
   (ag0 (bT0 (nW0 (hu20 hr) (ae0 (kF0 rfl (by rfl) T.Z0 (by rfl) T.Ye0 (ac0 (pv 2)))) (ae0 (ck0 (by rfl) T.Z0 (aq0 (ac0 (pv 2)) aD0)))) (ak0 bD0) aP0)
   (ak0 (bP0 PassesOwn.never rfl (bc0 (aj0 (pv 0))) (bB0 (as0 (i:=1) sc.nd rfl (Or.inl rfl)))
   (ak0 (bP0 PassesOwn.never rfl (bc0 (aB0 (ac0 (pv 1)) (ae0 ad0))) (bB0 (as0 (i:=3) sc.nd rfl (Or.inl rfl)))
   (ak0 (bq0 (aM0 y8 (hr.mono (by decide)) (by rfl) (ab0 (aj0 (pv 3)) (ab0 (aj0 (pv 2)) an0))))))))))))))
theorem xh0:FnScope ["wants", "names", "name", "pair"] ["wants", "names"] (af0 ha0):=⟨rfl,rfl,rfl,by decide +kernel,rfl,by decide +kernel,by decide +kernel⟩
theorem ql0 (F:Fun K "check_wants" "check_wants" ha0 f fd) (T:Txt K mg C CWeb) (y8:aL0 P w K mg base 1 "check_name" V2 (W0 C)) (Q0:aL0 P w K mg base 2 "check_within" J1 (y0 C)):FnOk P w K mg base CX0 3 f fd Y4 (spP (j3 C)):=by
 have sc:=xh0
 refine aJ0 F xh0 (fun _ _ h=>aH0 h) fun cdv A outer s H E FF hr=>⟨yc0 C,?_,fun ts o t h=>aA0 h⟩
 exact(ag0 (bT0 (cS0 (ce0 (fr0 (n:= "dict") (x:= "dict") .dict (by rfl) T.K0 (by rfl) T.X9 (by rfl) (ac0 (pv 0))))) (ak0 bD0) aP0)
   (ak0 (bP0 PassesOwn.never rfl (gU0 (aj0 (pv 0))) (lh0 (eh0 rfl (bd0 (as0 (i:=2) sc.nd rfl (Or.inl rfl)) (bd0 (as0 (i:=3) sc.nd rfl (Or.inl rfl)) cW0))))
   (ag0 (bq0 (aM0 y8 (hr.mono (by decide)) (by rfl) (ab0 (aj0 (pv 2)) (ab0 (aj0 (pv 1)) an0))))
   (ag0 (bT0 (qt_w (iT0 (cS0 (ce0 (fr0 (n:= "tuple") (x:= "tuple") .tuple (by rfl) T.K0 (by rfl) T.J0 (by rfl) (ac0 (pv 3))))) (fz0 (nW0 (hu20 hr) (ae0 (ck0 (by rfl) T.Z0 (aq0 (ac0 (pv 3)) aD0))) (ae0 ad0))))) (ak0 bD0) aP0)
   (ag0 (bq0 (aM0 Q0 (hr.mono (by decide)) (by rfl) (ab0 (aB0 (ac0 (pv 3)) (ae0 ad0)) (ab0 ad0 (ab0 (cd0 (by rfl) T.yf0) (ab0 bW0 an0))))))
   (ak0 (bq0 (aM0 Q0 (hr.mono (by decide)) (by rfl) (ab0 (aB0 (ac0 (pv 3)) (ae0 ad0)) (ab0 ad0 (ab0 (aB0 (ac0 (pv 3)) (ae0 ad0)) (ab0 bW0 an0)))))))))))))
theorem hh0:FnScope ["some", "names"] ["some", "names"] (af0 J8):=⟨rfl,rfl,rfl,by decide +kernel,rfl,by decide +kernel,by decide +kernel⟩
theorem jl0 (F:Fun K "numbers_of" "numbers_of" J8 f fd) (T:Txt K mg C CWeb)  :FnOk P w K mg base CX0 1 f fd X4 (spP (W1 C)):=by
 have sc:=hh0
 refine aJ0 F hh0 (fun _ _ h=>aH0 h) fun cdv A outer s H E FF hr=>⟨Zc0 C,?_,fun ts o t h=>aA0 h⟩
 exact(ak0 (aY0 (bv0 (by rfl) T.J0 (aq0 (cj0 (bm0 rfl (own:=["name"]) (bQ0 xc0 (af0 J8) rfl rfl (by decide +kernel)) (bc0 (aj0 (pv 0))) bg0 (fun _ _ _ _=>(as0 (i:=0) (bz0 ((["name"]:List Str)++hide ["name"] xc0) rfl (by decide +kernel)) rfl (Or.inl rfl))) (fun _ _ _ _=>bN0) (fun _ _ _ _=>(hL0 (ac0 (pv 2)) (aq0 (ac0 (pv 0)) aD0))))) aD0))))
theorem Zh0:FnScope ["self", "soils", "top", "crops", "wants", "names"] ["self", "soils", "top", "crops", "wants"] (af0 V1):=⟨rfl,rfl,rfl,by decide +kernel,rfl,by decide +kernel,by decide +kernel⟩
theorem kl0 (F:Fun K "__init__" "Garden.__init__" V1 f fd) (T:Txt K mg C CWeb) (Zf0:aL0 P w K mg base 3 "check_beds" K4 (Q2 C)) (Qf0:aL0 P w K mg base 4 "check_crops" V4 (X2 C)) (Jf0:aL0 P w K mg base 3 "check_wants" Y4 (j3 C)) (Z8:aL0 P w K mg base 1 "names_of" Y2 (Z1 C)) (Kf0:aL0 P w K mg base 1 "numbers_of" X4 (W1 C)):FnOk P w K mg base CX0 5 f fd j5 (spI C (Z5 C)):=by
 have sc:=Zh0
 refine om0 (N:=["soils", "top", "crops", "wants", "names"]) F Zh0 (fun _ _ h=>ob0 h) fun cdv A outer s H E Y hr=>⟨Qc0 C,?_,fun ts r h=>mx0 h⟩
 exact(ag0 (bq0 (aM0 Zf0 (hr.mono (by decide)) (by rfl) (ab0 (aj0 (pv 1)) (ab0 (aj0 (pv 2)) an0))))
   (ag0 (bq0 (aM0 Qf0 (hr.mono (by decide)) (by rfl) (ab0 (aj0 (pv 3)) an0)))
   (ag0 (aZ0 (i:=5) sc.nd rfl (Or.inr rfl) (cw0 (eG0 Z8 (hr.mono (by decide)) (by rfl) (ab0 (aj0 (pv 3)) an0))))
   (ag0 (bq0 (aM0 Jf0 (hr.mono (by decide)) (by rfl) (ab0 (aj0 (pv 4)) (ab0 (aj0 (pv 5)) an0))))
   (ag0 (cI0 (pv 0) T.cl_Garden T.Vg0 (bv0 (by rfl) T.J0 (aq0 (ac0 (pv 1)) aD0)))
   (ag0 (cI0 (pv 0) T.cl_Garden T.Yg0 (aj0 (pv 2)))
   (ag0 (cI0 (pv 0) T.cl_Garden T.Jb0 (bv0 (by rfl) T.J0 (aq0 (cj0 (bm0 rfl (own:=["crop"]) (bQ0 V0 (af0 V1) rfl rfl (by decide +kernel)) (bc0 (aj0 (pv 3))) bg0 (fun _ _ _ _=>(as0 (i:=0) (bz0 ((["crop"]:List Str)++hide ["crop"] V0) rfl (by decide +kernel)) rfl (Or.inl rfl))) (fun _ _ _ _=>bN0) (fun _ _ _ _=>(aB0 (ac0 (pv 0)) (ae0 ad0))))) aD0)))
   (ag0 (cI0 (pv 0) T.cl_Garden T.Qk0 (bv0 (by rfl) T.J0 (aq0 (cj0 (bm0 rfl (own:=["crop"]) (bQ0 V0 (af0 V1) rfl rfl (by decide +kernel)) (bc0 (aj0 (pv 3))) bg0 (fun _ _ _ _=>(as0 (i:=0) (bz0 ((["crop"]:List Str)++hide ["crop"] V0) rfl (by decide +kernel)) rfl (Or.inl rfl))) (fun _ _ _ _=>bN0) (fun _ _ _ _=>(aB0 (ac0 (pv 0)) (ae0 ad0))))) aD0)))
   (ag0 (cI0 (pv 0) T.cl_Garden T.Je0 (bv0 (by rfl) T.J0 (aq0 (cj0 (bm0 rfl (own:=["crop"]) (bQ0 V0 (af0 V1) rfl rfl (by decide +kernel)) (bc0 (aj0 (pv 3))) bg0 (fun _ _ _ _=>(as0 (i:=0) (bz0 ((["crop"]:List Str)++hide ["crop"] V0) rfl (by decide +kernel)) rfl (Or.inl rfl))) (fun _ _ _ _=>bN0) (fun _ _ _ _=>(aB0 (ac0 (pv 0)) (ae0 ad0))))) aD0)))
   (ag0 (cI0 (pv 0) T.cl_Garden T.Kg0 (bv0 (by rfl) T.J0 (aq0 (cj0 (bm0 rfl (own:=["crop"]) (bQ0 V0 (af0 V1) rfl rfl (by decide +kernel)) (bc0 (aj0 (pv 3))) bg0 (fun _ _ _ _=>(as0 (i:=0) (bz0 ((["crop"]:List Str)++hide ["crop"] V0) rfl (by decide +kernel)) rfl (Or.inl rfl))) (fun _ _ _ _=>bN0) (fun _ _ _ _=>(aM0 Kf0 (hr.mono (by decide)) (by rfl) (ab0 (aB0 (ac0 (pv 0)) (ae0 ad0)) (ab0 (aj0 (pv 6)) an0)))))) aD0)))
   (ag0 (cI0 (pv 0) T.cl_Garden T.Xg0 (bv0 (by rfl) T.J0 (aq0 (cj0 (bm0 rfl (own:=["name", "pair"]) (bQ0 V0 (af0 V1) rfl rfl (by decide +kernel)) (gU0 (aj0 (pv 4))) ln0 (fun _ _ _ _=>(eh0 rfl (bd0 (as0 (i:=0) (bz0 ((["name", "pair"]:List Str)++hide ["name", "pair"] V0) rfl (by decide +kernel)) rfl (Or.inl rfl)) (bd0 (as0 (i:=1) (bz0 ((["name", "pair"]:List Str)++hide ["name", "pair"] V0) rfl (by decide +kernel)) rfl (Or.inl rfl)) cW0)))) (fun _ _ _ _=>bN0) (fun _ _ _ _=>(bx0 (ab0 (hL0 (ac0 (pv 7)) (aq0 (ac0 (pv 0)) aD0)) (ab0 (aB0 (ac0 (pv 1)) (ae0 ad0)) (ab0 (aB0 (ac0 (pv 1)) (ae0 ad0)) an0))))))) aD0)))
   (ak0 (cI0 (pv 0) T.cl_Garden T.Wg0 (nu0 rfl (by rfl) T.za0 (aq0 (ae0 ad0) (aq0 (ae0 (mJ0 rfl (by rfl) T.za0 (aq0 (ae0 (cT0 (ac0 (pv 0)) T.cl_Garden T.Je0)) aD0))) aD0))))))))))))))))
theorem Qh0:FnScope ["self"] ["self"] (af0 K8):=⟨rfl,rfl,rfl,by decide +kernel,rfl,by decide +kernel,by decide +kernel⟩
theorem wl0 (F:Fun K "start" "Garden.start" K8 f fd) (T:Txt K mg C CWeb)  :FnOk P w K mg base CX0 1 f fd Q5 (spP (W8 C)):=by
 have sc:=Qh0
 refine aJ0 F Qh0 (fun _ _ h=>aH0 h) fun cdv A outer s H E FF hr=>⟨Kc0 C,?_,fun ts o t h=>aA0 h⟩
 exact(ak0 (aY0 (bv0 (by rfl) T.J0 (aq0 (cj0 (bm0 rfl (own:=["soil"]) (bQ0 Jc0 (af0 K8) rfl rfl (by decide +kernel)) (fG0 (cT0 (ac0 (pv 0)) T.cl_Garden T.Vg0)) bg0 (fun _ _ _ _=>(as0 (i:=0) (bz0 ((["soil"]:List Str)++hide ["soil"] Jc0) rfl (by decide +kernel)) rfl (Or.inl rfl))) (fun _ _ _ _=>bN0) (fun _ _ _ _=>(bx0 (ab0 (aj0 (pv 0)) (ab0 (bx0 an0) an0)))))) aD0))))
theorem Jh0:FnScope ["self", "soil", "stood", "crop"] ["self", "soil", "stood", "crop"] (af0 Za0):=⟨rfl,rfl,rfl,by decide +kernel,rfl,by decide +kernel,by decide +kernel⟩
theorem vl0 (F:Fun K "lets" "Garden.lets" Za0 f fd) (T:Txt K mg C CWeb)  :FnOk P w K mg base CX0 1 f fd J5 (spP (v3 C)):=by
 have sc:=Jh0
 refine aJ0 F Jh0 (fun _ _ h=>aH0 h) fun cdv A outer s H E FF hr=>⟨Wc0 C,?_,fun ts o t h=>aA0 h⟩
 exact(ag0 (bT0 (lP0 (ae0 (br0 (ac0 (pv 1)) (ae0 (aB0 (ae0 (cT0 (ac0 (pv 0)) T.cl_Garden T.Jb0)) (ac0 (pv 3)))))) (ae0 ad0)) (ak0 (aY0 eZ0)) aP0)
   (ag0 (bT0 (qt_in (ac0 (pv 3)) (ae0 (gY0 (ac0 (pv 2)) da0 (cY0 (ae0 (aB0 (ae0 (cT0 (ac0 (pv 0)) T.cl_Garden T.Je0)) (ac0 (pv 3)))))))) (ak0 (aY0 eZ0)) aP0)
   (ak0 (aY0 (se_or (se_eq (hu20 hr) (ae0 (ck0 (by rfl) T.Z0 (aq0 (ac0 (pv 2)) aD0))) (ae0 ad0)) (mR0 (gX0 (ae0 (aB0 (ac0 (pv 2)) (ae0 ad0))) (ae0 (aB0 (ae0 (cT0 (ac0 (pv 0)) T.cl_Garden T.Kg0)) (ac0 (pv 3)))))))))))
theorem Kh0:FnScope ["self", "soil", "stood"] ["self", "soil", "stood"] (af0 V8):=⟨rfl,rfl,rfl,by decide +kernel,rfl,by decide +kernel,by decide +kernel⟩
theorem yl0 (F:Fun K "crops_for" "Garden.crops_for" V8 f fd) (T:Txt K mg C CWeb) (Wf0:cQ0 P w K mg base C 1 "lets" J5 (v3 C)):FnOk P w K mg base CX0 2 f fd K5 (spP (y3 C)):=by
 have sc:=Kh0
 refine aJ0 F Kh0 (fun _ _ h=>aH0 h) fun cdv A outer s H E FF hr=>⟨Yc0 C,?_,fun ts o t h=>aA0 h⟩
 exact(ak0 (en0 (bm0 rfl (own:=["crop"]) (bQ0 Vc0 (af0 V8) rfl rfl (by decide +kernel)) (bI0 (by rfl) T.X0 (aq0 (ae0 (ck0 (by rfl) T.Z0 (aq0 (ae0 (cT0 (ac0 (pv 0)) T.cl_Garden T.Jb0)) aD0))) aD0)) bg0 (fun _ _ _ _=>(as0 (i:=0) (bz0 ((["crop"]:List Str)++hide ["crop"] Vc0) rfl (by decide +kernel)) rfl (Or.inl rfl))) (fun _ _ _ _=>(ht0 (ce0 (nD0 (aj0 (pv 1)) T.cl_Garden Wf0 (hr.mono (by decide)) (ab0 (aj0 (pv 2)) (ab0 (aj0 (pv 3)) (ab0 (aj0 (pv 0)) an0))))))) (fun _ _ _ _=>(aj0 (pv 0))))))
theorem Wh0:FnScope ["self", "planting", "crop", "least", "most"] ["self", "planting"] (af0 Qa0):=⟨rfl,rfl,rfl,by decide +kernel,rfl,by decide +kernel,by decide +kernel⟩
theorem xl0 (F:Fun K "meets_wants" "Garden.meets_wants" Qa0 f fd) (T:Txt K mg C CWeb)  :FnOk P w K mg base CX0 1 f fd W5 (spP (x3 C)):=by
 have sc:=Wh0
 refine aJ0 F Wh0 (fun _ _ h=>aH0 h) fun cdv A outer s H E FF hr=>⟨Xc0 C,?_,fun ts o t h=>aA0 h⟩
 exact(ag0 (bP0 PassesOwn.never rfl (fG0 (cT0 (ac0 (pv 0)) T.cl_Garden T.Xg0)) (oo0 (eh0 rfl (bd0 (as0 (i:=2) sc.nd rfl (Or.inl rfl)) (bd0 (as0 (i:=3) sc.nd rfl (Or.inl rfl)) (bd0 (as0 (i:=4) sc.nd rfl (Or.inl rfl)) cW0)))))
   (ak0 (bT0 (cS0 (lw0 mh0 mh0 o_le o_le (ac0 (pv 3)) (ae0 (lj0 (ac0 (pv 1)) (aq0 (ac0 (pv 2)) aD0))) (ac0 (pv 4)))) (ak0 (aY0 eZ0)) aP0)))
   (ak0 (aY0 eZ0)))
theorem Vh0:FnScope ["rows", "crops", "longer", "row"] ["rows", "crops"] (af0 Y8):=⟨rfl,rfl,rfl,by decide +kernel,rfl,by decide +kernel,by decide +kernel⟩
theorem Zl0 (F:Fun K "lengthened" "lengthened" Y8 f fd) (T:Txt K mg C CWeb)  :FnOk P w K mg base CX0 1 f fd V5 (spP (Z3 C)):=by
 have sc:=Vh0
 refine aJ0 F Vh0 (fun _ _ h=>aH0 h) fun cdv A outer s H E FF hr=>⟨qd0 C,?_,fun ts o t h=>aA0 h⟩
 exact(ag0 (dR0 (i:=2) sc.nd rfl (Or.inl rfl) (ca0 an0))
   (ag0 (bP0 PassesOwn.never rfl (bc0 (aj0 (pv 0))) (bB0 (as0 (i:=3) sc.nd rfl (Or.inr rfl)))
   (ak0 (jM0 (pv 2) (cw0 (bm0 rfl (own:=["crop"]) (bQ0 zd0 (af0 Y8) rfl rfl (by decide +kernel)) (bc0 (aj0 (pv 1))) bg0 (fun _ _ _ _=>(as0 (i:=0) (bz0 ((["crop"]:List Str)++hide ["crop"] zd0) rfl (by decide +kernel)) rfl (Or.inl rfl))) (fun _ _ _ _=>bN0) (fun _ _ _ _=>(ee0 (ac0 (pv 4)) (ae0 (bx0 (ab0 (aj0 (pv 0)) an0))))))))))
   (ak0 (go0 (pv 2)))))
theorem Yh0:FnScope ["self", "state", "rows", "soil", "stood"] ["self", "state"] (af0 X8):=⟨rfl,rfl,rfl,by decide +kernel,rfl,by decide +kernel,by decide +kernel⟩
theorem Ql0 (F:Fun K "may" "Garden.may" X8 f fd) (T:Txt K mg C CWeb) (Vf0:cQ0 P w K mg base C 2 "crops_for" K5 (y3 C)) (Yf0:cQ0 P w K mg base C 1 "meets_wants" W5 (x3 C)) (Xf0:aL0 P w K mg base 1 "lengthened" V5 (Z3 C)):FnOk P w K mg base CX0 3 f fd Y5 (spP (z9 C)):=by
 have sc:=Yh0
 refine aJ0 F Yh0 (fun _ _ h=>aH0 h) fun cdv A outer s H E FF hr=>⟨kd0 C,?_,fun ts o t h=>aA0 h⟩
 exact(ag0 (aZ0 (i:=2) sc.nd rfl (Or.inl rfl) (cw0 (ca0 (ab0 (bx0 an0) an0))))
   (ag0 (bP0 PassesOwn.never rfl (fG0 (aj0 (pv 1))) (lh0 (eh0 rfl (bd0 (as0 (i:=3) sc.nd rfl (Or.inl rfl)) (bd0 (as0 (i:=4) sc.nd rfl (Or.inl rfl)) cW0))))
   (ak0 (aZ0 (i:=2) sc.nd rfl (Or.inl rfl) (cw0 (eG0 Xf0 (hr.mono (by decide)) (by rfl) (ab0 (aj0 (pv 2)) (ab0 (cw0 (fe_me (aj0 (pv 0)) T.cl_Garden Vf0 (hr.mono (by decide)) (ab0 (aj0 (pv 3)) (ab0 (aj0 (pv 4)) an0)))) an0)))))))
   (ak0 (en0 (bm0 rfl (own:=["row"]) (bQ0 jd0 (af0 X8) rfl rfl (by decide +kernel)) (bc0 (aj0 (pv 2))) bg0 (fun _ _ _ _=>(as0 (i:=0) (bz0 ((["row"]:List Str)++hide ["row"] jd0) rfl (by decide +kernel)) rfl (Or.inl rfl))) (fun _ _ _ _=>(ht0 (ce0 (nD0 (aj0 (pv 1)) T.cl_Garden Yf0 (hr.mono (by decide)) (ab0 (aj0 (pv 0)) an0))))) (fun _ _ _ _=>(aj0 (pv 0))))))))
theorem Xh0:FnScope ["self", "soil", "stood", "crop", "row"] ["self", "soil", "stood", "crop"] (af0 Ja0):=⟨rfl,rfl,rfl,by decide +kernel,rfl,by decide +kernel,by decide +kernel⟩
theorem Jl0 (F:Fun K "bed_behind" "Garden.bed_behind" Ja0 f fd) (T:Txt K mg C CWeb)  :FnOk P w K mg base CX0 1 f fd X5 (spP (Q3 C)):=by
 have sc:=Xh0
 refine aJ0 F Xh0 (fun _ _ h=>aH0 h) fun cdv A outer s H E FF hr=>⟨wd0 C,?_,fun ts o t h=>aA0 h⟩
 exact(ag0 (aZ0 (i:=4) sc.nd rfl (Or.inl rfl) (ee0 (ae0 (bx0 (ab0 (aj0 (pv 3)) an0))) (ac0 (pv 2))))
   (ak0 (aY0 (bx0 (ab0 (fa0 rfl (by rfl) T.v8 (aq0 (ae0 (cT0 (ac0 (pv 0)) T.cl_Garden T.Yg0)) (aq0 (ae0 (br0 (ac0 (pv 1)) (ae0 (aB0 (ae0 (cT0 (ac0 (pv 0)) T.cl_Garden T.Jb0)) (ac0 (pv 3)))))) aD0))) (ab0 (gY0 (ac0 (pv 4)) da0 (cY0 (ae0 (cT0 (ac0 (pv 0)) T.cl_Garden T.Wg0)))) an0))))))
theorem zi0:FnScope ["self", "state", "planting"] ["self", "state", "planting"] (af0 q9):=⟨rfl,rfl,rfl,by decide +kernel,rfl,by decide +kernel,by decide +kernel⟩
theorem Kl0 (F:Fun K "beds_behind" "Garden.beds_behind" q9 f fd) (T:Txt K mg C CWeb) (zg0:cQ0 P w K mg base C 1 "bed_behind" X5 (Q3 C)):FnOk P w K mg base CX0 2 f fd j6 (spP (j9 C)):=by
 have sc:=zi0
 refine aJ0 F zi0 (fun _ _ h=>aH0 h) fun cdv A outer s H E FF hr=>⟨vd0 C,?_,fun ts o t h=>aA0 h⟩
 exact(ak0 (aY0 (bv0 (by rfl) T.J0 (aq0 (cj0 (bm0 rfl (own:=["bed", "crop"]) (bQ0 Ka0 (af0 q9) rfl rfl (by decide +kernel)) (pz0 (by rfl) T.zf0 (aq0 (ac0 (pv 1)) (aq0 (ac0 (pv 2)) aD0))) ln0 (fun _ _ _ _=>(eh0 rfl (bd0 (as0 (i:=0) (bz0 ((["bed", "crop"]:List Str)++hide ["bed", "crop"] Ka0) rfl (by decide +kernel)) rfl (Or.inl rfl)) (bd0 (as0 (i:=1) (bz0 ((["bed", "crop"]:List Str)++hide ["bed", "crop"] Ka0) rfl (by decide +kernel)) rfl (Or.inl rfl)) cW0)))) (fun _ _ _ _=>bN0) (fun _ _ _ _=>(nD0 (aj0 (pv 2)) T.cl_Garden zg0 (hr.mono (by decide)) (ab0 (aB0 (ac0 (pv 0)) (ae0 ad0)) (ab0 (aB0 (ac0 (pv 0)) (ae0 ad0)) (ab0 (aj0 (pv 1)) an0))))))) aD0))))
theorem qi0:FnScope ["script", "k"] ["script", "k"] (af0 Wa0):=⟨rfl,rfl,rfl,by decide +kernel,rfl,by decide +kernel,by decide +kernel⟩
theorem Wl0 (F:Fun K "_law_cell_at" "_law_cell_at" Wa0 f fd) (T:Txt K mg C CWeb)  :FnOk P w K mg base CX0 1 f fd w6 (spP (J3 C)):=by
 have sc:=qi0
 refine aJ0 F qi0 (fun _ _ h=>aH0 h) fun cdv A outer s H E FF hr=>⟨yd0 C,?_,fun ts o t h=>aA0 h⟩
 exact(ag0 (bT0 (lP0 (ac0 (pv 1)) (ae0 (ck0 (by rfl) T.Z0 (aq0 (ac0 (pv 0)) aD0)))) (ak0 (aY0 (aB0 (ac0 (pv 0)) (ac0 (pv 1))))) aP0)
   (ak0 (aY0 ad0)))
theorem ji0:FnScope ["script", "k"] ["script", "k"] (af0 Va0):=⟨rfl,rfl,rfl,by decide +kernel,rfl,by decide +kernel,by decide +kernel⟩
theorem Vl0 (F:Fun K "_law_draw" "_law_draw" Va0 f fd) (T:Txt K mg C CWeb) (qg0:aL0 P w K mg base 1 "_law_cell_at" w6 (J3 C)):FnOk P w K mg base CX0 2 f fd Y1 (spP (j0 C)):=by
 have sc:=ji0
 refine aJ0 F ji0 (fun _ _ h=>aH0 h) fun cdv A outer s H E FF hr=>⟨xd0 C,?_,fun ts o t h=>aA0 h⟩
 exact(ak0 (aY0 (by0 (ae0 (dY0 (ae0 (br0 (ae0 (aM0 qg0 (hr.mono (by decide)) (by rfl) (ab0 (aj0 (pv 0)) (ab0 (by0 (ac0 (pv 1)) (ae0 ad0)) an0)))) (ae0 (dY0 (ae0 ad0) (ac0 (pv 1)))))) (ae0 (br0 (ae0 ad0) (ae0 (dY0 (ae0 ad0) (ac0 (pv 1)))))))) (ae0 ad0))))
theorem ki0:FnScope ["script", "most", "cell"] ["script", "most"] (af0 Ya0):=⟨rfl,rfl,rfl,by decide +kernel,rfl,by decide +kernel,by decide +kernel⟩
theorem Yl0 (F:Fun K "_law_beds" "_law_beds" Ya0 f fd) (T:Txt K mg C CWeb) (x0:aL0 P w K mg base 2 "_law_draw" Y1 (j0 C)):FnOk P w K mg base CX0 3 f fd y6 (spP (Z6 C)):=by
 have sc:=ki0
 refine aJ0 F ki0 (fun _ _ h=>aH0 h) fun cdv A outer s H E FF hr=>⟨Zd0 C,?_,fun ts o t h=>aA0 h⟩
 exact(ag0 (aZ0 (i:=2) sc.nd rfl (Or.inl rfl) (aM0 x0 (hr.mono (by decide)) (by rfl) (ab0 (aj0 (pv 0)) (ab0 ad0 an0))))
   (ag0 (bT0 (gH0 (hu20 hr) (ac0 (pv 1)) (ae0 ad0)) (ak0 (aY0 (br0 (ae0 ad0) (ae0 (by0 (ac0 (pv 2)) (ae0 ad0)))))) aP0)
   (ag0 (bT0 (qt_w (oW0 (gH0 (hu20 hr) (ac0 (pv 1)) (ae0 ad0)) (nS0 (gH0 (hu20 hr) (ae0 (by0 (ac0 (pv 2)) (ae0 ad0))) (ae0 ad0))))) (ak0 (aY0 ad0)) aP0)
   (ak0 (aY0 (br0 (ae0 ad0) (ae0 (by0 (ac0 (pv 2)) (ae0 ad0)))))))))
theorem wi0:FnScope ["script", "k", "names", "gaps", "bars", "j", "harvest", "change"] ["script", "k", "names", "gaps"] (af0 Xa0):=⟨rfl,rfl,rfl,by decide +kernel,rfl,by decide +kernel,by decide +kernel⟩
theorem Xl0 (F:Fun K "_law_crop" "_law_crop" Xa0 f fd) (T:Txt K mg C CWeb) (x0:aL0 P w K mg base 2 "_law_draw" Y1 (j0 C)):FnOk P w K mg base CX0 3 f fd Q6 (spP (K3 C)):=by
 have sc:=wi0
 refine aJ0 F wi0 (fun _ _ h=>aH0 h) fun cdv A outer s H E FF hr=>⟨Qd0 C,?_,fun ts o t h=>aA0 h⟩
 exact(ag0 (dR0 (i:=4) sc.nd rfl (Or.inl rfl) (ca0 an0))
   (ag0 (bP0 PassesOwn.never rfl (bI0 (by rfl) T.X0 (aq0 (ae0 (ck0 (by rfl) T.Z0 (aq0 (ac0 (pv 2)) aD0))) aD0)) (bB0 (as0 (i:=5) sc.nd rfl (Or.inl rfl)))
   (ak0 (bT0 (gH0 (hu20 hr) (ae0 (by0 (ae0 (aM0 x0 (hr.mono (by decide)) (by rfl) (ab0 (aj0 (pv 0)) (ab0 (br0 (ae0 (br0 (ae0 ad0) (ae0 (dY0 (ae0 ad0) (ac0 (pv 1)))))) (ac0 (pv 5))) an0)))) (ae0 ad0))) (ae0 ad0)) (ak0 (ef0 (pv 4) (aB0 (ac0 (pv 2)) (ac0 (pv 5))))) aP0)))
   (ag0 (aZ0 (i:=6) sc.nd rfl (Or.inl rfl) (by0 (ae0 (aM0 x0 (hr.mono (by decide)) (by rfl) (ab0 (aj0 (pv 0)) (ab0 (br0 (ae0 ad0) (ae0 (dY0 (ae0 ad0) (ac0 (pv 1))))) an0)))) (ae0 (aB0 (cj0 (ca0 (ab0 ad0 (ab0 ad0 (ab0 ad0 an0))))) (ae0 (by0 (ae0 (aM0 x0 (hr.mono (by decide)) (by rfl) (ab0 (aj0 (pv 0)) (ab0 ad0 an0)))) (ae0 ad0)))))))
   (ag0 (aZ0 (i:=7) sc.nd rfl (Or.inl rfl) (pe0 (ae0 (by0 (ae0 (aM0 x0 (hr.mono (by decide)) (by rfl) (ab0 (aj0 (pv 0)) (ab0 (br0 (ae0 ad0) (ae0 (dY0 (ae0 ad0) (ac0 (pv 1))))) an0)))) (ae0 ad0))) (ae0 ad0)))
   (ak0 (kK0 4 (aY0 (bx0 (ab0 (aB0 (ac0 (pv 2)) (ac0 (pv 1))) (ab0 (aj0 (pv 7)) (ab0 (aj0 (pv 6)) (ab0 (by0 (ae0 (aM0 x0 (hr.mono (by decide)) (by rfl) (ab0 (aj0 (pv 0)) (ab0 (br0 (ae0 ad0) (ae0 (dY0 (ae0 ad0) (ac0 (pv 1))))) an0)))) (ae0 (br0 (ac0 (pv 3)) (ae0 ad0)))) (ab0 (aj0 (pv 4)) an0)))))))))))))
theorem vi0:FnScope ["script", "names", "beds", "wants", "k", "cell", "least"] ["script", "names", "beds"] (af0 zb0):=⟨rfl,rfl,rfl,by decide +kernel,rfl,by decide +kernel,by decide +kernel⟩
theorem zm0 (F:Fun K "_law_wants" "_law_wants" zb0 f fd) (T:Txt K mg C CWeb) (x0:aL0 P w K mg base 2 "_law_draw" Y1 (j0 C)):FnOk P w K mg base CX0 3 f fd J6 (spP (K6 C)):=by
 have sc:=vi0
 refine aJ0 F vi0 (fun _ _ h=>aH0 h) fun cdv A outer s H E FF hr=>⟨Jd0 C,?_,fun ts o t h=>aA0 h⟩
 exact(ag0 (dR0 (i:=3) sc.nd rfl (Or.inl rfl) nm0)
   (ag0 (bP0 PassesOwn.never rfl (bI0 (by rfl) T.X0 (aq0 (ae0 (ck0 (by rfl) T.Z0 (aq0 (ac0 (pv 1)) aD0))) aD0)) (bB0 (as0 (i:=4) sc.nd rfl (Or.inl rfl)))
   (ag0 (aZ0 (i:=5) sc.nd rfl (Or.inl rfl) (aM0 x0 (hr.mono (by decide)) (by rfl) (ab0 (aj0 (pv 0)) (ab0 (br0 (ae0 ad0) (ac0 (pv 4))) an0))))
   (ak0 (bT0 (gH0 (hu20 hr) (ae0 (by0 (ac0 (pv 5)) (ae0 ad0))) (ae0 ad0)) (ag0 (aZ0 (i:=6) sc.nd rfl (Or.inl rfl) (aB0 (cj0 (ca0 (ab0 ad0 (ab0 ad0 (ab0 ad0 (ab0 (aj0 (pv 2)) an0)))))) (ae0 (by0 (ae0 (nc0 (ac0 (pv 5)) (ae0 ad0))) (ae0 ad0)))))
   (ak0 (nX0 (cP0 hr) (pv 3) (ae0 (aB0 (ac0 (pv 1)) (ac0 (pv 4)))) (bx0 (ab0 (aj0 (pv 6)) (ab0 (fa0 rfl (by rfl) T.v8 (aq0 (ae0 ad0) (aq0 (ae0 (br0 (ac0 (pv 6)) (ae0 (by0 (ae0 (nc0 (ac0 (pv 5)) (ae0 ad0))) (ae0 (br0 (ac0 (pv 2)) (ae0 ad0))))))) aD0))) an0)))))) aP0))))
   (ak0 (go0 (pv 3)))))
theorem yi0:FnScope ["script", "beds", "mode", "top", "many", "gaps", "turn", "names", "crops", "soils"] ["script", "beds"] (af0 W6):=⟨rfl,rfl,rfl,by decide +kernel,rfl,by decide +kernel,by decide +kernel⟩
theorem qm0 (F:Fun K "_law_garden" "_law_garden" W6 f fd) (T:Txt K mg C CWeb) (jg0:aL0 P w K mg base 3 "_law_crop" Q6 (K3 C)) (x0:aL0 P w K mg base 2 "_law_draw" Y1 (j0 C)) (kg0:aL0 P w K mg base 3 "_law_wants" J6 (K6 C)):FnOk P w K mg base CX0 4 f fd V6 (spP (v9 C)):=by
 have sc:=yi0
 refine aJ0 F yi0 (fun _ _ h=>aH0 h) fun cdv A outer s H E FF hr=>⟨Kd0 C,?_,fun ts o t h=>aA0 h⟩
 exact(ag0 (aZ0 (i:=2) sc.nd rfl (Or.inl rfl) (by0 (ae0 (aM0 x0 (hr.mono (by decide)) (by rfl) (ab0 (aj0 (pv 0)) (ab0 ad0 an0)))) (ae0 ad0)))
   (ag0 (aZ0 (i:=3) sc.nd rfl (Or.inr rfl) (aB0 (cj0 (ca0 (ab0 ad0 (ab0 ad0 (ab0 ad0 (ab0 ad0 (ab0 ad0 (ab0 ad0 (ab0 ad0 (ab0 ad0 an0)))))))))) (ac0 (pv 2))))
   (ag0 (aZ0 (i:=4) sc.nd rfl (Or.inl rfl) (aB0 (cj0 (ca0 (ab0 ad0 (ab0 ad0 (ab0 ad0 (ab0 ad0 (ab0 ad0 (ab0 ad0 (ab0 ad0 (ab0 ad0 an0)))))))))) (ac0 (pv 2))))
   (ag0 (aZ0 (i:=5) sc.nd rfl (Or.inr rfl) (aB0 (cj0 (ca0 (ab0 ad0 (ab0 ad0 (ab0 ad0 (ab0 ad0 (ab0 ad0 (ab0 ad0 (ab0 ad0 (ab0 ad0 an0)))))))))) (ac0 (pv 2))))
   (ag0 (bT0 (qt_gt (ac0 (pv 1)) (ae0 ad0)) (ag0 (aZ0 (i:=3) sc.nd rfl (Or.inr rfl) ad0)
   (ag0 (aZ0 (i:=4) sc.nd rfl (Or.inl rfl) (br0 (ae0 ad0) (ae0 (by0 (ae0 (aM0 x0 (hr.mono (by decide)) (by rfl) (ab0 (aj0 (pv 0)) (ab0 ad0 an0)))) (ae0 ad0)))))
   (ak0 (aZ0 (i:=5) sc.nd rfl (Or.inr rfl) (by0 (ae0 (aM0 x0 (hr.mono (by decide)) (by rfl) (ab0 (aj0 (pv 0)) (ab0 ad0 an0)))) (ae0 ad0)))))) aP0)
   (ag0 (aZ0 (i:=6) sc.nd rfl (Or.inl rfl) (by0 (ae0 (aM0 x0 (hr.mono (by decide)) (by rfl) (ab0 (aj0 (pv 0)) (ab0 ad0 an0)))) (ae0 ad0)))
   (ag0 (aZ0 (i:=7) sc.nd rfl (Or.inr rfl) (cw0 (ca0 (ab0 bW0 (ab0 bW0 (ab0 bW0 (ab0 bW0 (ab0 bW0 an0))))))))
   (ag0 (aZ0 (i:=7) sc.nd rfl (Or.inr rfl) (cw0 (le0 (cj0 (kH0 (cj0 (le0 (ac0 (pv 7)) (cY0 (ac0 (pv 6))) da0)) (cj0 (le0 (ac0 (pv 7)) da0 (cY0 (ac0 (pv 6))))))) da0 (cY0 (ac0 (pv 4))))))
   (ag0 (fe0 (i:=8) (own:=["k"]) sc.nd rfl (Or.inl rfl) rfl (bQ0 w9 (af0 W6) rfl rfl (by decide +kernel)) (bI0 (by rfl) T.X0 (aq0 (ac0 (pv 4)) aD0)) bg0 (fun _ _ _ _=>(as0 (i:=0) (bz0 ((["k"]:List Str)++hide ["k"] w9) rfl (by decide +kernel)) rfl (Or.inl rfl))) (fun _ _ _ _=>bN0) (fun _ _ _ _=>(aM0 jg0 (hr.mono (by decide)) (by rfl) (ab0 (aj0 (pv 1)) (ab0 (aj0 (pv 0)) (ab0 (aj0 (pv 8)) (ab0 (aj0 (pv 6)) an0)))))) (by rfl))
   (ag0 (fe0 (i:=9) (own:=["k"]) sc.nd rfl (Or.inl rfl) rfl (bQ0 w9 (af0 W6) rfl rfl (by decide +kernel)) (bI0 (by rfl) T.X0 (aq0 (ac0 (pv 1)) aD0)) bg0 (fun _ _ _ _=>(as0 (i:=0) (bz0 ((["k"]:List Str)++hide ["k"] w9) rfl (by decide +kernel)) rfl (Or.inl rfl))) (fun _ _ _ _=>bN0) (fun _ _ _ _=>(by0 (ae0 (aM0 x0 (hr.mono (by decide)) (by rfl) (ab0 (aj0 (pv 1)) (ab0 (br0 (ae0 ad0) (ac0 (pv 0))) an0)))) (ae0 (br0 (ac0 (pv 4)) (ae0 ad0))))) (by rfl))
   (ak0 (aY0 (bx0 (ab0 (aj0 (pv 9)) (ab0 (aj0 (pv 3)) (ab0 (aj0 (pv 8)) (ab0 (cw0 (eG0 kg0 (hr.mono (by decide)) (by rfl) (ab0 (aj0 (pv 0)) (ab0 (aj0 (pv 7)) (ab0 (aj0 (pv 1)) an0))))) an0)))))))))))))))))
theorem xi0:FnScope ["plot", "crops"] ["plot"] (af0 y9):=⟨rfl,rfl,rfl,by decide +kernel,rfl,by decide +kernel,by decide +kernel⟩
theorem jm0 (F:Fun K "_law_handed" "_law_handed" y9 f fd) (T:Txt K mg C CWeb)  :FnOk P w K mg base CX0 1 f fd Y6 (spP (x9 C)):=by
 have sc:=xi0
 refine aJ0 F xi0 (fun _ _ h=>aH0 h) fun cdv A outer s H E FF hr=>⟨Vd0 C,?_,fun ts o t h=>aA0 h⟩
 exact(ag0 (fe0 (i:=1) (own:=["crop"]) sc.nd rfl (Or.inl rfl) rfl (bQ0 Wd0 (af0 y9) rfl rfl (by decide +kernel)) (bc0 (aB0 (ac0 (pv 0)) (ae0 ad0))) bg0 (fun _ _ _ _=>(as0 (i:=0) (bz0 ((["crop"]:List Str)++hide ["crop"] Wd0) rfl (by decide +kernel)) rfl (Or.inl rfl))) (fun _ _ _ _=>bN0) (fun _ _ _ _=>(ee0 (ae0 (gY0 (ac0 (pv 0)) da0 (cY0 (ae0 ad0)))) (ae0 (bx0 (ab0 (cw0 (jz0 (by rfl) T.Z2 (aq0 (ae0 (aB0 (ac0 (pv 0)) (ae0 ad0))) aD0))) an0))))) (by rfl))
   (ak0 (en0 (ca0 (ab0 (cw0 (jz0 (by rfl) T.Z2 (aq0 (ae0 (aB0 (ac0 (pv 0)) (ae0 ad0))) aD0))) (ab0 (aB0 (ac0 (pv 0)) (ae0 ad0)) (ab0 (aj0 (pv 1)) (ab0 (cw0 (nj0 (by rfl) T.X9 (aq0 (ae0 (aB0 (ac0 (pv 0)) (ae0 ad0))) aD0))) an0))))))))
theorem hi0:FnScope ["plot", "bed", "number", "crop", "k"] ["plot", "bed", "number"] (af0 qb0):=⟨rfl,rfl,rfl,by decide +kernel,rfl,by decide +kernel,by decide +kernel⟩
theorem km0 (F:Fun K "_law_lets" "_law_lets" qb0 f fd) (T:Txt K mg C CWeb)  :FnOk P w K mg base CX0 1 f fd X6 (spP (X1 C)):=by
 have sc:=hi0
 refine aJ0 F hi0 (fun _ _ h=>aH0 h) fun cdv A outer s H E FF hr=>⟨Yd0 C,?_,fun ts o t h=>aA0 h⟩
 exact(ag0 (aZ0 (i:=3) sc.nd rfl (Or.inl rfl) (aB0 (ae0 (aB0 (ac0 (pv 0)) (ae0 ad0))) (ac0 (pv 2))))
   (ag0 (bT0 (lP0 (ae0 (br0 (ae0 (aB0 (ac0 (pv 1)) (ae0 ad0))) (ae0 (aB0 (ac0 (pv 3)) (ae0 ad0))))) (ae0 ad0)) (ak0 (aY0 eZ0)) aP0)
   (ag0 (bP0 PassesOwn.never rfl (bI0 (by rfl) T.X0 (aq0 (ae0 (fa0 rfl (by rfl) T.v8 (aq0 (ae0 (aB0 (ac0 (pv 3)) (ae0 ad0))) (aq0 (ae0 (ck0 (by rfl) T.Z0 (aq0 (ae0 (aB0 (ac0 (pv 1)) (ae0 ad0))) aD0))) aD0)))) aD0)) (bB0 (as0 (i:=4) sc.nd rfl (Or.inl rfl)))
   (ak0 (bT0 (gH0 (hu20 hr) (ae0 (aB0 (ae0 (aB0 (ac0 (pv 1)) (ae0 ad0))) (ac0 (pv 4)))) (ac0 (pv 2))) (ak0 (aY0 eZ0)) aP0)))
   (ak0 (aY0 (se_or (se_eq (hu20 hr) (ae0 (aB0 (ac0 (pv 1)) (ae0 ad0))) (ae0 (bx0 an0))) (mR0 (gX0 (ae0 (aB0 (ae0 (aB0 (ae0 (aB0 (ac0 (pv 0)) (ae0 ad0))) (ae0 (aB0 (ae0 (aB0 (ac0 (pv 1)) (ae0 ad0))) (ae0 ad0))))) (ae0 ad0))) (ae0 (aB0 (ac0 (pv 3)) (ae0 ad0)))))))))))
theorem Zi0:FnScope ["rows", "numbers", "longer", "row", "number"] ["rows", "numbers"] (af0 jb0):=⟨rfl,rfl,rfl,by decide +kernel,rfl,by decide +kernel,by decide +kernel⟩
theorem wm0 (F:Fun K "_law_longer" "_law_longer" jb0 f fd) (T:Txt K mg C CWeb)  :FnOk P w K mg base CX0 1 f fd z7 (spP (W3 C)):=by
 have sc:=Zi0
 refine aJ0 F Zi0 (fun _ _ h=>aH0 h) fun cdv A outer s H E FF hr=>⟨Xd0 C,?_,fun ts o t h=>aA0 h⟩
 exact(ag0 (dR0 (i:=2) sc.nd rfl (Or.inl rfl) (ca0 an0))
   (ag0 (bP0 PassesOwn.never rfl (bc0 (aj0 (pv 0))) (bB0 (as0 (i:=3) sc.nd rfl (Or.inl rfl)))
   (ak0 (bP0 PassesOwn.never rfl (bc0 (aj0 (pv 1))) (bB0 (as0 (i:=4) sc.nd rfl (Or.inl rfl)))
   (ak0 (ef0 (pv 2) (ee0 (ac0 (pv 3)) (ae0 (bx0 (ab0 (aj0 (pv 4)) an0)))))))))
   (ak0 (go0 (pv 2)))))
theorem Qi0:FnScope ["plot", "planting", "names", "name"] ["plot", "planting"] (af0 Z9):=⟨rfl,rfl,rfl,by decide +kernel,rfl,by decide +kernel,by decide +kernel⟩
theorem vm0 (F:Fun K "_law_wanted" "_law_wanted" Z9 f fd) (T:Txt K mg C CWeb)  :FnOk P w K mg base CX0 1 f fd j7 (spP (V3 C)):=by
 have sc:=Qi0
 refine aJ0 F Qi0 (fun _ _ h=>aH0 h) fun cdv A outer s H E FF hr=>⟨qe0 C,?_,fun ts o t h=>aA0 h⟩
 exact(ag0 (fe0 (i:=2) (own:=["number"]) sc.nd rfl (Or.inl rfl) rfl (bQ0 ze0 (af0 Z9) rfl rfl (by decide +kernel)) (fG0 (aj0 (pv 1))) bg0 (fun _ _ _ _=>(as0 (i:=0) (bz0 ((["number"]:List Str)++hide ["number"] ze0) rfl (by decide +kernel)) rfl (Or.inl rfl))) (fun _ _ _ _=>bN0) (fun _ _ _ _=>(aB0 (ae0 (aB0 (ae0 (aB0 (ac0 (pv 1)) (ae0 ad0))) (ac0 (pv 0)))) (ae0 ad0))) (by rfl))
   (ag0 (bP0 PassesOwn.never rfl (nl0 (aB0 (ac0 (pv 0)) (ae0 ad0))) (bB0 (as0 (i:=3) sc.nd rfl (Or.inl rfl)))
   (ak0 (bT0 (qt_w (iT0 (lP0 (ae0 (hR0 (ac0 (pv 2)) (aq0 (ac0 (pv 3)) aD0))) (ae0 (aB0 (ae0 (jT0 (cP0 hr) (ae0 (aB0 (ac0 (pv 0)) (ae0 ad0))) (ac0 (pv 3)))) (ae0 ad0)))) (fz0 (qt_gt (ae0 (hR0 (ac0 (pv 2)) (aq0 (ac0 (pv 3)) aD0))) (ae0 (aB0 (ae0 (jT0 (cP0 hr) (ae0 (aB0 (ac0 (pv 0)) (ae0 ad0))) (ac0 (pv 3)))) (ae0 ad0))))))) (ak0 (aY0 eZ0)) aP0)))
   (ak0 (aY0 eZ0))))
theorem Ji0:FnScope ["plot", "state", "rows", "bed"] ["plot", "state"] (af0 v7):=⟨rfl,rfl,rfl,by decide +kernel,rfl,by decide +kernel,by decide +kernel⟩
theorem ym0 (F:Fun K "_law_may" "_law_may" v7 f fd) (T:Txt K mg C CWeb) (wg0:aL0 P w K mg base 1 "_law_lets" X6 (X1 C)) (vg0:aL0 P w K mg base 1 "_law_longer" z7 (W3 C)) (yg0:aL0 P w K mg base 1 "_law_wanted" j7 (V3 C)):FnOk P w K mg base CX0 2 f fd y7 (spP (J9 C)):=by
 have sc:=Ji0
 refine aJ0 F Ji0 (fun _ _ h=>aH0 h) fun cdv A outer s H E FF hr=>⟨je0 C,?_,fun ts o t h=>aA0 h⟩
 exact(ag0 (aZ0 (i:=2) sc.nd rfl (Or.inl rfl) (cw0 (ca0 (ab0 (bx0 an0) an0))))
   (ag0 (bP0 PassesOwn.never rfl (fG0 (aj0 (pv 1))) (bB0 (as0 (i:=3) sc.nd rfl (Or.inr rfl)))
   (ak0 (aZ0 (i:=2) sc.nd rfl (Or.inl rfl) (cw0 (eG0 vg0 (hr.mono (by decide)) (by rfl) (ab0 (aj0 (pv 2)) (ab0 (cw0 (bm0 rfl (own:=["number"]) (bQ0 Q9 (af0 v7) rfl rfl (by decide +kernel)) (bI0 (by rfl) T.X0 (aq0 (ae0 (ck0 (by rfl) T.Z0 (aq0 (ae0 (aB0 (ac0 (pv 0)) (ae0 ad0))) aD0))) aD0)) bg0 (fun _ _ _ _=>(as0 (i:=0) (bz0 ((["number"]:List Str)++hide ["number"] Q9) rfl (by decide +kernel)) rfl (Or.inl rfl))) (fun _ _ _ _=>(ht0 (ce0 (aM0 wg0 (hr.mono (by decide)) (by rfl) (ab0 (aj0 (pv 1)) (ab0 (aj0 (pv 4)) (ab0 (aj0 (pv 0)) an0))))))) (fun _ _ _ _=>(aj0 (pv 0))))) an0)))))))
   (ak0 (en0 (bm0 rfl (own:=["row"]) (bQ0 Q9 (af0 v7) rfl rfl (by decide +kernel)) (bc0 (aj0 (pv 2))) bg0 (fun _ _ _ _=>(as0 (i:=0) (bz0 ((["row"]:List Str)++hide ["row"] Q9) rfl (by decide +kernel)) rfl (Or.inl rfl))) (fun _ _ _ _=>(ht0 (ce0 (aM0 yg0 (hr.mono (by decide)) (by rfl) (ab0 (aj0 (pv 1)) (ab0 (aj0 (pv 0)) an0)))))) (fun _ _ _ _=>(aj0 (pv 0))))))))
theorem Ki0:FnScope ["plot"] ["plot"] (af0 K9):=⟨rfl,rfl,rfl,by decide +kernel,rfl,by decide +kernel,by decide +kernel⟩
theorem xm0 (F:Fun K "_law_memory" "_law_memory" K9 f fd) (T:Txt K mg C CWeb)  :FnOk P w K mg base CX0 1 f fd Z7 (spP (Y3 C)):=by
 have sc:=Ki0
 refine aJ0 F Ki0 (fun _ _ h=>aH0 h) fun cdv A outer s H E FF hr=>⟨we0 C,?_,fun ts o t h=>aA0 h⟩
 exact(ak0 (aY0 (mJ0 rfl (by rfl) T.za0 (aq0 (cj0 (kH0 (cj0 (ca0 (ab0 ad0 an0))) (cj0 (bm0 rfl (own:=["crop"]) (bQ0 ke0 (af0 K9) rfl rfl (by decide +kernel)) (bc0 (aB0 (ac0 (pv 0)) (ae0 ad0))) bg0 (fun _ _ _ _=>(as0 (i:=0) (bz0 ((["crop"]:List Str)++hide ["crop"] ke0) rfl (by decide +kernel)) rfl (Or.inl rfl))) (fun _ _ _ _=>bN0) (fun _ _ _ _=>(aB0 (ac0 (pv 0)) (ae0 ad0))))))) aD0))))
theorem Wi0:FnScope ["plot", "state", "planting", "beds", "k", "soil"] ["plot", "state", "planting"] (af0 kb0):=⟨rfl,rfl,rfl,by decide +kernel,rfl,by decide +kernel,by decide +kernel⟩
theorem hm0 (F:Fun K "_law_behind" "_law_behind" kb0 f fd) (T:Txt K mg C CWeb) (xg0:aL0 P w K mg base 1 "_law_memory" Z7 (Y3 C)):FnOk P w K mg base CX0 2 f fd Q7 (spP (J7 C)):=by
 have sc:=Wi0
 refine aJ0 F Wi0 (fun _ _ h=>aH0 h) fun cdv A outer s H E FF hr=>⟨ve0 C,?_,fun ts o t h=>aA0 h⟩
 exact(ag0 (dR0 (i:=3) sc.nd rfl (Or.inl rfl) (ca0 an0))
   (ag0 (bP0 PassesOwn.never rfl (bI0 (by rfl) T.X0 (aq0 (ae0 (ck0 (by rfl) T.Z0 (aq0 (ac0 (pv 1)) aD0))) aD0)) (bB0 (as0 (i:=4) sc.nd rfl (Or.inl rfl)))
   (ag0 (aZ0 (i:=5) sc.nd rfl (Or.inl rfl) (fa0 rfl (by rfl) T.v8 (aq0 (ae0 (aB0 (ac0 (pv 0)) (ae0 ad0))) (aq0 (ae0 (br0 (ae0 (aB0 (ae0 (aB0 (ac0 (pv 1)) (ac0 (pv 4)))) (ae0 ad0))) (ae0 (aB0 (ae0 (aB0 (ae0 (aB0 (ac0 (pv 0)) (ae0 ad0))) (ae0 (aB0 (ac0 (pv 2)) (ac0 (pv 4)))))) (ae0 ad0))))) aD0))))
   (ak0 (ef0 (pv 3) (bx0 (ab0 (aj0 (pv 5)) (ab0 (gY0 (ae0 (ee0 (ae0 (bx0 (ab0 (aB0 (ac0 (pv 2)) (ac0 (pv 4))) an0))) (ae0 (aB0 (ae0 (aB0 (ac0 (pv 1)) (ac0 (pv 4)))) (ae0 ad0))))) da0 (cY0 (ae0 (aM0 xg0 (hr.mono (by decide)) (by rfl) (ab0 (aj0 (pv 0)) an0))))) an0)))))))
   (ak0 (aY0 (bv0 (by rfl) T.J0 (aq0 (ac0 (pv 3)) aD0))))))
theorem Vi0:FnScope ["plot"] ["plot"] (af0 W9):=⟨rfl,rfl,rfl,by decide +kernel,rfl,by decide +kernel,by decide +kernel⟩
theorem Zm0 (F:Fun K "_law_start" "_law_start" W9 f fd) (T:Txt K mg C CWeb)  :FnOk P w K mg base CX0 1 f fd X3 (spP (K7 C)):=by
 have sc:=Vi0
 refine aJ0 F Vi0 (fun _ _ h=>aH0 h) fun cdv A outer s H E FF hr=>⟨xe0 C,?_,fun ts o t h=>aA0 h⟩
 exact(ak0 (aY0 (bv0 (by rfl) T.J0 (aq0 (cj0 (bm0 rfl (own:=["soil"]) (bQ0 ye0 (af0 W9) rfl rfl (by decide +kernel)) (bc0 (aB0 (ac0 (pv 0)) (ae0 ad0))) bg0 (fun _ _ _ _=>(as0 (i:=0) (bz0 ((["soil"]:List Str)++hide ["soil"] ye0) rfl (by decide +kernel)) rfl (Or.inl rfl))) (fun _ _ _ _=>bN0) (fun _ _ _ _=>(bx0 (ab0 (aj0 (pv 0)) (ab0 (bx0 an0) an0)))))) aD0))))
end
end Bed1
namespace Bed1
open PySem PySem.Spec L2 L2.BD
local macro_rules | `(tactic| simp_arith! [$xs,*]) => `(tactic| simp only [sSeq, sIf, sNx, sSet, cz0, sRet, eB0, aT0, qB, qNot, qAnd, qOr, e1, e2, bVar, eVar, eC, eFld, aw0, eTup, eLst, aa0, aNil, eOr, eSlT, eSlL, ba0, eBM, iLst, iTpl, List.getElem?_cons_zero, List.getElem?_cons_succ, Option.bind_some, Option.map_some, if_true, if_false, decide_true, decide_false, Bool.false_eq_true, cv0, φAdd, φSub, φLt, φLe, φGt, φGe, φLen, Bool.true_and, Bool.false_and, Bool.and_true, Bool.and_false, Bool.not_true, Bool.not_false, eq_self, List.set_cons_zero, List.set_cons_succ, noD, eFn, eFnF, isI, $xs,*])
local macro_rules | `(tactic| simp_arith [$xs,*]) => `(tactic| simp only [sSeq, sIf, sNx, sSet, cz0, sRet, aT0, qB, qNot, qAnd, qOr, e1, e2, bVar, eVar, eC, eFld, aw0, eTup, eLst, aa0, aNil, eOr, eSlT, eSlL, ba0, eBM, iLst, iTpl, List.getElem?_cons_zero, List.getElem?_cons_succ, Option.bind_some, Option.map_some, if_true, if_false, decide_true, decide_false, Bool.false_eq_true, cv0, φAdd, φSub, φLt, φLe, φGt, φGe, φLen, Bool.true_and, Bool.false_and, Bool.and_true, Bool.and_false, Bool.not_true, Bool.not_false, eq_self, $xs,*])
structure Crop where
 name:Str
 change:Int
 harvest:Int
 gap:Int
 bars:List Str
structure Plot where
 soils:List Int
 top:Int
 crops:List Crop
 wants:List (Str × Int × Int)
abbrev Plot.names (p:Plot):List Str:=p.crops.map (·.name)
abbrev intT (n:Nat):T:=.int (n:Int)
def rowT (xs:List Nat):T:=.tup (xs.map intT)
def al0 (c:Crop):T:=.tup [.str c.name,.int c.change,.int c.harvest,.int c.gap,.lst (c.bars.map .str)]
def at0 (ws:List (Str × Int × Int)):T:=.dct (ws.map fun x=>(x.1,.tup [.int x.2.1,.int x.2.2]))
def aK0 (p:Plot):T:=.tup [.lst (p.soils.map .int),.int p.top,.lst (p.crops.map al0),at0 p.wants]
def bedT (b:Int × List Nat):T:=.tup [.int b.1,rowT b.2]
def au0 (s:List (Int × List Nat)):T:=.tup (s.map bedT)
def num (p:Plot)(x:Str):Nat:=p.names.idxOf x
def bY0 (p:Plot)(c:Crop):List Nat:=c.bars.map (num p)
def depth (p:Plot):Int:=match p.crops.map (·.gap) with| []=>1|g::gs=>if maxI g gs>1 then maxI g gs else 1
def bu0 (p:Plot):List (Str × T):=
  [("soils",.tup (p.soils.map .int)),("top",.int p.top),("changes",.tup (p.crops.map fun c=> .int c.change)),("harvests",.tup (p.crops.map fun c=> .int c.harvest)),
   ("gaps",.tup (p.crops.map fun c=> .int c.gap)),("bars",.tup (p.crops.map fun c=>rowT (bY0 p c))),("wants",.tup (p.wants.map fun x=> .tup [intT (num p x.1),.int x.2.1,.int x.2.2])),("depth",.int (depth p))]
def garT (C:Addr)(p:Plot):T:=.ins C (bu0 p)
theorem oA0 (p:Plot):(bu0 p).lookup ("soils" :Str)=some (T.tup (p.soils.map .int)):=by rfl
theorem f_top (p:Plot):(bu0 p).lookup ("top" :Str)=some (T.int p.top):=by rfl
theorem bH0 (p:Plot):(bu0 p).lookup ("changes" :Str)=some (T.tup (p.crops.map fun c=> .int c.change)):=by rfl
theorem eM0 (p:Plot):(bu0 p).lookup ("gaps" :Str)=some (T.tup (p.crops.map fun c=> .int c.gap)):=by rfl
theorem eR0 (p:Plot):(bu0 p).lookup ("bars" :Str)=some (T.tup (p.crops.map fun c=>rowT (bY0 p c))):=by rfl
theorem nH0 (p:Plot):(bu0 p).lookup ("wants" :Str)=some (T.tup (p.wants.map fun x=> .tup [intT (num p x.1),.int x.2.1,.int x.2.2])):=by rfl
theorem nk0 (p:Plot):(bu0 p).lookup ("depth" :Str)=some (T.int (depth p)):=by rfl
theorem aI0 {N:List Str}{n:Nat}{g:En->Option Fl}{ts:List T}{ε:En}(h:ts.length=n)(he:cC0 N ts=ε):fnT N n g ts=(g ε).bind cv0:=by
 unfold fnT
 rw [if_pos h,he]
theorem ix_tup (f:Crop->T)(l:List Crop)(i:Nat)(c:Crop)(h:l[i]?=some c):φIx (.tup (l.map f)) (intT i)=some (f c):=by
 show L2.atI (l.map f) (i:Int)=_
 exact L2.atI_nat (by rw [List.getElem?_map,h]; rfl)
theorem hG0 (f:Crop->T)(l:List Crop)(i:Nat)(c:Crop)(h:l[i]?=some c):φIx (.lst (l.map f)) (intT i)=some (f c):=by
 show L2.atI (l.map f) (i:Int)=_
 exact L2.atI_nat (by rw [List.getElem?_map,h]; rfl)
theorem og0 (xs:List Nat)(i:Nat):(xs.map intT).any (fun y=>eqV (toV y) (toV (intT i)))=decide (i∈xs):=by
 induction xs with
 |nil=>simp
 |cons x xs ih=>
  rw [List.map_cons,List.any_cons,ih]
  show (((x:Int)==(i:Int))||decide (i∈xs))=_
  by_cases h:x=i
  ·subst h; simp
  ·have:((x:Int)==(i:Int))=false:=by simp; omega
   rw [this]
   simp [Ne.symm h]
theorem hD0 (xs:List Nat):(xs.map intT).all aV0=true:=by
 induction xs with
 |nil=>rfl
 |cons x xs ih=>rw [List.map_cons,List.all_cons,ih]; rfl
theorem nb0 (b:Bool)(i:Nat)(xs:List Nat):φIn b (intT i) (rowT xs)=some (.bl (if b then !decide (i∈xs) else decide (i∈xs))):=by
 show (if aV0 (intT i) && (xs.map intT).all aV0 then _ else _)=_
 rw [hD0,og0]
 rfl
theorem gE0 (xs:List Nat)(k:Int)(hk:0<=k):cutT (xs.map intT) none (some k)=(xs.take k.toNat).map intT:=by
 unfold cutT
 rw [HT.sIx_none]
 have:HT.sIx (xs.map intT).length (xs.map intT).length (some k)=min k.toNat xs.length:=by
  show (if k<0 then _ else min k.toNat _)=_
  rw [if_neg (by omega),List.length_map]
 rw [this,List.drop_zero,Nat.sub_zero,List.map_take]
 apply List.ext_getElem?
 intro j
 simp only [List.getElem?_take]
 by_cases h1:j<k.toNat
 ·by_cases h2:j<xs.length
  ·rw [if_pos (by omega),if_pos h1]
  ·rw [if_neg (by omega),if_pos h1]
   exact(List.getElem?_eq_none (by rw [List.length_map]; omega)).symm
 ·rw [if_neg (by omega),if_neg h1]
def cX0 (p:Plot)(soil:Int)(stood:List Nat)(i:Nat):Bool:=match p.crops[i]? with
 |none=>false
 |some c=>decide (0<=soil+c.change) && !decide (i∈stood.take c.gap.toNat) && (match stood with| []=>true|s::_=> !decide (s∈bY0 p c))
theorem ns0 (C:Addr)(p:Plot)(soil:Int)(stood:List Nat)(i:Nat)(c:Crop)(hc:p.crops[i]?=some c)(hg:0<=c.gap):
  v3 C [garT C p,.int soil,rowT stood,intT i]=some (false,.bl (cX0 p soil stood i)):=by
 have e1:φIx (.tup (p.crops.map fun c=> .int c.change)) (intT i)=some (.int c.change):=ix_tup (fun c=> .int c.change) _ _ _ hc
 have e2':φIx (.tup (p.crops.map fun c=> .int c.gap)) (intT i)=some (.int c.gap):=ix_tup (fun c=> .int c.gap) _ _ _ hc
 have e3:φIx (.tup (p.crops.map fun c=>rowT (bY0 p c))) (intT i)=some (rowT (bY0 p c)):=ix_tup (fun c=>rowT (bY0 p c)) _ _ _ hc
 have e4:cutT (stood.map intT) none (some c.gap)=(stood.take c.gap.toNat).map intT:=gE0 _ _ hg
 unfold rowT at e3
 unfold v3 Wc0
 refine(aI0 (ε:=[.sh (garT C p),.sh (.int soil),.sh (rowT stood),.sh (intT i)]) rfl rfl).trans ?_
 unfold cX0
 rw [hc]
 simp_arith [garT,bH0,eM0,eR0,e1,e2',e3,e4,rowT]
 by_cases h1:soil+c.change<0
 ·have h1':¬(0<=soil+c.change):=by omega
  simp_arith [h1,h1',garT,bH0,eM0,eR0,e1,e2',e3,e4,rowT]
 ·have h1':0<=soil+c.change:=by omega
  have e5:=nb0 false i (stood.take c.gap.toNat)
  unfold rowT at e5
  simp_arith [h1,h1',e5,garT,bH0,eM0,eR0,e1,e2',e3,e4,rowT]
  by_cases h2:i∈stood.take c.gap.toNat
  ·simp_arith [h2,garT,bH0,eM0,eR0,e1,e2',e3,e4,rowT]
  ·simp_arith [h2,garT,bH0,eM0,eR0,e1,e2',e3,e4,rowT]
   cases stood with
   |nil=>rfl
   |cons s r=>
    have e6:=nb0 true s (bY0 p c)
    unfold rowT at e6
    have e7:φIx (.tup ((s::r).map intT)) (.int 0)=some (intT s):=by show L2.atI ((s::r).map intT) ((0:Nat):Int)=_; exact L2.atI_nat rfl
    have e8:φEq (.int (((s::r).map intT).length:Int)) (.int 0)=some (.bl false):=by
     show some (T.bl (decide (V.int _=V.int 0)))=_
     rw [decide_eq_false]
     intro z
     have:=V.int.inj z
     simp at this
     omega
    simp_arith [e8,e7,e6,garT,bH0,eM0,eR0,e1,e2',e3,e4,rowT]
def Pl (stood:List Nat)(i:Nat):T->Bool
 | .int k=>decide (stood[k.toNat]?=some i)
 |_=>false
theorem iN0 (stood:List Nat)(i n:Nat):(bb0 0 n).any (Pl stood i)=decide (i∈stood.take n):=by
 unfold bb0
 rw [List.any_map]
 rw [Bool.eq_iff_iff,List.any_eq_true,decide_eq_true_iff,List.mem_take_iff_getElem]
 constructor
 ·rintro⟨k,hk,h⟩
  have h:decide (stood[(0+(k:Int)).toNat]?=some i)=true:=h
  have e:(0+(k:Int)).toNat=k:=by omega
  rw [e,decide_eq_true_iff] at h
  obtain⟨hl,h⟩:=List.getElem?_eq_some_iff.mp h
  exact⟨k,by have:=List.mem_range.mp hk; omega,h⟩
 ·rintro⟨k,hk,h⟩
  refine⟨k,List.mem_range.mpr (by omega),?_⟩
  show decide (stood[(0+(k:Int)).toNat]?=some i)=true
  have e:(0+(k:Int)).toNat=k:=by omega
  rw [e,decide_eq_true_iff]
  exact List.getElem?_eq_some_iff.mpr ⟨by omega,h⟩
structure Named (p:Plot):Prop where
 nd:p.names.Nodup
 bars:∀c∈p.crops,∀b∈c.bars,b∈p.names
 wants:∀x∈p.wants,x.1∈p.names
theorem hI0 {p:Plot}(h:Named p){s:Nat}{c:Crop}(hc:p.crops[s]?=some c):num p c.name=s:=by
 obtain⟨hl,e⟩:=List.getElem?_eq_some_iff.mp hc
 have hl':s<p.names.length:=by simpa using hl
 have e':p.names[s]=c.name:=by simp [e]
 unfold num
 rw [<- e']
 exact h.nd.idxOf_getElem s hl'
theorem jQ0 {p:Plot}(h:Named p){s:Nat}{d c:Crop}(hd:p.crops[s]?=some d)(hc:c∈p.crops):decide (s∈bY0 p c)=decide (d.name∈c.bars):=by
 rw [decide_eq_decide]
 unfold bY0
 rw [List.mem_map]
 constructor
 ·rintro⟨b,hb,e⟩
  have hn:=h.bars c hc b hb
  have e1:p.names[num p b]?=some b:=by
   have hl:p.names.idxOf b<p.names.length:=List.idxOf_lt_length_of_mem hn
   exact(List.getElem?_eq_getElem hl).trans (congrArg some (List.getElem_idxOf hl))
  rw [e] at e1
  rw [List.getElem?_map,hd] at e1
  cases e1
  exact hb
 ·intro hb
  exact⟨d.name,hb,hI0 h hd⟩
theorem oq0 (xs:List Str)(x:Str):(xs.map T.str).any (fun y=>eqV (toV y) (toV (.str x)))=decide (x∈xs):=by
 induction xs with
 |nil=>simp
 |cons y xs ih=>
  rw [List.map_cons,List.any_cons,ih]
  show ((y==x)||decide (x∈xs))=_
  by_cases h:y=x
  ·subst h; simp
  ·have:(y==x)=false:=by simpa using h
   rw [this]
   simp [Ne.symm h]
theorem fU0 (xs:List Str):(xs.map T.str).all aV0=true:=by
 induction xs with
 |nil=>rfl
 |cons x xs ih=>rw [List.map_cons,List.all_cons,ih]; rfl
theorem jx0 (b:Bool)(x:Str)(xs:List Str):φIn b (.str x) (.lst (xs.map .str))=some (.bl (if b then !decide (x∈xs) else decide (x∈xs))):=by
 show (if aV0 (.str x) && (xs.map T.str).all aV0 then _ else _)=_
 rw [fU0,oq0]
 rfl
theorem aE0 (ts:List T)(k:Nat)(t:T)(h:ts[k]?=some t):φIx (.tup ts) (.int (k:Int))=some t:=L2.atI_nat h
theorem dF0 (ts:List T)(k:Nat)(t:T)(h:ts[k]?=some t):φIx (.lst ts) (.int (k:Int))=some t:=L2.atI_nat h
theorem iC0 (C:Addr)(p:Plot)(hp:Named p)(soil:Int)(stood:List Nat)(hs:∀s∈stood,s<p.crops.length)(i:Nat)(c:Crop)(hc:p.crops[i]?=some c)(hg:0<=c.gap)(hsl:stood.length<=1000):
  X1 C [aK0 p,bedT (soil,stood),intT i]=some (false,.bl (cX0 p soil stood i)):=by
 have a1:φIx (aK0 p) (.int 2)=some (.lst (p.crops.map al0)):=aE0 _ 2 _ rfl
 have a2:φIx (.lst (p.crops.map al0)) (intT i)=some (al0 c):=hG0 al0 _ _ _ hc
 have a3:φIx (bedT (soil,stood)) (.int 0)=some (.int soil):=aE0 _ 0 _ rfl
 have a4:φIx (bedT (soil,stood)) (.int 1)=some (rowT stood):=aE0 _ 1 _ rfl
 have a5:φIx (al0 c) (.int 1)=some (.int c.change):=aE0 _ 1 _ rfl
 have a6:φIx (al0 c) (.int 3)=some (.int c.gap):=aE0 _ 3 _ rfl
 have a7:φIx (al0 c) (.int 4)=some (.lst (c.bars.map .str)):=aE0 _ 4 _ rfl
 have hci:c∈p.crops:=List.mem_of_getElem? hc
 unfold X1 Yd0
 refine(aI0 (ε:=[.sh (aK0 p),.sh (bedT (soil,stood)),.sh (intT i),.un,.un]) rfl rfl).trans ?_
 unfold cX0
 rw [hc]
 simp_arith [List.set_cons_zero,List.set_cons_succ,a1,a2,a3,a4,a5,a6,a7]
 by_cases h1:soil+c.change<0
 ·have h1':¬(0<=soil+c.change):=by omega
  simp_arith [h1,h1',List.set_cons_zero,List.set_cons_succ]
 ·have h1':0<=soil+c.change:=by omega
  simp_arith [h1,h1',List.set_cons_zero,List.set_cons_succ,a4,a6,sFor,aR0,rowT,List.length_map,dy0]
  have hm:(if(stood.length:Int)<c.gap then(stood.length:Int) else c.gap)=((min stood.length c.gap.toNat:Nat):Int):=by split<;>omega
  rw [hm,if_pos ⟨by omega,by omega⟩,Option.bind_some,Int.toNat_natCast]
  have ht:stood.take (min stood.length c.gap.toNat)=stood.take c.gap.toNat:=by
   rw [Nat.min_comm,<- List.take_take,List.take_length]
  obtain⟨lt,lf⟩:=dO0 (o:=false) (r:=.bl false) (bd:=ao0 4) (body:=sIf (qB (e2 φEq (e2 φIx (e2 φIx (bVar 1) (eC (T.int 1))) (bVar 4)) (bVar 2))) (sRet false (eC (T.bl false))) sNx)
   (fun ε=>∃z,ε=[.sh (aK0 p),.sh (bedT (soil,stood)),.sh (intT i),.sh (al0 c),z]) (Pl stood i) (bb0 0 (min stood.length c.gap.toNat)) [.sh (aK0 p),.sh (bedT (soil,stood)),.sh (intT i),.sh (al0 c),.un] ⟨_,rfl⟩ fun t ε ht ⟨z,he⟩=>by
    subst he
    obtain⟨k,hk,rfl⟩:=List.mem_map.mp ht
    have hk:=List.mem_range.mp hk
    have ek:(0+(k:Int))=(k:Int):=by omega
    rw [ek]
    have hkl:k<stood.length:=by omega
    have b1:φIx (rowT stood) (.int (k:Int))=some (intT stood[k]):=aE0 _ k _ (by rw [List.getElem?_map,List.getElem?_eq_getElem hkl]; rfl)
    have b2:φEq (intT stood[k]) (intT i)=some (.bl (decide (stood[k]=i))):=by
     show some (T.bl (decide (V.int _=V.int _)))=_
     congr 2
     rw [decide_eq_decide]
     constructor
     ·intro z; exact Int.ofNat_inj.mp (V.int.inj z)
     ·intro z; rw [z]
    have b3:Pl stood i (.int (k:Int))=decide (stood[k]=i):=by
     show decide (stood[((k:Int)).toNat]?=some i)=_
     rw [Int.toNat_natCast,List.getElem?_eq_getElem hkl,decide_eq_decide]
     simp
    refine⟨_,rfl,fun q=> ?_,fun q=> ?_⟩
    ·rw [b3] at q
     simp_arith [List.set_cons_zero,List.set_cons_succ,a4,b1,b2,q]
    ·rw [b3] at q
     simp_arith [List.set_cons_zero,List.set_cons_succ,a4,b1,b2,q]
     exact⟨_,rfl,_,rfl⟩
  rw [iN0,ht] at lt lf
  by_cases h2:i∈stood.take c.gap.toNat
  ·rw [lt (decide_eq_true h2)]
   simp_arith [List.set_cons_zero,List.set_cons_succ,h2]
  ·obtain⟨ε',l1,z,l2⟩:=lf (decide_eq_false h2)
   subst l2
   rw [l1]
   have b0:(if([]:List T).length<=big then some (T.tup []) else none)=some (T.tup []):=rfl
   simp_arith [List.set_cons_zero,List.set_cons_succ,h2,a1,a2,a4,a7,b0]
   cases stood with
   |nil=>rfl
   |cons s r=>
    obtain⟨d,hd⟩:∃d,p.crops[s]?=some d:=⟨_,List.getElem?_eq_getElem (hs s (List.mem_cons_self ..))⟩
    have c1:φEq (rowT (s::r)) (.tup [])=some (.bl false):=rfl
    have c2:φIx (rowT (s::r)) (.int 0)=some (intT s):=aE0 _ 0 _ rfl
    have c3:φIx (.lst (p.crops.map al0)) (intT s)=some (al0 d):=hG0 al0 _ _ _ hd
    have c4:φIx (al0 d) (.int 0)=some (.str d.name):=aE0 _ 0 _ rfl
    have c5:=jx0 true d.name c.bars
    simp_arith [List.set_cons_zero,List.set_cons_succ,c1,c2,c3,c4,c5,jQ0 hp hd hci]
theorem cN0 {n:Nat}{t:T}(h:t∈bb0 0 n):∃k,k<n/\t=intT k:=by
 obtain⟨k,hk,rfl⟩:=List.mem_map.mp h
 refine⟨k,List.mem_range.mp hk,?_⟩
 show T.int (0+(k:Int))=T.int (k:Int)
 rw [Int.zero_add]
theorem bE0 (n:Nat):bb0 0 n=(List.range n).map intT:=by
 unfold bb0
 apply List.map_congr_left
 intro k _
 show T.int (0+(k:Int))=T.int (k:Int)
 rw [Int.zero_add]
def onN (q:Nat->Bool):T->Bool
 | .int k=>q k.toNat
 |_=>false
theorem dC0 (q:Nat->Bool)(n:Nat):((bb0 0 n).filter (onN q)).map id=((List.range n).filter q).map intT:=by
 rw [bE0,List.filter_map,List.map_id]
 congr 1
def cB0 (p:Plot)(soil:Int)(stood:List Nat):List Nat:=(List.range p.crops.length).filter (cX0 p soil stood)
structure Fine (p:Plot):Prop extends Named p where
 gaps:∀c∈p.crops,0<=c.gap
 few:p.crops.length<=5
theorem ma0 (C:Addr)(p:Plot)(hp:Fine p)(soil:Int)(stood:List Nat):
  y3 C [garT C p,.int soil,rowT stood]=some (true,.lst ((cB0 p soil stood).map intT)):=by
 unfold y3 Yc0
 refine(aI0 (ε:=[.sh (garT C p),.sh (.int soil),.sh (rowT stood)]) rfl rfl).trans ?_
 have hf:=hp.few
 have hi:aR0 (aa0 (aw0 φLen (aa0 (eFld C "changes" (bVar 0)) aNil)) aNil) [.sh (garT C p),.sh (.int soil),.sh (rowT stood)]=some (bb0 0 p.crops.length):=by
  simp_arith! [aR0,garT,bH0,List.length_map]
  rw [if_pos ⟨by omega,by omega⟩,Int.toNat_natCast]
 have e:=dh0 (n:=1) (bd:=ao0 0) (p:=qB (dx0 C "lets" (v3 C) (eVar 1) (aa0 (eVar 2) (aa0 (eVar 3) (aa0 (eVar 0) aNil))))) (f:=eVar 0) (P:=onN (cX0 p soil stood)) (G:=id) hi
  (by rw [bE0,List.length_map,List.length_range]; unfold big; omega) fun t ht=>by
   obtain⟨k,hk,rfl⟩:=cN0 ht
   have hc:p.crops[k]?=some p.crops[k]:=List.getElem?_eq_getElem hk
   have l:=ns0 C p soil stood k _ hc (hp.gaps _ (List.getElem_mem hk))
   refine⟨_,rfl,?_,fun _=>rfl⟩
   have n0:(bu0 p).lookup ("lets" :Str)=none:=rfl
   have hq:onN (cX0 p soil stood) (intT k)=cX0 p soil stood k:=by
    show cX0 p soil stood ((k:Int)).toNat=_
    rw [Int.toNat_natCast]
   unfold garT at l
   simp_arith! [List.replicate_one,List.singleton_append,dx0,garT,n0,and_self,l,hq]
 unfold sRet
 rw [e,dC0]
 rfl
theorem oD0 (C:Addr)(p:Plot)(hp:Fine p)(soil:Int)(stood:List Nat)(hs:∀s∈stood,s<p.crops.length)(hsl:stood.length<=1000)(rows:T)(state:T):
  aX0 1 (aR0 (aa0 (aw0 φLen (aa0 (e2 φIx (bVar 0) (eC (.int 2))) aNil)) aNil)) (ao0 0) (qB (eFn (X1 C) (aa0 (eVar 1) (aa0 (eVar 4) (aa0 (eVar 0) aNil))))) (eVar 0) [.sh (aK0 p),.sh state,.sh rows,.sh (bedT (soil,stood))]=some (.lst ((cB0 p soil stood).map intT)):=by
 have hf:=hp.few
 have a1:φIx (aK0 p) (.int 2)=some (.lst (p.crops.map al0)):=aE0 _ 2 _ rfl
 have hi:aR0 (aa0 (aw0 φLen (aa0 (e2 φIx (bVar 0) (eC (.int 2))) aNil)) aNil) [.sh (aK0 p),.sh state,.sh rows,.sh (bedT (soil,stood))]=some (bb0 0 p.crops.length):=by
  simp_arith! [aR0,a1,List.length_map]
  rw [if_pos ⟨by omega,by omega⟩,Int.toNat_natCast]
 have e:=dh0 (n:=1) (bd:=ao0 0) (p:=qB (eFn (X1 C) (aa0 (eVar 1) (aa0 (eVar 4) (aa0 (eVar 0) aNil))))) (f:=eVar 0) (P:=onN (cX0 p soil stood)) (G:=id) hi
  (by rw [bE0,List.length_map,List.length_range]; unfold big; omega) fun t ht=>by
   obtain⟨k,hk,rfl⟩:=cN0 ht
   have hc:p.crops[k]?=some p.crops[k]:=List.getElem?_eq_getElem hk
   have l:=iC0 C p hp.toNamed soil stood hs k _ hc (hp.gaps _ (List.getElem_mem hk)) hsl
   refine⟨_,rfl,?_,fun _=>rfl⟩
   have hq:onN (cX0 p soil stood) (intT k)=cX0 p soil stood k:=by
    show cX0 p soil stood ((k:Int)).toNat=_
    rw [Int.toNat_natCast]
   simp_arith! [List.replicate_one,List.singleton_append,l,hq]
 rw [e,dC0]
 rfl
def bZ0 (rows:List (List Nat))(cs:List Nat):List (List Nat):=rows.flatMap fun r=>cs.map fun c=>r++ [c]
theorem eT0 (rows:List (List Nat))(r:List Nat)(cs:List Nat):bZ0 (rows++ [r]) cs=bZ0 rows cs++cs.map fun c=>r++ [c]:=by
 unfold bZ0
 rw [List.flatMap_append]
 simp
theorem di0 (cs:List Nat):∀(rows:List (List Nat)),(bZ0 rows cs).length=rows.length*cs.length
 | []=>by simp [bZ0]
 |r::rows=>by
  have ih:=di0 cs rows
  unfold bZ0 at ih ⊢
  rw [List.flatMap_cons,List.length_append,ih,List.length_map,List.length_cons,Nat.succ_mul,Nat.add_comm]
theorem iV0 (r:List Nat)(c:Nat)(h:r.length<=1000):cx0 (rowT r) (.tup [intT c])=some (rowT (r++ [c])):=by
 show (if(r.map intT).length+1<=big then some (T.tup (r.map intT++ [intT c])) else none)=_
 rw [if_pos (by rw [List.length_map]; unfold big; omega)]
 unfold rowT
 rw [List.map_append]
 rfl
theorem nF0 (C:Addr)(rows:List (List Nat))(cs:List Nat)(hr:∀r∈rows,r.length<=1000)(hb:rows.length*cs.length<=10000)(hcs:cs.length<=1000):
  Z3 C [.lst (rows.map rowT),.lst (cs.map intT)]=some (true,.lst ((bZ0 rows cs).map rowT)):=by
 unfold Z3 qd0
 refine(aI0 (ε:=[.sh (.lst (rows.map rowT)),.sh (.lst (cs.map intT)),.un,.un]) rfl rfl).trans ?_
 obtain⟨ε',l1,z,l2⟩:=bh0 (bd:=ao0 3) (body:=sExt 2 (aX0 1 (iLst (eVar 1)) (ao0 0) bn0 (e2 cx0 (bVar 4) (eTup (aa0 (eVar 0) aNil)))))
  (fun k ε=>∃z,ε=[.sh (.lst (rows.map rowT)),.sh (.lst (cs.map intT)),.ow (.lst ((bZ0 (rows.take k) cs).map rowT)),z]) (rows.map rowT) 0 [.sh (.lst (rows.map rowT)),.sh (.lst (cs.map intT)),.ow (.lst []),.un] ⟨_,rfl⟩ fun i t ε ht ⟨z,he⟩=>by
   subst he
   rw [Nat.zero_add] at*
   rw [List.getElem?_map] at ht
   cases hr0:rows[i]? with
   |none=>rw [hr0] at ht; cases ht
   |some r=>
    rw [hr0] at ht
    cases ht
    have hrl:=hr r (List.mem_of_getElem? hr0)
    have hil:i<rows.length:=(List.getElem?_eq_some_iff.mp hr0).1
    have e:=bf0 (n:=1) (it:=iLst (eVar 1)) (bd:=ao0 0) (f:=e2 cx0 (bVar 4) (eTup (aa0 (eVar 0) aNil))) (G:=fun t=>match t with| .int c=>rowT (r++ [c.toNat])|_=> .non) (ε:=[.sh (.lst (rows.map rowT)),.sh (.lst (cs.map intT)),.ow (.lst ((bZ0 (rows.take i) cs).map rowT)),.sh (rowT r)]) (ts:=cs.map intT) rfl
     (by rw [List.length_map]; unfold big; omega) fun t ht=>by
      obtain⟨c,hc,rfl⟩:=List.mem_map.mp ht
      refine⟨_,rfl,?_⟩
      have b0:(if [intT c].length<=big then some (T.tup [intT c]) else none)=some (T.tup [intT c]):=rfl
      simp_arith! [List.replicate_one,List.singleton_append,b0,iV0 r c hrl,Int.toNat_natCast]
    have ee:(cs.map intT).map (fun t=>match t with|T.int c=>rowT (r++ [c.toNat])|_=>T.non)=(cs.map fun c=>r++ [c]).map rowT:=by
     rw [List.map_map,List.map_map]
     apply List.map_congr_left
     intro c _
     show rowT (r++ [((c:Int)).toNat])=rowT (r++ [c])
     rw [Int.toNat_natCast]
    rw [ee] at e
    refine⟨_,_,rfl,.inl ?_,⟨.sh (rowT r),rfl⟩⟩
    have et:rows.take (i+1)=rows.take i++ [r]:=by rw [List.take_add_one,hr0]; rfl
    have hlen:((bZ0 (rows.take i) cs).map rowT).length+((cs.map fun c=>r++ [c]).map rowT).length<=big:=by
     rw [List.length_map,List.length_map,List.length_map,di0,List.length_take]
     have:min i rows.length*cs.length<=rows.length*cs.length:=Nat.mul_le_mul_right _ (Nat.min_le_right ..)
     unfold big
     omega
    show sExt 2 _ [.sh (.lst (rows.map rowT)),.sh (.lst (cs.map intT)),.ow (.lst ((bZ0 (rows.take i) cs).map rowT)),.sh (rowT r)]=_
    unfold sExt
    simp only [List.getElem?_cons_zero,List.getElem?_cons_succ,e,Option.bind_some]
    rw [if_pos hlen,et,eT0,List.map_append]
    rfl
 have b0:(if([]:List T).length<=big then some (T.lst []) else none)=some (T.lst []):=rfl
 simp_arith! [b0,sFor]
 subst l2
 rw [l1,Nat.zero_add,List.length_map,List.take_length]
 rfl
theorem ku0 (C:Addr)(rows:List (List Nat))(cs:List Nat)(hr:∀r∈rows,r.length<=1000)(hb:rows.length*cs.length<=10000)(hcs:cs.length<=1000):
  W3 C [.lst (rows.map rowT),.lst (cs.map intT)]=some (true,.lst ((bZ0 rows cs).map rowT)):=by
 unfold W3 Xd0
 refine(aI0 (ε:=[.sh (.lst (rows.map rowT)),.sh (.lst (cs.map intT)),.un,.un,.un]) rfl rfl).trans ?_
 obtain⟨ε',l1,y,z,l2⟩:=bh0 (bd:=ao0 3) (body:=sFor (iLst (eVar 1)) (ao0 4) (sApp 2 (e2 cx0 (bVar 3) (eTup (aa0 (eVar 4) aNil)))))
  (fun k ε=>∃y z,ε=[.sh (.lst (rows.map rowT)),.sh (.lst (cs.map intT)),.ow (.lst ((bZ0 (rows.take k) cs).map rowT)),y,z]) (rows.map rowT) 0 [.sh (.lst (rows.map rowT)),.sh (.lst (cs.map intT)),.ow (.lst []),.un,.un] ⟨_,_,rfl⟩ fun i t ε ht ⟨y,z,he⟩=>by
   subst he
   rw [Nat.zero_add] at*
   rw [List.getElem?_map] at ht
   cases hr0:rows[i]? with
   |none=>rw [hr0] at ht; cases ht
   |some r=>
    rw [hr0] at ht
    cases ht
    have hrl:=hr r (List.mem_of_getElem? hr0)
    have hil:i<rows.length:=(List.getElem?_eq_some_iff.mp hr0).1
    have hlen:(bZ0 (rows.take i) cs).length+cs.length<=20000:=by
     rw [di0,List.length_take]
     have:min i rows.length*cs.length<=rows.length*cs.length:=Nat.mul_le_mul_right _ (Nat.min_le_right ..)
     omega
    obtain⟨ε1,k1,z1,k2⟩:=bh0 (bd:=ao0 4) (body:=sApp 2 (e2 cx0 (bVar 3) (eTup (aa0 (eVar 4) aNil))))
     (fun k ε=>∃z,ε=[.sh (.lst (rows.map rowT)),.sh (.lst (cs.map intT)),.ow (.lst ((bZ0 (rows.take i) cs++(cs.take k).map fun c=>r++ [c]).map rowT)),.sh (rowT r),z]) (cs.map intT) 0
     [.sh (.lst (rows.map rowT)),.sh (.lst (cs.map intT)),.ow (.lst ((bZ0 (rows.take i) cs).map rowT)),.sh (rowT r),z] ⟨z,by rw [List.take_zero,List.map_nil,List.append_nil]⟩ fun j t ε ht ⟨w,he⟩=>by
      subst he
      rw [Nat.zero_add] at*
      rw [List.getElem?_map] at ht
      cases hc0:cs[j]? with
      |none=>rw [hc0] at ht; cases ht
      |some c=>
       rw [hc0] at ht
       cases ht
       have hjl:j<cs.length:=(List.getElem?_eq_some_iff.mp hc0).1
       refine⟨_,_,rfl,.inl ?_,⟨.sh (intT c),rfl⟩⟩
       have et:cs.take (j+1)=cs.take j++ [c]:=by rw [List.take_add_one,hc0]; rfl
       have b0:(if [intT c].length<=big then some (T.tup [intT c]) else none)=some (T.tup [intT c]):=rfl
       have hl2:((bZ0 (rows.take i) cs++(cs.take j).map fun c=>r++ [c]).map rowT).length<big:=by
        rw [List.length_map,List.length_append,List.length_map,List.length_take]
        unfold big
        omega
       show sApp 2 _ [.sh (.lst (rows.map rowT)),.sh (.lst (cs.map intT)),.ow (.lst ((bZ0 (rows.take i) cs++(cs.take j).map fun c=>r++ [c]).map rowT)),.sh (rowT r),.sh (intT c)]=_
       unfold sApp
       simp_arith! [b0,iV0 r c hrl]
       rw [if_pos hl2,et,List.map_append,List.map_append,List.map_append,List.map_append,List.append_assoc]
       rfl
    subst k2
    refine⟨_,_,rfl,.inl ?_,⟨.sh (rowT r),z1,rfl⟩⟩
    have et:rows.take (i+1)=rows.take i++ [r]:=by rw [List.take_add_one,hr0]; rfl
    show sFor _ _ _ [.sh (.lst (rows.map rowT)),.sh (.lst (cs.map intT)),.ow (.lst ((bZ0 (rows.take i) cs).map rowT)),.sh (rowT r),z]=_
    unfold sFor
    simp_arith! [eq_self]
    rw [k1,Nat.zero_add,List.length_map,List.take_length,et,eT0]
 have b0:(if([]:List T).length<=big then some (T.lst []) else none)=some (T.lst []):=rfl
 simp_arith! [b0,sFor]
 subst l2
 rw [l1,Nat.zero_add,List.length_map,List.take_length]
 rfl
def bM0 (p:Plot)(row:List Nat):Bool:=p.wants.all fun x=>decide (x.2.1<=(row.count (num p x.1):Int)) && decide ((row.count (num p x.1):Int)<=x.2.2)
theorem kx0 (xs:List Nat)(i:Nat):cZ0 (rowT xs) [intT i]=some (.int (xs.count i:Int)):=by
 show (if aV0 (intT i) && (xs.map intT).all aV0 then _ else _)=_
 rw [hD0,if_pos (show (aV0 (intT i) && true)=true from rfl)]
 congr 3
 induction xs with
 |nil=>rfl
 |cons x xs ih=>
  rw [List.map_cons,List.countP_cons,ih,List.count_cons]
  congr 1
  show (if((x:Int)==(i:Int))=true then 1 else 0)=_
  by_cases h:x=i
  ·subst h; simp
  ·have h1:((x:Int)==(i:Int))=false:=by simp; omega
   have h2:(x==i)=false:=by simpa using h
   rw [h1,h2]
def Pw (row:List Nat):T->Bool
 | .tup [.int n,.int a,.int b]=> !(decide (a<=(row.count n.toNat:Int)) && decide ((row.count n.toNat:Int)<=b))
 |_=>false
theorem mi0 (C:Addr)(p:Plot)(row:List Nat):x3 C [garT C p,rowT row]=some (false,.bl (bM0 p row)):=by
 unfold x3 Xc0
 refine(aI0 (ε:=[.sh (garT C p),.sh (rowT row),.un,.un,.un]) rfl rfl).trans ?_
 obtain⟨lt,lf⟩:=dO0 (o:=false) (r:=.bl false) (bd:=hB0 2 3 4) (body:=sIf (qNot (qB (cR0 φLe φLe (bVar 3) (eBM cZ0 (bVar 1) (aa0 (bVar 2) aNil)) (bVar 4)))) (sRet false (eC (.bl false))) sNx)
  (fun ε=>∃x y z,ε=[.sh (garT C p),.sh (rowT row),x,y,z]) (Pw row) (p.wants.map fun x=> .tup [intT (num p x.1),.int x.2.1,.int x.2.2]) [.sh (garT C p),.sh (rowT row),.un,.un,.un] ⟨_,_,_,rfl⟩ fun t ε ht ⟨x,y,z,he⟩=>by
   subst he
   obtain⟨w,hw,rfl⟩:=List.mem_map.mp ht
   have b1:=kx0 row (num p w.1)
   have b2:Pw row (.tup [intT (num p w.1),.int w.2.1,.int w.2.2])= !(decide (w.2.1<=(row.count (num p w.1):Int)) && decide ((row.count (num p w.1):Int)<=w.2.2)):=by
    show (!(decide (w.2.1<=(row.count ((num p w.1:Nat):Int).toNat:Int)) && decide ((row.count ((num p w.1:Nat):Int).toNat:Int)<=w.2.2)))=_
    rw [Int.toNat_natCast]
   refine⟨_,rfl,fun q=> ?_,fun q=> ?_⟩
   ·rw [b2] at q
    simp_arith! [cR0,b1]
    by_cases h1:w.2.1<=(row.count (num p w.1):Int)
    ·simp only [h1,sSeq,sIf,sNx,sSet,cz0,sRet,eB0,aT0,qB,qNot,qAnd,qOr,e1,e2,bVar,eVar,eC,eFld,aw0,eTup,eLst,aa0,aNil,eOr,eSlT,eSlL,ba0,eBM,iLst,iTpl,List.getElem?_cons_zero,List.getElem?_cons_succ,Option.bind_some,Option.map_some,if_true,if_false,decide_true,decide_false,Bool.false_eq_true,cv0,φAdd,φSub,φLt,φLe,φGt,φGe,φLen,Bool.true_and,Bool.false_and,Bool.and_true,Bool.and_false,Bool.not_true,Bool.not_false,eq_self,List.set_cons_zero,List.set_cons_succ,noD,eFn,eFnF,isI] at q ⊢
     simp only [Bool.not_eq_true',decide_eq_false_iff_not] at q
     simp_arith! [q]
    ·simp_arith! [h1]
   ·rw [b2] at q
    simp_arith! [cR0,b1]
    by_cases h1:w.2.1<=(row.count (num p w.1):Int)
    ·simp only [h1,sSeq,sIf,sNx,sSet,cz0,sRet,eB0,aT0,qB,qNot,qAnd,qOr,e1,e2,bVar,eVar,eC,eFld,aw0,eTup,eLst,aa0,aNil,eOr,eSlT,eSlL,ba0,eBM,iLst,iTpl,List.getElem?_cons_zero,List.getElem?_cons_succ,Option.bind_some,Option.map_some,if_true,if_false,decide_true,decide_false,Bool.false_eq_true,cv0,φAdd,φSub,φLt,φLe,φGt,φGe,φLen,Bool.true_and,Bool.false_and,Bool.and_true,Bool.and_false,Bool.not_true,Bool.not_false,eq_self,List.set_cons_zero,List.set_cons_succ,noD,eFn,eFnF,isI] at q ⊢
     simp only [Bool.not_eq_false',decide_eq_true_iff] at q
     simp_arith! [q]
     exact⟨_,rfl,_,_,_,rfl⟩
    ·simp only [h1,sSeq,sIf,sNx,sSet,cz0,sRet,eB0,aT0,qB,qNot,qAnd,qOr,e1,e2,bVar,eVar,eC,eFld,aw0,eTup,eLst,aa0,aNil,eOr,eSlT,eSlL,ba0,eBM,iLst,iTpl,List.getElem?_cons_zero,List.getElem?_cons_succ,Option.bind_some,Option.map_some,if_true,if_false,decide_true,decide_false,Bool.false_eq_true,cv0,φAdd,φSub,φLt,φLe,φGt,φGe,φLen,Bool.true_and,Bool.false_and,Bool.and_true,Bool.and_false,Bool.not_true,Bool.not_false,eq_self,List.set_cons_zero,List.set_cons_succ,noD,eFn,eFnF,isI] at q
     cases q
 have ha:(p.wants.map fun x=>T.tup [intT (num p x.1),.int x.2.1,.int x.2.2]).any (Pw row)= !bM0 p row:=by
  unfold bM0
  rw [List.any_map,List.not_all_eq_any_not]
  congr 1
 rw [ha] at lt lf
 have hw:iTpl (eFld C "wants" (bVar 0)) [.sh (garT C p),.sh (rowT row),.un,.un,.un]=some (p.wants.map fun x=>T.tup [intT (num p x.1),.int x.2.1,.int x.2.2]):=by
  simp_arith! [garT,nH0]
 cases hq:bM0 p row with
 |false=>
  have:=lt (by rw [hq]; rfl)
  unfold sSeq sFor
  rw [hw,Option.bind_some,this]
  rfl
 |true=>
  obtain⟨ε',k1,x,y,z,k2⟩:=lf (by rw [hq]; rfl)
  unfold sSeq sFor
  rw [hw,Option.bind_some,k1]
  rfl
structure Good (p:Plot):Prop extends Fine p where
 keys:(p.wants.map (·.1)).Nodup
theorem eS0:∀(ws:List (Str × Int × Int)),(ws.map (·.1)).Nodup->∀x∈ws,(ws.map fun x=>(x.1,T.tup [.int x.2.1,.int x.2.2])).lookup x.1=some (.tup [.int x.2.1,.int x.2.2])
 | [],_,x,hx=>nomatch hx
 |w::ws,nd,x,hx=>by
  rw [List.map_cons,List.nodup_cons] at nd
  rw [List.map_cons,List.lookup_cons]
  rcases List.mem_cons.mp hx with rfl|hx
  ·simp
  ·have hne:(x.1==w.1)=false:=by
    rw [beq_eq_false_iff_ne]
    intro z
    exact nd.1 (z▸List.mem_map_of_mem hx)
   rw [hne]
   exact eS0 ws nd.2 x hx
theorem gI0 {p:Plot}(hp:Named p)(row:List Nat)(hrow:∀r∈row,r<p.crops.length)(k:Str)(hk:k∈p.names):
  de0 (.lst (row.map fun r=> .str (p.names.getD r k))) [.str k]=some (.int (row.count (num p k):Int)):=by
 have fl:(row.map fun r=>T.str (p.names.getD r k)).all aV0=true:=by
  rw [List.all_map]
  exact List.all_eq_true.mpr fun _ _=>rfl
 show (if aV0 (.str k) && (row.map fun r=>T.str (p.names.getD r k)).all aV0 then _ else _)=_
 rw [fl,if_pos (show (aV0 (.str k) && true)=true from rfl)]
 congr 3
 rw [List.countP_map]
 unfold List.count
 apply List.countP_congr
 intro r hr
 have hl:=hrow r hr
 have hl':r<p.names.length:=by simpa using hl
 have hc:p.crops[r]?=some p.crops[r]:=List.getElem?_eq_getElem hl
 have hn:=hI0 hp hc
 have hg:p.names.getD r k=p.crops[r].name:=by
  rw [List.getD_eq_getElem?_getD,List.getElem?_map,hc]
  rfl
 show (p.names.getD r k==k)=true↔(r==num p k)=true
 rw [hg,beq_iff_eq,beq_iff_eq]
 constructor
 ·intro z; rw [<- z]; exact hn.symm
 ·intro z
  have hl2:p.names.idxOf k<p.names.length:=List.idxOf_lt_length_of_mem hk
  have:p.names[p.names.idxOf k]=k:=List.getElem_idxOf hl2
  have e2:p.names[r]'hl'=k:=by
   have:r=p.names.idxOf k:=z
   subst this
   exact List.getElem_idxOf hl2
  rw [<- e2]
  simp
def onS (p:Plot):T->T
 | .int k=>match p.crops[k.toNat]? with|some c=> .str c.name|none=> .non
 |_=> .non
theorem nf0 {p:Plot}{r:Nat}{c:Crop}(h:p.crops[r]?=some c):onS p (intT r)=.str c.name:=by
 show (match p.crops[((r:Int)).toNat]? with|some c=>T.str c.name|none=> .non)=_
 rw [Int.toNat_natCast,h]
def Pv (p:Plot)(row:List Nat):T->Bool
 | .str k=>match p.wants.lookup k with|some ab=>decide ((row.count (num p k):Int)<ab.1)||decide ((row.count (num p k):Int)>ab.2)|none=>false
 |_=>false
theorem jJ0:∀(ws:List (Str × Int × Int)),(ws.map (·.1)).Nodup->∀x∈ws,ws.lookup x.1=some x.2
 | [],_,x,hx=>nomatch hx
 |w::ws,nd,x,hx=>by
  rw [List.map_cons,List.nodup_cons] at nd
  rw [List.lookup_cons]
  rcases List.mem_cons.mp hx with rfl|hx
  ·simp
  ·have hne:(x.1==w.1)=false:=by
    rw [beq_eq_false_iff_ne]
    intro z
    exact nd.1 (z▸List.mem_map_of_mem hx)
   rw [hne]
   exact jJ0 ws nd.2 x hx
theorem kG0 (C:Addr)(p:Plot)(hp:Good p)(row:List Nat)(hrow:∀r∈row,r<p.crops.length)(hl:row.length<=1000):V3 C [aK0 p,rowT row]=some (false,.bl (bM0 p row)):=by
 unfold V3 qe0
 refine(aI0 (ε:=[.sh (aK0 p),.sh (rowT row),.un,.un]) rfl rfl).trans ?_
 have a1:φIx (aK0 p) (.int 2)=some (.lst (p.crops.map al0)):=aE0 _ 2 _ rfl
 have a2:φIx (aK0 p) (.int 3)=some (at0 p.wants):=aE0 _ 3 _ rfl
 have en:=bf0 (n:=1) (it:=iTpl (eVar 1)) (bd:=ao0 0) (f:=e2 φIx (e2 φIx (e2 φIx (bVar 1) (eC (.int 2))) (bVar 0)) (eC (.int 0))) (G:=onS p) (ε:=[.sh (aK0 p),.sh (rowT row),.un,.un]) (ts:=row.map intT) rfl
  (by rw [List.length_map]; unfold big; omega) fun t ht=>by
   obtain⟨r,hr,rfl⟩:=List.mem_map.mp ht
   have hrr:=hrow r hr
   have hc:p.crops[r]?=some p.crops[r]:=List.getElem?_eq_getElem hrr
   have b1:φIx (.lst (p.crops.map al0)) (intT r)=some (al0 p.crops[r]):=hG0 al0 _ _ _ hc
   have b2:φIx (al0 p.crops[r]) (.int 0)=some (.str p.crops[r].name):=aE0 _ 0 _ rfl
   refine⟨_,rfl,?_⟩
   simp_arith! [List.replicate_one,List.singleton_append,a1,b1,b2,nf0 hc]
 obtain⟨lt,lf⟩:=dO0 (o:=false) (r:=.bl false) (bd:=ao0 3) (body:=sIf (qOr (qB (e2 φLt (eBM de0 (bVar 2) (aa0 (bVar 3) aNil)) (e2 φIx (e2 gv0 (e2 φIx (bVar 0) (eC (.int 3))) (bVar 3)) (eC (.int 0))))) (qB (e2 φGt (eBM de0 (bVar 2) (aa0 (bVar 3) aNil)) (e2 φIx (e2 gv0 (e2 φIx (bVar 0) (eC (.int 3))) (bVar 3)) (eC (.int 1)))))) (sRet false (eC (.bl false))) sNx)
  (fun ε=>∃z,ε=[.sh (aK0 p),.sh (rowT row),.sh (.lst ((row.map intT).map (onS p))),z]) (Pv p row) (p.wants.map fun x=> .str x.1) [.sh (aK0 p),.sh (rowT row),.sh (.lst ((row.map intT).map (onS p))),.un] ⟨_,rfl⟩ fun t ε ht ⟨z,he⟩=>by
   subst he
   obtain⟨w,hw,rfl⟩:=List.mem_map.mp ht
   have hk:=hp.wants w hw
   have e0:(row.map intT).map (onS p)=row.map fun r=> .str (p.names.getD r w.1):=by
    rw [List.map_map]
    apply List.map_congr_left
    intro r hr
    have hrr:=hrow r hr
    have hc:p.crops[r]?=some p.crops[r]:=List.getElem?_eq_getElem hrr
    show onS p (intT r)=_
    rw [nf0 hc,List.getD_eq_getElem?_getD,List.getElem?_map,hc]
    rfl
   have b1:=gI0 hp.toNamed row hrow w.1 hk
   rw [<- e0] at b1
   have b2:gv0 (at0 p.wants) (.str w.1)=some (.tup [.int w.2.1,.int w.2.2]):=eS0 p.wants hp.keys w hw
   have b3:φIx (.tup [.int w.2.1,.int w.2.2]) (.int 0)=some (.int w.2.1):=aE0 _ 0 _ rfl
   have b4:φIx (.tup [.int w.2.1,.int w.2.2]) (.int 1)=some (.int w.2.2):=aE0 _ 1 _ rfl
   have b5:Pv p row (.str w.1)=(decide ((row.count (num p w.1):Int)<w.2.1)||decide ((row.count (num p w.1):Int)>w.2.2)):=by
    show (match p.wants.lookup w.1 with|some ab=>_|none=>false)=_
    rw [jJ0 p.wants hp.keys w hw]
   rw [b5]
   refine⟨_,rfl,fun q=> ?_,fun q=> ?_⟩
   ·simp_arith! [a2,b1,b2,b3,b4]
    by_cases h1:(row.count (num p w.1):Int)<w.2.1
    ·simp_arith! [h1]
    ·simp only [h1,sSeq,sIf,sNx,sSet,cz0,sRet,eB0,aT0,qB,qNot,qAnd,qOr,e1,e2,bVar,eVar,eC,eFld,aw0,eTup,eLst,aa0,aNil,eOr,eSlT,eSlL,ba0,eBM,iLst,iTpl,List.getElem?_cons_zero,List.getElem?_cons_succ,Option.bind_some,Option.map_some,if_true,if_false,decide_true,decide_false,Bool.false_eq_true,cv0,φAdd,φSub,φLt,φLe,φGt,φGe,φLen,Bool.true_and,Bool.false_and,Bool.and_true,Bool.and_false,Bool.not_true,Bool.not_false,eq_self,List.set_cons_zero,List.set_cons_succ,noD,eFn,eFnF,isI,Bool.false_or,decide_eq_true_iff] at q ⊢
     simp only [gt_iff_lt] at q
     simp_arith! [q]
   ·simp_arith! [a2,b1,b2,b3,b4]
    simp only [Bool.or_eq_false_iff,decide_eq_false_iff_not,gt_iff_lt] at q
    simp_arith! [q.1,q.2]
    exact⟨_,rfl,_,rfl⟩
 have ha:(p.wants.map fun x=>T.str x.1).any (Pv p row)= !bM0 p row:=by
  unfold bM0
  rw [List.any_map,List.not_all_eq_any_not]
  rw [Bool.eq_iff_iff,List.any_eq_true,List.any_eq_true]
  have key:∀x∈p.wants,Pv p row (.str x.1)= !(decide (x.2.1<=(row.count (num p x.1):Int)) && decide ((row.count (num p x.1):Int)<=x.2.2)):=fun x hx=>by
   show (match p.wants.lookup x.1 with|some ab=>_|none=>false)=_
   rw [jJ0 p.wants hp.keys x hx]
   show (decide ((row.count (num p x.1):Int)<x.2.1)||decide ((row.count (num p x.1):Int)>x.2.2))=_
   rw [Bool.not_and,<- decide_not,<- decide_not]
   congr 1<;>rw [decide_eq_decide]<;>omega
  constructor
  ·rintro⟨x,hx,h⟩; exact⟨x,hx,(key x hx).symm.trans h⟩
  ·rintro⟨x,hx,h⟩; exact⟨x,hx,(key x hx).trans h⟩
 rw [ha] at lt lf
 have hw:iKey (e2 φIx (bVar 0) (eC (.int 3))) [.sh (aK0 p),.sh (rowT row),.sh (.lst ((row.map intT).map (onS p))),.un]=some (p.wants.map fun x=>T.str x.1):=by
  simp_arith! [iKey,a2,at0,List.map_map]
  rfl
 unfold sSeq sSet
 rw [en]
 simp only [Option.map_some,Option.bind_some,List.set_cons_succ,List.set_cons_zero]
 unfold sFor
 rw [hw,Option.bind_some]
 cases hq:bM0 p row with
 |false=>
  rw [lt (by rw [hq]; rfl)]
  rfl
 |true=>
  obtain⟨ε',k1,z,k2⟩:=lf (by rw [hq]; rfl)
  rw [k1]
  rfl
abbrev Stt:=List (Int × List Nat)
def cp0 (p:Plot)(s:Stt):List (List Nat):=s.foldl (fun rows b=>bZ0 rows (cB0 p b.1 b.2)) [[]]
theorem cM0 (p:Plot)(s:Stt)(b:Int × List Nat):cp0 p (s++ [b])=bZ0 (cp0 p s) (cB0 p b.1 b.2):=by
 unfold cp0
 rw [List.foldl_append]
 rfl
def mayM (p:Plot)(s:Stt):List (List Nat):=(cp0 p s).filter (bM0 p)
theorem eu0 (p:Plot)(a:Int)(b:List Nat):(cB0 p a b).length<=p.crops.length:=by
 unfold cB0
 exact Nat.le_trans (List.length_filter_le ..) (by rw [List.length_range]; exact Nat.le_refl _)
theorem lV0 {p:Plot}{a:Int}{b:List Nat}{c:Nat}(h:c∈cB0 p a b):c<p.crops.length:=List.mem_range.mp (List.mem_filter.mp h).1
theorem dj0 (p:Plot)(h:p.crops.length<=5):∀(n:Nat) (s:Stt),s.length=n->(cp0 p s).length<=5^n/\∀r∈cp0 p s,r.length=n/\∀c∈r,c<p.crops.length:=by
 intro n
 induction n with
 |zero=>
  intro s hs
  obtain rfl:=List.eq_nil_of_length_eq_zero hs
  refine⟨Nat.le_refl _,fun r hr=> ?_⟩
  obtain rfl:r=[]:=List.mem_singleton.mp hr
  exact⟨rfl,fun c hc=>nomatch hc⟩
 |succ n ih=>
  intro s hs
  have hne:s≠ []:=fun z=>by rw [z] at hs; cases hs
  obtain⟨s',b,rfl⟩:∃s' b,s=s'++ [b]:=⟨s.dropLast,s.getLast hne,(List.dropLast_concat_getLast hne).symm⟩
  rw [List.length_append,List.length_singleton] at hs
  obtain⟨h1,h2⟩:=ih s' (by omega)
  rw [cM0]
  refine⟨?_,fun r hr=> ?_⟩
  ·rw [di0,Nat.pow_succ]
   exact Nat.mul_le_mul h1 (Nat.le_trans (eu0 ..) h)
  ·obtain⟨q,hq,hr⟩:=List.mem_flatMap.mp hr
   obtain⟨c,hc,rfl⟩:=List.mem_map.mp hr
   obtain⟨h3,h4⟩:=h2 q hq
   refine⟨by rw [List.length_append,h3]; rfl,fun d hd=> ?_⟩
   rcases List.mem_append.mp hd with hd|hd
   ·exact h4 d hd
   ·rw [List.mem_singleton.mp hd]; exact lV0 hc
def iu0 (ts:List T):List Nat:=ts.map fun t=>match t with| .int k=>k.toNat|_=>0
theorem fK0 (xs:List Nat):iu0 (xs.map intT)=xs:=by
 unfold iu0
 rw [List.map_map]
 have:((fun t=>match t with|T.int k=>k.toNat|_=>0)∘intT)=(id:Nat->Nat):=funext fun k=>Int.toNat_natCast k
 rw [this,List.map_id]
def onR (q:List Nat->Bool):T->Bool
 | .tup ts=>q (iu0 ts)
 |_=>false
theorem gy0 (q:List Nat->Bool)(xs:List Nat):onR q (rowT xs)=q xs:=by
 show q (iu0 (xs.map intT))=q xs
 rw [fK0]
theorem dX0 (q:List Nat->Bool)(rows:List (List Nat)):((rows.map rowT).filter (onR q)).map id=(rows.filter q).map rowT:=by
 rw [List.map_id,List.filter_map]
 congr 1
 exact List.filter_congr fun r _=>gy0 q r
theorem cE0 {n:Nat}(h:n<=3):5^n<=125:=by
 rcases n with _|_|_|_|n
 all_goals first|decide|omega
theorem oQ0 (C:Addr)(p:Plot)(hp:Good p)(s:Stt)(hs:s.length<=3):z9 C [garT C p,au0 s]=some (true,.lst ((mayM p s).map rowT)):=by
 unfold z9 kd0
 refine(aI0 (ε:=[.sh (garT C p),.sh (au0 s),.un,.un,.un]) rfl rfl).trans ?_
 have n0:(bu0 p).lookup ("crops_for" :Str)=none:=rfl
 have n1:(bu0 p).lookup ("meets_wants" :Str)=none:=rfl
 obtain⟨ε',l1,y,z,l2⟩:=bh0 (bd:=cf0 3 4) (body:=sSet 2 (eFnF (Z3 C) (aa0 (eVar 2) (aa0 (eI0 C "crops_for" (y3 C) (eVar 0) (aa0 (eVar 3) (aa0 (eVar 4) aNil))) aNil))))
  (fun k ε=>∃y z,ε=[.sh (garT C p),.sh (au0 s),.sh (.lst ((cp0 p (s.take k)).map rowT)),y,z]) (s.map bedT) 0 [.sh (garT C p),.sh (au0 s),.sh (.lst [.tup []]),.un,.un] ⟨_,_,rfl⟩ fun i t ε ht ⟨y,z,he⟩=>by
   subst he
   rw [Nat.zero_add] at*
   rw [List.getElem?_map] at ht
   cases hb:s[i]? with
   |none=>rw [hb] at ht; cases ht
   |some b=>
    rw [hb] at ht
    cases ht
    have hil:i<s.length:=(List.getElem?_eq_some_iff.mp hb).1
    have et:s.take (i+1)=s.take i++ [b]:=by rw [List.take_add_one,hb]; rfl
    obtain⟨h1,h2⟩:=dj0 p hp.few i (s.take i) (by rw [List.length_take]; omega)
    have hcl:=Nat.le_trans (eu0 p b.1 b.2) hp.few
    have hpw:=cE0 (n:=i) (by omega)
    have c1:=ma0 C p hp.toFine b.1 b.2
    have c2:=nF0 C (cp0 p (s.take i)) (cB0 p b.1 b.2) (fun r hr=>by have:=(h2 r hr).1; omega) (Nat.le_trans (Nat.mul_le_mul (Nat.le_trans h1 hpw) hcl) (by decide)) (by omega)
    unfold garT at c1
    refine⟨[.sh (garT C p),.sh (au0 s),.sh (.lst ((cp0 p (s.take i)).map rowT)),.sh (.int b.1),.sh (rowT b.2)],_,rfl,.inl ?_,⟨.sh (.int b.1),.sh (rowT b.2),rfl⟩⟩
    simp_arith! [eI0,garT,n0,and_self,c1,c2,et,cM0]
 have b0:(if([]:List T).length<=big then some (T.tup []) else none)=some (T.tup []):=rfl
 have b1:(if([T.tup []]:List T).length<=big then some (T.lst [T.tup []]) else none)=some (T.lst [T.tup []]):=rfl
 subst l2
 rw [Nat.zero_add,List.length_map,List.take_length] at l1
 obtain⟨h1,h2⟩:=dj0 p hp.few s.length s rfl
 have e:=dh0 (n:=1) (it:=iLst (eVar 2)) (bd:=ao0 0) (p:=qB (dx0 C "meets_wants" (x3 C) (eVar 1) (aa0 (eVar 0) aNil))) (f:=eVar 0) (P:=onR (bM0 p)) (G:=id) (ε:=[.sh (garT C p),.sh (au0 s),.sh (.lst ((cp0 p s).map rowT)),y,z]) (ts:=(cp0 p s).map rowT) rfl
  (by rw [List.length_map]; have:=cE0 hs; unfold big; omega) fun t ht=>by
   obtain⟨r,hr,rfl⟩:=List.mem_map.mp ht
   have m:=mi0 C p r
   refine⟨_,rfl,?_,fun _=>rfl⟩
   unfold garT at m
   simp_arith! [List.replicate_one,List.singleton_append,dx0,garT,n1,and_self,m,gy0]
 rw [dX0] at e
 simp only [sSeq,sSet,eLst,aa0,eTup,aNil,Option.bind_some,b0,b1,Option.map_some,List.set_cons_succ,List.set_cons_zero,sFor,iTpl,eVar,List.getElem?_cons_zero,List.getElem?_cons_succ,au0]
 unfold au0 at l1
 rw [l1]
 simp only [Option.bind_some,sRet]
 unfold au0 at e
 rw [e]
 rfl
theorem nr0 {gs:List T->Option (Bool × T)}{E:En->Option T}{ε:En}{r t u:T}{i j:Nat}(h1:eVar j ε=some r)(hE:E ε=some t)(hg:gs [r,t]=some (true,u)):sSet i (eFnF gs (aa0 (eVar j) (aa0 E aNil))) ε=some (.nx (ε.set i (.sh u))):=by
 unfold sSet eFnF aa0 aNil
 simp only [h1,hE,hg,Option.bind_some,Option.map_some]
theorem kM0 (C:Addr)(p:Plot)(hp:Good p)(s:Stt)(hs:s.length<=3)(hst:∀b∈s,b.2.length<=1000/\∀c∈b.2,c<p.crops.length):J9 C [aK0 p,au0 s]=some (true,.lst ((mayM p s).map rowT)):=by
 unfold J9 je0
 refine(aI0 (ε:=[.sh (aK0 p),.sh (au0 s),.un,.un]) rfl rfl).trans ?_
 obtain⟨ε',l1,z,l2⟩:=bh0 (bd:=ao0 3) (body:=sSet 2 (eFnF (W3 C) (aa0 (eVar 2) (aa0 (aX0 1 (aR0 (aa0 (aw0 φLen (aa0 (e2 φIx (bVar 0) (eC (.int 2))) aNil)) aNil)) (ao0 0) (qB (eFn (X1 C) (aa0 (eVar 1) (aa0 (eVar 4) (aa0 (eVar 0) aNil))))) (eVar 0)) aNil))))
  (fun k ε=>∃z,ε=[.sh (aK0 p),.sh (au0 s),.sh (.lst ((cp0 p (s.take k)).map rowT)),z]) (s.map bedT) 0 [.sh (aK0 p),.sh (au0 s),.sh (.lst [.tup []]),.un] ⟨_,rfl⟩ fun i t ε ht ⟨z,he⟩=>by
   subst he
   rw [Nat.zero_add] at*
   rw [List.getElem?_map] at ht
   cases hb:s[i]? with
   |none=>rw [hb] at ht; cases ht
   |some b=>
    rw [hb] at ht
    cases ht
    have hil:i<s.length:=(List.getElem?_eq_some_iff.mp hb).1
    obtain⟨hb1,hb2⟩:=hst b (List.mem_of_getElem? hb)
    have et:s.take (i+1)=s.take i++ [b]:=by rw [List.take_add_one,hb]; rfl
    obtain⟨h1,h2⟩:=dj0 p hp.few i (s.take i) (by rw [List.length_take]; omega)
    have hcl:=Nat.le_trans (eu0 p b.1 b.2) hp.few
    have hpw:=cE0 (n:=i) (by omega)
    have c1:=oD0 C p hp.toFine b.1 b.2 hb2 hb1 (.lst ((cp0 p (s.take i)).map rowT)) (au0 s)
    have c2:=ku0 C (cp0 p (s.take i)) (cB0 p b.1 b.2) (fun r hr=>by have:=(h2 r hr).1; omega) (Nat.le_trans (Nat.mul_le_mul (Nat.le_trans h1 hpw) hcl) (by decide)) (by omega)
    refine⟨[.sh (aK0 p),.sh (au0 s),.sh (.lst ((cp0 p (s.take i)).map rowT)),.sh (bedT b)],_,rfl,.inl ?_,⟨.sh (bedT b),rfl⟩⟩
    have c3:bedT (b.1,b.2)=bedT b:=rfl
    rw [c3] at c1
    rw [et,cM0]
    exact nr0 rfl c1 c2
 have b0:(if([]:List T).length<=big then some (T.tup []) else none)=some (T.tup []):=rfl
 have b1:(if([T.tup []]:List T).length<=big then some (T.lst [T.tup []]) else none)=some (T.lst [T.tup []]):=rfl
 subst l2
 rw [Nat.zero_add,List.length_map,List.take_length] at l1
 obtain⟨h1,h2⟩:=dj0 p hp.few s.length s rfl
 have e:=dh0 (n:=1) (it:=iLst (eVar 2)) (bd:=ao0 0) (p:=qB (eFn (V3 C) (aa0 (eVar 1) (aa0 (eVar 0) aNil)))) (f:=eVar 0) (P:=onR (bM0 p)) (G:=id) (ε:=[.sh (aK0 p),.sh (au0 s),.sh (.lst ((cp0 p s).map rowT)),z]) (ts:=(cp0 p s).map rowT) rfl
  (by rw [List.length_map]; have:=cE0 hs; unfold big; omega) fun t ht=>by
   obtain⟨r,hr,rfl⟩:=List.mem_map.mp ht
   have m:=kG0 C p hp r (h2 r hr).2 (by have:=(h2 r hr).1; omega)
   refine⟨_,rfl,?_,fun _=>rfl⟩
   simp_arith! [List.replicate_one,List.singleton_append,m,gy0]
 rw [dX0] at e
 simp only [sSeq,sSet,eLst,aa0,eTup,aNil,Option.bind_some,b0,b1,Option.map_some,List.set_cons_succ,List.set_cons_zero,sFor,iTpl,eVar,List.getElem?_cons_zero,List.getElem?_cons_succ,au0]
 unfold au0 at l1
 rw [l1]
 simp only [Option.bind_some,sRet]
 unfold au0 at e
 rw [e]
 rfl
theorem cL0 {E:En->Option T}{ε:En}{t u:T}{φ:List T->Option T}(hE:E ε=some t)(hp:φ [t]=some u):(sRet false (aw0 φ (aa0 E aNil)) ε).bind cv0=some (false,u):=by
 unfold sRet aw0 aa0 aNil
 simp only [hE,hp,Option.bind_some,Option.map_some,cv0]
def bl0 (p:Plot):Stt:=p.soils.map fun x=>(x,[])
def oG0:T->T
 | .int i=>bedT (i,[])
 |_=> .non
theorem gb0 (p:Plot):((p.soils.map T.int).map oG0)=(bl0 p).map bedT:=by
 unfold bl0
 rw [List.map_map,List.map_map]
 rfl
theorem lX0 (C:Addr)(p:Plot)(h:p.soils.length<=1000):W8 C [garT C p]=some (false,au0 (bl0 p)):=by
 unfold W8 Kc0
 refine(aI0 (ε:=[.sh (garT C p)]) rfl rfl).trans ?_
 have hi:iTpl (eFld C "soils" (bVar 0)) [.sh (garT C p)]=some (p.soils.map T.int):=by simp_arith! [garT,oA0]
 have e:=bf0 (n:=1) (bd:=ao0 0) (f:=eTup (aa0 (eVar 0) (aa0 (eTup aNil) aNil))) (G:=oG0) hi (by rw [List.length_map]; unfold big; omega) fun t ht=>by
  obtain⟨x,hx,rfl⟩:=List.mem_map.mp ht
  exact⟨_,rfl,rfl⟩
 rw [gb0] at e
 exact cL0 e rfl
theorem ed0 (C:Addr)(p:Plot)(h:p.soils.length<=1000):K7 C [aK0 p]=some (false,au0 (bl0 p)):=by
 unfold K7 xe0
 refine(aI0 (ε:=[.sh (aK0 p)]) rfl rfl).trans ?_
 have a1:φIx (aK0 p) (.int 0)=some (.lst (p.soils.map T.int)):=aE0 _ 0 _ rfl
 have hi:iLst (e2 φIx (bVar 0) (eC (.int 0))) [.sh (aK0 p)]=some (p.soils.map T.int):=by simp_arith! [a1]
 have e:=bf0 (n:=1) (bd:=ao0 0) (f:=eTup (aa0 (eVar 0) (aa0 (eTup aNil) aNil))) (G:=oG0) hi (by rw [List.length_map]; unfold big; omega) fun t ht=>by
  obtain⟨x,hx,rfl⟩:=List.mem_map.mp ht
  exact⟨_,rfl,rfl⟩
 rw [gb0] at e
 exact cL0 e rfl
theorem ay0 {φ:T->T->Option T}{f g:En->Option T}{ε:En}{s t:T}(h1:f ε=some s)(h2:g ε=some t):e2 φ f g ε=φ s t:=by
 unfold e2
 rw [h1,h2]
 rfl
theorem hF0:∀(xs:List Int) (a b:Int),maxI (if a>b then a else b) xs=if maxI a xs>b then maxI a xs else b
 | [],a,b=>rfl
 |x::xs,a,b=>by
  show maxI (if x>(if a>b then a else b) then x else(if a>b then a else b)) xs=if maxI (if x>a then x else a) xs>b then maxI (if x>a then x else a) xs else b
  rw [<- hF0 xs (if x>a then x else a) b]
  congr 1
  repeat' split
  all_goals omega
theorem mt0 (p:Plot):maxI 1 (p.crops.map (·.gap))=depth p:=by
 unfold depth
 cases p.crops.map (·.gap) with
 |nil=>rfl
 |cons g gs=>
  show maxI (if g>1 then g else 1) gs=_
  exact hF0 gs g 1
theorem ek0 (p:Plot):1<=depth p:=by
 unfold depth
 split
 ·exact Int.le_refl _
 ·split<;>omega
def toGap:T->T
 | .tup [_,_,_,g,_]=>g
 |_=> .non
theorem iO0 (C:Addr)(p:Plot)(h:p.crops.length<=1000):Y3 C [aK0 p]=some (false,.int (depth p)):=by
 unfold Y3 we0
 refine(aI0 (ε:=[.sh (aK0 p)]) rfl rfl).trans ?_
 have a1:φIx (aK0 p) (.int 2)=some (.lst (p.crops.map al0)):=aE0 _ 2 _ rfl
 have hi:iLst (e2 φIx (bVar 0) (eC (.int 2))) [.sh (aK0 p)]=some (p.crops.map al0):=by simp_arith! [a1]
 have e:=bf0 (n:=1) (bd:=ao0 0) (f:=e2 φIx (bVar 0) (eC (.int 3))) (G:=toGap) hi (by rw [List.length_map]; unfold big; omega) fun t ht=>by
  obtain⟨c,hc,rfl⟩:=List.mem_map.mp ht
  have b1:φIx (al0 c) (.int 3)=some (.int c.gap):=aE0 _ 3 _ rfl
  refine⟨_,rfl,?_⟩
  simp_arith! [List.replicate_one,List.singleton_append,b1]
  rfl
 have e3:(p.crops.map al0).map toGap=(p.crops.map (·.gap)).map T.int:=by
  rw [List.map_map,List.map_map]
  rfl
 rw [e3] at e
 refine cL0 (E:=e2 gn0 (eLst (aa0 (eC (.int 1)) aNil)) _) (t:=.lst (T.int 1::(p.crops.map (·.gap)).map T.int)) ?_ ?_
 ·have b0:eLst (aa0 (eC (.int 1)) aNil) [.sh (aK0 p)]=some (.lst [.int 1]):=rfl
  refine(ay0 b0 e).trans ?_
  show (if [T.int 1].length+((p.crops.map (·.gap)).map T.int).length<=big then _ else _)=_
  rw [if_pos (by rw [List.length_map,List.length_map]; unfold big; simp only [List.length_cons,List.length_nil]; omega)]
  rfl
 ·show (dp0 ((1::p.crops.map (·.gap)).map T.int)).bind maxO=_
  rw [fS0]
  show some (T.int (maxI 1 (p.crops.map (·.gap))))=_
  rw [mt0]
def bedM (p:Plot)(b:Int × List Nat)(c:Nat):Int × List Nat:=
 let z:=b.1+((p.crops[c]?).map (·.change)).getD 0
 (if z<p.top then z else p.top,(c::b.2).take (depth p).toNat)
theorem pi0 (C:Addr)(p:Plot)(soil:Int)(stood:List Nat)(c:Nat)(hc:c<p.crops.length)(hl:stood.length<=1000):
  Q3 C [garT C p,.int soil,rowT stood,intT c]=some (false,bedT (bedM p (soil,stood) c)):=by
 unfold Q3 wd0
 refine(aI0 (ε:=[.sh (garT C p),.sh (.int soil),.sh (rowT stood),.sh (intT c),.un]) rfl rfl).trans ?_
 have hc':p.crops[c]?=some p.crops[c]:=List.getElem?_eq_getElem hc
 have e1:φIx (.tup (p.crops.map fun c=> .int c.change)) (intT c)=some (.int p.crops[c].change):=ix_tup (fun c=> .int c.change) _ _ _ hc'
 have b0:(if([intT c]:List T).length<=big then some (T.tup [intT c]) else none)=some (T.tup [intT c]):=rfl
 have b1:cx0 (.tup [intT c]) (.tup (stood.map intT))=some (.tup ((c::stood).map intT)):=by
  show (if [intT c].length+(stood.map intT).length<=big then _ else _)=_
  rw [if_pos (by rw [List.length_map]; unfold big; simp only [List.length_cons,List.length_nil]; omega)]
  rfl
 have hd:=ek0 p
 have b2:=gE0 (c::stood) (depth p) (by omega)
 have b3:∀(x y:T),(if([x,y]:List T).length<=big then some (T.tup [x,y]) else none)=some (T.tup [x,y]):=fun x y=>rfl
 simp_arith! [garT,f_top,bH0,nk0,rowT,b0,b1,e1,b2,b3,dy0]
 unfold bedM bedT rowT
 simp only [hc',Option.map_some,Option.getD_some]
def lE0 (x:(Int × List Nat) × Nat):T:=.tup [bedT x.1,intT x.2]
theorem hv0:∀(s:Stt) (row:List Nat),zipT (s.map bedT) (row.map intT)=(s.zip row).map lE0
 | [],_=>by cases ‹List Nat› <;>rfl
 |_::_,[]=>rfl
 |b::s,c::row=>by
  show T.tup [bedT b,intT c]::zipT (s.map bedT) (row.map intT)=_
  rw [hv0 s row]
  rfl
def okM (p:Plot)(x:(Int × List Nat) × Nat):Bool:=decide (x.2<p.crops.length) && cX0 p x.1.1 x.1.2 x.2
def nh0 (p:Plot)(s:Stt)(row:List Nat):Bool:=decide (row.length=s.length) && (s.zip row).all (okM p) && bM0 p row
theorem aC0 {g h:En->Option Fl}{ε ε1:En}(h1:g ε=some (.nx ε1)):sSeq g h ε=h ε1:=by
 unfold sSeq
 rw [h1]
 rfl
theorem cy0 {f:En->Option (List T)}{bd:T->En->Option En}{body:En->Option Fl}{ε:En}{ts:List T}{fl:Option Fl}(h1:f ε=some ts)(h2:db0 bd body ts ε=fl):sFor f bd body ε=fl:=by
 unfold sFor
 rw [h1]
 exact h2
def ar0 (p:Plot)(s:Stt)(row:List Nat):Stt:=(s.zip row).map fun x=>bedM p x.1 x.2
def Gb (p:Plot):T->T
 | .tup [.tup [.int a,.tup st],.int k]=>bedT (bedM p (a,iu0 st) k.toNat)
 |_=> .non
theorem Gb_at (p:Plot)(x:(Int × List Nat) × Nat):Gb p (lE0 x)=bedT (bedM p x.1 x.2):=by
 show bedT (bedM p (x.1.1,iu0 (x.1.2.map intT)) ((x.2:Int)).toNat)=_
 rw [fK0,Int.toNat_natCast]
theorem mC0 (C:Addr)(p:Plot)(hp:Good p)(s:Stt)(row:List Nat)(hs:s.length<=3)(hst:∀b∈s,b.2.length<=1000)(hall:∀x∈s.zip row,okM p x=true):
  j9 C [garT C p,au0 s,rowT row]=some (false,au0 (ar0 p s row)):=by
 unfold j9 vd0
 refine(aI0 (ε:=[.sh (garT C p),.sh (au0 s),.sh (rowT row)]) rfl rfl).trans ?_
 have n1:(bu0 p).lookup ("bed_behind" :Str)=none:=rfl
 have hz:mn0 (aa0 (bVar 1) (aa0 (bVar 2) aNil)) [.sh (garT C p),.sh (au0 s),.sh (rowT row)]=some ((s.zip row).map lE0):=by
  rw [<- hv0]
  rfl
 have e:=bf0 (n:=2) (bd:=cf0 0 1) (f:=dx0 C "bed_behind" (Q3 C) (eVar 2) (aa0 (e2 φIx (bVar 0) (eC (.int 0))) (aa0 (e2 φIx (bVar 0) (eC (.int 1))) (aa0 (eVar 1) aNil)))) (G:=Gb p) hz
  (by rw [List.length_map,List.length_zip]; unfold big; omega) fun t ht=>by
   obtain⟨⟨⟨a,st⟩,c⟩,hx,rfl⟩:=List.mem_map.mp ht
   have hk:=hall _ hx
   have hc:c<p.crops.length:=by
    unfold okM at hk
    rw [Bool.and_eq_true,decide_eq_true_iff] at hk
    exact hk.1
   have hl:=hst (a,st) (List.of_mem_zip hx).1
   have c1:φIx (bedT (a,st)) (.int 0)=some (.int a):=aE0 _ 0 _ rfl
   have c2:φIx (bedT (a,st)) (.int 1)=some (rowT st):=aE0 _ 1 _ rfl
   have l:=pi0 C p a st c hc hl
   unfold garT at l
   rw [Gb_at]
   refine⟨[.sh (bedT (a,st)),.sh (intT c),.sh (garT C p),.sh (au0 s),.sh (rowT row)],rfl,?_⟩
   simp_arith! [dx0,garT,c1,c2,n1,and_self,l]
 have e3:((s.zip row).map lE0).map (Gb p)=(ar0 p s row).map bedT:=by
  unfold ar0
  rw [List.map_map,List.map_map]
  apply List.map_congr_left
  intro x _
  exact Gb_at p x
 rw [e3] at e
 exact cL0 e rfl
theorem gj0 (C:Addr)(p:Plot)(hp:Good p)(s:Stt)(row:List Nat)(hs:s.length<=3)(hst:∀b∈s,b.2.length<=1000)(hl:row.length=s.length)(hrow:∀r∈row,r<p.crops.length):
  J7 C [aK0 p,au0 s,rowT row]=some (false,au0 (ar0 p s row)):=by
 unfold J7 ve0
 refine(aI0 (ε:=[.sh (aK0 p),.sh (au0 s),.sh (rowT row),.un,.un,.un]) rfl rfl).trans ?_
 have a1:φIx (aK0 p) (.int 2)=some (.lst (p.crops.map al0)):=aE0 _ 2 _ rfl
 have a2:φIx (aK0 p) (.int 1)=some (.int p.top):=aE0 _ 1 _ rfl
 have hmem:=iO0 C p (by have:=hp.few; omega)
 have hd:=ek0 p
 have b3:∀(x y:T),(if([x,y]:List T).length<=big then some (T.tup [x,y]) else none)=some (T.tup [x,y]):=fun x y=>rfl
 obtain⟨ε',l1,y,z,l2⟩:=bh0 (bd:=ao0 4) (body:=sSeq (sSet 5 (aw0 dy0 (aa0 (e2 φIx (bVar 0) (eC (.int 1))) (aa0 (e2 φAdd (e2 φIx (e2 φIx (bVar 1) (bVar 4)) (eC (.int 0))) (e2 φIx (e2 φIx (e2 φIx (bVar 0) (eC (.int 2))) (e2 φIx (bVar 2) (bVar 4))) (eC (.int 1)))) aNil))))
  (sApp 3 (eTup (aa0 (eVar 5) (aa0 (eSlT (e2 cx0 (eTup (aa0 (e2 φIx (bVar 2) (bVar 4)) aNil)) (e2 φIx (e2 φIx (bVar 1) (bVar 4)) (eC (.int 1)))) (ba0 none) (ba0 (some (eFn (Y3 C) (aa0 (eVar 0) aNil))))) aNil)))))
  (fun k ε=>∃y z,ε=[.sh (aK0 p),.sh (au0 s),.sh (rowT row),.ow (.lst (((ar0 p s row).take k).map bedT)),y,z]) (bb0 0 s.length) 0 [.sh (aK0 p),.sh (au0 s),.sh (rowT row),.ow (.lst []),.un,.un] ⟨_,_,rfl⟩ fun i t ε ht ⟨y,z,he⟩=>by
   subst he
   rw [Nat.zero_add] at*
   rw [bE0,List.getElem?_map] at ht
   have hi:i<s.length:=by
    cases q:(List.range s.length)[i]? with
    |none=>rw [q] at ht; cases ht
    |some j=>
     have:=(List.getElem?_eq_some_iff.mp q).1
     rwa [List.length_range] at this
   rw [List.getElem?_range hi] at ht
   cases ht
   have hir:i<row.length:=by omega
   have hb:=hst s[i] (List.getElem_mem hi)
   have hcl:=hrow row[i] (List.getElem_mem hir)
   have hc:p.crops[row[i]]?=some p.crops[row[i]]:=List.getElem?_eq_getElem hcl
   have c1:φIx (au0 s) (intT i)=some (bedT s[i]):=aE0 _ i _ (by rw [List.getElem?_map,List.getElem?_eq_getElem hi]; rfl)
   have c2:φIx (bedT s[i]) (.int 0)=some (.int s[i].1):=aE0 _ 0 _ rfl
   have c3:φIx (bedT s[i]) (.int 1)=some (rowT s[i].2):=aE0 _ 1 _ rfl
   have c4:φIx (rowT row) (intT i)=some (intT row[i]):=aE0 _ i _ (by rw [List.getElem?_map,List.getElem?_eq_getElem hir]; rfl)
   have c5:φIx (.lst (p.crops.map al0)) (intT row[i])=some (al0 p.crops[row[i]]):=hG0 al0 _ _ _ hc
   have c6:φIx (al0 p.crops[row[i]]) (.int 1)=some (.int p.crops[row[i]].change):=aE0 _ 1 _ rfl
   have b0:(if([intT row[i]]:List T).length<=big then some (T.tup [intT row[i]]) else none)=some (T.tup [intT row[i]]):=rfl
   have b1:cx0 (.tup [intT row[i]]) (rowT s[i].2)=some (.tup ((row[i]::s[i].2).map intT)):=by
    show (if [intT row[i]].length+(s[i].2.map intT).length<=big then _ else _)=_
    rw [if_pos (by rw [List.length_map]; unfold big; simp only [List.length_cons,List.length_nil]; omega)]
    rfl
   have b2:=gE0 (row[i]::s[i].2) (depth p) (by omega)
   have hbm:(ar0 p s row)[i]?=some (bedM p s[i] row[i]):=by
    unfold ar0
    rw [List.getElem?_map,(List.getElem?_zip_eq_some (z:=(s[i],row[i]))).mpr ⟨List.getElem?_eq_getElem hi,List.getElem?_eq_getElem hir⟩]
    rfl
   have et:(ar0 p s row).take (i+1)=(ar0 p s row).take i++ [bedM p s[i] row[i]]:=by rw [List.take_add_one,hbm]; rfl
   have hlen:(((ar0 p s row).take i).map bedT).length<big:=by
    rw [List.length_map,List.length_take]
    unfold big
    omega
   refine⟨[.sh (aK0 p),.sh (au0 s),.sh (rowT row),.ow (.lst (((ar0 p s row).take i).map bedT)),.sh (intT i),z],_,rfl,.inl ?_,⟨.sh (intT i),.sh (.int (bedM p s[i] row[i]).1),rfl⟩⟩
   simp_arith! [sApp,a1,a2,c1,c2,c3,c4,c5,c6,b0,b1,b2,b3,dy0,hmem,hlen]
   rw [et,List.map_append]
   unfold bedM
   rw [hc]
   rfl
 have b0:(if([]:List T).length<=big then some (T.lst []) else none)=some (T.lst []):=rfl
 have hi:aR0 (aa0 (aw0 φLen (aa0 (bVar 1) aNil)) aNil) [.sh (aK0 p),.sh (au0 s),.sh (rowT row),.ow (.lst []),.un,.un]=some (bb0 0 s.length):=by
  simp_arith! [aR0,au0,List.length_map]
  rw [if_pos ⟨by omega,by omega⟩,Int.toNat_natCast]
 have hbl:(ar0 p s row).length=s.length:=by
  unfold ar0
  rw [List.length_map,List.length_zip]
  omega
 subst l2
 rw [Nat.zero_add,bE0,List.length_map,List.length_range,<- hbl,List.take_length,hbl,<- bE0] at l1
 have e1:cz0 3 (eLst aNil) [.sh (aK0 p),.sh (au0 s),.sh (rowT row),.un,.un,.un]=some (.nx [.sh (aK0 p),.sh (au0 s),.sh (rowT row),.ow (.lst []),.un,.un]):=rfl
 rw [aC0 e1,aC0 (cy0 hi l1)]
 exact cL0 (E:=bVar 3) rfl rfl
theorem crops_mem {p:Plot}{b:Int × List Nat}{c:Nat}:c∈cB0 p b.1 b.2↔okM p (b,c)=true:=by
 unfold cB0 okM
 rw [List.mem_filter,List.mem_range,Bool.and_eq_true,decide_eq_true_iff]
theorem lv0 (p:Plot):∀(n:Nat) (s:Stt),s.length=n->∀r,r∈cp0 p s↔r.length=s.length/\∀x∈s.zip r,okM p x=true:=by
 intro n
 induction n with
 |zero=>
  intro s hs r
  obtain rfl:=List.eq_nil_of_length_eq_zero hs
  show r∈ [[]]↔_
  rw [List.mem_singleton]
  constructor
  ·rintro rfl; exact⟨rfl,fun x hx=>nomatch hx⟩
  ·rintro⟨h,_⟩; exact List.eq_nil_of_length_eq_zero h
 |succ n ih=>
  intro s hs r
  have hne:s≠ []:=fun z=>by rw [z] at hs; cases hs
  obtain⟨s',b,rfl⟩:∃s' b,s=s'++ [b]:=⟨s.dropLast,s.getLast hne,(List.dropLast_concat_getLast hne).symm⟩
  rw [List.length_append,List.length_singleton] at hs
  have ih:=ih s' (by omega)
  rw [cM0]
  unfold bZ0
  rw [List.mem_flatMap]
  constructor
  ·rintro⟨q,hq,hr⟩
   obtain⟨c,hc,rfl⟩:=List.mem_map.mp hr
   obtain⟨h1,h2⟩:=(ih q).mp hq
   refine⟨by rw [List.length_append,List.length_append,h1]; rfl,fun x hx=> ?_⟩
   rw [List.zip_append h1.symm] at hx
   rcases List.mem_append.mp hx with hx|hx
   ·exact h2 x hx
   ·obtain rfl:x=(b,c):=List.mem_singleton.mp hx
    exact crops_mem.mp hc
  ·rintro⟨h1,h2⟩
   rw [List.length_append,List.length_singleton] at h1
   have hr:r≠ []:=fun z=>by rw [z] at h1; cases h1
   obtain⟨q,c,rfl⟩:∃q c,r=q++ [c]:=⟨r.dropLast,r.getLast hr,(List.dropLast_concat_getLast hr).symm⟩
   rw [List.length_append,List.length_singleton] at h1
   have hq:q.length=s'.length:=by omega
   rw [List.zip_append hq.symm] at h2
   refine⟨q,(ih q).mpr ⟨hq,fun x hx=>h2 x (List.mem_append_left _ hx)⟩,List.mem_map.mpr ⟨c,crops_mem.mpr (h2 (b,c) (List.mem_append_right _ (List.mem_singleton.mpr rfl))),rfl⟩⟩
theorem may_mem {p:Plot}{s:Stt}{r:List Nat}:r∈mayM p s↔nh0 p s r=true:=by
 unfold mayM nh0
 rw [List.mem_filter,lv0 p s.length s rfl r,Bool.and_eq_true,Bool.and_eq_true,decide_eq_true_iff,List.all_eq_true]
structure Lives (p:Plot)(s:Stt):Prop where
 len:s.length=p.soils.length
 few:p.soils.length<=3
 stood:∀b∈s,b.2.length<=(depth p).toNat/\∀c∈b.2,c<p.crops.length
theorem gB0 {p:Plot}(h:p.soils.length<=3):Lives p (bl0 p):=by
 refine⟨by unfold bl0; rw [List.length_map],h,fun b hb=> ?_⟩
 obtain⟨x,_,rfl⟩:=List.mem_map.mp hb
 exact⟨Nat.zero_le _,fun c hc=>nomatch hc⟩
theorem fL0 {p:Plot}{s:Stt}{r:List Nat}(h:Lives p s)(hl:r.length=s.length)(hr:∀c∈r,c<p.crops.length):Lives p (ar0 p s r):=by
 refine⟨by unfold ar0; rw [List.length_map,List.length_zip,hl,Nat.min_self]; exact h.len,h.few,fun b hb=> ?_⟩
 obtain⟨⟨b0,c⟩,hx,rfl⟩:=List.mem_map.mp hb
 have hz:=List.of_mem_zip hx
 refine⟨?_,fun d hd=> ?_⟩
 ·show ((c::b0.2).take (depth p).toNat).length<=_
  rw [List.length_take]
  exact Nat.min_le_left ..
 ·have hd:d∈(c::b0.2).take (depth p).toNat:=hd
  rcases List.mem_cons.mp (List.mem_of_mem_take hd) with rfl|hd
  ·exact hr _ hz.2
  ·exact(h.stood b0 hz.1).2 d hd
theorem bw0 (C:Addr)(v lo hi:Int)(w:T)(h1:lo<=v)(h2:v<=hi):y0 C [.int v,.int lo,.int hi,w]=some (false,.non):=by
 have i:J4 C [.int v,.int lo,.int hi]=some (false,.bl true):=by
  unfold J4 Yb0
  refine(aI0 (ε:=[.sh (.int v),.sh (.int lo),.sh (.int hi)]) rfl rfl).trans ?_
  have b1:isT "bool" (.int v)=some false:=rfl
  have b2:isT "int" (.int v)=some true:=rfl
  simp_arith! [eIs,b1,b2,cR0,h1,h2]
 unfold y0 Xb0
 refine(aI0 (ε:=[.sh (.int v),.sh (.int lo),.sh (.int hi),.sh w]) rfl rfl).trans ?_
 simp_arith! [i]
theorem dG0 (C:Addr)(x:Str)(xs:List Str)(h:x∈xs):W0 C [.str x,.lst (xs.map .str)]=some (false,.non):=by
 unfold W0 jc0
 refine(aI0 (ε:=[.sh (.str x),.sh (.lst (xs.map .str))]) rfl rfl).trans ?_
 have b:=jx0 true x xs
 simp_arith! [b,h]
structure Bound (p:Plot):Prop extends Good p where
 beds:1<=p.soils.length/\p.soils.length<=3
 top:1<=p.top/\p.top<=5
 soil:∀x∈p.soils,0<=x/\x<=p.top
 some:1<=p.crops.length
 text:∀c∈p.crops,c.name≠ ""
 chg:∀c∈p.crops,-3<=c.change/\c.change<=3
 har:∀c∈p.crops,0<=c.harvest/\c.harvest<=1000
 gap:∀c∈p.crops,0<=c.gap/\c.gap<=3
 bar:∀c∈p.crops,c.bars.length<=1000
 want:∀x∈p.wants,0<=x.2.1/\x.2.1<=x.2.2/\x.2.2<=3
 fewW:p.wants.length<=1000
theorem be0 {gs:List T->Option (Bool × T)}{g:En->Option (List T)}{ε:En}{ts:List T}(h1:g ε=some ts)(h2:gs ts=some (false,.non)):aT0 (eFn gs g) ε=some (.nx ε):=by
 unfold aT0 eFn
 rw [h1]
 show Option.map (fun _=>Fl.nx ε) ((gs ts).bind noD)=_
 rw [h2]
 rfl
theorem ez0 {q:En->Option Bool}{a:En->Option Fl}{ε:En}(h:q ε=some false):sIf q a sNx ε=some (.nx ε):=by
 unfold sIf
 rw [h]
 rfl
theorem or0 (C:Addr)(p:Plot)(hp:Bound p):Q2 C [.lst (p.soils.map .int),.int p.top]=some (false,.non):=by
 unfold Q2 zc0
 refine(aI0 (ε:=[.sh (.lst (p.soils.map .int)),.sh (.int p.top),.un]) rfl rfl).trans ?_
 have hb:=hp.beds
 obtain⟨ε',l1,z,l2⟩:=bh0 (bd:=ao0 2) (body:=aT0 (eFn (y0 C) (aa0 (eVar 2) (aa0 (eC (.int 0)) (aa0 (eVar 1) (aa0 (eC (.str "the soil of a bed")) aNil))))))
  (fun k ε=>∃z,ε=[.sh (.lst (p.soils.map .int)),.sh (.int p.top),z]) (p.soils.map .int) 0 [.sh (.lst (p.soils.map .int)),.sh (.int p.top),.un] ⟨_,rfl⟩ fun i t ε ht ⟨z,he⟩=>by
   subst he
   obtain⟨x,hx,rfl⟩:=List.mem_map.mp (List.mem_of_getElem? ht)
   have:=hp.soil x hx
   exact⟨[.sh (.lst (p.soils.map .int)),.sh (.int p.top),.sh (.int x)],_,rfl,.inl (be0 rfl (bw0 C x 0 p.top _ this.1 this.2)),_,rfl⟩
 have e1:aT0 (eFn (y0 C) (aa0 (eVar 1) (aa0 (eC (.int 1)) (aa0 (eC (.int 5)) (aa0 (eC (.str "the top")) aNil))))) [.sh (.lst (p.soils.map .int)),.sh (.int p.top),.un]=some (.nx [.sh (.lst (p.soils.map .int)),.sh (.int p.top),.un]):=be0 rfl (bw0 C p.top 1 5 _ hp.top.1 hp.top.2)
 have e2':sIf (qNot (qB (eIs "list" (bVar 0)))) (fun _=>none) sNx [.sh (.lst (p.soils.map .int)),.sh (.int p.top),.un]=some (.nx [.sh (.lst (p.soils.map .int)),.sh (.int p.top),.un]):=ez0 rfl
 have e3:aT0 (eFn (y0 C) (aa0 (aw0 φLen (aa0 (bVar 0) aNil)) (aa0 (eC (.int 1)) (aa0 (eC (.int 3)) (aa0 (eC (.str "the count of beds")) aNil))))) [.sh (.lst (p.soils.map .int)),.sh (.int p.top),.un]=some (.nx [.sh (.lst (p.soils.map .int)),.sh (.int p.top),.un]):=
  be0 rfl (bw0 C _ 1 3 _ (by rw [List.length_map]; omega) (by rw [List.length_map]; omega))
 rw [aC0 e1,aC0 e2',aC0 e3,cy0 (f:=iLst (eVar 0)) rfl l1]
 rfl
theorem nA0 (C:Addr)(c:Crop)(h0:c.name≠ "") (h1: -3<=c.change/\c.change<=3) (h2:0<=c.harvest/\c.harvest<=1000) (h3:0<=c.gap/\c.gap<=3):J2 C [al0 c]=some (false,.non):=by
 unfold J2 qc0
 refine(aI0 (ε:=[.sh (al0 c)]) rfl rfl).trans ?_
 have a0:φIx (al0 c) (.int 0)=some (.str c.name):=aE0 _ 0 _ rfl
 have a1:φIx (al0 c) (.int 1)=some (.int c.change):=aE0 _ 1 _ rfl
 have a2:φIx (al0 c) (.int 2)=some (.int c.harvest):=aE0 _ 2 _ rfl
 have a3:φIx (al0 c) (.int 3)=some (.int c.gap):=aE0 _ 3 _ rfl
 have a4:φIx (al0 c) (.int 4)=some (.lst (c.bars.map .str)):=aE0 _ 4 _ rfl
 have q0:φEq (.str c.name) (.str "")=some (.bl false):=by
  show some (T.bl (decide (V.str _=V.str _)))=_
  rw [decide_eq_false]
  intro z
  exact h0 (V.str.inj z)
 have r1:sIf (qOr (qNot (qB (eIs "tuple" (bVar 0)))) (qB (e2 φNe (aw0 φLen (aa0 (bVar 0) aNil)) (eC (.int 5))))) (fun _=>none) sNx [.sh (al0 c)]=some (.nx [.sh (al0 c)]):=ez0 rfl
 have r2:sIf (qOr (qNot (qB (eIs "str" (e2 φIx (bVar 0) (eC (.int 0)))))) (qB (e2 φEq (e2 φIx (bVar 0) (eC (.int 0))) (eC (.str ""))))) (fun _=>none) sNx [.sh (al0 c)]=some (.nx [.sh (al0 c)]):=ez0 (by
  have b:isT "str" (.str c.name)=some true:=rfl
  simp_arith! [eIs,a0,b,q0])
 have r3:aT0 (eFn (y0 C) (aa0 (e2 φIx (bVar 0) (eC (.int 1))) (aa0 (e1 φNeg (eC (.int 3))) (aa0 (eC (.int 3)) (aa0 (eC (.str "the change of a crop")) aNil))))) [.sh (al0 c)]=some (.nx [.sh (al0 c)]):=
  be0 (ts:=[.int c.change,.int (-3),.int 3,.str "the change of a crop"]) (by simp_arith! [a1,φNeg]) (bw0 C _ (-3) 3 _ h1.1 h1.2)
 have r4:aT0 (eFn (y0 C) (aa0 (e2 φIx (bVar 0) (eC (.int 2))) (aa0 (eC (.int 0)) (aa0 (eC (.int 1000)) (aa0 (eC (.str "the harvest of a crop")) aNil))))) [.sh (al0 c)]=some (.nx [.sh (al0 c)]):=
  be0 (ts:=[.int c.harvest,.int 0,.int 1000,.str "the harvest of a crop"]) (by simp_arith! [a2]) (bw0 C _ 0 1000 _ h2.1 h2.2)
 have r5:aT0 (eFn (y0 C) (aa0 (e2 φIx (bVar 0) (eC (.int 3))) (aa0 (eC (.int 0)) (aa0 (eC (.int 3)) (aa0 (eC (.str "the gap of a crop")) aNil))))) [.sh (al0 c)]=some (.nx [.sh (al0 c)]):=
  be0 (ts:=[.int c.gap,.int 0,.int 3,.str "the gap of a crop"]) (by simp_arith! [a3]) (bw0 C _ 0 3 _ h3.1 h3.2)
 have r6:sIf (qNot (qB (eIs "list" (e2 φIx (bVar 0) (eC (.int 4)))))) (fun _=>none) sNx [.sh (al0 c)]=some (.nx [.sh (al0 c)]):=ez0 (by
  have b:isT "list" (.lst (c.bars.map .str))=some true:=rfl
  simp_arith! [eIs,a4,b])
 rw [aC0 r1,aC0 r2,aC0 r3,aC0 r4,aC0 r5,r6]
 rfl
def mH0:T->T
 | .tup [n,_,_,_,_]=>n
 |_=> .non
theorem hA0 (C:Addr)(p:Plot)(h:p.crops.length<=1000):Z1 C [.lst (p.crops.map al0)]=some (true,.lst (p.names.map .str)):=by
 unfold Z1 wc0
 refine(aI0 (ε:=[.sh (.lst (p.crops.map al0))]) rfl rfl).trans ?_
 have e:=bf0 (n:=1) (it:=iLst (eVar 0)) (ε:=[.sh (.lst (p.crops.map al0))]) (ts:=p.crops.map al0) (bd:=ao0 0) (f:=e2 φIx (bVar 0) (eC (.int 0))) (G:=mH0) rfl (by rw [List.length_map]; unfold big; omega) fun t ht=>by
  obtain⟨c,hc,rfl⟩:=List.mem_map.mp ht
  have b1:φIx (al0 c) (.int 0)=some (.str c.name):=aE0 _ 0 _ rfl
  refine⟨_,rfl,?_⟩
  simp_arith! [List.replicate_one,List.singleton_append,b1]
  rfl
 have e3:(p.crops.map al0).map mH0=p.names.map .str:=by
  rw [List.map_map,List.map_map]
  rfl
 rw [e3] at e
 unfold sRet
 rw [e]
 rfl
theorem gK0:∀(xs:List Str) (x:Str),x∈xs->idxT (xs.map T.str) (.str x)=some (xs.idxOf x)
 | [],_,h=>nomatch h
 |y::xs,x,h=>by
  unfold idxT
  rw [List.map_cons,List.findIdx?_cons,List.idxOf_cons]
  show (if(y==x)=true then some 0 else _)=_
  by_cases e:y=x
  ·subst e; simp
  ·have hne:(y==x)=false:=by simpa using e
   have hx:x∈xs:=(List.mem_cons.mp h).resolve_left (Ne.symm e)
   have ih:=gK0 xs x hx
   unfold idxT at ih
   rw [hne,if_neg Bool.false_ne_true,ih]
   rfl
theorem hJ0 (xs:List Str)(x:Str)(h:x∈xs)(hl:xs.length<=1000):cD0 (.lst (xs.map .str)) [.str x]=some (intT (xs.idxOf x)):=by
 show (if aV0 (.str x) && (xs.map T.str).all aV0 && decide ((xs.map T.str).length<=big) then _ else _)=_
 rw [fU0,gK0 xs x h]
 have hd:decide ((xs.map T.str).length<=big)=true:=decide_eq_true (by rw [List.length_map]; unfold big; omega)
 rw [hd]
 rfl
def kA0 (p:Plot):T->T
 | .str x=>intT (num p x)
 |_=> .non
theorem iB0 (C:Addr)(p:Plot)(xs:List Str)(h:∀x∈xs,x∈p.names)(hl:xs.length<=1000)(hf:p.crops.length<=5):W1 C [.lst (xs.map .str),.lst (p.names.map .str)]=some (false,rowT (xs.map (num p))):=by
 unfold W1 Zc0
 refine(aI0 (ε:=[.sh (.lst (xs.map .str)),.sh (.lst (p.names.map .str))]) rfl rfl).trans ?_
 have e:=bf0 (n:=1) (it:=iLst (eVar 0)) (ε:=[.sh (.lst (xs.map .str)),.sh (.lst (p.names.map .str))]) (ts:=xs.map .str) (bd:=ao0 0) (f:=eBM cD0 (bVar 2) (aa0 (bVar 0) aNil)) (G:=kA0 p) rfl (by rw [List.length_map]; unfold big; omega) fun t ht=>by
  obtain⟨x,hx,rfl⟩:=List.mem_map.mp ht
  have b1:=hJ0 p.names x (h x hx) (by rw [List.length_map]; omega)
  refine⟨_,rfl,?_⟩
  simp_arith! [List.replicate_one,List.singleton_append,b1]
  rfl
 have e3:(xs.map T.str).map (kA0 p)=(xs.map (num p)).map intT:=by
  rw [List.map_map,List.map_map]
  rfl
 rw [e3] at e
 exact cL0 e rfl
theorem eU0:∀(ks acc:List Key),(acc++ks).Nodup->ks.foldl (fun acc k=>if k∈acc then acc else acc++ [k]) acc=acc++ks
 | [],acc,_=>by simp
 |k::ks,acc,h=>by
  have hk:¬k∈acc:=fun z=>by
   rw [List.nodup_append] at h
   exact h.2.2 k z k (List.mem_cons_self ..) rfl
  rw [List.foldl_cons,if_neg hk,eU0 ks (acc++ [k]) (by rw [List.append_assoc]; exact h),List.append_assoc]
  rfl
theorem iJ0 (xs:List Str)(h:xs.Nodup):(metK (xs.map Sum.inr)).length=xs.length:=by
 have hn:(xs.map (Sum.inr:Str->Key)).Nodup:=by
  rw [List.nodup_iff_pairwise_ne] at h ⊢
  rw [List.pairwise_map]
  exact h.imp fun hne z=>hne (Sum.inr.inj z)
 have:=eU0 (xs.map Sum.inr) [] (by simpa using hn)
 unfold metK
 rw [this]
 simp
theorem gP0 {gs:List T->Option (Bool × T)}{E:En->Option T}{ε:En}{t u:T}{i:Nat}(hE:E ε=some t)(hg:gs [t]=some (true,u)):sSet i (eFnF gs (aa0 E aNil)) ε=some (.nx (ε.set i (.sh u))):=by
 unfold sSet eFnF aa0 aNil
 simp only [hE,hg,Option.bind_some,Option.map_some]
theorem ju0 (C:Addr)(p:Plot)(hp:Bound p):X2 C [.lst (p.crops.map al0)]=some (false,.non):=by
 unfold X2 vc0
 refine(aI0 (ε:=[.sh (.lst (p.crops.map al0)),.un,.un,.un]) rfl rfl).trans ?_
 have hf:=hp.few
 have hs:=hp.some
 have r1:sIf (qNot (qB (eIs "list" (bVar 0)))) (fun _=>none) sNx [.sh (.lst (p.crops.map al0)),.un,.un,.un]=some (.nx [.sh (.lst (p.crops.map al0)),.un,.un,.un]):=ez0 rfl
 have r2:aT0 (eFn (y0 C) (aa0 (aw0 φLen (aa0 (bVar 0) aNil)) (aa0 (eC (.int 1)) (aa0 (eC (.int 5)) (aa0 (eC (.str "the count of crops")) aNil))))) [.sh (.lst (p.crops.map al0)),.un,.un,.un]=some (.nx [.sh (.lst (p.crops.map al0)),.un,.un,.un]):=
  be0 rfl (bw0 C _ 1 5 _ (by rw [List.length_map]; omega) (by rw [List.length_map]; omega))
 obtain⟨ε1,l1,z,l2⟩:=bh0 (bd:=ao0 1) (body:=aT0 (eFn (J2 C) (aa0 (eVar 1) aNil)))
  (fun k ε=>∃z,ε=[.sh (.lst (p.crops.map al0)),z,.un,.un]) (p.crops.map al0) 0 [.sh (.lst (p.crops.map al0)),.un,.un,.un] ⟨_,rfl⟩ fun i t ε ht ⟨z,he⟩=>by
   subst he
   obtain⟨c,hc,rfl⟩:=List.mem_map.mp (List.mem_of_getElem? ht)
   exact⟨[.sh (.lst (p.crops.map al0)),.sh (al0 c),.un,.un],_,rfl,.inl (be0 rfl (nA0 C c (hp.text c hc) (hp.chg c hc) (hp.har c hc) (hp.gap c hc))),_,rfl⟩
 subst l2
 have r3:sSet 2 (eFnF (Z1 C) (aa0 (eVar 0) aNil)) [.sh (.lst (p.crops.map al0)),z,.un,.un]=some (.nx [.sh (.lst (p.crops.map al0)),z,.sh (.lst (p.names.map .str)),.un]):=gP0 rfl (hA0 C p (by omega))
 have r4:sIf (qB (e2 φNe (dr0 (bVar 2)) (aw0 φLen (aa0 (bVar 2) aNil)))) (fun _=>none) sNx [.sh (.lst (p.crops.map al0)),z,.sh (.lst (p.names.map .str)),.un]=some (.nx [.sh (.lst (p.crops.map al0)),z,.sh (.lst (p.names.map .str)),.un]):=ez0 (by
  have b1:dr0 (bVar 2) [.sh (.lst (p.crops.map al0)),z,.sh (.lst (p.names.map .str)),.un]=some (.int (p.names.length:Int)):=by
   unfold dr0
   simp_arith! [eq_self]
   rw [jO0,Option.bind_some,if_pos (by rw [List.length_map]; omega),iJ0 _ hp.nd]
  have b2:aw0 φLen (aa0 (bVar 2) aNil) [.sh (.lst (p.crops.map al0)),z,.sh (.lst (p.names.map .str)),.un]=some (.int (p.names.length:Int)):=by
   simp_arith! [List.length_map]
  unfold qB
  rw [ay0 b1 b2]
  show (match some (T.bl (!decide (V.int _=V.int _))) with|some (T.bl b)=>some b|_=>none)=_
  rw [decide_eq_true rfl]
  rfl)
 obtain⟨ε2,k1,y,w,k2⟩:=bh0 (bd:=ao0 1) (body:=sFor (iLst (e2 φIx (bVar 1) (eC (.int 4)))) (ao0 3) (aT0 (eFn (W0 C) (aa0 (eVar 3) (aa0 (eVar 2) aNil)))))
  (fun k ε=>∃y w,ε=[.sh (.lst (p.crops.map al0)),y,.sh (.lst (p.names.map .str)),w]) (p.crops.map al0) 0 [.sh (.lst (p.crops.map al0)),z,.sh (.lst (p.names.map .str)),.un] ⟨_,_,rfl⟩ fun i t ε ht ⟨y,w,he⟩=>by
   subst he
   obtain⟨c,hc,rfl⟩:=List.mem_map.mp (List.mem_of_getElem? ht)
   obtain⟨ε3,m1,v,m2⟩:=bh0 (bd:=ao0 3) (body:=aT0 (eFn (W0 C) (aa0 (eVar 3) (aa0 (eVar 2) aNil))))
    (fun k ε=>∃w,ε=[.sh (.lst (p.crops.map al0)),.sh (al0 c),.sh (.lst (p.names.map .str)),w]) (c.bars.map .str) 0 [.sh (.lst (p.crops.map al0)),.sh (al0 c),.sh (.lst (p.names.map .str)),w] ⟨_,rfl⟩ fun i t ε ht ⟨w,he⟩=>by
     subst he
     obtain⟨b,hb,rfl⟩:=List.mem_map.mp (List.mem_of_getElem? ht)
     exact⟨[.sh (.lst (p.crops.map al0)),.sh (al0 c),.sh (.lst (p.names.map .str)),.sh (.str b)],_,rfl,.inl (be0 rfl (dG0 C b p.names (hp.bars c hc b hb))),_,rfl⟩
   subst m2
   have a4:φIx (al0 c) (.int 4)=some (.lst (c.bars.map .str)):=aE0 _ 4 _ rfl
   have hi:iLst (e2 φIx (bVar 1) (eC (.int 4))) [.sh (.lst (p.crops.map al0)),.sh (al0 c),.sh (.lst (p.names.map .str)),w]=some (c.bars.map .str):=by simp_arith! [a4]
   exact⟨[.sh (.lst (p.crops.map al0)),.sh (al0 c),.sh (.lst (p.names.map .str)),w],_,rfl,.inl (cy0 hi m1),_,_,rfl⟩
 subst k2
 rw [aC0 r1,aC0 r2,aC0 (cy0 (f:=iLst (eVar 0)) rfl l1),aC0 r3,aC0 r4,cy0 (f:=iLst (eVar 0)) rfl k1]
 rfl
theorem kR0 (C:Addr)(p:Plot)(hp:Bound p):j3 C [at0 p.wants,.lst (p.names.map .str)]=some (false,.non):=by
 unfold j3 yc0
 refine(aI0 (ε:=[.sh (at0 p.wants),.sh (.lst (p.names.map .str)),.un,.un]) rfl rfl).trans ?_
 have r1:sIf (qNot (qB (eIs "dict" (bVar 0)))) (fun _=>none) sNx [.sh (at0 p.wants),.sh (.lst (p.names.map .str)),.un,.un]=some (.nx [.sh (at0 p.wants),.sh (.lst (p.names.map .str)),.un,.un]):=ez0 rfl
 have hi:fW0 (eVar 0) [.sh (at0 p.wants),.sh (.lst (p.names.map .str)),.un,.un]=some (p.wants.map fun x=> .tup [.str x.1,.tup [.int x.2.1,.int x.2.2]]):=by
  show some ((p.wants.map fun x=>(x.1,T.tup [.int x.2.1,.int x.2.2])).map fun kt=>T.tup [.str kt.1,kt.2])=_
  rw [List.map_map]
  rfl
 obtain⟨ε1,l1,y,z,l2⟩:=bh0 (bd:=cf0 2 3) (body:=sSeq (aT0 (eFn (W0 C) (aa0 (eVar 2) (aa0 (eVar 1) aNil))))
  (sSeq (sIf (qOr (qNot (qB (eIs "tuple" (bVar 3)))) (qB (e2 φNe (aw0 φLen (aa0 (bVar 3) aNil)) (eC (.int 2))))) (fun _=>none) sNx)
  (sSeq (aT0 (eFn (y0 C) (aa0 (e2 φIx (bVar 3) (eC (.int 1))) (aa0 (eC (.int 0)) (aa0 (eC (.int 3)) (aa0 (eC (.str "the most of a want")) aNil))))))
  (aT0 (eFn (y0 C) (aa0 (e2 φIx (bVar 3) (eC (.int 0))) (aa0 (eC (.int 0)) (aa0 (e2 φIx (bVar 3) (eC (.int 1))) (aa0 (eC (.str "the least of a want")) aNil)))))))))
  (fun k ε=>∃y z,ε=[.sh (at0 p.wants),.sh (.lst (p.names.map .str)),y,z]) (p.wants.map fun x=> .tup [.str x.1,.tup [.int x.2.1,.int x.2.2]]) 0 [.sh (at0 p.wants),.sh (.lst (p.names.map .str)),.un,.un] ⟨_,_,rfl⟩ fun i t ε ht ⟨y,z,he⟩=>by
   subst he
   obtain⟨⟨n,a,b⟩,hx,rfl⟩:=List.mem_map.mp (List.mem_of_getElem? ht)
   have hw:0<=a/\a<=b/\b<=3:=hp.want _ hx
   have hn:=hp.wants _ hx
   have c1:φIx (.tup [.int a,.int b]) (.int 0)=some (.int a):=aE0 _ 0 _ rfl
   have c2:φIx (.tup [.int a,.int b]) (.int 1)=some (.int b):=aE0 _ 1 _ rfl
   refine⟨[.sh (at0 p.wants),.sh (.lst (p.names.map .str)),.sh (.str n),.sh (.tup [.int a,.int b])],_,rfl,.inl ?_,.sh (.str n),.sh (.tup [.int a,.int b]),rfl⟩
   have q1:aT0 (eFn (W0 C) (aa0 (eVar 2) (aa0 (eVar 1) aNil))) [.sh (at0 p.wants),.sh (.lst (p.names.map .str)),.sh (.str n),.sh (.tup [.int a,.int b])]=some (.nx [.sh (at0 p.wants),.sh (.lst (p.names.map .str)),.sh (.str n),.sh (.tup [.int a,.int b])]):=be0 rfl (dG0 C n p.names hn)
   have q2:sIf (qOr (qNot (qB (eIs "tuple" (bVar 3)))) (qB (e2 φNe (aw0 φLen (aa0 (bVar 3) aNil)) (eC (.int 2))))) (fun _=>none) sNx [.sh (at0 p.wants),.sh (.lst (p.names.map .str)),.sh (.str n),.sh (.tup [.int a,.int b])]=some (.nx [.sh (at0 p.wants),.sh (.lst (p.names.map .str)),.sh (.str n),.sh (.tup [.int a,.int b])]):=ez0 rfl
   have q3:aT0 (eFn (y0 C) (aa0 (e2 φIx (bVar 3) (eC (.int 1))) (aa0 (eC (.int 0)) (aa0 (eC (.int 3)) (aa0 (eC (.str "the most of a want")) aNil))))) [.sh (at0 p.wants),.sh (.lst (p.names.map .str)),.sh (.str n),.sh (.tup [.int a,.int b])]=some (.nx [.sh (at0 p.wants),.sh (.lst (p.names.map .str)),.sh (.str n),.sh (.tup [.int a,.int b])]):=
    be0 (ts:=[.int b,.int 0,.int 3,.str "the most of a want"]) (by simp_arith! [c2]) (bw0 C _ 0 3 _ (by have:=hw.1; have:=hw.2.1; omega) hw.2.2)
   have q4:aT0 (eFn (y0 C) (aa0 (e2 φIx (bVar 3) (eC (.int 0))) (aa0 (eC (.int 0)) (aa0 (e2 φIx (bVar 3) (eC (.int 1))) (aa0 (eC (.str "the least of a want")) aNil))))) [.sh (at0 p.wants),.sh (.lst (p.names.map .str)),.sh (.str n),.sh (.tup [.int a,.int b])]=some (.nx [.sh (at0 p.wants),.sh (.lst (p.names.map .str)),.sh (.str n),.sh (.tup [.int a,.int b])]):=
    be0 (ts:=[.int a,.int 0,.int b,.str "the least of a want"]) (by simp_arith! [c1,c2]) (bw0 C _ 0 b _ hw.1 hw.2.1)
   rw [aC0 q1,aC0 q2,aC0 q3]
   exact q4
 subst l2
 rw [aC0 r1,cy0 hi l1]
 rfl
theorem dm0 {φ:List T->Option T}{E:En->Option T}{ε:En}{t u:T}(hE:E ε=some t)(hp:φ [t]=some u):aw0 φ (aa0 E aNil) ε=some u:=by
 unfold aw0 aa0 aNil
 rw [hE]
 exact hp
theorem cA0 {C:Addr}{i:Nat}{n:Str}{f:En->Option T}{ε:En}{fs:List (Str × T)}{t:T}(h0:ε[i]?=some (.ow (.ins C fs)))(hl:fs.length<1000)(hf:f ε=some t):cl0 C i n f ε=some (.nx (ε.set i (.ow (.ins C (ix0 n t fs))))):=by
 unfold cl0
 rw [h0]
 show (if C=C/\fs.length<1000 then _ else _)=_
 rw [if_pos ⟨rfl,hl⟩,hf]
 rfl
def toFld (k:Nat):T->T
 | .tup ts=>ts.getD k .non
 |_=> .non
theorem gD0 (p:Plot)(k:Nat)(g:Crop->T)(hk:∀c,φIx (al0 c) (.int (k:Int))=some (g c))(hf:p.crops.length<=5)(ε:En)(hε:ε[3]?=some (.sh (.lst (p.crops.map al0)))):
  aw0 bi0 (aa0 (aX0 1 (iLst (eVar 3)) (ao0 0) bn0 (e2 φIx (bVar 0) (eC (.int (k:Int))))) aNil) ε=some (.tup (p.crops.map g)):=by
 have hi:iLst (eVar 3) ε=some (p.crops.map al0):=by
  unfold iLst eVar
  rw [hε]
 have hg:∀c,toFld k (al0 c)=g c:=fun c=>by
  have h:=hk c
  have h:L2.atI [T.str c.name,.int c.change,.int c.harvest,.int c.gap,.lst (c.bars.map .str)] (k:Int)=some (g c):=h
  show ([T.str c.name,.int c.change,.int c.harvest,.int c.gap,.lst (c.bars.map .str)]:List T).getD k .non=g c
  rw [List.getD_eq_getElem?_getD]
  unfold L2.atI L2.ixN at h
  rw [if_pos (by omega)] at h
  split at h
  ·rw [Option.bind_some,Int.toNat_natCast] at h
   rw [h]
   rfl
  ·cases h
 have e:=bf0 (n:=1) (bd:=ao0 0) (f:=e2 φIx (bVar 0) (eC (.int (k:Int)))) (G:=toFld k) hi (by rw [List.length_map]; unfold big; omega) fun t ht=>by
  obtain⟨c,hc,rfl⟩:=List.mem_map.mp ht
  refine⟨_,rfl,?_⟩
  refine(ay0 (s:=al0 c) (t:=.int (k:Int)) rfl rfl).trans ?_
  rw [hk c,hg c]
 rw [List.map_map] at e
 refine(dm0 e rfl).trans ?_
 congr 2
 apply List.map_congr_left
 intro c _
 exact hg c
theorem ng0 {C:Addr}{N:List Str}{n:Nat}{g:En->Option Fl}{ts:List T}{ε:En}(h:ts.length+1=n)(he:gC0 C N ts=ε):fnI C N n g ts=(g ε).bind (retI C):=by
 unfold fnI
 rw [if_pos h,he]
theorem fX0 {φ:List T->Option T}{E F:En->Option T}{ε:En}{s t u:T}(hE:E ε=some s)(hF:F ε=some t)(hp:φ [s,t]=some u):aw0 φ (aa0 E (aa0 F aNil)) ε=some u:=by
 unfold aw0 aa0 aNil
 simp only [hE,hF,Option.bind_some]
 exact hp
def mT0 (p:Plot):T->T
 | .tup [_,_,_,_,.lst bs]=> .tup (bs.map (kA0 p))
 |_=> .non
def oV0 (p:Plot):T->T
 | .tup [.str x,.tup [a,b]]=> .tup [intT (num p x),a,b]
 |_=> .non
theorem oh0 (C:Addr)(p:Plot)(hp:Bound p):Z5 C [.lst (p.soils.map .int),.int p.top,.lst (p.crops.map al0),at0 p.wants]=some (bu0 p):=by
 unfold Z5 Qc0
 refine(ng0 (ε:=[.ow (.ins C []),.sh (.lst (p.soils.map .int)),.sh (.int p.top),.sh (.lst (p.crops.map al0)),.sh (at0 p.wants),.un]) rfl rfl).trans ?_
 have hf:=hp.few
 have r1:aT0 (eFn (Q2 C) (aa0 (eVar 1) (aa0 (eVar 2) aNil))) [.ow (.ins C []),.sh (.lst (p.soils.map .int)),.sh (.int p.top),.sh (.lst (p.crops.map al0)),.sh (at0 p.wants),.un]=some (.nx [.ow (.ins C []),.sh (.lst (p.soils.map .int)),.sh (.int p.top),.sh (.lst (p.crops.map al0)),.sh (at0 p.wants),.un]):=be0 rfl (or0 C p hp)
 have r2:aT0 (eFn (X2 C) (aa0 (eVar 3) aNil)) [.ow (.ins C []),.sh (.lst (p.soils.map .int)),.sh (.int p.top),.sh (.lst (p.crops.map al0)),.sh (at0 p.wants),.un]=some (.nx [.ow (.ins C []),.sh (.lst (p.soils.map .int)),.sh (.int p.top),.sh (.lst (p.crops.map al0)),.sh (at0 p.wants),.un]):=be0 rfl (ju0 C p hp)
 have r3:sSet 5 (eFnF (Z1 C) (aa0 (eVar 3) aNil)) [.ow (.ins C []),.sh (.lst (p.soils.map .int)),.sh (.int p.top),.sh (.lst (p.crops.map al0)),.sh (at0 p.wants),.un]=some (.nx [.ow (.ins C []),.sh (.lst (p.soils.map .int)),.sh (.int p.top),.sh (.lst (p.crops.map al0)),.sh (at0 p.wants),.sh (.lst (p.names.map .str))]):=gP0 rfl (hA0 C p (by omega))
 have r4:aT0 (eFn (j3 C) (aa0 (eVar 4) (aa0 (eVar 5) aNil))) [.ow (.ins C []),.sh (.lst (p.soils.map .int)),.sh (.int p.top),.sh (.lst (p.crops.map al0)),.sh (at0 p.wants),.sh (.lst (p.names.map .str))]=some (.nx [.ow (.ins C []),.sh (.lst (p.soils.map .int)),.sh (.int p.top),.sh (.lst (p.crops.map al0)),.sh (at0 p.wants),.sh (.lst (p.names.map .str))]):=be0 rfl (kR0 C p hp)
 have hbars:(aw0 bi0 (aa0 (aX0 1 (iLst (eVar 3)) (ao0 0) bn0 (eFn (W1 C) (aa0 (e2 φIx (bVar 0) (eC (.int 4))) (aa0 (eVar 6) aNil)))) aNil)) [.ow (.ins C [("soils",.tup (p.soils.map .int)),("top",.int p.top),("changes",.tup (p.crops.map fun c=> .int c.change)),("harvests",.tup (p.crops.map fun c=> .int c.harvest)),("gaps",.tup (p.crops.map fun c=> .int c.gap))]),.sh (.lst (p.soils.map .int)),.sh (.int p.top),.sh (.lst (p.crops.map al0)),.sh (at0 p.wants),.sh (.lst (p.names.map .str))]=some (.tup (p.crops.map fun c=>rowT (bY0 p c))):=by
  have e:=bf0 (n:=1) (it:=iLst (eVar 3)) (bd:=ao0 0) (f:=eFn (W1 C) (aa0 (e2 φIx (bVar 0) (eC (.int 4))) (aa0 (eVar 6) aNil))) (G:=mT0 p) (ε:=[.ow (.ins C [("soils",.tup (p.soils.map .int)),("top",.int p.top),("changes",.tup (p.crops.map fun c=> .int c.change)),("harvests",.tup (p.crops.map fun c=> .int c.harvest)),("gaps",.tup (p.crops.map fun c=> .int c.gap))]),.sh (.lst (p.soils.map .int)),.sh (.int p.top),.sh (.lst (p.crops.map al0)),.sh (at0 p.wants),.sh (.lst (p.names.map .str))]) (ts:=p.crops.map al0) rfl (by rw [List.length_map]; unfold big; omega) fun t ht=>by
   obtain⟨c,hc,rfl⟩:=List.mem_map.mp ht
   have b1:φIx (al0 c) (.int 4)=some (.lst (c.bars.map .str)):=aE0 _ 4 _ rfl
   have b2:=iB0 C p c.bars (hp.bars c hc) (hp.bar c hc) hf
   have b3:mT0 p (al0 c)=rowT (bY0 p c):=by
    show T.tup ((c.bars.map T.str).map (kA0 p))=T.tup ((c.bars.map (num p)).map intT)
    rw [List.map_map,List.map_map]
    rfl
   refine⟨_,rfl,?_⟩
   rw [b3]
   simp_arith! [List.replicate_one,List.singleton_append,b1,b2]
   rfl
  refine(dm0 e rfl).trans ?_
  rw [List.map_map]
  congr 2
  apply List.map_congr_left
  intro c _
  show T.tup ((c.bars.map T.str).map (kA0 p))=T.tup ((c.bars.map (num p)).map intT)
  rw [List.map_map,List.map_map]
  rfl
 have hwants:(aw0 bi0 (aa0 (aX0 2 (fW0 (eVar 4)) (cf0 0 1) bn0 (eTup (aa0 (eBM cD0 (bVar 7) (aa0 (bVar 0) aNil)) (aa0 (e2 φIx (bVar 1) (eC (.int 0))) (aa0 (e2 φIx (bVar 1) (eC (.int 1))) aNil))))) aNil)) [.ow (.ins C [("soils",.tup (p.soils.map .int)),("top",.int p.top),("changes",.tup (p.crops.map fun c=> .int c.change)),("harvests",.tup (p.crops.map fun c=> .int c.harvest)),("gaps",.tup (p.crops.map fun c=> .int c.gap)),("bars",.tup (p.crops.map fun c=>rowT (bY0 p c)))]),.sh (.lst (p.soils.map .int)),.sh (.int p.top),.sh (.lst (p.crops.map al0)),.sh (at0 p.wants),.sh (.lst (p.names.map .str))]=some (.tup (p.wants.map fun x=> .tup [intT (num p x.1),.int x.2.1,.int x.2.2])):=by
  have hi:fW0 (eVar 4) [.ow (.ins C [("soils",.tup (p.soils.map .int)),("top",.int p.top),("changes",.tup (p.crops.map fun c=> .int c.change)),("harvests",.tup (p.crops.map fun c=> .int c.harvest)),("gaps",.tup (p.crops.map fun c=> .int c.gap)),("bars",.tup (p.crops.map fun c=>rowT (bY0 p c)))]),.sh (.lst (p.soils.map .int)),.sh (.int p.top),.sh (.lst (p.crops.map al0)),.sh (at0 p.wants),.sh (.lst (p.names.map .str))]=some (p.wants.map fun x=> .tup [.str x.1,.tup [.int x.2.1,.int x.2.2]]):=by
   show some ((p.wants.map fun x=>(x.1,T.tup [.int x.2.1,.int x.2.2])).map fun kt=>T.tup [.str kt.1,kt.2])=_
   rw [List.map_map]
   rfl
  have e:=bf0 (n:=2) (bd:=cf0 0 1) (f:=eTup (aa0 (eBM cD0 (bVar 7) (aa0 (bVar 0) aNil)) (aa0 (e2 φIx (bVar 1) (eC (.int 0))) (aa0 (e2 φIx (bVar 1) (eC (.int 1))) aNil)))) (G:=oV0 p) hi (by rw [List.length_map]; have:=hp.fewW; unfold big; omega) fun t ht=>by
   obtain⟨⟨n,a,b⟩,hx,rfl⟩:=List.mem_map.mp ht
   have hn:n∈p.names:=hp.wants _ hx
   have c1:φIx (.tup [.int a,.int b]) (.int 0)=some (.int a):=aE0 _ 0 _ rfl
   have c2:φIx (.tup [.int a,.int b]) (.int 1)=some (.int b):=aE0 _ 1 _ rfl
   have c3:=hJ0 p.names n hn (by rw [List.length_map]; omega)
   have c4:∀(x y z:T),(if([x,y,z]:List T).length<=big then some (T.tup [x,y,z]) else none)=some (T.tup [x,y,z]):=fun x y z=>rfl
   refine⟨[.sh (.str n),.sh (.tup [.int a,.int b])]++ [.ow (.ins C [("soils",.tup (p.soils.map .int)),("top",.int p.top),("changes",.tup (p.crops.map fun c=> .int c.change)),("harvests",.tup (p.crops.map fun c=> .int c.harvest)),("gaps",.tup (p.crops.map fun c=> .int c.gap)),("bars",.tup (p.crops.map fun c=>rowT (bY0 p c)))]),.sh (.lst (p.soils.map .int)),.sh (.int p.top),.sh (.lst (p.crops.map al0)),.sh (at0 p.wants),.sh (.lst (p.names.map .str))],rfl,?_⟩
   simp_arith! [List.cons_append,List.nil_append,c1,c2,c3,c4]
   rfl
  refine(dm0 e rfl).trans ?_
  rw [List.map_map]
  rfl
 have hdepth:(aw0 ij0 (aa0 (eC (.int 1)) (aa0 (aw0 φMax (aa0 (eFld C "gaps" (bVar 0)) aNil)) aNil))) [.ow (.ins C [("soils",.tup (p.soils.map .int)),("top",.int p.top),("changes",.tup (p.crops.map fun c=> .int c.change)),("harvests",.tup (p.crops.map fun c=> .int c.harvest)),("gaps",.tup (p.crops.map fun c=> .int c.gap)),("bars",.tup (p.crops.map fun c=>rowT (bY0 p c))),("wants",.tup (p.wants.map fun x=> .tup [intT (num p x.1),.int x.2.1,.int x.2.2]))]),.sh (.lst (p.soils.map .int)),.sh (.int p.top),.sh (.lst (p.crops.map al0)),.sh (at0 p.wants),.sh (.lst (p.names.map .str))]=some (.int (depth p)):=by
  have hg:eFld C "gaps" (bVar 0) [.ow (.ins C [("soils",.tup (p.soils.map .int)),("top",.int p.top),("changes",.tup (p.crops.map fun c=> .int c.change)),("harvests",.tup (p.crops.map fun c=> .int c.harvest)),("gaps",.tup (p.crops.map fun c=> .int c.gap)),("bars",.tup (p.crops.map fun c=>rowT (bY0 p c))),("wants",.tup (p.wants.map fun x=> .tup [intT (num p x.1),.int x.2.1,.int x.2.2]))]),.sh (.lst (p.soils.map .int)),.sh (.int p.top),.sh (.lst (p.crops.map al0)),.sh (at0 p.wants),.sh (.lst (p.names.map .str))]=some (.tup (p.crops.map fun c=> .int c.gap)):=by
   show (if C=C then _ else _)=_
   rw [if_pos rfl]
   rfl
  have hm:aw0 φMax (aa0 (eFld C "gaps" (bVar 0)) aNil) [.ow (.ins C [("soils",.tup (p.soils.map .int)),("top",.int p.top),("changes",.tup (p.crops.map fun c=> .int c.change)),("harvests",.tup (p.crops.map fun c=> .int c.harvest)),("gaps",.tup (p.crops.map fun c=> .int c.gap)),("bars",.tup (p.crops.map fun c=>rowT (bY0 p c))),("wants",.tup (p.wants.map fun x=> .tup [intT (num p x.1),.int x.2.1,.int x.2.2]))]),.sh (.lst (p.soils.map .int)),.sh (.int p.top),.sh (.lst (p.crops.map al0)),.sh (at0 p.wants),.sh (.lst (p.names.map .str))]=(match p.crops.map (·.gap) with| []=>none|g::gs=>some (.int (maxI g gs))):=by
   have e3:(p.crops.map fun c=>T.int c.gap)=(p.crops.map (·.gap)).map T.int:=by rw [List.map_map]; rfl
   unfold aw0 aa0 aNil
   rw [hg,e3]
   show (dp0 ((p.crops.map (·.gap)).map T.int)).bind maxO=_
   rw [fS0]
   cases p.crops.map (·.gap)<;>rfl
  have hs:=hp.some
  unfold depth
  cases hc:p.crops.map (·.gap) with
  |nil=>
   have:(p.crops.map (·.gap)).length=0:=by rw [hc]; rfl
   rw [List.length_map] at this
   omega
  |cons g gs=>
   rw [hc] at hm
   exact fX0 rfl hm rfl
 have u0:cl0 C 0 "soils" (aw0 bi0 (aa0 (bVar 1) aNil)) [.ow (.ins C []),.sh (.lst (p.soils.map .int)),.sh (.int p.top),.sh (.lst (p.crops.map al0)),.sh (at0 p.wants),.sh (.lst (p.names.map .str))]=some (.nx [.ow (.ins C [("soils",.tup (p.soils.map .int))]),.sh (.lst (p.soils.map .int)),.sh (.int p.top),.sh (.lst (p.crops.map al0)),.sh (at0 p.wants),.sh (.lst (p.names.map .str))]):=by
  refine(cA0 (t:=(("soils",.tup (p.soils.map .int)):Str × T).2) rfl (by show 0<1000; decide) ?_).trans ?_
  ·exact rfl
  ·rfl
 have u1:cl0 C 0 "top" (eVar 2) [.ow (.ins C [("soils",.tup (p.soils.map .int))]),.sh (.lst (p.soils.map .int)),.sh (.int p.top),.sh (.lst (p.crops.map al0)),.sh (at0 p.wants),.sh (.lst (p.names.map .str))]=some (.nx [.ow (.ins C [("soils",.tup (p.soils.map .int)),("top",.int p.top)]),.sh (.lst (p.soils.map .int)),.sh (.int p.top),.sh (.lst (p.crops.map al0)),.sh (at0 p.wants),.sh (.lst (p.names.map .str))]):=by
  refine(cA0 (t:=(("top",.int p.top):Str × T).2) rfl (by show 1<1000; decide) ?_).trans ?_
  ·exact rfl
  ·rfl
 have u2:cl0 C 0 "changes" (aw0 bi0 (aa0 (aX0 1 (iLst (eVar 3)) (ao0 0) bn0 (e2 φIx (bVar 0) (eC (.int 1)))) aNil)) [.ow (.ins C [("soils",.tup (p.soils.map .int)),("top",.int p.top)]),.sh (.lst (p.soils.map .int)),.sh (.int p.top),.sh (.lst (p.crops.map al0)),.sh (at0 p.wants),.sh (.lst (p.names.map .str))]=some (.nx [.ow (.ins C [("soils",.tup (p.soils.map .int)),("top",.int p.top),("changes",.tup (p.crops.map fun c=> .int c.change))]),.sh (.lst (p.soils.map .int)),.sh (.int p.top),.sh (.lst (p.crops.map al0)),.sh (at0 p.wants),.sh (.lst (p.names.map .str))]):=by
  refine(cA0 (t:=(("changes",.tup (p.crops.map fun c=> .int c.change)):Str × T).2) rfl (by show 2<1000; decide) ?_).trans ?_
  ·exact(gD0 p 1 (fun c=> .int c.change) (fun c=>aE0 _ 1 _ rfl) hf _ rfl)
  ·rfl
 have u3:cl0 C 0 "harvests" (aw0 bi0 (aa0 (aX0 1 (iLst (eVar 3)) (ao0 0) bn0 (e2 φIx (bVar 0) (eC (.int 2)))) aNil)) [.ow (.ins C [("soils",.tup (p.soils.map .int)),("top",.int p.top),("changes",.tup (p.crops.map fun c=> .int c.change))]),.sh (.lst (p.soils.map .int)),.sh (.int p.top),.sh (.lst (p.crops.map al0)),.sh (at0 p.wants),.sh (.lst (p.names.map .str))]=some (.nx [.ow (.ins C [("soils",.tup (p.soils.map .int)),("top",.int p.top),("changes",.tup (p.crops.map fun c=> .int c.change)),("harvests",.tup (p.crops.map fun c=> .int c.harvest))]),.sh (.lst (p.soils.map .int)),.sh (.int p.top),.sh (.lst (p.crops.map al0)),.sh (at0 p.wants),.sh (.lst (p.names.map .str))]):=by
  refine(cA0 (t:=(("harvests",.tup (p.crops.map fun c=> .int c.harvest)):Str × T).2) rfl (by show 3<1000; decide) ?_).trans ?_
  ·exact(gD0 p 2 (fun c=> .int c.harvest) (fun c=>aE0 _ 2 _ rfl) hf _ rfl)
  ·rfl
 have u4:cl0 C 0 "gaps" (aw0 bi0 (aa0 (aX0 1 (iLst (eVar 3)) (ao0 0) bn0 (e2 φIx (bVar 0) (eC (.int 3)))) aNil)) [.ow (.ins C [("soils",.tup (p.soils.map .int)),("top",.int p.top),("changes",.tup (p.crops.map fun c=> .int c.change)),("harvests",.tup (p.crops.map fun c=> .int c.harvest))]),.sh (.lst (p.soils.map .int)),.sh (.int p.top),.sh (.lst (p.crops.map al0)),.sh (at0 p.wants),.sh (.lst (p.names.map .str))]=some (.nx [.ow (.ins C [("soils",.tup (p.soils.map .int)),("top",.int p.top),("changes",.tup (p.crops.map fun c=> .int c.change)),("harvests",.tup (p.crops.map fun c=> .int c.harvest)),("gaps",.tup (p.crops.map fun c=> .int c.gap))]),.sh (.lst (p.soils.map .int)),.sh (.int p.top),.sh (.lst (p.crops.map al0)),.sh (at0 p.wants),.sh (.lst (p.names.map .str))]):=by
  refine(cA0 (t:=(("gaps",.tup (p.crops.map fun c=> .int c.gap)):Str × T).2) rfl (by show 4<1000; decide) ?_).trans ?_
  ·exact(gD0 p 3 (fun c=> .int c.gap) (fun c=>aE0 _ 3 _ rfl) hf _ rfl)
  ·rfl
 have u5:cl0 C 0 "bars" (aw0 bi0 (aa0 (aX0 1 (iLst (eVar 3)) (ao0 0) bn0 (eFn (W1 C) (aa0 (e2 φIx (bVar 0) (eC (.int 4))) (aa0 (eVar 6) aNil)))) aNil)) [.ow (.ins C [("soils",.tup (p.soils.map .int)),("top",.int p.top),("changes",.tup (p.crops.map fun c=> .int c.change)),("harvests",.tup (p.crops.map fun c=> .int c.harvest)),("gaps",.tup (p.crops.map fun c=> .int c.gap))]),.sh (.lst (p.soils.map .int)),.sh (.int p.top),.sh (.lst (p.crops.map al0)),.sh (at0 p.wants),.sh (.lst (p.names.map .str))]=some (.nx [.ow (.ins C [("soils",.tup (p.soils.map .int)),("top",.int p.top),("changes",.tup (p.crops.map fun c=> .int c.change)),("harvests",.tup (p.crops.map fun c=> .int c.harvest)),("gaps",.tup (p.crops.map fun c=> .int c.gap)),("bars",.tup (p.crops.map fun c=>rowT (bY0 p c)))]),.sh (.lst (p.soils.map .int)),.sh (.int p.top),.sh (.lst (p.crops.map al0)),.sh (at0 p.wants),.sh (.lst (p.names.map .str))]):=by
  refine(cA0 (t:=(("bars",.tup (p.crops.map fun c=>rowT (bY0 p c))):Str × T).2) rfl (by show 5<1000; decide) ?_).trans ?_
  ·exact hbars
  ·rfl
 have u6:cl0 C 0 "wants" (aw0 bi0 (aa0 (aX0 2 (fW0 (eVar 4)) (cf0 0 1) bn0 (eTup (aa0 (eBM cD0 (bVar 7) (aa0 (bVar 0) aNil)) (aa0 (e2 φIx (bVar 1) (eC (.int 0))) (aa0 (e2 φIx (bVar 1) (eC (.int 1))) aNil))))) aNil)) [.ow (.ins C [("soils",.tup (p.soils.map .int)),("top",.int p.top),("changes",.tup (p.crops.map fun c=> .int c.change)),("harvests",.tup (p.crops.map fun c=> .int c.harvest)),("gaps",.tup (p.crops.map fun c=> .int c.gap)),("bars",.tup (p.crops.map fun c=>rowT (bY0 p c)))]),.sh (.lst (p.soils.map .int)),.sh (.int p.top),.sh (.lst (p.crops.map al0)),.sh (at0 p.wants),.sh (.lst (p.names.map .str))]=some (.nx [.ow (.ins C [("soils",.tup (p.soils.map .int)),("top",.int p.top),("changes",.tup (p.crops.map fun c=> .int c.change)),("harvests",.tup (p.crops.map fun c=> .int c.harvest)),("gaps",.tup (p.crops.map fun c=> .int c.gap)),("bars",.tup (p.crops.map fun c=>rowT (bY0 p c))),("wants",.tup (p.wants.map fun x=> .tup [intT (num p x.1),.int x.2.1,.int x.2.2]))]),.sh (.lst (p.soils.map .int)),.sh (.int p.top),.sh (.lst (p.crops.map al0)),.sh (at0 p.wants),.sh (.lst (p.names.map .str))]):=by
  refine(cA0 (t:=(("wants",.tup (p.wants.map fun x=> .tup [intT (num p x.1),.int x.2.1,.int x.2.2])):Str × T).2) rfl (by show 6<1000; decide) ?_).trans ?_
  ·exact hwants
  ·rfl
 have u7:cl0 C 0 "depth" (aw0 ij0 (aa0 (eC (.int 1)) (aa0 (aw0 φMax (aa0 (eFld C "gaps" (bVar 0)) aNil)) aNil))) [.ow (.ins C [("soils",.tup (p.soils.map .int)),("top",.int p.top),("changes",.tup (p.crops.map fun c=> .int c.change)),("harvests",.tup (p.crops.map fun c=> .int c.harvest)),("gaps",.tup (p.crops.map fun c=> .int c.gap)),("bars",.tup (p.crops.map fun c=>rowT (bY0 p c))),("wants",.tup (p.wants.map fun x=> .tup [intT (num p x.1),.int x.2.1,.int x.2.2]))]),.sh (.lst (p.soils.map .int)),.sh (.int p.top),.sh (.lst (p.crops.map al0)),.sh (at0 p.wants),.sh (.lst (p.names.map .str))]=some (.nx [.ow (.ins C [("soils",.tup (p.soils.map .int)),("top",.int p.top),("changes",.tup (p.crops.map fun c=> .int c.change)),("harvests",.tup (p.crops.map fun c=> .int c.harvest)),("gaps",.tup (p.crops.map fun c=> .int c.gap)),("bars",.tup (p.crops.map fun c=>rowT (bY0 p c))),("wants",.tup (p.wants.map fun x=> .tup [intT (num p x.1),.int x.2.1,.int x.2.2])),("depth",.int (depth p))]),.sh (.lst (p.soils.map .int)),.sh (.int p.top),.sh (.lst (p.crops.map al0)),.sh (at0 p.wants),.sh (.lst (p.names.map .str))]):=by
  refine(cA0 (t:=(("depth",.int (depth p)):Str × T).2) rfl (by show 7<1000; decide) ?_).trans ?_
  ·exact hdepth
  ·rfl
 rw [aC0 r1,aC0 r2,aC0 r3,aC0 r4,aC0 u0,aC0 u1,aC0 u2,aC0 u3,aC0 u4,aC0 u5,aC0 u6,u7]
 show (if C=C then some (bu0 p) else none)=_
 rw [if_pos rfl]
abbrev scrT (ns:List Int):T:=.scr ns
theorem ny0 (C:Addr)(ns:List Int)(k:Nat):J3 C [scrT ns,intT k]=some (false,.int (ns.getD k 0)):=by
 unfold J3 yd0
 refine(aI0 (ε:=[.sh (scrT ns),.sh (intT k)]) rfl rfl).trans ?_
 by_cases h:k<ns.length
 ·have h1:(k:Int)<(ns.length:Int):=by omega
  have h2:φIx (.scr ns) (intT k)=some (.int ns[k]):=by
   show (L2.atI ns (k:Int)).map T.int=_
   rw [L2.atI_nat (List.getElem?_eq_getElem h)]
   rfl
  simp_arith! [h1,h2]
  rw [List.getD_eq_getElem?_getD,List.getElem?_eq_getElem h]
  rfl
 ·have h1:¬(k:Int)<(ns.length:Int):=by omega
  simp_arith! [h1]
  rw [List.getD_eq_getElem?_getD,List.getElem?_eq_none (by omega)]
  rfl
theorem ci0 {gs:List T->Option (Bool × T)}{E F:En->Option T}{ε:En}{s t u:T}(hE:E ε=some s)(hF:F ε=some t)(hp:gs [s,t]=some (false,u)):eFn gs (aa0 E (aa0 F aNil)) ε=some u:=by
 unfold eFn aa0 aNil
 simp only [hE,hF,Option.bind_some,hp,noD,Bool.false_and,Bool.false_eq_true,if_false]
theorem fc0 {E:En->Option T}{ε:En}{t:T}(hE:E ε=some t):(sRet false E ε).bind cv0=some (false,t):=by
 unfold sRet
 rw [hE]
 rfl
def av0 (ns:List Int)(k:Nat):Int:=(ns.getD (k%61) 0+7919*(k:Int))*(48271+2*(k:Int))%2147483647
theorem cV0 (C:Addr)(ns:List Int)(k:Nat)(hk:k<=1000):j0 C [scrT ns,intT k]=some (false,.int (av0 ns k)):=by
 unfold j0 xd0
 refine(aI0 (ε:=[.sh (scrT ns),.sh (intT k)]) rfl rfl).trans ?_
 have c:=ny0 C ns (k%61)
 have m1:φMod (intT k) (.int 61)=some (intT (k%61)):=by
  simp only [intT,φMod]
  rw [if_pos (by omega)]
  rw [Int.natCast_emod]
  rfl
 have m2:∀i j:Int,-1000000<j->j<1000000->φMul (.int i) (.int j)=some (.int (i*j)):=fun i j h1 h2=>by
  simp only [φMul]
  rw [if_pos ⟨by omega,by omega⟩]
 have m3:∀i:Int,φMod (.int i) (.int 2147483647)=some (.int (i%2147483647)):=fun i=>by
  simp only [φMod]
  rw [if_pos (by omega)]
 have s0:e2 φMod (bVar 1) (eC (.int 61)) [.sh (scrT ns),.sh (intT k)]=some (intT (k%61)):=(ay0 (s:=intT k) (t:=.int 61) rfl rfl).trans m1
 have s1:eFn (J3 C) (aa0 (eVar 0) (aa0 (e2 φMod (bVar 1) (eC (.int 61))) aNil)) [.sh (scrT ns),.sh (intT k)]=some (.int (ns.getD (k%61) 0)):=ci0 rfl s0 c
 have s2:e2 φMul (eC (.int 7919)) (bVar 1) [.sh (scrT ns),.sh (intT k)]=some (.int (7919*(k:Int))):=(ay0 (s:=.int 7919) (t:=intT k) rfl rfl).trans (m2 _ _ (by omega) (by omega))
 have s3:=(ay0 (φ:=φAdd) s1 s2)
 have s4:e2 φMul (eC (.int 2)) (bVar 1) [.sh (scrT ns),.sh (intT k)]=some (.int (2*(k:Int))):=(ay0 (s:=.int 2) (t:=intT k) rfl rfl).trans (m2 _ _ (by omega) (by omega))
 have s5:=(ay0 (φ:=φAdd) (f:=eC (.int 48271)) (s:=.int 48271) rfl s4)
 have s6:=(ay0 (φ:=φMul) s3 s5).trans (m2 _ _ (by omega) (by omega))
 have s7:=(ay0 (φ:=φMod) (g:=eC (.int 2147483647)) (t:=.int 2147483647) s6 rfl).trans (m3 _)
 exact fc0 s7
def dL0 (p:Plot):T:=.lst [.lst (p.soils.map .int),.int p.top,.lst (p.crops.map al0),at0 p.wants]
theorem iQ0 (C:Addr)(p:Plot)(hf:p.crops.length<=5):x9 C [aK0 p]=some (true,dL0 p):=by
 unfold x9 Vd0
 refine(aI0 (ε:=[.sh (aK0 p),.un]) rfl rfl).trans ?_
 have a0:φIx (aK0 p) (.int 0)=some (.lst (p.soils.map .int)):=aE0 _ 0 _ rfl
 have a1:φIx (aK0 p) (.int 1)=some (.int p.top):=aE0 _ 1 _ rfl
 have a2:φIx (aK0 p) (.int 2)=some (.lst (p.crops.map al0)):=aE0 _ 2 _ rfl
 have a3:φIx (aK0 p) (.int 3)=some (at0 p.wants):=aE0 _ 3 _ rfl
 have hi:iLst (e2 φIx (bVar 0) (eC (.int 2))) [.sh (aK0 p),.un]=some (p.crops.map al0):=by simp_arith! [a2]
 have e:=bf0 (n:=1) (bd:=ao0 0) (f:=e2 cx0 (eSlT (bVar 0) (ba0 none) (ba0 (some (eC (.int 4))))) (eTup (aa0 (aw0 fs0 (aa0 (e2 φIx (bVar 0) (eC (.int 4))) aNil)) aNil))) (G:=id) hi (by rw [List.length_map]; unfold big; omega) fun t ht=>by
  obtain⟨c,hc,rfl⟩:=List.mem_map.mp ht
  have b4:φIx (al0 c) (.int 4)=some (.lst (c.bars.map .str)):=aE0 _ 4 _ rfl
  have b5:∀x:T,(if([x]:List T).length<=big then some (T.tup [x]) else none)=some (T.tup [x]):=fun x=>rfl
  refine⟨[.sh (al0 c),.sh (aK0 p),.un],rfl,?_⟩
  simp_arith! [b4,fs0,b5,al0]
  rfl
 rw [List.map_id] at e
 have r1:sSet 1 (aX0 1 (iLst (e2 φIx (bVar 0) (eC (.int 2)))) (ao0 0) bn0 (e2 cx0 (eSlT (bVar 0) (ba0 none) (ba0 (some (eC (.int 4))))) (eTup (aa0 (aw0 fs0 (aa0 (e2 φIx (bVar 0) (eC (.int 4))) aNil)) aNil)))) [.sh (aK0 p),.un]=some (.nx [.sh (aK0 p),.sh (.lst (p.crops.map al0))]):=by
  unfold sSet
  rw [e]
  rfl
 rw [aC0 r1]
 have b6:∀x y z w:T,(if([x,y,z,w]:List T).length<=big then some (T.lst [x,y,z,w]) else none)=some (T.lst [x,y,z,w]):=fun x y z w=>rfl
 have b7:jY0 [at0 p.wants]=some (at0 p.wants):=rfl
 simp_arith! [a0,a1,a3,fs0,b7,b6]
 rfl
theorem bp0 (i j:Int)(h:0<j):φMod (.int i) (.int j)=some (.int (i%j)):=by
 simp only [φMod]
 rw [if_pos h]
theorem jI0 (i j:Int)(h1: -1000000<j)(h2:j<1000000):φMul (.int i) (.int j)=some (.int (i*j)):=by
 simp only [φMul]
 rw [if_pos ⟨by omega,by omega⟩]
theorem jL0 (i j:Int)(h:0<j)(h2:j<1000):φDiv (.int i) (.int j)=some (.int (i / j)):=by
 simp only [φDiv]
 rw [if_pos ⟨h,by omega⟩]
theorem eqI (i j:Int):φEq (.int i) (.int j)=some (.bl (decide (i=j))):=by
 show some (T.bl (decide (V.int i=V.int j)))=_
 by_cases h:i=j
 ·subst h; simp
 ·rw [decide_eq_false h,decide_eq_false fun z=>h (V.int.inj z)]
theorem aU0 {i:Nat}{f:En->Option T}{ε:En}{t:T}(h:f ε=some t):sSet i f ε=some (.nx (ε.set i (.sh t))):=by
 unfold sSet
 rw [h]
 rfl
theorem hP0 {i:Nat}{f:En->Option T}{ε:En}{t:T}(h:f ε=some t)(hi:isI t=false):cz0 i f ε=some (.nx (ε.set i (.ow t))):=by
 unfold cz0
 rw [h]
 show (if isI t=true then none else _)=_
 rw [hi]
 rfl
theorem eQ0 {q:En->Option Bool}{a b:En->Option Fl}{ε:En}{c:Bool}(h:q ε=some c):sIf q a b ε=if c=true then a ε else b ε:=by
 unfold sIf
 rw [h]
 rfl
theorem gh0 {f:En->Option T}{ε:En}{b:Bool}(h:f ε=some (.bl b)):qB f ε=some b:=by
 unfold qB
 rw [h]
theorem ret1 {o:Bool}{E:En->Option T}{ε:En}{t:T}(h:E ε=some t):sRet o E ε=some (.rt o t):=by
 unfold sRet
 rw [h]
 rfl
theorem cr0 {g h:En->Option Fl}{ε ε1:En}(h1:g ε=some (.nx ε1)):(sSeq g h ε).bind cv0=(h ε1).bind cv0:=by rw [aC0 h1]
theorem pk0 {g h:En->Option Fl}{ε:En}{o:Bool}{t:T}(h1:g ε=some (.rt o t)):sSeq g h ε=some (.rt o t):=by
 unfold sSeq
 rw [h1]
 rfl
theorem pb0 {g h:En->Option Fl}{ε:En}{o:Bool}{t:T}(h1:g ε=some (.rt o t)):(sSeq g h ε).bind cv0=some (o,t):=by
 rw [pk0 h1]
 rfl
theorem az0 {f:En->Option T}{g:En->Option (List T)}{ε:En}{t:T}{ts:List T}(h1:f ε=some t)(h2:g ε=some ts):aa0 f g ε=some (t::ts):=by
 unfold aa0
 rw [h1,Option.bind_some,h2]
 rfl
theorem fk0 {g:En->Option (List T)}{ε:En}{ts:List T}(h:g ε=some ts)(hl:ts.length<=big):eTup g ε=some (.tup ts):=by
 unfold eTup
 rw [h]
 show (if _ then _ else _)=_
 rw [if_pos hl]
theorem ly0 {g:En->Option (List T)}{ε:En}{ts:List T}(h:g ε=some ts)(hl:ts.length<=big):eLst g ε=some (.lst ts):=by
 unfold eLst
 rw [h]
 show (if _ then _ else _)=_
 rw [if_pos hl]
theorem nx0 {i:Nat}{f:En->Option T}{ε:En}{ts:List T}{t:T}(h0:ε[i]?=some (.ow (.lst ts)))(hl:ts.length<big)(hf:f ε=some t):sApp i f ε=some (.nx (ε.set i (.ow (.lst (ts++ [t]))))):=by
 unfold sApp
 rw [h0]
 show (f ε).bind _=_
 rw [hf]
 show (if _ then _ else _)=_
 rw [if_pos hl]
theorem lZ0 {i:Nat}{fk fv:En->Option T}{ε:En}{kts:List (Str × T)}{k:Str}{v:T}(h0:ε[i]?=some (.ow (.dct kts)))(hl:kts.length<big)(hv:fv ε=some v)(hk:fk ε=some (.str k)):BD.sDPut i fk fv ε=some (.nx (ε.set i (.ow (.dct (putT kts k v))))):=by
 unfold BD.sDPut
 rw [h0]
 show (fv ε).bind _=_
 rw [hv,Option.bind_some,hk]
 show (if _ then _ else _)=_
 rw [if_pos hl]
theorem dk0 {g:En->Option (List T)}{ε:En}{n:Nat}(h:g ε=some [intT n])(hn:n<1000000):aR0 g ε=some (bb0 0 n):=by
 unfold aR0
 rw [h]
 show (if -(2^62)<=(n:Int)/\(n:Int)<2^62 then some (bb0 0 (n:Int).toNat) else none)=_
 rw [if_pos ⟨by omega,by omega⟩,Int.toNat_natCast]
theorem fA0 (l:List Int)(m lo hi:Int)(h0:0<=m)(h1:m<l.length)(hl:∀x∈l,lo<=x/\x<=hi):∃v,φIx (.lst (l.map .int)) (.int m)=some (.int v)/\lo<=v/\v<=hi:=by
 obtain⟨k,rfl⟩:=Int.eq_ofNat_of_zero_le h0
 have hk:k<l.length:=by omega
 exact⟨l[k],dF0 _ k _ (by rw [List.getElem?_map,List.getElem?_eq_getElem hk]; rfl),hl _ (List.getElem_mem hk)⟩
theorem hE0 {n:Nat}{ε:En}{bd:T->En->Option En}{f:En->Option T}{α:Type}(E:α->T)(R:T->α->Prop):∀(ts:List T),
  (∀t,t∈ts->∃ε1 a,bd t (List.replicate n .un++ε)=some ε1/\f ε1=some (E a)/\R t a)->∃as:List α,dK0 n ε bd bn0 f ts=some (as.map E)/\as.length=ts.length/\∀(i:Nat) t,ts[i]?=some t->∃a,as[i]?=some a/\R t a
 | [],_=>⟨[],rfl,rfl,fun i t h=>by simp at h⟩
 |t::ts,h=>by
  obtain⟨ε1,a,h1,h2,h3⟩:=h t (List.mem_cons_self ..)
  obtain⟨as,h4,h5,h6⟩:=hE0 E R ts fun u hu=>h u (List.mem_cons_of_mem _ hu)
  refine⟨a::as,?_,by simp [h5],fun i u hu=> ?_⟩
  ·unfold dK0
   have q:bn0 ε1=some true:=rfl
   rw [h1,Option.bind_some,q,Option.bind_some,if_pos rfl,h2,Option.bind_some,h4]
   rfl
  ·cases i with
   |zero=>simp at hu; subst hu; exact⟨a,rfl,h3⟩
   |succ i=>
    obtain⟨b,q1,q2⟩:=h6 i u (by simpa using hu)
    exact⟨b,by simpa using q1,q2⟩
theorem gS0 {n:Nat}{it:En->Option (List T)}{ε:En}{bd:T->En->Option En}{f:En->Option T}{α:Type}{ts:List T}(E:α->T)(R:T->α->Prop)(hi:it ε=some ts)(hl:ts.length<=big)
  (h:∀t,t∈ts->∃ε1 a,bd t (List.replicate n .un++ε)=some ε1/\f ε1=some (E a)/\R t a):∃as:List α,aX0 n it bd bn0 f ε=some (.lst (as.map E))/\as.length=ts.length/\∀(i:Nat) t,ts[i]?=some t->∃a,as[i]?=some a/\R t a:=by
 obtain⟨as,h1,h2⟩:=hE0 (ε:=ε) (n:=n) (bd:=bd) (f:=f) E R ts h
 refine⟨as,?_,h2⟩
 unfold aX0
 rw [hi,Option.bind_some,if_pos hl,h1]
 rfl
theorem em0 {n i:Nat}(h:i<n):(bb0 0 n)[i]?=some (intT i):=by
 rw [bE0,List.getElem?_map,List.getElem?_range h]
 rfl
theorem bt0 (n:Nat):(bb0 0 n).length=n:=by rw [bE0,List.length_map,List.length_range]
theorem gd0 {n i:Nat}{t:T}(h:(bb0 0 n)[i]?=some t):i<n/\t=intT i:=by
 obtain⟨h1,h2⟩:=eO0 h
 exact⟨h1,by rw [h2,Int.zero_add]⟩
theorem iG0 (C:Addr)(ns:List Int):∃b:Nat,(1<=b/\b<=3)/\Z6 C [scrT ns,.int 2]=some (false,intT b):=by
 have t1:φEq (.int 2) (.int 3)=some (.bl false):=by rw [eqI]; rfl
 have t2:φEq (.int 2) (.int 2)=some (.bl true):=by rw [eqI]; rfl
 have h0:0<=av0 ns 8%2:=Int.emod_nonneg _ (by decide)
 have h1:av0 ns 8%2<2:=Int.emod_lt_of_pos _ (by decide)
 have go:∀(r:Bool × T),((sSeq (sIf (qAnd (qB (e2 φEq (bVar 1) (eC (.int 2)))) (qB (e2 φEq (e2 φMod (bVar 2) (eC (.int 8))) (eC (.int 7))))) (sRet false (eC (.int 3))) sNx)
  (sRet false (e2 φAdd (eC (.int 1)) (e2 φMod (bVar 2) (eC (.int 2)))))) [.sh (scrT ns),.sh (.int 2),.sh (.int (av0 ns 8))]).bind cv0=some r->Z6 C [scrT ns,.int 2]=some r:=fun r hr=>by
  unfold Z6 Zd0
  refine Eq.trans (aI0 (ε:=[.sh (scrT ns),.sh (.int 2),.un]) rfl rfl) ?_
  refine Eq.trans (cr0 (aU0 (ci0 rfl rfl (cV0 C ns 8 (by decide))))) ?_
  refine Eq.trans (cr0 (ez0 (gh0 ((ay0 rfl rfl).trans t1)))) ?_
  exact hr
 have q2:qB (e2 φEq (e2 φMod (bVar 2) (eC (.int 8))) (eC (.int 7))) [.sh (scrT ns),.sh (.int 2),.sh (.int (av0 ns 8))]=some (decide (av0 ns 8%8=7)):=
  gh0 ((ay0 ((ay0 (s:=.int (av0 ns 8)) (t:=.int 8) rfl rfl).trans (bp0 _ _ (by decide))) rfl).trans (eqI _ _))
 have q:qAnd (qB (e2 φEq (bVar 1) (eC (.int 2)))) (qB (e2 φEq (e2 φMod (bVar 2) (eC (.int 8))) (eC (.int 7)))) [.sh (scrT ns),.sh (.int 2),.sh (.int (av0 ns 8))]=some (decide (av0 ns 8%8=7)):=by
  unfold qAnd
  rw [gh0 (b:=true) ((ay0 rfl rfl).trans t2),Option.bind_some,if_pos rfl]
  exact q2
 by_cases h:av0 ns 8%8=7
 ·refine⟨3,by decide,go _ (pb0 (Eq.trans (eQ0 q) ?_))⟩
  rw [decide_eq_true h,if_pos rfl]
  exact ret1 rfl
 ·refine⟨(1+av0 ns 8%2).toNat,by omega,go _ ?_⟩
  have e0:intT (1+av0 ns 8%2).toNat=.int (1+av0 ns 8%2):=by
   show T.int _=_
   rw [Int.toNat_of_nonneg (by omega)]
  rw [e0]
  refine Eq.trans (cr0 (ez0 ?_)) (fc0 ?_)
  ·rw [q,decide_eq_false h]
  ·exact ay0 (φ:=φAdd) (s:=.int 1) rfl ((ay0 (s:=.int (av0 ns 8)) (t:=.int 2) rfl rfl).trans (bp0 _ _ (by decide)))
section
variable (C:Addr)(ns:List Int)
theorem jW0 {ε:En}{c k:Nat}{i:Nat}(h0:eVar 0 ε=some (scrT ns))(h1:bVar i ε=some (intT k))(hk:k<5)(hc:c<=100):
  eFn (j0 C) (aa0 (eVar 0) (aa0 (e2 φAdd (eC (.int (c:Int))) (e2 φMul (eC (.int 10)) (bVar i))) aNil)) ε=some (.int (av0 ns (c+10*k))):=by
 have s1:e2 φMul (eC (.int 10)) (bVar i) ε=some (.int (10*(k:Int))):=(ay0 (s:=.int 10) (t:=intT k) rfl h1).trans (jI0 _ _ (by omega) (by omega))
 have s2:e2 φAdd (eC (.int (c:Int))) (e2 φMul (eC (.int 10)) (bVar i)) ε=some (intT (c+10*k)):=by
  rw [ay0 (φ:=φAdd) (s:=.int (c:Int)) rfl s1]
  refine congrArg (fun z=>some (T.int z)) ?_
  omega
 exact ci0 h0 s2 (cV0 C ns _ (by omega))
theorem jv0 (k:Nat)(names:List Str)(hn:names.length<=5)(hk:k<names.length)(gaps:Int)(hg:0<=gaps/\gaps<=3):
  ∃c:Crop,K3 C [scrT ns,intT k,.lst (names.map .str),.int gaps]=some (false,al0 c)/\names[k]?=some c.name/\(-3<=c.change/\c.change<=3)/\(0<=c.harvest/\c.harvest<=1000)/\(0<=c.gap/\c.gap<=gaps)/\(∀b∈c.bars,b∈names)/\c.bars.length<=5:=by
 have hz:∀(h:Int),φIx (.lst [.int 10,.int 3,.int 1001]) (.int (av0 ns 9%3))=some (.int h)->True:=fun _ _=>trivial
 obtain⟨hv,hv1,hv2,hv3⟩:=fA0 [10,3,1001] (av0 ns 9%3) 3 1001 (Int.emod_nonneg _ (by decide)) (Int.emod_lt_of_pos _ (by decide)) (by decide)
 have lp:=bh0 (bd:=ao0 5) (body:=sIf (qB (e2 φEq (e2 φMod (eFn (j0 C) (aa0 (eVar 0) (aa0 (e2 φAdd (e2 φAdd (eC (.int 20)) (e2 φMul (eC (.int 10)) (bVar 1))) (bVar 5)) aNil))) (eC (.int 5))) (eC (.int 1)))) (sApp 4 (e2 φIx (bVar 2) (bVar 5))) sNx)
  (fun i ε=>∃(bs:List Str) (x:Sl),ε=[.sh (scrT ns),.sh (intT k),.sh (.lst (names.map .str)),.sh (.int gaps),.ow (.lst (bs.map .str)),x,.un,.un]/\(∀b∈bs,b∈names)/\bs.length<=i)
  (bb0 0 names.length) 0 [.sh (scrT ns),.sh (intT k),.sh (.lst (names.map .str)),.sh (.int gaps),.ow (.lst []),.un,.un,.un] ⟨[],.un,rfl,(fun b hb=>nomatch hb),Nat.le_refl _⟩ fun i t ε ht hI=>by
   obtain⟨hi,rfl⟩:=gd0 ht
   obtain⟨bs,x,rfl,hb,hl⟩:=hI
   rw [Nat.zero_add] at hl ⊢
   have s1:e2 φMul (eC (.int 10)) (bVar 1) [.sh (scrT ns),.sh (intT k),.sh (.lst (names.map .str)),.sh (.int gaps),.ow (.lst (bs.map .str)),.sh (intT i),.un,.un]=some (.int (10*(k:Int))):=(ay0 (s:=.int 10) (t:=intT k) rfl rfl).trans (jI0 _ _ (by omega) (by omega))
   have s2:=ay0 (φ:=φAdd) (f:=eC (.int 20)) (s:=.int 20) rfl s1
   have s3:e2 φAdd (e2 φAdd (eC (.int 20)) (e2 φMul (eC (.int 10)) (bVar 1))) (bVar 5) [.sh (scrT ns),.sh (intT k),.sh (.lst (names.map .str)),.sh (.int gaps),.ow (.lst (bs.map .str)),.sh (intT i),.un,.un]=some (intT (20+10*k+i)):=by
    rw [ay0 (φ:=φAdd) (g:=bVar 5) (t:=intT i) s2 rfl]
    refine congrArg (fun z=>some (T.int z)) ?_
    omega
   have s4:eFn (j0 C) (aa0 (eVar 0) (aa0 (e2 φAdd (e2 φAdd (eC (.int 20)) (e2 φMul (eC (.int 10)) (bVar 1))) (bVar 5)) aNil)) [.sh (scrT ns),.sh (intT k),.sh (.lst (names.map .str)),.sh (.int gaps),.ow (.lst (bs.map .str)),.sh (intT i),.un,.un]=some (.int (av0 ns (20+10*k+i))):=ci0 rfl s3 (cV0 C ns _ (by omega))
   have s5:=(ay0 (φ:=φMod) (g:=eC (.int 5)) (t:=.int 5) s4 rfl).trans (bp0 _ 5 (by decide))
   have s6:=gh0 ((ay0 (φ:=φEq) (g:=eC (.int 1)) (t:=.int 1) s5 rfl).trans (eqI _ _))
   refine⟨_,(if av0 ns (20+10*k+i)%5=1 then [.sh (scrT ns),.sh (intT k),.sh (.lst (names.map .str)),.sh (.int gaps),.ow (.lst ((bs++ [names[i]]).map .str)),.sh (intT i),.un,.un] else [.sh (scrT ns),.sh (intT k),.sh (.lst (names.map .str)),.sh (.int gaps),.ow (.lst (bs.map .str)),.sh (intT i),.un,.un]),rfl,.inl ?_,?_⟩
   ·refine Eq.trans (eQ0 s6) ?_
    by_cases hq:av0 ns (20+10*k+i)%5=1
    ·rw [if_pos hq,if_pos (decide_eq_true hq)]
     have hx:φIx (.lst (names.map .str)) (intT i)=some (.str names[i]):=dF0 _ i _ (by rw [List.getElem?_map,List.getElem?_eq_getElem hi]; rfl)
     refine Eq.trans (nx0 (ts:=bs.map .str) (t:=.str names[i]) rfl (by rw [List.length_map]; unfold big; omega) ((ay0 rfl rfl).trans hx)) ?_
     rw [List.map_append]
     rfl
    ·rw [if_neg hq,if_neg (by simp [hq])]
     rfl
   ·by_cases hq:av0 ns (20+10*k+i)%5=1
    ·rw [if_pos hq]
     refine⟨_,_,rfl,fun b hb'=> ?_,by rw [List.length_append]; simp; omega⟩
     rcases List.mem_append.mp hb' with h|h
     ·exact hb b h
     ·rw [List.mem_singleton.mp h]; exact List.getElem_mem hi
    ·rw [if_neg hq]
     exact⟨_,_,rfl,hb,by omega⟩
 obtain⟨ε',hl,bs,x,rfl,hbs,hbl⟩:=lp
 rw [bt0] at hbl
 refine⟨⟨names[k],av0 ns (27+10*k)%7 - 3,av0 ns (26+10*k)%hv,av0 ns (28+10*k)%(gaps+1),bs⟩,?_,List.getElem?_eq_getElem hk,?_,?_,?_,hbs,by show bs.length<=5; omega⟩
 ·unfold K3 Qd0
  refine Eq.trans (aI0 (ε:=[.sh (scrT ns),.sh (intT k),.sh (.lst (names.map .str)),.sh (.int gaps),.un,.un,.un,.un]) rfl rfl) ?_
  refine Eq.trans (cr0 (hP0 (t:=.lst []) (ly0 rfl (Nat.zero_le _)) rfl)) ?_
  refine Eq.trans (cr0 (cy0 (dk0 (n:=names.length) (az0 (dm0 rfl (by show some (T.int _)=_; rw [List.length_map])) rfl) (by omega)) hl)) ?_
  have d26:=jW0 C ns (ε:=[.sh (scrT ns),.sh (intT k),.sh (.lst (names.map .str)),.sh (.int gaps),.ow (.lst (bs.map .str)),x,.un,.un]) (c:=26) (k:=k) (i:=1) rfl rfl (by omega) (by decide)
  have d9:eFn (j0 C) (aa0 (eVar 0) (aa0 (eC (.int 9)) aNil)) [.sh (scrT ns),.sh (intT k),.sh (.lst (names.map .str)),.sh (.int gaps),.ow (.lst (bs.map .str)),x,.un,.un]=some (.int (av0 ns 9)):=ci0 rfl rfl (cV0 C ns 9 (by decide))
  have i9:=(ay0 (φ:=φIx) (f:=eLst (aa0 (eC (.int 10)) (aa0 (eC (.int 3)) (aa0 (eC (.int 1001)) aNil)))) (s:=.lst [.int 10,.int 3,.int 1001]) rfl ((ay0 (φ:=φMod) (g:=eC (.int 3)) (t:=.int 3) d9 rfl).trans (bp0 _ 3 (by decide)))).trans hv1
  refine Eq.trans (cr0 (aU0 ((ay0 (φ:=φMod) d26 i9).trans (bp0 _ _ (by omega))))) ?_
  have d27:=jW0 C ns (ε:=[.sh (scrT ns),.sh (intT k),.sh (.lst (names.map .str)),.sh (.int gaps),.ow (.lst (bs.map .str)),x,.sh (.int (av0 ns (26+10*k)%hv)),.un]) (c:=27) (k:=k) (i:=1) rfl rfl (by omega) (by decide)
  refine Eq.trans (cr0 (aU0 (ay0 (φ:=φSub) (t:=.int 3) ((ay0 (φ:=φMod) (t:=.int 7) d27 rfl).trans (bp0 _ _ (by decide))) rfl))) ?_
  have d28:=jW0 C ns (ε:=[.sh (scrT ns),.sh (intT k),.sh (.lst (names.map .str)),.sh (.int gaps),.sh (.lst (bs.map .str)),x,.sh (.int (av0 ns (26+10*k)%hv)),.sh (.int (av0 ns (27+10*k)%7 - 3))]) (c:=28) (k:=k) (i:=1) rfl rfl (by omega) (by decide)
  have hx:φIx (.lst (names.map .str)) (intT k)=some (.str names[k]):=dF0 _ k _ (by rw [List.getElem?_map,List.getElem?_eq_getElem hk]; rfl)
  refine fc0 ?_
  refine fk0 (az0 ((ay0 rfl rfl).trans hx) (az0 rfl (az0 rfl (az0 ((ay0 (φ:=φMod) d28 (ay0 (φ:=φAdd) (s:=.int gaps) (t:=.int 1) rfl rfl)).trans (bp0 _ _ (by omega))) (az0 rfl rfl))))) (show (5:Nat)<=1000000 by decide)
 ·have a:=Int.emod_nonneg (av0 ns (27+10*k)) (show (7:Int)≠0 by decide)
  have b:=Int.emod_lt_of_pos (av0 ns (27+10*k)) (show (0:Int)<7 by decide)
  show -3<=av0 ns (27+10*k)%7 - 3/\av0 ns (27+10*k)%7 - 3<=3
  omega
 ·have a:=Int.emod_nonneg (av0 ns (26+10*k)) (show hv≠0 by omega)
  have b:=Int.emod_lt_of_pos (av0 ns (26+10*k)) (show 0<hv by omega)
  show 0<=av0 ns (26+10*k)%hv/\av0 ns (26+10*k)%hv<=1000
  omega
 ·have a:=Int.emod_nonneg (av0 ns (28+10*k)) (show gaps+1≠0 by omega)
  have b:=Int.emod_lt_of_pos (av0 ns (28+10*k)) (show 0<gaps+1 by omega)
  show 0<=av0 ns (28+10*k)%(gaps+1)/\av0 ns (28+10*k)%(gaps+1)<=gaps
  omega
end
section
variable (C:Addr)(ns:List Int)
theorem nE0 {ws:List (Str × Int × Int)}{x:Str}(h:∀w∈ws,w.1≠x)(a b:Int):putT (ws.map fun x=>(x.1,T.tup [.int x.2.1,.int x.2.2])) x (.tup [.int a,.int b])=(ws++ [(x,a,b)]).map fun x=>(x.1,T.tup [.int x.2.1,.int x.2.2]):=by
 unfold putT
 rw [if_neg,List.map_append]
 ·rfl
 ·intro z
  obtain⟨q,hq,e⟩:=List.any_eq_true.mp z
  obtain⟨w,hw,rfl⟩:=List.mem_map.mp hq
  exact h w hw (of_decide_eq_true e)
theorem ig0 (names:List Str)(hn:names.length<=5)(nd:names.Nodup)(b:Nat)(hb:b<=3):
  ∃ws:List (Str × Int × Int),K6 C [scrT ns,.lst (names.map .str),intT b]=some (true,at0 ws)/\(ws.map (·.1)).Nodup/\(∀x∈ws,x.1∈names)/\(∀x∈ws,0<=x.2.1/\x.2.1<=x.2.2/\x.2.2<=3)/\ws.length<=5:=by
 have lp:=bh0 (bd:=ao0 4) (body:=sSeq (sSet 5 (eFn (j0 C) (aa0 (eVar 0) (aa0 (e2 φAdd (eC (.int 80)) (bVar 4)) aNil))))
  (sIf (qB (e2 φEq (e2 φMod (bVar 5) (eC (.int 5))) (eC (.int 1)))) (sSeq (sSet 6 (e2 φIx (eLst (aa0 (eC (.int 0)) (aa0 (eC (.int 0)) (aa0 (eC (.int 1)) (aa0 (eVar 2) aNil))))) (e2 φMod (e2 φDiv (bVar 5) (eC (.int 5))) (eC (.int 4)))))
  (BD.sDPut 3 (e2 φIx (bVar 1) (bVar 4)) (eTup (aa0 (eVar 6) (aa0 (aw0 dy0 (aa0 (eC (.int 3)) (aa0 (e2 φAdd (bVar 6) (e2 φMod (e2 φDiv (bVar 5) (eC (.int 20))) (e2 φAdd (bVar 2) (eC (.int 1))))) aNil))) aNil))))) sNx))
  (fun i ε=>∃(ws:List (Str × Int × Int)) (x4 x5 x6:Sl),ε=[.sh (scrT ns),.sh (.lst (names.map .str)),.sh (intT b),.ow (at0 ws),x4,x5,x6]/\(ws.map (·.1)).Nodup/\(∀x∈ws,∃j,j<i/\names[j]?=some x.1)/\(∀x∈ws,0<=x.2.1/\x.2.1<=x.2.2/\x.2.2<=3)/\ws.length<=i)
  (bb0 0 names.length) 0 [.sh (scrT ns),.sh (.lst (names.map .str)),.sh (intT b),.ow (at0 []),.un,.un,.un] ⟨[],.un,.un,.un,rfl,List.nodup_nil,(fun x hx=>nomatch hx),(fun x hx=>nomatch hx),Nat.le_refl _⟩ fun i t ε ht hI=>by
   obtain⟨hi,rfl⟩:=gd0 ht
   obtain⟨ws,x4,x5,x6,rfl,h1,h2,h3,h4⟩:=hI
   rw [Nat.zero_add] at h2 h4 ⊢
   have s1:e2 φAdd (eC (.int 80)) (bVar 4) [.sh (scrT ns),.sh (.lst (names.map .str)),.sh (intT b),.ow (at0 ws),.sh (intT i),x5,x6]=some (intT (80+i)):=by
    rw [ay0 (φ:=φAdd) (s:=.int 80) (t:=intT i) rfl rfl]
    refine congrArg (fun z=>some (T.int z)) ?_
    omega
   have s2:eFn (j0 C) (aa0 (eVar 0) (aa0 (e2 φAdd (eC (.int 80)) (bVar 4)) aNil)) [.sh (scrT ns),.sh (.lst (names.map .str)),.sh (intT b),.ow (at0 ws),.sh (intT i),x5,x6]=some (.int (av0 ns (80+i))):=ci0 rfl s1 (cV0 C ns _ (by omega))
   have s3:e2 φMod (bVar 5) (eC (.int 5)) [.sh (scrT ns),.sh (.lst (names.map .str)),.sh (intT b),.ow (at0 ws),.sh (intT i),.sh (.int (av0 ns (80+i))),x6]=some (.int (av0 ns (80+i)%5)):=(ay0 (s:=.int (av0 ns (80+i))) (t:=.int 5) rfl rfl).trans (bp0 _ _ (by decide))
   have s4:=gh0 ((ay0 (φ:=φEq) (g:=eC (.int 1)) (t:=.int 1) s3 rfl).trans (eqI _ _))
   by_cases hq:av0 ns (80+i)%5=1
   ·obtain⟨lv,l1,l2,l3⟩:=fA0 [0,0,1,(b:Int)] (av0 ns (80+i) / 5%4) 0 3 (Int.emod_nonneg _ (by decide)) (Int.emod_lt_of_pos _ (by decide)) (by
     intro x hx
     simp only [List.mem_cons,List.not_mem_nil,or_false] at hx
     omega)
    have m0:=Int.emod_nonneg (av0 ns (80+i) / 20) (show (b:Int)+1≠0 by omega)
    have hx:φIx (.lst (names.map .str)) (intT i)=some (.str names[i]):=dF0 _ i _ (by rw [List.getElem?_map,List.getElem?_eq_getElem hi]; rfl)
    have fresh:∀w∈ws,w.1≠names[i]:=fun w hw z=>by
     obtain⟨j,hj,e⟩:=h2 w hw
     rw [z] at e
     have:=(List.getElem?_inj (List.getElem?_eq_some_iff.mp e).1 nd).mp (e.trans (List.getElem?_eq_getElem hi).symm)
     omega
    have d5:e2 φMod (e2 φDiv (bVar 5) (eC (.int 5))) (eC (.int 4)) [.sh (scrT ns),.sh (.lst (names.map .str)),.sh (intT b),.ow (at0 ws),.sh (intT i),.sh (.int (av0 ns (80+i))),x6]=some (.int (av0 ns (80+i) / 5%4)):=(ay0 (t:=.int 4) ((ay0 (s:=.int (av0 ns (80+i))) (t:=.int 5) rfl rfl).trans (jL0 _ _ (by decide) (by decide))) rfl).trans (bp0 _ _ (by decide))
    have r6:=aU0 (i:=6) ((ay0 (φ:=φIx) (f:=eLst (aa0 (eC (.int 0)) (aa0 (eC (.int 0)) (aa0 (eC (.int 1)) (aa0 (eVar 2) aNil))))) (s:=.lst [.int 0,.int 0,.int 1,intT b]) rfl d5).trans l1)
    have d20:e2 φMod (e2 φDiv (bVar 5) (eC (.int 20))) (e2 φAdd (bVar 2) (eC (.int 1))) [.sh (scrT ns),.sh (.lst (names.map .str)),.sh (intT b),.ow (at0 ws),.sh (intT i),.sh (.int (av0 ns (80+i))),.sh (.int lv)]=some (.int (av0 ns (80+i) / 20%((b:Int)+1))):=(ay0 ((ay0 (s:=.int (av0 ns (80+i))) (t:=.int 20) rfl rfl).trans (jL0 _ _ (by decide) (by decide))) (ay0 (φ:=φAdd) (s:=intT b) (t:=.int 1) rfl rfl)).trans (bp0 _ _ (by omega))
    have a6:=ay0 (φ:=φAdd) (f:=bVar 6) (s:=.int lv) rfl d20
    have mn:=fX0 (φ:=dy0) (E:=eC (.int 3)) (s:=.int 3) rfl a6 rfl
    have tp:=fk0 (az0 (f:=eVar 6) (t:=.int lv) rfl (az0 (g:=aNil) (ts:=[]) mn rfl)) (show (2:Nat)<=1000000 by decide)
    have pt:=lZ0 (i:=3) (fk:=e2 φIx (bVar 1) (bVar 4)) (k:=names[i]) (kts:=ws.map fun x=>(x.1,T.tup [.int x.2.1,.int x.2.2])) rfl (by rw [List.length_map]; unfold big; omega) tp ((ay0 (s:=.lst (names.map .str)) (t:=intT i) rfl rfl).trans hx)
    rw [nE0 fresh] at pt
    refine⟨_,_,rfl,.inl (Eq.trans (aC0 (aU0 s2)) (Eq.trans (eQ0 s4) (Eq.trans (if_pos (decide_eq_true hq)) (Eq.trans (aC0 r6) pt)))),?_⟩
    refine⟨ws++ [(names[i],lv,_)],_,_,_,rfl,?_,fun x hx'=> ?_,fun x hx'=> ?_,by rw [List.length_append]; simp; omega⟩
    ·rw [List.map_append]
     refine iR0 h1 fun z=> ?_
     obtain⟨w,hw,e⟩:=List.mem_map.mp z
     exact fresh w hw e
    ·rcases List.mem_append.mp hx' with h|h
     ·obtain⟨j,hj,e⟩:=h2 x h
      exact⟨j,by omega,e⟩
     ·rw [List.mem_singleton.mp h]
      exact⟨i,by omega,List.getElem?_eq_getElem hi⟩
    ·rcases List.mem_append.mp hx' with h|h
     ·exact h3 x h
     ·rw [List.mem_singleton.mp h]
      show 0<=lv/\lv<=(if lv+av0 ns (80+i) / 20%((b:Int)+1)<3 then lv+av0 ns (80+i) / 20%((b:Int)+1) else 3)/\(if lv+av0 ns (80+i) / 20%((b:Int)+1)<3 then lv+av0 ns (80+i) / 20%((b:Int)+1) else 3)<=(3:Int)
      split
      ·omega
      ·omega
   ·refine⟨_,_,rfl,.inl (Eq.trans (aC0 (aU0 s2)) (Eq.trans (eQ0 s4) (if_neg (by simp [hq])))),?_⟩
    exact⟨ws,_,_,_,rfl,h1,(fun x hx=>let ⟨j,hj,e⟩:=h2 x hx; ⟨j,by omega,e⟩),h3,by omega⟩
 obtain⟨ε',hl,ws,x4,x5,x6,rfl,h1,h2,h3,h4⟩:=lp
 rw [bt0] at h4
 refine⟨ws,?_,h1,fun x hx=> ?_,h3,by omega⟩
 ·unfold K6 Jd0
  refine Eq.trans (aI0 (ε:=[.sh (scrT ns),.sh (.lst (names.map .str)),.sh (intT b),.un,.un,.un,.un]) rfl rfl) ?_
  refine Eq.trans (cr0 (hP0 (t:=.dct []) rfl rfl)) ?_
  refine Eq.trans (cr0 (cy0 (dk0 (n:=names.length) (az0 (dm0 rfl (by show some (T.int _)=_; rw [List.length_map])) rfl) (by omega)) hl)) ?_
  rfl
 ·obtain⟨j,_,e⟩:=h2 x hx
  exact List.mem_of_getElem? e
theorem jZ0 (ts:List T)(lo hi:Option Int):(cutT ts lo hi).length<=ts.length:=by
 unfold cutT
 rw [List.length_take,List.length_drop]
 omega
theorem ld0 {f:En->Option T}{lo hi:En->Option (Option Int)}{ε:En}{ts:List T}{l h:Option Int}(hf:f ε=some (.lst ts))(h1:lo ε=some l)(h2:hi ε=some h):eSlL f lo hi ε=some (.lst (cutT ts l h)):=by
 unfold eSlL
 rw [hf]
 show (lo ε).bind _=_
 rw [h1,Option.bind_some,h2]
 rfl
theorem ft0 {f:En->Option T}{ε:En}{i:Int}(h:f ε=some (.int i)):ba0 (some f) ε=some (some i):=by
 unfold ba0
 simp only [h]
theorem kQ0 {ε:En}{t m:Int}{ts:List T}(hl:ts.length<=1000)(h7:bVar 7 ε=some (.lst ts))(h6:bVar 6 ε=some (.int t))(h4:bVar 4 ε=some (.int m)):
  eSlL (e2 gn0 (eSlL (bVar 7) (ba0 (some (bVar 6))) (ba0 none)) (eSlL (bVar 7) (ba0 none) (ba0 (some (bVar 6))))) (ba0 none) (ba0 (some (bVar 4))) ε=some (.lst (cutT (cutT ts (some t) none++cutT ts none (some t)) none (some m))):=by
 have c1:=ld0 (lo:=ba0 (some (bVar 6))) (hi:=ba0 none) h7 (ft0 h6) rfl
 have c2:=ld0 (lo:=ba0 none) (hi:=ba0 (some (bVar 6))) h7 rfl (ft0 h6)
 have c3:gn0 (.lst (cutT ts (some t) none)) (.lst (cutT ts none (some t)))=some (.lst (cutT ts (some t) none++cutT ts none (some t))):=by
  show (if _ then _ else _)=_
  rw [if_pos]
  have a:=jZ0 ts (some t) none
  have b:=jZ0 ts none (some t)
  unfold big
  omega
 exact ld0 ((ay0 c1 c2).trans c3) rfl (ft0 h4)
theorem ip0 (t m:Int)(ht:0<=t/\t<5)(hm:1<=m/\m<=4):∃names:List Str,(cutT (cutT ((["bean", "rye", "kale", "oat", "pea"]:List Str).map T.str) (some t) none++cutT ((["bean", "rye", "kale", "oat", "pea"]:List Str).map T.str) none (some t)) none (some m))=names.map T.str/\(names.length:Int)=m/\names.Nodup/\∀x∈names,x≠ "" :=by
 have h1:t=0\/ t=1\/ t=2\/ t=3\/ t=4:=by omega
 have h2:m=1\/ m=2\/ m=3\/ m=4:=by omega
 rcases h1 with rfl|rfl|rfl|rfl|rfl<;>rcases h2 with rfl|rfl|rfl|rfl
 ·exact⟨["bean"],rfl,rfl,by decide +kernel,by decide +kernel⟩
 ·exact⟨["bean", "rye"],rfl,rfl,by decide +kernel,by decide +kernel⟩
 ·exact⟨["bean", "rye", "kale"],rfl,rfl,by decide +kernel,by decide +kernel⟩
 ·exact⟨["bean", "rye", "kale", "oat"],rfl,rfl,by decide +kernel,by decide +kernel⟩
 ·exact⟨["rye"],rfl,rfl,by decide +kernel,by decide +kernel⟩
 ·exact⟨["rye", "kale"],rfl,rfl,by decide +kernel,by decide +kernel⟩
 ·exact⟨["rye", "kale", "oat"],rfl,rfl,by decide +kernel,by decide +kernel⟩
 ·exact⟨["rye", "kale", "oat", "pea"],rfl,rfl,by decide +kernel,by decide +kernel⟩
 ·exact⟨["kale"],rfl,rfl,by decide +kernel,by decide +kernel⟩
 ·exact⟨["kale", "oat"],rfl,rfl,by decide +kernel,by decide +kernel⟩
 ·exact⟨["kale", "oat", "pea"],rfl,rfl,by decide +kernel,by decide +kernel⟩
 ·exact⟨["kale", "oat", "pea", "bean"],rfl,rfl,by decide +kernel,by decide +kernel⟩
 ·exact⟨["oat"],rfl,rfl,by decide +kernel,by decide +kernel⟩
 ·exact⟨["oat", "pea"],rfl,rfl,by decide +kernel,by decide +kernel⟩
 ·exact⟨["oat", "pea", "bean"],rfl,rfl,by decide +kernel,by decide +kernel⟩
 ·exact⟨["oat", "pea", "bean", "rye"],rfl,rfl,by decide +kernel,by decide +kernel⟩
 ·exact⟨["pea"],rfl,rfl,by decide +kernel,by decide +kernel⟩
 ·exact⟨["pea", "bean"],rfl,rfl,by decide +kernel,by decide +kernel⟩
 ·exact⟨["pea", "bean", "rye"],rfl,rfl,by decide +kernel,by decide +kernel⟩
 ·exact⟨["pea", "bean", "rye", "kale"],rfl,rfl,by decide +kernel,by decide +kernel⟩
theorem gJ0 (b:Nat)(hb:1<=b/\b<=3):∃p:Plot,v9 C [scrT ns,intT b]=some (false,aK0 p)/\Bound p/\p.soils.length=b/\(1<p.soils.length->p.top=1/\p.crops.length<=2/\∀c∈p.crops,c.gap<=1):=by
 have m0:=Int.emod_nonneg (av0 ns 1) (show (8:Int)≠0 by decide)
 have m1:=Int.emod_lt_of_pos (av0 ns 1) (show (0:Int)<8 by decide)
 obtain⟨top,t1,t2,t3⟩:=fA0 [1,2,3,3,2,5,4,1] (av0 ns 1%8) 1 5 m0 m1 (by decide)
 obtain⟨many,n1,n2,n3⟩:=fA0 [4,3,4,3,2,2,2,3] (av0 ns 1%8) 1 4 m0 m1 (by decide)
 obtain⟨gaps,g1,g2,g3⟩:=fA0 [1,2,2,1,3,2,3,3] (av0 ns 1%8) 0 3 m0 m1 (by decide)
 have u0:=Int.emod_nonneg (av0 ns 3) (show (5:Int)≠0 by decide)
 have u1:=Int.emod_lt_of_pos (av0 ns 3) (show (0:Int)<5 by decide)
 have v0:=Int.emod_nonneg (av0 ns 2) (show (2:Int)≠0 by decide)
 have v1:=Int.emod_lt_of_pos (av0 ns 2) (show (0:Int)<2 by decide)
 have w0:=Int.emod_nonneg (av0 ns 4) (show (2:Int)≠0 by decide)
 have w1:=Int.emod_lt_of_pos (av0 ns 4) (show (0:Int)<2 by decide)
 have dr:∀(k:Nat) (hk:k<=1000) (z:Int) (hz:z=(k:Int)) (ε:En) (h0:eVar 0 ε=some (scrT ns)),eFn (j0 C) (aa0 (eVar 0) (aa0 (eC (.int z)) aNil)) ε=some (.int (av0 ns k)):=fun k hk z hz ε h0=>by
  subst hz
  exact ci0 h0 rfl (cV0 C ns k hk)
 -- the sizes,with one bed or more
 have sz:∃top' many' gaps':Int,(1<=top'/\top'<=5)/\(1<=many'/\many'<=4)/\(0<=gaps'/\gaps'<=3)/\(1<b->top'=1/\many'<=2/\gaps'<=1)/\sIf (qB (e2 φGt (bVar 1) (eC (.int 1)))) (sSeq (sSet 3 (eC (.int 1)))
  (sSeq (sSet 4 (e2 φAdd (eC (.int 1)) (e2 φMod (eFn (j0 C) (aa0 (eVar 0) (aa0 (eC (.int 2)) aNil))) (eC (.int 2)))))
  (sSet 5 (e2 φMod (eFn (j0 C) (aa0 (eVar 0) (aa0 (eC (.int 4)) aNil))) (eC (.int 2)))))) sNx [.sh (scrT ns),.sh (intT b),.sh (.int (av0 ns 1%8)),.sh (.int top),.sh (.int many),.sh (.int gaps),.un,.un,.un,.un]=
   some (.nx [.sh (scrT ns),.sh (intT b),.sh (.int (av0 ns 1%8)),.sh (.int top'),.sh (.int many'),.sh (.int gaps'),.un,.un,.un,.un]):=by
  have q:qB (e2 φGt (bVar 1) (eC (.int 1))) [.sh (scrT ns),.sh (intT b),.sh (.int (av0 ns 1%8)),.sh (.int top),.sh (.int many),.sh (.int gaps),.un,.un,.un,.un]=some (decide ((1:Int)<(b:Int))):=rfl
  by_cases h:(1:Int)<(b:Int)
  ·refine⟨1,1+av0 ns 2%2,av0 ns 4%2,by omega,by omega,by omega,fun _=>by omega,?_⟩
   refine Eq.trans (eQ0 q) (Eq.trans (if_pos (decide_eq_true h)) ?_)
   refine Eq.trans (aC0 (aU0 (t:=.int 1) rfl)) ?_
   refine Eq.trans (aC0 (aU0 (ay0 (φ:=φAdd) (s:=.int 1) rfl ((ay0 (t:=.int 2) (dr 2 (by decide) 2 rfl _ rfl) rfl).trans (bp0 _ _ (by decide)))))) ?_
   exact aU0 ((ay0 (t:=.int 2) (dr 4 (by decide) 4 rfl _ rfl) rfl).trans (bp0 _ _ (by decide)))
  ·exact⟨top,many,gaps,⟨t2,t3⟩,⟨n2,n3⟩,⟨g2,g3⟩,fun z=>absurd (by omega) h,Eq.trans (eQ0 q) (if_neg (by simp [h]))⟩
 obtain⟨top',many',gaps',tb,mb,gb,mny,hsz⟩:=sz
 obtain⟨names,nm1,nm2,nm3,nm4⟩:=ip0 (av0 ns 3%5) many' ⟨u0,u1⟩ mb
 obtain⟨ws,ws1,ws2,ws3,ws4,ws5⟩:=ig0 C ns names (by omega) nm3 b hb.2
 have hmn:many'=((names.length:Nat):Int):=nm2.symm
 -- the crops
 obtain⟨cs,cs1,cs2,cs3⟩:=gS0 (n:=1) (it:=aR0 (aa0 (bVar 4) aNil)) (bd:=ao0 0) (ε:=[.sh (scrT ns),.sh (intT b),.sh (.int (av0 ns 1%8)),.sh (.int top'),.sh (.int many'),.sh (.int gaps'),.sh (.int (av0 ns 3%5)),.sh (.lst (names.map .str)),.un,.un])
  (f:=eFn (K3 C) (aa0 (eVar 1) (aa0 (eVar 0) (aa0 (eVar 8) (aa0 (eVar 6) aNil))))) (ts:=bb0 0 names.length) al0
  (fun t c=>∃k:Nat,t=intT k/\names[k]?=some c.name/\(-3<=c.change/\c.change<=3)/\(0<=c.harvest/\c.harvest<=1000)/\(0<=c.gap/\c.gap<=gaps')/\(∀b∈c.bars,b∈names)/\c.bars.length<=5)
  (dk0 (az0 (by rw [hmn]; rfl) rfl) (by omega)) (by rw [bt0]; unfold big; omega) fun t ht=>by
   obtain⟨k,hk,rfl⟩:=cN0 ht
   obtain⟨c,c1,c2⟩:=jv0 C ns k names (by omega) hk gaps' gb
   refine⟨[.sh (intT k),.sh (scrT ns),.sh (intT b),.sh (.int (av0 ns 1%8)),.sh (.int top'),.sh (.int many'),.sh (.int gaps'),.sh (.int (av0 ns 3%5)),.sh (.lst (names.map .str)),.un,.un],c,rfl,?_,k,rfl,c2⟩
   unfold eFn
   rw [az0 (f:=eVar 1) (t:=scrT ns) rfl (az0 (f:=eVar 0) (t:=intT k) rfl (az0 (f:=eVar 8) (t:=.lst (names.map .str)) rfl (az0 (f:=eVar 6) (t:=.int gaps') rfl rfl))),Option.bind_some,c1]
   rfl
 rw [bt0] at cs2
 have csn:cs.map (·.name)=names:=by
  apply List.ext_getElem?
  intro i
  by_cases hi:i<names.length
  ·obtain⟨c,q1,k,q2,q3,_⟩:=cs3 i _ (em0 hi)
   have:i=k:=by
    have:=T.int.inj q2
    omega
   subst this
   rw [List.getElem?_map,q1,q3]
   rfl
  ·rw [List.getElem?_eq_none (by rw [List.length_map]; omega),List.getElem?_eq_none (by omega)]
 have csp:∀c∈cs,(-3<=c.change/\c.change<=3)/\(0<=c.harvest/\c.harvest<=1000)/\(0<=c.gap/\c.gap<=gaps')/\(∀b∈c.bars,b∈names)/\c.bars.length<=5:=fun c hc=>by
  obtain⟨i,hi,e⟩:=List.mem_iff_getElem.mp hc
  obtain⟨c',q1,k,q2,q3,q4⟩:=cs3 i _ (em0 (by omega))
  rw [List.getElem?_eq_getElem hi,e] at q1
  cases q1
  exact q4
 -- the soils
 obtain⟨ss,ss1,ss2,ss3⟩:=gS0 (n:=1) (it:=aR0 (aa0 (bVar 1) aNil)) (bd:=ao0 0) (ε:=[.sh (scrT ns),.sh (intT b),.sh (.int (av0 ns 1%8)),.sh (.int top'),.sh (.int many'),.sh (.int gaps'),.sh (.int (av0 ns 3%5)),.sh (.lst (names.map .str)),.sh (.lst (cs.map al0)),.un])
  (f:=e2 φMod (eFn (j0 C) (aa0 (eVar 1) (aa0 (e2 φAdd (eC (.int 5)) (bVar 0)) aNil))) (e2 φAdd (bVar 4) (eC (.int 1)))) (ts:=bb0 0 b) T.int
  (fun _ x=>0<=x/\x<=top') (dk0 (az0 rfl rfl) (by omega)) (by rw [bt0]; unfold big; omega) fun t ht=>by
   obtain⟨k,hk,rfl⟩:=cN0 ht
   have s1:e2 φAdd (eC (.int 5)) (bVar 0) [.sh (intT k),.sh (scrT ns),.sh (intT b),.sh (.int (av0 ns 1%8)),.sh (.int top'),.sh (.int many'),.sh (.int gaps'),.sh (.int (av0 ns 3%5)),.sh (.lst (names.map .str)),.sh (.lst (cs.map al0)),.un]=some (intT (5+k)):=by
    rw [ay0 (φ:=φAdd) (s:=.int 5) (t:=intT k) rfl rfl]
    refine congrArg (fun z=>some (T.int z)) ?_
    omega
   have s2:eFn (j0 C) (aa0 (eVar 1) (aa0 (e2 φAdd (eC (.int 5)) (bVar 0)) aNil)) [.sh (intT k),.sh (scrT ns),.sh (intT b),.sh (.int (av0 ns 1%8)),.sh (.int top'),.sh (.int many'),.sh (.int gaps'),.sh (.int (av0 ns 3%5)),.sh (.lst (names.map .str)),.sh (.lst (cs.map al0)),.un]=some (.int (av0 ns (5+k))):=ci0 rfl s1 (cV0 C ns _ (by omega))
   have a:=Int.emod_nonneg (av0 ns (5+k)) (show top'+1≠0 by omega)
   have b:=Int.emod_lt_of_pos (av0 ns (5+k)) (show 0<top'+1 by omega)
   refine⟨_,av0 ns (5+k)%(top'+1),rfl,(ay0 s2 (ay0 (φ:=φAdd) (s:=.int top') (t:=.int 1) rfl rfl)).trans (bp0 _ _ (by omega)),a,by omega⟩
 rw [bt0] at ss2
 refine⟨⟨ss,top',cs,ws⟩,?_,?_,ss2,fun z=> ?_⟩
 ·unfold v9 Kd0
  refine Eq.trans (aI0 (ε:=[.sh (scrT ns),.sh (intT b),.un,.un,.un,.un,.un,.un,.un,.un]) rfl rfl) ?_
  refine Eq.trans (cr0 (aU0 ((ay0 (t:=.int 8) (dr 1 (by decide) 1 rfl _ rfl) rfl).trans (bp0 _ _ (by decide))))) ?_
  refine Eq.trans (cr0 (aU0 ((ay0 (s:=.lst ([1,2,3,3,2,5,4,1].map .int)) (t:=.int (av0 ns 1%8)) rfl rfl).trans t1))) ?_
  refine Eq.trans (cr0 (aU0 ((ay0 (s:=.lst ([4,3,4,3,2,2,2,3].map .int)) (t:=.int (av0 ns 1%8)) rfl rfl).trans n1))) ?_
  refine Eq.trans (cr0 (aU0 ((ay0 (s:=.lst ([1,2,2,1,3,2,3,3].map .int)) (t:=.int (av0 ns 1%8)) rfl rfl).trans g1))) ?_
  refine Eq.trans (cr0 hsz) ?_
  refine Eq.trans (cr0 (aU0 ((ay0 (t:=.int 5) (dr 3 (by decide) 3 rfl _ rfl) rfl).trans (bp0 _ _ (by decide))))) ?_
  refine Eq.trans (cr0 (aU0 (t:=.lst ((["bean", "rye", "kale", "oat", "pea"]:List Str).map T.str)) rfl)) ?_
  refine Eq.trans (cr0 (aU0 (t:=.lst (names.map .str)) ?_)) ?_
  ·rw [<- nm1]
   exact kQ0 (by decide) rfl rfl rfl
  refine Eq.trans (cr0 (aU0 cs1)) ?_
  refine Eq.trans (cr0 (aU0 ss1)) ?_
  refine fc0 ?_
  refine fk0 (az0 rfl (az0 rfl (az0 rfl (az0 ?_ rfl)))) (show (4:Nat)<=1000000 by decide)
  unfold eFnF
  rw [az0 (f:=eVar 0) (t:=scrT ns) rfl (az0 (f:=eVar 7) (t:=.lst (names.map .str)) rfl (az0 (f:=eVar 1) (t:=intT b) rfl rfl)),Option.bind_some,ws1]
 ·exact { nd := by show (cs.map (·.name)).Nodup; rw [csn]; exact nm3
          bars:=fun c hc x hx=>by show x∈cs.map (·.name); rw [csn]; exact(csp c hc).2.2.2.1 x hx
          wants:=fun x hx=>by show x.1∈cs.map (·.name); rw [csn]; exact ws3 x hx
          gaps:=fun c hc=>(csp c hc).2.2.1.1
          few:=by show cs.length<=5; omega
          keys:=ws2
          beds:=by show 1<=ss.length/\ss.length<=3; omega
          top:=tb
          soil:=fun x hx=>by
           obtain⟨i,hi,e⟩:=List.mem_iff_getElem.mp hx
           have hi':i<ss.length:=hi
           obtain⟨x',q1,q2⟩:=ss3 i _ (em0 (by omega))
           have e':ss[i]=x:=e
           rw [List.getElem?_eq_getElem hi',e'] at q1
           cases q1
           exact q2
          some:=by show 1<=cs.length; omega
          text:=fun c hc=>nm4 _ (by rw [<- csn]; exact List.mem_map.mpr ⟨c,hc,rfl⟩)
          chg:=fun c hc=>(csp c hc).1
          har:=fun c hc=>(csp c hc).2.1
          gap:=fun c hc=>by have:=(csp c hc).2.2.1; omega
          bar:=fun c hc=>by have:=(csp c hc).2.2.2.2; omega
          want:=ws4
          fewW:=by show ws.length<=1000; omega}
 ·have:=mny (by rw [<- ss2]; exact z)
  exact⟨this.1,by show cs.length<=2; omega,fun c hc=>by have:=(csp c hc).2.2.1; omega⟩
end
inductive Reach (p:Plot):Stt->Prop
 |start:Reach p (bl0 p)
 |step {s:Stt} {r:List Nat} (h:Reach p s) (m:r∈mayM p s):Reach p (ar0 p s r)
structure Tight (p:Plot):Prop extends Bound p where
 many:1<p.soils.length->p.top=1/\p.crops.length<=2/\∀c∈p.crops,c.gap<=1
theorem gx0 {p:Plot}{s:Stt}{r:List Nat}(m:r∈mayM p s):r.length=s.length/\(∀x∈s.zip r,okM p x=true)/\∀c∈r,c<p.crops.length:=by
 have h:=may_mem.mp m
 unfold nh0 at h
 rw [Bool.and_eq_true,Bool.and_eq_true,decide_eq_true_iff,List.all_eq_true] at h
 refine⟨h.1.1,h.1.2,fun c hc=> ?_⟩
 obtain⟨i,hi,e⟩:=List.mem_iff_getElem.mp hc
 have hz:(s[i]'(by omega),r[i])∈s.zip r:=by
  refine List.mem_iff_getElem.mpr ⟨i,by rw [List.length_zip]; omega,by rw [List.getElem_zip]⟩
 have:=h.1.2 _ hz
 unfold okM at this
 rw [Bool.and_eq_true,decide_eq_true_iff,e] at this
 exact this.1
structure Ran (p:Plot)(s:Stt):Prop extends Lives p s where
 soil:∀b∈s,0<=b.1/\b.1<=p.top
theorem Reach.ran {p:Plot}(hp:Bound p){s:Stt}(h:Reach p s):Ran p s:=by
 induction h with
 |start=>
  refine⟨gB0 hp.beds.2,fun b hb=> ?_⟩
  obtain⟨x,hx,rfl⟩:=List.mem_map.mp hb
  exact hp.soil x hx
 | @step s r _ m ih=>
  obtain⟨h1,h2,h3⟩:=gx0 m
  refine⟨fL0 ih.toLives h1 h3,fun b hb=> ?_⟩
  obtain⟨⟨b0,c⟩,hx,rfl⟩:=List.mem_map.mp hb
  have ok:=h2 _ hx
  unfold okM cX0 at ok
  have ht:=hp.top.1
  show 0<=(if b0.1+((p.crops[c]?).map (·.change)).getD 0<p.top then b0.1+((p.crops[c]?).map (·.change)).getD 0 else p.top)/\(if b0.1+((p.crops[c]?).map (·.change)).getD 0<p.top then b0.1+((p.crops[c]?).map (·.change)).getD 0 else p.top)<=p.top
  cases q:p.crops[c]? with
  |none=>simp [q] at ok
  |some d=>
   simp only [q,Bool.and_eq_true,decide_eq_true_iff] at ok
   have:=ok.2.1.1
   simp only [Option.map_some,Option.getD_some]
   split<;>omega
theorem cF0 {α:Type} [DecidableEq α]:∀{l m:List α},l.Nodup->(∀x∈l,x∈m)->l.length<=m.length
 | [],_,_,_=>Nat.zero_le _
 |x::l,m,nd,h=>by
  have hx:=h x (.head _)
  have nd':=List.nodup_cons.mp nd
  have:=cF0 (m:=m.erase x) nd'.2 fun y hy=>(List.mem_erase_of_ne (fun(e:y=x)=>nd'.1 (e▸hy))).mpr (h y (.tail _ hy))
  rw [List.length_erase_of_mem hx] at this
  have:=List.length_pos_of_mem hx
  rw [List.length_cons]
  omega
def allL (k:Nat):Nat->List (List Nat)
 |0=> [[]]
 |n+1=>(List.range k).flatMap fun d=>(allL k n).map (d:: ·)
theorem hV0 (k:Nat):∀n,(allL k n).length=k^n
 |0=>rfl
 |n+1=>by
  unfold allL
  rw [List.length_flatMap]
  simp only [List.length_map,hV0 k n]
  rw [List.map_const',List.sum_replicate_nat,List.length_range,Nat.pow_succ,Nat.mul_comm]
theorem ib0 (k:Nat):∀(l:List Nat),(∀x∈l,x<k)->l∈allL k l.length
 | [],_=>by simp [allL]
 |x::l,h=>by
  show x::l∈(List.range k).flatMap fun d=>(allL k l.length).map (d:: ·)
  exact List.mem_flatMap.mpr ⟨x,List.mem_range.mpr (h x (.head _)),List.mem_map.mpr ⟨l,ib0 k l fun y hy=>h y (.tail _ hy),rfl⟩⟩
def digB (d:Nat)(b:Int × List Nat):List Nat:=b.1.toNat::(b.2.map (· +1)++List.replicate (d - b.2.length) 0)
def digS (d:Nat)(s:Stt):List Nat:=s.flatMap (digB d)
theorem mB0 {d:Nat}{b c:Int × List Nat}(hb:0<=b.1)(hc:0<=c.1)(h:digB d b=digB d c):b=c:=by
 unfold digB at h
 obtain⟨h1,h2⟩:=List.cons.inj h
 have e:∀l:List Nat,((l.map (· +1)++List.replicate (d - l.length) 0).filter (· !=0)).map (· - 1)=l:=fun l=>by
  rw [List.filter_append,List.filter_replicate]
  simp only [bne_self_eq_false,Bool.false_eq_true,if_false,List.append_nil]
  rw [List.filter_eq_self.mpr (fun x hx=>by obtain⟨y,_,rfl⟩:=List.mem_map.mp hx; simp),List.map_map]
  simp [Function.comp_def]
 have e2:b.2=c.2:=by rw [<- e b.2,<- e c.2,h2]
 have e1:b.1=c.1:=by omega
 exact Prod.ext e1 e2
theorem fp0 {d:Nat}{b:Int × List Nat}(h:b.2.length<=d):(digB d b).length=d+1:=by
 unfold digB
 rw [List.length_cons,List.length_append,List.length_map,List.length_replicate]
 omega
theorem hX0 {d:Nat}:∀{s t:Stt},s.length=t.length->(∀b∈s,0<=b.1/\b.2.length<=d)->(∀b∈t,0<=b.1/\b.2.length<=d)->digS d s=digS d t->s=t
 | [],[],_,_,_,_=>rfl
 | [],_::_,h,_,_,_=>by simp at h
 |_::_,[],h,_,_,_=>by simp at h
 |b::s,c::t,h,hs,ht,e=>by
  unfold digS at e
  rw [List.flatMap_cons,List.flatMap_cons] at e
  have hb:=hs b (.head _)
  have hc:=ht c (.head _)
  obtain⟨e1,e2⟩:=List.append_inj e (by rw [fp0 hb.2,fp0 hc.2])
  rw [mB0 hb.1 hc.1 e1,hX0 (by simpa using h) (fun x hx=>hs x (.tail _ hx)) (fun x hx=>ht x (.tail _ hx)) e2]
theorem hK0 {d:Nat}:∀{s:Stt},(∀b∈s,b.2.length<=d)->(digS d s).length=(d+1)*s.length
 | [],_=>by simp [digS]
 |b::s,h=>by
  have ih:=hK0 (d:=d) (s:=s) fun x hx=>h x (.tail _ hx)
  unfold digS at ih ⊢
  rw [List.flatMap_cons,List.length_append,fp0 (h b (.head _)),ih,List.length_cons,Nat.mul_succ,Nat.add_comm]
theorem no0 {d k:Nat}{s:Stt}(h:∀b∈s,b.1<k/\∀c∈b.2,c+1<k)(hk:0<k):∀x∈digS d s,x<k:=fun x hx=>by
 obtain⟨b,hb,hx⟩:=List.mem_flatMap.mp hx
 obtain⟨h1,h2⟩:=h b hb
 unfold digB at hx
 rcases List.mem_cons.mp hx with e|hx
 ·omega
 rcases List.mem_append.mp hx with hx|hx
 ·obtain⟨c,hc,rfl⟩:=List.mem_map.mp hx
  exact h2 c hc
 ·rw [(List.mem_replicate.mp hx).2]; exact hk
theorem kY0:∀(m:Int) (xs:List Int) (b:Int),(∀x∈m::xs,x<=b)->maxI m xs<=b
 |m,[],b,h=>h m (.head _)
 |m,x::xs,b,h=>by
  unfold maxI
  refine kY0 _ xs b fun y hy=> ?_
  rcases List.mem_cons.mp hy with rfl|hy
  ·split
   ·exact h x (.tail _ (.head _))
   ·exact h m (.head _)
  ·exact h y (.tail _ (.tail _ hy))
theorem fj0 {p:Plot}{k:Int}(h1:1<=k)(h:∀c∈p.crops,c.gap<=k):depth p<=k:=by
 unfold depth
 split
 ·exact h1
 ·rename_i g gs e
  have:maxI g gs<=k:=kY0 g gs k fun x hx=>by
   rw [<- e] at hx
   obtain⟨c,hc,rfl⟩:=List.mem_map.mp hx
   exact h c hc
  split<;>omega
theorem dA0 {p:Plot}(hp:Tight p){l:List Stt}(nd:l.Nodup)(h:∀s∈l,Reach p s):l.length<=1300:=by
 have hb:=hp.beds
 have ht:=hp.top
 have hf:=hp.few
 have d1:=ek0 p
 have fin:∀(d k:Nat),0<k->(depth p).toNat<=d->p.top<k->p.crops.length+1<=k->k^((d+1)*p.soils.length)<=1300->l.length<=1300:=fun d k k0 hd hk hc hx=>by
  have ran:∀s∈l,Ran p s:=fun s hs=>(h s hs).ran hp.toBound
  have nd':(l.map (digS d)).Nodup:=by
   refine List.Pairwise.map _ (fun s t hst=>hst) (List.Pairwise.imp_of_mem (fun{s t} hs ht hne e=>hne ?_) nd)
   have r1:=ran s hs
   have r2:=ran t ht
   exact hX0 (by rw [r1.len,r2.len]) (fun b hb=>⟨(r1.soil b hb).1,Nat.le_trans (r1.stood b hb).1 hd⟩) (fun b hb=>⟨(r2.soil b hb).1,Nat.le_trans (r2.stood b hb).1 hd⟩) e
  have:=cF0 (m:=allL k ((d+1)*p.soils.length)) nd' fun x hx=>by
   obtain⟨s,hs,rfl⟩:=List.mem_map.mp hx
   have r1:=ran s hs
   have e:=hK0 (d:=d) (s:=s) fun b hb=>Nat.le_trans (r1.stood b hb).1 hd
   rw [<- r1.len,<- e]
   exact ib0 k _ (no0 (fun b hb=>⟨by have:=(r1.soil b hb).2; omega,fun c hc=>by have:=(r1.stood b hb).2 c hc; omega⟩) k0)
  rw [List.length_map,hV0] at this
  omega
 by_cases h1:1<p.soils.length
 ·obtain⟨a,b,c⟩:=hp.many h1
  have dd:=fj0 (k:=1) (by decide) c
  refine fin 1 3 (by decide) (by omega) (by omega) (by omega) ?_
  have:p.soils.length=2\/ p.soils.length=3:=by omega
  rcases this with e|e<;>rw [e]<;>decide
 ·have dd:=fj0 (p:=p) (k:=3) (by decide) fun c hc=>(hp.gap c hc).2
  refine fin 3 6 (by decide) (by omega) (by omega) (by omega) ?_
  rw [show p.soils.length=1 by omega]
  decide
end Bed1
namespace Bed1
open PySem PySem.Spec PyProof.Rows L2 L2.BD
def keyS (s:Stt):SK:=s.map fun b=>(b.1,b.2.map Int.ofNat)
theorem do0:∀{s t:Stt},keyS s=keyS t->s=t
 | [],[],_=>rfl
 | [],_::_,h=>by simp [keyS] at h
 |_::_,[],h=>by simp [keyS] at h
 | (a,l)::s,(b,m)::t,h=>by
  unfold keyS at h
  rw [List.map_cons,List.map_cons] at h
  obtain⟨h1,h2⟩:=List.cons.inj h
  have e1:a=b:=congrArg (·.1) h1
  have e2:l.map Int.ofNat=m.map Int.ofNat:=congrArg (·.2) h1
  have e3:l=m:=List.map_inj_right (fun _ _ e=>Int.ofNat.inj e)|>.mp e2
  rw [e1,e3,do0 (s:=s) (t:=t) h2]
theorem gR0 {F:Addr->Prop}{H:Hp}:∀{xs:List V} {l:List Nat},Rps F H xs (l.map intT)->xs=(l.map Int.ofNat).map V.int
 |_,[],r=>by cases r; rfl
 |_,x::l,r=>by
  rw [List.map_cons] at r
  cases r with
  |cons h r=>
   cases h
   rw [gR0 r]
   rfl
theorem jH0 {F:Addr->Prop}{H:Hp}:∀{xs:List V} {s:Stt},Rps F H xs (s.map bedT)->Paired (BedAt H) (keyS s) xs
 |_,[],r=>by cases r; exact .nil
 |_,b::s,r=>by
  rw [List.map_cons] at r
  cases r with
  |cons h r=>
   refine .cons ?_ (jH0 r)
   cases h with
   |tup hc rc=>
    obtain⟨x,y,rfl,rx,ry⟩:=rc.two
    cases rx
    cases ry with
    |tup hd rd=>exact⟨_,_,rfl,hc,by rw [gR0 rd] at hd; exact hd⟩
theorem gL0 {F:Addr->Prop}{H:Hp}{v:V}{s:Stt}(h:Rp F H v (au0 s)):∃b,v=.ref b/\KeyAt H b (keyS s):=by
 cases h with
 |tup ha r=>exact⟨_,rfl,_,ha,jH0 r⟩
structure WebM where
 sts:List Stt
 came:List (Option (Nat × List Nat))
 mov:List (Nat × List (List Nat × Nat))
def lD0:Option (Nat × List Nat)->T
 |none=> .non
 |some (n,r)=> .tup [intT n,rowT r]
def ky0 (m:List Nat × Nat):T:=.tup [rowT m.1,intT m.2]
def eY0 (ms:List (List Nat × Nat)):T:=.lst (ms.map ky0)
structure WAd where
 dx:Addr
 sa:Addr
 na:Addr
 ca:Addr
 ma:Addr
 g:V
abbrev WAd.L (A:WAd):List Addr:=[A.sa,A.na,A.ca,A.ma]
def dJ0 (l:List Stt)(k:Nat):List (SK × V):=(l.zipIdx k).map fun x=>(keyS x.1,V.int x.2)
structure WebAt (C CW:Addr)(p:Plot)(F:Addr->Prop)(H:Hp)(w:Addr)(A:WAd)(W:WebM):Prop where
 ins:H w=some (.ins CW A.dx [("garden",A.g),("states",.ref A.sa),("numbers",.ref A.na),("came",.ref A.ca),("moves",.ref A.ma)])
 gar:Rp F H A.g (garT C p)
 sts:∃xs,H A.sa=some (.lst xs)/\Rps F H xs (W.sts.map au0)
 num:H A.na=some (.dT (dJ0 W.sts 0))
 came:∃xs,H A.ca=some (.lst xs)/\Rps F H xs (W.came.map lD0)
 mov:∃kvs,H A.ma=some (.dK kvs)/\Paired (fun(x:Key × V) (y:Nat × List (List Nat × Nat))=>x.1=.inl (y.1:Int)/\Rp F H x.2 (eY0 y.2)) kvs W.mov
 free:∀a∈ [w,A.sa,A.na,A.ca,A.ma],¬F a
 ne:A.sa≠A.ca
section
variable {C CW:Addr}{p:Plot}{F F':Addr->Prop}{H H':Hp}{w:Addr}{A:WAd}{W:WebM}{L:List Addr}
theorem WebAt.there (h:WebAt C CW p F H w A W):∀a∈ [w,A.sa,A.na,A.ca,A.ma],∃o,H a=some o/\∀xs,o≠ .tup xs:=fun a ha=>by
 obtain⟨xs,h1,_⟩:=h.sts
 obtain⟨ys,h2,_⟩:=h.came
 obtain⟨zs,h3,_⟩:=h.mov
 simp only [List.mem_cons,List.not_mem_nil,or_false] at ha
 rcases ha with rfl|rfl|rfl|rfl|rfl
 ·exact⟨_,h.ins,fun _ z=>nomatch z⟩
 ·exact⟨_,h1,fun _ z=>nomatch z⟩
 ·exact⟨_,h.num,fun _ z=>nomatch z⟩
 ·exact⟨_,h2,fun _ z=>nomatch z⟩
 ·exact⟨_,h3,fun _ z=>nomatch z⟩
theorem WebAt.loose (h:WebAt C CW p F H w A W):dT0 A.L F H:=fun a ha=>by
 obtain⟨o,e,n⟩:=h.there a (.tail _ ha)
 exact⟨h.free a (.tail _ ha),fun xs z=>by rw [e] at z; exact n xs (Option.some.inj z)⟩
theorem WebAt.keep (h:WebAt C CW p F H w A W)(c:Chg L F H F' H')(l:dT0 L F H)(d:∀a∈ [w,A.sa,A.na,A.ca,A.ma],a∉L):WebAt C CW p F' H' w A W:=by
 have k:=c.keep l
 obtain⟨xs,h1,r1⟩:=h.sts
 obtain⟨ys,h2,r2⟩:=h.came
 obtain⟨zs,h3,r3⟩:=h.mov
 refine⟨c.ext _ _ (d _ (by simp)) h.ins,h.gar.keep k,⟨xs,c.ext _ _ (d _ (by simp)) h1,r1.keep k⟩,c.ext _ _ (d _ (by simp)) h.num,⟨ys,c.ext _ _ (d _ (by simp)) h2,r2.keep k⟩,⟨zs,c.ext _ _ (d _ (by simp)) h3,Paired.map2 (fun _ _ x=>⟨x.1,x.2.keep k⟩) r3⟩,fun a ha=> ?_,h.ne⟩
 obtain⟨o,e,_⟩:=h.there a ha
 exact c.free (h.free a ha) (by rw [e]; exact fun z=>nomatch z)
theorem WebAt.mono (h:WebAt C CW p F H w A W)(m:Mono F H F' H'):WebAt C CW p F' H' w A W:=h.keep (L:=[]) m.chg (fun _ z=>nomatch z) fun _ _ z=>nomatch z
end
theorem ff0 (s:Stt):∀(l:List Stt) (k:Nat),valV (dJ0 l k) (keyS s)=if s∈l then some (V.int ((k+l.idxOf s:Nat):Int)) else none
 | [],k=>rfl
 |t::l,k=>by
  have ih:=ff0 s l (k+1)
  unfold dJ0 at ih ⊢
  rw [List.zipIdx_cons,List.map_cons]
  by_cases e:t=s
  ·rw [bo0 (p:=(keyS t,V.int k)) (by rw [e]),if_pos (by rw [e]; exact .head _),e,List.idxOf_cons_self]
   rfl
  ·rw [bk0 (p:=(keyS t,V.int k)) (fun z=>e (do0 z)),ih,List.idxOf_cons,show (t==s)=false from beq_eq_false_iff_ne.mpr e,cond_false]
   by_cases m:s∈l
   ·rw [if_pos m,if_pos (.tail _ m)]
    congr 2
    omega
   ·rw [if_neg m,if_neg (fun z=>by rcases List.mem_cons.mp z with z|z; exact e z.symm; exact m z)]
theorem kJ0 (l:List Stt)(s:Stt):dJ0 (l++ [s]) 0=dJ0 l 0++ [(keyS s,V.int (l.length:Int))]:=by
 unfold dJ0
 rw [List.zipIdx_append,List.map_append]
 simp
theorem mm0 (l:List Stt)(k:Nat):(dJ0 l k).length=l.length:=by unfold dJ0; rw [List.length_map,List.length_zipIdx]
theorem iM0 {F:Addr->Prop}{H:Hp}(n:Nat){kvs:List (Key × V)}{mv:List (Nat × List (List Nat × Nat))}(r:Paired (fun(x:Key × V) (y:Nat × List (List Nat × Nat))=>x.1=.inl (y.1:Int)/\Rp F H x.2 (eY0 y.2)) kvs mv):
  (mv.lookup n=none->valV kvs (Sum.inl (n:Int))=none)/\∀ms,mv.lookup n=some ms->∃v,valV kvs (Sum.inl (n:Int))=some v/\Rp F H v (eY0 ms):=by
 induction r with
 |nil=>exact⟨fun _=>rfl,fun _ h=>nomatch h⟩
 | @cons x y xs ys h _ ih=>
  obtain⟨x1,x2⟩:=x
  obtain⟨y1,y2⟩:=y
  obtain⟨h1,h2⟩:=h
  have h1:x1=Sum.inl (y1:Int):=h1
  subst h1
  rw [List.lookup_cons]
  by_cases e:n=y1
  ·subst e
   rw [bo0 (p:=(Sum.inl (n:Int),x2)) rfl]
   simp only [beq_self_eq_true]
   exact⟨(fun z=>nomatch z),fun ms z=>by cases z; exact⟨_,rfl,h2⟩⟩
  ·rw [bk0 (p:=(Sum.inl (y1:Int),x2)) (fun z=>e (by have:=Sum.inl.inj z; omega))]
   rw [show (n==y1)=false from beq_eq_false_iff_ne.mpr e]
   exact ih
def Moves (p:Plot)(l:List Stt)(s:Stt)(ms:List (List Nat × Nat)):Prop:=ms.map (·.1)=mayM p s/\∀m∈ms,l[m.2]?=some (ar0 p s m.1)
structure WOk (p:Plot)(W:WebM):Prop where
 nd:W.sts.Nodup
 re:∀s∈W.sts,Reach p s
 st:W.sts[0]?=some (bl0 p)
 cl:W.came.length=W.sts.length
 cm:∀(i:Nat) c,W.came[i]?=some c->(c=none/\i=0)\/ ∃j r s,c=some (j,r)/\j<i/\W.sts[j]?=some s/\r∈mayM p s/\W.sts[i]?=some (ar0 p s r)
 mn:(W.mov.map (·.1)).Nodup
 mv:∀x∈W.mov,∃s,W.sts[x.1]?=some s/\Moves p W.sts s x.2
def WebM.num (W:WebM)(s:Stt)(c:Option (Nat × List Nat)):WebM:=if s∈W.sts then W else{W with sts:=W.sts++ [s],came:=W.came++ [c]}
theorem cq0 {α:Type}{l m:List α}(h:l<+:m){i:Nat}{x:α}(e:l[i]?=some x):m[i]?=some x:=by
 obtain⟨t,rfl⟩:=h
 have:=(List.getElem?_eq_some_iff.mp e).1
 rw [List.getElem?_append_left this]
 exact e
theorem Moves.pre {p:Plot}{l m:List Stt}{s:Stt}{ms:List (List Nat × Nat)}(h:Moves p l s ms)(q:l<+:m):Moves p m s ms:=⟨h.1,fun x hx=>cq0 q (h.2 x hx)⟩
theorem nG0 (W:WebM)(s:Stt)(c:Option (Nat × List Nat)):W.sts<+:(W.num s c).sts/\s∈(W.num s c).sts/\(W.num s c).mov=W.mov:=by
 unfold WebM.num
 split
 ·exact⟨List.prefix_refl _,by assumption,rfl⟩
 ·exact⟨List.prefix_append _ _,List.mem_append_right _ (.head _),rfl⟩
theorem WOk.num {p:Plot}{W:WebM}(h:WOk p W){n:Nat}{s:Stt}{r:List Nat}(hs:W.sts[n]?=some s)(hr:r∈mayM p s):WOk p (W.num (ar0 p s r) (some (n,r))):=by
 unfold WebM.num
 split
 ·exact h
 ·rename_i nm
  have hl:=(List.getElem?_eq_some_iff.mp hs).1
  refine⟨?_,fun t ht=> ?_,?_,by rw [List.length_append,List.length_append,h.cl]; rfl,fun i c e=> ?_,h.mn,fun x hx=> ?_⟩
  ·refine List.nodup_append.mpr ⟨h.nd,List.nodup_cons.mpr ⟨(fun z=>nomatch z),List.nodup_nil⟩,fun a ha b hb e=> ?_⟩
   rw [List.mem_singleton.mp hb] at e
   exact nm (e▸ha)
  ·rcases List.mem_append.mp ht with ht|ht
   ·exact h.re t ht
   ·rw [List.mem_singleton.mp ht]
    exact .step (h.re s (List.mem_of_getElem? hs)) hr
  ·exact cq0 (List.prefix_append _ _) h.st
  ·by_cases hi:i<W.came.length
   ·rw [List.getElem?_append_left hi] at e
    rcases h.cm i c e with q|⟨j,r',t,q1,q2,q3,q4,q5⟩
    ·exact .inl q
    ·exact .inr ⟨j,r',t,q1,q2,cq0 (List.prefix_append _ _) q3,q4,cq0 (List.prefix_append _ _) q5⟩
   ·have:i=W.came.length:=by
     have:=(List.getElem?_eq_some_iff.mp e).1
     rw [List.length_append,List.length_singleton] at this
     omega
    subst this
    rw [List.getElem?_append_right (Nat.le_refl _),Nat.sub_self] at e
    cases e
    refine .inr ⟨n,r,s,rfl,by rw [h.cl]; exact hl,cq0 (List.prefix_append _ _) hs,hr,?_⟩
    show (W.sts++ [ar0 p s r])[W.came.length]?=_
    rw [h.cl,List.getElem?_append_right (Nat.le_refl _),Nat.sub_self]
    rfl
  ·obtain⟨t,q1,q2⟩:=h.mv x hx
   exact⟨t,cq0 (List.prefix_append _ _) q1,q2.pre (List.prefix_append _ _)⟩
theorem WOk.few {p:Plot}{W:WebM}(hp:Tight p)(h:WOk p W):W.sts.length<=1300:=dA0 hp h.nd h.re
theorem WOk.fewM {p:Plot}{W:WebM}(hp:Tight p)(h:WOk p W):W.mov.length<=1300:=by
 have:=cF0 (m:=List.range W.sts.length) h.mn fun x hx=>by
  obtain⟨y,hy,rfl⟩:=List.mem_map.mp hx
  obtain⟨s,e,_⟩:=h.mv y hy
  exact List.mem_range.mpr (List.getElem?_eq_some_iff.mp e).1
 rw [List.length_map,List.length_range] at this
 have:=h.few hp
 omega
theorem nI0 {l:List Stt}{s:Stt}(h:s∈l):l[l.idxOf s]?=some s:=by
 have:=List.idxOf_lt_length_of_mem h
 rw [List.getElem?_eq_getElem this,List.getElem_idxOf this]
seal PE PT PW PA PS PSs PI PG PGs PIf PO
section
variable (C CW:Addr)(p:Plot)
def lN0:Sp:=fun vs H Q _=>∃F w A W s c sv cv,vs=[.ref w,sv,cv]/\Trk F H/\WebAt C CW p F H w A W/\Rp F H sv (au0 s)/\Rp F H cv (lD0 c)/\W.sts.length<100000/\W.came.length<100000/\
 ∀H',Chg A.L F H F H'->WebAt C CW p F H' w A (W.num s c)->Q (.int ((W.num s c).sts.idxOf s:Nat)) H'
def ll0:Sp:=fun vs H Q _=>∃F w A W n s,vs=[.ref w,.int (n:Nat)]/\Trk F H/\WebAt C CW p F H w A W/\WOk p W/\W.sts[n]?=some s/\
 ∀F' H' W' ms a xs,Chg A.L F H F' H'->WebAt C CW p F' H' w A W'->WOk p W'->W.sts<+:W'.sts->W'.mov=W.mov->Moves p W'.sts s ms->H a=none->¬F' a->H' a=some (.lst xs)->Rps F' H' xs (ms.map ky0)->Q (.ref a) H'
def lT0:Sp:=fun vs H Q _=>∃F w A W n s,vs=[.ref w,.int (n:Nat)]/\Trk F H/\WebAt C CW p F H w A W/\WOk p W/\W.sts[n]?=some s/\
 (∀ms v,W.mov.lookup n=some ms->Rp F H v (eY0 ms)->Q v H)/\
 (W.mov.lookup n=none->∀F' H' W' ms v,Chg A.L F H F' H'->WebAt C CW p F' H' w A W'->WOk p W'->W.sts<+:W'.sts->W'.mov=W.mov++ [(n,ms)]->Rp F' H' v (eY0 ms)->Q v H')
def Known (W:WebM)(k:Nat):Prop:=∀n,n<k->∃ms,W.mov.lookup n=some ms
def nV0:Sp:=fun vs H Q _=>∃F w A W k,vs=[.ref w,.int (k:Nat)]/\Trk F H/\WebAt C CW p F H w A W/\WOk p W/\k<=W.sts.length/\Known W k/\
 ∀F' H' W',Chg A.L F H F' H'->WebAt C CW p F' H' w A W'->WOk p W'->W.sts<+:W'.sts->Known W' W.sts.length->Q (.int (W.sts.length:Nat)) H'
def nT0:Sp:=fun vs H Q _=>∃F w A W,vs=[.ref w]/\Trk F H/\WebAt C CW p F H w A W/\WOk p W/\
 ∀F' H' W',Chg A.L F H F' H'->WebAt C CW p F' H' w A W'->WOk p W'->Known W' W'.sts.length->Q .non H'
def oH0:Sp:=fun vs H Q _=>∃F w dx gv,vs=[.ref w,gv]/\Trk F H/\H w=some (.ins CW dx [])/\¬F w/\Rp F H gv (garT C p)/\
 ∀F' H' A W,Chg [w] F H F' H'->(∀a∈A.L,H a=none)->WebAt C CW p F' H' w A W->WOk p W->W.mov=[]->Q .non H'
end
theorem WebAt.add {C CW:Addr}{p:Plot}{F:Addr->Prop}{H:Hp}{w:Addr}{A:WAd}{W:WebM}(hW:WebAt C CW p F H w A W)(tk:Trk F H){s:Stt}{c:Option (Nat × List Nat)}{sv cv:V}{xs ys:List V}(hm:s∉W.sts)(rs:Rp F H sv (au0 s))(rc:Rp F H cv (lD0 c))
  (hs:H A.sa=some (.lst xs)) (rxs:Rps F H xs (W.sts.map au0)) (hc:H A.ca=some (.lst ys)) (rys:Rps F H ys (W.came.map lD0)):
  Chg A.L F H F (upd (upd (upd H A.na (.dT (dJ0 (W.sts++ [s]) 0))) A.sa (.lst (xs++ [sv]))) A.ca (.lst (ys++ [cv])))/\
  WebAt C CW p F (upd (upd (upd H A.na (.dT (dJ0 (W.sts++ [s]) 0))) A.sa (.lst (xs++ [sv]))) A.ca (.lst (ys++ [cv]))) w A {W with sts:=W.sts++ [s],came:=W.came++ [c]}:=by
 obtain⟨kvs,hk,rk⟩:=hW.mov
 have n1:w≠A.na:=bJ0 hW.ins hW.num (fun z=>nomatch z)
 have n2:A.na≠A.sa:=bJ0 hW.num hs (fun z=>nomatch z)
 have n3:A.na≠A.ca:=bJ0 hW.num hc (fun z=>nomatch z)
 have n4:w≠A.sa:=bJ0 hW.ins hs (fun z=>nomatch z)
 have n5:w≠A.ca:=bJ0 hW.ins hc (fun z=>nomatch z)
 have n6:A.ma≠A.na:=bJ0 hk hW.num (fun z=>nomatch z)
 have n7:A.ma≠A.sa:=bJ0 hk hs (fun z=>nomatch z)
 have n8:A.ma≠A.ca:=bJ0 hk hc (fun z=>nomatch z)
 have z1:Chg A.L F H F (upd H A.na (.dT (dJ0 (W.sts++ [s]) 0))):=.write tk (by simp) (by rw [hW.num]; exact fun z=>nomatch z)
 have z2:=z1.trans (.write (a:=A.sa) (o:=.lst (xs++ [sv])) z1.trk (by simp) (z1.there _ (by rw [hs]; exact fun z=>nomatch z)))
 have z3:=z2.trans (.write (a:=A.ca) (o:=.lst (ys++ [cv])) z2.trk (by simp) (z2.there _ (by rw [hc]; exact fun z=>nomatch z)))
 have k:=z3.keep hW.loose
 refine⟨z3,?_,hW.gar.keep k,⟨xs++ [sv],?_,?_⟩,?_,⟨ys++ [cv],ai0,?_⟩,⟨kvs,?_,Paired.map2 (fun _ _ x=>⟨x.1,x.2.keep k⟩) rk⟩,hW.free,hW.ne⟩
 ·rw [ah0 n5,ah0 n4,ah0 n1]; exact hW.ins
 ·rw [ah0 hW.ne]; exact ai0
 ·rw [List.map_append]; exact(rxs.keep k).append (.cons (rs.keep k) .nil)
 ·rw [ah0 n3,ah0 n2]; exact ai0
 ·rw [List.map_append]; exact(rys.keep k).append (.cons (rc.keep k) .nil)
 ·rw [ah0 n8,ah0 n7,ah0 n6]; exact hk
def SpOk (P:Program)(w:World)(K:PySem.W.Frag)(mg:Str->Option Value)(base:Heap)(C:Addr)(k:Nat)(x:Str)(ps:List Str)(sp:Sp):Prop:=∃f fd,FnOk P w K mg base CX0 k f fd ps sp/\Meth K C x f/\Binds K fd ps []
section
variable {P:Program}{w:World}{K:PySem.W.Frag}{mg:Str->Option Value}{base:Heap}{C CWeb f:Addr}{fd:FuncData}{p:Plot}
theorem Qm0 (Fn:Fun K "number_of" "Web.number_of" vb0 f fd) (T:Txt K mg C CWeb):FnOk P w K mg base CX0 1 f fd j4 (lN0 C CWeb p):=by
 have sc:=jk0
 refine Fn.ok sc (fun vs H Q E h=> ?_) fun cdv Ar outer s H vs Q E hr h=> ?_
 ·obtain⟨F,w,A,W,s,c,sv,cv,rfl,_⟩:=h; rfl
 obtain⟨F,w,A,W,st,c,sv,cv,rfl,tk,hW,rs,rc,l1,l2,q⟩:=h
 refine⟨_,ax0 (ie0 (iK0 (dS0 (cP0 hr) (pv 1) (bF0 (pv 0) rfl)) rfl)
   (ax0 (ec0 (cP0 hr) (bF0 (pv 0) rfl) (pv 1) (cb0 cG0 (by rfl) T.Z0 PySem.boot_len (ap0 (bF0 (pv 0) rfl) aG0)) rfl)
    (ax0 (bK0 (fF0 PySem.F.plainAttrs_list PySem.F.slot_list_append PySem.F.type_list_append cH0 (bF0 (pv 0) rfl) (ap0 (pv 1) aG0)))
     (aW0 (bK0 (fF0 PySem.F.plainAttrs_list PySem.F.slot_list_append PySem.F.type_list_append cH0 (bF0 (pv 0) rfl) (ap0 (pv 2) aG0))))))
   dz0) (aW0 (cu0 (cU0 (cP0 hr) (bF0 (pv 0) rfl) (pv 1) (fun _ _=>rfl)))),?_⟩
 obtain⟨b,rfl,kb⟩:=gL0 rs
 have hv:=ff0 st W.sts 0
 refine⟨_,rfl,nU0 rfl hW.ins T.cl_Web T.y4 rfl ⟨A.na,_,rfl,DGet.t hW.num kb,_,rfl,?_⟩⟩
 unfold WebM.num at q
 by_cases hm:st∈W.sts
 ·rw [hv,if_pos hm]
  rw [if_pos hm] at q
  refine iteF ?_
  refine⟨_,rfl,_,_,_,_,_,rfl,hW.ins,T.cl_Web,T.y4,rfl,⟨_,rfl,A.na,_,rfl,?_,q H (Mono.refl tk).chg hW⟩⟩
  have:=DGet.t (k:=keyS st) hW.num kb
  rw [hv,if_pos hm,Nat.zero_add] at this
  exact this
 ·rw [hv,if_neg hm]
  rw [if_neg hm] at q
  refine iteT ?_
  obtain⟨xs,hs,rxs⟩:=hW.sts
  obtain⟨ys,hc,rys⟩:=hW.came
  have lx:xs.length=W.sts.length:=by rw [rxs.length,List.length_map]
  have ly:ys.length=W.came.length:=by rw [rys.length,List.length_map]
  refine⟨_,rfl,_,_,_,_,_,rfl,hW.ins,T.cl_Web,T.Q1,rfl,⟨_,xs,rfl,.inl (SqL.of hs),?_⟩⟩
  refine⟨_,rfl,_,_,_,_,_,rfl,hW.ins,T.cl_Web,T.y4,rfl,⟨_,rfl,A.na,_,rfl,DPut.t hW.num kb (by rw [mm0,sizeLine_eq]; omega),?_⟩⟩
  have hvn:valV (dJ0 W.sts 0) (keyS st)=none:=by rw [hv,if_neg hm]
  rw [dM0 _ hvn,lx,<- kJ0]
  have n1:w≠A.na:=bJ0 hW.ins hW.num (fun z=>nomatch z)
  have n2:A.sa≠A.na:=bJ0 hs hW.num (fun z=>nomatch z)
  have n3:A.ca≠A.na:=bJ0 hc hW.num (fun z=>nomatch z)
  have n4:w≠A.sa:=bJ0 hW.ins hs (fun z=>nomatch z)
  have n5:w≠A.ca:=bJ0 hW.ins hc (fun z=>nomatch z)
  refine⟨_,rfl,_,_,_,_,_,rfl,(ah0 n1).trans hW.ins,T.cl_Web,T.Q1,rfl,⟨.inl ⟨rfl,xs,SqL.of ((ah0 n2).trans hs)⟩,_,rfl,A.sa,xs,_,rfl,rfl,(ah0 n2).trans hs,by rw [sizeLine_eq]; omega,?_⟩⟩
  refine⟨_,rfl,_,_,_,_,_,rfl,(ah0 n4).trans ((ah0 n1).trans hW.ins),T.cl_Web,T.Kb0,rfl,⟨.inl ⟨rfl,ys,SqL.of ((ah0 (Ne.symm hW.ne)).trans ((ah0 n3).trans hc))⟩,_,rfl,A.ca,ys,_,rfl,rfl,(ah0 (Ne.symm hW.ne)).trans ((ah0 n3).trans hc),by rw [sizeLine_eq]; omega,?_⟩⟩
  obtain⟨z,hW'⟩:=hW.add tk hm rs rc hs rxs hc rys
  refine⟨_,rfl,_,_,_,_,_,rfl,hW'.ins,T.cl_Web,T.y4,rfl,⟨_,rfl,A.na,_,rfl,?_,q _ z hW'⟩⟩
  have:=DGet.t (k:=keyS st) hW'.num (kb.keeps fun b xs e=>(z.keep hW.loose).tup b xs e)
  rw [ff0,if_pos (List.mem_append_right _ (.head _)),Nat.zero_add] at this
  exact this
theorem hy0:2<=sizeLine:=by rw [sizeLine_eq]; decide
theorem dV0 {p:Plot}(hp:Tight p){s:Stt}(h:Reach p s):(mayM p s).length<=125:=by
 have r:=h.ran hp.toBound
 have l:=r.len
 have f:=r.few
 have h1:=(dj0 p hp.few s.length s rfl).1
 have h2:=cE0 (n:=s.length) (by omega)
 have h3:(mayM p s).length<=(cp0 p s).length:=List.length_filter_le _ _
 omega
theorem WOk.room {p:Plot}{W:WebM}(hp:Tight p)(h:WOk p W):W.sts.length<100000/\W.came.length<100000:=by
 have:=h.few hp
 have:=h.cl
 omega
theorem Reach.small {p:Plot}(hp:Tight p){s:Stt}(h:Reach p s):s.length<=3/\∀b∈s,b.2.length<=1000/\∀c∈b.2,c<p.crops.length:=by
 have r:=h.ran hp.toBound
 have dd:=fj0 (p:=p) (k:=3) (by decide) fun c hc=>(hp.gap c hc).2
 refine⟨by rw [r.len]; exact r.few,fun b hb=>⟨?_,(r.stood b hb).2⟩⟩
 have:=(r.stood b hb).1
 omega
theorem Jm0 (Fn:Fun K "worked_out" "Web.worked_out" xb0 f fd) (T:Txt K mg C CWeb) (hp:Tight p) (D1:cQ0 P w K mg base C 3 "may" Y5 (z9 C)) (D2:cQ0 P w K mg base C 2 "beds_behind" j6 (j9 C))
  (D3:SpOk P w K mg base CWeb 1 "number_of" j4 (lN0 C CWeb p)):FnOk P w K mg base CX0 4 f fd V7 (ll0 C CWeb p):=by
 have sc:=wk0
 refine Fn.ok sc (fun vs H Q E h=> ?_) fun cdv Ar outer s H vs Q E hr h=> ?_
 ·obtain⟨F,w,A,W,n,s,rfl,_⟩:=h; rfl
 obtain⟨F,w,A,W,n,st,rfl,tk,hW,ok,hn,q⟩:=h
 obtain⟨f1,d1,F1,M1,B1⟩:=D1
 obtain⟨f2,d2,F2,M2,B2⟩:=D2
 obtain⟨f3,d3,F3,M3,B3⟩:=D3
 refine⟨_,ax0 (bX0 (i:=2) sc.nd rfl (Or.inl rfl) (mr0 ix_list (bF0 (pv 0) rfl) (pv 1) (fun _ _=>rfl)))
  (ax0 (bX0 (i:=3) sc.nd rfl (Or.inl rfl) (fD0 aG0))
  (ax0 (fP0 PassesOwn.never rfl (dq0 (cg0 (bF0 (pv 0) rfl) T.cl_Garden M1 F1 (hr.mono (by decide)) B1 .nil bU0 (ap0 (pv 2) aG0))) (as0 (i:=4) sc.nd rfl (Or.inl rfl))
   (ax0 (bX0 (i:=5) sc.nd rfl (Or.inl rfl) (cg0 (bF0 (pv 0) rfl) T.cl_Garden M2 F2 (hr.mono (by decide)) B2 .nil bU0 (ap0 (pv 2) (ap0 (pv 4) aG0))))
   (aW0 (bK0 (fF0 PySem.F.plainAttrs_list PySem.F.slot_list_append PySem.F.type_list_append cH0 (pv 3) (ap0 (fT0 (ap0 (pv 4)
    (ap0 (cg0 (pv 0) T.cl_Web M3 F3 (hr.mono (by decide)) B3 .nil bU0 (ap0 (pv 5) (ap0 (fT0 (ap0 (pv 1) (ap0 (pv 4) aG0))) aG0))) aG0))) aG0))))))
  (aW0 (cu0 (pv 3))))),?_⟩
 have re:=ok.re st (List.mem_of_getElem? hn)
 obtain⟨sm1,sm2⟩:=re.small hp
 obtain⟨xs,hs,rxs⟩:=hW.sts
 obtain⟨sv,hsv,rsv⟩:=rxs.get (i:=n) (t:=au0 st) (by rw [List.getElem?_map,hn]; rfl)
 refine⟨_,rfl,_,_,_,_,_,rfl,hW.ins,T.cl_Web,T.Q1,rfl,⟨_,rfl,A.sa,xs,n,sv,rfl,rfl,SqL.of hs,atI_nat hsv,?_⟩⟩
 refine⟨Nat.zero_le _,fun l hl=> ?_⟩
 have m0:Mono F H F (upd H l (.lst [])):=.laid tk hl
 have hW0:=hW.mono m0
 obtain⟨ga,gdx,gfs,eg,hg,rg⟩:=hW0.gar.ins_
 refine⟨_,rfl,_,_,_,_,_,rfl,hW0.ins,T.cl_Web,T.Y9,rfl,⟨ga,gdx,gfs,eg,hg,rg.look_none rfl,_,rfl,F,[garT C p,au0 st],true,_,m0.trk,.cons hW0.gar (.cons (rsv.keep m0.keep) .nil),oQ0 C p hp.toGood st sm1,fun F2 v H2 m2 rv=> ?_⟩⟩
 obtain⟨a,rfl,ha,nfa,rv⟩:=(show∃a,v=.ref a/\upd H l (.lst []) a=none/\¬F2 a/\Rp1 F2 H2 a (.lst ((mayM p st).map rowT)) from rv)
 obtain⟨rs,har,rrs⟩:∃rs,H2 a=some (.lst rs)/\Rps F2 H2 rs ((mayM p st).map rowT):=by cases rv with|lst h r=>exact⟨_,h,r⟩
 have nl:¬F l:=tk.not hl
 have hl1:upd H l (.lst []) l=some (.lst []):=ai0
 have al:a≠l:=fun z=>by rw [z,hl1] at ha; cases ha
 have m2':Mono F (upd H l (.lst [])) (fun b=>F2 b\/ b=a) H2:=m2.freeze ha ⟨_,har⟩
 have hW2:=hW0.mono m2'
 have hl2:H2 l=some (.lst []):=m2.ext _ _ hl1
 have nl2:¬(F2 l\/ l=a):=fun z=>z.elim (fun z=>(m2.new l z).elim nl fun z=>by rw [hl1] at z; cases z) fun z=>al z.symm
 have lo2:dT0 (l::A.L) (fun b=>F2 b\/ b=a) H2:=fun b hb=>by
  rcases List.mem_cons.mp hb with rfl|hb
  ·exact⟨nl2,fun xs z=>by rw [hl2] at z; cases z⟩
  ·exact hW2.loose b hb
 have nlA:∀{F':Addr->Prop} {H':Hp} {W':WebM},WebAt C CWeb p F' H' w A W'->(∃xs,H' l=some (.lst xs))->l≠w/\l≠A.na/\l≠A.ma:=fun hW ⟨ys,hl⟩=>by
  obtain⟨ks,hk,_⟩:=hW.mov
  exact⟨bJ0 hl hW.ins (fun z=>nomatch z),bJ0 hl hW.num (fun z=>nomatch z),bJ0 hl hk (fun z=>nomatch z)⟩
 have lsa:l≠A.sa:=fun z=>by rw [z,hs] at hl; cases hl
 have lca:l≠A.ca:=fun z=>by obtain⟨cs,hc,_⟩:=hW.came; rw [z,hc] at hl; cases hl
 refine⟨a,rfl,⟨rs,SqL.of har⟩,jE0 (F0:=fun b=>F2 b\/ b=a) (bV0 (.inr rfl) har (rrs.keep Keep.freeze))
  (fun i F' σ H'=>∃(W':WebM) (ms:List (List Nat × Nat)) (xs':List V) (y z:Option V),Chg (l::A.L) (fun b=>F2 b\/ b=a) H2 F' H'/\WebAt C CWeb p F' H' w A W'/\WOk p W'/\W.sts<+:W'.sts/\W'.mov=W.mov/\H' l=some (.lst xs')/\¬F' l/\Rps F' H' xs' (ms.map ky0)/\ms.map (·.1)=(mayM p st).take i/\
   (∀m∈ms,W'.sts[m.2]?=some (ar0 p st m.1))/\σ=[some (.ref w),some (.int n),some sv,some (.ref l),y,z]) ?_ ?_ ?_ ?_⟩
 ·rintro i F' σ H' ⟨W',ms,xs',y,z,c,_⟩
  exact⟨c.keep lo2,c.trk⟩
 ·exact⟨W,[],[],none,none,(Mono.refl m2'.trk).chg,hW2,ok,List.prefix_refl _,rfl,hl2,nl2,.nil,rfl,(fun _ z=>nomatch z),rfl⟩
 ·rintro i t F3 σ H3 F4 H4 v hi ⟨W',ms,xs',y,z,c,hW3,ok3,pr,em,hl3,nl3,rm,e1,e2,rfl⟩ m4 rv
  obtain⟨r,hr',rfl⟩:∃r,(mayM p st)[i]?=some r/\t=rowT r:=by
   rw [List.getElem?_map] at hi
   cases e:(mayM p st)[i]? with
   |none=>rw [e] at hi; cases hi
   |some r=>rw [e] at hi; cases hi; exact⟨r,rfl,rfl⟩
  have hrm:r∈mayM p st:=List.mem_of_getElem? hr'
  obtain⟨k1,k2,k3⟩:=gx0 hrm
  have hW4:=hW3.mono m4
  have rsv2:Rp F4 H4 sv (au0 st):=(((rsv.keep m0.keep).keep m2'.keep).keep (c.keep lo2)).keep m4.keep
  obtain⟨ga,gdx,gfs,eg,hg,rg⟩:=hW4.gar.ins_
  refine⟨_,rfl,_,_,_,_,_,rfl,hW4.ins,T.cl_Web,T.Y9,rfl,⟨ga,gdx,gfs,eg,hg,rg.look_none rfl,_,rfl,_,rfl,F4,[garT C p,au0 st,rowT r],false,_,m4.trk,.cons hW4.gar (.cons rsv2 (.cons rv .nil)),mC0 C p hp.toGood st r sm1 (fun b hb=>(sm2 b hb).1) k2,fun F5 v2 H5 m5 rv2=> ?_⟩⟩
  have rv2:Rp F5 H5 v2 (au0 (ar0 p st r)):=rv2
  have hW5:=hW4.mono m5
  have hl5:H5 l=some (.lst xs'):=m5.ext _ _ (m4.ext _ _ hl3)
  have m45:=m4.trans m5
  refine⟨_,rfl,.inl ⟨rfl,xs',SqL.of hl5⟩,_,rfl,⟨_,rfl,w,A.dx,_,rfl,hW5.ins,rfl,_,rfl,_,rfl,_,rfl,hy0,fun t1 ht1=> ?_⟩⟩
  have m6:Mono F5 H5 F5 (upd H5 t1 (.tup [.int n,v])):=.laid m5.trk ht1
  obtain⟨b1,b2⟩:=ok3.room hp
  refine⟨F5,w,A,W',ar0 p st r,some (n,r),v2,.ref t1,rfl,m6.trk,hW5.mono m6,rv2.keep m6.keep,.tup ai0 (.cons (.int _) (.cons ((rv.keep m5.keep).keep m6.keep) .nil)),b1,b2,fun H7 c7 hW7=> ?_⟩
  refine⟨hy0,fun t2 ht2=> ?_⟩
  have lo6:=(hW5.mono m6).loose
  have m8:Mono F5 H7 F5 (upd H7 t2 (.tup [v,.int ((W'.num (ar0 p st r) (some (n,r))).sts.idxOf (ar0 p st r):Nat)])):=.laid c7.trk ht2
  have hl7:H7 l=some (.lst xs'):=c7.ext _ _ (by simp [lsa,lca,(nlA hW5 ⟨_,hl5⟩).2.1,(nlA hW5 ⟨_,hl5⟩).2.2]) (m6.ext _ _ hl5)
  have hl8:=m8.ext _ _ hl7
  have hlm:xs'.length<=125:=by
   have h1:=dV0 hp re
   have h2:ms.length=((mayM p st).take i).length:=by rw [<- e1,List.length_map]
   rw [rm.length,List.length_map,h2,List.length_take]
   omega
  refine⟨l,xs',_,rfl,rfl,hl8,by rw [sizeLine_eq]; omega,F5,?_⟩
  have k57:Keep F5 H5 F5 (upd H7 t2 (.tup [v,.int ((W'.num (ar0 p st r) (some (n,r))).sts.idxOf (ar0 p st r):Nat)])):=(m6.keep.trans (c7.keep lo6)).trans m8.keep
  have nl5:¬F5 l:=fun z=>(m45.new l z).elim nl3 fun z=>by rw [hl3] at z; cases z
  obtain⟨z1,z2,z3⟩:=nG0 W' (ar0 p st r) (some (n,r))
  have wr:Chg (l::A.L) F5 (upd H7 t2 (.tup [v,.int ((W'.num (ar0 p st r) (some (n,r))).sts.idxOf (ar0 p st r):Nat)])) F5 (upd (upd H7 t2 (.tup [v,.int ((W'.num (ar0 p st r) (some (n,r))).sts.idxOf (ar0 p st r):Nat)])) l (.lst (xs'++ [.ref t2]))):=
   .write m8.trk (.head _) (by rw [hl8]; exact fun z=>nomatch z)
  have lo8:dT0 [l] F5 (upd H7 t2 (.tup [v,.int ((W'.num (ar0 p st r) (some (n,r))).sts.idxOf (ar0 p st r):Nat)])):=fun b hb=>by
   rw [List.mem_singleton.mp hb]
   exact⟨nl5,fun xs z=>by rw [hl8] at z; cases z⟩
  have wr1:Chg [l] F5 (upd H7 t2 (.tup [v,.int ((W'.num (ar0 p st r) (some (n,r))).sts.idxOf (ar0 p st r):Nat)])) F5 (upd (upd H7 t2 (.tup [v,.int ((W'.num (ar0 p st r) (some (n,r))).sts.idxOf (ar0 p st r):Nat)])) l (.lst (xs'++ [.ref t2]))):=
   .write m8.trk (.head _) (by rw [hl8]; exact fun z=>nomatch z)
  have k8:=wr1.keep lo8
  have hW8:=hW7.mono m8
  have nlw:=nlA hW8 ⟨_,hl8⟩
  refine⟨W'.num (ar0 p st r) (some (n,r)),ms++ [(r,(W'.num (ar0 p st r) (some (n,r))).sts.idxOf (ar0 p st r))],xs'++ [.ref t2],some v,some v2,?_,?_,ok3.num (cq0 pr hn) hrm,pr.trans z1,z3.trans em,ai0,nl5,?_,?_,?_,rfl⟩
  ·exact(((c.trans m45.chg).trans m6.chg).trans ((c7.mono fun a h=> .tail _ h).trans m8.chg)).trans wr
  ·exact hW8.keep wr1 lo8 (by simp [nlw.1.symm,nlw.2.1.symm,nlw.2.2.symm,lsa.symm,lca.symm])
  ·rw [List.map_append]
   refine(((rm.keep m45.keep).keep k57).keep k8).append (.cons (.tup (by rw [ah0 (am0 hl7 ht2).symm]; exact ai0) (.cons (((rv.keep m5.keep).keep k57).keep k8) (.cons (.int _) .nil))) .nil)
  ·rw [List.map_append,e1,List.take_add_one,hr']
   rfl
  ·intro m hm
   rcases List.mem_append.mp hm with hm|hm
   ·exact cq0 z1 (e2 m hm)
   ·rw [List.mem_singleton.mp hm]
    exact nI0 z2
 ·rintro F3 σ H3 ⟨W',ms,xs',y,z,c,hW3,ok3,pr,em,hl3,nl3,rm,e1,e2,rfl⟩
  refine⟨_,rfl,q F3 H3 W' ms l xs' ?_ hW3 ok3 pr em ⟨?_,e2⟩ hl nl3 hl3 rm⟩
  ·have c':=(m0.trans m2').chg (L:=l::A.L)|>.trans c
   exact⟨fun b o nb h=>c'.ext b o (fun z=>by rcases List.mem_cons.mp z with z|z; rw [z,hl] at h; cases h; exact nb z) h,c'.sub,c'.new,c'.trk,c'.there⟩
  ·rw [e1,List.length_map,List.take_length]
end
theorem hU0 {β:Type}(n:Nat)(m:List (Nat × β)):∀l:List (Nat × β),(l++m).lookup n=(l.lookup n).or (m.lookup n)
 | []=>rfl
 | (k,v)::l=>by
  rw [List.cons_append,List.lookup_cons,List.lookup_cons,hU0 n m l]
  cases n==k<;>rfl
theorem look_none {β:Type}{n:Nat}:∀{l:List (Nat × β)},l.lookup n=none->n∉l.map (·.1)
 | [],_,h=>nomatch h
 | (k,v)::l,e,h=>by
  rw [List.lookup_cons] at e
  cases q:n==k with
  |true=>rw [q] at e; cases e
  |false=>
   rw [q] at e
   rcases List.mem_cons.mp h with z|z
   ·have z:n=k:=z
    simp [z] at q
   ·exact look_none e z
theorem fq0 {β:Type}{n:Nat}{v:β}:∀{l:List (Nat × β)},l.lookup n=some v->(n,v)∈l
 | [],h=>nomatch h
 | (k,u)::l,e=>by
  rw [List.lookup_cons] at e
  cases q:n==k with
  |true=>
   rw [q] at e; cases e
   rw [show n=k from by simpa using q]
   exact .head _
  |false=>rw [q] at e; exact .tail _ (fq0 e)
theorem WOk.addM {p:Plot}{W:WebM}(h:WOk p W){n:Nat}{s:Stt}{ms:List (List Nat × Nat)}(hs:W.sts[n]?=some s)(hm:Moves p W.sts s ms)(hn:W.mov.lookup n=none):WOk p {W with mov:=W.mov++ [(n,ms)]}:=by
 refine⟨h.nd,h.re,h.st,h.cl,h.cm,?_,fun x hx=> ?_⟩
 ·rw [List.map_append]
  refine List.nodup_append.mpr ⟨h.mn,List.nodup_cons.mpr ⟨(fun z=>nomatch z),List.nodup_nil⟩,fun a ha b hb e=> ?_⟩
  rw [List.mem_singleton.mp hb] at e
  have e:a=n:=e
  exact look_none hn (e▸ha)
 ·rcases List.mem_append.mp hx with hx|hx
  ·exact h.mv x hx
  ·rw [List.mem_singleton.mp hx]
   exact⟨s,hs,hm⟩
theorem WebAt.addM {C CW:Addr}{p:Plot}{F:Addr->Prop}{H:Hp}{w:Addr}{A:WAd}{W:WebM}(hW:WebAt C CW p F H w A W)(tk:Trk F H){n:Nat}{ms:List (List Nat × Nat)}{a:Addr}{xs:List V}{kvs:List (Key × V)}(ha:H a=some (.lst xs))(na:a∉ [w,A.sa,A.na,A.ca,A.ma])(rx:Rps F H xs (ms.map ky0))
  (hk:H A.ma=some (.dK kvs)) (rk:Paired (fun(x:Key × V) (y:Nat × List (List Nat × Nat))=>x.1=.inl (y.1:Int)/\Rp F H x.2 (eY0 y.2)) kvs W.mov):
  Chg A.L F H F (upd H A.ma (.dK (kvs++ [(.inl (n:Int),.ref a)])))/\WebAt C CW p (fun b=>F b\/ b=a) (upd H A.ma (.dK (kvs++ [(.inl (n:Int),.ref a)]))) w A {W with mov:=W.mov++ [(n,ms)]}:=by
 obtain⟨xs1,h1,r1⟩:=hW.sts
 obtain⟨ys,h2,r2⟩:=hW.came
 have n1:w≠A.ma:=bJ0 hW.ins hk (fun z=>nomatch z)
 have n2:A.na≠A.ma:=bJ0 hW.num hk (fun z=>nomatch z)
 have n3:A.sa≠A.ma:=bJ0 h1 hk (fun z=>nomatch z)
 have n4:A.ca≠A.ma:=bJ0 h2 hk (fun z=>nomatch z)
 have n5:a≠A.ma:=fun z=>na (by simp [z])
 have z1:Chg A.L F H F (upd H A.ma (.dK (kvs++ [(.inl (n:Int),.ref a)]))):=.write tk (by simp) (by rw [hk]; exact fun z=>nomatch z)
 have k:Keep F H (fun b=>F b\/ b=a) (upd H A.ma (.dK (kvs++ [(.inl (n:Int),.ref a)]))):=(z1.keep hW.loose).trans Keep.freeze
 refine⟨z1,(ah0 n1).trans hW.ins,hW.gar.keep k,⟨xs1,(ah0 n3).trans h1,r1.keep k⟩,(ah0 n2).trans hW.num,⟨ys,(ah0 n4).trans h2,r2.keep k⟩,⟨_,ai0,?_⟩,fun b hb z=>z.elim (hW.free b hb) fun z=>na (z▸hb),hW.ne⟩
 exact Paired.snoc (Paired.map2 (fun _ _ x=>⟨x.1,x.2.keep k⟩) rk) ⟨rfl,.lst (.inr rfl) ((ah0 n5).trans ha) (rx.keep k)⟩
section
variable {P:Program}{w:World}{K:PySem.W.Frag}{mg:Str->Option Value}{base:Heap}{C CWeb f:Addr}{fd:FuncData}{p:Plot}
theorem Km0 (Fn:Fun K "moves_of" "Web.moves_of" yb0 f fd) (T:Txt K mg C CWeb) (hp:Tight p) (D1:SpOk P w K mg base CWeb 4 "worked_out" V7 (ll0 C CWeb p)):FnOk P w K mg base CX0 5 f fd v4 (lT0 C CWeb p):=by
 have sc:=kk0
 refine Fn.ok sc (fun vs H Q E h=> ?_) fun cdv Ar outer s H vs Q E hr h=> ?_
 ·obtain⟨F,w,A,W,n,s,rfl,_⟩:=h; rfl
 obtain⟨F,w,A,W,n,st,rfl,tk,hW,ok,hn,q1,q2⟩:=h
 obtain⟨f1,d1,F1,M1,B1⟩:=D1
 refine⟨_,ax0 (ie0 (iK0 (dS0 (cP0 hr) (pv 1) (bF0 (pv 0) rfl)) rfl)
   (aW0 (ec0 (cP0 hr) (bF0 (pv 0) rfl) (pv 1) (cg0 (pv 0) T.cl_Web M1 F1 (hr.mono (by decide)) B1 .nil bU0 (ap0 (pv 1) aG0)) rfl))
   dz0) (aW0 (cu0 (cU0 (cP0 hr) (bF0 (pv 0) rfl) (pv 1) (fun _ _=>rfl)))),?_⟩
 obtain⟨kvs,hk,rk⟩:=hW.mov
 refine⟨_,rfl,nU0 rfl hW.ins T.cl_Web T.Z4 rfl ⟨A.ma,_,rfl,DGet.k (k:=.inl (n:Int)) hk,_,rfl,?_⟩⟩
 obtain⟨v1,v2⟩:=iM0 n rk
 cases e:W.mov.lookup n with
 |some ms=>
  obtain⟨v,ev,rv⟩:=v2 ms e
  rw [ev]
  refine iteF ?_
  refine⟨_,rfl,_,_,_,_,_,rfl,hW.ins,T.cl_Web,T.Z4,rfl,⟨_,rfl,A.ma,v,rfl,?_,q1 ms v e rv⟩⟩
  have:=DGet.k (k:=Sum.inl (n:Int)) hk
  rw [ev] at this
  exact this
 |none=>
  rw [v1 e]
  refine iteT ?_
  refine⟨_,rfl,w,A.dx,_,rfl,hW.ins,rfl,_,rfl,F,w,A,W,n,st,rfl,tk,hW,ok,hn,fun F' H' W' ms a xs c hW' ok' pr em mv ha nfa hax rx=> ?_⟩
  obtain⟨kvs',hk',rk'⟩:=hW'.mov
  have na:a∉ [w,A.sa,A.na,A.ca,A.ma]:=fun z=>by
   obtain⟨o,q,_⟩:=hW.there a z
   rw [ha] at q; cases q
  have few:=ok'.fewM hp
  have lk:kvs'.length=W'.mov.length:=Paired.length rk'
  have vn:valV kvs' (Sum.inl (n:Int))=none:=(iM0 n rk').1 (by rw [em]; exact e)
  refine⟨_,rfl,_,_,_,_,_,rfl,hW'.ins,T.cl_Web,T.Z4,rfl,⟨_,rfl,A.ma,_,rfl,DPut.k (k:=.inl (n:Int)) hk' (by rw [sizeLine_eq]; omega),?_⟩⟩
  rw [dM0 _ vn]
  obtain⟨z1,hW''⟩:=hW'.addM c.trk (n:=n) hax na rx hk' rk'
  have tk2:Trk (fun b=>F' b\/ b=a) (upd H' A.ma (.dK (kvs'++ [(.inl (n:Int),.ref a)]))):=fun b hb=>hb.elim (z1.trk b) fun z=>by rw [z]; exact⟨_,(ah0 (fun z=>na (by simp [z]))).trans hax⟩
  refine⟨_,rfl,_,_,_,_,_,rfl,hW''.ins,T.cl_Web,T.Z4,rfl,⟨_,rfl,A.ma,.ref a,rfl,?_,q2 e _ _ _ ms _ ((c.trans z1).freeze ha (tk2 a (.inr rfl))) hW'' (ok'.addM (cq0 pr hn) mv (by rw [em]; exact e)) pr (by rw [<- em]) ?_⟩⟩
  ·have:=DGet.k (k:=Sum.inl (n:Int)) (show upd H' A.ma (.dK (kvs'++ [(.inl (n:Int),.ref a)])) A.ma=_ from ai0)
   rw [eb0 _ _ _ _ vn,if_pos rfl] at this
   exact this
  ·refine .lst (.inr rfl) ((ah0 (fun z=>na (by simp [z]))).trans hax) (rx.keep ((z1.keep hW'.loose).trans Keep.freeze))
theorem Known.snoc {W W':WebM}{k:Nat}{ms:List (List Nat × Nat)}(h:Known W k)(e:W.mov.lookup k=none)(m:W'.mov=W.mov++ [(k,ms)]):Known W' (k+1):=fun n hn=>by
 rw [m,hU0]
 by_cases z:n=k
 ·rw [z,e,List.lookup_cons,beq_self_eq_true]
  exact⟨_,rfl⟩
 ·obtain⟨x,hx⟩:=h n (by omega)
  rw [hx]
  exact⟨x,rfl⟩
theorem Wm0 (Fn:Fun K "widen" "Web.widen" hb0 f fd) (T:Txt K mg C CWeb) (hp:Tight p) (D1:SpOk P w K mg base CWeb 5 "moves_of" v4 (lT0 C CWeb p)):FnOk P w K mg base CX0 6 f fd Y7 (nV0 C CWeb p):=by
 have sc:=vk0
 refine Fn.ok sc (fun vs H Q E h=> ?_) fun cdv Ar outer s H vs Q E hr h=> ?_
 ·obtain⟨F,w,A,W,k,rfl,_⟩:=h; rfl
 obtain⟨F,w,A,W,k,rfl,tk,hW,ok,hk,kn,q⟩:=h
 obtain⟨f1,d1,F1,M1,B1⟩:=D1
 refine⟨_,ax0 (bX0 (i:=2) sc.nd rfl (Or.inl rfl) (cb0 cG0 (by rfl) T.Z0 PySem.boot_len (ap0 (bF0 (pv 0) rfl) aG0)))
  (ax0 (fP0 PassesOwn.never rfl (kO0 (by rfl) T.X0 (ap0 (pv 1) (ap0 (pv 2) aG0))) (as0 (i:=3) sc.nd rfl (Or.inl rfl))
   (aW0 (bK0 (cg0 (pv 0) T.cl_Web M1 F1 (hr.mono (by decide)) B1 .nil bU0 (ap0 (pv 3) aG0)))))
  (aW0 (cu0 (pv 2)))),?_⟩
 obtain⟨xs,hs,rxs⟩:=hW.sts
 have lx:xs.length=W.sts.length:=by rw [rxs.length,List.length_map]
 have few:=ok.few hp
 refine⟨_,rfl,_,_,_,_,_,rfl,hW.ins,T.cl_Web,T.Q1,rfl,⟨_,xs,rfl,.inl (SqL.of hs),?_⟩⟩
 rw [lx]
 refine⟨_,rfl,_,rfl,(k:Int),(W.sts.length:Int),rfl,⟨by omega,by omega,by omega,by omega⟩,kN0 (lo:=k) (n:=((W.sts.length:Int) - (k:Int)).toNat)
  (fun i σ H'=>∃F' W' y,σ=[some (.ref w),some (.int k),some (.int (W.sts.length:Nat)),y]/\Chg A.L F H F' H'/\WebAt C CWeb p F' H' w A W'/\WOk p W'/\W.sts<+:W'.sts/\Known W' (k+i)) ?_ ?_ ?_⟩
 ·exact⟨F,W,none,rfl,(Mono.refl tk).chg,hW,ok,List.prefix_refl _,kn⟩
 ·rintro i σ H' hi ⟨F',W',y,rfl,c,hW',ok',pr,kn'⟩
  obtain⟨st,hst⟩:∃st,W'.sts[k+i]?=some st:=by
   have:=pr.length_le
   exact⟨_,List.getElem?_eq_getElem (by omega)⟩
  refine⟨_,rfl,w,A.dx,_,rfl,hW'.ins,rfl,_,rfl,F',w,A,W',k+i,st,by rw [Int.natCast_add]; rfl,c.trk,hW',ok',hst,fun ms v e rv=> ?_,fun e F2 H2 W2 ms v c2 hW2 ok2 pr2 em rv=> ?_⟩
  ·refine⟨F',W',_,rfl,c,hW',ok',pr,fun n hn=> ?_⟩
   by_cases z:n=k+i
   ·rw [z]; exact⟨ms,e⟩
   ·exact kn' n (by omega)
  ·exact⟨F2,W2,_,rfl,c.trans c2,hW2,ok2,pr.trans pr2,kn'.snoc e em⟩
 ·rintro σ H' ⟨F',W',y,rfl,c,hW',ok',pr,kn'⟩
  refine⟨_,rfl,q F' H' W' c hW' ok' pr fun n hn=>kn' n (by omega)⟩
theorem Vm0 (Fn:Fun K "widen_fully" "Web.widen_fully" Zb0 f fd) (T:Txt K mg C CWeb) (hp:Tight p) (D1:SpOk P w K mg base CWeb 6 "widen" Y7 (nV0 C CWeb p)):FnOk P w K mg base CX0 7 f fd X7 (nT0 C CWeb p):=by
 have sc:=yk0
 refine Fn.ok sc (fun vs H Q E h=> ?_) fun cdv Ar outer s H vs Q E hr h=> ?_
 ·obtain⟨F,w,A,W,rfl,_⟩:=h; rfl
 obtain⟨F,w,A,W,rfl,tk,hW,ok,q⟩:=h
 obtain⟨f1,d1,F1,M1,B1⟩:=D1
 refine⟨_,ax0 (bX0 (i:=1) sc.nd rfl (Or.inl rfl) jS0)
  (aW0 (gZ0 PassesOwn.never (fn0 op_lt (pv 1) (cb0 cG0 (by rfl) T.Z0 PySem.boot_len (ap0 (bF0 (pv 0) rfl) aG0)) (dB0 _))
   (aW0 (bX0 (i:=1) sc.nd rfl (Or.inl rfl) (cg0 (pv 0) T.cl_Web M1 F1 (hr.mono (by decide)) B1 .nil bU0 (ap0 (pv 1) aG0)))))),?_⟩
 refine⟨fun m σ H'=>∃F' W' k,σ=[some (.ref w),some (.int ((k:Nat):Int))]/\Chg A.L F H F' H'/\WebAt C CWeb p F' H' w A W'/\WOk p W'/\k<=W'.sts.length/\Known W' k/\m=1300 - k,⟨1300,F,W,0,rfl,(Mono.refl tk).chg,hW,ok,Nat.zero_le _,fun n hn=>absurd hn (Nat.not_lt_zero _),rfl⟩,?_⟩
 rintro m σ H' ⟨F',W',k,rfl,c,hW',ok',hk,kn,rfl⟩
 obtain⟨xs,hs,rxs⟩:=hW'.sts
 have lx:xs.length=W'.sts.length:=by rw [rxs.length,List.length_map]
 have few:=ok'.few hp
 refine⟨_,rfl,nU0 rfl hW'.ins T.cl_Web T.Q1 rfl ⟨_,xs,rfl,.inl (SqL.of hs),_,_,rfl,rfl,_,rfl,?_⟩⟩
 rw [lx]
 by_cases h:(k:Int)<(W'.sts.length:Int)
 ·rw [decide_eq_true h]
  refine iteT ⟨fun σ H2=>∃F2 W2,σ=[some (.ref w),some (.int (W'.sts.length:Nat))]/\Chg A.L F H F2 H2/\WebAt C CWeb p F2 H2 w A W2/\WOk p W2/\W'.sts<+:W2.sts/\Known W2 W'.sts.length,fun σ2 H2 ⟨F2,W2,e,c2,hW2,ok2,pr,kn2⟩=> ?_,?_⟩
  ·exact⟨1300 - W'.sts.length,by omega,F2,W2,W'.sts.length,e,c2,hW2,ok2,pr.length_le,kn2,rfl⟩
  ·exact⟨_,rfl,w,A.dx,_,rfl,hW'.ins,rfl,_,rfl,F',w,A,W',k,rfl,c.trk,hW',ok',hk,kn,fun F2 H2 W2 c2 hW2 ok2 pr kn2=>⟨F2,W2,rfl,c.trans c2,hW2,ok2,pr,kn2⟩⟩
 ·rw [decide_eq_false h]
  refine iteF (q F' H' W' c hW' ok' ?_)
  rw [show W'.sts.length=k by omega]
  exact kn
end
theorem _root_.L2.BD.Chg.fld {F:Addr->Prop}{H Hk:Hp}{w a:Addr}{o o':HO}(c:Chg [w] F H F Hk)(n:Hk a=none)(hw:Hk w≠none):Chg [w] F H F (upd (upd Hk a o) w o'):=by
 have m:Mono F Hk F (upd Hk a o):=.laid c.trk n
 have c1:Chg [w] F H F (upd Hk a o):=c.trans m.chg
 exact c1.trans (.write c1.trk (.head _) (m.chg.there (L:=[]) w hw))
theorem upd2 {Hk:Hp}{w a b:Addr}{o o' x:HO}(h:Hk b=some x)(n:Hk a=none)(nw:b≠w):upd (upd Hk a o) w o' b=some x:=by rw [ah0 nw,ah0 (am0 h n)]; exact h
theorem upd3 {Hk:Hp}{w a:Addr}{o o':HO}(nw:a≠w):upd (upd Hk a o) w o' a=some o:=by rw [ah0 nw]; exact ai0
theorem iE0 {p:Plot}:WOk p ⟨[bl0 p],[none],[]⟩:=by
 refine⟨List.nodup_cons.mpr ⟨(fun z=>nomatch z),List.nodup_nil⟩,fun s hs=> ?_,rfl,rfl,fun i c e=> ?_,List.nodup_nil,fun x hx=>nomatch hx⟩
 ·rw [List.mem_singleton.mp hs]; exact .start
 ·match i,e with
  |0,e=>cases e; exact .inl ⟨rfl,rfl⟩
  |i+1,e=>cases e
section
variable {P:Program}{w:World}{K:PySem.W.Frag}{mg:Str->Option Value}{base:Heap}{C CWeb f:Addr}{fd:FuncData}{p:Plot}
theorem Ym0 (Fn:Fun K "__init__" "Web.__init__" wb0 f fd) (T:Txt K mg C CWeb) (hp:Tight p) (D1:cQ0 P w K mg base C 1 "start" Q5 (W8 C)) (D2:SpOk P w K mg base CWeb 1 "number_of" j4 (lN0 C CWeb p)):FnOk P w K mg base CX0 2 f fd W7 (oH0 C CWeb p):=by
 have sc:=qk0
 refine Fn.ok sc (fun vs H Q E h=> ?_) fun cdv Ar outer s H vs Q E hr h=> ?_
 ·obtain⟨F,w,dx,gv,rfl,_⟩:=h; rfl
 obtain⟨F,w,dx,gv,rfl,tk,hw,nfw,rg,q⟩:=h
 obtain⟨f1,d1,F1,M1,B1⟩:=D1
 obtain⟨f2,d2,F2,M2,B2⟩:=D2
 refine⟨_,ax0 (eX0 (pv 0) (pv 1) rfl) (ax0 (eX0 (pv 0) (fD0 aG0) rfl) (ax0 (eX0 (pv 0) fm0 rfl) (ax0 (eX0 (pv 0) (fD0 aG0) rfl) (ax0 (eX0 (pv 0) hS0 rfl)
  (aW0 (bK0 (cg0 (pv 0) T.cl_Web M2 F2 (hr.mono (by decide)) B2 .nil bU0 (ap0 (gO0 (pv 1) T.cl_Garden M1 F1 (hr.mono (by decide)) B1 .nil bU0) (ap0 pm0 aG0))))))))),?_⟩
 refine⟨_,rfl,_,rfl,w,CWeb,dx,[],rfl,hw,T.cl_Web,T.Y9,by simp,?_⟩
 have c1:Chg [w] F H F (upd H w (.ins CWeb dx (putF "garden" gv []))):=.write tk (.head _) (by rw [hw]; exact fun z=>nomatch z)
 have w1:upd H w (.ins CWeb dx (putF "garden" gv [])) w=some (.ins CWeb dx [("garden",gv)]):=ai0
 generalize upd H w (.ins CWeb dx (putF "garden" gv []))=H1 at c1 w1 ⊢
 refine⟨Nat.zero_le _,fun sa n2=>⟨_,rfl,w,CWeb,dx,_,rfl,(ah0 (am0 w1 n2)).trans w1,T.cl_Web,T.Q1,by simp,?_⟩⟩
 have c2:=c1.fld (o:=.lst []) (o':=.ins CWeb dx (putF "states" (.ref sa) [("garden",gv)])) n2 (by rw [w1]; exact fun z=>nomatch z)
 have w2:upd (upd H1 sa (.lst [])) w (.ins CWeb dx (putF "states" (.ref sa) [("garden",gv)])) w=some (.ins CWeb dx [("garden",gv),("states",.ref sa)]):=ai0
 have s2:=upd3 (Hk:=H1) (o:=.lst []) (o':=.ins CWeb dx (putF "states" (.ref sa) [("garden",gv)])) (am0 w1 n2).symm
 generalize upd (upd H1 sa (.lst [])) w (.ins CWeb dx (putF "states" (.ref sa) [("garden",gv)]))=H2 at c2 w2 s2 ⊢
 refine fun na n3=>⟨_,rfl,w,CWeb,dx,_,rfl,(ah0 (am0 w2 n3)).trans w2,T.cl_Web,T.y4,by simp,?_⟩
 have c3:=c2.fld (o:=.dT []) (o':=.ins CWeb dx (putF "numbers" (.ref na) [("garden",gv),("states",.ref sa)])) n3 (by rw [w2]; exact fun z=>nomatch z)
 have w3:upd (upd H2 na (.dT [])) w (.ins CWeb dx (putF "numbers" (.ref na) [("garden",gv),("states",.ref sa)])) w=some (.ins CWeb dx [("garden",gv),("states",.ref sa),("numbers",.ref na)]):=ai0
 have s3:=upd2 (o:=.dT []) (o':=.ins CWeb dx (putF "numbers" (.ref na) [("garden",gv),("states",.ref sa)])) s2 n3 (am0 w1 n2).symm
 have t3:=upd3 (Hk:=H2) (o:=.dT []) (o':=.ins CWeb dx (putF "numbers" (.ref na) [("garden",gv),("states",.ref sa)])) (am0 w2 n3).symm
 generalize upd (upd H2 na (.dT [])) w (.ins CWeb dx (putF "numbers" (.ref na) [("garden",gv),("states",.ref sa)]))=H3 at c3 w3 s3 t3 ⊢
 refine⟨Nat.zero_le _,fun ca n4=>⟨_,rfl,w,CWeb,dx,_,rfl,(ah0 (am0 w3 n4)).trans w3,T.cl_Web,T.Kb0,by simp,?_⟩⟩
 have c4:=c3.fld (o:=.lst []) (o':=.ins CWeb dx (putF "came" (.ref ca) [("garden",gv),("states",.ref sa),("numbers",.ref na)])) n4 (by rw [w3]; exact fun z=>nomatch z)
 have w4:upd (upd H3 ca (.lst [])) w (.ins CWeb dx (putF "came" (.ref ca) [("garden",gv),("states",.ref sa),("numbers",.ref na)])) w=some (.ins CWeb dx [("garden",gv),("states",.ref sa),("numbers",.ref na),("came",.ref ca)]):=ai0
 have s4:=upd2 (o:=.lst []) (o':=.ins CWeb dx (putF "came" (.ref ca) [("garden",gv),("states",.ref sa),("numbers",.ref na)])) s3 n4 (am0 w1 n2).symm
 have t4:=upd2 (o:=.lst []) (o':=.ins CWeb dx (putF "came" (.ref ca) [("garden",gv),("states",.ref sa),("numbers",.ref na)])) t3 n4 (am0 w2 n3).symm
 have u4:=upd3 (Hk:=H3) (o:=.lst []) (o':=.ins CWeb dx (putF "came" (.ref ca) [("garden",gv),("states",.ref sa),("numbers",.ref na)])) (am0 w3 n4).symm
 have sca:sa≠ca:=am0 s3 n4
 generalize upd (upd H3 ca (.lst [])) w (.ins CWeb dx (putF "came" (.ref ca) [("garden",gv),("states",.ref sa),("numbers",.ref na)]))=H4 at c4 w4 s4 t4 u4 ⊢
 refine fun ma n5=>⟨_,rfl,w,CWeb,dx,_,rfl,(ah0 (am0 w4 n5)).trans w4,T.cl_Web,T.Z4,by simp,?_⟩
 have c5:=c4.fld (o:=.dK []) (o':=.ins CWeb dx (putF "moves" (.ref ma) [("garden",gv),("states",.ref sa),("numbers",.ref na),("came",.ref ca)])) n5 (by rw [w4]; exact fun z=>nomatch z)
 have w5:upd (upd H4 ma (.dK [])) w (.ins CWeb dx (putF "moves" (.ref ma) [("garden",gv),("states",.ref sa),("numbers",.ref na),("came",.ref ca)])) w=some (.ins CWeb dx [("garden",gv),("states",.ref sa),("numbers",.ref na),("came",.ref ca),("moves",.ref ma)]):=ai0
 have s5:=upd2 (o:=.dK []) (o':=.ins CWeb dx (putF "moves" (.ref ma) [("garden",gv),("states",.ref sa),("numbers",.ref na),("came",.ref ca)])) s4 n5 (am0 w1 n2).symm
 have t5:=upd2 (o:=.dK []) (o':=.ins CWeb dx (putF "moves" (.ref ma) [("garden",gv),("states",.ref sa),("numbers",.ref na),("came",.ref ca)])) t4 n5 (am0 w2 n3).symm
 have u5:=upd2 (o:=.dK []) (o':=.ins CWeb dx (putF "moves" (.ref ma) [("garden",gv),("states",.ref sa),("numbers",.ref na),("came",.ref ca)])) u4 n5 (am0 w3 n4).symm
 have v5:=upd3 (Hk:=H4) (o:=.dK []) (o':=.ins CWeb dx (putF "moves" (.ref ma) [("garden",gv),("states",.ref sa),("numbers",.ref na),("came",.ref ca)])) (am0 w4 n5).symm
 generalize upd (upd H4 ma (.dK [])) w (.ins CWeb dx (putF "moves" (.ref ma) [("garden",gv),("states",.ref sa),("numbers",.ref na),("came",.ref ca)]))=H5 at c5 w5 s5 t5 u5 v5 ⊢
 have bk:∀{Hk:Hp} {a:Addr},Chg [w] F H F Hk->Hk a=none->H a=none:=fun c n=>Classical.byContradiction fun z=>c.there _ z n
 have lo:dT0 [w] F H:=fun a ha=>by rw [List.mem_singleton.mp ha]; exact⟨nfw,fun xs z=>by rw [hw] at z; cases z⟩
 have hW:WebAt C CWeb p F H5 w ⟨dx,sa,na,ca,ma,gv⟩ ⟨[],[],[]⟩:=by
  refine⟨w5,rg.keep (c5.keep lo),⟨[],s5,.nil⟩,t5,⟨[],u5,.nil⟩,⟨[],v5,.nil⟩,fun a ha=> ?_,sca⟩
  simp only [List.mem_cons,List.not_mem_nil,or_false] at ha
  rcases ha with rfl|rfl|rfl|rfl|rfl
  ·exact nfw
  ·exact tk.not (bk c1 n2)
  ·exact tk.not (bk c2 n3)
  ·exact tk.not (bk c3 n4)
  ·exact tk.not (bk c4 n5)
 obtain⟨ga,gdx,gfs,eg,hg,rgf⟩:=hW.gar.ins_
 refine⟨_,rfl,w,dx,_,rfl,w5,rfl,⟨_,rfl,ga,gdx,gfs,eg,hg,rgf.look_none rfl,F,[garT C p],false,_,c5.trk,.cons hW.gar .nil,lX0 C p (by have:=hp.beds; omega),fun F' v H' m rv=> ?_⟩⟩
 have rv:Rp F' H' v (au0 (bl0 p)):=rv
 refine⟨F',w,⟨dx,sa,na,ca,ma,gv⟩,⟨[],[],[]⟩,bl0 p,none,v,.non,rfl,m.trk,hW.mono m,rv,.non,by decide,by decide,fun H6 c6 hW6=> ?_⟩
 have e:(WebM.mk [] [] []).num (bl0 p) none=⟨[bl0 p],[none],[]⟩:=if_neg (fun z=>nomatch z)
 rw [e] at hW6
 have all:∀a∈(WAd.mk dx sa na ca ma gv).L,H a=none:=fun a ha=>by
  simp only [List.mem_cons,List.not_mem_nil,or_false] at ha
  rcases ha with rfl|rfl|rfl|rfl
  ·exact bk c1 n2
  ·exact bk c2 n3
  ·exact bk c3 n4
  ·exact bk c4 n5
 refine q F' H6 _ _ ?_ all hW6 iE0 rfl
 have c:=c5.trans m.chg
 exact⟨fun b o nb h=>c6.ext b o (fun z=>by rw [all b z] at h; cases h) (c.ext b o nb h),c.sub,c.new,c6.trk,fun b h=>c6.there b (c.there b h)⟩
end
def bj0 (p:Plot)(s:Stt):List T:=(mayM p s).map fun r=> .tup [rowT r,au0 (ar0 p s r)]
def ToldD (p:Plot)(H:Hp)(F':Addr->Prop)(H':Hp):List (SK × V)->List Stt->Prop:=
 Paired fun kv s=>kv.1=keyS s/\∃l xs,kv.2=.ref l/\H l=none/\¬F' l/\H' l=some (.lst xs)/\Rps F' H' xs (bj0 p s)
def nC0 (C:Addr)(p:Plot):Sp:=fun vs H Q _=>∃F gv,vs=[gv]/\Trk F H/\Rp F H gv (garT C p)/\
 ∀F' H' d kvs sts,Mono F H F' H'->H d=none->¬F' d->H' d=some (.dT kvs)->sts.Nodup->(∀s,s∈sts↔Reach p s)->ToldD p H F' H' kvs sts->Q (.ref d) H'
def MkOk (P:Program)(w:World)(K:PySem.W.Frag)(mg:Str->Option Value)(base:Heap)(C:Addr)(k:Nat)(x:Str)(ps:List Str)(sp:Sp):Prop:=∃f fd,FnOk P w K mg base CX0 k f fd ps sp/\Mk K C f/\mg x=some (.ref C)/\Binds K fd ps []
def DfOk (P:Program)(w:World)(K:PySem.W.Frag)(mg:Str->Option Value)(base:Heap)(k:Nat)(x:Str)(ps:List Str)(sp:Sp):Prop:=∃f fd,FnOk P w K mg base CX0 k f fd ps sp/\mg x=some (.ref f)/\PySem.W.keepIn K (.ref f)=true/\Binds K fd ps []
theorem eJ0 {p:Plot}{l:List Stt}(h0:bl0 p∈l)(h:∀s∈l,∀r∈mayM p s,ar0 p s r∈l){s:Stt}(hs:Reach p s):s∈l:=by
 induction hs with
 |start=>exact h0
 |step _ m ih=>exact h _ ih _ m
theorem WOk.all {p:Plot}{W:WebM}(h:WOk p W)(k:Known W W.sts.length)(s:Stt):s∈W.sts↔Reach p s:=by
 refine⟨h.re s,eJ0 (List.mem_of_getElem? h.st) fun s hs r hr=> ?_⟩
 obtain⟨n,hn⟩:=List.mem_iff_getElem?.mp hs
 obtain⟨ms,e⟩:=k n (List.getElem?_eq_some_iff.mp hn).1
 obtain⟨s',e1,e2,e3⟩:=h.mv _ (fq0 e)
 have e1:W.sts[n]?=some s':=e1
 rw [hn] at e1
 cases e1
 rw [<- e2] at hr
 obtain⟨m,hm,rfl⟩:=List.mem_map.mp hr
 exact List.mem_of_getElem? (e3 m hm)
theorem fY0 {R:SK × V->Stt->Prop}{s:Stt}{kvs:List (SK × V)}{l:List Stt}(h:Paired (fun kv s=>kv.1=keyS s/\R kv s) kvs l)(n:s∉l):valV kvs (keyS s)=none:=by
 induction h with
 |nil=>rfl
 | @cons kv t _ _ h _ ih=>
  rw [bk0 (fun z=>n (by rw [<- do0 (h.1.symm.trans z)]; exact .head _))]
  exact ih fun z=>n (.tail _ z)
theorem dn0 {R:SK × V->Stt->Prop}{s:Stt}{kvs:List (SK × V)}{l:List Stt}(h:Paired (fun kv s=>kv.1=keyS s/\R kv s) kvs l)(n:s∈l):∃kv,kv∈kvs/\valV kvs (keyS s)=some kv.2/\R kv s:=by
 induction h with
 |nil=>exact nomatch n
 | @cons kv t kvs _ h _ ih=>
  by_cases e:t=s
  ·subst e
   exact⟨kv,.head _,bo0 h.1,h.2⟩
  ·rw [bk0 (fun z=>e (do0 (h.1.symm.trans z)))]
   obtain⟨kv',h1,h2⟩:=ih ((List.mem_cons.mp n).resolve_left fun z=>e z.symm)
   exact⟨kv',.tail _ h1,h2⟩
theorem ih0 {l:List Stt}(h:l.Nodup){i:Nat}{s:Stt}(e:l[i]?=some s):s∉l.take i:=fun z=>by
 obtain⟨j,hj⟩:=List.mem_iff_getElem?.mp z
 have lj:j<i:=by
  have:=(List.getElem?_eq_some_iff.mp hj).1
  rw [List.length_take] at this
  omega
 rw [List.getElem?_take_of_lt lj] at hj
 have:=(List.getElem?_inj (List.getElem?_eq_some_iff.mp hj).1 h).mp (hj.trans e.symm)
 omega
theorem ToldD.keep {p:Plot}{H:Hp}{F' F2:Addr->Prop}{H' H2:Hp}{L:List Addr}{kvs:List (SK × V)}{sts:List Stt}(h:ToldD p H F' H' kvs sts)(c:Chg L F' H' F2 H2)(l:dT0 L F' H')(d:∀a∈L,(∃xs,H' a=some (.lst xs))->H a≠none):ToldD p H F2 H2 kvs sts:=
 Paired.map2 (fun kv s ⟨e,a,xs,e1,e2,e3,e4,e5⟩=>⟨e,a,xs,e1,e2,c.free e3 (by rw [e4]; exact fun z=>nomatch z),c.ext _ _ (fun z=>d a z ⟨xs,e4⟩ e2) e4,e5.keep (c.keep l)⟩) h
section
variable {P:Program}{w:World}{K:PySem.W.Frag}{mg:Str->Option Value}{base:Heap}{C CWeb f:Addr}{fd:FuncData}{p:Plot}
theorem Xm0 (Fn:Fun K "all_states" "all_states" V9 f fd) (T:Txt K mg C CWeb) (hp:Tight p) (D1:MkOk P w K mg base CWeb 2 "Web" W7 (oH0 C CWeb p)) (D2:SpOk P w K mg base CWeb 7 "widen_fully" X7 (nT0 C CWeb p)) (D3:SpOk P w K mg base CWeb 5 "moves_of" v4 (lT0 C CWeb p)):
  FnOk P w K mg base CX0 8 f fd z8 (nC0 C p):=by
 have sc:=xk0
 refine Fn.ok sc (fun vs H Q E h=> ?_) fun cdv Ar outer s H vs Q E hr h=> ?_
 ·obtain⟨F,gv,rfl,_⟩:=h; rfl
 obtain⟨F,gv,rfl,tk,rg,q⟩:=h
 obtain⟨f1,d1,F1,M1,m1,B1⟩:=D1
 obtain⟨f2,d2,F2,M2,B2⟩:=D2
 obtain⟨f3,d3,F3,M3,B3⟩:=D3
 refine⟨_,ax0 (bX0 (i:=1) sc.nd rfl (Or.inr rfl) (jw0 M1 F1 (hr.mono (by decide)) (by rfl) m1 B1 .nil bU0 (ap0 (pv 0) aG0)))
  (ax0 (bK0 (gO0 (pv 1) T.cl_Web M2 F2 (hr.mono (by decide)) B2 .nil bU0))
  (ax0 (bX0 (i:=2) sc.nd rfl (Or.inl rfl) fm0)
  (ax0 (fP0 PassesOwn.never rfl (ox0 (by rfl) T.We0 (ap0 (bF0 (pv 1) rfl) aG0)) (eh0 rfl (bd0 (as0 (i:=3) sc.nd rfl (Or.inl rfl)) (bd0 (as0 (i:=4) sc.nd rfl (Or.inl rfl)) cW0)))
   (aW0 (ec0 (cP0 hr) (pv 2) (pv 4) (ev0 (g:=gTup K 2 (eA0 (cm0 0) (eA0 (cm0 1) gNil))) (te:=tTup (ey0 (tVar 0) (ey0 (tOp (rIxL K) (tFld K (tVar 3) "states") (tVar 1)) tNil))) (own:=["planting", "later"]) rfl (bQ0 he0 (af0 V9) rfl rfl (by decide +kernel)) (dq0 (cg0 (pv 1) T.cl_Web M3 F3 (hr.mono (by decide)) B3 .nil bU0 (ap0 (pv 3) aG0)))
    (fun _ _ _ _=>eh0 rfl (bd0 (as0 (i:=0) (bz0 ((["planting", "later"]:List Str)++hide ["planting", "later"] he0) rfl (by decide +kernel)) rfl (Or.inl rfl)) (bd0 (as0 (i:=1) (bz0 ((["planting", "later"]:List Str)++hide ["planting", "later"] he0) rfl (by decide +kernel)) rfl (Or.inl rfl)) cW0)))
    (fun _ _ _ _=>el0) (fun _ _ _ _=>fT0 (ap0 (pv 0) (ap0 (mr0 ix_list (bF0 (pv 3) rfl) (pv 1) (fun _ _=>rfl)) aG0)))) rfl)))
  (aW0 (cu0 (pv 2)))))),?_⟩
 refine⟨_,rfl,fun w dx nw ndx dw=> ?_⟩
 have m0:Mono F H F (upd (upd H dx (.own w)) w (.ins CWeb dx [])):=by
  have a:Mono F H F (upd H dx (.own w)):=.laid tk ndx
  exact a.trans (.laid a.trk ((ah0 dw.symm).trans nw))
 refine⟨F,w,dx,gv,rfl,m0.trk,ai0,tk.not nw,rg.keep m0.keep,fun F1 H1 A W c1 nA hW ok em=>⟨rfl,?_⟩⟩
 refine⟨_,rfl,w,A.dx,_,rfl,hW.ins,rfl,F1,w,A,W,rfl,c1.trk,hW,ok,fun F2 H2 W2 c2 hW2 ok2 kn=> ?_⟩
 intro d hd
 have few:=ok2.few hp
 obtain⟨xs,hs,rxs⟩:=hW2.sts
 have lx:xs.length=W2.sts.length:=by rw [rxs.length,List.length_map]
 have md:Mono F2 H2 F2 (upd H2 d (.dT [])):=.laid c2.trk hd
 have hW3:=hW2.mono md
 -- all that is written is new
 have cc:Chg (w::A.L) F H F2 H2:=(m0.chg.trans (c1.mono fun a h=>by rw [List.mem_singleton.mp h]; exact .head _)).trans (c2.mono fun a h=> .tail _ h)
 have nL:∀a∈w::A.L,H a=none:=fun a ha=>by
  rcases List.mem_cons.mp ha with rfl|ha
  ·exact nw
  ·have:=nA a ha
   cases e:H a with
   |none=>rfl
   |some o=>rw [m0.ext a o e] at this; cases this
 have mm:Mono F H F2 H2:=cc.toMono nL
 have hd0:H d=none:=Classical.byContradiction fun z=>mm.chg.there (L:=[]) d z hd
 refine⟨_,rfl,w,CWeb,A.dx,_,_,rfl,hW3.ins,T.cl_Web,T.Q1,rfl,A.sa,xs,rfl,SqL.of (md.ext _ _ hs),?_⟩
 refine lU0 (xs:=xs) (fun i σ H'=>∃F' kvs y z,σ=[some gv,some (.ref w),some (.ref d),y,z]/\Chg [d] F2 (upd H2 d (.dT [])) F' H'/\WebAt C CWeb p F' H' w A W2/\H' A.sa=some (.lst xs)/\H' d=some (.dT kvs)/\¬F' d/\ToldD p H F' H' kvs (W2.sts.take i)) ?_ ?_ ?_ ?_
 ·exact⟨F2,[],none,none,rfl,(Mono.refl md.trk).chg,hW3,md.ext _ _ hs,ai0,c2.trk.not hd,by rw [List.take_zero]; exact .nil⟩
 ·rintro i σ H' ⟨F',kvs,y,z,_,_,_,h,_⟩
  exact h
 ·rintro i x σ H' t hx ⟨F',kvs,y,z,rfl,c,hW',hs',hd',nd',told⟩ ht
  have m4:Mono F' H' F' (upd H' t (.tup [.int i,x])):=.laid c.trk ht
  have hW4:=hW'.mono m4
  refine⟨t,_,rfl,SqT.of ai0,rfl,_,_,rfl,_,_,rfl,rfl,mV0 (hY0 ?_)⟩
  have hi:i<W2.sts.length:=by rw [<- lx]; exact(List.getElem?_eq_some_iff.mp hx).1
  obtain⟨st,hst⟩:∃st,W2.sts[i]?=some st:=⟨_,List.getElem?_eq_getElem hi⟩
  obtain⟨ms,hms⟩:=kn i hi
  refine⟨_,rfl,w,A.dx,_,rfl,hW4.ins,rfl,_,rfl,F',w,A,W2,i,st,rfl,m4.trk,hW4,ok2,hst,fun ms' v e rv=> ?_,fun e=>by rw [hms] at e; cases e⟩
  rw [hms] at e
  cases e
  obtain⟨st',e1,mv⟩:=ok2.mv _ (fq0 hms)
  have e1:W2.sts[i]?=some st':=e1
  rw [hst] at e1
  cases e1
  obtain⟨a,ys,rfl,fa,ha,ry⟩:∃a ys,v=.ref a/\F' a/\upd H' t (.tup [.int i,x]) a=some (.lst ys)/\Rps F' (upd H' t (.tup [.int i,x])) ys (ms.map ky0):=by
   cases rv with|lst f h r=>exact⟨_,_,rfl,f,h,r⟩
  have rst:=ok2.re st (List.mem_of_getElem? hst)
  have lm:ms.length=(mayM p st).length:=by rw [<- mv.1,List.length_map]
  have fm:=dV0 hp rst
  refine⟨a,rfl,⟨ys,SqL.of ha⟩,cK0 (F:=F') (us:=bj0 p st) (bV0 fa ha ry) m4.trk (by rw [List.length_map]; omega) (by unfold bj0; rw [List.length_map,List.length_map,lm]) ?_ ?_⟩
  ·intro j tj uj F5 H5 x5 R hj hu m5 r5 k5
   rw [List.getElem?_map] at hj
   cases em:ms[j]? with
   |none=>rw [em] at hj; cases hj
   |some m=>
    rw [em] at hj
    cases hj
    have hr:(mayM p st)[j]?=some m.1:=by rw [<- mv.1,List.getElem?_map,em]; rfl
    unfold bj0 at hu
    rw [List.getElem?_map,hr] at hu
    cases hu
    cases r5 with
    |tup h5 r5=>
     obtain⟨x1,x2,rfl,q1,q2⟩:=r5.two
     cases q2
     have hW5:=hW4.mono m5
     have hs5:H5 A.sa=some (.lst xs):=m5.ext _ _ (m4.ext _ _ hs')
     obtain⟨zs,hz,rz⟩:=hW5.sts
     rw [hs5] at hz
     cases hz
     obtain⟨sv,hsv,rsv⟩:=rz.get (i:=m.2) (t:=au0 (ar0 p st m.1)) (by rw [List.getElem?_map,mv.2 m (List.mem_of_getElem? em)]; rfl)
     refine⟨_,_,rfl,SqT.of h5,rfl,_,_,rfl,_,_,rfl,rfl,rfl,?_⟩
     refine⟨_,rfl,⟨_,rfl,w,CWeb,A.dx,_,_,rfl,hW5.ins,T.cl_Web,T.Q1,rfl,_,rfl,A.sa,xs,m.2,sv,rfl,rfl,SqL.of hs5,atI_nat hsv,hy0,fun t5 ht5=> ?_⟩⟩
     have m6:Mono F5 H5 F5 (upd H5 t5 (.tup [x1,sv])):=.laid m5.trk ht5
     exact k5 F5 _ _ m6 (.tup ai0 (.cons (q1.keep m6.keep) (.cons (rsv.keep m6.keep) .nil)))
  ·intro F5 H5 l zs m5 hl rz
   have m45:=m4.trans m5
   have d5:H5 d=some (.dT kvs):=m45.ext _ _ hd'
   have m6:Mono F5 H5 F5 (upd H5 l (.lst zs)):=.laid m5.trk hl
   have d6:=m6.ext _ _ d5
   have sv:=rxs.get' hx
   obtain⟨tt,e2,rx⟩:=sv
   rw [List.getElem?_map,hst] at e2
   cases e2
   have k2:Keep F2 H2 F' H':=md.keep.trans (c.keep fun b hb=>by rw [List.mem_singleton.mp hb]; exact⟨c2.trk.not hd,fun xs z=>by rw [ai0] at z; cases z⟩)
   have rx6:Rp F5 (upd H5 l (.lst zs)) x (au0 st):=((rx.keep k2).keep m45.keep).keep m6.keep
   obtain⟨b,rfl,kb⟩:=gL0 rx6
   have lk:kvs.length=i:=by rw [Paired.length told,List.length_take]; omega
   refine⟨_,rfl,_,rfl,d,_,rfl,DPut.t d6 kb (by rw [sizeLine_eq]; omega),?_⟩
   have vn:valV kvs (keyS st)=none:=fY0 told (ih0 ok2.nd hst)
   rw [dM0 _ vn]
   have nd5:¬F5 d:=fun z=>(m45.new d z).elim nd' fun z=>by rw [hd'] at z; cases z
   have wr:Chg [d] F5 (upd H5 l (.lst zs)) F5 (upd (upd H5 l (.lst zs)) d (.dT (kvs++ [(keyS st,.ref l)]))):=.write m6.trk (.head _) (by rw [d6]; exact fun z=>nomatch z)
   have lo:dT0 [d] F5 (upd H5 l (.lst zs)):=fun a ha=>by rw [List.mem_singleton.mp ha]; exact⟨nd5,fun xs z=>by rw [d6] at z; cases z⟩
   have dA:∀a∈ [w,A.sa,A.na,A.ca,A.ma],a∉ [d]:=fun a ha z=>by
    obtain⟨o,e,_⟩:=hW2.there a ha
    rw [List.mem_singleton.mp z,hd] at e; cases e
   have ld:l≠d:=fun z=>by rw [z,d5] at hl; cases hl
   have k6:=wr.keep lo
   have m46:=m45.trans m6
   refine⟨F5,kvs++ [(keyS st,.ref l)],_,_,rfl,(c.trans m46.chg).trans wr,(hW'.mono m46).keep wr lo dA,?_,ai0,nd5,?_⟩
   ·rw [ah0 (fun z=>dA A.sa (by simp) (by rw [z]; exact .head _))]
    exact m46.ext _ _ hs'
   ·rw [List.take_add_one,hst]
    have l0:H l=none:=by
     cases e:H l with
     |none=>rfl
     |some o=>
      have:=m46.chg.there (L:=[]) l (c.there l (by rw [md.ext _ _ (mm.ext _ _ e)]; exact fun z=>nomatch z))
      have h5:H5 l≠none:=m45.chg.there (L:=[]) l (c.there l (by rw [md.ext _ _ (mm.ext _ _ e)]; exact fun z=>nomatch z))
      exact absurd hl h5
    refine Paired.snoc ((told.keep (L:=[]) m46.chg (fun _ z=>nomatch z) fun _ z=>nomatch z).keep wr lo fun a ha ⟨xs,z⟩=>by rw [List.mem_singleton.mp ha,d6] at z; cases z) ⟨rfl,l,zs,rfl,l0,Trk.not m5.trk hl,(ah0 ld).trans ai0,(rz.keep m6.keep).keep k6⟩
 ·rintro σ H' ⟨F',kvs,y,z,rfl,c,hW',hs',hd',nd',told⟩
  rw [lx,List.take_length] at told
  have cF:Chg [d] F H F' H':=(mm.trans md).chg.trans c
  exact⟨_,rfl,q F' H' d kvs W2.sts (cF.toMono fun a ha=>by rw [List.mem_singleton.mp ha]; exact hd0) hd0 nd' hd' ok2.nd (ok2.all kn) told⟩
end
def ToldF (p:Plot)(F:Addr->Prop)(H:Hp):List (SK × V)->List Stt->Prop:=Paired fun kv s=>kv.1=keyS s/\Rp F H kv.2 (.lst (bj0 p s))
theorem ToldF.keep {p:Plot}{F F':Addr->Prop}{H H':Hp}{kvs:List (SK × V)}{sts:List Stt}(h:ToldF p F H kvs sts)(k:Keep F H F' H'):ToldF p F' H' kvs sts:=Paired.map2 (fun _ _ x=>⟨x.1,x.2.keep k⟩) h
def nK0 (p:Plot):Sp:=fun vs H Q _=>∃F pv,vs=[pv]/\Trk F H/\Rp F H pv (aK0 p)/\
 ∀F' H' d kvs sts,Mono F H F' H'->H d=none->¬F' d->H' d=some (.dT kvs)->sts.Nodup->(∀s,s∈sts↔Reach p s)->ToldF p F' H' kvs sts->Q (.ref d) H'
def mZ0 (p:Plot)(plv:V)(d qa:Addr)(Fa:Addr->Prop)(H1:Hp)(m:Nat)(σ:L2.St)(H':Hp):Prop:=
 ∃(F':Addr->Prop) (kvs:List (SK × V)) (qs:List V) (ds ws:List Stt) (y:Option V),σ=[some plv,some (.ref d),some (.ref qa),y]/\Chg [d,qa] Fa H1 F' H'/\¬F' d/\¬F' qa/\H' d=some (.dT kvs)/\H' qa=some (.lst qs)/\ToldF p F' H' kvs ds/\Rps F' H' qs (ws.map au0)/\
  ds.Nodup/\(∀s∈ds,Reach p s)/\(∀s∈ws,Reach p s)/\(∀s∈ds,∀r∈mayM p s,ar0 p s r∈ds\/ ar0 p s r∈ws)/\(bl0 p∈ds\/ bl0 p∈ws)/\ws.length<=1+125*ds.length/\m=(1300 - ds.length)*126+ws.length
theorem hQ0 {F:Addr->Prop}{H:Hp}:∀{xs:List V} (ts:List BD.T) {t:BD.T},Rps F H xs (ts++ [t])->∃ys y,xs=ys++ [y]/\Rps F H ys ts/\Rp F H y t
 |_,[],_,r=>by
  obtain⟨y,rfl,h⟩:=r.one
  exact⟨[],y,rfl,.nil,h⟩
 |_,u::ts,t,r=>by
  rw [List.cons_append] at r
  cases r with
  |cons h r=>
   obtain⟨ys,y,rfl,h1,h2⟩:=hQ0 ts r
   exact⟨_::ys,y,rfl,.cons h h1,h2⟩
section
variable {P:Program}{w:World}{K:PySem.W.Frag}{mg:Str->Option Value}{base:Heap}{C CWeb f:Addr}{fd:FuncData}{p:Plot}
theorem zn0 (Fn:Fun K "_law_states" "_law_states" q8 f fd) (T:Txt K mg C CWeb) (hp:Tight p) (D1:aL0 P w K mg base 1 "_law_start" X3 (K7 C)) (D2:aL0 P w K mg base 2 "_law_may" y7 (J9 C)) (D3:aL0 P w K mg base 2 "_law_behind" Q7 (J7 C)):
  FnOk P w K mg base CX0 3 f fd j8 (nK0 p):=by
 have sc:=hk0
 refine Fn.ok sc (fun vs H Q E h=> ?_) fun cdv Ar outer s H vs Q E hr h=> ?_
 ·obtain⟨F,pv,rfl,_⟩:=h; rfl
 obtain⟨F,plv,rfl,tk,rp,q⟩:=h
 obtain⟨f1,d1,F1,m1,k1,B1⟩:=D1
 obtain⟨f2,d2,F2,m2,k2,B2⟩:=D2
 obtain⟨f3,d3,F3,m3,k3,B3⟩:=D3
 refine⟨_,ax0 (bX0 (i:=1) sc.nd rfl (Or.inl rfl) fm0)
  (ax0 (bX0 (i:=2) sc.nd rfl (Or.inl rfl) (fD0 (ap0 (cn0 F1 (hr.mono (by decide)) (by rfl) m1 k1 B1 .nil bU0 (ap0 (pv 0) aG0)) aG0)))
  (ax0 (gZ0 PassesOwn.never (lL0 (pv 2) (fun _=>rfl))
   (ax0 (bX0 (i:=3) sc.nd rfl (Or.inr rfl) (na0 PySem.F.plainAttrs_list PySem.F.slot_list_pop PySem.F.type_list_pop oP0 (pv 2)))
   (aW0 (ie0 (iK0 (dS0 (cP0 hr) (pv 3) (pv 1)) rfl)
    (ax0 (ec0 (cP0 hr) (pv 1) (pv 3) (ev0 (g:=cm0 0) (te:=tTup (ey0 (tVar 0) (ey0 (mF0 (spP (J7 C)) [] E0 (ey0 (tVar 1) (ey0 (tVar 4) (ey0 (tVar 0) tNil)))) tNil))) (own:=["row"]) rfl (bQ0 Qb0 (af0 q8) rfl rfl (by decide +kernel))
      (dq0 (cn0 F2 (hr.mono (by decide)) (by rfl) m2 k2 B2 .nil bU0 (ap0 (pv 0) (ap0 (pv 3) aG0))))
      (fun _ _ _ _=>as0 (i:=0) (bz0 ((["row"]:List Str)++hide ["row"] Qb0) rfl (by decide +kernel)) rfl (Or.inl rfl)) (fun _ _ _ _=>el0)
      (fun _ _ _ _=>fT0 (ap0 (pv 0) (ap0 (cn0 F3 (hr.mono (by decide)) (by rfl) m3 k3 B3 .nil bU0 (ap0 (pv 1) (ap0 (pv 4) (ap0 (pv 0) aG0)))) aG0)))) rfl)
    (aW0 (bK0 (fF0 PySem.F.plainAttrs_list PySem.F.slot_list_extend PySem.F.type_list_extend fR0 (pv 2)
     (ap0 (ev0 (g:=cm0 0) (te:=tOp (rIxT K) (tVar 0) (tC (.int 1))) (own:=["step"]) rfl (bQ0 Qb0 (af0 q8) rfl rfl (by decide +kernel)) (dq0 (cU0 (cP0 hr) (pv 1) (pv 3) (fun _ _=>rfl)))
      (fun _ _ _ _=>as0 (i:=0) (bz0 ((["step"]:List Str)++hide ["step"] Qb0) rfl (by decide +kernel)) rfl (Or.inl rfl)) (fun _ _ _ _=>el0)
      (fun _ _ _ _=>mr0 L2.ix_tup (pv 0) jS0 (fun _ _=>rfl))) aG0)))))
    dz0))))
  (aW0 (cu0 (pv 1))))),?_⟩
 intro d hd
 have md:Mono F H F (upd H d (.dT [])):=.laid tk hd
 refine⟨_,rfl,F,[aK0 p],false,_,md.trk,.cons (rp.keep md.keep) .nil,ed0 C p (by have:=hp.beds; omega),fun Fa sv Ha ma rsv=> ?_⟩
 have rsv:Rp Fa Ha sv (au0 (bl0 p)):=rsv
 refine⟨oY0,fun qa hqa=> ?_⟩
 have mq:Mono Fa Ha Fa (upd Ha qa (.lst [sv])):=.laid ma.trk hqa
 have m0:=(md.trans ma).trans mq
 have da:upd Ha qa (.lst [sv]) d=some (.dT []):=mq.ext _ _ (ma.ext _ _ ai0)
 have qa0:upd Ha qa (.lst [sv]) qa=some (.lst [sv]):=ai0
 have nq:H qa=none:=Classical.byContradiction fun z=>(md.trans ma).chg.there (L:=[]) qa z hqa
 have nfd:¬Fa d:=fun z=>(ma.new d z).elim (tk.not hd) fun z=>by rw [ai0] at z; cases z
 have nfq:¬Fa qa:=Trk.not ma.trk hqa
 have dq:d≠qa:=bJ0 da qa0 (fun z=>nomatch z)
 have rsv:=rsv.keep mq.keep
 have rp1:=rp.keep m0.keep
 have tk1:=m0.trk
 generalize upd Ha qa (.lst [sv])=H1 at*
 have lo1:∀{F':Addr->Prop} {H':Hp} {kvs:List (SK × V)} {qs:List V},¬F' d->¬F' qa->H' d=some (.dT kvs)->H' qa=some (.lst qs)->dT0 [d,qa] F' H':=fun h1 h2 h3 h4 a ha=>by
  simp only [List.mem_cons,List.not_mem_nil,or_false] at ha
  rcases ha with rfl|rfl
  ·exact⟨h1,fun xs z=>by rw [h3] at z; cases z⟩
  ·exact⟨h2,fun xs z=>by rw [h4] at z; cases z⟩
 have lo0:=lo1 nfd nfq da qa0
 refine⟨mZ0 p plv d qa Fa H1,⟨_,Fa,[],[sv],[],[bl0 p],none,rfl,(Mono.refl tk1).chg,nfd,nfq,da,qa0,.nil,.cons rsv .nil,List.nodup_nil,(fun _ z=>nomatch z),(fun s hs=>by rw [List.mem_singleton.mp hs]; exact .start),(fun _ z=>nomatch z),.inr (.head _),by simp,rfl⟩,?_⟩
 rintro m σ H' ⟨F',kvs,qs,ds,ws,y,rfl,c,nd',nq',hd',hq',told,rqs,i1,i2,i3,i4,i5,i6,rfl⟩
 have few:=dA0 hp i1 i2
 have lq:qs.length=ws.length:=by rw [rqs.length,List.length_map]
 have cmono:Mono F H F' H':=(m0.chg.trans c).toMono (L:=[d,qa]) fun a ha=>by
  simp only [List.mem_cons,List.not_mem_nil,or_false] at ha
  rcases ha with rfl|rfl
  ·exact hd
  ·exact nq
 refine⟨_,rfl, !qs.isEmpty,.inl ⟨qs,SqL.of hq',rfl⟩,?_⟩
 by_cases hne:qs=[]
 ·subst hne
  have:ws=[]:=List.eq_nil_of_length_eq_zero (by rw [<- lq]; rfl)
  subst this
  refine iteF ⟨_,rfl,q F' H' d kvs ds cmono hd nd' hd' i1 (fun s=>⟨i2 s,eJ0 (i5.resolve_right fun z=>nomatch z) fun s hs r hr=>(i4 s hs r hr).resolve_right fun z=>nomatch z⟩) told⟩
 ·rw [show (!qs.isEmpty)=true by cases qs; exact absurd rfl hne; rfl]
  have hwn:ws≠ []:=fun z=>hne (List.eq_nil_of_length_eq_zero (by rw [lq,z]; rfl))
  obtain⟨w0,st,rfl⟩:∃w0 st,ws=w0++ [st]:=⟨_,_,(List.dropLast_concat_getLast hwn).symm⟩
  rw [List.map_append] at rqs
  obtain⟨q0,x,rfl,rq0,rx⟩:=hQ0 _ rqs
  refine iteT ⟨fun σ' H2=>∃m',m'<_/\mZ0 p plv d qa Fa H1 m' σ' H2,fun σ' H2 h=>h,?_⟩
  refine⟨_,rfl,.inl ⟨rfl,q0++ [x],SqL.of hq'⟩,qa,q0++ [x],x,rfl,rfl,hq',by simp,?_⟩
  rw [List.dropLast_concat]
  have rst:=i3 st (List.mem_append_right _ (.head _))
  have w1:Chg [d,qa] F' H' F' (upd H' qa (.lst q0)):=.write c.trk (by simp) (by rw [hq']; exact fun z=>nomatch z)
  have k1:=w1.keep (lo1 nd' nq' hd' hq')
  have hd2:upd H' qa (.lst q0) d=some (.dT kvs):=(ah0 dq).trans hd'
  have hq2:upd H' qa (.lst q0) qa=some (.lst q0):=ai0
  have rx2:=rx.keep k1
  have rp2:=((rp1.keep (c.keep lo0)).keep k1)
  have told2:=told.keep k1
  have rq2:=rq0.keep k1
  have c2:=c.trans w1
  generalize upd H' qa (.lst q0)=H2 at w1 k1 hd2 hq2 rx2 rp2 told2 rq2 c2 ⊢
  obtain⟨b,rfl,kb⟩:=gL0 rx2
  have lw:(w0++ [st]).length=w0.length+1:=by rw [List.length_append]; rfl
  refine⟨_,rfl,_,rfl,d,_,rfl,DGet.t hd2 kb,_,rfl,?_⟩
  by_cases hin:st∈ds
  ·obtain⟨kv,_,e,_⟩:=dn0 told2 hin
   rw [e]
   refine iteF ⟨_,by omega,F',kvs,q0,ds,w0,_,rfl,c2,nd',nq',hd2,hq2,told2,rq2,i1,i2,(fun s hs=>i3 s (List.mem_append_left _ hs)),(fun s hs r hr=> ?_),?_,by omega,rfl⟩
   ·rcases i4 s hs r hr with z|z
    ·exact .inl z
    ·rcases List.mem_append.mp z with z|z
     ·exact .inr z
     ·rw [List.mem_singleton.mp z]; exact .inl hin
   ·rcases i5 with z|z
    ·exact .inl z
    ·rcases List.mem_append.mp z with z|z
     ·exact .inr z
     ·rw [List.mem_singleton.mp z]; exact .inl hin
  ·have vn:=fY0 told2 hin
   rw [vn]
   refine iteT (r_seq (mV0 (hY0 ?_)))
   obtain⟨sm1,sm2⟩:=rst.small hp
   refine⟨_,rfl,_,rfl,F',[aK0 p,au0 st],true,_,w1.trk,.cons rp2 (.cons rx2 .nil),kM0 C p hp.toGood st sm1 sm2,fun F3 v H3 m3 rv=> ?_⟩
   obtain⟨a,rfl,ha,nfa,rv⟩:=(show∃a,v=.ref a/\H2 a=none/\¬F3 a/\Rp1 F3 H3 a (.lst ((mayM p st).map rowT)) from rv)
   obtain⟨rs,har,rrs⟩:∃rs,H3 a=some (.lst rs)/\Rps F3 H3 rs ((mayM p st).map rowT):=by cases rv with|lst h r=>exact⟨_,h,r⟩
   have m3':Mono F' H2 (fun b=>F3 b\/ b=a) H3:=m3.freeze ha ⟨_,har⟩
   have fm:=dV0 hp rst
   refine⟨a,rfl,⟨rs,SqL.of har⟩,cK0 (F:=fun b=>F3 b\/ b=a) (us:=bj0 p st) (bV0 (.inr rfl) har (rrs.keep Keep.freeze)) m3'.trk (by rw [List.length_map]; omega) (by unfold bj0; rw [List.length_map,List.length_map]) ?_ ?_⟩
   ·intro j tj uj F5 H5 x5 R hj hu m5 r5 k5
    cases er:(mayM p st)[j]? with
    |none=>rw [List.getElem?_map,er] at hj; cases hj
    |some r=>
     unfold bj0 at hu
     rw [List.getElem?_map,er] at hj hu
     cases hj; cases hu
     have hrm:r∈mayM p st:=List.mem_of_getElem? er
     obtain⟨l1,l2,l3⟩:=gx0 hrm
     have m35:=m3'.trans m5
     refine⟨rfl,_,rfl,_,rfl,_,rfl,_,rfl,F5,[aK0 p,au0 st,rowT r],false,_,m5.trk,.cons (rp2.keep m35.keep) (.cons (rx2.keep m35.keep) (.cons r5 .nil)),gj0 C p hp.toGood st r sm1 (fun b hb=>(sm2 b hb).1) l1 l3,fun F6 v6 H6 m6 r6=>⟨hy0,fun t ht=> ?_⟩⟩
     have m7:Mono F6 H6 F6 (upd H6 t (.tup [x5,v6])):=.laid m6.trk ht
     exact k5 F6 _ _ (m6.trans m7) (.tup ai0 (.cons (r5.keep (m6.trans m7).keep) (.cons (Rp.keep m7.keep r6) .nil)))
   ·intro F5 H5 l zs m5 hl rz
    have m35:=m3'.trans m5
    have m6:Mono F5 H5 (fun b=>F5 b\/ b=l) (upd H5 l (.lst zs)):=(Mono.laid m5.trk hl).freeze hl ⟨_,ai0⟩
    have m36:=m35.trans m6
    have hd6:=m36.ext _ _ hd2
    have hq6:=m36.ext _ _ hq2
    have hl6:upd H5 l (.lst zs) l=some (.lst zs):=ai0
    have nd6:¬(F5 d\/ d=l):=fun z=>(m36.new d z).elim nd' fun z=>by rw [hd2] at z; cases z
    have nq6:¬(F5 qa\/ qa=l):=fun z=>(m36.new qa z).elim nq' fun z=>by rw [hq2] at z; cases z
    have rz6:Rps (fun b=>F5 b\/ b=l) (upd H5 l (.lst zs)) zs (bj0 p st):=rz.keep m6.keep
    have rx6:=rx2.keep m36.keep
    have told6:=told2.keep m36.keep
    have rq6:=rq2.keep m36.keep
    have c6:=c2.trans m36.chg
    have tk6:=m36.trk
    have fl:(fun b=>F5 b\/ b=l) l:=.inr rfl
    generalize upd H5 l (.lst zs)=H6 at m6 m36 hd6 hq6 hl6 rz6 rx6 told6 rq6 c6 tk6 ⊢
    have kb6:KeyAt H6 b (keyS st):=kb.keeps fun b xs e=>m36.ext _ _ e
    have lk:kvs.length=ds.length:=Paired.length told6
    refine⟨_,rfl,_,rfl,d,_,rfl,DPut.t hd6 kb6 (by rw [sizeLine_eq]; omega),?_⟩
    rw [dM0 _ vn]
    have w7:Chg [d,qa] (fun b=>F5 b\/ b=l) H6 (fun b=>F5 b\/ b=l) (upd H6 d (.dT (kvs++ [(keyS st,.ref l)]))):=.write tk6 (.head _) (by rw [hd6]; exact fun z=>nomatch z)
    have k7:=w7.keep (lo1 nd6 nq6 hd6 hq6)
    have hd7:upd H6 d (.dT (kvs++ [(keyS st,.ref l)])) d=_:=ai0
    have hq7:=(ah0 (o:=.dT (kvs++ [(keyS st,.ref l)])) dq.symm).trans hq6
    have ld:l≠d:=bJ0 hl6 hd6 (fun z=>nomatch z)
    have hl7:=(ah0 (o:=.dT (kvs++ [(keyS st,.ref l)])) ld).trans hl6
    have rz7:=rz6.keep k7
    have told7:ToldF p (fun b=>F5 b\/ b=l) (upd H6 d (.dT (kvs++ [(keyS st,.ref l)]))) (kvs++ [(keyS st,.ref l)]) (ds++ [st]):=Paired.snoc (told6.keep k7) ⟨rfl,.lst fl hl7 rz7⟩
    have rq7:=rq6.keep k7
    have kb7:KeyAt (upd H6 d (.dT (kvs++ [(keyS st,.ref l)]))) b (keyS st):=kb6.keeps fun b xs e=>k7.tup _ _ e
    have c7:=c6.trans w7
    have g7:=DGet.t (k:=keyS st) hd7 kb7
    rw [eb0 _ _ _ _ vn,if_pos rfl] at g7
    generalize upd H6 d (.dT (kvs++ [(keyS st,.ref l)]))=H7 at w7 k7 hd7 hq7 hl7 rz7 told7 rq7 kb7 c7 g7 ⊢
    have lz:(bj0 p st).length=(mayM p st).length:=by unfold bj0; rw [List.length_map]
    refine⟨_,rfl,.inl ⟨rfl,q0,SqL.of hq7⟩,oT0 (hY0 ⟨_,rfl,_,rfl,d,.ref l,rfl,g7,l,rfl,⟨zs,SqL.of hl7⟩,cK0 (F:=(fun b=>F5 b\/ b=l)) (us:=(mayM p st).map fun r=>au0 (ar0 p st r)) (bV0 fl hl7 rz7) w7.trk (by omega) (by rw [List.length_map,lz]) ?_ ?_⟩)⟩
    ·intro j tj uj F8 H8 x8 R hj hu m8 r8 k8
     unfold bj0 at hj
     cases er:(mayM p st)[j]? with
     |none=>rw [List.getElem?_map,er] at hj; cases hj
     |some r=>
      rw [List.getElem?_map,er] at hj hu
      cases hj; cases hu
      cases r8 with
      |tup h8 r8=>
       obtain⟨y1,y2,rfl,q1,q2⟩:=r8.two
       exact⟨rfl,_,rfl,_,_,1,y2,rfl,rfl,SqT.of h8,atI1 rfl,k8 F8 _ _ (.refl m8.trk) q2⟩
    ·intro F8 H8 b2 ws2 m8 hb2 rw2
     have m9:Mono F8 H8 F8 (upd H8 b2 (.lst ws2)):=.laid m8.trk hb2
     have m89:=m8.trans m9
     have hq9:=m89.ext _ _ hq7
     have hd9:=m89.ext _ _ hd7
     have lw2:ws2.length=(mayM p st).length:=by rw [rw2.length,List.length_map]
     have lq0:q0.length=w0.length:=by rw [rq0.length,List.length_map]
     have nw:(ds++ [st]).Nodup:=List.nodup_append.mpr ⟨i1,List.nodup_cons.mpr ⟨(fun z=>nomatch z),List.nodup_nil⟩,fun a ha b hb e=>by rw [List.mem_singleton.mp hb] at e; exact hin (e▸ha)⟩
     have rw':∀s∈ds++ [st],Reach p s:=fun s hs=>by
      rcases List.mem_append.mp hs with hs|hs
      ·exact i2 s hs
      ·rw [List.mem_singleton.mp hs]; exact rst
     have few2:=dA0 hp nw rw'
     have ld1:(ds++ [st]).length=ds.length+1:=by rw [List.length_append]; rfl
     refine⟨qa,b2,q0,ws2,rfl,rfl,hq9,ai0,by rw [sizeLine_eq]; omega,?_⟩
     have nd8:¬F8 d:=fun z=>(m8.new d z).elim nd6 fun z=>by rw [hd7] at z; cases z
     have nq8:¬F8 qa:=fun z=>(m8.new qa z).elim nq6 fun z=>by rw [hq7] at z; cases z
     have w10:Chg [d,qa] F8 (upd H8 b2 (.lst ws2)) F8 (upd (upd H8 b2 (.lst ws2)) qa (.lst (q0++ws2))):=.write m9.trk (by simp) (by rw [hq9]; exact fun z=>nomatch z)
     have k10:=w10.keep (lo1 nd8 nq8 hd9 hq9)
     have lm:((mayM p st).map fun r=>ar0 p st r).length=(mayM p st).length:=List.length_map _
     refine⟨(1300 - (ds++ [st]).length)*126+(w0++(mayM p st).map fun r=>ar0 p st r).length,by rw [List.length_append (as:=w0),lm,lw]; omega,F8,_,q0++ws2,ds++ [st],w0++(mayM p st).map fun r=>ar0 p st r,_,rfl,(c7.trans m89.chg).trans w10,nd8,nq8,(ah0 dq).trans hd9,ai0,(told7.keep m89.keep).keep k10,?_,nw,rw',fun s hs=> ?_,fun s hs r hr=> ?_,?_,by rw [List.length_append (as:=w0),lm]; omega,rfl⟩
     ·rw [List.map_append]
      refine((rq7.keep m89.keep).keep k10).append ?_
      rw [List.map_map]
      exact(rw2.keep m9.keep).keep k10
     ·rcases List.mem_append.mp hs with hs|hs
      ·exact i3 s (List.mem_append_left _ hs)
      ·obtain⟨r,hr,rfl⟩:=List.mem_map.mp hs
       exact .step rst hr
     ·rcases List.mem_append.mp hs with hs|hs
      ·rcases i4 s hs r hr with z|z
       ·exact .inl (List.mem_append_left _ z)
       ·rcases List.mem_append.mp z with z|z
        ·exact .inr (List.mem_append_left _ z)
        ·exact .inl (List.mem_append_right _ z)
      ·rw [List.mem_singleton.mp hs] at hr ⊢
       exact .inr (List.mem_append_right _ (List.mem_map.mpr ⟨r,hr,rfl⟩))
     ·rcases i5 with z|z
      ·exact .inl (List.mem_append_left _ z)
      ·rcases List.mem_append.mp z with z|z
       ·exact .inr (List.mem_append_left _ z)
       ·exact .inl (List.mem_append_right _ z)
end
theorem kI0 (n:Nat)(i:Int):eqT (n+1) (.int i) (.int i)=some true:=by
 show some (i==i)=_
 rw [beq_self_eq_true]
theorem bs0 {f:BD.T->BD.T->Option Bool}:∀(ts:List BD.T),(∀t∈ts,f t t=some true)->eqLW f ts ts=some true
 | [],_=>rfl
 |t::ts,h=>by
  unfold eqLW
  rw [h t (.head _),Option.bind_some,bs0 ts fun u hu=>h u (.tail _ hu)]
  rfl
theorem lf0 (n:Nat)(r:List Nat):eqT (n+2) (rowT r) (rowT r)=some true:=by
 show eqLW (eqT (n+1)) (r.map intT) (r.map intT)=_
 refine bs0 _ fun t ht=> ?_
 obtain⟨k,_,rfl⟩:=List.mem_map.mp ht
 exact kI0 n k
theorem nY0 (n:Nat)(b:Int × List Nat):eqT (n+3) (bedT b) (bedT b)=some true:=by
 show eqLW (eqT (n+2)) [.int b.1,rowT b.2] [.int b.1,rowT b.2]=_
 refine bs0 _ fun t ht=> ?_
 rcases List.mem_cons.mp ht with rfl|ht
 ·exact kI0 _ _
 ·rw [List.mem_singleton.mp ht]; exact lf0 n b.2
theorem jt0 (n:Nat)(s:Stt):eqT (n+4) (au0 s) (au0 s)=some true:=by
 show eqLW (eqT (n+3)) (s.map bedT) (s.map bedT)=_
 refine bs0 _ fun t ht=> ?_
 obtain⟨b,_,rfl⟩:=List.mem_map.mp ht
 exact nY0 n b
theorem iS0 (p:Plot)(s:Stt):eqT 9 (.lst (bj0 p s)) (.lst (bj0 p s))=some true:=by
 show eqLW (eqT 8) (bj0 p s) (bj0 p s)=_
 refine bs0 _ fun t ht=> ?_
 obtain⟨r,_,rfl⟩:=List.mem_map.mp ht
 show eqLW (eqT 7) [rowT r,au0 (ar0 p s r)] [rowT r,au0 (ar0 p s r)]=_
 refine bs0 _ fun t ht=> ?_
 rcases List.mem_cons.mp ht with rfl|ht
 ·exact lf0 5 r
 ·rw [List.mem_singleton.mp ht]; exact jt0 3 _
theorem eC0 {p:Plot}{H:Hp}{F':Addr->Prop}{H':Hp}{kf kd:List (SK × V)}{sf sd:List Stt}(t1:ToldD p H F' H' kf sf)(t2:ToldF p F' H' kd sd)(n1:sf.Nodup)(n2:sd.Nodup)(a1:∀s,s∈sf↔Reach p s)(a2:∀s,s∈sd↔Reach p s):oy0 F' H' kf kd:=by
 refine⟨?_,fun kv hkv=> ?_⟩
 ·have l1:kf.length=sf.length:=Paired.length t1
  have l2:kd.length=sd.length:=Paired.length t2
  have:=cF0 n1 (m:=sd) fun s hs=>(a2 s).mpr ((a1 s).mp hs)
  have:=cF0 n2 (m:=sf) fun s hs=>(a1 s).mpr ((a2 s).mp hs)
  omega
 ·obtain⟨i,hi⟩:=List.mem_iff_getElem?.mp hkv
  have hs:∃s,sf[i]?=some s/\kv.1=keyS s/\∃l xs,kv.2=.ref l/\H l=none/\¬F' l/\H' l=some (.lst xs)/\Rps F' H' xs (bj0 p s):=by
   clear n1 a1 hkv
   induction t1 generalizing i with
   |nil=>simp at hi
   |cons h _ ih=>
    cases i with
    |zero=>simp at hi; subst hi; exact⟨_,rfl,h⟩
    |succ i=>obtain⟨s,e,r⟩:=ih i (by simpa using hi); exact⟨s,by simpa using e,r⟩
  obtain⟨s,e,k,l,xs,e1,_,_,e2,e3⟩:=hs
  obtain⟨kv',_,e4,e5⟩:=dn0 t2 ((a2 s).mpr ((a1 s).mp (List.mem_of_getElem? e)))
  rw [k,e1]
  exact⟨kv'.2,_,e4,.o (.lst e2 e3),.v e5,iS0 p s⟩
theorem md0 {gs:List BD.T->Option (Bool × BD.T)}{E:En->Option BD.T}{ε:En}{s u:BD.T}(hE:E ε=some s)(hp:gs [s]=some (true,u)):eFnF gs (aa0 E aNil) ε=some u:=by
 unfold eFnF
 rw [az0 hE rfl,Option.bind_some,hp]
theorem lk0 {F:Addr->Prop}{H:Hp}{α:Type}:∀{xs:List V} {l:List α},Rps F H xs (l.map fun _=> .bl true)->xs.all bL0=true/\inV (.bl false) xs=false
 |_,[],r=>by cases r; exact⟨rfl,rfl⟩
 |_,x::l,r=>by
  rw [List.map_cons] at r
  cases r with
  |cons h r=>
   cases h
   obtain⟨h1,h2⟩:=lk0 r
   exact⟨by rw [List.all_cons,h1]; rfl,by unfold inV at h2 ⊢; rw [List.any_cons,h2]; rfl⟩
def lawT:List BD.T->Option (Bool × BD.T):=fun ts=>match ts with| [.scr _]=>some (false,.bl true)|_=>none
section
variable {P:Program}{w:World}{K:PySem.W.Frag}{mg:Str->Option Value}{base:Heap}{C CWeb f:Addr}{fd:FuncData}
theorem qn0 (Fn:Fun K "law" "law" Y0 f fd) (T:Txt K mg C CWeb) (hg0:aL0 P w K mg base 3 "_law_beds" y6 (Z6 C)) (Zg0:aL0 P w K mg base 4 "_law_garden" V6 (v9 C)) (Qg0:aL0 P w K mg base 1 "_law_handed" Y6 (x9 C))
  (Jg0:oF0 P w K mg base C 5 "Garden" j5 (Z5 C)) (Vb0:aL0 P w K mg base 1 "_law_start" X3 (K7 C)) (D4:∀p,Tight p->DfOk P w K mg base 3 "_law_states" j8 (nK0 p)) (D5:∀p,Tight p->DfOk P w K mg base 8 "all_states" z8 (nC0 C p)):
  FnOk P w K mg base CX0 9 f fd Qe0 (spP lawT):=by
 have sc:=Zk0
 refine Fn.ok sc (fun vs H Q E h=> ?_) fun cdv Ar outer s H vs Q E hr h=> ?_
 ·obtain⟨F,ts,o,t,_,r,e,_⟩:=h
  rw [r.length]
  unfold lawT at e
  split at e
  ·rfl
  ·cases e
 obtain⟨F,ts,o,t,tk,r,e,q⟩:=h
 obtain⟨ns,rfl,rfl,rfl⟩:∃ns,ts=[.scr ns]/\o=false/\t=.bl true:=by
  unfold lawT at e
  split at e
  ·cases e; exact⟨_,rfl,rfl,rfl⟩
  ·cases e
 obtain⟨b,hb,eb⟩:=iG0 C ns
 obtain⟨p,ep,hp0,hpl,hpm⟩:=gJ0 C ns b hb
 have hp:Tight p:=⟨hp0,hpm⟩
 obtain⟨f1,d1,F1,m1,k1,B1⟩:=id Vb0
 obtain⟨f4,d4,F4,m4,k4,B4⟩:=D4 p hp
 obtain⟨f5,d5,F5,m5,k5,B5⟩:=D5 p hp
 refine⟨_,ax0 (aZ0 (Y:=⟨H,F,fun _=>True,fun _ _=>False⟩) (i:=1) sc.nd rfl (Or.inl rfl) (aM0 Zg0 (hr.mono (by decide)) (by rfl) (ab0 (aj0 (pv 0)) (ab0 (aM0 hg0 (hr.mono (by decide)) (by rfl) (ab0 (aj0 (pv 0)) (ab0 ad0 an0))) an0))))
  (ax0 (aZ0 (Y:=⟨H,F,fun _=>True,fun _ _=>False⟩) (i:=2) sc.nd rfl (Or.inl rfl) (cw0 (eG0 Qg0 (hr.mono (by decide)) (by rfl) (ab0 (aj0 (pv 1)) an0))))
  (ax0 (aZ0 (Y:=⟨H,F,fun _=>True,fun _ _=>False⟩) (i:=3) sc.nd rfl (Or.inl rfl) (cw0 (fe_mk Jg0 (hr.mono (by decide)) (by rfl) (ab0 (aB0 (ac0 (pv 2)) (ae0 ad0)) (ab0 (aB0 (ac0 (pv 2)) (ae0 ad0)) (ab0 (aB0 (ac0 (pv 2)) (ae0 ad0)) (ab0 (aB0 (ac0 (pv 2)) (ae0 ad0)) an0)))))))
  (ax0 (bX0 (i:=4) sc.nd rfl (Or.inl rfl) (cn0 F4 (hr.mono (by decide)) (by rfl) m4 k4 B4 .nil bU0 (ap0 (pv 1) aG0)))
  (ax0 (bX0 (i:=5) sc.nd rfl (Or.inl rfl) (cn0 F5 (hr.mono (by decide)) (by rfl) m5 k5 B5 .nil bU0 (ap0 (pv 3) aG0)))
  (ax0 (ie0 (PW.pt (oz0 (jK0 (iX0 (cb0 ct0 (by rfl) T.K0 (by rfl) (ap0 (pv 5) (ap0 (fl0 (v:=.ty "dict") (by rfl) T.X9 (by rfl) rfl) aG0))))) (jX0 (fn0 (oM0 (hu20 hr)) (pv 5) (pv 4) (dB0 _))))) (aW0 (cu0 lH0)) dz0)
  (ax0 (mE0 (fP0 PassesOwn.never rfl (kv0 (pv 5)) (as0 (i:=6) sc.nd rfl (Or.inl rfl))
   (aW0 (ie0 (PW.pt (oz0 (jK0 (iX0 (cb0 ct0 (by rfl) T.K0 (by rfl) (ap0 (cU0 (cP0 hr) (pv 5) (pv 6) (fun _ _=>rfl)) (ap0 (fl0 (v:=.ty "list") (by rfl) T.Z2 (by rfl) rfl) aG0)))))
    (jX0 (fn0 fZ0 lH0 (ev0 (g:=cm0 0) (te:=tCB (fun xs H Q=>∃x n t c,xs=[x,.ty n]/\TyOf K H x t/\PySem.W.kitOne K t (.type n)=some c/\Q (.bl c) H) (ey0 (tVar 0) (ey0 (tC (.ty "tuple")) tNil))) (own:=["step"]) rfl (bQ0 Ze0 (af0 Y0) rfl rfl (by decide +kernel))
     (dq0 (cU0 (cP0 hr) (pv 5) (pv 6) (fun _ _=>rfl))) (fun _ _ _ _=>as0 (i:=0) (bz0 ((["step"]:List Str)++hide ["step"] Ze0) rfl (by decide +kernel)) rfl (Or.inl rfl)) (fun _ _ _ _=>el0)
     (fun _ _ _ _=>cb0 ct0 (by rfl) T.K0 (by rfl) (ap0 (pv 0) (ap0 (fl0 (v:=.ty "tuple") (by rfl) T.J0 (by rfl) rfl) aG0)))) rfl)))) (aW0 (cu0 lH0)) dz0))))
  (ax0 (io0 (bK0 (fF0 PySem.F.plainAttrs_list PySem.F.slot_list_append PySem.F.type_list_append cH0 (cU0 (cP0 hr) (pv 5) (cn0 F1 (hr.mono (by decide)) (by rfl) m1 k1 B1 .nil bU0 (ap0 (pv 1) aG0)) (fun _ _=>rfl)) (ap0 mK0 aG0))))
  (ax0 (bK0 (na0 PySem.F.plainAttrs_dict PySem.F.slot_dict_clear PySem.F.type_dict_clear lr0 (pv 5)))
  (aW0 (cu0 (jB0 (pd0 (hu20 hr)) (cn0 F5 (hr.mono (by decide)) (by rfl) m5 k5 B5 .nil bU0 (ap0 (pv 3) aG0)) (pv 4) (dB0 _)))))))))))),?_⟩
 obtain⟨sv,rfl,rs⟩:=r.one
 have hb3:=hp.beds
 have a0:φIx (dL0 p) (.int 0)=some (.lst (p.soils.map .int)):=dF0 _ 0 _ rfl
 have a1:φIx (dL0 p) (.int 1)=some (.int p.top):=dF0 _ 1 _ rfl
 have a2:φIx (dL0 p) (.int 2)=some (.lst (p.crops.map al0)):=dF0 _ 2 _ rfl
 have a3:φIx (dL0 p) (.int 3)=some (at0 p.wants):=dF0 _ 3 _ rfl
 have mk:lc0 C (Z5 C) (aa0 (e2 φIx (bVar 2) (eC (.int 0))) (aa0 (e2 φIx (bVar 2) (eC (.int 1))) (aa0 (e2 φIx (bVar 2) (eC (.int 2))) (aa0 (e2 φIx (bVar 2) (eC (.int 3))) aNil)))) [.sh (scrT ns),.sh (aK0 p),.sh (dL0 p),.un,.un,.un,.un]=some (garT C p):=by
  unfold lc0
  rw [az0 ((ay0 (s:=dL0 p) rfl rfl).trans a0) (az0 ((ay0 (s:=dL0 p) rfl rfl).trans a1) (az0 ((ay0 (s:=dL0 p) rfl rfl).trans a2) (az0 ((ay0 (s:=dL0 p) rfl rfl).trans a3) rfl))),Option.bind_some,oh0 C p hp.toBound]
  rfl
 refine⟨F,[.sh (scrT ns),.un,.un,.un,.un,.un,.un],.nx [.sh (scrT ns),.sh (aK0 p),.un,.un,.un,.un,.un],dQ0 (N:=Ze0) tk (.cons rs .nil),aU0 (ci0 rfl (ci0 rfl rfl eb) ep),fun Fa σa Ha ka ra=> ?_⟩
 refine⟨Fa,_,.nx [.sh (scrT ns),.sh (aK0 p),.sh (dL0 p),.un,.un,.un,.un],ra,aU0 (md0 rfl (iQ0 C p hp.few)),fun Fb σb Hb kb rb=> ?_⟩
 refine⟨Fb,_,.nx [.sh (scrT ns),.sh (aK0 p),.sh (dL0 p),.sh (garT C p),.un,.un,.un],rb,aU0 mk,fun F3 σ3 H3 k3' r3=> ?_⟩
 have m03:Mono F H F3 H3:=⟨r3.same,r3.sub,r3.new,r3.trk⟩
 obtain⟨plv,e1,rpl⟩:=r3.sh 1 (aK0 p) rfl
 obtain⟨gv,e3,rg⟩:=r3.sh 3 (garT C p) rfl
 have l3:σ3.length=7:=r3.len.symm
 clear k3' r3 rb kb ra ka mk a0 a1 a2 a3
 match σ3,l3 with
 | [z0,z1,z2,z3,z4,z5,z6],_=>
 obtain rfl:z1=some plv:=Option.some.inj e1
 obtain rfl:z3=some gv:=Option.some.inj e3
 refine⟨_,rfl,F3,plv,rfl,m03.trk,rpl,fun F4 H4 dd kd sd m34 hdd nfd hd4 ndd alld told4=> ?_⟩
 refine⟨_,rfl,F4,gv,rfl,m34.trk,rg.keep m34.keep,fun F5 H5 df kf sf m45 hdf nff hf5 ndf allf told5=> ?_⟩
 have hd5:=m45.ext _ _ hd4
 have m05:=(m03.trans m34).trans m45
 have told5d:=told4.keep m45.keep
 have dfd:df≠dd:=fun z=>by rw [z,hd4] at hdf; cases hdf
 have hdf0:H df=none:=by
  cases z:H df with
  |none=>rfl
  |some o=>rw [(m03.trans m34).ext _ _ z] at hdf; cases hdf
 refine⟨_,rfl,_, "dict",.type "dict",true,rfl,.dT hf5,rfl,true,rfl,?_⟩
 refine iteF ⟨_,rfl,_,rfl,df,dd,F5,kf,kd,rfl,rfl,.inl hf5,.inl hd5,eC0 told5 told5d ndf ndd allf alld,false,rfl,iteF ?_⟩
 refine⟨df,kf,hf5,hdf0,fun ob=> ?_⟩
 have lof:dT0 [df] F5 H5:=fun a ha=>by rw [List.mem_singleton.mp ha]; exact⟨nff,fun xs z=>by rw [hf5] at z; cases z⟩
 have cs:Chg [df] F5 H5 F5 (upd H5 df (.frz ob (.dT kf))):=.write m45.trk (.head _) (by rw [hf5]; exact fun z=>nomatch z)
 have hfs:upd H5 df (.frz ob (.dT kf)) df=some (.frz ob (.dT kf)):=ai0
 refine⟨_,rfl,df,ob,kf,rfl,hfs,im0 (fun i σ H'=>∃z,σ=[z0,some plv,z2,some gv,some (.ref dd),some (.ref df),z]/\∀b o,upd H5 df (.frz ob (.dT kf)) b=some o->H' b=some o) ⟨z6,rfl,fun _ _ h=>h⟩ ?_ ?_ ?_⟩
 ·rintro i σ H' ⟨z,_,h⟩
  exact h _ _ hfs
 ·rintro i k v bb σ H' hkv ⟨z,rfl,hx⟩ kbb
  obtain⟨s,hs,hsk,l,xs,hv,hl0,nfl,hl5,rxs⟩:∃s,s∈sf/\k=keyS s/\∃l xs,v=.ref l/\H4 l=none/\¬F5 l/\H5 l=some (.lst xs)/\Rps F5 H5 xs (bj0 p s):=by
   have:∀{kf:List (SK × V)} {sf:List Stt} {i:Nat},ToldD p H4 F5 H5 kf sf->kf[i]?=some (k,v)->∃s,s∈sf/\k=keyS s/\∃l xs,v=.ref l/\H4 l=none/\¬F5 l/\H5 l=some (.lst xs)/\Rps F5 H5 xs (bj0 p s):=by
    intro kf sf i t hi
    induction t generalizing i with
    |nil=>simp at hi
    |cons h _ ih=>
     cases i with
     |zero=>simp at hi; subst hi; exact⟨_,.head _,h⟩
     |succ i=>obtain⟨s,e,r⟩:=ih (i:=i) (by simpa using hi); exact⟨s,.tail _ e,r⟩
   exact this told5 hkv
  subst hsk hv
  have hls:upd H5 df (.frz ob (.dT kf)) l=some (.lst xs):=(ah0 (bJ0 hl5 hf5 (fun z=>nomatch z))).trans hl5
  have hl':=hx _ _ hls
  have hf':=hx _ _ hfs
  have vk:valV kf (keyS s)=some (.ref l):=by
   obtain⟨kv,h1,h2,h3⟩:=dn0 told5 hs
   rw [h2]
   have n:(kf.map (·.1)).Nodup:=by
    have e:kf.map (·.1)=sf.map keyS:=by
     have:∀{kf:List (SK × V)} {sf:List Stt},ToldD p H4 F5 H5 kf sf->kf.map (·.1)=sf.map keyS:=by
      intro kf sf t
      induction t with
      |nil=>rfl
      |cons h _ ih=>rw [List.map_cons,List.map_cons,ih,h.1]
     exact this told5
    rw [e]
    exact List.Pairwise.map _ (fun s t hst z=>hst (do0 z)) ndf
   have:∀{kf:List (SK × V)} {i:Nat},(kf.map (·.1)).Nodup->kf[i]?=some (keyS s,.ref l)->valV kf (keyS s)=some (.ref l):=by
    intro kf
    induction kf with
    |nil=>intro i _ h; simp at h
    |cons x kf ih=>
     intro i n h
     rw [List.map_cons] at n
     have n':=List.nodup_cons.mp n
     cases i with
     |zero=>simp at h; subst h; exact bo0 rfl
     |succ i=>
      have h:kf[i]?=some (keyS s,.ref l):=by simpa using h
      rw [bk0 (fun z=>n'.1 (by rw [z]; exact List.mem_map.mpr ⟨_,List.mem_of_getElem? h,rfl⟩))]
      exact ih n'.2 h
   rw [<- h2]
   exact this n hkv
  have g6:DGet H' df (.ref bb) (some (.ref l)):=.inr ⟨kf,keyS s,bb,.inr ⟨ob,hf'⟩,rfl,kbb,vk.symm⟩
  refine⟨_,rfl,_,rfl,df,.ref l,rfl,g6,_, "list",.type "list",true,rfl,.lst hl',rfl,true,rfl,?_⟩
  have rst:=(allf s).mp hs
  have fm:=dV0 hp rst
  have lz:(bj0 p s).length=(mayM p s).length:=by unfold bj0; rw [List.length_map]
  have kx:Keep F5 H5 (fun b=>F5 b\/ b=l) H':=((cs.keep lof).trans ⟨fun _ h=>h,fun a o _ h=>hx _ _ h,fun a xs h=>hx _ _ h⟩).trans Keep.freeze
  have tk6:Trk (fun b=>F5 b\/ b=l) H':=fun b hb=>hb.elim (fun z=>by obtain⟨o,e⟩:=cs.trk b z; exact⟨o,hx _ _ e⟩) fun z=>by rw [z]; exact⟨_,hl'⟩
  refine iteF (nQ0 (hY0 ⟨_,rfl,_,rfl,df,.ref l,rfl,g6,l,rfl,⟨xs,SqL.of hl'⟩,cK0 (F:=fun b=>F5 b\/ b=l) (us:=(mayM p s).map fun _=> .bl true) (bV0 (.inr rfl) hl' (rxs.keep kx)) tk6 (by omega) (by rw [List.length_map,lz]) ?_ ?_⟩))
  ·intro j tj uj F8 H8 x8 R hj hu m8 r8 k8
   unfold bj0 at hj
   cases er:(mayM p s)[j]? with
   |none=>rw [List.getElem?_map,er] at hj; cases hj
   |some r=>
    rw [List.getElem?_map,er] at hj hu
    cases hj; cases hu
    cases r8 with
    |tup h8 r8=>exact⟨rfl,_,rfl,_, "tuple",.type "tuple",true,rfl,.tup h8,rfl,k8 F8 _ _ (.refl m8.trk) (.bl true)⟩
  ·intro F8 H8 b2 ws2 m8 hb2 rw2
   obtain⟨w1,w2⟩:=lk0 rw2
   refine⟨b2,ws2,rfl,.inl (SqL.of ai0),rfl,w1,_,rfl,?_⟩
   rw [show (if false=true then !inV (.bl false) ws2 else inV (.bl false) ws2)=false from w2]
   refine iteF ⟨_,rfl,fun b o h=> ?_⟩
   rw [ah0 (am0 (m8.ext _ _ (hx _ _ h)) hb2)]
   exact m8.ext _ _ (hx _ _ h)
 ·rintro σ H' ⟨z,rfl,hx⟩
  refine⟨df,ob,kf,hx _ _ hfs,hdf0,?_⟩
  obtain⟨kv,_,vk,l0,xs,hv,hl0,nfl,hl5,rxs⟩:=dn0 told5 ((allf _).mpr .start)
  obtain⟨kv1,kv2⟩:=kv
  have hv:kv2=.ref l0:=hv
  subst hv
  have vk:valV kf (keyS (bl0 p))=some (.ref l0):=vk
  have ldf:l0≠df:=bJ0 hl5 hf5 (fun z=>nomatch z)
  have ldd:l0≠dd:=bJ0 hl5 hd5 (fun z=>nomatch z)
  have lo:dT0 [df,l0] F5 H5:=fun a ha=>by
   simp only [List.mem_cons,List.not_mem_nil,or_false] at ha
   rcases ha with rfl|rfl
   ·exact lof _ (.head _)
   ·exact⟨nfl,fun xs z=>by rw [hl5] at z; cases z⟩
  have hf6:upd H' df (.dT kf) df=some (.dT kf):=ai0
  have c6:Chg [df,l0] F5 H5 F5 (upd H' df (.dT kf)):=by
   have e:∀b o,b≠df->H5 b=some o->upd H' df (.dT kf) b=some o:=fun b o n h=>by rw [ah0 n]; exact hx _ _ ((ah0 n).trans h)
   refine⟨fun b o n h=>e b o (fun z=>n (by rw [z]; exact .head _)) h,fun _ h=>h,fun _ h=> .inl h,fun b h=> ?_,fun b h=> ?_⟩
   ·obtain⟨o,q⟩:=m45.trk b h
    exact⟨o,e b o (fun z=>nff (z▸h)) q⟩
   ·by_cases z:b=df
    ·rw [z,hf6]; exact fun z=>nomatch z
    ·cases q:H5 b with
     |none=>exact absurd q h
     |some o=>rw [e b o z q]; exact fun z=>nomatch z
  have hl6:upd H' df (.dT kf) l0=some (.lst xs):=by rw [ah0 ldf]; exact hx _ _ ((ah0 ldf).trans hl5)
  generalize upd H' df (.dT kf)=H6 at hf6 c6 hl6 ⊢
  have k6:=c6.keep lo
  have rpl6:=((rpl.keep m34.keep).keep m45.keep).keep k6
  refine⟨_,rfl,_,rfl,F5,[aK0 p],false,_,c6.trk,.cons rpl6 .nil,ed0 C p (by omega),fun F7 v H7 m7 rv=> ?_⟩
  obtain⟨bb,rfl,kbb⟩:=gL0 (show Rp F7 H7 v (au0 (bl0 p)) from rv)
  have hf7:=m7.ext _ _ hf6
  have hl7:=m7.ext _ _ hl6
  have g7:=DGet.t (k:=keyS (bl0 p)) hf7 kbb
  rw [vk] at g7
  have c7:=c6.trans m7.chg
  have fm:=dV0 hp (p:=p) .start
  have lx:xs.length=(mayM p (bl0 p)).length:=by rw [rxs.length]; unfold bj0; rw [List.length_map]
  refine⟨df,.ref l0,rfl,g7,.inl ⟨rfl,xs,SqL.of hl7⟩,l0,xs,_,rfl,rfl,hl7,by rw [sizeLine_eq]; omega,?_⟩
  have c8:=c7.trans (.write (a:=l0) (o:=.lst (xs++ [.str "none"])) c7.trk (by simp) (by rw [hl7]; exact fun z=>nomatch z))
  have hf8:upd H7 l0 (.lst (xs++ [.str "none"])) df=some (.dT kf):=(ah0 ldf.symm).trans hf7
  refine⟨_,rfl,.inr (.inr (.inl ⟨rfl,.inr ⟨kf,hf8⟩⟩)),df,kf,rfl,rfl,hf8,?_⟩
  have c9:=c8.trans (.write (a:=df) (o:=.dT []) c8.trk (by simp) (by rw [hf8]; exact fun z=>nomatch z))
  have k9:=c9.keep lo
  generalize upd (upd H7 l0 (.lst (xs++ [.str "none"]))) df (.dT [])=H9 at c9 k9 ⊢
  have hd9:H9 dd=some (.dT kd):=c9.ext _ _ (by simp [dfd.symm,ldd.symm]) hd5
  refine⟨_,rfl,F7,gv,rfl,c9.trk,((rg.keep m34.keep).keep m45.keep).keep k9,fun F10 H10 d2 k2 s2 m10 hd20 nf2 h2 nd2 all2 told10=> ?_⟩
  refine⟨_,rfl,d2,dd,F10,k2,kd,rfl,rfl,.inl h2,.inl (m10.ext _ _ hd9),eC0 told10 ((told5d.keep k9).keep m10.keep) nd2 ndd all2 alld,q F10 _ H10 ?_ (show Rp F10 H10 (.bl true) (.bl true) from .bl true)⟩
  refine((m05.chg.trans c9).trans m10.chg).toMono (L:=[df,l0]) fun a ha=> ?_
  simp only [List.mem_cons,List.not_mem_nil,or_false] at ha
  rcases ha with rfl|rfl
  ·exact hdf0
  ·cases z:H _ with
   |none=>rfl
   |some o=>rw [(m03.trans m34).ext _ _ z] at hl0; cases hl0
end
def bA0 (K:PySem.W.Frag)(mg:Str->Option Value)(x qual:Str)(st:Stmt)(ps:List Str):Prop:=∃f fd,Fun K x qual st f fd/\mg x=some (.ref f)/\PySem.W.keepIn K (.ref f)=true/\Binds K fd ps []
def dt0 (K:PySem.W.Frag)(C:Addr)(x qual:Str)(st:Stmt)(ps:List Str):Prop:=∃f fd,Fun K x qual st f fd/\Meth K C x f/\Binds K fd ps []
def nB0 (K:PySem.W.Frag)(mg:Str->Option Value)(C:Addr)(c qual:Str)(st:Stmt)(ps:List Str):Prop:=∃f fd,Fun K "__init__" qual st f fd/\Mk K C f/\mg c=some (.ref C)/\Binds K fd ps []
structure Ats (K:PySem.W.Frag)(mg:Str->Option Value)(C CWeb:Addr):Prop where
 jn0:bA0 K mg "is_within" "is_within" ja0 Q4
 kn0:bA0 K mg "check_within" "check_within" ka0 J1
 wn0:bA0 K mg "check_beds" "check_beds" wa0 K4
 vn0:bA0 K mg "check_crop" "check_crop" va0 W4
 yn0:bA0 K mg "check_name" "check_name" ya0 V2
 xn0:bA0 K mg "names_of" "names_of" Q8 Y2
 hn0:bA0 K mg "check_crops" "check_crops" xa0 V4
 Zn0:bA0 K mg "check_wants" "check_wants" ha0 Y4
 Qn0:bA0 K mg "numbers_of" "numbers_of" J8 X4
 Jn0:nB0 K mg C "Garden" "Garden.__init__" V1 j5
 Kn0:dt0 K C "start" "Garden.start" K8 Q5
 Wn0:dt0 K C "lets" "Garden.lets" Za0 J5
 Vn0:dt0 K C "crops_for" "Garden.crops_for" V8 K5
 Yn0:dt0 K C "meets_wants" "Garden.meets_wants" Qa0 W5
 Xn0:bA0 K mg "lengthened" "lengthened" Y8 V5
 zo0:dt0 K C "may" "Garden.may" X8 Y5
 qo0:dt0 K C "bed_behind" "Garden.bed_behind" Ja0 X5
 jo0:dt0 K C "beds_behind" "Garden.beds_behind" q9 j6
 ko0:bA0 K mg "_law_cell_at" "_law_cell_at" Wa0 w6
 wo0:bA0 K mg "_law_draw" "_law_draw" Va0 Y1
 vo0:bA0 K mg "_law_beds" "_law_beds" Ya0 y6
 yo0:bA0 K mg "_law_crop" "_law_crop" Xa0 Q6
 xo0:bA0 K mg "_law_wants" "_law_wants" zb0 J6
 ho0:bA0 K mg "_law_garden" "_law_garden" W6 V6
 Zo0:bA0 K mg "_law_handed" "_law_handed" y9 Y6
 Qo0:bA0 K mg "_law_lets" "_law_lets" qb0 X6
 Jo0:bA0 K mg "_law_longer" "_law_longer" jb0 z7
 Ko0:bA0 K mg "_law_wanted" "_law_wanted" Z9 j7
 Wo0:bA0 K mg "_law_may" "_law_may" v7 y7
 Vo0:bA0 K mg "_law_memory" "_law_memory" K9 Z7
 Yo0:bA0 K mg "_law_behind" "_law_behind" kb0 Q7
 Xo0:bA0 K mg "_law_start" "_law_start" W9 X3
 zp0:dt0 K CWeb "number_of" "Web.number_of" vb0 j4
 qp0:dt0 K CWeb "worked_out" "Web.worked_out" xb0 V7
 jp0:dt0 K CWeb "moves_of" "Web.moves_of" yb0 v4
 kp0:dt0 K CWeb "widen" "Web.widen" hb0 Y7
 wp0:dt0 K CWeb "widen_fully" "Web.widen_fully" Zb0 X7
 vp0:nB0 K mg CWeb "Web" "Web.__init__" wb0 W7
 yp0:bA0 K mg "all_states" "all_states" V9 z8
 xp0:bA0 K mg "_law_states" "_law_states" q8 j8
theorem oI0 {P:Program}{w:World}{K:PySem.W.Frag}{mg:Str->Option Value}{base:Heap}{C CWeb f:Addr}{fd:FuncData}(F:Fun K "law" "law" Y0 f fd) (T:Txt K mg C CWeb) (a:Ats K mg C CWeb):FnOk P w K mg base CX0 9 f fd Qe0 (spP lawT):=by
 have xf0:aL0 P w K mg base 1 "is_within" Q4 (J4 C):=let ⟨f,fd,F,r⟩:=a.jn0; ⟨f,fd,Jk0 F T,r⟩
 have Q0:aL0 P w K mg base 2 "check_within" J1 (y0 C):=let ⟨f,fd,F,r⟩:=a.kn0; ⟨f,fd,Kk0 F T xf0,r⟩
 have Zf0:aL0 P w K mg base 3 "check_beds" K4 (Q2 C):=let ⟨f,fd,F,r⟩:=a.wn0; ⟨f,fd,Wk0 F T Q0,r⟩
 have hf0:aL0 P w K mg base 3 "check_crop" W4 (J2 C):=let ⟨f,fd,F,r⟩:=a.vn0; ⟨f,fd,Vk0 F T Q0,r⟩
 have y8:aL0 P w K mg base 1 "check_name" V2 (W0 C):=let ⟨f,fd,F,r⟩:=a.yn0; ⟨f,fd,Yk0 F T,r⟩
 have Z8:aL0 P w K mg base 1 "names_of" Y2 (Z1 C):=let ⟨f,fd,F,r⟩:=a.xn0; ⟨f,fd,Xk0 F T,r⟩
 have Qf0:aL0 P w K mg base 4 "check_crops" V4 (X2 C):=let ⟨f,fd,F,r⟩:=a.hn0; ⟨f,fd,zl0 F T hf0 y8 Q0 Z8,r⟩
 have Jf0:aL0 P w K mg base 3 "check_wants" Y4 (j3 C):=let ⟨f,fd,F,r⟩:=a.Zn0; ⟨f,fd,ql0 F T y8 Q0,r⟩
 have Kf0:aL0 P w K mg base 1 "numbers_of" X4 (W1 C):=let ⟨f,fd,F,r⟩:=a.Qn0; ⟨f,fd,jl0 F T,r⟩
 have Jg0:oF0 P w K mg base C 5 "Garden" j5 (Z5 C):=let ⟨f,fd,F,r⟩:=a.Jn0; ⟨f,fd,kl0 F T Zf0 Qf0 Jf0 Z8 Kf0,r⟩
 have Zp0:cQ0 P w K mg base C 1 "start" Q5 (W8 C):=let ⟨f,fd,F,r⟩:=a.Kn0; ⟨f,fd,wl0 F T,r⟩
 have Wf0:cQ0 P w K mg base C 1 "lets" J5 (v3 C):=let ⟨f,fd,F,r⟩:=a.Wn0; ⟨f,fd,vl0 F T,r⟩
 have Vf0:cQ0 P w K mg base C 2 "crops_for" K5 (y3 C):=let ⟨f,fd,F,r⟩:=a.Vn0; ⟨f,fd,yl0 F T Wf0,r⟩
 have Yf0:cQ0 P w K mg base C 1 "meets_wants" W5 (x3 C):=let ⟨f,fd,F,r⟩:=a.Yn0; ⟨f,fd,xl0 F T,r⟩
 have Xf0:aL0 P w K mg base 1 "lengthened" V5 (Z3 C):=let ⟨f,fd,F,r⟩:=a.Xn0; ⟨f,fd,Zl0 F T,r⟩
 have Qp0:cQ0 P w K mg base C 3 "may" Y5 (z9 C):=let ⟨f,fd,F,r⟩:=a.zo0; ⟨f,fd,Ql0 F T Vf0 Yf0 Xf0,r⟩
 have zg0:cQ0 P w K mg base C 1 "bed_behind" X5 (Q3 C):=let ⟨f,fd,F,r⟩:=a.qo0; ⟨f,fd,Jl0 F T,r⟩
 have Jp0:cQ0 P w K mg base C 2 "beds_behind" j6 (j9 C):=let ⟨f,fd,F,r⟩:=a.jo0; ⟨f,fd,Kl0 F T zg0,r⟩
 have qg0:aL0 P w K mg base 1 "_law_cell_at" w6 (J3 C):=let ⟨f,fd,F,r⟩:=a.ko0; ⟨f,fd,Wl0 F T,r⟩
 have x0:aL0 P w K mg base 2 "_law_draw" Y1 (j0 C):=let ⟨f,fd,F,r⟩:=a.wo0; ⟨f,fd,Vl0 F T qg0,r⟩
 have hg0:aL0 P w K mg base 3 "_law_beds" y6 (Z6 C):=let ⟨f,fd,F,r⟩:=a.vo0; ⟨f,fd,Yl0 F T x0,r⟩
 have jg0:aL0 P w K mg base 3 "_law_crop" Q6 (K3 C):=let ⟨f,fd,F,r⟩:=a.yo0; ⟨f,fd,Xl0 F T x0,r⟩
 have kg0:aL0 P w K mg base 3 "_law_wants" J6 (K6 C):=let ⟨f,fd,F,r⟩:=a.xo0; ⟨f,fd,zm0 F T x0,r⟩
 have Zg0:aL0 P w K mg base 4 "_law_garden" V6 (v9 C):=let ⟨f,fd,F,r⟩:=a.ho0; ⟨f,fd,qm0 F T jg0 x0 kg0,r⟩
 have Qg0:aL0 P w K mg base 1 "_law_handed" Y6 (x9 C):=let ⟨f,fd,F,r⟩:=a.Zo0; ⟨f,fd,jm0 F T,r⟩
 have wg0:aL0 P w K mg base 1 "_law_lets" X6 (X1 C):=let ⟨f,fd,F,r⟩:=a.Qo0; ⟨f,fd,km0 F T,r⟩
 have vg0:aL0 P w K mg base 1 "_law_longer" z7 (W3 C):=let ⟨f,fd,F,r⟩:=a.Jo0; ⟨f,fd,wm0 F T,r⟩
 have yg0:aL0 P w K mg base 1 "_law_wanted" j7 (V3 C):=let ⟨f,fd,F,r⟩:=a.Ko0; ⟨f,fd,vm0 F T,r⟩
 have Kp0:aL0 P w K mg base 2 "_law_may" y7 (J9 C):=let ⟨f,fd,F,r⟩:=a.Wo0; ⟨f,fd,ym0 F T wg0 vg0 yg0,r⟩
 have xg0:aL0 P w K mg base 1 "_law_memory" Z7 (Y3 C):=let ⟨f,fd,F,r⟩:=a.Vo0; ⟨f,fd,xm0 F T,r⟩
 have Wp0:aL0 P w K mg base 2 "_law_behind" Q7 (J7 C):=let ⟨f,fd,F,r⟩:=a.Yo0; ⟨f,fd,hm0 F T xg0,r⟩
 have Vb0:aL0 P w K mg base 1 "_law_start" X3 (K7 C):=let ⟨f,fd,F,r⟩:=a.Xo0; ⟨f,fd,Zm0 F T,r⟩
 have Yi0:∀p,Tight p->SpOk P w K mg base CWeb 1 "number_of" j4 (lN0 C CWeb p):=fun p hp=>let ⟨f,fd,F,r⟩:=a.zp0; ⟨f,fd,Qm0 F T,r⟩
 have Vp0:∀p,Tight p->SpOk P w K mg base CWeb 4 "worked_out" V7 (ll0 C CWeb p):=fun p hp=>let ⟨f,fd,F,r⟩:=a.qp0; ⟨f,fd,Jm0 F T hp Qp0 Jp0 (Yi0 p hp),r⟩
 have Xi0:∀p,Tight p->SpOk P w K mg base CWeb 5 "moves_of" v4 (lT0 C CWeb p):=fun p hp=>let ⟨f,fd,F,r⟩:=a.jp0; ⟨f,fd,Km0 F T hp (Vp0 p hp),r⟩
 have Yp0:∀p,Tight p->SpOk P w K mg base CWeb 6 "widen" Y7 (nV0 C CWeb p):=fun p hp=>let ⟨f,fd,F,r⟩:=a.kp0; ⟨f,fd,Wm0 F T hp (Xi0 p hp),r⟩
 have Xp0:∀p,Tight p->SpOk P w K mg base CWeb 7 "widen_fully" X7 (nT0 C CWeb p):=fun p hp=>let ⟨f,fd,F,r⟩:=a.wp0; ⟨f,fd,Vm0 F T hp (Yp0 p hp),r⟩
 have zq0:∀p,Tight p->MkOk P w K mg base CWeb 2 "Web" W7 (oH0 C CWeb p):=fun p hp=>let ⟨f,fd,F,r⟩:=a.vp0; ⟨f,fd,Ym0 F T hp Zp0 (Yi0 p hp),r⟩
 have qq0:∀p,Tight p->DfOk P w K mg base 8 "all_states" z8 (nC0 C p):=fun p hp=>let ⟨f,fd,F,r⟩:=a.yp0; ⟨f,fd,Xm0 F T hp (zq0 p hp) (Xp0 p hp) (Xi0 p hp),r⟩
 have jq0:∀p,Tight p->DfOk P w K mg base 3 "_law_states" j8 (nK0 p):=fun p hp=>let ⟨f,fd,F,r⟩:=a.xp0; ⟨f,fd,zn0 F T hp Vb0 Kp0 Wp0,r⟩
 exact qn0 F T hg0 Zg0 Qg0 Jg0 Vb0 jq0 qq0
theorem no_at {K:PySem.W.Frag}{C:Addr}{x:Str}(h:PySem.W.findIn K (.ref C) x=some none):NoAttr K C x:=h
theorem int_at {K:PySem.W.Frag}{h:Heap}{mg:Str->Option Value}{x:Str}{i:Int}{v:Value}(X:K.In h)(G:h.Ns mainGlobals mg)(a:PySem.W.nsIn K mainGlobals x=some (some v))(e:∃t,v=.int i t):∃t,mg x=some (.int i t):=let ⟨t,e⟩:=e; ⟨t,e▸PySem.W.mg_of X G a⟩
theorem fun_at {K:PySem.W.Frag}{h:Heap}{mg:Str->Option Value}{x qual:Str}{st:Stmt}{ps:List Str}{f:Addr}{od an:Option Addr}{sl:Array (Option Value)}{oc kV dc pm cd ct:Value}(X:K.In h)(G:h.Ns mainGlobals mg)
  (a:PySem.W.nsIn K mainGlobals x=some (some (.ref f))) (l:K.lookup f=some ⟨oc,od,.func (PySem.W.fnOf x qual (ch0 st) (bC0 st) (af0 st) .none kV dc pm an cd ct),sl⟩) (c:PySem.W.codeIn K cd qual=true) (k:PySem.W.keepIn K (.ref f)=true)
  (b:∀{fd:FuncData},Fun K x qual st f fd->Binds K fd ps []):bA0 K mg x qual st ps:=⟨f,_,er0 (st:=st) l c k,PySem.W.mg_of X G a,k,b (er0 (st:=st) l c k)⟩
theorem met_at {K:PySem.W.Frag}{x qual:Str}{st:Stmt}{ps:List Str}{f C:Addr}{od an:Option Addr}{sl:Array (Option Value)}{oc kV dc pm cd ct:Value}
  (a:PySem.W.findIn K (.ref C) x=some (some (.ref f))) (i:PySem.W.isFn K (.ref f)=true) (l:K.lookup f=some ⟨oc,od,.func (PySem.W.fnOf x qual (ch0 st) (bC0 st) (af0 st) .none kV dc pm an cd ct),sl⟩) (c:PySem.W.codeIn K cd qual=true) (k:PySem.W.keepIn K (.ref f)=true)
  (b:∀{fd:FuncData},Fun K x qual st f fd->Binds K fd ps []):dt0 K C x qual st ps:=⟨f,_,er0 (st:=st) l c k,⟨a,i,k⟩,b (er0 (st:=st) l c k)⟩
theorem mak_at {K:PySem.W.Frag}{h:Heap}{mg:Str->Option Value}{cn qual:Str}{st:Stmt}{ps:List Str}{f C:Addr}{od an:Option Addr}{sl:Array (Option Value)}{oc kV dc pm cd ct:Value}(X:K.In h)(G:h.Ns mainGlobals mg)
  (n:PySem.W.nsIn K mainGlobals cn=some (some (.ref C))) (mk:PySem.W.makesIn K C=true) (kc:PySem.W.keepIn K (.ref C)=true)
  (a:PySem.W.findIn K (.ref C) "__init__" =some (some (.ref f))) (i:PySem.W.isFn K (.ref f)=true) (l:K.lookup f=some ⟨oc,od,.func (PySem.W.fnOf "__init__" qual (ch0 st) (bC0 st) (af0 st) .none kV dc pm an cd ct),sl⟩) (c:PySem.W.codeIn K cd qual=true) (k:PySem.W.keepIn K (.ref f)=true)
  (b:∀{fd:FuncData},Fun K "__init__" qual st f fd->Binds K fd ps []):nB0 K mg C cn qual st ps:=⟨f,_,er0 (st:=st) l c k,⟨mk,a,i,kc⟩,PySem.W.mg_of X G n,b (er0 (st:=st) l c k)⟩
theorem kq0 {K:PySem.W.Frag}{f:Addr}{fd:FuncData}(F:Fun K "is_within" "is_within" ja0 f fd):Binds K fd Q4 []:=F.binds (ps:=Q4) fun _ _ _ _ _ _ us hl=>match us,hl with| [_,_,_],_=>rfl
theorem wq0 {K:PySem.W.Frag}{f:Addr}{fd:FuncData}(F:Fun K "check_within" "check_within" ka0 f fd):Binds K fd J1 []:=F.binds (ps:=J1) fun _ _ _ _ _ _ us hl=>match us,hl with| [_,_,_,_],_=>rfl
theorem vq0 {K:PySem.W.Frag}{f:Addr}{fd:FuncData}(F:Fun K "check_beds" "check_beds" wa0 f fd):Binds K fd K4 []:=F.binds (ps:=K4) fun _ _ _ _ _ _ us hl=>match us,hl with| [_,_],_=>rfl
theorem yq0 {K:PySem.W.Frag}{f:Addr}{fd:FuncData}(F:Fun K "check_crop" "check_crop" va0 f fd):Binds K fd W4 []:=F.binds (ps:=W4) fun _ _ _ _ _ _ us hl=>match us,hl with| [_],_=>rfl
theorem xq0 {K:PySem.W.Frag}{f:Addr}{fd:FuncData}(F:Fun K "check_name" "check_name" ya0 f fd):Binds K fd V2 []:=F.binds (ps:=V2) fun _ _ _ _ _ _ us hl=>match us,hl with| [_,_],_=>rfl
theorem hq0 {K:PySem.W.Frag}{f:Addr}{fd:FuncData}(F:Fun K "names_of" "names_of" Q8 f fd):Binds K fd Y2 []:=F.binds (ps:=Y2) fun _ _ _ _ _ _ us hl=>match us,hl with| [_],_=>rfl
theorem Zq0 {K:PySem.W.Frag}{f:Addr}{fd:FuncData}(F:Fun K "check_crops" "check_crops" xa0 f fd):Binds K fd V4 []:=F.binds (ps:=V4) fun _ _ _ _ _ _ us hl=>match us,hl with| [_],_=>rfl
theorem Qq0 {K:PySem.W.Frag}{f:Addr}{fd:FuncData}(F:Fun K "check_wants" "check_wants" ha0 f fd):Binds K fd Y4 []:=F.binds (ps:=Y4) fun _ _ _ _ _ _ us hl=>match us,hl with| [_,_],_=>rfl
theorem Jq0 {K:PySem.W.Frag}{f:Addr}{fd:FuncData}(F:Fun K "numbers_of" "numbers_of" J8 f fd):Binds K fd X4 []:=F.binds (ps:=X4) fun _ _ _ _ _ _ us hl=>match us,hl with| [_,_],_=>rfl
theorem Kq0 {K:PySem.W.Frag}{f:Addr}{fd:FuncData}(F:Fun K "__init__" "Garden.__init__" V1 f fd):Binds K fd j5 []:=F.binds (ps:=j5) fun _ _ _ _ _ _ us hl=>match us,hl with| [_,_,_,_,_],_=>rfl
theorem Wq0 {K:PySem.W.Frag}{f:Addr}{fd:FuncData}(F:Fun K "start" "Garden.start" K8 f fd):Binds K fd Q5 []:=F.binds (ps:=Q5) fun _ _ _ _ _ _ us hl=>match us,hl with| [_],_=>rfl
theorem Vq0 {K:PySem.W.Frag}{f:Addr}{fd:FuncData}(F:Fun K "lets" "Garden.lets" Za0 f fd):Binds K fd J5 []:=F.binds (ps:=J5) fun _ _ _ _ _ _ us hl=>match us,hl with| [_,_,_,_],_=>rfl
theorem Yq0 {K:PySem.W.Frag}{f:Addr}{fd:FuncData}(F:Fun K "crops_for" "Garden.crops_for" V8 f fd):Binds K fd K5 []:=F.binds (ps:=K5) fun _ _ _ _ _ _ us hl=>match us,hl with| [_,_,_],_=>rfl
theorem Xq0 {K:PySem.W.Frag}{f:Addr}{fd:FuncData}(F:Fun K "meets_wants" "Garden.meets_wants" Qa0 f fd):Binds K fd W5 []:=F.binds (ps:=W5) fun _ _ _ _ _ _ us hl=>match us,hl with| [_,_],_=>rfl
theorem zr0 {K:PySem.W.Frag}{f:Addr}{fd:FuncData}(F:Fun K "lengthened" "lengthened" Y8 f fd):Binds K fd V5 []:=F.binds (ps:=V5) fun _ _ _ _ _ _ us hl=>match us,hl with| [_,_],_=>rfl
theorem qr0 {K:PySem.W.Frag}{f:Addr}{fd:FuncData}(F:Fun K "may" "Garden.may" X8 f fd):Binds K fd Y5 []:=F.binds (ps:=Y5) fun _ _ _ _ _ _ us hl=>match us,hl with| [_,_],_=>rfl
theorem jr0 {K:PySem.W.Frag}{f:Addr}{fd:FuncData}(F:Fun K "bed_behind" "Garden.bed_behind" Ja0 f fd):Binds K fd X5 []:=F.binds (ps:=X5) fun _ _ _ _ _ _ us hl=>match us,hl with| [_,_,_,_],_=>rfl
theorem kr0 {K:PySem.W.Frag}{f:Addr}{fd:FuncData}(F:Fun K "beds_behind" "Garden.beds_behind" q9 f fd):Binds K fd j6 []:=F.binds (ps:=j6) fun _ _ _ _ _ _ us hl=>match us,hl with| [_,_,_],_=>rfl
theorem wr0 {K:PySem.W.Frag}{f:Addr}{fd:FuncData}(F:Fun K "_law_cell_at" "_law_cell_at" Wa0 f fd):Binds K fd w6 []:=F.binds (ps:=w6) fun _ _ _ _ _ _ us hl=>match us,hl with| [_,_],_=>rfl
theorem vr0 {K:PySem.W.Frag}{f:Addr}{fd:FuncData}(F:Fun K "_law_draw" "_law_draw" Va0 f fd):Binds K fd Y1 []:=F.binds (ps:=Y1) fun _ _ _ _ _ _ us hl=>match us,hl with| [_,_],_=>rfl
theorem yr0 {K:PySem.W.Frag}{f:Addr}{fd:FuncData}(F:Fun K "_law_beds" "_law_beds" Ya0 f fd):Binds K fd y6 []:=F.binds (ps:=y6) fun _ _ _ _ _ _ us hl=>match us,hl with| [_,_],_=>rfl
theorem xr0 {K:PySem.W.Frag}{f:Addr}{fd:FuncData}(F:Fun K "_law_crop" "_law_crop" Xa0 f fd):Binds K fd Q6 []:=F.binds (ps:=Q6) fun _ _ _ _ _ _ us hl=>match us,hl with| [_,_,_,_],_=>rfl
theorem Zr0 {K:PySem.W.Frag}{f:Addr}{fd:FuncData}(F:Fun K "_law_wants" "_law_wants" zb0 f fd):Binds K fd J6 []:=F.binds (ps:=J6) fun _ _ _ _ _ _ us hl=>match us,hl with| [_,_,_],_=>rfl
theorem Qr0 {K:PySem.W.Frag}{f:Addr}{fd:FuncData}(F:Fun K "_law_garden" "_law_garden" W6 f fd):Binds K fd V6 []:=F.binds (ps:=V6) fun _ _ _ _ _ _ us hl=>match us,hl with| [_,_],_=>rfl
theorem Jr0 {K:PySem.W.Frag}{f:Addr}{fd:FuncData}(F:Fun K "_law_handed" "_law_handed" y9 f fd):Binds K fd Y6 []:=F.binds (ps:=Y6) fun _ _ _ _ _ _ us hl=>match us,hl with| [_],_=>rfl
theorem Kr0 {K:PySem.W.Frag}{f:Addr}{fd:FuncData}(F:Fun K "_law_lets" "_law_lets" qb0 f fd):Binds K fd X6 []:=F.binds (ps:=X6) fun _ _ _ _ _ _ us hl=>match us,hl with| [_,_,_],_=>rfl
theorem Wr0 {K:PySem.W.Frag}{f:Addr}{fd:FuncData}(F:Fun K "_law_longer" "_law_longer" jb0 f fd):Binds K fd z7 []:=F.binds (ps:=z7) fun _ _ _ _ _ _ us hl=>match us,hl with| [_,_],_=>rfl
theorem Vr0 {K:PySem.W.Frag}{f:Addr}{fd:FuncData}(F:Fun K "_law_wanted" "_law_wanted" Z9 f fd):Binds K fd j7 []:=F.binds (ps:=j7) fun _ _ _ _ _ _ us hl=>match us,hl with| [_,_],_=>rfl
theorem Yr0 {K:PySem.W.Frag}{f:Addr}{fd:FuncData}(F:Fun K "_law_may" "_law_may" v7 f fd):Binds K fd y7 []:=F.binds (ps:=y7) fun _ _ _ _ _ _ us hl=>match us,hl with| [_,_],_=>rfl
theorem Xr0 {K:PySem.W.Frag}{f:Addr}{fd:FuncData}(F:Fun K "_law_memory" "_law_memory" K9 f fd):Binds K fd Z7 []:=F.binds (ps:=Z7) fun _ _ _ _ _ _ us hl=>match us,hl with| [_],_=>rfl
theorem zs0 {K:PySem.W.Frag}{f:Addr}{fd:FuncData}(F:Fun K "_law_behind" "_law_behind" kb0 f fd):Binds K fd Q7 []:=F.binds (ps:=Q7) fun _ _ _ _ _ _ us hl=>match us,hl with| [_,_,_],_=>rfl
theorem qs0 {K:PySem.W.Frag}{f:Addr}{fd:FuncData}(F:Fun K "_law_start" "_law_start" W9 f fd):Binds K fd X3 []:=F.binds (ps:=X3) fun _ _ _ _ _ _ us hl=>match us,hl with| [_],_=>rfl
theorem js0 {K:PySem.W.Frag}{f:Addr}{fd:FuncData}(F:Fun K "number_of" "Web.number_of" vb0 f fd):Binds K fd j4 []:=F.binds (ps:=j4) fun _ _ _ _ _ _ us hl=>match us,hl with| [_,_,_],_=>rfl
theorem ks0 {K:PySem.W.Frag}{f:Addr}{fd:FuncData}(F:Fun K "worked_out" "Web.worked_out" xb0 f fd):Binds K fd V7 []:=F.binds (ps:=V7) fun _ _ _ _ _ _ us hl=>match us,hl with| [_,_],_=>rfl
theorem ws0 {K:PySem.W.Frag}{f:Addr}{fd:FuncData}(F:Fun K "moves_of" "Web.moves_of" yb0 f fd):Binds K fd v4 []:=F.binds (ps:=v4) fun _ _ _ _ _ _ us hl=>match us,hl with| [_,_],_=>rfl
theorem vs0 {K:PySem.W.Frag}{f:Addr}{fd:FuncData}(F:Fun K "widen" "Web.widen" hb0 f fd):Binds K fd Y7 []:=F.binds (ps:=Y7) fun _ _ _ _ _ _ us hl=>match us,hl with| [_,_],_=>rfl
theorem ys0 {K:PySem.W.Frag}{f:Addr}{fd:FuncData}(F:Fun K "widen_fully" "Web.widen_fully" Zb0 f fd):Binds K fd X7 []:=F.binds (ps:=X7) fun _ _ _ _ _ _ us hl=>match us,hl with| [_],_=>rfl
theorem xs0 {K:PySem.W.Frag}{f:Addr}{fd:FuncData}(F:Fun K "__init__" "Web.__init__" wb0 f fd):Binds K fd W7 []:=F.binds (ps:=W7) fun _ _ _ _ _ _ us hl=>match us,hl with| [_,_],_=>rfl
theorem hs0 {K:PySem.W.Frag}{f:Addr}{fd:FuncData}(F:Fun K "all_states" "all_states" V9 f fd):Binds K fd z8 []:=F.binds (ps:=z8) fun _ _ _ _ _ _ us hl=>match us,hl with| [_],_=>rfl
theorem Zs0 {K:PySem.W.Frag}{f:Addr}{fd:FuncData}(F:Fun K "_law_states" "_law_states" q8 f fd):Binds K fd j8 []:=F.binds (ps:=j8) fun _ _ _ _ _ _ us hl=>match us,hl with| [_],_=>rfl
def NoList (K:PySem.W.Frag):Prop:=(K.all fun q=>q.2.cls !=.type "list")=true
theorem gW0 {a:Addr}{o:Obj}:∀{K:List (Addr × Obj)},K.lookup a=some o->(a,o)∈K
 | [],h=>by simp at h
 | (b,u)::K,h=>by
  rw [List.lookup_cons] at h
  cases q:a==b with
  |true=>
   rw [q] at h
   cases h
   rw [beq_iff_eq.mp q]
   exact List.mem_cons_self ..
  |false=>
   rw [q] at h
   exact List.mem_cons_of_mem _ (gW0 h)
theorem NoList.at {K:PySem.W.Frag}(h:NoList K){a:Addr}{o:Obj}(e:K.lookup a=some o):o.cls≠ .type "list" :=fun z=>by
 have:=List.all_eq_true.mp h (a,o) (gW0 e)
 rw [z] at this
 simp at this
def mp0 (K:PySem.W.Frag):Sp:=fun vs H Q _=>∃(a:Addr) (ns:List Int),vs=[.ref a]/\Only H/\SqL K H a (ns.map V.int)/\ns.length<=63/\∀H',Q (.bl true) H'
theorem pF0 {P:Program}{w:World}{K:PySem.W.Frag}{mg:Str->Option Value}{base:Heap}{f:Addr}{fd:FuncData}{k:Nat}(hk:k<=12)(nl:NoList K)(F:FnOk P w K mg base CX0 k f fd Qe0 (spP lawT)):FnOk P w K mg base CX0 12 f fd ["script"] (mp0 K):=by
 refine(F.mono hk).imp fun vs H Q E h=> ?_
 obtain⟨l,ns,rfl,hO,hS,hl,q⟩:=h
 rcases hS with(hS|⟨o,hS⟩)|⟨o,its,n,lk,hc,_⟩
 ·rcases hO l with z|⟨o,xs,z⟩
  ·rw [z] at hS; cases hS
  ·rw [z] at hS; cases hS
 ·refine⟨fun b=>b=l,[scrT ns],false,.bl true,fun b hb=>⟨_,hb▸hS⟩,.cons (.scr rfl hS) .nil,rfl,fun F' v H' _ r=> ?_⟩
  have r:Rp F' H' v (.bl true):=r
  cases r
  exact q H'
 ·exact absurd hc (nl.at lk)
theorem walk {l:PySem.W.OpenLaw}{q:Program}{loose:List Str}{XP:(Str->Option Value)->Heap->Prop}{YP:World->Heap->Prop}{d:DefRec}{K:Params->PySem.W.Frag}(hn:l.most=some 63)(hdf:d.params.defaults=[])
  (hY:∀(w:World) (h:Heap),YP w h->(K w.params).In h)
  (F:∀(w:World) (mg:Str->Option Value) (fa:Addr) (h:Heap),(K w.params).In h->h.Ns mainGlobals mg->mg d.name=some (.ref fa)->
   ∃fd:FuncData,(∀(s:Shared) (u:Value),BindsTo s fd ⟨[u],[]⟩ [("script",u)])/\∀base:Heap,(K w.params).In base->base.Ns mainGlobals mg->FnOk l.prog w (K w.params) mg base CX0 12 fa fd ["script"] (mp0 (K w.params))):
  PySem.W.WalkO q loose XP YP l.row.toRowW d [] (fun f vs=>PySem.call f vs):=
 L2.walk_of (n:=63) (k:=12) (x:= "script") (CX:=fun _=>CX0) (sp:=fun w=>mp0 (K w.params)) hn (by decide) hdf ⟨rfl,by decide,by decide⟩ hY F (fun _ _ a ns hl hO hS=>⟨a,ns,rfl,hO,hS,hl,fun _=>rfl⟩) fun _ _ _ _ _ z=>z
theorem law_mk {l:PySem.W.OpenLaw}{w:World}{K:PySem.W.Frag}{h:Heap}{mg:Str->Option Value}{fa C CWeb f4:Addr}(X:K.In h)(G:h.Ns mainGlobals mg)(hfa:mg "law" =some (.ref fa))
  {od4 an4:Option Addr} {sl4:Array (Option Value)} {oc4 kV4 dc4 pm4 cd4 ct4:Value} (aC:PySem.W.nsIn K mainGlobals "Garden" =some (some (.ref C))) (aWeb:PySem.W.nsIn K mainGlobals "Web" =some (some (.ref CWeb)))
  (nl:NoList K) (T:Txt K mg C CWeb) (a:Ats K mg C CWeb)
  (a4:PySem.W.nsIn K mainGlobals "law" =some (some (.ref f4))) (l4:K.lookup f4=some ⟨oc4,od4,.func (PySem.W.fnOf "law" "law" (ch0 Y0) (bC0 Y0) (af0 Y0) .none kV4 dc4 pm4 an4 cd4 ct4),sl4⟩) (c4:PySem.W.codeIn K cd4 "law" =true) (k4:PySem.W.keepIn K (.ref f4)=true):
  ∃fd:FuncData,(∀(s:Shared) (v:Value),BindsTo s fd ⟨[v],[]⟩ [("script",v)])/\∀base:Heap,K.In base->base.Ns mainGlobals mg->FnOk l.prog w K mg base CX0 12 fa fd ["script"] (mp0 K):=by
 have e:=hfa.symm.trans (PySem.W.mg_of X G a4)
 cases e
 exact⟨PySem.W.fnOf "law" "law" (ch0 Y0) (bC0 Y0) (af0 Y0) .none kV4 dc4 pm4 an4 cd4 ct4,fun s v=> .of_eq rfl,fun base _ _=>pF0 (by decide:9<=12) nl (oI0 (er0 (st:=Y0) l4 c4 k4) T a)⟩
end Bed1
open PySem PySem.W PyProof.Rows
set_option Elab.async false
set_option maxRecDepth 100000 in
set_option maxHeartbeats 0 in
theorem PySem.Challenge.cw_bedround_k04_all_states_holds : PySem.Challenge.rw_bedround_k04_all_states.Holds := by
 w_on; o_law
 refine PySem.W.holds_open (r:=PySem.Challenge.rw_bedround_k04_all_states.row) (XP:=XL Bed1.qv []) (YP:=Hook.says (kHook Bed1.KK Bed1.KA Bed1.KE)) Bed1.HL (Hook.of (kHook Bed1.KK Bed1.KA Bed1.KE)) (Hook.keeps (kHook Bed1.KK Bed1.KA Bed1.KE)) (fun s e=>xl_of s (Bool.and_eq_true_iff.mp e).1) XL.keeps (by rfl) (by rfl) (by rfl) (fun s e=>recFacts_of (Bool.and_eq_true_iff.mp e).2) (by rfl) (by first|assumption|decide +kernel) (by decide +kernel) ⟨rfl,rfl,rfl,rfl,rfl,by decide +kernel⟩ ?hw ?hc
 (case hw=>w_witness2)
 k_fill
 refine Bed1.walk (l:=PySem.Challenge.rw_bedround_k04_all_states) rfl rfl (fun w h Y=>PySem.W.kIn_of Y) ?F
 case F=>
  intro w mg fa h KX G hmg
  refine' Bed1.law_mk KX G hmg ?aC ?aWeb ?nl ?T ?A ?a4 ?l4 ?c4 ?k4
  (case aC=>k_is)
  (case aWeb=>k_is)
  (case nl=>exact(show Bed1.NoList _ from rfl))
  case T=>
   refine' ⟨⟨?pg,?hd,?po,?sa⟩,Bed1.no_at ?Qs0,Bed1.no_at ?Js0,Bed1.no_at ?Ks0,Bed1.no_at ?Ws0,Bed1.no_at ?Vs0,Bed1.no_at ?Ys0,Bed1.no_at ?Xs0,Bed1.no_at ?zt0,⟨?pgWeb,?hdWeb,?poWeb,?saWeb⟩,Bed1.no_at ?Y9,Bed1.no_at ?Q1,Bed1.no_at ?y4,Bed1.no_at ?Kb0,Bed1.no_at ?Z4,PySem.W.mg_none_of KX G ?Ke0,PySem.W.mg_none_of KX G ?X9,PySem.W.mg_none_of KX G ?We0,PySem.W.mg_none_of KX G ?Ve0,PySem.W.mg_none_of KX G ?K0,PySem.W.mg_none_of KX G ?Z0,PySem.W.mg_none_of KX G ?Z2,PySem.W.mg_none_of KX G ?za0,PySem.W.mg_none_of KX G ?v8,PySem.W.mg_none_of KX G ?X0,PySem.W.mg_none_of KX G ?Ye0,PySem.W.mg_none_of KX G ?Xe0,PySem.W.mg_none_of KX G ?J0,PySem.W.mg_none_of KX G ?zf0,Bed1.int_at KX G ?qf0 ?e_MOST_BEDS,Bed1.int_at KX G ?Wb0 ?e_MOST_CHANGE,Bed1.int_at KX G ?jf0 ?e_MOST_CROPS,Bed1.int_at KX G ?kf0 ?e_MOST_GAP,Bed1.int_at KX G ?wf0 ?e_MOST_HARVEST,Bed1.int_at KX G ?vf0 ?e_MOST_TOP,Bed1.int_at KX G ?yf0 ?e_MOST_WANTED⟩
   (case qf0=>k_is); (case e_MOST_BEDS=>exact⟨_,rfl⟩)
   (case Wb0=>k_is); (case e_MOST_CHANGE=>exact⟨_,rfl⟩)
   (case jf0=>k_is); (case e_MOST_CROPS=>exact⟨_,rfl⟩)
   (case kf0=>k_is); (case e_MOST_GAP=>exact⟨_,rfl⟩)
   (case wf0=>k_is); (case e_MOST_HARVEST=>exact⟨_,rfl⟩)
   (case vf0=>k_is); (case e_MOST_TOP=>exact⟨_,rfl⟩)
   (case yf0=>k_is); (case e_MOST_WANTED=>exact⟨_,rfl⟩)
   (case pg=>k_is)
   (case hd=>k_is)
   (case po=>k_is)
   (case sa=>k_is)
   (case Qs0=>k_is)
   (case Js0=>k_is)
   (case Ks0=>k_is)
   (case Ws0=>k_is)
   (case Vs0=>k_is)
   (case Ys0=>k_is)
   (case Xs0=>k_is)
   (case zt0=>k_is)
   (case pgWeb=>k_is)
   (case hdWeb=>k_is)
   (case poWeb=>k_is)
   (case saWeb=>k_is)
   (case Y9=>k_is)
   (case Q1=>k_is)
   (case y4=>k_is)
   (case Kb0=>k_is)
   (case Z4=>k_is)
   (case Ke0=>k_is)
   (case X9=>k_is)
   (case We0=>k_is)
   (case Ve0=>k_is)
   (case K0=>k_is)
   (case Z0=>k_is)
   (case Z2=>k_is)
   (case za0=>k_is)
   (case v8=>k_is)
   (case X0=>k_is)
   (case Ye0=>k_is)
   (case Xe0=>k_is)
   (case J0=>k_is)
   (case zf0=>k_is)
  case A=>
   refine' ⟨Bed1.fun_at KX G ?is_withina ?is_withinl ?is_withinc ?is_withink Bed1.kq0,Bed1.fun_at KX G ?check_withina ?check_withinl ?check_withinc ?check_withink Bed1.wq0,Bed1.fun_at KX G ?check_bedsa ?check_bedsl ?check_bedsc ?check_bedsk Bed1.vq0,Bed1.fun_at KX G ?check_cropa ?check_cropl ?check_cropc ?check_cropk Bed1.yq0,Bed1.fun_at KX G ?check_namea ?check_namel ?check_namec ?check_namek Bed1.xq0,Bed1.fun_at KX G ?names_ofa ?names_ofl ?names_ofc ?names_ofk Bed1.hq0,Bed1.fun_at KX G ?check_cropsa ?check_cropsl ?check_cropsc ?check_cropsk Bed1.Zq0,Bed1.fun_at KX G ?check_wantsa ?check_wantsl ?check_wantsc ?check_wantsk Bed1.Qq0,Bed1.fun_at KX G ?numbers_ofa ?numbers_ofl ?numbers_ofc ?numbers_ofk Bed1.Jq0,Bed1.mak_at KX G ?Garden_initn ?Garden_initm ?Garden_initq ?Garden_inita ?Garden_initi ?Garden_initl ?Garden_initc ?Garden_initk Bed1.Kq0,Bed1.met_at ?Garden_starta ?Garden_starti ?Garden_startl ?Garden_startc ?Garden_startk Bed1.Wq0,Bed1.met_at ?Garden_letsa ?Garden_letsi ?Garden_letsl ?Garden_letsc ?Garden_letsk Bed1.Vq0,Bed1.met_at ?Garden_crops_fora ?Garden_crops_fori ?Garden_crops_forl ?Garden_crops_forc ?Garden_crops_fork Bed1.Yq0,Bed1.met_at ?Garden_meets_wantsa ?Garden_meets_wantsi ?Garden_meets_wantsl ?Garden_meets_wantsc ?Garden_meets_wantsk Bed1.Xq0,Bed1.fun_at KX G ?lengtheneda ?lengthenedl ?lengthenedc ?lengthenedk Bed1.zr0,Bed1.met_at ?Garden_maya ?Garden_mayi ?Garden_mayl ?Garden_mayc ?Garden_mayk Bed1.qr0,Bed1.met_at ?Garden_bed_behinda ?Garden_bed_behindi ?Garden_bed_behindl ?Garden_bed_behindc ?Garden_bed_behindk Bed1.jr0,Bed1.met_at ?Garden_beds_behinda ?Garden_beds_behindi ?Garden_beds_behindl ?Garden_beds_behindc ?Garden_beds_behindk Bed1.kr0,Bed1.fun_at KX G ?_law_cell_ata ?_law_cell_atl ?_law_cell_atc ?_law_cell_atk Bed1.wr0,Bed1.fun_at KX G ?_law_drawa ?_law_drawl ?_law_drawc ?_law_drawk Bed1.vr0,Bed1.fun_at KX G ?_law_bedsa ?_law_bedsl ?_law_bedsc ?_law_bedsk Bed1.yr0,Bed1.fun_at KX G ?_law_cropa ?_law_cropl ?_law_cropc ?_law_cropk Bed1.xr0,Bed1.fun_at KX G ?_law_wantsa ?_law_wantsl ?_law_wantsc ?_law_wantsk Bed1.Zr0,Bed1.fun_at KX G ?_law_gardena ?_law_gardenl ?_law_gardenc ?_law_gardenk Bed1.Qr0,Bed1.fun_at KX G ?_law_handeda ?_law_handedl ?_law_handedc ?_law_handedk Bed1.Jr0,Bed1.fun_at KX G ?_law_letsa ?_law_letsl ?_law_letsc ?_law_letsk Bed1.Kr0,Bed1.fun_at KX G ?_law_longera ?_law_longerl ?_law_longerc ?_law_longerk Bed1.Wr0,Bed1.fun_at KX G ?_law_wanteda ?_law_wantedl ?_law_wantedc ?_law_wantedk Bed1.Vr0,Bed1.fun_at KX G ?_law_maya ?_law_mayl ?_law_mayc ?_law_mayk Bed1.Yr0,Bed1.fun_at KX G ?_law_memorya ?_law_memoryl ?_law_memoryc ?_law_memoryk Bed1.Xr0,Bed1.fun_at KX G ?_law_behinda ?_law_behindl ?_law_behindc ?_law_behindk Bed1.zs0,Bed1.fun_at KX G ?_law_starta ?_law_startl ?_law_startc ?_law_startk Bed1.qs0,Bed1.met_at ?Web_number_ofa ?Web_number_ofi ?Web_number_ofl ?Web_number_ofc ?Web_number_ofk Bed1.js0,Bed1.met_at ?Web_worked_outa ?Web_worked_outi ?Web_worked_outl ?Web_worked_outc ?Web_worked_outk Bed1.ks0,Bed1.met_at ?Web_moves_ofa ?Web_moves_ofi ?Web_moves_ofl ?Web_moves_ofc ?Web_moves_ofk Bed1.ws0,Bed1.met_at ?Web_widena ?Web_wideni ?Web_widenl ?Web_widenc ?Web_widenk Bed1.vs0,Bed1.met_at ?Web_widen_fullya ?Web_widen_fullyi ?Web_widen_fullyl ?Web_widen_fullyc ?Web_widen_fullyk Bed1.ys0,Bed1.mak_at KX G ?Web_initn ?Web_initm ?Web_initq ?Web_inita ?Web_initi ?Web_initl ?Web_initc ?Web_initk Bed1.xs0,Bed1.fun_at KX G ?all_statesa ?all_statesl ?all_statesc ?all_statesk Bed1.hs0,Bed1.fun_at KX G ?_law_statesa ?_law_statesl ?_law_statesc ?_law_statesk Bed1.Zs0⟩
   (case is_withina=>k_is); (case is_withinl=>k_is); (case is_withinc=>k_is); (case is_withink=>k_is)
   (case check_withina=>k_is); (case check_withinl=>k_is); (case check_withinc=>k_is); (case check_withink=>k_is)
   (case check_bedsa=>k_is); (case check_bedsl=>k_is); (case check_bedsc=>k_is); (case check_bedsk=>k_is)
   (case check_cropa=>k_is); (case check_cropl=>k_is); (case check_cropc=>k_is); (case check_cropk=>k_is)
   (case check_namea=>k_is); (case check_namel=>k_is); (case check_namec=>k_is); (case check_namek=>k_is)
   (case names_ofa=>k_is); (case names_ofl=>k_is); (case names_ofc=>k_is); (case names_ofk=>k_is)
   (case check_cropsa=>k_is); (case check_cropsl=>k_is); (case check_cropsc=>k_is); (case check_cropsk=>k_is)
   (case check_wantsa=>k_is); (case check_wantsl=>k_is); (case check_wantsc=>k_is); (case check_wantsk=>k_is)
   (case numbers_ofa=>k_is); (case numbers_ofl=>k_is); (case numbers_ofc=>k_is); (case numbers_ofk=>k_is)
   (case Garden_initn=>k_is); (case Garden_initm=>k_is); (case Garden_initq=>k_is); (case Garden_inita=>k_is); (case Garden_initi=>k_is); (case Garden_initl=>k_is); (case Garden_initc=>k_is); (case Garden_initk=>k_is)
   (case Garden_starta=>k_is); (case Garden_starti=>k_is); (case Garden_startl=>k_is); (case Garden_startc=>k_is); (case Garden_startk=>k_is)
   (case Garden_letsa=>k_is); (case Garden_letsi=>k_is); (case Garden_letsl=>k_is); (case Garden_letsc=>k_is); (case Garden_letsk=>k_is)
   (case Garden_crops_fora=>k_is); (case Garden_crops_fori=>k_is); (case Garden_crops_forl=>k_is); (case Garden_crops_forc=>k_is); (case Garden_crops_fork=>k_is)
   (case Garden_meets_wantsa=>k_is); (case Garden_meets_wantsi=>k_is); (case Garden_meets_wantsl=>k_is); (case Garden_meets_wantsc=>k_is); (case Garden_meets_wantsk=>k_is)
   (case lengtheneda=>k_is); (case lengthenedl=>k_is); (case lengthenedc=>k_is); (case lengthenedk=>k_is)
   (case Garden_maya=>k_is); (case Garden_mayi=>k_is); (case Garden_mayl=>k_is); (case Garden_mayc=>k_is); (case Garden_mayk=>k_is)
   (case Garden_bed_behinda=>k_is); (case Garden_bed_behindi=>k_is); (case Garden_bed_behindl=>k_is); (case Garden_bed_behindc=>k_is); (case Garden_bed_behindk=>k_is)
   (case Garden_beds_behinda=>k_is); (case Garden_beds_behindi=>k_is); (case Garden_beds_behindl=>k_is); (case Garden_beds_behindc=>k_is); (case Garden_beds_behindk=>k_is)
   (case _law_cell_ata=>k_is); (case _law_cell_atl=>k_is); (case _law_cell_atc=>k_is); (case _law_cell_atk=>k_is)
   (case _law_drawa=>k_is); (case _law_drawl=>k_is); (case _law_drawc=>k_is); (case _law_drawk=>k_is)
   (case _law_bedsa=>k_is); (case _law_bedsl=>k_is); (case _law_bedsc=>k_is); (case _law_bedsk=>k_is)
   (case _law_cropa=>k_is); (case _law_cropl=>k_is); (case _law_cropc=>k_is); (case _law_cropk=>k_is)
   (case _law_wantsa=>k_is); (case _law_wantsl=>k_is); (case _law_wantsc=>k_is); (case _law_wantsk=>k_is)
   (case _law_gardena=>k_is); (case _law_gardenl=>k_is); (case _law_gardenc=>k_is); (case _law_gardenk=>k_is)
   (case _law_handeda=>k_is); (case _law_handedl=>k_is); (case _law_handedc=>k_is); (case _law_handedk=>k_is)
   (case _law_letsa=>k_is); (case _law_letsl=>k_is); (case _law_letsc=>k_is); (case _law_letsk=>k_is)
   (case _law_longera=>k_is); (case _law_longerl=>k_is); (case _law_longerc=>k_is); (case _law_longerk=>k_is)
   (case _law_wanteda=>k_is); (case _law_wantedl=>k_is); (case _law_wantedc=>k_is); (case _law_wantedk=>k_is)
   (case _law_maya=>k_is); (case _law_mayl=>k_is); (case _law_mayc=>k_is); (case _law_mayk=>k_is)
   (case _law_memorya=>k_is); (case _law_memoryl=>k_is); (case _law_memoryc=>k_is); (case _law_memoryk=>k_is)
   (case _law_behinda=>k_is); (case _law_behindl=>k_is); (case _law_behindc=>k_is); (case _law_behindk=>k_is)
   (case _law_starta=>k_is); (case _law_startl=>k_is); (case _law_startc=>k_is); (case _law_startk=>k_is)
   (case Web_number_ofa=>k_is); (case Web_number_ofi=>k_is); (case Web_number_ofl=>k_is); (case Web_number_ofc=>k_is); (case Web_number_ofk=>k_is)
   (case Web_worked_outa=>k_is); (case Web_worked_outi=>k_is); (case Web_worked_outl=>k_is); (case Web_worked_outc=>k_is); (case Web_worked_outk=>k_is)
   (case Web_moves_ofa=>k_is); (case Web_moves_ofi=>k_is); (case Web_moves_ofl=>k_is); (case Web_moves_ofc=>k_is); (case Web_moves_ofk=>k_is)
   (case Web_widena=>k_is); (case Web_wideni=>k_is); (case Web_widenl=>k_is); (case Web_widenc=>k_is); (case Web_widenk=>k_is)
   (case Web_widen_fullya=>k_is); (case Web_widen_fullyi=>k_is); (case Web_widen_fullyl=>k_is); (case Web_widen_fullyc=>k_is); (case Web_widen_fullyk=>k_is)
   (case Web_initn=>k_is); (case Web_initm=>k_is); (case Web_initq=>k_is); (case Web_inita=>k_is); (case Web_initi=>k_is); (case Web_initl=>k_is); (case Web_initc=>k_is); (case Web_initk=>k_is)
   (case all_statesa=>k_is); (case all_statesl=>k_is); (case all_statesc=>k_is); (case all_statesk=>k_is)
   (case _law_statesa=>k_is); (case _law_statesl=>k_is); (case _law_statesc=>k_is); (case _law_statesk=>k_is)
  (case a4=>k_is); (case l4=>k_is); (case c4=>k_is); (case k4=>k_is)
