import PyProof.Rows.All
import Wide.All
import OpenK.AllK
import Wide.FinOn
import PyProof.EqAt
import PyProof.EqKinds
import PyProof.TupleCall
import PyProof.NeKinds
import KE.KEqDict
import PySem.Challenge.RW_bedround_k02_gardens_refused
set_option Elab.async false
set_option linter.all false
set_option maxRecDepth 100000
namespace L2
open PySem PySem.Spec PyProof.Rows
def bK0 (s : Stmt) (j : Nat) : Stmt := match s with
 | .ClassDef _ _ _ body _ _ _ _ _ _ _ => body.getD j (.Pass ⟨0, 0, 0, 0⟩)
 | _ => .Pass ⟨0, 0, 0, 0⟩
def cq0 (s : Stmt) : Arguments := match s with
 | .FunctionDef _ a _ _ _ _ _ _ _ _ => a
 | _ => { posonlyargs := [], args := [], vararg := none, kwonlyargs := [], kw_defaults := [], kwarg := none, defaults := [] }
def bE0 (s : Stmt) : List Stmt := match s with
 | .FunctionDef _ _ b _ _ _ _ _ _ _ => b
 | _ => []
def ak0 (s : Stmt) : Scope := match s with
 | .FunctionDef _ _ _ _ _ _ sc _ _ _ => sc
 | _ => { kind := .function, names := [], isGenerator := false, isCoroutine := false }
end L2
namespace Bed1
open PySem PySem.W PyProof.Rows L2
def top (i : Nat) : Stmt := PySem.Challenge.pw_bedround_k02_gardens_refused.main.body.getD i (.Pass ⟨0, 0, 0, 0⟩)
abbrev Kr (n : Nat) : Value := .ref n
abbrev Ki (n : Nat) : Value := .int (Int.ofNat n) 0
abbrev Ks (x : String) (t : Nat) : Value := .str (.ofString x) t
abbrev Kp (t : Nat) : Value := Ks "/claim/cut.py" t
abbrev Ke (P : Params) (x : String) (t : Nat) (v : Value) : DictEntry := ⟨PyData.keyHash P (.ofString x), Ks x t, v⟩
abbrev Kt (l : Array Value) : Obj := ⟨.type "tuple", none, .seq l 0, #[]⟩
abbrev Kc (l : Array Value) : Obj := ⟨.type "code", none, .fields l, #[]⟩
abbrev Kd (l : Array DictEntry) (n : Nat) : Obj := ⟨.type "dict", none, .dict l n, #[]⟩
abbrev Kf (x q : Str) (st : Stmt) (m c : Value) : Obj := ⟨.type "function", none, .func (PySem.W.fnOf x q (cq0 st) (bE0 st) (ak0 st) .none .none .none m none c .none), #[]⟩
def KK : Params -> PySem.W.Frag := fun P => (nat_lit 2, ⟨.none, none, (.dict #[] 0), #[]⟩) ::
(nat_lit 3, Kd #[Ke P "__name__" 165 (Ks "law_bedround_k02_gardens_refused" 456), Ke P "__doc__" 166 .none, Ke P "__package__" 167 .none, Ke P "__loader__" 168 (.builtin "__main__.__loader__#opaque"), Ke P "__spec__" 169 .none, Ke P "__annotations__" 170 (Kr 6), Ke P "__builtins__" 171 (Kr 4), Ke P "__file__" 173 (Kp 172), Ke P "__cached__" 174 .none, Ke P "_wall" 193 (Kr 21), Ke P "BedError" 213 (Kr 31), Ke P "BadGarden" 229 (Kr 44), Ke P "NoPlanting" 245 (Kr 56), Ke P "MOST_BEDS" 249 (.int 3 248), Ke P "MOST_CROPS" 251 (.int 5 250), Ke P "MOST_TOP" 253 (.int 5 252), Ke P "MOST_CHANGE" 255 (.int 3 254), Ke P "MOST_HARVEST" 257 (.int 1000 256), Ke P "MOST_GAP" 259 (.int 3 258), Ke P "MOST_WANTED" 261 (.int 3 260), Ke P "is_within" 270 (Kr 65), Ke P "check_within" 280 (Kr 72), Ke P "check_name" 288 (Kr 79), Ke P "check_beds" 297 (Kr 86), Ke P "check_crop" 304 (Kr 93), Ke P "check_crops" 314 (Kr 100), Ke P "check_wants" 324 (Kr 107), Ke P "names_of" 330 (Kr 112), Ke P "numbers_of" 336 (Kr 117), Ke P "Garden" 455 (Kr 200), Ke P "_law_cell_at" 465 (Kr 211), Ke P "_law_draw" 473 (Kr 218), Ke P "_law_whole" 480 (Kr 225), Ke P "_law_crop" 494 (Kr 232), Ke P "_law_wants" 507 (Kr 239), Ke P "_law_garden" 513 (Kr 244), Ke P "_law_beds" 522 (Kr 251), Ke P "_law_handed" 528 (Kr 256), Ke P "_law_alone" 536 (Kr 263), Ke P "_law_bad_crop" 546 (Kr 270), Ke P "_law_spoiled" 552 (Kr 275), Ke P "_law_reached" 561 (Kr 282), Ke P "_law_made" 570 (Kr 289), Ke P "law" 583 (Kr 296)] 44) ::
(nat_lit 15, Kt #[]) ::
(nat_lit 17, Kt #[(Ks "k" 190)]) ::
(nat_lit 18, Kt #[]) ::
(nat_lit 20, Kc #[(Ks "_wall" 187), (Ks "_wall" 188), (Kp 189), (Ki 1), (Ki 1), (Ki 0), (Ki 0), (Ki 3), (Kr 15), (.bool true), (Ki 181), (Kr 16), .none, (Kr 17), (Kr 18), (Kr 19), (Ki 191), (Ki 1), (Kp 192)]) ::
(nat_lit 21, Kf "_wall" "_wall" (top 0) (Ks "__main__" 164) (Kr 20)) ::
(nat_lit 22, Kt #[(.type "ValueError")]) ::
(nat_lit 29, Kt #[]) ::
(nat_lit 30, Kd #[Ke P "__module__" 203 (Ks "bedround.errors" 194), Ke P "__firstlineno__" 207 (.int 5 206), Ke P "__static_attributes__" 208 (Kr 29), Ke P "__weakref__" 210 (Kr 32), Ke P "__doc__" 211 .none] 3) ::
(nat_lit 31, ⟨(.type "type"), none, (.cls ⟨"BedError", [(.type "ValueError")], [(Kr 31), (.type "ValueError"), (.type "Exception"), (.type "BaseException"), (.type "object")], 30, "BedError", true, [], [(Kr 44), (Kr 56)], false, none, false⟩), #[(some (Kr 22)), none, (some (Ks "BedError" 196)), (some (Ks "BedError" 204)), (some (.builtin "ValueError.__new__")), (some (.bool true))]⟩) ::
(nat_lit 32, ⟨(.type "getset_descriptor"), none, (.fields #[(Ks "__weakref__" 209), (Kr 31), (.builtin "ExceptionGroup.__weakref__"), .none]), #[]⟩) ::
(nat_lit 35, Kt #[(Kr 31)]) ::
(nat_lit 42, Kt #[]) ::
(nat_lit 43, Kd #[Ke P "__module__" 221 (Ks "bedround.errors" 194), Ke P "__firstlineno__" 225 (.int 7 224), Ke P "__static_attributes__" 226 (Kr 42), Ke P "__doc__" 227 .none] 2) ::
(nat_lit 44, ⟨(.type "type"), none, (.cls ⟨"BadGarden", [(Kr 31)], [(Kr 44), (Kr 31), (.type "ValueError"), (.type "Exception"), (.type "BaseException"), (.type "object")], 43, "BadGarden", true, [], [], false, none, false⟩), #[(some (Kr 35)), none, (some (Ks "BadGarden" 214)), (some (Ks "BadGarden" 222)), (some (.builtin "ValueError.__new__")), (some (.bool true))]⟩) ::
(nat_lit 47, Kt #[(Kr 31)]) ::
(nat_lit 54, Kt #[]) ::
(nat_lit 55, Kd #[Ke P "__module__" 237 (Ks "bedround.errors" 194), Ke P "__firstlineno__" 241 (.int 9 240), Ke P "__static_attributes__" 242 (Kr 54), Ke P "__doc__" 243 .none] 2) ::
(nat_lit 56, ⟨(.type "type"), none, (.cls ⟨"NoPlanting", [(Kr 31)], [(Kr 56), (Kr 31), (.type "ValueError"), (.type "Exception"), (.type "BaseException"), (.type "object")], 55, "NoPlanting", true, [], [], false, none, false⟩), #[(some (Kr 47)), none, (some (Ks "NoPlanting" 230)), (some (Ks "NoPlanting" 238)), (some (.builtin "ValueError.__new__")), (some (.bool true))]⟩) ::
(nat_lit 59, Kt #[]) ::
(nat_lit 61, Kt #[(Ks "value" 265), (Ks "least" 266), (Ks "most" 267)]) ::
(nat_lit 62, Kt #[]) ::
(nat_lit 64, Kc #[(Ks "is_within" 262), (Ks "is_within" 263), (Kp 264), (Ki 19), (Ki 3), (Ki 0), (Ki 0), (Ki 3), (Kr 59), (.bool true), (Ki 181), (Kr 60), .none, (Kr 61), (Kr 62), (Kr 63), (Ki 268), (Ki 19), (Kp 269)]) ::
(nat_lit 65, Kf "is_within" "is_within" (top 13) (Ks "bedround.gardens" 246) (Kr 64)) ::
(nat_lit 66, Kt #[]) ::
(nat_lit 68, Kt #[(Ks "value" 274), (Ks "least" 275), (Ks "most" 276), (Ks "what" 277)]) ::
(nat_lit 69, Kt #[]) ::
(nat_lit 71, Kc #[(Ks "check_within" 271), (Ks "check_within" 272), (Kp 273), (Ki 23), (Ki 4), (Ki 0), (Ki 0), (Ki 3), (Kr 66), (.bool true), (Ki 181), (Kr 67), .none, (Kr 68), (Kr 69), (Kr 70), (Ki 278), (Ki 23), (Kp 279)]) ::
(nat_lit 72, Kf "check_within" "check_within" (top 14) (Ks "bedround.gardens" 246) (Kr 71)) ::
(nat_lit 73, Kt #[]) ::
(nat_lit 75, Kt #[(Ks "name" 284), (Ks "names" 285)]) ::
(nat_lit 76, Kt #[]) ::
(nat_lit 78, Kc #[(Ks "check_name" 281), (Ks "check_name" 282), (Kp 283), (Ki 26), (Ki 2), (Ki 0), (Ki 0), (Ki 3), (Kr 73), (.bool true), (Ki 181), (Kr 74), .none, (Kr 75), (Kr 76), (Kr 77), (Ki 286), (Ki 26), (Kp 287)]) ::
(nat_lit 79, Kf "check_name" "check_name" (top 15) (Ks "bedround.gardens" 246) (Kr 78)) ::
(nat_lit 80, Kt #[]) ::
(nat_lit 82, Kt #[(Ks "soils" 292), (Ks "top" 293), (Ks "soil" 294)]) ::
(nat_lit 83, Kt #[]) ::
(nat_lit 85, Kc #[(Ks "check_beds" 289), (Ks "check_beds" 290), (Kp 291), (Ki 29), (Ki 2), (Ki 0), (Ki 0), (Ki 3), (Kr 80), (.bool true), (Ki 181), (Kr 81), .none, (Kr 82), (Kr 83), (Kr 84), (Ki 295), (Ki 29), (Kp 296)]) ::
(nat_lit 86, Kf "check_beds" "check_beds" (top 16) (Ks "bedround.gardens" 246) (Kr 85)) ::
(nat_lit 87, Kt #[]) ::
(nat_lit 89, Kt #[(Ks "crop" 301)]) ::
(nat_lit 90, Kt #[]) ::
(nat_lit 92, Kc #[(Ks "check_crop" 298), (Ks "check_crop" 299), (Kp 300), (Ki 36), (Ki 1), (Ki 0), (Ki 0), (Ki 3), (Kr 87), (.bool true), (Ki 181), (Kr 88), .none, (Kr 89), (Kr 90), (Kr 91), (Ki 302), (Ki 36), (Kp 303)]) ::
(nat_lit 93, Kf "check_crop" "check_crop" (top 17) (Ks "bedround.gardens" 246) (Kr 92)) ::
(nat_lit 94, Kt #[]) ::
(nat_lit 96, Kt #[(Ks "crops" 308), (Ks "crop" 309), (Ks "names" 310), (Ks "name" 311)]) ::
(nat_lit 97, Kt #[]) ::
(nat_lit 99, Kc #[(Ks "check_crops" 305), (Ks "check_crops" 306), (Kp 307), (Ki 46), (Ki 1), (Ki 0), (Ki 0), (Ki 3), (Kr 94), (.bool true), (Ki 181), (Kr 95), .none, (Kr 96), (Kr 97), (Kr 98), (Ki 312), (Ki 46), (Kp 313)]) ::
(nat_lit 100, Kf "check_crops" "check_crops" (top 18) (Ks "bedround.gardens" 246) (Kr 99)) ::
(nat_lit 101, Kt #[]) ::
(nat_lit 103, Kt #[(Ks "wants" 318), (Ks "names" 319), (Ks "name" 320), (Ks "pair" 321)]) ::
(nat_lit 104, Kt #[]) ::
(nat_lit 106, Kc #[(Ks "check_wants" 315), (Ks "check_wants" 316), (Kp 317), (Ki 58), (Ki 2), (Ki 0), (Ki 0), (Ki 3), (Kr 101), (.bool true), (Ki 181), (Kr 102), .none, (Kr 103), (Kr 104), (Kr 105), (Ki 322), (Ki 58), (Kp 323)]) ::
(nat_lit 107, Kf "check_wants" "check_wants" (top 19) (Ks "bedround.gardens" 246) (Kr 106)) ::
(nat_lit 108, Kt #[]) ::
(nat_lit 111, Kc #[(Ks "names_of" 325), (Ks "names_of" 326), (Kp 327), (Ki 67), (Ki 1), (Ki 0), (Ki 0), (Ki 3), (Kr 108), (.bool true), (Ki 181), (Kr 109), .none, .none, .none, (Kr 110), (Ki 328), (Ki 67), (Kp 329)]) ::
(nat_lit 112, Kf "names_of" "names_of" (top 20) (Ks "bedround.gardens" 246) (Kr 111)) ::
(nat_lit 113, Kt #[]) ::
(nat_lit 116, Kc #[(Ks "numbers_of" 331), (Ks "numbers_of" 332), (Kp 333), (Ki 69), (Ki 2), (Ki 0), (Ki 0), (Ki 3), (Kr 113), (.bool true), (Ki 181), (Kr 114), .none, .none, .none, (Kr 115), (Ki 334), (Ki 69), (Kp 335)]) ::
(nat_lit 117, Kf "numbers_of" "numbers_of" (top 21) (Ks "bedround.gardens" 246) (Kr 116)) ::
(nat_lit 125, Kt #[]) ::
(nat_lit 128, Kc #[(Ks "__init__" 349), (Ks "Garden.__init__" 350), (Kp 351), (Ki 73), (Ki 5), (Ki 0), (Ki 0), (Ki 3), (Kr 125), (.bool true), (Ki 181), (Kr 126), .none, .none, .none, (Kr 127), (Ki 352), (Ki 73), (Kp 353)]) ::
(nat_lit 129, Kf "__init__" "Garden.__init__" (bK0 (top 22) 0) (Ks "bedround.gardens" 246) (Kr 128)) ::
(nat_lit 130, Kt #[]) ::
(nat_lit 132, Kt #[(Ks "self" 358)]) ::
(nat_lit 133, Kt #[]) ::
(nat_lit 135, Kc #[(Ks "start" 355), (Ks "Garden.start" 356), (Kp 357), (Ki 87), (Ki 1), (Ki 0), (Ki 0), (Ki 3), (Kr 130), (.bool true), (Ki 181), (Kr 131), .none, (Kr 132), (Kr 133), (Kr 134), (Ki 359), (Ki 87), (Kp 360)]) ::
(nat_lit 136, Kf "start" "Garden.start" (bK0 (top 22) 1) (Ks "bedround.gardens" 246) (Kr 135)) ::
(nat_lit 137, Kt #[]) ::
(nat_lit 139, Kt #[(Ks "self" 365), (Ks "state" 366)]) ::
(nat_lit 140, Kt #[]) ::
(nat_lit 142, Kc #[(Ks "may" 362), (Ks "Garden.may" 363), (Kp 364), (Ki 90), (Ki 2), (Ki 0), (Ki 0), (Ki 3), (Kr 137), (.bool true), (Ki 181), (Kr 138), .none, (Kr 139), (Kr 140), (Kr 141), (Ki 367), (Ki 90), (Kp 368)]) ::
(nat_lit 143, Kf "may" "Garden.may" (bK0 (top 22) 2) (Ks "bedround.gardens" 246) (Kr 142)) ::
(nat_lit 144, Kt #[]) ::
(nat_lit 146, Kt #[(Ks "self" 373), (Ks "state" 374), (Ks "planting" 375)]) ::
(nat_lit 147, Kt #[]) ::
(nat_lit 149, Kc #[(Ks "behind" 370), (Ks "Garden.behind" 371), (Kp 372), (Ki 93), (Ki 3), (Ki 0), (Ki 0), (Ki 3), (Kr 144), (.bool true), (Ki 181), (Kr 145), .none, (Kr 146), (Kr 147), (Kr 148), (Ki 376), (Ki 93), (Kp 377)]) ::
(nat_lit 150, Kf "behind" "Garden.behind" (bK0 (top 22) 3) (Ks "bedround.gardens" 246) (Kr 149)) ::
(nat_lit 151, Kt #[]) ::
(nat_lit 154, Kc #[(Ks "harvest" 379), (Ks "Garden.harvest" 380), (Kp 381), (Ki 96), (Ki 2), (Ki 0), (Ki 0), (Ki 3), (Kr 151), (.bool true), (Ki 181), (Kr 152), .none, .none, .none, (Kr 153), (Ki 382), (Ki 96), (Kp 383)]) ::
(nat_lit 155, Kf "harvest" "Garden.harvest" (bK0 (top 22) 4) (Ks "bedround.gardens" 246) (Kr 154)) ::
(nat_lit 156, Kt #[]) ::
(nat_lit 158, Kt #[(Ks "self" 388), (Ks "soil" 389), (Ks "stood" 390)]) ::
(nat_lit 159, Kt #[]) ::
(nat_lit 161, Kc #[(Ks "crops_for" 385), (Ks "Garden.crops_for" 386), (Kp 387), (Ki 99), (Ki 3), (Ki 0), (Ki 0), (Ki 3), (Kr 156), (.bool true), (Ki 181), (Kr 157), .none, (Kr 158), (Kr 159), (Kr 160), (Ki 391), (Ki 99), (Kp 392)]) ::
(nat_lit 162, Kf "crops_for" "Garden.crops_for" (bK0 (top 22) 5) (Ks "bedround.gardens" 246) (Kr 161)) ::
(nat_lit 163, Kt #[]) ::
(nat_lit 165, Kt #[(Ks "self" 397), (Ks "soil" 398), (Ks "stood" 399), (Ks "crop" 400)]) ::
(nat_lit 166, Kt #[]) ::
(nat_lit 168, Kc #[(Ks "lets" 394), (Ks "Garden.lets" 395), (Kp 396), (Ki 102), (Ki 4), (Ki 0), (Ki 0), (Ki 3), (Kr 163), (.bool true), (Ki 181), (Kr 164), .none, (Kr 165), (Kr 166), (Kr 167), (Ki 401), (Ki 102), (Kp 402)]) ::
(nat_lit 169, Kf "lets" "Garden.lets" (bK0 (top 22) 6) (Ks "bedround.gardens" 246) (Kr 168)) ::
(nat_lit 170, Kt #[]) ::
(nat_lit 172, Kt #[(Ks "self" 407), (Ks "planting" 408)]) ::
(nat_lit 173, Kt #[]) ::
(nat_lit 175, Kc #[(Ks "meets_wants" 404), (Ks "Garden.meets_wants" 405), (Kp 406), (Ki 105), (Ki 2), (Ki 0), (Ki 0), (Ki 3), (Kr 170), (.bool true), (Ki 181), (Kr 171), .none, (Kr 172), (Kr 173), (Kr 174), (Ki 409), (Ki 105), (Kp 410)]) ::
(nat_lit 176, Kf "meets_wants" "Garden.meets_wants" (bK0 (top 22) 7) (Ks "bedround.gardens" 246) (Kr 175)) ::
(nat_lit 177, Kt #[]) ::
(nat_lit 179, Kt #[(Ks "self" 415), (Ks "state" 416), (Ks "planting" 417)]) ::
(nat_lit 180, Kt #[]) ::
(nat_lit 182, Kc #[(Ks "fits" 412), (Ks "Garden.fits" 413), (Kp 414), (Ki 108), (Ki 3), (Ki 0), (Ki 0), (Ki 3), (Kr 177), (.bool true), (Ki 181), (Kr 178), .none, (Kr 179), (Kr 180), (Kr 181), (Ki 418), (Ki 108), (Kp 419)]) ::
(nat_lit 183, Kf "fits" "Garden.fits" (bK0 (top 22) 8) (Ks "bedround.gardens" 246) (Kr 182)) ::
(nat_lit 184, Kt #[]) ::
(nat_lit 186, Kt #[(Ks "self" 424), (Ks "state" 425), (Ks "planting" 426)]) ::
(nat_lit 187, Kt #[]) ::
(nat_lit 189, Kc #[(Ks "beds_behind" 421), (Ks "Garden.beds_behind" 422), (Kp 423), (Ki 111), (Ki 3), (Ki 0), (Ki 0), (Ki 3), (Kr 184), (.bool true), (Ki 181), (Kr 185), .none, (Kr 186), (Kr 187), (Kr 188), (Ki 427), (Ki 111), (Kp 428)]) ::
(nat_lit 190, Kf "beds_behind" "Garden.beds_behind" (bK0 (top 22) 9) (Ks "bedround.gardens" 246) (Kr 189)) ::
(nat_lit 191, Kt #[]) ::
(nat_lit 193, Kt #[(Ks "self" 433), (Ks "soil" 434), (Ks "stood" 435), (Ks "crop" 436)]) ::
(nat_lit 194, Kt #[]) ::
(nat_lit 196, Kc #[(Ks "bed_behind" 430), (Ks "Garden.bed_behind" 431), (Kp 432), (Ki 114), (Ki 4), (Ki 0), (Ki 0), (Ki 3), (Kr 191), (.bool true), (Ki 181), (Kr 192), .none, (Kr 193), (Kr 194), (Kr 195), (Ki 437), (Ki 114), (Kp 438)]) ::
(nat_lit 197, Kf "bed_behind" "Garden.bed_behind" (bK0 (top 22) 10) (Ks "bedround.gardens" 246) (Kr 196)) ::
(nat_lit 198, Kt #[(Ks "bars" 440), (Ks "changes" 441), (Ks "depth" 442), (Ks "gaps" 443), (Ks "harvests" 444), (Ks "soils" 445), (Ks "top" 446), (Ks "wants" 447)]) ::
(nat_lit 199, Kd #[Ke P "__module__" 344 (Ks "bedround.gardens" 246), Ke P "__firstlineno__" 348 (.int 71 347), Ke P "__init__" 354 (Kr 129), Ke P "start" 361 (Kr 136), Ke P "may" 369 (Kr 143), Ke P "behind" 378 (Kr 150), Ke P "harvest" 384 (Kr 155), Ke P "crops_for" 393 (Kr 162), Ke P "lets" 403 (Kr 169), Ke P "meets_wants" 411 (Kr 176), Ke P "fits" 420 (Kr 183), Ke P "beds_behind" 429 (Kr 190), Ke P "bed_behind" 439 (Kr 197), Ke P "__static_attributes__" 448 (Kr 198), Ke P "__dict__" 450 (Kr 201), Ke P "__weakref__" 452 (Kr 202), Ke P "__doc__" 453 .none] 4) ::
(nat_lit 200, ⟨(.type "type"), none, (.cls ⟨"Garden", [(.type "object")], [(Kr 200), (.type "object")], 199, "Garden", true, [], [], false, none, false⟩), #[none, none, (some (Ks "Garden" 337)), (some (Ks "Garden" 345)), (some (.builtin "object.__new__")), (some (.bool true))]⟩) ::
(nat_lit 201, ⟨(.type "getset_descriptor"), none, (.fields #[(Ks "__dict__" 449), (Kr 200), (.builtin "function.__dict__"), (.builtin "function.__dict__#set")]), #[]⟩) ::
(nat_lit 202, ⟨(.type "getset_descriptor"), none, (.fields #[(Ks "__weakref__" 451), (Kr 200), (.builtin "ExceptionGroup.__weakref__"), .none]), #[]⟩) ::
(nat_lit 205, Kt #[]) ::
(nat_lit 207, Kt #[(Ks "script" 461), (Ks "k" 462)]) ::
(nat_lit 208, Kt #[]) ::
(nat_lit 210, Kc #[(Ks "_law_cell_at" 458), (Ks "_law_cell_at" 459), (Kp 460), (Ki 117), (Ki 2), (Ki 0), (Ki 0), (Ki 3), (Kr 205), (.bool true), (Ki 181), (Kr 206), .none, (Kr 207), (Kr 208), (Kr 209), (Ki 463), (Ki 117), (Kp 464)]) ::
(nat_lit 211, Kf "_law_cell_at" "_law_cell_at" (top 24) (Ks "law_bedround_k02_gardens_refused" 456) (Kr 210)) ::
(nat_lit 212, Kt #[]) ::
(nat_lit 214, Kt #[(Ks "script" 469), (Ks "k" 470)]) ::
(nat_lit 215, Kt #[]) ::
(nat_lit 217, Kc #[(Ks "_law_draw" 466), (Ks "_law_draw" 467), (Kp 468), (Ki 121), (Ki 2), (Ki 0), (Ki 0), (Ki 3), (Kr 212), (.bool true), (Ki 181), (Kr 213), .none, (Kr 214), (Kr 215), (Kr 216), (Ki 471), (Ki 121), (Kp 472)]) ::
(nat_lit 218, Kf "_law_draw" "_law_draw" (top 25) (Ks "law_bedround_k02_gardens_refused" 456) (Kr 217)) ::
(nat_lit 226, Kt #[]) ::
(nat_lit 228, Kt #[(Ks "script" 484), (Ks "k" 485), (Ks "names" 486), (Ks "gaps" 487), (Ks "bars" 488), (Ks "j" 489), (Ks "harvest" 490), (Ks "change" 491)]) ::
(nat_lit 229, Kt #[]) ::
(nat_lit 231, Kc #[(Ks "_law_crop" 481), (Ks "_law_crop" 482), (Kp 483), (Ki 125), (Ki 4), (Ki 0), (Ki 0), (Ki 3), (Kr 226), (.bool true), (Ki 181), (Kr 227), .none, (Kr 228), (Kr 229), (Kr 230), (Ki 492), (Ki 125), (Kp 493)]) ::
(nat_lit 232, Kf "_law_crop" "_law_crop" (top 27) (Ks "law_bedround_k02_gardens_refused" 456) (Kr 231)) ::
(nat_lit 233, Kt #[]) ::
(nat_lit 235, Kt #[(Ks "script" 498), (Ks "names" 499), (Ks "beds" 500), (Ks "wants" 501), (Ks "k" 502), (Ks "cell" 503), (Ks "least" 504)]) ::
(nat_lit 236, Kt #[]) ::
(nat_lit 238, Kc #[(Ks "_law_wants" 495), (Ks "_law_wants" 496), (Kp 497), (Ki 133), (Ki 3), (Ki 0), (Ki 0), (Ki 3), (Kr 233), (.bool true), (Ki 181), (Kr 234), .none, (Kr 235), (Kr 236), (Kr 237), (Ki 505), (Ki 133), (Kp 506)]) ::
(nat_lit 239, Kf "_law_wants" "_law_wants" (top 28) (Ks "law_bedround_k02_gardens_refused" 456) (Kr 238)) ::
(nat_lit 240, Kt #[]) ::
(nat_lit 243, Kc #[(Ks "_law_garden" 508), (Ks "_law_garden" 509), (Kp 510), (Ki 141), (Ki 2), (Ki 0), (Ki 0), (Ki 3), (Kr 240), (.bool true), (Ki 181), (Kr 241), .none, .none, .none, (Kr 242), (Ki 511), (Ki 141), (Kp 512)]) ::
(nat_lit 244, Kf "_law_garden" "_law_garden" (top 29) (Ks "law_bedround_k02_gardens_refused" 456) (Kr 243)) ::
(nat_lit 245, Kt #[]) ::
(nat_lit 247, Kt #[(Ks "script" 517), (Ks "most" 518), (Ks "cell" 519)]) ::
(nat_lit 248, Kt #[]) ::
(nat_lit 250, Kc #[(Ks "_law_beds" 514), (Ks "_law_beds" 515), (Kp 516), (Ki 156), (Ki 2), (Ki 0), (Ki 0), (Ki 3), (Kr 245), (.bool true), (Ki 181), (Kr 246), .none, (Kr 247), (Kr 248), (Kr 249), (Ki 520), (Ki 156), (Kp 521)]) ::
(nat_lit 251, Kf "_law_beds" "_law_beds" (top 30) (Ks "law_bedround_k02_gardens_refused" 456) (Kr 250)) ::
(nat_lit 252, Kt #[]) ::
(nat_lit 255, Kc #[(Ks "_law_handed" 523), (Ks "_law_handed" 524), (Kp 525), (Ki 163), (Ki 1), (Ki 0), (Ki 0), (Ki 3), (Kr 252), (.bool true), (Ki 181), (Kr 253), .none, .none, .none, (Kr 254), (Ki 526), (Ki 163), (Kp 527)]) ::
(nat_lit 256, Kf "_law_handed" "_law_handed" (top 31) (Ks "law_bedround_k02_gardens_refused" 456) (Kr 255)) ::
(nat_lit 257, Kt #[]) ::
(nat_lit 259, Kt #[(Ks "e" 532), (Ks "found" 533)]) ::
(nat_lit 260, Kt #[]) ::
(nat_lit 262, Kc #[(Ks "_law_alone" 529), (Ks "_law_alone" 530), (Kp 531), (Ki 166), (Ki 1), (Ki 0), (Ki 0), (Ki 3), (Kr 257), (.bool true), (Ki 181), (Kr 258), .none, (Kr 259), (Kr 260), (Kr 261), (Ki 534), (Ki 166), (Kp 535)]) ::
(nat_lit 263, Kf "_law_alone" "_law_alone" (top 32) (Ks "law_bedround_k02_gardens_refused" 456) (Kr 262)) ::
(nat_lit 264, Kt #[]) ::
(nat_lit 266, Kt #[(Ks "crop" 540), (Ks "way" 541), (Ks "far" 542), (Ks "row" 543)]) ::
(nat_lit 267, Kt #[]) ::
(nat_lit 269, Kc #[(Ks "_law_bad_crop" 537), (Ks "_law_bad_crop" 538), (Kp 539), (Ki 171), (Ki 3), (Ki 0), (Ki 0), (Ki 3), (Kr 264), (.bool true), (Ki 181), (Kr 265), .none, (Kr 266), (Kr 267), (Kr 268), (Ki 544), (Ki 171), (Kp 545)]) ::
(nat_lit 270, Kf "_law_bad_crop" "_law_bad_crop" (top 33) (Ks "law_bedround_k02_gardens_refused" 456) (Kr 269)) ::
(nat_lit 271, Kt #[]) ::
(nat_lit 274, Kc #[(Ks "_law_spoiled" 547), (Ks "_law_spoiled" 548), (Kp 549), (Ki 184), (Ki 3), (Ki 0), (Ki 0), (Ki 3), (Kr 271), (.bool true), (Ki 181), (Kr 272), .none, .none, .none, (Kr 273), (Ki 550), (Ki 184), (Kp 551)]) ::
(nat_lit 275, Kf "_law_spoiled" "_law_spoiled" (top 34) (Ks "law_bedround_k02_gardens_refused" 456) (Kr 274)) ::
(nat_lit 276, Kt #[]) ::
(nat_lit 278, Kt #[(Ks "way" 556), (Ks "crops" 557), (Ks "some" 558)]) ::
(nat_lit 279, Kt #[]) ::
(nat_lit 281, Kc #[(Ks "_law_reached" 553), (Ks "_law_reached" 554), (Kp 555), (Ki 217), (Ki 1), (Ki 0), (Ki 0), (Ki 3), (Kr 276), (.bool true), (Ki 181), (Kr 277), .none, (Kr 278), (Kr 279), (Kr 280), (Ki 559), (Ki 217), (Kp 560)]) ::
(nat_lit 282, Kf "_law_reached" "_law_reached" (top 35) (Ks "law_bedround_k02_gardens_refused" 456) (Kr 281)) ::
(nat_lit 283, Kt #[]) ::
(nat_lit 285, Kt #[(Ks "told" 565), (Ks "found" 566), (Ks "e" 567)]) ::
(nat_lit 286, Kt #[]) ::
(nat_lit 288, Kc #[(Ks "_law_made" 562), (Ks "_law_made" 563), (Kp 564), (Ki 223), (Ki 1), (Ki 0), (Ki 0), (Ki 3), (Kr 283), (.bool true), (Ki 181), (Kr 284), .none, (Kr 285), (Kr 286), (Kr 287), (Ki 568), (Ki 223), (Kp 569)]) ::
(nat_lit 289, Kf "_law_made" "_law_made" (top 36) (Ks "law_bedround_k02_gardens_refused" 456) (Kr 288)) ::
(nat_lit 290, Kt #[]) ::
(nat_lit 292, Kt #[(Ks "script" 574), (Ks "plot" 575), (Ks "way" 576), (Ks "told" 577), (Ks "kept" 578), (Ks "turn" 579), (Ks "found" 580)]) ::
(nat_lit 293, Kt #[]) ::
(nat_lit 295, Kc #[(Ks "law" 571), (Ks "law" 572), (Kp 573), (Ki 230), (Ki 1), (Ki 0), (Ki 0), (Ki 3), (Kr 290), (.bool true), (Ki 181), (Kr 291), .none, (Kr 292), (Kr 293), (Kr 294), (Ki 581), (Ki 230), (Kp 582)]) ::
(nat_lit 296, Kf "law" "law" (top 37) (Ks "law_bedround_k02_gardens_refused" 456) (Kr 295)) :: []
def KA : List Nat := [2, 3, 15, 17, 18, 20, 21, 22, 29, 30, 31, 32, 35, 42, 43, 44, 47, 54, 55, 56, 59, 61, 62, 64, 65, 66, 68, 69, 71, 72, 73, 75, 76, 78, 79, 80, 82, 83, 85, 86, 87, 89, 90, 92, 93, 94, 96, 97, 99, 100, 101, 103, 104, 106, 107, 108, 111, 112, 113, 116, 117, 125, 128, 129, 130, 132, 133, 135, 136, 137, 139, 140, 142, 143, 144, 146, 147, 149, 150, 151, 154, 155, 156, 158, 159, 161, 162, 163, 165, 166, 168, 169, 170, 172, 173, 175, 176, 177, 179, 180, 182, 183, 184, 186, 187, 189, 190, 191, 193, 194, 196, 197, 198, 199, 200, 201, 202, 205, 207, 208, 210, 211, 212, 214, 215, 217, 218, 226, 228, 229, 231, 232, 233, 235, 236, 238, 239, 240, 243, 244, 245, 247, 248, 250, 251, 252, 255, 256, 257, 259, 260, 262, 263, 264, 266, 267, 269, 270, 271, 274, 275, 276, 278, 279, 281, 282, 283, 285, 286, 288, 289, 290, 292, 293, 295, 296]
theorem KE (P : Params) : KA = (KK P).map (·.1) := by kernel_rfl
def qv : Program := { PySem.Challenge.pw_bedround_k02_gardens_refused with main := { PySem.Challenge.pw_bedround_k02_gardens_refused.main with body := [top 0, top 2, top 3, top 4, top 6, top 7, top 8, top 9, top 10, top 11, top 12, top 13, top 14, top 15, top 16, top 17, top 18, top 19, top 20, top 21, top 22, top 24, top 25, top 26, top 27, top 28, top 29, top 30, top 31, top 32, top 33, top 34, top 35, top 36, top 37] } }
theorem HL : PySem.W.LeftO (PySem.Challenge.rw_bedround_k02_gardens_refused.row).prog qv [] (fun s => PySem.W.xlAt qv [] s && PySem.W.recOk (RowW.records (PySem.Challenge.rw_bedround_k02_gardens_refused.row).toRowW) s) (PySem.W.Hook.obs (PySem.W.kHook KK KA KE)) (PySem.W.Hook.val (PySem.W.kHook KK KA KE)) 4078 := by
 intro w
 kernel_rfl
end Bed1
namespace L2
open PySem PySem.Spec PyProof.Rows
abbrev Key := Sum Int Str
def hP0 : Key -> Value -> Bool
 | .inl k, v => Value.isInt k v
 | .inr x, v => Value.isStrOf x v
def keyH (w : World) : Key -> Int
 | .inl k => hashInt k
 | .inr x => hashStr w x
theorem aH0 : ∀ {k : Key} {v : Value}, hP0 k v = true -> (∃ i t, k = Sum.inl i /\ v = Value.int i t) \/ (∃ x t, k = Sum.inr x /\ v = Value.str x t)
 | .inl i, v, h => by
  obtain ⟨t, e⟩ := Value.isInt_shape (k := i) (v := v) h
  exact .inl ⟨i, t, rfl, e⟩
 | .inr x, v, h => by
  obtain ⟨t, e⟩ := Value.isStrOf_shape (x := x) (v := v) h
  exact .inr ⟨x, t, rfl, e⟩
theorem iI0 (i : Int) (t : Tok) : hP0 (.inl i) (.int i t) = true := by simp [hP0, Value.isInt]
theorem ir0 (x : Str) (t : Tok) : hP0 (.inr x) (.str x t) = true := by simp [hP0, Value.isStrOf]
theorem ny0 (a b : Int) : decide ((Sum.inl a : Key) = Sum.inl b) = (a == b) := by
 by_cases e : a = b
 ·subst e; simp
 ·have h : ¬ (Sum.inl a : Key) = Sum.inl b := fun q => e (Sum.inl.inj q)
  rw [decide_eq_false h]
  exact (beq_eq_false_iff_ne.mpr e).symm
theorem kS0 (a b : Str) : decide ((Sum.inr a : Key) = Sum.inr b) = decide (a = b) := by
 by_cases e : a = b
 ·subst e; simp
 ·have h : ¬ (Sum.inr a : Key) = Sum.inr b := fun q => e (Sum.inr.inj q)
  rw [decide_eq_false h, decide_eq_false e]
theorem nY0 (a : Int) (b : Str) : decide ((Sum.inl a : Key) = Sum.inr b) = false := decide_eq_false (fun q => nomatch q)
theorem mU0 (a : Str) (b : Int) : decide ((Sum.inr a : Key) = Sum.inl b) = false := decide_eq_false (fun q => nomatch q)
def ay0 (prog : Program) (w : World) : PySem.KeyKind prog w Key where
 is := hP0
 hash := keyH w
 inj := fun v a b ha hb => by
  rcases aH0 ha with ⟨i, t, rfl, rfl⟩ | ⟨x, t, rfl, rfl⟩
  ·rcases aH0 hb with ⟨j, u, rfl, e⟩ | ⟨y, u, rfl, e⟩
   ·injection e with e1 _; rw [e1]
   ·exact nomatch e
  ·rcases aH0 hb with ⟨j, u, rfl, e⟩ | ⟨y, u, rfl, e⟩
   ·exact nomatch e
   ·injection e with e1 _; rw [e1]
 byValue := fun k v h => by
  rcases aH0 h with ⟨i, t, rfl, rfl⟩ | ⟨x, t, rfl, rfl⟩ <;> rfl
 pyHash := fun hv h => by
  rcases aH0 hv with ⟨i, t, rfl, rfl⟩ | ⟨x, t, rfl, rfl⟩
  ·exact wpAny_pyHash_int h
  ·exact wpAny_pyHash_str h
 eqBool := fun hu hv h => by
  rcases aH0 hu with ⟨i, t, rfl, rfl⟩ | ⟨x, t, rfl, rfl⟩
  ·rcases aH0 hv with ⟨j, u, rfl, rfl⟩ | ⟨y, u, rfl, rfl⟩
   ·rw [ny0] at h; exact wpAny_eqBool_int h
   ·rw [nY0] at h; exact SeqAt.EqAt.int_str i t y u _ _ _ _ h
  ·rcases aH0 hv with ⟨j, u, rfl, rfl⟩ | ⟨y, u, rfl, rfl⟩
   ·rw [mU0] at h; exact SeqAt.EqAt.str_int x t j u _ _ _ _ h
   ·rw [kS0] at h; exact wpAny_eqBool_str h
 «strs» := fun k x t v h => by
  rcases aH0 h with ⟨i, u, rfl, e⟩ | ⟨y, u, rfl, e⟩
  ·exact nomatch e
  ·injection e with e1 _
   subst e1
   cases v <;> rfl
theorem gz0 (prog : Program) (w : World) (i : Int) (t : Tok) : (ay0 prog w).is (.inl i) (.int i t) = true := iI0 i t
theorem gB0 (prog : Program) (w : World) (x : Str) (t : Tok) : (ay0 prog w).is (.inr x) (.str x t) = true := ir0 x t
end L2
namespace L2
open PySem PySem.Spec PyProof.Rows
inductive V where
 | non | bl (b : Bool) | int (i : Int) | str (x : Str) | byt (b : Array UInt8) | flt (b : UInt64) | ref (a : Addr) | ty (n : String)
 deriving DecidableEq
def RelV : V -> Value -> Prop
 | .non, u => u = Value.none
 | .bl b, u => u = Value.bool b
 | .int i, u => ∃ t, u = Value.int i t
 | .str x, u => ∃ t, u = Value.str x t
 | .byt b, u => ∃ t, u = Value.bytes b t
 | .flt b, u => ∃ t, u = Value.float b t
 | .ref a, u => u = Value.ref a
 | .ty n, u => u = Value.type n
abbrev Vals : List V -> List Value -> Prop := Paired RelV
theorem Vals.length {xs : List V} {us : List Value} (r : Vals xs us) : xs.length = us.length := Paired.length r
theorem Vals.get : ∀ {xs : List V} {us : List Value} {i : Nat} {x : V}, Vals xs us -> xs[i]? = some x -> ∃ u, us[i]? = some u /\ RelV x u
 | _, _, _, _, .nil, e => by simp at e
 | _, _, 0, _, .cons r _, e => by simp at e; subst e; exact ⟨_, rfl, r⟩
 | _, _, i + 1, x, .cons _ t, e => by
  obtain ⟨u, h1, h2⟩ := Vals.get (i := i) (x := x) t (by simpa using e)
  exact ⟨u, by simpa using h1, h2⟩
theorem Vals.set {x : V} {u : Value} (r : RelV x u) : ∀ {xs : List V} {us : List Value} (i : Nat), Vals xs us -> Vals (xs.set i x) (us.set i u)
 | _, _, _, .nil => .nil
 | _, _, 0, .cons _ t => .cons r t
 | _, _, i + 1, .cons q t => .cons q (Vals.set r i t)
theorem Vals.append : ∀ {xs ys : List V} {us ws : List Value}, Vals xs us -> Vals ys ws -> Vals (xs ++ ys) (us ++ ws)
 | _, _, _, _, .nil, s => s
 | _, _, _, _, .cons r t, s => .cons r (Vals.append t s)
theorem Vals.take : ∀ {xs : List V} {us : List Value} (n : Nat), Vals xs us -> Vals (xs.take n) (us.take n)
 | _, _, 0, _ => .nil
 | _, _, _ + 1, .nil => .nil
 | _, _, n + 1, .cons r t => .cons r (Vals.take n t)
theorem Vals.drop : ∀ {xs : List V} {us : List Value} (n : Nat), Vals xs us -> Vals (xs.drop n) (us.drop n)
 | _, _, 0, r => r
 | _, _, _ + 1, .nil => .nil
 | _, _, n + 1, .cons _ t => Vals.drop n t
def RelO : Option V -> Option Value -> Prop
 | some v, some u => RelV v u
 | none, none => True
 | _, _ => False
def KV {κ : Type} : List (κ × V) -> List (κ × Value) -> Prop := Paired fun (p : κ × V) (q : κ × Value) => p.1 = q.1 /\ RelV p.2 q.2
def kV : Key -> V
 | .inl i => .int i
 | .inr x => .str x
inductive HO where
 /-- a list -/
 | lst (xs : List V)
 /-- a tuple (never changes) -/
 | tup (xs : List V)
 /-- a dict whose keys are ints and texts; one whose keys are tuples of ints and texts (the empty one is both) -/
 | dK (kvs : List (Key × V)) | dT (kvs : List (List Key × V))
 /-- a set of ints: its members, its size -/
 | set (S : Int -> Bool) (n : Nat)
 /-- an instance of the class at C, its dict at dx, its attributes -/
 | ins (C dx : Addr) (fs : List (Str × V))
 /-- the dict of the instance at x -/
 | own (x : Addr)
 /-- the dict of an exception -/
 | xd (fs : List (Str × V))
 /-- a bound method, f of x -/
 | met (f x : Addr)
 /-- a range object lo, lo + 1, .. below hi -/
 | rng (lo hi : Int)
 /-- a thing that is known to the object (the script; a dict while a loop walks it): read, never written while it is so -/
 | frz (o : Obj) (u : HO)
 /-- a code object's table -/
 | tbl (ps : Array Value)
 /-- any other thing, by what is true of its one object (a def of one's own: SetO a S n := HO.ext fun h => ..) -/
 | ext (φ : Heap -> Prop)
abbrev Hp := Addr -> Option HO
def upd (H : Hp) (a : Addr) (o : HO) : Hp := fun b => if b = a then some o else H b
theorem aq0 {H : Hp} {a : Addr} {o : HO} : upd H a o a = some o := by unfold upd; rw [if_pos rfl]
theorem ao0 {H : Hp} {a b : Addr} {o : HO} (h : b ≠ a) : upd H a o b = H b := by unfold upd; rw [if_neg h]
theorem ne_of {H : Hp} {a b : Addr} {o u : HO} (h : H a = some o) (h' : H b = some u) (d : o ≠ u) : a ≠ b := by
 intro e; subst e; rw [h] at h'; exact d (Option.some.inj h')
theorem au0 {H : Hp} {a b : Addr} {o : HO} (h : H a = some o) (h' : H b = none) : a ≠ b := by
 intro e; subst e; rw [h] at h'; cases h'
section
variable (P : Program) (w : World)
def ObjOk (H : Hp) (h : Heap) (a : Addr) : HO -> Prop
 | .lst xs => xs.length <= sizeLine /\ ∃ (its : List Value) (n : Nat), Vals xs its /\ h.get? a = some { cls := .type "list", data := .seq its.toArray n }
 | .tup xs => xs.length <= sizeLine /\ ∃ its : List Value, Vals xs its /\ IsTup h a its.toArray /\ ∃ ob, h.get? a = some ob /\ ob.dict = none
 | .dK kvs => kvs.length <= sizeLine /\ (a == sysModules) = false /\ ∃ vs, KV kvs vs /\ h.DictOf (ay0 P w) a vs
 | .dT kvs => kvs.length <= sizeLine /\ (a == sysModules) = false /\ ∃ xs : List (List Key × Addr × Value),
   Paired (fun (p : List Key × V) (q : List Key × Addr × Value) => p.1 = q.1 /\ H q.2.1 = some (.tup (p.1.map kV)) /\ RelV p.2 q.2.2) kvs xs /\
   ∃ o es ep, h.get? a = some o /\ o.ExactDict /\ o.data = .dict es ep /\ es.toList = xs.map (entryOfKey (tupleKind (ay0 P w))) /\ (xs.map (·.1)).Nodup
 | .set S n => h.SetOf (intKind P w) a S n
 | .ins C dx fs => H dx = some (.own a) /\ fs.length <= 1000 /\ dx ≠ a /\ h.get? a = some (PySem.W.instObj C dx) /\
   ∃ mA, h.Ns1 dx mA /\ (∀ f, RelO (fs.lookup f) (mA f)) /\ PySem.Within mA (fs.map (·.1))
 | .own _ => ∃ o, h.get? a = some o
 | .xd fs => ∃ mA, h.Ns1 a mA /\ ∀ f, RelO (fs.lookup f) (mA f)
 | .rng lo hi => ∃ t u v, h.get? a = some { cls := .type "range", data := .fields #[.int lo t, .int hi u, .int 1 v] }
 | .frz o u => h.get? a = some o /\ ObjOk H h a u
 | .tbl ps => h.get? a = some { cls := .none, data := .fields ps }
 | .met f x => h.get? a = some (PySem.W.methodObj (.ref f) (.ref x))
 | .ext φ => φ h /\ (∃ o, h.get? a = some o) /\ ∀ h1 h2 : Heap, φ h1 -> (∀ o, h1.get? a = some o -> h2.get? a = some o) -> φ h2
def HOk (H : Hp) (h : Heap) : Prop := ∀ a o, H a = some o -> ObjOk P w H h a o
end
section
variable {P : Program} {w : World} {H H' : Hp} {h h' : Heap} {a : Addr} {o : HO}
theorem ObjOk.lt (x : ObjOk P w H h a o) : a < h.objs.size := by
 cases o with
 | lst xs => obtain ⟨_, _, _, _, e⟩ := x; exact Heap.lt_size e
 | tup xs => obtain ⟨_, _, _, p⟩ := x; exact p.1.lt
 | dK kvs => obtain ⟨_, _, _, _, o, _, _, e, _⟩ := x; exact Heap.lt_size e
 | dT kvs => obtain ⟨_, _, _, _, o, _, _, e, _⟩ := x; exact Heap.lt_size e
 | set S n => obtain ⟨o, _, _, _, e, _⟩ := x; exact Heap.lt_size e
 | ins C dx fs => obtain ⟨_, _, _, e, _⟩ := x; exact Heap.lt_size e
 | own y => obtain ⟨_, e⟩ := x; exact Heap.lt_size e
 | xd fs => obtain ⟨_, ⟨_, _, _, e, _⟩, _⟩ := x; exact Heap.lt_size e
 | rng lo hi => obtain ⟨_, _, _, e⟩ := x; exact Heap.lt_size e
 | frz ob u => obtain ⟨e, _⟩ := x; exact Heap.lt_size e
 | tbl ps => exact Heap.lt_size (show h.get? a = some _ from x)
 | met f y => exact Heap.lt_size (show h.get? a = some _ from x)
 | ext φ => obtain ⟨_, ⟨_, e⟩, _⟩ := x; exact Heap.lt_size e
theorem Paired.mapP {α β : Type} {F G : α -> β -> Prop} : ∀ {l₁ : List α} {l₂ : List β}, Paired F l₁ l₂ -> (∀ a b, F a b -> G a b) -> Paired G l₁ l₂
 | _, _, .nil, _ => .nil
 | _, _, .cons r t, f => .cons (f _ _ r) (Paired.mapP t f)
theorem ObjOk.stay (x : ObjOk P w H h a o) (k : ∀ b u, (b = a \/ H b = some (.own a)) -> h.get? b = some u -> h'.get? b = some u)
  (ho : ∀ b, H b = some (.own a) -> H' b = some (.own a)) (ht : ∀ b xs, H b = some (.tup xs) -> H' b = some (.tup xs)) : ObjOk P w H' h' a o := by
 induction o with
 | lst xs => obtain ⟨z, its, n, r, e⟩ := x; exact ⟨z, its, n, r, k _ _ (.inl rfl) e⟩
 | tup xs => obtain ⟨z, its, r, ⟨ob, e, c⟩, ob2, e2, c2⟩ := x; exact ⟨z, its, r, ⟨ob, k _ _ (.inl rfl) e, c⟩, ob2, k _ _ (.inl rfl) e2, c2⟩
 | dK kvs => obtain ⟨z, y, vs, r, ob, es, ep, e, c⟩ := x; exact ⟨z, y, vs, r, ob, es, ep, k _ _ (.inl rfl) e, c⟩
 | dT kvs =>
  obtain ⟨z, y, xs, r, ob, es, ep, e, c⟩ := x
  exact ⟨z, y, xs, Paired.mapP r fun p q z => ⟨z.1, ht _ _ z.2.1, z.2.2⟩, ob, es, ep, k _ _ (.inl rfl) e, c⟩
 | set S n => obtain ⟨ob, es, ep, t, e, c⟩ := x; exact ⟨ob, es, ep, t, k _ _ (.inl rfl) e, c⟩
 | ins C dx fs =>
  obtain ⟨d, z, ne, e, mA, ⟨od, es, ep, e2, c⟩, r⟩ := x
  exact ⟨ho _ d, z, ne, k _ _ (.inl rfl) e, mA, ⟨od, es, ep, k _ _ (.inr d) e2, c⟩, r⟩
 | own y => obtain ⟨ob, e⟩ := x; exact ⟨ob, k _ _ (.inl rfl) e⟩
 | xd fs => obtain ⟨mA, ⟨od, es, ep, e, c⟩, r⟩ := x; exact ⟨mA, ⟨od, es, ep, k _ _ (.inl rfl) e, c⟩, r⟩
 | rng lo hi => obtain ⟨t, u, v, e⟩ := x; exact ⟨t, u, v, k _ _ (.inl rfl) e⟩
 | frz ob u ih => obtain ⟨e, q⟩ := x; exact ⟨k _ _ (.inl rfl) e, ih q⟩
 | tbl ps =>
  have e : h.get? a = some { cls := .none, data := .fields ps } := x
  show h'.get? a = some { cls := .none, data := .fields ps }
  exact k a _ (.inl rfl) e
 | met f y =>
  have e : h.get? a = some (PySem.W.methodObj (.ref f) (.ref y)) := x
  show h'.get? a = some (PySem.W.methodObj (.ref f) (.ref y))
  exact k a _ (.inl rfl) e
 | ext φ => obtain ⟨p, ⟨o, e⟩, st⟩ := x; exact ⟨st _ _ p fun o q => k _ _ (.inl rfl) q, ⟨o, k _ _ (.inl rfl) e⟩, st⟩
theorem HOk.lt (x : HOk P w H h) (e : H a = some o) : a < h.objs.size := (x a o e).lt
theorem HOk.fresh (x : HOk P w H h) (e : h.objs.size <= a) : H a = none := by
 cases q : H a with
 | none => rfl
 | some u => exact absurd (Nat.lt_of_lt_of_le (x.lt q) e) (Nat.lt_irrefl _)
theorem HOk.kept (x : HOk P w H h) (k : ∀ b u, h.get? b = some u -> h'.get? b = some u) : HOk P w H h' := fun a o e =>
 (x a o e).stay (fun b u _ q => k b u q) (fun _ q => q) fun _ _ q => q
theorem HOk.laid (x : HOk P w H h) (k : ∀ b u, h.get? b = some u -> h'.get? b = some u) (hp : h.objs.size <= a) (new : ObjOk P w (upd H a o) h' a o) : HOk P w (upd H a o) h' := fun b u e => by
 have hn := x.fresh hp
 by_cases hb : b = a
 ·subst hb; rw [aq0] at e; cases e; exact new
 ·rw [ao0 hb] at e
  exact (x b u e).stay (fun c v _ q => k c v q) (fun c q => by rw [ao0 (au0 q hn)]; exact q) fun c xs q => by rw [ao0 (au0 q hn)]; exact q
end
def Rd (H : Hp) (a : Addr) (u : HO) : Prop := H a = some u \/ ∃ o, H a = some (.frz o u)
theorem Rd.ok {P : Program} {w : World} {H : Hp} {h : Heap} {a : Addr} {u : HO} (r : Rd H a u) (x : HOk P w H h) : ObjOk P w H h a u := by
 rcases r with r | ⟨o, r⟩
 ·exact x a u r
 ·obtain ⟨_, q⟩ := x a _ r
  exact q
def Mut : Option HO -> Prop
 | some (.lst _) => True
 | some (.dK _) => True
 | some (.dT _) => True
 | some (.set _ _) => True
 | some (.ins _ _ _) => True
 | some (.ext _) => True
 | _ => False
section
variable {P : Program} {w : World} {H : Hp} {h h' : Heap} {x e : Addr} {o' : HO}
theorem HOk.write (ok : HOk P w H h) (mu : Mut (H x)) (he : e = x \/ H e = some (.own x)) (k : ∀ b u, b ≠ e -> h.get? b = some u -> h'.get? b = some u) (heo : ∃ u, h'.get? e = some u)
  (new : ObjOk P w (upd H x o') h' x o') : HOk P w (upd H x o') h' := fun b u q => by
 have nown : ∀ c y, H c = some (.own y) -> c ≠ x := fun c y r z => by subst z; rw [r] at mu; exact mu
 have ntup : ∀ c xs, H c = some (.tup xs) -> c ≠ x := fun c xs r z => by subst z; rw [r] at mu; exact mu
 by_cases hb : b = x
 ·subst hb; rw [aq0] at q; cases q; exact new
 ·rw [ao0 hb] at q
  by_cases hbe : b = e
  ·have q' : H b = some (.own x) := by
    rcases he with z | z
    ·exact absurd (hbe.trans z) hb
    ·rw [hbe]; exact z
   rw [q] at q'; cases q'
   obtain ⟨v, hv⟩ := heo
   exact ⟨v, by rw [hbe]; exact hv⟩
  ·refine (ok b u q).stay (fun c v hc r => k c v ?_ r) (fun c r => by rw [ao0 (nown c b r)]; exact r) fun c xs r => by rw [ao0 (ntup c xs r)]; exact r
   rcases hc with rfl | hc
   ·exact hbe
   ·rintro rfl
    rcases he with z | z
    ·exact nown c b hc z
    ·rw [hc] at z; cases z; exact hb rfl
end
structure Un (fs ex : List Addr) (H H' : Hp) (h h' : Heap) : Prop where
 keep : ∀ b o, h.get? b = some o -> H b = none -> b ∉ fs -> b ∉ ex -> h'.get? b = some o
 slot : ∀ b o, h.get? b = some o -> H b = none -> b ∈ fs -> b ∉ ex -> ∃ sl, h'.get? b = some { o with slots := sl }
 free : ∀ b o, h.get? b = some o -> H b = none -> b ∉ ex -> H' b = none
 there : ∀ b o, h.get? b = some o -> b ∉ ex -> ∃ o', h'.get? b = some o'
 tups : ∀ b xs, H b = some (.tup xs) -> H' b = some (.tup xs)
 frzs : ∀ b o u, H b = some (.frz o u) -> H' b = some (.frz o u)
 tbls : ∀ b ps, H b = some (.tbl ps) -> ∃ more, H' b = some (.tbl (ps ++ more))
section
variable {fs fs' ex ex' : List Addr} {H H1 H2 : Hp} {h h1 h2 h' : Heap} {a x e : Addr} {o : HO}
theorem Un.any (u : Un fs ex H H1 h h1) {b : Addr} {ob : Obj} (q : h.get? b = some ob) (n : H b = none) (hx : b ∉ ex) : ∃ sl, h1.get? b = some { ob with slots := sl } := by
 by_cases hb : b ∈ fs
 ·exact u.slot b ob q n hb hx
 ·exact ⟨ob.slots, u.keep b ob q n hb hx⟩
theorem Un.kept (k : ∀ b u, h.get? b = some u -> h'.get? b = some u) : Un fs ex H H h h' :=
 ⟨fun b ob q _ _ _ => k b ob q, fun b ob q _ _ _ => ⟨ob.slots, k b ob q⟩, fun _ _ _ n _ => n, fun b ob q _ => ⟨ob, k b ob q⟩, fun _ _ q => q, fun _ _ _ q => q, fun _ ps q => ⟨#[], by rw [q]; simp⟩⟩
theorem Un.refl : Un fs ex H H h h := Un.kept fun _ _ q => q
theorem Un.laid (k : ∀ b u, h.get? b = some u -> h'.get? b = some u) (hp : h.objs.size <= a) (hn : H a = none) : Un fs ex H (upd H a o) h h' where
 keep := fun b u q _ _ _ => k b u q
 slot := fun b u q _ _ _ => ⟨u.slots, k b u q⟩
 free := fun b u q n _ => by rw [ao0 (Nat.ne_of_lt (Nat.lt_of_lt_of_le (Heap.lt_size q) hp))]; exact n
 there := fun b u q _ => ⟨u, k b u q⟩
 tups := fun b xs q => by rw [ao0 (au0 q hn)]; exact q
 frzs := fun b u xs q => by rw [ao0 (au0 q hn)]; exact q
 tbls := fun b ps q => ⟨#[], by rw [ao0 (au0 q hn), q]; simp⟩
theorem Un.write (mu : Mut (H x)) (he : e = x \/ H e = some (.own x)) (k : ∀ b u, b ≠ e -> h.get? b = some u -> h'.get? b = some u) (heo : ∃ u, h'.get? e = some u) : Un fs ex H (upd H x o) h h' := by
 have hx : ∀ b, H b = none -> b ≠ x := fun b n z => by subst z; rw [n] at mu; exact mu
 have hb : ∀ b, H b = none -> b ≠ e := fun b n z => by
  subst z
  rcases he with r | r
  ·exact hx b n r
  ·rw [n] at r; cases r
 have hm : ∀ b u, H b = some u -> ¬ Mut (some u) -> b ≠ x := fun b u q nm z => by subst z; rw [q] at mu; exact nm mu
 refine ⟨fun b u q n _ _ => k b u (hb b n) q, fun b u q n _ _ => ⟨u.slots, k b u (hb b n) q⟩, fun b u q n _ => by rw [ao0 (hx b n)]; exact n, fun b u q _ => ?_,
  fun b xs q => by rw [ao0 (hm b _ q fun z => z)]; exact q, fun b u xs q => by rw [ao0 (hm b _ q fun z => z)]; exact q, fun b ps q => ⟨#[], by rw [ao0 (hm b _ q fun z => z), q]; simp⟩⟩
 by_cases hbe : b = e
 ·subst hbe; exact heo
 ·exact ⟨u, k b u hbe q⟩
end
def trk (h : Heap) (H : Hp) : List Addr := (List.range h.objs.size).filter fun a => (H a).isSome
def hidT (h : Heap) (H : Hp) : Heap := PySem.W.hideAll h (trk h H)
theorem jD0 (h : Heap) (H : Hp) : (hidT h H).objs.size = h.objs.size := PySem.W.hideAll_size _ _
theorem kn0 {h : Heap} {H : Hp} {b : Addr} {o : Obj} (e : h.get? b = some o) (n : H b = none) : (hidT h H).get? b = some o :=
 PySem.W.hideAll_get _ e fun hm => by
  have q : (H b).isSome = true := (List.mem_filter.mp hm).2
  rw [n] at q; simp at q
theorem lo0 {h : Heap} {H : Hp} {b : Addr} {o : Obj} (e : (hidT h H).get? b = some o) : h.get? b = some o /\ H b = none := by
 have e' : h.get? b = some o := PySem.W.of_hideAll (trk h H) e
 refine ⟨e', ?_⟩
 cases q : H b with
 | none => rfl
 | some x =>
  have hm : b ∈ trk h H := List.mem_filter.mpr ⟨List.mem_range.mpr (Heap.lt_size e'), by simp [q]⟩
  have z : (hidT h H).get? b = none := PySem.W.hideAll_none (trk h H) hm
  rw [z] at e; cases e
end L2
namespace L2
open PySem PySem.Spec PyProof.Rows
structure Mod (K : PySem.W.Frag) (mg : Str -> Option Value) (base : Heap) : Prop where
 kin : K.In base
 glob : base.Ns mainGlobals mg
 blt : ∃ mb, base.Ns builtinsNs mb /\ ∀ x : Str, x ≠ "__name__" -> mb x = bootBuiltins x
 nolimit : base.NoLimit
structure Cx where
 prog : Program
 w : World
 K : PySem.W.Frag
 mg : Str -> Option Value
 base : Heap
 A : Around
 N : List Str
 s₀ : Shared
 H₀ : Hp
 env : Env
 outer : List Env
 stack : List Env
 ex : List Addr
 fn : Str -> Bool
 calm : Bool
 pn : List (Addr × Obj)
 xe : Value -> Shared -> Prop
def frs (l : List Env) : List Addr := l.filterMap (·.frame)
abbrev Cx.fs (X : Cx) : List Addr := frs X.outer
def Vis (sc : Scope) (x : Str) : Prop := sc.names.lookup x = some .local \/ sc.names.lookup x = some .cell \/ sc.names.lookup x = some .free
def Loc (sc : Scope) (x : Str) : Prop := sc.names.lookup x = some .local \/ sc.names.lookup x = some .cell
def Look (env : Env) (h : Heap) (m : Str -> Option Value) (x : Str) (u : Value) : Prop :=
 (env.kindOf x = some .local /\ m x = some u) \/ ((env.kindOf x = some .cell \/ env.kindOf x = some .free) /\ ∃ c, env.cells.lookup x = some c /\ h.IsCell c (some u))
structure Cx.Ok (X : Cx) : Prop where
 mod : Mod X.K X.mg X.base
 kind : X.env.scope.kind = .function
 glob : X.env.globals = mainGlobals
 blt : X.env.builtins = builtinsNs
 above : X.s₀.heap.objs.size <= X.env.locals
 inj : ∀ x y c, X.env.cells.lookup x = some c -> X.env.cells.lookup y = some c -> x = y
 has : ∀ x, (X.env.kindOf x = some .cell \/ X.env.kindOf x = some .free) -> ∃ c, X.env.cells.lookup x = some c
 cab : ∀ x c, X.fn x = true -> X.env.cells.lookup x = some c -> X.s₀.heap.objs.size <= c
 hd : X.calm = true -> X.A.handled = none
 frames : X.A.frames = some X.stack
 stk : X.stack = X.outer \/ (X.stack = X.env :: X.outer /\ X.env.frame = some X.env.locals)
 exf : ∀ b ∈ X.ex, b ≠ X.env.locals /\ ∀ x c, X.env.cells.lookup x = some c -> c ≠ b
 bs : ∀ b o, X.base.get? b = some o -> X.s₀.heap.get? b = some o /\ X.H₀ b = none
 bsz : X.base.objs.size <= X.s₀.heap.objs.size
 noex : ∀ b o, X.base.get? b = some o -> b ∉ X.ex
 exfs : ∀ b ∈ X.ex, b ∉ X.fs
 funs : X.s₀.heap.FunFrames X.base X.outer
 frf : ∀ b ∈ X.fs, X.H₀ b = none
structure Inv (X : Cx) (pins : List (Addr × Obj)) (σ : List (Option V)) (H : Hp) (s : Shared) : Prop where
 ok : X.Ok
 os : s.os = X.s₀.os
 bare : AllBare s.gens
 base : Un X.fs X.ex X.H₀ H X.s₀.heap s.heap
 loc : ∃ m, s.heap.Ns X.env.locals m /\ ∀ (i : Nat) (x : Str) (v : V), X.N[i]? = some x -> σ[i]? = some (some v) -> Vis X.env.scope x -> ∃ u, RelV v u /\ Look X.env s.heap m x u
 cell : ∀ x c, X.env.cells.lookup x = some c -> ∃ v, s.heap.IsCell c v
 free : H X.env.locals = none
 freeC : ∀ x c, X.env.cells.lookup x = some c -> H c = none
 pin : ∀ p ∈ X.pn ++ pins, s.heap.get? p.1 = some p.2 /\ H p.1 = none /\ p.1 ≠ X.env.locals /\ p.1 ∉ X.fs /\ ∀ v, p.2.data ≠ .cell v
 hok : HOk X.prog X.w H s.heap
 len : σ.length = X.N.length
section
variable {X : Cx} {pins : List (Addr × Obj)} {σ : List (Option V)} {H H' : Hp} {s : Shared} {h' : Heap}
theorem Cx.Ok.nofr (ok : X.Ok) {b : Addr} {o : Obj} (e : X.base.get? b = some o) : b ∉ X.fs := fun hb => by
 have := (ok.funs.mem hb).1
 rw [e] at this; cases this
theorem Inv.bs (I : Inv X pins σ H s) : ∀ b o, X.base.get? b = some o -> s.heap.get? b = some o /\ H b = none := fun b o e =>
 ⟨I.base.keep b o (I.ok.bs b o e).1 (I.ok.bs b o e).2 (I.ok.nofr e) (I.ok.noex b o e), I.base.free b o (I.ok.bs b o e).1 (I.ok.bs b o e).2 (I.ok.noex b o e)⟩
theorem Inv.bk (I : Inv X pins σ H s) : ∀ b o, X.base.get? b = some o -> s.heap.get? b = some o := fun b o e => (I.bs b o e).1
theorem Inv.mod (I : Inv X pins σ H s) : Mod X.K X.mg X.base := I.ok.mod
theorem Inv.kIn (I : Inv X pins σ H s) : X.K.In s.heap := I.ok.mod.kin.keeps I.bk
theorem Inv.fr (I : Inv X pins σ H s) : ∃ m, Fr X.base X.env.locals s.heap m :=
 let ⟨m, hn, _⟩ := I.loc
 ⟨m, hn, I.bk, Nat.le_trans I.ok.bsz I.ok.above⟩
theorem Inv.lt (I : Inv X pins σ H s) : X.env.locals < s.heap.objs.size := let ⟨_, hn, _⟩ := I.loc; hn.lt
theorem Inv.sz (I : Inv X pins σ H s) : X.s₀.heap.objs.size <= s.heap.objs.size := Nat.le_trans I.ok.above (Nat.le_of_lt I.lt)
theorem Inv.nofs (I : Inv X pins σ H s) {a : Addr} (h : s.heap.objs.size <= a) : a ∉ X.fs := fun hb => by
 obtain ⟨_, o, ho, _⟩ := I.ok.funs.mem hb
 exact absurd (Nat.lt_of_lt_of_le (Heap.lt_size ho) (Nat.le_trans I.sz h)) (Nat.lt_irrefl _)
theorem Inv.cne (I : Inv X pins σ H s) : ∀ x c, X.env.cells.lookup x = some c -> c ≠ X.env.locals := fun x c e z => by
 obtain ⟨v, o, ho, hd⟩ := I.cell x c e
 obtain ⟨m, ⟨o', es, ep, ho', hd', _⟩, _⟩ := I.loc
 rw [z, ho'] at ho; cases ho; rw [hd'] at hd; cases hd
theorem Inv.funs (I : Inv X pins σ H s) : s.heap.FunFrames X.base X.outer := by
 have all : ∀ (l : List Env), (∀ b ∈ frs l, b ∈ X.fs) -> X.s₀.heap.FunFrames X.base l -> s.heap.FunFrames X.base l := by
  intro l
  induction l with
  | nil => intro _ _; trivial
  | cons env r ih =>
   intro hs hl
   obtain ⟨hk, ⟨L, o, hf, hn, ho, hd⟩, hr⟩ := hl
   have hL : L ∈ X.fs := hs L (by unfold frs; rw [List.filterMap_cons, hf]; exact List.mem_cons_self)
   obtain ⟨sl, e⟩ := I.base.slot L o ho (I.ok.frf L hL) hL fun z => I.ok.exfs L z hL
   exact ⟨hk, ⟨L, _, hf, hn, e, hd⟩, ih (fun b hb => hs b (by unfold frs; rw [List.filterMap_cons, hf]; exact List.mem_cons_of_mem _ hb)) hr⟩
 exact all X.outer (fun _ hb => hb) I.ok.funs
theorem Inv.stack (I : Inv X pins σ H s) : s.heap.FunFrames X.base X.stack := by
 rcases I.ok.stk with e | ⟨e, hf⟩
 ·rw [e]; exact I.funs
 ·rw [e]
  obtain ⟨m, hn, _⟩ := I.loc
  refine .cons (by rw [I.ok.kind]; decide) hf hn ?_ I.funs
  exact Heap.get?_none_of_le (Nat.le_trans I.ok.bsz I.ok.above)
theorem Inv.stkSub (I : Inv X pins σ H s) : ∀ b ∈ frs X.stack, b ∈ X.env.locals :: X.fs := fun b hb => by
 rcases I.ok.stk with e | ⟨e, hf⟩
 ·rw [e] at hb; exact List.mem_cons_of_mem _ hb
 ·rw [e] at hb
  unfold frs at hb
  rw [List.filterMap_cons, hf] at hb
  exact hb
theorem Inv.stkFree (I : Inv X pins σ H s) : ∀ b ∈ frs X.stack, H b = none := fun b hb => by
 rcases List.mem_cons.mp (I.stkSub b hb) with e | hb
 ·rw [e]; exact I.free
 ·obtain ⟨_, o, ho, _⟩ := I.ok.funs.mem hb
  exact I.base.free b o ho (I.ok.frf b hb) fun z => I.ok.exfs b z hb
theorem Inv.step {g' : Array GenState} {t' : Nat} {d' : Drawn} {ch : List Addr} (I : Inv X pins σ H s)
  (hch : ∀ b ∈ ch, (b ∈ X.ex \/ X.s₀.heap.objs.size <= b) /\ b ≠ X.env.locals /\ (∀ x c, X.env.cells.lookup x = some c -> c ≠ b) /\ ∀ p ∈ X.pn ++ pins, p.1 ≠ b)
  (keep : ∀ b o, b ≠ X.env.locals -> b ∉ X.fs -> b ∉ ch -> s.heap.get? b = some o -> H b = none -> h'.get? b = some o)
  (slot : ∀ b o, b ≠ X.env.locals -> b ∈ X.fs -> b ∉ ch -> s.heap.get? b = some o -> H b = none -> ∃ sl, h'.get? b = some { o with slots := sl }) (free : ∀ b o, b ∉ ch -> s.heap.get? b = some o -> H b = none -> H' b = none)
  (there : ∀ b o, b ∉ ch -> s.heap.get? b = some o -> ∃ o', h'.get? b = some o')
  (tups : ∀ b xs, H b = some (.tup xs) -> H' b = some (.tup xs)) (frzs : ∀ b o u, H b = some (.frz o u) -> H' b = some (.frz o u)) (tbls : ∀ b ps, H b = some (.tbl ps) -> ∃ more, H' b = some (.tbl (ps ++ more)))
  (ns : ∀ m, s.heap.Ns X.env.locals m -> h'.Ns X.env.locals m) (hok : HOk X.prog X.w H' h') (hg : AllBare g') :
  Inv X pins σ H' { s with heap := h', gens := g', drawn := d', toks := t' } := by
 have neL : ∀ b o, X.s₀.heap.get? b = some o -> b ≠ X.env.locals := fun b o e => Nat.ne_of_lt (Nat.lt_of_lt_of_le (Heap.lt_size e) I.ok.above)
 have neC : ∀ b o, X.s₀.heap.get? b = some o -> b ∉ X.ex -> b ∉ ch := fun b o e hx hb => by
  rcases (hch b hb).1 with z | z
  ·exact hx z
  ·exact absurd (Nat.lt_of_lt_of_le (Heap.lt_size e) z) (Nat.lt_irrefl _)
 have cellK : ∀ x c, X.env.cells.lookup x = some c -> ∀ v, s.heap.IsCell c v -> h'.IsCell c v := fun x c e v ⟨o, ho, hd⟩ => by
  have nch : c ∉ ch := fun z => (hch c z).2.2.1 x c e rfl
  by_cases hc : c ∈ X.fs
  ·obtain ⟨sl, q⟩ := slot c o (I.cne x c e) hc nch ho (I.freeC x c e)
   exact ⟨_, q, hd⟩
  ·exact ⟨o, keep c o (I.cne x c e) hc nch ho (I.freeC x c e), hd⟩
 refine ⟨I.ok, I.os, hg, ⟨fun b o e n hb hx => ?_, fun b o e n hb hx => ?_, fun b o e n hx => ?_, fun b o e hx => ?_, fun b xs e => tups b xs (I.base.tups b xs e), fun b o xs e => frzs b o xs (I.base.frzs b o xs e), fun b ps e => ?_⟩, ?_, fun x c e => ?_, ?_, fun x c e => ?_, fun p hp => ?_, hok, I.len⟩
 ·exact keep b o (neL b o e) hb (neC b o e hx) (I.base.keep b o e n hb hx) (I.base.free b o e n hx)
 ·obtain ⟨sl, e1⟩ := I.base.slot b o e n hb hx
  obtain ⟨sl', e2⟩ := slot b _ (neL b o e) hb (neC b o e hx) e1 (I.base.free b o e n hx)
  exact ⟨sl', e2⟩
 ·obtain ⟨o', e1⟩ := I.base.there b o e hx
  exact free b o' (neC b o e hx) e1 (I.base.free b o e n hx)
 ·obtain ⟨o', e1⟩ := I.base.there b o e hx
  exact there b o' (neC b o e hx) e1
 ·obtain ⟨m1, e1⟩ := I.base.tbls b ps e
  obtain ⟨m2, e2⟩ := tbls b _ e1
  exact ⟨m1 ++ m2, by rw [e2, Array.append_assoc]⟩
 ·obtain ⟨m, hn, hl⟩ := I.loc
  refine ⟨m, ns m hn, fun i x v e1 e2 e3 => ?_⟩
  obtain ⟨u, r, l⟩ := hl i x v e1 e2 e3
  refine ⟨u, r, ?_⟩
  rcases l with l | ⟨k, c, e, z⟩
  ·exact .inl l
  ·exact .inr ⟨k, c, e, cellK x c e _ z⟩
 ·obtain ⟨v, z⟩ := I.cell x c e
  exact ⟨v, cellK x c e v z⟩
 ·obtain ⟨m, ⟨o, _, _, ho, _⟩, _⟩ := I.loc
  exact free _ o (fun z => (hch _ z).2.1 rfl) ho I.free
 ·obtain ⟨v, o, ho, hd⟩ := I.cell x c e
  exact free c o (fun z => (hch c z).2.2.1 x c e rfl) ho (I.freeC x c e)
 ·obtain ⟨e, n, ne, nf, d⟩ := I.pin p hp
  have nch : p.1 ∉ ch := fun z => (hch p.1 z).2.2.2 p hp rfl
  exact ⟨keep p.1 p.2 ne nf nch e n, free p.1 p.2 nch e n, ne, nf, d⟩
theorem Inv.un {t' : Nat} (I : Inv X pins σ H s) (u : Un X.fs [] H H' s.heap h') (hok : HOk X.prog X.w H' h') : Inv X pins σ H' { s with heap := h', toks := t' } := by
 obtain ⟨m, ⟨o, es, ep, ho, r⟩, _⟩ := id I.loc
 obtain ⟨sl, hL⟩ := u.any ho I.free (by simp)
 exact I.step (g' := s.gens) (d' := s.drawn) (ch := []) (fun _ z => nomatch z) (fun b o _ hb _ e n => u.keep b o e n hb (by simp)) (fun b o _ hb _ e n => u.slot b o e n hb (by simp)) (fun b o _ e n => u.free b o e n (by simp)) (fun b o _ e => u.there b o e (by simp)) u.tups u.frzs u.tbls (fun m' hm => by
  obtain ⟨o', es', ep', ho', r'⟩ := hm
  rw [ho] at ho'; cases ho'
  exact ⟨_, es', ep', hL, r'⟩) hok I.bare
theorem Inv.call {g' : Array GenState} {t' : Nat} {d' : Drawn} {ch : List Addr} (I : Inv X pins σ H s) (u : Un (frs X.stack) ch H H' s.heap h') (hok : HOk X.prog X.w H' h') (hg : AllBare g')
  (hch : ∀ b ∈ ch, (b ∈ X.ex \/ X.s₀.heap.objs.size <= b) /\ b ≠ X.env.locals /\ (∀ x c, X.env.cells.lookup x = some c -> c ≠ b) /\ ∀ p ∈ X.pn ++ pins, p.1 ≠ b) :
  Inv X pins σ H' { s with heap := h', gens := g', drawn := d', toks := t' } := by
 obtain ⟨m, ⟨o, es, ep, ho, r⟩, _⟩ := id I.loc
 obtain ⟨sl, hL⟩ := u.any ho I.free fun z => (hch _ z).2.1 rfl
 exact I.step (ch := ch) hch (fun b o hL hb hc e n => u.keep b o e n (fun z => (List.mem_cons.mp (I.stkSub b z)).elim hL hb) hc) (fun b o _ _ hc e n => u.any e n hc) (fun b o hc e n => u.free b o e n hc) (fun b o hc e => u.there b o e hc) u.tups u.frzs u.tbls (fun m' hm => by
  obtain ⟨o', es', ep', ho', r'⟩ := hm
  rw [ho] at ho'; cases ho'
  exact ⟨_, es', ep', hL, r'⟩) hok hg
theorem Inv.turned {t' : Nat} {it : Addr} (I : Inv X pins σ H s) (k : ∀ b o, b ≠ it -> s.heap.get? b = some o -> h'.get? b = some o) (hn : H it = none) (hL : it ≠ X.env.locals)
  (h1 : it ∈ X.ex \/ X.s₀.heap.objs.size <= it) (h2 : ∀ x c, X.env.cells.lookup x = some c -> c ≠ it) (h3 : ∀ p ∈ X.pn ++ pins, p.1 ≠ it) : Inv X pins σ H { s with heap := h', toks := t' } := by
 have nit : ∀ b u, H b = some u -> b ≠ it := fun b u e z => by rw [z, hn] at e; cases e
 refine I.step (g' := s.gens) (d' := s.drawn) (ch := [it]) (fun b hb => ?_) (fun b o _ _ hc e _ => k b o (fun z => hc (by simp [z])) e) (fun b o _ _ hc e _ => ⟨o.slots, k b o (fun z => hc (by simp [z])) e⟩) (fun _ _ _ _ n => n)
  (fun b o hc e => ⟨o, k b o (fun z => hc (by simp [z])) e⟩) (fun _ _ e => e) (fun _ _ _ e => e) (fun b ps e => ⟨#[], by rw [e]; simp⟩) (fun m hm => ?_) (fun b u e => ?_) I.bare
 ·have e : b = it := by simpa using hb
  subst e
  exact ⟨h1, hL, h2, h3⟩
 ·obtain ⟨o, es, ep, ho, r⟩ := hm
  exact ⟨o, es, ep, k _ o (Ne.symm hL) ho, r⟩
 ·refine (I.hok b u e).stay (fun c v hc q => k c v ?_ q) (fun _ q => q) fun _ _ q => q
  rcases hc with z | z
  ·rw [z]; exact nit b u e
  ·exact nit c _ z
theorem Inv.tok (I : Inv X pins σ H s) (t : Nat) : Inv X pins σ H { s with toks := t } := I.un (h' := s.heap) (t' := t) Un.refl I.hok
theorem Inv.kept {t' : Nat} (I : Inv X pins σ H s) (k : ∀ b u, s.heap.get? b = some u -> h'.get? b = some u) : Inv X pins σ H { s with heap := h', toks := t' } := I.un (Un.kept k) (I.hok.kept k)
theorem Inv.laid {a : Addr} {o : HO} {t' : Nat} (I : Inv X pins σ H s) (k : ∀ b u, s.heap.get? b = some u -> h'.get? b = some u) (hp : s.heap.objs.size <= a) (new : ObjOk X.prog X.w (upd H a o) h' a o) :
  Inv X pins σ (upd H a o) { s with heap := h', toks := t' } := I.un (Un.laid k hp (I.hok.fresh hp)) (I.hok.laid k hp new)
theorem Inv.write {x e : Addr} {o : HO} {t' : Nat} (I : Inv X pins σ H s) (mu : Mut (H x)) (he : e = x \/ H e = some (.own x)) (k : ∀ b u, b ≠ e -> s.heap.get? b = some u -> h'.get? b = some u) (heo : ∃ u, h'.get? e = some u)
  (new : ObjOk X.prog X.w (upd H x o) h' x o) : Inv X pins σ (upd H x o) { s with heap := h', toks := t' } := I.un (Un.write mu he k heo) (I.hok.write mu he k heo new)
theorem Inv.weak {σ' : List (Option V)} (I : Inv X pins σ H s) (hl : σ'.length = σ.length) (w : ∀ (i : Nat) v, σ'[i]? = some (some v) -> σ[i]? = some (some v)) : Inv X pins σ' H s :=
 ⟨I.ok, I.os, I.bare, I.base, let ⟨m, hn, hl'⟩ := I.loc; ⟨m, hn, fun i x v e1 e2 e3 => hl' i x v e1 (w i v e2) e3⟩, I.cell, I.free, I.freeC, I.pin, I.hok, hl.trans I.len⟩
theorem Inv.pins_of {pins' : List (Addr × Obj)} (I : Inv X pins σ H s) (h : ∀ p ∈ pins', s.heap.get? p.1 = some p.2 /\ H p.1 = none /\ p.1 ≠ X.env.locals /\ p.1 ∉ X.fs /\ ∀ v, p.2.data ≠ .cell v) : Inv X pins' σ H s :=
 ⟨I.ok, I.os, I.bare, I.base, I.loc, I.cell, I.free, I.freeC, fun p hp => (List.mem_append.mp hp).elim (fun z => I.pin p (List.mem_append_left _ z)) (h p), I.hok, I.len⟩
theorem gY0 {N : List Str} (hN : N.Nodup) {i j : Nat} {x : Str} (a : N[i]? = some x) (b : N[j]? = some x) : i = j := by
 obtain ⟨h1, e1⟩ := List.getElem?_eq_some_iff.mp a
 obtain ⟨h2, e2⟩ := List.getElem?_eq_some_iff.mp b
 exact (List.getElem_inj hN).mp (e1.trans e2.symm)
theorem fH0 {M : Model} {A : Around} {E : Value -> Shared -> Prop} {i : Nat} {x : Str} {v : V} {u : Value} {Q : Unit -> Shared -> Prop} (I : Inv X pins σ H s) (hN : X.N.Nodup) (hi : X.N[i]? = some x) (hx : Loc X.env.scope x) (r : RelV v u)
  (h : ∀ s', Inv X pins (σ.set i (some v)) H s' -> (∃ a, Heap.SameBut a s.heap s'.heap /\ (a = X.env.locals \/ X.env.cells.lookup x = some a)) -> Q () s') (hf : X.fn x = true \/ X.env.scope.names.lookup x = some .local := by first | exact .inl rfl | exact .inr rfl | assumption) : wpAny M A (storeName X.env x u) Q E s := by
 obtain ⟨m, hn, hl⟩ := id I.loc
 have hcls : (X.env.scope.kind == .class || (X.env.scope.kind == .module && X.env.locals != X.env.globals)) = false := by rw [I.ok.kind]; rfl
 have hiσ : i < σ.length := by rw [I.len]; exact (List.getElem?_eq_some_iff.mp hi).1
 have cne := I.cne
 have tracked : ∀ {a : Addr} {h' : Heap}, (∃ o, s.heap.get? a = some o /\ H a = none) -> Heap.SameBut a s.heap h' -> HOk X.prog X.w H h' := fun {a h'} ha hs b ob e => by
  obtain ⟨_, _, hfree⟩ := ha
  refine (I.hok b ob e).stay (fun c w' hc q => (hs.2 c ?_).trans q) (fun _ q => q) fun _ _ q => q
  rintro rfl
  rcases hc with rfl | hc
  ·rw [hfree] at e; cases e
  ·rw [hfree] at hc; cases hc
 rcases hx with hk | hk
 ·refine wpAny_storeName_local hk hn (fun h' hn' hs => ?_) hcls
  obtain ⟨oL, _, _, hoL, _⟩ := id hn
  refine h _ ⟨I.ok, I.os, I.bare, ⟨fun b o e n hb hx => ?_, fun b o e n hb hx => ?_, I.base.free, fun b o e hx => ?_, I.base.tups, I.base.frzs, I.base.tbls⟩, ⟨_, hn', fun j y v' e1 e2 e3 => ?_⟩, fun y c e => ?_, I.free, I.freeC, fun p hp => ?_, tracked ⟨oL, hoL, I.free⟩ hs, by simpa using I.len⟩ ⟨_, hs, .inl rfl⟩
  ·exact (hs.2 b (Nat.ne_of_lt (Nat.lt_of_lt_of_le (Heap.lt_size e) I.ok.above))).trans (I.base.keep b o e n hb hx)
  ·obtain ⟨sl, e1⟩ := I.base.slot b o e n hb hx
   exact ⟨sl, (hs.2 b (Nat.ne_of_lt (Nat.lt_of_lt_of_le (Heap.lt_size e) I.ok.above))).trans e1⟩
  ·obtain ⟨o', e1⟩ := I.base.there b o e hx
   exact ⟨o', (hs.2 b (Nat.ne_of_lt (Nat.lt_of_lt_of_le (Heap.lt_size e) I.ok.above))).trans e1⟩
  ·by_cases hj : j = i
   ·subst hj
    rw [hi] at e1; cases e1
    rw [List.getElem?_set_self hiσ] at e2
    cases e2
    exact ⟨u, r, .inl ⟨hk, by simp⟩⟩
   ·rw [List.getElem?_set_ne (Ne.symm hj)] at e2
    obtain ⟨u', r', q⟩ := hl j y v' e1 e2 e3
    refine ⟨u', r', ?_⟩
    rcases q with ⟨k, e⟩ | ⟨k, c, e, z⟩
    ·refine .inl ⟨k, ?_⟩
     have : y ≠ x := fun e => hj (gY0 hN e1 (e ▸ hi))
     simp [this, e]
    ·exact .inr ⟨k, c, e, z.sameBut hs (cne y c e)⟩
  ·obtain ⟨w', z⟩ := I.cell y c e
   exact ⟨w', z.sameBut hs (cne y c e)⟩
  ·obtain ⟨e, n, ne, nf, d⟩ := I.pin p hp
   exact ⟨(hs.2 p.1 ne).trans e, n, ne, nf, d⟩
 ·have hfn : X.fn x = true := by
   rcases hf with z | z
   ·exact z
   ·rw [z] at hk; cases hk
  obtain ⟨c, hc⟩ := I.ok.has x (.inl hk)
  obtain ⟨w', z⟩ := I.cell x c hc
  refine wpAny_storeName_cell I.ok.kind hk hc z (fun h' hc' hs => ?_)
  obtain ⟨oc, hoc, hocd⟩ := id z
  refine h { s with heap := h' } ⟨I.ok, I.os, I.bare, ⟨fun b o e n hb hx => ?_, fun b o e n hb hx => ?_, I.base.free, fun b o e hx => ?_, I.base.tups, I.base.frzs, I.base.tbls⟩, ⟨m, hn.sameBut hs (Ne.symm (cne x c hc)), fun j y v' e1 e2 e3 => ?_⟩, fun y c' e => ?_, I.free, I.freeC, fun p hp => ?_, tracked ⟨oc, hoc, I.freeC x c hc⟩ hs, by simpa using I.len⟩ ⟨c, hs, .inr hc⟩
  ·exact (hs.2 b (Nat.ne_of_lt (Nat.lt_of_lt_of_le (Heap.lt_size e) (I.ok.cab x c hfn hc)))).trans (I.base.keep b o e n hb hx)
  ·obtain ⟨sl, e1⟩ := I.base.slot b o e n hb hx
   exact ⟨sl, (hs.2 b (Nat.ne_of_lt (Nat.lt_of_lt_of_le (Heap.lt_size e) (I.ok.cab x c hfn hc)))).trans e1⟩
  ·obtain ⟨o', e1⟩ := I.base.there b o e hx
   exact ⟨o', (hs.2 b (Nat.ne_of_lt (Nat.lt_of_lt_of_le (Heap.lt_size e) (I.ok.cab x c hfn hc)))).trans e1⟩
  ·by_cases hj : j = i
   ·subst hj
    rw [hi] at e1; cases e1
    rw [List.getElem?_set_self hiσ] at e2
    cases e2
    exact ⟨u, r, .inr ⟨.inl hk, c, hc, hc'⟩⟩
   ·rw [List.getElem?_set_ne (Ne.symm hj)] at e2
    obtain ⟨u', r', q⟩ := hl j y v' e1 e2 e3
    refine ⟨u', r', ?_⟩
    rcases q with q | ⟨k, c', e, z'⟩
    ·exact .inl q
    ·refine .inr ⟨k, c', e, z'.sameBut hs ?_⟩
     rintro rfl
     exact hj (gY0 hN e1 (I.ok.inj _ _ _ e hc ▸ hi))
  ·by_cases hcc : c' = c
   ·subst hcc; exact ⟨_, hc'⟩
   ·obtain ⟨w2, z2⟩ := I.cell y c' e
    exact ⟨w2, z2.sameBut hs hcc⟩
  ·obtain ⟨e, n, ne, nf, d⟩ := I.pin p hp
   refine ⟨(hs.2 p.1 ?_).trans e, n, ne, nf, d⟩
   intro q
   rw [q, hoc] at e
   have q' : oc = p.2 := Option.some.inj e
   exact d w' (by rw [<- q']; exact hocd)
theorem cG0 {M : Model} {A : Around} {E : Value -> Shared -> Prop} {i : Nat} {x : Str} {v : V} {u : Value} {Q : Unit -> Shared -> Prop} (I : Inv X pins σ H s) (hN : X.N.Nodup) (hi : X.N[i]? = some x) (hx : Loc X.env.scope x) (r : RelV v u)
  (h : ∀ s', Inv X pins (σ.set i (some v)) H s' -> Q () s') (hf : X.fn x = true \/ X.env.scope.names.lookup x = some .local := by first | exact .inl rfl | exact .inr rfl | assumption) : wpAny M A (storeName X.env x u) Q E s :=
 fH0 I hN hi hx r (fun s' I' _ => h s' I') hf
theorem Inv.call' {s' : Shared} {ch : List Addr} (I : Inv X pins σ H s) (ho : s'.os = s.os) (u : Un (frs X.stack) ch H H' s.heap s'.heap) (hok : HOk X.prog X.w H' s'.heap) (hg : AllBare s'.gens)
  (hch : ∀ b ∈ ch, (b ∈ X.ex \/ X.s₀.heap.objs.size <= b) /\ b ≠ X.env.locals /\ (∀ x c, X.env.cells.lookup x = some c -> c ≠ b) /\ ∀ p ∈ X.pn ++ pins, p.1 ≠ b) : Inv X pins σ H' s' := by
 obtain ⟨h', g', d', t', o'⟩ := s'
 have e : o' = s.os := ho
 subst e
 exact I.call (g' := g') (t' := t') (d' := d') u hok hg hch
end
abbrev XK := Value -> Option Addr -> Hp -> Prop
abbrev St := List (Option V)
abbrev VK := V -> Hp -> Prop
abbrev TE := St -> Hp -> VK -> Prop
abbrev TT := St -> Hp -> (Bool -> Hp -> Prop) -> Prop
abbrev TA := St -> Hp -> (List V -> Hp -> Prop) -> Prop
structure Ends where
 nx : St -> Hp -> Prop
 rt : VK
 bk : St -> Hp -> Prop := fun _ _ => False
 ct : St -> Hp -> Prop := fun _ _ => False
abbrev TS := Ends -> St -> Hp -> Prop
def EP (X : Cx) (pins : List (Addr × Obj)) (σ : St) (Q : VK) (u : Value) (s' : Shared) : Prop := ∃ v H', Inv X pins σ H' s' /\ RelV v u /\ Q v H'
def TP (X : Cx) (pins : List (Addr × Obj)) (σ : St) (Q : Bool -> Hp -> Prop) (b : Bool) (s' : Shared) : Prop := ∃ H', Inv X pins σ H' s' /\ Q b H'
def AP (X : Cx) (pins : List (Addr × Obj)) (σ : St) (Q : List V -> Hp -> Prop) (us : List Value) (s' : Shared) : Prop := ∃ vs H', Inv X pins σ H' s' /\ Vals vs us /\ Q vs H'
def SP (X : Cx) (pins : List (Addr × Obj)) (D : Ends) (f : Flow) (s' : Shared) : Prop :=
 match f with
 | .next => ∃ σ' H', Inv X pins σ' H' s' /\ D.nx σ' H'
 | .brk => ∃ σ' H', Inv X pins σ' H' s' /\ D.bk σ' H'
 | .cont => ∃ σ' H', Inv X pins σ' H' s' /\ D.ct σ' H'
 | .ret u => ∃ v σ' H', Inv X pins σ' H' s' /\ RelV v u /\ D.rt v H'
def PE (X : Cx) (e : Expr) (t : TE) : Prop :=
 ∀ (pins : List (Addr × Obj)) (s : Shared) (σ : St) (H : Hp) (Q : VK), Inv X pins σ H s -> t σ H Q -> wpAny (model X.prog X.w) X.A (eval e X.env) (EP X pins σ Q) X.xe s
def PT (X : Cx) (e : Expr) (t : TT) : Prop :=
 ∀ (pins : List (Addr × Obj)) (s : Shared) (σ : St) (H : Hp) (Q : Bool -> Hp -> Prop), Inv X pins σ H s -> t σ H Q -> wpAny (model X.prog X.w) X.A (isTrue e X.env (eval e X.env)) (TP X pins σ Q) X.xe s
def PW (X : Cx) (e : Expr) (t : TT) : Prop :=
 ∀ (whole : Sem Value) (pins : List (Addr × Obj)) (s : Shared) (σ : St) (H : Hp) (Q : Bool -> Hp -> Prop), Inv X pins σ H s -> t σ H Q -> wpAny (model X.prog X.w) X.A (isTrue e X.env whole) (TP X pins σ Q) X.xe s
theorem PW.pt {X : Cx} {e : Expr} {t : TT} (h : PW X e t) : PT X e t := h _
def PA (X : Cx) (es : List Expr) (t : TA) : Prop :=
 ∀ (pos : Pos) (pins : List (Addr × Obj)) (s : Shared) (σ : St) (H : Hp) (Q : List V -> Hp -> Prop), Inv X pins σ H s -> t σ H Q -> wpAny (model X.prog X.w) X.A (spliced (backTo pos (starEach es X.env))) (AP X pins σ Q) X.xe s
def PS (X : Cx) (st : Stmt) (t : TS) : Prop :=
 ∀ (pins : List (Addr × Obj)) (s : Shared) (σ : St) (H : Hp) (D : Ends), Inv X pins σ H s -> t D σ H -> wpAny (model X.prog X.w) X.A (exec st X.env) (SP X pins D) X.xe s
def PSs (X : Cx) (st : List Stmt) (t : TS) : Prop :=
 ∀ (pins : List (Addr × Obj)) (s : Shared) (σ : St) (H : Hp) (D : Ends), Inv X pins σ H s -> t D σ H -> wpAny (model X.prog X.w) X.A (execs st X.env) (SP X pins D) X.xe s
theorem thn {α : Type} {t : Sem α} {Q Q' : α -> Shared -> Prop} {M : Model} {A : Around} {E : Value -> Shared -> Prop} {s : Shared} (h : wpAny M A t Q E s) (hQ : ∀ a s, Q a s -> Q' a s) : wpAny M A t Q' E s := wpAny_mono h hQ fun _ _ x => x
end L2
namespace L2
open PySem PySem.Spec PyProof.Rows
section
variable {X : Cx}
theorem bin {a b : Expr} {ta tb : TE} (ha : PE X a ta) (hb : PE X b tb) {pins : List (Addr × Obj)} {s : Shared} {σ : St} {H : Hp} {R : V -> V -> Hp -> Prop} (I : Inv X pins σ H s) (h : ta σ H fun x H1 => tb σ H1 fun y H2 => R x y H2)
  {α : Type} {Q : α -> Shared -> Prop} {f : Value -> Value -> Sem α}
  (hf : ∀ v u s2 x y H2, Inv X pins σ H2 s2 -> RelV x v -> RelV y u -> R x y H2 -> wpAny (model X.prog X.w) X.A (f v u) Q X.xe s2) :
  wpAny (model X.prog X.w) X.A (eval a X.env) (fun v s₁ => wpAny (model X.prog X.w) X.A (eval b X.env) (fun u s₂ => wpAny (model X.prog X.w) X.A (f v u) Q X.xe s₂) X.xe s₁) X.xe s := by
 refine thn (ha pins s σ H _ I h) fun v s1 ⟨x, H1, I1, r1, q1⟩ => ?_
 refine thn (hb pins s1 σ H1 _ I1 q1) fun u s2 ⟨y, H2, I2, r2, q2⟩ => ?_
 exact hf v u s2 x y H2 I2 r1 r2 q2
def tVar (i : Nat) : TE := fun σ H Q => ∃ v, σ[i]? = some (some v) /\ Q v H
def tC (v : V) : TE := fun _ H Q => Q v H
theorem lg0 {i : Nat} {x : Str} {pos : Pos} (hN : X.N[i]? = some x) (hv : Vis X.env.scope x) (hd : (x == ("__debug__" : Str)) = false := by decide) (hcd : (x == ("__classdict__" : Str)) = false := by decide) : PE X (.Name x pos) (tVar i) := by
 intro pins s σ H Q I h
 obtain ⟨v, e, h⟩ := h
 obtain ⟨m, hn, hl⟩ := I.loc
 obtain ⟨u, r, l⟩ := hl i x v hN e hv
 have fin : EP X pins σ Q u s := ⟨v, H, I, r, h⟩
 rcases l with ⟨hk, hm⟩ | ⟨hk, c, hc, hcell⟩
 ·exact wpAny_Name (wpAny_loadName_local I.ok.kind hk hn hm fin) hd
 ·rcases hk with hk | hk
  ·exact wpAny_Name (wpAny_loadName_cell I.ok.kind hk hc hcell fin) hd
  ·exact wpAny_Name (wpAny_loadName_free I.ok.kind hk hc hcell fin hcd) hd
theorem nU0 {i j pos} : PE X (.Constant (.int i) j pos) (tC (.int i)) := fun _ _ _ H _ I h => wpAny_Constant_int ⟨.int i, H, I.tok _, ⟨_, rfl⟩, h⟩
theorem pe_bl {b j pos} : PE X (.Constant (.bool b) j pos) (tC (.bl b)) := fun _ _ _ H _ I h => Constant_bool ⟨.bl b, H, I, rfl, h⟩
theorem nt0 {j pos} : PE X (.Constant .none j pos) (tC .non) := fun _ _ _ H _ I h => Constant_none ⟨.non, H, I, rfl, h⟩
theorem jj0 {x j pos} : PE X (.Constant (.str x) j pos) (tC (.str x)) := fun _ _ _ H _ I h => Calls.Constant_str ⟨.str x, H, I.tok _, ⟨_, rfl⟩, h⟩
def Gl (X : Cx) (x : Str) : Prop := X.env.kindOf x = some .globalImplicit
theorem dV0 {E : Value -> Shared -> Prop} {pins : List (Addr × Obj)} {s : Shared} {σ : St} {H : Hp} {x : Str} {u : Value} {pos : Pos} {Q : Value -> Shared -> Prop} (I : Inv X pins σ H s) (hg : Gl X x) (hm : X.mg x = some u) (h : Q u s)
  (hd : (x == ("__debug__" : Str)) = false := by decide) : wpAny (model X.prog X.w) X.A (eval (.Name x pos) X.env) Q E s :=
 Calls.Name_function_global I.ok.kind hg (Calls.loadGlobal_global (by rw [I.ok.glob]; exact I.mod.glob.keeps I.bk) hm h) hd
theorem eF0 {E : Value -> Shared -> Prop} {pins : List (Addr × Obj)} {s : Shared} {σ : St} {H : Hp} {x : Str} {u : Value} {pos : Pos} {Q : Value -> Shared -> Prop} (I : Inv X pins σ H s) (hg : Gl X x) (hm : X.mg x = none) (hv : bootBuiltins x = some u) (h : Q u s)
  (hn : x ≠ "__name__" := by decide) (hd : (x == ("__debug__" : Str)) = false := by decide) : wpAny (model X.prog X.w) X.A (eval (.Name x pos) X.env) Q E s := by
 obtain ⟨mb, h1, h2⟩ := I.mod.blt
 exact Calls.Name_function_global I.ok.kind hg (Calls.loadGlobal_builtin (by rw [I.ok.glob]; exact I.mod.glob.keeps I.bk) hm (by rw [I.ok.blt]; exact h1.keeps I.bk) ((h2 x hn).trans hv) h) hd
theorem gn0 {x : Str} {v : V} {u : Value} {pos : Pos} (hg : Gl X x) (hm : X.mg x = some u) (r : RelV v u) (hd : (x == ("__debug__" : Str)) = false := by decide) : PE X (.Name x pos) (tC v) :=
 fun _ _ _ H _ I h => dV0 I hg hm ⟨v, H, I, r, h⟩ hd
theorem jm0 {x : Str} {v : V} {u : Value} {pos : Pos} (hg : Gl X x) (hm : X.mg x = none) (hv : bootBuiltins x = some u) (r : RelV v u) (hn : x ≠ "__name__" := by decide) (hd : (x == ("__debug__" : Str)) = false := by decide) : PE X (.Name x pos) (tC v) :=
 fun _ _ _ H _ I h => eF0 I hg hm hv ⟨v, H, I, r, h⟩ hn hd
variable {a b : Expr} {ta tb : TE} {pos : Pos}
def PC (X : Cx) (op : CmpOp) (a b : Expr) (t : TE) : Prop :=
 ∀ (pins : List (Addr × Obj)) (s : Shared) (σ : St) (H : Hp) (Q : VK), Inv X pins σ H s -> t σ H Q ->
  wpAny (model X.prog X.w) X.A (eval a X.env) (fun v s₁ => wpAny (model X.prog X.w) X.A (eval b X.env) (fun u s₂ => wpAny (model X.prog X.w) X.A (compareOp op v u) (EP X pins σ Q) X.xe s₂) X.xe s₁) X.xe s
def tB (t : TE) : TT := fun σ H Q => t σ H fun x H1 => ∃ c, x = .bl c /\ Q c H1
theorem pt_cmp {op : CmpOp} {t : TE} (h : PC X op a b t) (h1 : behindInMarks op b = false := by first | exact nobehind _ (by decide) (by decide) | rfl) : PT X (.Compare a [op] [b] pos) (tB t) := by
 intro pins s σ H Q I hw
 refine wpAny_isTrue_Compare1 (thn (h pins s σ H _ I hw) fun v s1 h1 => thn h1 fun u s2 h2 => thn h2 fun c s3 ⟨x, H1, I1, r1, q1⟩ => ?_) h1
 obtain ⟨d, rfl, q⟩ := q1
 cases r1
 exact wpAny_truthy_bool ⟨H1, I1, q⟩
theorem nX0 {e : Expr} {t : TE} (h : PE X e t) (he : ∀ whole, isTrue e X.env whole = (do let v <- whole; standAt e.pos; holding [v] (truthy v)) := by intro _; rfl) : PT X e (tB t) := by
 intro pins s σ H Q I hw
 refine isTrue_plain (thn (h pins s σ H _ I hw) fun v s1 ⟨x, H1, I1, r1, q1⟩ => ?_) (he _)
 obtain ⟨d, rfl, q⟩ := q1
 cases r1
 exact wpAny_truthy_bool ⟨H1, I1, q⟩
variable {tA tB' : TT} {rest : List Expr}
def tAnd (t u : TT) : TT := fun σ H Q => t σ H fun c H1 => if c = true then u σ H1 Q else Q false H1
def tOr (t u : TT) : TT := fun σ H Q => t σ H fun c H1 => if c = true then Q true H1 else u σ H1 Q
def tNot (t : TT) : TT := fun σ H Q => t σ H fun c H1 => Q (!c) H1
theorem lE0 (ha : PT X a tA) : PW X (.BoolOp .And [a] pos) tA := by
 intro wh pins s σ H Q I h
 refine isTrue_and (thn (ha pins s σ H Q I h) fun c s1 e => ?_)
 cases c with
 | true => exact isTrue_and_nil e
 | false => exact e
theorem nW0 (ha : PT X a tA) : PW X (.BoolOp .Or [a] pos) tA := by
 intro wh pins s σ H Q I h
 refine isTrue_or (thn (ha pins s σ H Q I h) fun c s1 e => ?_)
 cases c with
 | false => exact isTrue_or_nil e
 | true => exact e
theorem nh0 (ha : PT X a tA) (hb : PW X (.BoolOp .And (b :: rest) pos) tB') : PW X (.BoolOp .And (a :: b :: rest) pos) (tAnd tA tB') := by
 intro wh pins s σ H Q I h
 refine isTrue_and (thn (ha pins s σ H _ I h) fun c s1 ⟨H1, I1, q1⟩ => ?_)
 cases c with
 | true => exact hb wh pins s1 σ H1 Q I1 q1
 | false => exact ⟨H1, I1, q1⟩
theorem pw_or (ha : PT X a tA) (hb : PW X (.BoolOp .Or (b :: rest) pos) tB') : PW X (.BoolOp .Or (a :: b :: rest) pos) (tOr tA tB') := by
 intro wh pins s σ H Q I h
 refine isTrue_or (thn (ha pins s σ H _ I h) fun c s1 ⟨H1, I1, q1⟩ => ?_)
 cases c with
 | true => exact ⟨H1, I1, q1⟩
 | false => exact hb wh pins s1 σ H1 Q I1 q1
theorem nL0 (ha : PT X a tA) : PT X (.UnaryOp .Not a pos) (tNot tA) := by
 intro pins s σ H Q I h
 exact isTrue_not (ha pins s σ H (fun c H1 => Q (!c) H1) I h)
end
end L2
namespace L2
open PySem PySem.Spec PyProof.Rows
def SqL (K : PySem.W.Frag) (H : Hp) (a : Addr) (xs : List V) : Prop :=
 Rd H a (.lst xs) \/
  ∃ (o : Obj) (its : Array Value) (n : Nat), K.lookup a = some o /\ o.cls = .type "list" /\ o.dict = none /\ o.data = .seq its n /\ its.size <= sizeLine /\ Vals xs its.toList
def SqT (K : PySem.W.Frag) (H : Hp) (a : Addr) (xs : List V) : Prop :=
 Rd H a (.tup xs) \/
  ∃ (o : Obj) (its : Array Value) (n : Nat), K.lookup a = some o /\ o.cls = .type "tuple" /\ o.data = .seq its n /\ its.size <= sizeLine /\ Vals xs its.toList
def absV : Value -> Option V
 | .none => some .non
 | .bool b => some (.bl b)
 | .int i _ => some (.int i)
 | .str x _ => some (.str x)
 | .bytes b _ => some (.byt b)
 | .float b _ => some (.flt b)
 | .ref a => some (.ref a)
 | .type n => some (.ty n)
 | _ => none
theorem RelV.abs {x : V} {u : Value} (r : RelV x u) : absV u = some x := by
 cases x with
 | non => cases r; rfl
 | bl _ => cases r; rfl
 | int _ => obtain ⟨t, rfl⟩ := r; rfl
 | str _ => obtain ⟨t, rfl⟩ := r; rfl
 | byt _ => obtain ⟨t, rfl⟩ := r; rfl
 | flt _ => obtain ⟨t, rfl⟩ := r; rfl
 | ref _ => cases r; rfl
 | ty _ => cases r; rfl
theorem RelV.inj {x y : V} {u : Value} (r : RelV x u) (q : RelV y u) : x = y := Option.some.inj (r.abs.symm.trans q.abs)
theorem Vals.inj : ∀ {xs ys : List V} {us : List Value}, Vals xs us -> Vals ys us -> xs = ys
 | _, _, _, .nil, .nil => rfl
 | _, _, _, .cons r t, .cons r' t' => by rw [r.inj r', Vals.inj t t']
section
variable {X : Cx} {pins : List (Addr × Obj)} {σ : St} {H : Hp} {s : Shared} {a : Addr} {xs ys : List V}
theorem SqL.of {K : PySem.W.Frag} (h : H a = some (.lst xs)) : SqL K H a xs := .inl (.inl h)
theorem SqT.of {K : PySem.W.Frag} (h : H a = some (.tup xs)) : SqT K H a xs := .inl (.inl h)
theorem Inv.list (I : Inv X pins σ H s) (h : SqL X.K H a xs) : ∃ its : List Value, Vals xs its /\ PlainL s.heap a its.toArray /\ xs.length <= sizeLine := by
 rcases h with h | ⟨o, its, n, hk, hc, hd, hs, hz, r⟩
 ·obtain ⟨z, its, n, r, e⟩ := h.ok I.hok
  exact ⟨its, r, ⟨_, n, e, rfl, rfl, rfl⟩, z⟩
 ·refine ⟨its.toList, r, ⟨o, n, I.kIn a o hk, hc, hd, by simpa using hs⟩, ?_⟩
  have e := r.length
  simp only [Array.length_toList] at e
  omega
theorem Inv.tuple (I : Inv X pins σ H s) (h : SqT X.K H a xs) : ∃ its : List Value, Vals xs its /\ IsTup s.heap a its.toArray /\ xs.length <= sizeLine := by
 rcases h with h | ⟨o, its, n, hk, hc, hs, hz, r⟩
 ·obtain ⟨z, its, r, p⟩ := h.ok I.hok
  exact ⟨its, r, p.1, z⟩
 ·refine ⟨its.toList, r, ⟨o, I.kIn a o hk, hc, n, by simpa using hs⟩, ?_⟩
  have e := r.length
  simp only [Array.length_toList] at e
  omega
theorem Inv.list_inj (I : Inv X pins σ H s) (h : SqL X.K H a xs) (h' : SqL X.K H a ys) : xs = ys := by
 obtain ⟨its, r, ⟨o, n, e, _, _, d⟩, _⟩ := I.list h
 obtain ⟨its', r', ⟨o', n', e', _, _, d'⟩, _⟩ := I.list h'
 rw [e] at e'; cases e'
 rw [d] at d'
 injection d' with d1 _
 have : its = its' := by simpa using congrArg Array.toList d1
 subst this
 exact r.inj r'
end
abbrev Cx.wish (X : Cx) (E : Value -> Shared -> Prop) : Cx := { X with xe := E }
abbrev Cx.nox (X : Cx) : Cx := X.wish fun _ _ => False
theorem Cx.Ok.wish {X : Cx} (ok : X.Ok) (E : Value -> Shared -> Prop) : (X.wish E).Ok :=
 ⟨ok.mod, ok.kind, ok.glob, ok.blt, ok.above, ok.inj, ok.has, ok.cab, ok.hd, ok.frames, ok.stk, ok.exf, ok.bs, ok.bsz, ok.noex, ok.exfs, ok.funs, ok.frf⟩
theorem Cx.Ok.unwish {X : Cx} {E : Value -> Shared -> Prop} (ok : (X.wish E).Ok) : X.Ok :=
 ⟨ok.mod, ok.kind, ok.glob, ok.blt, ok.above, ok.inj, ok.has, ok.cab, ok.hd, ok.frames, ok.stk, ok.exf, ok.bs, ok.bsz, ok.noex, ok.exfs, ok.funs, ok.frf⟩
section
variable {X : Cx} {pins : List (Addr × Obj)} {σ : St} {H : Hp} {s : Shared} {E : Value -> Shared -> Prop}
theorem Inv.wish (I : Inv X pins σ H s) (E : Value -> Shared -> Prop) : Inv (X.wish E) pins σ H s := ⟨I.ok.wish E, I.os, I.bare, I.base, I.loc, I.cell, I.free, I.freeC, I.pin, I.hok, I.len⟩
theorem Inv.unwish (I : Inv (X.wish E) pins σ H s) : Inv X pins σ H s := ⟨I.ok.unwish, I.os, I.bare, I.base, I.loc, I.cell, I.free, I.freeC, I.pin, I.hok, I.len⟩
theorem SP.unwish {D : Ends} {f : Flow} {s' : Shared} (h : SP (X.wish E) pins D f s') : SP X pins D f s' := by
 cases f with
 | next => obtain ⟨σ', H', I, q⟩ := h; exact ⟨σ', H', I.unwish, q⟩
 | brk => obtain ⟨σ', H', I, q⟩ := h; exact ⟨σ', H', I.unwish, q⟩
 | cont => obtain ⟨σ', H', I, q⟩ := h; exact ⟨σ', H', I.unwish, q⟩
 | ret u => obtain ⟨v, σ', H', I, r, q⟩ := h; exact ⟨v, σ', H', I.unwish, r, q⟩
theorem PSs.nox {st : List Stmt} {t : TS} (h : PSs X.nox st t) : PSs X st t := fun pins s σ H D I hw =>
 wpAny_mono (h pins s σ H D (I.wish _) hw) (fun _ _ q => q.unwish) fun _ _ z => False.elim z
end
section
variable {X : Cx} {st : Stmt} {rest : List Stmt} {t u : TS} {e : Expr} {te : TE} {pos : Pos}
def tNext : TS := fun D σ H => D.nx σ H
def tSeq (t u : TS) : TS := fun D σ H => t { D with nx := u D } σ H
theorem lC0 : PSs X [] tNext := fun _ _ σ H _ I h => wpAny_execs_nil ⟨σ, H, I, h⟩
theorem kP0 (h1 : PS X st t) (h2 : PSs X rest u) : PSs X (st :: rest) (tSeq t u) := by
 intro pins s σ H D I h
 refine wpAny_execs_cons (thn (h1 pins s σ H { D with nx := u D } I h) fun f s1 q => ?_)
 cases f with
 | next =>
  obtain ⟨σ', H', I', q⟩ := q
  exact h2 pins s1 σ' H' D I' q
 | ret v => exact q
 | brk => exact q
 | cont => exact q
theorem lS0 (h1 : PS X st t) : PSs X [st] t := by
 intro pins s σ H D I h
 refine wpAny_execs_cons (thn (h1 pins s σ H D I h) fun f s1 q => ?_)
 cases f with
 | next => exact wpAny_execs_nil q
 | ret v => exact q
 | brk => exact q
 | cont => exact q
theorem Inv.quiet {pins : List (Addr × Obj)} {σ : St} {H : Hp} {s : Shared} (I : Inv X pins σ H s) : interactive X.env = false := by simp [interactive, I.ok.kind]
def tDrop (te : TE) : TS := fun D σ H => te σ H fun _ H1 => D.nx σ H1
theorem eP0 (he : PE X e te) (hs : swapsWith e none pos.line X.env = pure false := by rfl) : PS X (.Expr e pos) (tDrop te) := by
 intro pins s σ H D I h
 exact wpAny_Expr_any (thn (he pins s σ H _ I h) fun v s1 ⟨x, H1, I1, r1, q1⟩ => ⟨σ, H1, I1, q1⟩) I.quiet hs
def tRet (te : TE) : TS := fun D σ H => te σ H D.rt
theorem ii0 (he : PE X e te) : PS X (.Return (some e) pos) (tRet te) := by
 intro pins s σ H D I h
 exact wpAny_Return_some (thn (he pins s σ H _ I h) fun v s1 ⟨x, H1, I1, r1, q1⟩ => ⟨x, σ, H1, I1, r1, q1⟩)
def tIfS (c : TT) (t u : TS) : TS := fun D σ H => c σ H fun b H1 => if b = true then t D σ H1 else u D σ H1
theorem ps_if {c : Expr} {a b : List Stmt} {tc : TT} (hc : PT X c tc) (ha : PSs X a t) (hb : PSs X b u) : PS X (.If c a b pos) (tIfS tc t u) := by
 intro pins s σ H D I h
 refine wpAny_If (thn (hc pins s σ H _ I h) fun d s1 ⟨H1, I1, q1⟩ => ?_)
 cases d with
 | true => exact ha pins s1 σ H1 D I1 q1
 | false => exact hb pins s1 σ H1 D I1 q1
def kV0 : TS := fun _ _ _ => False
theorem kO0 : PS X st kV0 := fun _ _ _ _ _ _ h => h.elim
theorem iC0 {sts : List Stmt} : PSs X sts kV0 := fun _ _ _ _ _ _ h => h.elim
end
abbrev TG := V -> St -> Hp -> (St -> Hp -> Prop) -> Prop
abbrev TGs := List V -> St -> Hp -> (St -> Hp -> Prop) -> Prop
def PG (X : Cx) (target : Expr) (t : TG) : Prop :=
 ∀ (pins : List (Addr × Obj)) (s : Shared) (σ : St) (H : Hp) (v : V) (u : Value) (Q : St -> Hp -> Prop), Inv X pins σ H s -> RelV v u -> t v σ H Q ->
  wpAny (model X.prog X.w) X.A (assign target X.env u) (fun _ s' => ∃ σ' H', Inv X pins σ' H' s' /\ Q σ' H') X.xe s
def PGs (X : Cx) (ts : List Expr) (t : TGs) : Prop :=
 ∀ (pins : List (Addr × Obj)) (s : Shared) (σ : St) (H : Hp) (vs : List V) (us : List Value) (Q : St -> Hp -> Prop), Inv X pins σ H s -> Vals vs us -> t vs σ H Q ->
  wpAny (model X.prog X.w) X.A (assignInOrder ((assignEach ts X.env).map (·.2)) us) (fun _ s' => ∃ σ' H', Inv X pins σ' H' s' /\ Q σ' H') X.xe s
abbrev TSet := V -> V -> V -> Hp -> (Hp -> Prop) -> Prop
def PSet (X : Cx) (t : TSet) : Prop :=
 ∀ (pins : List (Addr × Obj)) (s : Shared) (σ : St) (H : Hp) (o i v : V) (ov iv u : Value) (Q : Hp -> Prop), Inv X pins σ H s -> RelV o ov -> RelV i iv -> RelV v u -> t o i v H Q ->
  wpAny (model X.prog X.w) X.A (setItem ov iv u) (fun _ s' => ∃ H', Inv X pins σ H' s' /\ Q H') X.xe s
section
variable {X : Cx} {pos : Pos}
def ea0 (i : Nat) : TG := fun v σ H Q => Q (σ.set i (some v)) H
theorem aI0 {i : Nat} {x : Str} (hN : X.N.Nodup) (hi : X.N[i]? = some x) (hx : Loc X.env.scope x) (hf : X.fn x = true \/ X.env.scope.names.lookup x = some .local := by first | exact .inl rfl | exact .inr rfl | assumption) : PG X (.Name x pos) (ea0 i) := by
 intro pins s σ H v u Q I r h
 exact wpAny_assign_Name (cG0 I hN hi hx r (fun s' I' => ⟨_, H, I', h⟩) hf)
def gNil : TGs := fun vs σ H Q => vs = [] /\ Q σ H
def jp0 (t : TG) (u : TGs) : TGs := fun vs σ H Q => ∃ v r, vs = v :: r /\ t v σ H fun σ' H' => u r σ' H' Q
theorem jl0 : PGs X [] gNil := by
 intro pins s σ H vs us Q I r h
 obtain ⟨e, h⟩ := h
 subst e
 cases r
 exact assignInOrder_nil ⟨σ, H, I, h⟩
theorem dP0 {e : Expr} {es : List Expr} {t : TG} {u : TGs} (h1 : PG X e t) (h2 : PGs X es u)
  (hs : (assignEach (e :: es) X.env).map (·.2) = assign e X.env :: (assignEach es X.env).map (·.2) := by rfl) : PGs X (e :: es) (jp0 t u) := by
 intro pins s σ H vs us Q I r h
 obtain ⟨v, vr, e1, h⟩ := h
 subst e1
 cases r with
 | cons r rr =>
  rw [hs]
  refine assignInOrder_cons (thn (h1 pins s σ H _ _ _ I r h) fun _ s1 ⟨σ1, H1, I1, q1⟩ => ?_)
  exact h2 pins s1 σ1 H1 _ _ Q I1 rr q1
def gTup (K : PySem.W.Frag) (n : Nat) (t : TGs) : TG := fun v σ H Q => ∃ a xs, v = .ref a /\ SqT K H a xs /\ xs.length = n /\ t xs σ H Q
theorem li0 {es : List Expr} {k : Nat} {t : TGs} {n : Nat} (hc : X.calm = true) (h : PGs X es t)
  (hn : (assignEach es X.env).length = n := by rfl) (hst : (assignEach es X.env).findIdx? (·.1) = none := by rfl) : PG X (.Tuple es k pos) (gTup X.K n t) := by
 intro pins s σ H v u Q I r hw
 obtain ⟨a, xs, e1, hq, hl, hw⟩ := hw
 subst e1
 cases r
 obtain ⟨its, rv, ht, hz⟩ := I.tuple hq
 refine assign_Tuple_tuple (I.ok.hd hc) ht (by simp [hn, <- hl, rv.length]) hst fun h' hx => ?_
 have I1 : Inv X pins σ H { s with heap := h' } := I.kept (t' := s.toks) fun b o e => hx b o (Nat.ne_of_lt (Heap.lt_size e)) e
 exact h pins _ σ H xs _ Q I1 (by simpa using rv) hw
def gSub (to ti : TE) (t : TSet) : TG := fun v σ H Q => to σ H fun o H1 => ti σ H1 fun i H2 => t o i v H2 fun H3 => Q σ H3
theorem mS0 {o i : Expr} {to ti : TE} {t : TSet} (ho : PE X o to) (hi : PE X i ti) (hs : PSet X t)
  (ha : ∀ v, assign (.Subscript o i pos) X.env v = (do
   let ov <- holding [v] (eval o X.env)
   let iv <- holding [v, ov] (eval i X.env)
   standAt pos
   holding [v, ov, iv] (setItem ov iv v)
   release [v, ov, iv] []) := by intro _; rfl) : PG X (.Subscript o i pos) (gSub to ti t) := by
 intro pins s σ H v u Q I r h
 rw [ha]
 refine wpAny_bind (wpAny_holding (thn (ho pins s σ H _ I h) fun ov s1 ⟨x, H1, I1, r1, q1⟩ => ?_))
 refine wpAny_bind (wpAny_holding (thn (hi pins s1 σ H1 _ I1 q1) fun iv s2 ⟨y, H2, I2, r2, q2⟩ => ?_))
 refine wpAny_bind (wpAny_standAt (wpAny_bind (wpAny_holding (thn (hs pins s2 σ H2 x y v ov iv u _ I2 r1 r2 r q2) fun _ s3 ⟨H3, I3, q3⟩ => ?_))))
 exact wpAny_release ⟨σ, H3, I3, q3⟩
def tAsg (te : TE) (g : TG) : TS := fun D σ H => te σ H fun x H1 => g x σ H1 D.nx
theorem nn0 {tg e : Expr} {te : TE} {g : TG} (he : PE X e te) (hg : PG X tg g) (hs : swapsWithSole [tg] e pos.line X.env = pure false := by rfl) (hw : swappedStores [tg] e X.env = pure none := by rfl)
  (h1 : (assignEach [tg] X.env).map (·.2) = [assign tg X.env] := by rfl) : PS X (.Assign [tg] e pos) (tAsg te g) := by
 intro pins s σ H D I h
 refine wpAny_Assign_stores (thn (he pins s σ H _ I h) fun v s1 ⟨x, H1, I1, r1, q1⟩ => ?_) hs hw
 rw [h1]
 exact thn (hg pins s1 σ H1 x v _ I1 r1 q1) fun _ s2 q => q
theorem kY0 {i : Nat} {x : Str} {e : Expr} {te : TE} {pos' : Pos} (hN : X.N.Nodup) (hi : X.N[i]? = some x) (hx : Loc X.env.scope x) (he : PE X e te) (hs : swapsWith e (some (.Name x pos')) pos.line X.env = pure false := by rfl) (hf : X.fn x = true \/ X.env.scope.names.lookup x = some .local := by first | exact .inl rfl | exact .inr rfl | assumption) :
  PS X (.Assign [.Name x pos'] e pos) (tAsg te (ea0 i)) := by
 intro pins s σ H D I h
 refine wpAny_Assign_Name (thn (he pins s σ H _ I h) fun v s1 ⟨y, H1, I1, r1, q1⟩ => ?_) hs
 exact cG0 I1 hN hi hx r1 (fun s2 I2 => ⟨_, H1, I2, q1⟩) hf
end
section
variable {X : Cx} {pos : Pos}
end
structure It where
 go : Nat -> Hp -> Prop
 yld : Nat -> Hp -> V -> Hp -> Prop
 stop : Nat -> Hp -> Prop
def FpOk (X : Cx) (pins : List (Addr × Obj)) (H : Hp) (b : Addr) : Prop :=
 H b = none /\ b ≠ X.env.locals /\ b ∉ X.fs /\ (b ∈ X.ex \/ X.s₀.heap.objs.size <= b) /\ (∀ x c, X.env.cells.lookup x = some c -> c ≠ b) /\ ∀ p ∈ X.pn ++ pins, p.1 ≠ b
theorem Inv.fpOk {X : Cx} {pins : List (Addr × Obj)} {σ : St} {H H' : Hp} {s : Shared} {b : Addr} (I : Inv X pins σ H s) (hb : s.heap.objs.size <= b) (hn : H' b = none) : FpOk X pins H' b := by
 refine ⟨hn, Nat.ne_of_gt (Nat.lt_of_lt_of_le I.lt hb), I.nofs hb, .inr (Nat.le_trans I.sz hb), fun x c e z => ?_, fun p hp z => ?_⟩
 ·obtain ⟨v, q⟩ := I.cell x c e
  exact absurd (Nat.lt_of_lt_of_le q.lt (by rw [z]; exact hb)) (Nat.lt_irrefl _)
 ·exact absurd (Nat.lt_of_lt_of_le (Heap.lt_size (I.pin p hp).1) (by rw [z]; exact hb)) (Nat.lt_irrefl _)
structure Turn (P : Program) (w : World) (K : PySem.W.Frag) (tg : Expr) (J : It) (fp : List Addr) (it : Addr) (tn : Nat -> Heap -> Prop) : Prop where
 mem : it ∈ fp
 obj : ∀ i h, tn i h -> ∀ b ∈ fp, ∃ o, h.get? b = some o /\ ∀ v, o.data ≠ .cell v
 keep : ∀ i h h', tn i h -> (∀ b ∈ fp, ∀ o, h.get? b = some o -> h'.get? b = some o) -> tn i h'
 item : ∀ (X : Cx), X.prog = P -> X.w = w -> X.K = K -> X.calm = true -> ∀ (i : Nat) (pins : List (Addr × Obj)) (s : Shared) (σ : St) (H : Hp) (E : Value -> Shared -> Prop), Inv X pins σ H s -> (∀ b ∈ fp, FpOk X pins H b) -> tn i s.heap -> J.go i H ->
  wpAny (model P w) X.A (pyNext (.ref it)) (fun r s1 => ∃ u, r = some u /\
   wpAny (model P w) X.A (letOwnedTupleGo tg (.ref it) u) (fun _ s2 => ∃ x H', Inv X pins σ H' s2 /\ RelV x u /\ J.yld i H x H' /\ tn (i + 1) s2.heap /\ ∀ b ∈ fp, H' b = none) E s1) E s
 done : ∀ (X : Cx), X.prog = P -> X.w = w -> X.K = K -> X.calm = true -> ∀ (i : Nat) (pins : List (Addr × Obj)) (s : Shared) (σ : St) (H : Hp) (E : Value -> Shared -> Prop), Inv X pins σ H s -> (∀ b ∈ fp, FpOk X pins H b) -> tn i s.heap -> J.stop i H ->
  wpAny (model P w) X.A (pyNext (.ref it)) (fun r s1 => r = none /\ Inv X pins σ H s1) E s
 self : ∀ (A : Around) (i : Nat) (s : Shared) (Q : Value -> Shared -> Prop) (E : Value -> Shared -> Prop), tn i s.heap -> Q (.ref it) s -> wpAny (model P w) A (pyIter (.ref it)) Q E s
abbrev TI := St -> Hp -> (It -> Hp -> Prop) -> Prop
def PIE (X : Cx) (pins : List (Addr × Obj)) (σ : St) (tg : Expr) (R : It -> Hp -> Prop) (itv : Value) (s2 : Shared) : Prop :=
 ∃ (it : Addr) (fp : List Addr) (tn : Nat -> Heap -> Prop) (J : It) (H' : Hp), itv = .ref it /\ Inv X pins σ H' s2 /\ Turn X.prog X.w X.K tg J fp it tn /\ tn 0 s2.heap /\ (∀ b ∈ fp, FpOk X pins H' b) /\ R J H'
def PI (X : Cx) (tg iter : Expr) (wi : TI) : Prop :=
 ∀ (pins : List (Addr × Obj)) (s : Shared) (σ : St) (H : Hp) (R : It -> Hp -> Prop), Inv X pins σ H s -> wi σ H R ->
  wpAny (model X.prog X.w) X.A (eval iter X.env) (fun v s1 => wpAny (model X.prog X.w) X.A (pyIter v) (PIE X pins σ tg R) X.xe s1) X.xe s
theorem go_of {M : Model} {A : Around} {E : Value -> Shared -> Prop} {s : Shared} {tg : Expr} {it : Addr} {u : Value} {o : Obj} {n : String} {vs : Array Value} {Q : Unit -> Shared -> Prop} (ho : s.heap.get? it = some o) (hc : o.cls = .type n) (hd : o.data = .fields vs)
    (hn : ["enumerate", "zip", "dict_itemiterator", "dict_reverseitemiterator", "odict_iterator", "itertools.zip_longest", "itertools.pairwise"].contains n = false) (hQ : Q () s) : wpAny M A (letOwnedTupleGo tg (.ref it) u) Q E s := by
  unfold letOwnedTupleGo
  cases tg <;> first
    | exact wpAny_pure hQ
    | (cases u <;> first
        | exact wpAny_pure hQ
        | (refine wpAny_bind (wpAny_load ho ?_)
           rw [hc, hd]
           show wpAny M A (if (["enumerate", "zip", "dict_itemiterator", "dict_reverseitemiterator", "odict_iterator", "itertools.zip_longest", "itertools.pairwise"].contains n && vs[0]? == some (rawInt _)) = true then _ else _) Q E s
           rw [if_neg (by intro h; rw [hn, Bool.false_and] at h; cases h)]
           exact wpAny_pure hQ))
def Itl (K : PySem.W.Frag) (a : Addr) : It :=
 ⟨fun i H => ∃ xs x, SqL K H a xs /\ xs[i]? = some x, fun i H x H' => H' = H /\ ∀ xs, SqL K H a xs -> xs[i]? = some x, fun i H => ∃ xs, SqL K H a xs /\ xs.length <= i⟩
def Itr (lo : Int) (n : Nat) : It := ⟨fun i _ => i < n, fun i H x H' => H' = H /\ x = .int (lo + i), fun i _ => n <= i⟩
theorem iA0 {P : Program} {w : World} {K : PySem.W.Frag} {tg : Expr} (a it : Addr) : Turn P w K tg (Itl K a) [it] it (fun i h => h.IsListIter it a i) where
 mem := by simp
 obj := fun i h st b hb => by
  have e : b = it := by simpa using hb
  subst e
  obtain ⟨o, e, c, d⟩ := st
  exact ⟨o, e, fun v z => by rw [d] at z; cases z⟩
 keep := fun i h h' st k => st.at fun o e => k it (by simp) o e
 item := by
  intro X hP hw hK hc i pins s σ H E I hf st hg
  subst hP hw hK
  obtain ⟨xs, x, hq, hx⟩ := hg
  obtain ⟨its, rv, p, hz⟩ := I.list hq
  obtain ⟨u, hu, ru⟩ := rv.get hx
  obtain ⟨f0, f1, f2, f3, f4, f5⟩ := hf it (by simp)
  refine wpAny_pyNext_list_item st p.isList (x := u) (by simpa using hu) fun h' st' sb => ?_
  have I1 : Inv X pins σ H { s with heap := h' } := I.turned (t' := s.toks) (fun b o hb e => (sb.2 b hb).trans e) f0 f1 f3 f4 f5
  obtain ⟨o, e, c, d⟩ := id st'
  exact ⟨u, rfl, go_of (s := { s with heap := h' }) e c d (by decide) ⟨x, H, I1, ru, ⟨rfl, fun ys hy => by rw [I.list_inj hy hq]; exact hx⟩, st', fun b hb => (hf b hb).1⟩⟩
 done := by
  intro X hP hw hK hc i pins s σ H E I hf st hg
  subst hP hw hK
  obtain ⟨xs, hq, hx⟩ := hg
  obtain ⟨its, rv, p, hz⟩ := I.list hq
  obtain ⟨f0, f1, f2, f3, f4, f5⟩ := hf it (by simp)
  have hl := rv.length
  exact wpAny_pyNext_list_end (I.ok.hd hc) st p.isList (by simp; omega) fun h' eb => ⟨rfl, I.turned (t' := s.toks) (fun b o hb e => eb b o hb e) f0 f1 f3 f4 f5⟩
 self := fun _ _ _ _ _ st h => wpAny_pyIter_listiter st h
theorem hU0 {P : Program} {w : World} {K : PySem.W.Frag} {tg : Expr} (it : Addr) (lo : Int) (n : Nat) : Turn P w K tg (Itr lo n) [it] it (fun i h => IsRangeIter h it (lo + (i : Nat) * 1) ((n : Int) - (i : Nat)) 1) where
 mem := by simp
 obj := fun i h st b hb => by
  have e : b = it := by simpa using hb
  subst e
  exact ⟨_, st, fun v z => by
   have z' : Data.fields _ = Data.cell v := z
   cases z'⟩
 keep := fun i h h' st k => k it (by simp) _ st
 item := by
  intro X hP hw hK hc i pins s σ H E I hf st hg
  subst hP hw hK
  obtain ⟨f0, f1, f2, f3, f4, f5⟩ := hf it (by simp)
  have W := Walks.range (prog := X.prog) (w := X.w) (I.ok.hd hc) it lo 1 n
  refine W.item i s _ _ hg st fun v h' tk hv st' kk => ?_
  obtain ⟨t, rfl⟩ := hv
  have I1 : Inv X pins σ H { s with heap := h', toks := tk } := I.turned (fun b o hb e => kk b o (by simpa using hb) e) f0 f1 f3 f4 f5
  refine ⟨_, rfl, go_of (s := { s with heap := h', toks := tk }) (n := "range_iterator") st' rfl rfl (by decide) ⟨.int (lo + i), H, I1, ⟨t, ?_⟩, ⟨rfl, rfl⟩, st', fun b hb => (hf b hb).1⟩⟩
  rw [Int.mul_one]
 done := by
  intro X hP hw hK hc i pins s σ H E I hf st hg
  subst hP hw hK
  obtain ⟨f0, f1, f2, f3, f4, f5⟩ := hf it (by simp)
  exact wpAny_pyNext_range_end (I.ok.hd hc) st (by have : n <= i := hg; omega) fun h' eb => ⟨rfl, I.turned (t' := s.toks) (fun b o hb e => eb b o hb e) f0 f1 f3 f4 f5⟩
 self := fun _ _ _ _ _ st h => wpAny_pyIter_rangeiter st h
end L2
namespace L2
open PySem PySem.Spec PyProof.Rows
section
variable {X : Cx} {tg : Expr}
def iList (K : PySem.W.Frag) (tl : TE) : TI := fun σ H R => tl σ H fun x H1 => ∃ a, x = .ref a /\ (∃ xs, SqL K H1 a xs) /\ R (Itl K a) H1
theorem mA0 {l : Expr} {tl : TE} (hl : PE X l tl) : PI X tg l (iList X.K tl) := by
 intro pins s σ H R I h
 refine thn (hl pins s σ H _ I h) fun v s1 ⟨x, H1, I1, r1, q1⟩ => ?_
 obtain ⟨a, e, ⟨xs, hq⟩, q⟩ := q1
 subst e
 cases r1
 obtain ⟨its, rv, p, hz⟩ := I1.list hq
 refine wpAny_pyIter_list p.isList ?_
 refine ⟨s1.heap.objs.size, [s1.heap.objs.size], _, _, H1, rfl, I1.kept (t' := s1.toks) fun b o e => Heap.get?_push_of_some _ e, iA0 a _, ⟨_, Heap.get?_push_size _ rfl, rfl, rfl⟩, fun b hb => ?_, q⟩
 have e : b = s1.heap.objs.size := by simpa using hb
 subst e
 exact I1.fpOk (Nat.le_refl _) (I1.hok.fresh (Nat.le_refl _))
theorem kj0 {pins : List (Addr × Obj)} {σ : St} {H : Hp} {s : Shared} {R : It -> Hp -> Prop} {E : Value -> Shared -> Prop} {lo hi : Int} {t u v : Tok} {tk : Nat} (I : Inv X pins σ H s) (h1 : -(2 ^ 62) <= lo) (h2 : lo < 2 ^ 62) (h3 : -(2 ^ 62) <= hi) (h4 : hi < 2 ^ 62)
  (q : R (Itr lo (hi - lo).toNat) H) : wpAny (model X.prog X.w) X.A (pyIter (.ref s.heap.objs.size)) (PIE X pins σ tg R) E { s with heap := s.heap.push { cls := .type "range", data := .fields #[.int lo t, .int hi u, .int 1 v] }, toks := tk } := by
 refine wpAny_pyIter_range (IsRange.new ..) (small_one h1 h2 h3 h4) ?_
 have I1 : Inv X pins σ H { s with heap := s.heap.push { cls := .type "range", data := .fields #[.int lo t, .int hi u, .int 1 v] }, toks := tk } := I.kept fun b o e => Heap.get?_push_of_some _ e
 refine ⟨(s.heap.push { cls := .type "range", data := .fields #[.int lo t, .int hi u, .int 1 v] }).objs.size, [(s.heap.push { cls := .type "range", data := .fields #[.int lo t, .int hi u, .int 1 v] }).objs.size], _, _, H, rfl,
  I1.kept (t' := tk) fun b o e => Heap.get?_push_of_some _ e, hU0 _ lo (hi - lo).toNat, ?_, fun b hb => ?_, q⟩
 ·have e1 : lo + ((0 : Nat) : Int) * 1 = lo := by simp
  have e2 : (((hi - lo).toNat : Nat) : Int) - ((0 : Nat) : Int) = Builtin.Range.rangeSize lo hi 1 := by rw [rangeSize_one]; split <;> omega
  show IsRangeIter _ _ (lo + ((0 : Nat) : Int) * 1) ((((hi - lo).toNat : Nat) : Int) - ((0 : Nat) : Int)) 1
  rw [e1, e2]
  exact Heap.get?_push_size _ rfl
 ·have e : b = (s.heap.push { cls := .type "range", data := .fields #[.int lo t, .int hi u, .int 1 v] }).objs.size := by simpa using hb
  subst e
  exact I1.fpOk (Nat.le_refl _) (I1.hok.fresh (Nat.le_refl _))
def iRng1 (ta : TA) : TI := fun σ H R => ta σ H fun vs H1 => ∃ j : Int, vs = [.int j] /\ -(2 ^ 62) <= j /\ j < 2 ^ 62 /\ R (Itr 0 j.toNat) H1
theorem iw0 {a : Expr} {ta : TA} {p pos : Pos} (hg : Gl X "range") (hm : X.mg "range" = none) (ha : PA X [a] ta) (hs : starEach [a] X.env = [(false, eval a X.env)] := by rfl) : PI X tg (.Call (.Name "range" p) [a] [] pos) (iRng1 ta) := by
 intro pins s σ H R I h
 refine Call_ (eF0 I hg hm boot_range (PyProof.Rows.callWith_type1 (thn (ha pos pins s σ H _ I h) fun us s1 ⟨vs, H1, I1, r1, q1⟩ => ?_) hs rfl))
 obtain ⟨j, e, q1, q2, q⟩ := q1
 subst e
 cases r1 with
 | cons r rr =>
  cases rr
  obtain ⟨t, rfl⟩ := r
  exact call_range_1 (kj0 I1 (by omega) (by omega) q1 q2 (by simpa using q))
def tFor (wi : TI) (g : TG) (tb : TS) : TS := fun D σ H => wi σ H fun J H1 => ∃ W : Nat -> Nat -> St -> Hp -> Prop, (∃ m, W 0 m σ H1) /\ ∀ i m σ H, W i m σ H ->
 (J.stop i H /\ D.nx σ H) \/ (J.go i H /\ ∃ N : St -> Hp -> Prop, (∀ σ' H', N σ' H' -> ∃ m', m' < m /\ W (i + 1) m' σ' H') /\ ∀ x H', J.yld i H x H' -> g x σ H' fun σ2 H2 => tb { D with nx := N, ct := N, bk := D.nx } σ2 H2)
def eg0 (fp : List Addr) (h : Heap) : List (Addr × Obj) := fp.filterMap fun b => (h.get? b).map fun o => (b, o)
theorem bN0 {fp : List Addr} {h : Heap} {b : Addr} {o : Obj} (hb : b ∈ fp) (e : h.get? b = some o) : (b, o) ∈ eg0 fp h := List.mem_filterMap.mpr ⟨b, hb, by rw [e]; rfl⟩
theorem fW0 {fp : List Addr} {h : Heap} {p : Addr × Obj} (hp : p ∈ eg0 fp h) : p.1 ∈ fp /\ h.get? p.1 = some p.2 := by
 obtain ⟨b, hb, e⟩ := List.mem_filterMap.mp hp
 cases q : h.get? b with
 | none => rw [q] at e; cases e
 | some o =>
  rw [q] at e
  have e' : (b, o) = p := Option.some.inj e
  subst e'
  exact ⟨hb, q⟩
theorem Inv.pinned {pins : List (Addr × Obj)} {σ : St} {H : Hp} {s : Shared} {fp : List Addr} (I : Inv X pins σ H s) (hf : ∀ b ∈ fp, FpOk X pins H b) (ho : ∀ b ∈ fp, ∃ o, s.heap.get? b = some o /\ ∀ v, o.data ≠ .cell v) : Inv X (pins ++ eg0 fp s.heap) σ H s :=
 I.pins_of fun p hp => (List.mem_append.mp hp).elim (fun z => I.pin p (List.mem_append_right _ z)) fun z => by
  obtain ⟨hb, e⟩ := fW0 z
  obtain ⟨f0, f1, f2, _⟩ := hf p.1 hb
  obtain ⟨o, e', d⟩ := ho p.1 hb
  rw [e] at e'; cases e'
  exact ⟨e, f0, f1, f2, d⟩
theorem Inv.unpinned {pins pl : List (Addr × Obj)} {σ : St} {H : Hp} {s : Shared} (I : Inv X (pins ++ pl) σ H s) : Inv X pins σ H s := I.pins_of fun p hp => I.pin p (List.mem_append_right _ (List.mem_append_left _ hp))
theorem ng0 {iter : Expr} {body : List Stmt} {wi : TI} {g : TG} {tb : TS} {pos : Pos} (hp : PassesOwn (model X.prog X.w) X.A X.env X.xe) (hc : X.calm = true) (hi : PI X tg iter wi) (hg : PG X tg g) (hb : PSs X body tb)
  (hs : ∀ x, foldedSetIterable iter X.env x = pure x := by intro _; rfl) : PS X (.For tg iter body [] pos) (tFor wi g tb) := by
 intro pins s σ H D I h
 refine wpAny_For (thn (hi pins s σ H _ I h) fun v s1 h1 => thn h1 fun itv s2 h2 => ?_) hs
 obtain ⟨it, fp, tn, J, H2, e, I2, T, st2, f2, W, ⟨m0, w0⟩, turn⟩ := h2
 subst e
 -- what stays true of the iterator's objects through the loop
 have stat : ∀ {H' : Hp}, (∀ b ∈ fp, H' b = none) -> ∀ b ∈ fp, FpOk X pins H' b := fun hn b hb => ⟨hn b hb, (f2 b hb).2⟩
 refine codeAny_forLoop_any (fun n s' => ∃ i σ' H', Inv X pins σ' H' s' /\ tn i s'.heap /\ (∀ b ∈ fp, H' b = none) /\ W i n σ' H') ?_ m0 ⟨0, σ, H2, I2, st2, fun b hb => (f2 b hb).1, w0⟩
 rintro n s3 ⟨i, σ3, H3, I3, st3, fr3, w3⟩
 rcases turn i n σ3 H3 w3 with ⟨stop, qn⟩ | ⟨go, N, hN, step⟩
 ·refine wpAny_passesOwn hp (thn (T.done X rfl rfl rfl hc i pins s3 σ3 H3 X.xe I3 (stat fr3) st3 stop) fun r s4 ⟨hr, I4⟩ => ?_)
  subst hr
  exact wpAny_execs_nil ⟨σ3, H3, I4, qn⟩
 ·refine wpAny_passesOwn hp (thn (T.item X rfl rfl rfl hc i pins s3 σ3 H3 X.xe I3 (stat fr3) st3 go) fun r s4 ⟨u, hr, h4⟩ => ?_)
  subst hr
  refine wpAny_passesOwn hp (thn h4 fun _ s5 ⟨x, H5, I5, r5, y5, st5, fr5⟩ => ?_)
  have I5' := I5.pinned (stat fr5) (T.obj _ _ st5)
  refine wpAny_passesOwn hp (thn (hg _ s5 σ3 H5 x u _ I5' r5 (step x H5 y5)) fun _ s6 ⟨σ6, H6, I6, q6⟩ => ?_)
  refine wpAny_passesOwn hp (thn (hb _ s6 σ6 H6 _ I6 q6) fun f s7 q7 => ?_)
  have again : ∀ {σ7 : St} {H7 : Hp}, Inv X (pins ++ eg0 fp s5.heap) σ7 H7 s7 -> N σ7 H7 -> ∃ m, m < n /\ ∃ i σ' H', Inv X pins σ' H' s7 /\ tn i s7.heap /\ (∀ b ∈ fp, H' b = none) /\ W i m σ' H' := fun {σ7 H7} I7 n7 => by
   obtain ⟨m', hm, w7⟩ := hN σ7 H7 n7
   refine ⟨m', hm, i + 1, σ7, H7, I7.unpinned, T.keep _ _ _ st5 fun b hb o e => (I7.pin (b, o) (List.mem_append_right _ (List.mem_append_right _ (bN0 hb e)))).1, fun b hb => ?_, w7⟩
   obtain ⟨o, e, d⟩ := T.obj _ _ st5 b hb
   exact (I7.pin (b, o) (List.mem_append_right _ (List.mem_append_right _ (bN0 hb e)))).2.1
  cases f with
  | next => obtain ⟨σ7, H7, I7, n7⟩ := q7; exact again I7 n7
  | cont => obtain ⟨σ7, H7, I7, n7⟩ := q7; exact again I7 n7
  | brk => obtain ⟨σ7, H7, I7, q7⟩ := q7; exact ⟨σ7, H7, I7.unpinned, q7⟩
  | ret v => obtain ⟨x7, σ7, H7, I7, r7, q7⟩ := q7; exact ⟨x7, σ7, H7, I7.unpinned, r7, q7⟩
end
end L2
namespace L2
open PySem PySem.Spec PyProof.Rows
abbrev R2 := V -> V -> Hp -> VK -> Prop
def OpR (X : Cx) (f : Value -> Value -> Sem Value) (r : R2) : Prop :=
 ∀ (pins : List (Addr × Obj)) (s : Shared) (σ : St) (H : Hp) (x y : V) (v u : Value) (Q : VK), Inv X pins σ H s -> RelV x v -> RelV y u -> r x y H Q ->
  wpAny (model X.prog X.w) X.A (f v u) (EP X pins σ Q) X.xe s
def UnR (X : Cx) (f : Value -> Sem Value) (r : V -> Hp -> VK -> Prop) : Prop :=
 ∀ (pins : List (Addr × Obj)) (s : Shared) (σ : St) (H : Hp) (x : V) (v : Value) (Q : VK), Inv X pins σ H s -> RelV x v -> r x H Q ->
  wpAny (model X.prog X.w) X.A (f v) (EP X pins σ Q) X.xe s
def cM0 (X : Cx) (f : Value) (r : List V -> Hp -> VK -> Prop) : Prop :=
 ∀ (pins : List (Addr × Obj)) (s : Shared) (σ : St) (H : Hp) (xs : List V) (us : List Value) (Q : VK), Inv X pins σ H s -> Vals xs us -> r xs H Q ->
  wpAny (model X.prog X.w) X.A (call f us) (EP X pins σ Q) X.xe s
def TruR (X : Cx) (r : V -> Hp -> (Bool -> Hp -> Prop) -> Prop) : Prop :=
 ∀ (pins : List (Addr × Obj)) (s : Shared) (σ : St) (H : Hp) (x : V) (v : Value) (Q : Bool -> Hp -> Prop), Inv X pins σ H s -> RelV x v -> r x H Q ->
  wpAny (model X.prog X.w) X.A (truthy v) (TP X pins σ Q) X.xe s
def tOp (r : R2) (ta tb : TE) : TE := fun σ H Q => ta σ H fun x H1 => tb σ H1 fun y H2 => r x y H2 Q
def tUn (r : V -> Hp -> VK -> Prop) (ta : TE) : TE := fun σ H Q => ta σ H fun x H1 => r x H1 Q
def rI (C : Int -> Int -> Prop) (g : Int -> Int -> V) : R2 := fun x y H Q => ∃ i j, x = .int i /\ y = .int j /\ C i j /\ Q (g i j) H
def rI0 (g : Int -> Int -> V) : R2 := fun x y H Q => ∃ i j, x = .int i /\ y = .int j /\ Q (g i j) H
def rU (g : Int -> V) : V -> Hp -> VK -> Prop := fun x H Q => ∃ i, x = .int i /\ Q (g i) H
section
variable {X : Cx} {a b c : Expr} {ta tb tc : TE} {pos : Pos}
theorem binT (ha : PE X a ta) (hb : PE X b tb) {pins : List (Addr × Obj)} {s : Shared} {σ : St} {H : Hp} {R : V -> V -> Hp -> Prop} (I : Inv X pins σ H s)
  (h : ta σ H fun x H1 => tb σ H1 fun y H2 => R x y H2) {Q : Value -> Shared -> Prop} {f : Value -> Value -> Sem Value}
  (hf : ∀ v u s2 x y H2, Inv X pins σ H2 s2 -> RelV x v -> RelV y u -> R x y H2 -> wpAny (model X.prog X.w) X.A (f v u) Q X.xe s2) :
  wpAny (model X.prog X.w) X.A (eval a X.env) (fun v s₁ => wpAny (model X.prog X.w) X.A (eval b X.env) (fun u s₂ => wpAny (model X.prog X.w) X.A (f v u) Q X.xe s₂) X.xe s₁) X.xe s := by
 refine thn (ha pins s σ H _ I h) fun v s1 ⟨x, H1, I1, r1, q1⟩ => ?_
 refine thn (hb pins s1 σ H1 _ I1 q1) fun u s2 ⟨y, H2, I2, r2, q2⟩ => ?_
 exact hf v u s2 x y H2 I2 r1 r2 q2
theorem pe_op {op : Operator} {r : R2} (ho : OpR X (binaryOp op) r) (ha : PE X a ta) (hb : PE X b tb) : PE X (.BinOp a op b pos) (tOp r ta tb) := by
 intro pins s σ H Q I h
 exact wpAny_BinOp (binT ha hb I h fun v u s2 x y H2 I2 rx ry q => ho pins s2 σ H2 x y v u Q I2 rx ry q)
theorem pe_un {op : UnaryOp} {r : V -> Hp -> VK -> Prop} (ho : UnR X (unaryOp op) r) (ha : PE X a ta) : PE X (.UnaryOp op a pos) (tUn r ta) := by
 intro pins s σ H Q I h
 exact UnaryOp_ (thn (ha pins s σ H _ I h) fun v s1 ⟨x, H1, I1, r1, q1⟩ => ho pins s1 σ H1 x v Q I1 r1 q1)
theorem opI {f : Value -> Value -> Sem Value} {C : Int -> Int -> Prop} {g : Int -> Int -> Int}
  (rule : ∀ (i j : Int) (t u : Tok) (s : Shared) (Q : Value -> Shared -> Prop) (E : Value -> Shared -> Prop), C i j -> Q (.int (g i j) s.toks) { s with toks := s.toks + 1 } -> wpAny (model X.prog X.w) X.A (f (.int i t) (.int j u)) Q E s) :
  OpR X f (rI C fun i j => .int (g i j)) := by
 intro pins s σ H x y v u Q I rx ry h
 obtain ⟨i, j, rfl, rfl, hc, q⟩ := h
 obtain ⟨t, rfl⟩ := rx
 obtain ⟨t', rfl⟩ := ry
 exact rule i j t t' s _ _ hc ⟨.int (g i j), H, I.tok _, ⟨_, rfl⟩, q⟩
theorem opI0 {f : Value -> Value -> Sem Value} {g : Int -> Int -> Int}
  (rule : ∀ (i j : Int) (t u : Tok) (s : Shared) (Q : Value -> Shared -> Prop) (E : Value -> Shared -> Prop), Q (.int (g i j) s.toks) { s with toks := s.toks + 1 } -> wpAny (model X.prog X.w) X.A (f (.int i t) (.int j u)) Q E s) :
  OpR X f (rI0 fun i j => .int (g i j)) := by
 intro pins s σ H x y v u Q I rx ry h
 obtain ⟨i, j, rfl, rfl, q⟩ := h
 obtain ⟨t, rfl⟩ := rx
 obtain ⟨t', rfl⟩ := ry
 exact rule i j t t' s _ _ ⟨.int (g i j), H, I.tok _, ⟨_, rfl⟩, q⟩
theorem opB0 {f : Value -> Value -> Sem Value} {g : Int -> Int -> Bool}
  (rule : ∀ (i j : Int) (t u : Tok) (s : Shared) (Q : Value -> Shared -> Prop) (E : Value -> Shared -> Prop), Q (.bool (g i j)) s -> wpAny (model X.prog X.w) X.A (f (.int i t) (.int j u)) Q E s) :
  OpR X f (rI0 fun i j => .bl (g i j)) := by
 intro pins s σ H x y v u Q I rx ry h
 obtain ⟨i, j, rfl, rfl, q⟩ := h
 obtain ⟨t, rfl⟩ := rx
 obtain ⟨t', rfl⟩ := ry
 exact rule i j t t' s _ _ ⟨.bl (g i j), H, I, rfl, q⟩
def CDiv (i j : Int) : Prop := 0 < j /\ j < 1073741824
def CMul (i j : Int) : Prop := (-(2 ^ 64) < i /\ i < 2 ^ 64) \/ (-(2 ^ 64) < j /\ j < 2 ^ 64)
theorem CMul.ok {i j : Int} (h : CMul i j) : IntMulOk i j := by
 rcases h with ⟨h1, h2⟩ | ⟨h1, h2⟩
 ·exact .of_left (intBits_le_64 h1 h2)
 ·exact .of_right (intBits_le_64 h1 h2)
theorem nv0 : OpR X (binaryOp .Add) (rI0 fun i j => .int (i + j)) := opI0 fun _ _ _ _ _ _ _ q => add_int q
theorem mY0 : OpR X (binaryOp .Sub) (rI0 fun i j => .int (i - j)) := opI0 fun _ _ _ _ _ _ _ q => sub_int q
theorem nJ0 : OpR X (binaryOp .Mult) (rI CMul fun i j => .int (i * j)) := opI fun _ _ _ _ _ _ _ hc q => mul_int q hc.ok
theorem ll0 : OpR X (binaryOp .FloorDiv) (rI CDiv fun i j => .int (i / j)) := opI fun i j _ _ _ _ _ hc q => by
 have h1 : (0 : Int) < j := hc.1
 have h2 : j < 1073741824 := hc.2
 exact floordiv_int (by omega) (by rw [Int.fdiv_eq_ediv_of_nonneg i (by omega)]; exact q) (.inl (PyProof.noPylong_small (by omega)))
theorem nc0 : OpR X (binaryOp .Mod) (rI (fun _ j => 0 < j) fun i j => .int (i % j)) := opI fun i j _ _ _ _ _ hc q => by
 have h1 : (0 : Int) < j := hc
 exact mod_int' (by omega) (by rw [Int.fmod_eq_emod_of_nonneg i (by omega)]; exact q)
theorem unI {f : Value -> Sem Value} {g : Int -> Int}
  (rule : ∀ (i : Int) (t : Tok) (s : Shared) (Q : Value -> Shared -> Prop) (E : Value -> Shared -> Prop), Q (.int (g i) s.toks) { s with toks := s.toks + 1 } -> wpAny (model X.prog X.w) X.A (f (.int i t)) Q E s) :
  UnR X f (rU fun i => .int (g i)) := by
 intro pins s σ H x v Q I rx h
 obtain ⟨i, rfl, q⟩ := h
 obtain ⟨t, rfl⟩ := rx
 exact rule i t s _ _ ⟨.int (g i), H, I.tok _, ⟨_, rfl⟩, q⟩
theorem np0 : UnR X (unaryOp .USub) (rU fun i => .int (-i)) := unI fun _ _ _ _ _ q => neg_int q
end
def scal : V -> V -> Bool
 | .non, .non => true | .non, .int _ => true | .int _, .non => true | .non, .bl _ => true | .bl _, .non => true | .non, .str _ => true | .str _, .non => true
 | .int _, .int _ => true | .bl _, .bl _ => true | .str _, .str _ => true | .byt _, .byt _ => true
 | .int _, .str _ => true | .str _, .int _ => true | .bl _, .str _ => true | .str _, .bl _ => true
 | _, _ => false
def rEq : R2 := fun x y H Q => scal x y = true /\ Q (.bl (decide (x = y))) H
def rNe : R2 := fun x y H Q => scal x y = true /\ Q (.bl (!decide (x = y))) H
theorem iZ0 {i j : Int} : decide (V.int i = V.int j) = (i == j) := by
 rw [Bool.eq_iff_iff]
 simp
theorem ld0 {i j : Bool} : decide (V.bl i = V.bl j) = (i == j) := by
 rw [Bool.eq_iff_iff]
 simp
theorem jt0 {i j : Str} : decide (V.str i = V.str j) = (i == j) := by
 rw [Bool.eq_iff_iff]
 simp
theorem iD0 {i j : Array UInt8} : decide (V.byt i = V.byt j) = (i.toList == j.toList) := by
 rw [Bool.eq_iff_iff]
 cases i
 cases j
 simp
section
variable {X : Cx} {a b c : Expr} {ta tb tc : TE} {pos : Pos}
theorem aJ0 {pins : List (Addr × Obj)} {σ : St} {H : Hp} {s : Shared} {Q : VK} {k k' : Bool} (I : Inv X pins σ H s) (q : Q (.bl k) H) (e : k = k') : EP X pins σ Q (.bool k') s := by
 subst e
 exact ⟨.bl k, H, I, rfl, q⟩
theorem op_eq : OpR X (compareOp .Eq) rEq := by
 intro pins s σ H x y v u Q I rx ry h
 obtain ⟨hs, q⟩ := h
 cases x with
 | non =>
  cases rx
  cases y with
  | non => cases ry; exact PySem.EqNone.eq_none_none (aJ0 I q (by simp))
  | bl j => cases ry; exact PySem.EqNone.eq_none_bool (aJ0 I q (by simp))
  | int j => obtain ⟨t', rfl⟩ := ry; exact PySem.EqNone.eq_none_int (aJ0 I q (by simp))
  | str j => obtain ⟨t', rfl⟩ := ry; exact PySem.EqNone.eq_none_str (aJ0 I q (by simp))
  | _ => exact absurd (show false = true from hs) Bool.false_ne_true
 | bl i =>
  cases rx
  cases y with
  | non => cases ry; exact PySem.EqNone.eq_bool_none (aJ0 I q (by simp))
  | bl j => cases ry; exact eq_bool (aJ0 I q ld0)
  | str j => obtain ⟨t', rfl⟩ := ry; exact PySem.EqMixed.eq_bool_str (aJ0 I q (by simp))
  | _ => exact absurd (show false = true from hs) Bool.false_ne_true
 | int i =>
  obtain ⟨t, rfl⟩ := rx
  cases y with
  | non => cases ry; exact PySem.EqNone.eq_int_none (aJ0 I q (by simp))
  | int j => obtain ⟨t', rfl⟩ := ry; exact eq_int (aJ0 I q iZ0)
  | str j => obtain ⟨t', rfl⟩ := ry; exact PySem.EqMixed.eq_int_str (aJ0 I q (by simp))
  | _ => exact absurd (show false = true from hs) Bool.false_ne_true
 | str i =>
  obtain ⟨t, rfl⟩ := rx
  cases y with
  | non => cases ry; exact PySem.EqNone.eq_str_none (aJ0 I q (by simp))
  | bl j => cases ry; exact PySem.EqMixed.eq_str_bool (aJ0 I q (by simp))
  | int j => obtain ⟨t', rfl⟩ := ry; exact PySem.EqMixed.eq_str_int (aJ0 I q (by simp))
  | str j => obtain ⟨t', rfl⟩ := ry; exact eq_str (aJ0 I q jt0)
  | _ => exact absurd (show false = true from hs) Bool.false_ne_true
 | byt i =>
  obtain ⟨t, rfl⟩ := rx
  cases y with
  | byt j => obtain ⟨t', rfl⟩ := ry; exact PySem.W.eq_bytes (aJ0 I q iD0)
  | _ => exact absurd (show false = true from hs) Bool.false_ne_true
 | _ => cases y <;> exact absurd (show false = true from hs) Bool.false_ne_true
theorem op_ne : OpR X (compareOp .NotEq) rNe := by
 intro pins s σ H x y v u Q I rx ry h
 obtain ⟨hs, q⟩ := h
 cases x with
 | non =>
  cases rx
  cases y with
  | non => cases ry; exact PySem.EqNone.ne_none_none (aJ0 I q (by simp))
  | bl j => cases ry; exact PySem.EqNone.ne_none_bool (aJ0 I q (by simp))
  | int j => obtain ⟨t', rfl⟩ := ry; exact PySem.EqNone.ne_none_int (aJ0 I q (by simp))
  | str j => obtain ⟨t', rfl⟩ := ry; exact PySem.EqNone.ne_none_str (aJ0 I q (by simp))
  | _ => exact absurd (show false = true from hs) Bool.false_ne_true
 | bl i =>
  cases rx
  cases y with
  | non => cases ry; exact PySem.EqNone.ne_bool_none (aJ0 I q (by simp))
  | bl j => cases ry; exact ne_bool (aJ0 I q (congrArg not ld0))
  | str j => obtain ⟨t', rfl⟩ := ry; exact PySem.EqMixed.ne_bool_str (aJ0 I q (by simp))
  | _ => exact absurd (show false = true from hs) Bool.false_ne_true
 | int i =>
  obtain ⟨t, rfl⟩ := rx
  cases y with
  | non => cases ry; exact PySem.EqNone.ne_int_none (aJ0 I q (by simp))
  | int j => obtain ⟨t', rfl⟩ := ry; exact ne_int (aJ0 I q (congrArg not iZ0))
  | str j => obtain ⟨t', rfl⟩ := ry; exact PySem.EqMixed.ne_int_str (aJ0 I q (by simp))
  | _ => exact absurd (show false = true from hs) Bool.false_ne_true
 | str i =>
  obtain ⟨t, rfl⟩ := rx
  cases y with
  | non => cases ry; exact PySem.EqNone.ne_str_none (aJ0 I q (by simp))
  | bl j => cases ry; exact PySem.EqMixed.ne_str_bool (aJ0 I q (by simp))
  | int j => obtain ⟨t', rfl⟩ := ry; exact PySem.EqMixed.ne_str_int (aJ0 I q (by simp))
  | str j => obtain ⟨t', rfl⟩ := ry; exact ne_str (aJ0 I q (congrArg not jt0))
  | _ => exact absurd (show false = true from hs) Bool.false_ne_true
 | byt i =>
  obtain ⟨t, rfl⟩ := rx
  cases y with
  | byt j => obtain ⟨t', rfl⟩ := ry; exact PySem.W.ne_bytes (aJ0 I q (congrArg not iD0))
  | _ => exact absurd (show false = true from hs) Bool.false_ne_true
 | _ => cases y <;> exact absurd (show false = true from hs) Bool.false_ne_true
theorem op_lt : OpR X (compareOp .Lt) (rI0 fun i j => .bl (decide (i < j))) := opB0 fun _ _ _ _ _ _ _ q => lt_int q
theorem mg0 : OpR X (compareOp .LtE) (rI0 fun i j => .bl (decide (i <= j))) := opB0 fun _ _ _ _ _ _ _ q => le_int q
theorem op_gt : OpR X (compareOp .Gt) (rI0 fun i j => .bl (decide (j < i))) := opB0 fun _ _ _ _ _ _ _ q => gt_int q
theorem op_ge : OpR X (compareOp .GtE) (rI0 fun i j => .bl (decide (j <= i))) := opB0 fun _ _ _ _ _ _ _ q => ge_int q
theorem OpR.or {f : Value -> Value -> Sem Value} {r r' : R2} (h : OpR X f r) (h' : OpR X f r') : OpR X f (fun x y H Q => r x y H Q \/ r' x y H Q) := by
 intro pins s σ H x y v u Q I rx ry q
 rcases q with q | q
 ·exact h pins s σ H x y v u Q I rx ry q
 ·exact h' pins s σ H x y v u Q I rx ry q
theorem ey0 (b : Expr) {op : CmpOp} (h : op ≠ .In := by decide) (h2 : op ≠ .NotIn := by decide) : behindInMarks op b = false := by
 have e1 : (op == CmpOp.In) = false := by cases op <;> first | rfl | exact absurd rfl h
 have e2 : (op == CmpOp.NotIn) = false := by cases op <;> first | rfl | exact absurd rfl h2
 cases b <;> simp [behindInMarks, e1, e2]
def mz0 (t : TE) : TT := fun σ H Q => t σ H fun x H' => ∃ k, x = .bl k /\ Q k H'
theorem lX0 {op : CmpOp} {r : R2} (ho : OpR X (compareOp op) r) (ha : PE X a ta) (hb : PE X b tb) (hm : behindInMarks op b = false) : PT X (.Compare a [op] [b] pos) (mz0 (tOp r ta tb)) := by
 intro pins s σ H Q I h
 refine wpAny_isTrue_Compare1 (thn (ha pins s σ H _ I h) fun v s1 ⟨x, H1, I1, r1, q1⟩ => thn (hb pins s1 σ H1 _ I1 q1) fun u s2 ⟨y, H2, I2, r2, q2⟩ =>
  thn (ho pins s2 σ H2 x y v u _ I2 r1 r2 q2) fun c s3 ⟨z, H3, I3, r3, k, e, q3⟩ => ?_) hm
 subst e
 cases r3
 exact wpAny_truthy_bool ⟨H3, I3, q3⟩
def jB0 (r r' : R2) (ta tb tc : TE) : TE := fun σ H Q => ta σ H fun x H1 => tb σ H1 fun y H2 => r x y H2 fun z H3 => ∃ k, z = .bl k /\
 (if k = true then tc σ H3 fun w' H4 => r' y w' H4 Q else Q (.bl false) H3)
theorem kE0 {op op' : CmpOp} {r r' : R2} (ho : OpR X (compareOp op) r) (ho' : OpR X (compareOp op') r') (ha : PE X a ta) (hb : PE X b tb) (hc : PE X c tc)
  (hm : lastMarks [op, op'] [b, c] = false := by with_unfolding_all rfl) : PE X (.Compare a [op, op'] [b, c] pos) (jB0 r r' ta tb tc) := by
 intro pins s σ H Q I h
 refine Compare_chain (thn (ha pins s σ H _ I h) fun v s1 ⟨x, H1, I1, r1, q1⟩ => chain_link (thn (hb pins s1 σ H1 _ I1 q1) fun u s2 ⟨y, H2, I2, r2, q2⟩ =>
  thn (ho pins s2 σ H2 x y v u _ I2 r1 r2 q2) fun d s3 ⟨z, H3, I3, r3, k, e, q3⟩ => ?_)) hm
 subst e
 cases r3
 refine wpAny_truthy_bool ?_
 cases k with
 | false => exact ite_ff ⟨.bl false, H3, I3, rfl, q3⟩
 | true => exact ite_tt (chain_last (thn (hc pins s3 σ H3 _ I3 q3) fun w' s4 ⟨z', H4, I4, r4, q4⟩ => ho' pins s4 σ H4 y z' u w' Q I4 r2 r4 q4))
theorem kr0 {op op' : CmpOp} {r r' : R2} (ho : OpR X (compareOp op) r) (ho' : OpR X (compareOp op') r') (ha : PE X a ta) (hb : PE X b tb) (hc : PE X c tc)
  (hm : lastMarks [op, op'] [b, c] = false := by with_unfolding_all rfl) : PT X (.Compare a [op, op'] [b, c] pos) (mz0 (jB0 r r' ta tb tc)) := by
 intro pins s σ H Q I h
 refine isTrue_chain (thn (ha pins s σ H _ I h) fun v s1 ⟨x, H1, I1, r1, q1⟩ => test_link (thn (hb pins s1 σ H1 _ I1 q1) fun u s2 ⟨y, H2, I2, r2, q2⟩ =>
  thn (ho pins s2 σ H2 x y v u _ I2 r1 r2 q2) fun d s3 ⟨z, H3, I3, r3, k, e, q3⟩ => ?_)) hm
 subst e
 cases r3
 refine wpAny_truthy_bool ?_
 cases k with
 | false =>
  obtain ⟨k', e', q'⟩ := q3
  cases e'
  exact ite_ff ⟨H3, I3, q'⟩
 | true =>
  refine ite_tt (test_last (thn (hc pins s3 σ H3 _ I3 q3) fun w' s4 ⟨z', H4, I4, r4, q4⟩ => thn (ho' pins s4 σ H4 y z' u w' _ I4 r2 r4 q4) fun d' s5 ⟨z2, H5, I5, r5, k2, e2, q5⟩ => ?_))
  subst e2
  cases r5
  exact wpAny_truthy_bool ⟨H5, I5, q5⟩
def TruV (K : PySem.W.Frag) (x : V) (H : Hp) (k : Bool) : Prop :=
 match x with
 | .non => k = false
 | .bl b => k = b
 | .int i => k = (i != 0)
 | .str y => y.length <= sizeLine /\ k = ((y.length : Int) != 0)
 | .byt y => y.size <= sizeLine /\ k = ((y.size : Int) != 0)
 | .ref p => (∃ xs, SqL K H p xs /\ k = !xs.isEmpty) \/ (∃ xs, SqT K H p xs /\ k = !xs.isEmpty) \/ ∃ kvs, H p = some (.dK kvs) /\ k = !kvs.isEmpty
 | _ => False
theorem hA0 {κ : Type} {kvs : List (κ × V)} {vs : List (κ × Value)} (r : KV kvs vs) : (!vs.isEmpty) = !kvs.isEmpty := by
 cases r <;> rfl
theorem ex0 {xs : List V} {its : List Value} (r : Vals xs its) : (!its.toArray.isEmpty) = !xs.isEmpty := by
 cases r <;> simp
theorem eE0 : (sizeLine : Nat) < 2 ^ 63 := by rw [sizeLine_eq]; decide
theorem tru_ok : TruR X (fun x H Q => ∃ k, TruV X.K x H k /\ Q k H) := by
 intro pins s σ H x v Q I rx h
 obtain ⟨k, e, q⟩ := h
 have hl := eE0
 have hs : sizeLine = 16777216 := sizeLine_eq
 cases x with
 | non =>
  cases rx
  have e' : k = false := e
  subst e'
  exact truthy_none ⟨H, I, q⟩
 | bl b =>
  cases rx
  have e' : k = b := e
  subst e'
  exact wpAny_truthy_bool ⟨H, I, q⟩
 | int i =>
  obtain ⟨t, rfl⟩ := rx
  have e' : k = (i != 0) := e
  subst e'
  exact PySem.P.truthy_int ⟨H, I, q⟩
 | str y =>
  obtain ⟨t, rfl⟩ := rx
  obtain ⟨hy, e'⟩ : y.length <= sizeLine /\ k = ((y.length : Int) != 0) := e
  subst e'
  exact PySem.P.truthy_str (by omega) ⟨H, I.tok _, q⟩
 | byt y =>
  obtain ⟨t, rfl⟩ := rx
  obtain ⟨hy, e'⟩ : y.size <= sizeLine /\ k = ((y.size : Int) != 0) := e
  subst e'
  exact PySem.W.truthy_bytes (by omega) ⟨H, I.tok _, q⟩
 | ref p =>
  cases rx
  have e' : (∃ xs, SqL X.K H p xs /\ k = !xs.isEmpty) \/ (∃ xs, SqT X.K H p xs /\ k = !xs.isEmpty) \/ ∃ kvs, H p = some (.dK kvs) /\ k = !kvs.isEmpty := e
  rcases e' with ⟨xs, hx, e'⟩ | ⟨xs, hx, e'⟩ | ⟨kvs, hx, e'⟩
  ·subst e'
   obtain ⟨its, r, pl, hz⟩ := I.list hx
   have hlen := r.length
   exact wpAny_truthy_list pl.isList (by simp only [List.size_toArray]; omega) ⟨H, I.tok _, by rw [ex0 r]; exact q⟩
  ·subst e'
   obtain ⟨its, r, pl, hz⟩ := I.tuple hx
   have hlen := r.length
   exact truthy_tuple pl (by simp only [List.size_toArray]; omega) ⟨H, I.tok _, by rw [ex0 r]; exact q⟩
  ·subst e'
   obtain ⟨hz, hS, vs, r, m⟩ : kvs.length <= sizeLine /\ (p == sysModules) = false /\ ∃ vs, KV kvs vs /\ s.heap.DictOf (ay0 X.prog X.w) p vs := I.hok p _ hx
   have hlen : kvs.length = vs.length := Paired.length r
   exact wpAny_truthy_dict hS m (by omega) ⟨H, I.tok _, by rw [hA0 r]; exact q⟩
 | _ => exact (show False from e).elim
theorem hC0 : OpR X (binaryOp .Add) (fun x y H Q => ∃ i j, x = .str i /\ y = .str j /\ i.length + j.length <= sizeLine /\ Q (.str (i ++ j)) H) := by
 intro pins s σ H x y v u Q I rx ry h
 obtain ⟨i, j, rfl, rfl, hz, q⟩ := h
 obtain ⟨t, rfl⟩ := rx
 obtain ⟨t', rfl⟩ := ry
 exact add_str (fun t' tk => ⟨.str (i ++ j), H, I.tok _, ⟨_, rfl⟩, q⟩) hz
theorem hT0 {x : V} {us : List Value} (r : Vals [x] us) : ∃ u, us = [u] /\ RelV x u := by
 cases r with
 | cons r1 r2 => cases r2; exact ⟨_, rfl, r1⟩
theorem jw0 {x y : V} {us : List Value} (r : Vals [x, y] us) : ∃ u w', us = [u, w'] /\ RelV x u /\ RelV y w' := by
 cases r with
 | cons r1 r2 =>
  cases r2 with
  | cons r3 r4 => cases r4; exact ⟨_, _, rfl, r1, r3⟩
theorem iH0 (hc : X.calm = true) : cM0 X (.builtin "max") (fun xs H Q => ∃ i j, xs = [.int i, .int j] /\ Q (.int (if j > i then j else i)) H) := by
 intro pins s σ H xs us Q I r h
 obtain ⟨i, j, rfl, q⟩ := h
 obtain ⟨u, w', rfl, ⟨t, rfl⟩, ⟨t', rfl⟩⟩ := jw0 r
 refine max_two_ints (I.ok.hd hc) fun h' tk k => ⟨_, H, I.kept k, ?_, q⟩
 by_cases hj : j > i
 ·rw [if_pos hj, if_pos hj]; exact ⟨_, rfl⟩
 ·rw [if_neg hj, if_neg hj]; exact ⟨_, rfl⟩
theorem jy0 (hc : X.calm = true) : cM0 X (.builtin "min") (fun xs H Q => ∃ i j, xs = [.int i, .int j] /\ Q (.int (if j < i then j else i)) H) := by
 intro pins s σ H xs us Q I r h
 obtain ⟨i, j, rfl, q⟩ := h
 obtain ⟨u, w', rfl, ⟨t, rfl⟩, ⟨t', rfl⟩⟩ := jw0 r
 refine min_two_ints (I.ok.hd hc) fun h' tk k => ⟨_, H, I.kept k, ?_, q⟩
 by_cases hj : j < i
 ·rw [if_pos hj, if_pos hj]; exact ⟨_, rfl⟩
 ·rw [if_neg hj, if_neg hj]; exact ⟨_, rfl⟩
theorem fG0 : cM0 X (.type "str") (fun xs H Q => ∃ i, xs = [.int i] /\ i.natAbs.log2 < 1920 /\ Q (.str (toString i)) H) := by
 intro pins s σ H xs us Q I r h
 obtain ⟨i, rfl, hz, q⟩ := h
 obtain ⟨u, rfl, t, rfl⟩ := hT0 r
 exact PySem.P.str_of_int hz ⟨.str _, H, I.tok _, ⟨_, rfl⟩, q⟩
def LenV (K : PySem.W.Frag) (x : V) (H : Hp) (n : Nat) : Prop :=
 match x with
 | .str y => y.length <= sizeLine /\ n = y.length
 | .byt y => y.size <= sizeLine /\ n = y.size
 | .ref p => (∃ xs, SqL K H p xs /\ n = xs.length) \/ ∃ xs, SqT K H p xs /\ n = xs.length
 | _ => False
theorem kK0 : cM0 X (.builtin "len") (fun xs H Q => ∃ x n, xs = [x] /\ LenV X.K x H n /\ Q (.int n) H) := by
 intro pins s σ H xs us Q I r h
 obtain ⟨x, n, rfl, e, q⟩ := h
 obtain ⟨u, rfl, rx⟩ := hT0 r
 have hl := eE0
 have hs : sizeLine = 16777216 := sizeLine_eq
 cases x with
 | str y =>
  obtain ⟨t, rfl⟩ := rx
  obtain ⟨hy, e'⟩ : y.length <= sizeLine /\ n = y.length := e
  subst e'
  exact len_str (by omega) ⟨.int _, H, I.tok _, ⟨_, rfl⟩, q⟩
 | byt y =>
  obtain ⟨t, rfl⟩ := rx
  obtain ⟨hy, e'⟩ : y.size <= sizeLine /\ n = y.size := e
  subst e'
  exact PySem.W.len_bytes (by omega) ⟨.int _, H, I.tok _, ⟨_, rfl⟩, q⟩
 | ref p =>
  cases rx
  have e' : (∃ xs, SqL X.K H p xs /\ n = xs.length) \/ ∃ xs, SqT X.K H p xs /\ n = xs.length := e
  rcases e' with ⟨xs, hx, e'⟩ | ⟨xs, hx, e'⟩
  ·subst e'
   obtain ⟨its, r', pl, hz⟩ := I.list hx
   have hlen := r'.length
   exact Calls.call_len_list pl.isList (by simp only [List.size_toArray]; omega) ⟨.int xs.length, H, I.tok _, ⟨_, by simp only [List.size_toArray]; rw [hlen]⟩, q⟩
  ·subst e'
   obtain ⟨its, r', pl, hz⟩ := I.tuple hx
   have hlen := r'.length
   exact len_tuple pl (by simp only [List.size_toArray]; omega) ⟨.int xs.length, H, I.tok _, ⟨_, by simp only [List.size_toArray]; rw [hlen]⟩, q⟩
 | _ => exact (show False from e).elim
end
end L2
namespace L2
open PySem PySem.Spec PyProof.Rows
structure ObjM (h : Heap) (x dx C : Addr) (mA : Str -> Option Value) : Prop where
 obj : h.get? x = some (PySem.W.instObj C dx)
 ns : h.Ns1 dx mA
 ne : dx ≠ x
theorem if0 {h : Heap} {dx : Addr} {mA : Str -> Option Value} (n : h.Ns1 dx mA) : ∃ od, h.get? dx = some od /\ ∀ name, PySem.W.lookIn name od = some (mA name) := by
 obtain ⟨o, es, ep, ho, hd, hk, _, hm⟩ := n
 refine ⟨o, ho, fun name => ?_⟩
 have e := hm name
 unfold nsFind findBy at e
 rw [<- Array.find?_toList] at e
 unfold PySem.W.lookIn
 rw [hd]
 dsimp only
 split
 ·rename_i y q
  rw [q] at e
  exact congrArg some e
 ·rename_i q
  rw [q] at e
  have a : es.toList.any (·.refKey) = false := by
   rw [List.any_eq_false]
   intro y hy
   obtain ⟨z, t, hkey⟩ := hk y (Array.mem_toList_iff.mp hy)
   simp [DictEntry.refKey, hkey]
  have a' : ¬ es.toList.any (·.refKey) = true := by rw [a]; exact Bool.false_ne_true
  rw [if_neg a']
  exact congrArg some e
theorem ObjM.look {h : Heap} {x dx C : Addr} {mA : Str -> Option Value} (I : ObjM h x dx C mA) : ∃ od, PySem.W.InstAt h x (PySem.W.instObj C dx) C (some od) /\ ∀ name, PySem.W.lookIn name od = some (mA name) :=
 let ⟨od, ho, hl⟩ := if0 I.ns
 ⟨od, ⟨I.obj, rfl, rfl, ho⟩, hl⟩
section
variable {prog : Program} {w : World} {A : Around} {E : Value -> Shared -> Prop} {s : Shared} {K : PySem.W.Frag} {x dx C f : Addr} {mA : Str -> Option Value} {name : Str} {v : Value}
theorem lO0 {expr : Bool} {Q : Value -> Shared -> Prop} (X : K.In s.heap) (I : ObjM s.heap x dx C mA) (hg : PySem.W.plainGet K C name = true) (hh : PySem.W.hasDictIn K C = true)
  (ha : PySem.W.findIn K (.ref C) name = some none) (hv : mA name = some v) (hv' : PySem.W.handedIn v = true) (h : Q v { s with toks := s.toks + 1 }) :
  wpAny (model prog w) A (getAttr (.ref x) name expr) Q E s := by
 obtain ⟨od, J, hl⟩ := I.look
 exact PySem.W.get_value X J (PySem.W.plainGet_of hg).1 (PySem.W.findObj_own hh ha rfl (by rw [hl, hv])) hv' h
theorem lH0 {ns : List Str} {Q : Unit -> Shared -> Prop} (X : K.In s.heap) (I : ObjM s.heap x dx C mA)
  (hs : PySem.W.findIn K (.ref C) "__setattr__" = some (some (.builtin "object.__setattr__"))) (hp : PySem.W.plainOver K C = true) (ht : PySem.W.takerIn K C name = some none) (hh : PySem.W.hasDictIn K C = true)
  (hw : PySem.Within mA ns) (hsz : ns.length <= sizeLine)
  (h : ∀ h', ObjM h' x dx C (fun y => if y = name then some v else mA y) -> Heap.SameBut dx s.heap h' -> Q () { s with heap := h', toks := s.toks + 2 }) :
  wpAny (model prog w) A (setAttr (.ref x) name v) Q E s := by
 obtain ⟨od, J, hl⟩ := I.look
 refine PySem.W.set_plain X J hs (PySem.W.osa_open (s := { s with toks := s.toks + 1 }) (r := none) X J hp ht fun b => ?_)
 obtain ⟨cd, hc, hd'⟩ := PySem.W.any_some hh
 have hx : s.heap.get? x = some ⟨.ref C, some dx, .plain, #[]⟩ := I.obj
 refine wpAny_bind (wpAny_pure (wpAny_bind (wpAny_bind (wpAny_loadPart hx (wpAny_bind (PySem.W.Looks.here (s := { s with toks := s.toks + 1 }) (PySem.W.looks_clsIn X hc) ?_))))))
 rw [hd']
 refine wpAny_pure (a := some dx) (wpAny_bind (wpAny_pure (wpAny_bind ?_)))
 refine wpAny_nsSet1 (s := { s with toks := s.toks + 1 }) I.ns fun h' hn2 hs2 => ?_
 obtain ⟨oD, esD, epD, hoD, hdD, hcD⟩ := hn2.count (PySem.Within.cons name v hw)
 refine wpAny_bind (wpAny_lookBehind hoD (by rw [hdD]; exact pastItsLine_dict (Nat.le_trans hcD (by rw [List.length_cons]; omega))) ?_)
 exact wpAny_pure (h _ ⟨(hs2.2 _ (Ne.symm I.ne)).trans I.obj, hn2, I.ne⟩ hs2)
theorem jM0 {R : Result -> Shared -> Prop} {vs : List Value} {kw : List (Str × Value)} (X : K.In s.heap) (hm : PySem.W.makesIn K C = true)
  (hi : PySem.W.findIn K (.ref C) "__init__" = some (some (.ref f))) (hf : PySem.W.typeIn K (.ref f) = some (.type "function"))
  (h : codeAny (model prog w) (A.under (.builtin "type.__call__" ⟨.ref C :: vs, kw⟩)) (.call (.ref f) ⟨.ref (s.heap.objs.size + 1) :: vs, kw⟩) (PySem.W.InitBack (s.heap.objs.size + 1) R)
   { s with heap := (s.heap.push PySem.W.emptyDict).push (PySem.W.instObj C s.heap.objs.size) }) :
  codeAny (model prog w) A (.call (.ref C) ⟨vs, kw⟩) R s := by
 obtain ⟨hh, g, d, t, os⟩ := s
 exact PySem.W.make_core (PySem.W.makes_of X hm) (PySem.W.looks_findIn X hi) (fun self => PySem.W.bind_fn X self hf) (.inl rfl) h
end
def putF (f : Str) (v : V) : List (Str × V) -> List (Str × V)
 | [] => [(f, v)]
 | (g, x) :: r => if g = f then (g, v) :: r else (g, x) :: putF f v r
theorem er0 (f g : Str) (v : V) : ∀ fs : List (Str × V), (putF f v fs).lookup g = if g = f then some v else fs.lookup g
 | [] => by
  show List.lookup g [(f, v)] = _
  by_cases h : g = f
  ·have hb : (g == f) = true := beq_iff_eq.mpr h
   simp only [List.lookup, hb, if_pos h]
  ·have hb : (g == f) = false := beq_eq_false_iff_ne.mpr h
   simp only [List.lookup, hb, if_neg h]
 | (k, x) :: r => by
  have ih := er0 f g v r
  rw [show putF f v ((k, x) :: r) = (if k = f then (k, v) :: r else (k, x) :: putF f v r) from rfl]
  by_cases hk : k = f
  ·rw [if_pos hk]
   by_cases h : g = k
   ·have hb : (g == k) = true := beq_iff_eq.mpr h
    simp only [List.lookup, hb, if_pos (h.trans hk)]
   ·have hb : (g == k) = false := beq_eq_false_iff_ne.mpr h
    simp only [List.lookup, hb, if_neg (fun e : g = f => h (e.trans hk.symm))]
  ·rw [if_neg hk]
   by_cases h : g = k
   ·have hb : (g == k) = true := beq_iff_eq.mpr h
    simp only [List.lookup, hb, if_neg (fun e : g = f => hk (h.symm.trans e))]
   ·have hb : (g == k) = false := beq_eq_false_iff_ne.mpr h
    simp only [List.lookup, hb]
    exact ih
theorem eo0 (f : Str) (v : V) : ∀ fs : List (Str × V), f ∈ (putF f v fs).map (·.1) /\ ∀ g, g ∈ fs.map (·.1) -> g ∈ (putF f v fs).map (·.1)
 | [] => ⟨by simp [putF], fun g h => by simp at h⟩
 | (k, x) :: r => by
  obtain ⟨i1, i2⟩ := eo0 f v r
  rw [show putF f v ((k, x) :: r) = (if k = f then (k, v) :: r else (k, x) :: putF f v r) from rfl]
  by_cases hk : k = f
  ·rw [if_pos hk]
   subst hk
   exact ⟨by simp, fun g h => by simpa using h⟩
  ·rw [if_neg hk]
   refine ⟨?_, fun g h => ?_⟩
   ·rw [List.map_cons]
    exact List.mem_cons_of_mem _ i1
   ·rw [List.map_cons] at h ⊢
    rcases List.mem_cons.mp h with e | e
    ·exact List.mem_cons.mpr (.inl e)
    ·exact List.mem_cons_of_mem _ (i2 g e)
theorem dX0 (f : Str) (v : V) : ∀ fs : List (Str × V), (putF f v fs).length <= fs.length + 1
 | [] => by simp [putF]
 | (k, x) :: r => by
  have ih := dX0 f v r
  rw [show putF f v ((k, x) :: r) = (if k = f then (k, v) :: r else (k, x) :: putF f v r) from rfl]
  by_cases hk : k = f
  ·rw [if_pos hk, List.length_cons, List.length_cons]; omega
  ·rw [if_neg hk, List.length_cons, List.length_cons]; omega
theorem RelO.some_of {v : V} {o : Option Value} (r : RelO (some v) o) : ∃ u, o = some u /\ RelV v u := by
 cases o with
 | none => exact (show False from r).elim
 | some u => exact ⟨u, rfl, r⟩
theorem iN0 {v : V} {u : Value} (r : RelV v u) : PySem.W.handedIn u = true := by
 cases v with
 | non => cases (show u = Value.none from r); rfl
 | bl b => cases (show u = Value.bool b from r); rfl
 | int i => obtain ⟨t, e⟩ := (show ∃ t, u = Value.int i t from r); cases e; rfl
 | str x => obtain ⟨t, e⟩ := (show ∃ t, u = Value.str x t from r); cases e; rfl
 | byt b => obtain ⟨t, e⟩ := (show ∃ t, u = Value.bytes b t from r); cases e; rfl
 | flt b => obtain ⟨t, e⟩ := (show ∃ t, u = Value.float b t from r); cases e; rfl
 | ref a => cases (show u = Value.ref a from r); rfl
 | ty n => cases (show u = Value.type n from r); rfl
section
variable {P : Program} {w : World} {H H' : Hp} {h h' : Heap} {a C dx : Addr} {fs fs' : List (Str × V)}
theorem gE0 (hok : HOk P w H h) (e : H a = some (.ins C dx fs)) : ∃ mA, ObjM h a dx C mA /\ (∀ f, RelO (fs.lookup f) (mA f)) /\ PySem.Within mA (fs.map (·.1)) /\ fs.length <= 1000 /\ H dx = some (.own a) := by
 obtain ⟨d, z, ne, ob, mA, n, r, q⟩ := (show ObjOk P w H h a (.ins C dx fs) from hok a _ e)
 exact ⟨mA, ⟨ob, n, ne⟩, r, q, z, d⟩
end
structure Cls (K : PySem.W.Frag) (C : Addr) : Prop where
 pg : PySem.W.plainGet K C Str.empty = true
 hd : PySem.W.hasDictIn K C = true
 po : PySem.W.plainOver K C = true
 sa : PySem.W.findIn K (.ref C) "__setattr__" = some (some (.builtin "object.__setattr__"))
theorem Cls.get {K : PySem.W.Frag} {C : Addr} (c : Cls K C) (f : Str) : PySem.W.plainGet K C f = true := c.pg
def NoAttr (K : PySem.W.Frag) (C : Addr) (f : Str) : Prop := PySem.W.findIn K (.ref C) f = some none
theorem NoAttr.taker {K : PySem.W.Frag} {C : Addr} {f : Str} (n : NoAttr K C f) : PySem.W.takerIn K C f = some none := by
 unfold PySem.W.takerIn
 rw [show PySem.W.findIn K (.ref C) f = some none from n]
 rfl
section
variable {X : Cx} {pins : List (Addr × Obj)} {σ : St} {H : Hp} {s : Shared} {a C dx : Addr} {fs : List (Str × V)} {f : Str} {v : V} {A : Around} {E : Value -> Shared -> Prop}
theorem hR0 {b : Bool} {Q : Value -> Shared -> Prop} (I : Inv X pins σ H s) (e : H a = some (.ins C dx fs)) (c : Cls X.K C) (n : NoAttr X.K C f) (l : fs.lookup f = some v)
  (h : ∀ u s', Inv X pins σ H s' -> RelV v u -> Q u s') : wpAny (model X.prog X.w) A (getAttr (.ref a) f b) Q E s := by
 obtain ⟨mA, O, r, _, _, _⟩ := gE0 I.hok e
 obtain ⟨u, hu, ru⟩ := RelO.some_of (v := v) (o := mA f) (by rw [<- l]; exact r f)
 exact lO0 I.kIn O (c.get f) c.hd n hu (iN0 ru) (h u _ (I.tok _) ru)
theorem hW0 {y : V} {u : Value} {Q : Unit -> Shared -> Prop} (I : Inv X pins σ H s) (e : H a = some (.ins C dx fs)) (c : Cls X.K C) (n : NoAttr X.K C f) (hl : fs.length < 1000) (ry : RelV y u)
  (h : ∀ s', Inv X pins σ (upd H a (.ins C dx (putF f y fs))) s' -> Q () s') : wpAny (model X.prog X.w) A (setAttr (.ref a) f u) Q E s := by
 obtain ⟨mA, O, r, wi, _, ho⟩ := gE0 I.hok e
 have hz : (fs.map (·.1)).length <= sizeLine := by rw [List.length_map, sizeLine_eq]; omega
 refine lH0 I.kIn O c.sa c.po n.taker c.hd wi hz fun h' O' sb => h _ ?_
 have hd : ∃ o, h'.get? dx = some o := let ⟨o, _, _, e', _⟩ := O'.ns; ⟨o, e'⟩
 refine I.write (x := a) (e := dx) (by rw [e]; exact True.intro) (.inr ho) (fun b q hb z => (sb.2 b hb).trans z) hd ?_
 refine ⟨by rw [ao0 O.ne]; exact ho, ?_, O.ne, O'.obj, _, O'.ns, fun g => ?_, fun g hg => ?_⟩
 ·have := dX0 f y fs; omega
 ·show RelO ((putF f y fs).lookup g) (if g = f then some u else mA g)
  rw [er0]
  by_cases q : g = f
  ·rw [if_pos q, if_pos q]; exact ry
  ·rw [if_neg q, if_neg q]; exact r g
 ·by_cases q : g = f
  ·rw [q]; exact (eo0 f y fs).1
  ·refine (eo0 f y fs).2 g (wi g fun z => hg ?_)
   show (if g = f then some u else mA g) = none
   rw [if_neg q]; exact z
theorem Inv.made (I : Inv X pins σ H s) : Inv X pins σ (upd (upd H s.heap.objs.size (.own (s.heap.objs.size + 1))) (s.heap.objs.size + 1) (.ins C s.heap.objs.size []))
  { s with heap := (s.heap.push PySem.W.emptyDict).push (PySem.W.instObj C s.heap.objs.size) } := by
 have e1 : (s.heap.push PySem.W.emptyDict).get? s.heap.objs.size = some PySem.W.emptyDict := Heap.get?_push_size s.heap rfl
 have e2 : ((s.heap.push PySem.W.emptyDict).push (PySem.W.instObj C s.heap.objs.size)).get? (s.heap.objs.size + 1) = some (PySem.W.instObj C s.heap.objs.size) := by
  have := Heap.get?_push_size (s.heap.push PySem.W.emptyDict) (o := PySem.W.instObj C s.heap.objs.size) rfl
  rwa [Heap.size_push] at this
 have e3 : (s.heap.push PySem.W.emptyDict).Ns s.heap.objs.size (fun _ => none) := ⟨PySem.W.emptyDict, #[], _, e1, rfl, (fun e he => absurd he (by simp)), fun _ => rfl⟩
 have I1 := I.laid (a := s.heap.objs.size) (o := .own (s.heap.objs.size + 1)) (h' := s.heap.push PySem.W.emptyDict) (t' := s.toks) (fun b u q => Heap.get?_push_of_some _ q) (Nat.le_refl _) ⟨_, e1⟩
 refine I1.laid (a := s.heap.objs.size + 1) (o := .ins C s.heap.objs.size []) (t' := s.toks) (fun b u q => Heap.get?_push_of_some _ q) (Nat.le_of_eq (Heap.size_push _ _)) ?_
 have ne : s.heap.objs.size ≠ s.heap.objs.size + 1 := Nat.ne_of_lt (Nat.lt_succ_self _)
 refine ⟨by rw [ao0 ne, aq0], Nat.zero_le _, ne, e2, fun _ => none, (Heap.Ns1.of_empty e3).at fun o q => Heap.get?_push_of_some _ q, fun _ => True.intro, fun y hy => absurd rfl hy⟩
theorem lQ0 {prog : Program} {w : World} {env : Env} {e : Expr} {f : Str} {pos : Pos} {s : Shared} {Q : Value -> Shared -> Prop} (hb : attributeBase e f env (eval e env) = eval e env)
  (h : wpAny (model prog w) A (eval e env) (fun o s₁ => wpAny (model prog w) A (getAttr o f true) Q E s₁) E s) : wpAny (model prog w) A (eval (.Attribute e f pos) env) Q E s :=
 Attribute_any_ h (by rw [arm_eval_Attribute, hb])
end
def tFld (K : PySem.W.Frag) (ta : TE) (f : Str) : TE := fun σ H Q => ta σ H fun x H1 => ∃ a C dx fs v, x = .ref a /\ H1 a = some (.ins C dx fs) /\ Cls K C /\ NoAttr K C f /\ fs.lookup f = some v /\ Q v H1
def sFld (K : PySem.W.Frag) (ta tv : TE) (f : Str) : TS := fun D σ H => tv σ H fun y H1 => ta σ H1 fun x H2 => ∃ a C dx fs, x = .ref a /\ H2 a = some (.ins C dx fs) /\ Cls K C /\ NoAttr K C f /\ fs.length < 1000 /\
 D.nx σ (upd H2 a (.ins C dx (putF f y fs)))
section
variable {X : Cx} {o e value : Expr} {f : Str} {pos pos' tpos : Pos} {ta tv : TE}
theorem nF0 (he : PE X e ta) (hb : attributeBase e f X.env (eval e X.env) = eval e X.env) : PE X (.Attribute e f pos) (tFld X.K ta f) := by
 intro pins s σ H Q I h
 refine lQ0 hb (thn (he pins s σ H _ I h) fun u s1 ⟨x, H1, I1, rx, a, C, dx, fs, v, ex, ea, c, n, l, q⟩ => ?_)
 subst ex
 obtain rfl : u = Value.ref a := rx
 exact hR0 I1 ea c n l fun u' s2 I2 ru => ⟨v, H1, I2, ru, q⟩
theorem mK0 (ha : PE X o ta) (hv : PE X value tv) (hs : swapsWith value (some (.Attribute o f pos')) pos.line X.env = pure false) : PS X (.Assign [.Attribute o f pos'] value pos) (sFld X.K ta tv f) := by
 intro pins s σ H D I h
 refine plainObj_wpAny_Assign_Attribute (thn (hv pins s σ H _ I h) fun u s1 ⟨y, H1, I1, ry, q⟩ => thn (ha pins s1 σ H1 _ I1 q) fun ov s2 ⟨x, H2, I2, rx, a, C, dx, fs, ex, ea, c, n, l, q2⟩ => ?_) hs
 subst ex
 obtain rfl : ov = Value.ref a := rx
 exact hW0 I2 ea c n l ry fun s3 I3 => ⟨σ, _, I3, q2⟩
end
section
variable {X : Cx} {pins : List (Addr × Obj)} {σ : St} {H : Hp} {s : Shared} {A : Around} {E : Value -> Shared -> Prop} {Q : Value -> Shared -> Prop} {c : Value} {b : Bool}
inductive TyOf (K : PySem.W.Frag) (H : Hp) : V -> Value -> Prop where
 | non : TyOf K H .non (.type "NoneType")
 | bl (x : Bool) : TyOf K H (.bl x) (.type "bool")
 | int (i : Int) : TyOf K H (.int i) (.type "int")
 | str (x : Str) : TyOf K H (.str x) (.type "str")
 | flt (x : UInt64) : TyOf K H (.flt x) (.type "float")
 | lst {a : Addr} {xs : List V} (e : H a = some (.lst xs)) : TyOf K H (.ref a) (.type "list")
 | frz {a : Addr} {o : Obj} {xs : List V} (e : H a = some (.frz o (.lst xs))) : TyOf K H (.ref a) (.type "list")
 | tup {a : Addr} {xs : List V} (e : H a = some (.tup xs)) : TyOf K H (.ref a) (.type "tuple")
 | dK {a : Addr} {kvs : List (Key × V)} (e : H a = some (.dK kvs)) : TyOf K H (.ref a) (.type "dict")
 | dT {a : Addr} {kvs : List (List Key × V)} (e : H a = some (.dT kvs)) : TyOf K H (.ref a) (.type "dict")
 | fD {a : Addr} {o : Obj} {kvs : List (Key × V)} (e : H a = some (.frz o (.dK kvs))) : TyOf K H (.ref a) (.type "dict")
 | ins {a C dx : Addr} {fs : List (Str × V)} (e : H a = some (.ins C dx fs)) (cl : Cls K C) (ha : PySem.W.findIn K (.ref C) "__class__" = some (some (.builtin "object.__class__")))
   (hn : PySem.W.specialIn K (.builtin "object.__class__") "__get__" = some (some (.builtin "getset_descriptor.__get__"))) (htk : PySem.W.takesIn K (.builtin "object.__class__") = some true)
   (hm : PySem.W.mroIn K C (.type "object") = some true) : TyOf K H (.ref a) (.ref C)
theorem gc0 {x : V} {u t : Value} (I : Inv X pins σ H s) (rx : RelV x u) (ty : TyOf X.K H x t) (e : PySem.W.kitOne X.K t c = some b) (h : ∀ tk, Q (.bool b) { s with toks := tk }) :
  wpAny (model X.prog X.w) A (call (.builtin "isinstance") [u, c]) Q E s := by
 cases ty with
 | non => cases (show u = Value.none from rx); exact PySem.W.kia_one PySem.W.kitx_none I.kIn True.intro e (fun z => nomatch z) h
 | bl y => cases (show u = Value.bool y from rx); exact PySem.W.kia_one PySem.W.kitx_bool I.kIn True.intro e (fun z => nomatch z) h
 | int i => obtain ⟨t, q⟩ := (show ∃ t, u = Value.int i t from rx); cases q; exact PySem.W.kia_one PySem.W.kitx_int I.kIn True.intro e (fun z => nomatch z) h
 | str y => obtain ⟨t, q⟩ := (show ∃ t, u = Value.str y t from rx); cases q; exact PySem.W.kia_one PySem.W.kitx_str I.kIn True.intro e (fun z => nomatch z) h
 | flt y => obtain ⟨t, q⟩ := (show ∃ t, u = Value.float y t from rx); cases q; exact PySem.W.kia_one PySem.W.kitx_float I.kIn True.intro e (fun z => nomatch z) h
 | @lst a xs ea =>
  cases (show u = Value.ref a from rx)
  obtain ⟨_, _, n, _, h1⟩ := (show ObjOk X.prog X.w H s.heap a (.lst xs) from I.hok a _ ea)
  exact PySem.W.kia_one PySem.W.kitx_list I.kIn ⟨_, h1, rfl⟩ e (fun z => nomatch z) h
 | @frz a ob xs ea =>
  cases (show u = Value.ref a from rx)
  obtain ⟨_, _, _, n, _, h1⟩ := (show ObjOk X.prog X.w H s.heap a (.frz ob (.lst xs)) from I.hok a _ ea)
  exact PySem.W.kia_one PySem.W.kitx_list I.kIn ⟨_, h1, rfl⟩ e (fun z => nomatch z) h
 | @tup a xs ea =>
  cases (show u = Value.ref a from rx)
  obtain ⟨_, _, _, p, _⟩ := (show ObjOk X.prog X.w H s.heap a (.tup xs) from I.hok a _ ea)
  obtain ⟨o, h1, h2, _⟩ := p
  exact PySem.W.kia_one PySem.W.kitx_tuple I.kIn ⟨o, h1, h2⟩ e (fun z => nomatch z) h
 | @dK a kvs ea =>
  cases (show u = Value.ref a from rx)
  obtain ⟨_, _, vs, _, p⟩ := (show ObjOk X.prog X.w H s.heap a (.dK kvs) from I.hok a _ ea)
  obtain ⟨o, es, ep, h1, h2, _⟩ := p
  exact PySem.W.kia_one PySem.W.kitx_dict I.kIn ⟨o, h1, h2.1⟩ e (fun z => nomatch z) h
 | @fD a ob kvs ea =>
  cases (show u = Value.ref a from rx)
  obtain ⟨_, _, _, vs, _, p⟩ := (show ObjOk X.prog X.w H s.heap a (.frz ob (.dK kvs)) from I.hok a _ ea)
  obtain ⟨o, es, ep, h1, h2, _⟩ := p
  exact PySem.W.kia_one PySem.W.kitx_dict I.kIn ⟨o, h1, h2.1⟩ e (fun z => nomatch z) h
 | @dT a kvs ea =>
  cases (show u = Value.ref a from rx)
  obtain ⟨_, _, xs, _, o, es, ep, h1, h2, _⟩ := (show ObjOk X.prog X.w H s.heap a (.dT kvs) from I.hok a _ ea)
  exact PySem.W.kia_one PySem.W.kitx_dict I.kIn ⟨o, h1, h2.1⟩ e (fun z => nomatch z) h
 | @ins a C dx fs ea cl ha hn htk hm =>
  cases (show u = Value.ref a from rx)
  obtain ⟨mA, O, _⟩ := gE0 I.hok ea
  obtain ⟨od, J, _⟩ := O.look
  exact PySem.W.kia_one (PySem.W.kitx_own (cl.get _) cl.hd ha hn htk hm) I.kIn J e (fun z => nomatch z) h
end
end L2
namespace L2
open PySem PySem.Spec PyProof.Rows
structure Room (k : Nat) (A : Around) : Prop where
 hd : A.handled = none
 dp : A.depth + 3 * k + 5 < recursionLimit
 un : A.units + 16 * k + 200 < cLine
theorem Room.mono {j k : Nat} {A : Around} (r : Room k A) (h : j <= k) : Room j A := ⟨r.hd, by have := r.dp; omega, by have := r.un; omega⟩
theorem Room.deeper {k : Nat} {A : Around} (r : Room (k + 1) A) (env : Env) : Room k (A.deeper env) :=
 ⟨r.hd, by have := r.dp; show A.depth + 1 + 3 * k + 5 < _; omega, by have := r.un; show A.units + 3 + 16 * k + 200 < _; omega⟩
theorem hO0 {A : Around} {C : Addr} {us : List Value} {kw : List (Str × Value)} : (A.under (.builtin "type.__call__" ⟨.ref C :: us, kw⟩)).depth = A.depth + 1 := by
 first | rfl | simp [Around.under, Code.weight, Code.isCreation, Code.isGuard, Code.isCaller, Code.frames, Code.isFrame, guardIds]
theorem hK0 {A : Around} {C : Addr} {us : List Value} {kw : List (Str × Value)} : (A.under (.builtin "type.__call__" ⟨.ref C :: us, kw⟩)).units = A.units + 1 := by
 first | rfl | simp [Around.under, Code.cUnits, Code.frames, Code.isFrame]
theorem Room.make {k : Nat} {A : Around} (r : Room (k + 1) A) (C : Addr) (us : List Value) (kw : List (Str × Value)) : Room k (A.under (.builtin "type.__call__" ⟨.ref C :: us, kw⟩)) :=
 ⟨r.hd, by have := r.dp; rw [hO0]; omega, by have := r.un; rw [hK0]; omega⟩
theorem Room.depth {k : Nat} {A : Around} (r : Room k A) : A.depth < recursionLimit := by have := r.dp; omega
theorem Room.units {k : Nat} {A : Around} (r : Room k A) : A.units + 64 < cLine := by have := r.un; omega
def tNil : TA := fun _ H Q => Q [] H
def tCons (ta : TE) (tr : TA) : TA := fun σ H Q => ta σ H fun x H1 => tr σ H1 fun xs H2 => Q (x :: xs) H2
section
variable {X : Cx} {e : Expr} {es : List Expr} {te : TE} {t : TA} {pos : Pos}
theorem cN0 : PA X [] tNil := fun _ _ _ _ H Q I h => Calls.spliced_nil ⟨[], H, I, .nil, h⟩
theorem bu0 (ha : PE X e te) (hr : PA X es t) (hs : starEach (e :: es) X.env = (false, eval e X.env) :: starEach es X.env := by rfl) : PA X (e :: es) (tCons te t) := by
 intro pos pins s σ H Q I h
 rw [hs]
 show wpAny _ _ (spliced ((false, eval e X.env) :: backTo pos (starEach es X.env))) _ _ s
 refine Calls.spliced_cons (thn (ha pins s σ H _ I h) fun u s1 ⟨x, H1, I1, r1, q1⟩ => ?_)
 exact thn (hr pos pins s1 σ H1 _ I1 q1) fun us s2 ⟨xs, H2, I2, r2, q2⟩ => ⟨x :: xs, H2, I2, .cons r1 r2, q2⟩
def tTup (t : TA) : TE := fun σ H Q => t σ H fun xs H1 => xs.length <= sizeLine /\ ∀ p, H1 p = none -> Q (.ref p) (upd H1 p (.tup xs))
def tLst (t : TA) : TE := fun σ H Q => t σ H fun xs H1 => xs.length <= sizeLine /\ ∀ p, H1 p = none -> Q (.ref p) (upd H1 p (.lst xs))
theorem ni0 {x1} (h : PA X es t) : PE X (.Tuple es x1 pos) (tTup t) := by
 intro pins s σ H Q I hq
 refine wpAny_Tuple_spliced (thn (h pos pins s σ H _ I hq) fun us s1 ⟨xs, H1, I1, r, z, q⟩ => ⟨by rw [<- r.length]; exact z, ?_⟩)
 have hf : H1 s1.heap.objs.size = none := I1.hok.fresh (Nat.le_refl _)
 refine ⟨.ref s1.heap.objs.size, upd H1 s1.heap.objs.size (.tup xs), I1.laid (t' := s1.toks) (fun b u e => Heap.get?_push_of_some _ e) (Nat.le_refl _) ?_, rfl, q _ hf⟩
 exact ⟨z, us, r, ⟨_, Heap.get?_push_size _ rfl, rfl, _, rfl⟩, _, Heap.get?_push_size _ rfl, rfl⟩
theorem nx0 (h : PA X es t) : PE X (.List es pos) (tLst t) := by
 intro pins s σ H Q I hq
 refine wpAny_List_spliced (thn (h pos pins s σ H _ I hq) fun us s1 ⟨xs, H1, I1, r, z, q⟩ => ⟨by rw [<- r.length]; exact z, ?_⟩)
 have hf : H1 s1.heap.objs.size = none := I1.hok.fresh (Nat.le_refl _)
 refine ⟨.ref s1.heap.objs.size, upd H1 s1.heap.objs.size (.lst xs), I1.laid (t' := s1.toks) (fun b u e => Heap.get?_push_of_some _ e) (Nat.le_refl _) ?_, rfl, q _ hf⟩
 exact ⟨z, us, 0, r, Heap.get?_push_size _ rfl⟩
end
abbrev Sp := List V -> Hp -> VK -> XK -> Prop
abbrev CXT := List Env -> Hp -> Shared -> XK -> Value -> Shared -> Prop
structure Env0 (P : Program) (w : World) (K : PySem.W.Frag) (mg : Str -> Option Value) (base : Heap) (A : Around) (outer : List Env) (s : Shared) (H : Hp) : Prop where
 frames : A.frames = some outer
 mod : Mod K mg base
 bs : ∀ b o, base.get? b = some o -> s.heap.get? b = some o /\ H b = none
 bsz : base.objs.size <= s.heap.objs.size
 funs : s.heap.FunFrames base outer
 frf : ∀ b ∈ frs outer, H b = none
 hok : HOk P w H s.heap
 bare : AllBare s.gens
def CE (outer : List Env) (P : Program) (w : World) (H : Hp) (s : Shared) (Q : VK) (u : Value) (s' : Shared) : Prop :=
 ∃ v H', s'.os = s.os /\ AllBare s'.gens /\ Un (frs outer) [] H H' s.heap s'.heap /\ HOk P w H' s'.heap /\ RelV v u /\ Q v H'
def CR (CX : CXT) (outer : List Env) (P : Program) (w : World) (H : Hp) (s : Shared) (Q : VK) (E : XK) (r : Result) (s' : Shared) : Prop :=
 match r with
 | .ok (.ret u) => CE outer P w H s Q u s'
 | .ok _ => False
 | .error e => CX outer H s E e s'
structure FnOk (P : Program) (w : World) (K : PySem.W.Frag) (mg : Str -> Option Value) (base : Heap) (CX : CXT) (k : Nat) (f : Addr) (fd : FuncData) (ps : List Str) (sp : Sp) : Prop where
 len : ∀ vs H Q E, sp vs H Q E -> vs.length = ps.length
 run : ∀ (A : Around) (outer : List Env) (s : Shared) (H : Hp) (args : Args) (us : List Value) (vs : List V) (Q : VK) (E : XK), Room k A -> Env0 P w K mg base A outer s H -> BindsTo s fd args (ps.zip us) -> Vals vs us -> sp vs H Q E ->
  codeAny (model P w) A (.call (.ref f) args) (CR CX outer P w H s Q E) s
theorem FnOk.mono {P : Program} {w : World} {K : PySem.W.Frag} {mg : Str -> Option Value} {base : Heap} {CX : CXT} {j k : Nat} {f : Addr} {fd : FuncData} {ps : List Str} {sp : Sp} (F : FnOk P w K mg base CX j f fd ps sp) (h : j <= k) :
  FnOk P w K mg base CX k f fd ps sp := ⟨F.len, fun A outer s H args us vs Q E hr => F.run A outer s H args us vs Q E (hr.mono h)⟩
theorem FnOk.imp {P : Program} {w : World} {K : PySem.W.Frag} {mg : Str -> Option Value} {base : Heap} {CX : CXT} {k : Nat} {f : Addr} {fd : FuncData} {ps : List Str} {sp sp' : Sp} (F : FnOk P w K mg base CX k f fd ps sp)
  (h : ∀ vs H Q E, sp' vs H Q E -> sp vs H Q E) : FnOk P w K mg base CX k f fd ps sp' :=
 ⟨fun vs H Q E q => F.len vs H Q E (h _ _ _ _ q), fun A outer s H args us vs Q E hr he hb hv hs => F.run A outer s H args us vs Q E hr he hb hv (h _ _ _ _ hs)⟩
theorem Env0.make {P : Program} {w : World} {K : PySem.W.Frag} {mg : Str -> Option Value} {base : Heap} {A : Around} {outer : List Env} {s : Shared} {H : Hp} (e : Env0 P w K mg base A outer s H) (C : Addr) (us : List Value) (kw : List (Str × Value)) :
  Env0 P w K mg base (A.under (.builtin "type.__call__" ⟨.ref C :: us, kw⟩)) outer s H := ⟨by first | exact e.frames | (simpa [Around.under, Code.envs, Code.isFrame, pushEnvs] using e.frames), e.mod, e.bs, e.bsz, e.funs, e.frf, e.hok, e.bare⟩
section
variable {X : Cx} {pins : List (Addr × Obj)} {σ : St} {H : Hp} {s s' : Shared}
theorem Inv.env0 (I : Inv X pins σ H s) : Env0 X.prog X.w X.K X.mg X.base X.A X.stack s H :=
 ⟨I.ok.frames, I.ok.mod, I.bs, Nat.le_trans I.ok.bsz I.sz, I.stack, I.stkFree, I.hok, I.bare⟩
theorem Inv.after {Q : VK} {u : Value} (I : Inv X pins σ H s) (h : CE X.stack X.prog X.w H s Q u s') : EP X pins σ Q u s' := by
 obtain ⟨v, H', os, bare, un, hok, r, q⟩ := h
 obtain ⟨hh, g, d, t, os'⟩ := s'
 obtain rfl : os' = s.os := os
 exact ⟨v, H', I.call (h' := hh) (g' := g) (d' := d) (t' := t) (ch := []) un hok bare (fun b z => absurd z (by simp)), r, q⟩
end
def kl0 (sp : Sp) (dvs : List V) (E : XK) (t : TA) : TE := fun σ H Q => t σ H fun vs H1 => sp (vs ++ dvs) H1 Q E
def tMake (C : Addr) (sp : Sp) (dvs : List V) (E : XK) (t : TA) : TE := fun σ H Q => t σ H fun vs H1 => ∀ x dx, H1 x = none -> H1 dx = none -> dx ≠ x ->
 sp (.ref x :: (vs ++ dvs)) (upd (upd H1 dx (.own x)) x (.ins C dx [])) (fun v H2 => v = .non /\ Q (.ref x) H2) E
def Binds (K : PySem.W.Frag) (fd : FuncData) (ps : List Str) (ds : List Value) : Prop :=
 ∀ (s : Shared) (us : List Value), K.In s.heap -> (us ++ ds).length = ps.length -> BindsTo s fd ⟨us, []⟩ (ps.zip (us ++ ds))
theorem Binds.all {K : PySem.W.Frag} {fd : FuncData} {ps : List Str} (h : ∀ us : List Value, us.length = ps.length -> bindArgs fd ⟨us, []⟩ = pure (ps.zip us)) : Binds K fd ps [] := fun s us _ hl => by
 rw [List.append_nil] at hl ⊢
 exact .of_eq (h us hl)
def eB0 (CX : CXT) (X : Cx) (E : XK) : Prop := ∀ (pins : List (Addr × Obj)) (σ : St) (H : Hp) (s : Shared) (e : Value) (s' : Shared), Inv X pins σ H s -> CX X.stack H s E e s' -> X.xe e s'
section
variable {X : Cx} {CX : CXT} {k : Nat} {f C : Addr} {fd : FuncData} {ps : List Str} {sp : Sp} {dvs : List V} {ds : List Value} {E : XK} {x m : Str} {p pos apos : Pos} {e o : Expr} {es : List Expr} {ta : TE} {t : TA}
theorem nH0 {pins : List (Addr × Obj)} {σ : St} {H : Hp} {s : Shared} {Q : VK} {us : List Value} {vs : List V} (F : FnOk X.prog X.w X.K X.mg X.base CX k f fd ps sp) (hr : Room k X.A) (hb : Binds X.K fd ps ds) (hd : Vals dvs ds) (hx : eB0 CX X E)
  (I : Inv X pins σ H s) (r : Vals vs us) (h : sp (vs ++ dvs) H Q E) : wpAny (model X.prog X.w) X.A (call (.ref f) us) (EP X pins σ Q) X.xe s := by
 have r2 : Vals (vs ++ dvs) (us ++ ds) := r.append hd
 have hl : (us ++ ds).length = ps.length := by rw [<- r2.length]; exact F.len _ _ _ _ h
 refine wpAny_call (codeAny_mono (F.run X.A X.stack s H ⟨us, []⟩ (us ++ ds) (vs ++ dvs) Q E hr I.env0 (hb s us I.kIn hl) r2 h) fun r s' hq => ?_)
 cases r with
 | error e => exact hx pins σ H s e s' I hq
 | ok fl =>
  cases fl with
  | ret u => exact I.after hq
  | next => exact False.elim hq
  | brk => exact False.elim hq
  | cont => exact False.elim hq
theorem gm0 (F : FnOk X.prog X.w X.K X.mg X.base CX k f fd ps sp) (hr : Room k X.A) (hg : Gl X x) (hm : X.mg x = some (.ref f)) (hk : PySem.W.keepIn X.K (.ref f) = true) (hb : Binds X.K fd ps ds) (hd : Vals dvs ds) (hx : eB0 CX X E)
  (ha : PA X (e :: es) t) (hdb : (x == ("__debug__" : Str)) = false := by decide) (he : starEach (e :: es) X.env = (false, eval e X.env) :: starEach es X.env := by rfl) (hpl : (backTo pos (starEach es X.env)).any (·.1) = false := by rfl) :
  PE X (.Call (.Name x p) (e :: es) [] pos) (kl0 sp dvs E t) := by
 intro pins s σ H Q I h
 refine wpAny_Call_Name_kw (dV0 I hg hm ?_ hdb)
 refine PySem.W.callWith_K (h₀ := X.base) I.ok.mod.kin hk (thn (ha pos pins s σ H _ I h) fun us s1 ⟨vs, H1, I1, r, q⟩ => ⟨I1.kIn, ?_⟩) he hpl
 exact nH0 F hr hb hd hx I1 r q
structure Mk (K : PySem.W.Frag) (C f : Addr) : Prop where
 makes : PySem.W.makesIn K C = true
 init : PySem.W.findIn K (.ref C) "__init__" = some (some (.ref f))
 fn : PySem.W.isFn K (.ref f) = true
 kp : PySem.W.keepIn K (.ref C) = true
end
section
variable {X : Cx} {CX : CXT} {k : Nat} {f C : Addr} {fd : FuncData} {ps ks : List Str} {sp : Sp} {E : XK} {x m : Str} {p pos apos kpos : Pos} {e o : Expr} {es : List Expr} {kws : List Keyword} {te ta : TE} {t tk : TA} {nm : Option Str}
variable {g : List Value -> List Value -> List Value} {gV : List V -> List V -> List V}
end
structure FnScope (N P : List Str) (sc : Scope) : Prop where
 kind : sc.kind = .function
 co : sc.isCoroutine = false
 gen : sc.isGenerator = false
 nd : N.Nodup
 pre : N.take P.length = P
 par : ∀ x ∈ P, sc.names.lookup x = some .local \/ sc.names.lookup x = some .cell
 nofree : ∀ y ∈ sc.names, y.2 ≠ .free
theorem fC0 {kindOf : Str -> Option NameKind} {x : Str} : ∀ {binds : List (Str × Value)} {m : Str -> Option Value}, (∀ v, (x, v) ∉ binds) -> bindL kindOf binds m x = m x
 | [], _, _ => rfl
 | (n, v) :: r, m, h => by
  unfold bindL
  rw [fC0 fun w hw => h w (List.mem_cons_of_mem _ hw)]
  split
  ·have : x ≠ n := by rintro rfl; exact h v List.mem_cons_self
   simp [this]
  ·rfl
theorem fR0 {kindOf : Str -> Option NameKind} {x : Str} : ∀ {binds : List (Str × Value)} {m : Str -> Option Value}, (∀ v, (x, v) ∉ binds) -> bindC kindOf binds m x = m x
 | [], _, _ => rfl
 | (n, v) :: r, m, h => by
  unfold bindC
  rw [fR0 fun w hw => h w (List.mem_cons_of_mem _ hw)]
  split
  ·rfl
  ·have : x ≠ n := by rintro rfl; exact h v List.mem_cons_self
   simp [this]
theorem fY0 {kindOf : Str -> Option NameKind} {x : Str} {v : Value} : ∀ {P : List Str} {vs : List Value} {i : Nat} {m : Str -> Option Value}, P.Nodup -> P[i]? = some x -> vs[i]? = some v -> kindOf x = some .local ->
  bindL kindOf (P.zip vs) m x = some v
 | [], _, _, _, _, h, _, _ => by simp at h
 | _ :: _, [], _, _, _, _, h, _ => by simp at h
 | p :: P, w :: vs, 0, m, nd, h1, h2, hk => by
  simp at h1 h2; subst h1; subst h2
  show bindL kindOf ((p, w) :: P.zip vs) m p = _
  unfold bindL
  rw [fC0 fun v hv => (List.nodup_cons.mp nd).1 (List.of_mem_zip hv).1, if_pos hk]
  simp
 | p :: P, w :: vs, i + 1, m, nd, h1, h2, hk => by
  show bindL kindOf ((p, w) :: P.zip vs) m x = _
  unfold bindL
  exact fY0 (i := i) (List.nodup_cons.mp nd).2 (by simpa using h1) (by simpa using h2) hk
theorem ft0 {kindOf : Str -> Option NameKind} {x : Str} {v : Value} : ∀ {P : List Str} {vs : List Value} {i : Nat} {m : Str -> Option Value}, P.Nodup -> P[i]? = some x -> vs[i]? = some v -> kindOf x ≠ some .local ->
  bindC kindOf (P.zip vs) m x = some v
 | [], _, _, _, _, h, _, _ => by simp at h
 | _ :: _, [], _, _, _, _, h, _ => by simp at h
 | p :: P, w :: vs, 0, m, nd, h1, h2, hk => by
  simp at h1 h2; subst h1; subst h2
  show bindC kindOf ((p, w) :: P.zip vs) m p = _
  unfold bindC
  rw [fR0 fun v hv => (List.nodup_cons.mp nd).1 (List.of_mem_zip hv).1, if_neg hk]
  simp
 | p :: P, w :: vs, i + 1, m, nd, h1, h2, hk => by
  show bindC kindOf ((p, w) :: P.zip vs) m x = _
  unfold bindC
  exact ft0 (i := i) (List.nodup_cons.mp nd).2 (by simpa using h1) (by simpa using h2) hk
def start (N : List Str) (vs : List V) : St := vs.map some ++ List.replicate (N.length - vs.length) none
def cxOf (CX : CXT) (P : Program) (w : World) (K : PySem.W.Frag) (mg : Str -> Option Value) (base : Heap) (N : List Str) (qual : Str) (scope : Scope) (f : Addr) (cd : Value) (A : Around) (outer : List Env) (s : Shared) (H : Hp) (E : XK) : Cx where
 prog := P
 w := w
 K := K
 mg := mg
 base := base
 A := A.deeper (envOfC qual scope s.heap.objs.size f cd)
 N := N
 s₀ := s
 H₀ := H
 env := envOfC qual scope s.heap.objs.size f cd
 outer := outer
 stack := envOfC qual scope s.heap.objs.size f cd :: outer
 ex := []
 calm := true
 fn := fun _ => true
 pn := []
 xe := fun e s' => wpAny (model P w) (A.deeper (envOfC qual scope s.heap.objs.size f cd)) (leaving (envOfC qual scope s.heap.objs.size f cd) e) (fun _ s'' => CX outer H s E e s'') (fun e' s'' => CX outer H s E e' s'') s'
theorem hk0 {sc : Scope} {n : Nat} {x : Str} (h : sc.names.lookup x = some .cell) : ∃ c, (cellsFrom n sc.names []).lookup x = some c := by
 have q := PySem.W.cellsFrom_some sc.names n [] (.inl h)
 exact Option.isSome_iff_exists.mp q
theorem im0 {CX : CXT} {P : Program} {w : World} {K : PySem.W.Frag} {mg : Str -> Option Value} {base : Heap} {N ps : List Str} {qual : Str} {scope : Scope} {f : Addr} {cd : Value} {A : Around} {outer : List Env} {s s1 : Shared} {H : Hp} {E : XK} {us : List Value} {vs : List V}
  (S : FnScope N ps scope) (hd : A.handled = none) (e0 : Env0 P w K mg base A outer s H) (hl : vs.length = ps.length) (r : Vals vs us)
  (x : InCallC s s.heap.objs.size (bindL (envOfC qual scope s.heap.objs.size f cd).kindOf (ps.zip us) fun _ => none) (cellsFrom (s.heap.objs.size + 1) scope.names []) (bindC (envOfC qual scope s.heap.objs.size f cd).kindOf (ps.zip us) fun _ => none) s1) :
  Inv (cxOf CX P w K mg base N qual scope f cd A outer s H E) [] (start N vs) H s1 := by
 have hpl : ps.length <= N.length := by have := congrArg List.length S.pre; rw [List.length_take] at this; omega
 obtain ⟨h1, tk, rfl, hk⟩ := x.done
 have noA : ∀ b : Addr, b ∉ (cxOf CX P w K mg base N qual scope f cd A outer s H E).ex := fun b z => absurd (show b ∈ ([] : List Addr) from z) (by simp)
 refine ⟨⟨e0.mod, S.kind, rfl, rfl, Nat.le_refl _, fun y z c h1 h2 => ?_, fun y hy => ?_, fun y c _ h => ?_, fun _ => hd, Around.frames_deeper e0.frames, .inr ⟨rfl, rfl⟩, fun b z => absurd z (noA b), e0.bs, e0.bsz, fun b _ _ => noA b, fun b z => absurd z (noA b), e0.funs, e0.frf⟩,
  rfl, e0.bare, Un.kept hk, ⟨_, x.toInCall.ns, fun i y v h1 h2 h3 => ?_⟩, fun y c h => ⟨_, x.cell y c h⟩, e0.hok.fresh (Nat.le_refl _), fun y c h => ?_, fun p hp => absurd (show p ∈ ([] : List (Addr × Obj)) from hp) (by simp), e0.hok.kept hk, ?_⟩
 ·exact name_of_addr x.apart (PySem.mem_of_lookup h1) (PySem.mem_of_lookup h2)
 ·have hy : scope.names.lookup y = some .cell \/ scope.names.lookup y = some .free := hy
  rcases hy with hy | hy
  ·exact hk0 hy
  ·exact absurd rfl (S.nofree _ (PySem.mem_of_lookup hy))
 ·exact Nat.le_of_lt (x.above y c (PySem.mem_of_lookup h))
 ·have hi : i < vs.length := by
   unfold start at h2
   by_cases hi : i < vs.length
   ·exact hi
   ·rw [List.getElem?_append_right (by simpa using hi)] at h2
    rw [List.getElem?_replicate] at h2
    split at h2 <;> cases h2
  have ha : vs[i]? = some v := by
   unfold start at h2
   rw [List.getElem?_append_left (by simpa using hi), List.getElem?_map] at h2
   cases e : vs[i]? with
   | none => rw [e] at h2; cases h2
   | some a => rw [e] at h2; cases h2; rfl
  obtain ⟨u, hu, rv⟩ := r.get ha
  have hp : ps[i]? = some y := by
   rw [<- S.pre, List.getElem?_take_of_lt (by omega)]; exact h1
  have ndP : ps.Nodup := by rw [<- S.pre]; exact S.nd.sublist (List.take_sublist _ _)
  refine ⟨u, rv, ?_⟩
  rcases S.par y (List.mem_of_getElem? hp) with k | k
  ·exact .inl ⟨k, fY0 ndP hp hu k⟩
  ·obtain ⟨c, e⟩ := hk0 (n := s.heap.objs.size + 1) k
   refine .inr ⟨.inl k, c, e, ?_⟩
   have q := x.cell y c e
   rw [ft0 ndP hp hu (by show scope.names.lookup y ≠ _; rw [k]; decide)] at q
   exact q
 ·exact e0.hok.fresh (Nat.le_of_lt (x.above y c (PySem.mem_of_lookup h)))
 ·unfold start
  show _ = N.length
  rw [List.length_append, List.length_map, List.length_replicate]
  omega
theorem lU0 {CX : CXT} {P : Program} {w : World} {K : PySem.W.Frag} {mg : Str -> Option Value} {base : Heap} {k : Nat} {f : Addr} {name qual : Str} {params : Arguments} {body : List Stmt} {scope : Scope} {dV kV doc pm cdv ct oc : Value} {an od : Option Addr}
  {osl : Array (Option Value)} {N ps : List Str} {sp : Sp} (lk : K.lookup f = some ⟨oc, od, .func (PySem.W.fnOf name qual params body scope dV kV doc pm an cdv ct), osl⟩) (hcd : PySem.W.codeIn K cdv qual = true) (S : FnScope N ps scope)
  (len : ∀ vs H Q E, sp vs H Q E -> vs.length = ps.length)
  (hbody : ∀ (A : Around) (outer : List Env) (s : Shared) (H : Hp) (vs : List V) (Q : VK) (E : XK), Room k (A.deeper (envOfC qual scope s.heap.objs.size f cdv)) -> sp vs H Q E ->
   ∃ t, PSs (cxOf CX P w K mg base N qual scope f cdv A outer s H E) body t /\ t { nx := fun _ H' => Q .non H', rt := Q } (start N vs) H) :
  FnOk P w K mg base CX (k + 1) f (PySem.W.fnOf name qual params body scope dV kV doc pm an cdv ct) ps sp := by
 refine ⟨len, fun A outer s H args us vs Q E hr e0 hb r hsp => ?_⟩
 have hl := len _ _ _ _ hsp
 have KX : K.In s.heap := e0.mod.kin.keeps fun b o e => (e0.bs b o e).1
 have lim : s.heap.NoLimit := e0.mod.nolimit.keeps fun b o e => (e0.bs b o e).1
 have hkind : ∀ y ∈ ps.zip us, scope.names.lookup y.1 = some .local \/ (scope.names.lookup y.1 = some .cell /\ ((cellsFrom (s.heap.objs.size + 1) scope.names []).lookup y.1).isSome = true) := fun ⟨n, v⟩ hy => by
  rcases S.par n (List.of_mem_zip hy).1 with q | q
  ·exact .inl q
  ·exact .inr ⟨q, PySem.W.cellsFrom_some _ _ _ (.inl q)⟩
 refine codeAny_call_function hr.depth (KX _ _ lk) rfl S.co S.gen rfl (PySem.W.codeRec_of KX hcd) (hb _ _ _ _ ?_)
 refine wpAny_newFunctionEnv_cells S.kind hkind fun env he s1 x => ?_
 subst he
 refine ⟨lim.keeps x.toInCall.keep, codeAny_func ?_⟩
 obtain ⟨t, ht, hq⟩ := hbody A outer s H vs Q E (hr.deeper _) hsp
 have I : Inv (cxOf CX P w K mg base N qual scope f cdv A outer s H E) [] (start N vs) H s1 := im0 S hr.hd e0 hl r x
 refine wpAny_mono (ht [] s1 (start N vs) H _ I hq) (fun fl s' hs => ?_) fun e s' hs => hs
 have fin : ∀ {σ' : St} {H' : Hp} {v : V} {u : Value}, Inv (cxOf CX P w K mg base N qual scope f cdv A outer s H E) [] σ' H' s' -> RelV v u -> Q v H' -> CE outer P w H s Q u s' :=
  fun {σ' H' v u} J rv q => ⟨v, H', J.os, J.bare, J.base, J.hok, rv, q⟩
 cases fl with
 | ret u =>
  obtain ⟨v, σ', H', J, rv, q⟩ := hs
  exact fin J rv q
 | next =>
  obtain ⟨σ', H', J, q⟩ := hs
  exact fin (v := V.non) (u := Value.none) J rfl q
 | brk =>
  obtain ⟨_, _, _, q⟩ := hs
  exact False.elim q
 | cont =>
  obtain ⟨_, _, _, q⟩ := hs
  exact False.elim q
end L2
namespace L2
open PySem PySem.Spec PyProof.Rows
section
variable {X : Cx} {x : Str} {p pos : Pos} {e : Expr} {es : List Expr} {t : TA} {id T : String} {r : List V -> Hp -> VK -> Prop}
def tCB (r : List V -> Hp -> VK -> Prop) (t : TA) : TE := fun σ H Q => t σ H fun vs H1 => r vs H1 Q
theorem di0 (hc : cM0 X (.builtin id) r) (hg : Gl X x) (hm : X.mg x = none) (hv : bootBuiltins x = some (.builtin id)) (ha : PA X (e :: es) t) (hn : x ≠ "__name__" := by decide) (hdb : (x == ("__debug__" : Str)) = false := by decide)
  (he : starEach (e :: es) X.env = (false, eval e X.env) :: starEach es X.env := by rfl) (hpl : (backTo pos (starEach es X.env)).any (·.1) = false := by rfl) : PE X (.Call (.Name x p) (e :: es) [] pos) (tCB r t) := by
 intro pins s σ H Q I h
 refine wpAny_Call_Name_kw (eF0 I hg hm hv ?_ hn hdb)
 exact PyProof.Rows.callWith_builtin1 (thn (ha pos pins s σ H _ I h) fun us s1 ⟨vs, H1, I1, r1, q1⟩ => hc pins s1 σ H1 vs us Q I1 r1 q1) he hpl
theorem fu0 (hc : cM0 X (.type T) r) (hg : Gl X x) (hm : X.mg x = none) (hv : bootBuiltins x = some (.type T)) (ha : PA X (e :: es) t) (hn : x ≠ "__name__" := by decide) (hdb : (x == ("__debug__" : Str)) = false := by decide)
  (he : starEach (e :: es) X.env = (false, eval e X.env) :: starEach es X.env := by rfl) (hpl : (backTo pos (starEach es X.env)).any (·.1) = false := by rfl) : PE X (.Call (.Name x p) (e :: es) [] pos) (tCB r t) := by
 intro pins s σ H Q I h
 refine wpAny_Call_Name_kw (eF0 I hg hm hv ?_ hn hdb)
 exact PyProof.Rows.callWith_type1 (thn (ha pos pins s σ H _ I h) fun us s1 ⟨vs, H1, I1, r1, q1⟩ => hc pins s1 σ H1 vs us Q I1 r1 q1) he hpl
end
end L2
namespace HT
open PySem PyProof.Rows
section
open PySem.SeqAt
open PySem.AutoSeq1 (wpAny_loadPart')
open PySem.MeetsSeq PySem.MeetsSeq2 PySem.MeetsSeq3
end
section
variable {prog : Program} {w : World} {A : Around} {E : Value -> Shared -> Prop} {s : Shared}
theorem cat_tup {t b : Addr} {vs ws : List Value} {Q : Value -> Shared -> Prop} (ht : IsTup s.heap t vs.toArray) (hb : IsTup s.heap b ws.toArray) (hv : vs ≠ [])
  (h1 : ws = [] -> Q (.ref t) s) (h2 : ws ≠ [] -> Q (.ref s.heap.objs.size) { s with heap := s.heap.push { cls := .type "tuple", data := .seq (vs ++ ws).toArray } })
  (hsz : vs.length + ws.length <= sizeLine) : wpAny (model prog w) A (binaryOp .Add (.ref t) (.ref b)) Q E s := by
 obtain ⟨⟨cls, dd, data, sl⟩, ho, hc, n, hd⟩ := id ht
 obtain ⟨⟨cls2, dd2, data2, sl2⟩, ho2, hc2, n2, hd2⟩ := id hb
 simp only at hc hd hc2 hd2
 subst hc hd hc2 hd2
 have e : vs.toArray ++ ws.toArray = (vs ++ ws).toArray := by simp
 by_cases hw : ws = []
 ·exact concat_meets ⟨_, ho, rfl⟩ ⟨_, ho2, rfl⟩ noFill_tuple_add seq_tuple_add PySem.F.slot_tuple_add PySem.F.entry_tuple_add (PySem.F.args_tuple_add_2 _ _)
   (tuple_addW1 t b vs.toArray ws.toArray n n2 dd dd2 sl sl2 (by simpa using hv) (by simp [hw])) ⟨ho, ho2, h1 hw⟩
 ·refine concat_meets ⟨_, ho, rfl⟩ ⟨_, ho2, rfl⟩ noFill_tuple_add seq_tuple_add PySem.F.slot_tuple_add PySem.F.entry_tuple_add (PySem.F.args_tuple_add_2 _ _)
   (tuple_addW2 t b vs.toArray ws.toArray n n2 dd dd2 sl sl2 (by simpa using hv) (by simpa using hw) (by rw [List.size_toArray, List.size_toArray]; exact hsz)) ⟨ho, ho2, ?_⟩
  rw [e]
  exact h2 hw
def sIx (n d : Nat) : Option Int -> Nat
 | none => d
 | some v => if v < 0 then (v + (n : Int)).toNat else min v.toNat n
theorem nA0 (n d : Nat) (hd : d <= n) (o : Option Int) : sIx n d o <= n := by
 cases o with
 | none => exact hd
 | some v =>
  show (if v < 0 then (v + (n : Int)).toNat else min v.toNat n) <= n
  by_cases hv : v < 0
  ·rw [if_pos hv]; omega
  ·rw [if_neg hv]; exact Nat.min_le_right _ _
theorem ie0 (v : Int) (n d : Nat) : (if v < 0 then max (v + (n : Int)) 0 else min v (n : Int)) = ((sIx n d (some v) : Nat) : Int) := by
 show (if v < 0 then max (v + (n : Int)) 0 else min v (n : Int)) = (((if v < 0 then (v + (n : Int)).toNat else min v.toNat n) : Nat) : Int)
 by_cases hv : v < 0
 ·simp only [if_pos hv]; omega
 ·simp only [if_neg hv]; omega
theorem hH0 (lo hi : Option Int) (n : Nat) : Builtin.Slice.sliceAdjust lo hi 1 (n : Int) = (((sIx n 0 lo : Nat) : Int), ((sIx n n hi : Nat) : Int)) := by
 have h1 : ¬ ((1 : Int) < 0) := by omega
 unfold Builtin.Slice.sliceAdjust
 simp only [h1, if_false]
 refine Prod.ext ?_ ?_
 ·cases lo with
  | none => rfl
  | some v => exact ie0 v n 0
 ·cases hi with
  | none => rfl
  | some v => exact ie0 v n n
theorem hB0 (i j : Nat) : Builtin.Slice.slicePlaces (i : Int) (j : Int) 1 = j - i := by
 unfold Builtin.Slice.slicePlaces
 have h1 : (1 : Int) > 0 := by omega
 simp only [h1, if_true, Int.ediv_one]
 split <;> omega
theorem eJ0 {v : Value} {o : Option Int} {Q : Option Int -> Shared -> Prop} (p : IsPart v o) (h : Q o s) : wpAny (model prog w) A (Builtin.Slice.slicePartIndex v) Q E s := by
 cases p with
 | none => exact slicePart_none h
 | int i t => exact slicePart_int h
theorem sliceApplied_gen {sl : Addr} {vl vu : Value} {lo hi : Option Int} {n : Nat} {Q : Int × Int × Nat -> Shared -> Prop} (hs : s.heap.IsSliceOf sl vl vu .none) (pl : IsPart vl lo) (pu : IsPart vu hi)
  (h : Q (((sIx n 0 lo : Nat) : Int), 1, sIx n n hi - sIx n 0 lo) s) : wpAny (model prog w) A (Builtin.Slice.sliceApplied (.ref sl) (pure (n : Int))) Q E s := by
 obtain ⟨os, hos, hcs, hds⟩ := id hs
 unfold Builtin.Slice.sliceApplied Builtin.Slice.sliceFields
 refine wpAny_bind (wpAny_bind (wpAny_field hos hds (x := vl) rfl (wpAny_bind (wpAny_field hos hds (x := vu) rfl (wpAny_bind (wpAny_field hos hds (x := .none) rfl (wpAny_pure ?_)))))))
 refine wpAny_bind (slicePart_none ?_)
 show wpAny _ _ (if ((1 : Int) == 0) = true then _ else _) _ _ s
 rw [if_neg (by decide)]
 refine wpAny_bind (eJ0 pl (wpAny_bind (eJ0 pu (wpAny_bind (wpAny_pure ?_)))))
 show wpAny _ _ (match Builtin.Slice.sliceAdjust lo hi 1 (n : Int) with | (lo, hi) => pure (lo, (1 : Int), Builtin.Slice.slicePlaces lo hi 1)) _ _ s
 rw [hH0 lo hi n]
 show wpAny _ _ (pure (((sIx n 0 lo : Nat) : Int), (1 : Int), Builtin.Slice.slicePlaces ((sIx n 0 lo : Nat) : Int) ((sIx n n hi : Nat) : Int) 1)) _ _ s
 rw [hB0]
 exact wpAny_pure h
theorem kp0 (xs : Array Value) (i k : Nat) : ((List.range k).filterMap fun (m : Nat) => xs[((i : Int) + (m : Int) * 1).toNat]?).toArray = ((xs.toList.drop i).take k).toArray := by
 have e : (fun (m : Nat) => xs[((i : Int) + (m : Int) * 1).toNat]?) = fun m => xs[i + m]? := by
  funext m
  have : ((i : Int) + (m : Int) * 1).toNat = i + m := by omega
  rw [this]
 rw [e]
 have := pick_run xs i k
 rw [List.filterMap_map] at this
 have e2 : ((fun x => xs[x]?) ∘ fun x => i + x) = fun m => xs[i + m]? := rfl
 rw [e2] at this
 rw [this]
theorem getItem_tuple_cut {t sl : Addr} {items : Array Value} {vl vu : Value} {lo hi : Option Int} {Q : Value -> Shared -> Prop} (ht : IsTup s.heap t items) (hs : s.heap.IsSliceOf sl vl vu .none) (pl : IsPart vl lo) (pu : IsPart vu hi)
  (hw : ¬ (sIx items.size 0 lo = 0 /\ sIx items.size items.size hi = items.size))
  (h : Q (.ref s.heap.objs.size) { s with heap := s.heap.push { cls := .type "tuple", data := .seq ((items.toList.drop (sIx items.size 0 lo)).take (sIx items.size items.size hi - sIx items.size 0 lo)).toArray } })
  (hsz : items.size <= sizeLine) : wpAny (model prog w) A (getItem (.ref t) (.ref sl)) Q E s := by
 have htake : sizeOk (.seq ((items.toList.drop (sIx items.size 0 lo)).take (sIx items.size items.size hi - sIx items.size 0 lo)).toArray) := by
  show ((items.toList.drop (sIx items.size 0 lo)).take (sIx items.size items.size hi - sIx items.size 0 lo)).toArray.size <= sizeLine
  rw [List.size_toArray, List.length_take, List.length_drop, Array.length_toList]
  omega
 have hj : sIx items.size items.size hi <= items.size := nA0 _ _ (Nat.le_refl _) hi
 obtain ⟨os, hos, hcs, hds⟩ := id hs
 have hTs : s.TypeIs (.ref sl) "slice" := ⟨os, hos, hcs⟩
 unfold getItem
 try with_reducible refine wpAny_holding ?_
 first | refine wpAny_bind (wpAny_pure ?_) | skip
 refine wpAny_bind (wpAny_sequenceKey ht.typeIs (by decide) ?_)
 refine wpAny_bind (wpAny_callSpecial?_slot (name := Str.ofString "__getitem__") ht.typeIs PyProof.Rows.slot_tuple_getitem
  (wpAny_call_entry PyProof.Rows.slot_tuple_getitem ht.typeIs entry_tuple_getitem ?_ (args_tuple_getitem _ _)))
 show wpAny _ _ (Builtin.Tuple.tupleItemsOf (.ref t) >>= _) _ _ s
 refine wpAny_bind (tupleItemsOf_ ht ?_)
 refine wpAny_bind (wpAny_typeOf hTs ?_)
 rw [if_pos (by decide)]
 refine wpAny_bind (sliceApplied_gen hs pl pu ?_)
 have hno : ¬ ((((sIx items.size 0 lo : Nat) : Int) == 0 && (1 : Int) == 1 && (sIx items.size items.size hi - sIx items.size 0 lo) == items.size) = true) := by
  intro q
  rw [Bool.and_eq_true, Bool.and_eq_true] at q
  have q1 : ((sIx items.size 0 lo : Nat) : Int) = 0 := eq_of_beq q.1.1
  have q2 : sIx items.size items.size hi - sIx items.size 0 lo = items.size := eq_of_beq q.2
  exact hw ⟨by omega, by omega⟩
 show wpAny _ _ (if (((sIx items.size 0 lo : Nat) : Int) == 0 && (1 : Int) == 1 && (sIx items.size items.size hi - sIx items.size 0 lo) == items.size) = true then _ else _) _ _ s
 rw [if_neg hno, kp0]
 first
  | exact wpAny_bind (m := Builtin.Tuple.tupleExact _) (wpAny_newObj_type (wpAny_pure ⟨_, rfl, wpAny_pure h⟩) htake)
  | exact wpAny_bind (m := Builtin.Tuple.tupleExact _) (wpAny_newObj_type (wpAny_bind (wpAny_pure (wpAny_pure ⟨_, rfl, wpAny_pure h⟩))) htake)
  | exact wpAny_bind (wpAny_bind (m := Builtin.Tuple.tupleExact _) (wpAny_newObj_type (wpAny_pure (wpAny_pure ⟨_, rfl, wpAny_pure h⟩)) htake))
  | exact wpAny_bind (wpAny_bind (m := Builtin.Tuple.tupleExact _) (wpAny_newObj_type (wpAny_pure ⟨_, rfl, wpAny_pure h⟩) htake))
end
end HT
namespace L2
open PySem PySem.Spec PyProof.Rows
abbrev TO := St -> Hp -> (Option Int -> Hp -> Prop) -> Prop
def PO (X : Cx) (e : Option Expr) (t : TO) : Prop :=
 ∀ (pins : List (Addr × Obj)) (s : Shared) (σ : St) (H : Hp) (Q : Option Int -> Hp -> Prop), Inv X pins σ H s -> t σ H Q ->
  wpAny (model X.prog X.w) X.A (evalPart e X.env) (fun u s' => ∃ o H', Inv X pins σ H' s' /\ IsPart u o /\ Q o H') X.xe s
def lG0 : TO := fun _ H Q => Q none H
def tPart (t : TE) : TO := fun σ H Q => t σ H fun x H1 => ∃ i, x = .int i /\ Q (some i) H1
section
variable {X : Cx} {e : Expr} {te : TE} {lo hi : Option Expr} {tl th : TO} {pos p2 : Pos}
theorem lZ0 : PO X none lG0 := by
 intro pins s σ H Q I h
 rw [evalPart_none]
 exact wpAny_pure ⟨none, H, I, .none, h⟩
theorem lD0 (h : PE X e te) : PO X (some e) (tPart te) := by
 intro pins s σ H Q I hw
 rw [evalPart_some]
 refine thn (h pins s σ H _ I hw) fun u s1 ⟨x, H1, I1, r1, q1⟩ => ?_
 obtain ⟨i, rfl, q⟩ := q1
 obtain ⟨t, rfl⟩ := r1
 exact ⟨some i, H1, I1, .int i t, q⟩
def SlR (X : Cx) (r : V -> Option Int -> Option Int -> Hp -> VK -> Prop) : Prop :=
 ∀ (pins : List (Addr × Obj)) (s : Shared) (σ : St) (H : Hp) (x : V) (v vl vu : Value) (lo hi : Option Int) (sl : Addr) (Q : VK), Inv X pins σ H s -> RelV x v -> s.heap.IsSliceOf sl vl vu .none -> IsPart vl lo -> IsPart vu hi -> r x lo hi H Q ->
  ∃ T id, typeLookup (.type T) "__getitem__" = pure (some (.builtin id)) /\ s.TypeIs v T /\ wpAny (model X.prog X.w) X.A (getItem v (.ref sl)) (EP X pins σ Q) X.xe s
theorem SlR.or {r r' : V -> Option Int -> Option Int -> Hp -> VK -> Prop} (h : SlR X r) (h' : SlR X r') : SlR X (fun x lo hi H Q => r x lo hi H Q \/ r' x lo hi H Q) := by
 intro pins s σ H x v vl vu lo hi sl Q I rx hs pl pu q
 rcases q with q | q
 ·exact h pins s σ H x v vl vu lo hi sl Q I rx hs pl pu q
 ·exact h' pins s σ H x v vl vu lo hi sl Q I rx hs pl pu q
def tSl (r : V -> Option Int -> Option Int -> Hp -> VK -> Prop) (te : TE) (tl th : TO) : TE := fun σ H Q => te σ H fun x H1 => tl σ H1 fun l H2 => th σ H2 fun u H3 => r x l u H3 Q
theorem hq0 {r : V -> Option Int -> Option Int -> Hp -> VK -> Prop} (hr : SlR X r) (he : PE X e te) (hl : PO X lo tl) (hu : PO X hi th) : PE X (.Subscript e (.Slice lo hi none p2) pos) (tSl r te tl th) := by
 intro pins s σ H Q I h
 refine Subscript_ (thn (he pins s σ H _ I h) fun v s1 ⟨x, H1, I1, r1, q1⟩ => ?_)
 refine wpAny_Slice (thn (hl pins s1 σ H1 _ I1 q1) fun vl s2 ⟨l, H2, I2, pl, q2⟩ => thn (hu pins s2 σ H2 _ I2 q2) fun vu s3 ⟨u, H3, I3, pu, q3⟩ => ?_)
 rw [evalPart_none]
 refine wpAny_pure ?_
 have I4 : Inv X pins σ H3 { s3 with heap := s3.heap.push { cls := .type "slice", data := .fields #[vl, vu, .none] } } := I3.kept (t' := s3.toks) fun b ob q => Heap.get?_push_of_some _ q
 obtain ⟨T, id, hT, ht, hg⟩ := hr pins { s3 with heap := s3.heap.push { cls := .type "slice", data := .fields #[vl, vu, .none] } } σ H3 x v vl vu l u s3.heap.objs.size Q I4 r1 (Heap.IsSliceOf.new ..) pl pu q3
 show wpAny (model X.prog X.w) X.A (subscriptTail e (.Slice lo hi none p2) v (.ref s3.heap.objs.size)) (EP X pins σ Q) X.xe { s3 with heap := s3.heap.push { cls := .type "slice", data := .fields #[vl, vu, .none] } }
 exact tail_any (ops := [.ref s3.heap.objs.size, v]) ht hT hg (by with_unfolding_all rfl)
def cutV (xs : List V) (lo hi : Option Int) : List V := (xs.drop (HT.sIx xs.length 0 lo)).take (HT.sIx xs.length xs.length hi - HT.sIx xs.length 0 lo)
theorem eb0 (xs : List V) (lo hi : Option Int) : (cutV xs lo hi).length <= xs.length := by
 unfold cutV
 rw [List.length_take, List.length_drop]
 omega
def rSlT (K : PySem.W.Frag) : V -> Option Int -> Option Int -> Hp -> VK -> Prop := fun x lo hi H Q => ∃ a xs, x = .ref a /\ SqT K H a xs /\
 ¬ (HT.sIx xs.length 0 lo = 0 /\ HT.sIx xs.length xs.length hi = xs.length) /\ ∀ p, H p = none -> Q (.ref p) (upd H p (.tup (cutV xs lo hi)))
theorem mW0 : SlR X (rSlT X.K) := by
 intro pins s σ H x v vl vu lo hi sl Q I rx hs pl pu h
 obtain ⟨a, xs, rfl, hx, hw, q⟩ := h
 cases rx
 obtain ⟨its, r, ht, hz⟩ := I.tuple hx
 have hlen : its.toArray.size = xs.length := by rw [List.size_toArray]; exact r.length.symm
 refine ⟨"tuple", _, PyProof.Rows.slot_tuple_getitem.lookup, ht.typeIs, ?_⟩
 refine HT.getItem_tuple_cut ht hs pl pu (by rw [hlen]; exact hw) ?_ (by rw [hlen]; exact hz)
 rw [hlen]
 refine ⟨.ref s.heap.objs.size, _, I.laid (t' := s.toks) (o := .tup (cutV xs lo hi)) (fun b ob q => Heap.get?_push_of_some _ q) (Nat.le_refl _) ?_, rfl, q _ (I.hok.fresh (Nat.le_refl _))⟩
 exact ⟨Nat.le_trans (eb0 xs lo hi) hz, _, (r.drop (HT.sIx xs.length 0 lo)).take (HT.sIx xs.length xs.length hi - HT.sIx xs.length 0 lo), IsTup.new _ _, _, Heap.get?_push_size _ rfl, rfl⟩
def rCatT (K : PySem.W.Frag) : R2 := fun x y H Q => ∃ a b xs ys, x = .ref a /\ y = .ref b /\ SqT K H a xs /\ SqT K H b ys /\ xs ≠ [] /\ xs.length + ys.length <= sizeLine /\
 (ys = [] -> Q (.ref a) H) /\ (ys ≠ [] -> ∀ p, H p = none -> Q (.ref p) (upd H p (.tup (xs ++ ys))))
theorem Vals.nil_iff {xs : List V} {us : List Value} (r : Vals xs us) : us = [] ↔ xs = [] := by
 cases r with
 | nil => simp
 | cons _ _ => simp
theorem mG0 : OpR X (binaryOp .Add) (rCatT X.K) := by
 intro pins s σ H x y v u Q I rx ry h
 obtain ⟨a, b, xs, ys, rfl, rfl, ha, hb, hx, hz, q1, q2⟩ := h
 cases rx
 cases ry
 obtain ⟨its, r1, p1, _⟩ := I.tuple ha
 obtain ⟨its2, r2, p2, _⟩ := I.tuple hb
 refine HT.cat_tup p1 p2 (fun z => hx (r1.nil_iff.mp z)) (fun z => ⟨.ref a, H, I, rfl, q1 (r2.nil_iff.mp z)⟩) (fun z => ?_) (by rw [<- r1.length, <- r2.length]; exact hz)
 refine ⟨.ref s.heap.objs.size, _, I.laid (t' := s.toks) (o := .tup (xs ++ ys)) (fun b ob q => Heap.get?_push_of_some _ q) (Nat.le_refl _) ?_, rfl, q2 (fun w => z (r2.nil_iff.mpr w)) _ (I.hok.fresh (Nat.le_refl _))⟩
 exact ⟨by rw [List.length_append]; exact hz, _, r1.append r2, IsTup.new _ _, _, Heap.get?_push_size _ rfl, rfl⟩
end
end L2
namespace L2
open PySem PySem.Spec PyProof.Rows
def ixN (n : Nat) (i : Int) : Option Nat := if 0 <= i then (if i < n then some i.toNat else none) else if -(n : Int) <= i then some (i + n).toNat else none
def atI {α : Type} (xs : List α) (i : Int) : Option α := (ixN xs.length i).bind fun j => xs[j]?
theorem il0 {n : Nat} {i : Int} {j : Nat} (h : ixN n i = some j) : seqIndex? i n = some j /\ j < n /\ -(n : Int) <= i /\ i < n := by
 unfold ixN at h
 by_cases h0 : 0 <= i
 ·rw [if_pos h0] at h
  by_cases h1 : i < n
  ·rw [if_pos h1] at h
   have e : i.toNat = j := Option.some.inj h
   exact ⟨by rw [seqIndex_of h0 h1, e], by omega, by omega, h1⟩
  ·rw [if_neg h1] at h; cases h
 ·rw [if_neg h0] at h
  by_cases h1 : -(n : Int) <= i
  ·rw [if_pos h1] at h
   have e : (i + n).toNat = j := Option.some.inj h
   exact ⟨by rw [seqIndex_neg (by omega) h1, e], by omega, h1, by omega⟩
  ·rw [if_neg h1] at h; cases h
theorem gp0 {α : Type} {xs : List α} {i : Int} {v : α} (h : atI xs i = some v) : ∃ j, seqIndex? i xs.length = some j /\ xs[j]? = some v /\ j < xs.length /\ -(xs.length : Int) <= i /\ i < xs.length := by
 unfold atI at h
 cases e : ixN xs.length i with
 | none => rw [e] at h; cases h
 | some j =>
  rw [e] at h
  obtain ⟨h1, h2, h3, h4⟩ := il0 e
  exact ⟨j, h1, h, h2, h3, h4⟩
theorem atI_nat {α : Type} {xs : List α} {j : Nat} {v : α} (h : xs[j]? = some v) : atI xs (j : Int) = some v := by
 have hj : j < xs.length := (List.getElem?_eq_some_iff.mp h).1
 have e : ixN xs.length (j : Int) = some j := by
  unfold ixN
  rw [if_pos (by omega), if_pos (by omega)]; simp
 unfold atI; rw [e]; exact h
def jC0 (b : Expr) : Prop := ∀ o i, subscripted b false o i = operate [o, i] (getItem o i)
def IxR (X : Cx) (r : R2) : Prop :=
 ∀ (value slice : Expr) (pins : List (Addr × Obj)) (s : Shared) (σ : St) (H : Hp) (x y : V) (v u : Value) (Q : VK), Inv X pins σ H s -> RelV x v -> RelV y u -> r x y H Q ->
  subscripted slice false v u = operate [v, u] (getItem v u) -> wpAny (model X.prog X.w) X.A (subscriptTail value slice v u) (EP X pins σ Q) X.xe s
def MtR (X : Cx) (id : String) (r : V -> List V -> Hp -> VK -> Prop) : Prop :=
 ∀ (pins : List (Addr × Obj)) (s : Shared) (σ : St) (H : Hp) (x : V) (xs : List V) (v : Value) (us : List Value) (Q : VK), Inv X pins σ H s -> RelV x v -> Vals xs us -> r x xs H Q ->
  wpAny (model X.prog X.w) X.A (call (.builtin id) (v :: us)) (EP X pins σ Q) X.xe s
section
variable {X : Cx} {a b : Expr} {ta tb : TE} {pos : Pos}
theorem IxR.or {r r' : R2} (h : IxR X r) (h' : IxR X r') : IxR X (fun x y H Q => r x y H Q \/ r' x y H Q) := by
 intro value slice pins s σ H x y v u Q I rx ry q hs
 rcases q with q | q
 ·exact h value slice pins s σ H x y v u Q I rx ry q hs
 ·exact h' value slice pins s σ H x y v u Q I rx ry q hs
theorem pe_ix {r : R2} (hr : IxR X r) (ha : PE X a ta) (hb : PE X b tb) (hs : jC0 b) : PE X (.Subscript a b pos) (tOp r ta tb) := by
 intro pins s σ H Q I h
 exact Subscript_ (binT ha hb I h fun v u s2 x y H2 I2 rx ry q => hr a b pins s2 σ H2 x y v u Q I2 rx ry q (hs _ _))
def rIxL (K : PySem.W.Frag) : R2 := fun x y H Q => ∃ p xs i v, x = .ref p /\ y = .int i /\ SqL K H p xs /\ atI xs i = some v /\ Q v H
def rIxT (K : PySem.W.Frag) : R2 := fun x y H Q => ∃ p xs i v, x = .ref p /\ y = .int i /\ SqT K H p xs /\ atI xs i = some v /\ Q v H
def rIxS : R2 := fun x y H Q => ∃ z i c, x = .str z /\ y = .int i /\ z.length <= sizeLine /\ atI z.cps.toList i = some c /\ Q (.str ⟨#[c]⟩) H
theorem ix_list : IxR X (rIxL X.K) := by
 intro value slice pins s σ H x y v u Q I rx ry h hs
 obtain ⟨p, xs, i, z, rfl, rfl, hq, he, q⟩ := h
 cases rx
 obtain ⟨t, rfl⟩ := ry
 obtain ⟨its, r, pl, hz⟩ := I.list hq
 obtain ⟨j, h1, h2, h3, h4, h5⟩ := gp0 he
 obtain ⟨w, ew, rw'⟩ := r.get h2
 have hl := r.length
 have hn := eE0
 have fin : EP X pins σ Q w s := ⟨z, H, I, rw', q⟩
 by_cases h0 : 0 <= i
 ·have hj : i.toNat = j := by
   rw [seqIndex_of h0 h5] at h1
   exact Option.some.inj h1
  exact item_listR pl.isList h0 (by omega) (by rw [hj]; simpa using ew) fin hs
 ·have hj : (i + (its.toArray.size : Int)).toNat = j := by
   rw [seqIndex_neg (by omega) h4] at h1
   rw [List.size_toArray, <- hl]
   exact Option.some.inj h1
  exact subscriptTail_builtinR (x := w) pl.isList.typeIs slot_list_getitem.lookup
   (wpAny_getItem_list_neg (Q := fun r s' => r = w /\ EP X pins σ Q r s') pl.isList (by omega) (by rw [List.size_toArray] <;> omega) (by omega) (by rw [hj]; simpa using ew) ⟨rfl, fin⟩) hs
theorem ix_tup : IxR X (rIxT X.K) := by
 intro value slice pins s σ H x y v u Q I rx ry h hs
 obtain ⟨p, xs, i, z, rfl, rfl, hq, he, q⟩ := h
 cases rx
 obtain ⟨t, rfl⟩ := ry
 obtain ⟨its, r, pl, hz⟩ := I.tuple hq
 obtain ⟨j, h1, h2, h3, h4, h5⟩ := gp0 he
 obtain ⟨w, ew, rw'⟩ := r.get h2
 have hl := r.length
 have hn := eE0
 have fin : EP X pins σ Q w s := ⟨z, H, I, rw', q⟩
 exact subscriptTail_builtinR (x := w) pl.typeIs slot_tuple_getitem.lookup
  (getItem_tuple (j := j) (Q := fun r s' => r = w /\ EP X pins σ Q r s') pl (by omega) (by omega) (by rw [List.size_toArray, <- hl]; exact h1) (by simpa using ew) ⟨rfl, fin⟩) hs
theorem nR0 : IxR X rIxS := by
 intro value slice pins s σ H x y v u Q I rx ry h hs
 obtain ⟨z, i, c, rfl, rfl, hz, he, q⟩ := h
 obtain ⟨t, rfl⟩ := rx
 obtain ⟨t', rfl⟩ := ry
 obtain ⟨j, h1, h2, h3, h4, h5⟩ := gp0 he
 have hl : z.cps.toList.length = z.length := by simp [Str.length]
 rw [hl] at h1 h4 h5
 have hn := eE0
 exact tail_any (typeIs_str s z t) slot_str_getitem.lookup (getItem_str (c := c) (by
  have e1 : decide (i < -(2 ^ 63 : Int)) = false := decide_eq_false (by omega)
  have e2 : decide (i ≥ 2 ^ 63) = false := decide_eq_false (by omega)
  rw [e1, e2, Bool.or_false]) (by rw [h1]; simpa using h2) ⟨.str ⟨#[c]⟩, H, I.tok _, ⟨_, rfl⟩, q⟩) hs
def rIx (K : PySem.W.Frag) : R2 := fun x y H Q => rIxL K x y H Q \/ rIxT K x y H Q \/ rIxS x y H Q
theorem nq0 : IxR X (rIx X.K) := ix_list.or (ix_tup.or nR0)
theorem hz0 (its : List Value) (n j : Nat) (u : Value) : Obj.mapSeq (·.setIfInBounds j u) { cls := .type "list", data := .seq its.toArray n } = { cls := .type "list", data := .seq (its.set j u).toArray n } := by
 simp [Obj.mapSeq]
theorem Inv.lst {pins : List (Addr × Obj)} {σ : St} {H : Hp} {s : Shared} {p : Addr} {xs : List V} (I : Inv X pins σ H s) (h : H p = some (.lst xs)) :
  ∃ (its : List Value) (n : Nat), Vals xs its /\ s.heap.get? p = some { cls := .type "list", data := .seq its.toArray n } /\ xs.length <= sizeLine := by
 obtain ⟨z, its, n, r, e⟩ := I.hok p _ h
 exact ⟨its, n, r, e, z⟩
theorem Inv.lstUpd {pins : List (Addr × Obj)} {σ : St} {H : Hp} {s : Shared} {p : Addr} {xs ys : List V} {its its' : List Value} {n n' : Nat} {f : Obj -> Obj} (I : Inv X pins σ H s) (h : H p = some (.lst xs))
  (ho : s.heap.get? p = some { cls := .type "list", data := .seq its.toArray n }) (hf : f { cls := .type "list", data := .seq its.toArray n } = { cls := .type "list", data := .seq its'.toArray n' }) (r : Vals ys its') (hz : ys.length <= sizeLine) (t : Nat) :
  Inv X pins σ (upd H p (.lst ys)) { s with heap := s.heap.update p f, toks := t } := by
 have e : (s.heap.update p f).get? p = some { cls := .type "list", data := .seq its'.toArray n' } := by
  rw [Heap.get?_update_self f ho (by rw [hf] <;> rfl), hf]
 refine I.write (x := p) (e := p) (by rw [h]; trivial) (.inl rfl) (fun b u hb q => (Heap.get?_update_other _ _ (Ne.symm hb)).trans q) ⟨_, e⟩ ?_
 exact ⟨hz, its', n', r, e⟩
def rSetL : V -> V -> V -> Hp -> (Hp -> Prop) -> Prop := fun o i v H Q => ∃ p xs k j, o = .ref p /\ i = .int k /\ H p = some (.lst xs) /\ ixN xs.length k = some j /\ Q (upd H p (.lst (xs.set j v)))
theorem kI0 : PSet X rSetL := by
 intro pins s σ H o i v ov iv u Q I ro ri rv h
 obtain ⟨p, xs, k, j, rfl, rfl, hp, hj, q⟩ := h
 cases ro
 obtain ⟨t, rfl⟩ := ri
 obtain ⟨its, n, r, ho, hz⟩ := I.lst hp
 obtain ⟨h1, h2, h3, h4⟩ := il0 hj
 have hl := r.length
 have hn := eE0
 have I' : Inv X pins σ (upd H p (.lst (xs.set j v))) { s with heap := s.heap.update p (Obj.mapSeq (·.setIfInBounds j u)) } :=
  I.lstUpd hp ho (hz0 its n j u) (r.set rv j) (by rw [List.length_set]; exact hz) s.toks
 by_cases h0 : 0 <= k
 ·have hk : k.toNat = j := by
   rw [seqIndex_of h0 h4] at h1
   exact Option.some.inj h1
  exact PySem.W.ki_setAt ho h0 (by omega) (by rw [List.size_toArray, <- hl]; exact h4) (by rw [hk]; exact ⟨_, I', q⟩)
 ·have hk : (k + (its.toArray.size : Int)).toNat = j := by
   rw [seqIndex_neg (by omega) h3] at h1
   rw [List.size_toArray, <- hl]
   exact Option.some.inj h1
  exact PySem.W.ki_setBack ho (by omega) (by rw [List.size_toArray, <- hl]; exact h3) (by omega) (by rw [hk]; exact ⟨_, I', q⟩)
theorem fD0 (lo hi : Option Int) (n : Nat) : (sliceBounds lo hi none n).1 = ((HT.sIx n 0 lo : Nat) : Int) /\ (sliceBounds lo hi none n).2.1 = ((HT.sIx n n hi : Nat) : Int) /\ (sliceBounds lo hi none n).2.2 = 1 := by
 refine ⟨?_, ?_, rfl⟩
 ·cases lo with
  | none => simp [sliceBounds, HT.sIx]
  | some i =>
   simp only [sliceBounds, HT.sIx, Option.getD_none, show (1 : Int) > 0 by decide, if_true]
   by_cases h : i < 0
   ·simp only [h, if_true] <;> omega
   ·simp only [h, if_false] <;> omega
 ·cases hi with
  | none => simp [sliceBounds, HT.sIx]
  | some i =>
   simp only [sliceBounds, HT.sIx, Option.getD_none, show (1 : Int) > 0 by decide, if_true]
   by_cases h : i < 0
   ·simp only [h, if_true] <;> omega
   ·simp only [h, if_false] <;> omega
theorem fd0 (its : List Value) (lo hi : Option Int) : slicePick its.toArray lo hi none = ((its.drop (HT.sIx its.length 0 lo)).take (HT.sIx its.length its.length hi - HT.sIx its.length 0 lo)).toArray := by
 obtain ⟨h1, h2, h3⟩ := fD0 lo hi its.toArray.size
 unfold slicePick
 rw [h1, h2, h3]
 simp only [sliceRange_one, pick_run, List.size_toArray] <;> rfl
def rSlL (K : PySem.W.Frag) : V -> Option Int -> Option Int -> Hp -> VK -> Prop := fun x lo hi H Q => ∃ a xs, x = .ref a /\ SqL K H a xs /\ ∀ p, H p = none -> Q (.ref p) (upd H p (.lst (cutV xs lo hi)))
theorem lW0 : SlR X (rSlL X.K) := by
 intro pins s σ H x v vl vu lo hi sl Q I rx hs pl pu h
 obtain ⟨a, xs, rfl, hx, q⟩ := h
 cases rx
 obtain ⟨its, r, ht, hz⟩ := I.list hx
 have hlen := r.length
 refine ⟨"list", _, slot_list_getitem.lookup, ht.isList.typeIs, ?_⟩
 refine wpAny_getItem_list_slice ht.isList hs pl pu .none (by simp) ?_ (by rw [List.size_toArray] <;> omega)
 rw [fd0, <- hlen]
 refine ⟨.ref s.heap.objs.size, _, I.laid (t' := s.toks) (o := .lst (cutV xs lo hi)) (fun b ob q => Heap.get?_push_of_some _ q) (Nat.le_refl _) ?_, rfl, q _ (I.hok.fresh (Nat.le_refl _))⟩
 exact ⟨Nat.le_trans (eb0 xs lo hi) hz, _, 0, (r.drop (HT.sIx xs.length 0 lo)).take (HT.sIx xs.length xs.length hi - HT.sIx xs.length 0 lo), Heap.get?_push_size _ rfl⟩
def co0 : V -> Bool
 | .non => true
 | .bl _ => true
 | .int _ => true
 | .str _ => true
 | _ => false
def eqV : V -> V -> Bool
 | .non, .non => true
 | .bl a, .bl b => a == b
 | .bl a, .int b => (if a then 1 else 0) == b
 | .int a, .bl b => a == (if b then 1 else 0)
 | .int a, .int b => a == b
 | .str a, .str b => a == b
 | _, _ => false
theorem kU0 {A : Around} {s : Shared} {y x : V} {u v : Value} (ry : RelV y u) (rx : RelV x v) (fy : co0 y = true) (fx : co0 x = true) : SeqAt.EqAt A s u v (eqV y x) := by
 cases y with
 | non =>
  cases ry
  cases x with
  | non => cases rx; exact SeqAt.EqAt.same _
  | bl b => cases rx; exact SeqAt.EqAt.none_bool b
  | int b => obtain ⟨t, rfl⟩ := rx; exact SeqAt.EqAt.none_int b t
  | str b => obtain ⟨t, rfl⟩ := rx; exact SeqAt.EqAt.none_str b t
  | _ => exact absurd (show false = true from fx) Bool.false_ne_true
 | bl a =>
  cases ry
  cases x with
  | non => cases rx; exact SeqAt.EqAt.bool_none a
  | bl b => cases rx; exact SeqAt.EqAt.bool_bool a b
  | int b => obtain ⟨t, rfl⟩ := rx; exact SeqAt.EqAt.bool_int a b t
  | str b => obtain ⟨t, rfl⟩ := rx; exact SeqAt.EqAt.bool_str a b t
  | _ => exact absurd (show false = true from fx) Bool.false_ne_true
 | int a =>
  obtain ⟨t', rfl⟩ := ry
  cases x with
  | non => cases rx; exact SeqAt.EqAt.int_none a t'
  | bl b => cases rx; exact SeqAt.EqAt.int_bool a t' b
  | int b => obtain ⟨t, rfl⟩ := rx; exact SeqAt.EqAt.int_int a t' b t
  | str b => obtain ⟨t, rfl⟩ := rx; exact SeqAt.EqAt.int_str a t' b t
  | _ => exact absurd (show false = true from fx) Bool.false_ne_true
 | str a =>
  obtain ⟨t', rfl⟩ := ry
  cases x with
  | non => cases rx; exact SeqAt.EqAt.str_none a t'
  | bl b => cases rx; exact SeqAt.EqAt.str_bool a t' b
  | int b => obtain ⟨t, rfl⟩ := rx; exact SeqAt.EqAt.str_int a t' b t
  | str b => obtain ⟨t, rfl⟩ := rx; exact SeqAt.EqAt.str_str a t' b t
  | _ => exact absurd (show false = true from fx) Bool.false_ne_true
 | _ => exact absurd (show false = true from fy) Bool.false_ne_true
def eqU (x : V) (u : Value) : Bool := match u with
 | .none => eqV .non x
 | .bool b => eqV (.bl b) x
 | .int i _ => eqV (.int i) x
 | .str z _ => eqV (.str z) x
 | _ => false
theorem gZ0 {x y : V} {u : Value} (r : RelV y u) (f : co0 y = true) : eqU x u = eqV y x := by
 cases y with
 | non => cases r; rfl
 | bl b => cases r; rfl
 | int i => obtain ⟨t, rfl⟩ := r; rfl
 | str z => obtain ⟨t, rfl⟩ := r; rfl
 | _ => exact absurd (show false = true from f) Bool.false_ne_true
theorem go0 {x : V} : ∀ {xs : List V} {us : List Value}, Vals xs us -> xs.all co0 = true -> us.any (eqU x) = xs.any fun y => eqV y x
 | _, _, .nil, _ => rfl
 | y :: xs, u :: us, .cons r t, f => by
  rw [List.all_cons, Bool.and_eq_true] at f
  rw [List.any_cons, List.any_cons, gZ0 r f.1, go0 t f.2]
theorem cZ0 {A : Around} {s : Shared} {x : V} {v : Value} (rx : RelV x v) (fx : co0 x = true) : ∀ {xs : List V} {us : List Value}, Vals xs us -> xs.all co0 = true -> ∀ u ∈ us, SeqAt.EqAt A s u v (eqU x u)
 | _, _, .nil, _ => fun u hu => by cases hu
 | y :: xs, u :: us, .cons r t, f => fun u' hu => by
  rw [List.all_cons, Bool.and_eq_true] at f
  rcases List.mem_cons.mp hu with rfl | hu
  ·rw [gZ0 r f.1]; exact kU0 r rx f.1 fx
  ·exact cZ0 rx fx t f.2 u' hu
def inV (x : V) (xs : List V) : Bool := xs.any fun y => eqV y x
def rIn (K : PySem.W.Frag) (neg : Bool) : R2 := fun x y H Q => ∃ p xs, y = .ref p /\ (SqL K H p xs \/ SqT K H p xs) /\ co0 x = true /\ xs.all co0 = true /\ Q (.bl (if neg then !inV x xs else inV x xs)) H
theorem fM0 : OpR X (compareOp .NotIn) (rIn X.K true) := by
 intro pins s σ H x y v u Q I rx ry h
 obtain ⟨p, xs, rfl, hq, fx, fs, q⟩ := h
 cases ry
 rcases hq with hq | hq
 ·obtain ⟨its, r, pl, hz⟩ := I.list hq
  refine SeqAt.notIn_listAt (eqU x) pl.isList (fun w hw => cZ0 rx fx r fs w (by simpa using hw)) ⟨.bl _, H, I, rfl, ?_⟩
  rw [show its.toArray.any (eqU x) = its.any (eqU x) by simp, go0 r fs]
  exact q
 ·obtain ⟨its, r, pl, hz⟩ := I.tuple hq
  refine SeqAt.notIn_tupleAt (eqU x) pl (fun w hw => cZ0 rx fx r fs w (by simpa using hw)) ⟨.bl _, H, I, rfl, ?_⟩
  rw [show its.toArray.any (eqU x) = its.any (eqU x) by simp, go0 r fs]
  exact q
theorem fT0 : cM0 X (.type "list") (fun xs H Q => ∃ p ys, xs = [.ref p] /\ (SqL X.K H p ys \/ SqT X.K H p ys) /\ ∀ l, H l = none -> Q (.ref l) (upd H l (.lst ys))) := by
 intro pins s σ H xs us Q I r h
 obtain ⟨p, ys, rfl, hq, q⟩ := h
 obtain ⟨u, rfl, rx⟩ := hT0 r
 cases rx
 have fin : ∀ (its : List Value), Vals ys its -> ys.length <= sizeLine -> ∀ (h' : Heap) (c' : Nat), (∀ b o', s.heap.get? b = some o' -> h'.get? b = some o') ->
   h'.get? s.heap.objs.size = some { cls := .type "list", dict := none, data := .seq its.toArray c', slots := #[] } -> EP X pins σ Q (.ref s.heap.objs.size) { s with heap := h' } := fun its r' hz h' c' kp e =>
  ⟨.ref s.heap.objs.size, _, I.laid (t' := s.toks) kp (Nat.le_refl _) (show ObjOk X.prog X.w _ h' _ (.lst ys) from ⟨hz, its, c', r', e⟩), rfl, q _ (I.hok.fresh (Nat.le_refl _))⟩
 rcases hq with hq | hq
 ·obtain ⟨its, r', pl, hz⟩ := I.list hq
  have hlen := r'.length
  obtain ⟨o, ho, hc, n, hd⟩ := pl.isList
  exact call_list_seq p (.inl rfl) ho hc hd (fun h' c' kp e => fin its r' hz h' c' kp e) (by simp only [List.size_toArray] <;> omega)
 ·obtain ⟨its, r', pl, hz⟩ := I.tuple hq
  have hlen := r'.length
  obtain ⟨o, ho, hc, n, hd⟩ := pl
  exact call_list_seq p (.inr rfl) ho hc hd (fun h' c' kp e => fin its r' hz h' c' kp e) (by simp only [List.size_toArray] <;> omega)
theorem eY0 : cM0 X (.type "tuple") (fun xs H Q => ∃ p ys, xs = [.ref p] /\ ((SqL X.K H p ys /\ ∀ l, H l = none -> Q (.ref l) (upd H l (.tup ys))) \/ (SqT X.K H p ys /\ Q (.ref p) H))) := by
 intro pins s σ H xs us Q I r h
 obtain ⟨p, ys, rfl, h⟩ := h
 obtain ⟨u, rfl, rx⟩ := hT0 r
 cases rx
 rcases h with ⟨hq, q⟩ | ⟨hq, q⟩
 ·obtain ⟨its, r', pl, hz⟩ := I.list hq
  have hlen := r'.length
  refine call_tuple_list pl.isList (fun h' kp => ?_) (by simp only [List.size_toArray] <;> omega)
  have I1 : Inv X pins σ H { s with heap := h' } := I.kept (t' := s.toks) kp
  have I2 : Inv X pins σ (upd H h'.objs.size (.tup ys)) { s with heap := h'.push { cls := .type "tuple", data := .seq its.toArray } } :=
   I1.laid (t' := s.toks) (fun b o e => Heap.get?_push_of_some _ e) (Nat.le_refl _) (show ObjOk X.prog X.w _ _ _ (.tup ys) from ⟨hz, its, r', IsTup.new _ _, _, Heap.get?_push_size _ rfl, rfl⟩)
  exact ⟨.ref h'.objs.size, _, I2, rfl, q _ (I1.hok.fresh (Nat.le_refl _))⟩
 ·obtain ⟨its, r', pl, hz⟩ := I.tuple hq
  exact call_tuple_same pl ⟨.ref p, H, I, rfl, q⟩
def tyV (K : PySem.W.Frag) (T : String) (x : V) (H : Hp) : Prop := match x with
 | .str _ => T = "str"
 | .int _ => T = "int"
 | .ref p => (T = "list" /\ ∃ xs, SqL K H p xs) \/ (T = "tuple" /\ ∃ o, K.lookup p = some o /\ o.cls = .type "tuple" /\ o.dict = none) \/
   (T = "dict" /\ ((∃ kvs, H p = some (.dK kvs)) \/ ∃ kvs, H p = some (.dT kvs))) \/ (T = "set" /\ ∃ S n, H p = some (.set S n))
 | _ => False
theorem mT0 {pins : List (Addr × Obj)} {σ : St} {H : Hp} {s : Shared} {T : String} {x : V} {v : Value} (I : Inv X pins σ H s) (r : RelV x v) (ty : tyV X.K T x H) :
  s.TypeIs v T /\ ∀ a, v = .ref a -> ∃ ob, s.heap.get? a = some ob /\ ob.dict = none := by
 cases x with
 | str z =>
  obtain ⟨t, rfl⟩ := r
  cases (show T = "str" from ty)
  exact ⟨typeIs_str s z t, fun _ e => nomatch e⟩
 | int i =>
  obtain ⟨t, rfl⟩ := r
  cases (show T = "int" from ty)
  exact ⟨typeIs_int s i t, fun _ e => nomatch e⟩
 | ref p =>
  cases r
  rcases ty with ⟨rfl, xs, hq⟩ | ⟨rfl, o, hk, hc, hd⟩ | ⟨rfl, hk⟩ | ⟨rfl, S, n, hk⟩
  ·obtain ⟨its, _, pl, _⟩ := I.list hq
   refine ⟨pl.isList.typeIs, fun a e => ?_⟩
   cases e
   obtain ⟨o, n, e, c, hd, _⟩ := pl
   exact ⟨o, e, hd⟩
  ·refine ⟨⟨o, I.kIn p o hk, hc⟩, fun a e => ?_⟩
   cases e
   exact ⟨o, I.kIn _ o hk, hd⟩
  ·have z : ∃ o, s.heap.get? p = some o /\ o.ExactDict := by
    rcases hk with ⟨kvs, hk⟩ | ⟨kvs, hk⟩
    ·obtain ⟨_, _, _, _, o, _, _, e, ex, _⟩ := I.hok p _ hk
     exact ⟨o, e, ex⟩
    ·obtain ⟨_, _, _, _, o, _, _, e, ex, _⟩ := I.hok p _ hk
     exact ⟨o, e, ex⟩
   obtain ⟨o, e, ex⟩ := z
   refine ⟨⟨o, e, ex.1⟩, fun a e2 => ?_⟩
   cases e2
   exact ⟨o, e, ex.2.1⟩
  ·obtain ⟨o, _, _, _, e, ex, _⟩ := I.hok p _ hk
   refine ⟨⟨o, e, ex.1⟩, fun a e2 => ?_⟩
   cases e2
   exact ⟨o, e, ex.2.1⟩
 | _ => exact False.elim ty
def tBM (K : PySem.W.Frag) (T : String) (r : V -> List V -> Hp -> VK -> Prop) (to : TE) (t : TA) : TE := fun σ H Q => to σ H fun x H1 => tyV K T x H1 /\ t σ H1 fun xs H2 => r x xs H2 Q
variable {o e : Expr} {es : List Expr} {to : TE} {t : TA} {name : Str} {apos cpos : Pos} {T id : String} {r : V -> List V -> Hp -> VK -> Prop}
theorem jK0 (pa : PlainAttrs T) (slot : Slot T name id) (hty : typeOf (.builtin id) = pure (.type "method_descriptor")) (hm : MtR X id r) (ho : PE X o to) (ha : PA X (e :: es) t)
  (hbase : attributeBase o name X.env (eval o X.env) = eval o X.env := by rfl)
  (hfew : ((backTo cpos (starEach (e :: es) X.env)).all (fun x => !x.1) && (backToKw cpos (keywordEach [] X.env)).all (fun x => x.1.isSome)
   && decide ((e :: es).length + ([] : List Keyword).length + (if ([] : List Keyword).isEmpty then 0 else 1) < 30)) = true := by rfl)
  (hline : (apos.endLine == cpos.line) = true := by rfl) (hs : starEach (e :: es) X.env = (false, eval e X.env) :: starEach es X.env := by rfl) (hplain : (backTo cpos (starEach es X.env)).any (·.1) = false := by rfl) :
  PE X (.Call (.Attribute o name apos) (e :: es) [] cpos) (tBM X.K T r to t) := by
 intro pins s σ H Q I h
 refine wpAny_Call_method_late hbase hfew hline rfl (thn (ho pins s σ H _ I h) fun v s1 ⟨x, H1, I1, r1, ty, q1⟩ => ?_)
 obtain ⟨h1, h2⟩ := mT0 I1 r1 ty
 refine ⟨T, id, pa, slot, hty, h1, h2, ?_⟩
 have hA := ha cpos pins s1 σ H1 _ I1 q1
 rw [hs] at hA ⊢
 refine Calls.callWith_builtin (by show (false || (backTo cpos (starEach es X.env)).any (·.1)) = false; rw [hplain] <;> rfl) (Calls.evalArgs_plain ?_)
 exact thn hA fun us s2 ⟨vs, H2, I2, r2, q2⟩ => hm pins s2 σ H2 x vs v us Q I2 r1 r2 q2
end
end L2
namespace L2
open PySem PySem.Spec PyProof.Rows
def MtM (X : Cx) (id : String) (r : V -> List V -> Hp -> VK -> Prop) : Prop :=
 ∀ (pins : List (Addr × Obj)) (s : Shared) (σ : St) (H : Hp) (x : V) (xs : List V) (v : Value) (us : List Value) (Q : VK), Inv X pins σ H s -> RelV x v -> Vals xs us -> r x xs H Q ->
  wpAny (model X.prog X.w) X.A (call (.builtin id) (v :: us)) (EP X pins σ Q) X.xe s
theorem Vals.one : ∀ {x : V} {us : List Value}, Vals [x] us -> ∃ u, us = [u] /\ RelV x u
 | _, _, .cons r .nil => ⟨_, rfl, r⟩
theorem Vals.two : ∀ {x y : V} {us : List Value}, Vals [x, y] us -> ∃ u v, us = [u, v] /\ RelV x u /\ RelV y v
 | _, _, _, .cons r (.cons q .nil) => ⟨_, _, rfl, r, q⟩
section
variable {X : Cx} {pins : List (Addr × Obj)} {σ : St} {H : Hp} {s : Shared} {l b : Addr} {xs ys zs : List V}
theorem Inv.lset {its its' : List Value} {n : Nat} {f : Array Value -> Array Value} {t' : Nat} (I : Inv X pins σ H s) (hH : H l = some (.lst xs))
  (e : s.heap.get? l = some { cls := .type "list", data := .seq its.toArray n }) (hf : f its.toArray = its'.toArray) (hv : Vals ys its') (hz : ys.length <= sizeLine) :
  Inv X pins σ (upd H l (.lst ys)) { s with heap := s.heap.update l (Obj.mapSeq f), toks := t' } := by
 have q := PySem.IsL.update e f
 rw [hf] at q
 refine I.write (x := l) (e := l) (by rw [hH]; exact trivial) (.inl rfl) (fun b' u hb hu => (Heap.get?_update_other s.heap (Obj.mapSeq f) (Ne.symm hb)).trans hu) ⟨_, q⟩ ?_
 exact ⟨hz, its', _, hv, q⟩
theorem Inv.lnew {its : List Value} {t' : Nat} (I : Inv X pins σ H s) (hv : Vals ys its) (hz : ys.length <= sizeLine) :
  Inv X pins σ (upd H s.heap.objs.size (.lst ys)) { s with heap := s.heap.push { cls := .type "list", data := .seq its.toArray }, toks := t' } :=
 I.laid (fun _ _ q => Heap.get?_push_of_some _ q) (Nat.le_refl _) ⟨hz, its, 0, hv, Heap.get?_push_size _ rfl⟩
theorem Inv.fresh (I : Inv X pins σ H s) : H s.heap.objs.size = none := I.hok.fresh (Nat.le_refl _)
theorem Inv.lstM (I : Inv X pins σ H s) (hH : H l = some (.lst xs)) : xs.length <= sizeLine /\ ∃ (its : List Value) (n : Nat), Vals xs its /\ xs.length = its.length /\ s.heap.get? l = some { cls := .type "list", data := .seq its.toArray n } := by
 obtain ⟨z, its, n, r, e⟩ := I.hok l _ hH
 exact ⟨z, its, n, r, r.length, e⟩
theorem kN0 {n : Nat} (h : n <= sizeLine) : Builtin.List.listTooLong n = false := by
 unfold Builtin.List.listTooLong
 exact decide_eq_false (by omega)
end
section
variable {X : Cx}
def lA0 : V -> List V -> Hp -> VK -> Prop := fun x vs H Q => ∃ l xs y, x = .ref l /\ vs = [y] /\ H l = some (.lst xs) /\ xs.length < sizeLine /\ Q .non (upd H l (.lst (xs ++ [y])))
theorem id0 : MtM X "list.append" lA0 := by
 intro pins s σ H x vs v us Q I rx rv h
 obtain ⟨l, xs, y, rfl, rfl, hH, hz, q⟩ := h
 cases rx
 obtain ⟨u, rfl, ru⟩ := rv.one
 obtain ⟨z, its, n, r, hl, e⟩ := I.lstM hH
 refine call_meets F.slot_list_append ⟨_, e, rfl⟩ F.entry_list_append (F.args_list_append_2 _ _) (PySem.list_append l its.toArray n u (by rw [List.size_toArray]; omega)) ⟨e, ?_⟩
 refine ⟨.non, _, I.lset (its' := its ++ [u]) hH e (by simp) (r.append (.cons ru .nil)) ?_, rfl, q⟩
 rw [List.length_append, List.length_singleton]
 omega
def lB0 : V -> List V -> Hp -> VK -> Prop := fun x vs H Q => ∃ l b xs zs, x = .ref l /\ vs = [.ref b] /\ H l = some (.lst xs) /\ H b = some (.lst zs) /\ xs.length + zs.length <= sizeLine /\ Q .non (upd H l (.lst (xs ++ zs)))
theorem nz0 : MtM X "list.extend" lB0 := by
 intro pins s σ H x vs v us Q I rx rv h
 obtain ⟨l, b, xs, zs, rfl, rfl, hH, hB, hz, q⟩ := h
 cases rx
 obtain ⟨u, rfl, ru⟩ := rv.one
 cases ru
 obtain ⟨z, its, n, r, hl, e⟩ := I.lstM hH
 obtain ⟨z2, its2, n2, r2, hl2, e2⟩ := I.lstM hB
 have hsz : its.toArray.size + its2.toArray.size <= sizeLine := by rw [List.size_toArray, List.size_toArray]; omega
 have hlong : ¬ (!its.toArray.isEmpty && Builtin.List.listTooLong (its.toArray.size + its2.toArray.size)) = true := by
  rw [kN0 hsz, Bool.and_false]
  exact Bool.false_ne_true
 refine call_meets F.slot_list_extend ⟨_, e, rfl⟩ F.entry_list_extend (F.args_list_extend_2 _ _)
  (AutoSeq1.list_extend_list_list_0 l its.toArray n b its2.toArray n2 hlong (by rw [List.size_toArray]; omega) (by omega)) ⟨e, e2, ?_⟩
 refine ⟨.non, _, I.lset (its' := its ++ its2) hH e (by simp) (r.append r2) ?_, rfl, q⟩
 rw [List.length_append]
 omega
def rCat : R2 := fun x y H Q => ∃ l b xs zs, x = .ref l /\ y = .ref b /\ H l = some (.lst xs) /\ H b = some (.lst zs) /\ xs.length + zs.length <= sizeLine /\ ∀ p, H p = none -> Q (.ref p) (upd H p (.lst (xs ++ zs)))
theorem mI0 : OpR X (binaryOp .Add) rCat := by
 intro pins s σ H x y v u Q I rx ry h
 obtain ⟨l, b, xs, zs, rfl, rfl, hH, hB, hz, q⟩ := h
 cases rx
 cases ry
 obtain ⟨z, its, n, r, hl, e⟩ := I.lstM hH
 obtain ⟨z2, its2, n2, r2, hl2, e2⟩ := I.lstM hB
 refine PySem.P.add_list e e2 ?_ (by rw [List.size_toArray, List.size_toArray]; omega)
 have ea : its.toArray ++ its2.toArray = (its ++ its2).toArray := by simp
 rw [ea]
 exact ⟨.ref _, _, I.lnew (t' := s.toks) (r.append r2) (by rw [List.length_append]; omega), rfl, q _ I.fresh⟩
end
section
variable {prog : Program} {w : World} {A : Around} {E : Value -> Shared -> Prop} {s : Shared}
set_option maxRecDepth 100000 in
end
section
variable {X : Cx}
end
end L2
namespace L2
open PySem PySem.Spec PyProof.Rows
section
variable {κ : Type} [DecidableEq κ]
def valV (kvs : List (κ × V)) (k : κ) : Option V := (kvs.find? fun kv => decide (kv.1 = k)).map (·.2)
def putK (kvs : List (κ × V)) (k : κ) (v : V) : List (κ × V) :=
 if (kvs.any fun kv => decide (kv.1 = k)) = true then kvs.map (fun kv => if kv.1 = k then (kv.1, v) else kv) else kvs ++ [(k, v)]
def eu0 (kvs : List (κ × V)) (k : κ) : List (κ × V) := kvs.filter fun kv => decide (kv.1 ≠ k)
theorem dR0 {p : κ × V} {r : List (κ × V)} {k : κ} (e : p.1 = k) : valV (p :: r) k = some p.2 := by simp [valV, List.find?_cons, e]
theorem dL0 {p : κ × V} {r : List (κ × V)} {k : κ} (e : ¬ p.1 = k) : valV (p :: r) k = valV r k := by simp [valV, List.find?_cons, e]
theorem gG0 (k : κ) : ∀ kvs : List (κ × V), (kvs.any fun kv => decide (kv.1 = k)) = (valV kvs k).isSome
 | [] => rfl
 | p :: r => by
  rw [List.any_cons]
  by_cases e : p.1 = k
  ·simp only [dR0 e, decide_eq_true e, Bool.true_or, Option.isSome_some]
  ·rw [dL0 e, decide_eq_false e, Bool.false_or]; exact gG0 k r
theorem cP0 (kvs : List (κ × V)) (k : κ) (v : V) : (putK kvs k v).length <= kvs.length + 1 := by
 unfold putK
 split
 ·rw [List.length_map]; omega
 ·rw [List.length_append, List.length_cons, List.length_nil]; omega
theorem RelO.isSome_eq {o : Option V} {u : Option Value} (r : RelO o u) : o.isSome = u.isSome := by
 cases o with
 | none => cases u with
  | none => rfl
  | some _ => exact (show False from r).elim
 | some _ => cases u with
  | none => exact (show False from r).elim
  | some _ => rfl
theorem KV.val {kvs : List (κ × V)} {vs : List (κ × Value)} (r : KV kvs vs) (k : κ) : RelO (valV kvs k) (valueAt vs k) := by
 unfold KV at r
 induction r with
 | nil => exact True.intro
 | @cons p q ps qs h t ih =>
  obtain ⟨h1, h2⟩ := h
  by_cases e : p.1 = k
  ·have e' : q.1 = k := h1.symm.trans e
   have b : valueAt (q :: qs) k = some q.2 := by simp [valueAt, List.find?_cons, e']
   rw [dR0 e, b]; exact h2
  ·have e' : ¬ q.1 = k := fun z => e (h1.trans z)
   have b : valueAt (q :: qs) k = valueAt qs k := by simp [valueAt, List.find?_cons, e']
   rw [dL0 e, b]; exact ih
theorem KV.any {kvs : List (κ × V)} {vs : List (κ × Value)} (r : KV kvs vs) (k : κ) : (kvs.any fun kv => decide (kv.1 = k)) = vs.any fun kv => decide (kv.1 = k) := by
 unfold KV at r
 induction r with
 | nil => rfl
 | cons h t ih => rw [List.any_cons, List.any_cons, ih, h.1]
theorem KV.repl {kvs : List (κ × V)} {vs : List (κ × Value)} (r : KV kvs vs) (k : κ) {y : V} {u : Value} (ry : RelV y u) :
  KV (kvs.map fun kv => if kv.1 = k then (kv.1, y) else kv) (vs.map fun kv => if kv.1 = k then (kv.1, u) else kv) := by
 unfold KV at r ⊢
 induction r with
 | nil => exact .nil
 | @cons p q ps qs h t ih =>
  rw [List.map_cons, List.map_cons]
  refine .cons ?_ ih
  obtain ⟨h1, h2⟩ := h
  by_cases e : p.1 = k
  ·rw [if_pos e, if_pos (h1.symm.trans e)]; exact ⟨h1, ry⟩
  ·rw [if_neg e, if_neg (fun z => e (h1.trans z))]; exact ⟨h1, h2⟩
theorem KV.put {kvs : List (κ × V)} {vs : List (κ × Value)} (r : KV kvs vs) (k : κ) {y : V} {u : Value} (ry : RelV y u) : KV (putK kvs k y) (stored vs k u) := by
 unfold putK stored
 rw [r.any k]
 by_cases e : (vs.any fun kv => decide (kv.1 = k)) = true
 ·rw [if_pos e, if_pos e]; exact r.repl k ry
 ·rw [if_neg e, if_neg e]; exact Paired.snoc r ⟨rfl, ry⟩
theorem KV.drop {kvs : List (κ × V)} {vs : List (κ × Value)} (r : KV kvs vs) (k : κ) : KV (eu0 kvs k) (without vs k) := by
 unfold KV at r ⊢
 unfold eu0 without
 induction r with
 | nil => exact .nil
 | @cons p q ps qs h t ih =>
  obtain ⟨h1, h2⟩ := h
  rw [List.filter_cons, List.filter_cons]
  by_cases e : p.1 = k
  ·have a : ¬ decide (p.1 ≠ k) = true := by simp [e]
   have b : ¬ decide (q.1 ≠ k) = true := by simp [h1.symm.trans e]
   rw [if_neg a, if_neg b]; exact ih
  ·have e' : ¬ q.1 = k := fun z => e (h1.trans z)
   have a : decide (p.1 ≠ k) = true := by simp [e]
   have b : decide (q.1 ≠ k) = true := by simp [e']
   rw [if_pos a, if_pos b]; exact .cons ⟨h1, h2⟩ ih
theorem KV.length {kvs : List (κ × V)} {vs : List (κ × Value)} (r : KV kvs vs) : kvs.length = vs.length := Paired.length r
theorem gW0 (kvs : List (κ × V)) (k : κ) : (eu0 kvs k).length <= kvs.length := List.length_filter_le _ _
end
theorem ib0 {P : Program} {w : World} {k : Key} {u : Value} (r : RelV (kV k) u) : (ay0 P w).is k u = true := by
 cases k with
 | inl i => obtain ⟨t, e⟩ := (show ∃ t, u = Value.int i t from r); subst e; exact gz0 P w i t
 | inr x => obtain ⟨t, e⟩ := (show ∃ t, u = Value.str x t from r); subst e; exact gB0 P w x t
theorem fP0 {P : Program} {w : World} : ∀ {ks : List Key} {us : List Value}, Vals (ks.map kV) us -> ItemsAre (ay0 P w) ks us
 | [], _, r => by rw [List.map_nil] at r; cases r; exact .nil
 | k :: ks, _, r => by
  rw [List.map_cons] at r
  cases r with
  | cons h t => exact .cons (ib0 h) (fP0 t)
abbrev KT (H : Hp) : List (List Key × V) -> List (List Key × Addr × Value) -> Prop := Paired fun p q => p.1 = q.1 /\ H q.2.1 = some (.tup (p.1.map kV)) /\ RelV p.2 q.2.2
theorem KT.val {H : Hp} {kvs : List (List Key × V)} {xs : List (List Key × Addr × Value)} (r : KT H kvs xs) (k : List Key) : RelO (valV kvs k) ((atKey xs k).map (·.2)) := by
 induction r with
 | nil => exact True.intro
 | @cons p q ps qs h t ih =>
  obtain ⟨h1, _, h2⟩ := h
  by_cases e : p.1 = k
  ·have e' : q.1 = k := h1.symm.trans e
   have b : atKey (q :: qs) k = some q.2 := by simp [atKey, List.find?_cons, e']
   rw [dR0 e, b]; exact h2
  ·have e' : ¬ q.1 = k := fun z => e (h1.trans z)
   have b : atKey (q :: qs) k = atKey qs k := by simp [atKey, List.find?_cons, e']
   rw [dL0 e, b]; exact ih
theorem KT.repl {H : Hp} {kvs : List (List Key × V)} {xs : List (List Key × Addr × Value)} (r : KT H kvs xs) (k : List Key) {y : V} {u : Value} (ry : RelV y u) :
  KT H (kvs.map fun kv => if kv.1 = k then (kv.1, y) else kv) (xs.map (putAt k u)) := by
 induction r with
 | nil => exact .nil
 | @cons p q ps qs h t ih =>
  rw [List.map_cons, List.map_cons]
  refine .cons ?_ ih
  obtain ⟨h1, h2, h3⟩ := h
  unfold putAt
  by_cases e : p.1 = k
  ·rw [if_pos e, if_pos (h1.symm.trans e)]; exact ⟨h1, h2, ry⟩
  ·rw [if_neg e, if_neg (fun z => e (h1.trans z))]; exact ⟨h1, h2, h3⟩
theorem KT.put {H : Hp} {kvs : List (List Key × V)} {xs : List (List Key × Addr × Value)} (r : KT H kvs xs) (k : List Key) {b : Addr} {y : V} {u : Value} (hb : H b = some (.tup (k.map kV))) (ry : RelV y u) :
  KT H (putK kvs k y) (storedH xs k b u) := by
 have e : (kvs.any fun kv => decide (kv.1 = k)) = (atKey xs k).isSome := by
  rw [gG0, (r.val k).isSome_eq, Option.isSome_map]
 unfold putK storedH
 rw [e]
 by_cases q : (atKey xs k).isSome = true
 ·rw [if_pos q, if_pos q]; exact r.repl k ry
 ·rw [if_neg q, if_neg q]; exact Paired.snoc r ⟨rfl, hb, ry⟩
theorem KT.keeps {H H' : Hp} {kvs : List (List Key × V)} {xs : List (List Key × Addr × Value)} (r : KT H kvs xs) (ht : ∀ b ys, H b = some (.tup ys) -> H' b = some (.tup ys)) : KT H' kvs xs :=
 Paired.mapP r fun _ _ z => ⟨z.1, ht _ _ z.2.1, z.2.2⟩
section
variable {P : Program} {w : World} {H : Hp} {h : Heap} {a : Addr}
theorem rd_of {u : HO} (ok : HOk P w H h) (e : Rd H a u) : ObjOk P w H h a u := e.ok ok
theorem jT0 {kvs : List (Key × V)} (ok : HOk P w H h) (e : Rd H a (.dK kvs)) : kvs.length <= sizeLine /\ (a == sysModules) = false /\ ∃ vs, KV kvs vs /\ h.DictOf (ay0 P w) a vs :=
 show ObjOk P w H h a (.dK kvs) from rd_of ok e
theorem jR0 {kvs : List (Key × V)} (ok : HOk P w H h) (e : H a = some (.dK kvs)) : kvs.length <= sizeLine /\ (a == sysModules) = false /\ ∃ vs, KV kvs vs /\ h.DictOf (ay0 P w) a vs := jT0 ok (.inl e)
theorem lb0 {ks : List Key} (ok : HOk P w H h) (e : H a = some (.tup (ks.map kV))) : (tupleKind (ay0 P w)).is h ks a := by
 obtain ⟨_, its, r, ⟨o, h1, h2, n, h3⟩, _⟩ := (show ObjOk P w H h a (.tup (ks.map kV)) from ok a _ e)
 exact ⟨o, its.toArray, n, h1, h2, h3, by simpa using fP0 r⟩
theorem dt_rd {kvs : List (List Key × V)} (ok : HOk P w H h) (e : Rd H a (.dT kvs)) : kvs.length <= sizeLine /\ (a == sysModules) = false /\
  ∃ xs, KT H kvs xs /\ h.DictOfH (tupleKind (ay0 P w)) a xs := by
 obtain ⟨z, y, xs, r, o, es, ep, h1, h2, h3, h4, h5⟩ := (show ObjOk P w H h a (.dT kvs) from rd_of ok e)
 refine ⟨z, y, xs, r, o, es, ep, h1, h2, h3, h4, fun x hx => ?_, h5⟩
 have all : ∀ {l : List (List Key × V)} {m : List (List Key × Addr × Value)}, KT H l m -> ∀ x ∈ m, (tupleKind (ay0 P w)).is h x.1 x.2.1 := by
  intro l m q
  induction q with
  | nil => intro x hx; exact nomatch hx
  | @cons p q ps qs hq t ih =>
   intro x hx
   rcases List.mem_cons.mp hx with e | hx
   ·subst e
    exact lb0 ok (by rw [<- hq.1]; exact hq.2.1)
   ·exact ih x hx
 exact all r x hx
theorem dt_of {kvs : List (List Key × V)} (ok : HOk P w H h) (e : H a = some (.dT kvs)) : kvs.length <= sizeLine /\ (a == sysModules) = false /\
  ∃ xs, KT H kvs xs /\ h.DictOfH (tupleKind (ay0 P w)) a xs := dt_rd ok (.inl e)
end
def DPut (H : Hp) (a : Addr) (y v : V) (H' : Hp) : Prop :=
 (∃ kvs k, H a = some (.dK kvs) /\ y = kV k /\ kvs.length < sizeLine /\ H' = upd H a (.dK (putK kvs k v))) \/
 ∃ kvs k b, H a = some (.dT kvs) /\ y = .ref b /\ H b = some (.tup (k.map kV)) /\ kvs.length < sizeLine /\ H' = upd H a (.dT (putK kvs k v))
theorem DPut.k {H : Hp} {a : Addr} {kvs : List (Key × V)} {k : Key} {v : V} (e : H a = some (.dK kvs)) (hl : kvs.length < sizeLine) : DPut H a (kV k) v (upd H a (.dK (putK kvs k v))) := .inl ⟨kvs, k, e, rfl, hl, rfl⟩
section
variable {X : Cx} {pins : List (Addr × Obj)} {σ : St} {H : Hp} {s : Shared} {a : Addr} {y v : V} {u r : Value} {o : Option V} {A : Around} {E : Value -> Shared -> Prop}
theorem Inv.big (I : Inv X pins σ H s) : sysModules < s.heap.objs.size := by
 have h : mainGlobals < s.heap.objs.size := (I.mod.glob.keeps I.bk).lt
 exact Nat.lt_trans (by decide) h
theorem dZ0 {h' : Heap} {t' : Nat} {ob : HO} (I : Inv X pins σ H s) (mu : Mut (H a)) (hs : Heap.SameBut a s.heap h') (he : ∃ q, h'.get? a = some q) (new : ObjOk X.prog X.w (upd H a ob) h' a ob) :
  Inv X pins σ (upd H a ob) { s with heap := h', toks := t' } :=
 I.write (x := a) (e := a) mu (.inl rfl) (fun b q hb z => (hs.2 b hb).trans z) he new
theorem fV0 {P : Program} {w : World} {H' : Hp} {h' : Heap} {kvs : List (Key × V)} {vs : List (Key × Value)} (z : kvs.length <= sizeLine) (hd : (a == sysModules) = false) (rel : KV kvs vs) (dd : h'.DictOf (ay0 P w) a vs) :
  ObjOk P w H' h' a (.dK kvs) := ⟨z, hd, vs, rel, dd⟩
theorem is0 {H' : Hp} {Q : Unit -> Shared -> Prop} (hu : A.units + 1 < cLine) (I : Inv X pins σ H s) (g : DPut H a y v H') (ry : RelV y u) (rv : RelV v r) (h : ∀ s', Inv X pins σ H' s' -> Q () s') :
  wpAny (model X.prog X.w) A (setItem (.ref a) u r) Q E s := by
 rcases g with ⟨kvs, k, e, ey, l, eH⟩ | ⟨kvs, k, b, e, ey, eb, l, eH⟩
 ·subst ey eH
  obtain ⟨z, hd, vs, rel, dd⟩ := jR0 I.hok e
  have hz : vs.length <= sizeLine := by rw [<- rel.length]; exact z
  have hl : (putK kvs k v).length <= sizeLine := by have := cP0 kvs k v; omega
  refine wpAny_setItem_pairs (hsz := hz) (ib0 ry) dd fun h' dd' hs => h _ ?_
  have he : ∃ q, h'.get? a = some q := let ⟨q, _, _, hq, _⟩ := dd'; ⟨q, hq⟩
  exact dZ0 I (by rw [e]; exact True.intro) hs he (fV0 hl hd (rel.put k rv) dd')
 ·subst ey eH
  cases (show u = Value.ref b from ry)
  obtain ⟨z, hd, xs, rel, dd⟩ := dt_of I.hok e
  have hz : xs.length <= sizeLine := by rw [<- Paired.length rel]; exact z
  have hl : (putK kvs k v).length <= sizeLine := by have := cP0 kvs k v; omega
  refine wpAny_setItem_heap (hsz := hz) (tupleKind_room_in1 hu) (lb0 I.hok eb) dd fun h' dd' hs => h _ ?_
  obtain ⟨q, es, ep, hq, h2, h3, h4, _, h5⟩ := dd'
  refine dZ0 I (by rw [e]; exact True.intro) hs ⟨q, hq⟩ ⟨hl, hd, _, (rel.put k eb rv).keeps fun c ys ec => ?_, q, es, ep, hq, h2, h3, h4, h5⟩
  rw [ao0 (ne_of ec e (fun z => nomatch z))]
  exact ec
end
section
variable {X : Cx} {pins : List (Addr × Obj)} {σ : St} {H : Hp} {s : Shared} {a : Addr} {kvs : List (Key × V)} {k : Key} {u : Value} {A : Around} {E : Value -> Shared -> Prop}
theorem no0 {Q : Unit -> Shared -> Prop} (I : Inv X pins σ H s) (e : H a = some (.dK kvs)) (ry : RelV (kV k) u) (l : (valV kvs k).isSome = true) (h : ∀ s', Inv X pins σ (upd H a (.dK (eu0 kvs k))) s' -> Q () s') :
  wpAny (model X.prog X.w) A (delItem (.ref a) u) Q E s := by
 obtain ⟨z, hd, vs, rel, dd⟩ := jR0 I.hok e
 refine wpAny_delItem_slot dd.typeIs (by decide) PySem.F.slot_dict_delitem
  (call_meetsIn PySem.F.slot_dict_delitem dd.typeIs PySem.F.entry_dict_delitem (PySem.F.args_dict_delitem_2 _ _) (meets_dict_delitem_pairs (ay0 X.prog X.w) a (ib0 ry)) ⟨vs, dd, by rw [<- rel.length]; exact z, by rw [<- (rel.val k).isSome_eq]; exact l, fun h' dd' hs => h _ ?_⟩)
 have he : ∃ q, h'.get? a = some q := let ⟨q, _, _, hq, _⟩ := dd'; ⟨q, hq⟩
 exact dZ0 I (by rw [e]; exact True.intro) hs he (fV0 (Nat.le_trans (gW0 kvs k) z) hd (rel.drop k) dd')
theorem d_pop {v : V} {more : List Value} {Q : Value -> Shared -> Prop} (I : Inv X pins σ H s) (e : H a = some (.dK kvs)) (ry : RelV (kV k) u) (l : valV kvs k = some v) (hm : more = [] \/ ∃ x, more = [x])
  (h : ∀ w' s', Inv X pins σ (upd H a (.dK (eu0 kvs k))) s' -> RelV v w' -> Q w' s') : wpAny (model X.prog X.w) A (call (.builtin "dict.pop") (.ref a :: u :: more)) Q E s := by
 obtain ⟨z, hd, vs, rel, dd⟩ := jR0 I.hok e
 obtain ⟨w', hw, rw'⟩ := RelO.some_of (v := v) (o := valueAt vs k) (by rw [<- l]; exact rel.val k)
 have hp : (keyPart u).isSome = true := by
  cases k with
  | inl i => obtain ⟨t, q⟩ := (show ∃ t, u = Value.int i t from ry); subst q; rfl
  | inr x => obtain ⟨t, q⟩ := (show ∃ t, u = Value.str x t from ry); subst q; rfl
 have ha : argsOk "dict.pop" ⟨.ref a :: u :: more, []⟩ := by
  rcases hm with q | ⟨x, q⟩
  ·subst q; exact PySem.F.args_dict_pop_2 _ _
  ·subst q; exact PySem.F.args_dict_pop_3 _ _ _
 refine call_meetsIn PySem.F.slot_dict_pop dd.typeIs PySem.F.entry_dict_pop ha (meets_dict_pop_there (ay0 X.prog X.w) a (ib0 ry) more hm hp)
  ⟨vs, w', dd, by rw [<- rel.length]; exact z, hw, fun h' dd' hs => h w' _ ?_ rw'⟩
 have he : ∃ q, h'.get? a = some q := let ⟨q, _, _, hq, _⟩ := dd'; ⟨q, hq⟩
 exact dZ0 I (by rw [e]; exact True.intro) hs he (fV0 (Nat.le_trans (gW0 kvs k) z) hd (rel.drop k) dd')
end
def sDPut (td ty tv : TE) : TS := fun D σ H => tv σ H fun v H1 => td σ H1 fun x H2 => ty σ H2 fun y H3 => ∃ a H4, x = .ref a /\ DPut H3 a y v H4 /\ D.nx σ H4
section
variable {X : Cx} {o i e value : Expr} {pos pos' tpos : Pos} {td ty tv : TE}
theorem lw0 (hu : X.A.units + 1 < cLine) (ho : PE X o td) (hi : PE X i ty) (hv : PE X value tv) (hs : swapsWith value (some (.Subscript o i pos')) pos.line X.env = pure false) :
  PS X (.Assign [.Subscript o i pos'] value pos) (sDPut td ty tv) := by
 intro pins s σ H D I h
 refine wpAny_Assign_Subscript (thn (hv pins s σ H _ I h) fun r s1 ⟨v, H1, I1, rv, q1⟩ => thn (ho pins s1 σ H1 _ I1 q1) fun u s2 ⟨x, H2, I2, rx, q2⟩ => thn (hi pins s2 σ H2 _ I2 q2) fun iv s3 ⟨y, H3, I3, ry, a, H4, ex, g, q3⟩ => ?_) hs
 subst ex
 obtain rfl : u = Value.ref a := rx
 exact is0 hu I3 g ry rv fun s4 I4 => ⟨σ, H4, I4, q3⟩
end
theorem hx0 {P : Program} {w : World} {H : Hp} (h : Heap) (hb : sysModules < h.objs.size) : ObjOk P w H (h.push { cls := .type "dict", data := .dict #[] }) h.objs.size (.dK []) :=
 ⟨Nat.zero_le _, beq_eq_false_iff_ne.mpr (Ne.symm (Nat.ne_of_lt hb)), [], .nil, Heap.DictOf.new h⟩
def nC0 : TE := fun _ H Q => ∀ p, H p = none -> Q (.ref p) (upd H p (.dK []))
section
variable {X : Cx} {pos : Pos}
theorem kB0 : PE X (.Dict [] [] pos) nC0 := fun pins s σ H Q I h =>
 wpAny_Dict_empty ⟨.ref s.heap.objs.size, _, I.laid (a := s.heap.objs.size) (o := .dK []) (t' := s.toks) (fun _ _ q => Heap.get?_push_of_some _ q) (Nat.le_refl _) (hx0 s.heap I.big), rfl, h _ (I.hok.fresh (Nat.le_refl _))⟩
end
def ih0 : List (TE × TE) -> St -> Hp -> (List (V × V) -> Hp -> Prop) -> Prop
 | [], _, H, Q => Q [] H
 | (tk, tv) :: r, σ, H, Q => tk σ H fun x H1 => tv σ H1 fun y H2 => ih0 r σ H2 fun ps H3 => Q ((x, y) :: ps) H3
abbrev VV : List (V × V) -> List (Value × Value) -> Prop := Paired fun p q => RelV p.1 q.1 /\ RelV p.2 q.2
def PPs (X : Cx) (pos : Pos) (keys : List (Option Expr)) (values : List Expr) (trs : List (TE × TE)) : Prop :=
 ∀ (pins : List (Addr × Obj)) (s : Shared) (σ : St) (H : Hp) (Q : List (V × V) -> Hp -> Prop), Inv X pins σ H s -> ih0 trs σ H Q ->
  wpAny (model X.prog X.w) X.A (evalPairs (pairTrees keys values X.env pos)) (fun vs s' => ∃ ps H', Inv X pins σ H' s' /\ VV ps vs /\ Q ps H') X.xe s
theorem lt0 {X : Cx} {pos : Pos} : PPs X pos [] [] [] := fun pins s σ H Q I h => pairTrees_nil_walk ⟨[], H, I, .nil, h⟩
theorem kt0 {X : Cx} {pos : Pos} {k v : Expr} {ks : List (Option Expr)} {vs : List Expr} {tk tv : TE} {trs : List (TE × TE)} (hk : PE X k tk) (hv : PE X v tv) (hr : PPs X pos ks vs trs) :
  PPs X pos (some k :: ks) (v :: vs) ((tk, tv) :: trs) := fun pins s σ H Q I h =>
 pairTrees_cons_walk (thn (hk pins s σ H _ I h) fun u s1 ⟨x, H1, I1, rx, q1⟩ => thn (hv pins s1 σ H1 _ I1 q1) fun w2 s2 ⟨y, H2, I2, ry, q2⟩ =>
  thn (hr pins s2 σ H2 _ I2 q2) fun ws s3 ⟨ps, H3, I3, rel, q3⟩ => ⟨(x, y) :: ps, H3, I3, .cons ⟨rx, ry⟩ rel, q3⟩)
def eq0 (kvs more : List (Key × V)) : List (Key × V) := more.foldl (fun acc kv => putK acc kv.1 kv.2) kvs
theorem KV.merge : ∀ {more : List (Key × V)} {rs : List (Key × Value)} {kvs : List (Key × V)} {vs : List (Key × Value)}, KV more rs -> KV kvs vs -> KV (eq0 kvs more) (merged vs rs) := by
 intro more rs kvs vs r
 unfold KV at r
 induction r generalizing kvs vs with
 | nil => intro q; exact q
 | @cons p q ps qs h t ih =>
  intro r0
  have e : KV (putK kvs p.1 p.2) (stored vs q.1 q.2) := by
   have := r0.put p.1 h.2
   rw [<- h.1]; exact this
  exact ih e
theorem dd0 : ∀ (more kvs : List (Key × V)), (eq0 kvs more).length <= kvs.length + more.length
 | [], kvs => by show kvs.length <= kvs.length + 0; omega
 | p :: r, kvs => by
  have h1 := dd0 r (putK kvs p.1 p.2)
  have h2 := cP0 kvs p.1 p.2
  show (eq0 (putK kvs p.1 p.2) r).length <= _
  rw [List.length_cons]; omega
theorem eA0 {P : Program} {w : World} : ∀ {kvs : List (Key × V)} {ws : List (Value × Value)}, VV (kvs.map fun kv => (kV kv.1, kv.2)) ws -> ∃ rs, Carries (ay0 P w) ws rs /\ KV kvs rs
 | [], _, r => by rw [List.map_nil] at r; cases r; exact ⟨[], True.intro, .nil⟩
 | p :: kvs, _, r => by
  rw [List.map_cons] at r
  cases r with
  | @cons a b as bs h t =>
   obtain ⟨rs, c, q⟩ := eA0 (P := P) (w := w) t
   obtain ⟨b1, b2⟩ := b
   exact ⟨(p.1, b2) :: rs, ⟨ib0 h.1, rfl, c⟩, .cons ⟨rfl, h.2⟩ q⟩
def tDisp (trs : List (TE × TE)) : TE := fun σ H Q => ∀ p, H p = none -> ih0 trs σ (upd H p (.dK [])) fun ps H2 => H2 p = some (.dK []) /\ ∃ kvs : List (Key × V), ps = kvs.map (fun kv => (kV kv.1, kv.2)) /\ kvs.length <= 15 /\ Q (.ref p) (upd H2 p (.dK (eq0 [] kvs)))
theorem mq0 {X : Cx} {pos : Pos} {keys : List (Option Expr)} {values : List Expr} {trs : List (TE × TE)} (h : PPs X pos keys values trs) (hall : keys.all (·.isSome) = true) (hl : keys.length = values.length) (h0 : keys ≠ [])
  (h15 : keys.length <= 15) : PE X (.Dict keys values pos) (tDisp trs) := by
 intro pins s σ H Q I q
 have hn := I.hok.fresh (Nat.le_refl s.heap.objs.size)
 have I1 := I.laid (a := s.heap.objs.size) (o := .dK []) (h' := s.heap.push { cls := .type "dict", data := .dict #[] }) (t' := s.toks) (fun _ _ q => Heap.get?_push_of_some _ q) (Nat.le_refl _) (hx0 s.heap I.big)
 refine wpAny_Dict_walk (knd := ay0 X.prog X.w) hall hl h0 h15 (thn (h pins _ σ _ _ I1 (q _ hn)) fun ws s2 ⟨ps, H2, I2, rel, e, kvs, ep, lk, q2⟩ => ?_)
 subst ep
 obtain ⟨rs, c, rk⟩ := eA0 (P := X.prog) (w := X.w) rel
 obtain ⟨z, hd, vs0, r0, dd⟩ := jR0 I2.hok e
 cases r0
 refine ⟨rs, c, dd, fun h' dd' hs => ⟨.ref s.heap.objs.size, _, ?_, rfl, q2⟩⟩
 have hz : (eq0 [] kvs).length <= sizeLine := by
  have h1 := dd0 kvs []
  rw [List.length_nil] at h1
  rw [sizeLine_eq]; omega
 have he : ∃ q, h'.get? s.heap.objs.size = some q := let ⟨q, _, _, hq, _⟩ := dd'; ⟨q, hq⟩
 exact dZ0 I2 (by rw [e]; exact True.intro) hs he (fV0 hz hd (rk.merge .nil) dd')
section
variable {X : Cx} {pins : List (Addr × Obj)} {σ : St} {H : Hp} {s : Shared} {a : Addr} {y d : V} {u r : Value} {o : Option V} {A : Around} {E : Value -> Shared -> Prop}
end
section
variable {X : Cx} {o e f : Expr} {apos cpos : Pos} {td ty tx : TE}
end
section
variable {X : Cx} {pins : List (Addr × Obj)} {σ : St} {H : Hp} {s : Shared} {a : Addr} {kvs : List (Key × V)} {A : Around} {E : Value -> Shared -> Prop}
theorem jQ0 {Q : Value -> Shared -> Prop} (I : Inv X pins σ H s) (e : Rd H a (.dK kvs)) (h : ∀ p s', H p = none -> Inv X pins σ (upd H p (.dK kvs)) s' -> Q (.ref p) s') : wpAny (model X.prog X.w) A (call (.type "dict") [.ref a]) Q E s := by
 obtain ⟨z, hd, vs, rel, dd⟩ := jT0 I.hok e
 refine kt_call_dict hd dd (by rw [<- rel.length]; exact z) fun h' dd' hs => ?_
 refine h _ _ (I.hok.fresh (Nat.le_refl _)) (I.laid (a := s.heap.objs.size) (o := .dK kvs) (t' := s.toks) (fun b q hq => ?_) (Nat.le_refl _) (fV0 z (beq_eq_false_iff_ne.mpr (Ne.symm (Nat.ne_of_lt I.big))) rel dd'))
 exact (hs.2 b (Nat.ne_of_lt (Heap.lt_size hq))).trans (Heap.get?_push_of_some _ hq)
end
section
variable {X : Cx} {pins : List (Addr × Obj)} {σ : St} {H : Hp} {s : Shared} {a : Addr} {y : V} {u : Value} {A : Around} {E : Value -> Shared -> Prop}
end
end L2
namespace Att
open PySem PySem.W PySem.Calls PyProof.Rows
theorem ed0 {P : Params} {h : Heap} : ∀ (ns : List Int) (vs : List Value), WellAll P h vs (ns.map WData.int) -> IntsAre vs ns := by
 intro ns
 induction ns with
 | nil =>
  intro vs w
  rw [List.map_nil] at w
  cases w
  exact .nil
 | cons n ns ih =>
  intro vs w
  rw [List.map_cons] at w
  cases w with
  | cons a b =>
   cases a
   exact .cons _ _ (ih _ b)
theorem jv0 {l : OpenLaw} {n : Nat} (hn : l.most = some n) {P : Params} {h : Heap} {args : List WData} {vals : List Value}
  (hpre : l.row.toRowW.claim.pre args = true) (hwl : WellAll P h vals args) :
  ∃ a vs ns, vals = [Value.ref a] /\ args = [WData.list (ns.map WData.int)] /\ h.get? a = some { cls := .type "list", data := .seq vs.toArray } /\ IntsAre vs ns /\ ns.length <= n := by
 have hsh : WShape.hasAll [] args [.list .int] = true := (pre_splitW hpre).1
 have hc : l.pre.holds [] { args := args } = true := (pre_splitW hpre).2
 obtain ⟨d, r, rfl, h1, h2⟩ := hasAllW_cons hsh
 obtain rfl := hasAllW_nil h2
 obtain ⟨xs, rfl, h3⟩ := hasW_list h1
 obtain ⟨ns, rfl⟩ := items_int h3
 have hlen : ns.length <= n := by
  unfold OpenLaw.pre at hc
  have h4 : (WTm.not (.lt (.lit (.int (n : Int))) (.len (.arg 0)))).holds [] { args := [.list (ns.map .int)] } = true := by
   have h4 := (holds_andW hc).1
   rw [hn] at h4
   exact h4
  have h5 := condW_of h4 (w_not (w_lt w_lit (w_len_list (w_arg rfl))))
  rw [List.length_map] at h5
  refine Nat.le_of_not_lt fun q => ?_
  have q' : (n : Int) < ((ns.length : Nat) : Int) := by omega
  first
   | (rw [decide_eq_true q'] at h5; exact absurd h5 (by decide))
   | (simp at h5; omega)
 cases hwl with
 | cons w1 w2 =>
  cases w2
  cases w1 with
  | list ho hall => exact ⟨_, _, ns, rfl, rfl, ho, ed0 ns _ hall, hlen⟩
theorem iz0 (l : OpenLaw) (args : List WData) : l.row.toRowW.claim.post args (.bool true) args = true :=
 postW_of (r := l.row.toRowW) (X := (true == true))
  (show WShape.has [] (.bool true) .bool = true by first | rfl | decide | simp [WShape.has, WShape.arms, WShape.armsAll])
  (show (WTm.eq .res (.lit (.bool true))).value [] { args := args, res := some (.bool true), after := args } = some (.bool (true == true)) from w_eq_bool (w_res rfl) w_lit) rfl
theorem attach_call {l : OpenLaw} {n : Nat} {q : Program} {loose : List Str} {XP : (Str -> Option Value) -> Heap -> Prop} {YP : World -> Heap -> Prop} {d : DefRec}
  (hn : l.most = some n) (hdf : d.params.defaults = [])
  (call : ∀ (w : World) (s₀ s₁ : Shared) (mg mb : Str -> Option Value) (fa : Addr) (o : Obj) (pm cd doc : Value) (a : Addr) (vs : List Value) (ns : List Int),
   Ground q loose [] XP w s₀ mg mb s₁.heap -> YP w s₁.heap ->
   s₁.heap.get? fa = some o -> o.data = .func (docDef d.name d.params d.body d.scope pm cd doc) -> s₁.heap.CodeRec cd d.name -> mg d.name = some (.ref fa) ->
   s₁.heap.get? a = some { cls := .type "list", data := .seq vs.toArray } -> IntsAre vs ns -> ns.length <= n -> s₁.gens = #[] ->
   codeAny (model l.prog w) callerA (.call (.ref fa) ⟨[.ref a], []⟩) (fun r s' => r = .ok (.ret (.bool true)) /\ OldK s₁.heap s'.heap /\ s'.os = s₁.os /\ AllBare s'.gens) s₁) :
  WalkO q loose XP YP l.row.toRowW d [] (fun f vs => PySem.call f vs) := by
 intro w s₀ s₁ mg mb G Y fa o pm cd doc dV kV ho hd hcd hD hmg hg args vals as hpre hlay hrd hwl hlo
 obtain rfl : dV = .none := Dflts.none hD hdf
 obtain rfl : kV = .none := Dflts.noKw hD
 obtain ⟨a, vs, ns, rfl, rfl, hobj, hints, hlen⟩ := jv0 hn hpre hwl
 refine enter_call (codeAny_mono (call w s₀ s₁ mg mb fa o pm cd doc a vs ns G Y ho (fd_plain hd) hcd hmg hobj hints hlen hg) fun r s' hq => ?_)
 obtain ⟨rfl, h2, h3, h4⟩ := hq
 exact ⟨.inl ⟨.bool true, .bool true, [], rfl, fun _ => rfl, .bool true, iz0 l _, fun _ => ⟨List.Pairwise.nil, fun _ hm => (nomatch hm)⟩⟩, h2, h3, h4⟩
section
variable {prog : Program} {w : World} {A : Around} {E : Value -> Shared -> Prop} {s : Shared} {K : Frag}
end
end Att
namespace L2
open PySem PySem.Spec PyProof.Rows
theorem fv0 : ∀ {vs : List Value} {ns : List Int}, IntsAre vs ns -> Vals (ns.map V.int) vs
 | _, _, .nil => .nil
 | _, _, .cons n t h => .cons ⟨t, rfl⟩ (fv0 h)
def Only (H : Hp) : Prop := ∀ b, H b = none \/ ∃ o xs, H b = some (.frz o (.lst xs))
theorem kz0 {P : Program} {w : World} {K : PySem.W.Frag} {mg mb : Str -> Option Value} {CX : CXT} {k : Nat} {fa a : Addr} {fd : FuncData} {x : Str} {sp : Sp} {s₁ : Shared} {vs : List Value} {ns : List Int}
  (KX : K.In s₁.heap) (hns : s₁.heap.Ns mainGlobals mg) (hb : s₁.heap.Ns builtinsNs mb) (hbb : ∀ x : Str, x ≠ "__name__" -> mb x = bootBuiltins x) (hlim : s₁.heap.NoLimit) (hg : s₁.gens = #[])
  (ha : s₁.heap.get? a = some { cls := .type "list", data := .seq vs.toArray }) (hi : IntsAre vs ns) (hl : ns.length <= sizeLine) (hr : Room k callerA)
  (F : ∀ base : Heap, K.In base -> base.Ns mainGlobals mg -> FnOk P w K mg base CX k fa fd [x] sp) (hbind : ∀ (s : Shared) (u : Value), BindsTo s fd ⟨[u], []⟩ [(x, u)])
  (hsp : ∀ H : Hp, Only H -> SqL K H a (ns.map V.int) -> sp [.ref a] H (fun v _ => v = .bl true) fun _ _ _ => False)
  (hCX : ∀ H e s', CX [] H s₁ (fun _ _ _ => False) e s' -> False) :
  codeAny (model P w) callerA (.call (.ref fa) ⟨[.ref a], []⟩) (fun r s' => r = .ok (.ret (.bool true)) /\ OldK s₁.heap s'.heap /\ s'.os = s₁.os /\ AllBare s'.gens) s₁ := by
 have rv := fv0 hi
 have lenV := hi.length
 -- from an abstract heap in which nothing but the script may be tracked
 have core : ∀ H : Hp, Only H -> SqL K H a (ns.map V.int) -> HOk P w H s₁.heap -> (∀ b, H b ≠ none -> b = a) -> (H a ≠ none -> K.lookup a = none) ->
   codeAny (model P w) callerA (.call (.ref fa) ⟨[.ref a], []⟩) (fun r s' => r = .ok (.ret (.bool true)) /\ OldK s₁.heap s'.heap /\ s'.os = s₁.os /\ AllBare s'.gens) s₁ := by
  intro H hO hS hok hA hK
  have base_of : ∀ {b : Addr} {o : Obj}, s₁.heap.get? b = some o -> H b = none -> (hidT s₁.heap H).get? b = some o := fun e n => kn0 e n
  have noA : ∀ {b : Addr} {o : Obj} {es : Array DictEntry} {ep : Nat}, s₁.heap.get? b = some o -> o.data = .dict es ep -> H b = none := fun {b o es ep} e d => by
   cases q : H b with
   | none => rfl
   | some u =>
    have e' : b = a := hA b (by rw [q]; simp)
    subst e'
    rw [ha] at e; cases e
    have d' : Data.seq vs.toArray _ = Data.dict es ep := d
    cases d'
  have nsK : ∀ {b : Addr} {m : Str -> Option Value}, s₁.heap.Ns b m -> (hidT s₁.heap H).Ns b m := fun {b m} ⟨o, es, ep, e, d, r⟩ => ⟨o, es, ep, base_of e (noA e d), d, r⟩
  have hKb : K.In (hidT s₁.heap H) := fun b o e => base_of (KX b o e) (by
   cases q : H b with
   | none => rfl
   | some u =>
    have e' : b = a := hA b (by rw [q]; simp)
    subst e'
    rw [hK (by rw [q]; simp)] at e; cases e)
  have hM : Mod K mg (hidT s₁.heap H) := ⟨hKb, nsK hns, ⟨mb, nsK hb, hbb⟩, let ⟨mc, h1, h2⟩ := hlim; ⟨mc, nsK h1, h2⟩⟩
  have e0 : Env0 P w K mg (hidT s₁.heap H) callerA [] s₁ H := ⟨rfl, hM, fun b o e => lo0 e, Nat.le_of_eq (jD0 _ _), trivial, fun b hb => absurd (show b ∈ ([] : List Addr) from hb) (by simp), hok, .of_eq hg⟩
  refine codeAny_mono ((F _ hKb (nsK hns)).run callerA [] s₁ H ⟨[.ref a], []⟩ [.ref a] [.ref a] _ _ hr e0 (hbind s₁ (.ref a)) (.cons rfl .nil) (hsp H hO hS)) fun r s' h => ?_
  cases r with
  | error e => exact (hCX H e s' h).elim
  | ok fl =>
   cases fl with
   | next => exact False.elim h
   | brk => exact False.elim h
   | cont => exact False.elim h
   | ret u =>
    obtain ⟨v, H', os, bare, un, hok', r', q⟩ := h
    have q' : v = .bl true := q
    subst q'
    obtain rfl : u = Value.bool true := r'
    refine ⟨rfl, OldK.of_keep fun b o e => ?_, os, bare⟩
    cases q : H b with
    | none => exact un.keep b o e q (by intro z; exact absurd (show b ∈ ([] : List Addr) from z) (by simp)) (by simp)
    | some u =>
     rcases hO b with z | ⟨ob, xs, z⟩
     ·rw [q] at z; cases z
     ·have z2 := un.frzs b ob _ z
      obtain ⟨e1, _⟩ := hok b _ z
      obtain ⟨e2, _⟩ := hok' b _ z2
      rw [e] at e1; cases e1
      exact e2
 cases hk : K.lookup a with
 | some o =>
  -- the script is one of the module's own objects
  have e := KX a o hk
  rw [ha] at e
  cases e
  refine core (fun _ => none) (fun _ => .inl rfl) (.inr ⟨_, vs.toArray, _, hk, rfl, rfl, rfl, by rw [List.size_toArray, lenV]; exact hl, by simpa using rv⟩) (fun b u z => by have z' : (none : Option HO) = some u := z; cases z') (fun b z => absurd rfl z) fun z => absurd rfl z
 | none =>
  refine core (fun b => if b = a then some (.frz { cls := .type "list", data := .seq vs.toArray } (.lst (ns.map V.int))) else none) (fun b => ?_) (.inl (.inr ⟨{ cls := .type "list", data := .seq vs.toArray }, if_pos rfl⟩)) (fun b u z => ?_) (fun b z => ?_) fun _ => hk
  ·by_cases hb : b = a
   ·exact .inr ⟨_, _, if_pos hb⟩
   ·exact .inl (if_neg hb)
  ·by_cases hb : b = a
   ·have z' := (if_pos hb).symm.trans z
    cases z'
    subst hb
    exact ⟨ha, by rw [List.length_map]; exact hl, vs, _, rv, ha⟩
   ·have z' := (if_neg hb).symm.trans z
    cases z'
  ·by_cases hb : b = a
   ·exact hb
   ·exact absurd (if_neg hb) z
end L2
namespace L2
open PySem PySem.Spec PyProof.Rows
theorem walk_of {l : PySem.W.OpenLaw} {n k : Nat} {q : Program} {loose : List Str} {XP : (Str -> Option Value) -> Heap -> Prop} {YP : World -> Heap -> Prop} {d : DefRec} {K : Params -> PySem.W.Frag} {CX : World -> CXT} {sp : World -> Sp} {x : Str}
  (hn : l.most = some n) (hn2 : n <= sizeLine) (hdf : d.params.defaults = []) (hr : Room k callerA)
  (hY : ∀ (w : World) (h : Heap), YP w h -> (K w.params).In h)
  (F : ∀ (w : World) (mg : Str -> Option Value) (fa : Addr) (h : Heap), (K w.params).In h -> h.Ns mainGlobals mg -> mg d.name = some (.ref fa) ->
   ∃ fd : FuncData, (∀ (s : Shared) (u : Value), BindsTo s fd ⟨[u], []⟩ [(x, u)]) /\
    ∀ base : Heap, (K w.params).In base -> base.Ns mainGlobals mg -> FnOk l.prog w (K w.params) mg base (CX w) k fa fd [x] (sp w))
  (hsp : ∀ (w : World) (H : Hp) (a : Addr) (ns : List Int), ns.length <= n -> Only H -> SqL (K w.params) H a (ns.map V.int) -> sp w [.ref a] H (fun v _ => v = .bl true) fun _ _ _ => False)
  (hCX : ∀ (w : World) (H : Hp) (s : Shared) (e : Value) (s' : Shared), CX w [] H s (fun _ _ _ => False) e s' -> False) :
  PySem.W.WalkO q loose XP YP l.row.toRowW d [] (fun f vs => PySem.call f vs) := by
 refine Att.attach_call hn hdf fun w s₀ s₁ mg mb fa o pm cd doc a vs ns G Y ho hd hcd hmg hobj hints hlen hg => ?_
 have KX := hY w _ Y
 obtain ⟨fd, hb, hF⟩ := F w mg fa _ KX G.T.g hmg
 exact kz0 KX G.T.g G.T.b G.T.builtins G.T.nolimit hg hobj hints (Nat.le_trans hlen hn2) hr hF hb (fun H hO hS => hsp w H a ns hlen hO hS) fun H e s' => hCX w H s₁ e s'
end L2
namespace L2
open PySem PySem.Spec PyProof.Rows
abbrev CX0 : CXT := fun _ _ _ _ _ _ => False
abbrev E0 : XK := fun _ _ _ => False
theorem pass0 {X : Cx} : eB0 CX0 X E0 := fun _ _ _ _ _ _ _ h => h.elim
structure Fun (K : PySem.W.Frag) (x qual : Str) (st : Stmt) (f : Addr) (fd : FuncData) : Prop where
 ex : ∃ (oc : Value) (od : Option Addr) (kV doc pm : Value) (an : Option Addr) (cdv ct : Value) (osl : Array (Option Value)),
  fd = PySem.W.fnOf x qual (cq0 st) (bE0 st) (ak0 st) .none kV doc pm an cdv ct /\ K.lookup f = some ⟨oc, od, .func fd, osl⟩ /\ PySem.W.codeIn K cdv qual = true
 kp : PySem.W.keepIn K (.ref f) = true
section
variable {P : Program} {w : World} {K : PySem.W.Frag} {mg : Str -> Option Value} {base : Heap}
theorem Fun.ok {x qual : Str} {st : Stmt} {f : Addr} {fd : FuncData} {N ps : List Str} {k : Nat} {sp : Sp} (F : Fun K x qual st f fd) (S : FnScope N ps (ak0 st)) (len : ∀ vs H Q E, sp vs H Q E -> vs.length = ps.length)
  (hbody : ∀ (cdv : Value) (A : Around) (outer : List Env) (s : Shared) (H : Hp) (vs : List V) (Q : VK) (E : XK), Room k (A.deeper (envOfC qual (ak0 st) s.heap.objs.size f cdv)) -> sp vs H Q E ->
   ∃ t, PSs (cxOf CX0 P w K mg base N qual (ak0 st) f cdv A outer s H E).nox (bE0 st) t /\ t { nx := fun _ H' => Q .non H', rt := Q } (start N vs) H) : FnOk P w K mg base CX0 (k + 1) f fd ps sp := by
 obtain ⟨oc, od, kV, doc, pm, an, cdv, ct, osl, rfl, lk, hcd⟩ := F.ex
 refine lU0 lk hcd S len fun A outer s H vs Q E hr hsp => ?_
 obtain ⟨t, h, q⟩ := hbody cdv A outer s H vs Q E hr hsp
 exact ⟨t, h.nox, q⟩
theorem Fun.binds {x qual : Str} {st : Stmt} {f : Addr} {fd : FuncData} {ps : List Str} (F : Fun K x qual st f fd)
  (h : ∀ (kV doc pm : Value) (an : Option Addr) (cdv ct : Value) (us : List Value), us.length = ps.length -> bindArgs (PySem.W.fnOf x qual (cq0 st) (bE0 st) (ak0 st) .none kV doc pm an cdv ct) ⟨us, []⟩ = pure (ps.zip us)) : Binds K fd ps [] := by
 obtain ⟨oc, od, kV, doc, pm, an, cdv, ct, osl, rfl, lk, hcd⟩ := F.ex
 exact .all (h kV doc pm an cdv ct)
theorem fO0 {x qual : Str} {st : Stmt} {f : Addr} {oc : Value} {od an : Option Addr} {osl : Array (Option Value)} {kV doc pm cdv ct : Value} (l : K.lookup f = some ⟨oc, od, .func (PySem.W.fnOf x qual (cq0 st) (bE0 st) (ak0 st) .none kV doc pm an cdv ct), osl⟩)
  (c : PySem.W.codeIn K cdv qual = true) (k : PySem.W.keepIn K (.ref f) = true) : Fun K x qual st f (PySem.W.fnOf x qual (cq0 st) (bE0 st) (ak0 st) .none kV doc pm an cdv ct) := ⟨⟨oc, od, kV, doc, pm, an, cdv, ct, osl, rfl, l, c⟩, k⟩
end
theorem md0 {A : Around} {k : Nat} (hr : Room k A) : A.units + 1 < cLine := Nat.lt_of_le_of_lt (Nat.add_le_add_left (by decide : 1 <= 64) _) hr.units
section
variable {X : Cx}
theorem pv (i : Nat) {x : Str} {pos : Pos} (hN : X.N[i]? = some x := by rfl) (hv : Vis X.env.scope x := by first | exact Or.inl rfl | exact Or.inr (Or.inl rfl) | exact Or.inr (Or.inr rfl)) (hd : (x == ("__debug__" : Str)) = false := by decide)
  (hcd : (x == ("__classdict__" : Str)) = false := by decide) : PE X (.Name x pos) (tVar i) := lg0 hN hv hd hcd
end
section
variable {κ : Type} [DecidableEq κ]
theorem ip0 : ∀ {l : List κ} {k : κ}, l.Nodup -> ¬ k ∈ l -> (l ++ [k]).Nodup
 | [], k, _, _ => by simp
 | a :: r, k, h, hk => by
  obtain ⟨h1, h2⟩ := List.nodup_cons.mp h
  show (a :: (r ++ [k])).Nodup
  refine List.nodup_cons.mpr ⟨fun m => ?_, ip0 h2 fun m => hk (List.mem_cons.mpr (Or.inr m))⟩
  rcases List.mem_append.mp m with q | q
  ·exact h1 q
  ·exact hk (List.mem_cons.mpr (Or.inl (List.mem_singleton.mp q).symm))
end
end L2
set_option Elab.async false
set_option linter.all false
set_option maxRecDepth 100000
set_option maxHeartbeats 4000000
namespace L2
open PySem PySem.Spec PyProof.Rows
def cs0 (env : Env) : List (Str × NameKind) -> List (Str × Addr) -> List (Str × Addr)
 | [], acc => acc
 | (n, k) :: r, acc => if k == .free then cs0 env r ((n, (env.cells.lookup n).getD 0) :: acc) else cs0 env r acc
theorem eG0 {env : Env} : ∀ (names : List (Str × NameKind)) (acc : List (Str × Addr)), (∀ x ∈ names, x.2 = .free -> ∃ c, env.cells.lookup x.1 = some c) ->
  (forIn (m := Sem) names acc fun x cs => match x with | (name, kind) => if kind == NameKind.free then (do let c <- cellOf env name; pure (ForInStep.yield ((name, c) :: cs))) else pure (ForInStep.yield cs)) = pure (cs0 env names acc)
 | [], acc, _ => rfl
 | (n, k) :: r, acc, h => by
  rw [List.forIn_cons]
  have hr := fun acc' => eG0 r acc' fun x hx => h x (List.mem_cons_of_mem _ hx)
  cases hk : (k == NameKind.free) with
  | true =>
   have hk' : k = .free := by simpa using hk
   obtain ⟨c, hc⟩ := h (n, k) List.mem_cons_self hk'
   have hc : env.cells.lookup n = some c := hc
   have e : cs0 env ((n, k) :: r) acc = cs0 env r ((n, c) :: acc) := by
    show (if (k == NameKind.free) = true then _ else _) = _
    rw [hk, if_pos rfl, hc]
    rfl
   rw [e]
   simp only [hk, if_true, cellOf, hc]
   exact hr ((n, c) :: acc)
  | false =>
   have e : cs0 env ((n, k) :: r) acc = cs0 env r acc := by
    show (if (k == NameKind.free) = true then _ else _) = _
    rw [hk, if_neg Bool.false_ne_true]
   rw [e]
   simp only [hk, Bool.false_eq_true, if_false]
   exact hr acc
theorem dh0 {env : Env} {scope : Scope} (h : ∀ x ∈ scope.names, x.2 = .free -> ∃ c, env.cells.lookup x.1 = some c) : closureFor scope env = pure (cs0 env scope.names []) := by
 have e := eG0 scope.names [] h
 unfold closureFor
 have e2 : (forIn (m := Sem) scope.names ([] : List (Str × Addr)) fun x r => match x with | (name, kind) => if kind == NameKind.free then (do let c <- cellOf env name; pure (ForInStep.yield ((name, c) :: r))) else pure (ForInStep.yield r)) = pure (cs0 env scope.names []) := e
 first
  | (rw [e2]; rfl)
  | (simp only [e2]; rfl)
  | exact congrArg (fun z => z >>= fun cs => pure cs) e2
theorem fp0 {env : Env} : ∀ (names : List (Str × NameKind)) (acc : List (Str × Addr)), (∀ x ∈ names, x.2 = .free -> ∃ c, env.cells.lookup x.1 = some c) -> (∀ x c, acc.lookup x = some c -> env.cells.lookup x = some c) ->
  ∀ x c, (cs0 env names acc).lookup x = some c -> env.cells.lookup x = some c
 | [], _, _, ha, x, c, e => ha x c e
 | (n, k) :: r, acc, h, ha, x, c, e => by
  have hr : ∀ x ∈ r, x.2 = .free -> ∃ c, env.cells.lookup x.1 = some c := fun x hx => h x (List.mem_cons_of_mem _ hx)
  unfold cs0 at e
  cases hk : (k == NameKind.free) with
  | true =>
   obtain ⟨d, hd⟩ := h (n, k) List.mem_cons_self (by simpa using hk)
   have hd : env.cells.lookup n = some d := hd
   rw [hk, if_pos rfl, hd] at e
   refine fp0 r _ hr (fun y c' q => ?_) x c e
   rw [List.lookup_cons] at q
   cases hy : y == n with
   | true =>
    rw [hy] at q
    have e1 : y = n := by simpa using hy
    rw [e1, hd]
    exact q
   | false => rw [hy] at q; exact ha y c' q
  | false =>
   rw [hk, if_neg Bool.false_ne_true] at e
   exact fp0 r acc hr ha x c e
theorem gD0 {env : Env} {x : Str} : ∀ (names : List (Str × NameKind)) (acc : List (Str × Addr)), (∃ c, acc.lookup x = some c) -> ∃ c, (cs0 env names acc).lookup x = some c
 | [], _, h => h
 | (n, k) :: r, acc, h => by
  unfold cs0
  split
  ·refine gD0 r _ ?_
   rw [List.lookup_cons]
   cases hy : x == n with
   | true => exact ⟨_, rfl⟩
   | false => exact h
  ·exact gD0 r acc h
theorem eV0 {env : Env} {x : Str} : ∀ (names : List (Str × NameKind)) (acc : List (Str × Addr)), (x, NameKind.free) ∈ names -> ∃ c, (cs0 env names acc).lookup x = some c
 | [], _, h => nomatch h
 | (n, k) :: r, acc, h => by
  unfold cs0
  rcases List.mem_cons.mp h with e | h
  ·cases e
   rw [if_pos (by rfl)]
   exact gD0 r _ ⟨(env.cells.lookup x).getD 0, by rw [List.lookup_cons]; simp⟩
  ·split
   ·exact eV0 r _ h
   ·exact eV0 r _ h
def dy0 (scope : Scope) (own N : List Str) (oc : Scope) : Bool :=
 scope.kind == .function && scope.names.all (fun x => x.2 != .cell) && scope.names.all (fun x => x.2 != .local || scope.names.lookup x.1 == some .local) &&
 scope.names.all (fun x => x.2 != .free || (scope.names.lookup x.1 == some .free && (oc.names.lookup x.1 == some .cell || oc.names.lookup x.1 == some .free))) &&
 scope.names.lookup Str.empty == none &&
 N.all (fun y => own.contains y || (scope.names.lookup y != some .local && scope.names.lookup y != some .cell))
def hide (own : List Str) (N : List Str) : List Str := N.map fun y => if own.contains y then Str.empty else y
structure CompOk (scope : Scope) (own N : List Str) (oc : Scope) : Prop where
 kind : scope.kind = .function
 nocell : ∀ x ∈ scope.names, x.2 ≠ .cell
 loc : ∀ x ∈ scope.names, x.2 = .local -> scope.names.lookup x.1 = some .local
 free : ∀ x ∈ scope.names, x.2 = .free -> scope.names.lookup x.1 = some .free /\ (oc.names.lookup x.1 = some .cell \/ oc.names.lookup x.1 = some .free)
 empty : scope.names.lookup Str.empty = none
 outer : ∀ y ∈ N, own.contains y = false -> scope.names.lookup y ≠ some .local /\ scope.names.lookup y ≠ some .cell
theorem fx0 {scope : Scope} {own N : List Str} {oc : Scope} (h : dy0 scope own N oc = true) : CompOk scope own N oc := by
 unfold dy0 at h
 simp only [Bool.and_eq_true, List.all_eq_true, Bool.or_eq_true, bne_iff_ne, ne_eq, beq_iff_eq] at h
 obtain ⟨⟨⟨⟨⟨h1, h2⟩, h3⟩, h4⟩, h5⟩, h6⟩ := h
 refine ⟨h1, fun x hx => h2 x hx, fun x hx e => ?_, fun x hx e => ?_, h5, fun y hy e => ?_⟩
 ·rcases h3 x hx with q | q
  ·exact absurd e q
  ·exact q
 ·rcases h4 x hx with q | q
  ·exact absurd e q
  ·exact q
 ·rcases h6 y hy with q | q
  ·rw [e] at q; cases q
  ·exact q
def blk (X : Cx) (N : List Str) (scope : Scope) (C : Addr) (s₂ : Shared) (H₂ : Hp) (fp : List Addr) : Cx where
 prog := X.prog
 w := X.w
 K := X.K
 mg := X.mg
 base := X.base
 A := X.A
 N := N
 s₀ := s₂
 H₀ := H₂
 env := compEnvC scope (cs0 X.env scope.names []) C X.env
 outer := X.stack
 stack := X.stack
 ex := fp
 fn := fun _ => false
 calm := X.calm
 pn := []
 xe := fun _ _ => False
theorem cD0 {scope : Scope} {env : Env} {x : Str} : ∀ (names : List (Str × NameKind)),
  (names.map fun (n, k) => if (k == NameKind.free && env.scope.kind == .function && env.kindOf n == some .cell) then (n, NameKind.cell) else (n, k)).lookup x =
   (names.lookup x).map fun k => if (k == NameKind.free && env.scope.kind == .function && env.kindOf x == some .cell) then NameKind.cell else k
 | [] => rfl
 | (n, k) :: r => by
  have ih := cD0 (scope := scope) (env := env) (x := x) r
  rw [List.map_cons]
  show List.lookup x ((if (k == NameKind.free && env.scope.kind == .function && env.kindOf n == some .cell) = true then (n, NameKind.cell) else (n, k)) :: _) = _
  cases hx : x == n with
  | true =>
   have e : x = n := by simpa using hx
   subst e
   by_cases hc : (k == NameKind.free && env.scope.kind == .function && env.kindOf x == some .cell) = true
   ·rw [if_pos hc, List.lookup_cons, List.lookup_cons, beq_self_eq_true]
    show some NameKind.cell = Option.map _ (some k)
    rw [Option.map_some, if_pos hc]
   ·rw [if_neg hc, List.lookup_cons, List.lookup_cons, beq_self_eq_true]
    show some k = Option.map _ (some k)
    rw [Option.map_some, if_neg hc]
  | false =>
   by_cases hc : (k == NameKind.free && env.scope.kind == .function && env.kindOf n == some .cell) = true
   ·rw [if_pos hc]; simp only [List.lookup_cons, hx]; exact ih
   ·rw [if_neg hc]; simp only [List.lookup_cons, hx]; exact ih
section
variable {X : Cx} {pins : List (Addr × Obj)} {σ : St} {H : Hp} {s : Shared} {scope : Scope} {own N : List Str} {fp : List Addr} {C : Addr}
theorem do0 (I : Inv X pins σ H s) (ck : CompOk scope own X.N X.env.scope) : ∀ x ∈ scope.names, x.2 = .free -> ∃ c, X.env.cells.lookup x.1 = some c := fun x hx e => by
 obtain ⟨_, h⟩ := ck.free x hx e
 exact I.ok.has x.1 h
theorem bJ0 (I : Inv X pins σ H s) (ck : CompOk scope own X.N X.env.scope) {x : Str} {c : Addr} (h : (cs0 X.env scope.names []).lookup x = some c) : X.env.cells.lookup x = some c :=
 fp0 scope.names [] (do0 I ck) (fun _ _ z => nomatch z) x c h
theorem nE0 (I : Inv X pins σ H s) (ck : CompOk scope own X.N X.env.scope) (hf : ∀ b ∈ fp, FpOk X pins H b) (hC : s.heap.objs.size <= C) (hCf : ∀ b ∈ fp, b ≠ C) : (blk X N scope C s H fp).Ok where
 mod := I.ok.mod
 kind := ck.kind
 glob := I.ok.glob
 blt := I.ok.blt
 above := hC
 inj := fun x y c h1 h2 => I.ok.inj x y c (bJ0 I ck h1) (bJ0 I ck h2)
 has := fun x h => by
  have e : (relabel scope X.env).names.lookup x = some .cell \/ (relabel scope X.env).names.lookup x = some .free := h
  have l := cD0 (scope := scope) (env := X.env) (x := x) scope.names
  have l' : (relabel scope X.env).names.lookup x = (scope.names.lookup x).map fun k => if (k == NameKind.free && X.env.scope.kind == .function && X.env.kindOf x == some .cell) then NameKind.cell else k := l
  rw [l'] at e
  have hfree : scope.names.lookup x = some .free := by
   cases q : scope.names.lookup x with
   | none => rw [q] at e; rcases e with e | e <;> cases e
   | some k =>
    have hm : (x, k) ∈ scope.names := PySem.mem_of_lookup q
    rw [q] at e
    by_cases hk : k = .free
    ·rw [hk]
    ·have hb : (k == NameKind.free) = false := by simpa using hk
     simp only [hb, Bool.false_and, Bool.false_eq_true, if_false, Option.map_some] at e
     rcases e with e | e
     ·cases e; exact absurd rfl (ck.nocell _ hm)
     ·cases e; exact absurd rfl hk
  exact eV0 scope.names [] (PySem.mem_of_lookup hfree)
 cab := fun _ _ h _ => by cases h
 hd := I.ok.hd
 frames := I.ok.frames
 stk := .inl rfl
 exf := fun b hb => ⟨hCf b hb, fun x c h => (hf b hb).2.2.2.2.1 x c (bJ0 I ck h)⟩
 bs := I.bs
 bsz := Nat.le_trans I.ok.bsz I.sz
 noex := fun b o e hb => by
  obtain ⟨_, _, _, h, _⟩ := hf b hb
  rcases h with h | h
  ·exact I.ok.noex b o e h
  ·exact absurd (Nat.lt_of_lt_of_le (Heap.lt_size e) (Nat.le_trans I.ok.bsz h)) (Nat.lt_irrefl _)
 exfs := fun b hb z => by
  obtain ⟨_, h1, h2, _⟩ := hf b hb
  rcases List.mem_cons.mp (I.stkSub b z) with e | e
  ·exact h1 e
  ·exact h2 e
 funs := I.stack
 frf := I.stkFree
theorem lT0 {h₁ : Heap} {tk : Nat} {D : Addr} {oD : Obj} (I : Inv X pins σ H s) (ck : CompOk scope own X.N X.env.scope) (hf : ∀ b ∈ fp, FpOk X pins H b) (hfo : ∀ b ∈ fp, b < s.heap.objs.size) (hC : s.heap.objs.size <= C) (hD : s.heap.objs.size <= D) (hDC : D ≠ C)
  (old : ∀ b o, s.heap.get? b = some o -> h₁.get? b = some o) (hns : h₁.Ns C fun _ => none) (hoD : h₁.get? D = some oD) (hcell : ∀ v, oD.data ≠ .cell v) :
  Inv (blk X (own ++ hide own X.N) scope C s H fp) [(D, oD)] (List.replicate own.length none ++ σ) H { s with heap := h₁, toks := tk } where
 ok := nE0 I ck hf hC fun b hb z => absurd (hfo b hb) (by rw [z]; exact Nat.not_lt.mpr hC)
 os := rfl
 bare := I.bare
 base := Un.kept old
 loc := by
  refine ⟨_, hns, fun i x v e1 e2 e3 => ?_⟩
  have e1 : (own ++ hide own X.N)[i]? = some x := e1
  have hi : ¬ i < own.length := fun hi => by
   rw [List.getElem?_append_left (by simpa using hi), List.getElem?_replicate, if_pos hi] at e2
   cases e2
  rw [List.getElem?_append_right (by simpa using hi), List.length_replicate] at e2
  rw [List.getElem?_append_right (by omega)] at e1
  unfold hide at e1
  rw [List.getElem?_map] at e1
  cases q : X.N[i - own.length]? with
  | none => rw [q] at e1; cases e1
  | some y =>
   rw [q] at e1
   have e1 : (if own.contains y = true then Str.empty else y) = x := Option.some.inj e1
   have l : (relabel scope X.env).names.lookup x = (scope.names.lookup x).map fun k => if (k == NameKind.free && X.env.scope.kind == .function && X.env.kindOf x == some .cell) then NameKind.cell else k := cD0 (scope := scope) (env := X.env) (x := x) scope.names
   have e3 : (relabel scope X.env).names.lookup x = some .local \/ (relabel scope X.env).names.lookup x = some .cell \/ (relabel scope X.env).names.lookup x = some .free := e3
   cases ho : own.contains y with
   | true =>
    rw [ho, if_pos rfl] at e1
    subst e1
    rw [l, ck.empty] at e3
    rcases e3 with e3 | e3 | e3 <;> cases e3
   | false =>
    rw [ho, if_neg Bool.false_ne_true] at e1
    subst e1
    obtain ⟨n1, n2⟩ := ck.outer y (List.mem_of_getElem? q) ho
    have hfree : scope.names.lookup y = some .free := by
     rw [l] at e3
     cases q : scope.names.lookup y with
     | none => rw [q] at e3; rcases e3 with e3 | e3 | e3 <;> cases e3
     | some k =>
      by_cases hk : k = .free
      ·rw [hk]
      ·have hb : (k == NameKind.free) = false := by simpa using hk
       rw [q] at e3
       simp only [hb, Bool.false_and, Bool.false_eq_true, if_false, Option.map_some] at e3
       rcases e3 with e3 | e3 | e3
       ·cases e3; exact absurd q n1
       ·cases e3; exact absurd q n2
       ·cases e3; exact absurd rfl hk
    obtain ⟨_, ho2⟩ := ck.free (y, .free) (PySem.mem_of_lookup hfree) rfl
    have ho2 : X.env.scope.names.lookup y = some .cell \/ X.env.scope.names.lookup y = some .free := ho2
    obtain ⟨m, hn, hl⟩ := I.loc
    obtain ⟨u, r, lk⟩ := hl (i - own.length) y v q e2 (ho2.elim (fun z => .inr (.inl z)) fun z => .inr (.inr z))
    refine ⟨u, r, .inr ⟨?_, ?_⟩⟩
    ·show (relabel scope X.env).names.lookup y = some .cell \/ (relabel scope X.env).names.lookup y = some .free
     rcases e3 with z | z | z
     ·exfalso
      rw [l, hfree] at z
      simp only [Option.map_some] at z
      split at z <;> cases z
     ·exact .inl z
     ·exact .inr z
    ·rcases lk with ⟨k, _⟩ | ⟨_, c, hc, hcell⟩
     ·have k : X.env.scope.names.lookup y = some .local := k
      rw [k] at ho2
      rcases ho2 with z | z <;> cases z
     ·obtain ⟨c', hc'⟩ := eV0 (env := X.env) scope.names [] (PySem.mem_of_lookup hfree)
      have e := bJ0 I ck hc'
      rw [hc] at e
      cases e
      obtain ⟨o, ho, hd⟩ := hcell
      exact ⟨c, hc', o, old c o ho, hd⟩
 cell := fun x c h => by
  obtain ⟨v, o, ho, hd⟩ := I.cell x c (bJ0 I ck h)
  exact ⟨v, o, old c o ho, hd⟩
 free := I.hok.fresh hC
 freeC := fun x c h => I.freeC x c (bJ0 I ck h)
 pin := fun p hp => by
  have e : p = (D, oD) := by simpa [blk] using hp
  subst e
  refine ⟨hoD, I.hok.fresh hD, hDC, fun z => ?_, hcell⟩
  rcases List.mem_cons.mp (I.stkSub D z) with e | e
  ·exact absurd I.lt (by rw [<- e]; exact Nat.not_lt.mpr hD)
  ·exact I.nofs hD e
 hok := I.hok.kept old
 len := by
  show (List.replicate own.length none ++ σ).length = (own ++ hide own X.N).length
  unfold hide
  rw [List.length_append, List.length_append, List.length_replicate, List.length_map, I.len]
end
theorem ga0 {prog : Program} {w : World} {A : Around} {R : Result -> Shared -> Prop} {s : Shared} {elt target iter : Expr} {ifs : List Expr} {scope : Scope} {pos : Pos} {it acc : Value} {env : Env} (I : Nat -> Shared -> Prop)
  (turn : ∀ n s, I n s -> wpAny (model prog w) A (pyNext it) (fun r s₁ => match r with
   | none => R (.ok .next) s₁
   | some v => wpAny (model prog w) A (letOwnedTupleGo target it v) (fun _ s₁' => wpAny (model prog w) A (assign target env v) (fun _ s₂ =>
     wpAny (model prog w) A (forIn ifs true fun c r => if r = true then do let ok <- isTrue c env (eval c env); pure (ForInStep.yield ok) else pure (ForInStep.yield r)) (fun ok s₃ =>
      if ok = true then wpAny (model prog w) A (eval elt env) (fun x s₄ =>
       wpAny (model prog w) A (call (.builtin "list.append") [acc, x]) (fun _ s₅ => ∃ m, m < n /\ I m s₅) (fun _ _ => False) s₄) (fun _ _ => False) s₃
      else ∃ m, m < n /\ I m s₃) (fun _ _ => False) s₂) (fun _ _ => False) s₁') (fun _ _ => False) s₁) (fun _ _ => False) s)
  (n : Nat) (h : I n s) :
  codeAny (model prog w) A (.compLoop (.ListComp elt [⟨target, iter, ifs, 0⟩] scope pos) 0 it acc env) R s := by
 refine codeAny_loop rfl I (fun n s hI => ?_) n h
 show wpAny _ A ((compTurn (.ListComp elt [⟨target, iter, ifs, 0⟩] scope pos) 0 it acc env).onRaise (fun x => do noteFrame x env; theTreesLotGoes x)) _ _ s
 refine wpAny_noted ?_
 rw [compTurn_list]
 refine wpAny_bind (wpAny_standAt (wpAny_bind (wpAny_mono (turn n s hI) (fun r s₁ h₁ => ?_) fun _ _ h' => h'.elim)))
 cases r with
 | none => exact wpAny_pure h₁
 | some v =>
  refine wpAny_bind (wpAny_mono h₁ (fun _ s₁' h₁' => wpAny_bind (wpAny_mono h₁' (fun _ s₂ h₂ => wpAny_bind (wpAny_mono h₂ (fun ok s₃ h₃ => ?_) fun _ _ h' => h'.elim)) fun _ _ h' => h'.elim)) fun _ _ h' => h'.elim)
  cases ok with
  | false => exact wpAny_pure ⟨rfl, h₃⟩
  | true =>
   exact wpAny_bind (wpAny_bind (wpAny_mono h₃ (fun x s₄ h₄ => wpAny_bind (wpAny_mono h₄ (fun _ s₅ h₅ => wpAny_pure (wpAny_pure ⟨rfl, h₅⟩)) fun _ _ h' => h'.elim)) fun _ _ h' => h'.elim))
def PIf (X : Cx) (ifs : List Expr) (t : TT) : Prop :=
 ∀ (pins : List (Addr × Obj)) (s : Shared) (σ : St) (H : Hp) (Q : Bool -> Hp -> Prop), Inv X pins σ H s -> t σ H Q ->
  wpAny (model X.prog X.w) X.A (forIn ifs true fun c r => if r = true then do let ok <- isTrue c X.env (eval c X.env); pure (ForInStep.yield ok) else pure (ForInStep.yield r)) (TP X pins σ Q) X.xe s
def tTrue : TT := fun _ H Q => Q true H
theorem lV0 {X : Cx} : PIf X [] tTrue := fun pins s σ H Q I h => wpAny_tests_nil ⟨H, I, h⟩
def lF0 (n : Nat) (wi : TI) (g : TG) (tt : TT) (te : TE) : TE := fun σ H Q => wi σ H fun J H1 => ∃ W : Nat -> Nat -> List V -> Hp -> Prop, (∃ m, W 0 m [] H1) /\ ∀ i m ys H, W i m ys H ->
 (J.stop i H /\ ∀ p, H p = none -> Q (.ref p) (upd H p (.lst ys))) \/ (J.go i H /\ ∀ x H', J.yld i H x H' -> g x (List.replicate n none ++ σ) H' fun σ2 H2 => σ2.drop n = σ /\ tt σ2 H2 fun b H3 =>
  if b = true then te σ2 H3 fun y H4 => ys.length < sizeLine /\ ∃ m', m' < m /\ W (i + 1) m' (ys ++ [y]) H4 else ∃ m', m' < m /\ W (i + 1) m' ys H3)
theorem HOk.adopt {P : Program} {w : World} {H : Hp} {h : Heap} {a : Addr} {o : HO} (x : HOk P w H h) (hn : H a = none) (new : ObjOk P w (upd H a o) h a o) : HOk P w (upd H a o) h := fun b u e => by
 by_cases hb : b = a
 ·subst hb; rw [aq0] at e; cases e; exact new
 ·rw [ao0 hb] at e
  exact (x b u e).stay (fun c v _ q => q) (fun c q => by rw [ao0 (au0 q hn)]; exact q) fun c xs q => by rw [ao0 (au0 q hn)]; exact q
section
variable {X : Cx} {scope : Scope} {own : List Str} {elt tg iter : Expr} {ifs : List Expr} {pos : Pos} {wi : TI} {g : TG} {tt : TT} {te : TE}
theorem gJ0 {pins : List (Addr × Obj)} {σ : St} {s₂ : Shared} {Q : VK} {it : Addr} {fp : List Addr} {tn : Nat -> Heap -> Prop} {J : It} {H₂ : Hp} {RR : Value -> Addr -> Result -> Shared -> Prop} {E : Value -> Shared -> Prop} (hc : X.calm = true) (ck : CompOk scope own X.N X.env.scope)
  (hg : ∀ C s₂ H₂ fp, PG (blk X (own ++ hide own X.N) scope C s₂ H₂ fp) tg g) (ht : ∀ C s₂ H₂ fp, PIf (blk X (own ++ hide own X.N) scope C s₂ H₂ fp) ifs tt) (he : ∀ C s₂ H₂ fp, PE (blk X (own ++ hide own X.N) scope C s₂ H₂ fp) elt te)
  (I2 : Inv X pins σ H₂ s₂) (T : Turn X.prog X.w X.K tg J fp it tn) (st2 : tn 0 s₂.heap) (f2 : ∀ b ∈ fp, FpOk X pins H₂ b)
  (hw : ∃ W : Nat -> Nat -> List V -> Hp -> Prop, (∃ m, W 0 m [] H₂) /\ ∀ i m ys H, W i m ys H ->
   (J.stop i H /\ ∀ p, H p = none -> Q (.ref p) (upd H p (.lst ys))) \/ (J.go i H /\ ∀ x H', J.yld i H x H' -> g x (List.replicate own.length none ++ σ) H' fun σ2 H2 => σ2.drop own.length = σ /\ tt σ2 H2 fun b H3 =>
    if b = true then te σ2 H3 fun y H4 => ys.length < sizeLine /\ ∃ m', m' < m /\ W (i + 1) m' (ys ++ [y]) H4 else ∃ m', m' < m /\ W (i + 1) m' ys H3))
  (hRR : ∀ D C s' H' m', Inv X pins σ H' s' -> H' C = none -> s₂.heap.objs.size <= C -> s'.heap.Ns C m' -> Q (.ref D) H' -> RR (.ref D) C (.ok .next) s') :
  wpAny (model X.prog X.w) X.A (newList []) (fun acc s₃ => wpAny (model X.prog X.w) X.A (newFunctionEnv scope X.env.globals (cs0 X.env scope.names []) [] X.env.qual none .none (some X.env)) (fun cenv s₄ =>
   codeAny (model X.prog X.w) X.A (.compStart (.ListComp elt [⟨tg, iter, ifs, 0⟩] scope pos) 0 (.ref it) acc { cenv with scope := relabel scope X.env }) (RR acc cenv.locals) s₄) E s₃) E s₂ := by
 obtain ⟨W, ⟨m0, w0⟩, turn⟩ := hw
 refine wpAny_newObj_type (wpAny_newFunctionEnv ck.nocell (by intro y hy; simp at hy) (fun h₁ hns₁ hsb₁ => ?_) ck.kind)
 dsimp only at hns₁ hsb₁ ⊢
 generalize hH2 : s₂.heap.push { cls := .type "list", dict := none, data := .seq ([] : List Value).toArray } = P2 at hns₁ hsb₁ ⊢
 have hCs : P2.objs.size = s₂.heap.objs.size + 1 := by rw [<- hH2, Heap.size_push]
 have hDC : s₂.heap.objs.size ≠ P2.objs.size := by rw [hCs]; exact Nat.ne_of_lt (Nat.lt_succ_self _)
 have hCle : s₂.heap.objs.size <= P2.objs.size := by rw [hCs]; exact Nat.le_succ _
 have below : ∀ b, b < s₂.heap.objs.size -> b ≠ P2.objs.size := fun b hb => by rw [hCs]; exact Nat.ne_of_lt (Nat.lt_succ_of_lt hb)
 have old : ∀ b o, s₂.heap.get? b = some o -> h₁.get? b = some o := fun b o e => hsb₁.extBut b o (below b (Heap.lt_size e)) (Heap.get?_push_of_some _ (hH2 ▸ Heap.get?_push_of_some _ e))
 have hacc : h₁.get? s₂.heap.objs.size = some { cls := .type "list", dict := none, data := .seq ([] : List Value).toArray } := hsb₁.extBut _ _ hDC (Heap.get?_push_of_some _ (hH2 ▸ Heap.get?_push_size _ rfl))
 have hfo : ∀ b ∈ fp, b < s₂.heap.objs.size := fun b hb => by
  obtain ⟨o, e, _⟩ := T.obj _ _ st2 b hb
  exact Heap.lt_size e
 have I1 : Inv (blk X (own ++ hide own X.N) scope P2.objs.size s₂ H₂ fp) [(s₂.heap.objs.size, { cls := .type "list", dict := none, data := .seq ([] : List Value).toArray })] (List.replicate own.length none ++ σ) H₂ { s₂ with heap := h₁, toks := s₂.toks + ([] : List (Str × Value)).length } :=
  lT0 I2 ck f2 hfo hCle (Nat.le_refl _) hDC old (by simpa using hns₁) hacc (fun v z => nomatch z)
 have stat : ∀ {H' : Hp} {oD : Obj}, (∀ b ∈ fp, H' b = none) -> ∀ b ∈ fp, FpOk (blk X (own ++ hide own X.N) scope P2.objs.size s₂ H₂ fp) [(s₂.heap.objs.size, oD)] H' b := fun {H' oD} hn b hb => by
  obtain ⟨_, q1, q2, q3, q4, q5⟩ := f2 b hb
  refine ⟨hn b hb, below b (hfo b hb), fun z => ?_, .inl hb, fun x c h => q4 x c (bJ0 I2 ck h), fun p hp z => ?_⟩
  ·rcases List.mem_cons.mp (I2.stkSub b z) with e | e
   ·exact q1 e
   ·exact q2 e
  ·have e : p = (s₂.heap.objs.size, oD) := by simpa [blk] using hp
   rw [e] at z
   exact absurd (hfo b hb) (by rw [<- z]; exact Nat.lt_irrefl _)
 have loop : codeAny (model X.prog X.w) X.A (.compLoop (.ListComp elt [⟨tg, iter, ifs, 0⟩] scope pos) 0 (.ref it) (.ref s₂.heap.objs.size) (compEnvC scope (cs0 X.env scope.names []) P2.objs.size X.env))
   (RR (.ref s₂.heap.objs.size) P2.objs.size) { s₂ with heap := h₁, toks := s₂.toks + ([] : List (Str × Value)).length } := by
  refine ga0 (fun n s' => ∃ i ys its k H', Inv (blk X (own ++ hide own X.N) scope P2.objs.size s₂ H₂ fp) [(s₂.heap.objs.size, { cls := .type "list", data := .seq its k })] (List.replicate own.length none ++ σ) H' s' /\ tn i s'.heap /\ (∀ b ∈ fp, H' b = none) /\ Vals ys its.toList /\ ys.length <= sizeLine /\ W i n ys H') ?_ m0
   ⟨0, [], #[], 0, H₂, I1, T.keep _ _ _ st2 (fun b _ o e => old b o e), fun b hb => (f2 b hb).1, .nil, Nat.zero_le _, w0⟩
  rintro n s3 ⟨i, ys, its, k, H3, I3, st3, fr3, rv, hz, w3⟩
  rcases turn i n ys H3 w3 with ⟨stop, q⟩ | ⟨go, step⟩
  ·refine thn (T.done (blk X (own ++ hide own X.N) scope P2.objs.size s₂ H₂ fp) rfl rfl rfl hc i _ s3 _ H3 _ I3 (stat fr3) st3 stop) fun r s4 ⟨hr, I4⟩ => ?_
   subst hr
   obtain ⟨hoD, hDn, _, hDfs, _⟩ := I4.pin (s₂.heap.objs.size, { cls := .type "list", data := .seq its k }) (by simp [blk])
   have hDn : H3 s₂.heap.objs.size = none := hDn
   obtain ⟨m', hn', _⟩ := I4.loc
   have hCn : H3 P2.objs.size = none := I4.free
   have un : Un (frs X.stack) fp H₂ (upd H3 s₂.heap.objs.size (.lst ys)) s₂.heap s4.heap := by
    have b := I4.base
    refine ⟨b.keep, b.slot, fun c o e n hx => ?_, b.there, fun c xs e => ?_, fun c o u e => ?_, fun c ps e => ?_⟩
    ·rw [ao0 (Nat.ne_of_lt (Heap.lt_size e))]; exact b.free c o e n hx
    ·have q := b.tups c xs e
     rw [ao0 (au0 q hDn)]; exact q
    ·have q := b.frzs c o u e
     rw [ao0 (au0 q hDn)]; exact q
    ·obtain ⟨mo, q⟩ := b.tbls c ps e
     exact ⟨mo, by rw [ao0 (au0 q hDn)]; exact q⟩
   have hok : HOk X.prog X.w (upd H3 s₂.heap.objs.size (.lst ys)) s4.heap := HOk.adopt I4.hok hDn ⟨hz, its.toList, k, rv, by simpa using hoD⟩
   have I5 : Inv X pins σ (upd H3 s₂.heap.objs.size (.lst ys)) s4 := I2.call' (ch := fp) I4.os un hok I4.bare fun b hb => by
    obtain ⟨_, q1, q2, q3, q4, q5⟩ := f2 b hb
    exact ⟨q3, q1, q4, q5⟩
   exact hRR _ _ s4 _ m' I5 (by rw [ao0 (Ne.symm hDC)]; exact hCn) hCle hn' (q _ hDn)
  ·refine thn (T.item (blk X (own ++ hide own X.N) scope P2.objs.size s₂ H₂ fp) rfl rfl rfl hc i _ s3 _ H3 _ I3 (stat fr3) st3 go) fun r s4 ⟨u, hr, h4⟩ => ?_
   subst hr
   refine thn h4 fun _ s5 ⟨x, H5, I5, r5, y5, st5, fr5⟩ => ?_
   have I5' := I5.pinned (stat fr5) (T.obj _ _ st5)
   refine thn (hg _ _ _ _ _ s5 _ H5 x u _ I5' r5 (step x H5 y5)) fun _ s6 ⟨σ6, H6, I6, hσ, q6⟩ => ?_
   refine thn (ht _ _ _ _ _ s6 σ6 H6 _ I6 q6) fun b s7 ⟨H7, I7, q7⟩ => ?_
   have wk : ∀ {pl : List (Addr × Obj)} {H7 : Hp} {s7 : Shared}, Inv (blk X (own ++ hide own X.N) scope P2.objs.size s₂ H₂ fp) pl σ6 H7 s7 -> Inv (blk X (own ++ hide own X.N) scope P2.objs.size s₂ H₂ fp) pl (List.replicate own.length none ++ σ) H7 s7 := fun {pl H7 s7} J => by
    refine J.weak ?_ fun j v e => ?_
    ·have e1 := J.len
     have e2 := I5.len
     rw [e1, e2]
    ·have hj : ¬ j < own.length := fun hj => by
      rw [List.getElem?_append_left (by simpa using hj), List.getElem?_replicate, if_pos hj] at e
      cases e
     rw [List.getElem?_append_right (by simpa using hj), List.length_replicate, <- hσ, List.getElem?_drop] at e
     rw [<- e]
     congr 1
     omega
   have pfp : ∀ p ∈ eg0 fp s5.heap, p.1 < s₂.heap.objs.size := fun p hp => hfo _ (fW0 hp).1
   cases b with
   | false =>
    rw [if_neg Bool.false_ne_true] at q7
    rw [if_neg Bool.false_ne_true]
    obtain ⟨m', hm, w7⟩ := q7
    refine ⟨m', hm, i + 1, ys, its, k, H7, wk I7.unpinned, T.keep _ _ _ st5 fun b hb o e => (I7.pin (b, o) (List.mem_append_right _ (List.mem_append_right _ (bN0 hb e)))).1, fun b hb => ?_, rv, hz, w7⟩
    obtain ⟨o, e, d⟩ := T.obj _ _ st5 b hb
    exact (I7.pin (b, o) (List.mem_append_right _ (List.mem_append_right _ (bN0 hb e)))).2.1
   | true =>
    rw [if_pos rfl] at q7
    rw [if_pos rfl]
    refine thn (he _ _ _ _ _ s7 σ6 H7 _ I7 q7) fun u8 s8 ⟨y, H8, I8, r8, hl8, m', hm, w8⟩ => ?_
    obtain ⟨hoD, hDn, _, hDfs, _⟩ := I8.pin (s₂.heap.objs.size, { cls := .type "list", data := .seq its k }) (by simp [blk])
    have hDn : H8 s₂.heap.objs.size = none := hDn
    have hDfs : s₂.heap.objs.size ∉ frs X.stack := hDfs
    have hits : its.size = ys.length := by rw [rv.length]; simp
    refine wpAny_list_append_plain (hsz := by rw [hits]; exact hz) ⟨k, hoD⟩ fun h9 hpl hsb => ?_
    obtain ⟨k9, e9⟩ := hpl
    have I8a : Inv (blk X (own ++ hide own X.N) scope P2.objs.size s₂ H₂ fp) (eg0 fp s5.heap) σ6 H8 s8 := I8.pins_of fun p hp => I8.pin p (List.mem_append_right _ (List.mem_append_right _ hp))
    have I9 : Inv (blk X (own ++ hide own X.N) scope P2.objs.size s₂ H₂ fp) (eg0 fp s5.heap) σ6 H8 { s8 with heap := h9 } := I8a.turned (t' := s8.toks) (it := s₂.heap.objs.size) (fun b o hb e => (hsb.2 b hb).trans e) hDn hDC (.inr (Nat.le_refl _))
     (fun x c h z => by
      obtain ⟨v, o, ho, _⟩ := I2.cell x c (bJ0 I2 ck h)
      exact absurd (Heap.lt_size ho) (by rw [z]; exact Nat.lt_irrefl _))
     (fun p hp z => absurd (pfp p (by simpa [blk] using hp)) (by rw [z]; exact Nat.lt_irrefl _))
    have keepfp : ∀ b ∈ fp, ∀ o, s5.heap.get? b = some o -> h9.get? b = some o := fun b hb o e => (I9.pin (b, o) (List.mem_append_right _ (bN0 hb e))).1
    have frfp : ∀ b ∈ fp, H8 b = none := fun b hb => by
     obtain ⟨o, e, d⟩ := T.obj _ _ st5 b hb
     exact (I9.pin (b, o) (List.mem_append_right _ (bN0 hb e))).2.1
    have I10 : Inv (blk X (own ++ hide own X.N) scope P2.objs.size s₂ H₂ fp) [(s₂.heap.objs.size, { cls := .type "list", data := .seq (its.push u8) k9 })] σ6 H8 { s8 with heap := h9 } := I9.pins_of fun p hp => by
     have e : p = (s₂.heap.objs.size, { cls := .type "list", data := .seq (its.push u8) k9 }) := by simpa using hp
     subst e
     exact ⟨e9, hDn, hDC, hDfs, fun v z => nomatch z⟩
    refine ⟨m', hm, i + 1, ys ++ [y], its.push u8, k9, H8, wk I10, T.keep _ _ _ st5 keepfp, frfp, ?_, ?_, w8⟩
    ·rw [Array.toList_push]
     exact Vals.append rv (.cons r8 .nil)
    ·rw [List.length_append, List.length_singleton]
     exact hl8
 exact codeAny_compStart_list loop (T.self X.A 0 _ _ _ (T.keep _ _ _ st2 fun b _ o e => old b o e) loop)
theorem lI0 (hc : X.calm = true) (ck : dy0 scope own X.N X.env.scope = true) (hi : PI X tg iter wi)
  (hg : ∀ C s₂ H₂ fp, PG (blk X (own ++ hide own X.N) scope C s₂ H₂ fp) tg g) (ht : ∀ C s₂ H₂ fp, PIf (blk X (own ++ hide own X.N) scope C s₂ H₂ fp) ifs tt) (he : ∀ C s₂ H₂ fp, PE (blk X (own ++ hide own X.N) scope C s₂ H₂ fp) elt te)
  (hs : ∀ x, foldedSetIterable iter X.env x = pure x := by intro _; rfl) : PE X (.ListComp elt [⟨tg, iter, ifs, 0⟩] scope pos) (lF0 own.length wi g tt te) := by
 intro pins s σ H Q I h
 have ck := fx0 ck
 rw [eval_ListComp]
 refine wpAny_comprehension_free (use := none) rfl hs (dh0 (do0 I ck)) ck.kind ck.loc (thn (hi pins s σ H _ I h) fun v s1 h1 => thn h1 fun itv s2 h2 => ?_)
 obtain ⟨it, fp, tn, J, H2, e, I2, T, st2, f2, hw⟩ := h2
 subst e
 refine gJ0 (RR := fun acc C => compPost (model X.prog X.w) X.A X.xe none (EP X pins σ Q) acc C) hc ck hg ht he I2 T st2 f2 hw ?_
 intro D C s' H' m' I' hCn hC hn q
 refine ⟨m', hn, fun h' hsb => ⟨.ref D, H', ?_, rfl, q⟩⟩
 refine I'.turned (t' := s'.toks) (it := C) (fun b o hb e => (hsb.2 b hb).trans e) hCn (Nat.ne_of_gt (Nat.lt_of_lt_of_le I2.lt hC)) (.inr (Nat.le_trans I2.sz hC)) (fun x c e z => ?_) fun p hp z => ?_
 ·obtain ⟨v, o, ho, _⟩ := I2.cell x c e
  exact absurd (Heap.lt_size ho) (by rw [z]; exact Nat.not_lt.mpr hC)
 ·exact absurd (Heap.lt_size (I2.pin p hp).1) (by rw [z]; exact Nat.not_lt.mpr hC)
theorem lP0 {i : Nat} {y : Str} {py spos : Pos} (hN : X.N.Nodup) (hiN : X.N[i]? = some y) (hy : Loc X.env.scope y) (hc : X.calm = true) (ck : dy0 scope own X.N X.env.scope = true) (hi : PI X tg iter wi)
  (hg : ∀ C s₂ H₂ fp, PG (blk X (own ++ hide own X.N) scope C s₂ H₂ fp) tg g) (ht : ∀ C s₂ H₂ fp, PIf (blk X (own ++ hide own X.N) scope C s₂ H₂ fp) ifs tt) (he : ∀ C s₂ H₂ fp, PE (blk X (own ++ hide own X.N) scope C s₂ H₂ fp) elt te)
  (hsw : swapsWith (.ListComp elt [⟨tg, iter, ifs, 0⟩] scope pos) (some (.Name y py)) spos.line X.env = pure true)
  (hs : ∀ x, foldedSetIterable iter X.env x = pure x := by intro _; rfl) (hf : X.fn y = true \/ X.env.scope.names.lookup y = some .local := by first | exact .inl rfl | exact .inr rfl | assumption) :
  PS X (.Assign [.Name y py] (.ListComp elt [⟨tg, iter, ifs, 0⟩] scope pos) spos) (tAsg (lF0 own.length wi g tt te) (ea0 i)) := by
 intro pins s σ H D I h
 have ck := fx0 ck
 rw [exec_Assign_Name_used _ _ _ _ hsw]
 refine wpAny_bind (wpAny_standAt (wpAny_bind ?_))
 show wpAny _ X.A (do let _ <- comprehension (.ListComp elt [⟨tg, iter, ifs, 0⟩] scope pos) scope X.env _ (newList []) false (eval iter X.env) (some (assign (.Name y py) X.env))) _ _ s
 refine wpAny_bind (wpAny_mono (wpAny_comprehension_free (use := some (assign (.Name y py) X.env)) (Q := fun _ s' => SP X pins D .next s') rfl hs (dh0 (do0 I ck)) ck.kind ck.loc
  (thn (hi pins s σ H _ I h) fun v s1 h1 => thn h1 fun itv s2 h2 => ?_)) (fun _ s' hq => wpAny_pure (wpAny_pure hq)) fun _ _ e => e)
 obtain ⟨it, fp, tn, J, H2, e, I2, T, st2, f2, hw⟩ := h2
 subst e
 refine gJ0 (Q := fun v H' => D.nx (σ.set i (some v)) H') (RR := fun acc C => compPost (model X.prog X.w) X.A X.xe (some (assign (.Name y py) X.env)) (fun _ s' => SP X pins D .next s') acc C) hc ck hg ht he I2 T st2 f2 hw ?_
 intro Dd C s' H' m' I' hCn hC hn q
 have neL : C ≠ X.env.locals := Nat.ne_of_gt (Nat.lt_of_lt_of_le I2.lt hC)
 have neC : ∀ x c, X.env.cells.lookup x = some c -> c ≠ C := fun x c e z => by
  obtain ⟨v, o, ho, _⟩ := I2.cell x c e
  exact absurd (Heap.lt_size ho) (by rw [z]; exact Nat.not_lt.mpr hC)
 show wpAny _ X.A (assign (.Name y py) X.env (.ref Dd)) _ _ s'
 refine wpAny_assign_Name (fH0 I' hN hiN hy (v := .ref Dd) rfl (fun s'' I'' ⟨a, hsb, ha⟩ => ?_) hf)
 refine ⟨m', hn.sameBut hsb ?_, fun h' hsb' => ⟨_, H', ?_, q⟩⟩
 ·rcases ha with e | e
  ·rw [e]; exact neL
  ·exact Ne.symm (neC y a e)
 ·refine I''.turned (t' := s''.toks) (it := C) (fun b o hb e => (hsb'.2 b hb).trans e) hCn neL (.inr (Nat.le_trans I2.sz hC)) neC fun p hp z => ?_
  exact absurd (Heap.lt_size (I2.pin p hp).1) (by rw [z]; exact Nat.not_lt.mpr hC)
end
end L2
set_option Elab.async false
set_option linter.all false
set_option maxRecDepth 100000
set_option maxHeartbeats 4000000
namespace L2.BD
open PySem PySem.Spec PyProof.Rows
inductive T where
 | non | bl (b : Bool) | int (i : Int) | str (x : Str)
 | tup (ts : List T) | lst (ts : List T) | dct (kvs : List (Str × T)) | ins (C : Addr) (fs : List (Str × T)) | exc (C : Addr) | scr (ns : List Int)
mutual
/-- v stands for the tree; the lists, dicts and instances in it are frozen (F) -/
inductive Rp (F : Addr -> Prop) (H : Hp) : V -> T -> Prop
 | non : Rp F H .non .non
 | bl (b : Bool) : Rp F H (.bl b) (.bl b)
 | int (i : Int) : Rp F H (.int i) (.int i)
 | str (x : Str) : Rp F H (.str x) (.str x)
 | tup {a : Addr} {xs : List V} {ts : List T} (h : H a = some (.tup xs)) (r : Rps F H xs ts) : Rp F H (.ref a) (.tup ts)
 | lst {a : Addr} {xs : List V} {ts : List T} (f : F a) (h : H a = some (.lst xs)) (r : Rps F H xs ts) : Rp F H (.ref a) (.lst ts)
 | dct {a : Addr} {o : Obj} {kvs : List (Key × V)} {kts : List (Str × T)} (f : F a) (h : H a = some (.frz o (.dK kvs))) (r : Rpk F H kvs kts) : Rp F H (.ref a) (.dct kts)
 | ins {a C dx : Addr} {fs : List (Str × V)} {fts : List (Str × T)} (f : F a) (h : H a = some (.ins C dx fs)) (r : Rpf F H fs fts) : Rp F H (.ref a) (.ins C fts)
 | exc {a C : Addr} {o : Obj} (f : F a) (h : H a = some (.frz o (.ext fun _ => True))) (hc : o.cls = .ref C) : Rp F H (.ref a) (.exc C)
 | scr {a : Addr} {o : Obj} {ns : List Int} (f : F a) (h : H a = some (.frz o (.lst (ns.map V.int)))) : Rp F H (.ref a) (.scr ns)
inductive Rps (F : Addr -> Prop) (H : Hp) : List V -> List T -> Prop
 | nil : Rps F H [] []
 | cons {v : V} {t : T} {vs : List V} {ts : List T} (h : Rp F H v t) (r : Rps F H vs ts) : Rps F H (v :: vs) (t :: ts)
inductive Rpk (F : Addr -> Prop) (H : Hp) : List (Key × V) -> List (Str × T) -> Prop
 | nil : Rpk F H [] []
 | cons {k : Str} {v : V} {t : T} {vs : List (Key × V)} {ts : List (Str × T)} (h : Rp F H v t) (r : Rpk F H vs ts) : Rpk F H ((Sum.inr k, v) :: vs) ((k, t) :: ts)
inductive Rpf (F : Addr -> Prop) (H : Hp) : List (Str × V) -> List (Str × T) -> Prop
 | nil : Rpf F H [] []
 | cons {k : Str} {v : V} {t : T} {vs : List (Str × V)} {ts : List (Str × T)} (h : Rp F H v t) (r : Rpf F H vs ts) : Rpf F H ((k, v) :: vs) ((k, t) :: ts)
end
structure Keep (F : Addr -> Prop) (H : Hp) (F' : Addr -> Prop) (H' : Hp) : Prop where
 sub : ∀ a, F a -> F' a
 frz : ∀ a o, F a -> H a = some o -> H' a = some o
 tup : ∀ a xs, H a = some (.tup xs) -> H' a = some (.tup xs)
theorem Keep.refl {F : Addr -> Prop} {H : Hp} : Keep F H F H := ⟨fun _ h => h, fun _ _ _ h => h, fun _ _ h => h⟩
theorem Keep.trans {F F1 F2 : Addr -> Prop} {H H1 H2 : Hp} (a : Keep F H F1 H1) (b : Keep F1 H1 F2 H2) : Keep F H F2 H2 :=
 ⟨fun x h => b.sub x (a.sub x h), fun x o f h => b.frz x o (a.sub x f) (a.frz x o f h), fun x xs h => b.tup x xs (a.tup x xs h)⟩
mutual
theorem Rp.keep {F F' : Addr -> Prop} {H H' : Hp} (k : Keep F H F' H') : ∀ {v : V} {t : T}, Rp F H v t -> Rp F' H' v t
 | _, _, .non => .non
 | _, _, .bl b => .bl b
 | _, _, .int i => .int i
 | _, _, .str x => .str x
 | _, _, .tup h r => .tup (k.tup _ _ h) (Rps.keep k r)
 | _, _, .lst f h r => .lst (k.sub _ f) (k.frz _ _ f h) (Rps.keep k r)
 | _, _, .dct f h r => .dct (k.sub _ f) (k.frz _ _ f h) (Rpk.keep k r)
 | _, _, .ins f h r => .ins (k.sub _ f) (k.frz _ _ f h) (Rpf.keep k r)
 | _, _, .exc f h c => .exc (k.sub _ f) (k.frz _ _ f h) c
 | _, _, .scr f h => .scr (k.sub _ f) (k.frz _ _ f h)
theorem Rps.keep {F F' : Addr -> Prop} {H H' : Hp} (k : Keep F H F' H') : ∀ {v : List V} {t : List T}, Rps F H v t -> Rps F' H' v t
 | _, _, .nil => .nil
 | _, _, .cons h r => .cons (Rp.keep k h) (Rps.keep k r)
theorem Rpk.keep {F F' : Addr -> Prop} {H H' : Hp} (k : Keep F H F' H') : ∀ {v : List (Key × V)} {t : List (Str × T)}, Rpk F H v t -> Rpk F' H' v t
 | _, _, .nil => .nil
 | _, _, .cons h r => .cons (Rp.keep k h) (Rpk.keep k r)
theorem Rpf.keep {F F' : Addr -> Prop} {H H' : Hp} (k : Keep F H F' H') : ∀ {v : List (Str × V)} {t : List (Str × T)}, Rpf F H v t -> Rpf F' H' v t
 | _, _, .nil => .nil
 | _, _, .cons h r => .cons (Rp.keep k h) (Rpf.keep k r)
end
inductive Rp1 (F : Addr -> Prop) (H : Hp) : Addr -> T -> Prop
 | lst {a : Addr} {xs : List V} {ts : List T} (h : H a = some (.lst xs)) (r : Rps F H xs ts) : Rp1 F H a (.lst ts)
 | dct {a : Addr} {kvs : List (Key × V)} {kts : List (Str × T)} (h : H a = some (.dK kvs)) (r : Rpk F H kvs kts) : Rp1 F H a (.dct kts)
 | ins {a C dx : Addr} {fs : List (Str × V)} {fts : List (Str × T)} (h : H a = some (.ins C dx fs)) (r : Rpf F H fs fts) : Rp1 F H a (.ins C fts)
theorem Rp1.there {F : Addr -> Prop} {H : Hp} {a : Addr} {t : T} (h : Rp1 F H a t) : ∃ o, H a = some o := by
 cases h <;> exact ⟨_, by assumption⟩
theorem Rp1.keep {F F' : Addr -> Prop} {H H' : Hp} {a : Addr} {t : T} (k : Keep F H F' H') (e : H' a = H a) (h : Rp1 F H a t) : Rp1 F' H' a t := by
 cases h with
 | lst h r => exact .lst (e.trans h) (r.keep k)
 | dct h r => exact .dct (e.trans h) (r.keep k)
 | ins h r => exact .ins (e.trans h) (r.keep k)
def isD : T -> Bool
 | .dct _ => true
 | _ => false
theorem Rp1.frozen {F : Addr -> Prop} {H : Hp} {a : Addr} {t : T} (f : F a) (h : Rp1 F H a t) (nd : isD t = false) : Rp F H (.ref a) t := by
 cases h with
 | lst h r => exact .lst f h r
 | dct h r => cases nd
 | ins h r => exact .ins f h r
inductive Rb (F : Addr -> Prop) (H : Hp) : V -> T -> Prop
 | v {v : V} {t : T} (h : Rp F H v t) : Rb F H v t
 | o {a : Addr} {t : T} (h : Rp1 F H a t) : Rb F H (.ref a) t
abbrev Rbs (F : Addr -> Prop) (H : Hp) : List V -> List T -> Prop := Paired (Rb F H)
section
variable {F : Addr -> Prop} {H : Hp} {v : V}
theorem Rb.int_ {i : Int} (h : Rb F H v (.int i)) : v = .int i := by
 cases h with
 | v h => cases h; rfl
 | o h => cases h
theorem Rb.bl_ {i : Bool} (h : Rb F H v (.bl i)) : v = .bl i := by
 cases h with
 | v h => cases h; rfl
 | o h => cases h
theorem Rb.str_ {i : Str} (h : Rb F H v (.str i)) : v = .str i := by
 cases h with
 | v h => cases h; rfl
 | o h => cases h
theorem Rb.non_ (h : Rb F H v .non) : v = .non := by
 cases h with
 | v h => cases h; rfl
 | o h => cases h
theorem Rb.tup_ {ts : List T} (h : Rb F H v (.tup ts)) : ∃ a xs, v = .ref a /\ H a = some (.tup xs) /\ Rps F H xs ts := by
 cases h with
 | v h => cases h with | tup h r => exact ⟨_, _, rfl, h, r⟩
 | o h => cases h
theorem Rb.lst_ {ts : List T} (h : Rb F H v (.lst ts)) : ∃ a xs, v = .ref a /\ H a = some (.lst xs) /\ Rps F H xs ts := by
 cases h with
 | v h => cases h with | lst f h r => exact ⟨_, _, rfl, h, r⟩
 | o h => cases h with | lst h r => exact ⟨_, _, rfl, h, r⟩
theorem Rb.scr_ {ns : List Int} (h : Rb F H v (.scr ns)) : ∃ a o, v = .ref a /\ H a = some (.frz o (.lst (ns.map V.int))) := by
 cases h with
 | v h => cases h with | scr f h => exact ⟨_, _, rfl, h⟩
 | o h => cases h
theorem Rb.dct_ {ts : List (Str × T)} (h : Rb F H v (.dct ts)) : ∃ a xs, v = .ref a /\ Rd H a (.dK xs) /\ Rpk F H xs ts := by
 cases h with
 | v h => cases h with | dct f h r => exact ⟨_, _, rfl, .inr ⟨_, h⟩, r⟩
 | o h => cases h with | dct h r => exact ⟨_, _, rfl, .inl h, r⟩
theorem Rb.ins_ {C : Addr} {ts : List (Str × T)} (h : Rb F H v (.ins C ts)) : ∃ a dx xs, v = .ref a /\ H a = some (.ins C dx xs) /\ Rpf F H xs ts := by
 cases h with
 | v h => cases h with | ins f h r => exact ⟨_, _, _, rfl, h, r⟩
 | o h => cases h with | ins h r => exact ⟨_, _, _, rfl, h, r⟩
end
section
variable {F : Addr -> Prop} {H : Hp}
theorem Rps.length : ∀ {xs : List V} {ts : List T}, Rps F H xs ts -> xs.length = ts.length
 | _, _, .nil => rfl
 | _, _, .cons _ r => by simp [Rps.length r]
theorem Rps.get : ∀ {xs : List V} {ts : List T} {i : Nat} {t : T}, Rps F H xs ts -> ts[i]? = some t -> ∃ x, xs[i]? = some x /\ Rp F H x t
 | _, _, _, _, .nil, e => by simp at e
 | _, _, 0, _, .cons h _, e => by simp at e; subst e; exact ⟨_, rfl, h⟩
 | _, _, i + 1, t, .cons _ r, e => by
  obtain ⟨x, h1, h2⟩ := Rps.get (i := i) (t := t) r (by simpa using e)
  exact ⟨x, by simpa using h1, h2⟩
theorem Rps.append : ∀ {xs ys : List V} {ts us : List T}, Rps F H xs ts -> Rps F H ys us -> Rps F H (xs ++ ys) (ts ++ us)
 | _, _, _, _, .nil, s => s
 | _, _, _, _, .cons h r, s => .cons h (Rps.append r s)
theorem Rps.take : ∀ {xs : List V} {ts : List T} (n : Nat), Rps F H xs ts -> Rps F H (xs.take n) (ts.take n)
 | _, _, 0, _ => .nil
 | _, _, _ + 1, .nil => .nil
 | _, _, n + 1, .cons h r => .cons h (Rps.take n r)
theorem Rps.drop : ∀ {xs : List V} {ts : List T} (n : Nat), Rps F H xs ts -> Rps F H (xs.drop n) (ts.drop n)
 | _, _, 0, r => r
 | _, _, _ + 1, .nil => .nil
 | _, _, n + 1, .cons _ r => Rps.drop n r
theorem Rps.set {x : V} {t : T} (h : Rp F H x t) : ∀ {xs : List V} {ts : List T} (i : Nat), Rps F H xs ts -> Rps F H (xs.set i x) (ts.set i t)
 | _, _, _, .nil => .nil
 | _, _, 0, .cons _ r => .cons h r
 | _, _, i + 1, .cons q r => .cons q (Rps.set h i r)
theorem Rps.two {xs : List V} {t u : T} (h : Rps F H xs [t, u]) : ∃ x y, xs = [x, y] /\ Rp F H x t /\ Rp F H y u := by
 cases h with | cons h r => cases r with | cons h' r => cases r; exact ⟨_, _, rfl, h, h'⟩
theorem Rbs.one {xs : List V} {t : T} (h : Rbs F H xs [t]) : ∃ x, xs = [x] /\ Rb F H x t := by
 cases h with | cons h r => cases r; exact ⟨_, rfl, h⟩
theorem Rbs.two {xs : List V} {t u : T} (h : Rbs F H xs [t, u]) : ∃ x y, xs = [x, y] /\ Rb F H x t /\ Rb F H y u := by
 cases h with | cons h r => cases r with | cons h' r => cases r; exact ⟨_, _, rfl, h, h'⟩
theorem Rpf.look : ∀ {fs : List (Str × V)} {ts : List (Str × T)} {f : Str} {t : T}, Rpf F H fs ts -> ts.lookup f = some t -> ∃ v, fs.lookup f = some v /\ Rp F H v t
 | _, _, _, _, .nil, e => by simp at e
 | _, _, f, t, .cons (k := k) h r, e => by
  rw [List.lookup_cons] at e
  rw [List.lookup_cons]
  cases q : f == k with
  | true => rw [q] at e; cases e; exact ⟨_, rfl, h⟩
  | false => rw [q] at e; exact Rpf.look r e
theorem Rpf.length : ∀ {xs : List (Str × V)} {ts : List (Str × T)}, Rpf F H xs ts -> xs.length = ts.length
 | _, _, .nil => rfl
 | _, _, .cons _ r => by simp [Rpf.length r]
theorem Rpk.length : ∀ {xs : List (Key × V)} {ts : List (Str × T)}, Rpk F H xs ts -> xs.length = ts.length
 | _, _, .nil => rfl
 | _, _, .cons _ r => by simp [Rpk.length r]
end
inductive Sl where
 | un | sh (t : T) | ow (t : T) | fix (v : V) (t : T)
abbrev En := List Sl
structure Fx where
 H₀ : Hp
 F₀ : Addr -> Prop
 me : Addr -> Prop := fun _ => True
 xk : Addr -> Hp -> Prop := fun _ _ => False
def isI : T -> Bool
 | .ins _ _ => true
 | _ => false
structure Rel (Y : Fx) (F : Addr -> Prop) (ε : En) (σ : St) (H : Hp) : Prop where
 len : ε.length = σ.length
 sh : ∀ (i : Nat) t, ε[i]? = some (.sh t) -> ∃ v, σ[i]? = some (some v) /\ Rp F H v t
 ow : ∀ (i : Nat) t, ε[i]? = some (.ow t) -> ∃ a, σ[i]? = some (some (.ref a)) /\ ¬ F a /\ Y.H₀ a = none /\ Rp1 F H a t
 inj : ∀ (i j : Nat) t u a, i ≠ j -> ε[i]? = some (.ow t) -> ε[j]? = some (.ow u) -> σ[i]? = some (some (.ref a)) -> σ[j]? = some (some (.ref a)) -> False
 same : ∀ b o, Y.H₀ b = some o -> H b = some o
 sub : ∀ a, Y.F₀ a -> F a
 new : ∀ a, F a -> Y.F₀ a \/ Y.H₀ a = none
 trk : ∀ a, F a -> ∃ o, H a = some o
 me : ∀ (i : Nat) t a, ε[i]? = some (.ow t) -> isI t = true -> σ[i]? = some (some (.ref a)) -> Y.me a
 fx : ∀ (i : Nat) v t, ε[i]? = some (.fix v t) -> σ[i]? = some (some v) /\ Rp F H v t
structure Mono (F : Addr -> Prop) (H : Hp) (F' : Addr -> Prop) (H' : Hp) : Prop where
 ext : ∀ b o, H b = some o -> H' b = some o
 sub : ∀ a, F a -> F' a
 new : ∀ a, F' a -> F a \/ H a = none
 trk : ∀ a, F' a -> ∃ o, H' a = some o
theorem Mono.keep {F F' : Addr -> Prop} {H H' : Hp} (m : Mono F H F' H') : Keep F H F' H' := ⟨m.sub, fun a o _ h => m.ext a o h, fun a xs h => m.ext a _ h⟩
theorem Mono.free {F F' : Addr -> Prop} {H H' : Hp} (m : Mono F H F' H') {a : Addr} (h : H' a = none) : H a = none := by
 cases q : H a with
 | none => rfl
 | some o => rw [m.ext a o q] at h; cases h
theorem Mono.trans {F F1 F2 : Addr -> Prop} {H H1 H2 : Hp} (a : Mono F H F1 H1) (b : Mono F1 H1 F2 H2) : Mono F H F2 H2 :=
 ⟨fun x o h => b.ext x o (a.ext x o h), fun x h => b.sub x (a.sub x h), fun x h => (b.new x h).elim (a.new x) fun z => .inr (a.free z), b.trk⟩
theorem Mono.refl {F : Addr -> Prop} {H : Hp} (t : ∀ a, F a -> ∃ o, H a = some o) : Mono F H F H := ⟨fun _ _ h => h, fun _ h => h, fun _ h => .inl h, t⟩
theorem Rel.refl {Y : Fx} {F : Addr -> Prop} {ε : En} {σ : St} {H : Hp} (r : Rel Y F ε σ H) : Mono F H F H := .refl r.trk
theorem Mono.laid {F : Addr -> Prop} {H : Hp} {p : Addr} {o : HO} (t : ∀ a, F a -> ∃ o, H a = some o) (hp : H p = none) : Mono F H F (upd H p o) := by
 have e : ∀ b u, H b = some u -> upd H p o b = some u := fun b u h => by rw [ao0 (au0 h hp)]; exact h
 exact ⟨e, fun _ h => h, fun _ h => .inl h, fun a h => let ⟨u, q⟩ := t a h; ⟨u, e a u q⟩⟩
theorem Mono.freeze {F F' : Addr -> Prop} {H H' : Hp} {a : Addr} (m : Mono F H F' H') (n : H a = none) (t : ∃ o, H' a = some o) : Mono F H (fun b => F' b \/ b = a) H' :=
 ⟨m.ext, fun x h => .inl (m.sub x h), fun x h => h.elim (m.new x) fun e => .inr (e ▸ n), fun x h => h.elim (m.trk x) fun e => e ▸ t⟩
theorem Keep.freeze {F : Addr -> Prop} {H : Hp} {a : Addr} : Keep F H (fun b => F b \/ b = a) H := ⟨fun _ h => .inl h, fun _ _ _ h => h, fun _ _ h => h⟩
theorem Rb.keep {F F' : Addr -> Prop} {H H' : Hp} (m : Mono F H F' H') {v : V} {t : T} (h : Rb F H v t) : Rb F' H' v t := by
 cases h with
 | v h => exact .v (h.keep m.keep)
 | o h =>
  obtain ⟨o, q⟩ := h.there
  exact .o (h.keep m.keep ((m.ext _ o q).trans q.symm))
theorem Rel.mono {Y : Fx} {F F' : Addr -> Prop} {ε : En} {σ : St} {H H' : Hp} (r : Rel Y F ε σ H) (m : Mono F H F' H') : Rel Y F' ε σ H' where
 len := r.len
 sh := fun i t e => let ⟨v, h1, h2⟩ := r.sh i t e; ⟨v, h1, h2.keep m.keep⟩
 ow := fun i t e => by
  obtain ⟨a, h1, h2, h3, h4⟩ := r.ow i t e
  obtain ⟨o, q⟩ := h4.there
  refine ⟨a, h1, fun z => ?_, h3, h4.keep m.keep ((m.ext _ o q).trans q.symm)⟩
  rcases m.new a z with z | z
  ·exact h2 z
  ·rw [z] at q; cases q
 inj := r.inj
 same := fun b o h => m.ext b o (r.same b o h)
 sub := fun a h => m.sub a (r.sub a h)
 new := fun a h => by
  rcases m.new a h with z | z
  ·exact r.new a z
  ·refine .inr ?_
   cases q : Y.H₀ a with
   | none => rfl
   | some o => rw [r.same a o q] at z; cases z
 trk := m.trk
 me := r.me
 fx := fun i v t e => let ⟨h1, h2⟩ := r.fx i v t e; ⟨h1, h2.keep m.keep⟩
section
variable (Y : Fx)
def Tr (f : En -> Option T) : TE := fun σ H Q => ∃ F ε t, Rel Y F ε σ H /\ f ε = some t /\ ∀ F' v H', Mono F H F' H' -> Rp F' H' v t -> Q v H'
def TrB (f : En -> Option T) : TE := fun σ H Q => ∃ F ε t, Rel Y F ε σ H /\ f ε = some t /\ ∀ F' v H', Mono F H F' H' -> Rb F' H' v t -> Q v H'
def TrF (f : En -> Option T) : TE := fun σ H Q => ∃ F ε t, Rel Y F ε σ H /\ f ε = some t /\ ∀ F' a H', Mono F H F' H' -> H a = none -> ¬ F' a -> Rp1 F' H' a t -> Q (.ref a) H'
def TrT (f : En -> Option Bool) : TT := fun σ H Q => ∃ F ε b, Rel Y F ε σ H /\ f ε = some b /\ ∀ F' H', Mono F H F' H' -> Q b H'
def TrA (f : En -> Option (List T)) : TA := fun σ H Q => ∃ F ε ts, Rel Y F ε σ H /\ f ε = some ts /\ ∀ F' vs H', Mono F H F' H' -> Rps F' H' vs ts -> Q vs H'
def TrAB (f : En -> Option (List T)) : TA := fun σ H Q => ∃ F ε ts, Rel Y F ε σ H /\ f ε = some ts /\ ∀ F' vs H', Mono F H F' H' -> Rbs F' H' vs ts -> Q vs H'
end
abbrev SE (X : Cx) (Y : Fx) (e : Expr) (f : En -> Option T) : Prop := PE X e (Tr Y f)
abbrev BE (X : Cx) (Y : Fx) (e : Expr) (f : En -> Option T) : Prop := PE X e (TrB Y f)
abbrev FE (X : Cx) (Y : Fx) (e : Expr) (f : En -> Option T) : Prop := PE X e (TrF Y f)
abbrev QT (X : Cx) (Y : Fx) (e : Expr) (f : En -> Option Bool) : Prop := PT X e (TrT Y f)
abbrev QW (X : Cx) (Y : Fx) (e : Expr) (f : En -> Option Bool) : Prop := PW X e (TrT Y f)
abbrev SA (X : Cx) (Y : Fx) (es : List Expr) (f : En -> Option (List T)) : Prop := PA X es (TrA Y f)
abbrev BA (X : Cx) (Y : Fx) (es : List Expr) (f : En -> Option (List T)) : Prop := PA X es (TrAB Y f)
section
variable {X : Cx} {Y : Fx} {e a b : Expr} {pos : Pos} {f g : En -> Option T}
theorem PE.imp {t t' : TE} (h : PE X e t) (i : ∀ σ H Q, t' σ H Q -> t σ H Q) : PE X e t' := fun pins s σ H Q I q => h pins s σ H Q I (i σ H Q q)
theorem PT.imp {t t' : TT} (h : PT X e t) (i : ∀ σ H Q, t' σ H Q -> t σ H Q) : PT X e t' := fun pins s σ H Q I q => h pins s σ H Q I (i σ H Q q)
theorem PW.imp {t t' : TT} (h : PW X e t) (i : ∀ σ H Q, t' σ H Q -> t σ H Q) : PW X e t' := fun wh pins s σ H Q I q => h wh pins s σ H Q I (i σ H Q q)
theorem PA.imp {es : List Expr} {t t' : TA} (h : PA X es t) (i : ∀ σ H Q, t' σ H Q -> t σ H Q) : PA X es t' := fun p pins s σ H Q I q => h p pins s σ H Q I (i σ H Q q)
theorem PS.imp {st : Stmt} {t t' : TS} (h : PS X st t) (i : ∀ D σ H, t' D σ H -> t D σ H) : PS X st t' := fun pins s σ H D I q => h pins s σ H D I (i D σ H q)
theorem PSs.imp {st : List Stmt} {t t' : TS} (h : PSs X st t) (i : ∀ D σ H, t' D σ H -> t D σ H) : PSs X st t' := fun pins s σ H D I q => h pins s σ H D I (i D σ H q)
theorem af0 (h : SE X Y e f) : BE X Y e f := PE.imp h fun _ _ _ ⟨F, ε, t, r, hf, k⟩ => ⟨F, ε, t, r, hf, fun F' v H' m q => k F' v H' m (.v q)⟩
theorem _root_.L2.Inv.seal {X : Cx} {pins : List (Addr × Obj)} {σ : St} {H : Hp} {s : Shared} {a : Addr} {kvs : List (Key × V)} (I : Inv X pins σ H s) (h : H a = some (.dK kvs)) (h0 : X.H₀ a = none \/ True) (hn : ∀ o u, X.H₀ a ≠ some (.frz o u)) (ht : ∀ xs, X.H₀ a ≠ some (.tup xs)) (hb : ∀ ps, X.H₀ a ≠ some (.tbl ps)) :
  ∃ o, Inv X pins σ (upd H a (.frz o (.dK kvs))) s := by
 have ok := I.hok a _ h
 obtain ⟨_, _, _, _, ob, _, _, hob, _⟩ := id ok
 have hm : ∀ b u, H b = some u -> b ≠ a -> upd H a (.frz ob (.dK kvs)) b = some u := fun b u q ne => by rw [ao0 ne]; exact q
 have up : ∀ b u, H b = some u -> (∀ z, u ≠ .dK z) -> upd H a (.frz ob (.dK kvs)) b = some u := fun b u q ne => hm b u q fun z => by rw [z, h] at q; exact ne kvs (Option.some.inj q).symm
 have nn : ∀ b, H b = none -> upd H a (.frz ob (.dK kvs)) b = none := fun b q => by rw [ao0 (fun z => by rw [z, h] at q; cases q)]; exact q
 refine ⟨ob, ⟨I.ok, I.os, I.bare, ⟨I.base.keep, I.base.slot, fun b o e n hx => nn b (I.base.free b o e n hx), I.base.there, fun b xs e => up b _ (I.base.tups b xs e) (fun z w => by cases w), fun b o u e => ?_, fun b ps e => ?_⟩, I.loc, I.cell, nn _ I.free, fun x c e => nn c (I.freeC x c e), fun p hp => ?_, fun b u e => ?_, I.len⟩⟩
 ·refine up b _ (I.base.frzs b o u e) fun z w => by cases w
 ·obtain ⟨mo, q⟩ := I.base.tbls b ps e
  exact ⟨mo, up b _ q fun z w => by cases w⟩
 ·obtain ⟨h1, h2, h3⟩ := I.pin p hp
  exact ⟨h1, nn _ h2, h3⟩
 ·have st : ∀ {c : Addr} {v : HO}, ObjOk X.prog X.w H s.heap c v -> ObjOk X.prog X.w (upd H a (.frz ob (.dK kvs))) s.heap c v := fun x => x.stay (fun _ _ _ q => q) (fun c q => up c _ q fun z w => by cases w) fun c xs q => up c _ q fun z w => by cases w
  by_cases hba : b = a
  ·subst hba
   rw [aq0] at e
   cases e
   exact ⟨hob, st ok⟩
  ·rw [ao0 hba] at e
   exact st (I.hok b u e)
theorem aL0 (h : FE X Y e f) : SE X Y e f := by
 intro pins s σ H Q I ⟨F, ε, t, r, hf, k⟩
 refine thn (h pins s σ H (fun v H' => ∃ F' a, v = .ref a /\ Mono F H F' H' /\ H a = none /\ ¬ F' a /\ Rp1 F' H' a t) I ⟨F, ε, t, r, hf, fun F' a H' m n nf q => ⟨F', a, rfl, m, n, nf, q⟩⟩) fun u s1 ⟨v, H1, I1, rv, F1, a, ev, m, n, nf, q⟩ => ?_
 subst ev
 by_cases hd : isD t = true
 ·cases t with
  | dct kts =>
   cases q with
   | dct ha rs =>
    rename_i kvs
    have z1 : ∀ o u, X.H₀ a ≠ some (.frz o u) := fun o u z => by have := I.base.frzs a o u z; rw [n] at this; cases this
    have z2 : ∀ xs, X.H₀ a ≠ some (.tup xs) := fun xs z => by have := I.base.tups a xs z; rw [n] at this; cases this
    have z3 : ∀ ps, X.H₀ a ≠ some (.tbl ps) := fun ps z => by obtain ⟨mo, w⟩ := I.base.tbls a ps z; rw [n] at w; cases w
    obtain ⟨ob, I2⟩ := I1.seal ha (.inr trivial) z1 z2 z3
    have kp : Keep F1 H1 (fun b => F1 b \/ b = a) (upd H1 a (.frz ob (.dK kvs))) := ⟨fun _ h => .inl h, fun b u f q => by rw [ao0 (fun (z : b = a) => nf (z ▸ f))]; exact q, fun b xs q => by rw [ao0 (fun (z : b = a) => by rw [z, ha] at q; cases q)]; exact q⟩
    have m2 : Mono F H (fun b => F1 b \/ b = a) (upd H1 a (.frz ob (.dK kvs))) := ⟨fun b u q => by rw [ao0 (au0 q n)]; exact m.ext b u q, fun b q => .inl (m.sub b q), fun b q => q.elim (m.new b) fun z => .inr (z ▸ n), fun b q => by
     by_cases z : b = a
     ·exact ⟨_, by rw [z]; exact aq0⟩
     ·rcases q with q | q
      ·obtain ⟨u, w⟩ := m.trk b q
       exact ⟨u, by rw [ao0 z]; exact w⟩
      ·exact absurd q z⟩
    exact ⟨.ref a, _, I2, rv, k _ _ _ m2 (.dct (.inr rfl) aq0 (rs.keep kp))⟩
  | _ => cases hd
 ·exact ⟨.ref a, H1, I1, rv, k _ _ _ (m.freeze n q.there) ((q.keep Keep.freeze rfl).frozen (.inr rfl) (by simpa using hd))⟩
theorem bG0 (h : FE X Y e f) : BE X Y e f := af0 (aL0 h)
def eVar (i : Nat) : En -> Option T := fun ε => match ε[i]? with | some (.sh t) => some t | some (.fix _ t) => some t | _ => none
def bVar (i : Nat) : En -> Option T := fun ε => match ε[i]? with | some (.sh t) => some t | some (.ow t) => some t | some (.fix _ t) => some t | _ => none
def eC (t : T) : En -> Option T := fun _ => some t
theorem an0 {i : Nat} {x : Str} (h : PE X (.Name x pos) (tVar i)) : SE X Y (.Name x pos) (eVar i) := PE.imp h fun σ H Q ⟨F, ε, t, r, hf, k⟩ => by
 unfold eVar at hf
 split at hf
 ·cases hf
  obtain ⟨v, h1, h2⟩ := r.sh i t (by assumption)
  exact ⟨v, h1, k F v H r.refl h2⟩
 ·cases hf
  obtain ⟨h1, h2⟩ := r.fx i _ _ (by assumption)
  exact ⟨_, h1, k F _ H r.refl h2⟩
 ·cases hf
theorem ad0 {i : Nat} {x : Str} (h : PE X (.Name x pos) (tVar i)) : BE X Y (.Name x pos) (bVar i) := PE.imp h fun σ H Q ⟨F, ε, t, r, hf, k⟩ => by
 unfold bVar at hf
 split at hf
 ·cases hf
  obtain ⟨v, h1, h2⟩ := r.sh i t (by assumption)
  exact ⟨v, h1, k F v H r.refl (.v h2)⟩
 ·cases hf
  obtain ⟨a, h1, _, _, h2⟩ := r.ow i t (by assumption)
  exact ⟨_, h1, k F _ H r.refl (.o h2)⟩
 ·cases hf
  obtain ⟨h1, h2⟩ := r.fx i _ _ (by assumption)
  exact ⟨_, h1, k F _ H r.refl (.v h2)⟩
 ·cases hf
theorem iS0 {v : V} {t : T} (h : PE X e (tC v)) (r : ∀ F H, Rp F H v t) : SE X Y e (eC t) := PE.imp h fun σ H Q ⟨F, ε, u, rl, hf, k⟩ => by
 cases hf
 exact k F v H rl.refl (r F H)
theorem ac0 {i : Int} {j : Nat} : SE X Y (.Constant (.int i) j pos) (eC (.int i)) := iS0 nU0 fun _ _ => .int i
theorem gA0 {i : Bool} {j : Nat} : SE X Y (.Constant (.bool i) j pos) (eC (.bl i)) := iS0 pe_bl fun _ _ => .bl i
theorem aC0 {i : Str} {j : Nat} : SE X Y (.Constant (.str i) j pos) (eC (.str i)) := iS0 jj0 fun _ _ => .str i
theorem nw0 {j : Nat} : SE X Y (.Constant .none j pos) (eC .non) := iS0 nt0 fun _ _ => .non
def e1 (φ : T -> Option T) (f : En -> Option T) : En -> Option T := fun ε => (f ε).bind φ
def e2 (φ : T -> T -> Option T) (f g : En -> Option T) : En -> Option T := fun ε => (f ε).bind fun s => (g ε).bind fun t => φ s t
def Op2 (r : R2) (φ : T -> T -> Option T) : Prop := ∀ F H x y s t u Q, (∀ a, F a -> ∃ o, H a = some o) -> Rb F H x s -> Rb F H y t -> φ s t = some u -> (∀ F' v H', Mono F H F' H' -> Rp F' H' v u -> Q v H') -> r x y H Q
theorem mh0 {r : R2} {φ : T -> T -> Option T} (o : Op2 r φ) (σ : St) (H : Hp) (Q : VK) (h : Tr Y (e2 φ f g) σ H Q) : tOp r (TrB Y f) (TrB Y g) σ H Q := by
 obtain ⟨F, ε, u, rl, hf, k⟩ := h
 unfold e2 at hf
 cases q1 : f ε with
 | none => rw [q1] at hf; cases hf
 | some s =>
  rw [q1] at hf
  cases q2 : g ε with
  | none => simp only [Option.bind_some, q2] at hf; cases hf
  | some t =>
   simp only [Option.bind_some, q2] at hf
   refine ⟨F, ε, s, rl, q1, fun F1 x H1 m1 r1 => ⟨F1, ε, t, rl.mono m1, q2, fun F2 y H2 m2 r2 => ?_⟩⟩
   exact o F2 H2 x y s t u Q m2.trk (r1.keep m2) r2 hf fun F3 v H3 m3 r3 => k F3 v H3 ((m1.trans m2).trans m3) r3
theorem gv0 {op : Operator} {r : R2} {φ : T -> T -> Option T} (ho : OpR X (binaryOp op) r) (o : Op2 r φ) (ha : BE X Y a f) (hb : BE X Y b g) : SE X Y (.BinOp a op b pos) (e2 φ f g) := PE.imp (pe_op ho ha hb) (mh0 o)
def qB (f : En -> Option T) : En -> Option Bool := fun ε => match f ε with | some (.bl b) => some b | _ => none
theorem gu0 {te : TE} (h : ∀ σ H Q, Tr Y f σ H Q -> te σ H Q) (σ : St) (H : Hp) (Q : Bool -> Hp -> Prop) (q : TrT Y (qB f) σ H Q) : mz0 te σ H Q := by
 obtain ⟨F, ε, b, rl, hf, k⟩ := q
 unfold qB at hf
 split at hf
 ·cases hf
  refine h σ H _ ⟨F, ε, .bl b, rl, by assumption, fun F' v H' m r => ⟨b, (Rb.v r).bl_, k F' H' m⟩⟩
 ·cases hf
theorem dS0 {op : CmpOp} {r : R2} {φ : T -> T -> Option T} (ho : OpR X (compareOp op) r) (o : Op2 r φ) (ha : BE X Y a f) (hb : BE X Y b g) (hm : behindInMarks op b = false) : QT X Y (.Compare a [op] [b] pos) (qB (e2 φ f g)) := PT.imp (lX0 ho ha hb hm) (gu0 (mh0 o))
theorem cp0 (h : SE X Y e f) (he : ∀ whole, isTrue e X.env whole = (do let v <- whole; standAt e.pos; holding [v] (truthy v)) := by intro _; rfl) : QT X Y e (qB f) := PT.imp (nX0 h he) (gu0 fun _ _ _ z => z)
def qNot (f : En -> Option Bool) : En -> Option Bool := fun ε => (f ε).map (!·)
def qAnd (f g : En -> Option Bool) : En -> Option Bool := fun ε => (f ε).bind fun b => if b = true then g ε else some false
def qOr (f g : En -> Option Bool) : En -> Option Bool := fun ε => (f ε).bind fun b => if b = true then some true else g ε
variable {p q : En -> Option Bool} {rest : List Expr}
theorem cu0 (h : QT X Y a p) : QT X Y (.UnaryOp .Not a pos) (qNot p) := PT.imp (nL0 h) fun σ H Q ⟨F, ε, b, rl, hf, k⟩ => by
 unfold qNot at hf
 cases e : p ε with
 | none => rw [e] at hf; cases hf
 | some c => rw [e] at hf; cases hf; exact ⟨F, ε, c, rl, e, k⟩
theorem gq0 (h : QT X Y a p) : QW X Y (.BoolOp .And [a] pos) p := lE0 h
theorem dw0 (h : QT X Y a p) : QW X Y (.BoolOp .Or [a] pos) p := nW0 h
theorem jk0 (h : QT X Y a p) (h2 : QW X Y (.BoolOp .And (b :: rest) pos) q) : QW X Y (.BoolOp .And (a :: b :: rest) pos) (qAnd p q) := PW.imp (nh0 h h2) fun σ H Q ⟨F, ε, c, rl, hf, k⟩ => by
 unfold qAnd at hf
 cases e : p ε with
 | none => rw [e] at hf; cases hf
 | some d =>
  rw [e] at hf
  refine ⟨F, ε, d, rl, e, fun F1 H1 m1 => ?_⟩
  cases d with
  | true => exact ⟨F1, ε, c, rl.mono m1, by simpa using hf, fun F2 H2 m2 => k F2 H2 (m1.trans m2)⟩
  | false => cases hf; exact k F1 H1 m1
theorem fa0 (h : QT X Y a p) (h2 : QW X Y (.BoolOp .Or (b :: rest) pos) q) : QW X Y (.BoolOp .Or (a :: b :: rest) pos) (qOr p q) := PW.imp (pw_or h h2) fun σ H Q ⟨F, ε, c, rl, hf, k⟩ => by
 unfold qOr at hf
 cases e : p ε with
 | none => rw [e] at hf; cases hf
 | some d =>
  rw [e] at hf
  refine ⟨F, ε, d, rl, e, fun F1 H1 m1 => ?_⟩
  cases d with
  | true => cases hf; exact k F1 H1 m1
  | false => exact ⟨F1, ε, c, rl.mono m1, by simpa using hf, fun F2 H2 m2 => k F2 H2 (m1.trans m2)⟩
theorem qt_w (h : QW X Y e p) : QT X Y e p := h.pt
end
inductive Fl where
 | nx (ε : En) | rt (o : Bool) (t : T) | bk (ε : En) | ct (ε : En) | xc (C : Addr)
structure End (Y : Fx) (F : Addr -> Prop) (H : Hp) : Prop where
 same : ∀ b o, Y.H₀ b = some o -> H b = some o
 sub : ∀ a, Y.F₀ a -> F a
 new : ∀ a, F a -> Y.F₀ a \/ Y.H₀ a = none
 trk : ∀ a, F a -> ∃ o, H a = some o
theorem Rel.fin {Y : Fx} {F : Addr -> Prop} {ε : En} {σ : St} {H : Hp} (r : Rel Y F ε σ H) : End Y F H := ⟨r.same, r.sub, r.new, r.trk⟩
def Res (Y : Fx) (o : Bool) (F : Addr -> Prop) (H : Hp) (v : V) (t : T) : Prop :=
 if o = true then ∃ a, v = .ref a /\ ¬ F a /\ Y.H₀ a = none /\ Rp1 F H a t else Rp F H v t
def Post (Y : Fx) (D : Ends) (F : Addr -> Prop) (H : Hp) : Fl -> Prop
 | .nx ε => ∀ F' σ' H', Keep F H F' H' -> Rel Y F' ε σ' H' -> D.nx σ' H'
 | .rt o t => ∀ F' v H', End Y F' H' -> Res Y o F' H' v t -> D.rt v H'
 | .bk ε => ∀ F' σ' H', Keep F H F' H' -> Rel Y F' ε σ' H' -> D.bk σ' H'
 | .ct ε => ∀ F' σ' H', Keep F H F' H' -> Rel Y F' ε σ' H' -> D.ct σ' H'
 | .xc C => ∀ F' H', End Y F' H' -> Y.xk C H'
theorem Post.keep {Y : Fx} {D : Ends} {F F1 : Addr -> Prop} {H H1 : Hp} {fl : Fl} (k : Keep F H F1 H1) (p : Post Y D F H fl) : Post Y D F1 H1 fl := by
 cases fl with
 | nx ε => exact fun F' σ' H' k' r => p F' σ' H' (k.trans k') r
 | rt o t => exact p
 | bk ε => exact fun F' σ' H' k' r => p F' σ' H' (k.trans k') r
 | ct ε => exact fun F' σ' H' k' r => p F' σ' H' (k.trans k') r
 | xc C => exact p
def TrS (Y : Fx) (g : En -> Option Fl) : TS := fun D σ H => ∃ F ε fl, Rel Y F ε σ H /\ g ε = some fl /\ Post Y D F H fl
abbrev SS (X : Cx) (Y : Fx) (st : Stmt) (g : En -> Option Fl) : Prop := PS X st (TrS Y g)
abbrev SSs (X : Cx) (Y : Fx) (st : List Stmt) (g : En -> Option Fl) : Prop := PSs X st (TrS Y g)
theorem aw0 {α : Type} {l : List α} {i j : Nat} {a b : α} (h : (l.set i a)[j]? = some b) : (j = i /\ i < l.length /\ b = a) \/ (j ≠ i /\ l[j]? = some b) := by
 rw [List.getElem?_set] at h
 by_cases e : i = j
 ·rw [if_pos e] at h
  by_cases h2 : i < l.length
  ·rw [if_pos h2] at h; exact .inl ⟨e.symm, h2, (Option.some.inj h).symm⟩
  ·rw [if_neg h2] at h; cases h
 ·rw [if_neg e] at h
  exact .inr ⟨fun z => e z.symm, h⟩
section
variable {Y : Fx} {F : Addr -> Prop} {ε : En} {σ : St} {H : Hp}
theorem Rel.set_sh (r : Rel Y F ε σ H) {i : Nat} {v : V} {t : T} (h : Rp F H v t) : Rel Y F (ε.set i (.sh t)) (σ.set i (some v)) H where
 len := by rw [List.length_set, List.length_set]; exact r.len
 sh := fun j u e => by
  rcases aw0 e with ⟨rfl, hl, e⟩ | ⟨ne, e⟩
  ·cases e; exact ⟨v, by rw [List.getElem?_set_self (by rw [<- r.len]; exact hl)], h⟩
  ·obtain ⟨v', h1, h2⟩ := r.sh j u e
   exact ⟨v', by rw [List.getElem?_set_ne (Ne.symm ne)]; exact h1, h2⟩
 ow := fun j u e => by
  rcases aw0 e with ⟨rfl, hl, e⟩ | ⟨ne, e⟩
  ·cases e
  ·obtain ⟨a, h1, h2⟩ := r.ow j u e
   exact ⟨a, by rw [List.getElem?_set_ne (Ne.symm ne)]; exact h1, h2⟩
 inj := fun j k u w a ne e1 e2 s1 s2 => by
  rcases aw0 e1 with ⟨rfl, hl, e⟩ | ⟨n1, e1⟩
  ·cases e
  rcases aw0 e2 with ⟨rfl, hl, e⟩ | ⟨n2, e2⟩
  ·cases e
  rw [List.getElem?_set_ne (Ne.symm n1)] at s1
  rw [List.getElem?_set_ne (Ne.symm n2)] at s2
  exact r.inj j k u w a ne e1 e2 s1 s2
 same := r.same
 sub := r.sub
 new := r.new
 trk := r.trk
 me := fun j u b e hi s1 => by
  rcases aw0 e with ⟨rfl, hl, e⟩ | ⟨ne, e⟩
  ·cases e
  ·rw [List.getElem?_set_ne (Ne.symm ne)] at s1
   exact r.me j u b e hi s1
 fx := fun j v' u e => by
  rcases aw0 e with ⟨rfl, hl, e⟩ | ⟨ne, e⟩
  ·cases e
  ·rw [List.getElem?_set_ne (Ne.symm ne)]
   exact r.fx j v' u e
theorem Rel.set_ow (r : Rel Y F ε σ H) {i : Nat} {a : Addr} {t : T} (nf : ¬ F a) (h0 : Y.H₀ a = none) (h : Rp1 F H a t) (hn : ∀ (j : Nat) u, ε[j]? = some (.ow u) -> σ[j]? ≠ some (some (.ref a))) (hm : isI t = false) : Rel Y F (ε.set i (.ow t)) (σ.set i (some (.ref a))) H where
 len := by rw [List.length_set, List.length_set]; exact r.len
 sh := fun j u e => by
  rcases aw0 e with ⟨rfl, hl, e⟩ | ⟨ne, e⟩
  ·cases e
  ·obtain ⟨v', h1, h2⟩ := r.sh j u e
   exact ⟨v', by rw [List.getElem?_set_ne (Ne.symm ne)]; exact h1, h2⟩
 ow := fun j u e => by
  rcases aw0 e with ⟨rfl, hl, e⟩ | ⟨ne, e⟩
  ·cases e; exact ⟨a, by rw [List.getElem?_set_self (by rw [<- r.len]; exact hl)], nf, h0, h⟩
  ·obtain ⟨a, h1, h2⟩ := r.ow j u e
   exact ⟨a, by rw [List.getElem?_set_ne (Ne.symm ne)]; exact h1, h2⟩
 inj := fun j k u w b ne e1 e2 s1 s2 => by
  rcases aw0 e1 with ⟨z1, hl, _⟩ | ⟨n1, q1⟩
  ·rcases aw0 e2 with ⟨z2, hl2, _⟩ | ⟨n2, q2⟩
   ·exact ne (z1.trans z2.symm)
   ·rw [z1, List.getElem?_set_self (by rw [<- r.len]; exact hl)] at s1
    cases s1
    rw [List.getElem?_set_ne (Ne.symm n2)] at s2
    exact hn k w q2 s2
  ·rcases aw0 e2 with ⟨z2, hl2, _⟩ | ⟨n2, q2⟩
   ·rw [z2, List.getElem?_set_self (by rw [<- r.len]; exact hl2)] at s2
    cases s2
    rw [List.getElem?_set_ne (Ne.symm n1)] at s1
    exact hn j u q1 s1
   ·rw [List.getElem?_set_ne (Ne.symm n1)] at s1
    rw [List.getElem?_set_ne (Ne.symm n2)] at s2
    exact r.inj j k u w b ne q1 q2 s1 s2
 same := r.same
 sub := r.sub
 new := r.new
 trk := r.trk
 me := fun j u b e hi s1 => by
  rcases aw0 e with ⟨rfl, hl, e⟩ | ⟨ne, e⟩
  ·cases e; rw [hm] at hi; cases hi
  ·rw [List.getElem?_set_ne (Ne.symm ne)] at s1
   exact r.me j u b e hi s1
 fx := fun j v' u e => by
  rcases aw0 e with ⟨rfl, hl, e⟩ | ⟨ne, e⟩
  ·cases e
  ·rw [List.getElem?_set_ne (Ne.symm ne)]
   exact r.fx j v' u e
theorem Rel.write (r : Rel Y F ε σ H) {i : Nat} {a : Addr} {t t' : T} {o : HO} (e : ε[i]? = some (.ow t)) (s : σ[i]? = some (some (.ref a))) (mu : ∀ xs, H a ≠ some (.tup xs)) (h : Rp1 F (upd H a o) a t') (hm : isI t' = true -> isI t = true := by exact fun z => nomatch z) :
  Rel Y F (ε.set i (.ow t')) σ (upd H a o) /\ Keep F H F (upd H a o) := by
 obtain ⟨a', s', nf, h0, hr⟩ := r.ow i t e
 rw [s] at s'
 cases s'
 have k : Keep F H F (upd H a o) := ⟨fun _ h => h, fun b u f q => by rw [ao0 (fun (z : b = a) => nf (z ▸ f))]; exact q, fun b xs q => by rw [ao0 (fun (z : b = a) => mu xs (z ▸ q))]; exact q⟩
 have hil : i < ε.length := (List.getElem?_eq_some_iff.mp e).1
 refine ⟨⟨by rw [List.length_set]; exact r.len, fun j u q => ?_, fun j u q => ?_, fun j k' u w b ne e1 e2 s1 s2 => ?_, fun b u q => ?_, r.sub, r.new, fun b f => ?_, fun j u b q hi s1 => ?_, fun j v' u q => ?_⟩, k⟩
 ·rcases aw0 q with ⟨rfl, hl, q⟩ | ⟨ne, q⟩
  ·cases q
  ·obtain ⟨v', h1, h2⟩ := r.sh j u q
   exact ⟨v', h1, h2.keep k⟩
 ·rcases aw0 q with ⟨rfl, hl, q⟩ | ⟨ne, q⟩
  ·cases q; exact ⟨a, s, nf, h0, h⟩
  ·obtain ⟨b, h1, h2, h3, h4⟩ := r.ow j u q
   have nba : b ≠ a := fun z => r.inj j i u t a ne q e (z ▸ h1) s
   exact ⟨b, h1, h2, h3, h4.keep k (ao0 nba)⟩
 ·rcases aw0 e1 with ⟨rfl, hl, q⟩ | ⟨n1, q1⟩
  ·rcases aw0 e2 with ⟨rfl, hl2, q2⟩ | ⟨n2, q2⟩
   ·exact ne rfl
   ·exact r.inj _ k' t w b ne e q2 s1 s2
  ·rcases aw0 e2 with ⟨rfl, hl2, q2⟩ | ⟨n2, q2⟩
   ·exact r.inj j _ u t b ne q1 e s1 s2
   ·exact r.inj j k' u w b ne q1 q2 s1 s2
 ·rw [ao0 (fun z => by rw [z, h0] at q; cases q)]
  exact r.same b u q
 ·obtain ⟨u, q⟩ := r.trk b f
  exact ⟨u, by rw [ao0 (fun (z : b = a) => nf (z ▸ f))]; exact q⟩
 ·rcases aw0 q with ⟨rfl, hl, q⟩ | ⟨ne, q⟩
  ·cases q; exact r.me _ t b e (hm hi) s1
  ·exact r.me j u b q hi s1
 ·rcases aw0 q with ⟨rfl, hl, q⟩ | ⟨ne, q⟩
  ·cases q
  ·obtain ⟨h1, h2⟩ := r.fx j v' u q
   exact ⟨h1, h2.keep k⟩
def frz (i : Nat) (ε : En) : En := match ε[i]? with | some (.ow t) => if isD t then ε else ε.set i (.sh t) | _ => ε
theorem Rel.freeze (r : Rel Y F ε σ H) (i : Nat) : ∃ F', Rel Y F' (frz i ε) σ H /\ Keep F H F' H := by
 unfold frz
 split
 ·rename_i t e
  split
  ·exact ⟨F, r, Keep.refl⟩
  rename_i nd
  obtain ⟨a, s, nf, h0, hr⟩ := r.ow i t e
  have k : Keep F H (fun b => F b \/ b = a) H := Keep.freeze
  refine ⟨fun b => F b \/ b = a, ⟨by rw [List.length_set]; exact r.len, fun j u q => ?_, fun j u q => ?_, fun j k' u w b ne e1 e2 s1 s2 => ?_, r.same, fun b f => .inl (r.sub b f), fun b f => ?_, fun b f => ?_, fun j u b q hi s1 => ?_, fun j v' u q => ?_⟩, k⟩
  ·rcases aw0 q with ⟨rfl, hl, q⟩ | ⟨ne, q⟩
   ·cases q; exact ⟨_, s, (hr.keep k rfl).frozen (.inr rfl) (by simpa using nd)⟩
   ·obtain ⟨v', h1, h2⟩ := r.sh j u q
    exact ⟨v', h1, h2.keep k⟩
  ·rcases aw0 q with ⟨rfl, hl, q⟩ | ⟨ne, q⟩
   ·cases q
   ·obtain ⟨b, h1, h2, h3, h4⟩ := r.ow j u q
    refine ⟨b, h1, fun z => z.elim h2 fun z => r.inj j i u t a ne q e (z ▸ h1) s, h3, h4.keep k rfl⟩
  ·rcases aw0 e1 with ⟨rfl, hl, q⟩ | ⟨n1, q1⟩
   ·cases q
   ·rcases aw0 e2 with ⟨rfl, hl2, q2⟩ | ⟨n2, q2⟩
    ·cases q2
    ·exact r.inj j k' u w b ne q1 q2 s1 s2
  ·exact f.elim (r.new b) fun z => .inr (z ▸ h0)
  ·rcases f with f | f
   ·exact r.trk b f
   ·rw [f]; exact hr.there
  ·rcases aw0 q with ⟨rfl, hl, q⟩ | ⟨ne, q⟩
   ·cases q
   ·exact r.me j u b q hi s1
  ·rcases aw0 q with ⟨rfl, hl, q⟩ | ⟨ne, q⟩
   ·cases q
   ·obtain ⟨h1, h2⟩ := r.fx j v' u q
    exact ⟨h1, h2.keep k⟩
 ·exact ⟨F, r, Keep.refl⟩
end
section
variable {X : Cx} {Y : Fx} {st : Stmt} {rest : List Stmt} {e : Expr} {pos pos' : Pos} {f : En -> Option T} {g g2 : En -> Option Fl} {p : En -> Option Bool}
theorem cX0 (i : Nat) (h : SS X Y st g) : SS X Y st (fun ε => g (frz i ε)) := PS.imp h fun D σ H ⟨F, ε, fl, r, hg, k⟩ => by
 obtain ⟨F', r', kp⟩ := r.freeze i
 exact ⟨F', frz i ε, fl, r', hg, k.keep kp⟩
def sNx : En -> Option Fl := fun ε => some (.nx ε)
def sSeq (g g2 : En -> Option Fl) : En -> Option Fl := fun ε => (g ε).bind fun fl => match fl with | .nx ε' => g2 ε' | fl => some fl
theorem ax0 : SSs X Y [] sNx := PSs.imp lC0 fun D σ H ⟨F, ε, fl, r, hg, k⟩ => by cases hg; exact k F σ H Keep.refl r
theorem ae0 (h1 : SS X Y st g) (h2 : SSs X Y rest g2) : SSs X Y (st :: rest) (sSeq g g2) := PSs.imp (kP0 h1 h2) fun D σ H ⟨F, ε, fl, r, hg, k⟩ => by
 unfold sSeq at hg
 cases q : g ε with
 | none => rw [q] at hg; cases hg
 | some fl1 =>
  rw [q] at hg
  refine ⟨F, ε, fl1, r, q, ?_⟩
  cases fl1 with
  | nx ε' => exact fun F' σ' H' kp r' => ⟨F', ε', fl, r', hg, k.keep kp⟩
  | rt o t => cases hg; exact k
  | bk ε' => cases hg; exact k
  | ct ε' => cases hg; exact k
  | xc C => cases hg; exact k
theorem al0 (h1 : SS X Y st g) : SSs X Y [st] g := lS0 h1
theorem nN0 {sts : List Stmt} : SSs X Y sts (fun _ => none) := PSs.imp iC0 fun D σ H ⟨F, ε, fl, r, hg, k⟩ => by cases hg
theorem ku0 : SS X Y st (fun _ => none) := PS.imp kO0 fun D σ H ⟨F, ε, fl, r, hg, k⟩ => by cases hg
def sIf (p : En -> Option Bool) (g g2 : En -> Option Fl) : En -> Option Fl := fun ε => (p ε).bind fun b => if b = true then g ε else g2 ε
theorem aS0 {c : Expr} {a b : List Stmt} (hc : QT X Y c p) (ha : SSs X Y a g) (hb : SSs X Y b g2) : SS X Y (.If c a b pos) (sIf p g g2) := PS.imp (ps_if hc ha hb) fun D σ H ⟨F, ε, fl, r, hg, k⟩ => by
 unfold sIf at hg
 cases q : p ε with
 | none => rw [q] at hg; cases hg
 | some d =>
  rw [q] at hg
  refine ⟨F, ε, d, r, q, fun F' H' m => ?_⟩
  cases d with
  | true => rw [if_pos rfl]; exact ⟨F', ε, fl, r.mono m, by simpa using hg, k.keep m.keep⟩
  | false => rw [if_neg Bool.false_ne_true]; exact ⟨F', ε, fl, r.mono m, by simpa using hg, k.keep m.keep⟩
def sSet (i : Nat) (f : En -> Option T) : En -> Option Fl := fun ε => (f ε).map fun t => .nx (ε.set i (.sh t))
def cw0 (i : Nat) (f : En -> Option T) : En -> Option Fl := fun ε => (f ε).bind fun t => if isI t = true then none else some (.nx (ε.set i (.ow t)))
theorem fK0 {te : TE} {i : Nat} (h : PS X st (tAsg te (ea0 i))) (ht : ∀ σ H Q, Tr Y f σ H Q -> te σ H Q) : SS X Y st (sSet i f) := PS.imp h fun D σ H ⟨F, ε, fl, r, hg, k⟩ => by
 unfold sSet at hg
 cases q : f ε with
 | none => rw [q] at hg; cases hg
 | some t =>
  rw [q] at hg; cases hg
  exact ht _ _ _ ⟨F, ε, t, r, q, fun F' v H' m rv => k F' _ H' m.keep ((r.mono m).set_sh rv)⟩
theorem hM0 {te : TE} {i : Nat} (h : PS X st (tAsg te (ea0 i))) (ht : ∀ σ H Q, TrF Y f σ H Q -> te σ H Q) : SS X Y st (cw0 i f) := PS.imp h fun D σ H ⟨F, ε, fl, r, hg, k⟩ => by
 unfold cw0 at hg
 cases q : f ε with
 | none => rw [q] at hg; cases hg
 | some t =>
  rw [q] at hg
  simp only [Option.bind_some] at hg
  split at hg
  ·cases hg
  rename_i hi
  cases hg
  refine ht _ _ _ ⟨F, ε, t, r, q, fun F' a H' m n nf rv => k F' _ H' m.keep ((r.mono m).set_ow nf ?_ rv (fun j u e z => ?_) (by simpa using hi))⟩
  ·cases q : Y.H₀ a with
   | none => rfl
   | some o => rw [r.same a o q] at n; cases n
  ·obtain ⟨b, h1, _, _, h2⟩ := r.ow j u e
   rw [h1] at z
   cases z
   obtain ⟨o, q⟩ := h2.there
   rw [q] at n; cases n
theorem aE0 {i : Nat} {x : Str} (hN : X.N.Nodup) (hi : X.N[i]? = some x) (hx : Loc X.env.scope x) (he : SE X Y e f) (hs : swapsWith e (some (.Name x pos')) pos.line X.env = pure false := by rfl)
  (hf : X.fn x = true \/ X.env.scope.names.lookup x = some .local := by first | exact .inl rfl | exact .inr rfl | assumption) : SS X Y (.Assign [.Name x pos'] e pos) (sSet i f) := fK0 (kY0 hN hi hx he hs hf) fun _ _ _ z => z
theorem cg0 {i : Nat} {x : Str} (hN : X.N.Nodup) (hi : X.N[i]? = some x) (hx : Loc X.env.scope x) (he : FE X Y e f) (hs : swapsWith e (some (.Name x pos')) pos.line X.env = pure false := by rfl)
  (hf : X.fn x = true \/ X.env.scope.names.lookup x = some .local := by first | exact .inl rfl | exact .inr rfl | assumption) : SS X Y (.Assign [.Name x pos'] e pos) (cw0 i f) := hM0 (kY0 hN hi hx he hs hf) fun _ _ _ z => z
def sRet (o : Bool) (f : En -> Option T) : En -> Option Fl := fun ε => (f ε).map fun t => .rt o t
theorem bz0 (he : SE X Y e f) : SS X Y (.Return (some e) pos) (sRet false f) := PS.imp (ii0 he) fun D σ H ⟨F, ε, fl, r, hg, k⟩ => by
 unfold sRet at hg
 cases q : f ε with
 | none => rw [q] at hg; cases hg
 | some t =>
  rw [q] at hg; cases hg
  exact ⟨F, ε, t, r, q, fun F' v H' m rv => k F' v H' (r.mono m).fin rv⟩
theorem gt0 (he : FE X Y e f) : SS X Y (.Return (some e) pos) (sRet true f) := PS.imp (ii0 he) fun D σ H ⟨F, ε, fl, r, hg, k⟩ => by
 unfold sRet at hg
 cases q : f ε with
 | none => rw [q] at hg; cases hg
 | some t =>
  rw [q] at hg; cases hg
  refine ⟨F, ε, t, r, q, fun F' a H' m n nf rv => k F' _ H' (r.mono m).fin ⟨a, rfl, nf, ?_, rv⟩⟩
  cases q : Y.H₀ a with
  | none => rfl
  | some o => rw [r.same a o q] at n; cases n
def jN0 (i : Nat) : En -> Option Fl := fun ε => match ε[i]? with | some (.ow t) => some (.rt true t) | _ => none
theorem mw0 {i : Nat} {x : Str} (h : PE X (.Name x pos') (tVar i)) : SS X Y (.Return (some (.Name x pos')) pos) (jN0 i) := PS.imp (ii0 h) fun D σ H ⟨F, ε, fl, r, hg, k⟩ => by
 unfold jN0 at hg
 split at hg
 ·cases hg
  obtain ⟨a, s, nf, h0, hr⟩ := r.ow i _ (by assumption)
  exact ⟨_, s, k F _ H r.fin ⟨a, rfl, nf, h0, hr⟩⟩
 ·cases hg
def sDrop (f : En -> Option T) : En -> Option Fl := fun ε => (f ε).map fun _ => .nx ε
end
end L2.BD
set_option Elab.async false
set_option linter.all false
set_option maxRecDepth 100000
set_option maxHeartbeats 4000000
namespace L2.BD
open PySem PySem.Spec PyProof.Rows
def aNil : En -> Option (List T) := fun _ => some []
def ab0 (f : En -> Option T) (g : En -> Option (List T)) : En -> Option (List T) := fun ε => (f ε).bind fun t => (g ε).bind fun ts => some (t :: ts)
section
variable {X : Cx} {Y : Fx} {e a b : Expr} {es : List Expr} {pos p : Pos} {f g : En -> Option T} {fa : En -> Option (List T)}
theorem aj0 : SA X Y [] aNil := PA.imp cN0 fun σ H Q ⟨F, ε, ts, r, hf, k⟩ => by cases hf; exact k F [] H r.refl .nil
theorem az0 : BA X Y [] aNil := PA.imp cN0 fun σ H Q ⟨F, ε, ts, r, hf, k⟩ => by cases hf; exact k F [] H r.refl .nil
theorem ez0 {ε : En} {ts : List T} (h : ab0 f fa ε = some ts) : ∃ t us, f ε = some t /\ fa ε = some us /\ ts = t :: us := by
 unfold ab0 at h
 cases q1 : f ε with
 | none => rw [q1] at h; cases h
 | some t =>
  rw [q1] at h
  cases q2 : fa ε with
  | none => simp only [Option.bind_some, q2] at h; cases h
  | some us => simp only [Option.bind_some, q2] at h; cases h; exact ⟨t, us, rfl, rfl, rfl⟩
theorem aa0 (ha : SE X Y e f) (hr : SA X Y es fa) (hs : starEach (e :: es) X.env = (false, eval e X.env) :: starEach es X.env := by rfl) : SA X Y (e :: es) (ab0 f fa) := PA.imp (bu0 ha hr hs) fun σ H Q ⟨F, ε, ts, r, hf, k⟩ => by
 obtain ⟨t, us, q1, q2, rfl⟩ := ez0 hf
 exact ⟨F, ε, t, r, q1, fun F1 x H1 m1 r1 => ⟨F1, ε, us, r.mono m1, q2, fun F2 xs H2 m2 r2 => k F2 (x :: xs) H2 (m1.trans m2) (.cons (r1.keep m2.keep) r2)⟩⟩
theorem ar0 (ha : BE X Y e f) (hr : BA X Y es fa) (hs : starEach (e :: es) X.env = (false, eval e X.env) :: starEach es X.env := by rfl) : BA X Y (e :: es) (ab0 f fa) := PA.imp (bu0 ha hr hs) fun σ H Q ⟨F, ε, ts, r, hf, k⟩ => by
 obtain ⟨t, us, q1, q2, rfl⟩ := ez0 hf
 exact ⟨F, ε, t, r, q1, fun F1 x H1 m1 r1 => ⟨F1, ε, us, r.mono m1, q2, fun F2 xs H2 m2 r2 => k F2 (x :: xs) H2 (m1.trans m2) (.cons (r1.keep m2) r2)⟩⟩
def av0 (φ : List T -> Option T) (g : En -> Option (List T)) : En -> Option T := fun ε => (g ε).bind φ
theorem ev0 {φ : List T -> Option T} {ε : En} {u : T} (h : av0 φ fa ε = some u) : ∃ ts, fa ε = some ts /\ φ ts = some u := by
 unfold av0 at h
 cases q : fa ε with
 | none => rw [q] at h; cases h
 | some ts => rw [q] at h; exact ⟨ts, rfl, h⟩
def Trk (F : Addr -> Prop) (H : Hp) : Prop := ∀ a, F a -> ∃ o, H a = some o
def OpN (r : List V -> Hp -> VK -> Prop) (φ : List T -> Option T) : Prop := ∀ F H xs ts u Q, Trk F H -> Rbs F H xs ts -> φ ts = some u -> (∀ F' v H', Mono F H F' H' -> Rp F' H' v u -> Q v H') -> r xs H Q
def OpNF (r : List V -> Hp -> VK -> Prop) (φ : List T -> Option T) : Prop := ∀ F H xs ts u Q, Trk F H -> Rbs F H xs ts -> φ ts = some u -> (∀ F' a H', Mono F H F' H' -> H a = none -> ¬ F' a -> Rp1 F' H' a u -> Q (.ref a) H') -> r xs H Q
theorem tr_cb {r : List V -> Hp -> VK -> Prop} {φ : List T -> Option T} (o : OpN r φ) (σ : St) (H : Hp) (Q : VK) (h : Tr Y (av0 φ fa) σ H Q) : tCB r (TrAB Y fa) σ H Q := by
 obtain ⟨F, ε, u, rl, hf, k⟩ := h
 obtain ⟨ts, q1, q2⟩ := ev0 hf
 exact ⟨F, ε, ts, rl, q1, fun F1 xs H1 m1 r1 => o F1 H1 xs ts u Q m1.trk r1 q2 fun F2 v H2 m2 r2 => k F2 v H2 (m1.trans m2) r2⟩
theorem nQ0 {r : List V -> Hp -> VK -> Prop} {φ : List T -> Option T} (o : OpNF r φ) (σ : St) (H : Hp) (Q : VK) (h : TrF Y (av0 φ fa) σ H Q) : tCB r (TrAB Y fa) σ H Q := by
 obtain ⟨F, ε, u, rl, hf, k⟩ := h
 obtain ⟨ts, q1, q2⟩ := ev0 hf
 exact ⟨F, ε, ts, rl, q1, fun F1 xs H1 m1 r1 => o F1 H1 xs ts u Q m1.trk r1 q2 fun F2 a H2 m2 n nf r2 => k F2 a H2 (m1.trans m2) (m1.free n) nf r2⟩
section
variable {x : Str} {id T' : String} {r : List V -> Hp -> VK -> Prop} {φ : List T -> Option T}
theorem dQ0 (hc : cM0 X (.builtin id) r) (o : OpN r φ) (hg : Gl X x) (hm : X.mg x = none) (hv : bootBuiltins x = some (.builtin id)) (ha : BA X Y (e :: es) fa) (hn : x ≠ "__name__" := by decide) (hdb : (x == ("__debug__" : Str)) = false := by decide)
  (he : starEach (e :: es) X.env = (false, eval e X.env) :: starEach es X.env := by rfl) (hpl : (backTo pos (starEach es X.env)).any (·.1) = false := by rfl) : SE X Y (.Call (.Name x p) (e :: es) [] pos) (av0 φ fa) := PE.imp (di0 hc hg hm hv ha hn hdb he hpl) (tr_cb o)
theorem fz0 (hc : cM0 X (.type T') r) (o : OpN r φ) (hg : Gl X x) (hm : X.mg x = none) (hv : bootBuiltins x = some (.type T')) (ha : BA X Y (e :: es) fa) (hn : x ≠ "__name__" := by decide) (hdb : (x == ("__debug__" : Str)) = false := by decide)
  (he : starEach (e :: es) X.env = (false, eval e X.env) :: starEach es X.env := by rfl) (hpl : (backTo pos (starEach es X.env)).any (·.1) = false := by rfl) : SE X Y (.Call (.Name x p) (e :: es) [] pos) (av0 φ fa) := PE.imp (fu0 hc hg hm hv ha hn hdb he hpl) (tr_cb o)
theorem fF0 (hc : cM0 X (.type T') r) (o : OpNF r φ) (hg : Gl X x) (hm : X.mg x = none) (hv : bootBuiltins x = some (.type T')) (ha : BA X Y (e :: es) fa) (hn : x ≠ "__name__" := by decide) (hdb : (x == ("__debug__" : Str)) = false := by decide)
  (he : starEach (e :: es) X.env = (false, eval e X.env) :: starEach es X.env := by rfl) (hpl : (backTo pos (starEach es X.env)).any (·.1) = false := by rfl) : FE X Y (.Call (.Name x p) (e :: es) [] pos) (av0 φ fa) := PE.imp (fu0 hc hg hm hv ha hn hdb he hpl) (nQ0 o)
end
theorem Rps.laid {F : Addr -> Prop} {H : Hp} {p : Addr} {o : HO} {xs : List V} {ts : List T} (hp : H p = none) (h : Rps F H xs ts) (t : Trk F H) : Rps F (upd H p o) xs ts := h.keep (Mono.laid t hp).keep
theorem Trk.new {F : Addr -> Prop} {H : Hp} {p : Addr} (t : Trk F H) (hp : H p = none) : ¬ F p := fun f => by
 obtain ⟨o, q⟩ := t p f
 rw [q] at hp; cases hp
def big : Nat := 1000000
theorem es0 {n : Nat} (h : n <= big) : n <= sizeLine := Nat.le_trans h (by decide)
theorem hj0 {n : Nat} (h : n < big) : n < sizeLine := Nat.lt_of_lt_of_le h (by decide)
def eTup (g : En -> Option (List T)) : En -> Option T := fun ε => (g ε).bind fun ts => if ts.length <= big then some (.tup ts) else none
def eLst (g : En -> Option (List T)) : En -> Option T := fun ε => (g ε).bind fun ts => if ts.length <= big then some (.lst ts) else none
theorem bA0 {x1 : Nat} (h : SA X Y es fa) : SE X Y (.Tuple es x1 pos) (eTup fa) := PE.imp (ni0 h) fun σ H Q ⟨F, ε, u, rl, hf, k⟩ => by
 unfold eTup at hf
 cases q : fa ε with
 | none => rw [q] at hf; cases hf
 | some ts =>
  rw [q] at hf
  simp only [Option.bind_some] at hf
  split at hf
  ·cases hf
   refine ⟨F, ε, ts, rl, q, fun F1 xs H1 m1 r1 => ⟨es0 (by rw [r1.length]; assumption), fun pp hp => ?_⟩⟩
   exact k F1 _ _ (m1.trans (Mono.laid m1.trk hp)) (.tup aq0 (r1.laid hp m1.trk))
  ·cases hf
theorem aB0 (h : SA X Y es fa) : FE X Y (.List es pos) (eLst fa) := PE.imp (nx0 h) fun σ H Q ⟨F, ε, u, rl, hf, k⟩ => by
 unfold eLst at hf
 cases q : fa ε with
 | none => rw [q] at hf; cases hf
 | some ts =>
  rw [q] at hf
  simp only [Option.bind_some] at hf
  split at hf
  ·cases hf
   refine ⟨F, ε, ts, rl, q, fun F1 xs H1 m1 r1 => ⟨es0 (by rw [r1.length]; assumption), fun pp hp => ?_⟩⟩
   exact k F1 _ _ (m1.trans (Mono.laid m1.trk hp)) (m1.free hp) (Trk.new m1.trk hp) (.lst aq0 (r1.laid hp m1.trk))
  ·cases hf
def km0 : En -> Option T := fun _ => some (.dct [])
theorem gF0 : FE X Y (.Dict [] [] pos) km0 := PE.imp kB0 fun σ H Q ⟨F, ε, u, rl, hf, k⟩ => by
 cases hf
 intro pp hp
 exact k F _ _ (Mono.laid rl.trk hp) hp (Trk.new rl.trk hp) (.dct aq0 .nil)
end
def φAdd : T -> T -> Option T | .int i, .int j => some (.int (i + j)) | _, _ => none
def φSub : T -> T -> Option T | .int i, .int j => some (.int (i - j)) | _, _ => none
def φMul : T -> T -> Option T | .int i, .int j => if -(2 ^ 64) < j /\ j < 2 ^ 64 then some (.int (i * j)) else none | _, _ => none
def φMod : T -> T -> Option T | .int i, .int j => if 0 < j then some (.int (i % j)) else none | _, _ => none
def φDiv : T -> T -> Option T | .int i, .int j => if 0 < j /\ j < 1073741824 then some (.int (i / j)) else none | _, _ => none
def φLt : T -> T -> Option T | .int i, .int j => some (.bl (decide (i < j))) | _, _ => none
def φLe : T -> T -> Option T | .int i, .int j => some (.bl (decide (i <= j))) | _, _ => none
def φGt : T -> T -> Option T | .int i, .int j => some (.bl (decide (j < i))) | _, _ => none
def φGe : T -> T -> Option T | .int i, .int j => some (.bl (decide (j <= i))) | _, _ => none
def φLen : List T -> Option T
 | [.lst ts] => some (.int ts.length)
 | [.tup ts] => some (.int ts.length)
 | [.str x] => if x.length <= big then some (.int x.length) else none
 | [.scr ns] => some (.int ns.length)
 | _ => none
def bw0 : List T -> Option T
 | [.lst ts] => some (.tup ts)
 | [.tup ts] => some (.tup ts)
 | _ => none
def cU0 : List T -> Option T
 | [.lst ts] => some (.lst ts)
 | [.tup ts] => some (.lst ts)
 | _ => none
def hI0 : List T -> Option T | [.int i, .int j] => some (.int (if j < i then j else i)) | _ => none
def hD0 : List T -> Option T | [.int i, .int j] => some (.int (if j > i then j else i)) | _ => none
def φIx : T -> T -> Option T
 | .lst ts, .int i => atI ts i
 | .tup ts, .int i => atI ts i
 | .scr ns, .int i => (atI ns i).map .int
 | _, _ => none
theorem mC0 {ns : List Int} {i z : Int} (h : L2.atI ns i = some z) : L2.atI (ns.map V.int) i = some (.int z) := by
 unfold L2.atI at h ⊢
 rw [List.length_map]
 obtain ⟨j, h1, h2⟩ := Option.bind_eq_some_iff.mp h
 rw [h1, Option.bind_some, List.getElem?_map, h2]
 rfl
theorem Rps.atI {F : Addr -> Prop} {H : Hp} {xs : List V} {ts : List T} {i : Int} {t : T} (r : Rps F H xs ts) (h : L2.atI ts i = some t) : ∃ x, L2.atI xs i = some x /\ Rp F H x t := by
 unfold L2.atI at h ⊢
 rw [r.length]
 cases q : ixN ts.length i with
 | none => rw [q] at h; cases h
 | some j => rw [q] at h; exact r.get h
section
variable {X : Cx}
theorem o_add : Op2 (rI0 fun i j => .int (i + j)) φAdd := by
 intro F H x y s t u Q tk rx ry h k
 unfold φAdd at h
 split at h
 ·cases h; exact ⟨_, _, rx.int_, ry.int_, k F _ H (.refl tk) (.int _)⟩
 ·cases h
theorem o_sub : Op2 (rI0 fun i j => .int (i - j)) φSub := by
 intro F H x y s t u Q tk rx ry h k
 unfold φSub at h
 split at h
 ·cases h; exact ⟨_, _, rx.int_, ry.int_, k F _ H (.refl tk) (.int _)⟩
 ·cases h
theorem o_mul : Op2 (rI CMul fun i j => .int (i * j)) φMul := by
 intro F H x y s t u Q tk rx ry h k
 unfold φMul at h
 split at h
 ·split at h
  ·rename_i c
   cases h; exact ⟨_, _, rx.int_, ry.int_, .inr ⟨c.1, c.2⟩, k F _ H (.refl tk) (.int _)⟩
  ·cases h
 ·cases h
theorem o_mod : Op2 (rI (fun _ j => 0 < j) fun i j => .int (i % j)) φMod := by
 intro F H x y s t u Q tk rx ry h k
 unfold φMod at h
 split at h
 ·split at h
  ·cases h; exact ⟨_, _, rx.int_, ry.int_, by assumption, k F _ H (.refl tk) (.int _)⟩
  ·cases h
 ·cases h
theorem o_div : Op2 (rI CDiv fun i j => .int (i / j)) φDiv := by
 intro F H x y s t u Q tk rx ry h k
 unfold φDiv at h
 split at h
 ·split at h
  ·rename_i c
   cases h; exact ⟨_, _, rx.int_, ry.int_, ⟨c.1, c.2⟩, k F _ H (.refl tk) (.int _)⟩
  ·cases h
 ·cases h
theorem o_lt : Op2 (rI0 fun i j => .bl (decide (i < j))) φLt := by
 intro F H x y s t u Q tk rx ry h k
 unfold φLt at h
 split at h
 ·cases h; exact ⟨_, _, rx.int_, ry.int_, k F _ H (.refl tk) (.bl _)⟩
 ·cases h
theorem o_le : Op2 (rI0 fun i j => .bl (decide (i <= j))) φLe := by
 intro F H x y s t u Q tk rx ry h k
 unfold φLe at h
 split at h
 ·cases h; exact ⟨_, _, rx.int_, ry.int_, k F _ H (.refl tk) (.bl _)⟩
 ·cases h
theorem o_gt : Op2 (rI0 fun i j => .bl (decide (j < i))) φGt := by
 intro F H x y s t u Q tk rx ry h k
 unfold φGt at h
 split at h
 ·cases h; exact ⟨_, _, rx.int_, ry.int_, k F _ H (.refl tk) (.bl _)⟩
 ·cases h
theorem o_ge : Op2 (rI0 fun i j => .bl (decide (j <= i))) φGe := by
 intro F H x y s t u Q tk rx ry h k
 unfold φGe at h
 split at h
 ·cases h; exact ⟨_, _, rx.int_, ry.int_, k F _ H (.refl tk) (.bl _)⟩
 ·cases h
theorem o_len {K : PySem.W.Frag} : OpN (fun xs H Q => ∃ x n, xs = [x] /\ LenV K x H n /\ Q (.int n) H) φLen := by
 intro F H xs ts u Q tk r h k
 unfold φLen at h
 split at h
 ·obtain ⟨x, rfl, rx⟩ := Rbs.one r
  obtain ⟨a, ys, rfl, ha, ry⟩ := rx.lst_
  cases h
  exact ⟨_, _, rfl, .inl ⟨ys, SqL.of ha, rfl⟩, by rw [ry.length]; exact k F _ H (.refl tk) (.int _)⟩
 ·obtain ⟨x, rfl, rx⟩ := Rbs.one r
  obtain ⟨a, ys, rfl, ha, ry⟩ := rx.tup_
  cases h
  exact ⟨_, _, rfl, .inr ⟨ys, SqT.of ha, rfl⟩, by rw [ry.length]; exact k F _ H (.refl tk) (.int _)⟩
 ·obtain ⟨x, rfl, rx⟩ := Rbs.one r
  cases rx.str_
  split at h
  ·cases h
   exact ⟨_, _, rfl, ⟨es0 (by assumption), rfl⟩, k F _ H (.refl tk) (.int _)⟩
  ·cases h
 ·obtain ⟨x, rfl, rx⟩ := Rbs.one r
  obtain ⟨a, o, rfl, ha⟩ := rx.scr_
  cases h
  exact ⟨_, _, rfl, .inl ⟨_, .inl (.inr ⟨o, ha⟩), rfl⟩, by rw [List.length_map]; exact k F _ H (.refl tk) (.int _)⟩
 ·cases h
theorem ln0 {K : PySem.W.Frag} : OpN (fun xs H Q => ∃ p ys, xs = [.ref p] /\ ((SqL K H p ys /\ ∀ l, H l = none -> Q (.ref l) (upd H l (.tup ys))) \/ (SqT K H p ys /\ Q (.ref p) H))) bw0 := by
 intro F H xs ts u Q tk r h k
 unfold bw0 at h
 split at h
 ·obtain ⟨x, rfl, rx⟩ := Rbs.one r
  obtain ⟨a, ys, rfl, ha, ry⟩ := rx.lst_
  cases h
  exact ⟨_, _, rfl, .inl ⟨SqL.of ha, fun l hl => k F _ _ (Mono.laid tk hl) (.tup aq0 (ry.laid hl tk))⟩⟩
 ·obtain ⟨x, rfl, rx⟩ := Rbs.one r
  obtain ⟨a, ys, rfl, ha, ry⟩ := rx.tup_
  cases h
  exact ⟨_, _, rfl, .inr ⟨SqT.of ha, k F _ H (.refl tk) (.tup ha ry)⟩⟩
 ·cases h
theorem nV0 {K : PySem.W.Frag} : OpNF (fun xs H Q => ∃ p ys, xs = [.ref p] /\ (SqL K H p ys \/ SqT K H p ys) /\ ∀ l, H l = none -> Q (.ref l) (upd H l (.lst ys))) cU0 := by
 intro F H xs ts u Q tk r h k
 unfold cU0 at h
 split at h
 ·obtain ⟨x, rfl, rx⟩ := Rbs.one r
  obtain ⟨a, ys, rfl, ha, ry⟩ := rx.lst_
  cases h
  exact ⟨_, _, rfl, .inl (SqL.of ha), fun l hl => k F _ _ (Mono.laid tk hl) hl (Trk.new tk hl) (.lst aq0 (ry.laid hl tk))⟩
 ·obtain ⟨x, rfl, rx⟩ := Rbs.one r
  obtain ⟨a, ys, rfl, ha, ry⟩ := rx.tup_
  cases h
  exact ⟨_, _, rfl, .inr (SqT.of ha), fun l hl => k F _ _ (Mono.laid tk hl) hl (Trk.new tk hl) (.lst aq0 (ry.laid hl tk))⟩
 ·cases h
theorem mJ0 : OpN (fun xs H Q => ∃ i j, xs = [.int i, .int j] /\ Q (.int (if j < i then j else i)) H) hI0 := by
 intro F H xs ts u Q tk r h k
 unfold hI0 at h
 split at h
 ·obtain ⟨x, y, rfl, rx, ry⟩ := Rbs.two r
  cases rx.int_; cases ry.int_; cases h
  exact ⟨_, _, rfl, k F _ H (.refl tk) (.int _)⟩
 ·cases h
theorem nj0 : OpN (fun xs H Q => ∃ i j, xs = [.int i, .int j] /\ Q (.int (if j > i then j else i)) H) hD0 := by
 intro F H xs ts u Q tk r h k
 unfold hD0 at h
 split at h
 ·obtain ⟨x, y, rfl, rx, ry⟩ := Rbs.two r
  cases rx.int_; cases ry.int_; cases h
  exact ⟨_, _, rfl, k F _ H (.refl tk) (.int _)⟩
 ·cases h
theorem o_ix {K : PySem.W.Frag} : Op2 (rIx K) φIx := by
 intro F H x y s t u Q tk rx ry h k
 unfold φIx at h
 split at h
 ·obtain ⟨a, ys, rfl, ha, r⟩ := rx.lst_
  obtain ⟨z, h1, h2⟩ := r.atI h
  exact .inl ⟨a, ys, _, z, rfl, ry.int_, SqL.of ha, h1, k F _ H (.refl tk) h2⟩
 ·obtain ⟨a, ys, rfl, ha, r⟩ := rx.tup_
  obtain ⟨z, h1, h2⟩ := r.atI h
  exact .inr (.inl ⟨a, ys, _, z, rfl, ry.int_, SqT.of ha, h1, k F _ H (.refl tk) h2⟩)
 ·rename_i ns i
  obtain ⟨a, o, rfl, ha⟩ := rx.scr_
  cases q : L2.atI ns i with
  | none => rw [q] at h; cases h
  | some z =>
   rw [q] at h
   cases h
   exact .inl ⟨a, _, _, .int z, rfl, ry.int_, .inl (.inr ⟨o, ha⟩), mC0 q, k F _ H (.refl tk) (.int z)⟩
 ·cases h
end
section
variable {X : Cx} {Y : Fx} {e a b : Expr} {pos : Pos} {f g : En -> Option T}
theorem aG0 (ha : BE X Y a f) (hb : BE X Y b g) (hs : jC0 b := by intro _ _; rfl) : SE X Y (.Subscript a b pos) (e2 φIx f g) := PE.imp (pe_ix nq0 ha hb hs) (mh0 o_ix)
end
end L2.BD
set_option Elab.async false
set_option linter.all false
set_option maxRecDepth 100000
set_option maxHeartbeats 4000000
namespace L2.BD
open PySem PySem.Spec PyProof.Rows
def lf0 (J : It) (F₀ : Addr -> Prop) (H₀ : Hp) (ts : List T) : Prop := ∀ (i : Nat) F H, Keep F₀ H₀ F H -> Trk F H ->
 (∀ t, ts[i]? = some t -> J.go i H /\ ∀ x H', J.yld i H x H' -> ∃ F', Mono F H F' H' /\ Rp F' H' x t) /\ (i = ts.length -> J.stop i H)
def TrI (Y : Fx) (f : En -> Option (List T)) : TI := fun σ H R => ∃ F ε ts, Rel Y F ε σ H /\ f ε = some ts /\ ∀ F' H' J, Mono F H F' H' -> lf0 J F' H' ts -> R J H'
abbrev SI (X : Cx) (Y : Fx) (tg e : Expr) (f : En -> Option (List T)) : Prop := PI X tg e (TrI Y f)
theorem PI.imp {X : Cx} {tg e : Expr} {t t' : TI} (h : PI X tg e t) (i : ∀ σ H R, t' σ H R -> t σ H R) : PI X tg e t' := fun pins s σ H R I q => h pins s σ H R I (i σ H R q)
def TrG (Y : Fx) (bd : T -> En -> Option En) : TG := fun v σ H Q => ∃ F ε t ε', Rel Y F ε σ H /\ Rp F H v t /\ bd t ε = some ε' /\ ∀ σ', Rel Y F ε' σ' H -> Q σ' H
abbrev SG (X : Cx) (Y : Fx) (tg : Expr) (bd : T -> En -> Option En) : Prop := PG X tg (TrG Y bd)
theorem PG.imp {X : Cx} {tg : Expr} {t t' : TG} (h : PG X tg t) (i : ∀ v σ H Q, t' v σ H Q -> t v σ H Q) : PG X tg t' := fun pins s σ H v u Q I r q => h pins s σ H v u Q I r (i v σ H Q q)
def aA0 (i : Nat) (t : T) (ε : En) : Option En := some (ε.set i (.sh t))
def db0 (i j : Nat) (t : T) (ε : En) : Option En := match t with | .tup [a, b] => some ((ε.set i (.sh a)).set j (.sh b)) | _ => none
section
variable {X : Cx} {Y : Fx} {tg e iter : Expr} {pos : Pos}
theorem cR0 {i : Nat} {x : Str} (h : PG X (.Name x pos) (ea0 i)) : SG X Y (.Name x pos) (aA0 i) := PG.imp h fun v σ H Q ⟨F, ε, t, ε', r, rv, hb, k⟩ => by
 cases hb
 exact k _ (r.set_sh rv)
theorem lz0 {i j : Nat} {es : List Expr} {k : Nat} (h : PG X (.Tuple es k pos) (gTup X.K 2 (jp0 (ea0 i) (jp0 (ea0 j) gNil)))) : SG X Y (.Tuple es k pos) (db0 i j) := PG.imp h fun v σ H Q ⟨F, ε, t, ε', r, rv, hb, k⟩ => by
 unfold db0 at hb
 split at hb
 ·cases hb
  obtain ⟨a, xs, rfl, ha, rs⟩ := (Rb.v rv).tup_
  obtain ⟨x, y, rfl, rx, ry⟩ := rs.two
  exact ⟨a, _, rfl, SqT.of ha, rfl, x, _, rfl, y, _, rfl, rfl, k _ ((r.set_sh rx).set_sh ry)⟩
 ·cases hb
def iLst (f : En -> Option T) : En -> Option (List T) := fun ε => match f ε with | some (.lst ts) => some ts | _ => none
def iTpl (f : En -> Option T) : En -> Option (List T) := fun ε => match f ε with | some (.tup ts) => some ts | _ => none
theorem bL0 {f : En -> Option T} (h : SE X Y e f) : SI X Y tg e (iLst f) := PI.imp (mA0 h) fun σ H R ⟨F, ε, ts, r, hf, k⟩ => by
 unfold iLst at hf
 split at hf
 ·cases hf
  refine ⟨F, ε, _, r, by assumption, fun F1 v H1 m1 r1 => ?_⟩
  cases r1 with
  | @lst a xs _ fa ha rs =>
   refine ⟨a, rfl, ⟨xs, SqL.of ha⟩, k F1 H1 _ m1 fun i F2 H2 kp tk => ⟨fun t e => ?_, fun e => ⟨xs, SqL.of (kp.frz a _ fa ha), by rw [rs.length, e]; exact Nat.le_refl _⟩⟩⟩
   obtain ⟨x, hx, rx⟩ := rs.get e
   have sq : SqL X.K H2 a xs := SqL.of (kp.frz a _ fa ha)
   exact ⟨⟨xs, x, sq, hx⟩, fun y H3 hy => by
    obtain ⟨rfl, hy⟩ := hy
    have e2 := hy xs sq
    rw [hx] at e2
    cases e2
    exact ⟨F2, .refl tk, rx.keep kp⟩⟩
 ·cases hf
def aU0 (lo : Int) (n : Nat) : List T := (List.range n).map fun (k : Nat) => T.int (lo + (k : Int))
theorem eO0 {lo : Int} {n i : Nat} {t : T} (h : (aU0 lo n)[i]? = some t) : i < n /\ t = .int (lo + i) := by
 unfold aU0 at h
 rw [List.getElem?_map] at h
 by_cases hi : i < n
 ·rw [List.getElem?_range hi] at h
  exact ⟨hi, (Option.some.inj h).symm⟩
 ·rw [List.getElem?_eq_none (by simpa using hi)] at h
  cases h
theorem aV0 (lo : Int) (n : Nat) : (aU0 lo n).length = n := by unfold aU0; rw [List.length_map, List.length_range]
theorem fX0 {F : Addr -> Prop} {H : Hp} (lo : Int) (n : Nat) : lf0 (Itr lo n) F H (aU0 lo n) := fun i F1 H1 kp tk => by
 refine ⟨fun t e => ?_, fun e => ?_⟩
 ·obtain ⟨hi, rfl⟩ := eO0 e
  exact ⟨hi, fun x H' ⟨e1, e2⟩ => by subst e1 e2; exact ⟨F1, .refl tk, .int _⟩⟩
 ·rw [aV0] at e
  exact Nat.le_of_eq e.symm
def bt0 (g : En -> Option (List T)) : En -> Option (List T) := fun ε => match g ε with | some [.int j] => if -(2 ^ 62) <= j /\ j < 2 ^ 62 then some (aU0 0 j.toNat) else none | _ => none
theorem bS0 {a : Expr} {p : Pos} {g : En -> Option (List T)} (hg : Gl X "range") (hm : X.mg "range" = none) (ha : BA X Y [a] g) (hs : starEach [a] X.env = [(false, eval a X.env)] := by rfl) : SI X Y tg (.Call (.Name "range" p) [a] [] pos) (bt0 g) := PI.imp (iw0 hg hm ha hs) fun σ H R ⟨F, ε, ts, r, hf, k⟩ => by
 unfold bt0 at hf
 split at hf
 ·split at hf
  ·rename_i c
   cases hf
   refine ⟨F, ε, _, r, by assumption, fun F1 vs H1 m1 r1 => ?_⟩
   obtain ⟨x, rfl, rx⟩ := Rbs.one r1
   cases rx.int_
   exact ⟨_, rfl, c.1, c.2, k F1 H1 _ m1 (fX0 0 _)⟩
  ·cases hf
 ·cases hf
def dG0 (bd : T -> En -> Option En) (body : En -> Option Fl) : List T -> En -> Option Fl
 | [], ε => some (.nx ε)
 | t :: ts, ε => (bd t ε).bind fun ε1 => (body ε1).bind fun fl => match fl with
  | .nx ε' => dG0 bd body ts ε'
  | .ct ε' => dG0 bd body ts ε'
  | .bk ε' => some (.nx ε')
  | .rt o t => some (.rt o t)
  | .xc C => some (.xc C)
def sFor (f : En -> Option (List T)) (bd : T -> En -> Option En) (body : En -> Option Fl) : En -> Option Fl := fun ε => (f ε).bind fun ts => dG0 bd body ts ε
theorem dA0 {f : En -> Option (List T)} {bd : T -> En -> Option En} {body : List Stmt} {g : En -> Option Fl} (hp : PassesOwn (model X.prog X.w) X.A X.env X.xe) (hc : X.calm = true) (hi : SI X Y tg iter f) (hg : SG X Y tg bd) (hb : SSs X Y body g)
  (hs : ∀ x, foldedSetIterable iter X.env x = pure x := by intro _; rfl) : SS X Y (.For tg iter body [] pos) (sFor f bd g) := PS.imp (ng0 hp hc hi hg hb hs) fun D σ H ⟨F, ε, fl, r, hf, k⟩ => by
 unfold sFor at hf
 cases q : f ε with
 | none => rw [q] at hf; cases hf
 | some ts =>
  rw [q] at hf
  have hf : dG0 bd g ts ε = some fl := hf
  refine ⟨F, ε, ts, r, q, fun F1 H1 J m1 yl => ?_⟩
  refine ⟨fun i m σ H => m = ts.length - i /\ i <= ts.length /\ ∃ F2 ε2, Rel Y F2 ε2 σ H /\ Keep F1 H1 F2 H /\ dG0 bd g (ts.drop i) ε2 = some fl, ⟨ts.length, by simp, Nat.zero_le _, F1, ε, r.mono m1, Keep.refl, by simpa using hf⟩, ?_⟩
  rintro i m σ2 H2 ⟨rfl, hi, F2, ε2, r2, k2, l2⟩
  obtain ⟨y1, y2⟩ := yl i F2 H2 k2 r2.trk
  have post : Post Y D F2 H2 fl := (k.keep m1.keep).keep k2
  by_cases hlt : i < ts.length
  ·have e : ts[i]? = some ts[i] := by simp [hlt]
   obtain ⟨go, yld⟩ := y1 _ e
   have hd : ts.drop i = ts[i] :: ts.drop (i + 1) := List.drop_eq_getElem_cons hlt
   rw [hd] at l2
   unfold dG0 at l2
   cases qb : bd ts[i] ε2 with
   | none => rw [qb] at l2; cases l2
   | some ε3 =>
    rw [qb] at l2
    simp only [Option.bind_some] at l2
    cases qg : g ε3 with
    | none => rw [qg] at l2; cases l2
    | some fl3 =>
     rw [qg] at l2
     simp only [Option.bind_some] at l2
     refine .inr ⟨go, fun σ' H' => i + 1 <= ts.length /\ ∃ F4 ε4, Rel Y F4 ε4 σ' H' /\ Keep F1 H1 F4 H' /\ dG0 bd g (ts.drop (i + 1)) ε4 = some fl, fun σ' H' ⟨h1, h2⟩ => ⟨ts.length - (i + 1), by omega, rfl, h1, h2⟩, fun x H' y => ?_⟩
     obtain ⟨F3, m3, rx⟩ := yld x H' y
     refine ⟨F3, ε2, _, ε3, r2.mono m3, rx, qb, fun σ3 r3 => ⟨F3, ε3, fl3, r3, qg, ?_⟩⟩
     have post3 : Post Y D F3 H' fl := post.keep m3.keep
     cases fl3 with
     | nx ε4 => exact fun F4 σ4 H4 k4 r4 => ⟨hlt, F4, ε4, r4, (k2.trans m3.keep).trans k4, l2⟩
     | ct ε4 => exact fun F4 σ4 H4 k4 r4 => ⟨hlt, F4, ε4, r4, (k2.trans m3.keep).trans k4, l2⟩
     | bk ε4 => cases l2; exact fun F4 σ4 H4 k4 r4 => post3 F4 σ4 H4 k4 r4
     | rt o t => cases l2; exact post3
     | xc C => cases l2; exact post3
  ·have e : i = ts.length := by omega
   subst e
   have hd : ts.drop ts.length = [] := List.drop_length
   rw [hd] at l2
   cases l2
   exact .inl ⟨y2 rfl, post F2 σ2 H2 Keep.refl r2⟩
def dB0 (n : Nat) (ε : En) (bd : T -> En -> Option En) (p : En -> Option Bool) (f : En -> Option T) : List T -> Option (List T)
 | [] => some []
 | t :: ts => (bd t (List.replicate n .un ++ ε)).bind fun ε1 => (p ε1).bind fun b => if b = true then (f ε1).bind fun y => (dB0 n ε bd p f ts).bind fun ys => some (y :: ys) else dB0 n ε bd p f ts
def aZ0 (n : Nat) (it : En -> Option (List T)) (bd : T -> En -> Option En) (p : En -> Option Bool) (f : En -> Option T) : En -> Option T := fun ε => (it ε).bind fun ts => if ts.length <= big then (dB0 n ε bd p f ts).map .lst else none
theorem Rel.block {Y : Fx} {F : Addr -> Prop} {ε : En} {σ : St} {H : Hp} (r : Rel Y F ε σ H) (n : Nat) : Rel Y F (List.replicate n .un ++ ε) (List.replicate n none ++ σ) H := by
 have gE : ∀ (i : Nat) (z : Sl), (List.replicate n Sl.un ++ ε)[i]? = some z -> z ≠ .un -> n <= i /\ ε[i - n]? = some z := fun i z e hz => by
  by_cases hi : i < n
  ·rw [List.getElem?_append_left (by simpa using hi), List.getElem?_replicate, if_pos hi] at e
   exact absurd (Option.some.inj e).symm hz
  ·rw [List.getElem?_append_right (by simpa using hi), List.length_replicate] at e
   exact ⟨by omega, e⟩
 have gS : ∀ i, n <= i -> (List.replicate n none ++ σ)[i]? = σ[i - n]? := fun i hi => by
  rw [List.getElem?_append_right (by simpa using hi), List.length_replicate]
 refine ⟨by rw [List.length_append, List.length_append, List.length_replicate, List.length_replicate, r.len], fun i t e => ?_, fun i t e => ?_, fun i j t u a ne e1 e2 s1 s2 => ?_, r.same, r.sub, r.new, r.trk, fun i t a e hi s1 => ?_, fun i v t e => ?_⟩
 ·obtain ⟨hi, e⟩ := gE i _ e (fun z => nomatch z)
  rw [gS i hi]
  exact r.sh _ t e
 ·obtain ⟨hi, e⟩ := gE i _ e (fun z => nomatch z)
  rw [gS i hi]
  exact r.ow _ t e
 ·obtain ⟨hi, e1⟩ := gE i _ e1 (fun z => nomatch z)
  obtain ⟨hj, e2⟩ := gE j _ e2 (fun z => nomatch z)
  rw [gS i hi] at s1
  rw [gS j hj] at s2
  exact r.inj (i - n) (j - n) t u a (by omega) e1 e2 s1 s2
 ·obtain ⟨hj, e⟩ := gE i _ e (fun z => nomatch z)
  rw [gS i hj] at s1
  exact r.me _ t a e hi s1
 ·obtain ⟨hi, e⟩ := gE i _ e (fun z => nomatch z)
  rw [gS i hi]
  exact r.fx _ v t e
def BdOk (n : Nat) (g : TG) (bd : T -> En -> Option En) : Prop := ∀ (Y : Fx) v σ H F ε t ε' (Q : St -> Hp -> Prop), Rel Y F (List.replicate n .un ++ ε) (List.replicate n none ++ σ) H -> Rp F H v t -> bd t (List.replicate n .un ++ ε) = some ε' -> (∀ σ', Rel Y F ε' σ' H -> σ'.drop n = σ -> Q σ' H) -> g v (List.replicate n none ++ σ) H Q
theorem bM0 : BdOk 1 (ea0 0) (aA0 0) := fun Y v σ H F ε t ε' Q r rv hb k => by
 cases hb
 exact k _ (r.set_sh rv) rfl
theorem mn0 {K : PySem.W.Frag} : BdOk 2 (gTup K 2 (jp0 (ea0 0) (jp0 (ea0 1) gNil))) (db0 0 1) := fun Y v σ H F ε t ε' Q r rv hb k => by
 unfold db0 at hb
 split at hb
 ·cases hb
  obtain ⟨a, xs, rfl, ha, rs⟩ := (Rb.v rv).tup_
  obtain ⟨x, y, rfl, rx, ry⟩ := rs.two
  exact ⟨a, _, rfl, SqT.of ha, rfl, x, _, rfl, y, _, rfl, rfl, k _ ((r.set_sh rx).set_sh ry) rfl⟩
 ·cases hb
theorem iq0 {n : Nat} {it : En -> Option (List T)} {g : TG} {bd : T -> En -> Option En} {p : En -> Option Bool} {f : En -> Option T} (hb : BdOk n g bd) (σ : St) (H : Hp) (Q : VK) (h : TrF Y (aZ0 n it bd p f) σ H Q) :
  lF0 n (TrI Y it) g (TrT Y p) (Tr Y f) σ H Q := by
 obtain ⟨F, ε, u, r, hf, k⟩ := h
 unfold aZ0 at hf
 cases q : it ε with
 | none => rw [q] at hf; cases hf
 | some ts =>
  rw [q] at hf
  simp only [Option.bind_some] at hf
  split at hf
  rotate_left
  ·cases hf
  rename_i hbig
  cases q2 : dB0 n ε bd p f ts with
  | none => rw [q2] at hf; cases hf
  | some us =>
   rw [q2] at hf
   cases hf
   refine ⟨F, ε, ts, r, q, fun F1 H1 J m1 yl => ?_⟩
   refine ⟨fun i m ys H => m = ts.length - i /\ i <= ts.length /\ ys.length <= i /\ ∃ F2 us1 us2, us = us1 ++ us2 /\ Mono F1 H1 F2 H /\ Rps F2 H ys us1 /\ dB0 n ε bd p f (ts.drop i) = some us2,
    ⟨ts.length, by simp, Nat.zero_le _, Nat.zero_le _, F1, [], us, rfl, .refl m1.trk, .nil, by simpa using q2⟩, ?_⟩
   rintro i m ys H2 ⟨rfl, hi, hys, F2, us1, us2, rfl, m2, rs, l2⟩
   obtain ⟨y1, y2⟩ := yl i F2 H2 m2.keep m2.trk
   by_cases hlt : i < ts.length
   ·have e : ts[i]? = some ts[i] := by simp [hlt]
    obtain ⟨go, yld⟩ := y1 _ e
    have hd : ts.drop i = ts[i] :: ts.drop (i + 1) := List.drop_eq_getElem_cons hlt
    rw [hd] at l2
    unfold dB0 at l2
    refine .inr ⟨go, fun x H' y => ?_⟩
    obtain ⟨F3, m3, rx⟩ := yld x H' y
    have r3 := ((r.mono m1).mono (m2.trans m3)).block n
    cases qb : bd ts[i] (List.replicate n .un ++ ε) with
    | none => rw [qb] at l2; cases l2
    | some ε3 =>
     rw [qb] at l2
     simp only [Option.bind_some] at l2
     cases qp : p ε3 with
     | none => rw [qp] at l2; cases l2
     | some b =>
      rw [qp] at l2
      simp only [Option.bind_some] at l2
      refine hb Y x σ H' F3 ε ts[i] ε3 _ r3 rx qb fun σ3 r4 hσ => ⟨hσ, F3, ε3, b, r4, qp, fun F4 H4 m4 => ?_⟩
      have m14 : Mono F1 H1 F4 H4 := (m2.trans m3).trans m4
      cases b with
      | false =>
       dsimp only
       rw [if_neg Bool.false_ne_true] at l2 ⊢
       exact ⟨_, by omega, rfl, hlt, by omega, F4, us1, us2, rfl, m14, rs.keep (m3.trans m4).keep, l2⟩
      | true =>
       dsimp only
       rw [if_pos rfl] at l2 ⊢
       cases qf : f ε3 with
       | none => rw [qf] at l2; cases l2
       | some t3 =>
        rw [qf] at l2
        simp only [Option.bind_some] at l2
        cases qr : dB0 n ε bd p f (ts.drop (i + 1)) with
        | none => rw [qr] at l2; cases l2
        | some us3 =>
         rw [qr] at l2
         cases l2
         refine ⟨F4, ε3, t3, r4.mono m4, qf, fun F5 v H5 m5 r5 => ⟨?_, _, (show ts.length - (i + 1) < ts.length - i by omega), rfl, hlt, ?_, F5, us1 ++ [t3], us3, by simp, m14.trans m5, (rs.keep ((m3.trans m4).trans m5).keep).append (.cons r5 .nil), (by first | exact qr | rfl)⟩⟩
         ·exact hj0 (by omega)
         ·rw [List.length_append, List.length_singleton]; omega
   ·have e : i = ts.length := by omega
    subst e
    have hd : ts.drop ts.length = [] := List.drop_length
    rw [hd] at l2
    cases l2
    refine .inl ⟨y2 rfl, fun pp hp => ?_⟩
    rw [List.append_nil] at k
    exact k F2 _ _ ((m1.trans m2).trans (Mono.laid m2.trk hp)) ((m1.trans m2).free hp) (Trk.new m2.trk hp) (.lst aq0 (rs.laid hp m2.trk))
section
variable {scope : Scope} {own : List Str} {elt : Expr} {ifs : List Expr} {g : TG} {it : En -> Option (List T)} {bd : T -> En -> Option En} {p : En -> Option Bool} {f : En -> Option T}
abbrev Blk (X : Cx) (own : List Str) (scope : Scope) (C : Addr) (s : Shared) (H : Hp) (fp : List Addr) : Cx := blk X (own ++ hide own X.N) scope C s H fp
theorem cr0 (hc : X.calm = true) (ck : dy0 scope own X.N X.env.scope = true) (hi : SI X Y tg iter it) (hb : BdOk own.length g bd)
  (hg : ∀ C s₂ H₂ fp, PG (Blk X own scope C s₂ H₂ fp) tg g) (ht : ∀ C s₂ H₂ fp, PIf (Blk X own scope C s₂ H₂ fp) ifs (TrT Y p)) (he : ∀ C s₂ H₂ fp, SE (Blk X own scope C s₂ H₂ fp) Y elt f)
  (hs : ∀ x, foldedSetIterable iter X.env x = pure x := by intro _; rfl) : FE X Y (.ListComp elt [⟨tg, iter, ifs, 0⟩] scope pos) (aZ0 own.length it bd p f) := PE.imp (lI0 hc ck hi hg ht he hs) (iq0 hb)
theorem eZ0 {i : Nat} {y : Str} {py spos : Pos} (hN : X.N.Nodup) (hiN : X.N[i]? = some y) (hy : Loc X.env.scope y) (hc : X.calm = true) (ck : dy0 scope own X.N X.env.scope = true) (hi : SI X Y tg iter it) (hb : BdOk own.length g bd)
  (hg : ∀ C s₂ H₂ fp, PG (Blk X own scope C s₂ H₂ fp) tg g) (ht : ∀ C s₂ H₂ fp, PIf (Blk X own scope C s₂ H₂ fp) ifs (TrT Y p)) (he : ∀ C s₂ H₂ fp, SE (Blk X own scope C s₂ H₂ fp) Y elt f)
  (hsw : swapsWith (.ListComp elt [⟨tg, iter, ifs, 0⟩] scope pos) (some (.Name y py)) spos.line X.env = pure true)
  (hs : ∀ x, foldedSetIterable iter X.env x = pure x := by intro _; rfl) (hf : X.fn y = true \/ X.env.scope.names.lookup y = some .local := by first | exact .inl rfl | exact .inr rfl | assumption) :
  SS X Y (.Assign [.Name y py] (.ListComp elt [⟨tg, iter, ifs, 0⟩] scope pos) spos) (sSet i (aZ0 own.length it bd p f)) :=
 fK0 (lP0 hN hiN hy hc ck hi hg ht he hsw hs hf) fun σ H Q h => iq0 hb σ H Q (by
  obtain ⟨F, ε, t, r, hf, k⟩ := h
  refine ⟨F, ε, t, r, hf, fun F' a H' m n nf q => k _ _ _ (m.freeze n q.there) ((q.keep Keep.freeze rfl).frozen (.inr rfl) ?_)⟩
  unfold aZ0 at hf
  cases q : it ε with
  | none => rw [q] at hf; cases hf
  | some ts =>
   rw [q] at hf
   simp only [Option.bind_some] at hf
   split at hf
   ·cases q2 : dB0 own.length ε bd p f ts with
    | none => rw [q2] at hf; cases hf
    | some us => rw [q2] at hf; cases hf; rfl
   ·cases hf)
end
def bv0 : En -> Option Bool := fun _ => some true
theorem ck0 {X : Cx} {Y : Fx} : PIf X [] (TrT Y bv0) := fun pins s σ H Q I ⟨F, ε, b, r, hf, k⟩ => by
 cases hf
 exact lV0 pins s σ H Q I (k F H r.refl)
end
def ResC (o : Bool) (H : Hp) (F' : Addr -> Prop) (H' : Hp) (v : V) (t : T) : Prop :=
 if o = true then ∃ a, v = .ref a /\ H a = none /\ ¬ F' a /\ Rp1 F' H' a t else Rp F' H' v t
def spP (gs : List T -> Option (Bool × T)) : Sp := fun vs H Q _ => ∃ F ts o t, Trk F H /\ Rps F H vs ts /\ gs ts = some (o, t) /\ ∀ F' v H', Mono F H F' H' -> ResC o H F' H' v t -> Q v H'
def bQ0 (N : List Str) (ts : List T) : En := ts.map .sh ++ List.replicate (N.length - ts.length) .un
def cL0 : Fl -> Option (Bool × T)
 | .rt o t => some (o, t)
 | .nx _ => some (false, .non)
 | _ => none
theorem dU0 {N : List Str} {F : Addr -> Prop} {H : Hp} {vs : List V} {ts : List T} (tk : Trk F H) (r : Rps F H vs ts) : Rel ⟨H, F, fun _ => True, fun _ _ => False⟩ F (bQ0 N ts) (start N vs) H where
 len := by
  unfold bQ0 start
  rw [List.length_append, List.length_append, List.length_map, List.length_map, List.length_replicate, List.length_replicate, r.length]
 sh := fun i t e => by
  unfold bQ0 at e
  by_cases hi : i < ts.length
  ·rw [List.getElem?_append_left (by simpa using hi), List.getElem?_map] at e
   cases q : ts[i]? with
   | none => rw [q] at e; cases e
   | some t' =>
    rw [q] at e
    have e : Sl.sh t' = .sh t := Option.some.inj e
    cases e
    obtain ⟨x, hx, rx⟩ := r.get q
    refine ⟨x, ?_, rx⟩
    unfold start
    rw [List.getElem?_append_left (by rw [List.length_map, r.length]; exact hi), List.getElem?_map, hx]
    rfl
  ·rw [List.getElem?_append_right (by simpa using hi), List.getElem?_replicate] at e
   split at e <;> cases e
 ow := fun i t e => by
  exfalso
  unfold bQ0 at e
  by_cases hi : i < ts.length
  ·rw [List.getElem?_append_left (by simpa using hi), List.getElem?_map] at e
   cases q : ts[i]? with
   | none => rw [q] at e; cases e
   | some t' => rw [q] at e; cases e
  ·rw [List.getElem?_append_right (by simpa using hi), List.getElem?_replicate] at e
   split at e <;> cases e
 inj := fun i j t u a ne e _ _ _ => by
  exfalso
  unfold bQ0 at e
  by_cases hi : i < ts.length
  ·rw [List.getElem?_append_left (by simpa using hi), List.getElem?_map] at e
   cases q : ts[i]? with
   | none => rw [q] at e; cases e
   | some t' => rw [q] at e; cases e
  ·rw [List.getElem?_append_right (by simpa using hi), List.getElem?_replicate] at e
   split at e <;> cases e
 same := fun _ _ h => h
 sub := fun _ h => h
 new := fun _ h => .inl h
 trk := tk
 me := fun i t a e _ _ => by
  exfalso
  unfold bQ0 at e
  by_cases hi : i < ts.length
  ·rw [List.getElem?_append_left (by simpa using hi), List.getElem?_map] at e
   cases q : ts[i]? with
   | none => rw [q] at e; cases e
   | some t' => rw [q] at e; cases e
  ·rw [List.getElem?_append_right (by simpa using hi), List.getElem?_replicate] at e
   split at e <;> cases e
 fx := fun i v t e => by
  exfalso
  unfold bQ0 at e
  by_cases hi : i < ts.length
  ·rw [List.getElem?_append_left (by simpa using hi), List.getElem?_map] at e
   cases q : ts[i]? with
   | none => rw [q] at e; cases e
   | some t' => rw [q] at e; cases e
  ·rw [List.getElem?_append_right (by simpa using hi), List.getElem?_replicate] at e
   split at e <;> cases e
section
variable {P : Program} {w : World} {K : PySem.W.Frag} {mg : Str -> Option Value} {base : Heap}
theorem bl0 {x qual : Str} {st : Stmt} {f : Addr} {fd : FuncData} {N ps : List Str} {k : Nat} {gs : List T -> Option (Bool × T)} (Fn : Fun K x qual st f fd) (S : FnScope N ps (ak0 st))
  (hlen : ∀ ts r, gs ts = some r -> ts.length = ps.length)
  (hbody : ∀ (cdv : Value) (A : Around) (outer : List Env) (s : Shared) (H : Hp) (E : XK) (F : Addr -> Prop), Room k (A.deeper (envOfC qual (ak0 st) s.heap.objs.size f cdv)) ->
   ∃ g, SSs ((cxOf CX0 P w K mg base N qual (ak0 st) f cdv A outer s H E).nox) ⟨H, F, fun _ => True, fun _ _ => False⟩ (bE0 st) g /\ ∀ ts o t, gs ts = some (o, t) -> (g (bQ0 N ts)).bind cL0 = some (o, t)) : FnOk P w K mg base CX0 (k + 1) f fd ps (spP gs) := by
 refine Fn.ok S (fun vs H Q E h => ?_) fun cdv A outer s H vs Q E hr h => ?_
 ·obtain ⟨F, ts, o, t, _, r, e, _⟩ := h
  rw [r.length]
  exact hlen ts _ e
 ·obtain ⟨F, ts, o, t, tk, r, e, q⟩ := h
  obtain ⟨g, hg, hv⟩ := hbody cdv A outer s H E F hr
  refine ⟨_, hg, ?_⟩
  have hv := hv ts o t e
  cases qg : g (bQ0 N ts) with
  | none => rw [qg] at hv; cases hv
  | some fl =>
   rw [qg] at hv
   have hv : cL0 fl = some (o, t) := hv
   refine ⟨F, bQ0 N ts, fl, dU0 tk r, qg, ?_⟩
   have mono : ∀ {F' : Addr -> Prop} {H' : Hp}, End ⟨H, F, fun _ => True, fun _ _ => False⟩ F' H' -> Mono F H F' H' := fun e => ⟨e.same, e.sub, e.new, e.trk⟩
   cases fl with
   | nx ε => cases hv; exact fun F' σ' H' _ rl => q F' .non H' (mono rl.fin) (show Rp F' H' .non .non from .non)
   | rt o' t' => 
    cases hv
    intro F' v H' en rs
    refine q F' v H' (mono en) ?_
    cases o with
    | false => exact rs
    | true =>
     obtain ⟨a, h1, h2, h3, h4⟩ := (show ∃ a, v = .ref a /\ ¬ F' a /\ H a = none /\ Rp1 F' H' a t from rs)
     exact ⟨a, h1, h3, h2, h4⟩
   | bk ε => cases hv
   | ct ε => cases hv
   | xc C => cases hv
end
def noD (bt : Bool × T) : Option T := if bt.1 && isD bt.2 then none else some bt.2
def eFn (gs : List T -> Option (Bool × T)) (g : En -> Option (List T)) : En -> Option T := fun ε => (g ε).bind fun ts => (gs ts).bind noD
section
variable {X : Cx} {Y : Fx} {k : Nat} {f C : Addr} {fd : FuncData} {ps : List Str} {x m : Str} {p pos apos : Pos} {e o : Expr} {es : List Expr} {gs : List T -> Option (Bool × T)} {fa : En -> Option (List T)} {fo : En -> Option T}
theorem kX0 {b : Bool} {F F' : Addr -> Prop} {H H' : Hp} {v : V} {t u : T} (hn : noD (b, t) = some u) (m : Mono F H F' H') (r : ResC b H F' H' v t) : ∃ F'', Mono F H F'' H' /\ Rp F'' H' v u := by
 unfold noD at hn
 split at hn
 ·cases hn
 rename_i nd
 cases hn
 cases b with
 | false => exact ⟨F', m, r⟩
 | true =>
  obtain ⟨a, rfl, n, nf, q⟩ := (show ∃ a, v = .ref a /\ H a = none /\ ¬ F' a /\ Rp1 F' H' a t from r)
  exact ⟨_, m.freeze n q.there, (q.keep Keep.freeze rfl).frozen (.inr rfl) (by simpa using nd)⟩
theorem tr_fn (σ : St) (H : Hp) (Q : VK) (h : Tr Y (eFn gs fa) σ H Q) : kl0 (spP gs) [] E0 (TrA Y fa) σ H Q := by
 obtain ⟨F, ε, u, rl, hf, k⟩ := h
 unfold eFn at hf
 cases q : fa ε with
 | none => rw [q] at hf; cases hf
 | some ts =>
  rw [q] at hf
  simp only [Option.bind_some] at hf
  cases q2 : gs ts with
  | none => rw [q2] at hf; cases hf
  | some bt =>
   obtain ⟨b, t⟩ := bt
   rw [q2] at hf
   have hf : noD (b, t) = some u := hf
   refine ⟨F, ε, ts, rl, q, fun F1 vs H1 m1 r1 => ⟨F1, ts, b, t, m1.trk, by rw [List.append_nil]; exact r1, q2, fun F2 v H2 m2 r2 => ?_⟩⟩
   obtain ⟨F3, m3, r3⟩ := kX0 hf m2 r2
   exact k F3 v H2 (m1.trans m3) r3
def eFnF (gs : List T -> Option (Bool × T)) (g : En -> Option (List T)) : En -> Option T := fun ε => (g ε).bind fun ts => match gs ts with | some (true, t) => some t | _ => none
theorem mR0 (σ : St) (H : Hp) (Q : VK) (h : TrF Y (eFnF gs fa) σ H Q) : kl0 (spP gs) [] E0 (TrA Y fa) σ H Q := by
 obtain ⟨F, ε, u, rl, hf, k⟩ := h
 unfold eFnF at hf
 cases q : fa ε with
 | none => rw [q] at hf; cases hf
 | some ts =>
  rw [q] at hf
  simp only [Option.bind_some] at hf
  split at hf
  ·cases hf
   refine ⟨F, ε, ts, rl, q, fun F1 vs H1 m1 r1 => ⟨F1, ts, true, u, m1.trk, by rw [List.append_nil]; exact r1, by assumption, fun F2 v H2 m2 r2 => ?_⟩⟩
   obtain ⟨a, rfl, n, nf, q⟩ := (show ∃ a, v = .ref a /\ H1 a = none /\ ¬ F2 a /\ Rp1 F2 H2 a u from r2)
   exact k F2 a H2 (m1.trans m2) (m1.free n) nf q
  ·cases hf
theorem se_fn (Fn : FnOk X.prog X.w X.K X.mg X.base CX0 k f fd ps (spP gs)) (hr : Room k X.A) (hg : Gl X x) (hm : X.mg x = some (.ref f)) (hk : PySem.W.keepIn X.K (.ref f) = true) (hb : Binds X.K fd ps []) (ha : SA X Y (e :: es) fa)
  (hdb : (x == ("__debug__" : Str)) = false := by decide) (he : starEach (e :: es) X.env = (false, eval e X.env) :: starEach es X.env := by rfl) (hpl : (backTo pos (starEach es X.env)).any (·.1) = false := by rfl) :
  SE X Y (.Call (.Name x p) (e :: es) [] pos) (eFn gs fa) := PE.imp (gm0 Fn hr hg hm hk hb .nil pass0 ha hdb he hpl) tr_fn
theorem fe_fn (Fn : FnOk X.prog X.w X.K X.mg X.base CX0 k f fd ps (spP gs)) (hr : Room k X.A) (hg : Gl X x) (hm : X.mg x = some (.ref f)) (hk : PySem.W.keepIn X.K (.ref f) = true) (hb : Binds X.K fd ps []) (ha : SA X Y (e :: es) fa)
  (hdb : (x == ("__debug__" : Str)) = false := by decide) (he : starEach (e :: es) X.env = (false, eval e X.env) :: starEach es X.env := by rfl) (hpl : (backTo pos (starEach es X.env)).any (·.1) = false := by rfl) :
  FE X Y (.Call (.Name x p) (e :: es) [] pos) (eFnF gs fa) := PE.imp (gm0 Fn hr hg hm hk hb .nil pass0 ha hdb he hpl) mR0
def eMeth (C : Addr) (m : Str) (gs : List T -> Option (Bool × T)) (fo : En -> Option T) (g : En -> Option (List T)) : En -> Option T := fun ε => match fo ε with
 | some (.ins C' fs) => if C' = C /\ fs.lookup m = none then (g ε).bind fun ts => (gs (.ins C' fs :: ts)).bind noD else none
 | _ => none
def eFld (C : Addr) (n : Str) (fo : En -> Option T) : En -> Option T := fun ε => match fo ε with
 | some (.ins C' fs) => if C' = C then fs.lookup n else none
 | _ => none
theorem nD0 (ho : BE X Y o fo) (c : Cls X.K C) (na : NoAttr X.K C m) (hb : attributeBase o m X.env (eval o X.env) = eval o X.env := by rfl) : SE X Y (.Attribute o m pos) (eFld C m fo) := PE.imp (nF0 ho hb) fun σ H Q ⟨F, ε, u, rl, hf, k⟩ => by
 unfold eFld at hf
 split at hf
 ·rename_i C' fs qo
  split at hf
  ·rename_i hc
   subst hc
   refine ⟨F, ε, _, rl, qo, fun F1 v H1 m1 r1 => ?_⟩
   obtain ⟨a, dx, xs, rfl, ha, rf⟩ := r1.ins_
   obtain ⟨v, h1, h2⟩ := rf.look hf
   exact ⟨a, C', dx, xs, v, rfl, ha, c, na, h1, k F1 v H1 m1 h2⟩
  ·cases hf
 ·cases hf
end
end L2.BD
set_option Elab.async false
set_option linter.all false
set_option maxRecDepth 100000
set_option maxHeartbeats 4000000
namespace L2.BD
open PySem PySem.Spec PyProof.Rows
def bn0 : T -> Bool
 | .non => true | .bl _ => true | .int _ => true | .str _ => true | _ => false
def toV : T -> V
 | .bl b => .bl b | .int i => .int i | .str x => .str x | _ => .non
theorem Rb.flat {F : Addr -> Prop} {H : Hp} {v : V} {t : T} (r : Rb F H v t) (h : bn0 t = true) : v = toV t /\ co0 v = true := by
 cases t with
 | non => cases r.non_; exact ⟨rfl, rfl⟩
 | bl b => cases r.bl_; exact ⟨rfl, rfl⟩
 | int i => cases r.int_; exact ⟨rfl, rfl⟩
 | str x => cases r.str_; exact ⟨rfl, rfl⟩
 | _ => cases h
theorem Rps.flat {F : Addr -> Prop} {H : Hp} : ∀ {xs : List V} {ts : List T}, Rps F H xs ts -> ts.all bn0 = true -> xs = ts.map toV /\ xs.all co0 = true
 | _, _, .nil, _ => ⟨rfl, rfl⟩
 | _, _, .cons h r, e => by
  rw [List.all_cons, Bool.and_eq_true] at e
  obtain ⟨h1, h2⟩ := (Rb.v h).flat e.1
  obtain ⟨h3, h4⟩ := Rps.flat r e.2
  rw [List.map_cons, List.all_cons, <- h1, <- h3, h2, h4]
  exact ⟨rfl, rfl⟩
def eqLW (f : T -> T -> Option Bool) : List T -> List T -> Option Bool
 | [], [] => some true
 | [], _ :: _ => some false
 | _ :: _, [] => some false
 | a :: as, b :: bs => (f a b).bind fun x => (eqLW f as bs).bind fun r => some (x && r)
def eqT : Nat -> T -> T -> Option Bool
 | 0, _, _ => none
 | n + 1, .tup xs, .tup ys => eqLW (eqT n) xs ys
 | n + 1, .lst xs, .lst ys => eqLW (eqT n) xs ys
 | _ + 1, a, b => if bn0 a && bn0 b then some (eqV (toV a) (toV b)) else none
theorem ec0 {f : T -> T -> Option Bool} (hf : ∀ t b, f t t = some b -> b = true) : ∀ (ts : List T) (b : Bool), eqLW f ts ts = some b -> b = true
 | [], b, h => by cases h; rfl
 | t :: ts, b, h => by
  unfold eqLW at h
  cases q : f t t with
  | none => rw [q] at h; cases h
  | some x =>
   rw [q] at h
   simp only [Option.bind_some] at h
   cases q2 : eqLW f ts ts with
   | none => rw [q2] at h; cases h
   | some r =>
    rw [q2] at h
    cases h
    rw [hf t x q, ec0 hf ts r q2]
    rfl
theorem dN0 {t : T} (h : bn0 t = true) : eqV (toV t) (toV t) = true := by
 cases t <;> simp [toV, eqV, bn0] at *
theorem eX0 : ∀ (n : Nat) (t : T) (b : Bool), eqT n t t = some b -> b = true
 | 0, _, _, h => by cases h
 | n + 1, t, b, h => by
  cases t with
  | tup ts => exact ec0 (eX0 n) ts b h
  | lst ts => exact ec0 (eX0 n) ts b h
  | dct kvs => cases h
  | ins C fs => cases h
  | exc C => cases h
  | scr ns => cases h
  | non => cases h; rfl
  | bl c => cases h; exact dN0 (t := .bl c) rfl
  | int i => cases h; exact dN0 (t := .int i) rfl
  | str x => cases h; exact dN0 (t := .str x) rfl
theorem ei0 : ∀ {xs ys : List Int}, xs.map V.int = ys.map V.int -> xs = ys
 | [], [], _ => rfl
 | [], _ :: _, h => by cases h
 | _ :: _, [], h => by cases h
 | x :: xs, y :: ys, h => by
  rw [List.map_cons, List.map_cons] at h
  obtain ⟨h1, h2⟩ := List.cons.inj h
  rw [V.int.inj h1, ei0 h2]
mutual
theorem Rp.inj {F F' : Addr -> Prop} {H : Hp} : ∀ {v : V} {t t' : T}, Rp F H v t -> Rp F' H v t' -> t = t'
 | _, _, _, .non, h => by cases h; rfl
 | _, _, _, .bl _, h => by cases h; rfl
 | _, _, _, .int _, h => by cases h; rfl
 | _, _, _, .str _, h => by cases h; rfl
 | _, _, _, .tup e r, h => by
  cases h with
  | tup e' r' => rw [e] at e'; cases e'; rw [Rps.inj r r']
  | lst _ e' _ => rw [e] at e'; cases e'
  | dct _ e' _ => rw [e] at e'; cases e'
  | ins _ e' _ => rw [e] at e'; cases e'
  | exc _ e' _ => rw [e] at e'; cases e'
  | scr _ e' => rw [e] at e'; cases e'
 | _, _, _, .lst _ e r, h => by
  cases h with
  | lst _ e' r' => rw [e] at e'; cases e'; rw [Rps.inj r r']
  | tup e' _ => rw [e] at e'; cases e'
  | dct _ e' _ => rw [e] at e'; cases e'
  | ins _ e' _ => rw [e] at e'; cases e'
  | exc _ e' _ => rw [e] at e'; cases e'
  | scr _ e' => rw [e] at e'; cases e'
 | _, _, _, .dct _ e r, h => by
  cases h with
  | dct _ e' r' => rw [e] at e'; cases e'; rw [Rpk.inj r r']
  | tup e' _ => rw [e] at e'; cases e'
  | lst _ e' _ => rw [e] at e'; cases e'
  | ins _ e' _ => rw [e] at e'; cases e'
  | exc _ e' _ => rw [e] at e'; cases e'
  | scr _ e' => rw [e] at e'; cases e'
 | _, _, _, .ins _ e r, h => by
  cases h with
  | ins _ e' r' => rw [e] at e'; cases e'; rw [Rpf.inj r r']
  | exc _ e' _ => rw [e] at e'; cases e'
  | scr _ e' => rw [e] at e'; cases e'
  | tup e' _ => rw [e] at e'; cases e'
  | lst _ e' _ => rw [e] at e'; cases e'
  | dct _ e' _ => rw [e] at e'; cases e'
 | _, _, _, .exc _ e c, h => by
  cases h with
  | exc _ e' c' => rw [e] at e'; cases e'; rw [c] at c'; cases c'; rfl
  | scr _ e' => rw [e] at e'; cases e'
  | ins _ e' _ => rw [e] at e'; cases e'
  | tup e' _ => rw [e] at e'; cases e'
  | lst _ e' _ => rw [e] at e'; cases e'
  | dct _ e' _ => rw [e] at e'; cases e'
 | _, _, _, .scr _ e, h => by
  cases h with
  | scr _ e' => rw [e] at e'; have z := HO.lst.inj (HO.frz.inj (Option.some.inj e')).2; rw [ei0 z]
  | exc _ e' _ => rw [e] at e'; cases e'
  | ins _ e' _ => rw [e] at e'; cases e'
  | tup e' _ => rw [e] at e'; cases e'
  | lst _ e' _ => rw [e] at e'; cases e'
  | dct _ e' _ => rw [e] at e'; cases e'
theorem Rps.inj {F F' : Addr -> Prop} {H : Hp} : ∀ {v : List V} {t t' : List T}, Rps F H v t -> Rps F' H v t' -> t = t'
 | _, _, _, .nil, h => by cases h; rfl
 | _, _, _, .cons h r, h' => by cases h' with | cons h2 r2 => rw [Rp.inj h h2, Rps.inj r r2]
theorem Rpk.inj {F F' : Addr -> Prop} {H : Hp} : ∀ {v : List (Key × V)} {t t' : List (Str × T)}, Rpk F H v t -> Rpk F' H v t' -> t = t'
 | _, _, _, .nil, h => by cases h; rfl
 | _, _, _, .cons h r, h' => by cases h' with | cons h2 r2 => rw [Rp.inj h h2, Rpk.inj r r2]
theorem Rpf.inj {F F' : Addr -> Prop} {H : Hp} : ∀ {v : List (Str × V)} {t t' : List (Str × T)}, Rpf F H v t -> Rpf F' H v t' -> t = t'
 | _, _, _, .nil, h => by cases h; rfl
 | _, _, _, .cons h r, h' => by cases h' with | cons h2 r2 => rw [Rp.inj h h2, Rpf.inj r r2]
end
theorem Rb.inj {F : Addr -> Prop} {H : Hp} {v : V} {t t' : T} (h : Rb F H v t) (h' : Rb F H v t') : t = t' := by
 cases h with
 | v h =>
  cases h' with
  | v h' => exact h.inj h'
  | o h' =>
   cases h' with
   | lst e r => cases h with
    | lst _ e' r' => rw [e] at e'; cases e'; rw [r'.inj r]
    | tup e' _ => rw [e] at e'; cases e'
    | dct _ e' _ => rw [e] at e'; cases e'
    | ins _ e' _ => rw [e] at e'; cases e'
    | exc _ e' _ => rw [e] at e'; cases e'
    | scr _ e' => rw [e] at e'; cases e'
   | dct e r => cases h with
    | lst _ e' r' => rw [e] at e'; cases e'
    | tup e' _ => rw [e] at e'; cases e'
    | dct _ e' _ => rw [e] at e'; cases e'
    | ins _ e' _ => rw [e] at e'; cases e'
    | exc _ e' _ => rw [e] at e'; cases e'
    | scr _ e' => rw [e] at e'; cases e'
   | ins e r => cases h with
    | lst _ e' r' => rw [e] at e'; cases e'
    | tup e' _ => rw [e] at e'; cases e'
    | dct _ e' _ => rw [e] at e'; cases e'
    | ins _ e' r' => rw [e] at e'; cases e'; rw [r'.inj r]
    | exc _ e' _ => rw [e] at e'; cases e'
    | scr _ e' => rw [e] at e'; cases e'
 | o h =>
  cases h' with
  | v h' =>
   cases h with
   | lst e r => cases h' with
    | lst _ e' r' => rw [e] at e'; cases e'; rw [r'.inj r]
    | tup e' _ => rw [e] at e'; cases e'
    | dct _ e' _ => rw [e] at e'; cases e'
    | ins _ e' _ => rw [e] at e'; cases e'
    | exc _ e' _ => rw [e] at e'; cases e'
    | scr _ e' => rw [e] at e'; cases e'
   | dct e r => cases h' with
    | lst _ e' r' => rw [e] at e'; cases e'
    | tup e' _ => rw [e] at e'; cases e'
    | dct _ e' _ => rw [e] at e'; cases e'
    | ins _ e' _ => rw [e] at e'; cases e'
    | exc _ e' _ => rw [e] at e'; cases e'
    | scr _ e' => rw [e] at e'; cases e'
   | ins e r => cases h' with
    | lst _ e' r' => rw [e] at e'; cases e'
    | tup e' _ => rw [e] at e'; cases e'
    | dct _ e' _ => rw [e] at e'; cases e'
    | ins _ e' r' => rw [e] at e'; cases e'; rw [r'.inj r]
    | exc _ e' _ => rw [e] at e'; cases e'
    | scr _ e' => rw [e] at e'; cases e'
  | o h' =>
   cases h with
   | lst e r => cases h' with
    | lst e' r' => rw [e] at e'; cases e'; rw [r.inj r']
    | dct e' r' => rw [e] at e'; cases e'
    | ins e' r' => rw [e] at e'; cases e'
   | dct e r => cases h' with
    | lst e' r' => rw [e] at e'; cases e'
    | dct e' r' => rw [e] at e'; cases e'; rw [r.inj r']
    | ins e' r' => rw [e] at e'; cases e'
   | ins e r => cases h' with
    | lst e' r' => rw [e] at e'; cases e'
    | dct e' r' => rw [e] at e'; cases e'
    | ins e' r' => rw [e] at e'; cases e'; rw [r.inj r']
theorem gN0 {f : T -> T -> Option Bool} : ∀ {xs ys : List T} {b : Bool}, eqLW f xs ys = some b -> (∀ (j : Nat) x y, xs[j]? = some x -> ys[j]? = some y -> ∃ c, f x y = some c) /\
   ∀ e : Nat -> Bool, (∀ (j : Nat) x y, xs[j]? = some x -> ys[j]? = some y -> f x y = some (e j)) -> b = ((List.range (min xs.length ys.length)).all e && xs.length == ys.length)
 | [], [], b, h => by cases h; exact ⟨fun j x y e => by simp at e, fun e _ => by simp⟩
 | [], _ :: _, b, h => by cases h; exact ⟨fun j x y e => by simp at e, fun e _ => by simp⟩
 | _ :: _, [], b, h => by cases h; exact ⟨fun j x y _ e => by simp at e, fun e _ => by simp⟩
 | a :: as, c :: cs, b, h => by
  unfold eqLW at h
  cases q : f a c with
  | none => rw [q] at h; cases h
  | some x =>
   rw [q] at h
   simp only [Option.bind_some] at h
   cases q2 : eqLW f as cs with
   | none => rw [q2] at h; cases h
   | some r =>
    rw [q2] at h
    cases h
    obtain ⟨h1, h2⟩ := gN0 q2
    refine ⟨fun j y z e1 e2 => ?_, fun e he => ?_⟩
    ·cases j with
     | zero => simp at e1 e2; subst e1 e2; exact ⟨x, q⟩
     | succ j => exact h1 j y z (by simpa using e1) (by simpa using e2)
    ·have e0 := he 0 a c rfl rfl
     rw [q] at e0
     cases e0
     have e1 := h2 (fun j => e (j + 1)) fun j y z e1 e2 => he (j + 1) y z (by simpa using e1) (by simpa using e2)
     rw [e1, List.length_cons, List.length_cons, Nat.succ_min_succ, List.range_succ_eq_map, List.all_cons, List.all_map]
     simp [Function.comp_def, Bool.and_assoc]
section
variable {X : Cx} {pins : List (Addr × Obj)} {σ : St} {H : Hp} {s : Shared} {F : Addr -> Prop}
theorem cK0 {A : Around} {n : Nat} {xs ys : List V} {ts us : List T} {its jts : List Value} {b : Bool} (I : Inv X pins σ H s)
  (ih : ∀ (t1 t2 : T) (b : Bool) (A : Around) (x y : V) (u v : Value), eqT n t1 t2 = some b -> A.units + n < cLine -> Rb F H x t1 -> Rb F H y t2 -> RelV x u -> RelV y v -> SeqAt.EqAt A s u v b)
  (hu : A.units + (n + 1) < cLine) (r1 : Rps F H xs ts) (r2 : Rps F H ys us) (v1 : Vals xs its) (v2 : Vals ys jts) (e : eqLW (eqT n) ts us = some b) :
  ∃ f : Nat -> Bool, (∀ (j : Nat) (h1 : j < its.toArray.size) (h2 : j < jts.toArray.size), SeqAt.EqAt A.in1 s its.toArray[j] jts.toArray[j] (f j)) /\ b = ((List.range (min its.toArray.size jts.toArray.size)).all f && its.toArray.size == jts.toArray.size) := by
 obtain ⟨h1, h2⟩ := gN0 e
 have l1 : its.toArray.size = ts.length := by rw [List.size_toArray, <- v1.length, r1.length]
 have l2 : jts.toArray.size = us.length := by rw [List.size_toArray, <- v2.length, r2.length]
 refine ⟨fun j => match ts[j]?, us[j]? with | some x, some y => (eqT n x y).getD false | _, _ => false, fun j g1 g2 => ?_, ?_⟩
 ·have e1 : ts[j]? = some ts[j] := by simp [l1 ▸ g1]
  have e2 : us[j]? = some us[j] := by simp [l2 ▸ g2]
  obtain ⟨c, hc⟩ := h1 j _ _ e1 e2
  obtain ⟨x, hx, rx⟩ := r1.get e1
  obtain ⟨y, hy, ry⟩ := r2.get e2
  obtain ⟨u, hu1, ru⟩ := v1.get hx
  obtain ⟨v, hv1, rv⟩ := v2.get hy
  have q := ih _ _ c A.in1 x y u v hc (by show A.units + 1 + n < cLine; omega) (.v rx) (.v ry) ru rv
  simp only [e1, e2, hc, Option.getD_some]
  have eu : its.toArray[j] = u := by
   have : its[j]? = some its[j] := by simp [by simpa using g1]
   rw [this] at hu1
   simpa using hu1
  have ev : jts.toArray[j] = v := by
   have : jts[j]? = some jts[j] := by simp [by simpa using g2]
   rw [this] at hv1
   simpa using hv1
  rw [eu, ev]
  exact q
 ·rw [l1, l2]
  exact h2 _ fun j x y e1 e2 => by
   obtain ⟨c, hc⟩ := h1 j x y e1 e2
   simp only [e1, e2, hc, Option.getD_some]
theorem ee0 {κ : Type} [DecidableEq κ] : ∀ {kb : List (κ × Value)} {j : Nat} {k : κ} {v : Value}, (kb.map (·.1)).Nodup -> kb[j]? = some (k, v) -> valueAt kb k = some v
 | [], _, _, _, _, e => by simp at e
 | p :: r, 0, k, v, _, e => by
  simp at e
  subst e
  simp [valueAt]
 | p :: r, j + 1, k, v, nd, e => by
  rw [List.map_cons, List.nodup_cons] at nd
  have e : r[j]? = some (k, v) := by simpa using e
  have ne : ¬ p.1 = k := fun z => nd.1 (by rw [z]; exact List.mem_map.mpr ⟨(k, v), List.mem_of_getElem? e, rfl⟩)
  have ih := ee0 nd.2 e
  simp only [valueAt, List.find?_cons] at ih ⊢
  simpa [ne] using ih
theorem dr0 : ∀ {kvs : List (Key × V)} {kts : List (Str × T)} {vs : List (Key × Value)}, Rpk F H kvs kts -> KV kvs vs -> ∃ (xs : List V) (its : List Value), Rps F H xs (kts.map (·.2)) /\ Vals xs its /\ vs = (kts.map (·.1)).zipWith (fun k v => ((Sum.inr k : Key), v)) its /\ its.length = kts.length
 | _, _, _, .nil, r => by cases r; exact ⟨[], [], .nil, .nil, rfl, rfl⟩
 | _, _, _, .cons (k := k) h t, r => by
  cases r with
  | @cons a b as bs hab rr =>
   obtain ⟨xs, its, h1, h2, h3, h4⟩ := dr0 t rr
   obtain ⟨b1, b2⟩ := b
   obtain ⟨hk, hv⟩ := hab
   have hk : (Sum.inr k : Key) = b1 := hk
   subst hk
   exact ⟨_, _, .cons h h1, .cons hv h2, by rw [h3]; rfl, by simp [h4]⟩
theorem gM0 (I : Inv X pins σ H s) : ∀ (n : Nat) (t1 t2 : T) (b : Bool) (A : Around) (x y : V) (u v : Value), eqT n t1 t2 = some b -> A.units + n < cLine -> Rb F H x t1 -> Rb F H y t2 -> RelV x u -> RelV y v -> SeqAt.EqAt A s u v b := by
 intro n
 induction n with
 | zero => intro t1 t2 b A x y u v h; cases h
 | succ n ih =>
  intro t1 t2 b A x y u v h hu r1 r2 ru rv
  have hu0 : A.units < cLine := by omega
  have same : ∀ {a : Addr}, x = .ref a -> y = .ref a -> SeqAt.EqAt A s u v b := fun {a} e1 e2 => by
   subst e1 e2
   cases ru; cases rv
   have e := r1.inj r2
   subst e
   rw [eX0 _ _ _ h]
   exact SeqAt.EqAt.same _
  have flatc : (if bn0 t1 && bn0 t2 then some (eqV (toV t1) (toV t2)) else none) = some b -> SeqAt.EqAt A s u v b := fun h => by
   split at h
   ·rename_i hf
    rw [Bool.and_eq_true] at hf
    cases h
    obtain ⟨e1, f1⟩ := r1.flat hf.1
    obtain ⟨e2, f2⟩ := r2.flat hf.2
    subst e1 e2
    exact kU0 ru rv f1 f2
   ·cases h
  cases t1 with
  | tup xs =>
   cases t2 with
   | tup ys =>
    obtain ⟨a, vs, rfl, ha, q1⟩ := r1.tup_
    obtain ⟨c, ws, rfl, hc, q2⟩ := r2.tup_
    by_cases hac : a = c
    ·exact same rfl (by rw [hac])
    ·cases ru; cases rv
     obtain ⟨its, w1, p1, _⟩ := I.tuple (SqT.of ha)
     obtain ⟨jts, w2, p2, _⟩ := I.tuple (SqT.of hc)
     obtain ⟨f, hf, e⟩ := cK0 (A := A) I ih hu q1 q2 w1 w2 h
     rw [e]
     exact SeqAt.EqAt.of_refs hac (SeqAt.RcAt.tuples p1 p2 hu0 hf)
   | _ => exact flatc h
  | lst xs =>
   cases t2 with
   | lst ys =>
    obtain ⟨a, vs, rfl, ha, q1⟩ := r1.lst_
    obtain ⟨c, ws, rfl, hc, q2⟩ := r2.lst_
    by_cases hac : a = c
    ·exact same rfl (by rw [hac])
    ·cases ru; cases rv
     obtain ⟨its, w1, p1, _⟩ := I.list (SqL.of ha)
     obtain ⟨jts, w2, p2, _⟩ := I.list (SqL.of hc)
     obtain ⟨f, hf, e⟩ := cK0 (A := A) I ih hu q1 q2 w1 w2 h
     rw [e]
     by_cases hsz : its.toArray.size = jts.toArray.size
     ·rw [hsz, Nat.min_self, beq_self_eq_true, Bool.and_true]
      have := SeqAt.EqAt.of_refs hac (SeqAt.RcAt.lists p1.isList p2.isList hsz hu0 hf)
      rw [hsz] at this
      exact this
     ·have hb : (its.toArray.size == jts.toArray.size) = false := by simpa using hsz
      rw [hb, Bool.and_false]
      exact SeqAt.EqAt.of_refs hac (SeqAt.RcAt.lists_lengths p1.isList p2.isList (by simpa using hsz) hu0)
   | _ => exact flatc h
  | dct xs => exact flatc h
  | ins C fs => exact flatc h
  | exc C => exact flatc h
  | scr ns => exact flatc h
  | non => exact flatc (by cases t2 <;> exact h)
  | bl c => exact flatc (by cases t2 <;> exact h)
  | int i => exact flatc (by cases t2 <;> exact h)
  | str z => exact flatc (by cases t2 <;> exact h)
theorem mM0 (hu : X.A.units + 20 < cLine) : OpR X (compareOp .Eq) (fun x y H Q => ∃ F t1 t2 b, Rb F H x t1 /\ Rb F H y t2 /\ bn0 t1 = false /\ eqT 9 t1 t2 = some b /\ Q (.bl b) H) := by
 intro pins s σ H x y u v Q I ru rv h
 obtain ⟨F, t1, t2, b, r1, r2, nf, h, q⟩ := h
 have hu0 : X.A.units < cLine := by omega
 have fin : EP X pins σ Q (.bool b) s := ⟨.bl b, H, I, rfl, q⟩
 have ih := gM0 (F := F) I 8
 cases t1 with
 | tup xs =>
  cases t2 with
  | tup ys =>
   obtain ⟨a, vs, rfl, ha, q1⟩ := r1.tup_
   obtain ⟨c, ws, rfl, hc, q2⟩ := r2.tup_
   cases ru; cases rv
   obtain ⟨its, w1, p1, _⟩ := I.tuple (SqT.of ha)
   obtain ⟨jts, w2, p2, _⟩ := I.tuple (SqT.of hc)
   obtain ⟨f, hf, e⟩ := cK0 (A := X.A) I ih (by omega) q1 q2 w1 w2 h
   rw [e] at fin
   exact SeqAt.eq_tupleAt p1 p2 hu0 hf fin
  | _ => cases h
 | lst xs =>
  cases t2 with
  | lst ys =>
   obtain ⟨a, vs, rfl, ha, q1⟩ := r1.lst_
   obtain ⟨c, ws, rfl, hc, q2⟩ := r2.lst_
   cases ru; cases rv
   obtain ⟨its, w1, p1, _⟩ := I.list (SqL.of ha)
   obtain ⟨jts, w2, p2, _⟩ := I.list (SqL.of hc)
   obtain ⟨f, hf, e⟩ := cK0 (A := X.A) I ih (by omega) q1 q2 w1 w2 h
   rw [e] at fin
   by_cases hsz : its.toArray.size = jts.toArray.size
   ·rw [<- hsz, Nat.min_self, beq_self_eq_true, Bool.and_true] at fin
    exact SeqAt.eq_listAt p1.isList p2.isList hsz hu0 hf fin
   ·have hb : (its.toArray.size == jts.toArray.size) = false := by simpa using hsz
    rw [hb, Bool.and_false] at fin
    exact SeqAt.eq_list_lengthsAt p1.isList p2.isList (by simpa using hsz) hu0 fin
  | _ => cases h
 | _ => first | (cases nf; done) | (cases h; done) | (cases t2 <;> cases h)
theorem mL0 (hu : X.A.units + 20 < cLine) : OpR X (compareOp .NotEq) (fun x y H Q => ∃ F t1 t2 b, Rb F H x t1 /\ Rb F H y t2 /\ bn0 t1 = false /\ eqT 9 t1 t2 = some b /\ Q (.bl (!b)) H) := by
 intro pins s σ H x y u v Q I ru rv h
 obtain ⟨F, t1, t2, b, r1, r2, nf, h, q⟩ := h
 have hu0 : X.A.units < cLine := by omega
 have fin : EP X pins σ Q (.bool (!b)) s := ⟨.bl (!b), H, I, rfl, q⟩
 have ih := gM0 (F := F) I 8
 cases t1 with
 | tup xs =>
  cases t2 with
  | tup ys =>
   obtain ⟨a, vs, rfl, ha, q1⟩ := r1.tup_
   obtain ⟨c, ws, rfl, hc, q2⟩ := r2.tup_
   cases ru; cases rv
   obtain ⟨its, w1, p1, _⟩ := I.tuple (SqT.of ha)
   obtain ⟨jts, w2, p2, _⟩ := I.tuple (SqT.of hc)
   obtain ⟨f, hf, e⟩ := cK0 (A := X.A) I ih (by omega) q1 q2 w1 w2 h
   rw [e] at fin
   exact SeqAt.RcNeAt.tuples p1 p2 hu0 hf _ _ _ _ fin
  | _ => cases h
 | lst xs =>
  cases t2 with
  | lst ys =>
   obtain ⟨a, vs, rfl, ha, q1⟩ := r1.lst_
   obtain ⟨c, ws, rfl, hc, q2⟩ := r2.lst_
   cases ru; cases rv
   obtain ⟨its, w1, p1, _⟩ := I.list (SqL.of ha)
   obtain ⟨jts, w2, p2, _⟩ := I.list (SqL.of hc)
   obtain ⟨f, hf, e⟩ := cK0 (A := X.A) I ih (by omega) q1 q2 w1 w2 h
   rw [e] at fin
   by_cases hsz : its.toArray.size = jts.toArray.size
   ·rw [<- hsz, Nat.min_self, beq_self_eq_true, Bool.and_true] at fin
    exact SeqAt.RcNeAt.lists p1.isList p2.isList hsz hu0 hf _ _ _ _ fin
   ·have hb : (its.toArray.size == jts.toArray.size) = false := by simpa using hsz
    rw [hb, Bool.and_false] at fin
    exact SeqAt.RcNeAt.lists_lengths p1.isList p2.isList (by simpa using hsz) hu0 _ _ _ _ fin
  | _ => cases h
 | _ => first | (cases nf; done) | (cases h; done) | (cases t2 <;> cases h)
end
def φEq (s t : T) : Option T := if bn0 s && bn0 t then (if scal (toV s) (toV t) then some (.bl (decide (toV s = toV t))) else none) else if bn0 s then none else (eqT 9 s t).map .bl
def φNe (s t : T) : Option T := if bn0 s && bn0 t then (if scal (toV s) (toV t) then some (.bl (!decide (toV s = toV t))) else none) else if bn0 s then none else (eqT 9 s t).map fun b => .bl (!b)
theorem o_eq : Op2 (fun x y H Q => rEq x y H Q \/ ∃ F t1 t2 b, Rb F H x t1 /\ Rb F H y t2 /\ bn0 t1 = false /\ eqT 9 t1 t2 = some b /\ Q (.bl b) H) φEq := by
 intro F H x y s t u Q tk rx ry h k
 unfold φEq at h
 split at h
 ·rename_i hf
  rw [Bool.and_eq_true] at hf
  split at h
  ·cases h
   obtain ⟨e1, _⟩ := rx.flat hf.1
   obtain ⟨e2, _⟩ := ry.flat hf.2
   subst e1 e2
   exact .inl ⟨by assumption, k F _ H (.refl tk) (.bl _)⟩
  ·cases h
 ·split at h
  ·cases h
  ·rename_i nf
   cases q : eqT 9 s t with
   | none => rw [q] at h; cases h
   | some b => rw [q] at h; cases h; exact .inr ⟨F, s, t, b, rx, ry, by simpa using nf, q, k F _ H (.refl tk) (.bl _)⟩
theorem o_ne : Op2 (fun x y H Q => rNe x y H Q \/ ∃ F t1 t2 b, Rb F H x t1 /\ Rb F H y t2 /\ bn0 t1 = false /\ eqT 9 t1 t2 = some b /\ Q (.bl (!b)) H) φNe := by
 intro F H x y s t u Q tk rx ry h k
 unfold φNe at h
 split at h
 ·rename_i hf
  rw [Bool.and_eq_true] at hf
  split at h
  ·cases h
   obtain ⟨e1, _⟩ := rx.flat hf.1
   obtain ⟨e2, _⟩ := ry.flat hf.2
   subst e1 e2
   exact .inl ⟨by assumption, k F _ H (.refl tk) (.bl _)⟩
  ·cases h
 ·split at h
  ·cases h
  ·rename_i nf
   cases q : eqT 9 s t with
   | none => rw [q] at h; cases h
   | some b => rw [q] at h; cases h; exact .inr ⟨F, s, t, b, rx, ry, by simpa using nf, q, k F _ H (.refl tk) (.bl _)⟩
section
variable {X : Cx} {Y : Fx} {a b c : Expr} {pos : Pos} {f g h : En -> Option T}
theorem bX0 (hu : X.A.units + 20 < cLine) (ha : BE X Y a f) (hb : BE X Y b g) : QT X Y (.Compare a [.Eq] [b] pos) (qB (e2 φEq f g)) := dS0 (op_eq.or (mM0 hu)) o_eq ha hb (ey0 _)
theorem jr0 (hu : X.A.units + 20 < cLine) (ha : BE X Y a f) (hb : BE X Y b g) : QT X Y (.Compare a [.NotEq] [b] pos) (qB (e2 φNe f g)) := dS0 (op_ne.or (mL0 hu)) o_ne ha hb (ey0 _)
theorem mi0 (ha : BE X Y a f) (hb : BE X Y b g) : QT X Y (.Compare a [.Lt] [b] pos) (qB (e2 φLt f g)) := dS0 op_lt o_lt ha hb (ey0 _)
theorem mf0 (ha : BE X Y a f) (hb : BE X Y b g) : QT X Y (.Compare a [.Gt] [b] pos) (qB (e2 φGt f g)) := dS0 op_gt o_gt ha hb (ey0 _)
theorem qt_ge (ha : BE X Y a f) (hb : BE X Y b g) : QT X Y (.Compare a [.GtE] [b] pos) (qB (e2 φGe f g)) := dS0 op_ge o_ge ha hb (ey0 _)
theorem aT0 (ha : BE X Y a f) (hb : BE X Y b g) : SE X Y (.BinOp a .Add b pos) (e2 φAdd f g) := gv0 nv0 o_add ha hb
theorem cl0 (ha : BE X Y a f) (hb : BE X Y b g) : SE X Y (.BinOp a .Sub b pos) (e2 φSub f g) := gv0 mY0 o_sub ha hb
theorem ej0 (ha : BE X Y a f) (hb : BE X Y b g) : SE X Y (.BinOp a .Mult b pos) (e2 φMul f g) := gv0 nJ0 o_mul ha hb
theorem aO0 (ha : BE X Y a f) (hb : BE X Y b g) : SE X Y (.BinOp a .Mod b pos) (e2 φMod f g) := gv0 nc0 o_mod ha hb
theorem gU0 (ha : BE X Y a f) (hb : BE X Y b g) : SE X Y (.BinOp a .FloorDiv b pos) (e2 φDiv f g) := gv0 ll0 o_div ha hb
def φIn (neg : Bool) (s t : T) : Option T := match t with
 | .lst ts => if bn0 s && ts.all bn0 then some (.bl (if neg then !(ts.any fun y => eqV (toV y) (toV s)) else ts.any fun y => eqV (toV y) (toV s))) else none
 | .tup ts => if bn0 s && ts.all bn0 then some (.bl (if neg then !(ts.any fun y => eqV (toV y) (toV s)) else ts.any fun y => eqV (toV y) (toV s))) else none
 | _ => none
theorem iW0 (x : V) (ts : List T) : inV x (ts.map toV) = ts.any fun y => eqV (toV y) x := by
 unfold inV
 rw [List.any_map]
 rfl
theorem o_in {K : PySem.W.Frag} (neg : Bool) : Op2 (rIn K neg) (φIn neg) := by
 intro F H x y s t u Q tk rx ry h k
 unfold φIn at h
 split at h
 ·split at h
  ·rename_i hf
   rw [Bool.and_eq_true] at hf
   cases h
   obtain ⟨a, xs, rfl, ha, r⟩ := ry.lst_
   obtain ⟨e1, f1⟩ := rx.flat hf.1
   obtain ⟨e2, f2⟩ := r.flat hf.2
   refine ⟨a, xs, rfl, .inl (SqL.of ha), f1, f2, ?_⟩
   rw [e1, e2, iW0]
   exact k F _ H (.refl tk) (.bl _)
  ·cases h
 ·split at h
  ·rename_i hf
   rw [Bool.and_eq_true] at hf
   cases h
   obtain ⟨a, xs, rfl, ha, r⟩ := ry.tup_
   obtain ⟨e1, f1⟩ := rx.flat hf.1
   obtain ⟨e2, f2⟩ := r.flat hf.2
   refine ⟨a, xs, rfl, .inr (SqT.of ha), f1, f2, ?_⟩
   rw [e1, e2, iW0]
   exact k F _ H (.refl tk) (.bl _)
  ·cases h
 ·cases h
theorem jO0 (ha : BE X Y a f) (hb : BE X Y b g) (hm : behindInMarks .NotIn b = false := by with_unfolding_all rfl) : QT X Y (.Compare a [.NotIn] [b] pos) (qB (e2 (φIn true) f g)) := dS0 fM0 (o_in true) ha hb hm
def bR0 (φ φ' : T -> T -> Option T) (f g h : En -> Option T) : En -> Option T := fun ε => (f ε).bind fun s => (g ε).bind fun t => (φ s t).bind fun z => match z with
 | .bl true => (h ε).bind fun u => φ' t u
 | .bl false => some (.bl false)
 | _ => none
theorem hn0 {r r' : R2} {φ φ' : T -> T -> Option T} (o : Op2 r φ) (o' : Op2 r' φ') (σ : St) (H : Hp) (Q : VK) (q : Tr Y (bR0 φ φ' f g h) σ H Q) : jB0 r r' (TrB Y f) (TrB Y g) (TrB Y h) σ H Q := by
 obtain ⟨F, ε, u, rl, hf, k⟩ := q
 unfold bR0 at hf
 cases q1 : f ε with
 | none => rw [q1] at hf; cases hf
 | some s =>
  cases q2 : g ε with
  | none => rw [q1] at hf; simp only [Option.bind_some, q2] at hf; cases hf
  | some t =>
   rw [q1] at hf
   simp only [Option.bind_some, q2] at hf
   cases q3 : φ s t with
   | none => rw [q3] at hf; cases hf
   | some z =>
    rw [q3] at hf
    simp only [Option.bind_some] at hf
    refine ⟨F, ε, s, rl, q1, fun F1 x H1 m1 r1 => ⟨F1, ε, t, rl.mono m1, q2, fun F2 y H2 m2 r2 => ?_⟩⟩
    refine o F2 H2 x y s t z _ m2.trk (r1.keep m2) r2 q3 fun F3 v H3 m3 r3 => ?_
    split at hf
    ·refine ⟨true, (Rb.v r3).bl_, ?_⟩
     rw [if_pos rfl]
     cases q4 : h ε with
     | none => rw [q4] at hf; cases hf
     | some w =>
      rw [q4] at hf
      simp only [Option.bind_some] at hf
      exact ⟨F3, ε, w, rl.mono ((m1.trans m2).trans m3), q4, fun F4 y' H4 m4 r4 => o' F4 H4 y y' t w u Q m4.trk (r2.keep (m3.trans m4)) r4 hf fun F5 v' H5 m5 r5 => k F5 v' H5 ((((m1.trans m2).trans m3).trans m4).trans m5) r5⟩
    ·cases hf
     refine ⟨false, (Rb.v r3).bl_, ?_⟩
     rw [if_neg Bool.false_ne_true]
     exact k F3 _ H3 ((m1.trans m2).trans m3) (.bl _)
    ·cases hf
theorem jL0 {op op' : CmpOp} {r r' : R2} {φ φ' : T -> T -> Option T} (ho : OpR X (compareOp op) r) (ho' : OpR X (compareOp op') r') (o : Op2 r φ) (o' : Op2 r' φ') (ha : BE X Y a f) (hb : BE X Y b g) (hc : BE X Y c h)
  (hm : lastMarks [op, op'] [b, c] = false := by with_unfolding_all rfl) : SE X Y (.Compare a [op, op'] [b, c] pos) (bR0 φ φ' f g h) := PE.imp (kE0 ho ho' ha hb hc hm) (hn0 o o')
theorem jP0 {op op' : CmpOp} {r r' : R2} {φ φ' : T -> T -> Option T} (ho : OpR X (compareOp op) r) (ho' : OpR X (compareOp op') r') (o : Op2 r φ) (o' : Op2 r' φ') (ha : BE X Y a f) (hb : BE X Y b g) (hc : BE X Y c h)
  (hm : lastMarks [op, op'] [b, c] = false := by with_unfolding_all rfl) : QT X Y (.Compare a [op, op'] [b, c] pos) (qB (bR0 φ φ' f g h)) := PT.imp (kr0 ho ho' ha hb hc hm) (gu0 (hn0 o o'))
def eOr (f g : En -> Option T) : En -> Option T := fun ε => (f ε).bind fun z => match z with | .bl true => some (.bl true) | .bl false => g ε | _ => none
def eAnd (f g : En -> Option T) : En -> Option T := fun ε => (f ε).bind fun z => match z with | .bl true => g ε | .bl false => some (.bl false) | _ => none
def eNot (f : En -> Option T) : En -> Option T := fun ε => (f ε).bind fun z => match z with | .bl k => some (.bl (!k)) | _ => none
variable {rest : List Expr}
theorem mD0 {x : Str} {u : Value} {v : V} {t : T} (hg : Gl X x) (hm : X.mg x = some u) (r : RelV v u) (hr : ∀ F H, Rp F H v t) (hd : (x == ("__debug__" : Str)) = false := by decide) : SE X Y (.Name x pos) (eC t) := iS0 (gn0 hg hm r hd) hr
end
end L2.BD
set_option Elab.async false
set_option linter.all false
set_option maxRecDepth 100000
set_option maxHeartbeats 4000000
namespace L2.BD
open PySem PySem.Spec PyProof.Rows
def tyT : T -> Option String
 | .non => some "NoneType" | .bl _ => some "bool" | .int _ => some "int" | .str _ => some "str" | .tup _ => some "tuple" | .lst _ => some "list" | .dct _ => some "dict" | .ins _ _ => none | .exc _ => none | .scr _ => none
inductive Bty : String -> Prop
 | bool : Bty "bool" | int : Bty "int" | str : Bty "str" | list : Bty "list" | tuple : Bty "tuple" | dict : Bty "dict"
def isT (n : String) (t : T) : Option Bool := match t with
 | .non => some false
 | .bl _ => some (n == "bool" || n == "int")
 | .int _ => some (n == "int")
 | .str _ => some (n == "str")
 | .tup _ => some (n == "tuple")
 | .lst _ => some (n == "list")
 | .dct _ => some (n == "dict")
 | .ins _ _ => none
 | .exc _ => none
 | .scr _ => none
theorem ty_of {K : PySem.W.Frag} {F : Addr -> Prop} {H : Hp} {v : V} {t : T} {n : String} {b : Bool} (h : Bty n) (r : Rb F H v t) (e : isT n t = some b) : ∃ u, TyOf K H v u /\ PySem.W.kitOne K u (.type n) = some b := by
 cases t with
 | non => cases r.non_; refine ⟨_, .non, ?_⟩; cases e; cases h <;> rfl
 | bl c => cases r.bl_; refine ⟨_, .bl c, ?_⟩; cases e; cases h <;> rfl
 | int i => cases r.int_; refine ⟨_, .int i, ?_⟩; cases e; cases h <;> rfl
 | str x => cases r.str_; refine ⟨_, .str x, ?_⟩; cases e; cases h <;> rfl
 | tup ts => obtain ⟨a, xs, rfl, ha, _⟩ := r.tup_; refine ⟨_, .tup ha, ?_⟩; cases e; cases h <;> rfl
 | lst ts => obtain ⟨a, xs, rfl, ha, _⟩ := r.lst_; refine ⟨_, .lst ha, ?_⟩; cases e; cases h <;> rfl
 | dct ts =>
  obtain ⟨a, xs, rfl, ha, _⟩ := r.dct_
  rcases ha with ha | ⟨o, ha⟩
  ·refine ⟨_, .dK ha, ?_⟩; cases e; cases h <;> rfl
  ·refine ⟨_, .fD ha, ?_⟩; cases e; cases h <;> rfl
 | ins C fs => cases e
 | exc C => cases e
 | scr ns => cases e
section
variable {X : Cx} {Y : Fx} {e a b : Expr} {es : List Expr} {pos p p2 : Pos} {f g : En -> Option T} {fa : En -> Option (List T)}
theorem gx0 : cM0 X (.builtin "isinstance") (fun xs H Q => ∃ x n t c, xs = [x, .ty n] /\ TyOf X.K H x t /\ PySem.W.kitOne X.K t (.type n) = some c /\ Q (.bl c) H) := by
 intro pins s σ H xs us Q I r h
 obtain ⟨x, n, t, c, rfl, ty, e, q⟩ := h
 obtain ⟨u, w', rfl, rx, ry⟩ := jw0 r
 cases ry
 exact gc0 I rx ty e fun tk => ⟨.bl c, H, I.tok _, rfl, q⟩
def eIs (n : String) (f : En -> Option T) : En -> Option T := fun ε => (f ε).bind fun t => (isT n t).map .bl
theorem fr0 {n : String} {x : Str} (hn : Bty n) (hg : Gl X "isinstance") (hm : X.mg "isinstance" = none) (hgx : Gl X x) (hmx : X.mg x = none) (hvx : bootBuiltins x = some (.type n)) (ha : BE X Y a f)
  (hv : bootBuiltins "isinstance" = some (.builtin "isinstance") := by rfl) (hnn : x ≠ "__name__" := by decide) (hdb : (x == ("__debug__" : Str)) = false := by decide)
  (he : starEach [a, .Name x p2] X.env = [(false, eval a X.env), (false, eval (.Name x p2) X.env)] := by rfl) (hpl : (backTo pos (starEach [.Name x p2] X.env)).any (·.1) = false := by rfl) :
  SE X Y (.Call (.Name "isinstance" p) [a, .Name x p2] [] pos) (eIs n f) :=
 PE.imp (di0 gx0 hg hm hv (bu0 ha (bu0 (jm0 (v := .ty n) hgx hmx hvx rfl hnn hdb) cN0 rfl) he) (by decide) (by decide) he hpl) fun σ H Q ⟨F, ε, u, rl, hf, k⟩ => by
  unfold eIs at hf
  cases q : f ε with
  | none => rw [q] at hf; cases hf
  | some t =>
   rw [q] at hf
   simp only [Option.bind_some] at hf
   cases q2 : isT n t with
   | none => rw [q2] at hf; cases hf
   | some c =>
    rw [q2] at hf
    cases hf
    refine ⟨F, ε, t, rl, q, fun F1 v H1 m1 r1 => ?_⟩
    obtain ⟨u, h1, h2⟩ := ty_of (K := X.K) hn r1 q2
    exact ⟨v, n, u, c, rfl, h1, h2, k F1 _ H1 m1 (.bl c)⟩
theorem cm0 (hg : Gl X "len") (hm : X.mg "len" = none) (ha : BA X Y [a] fa) (hv : bootBuiltins "len" = some (.builtin "len") := by rfl) (he : starEach [a] X.env = [(false, eval a X.env)] := by rfl) : SE X Y (.Call (.Name "len" p) [a] [] pos) (av0 φLen fa) := dQ0 kK0 o_len hg hm hv ha (by decide) (by decide) he rfl
theorem cc0 (hg : Gl X "tuple") (hm : X.mg "tuple" = none) (ha : BA X Y [a] fa) (hv : bootBuiltins "tuple" = some (.type "tuple") := by rfl) (he : starEach [a] X.env = [(false, eval a X.env)] := by rfl) : SE X Y (.Call (.Name "tuple" p) [a] [] pos) (av0 bw0 fa) := fz0 eY0 ln0 hg hm hv ha (by decide) (by decide) he rfl
theorem dp0 (hg : Gl X "list") (hm : X.mg "list" = none) (ha : BA X Y [a] fa) (hv : bootBuiltins "list" = some (.type "list") := by rfl) (he : starEach [a] X.env = [(false, eval a X.env)] := by rfl) : FE X Y (.Call (.Name "list" p) [a] [] pos) (av0 cU0 fa) := fF0 fT0 nV0 hg hm hv ha (by decide) (by decide) he rfl
theorem mc0 (hc : X.calm = true) (hg : Gl X "min") (hm : X.mg "min" = none) (ha : BA X Y [a, b] fa) (hv : bootBuiltins "min" = some (.builtin "min") := by rfl) (he : starEach [a, b] X.env = (false, eval a X.env) :: starEach [b] X.env := by rfl) (hpl : (backTo pos (starEach [b] X.env)).any (·.1) = false := by rfl) : SE X Y (.Call (.Name "min" p) [a, b] [] pos) (av0 hI0 fa) := dQ0 (jy0 hc) mJ0 hg hm hv ha (by decide) (by decide) he hpl
theorem mb0 (hc : X.calm = true) (hg : Gl X "max") (hm : X.mg "max" = none) (ha : BA X Y [a, b] fa) (hv : bootBuiltins "max" = some (.builtin "max") := by rfl) (he : starEach [a, b] X.env = (false, eval a X.env) :: starEach [b] X.env := by rfl) (hpl : (backTo pos (starEach [b] X.env)).any (·.1) = false := by rfl) : SE X Y (.Call (.Name "max" p) [a, b] [] pos) (av0 hD0 fa) := dQ0 (iH0 hc) nj0 hg hm hv ha (by decide) (by decide) he hpl
def dE0 : List T -> Option (List Int)
 | [] => some []
 | .int i :: ts => (dE0 ts).map (i :: ·)
 | _ => none
theorem jz0 (ns : List Int) : dE0 (ns.map T.int) = some ns := by
 induction ns with
 | nil => rfl
 | cons n ns ih => show (dE0 (ns.map T.int)).map (n :: ·) = _; rw [ih]; rfl
theorem gX0 : ∀ {ts : List T} {ns : List Int}, dE0 ts = some ns -> ts = ns.map T.int
 | [], ns, h => by cases h; rfl
 | .int i :: ts, ns, h => by
  have h : (dE0 ts).map (i :: ·) = some ns := h
  cases q : dE0 ts with
  | none => rw [q] at h; cases h
  | some ms => rw [q] at h; cases h; rw [gX0 q]; rfl
theorem Rps.ints {F : Addr -> Prop} {H : Hp} : ∀ {xs : List V} {ns : List Int}, Rps F H xs (ns.map T.int) -> xs = ns.map V.int
 | _, [], h => by cases h; rfl
 | _, n :: ns, h => by
  cases h with
  | cons h r => cases h; rw [Rps.ints r]; rfl
def φSum : List T -> Option T
 | [.lst ts] => (dE0 ts).map fun ns => .int ns.sum
 | _ => none
theorem Rp1.lst_ {F : Addr -> Prop} {H : Hp} {a : Addr} {ts : List T} (h : Rp1 F H a (.lst ts)) : ∃ xs, H a = some (.lst xs) /\ Rps F H xs ts := by
 cases h with | lst h r => exact ⟨_, h, r⟩
theorem Rp1.dct_ {F : Addr -> Prop} {H : Hp} {a : Addr} {ts : List (Str × T)} (h : Rp1 F H a (.dct ts)) : ∃ xs, H a = some (.dK xs) /\ Rpk F H xs ts := by
 cases h with | dct h r => exact ⟨_, h, r⟩
theorem Rp1.ins_ {F : Addr -> Prop} {H : Hp} {a C : Addr} {ts : List (Str × T)} (h : Rp1 F H a (.ins C ts)) : ∃ dx xs, H a = some (.ins C dx xs) /\ Rpf F H xs ts := by
 cases h with | ins h r => exact ⟨_, _, h, r⟩
def sApp (i : Nat) (f : En -> Option T) : En -> Option Fl := fun ε => match ε[i]? with
 | some (.ow (.lst ts)) => (f ε).bind fun t => if ts.length < big then some (.nx (ε.set i (.ow (.lst (ts ++ [t]))))) else none
 | _ => none
theorem jn0 {i : Nat} {x : Str} {px apos cpos : Pos} (hx : PE X (.Name x px) (tVar i)) (he : SE X Y e f)
  (hbase : attributeBase (.Name x px) "append" X.env (eval (.Name x px) X.env) = eval (.Name x px) X.env := by rfl)
  (hfew : ((backTo cpos (starEach [e] X.env)).all (fun x => !x.1) && (backToKw cpos (keywordEach [] X.env)).all (fun x => x.1.isSome)
   && decide (([e] : List Expr).length + ([] : List Keyword).length + (if ([] : List Keyword).isEmpty then 0 else 1) < 30)) = true := by rfl)
  (hline : (apos.endLine == cpos.line) = true := by rfl) (hs : starEach [e] X.env = [(false, eval e X.env)] := by rfl) (hsw : swapsWith (.Call (.Attribute (.Name x px) "append" apos) [e] [] cpos) none pos.line X.env = pure false := by rfl) :
  SS X Y (.Expr (.Call (.Attribute (.Name x px) "append" apos) [e] [] cpos) pos) (sApp i f) :=
 PS.imp (eP0 (jK0 PySem.F.plainAttrs_list PySem.F.slot_list_append PySem.F.type_list_append id0 hx (bu0 he cN0 hs) hbase hfew hline hs rfl) hsw) fun D σ H ⟨F, ε, fl, r, hg, k⟩ => by
  unfold sApp at hg
  split at hg
  ·rename_i ts e1
   obtain ⟨a, s1, nf, h0, hr⟩ := r.ow i _ e1
   cases q : f ε with
   | none => rw [q] at hg; cases hg
   | some t =>
    rw [q] at hg
    simp only [Option.bind_some] at hg
    split at hg
    ·rename_i hb
     cases hg
     obtain ⟨xs, ha, rs⟩ := hr.lst_
     ·refine ⟨_, s1, .inl ⟨rfl, xs, SqL.of ha⟩, F, ε, t, r, q, fun F1 v H1 m1 r1 => ⟨a, xs, v, rfl, rfl, m1.ext _ _ ha, hj0 (by rw [rs.length]; exact hb), ?_⟩⟩
      have hne : ∀ ys, H1 a ≠ some (.tup ys) := fun ys z => by rw [m1.ext _ _ ha] at z; cases z
      have kp : Keep F1 H1 F1 (upd H1 a (.lst (xs ++ [v]))) := by
       have nf1 : ¬ F1 a := fun z => (m1.new a z).elim nf fun w => by rw [ha] at w; cases w
       exact ⟨fun _ h => h, fun b u f q => by rw [ao0 (fun (z : b = a) => nf1 (z ▸ f))]; exact q, fun b ys q => by rw [ao0 (fun (z : b = a) => hne ys (z ▸ q))]; exact q⟩
      obtain ⟨r2, k2⟩ := (r.mono m1).write (o := .lst (xs ++ [v])) (t' := .lst (ts ++ [t])) e1 s1 hne (.lst aq0 (((rs.keep m1.keep).append (.cons r1 .nil)).keep kp))
      exact k F1 σ _ (m1.keep.trans k2) r2
    ·cases hg
  ·cases hg
end
end L2.BD
set_option Elab.async false
set_option linter.all false
set_option maxRecDepth 100000
set_option maxHeartbeats 4000000
namespace L2.BD
open PySem PySem.Spec PyProof.Rows
section
variable {X : Cx} {Y : Fx} {e a b : Expr} {es : List Expr} {pos p p2 : Pos} {f g : En -> Option T} {fa : En -> Option (List T)}
def φNeg : T -> Option T | .int i => some (.int (-i)) | _ => none
theorem dg0 (ha : BE X Y a f) : SE X Y (.UnaryOp .USub a pos) (e1 φNeg f) := PE.imp (pe_un np0 ha) fun σ H Q ⟨F, ε, u, rl, hf, k⟩ => by
 unfold e1 at hf
 cases q : f ε with
 | none => rw [q] at hf; cases hf
 | some t =>
  rw [q] at hf
  refine ⟨F, ε, t, rl, q, fun F1 v H1 m1 r1 => ?_⟩
  unfold φNeg at hf
  simp only [Option.bind_some] at hf
  split at hf
  ·cases hf; exact ⟨_, r1.int_, k F1 _ H1 m1 (.int _)⟩
  ·cases hf
def kW0 (K : PySem.W.Frag) : R2 := fun x y H Q => ∃ a b xs ys, x = .ref a /\ y = .ref b /\ SqT K H a xs /\ SqT K H b ys /\ xs = [] /\ Q (.ref b) H
theorem op_catT' : OpR X (binaryOp .Add) (kW0 X.K) := by
 intro pins s σ H x y v u Q I rx ry h
 obtain ⟨a, b, xs, ys, rfl, rfl, ha, hb, hx, q⟩ := h
 cases rx
 cases ry
 obtain ⟨its, r1, p1, _⟩ := I.tuple ha
 obtain ⟨its2, r2, p2, _⟩ := I.tuple hb
 subst hx
 cases r1
 obtain ⟨⟨cls, dd, data, sl⟩, ho, hc, n, hd⟩ := id p1
 obtain ⟨⟨cls2, dd2, data2, sl2⟩, ho2, hc2, n2, hd2⟩ := id p2
 cases hc; cases hd; cases hc2; cases hd2
 exact concat_meets ⟨_, ho, rfl⟩ ⟨_, ho2, rfl⟩ noFill_tuple_add seq_tuple_add PySem.F.slot_tuple_add PySem.F.entry_tuple_add (PySem.F.args_tuple_add_2 _ _)
  (tuple_addW0 a b _ _ n n2 dd dd2 sl sl2 rfl) ⟨ho, ho2, ⟨.ref b, H, I, rfl, q⟩⟩
def ic0 : T -> T -> Option T | .tup ts, .tup us => if ts.length + us.length <= big then some (.tup (ts ++ us)) else none | _, _ => none
theorem ne0 {K : PySem.W.Frag} : Op2 (fun x y H Q => kW0 K x y H Q \/ rCatT K x y H Q) ic0 := by
 intro F H x y s t u Q tk rx ry h k
 unfold ic0 at h
 split at h
 ·split at h
  ·rename_i hb
   cases h
   obtain ⟨a, xs, rfl, ha, r1⟩ := rx.tup_
   obtain ⟨b, ys, rfl, hb', r2⟩ := ry.tup_
   cases r1 with
   | nil => exact .inl ⟨a, b, _, ys, rfl, rfl, SqT.of ha, SqT.of hb', rfl, k F _ H (.refl tk) (.tup hb' r2)⟩
   | cons h1 r1 =>
    refine .inr ⟨a, b, _, ys, rfl, rfl, SqT.of ha, SqT.of hb', by simp, es0 (by have := r1.length; have := r2.length; simp at hb ⊢; omega), fun z => ?_, fun z pp hp => ?_⟩
    ·subst z
     cases r2
     rw [List.append_nil] at k
     exact k F _ H (.refl tk) (.tup ha (.cons h1 r1))
    ·exact k F _ _ (Mono.laid tk hp) (.tup aq0 (((Rps.cons h1 r1).append r2).laid hp tk))
  ·cases h
 ·cases h
theorem ml0 (ha : BE X Y a f) (hb : BE X Y b g) : SE X Y (.BinOp a .Add b pos) (e2 ic0 f g) := gv0 (op_catT'.or mG0) ne0 ha hb
def Op2F (r : R2) (φ : T -> T -> Option T) : Prop := ∀ F H x y s t u Q, Trk F H -> Rb F H x s -> Rb F H y t -> φ s t = some u -> (∀ F' a H', Mono F H F' H' -> H a = none -> ¬ F' a -> Rp1 F' H' a u -> Q (.ref a) H') -> r x y H Q
theorem ns0 {r : R2} {φ : T -> T -> Option T} (o : Op2F r φ) (σ : St) (H : Hp) (Q : VK) (h : TrF Y (e2 φ f g) σ H Q) : tOp r (TrB Y f) (TrB Y g) σ H Q := by
 obtain ⟨F, ε, u, rl, hf, k⟩ := h
 unfold e2 at hf
 cases q1 : f ε with
 | none => rw [q1] at hf; cases hf
 | some s =>
  rw [q1] at hf
  cases q2 : g ε with
  | none => simp only [Option.bind_some, q2] at hf; cases hf
  | some t =>
   simp only [Option.bind_some, q2] at hf
   refine ⟨F, ε, s, rl, q1, fun F1 x H1 m1 r1 => ⟨F1, ε, t, rl.mono m1, q2, fun F2 y H2 m2 r2 => ?_⟩⟩
   exact o F2 H2 x y s t u Q m2.trk (r1.keep m2) r2 hf fun F3 c H3 m3 n nf r3 => k F3 c H3 ((m1.trans m2).trans m3) ((m1.trans m2).free n) nf r3
def cV0 : T -> T -> Option T | .lst ts, .lst us => if ts.length + us.length <= big then some (.lst (ts ++ us)) else none | _, _ => none
theorem mO0 : Op2F rCat cV0 := by
 intro F H x y s t u Q tk rx ry h k
 unfold cV0 at h
 split at h
 ·split at h
  ·rename_i hb
   cases h
   obtain ⟨a, xs, rfl, ha, r1⟩ := rx.lst_
   obtain ⟨b, ys, rfl, hb', r2⟩ := ry.lst_
   exact ⟨a, b, xs, ys, rfl, rfl, ha, hb', es0 (by rw [r1.length, r2.length]; exact hb), fun pp hp => k F _ _ (Mono.laid tk hp) hp (Trk.new tk hp) (.lst aq0 ((r1.append r2).laid hp tk))⟩
  ·cases h
 ·cases h
theorem dl0 (ha : BE X Y a f) (hb : BE X Y b g) : FE X Y (.BinOp a .Add b pos) (e2 cV0 f g) := PE.imp (pe_op mI0 ha hb) (ns0 mO0)
theorem sl_tupW : SlR X (fun x lo hi H Q => ∃ a xs, x = .ref a /\ SqT X.K H a xs /\ HT.sIx xs.length 0 lo = 0 /\ HT.sIx xs.length xs.length hi = xs.length /\ Q (.ref a) H) := by
 intro pins s σ H x v vl vu lo hi sl Q I rx hs pl pu h
 obtain ⟨a, xs, rfl, hx, w1, w2, q⟩ := h
 cases rx
 obtain ⟨its, r, ht, hz⟩ := I.tuple hx
 have hlen : its.toArray.size = xs.length := by rw [List.size_toArray]; exact r.length.symm
 refine ⟨"tuple", _, PyProof.Rows.slot_tuple_getitem.lookup, ht.typeIs, ?_⟩
 obtain ⟨os, hos, hcs, hds⟩ := id hs
 have hTs : s.TypeIs (.ref sl) "slice" := ⟨os, hos, hcs⟩
 unfold getItem
 try with_reducible refine wpAny_holding ?_
 first | refine wpAny_bind (wpAny_pure ?_) | skip
 refine wpAny_bind (wpAny_sequenceKey ht.typeIs (by decide) ?_)
 refine wpAny_bind (wpAny_callSpecial?_slot (name := Str.ofString "__getitem__") ht.typeIs PyProof.Rows.slot_tuple_getitem (wpAny_call_entry PyProof.Rows.slot_tuple_getitem ht.typeIs entry_tuple_getitem ?_ (args_tuple_getitem _ _)))
 show wpAny _ _ (Builtin.Tuple.tupleItemsOf (.ref a) >>= _) _ _ s
 refine wpAny_bind (tupleItemsOf_ ht (wpAny_bind (wpAny_typeOf hTs ?_)))
 rw [if_pos (by decide)]
 refine wpAny_bind (HT.sliceApplied_gen hs pl pu ?_)
 show wpAny _ _ (if (((HT.sIx its.toArray.size 0 lo : Nat) : Int) == 0 && (1 : Int) == 1 && (HT.sIx its.toArray.size its.toArray.size hi - HT.sIx its.toArray.size 0 lo) == its.toArray.size) = true then _ else _) _ _ s
 rw [hlen, w1, w2, if_pos (by simp)]
 have fin : EP X pins σ Q (.ref a) s := ⟨.ref a, H, I, rfl, q⟩
 unfold Builtin.Tuple.tupleIsExact
 first
  | exact wpAny_bind (wpAny_bind (wpAny_typeOf ht.typeIs (wpAny_pure (by rw [if_pos (by decide)]; exact wpAny_bind (wpAny_rule (wpAny_bind (wpAny_pure (wpAny_pure ⟨_, rfl, wpAny_pure fin⟩))))))))
  | exact wpAny_bind (wpAny_bind (wpAny_typeOf ht.typeIs (wpAny_pure (by rw [if_pos (by decide)]; exact wpAny_bind (wpAny_rule (wpAny_pure ⟨_, rfl, wpAny_pure fin⟩))))))
  | exact wpAny_bind (wpAny_bind (wpAny_typeOf ht.typeIs (wpAny_pure (by rw [if_pos (by decide)]; exact wpAny_bind (wpAny_rule (wpAny_bind (wpAny_pure ⟨_, rfl, wpAny_pure fin⟩)))))))
def bk0 (f : Option (En -> Option T)) : En -> Option (Option Int) := fun ε => match f with
 | none => some none
 | some f => match f ε with | some (.int i) => some (some i) | _ => none
def TrO (Y : Fx) (f : En -> Option (Option Int)) : TO := fun σ H Q => ∃ F ε o, Rel Y F ε σ H /\ f ε = some o /\ ∀ F' H', Mono F H F' H' -> Q o H'
theorem ds0 : PO X none (TrO Y (bk0 none)) := fun pins s σ H Q I ⟨F, ε, o, r, hf, k⟩ => by
 cases hf
 exact lZ0 pins s σ H Q I (k F H r.refl)
theorem cC0 (h : BE X Y e f) : PO X (some e) (TrO Y (bk0 (some f))) := fun pins s σ H Q I ⟨F, ε, o, r, hf, k⟩ => by
 refine lD0 h pins s σ H Q I ?_
 have hf : (match f ε with | some (.int i) => some (some i) | _ => none) = some o := hf
 split at hf
 ·cases hf
  exact ⟨F, ε, _, r, by assumption, fun F1 v H1 m1 r1 => ⟨_, r1.int_, k F1 H1 m1⟩⟩
 ·cases hf
def cutT (ts : List T) (lo hi : Option Int) : List T := (ts.drop (HT.sIx ts.length 0 lo)).take (HT.sIx ts.length ts.length hi - HT.sIx ts.length 0 lo)
def eSlT (f : En -> Option T) (lo hi : En -> Option (Option Int)) : En -> Option T := fun ε => match f ε with
 | some (.tup ts) => (lo ε).bind fun l => (hi ε).bind fun h => some (.tup (cutT ts l h))
 | _ => none
def eSlL (f : En -> Option T) (lo hi : En -> Option (Option Int)) : En -> Option T := fun ε => match f ε with
 | some (.lst ts) => (lo ε).bind fun l => (hi ε).bind fun h => some (.lst (cutT ts l h))
 | _ => none
theorem Rps.cut {F : Addr -> Prop} {H : Hp} {xs : List V} {ts : List T} (r : Rps F H xs ts) (lo hi : Option Int) : Rps F H (cutV xs lo hi) (cutT ts lo hi) := by
 unfold cutV cutT
 rw [r.length]
 exact (r.drop _).take _
variable {lo hi : Option Expr} {fl fh : En -> Option (Option Int)}
theorem nZ0 (ha : BE X Y a f) (hl : PO X lo (TrO Y fl)) (hh : PO X hi (TrO Y fh)) : SE X Y (.Subscript a (.Slice lo hi none p2) pos) (eSlT f fl fh) := PE.imp (hq0 (sl_tupW.or mW0) ha hl hh) fun σ H Q ⟨F, ε, u, rl, hf, k⟩ => by
 unfold eSlT at hf
 split at hf
 ·rename_i ts qf
  cases q1 : fl ε with
  | none => rw [q1] at hf; cases hf
  | some l =>
   cases q2 : fh ε with
   | none => rw [q1] at hf; simp only [Option.bind_some, q2] at hf; cases hf
   | some h =>
    rw [q1] at hf
    simp only [Option.bind_some, q2] at hf
    cases hf
    refine ⟨F, ε, _, rl, qf, fun F1 v H1 m1 r1 => ⟨F1, ε, l, rl.mono m1, q1, fun F2 H2 m2 => ⟨F2, ε, h, rl.mono (m1.trans m2), q2, fun F3 H3 m3 => ?_⟩⟩⟩
    obtain ⟨c, xs, rfl, hc, rs⟩ := (r1.keep (m2.trans m3)).tup_
    have m13 : Mono F H F3 H3 := (m1.trans m2).trans m3
    by_cases hw : HT.sIx xs.length 0 l = 0 /\ HT.sIx xs.length xs.length h = xs.length
    ·refine .inl ⟨c, xs, rfl, SqT.of hc, hw.1, hw.2, k F3 _ H3 m13 ?_⟩
     have e : cutT ts l h = ts := by
      unfold cutT
      rw [<- rs.length, hw.1, hw.2, List.drop_zero, Nat.sub_zero, rs.length, List.take_length]
     rw [e]
     exact .tup hc rs
    ·exact .inr ⟨c, xs, rfl, SqT.of hc, hw, fun pp hp => k F3 _ _ (m13.trans (Mono.laid m3.trk hp)) (.tup aq0 ((rs.cut l h).laid hp m3.trk))⟩
 ·cases hf
theorem eK0 (ha : BE X Y a f) (hl : PO X lo (TrO Y fl)) (hh : PO X hi (TrO Y fh)) : FE X Y (.Subscript a (.Slice lo hi none p2) pos) (eSlL f fl fh) := PE.imp (hq0 lW0 ha hl hh) fun σ H Q ⟨F, ε, u, rl, hf, k⟩ => by
 unfold eSlL at hf
 split at hf
 ·rename_i ts qf
  cases q1 : fl ε with
  | none => rw [q1] at hf; cases hf
  | some l =>
   cases q2 : fh ε with
   | none => rw [q1] at hf; simp only [Option.bind_some, q2] at hf; cases hf
   | some h =>
    rw [q1] at hf
    simp only [Option.bind_some, q2] at hf
    cases hf
    refine ⟨F, ε, _, rl, qf, fun F1 v H1 m1 r1 => ⟨F1, ε, l, rl.mono m1, q1, fun F2 H2 m2 => ⟨F2, ε, h, rl.mono (m1.trans m2), q2, fun F3 H3 m3 => ?_⟩⟩⟩
    obtain ⟨c, xs, rfl, hc, rs⟩ := (r1.keep (m2.trans m3)).lst_
    have m13 : Mono F H F3 H3 := (m1.trans m2).trans m3
    exact ⟨c, xs, rfl, SqL.of hc, fun pp hp => k F3 _ _ (m13.trans (Mono.laid m3.trk hp)) (m13.free hp) (Trk.new m3.trk hp) (.lst aq0 ((rs.cut l h).laid hp m3.trk))⟩
 ·cases hf
def idxT (ts : List T) (s : T) : Option Nat := ts.findIdx? fun y => eqV (toV y) (toV s)
def cv0 (o : T) (xs : List T) : Option T := match o, xs with
 | .lst ts, [s] => if bn0 s && ts.all bn0 && decide (ts.length <= big) then (idxT ts s).map fun (j : Nat) => .int (j : Int) else none
 | _, _ => none
def eM0 (o : T) (xs : List T) : Option T := match o, xs with
 | .lst ts, [s] => if bn0 s && ts.all bn0 then some (.int ((ts.countP fun y => eqV (toV y) (toV s) : Nat) : Int)) else none
 | _, _ => none
theorem fs0 {x : V} : ∀ {xs : List V} {us : List Value}, Vals xs us -> xs.all co0 = true -> us.countP (eqU x) = xs.countP fun y => eqV y x
 | _, _, .nil, _ => rfl
 | y :: xs, u :: us, .cons r t, f => by
  rw [List.all_cons, Bool.and_eq_true] at f
  rw [List.countP_cons, List.countP_cons, gZ0 r f.1, fs0 t f.2]
theorem el0 {x : V} : ∀ {xs : List V} {us : List Value}, Vals xs us -> xs.all co0 = true -> us.findIdx? (eqU x) = xs.findIdx? fun y => eqV y x
 | _, _, .nil, _ => rfl
 | y :: xs, u :: us, .cons r t, f => by
  rw [List.all_cons, Bool.and_eq_true] at f
  rw [List.findIdx?_cons, List.findIdx?_cons, gZ0 r f.1, el0 t f.2]
theorem kL0 : MtR X "list.index" (fun x vs H Q => ∃ (l : Addr) (xs : List V) (y : V) (j : Nat), x = .ref l /\ vs = [y] /\ SqL X.K H l xs /\ co0 y = true /\ xs.all co0 = true /\ xs.length <= big /\ (xs.findIdx? fun z => eqV z y) = some j /\ Q (.int (j : Int)) H) := by
 intro pins s σ H x vs v us Q I rx rv h
 obtain ⟨l, xs, y, j, rfl, rfl, hl, fy, fs, hz, hj, q⟩ := h
 cases rx
 obtain ⟨u, rfl, ru⟩ := rv.one
 obtain ⟨its, r, pl, _⟩ := I.list hl
 rw [<- el0 r fs] at hj
 obtain ⟨hlt, hit, hno⟩ := List.findIdx?_eq_some_iff_getElem.mp hj
 obtain ⟨⟨cls, dd, data, sl⟩, n, ho, hc, hdd, hd⟩ := pl
 cases hc; cases hd; cases hdd
 have hlen := r.length
 refine call_meets PySem.F.slot_list_index ⟨_, ho, rfl⟩ PySem.F.entry_list_index (PySem.F.args_list_index_2 _ _) (SeqAt.list_indexAt l its.toArray n none sl u (eqU y) j (by simpa using hlt) ?_ (by simpa using hit) fun m hm hmj => ?_) ⟨ho, fun z hz => cZ0 ru fy r fs z (by simpa using hz), ?_⟩
 ·have : j < 1000000 := Nat.lt_of_lt_of_le hlt (by rw [<- hlen]; exact hz)
  omega
 ·simpa using hno m hmj
 ·exact ⟨.int j, H, I.tok _, ⟨_, rfl⟩, q⟩
theorem kG0 : MtR X "list.count" (fun x vs H Q => ∃ (l : Addr) (xs : List V) (y : V), x = .ref l /\ vs = [y] /\ SqL X.K H l xs /\ co0 y = true /\ xs.all co0 = true /\ Q (.int ((xs.countP fun z => eqV z y : Nat) : Int)) H) := by
 intro pins s σ H x vs v us Q I rx rv h
 obtain ⟨l, xs, y, rfl, rfl, hl, fy, fs, q⟩ := h
 cases rx
 obtain ⟨u, rfl, ru⟩ := rv.one
 obtain ⟨its, r, pl, _⟩ := I.list hl
 obtain ⟨⟨cls, dd, data, sl⟩, n, ho, hc, hdd, hd⟩ := pl
 cases hc; cases hd; cases hdd
 refine call_meets PySem.F.slot_list_count ⟨_, ho, rfl⟩ PySem.F.entry_list_count (PySem.F.args_list_count_2 _ _) (SeqAt.list_countAt l its.toArray n none sl u (eqU y)) ⟨ho, fun z hz => cZ0 ru fy r fs z (by simpa using hz), ?_⟩
 refine ⟨.int _, H, I.tok _, ⟨_, rfl⟩, ?_⟩
 rw [show its.toArray.toList = its by simp, fs0 r fs]
 exact q
end
end L2.BD
set_option Elab.async false
set_option linter.all false
set_option maxRecDepth 100000
set_option maxHeartbeats 4000000
namespace L2
open PySem PySem.Spec PyProof.Rows
theorem kV_of {P : Program} {w : World} {k : Key} {u : Value} (h : (ay0 P w).is k u = true) : RelV (kV k) u := by
 rcases aH0 (k := k) (v := u) h with ⟨i, t, rfl, rfl⟩ | ⟨x, t, rfl, rfl⟩
 ·exact ⟨t, rfl⟩
 ·exact ⟨t, rfl⟩
theorem dv0 {X : Cx} {pins : List (Addr × Obj)} {σ : St} {H : Hp} {s : Shared} {a : Addr} {ob : Obj} {kvs : List (Key × V)} {es : Array DictEntry} {ep : Nat} (I : Inv X pins σ H s) (h : H a = some (.frz ob (.dK kvs))) (hd : ob.data = .dict es ep) :
  s.heap.get? a = some ob /\ (a == sysModules) = false /\ ob.dict = none /\ ∃ vs, KV kvs vs /\ s.heap.DictAt (ay0 X.prog X.w) a vs ep := by
 obtain ⟨h1, _, h2, vs, r, o, es', ep', h3, h4, h5, h6⟩ := (show ObjOk X.prog X.w H s.heap a (.frz ob (.dK kvs)) from I.hok a _ h)
 rw [h1] at h3
 cases h3
 rw [hd] at h5
 cases h5
 exact ⟨h1, h2, h4.2.1, vs, r, ob, es, h1, h4, hd, h6⟩
def Itp (a : Addr) (ob : Obj) (kvs : List (Key × V)) : It :=
 ⟨fun i H => H a = some (.frz ob (.dK kvs)) /\ i < kvs.length, fun i H x H' => ∃ p k v, H p = none /\ kvs[i]? = some (k, v) /\ x = .ref p /\ H' = upd H p (.tup [kV k, v]), fun i H => H a = some (.frz ob (.dK kvs)) /\ kvs.length <= i⟩
theorem KV.at {κ : Type} : ∀ {kvs : List (κ × V)} {vs : List (κ × Value)} {i : Nat} {k : κ} {v : V}, KV kvs vs -> kvs[i]? = some (k, v) -> ∃ u, vs[i]? = some (k, u) /\ RelV v u
 | _, _, _, _, _, .nil, e => by simp at e
 | _, _, 0, k, v, .cons (b := b) h _, e => by
  simp at e
  subst e
  obtain ⟨b1, b2⟩ := b
  obtain ⟨rfl, h2⟩ := h
  exact ⟨b2, rfl, h2⟩
 | _, _, i + 1, k, v, .cons _ t, e => by
  obtain ⟨u, h1, h2⟩ := KV.at (i := i) (k := k) (v := v) t (by simpa using e)
  exact ⟨u, by simpa using h1, h2⟩
theorem Inv.turnedLaid {X : Cx} {pins : List (Addr × Obj)} {σ : St} {H : Hp} {s : Shared} {h' : Heap} {t' : Nat} {it : List Addr} {a : Addr} {o : HO} (I : Inv X pins σ H s) (k : ∀ b o, b ∉ it -> s.heap.get? b = some o -> h'.get? b = some o)
  (hi : ∀ b ∈ it, H b = none /\ b ≠ X.env.locals /\ (b ∈ X.ex \/ X.s₀.heap.objs.size <= b) /\ (∀ x c, X.env.cells.lookup x = some c -> c ≠ b) /\ ∀ p ∈ X.pn ++ pins, p.1 ≠ b)
  (hp : s.heap.objs.size <= a) (new : ObjOk X.prog X.w (upd H a o) h' a o) : Inv X pins σ (upd H a o) { s with heap := h', toks := t' } := by
 have hn : H a = none := I.hok.fresh hp
 have nit : ∀ b u, H b = some u -> b ∉ it := fun b u e z => by rw [(hi b z).1] at e; cases e
 refine I.step (g' := s.gens) (d' := s.drawn) (ch := it) (fun b hb => (hi b hb).2.elim fun q1 q => ⟨q.1, q1, q.2.1, q.2.2⟩) (fun b o _ _ hc e _ => k b o hc e) (fun b o _ _ hc e _ => ⟨o.slots, k b o hc e⟩) (fun b o hc e n => ?_)
  (fun b o hc e => ⟨o, k b o hc e⟩) (fun b xs e => by rw [ao0 (au0 e hn)]; exact e) (fun b o u e => by rw [ao0 (au0 e hn)]; exact e) (fun b ps e => ⟨#[], by rw [ao0 (au0 e hn), e]; simp⟩) (fun m hm => ?_) (fun b u e => ?_) I.bare
 ·rw [ao0 (Nat.ne_of_lt (Nat.lt_of_lt_of_le (Heap.lt_size e) hp))]; exact n
 ·obtain ⟨o, es, ep, ho, r⟩ := hm
  exact ⟨o, es, ep, k _ o (fun z => (hi _ z).2.1 rfl) ho, r⟩
 ·by_cases hb : b = a
  ·subst hb; rw [aq0] at e; cases e; exact new
  ·rw [ao0 hb] at e
   refine (I.hok b u e).stay (fun c v hc q => k c v ?_ q) (fun c q => by rw [ao0 (au0 q hn)]; exact q) fun c xs q => by rw [ao0 (au0 q hn)]; exact q
   rcases hc with z | z
   ·rw [z]; exact nit b u e
   ·exact nit c _ z
theorem cS0 : entryFor table "dict_itemiterator.__iter__" = some Builtin.«dict_keyiterator.__iter__» :=
 entryFor_alias (id' := "dict_keyiterator.__iter__") (by kernel_rfl) (by first | rfl | decide +kernel) (by decide +kernel) (by kernel_rfl)
theorem hJ0 {P : Program} {w : World} {K : PySem.W.Frag} {elts : List Expr} {x1 : Nat} {tp : Pos} (a it : Addr) {ob : Obj} {kvs : List (Key × V)} {es : Array DictEntry} {ep : Nat} (hd : ob.data = .dict es ep) :
  Turn P w K (.Tuple elts x1 tp) (Itp a ob kvs) [it] it (fun i h => ∃ ok ov, IsItemIter h it a i kvs.length ep ok ov) where
 mem := by simp
 obj := fun i h st b hb => by
  have e : b = it := by simpa using hb
  subst e
  obtain ⟨ok, ov, st⟩ := st
  exact ⟨_, st, fun v z => by
   have z' : Data.fields _ = Data.cell v := z
   cases z'⟩
 keep := fun i h h' ⟨ok, ov, st⟩ k => ⟨ok, ov, k it (by simp) _ st⟩
 item := by
  intro X hP hw hK hc i pins s σ H E I hf st hg
  subst hP hw hK
  obtain ⟨hH, hi⟩ := hg
  obtain ⟨ok, ov, st⟩ := st
  obtain ⟨_, _, _, vs, rv, da⟩ := dv0 I hH hd
  obtain ⟨k, v, hkv⟩ : ∃ k v, kvs[i]? = some (k, v) := ⟨_, _, by rw [List.getElem?_eq_getElem hi]⟩
  obtain ⟨u, hu, ru⟩ := rv.at hkv
  have hlen : kvs.length = vs.length := rv.length
  rw [hlen] at st
  obtain ⟨f0, f1, f2, f3, f4, f5⟩ := hf it (by simp)
  refine wpAny_pyNext_items_item st da hu fun key h' hk st' ht hsz kk => ⟨_, rfl, ?_⟩
  refine wpAny_letOwnedTupleGo_items st' fun h'' st'' sb => ?_
  have hit : it < s.heap.objs.size := Heap.lt_size st
  have hn : H s.heap.objs.size = none := I.hok.fresh (Nat.le_refl _)
  have ht2 : h''.get? s.heap.objs.size = some { cls := .type "tuple", data := .seq #[key, u] } := (sb.2 _ (Nat.ne_of_gt hit)).trans ht
  have I2 : Inv X pins σ (upd H s.heap.objs.size (.tup [kV k, v])) { s with heap := h'' } := by
   refine I.turnedLaid (t' := s.toks) (it := [it]) (fun b o hb e => (sb.2 b (by simpa using hb)).trans (kk b o (by simpa using hb) e)) (fun b hb => ?_) (Nat.le_refl _) ?_
   ·have e : b = it := by simpa using hb
    rw [e]
    exact ⟨f0, f1, f3, f4, f5⟩
   ·exact ⟨by simp only [List.length_cons, List.length_nil]; rw [sizeLine_eq]; decide, [key, u], .cons (kV_of hk) (.cons ru .nil), ⟨_, ht2, rfl, 0, rfl⟩, _, ht2, rfl⟩
  exact ⟨.ref s.heap.objs.size, _, I2, rfl, ⟨_, k, v, hn, hkv, rfl, rfl⟩, ⟨_, _, by rw [hlen]; exact st''⟩, fun b hb => by
   have e : b = it := by simpa using hb
   rw [e, ao0 (Nat.ne_of_lt hit)]
   exact f0⟩
 done := by
  intro X hP hw hK hc i pins s σ H E I hf st hg
  subst hP hw hK
  obtain ⟨hH, hi⟩ := hg
  obtain ⟨ok, ov, st⟩ := st
  obtain ⟨_, _, _, vs, rv, da⟩ := dv0 I hH hd
  have hlen : kvs.length = vs.length := rv.length
  rw [hlen] at st
  obtain ⟨f0, f1, f2, f3, f4, f5⟩ := hf it (by simp)
  exact wpAny_pyNext_items_end (I.ok.hd hc) st da (List.getElem?_eq_none (by rw [<- hlen]; exact hi)) fun h' eb => ⟨rfl, I.turned (t' := s.toks) (fun b o hb e => eb b o hb e) f0 f1 f3 f4 f5⟩
 self := fun A i s Q E ⟨ok, ov, st⟩ h => by
  have hT : s.TypeIs (.ref it) "dict_itemiterator" := ⟨_, st, rfl⟩
  refine wpAny_pyIter_slot hT F.slot_dict_itemiterator_iter (wpAny_call_entry F.slot_dict_itemiterator_iter hT cS0 ?_ (F.args_dict_itemiterator_iter_1 _))
  show wpAny _ _ (ret (.ref it)) _ _ s
  exact wpAny_pure ⟨_, rfl, _, _, hT, F.slot_dict_itemiterator_next.lookup, h⟩
section
variable {X : Cx} {tg : Expr}
def nK0 (tl : TE) : TI := fun σ H R => tl σ H fun x H1 => ∃ a ob kvs, x = .ref a /\ H1 a = some (.frz ob (.dK kvs)) /\ R (Itp a ob kvs) H1
theorem jW0 {l : Expr} {tl : TE} {elts : List Expr} {x1 : Nat} {tp apos pos : Pos} (hl : PE X l tl) (hbase : attributeBase l "items" X.env (eval l X.env) = eval l X.env := by rfl) (hline : (apos.endLine == pos.line) = true := by rfl) :
  PI X (.Tuple elts x1 tp) (.Call (.Attribute l "items" apos) [] [] pos) (nK0 tl) := by
 intro pins s σ H R I h
 refine wpAny_Call_method0_late hbase hline (thn (hl pins s σ H _ I h) fun v s1 ⟨x, H1, I1, r1, a, ob, kvs, e, ha, q⟩ => ?_)
 subst e
 cases r1
 have ok : ObjOk X.prog X.w H1 s1.heap a (.frz ob (.dK kvs)) := I1.hok a _ ha
 obtain ⟨h1, _, h2, vs, rv, o, es, ep, h3, h4, h5, _⟩ := ok
 rw [h1] at h3
 cases h3
 obtain ⟨_, _, hdn, vs, rv, da⟩ := dv0 I1 ha h5
 refine ⟨"dict", "dict.items", F.plainAttrs_dict, F.slot_dict_items, F.type_dict_items, da.dictOf.typeIs, fun b e => ?_, Calls.callWith_builtin rfl (PySem.evalArgs_none ?_)⟩
 ·cases e
  exact ⟨ob, h1, hdn⟩
 refine call_meetsIn F.slot_dict_items da.dictOf.typeIs F.entry_dict_items (F.args_dict_items_1 _) (meets_dict_items (ay0 X.prog X.w) a h2) ⟨⟨vs, da.dictOf⟩, ?_⟩
 have I2 : Inv X pins σ H1 { s1 with heap := s1.heap.push { cls := .type "dict_items", data := .fields #[.ref a] } } := I1.kept (t' := s1.toks) fun b o e => Heap.get?_push_of_some _ e
 refine wpAny_pyIter_items (v := s1.heap.objs.size) (d := a) ⟨_, Heap.get?_push_size _ rfl, rfl, rfl⟩ (da.push _) ?_
 refine ⟨_, [_], _, _, H1, rfl, I2.kept (t' := s1.toks) fun b o e => Heap.get?_push_of_some _ e, hJ0 a _ h5, ⟨.none, .none, by rw [rv.length]; exact Heap.get?_push_size _ rfl⟩, fun b hb => ?_, q⟩
 have e : b = (s1.heap.push { cls := .type "dict_items", data := .fields #[.ref a] }).objs.size := by simpa using hb
 subst e
 exact I2.fpOk (Nat.le_refl _) (I2.hok.fresh (Nat.le_refl _))
end
end L2
namespace L2.BD
open PySem PySem.Spec PyProof.Rows
theorem Rpk.at {F : Addr -> Prop} {H : Hp} : ∀ {kvs : List (Key × V)} {kts : List (Str × T)} {i : Nat} {k : Str} {t : T}, Rpk F H kvs kts -> kts[i]? = some (k, t) -> ∃ v, kvs[i]? = some (Sum.inr k, v) /\ Rp F H v t
 | _, _, _, _, _, .nil, e => by simp at e
 | _, _, 0, k, t, .cons h _, e => by simp at e; obtain ⟨rfl, rfl⟩ := e; exact ⟨_, rfl, h⟩
 | _, _, i + 1, k, t, .cons _ r, e => by
  obtain ⟨v, h1, h2⟩ := Rpk.at (i := i) (k := k) (t := t) r (by simpa using e)
  exact ⟨v, by simpa using h1, h2⟩
section
variable {X : Cx} {Y : Fx} {tg e a b o : Expr} {es : List Expr} {pos p apos cpos : Pos} {f g h : En -> Option T} {fa : En -> Option (List T)}
def iKey (f : En -> Option T) : En -> Option (List T) := fun ε => match f ε with | some (.dct kts) => some (kts.map fun kt => T.str kt.1) | _ => none
def gd0 (f : En -> Option T) : En -> Option (List T) := fun ε => match f ε with | some (.dct kts) => some (kts.map fun kt => T.tup [.str kt.1, kt.2]) | _ => none
theorem gH0 {elts : List Expr} {x1 : Nat} {tp : Pos} (hl : SE X Y e f) (hbase : attributeBase e "items" X.env (eval e X.env) = eval e X.env := by rfl) (hline : (apos.endLine == pos.line) = true := by rfl) :
  SI X Y (.Tuple elts x1 tp) (.Call (.Attribute e "items" apos) [] [] pos) (gd0 f) := PI.imp (jW0 hl hbase hline) fun σ H R ⟨F, ε, ts, r, hf, k⟩ => by
 unfold gd0 at hf
 split at hf
 ·rename_i kts qf
  cases hf
  refine ⟨F, ε, _, r, qf, fun F1 v H1 m1 r1 => ?_⟩
  cases r1 with
  | @dct a ob kvs _ fa' ha rs =>
   refine ⟨a, ob, kvs, rfl, ha, k F1 H1 _ m1 fun i F2 H2 kp tk => ⟨fun t e => ?_, fun e => ⟨kp.frz a _ fa' ha, by rw [rs.length, e, List.length_map]; exact Nat.le_refl _⟩⟩⟩
   rw [List.getElem?_map] at e
   cases q : kts[i]? with
   | none => rw [q] at e; cases e
   | some kt =>
    rw [q] at e
    cases e
    obtain ⟨k0, t0⟩ := kt
    obtain ⟨v, hv, rv⟩ := rs.at q
    exact ⟨⟨kp.frz a _ fa' ha, (List.getElem?_eq_some_iff.mp hv).1⟩, fun x H' ⟨pp, k1, v1, hp, e2, e3, e4⟩ => by
     subst e3 e4
     rw [hv] at e2
     cases e2
     exact ⟨F2, Mono.laid tk hp, .tup aq0 (.cons (.str _) (.cons (((rv.keep kp)).keep (Mono.laid tk hp).keep) .nil))⟩⟩
 ·cases hf
theorem Rpk.val {F : Addr -> Prop} {H : Hp} {k : Str} : ∀ {kvs : List (Key × V)} {kts : List (Str × T)} {t : T}, Rpk F H kvs kts -> kts.lookup k = some t -> ∃ v, valV kvs (Sum.inr k : Key) = some v /\ Rp F H v t
 | _, _, _, .nil, e => by simp at e
 | _, _, t, .cons (k := k0) h r, e => by
  rw [List.lookup_cons] at e
  by_cases hk : k0 = k
  ·rw [hk, beq_self_eq_true] at e
   cases e
   exact ⟨_, dR0 (by rw [hk]), h⟩
  ·have hb : (k == k0) = false := by simpa using fun z => hk z.symm
   rw [hb] at e
   obtain ⟨v, h1, h2⟩ := Rpk.val r e
   exact ⟨v, (dL0 (fun z => hk (Sum.inr.inj z))).trans h1, h2⟩
def φDGet : T -> T -> Option T | .dct kts, .str k => kts.lookup k | _, _ => none
def putT (kts : List (Str × T)) (k : Str) (t : T) : List (Str × T) := if kts.any (fun kv => decide (kv.1 = k)) then kts.map (fun kv => if kv.1 = k then (kv.1, t) else kv) else kts ++ [(k, t)]
theorem Rpk.any {F : Addr -> Prop} {H : Hp} {k : Str} : ∀ {kvs : List (Key × V)} {kts : List (Str × T)}, Rpk F H kvs kts -> (kvs.any fun kv => decide (kv.1 = (Sum.inr k : Key))) = kts.any fun kv => decide (kv.1 = k)
 | _, _, .nil => rfl
 | _, _, .cons (k := k0) h r => by rw [List.any_cons, List.any_cons, Rpk.any r, kS0]
theorem Rpk.repl {F : Addr -> Prop} {H : Hp} {k : Str} {v : V} {t : T} (hv : Rp F H v t) : ∀ {kvs : List (Key × V)} {kts : List (Str × T)}, Rpk F H kvs kts ->
  Rpk F H (kvs.map fun kv => if kv.1 = (Sum.inr k : Key) then (kv.1, v) else kv) (kts.map fun kv => if kv.1 = k then (kv.1, t) else kv)
 | _, _, .nil => .nil
 | _, _, .cons (k := k0) h r => by
  rw [List.map_cons, List.map_cons]
  by_cases e : k0 = k
  ·rw [if_pos (by rw [e]), if_pos e]; exact .cons hv (Rpk.repl hv r)
  ·rw [if_neg (fun z => e (Sum.inr.inj z)), if_neg e]; exact .cons h (Rpk.repl hv r)
theorem Rpk.snoc {F : Addr -> Prop} {H : Hp} {k : Str} {v : V} {t : T} (hv : Rp F H v t) : ∀ {kvs : List (Key × V)} {kts : List (Str × T)}, Rpk F H kvs kts -> Rpk F H (kvs ++ [(Sum.inr k, v)]) (kts ++ [(k, t)])
 | _, _, .nil => .cons hv .nil
 | _, _, .cons h r => .cons h (Rpk.snoc hv r)
theorem Rpk.put {F : Addr -> Prop} {H : Hp} {k : Str} {v : V} {t : T} {kvs : List (Key × V)} {kts : List (Str × T)} (r : Rpk F H kvs kts) (hv : Rp F H v t) : Rpk F H (putK kvs (Sum.inr k) v) (putT kts k t) := by
 unfold putK putT
 rw [r.any]
 split
 ·exact r.repl hv
 ·exact r.snoc hv
def sDPut (i : Nat) (fk fv : En -> Option T) : En -> Option Fl := fun ε => match ε[i]? with
 | some (.ow (.dct kts)) => (fv ε).bind fun v => match fk ε with
  | some (.str k) => if kts.length < big then some (.nx (ε.set i (.ow (.dct (putT kts k v))))) else none
  | _ => none
 | _ => none
theorem gi0 {i : Nat} {x : Str} {px pos' : Pos} (hu : X.A.units + 1 < cLine) (hx : PE X (.Name x px) (tVar i)) (hk : BE X Y b g) (hv : SE X Y e f)
  (hs : swapsWith e (some (.Subscript (.Name x px) b pos')) pos.line X.env = pure false := by rfl) : SS X Y (.Assign [.Subscript (.Name x px) b pos'] e pos) (sDPut i g f) :=
 PS.imp (lw0 hu hx hk hv hs) fun D σ H ⟨F, ε, fl, r, hg, k⟩ => by
  unfold sDPut at hg
  split at hg
  ·rename_i kts e1
   obtain ⟨c, s1, nf, h0, hr⟩ := r.ow i _ e1
   cases q : f ε with
   | none => rw [q] at hg; cases hg
   | some t =>
    rw [q] at hg
    simp only [Option.bind_some] at hg
    split at hg
    ·split at hg
     ·rename_i ks qk hb
      cases hg
      obtain ⟨xs, ha, rs⟩ := hr.dct_
      refine ⟨F, ε, t, r, q, fun F1 v H1 m1 r1 => ⟨_, s1, F1, ε, _, r.mono m1, qk, fun F2 y H2 m2 r2 => ?_⟩⟩
      have m12 := m1.trans m2
      have ha2 := m12.ext _ _ ha
      cases r2.str_
      refine ⟨c, _, rfl, DPut.k (k := Sum.inr ks) ha2 (hj0 (by rw [rs.length]; exact hb)), ?_⟩
      have hne : ∀ ys, H2 c ≠ some (.tup ys) := fun ys z => by rw [ha2] at z; cases z
      have kp : Keep F2 H2 F2 (upd H2 c (.dK (putK xs (Sum.inr ks) v))) := by
       have nf1 : ¬ F2 c := fun z => (m12.new c z).elim nf fun w => by rw [ha] at w; cases w
       exact ⟨fun _ h => h, fun b u f q => by rw [ao0 (fun (z : b = c) => nf1 (z ▸ f))]; exact q, fun b ys q => by rw [ao0 (fun (z : b = c) => hne ys (z ▸ q))]; exact q⟩
      obtain ⟨r3, k3⟩ := (r.mono m12).write (o := .dK (putK xs (Sum.inr ks) v)) (t' := .dct (putT kts ks t)) e1 s1 hne (.dct aq0 (((rs.keep m12.keep).put (r1.keep m2.keep)).keep kp))
      exact k F2 σ _ (m12.keep.trans k3) r3
     ·cases hg
    ·cases hg
  ·cases hg
def hN0 : List T -> Option T | [.dct kts] => some (.dct kts) | _ => none
theorem hV0 : cM0 X (.type "dict") (fun xs H Q => ∃ (a : Addr) (kvs : List (Key × V)), xs = [.ref a] /\ Rd H a (.dK kvs) /\ ∀ p, H p = none -> Q (.ref p) (upd H p (.dK kvs))) := by
 intro pins s σ H xs us Q I r h
 obtain ⟨a, kvs, rfl, ha, q⟩ := h
 obtain ⟨u, rfl, ru⟩ := hT0 r
 cases ru
 exact jQ0 I ha fun p s' hp I' => ⟨.ref p, _, I', rfl, q p hp⟩
theorem nr0 : OpNF (fun xs H Q => ∃ (a : Addr) (kvs : List (Key × V)), xs = [.ref a] /\ Rd H a (.dK kvs) /\ ∀ p, H p = none -> Q (.ref p) (upd H p (.dK kvs))) hN0 := by
 intro F H xs ts u Q tk r h k
 unfold hN0 at h
 split at h
 ·obtain ⟨x, rfl, rx⟩ := Rbs.one r
  obtain ⟨a, ys, rfl, ha, ry⟩ := rx.dct_
  cases h
  exact ⟨_, _, rfl, ha, fun l hl => k F _ _ (Mono.laid tk hl) hl (Trk.new tk hl) (.dct aq0 (ry.keep (Mono.laid tk hl).keep))⟩
 ·cases h
theorem jq0 (hg : Gl X "dict") (hm : X.mg "dict" = none) (ha : BA X Y [a] fa) (hv : bootBuiltins "dict" = some (.type "dict") := by rfl) (he : starEach [a] X.env = [(false, eval a X.env)] := by rfl) : FE X Y (.Call (.Name "dict" p) [a] [] pos) (av0 hN0 fa) := fF0 hV0 nr0 hg hm hv ha (by decide) (by decide) he rfl
def eBM (φ : T -> List T -> Option T) (fo : En -> Option T) (fa : En -> Option (List T)) : En -> Option T := fun ε => (fo ε).bind fun o => (fa ε).bind fun ts => φ o ts
def OpM (r : V -> List V -> Hp -> VK -> Prop) (φ : T -> List T -> Option T) : Prop := ∀ F H x xs s ts u Q, Trk F H -> Rb F H x s -> Rbs F H xs ts -> φ s ts = some u -> (∀ F' v H', Mono F H F' H' -> Rp F' H' v u -> Q v H') -> r x xs H Q
theorem ly0 {K : PySem.W.Frag} : OpM (fun x vs H Q => ∃ (l : Addr) (xs : List V) (y : V) (j : Nat), x = .ref l /\ vs = [y] /\ SqL K H l xs /\ co0 y = true /\ xs.all co0 = true /\ xs.length <= big /\ (xs.findIdx? fun z => eqV z y) = some j /\ Q (.int (j : Int)) H) cv0 := by
 intro F H x xs s ts u Q tk rx rs h k
 unfold cv0 at h
 split at h
 ·split at h
  ·rename_i us s' hf
   rw [Bool.and_eq_true, Bool.and_eq_true, decide_eq_true_eq] at hf
   obtain ⟨y, rfl, ry⟩ := Rbs.one rs
   obtain ⟨a, ys, rfl, ha, r⟩ := rx.lst_
   obtain ⟨e1, f1⟩ := ry.flat hf.1.1
   obtain ⟨e2, f2⟩ := r.flat hf.1.2
   cases q : idxT us s' with
   | none => rw [q] at h; cases h
   | some j =>
    rw [q] at h; cases h
    refine ⟨a, ys, y, j, rfl, rfl, SqL.of ha, f1, f2, by rw [r.length]; exact hf.2, ?_, k F _ H (.refl tk) (.int _)⟩
    rw [e1, e2, List.findIdx?_map]
    exact q
  ·cases h
 ·cases h
theorem mm0 {K : PySem.W.Frag} : OpM (fun x vs H Q => ∃ (l : Addr) (xs : List V) (y : V), x = .ref l /\ vs = [y] /\ SqL K H l xs /\ co0 y = true /\ xs.all co0 = true /\ Q (.int ((xs.countP fun z => eqV z y : Nat) : Int)) H) eM0 := by
 intro F H x xs s ts u Q tk rx rs h k
 unfold eM0 at h
 split at h
 ·split at h
  ·rename_i us s' hf
   rw [Bool.and_eq_true] at hf
   cases h
   obtain ⟨y, rfl, ry⟩ := Rbs.one rs
   obtain ⟨a, ys, rfl, ha, r⟩ := rx.lst_
   obtain ⟨e1, f1⟩ := ry.flat hf.1
   obtain ⟨e2, f2⟩ := r.flat hf.2
   refine ⟨a, ys, y, rfl, rfl, SqL.of ha, f1, f2, ?_⟩
   rw [e1, e2, List.countP_map]
   exact k F _ H (.refl tk) (.int _)
  ·cases h
 ·cases h
theorem jJ0 {φ : T -> List T -> Option T} {ε : En} {u : T} (q : eBM φ f fa ε = some u) : ∃ s ts, f ε = some s /\ fa ε = some ts /\ φ s ts = some u := by
 unfold eBM at q
 cases q1 : f ε with
 | none => rw [q1] at q; cases q
 | some s =>
  rw [q1] at q
  cases q2 : fa ε with
  | none => simp only [Option.bind_some, q2] at q; cases q
  | some ts => simp only [Option.bind_some, q2] at q; exact ⟨s, ts, rfl, rfl, q⟩
theorem le0 {name : Str} {id : String} {r : V -> List V -> Hp -> VK -> Prop} {φ : T -> List T -> Option T} (slot : Slot "list" name id) (hty : typeOf (.builtin id) = pure (.type "method_descriptor")) (hm : MtR X id r) (om : OpM r φ) (hl : ∀ s ts u, φ s ts = some u -> ∃ us, s = .lst us) (ho : BE X Y o f) (ha : BA X Y [e] fa)
  (hbase : attributeBase o name X.env (eval o X.env) = eval o X.env := by rfl)
  (hfew : ((backTo cpos (starEach [e] X.env)).all (fun x => !x.1) && (backToKw cpos (keywordEach [] X.env)).all (fun x => x.1.isSome)
   && decide (([e] : List Expr).length + ([] : List Keyword).length + (if ([] : List Keyword).isEmpty then 0 else 1) < 30)) = true := by rfl)
  (hline : (apos.endLine == cpos.line) = true := by rfl) (hs : starEach [e] X.env = [(false, eval e X.env)] := by rfl) : SE X Y (.Call (.Attribute o name apos) [e] [] cpos) (eBM φ f fa) :=
 PE.imp (jK0 PySem.F.plainAttrs_list slot hty hm ho ha hbase hfew hline hs rfl) fun σ H Q ⟨F, ε, u, rl, hf, k⟩ => by
  obtain ⟨s, ts, q1, q2, q3⟩ := jJ0 hf
  obtain ⟨us, rfl⟩ := hl _ _ _ q3
  refine ⟨F, ε, _, rl, q1, fun F1 x H1 m1 r1 => ?_⟩
  obtain ⟨a, xs, e1, ha1, _⟩ := r1.lst_
  refine ⟨by rw [e1]; exact .inl ⟨rfl, xs, SqL.of ha1⟩, F1, ε, ts, rl.mono m1, q2, fun F2 ys H2 m2 r2 => om F2 H2 x ys _ ts u Q m2.trk (r1.keep m2) r2 q3 fun F3 v H3 m3 r3 => k F3 v H3 ((m1.trans m2).trans m3) r3⟩
theorem eQ0 (ho : BE X Y o f) (ha : BA X Y [e] fa) (hbase : attributeBase o "index" X.env (eval o X.env) = eval o X.env := by rfl)
  (hfew : ((backTo cpos (starEach [e] X.env)).all (fun x => !x.1) && (backToKw cpos (keywordEach [] X.env)).all (fun x => x.1.isSome)
   && decide (([e] : List Expr).length + ([] : List Keyword).length + (if ([] : List Keyword).isEmpty then 0 else 1) < 30)) = true := by rfl)
  (hline : (apos.endLine == cpos.line) = true := by rfl) (hs : starEach [e] X.env = [(false, eval e X.env)] := by rfl) : SE X Y (.Call (.Attribute o "index" apos) [e] [] cpos) (eBM cv0 f fa) :=
 le0 PySem.F.slot_list_index PySem.F.type_list_index kL0 ly0 (fun s ts u q => by unfold cv0 at q; split at q; exact ⟨_, rfl⟩; cases q) ho ha hbase hfew hline hs
theorem kx0 (ho : BE X Y o f) (ha : BA X Y [e] fa) (hbase : attributeBase o "count" X.env (eval o X.env) = eval o X.env := by rfl)
  (hfew : ((backTo cpos (starEach [e] X.env)).all (fun x => !x.1) && (backToKw cpos (keywordEach [] X.env)).all (fun x => x.1.isSome)
   && decide (([e] : List Expr).length + ([] : List Keyword).length + (if ([] : List Keyword).isEmpty then 0 else 1) < 30)) = true := by rfl)
  (hline : (apos.endLine == cpos.line) = true := by rfl) (hs : starEach [e] X.env = [(false, eval e X.env)] := by rfl) : SE X Y (.Call (.Attribute o "count" apos) [e] [] cpos) (eBM eM0 f fa) :=
 le0 PySem.F.slot_list_count PySem.F.type_list_count kG0 mm0 (fun s ts u q => by unfold eM0 at q; split at q; exact ⟨_, rfl⟩; cases q) ho ha hbase hfew hline hs
end
end L2.BD
set_option Elab.async false
set_option linter.all false
set_option maxRecDepth 100000
set_option maxHeartbeats 4000000
namespace L2
open PySem PySem.Spec PyProof.Rows
section
variable {prog : Program} {w : World} {A : Around} {E : Value -> Shared -> Prop} {s : Shared}
end
section
variable {X : Cx}
end
end L2
namespace L2.BD
open PySem PySem.Spec PyProof.Rows
section
variable {X : Cx} {Y : Fx} {a b : Expr} {fa : En -> Option (List T)}
end
end L2.BD
set_option Elab.async false
set_option linter.all false
set_option maxRecDepth 100000
set_option maxHeartbeats 4000000
namespace L2
open PySem PySem.Spec PyProof.Rows
theorem la0 {α β : Type} [DecidableEq α] [DecidableEq β] : @LawfulBEq (Sum α β) instBEqOfDecidableEq := inferInstance
instance memKey (k : Key) (l : List Key) : Decidable (k ∈ l) := decidable_of_iff (l.any (fun x => decide (x = k)) = true) (by simp)
def metK : List Key -> List Key
 | ks => ks.foldl (fun acc k => if k ∈ acc then acc else acc ++ [k]) []
theorem gb0 (ks : List Key) (k : Key) : metK (ks ++ [k]) = if k ∈ metK ks then metK ks else metK ks ++ [k] := by
 unfold metK
 rw [List.foldl_append]
 rfl
theorem ff0 (ks : List Key) : (metK ks).length <= ks.length := by
 have gen : ∀ (ks acc : List Key), (ks.foldl (fun acc k => if k ∈ acc then acc else acc ++ [k]) acc).length <= acc.length + ks.length := by
  intro ks
  induction ks with
  | nil => intro acc; simp
  | cons k ks ih =>
   intro acc
   rw [List.foldl_cons]
   refine Nat.le_trans (ih _) ?_
   split
   ·simp
   ·simp; omega
 have := gen ks []
 simp only [List.length_nil, Nat.zero_add] at this
 exact this
section
variable {prog : Program} {w : World} {A : Around} {E : Value -> Shared -> Prop} {s : Shared}
theorem eD0 {h : Heap} {a : Addr} {S S' : Key -> Bool} {n n' : Nat} (g : h.SetOf (ay0 prog w) a S n) (e : S = S') (en : n = n') : h.SetOf (ay0 prog w) a S' n' := by
 subst e en; exact g
theorem ho0 {h h' : Heap} {a : Addr} {S : Key -> Bool} {n : Nat} (g : h.SetOf (ay0 prog w) a S n) (f : ∀ o, h.get? a = some o -> h'.get? a = some o) : h'.SetOf (ay0 prog w) a S n := by
 obtain ⟨o, es, ep, tb, ho, r⟩ := g
 exact ⟨o, es, ep, tb, f o ho, r⟩
theorem lq0 {k : Key} {v : Value} (h : (ay0 prog w).is k v = true) : v.scannable = true := by
 rcases aH0 (k := k) (v := v) h with ⟨i, t, rfl, rfl⟩ | ⟨x, t, rfl, rfl⟩ <;> rfl
theorem ky0 {R : Result -> Shared -> Prop} {u l : Addr} {its : Array Value} {ks : List Key} (hh : A.in1.handled = none) (hne : l ≠ u) (S : Addr) (nu : S ≠ u) (nl : S ≠ l) (hks : ks.length = its.size) (hk : ∀ (i : Nat) v k, its[i]? = some v -> ks[i]? = some k -> (ay0 prog w).is k v = true) (hb : its.size + 1 < scanBound) :
  ∀ (m i : Nat) (s : Shared), its.size - i = m -> i <= its.size -> s.heap.IsListIter u l i -> s.heap.IsList l its -> s.heap.SetOf (ay0 prog w) S (fun k => decide (k ∈ metK (ks.take i))) (metK (ks.take i)).length ->
   (∀ h' t', h'.SetOf (ay0 prog w) S (fun k => decide (k ∈ metK ks)) (metK ks).length -> (∀ b o, b ≠ S -> b ≠ u -> s.heap.get? b = some o -> h'.get? b = some o) -> R (.ok (.ret .none)) { s with heap := h', toks := t' }) ->
   codeAny (model prog w) A (.builtin "set.update.loop" ⟨[.ref S, .ref u], []⟩) R s := by
 intro m
 induction m with
 | zero =>
  intro i s hm hi gu gl gs k
  have e : i = its.size := by omega
  subst e
  refine codeAny_builtin F.entry_set_update_loop ?_; rw [Around.under_plainId F.plain_set_update_loop _]
  show wpAny _ A.in1 (pyNext (.ref u) >>= _) _ _ s; refine wpAny_bind (wpAny_pyNext_list_end hh gu gl (by simp) fun h' eb => ?_)
  show wpAny _ A.in1 (ret Value.none) _ _ _; refine wpAny_pure ?_
  rw [<- hks, List.take_length] at gs
  exact k h' s.toks (ho0 gs fun o g => eb _ o nu g) fun b o n1 n2 g => eb b o n2 g
 | succ m ih =>
  intro i s hm hi gu gl gs k
  have hlt : i < its.size := by omega
  have hlk : i < ks.length := by omega
  have kv := hk i its[i] ks[i] (Array.getElem?_eq_getElem hlt) (List.getElem?_eq_getElem hlk)
  refine codeAny_builtin F.entry_set_update_loop ?_; rw [Around.under_plainId F.plain_set_update_loop _]
  show wpAny _ A.in1 (pyNext (.ref u) >>= _) _ _ s; refine wpAny_bind (wpAny_pyNext_list_item gu gl (Array.getElem?_eq_getElem hlt) fun h1 gu1 sb1 => ?_)
  have gs1 := ho0 gs fun o g => (sb1.2 S nu).trans g
  show wpAny _ A.in1 (holding [its[i]] (setAdd S its[i]) >>= _) _ _ _; refine wpAny_bind (wpAny_holding ?_); unfold setAdd; refine wpAny_holding (wpAny_bind ((ay0 prog w).pyHash kv ?_))
  have room : (metK (ks.take i)).length + 1 < scanBound := by have := ff0 (ks.take i); rw [List.length_take] at this; omega
  refine wpAny_setAddHashed_of (knd := ay0 prog w) (s := { s with heap := h1, toks := s.toks + 1 }) kv (lq0 kv) gs1 room fun h2 sb2 gs2 => ?_
  have et : ks.take (i + 1) = ks.take i ++ [ks[i]] := by rw [List.take_add_one, List.getElem?_eq_getElem hlk]; rfl
  have gs3 : h2.SetOf (ay0 prog w) S (fun k => decide (k ∈ metK (ks.take (i + 1)))) (metK (ks.take (i + 1))).length := by
   refine eD0 gs2 (funext fun q => ?_) ?_
   ·rw [et, gb0]
    by_cases z : ks[i] ∈ metK (ks.take i)
    ·rw [if_pos z]
     by_cases y : q = ks[i]
     ·subst y; simp [z]
     ·simp [y]
    ·rw [if_neg z]
     simp [List.mem_append, Bool.decide_or]
   ·rw [et, gb0]
    by_cases z : ks[i] ∈ metK (ks.take i)
    ·simp [z]
    ·simp [z]
  have at1 : ∀ {h h' : Heap}, h.IsListIter u l (i + 1) -> (∀ o, h.get? u = some o -> h'.get? u = some o) -> h'.IsListIter u l (i + 1) := fun ⟨o, e, r⟩ f => ⟨o, f o e, r⟩
  refine wpAny_pure ⟨plainId_quiet F.plain_set_update_loop _, ih (i + 1) _ (by omega) hlt (at1 gu1 fun o g => (sb2.2 u (Ne.symm nu)).trans g) ((gl.extBut sb1.extBut hne).extBut sb2.extBut (Ne.symm nl)) gs3 fun h3 t3 g3 kk => ?_⟩
  exact k h3 t3 g3 fun b o n1 n2 g => kk b o n1 n2 ((sb2.2 b n1).trans ((sb1.2 b n2).trans g))
theorem iJ0 {l : Addr} {its : Array Value} {ks : List Key} {Q : Value -> Shared -> Prop} (hh : A.handled = none) (gl : s.heap.IsList l its) (hks : ks.length = its.size) (hk : ∀ (i : Nat) v k, its[i]? = some v -> ks[i]? = some k -> (ay0 prog w).is k v = true) (hb : its.size + 1 < scanBound)
  (k : ∀ h' t', h'.SetOf (ay0 prog w) s.heap.objs.size (fun k => decide (k ∈ metK ks)) (metK ks).length -> (∀ b o, b < s.heap.objs.size -> s.heap.get? b = some o -> h'.get? b = some o) -> Q (.ref s.heap.objs.size) { s with heap := h', toks := t' }) :
  wpAny (model prog w) A (call (.type "set") [.ref l]) Q E s := by
 obtain ⟨c, tl, mro⟩ := F.called_set.mro
 have made := F.called_set.made
 have sub := F.called_set.sub
 refine wpAny_call (codeAny_of_tree ?_); show wpAny _ _ (callAny (.type "set") _) _ _ _
 refine wpAny_pure ⟨Code.quiet_builtin _ (by decide +kernel), codeAny_builtin F.entry_type_call ?_⟩; rw [Around.under_plain (weight_type_call_type "set" [.ref l] []) rfl]
 have n1 := F.called_set.notType
 have n2 := F.called_set.canCreate
 have n3 := F.typeCall_set_1 (.ref l)
 (repeat (any_goals (first | assumption | wp_step)))
 refine codeAny_mono (code_set_new_1 (.ref l) (E := E) (Q₁ := fun obj s₁ => ∃ led : Bool, obj = .ref s.heap.objs.size /\ s₁ = { s with heap := s.heap.push { cls := .type "set", dict := none, data := .set #[] 0 (.fresh 0 0 led) } }) fun led => ⟨led, rfl, rfl⟩) fun r s1 hr => ?_
 cases r with
 | error e => exact hr
 | ok fl =>
  cases fl with
  | ret obj =>
   obtain ⟨led, rfl, rfl⟩ := hr
   have gS : (s.heap.push { cls := .type "set", dict := none, data := .set #[] 0 (.fresh 0 0 led) }).get? s.heap.objs.size = some { cls := .type "set", dict := none, data := .set #[] 0 (.fresh 0 0 led) } := Heap.get?_push_size _ rfl
   have gT : Shared.TypeIs { s with heap := s.heap.push { cls := .type "set", dict := none, data := .set #[] 0 (.fresh 0 0 led) } } (.ref s.heap.objs.size) "set" := ⟨_, gS, rfl⟩
   have il := F.called_set.init.lookup
   have ib := F.called_set.init.bind (.ref s.heap.objs.size)
   (repeat (any_goals (first | assumption | wp_step)))
   refine codeAny_mono (codeAny_call_builtin (R := wants (fun r s₂ => r = .none /\ ∃ h' tk, s₂ = { s with heap := h', toks := tk } /\ h'.SetOf (ay0 prog w) s.heap.objs.size (fun k => decide (k ∈ metK ks)) (metK ks).length /\
     (∀ b o, b < s.heap.objs.size -> s.heap.get? b = some o -> h'.get? b = some o)) E) F.called_set.init.plain F.entry_set_init (check_set_init_1 gT ?_)) fun r₂ s₂ hr₂ => ?_
   ·obtain ⟨⟨oc, od, ob, os⟩, go, cl, nl, dl⟩ := id gl
    simp only at cl dl
    subst cl; subst dl
    have go' : (s.heap.push { cls := .type "set", dict := none, data := .set #[] 0 (.fresh 0 0 led) }).get? l = some { cls := .type "list", dict := od, data := .seq its nl, slots := os } := Heap.get?_push_of_some _ go
    have m1 := F.sub_list_set
    have m2 := F.sub_list_frozenset
    have m3 : (Value.type "list" == Value.type "dict") = false := by decide
    have gl1 : (s.heap.push { cls := .type "set", dict := none, data := .set #[] 0 (.fresh 0 0 led) }).IsList l its := ⟨_, go', rfl, nl, rfl⟩
    unfold Builtin.«set.__init__» noKeywords Builtin.Frozenset.updateFrom
    generalize hPI : pyIter = PI
    (wp_walk; subst hPI)
    refine wpAny_pyIter_list gl1 (wpAny_bind (wpAny_runValue ?_))
    have ll : l < s.heap.objs.size := Heap.lt_size go
    have h3 : A.in1.in1.in1.handled = none := by simp [hh]
    refine ky0 (its := its) (ks := ks) (l := l) h3 (by rw [Heap.size_push]; exact Nat.ne_of_lt (Nat.lt_succ_of_lt ll)) s.heap.objs.size (by rw [Heap.size_push]; exact Nat.ne_of_lt (Nat.lt_succ_self _)) (Nat.ne_of_gt ll) hks hk hb (its.size - 0) 0 _ (by omega) (Nat.zero_le _) ⟨_, Heap.get?_push_size _ rfl, rfl, rfl⟩ (gl1.push _) ?_ fun h' t' g' kk => ?_
    ·exact eD0 (@Obj.SetObjOf.setOf _ _ _ _ instBEqOfDecidableEq la0 _ _ _ _ _ _ (@PyProof.Rows.setObjOf_fresh prog w Key _ instBEqOfDecidableEq la0 (ay0 prog w) led) (Heap.get?_push_of_some _ gS) (by unfold scanBound; omega)) (funext fun q => by exact (decide_eq_false (by rw [List.take_zero]; exact List.not_mem_nil)).symm) rfl
    ·show wpAny _ _ _ _ _ _; refine wpAny_pure ?_; show wpAny _ _ (ret Value.none) _ _ _
     refine wpAny_pure ⟨rfl, h', t', rfl, g', fun b o hb e => ?_⟩
     exact kk b o (Nat.ne_of_lt hb) (by rw [Heap.size_push]; exact Nat.ne_of_lt (Nat.lt_succ_of_lt hb)) (Heap.get?_push_of_some _ (Heap.get?_push_of_some _ e))
   ·cases r₂ with
    | error e => exact hr₂
    | ok fl₂ =>
     cases fl₂ with
     | ret r =>
      obtain ⟨rfl, h', tk, rfl, gS', kk⟩ := hr₂
      (repeat (any_goals (first | assumption | wp_step)))
      exact k _ _ gS' kk
     | _ => exact hr₂.elim
  | _ => exact hr.elim
end
section
variable {X : Cx} {e : Expr} {p p2 pos pos2 : Pos}
theorem iu0 {te : TE} (hc : X.calm = true) (hgl : Gl X "len") (hml : X.mg "len" = none) (hgs : Gl X "set") (hms : X.mg "set" = none) (he : PE X e te) (hv : bootBuiltins "len" = some (.builtin "len") := by rfl) (hv2 : bootBuiltins "set" = some (.type "set") := by rfl)
  (hs : starEach [.Call (.Name "set" p2) [e] [] pos2] X.env = [(false, eval (.Call (.Name "set" p2) [e] [] pos2) X.env)] := by rfl) (hs2 : starEach [e] X.env = [(false, eval e X.env)] := by rfl) :
  PE X (.Call (.Name "len" p) [.Call (.Name "set" p2) [e] [] pos2] [] pos) (fun σ H Q => te σ H fun x H1 => ∃ a ks, x = .ref a /\ SqL X.K H1 a (ks.map kV) /\ ks.length + 1 < scanBound /\ Q (.int ((metK ks).length : Int)) H1) := by
 intro pins s σ H Q I h
 refine wpAny_Call_Name_kw (eF0 I hgl hml hv ?_ (by decide) (by decide))
 refine PyProof.Rows.callWith_builtin1 ?_ hs rfl
 rw [hs]
 show wpAny _ _ (spliced [(false, _)]) _ _ s
 refine Calls.spliced_cons ?_
 refine wpAny_Call_Name_kw (eF0 I hgs hms hv2 ?_ (by decide) (by decide))
 refine PyProof.Rows.callWith_type1 ?_ hs2 rfl
 rw [hs2]
 show wpAny _ _ (spliced [(false, _)]) _ _ s
 refine Calls.spliced_cons (thn (he pins s σ H _ I h) fun u s1 ⟨x, H1, I1, r1, a, ks, ev, ha, hb, q⟩ => Calls.spliced_nil ?_)
 subst ev
 cases r1
 obtain ⟨its, rv, pl, _⟩ := I1.list ha
 have hl : ks.length = its.toArray.size := by rw [List.size_toArray, <- rv.length, List.length_map]
 refine iJ0 (ks := ks) (I1.ok.hd hc) pl.isList hl (fun i v k g1 g2 => ?_) (by rw [<- hl]; exact hb) fun h' t' gS kk => ?_
 ·obtain ⟨u, h1, h2⟩ := rv.get (i := i) (x := kV k) (by rw [List.getElem?_map, g2]; rfl)
  have : its[i]? = some v := by simpa using g1
  rw [this] at h1
  cases h1
  exact ib0 h2
 ·have I2 : Inv X pins σ H1 { s1 with heap := h', toks := t' } := I1.kept fun b o g => kk b o (Heap.lt_size g) g
  refine Calls.spliced_nil ?_
  obtain ⟨o, es, ep, tb, ho, hex, hd, _, _, hbd, hf, hn⟩ := gS
  refine call_len_set ho hex hd hf (by unfold scanBound at hbd; omega) ⟨.int _, H1, (I2.tok _), ⟨_, rfl⟩, ?_⟩
  rw [hn]
  exact q
end
end L2
set_option Elab.async false
set_option linter.all false
set_option maxRecDepth 100000
set_option maxHeartbeats 4000000
namespace L2
open PySem PySem.Spec PyProof.Rows
def maxI : Int -> List Int -> Int
 | m, [] => m
 | m, x :: xs => maxI (if x > m then x else m) xs
theorem fQ0 (bt : Nat -> Nat -> Bool) (k : Nat) : argBest bt (k + 1) = if bt (k + 1) (argBest bt k) then k + 1 else argBest bt k := rfl
theorem ge0 : ∀ (xs : List Int) (m y : Int), maxI m (xs ++ [y]) = if y > maxI m xs then y else maxI m xs
 | [], m, y => rfl
 | x :: xs, m, y => by
  show maxI _ (xs ++ [y]) = _
  rw [ge0 xs]
  rfl
theorem dW0 (n : Int) (ns : List Int) (bt : Nat -> Nat -> Bool) (hb : ∀ i j x y, (n :: ns)[i]? = some x -> (n :: ns)[j]? = some y -> bt i j = decide (x > y)) : ∀ k, k <= ns.length -> (n :: ns)[argBest bt k]? = some (maxI n (ns.take k))
 | 0, _ => rfl
 | k + 1, h => by
  have ih := dW0 n ns bt hb k (by omega)
  have hk : k < ns.length := by omega
  have e1 : (n :: ns)[k + 1]? = some ns[k] := by rw [List.getElem?_cons_succ]; exact List.getElem?_eq_getElem hk
  have et : ns.take (k + 1) = ns.take k ++ [ns[k]] := by rw [List.take_add_one, List.getElem?_eq_getElem hk]; rfl
  rw [fQ0, hb _ _ _ _ e1 ih, et, ge0]
  by_cases c : ns[k] > maxI n (ns.take k)
  ·rw [decide_eq_true c, if_pos rfl, if_pos c]; exact e1
  ·rw [decide_eq_false c, if_neg Bool.false_ne_true, if_neg c]; exact ih
section
variable {X : Cx}
theorem io0 {ns : List Int} {its : List Value} (rv : Vals (ns.map V.int) its) {i : Nat} {v : Value} (h : its.toArray[i]? = some v) : ∃ m t, ns[i]? = some m /\ v = .int m t := by
 have h : its[i]? = some v := by simpa using h
 have hi : i < its.length := (List.getElem?_eq_some_iff.mp h).1
 have hn : i < ns.length := by have := rv.length; rw [List.length_map] at this; omega
 obtain ⟨u, h1, h2⟩ := rv.get (i := i) (x := V.int ns[i]) (by rw [List.getElem?_map, List.getElem?_eq_getElem hn]; rfl)
 rw [h] at h1
 cases h1
 obtain ⟨t, rfl⟩ := h2
 exact ⟨_, t, List.getElem?_eq_getElem hn, rfl⟩
theorem iv0 (hc : X.calm = true) : cM0 X (.builtin "max") (fun xs H Q => ∃ (a : Addr) (n : Int) (ns : List Int), xs = [.ref a] /\ (SqL X.K H a ((n :: ns).map V.int) \/ SqT X.K H a ((n :: ns).map V.int)) /\ Q (.int (maxI n ns)) H) := by
 intro pins s σ H xs us Q I r h
 obtain ⟨a, n, ns, rfl, ha, q⟩ := h
 obtain ⟨u, rfl, ru⟩ := hT0 r
 cases ru
 have hh : X.A.in1.handled = none := by simp [I.ok.hd hc]
 have cmp : ∀ {its : List Value}, Vals ((n :: ns).map V.int) its -> CmpOf X.prog X.w X.A.in1 CmpOp.Gt (fun i v => its.toArray[i]? = some v) (fun i j => decide ((n :: ns).getD i 0 > (n :: ns).getD j 0)) := by
  intro its rv i j vi vj s Q E h1 h2 q
  obtain ⟨x, t, e1, rfl⟩ := io0 rv h1
  obtain ⟨y, t', e2, rfl⟩ := io0 rv h2
  refine gt_int ?_
  have q : Q (.bool (decide ((n :: ns).getD i 0 > (n :: ns).getD j 0))) s := q
  rw [List.getD_eq_getElem?_getD, List.getD_eq_getElem?_getD, e1, e2] at q
  exact q
 have bt : ∀ i j x y, (n :: ns)[i]? = some x -> (n :: ns)[j]? = some y -> (fun i j => decide ((n :: ns).getD i 0 > (n :: ns).getD j 0)) i j = decide (x > y) := fun i j x y e1 e2 => by
  show decide ((n :: ns).getD i 0 > (n :: ns).getD j 0) = _
  rw [List.getD_eq_getElem?_getD, List.getD_eq_getElem?_getD, e1, e2]; rfl
 have fin : ∀ {its : List Value} {v : Value}, Vals ((n :: ns).map V.int) its -> its.toArray[argBest (fun i j => decide ((n :: ns).getD i 0 > (n :: ns).getD j 0)) (its.toArray.size - 1)]? = some v -> RelV (V.int (maxI n ns)) v := fun {its v} rv g => by
  have el : its.toArray.size - 1 = ns.length := by have := rv.length; simp at this; rw [List.size_toArray, <- this]; omega
  rw [el] at g
  obtain ⟨m, t, e, rfl⟩ := io0 rv g
  rw [dW0 n ns _ bt _ (Nat.le_refl _), List.take_length] at e
  cases e
  exact ⟨t, rfl⟩
 have pos : ∀ {its : List Value}, Vals ((n :: ns).map V.int) its -> 0 < its.toArray.size := fun {its} rv => by have := rv.length; simp at this; rw [List.size_toArray, <- this]; omega
 rcases ha with ha | ha
 ·obtain ⟨its, rv, pl, _⟩ := I.list ha
  have la : a < s.heap.objs.size := let ⟨o, e, _⟩ := pl.isList; Heap.lt_size e
  refine call_max_walk (wpAny_pyIter_list pl.isList ⟨_, _, _, _, _, _, _, rfl, Walks.list hh s.heap.objs.size a (Nat.ne_of_lt la) its.toArray, ⟨⟨_, Heap.get?_push_size _ rfl, rfl, rfl⟩, pl.isList.push _⟩, fun b hb => ?_, pos rv, cmp rv, fun v h' tk g k => ?_⟩)
  ·rw [Heap.size_push]
   rcases List.mem_cons.mp hb with rfl | hb
   ·exact Nat.lt_succ_self _
   ·rw [List.mem_singleton.mp hb]; exact Nat.lt_succ_of_lt la
  ·exact ⟨.int _, H, I.kept fun b o e => k b o (fun z => by rw [List.mem_singleton.mp z] at e; exact absurd (Heap.lt_size e) (Nat.lt_irrefl _)) (Heap.get?_push_of_some _ e), fin rv g, q⟩
 ·obtain ⟨its, rv, pl, _⟩ := I.tuple ha
  have pl : s.heap.IsTuple a its.toArray := pl
  have la : a < s.heap.objs.size := let ⟨o, e, _⟩ := pl; Heap.lt_size e
  refine call_max_walk (wpAny_pyIter_tuple pl ⟨_, _, _, _, _, _, _, rfl, Walks.tuple hh s.heap.objs.size a (Nat.ne_of_lt la) its.toArray, ⟨⟨_, Heap.get?_push_size _ rfl, rfl, rfl⟩, pl.push _⟩, fun b hb => ?_, pos rv, cmp rv, fun v h' tk g k => ?_⟩)
  ·rw [Heap.size_push]
   rcases List.mem_cons.mp hb with rfl | hb
   ·exact Nat.lt_succ_self _
   ·rw [List.mem_singleton.mp hb]; exact Nat.lt_succ_of_lt la
  ·exact ⟨.int _, H, I.kept fun b o e => k b o (fun z => by rw [List.mem_singleton.mp z] at e; exact absurd (Heap.lt_size e) (Nat.lt_irrefl _)) (Heap.get?_push_of_some _ e), fin rv g, q⟩
end
end L2
namespace L2.BD
open PySem PySem.Spec PyProof.Rows
section
variable {X : Cx} {Y : Fx} {e a b : Expr} {pos p p2 pos2 : Pos} {f : En -> Option T} {fa : En -> Option (List T)}
def maxO : List Int -> Option T
 | n :: ns => some (.int (maxI n ns))
 | [] => none
def φMax : List T -> Option T
 | [.lst ts] => (dE0 ts).bind maxO
 | [.tup ts] => (dE0 ts).bind maxO
 | _ => none
theorem fZ0 {ts : List T} {u : T} (h : (dE0 ts).bind maxO = some u) : ∃ n ns, ts = (n :: ns).map T.int /\ u = .int (maxI n ns) := by
 cases q : dE0 ts with
 | none => rw [q] at h; cases h
 | some ms =>
  rw [q] at h
  cases ms with
  | nil => cases h
  | cons n ns => cases h; exact ⟨n, ns, gX0 q, rfl⟩
theorem o_max {K : PySem.W.Frag} : OpN (fun xs H Q => ∃ (a : Addr) (n : Int) (ns : List Int), xs = [.ref a] /\ (SqL K H a ((n :: ns).map V.int) \/ SqT K H a ((n :: ns).map V.int)) /\ Q (.int (maxI n ns)) H) φMax := by
 intro F H xs ts u Q tk r h k
 unfold φMax at h
 split at h
 ·obtain ⟨x, rfl, rx⟩ := Rbs.one r
  obtain ⟨a, ys, rfl, ha, ry⟩ := rx.lst_
  obtain ⟨n, ns, rfl, rfl⟩ := fZ0 h
  rw [ry.ints] at ha
  exact ⟨a, n, ns, rfl, .inl (SqL.of ha), k F _ H (.refl tk) (.int _)⟩
 ·obtain ⟨x, rfl, rx⟩ := Rbs.one r
  obtain ⟨a, ys, rfl, ha, ry⟩ := rx.tup_
  obtain ⟨n, ns, rfl, rfl⟩ := fZ0 h
  rw [ry.ints] at ha
  exact ⟨a, n, ns, rfl, .inr (SqT.of ha), k F _ H (.refl tk) (.int _)⟩
 ·cases h
theorem nu0 (hc : X.calm = true) (hg : Gl X "max") (hm : X.mg "max" = none) (ha : BA X Y [a] fa) (hv : bootBuiltins "max" = some (.builtin "max") := by rfl) (he : starEach [a] X.env = [(false, eval a X.env)] := by rfl) : SE X Y (.Call (.Name "max" p) [a] [] pos) (av0 φMax fa) := dQ0 (iv0 hc) o_max hg hm hv ha (by decide) (by decide) he rfl
def fU0 : List T -> Option (List Str)
 | [] => some []
 | .str i :: ts => (fU0 ts).map (i :: ·)
 | _ => none
theorem jE0 (ns : List Str) : fU0 (ns.map T.str) = some ns := by
 induction ns with
 | nil => rfl
 | cons n ns ih => show (fU0 (ns.map T.str)).map (n :: ·) = _; rw [ih]; rfl
theorem gL0 : ∀ {ts : List T} {ns : List Str}, fU0 ts = some ns -> ts = ns.map T.str
 | [], ns, h => by cases h; rfl
 | .str i :: ts, ns, h => by
  have h : (fU0 ts).map (i :: ·) = some ns := h
  cases q : fU0 ts with
  | none => rw [q] at h; cases h
  | some ms => rw [q] at h; cases h; rw [gL0 q]; rfl
theorem Rps.strs {F : Addr -> Prop} {H : Hp} : ∀ {xs : List V} {ns : List Str}, Rps F H xs (ns.map T.str) -> xs = ns.map V.str
 | _, [], h => by cases h; rfl
 | _, n :: ns, h => by
  cases h with
  | cons h r => cases h; rw [Rps.strs r]; rfl
def dt0 (f : En -> Option T) : En -> Option T := fun ε => match f ε with
 | some (.lst ts) => (fU0 ts).bind fun ns => if ns.length <= 1000 then some (.int (metK (ns.map Sum.inr)).length) else none
 | _ => none
theorem iO0 (hc : X.calm = true) (hgl : Gl X "len") (hml : X.mg "len" = none) (hgs : Gl X "set") (hms : X.mg "set" = none) (he : BE X Y e f)
  (hs : starEach [.Call (.Name "set" p2) [e] [] pos2] X.env = [(false, eval (.Call (.Name "set" p2) [e] [] pos2) X.env)] := by rfl) (hs2 : starEach [e] X.env = [(false, eval e X.env)] := by rfl) :
  SE X Y (.Call (.Name "len" p) [.Call (.Name "set" p2) [e] [] pos2] [] pos) (dt0 f) := PE.imp (iu0 hc hgl hml hgs hms he rfl rfl hs hs2) fun σ H Q ⟨F, ε, u, r, hf, k⟩ => by
 unfold dt0 at hf
 split at hf
 ·rename_i ts qf
  cases q : fU0 ts with
  | none => rw [q] at hf; cases hf
  | some ns =>
   rw [q] at hf
   simp only [Option.bind_some] at hf
   split at hf
   ·rename_i hb
    cases hf
    refine ⟨F, ε, _, r, qf, fun F1 v H1 m1 rv => ?_⟩
    obtain ⟨a, xs, rfl, ha, rs⟩ := rv.lst_
    rw [gL0 q] at rs
    rw [rs.strs] at ha
    refine ⟨a, ns.map Sum.inr, rfl, ?_, ?_, k F1 _ H1 m1 (.int _)⟩
    ·rw [List.map_map]; exact SqL.of ha
    ·rw [List.length_map]; unfold scanBound; omega
   ·cases hf
 ·cases hf
def hS0 (f : Str) (t : T) : List (Str × T) -> List (Str × T)
 | [] => [(f, t)]
 | (g, x) :: r => if g = f then (g, t) :: r else (g, x) :: hS0 f t r
theorem Rpf.put {F : Addr -> Prop} {H : Hp} {n : Str} {v : V} {t : T} (h : Rp F H v t) : ∀ {fs : List (Str × V)} {ts : List (Str × T)}, Rpf F H fs ts -> Rpf F H (putF n v fs) (hS0 n t ts)
 | _, _, .nil => .cons h .nil
 | _, _, .cons (k := k) q r => by
  unfold putF hS0
  by_cases e : k = n
  ·rw [if_pos e, if_pos e]; exact .cons h r
  ·rw [if_neg e, if_neg e]; exact .cons q (Rpf.put h r)
def cj0 (C : Addr) (i : Nat) (n : Str) (f : En -> Option T) : En -> Option Fl := fun ε => match ε[i]? with
 | some (.ow (.ins C' fs)) => if C' = C /\ fs.length < 1000 then (f ε).bind fun t => some (.nx (ε.set i (.ow (.ins C' (hS0 n t fs))))) else none
 | _ => none
theorem cz0 {C : Addr} {i : Nat} {x n : Str} {px apos : Pos} (hx : PE X (.Name x px) (tVar i)) (c : Cls X.K C) (na : NoAttr X.K C n) (he : SE X Y e f) (hs : swapsWith e (some (.Attribute (.Name x px) n apos)) pos.line X.env = pure false := by rfl) :
  SS X Y (.Assign [.Attribute (.Name x px) n apos] e pos) (cj0 C i n f) := PS.imp (mK0 hx he hs) fun D σ H ⟨F, ε, fl, r, hg, k⟩ => by
 unfold cj0 at hg
 split at hg
 ·rename_i C' fs e1
  split at hg
  ·rename_i hc
   obtain ⟨rfl, hl⟩ := hc
   cases q : f ε with
   | none => rw [q] at hg; cases hg
   | some t =>
    rw [q] at hg
    cases hg
    refine ⟨F, ε, t, r, q, fun F1 v H1 m1 rv => ?_⟩
    obtain ⟨a, s1, nf, h0, hr⟩ := (r.mono m1).ow i _ e1
    obtain ⟨dx, xs, ha, rf⟩ := hr.ins_
    refine ⟨_, s1, a, C', dx, xs, rfl, ha, c, na, by rw [rf.length]; exact hl, ?_⟩
    have hne : ∀ ys, H1 a ≠ some (.tup ys) := fun ys z => by rw [ha] at z; cases z
    have kp : Keep F1 H1 F1 (upd H1 a (.ins C' dx (putF n v xs))) := ⟨fun _ h => h, fun b u f q => by rw [ao0 (fun (z : b = a) => nf (z ▸ f))]; exact q, fun b ys q => by rw [ao0 (fun (z : b = a) => hne ys (z ▸ q))]; exact q⟩
    obtain ⟨r2, k2⟩ := (r.mono m1).write (o := .ins C' dx (putF n v xs)) (t' := .ins C' (hS0 n t fs)) e1 s1 hne (.ins aq0 ((rf.put rv).keep kp)) (fun _ => rfl)
    exact k F1 σ _ (m1.keep.trans k2) r2
  ·cases hg
 ·cases hg
end
def gl0 (C : Addr) (N : List Str) (ts : List T) : En := .ow (.ins C []) :: bQ0 N.tail ts
theorem jV0 {C dx x : Addr} {n : Str} {N : List Str} {F : Addr -> Prop} {H : Hp} {us : List V} {ts : List T} (tk : Trk F H) (hx : H x = some (.ins C dx [])) (nf : ¬ F x) (r : Rps F H us ts) :
  Rel ⟨fun b => if b = x then none else H b, F, fun a => a = x, fun _ _ => False⟩ F (gl0 C (n :: N) ts) (start (n :: N) (.ref x :: us)) H := by
 have R := dU0 (N := N) tk r
 have es : start (n :: N) (.ref x :: us) = some (.ref x) :: start N us := by
  unfold start
  simp only [List.map_cons, List.length_cons, List.cons_append, Nat.add_sub_add_right]
 rw [es]
 have noO : ∀ (i : Nat) t, (bQ0 N ts)[i]? ≠ some (.ow t) := fun i t e => by
  unfold bQ0 at e
  by_cases hi : i < ts.length
  ·rw [List.getElem?_append_left (by simpa using hi), List.getElem?_map] at e
   cases q : ts[i]? with
   | none => rw [q] at e; cases e
   | some t' => rw [q] at e; cases e
  ·rw [List.getElem?_append_right (by simpa using hi), List.getElem?_replicate] at e
   split at e <;> cases e
 refine ⟨?_, fun i t e => ?_, fun i t e => ?_, fun i j t u a ne e1 e2 s1 s2 => ?_, fun b o h => ?_, fun _ h => h, fun _ h => .inl h, tk, fun i t a e hi s1 => ?_, fun i v t e => ?_⟩
 ·show (bQ0 N ts).length + 1 = _
  rw [List.length_cons, R.len]
 ·cases i with
  | zero => cases e
  | succ i => exact R.sh i t e
 ·cases i with
  | zero => cases e; exact ⟨x, rfl, nf, if_pos rfl, .ins hx .nil⟩
  | succ i => exact absurd e (noO i t)
 ·cases i with
  | zero =>
   cases j with
   | zero => exact ne rfl
   | succ j => exact noO j u e2
  | succ i => exact noO i t e1
 ·have h : (if b = x then none else H b) = some o := h
  by_cases z : b = x
  ·rw [if_pos z] at h; cases h
  ·rw [if_neg z] at h; exact h
 ·cases i with
  | zero => cases s1; rfl
  | succ i => exact absurd e (noO i t)
 ·cases i with
  | zero => cases e
  | succ i => exact R.fx i v t e
section
variable {P : Program} {w : World} {K : PySem.W.Frag} {mg : Str -> Option Value} {base : Heap}
end
section
variable {X : Cx} {Y : Fx} {k : Nat} {f C : Addr} {fd : FuncData} {ps : List Str} {x : Str} {p pos : Pos} {e : Expr} {es : List Expr} {gs : List T -> Option (List (Str × T))} {fa : En -> Option (List T)}
end
end L2.BD
set_option Elab.async false
set_option linter.all false
set_option maxRecDepth 100000
set_option maxHeartbeats 4000000
namespace L2.BD
open PySem PySem.Spec PyProof.Rows
section
variable (P : Program) (w : World) (K : PySem.W.Frag) (mg : Str -> Option Value) (base : Heap)
def aW0 (k : Nat) (x : Str) (ps : List Str) (gs : List T -> Option (Bool × T)) : Prop := ∃ f fd, FnOk P w K mg base CX0 k f fd ps (spP gs) /\ mg x = some (.ref f) /\ PySem.W.keepIn K (.ref f) = true /\ Binds K fd ps []
end
theorem dn0 {X : Cx} {scope : Scope} {own : List Str} (N : List Str) (sc : Scope) (h1 : X.N = N) (h2 : X.env.scope = sc) (h : dy0 scope own N sc = true) : dy0 scope own X.N X.env.scope = true := by rw [h1, h2]; exact h
theorem df0 {X : Cx} (N : List Str) (h1 : X.N = N) (h : N.Nodup) : X.N.Nodup := by rw [h1]; exact h
theorem hu20 {A : Around} {k : Nat} (hr : Room k A) : A.units + 20 < cLine := Nat.lt_of_le_of_lt (Nat.add_le_add_left (by decide : 20 <= 64) _) hr.units
def fnT (N : List Str) (n : Nat) (g : En -> Option Fl) : List T -> Option (Bool × T) := fun ts => if ts.length = n then (g (bQ0 N ts)).bind cL0 else none
theorem aN0 {N : List Str} {n : Nat} {g : En -> Option Fl} {ts : List T} {o : Bool} {t : T} (h : fnT N n g ts = some (o, t)) : (g (bQ0 N ts)).bind cL0 = some (o, t) := by
 unfold fnT at h
 split at h
 ·exact h
 ·cases h
theorem bm0 {N : List Str} {n : Nat} {g : En -> Option Fl} {ts : List T} {r : Bool × T} (h : fnT N n g ts = some r) : ts.length = n := by
 unfold fnT at h
 split at h
 ·assumption
 ·cases h
section
variable {X : Cx} {Y : Fx} {k : Nat} {C : Addr} {ps : List Str} {x m : Str} {p pos apos : Pos} {e o : Expr} {es : List Expr} {gs : List T -> Option (Bool × T)} {fa : En -> Option (List T)} {fo : En -> Option T}
theorem cb0 {x : Str} {i : Int} (hg : Gl X x) (hm : ∃ t, X.mg x = some (.int i t)) (hd : (x == ("__debug__" : Str)) = false := by decide) : SE X Y (.Name x pos) (eC (.int i)) := by
 obtain ⟨t, hm⟩ := hm
 exact mD0 (v := .int i) hg hm ⟨t, rfl⟩ (fun _ _ => .int i) hd
theorem aX0 (D : aW0 X.prog X.w X.K X.mg X.base k x ps gs) (hr : Room k X.A) (hg : Gl X x) (ha : SA X Y (e :: es) fa)
  (hdb : (x == ("__debug__" : Str)) = false := by decide) (he : starEach (e :: es) X.env = (false, eval e X.env) :: starEach es X.env := by rfl) (hpl : (backTo pos (starEach es X.env)).any (·.1) = false := by rfl) :
  SE X Y (.Call (.Name x p) (e :: es) [] pos) (eFn gs fa) := by
 obtain ⟨f, fd, F, h1, h2, h3⟩ := D
 exact se_fn F hr hg h1 h2 h3 ha hdb he hpl
theorem eL0 (D : aW0 X.prog X.w X.K X.mg X.base k x ps gs) (hr : Room k X.A) (hg : Gl X x) (ha : SA X Y (e :: es) fa)
  (hdb : (x == ("__debug__" : Str)) = false := by decide) (he : starEach (e :: es) X.env = (false, eval e X.env) :: starEach es X.env := by rfl) (hpl : (backTo pos (starEach es X.env)).any (·.1) = false := by rfl) :
  FE X Y (.Call (.Name x p) (e :: es) [] pos) (eFnF gs fa) := by
 obtain ⟨f, fd, F, h1, h2, h3⟩ := D
 exact fe_fn F hr hg h1 h2 h3 ha hdb he hpl
end
end L2.BD
set_option Elab.async false
set_option linter.all false
set_option maxRecDepth 100000
set_option maxHeartbeats 4000000
namespace L2.BD
open PySem PySem.Spec
theorem hy0 {n : Nat} {ε : En} {bd : T -> En -> Option En} {p : En -> Option Bool} {f : En -> Option T} {P : T -> Bool} {G : T -> T} : ∀ (ts : List T),
  (∀ t, t ∈ ts -> ∃ ε1, bd t (List.replicate n .un ++ ε) = some ε1 /\ p ε1 = some (P t) /\ (P t = true -> f ε1 = some (G t))) -> dB0 n ε bd p f ts = some ((ts.filter P).map G)
 | [], _ => rfl
 | t :: ts, h => by
  obtain ⟨ε1, h1, h2, h3⟩ := h t (List.mem_cons_self ..)
  have ih := hy0 ts fun u hu => h u (List.mem_cons_of_mem _ hu)
  unfold dB0
  rw [h1, Option.bind_some, h2, Option.bind_some, ih]
  cases q : P t with
  | true => rw [if_pos rfl, h3 q, Option.bind_some, Option.bind_some, List.filter_cons_of_pos q]; rfl
  | false => rw [if_neg Bool.false_ne_true, List.filter_cons_of_neg (by simp [q])]
theorem ko0 {n : Nat} {it : En -> Option (List T)} {ε : En} {bd : T -> En -> Option En} {p : En -> Option Bool} {f : En -> Option T} {P : T -> Bool} {G : T -> T} {ts : List T} (hi : it ε = some ts) (hl : ts.length <= big)
  (h : ∀ t, t ∈ ts -> ∃ ε1, bd t (List.replicate n .un ++ ε) = some ε1 /\ p ε1 = some (P t) /\ (P t = true -> f ε1 = some (G t))) : aZ0 n it bd p f ε = some (.lst ((ts.filter P).map G)) := by
 unfold aZ0
 rw [hi, Option.bind_some, if_pos hl, hy0 ts h]
 rfl
theorem bB0 {n : Nat} {it : En -> Option (List T)} {ε : En} {bd : T -> En -> Option En} {f : En -> Option T} {G : T -> T} {ts : List T} (hi : it ε = some ts) (hl : ts.length <= big)
  (h : ∀ t, t ∈ ts -> ∃ ε1, bd t (List.replicate n .un ++ ε) = some ε1 /\ f ε1 = some (G t)) : aZ0 n it bd bv0 f ε = some (.lst (ts.map G)) := by
 have := ko0 (p := bv0) (P := fun _ => true) (f := f) (G := G) hi hl fun t ht => let ⟨ε1, h1, h2⟩ := h t ht; ⟨ε1, h1, rfl, fun _ => h2⟩
 rw [this, List.filter_eq_self.mpr (fun _ _ => rfl)]
theorem dM0 {bd : T -> En -> Option En} {body : En -> Option Fl} (I : Nat -> En -> Prop) : ∀ (ts : List T) (k : Nat) (ε : En), I k ε ->
  (∀ (i : Nat) t ε, ts[i]? = some t -> I (k + i) ε -> ∃ ε1 ε2, bd t ε = some ε1 /\ (body ε1 = some (.nx ε2) \/ body ε1 = some (.ct ε2)) /\ I (k + i + 1) ε2) -> ∃ ε', dG0 bd body ts ε = some (.nx ε') /\ I (k + ts.length) ε'
 | [], k, ε, h0, _ => ⟨ε, rfl, h0⟩
 | t :: ts, k, ε, h0, h => by
  obtain ⟨ε1, ε2, h1, h2, h3⟩ := h 0 t ε rfl h0
  obtain ⟨ε', h4, h5⟩ := dM0 I ts (k + 1) ε2 h3 fun i u η hu hi => by
   have e : k + 1 + i = k + (i + 1) := by omega
   rw [e] at hi ⊢
   exact h (i + 1) u η hu hi
  refine ⟨ε', ?_, by rw [List.length_cons, show k + (ts.length + 1) = k + 1 + ts.length by omega]; exact h5⟩
  unfold dG0
  rw [h1]
  rcases h2 with h2 | h2
  ·simp only [Option.bind_some, h2]; exact h4
  ·simp only [Option.bind_some, h2]; exact h4
end L2.BD
set_option Elab.async false
set_option linter.all false
set_option maxRecDepth 100000
set_option maxHeartbeats 4000000
namespace L2.BD
open PySem PySem.Spec PyProof.Rows
theorem eR0 {α : Type} : ∀ {l : List α} {i j : Nat} {a : α}, l.Nodup -> l[i]? = some a -> l[j]? = some a -> i = j
 | [], _, _, _, _, h, _ => by simp at h
 | x :: l, 0, 0, _, _, _, _ => rfl
 | x :: l, 0, j + 1, a, nd, h1, h2 => by
  simp at h1 h2
  subst h1
  exact absurd (List.mem_of_getElem? h2) (List.nodup_cons.mp nd).1
 | x :: l, i + 1, 0, a, nd, h1, h2 => by
  simp at h1 h2
  subst h2
  exact absurd (List.mem_of_getElem? h1) (List.nodup_cons.mp nd).1
 | x :: l, i + 1, j + 1, a, nd, h1, h2 => by
  simp at h1 h2
  rw [eR0 (List.nodup_cons.mp nd).2 h1 h2]
theorem _root_.L2.ObjOk.there {P : Program} {w : World} {H : Hp} {h : Heap} {a : Addr} {o : HO} (x : ObjOk P w H h a o) : ∃ ob, h.get? a = some ob := by
 cases o with
 | lst xs => obtain ⟨_, _, _, _, e⟩ := x; exact ⟨_, e⟩
 | tup xs => obtain ⟨_, _, _, _, ob, e, _⟩ := x; exact ⟨ob, e⟩
 | dK kvs => obtain ⟨_, _, _, _, ob, _, _, e, _⟩ := x; exact ⟨ob, e⟩
 | dT kvs => obtain ⟨_, _, _, _, ob, _, _, e, _⟩ := x; exact ⟨ob, e⟩
 | set S n => obtain ⟨ob, _, _, _, e, _⟩ := x; exact ⟨ob, e⟩
 | ins C dx fs => obtain ⟨_, _, _, e, _⟩ := x; exact ⟨_, e⟩
 | own y => exact x
 | xd fs => obtain ⟨_, ⟨ob, _, _, e, _⟩, _⟩ := x; exact ⟨ob, e⟩
 | rng lo hi => obtain ⟨_, _, _, e⟩ := x; exact ⟨_, e⟩
 | frz ob u => exact ⟨ob, x.1⟩
 | tbl ps => exact ⟨_, x⟩
 | met f y => exact ⟨_, x⟩
 | ext φ => exact x.2.1
structure Fly (P : Program) (w : World) (outer : List Env) (H : Hp) (s : Shared) (a : Addr) (cls a0 : Value) (H' : Hp) (B : Heap) (s' : Shared) : Prop where
 os : s'.os = s.os
 bare : AllBare s'.gens
 un : Un (frs outer) [] H H' s.heap s'.heap
 hok : HOk P w H' s'.heap
 fly : Heap.FlyingW B outer a cls a0 s'.heap
 f1 : ∀ b o, s.heap.get? b = some o -> H b = none -> b ∉ frs outer -> B.get? b = some o
 f2 : ∀ b u o, H' b = some u -> s'.heap.get? b = some o -> B.get? b = some o
 f3 : ∀ b o, s.heap.get? b = some o -> b ∉ frs outer -> ∃ o', B.get? b = some o'
 new : s.heap.get? a = none
def CXB (P : Program) (w : World) : CXT := fun outer H s E e s' => ∃ a cls a0 H' B, e = .ref a /\ Fly P w outer H s a cls a0 H' B s' /\ E cls none H'
theorem ch0 {b : Addr} : b ∉ ([] : List Addr) := fun z => by cases z
theorem Fly.move {P : Program} {w : World} {outer l : List Env} {H H' : Hp} {s s' : Shared} {a : Addr} {cls a0 : Value} {B h6 : Heap} (x : Fly P w outer H s a cls a0 H' B s') (hf : Heap.FlyingW B l a cls a0 h6) (u : s'.heap.UpToSlots h6) :
  Un (frs outer) [] H H' s.heap h6 /\ HOk P w H' h6 := by
 have frame : ∀ b o, s.heap.get? b = some o -> H b = none -> b ∈ frs outer -> ∃ sl, h6.get? b = some { o with slots := sl } := fun b o e n hb => by
  obtain ⟨sl, e1⟩ := x.un.slot b o e n hb ch0
  obtain ⟨_, o2, e2, nf⟩ := x.fly.2.2.1.mem hb
  rw [e1] at e2
  cases e2
  obtain ⟨sl2, e3⟩ := u b _ e1 nf
  exact ⟨sl2, e3⟩
 refine ⟨⟨fun b o e n hb _ => hf.1 b o (x.f1 b o e n hb), fun b o e n hb _ => frame b o e n hb, x.un.free, fun b o e _ => ?_, x.un.tups, x.un.frzs, x.un.tbls⟩, fun b ob e => ?_⟩
 ·by_cases hb : b ∈ frs outer
  ·obtain ⟨_, o2, e2, nf⟩ := x.fly.2.2.1.mem hb
   obtain ⟨sl2, e3⟩ := u b _ e2 nf
   exact ⟨_, e3⟩
  ·obtain ⟨o', e'⟩ := x.f3 b o e hb
   exact ⟨o', hf.1 b o' e'⟩
 ·refine (x.hok b ob e).stay (fun c v hc q => ?_) (fun _ q => q) fun _ _ q => q
  rcases hc with rfl | hc
  ·exact hf.1 _ _ (x.f2 _ _ _ e q)
  ·exact hf.1 _ _ (x.f2 _ _ _ hc q)
structure Own (X : Cx) : Prop where
 stk : X.stack = X.env :: X.outer
 frm : X.env.frame = some X.env.locals
 ex : X.ex = []
section
variable {X : Cx} {pins : List (Addr × Obj)} {σ : St} {H : Hp} {s : Shared}
theorem dj0 (I : Inv X pins σ H s) (O : Own X) {b : Addr} {o : Obj} (e : X.s₀.heap.get? b = some o) (hb : b ∉ X.fs) : b ∉ frs X.stack := fun z => by
 rcases List.mem_cons.mp (I.stkSub b z) with z | z
 ·rw [z] at e
  exact absurd (Nat.lt_of_lt_of_le (Heap.lt_size e) I.ok.above) (Nat.lt_irrefl _)
 ·exact hb z
theorem stood (I : Inv X pins σ H s) (O : Own X) {b : Addr} {o : Obj} (e : X.s₀.heap.get? b = some o) : ∃ o', s.heap.get? b = some o' := I.base.there b o e (by rw [O.ex]; exact ch0)
theorem dx0 {A : Around} {M : Model} {E2 : Value -> Shared -> Prop} {EE : XK} {C e : Addr} {vs : List Value} {h1 : Heap} (I : Inv X pins σ H s) (O : Own X) (hA : A.frames = some X.stack) (hx : Heap.MadeExcOf s.heap h1 e (.ref C) vs) (hE : EE (.ref C) none H) :
  wpAny M A (leaving X.env (.ref e)) (fun _ s2 => CXB X.prog X.w X.outer X.H₀ X.s₀ EE (.ref e) s2) E2 { s with heap := h1 } := by
 have inB : ∀ b o, s.heap.get? b = some o -> b ∉ frs X.stack -> (PySem.W.hideAll s.heap (frs X.stack)).get? b = some o := fun b o q hb => PySem.W.hideAll_get _ q hb
 have fr : s.heap.FunFrames (PySem.W.hideAll s.heap (frs X.stack)) X.stack := PySem.W.funFrames_hide I.stack fun env he b hb => List.mem_filterMap.mpr ⟨env, he, hb⟩
 rw [O.stk] at hA fr inB
 refine wpAny_leaves_madeW (s := { s with heap := h1 }) hA O.frm (fun b o q => PySem.W.of_hideAll _ q) fr hx fun h2 t fl tu bt up => ?_
 have noFr : ∀ b u, H b = some u -> b ∉ frs (X.env :: X.outer) := fun b u q z => by
  rw [<- O.stk] at z
  rw [I.stkFree b z] at q
  cases q
 have out : ∀ {b : Addr} {o : Obj}, X.s₀.heap.get? b = some o -> b ∉ frs X.outer -> b ∉ frs (X.env :: X.outer) := fun e hb => by
  rw [<- O.stk]
  exact dj0 I O e hb
 have exN : ∀ b : Addr, b ∉ X.ex := fun b => by rw [O.ex]; exact ch0
 refine ⟨e, .ref C, .ref t, H, _, rfl, ⟨I.os, I.bare, ⟨fun b o q n hb _ => ?_, fun b o q n hb _ => ?_, fun b o q n _ => I.base.free b o q n (exN b), fun b o q _ => ?_, I.base.tups, I.base.frzs, I.base.tbls⟩, fun b ob q => ?_, fl, fun b o q n hb => ?_, fun b u o q q2 => ?_, fun b o q hb => ?_, ?_⟩, hE⟩
 ·exact fl.1 b o (inB b o (I.base.keep b o q n hb (exN b)) (out q hb))
 ·obtain ⟨sl, e1⟩ := I.base.slot b o q n hb (exN b)
  obtain ⟨_, o2, e2, nf⟩ := I.funs.mem hb
  rw [e1] at e2
  cases e2
  obtain ⟨sl2, e3⟩ := up b _ (hx.keeps _ _ e1) nf
  exact ⟨sl2, e3⟩
 ·obtain ⟨o', e1⟩ := stood I O q
  by_cases hb : b ∈ frs X.outer
  ·obtain ⟨_, o2, e2, nf⟩ := I.funs.mem hb
   obtain ⟨sl2, e3⟩ := up b _ (hx.keeps _ _ e2) nf
   exact ⟨_, e3⟩
  ·exact ⟨o', fl.1 b o' (inB b o' e1 (out q hb))⟩
 ·refine (I.hok b ob q).stay (fun c v hc z => ?_) (fun _ z => z) fun _ _ z => z
  rcases hc with rfl | hc
  ·exact fl.1 _ _ (inB _ _ z (noFr _ _ q))
  ·exact fl.1 _ _ (inB _ _ z (noFr _ _ hc))
 ·exact inB b o (I.base.keep b o q n hb (exN b)) (out q hb)
 ·obtain ⟨o1, e1⟩ := (I.hok b u q).there
  have e2 := inB b o1 e1 (noFr b u q)
  have e3 := fl.1 b o1 e2
  rw [q2] at e3
  cases e3
  exact e2
 ·obtain ⟨o', e1⟩ := stood I O q
  exact ⟨o', inB b o' e1 (out q hb)⟩
 ·cases q : X.s₀.heap.get? e with
  | none => rfl
  | some o =>
   obtain ⟨o', e1⟩ := stood I O q
   rw [hx.new] at e1
   cases e1
theorem iy0 {A : Around} {M : Model} {E2 : Value -> Shared -> Prop} {EE EE2 : XK} {e : Value} {s' : Shared} (I : Inv X pins σ H s) (O : Own X) (hA : A.frames = some X.stack) (hx : CXB X.prog X.w X.stack H s EE e s') (hE : ∀ c H', EE c none H' -> EE2 c none H') :
  wpAny M A (leaving X.env e) (fun _ s2 => CXB X.prog X.w X.outer X.H₀ X.s₀ EE2 e s2) E2 s' := by
 obtain ⟨a, cls, a0, H', B, rfl, x, hq⟩ := hx
 have fl0 := x.fly
 rw [O.stk] at hA fl0
 refine wpAny_leaves_onW hA O.frm fl0 fun h2 fl up => ?_
 obtain ⟨un2, hok2⟩ := x.move fl up
 have I2 : Inv X pins σ H' { s' with heap := h2 } := I.call' (s' := { s' with heap := h2 }) x.os un2 hok2 x.bare fun b z => absurd z ch0
 have exN : ∀ b : Addr, b ∉ X.ex := fun b => by rw [O.ex]; exact ch0
 have b2 := I2.base
 rw [O.ex] at b2
 refine ⟨a, cls, a0, H', B, rfl, ⟨I2.os, I2.bare, b2, hok2, fl, fun b o q n hb => ?_, fun b u o q q2 => ?_, fun b o q hb => ?_, ?_⟩, hE _ _ hq⟩
 ·exact x.f1 b o (I.base.keep b o q n hb (exN b)) (I.base.free b o q n (exN b)) (dj0 I O q hb)
 ·obtain ⟨o1, e1⟩ := (x.hok b u q).there
  have e2 := x.f2 b u o1 q e1
  have e3 := fl.1 b o1 e2
  rw [q2] at e3
  cases e3
  exact e2
 ·obtain ⟨o', e1⟩ := stood I O q
  exact x.f3 b o' e1 (dj0 I O q hb)
 ·cases q : X.s₀.heap.get? a with
  | none => rfl
  | some o =>
   obtain ⟨o', e1⟩ := stood I O q
   rw [x.new] at e1
   cases e1
theorem _root_.L2.Inv.take {a : Addr} {o : Obj} (I : Inv X pins σ H s) (ho : s.heap.get? a = some o) (hn : H a = none) (h0 : X.s₀.heap.get? a = none) (hd : ∃ vs, o.data = .fields vs) (hp : ∀ p ∈ X.pn ++ pins, p.1 ≠ a) :
  Inv X pins σ (upd H a (.frz o (.ext fun _ => True))) s := by
 obtain ⟨vs, hd⟩ := hd
 have hL : X.env.locals ≠ a := fun z => by
  obtain ⟨m, ⟨o', es, ep, ho', hd', _⟩, _⟩ := I.loc
  rw [z, ho] at ho'
  cases ho'
  rw [hd] at hd'
  cases hd'
 have hC : ∀ x c, X.env.cells.lookup x = some c -> c ≠ a := fun x c e z => by
  obtain ⟨v, o', ho', hd'⟩ := I.cell x c e
  rw [z, ho] at ho'
  cases ho'
  rw [hd] at hd'
  cases hd'
 have up : ∀ b u, H b = some u -> upd H a (.frz o (.ext fun _ => True)) b = some u := fun b u q => by rw [ao0 (au0 q hn)]; exact q
 refine ⟨I.ok, I.os, I.bare, ⟨I.base.keep, I.base.slot, fun b u e n hx => ?_, I.base.there, fun b xs e => up b _ (I.base.tups b xs e), fun b u v e => up b _ (I.base.frzs b u v e), fun b ps e => ?_⟩, I.loc, I.cell, ?_, fun x c e => ?_, fun p hq => ?_, fun b u e => ?_, I.len⟩
 ·rw [ao0 (fun z => by rw [z, h0] at e; cases e)]
  exact I.base.free b u e n hx
 ·obtain ⟨mo, q⟩ := I.base.tbls b ps e
  exact ⟨mo, up b _ q⟩
 ·rw [ao0 hL]
  exact I.free
 ·rw [ao0 (hC x c e)]
  exact I.freeC x c e
 ·obtain ⟨h1, h2, h3⟩ := I.pin p hq
  exact ⟨h1, by rw [ao0 (hp p hq)]; exact h2, h3⟩
 ·by_cases hb : b = a
  ·subst hb
   rw [aq0] at e
   cases e
   exact ⟨ho, trivial, ⟨o, ho⟩, fun _ _ _ _ => trivial⟩
  ·rw [ao0 hb] at e
   exact (I.hok b u e).stay (fun _ _ _ q => q) (fun c q => up c _ q) fun c xs q => up c _ q
theorem nM0 {h : Heap} {a : Addr} {m m' : Str -> Option Value} (x : h.Ns a m) (y : h.Ns a m') : m = m' := by
 obtain ⟨o, es, ep, h1, h2, _, h3⟩ := x
 obtain ⟨o', es', ep', h1', h2', _, h3'⟩ := y
 rw [h1] at h1'
 cases h1'
 rw [h2] at h2'
 cases h2'
 funext n
 rw [<- h3, <- h3']
theorem _root_.L2.Inv.unbind {j : Nat} {n : Str} {h' : Heap} {m : Str -> Option Value} {u : Option Value} {t' : Nat} (I : Inv X pins σ H s) (hN : X.N.Nodup) (hj : X.N[j]? = some n) (hm : s.heap.Ns X.env.locals m)
  (hn : h'.Ns X.env.locals fun x => if x = n then u else m x) (hs : Heap.SameBut X.env.locals s.heap h') : Inv X pins (σ.set j none) H { s with heap := h', toks := t' } := by
 obtain ⟨m0, hm0, hl⟩ := id I.loc
 obtain rfl : m0 = m := nM0 hm0 hm
 have other : ∀ b o, b ≠ X.env.locals -> s.heap.get? b = some o -> h'.get? b = some o := fun b o ne q => (hs.2 b ne).trans q
 have neL : ∀ b o, X.s₀.heap.get? b = some o -> b ≠ X.env.locals := fun b o e => Nat.ne_of_lt (Nat.lt_of_lt_of_le (Heap.lt_size e) I.ok.above)
 refine ⟨I.ok, I.os, I.bare, ⟨fun b o e n' hb hx => other b o (neL b o e) (I.base.keep b o e n' hb hx), fun b o e n' hb hx => ?_, I.base.free, fun b o e hx => ?_, I.base.tups, I.base.frzs, I.base.tbls⟩, ⟨_, hn, fun i x v e1 e2 e3 => ?_⟩, fun x c e => ?_, I.free, I.freeC, fun p hp => ?_, fun b ob e => ?_, by rw [List.length_set]; exact I.len⟩
 ·obtain ⟨sl, e1⟩ := I.base.slot b o e n' hb hx
  exact ⟨sl, other b _ (neL b o e) e1⟩
 ·obtain ⟨o', e1⟩ := I.base.there b o e hx
  exact ⟨o', other b _ (neL b o e) e1⟩
 ·have hij : i ≠ j := fun z => by
   subst z
   by_cases hi : i < σ.length
   ·rw [List.getElem?_set_self hi] at e2; cases e2
   ·rw [List.getElem?_eq_none (by rw [List.length_set]; omega)] at e2; cases e2
  rw [List.getElem?_set_ne (Ne.symm hij)] at e2
  obtain ⟨u', ru, lk⟩ := hl i x v e1 e2 e3
  have hxn : x ≠ n := fun z => by
   subst z
   exact hij (eR0 hN e1 hj)
  refine ⟨u', ru, ?_⟩
  rcases lk with ⟨k1, k2⟩ | ⟨k1, c, k2, k3⟩
  ·exact .inl ⟨k1, by show (if x = n then u else m0 x) = _; rw [if_neg hxn]; exact k2⟩
  ·refine .inr ⟨k1, c, k2, ?_⟩
   obtain ⟨oc, h1, h2⟩ := k3
   exact ⟨oc, other c oc (I.cne x c k2) h1, h2⟩
 ·obtain ⟨v, oc, h1, h2⟩ := I.cell x c e
  exact ⟨v, oc, other c oc (I.cne x c e) h1, h2⟩
 ·obtain ⟨h1, h2, h3, h4⟩ := I.pin p hp
  exact ⟨other _ _ h3 h1, h2, h3, h4⟩
 ·refine (I.hok b ob e).stay (fun c v hc q => other c v (fun z => ?_) q) (fun _ q => q) fun _ _ q => q
  have fL := I.free
  rcases hc with rfl | hc
  ·rw [z, fL] at e; cases e
  ·rw [z, fL] at hc; cases hc
end
end L2.BD
set_option Elab.async false
set_option linter.all false
set_option maxRecDepth 100000
set_option maxHeartbeats 4000000
namespace L2.BD
open PySem PySem.Spec PyProof.Rows
inductive Out where
 | val (o : Bool) (t : T) | exc (C : Addr)
def spX (gs : List T -> Option Out) : Sp := fun vs H Q E => ∃ F ts r, Trk F H /\ Rps F H vs ts /\ gs ts = some r /\
 match r with
 | .val o t => ∀ F' v H', Mono F H F' H' -> ResC o H F' H' v t -> Q v H'
 | .exc C => ∀ F' H', Mono F H F' H' -> E (.ref C) none H'
def retX : Fl -> Option Out
 | .rt o t => some (.val o t)
 | .nx _ => some (.val false .non)
 | .xc C => some (.exc C)
 | _ => none
theorem Rel.wish {a : Hp} {b c : Addr -> Prop} {d d' : Addr -> Hp -> Prop} {F : Addr -> Prop} {ε : En} {σ : St} {H : Hp} (r : Rel ⟨a, b, c, d⟩ F ε σ H) : Rel ⟨a, b, c, d'⟩ F ε σ H := ⟨r.len, r.sh, r.ow, r.inj, r.same, r.sub, r.new, r.trk, r.me, r.fx⟩
section
variable {P : Program} {w : World} {K : PySem.W.Frag} {mg : Str -> Option Value} {base : Heap}
theorem fn_x {x qual : Str} {st : Stmt} {f : Addr} {fd : FuncData} {N ps : List Str} {k : Nat} {gs : List T -> Option Out} (Fn : Fun K x qual st f fd) (S : FnScope N ps (ak0 st))
  (hlen : ∀ ts r, gs ts = some r -> ts.length = ps.length)
  (hbody : ∀ (cdv : Value) (A : Around) (outer : List Env) (s : Shared) (H : Hp) (E : XK) (F : Addr -> Prop), Room k (A.deeper (envOfC qual (ak0 st) s.heap.objs.size f cdv)) ->
   ∃ g, SSs (cxOf (CXB P w) P w K mg base N qual (ak0 st) f cdv A outer s H E) ⟨H, F, fun _ => True, fun C H' => E (.ref C) none H'⟩ (bE0 st) g /\ ∀ ts r, gs ts = some r -> (g (bQ0 N ts)).bind retX = some r) : FnOk P w K mg base (CXB P w) (k + 1) f fd ps (spX gs) := by
 obtain ⟨oc, od, kV, doc, pm, an, cdv, ct, osl, rfl, lk, hcd⟩ := Fn.ex
 refine lU0 lk hcd S (fun vs H Q E h => ?_) fun A outer s H vs Q E hr h => ?_
 ·obtain ⟨F, ts, r, _, rp, e, _⟩ := h
  rw [rp.length]
  exact hlen ts _ e
 ·obtain ⟨F, ts, r, tk, rp, e, q⟩ := h
  obtain ⟨g, hg, hv⟩ := hbody cdv A outer s H E F hr
  refine ⟨_, hg, ?_⟩
  have hv := hv ts r e
  cases qg : g (bQ0 N ts) with
  | none => rw [qg] at hv; cases hv
  | some fl =>
   rw [qg] at hv
   have hv : retX fl = some r := hv
   refine ⟨F, bQ0 N ts, fl, (dU0 tk rp).wish, qg, ?_⟩
   have mono : ∀ {F' : Addr -> Prop} {H' : Hp}, End ⟨H, F, fun _ => True, fun C H' => E (.ref C) none H'⟩ F' H' -> Mono F H F' H' := fun e => ⟨e.same, e.sub, e.new, e.trk⟩
   cases fl with
   | nx ε => cases hv; exact fun F' σ' H' _ rl => q F' .non H' (mono rl.fin) (show Rp F' H' .non .non from .non)
   | rt o' t' =>
    cases hv
    intro F' v H' en rs
    refine q F' v H' (mono en) ?_
    cases o' with
    | false => exact rs
    | true =>
     obtain ⟨a, h1, h2, h3, h4⟩ := (show ∃ a, v = .ref a /\ ¬ F' a /\ H a = none /\ Rp1 F' H' a t' from rs)
     exact ⟨a, h1, h3, h2, h4⟩
   | bk ε => cases hv
   | ct ε => cases hv
   | xc C => cases hv; exact fun F' H' en => q F' H' (mono en)
end
theorem iU0 {K : PySem.W.Frag} {h : Heap} {C : Addr} {bmB : List Value} {newId : String} (X : K.In h) (q : PySem.W.excIn K C bmB newId = true) :
  ∃ tl N nm qn bs hd sn sub ab col dd k0 k1 k2 k3 k5 mN, h.get? C = some (excClassObj nm qn C N bs tl hd sn sub ab col dd k0 k1 k2 k3 k5 newId) /\ h.Ns N mN /\ mN "__init__" = none /\ OwnTail h bmB tl := by
 unfold PySem.W.excIn at q
 split at q
 ·rename_i od cda osl lk
  split at q
  ·rename_i C1 tl s0 s1 s2 s3 nid s5 e1 e2
   simp only [Bool.and_eq_true, beq_iff_eq, Bool.not_eq_true'] at q
   obtain ⟨⟨⟨⟨⟨z1, z2⟩, z3⟩, z4⟩, z5⟩, z6⟩ := q
   subst z1 z2
   obtain ⟨c1, c2, c3, c4, c5, c6, c7, c8, c9, c10, c11⟩ := cda
   dsimp only at e1 z3 z5 z6
   subst e1 z3
   obtain ⟨ll⟩ := osl
   obtain rfl : ll = [s0, s1, s2, s3, some (.builtin nid), s5] := e2
   exact ⟨tl, c4, c1, c5, c2, c6, c7, c8, c9, c10, od, s0, s1, s2, s3, s5, _, X _ _ lk, .of_isNs (PySem.W.isNs_of_in X z5), PySem.W.nsMap_none_of_in X z5 z6, PySem.W.tail_of_in X z4⟩
  ·cases q
 ·cases q
def ct0 (C : Addr) (f : En -> Option (List T)) : En -> Option Fl := fun ε => (f ε).bind fun ts => if ts.length <= big then some (.xc C) else none
section
variable {X : Cx} {Y : Fx} {st : Stmt} {e o : Expr} {es : List Expr} {pos cpos np : Pos} {f : En -> Option T} {fa : En -> Option (List T)} {x : Str} {C : Addr} {bmB : List Value} {newId initId B : String} {EE : XK}
theorem bZ0 (O : Own X) (hA : X.A.handled = none) (hg : Gl X x) (hm : X.mg x = some (.ref C)) (hq : PySem.W.excIn X.K C bmB newId = true) (FB : ExcBaseFacts B newId initId bmB)
  (hxe : ∀ v s', wpAny (model X.prog X.w) X.A (leaving X.env v) (fun _ s2 => CXB X.prog X.w X.outer X.H₀ X.s₀ EE v s2) (fun v' s2 => CXB X.prog X.w X.outer X.H₀ X.s₀ EE v' s2) s' -> X.xe v s') (hw : ∀ H', Y.xk C H' -> EE (.ref C) none H')
  (ha : SA X Y [e] fa) (hdb : (x == ("__debug__" : Str)) = false := by decide) (he : starEach [e] X.env = [(false, eval e X.env)] := by rfl) :
  SS X Y (.Raise (some (.Call (.Name x np) [e] [] cpos)) none pos) (ct0 C fa) := by
 intro pins s σ H D I ⟨F, ε, fl, r, hf, k⟩
 unfold ct0 at hf
 cases qa : fa ε with
 | none => rw [qa] at hf; cases hf
 | some ts =>
  rw [qa] at hf
  simp only [Option.bind_some] at hf
  split at hf
  ·rename_i hb
   cases hf
   obtain ⟨tl, N, nm, qn, bs, hd, sn, sub, ab, col, dd, k0, k1, k2, k3, k5, mN, hC, hN, hni, T⟩ := iU0 I.mod.kin hq
   refine wpAny_Raise_call_subT (C := C) (nm := nm) (q := qn) (N := N) (bs := bs) (bm := tl) (hdct := hd) (sn := sn) (sub := sub) (ab := ab) (col := col) (dd := dd) (k0 := k0) (k1 := k1) (k2 := k2) (k3 := k3) (k5 := k5) FB (mN := mN) (T.hasType FB.hasBase) hA (by rw [he]; rfl) hni (dV0 I hg hm ⟨rfl, ?_⟩ hdb)
   have run := ha cpos pins s σ H (fun vs H2 => vs.length <= sizeLine /\ ∃ F2, Mono F H F2 H2) I ⟨F, ε, ts, r, qa, fun F2 vs H2 m2 rs => ⟨by rw [rs.length]; exact es0 hb, F2, m2⟩⟩
   rw [he] at run ⊢
   refine Calls.evalArgs_plain (thn run fun us s2 ⟨vs, H2, I2, rv, hl, F2, m2⟩ => ?_)
   refine ⟨rfl, by rw [<- rv.length]; exact hl, I2.bk _ _ hC, hN.keeps I2.bk, T.keeps I2.bk, fun h' v hmade => hxe _ _ ?_⟩
   exact dx0 I2 O I2.ok.frames hmade (hw H2 (k F2 H2 (r.mono m2).fin))
  ·cases hf
end
def PEx (X : Cx) (e : Expr) (t : XK -> TE) : Prop := ∀ (E1 : Value -> Shared -> Prop) (pins : List (Addr × Obj)) (σ : St) (EE : XK), (∀ H s v s', Inv X pins σ H s -> CXB X.prog X.w X.stack H s EE v s' -> E1 v s') ->
 ∀ (s : Shared) (H : Hp) (Q : VK), Inv X pins σ H s -> t EE σ H Q -> wpAny (model X.prog X.w) X.A (eval e X.env) (EP X pins σ Q) E1 s
section
variable {X : Cx} {CX : CXT} {k : Nat} {f C : Addr} {fd : FuncData} {ps : List Str} {sp : Sp} {E : XK} {x m : Str} {p pos apos : Pos} {e o : Expr} {es : List Expr} {ta : TE} {t : TA}
end
def tTry (i j : Nat) (Dx : Addr) (K : PySem.W.Frag) (t : XK -> TE) : TS := fun D σ H => ∃ EE, t EE σ H (fun v H1 => D.nx (σ.set i (some v)) H1) /\ ∀ cls H', EE cls none H' ->
 ∃ C, cls = .ref C /\ PySem.W.exmOne K (.ref C) (.ref Dx) = some true /\ ∀ a o, H' a = none -> o.cls = .ref C -> D.nx (((σ.set j (some (.ref a))).set i (some (.ref a))).set j none) (upd H' a (.frz o (.ext fun _ => True)))
theorem Cx.Ok.marked {X : Cx} (ok : X.Ok) (v : Value) (E2 : Value -> Shared -> Prop) : ({ X with A := X.A.mark (some v), calm := false, xe := E2 } : Cx).Ok :=
 ⟨ok.mod, ok.kind, ok.glob, ok.blt, ok.above, ok.inj, ok.has, ok.cab, (fun z => nomatch z), ok.frames, ok.stk, ok.exf, ok.bs, ok.bsz, ok.noex, ok.exfs, ok.funs, ok.frf⟩
section
variable {X : Cx}
theorem nT0 {i j : Nat} {y n x : Str} {Dx : Addr} {ec : Expr} {t : XK -> TE} {p1 p2 p3 p4 p5 p6 p7 p8 : Pos} (O : Own X) (hN : X.N.Nodup) (hi : X.N[i]? = some y) (hj : X.N[j]? = some n) (hy : X.env.scope.names.lookup y = some .local) (hn : X.env.scope.names.lookup n = some .local)
  (hg : Gl X x) (hm : X.mg x = some (.ref Dx)) (hc : PEx X ec t) (hs1 : swapsWith ec (some (.Name y p1)) p2.line X.env = pure false := by rfl) (hs2 : swapsWith (.Name n p3) (some (.Name y p4)) p5.line X.env = pure false := by rfl)
  (hdb : (x == ("__debug__" : Str)) = false := by decide) (hdn : (n == ("__debug__" : Str)) = false := by decide) (hcd : (n == ("__classdict__" : Str)) = false := by decide) :
  PS X (.Try [.Assign [.Name y p1] ec p2] [.ExceptHandler (some (.Name x p6)) (some n) [.Assign [.Name y p4] (.Name n p3) p5] p7] [] [] p8) (tTry i j Dx X.K t) := by
 intro pins s σ H D I ⟨EE, ht, hcatch⟩
 refine wpAny_Try_except (wpAny_execs_cons (wpAny_Assign_Name (thn (hc _ pins σ EE (fun H1 s1 v s' I1 hv => ?_) s H _ I ht) fun u s1 ⟨v, H1, I1, r1, q1⟩ => cG0 I1 hN hi (.inl hy) r1 (fun s2 I2 => wpAny_execs_nil (wpAny_execs_nil ⟨_, H1, I2, q1⟩)) (.inr hy)) hs1))
 obtain ⟨a, cls, a0, H', B, rfl, fx, hq⟩ := hv
 obtain ⟨C, rfl, hex, hD⟩ := hcatch cls H' hq
 have hA := I1.ok.frames
 have fl0 := fx.fly
 rw [O.stk] at hA fl0
 refine wpAny_looks_onW hA O.frm fl0 fun h4 held u4 => ?_
 refine wpAny_landsW held fun h5 fl5 u5 => ?_
 obtain ⟨un5, hok5⟩ := fx.move fl5 (u4.trans u5)
 have I5 : Inv X pins σ H' { s' with heap := h5 } := I1.call' (s' := { s' with heap := h5 }) fx.os un5 hok5 fx.bare fun b z => absurd z ch0
 refine wpAny_handleBy_cons (codeAny_handlers_test ?_) (by intro q; cases q)
 refine Calls.Name_function_global I5.ok.kind hg (Calls.loadGlobal_global (by rw [I5.ok.glob]; exact I5.mod.glob.keeps I5.bk) hm ?_) hdb
 have LT : PySem.W.Looks (model X.prog X.w) h5 (typeOf (.ref a)) (.ref C) := by
  obtain ⟨ob, e1, e2⟩ := fl5.there
  rw [<- e2]
  exact (PySem.W.Looks.ld e1).andThen .now
 refine (PySem.W.exm_one I5.kIn LT hex).here ?_
 refine codeAny_handlers_suite_as ?_
 refine lands_againW fl5 fun h6 fl6 u6 => ?_
 obtain ⟨un6, hok6⟩ := fx.move fl6 ((u4.trans u5).trans u6)
 have I6 : Inv X pins σ H' { s' with heap := h6 } := I1.call' (s' := { s' with heap := h6 }) fx.os un6 hok6 fx.bare fun b z => absurd z ch0
 obtain ⟨oe, ws, ho, hoc, hod, _⟩ := fl6.first
 have hnone : H' a = none := by
  cases q : H' a with
  | none => rfl
  | some u =>
   obtain ⟨o1, e1⟩ := (fx.hok a u q).there
   have := fx.f2 a u o1 q e1
   rw [fx.fly.2.1] at this
   cases this
 have h0 : X.s₀.heap.get? a = none := by
  cases q : X.s₀.heap.get? a with
  | none => rfl
  | some o1 =>
   obtain ⟨o2, e2⟩ := stood I1 O q
   rw [fx.new] at e2
   cases e2
 have I7 := I6.take ho hnone h0 ⟨ws, hod⟩ fun p hp z => by
  have := (I1.pin p hp).1
  rw [z, fx.new] at this
  cases this
 refine cG0 I7 hN hj (.inl hn) (v := .ref a) (u := .ref a) rfl (fun s8 I8 => ?_) (.inr hn)
 refine wpAny_execs_cons (wpAny_Assign_Name ?_ hs2)
 have hjl : j < σ.length := by rw [I.len]; exact (List.getElem?_eq_some_iff.mp hj).1
 have I8' : ∀ E2, Inv ({ X with A := X.A.mark (some (.ref a)), calm := false, xe := E2 } : Cx) pins (σ.set j (some (.ref a))) (upd H' a (.frz oe (.ext fun _ => True))) s8 := fun E2 => ⟨Cx.Ok.marked I8.ok _ E2, I8.os, I8.bare, I8.base, I8.loc, I8.cell, I8.free, I8.freeC, I8.pin, I8.hok, I8.len⟩
 refine thn (lg0 (X := ({ X with A := X.A.mark (some (.ref a)), calm := false, xe := _ } : Cx)) hj (.inl hn) hdn hcd pins s8 _ _ (fun v H2 => v = .ref a /\ H2 = upd H' a (.frz oe (.ext fun _ => True))) (I8' _) ⟨.ref a, List.getElem?_set_self hjl, rfl, rfl⟩) fun u s9 ⟨v, H2, I9, r9, ev, eH⟩ => ?_
 subst ev eH
 obtain rfl : u = Value.ref a := r9
 have I9' : Inv X pins (σ.set j (some (.ref a))) (upd H' a (.frz oe (.ext fun _ => True))) s9 := ⟨I8.ok, I9.os, I9.bare, I9.base, I9.loc, I9.cell, I9.free, I9.freeC, I9.pin, I9.hok, I9.len⟩
 refine cG0 I9' hN hi (.inl hy) (v := .ref a) (u := .ref a) rfl (fun s10 I10 => ?_) (.inr hy)
 refine wpAny_execs_nil ?_
 refine wpAny_bind (wpAny_bindName (cG0 I10 hN hj (.inl hn) (v := .non) (u := .none) rfl (fun s11 I11 => ?_) (.inr hn)))
 unfold unbindBehindTheSuite
 refine wpAny_onRaise ?_
 obtain ⟨mm, hmm, hl⟩ := id I11.loc
 have hjl2 : j < ((σ.set j (some (V.ref a))).set i (some (V.ref a))).length := by rw [List.length_set, List.length_set]; exact hjl
 obtain ⟨u, _, lk⟩ := hl j n .non hj (List.getElem?_set_self hjl2) (.inl hn)
 have hv : mm n = some u := by
  rcases lk with ⟨_, q⟩ | ⟨q, _⟩
  ·exact q
  ·have hn' : X.env.kindOf n = some .local := hn
   rcases q with q | q <;> (rw [hn'] at q; cases q)
 have hcls : (X.env.scope.kind == .class || (X.env.scope.kind == .module && X.env.locals != X.env.globals)) = false := by rw [I.ok.kind]; rfl
 refine wpAny_unbindName_local hn hmm hv hcls fun h12 u12 n12 b12 => ?_
 have I12 := I11.unbind (t' := s11.toks) hN hj hmm n12 b12
 rw [List.set_set] at I12
 exact ⟨_, _, I12, hD a oe hnone hoc⟩
end
end L2.BD
set_option Elab.async false
set_option linter.all false
set_option maxRecDepth 100000
set_option maxHeartbeats 4000000
namespace L2.BD
open PySem PySem.Spec PyProof.Rows
structure XCls (K : PySem.W.Frag) (D : Addr) : Prop where
 cl : PySem.W.isClsIn K D = true
 ga : PySem.W.findIn K (.ref D) "__getattribute__" = some (some (.builtin "BaseException.__getattribute__"))
 gt : PySem.W.findIn K (.ref D) "__getattr__" = some none
 bx : PySem.W.subIn K (.ref D) (.type "BaseException") = some true
 at_ : PySem.W.findIn K (.ref D) "__class__" = some (some (.builtin "object.__class__"))
 sp : PySem.W.specialIn K (.builtin "object.__class__") "__get__" = some (some (.builtin "getset_descriptor.__get__"))
 tk : PySem.W.takesIn K (.builtin "object.__class__") = some true
 mro : PySem.W.mroIn K D (.type "object") = some true
def XAt (a D : Addr) (h : Heap) : Prop := ∃ o, h.get? a = some o /\ o.cls = .ref D
theorem XAt.ty {a D : Addr} {h : Heap} {M : Model} (p : XAt a D h) : PySem.W.Looks M h (typeOf (.ref a)) (.ref D) := by
 obtain ⟨o, h1, h2⟩ := p
 rw [<- h2]
 exact (PySem.W.Looks.ld h1).andThen .now
section
open PySem.W PySem.Calls Builtin Builtin.ObjectAttr Builtin.Getset_descriptor
variable {prog : Program} {w : World} {A : Around} {E : Value -> Shared -> Prop} {s : Shared} {K : Frag} {x D : Addr} {R : Result -> Shared -> Prop}
theorem nl0 {M : Model} {h : Heap} (X : K.In h) (c : XCls K D) : Looks M h (find (.ref x) (.ref D) "__class__") (.bind (.builtin "getset_descriptor.__get__") (.builtin "object.__class__")) := by
 have L1 := looks_findIn (M := M) X c.at_
 have L2 := looks_specialIn (M := M) X c.sp
 have L3 := looks_takesIn (M := M) X c.tk
 refine L1.andThen ((show Looks M h (getOf (some (.builtin "object.__class__"))) (some (.builtin "getset_descriptor.__get__")) from L2).andThen ?_)
 exact (show Looks M h (dataDescriptor? (some (.builtin "object.__class__")) (some (.builtin "getset_descriptor.__get__"))) (some (.builtin "getset_descriptor.__get__", .builtin "object.__class__")) from L3.andThen .now).andThen (Looks.tag .now)
theorem x_get {tp : Value} (X : K.In s.heap) (p : XAt x D s.heap) (hm : mroIn K D (.type "object") = some true) (h : R (.ok (.ret (.ref D))) s) :
  codeAny (model prog w) A (.call (.builtin "getset_descriptor.__get__") ⟨[.builtin "object.__class__", .ref x, tp], []⟩) R s := by
 obtain ⟨hp0, gn, drw, tks, oss⟩ := s
 have T0 := p.ty (M := model prog w)
 have T1 := looks_mroIn (M := model prog w) X hm
 refine codeAny_call_builtin KF.slot_gs.plain KF.entry_gs (KF.slot_gs.check _ _ _ _ _ _ _ _ KF.type_class (KF.args_gs _ _ _) ?_)
 unfold Builtin.«getset_descriptor.__get__» descrGet; rw [dga_obj]; refine wpAny_bind (wpAny_pure ?_)
 unfold descrGetter descrCheckInstance descrNameAndClass isInstance; simp only [KF.owner_class]
 repeat lk
 refine ⟨Code.quiet_builtin _ (by decide +kernel), codeAny_builtin KF.entry_class ?_⟩; unfold Builtin.«object.__class__» shownTypeOf
 repeat lk
 exact h
theorem mv0 {M : Model} {h : Heap} {g : Array GenState} {d : Drawn} {t : Nat} {os : OsState} {nameV : Value} {Q : Unit -> Shared -> Prop} (T0 : Looks M h (typeOf (.ref x)) (.ref D)) (TB : Looks M h (isSubtype (.ref D) (.type "BaseException")) true)
  (hq : Q () ⟨h, g, d, t, os⟩) : wpAny M A (checkBuiltinCall "BaseException.__getattribute__" ⟨[.ref x, nameV], []⟩) Q E ⟨h, g, d, t, os⟩ := by
 have k1 : builtinKind "BaseException.__getattribute__" = some .slot := by decide +kernel
 have k2 : splitId "BaseException.__getattribute__" = some ("BaseException", "__getattribute__") := by decide +kernel
 have ha := PySem.F.args_bexc_ga (.ref x) nameV
 simp only [checkBuiltinCall, k1, k2]; refine wpAny_bind ?_
 unfold isInstance; refine wpAny_bind (T0.at (TB.at ?_))
 repeat (first | assumption | wp_step)
theorem mB0 {Q : Option Value -> Shared -> Prop} (X : K.In s.heap) (p : XAt x D s.heap) (c : XCls K D) (h : Q (some (.ref D)) { s with toks := s.toks + 1 }) : wpAny (model prog w) A (getAttr? (.ref x) "__class__") Q E s := by
 obtain ⟨hp0, gn, drw, tks, oss⟩ := s
 have T0 := p.ty (M := model prog w)
 have T1 := looks_findIn (M := model prog w) X c.ga
 have T2 := nl0 (M := model prog w) (x := x) X c
 have T3 := looks_findIn (M := model prog w) X c.gt
 have TB := looks_subIn (M := model prog w) X c.bx
 have z2 : (Value.builtin "BaseException.__getattribute__" == Value.builtin "object.__getattribute__") = false := by decide +kernel
 have z1 : (onTheHeap (Value.ref D) && Value.builtin "BaseException.__getattribute__" == Value.builtin "object.__getattribute__") = false := by rw [z2]; rfl
 unfold getAttr? getAttrBy? getAttrBy; refine wpAny_bind (wpAny_mkText (wpAny_bind (wpAny_attempt (wpAny_holding (wpAny_bind (T0.at (wpAny_bind (T1.at ?_))))))))
 show wpAny _ _ (if _ then _ else getAttrByItsOwn _ _ _ _ _ _) _ _ _; rw [if_neg (by rw [z1]; decide)]
 unfold getAttrByItsOwn hookBefore; rw [if_pos (show onTheHeap (Value.ref D) = true from rfl)]
 refine wpAny_bind (T3.at (wpAny_bind (wpAny_attempt (wpAny_holding ?_))))
 unfold callGetattribute boundAndCalled; rw [if_neg (by decide)]
 refine wpAny_bind (wpAny_of_eq (PySem.F.attr_ValueError.ga.bind _) ?_)
 refine wpAny_call (codeAny_call_builtin PySem.F.attr_ValueError.ga.plain PySem.F.entry_bexc_ga (mv0 T0 TB ?_))
 unfold Builtin.«object.__getattribute__»; repeat lk
 refine wpAny_run (x_get (D := D) X p c.mro ?_); repeat lk
 exact h
theorem jZ0 (c : XCls K D) : KitX K (.ref x) (.ref D) (XAt x D) where
 ty := fun _ _ _ p => p.ty
 it := fun _ _ X _ => by
  obtain ⟨cd0, hc0⟩ := Option.isSome_iff_exists.mp (show (clsIn K D).isSome = true from c.cl)
  unfold clsIn at hc0
  split at hc0
  ·rename_i lk0
   intro A1 Q1 E1 s1 k q
   unfold isType loadHead; exact wpAny_bind (wpAny_loadPart (k _ _ (X _ _ lk0)) (wpAny_pure q))
  ·cases hc0
 ne := fun h tp dd its n sl X htp => by
  obtain ⟨cd0, hc0⟩ := Option.isSome_iff_exists.mp (show (clsIn K D).isSome = true from c.cl)
  refine Bool.eq_false_iff.mpr fun q => ?_
  obtain rfl : D = tp := Value.ref.inj (beq_iff_eq.mp q)
  unfold clsIn at hc0
  split at hc0
  ·rename_i lk0
   have z := (X _ _ lk0).symm.trans htp
   cases z
  ·cases hc0
 ca := fun X p k => mB0 X p c k
end
def eIsX (C : Addr) (b : Bool) (f : En -> Option T) : En -> Option T := fun ε => match f ε with
 | some (.exc C') => if C' = C then some (.bl b) else none
 | _ => none
section
variable {X : Cx} {Y : Fx} {e a : Expr} {es : List Expr} {pos p p2 : Pos} {f : En -> Option T} {C D : Addr} {x : Str} {b : Bool} {n : String}
theorem gS0 {c : V} {u : Value} (xc : XCls X.K C) (ru : ∀ u', RelV c u' -> u' = u) (hk : PySem.W.kitOne X.K (.ref C) u = some b) : cM0 X (.builtin "isinstance") (fun xs H Q => ∃ y o, xs = [.ref y, c] /\ H y = some (.frz o (.ext fun _ => True)) /\ o.cls = .ref C /\ Q (.bl b) H) := by
 intro pins s σ H xs us Q I r h
 obtain ⟨y, o, rfl, hy, hc, q⟩ := h
 obtain ⟨u1, u2, rfl, r1, r2⟩ := jw0 r
 cases r1
 cases ru _ r2
 exact PySem.W.kia_one (jZ0 xc) I.kIn ⟨o, (I.hok y _ hy).1, hc⟩ hk (fun z => nomatch z) fun tk => ⟨.bl b, H, I.tok _, rfl, q⟩
theorem kT0 {c : V} (σ : St) (H : Hp) (Q : VK) (h : Tr Y (eIsX C b f) σ H Q) : ∃ F ε t, Rel Y F ε σ H /\ f ε = some t /\ ∀ F' v H', Mono F H F' H' -> Rb F' H' v t -> ∃ y o, [v, c] = [V.ref y, c] /\ H' y = some (.frz o (.ext fun _ => True)) /\ o.cls = .ref C /\ Q (.bl b) H' := by
 obtain ⟨F, ε, u, rl, hf, k⟩ := h
 unfold eIsX at hf
 split at hf
 ·rename_i C' q
  split at hf
  ·rename_i hc
   subst hc
   cases hf
   refine ⟨F, ε, _, rl, q, fun F' v H' m r => ?_⟩
   cases r with
   | v r =>
    cases r with
    | exc fy hy ho => exact ⟨_, _, rfl, hy, ho, k F' _ H' m (.bl b)⟩
   | o r => cases r
  ·cases hf
 ·cases hf
theorem iF0 (xc : XCls X.K C) (hg : Gl X "isinstance") (hm : X.mg "isinstance" = none) (hgx : Gl X x) (hmx : X.mg x = some (.ref D)) (hk : PySem.W.kitOne X.K (.ref C) (.ref D) = some b) (ha : BE X Y a f)
  (hv : bootBuiltins "isinstance" = some (.builtin "isinstance") := by rfl) (hdb : (x == ("__debug__" : Str)) = false := by decide)
  (he : starEach [a, .Name x p2] X.env = [(false, eval a X.env), (false, eval (.Name x p2) X.env)] := by rfl) (hpl : (backTo pos (starEach [.Name x p2] X.env)).any (·.1) = false := by rfl) :
  SE X Y (.Call (.Name "isinstance" p) [a, .Name x p2] [] pos) (eIsX C b f) :=
 PE.imp (di0 (gS0 (c := .ref D) (u := .ref D) xc (fun _ z => z) hk) hg hm hv (bu0 ha (bu0 (gn0 (v := .ref D) hgx hmx rfl hdb) cN0 rfl) he) (by decide) (by decide) he hpl) fun σ H Q h => by
  obtain ⟨F, ε, t, rl, q, z⟩ := kT0 (c := .ref D) σ H Q h
  exact ⟨F, ε, t, rl, q, z⟩
theorem lL0 (xc : XCls X.K C) (hg : Gl X "isinstance") (hm : X.mg "isinstance" = none) (hgx : Gl X x) (hmx : X.mg x = none) (hvx : bootBuiltins x = some (.type n)) (hk : PySem.W.kitOne X.K (.ref C) (.type n) = some b) (ha : BE X Y a f)
  (hv : bootBuiltins "isinstance" = some (.builtin "isinstance") := by rfl) (hnn : x ≠ "__name__" := by decide) (hdb : (x == ("__debug__" : Str)) = false := by decide)
  (he : starEach [a, .Name x p2] X.env = [(false, eval a X.env), (false, eval (.Name x p2) X.env)] := by rfl) (hpl : (backTo pos (starEach [.Name x p2] X.env)).any (·.1) = false := by rfl) :
  SE X Y (.Call (.Name "isinstance" p) [a, .Name x p2] [] pos) (eIsX C b f) :=
 PE.imp (di0 (gS0 (c := .ty n) (u := .type n) xc (fun _ z => z) hk) hg hm hv (bu0 ha (bu0 (jm0 (v := .ty n) hgx hmx hvx rfl hnn hdb) cN0 rfl) he) (by decide) (by decide) he hpl) fun σ H Q h => by
  obtain ⟨F, ε, t, rl, q, z⟩ := kT0 (c := .ty n) σ H Q h
  exact ⟨F, ε, t, rl, q, z⟩
end
section
variable {P : Program} {w : World} {K : PySem.W.Frag} {mg : Str -> Option Value} {base : Heap}
def bI0 (P : Program) (w : World) (K : PySem.W.Frag) (mg : Str -> Option Value) (base : Heap) (k : Nat) (x : Str) (ps : List Str) (gs : List T -> Option Out) : Prop := ∃ f fd, FnOk P w K mg base (CXB P w) k f fd ps (spX gs) /\ mg x = some (.ref f) /\ PySem.W.keepIn K (.ref f) = true /\ Binds K fd ps []
end
def fS0 (i j : Nat) (D : Addr) (g : En -> Option Out) : En -> Option Fl := fun ε => match g ε with
 | some (.val o t) => (noD (o, t)).map fun u => .nx (ε.set i (.sh u))
 | some (.exc C) => if C = D then some (.nx (((ε.set j (.sh (.exc C))).set i (.sh (.exc C))).set j .un)) else none
 | none => none
theorem Rel.set_un {Y : Fx} {F : Addr -> Prop} {ε : En} {σ : St} {H : Hp} (r : Rel Y F ε σ H) (i : Nat) : Rel Y F (ε.set i .un) (σ.set i none) H where
 len := by rw [List.length_set, List.length_set]; exact r.len
 sh := fun j u e => by
  rcases aw0 e with ⟨rfl, hl, e⟩ | ⟨ne, e⟩
  ·cases e
  ·obtain ⟨v', h1, h2⟩ := r.sh j u e
   exact ⟨v', by rw [List.getElem?_set_ne (Ne.symm ne)]; exact h1, h2⟩
 ow := fun j u e => by
  rcases aw0 e with ⟨rfl, hl, e⟩ | ⟨ne, e⟩
  ·cases e
  ·obtain ⟨a, h1, h2⟩ := r.ow j u e
   exact ⟨a, by rw [List.getElem?_set_ne (Ne.symm ne)]; exact h1, h2⟩
 inj := fun j k u w a ne e1 e2 s1 s2 => by
  rcases aw0 e1 with ⟨rfl, hl, e⟩ | ⟨n1, e1⟩
  ·cases e
  rcases aw0 e2 with ⟨rfl, hl, e⟩ | ⟨n2, e2⟩
  ·cases e
  rw [List.getElem?_set_ne (Ne.symm n1)] at s1
  rw [List.getElem?_set_ne (Ne.symm n2)] at s2
  exact r.inj j k u w a ne e1 e2 s1 s2
 same := r.same
 sub := r.sub
 new := r.new
 trk := r.trk
 me := fun j u b e hi s1 => by
  rcases aw0 e with ⟨rfl, hl, e⟩ | ⟨ne, e⟩
  ·cases e
  ·rw [List.getElem?_set_ne (Ne.symm ne)] at s1
   exact r.me j u b e hi s1
 fx := fun j v' u e => by
  rcases aw0 e with ⟨rfl, hl, e⟩ | ⟨ne, e⟩
  ·cases e
  ·rw [List.getElem?_set_ne (Ne.symm ne)]
   exact r.fx j v' u e
section
variable {X : Cx} {Y : Fx} {k : Nat} {f C : Addr} {fd : FuncData} {ps : List Str} {x m : Str} {e o : Expr} {es : List Expr} {gs : List T -> Option Out} {fa : En -> Option (List T)} {fo : En -> Option T}
def OutQ (F : Addr -> Prop) (H : Hp) (Q : VK) (EE : XK) : Out -> Prop
 | .val b t => ∀ F' v H', Mono F H F' H' -> ResC b H F' H' v t -> Q v H'
 | .exc D => ∀ F' H', Mono F H F' H' -> EE (.ref D) none H'
theorem ResC.back {b : Bool} {F F1 F' : Addr -> Prop} {H H1 H' : Hp} {v : V} {t : T} (m : Mono F H F1 H1) (r : ResC b H1 F' H' v t) : ResC b H F' H' v t := by
 cases b with
 | false => exact r
 | true =>
  obtain ⟨a, h1, h2, h3, h4⟩ := (show ∃ a, v = .ref a /\ H1 a = none /\ ¬ F' a /\ Rp1 F' H' a t from r)
  exact ⟨a, h1, m.free h2, h3, h4⟩
end
section
variable {X : Cx} {Y : Fx} {a b : Expr} {pos : Pos} {f g : En -> Option T}
open Classical in
end
end L2.BD
set_option Elab.async false
set_option linter.all false
set_option maxRecDepth 100000
set_option maxHeartbeats 4000000
namespace L2.BD
open PySem PySem.Spec PyProof.Rows
abbrev lx0 : List Value := [.type "ValueError", .type "Exception", .type "BaseException", .type "object"]
abbrev veNew : String := "ValueError.__new__"
def fnX (N : List Str) (n : Nat) (g : En -> Option Fl) : List T -> Option Out := fun ts => if ts.length = n then (g (bQ0 N ts)).bind retX else none
theorem cI0 {N : List Str} {n : Nat} {g : En -> Option Fl} {ts : List T} {r : Out} (h : fnX N n g ts = some r) : (g (bQ0 N ts)).bind retX = some r := by
 unfold fnX at h
 split at h
 ·exact h
 ·cases h
theorem dk0 {N : List Str} {n : Nat} {g : En -> Option Fl} {ts : List T} {r : Out} (h : fnX N n g ts = some r) : ts.length = n := by
 unfold fnX at h
 split at h
 ·assumption
 ·cases h
section
variable {X : Cx} {Y : Fx} {e : Expr} {pos : Pos}
end
section
variable {P : Program} {w : World} {K : PySem.W.Frag} {mg : Str -> Option Value} {base : Heap}
end
end L2.BD
set_option Elab.async false
set_option linter.all false
set_option maxRecDepth 100000
set_option maxHeartbeats 4000000
namespace L2.BD
open PySem PySem.Spec PyProof.Rows
structure FlyL (X : Cx) (H : Hp) (s : Shared) (a : Addr) (cls a0 : Value) (H' : Hp) (B : Heap) (s' : Shared) : Prop where
 os : s'.os = s.os
 bare : AllBare s'.gens
 un : Un (frs X.stack) [] H H' s.heap s'.heap
 hok : HOk X.prog X.w H' s'.heap
 fly : Heap.FlyingW B X.stack a cls a0 s'.heap \/ Heap.HeldW B X.stack a cls a0 X.env.locals s'.heap
 f1 : ∀ b o, s.heap.get? b = some o -> H b = none -> b ∉ frs X.stack -> B.get? b = some o
 f2 : ∀ b u o, H' b = some u -> s'.heap.get? b = some o -> B.get? b = some o
 f3 : ∀ b o, s.heap.get? b = some o -> b ∉ frs X.stack -> ∃ o', B.get? b = some o'
 new : s.heap.get? a = none
section
variable {X : Cx} {pins : List (Addr × Obj)} {σ : St} {H H' : Hp} {s s' : Shared} {a : Addr} {cls a0 : Value} {B h6 : Heap}
theorem FlyL.stays (x : FlyL X H s a cls a0 H' B s') : B.StaysIn s'.heap /\ B.get? a = none /\ s'.heap.FunFrames B X.stack := by
 rcases x.fly with f | f
 ·exact ⟨f.1, f.2.1, f.2.2.1⟩
 ·exact ⟨f.1, f.2.1, f.2.2.1⟩
theorem FlyL.move (x : FlyL X H s a cls a0 H' B s') (st : B.StaysIn h6) (u : s'.heap.UpToSlots h6) : Un (frs X.stack) [] H H' s.heap h6 /\ HOk X.prog X.w H' h6 /\ ∀ b u o, H' b = some u -> h6.get? b = some o -> B.get? b = some o := by
 obtain ⟨_, _, fr⟩ := x.stays
 refine ⟨⟨fun b o e n hb _ => st b o (x.f1 b o e n hb), fun b o e n hb _ => ?_, x.un.free, fun b o e _ => ?_, x.un.tups, x.un.frzs, x.un.tbls⟩, fun b ob e => ?_, fun b v o q q2 => ?_⟩
 ·obtain ⟨sl, e1⟩ := x.un.slot b o e n hb ch0
  obtain ⟨_, o2, e2, nf⟩ := fr.mem hb
  rw [e1] at e2
  cases e2
  obtain ⟨sl2, e3⟩ := u b _ e1 nf
  exact ⟨sl2, e3⟩
 ·by_cases hb : b ∈ frs X.stack
  ·obtain ⟨_, o2, e2, nf⟩ := fr.mem hb
   obtain ⟨sl2, e3⟩ := u b _ e2 nf
   exact ⟨_, e3⟩
  ·obtain ⟨o', e'⟩ := x.f3 b o e hb
   exact ⟨o', st b o' e'⟩
 ·refine (x.hok b ob e).stay (fun c v hc q => ?_) (fun _ q => q) fun _ _ q => q
  rcases hc with rfl | hc
  ·exact st _ _ (x.f2 _ _ _ e q)
  ·exact st _ _ (x.f2 _ _ _ hc q)
 ·obtain ⟨o1, e1⟩ := (x.hok b v q).there
  have e2 := x.f2 b v o1 q e1
  have e3 := st b o1 e2
  rw [q2] at e3
  cases e3
  exact e2
theorem FlyL.to (x : FlyL X H s a cls a0 H' B s') (u : s'.heap.UpToSlots h6) (fl : Heap.FlyingW B X.stack a cls a0 h6 \/ Heap.HeldW B X.stack a cls a0 X.env.locals h6) : FlyL X H s a cls a0 H' B { s' with heap := h6 } := by
 have st : B.StaysIn h6 := fl.elim (·.1) (·.1)
 obtain ⟨m1, m2, m3⟩ := x.move st u
 exact ⟨x.os, x.bare, m1, m2, fl, x.f1, m3, x.f3, x.new⟩
theorem FlyL.leaves {EE EE2 : XK} (I : Inv X pins σ H s) (O : Own X) (x : FlyL X H s a cls a0 H' B s') (fl : Heap.FlyingW B X.outer a cls a0 h6) (u : s'.heap.UpToSlots h6) (hq : EE cls none H') (hE : ∀ c H', EE c none H' -> EE2 c none H') :
  CXB X.prog X.w X.outer X.H₀ X.s₀ EE2 (.ref a) { s' with heap := h6 } := by
 obtain ⟨un2, hok2, f2'⟩ := x.move fl.1 u
 have I2 : Inv X pins σ H' { s' with heap := h6 } := I.call' (s' := { s' with heap := h6 }) x.os un2 hok2 x.bare fun b z => absurd z ch0
 have exN : ∀ b : Addr, b ∉ X.ex := fun b => by rw [O.ex]; exact ch0
 have b2 := I2.base
 rw [O.ex] at b2
 refine ⟨a, cls, a0, H', B, rfl, ⟨I2.os, I2.bare, b2, hok2, fl, fun b o q n hb => ?_, f2', fun b o q hb => ?_, ?_⟩, hE _ _ hq⟩
 ·exact x.f1 b o (I.base.keep b o q n hb (exN b)) (I.base.free b o q n (exN b)) (dj0 I O q hb)
 ·obtain ⟨o', e1⟩ := stood I O q
  exact x.f3 b o' e1 (dj0 I O q hb)
 ·cases q : X.s₀.heap.get? a with
  | none => rfl
  | some o =>
   obtain ⟨o', e1⟩ := stood I O q
   rw [x.new] at e1
   cases e1
end
def Here (X : Cx) (EE : XK) : Value -> Shared -> Prop := fun e s' => ∃ pins σ H s a cls a0 H' B, Inv X pins σ H s /\ e = .ref a /\ FlyL X H s a cls a0 H' B s' /\ EE cls none H'
theorem lp0 {X : Cx} {EE : XK} {pins : List (Addr × Obj)} {σ : St} {H : Hp} {s s' : Shared} {e : Value} (I : Inv X pins σ H s) (c : CXB X.prog X.w X.stack H s EE e s') : Here X EE e s' := by
 obtain ⟨a, cls, a0, H', B, rfl, x, q⟩ := c
 exact ⟨pins, σ, H, s, a, cls, a0, H', B, I, rfl, ⟨x.os, x.bare, x.un, x.hok, .inl x.fly, x.f1, x.f2, x.f3, x.new⟩, q⟩
theorem bU0 {X : Cx} {EE : XK} (O : Own X) : PassesOwn (model X.prog X.w) X.A X.env (Here X EE) := by
 intro e s' ⟨pins, σ, H, s, a, cls, a0, H', B, I, ee, x, q⟩
 subst ee
 have key : ∀ h4, Heap.HeldW B X.stack a cls a0 X.env.locals h4 -> s'.heap.UpToSlots h4 -> cameBackBy (model X.prog X.w) X.A X.env (Here X EE) (.ref a) { s' with heap := h4 } := fun h4 held u => by
  obtain ⟨g1, g2, g3, oe, vs, T, oT, ts, he, hc, hd, h1, hn, hne, hT, hdT, h3⟩ := id held
  have l3 : 3 < ts.size := (Array.getElem?_eq_some_iff.mp h3).1
  have oth : ∀ b, b ≠ T -> (h4.update T (Obj.mapFields (·.setIfInBounds 3 (X.env.frame.elim Value.none fun f => rawInt f)))).get? b = h4.get? b := fun b hb => Heap.get?_update_other _ _ (Ne.symm hb)
  have nrec : ∀ b o, h4.get? b = some o -> (∀ ws, o.data ≠ .fields ws) -> b ≠ T := fun b o hb nf z => by
   rw [z, hT] at hb
   cases hb
   exact nf ts hdT
  unfold cameBackBy
  refine wpAny_bind (wpAny_field he hd h1 ?_)
  rw [if_neg (by simp)]
  unfold setFlight
  refine wpAny_bind (wpAny_field he hd h1 ?_)
  rw [if_pos (by simp)]
  refine wpAny_setField hT hdT l3 ?_
  refine ⟨pins, σ, H, s, a, cls, a0, H', B, I, rfl, x.to (u.trans fun b o hb nf => ⟨o.slots, (oth b (nrec b o hb nf)).trans hb⟩) (.inr ?_), q⟩
  refine ⟨fun b o hb => (oth b fun z => by rw [z, hn] at hb; cases hb).trans (g1 b o hb), g2, g3.of_keeps fun b o hb nf => ⟨o, (oth b (nrec b o hb nf)).trans hb, rfl⟩, oe, vs, T, _, _, (oth a (Ne.symm hne)).trans he, hc, hd, h1, hn, hne, Heap.get?_update_self _ hT (Obj.isFreed_of_fields (Obj.data_mapFields hdT _)), Obj.data_mapFields hdT _, ?_⟩
  rw [O.frm]
  simp [l3]
 rcases x.fly with fl | held
 ·have hA := I.ok.frames
  rw [O.stk] at hA fl
  refine wpAny_looks_onW hA O.frm fl fun h4 hd u => key h4 (by rw [O.stk]; exact hd) u
 ·exact wpAny_noteFrame_againW O.frm held.2.2.2 (key s'.heap held (Heap.UpToSlots.refl _))
theorem gs0 {X : Cx} {EE EE2 : XK} {e : Value} {s' : Shared} {E2 : Value -> Shared -> Prop} (O : Own X) (h : Here X EE e s') (hE : ∀ c H', EE c none H' -> EE2 c none H') :
  wpAny (model X.prog X.w) X.A (leaving X.env e) (fun _ s2 => CXB X.prog X.w X.outer X.H₀ X.s₀ EE2 e s2) E2 s' := by
 obtain ⟨pins, σ, H, s, a, cls, a0, H', B, I, rfl, x, q⟩ := h
 rcases x.fly with fl | held
 ·have hA := I.ok.frames
  rw [O.stk] at hA fl
  exact wpAny_leaves_onW hA O.frm fl fun h2 f2 u => x.leaves I O f2 u q hE
 ·unfold leaving
  refine wpAny_bind (wpAny_noteFrame_againW O.frm held.2.2.2 ?_)
  refine wpAny_landsW held fun h2 f2 u => ?_
  obtain ⟨k1, k2, k3, k4⟩ := f2
  rw [O.stk] at k3
  exact x.leaves I O ⟨k1, k2, k3.2.2, k4⟩ u q hE
section
variable {P : Program} {w : World} {K : PySem.W.Frag} {mg : Str -> Option Value} {base : Heap}
end
section
variable {X : Cx} {Y : Fx} {k : Nat} {C : Addr} {ps : List Str} {x m : Str} {p pos pos' cpos apos : Pos} {e o : Expr} {es : List Expr} {gs : List T -> Option Out} {fa : En -> Option (List T)} {fo : En -> Option T} {EE : XK}
end
def eFnX (gs : List T -> Option Out) (g : En -> Option (List T)) : En -> Option Out := fun ε => (g ε).bind gs
section
variable {X : Cx} {Y : Fx} {k : Nat} {ps : List Str} {x m z : Str} {e o : Expr} {es : List Expr} {gs : List T -> Option Out} {fa : En -> Option (List T)}
theorem kR0 {EE : XK} {Q : VK} {F : Addr -> Prop} {ε : En} {σ : St} {H : Hp} {r : Out} (rl : Rel Y F ε σ H) (hf : eFnX gs fa ε = some r) (hv : OutQ F H Q EE r) : kl0 (spX gs) [] EE (TrA Y fa) σ H Q := by
 unfold eFnX at hf
 cases q : fa ε with
 | none => rw [q] at hf; cases hf
 | some ts =>
  rw [q] at hf
  have hf : gs ts = some r := hf
  refine ⟨F, ε, ts, rl, q, fun F2 vs H2 m2 r2 => ⟨F2, ts, r, m2.trk, by rw [List.append_nil]; exact r2, hf, ?_⟩⟩
  cases r with
  | val b t => exact fun F3 v H3 m3 r3 => hv F3 v H3 (m2.trans m3) (r3.back m2)
  | exc D => exact fun F3 H3 m3 => hv F3 H3 (m2.trans m3)
end
end L2.BD
set_option Elab.async false
set_option linter.all false
set_option maxRecDepth 100000
set_option maxHeartbeats 4000000
namespace L2.BD
open PySem PySem.Spec PyProof.Rows
section
variable {X : Cx} {Y : Fx} {a b e : Expr} {pos pos' px : Pos} {f g : En -> Option T} {x : Str} {i : Nat}
def du0 (i : Nat) (fk fv : En -> Option T) : En -> Option Fl := fun ε => match ε[i]? with
 | some (.ow (.lst ts)) => (fv ε).bind fun v => match fk ε with
  | some (.int k) => match ixN ts.length k with
   | some j => some (.nx (ε.set i (.ow (.lst (ts.set j v)))))
   | none => none
  | _ => none
 | _ => none
theorem cB0 (hx : PE X (.Name x px) (tVar i)) (hk : BE X Y b g) (hv : SE X Y e f)
  (ha : ∀ v, assign (.Subscript (.Name x px) b pos') X.env v = (do
   let ov <- holding [v] (eval (.Name x px) X.env)
   let iv <- holding [v, ov] (eval b X.env)
   standAt pos'
   holding [v, ov, iv] (setItem ov iv v)
   release [v, ov, iv] []) := by intro _; rfl)
  (hs : swapsWithSole [.Subscript (.Name x px) b pos'] e pos.line X.env = pure false := by rfl) (hw : swappedStores [.Subscript (.Name x px) b pos'] e X.env = pure none := by rfl)
  (h1 : (assignEach [.Subscript (.Name x px) b pos'] X.env).map (·.2) = [assign (.Subscript (.Name x px) b pos') X.env] := by rfl) : SS X Y (.Assign [.Subscript (.Name x px) b pos'] e pos) (du0 i g f) :=
 PS.imp (nn0 hv (mS0 hx hk kI0 ha) hs hw h1) fun D σ H ⟨F, ε, fl, r, hg, k⟩ => by
  unfold du0 at hg
  split at hg
  ·rename_i ts e1
   obtain ⟨c, s1, nf, h0, hr⟩ := r.ow i _ e1
   cases q : f ε with
   | none => rw [q] at hg; cases hg
   | some t =>
    rw [q] at hg
    simp only [Option.bind_some] at hg
    split at hg
    ·rename_i z qk
     split at hg
     ·rename_i j hj
      cases hg
      refine ⟨F, ε, t, r, q, fun F1 v H1 m1 r1 => ⟨_, s1, F1, ε, _, r.mono m1, qk, fun F2 y H2 m2 r2 => ?_⟩⟩
      obtain ⟨xs, ha1, rs⟩ := hr.lst_
      cases r2.int_
      have m12 := m1.trans m2
      have ha2 := m12.ext _ _ ha1
      have hne : ∀ ys, H2 c ≠ some (.tup ys) := fun ys w => by rw [ha2] at w; cases w
      have nf2 : ¬ F2 c := fun w => (m12.new c w).elim nf fun w => by rw [ha1] at w; cases w
      have kp : Keep F2 H2 F2 (upd H2 c (.lst (xs.set j v))) := ⟨fun _ h => h, fun b u f q => by rw [ao0 (fun (w : b = c) => nf2 (w ▸ f))]; exact q, fun b ys q => by rw [ao0 (fun (w : b = c) => hne ys (w ▸ q))]; exact q⟩
      refine ⟨c, xs, z, j, rfl, rfl, ha2, by rw [rs.length]; exact hj, ?_⟩
      obtain ⟨r3, k3⟩ := (r.mono m12).write (o := .lst (xs.set j v)) (t' := .lst (ts.set j t)) e1 s1 hne (.lst aq0 ((Rps.set (r1.keep m2.keep) j (rs.keep m12.keep)).keep kp))
      exact k F2 σ _ (m12.keep.trans k3) r3
     ·cases hg
    ·cases hg
  ·cases hg
end
end L2.BD
set_option Elab.async false
set_option linter.all false
set_option maxRecDepth 100000
set_option maxHeartbeats 4000000
namespace L2.BD
open PySem PySem.Spec PyProof.Rows
section
open PySem.AutoSeq1 (wpAny_loadPart')
open PySem.MeetsSeq PySem.MeetsSeq2 PySem.MeetsSeq3
def EqP (P : Program) (w : World) (A : Around) (s : Shared) (u v : Value) : Prop := ∀ (E : Value -> Shared -> Prop) (Q : Bool -> Shared -> Prop), Q true s -> wpAny (model P w) A (eqBool u v) Q E s
abbrev fE0 (P : Program) (w : World) (A : Around) (t : Sem Fin) (R : Result -> Shared -> Prop) (s : Shared) : Prop :=
 wpAny (model P w) A.in1 t (fun fin s' => match fin with | .done f => R (.ok f) s' | .again c' => c'.quiet = true /\ codeAny (model P w) A c' R s') (fun e s' => R (.error e) s') s
theorem jY0 {P : Program} {w : World} {a c : Addr} {xs ys : Array Value} {n m : Nat} {d1 d2 : Option Addr} {z1 z2 : Array (Option Value)} (hsz : xs.size = ys.size) (k : Nat) :
  ∀ i : Nat, xs.size - i = k -> ∀ (A : Around) (R : Result -> Shared -> Prop) (s : Shared), s.heap.get? a = some { cls := .type "list", dict := d1, data := .seq xs n, slots := z1 } -> s.heap.get? c = some { cls := .type "list", dict := d2, data := .seq ys m, slots := z2 } ->
   (∀ j (h1 : j < xs.size) (h2 : j < ys.size), EqP P w A.in1 s xs[j] ys[j]) -> R (.ok (.ret (.bool false))) s ->
   fE0 P w A (Builtin.«list.__eq__.loop» ⟨[.ref a, .ref c, rawInt i, rawInt 3], []⟩) R s := by
 induction k with
 | zero =>
  intro i hk A R s ha hc he h
  obtain ⟨hp, g, d, tk, os⟩ := s
  unfold fE0
  wp_walk using wpAny_loadPart' ha, wpAny_loadPart' hc
  have e1 : xs[((i : Nat) : Int).toNat]? = none := by simp; omega
  have e2 : ys[((i : Nat) : Int).toNat]? = none := by simp; omega
  rw [e1, e2]
  wp_walk using wpAny_loadPart' ha, wpAny_loadPart' hc
  show R (.ok (.ret (.bool (xs.size != ys.size)))) _
  rw [hsz]
  simpa using h
 | succ k ih =>
  intro i hk A R s ha hc he h
  obtain ⟨hp, g, d, tk, os⟩ := s
  unfold fE0
  wp_walk using wpAny_loadPart' ha, wpAny_loadPart' hc
  have l1 : i < xs.size := by omega
  have l2 : i < ys.size := by omega
  have e1 : xs[((i : Nat) : Int).toNat]? = some xs[i] := by simp [l1]
  have e2 : ys[((i : Nat) : Int).toNat]? = some ys[i] := by simp [l2]
  have e3 : ((i : Int) + 1) = ((i + 1 : Nat) : Int) := by push_cast; rfl
  rw [e1, e2]
  refine wpAny_bind (he i l1 l2 _ _ ?_)
  wp_walk
  rw [e3]
  exact ⟨plainId_quiet plain_eq_loop _, codeAny_builtin entry_eq_loop (by
   rw [Around.under_plainId plain_eq_loop _]
   exact ih (i + 1) (by omega) A R _ ha hc he h)⟩
theorem jF0 {P : Program} {w : World} {A : Around} {s : Shared} {a c : Addr} {xs ys : Array Value} {E : Value -> Shared -> Prop} {Q : Value -> Shared -> Prop} (ha : s.heap.IsList a xs) (hc : s.heap.IsList c ys) (hsz : xs.size = ys.size) (hu : A.units < cLine)
  (he : ∀ j (h1 : j < xs.size) (h2 : j < ys.size), EqP P w A.in1 s xs[j] ys[j]) (h : Q (.bool false) s) : wpAny (model P w) A (compareOp .NotEq (.ref a) (.ref c)) Q E s := by
 obtain ⟨⟨c1, d1, t1, z1⟩, g1, k1, n, q1⟩ := id ha
 obtain ⟨⟨c2, d2, t2, z2⟩, g2, k2, m, q2⟩ := id hc
 simp only at k1 q1 k2 q2
 subst k1 q1 k2 q2
 have main : fE0 P w A (Builtin.«list.__ne__» ⟨[.ref a, .ref c], []⟩) (PySem.wants (fun v s' => v ≠ .notImplemented /\ Q v s') E) s := by
  obtain ⟨hp, g, d, tk, os⟩ := s
  have f3 := AutoSeq1.sub_list_list
  have hne : ¬ (xs.size != ys.size) = true := by simp [hsz]
  unfold fE0
  wp_walk using wpAny_loadPart' g1, wpAny_loadPart' g2
  exact ⟨plainId_quiet plain_eq_loop _, codeAny_builtin entry_eq_loop (by
   rw [Around.under_plainId plain_eq_loop _]
   exact jY0 hsz _ 0 rfl A _ _ g1 g2 he ⟨(fun x => nomatch x), h⟩)⟩
 refine wpAny_richCompare_same_room (op := .NotEq) (T := "list") ⟨_, g1, rfl⟩ ⟨_, g2, rfl⟩ PySem.F.slot_list_ne ?_ hu
 exact wpAny_call (codeAny_call_builtin PySem.F.slot_list_ne.plain PySem.F.entry_list_ne (PySem.F.slot_list_ne.check _ _ _ _ _ _ _ _ ⟨_, g1, rfl⟩ (PySem.F.args_list_ne_2 _ _) main))
end
section
variable {X : Cx} {pins : List (Addr × Obj)} {σ : St} {H : Hp} {s : Shared} {F : Addr -> Prop}
theorem _root_.PySem.SeqAt.EqAt.p {A : Around} {u v : Value} (h : SeqAt.EqAt A s u v true) (P : Program) (w : World) : EqP P w A s u v := fun E Q q => h P w E Q q
theorem gP0 {a : Addr} {u : Value} (h : RelV (.ref a) u) : u = .ref a := by cases h; rfl
theorem kA0 {A : Around} {n : Nat} (I : Inv X pins σ H s) (hu : A.units + n < cLine) {ks : List Str} {its jts : List Value} {xs ys : List V} {ts : List T} (r1 : Rps F H xs ts) (r2 : Rps F H ys ts) (v1 : Vals xs its) (v2 : Vals ys jts) (hk : ks.length = ts.length) (nd : ks.Nodup)
  (he : ∀ t ∈ ts, eqT n t t = some true) : ∀ j, j <= ts.length -> PySem.W.KeqHits A s (ks.zipWith (fun k v => ((Sum.inr k : Key), v)) jts) ((ks.zipWith (fun k v => ((Sum.inr k : Key), v)) its).drop j) true := by
 have l1 : its.length = ts.length := by rw [<- r1.length]; exact v1.length.symm
 have l2 : jts.length = ts.length := by rw [<- r2.length]; exact v2.length.symm
 have nk : ((ks.zipWith (fun k v => ((Sum.inr k : Key), v)) jts).map (·.1)).Nodup := by
  have : (ks.zipWith (fun k v => ((Sum.inr k : Key), v)) jts).map (·.1) = ks.map Sum.inr := by
   apply List.ext_getElem
   ·simp; omega
   ·intro i h1 h2
    simp
  rw [this]
  exact List.Pairwise.map Sum.inr (fun a b h z => h (Sum.inr.inj z)) nd
 intro j hj
 induction q : ts.length - j generalizing j with
 | zero =>
  have : j = ts.length := by omega
  rw [List.drop_of_length_le (by simp; omega)]
  exact .nil
 | succ k ih =>
  have hlt : j < ts.length := by omega
  have hz : j < (ks.zipWith (fun k v => ((Sum.inr k : Key), v)) its).length := by simp; omega
  rw [List.drop_eq_getElem_cons hz, List.getElem_zipWith]
  have e2 : (ks.zipWith (fun k v => ((Sum.inr k : Key), v)) jts)[j]? = some (Sum.inr ks[j], jts[j]) := by
   rw [List.getElem?_eq_getElem (by simp; omega), List.getElem_zipWith]
  obtain ⟨x, hx, rx⟩ := r1.get (List.getElem?_eq_getElem hlt)
  obtain ⟨y, hy, ry⟩ := r2.get (List.getElem?_eq_getElem hlt)
  obtain ⟨u, hu1, ru⟩ := v1.get hx
  obtain ⟨v, hv1, rv⟩ := v2.get hy
  rw [List.getElem?_eq_getElem (by omega)] at hu1 hv1
  cases hu1
  cases hv1
  have := gM0 (F := F) I n ts[j] ts[j] true A x y its[j] jts[j] (he _ (List.getElem_mem hlt)) hu (.v rx) (.v ry) ru rv
  exact .hit (e := true) (b := true) (ee0 nk e2) this (ih (j + 1) hlt (by omega))
theorem kH0 {A : Around} {n : Nat} (I : Inv X pins σ H s) (hu : A.units + n + 2 < cLine) {a c : Addr} {kts : List (Str × T)} (r1 : Rb F H (.ref a) (.dct kts)) (r2 : Rb F H (.ref c) (.dct kts)) (nd : (kts.map (·.1)).Nodup) (he : ∀ t ∈ kts.map (·.2), eqT n t t = some true) :
  EqP X.prog X.w A s (.ref a) (.ref c) := by
 by_cases hac : a = c
 ·subst hac
  exact (SeqAt.EqAt.same _).p _ _
 obtain ⟨a', kvs, e, q1, p1⟩ := r1.dct_
 cases e
 obtain ⟨c', lvs, e, q2, p2⟩ := r2.dct_
 cases e
 obtain ⟨_, s1, vs, w1, d1⟩ := jT0 I.hok q1
 obtain ⟨_, s2, ws, w2, d2⟩ := jT0 I.hok q2
 obtain ⟨xs, its, rx, vx, rfl, ix⟩ := dr0 p1 w1
 obtain ⟨ys, jts, ry, vy, rfl, jx⟩ := dr0 p2 w2
 intro E Q hq
 unfold eqBool
 refine wpAny_holding ?_
 refine wpAny_ite_split (fun hab => absurd (by have := eq_of_beq hab; injection this) hac) (fun _ => ?_)
 refine wpAny_bind (PySem.W.keq_eq (r := true) s1 s2 d1 d2 (by omega) (fun _ => ?_) ?_)
 ·have := kA0 (A := A.in1) (n := n) I (by have := Around.in1_units A; omega) rx ry vx vy (by simp) nd he 0 (Nat.zero_le _)
  simpa using this
 ·refine wpAny_truthy_bool ?_
  have : (((kts.map (·.1)).zipWith (fun k v => ((Sum.inr k : Key), v)) its).length == ((kts.map (·.1)).zipWith (fun k v => ((Sum.inr k : Key), v)) jts).length && true) = true := by
   simp [ix, jx]
  rw [this]
  exact hq
def iM0 (t : T) : Prop := eqT 7 t t = some true \/ ∃ kts, t = .dct kts /\ (kts.map (·.1)).Nodup /\ ∀ t ∈ kts.map (·.2), eqT 7 t t = some true
theorem nb0 (hu : X.A.units + 20 < cLine) : OpR X (compareOp .NotEq) (fun x y H Q => ∃ F ts, Rb F H x (.lst ts) /\ Rb F H y (.lst ts) /\ (∀ t ∈ ts, iM0 t) /\ Q (.bl false) H) := by
 intro pins s σ H x y u v Q I ru rv h
 obtain ⟨F, ts, r1, r2, he, q⟩ := h
 have fin : EP X pins σ Q (.bool false) s := ⟨.bl false, H, I, rfl, q⟩
 obtain ⟨a, vs, rfl, ha, q1⟩ := r1.lst_
 obtain ⟨c, ws, rfl, hc, q2⟩ := r2.lst_
 cases ru; cases rv
 obtain ⟨its, w1, p1, _⟩ := I.list (SqL.of ha)
 obtain ⟨jts, w2, p2, _⟩ := I.list (SqL.of hc)
 have l1 : its.length = ts.length := by rw [<- q1.length]; exact w1.length.symm
 have l2 : jts.length = ts.length := by rw [<- q2.length]; exact w2.length.symm
 refine jF0 p1.isList p2.isList (by simp [l1, l2]) (by omega) (fun j h1 h2 => ?_) fin
 have hlt : j < ts.length := by simpa [l1] using h1
 obtain ⟨x, hx, rx⟩ := q1.get (List.getElem?_eq_getElem hlt)
 obtain ⟨y, hy, ry⟩ := q2.get (List.getElem?_eq_getElem hlt)
 obtain ⟨u, hu1, ru⟩ := w1.get hx
 obtain ⟨v, hv1, rv⟩ := w2.get hy
 rw [List.getElem?_eq_getElem (by omega)] at hu1 hv1
 cases hu1
 cases hv1
 have hin : X.A.in1.units <= X.A.units + 1 := by have := Around.in1_units X.A; omega
 rcases he _ (List.getElem_mem hlt) with e | ⟨kts, e, nd, ev⟩
 ·exact (gM0 (F := F) I 7 ts[j] ts[j] true X.A.in1 x y its[j] jts[j] e (by omega) (.v rx) (.v ry) ru rv).p _ _
 ·rw [e] at rx ry
  obtain ⟨a, _, rfl, _⟩ := (Rb.v rx).dct_
  obtain ⟨c, _, rfl, _⟩ := (Rb.v ry).dct_
  have eu := gP0 ru
  have ev' := gP0 rv
  have := kH0 (n := 7) (A := X.A.in1) I (by omega) (.v rx) (.v ry) nd ev
  rw [<- eu, <- ev'] at this
  exact this
end
end L2.BD
set_option Elab.async false
set_option linter.all false
set_option maxRecDepth 100000
set_option maxHeartbeats 4000000
namespace L2.BD
open PySem PySem.Spec PyProof.Rows
section
variable {X : Cx} {Y : Fx} {e a b : Expr} {es : List Expr} {pos : Pos} {f g : En -> Option T} {fa : En -> Option (List T)}
end
end L2.BD
set_option Elab.async false
set_option linter.all false
set_option maxRecDepth 100000
set_option maxHeartbeats 4000000
namespace L2.BD
open PySem PySem.Spec PyProof.Rows
mutual
inductive LF : T -> Prop
 | non : LF .non
 | bl (b : Bool) : LF (.bl b)
 | int (i : Int) : LF (.int i)
 | str (x : Str) : LF (.str x)
 | tup {ts : List T} (h : LFs ts) : LF (.tup ts)
 | ins {C : Addr} {fs : List (Str × T)} (h : LFf fs) : LF (.ins C fs)
inductive LFs : List T -> Prop
 | nil : LFs []
 | cons {t : T} {ts : List T} (h : LF t) (r : LFs ts) : LFs (t :: ts)
inductive LFf : List (Str × T) -> Prop
 | nil : LFf []
 | cons {k : Str} {t : T} {ts : List (Str × T)} (h : LF t) (r : LFf ts) : LFf ((k, t) :: ts)
end
def OIns (F : Addr -> Prop) (H : Hp) : Addr -> Prop := fun b => F b /\ ∃ C dx fs, H b = some (.ins C dx fs)
mutual
theorem LF.rp {F : Addr -> Prop} {H : Hp} : ∀ {v : V} {t : T}, LF t -> Rp F H v t -> Rp (OIns F H) H v t
 | _, _, .non, r => by cases r; exact .non
 | _, _, .bl b, r => by cases r; exact .bl b
 | _, _, .int b, r => by cases r; exact .int b
 | _, _, .str b, r => by cases r; exact .str b
 | _, _, .tup h, r => by cases r with | tup ha rs => exact .tup ha (LFs.rp h rs)
 | _, _, .ins h, r => by cases r with | ins f ha rs => exact .ins ⟨f, _, _, _, ha⟩ ha (LFf.rp h rs)
theorem LFs.rp {F : Addr -> Prop} {H : Hp} : ∀ {v : List V} {t : List T}, LFs t -> Rps F H v t -> Rps (OIns F H) H v t
 | _, _, .nil, r => by cases r; exact .nil
 | _, _, .cons h hs, r => by cases r with | cons a b => exact .cons (LF.rp h a) (LFs.rp hs b)
theorem LFf.rp {F : Addr -> Prop} {H : Hp} : ∀ {v : List (Str × V)} {t : List (Str × T)}, LFf t -> Rpf F H v t -> Rpf (OIns F H) H v t
 | _, _, .nil, r => by cases r; exact .nil
 | _, _, .cons h hs, r => by cases r with | cons a b => exact .cons (LF.rp h a) (LFf.rp hs b)
end
end L2.BD
set_option Elab.async false
set_option linter.all false
set_option maxRecDepth 100000
set_option maxHeartbeats 4000000
namespace L2.BD
open PySem PySem.Spec PyProof.Rows
section
variable {P : Program} {w : World} {K : PySem.W.Frag} {mg : Str -> Option Value} {base : Heap}
end
end L2.BD
set_option Elab.async false
set_option linter.all false
set_option maxRecDepth 100000
set_option maxHeartbeats 4000000
namespace L2.BD
open PySem PySem.Spec PyProof.Rows
section
variable {P : Program} {w : World} {K : PySem.W.Frag} {mg : Str -> Option Value} {base : Heap}
end
end L2.BD
set_option Elab.async false
set_option linter.all false
set_option maxRecDepth 100000
set_option maxHeartbeats 4000000
namespace L2.BD
open PySem PySem.Spec PyProof.Rows
open Classical in
noncomputable def φNeS (s t : T) : Option T := if s = t /\ ∃ ts, s = .lst ts /\ ∀ u ∈ ts, iM0 u then some (.bl false) else none
theorem o_neS : Op2 (fun x y H Q => ∃ F ts, Rb F H x (.lst ts) /\ Rb F H y (.lst ts) /\ (∀ t ∈ ts, iM0 t) /\ Q (.bl false) H) φNeS := by
 intro F H x y s t u Q tk rx ry h k
 unfold φNeS at h
 split at h
 ·rename_i c
  obtain ⟨e, ts, e2, he⟩ := c
  cases h
  subst e
  subst e2
  exact ⟨F, ts, rx, ry, he, k F _ H (.refl tk) (.bl false)⟩
 ·cases h
section
variable {X : Cx} {Y : Fx} {a b : Expr} {pos : Pos} {f g : En -> Option T}
theorem mP0 (hu : X.A.units + 20 < cLine) (ha : BE X Y a f) (hb : BE X Y b g) : QT X Y (.Compare a [.NotEq] [b] pos) (qB (e2 φNeS f g)) := dS0 (nb0 hu) o_neS ha hb (ey0 _)
end
end L2.BD
set_option Elab.async false
set_option linter.all false
set_option maxRecDepth 100000
set_option maxHeartbeats 4000000
namespace L2.BD
open PySem PySem.Spec PyProof.Rows
structure LeaveTo (X : Cx) (EE : XK) : Prop where
 own : Own X
 xe : ∀ e s', wpAny (model X.prog X.w) X.A (leaving X.env e) (fun _ s2 => CXB X.prog X.w X.outer X.H₀ X.s₀ EE e s2) (fun e' s2 => CXB X.prog X.w X.outer X.H₀ X.s₀ EE e' s2) s' -> X.xe e s'
section
variable {X : Cx} {Y : Fx} {EE : XK} {st : Stmt} {g : En -> Option Fl}
theorem fk0 (L : LeaveTo X EE) (h : SS (X.wish (Here X EE)) Y st g) : SS X Y st g := fun pins s σ H D I q =>
 wpAny_mono (h pins s σ H D (I.wish _) q) (fun _ _ z => SP.unwish z) fun e s' z => L.xe e s' (gs0 L.own z fun _ _ y => y)
theorem fo0 (L : LeaveTo X EE) : eB0 (CXB X.prog X.w) X EE := fun _ _ _ _ e s' I c => L.xe e s' (iy0 I L.own I.ok.frames c fun _ _ y => y)
theorem hL0 : eB0 (CXB X.prog X.w) (X.wish (Here X EE)) EE := fun _ _ _ _ _ _ I c => lp0 I.unwish c
end
def aM0 (g : En -> Option Out) : En -> Option Fl := fun ε => match g ε with
 | some (.val _ _) => some (.nx ε)
 | some (.exc C) => some (.xc C)
 | none => none
section
variable {X : Cx} {Y : Fx} {k : Nat} {ps : List Str} {x : Str} {p pos cpos : Pos} {e : Expr} {es : List Expr} {gs : List T -> Option Out} {fa : En -> Option (List T)} {EE : XK}
theorem aQ0 (hx : eB0 (CXB X.prog X.w) X EE) (hw : ∀ C H', Y.xk C H' -> EE (.ref C) none H') (M : bI0 X.prog X.w X.K X.mg X.base k x ps gs) (hr : Room k X.A) (hg : Gl X x) (ha : SA X Y (e :: es) fa)
  (hdb : (x == ("__debug__" : Str)) = false := by decide) (he : starEach (e :: es) X.env = (false, eval e X.env) :: starEach es X.env := by rfl) (hpl : (backTo cpos (starEach es X.env)).any (·.1) = false := by rfl)
  (hs : swapsWith (.Call (.Name x p) (e :: es) [] cpos) none pos.line X.env = pure false := by rfl) :
  SS X Y (.Expr (.Call (.Name x p) (e :: es) [] cpos) pos) (aM0 (eFnX gs fa)) := by
 obtain ⟨f, fd, F, h1, h2, h3⟩ := M
 refine PS.imp (eP0 (gm0 F hr hg h1 h2 h3 .nil hx ha hdb he hpl) hs) fun D σ H ⟨F, ε, fl, r, hg, k⟩ => ?_
 unfold aM0 at hg
 split at hg
 ·rename_i b t q
  cases hg
  exact kR0 r q fun F' v H' m _ => k F' σ H' m.keep (r.mono m)
 ·rename_i C' q
  cases hg
  exact kR0 r q fun F' H' m => hw C' H' (k F' H' (r.mono m).fin)
 ·cases hg
end
inductive OutI where
 | val (fs : List (Str × T)) | exc (C : Addr)
def spJ (C : Addr) (gs : List T -> Option OutI) : Sp := fun vs H Q E => ∃ (F : Addr -> Prop) (x dx : Addr) (us : List V) (ts : List T) (r : OutI), vs = .ref x :: us /\ H x = some (.ins C dx []) /\ ¬ F x /\ Trk F H /\ Rps F H us ts /\ gs ts = some r /\
 match r with
 | .val fts => ∀ F' H', (∀ b o, b ≠ x -> H b = some o -> H' b = some o) -> (∀ a, F a -> F' a) -> (∀ a, F' a -> F a \/ H a = none \/ a = x) -> ¬ F' x -> Trk F' H' -> Rp1 F' H' x (.ins C fts) -> Q .non H'
 | .exc D => ∀ F' H', (∀ b o, b ≠ x -> H b = some o -> H' b = some o) -> (∀ a, F a -> F' a) -> (∀ a, F' a -> F a \/ H a = none \/ a = x) -> Trk F' H' -> E (.ref D) none H'
def retJ (C : Addr) : Fl -> Option OutI
 | .nx (.ow (.ins C' fs) :: _) => if C' = C then some (.val fs) else none
 | .xc D => some (.exc D)
 | _ => none
section
variable {P : Program} {w : World} {K : PySem.W.Frag} {mg : Str -> Option Value} {base : Heap}
theorem kC0 {x qual n : Str} {st : Stmt} {f C : Addr} {fd : FuncData} {N ps : List Str} {k : Nat} {gs : List T -> Option OutI} (Fn : Fun K x qual st f fd) (S : FnScope (n :: N) ps (ak0 st))
  (hlen : ∀ ts r, gs ts = some r -> ts.length + 1 = ps.length)
  (hbody : ∀ (cdv : Value) (A : Around) (outer : List Env) (s : Shared) (H : Hp) (E : XK) (Y : Fx), Room k (A.deeper (envOfC qual (ak0 st) s.heap.objs.size f cdv)) -> (∀ D H', Y.xk D H' -> E (.ref D) none H') ->
   ∃ g, SSs (cxOf (CXB P w) P w K mg base (n :: N) qual (ak0 st) f cdv A outer s H E) Y (bE0 st) g /\ ∀ ts r, gs ts = some r -> (g (gl0 C (n :: N) ts)).bind (retJ C) = some r) : FnOk P w K mg base (CXB P w) (k + 1) f fd ps (spJ C gs) := by
 obtain ⟨oc, od, kV, doc, pm, an, cdv, ct, osl, rfl, lk, hcd⟩ := Fn.ex
 refine lU0 lk hcd S (fun vs H Q E h => ?_) fun A outer s H vs Q E hr h => ?_
 ·obtain ⟨F, x, dx, us, ts, fts, rfl, _, _, _, r, e, _⟩ := h
  rw [List.length_cons, r.length]
  exact hlen ts _ e
 ·obtain ⟨F, x, dx, us, ts, rr, rfl, hx, nf, tk, r, e, q⟩ := h
  obtain ⟨g, hg, hv⟩ := hbody cdv A outer s H E ⟨fun b => if b = x then none else H b, F, fun a => a = x, fun D H' => E (.ref D) none H'⟩ hr fun _ _ z => z
  refine ⟨_, hg, ?_⟩
  have hv := hv ts rr e
  cases qg : g (gl0 C (n :: N) ts) with
  | none => rw [qg] at hv; cases hv
  | some fl =>
   rw [qg] at hv
   have hv : retJ C fl = some rr := hv
   refine ⟨F, gl0 C (n :: N) ts, fl, (jV0 tk hx nf r).wish, qg, ?_⟩
   have nw : ∀ {b : Addr}, (F b \/ (if b = x then none else H b) = none) -> F b \/ H b = none \/ b = x := fun {b} z => by
    rcases z with z | z
    ·exact .inl z
    ·by_cases nb : b = x
     ·exact .inr (.inr nb)
     ·rw [if_neg nb] at z; exact .inr (.inl z)
   unfold retJ at hv
   split at hv
   ·split at hv
    ·rename_i C' fs ε hc
     cases hv
     subst hc
     intro F' σ' H' _ rl
     obtain ⟨a, s1, nf1, h0, hr⟩ := rl.ow 0 _ rfl
     obtain rfl : a = x := rl.me 0 _ a rfl rfl s1
     exact q F' H' (fun b o nb hb => rl.same b o (by show (if b = a then none else H b) = some o; rw [if_neg nb]; exact hb)) rl.sub (fun b hb => nw (rl.new b hb)) nf1 rl.trk hr
    ·cases hv
   ·cases hv
    intro F' H' en
    exact q F' H' (fun b o nb hb => en.same b o (by show (if b = x then none else H b) = some o; rw [if_neg nb]; exact hb)) en.sub (fun b hb => nw (en.new b hb)) en.trk
   ·cases hv
end
section
variable {X : Cx} {CX : CXT} {k : Nat} {f C : Addr} {fd : FuncData} {ps : List Str} {sp : Sp} {E : XK} {x m : Str} {p pos apos : Pos} {e o : Expr} {es : List Expr} {ta : TE} {t : TA}
theorem iR0 {pins : List (Addr × Obj)} {σ : St} {H : Hp} {s : Shared} {Q : VK} {us : List Value} {vs : List V} {E1 : Value -> Shared -> Prop} (M : Mk X.K C f) (F : FnOk X.prog X.w X.K X.mg X.base CX k f fd ps sp) (hr : Room (k + 1) X.A) (hb : Binds X.K fd ps [])
  (hx : ∀ H s v s', Inv X pins σ H s -> CX X.stack H s E v s' -> E1 v s') (I : Inv X pins σ H s) (r : Vals vs us)
  (h : ∀ x dx, H x = none -> H dx = none -> dx ≠ x -> sp (.ref x :: vs) (upd (upd H dx (.own x)) x (.ins C dx [])) (fun v H2 => v = .non /\ Q (.ref x) H2) E) :
  wpAny (model X.prog X.w) X.A (call (.ref C) us) (EP X pins σ Q) E1 s := by
 have hq := h (s.heap.objs.size + 1) s.heap.objs.size (I.hok.fresh (Nat.le_succ _)) (I.hok.fresh (Nat.le_refl _)) (Nat.ne_of_lt (Nat.lt_succ_self _))
 have I2 := Inv.made (C := C) I
 have r2 : Vals (V.ref (s.heap.objs.size + 1) :: vs) (Value.ref (s.heap.objs.size + 1) :: us) := .cons rfl r
 have hl : ((Value.ref (s.heap.objs.size + 1) :: us) ++ []).length = ps.length := by
  have e := r2.length
  rw [F.len _ _ _ _ hq] at e
  rw [List.append_nil]
  exact e.symm
 have hb2 := hb _ (Value.ref (s.heap.objs.size + 1) :: us) I2.kIn hl
 rw [List.append_nil] at hb2
 refine wpAny_call (jM0 (f := f) I.kIn M.makes M.init (beq_iff_eq.mp M.fn) (codeAny_mono (F.run _ X.stack _ _ ⟨Value.ref (s.heap.objs.size + 1) :: us, []⟩ (Value.ref (s.heap.objs.size + 1) :: us) _ _ E (hr.make C us [])
  (I2.env0.make C us []) hb2 r2 hq) fun r s' hq' => ?_))
 cases r with
 | error e => exact hx _ _ e s' I2 hq'
 | ok fl =>
  cases fl with
  | ret u =>
   obtain ⟨v, H', I3, rv, ev, q3⟩ := I2.after hq'
   subst ev
   exact ⟨rv, ⟨V.ref (s.heap.objs.size + 1), H', I3, rfl, q3⟩⟩
  | next => exact False.elim hq'
  | brk => exact False.elim hq'
  | cont => exact False.elim hq'
theorem my0 (M : Mk X.K C f) (F : FnOk X.prog X.w X.K X.mg X.base (CXB X.prog X.w) k f fd ps sp) (hr : Room (k + 1) X.A) (hg : Gl X x) (hm : X.mg x = some (.ref C)) (hb : Binds X.K fd ps []) (ha : ∀ E1, PA (X.wish E1) (e :: es) t)
  (hdb : (x == ("__debug__" : Str)) = false := by decide) (he : starEach (e :: es) X.env = (false, eval e X.env) :: starEach es X.env := by rfl) (hpl : (backTo pos (starEach es X.env)).any (·.1) = false := by rfl) :
  PEx X (.Call (.Name x p) (e :: es) [] pos) (fun EE => tMake C sp [] EE t) := by
 intro E1 pins σ EE hx s H Q I h
 refine wpAny_Call_Name_kw (dV0 I hg hm ?_ hdb)
 refine PySem.W.callWith_K (h₀ := X.base) I.ok.mod.kin M.kp (thn (ha E1 pos pins s σ H _ (I.wish E1) h) fun us s1 ⟨vs, H1, I1, r, q⟩ => ⟨I1.kIn, ?_⟩) he hpl
 refine iR0 M F hr hb hx I1.unwish r fun y dy h1 h2 h3 => ?_
 have q := q y dy h1 h2 h3
 rw [List.append_nil] at q
 exact q
end
def dz0 (C : Addr) (gs : List T -> Option OutI) (g : En -> Option (List T)) : En -> Option Out := fun ε => (g ε).bind fun ts => match gs ts with
 | some (.val fs) => some (.val true (.ins C fs))
 | some (.exc D) => some (.exc D)
 | none => none
section
variable {X : Cx} {Y : Fx} {k : Nat} {f C : Addr} {fd : FuncData} {ps : List Str} {x m z : Str} {e o : Expr} {es : List Expr} {gs : List T -> Option OutI} {fa : En -> Option (List T)}
theorem jS0 {EE : XK} {Q : VK} {F : Addr -> Prop} {ε : En} {σ : St} {H : Hp} {r : Out} (rl : Rel Y F ε σ H) (hf : dz0 C gs fa ε = some r) (hv : OutQ F H Q EE r) : tMake C (spJ C gs) [] EE (TrA Y fa) σ H Q := by
 unfold dz0 at hf
 cases q : fa ε with
 | none => rw [q] at hf; cases hf
 | some ts =>
  rw [q] at hf
  simp only [Option.bind_some] at hf
  refine ⟨F, ε, ts, rl, q, fun F1 vs H1 m1 r1 y dy hy hdy ne => ?_⟩
  have ext : ∀ b o, H1 b = some o -> upd (upd H1 dy (.own y)) y (.ins C dy []) b = some o := fun b o h => by rw [ao0 (au0 h hy), ao0 (au0 h hdy)]; exact h
  have tk2 : Trk F1 (upd (upd H1 dy (.own y)) y (.ins C dy [])) := fun b fb => let ⟨o, h⟩ := m1.trk b fb; ⟨o, ext b o h⟩
  have kp : Keep F1 H1 F1 (upd (upd H1 dy (.own y)) y (.ins C dy [])) := ⟨fun _ h => h, fun b o _ h => ext b o h, fun b xs h => ext b _ h⟩
  have back : ∀ {b : Addr}, upd (upd H1 dy (.own y)) y (.ins C dy []) b = none -> H1 b = none := fun {b} z => by
   cases w : H1 b with
   | none => rfl
   | some o => rw [ext b o w] at z; cases z
  split at hf
  ·rename_i fs q2
   cases hf
   refine ⟨F1, y, dy, vs, ts, .val fs, by rw [List.append_nil], aq0, Trk.new m1.trk hy, tk2, r1.keep kp, q2, fun F2 H2 s2 sb nw nf tk hr => ⟨rfl, ?_⟩⟩
   have m2 : Mono F1 H1 F2 H2 := ⟨fun b o h => s2 b o (au0 h hy) (ext b o h), sb, fun b fb => ?_, tk⟩
   ·exact hv F2 _ H2 (m1.trans m2) ⟨y, rfl, m1.free hy, nf, hr⟩
   ·rcases nw b fb with z | z | z
    ·exact .inl z
    ·exact .inr (back z)
    ·exact absurd fb (z ▸ nf)
  ·rename_i D q2
   cases hf
   refine ⟨F1, y, dy, vs, ts, .exc D, by rw [List.append_nil], aq0, Trk.new m1.trk hy, tk2, r1.keep kp, q2, fun F2 H2 s2 sb nw tk => ?_⟩
   have m2 : Mono F1 H1 F2 H2 := ⟨fun b o h => s2 b o (au0 h hy) (ext b o h), sb, fun b fb => ?_, tk⟩
   ·exact hv F2 H2 (m1.trans m2)
   ·rcases nw b fb with z | z | z
    ·exact .inl z
    ·exact .inr (back z)
    ·exact .inr (z ▸ hy)
  ·cases hf
end
def iX0 (P : Program) (w : World) (K : PySem.W.Frag) (mg : Str -> Option Value) (base : Heap) (C : Addr) (k : Nat) (x : Str) (ps : List Str) (gs : List T -> Option OutI) : Prop := ∃ f fd, FnOk P w K mg base (CXB P w) k f fd ps (spJ C gs) /\ Mk K C f /\ mg x = some (.ref C) /\ Binds K fd ps []
section
variable {X : Cx} {Y : Fx} {k : Nat} {C : Addr} {ps : List Str} {x m z : Str} {e o : Expr} {es : List Expr} {gs : List T -> Option OutI} {fa : En -> Option (List T)}
theorem nP0 {t : XK -> TE} {i j : Nat} {Dx D : Addr} {K : PySem.W.Frag} {g : En -> Option Out} (hex : PySem.W.exmOne K (.ref D) (.ref Dx) = some true) (ht : ∀ (F : Addr -> Prop) ε σ H EE Q r, Rel Y F ε σ H -> g ε = some r -> OutQ F H Q EE r -> t EE σ H Q) (D0 : Ends) (σ : St) (H : Hp) (h : TrS Y (fS0 i j D g) D0 σ H) : tTry i j Dx K t D0 σ H := by
 obtain ⟨F, ε, fl, r, hf, k⟩ := h
 unfold fS0 at hf
 split at hf
 ·rename_i b t q
  cases hn' : noD (b, t) with
  | none => rw [hn'] at hf; cases hf
  | some u =>
   rw [hn'] at hf
   cases hf
   refine ⟨fun _ _ _ => False, ht F ε σ H _ _ _ r q fun F' v H' m rs => ?_, fun _ _ z => z.elim⟩
   obtain ⟨F2, m2, rp⟩ := kX0 hn' m rs
   exact k F2 _ H' m2.keep ((r.mono m2).set_sh rp)
 ·rename_i C' q
  split at hf
  ·rename_i hc
   subst hc
   cases hf
   refine ⟨fun cl _ H' => cl = .ref C' /\ ∃ F', Mono F H F' H', ht F ε σ H _ _ _ r q fun F' H' m => ⟨rfl, F', m⟩, fun cl H' ⟨ec, F', m⟩ => ⟨C', ec, hex, fun a o hno hoc => ?_⟩⟩
   have ext : ∀ b u, H' b = some u -> upd H' a (.frz o (.ext fun _ => True)) b = some u := fun b u q => by rw [ao0 (au0 q hno)]; exact q
   have m2 : Mono F H (fun b => F' b \/ b = a) (upd H' a (.frz o (.ext fun _ => True))) := ⟨fun b u q => ext b u (m.ext b u q), fun b q => .inl (m.sub b q), fun b q => q.elim (m.new b) fun z => .inr (z ▸ m.free hno), fun b q => by
    rcases q with q | q
    ·obtain ⟨u, z⟩ := m.trk b q
     exact ⟨u, ext b u z⟩
    ·exact ⟨_, by rw [q]; exact aq0⟩⟩
   have rp : Rp (fun b => F' b \/ b = a) (upd H' a (.frz o (.ext fun _ => True))) (.ref a) (.exc C') := .exc (.inr rfl) aq0 hoc
   exact k _ _ _ m2.keep ((((r.mono m2).set_sh rp).set_sh rp).set_un j)
  ·cases hf
 ·cases hf
theorem lK0 {i j : Nat} {y n x : Str} {Dx D : Addr} {p0 p1 p2 p3 p4 p5 p6 p7 p8 cpos : Pos} (O : Own X) (hN : X.N.Nodup) (hi : X.N[i]? = some y) (hj : X.N[j]? = some n) (hy : X.env.scope.names.lookup y = some .local) (hn : X.env.scope.names.lookup n = some .local)
  (hg : Gl X x) (hm : X.mg x = some (.ref Dx)) (hex : PySem.W.exmOne X.K (.ref D) (.ref Dx) = some true) (M : iX0 X.prog X.w X.K X.mg X.base C k z ps gs) (hr : Room (k + 1) X.A) (hgz : Gl X z) (ha : ∀ E1, SA (X.wish E1) Y (e :: es) fa)
  (hdz : (z == ("__debug__" : Str)) = false := by decide) (hst : starEach (e :: es) X.env = (false, eval e X.env) :: starEach es X.env := by rfl) (hpl : (backTo cpos (starEach es X.env)).any (·.1) = false := by rfl)
  (hs1 : swapsWith (.Call (.Name z p0) (e :: es) [] cpos) (some (.Name y p1)) p2.line X.env = pure false := by rfl) (hs2 : swapsWith (.Name n p3) (some (.Name y p4)) p5.line X.env = pure false := by rfl)
  (hdb : (x == ("__debug__" : Str)) = false := by decide) (hdn : (n == ("__debug__" : Str)) = false := by decide) (hcd : (n == ("__classdict__" : Str)) = false := by decide) :
  SS X Y (.Try [.Assign [.Name y p1] (.Call (.Name z p0) (e :: es) [] cpos) p2] [.ExceptHandler (some (.Name x p6)) (some n) [.Assign [.Name y p4] (.Name n p3) p5] p7] [] [] p8) (fS0 i j D (dz0 C gs fa)) := by
 obtain ⟨f, fd, F, h1, h2, h3⟩ := M
 exact PS.imp (nT0 O hN hi hj hy hn hg hm (my0 h1 F hr hgz h2 h3 ha hdz hst hpl) hs1 hs2 hdb hdn hcd) (nP0 hex fun _ _ _ _ _ _ _ => jS0)
end
def fnJ (C : Addr) (N : List Str) (n : Nat) (g : En -> Option Fl) : List T -> Option OutI := fun ts => if ts.length + 1 = n then (g (gl0 C N ts)).bind (retJ C) else none
theorem kJ0 {C : Addr} {N : List Str} {n : Nat} {g : En -> Option Fl} {ts : List T} {t : OutI} (h : fnJ C N n g ts = some t) : (g (gl0 C N ts)).bind (retJ C) = some t := by
 unfold fnJ at h
 split at h
 ·exact h
 ·cases h
theorem me0 {C : Addr} {N : List Str} {n : Nat} {g : En -> Option Fl} {ts : List T} {r : OutI} (h : fnJ C N n g ts = some r) : ts.length + 1 = n := by
 unfold fnJ at h
 split at h
 ·assumption
 ·cases h
end L2.BD
set_option Elab.async false
set_option linter.all false
set_option maxRecDepth 100000
set_option maxHeartbeats 4000000
namespace L2.BD
open PySem PySem.Spec PyProof.Rows
section
variable {X : Cx} {Y : Fx} {a b c : Expr} {i j k : Nat}
theorem cA0 {out : Str} {x : Sem Value} {rest : List (Sem Value)} {A : Around} {M : Model} {E : Value -> Shared -> Prop} {s : Shared} {Q : Value -> Shared -> Prop} {n l : Nat} {pins : List (Addr × Obj)} {σ : St} {H : Hp}
  (hx : wpAny M A x (fun v s1 => ∃ y t, v = .str y t /\ y.length <= l /\ Inv X pins σ H s1) E s) (ho : out.length <= n) (hn : n + l <= sizeLine)
  (h : ∀ out' s1, out'.length <= n + l -> Inv X pins σ H s1 -> wpAny M A (joinParts out' rest) Q E s1) : wpAny M A (joinParts out (x :: rest)) Q E s := by
 refine joinParts_cons (thn hx fun v s1 ⟨y, t, e, hl, I⟩ => ?_)
 subst e
 have : (out ++ y).length <= n + l := by rw [strLen_append]; omega
 exact ⟨Nat.le_trans this hn, h _ _ this I⟩
theorem nk0 {A : Around} {pins : List (Addr × Obj)} {σ : St} {H : Hp} {s : Shared} {p : Pos} {x : Str} (hA : A = X.A) (I : Inv X pins σ H s) (ha : PE X a (tVar i)) (hi : σ[i]? = some (some (.str x))) (hl : x.length <= 1000) :
  wpAny (model X.prog X.w) A (eval (.FormattedValue a (-1) none p) X.env) (fun v s1 => ∃ y t, v = .str y t /\ y.length <= 1000 /\ Inv X pins σ H s1) X.xe s := by
 subst hA
 refine FormattedValue_plain (thn (ha pins s σ H (fun v H1 => v = .str x /\ H1 = H) I ⟨_, hi, rfl, rfl⟩) fun u s1 ⟨v, H1, I1, r1, ev, eh⟩ => ?_)
 subst ev eh
 obtain ⟨t, rfl⟩ := r1
 exact formatField_str (fun t' tk => ⟨x, t', rfl, hl, I1.tok _⟩) (Nat.le_trans hl (by decide))
theorem fB0 {m : Int} (h : m.natAbs <= 1000000) : m.natAbs.log2 < 1920 := by
 by_cases z : m.natAbs = 0
 ·rw [z]; decide
 ·exact (Nat.log2_lt z).mpr (Nat.lt_of_le_of_lt h (Nat.lt_of_lt_of_le (by decide : 1000000 < 2 ^ 20) (Nat.pow_le_pow_right (by decide) (by decide))))
theorem ew0 {m : Int} (h : m.natAbs <= 1000000) : (Str.ofString (toString m)).length <= 1000 := by
 have := int_text_length_le10 (a := m) (k := 7) (by decide) (Nat.lt_of_le_of_lt h (by decide))
 rw [PySem.ofString_length]; omega
theorem lh0 {A : Around} {pins : List (Addr × Obj)} {σ : St} {H : Hp} {s : Shared} {p : Pos} {m : Int} (hA : A = X.A) (I : Inv X pins σ H s) (ha : PE X a (tVar i)) (hi : σ[i]? = some (some (.int m))) (hl : m.natAbs <= 1000000) :
  wpAny (model X.prog X.w) A (eval (.FormattedValue a (-1) none p) X.env) (fun v s1 => ∃ y t, v = .str y t /\ y.length <= 1000 /\ Inv X pins σ H s1) X.xe s := by
 subst hA
 refine FormattedValue_plain (thn (ha pins s σ H (fun v H1 => v = .int m /\ H1 = H) I ⟨_, hi, rfl, rfl⟩) fun u s1 ⟨v, H1, I1, r1, ev, eh⟩ => ?_)
 subst ev eh
 obtain ⟨t, rfl⟩ := r1
 exact formatField_int_small (fB0 hl) ⟨_, _, rfl, ew0 hl, I1.tok _⟩
theorem lj0 {A : Around} {pins : List (Addr × Obj)} {σ : St} {H : Hp} {s : Shared} {p : Pos} {n : Nat} {x : Str} (hA : A = X.A) (I : Inv X pins σ H s) (hl : x.length <= 1000) :
  wpAny (model X.prog X.w) A (eval (.Constant (.str x) n p) X.env) (fun v s1 => ∃ y t, v = .str y t /\ y.length <= 1000 /\ Inv X pins σ H s1) X.xe s := by
 subst hA
 refine thn (jj0 pins s σ H (fun v H1 => v = .str x /\ H1 = H) I ⟨rfl, rfl⟩) fun u s1 ⟨v, H1, I1, r1, ev, eh⟩ => ?_
 subst ev eh
 obtain ⟨t, rfl⟩ := r1
 exact ⟨_, _, rfl, hl, I1⟩
def cFs (i j k : Nat) (ε : En) : Bool := match ε[i]?, ε[j]?, ε[k]? with
 | some (.sh (.str x)), some (.sh (.int m)), some (.sh (.int n)) => decide (x.length <= 1000) && decide (m.natAbs <= 1000000) && decide (n.natAbs <= 1000000)
 | _, _, _ => false
def TrP (Y : Fx) (c : En -> Bool) : TA := fun σ H Q => ∃ F ε, Rel Y F ε σ H /\ c ε = true /\ ∀ v, Q [v] H
theorem pa_fs {x1 x2 : Str} {n1 n2 : Nat} {p p1 p2 p3 p4 p5 : Pos} (ha : PE X a (tVar k)) (hb : PE X b (tVar i)) (hc : PE X c (tVar j)) (h1 : x1.length <= 1000 := by decide) (h2 : x2.length <= 1000 := by decide)
  (hs : starEach [.JoinedStr [.FormattedValue a (-1) none p1, .Constant (.str x1) n1 p2, .FormattedValue b (-1) none p3, .Constant (.str x2) n2 p4, .FormattedValue c (-1) none p5] p] X.env = [(false, eval (.JoinedStr [.FormattedValue a (-1) none p1, .Constant (.str x1) n1 p2, .FormattedValue b (-1) none p3, .Constant (.str x2) n2 p4, .FormattedValue c (-1) none p5] p) X.env)] := by rfl) :
  PA X [.JoinedStr [.FormattedValue a (-1) none p1, .Constant (.str x1) n1 p2, .FormattedValue b (-1) none p3, .Constant (.str x2) n2 p4, .FormattedValue c (-1) none p5] p] (TrP Y (cFs k i j)) := by
 refine PA.imp (bu0 (te := fun σ H Q => ∃ x m n, σ[k]? = some (some (.str x)) /\ σ[i]? = some (some (.int m)) /\ σ[j]? = some (some (.int n)) /\ x.length <= 1000 /\ m.natAbs <= 1000000 /\ n.natAbs <= 1000000 /\ ∀ z, Q z H) ?_ cN0 hs) fun σ H Q ⟨F, ε, r, hc, q⟩ => ?_
 ·intro pins s σ H Q I ⟨x, m, n, s1, s2, s3, l1, l2, l3, q⟩
  refine JoinedStr_many ?_
  refine cA0 (n := 0) (l := 1000) (X := X) (pins := pins) (σ := σ) (H := H) (nk0 rfl I ha s1 l1) (by decide) (by decide) fun o1 s' h1' I => ?_
  refine cA0 (n := 1000) (l := 1000) (X := X) (pins := pins) (σ := σ) (H := H) (lj0 rfl I h1) h1' (by decide) fun o2 s' h2' I => ?_
  refine cA0 (n := 2000) (l := 1000) (X := X) (pins := pins) (σ := σ) (H := H) (lh0 rfl I hb s2 l2) h2' (by decide) fun o3 s' h3' I => ?_
  refine cA0 (n := 3000) (l := 1000) (X := X) (pins := pins) (σ := σ) (H := H) (lj0 rfl I h2) h3' (by decide) fun o4 s' h4' I => ?_
  refine cA0 (n := 4000) (l := 1000) (X := X) (pins := pins) (σ := σ) (H := H) (lh0 rfl I hc s3 l3) h4' (by decide) fun o5 s' h5' I => ?_
  exact joinParts_nil ⟨.str o5, H, I.tok _, ⟨_, rfl⟩, q _⟩ (Nat.le_trans h5' (by decide))
 ·unfold cFs at hc
  split at hc
  ·rename_i x m n e1 e2 e3
   simp only [Bool.and_eq_true, decide_eq_true_eq] at hc
   obtain ⟨v1, s1, r1⟩ := r.sh k _ e1
   obtain ⟨v2, s2, r2⟩ := r.sh i _ e2
   obtain ⟨v3, s3, r3⟩ := r.sh j _ e3
   cases r1
   cases r2
   cases r3
   exact ⟨x, m, n, s1, s2, s3, hc.1.1, hc.1.2, hc.2, fun z => q z⟩
  ·cases hc
end
def ef0 (C : Addr) (c : En -> Bool) : En -> Option Fl := fun ε => if c ε = true then some (.xc C) else none
section
variable {X : Cx} {Y : Fx} {st : Stmt} {e o : Expr} {es : List Expr} {pos cpos np : Pos} {c : En -> Bool} {x : Str} {C : Addr} {bmB : List Value} {newId initId B : String} {EE : XK}
theorem iQ0 (O : Own X) (hA : X.A.handled = none) (hg : Gl X x) (hm : X.mg x = some (.ref C)) (hq : PySem.W.excIn X.K C bmB newId = true) (FB : ExcBaseFacts B newId initId bmB)
  (hxe : ∀ v s', wpAny (model X.prog X.w) X.A (leaving X.env v) (fun _ s2 => CXB X.prog X.w X.outer X.H₀ X.s₀ EE v s2) (fun v' s2 => CXB X.prog X.w X.outer X.H₀ X.s₀ EE v' s2) s' -> X.xe v s') (hw : ∀ H', Y.xk C H' -> EE (.ref C) none H')
  (ha : PA X [e] (TrP Y c)) (hdb : (x == ("__debug__" : Str)) = false := by decide) (he : starEach [e] X.env = [(false, eval e X.env)] := by rfl) :
  SS X Y (.Raise (some (.Call (.Name x np) [e] [] cpos)) none pos) (ef0 C c) := by
 intro pins s σ H D I ⟨F, ε, fl, r, hf, k⟩
 unfold ef0 at hf
 split at hf
 ·rename_i hc
  cases hf
  obtain ⟨tl, N, nm, qn, bs, hd, sn, sub, ab, col, dd, k0, k1, k2, k3, k5, mN, hC, hN, hni, T⟩ := iU0 I.mod.kin hq
  refine wpAny_Raise_call_subT (C := C) (nm := nm) (q := qn) (N := N) (bs := bs) (bm := tl) (hdct := hd) (sn := sn) (sub := sub) (ab := ab) (col := col) (dd := dd) (k0 := k0) (k1 := k1) (k2 := k2) (k3 := k3) (k5 := k5) FB (mN := mN) (T.hasType FB.hasBase) hA (by rw [he]; rfl) hni (dV0 I hg hm ⟨rfl, ?_⟩ hdb)
  have run := ha cpos pins s σ H (fun vs H2 => vs.length = 1 /\ H2 = H) I ⟨F, ε, r, hc, fun v => ⟨rfl, rfl⟩⟩
  rw [he] at run ⊢
  refine Calls.evalArgs_plain (thn run fun us s2 ⟨vs, H2, I2, rv, hl, eh⟩ => ?_)
  subst eh
  refine ⟨rfl, by rw [<- rv.length, hl]; decide, I2.bk _ _ hC, hN.keeps I2.bk, T.keeps I2.bk, fun h' v hmade => hxe _ _ ?_⟩
  exact dx0 I2 O I2.ok.frames hmade (hw _ (k F _ r.fin))
 ·cases hf
end
def hZ0 : List T -> Option T | [.int i] => if i.natAbs <= 1000000 then some (.str (Str.ofString (toString i))) else none | _ => none
def ia0 : T -> T -> Option T | .str a, .str b => if a.length + b.length <= big then some (.str (a ++ b)) else none | _, _ => none
theorem mV0 : OpN (fun xs H Q => ∃ i : Int, xs = [.int i] /\ i.natAbs.log2 < 1920 /\ Q (.str (Str.ofString (toString i))) H) hZ0 := by
 intro F H xs ts u Q tk r h k
 unfold hZ0 at h
 split at h
 ·split at h
  ·rename_i i hi
   cases h
   obtain ⟨x, rfl, rx⟩ := Rbs.one r
   cases rx.int_
   exact ⟨i, rfl, fB0 hi, k F _ H (.refl tk) (.str _)⟩
  ·cases h
 ·cases h
theorem mQ0 : Op2 (fun x y H Q => ∃ i j, x = .str i /\ y = .str j /\ i.length + j.length <= sizeLine /\ Q (.str (i ++ j)) H) ia0 := by
 intro F H x y s t u Q tk rx ry h k
 unfold ia0 at h
 split at h
 ·split at h
  ·rename_i hb
   cases h
   cases rx.str_
   cases ry.str_
   exact ⟨_, _, rfl, rfl, es0 hb, k F _ H (.refl tk) (.str _)⟩
  ·cases h
 ·cases h
section
variable {X : Cx} {Y : Fx} {e a b : Expr} {es : List Expr} {pos p p2 : Pos} {f g : En -> Option T} {fa : En -> Option (List T)}
theorem ma0 (hg : Gl X "str") (hm : X.mg "str" = none) (ha : BA X Y [a] fa) (hv : bootBuiltins "str" = some (.type "str") := by rfl) (he : starEach [a] X.env = [(false, eval a X.env)] := by rfl) : SE X Y (.Call (.Name "str" p) [a] [] pos) (av0 hZ0 fa) := fz0 fG0 mV0 hg hm hv ha (by decide) (by decide) he rfl
theorem lu0 (ha : BE X Y a f) (hb : BE X Y b g) : SE X Y (.BinOp a .Add b pos) (e2 ia0 f g) := gv0 hC0 mQ0 ha hb
end
def lN0 : V -> List V -> Hp -> VK -> Prop := fun x vs H Q => ∃ l xs i y, x = .ref l /\ vs = [.int i, y] /\ H l = some (.lst xs) /\ 0 <= i /\ i.toNat <= xs.length /\ xs.length < sizeLine /\ Builtin.List.listFitsIndex i = true /\ Q .non (upd H l (.lst (xs.take i.toNat ++ y :: xs.drop i.toNat)))
theorem kk0 {i : Nat} (h : i <= big) : Builtin.List.listFitsIndex (Int.ofNat i) = true := by
 have h0 : (0 : Int) <= Int.ofNat i := Int.natCast_nonneg i
 have h1 : Int.ofNat i <= 1000000 := Int.ofNat_le.mpr h
 exact fitsIndex_both (k := Int.ofNat i) (by omega) (by omega)
theorem mt0 {its : List Value} {w : Value} {x : Int} (h0 : 0 <= x) (h1 : x.toNat <= its.length) : (fun xs : Array Value => have k := if x < 0 then (x + ((xs.size : Nat) : Int)).toNat else min x.toNat xs.size; (xs.extract 0 k).push w ++ xs.extract k) its.toArray = (its.take x.toNat ++ w :: its.drop x.toNat).toArray := by
 have e1 : ¬ (x < 0) := by omega
 have e2 : min x.toNat its.length = x.toNat := by omega
 show (its.toArray.extract 0 (if x < 0 then (x + ((its.toArray.size : Nat) : Int)).toNat else min x.toNat its.toArray.size)).push w ++ its.toArray.extract (if x < 0 then (x + ((its.toArray.size : Nat) : Int)).toNat else min x.toNat its.toArray.size) = _
 rw [if_neg e1, List.size_toArray, e2]
 simp
 rw [List.take_of_length_le (by rw [List.length_drop]; omega)]
theorem ju0 {X : Cx} : MtM X "list.insert" lN0 := by
 intro pins s σ H x vs v us Q I rx rv h
 obtain ⟨l, xs, i, y, rfl, rfl, hH, h0, hi, hz, hf, q⟩ := h
 cases rx
 obtain ⟨u, w, rfl, ⟨t, ru⟩, rw'⟩ := rv.two
 subst ru
 obtain ⟨z, its, n, r, hl, e⟩ := I.lstM hH
 have hz2 : (xs.take i.toNat ++ y :: xs.drop i.toNat).length <= sizeLine := by
  rw [List.length_append, List.length_cons, List.length_take, List.length_drop]
  omega
 have J := I.lset (t' := s.toks) (f := fun xs : Array Value => have k := if i < 0 then (i + ((xs.size : Nat) : Int)).toNat else min i.toNat xs.size; (xs.extract 0 k).push w ++ xs.extract k) hH e (mt0 (w := w) h0 (by rw [<- hl]; exact hi)) ((r.take i.toNat).append (.cons rw' (r.drop i.toNat))) hz2
 exact call_meets PySem.F.slot_list_insert ⟨_, e, rfl⟩ PySem.F.entry_list_insert (PySem.F.args_list_insert_3 _ _ _) (PySem.AutoSeq1.list_insert_list_int_val_1 l its.toArray n i t w (by simp [hf]) (by rw [List.size_toArray, <- hl]; exact Nat.le_of_lt hz)) ⟨e, ⟨.non, _, J, rfl, q⟩⟩
def sIns (i : Nat) (fk fv : En -> Option T) : En -> Option Fl := fun ε => match ε[i]? with
 | some (.ow (.lst ts)) => match fk ε with
  | some (.int (.ofNat k)) => (fv ε).bind fun t => if k <= ts.length /\ ts.length < big then some (.nx (ε.set i (.ow (.lst (ts.take k ++ t :: ts.drop k))))) else none
  | _ => none
 | _ => none
section
variable {X : Cx} {Y : Fx} {e d : Expr} {pos px : Pos} {f g : En -> Option T} {i : Nat} {x : Str} {apos cpos : Pos}
theorem jo0 (hx : PE X (.Name x px) (tVar i)) (hk : SE X Y d g) (he : SE X Y e f)
  (hbase : attributeBase (.Name x px) "insert" X.env (eval (.Name x px) X.env) = eval (.Name x px) X.env := by rfl)
  (hfew : ((backTo cpos (starEach [d, e] X.env)).all (fun x => !x.1) && (backToKw cpos (keywordEach [] X.env)).all (fun x => x.1.isSome)
   && decide (([d, e] : List Expr).length + ([] : List Keyword).length + (if ([] : List Keyword).isEmpty then 0 else 1) < 30)) = true := by rfl)
  (hline : (apos.endLine == cpos.line) = true := by rfl) (hs : starEach [d, e] X.env = (false, eval d X.env) :: starEach [e] X.env := by rfl) (hs1 : starEach [e] X.env = [(false, eval e X.env)] := by rfl) (hpl : (backTo cpos (starEach [e] X.env)).any (·.1) = false := by rfl)
  (hsw : swapsWith (.Call (.Attribute (.Name x px) "insert" apos) [d, e] [] cpos) none pos.line X.env = pure false := by rfl) :
  SS X Y (.Expr (.Call (.Attribute (.Name x px) "insert" apos) [d, e] [] cpos) pos) (sIns i g f) :=
 PS.imp (eP0 (jK0 PySem.F.plainAttrs_list PySem.F.slot_list_insert PySem.F.type_list_insert ju0 hx (bu0 hk (bu0 he cN0 hs1) hs) hbase hfew hline hs hpl) hsw) fun D σ H ⟨F, ε, fl, r, hg, k⟩ => by
  unfold sIns at hg
  split at hg
  ·rename_i ts e1
   obtain ⟨a, s1, nf, h0, hr⟩ := r.ow i _ e1
   split at hg
   ·rename_i kk qk
    cases q : f ε with
    | none => rw [q] at hg; cases hg
    | some t =>
     rw [q] at hg
     simp only [Option.bind_some] at hg
     split at hg
     ·rename_i hb
      cases hg
      obtain ⟨xs, ha, rs⟩ := hr.lst_
      refine ⟨_, s1, .inl ⟨rfl, xs, SqL.of ha⟩, F, ε, _, r, qk, fun F0 v0 H0 m0 r0 => ⟨F0, ε, t, r.mono m0, q, fun F1 v H1 m1' r1 => ?_⟩⟩
      have m1 := m0.trans m1'
      cases (Rb.v r0).int_
      refine ⟨a, xs, Int.ofNat kk, v, rfl, rfl, m1.ext _ _ ha, Int.natCast_nonneg kk, by rw [rs.length]; exact hb.1, hj0 (by rw [rs.length]; exact hb.2), kk0 (Nat.le_of_lt (Nat.lt_of_le_of_lt hb.1 hb.2)), ?_⟩
      have hne : ∀ ys, H1 a ≠ some (.tup ys) := fun ys z => by rw [m1.ext _ _ ha] at z; cases z
      have kp : Keep F1 H1 F1 (upd H1 a (.lst (xs.take kk ++ v :: xs.drop kk))) := by
       have nf1 : ¬ F1 a := fun z => (m1.new a z).elim nf fun w => by rw [ha] at w; cases w
       exact ⟨fun _ h => h, fun b u f q => by rw [ao0 (fun (z : b = a) => nf1 (z ▸ f))]; exact q, fun b ys q => by rw [ao0 (fun (z : b = a) => hne ys (z ▸ q))]; exact q⟩
      obtain ⟨r2, k2⟩ := (r.mono m1).write (o := .lst (xs.take kk ++ v :: xs.drop kk)) (t' := .lst (ts.take kk ++ t :: ts.drop kk)) e1 s1 hne (.lst aq0 ((((rs.keep m1.keep).take kk).append (.cons r1 ((rs.keep m1.keep).drop kk))).keep kp))
      exact k F1 σ _ (m1.keep.trans k2) r2
     ·cases hg
   ·cases hg
  ·cases hg
end
def rDPop : V -> List V -> Hp -> VK -> Prop := fun x vs H Q => ∃ l kvs k v, x = .ref l /\ vs = [kV k] /\ H l = some (.dK kvs) /\ valV kvs k = some v /\ Q v (upd H l (.dK (eu0 kvs k)))
theorem ls0 {X : Cx} : MtM X "dict.pop" rDPop := by
 intro pins s σ H x vs v us Q I rx rv h
 obtain ⟨l, kvs, k, w, rfl, rfl, hH, hv, q⟩ := h
 cases rx
 obtain ⟨u, rfl, ru⟩ := rv.one
 exact d_pop I hH ru hv (.inl rfl) fun w' s' I' rw' => ⟨w, _, I', rw', q⟩
def et0 (kts : List (Str × T)) (k : Str) : List (Str × T) := kts.filter fun kv => decide (kv.1 ≠ k)
theorem Rpk.drop {F : Addr -> Prop} {H : Hp} {k : Str} : ∀ {kvs : List (Key × V)} {kts : List (Str × T)}, Rpk F H kvs kts -> Rpk F H (eu0 kvs (Sum.inr k)) (et0 kts k)
 | _, _, .nil => .nil
 | _, _, .cons (k := k0) (v := v) (t := t) (vs := vs) (ts := ts) h r => by
  have ih := Rpk.drop (k := k) r
  unfold eu0 et0 at ih ⊢
  by_cases e : k0 = k
  ·rw [List.filter_cons_of_neg (by simp [e]), List.filter_cons_of_neg (by simp [e])]
   exact ih
  ·rw [List.filter_cons_of_pos (by simp [e]), List.filter_cons_of_pos (by simp [e])]
   exact .cons h ih
def iK0 (i : Nat) (f : En -> Option T) : En -> Option Fl := fun ε => match ε[i]? with
 | some (.ow (.dct kts)) => match f ε with
  | some (.str k) => match kts.lookup k with
   | some _ => some (.nx (ε.set i (.ow (.dct (et0 kts k)))))
   | none => none
  | _ => none
 | _ => none
section
variable {X : Cx} {Y : Fx} {e d : Expr} {pos px : Pos} {f g : En -> Option T} {i : Nat} {x : Str} {apos cpos : Pos}
theorem lm0 (hx : PE X (.Name x px) (tVar i)) (he : SE X Y e f)
  (hbase : attributeBase (.Name x px) "pop" X.env (eval (.Name x px) X.env) = eval (.Name x px) X.env := by rfl)
  (hfew : ((backTo cpos (starEach [e] X.env)).all (fun x => !x.1) && (backToKw cpos (keywordEach [] X.env)).all (fun x => x.1.isSome)
   && decide (([e] : List Expr).length + ([] : List Keyword).length + (if ([] : List Keyword).isEmpty then 0 else 1) < 30)) = true := by rfl)
  (hline : (apos.endLine == cpos.line) = true := by rfl) (hs : starEach [e] X.env = [(false, eval e X.env)] := by rfl) (hsw : swapsWith (.Call (.Attribute (.Name x px) "pop" apos) [e] [] cpos) none pos.line X.env = pure false := by rfl) :
  SS X Y (.Expr (.Call (.Attribute (.Name x px) "pop" apos) [e] [] cpos) pos) (iK0 i f) :=
 PS.imp (eP0 (jK0 PySem.F.plainAttrs_dict PySem.F.slot_dict_pop PySem.F.type_dict_pop ls0 hx (bu0 he cN0 hs) hbase hfew hline hs rfl) hsw) fun D σ H ⟨F, ε, fl, r, hg, k⟩ => by
  unfold iK0 at hg
  split at hg
  ·rename_i kts e1
   obtain ⟨a, s1, nf, h0, hr⟩ := r.ow i _ e1
   split at hg
   ·rename_i ks qk
    split at hg
    ·rename_i w ql
     cases hg
     obtain ⟨xs, ha, rs⟩ := hr.dct_
     refine ⟨_, s1, .inr (.inr (.inl ⟨rfl, .inl ⟨_, ha⟩⟩)), F, ε, _, r, qk, fun F1 v H1 m1 r1 => ?_⟩
     cases (Rb.v r1).str_
     obtain ⟨v0, hv0, _⟩ := rs.val ql
     refine ⟨a, xs, Sum.inr ks, v0, rfl, rfl, m1.ext _ _ ha, hv0, ?_⟩
     have hne : ∀ ys, H1 a ≠ some (.tup ys) := fun ys z => by rw [m1.ext _ _ ha] at z; cases z
     have kp : Keep F1 H1 F1 (upd H1 a (.dK (eu0 xs (Sum.inr ks)))) := by
      have nf1 : ¬ F1 a := fun z => (m1.new a z).elim nf fun w => by rw [ha] at w; cases w
      exact ⟨fun _ h => h, fun b u f q => by rw [ao0 (fun (z : b = a) => nf1 (z ▸ f))]; exact q, fun b ys q => by rw [ao0 (fun (z : b = a) => hne ys (z ▸ q))]; exact q⟩
     obtain ⟨r2, k2⟩ := (r.mono m1).write (o := .dK (eu0 xs (Sum.inr ks))) (t' := .dct (et0 kts ks)) e1 s1 hne (.dct aq0 (((rs.keep m1.keep).drop).keep kp))
     exact k F1 σ _ (m1.keep.trans k2) r2
    ·cases hg
   ·cases hg
  ·cases hg
end
def ik0 (x : Str) (f : En -> Option T) : En -> Option T := fun ε => (f ε).map fun t => .dct [(x, t)]
section
variable {X : Cx} {Y : Fx} {e : Expr} {pos px : Pos} {f : En -> Option T} {x : Str} {n : Nat}
theorem gy0 (he : SE X Y e f) : FE X Y (.Dict [some (.Constant (.str x) n px)] [e] pos) (ik0 x f) := PE.imp (mq0 (kt0 jj0 he lt0) rfl rfl (fun z => nomatch z) (Nat.le_of_ble_eq_true rfl)) fun σ H Q ⟨F, ε, u, r, hf, k⟩ => by
 unfold ik0 at hf
 cases q : f ε with
 | none => rw [q] at hf; cases hf
 | some t =>
  rw [q] at hf
  cases hf
  intro p hp
  have ml := Mono.laid (o := .dK []) r.trk hp
  refine ⟨F, ε, t, r.mono ml, q, fun F1 v H1 m1 r1 => ⟨m1.ext p _ aq0, [(Sum.inr x, v)], rfl, Nat.le_of_ble_eq_true rfl, ?_⟩⟩
  have hp1 : H1 p = some (.dK []) := m1.ext p _ aq0
  have nf : ¬ F1 p := fun z => by
   rcases m1.new p z with z | z
   ·obtain ⟨o, w⟩ := r.trk p z
    rw [hp] at w; cases w
   ·rw [aq0] at z; cases z
  have m := ml.trans m1
  have kp : Keep F1 H1 F1 (upd H1 p (.dK (eq0 [] [(Sum.inr x, v)]))) := ⟨fun _ h => h, fun b u f q => by rw [ao0 (fun (z : b = p) => nf (z ▸ f))]; exact q, fun b ys q => by rw [ao0 (fun (z : b = p) => by rw [z, hp1] at q; cases q)]; exact q⟩
  have m2 : Mono F H F1 (upd H1 p (.dK (eq0 [] [(Sum.inr x, v)]))) := ⟨fun b o q => by rw [ao0 (au0 q hp)]; exact m.ext b o q, m.sub, m.new, fun b fb => let ⟨o, w⟩ := m.trk b fb; ⟨o, by rw [ao0 (fun (z : b = p) => nf (z ▸ fb))]; exact w⟩⟩
  exact k F1 p _ m2 hp nf (.dct aq0 (.cons (r1.keep kp) .nil))
end
def frzD (i : Nat) (ε : En) : En := match ε[i]? with | some (.ow (.dct kts)) => ε.set i (.sh (.dct kts)) | _ => ε
section
variable {X : Cx} {Y : Fx} {st : Stmt} {g : En -> Option Fl}
theorem lJ0 (i : Nat) (h : SS X Y st g) : SS X Y st (fun ε => g (frzD i ε)) := by
 intro pins s σ H D I ⟨F, ε, fl, r, hg, k⟩
 have hg : g (frzD i ε) = some fl := hg
 unfold frzD at hg
 split at hg
 ·rename_i kts e
  obtain ⟨a, sa, nf, h0, hr⟩ := r.ow i _ e
  obtain ⟨kvs, ha, rs⟩ := hr.dct_
  have z1 : ∀ o u, X.H₀ a ≠ some (.frz o u) := fun o u z => by have := I.base.frzs a o u z; rw [ha] at this; cases this
  have z2 : ∀ xs, X.H₀ a ≠ some (.tup xs) := fun xs z => by have := I.base.tups a xs z; rw [ha] at this; cases this
  have z3 : ∀ ps, X.H₀ a ≠ some (.tbl ps) := fun ps z => by obtain ⟨mo, w⟩ := I.base.tbls a ps z; rw [ha] at w; cases w
  obtain ⟨ob, I2⟩ := I.seal ha (.inr trivial) z1 z2 z3
  have up : ∀ b u, H b = some u -> b ≠ a -> upd H a (.frz ob (.dK kvs)) b = some u := fun b u q n => by rw [ao0 n]; exact q
  have kp : Keep F H (fun b => F b \/ b = a) (upd H a (.frz ob (.dK kvs))) := ⟨fun _ h => .inl h, fun b u f q => up b u q fun z => nf (z ▸ f), fun b xs q => up b _ q fun z => by rw [z, ha] at q; cases q⟩
  refine h pins s σ _ D I2 ⟨fun b => F b \/ b = a, _, fl, ⟨by rw [List.length_set]; exact r.len, fun j u q => ?_, fun j u q => ?_, fun j k' u w b ne e1 e2 s1 s2 => ?_, fun b o q => ?_, fun b f => .inl (r.sub b f), fun b f => ?_, fun b f => ?_, fun j u b q hi s1 => ?_, fun j v' u q => ?_⟩, hg, k.keep kp⟩
  ·rcases aw0 q with ⟨rfl, hl, q⟩ | ⟨ne, q⟩
   ·cases q; exact ⟨_, sa, .dct (.inr rfl) aq0 (rs.keep kp)⟩
   ·obtain ⟨v', h1, h2⟩ := r.sh j u q
    exact ⟨v', h1, h2.keep kp⟩
  ·rcases aw0 q with ⟨rfl, hl, q⟩ | ⟨ne, q⟩
   ·cases q
   ·obtain ⟨b, h1, h2, h3, h4⟩ := r.ow j u q
    have nba : b ≠ a := fun z => r.inj j i u _ a ne q e (z ▸ h1) sa
    exact ⟨b, h1, fun z => z.elim h2 nba, h3, h4.keep kp (ao0 nba)⟩
  ·rcases aw0 e1 with ⟨rfl, hl, q⟩ | ⟨n1, q1⟩
   ·cases q
   ·rcases aw0 e2 with ⟨rfl, hl2, q2⟩ | ⟨n2, q2⟩
    ·cases q2
    ·exact r.inj j k' u w b ne q1 q2 s1 s2
  ·exact up b o (r.same b o q) fun z => by rw [z, h0] at q; cases q
  ·exact f.elim (r.new b) fun z => .inr (z ▸ h0)
  ·by_cases z : b = a
   ·exact ⟨_, by rw [z]; exact aq0⟩
   ·rcases f with f | f
    ·obtain ⟨o, w⟩ := r.trk b f
     exact ⟨o, up b o w z⟩
    ·exact absurd f z
  ·rcases aw0 q with ⟨rfl, hl, q⟩ | ⟨ne, q⟩
   ·cases q
   ·exact r.me j u b q hi s1
  ·rcases aw0 q with ⟨rfl, hl, q⟩ | ⟨ne, q⟩
   ·cases q
   ·obtain ⟨h1, h2⟩ := r.fx j v' u q
    exact ⟨h1, h2.keep kp⟩
 ·exact h pins s σ H D I ⟨F, ε, fl, r, hg, k⟩
end
structure ICls (K : PySem.W.Frag) (C : Addr) : Prop where
 cl : Cls K C
 at_ : PySem.W.findIn K (.ref C) "__class__" = some (some (.builtin "object.__class__"))
 sp : PySem.W.specialIn K (.builtin "object.__class__") "__get__" = some (some (.builtin "getset_descriptor.__get__"))
 tk : PySem.W.takesIn K (.builtin "object.__class__") = some true
 mro : PySem.W.mroIn K C (.type "object") = some true
 ki : PySem.W.kitOne K (.ref C) (.ref C) = some true
def eIsI (C : Addr) (f : En -> Option T) : En -> Option T := fun ε => match f ε with
 | some (.ins C' _) => if C' = C then some (.bl true) else none
 | _ => none
section
variable {X : Cx} {Y : Fx} {a : Expr} {pos p p2 : Pos} {f : En -> Option T} {C : Addr} {x : Str}
theorem jI0 (ic : ICls X.K C) : cM0 X (.builtin "isinstance") (fun xs H Q => ∃ y dx fs, xs = [.ref y, .ref C] /\ H y = some (.ins C dx fs) /\ Q (.bl true) H) := by
 intro pins s σ H xs us Q I r h
 obtain ⟨y, dx, fs, rfl, hy, q⟩ := h
 obtain ⟨u1, u2, rfl, r1, r2⟩ := jw0 r
 cases r1
 cases r2
 exact gc0 (x := .ref y) I rfl (.ins hy ic.cl ic.at_ ic.sp ic.tk ic.mro) ic.ki fun tk => ⟨.bl true, H, I.tok _, rfl, q⟩
theorem mX0 (ic : ICls X.K C) (hg : Gl X "isinstance") (hm : X.mg "isinstance" = none) (hgx : Gl X x) (hmx : X.mg x = some (.ref C)) (ha : BE X Y a f)
  (hv : bootBuiltins "isinstance" = some (.builtin "isinstance") := by rfl) (hdb : (x == ("__debug__" : Str)) = false := by decide)
  (he : starEach [a, .Name x p2] X.env = [(false, eval a X.env), (false, eval (.Name x p2) X.env)] := by rfl) (hpl : (backTo pos (starEach [.Name x p2] X.env)).any (·.1) = false := by rfl) :
  SE X Y (.Call (.Name "isinstance" p) [a, .Name x p2] [] pos) (eIsI C f) :=
 PE.imp (di0 (jI0 ic) hg hm hv (bu0 ha (bu0 (gn0 (v := .ref C) hgx hmx rfl hdb) cN0 rfl) he) (by decide) (by decide) he hpl) fun σ H Q ⟨F, ε, u, rl, hf, k⟩ => by
  unfold eIsI at hf
  split at hf
  ·rename_i C' fs q
   split at hf
   ·rename_i hc
    subst hc
    cases hf
    refine ⟨F, ε, _, rl, q, fun F' v H' m r => ?_⟩
    obtain ⟨y, dx, xs, rfl, hy, _⟩ := r.ins_
    exact ⟨y, dx, xs, rfl, hy, k F' _ H' m (.bl true)⟩
   ·cases hf
  ·cases hf
end
end L2.BD
set_option Elab.async false
set_option linter.all false
set_option maxRecDepth 100000
set_option maxHeartbeats 4000000
namespace Bed1
open PySem PySem.Spec PyProof.Rows L2 L2.BD
seal PE PT PW PA PS PSs PI PG PGs PIf PO
abbrev v6 : Stmt := top 32
def Wc0 : List Str := ["e", "found"]
def x3 : List Str := ["e"]
def z8 (C BG : Addr) : En -> Option Fl := (sSeq (sSet 1 (eLst (ab0 (eIsX BG true (bVar 0)) (ab0 (eIsX BG false (bVar 0)) aNil))))
  (sSeq (sIf (qOr (qNot (qB (eIsX BG true (bVar 0)))) (qOr (qNot (qB (eIsX BG true (bVar 0)))) (qB (e2 φNe (eBM eM0 (bVar 1) (ab0 (eC (.bl true)) aNil)) (eC (.int 1)))))) (sRet false (e1 φNeg (eC (.int 1)))) sNx)
  (sRet false (eBM cv0 (bVar 1) (ab0 (eC (.bl true)) aNil)))))
def Z3 (C BG : Addr) : List T -> Option (Bool × T) := fnT Wc0 1 (z8 C BG)
abbrev y6 : Stmt := top 24
def Vc0 : List Str := ["script", "k"]
def Q3 : List Str := ["script", "k"]
def q8 (C : Addr) : En -> Option Fl := (sSeq (sIf (qB (e2 φLt (bVar 1) (av0 φLen (ab0 (bVar 0) aNil)))) (sRet false (e2 φIx (bVar 0) (bVar 1))) sNx)
  (sRet false (eC (.int 0))))
def X1 (C : Addr) : List T -> Option (Bool × T) := fnT Vc0 2 (q8 C)
abbrev Z6 : Stmt := top 25
def Yc0 : List Str := ["script", "k"]
def W0 : List Str := ["script", "k"]
def j8 (C : Addr) : En -> Option Fl := (sRet false (e2 φMod (e2 φMul (e2 φAdd (eFn (X1 C) (ab0 (eVar 0) (ab0 (e2 φMod (bVar 1) (eC (.int 61))) aNil))) (e2 φMul (eC (.int 7919)) (bVar 1))) (e2 φAdd (eC (.int 48271)) (e2 φMul (eC (.int 2)) (bVar 1)))) (eC (.int 2147483647))))
def z0 (C : Addr) : List T -> Option (Bool × T) := fnT Yc0 2 (j8 C)
abbrev Q6 : Stmt := top 30
def Xc0 : List Str := ["script", "most", "cell"]
def J3 : List Str := ["script", "most"]
def k8 (C : Addr) : En -> Option Fl := (sSeq (sSet 2 (eFn (z0 C) (ab0 (eVar 0) (ab0 (eC (.int 8)) aNil))))
  (sSeq (sIf (qB (e2 φEq (bVar 1) (eC (.int 3)))) (sRet false (e2 φAdd (eC (.int 1)) (e2 φMod (bVar 2) (eC (.int 3))))) sNx)
  (sSeq (sIf (qAnd (qB (e2 φEq (bVar 1) (eC (.int 2)))) (qB (e2 φEq (e2 φMod (bVar 2) (eC (.int 8))) (eC (.int 7))))) (sRet false (eC (.int 3))) sNx)
  (sRet false (e2 φAdd (eC (.int 1)) (e2 φMod (bVar 2) (eC (.int 2))))))))
def K3 (C : Addr) : List T -> Option (Bool × T) := fnT Xc0 2 (k8 C)
abbrev J6 : Stmt := top 27
def zd0 : List Str := ["script", "k", "names", "gaps", "bars", "j", "harvest", "change"]
def W3 : List Str := ["script", "k", "names", "gaps"]
def v8 (C : Addr) : En -> Option Fl := (sSeq (cw0 4 (eLst aNil))
  (sSeq (sFor (bt0 (ab0 (av0 φLen (ab0 (bVar 2) aNil)) aNil)) (aA0 5) (sIf (qB (e2 φEq (e2 φMod (eFn (z0 C) (ab0 (eVar 0) (ab0 (e2 φAdd (e2 φAdd (eC (.int 20)) (e2 φMul (eC (.int 10)) (bVar 1))) (bVar 5)) aNil))) (eC (.int 5))) (eC (.int 1)))) (sApp 4 (e2 φIx (bVar 2) (bVar 5))) sNx))
  (sSeq (sSet 6 (e2 φMod (eFn (z0 C) (ab0 (eVar 0) (ab0 (e2 φAdd (eC (.int 26)) (e2 φMul (eC (.int 10)) (bVar 1))) aNil))) (e2 φIx (eLst (ab0 (eC (.int 10)) (ab0 (eC (.int 3)) (ab0 (eC (.int 1001)) aNil)))) (e2 φMod (eFn (z0 C) (ab0 (eVar 0) (ab0 (eC (.int 9)) aNil))) (eC (.int 3))))))
  (sSeq (sSet 7 (e2 φSub (e2 φMod (eFn (z0 C) (ab0 (eVar 0) (ab0 (e2 φAdd (eC (.int 27)) (e2 φMul (eC (.int 10)) (bVar 1))) aNil))) (eC (.int 7))) (eC (.int 3))))
  (fun ε => (sRet false (eTup (ab0 (e2 φIx (bVar 2) (bVar 1)) (ab0 (eVar 7) (ab0 (eVar 6) (ab0 (e2 φMod (eFn (z0 C) (ab0 (eVar 0) (ab0 (e2 φAdd (eC (.int 28)) (e2 φMul (eC (.int 10)) (bVar 1))) aNil))) (e2 φAdd (bVar 3) (eC (.int 1)))) (ab0 (eVar 4) aNil))))))) (frz 4 ε))))))
def j2 (C : Addr) : List T -> Option (Bool × T) := fnT zd0 4 (v8 C)
abbrev K6 : Stmt := top 28
def qd0 : List Str := ["script", "names", "beds", "wants", "k", "cell", "least"]
def V3 : List Str := ["script", "names", "beds"]
def y8 (C : Addr) : En -> Option Fl := (sSeq (cw0 3 km0)
  (sSeq (sFor (bt0 (ab0 (av0 φLen (ab0 (bVar 1) aNil)) aNil)) (aA0 4) (sSeq (sSet 5 (eFn (z0 C) (ab0 (eVar 0) (ab0 (e2 φAdd (eC (.int 80)) (bVar 4)) aNil))))
  (sIf (qB (e2 φEq (e2 φMod (bVar 5) (eC (.int 5))) (eC (.int 1)))) (sSeq (sSet 6 (e2 φIx (eLst (ab0 (eC (.int 0)) (ab0 (eC (.int 0)) (ab0 (eC (.int 1)) (ab0 (eVar 2) aNil))))) (e2 φMod (e2 φDiv (bVar 5) (eC (.int 5))) (eC (.int 4)))))
  (sDPut 3 (e2 φIx (bVar 1) (bVar 4)) (eTup (ab0 (eVar 6) (ab0 (av0 hI0 (ab0 (eC (.int 3)) (ab0 (e2 φAdd (bVar 6) (e2 φMod (e2 φDiv (bVar 5) (eC (.int 20))) (e2 φAdd (bVar 2) (eC (.int 1))))) aNil))) aNil))))) sNx)))
  (jN0 3)))
def Y3 (C : Addr) : List T -> Option (Bool × T) := fnT qd0 3 (y8 C)
abbrev X3 : Stmt := top 29
def W5 : List Str := ["script", "beds", "mode", "top", "many", "gaps", "turn", "names", "crops", "soils"]
def j4 : List Str := ["script", "beds"]
def x8 (C : Addr) : En -> Option Fl := (sSeq (sSet 2 (e2 φMod (eFn (z0 C) (ab0 (eVar 0) (ab0 (eC (.int 1)) aNil))) (eC (.int 8))))
  (sSeq (sSet 3 (e2 φIx (eLst (ab0 (eC (.int 1)) (ab0 (eC (.int 2)) (ab0 (eC (.int 3)) (ab0 (eC (.int 3)) (ab0 (eC (.int 2)) (ab0 (eC (.int 5)) (ab0 (eC (.int 4)) (ab0 (eC (.int 1)) aNil))))))))) (bVar 2)))
  (sSeq (sSet 4 (e2 φIx (eLst (ab0 (eC (.int 4)) (ab0 (eC (.int 3)) (ab0 (eC (.int 4)) (ab0 (eC (.int 3)) (ab0 (eC (.int 2)) (ab0 (eC (.int 2)) (ab0 (eC (.int 2)) (ab0 (eC (.int 3)) aNil))))))))) (bVar 2)))
  (sSeq (sSet 5 (e2 φIx (eLst (ab0 (eC (.int 1)) (ab0 (eC (.int 2)) (ab0 (eC (.int 2)) (ab0 (eC (.int 1)) (ab0 (eC (.int 3)) (ab0 (eC (.int 2)) (ab0 (eC (.int 3)) (ab0 (eC (.int 3)) aNil))))))))) (bVar 2)))
  (sSeq (sIf (qB (e2 φGt (bVar 1) (eC (.int 1)))) (sSeq (sSet 3 (eC (.int 1)))
  (sSeq (sSet 4 (e2 φAdd (eC (.int 1)) (e2 φMod (eFn (z0 C) (ab0 (eVar 0) (ab0 (eC (.int 2)) aNil))) (eC (.int 2)))))
  (sSet 5 (e2 φMod (eFn (z0 C) (ab0 (eVar 0) (ab0 (eC (.int 4)) aNil))) (eC (.int 2)))))) sNx)
  (sSeq (sSet 6 (e2 φMod (eFn (z0 C) (ab0 (eVar 0) (ab0 (eC (.int 3)) aNil))) (eC (.int 5))))
  (sSeq (sSet 7 (eLst (ab0 (eC (.str "bean")) (ab0 (eC (.str "rye")) (ab0 (eC (.str "kale")) (ab0 (eC (.str "oat")) (ab0 (eC (.str "pea")) aNil)))))))
  (sSeq (sSet 7 (eSlL (e2 cV0 (eSlL (bVar 7) (bk0 (some (bVar 6))) (bk0 none)) (eSlL (bVar 7) (bk0 none) (bk0 (some (bVar 6))))) (bk0 none) (bk0 (some (bVar 4)))))
  (sSeq (sSet 8 (aZ0 1 (bt0 (ab0 (bVar 4) aNil)) (aA0 0) bv0 (eFn (j2 C) (ab0 (eVar 1) (ab0 (eVar 0) (ab0 (eVar 8) (ab0 (eVar 6) aNil)))))))
  (sSeq (sSet 9 (aZ0 1 (bt0 (ab0 (bVar 1) aNil)) (aA0 0) bv0 (e2 φMod (eFn (z0 C) (ab0 (eVar 1) (ab0 (e2 φAdd (eC (.int 5)) (bVar 0)) aNil))) (e2 φAdd (bVar 4) (eC (.int 1))))))
  (sRet false (eTup (ab0 (eVar 9) (ab0 (eVar 3) (ab0 (eVar 8) (ab0 (eFnF (Y3 C) (ab0 (eVar 0) (ab0 (eVar 7) (ab0 (eVar 1) aNil)))) aNil))))))))))))))))
def w4 (C : Addr) : List T -> Option (Bool × T) := fnT W5 2 (x8 C)
abbrev V5 : Stmt := top 31
def h8 : List Str := ["plot", "crops"]
def v4 : List Str := ["plot"]
def Z8 (C : Addr) : En -> Option Fl := (sSeq (sSet 1 (aZ0 1 (iLst (e2 φIx (bVar 0) (eC (.int 2)))) (aA0 0) bv0 (e2 ic0 (eSlT (bVar 0) (bk0 none) (bk0 (some (eC (.int 4))))) (eTup (ab0 (av0 cU0 (ab0 (e2 φIx (bVar 0) (eC (.int 4))) aNil)) aNil)))))
  (sRet true (eLst (ab0 (av0 cU0 (ab0 (e2 φIx (bVar 0) (eC (.int 0))) aNil)) (ab0 (e2 φIx (bVar 0) (eC (.int 1))) (ab0 (eVar 1) (ab0 (av0 hN0 (ab0 (e2 φIx (bVar 0) (eC (.int 3))) aNil)) aNil)))))))
def V1 (C : Addr) : List T -> Option (Bool × T) := fnT h8 1 (Z8 C)
abbrev W6 : Stmt := top 13
def jd0 : List Str := ["value", "least", "most"]
def y4 : List Str := ["value", "least", "most"]
def Q8 (C : Addr) : En -> Option Fl := (sSeq (sIf (qOr (qB (eIs "bool" (bVar 0))) (qNot (qB (eIs "int" (bVar 0))))) (sRet false (eC (.bl false))) sNx)
  (sRet false (bR0 φLe φLe (bVar 1) (bVar 0) (bVar 2))))
def Z2 (C : Addr) : List T -> Option (Bool × T) := fnT jd0 3 (Q8 C)
abbrev V6 : Stmt := top 14
def kd0 : List Str := ["value", "least", "most", "what"]
def j1 : List Str := ["value", "least", "most", "what"]
def J8 (C BG : Addr) : En -> Option Fl := (sIf (qNot (qB (eFn (Z2 C) (ab0 (eVar 0) (ab0 (eVar 1) (ab0 (eVar 2) aNil)))))) (ef0 BG (cFs 3 1 2)) sNx)
def y0 (C BG : Addr) : List T -> Option Out := fnX kd0 4 (J8 C BG)
abbrev Y6 : Stmt := top 16
def wd0 : List Str := ["soils", "top", "soil"]
def Z4 : List Str := ["soils", "top"]
def vd0 (C BG : Addr) : En -> Option Fl := (aM0 (eFnX (y0 C BG) (ab0 (eVar 2) (ab0 (eC (.int 0)) (ab0 (eVar 1) (ab0 (eC (.str "the soil of a bed")) aNil))))))
def Xa0 (C BG : Addr) : En -> Option Fl := (sSeq (aM0 (eFnX (y0 C BG) (ab0 (eVar 1) (ab0 (eC (.int 1)) (ab0 (eC (.int 5)) (ab0 (eC (.str "the top")) aNil))))))
  (sSeq (sIf (qNot (qB (eIs "list" (bVar 0)))) (ct0 BG (ab0 (eC (.str "the soils are not a list")) aNil)) sNx)
  (sSeq (aM0 (eFnX (y0 C BG) (ab0 (av0 φLen (ab0 (bVar 0) aNil)) (ab0 (eC (.int 1)) (ab0 (eC (.int 3)) (ab0 (eC (.str "the count of beds")) aNil))))))
  (sFor (iLst (eVar 0)) (aA0 2) (vd0 C BG)))))
def Q2 (C BG : Addr) : List T -> Option Out := fnX wd0 2 (Xa0 C BG)
abbrev X6 : Stmt := top 17
def yd0 : List Str := ["crop"]
def Q4 : List Str := ["crop"]
def zb0 (C BG : Addr) : En -> Option Fl := (sSeq (sIf (qOr (qNot (qB (eIs "tuple" (bVar 0)))) (qB (e2 φNe (av0 φLen (ab0 (bVar 0) aNil)) (eC (.int 5))))) (ct0 BG (ab0 (eC (.str "a crop is not a tuple of five")) aNil)) sNx)
  (sSeq (sIf (qOr (qNot (qB (eIs "str" (e2 φIx (bVar 0) (eC (.int 0)))))) (qB (e2 φEq (e2 φIx (bVar 0) (eC (.int 0))) (eC (.str ""))))) (ct0 BG (ab0 (eC (.str "the name of a crop is not a text, or is empty")) aNil)) sNx)
  (sSeq (aM0 (eFnX (y0 C BG) (ab0 (e2 φIx (bVar 0) (eC (.int 1))) (ab0 (e1 φNeg (eC (.int 3))) (ab0 (eC (.int 3)) (ab0 (eC (.str "the change of a crop")) aNil))))))
  (sSeq (aM0 (eFnX (y0 C BG) (ab0 (e2 φIx (bVar 0) (eC (.int 2))) (ab0 (eC (.int 0)) (ab0 (eC (.int 1000)) (ab0 (eC (.str "the harvest of a crop")) aNil))))))
  (sSeq (aM0 (eFnX (y0 C BG) (ab0 (e2 φIx (bVar 0) (eC (.int 3))) (ab0 (eC (.int 0)) (ab0 (eC (.int 3)) (ab0 (eC (.str "the gap of a crop")) aNil))))))
  (sIf (qNot (qB (eIs "list" (e2 φIx (bVar 0) (eC (.int 4)))))) (ct0 BG (ab0 (eC (.str "the bars of a crop are not a list")) aNil)) sNx))))))
def Y5 (C BG : Addr) : List T -> Option Out := fnX yd0 1 (zb0 C BG)
abbrev z7 : Stmt := top 15
def xd0 : List Str := ["name", "names"]
def J2 : List Str := ["name", "names"]
def qb0 (C BG : Addr) : En -> Option Fl := (sIf (qB (e2 (φIn true) (bVar 0) (bVar 1))) (ct0 BG (ab0 (eC (.str "a name of the bars or wants is that of no crop")) aNil)) sNx)
def W2 (C BG : Addr) : List T -> Option Out := fnX xd0 2 (qb0 C BG)
abbrev X5 : Stmt := top 20
def K8 : List Str := ["crops"]
def V2 : List Str := ["crops"]
def W8 (C : Addr) : En -> Option Fl := (sRet true (aZ0 1 (iLst (eVar 0)) (aA0 0) bv0 (e2 φIx (bVar 0) (eC (.int 0)))))
def V0 (C : Addr) : List T -> Option (Bool × T) := fnT K8 1 (W8 C)
abbrev j7 : Stmt := top 18
def hd0 : List Str := ["crops", "crop", "names", "name"]
def J4 : List Str := ["crops"]
def Zd0 (C BG : Addr) : En -> Option Fl := (aM0 (eFnX (Y5 C BG) (ab0 (eVar 1) aNil)))
def Qd0 (C BG : Addr) : En -> Option Fl := (aM0 (eFnX (W2 C BG) (ab0 (eVar 3) (ab0 (eVar 2) aNil))))
def Jd0 (C BG : Addr) : En -> Option Fl := (sFor (iLst (e2 φIx (bVar 1) (eC (.int 4)))) (aA0 3) (Qd0 C BG))
def jb0 (C BG : Addr) : En -> Option Fl := (sSeq (sIf (qNot (qB (eIs "list" (bVar 0)))) (ct0 BG (ab0 (eC (.str "the crops are not a list")) aNil)) sNx)
  (sSeq (aM0 (eFnX (y0 C BG) (ab0 (av0 φLen (ab0 (bVar 0) aNil)) (ab0 (eC (.int 1)) (ab0 (eC (.int 5)) (ab0 (eC (.str "the count of crops")) aNil))))))
  (sSeq (sFor (iLst (eVar 0)) (aA0 1) (Zd0 C BG))
  (sSeq (sSet 2 (eFnF (V0 C) (ab0 (eVar 0) aNil)))
  (sSeq (sIf (qB (e2 φNe (dt0 (bVar 2)) (av0 φLen (ab0 (bVar 2) aNil)))) (ct0 BG (ab0 (eC (.str "two crops have the same name")) aNil)) sNx)
  (sFor (iLst (eVar 0)) (aA0 1) (Jd0 C BG)))))))
def Y2 (C BG : Addr) : List T -> Option Out := fnX hd0 1 (jb0 C BG)
abbrev k7 : Stmt := top 19
def Kd0 : List Str := ["wants", "names", "name", "pair"]
def K4 : List Str := ["wants", "names"]
def Wd0 (C BG : Addr) : En -> Option Fl := (sSeq (aM0 (eFnX (W2 C BG) (ab0 (eVar 2) (ab0 (eVar 1) aNil))))
  (sSeq (sIf (qOr (qNot (qB (eIs "tuple" (bVar 3)))) (qB (e2 φNe (av0 φLen (ab0 (bVar 3) aNil)) (eC (.int 2))))) (fun _ => none) sNx)
  (sSeq (aM0 (eFnX (y0 C BG) (ab0 (e2 φIx (bVar 3) (eC (.int 1))) (ab0 (eC (.int 0)) (ab0 (eC (.int 3)) (ab0 (eC (.str "the most of a want")) aNil))))))
  (aM0 (eFnX (y0 C BG) (ab0 (e2 φIx (bVar 3) (eC (.int 0))) (ab0 (eC (.int 0)) (ab0 (e2 φIx (bVar 3) (eC (.int 1))) (ab0 (eC (.str "the least of a want")) aNil)))))))))
def kb0 (C BG : Addr) : En -> Option Fl := (sSeq (sIf (qNot (qB (eIs "dict" (bVar 0)))) (ct0 BG (ab0 (eC (.str "the wants are not a dict")) aNil)) sNx)
  (sFor (gd0 (eVar 0)) (db0 2 3) (Wd0 C BG)))
def W4 (C BG : Addr) : List T -> Option Out := fnX Kd0 2 (kb0 C BG)
abbrev j6 : Stmt := top 21
def V8 : List Str := ["some", "names"]
def V4 : List Str := ["some", "names"]
def Y8 (C : Addr) : En -> Option Fl := (sRet false (av0 bw0 (ab0 (aZ0 1 (iLst (eVar 0)) (aA0 0) bv0 (eBM cv0 (bVar 2) (ab0 (bVar 0) aNil))) aNil)))
def Z1 (C : Addr) : List T -> Option (Bool × T) := fnT V8 2 (Y8 C)
abbrev J1 : Stmt := bK0 (top 22) 0
def Q0 : List Str := ["self", "soils", "top", "crops", "wants", "names"]
def Y4 : List Str := ["self", "soils", "top", "crops", "wants"]
def v7 (C BG : Addr) : En -> Option Fl := (sSeq (aM0 (eFnX (Q2 C BG) (ab0 (eVar 1) (ab0 (eVar 2) aNil))))
  (sSeq (aM0 (eFnX (Y2 C BG) (ab0 (eVar 3) aNil)))
  (sSeq (sSet 5 (eFnF (V0 C) (ab0 (eVar 3) aNil)))
  (sSeq (aM0 (eFnX (W4 C BG) (ab0 (eVar 4) (ab0 (eVar 5) aNil))))
  (sSeq (cj0 C 0 "soils" (av0 bw0 (ab0 (bVar 1) aNil)))
  (sSeq (cj0 C 0 "top" (eVar 2))
  (sSeq (cj0 C 0 "changes" (av0 bw0 (ab0 (aZ0 1 (iLst (eVar 3)) (aA0 0) bv0 (e2 φIx (bVar 0) (eC (.int 1)))) aNil)))
  (sSeq (cj0 C 0 "harvests" (av0 bw0 (ab0 (aZ0 1 (iLst (eVar 3)) (aA0 0) bv0 (e2 φIx (bVar 0) (eC (.int 2)))) aNil)))
  (sSeq (cj0 C 0 "gaps" (av0 bw0 (ab0 (aZ0 1 (iLst (eVar 3)) (aA0 0) bv0 (e2 φIx (bVar 0) (eC (.int 3)))) aNil)))
  (sSeq (cj0 C 0 "bars" (av0 bw0 (ab0 (aZ0 1 (iLst (eVar 3)) (aA0 0) bv0 (eFn (Z1 C) (ab0 (e2 φIx (bVar 0) (eC (.int 4))) (ab0 (eVar 6) aNil)))) aNil)))
  (sSeq (cj0 C 0 "wants" (av0 bw0 (ab0 (aZ0 2 (gd0 (eVar 4)) (db0 0 1) bv0 (eTup (ab0 (eBM cv0 (bVar 7) (ab0 (bVar 0) aNil)) (ab0 (e2 φIx (bVar 1) (eC (.int 0))) (ab0 (e2 φIx (bVar 1) (eC (.int 1))) aNil))))) aNil)))
  (cj0 C 0 "depth" (av0 hD0 (ab0 (eC (.int 1)) (ab0 (av0 φMax (ab0 (eFld C "gaps" (bVar 0)) aNil)) aNil)))))))))))))))
def Y0 (C BG : Addr) : List T -> Option OutI := fnJ C Q0 5 (v7 C BG)
abbrev y7 : Stmt := top 36
def Vd0 : List Str := ["told", "found", "e"]
def X4 : List Str := ["told"]
def Z7 (C BG : Addr) : En -> Option Fl := (sSeq (sSet 1 (eC .non))
  (sSeq (fS0 1 2 BG (dz0 C (Y0 C BG) (ab0 (e2 φIx (bVar 0) (eC (.int 0))) (ab0 (e2 φIx (bVar 0) (eC (.int 1))) (ab0 (e2 φIx (bVar 0) (eC (.int 2))) (ab0 (e2 φIx (bVar 0) (eC (.int 3))) aNil))))))
  (sRet false (eVar 1))))
def Y1 (C BG : Addr) : List T -> Option (Bool × T) := fnT Vd0 1 (Z7 C BG)
abbrev Q7 : Stmt := top 35
def Yd0 : List Str := ["way", "crops", "some"]
def j5 : List Str := ["way"]
def wb0 (C : Addr) : En -> Option Fl := (sSeq (sSet 1 (eLst (ab0 (eTup (ab0 (eC (.str "a")) (ab0 (eC (.int 3)) (ab0 (eC (.int 1000)) (ab0 (eC (.int 3)) (ab0 (eLst (ab0 (eC (.str "a")) aNil)) aNil)))))) (ab0 (eTup (ab0 (eC (.str "b")) (ab0 (e1 φNeg (eC (.int 3))) (ab0 (eC (.int 0)) (ab0 (eC (.int 0)) (ab0 (eLst aNil) aNil)))))) (ab0 (eTup (ab0 (eC (.str "c")) (ab0 (eC (.int 0)) (ab0 (eC (.int 1)) (ab0 (eC (.int 0)) (ab0 (eLst (ab0 (eC (.str "a")) (ab0 (eC (.str "b")) aNil))) aNil)))))) aNil)))))
  (sSeq (sSet 1 (e2 cV0 (bVar 1) (eLst (ab0 (eTup (ab0 (eC (.str "d")) (ab0 (eC (.int 1)) (ab0 (eC (.int 1)) (ab0 (eC (.int 1)) (ab0 (eLst aNil) aNil)))))) (ab0 (eTup (ab0 (eC (.str "e")) (ab0 (eC (.int 1)) (ab0 (eC (.int 1)) (ab0 (eC (.int 1)) (ab0 (eLst aNil) aNil)))))) aNil)))))
  (sSeq (sSet 2 (eLst (ab0 (eLst (ab0 (eLst (ab0 (eC (.int 0)) (ab0 (eC (.int 0)) (ab0 (eC (.int 0)) aNil)))) (ab0 (eC (.int 5)) (ab0 (eVar 1) (ab0 km0 aNil))))) (ab0 (eLst (ab0 (eLst (ab0 (eC (.int 5)) aNil)) (ab0 (eC (.int 5)) (ab0 (eSlL (bVar 1) (bk0 none) (bk0 (some (eC (.int 1))))) (ab0 (ik0 "a" (eTup (ab0 (eC (.int 0)) (ab0 (eC (.int 3)) aNil)))) aNil))))) (ab0 (eLst (ab0 (eLst (ab0 (eC (.int 1)) aNil)) (ab0 (eC (.int 1)) (ab0 (eSlL (bVar 1) (bk0 (some (eC (.int 1)))) (bk0 (some (eC (.int 2))))) (ab0 (ik0 "b" (eTup (ab0 (eC (.int 3)) (ab0 (eC (.int 3)) aNil)))) aNil))))) aNil)))))
  (sSeq (sSet 2 (e2 cV0 (bVar 2) (eLst (ab0 (eLst (ab0 (eLst (ab0 (eC (.int 0)) aNil)) (ab0 (eC (.int 1)) (ab0 (eLst (ab0 (eTup (ab0 (eC (.str "a")) (ab0 (eC (.int 0)) (ab0 (eC (.int 0)) (ab0 (eC (.int 0)) (ab0 (eLst (ab0 (eC (.str "a")) aNil)) aNil)))))) aNil)) (ab0 (ik0 "a" (eTup (ab0 (eC (.int 0)) (ab0 (eC (.int 0)) aNil)))) aNil))))) (ab0 (eLst (ab0 (eLst (ab0 (eC (.int 0)) (ab0 (eC (.int 1)) aNil))) (ab0 (eC (.int 1)) (ab0 (eSlL (bVar 1) (bk0 none) (bk0 (some (eC (.int 2))))) (ab0 km0 aNil))))) aNil)))))
  (sRet false (e2 φIx (bVar 2) (e2 φMod (bVar 0) (eC (.int 5)))))))))
def w5 (C : Addr) : List T -> Option (Bool × T) := fnT Yd0 1 (wb0 C)
abbrev J7 : Stmt := top 33
def Xd0 : List Str := ["crop", "way", "far", "row"]
def v5 : List Str := ["crop", "way", "far"]
def dm0 (C : Addr) : En -> Option Fl := (cw0 3 (av0 cU0 (ab0 (bVar 0) aNil)))
def bD0 (C : Addr) : En -> Option Fl := (sIf (qB (e2 φEq (bVar 1) (eC (.int 0)))) (du0 3 (eC (.int 0)) (eC (.str ""))) sNx)
def bd0 (C : Addr) : En -> Option Fl := (sIf (qOr (qB (e2 φEq (bVar 1) (eC (.int 1)))) (qB (e2 φEq (bVar 1) (eC (.int 2))))) (du0 3 (eC (.int 1)) (e2 φIx (eLst (ab0 (e2 φSub (e1 φNeg (eC (.int 4))) (bVar 2)) (ab0 (e2 φAdd (eC (.int 4)) (bVar 2)) aNil))) (e2 φSub (bVar 1) (eC (.int 1))))) sNx)
def bg0 (C : Addr) : En -> Option Fl := (sIf (qOr (qB (e2 φEq (bVar 1) (eC (.int 3)))) (qB (e2 φEq (bVar 1) (eC (.int 4))))) (du0 3 (eC (.int 2)) (e2 φIx (eLst (ab0 (e2 φSub (e1 φNeg (eC (.int 1))) (bVar 2)) (ab0 (e2 φAdd (eC (.int 1001)) (bVar 2)) aNil))) (e2 φSub (bVar 1) (eC (.int 3))))) sNx)
def bc0 (C : Addr) : En -> Option Fl := (sIf (qOr (qB (e2 φEq (bVar 1) (eC (.int 5)))) (qB (e2 φEq (bVar 1) (eC (.int 6))))) (du0 3 (eC (.int 3)) (e2 φIx (eLst (ab0 (e2 φSub (e1 φNeg (eC (.int 1))) (bVar 2)) (ab0 (e2 φAdd (eC (.int 4)) (bVar 2)) aNil))) (e2 φSub (bVar 1) (eC (.int 5))))) sNx)
def bF0 (C : Addr) : En -> Option Fl := (sIf (qB (e2 φEq (bVar 1) (eC (.int 7)))) (du0 3 (eC (.int 4)) (e2 cV0 (av0 cU0 (ab0 (e2 φIx (bVar 0) (eC (.int 4))) aNil)) (eLst (ab0 (eC (.str "weed")) aNil)))) sNx)
def cn0 (C : Addr) : En -> Option Fl := (sRet false (av0 bw0 (ab0 (bVar 3) aNil)))
def X8 (C : Addr) : En -> Option Fl := (sSeq (dm0 C) (sSeq (bD0 C) (sSeq (bd0 C) (sSeq (bg0 C) (sSeq (bc0 C) (sSeq (bF0 C) (cn0 C)))))))
def Z5 (C : Addr) : List T -> Option (Bool × T) := fnT Xd0 3 (X8 C)
abbrev X2 : Stmt := top 34
def j3 : List Str := ["plot", "way", "cell", "soils", "crops", "wants", "top", "at", "crop", "far"]
def Q5 : List Str := ["plot", "way", "cell"]
def dJ0 (C : Addr) : En -> Option Fl := (cw0 3 (av0 cU0 (ab0 (e2 φIx (bVar 0) (eC (.int 0))) aNil)))
def dI0 (C : Addr) : En -> Option Fl := (cw0 4 (av0 cU0 (ab0 (e2 φIx (bVar 0) (eC (.int 2))) aNil)))
def dK0 (C : Addr) : En -> Option Fl := (cw0 5 (av0 hN0 (ab0 (e2 φIx (bVar 0) (eC (.int 3))) aNil)))
def dF0 (C : Addr) : En -> Option Fl := (sSet 6 (e2 φIx (bVar 0) (eC (.int 1))))
def dC0 (C : Addr) : En -> Option Fl := (sSet 7 (e2 φMod (bVar 2) (av0 φLen (ab0 (bVar 4) aNil))))
def dH0 (C : Addr) : En -> Option Fl := (sSet 8 (e2 φIx (bVar 4) (bVar 7)))
def dD0 (C : Addr) : En -> Option Fl := (sSet 9 (e2 φMod (e2 φDiv (bVar 2) (eC (.int 20))) (eC (.int 9))))
def bq0 (C : Addr) : En -> Option Fl := (sIf (qB (e2 φLt (bVar 1) (eC (.int 8)))) (du0 4 (bVar 7) (eFn (Z5 C) (ab0 (eVar 8) (ab0 (eVar 1) (ab0 (eVar 9) aNil))))) sNx)
def bp0 (C : Addr) : En -> Option Fl := (sIf (qB (e2 φEq (bVar 1) (eC (.int 8)))) (sIns 4 (eVar 7) (eVar 8)) sNx)
def br0 (C : Addr) : En -> Option Fl := (sIf (qB (e2 φEq (bVar 1) (eC (.int 9)))) (cw0 4 (eLst aNil)) sNx)
def be0 (C : Addr) : En -> Option Fl := (sIf (qB (e2 φEq (bVar 1) (eC (.int 10)))) (cw0 4 (e2 cV0 (bVar 4) (aZ0 1 (bt0 (ab0 (e2 φAdd (e2 φSub (eC (.int 6)) (av0 φLen (ab0 (bVar 4) aNil))) (e2 φMod (bVar 9) (eC (.int 2)))) aNil)) (aA0 0) bv0 (eTup (ab0 (e2 ia0 (eC (.str "new")) (av0 hZ0 (ab0 (bVar 0) aNil))) (ab0 (eC (.int 0)) (ab0 (eC (.int 1)) (ab0 (eC (.int 0)) (ab0 (eLst aNil) aNil))))))))) sNx)
def aD0 (C : Addr) : En -> Option Fl := (sIf (qB (bR0 φLe φLt (eC (.int 11)) (bVar 1) (eC (.int 15)))) (sSeq (sDPut 5 (eC (.str "weed")) (eTup (ab0 (eC (.int 0)) (ab0 (eC (.int 1)) aNil))))
  (sIf (qB (e2 φGt (bVar 1) (eC (.int 11)))) (sSeq (iK0 5 (eC (.str "weed")))
  (sDPut 5 (e2 φIx (bVar 8) (eC (.int 0))) (e2 φIx (eLst (ab0 (eTup (ab0 (e2 φSub (e1 φNeg (eC (.int 1))) (bVar 9)) (ab0 (eC (.int 1)) aNil))) (ab0 (eTup (ab0 (eC (.int 2)) (ab0 (eC (.int 1)) aNil))) (ab0 (eTup (ab0 (eC (.int 1)) (ab0 (e2 φAdd (eC (.int 4)) (bVar 9)) aNil))) aNil)))) (e2 φSub (bVar 1) (eC (.int 12)))))) sNx)) sNx)
def bj0 (C : Addr) : En -> Option Fl := (sIf (qB (e2 φEq (bVar 1) (eC (.int 15)))) (du0 3 (e2 φMod (bVar 2) (av0 φLen (ab0 (bVar 3) aNil))) (e2 φSub (e1 φNeg (eC (.int 1))) (bVar 9))) sNx)
def bf0 (C : Addr) : En -> Option Fl := (sIf (qB (e2 φEq (bVar 1) (eC (.int 16)))) (du0 3 (e2 φMod (bVar 2) (av0 φLen (ab0 (bVar 3) aNil))) (e2 φAdd (e2 φAdd (bVar 6) (eC (.int 1))) (bVar 9))) sNx)
def bi0 (C : Addr) : En -> Option Fl := (sIf (qB (e2 φEq (bVar 1) (eC (.int 17)))) (cw0 3 (eLst aNil)) sNx)
def bb0 (C : Addr) : En -> Option Fl := (sIf (qB (e2 φEq (bVar 1) (eC (.int 18)))) (cw0 3 (e2 cV0 (bVar 3) (aZ0 1 (bt0 (ab0 (e2 φAdd (e2 φSub (eC (.int 4)) (av0 φLen (ab0 (bVar 3) aNil))) (e2 φMod (bVar 9) (eC (.int 2)))) aNil)) (aA0 0) bv0 (eC (.int 0))))) sNx)
def bh0 (C : Addr) : En -> Option Fl := (sIf (qB (e2 φEq (bVar 1) (eC (.int 19)))) (sSeq (sSet 6 (e2 φIx (eLst (ab0 (eC (.int 0)) (ab0 (e2 φAdd (eC (.int 6)) (bVar 9)) (ab0 (e2 φSub (e1 φNeg (eC (.int 1))) (bVar 9)) aNil)))) (e2 φMod (e2 φDiv (bVar 2) (eC (.int 200))) (eC (.int 3)))))
  (fun ε => (sSet 3 (aZ0 1 (iLst (eVar 3)) (aA0 0) bv0 (eC (.int 0)))) (frz 3 ε))) sNx)
def bC0 (C : Addr) : En -> Option Fl := (fun ε => (fun ε => (fun ε => (sRet true (eLst (ab0 (eVar 3) (ab0 (eVar 6) (ab0 (eVar 4) (ab0 (eVar 5) aNil)))))) (frz 3 ε)) (frz 4 ε)) (frzD 5 ε))
def z9 (C : Addr) : En -> Option Fl := (sSeq (dJ0 C) (sSeq (dI0 C) (sSeq (dK0 C) (sSeq (dF0 C) (sSeq (dC0 C) (sSeq (dH0 C) (sSeq (dD0 C) (sSeq (bq0 C) (sSeq (bp0 C) (sSeq (br0 C) (sSeq (be0 C) (sSeq (aD0 C) (sSeq (bj0 C) (sSeq (bf0 C) (sSeq (bi0 C) (sSeq (bb0 C) (sSeq (bh0 C) (bC0 C))))))))))))))))))
def y3 (C : Addr) : List T -> Option (Bool × T) := fnT j3 3 (z9 C)
abbrev X0 : Stmt := top 37
def ze0 : List Str := ["script", "plot", "way", "told", "kept", "turn", "found"]
def q9 : List Str := ["script"]
noncomputable def K7 (C BG : Addr) : En -> Option Fl := (sSeq (sSet 6 (eFn (Y1 C BG) (ab0 (eVar 3) aNil)))
  (sSeq (sIf (qB (e2 φNeS (eFnF (V1 C) (ab0 (eVar 3) aNil)) (bVar 4))) (sRet false (eC (.bl false))) sNx)
  (sSeq (sIf (qAnd (qB (e2 φLt (bVar 2) (eC (.int 20)))) (qB (e2 φNe (eFn (Z3 C BG) (ab0 (eVar 6) aNil)) (eC (.int 0))))) (sRet false (eC (.bl false))) sNx)
  (sIf (qAnd (qB (e2 φGe (bVar 2) (eC (.int 20)))) (qNot (qB (eIsI C (bVar 6))))) (sRet false (eC (.bl false))) sNx))))
noncomputable def j9 (C BG : Addr) : En -> Option Fl := (sSeq (sSet 1 (eFn (w4 C) (ab0 (eVar 0) (ab0 (eFn (K3 C) (ab0 (eVar 0) (ab0 (eC (.int 3)) aNil))) aNil))))
  (sSeq (sSet 2 (e2 φMod (eFn (z0 C) (ab0 (eVar 0) (ab0 (eC (.int 91)) aNil))) (eC (.int 27))))
  (sSeq (sSet 3 (eFnF (y3 C) (ab0 (eVar 1) (ab0 (eVar 2) (ab0 (eFn (z0 C) (ab0 (eVar 0) (ab0 (eC (.int 92)) aNil))) aNil)))))
  (sSeq (sIf (qB (e2 φGt (bVar 2) (eC (.int 21)))) (sSet 3 (eFn (w5 C) (ab0 (eVar 2) aNil))) sNx)
  (sSeq (sSet 4 (eFnF (V1 C) (ab0 (eVar 3) aNil)))
  (sSeq (sFor (bt0 (ab0 (eC (.int 2)) aNil)) (aA0 5) (K7 C BG))
  (sRet false (eC (.bl true)))))))))
noncomputable def k6 (C BG : Addr) : List T -> Option (Bool × T) := fnT ze0 1 (j9 C BG)
structure Txt (K : PySem.W.Frag) (mg : Str -> Option Value) (C NP BG BD : Addr) : Prop where
 cl_Garden : Cls K C
 qe0 : NoAttr K C "bars"
 je0 : NoAttr K C "changes"
 ke0 : NoAttr K C "depth"
 vb0 : NoAttr K C "gaps"
 we0 : NoAttr K C "harvests"
 ve0 : NoAttr K C "soils"
 ye0 : NoAttr K C "top"
 xe0 : NoAttr K C "wants"
 w9 : mg "ValueError" = none
 v9 : mg "bool" = none
 w6 : mg "dict" = none
 y9 : mg "int" = none
 x0 : mg "isinstance" = none
 Z0 : mg "len" = none
 K0 : mg "list" = none
 W7 : mg "max" = none
 x9 : mg "min" = none
 W1 : mg "range" = none
 Z9 : mg "set" = none
 V7 : mg "str" = none
 J0 : mg "tuple" = none
 Q9 : ∃ t, mg "MOST_BEDS" = some (.int 3 t)
 Y7 : ∃ t, mg "MOST_CHANGE" = some (.int 3 t)
 J9 : ∃ t, mg "MOST_CROPS" = some (.int 5 t)
 K9 : ∃ t, mg "MOST_GAP" = some (.int 3 t)
 W9 : ∃ t, mg "MOST_HARVEST" = some (.int 1000 t)
 V9 : ∃ t, mg "MOST_TOP" = some (.int 5 t)
 Y9 : ∃ t, mg "MOST_WANTED" = some (.int 3 t)
 xc : XCls K BG
 ic : ICls K C
 m_Garden : mg "Garden" = some (.ref C)
 m_NoPlanting : mg "NoPlanting" = some (.ref NP)
 m_BadGarden : mg "BadGarden" = some (.ref BG)
 m_BedError : mg "BedError" = some (.ref BD)
 k_BadGarden : PySem.W.kitOne K (.ref BG) (.ref BG) = some true
 k_NoPlanting : PySem.W.kitOne K (.ref BG) (.ref NP) = some false
 k_BedError : PySem.W.kitOne K (.ref BG) (.ref BD) = some true
 k_ValueError : PySem.W.kitOne K (.ref BG) (.type "ValueError") = some true
 x_BadGarden : PySem.W.excIn K BG lx0 veNew = true
 e_BedError : PySem.W.exmOne K (.ref BG) (.ref BD) = some true
section
variable {P : Program} {w : World} {K : PySem.W.Frag} {mg : Str -> Option Value} {base : Heap} {C NP BG BD f : Addr} {fd : FuncData}
theorem yb0 : FnScope ["e", "found"] ["e"] (ak0 v6) := ⟨rfl, rfl, rfl, by decide +kernel, rfl, by decide +kernel, by decide +kernel⟩
theorem he0 (F : Fun K "_law_alone" "_law_alone" v6 f fd) (T : Txt K mg C NP BG BD)  : FnOk P w K mg base CX0 1 f fd x3 (spP (Z3 C BG)) := by
 have sc := yb0
 refine bl0 F yb0 (fun _ _ h => bm0 h) fun cdv A outer s H E FF hr => ⟨z8 C BG, ?_, fun ts o t h => aN0 h⟩
 exact (ae0 (aE0 (i := 1) sc.nd rfl (Or.inl rfl) (aL0 (aB0 (aa0 (iF0 T.xc (by rfl) T.x0 (by rfl) T.m_BadGarden T.k_BadGarden (ad0 (pv 0))) (aa0 (iF0 T.xc (by rfl) T.x0 (by rfl) T.m_NoPlanting T.k_NoPlanting (ad0 (pv 0))) aj0)))))
   (ae0 (aS0 (qt_w (fa0 (cu0 (cp0 (iF0 T.xc (by rfl) T.x0 (by rfl) T.m_BedError T.k_BedError (ad0 (pv 0))))) (fa0 (cu0 (cp0 (lL0 (n := "ValueError") T.xc (by rfl) T.x0 (by rfl) T.w9 (by rfl) T.k_ValueError (ad0 (pv 0))))) (dw0 (jr0 (hu20 hr) (af0 (kx0 (ad0 (pv 1)) (ar0 (af0 gA0) az0))) (af0 ac0)))))) (al0 (bz0 (dg0 (af0 ac0)))) ax0)
   (al0 (bz0 (eQ0 (ad0 (pv 1)) (ar0 (af0 gA0) az0))))))
theorem xb0 : FnScope ["script", "k"] ["script", "k"] (ak0 y6) := ⟨rfl, rfl, rfl, by decide +kernel, rfl, by decide +kernel, by decide +kernel⟩
theorem Ze0 (F : Fun K "_law_cell_at" "_law_cell_at" y6 f fd) (T : Txt K mg C NP BG BD)  : FnOk P w K mg base CX0 1 f fd Q3 (spP (X1 C)) := by
 have sc := xb0
 refine bl0 F xb0 (fun _ _ h => bm0 h) fun cdv A outer s H E FF hr => ⟨q8 C, ?_, fun ts o t h => aN0 h⟩
 exact (ae0 (aS0 (mi0 (ad0 (pv 1)) (af0 (cm0 (by rfl) T.Z0 (ar0 (ad0 (pv 0)) az0)))) (al0 (bz0 (aG0 (ad0 (pv 0)) (ad0 (pv 1))))) ax0)
   (al0 (bz0 ac0)))
theorem hb0 : FnScope ["script", "k"] ["script", "k"] (ak0 Z6) := ⟨rfl, rfl, rfl, by decide +kernel, rfl, by decide +kernel, by decide +kernel⟩
theorem Qe0 (F : Fun K "_law_draw" "_law_draw" Z6 f fd) (T : Txt K mg C NP BG BD) (X9 : aW0 P w K mg base 1 "_law_cell_at" Q3 (X1 C)) : FnOk P w K mg base CX0 2 f fd W0 (spP (z0 C)) := by
 have sc := hb0
 refine bl0 F hb0 (fun _ _ h => bm0 h) fun cdv A outer s H E FF hr => ⟨j8 C, ?_, fun ts o t h => aN0 h⟩
 exact (al0 (bz0 (aO0 (af0 (ej0 (af0 (aT0 (af0 (aX0 X9 (hr.mono (by decide)) (by rfl) (aa0 (an0 (pv 0)) (aa0 (aO0 (ad0 (pv 1)) (af0 ac0)) aj0)))) (af0 (ej0 (af0 ac0) (ad0 (pv 1)))))) (af0 (aT0 (af0 ac0) (af0 (ej0 (af0 ac0) (ad0 (pv 1)))))))) (af0 ac0))))
theorem Zb0 : FnScope ["script", "most", "cell"] ["script", "most"] (ak0 Q6) := ⟨rfl, rfl, rfl, by decide +kernel, rfl, by decide +kernel, by decide +kernel⟩
theorem Je0 (F : Fun K "_law_beds" "_law_beds" Q6 f fd) (T : Txt K mg C NP BG BD) (q0 : aW0 P w K mg base 2 "_law_draw" W0 (z0 C)) : FnOk P w K mg base CX0 3 f fd J3 (spP (K3 C)) := by
 have sc := Zb0
 refine bl0 F Zb0 (fun _ _ h => bm0 h) fun cdv A outer s H E FF hr => ⟨k8 C, ?_, fun ts o t h => aN0 h⟩
 exact (ae0 (aE0 (i := 2) sc.nd rfl (Or.inl rfl) (aX0 q0 (hr.mono (by decide)) (by rfl) (aa0 (an0 (pv 0)) (aa0 ac0 aj0))))
   (ae0 (aS0 (bX0 (hu20 hr) (ad0 (pv 1)) (af0 ac0)) (al0 (bz0 (aT0 (af0 ac0) (af0 (aO0 (ad0 (pv 2)) (af0 ac0)))))) ax0)
   (ae0 (aS0 (qt_w (jk0 (bX0 (hu20 hr) (ad0 (pv 1)) (af0 ac0)) (gq0 (bX0 (hu20 hr) (af0 (aO0 (ad0 (pv 2)) (af0 ac0))) (af0 ac0))))) (al0 (bz0 ac0)) ax0)
   (al0 (bz0 (aT0 (af0 ac0) (af0 (aO0 (ad0 (pv 2)) (af0 ac0)))))))))
theorem Qb0 : FnScope ["script", "k", "names", "gaps", "bars", "j", "harvest", "change"] ["script", "k", "names", "gaps"] (ak0 J6) := ⟨rfl, rfl, rfl, by decide +kernel, rfl, by decide +kernel, by decide +kernel⟩
theorem Ke0 (F : Fun K "_law_crop" "_law_crop" J6 f fd) (T : Txt K mg C NP BG BD) (q0 : aW0 P w K mg base 2 "_law_draw" W0 (z0 C)) : FnOk P w K mg base CX0 3 f fd W3 (spP (j2 C)) := by
 have sc := Qb0
 refine bl0 F Qb0 (fun _ _ h => bm0 h) fun cdv A outer s H E FF hr => ⟨v8 C, ?_, fun ts o t h => aN0 h⟩
 exact (ae0 (cg0 (i := 4) sc.nd rfl (Or.inl rfl) (aB0 aj0))
   (ae0 (dA0 PassesOwn.never rfl (bS0 (by rfl) T.W1 (ar0 (af0 (cm0 (by rfl) T.Z0 (ar0 (ad0 (pv 2)) az0))) az0)) (cR0 (aI0 (i := 5) sc.nd rfl (Or.inl rfl)))
   (al0 (aS0 (bX0 (hu20 hr) (af0 (aO0 (af0 (aX0 q0 (hr.mono (by decide)) (by rfl) (aa0 (an0 (pv 0)) (aa0 (aT0 (af0 (aT0 (af0 ac0) (af0 (ej0 (af0 ac0) (ad0 (pv 1)))))) (ad0 (pv 5))) aj0)))) (af0 ac0))) (af0 ac0)) (al0 (jn0 (pv 4) (aG0 (ad0 (pv 2)) (ad0 (pv 5))))) ax0)))
   (ae0 (aE0 (i := 6) sc.nd rfl (Or.inl rfl) (aO0 (af0 (aX0 q0 (hr.mono (by decide)) (by rfl) (aa0 (an0 (pv 0)) (aa0 (aT0 (af0 ac0) (af0 (ej0 (af0 ac0) (ad0 (pv 1))))) aj0)))) (af0 (aG0 (bG0 (aB0 (aa0 ac0 (aa0 ac0 (aa0 ac0 aj0))))) (af0 (aO0 (af0 (aX0 q0 (hr.mono (by decide)) (by rfl) (aa0 (an0 (pv 0)) (aa0 ac0 aj0)))) (af0 ac0)))))))
   (ae0 (aE0 (i := 7) sc.nd rfl (Or.inl rfl) (cl0 (af0 (aO0 (af0 (aX0 q0 (hr.mono (by decide)) (by rfl) (aa0 (an0 (pv 0)) (aa0 (aT0 (af0 ac0) (af0 (ej0 (af0 ac0) (ad0 (pv 1))))) aj0)))) (af0 ac0))) (af0 ac0)))
   (al0 (cX0 4 (bz0 (bA0 (aa0 (aG0 (ad0 (pv 2)) (ad0 (pv 1))) (aa0 (an0 (pv 7)) (aa0 (an0 (pv 6)) (aa0 (aO0 (af0 (aX0 q0 (hr.mono (by decide)) (by rfl) (aa0 (an0 (pv 0)) (aa0 (aT0 (af0 ac0) (af0 (ej0 (af0 ac0) (ad0 (pv 1))))) aj0)))) (af0 (aT0 (ad0 (pv 3)) (af0 ac0)))) (aa0 (an0 (pv 4)) aj0)))))))))))))
theorem Jb0 : FnScope ["script", "names", "beds", "wants", "k", "cell", "least"] ["script", "names", "beds"] (ak0 K6) := ⟨rfl, rfl, rfl, by decide +kernel, rfl, by decide +kernel, by decide +kernel⟩
theorem We0 (F : Fun K "_law_wants" "_law_wants" K6 f fd) (T : Txt K mg C NP BG BD) (q0 : aW0 P w K mg base 2 "_law_draw" W0 (z0 C)) : FnOk P w K mg base CX0 3 f fd V3 (spP (Y3 C)) := by
 have sc := Jb0
 refine bl0 F Jb0 (fun _ _ h => bm0 h) fun cdv A outer s H E FF hr => ⟨y8 C, ?_, fun ts o t h => aN0 h⟩
 exact (ae0 (cg0 (i := 3) sc.nd rfl (Or.inl rfl) gF0)
   (ae0 (dA0 PassesOwn.never rfl (bS0 (by rfl) T.W1 (ar0 (af0 (cm0 (by rfl) T.Z0 (ar0 (ad0 (pv 1)) az0))) az0)) (cR0 (aI0 (i := 4) sc.nd rfl (Or.inl rfl)))
   (ae0 (aE0 (i := 5) sc.nd rfl (Or.inl rfl) (aX0 q0 (hr.mono (by decide)) (by rfl) (aa0 (an0 (pv 0)) (aa0 (aT0 (af0 ac0) (ad0 (pv 4))) aj0))))
   (al0 (aS0 (bX0 (hu20 hr) (af0 (aO0 (ad0 (pv 5)) (af0 ac0))) (af0 ac0)) (ae0 (aE0 (i := 6) sc.nd rfl (Or.inl rfl) (aG0 (bG0 (aB0 (aa0 ac0 (aa0 ac0 (aa0 ac0 (aa0 (an0 (pv 2)) aj0)))))) (af0 (aO0 (af0 (gU0 (ad0 (pv 5)) (af0 ac0))) (af0 ac0)))))
   (al0 (gi0 (md0 hr) (pv 3) (af0 (aG0 (ad0 (pv 1)) (ad0 (pv 4)))) (bA0 (aa0 (an0 (pv 6)) (aa0 (mc0 rfl (by rfl) T.x9 (ar0 (af0 ac0) (ar0 (af0 (aT0 (ad0 (pv 6)) (af0 (aO0 (af0 (gU0 (ad0 (pv 5)) (af0 ac0))) (af0 (aT0 (ad0 (pv 2)) (af0 ac0))))))) az0))) aj0)))))) ax0))))
   (al0 (mw0 (pv 3)))))
theorem Kb0 : FnScope ["script", "beds", "mode", "top", "many", "gaps", "turn", "names", "crops", "soils"] ["script", "beds"] (ak0 X3) := ⟨rfl, rfl, rfl, by decide +kernel, rfl, by decide +kernel, by decide +kernel⟩
theorem Ve0 (F : Fun K "_law_garden" "_law_garden" X3 f fd) (T : Txt K mg C NP BG BD) (za0 : aW0 P w K mg base 3 "_law_crop" W3 (j2 C)) (q0 : aW0 P w K mg base 2 "_law_draw" W0 (z0 C)) (qa0 : aW0 P w K mg base 3 "_law_wants" V3 (Y3 C)) : FnOk P w K mg base CX0 4 f fd j4 (spP (w4 C)) := by
 have sc := Kb0
 refine bl0 F Kb0 (fun _ _ h => bm0 h) fun cdv A outer s H E FF hr => ⟨x8 C, ?_, fun ts o t h => aN0 h⟩
 exact (ae0 (aE0 (i := 2) sc.nd rfl (Or.inl rfl) (aO0 (af0 (aX0 q0 (hr.mono (by decide)) (by rfl) (aa0 (an0 (pv 0)) (aa0 ac0 aj0)))) (af0 ac0)))
   (ae0 (aE0 (i := 3) sc.nd rfl (Or.inr rfl) (aG0 (bG0 (aB0 (aa0 ac0 (aa0 ac0 (aa0 ac0 (aa0 ac0 (aa0 ac0 (aa0 ac0 (aa0 ac0 (aa0 ac0 aj0)))))))))) (ad0 (pv 2))))
   (ae0 (aE0 (i := 4) sc.nd rfl (Or.inl rfl) (aG0 (bG0 (aB0 (aa0 ac0 (aa0 ac0 (aa0 ac0 (aa0 ac0 (aa0 ac0 (aa0 ac0 (aa0 ac0 (aa0 ac0 aj0)))))))))) (ad0 (pv 2))))
   (ae0 (aE0 (i := 5) sc.nd rfl (Or.inr rfl) (aG0 (bG0 (aB0 (aa0 ac0 (aa0 ac0 (aa0 ac0 (aa0 ac0 (aa0 ac0 (aa0 ac0 (aa0 ac0 (aa0 ac0 aj0)))))))))) (ad0 (pv 2))))
   (ae0 (aS0 (mf0 (ad0 (pv 1)) (af0 ac0)) (ae0 (aE0 (i := 3) sc.nd rfl (Or.inr rfl) ac0)
   (ae0 (aE0 (i := 4) sc.nd rfl (Or.inl rfl) (aT0 (af0 ac0) (af0 (aO0 (af0 (aX0 q0 (hr.mono (by decide)) (by rfl) (aa0 (an0 (pv 0)) (aa0 ac0 aj0)))) (af0 ac0)))))
   (al0 (aE0 (i := 5) sc.nd rfl (Or.inr rfl) (aO0 (af0 (aX0 q0 (hr.mono (by decide)) (by rfl) (aa0 (an0 (pv 0)) (aa0 ac0 aj0)))) (af0 ac0)))))) ax0)
   (ae0 (aE0 (i := 6) sc.nd rfl (Or.inl rfl) (aO0 (af0 (aX0 q0 (hr.mono (by decide)) (by rfl) (aa0 (an0 (pv 0)) (aa0 ac0 aj0)))) (af0 ac0)))
   (ae0 (aE0 (i := 7) sc.nd rfl (Or.inr rfl) (aL0 (aB0 (aa0 aC0 (aa0 aC0 (aa0 aC0 (aa0 aC0 (aa0 aC0 aj0))))))))
   (ae0 (aE0 (i := 7) sc.nd rfl (Or.inr rfl) (aL0 (eK0 (bG0 (dl0 (bG0 (eK0 (ad0 (pv 7)) (cC0 (ad0 (pv 6))) ds0)) (bG0 (eK0 (ad0 (pv 7)) ds0 (cC0 (ad0 (pv 6))))))) ds0 (cC0 (ad0 (pv 4))))))
   (ae0 (eZ0 (i := 8) (own := ["k"]) sc.nd rfl (Or.inl rfl) rfl (dn0 W5 (ak0 X3) rfl rfl (by decide +kernel)) (bS0 (by rfl) T.W1 (ar0 (ad0 (pv 4)) az0)) bM0 (fun _ _ _ _ => (aI0 (i := 0) (df0 ((["k"] : List Str) ++ hide ["k"] W5) rfl (by decide +kernel)) rfl (Or.inl rfl))) (fun _ _ _ _ => ck0) (fun _ _ _ _ => (aX0 za0 (hr.mono (by decide)) (by rfl) (aa0 (an0 (pv 1)) (aa0 (an0 (pv 0)) (aa0 (an0 (pv 8)) (aa0 (an0 (pv 6)) aj0)))))) (by rfl))
   (ae0 (eZ0 (i := 9) (own := ["k"]) sc.nd rfl (Or.inl rfl) rfl (dn0 W5 (ak0 X3) rfl rfl (by decide +kernel)) (bS0 (by rfl) T.W1 (ar0 (ad0 (pv 1)) az0)) bM0 (fun _ _ _ _ => (aI0 (i := 0) (df0 ((["k"] : List Str) ++ hide ["k"] W5) rfl (by decide +kernel)) rfl (Or.inl rfl))) (fun _ _ _ _ => ck0) (fun _ _ _ _ => (aO0 (af0 (aX0 q0 (hr.mono (by decide)) (by rfl) (aa0 (an0 (pv 1)) (aa0 (aT0 (af0 ac0) (ad0 (pv 0))) aj0)))) (af0 (aT0 (ad0 (pv 4)) (af0 ac0))))) (by rfl))
   (al0 (bz0 (bA0 (aa0 (an0 (pv 9)) (aa0 (an0 (pv 3)) (aa0 (an0 (pv 8)) (aa0 (aL0 (eL0 qa0 (hr.mono (by decide)) (by rfl) (aa0 (an0 (pv 0)) (aa0 (an0 (pv 7)) (aa0 (an0 (pv 1)) aj0))))) aj0)))))))))))))))))
theorem Wb0 : FnScope ["plot", "crops"] ["plot"] (ak0 V5) := ⟨rfl, rfl, rfl, by decide +kernel, rfl, by decide +kernel, by decide +kernel⟩
theorem Ye0 (F : Fun K "_law_handed" "_law_handed" V5 f fd) (T : Txt K mg C NP BG BD)  : FnOk P w K mg base CX0 1 f fd v4 (spP (V1 C)) := by
 have sc := Wb0
 refine bl0 F Wb0 (fun _ _ h => bm0 h) fun cdv A outer s H E FF hr => ⟨Z8 C, ?_, fun ts o t h => aN0 h⟩
 exact (ae0 (eZ0 (i := 1) (own := ["crop"]) sc.nd rfl (Or.inl rfl) rfl (dn0 h8 (ak0 V5) rfl rfl (by decide +kernel)) (bL0 (aG0 (ad0 (pv 0)) (af0 ac0))) bM0 (fun _ _ _ _ => (aI0 (i := 0) (df0 ((["crop"] : List Str) ++ hide ["crop"] h8) rfl (by decide +kernel)) rfl (Or.inl rfl))) (fun _ _ _ _ => ck0) (fun _ _ _ _ => (ml0 (af0 (nZ0 (ad0 (pv 0)) ds0 (cC0 (af0 ac0)))) (af0 (bA0 (aa0 (aL0 (dp0 (by rfl) T.K0 (ar0 (af0 (aG0 (ad0 (pv 0)) (af0 ac0))) az0))) aj0))))) (by rfl))
   (al0 (gt0 (aB0 (aa0 (aL0 (dp0 (by rfl) T.K0 (ar0 (af0 (aG0 (ad0 (pv 0)) (af0 ac0))) az0))) (aa0 (aG0 (ad0 (pv 0)) (af0 ac0)) (aa0 (an0 (pv 1)) (aa0 (aL0 (jq0 (by rfl) T.w6 (ar0 (af0 (aG0 (ad0 (pv 0)) (af0 ac0))) az0))) aj0))))))))
theorem Vb0 : FnScope ["value", "least", "most"] ["value", "least", "most"] (ak0 W6) := ⟨rfl, rfl, rfl, by decide +kernel, rfl, by decide +kernel, by decide +kernel⟩
theorem Xe0 (F : Fun K "is_within" "is_within" W6 f fd) (T : Txt K mg C NP BG BD)  : FnOk P w K mg base CX0 1 f fd y4 (spP (Z2 C)) := by
 have sc := Vb0
 refine bl0 F Vb0 (fun _ _ h => bm0 h) fun cdv A outer s H E FF hr => ⟨Q8 C, ?_, fun ts o t h => aN0 h⟩
 exact (ae0 (aS0 (qt_w (fa0 (cp0 (fr0 (n := "bool") (x := "bool") .bool (by rfl) T.x0 (by rfl) T.v9 (by rfl) (ad0 (pv 0)))) (dw0 (cu0 (cp0 (fr0 (n := "int") (x := "int") .int (by rfl) T.x0 (by rfl) T.y9 (by rfl) (ad0 (pv 0)))))))) (al0 (bz0 gA0)) ax0)
   (al0 (bz0 (jL0 mg0 mg0 o_le o_le (ad0 (pv 1)) (ad0 (pv 0)) (ad0 (pv 2))))))
theorem Yb0 : FnScope ["value", "least", "most", "what"] ["value", "least", "most", "what"] (ak0 V6) := ⟨rfl, rfl, rfl, by decide +kernel, rfl, by decide +kernel, by decide +kernel⟩
theorem zf0 (F : Fun K "check_within" "check_within" V6 f fd) (T : Txt K mg C NP BG BD) (ja0 : aW0 P w K mg base 1 "is_within" y4 (Z2 C)) : FnOk P w K mg base (CXB P w) 2 f fd j1 (spX (y0 C BG)) := by
 have sc := Yb0
 refine fn_x F Yb0 (fun _ _ h => dk0 h) fun cdv A outer s H E FF hr => ⟨J8 C BG, ?_, fun ts r h => cI0 h⟩
 exact (al0 (aS0 (cu0 (cp0 (aX0 ja0 (hr.mono (by decide)) (by rfl) (aa0 (an0 (pv 0)) (aa0 (an0 (pv 1)) (aa0 (an0 (pv 2)) aj0)))))) (al0 (iQ0 ⟨rfl, rfl, rfl⟩ hr.hd (by rfl) T.m_BadGarden T.x_BadGarden PySem.F.excBase_ValueError (fun _ _ h => h) (fun _ h => h) (pa_fs (pv 3) (pv 1) (pv 2)))) ax0))
theorem Xb0 : FnScope ["soils", "top", "soil"] ["soils", "top"] (ak0 Y6) := ⟨rfl, rfl, rfl, by decide +kernel, rfl, by decide +kernel, by decide +kernel⟩
theorem qf0 (F : Fun K "check_beds" "check_beds" Y6 f fd) (T : Txt K mg C NP BG BD) (j0 : bI0 P w K mg base 2 "check_within" j1 (y0 C BG)) : FnOk P w K mg base (CXB P w) 3 f fd Z4 (spX (Q2 C BG)) := by
 have sc := Xb0
 refine fn_x F Xb0 (fun _ _ h => dk0 h) fun cdv A outer s H E FF hr => ⟨Xa0 C BG, ?_, fun ts r h => cI0 h⟩
 exact (ae0 (aQ0 (fo0 ⟨⟨rfl, rfl, rfl⟩, fun _ _ h => h⟩) (fun _ _ h => h) j0 (hr.mono (by decide)) (by rfl) (aa0 (an0 (pv 1)) (aa0 ac0 (aa0 (cb0 (by rfl) T.V9) (aa0 aC0 aj0)))))
   (ae0 (aS0 (cu0 (cp0 (fr0 (n := "list") (x := "list") .list (by rfl) T.x0 (by rfl) T.K0 (by rfl) (ad0 (pv 0))))) (al0 (bZ0 ⟨rfl, rfl, rfl⟩ hr.hd (by rfl) T.m_BadGarden T.x_BadGarden PySem.F.excBase_ValueError (fun _ _ h => h) (fun _ h => h) (aa0 aC0 aj0))) ax0)
   (ae0 (aQ0 (fo0 ⟨⟨rfl, rfl, rfl⟩, fun _ _ h => h⟩) (fun _ _ h => h) j0 (hr.mono (by decide)) (by rfl) (aa0 (cm0 (by rfl) T.Z0 (ar0 (ad0 (pv 0)) az0)) (aa0 ac0 (aa0 (cb0 (by rfl) T.Q9) (aa0 aC0 aj0)))))
   (al0 (fk0 ⟨⟨rfl, rfl, rfl⟩, fun _ _ h => h⟩ (dA0 (bU0 ⟨rfl, rfl, rfl⟩) rfl (bL0 (an0 (pv 0))) (cR0 (aI0 (i := 2) sc.nd rfl (Or.inl rfl)))
   (al0 (aQ0 hL0 (fun _ _ h => h) j0 (hr.mono (by decide)) (by rfl) (aa0 (an0 (pv 2)) (aa0 ac0 (aa0 (an0 (pv 1)) (aa0 aC0 aj0))))))))))))
theorem zc0 : FnScope ["crop"] ["crop"] (ak0 X6) := ⟨rfl, rfl, rfl, by decide +kernel, rfl, by decide +kernel, by decide +kernel⟩
theorem jf0 (F : Fun K "check_crop" "check_crop" X6 f fd) (T : Txt K mg C NP BG BD) (j0 : bI0 P w K mg base 2 "check_within" j1 (y0 C BG)) : FnOk P w K mg base (CXB P w) 3 f fd Q4 (spX (Y5 C BG)) := by
 have sc := zc0
 refine fn_x F zc0 (fun _ _ h => dk0 h) fun cdv A outer s H E FF hr => ⟨zb0 C BG, ?_, fun ts r h => cI0 h⟩
 exact (ae0 (aS0 (qt_w (fa0 (cu0 (cp0 (fr0 (n := "tuple") (x := "tuple") .tuple (by rfl) T.x0 (by rfl) T.J0 (by rfl) (ad0 (pv 0))))) (dw0 (jr0 (hu20 hr) (af0 (cm0 (by rfl) T.Z0 (ar0 (ad0 (pv 0)) az0))) (af0 ac0))))) (al0 (bZ0 ⟨rfl, rfl, rfl⟩ hr.hd (by rfl) T.m_BadGarden T.x_BadGarden PySem.F.excBase_ValueError (fun _ _ h => h) (fun _ h => h) (aa0 aC0 aj0))) ax0)
   (ae0 (aS0 (qt_w (fa0 (cu0 (cp0 (fr0 (n := "str") (x := "str") .str (by rfl) T.x0 (by rfl) T.V7 (by rfl) (af0 (aG0 (ad0 (pv 0)) (af0 ac0)))))) (dw0 (bX0 (hu20 hr) (af0 (aG0 (ad0 (pv 0)) (af0 ac0))) (af0 aC0))))) (al0 (bZ0 ⟨rfl, rfl, rfl⟩ hr.hd (by rfl) T.m_BadGarden T.x_BadGarden PySem.F.excBase_ValueError (fun _ _ h => h) (fun _ h => h) (aa0 aC0 aj0))) ax0)
   (ae0 (aQ0 (fo0 ⟨⟨rfl, rfl, rfl⟩, fun _ _ h => h⟩) (fun _ _ h => h) j0 (hr.mono (by decide)) (by rfl) (aa0 (aG0 (ad0 (pv 0)) (af0 ac0)) (aa0 (dg0 (af0 (cb0 (by rfl) T.Y7))) (aa0 (cb0 (by rfl) T.Y7) (aa0 aC0 aj0)))))
   (ae0 (aQ0 (fo0 ⟨⟨rfl, rfl, rfl⟩, fun _ _ h => h⟩) (fun _ _ h => h) j0 (hr.mono (by decide)) (by rfl) (aa0 (aG0 (ad0 (pv 0)) (af0 ac0)) (aa0 ac0 (aa0 (cb0 (by rfl) T.W9) (aa0 aC0 aj0)))))
   (ae0 (aQ0 (fo0 ⟨⟨rfl, rfl, rfl⟩, fun _ _ h => h⟩) (fun _ _ h => h) j0 (hr.mono (by decide)) (by rfl) (aa0 (aG0 (ad0 (pv 0)) (af0 ac0)) (aa0 ac0 (aa0 (cb0 (by rfl) T.K9) (aa0 aC0 aj0)))))
   (al0 (aS0 (cu0 (cp0 (fr0 (n := "list") (x := "list") .list (by rfl) T.x0 (by rfl) T.K0 (by rfl) (af0 (aG0 (ad0 (pv 0)) (af0 ac0)))))) (al0 (bZ0 ⟨rfl, rfl, rfl⟩ hr.hd (by rfl) T.m_BadGarden T.x_BadGarden PySem.F.excBase_ValueError (fun _ _ h => h) (fun _ h => h) (aa0 aC0 aj0))) ax0)))))))
theorem qc0 : FnScope ["name", "names"] ["name", "names"] (ak0 z7) := ⟨rfl, rfl, rfl, by decide +kernel, rfl, by decide +kernel, by decide +kernel⟩
theorem kf0 (F : Fun K "check_name" "check_name" z7 f fd) (T : Txt K mg C NP BG BD)  : FnOk P w K mg base (CXB P w) 1 f fd J2 (spX (W2 C BG)) := by
 have sc := qc0
 refine fn_x F qc0 (fun _ _ h => dk0 h) fun cdv A outer s H E FF hr => ⟨qb0 C BG, ?_, fun ts r h => cI0 h⟩
 exact (al0 (aS0 (jO0 (ad0 (pv 0)) (ad0 (pv 1))) (al0 (bZ0 ⟨rfl, rfl, rfl⟩ hr.hd (by rfl) T.m_BadGarden T.x_BadGarden PySem.F.excBase_ValueError (fun _ _ h => h) (fun _ h => h) (aa0 aC0 aj0))) ax0))
theorem jc0 : FnScope ["crops"] ["crops"] (ak0 X5) := ⟨rfl, rfl, rfl, by decide +kernel, rfl, by decide +kernel, by decide +kernel⟩
theorem wf0 (F : Fun K "names_of" "names_of" X5 f fd) (T : Txt K mg C NP BG BD)  : FnOk P w K mg base CX0 1 f fd V2 (spP (V0 C)) := by
 have sc := jc0
 refine bl0 F jc0 (fun _ _ h => bm0 h) fun cdv A outer s H E FF hr => ⟨W8 C, ?_, fun ts o t h => aN0 h⟩
 exact (al0 (gt0 (cr0 rfl (own := ["crop"]) (dn0 K8 (ak0 X5) rfl rfl (by decide +kernel)) (bL0 (an0 (pv 0))) bM0 (fun _ _ _ _ => (aI0 (i := 0) (df0 ((["crop"] : List Str) ++ hide ["crop"] K8) rfl (by decide +kernel)) rfl (Or.inl rfl))) (fun _ _ _ _ => ck0) (fun _ _ _ _ => (aG0 (ad0 (pv 0)) (af0 ac0))))))
theorem kc0 : FnScope ["crops", "crop", "names", "name"] ["crops"] (ak0 j7) := ⟨rfl, rfl, rfl, by decide +kernel, rfl, by decide +kernel, by decide +kernel⟩
theorem vf0 (F : Fun K "check_crops" "check_crops" j7 f fd) (T : Txt K mg C NP BG BD) (ka0 : bI0 P w K mg base 3 "check_crop" Q4 (Y5 C BG)) (J5 : bI0 P w K mg base 1 "check_name" J2 (W2 C BG)) (j0 : bI0 P w K mg base 2 "check_within" j1 (y0 C BG)) (K5 : aW0 P w K mg base 1 "names_of" V2 (V0 C)) : FnOk P w K mg base (CXB P w) 4 f fd J4 (spX (Y2 C BG)) := by
 have sc := kc0
 refine fn_x F kc0 (fun _ _ h => dk0 h) fun cdv A outer s H E FF hr => ⟨jb0 C BG, ?_, fun ts r h => cI0 h⟩
 exact (ae0 (aS0 (cu0 (cp0 (fr0 (n := "list") (x := "list") .list (by rfl) T.x0 (by rfl) T.K0 (by rfl) (ad0 (pv 0))))) (al0 (bZ0 ⟨rfl, rfl, rfl⟩ hr.hd (by rfl) T.m_BadGarden T.x_BadGarden PySem.F.excBase_ValueError (fun _ _ h => h) (fun _ h => h) (aa0 aC0 aj0))) ax0)
   (ae0 (aQ0 (fo0 ⟨⟨rfl, rfl, rfl⟩, fun _ _ h => h⟩) (fun _ _ h => h) j0 (hr.mono (by decide)) (by rfl) (aa0 (cm0 (by rfl) T.Z0 (ar0 (ad0 (pv 0)) az0)) (aa0 ac0 (aa0 (cb0 (by rfl) T.J9) (aa0 aC0 aj0)))))
   (ae0 (fk0 ⟨⟨rfl, rfl, rfl⟩, fun _ _ h => h⟩ (dA0 (bU0 ⟨rfl, rfl, rfl⟩) rfl (bL0 (an0 (pv 0))) (cR0 (aI0 (i := 1) sc.nd rfl (Or.inl rfl)))
   (al0 (aQ0 hL0 (fun _ _ h => h) ka0 (hr.mono (by decide)) (by rfl) (aa0 (an0 (pv 1)) aj0)))))
   (ae0 (aE0 (i := 2) sc.nd rfl (Or.inl rfl) (aL0 (eL0 K5 (hr.mono (by decide)) (by rfl) (aa0 (an0 (pv 0)) aj0))))
   (ae0 (aS0 (jr0 (hu20 hr) (af0 (iO0 rfl (by rfl) T.Z0 (by rfl) T.Z9 (ad0 (pv 2)))) (af0 (cm0 (by rfl) T.Z0 (ar0 (ad0 (pv 2)) az0)))) (al0 (bZ0 ⟨rfl, rfl, rfl⟩ hr.hd (by rfl) T.m_BadGarden T.x_BadGarden PySem.F.excBase_ValueError (fun _ _ h => h) (fun _ h => h) (aa0 aC0 aj0))) ax0)
   (al0 (fk0 ⟨⟨rfl, rfl, rfl⟩, fun _ _ h => h⟩ (dA0 (bU0 ⟨rfl, rfl, rfl⟩) rfl (bL0 (an0 (pv 0))) (cR0 (aI0 (i := 1) sc.nd rfl (Or.inl rfl)))
   (al0 (dA0 (bU0 ⟨rfl, rfl, rfl⟩) rfl (bL0 (aG0 (ad0 (pv 1)) (af0 ac0))) (cR0 (aI0 (i := 3) sc.nd rfl (Or.inl rfl)))
   (al0 (aQ0 hL0 (fun _ _ h => h) J5 (hr.mono (by decide)) (by rfl) (aa0 (an0 (pv 3)) (aa0 (an0 (pv 2)) aj0))))))))))))))
theorem wc0 : FnScope ["wants", "names", "name", "pair"] ["wants", "names"] (ak0 k7) := ⟨rfl, rfl, rfl, by decide +kernel, rfl, by decide +kernel, by decide +kernel⟩
theorem yf0 (F : Fun K "check_wants" "check_wants" k7 f fd) (T : Txt K mg C NP BG BD) (J5 : bI0 P w K mg base 1 "check_name" J2 (W2 C BG)) (j0 : bI0 P w K mg base 2 "check_within" j1 (y0 C BG)) : FnOk P w K mg base (CXB P w) 3 f fd K4 (spX (W4 C BG)) := by
 have sc := wc0
 refine fn_x F wc0 (fun _ _ h => dk0 h) fun cdv A outer s H E FF hr => ⟨kb0 C BG, ?_, fun ts r h => cI0 h⟩
 exact (ae0 (aS0 (cu0 (cp0 (fr0 (n := "dict") (x := "dict") .dict (by rfl) T.x0 (by rfl) T.w6 (by rfl) (ad0 (pv 0))))) (al0 (bZ0 ⟨rfl, rfl, rfl⟩ hr.hd (by rfl) T.m_BadGarden T.x_BadGarden PySem.F.excBase_ValueError (fun _ _ h => h) (fun _ h => h) (aa0 aC0 aj0))) ax0)
   (al0 (fk0 ⟨⟨rfl, rfl, rfl⟩, fun _ _ h => h⟩ (dA0 (bU0 ⟨rfl, rfl, rfl⟩) rfl (gH0 (an0 (pv 0))) (lz0 (li0 rfl (dP0 (aI0 (i := 2) sc.nd rfl (Or.inl rfl)) (dP0 (aI0 (i := 3) sc.nd rfl (Or.inl rfl)) jl0))))
   (ae0 (aQ0 hL0 (fun _ _ h => h) J5 (hr.mono (by decide)) (by rfl) (aa0 (an0 (pv 2)) (aa0 (an0 (pv 1)) aj0)))
   (ae0 (aS0 (qt_w (fa0 (cu0 (cp0 (fr0 (n := "tuple") (x := "tuple") .tuple (by rfl) T.x0 (by rfl) T.J0 (by rfl) (ad0 (pv 3))))) (dw0 (jr0 (hu20 hr) (af0 (cm0 (by rfl) T.Z0 (ar0 (ad0 (pv 3)) az0))) (af0 ac0))))) (al0 ku0) ax0)
   (ae0 (aQ0 hL0 (fun _ _ h => h) j0 (hr.mono (by decide)) (by rfl) (aa0 (aG0 (ad0 (pv 3)) (af0 ac0)) (aa0 ac0 (aa0 (cb0 (by rfl) T.Y9) (aa0 aC0 aj0)))))
   (al0 (aQ0 hL0 (fun _ _ h => h) j0 (hr.mono (by decide)) (by rfl) (aa0 (aG0 (ad0 (pv 3)) (af0 ac0)) (aa0 ac0 (aa0 (aG0 (ad0 (pv 3)) (af0 ac0)) (aa0 aC0 aj0)))))))))))))
theorem vc0 : FnScope ["some", "names"] ["some", "names"] (ak0 j6) := ⟨rfl, rfl, rfl, by decide +kernel, rfl, by decide +kernel, by decide +kernel⟩
theorem xf0 (F : Fun K "numbers_of" "numbers_of" j6 f fd) (T : Txt K mg C NP BG BD)  : FnOk P w K mg base CX0 1 f fd V4 (spP (Z1 C)) := by
 have sc := vc0
 refine bl0 F vc0 (fun _ _ h => bm0 h) fun cdv A outer s H E FF hr => ⟨Y8 C, ?_, fun ts o t h => aN0 h⟩
 exact (al0 (bz0 (cc0 (by rfl) T.J0 (ar0 (bG0 (cr0 rfl (own := ["name"]) (dn0 V8 (ak0 j6) rfl rfl (by decide +kernel)) (bL0 (an0 (pv 0))) bM0 (fun _ _ _ _ => (aI0 (i := 0) (df0 ((["name"] : List Str) ++ hide ["name"] V8) rfl (by decide +kernel)) rfl (Or.inl rfl))) (fun _ _ _ _ => ck0) (fun _ _ _ _ => (eQ0 (ad0 (pv 2)) (ar0 (ad0 (pv 0)) az0))))) az0))))
theorem yc0 : FnScope ["self", "soils", "top", "crops", "wants", "names"] ["self", "soils", "top", "crops", "wants"] (ak0 J1) := ⟨rfl, rfl, rfl, by decide +kernel, rfl, by decide +kernel, by decide +kernel⟩
theorem hf0 (F : Fun K "__init__" "Garden.__init__" J1 f fd) (T : Txt K mg C NP BG BD) (wa0 : bI0 P w K mg base 3 "check_beds" Z4 (Q2 C BG)) (va0 : bI0 P w K mg base 4 "check_crops" J4 (Y2 C BG)) (ya0 : bI0 P w K mg base 3 "check_wants" K4 (W4 C BG)) (K5 : aW0 P w K mg base 1 "names_of" V2 (V0 C)) (xa0 : aW0 P w K mg base 1 "numbers_of" V4 (Z1 C)) : FnOk P w K mg base (CXB P w) 5 f fd Y4 (spJ C (Y0 C BG)) := by
 have sc := yc0
 refine kC0 (N := ["soils", "top", "crops", "wants", "names"]) F yc0 (fun _ _ h => me0 h) fun cdv A outer s H E Y hr hw => ⟨v7 C BG, ?_, fun ts r h => kJ0 h⟩
 exact (ae0 (aQ0 (fo0 ⟨⟨rfl, rfl, rfl⟩, fun _ _ h => h⟩) hw wa0 (hr.mono (by decide)) (by rfl) (aa0 (an0 (pv 1)) (aa0 (an0 (pv 2)) aj0)))
   (ae0 (aQ0 (fo0 ⟨⟨rfl, rfl, rfl⟩, fun _ _ h => h⟩) hw va0 (hr.mono (by decide)) (by rfl) (aa0 (an0 (pv 3)) aj0))
   (ae0 (aE0 (i := 5) sc.nd rfl (Or.inr rfl) (aL0 (eL0 K5 (hr.mono (by decide)) (by rfl) (aa0 (an0 (pv 3)) aj0))))
   (ae0 (aQ0 (fo0 ⟨⟨rfl, rfl, rfl⟩, fun _ _ h => h⟩) hw ya0 (hr.mono (by decide)) (by rfl) (aa0 (an0 (pv 4)) (aa0 (an0 (pv 5)) aj0)))
   (ae0 (cz0 (pv 0) T.cl_Garden T.ve0 (cc0 (by rfl) T.J0 (ar0 (ad0 (pv 1)) az0)))
   (ae0 (cz0 (pv 0) T.cl_Garden T.ye0 (an0 (pv 2)))
   (ae0 (cz0 (pv 0) T.cl_Garden T.je0 (cc0 (by rfl) T.J0 (ar0 (bG0 (cr0 rfl (own := ["crop"]) (dn0 Q0 (ak0 J1) rfl rfl (by decide +kernel)) (bL0 (an0 (pv 3))) bM0 (fun _ _ _ _ => (aI0 (i := 0) (df0 ((["crop"] : List Str) ++ hide ["crop"] Q0) rfl (by decide +kernel)) rfl (Or.inl rfl))) (fun _ _ _ _ => ck0) (fun _ _ _ _ => (aG0 (ad0 (pv 0)) (af0 ac0))))) az0)))
   (ae0 (cz0 (pv 0) T.cl_Garden T.we0 (cc0 (by rfl) T.J0 (ar0 (bG0 (cr0 rfl (own := ["crop"]) (dn0 Q0 (ak0 J1) rfl rfl (by decide +kernel)) (bL0 (an0 (pv 3))) bM0 (fun _ _ _ _ => (aI0 (i := 0) (df0 ((["crop"] : List Str) ++ hide ["crop"] Q0) rfl (by decide +kernel)) rfl (Or.inl rfl))) (fun _ _ _ _ => ck0) (fun _ _ _ _ => (aG0 (ad0 (pv 0)) (af0 ac0))))) az0)))
   (ae0 (cz0 (pv 0) T.cl_Garden T.vb0 (cc0 (by rfl) T.J0 (ar0 (bG0 (cr0 rfl (own := ["crop"]) (dn0 Q0 (ak0 J1) rfl rfl (by decide +kernel)) (bL0 (an0 (pv 3))) bM0 (fun _ _ _ _ => (aI0 (i := 0) (df0 ((["crop"] : List Str) ++ hide ["crop"] Q0) rfl (by decide +kernel)) rfl (Or.inl rfl))) (fun _ _ _ _ => ck0) (fun _ _ _ _ => (aG0 (ad0 (pv 0)) (af0 ac0))))) az0)))
   (ae0 (cz0 (pv 0) T.cl_Garden T.qe0 (cc0 (by rfl) T.J0 (ar0 (bG0 (cr0 rfl (own := ["crop"]) (dn0 Q0 (ak0 J1) rfl rfl (by decide +kernel)) (bL0 (an0 (pv 3))) bM0 (fun _ _ _ _ => (aI0 (i := 0) (df0 ((["crop"] : List Str) ++ hide ["crop"] Q0) rfl (by decide +kernel)) rfl (Or.inl rfl))) (fun _ _ _ _ => ck0) (fun _ _ _ _ => (aX0 xa0 (hr.mono (by decide)) (by rfl) (aa0 (aG0 (ad0 (pv 0)) (af0 ac0)) (aa0 (an0 (pv 6)) aj0)))))) az0)))
   (ae0 (cz0 (pv 0) T.cl_Garden T.xe0 (cc0 (by rfl) T.J0 (ar0 (bG0 (cr0 rfl (own := ["name", "pair"]) (dn0 Q0 (ak0 J1) rfl rfl (by decide +kernel)) (gH0 (an0 (pv 4))) mn0 (fun _ _ _ _ => (li0 rfl (dP0 (aI0 (i := 0) (df0 ((["name", "pair"] : List Str) ++ hide ["name", "pair"] Q0) rfl (by decide +kernel)) rfl (Or.inl rfl)) (dP0 (aI0 (i := 1) (df0 ((["name", "pair"] : List Str) ++ hide ["name", "pair"] Q0) rfl (by decide +kernel)) rfl (Or.inl rfl)) jl0)))) (fun _ _ _ _ => ck0) (fun _ _ _ _ => (bA0 (aa0 (eQ0 (ad0 (pv 7)) (ar0 (ad0 (pv 0)) az0)) (aa0 (aG0 (ad0 (pv 1)) (af0 ac0)) (aa0 (aG0 (ad0 (pv 1)) (af0 ac0)) aj0))))))) az0)))
   (al0 (cz0 (pv 0) T.cl_Garden T.ke0 (mb0 rfl (by rfl) T.W7 (ar0 (af0 ac0) (ar0 (af0 (nu0 rfl (by rfl) T.W7 (ar0 (af0 (nD0 (ad0 (pv 0)) T.cl_Garden T.vb0)) az0))) az0))))))))))))))))
theorem xc0 : FnScope ["told", "found", "e"] ["told"] (ak0 y7) := ⟨rfl, rfl, rfl, by decide +kernel, rfl, by decide +kernel, by decide +kernel⟩
theorem Zf0 (F : Fun K "_law_made" "_law_made" y7 f fd) (T : Txt K mg C NP BG BD) (ha0 : iX0 P w K mg base C 5 "Garden" Y4 (Y0 C BG)) : FnOk P w K mg base CX0 7 f fd X4 (spP (Y1 C BG)) := by
 have sc := xc0
 refine bl0 F xc0 (fun _ _ h => bm0 h) fun cdv A outer s H E FF hr => ⟨Z7 C BG, ?_, fun ts o t h => aN0 h⟩
 exact (ae0 (aE0 (i := 1) sc.nd rfl (Or.inl rfl) nw0)
   (ae0 (lK0 (i := 1) (j := 2) ⟨rfl, rfl, rfl⟩ sc.nd rfl rfl rfl rfl (by rfl) T.m_BedError T.e_BedError ha0 (hr.mono (by decide)) (by rfl) (fun _ => (aa0 (aG0 (ad0 (pv 0)) (af0 ac0)) (aa0 (aG0 (ad0 (pv 0)) (af0 ac0)) (aa0 (aG0 (ad0 (pv 0)) (af0 ac0)) (aa0 (aG0 (ad0 (pv 0)) (af0 ac0)) aj0))))))
   (al0 (bz0 (an0 (pv 1))))))
theorem Zc0 : FnScope ["way", "crops", "some"] ["way"] (ak0 Q7) := ⟨rfl, rfl, rfl, by decide +kernel, rfl, by decide +kernel, by decide +kernel⟩
theorem Qf0 (F : Fun K "_law_reached" "_law_reached" Q7 f fd) (T : Txt K mg C NP BG BD)  : FnOk P w K mg base CX0 1 f fd j5 (spP (w5 C)) := by
 have sc := Zc0
 refine bl0 F Zc0 (fun _ _ h => bm0 h) fun cdv A outer s H E FF hr => ⟨wb0 C, ?_, fun ts o t h => aN0 h⟩
 exact (ae0 (aE0 (i := 1) sc.nd rfl (Or.inl rfl) (aL0 (aB0 (aa0 (bA0 (aa0 aC0 (aa0 ac0 (aa0 ac0 (aa0 ac0 (aa0 (aL0 (aB0 (aa0 aC0 aj0))) aj0)))))) (aa0 (bA0 (aa0 aC0 (aa0 (dg0 (af0 ac0)) (aa0 ac0 (aa0 ac0 (aa0 (aL0 (aB0 aj0)) aj0)))))) (aa0 (bA0 (aa0 aC0 (aa0 ac0 (aa0 ac0 (aa0 ac0 (aa0 (aL0 (aB0 (aa0 aC0 (aa0 aC0 aj0)))) aj0)))))) aj0))))))
   (ae0 (aE0 (i := 1) sc.nd rfl (Or.inl rfl) (aL0 (dl0 (ad0 (pv 1)) (bG0 (aB0 (aa0 (bA0 (aa0 aC0 (aa0 ac0 (aa0 ac0 (aa0 ac0 (aa0 (aL0 (aB0 aj0)) aj0)))))) (aa0 (bA0 (aa0 aC0 (aa0 ac0 (aa0 ac0 (aa0 ac0 (aa0 (aL0 (aB0 aj0)) aj0)))))) aj0)))))))
   (ae0 (aE0 (i := 2) sc.nd rfl (Or.inl rfl) (aL0 (aB0 (aa0 (aL0 (aB0 (aa0 (aL0 (aB0 (aa0 ac0 (aa0 ac0 (aa0 ac0 aj0))))) (aa0 ac0 (aa0 (an0 (pv 1)) (aa0 (aL0 gF0) aj0)))))) (aa0 (aL0 (aB0 (aa0 (aL0 (aB0 (aa0 ac0 aj0))) (aa0 ac0 (aa0 (aL0 (eK0 (ad0 (pv 1)) ds0 (cC0 (af0 ac0)))) (aa0 (aL0 (gy0 (bA0 (aa0 ac0 (aa0 ac0 aj0))))) aj0)))))) (aa0 (aL0 (aB0 (aa0 (aL0 (aB0 (aa0 ac0 aj0))) (aa0 ac0 (aa0 (aL0 (eK0 (ad0 (pv 1)) (cC0 (af0 ac0)) (cC0 (af0 ac0)))) (aa0 (aL0 (gy0 (bA0 (aa0 ac0 (aa0 ac0 aj0))))) aj0)))))) aj0))))))
   (ae0 (aE0 (i := 2) sc.nd rfl (Or.inl rfl) (aL0 (dl0 (ad0 (pv 2)) (bG0 (aB0 (aa0 (aL0 (aB0 (aa0 (aL0 (aB0 (aa0 ac0 aj0))) (aa0 ac0 (aa0 (aL0 (aB0 (aa0 (bA0 (aa0 aC0 (aa0 ac0 (aa0 ac0 (aa0 ac0 (aa0 (aL0 (aB0 (aa0 aC0 aj0))) aj0)))))) aj0))) (aa0 (aL0 (gy0 (bA0 (aa0 ac0 (aa0 ac0 aj0))))) aj0)))))) (aa0 (aL0 (aB0 (aa0 (aL0 (aB0 (aa0 ac0 (aa0 ac0 aj0)))) (aa0 ac0 (aa0 (aL0 (eK0 (ad0 (pv 1)) ds0 (cC0 (af0 ac0)))) (aa0 (aL0 gF0) aj0)))))) aj0)))))))
   (al0 (bz0 (aG0 (ad0 (pv 2)) (af0 (aO0 (ad0 (pv 0)) (af0 ac0))))))))))
theorem Qc0 : FnScope ["crop", "way", "far", "row"] ["crop", "way", "far"] (ak0 J7) := ⟨rfl, rfl, rfl, by decide +kernel, rfl, by decide +kernel, by decide +kernel⟩
theorem Jf0 (F : Fun K "_law_bad_crop" "_law_bad_crop" J7 f fd) (T : Txt K mg C NP BG BD)  : FnOk P w K mg base CX0 1 f fd v5 (spP (Z5 C)) := by
 have sc := Qc0
 refine bl0 F Qc0 (fun _ _ h => bm0 h) fun cdv A outer s H E FF hr => ⟨X8 C, ?_, fun ts o t h => aN0 h⟩
 exact (ae0 (cg0 (i := 3) sc.nd rfl (Or.inl rfl) (dp0 (by rfl) T.K0 (ar0 (ad0 (pv 0)) az0)))
   (ae0 (aS0 (bX0 (hu20 hr) (ad0 (pv 1)) (af0 ac0)) (al0 (cB0 (pv 3) (af0 ac0) aC0)) ax0)
   (ae0 (aS0 (qt_w (fa0 (bX0 (hu20 hr) (ad0 (pv 1)) (af0 ac0)) (dw0 (bX0 (hu20 hr) (ad0 (pv 1)) (af0 ac0))))) (al0 (cB0 (pv 3) (af0 ac0) (aG0 (bG0 (aB0 (aa0 (cl0 (af0 (dg0 (af0 ac0))) (ad0 (pv 2))) (aa0 (aT0 (af0 ac0) (ad0 (pv 2))) aj0)))) (af0 (cl0 (ad0 (pv 1)) (af0 ac0)))))) ax0)
   (ae0 (aS0 (qt_w (fa0 (bX0 (hu20 hr) (ad0 (pv 1)) (af0 ac0)) (dw0 (bX0 (hu20 hr) (ad0 (pv 1)) (af0 ac0))))) (al0 (cB0 (pv 3) (af0 ac0) (aG0 (bG0 (aB0 (aa0 (cl0 (af0 (dg0 (af0 ac0))) (ad0 (pv 2))) (aa0 (aT0 (af0 ac0) (ad0 (pv 2))) aj0)))) (af0 (cl0 (ad0 (pv 1)) (af0 ac0)))))) ax0)
   (ae0 (aS0 (qt_w (fa0 (bX0 (hu20 hr) (ad0 (pv 1)) (af0 ac0)) (dw0 (bX0 (hu20 hr) (ad0 (pv 1)) (af0 ac0))))) (al0 (cB0 (pv 3) (af0 ac0) (aG0 (bG0 (aB0 (aa0 (cl0 (af0 (dg0 (af0 ac0))) (ad0 (pv 2))) (aa0 (aT0 (af0 ac0) (ad0 (pv 2))) aj0)))) (af0 (cl0 (ad0 (pv 1)) (af0 ac0)))))) ax0)
   (ae0 (aS0 (bX0 (hu20 hr) (ad0 (pv 1)) (af0 ac0)) (al0 (cB0 (pv 3) (af0 ac0) (aL0 (dl0 (bG0 (dp0 (by rfl) T.K0 (ar0 (af0 (aG0 (ad0 (pv 0)) (af0 ac0))) az0))) (bG0 (aB0 (aa0 aC0 aj0))))))) ax0)
   (al0 (bz0 (cc0 (by rfl) T.J0 (ar0 (ad0 (pv 3)) az0))))))))))
theorem Jc0 : FnScope ["plot", "way", "cell", "soils", "crops", "wants", "top", "at", "crop", "far"] ["plot", "way", "cell"] (ak0 X2) := ⟨rfl, rfl, rfl, by decide +kernel, rfl, by decide +kernel, by decide +kernel⟩
theorem Kf0 (F : Fun K "_law_spoiled" "_law_spoiled" X2 f fd) (T : Txt K mg C NP BG BD) (Za0 : aW0 P w K mg base 1 "_law_bad_crop" v5 (Z5 C)) : FnOk P w K mg base CX0 2 f fd Q5 (spP (y3 C)) := by
 have sc := Jc0
 refine bl0 F Jc0 (fun _ _ h => bm0 h) fun cdv A outer s H E FF hr => ⟨z9 C, ?_, fun ts o t h => aN0 h⟩
 exact (ae0 (cg0 (i := 3) sc.nd rfl (Or.inl rfl) (dp0 (by rfl) T.K0 (ar0 (af0 (aG0 (ad0 (pv 0)) (af0 ac0))) az0)))
   (ae0 (cg0 (i := 4) sc.nd rfl (Or.inl rfl) (dp0 (by rfl) T.K0 (ar0 (af0 (aG0 (ad0 (pv 0)) (af0 ac0))) az0)))
   (ae0 (cg0 (i := 5) sc.nd rfl (Or.inl rfl) (jq0 (by rfl) T.w6 (ar0 (af0 (aG0 (ad0 (pv 0)) (af0 ac0))) az0)))
   (ae0 (aE0 (i := 6) sc.nd rfl (Or.inl rfl) (aG0 (ad0 (pv 0)) (af0 ac0)))
   (ae0 (aE0 (i := 7) sc.nd rfl (Or.inl rfl) (aO0 (ad0 (pv 2)) (af0 (cm0 (by rfl) T.Z0 (ar0 (ad0 (pv 4)) az0)))))
   (ae0 (aE0 (i := 8) sc.nd rfl (Or.inl rfl) (aG0 (ad0 (pv 4)) (ad0 (pv 7))))
   (ae0 (aE0 (i := 9) sc.nd rfl (Or.inl rfl) (aO0 (af0 (gU0 (ad0 (pv 2)) (af0 ac0))) (af0 ac0)))
   (ae0 (aS0 (mi0 (ad0 (pv 1)) (af0 ac0)) (al0 (cB0 (pv 4) (ad0 (pv 7)) (aX0 Za0 (hr.mono (by decide)) (by rfl) (aa0 (an0 (pv 8)) (aa0 (an0 (pv 1)) (aa0 (an0 (pv 9)) aj0)))))) ax0)
   (ae0 (aS0 (bX0 (hu20 hr) (ad0 (pv 1)) (af0 ac0)) (al0 (jo0 (pv 4) (an0 (pv 7)) (an0 (pv 8)))) ax0)
   (ae0 (aS0 (bX0 (hu20 hr) (ad0 (pv 1)) (af0 ac0)) (al0 (cg0 (i := 4) sc.nd rfl (Or.inl rfl) (aB0 aj0))) ax0)
   (ae0 (aS0 (bX0 (hu20 hr) (ad0 (pv 1)) (af0 ac0)) (al0 (cg0 (i := 4) sc.nd rfl (Or.inl rfl) (dl0 (ad0 (pv 4)) (bG0 (cr0 rfl (own := ["k"]) (dn0 j3 (ak0 X2) rfl rfl (by decide +kernel)) (bS0 (by rfl) T.W1 (ar0 (af0 (aT0 (af0 (cl0 (af0 ac0) (af0 (cm0 (by rfl) T.Z0 (ar0 (ad0 (pv 4)) az0))))) (af0 (aO0 (ad0 (pv 9)) (af0 ac0))))) az0)) bM0 (fun _ _ _ _ => (aI0 (i := 0) (df0 ((["k"] : List Str) ++ hide ["k"] j3) rfl (by decide +kernel)) rfl (Or.inl rfl))) (fun _ _ _ _ => ck0) (fun _ _ _ _ => (bA0 (aa0 (lu0 (af0 aC0) (af0 (ma0 (by rfl) T.V7 (ar0 (ad0 (pv 0)) az0)))) (aa0 ac0 (aa0 ac0 (aa0 ac0 (aa0 (aL0 (aB0 aj0)) aj0)))))))))))) ax0)
   (ae0 (aS0 (jP0 mg0 op_lt o_le o_lt (af0 ac0) (ad0 (pv 1)) (af0 ac0)) (ae0 (gi0 (md0 hr) (pv 5) (af0 aC0) (bA0 (aa0 ac0 (aa0 ac0 aj0))))
   (al0 (aS0 (mf0 (ad0 (pv 1)) (af0 ac0)) (ae0 (lm0 (pv 5) aC0)
   (al0 (gi0 (md0 hr) (pv 5) (af0 (aG0 (ad0 (pv 8)) (af0 ac0))) (aG0 (bG0 (aB0 (aa0 (bA0 (aa0 (cl0 (af0 (dg0 (af0 ac0))) (ad0 (pv 9))) (aa0 ac0 aj0))) (aa0 (bA0 (aa0 ac0 (aa0 ac0 aj0))) (aa0 (bA0 (aa0 ac0 (aa0 (aT0 (af0 ac0) (ad0 (pv 9))) aj0))) aj0))))) (af0 (cl0 (ad0 (pv 1)) (af0 ac0))))))) ax0))) ax0)
   (ae0 (aS0 (bX0 (hu20 hr) (ad0 (pv 1)) (af0 ac0)) (al0 (cB0 (pv 3) (af0 (aO0 (ad0 (pv 2)) (af0 (cm0 (by rfl) T.Z0 (ar0 (ad0 (pv 3)) az0))))) (cl0 (af0 (dg0 (af0 ac0))) (ad0 (pv 9))))) ax0)
   (ae0 (aS0 (bX0 (hu20 hr) (ad0 (pv 1)) (af0 ac0)) (al0 (cB0 (pv 3) (af0 (aO0 (ad0 (pv 2)) (af0 (cm0 (by rfl) T.Z0 (ar0 (ad0 (pv 3)) az0))))) (aT0 (af0 (aT0 (ad0 (pv 6)) (af0 ac0))) (ad0 (pv 9))))) ax0)
   (ae0 (aS0 (bX0 (hu20 hr) (ad0 (pv 1)) (af0 ac0)) (al0 (cg0 (i := 3) sc.nd rfl (Or.inl rfl) (aB0 aj0))) ax0)
   (ae0 (aS0 (bX0 (hu20 hr) (ad0 (pv 1)) (af0 ac0)) (al0 (cg0 (i := 3) sc.nd rfl (Or.inl rfl) (dl0 (ad0 (pv 3)) (bG0 (cr0 rfl (own := ["k"]) (dn0 j3 (ak0 X2) rfl rfl (by decide +kernel)) (bS0 (by rfl) T.W1 (ar0 (af0 (aT0 (af0 (cl0 (af0 ac0) (af0 (cm0 (by rfl) T.Z0 (ar0 (ad0 (pv 3)) az0))))) (af0 (aO0 (ad0 (pv 9)) (af0 ac0))))) az0)) bM0 (fun _ _ _ _ => (aI0 (i := 0) (df0 ((["k"] : List Str) ++ hide ["k"] j3) rfl (by decide +kernel)) rfl (Or.inl rfl))) (fun _ _ _ _ => ck0) (fun _ _ _ _ => ac0)))))) ax0)
   (ae0 (aS0 (bX0 (hu20 hr) (ad0 (pv 1)) (af0 ac0)) (ae0 (aE0 (i := 6) sc.nd rfl (Or.inl rfl) (aG0 (bG0 (aB0 (aa0 ac0 (aa0 (aT0 (af0 ac0) (ad0 (pv 9))) (aa0 (cl0 (af0 (dg0 (af0 ac0))) (ad0 (pv 9))) aj0))))) (af0 (aO0 (af0 (gU0 (ad0 (pv 2)) (af0 ac0))) (af0 ac0)))))
   (al0 (cX0 3 (eZ0 (i := 3) (own := ["soil"]) sc.nd rfl (Or.inl rfl) rfl (dn0 j3 (ak0 X2) rfl rfl (by decide +kernel)) (bL0 (an0 (pv 3))) bM0 (fun _ _ _ _ => (aI0 (i := 0) (df0 ((["soil"] : List Str) ++ hide ["soil"] j3) rfl (by decide +kernel)) rfl (Or.inl rfl))) (fun _ _ _ _ => ck0) (fun _ _ _ _ => ac0) (by rfl))))) ax0)
   (al0 (lJ0 5 (cX0 4 (cX0 3 (gt0 (aB0 (aa0 (an0 (pv 3)) (aa0 (an0 (pv 6)) (aa0 (an0 (pv 4)) (aa0 (an0 (pv 5)) aj0)))))))))))))))))))))))))))
theorem Kc0 : FnScope ["script", "plot", "way", "told", "kept", "turn", "found"] ["script"] (ak0 X0) := ⟨rfl, rfl, rfl, by decide +kernel, rfl, by decide +kernel, by decide +kernel⟩
theorem Wf0 (F : Fun K "law" "law" X0 f fd) (T : Txt K mg C NP BG BD) (Qa0 : aW0 P w K mg base 1 "_law_alone" x3 (Z3 C BG)) (Ja0 : aW0 P w K mg base 3 "_law_beds" J3 (K3 C)) (q0 : aW0 P w K mg base 2 "_law_draw" W0 (z0 C)) (Ka0 : aW0 P w K mg base 4 "_law_garden" j4 (w4 C)) (X7 : aW0 P w K mg base 1 "_law_handed" v4 (V1 C)) (Wa0 : aW0 P w K mg base 7 "_law_made" X4 (Y1 C BG)) (Va0 : aW0 P w K mg base 1 "_law_reached" j5 (w5 C)) (Ya0 : aW0 P w K mg base 2 "_law_spoiled" Q5 (y3 C)) : FnOk P w K mg base CX0 8 f fd q9 (spP (k6 C BG)) := by
 have sc := Kc0
 refine bl0 F Kc0 (fun _ _ h => bm0 h) fun cdv A outer s H E FF hr => ⟨j9 C BG, ?_, fun ts o t h => aN0 h⟩
 exact (ae0 (aE0 (i := 1) sc.nd rfl (Or.inl rfl) (aX0 Ka0 (hr.mono (by decide)) (by rfl) (aa0 (an0 (pv 0)) (aa0 (aX0 Ja0 (hr.mono (by decide)) (by rfl) (aa0 (an0 (pv 0)) (aa0 ac0 aj0))) aj0))))
   (ae0 (aE0 (i := 2) sc.nd rfl (Or.inl rfl) (aO0 (af0 (aX0 q0 (hr.mono (by decide)) (by rfl) (aa0 (an0 (pv 0)) (aa0 ac0 aj0)))) (af0 ac0)))
   (ae0 (aE0 (i := 3) sc.nd rfl (Or.inl rfl) (aL0 (eL0 Ya0 (hr.mono (by decide)) (by rfl) (aa0 (an0 (pv 1)) (aa0 (an0 (pv 2)) (aa0 (aX0 q0 (hr.mono (by decide)) (by rfl) (aa0 (an0 (pv 0)) (aa0 ac0 aj0))) aj0))))))
   (ae0 (aS0 (mf0 (ad0 (pv 2)) (af0 ac0)) (al0 (aE0 (i := 3) sc.nd rfl (Or.inl rfl) (aX0 Va0 (hr.mono (by decide)) (by rfl) (aa0 (an0 (pv 2)) aj0)))) ax0)
   (ae0 (aE0 (i := 4) sc.nd rfl (Or.inl rfl) (aL0 (eL0 X7 (hr.mono (by decide)) (by rfl) (aa0 (an0 (pv 3)) aj0))))
   (ae0 (dA0 PassesOwn.never rfl (bS0 (by rfl) T.W1 (ar0 (af0 ac0) az0)) (cR0 (aI0 (i := 5) sc.nd rfl (Or.inl rfl)))
   (ae0 (aE0 (i := 6) sc.nd rfl (Or.inl rfl) (aX0 Wa0 (hr.mono (by decide)) (by rfl) (aa0 (an0 (pv 3)) aj0)))
   (ae0 (aS0 (mP0 (hu20 hr) (bG0 (eL0 X7 (hr.mono (by decide)) (by rfl) (aa0 (an0 (pv 3)) aj0))) (ad0 (pv 4))) (al0 (bz0 gA0)) ax0)
   (ae0 (aS0 (qt_w (jk0 (mi0 (ad0 (pv 2)) (af0 ac0)) (gq0 (jr0 (hu20 hr) (af0 (aX0 Qa0 (hr.mono (by decide)) (by rfl) (aa0 (an0 (pv 6)) aj0))) (af0 ac0))))) (al0 (bz0 gA0)) ax0)
   (al0 (aS0 (qt_w (jk0 (qt_ge (ad0 (pv 2)) (af0 ac0)) (gq0 (cu0 (cp0 (mX0 T.ic (by rfl) T.x0 (by rfl) T.m_Garden (ad0 (pv 6)))))))) (al0 (bz0 gA0)) ax0))))))
   (al0 (bz0 gA0))))))))
end
end Bed1
namespace Bed1
open PySem PySem.Spec L2 L2.BD
local macro_rules | `(tactic| simp_arith! [$xs,*]) => `(tactic| simp only [sSeq, sIf, sNx, sSet, cw0, sRet, jN0, sDrop, qB, qNot, qAnd, qOr, e1, e2, bVar, eVar, eC, eFld, av0, eTup, eLst, ab0, aNil, eOr, eAnd, eNot, eSlT, eSlL, bk0, eBM, iLst, iTpl, List.getElem?_cons_zero, List.getElem?_cons_succ, Option.bind_some, Option.map_some, if_true, if_false, decide_true, decide_false, Bool.false_eq_true, cL0, φAdd, φSub, φLt, φLe, φGt, φGe, φLen, Bool.true_and, Bool.false_and, Bool.and_true, Bool.and_false, Bool.not_true, Bool.not_false, eq_self, List.set_cons_zero, List.set_cons_succ, noD, eFn, eFnF, isI, $xs,*])
local macro_rules | `(tactic| simp_arith [$xs,*]) => `(tactic| simp only [sSeq, sIf, sNx, sSet, cw0, sRet, sDrop, qB, qNot, qAnd, qOr, e1, e2, bVar, eVar, eC, eFld, av0, eTup, eLst, ab0, aNil, eOr, eAnd, eNot, eSlT, eSlL, bk0, eBM, iLst, iTpl, List.getElem?_cons_zero, List.getElem?_cons_succ, Option.bind_some, Option.map_some, if_true, if_false, decide_true, decide_false, Bool.false_eq_true, cL0, φAdd, φSub, φLt, φLe, φGt, φGe, φLen, Bool.true_and, Bool.false_and, Bool.and_true, Bool.and_false, Bool.not_true, Bool.not_false, eq_self, $xs,*])
structure Crop where
 name : Str
 change : Int
 harvest : Int
 gap : Int
 bars : List Str
structure Plot where
 soils : List Int
 top : Int
 crops : List Crop
 wants : List (Str × Int × Int)
abbrev Plot.names (p : Plot) : List Str := p.crops.map (·.name)
abbrev intT (n : Nat) : T := .int (n : Int)
def rowT (xs : List Nat) : T := .tup (xs.map intT)
def ag0 (c : Crop) : T := .tup [.str c.name, .int c.change, .int c.harvest, .int c.gap, .lst (c.bars.map .str)]
def ai0 (ws : List (Str × Int × Int)) : T := .dct (ws.map fun x => (x.1, .tup [.int x.2.1, .int x.2.2]))
def cf0 (p : Plot) : T := .tup [.lst (p.soils.map .int), .int p.top, .lst (p.crops.map ag0), ai0 p.wants]
def num (p : Plot) (x : Str) : Nat := p.names.idxOf x
def cT0 (p : Plot) (c : Crop) : List Nat := c.bars.map (num p)
def depth (p : Plot) : Int := match p.crops.map (·.gap) with | [] => 1 | g :: gs => if maxI g gs > 1 then maxI g gs else 1
def gg0 (p : Plot) : List (Str × T) :=
  [("soils", .tup (p.soils.map .int)), ("top", .int p.top), ("changes", .tup (p.crops.map fun c => .int c.change)), ("harvests", .tup (p.crops.map fun c => .int c.harvest)),
   ("gaps", .tup (p.crops.map fun c => .int c.gap)), ("bars", .tup (p.crops.map fun c => rowT (cT0 p c))), ("wants", .tup (p.wants.map fun x => .tup [intT (num p x.1), .int x.2.1, .int x.2.2])), ("depth", .int (depth p))]
def garT (C : Addr) (p : Plot) : T := .ins C (gg0 p)
theorem bo0 {N : List Str} {n : Nat} {g : En -> Option Fl} {ts : List T} {ε : En} (h : ts.length = n) (he : bQ0 N ts = ε) : fnT N n g ts = (g ε).bind cL0 := by
 unfold fnT
 rw [if_pos h, he]
theorem nd0 (f : Crop -> T) (l : List Crop) (i : Nat) (c : Crop) (h : l[i]? = some c) : φIx (.lst (l.map f)) (intT i) = some (f c) := by
 show L2.atI (l.map f) (i : Int) = _
 exact L2.atI_nat (by rw [List.getElem?_map, h]; rfl)
structure Named (p : Plot) : Prop where
 nd : p.names.Nodup
 bars : ∀ c ∈ p.crops, ∀ b ∈ c.bars, b ∈ p.names
 wants : ∀ x ∈ p.wants, x.1 ∈ p.names
theorem mu0 (xs : List Str) (x : Str) : (xs.map T.str).any (fun y => eqV (toV y) (toV (.str x))) = decide (x ∈ xs) := by
 induction xs with
 | nil => simp
 | cons y xs ih =>
  rw [List.map_cons, List.any_cons, ih]
  show ((y == x) || decide (x ∈ xs)) = _
  by_cases h : y = x
  ·subst h; simp
  ·have : (y == x) = false := by simpa using h
   rw [this]
   simp [Ne.symm h]
theorem gf0 (xs : List Str) : (xs.map T.str).all bn0 = true := by
 induction xs with
 | nil => rfl
 | cons x xs ih => rw [List.map_cons, List.all_cons, ih]; rfl
theorem mE0 (b : Bool) (x : Str) (xs : List Str) : φIn b (.str x) (.lst (xs.map .str)) = some (.bl (if b then !decide (x ∈ xs) else decide (x ∈ xs))) := by
 show (if bn0 (.str x) && (xs.map T.str).all bn0 then _ else _) = _
 rw [gf0, mu0]
 rfl
theorem aY0 (ts : List T) (k : Nat) (t : T) (h : ts[k]? = some t) : φIx (.tup ts) (.int (k : Int)) = some t := L2.atI_nat h
theorem bO0 (ts : List T) (k : Nat) (t : T) (h : ts[k]? = some t) : φIx (.lst ts) (.int (k : Int)) = some t := L2.atI_nat h
theorem dq0 {n : Nat} {t : T} (h : t ∈ aU0 0 n) : ∃ k, k < n /\ t = intT k := by
 obtain ⟨k, hk, rfl⟩ := List.mem_map.mp h
 refine ⟨k, List.mem_range.mp hk, ?_⟩
 show T.int (0 + (k : Int)) = T.int (k : Int)
 rw [Int.zero_add]
theorem cY0 (n : Nat) : aU0 0 n = (List.range n).map intT := by
 unfold aU0
 apply List.map_congr_left
 intro k _
 show T.int (0 + (k : Int)) = T.int (k : Int)
 rw [Int.zero_add]
structure Fine (p : Plot) : Prop extends Named p where
 gaps : ∀ c ∈ p.crops, 0 <= c.gap
 few : p.crops.length <= 5
structure Good (p : Plot) : Prop extends Fine p where
 keys : (p.wants.map (·.1)).Nodup
theorem jU0 {E : En -> Option T} {ε : En} {t u : T} {φ : List T -> Option T} (hE : E ε = some t) (hp : φ [t] = some u) : (sRet false (av0 φ (ab0 E aNil)) ε).bind cL0 = some (false, u) := by
 unfold sRet av0 ab0 aNil
 simp only [hE, hp, Option.bind_some, Option.map_some, cL0]
theorem am0 {φ : T -> T -> Option T} {f g : En -> Option T} {ε : En} {s t : T} (h1 : f ε = some s) (h2 : g ε = some t) : e2 φ f g ε = φ s t := by
 unfold e2
 rw [h1, h2]
 rfl
theorem at0 {g h : En -> Option Fl} {ε ε1 : En} (h1 : g ε = some (.nx ε1)) : sSeq g h ε = h ε1 := by
 unfold sSeq
 rw [h1]
 rfl
theorem fe0 {f : En -> Option (List T)} {bd : T -> En -> Option En} {body : En -> Option Fl} {ε : En} {ts : List T} {fl : Option Fl} (h1 : f ε = some ts) (h2 : dG0 bd body ts ε = fl) : sFor f bd body ε = fl := by
 unfold sFor
 rw [h1]
 exact h2
structure Bound (p : Plot) : Prop extends Good p where
 beds : 1 <= p.soils.length /\ p.soils.length <= 3
 top : 1 <= p.top /\ p.top <= 5
 soil : ∀ x ∈ p.soils, 0 <= x /\ x <= p.top
 some : 1 <= p.crops.length
 text : ∀ c ∈ p.crops, c.name ≠ ""
 chg : ∀ c ∈ p.crops, -3 <= c.change /\ c.change <= 3
 har : ∀ c ∈ p.crops, 0 <= c.harvest /\ c.harvest <= 1000
 gap : ∀ c ∈ p.crops, 0 <= c.gap /\ c.gap <= 3
 bar : ∀ c ∈ p.crops, c.bars.length <= 1000
 want : ∀ x ∈ p.wants, 0 <= x.2.1 /\ x.2.1 <= x.2.2 /\ x.2.2 <= 3
 fewW : p.wants.length <= 1000
theorem cW0 {q : En -> Option Bool} {a : En -> Option Fl} {ε : En} (h : q ε = some false) : sIf q a sNx ε = some (.nx ε) := by
 unfold sIf
 rw [h]
 rfl
def lc0 : T -> T
 | .tup [n, _, _, _, _] => n
 | _ => .non
theorem fq0 (C : Addr) (p : Plot) (h : p.crops.length <= 1000) : V0 C [.lst (p.crops.map ag0)] = some (true, .lst (p.names.map .str)) := by
 unfold V0 W8
 refine (bo0 (ε := [.sh (.lst (p.crops.map ag0))]) rfl rfl).trans ?_
 have e := bB0 (n := 1) (it := iLst (eVar 0)) (ε := [.sh (.lst (p.crops.map ag0))]) (ts := p.crops.map ag0) (bd := aA0 0) (f := e2 φIx (bVar 0) (eC (.int 0))) (G := lc0) rfl (by rw [List.length_map]; unfold big; omega) fun t ht => by
  obtain ⟨c, hc, rfl⟩ := List.mem_map.mp ht
  have b1 : φIx (ag0 c) (.int 0) = some (.str c.name) := aY0 _ 0 _ rfl
  refine ⟨_, rfl, ?_⟩
  simp_arith! [List.replicate_one, List.singleton_append, b1]
  rfl
 have e3 : (p.crops.map ag0).map lc0 = p.names.map .str := by
  rw [List.map_map, List.map_map]
  rfl
 rw [e3] at e
 unfold sRet
 rw [e]
 rfl
theorem gR0 : ∀ (xs : List Str) (x : Str), x ∈ xs -> idxT (xs.map T.str) (.str x) = some (xs.idxOf x)
 | [], _, h => nomatch h
 | y :: xs, x, h => by
  unfold idxT
  rw [List.map_cons, List.findIdx?_cons, List.idxOf_cons]
  show (if (y == x) = true then some 0 else _) = _
  by_cases e : y = x
  ·subst e; simp
  ·have hne : (y == x) = false := by simpa using e
   have hx : x ∈ xs := (List.mem_cons.mp h).resolve_left (Ne.symm e)
   have ih := gR0 xs x hx
   unfold idxT at ih
   rw [hne, if_neg Bool.false_ne_true, ih]
   rfl
theorem hl0 (xs : List Str) (x : Str) (h : x ∈ xs) (hl : xs.length <= 1000) : cv0 (.lst (xs.map .str)) [.str x] = some (intT (xs.idxOf x)) := by
 show (if bn0 (.str x) && (xs.map T.str).all bn0 && decide ((xs.map T.str).length <= big) then _ else _) = _
 rw [gf0, gR0 xs x h]
 have hd : decide ((xs.map T.str).length <= big) = true := decide_eq_true (by rw [List.length_map]; unfold big; omega)
 rw [hd]
 rfl
def it0 (p : Plot) : T -> T
 | .str x => intT (num p x)
 | _ => .non
theorem hX0 (C : Addr) (p : Plot) (xs : List Str) (h : ∀ x ∈ xs, x ∈ p.names) (hl : xs.length <= 1000) (hf : p.crops.length <= 5) : Z1 C [.lst (xs.map .str), .lst (p.names.map .str)] = some (false, rowT (xs.map (num p))) := by
 unfold Z1 Y8
 refine (bo0 (ε := [.sh (.lst (xs.map .str)), .sh (.lst (p.names.map .str))]) rfl rfl).trans ?_
 have e := bB0 (n := 1) (it := iLst (eVar 0)) (ε := [.sh (.lst (xs.map .str)), .sh (.lst (p.names.map .str))]) (ts := xs.map .str) (bd := aA0 0) (f := eBM cv0 (bVar 2) (ab0 (bVar 0) aNil)) (G := it0 p) rfl (by rw [List.length_map]; unfold big; omega) fun t ht => by
  obtain ⟨x, hx, rfl⟩ := List.mem_map.mp ht
  have b1 := hl0 p.names x (h x hx) (by rw [List.length_map]; omega)
  refine ⟨_, rfl, ?_⟩
  simp_arith! [List.replicate_one, List.singleton_append, b1]
  rfl
 have e3 : (xs.map T.str).map (it0 p) = (xs.map (num p)).map intT := by
  rw [List.map_map, List.map_map]
  rfl
 rw [e3] at e
 exact jU0 e rfl
theorem eH0 : ∀ (ks acc : List Key), (acc ++ ks).Nodup -> ks.foldl (fun acc k => if k ∈ acc then acc else acc ++ [k]) acc = acc ++ ks
 | [], acc, _ => by simp
 | k :: ks, acc, h => by
  have hk : ¬ k ∈ acc := fun z => by
   rw [List.nodup_append] at h
   exact h.2.2 k z k (List.mem_cons_self ..) rfl
  rw [List.foldl_cons, if_neg hk, eH0 ks (acc ++ [k]) (by rw [List.append_assoc]; exact h), List.append_assoc]
  rfl
theorem in0 (xs : List Str) (h : xs.Nodup) : (metK (xs.map Sum.inr)).length = xs.length := by
 have hn : (xs.map (Sum.inr : Str -> Key)).Nodup := by
  rw [List.nodup_iff_pairwise_ne] at h ⊢
  rw [List.pairwise_map]
  exact h.imp fun hne z => hne (Sum.inr.inj z)
 have := eH0 (xs.map Sum.inr) [] (by simpa using hn)
 unfold metK
 rw [this]
 simp
theorem fm0 {gs : List T -> Option (Bool × T)} {E : En -> Option T} {ε : En} {t u : T} {i : Nat} (hE : E ε = some t) (hg : gs [t] = some (true, u)) : sSet i (eFnF gs (ab0 E aNil)) ε = some (.nx (ε.set i (.sh u))) := by
 unfold sSet eFnF ab0 aNil
 simp only [hE, hg, Option.bind_some, Option.map_some]
theorem aR0 {φ : List T -> Option T} {E : En -> Option T} {ε : En} {t u : T} (hE : E ε = some t) (hp : φ [t] = some u) : av0 φ (ab0 E aNil) ε = some u := by
 unfold av0 ab0 aNil
 rw [hE]
 exact hp
theorem cx0 {C : Addr} {i : Nat} {n : Str} {f : En -> Option T} {ε : En} {fs : List (Str × T)} {t : T} (h0 : ε[i]? = some (.ow (.ins C fs))) (hl : fs.length < 1000) (hf : f ε = some t) : cj0 C i n f ε = some (.nx (ε.set i (.ow (.ins C (hS0 n t fs))))) := by
 unfold cj0
 rw [h0]
 show (if C = C /\ fs.length < 1000 then _ else _) = _
 rw [if_pos ⟨rfl, hl⟩, hf]
 rfl
def toFld (k : Nat) : T -> T
 | .tup ts => ts.getD k .non
 | _ => .non
theorem gC0 (p : Plot) (k : Nat) (g : Crop -> T) (hk : ∀ c, φIx (ag0 c) (.int (k : Int)) = some (g c)) (hf : p.crops.length <= 5) (ε : En) (hε : ε[3]? = some (.sh (.lst (p.crops.map ag0)))) :
  av0 bw0 (ab0 (aZ0 1 (iLst (eVar 3)) (aA0 0) bv0 (e2 φIx (bVar 0) (eC (.int (k : Int))))) aNil) ε = some (.tup (p.crops.map g)) := by
 have hi : iLst (eVar 3) ε = some (p.crops.map ag0) := by
  unfold iLst eVar
  rw [hε]
 have hg : ∀ c, toFld k (ag0 c) = g c := fun c => by
  have h := hk c
  have h : L2.atI [T.str c.name, .int c.change, .int c.harvest, .int c.gap, .lst (c.bars.map .str)] (k : Int) = some (g c) := h
  show ([T.str c.name, .int c.change, .int c.harvest, .int c.gap, .lst (c.bars.map .str)] : List T).getD k .non = g c
  rw [List.getD_eq_getElem?_getD]
  unfold L2.atI L2.ixN at h
  rw [if_pos (by omega)] at h
  split at h
  ·rw [Option.bind_some, Int.toNat_natCast] at h
   rw [h]
   rfl
  ·cases h
 have e := bB0 (n := 1) (bd := aA0 0) (f := e2 φIx (bVar 0) (eC (.int (k : Int)))) (G := toFld k) hi (by rw [List.length_map]; unfold big; omega) fun t ht => by
  obtain ⟨c, hc, rfl⟩ := List.mem_map.mp ht
  refine ⟨_, rfl, ?_⟩
  refine (am0 (s := ag0 c) (t := .int (k : Int)) rfl rfl).trans ?_
  rw [hk c, hg c]
 rw [List.map_map] at e
 refine (aR0 e rfl).trans ?_
 congr 2
 apply List.map_congr_left
 intro c _
 exact hg c
theorem fJ0 {φ : List T -> Option T} {E F : En -> Option T} {ε : En} {s t u : T} (hE : E ε = some s) (hF : F ε = some t) (hp : φ [s, t] = some u) : av0 φ (ab0 E (ab0 F aNil)) ε = some u := by
 unfold av0 ab0 aNil
 simp only [hE, hF, Option.bind_some]
 exact hp
def kZ0 (p : Plot) : T -> T
 | .tup [_, _, _, _, .lst bs] => .tup (bs.map (it0 p))
 | _ => .non
def nG0 (p : Plot) : T -> T
 | .tup [.str x, .tup [a, b]] => .tup [intT (num p x), a, b]
 | _ => .non
abbrev scrT (ns : List Int) : T := .scr ns
theorem mF0 (C : Addr) (ns : List Int) (k : Nat) : X1 C [scrT ns, intT k] = some (false, .int (ns.getD k 0)) := by
 unfold X1 q8
 refine (bo0 (ε := [.sh (scrT ns), .sh (intT k)]) rfl rfl).trans ?_
 by_cases h : k < ns.length
 ·have h1 : (k : Int) < (ns.length : Int) := by omega
  have h2 : φIx (.scr ns) (intT k) = some (.int ns[k]) := by
   show (L2.atI ns (k : Int)).map T.int = _
   rw [L2.atI_nat (List.getElem?_eq_getElem h)]
   rfl
  simp_arith! [h1, h2]
  rw [List.getD_eq_getElem?_getD, List.getElem?_eq_getElem h]
  rfl
 ·have h1 : ¬ (k : Int) < (ns.length : Int) := by omega
  simp_arith! [h1]
  rw [List.getD_eq_getElem?_getD, List.getElem?_eq_none (by omega)]
  rfl
theorem bP0 {gs : List T -> Option (Bool × T)} {E F : En -> Option T} {ε : En} {s t u : T} (hE : E ε = some s) (hF : F ε = some t) (hp : gs [s, t] = some (false, u)) : eFn gs (ab0 E (ab0 F aNil)) ε = some u := by
 unfold eFn ab0 aNil
 simp only [hE, hF, Option.bind_some, hp, noD, Bool.false_and, Bool.false_eq_true, if_false]
theorem gk0 {E : En -> Option T} {ε : En} {t : T} (hE : E ε = some t) : (sRet false E ε).bind cL0 = some (false, t) := by
 unfold sRet
 rw [hE]
 rfl
def as0 (ns : List Int) (k : Nat) : Int := (ns.getD (k % 61) 0 + 7919 * (k : Int)) * (48271 + 2 * (k : Int)) % 2147483647
theorem cy0 (C : Addr) (ns : List Int) (k : Nat) (hk : k <= 1000) : z0 C [scrT ns, intT k] = some (false, .int (as0 ns k)) := by
 unfold z0 j8
 refine (bo0 (ε := [.sh (scrT ns), .sh (intT k)]) rfl rfl).trans ?_
 have c := mF0 C ns (k % 61)
 have m1 : φMod (intT k) (.int 61) = some (intT (k % 61)) := by
  simp only [intT, φMod]
  rw [if_pos (by omega)]
  rw [Int.natCast_emod]
  rfl
 have m2 : ∀ i j : Int, -1000000 < j -> j < 1000000 -> φMul (.int i) (.int j) = some (.int (i * j)) := fun i j h1 h2 => by
  simp only [φMul]
  rw [if_pos ⟨by omega, by omega⟩]
 have m3 : ∀ i : Int, φMod (.int i) (.int 2147483647) = some (.int (i % 2147483647)) := fun i => by
  simp only [φMod]
  rw [if_pos (by omega)]
 have s0 : e2 φMod (bVar 1) (eC (.int 61)) [.sh (scrT ns), .sh (intT k)] = some (intT (k % 61)) := (am0 (s := intT k) (t := .int 61) rfl rfl).trans m1
 have s1 : eFn (X1 C) (ab0 (eVar 0) (ab0 (e2 φMod (bVar 1) (eC (.int 61))) aNil)) [.sh (scrT ns), .sh (intT k)] = some (.int (ns.getD (k % 61) 0)) := bP0 rfl s0 c
 have s2 : e2 φMul (eC (.int 7919)) (bVar 1) [.sh (scrT ns), .sh (intT k)] = some (.int (7919 * (k : Int))) := (am0 (s := .int 7919) (t := intT k) rfl rfl).trans (m2 _ _ (by omega) (by omega))
 have s3 := (am0 (φ := φAdd) s1 s2)
 have s4 : e2 φMul (eC (.int 2)) (bVar 1) [.sh (scrT ns), .sh (intT k)] = some (.int (2 * (k : Int))) := (am0 (s := .int 2) (t := intT k) rfl rfl).trans (m2 _ _ (by omega) (by omega))
 have s5 := (am0 (φ := φAdd) (f := eC (.int 48271)) (s := .int 48271) rfl s4)
 have s6 := (am0 (φ := φMul) s3 s5).trans (m2 _ _ (by omega) (by omega))
 have s7 := (am0 (φ := φMod) (g := eC (.int 2147483647)) (t := .int 2147483647) s6 rfl).trans (m3 _)
 exact gk0 s7
theorem mk0 (ns : List Int) (k : Nat) : 0 <= as0 ns k := Int.emod_nonneg _ (by decide)
def aP0 (p : Plot) : T := .lst [.lst (p.soils.map .int), .int p.top, .lst (p.crops.map ag0), ai0 p.wants]
theorem aK0 (i j : Int) (h : 0 < j) : φMod (.int i) (.int j) = some (.int (i % j)) := by
 simp only [φMod]
 rw [if_pos h]
theorem iB0 (i j : Int) (h1 : -1000000 < j) (h2 : j < 1000000) : φMul (.int i) (.int j) = some (.int (i * j)) := by
 simp only [φMul]
 rw [if_pos ⟨by omega, by omega⟩]
theorem fj0 (i j : Int) (h : 0 < j) (h2 : j < 1000) : φDiv (.int i) (.int j) = some (.int (i / j)) := by
 simp only [φDiv]
 rw [if_pos ⟨h, by omega⟩]
theorem eqI (i j : Int) : φEq (.int i) (.int j) = some (.bl (decide (i = j))) := by
 show some (T.bl (decide (V.int i = V.int j))) = _
 by_cases h : i = j
 ·subst h; simp
 ·rw [decide_eq_false h, decide_eq_false fun z => h (V.int.inj z)]
theorem aF0 {i : Nat} {f : En -> Option T} {ε : En} {t : T} (h : f ε = some t) : sSet i f ε = some (.nx (ε.set i (.sh t))) := by
 unfold sSet
 rw [h]
 rfl
theorem cJ0 {i : Nat} {f : En -> Option T} {ε : En} {t : T} (h : f ε = some t) (hi : isI t = false) : cw0 i f ε = some (.nx (ε.set i (.ow t))) := by
 unfold cw0
 rw [h]
 show (if isI t = true then none else _) = _
 rw [hi]
 rfl
theorem bH0 {q : En -> Option Bool} {a b : En -> Option Fl} {ε : En} {c : Bool} (h : q ε = some c) : sIf q a b ε = if c = true then a ε else b ε := by
 unfold sIf
 rw [h]
 rfl
theorem by0 {f : En -> Option T} {ε : En} {b : Bool} (h : f ε = some (.bl b)) : qB f ε = some b := by
 unfold qB
 rw [h]
theorem ret1 {o : Bool} {E : En -> Option T} {ε : En} {t : T} (h : E ε = some t) : sRet o E ε = some (.rt o t) := by
 unfold sRet
 rw [h]
 rfl
theorem ah0 {g h : En -> Option Fl} {ε ε1 : En} (h1 : g ε = some (.nx ε1)) : (sSeq g h ε).bind cL0 = (h ε1).bind cL0 := by rw [at0 h1]
theorem mZ0 {g h : En -> Option Fl} {ε : En} {o : Bool} {t : T} (h1 : g ε = some (.rt o t)) : sSeq g h ε = some (.rt o t) := by
 unfold sSeq
 rw [h1]
 rfl
theorem na0 {g h : En -> Option Fl} {ε : En} {o : Bool} {t : T} (h1 : g ε = some (.rt o t)) : (sSeq g h ε).bind cL0 = some (o, t) := by
 rw [mZ0 h1]
 rfl
theorem ap0 {f : En -> Option T} {g : En -> Option (List T)} {ε : En} {t : T} {ts : List T} (h1 : f ε = some t) (h2 : g ε = some ts) : ab0 f g ε = some (t :: ts) := by
 unfold ab0
 rw [h1, Option.bind_some, h2]
 rfl
theorem dO0 {g : En -> Option (List T)} {ε : En} {ts : List T} (h : g ε = some ts) (hl : ts.length <= big) : eTup g ε = some (.tup ts) := by
 unfold eTup
 rw [h]
 show (if _ then _ else _) = _
 rw [if_pos hl]
theorem gT0 {g : En -> Option (List T)} {ε : En} {ts : List T} (h : g ε = some ts) (hl : ts.length <= big) : eLst g ε = some (.lst ts) := by
 unfold eLst
 rw [h]
 show (if _ then _ else _) = _
 rw [if_pos hl]
theorem mj0 {i : Nat} {f : En -> Option T} {ε : En} {ts : List T} {t : T} (h0 : ε[i]? = some (.ow (.lst ts))) (hl : ts.length < big) (hf : f ε = some t) : sApp i f ε = some (.nx (ε.set i (.ow (.lst (ts ++ [t]))))) := by
 unfold sApp
 rw [h0]
 show (f ε).bind _ = _
 rw [hf]
 show (if _ then _ else _) = _
 rw [if_pos hl]
theorem gO0 {i : Nat} {fk fv : En -> Option T} {ε : En} {kts : List (Str × T)} {k : Str} {v : T} (h0 : ε[i]? = some (.ow (.dct kts))) (hl : kts.length < big) (hv : fv ε = some v) (hk : fk ε = some (.str k)) : BD.sDPut i fk fv ε = some (.nx (ε.set i (.ow (.dct (putT kts k v))))) := by
 unfold BD.sDPut
 rw [h0]
 show (fv ε).bind _ = _
 rw [hv, Option.bind_some, hk]
 show (if _ then _ else _) = _
 rw [if_pos hl]
theorem bT0 {g : En -> Option (List T)} {ε : En} {n : Nat} (h : g ε = some [intT n]) (hn : n < 1000000) : bt0 g ε = some (aU0 0 n) := by
 unfold bt0
 rw [h]
 show (if -(2 ^ 62) <= (n : Int) /\ (n : Int) < 2 ^ 62 then some (aU0 0 (n : Int).toNat) else none) = _
 rw [if_pos ⟨by omega, by omega⟩, Int.toNat_natCast]
theorem fI0 (l : List Int) (m lo hi : Int) (h0 : 0 <= m) (h1 : m < l.length) (hl : ∀ x ∈ l, lo <= x /\ x <= hi) : ∃ v, φIx (.lst (l.map .int)) (.int m) = some (.int v) /\ lo <= v /\ v <= hi := by
 obtain ⟨k, rfl⟩ := Int.eq_ofNat_of_zero_le h0
 have hk : k < l.length := by omega
 exact ⟨l[k], bO0 _ k _ (by rw [List.getElem?_map, List.getElem?_eq_getElem hk]; rfl), hl _ (List.getElem_mem hk)⟩
theorem hr0 {n : Nat} {ε : En} {bd : T -> En -> Option En} {f : En -> Option T} {α : Type} (E : α -> T) (R : T -> α -> Prop) : ∀ (ts : List T),
  (∀ t, t ∈ ts -> ∃ ε1 a, bd t (List.replicate n .un ++ ε) = some ε1 /\ f ε1 = some (E a) /\ R t a) -> ∃ as : List α, dB0 n ε bd bv0 f ts = some (as.map E) /\ as.length = ts.length /\ ∀ (i : Nat) t, ts[i]? = some t -> ∃ a, as[i]? = some a /\ R t a
 | [], _ => ⟨[], rfl, rfl, fun i t h => by simp at h⟩
 | t :: ts, h => by
  obtain ⟨ε1, a, h1, h2, h3⟩ := h t (List.mem_cons_self ..)
  obtain ⟨as, h4, h5, h6⟩ := hr0 E R ts fun u hu => h u (List.mem_cons_of_mem _ hu)
  refine ⟨a :: as, ?_, by simp [h5], fun i u hu => ?_⟩
  ·unfold dB0
   have q : bv0 ε1 = some true := rfl
   rw [h1, Option.bind_some, q, Option.bind_some, if_pos rfl, h2, Option.bind_some, h4]
   rfl
  ·cases i with
   | zero => simp at hu; subst hu; exact ⟨a, rfl, h3⟩
   | succ i =>
    obtain ⟨b, q1, q2⟩ := h6 i u (by simpa using hu)
    exact ⟨b, by simpa using q1, q2⟩
theorem gQ0 {n : Nat} {it : En -> Option (List T)} {ε : En} {bd : T -> En -> Option En} {f : En -> Option T} {α : Type} {ts : List T} (E : α -> T) (R : T -> α -> Prop) (hi : it ε = some ts) (hl : ts.length <= big)
  (h : ∀ t, t ∈ ts -> ∃ ε1 a, bd t (List.replicate n .un ++ ε) = some ε1 /\ f ε1 = some (E a) /\ R t a) : ∃ as : List α, aZ0 n it bd bv0 f ε = some (.lst (as.map E)) /\ as.length = ts.length /\ ∀ (i : Nat) t, ts[i]? = some t -> ∃ a, as[i]? = some a /\ R t a := by
 obtain ⟨as, h1, h2⟩ := hr0 (ε := ε) (n := n) (bd := bd) (f := f) E R ts h
 refine ⟨as, ?_, h2⟩
 unfold aZ0
 rw [hi, Option.bind_some, if_pos hl, h1]
 rfl
theorem dT0 {n i : Nat} (h : i < n) : (aU0 0 n)[i]? = some (intT i) := by
 rw [cY0, List.getElem?_map, List.getElem?_range h]
 rfl
theorem aV0 (n : Nat) : (aU0 0 n).length = n := by rw [cY0, List.length_map, List.length_range]
theorem fA0 {n i : Nat} {t : T} (h : (aU0 0 n)[i]? = some t) : i < n /\ t = intT i := by
 obtain ⟨h1, h2⟩ := eO0 h
 exact ⟨h1, by rw [h2, Int.zero_add]⟩
theorem ig0 (C : Addr) (ns : List Int) : ∃ b : Nat, (1 <= b /\ b <= 3) /\ K3 C [scrT ns, .int 3] = some (false, intT b) := by
 have h0 : 0 <= as0 ns 8 % 3 := Int.emod_nonneg _ (by decide)
 have h1 : as0 ns 8 % 3 < 3 := Int.emod_lt_of_pos _ (by decide)
 refine ⟨(1 + as0 ns 8 % 3).toNat, by omega, ?_⟩
 have e0 : intT (1 + as0 ns 8 % 3).toNat = .int (1 + as0 ns 8 % 3) := by
  show T.int _ = _
  rw [Int.toNat_of_nonneg (by omega)]
 rw [e0]
 unfold K3 k8
 refine Eq.trans (bo0 (ε := [.sh (scrT ns), .sh (.int 3), .un]) rfl rfl) ?_
 refine Eq.trans (ah0 (aF0 (bP0 rfl rfl (cy0 C ns 8 (by decide))))) ?_
 have t1 : φEq (.int 3) (.int 3) = some (.bl true) := by rw [eqI]; rfl
 refine na0 ?_
 refine Eq.trans (bH0 (c := true) (by0 ((am0 rfl rfl).trans t1))) ?_
 refine ret1 ?_
 exact am0 (φ := φAdd) (s := .int 1) rfl ((am0 (s := .int (as0 ns 8)) (t := .int 3) rfl rfl).trans (aK0 _ _ (by decide)))
section
variable (C : Addr) (ns : List Int)
theorem jx0 {ε : En} {c k : Nat} {i : Nat} (h0 : eVar 0 ε = some (scrT ns)) (h1 : bVar i ε = some (intT k)) (hk : k < 5) (hc : c <= 100) :
  eFn (z0 C) (ab0 (eVar 0) (ab0 (e2 φAdd (eC (.int (c : Int))) (e2 φMul (eC (.int 10)) (bVar i))) aNil)) ε = some (.int (as0 ns (c + 10 * k))) := by
 have s1 : e2 φMul (eC (.int 10)) (bVar i) ε = some (.int (10 * (k : Int))) := (am0 (s := .int 10) (t := intT k) rfl h1).trans (iB0 _ _ (by omega) (by omega))
 have s2 : e2 φAdd (eC (.int (c : Int))) (e2 φMul (eC (.int 10)) (bVar i)) ε = some (intT (c + 10 * k)) := by
  rw [am0 (φ := φAdd) (s := .int (c : Int)) rfl s1]
  refine congrArg (fun z => some (T.int z)) ?_
  omega
 exact bP0 h0 s2 (cy0 C ns _ (by omega))
theorem iT0 (k : Nat) (names : List Str) (hn : names.length <= 5) (hk : k < names.length) (gaps : Int) (hg : 0 <= gaps /\ gaps <= 3) :
  ∃ c : Crop, j2 C [scrT ns, intT k, .lst (names.map .str), .int gaps] = some (false, ag0 c) /\ names[k]? = some c.name /\ (-3 <= c.change /\ c.change <= 3) /\ (0 <= c.harvest /\ c.harvest <= 1000) /\ (0 <= c.gap /\ c.gap <= 3) /\ (∀ b ∈ c.bars, b ∈ names) /\ c.bars.length <= 5 := by
 have hz : ∀ (h : Int), φIx (.lst [.int 10, .int 3, .int 1001]) (.int (as0 ns 9 % 3)) = some (.int h) -> True := fun _ _ => trivial
 obtain ⟨hv, hv1, hv2, hv3⟩ := fI0 [10, 3, 1001] (as0 ns 9 % 3) 3 1001 (Int.emod_nonneg _ (by decide)) (Int.emod_lt_of_pos _ (by decide)) (by decide)
 have lp := dM0 (bd := aA0 5) (body := sIf (qB (e2 φEq (e2 φMod (eFn (z0 C) (ab0 (eVar 0) (ab0 (e2 φAdd (e2 φAdd (eC (.int 20)) (e2 φMul (eC (.int 10)) (bVar 1))) (bVar 5)) aNil))) (eC (.int 5))) (eC (.int 1)))) (sApp 4 (e2 φIx (bVar 2) (bVar 5))) sNx)
  (fun i ε => ∃ (bs : List Str) (x : Sl), ε = [.sh (scrT ns), .sh (intT k), .sh (.lst (names.map .str)), .sh (.int gaps), .ow (.lst (bs.map .str)), x, .un, .un] /\ (∀ b ∈ bs, b ∈ names) /\ bs.length <= i)
  (aU0 0 names.length) 0 [.sh (scrT ns), .sh (intT k), .sh (.lst (names.map .str)), .sh (.int gaps), .ow (.lst []), .un, .un, .un] ⟨[], .un, rfl, (fun b hb => nomatch hb), Nat.le_refl _⟩ fun i t ε ht hI => by
   obtain ⟨hi, rfl⟩ := fA0 ht
   obtain ⟨bs, x, rfl, hb, hl⟩ := hI
   rw [Nat.zero_add] at hl ⊢
   have s1 : e2 φMul (eC (.int 10)) (bVar 1) [.sh (scrT ns), .sh (intT k), .sh (.lst (names.map .str)), .sh (.int gaps), .ow (.lst (bs.map .str)), .sh (intT i), .un, .un] = some (.int (10 * (k : Int))) := (am0 (s := .int 10) (t := intT k) rfl rfl).trans (iB0 _ _ (by omega) (by omega))
   have s2 := am0 (φ := φAdd) (f := eC (.int 20)) (s := .int 20) rfl s1
   have s3 : e2 φAdd (e2 φAdd (eC (.int 20)) (e2 φMul (eC (.int 10)) (bVar 1))) (bVar 5) [.sh (scrT ns), .sh (intT k), .sh (.lst (names.map .str)), .sh (.int gaps), .ow (.lst (bs.map .str)), .sh (intT i), .un, .un] = some (intT (20 + 10 * k + i)) := by
    rw [am0 (φ := φAdd) (g := bVar 5) (t := intT i) s2 rfl]
    refine congrArg (fun z => some (T.int z)) ?_
    omega
   have s4 : eFn (z0 C) (ab0 (eVar 0) (ab0 (e2 φAdd (e2 φAdd (eC (.int 20)) (e2 φMul (eC (.int 10)) (bVar 1))) (bVar 5)) aNil)) [.sh (scrT ns), .sh (intT k), .sh (.lst (names.map .str)), .sh (.int gaps), .ow (.lst (bs.map .str)), .sh (intT i), .un, .un] = some (.int (as0 ns (20 + 10 * k + i))) := bP0 rfl s3 (cy0 C ns _ (by omega))
   have s5 := (am0 (φ := φMod) (g := eC (.int 5)) (t := .int 5) s4 rfl).trans (aK0 _ 5 (by decide))
   have s6 := by0 ((am0 (φ := φEq) (g := eC (.int 1)) (t := .int 1) s5 rfl).trans (eqI _ _))
   refine ⟨_, (if as0 ns (20 + 10 * k + i) % 5 = 1 then [.sh (scrT ns), .sh (intT k), .sh (.lst (names.map .str)), .sh (.int gaps), .ow (.lst ((bs ++ [names[i]]).map .str)), .sh (intT i), .un, .un] else [.sh (scrT ns), .sh (intT k), .sh (.lst (names.map .str)), .sh (.int gaps), .ow (.lst (bs.map .str)), .sh (intT i), .un, .un]), rfl, .inl ?_, ?_⟩
   ·refine Eq.trans (bH0 s6) ?_
    by_cases hq : as0 ns (20 + 10 * k + i) % 5 = 1
    ·rw [if_pos hq, if_pos (decide_eq_true hq)]
     have hx : φIx (.lst (names.map .str)) (intT i) = some (.str names[i]) := bO0 _ i _ (by rw [List.getElem?_map, List.getElem?_eq_getElem hi]; rfl)
     refine Eq.trans (mj0 (ts := bs.map .str) (t := .str names[i]) rfl (by rw [List.length_map]; unfold big; omega) ((am0 rfl rfl).trans hx)) ?_
     rw [List.map_append]
     rfl
    ·rw [if_neg hq, if_neg (by simp [hq])]
     rfl
   ·by_cases hq : as0 ns (20 + 10 * k + i) % 5 = 1
    ·rw [if_pos hq]
     refine ⟨_, _, rfl, fun b hb' => ?_, by rw [List.length_append]; simp; omega⟩
     rcases List.mem_append.mp hb' with h | h
     ·exact hb b h
     ·rw [List.mem_singleton.mp h]; exact List.getElem_mem hi
    ·rw [if_neg hq]
     exact ⟨_, _, rfl, hb, by omega⟩
 obtain ⟨ε', hl, bs, x, rfl, hbs, hbl⟩ := lp
 rw [aV0] at hbl
 refine ⟨⟨names[k], as0 ns (27 + 10 * k) % 7 - 3, as0 ns (26 + 10 * k) % hv, as0 ns (28 + 10 * k) % (gaps + 1), bs⟩, ?_, List.getElem?_eq_getElem hk, ?_, ?_, ?_, hbs, by show bs.length <= 5; omega⟩
 ·unfold j2 v8
  refine Eq.trans (bo0 (ε := [.sh (scrT ns), .sh (intT k), .sh (.lst (names.map .str)), .sh (.int gaps), .un, .un, .un, .un]) rfl rfl) ?_
  refine Eq.trans (ah0 (cJ0 (t := .lst []) (gT0 rfl (Nat.zero_le _)) rfl)) ?_
  refine Eq.trans (ah0 (fe0 (bT0 (n := names.length) (ap0 (aR0 rfl (by show some (T.int _) = _; rw [List.length_map])) rfl) (by omega)) hl)) ?_
  have d26 := jx0 C ns (ε := [.sh (scrT ns), .sh (intT k), .sh (.lst (names.map .str)), .sh (.int gaps), .ow (.lst (bs.map .str)), x, .un, .un]) (c := 26) (k := k) (i := 1) rfl rfl (by omega) (by decide)
  have d9 : eFn (z0 C) (ab0 (eVar 0) (ab0 (eC (.int 9)) aNil)) [.sh (scrT ns), .sh (intT k), .sh (.lst (names.map .str)), .sh (.int gaps), .ow (.lst (bs.map .str)), x, .un, .un] = some (.int (as0 ns 9)) := bP0 rfl rfl (cy0 C ns 9 (by decide))
  have i9 := (am0 (φ := φIx) (f := eLst (ab0 (eC (.int 10)) (ab0 (eC (.int 3)) (ab0 (eC (.int 1001)) aNil)))) (s := .lst [.int 10, .int 3, .int 1001]) rfl ((am0 (φ := φMod) (g := eC (.int 3)) (t := .int 3) d9 rfl).trans (aK0 _ 3 (by decide)))).trans hv1
  refine Eq.trans (ah0 (aF0 ((am0 (φ := φMod) d26 i9).trans (aK0 _ _ (by omega))))) ?_
  have d27 := jx0 C ns (ε := [.sh (scrT ns), .sh (intT k), .sh (.lst (names.map .str)), .sh (.int gaps), .ow (.lst (bs.map .str)), x, .sh (.int (as0 ns (26 + 10 * k) % hv)), .un]) (c := 27) (k := k) (i := 1) rfl rfl (by omega) (by decide)
  refine Eq.trans (ah0 (aF0 (am0 (φ := φSub) (t := .int 3) ((am0 (φ := φMod) (t := .int 7) d27 rfl).trans (aK0 _ _ (by decide))) rfl))) ?_
  have d28 := jx0 C ns (ε := [.sh (scrT ns), .sh (intT k), .sh (.lst (names.map .str)), .sh (.int gaps), .sh (.lst (bs.map .str)), x, .sh (.int (as0 ns (26 + 10 * k) % hv)), .sh (.int (as0 ns (27 + 10 * k) % 7 - 3))]) (c := 28) (k := k) (i := 1) rfl rfl (by omega) (by decide)
  have hx : φIx (.lst (names.map .str)) (intT k) = some (.str names[k]) := bO0 _ k _ (by rw [List.getElem?_map, List.getElem?_eq_getElem hk]; rfl)
  refine gk0 ?_
  refine dO0 (ap0 ((am0 rfl rfl).trans hx) (ap0 rfl (ap0 rfl (ap0 ((am0 (φ := φMod) d28 (am0 (φ := φAdd) (s := .int gaps) (t := .int 1) rfl rfl)).trans (aK0 _ _ (by omega))) (ap0 rfl rfl))))) (show (5 : Nat) <= 1000000 by decide)
 ·have a := Int.emod_nonneg (as0 ns (27 + 10 * k)) (show (7 : Int) ≠ 0 by decide)
  have b := Int.emod_lt_of_pos (as0 ns (27 + 10 * k)) (show (0 : Int) < 7 by decide)
  show -3 <= as0 ns (27 + 10 * k) % 7 - 3 /\ as0 ns (27 + 10 * k) % 7 - 3 <= 3
  omega
 ·have a := Int.emod_nonneg (as0 ns (26 + 10 * k)) (show hv ≠ 0 by omega)
  have b := Int.emod_lt_of_pos (as0 ns (26 + 10 * k)) (show 0 < hv by omega)
  show 0 <= as0 ns (26 + 10 * k) % hv /\ as0 ns (26 + 10 * k) % hv <= 1000
  omega
 ·have a := Int.emod_nonneg (as0 ns (28 + 10 * k)) (show gaps + 1 ≠ 0 by omega)
  have b := Int.emod_lt_of_pos (as0 ns (28 + 10 * k)) (show 0 < gaps + 1 by omega)
  show 0 <= as0 ns (28 + 10 * k) % (gaps + 1) /\ as0 ns (28 + 10 * k) % (gaps + 1) <= 3
  omega
end
section
variable (C : Addr) (ns : List Int)
theorem en0 {ws : List (Str × Int × Int)} {x : Str} (h : ∀ w ∈ ws, w.1 ≠ x) (a b : Int) : putT (ws.map fun x => (x.1, T.tup [.int x.2.1, .int x.2.2])) x (.tup [.int a, .int b]) = (ws ++ [(x, a, b)]).map fun x => (x.1, T.tup [.int x.2.1, .int x.2.2]) := by
 unfold putT
 rw [if_neg, List.map_append]
 ·rfl
 ·intro z
  obtain ⟨q, hq, e⟩ := List.any_eq_true.mp z
  obtain ⟨w, hw, rfl⟩ := List.mem_map.mp hq
  exact h w hw (of_decide_eq_true e)
theorem hE0 (names : List Str) (hn : names.length <= 5) (nd : names.Nodup) (b : Nat) (hb : b <= 3) :
  ∃ ws : List (Str × Int × Int), Y3 C [scrT ns, .lst (names.map .str), intT b] = some (true, ai0 ws) /\ (ws.map (·.1)).Nodup /\ (∀ x ∈ ws, x.1 ∈ names) /\ (∀ x ∈ ws, 0 <= x.2.1 /\ x.2.1 <= x.2.2 /\ x.2.2 <= 3) /\ ws.length <= 5 := by
 have lp := dM0 (bd := aA0 4) (body := sSeq (sSet 5 (eFn (z0 C) (ab0 (eVar 0) (ab0 (e2 φAdd (eC (.int 80)) (bVar 4)) aNil))))
  (sIf (qB (e2 φEq (e2 φMod (bVar 5) (eC (.int 5))) (eC (.int 1)))) (sSeq (sSet 6 (e2 φIx (eLst (ab0 (eC (.int 0)) (ab0 (eC (.int 0)) (ab0 (eC (.int 1)) (ab0 (eVar 2) aNil))))) (e2 φMod (e2 φDiv (bVar 5) (eC (.int 5))) (eC (.int 4)))))
  (BD.sDPut 3 (e2 φIx (bVar 1) (bVar 4)) (eTup (ab0 (eVar 6) (ab0 (av0 hI0 (ab0 (eC (.int 3)) (ab0 (e2 φAdd (bVar 6) (e2 φMod (e2 φDiv (bVar 5) (eC (.int 20))) (e2 φAdd (bVar 2) (eC (.int 1))))) aNil))) aNil))))) sNx))
  (fun i ε => ∃ (ws : List (Str × Int × Int)) (x4 x5 x6 : Sl), ε = [.sh (scrT ns), .sh (.lst (names.map .str)), .sh (intT b), .ow (ai0 ws), x4, x5, x6] /\ (ws.map (·.1)).Nodup /\ (∀ x ∈ ws, ∃ j, j < i /\ names[j]? = some x.1) /\ (∀ x ∈ ws, 0 <= x.2.1 /\ x.2.1 <= x.2.2 /\ x.2.2 <= 3) /\ ws.length <= i)
  (aU0 0 names.length) 0 [.sh (scrT ns), .sh (.lst (names.map .str)), .sh (intT b), .ow (ai0 []), .un, .un, .un] ⟨[], .un, .un, .un, rfl, List.nodup_nil, (fun x hx => nomatch hx), (fun x hx => nomatch hx), Nat.le_refl _⟩ fun i t ε ht hI => by
   obtain ⟨hi, rfl⟩ := fA0 ht
   obtain ⟨ws, x4, x5, x6, rfl, h1, h2, h3, h4⟩ := hI
   rw [Nat.zero_add] at h2 h4 ⊢
   have s1 : e2 φAdd (eC (.int 80)) (bVar 4) [.sh (scrT ns), .sh (.lst (names.map .str)), .sh (intT b), .ow (ai0 ws), .sh (intT i), x5, x6] = some (intT (80 + i)) := by
    rw [am0 (φ := φAdd) (s := .int 80) (t := intT i) rfl rfl]
    refine congrArg (fun z => some (T.int z)) ?_
    omega
   have s2 : eFn (z0 C) (ab0 (eVar 0) (ab0 (e2 φAdd (eC (.int 80)) (bVar 4)) aNil)) [.sh (scrT ns), .sh (.lst (names.map .str)), .sh (intT b), .ow (ai0 ws), .sh (intT i), x5, x6] = some (.int (as0 ns (80 + i))) := bP0 rfl s1 (cy0 C ns _ (by omega))
   have s3 : e2 φMod (bVar 5) (eC (.int 5)) [.sh (scrT ns), .sh (.lst (names.map .str)), .sh (intT b), .ow (ai0 ws), .sh (intT i), .sh (.int (as0 ns (80 + i))), x6] = some (.int (as0 ns (80 + i) % 5)) := (am0 (s := .int (as0 ns (80 + i))) (t := .int 5) rfl rfl).trans (aK0 _ _ (by decide))
   have s4 := by0 ((am0 (φ := φEq) (g := eC (.int 1)) (t := .int 1) s3 rfl).trans (eqI _ _))
   by_cases hq : as0 ns (80 + i) % 5 = 1
   ·obtain ⟨lv, l1, l2, l3⟩ := fI0 [0, 0, 1, (b : Int)] (as0 ns (80 + i) / 5 % 4) 0 3 (Int.emod_nonneg _ (by decide)) (Int.emod_lt_of_pos _ (by decide)) (by
     intro x hx
     simp only [List.mem_cons, List.not_mem_nil, or_false] at hx
     omega)
    have m0 := Int.emod_nonneg (as0 ns (80 + i) / 20) (show (b : Int) + 1 ≠ 0 by omega)
    have hx : φIx (.lst (names.map .str)) (intT i) = some (.str names[i]) := bO0 _ i _ (by rw [List.getElem?_map, List.getElem?_eq_getElem hi]; rfl)
    have fresh : ∀ w ∈ ws, w.1 ≠ names[i] := fun w hw z => by
     obtain ⟨j, hj, e⟩ := h2 w hw
     rw [z] at e
     have := eR0 nd e (List.getElem?_eq_getElem hi)
     omega
    have d5 : e2 φMod (e2 φDiv (bVar 5) (eC (.int 5))) (eC (.int 4)) [.sh (scrT ns), .sh (.lst (names.map .str)), .sh (intT b), .ow (ai0 ws), .sh (intT i), .sh (.int (as0 ns (80 + i))), x6] = some (.int (as0 ns (80 + i) / 5 % 4)) := (am0 (t := .int 4) ((am0 (s := .int (as0 ns (80 + i))) (t := .int 5) rfl rfl).trans (fj0 _ _ (by decide) (by decide))) rfl).trans (aK0 _ _ (by decide))
    have r6 := aF0 (i := 6) ((am0 (φ := φIx) (f := eLst (ab0 (eC (.int 0)) (ab0 (eC (.int 0)) (ab0 (eC (.int 1)) (ab0 (eVar 2) aNil))))) (s := .lst [.int 0, .int 0, .int 1, intT b]) rfl d5).trans l1)
    have d20 : e2 φMod (e2 φDiv (bVar 5) (eC (.int 20))) (e2 φAdd (bVar 2) (eC (.int 1))) [.sh (scrT ns), .sh (.lst (names.map .str)), .sh (intT b), .ow (ai0 ws), .sh (intT i), .sh (.int (as0 ns (80 + i))), .sh (.int lv)] = some (.int (as0 ns (80 + i) / 20 % ((b : Int) + 1))) := (am0 ((am0 (s := .int (as0 ns (80 + i))) (t := .int 20) rfl rfl).trans (fj0 _ _ (by decide) (by decide))) (am0 (φ := φAdd) (s := intT b) (t := .int 1) rfl rfl)).trans (aK0 _ _ (by omega))
    have a6 := am0 (φ := φAdd) (f := bVar 6) (s := .int lv) rfl d20
    have mn := fJ0 (φ := hI0) (E := eC (.int 3)) (s := .int 3) rfl a6 rfl
    have tp := dO0 (ap0 (f := eVar 6) (t := .int lv) rfl (ap0 (g := aNil) (ts := []) mn rfl)) (show (2 : Nat) <= 1000000 by decide)
    have pt := gO0 (i := 3) (fk := e2 φIx (bVar 1) (bVar 4)) (k := names[i]) (kts := ws.map fun x => (x.1, T.tup [.int x.2.1, .int x.2.2])) rfl (by rw [List.length_map]; unfold big; omega) tp ((am0 (s := .lst (names.map .str)) (t := intT i) rfl rfl).trans hx)
    rw [en0 fresh] at pt
    refine ⟨_, _, rfl, .inl (Eq.trans (at0 (aF0 s2)) (Eq.trans (bH0 s4) (Eq.trans (if_pos (decide_eq_true hq)) (Eq.trans (at0 r6) pt)))), ?_⟩
    refine ⟨ws ++ [(names[i], lv, _)], _, _, _, rfl, ?_, fun x hx' => ?_, fun x hx' => ?_, by rw [List.length_append]; simp; omega⟩
    ·rw [List.map_append]
     refine ip0 h1 fun z => ?_
     obtain ⟨w, hw, e⟩ := List.mem_map.mp z
     exact fresh w hw e
    ·rcases List.mem_append.mp hx' with h | h
     ·obtain ⟨j, hj, e⟩ := h2 x h
      exact ⟨j, by omega, e⟩
     ·rw [List.mem_singleton.mp h]
      exact ⟨i, by omega, List.getElem?_eq_getElem hi⟩
    ·rcases List.mem_append.mp hx' with h | h
     ·exact h3 x h
     ·rw [List.mem_singleton.mp h]
      show 0 <= lv /\ lv <= (if lv + as0 ns (80 + i) / 20 % ((b : Int) + 1) < 3 then lv + as0 ns (80 + i) / 20 % ((b : Int) + 1) else 3) /\ (if lv + as0 ns (80 + i) / 20 % ((b : Int) + 1) < 3 then lv + as0 ns (80 + i) / 20 % ((b : Int) + 1) else 3) <= (3 : Int)
      split
      ·omega
      ·omega
   ·refine ⟨_, _, rfl, .inl (Eq.trans (at0 (aF0 s2)) (Eq.trans (bH0 s4) (if_neg (by simp [hq])))), ?_⟩
    exact ⟨ws, _, _, _, rfl, h1, (fun x hx => let ⟨j, hj, e⟩ := h2 x hx; ⟨j, by omega, e⟩), h3, by omega⟩
 obtain ⟨ε', hl, ws, x4, x5, x6, rfl, h1, h2, h3, h4⟩ := lp
 rw [aV0] at h4
 refine ⟨ws, ?_, h1, fun x hx => ?_, h3, by omega⟩
 ·unfold Y3 y8
  refine Eq.trans (bo0 (ε := [.sh (scrT ns), .sh (.lst (names.map .str)), .sh (intT b), .un, .un, .un, .un]) rfl rfl) ?_
  refine Eq.trans (ah0 (cJ0 (t := .dct []) rfl rfl)) ?_
  refine Eq.trans (ah0 (fe0 (bT0 (n := names.length) (ap0 (aR0 rfl (by show some (T.int _) = _; rw [List.length_map])) rfl) (by omega)) hl)) ?_
  rfl
 ·obtain ⟨j, _, e⟩ := h2 x hx
  exact List.mem_of_getElem? e
theorem iG0 (ts : List T) (lo hi : Option Int) : (cutT ts lo hi).length <= ts.length := by
 unfold cutT
 rw [List.length_take, List.length_drop]
 omega
theorem iL0 {f : En -> Option T} {lo hi : En -> Option (Option Int)} {ε : En} {ts : List T} {l h : Option Int} (hf : f ε = some (.lst ts)) (h1 : lo ε = some l) (h2 : hi ε = some h) : eSlL f lo hi ε = some (.lst (cutT ts l h)) := by
 unfold eSlL
 rw [hf]
 show (lo ε).bind _ = _
 rw [h1, Option.bind_some, h2]
 rfl
theorem eS0 {f : En -> Option T} {ε : En} {i : Int} (h : f ε = some (.int i)) : bk0 (some f) ε = some (some i) := by
 unfold bk0
 simp only [h]
theorem iE0 {ε : En} {t m : Int} {ts : List T} (hl : ts.length <= 1000) (h7 : bVar 7 ε = some (.lst ts)) (h6 : bVar 6 ε = some (.int t)) (h4 : bVar 4 ε = some (.int m)) :
  eSlL (e2 cV0 (eSlL (bVar 7) (bk0 (some (bVar 6))) (bk0 none)) (eSlL (bVar 7) (bk0 none) (bk0 (some (bVar 6))))) (bk0 none) (bk0 (some (bVar 4))) ε = some (.lst (cutT (cutT ts (some t) none ++ cutT ts none (some t)) none (some m))) := by
 have c1 := iL0 (lo := bk0 (some (bVar 6))) (hi := bk0 none) h7 (eS0 h6) rfl
 have c2 := iL0 (lo := bk0 none) (hi := bk0 (some (bVar 6))) h7 rfl (eS0 h6)
 have c3 : cV0 (.lst (cutT ts (some t) none)) (.lst (cutT ts none (some t))) = some (.lst (cutT ts (some t) none ++ cutT ts none (some t))) := by
  show (if _ then _ else _) = _
  rw [if_pos]
  have a := iG0 ts (some t) none
  have b := iG0 ts none (some t)
  unfold big
  omega
 exact iL0 ((am0 c1 c2).trans c3) rfl (eS0 h4)
theorem hY0 (t m : Int) (ht : 0 <= t /\ t < 5) (hm : 1 <= m /\ m <= 4) : ∃ names : List Str, (cutT (cutT ((["bean", "rye", "kale", "oat", "pea"] : List Str).map T.str) (some t) none ++ cutT ((["bean", "rye", "kale", "oat", "pea"] : List Str).map T.str) none (some t)) none (some m)) = names.map T.str /\ (names.length : Int) = m /\ names.Nodup /\ (∀ x ∈ names, x ≠ "") /\ ∀ x ∈ names, x ≠ "weed" := by
 have h1 : t = 0 \/ t = 1 \/ t = 2 \/ t = 3 \/ t = 4 := by omega
 have h2 : m = 1 \/ m = 2 \/ m = 3 \/ m = 4 := by omega
 rcases h1 with rfl | rfl | rfl | rfl | rfl <;> rcases h2 with rfl | rfl | rfl | rfl
 ·exact ⟨["bean"], rfl, rfl, by decide +kernel, by decide +kernel, by decide +kernel⟩
 ·exact ⟨["bean", "rye"], rfl, rfl, by decide +kernel, by decide +kernel, by decide +kernel⟩
 ·exact ⟨["bean", "rye", "kale"], rfl, rfl, by decide +kernel, by decide +kernel, by decide +kernel⟩
 ·exact ⟨["bean", "rye", "kale", "oat"], rfl, rfl, by decide +kernel, by decide +kernel, by decide +kernel⟩
 ·exact ⟨["rye"], rfl, rfl, by decide +kernel, by decide +kernel, by decide +kernel⟩
 ·exact ⟨["rye", "kale"], rfl, rfl, by decide +kernel, by decide +kernel, by decide +kernel⟩
 ·exact ⟨["rye", "kale", "oat"], rfl, rfl, by decide +kernel, by decide +kernel, by decide +kernel⟩
 ·exact ⟨["rye", "kale", "oat", "pea"], rfl, rfl, by decide +kernel, by decide +kernel, by decide +kernel⟩
 ·exact ⟨["kale"], rfl, rfl, by decide +kernel, by decide +kernel, by decide +kernel⟩
 ·exact ⟨["kale", "oat"], rfl, rfl, by decide +kernel, by decide +kernel, by decide +kernel⟩
 ·exact ⟨["kale", "oat", "pea"], rfl, rfl, by decide +kernel, by decide +kernel, by decide +kernel⟩
 ·exact ⟨["kale", "oat", "pea", "bean"], rfl, rfl, by decide +kernel, by decide +kernel, by decide +kernel⟩
 ·exact ⟨["oat"], rfl, rfl, by decide +kernel, by decide +kernel, by decide +kernel⟩
 ·exact ⟨["oat", "pea"], rfl, rfl, by decide +kernel, by decide +kernel, by decide +kernel⟩
 ·exact ⟨["oat", "pea", "bean"], rfl, rfl, by decide +kernel, by decide +kernel, by decide +kernel⟩
 ·exact ⟨["oat", "pea", "bean", "rye"], rfl, rfl, by decide +kernel, by decide +kernel, by decide +kernel⟩
 ·exact ⟨["pea"], rfl, rfl, by decide +kernel, by decide +kernel, by decide +kernel⟩
 ·exact ⟨["pea", "bean"], rfl, rfl, by decide +kernel, by decide +kernel, by decide +kernel⟩
 ·exact ⟨["pea", "bean", "rye"], rfl, rfl, by decide +kernel, by decide +kernel, by decide +kernel⟩
 ·exact ⟨["pea", "bean", "rye", "kale"], rfl, rfl, by decide +kernel, by decide +kernel, by decide +kernel⟩
theorem gw0 (b : Nat) (hb : 1 <= b /\ b <= 3) : ∃ p : Plot, w4 C [scrT ns, intT b] = some (false, cf0 p) /\ Bound p /\ p.soils.length = b /\ (∀ x ∈ p.names, x ≠ "weed") /\ (∀ c ∈ p.crops, c.bars.length <= 5) /\ p.wants.length <= 5 := by
 have m0 := Int.emod_nonneg (as0 ns 1) (show (8 : Int) ≠ 0 by decide)
 have m1 := Int.emod_lt_of_pos (as0 ns 1) (show (0 : Int) < 8 by decide)
 obtain ⟨top, t1, t2, t3⟩ := fI0 [1, 2, 3, 3, 2, 5, 4, 1] (as0 ns 1 % 8) 1 5 m0 m1 (by decide)
 obtain ⟨many, n1, n2, n3⟩ := fI0 [4, 3, 4, 3, 2, 2, 2, 3] (as0 ns 1 % 8) 1 4 m0 m1 (by decide)
 obtain ⟨gaps, g1, g2, g3⟩ := fI0 [1, 2, 2, 1, 3, 2, 3, 3] (as0 ns 1 % 8) 0 3 m0 m1 (by decide)
 have u0 := Int.emod_nonneg (as0 ns 3) (show (5 : Int) ≠ 0 by decide)
 have u1 := Int.emod_lt_of_pos (as0 ns 3) (show (0 : Int) < 5 by decide)
 have v0 := Int.emod_nonneg (as0 ns 2) (show (2 : Int) ≠ 0 by decide)
 have v1 := Int.emod_lt_of_pos (as0 ns 2) (show (0 : Int) < 2 by decide)
 have w0 := Int.emod_nonneg (as0 ns 4) (show (2 : Int) ≠ 0 by decide)
 have w1 := Int.emod_lt_of_pos (as0 ns 4) (show (0 : Int) < 2 by decide)
 have dr : ∀ (k : Nat) (hk : k <= 1000) (z : Int) (hz : z = (k : Int)) (ε : En) (h0 : eVar 0 ε = some (scrT ns)), eFn (z0 C) (ab0 (eVar 0) (ab0 (eC (.int z)) aNil)) ε = some (.int (as0 ns k)) := fun k hk z hz ε h0 => by
  subst hz
  exact bP0 h0 rfl (cy0 C ns k hk)
 -- the sizes, with one bed or more
 have sz : ∃ top' many' gaps' : Int, (1 <= top' /\ top' <= 5) /\ (1 <= many' /\ many' <= 4) /\ (0 <= gaps' /\ gaps' <= 3) /\ sIf (qB (e2 φGt (bVar 1) (eC (.int 1)))) (sSeq (sSet 3 (eC (.int 1)))
  (sSeq (sSet 4 (e2 φAdd (eC (.int 1)) (e2 φMod (eFn (z0 C) (ab0 (eVar 0) (ab0 (eC (.int 2)) aNil))) (eC (.int 2)))))
  (sSet 5 (e2 φMod (eFn (z0 C) (ab0 (eVar 0) (ab0 (eC (.int 4)) aNil))) (eC (.int 2)))))) sNx [.sh (scrT ns), .sh (intT b), .sh (.int (as0 ns 1 % 8)), .sh (.int top), .sh (.int many), .sh (.int gaps), .un, .un, .un, .un] =
   some (.nx [.sh (scrT ns), .sh (intT b), .sh (.int (as0 ns 1 % 8)), .sh (.int top'), .sh (.int many'), .sh (.int gaps'), .un, .un, .un, .un]) := by
  have q : qB (e2 φGt (bVar 1) (eC (.int 1))) [.sh (scrT ns), .sh (intT b), .sh (.int (as0 ns 1 % 8)), .sh (.int top), .sh (.int many), .sh (.int gaps), .un, .un, .un, .un] = some (decide ((1 : Int) < (b : Int))) := rfl
  by_cases h : (1 : Int) < (b : Int)
  ·refine ⟨1, 1 + as0 ns 2 % 2, as0 ns 4 % 2, by omega, by omega, by omega, ?_⟩
   refine Eq.trans (bH0 q) (Eq.trans (if_pos (decide_eq_true h)) ?_)
   refine Eq.trans (at0 (aF0 (t := .int 1) rfl)) ?_
   refine Eq.trans (at0 (aF0 (am0 (φ := φAdd) (s := .int 1) rfl ((am0 (t := .int 2) (dr 2 (by decide) 2 rfl _ rfl) rfl).trans (aK0 _ _ (by decide)))))) ?_
   exact aF0 ((am0 (t := .int 2) (dr 4 (by decide) 4 rfl _ rfl) rfl).trans (aK0 _ _ (by decide)))
  ·exact ⟨top, many, gaps, ⟨t2, t3⟩, ⟨n2, n3⟩, ⟨g2, g3⟩, Eq.trans (bH0 q) (if_neg (by simp [h]))⟩
 obtain ⟨top', many', gaps', tb, mb, gb, hsz⟩ := sz
 obtain ⟨names, nm1, nm2, nm3, nm4, nm5⟩ := hY0 (as0 ns 3 % 5) many' ⟨u0, u1⟩ mb
 obtain ⟨ws, ws1, ws2, ws3, ws4, ws5⟩ := hE0 C ns names (by omega) nm3 b hb.2
 have hmn : many' = ((names.length : Nat) : Int) := nm2.symm
 -- the crops
 obtain ⟨cs, cs1, cs2, cs3⟩ := gQ0 (n := 1) (it := bt0 (ab0 (bVar 4) aNil)) (bd := aA0 0) (ε := [.sh (scrT ns), .sh (intT b), .sh (.int (as0 ns 1 % 8)), .sh (.int top'), .sh (.int many'), .sh (.int gaps'), .sh (.int (as0 ns 3 % 5)), .sh (.lst (names.map .str)), .un, .un])
  (f := eFn (j2 C) (ab0 (eVar 1) (ab0 (eVar 0) (ab0 (eVar 8) (ab0 (eVar 6) aNil))))) (ts := aU0 0 names.length) ag0
  (fun t c => ∃ k : Nat, t = intT k /\ names[k]? = some c.name /\ (-3 <= c.change /\ c.change <= 3) /\ (0 <= c.harvest /\ c.harvest <= 1000) /\ (0 <= c.gap /\ c.gap <= 3) /\ (∀ b ∈ c.bars, b ∈ names) /\ c.bars.length <= 5)
  (bT0 (ap0 (by rw [hmn]; rfl) rfl) (by omega)) (by rw [aV0]; unfold big; omega) fun t ht => by
   obtain ⟨k, hk, rfl⟩ := dq0 ht
   obtain ⟨c, c1, c2⟩ := iT0 C ns k names (by omega) hk gaps' gb
   refine ⟨[.sh (intT k), .sh (scrT ns), .sh (intT b), .sh (.int (as0 ns 1 % 8)), .sh (.int top'), .sh (.int many'), .sh (.int gaps'), .sh (.int (as0 ns 3 % 5)), .sh (.lst (names.map .str)), .un, .un], c, rfl, ?_, k, rfl, c2⟩
   unfold eFn
   rw [ap0 (f := eVar 1) (t := scrT ns) rfl (ap0 (f := eVar 0) (t := intT k) rfl (ap0 (f := eVar 8) (t := .lst (names.map .str)) rfl (ap0 (f := eVar 6) (t := .int gaps') rfl rfl))), Option.bind_some, c1]
   rfl
 rw [aV0] at cs2
 have csn : cs.map (·.name) = names := by
  apply List.ext_getElem?
  intro i
  by_cases hi : i < names.length
  ·obtain ⟨c, q1, k, q2, q3, _⟩ := cs3 i _ (dT0 hi)
   have : i = k := by
    have := T.int.inj q2
    omega
   subst this
   rw [List.getElem?_map, q1, q3]
   rfl
  ·rw [List.getElem?_eq_none (by rw [List.length_map]; omega), List.getElem?_eq_none (by omega)]
 have csp : ∀ c ∈ cs, (-3 <= c.change /\ c.change <= 3) /\ (0 <= c.harvest /\ c.harvest <= 1000) /\ (0 <= c.gap /\ c.gap <= 3) /\ (∀ b ∈ c.bars, b ∈ names) /\ c.bars.length <= 5 := fun c hc => by
  obtain ⟨i, hi, e⟩ := List.mem_iff_getElem.mp hc
  obtain ⟨c', q1, k, q2, q3, q4⟩ := cs3 i _ (dT0 (by omega))
  rw [List.getElem?_eq_getElem hi, e] at q1
  cases q1
  exact q4
 -- the soils
 obtain ⟨ss, ss1, ss2, ss3⟩ := gQ0 (n := 1) (it := bt0 (ab0 (bVar 1) aNil)) (bd := aA0 0) (ε := [.sh (scrT ns), .sh (intT b), .sh (.int (as0 ns 1 % 8)), .sh (.int top'), .sh (.int many'), .sh (.int gaps'), .sh (.int (as0 ns 3 % 5)), .sh (.lst (names.map .str)), .sh (.lst (cs.map ag0)), .un])
  (f := e2 φMod (eFn (z0 C) (ab0 (eVar 1) (ab0 (e2 φAdd (eC (.int 5)) (bVar 0)) aNil))) (e2 φAdd (bVar 4) (eC (.int 1)))) (ts := aU0 0 b) T.int
  (fun _ x => 0 <= x /\ x <= top') (bT0 (ap0 rfl rfl) (by omega)) (by rw [aV0]; unfold big; omega) fun t ht => by
   obtain ⟨k, hk, rfl⟩ := dq0 ht
   have s1 : e2 φAdd (eC (.int 5)) (bVar 0) [.sh (intT k), .sh (scrT ns), .sh (intT b), .sh (.int (as0 ns 1 % 8)), .sh (.int top'), .sh (.int many'), .sh (.int gaps'), .sh (.int (as0 ns 3 % 5)), .sh (.lst (names.map .str)), .sh (.lst (cs.map ag0)), .un] = some (intT (5 + k)) := by
    rw [am0 (φ := φAdd) (s := .int 5) (t := intT k) rfl rfl]
    refine congrArg (fun z => some (T.int z)) ?_
    omega
   have s2 : eFn (z0 C) (ab0 (eVar 1) (ab0 (e2 φAdd (eC (.int 5)) (bVar 0)) aNil)) [.sh (intT k), .sh (scrT ns), .sh (intT b), .sh (.int (as0 ns 1 % 8)), .sh (.int top'), .sh (.int many'), .sh (.int gaps'), .sh (.int (as0 ns 3 % 5)), .sh (.lst (names.map .str)), .sh (.lst (cs.map ag0)), .un] = some (.int (as0 ns (5 + k))) := bP0 rfl s1 (cy0 C ns _ (by omega))
   have a := Int.emod_nonneg (as0 ns (5 + k)) (show top' + 1 ≠ 0 by omega)
   have b := Int.emod_lt_of_pos (as0 ns (5 + k)) (show 0 < top' + 1 by omega)
   refine ⟨_, as0 ns (5 + k) % (top' + 1), rfl, (am0 s2 (am0 (φ := φAdd) (s := .int top') (t := .int 1) rfl rfl)).trans (aK0 _ _ (by omega)), a, by omega⟩
 rw [aV0] at ss2
 refine ⟨⟨ss, top', cs, ws⟩, ?_, ?_, ss2, fun x hx => nm5 x (by rw [<- csn]; exact hx), fun c hc => (csp c hc).2.2.2.2, ws5⟩
 ·unfold w4 x8
  refine Eq.trans (bo0 (ε := [.sh (scrT ns), .sh (intT b), .un, .un, .un, .un, .un, .un, .un, .un]) rfl rfl) ?_
  refine Eq.trans (ah0 (aF0 ((am0 (t := .int 8) (dr 1 (by decide) 1 rfl _ rfl) rfl).trans (aK0 _ _ (by decide))))) ?_
  refine Eq.trans (ah0 (aF0 ((am0 (s := .lst ([1, 2, 3, 3, 2, 5, 4, 1].map .int)) (t := .int (as0 ns 1 % 8)) rfl rfl).trans t1))) ?_
  refine Eq.trans (ah0 (aF0 ((am0 (s := .lst ([4, 3, 4, 3, 2, 2, 2, 3].map .int)) (t := .int (as0 ns 1 % 8)) rfl rfl).trans n1))) ?_
  refine Eq.trans (ah0 (aF0 ((am0 (s := .lst ([1, 2, 2, 1, 3, 2, 3, 3].map .int)) (t := .int (as0 ns 1 % 8)) rfl rfl).trans g1))) ?_
  refine Eq.trans (ah0 hsz) ?_
  refine Eq.trans (ah0 (aF0 ((am0 (t := .int 5) (dr 3 (by decide) 3 rfl _ rfl) rfl).trans (aK0 _ _ (by decide))))) ?_
  refine Eq.trans (ah0 (aF0 (t := .lst ((["bean", "rye", "kale", "oat", "pea"] : List Str).map T.str)) rfl)) ?_
  refine Eq.trans (ah0 (aF0 (t := .lst (names.map .str)) ?_)) ?_
  ·rw [<- nm1]
   exact iE0 (by decide) rfl rfl rfl
  refine Eq.trans (ah0 (aF0 cs1)) ?_
  refine Eq.trans (ah0 (aF0 ss1)) ?_
  refine gk0 ?_
  refine dO0 (ap0 rfl (ap0 rfl (ap0 rfl (ap0 ?_ rfl)))) (show (4 : Nat) <= 1000000 by decide)
  unfold eFnF
  rw [ap0 (f := eVar 0) (t := scrT ns) rfl (ap0 (f := eVar 7) (t := .lst (names.map .str)) rfl (ap0 (f := eVar 1) (t := intT b) rfl rfl)), Option.bind_some, ws1]
 ·exact { nd := by show (cs.map (·.name)).Nodup; rw [csn]; exact nm3
          bars := fun c hc x hx => by show x ∈ cs.map (·.name); rw [csn]; exact (csp c hc).2.2.2.1 x hx
          wants := fun x hx => by show x.1 ∈ cs.map (·.name); rw [csn]; exact ws3 x hx
          gaps := fun c hc => (csp c hc).2.2.1.1
          few := by show cs.length <= 5; omega
          keys := ws2
          beds := by show 1 <= ss.length /\ ss.length <= 3; omega
          top := tb
          soil := fun x hx => by
           obtain ⟨i, hi, e⟩ := List.mem_iff_getElem.mp hx
           have hi' : i < ss.length := hi
           obtain ⟨x', q1, q2⟩ := ss3 i _ (dT0 (by omega))
           have e' : ss[i] = x := e
           rw [List.getElem?_eq_getElem hi', e'] at q1
           cases q1
           exact q2
          some := by show 1 <= cs.length; omega
          text := fun c hc => nm4 _ (by rw [<- csn]; exact List.mem_map.mpr ⟨c, hc, rfl⟩)
          chg := fun c hc => (csp c hc).1
          har := fun c hc => (csp c hc).2.1
          gap := fun c hc => (csp c hc).2.2.1
          bar := fun c hc => by have := (csp c hc).2.2.2.2; omega
          want := ws4
          fewW := by show ws.length <= 1000; omega }
end
def Chk (BG : Addr) (P : Prop) (r : Option Out) : Prop := (P /\ r = some (.val false .non)) \/ (¬ P /\ r = some (.exc BG))
def ChkS (BG : Addr) (P : Prop) (I : En -> Prop) (r : Option Fl) : Prop := (P /\ ∃ ε, r = some (.nx ε) /\ I ε) \/ (¬ P /\ r = some (.xc BG))
section
variable {BG : Addr} {P Q : Prop} {I J : En -> Prop}
theorem Chk.of {r : Option Out} (h : Chk BG P r) (e : P ↔ Q) : Chk BG Q r := propext e ▸ h
theorem ChkS.of {r : Option Fl} (h : ChkS BG P I r) (e : P ↔ Q) : ChkS BG Q I r := propext e ▸ h
theorem ChkS.to {r : Option Fl} (h : ChkS BG P I r) (k : ∀ ε, I ε -> J ε) : ChkS BG P J r := by
 rcases h with ⟨p, ε, e, i⟩ | ⟨p, e⟩
 ·exact .inl ⟨p, ε, e, k ε i⟩
 ·exact .inr ⟨p, e⟩
theorem Chk.yes {r : Option Out} (h : Chk BG P r) (p : P) : r = some (.val false .non) := h.elim (·.2) fun z => absurd p z.1
theorem Chk.no {r : Option Out} (h : Chk BG P r) (p : ¬ P) : r = some (.exc BG) := h.elim (fun z => absurd z.1 p) (·.2)
theorem bs0 {gs : List T -> Option Out} {g : En -> Option (List T)} {ε : En} {ts : List T} (h1 : g ε = some ts) (h2 : Chk BG P (gs ts)) (hi : I ε) : ChkS BG P I (aM0 (eFnX gs g) ε) := by
 have e0 : eFnX gs g ε = gs ts := by unfold eFnX; rw [h1]; rfl
 unfold aM0
 rw [e0]
 rcases h2 with ⟨p, e⟩ | ⟨p, e⟩
 ·rw [e]; exact .inl ⟨p, ε, rfl, hi⟩
 ·rw [e]; exact .inr ⟨p, rfl⟩
theorem bV0 {g h : En -> Option Fl} {ε : En} (h1 : ChkS BG P I (g ε)) (h2 : P -> ∀ ε', I ε' -> ChkS BG Q J (h ε')) : ChkS BG (P /\ Q) J (sSeq g h ε) := by
 rcases h1 with ⟨p, ε', e, hi⟩ | ⟨p, e⟩
 ·rw [at0 e]
  rcases h2 p ε' hi with ⟨q, x⟩ | ⟨q, x⟩
  ·exact .inl ⟨⟨p, q⟩, x⟩
  ·exact .inr ⟨fun z => q z.2, x⟩
 ·unfold sSeq
  rw [e]
  exact .inr ⟨fun z => p z.1, rfl⟩
theorem cH0 {g h : En -> Option Fl} {ε ε1 : En} (h1 : g ε = some (.nx ε1)) (h2 : ChkS BG Q J (h ε1)) : ChkS BG Q J (sSeq g h ε) := by
 rw [at0 h1]
 exact h2
theorem ht0 {q : En -> Option Bool} {f : En -> Option (List T)} {ε : En} {b : Bool} {t : T} (h1 : q ε = some b) (h2 : f ε = some [t]) (hi : I ε) : ChkS BG (b = false) I (sIf q (ct0 BG f) sNx ε) := by
 unfold sIf
 rw [h1, Option.bind_some]
 cases b with
 | true =>
  rw [if_pos rfl]
  unfold ct0
  rw [h2]
  exact .inr ⟨(fun z => nomatch z), rfl⟩
 | false => exact .inl ⟨rfl, ε, rfl, hi⟩
theorem eI0 {N : List Str} {n : Nat} {g : En -> Option Fl} {ts : List T} {ε : En} (hl : ts.length = n) (he : bQ0 N ts = ε) (h : ChkS BG P I (g ε)) : Chk BG P (fnX N n g ts) := by
 unfold fnX
 rw [if_pos hl, he]
 rcases h with ⟨p, ε', e, _⟩ | ⟨p, e⟩
 ·rw [e]; exact .inl ⟨p, rfl⟩
 ·rw [e]; exact .inr ⟨p, rfl⟩
theorem gI0 {bd : T -> En -> Option En} {body : En -> Option Fl} (I : En -> Prop) (Pt : T -> Prop) : ∀ (ts : List T) (ε : En), I ε -> (∀ t ε, t ∈ ts -> I ε -> ∃ ε1, bd t ε = some ε1 /\ ChkS BG (Pt t) I (body ε1)) -> ChkS BG (∀ t ∈ ts, Pt t) I (dG0 bd body ts ε)
 | [], ε, hi, _ => .inl ⟨(fun t ht => nomatch ht), ε, rfl, hi⟩
 | t :: ts, ε, hi, h => by
  obtain ⟨ε1, e1, c⟩ := h t ε (List.mem_cons_self ..) hi
  unfold dG0
  rw [e1, Option.bind_some]
  rcases c with ⟨p, ε2, e2, i2⟩ | ⟨p, e2⟩
  ·rw [e2, Option.bind_some]
   rcases gI0 I Pt ts ε2 i2 fun u ε hu => h u ε (List.mem_cons_of_mem _ hu) with ⟨q, x⟩ | ⟨q, x⟩
   ·refine .inl ⟨fun u hu => ?_, x⟩
    rcases List.mem_cons.mp hu with rfl | hu
    ·exact p
    ·exact q u hu
   ·exact .inr ⟨fun z => q fun u hu => z u (List.mem_cons_of_mem _ hu), x⟩
  ·rw [e2]
   exact .inr ⟨fun z => p (z t (List.mem_cons_self ..)), rfl⟩
theorem ep0 {f : En -> Option (List T)} {bd : T -> En -> Option En} {body : En -> Option Fl} {ε : En} {ts : List T} (I : En -> Prop) (Pt : T -> Prop) (hf : f ε = some ts) (hi : I ε) (h : ∀ t ε, t ∈ ts -> I ε -> ∃ ε1, bd t ε = some ε1 /\ ChkS BG (Pt t) I (body ε1)) : ChkS BG (∀ t ∈ ts, Pt t) I (sFor f bd body ε) := by
 rw [fe0 hf rfl]
 exact gI0 I Pt ts ε hi h
end
section
variable (C BG : Addr)
theorem gh0 (v lo hi : Int) : Z2 C [.int v, .int lo, .int hi] = some (false, .bl (decide (lo <= v /\ v <= hi))) := by
 unfold Z2 Q8
 refine (bo0 (ε := [.sh (.int v), .sh (.int lo), .sh (.int hi)]) rfl rfl).trans ?_
 have b1 : isT "bool" (.int v) = some false := rfl
 have b2 : isT "int" (.int v) = some true := rfl
 by_cases h1 : lo <= v
 ·by_cases h2 : v <= hi
  ·simp_arith! [eIs, b1, b2, bR0, h1, h2, and_self]
  ·simp_arith! [eIs, b1, b2, bR0, h1, h2, and_false]
 ·simp_arith! [eIs, b1, b2, bR0, h1, false_and]
theorem ba0 (v lo hi : Int) (w : Str) (hw : w.length <= 1000) (hl : lo.natAbs <= 1000000) (hh : hi.natAbs <= 1000000) : Chk BG (lo <= v /\ v <= hi) (y0 C BG [.int v, .int lo, .int hi, .str w]) := by
 have i := gh0 C v lo hi
 have q : (qNot (qB (eFn (Z2 C) (ab0 (eVar 0) (ab0 (eVar 1) (ab0 (eVar 2) aNil)))))) [.sh (.int v), .sh (.int lo), .sh (.int hi), .sh (.str w)] = some (!decide (lo <= v /\ v <= hi)) := by
  simp_arith! [i]
 refine eI0 (I := fun _ => True) (ε := [.sh (.int v), .sh (.int lo), .sh (.int hi), .sh (.str w)]) rfl rfl ?_
 unfold J8 sIf
 rw [q, Option.bind_some]
 by_cases h : lo <= v /\ v <= hi
 ·rw [decide_eq_true h]
  exact .inl ⟨h, _, rfl, trivial⟩
 ·rw [decide_eq_false h]
  refine .inr ⟨h, ?_⟩
  show ef0 BG (cFs 3 1 2) _ = _
  unfold ef0
  have : cFs 3 1 2 [.sh (.int v), .sh (.int lo), .sh (.int hi), .sh (.str w)] = true := by
   show (decide (w.length <= 1000) && decide (lo.natAbs <= 1000000) && decide (hi.natAbs <= 1000000)) = true
   rw [decide_eq_true hw, decide_eq_true hl, decide_eq_true hh]
   rfl
  rw [if_pos this]
theorem gV0 (x : Str) (xs : List Str) : Chk BG (x ∈ xs) (W2 C BG [.str x, .lst (xs.map .str)]) := by
 have b := mE0 true x xs
 have q : qB (e2 (φIn true) (bVar 0) (bVar 1)) [.sh (.str x), .sh (.lst (xs.map .str))] = some (!decide (x ∈ xs)) := by
  simp_arith! [b]
 refine (eI0 (I := fun _ => True) (ε := [.sh (.str x), .sh (.lst (xs.map .str))]) rfl rfl (ht0 q rfl trivial)).of ?_
 simp
def fN0 (soils : List Int) (top : Int) : Prop := (1 <= top /\ top <= 5) /\ (1 <= soils.length /\ soils.length <= 3) /\ ∀ x ∈ soils, 0 <= x /\ x <= top
theorem fh0 (soils : List Int) (top : Int) : Chk BG (fN0 soils top) (Q2 C BG [.lst (soils.map .int), .int top]) := by
 refine (eI0 (I := fun _ => True) (ε := [.sh (.lst (soils.map .int)), .sh (.int top), .un]) rfl rfl (bV0 (I := fun ε => ε = [.sh (.lst (soils.map .int)), .sh (.int top), .un]) (bs0 rfl (ba0 C BG top 1 5 _ (by decide) (by decide) (by decide)) rfl) fun ht ε he => ?_)).of (P := (1 <= top /\ top <= 5) /\ (1 <= ((soils.map T.int).length : Int) /\ ((soils.map T.int).length : Int) <= 3) /\ ∀ t ∈ soils.map T.int, ∃ x, t = .int x /\ 0 <= x /\ x <= top) ?_
 ·subst he
  refine cH0 (cW0 rfl) ?_
  refine bV0 (I := fun ε => ε = [.sh (.lst (soils.map .int)), .sh (.int top), .un]) (bs0 rfl (ba0 C BG _ 1 3 _ (by decide) (by decide) (by decide)) rfl) fun hb ε he => ?_
  subst he
  refine (ep0 (fun ε => ∃ z, ε = [.sh (.lst (soils.map .int)), .sh (.int top), z]) (fun t => ∃ x, t = .int x /\ 0 <= x /\ x <= top) rfl ⟨_, rfl⟩ fun t ε ht ⟨z, he⟩ => ?_).to fun _ _ => trivial
  subst he
  obtain ⟨x, hx, rfl⟩ := List.mem_map.mp ht
  refine ⟨[.sh (.lst (soils.map .int)), .sh (.int top), .sh (.int x)], rfl, (bs0 rfl (ba0 C BG x 0 top _ (by decide) (by decide) (by omega)) ⟨_, rfl⟩).of ?_⟩
  constructor
  ·exact fun h => ⟨x, rfl, h⟩
  ·rintro ⟨y, e, h⟩
   cases e
   exact h
 ·unfold fN0
  rw [List.length_map]
  constructor
  ·rintro ⟨h1, h2, h3⟩
   refine ⟨h1, by omega, fun x hx => ?_⟩
   obtain ⟨y, e, h⟩ := h3 _ (List.mem_map_of_mem hx)
   cases e
   exact h
  ·rintro ⟨h1, h2, h3⟩
   refine ⟨h1, by omega, fun t ht => ?_⟩
   obtain ⟨x, hx, rfl⟩ := List.mem_map.mp ht
   exact ⟨x, rfl, h3 x hx⟩
def eN0 (c : Crop) : Prop := c.name ≠ "" /\ (-3 <= c.change /\ c.change <= 3) /\ (0 <= c.harvest /\ c.harvest <= 1000) /\ (0 <= c.gap /\ c.gap <= 3)
theorem kw0 (c : Crop) : Chk BG (eN0 c) (Y5 C BG [ag0 c]) := by
 have a0 : φIx (ag0 c) (.int 0) = some (.str c.name) := aY0 _ 0 _ rfl
 have a1 : φIx (ag0 c) (.int 1) = some (.int c.change) := aY0 _ 1 _ rfl
 have a2 : φIx (ag0 c) (.int 2) = some (.int c.harvest) := aY0 _ 2 _ rfl
 have a3 : φIx (ag0 c) (.int 3) = some (.int c.gap) := aY0 _ 3 _ rfl
 have a4 : φIx (ag0 c) (.int 4) = some (.lst (c.bars.map .str)) := aY0 _ 4 _ rfl
 have q1 : qOr (qNot (qB (eIs "str" (e2 φIx (bVar 0) (eC (.int 0)))))) (qB (e2 φEq (e2 φIx (bVar 0) (eC (.int 0))) (eC (.str "")))) [.sh (ag0 c)] = some (decide (c.name = "")) := by
  have b0 : isT "str" (.str c.name) = some true := rfl
  have b1 : φEq (.str c.name) (.str "") = some (.bl (decide (c.name = ""))) := by
   show some (T.bl (decide (V.str c.name = V.str ""))) = _
   have : (V.str c.name = V.str "") = (c.name = "") := by simp
   simp only [this]
  simp_arith! [eIs, a0, b0, b1]
 have r1 : ∀ (ε : En), ε = [.sh (ag0 c)] -> ab0 (e2 φIx (bVar 0) (eC (.int 1))) (ab0 (e1 φNeg (eC (.int 3))) (ab0 (eC (.int 3)) (ab0 (eC (.str "the change of a crop")) aNil))) ε = some [.int c.change, .int (-3), .int 3, .str "the change of a crop"] := fun ε he => by
  subst he
  have n3 : φNeg (.int 3) = some (.int (-3)) := rfl
  simp_arith! [a1, n3]
 have r2 : ab0 (e2 φIx (bVar 0) (eC (.int 2))) (ab0 (eC (.int 0)) (ab0 (eC (.int 1000)) (ab0 (eC (.str "the harvest of a crop")) aNil))) [.sh (ag0 c)] = some [.int c.harvest, .int 0, .int 1000, .str "the harvest of a crop"] := by
  simp_arith! [a2]
 have r3 : ab0 (e2 φIx (bVar 0) (eC (.int 3))) (ab0 (eC (.int 0)) (ab0 (eC (.int 3)) (ab0 (eC (.str "the gap of a crop")) aNil))) [.sh (ag0 c)] = some [.int c.gap, .int 0, .int 3, .str "the gap of a crop"] := by
  simp_arith! [a3]
 have q4 : qNot (qB (eIs "list" (e2 φIx (bVar 0) (eC (.int 4))))) [.sh (ag0 c)] = some false := by
  have b0 : isT "list" (.lst (c.bars.map .str)) = some true := rfl
  simp_arith! [eIs, a4, b0]
 refine (eI0 (I := fun _ => True) (ε := [.sh (ag0 c)]) rfl rfl (cH0 (cW0 rfl) (bV0 (I := fun ε => ε = [.sh (ag0 c)]) (ht0 q1 rfl rfl) fun _ ε he => ?_))).of (P := decide (c.name = "") = false /\ (-3 <= c.change /\ c.change <= 3) /\ (0 <= c.harvest /\ c.harvest <= 1000) /\ (0 <= c.gap /\ c.gap <= 3) /\ (false = false)) ?_
 ·subst he
  refine bV0 (I := fun ε => ε = [.sh (ag0 c)]) (bs0 (r1 _ rfl) (ba0 C BG _ (-3) 3 _ (by decide) (by decide) (by decide)) rfl) fun _ ε he => ?_
  subst he
  refine bV0 (I := fun ε => ε = [.sh (ag0 c)]) (bs0 r2 (ba0 C BG _ 0 1000 _ (by decide) (by decide) (by decide)) rfl) fun _ ε he => ?_
  subst he
  refine bV0 (I := fun ε => ε = [.sh (ag0 c)]) (bs0 r3 (ba0 C BG _ 0 3 _ (by decide) (by decide) (by decide)) rfl) fun _ ε he => ?_
  subst he
  exact ht0 q4 rfl trivial
 ·unfold eN0
  simp
theorem dY0 : ∀ {xs ys : List Str}, xs.map T.str = ys.map T.str -> xs = ys
 | [], [], _ => rfl
 | x :: xs, y :: ys, h => by
  rw [List.map_cons, List.map_cons] at h
  injection h with h1 h2
  injection h1 with h1
  rw [h1, dY0 h2]
theorem da0 {c d : Crop} (h : ag0 c = ag0 d) : c = d := by
 obtain ⟨a1, a2, a3, a4, a5⟩ := c
 obtain ⟨b1, b2, b3, b4, b5⟩ := d
 unfold ag0 at h
 injection h with h
 injection h with h1 h
 injection h with h2 h
 injection h with h3 h
 injection h with h4 h
 injection h with h5 h
 injection h1 with h1
 injection h2 with h2
 injection h3 with h3
 injection h4 with h4
 injection h5 with h5
 have h6 : a5 = b5 := dY0 h5
 clear h5
 dsimp only at h1 h2 h3 h4
 subst h1 h2 h3 h4 h6
 rfl
theorem ff0 : ∀ (ks acc : List Key), (ks.foldl (fun acc k => if k ∈ acc then acc else acc ++ [k]) acc).length <= acc.length + ks.length
 | [], acc => Nat.le_refl _
 | k :: ks, acc => by
  rw [List.foldl_cons]
  have := ff0 ks (if k ∈ acc then acc else acc ++ [k])
  have h2 : (if k ∈ acc then acc else acc ++ [k]).length <= acc.length + 1 := by
   split
   ·exact Nat.le_succ _
   ·rw [List.length_append]; exact Nat.le_refl _
  rw [List.length_cons]
  omega
theorem iV0 : ∀ (ks acc : List Key), acc.Nodup -> ¬ (acc ++ ks).Nodup -> (ks.foldl (fun acc k => if k ∈ acc then acc else acc ++ [k]) acc).length < acc.length + ks.length
 | [], acc, h, n => absurd (by simpa using h) n
 | k :: ks, acc, h, n => by
  rw [List.foldl_cons]
  by_cases hk : k ∈ acc
  ·rw [if_pos hk]
   have := ff0 ks acc
   rw [List.length_cons]
   omega
  ·rw [if_neg hk]
   have h2 : (acc ++ [k]).Nodup := by
    rw [List.nodup_append]
    refine ⟨h, by simp, fun a ha b hb z => ?_⟩
    rw [List.mem_singleton.mp hb] at z
    exact hk (z ▸ ha)
   have := iV0 ks (acc ++ [k]) h2 (by rw [List.append_assoc]; exact n)
   rw [List.length_append, List.length_singleton] at this
   rw [List.length_cons]
   omega
theorem hG0 (xs : List Str) : ((metK (xs.map Sum.inr)).length = xs.length) ↔ xs.Nodup := by
 constructor
 ·intro e
  refine Classical.byContradiction fun n => ?_
  have hn : ¬ ([] ++ xs.map (Sum.inr : Str -> Key)).Nodup := fun z => n (by
   rw [List.nil_append, List.nodup_iff_pairwise_ne, List.pairwise_map] at z
   rw [List.nodup_iff_pairwise_ne]
   exact z.imp fun hne w => hne (by rw [w]))
  have := iV0 (xs.map Sum.inr) [] (List.nodup_nil) hn
  have e' : ((xs.map (Sum.inr : Str -> Key)).foldl (fun acc k => if k ∈ acc then acc else acc ++ [k]) ([] : List Key)).length = xs.length := e
  rw [List.length_map, List.length_nil, e'] at this
  omega
 ·exact in0 xs
def eh0 (cs : List Crop) : Prop := (1 <= cs.length /\ cs.length <= 5) /\ (∀ c ∈ cs, eN0 c) /\ (cs.map (·.name)).Nodup /\ ∀ c ∈ cs, ∀ b ∈ c.bars, b ∈ cs.map (·.name)
theorem ek0 (p : Plot) (hl : p.crops.length <= 1000) : Chk BG (eh0 p.crops) (Y2 C BG [.lst (p.crops.map ag0)]) := by
 have q4 : ∀ z w : Sl, qB (e2 φNe (dt0 (bVar 2)) (av0 φLen (ab0 (bVar 2) aNil))) [.sh (.lst (p.crops.map ag0)), z, .sh (.lst (p.names.map .str)), w] = some (!decide (p.names.Nodup)) := fun z w => by
  have b1 : dt0 (bVar 2) [.sh (.lst (p.crops.map ag0)), z, .sh (.lst (p.names.map .str)), w] = some (.int ((metK (p.names.map Sum.inr)).length : Int)) := by
   unfold dt0
   simp_arith! [eq_self]
   rw [jE0, Option.bind_some, if_pos (by rw [List.length_map]; omega)]
  have b2 : av0 φLen (ab0 (bVar 2) aNil) [.sh (.lst (p.crops.map ag0)), z, .sh (.lst (p.names.map .str)), w] = some (.int (p.names.length : Int)) := by
   simp_arith! [List.length_map]
  unfold qB
  rw [am0 b1 b2]
  show some (!decide (V.int _ = V.int _)) = _
  have : (V.int ((metK (p.names.map Sum.inr)).length : Int) = V.int (p.names.length : Int)) = p.names.Nodup := by
   rw [<- hG0 p.names]
   exact propext ⟨fun h => by have := V.int.inj h; omega, fun h => by rw [h]⟩
  simp only [this]
 refine (eI0 (I := fun _ => True) (ε := [.sh (.lst (p.crops.map ag0)), .un, .un, .un]) rfl rfl (cH0 (cW0 rfl) (bV0 (I := fun ε => ε = [.sh (.lst (p.crops.map ag0)), .un, .un, .un]) (bs0 rfl (ba0 C BG _ 1 5 _ (by decide) (by decide) (by decide)) rfl) fun _ ε he => ?_))).of (P := (1 <= ((p.crops.map ag0).length : Int) /\ ((p.crops.map ag0).length : Int) <= 5) /\ (∀ t ∈ p.crops.map ag0, ∃ c, t = ag0 c /\ eN0 c) /\ ((!decide (p.names.Nodup)) = false) /\ ∀ t ∈ p.crops.map ag0, ∃ c, t = ag0 c /\ ∀ u ∈ c.bars.map T.str, ∃ b, u = .str b /\ b ∈ p.names) ?_
 ·subst he
  refine bV0 (I := fun ε => ∃ z, ε = [.sh (.lst (p.crops.map ag0)), z, .un, .un]) (ep0 (fun ε => ∃ z, ε = [.sh (.lst (p.crops.map ag0)), z, .un, .un]) (fun t => ∃ c, t = ag0 c /\ eN0 c) rfl ⟨_, rfl⟩ fun t ε ht ⟨z, he⟩ => ?_) fun _ ε ⟨z, he⟩ => ?_
  ·subst he
   obtain ⟨c, hc, rfl⟩ := List.mem_map.mp ht
   refine ⟨[.sh (.lst (p.crops.map ag0)), .sh (ag0 c), .un, .un], rfl, (bs0 rfl (kw0 C BG c) ⟨_, rfl⟩).of ?_⟩
   constructor
   ·exact fun h => ⟨c, rfl, h⟩
   ·rintro ⟨d, e, h⟩
    rw [da0 e]
    exact h
  ·subst he
   refine cH0 (ε1 := [.sh (.lst (p.crops.map ag0)), z, .sh (.lst (p.names.map .str)), .un]) (fm0 rfl (fq0 C p hl)) ?_
   refine bV0 (I := fun ε => ε = [.sh (.lst (p.crops.map ag0)), z, .sh (.lst (p.names.map .str)), .un]) (ht0 (q4 z .un) rfl rfl) fun _ ε he => ?_
   subst he
   refine (ep0 (fun ε => ∃ y w, ε = [.sh (.lst (p.crops.map ag0)), y, .sh (.lst (p.names.map .str)), w]) (fun t => ∃ c, t = ag0 c /\ ∀ u ∈ c.bars.map T.str, ∃ b, u = .str b /\ b ∈ p.names) rfl ⟨_, _, rfl⟩ fun t ε ht ⟨y, w, he⟩ => ?_).to fun _ _ => trivial
   subst he
   obtain ⟨c, hc, rfl⟩ := List.mem_map.mp ht
   have a4 : φIx (ag0 c) (.int 4) = some (.lst (c.bars.map .str)) := aY0 _ 4 _ rfl
   have hi : iLst (e2 φIx (bVar 1) (eC (.int 4))) [.sh (.lst (p.crops.map ag0)), .sh (ag0 c), .sh (.lst (p.names.map .str)), w] = some (c.bars.map .str) := by simp_arith! [a4]
   refine ⟨[.sh (.lst (p.crops.map ag0)), .sh (ag0 c), .sh (.lst (p.names.map .str)), w], rfl, ((ep0 (fun ε => ∃ w, ε = [.sh (.lst (p.crops.map ag0)), .sh (ag0 c), .sh (.lst (p.names.map .str)), w]) (fun u => ∃ b, u = .str b /\ b ∈ p.names) hi ⟨_, rfl⟩ fun u ε hu ⟨w, he⟩ => ?_).to fun _ ⟨w, h⟩ => ⟨_, w, h⟩).of ?_⟩
   ·subst he
    obtain ⟨b, hb, rfl⟩ := List.mem_map.mp hu
    refine ⟨[.sh (.lst (p.crops.map ag0)), .sh (ag0 c), .sh (.lst (p.names.map .str)), .sh (.str b)], rfl, (bs0 rfl (gV0 C BG b p.names) ⟨_, rfl⟩).of ?_⟩
    constructor
    ·exact fun h => ⟨b, rfl, h⟩
    ·rintro ⟨d, e, h⟩
     cases e
     exact h
   ·constructor
    ·exact fun h => ⟨c, rfl, h⟩
    ·rintro ⟨d, e, h⟩
     rw [da0 e]
     exact h
 ·unfold eh0
  rw [List.length_map]
  constructor
  ·rintro ⟨h1, h2, h3, h4⟩
   refine ⟨by omega, fun c hc => ?_, by simpa using h3, fun c hc b hb => ?_⟩
   ·obtain ⟨d, e, h⟩ := h2 _ (List.mem_map_of_mem hc)
    rw [da0 e]
    exact h
   ·obtain ⟨d, e, h⟩ := h4 _ (List.mem_map_of_mem hc)
    rw [da0 e] at hb
    obtain ⟨b', e', h'⟩ := h _ (List.mem_map_of_mem hb)
    cases e'
    exact h'
  ·rintro ⟨h1, h2, h3, h4⟩
   refine ⟨by omega, fun t ht => ?_, by simpa using h3, fun t ht => ?_⟩
   ·obtain ⟨c, hc, rfl⟩ := List.mem_map.mp ht
    exact ⟨c, rfl, h2 c hc⟩
   ·obtain ⟨c, hc, rfl⟩ := List.mem_map.mp ht
    refine ⟨c, rfl, fun u hu => ?_⟩
    obtain ⟨b, hb, rfl⟩ := List.mem_map.mp hu
    exact ⟨b, rfl, h4 c hc b hb⟩
def fg0 (ws : List (Str × Int × Int)) (names : List Str) : Prop := ∀ x ∈ ws, x.1 ∈ names /\ (0 <= x.2.2 /\ x.2.2 <= 3) /\ (0 <= x.2.1 /\ x.2.1 <= x.2.2)
def ix0 (x : Str × Int × Int) : T := .tup [.str x.1, .tup [.int x.2.1, .int x.2.2]]
theorem fy0 {x y : Str × Int × Int} (h : ix0 x = ix0 y) : x = y := by
 obtain ⟨a, b, c⟩ := x
 obtain ⟨a', b', c'⟩ := y
 unfold ix0 at h
 simp at h
 simp [h]
theorem fw0 (ws : List (Str × Int × Int)) (names : List Str) : Chk BG (fg0 ws names) (W4 C BG [ai0 ws, .lst (names.map .str)]) := by
 have hi : gd0 (eVar 0) [.sh (ai0 ws), .sh (.lst (names.map .str)), .un, .un] = some (ws.map ix0) := by
  show some ((ws.map fun x => (x.1, T.tup [.int x.2.1, .int x.2.2])).map fun kt => T.tup [.str kt.1, kt.2]) = _
  rw [List.map_map]
  rfl
 refine (eI0 (I := fun _ => True) (ε := [.sh (ai0 ws), .sh (.lst (names.map .str)), .un, .un]) rfl rfl (cH0 (cW0 rfl) ((ep0 (fun ε => ∃ y z, ε = [.sh (ai0 ws), .sh (.lst (names.map .str)), y, z]) (fun t => ∃ x, t = ix0 x /\ x.1 ∈ names /\ (0 <= x.2.2 /\ x.2.2 <= 3) /\ (0 <= x.2.1 /\ x.2.1 <= x.2.2)) hi ⟨_, _, rfl⟩ fun t ε ht ⟨y, z, he⟩ => ?_).to fun _ _ => trivial))).of ?_
 ·subst he
  obtain ⟨⟨n, a, b⟩, hx, rfl⟩ := List.mem_map.mp ht
  have c1 : φIx (.tup [.int a, .int b]) (.int 0) = some (.int a) := aY0 _ 0 _ rfl
  have c2 : φIx (.tup [.int a, .int b]) (.int 1) = some (.int b) := aY0 _ 1 _ rfl
  have r3 : ab0 (e2 φIx (bVar 3) (eC (.int 1))) (ab0 (eC (.int 0)) (ab0 (eC (.int 3)) (ab0 (eC (.str "the most of a want")) aNil))) [.sh (ai0 ws), .sh (.lst (names.map .str)), .sh (.str n), .sh (.tup [.int a, .int b])] = some [.int b, .int 0, .int 3, .str "the most of a want"] := by
   simp_arith! [c2]
  have r4 : ab0 (e2 φIx (bVar 3) (eC (.int 0))) (ab0 (eC (.int 0)) (ab0 (e2 φIx (bVar 3) (eC (.int 1))) (ab0 (eC (.str "the least of a want")) aNil))) [.sh (ai0 ws), .sh (.lst (names.map .str)), .sh (.str n), .sh (.tup [.int a, .int b])] = some [.int a, .int 0, .int b, .str "the least of a want"] := by
   simp_arith! [c1, c2]
  refine ⟨[.sh (ai0 ws), .sh (.lst (names.map .str)), .sh (.str n), .sh (.tup [.int a, .int b])], rfl, ?_⟩
  refine (bV0 (Q := (0 <= b /\ b <= 3) /\ (0 <= a /\ a <= b)) (J := fun ε => ∃ y z, ε = [.sh (ai0 ws), .sh (.lst (names.map .str)), y, z]) (I := fun ε => ε = [.sh (ai0 ws), .sh (.lst (names.map .str)), .sh (.str n), .sh (.tup [.int a, .int b])]) (bs0 rfl (gV0 C BG n names) rfl) fun _ ε he => ?_).of ?_
  ·subst he
   refine cH0 (cW0 rfl) ?_
   refine bV0 (I := fun ε => ε = [.sh (ai0 ws), .sh (.lst (names.map .str)), .sh (.str n), .sh (.tup [.int a, .int b])]) (bs0 r3 (ba0 C BG b 0 3 _ (by decide) (by decide) (by decide)) rfl) fun hb ε he => ?_
   subst he
   exact bs0 r4 (ba0 C BG a 0 b _ (by decide) (by decide) (by omega)) ⟨_, _, rfl⟩
  ·constructor
   ·exact fun h => ⟨(n, a, b), rfl, h⟩
   ·rintro ⟨x, e, h⟩
    rw [<- fy0 e] at h
    exact h
 ·unfold fg0
  constructor
  ·intro h x hx
   obtain ⟨y, e, h'⟩ := h _ (List.mem_map_of_mem hx)
   rw [<- fy0 e] at h'
   exact h'
  ·intro h t ht
   obtain ⟨x, hx, rfl⟩ := List.mem_map.mp ht
   exact ⟨x, rfl, h x hx⟩
end
structure Valid (p : Plot) : Prop where
 beds : fN0 p.soils p.top
 crops : eh0 p.crops
 wants : fg0 p.wants p.names
structure Small (p : Plot) : Prop where
 crops : p.crops.length <= 10
 bars : ∀ c ∈ p.crops, c.bars.length <= 1000
 wants : p.wants.length <= 1000
 keys : (p.wants.map (·.1)).Nodup
theorem Valid.bound {p : Plot} (v : Valid p) (s : Small p) : Bound p where
 nd := v.crops.2.2.1
 bars := v.crops.2.2.2
 wants := fun x hx => (v.wants x hx).1
 gaps := fun c hc => (v.crops.2.1 c hc).2.2.2.1
 few := v.crops.1.2
 keys := s.keys
 beds := v.beds.2.1
 top := v.beds.1
 soil := v.beds.2.2
 some := v.crops.1.1
 text := fun c hc => (v.crops.2.1 c hc).1
 chg := fun c hc => (v.crops.2.1 c hc).2.1
 har := fun c hc => (v.crops.2.1 c hc).2.2.1
 gap := fun c hc => (v.crops.2.1 c hc).2.2.2
 bar := s.bars
 want := fun x hx => ⟨(v.wants x hx).2.2.1, (v.wants x hx).2.2.2, (v.wants x hx).2.1.2⟩
 fewW := s.wants
theorem Bound.valid {p : Plot} (b : Bound p) : Valid p where
 beds := ⟨b.top, b.beds, b.soil⟩
 crops := ⟨⟨b.some, b.few⟩, fun c hc => ⟨b.text c hc, b.chg c hc, b.har c hc, b.gap c hc⟩, b.nd, b.bars⟩
 wants := fun x hx => ⟨b.wants x hx, ⟨by have := b.want x hx; omega, (b.want x hx).2.2⟩, (b.want x hx).1, (b.want x hx).2.1⟩
theorem Bound.small {p : Plot} (b : Bound p) : Small p := ⟨by have := b.few; omega, b.bar, b.fewW, b.keys⟩
theorem cE0 {gs : List T -> Option Out} {g : En -> Option (List T)} {ε : En} {ts : List T} {o : Bool} {t : T} (h1 : g ε = some ts) (h2 : gs ts = some (.val o t)) : aM0 (eFnX gs g) ε = some (.nx ε) := by
 have e0 : eFnX gs g ε = gs ts := by unfold eFnX; rw [h1]; rfl
 unfold aM0
 rw [e0, h2]
theorem eT0 {gs : List T -> Option Out} {g : En -> Option (List T)} {ε : En} {ts : List T} {D : Addr} (h1 : g ε = some ts) (h2 : gs ts = some (.exc D)) : aM0 (eFnX gs g) ε = some (.xc D) := by
 have e0 : eFnX gs g ε = gs ts := by unfold eFnX; rw [h1]; rfl
 unfold aM0
 rw [e0, h2]
theorem ij0 {g h : En -> Option Fl} {ε : En} {D : Addr} (h1 : g ε = some (.xc D)) : sSeq g h ε = some (.xc D) := by
 unfold sSeq
 rw [h1]
 rfl
theorem iY0 {C : Addr} {N : List Str} {n : Nat} {g : En -> Option Fl} {ts : List T} {ε : En} (h : ts.length + 1 = n) (he : gl0 C N ts = ε) : fnJ C N n g ts = (g ε).bind (retJ C) := by
 unfold fnJ
 rw [if_pos h, he]
theorem mo0 (C BG : Addr) (p : Plot) (hp : Bound p) (hv : Valid p) : Y0 C BG [.lst (p.soils.map .int), .int p.top, .lst (p.crops.map ag0), ai0 p.wants] = some (.val (gg0 p)) := by
 unfold Y0 v7
 refine (iY0 (ε := [.ow (.ins C []), .sh (.lst (p.soils.map .int)), .sh (.int p.top), .sh (.lst (p.crops.map ag0)), .sh (ai0 p.wants), .un]) rfl rfl).trans ?_
 have hf := hp.few
 have r1 : aM0 (eFnX (Q2 C BG) (ab0 (eVar 1) (ab0 (eVar 2) aNil))) [.ow (.ins C []), .sh (.lst (p.soils.map .int)), .sh (.int p.top), .sh (.lst (p.crops.map ag0)), .sh (ai0 p.wants), .un] = some (.nx [.ow (.ins C []), .sh (.lst (p.soils.map .int)), .sh (.int p.top), .sh (.lst (p.crops.map ag0)), .sh (ai0 p.wants), .un]) := cE0 rfl ((fh0 C BG p.soils p.top).yes hv.beds)
 have r2 : aM0 (eFnX (Y2 C BG) (ab0 (eVar 3) aNil)) [.ow (.ins C []), .sh (.lst (p.soils.map .int)), .sh (.int p.top), .sh (.lst (p.crops.map ag0)), .sh (ai0 p.wants), .un] = some (.nx [.ow (.ins C []), .sh (.lst (p.soils.map .int)), .sh (.int p.top), .sh (.lst (p.crops.map ag0)), .sh (ai0 p.wants), .un]) := cE0 rfl ((ek0 C BG p (by omega)).yes hv.crops)
 have r3 : sSet 5 (eFnF (V0 C) (ab0 (eVar 3) aNil)) [.ow (.ins C []), .sh (.lst (p.soils.map .int)), .sh (.int p.top), .sh (.lst (p.crops.map ag0)), .sh (ai0 p.wants), .un] = some (.nx [.ow (.ins C []), .sh (.lst (p.soils.map .int)), .sh (.int p.top), .sh (.lst (p.crops.map ag0)), .sh (ai0 p.wants), .sh (.lst (p.names.map .str))]) := fm0 rfl (fq0 C p (by omega))
 have r4 : aM0 (eFnX (W4 C BG) (ab0 (eVar 4) (ab0 (eVar 5) aNil))) [.ow (.ins C []), .sh (.lst (p.soils.map .int)), .sh (.int p.top), .sh (.lst (p.crops.map ag0)), .sh (ai0 p.wants), .sh (.lst (p.names.map .str))] = some (.nx [.ow (.ins C []), .sh (.lst (p.soils.map .int)), .sh (.int p.top), .sh (.lst (p.crops.map ag0)), .sh (ai0 p.wants), .sh (.lst (p.names.map .str))]) := cE0 rfl ((fw0 C BG p.wants p.names).yes hv.wants)
 have hbars : (av0 bw0 (ab0 (aZ0 1 (iLst (eVar 3)) (aA0 0) bv0 (eFn (Z1 C) (ab0 (e2 φIx (bVar 0) (eC (.int 4))) (ab0 (eVar 6) aNil)))) aNil)) [.ow (.ins C [("soils", .tup (p.soils.map .int)), ("top", .int p.top), ("changes", .tup (p.crops.map fun c => .int c.change)), ("harvests", .tup (p.crops.map fun c => .int c.harvest)), ("gaps", .tup (p.crops.map fun c => .int c.gap))]), .sh (.lst (p.soils.map .int)), .sh (.int p.top), .sh (.lst (p.crops.map ag0)), .sh (ai0 p.wants), .sh (.lst (p.names.map .str))] = some (.tup (p.crops.map fun c => rowT (cT0 p c))) := by
  have e := bB0 (n := 1) (it := iLst (eVar 3)) (bd := aA0 0) (f := eFn (Z1 C) (ab0 (e2 φIx (bVar 0) (eC (.int 4))) (ab0 (eVar 6) aNil))) (G := kZ0 p) (ε := [.ow (.ins C [("soils", .tup (p.soils.map .int)), ("top", .int p.top), ("changes", .tup (p.crops.map fun c => .int c.change)), ("harvests", .tup (p.crops.map fun c => .int c.harvest)), ("gaps", .tup (p.crops.map fun c => .int c.gap))]), .sh (.lst (p.soils.map .int)), .sh (.int p.top), .sh (.lst (p.crops.map ag0)), .sh (ai0 p.wants), .sh (.lst (p.names.map .str))]) (ts := p.crops.map ag0) rfl (by rw [List.length_map]; unfold big; omega) fun t ht => by
   obtain ⟨c, hc, rfl⟩ := List.mem_map.mp ht
   have b1 : φIx (ag0 c) (.int 4) = some (.lst (c.bars.map .str)) := aY0 _ 4 _ rfl
   have b2 := hX0 C p c.bars (hp.bars c hc) (hp.bar c hc) hf
   have b3 : kZ0 p (ag0 c) = rowT (cT0 p c) := by
    show T.tup ((c.bars.map T.str).map (it0 p)) = T.tup ((c.bars.map (num p)).map intT)
    rw [List.map_map, List.map_map]
    rfl
   refine ⟨_, rfl, ?_⟩
   rw [b3]
   simp_arith! [List.replicate_one, List.singleton_append, b1, b2]
   rfl
  refine (aR0 e rfl).trans ?_
  rw [List.map_map]
  congr 2
  apply List.map_congr_left
  intro c _
  show T.tup ((c.bars.map T.str).map (it0 p)) = T.tup ((c.bars.map (num p)).map intT)
  rw [List.map_map, List.map_map]
  rfl
 have hwants : (av0 bw0 (ab0 (aZ0 2 (gd0 (eVar 4)) (db0 0 1) bv0 (eTup (ab0 (eBM cv0 (bVar 7) (ab0 (bVar 0) aNil)) (ab0 (e2 φIx (bVar 1) (eC (.int 0))) (ab0 (e2 φIx (bVar 1) (eC (.int 1))) aNil))))) aNil)) [.ow (.ins C [("soils", .tup (p.soils.map .int)), ("top", .int p.top), ("changes", .tup (p.crops.map fun c => .int c.change)), ("harvests", .tup (p.crops.map fun c => .int c.harvest)), ("gaps", .tup (p.crops.map fun c => .int c.gap)), ("bars", .tup (p.crops.map fun c => rowT (cT0 p c)))]), .sh (.lst (p.soils.map .int)), .sh (.int p.top), .sh (.lst (p.crops.map ag0)), .sh (ai0 p.wants), .sh (.lst (p.names.map .str))] = some (.tup (p.wants.map fun x => .tup [intT (num p x.1), .int x.2.1, .int x.2.2])) := by
  have hi : gd0 (eVar 4) [.ow (.ins C [("soils", .tup (p.soils.map .int)), ("top", .int p.top), ("changes", .tup (p.crops.map fun c => .int c.change)), ("harvests", .tup (p.crops.map fun c => .int c.harvest)), ("gaps", .tup (p.crops.map fun c => .int c.gap)), ("bars", .tup (p.crops.map fun c => rowT (cT0 p c)))]), .sh (.lst (p.soils.map .int)), .sh (.int p.top), .sh (.lst (p.crops.map ag0)), .sh (ai0 p.wants), .sh (.lst (p.names.map .str))] = some (p.wants.map fun x => .tup [.str x.1, .tup [.int x.2.1, .int x.2.2]]) := by
   show some ((p.wants.map fun x => (x.1, T.tup [.int x.2.1, .int x.2.2])).map fun kt => T.tup [.str kt.1, kt.2]) = _
   rw [List.map_map]
   rfl
  have e := bB0 (n := 2) (bd := db0 0 1) (f := eTup (ab0 (eBM cv0 (bVar 7) (ab0 (bVar 0) aNil)) (ab0 (e2 φIx (bVar 1) (eC (.int 0))) (ab0 (e2 φIx (bVar 1) (eC (.int 1))) aNil)))) (G := nG0 p) hi (by rw [List.length_map]; have := hp.fewW; unfold big; omega) fun t ht => by
   obtain ⟨⟨n, a, b⟩, hx, rfl⟩ := List.mem_map.mp ht
   have hn : n ∈ p.names := hp.wants _ hx
   have c1 : φIx (.tup [.int a, .int b]) (.int 0) = some (.int a) := aY0 _ 0 _ rfl
   have c2 : φIx (.tup [.int a, .int b]) (.int 1) = some (.int b) := aY0 _ 1 _ rfl
   have c3 := hl0 p.names n hn (by rw [List.length_map]; omega)
   have c4 : ∀ (x y z : T), (if ([x, y, z] : List T).length <= big then some (T.tup [x, y, z]) else none) = some (T.tup [x, y, z]) := fun x y z => rfl
   refine ⟨[.sh (.str n), .sh (.tup [.int a, .int b])] ++ [.ow (.ins C [("soils", .tup (p.soils.map .int)), ("top", .int p.top), ("changes", .tup (p.crops.map fun c => .int c.change)), ("harvests", .tup (p.crops.map fun c => .int c.harvest)), ("gaps", .tup (p.crops.map fun c => .int c.gap)), ("bars", .tup (p.crops.map fun c => rowT (cT0 p c)))]), .sh (.lst (p.soils.map .int)), .sh (.int p.top), .sh (.lst (p.crops.map ag0)), .sh (ai0 p.wants), .sh (.lst (p.names.map .str))], rfl, ?_⟩
   simp_arith! [List.cons_append, List.nil_append, c1, c2, c3, c4]
   rfl
  refine (aR0 e rfl).trans ?_
  rw [List.map_map]
  rfl
 have hdepth : (av0 hD0 (ab0 (eC (.int 1)) (ab0 (av0 φMax (ab0 (eFld C "gaps" (bVar 0)) aNil)) aNil))) [.ow (.ins C [("soils", .tup (p.soils.map .int)), ("top", .int p.top), ("changes", .tup (p.crops.map fun c => .int c.change)), ("harvests", .tup (p.crops.map fun c => .int c.harvest)), ("gaps", .tup (p.crops.map fun c => .int c.gap)), ("bars", .tup (p.crops.map fun c => rowT (cT0 p c))), ("wants", .tup (p.wants.map fun x => .tup [intT (num p x.1), .int x.2.1, .int x.2.2]))]), .sh (.lst (p.soils.map .int)), .sh (.int p.top), .sh (.lst (p.crops.map ag0)), .sh (ai0 p.wants), .sh (.lst (p.names.map .str))] = some (.int (depth p)) := by
  have hg : eFld C "gaps" (bVar 0) [.ow (.ins C [("soils", .tup (p.soils.map .int)), ("top", .int p.top), ("changes", .tup (p.crops.map fun c => .int c.change)), ("harvests", .tup (p.crops.map fun c => .int c.harvest)), ("gaps", .tup (p.crops.map fun c => .int c.gap)), ("bars", .tup (p.crops.map fun c => rowT (cT0 p c))), ("wants", .tup (p.wants.map fun x => .tup [intT (num p x.1), .int x.2.1, .int x.2.2]))]), .sh (.lst (p.soils.map .int)), .sh (.int p.top), .sh (.lst (p.crops.map ag0)), .sh (ai0 p.wants), .sh (.lst (p.names.map .str))] = some (.tup (p.crops.map fun c => .int c.gap)) := by
   show (if C = C then _ else _) = _
   rw [if_pos rfl]
   rfl
  have hm : av0 φMax (ab0 (eFld C "gaps" (bVar 0)) aNil) [.ow (.ins C [("soils", .tup (p.soils.map .int)), ("top", .int p.top), ("changes", .tup (p.crops.map fun c => .int c.change)), ("harvests", .tup (p.crops.map fun c => .int c.harvest)), ("gaps", .tup (p.crops.map fun c => .int c.gap)), ("bars", .tup (p.crops.map fun c => rowT (cT0 p c))), ("wants", .tup (p.wants.map fun x => .tup [intT (num p x.1), .int x.2.1, .int x.2.2]))]), .sh (.lst (p.soils.map .int)), .sh (.int p.top), .sh (.lst (p.crops.map ag0)), .sh (ai0 p.wants), .sh (.lst (p.names.map .str))] = (match p.crops.map (·.gap) with | [] => none | g :: gs => some (.int (maxI g gs))) := by
   have e3 : (p.crops.map fun c => T.int c.gap) = (p.crops.map (·.gap)).map T.int := by rw [List.map_map]; rfl
   unfold av0 ab0 aNil
   rw [hg, e3]
   show (dE0 ((p.crops.map (·.gap)).map T.int)).bind maxO = _
   rw [jz0]
   cases p.crops.map (·.gap) <;> rfl
  have hs := hp.some
  unfold depth
  cases hc : p.crops.map (·.gap) with
  | nil =>
   have : (p.crops.map (·.gap)).length = 0 := by rw [hc]; rfl
   rw [List.length_map] at this
   omega
  | cons g gs =>
   rw [hc] at hm
   exact fJ0 rfl hm rfl
 have u0 : cj0 C 0 "soils" (av0 bw0 (ab0 (bVar 1) aNil)) [.ow (.ins C []), .sh (.lst (p.soils.map .int)), .sh (.int p.top), .sh (.lst (p.crops.map ag0)), .sh (ai0 p.wants), .sh (.lst (p.names.map .str))] = some (.nx [.ow (.ins C [("soils", .tup (p.soils.map .int))]), .sh (.lst (p.soils.map .int)), .sh (.int p.top), .sh (.lst (p.crops.map ag0)), .sh (ai0 p.wants), .sh (.lst (p.names.map .str))]) := by
  refine (cx0 (t := (("soils", .tup (p.soils.map .int)) : Str × T).2) rfl (by show 0 < 1000; decide) ?_).trans ?_
  ·exact rfl
  ·rfl
 have u1 : cj0 C 0 "top" (eVar 2) [.ow (.ins C [("soils", .tup (p.soils.map .int))]), .sh (.lst (p.soils.map .int)), .sh (.int p.top), .sh (.lst (p.crops.map ag0)), .sh (ai0 p.wants), .sh (.lst (p.names.map .str))] = some (.nx [.ow (.ins C [("soils", .tup (p.soils.map .int)), ("top", .int p.top)]), .sh (.lst (p.soils.map .int)), .sh (.int p.top), .sh (.lst (p.crops.map ag0)), .sh (ai0 p.wants), .sh (.lst (p.names.map .str))]) := by
  refine (cx0 (t := (("top", .int p.top) : Str × T).2) rfl (by show 1 < 1000; decide) ?_).trans ?_
  ·exact rfl
  ·rfl
 have u2 : cj0 C 0 "changes" (av0 bw0 (ab0 (aZ0 1 (iLst (eVar 3)) (aA0 0) bv0 (e2 φIx (bVar 0) (eC (.int 1)))) aNil)) [.ow (.ins C [("soils", .tup (p.soils.map .int)), ("top", .int p.top)]), .sh (.lst (p.soils.map .int)), .sh (.int p.top), .sh (.lst (p.crops.map ag0)), .sh (ai0 p.wants), .sh (.lst (p.names.map .str))] = some (.nx [.ow (.ins C [("soils", .tup (p.soils.map .int)), ("top", .int p.top), ("changes", .tup (p.crops.map fun c => .int c.change))]), .sh (.lst (p.soils.map .int)), .sh (.int p.top), .sh (.lst (p.crops.map ag0)), .sh (ai0 p.wants), .sh (.lst (p.names.map .str))]) := by
  refine (cx0 (t := (("changes", .tup (p.crops.map fun c => .int c.change)) : Str × T).2) rfl (by show 2 < 1000; decide) ?_).trans ?_
  ·exact (gC0 p 1 (fun c => .int c.change) (fun c => aY0 _ 1 _ rfl) hf _ rfl)
  ·rfl
 have u3 : cj0 C 0 "harvests" (av0 bw0 (ab0 (aZ0 1 (iLst (eVar 3)) (aA0 0) bv0 (e2 φIx (bVar 0) (eC (.int 2)))) aNil)) [.ow (.ins C [("soils", .tup (p.soils.map .int)), ("top", .int p.top), ("changes", .tup (p.crops.map fun c => .int c.change))]), .sh (.lst (p.soils.map .int)), .sh (.int p.top), .sh (.lst (p.crops.map ag0)), .sh (ai0 p.wants), .sh (.lst (p.names.map .str))] = some (.nx [.ow (.ins C [("soils", .tup (p.soils.map .int)), ("top", .int p.top), ("changes", .tup (p.crops.map fun c => .int c.change)), ("harvests", .tup (p.crops.map fun c => .int c.harvest))]), .sh (.lst (p.soils.map .int)), .sh (.int p.top), .sh (.lst (p.crops.map ag0)), .sh (ai0 p.wants), .sh (.lst (p.names.map .str))]) := by
  refine (cx0 (t := (("harvests", .tup (p.crops.map fun c => .int c.harvest)) : Str × T).2) rfl (by show 3 < 1000; decide) ?_).trans ?_
  ·exact (gC0 p 2 (fun c => .int c.harvest) (fun c => aY0 _ 2 _ rfl) hf _ rfl)
  ·rfl
 have u4 : cj0 C 0 "gaps" (av0 bw0 (ab0 (aZ0 1 (iLst (eVar 3)) (aA0 0) bv0 (e2 φIx (bVar 0) (eC (.int 3)))) aNil)) [.ow (.ins C [("soils", .tup (p.soils.map .int)), ("top", .int p.top), ("changes", .tup (p.crops.map fun c => .int c.change)), ("harvests", .tup (p.crops.map fun c => .int c.harvest))]), .sh (.lst (p.soils.map .int)), .sh (.int p.top), .sh (.lst (p.crops.map ag0)), .sh (ai0 p.wants), .sh (.lst (p.names.map .str))] = some (.nx [.ow (.ins C [("soils", .tup (p.soils.map .int)), ("top", .int p.top), ("changes", .tup (p.crops.map fun c => .int c.change)), ("harvests", .tup (p.crops.map fun c => .int c.harvest)), ("gaps", .tup (p.crops.map fun c => .int c.gap))]), .sh (.lst (p.soils.map .int)), .sh (.int p.top), .sh (.lst (p.crops.map ag0)), .sh (ai0 p.wants), .sh (.lst (p.names.map .str))]) := by
  refine (cx0 (t := (("gaps", .tup (p.crops.map fun c => .int c.gap)) : Str × T).2) rfl (by show 4 < 1000; decide) ?_).trans ?_
  ·exact (gC0 p 3 (fun c => .int c.gap) (fun c => aY0 _ 3 _ rfl) hf _ rfl)
  ·rfl
 have u5 : cj0 C 0 "bars" (av0 bw0 (ab0 (aZ0 1 (iLst (eVar 3)) (aA0 0) bv0 (eFn (Z1 C) (ab0 (e2 φIx (bVar 0) (eC (.int 4))) (ab0 (eVar 6) aNil)))) aNil)) [.ow (.ins C [("soils", .tup (p.soils.map .int)), ("top", .int p.top), ("changes", .tup (p.crops.map fun c => .int c.change)), ("harvests", .tup (p.crops.map fun c => .int c.harvest)), ("gaps", .tup (p.crops.map fun c => .int c.gap))]), .sh (.lst (p.soils.map .int)), .sh (.int p.top), .sh (.lst (p.crops.map ag0)), .sh (ai0 p.wants), .sh (.lst (p.names.map .str))] = some (.nx [.ow (.ins C [("soils", .tup (p.soils.map .int)), ("top", .int p.top), ("changes", .tup (p.crops.map fun c => .int c.change)), ("harvests", .tup (p.crops.map fun c => .int c.harvest)), ("gaps", .tup (p.crops.map fun c => .int c.gap)), ("bars", .tup (p.crops.map fun c => rowT (cT0 p c)))]), .sh (.lst (p.soils.map .int)), .sh (.int p.top), .sh (.lst (p.crops.map ag0)), .sh (ai0 p.wants), .sh (.lst (p.names.map .str))]) := by
  refine (cx0 (t := (("bars", .tup (p.crops.map fun c => rowT (cT0 p c))) : Str × T).2) rfl (by show 5 < 1000; decide) ?_).trans ?_
  ·exact hbars
  ·rfl
 have u6 : cj0 C 0 "wants" (av0 bw0 (ab0 (aZ0 2 (gd0 (eVar 4)) (db0 0 1) bv0 (eTup (ab0 (eBM cv0 (bVar 7) (ab0 (bVar 0) aNil)) (ab0 (e2 φIx (bVar 1) (eC (.int 0))) (ab0 (e2 φIx (bVar 1) (eC (.int 1))) aNil))))) aNil)) [.ow (.ins C [("soils", .tup (p.soils.map .int)), ("top", .int p.top), ("changes", .tup (p.crops.map fun c => .int c.change)), ("harvests", .tup (p.crops.map fun c => .int c.harvest)), ("gaps", .tup (p.crops.map fun c => .int c.gap)), ("bars", .tup (p.crops.map fun c => rowT (cT0 p c)))]), .sh (.lst (p.soils.map .int)), .sh (.int p.top), .sh (.lst (p.crops.map ag0)), .sh (ai0 p.wants), .sh (.lst (p.names.map .str))] = some (.nx [.ow (.ins C [("soils", .tup (p.soils.map .int)), ("top", .int p.top), ("changes", .tup (p.crops.map fun c => .int c.change)), ("harvests", .tup (p.crops.map fun c => .int c.harvest)), ("gaps", .tup (p.crops.map fun c => .int c.gap)), ("bars", .tup (p.crops.map fun c => rowT (cT0 p c))), ("wants", .tup (p.wants.map fun x => .tup [intT (num p x.1), .int x.2.1, .int x.2.2]))]), .sh (.lst (p.soils.map .int)), .sh (.int p.top), .sh (.lst (p.crops.map ag0)), .sh (ai0 p.wants), .sh (.lst (p.names.map .str))]) := by
  refine (cx0 (t := (("wants", .tup (p.wants.map fun x => .tup [intT (num p x.1), .int x.2.1, .int x.2.2])) : Str × T).2) rfl (by show 6 < 1000; decide) ?_).trans ?_
  ·exact hwants
  ·rfl
 have u7 : cj0 C 0 "depth" (av0 hD0 (ab0 (eC (.int 1)) (ab0 (av0 φMax (ab0 (eFld C "gaps" (bVar 0)) aNil)) aNil))) [.ow (.ins C [("soils", .tup (p.soils.map .int)), ("top", .int p.top), ("changes", .tup (p.crops.map fun c => .int c.change)), ("harvests", .tup (p.crops.map fun c => .int c.harvest)), ("gaps", .tup (p.crops.map fun c => .int c.gap)), ("bars", .tup (p.crops.map fun c => rowT (cT0 p c))), ("wants", .tup (p.wants.map fun x => .tup [intT (num p x.1), .int x.2.1, .int x.2.2]))]), .sh (.lst (p.soils.map .int)), .sh (.int p.top), .sh (.lst (p.crops.map ag0)), .sh (ai0 p.wants), .sh (.lst (p.names.map .str))] = some (.nx [.ow (.ins C [("soils", .tup (p.soils.map .int)), ("top", .int p.top), ("changes", .tup (p.crops.map fun c => .int c.change)), ("harvests", .tup (p.crops.map fun c => .int c.harvest)), ("gaps", .tup (p.crops.map fun c => .int c.gap)), ("bars", .tup (p.crops.map fun c => rowT (cT0 p c))), ("wants", .tup (p.wants.map fun x => .tup [intT (num p x.1), .int x.2.1, .int x.2.2])), ("depth", .int (depth p))]), .sh (.lst (p.soils.map .int)), .sh (.int p.top), .sh (.lst (p.crops.map ag0)), .sh (ai0 p.wants), .sh (.lst (p.names.map .str))]) := by
  refine (cx0 (t := (("depth", .int (depth p)) : Str × T).2) rfl (by show 7 < 1000; decide) ?_).trans ?_
  ·exact hdepth
  ·rfl
 rw [at0 r1, at0 r2, at0 r3, at0 r4, at0 u0, at0 u1, at0 u2, at0 u3, at0 u4, at0 u5, at0 u6, u7]
 show (if C = C then some (OutI.val (gg0 p)) else none) = _
 rw [if_pos rfl]
theorem lv0 (C BG : Addr) (p : Plot) (hs : Small p) (hv : ¬ Valid p) : Y0 C BG [.lst (p.soils.map .int), .int p.top, .lst (p.crops.map ag0), ai0 p.wants] = some (.exc BG) := by
 unfold Y0 v7
 refine (iY0 (ε := [.ow (.ins C []), .sh (.lst (p.soils.map .int)), .sh (.int p.top), .sh (.lst (p.crops.map ag0)), .sh (ai0 p.wants), .un]) rfl rfl).trans ?_
 have hc := hs.crops
 by_cases h1 : fN0 p.soils p.top
 ·have r1 : aM0 (eFnX (Q2 C BG) (ab0 (eVar 1) (ab0 (eVar 2) aNil))) [.ow (.ins C []), .sh (.lst (p.soils.map .int)), .sh (.int p.top), .sh (.lst (p.crops.map ag0)), .sh (ai0 p.wants), .un] = some (.nx [.ow (.ins C []), .sh (.lst (p.soils.map .int)), .sh (.int p.top), .sh (.lst (p.crops.map ag0)), .sh (ai0 p.wants), .un]) := cE0 rfl ((fh0 C BG p.soils p.top).yes h1)
  rw [at0 r1]
  by_cases h2 : eh0 p.crops
  ·have r2 : aM0 (eFnX (Y2 C BG) (ab0 (eVar 3) aNil)) [.ow (.ins C []), .sh (.lst (p.soils.map .int)), .sh (.int p.top), .sh (.lst (p.crops.map ag0)), .sh (ai0 p.wants), .un] = some (.nx [.ow (.ins C []), .sh (.lst (p.soils.map .int)), .sh (.int p.top), .sh (.lst (p.crops.map ag0)), .sh (ai0 p.wants), .un]) := cE0 rfl ((ek0 C BG p (by omega)).yes h2)
   have r3 : sSet 5 (eFnF (V0 C) (ab0 (eVar 3) aNil)) [.ow (.ins C []), .sh (.lst (p.soils.map .int)), .sh (.int p.top), .sh (.lst (p.crops.map ag0)), .sh (ai0 p.wants), .un] = some (.nx [.ow (.ins C []), .sh (.lst (p.soils.map .int)), .sh (.int p.top), .sh (.lst (p.crops.map ag0)), .sh (ai0 p.wants), .sh (.lst (p.names.map .str))]) := fm0 rfl (fq0 C p (by omega))
   rw [at0 r2, at0 r3, ij0 (eT0 rfl ((fw0 C BG p.wants p.names).no fun h3 => hv ⟨h1, h2, h3⟩))]
   rfl
  ·rw [ij0 (eT0 rfl ((ek0 C BG p (by omega)).no h2))]
   rfl
 ·rw [ij0 (eT0 rfl ((fh0 C BG p.soils p.top).no h1))]
  rfl
theorem lR0 {i j : Nat} {D : Addr} {g : En -> Option Out} {ε : En} {t : T} (h : g ε = some (.val true t)) (hd : isD t = false) : fS0 i j D g ε = some (.nx (ε.set i (.sh t))) := by
 unfold fS0
 rw [h]
 show ((if (true && isD t) = true then none else some t).map fun u => Fl.nx (ε.set i (.sh u))) = _
 rw [hd]
 rfl
theorem mp0 {i j : Nat} {D : Addr} {g : En -> Option Out} {ε : En} (h : g ε = some (.exc D)) : fS0 i j D g ε = some (.nx (((ε.set j (.sh (.exc D))).set i (.sh (.exc D))).set j .un)) := by
 unfold fS0
 rw [h]
 show (if D = D then _ else _) = _
 rw [if_pos rfl]
theorem fL0 (p : Plot) (x y : Sl) : (ab0 (e2 φIx (bVar 0) (eC (.int 0))) (ab0 (e2 φIx (bVar 0) (eC (.int 1))) (ab0 (e2 φIx (bVar 0) (eC (.int 2))) (ab0 (e2 φIx (bVar 0) (eC (.int 3))) aNil)))) [.sh (aP0 p), x, y] = some [.lst (p.soils.map .int), .int p.top, .lst (p.crops.map ag0), ai0 p.wants] := by
 have a0 : φIx (aP0 p) (.int 0) = some (.lst (p.soils.map .int)) := bO0 _ 0 _ rfl
 have a1 : φIx (aP0 p) (.int 1) = some (.int p.top) := bO0 _ 1 _ rfl
 have a2 : φIx (aP0 p) (.int 2) = some (.lst (p.crops.map ag0)) := bO0 _ 2 _ rfl
 have a3 : φIx (aP0 p) (.int 3) = some (ai0 p.wants) := bO0 _ 3 _ rfl
 simp_arith! [a0, a1, a2, a3]
theorem ks0 (C BG : Addr) (p : Plot) (hs : Small p) (hv : Valid p) : Y1 C BG [aP0 p] = some (false, garT C p) := by
 unfold Y1 Z7
 refine (bo0 (ε := [.sh (aP0 p), .un, .un]) rfl rfl).trans ?_
 have r1 : sSet 1 (eC .non) [.sh (aP0 p), .un, .un] = some (.nx [.sh (aP0 p), .sh .non, .un]) := rfl
 have m : dz0 C (Y0 C BG) (ab0 (e2 φIx (bVar 0) (eC (.int 0))) (ab0 (e2 φIx (bVar 0) (eC (.int 1))) (ab0 (e2 φIx (bVar 0) (eC (.int 2))) (ab0 (e2 φIx (bVar 0) (eC (.int 3))) aNil)))) [.sh (aP0 p), .sh .non, .un] = some (.val true (garT C p)) := by
  unfold dz0
  rw [fL0, Option.bind_some, mo0 C BG p (hv.bound hs) hv]
  rfl
 have r2 := lR0 (i := 1) (j := 2) (D := BG) m rfl
 rw [at0 r1, at0 r2]
 rfl
theorem lM0 (C BG : Addr) (p : Plot) (hs : Small p) (hv : ¬ Valid p) : Y1 C BG [aP0 p] = some (false, .exc BG) := by
 unfold Y1 Z7
 refine (bo0 (ε := [.sh (aP0 p), .un, .un]) rfl rfl).trans ?_
 have r1 : sSet 1 (eC .non) [.sh (aP0 p), .un, .un] = some (.nx [.sh (aP0 p), .sh .non, .un]) := rfl
 have m : dz0 C (Y0 C BG) (ab0 (e2 φIx (bVar 0) (eC (.int 0))) (ab0 (e2 φIx (bVar 0) (eC (.int 1))) (ab0 (e2 φIx (bVar 0) (eC (.int 2))) (ab0 (e2 φIx (bVar 0) (eC (.int 3))) aNil)))) [.sh (aP0 p), .sh .non, .un] = some (.exc BG) := by
  unfold dz0
  rw [fL0, Option.bind_some, lv0 C BG p hs hv]
 have r2 := mp0 (i := 1) (j := 2) (D := BG) m
 rw [at0 r1, at0 r2]
 rfl
theorem kq0 (C BG : Addr) : Z3 C BG [.exc BG] = some (false, .int 0) := by
 have f1 : ∀ (b : Bool) (z : Sl), eIsX BG b (bVar 0) [.sh (.exc BG), z] = some (.bl b) := fun b z => by
  show (if BG = BG then _ else _) = _
  rw [if_pos rfl]
 unfold Z3 z8
 refine (bo0 (ε := [.sh (.exc BG), .un]) rfl rfl).trans ?_
 have r1 : sSet 1 (eLst (ab0 (eIsX BG true (bVar 0)) (ab0 (eIsX BG false (bVar 0)) aNil))) [.sh (.exc BG), .un] = some (.nx [.sh (.exc BG), .sh (.lst [.bl true, .bl false])]) :=
  aF0 (gT0 (ap0 (f1 _ _) (ap0 (f1 _ _) rfl)) (show (2 : Nat) <= 1000000 by decide))
 have q : ∀ z : Sl, qNot (qB (eIsX BG true (bVar 0))) [.sh (.exc BG), z] = some false := fun z => by
  unfold qNot
  rw [by0 (f1 _ _)]
  rfl
 have r2 : sIf (qOr (qNot (qB (eIsX BG true (bVar 0)))) (qOr (qNot (qB (eIsX BG true (bVar 0)))) (qB (e2 φNe (eBM eM0 (bVar 1) (ab0 (eC (.bl true)) aNil)) (eC (.int 1)))))) (sRet false (e1 φNeg (eC (.int 1)))) sNx [.sh (.exc BG), .sh (.lst [.bl true, .bl false])] = some (.nx [.sh (.exc BG), .sh (.lst [.bl true, .bl false])]) := by
  refine cW0 ?_
  have o : ∀ (q1 q2 : En -> Option Bool) (ε : En), q1 ε = some false -> q2 ε = some false -> qOr q1 q2 ε = some false := fun q1 q2 ε h1 h2 => by
   unfold qOr
   rw [h1, Option.bind_some, if_neg Bool.false_ne_true]
   exact h2
  exact o _ _ _ (q _) (o _ _ _ (q _) rfl)
 rw [at0 r1, at0 r2]
 rfl
theorem bx0 {f : T -> T -> Option Bool} : ∀ (ts : List T), (∀ t ∈ ts, f t t = some true) -> eqLW f ts ts = some true
 | [], _ => rfl
 | t :: ts, h => by
  have h1 := h t (List.mem_cons_self ..)
  have h2 := bx0 ts fun u hu => h u (List.mem_cons_of_mem _ hu)
  unfold eqLW
  rw [h1, h2]
  rfl
theorem cQ0 (n : Nat) (k : Int) : eqT (n + 1) (.int k) (.int k) = some true := by
 show some (eqV (.int k) (.int k)) = _
 show some (k == k) = _
 rw [beq_self_eq_true]
theorem neI (i j : Int) : φNe (.int i) (.int j) = some (.bl (!decide (i = j))) := by
 show some (T.bl (!decide (V.int i = V.int j))) = _
 by_cases h : i = j
 ·subst h; simp
 ·rw [decide_eq_false h, decide_eq_false fun z => h (V.int.inj z)]
theorem jA0 (n : Nat) (x : Str) : eqT (n + 1) (.str x) (.str x) = some true := by
 show (if bn0 (.str x) && bn0 (.str x) then some (eqV (toV (.str x)) (toV (.str x))) else none) = some true
 rw [dN0 (t := .str x) rfl]
 rfl
theorem jX0 (n : Nat) (xs : List Str) : eqT (n + 2) (.lst (xs.map .str)) (.lst (xs.map .str)) = some true := bx0 _ fun t ht => by
 obtain ⟨x, _, rfl⟩ := List.mem_map.mp ht
 exact jA0 n x
theorem jG0 (n : Nat) (xs : List Int) : eqT (n + 2) (.lst (xs.map .int)) (.lst (xs.map .int)) = some true := bx0 _ fun t ht => by
 obtain ⟨x, _, rfl⟩ := List.mem_map.mp ht
 exact cQ0 n x
theorem kQ0 (n : Nat) (c : Crop) : eqT (n + 4) (ag0 c) (ag0 c) = some true := bx0 _ fun t ht => by
 simp only [List.mem_cons, List.not_mem_nil, or_false] at ht
 rcases ht with e | e | e | e | e <;> subst e
 ·exact jA0 _ _
 ·exact cQ0 _ _
 ·exact cQ0 _ _
 ·exact cQ0 _ _
 ·exact jX0 _ _
theorem kM0 {p : Plot} (hp : Small p) : φNeS (aP0 p) (aP0 p) = some (.bl false) := by
 unfold φNeS
 refine if_pos ⟨rfl, _, rfl, fun t ht => ?_⟩
 simp only [List.mem_cons, List.not_mem_nil, or_false] at ht
 rcases ht with e | e | e | e <;> subst e
 ·exact .inl (jG0 5 _)
 ·exact .inl (cQ0 6 _)
 ·refine .inl (bx0 _ fun t ht => ?_)
  obtain ⟨c, _, rfl⟩ := List.mem_map.mp ht
  exact kQ0 2 c
 ·refine .inr ⟨_, rfl, ?_, fun t ht => ?_⟩
  ·rw [List.map_map]
   exact hp.keys
  ·rw [List.map_map] at ht
   obtain ⟨x, _, rfl⟩ := List.mem_map.mp ht
   refine bx0 _ fun t ht => ?_
   simp only [List.mem_cons, List.not_mem_nil, or_false] at ht
   rcases ht with e | e <;> subst e
   ·exact cQ0 5 _
   ·exact cQ0 5 _
theorem eC0 (C : Addr) (p : Plot) (hf : p.crops.length <= 1000) : V1 C [aP0 p] = some (true, aP0 p) := by
 unfold V1 Z8
 refine (bo0 (ε := [.sh (aP0 p), .un]) rfl rfl).trans ?_
 have a0 : φIx (aP0 p) (.int 0) = some (.lst (p.soils.map .int)) := bO0 _ 0 _ rfl
 have a1 : φIx (aP0 p) (.int 1) = some (.int p.top) := bO0 _ 1 _ rfl
 have a2 : φIx (aP0 p) (.int 2) = some (.lst (p.crops.map ag0)) := bO0 _ 2 _ rfl
 have a3 : φIx (aP0 p) (.int 3) = some (ai0 p.wants) := bO0 _ 3 _ rfl
 have hi : iLst (e2 φIx (bVar 0) (eC (.int 2))) [.sh (aP0 p), .un] = some (p.crops.map ag0) := by simp_arith! [a2]
 have e := bB0 (n := 1) (bd := aA0 0) (f := e2 ic0 (eSlT (bVar 0) (bk0 none) (bk0 (some (eC (.int 4))))) (eTup (ab0 (av0 cU0 (ab0 (e2 φIx (bVar 0) (eC (.int 4))) aNil)) aNil))) (G := id) hi (by rw [List.length_map]; unfold big; omega) fun t ht => by
  obtain ⟨c, hc, rfl⟩ := List.mem_map.mp ht
  have b4 : φIx (ag0 c) (.int 4) = some (.lst (c.bars.map .str)) := aY0 _ 4 _ rfl
  have b5 : ∀ x : T, (if ([x] : List T).length <= big then some (T.tup [x]) else none) = some (T.tup [x]) := fun x => rfl
  refine ⟨[.sh (ag0 c), .sh (aP0 p), .un], rfl, ?_⟩
  simp_arith! [b4, cU0, b5, ag0]
  rfl
 rw [List.map_id] at e
 have r1 : sSet 1 (aZ0 1 (iLst (e2 φIx (bVar 0) (eC (.int 2)))) (aA0 0) bv0 (e2 ic0 (eSlT (bVar 0) (bk0 none) (bk0 (some (eC (.int 4))))) (eTup (ab0 (av0 cU0 (ab0 (e2 φIx (bVar 0) (eC (.int 4))) aNil)) aNil)))) [.sh (aP0 p), .un] = some (.nx [.sh (aP0 p), .sh (.lst (p.crops.map ag0))]) := by
  unfold sSet
  rw [e]
  rfl
 rw [at0 r1]
 have b6 : ∀ x y z w : T, (if ([x, y, z, w] : List T).length <= big then some (T.lst [x, y, z, w]) else none) = some (T.lst [x, y, z, w]) := fun x y z w => rfl
 have b7 : hN0 [ai0 p.wants] = some (ai0 p.wants) := rfl
 simp_arith! [a0, a1, a3, cU0, b7, b6]
 rfl
theorem ci0 {k : Int} {w : Nat} {a : En -> Option Fl} {ε : En} (h : bVar 1 ε = some (intT w)) : sIf (qB (e2 φEq (bVar 1) (eC (.int k)))) a sNx ε = if (w : Int) = k then a ε else some (.nx ε) := by
 have q : qB (e2 φEq (bVar 1) (eC (.int k))) ε = some (decide ((w : Int) = k)) := by0 ((am0 h rfl).trans (eqI _ _))
 rw [bH0 q]
 by_cases e : (w : Int) = k
 ·rw [decide_eq_true e, if_pos rfl, if_pos e]
 ·rw [decide_eq_false e, if_neg Bool.false_ne_true, if_neg e]
  rfl
theorem dc0 {k l : Int} {w : Nat} {a : En -> Option Fl} {ε : En} (h : bVar 1 ε = some (intT w)) : sIf (qOr (qB (e2 φEq (bVar 1) (eC (.int k)))) (qB (e2 φEq (bVar 1) (eC (.int l))))) a sNx ε = if (w : Int) = k \/ (w : Int) = l then a ε else some (.nx ε) := by
 have q1 : qB (e2 φEq (bVar 1) (eC (.int k))) ε = some (decide ((w : Int) = k)) := by0 ((am0 h rfl).trans (eqI _ _))
 have q2 : qB (e2 φEq (bVar 1) (eC (.int l))) ε = some (decide ((w : Int) = l)) := by0 ((am0 h rfl).trans (eqI _ _))
 have q : qOr (qB (e2 φEq (bVar 1) (eC (.int k)))) (qB (e2 φEq (bVar 1) (eC (.int l)))) ε = some (decide ((w : Int) = k \/ (w : Int) = l)) := by
  unfold qOr
  rw [q1, q2, Option.bind_some]
  by_cases e : (w : Int) = k
  ·simp [e]
  ·simp [e]
 rw [bH0 q]
 by_cases e : (w : Int) = k \/ (w : Int) = l
 ·rw [decide_eq_true e, if_pos rfl, if_pos e]
 ·rw [decide_eq_false e, if_neg Bool.false_ne_true, if_neg e]
  rfl
theorem if_lt {k : Int} {w : Nat} {a : En -> Option Fl} {ε : En} (h : bVar 1 ε = some (intT w)) : sIf (qB (e2 φLt (bVar 1) (eC (.int k)))) a sNx ε = if (w : Int) < k then a ε else some (.nx ε) := by
 have q : qB (e2 φLt (bVar 1) (eC (.int k))) ε = some (decide ((w : Int) < k)) := by0 ((am0 h rfl).trans rfl)
 rw [bH0 q]
 by_cases e : (w : Int) < k
 ·rw [decide_eq_true e, if_pos rfl, if_pos e]
 ·rw [decide_eq_false e, if_neg Bool.false_ne_true, if_neg e]
  rfl
theorem kF0 {i : Nat} {fk fv : En -> Option T} {ε : En} {ts : List T} {k : Int} {j : Nat} {v : T} (h0 : ε[i]? = some (.ow (.lst ts))) (hv : fv ε = some v) (hk : fk ε = some (.int k)) (hj : ixN ts.length k = some j) : du0 i fk fv ε = some (.nx (ε.set i (.ow (.lst (ts.set j v))))) := by
 unfold du0
 rw [h0]
 show (fv ε).bind _ = _
 rw [hv, Option.bind_some, hk]
 show (match ixN ts.length k with | some j => _ | none => _) = _
 rw [hj]
theorem bW0 {i : Nat} {fk fv : En -> Option T} {ε ε' : En} {ts : List T} {k : Int} {j : Nat} {v : T} (h0 : ε[i]? = some (.ow (.lst ts))) (hv : fv ε = some v) (hk : fk ε = some (.int k)) (hj : ixN ts.length k = some j) (he : ε.set i (.ow (.lst (ts.set j v))) = ε') : du0 i fk fv ε = some (.nx ε') := he ▸ kF0 h0 hv hk hj
theorem gr0 {n j : Nat} (h : j < n) : ixN n (j : Int) = some j := by
 unfold ixN
 rw [if_pos (by omega), if_pos (by omega)]
 simp
theorem cF0 {φ φ' : T -> T -> Option T} {f g h : En -> Option T} {ε : En} {s t u : T} {b : Bool} (h1 : f ε = some s) (h2 : g ε = some t) (h3 : h ε = some u) (h4 : φ s t = some (.bl b)) : bR0 φ φ' f g h ε = if b = true then φ' t u else some (.bl false) := by
 unfold bR0
 rw [h1, Option.bind_some, h2, Option.bind_some, h4, Option.bind_some]
 cases b with
 | true =>
  show (h ε).bind _ = _
  rw [h3]
  rfl
 | false => rfl
def badC (w far : Nat) (c : Crop) : Crop := match w with
 | 0 => { c with name := "" }
 | 1 => { c with change := -4 - (far : Int) }
 | 2 => { c with change := 4 + (far : Int) }
 | 3 => { c with harvest := -1 - (far : Int) }
 | 4 => { c with harvest := 1001 + (far : Int) }
 | 5 => { c with gap := -1 - (far : Int) }
 | 6 => { c with gap := 4 + (far : Int) }
 | _ => { c with bars := c.bars ++ (["weed"] : List Str) }
theorem mN0 (C : Addr) (w far : Nat) (hw : w < 8) (c : Crop) (hb : c.bars.length <= 5) : Z5 C [ag0 c, intT w, intT far] = some (false, ag0 (badC w far c)) := by
 unfold Z5 X8
 refine (bo0 (ε := [.sh (ag0 c), .sh (intT w), .sh (intT far), .un]) rfl rfl).trans ?_
 refine (ah0 (ε1 := [.sh (ag0 c), .sh (intT w), .sh (intT far), .ow (.lst [.str c.name, .int c.change, .int c.harvest, .int c.gap, .lst (c.bars.map .str)])]) rfl).trans ?_
 have fin : ∀ ts : List T, (cn0 C [.sh (ag0 c), .sh (intT w), .sh (intT far), .ow (.lst ts)]).bind cL0 = some (false, .tup ts) := fun ts => rfl
 have k1 : ∀ ts : List T, w ≠ 0 -> bD0 C [.sh (ag0 c), .sh (intT w), .sh (intT far), .ow (.lst ts)] = some (.nx [.sh (ag0 c), .sh (intT w), .sh (intT far), .ow (.lst ts)]) := fun ts h => (ci0 (w := w) rfl).trans (if_neg (by omega))
 have k2 : ∀ ts : List T, w ≠ 1 -> w ≠ 2 -> bd0 C [.sh (ag0 c), .sh (intT w), .sh (intT far), .ow (.lst ts)] = some (.nx [.sh (ag0 c), .sh (intT w), .sh (intT far), .ow (.lst ts)]) := fun ts h h' => (dc0 (w := w) rfl).trans (if_neg (by omega))
 have k3 : ∀ ts : List T, w ≠ 3 -> w ≠ 4 -> bg0 C [.sh (ag0 c), .sh (intT w), .sh (intT far), .ow (.lst ts)] = some (.nx [.sh (ag0 c), .sh (intT w), .sh (intT far), .ow (.lst ts)]) := fun ts h h' => (dc0 (w := w) rfl).trans (if_neg (by omega))
 have k4 : ∀ ts : List T, w ≠ 5 -> w ≠ 6 -> bc0 C [.sh (ag0 c), .sh (intT w), .sh (intT far), .ow (.lst ts)] = some (.nx [.sh (ag0 c), .sh (intT w), .sh (intT far), .ow (.lst ts)]) := fun ts h h' => (dc0 (w := w) rfl).trans (if_neg (by omega))
 have k5 : ∀ ts : List T, w ≠ 7 -> bF0 C [.sh (ag0 c), .sh (intT w), .sh (intT far), .ow (.lst ts)] = some (.nx [.sh (ag0 c), .sh (intT w), .sh (intT far), .ow (.lst ts)]) := fun ts h => (ci0 (w := w) rfl).trans (if_neg (by omega))
 have hc : w = 0 \/ w = 1 \/ w = 2 \/ w = 3 \/ w = 4 \/ w = 5 \/ w = 6 \/ w = 7 := by omega
 rcases hc with e | e | e | e | e | e | e | e <;> subst e
 ·have hv : bD0 C [.sh (ag0 c), .sh (intT 0), .sh (intT far), .ow (.lst [.str c.name, .int c.change, .int c.harvest, .int c.gap, .lst (c.bars.map .str)])] = some (.nx [.sh (ag0 c), .sh (intT 0), .sh (intT far), .ow (.lst [.str "", .int c.change, .int c.harvest, .int c.gap, .lst (c.bars.map .str)])]) := (ci0 (w := 0) rfl).trans ((if_pos rfl).trans (bW0 (k := 0) (j := 0) (v := .str "") rfl rfl rfl rfl rfl))
  refine (ah0 hv).trans ?_
  refine (ah0 (k2 _ (by decide) (by decide))).trans ?_
  refine (ah0 (k3 _ (by decide) (by decide))).trans ?_
  refine (ah0 (k4 _ (by decide) (by decide))).trans ?_
  refine (ah0 (k5 _ (by decide))).trans ?_
  exact fin _
 ·have hv : bd0 C [.sh (ag0 c), .sh (intT 1), .sh (intT far), .ow (.lst [.str c.name, .int c.change, .int c.harvest, .int c.gap, .lst (c.bars.map .str)])] = some (.nx [.sh (ag0 c), .sh (intT 1), .sh (intT far), .ow (.lst [.str c.name, .int (-4 - (far : Int)), .int c.harvest, .int c.gap, .lst (c.bars.map .str)])]) := (dc0 (w := 1) rfl).trans ((if_pos (.inl rfl)).trans (bW0 (k := 1) (j := 1) (v := .int (-4 - (far : Int))) rfl rfl rfl rfl rfl))
  refine (ah0 (k1 _ (by decide))).trans ?_
  refine (ah0 hv).trans ?_
  refine (ah0 (k3 _ (by decide) (by decide))).trans ?_
  refine (ah0 (k4 _ (by decide) (by decide))).trans ?_
  refine (ah0 (k5 _ (by decide))).trans ?_
  exact fin _
 ·have hv : bd0 C [.sh (ag0 c), .sh (intT 2), .sh (intT far), .ow (.lst [.str c.name, .int c.change, .int c.harvest, .int c.gap, .lst (c.bars.map .str)])] = some (.nx [.sh (ag0 c), .sh (intT 2), .sh (intT far), .ow (.lst [.str c.name, .int (4 + (far : Int)), .int c.harvest, .int c.gap, .lst (c.bars.map .str)])]) := (dc0 (w := 2) rfl).trans ((if_pos (.inr rfl)).trans (bW0 (k := 1) (j := 1) (v := .int (4 + (far : Int))) rfl rfl rfl rfl rfl))
  refine (ah0 (k1 _ (by decide))).trans ?_
  refine (ah0 hv).trans ?_
  refine (ah0 (k3 _ (by decide) (by decide))).trans ?_
  refine (ah0 (k4 _ (by decide) (by decide))).trans ?_
  refine (ah0 (k5 _ (by decide))).trans ?_
  exact fin _
 ·have hv : bg0 C [.sh (ag0 c), .sh (intT 3), .sh (intT far), .ow (.lst [.str c.name, .int c.change, .int c.harvest, .int c.gap, .lst (c.bars.map .str)])] = some (.nx [.sh (ag0 c), .sh (intT 3), .sh (intT far), .ow (.lst [.str c.name, .int c.change, .int (-1 - (far : Int)), .int c.gap, .lst (c.bars.map .str)])]) := (dc0 (w := 3) rfl).trans ((if_pos (.inl rfl)).trans (bW0 (k := 2) (j := 2) (v := .int (-1 - (far : Int))) rfl rfl rfl rfl rfl))
  refine (ah0 (k1 _ (by decide))).trans ?_
  refine (ah0 (k2 _ (by decide) (by decide))).trans ?_
  refine (ah0 hv).trans ?_
  refine (ah0 (k4 _ (by decide) (by decide))).trans ?_
  refine (ah0 (k5 _ (by decide))).trans ?_
  exact fin _
 ·have hv : bg0 C [.sh (ag0 c), .sh (intT 4), .sh (intT far), .ow (.lst [.str c.name, .int c.change, .int c.harvest, .int c.gap, .lst (c.bars.map .str)])] = some (.nx [.sh (ag0 c), .sh (intT 4), .sh (intT far), .ow (.lst [.str c.name, .int c.change, .int (1001 + (far : Int)), .int c.gap, .lst (c.bars.map .str)])]) := (dc0 (w := 4) rfl).trans ((if_pos (.inr rfl)).trans (bW0 (k := 2) (j := 2) (v := .int (1001 + (far : Int))) rfl rfl rfl rfl rfl))
  refine (ah0 (k1 _ (by decide))).trans ?_
  refine (ah0 (k2 _ (by decide) (by decide))).trans ?_
  refine (ah0 hv).trans ?_
  refine (ah0 (k4 _ (by decide) (by decide))).trans ?_
  refine (ah0 (k5 _ (by decide))).trans ?_
  exact fin _
 ·have hv : bc0 C [.sh (ag0 c), .sh (intT 5), .sh (intT far), .ow (.lst [.str c.name, .int c.change, .int c.harvest, .int c.gap, .lst (c.bars.map .str)])] = some (.nx [.sh (ag0 c), .sh (intT 5), .sh (intT far), .ow (.lst [.str c.name, .int c.change, .int c.harvest, .int (-1 - (far : Int)), .lst (c.bars.map .str)])]) := (dc0 (w := 5) rfl).trans ((if_pos (.inl rfl)).trans (bW0 (k := 3) (j := 3) (v := .int (-1 - (far : Int))) rfl rfl rfl rfl rfl))
  refine (ah0 (k1 _ (by decide))).trans ?_
  refine (ah0 (k2 _ (by decide) (by decide))).trans ?_
  refine (ah0 (k3 _ (by decide) (by decide))).trans ?_
  refine (ah0 hv).trans ?_
  refine (ah0 (k5 _ (by decide))).trans ?_
  exact fin _
 ·have hv : bc0 C [.sh (ag0 c), .sh (intT 6), .sh (intT far), .ow (.lst [.str c.name, .int c.change, .int c.harvest, .int c.gap, .lst (c.bars.map .str)])] = some (.nx [.sh (ag0 c), .sh (intT 6), .sh (intT far), .ow (.lst [.str c.name, .int c.change, .int c.harvest, .int (4 + (far : Int)), .lst (c.bars.map .str)])]) := (dc0 (w := 6) rfl).trans ((if_pos (.inr rfl)).trans (bW0 (k := 3) (j := 3) (v := .int (4 + (far : Int))) rfl rfl rfl rfl rfl))
  refine (ah0 (k1 _ (by decide))).trans ?_
  refine (ah0 (k2 _ (by decide) (by decide))).trans ?_
  refine (ah0 (k3 _ (by decide) (by decide))).trans ?_
  refine (ah0 hv).trans ?_
  refine (ah0 (k5 _ (by decide))).trans ?_
  exact fin _
 ·have a4 : φIx (ag0 c) (.int 4) = some (.lst (c.bars.map .str)) := aY0 _ 4 _ rfl
  have hv : e2 cV0 (av0 cU0 (ab0 (e2 φIx (bVar 0) (eC (.int 4))) aNil)) (eLst (ab0 (eC (.str "weed")) aNil)) [.sh (ag0 c), .sh (intT 7), .sh (intT far), .ow (.lst [.str c.name, .int c.change, .int c.harvest, .int c.gap, .lst (c.bars.map .str)])] = some (.lst ((c.bars ++ (["weed"] : List Str)).map .str)) := by
   refine (am0 (s := .lst (c.bars.map .str)) (t := .lst [.str "weed"]) (aR0 ((am0 (s := ag0 c) (t := .int 4) rfl rfl).trans a4) rfl) rfl).trans ?_
   show (if (c.bars.map T.str).length + 1 <= big then _ else _) = _
   rw [if_pos (by rw [List.length_map]; unfold big; omega), List.map_append]
   rfl
  have hv : bF0 C [.sh (ag0 c), .sh (intT 7), .sh (intT far), .ow (.lst [.str c.name, .int c.change, .int c.harvest, .int c.gap, .lst (c.bars.map .str)])] = some (.nx [.sh (ag0 c), .sh (intT 7), .sh (intT far), .ow (.lst [.str c.name, .int c.change, .int c.harvest, .int c.gap, .lst ((c.bars ++ (["weed"] : List Str)).map .str)])]) := (ci0 (w := 7) rfl).trans ((if_pos rfl).trans (bW0 (k := 4) (j := 4) (v := .lst ((c.bars ++ (["weed"] : List Str)).map .str)) rfl hv rfl rfl rfl))
  refine (ah0 (k1 _ (by decide))).trans ?_
  refine (ah0 (k2 _ (by decide) (by decide))).trans ?_
  refine (ah0 (k3 _ (by decide) (by decide))).trans ?_
  refine (ah0 (k4 _ (by decide) (by decide))).trans ?_
  refine (ah0 hv).trans ?_
  exact fin _
def spE (p : Plot) (w cell at_ far : Nat) (cr : Crop) (s c d t : Sl) : En := [.sh (cf0 p), .sh (intT w), .sh (intT cell), s, c, d, t, .sh (intT at_), .sh (ag0 cr), .sh (intT far)]
section
variable (C : Addr) (p : Plot) (w cell at_ far : Nat) (cr : Crop) (s c d t : Sl)
theorem sk7 (h : ¬ w < 8) : bq0 C (spE p w cell at_ far cr s c d t) = some (.nx (spE p w cell at_ far cr s c d t)) := (if_lt (w := w) rfl).trans (if_neg (by omega))
theorem sk8 (h : w ≠ 8) : bp0 C (spE p w cell at_ far cr s c d t) = some (.nx (spE p w cell at_ far cr s c d t)) := (ci0 (w := w) rfl).trans (if_neg (by omega))
theorem sk9 (h : w ≠ 9) : br0 C (spE p w cell at_ far cr s c d t) = some (.nx (spE p w cell at_ far cr s c d t)) := (ci0 (w := w) rfl).trans (if_neg (by omega))
theorem sk10 (h : w ≠ 10) : be0 C (spE p w cell at_ far cr s c d t) = some (.nx (spE p w cell at_ far cr s c d t)) := (ci0 (w := w) rfl).trans (if_neg (by omega))
theorem sk11 (h : ¬ (11 <= w /\ w < 15)) : aD0 C (spE p w cell at_ far cr s c d t) = some (.nx (spE p w cell at_ far cr s c d t)) := by
 refine cW0 (by0 ((cF0 (s := .int 11) (t := intT w) (u := .int 15) (b := decide ((11 : Int) <= (w : Int))) rfl rfl rfl rfl).trans ?_))
 by_cases h1 : (11 : Int) <= (w : Int)
 ·have h2 : ¬ ((w : Int) < 15) := by omega
  rw [decide_eq_true h1, if_pos rfl]
  show some (T.bl (decide ((w : Int) < 15))) = _
  rw [decide_eq_false h2]
 ·rw [decide_eq_false h1, if_neg Bool.false_ne_true]
theorem sk12 (h : w ≠ 15) : bj0 C (spE p w cell at_ far cr s c d t) = some (.nx (spE p w cell at_ far cr s c d t)) := (ci0 (w := w) rfl).trans (if_neg (by omega))
theorem sk13 (h : w ≠ 16) : bf0 C (spE p w cell at_ far cr s c d t) = some (.nx (spE p w cell at_ far cr s c d t)) := (ci0 (w := w) rfl).trans (if_neg (by omega))
theorem sk14 (h : w ≠ 17) : bi0 C (spE p w cell at_ far cr s c d t) = some (.nx (spE p w cell at_ far cr s c d t)) := (ci0 (w := w) rfl).trans (if_neg (by omega))
theorem sk15 (h : w ≠ 18) : bb0 C (spE p w cell at_ far cr s c d t) = some (.nx (spE p w cell at_ far cr s c d t)) := (ci0 (w := w) rfl).trans (if_neg (by omega))
theorem sk16 (h : w ≠ 19) : bh0 C (spE p w cell at_ far cr s c d t) = some (.nx (spE p w cell at_ far cr s c d t)) := (ci0 (w := w) rfl).trans (if_neg (by omega))
theorem ce0 (S cs : List T) (ws : List (Str × T)) (top : T) (s : Sl) (hs : s = .ow (.lst S) \/ s = .sh (.lst S)) : (bC0 C (spE p w cell at_ far cr s (.ow (.lst cs)) (.ow (.dct ws)) (.sh top))).bind cL0 = some (true, .lst [.lst S, top, .lst cs, .dct ws]) := by
 rcases hs with e | e <;> subst e <;> rfl
theorem ca0 (hp : Bound p) (hr : p.crops[cell % p.crops.length]? = some cr) : y3 C [cf0 p, intT w, intT cell] = (sSeq (bq0 C) (sSeq (bp0 C) (sSeq (br0 C) (sSeq (be0 C) (sSeq (aD0 C) (sSeq (bj0 C) (sSeq (bf0 C) (sSeq (bi0 C) (sSeq (bb0 C) (sSeq (bh0 C) (bC0 C))))))))))
  (spE p w cell (cell % p.crops.length) (cell / 20 % 9) cr (.ow (.lst (p.soils.map .int))) (.ow (.lst (p.crops.map ag0))) (.ow (ai0 p.wants)) (.sh (.int p.top)))).bind cL0 := by
 have a0 : φIx (cf0 p) (.int 0) = some (.lst (p.soils.map .int)) := aY0 _ 0 _ rfl
 have a1 : φIx (cf0 p) (.int 1) = some (.int p.top) := aY0 _ 1 _ rfl
 have a2 : φIx (cf0 p) (.int 2) = some (.lst (p.crops.map ag0)) := aY0 _ 2 _ rfl
 have a3 : φIx (cf0 p) (.int 3) = some (ai0 p.wants) := aY0 _ 3 _ rfl
 have hs := hp.some
 unfold y3 z9
 refine (bo0 (ε := [.sh (cf0 p), .sh (intT w), .sh (intT cell), .un, .un, .un, .un, .un, .un, .un]) rfl rfl).trans ?_
 refine (ah0 (cJ0 (aR0 ((am0 (s := cf0 p) (t := .int 0) rfl rfl).trans a0) rfl) rfl)).trans ?_
 refine (ah0 (cJ0 (aR0 ((am0 (s := cf0 p) (t := .int 2) rfl rfl).trans a2) rfl) rfl)).trans ?_
 refine (ah0 (cJ0 (aR0 ((am0 (s := cf0 p) (t := .int 3) rfl rfl).trans a3) rfl) rfl)).trans ?_
 refine (ah0 (aF0 ((am0 (s := cf0 p) (t := .int 1) rfl rfl).trans a1))).trans ?_
 refine (ah0 (aF0 (t := intT (cell % p.crops.length)) ?_)).trans ?_
 ·refine (am0 (s := intT cell) (t := .int (p.crops.length : Int)) rfl (aR0 (t := .lst (p.crops.map ag0)) rfl ?_)).trans ?_
  ·show some (T.int (((p.crops.map ag0).length : Nat) : Int)) = _
   rw [List.length_map]
  ·refine (aK0 _ _ (by omega)).trans ?_
   refine congrArg (fun z => some (T.int z)) ?_
   exact (Int.natCast_emod cell p.crops.length).symm
 refine (ah0 (aF0 (t := ag0 cr) ?_)).trans ?_
 ·refine (am0 (s := .lst (p.crops.map ag0)) (t := intT (cell % p.crops.length)) rfl rfl).trans ?_
  exact nd0 ag0 _ _ _ hr
 refine (ah0 (aF0 (t := intT (cell / 20 % 9)) ?_)).trans ?_
 ·refine (am0 (s := intT (cell / 20)) (t := .int 9) ((am0 (s := intT cell) (t := .int 20) rfl rfl).trans ((fj0 _ _ (by decide) (by decide)).trans ?_)) rfl).trans ((aK0 _ _ (by decide)).trans ?_)
  ·refine congrArg (fun z => some (T.int z)) ?_
   exact (Int.natCast_ediv cell 20).symm
  ·refine congrArg (fun z => some (T.int z)) ?_
   exact (Int.natCast_emod (cell / 20) 9).symm
 rfl
end
theorem mx0 {gs : List T -> Option (Bool × T)} {E F G : En -> Option T} {ε : En} {s t v u : T} (hE : E ε = some s) (hF : F ε = some t) (hG : G ε = some v) (hp : gs [s, t, v] = some (false, u)) : eFn gs (ab0 E (ab0 F (ab0 G aNil))) ε = some u := by
 unfold eFn ab0 aNil
 simp only [hE, hF, hG, Option.bind_some, hp, noD, Bool.false_and, Bool.false_eq_true, if_false]
theorem nI0 {i : Nat} {fk fv : En -> Option T} {ε ε' : En} {ts : List T} {k : Nat} {v : T} (h0 : ε[i]? = some (.ow (.lst ts))) (hv : fv ε = some v) (hk : fk ε = some (intT k)) (hj : k <= ts.length /\ ts.length < big) (he : ε.set i (.ow (.lst (ts.take k ++ v :: ts.drop k))) = ε') : sIns i fk fv ε = some (.nx ε') := by
 subst he
 unfold sIns
 rw [h0]
 show (match fk ε with | some (.int (.ofNat k)) => _ | _ => _) = _
 rw [hk]
 show (fv ε).bind _ = _
 rw [hv, Option.bind_some]
 exact if_pos hj
theorem gj0 {i : Nat} {f : En -> Option T} {ε ε' : En} {kts : List (Str × T)} {k : Str} {v : T} (h0 : ε[i]? = some (.ow (.dct kts))) (hk : f ε = some (.str k)) (hl : kts.lookup k = some v) (he : ε.set i (.ow (.dct (et0 kts k))) = ε') : iK0 i f ε = some (.nx ε') := by
 subst he
 unfold iK0
 rw [h0]
 show (match f ε with | some (.str k) => _ | _ => _) = _
 rw [hk]
 show (match kts.lookup k with | some _ => _ | none => _) = _
 rw [hl]
theorem cO0 {i : Nat} {fk fv : En -> Option T} {ε ε' : En} {kts : List (Str × T)} {k : Str} {v : T} (h0 : ε[i]? = some (.ow (.dct kts))) (hl : kts.length < big) (hv : fv ε = some v) (hk : fk ε = some (.str k)) (he : ε.set i (.ow (.dct (putT kts k v))) = ε') : BD.sDPut i fk fv ε = some (.nx ε') := he ▸ gO0 h0 hl hv hk
theorem fi0 {i : Nat} {f : En -> Option T} {ε ε' : En} {t : T} (h : f ε = some t) (hi : isI t = false) (he : ε.set i (.ow t) = ε') : cw0 i f ε = some (.nx ε') := he ▸ cJ0 h hi
theorem de0 {i : Nat} {f : En -> Option T} {ε ε' : En} {t : T} (h : f ε = some t) (he : ε.set i (.sh t) = ε') : sSet i f ε = some (.nx ε') := he ▸ aF0 h
abbrev wd : Str × Int × Int := ("weed", 0, 1)
abbrev wf (x : Str × Int × Int) : Str × T := (x.1, T.tup [.int x.2.1, .int x.2.2])
def putW (ws : List (Str × Int × Int)) (k : Str) (v : Int × Int) : List (Str × Int × Int) := if ws.any (fun x => decide (x.1 = k)) then ws.map (fun x => if x.1 = k then (x.1, v) else x) else ws ++ [(k, v)]
theorem lY0 (ws : List (Str × Int × Int)) (k : Str) (v : Int × Int) : putT (ws.map wf) k (.tup [.int v.1, .int v.2]) = (putW ws k v).map wf := by
 unfold putT putW
 have e : (ws.map wf).any (fun kv => decide (kv.1 = k)) = ws.any (fun x => decide (x.1 = k)) := by rw [List.any_map]; rfl
 rw [e]
 split
 ·rw [List.map_map, List.map_map]
  apply List.map_congr_left
  intro x _
  show (if x.1 = k then _ else _) = wf (if x.1 = k then _ else _)
  split <;> rfl
 ·rw [List.map_append]
  rfl
theorem fb0 (ws : List (Str × Int × Int)) (k : Str) (v : Int × Int) : (k, v) ∈ putW ws k v := by
 unfold putW
 split
 ·rename_i h
  obtain ⟨x, hx, e⟩ := List.any_eq_true.mp h
  have e := of_decide_eq_true e
  refine List.mem_map.mpr ⟨x, hx, ?_⟩
  rw [if_pos e, e]
 ·simp
theorem em0 {ws : List (Str × Int × Int)} (k : Str) (v : Int × Int) (h : (ws.map (·.1)).Nodup) : ((putW ws k v).map (·.1)).Nodup := by
 unfold putW
 split
 ·rw [List.map_map]
  have : (ws.map ((·.1) ∘ fun x => if x.1 = k then (x.1, v) else x)) = ws.map (·.1) := by
   apply List.map_congr_left
   intro x _
   show (if x.1 = k then (x.1, v) else x).1 = x.1
   split <;> rfl
  rw [this]
  exact h
 ·rename_i hn
  rw [List.map_append, List.nodup_append]
  refine ⟨h, by simp, fun a ha b hb z => hn ?_⟩
  rw [List.map_singleton, List.mem_singleton] at hb
  have hb : b = k := hb
  obtain ⟨x, hx, e⟩ := List.mem_map.mp ha
  exact List.any_eq_true.mpr ⟨x, hx, decide_eq_true (by rw [<- hb, <- z]; exact e)⟩
theorem fn0 (ws : List (Str × Int × Int)) (k : Str) (v : Int × Int) : (putW ws k v).length <= ws.length + 1 := by
 unfold putW
 split
 ·rw [List.length_map]; exact Nat.le_succ _
 ·rw [List.length_append]; exact Nat.le_refl _
theorem fc0 {ws : List (Str × Int × Int)} {x : Str} (h : ∀ w ∈ ws, w.1 ≠ x) (v : T) : et0 (ws.map wf ++ [(x, v)]) x = ws.map wf := by
 unfold et0
 rw [List.filter_append, List.filter_cons_of_neg (by simp), List.filter_nil, List.append_nil]
 refine List.filter_eq_self.mpr fun kv hkv => ?_
 obtain ⟨w, hw, rfl⟩ := List.mem_map.mp hkv
 exact decide_eq_true (h w hw)
theorem eU0 {ws : List (Str × Int × Int)} {x : Str} (h : ∀ w ∈ ws, w.1 ≠ x) (v : T) : (ws.map wf ++ [(x, v)]).lookup x = some v := by
 induction ws with
 | nil =>
  rw [List.map_nil, List.nil_append, List.lookup_cons]
  simp
 | cons w ws ih =>
  rw [List.map_cons, List.cons_append, List.lookup_cons]
  have : (x == (wf w).1) = false := by
   rw [beq_eq_false_iff_ne]
   exact fun z => h w (List.mem_cons_self ..) z.symm
  rw [this]
  exact ih fun u hu => h u (List.mem_cons_of_mem _ hu)
theorem js0 (w far : Nat) (c : Crop) : (badC w far c).bars.length <= c.bars.length + 1 := by
 unfold badC
 split <;> simp
theorem iP0 {cs : List Crop} {i : Nat} {c d : Crop} (h : cs[i]? = some c) (e : d.name = c.name) : (cs.set i d).map (·.name) = cs.map (·.name) := by
 rw [List.map_set, e]
 apply List.ext_getElem?
 intro j
 rw [List.getElem?_set]
 by_cases hj : i = j
 ·subst hj
  rw [if_pos rfl, List.getElem?_map, h]
  obtain ⟨hl, _⟩ := List.getElem?_eq_some_iff.mp h
  rw [List.length_map, if_pos hl]
  rfl
 ·rw [if_neg hj]
def newC (k : Nat) : Crop := ⟨("new" : Str) ++ Str.ofString (toString (k : Int)), 0, 1, 0, []⟩
def mH0 : T -> T
 | .int k => ag0 ⟨("new" : Str) ++ Str.ofString (toString k), 0, 1, 0, []⟩
 | _ => .non
theorem lr0 {cs : List Crop} {m : Nat} (h1 : cs.length <= 5) (h2 : m <= 10) : cV0 (.lst (cs.map ag0)) (.lst ((aU0 0 m).map mH0)) = some (.lst ((cs ++ (List.range m).map newC).map ag0)) := by
 have e : (aU0 0 m).map mH0 = ((List.range m).map newC).map ag0 := by
  rw [cY0, List.map_map, List.map_map]
  rfl
 rw [e, List.map_append]
 refine if_pos ?_
 rw [List.length_map, List.length_map, List.length_map, List.length_range]
 unfold big
 omega
theorem kD0 {ss : List Int} {m : Nat} (h1 : ss.length <= 5) (h2 : m <= 10) : cV0 (.lst (ss.map .int)) (.lst ((aU0 0 m).map fun _ => .int 0)) = some (.lst ((ss ++ List.replicate m 0).map .int)) := by
 have e : ((aU0 0 m).map fun _ => T.int 0) = (List.replicate m (0 : Int)).map .int := by
  rw [cY0, List.map_map, List.map_replicate]
  apply List.ext_getElem
  ·simp
  ·intro i h1 h2
   simp
 rw [e, List.map_append]
 refine if_pos ?_
 rw [List.length_map, List.length_map, List.length_replicate]
 unfold big
 omega
structure Spoil (C : Addr) (p : Plot) (w cell : Nat) (q : Plot) : Prop where
 run : y3 C [cf0 p, intT w, intT cell] = some (true, aP0 q)
 small : Small q
 bad : w < 20 -> ¬ Valid q
 same : 20 <= w -> q = p
section
variable (C : Addr) (p : Plot) (hp : Bound p) (hb5 : ∀ c ∈ p.crops, c.bars.length <= 5) (hw5 : p.wants.length <= 5) (weed : ∀ x ∈ p.names, x ≠ "weed") (w cell : Nat)
include hp hb5 hw5 weed
theorem sp_a (hw : w < 8) : ∃ q, Spoil C p w cell q := by
 obtain ⟨cr, hr⟩ : ∃ cr, p.crops[cell % p.crops.length]? = some cr := ⟨_, List.getElem?_eq_getElem (Nat.mod_lt _ hp.some)⟩
 have hat : cell % p.crops.length < p.crops.length := Nat.mod_lt _ hp.some
 have hcm : cr ∈ p.crops := List.mem_of_getElem? hr
 have hcl := hp.few
 have hsl := hp.beds
 have hf9 : cell / 20 % 9 < 9 := Nat.mod_lt _ (by decide)
 refine ⟨{ p with crops := p.crops.set (cell % p.crops.length) (badC w (cell / 20 % 9) cr) }, ?_, ?_, fun hlt hv => ?_, fun h => ?_⟩
 ·rw [ca0 C p w cell cr hp hr]
  have hact : bq0 C (spE p w cell (cell % p.crops.length) (cell / 20 % 9) cr (.ow (.lst (p.soils.map .int))) (.ow (.lst (p.crops.map ag0))) (.ow (ai0 p.wants)) (.sh (.int p.top))) = some (.nx (spE p w cell (cell % p.crops.length) (cell / 20 % 9) cr (.ow (.lst (p.soils.map .int))) (.ow (.lst ((p.crops.set (cell % p.crops.length) (badC w (cell / 20 % 9) cr)).map ag0))) (.ow (ai0 p.wants)) (.sh (.int p.top)))) := (if_lt (w := w) rfl).trans ((if_pos (by omega)).trans (bW0 (k := ((cell % p.crops.length : Nat) : Int)) (j := cell % p.crops.length) (v := ag0 (badC w (cell / 20 % 9) cr)) rfl (mx0 rfl rfl rfl (mN0 C w _ hw cr (hb5 cr hcm))) rfl (gr0 (by rw [List.length_map]; exact hat)) (by rw [List.map_set]; rfl)))
  refine (ah0 hact).trans ?_
  refine (ah0 (sk8 C p w cell _ _ cr _ _ _ _ (by omega))).trans ?_
  refine (ah0 (sk9 C p w cell _ _ cr _ _ _ _ (by omega))).trans ?_
  refine (ah0 (sk10 C p w cell _ _ cr _ _ _ _ (by omega))).trans ?_
  refine (ah0 (sk11 C p w cell _ _ cr _ _ _ _ (by omega))).trans ?_
  refine (ah0 (sk12 C p w cell _ _ cr _ _ _ _ (by omega))).trans ?_
  refine (ah0 (sk13 C p w cell _ _ cr _ _ _ _ (by omega))).trans ?_
  refine (ah0 (sk14 C p w cell _ _ cr _ _ _ _ (by omega))).trans ?_
  refine (ah0 (sk15 C p w cell _ _ cr _ _ _ _ (by omega))).trans ?_
  refine (ah0 (sk16 C p w cell _ _ cr _ _ _ _ (by omega))).trans ?_
  exact ce0 C p w cell _ _ cr (p.soils.map .int) _ (p.wants.map wf) (.int p.top) _ (.inl rfl)
 ·refine ⟨?_, fun c hc => ?_, by show p.wants.length <= 1000; omega, hp.keys⟩
  ·show (p.crops.set _ _).length <= 10
   rw [List.length_set]
   omega
  ·rcases List.mem_or_eq_of_mem_set hc with h | h
   ·have := hb5 c h
    omega
   ·have h1 := js0 w (cell / 20 % 9) cr
    have h2 := hb5 cr hcm
    rw [h]
    omega
 ·have hm : badC w (cell / 20 % 9) cr ∈ p.crops.set (cell % p.crops.length) (badC w (cell / 20 % 9) cr) := List.mem_of_getElem? (List.getElem?_set_self hat)
  obtain ⟨h0, h1, h2, h3⟩ := hv.crops.2.1 _ hm
  have hc : w = 0 \/ w = 1 \/ w = 2 \/ w = 3 \/ w = 4 \/ w = 5 \/ w = 6 \/ w = 7 := by omega
  rcases hc with e | e | e | e | e | e | e | e <;> subst e
  ·exact h0 rfl
  ·have h : (-3 : Int) <= -4 - ((cell / 20 % 9 : Nat) : Int) := h1.1
   omega
  ·have h : (4 : Int) + ((cell / 20 % 9 : Nat) : Int) <= 3 := h1.2
   omega
  ·have h : (0 : Int) <= -1 - ((cell / 20 % 9 : Nat) : Int) := h2.1
   omega
  ·have h : (1001 : Int) + ((cell / 20 % 9 : Nat) : Int) <= 1000 := h2.2
   omega
  ·have h : (0 : Int) <= -1 - ((cell / 20 % 9 : Nat) : Int) := h3.1
   omega
  ·have h : (4 : Int) + ((cell / 20 % 9 : Nat) : Int) <= 3 := h3.2
   omega
  ·have hbw : ("weed" : Str) ∈ (badC 7 (cell / 20 % 9) cr).bars := List.mem_append.mpr (.inr (List.mem_singleton.mpr rfl))
   have h := hv.crops.2.2.2 _ hm _ hbw
   have e : (p.crops.set (cell % p.crops.length) (badC 7 (cell / 20 % 9) cr)).map (·.name) = p.names := iP0 hr rfl
   rw [e] at h
   exact weed _ h rfl
 ·omega
theorem sp_b (hw : w = 8) : ∃ q, Spoil C p w cell q := by
 obtain ⟨cr, hr⟩ : ∃ cr, p.crops[cell % p.crops.length]? = some cr := ⟨_, List.getElem?_eq_getElem (Nat.mod_lt _ hp.some)⟩
 have hat : cell % p.crops.length < p.crops.length := Nat.mod_lt _ hp.some
 have hcm : cr ∈ p.crops := List.mem_of_getElem? hr
 have hcl := hp.few
 have hsl := hp.beds
 have hf9 : cell / 20 % 9 < 9 := Nat.mod_lt _ (by decide)
 refine ⟨{ p with crops := p.crops.take (cell % p.crops.length) ++ cr :: p.crops.drop (cell % p.crops.length) }, ?_, ?_, fun hlt hv => ?_, fun h => ?_⟩
 ·rw [ca0 C p w cell cr hp hr]
  have hact : bp0 C (spE p w cell (cell % p.crops.length) (cell / 20 % 9) cr (.ow (.lst (p.soils.map .int))) (.ow (.lst (p.crops.map ag0))) (.ow (ai0 p.wants)) (.sh (.int p.top))) = some (.nx (spE p w cell (cell % p.crops.length) (cell / 20 % 9) cr (.ow (.lst (p.soils.map .int))) (.ow (.lst ((p.crops.take (cell % p.crops.length) ++ cr :: p.crops.drop (cell % p.crops.length)).map ag0))) (.ow (ai0 p.wants)) (.sh (.int p.top)))) := (ci0 (w := w) rfl).trans ((if_pos (by omega)).trans (nI0 (k := cell % p.crops.length) (v := ag0 cr) rfl rfl rfl (by rw [List.length_map]; unfold big; omega) (by rw [List.map_append, List.map_cons, List.map_take, List.map_drop]; rfl)))
  refine (ah0 (sk7 C p w cell _ _ cr _ _ _ _ (by omega))).trans ?_
  refine (ah0 hact).trans ?_
  refine (ah0 (sk9 C p w cell _ _ cr _ _ _ _ (by omega))).trans ?_
  refine (ah0 (sk10 C p w cell _ _ cr _ _ _ _ (by omega))).trans ?_
  refine (ah0 (sk11 C p w cell _ _ cr _ _ _ _ (by omega))).trans ?_
  refine (ah0 (sk12 C p w cell _ _ cr _ _ _ _ (by omega))).trans ?_
  refine (ah0 (sk13 C p w cell _ _ cr _ _ _ _ (by omega))).trans ?_
  refine (ah0 (sk14 C p w cell _ _ cr _ _ _ _ (by omega))).trans ?_
  refine (ah0 (sk15 C p w cell _ _ cr _ _ _ _ (by omega))).trans ?_
  refine (ah0 (sk16 C p w cell _ _ cr _ _ _ _ (by omega))).trans ?_
  exact ce0 C p w cell _ _ cr (p.soils.map .int) _ (p.wants.map wf) (.int p.top) _ (.inl rfl)
 ·refine ⟨?_, fun c hc => ?_, by show p.wants.length <= 1000; omega, hp.keys⟩
  ·show (p.crops.take (cell % p.crops.length) ++ cr :: p.crops.drop (cell % p.crops.length)).length <= 10
   rw [List.length_append, List.length_cons, List.length_take, List.length_drop]
   omega
  ·have : c ∈ p.crops := by
    rcases List.mem_append.mp hc with h | h
    ·exact List.mem_of_mem_take h
    ·rcases List.mem_cons.mp h with h | h
     ·rw [h]; exact hcm
     ·exact List.mem_of_mem_drop h
   have := hb5 c this
   omega
 ·have nd := hv.crops.2.2.1
  have nd : ((p.crops.take (cell % p.crops.length) ++ cr :: p.crops.drop (cell % p.crops.length)).map (·.name)).Nodup := nd
  rw [List.map_append, List.map_cons, List.nodup_append] at nd
  have nd := (List.nodup_cons.mp nd.2.1).1
  refine nd (List.mem_map.mpr ⟨cr, ?_, rfl⟩)
  have hd := List.drop_eq_getElem_cons hat
  rw [hd]
  obtain ⟨_, e⟩ := List.getElem?_eq_some_iff.mp hr
  rw [e]
  exact List.mem_cons_self ..
 ·omega
theorem sp_c (hw : w = 9) : ∃ q, Spoil C p w cell q := by
 obtain ⟨cr, hr⟩ : ∃ cr, p.crops[cell % p.crops.length]? = some cr := ⟨_, List.getElem?_eq_getElem (Nat.mod_lt _ hp.some)⟩
 have hat : cell % p.crops.length < p.crops.length := Nat.mod_lt _ hp.some
 have hcm : cr ∈ p.crops := List.mem_of_getElem? hr
 have hcl := hp.few
 have hsl := hp.beds
 have hf9 : cell / 20 % 9 < 9 := Nat.mod_lt _ (by decide)
 refine ⟨{ p with crops := [] }, ?_, ?_, fun hlt hv => ?_, fun h => ?_⟩
 ·rw [ca0 C p w cell cr hp hr]
  have hact : br0 C (spE p w cell (cell % p.crops.length) (cell / 20 % 9) cr (.ow (.lst (p.soils.map .int))) (.ow (.lst (p.crops.map ag0))) (.ow (ai0 p.wants)) (.sh (.int p.top))) = some (.nx (spE p w cell (cell % p.crops.length) (cell / 20 % 9) cr (.ow (.lst (p.soils.map .int))) (.ow (.lst (([] : List Crop).map ag0))) (.ow (ai0 p.wants)) (.sh (.int p.top)))) := (ci0 (w := w) rfl).trans ((if_pos (by omega)).trans (fi0 (t := .lst []) rfl rfl rfl))
  refine (ah0 (sk7 C p w cell _ _ cr _ _ _ _ (by omega))).trans ?_
  refine (ah0 (sk8 C p w cell _ _ cr _ _ _ _ (by omega))).trans ?_
  refine (ah0 hact).trans ?_
  refine (ah0 (sk10 C p w cell _ _ cr _ _ _ _ (by omega))).trans ?_
  refine (ah0 (sk11 C p w cell _ _ cr _ _ _ _ (by omega))).trans ?_
  refine (ah0 (sk12 C p w cell _ _ cr _ _ _ _ (by omega))).trans ?_
  refine (ah0 (sk13 C p w cell _ _ cr _ _ _ _ (by omega))).trans ?_
  refine (ah0 (sk14 C p w cell _ _ cr _ _ _ _ (by omega))).trans ?_
  refine (ah0 (sk15 C p w cell _ _ cr _ _ _ _ (by omega))).trans ?_
  refine (ah0 (sk16 C p w cell _ _ cr _ _ _ _ (by omega))).trans ?_
  exact ce0 C p w cell _ _ cr (p.soils.map .int) _ (p.wants.map wf) (.int p.top) _ (.inl rfl)
 ·exact ⟨Nat.zero_le _, (fun c hc => nomatch hc), by show p.wants.length <= 1000; omega, hp.keys⟩
 ·exact absurd (show 1 <= 0 from hv.crops.1.1) (by decide)
 ·omega
theorem sp_d (hw : w = 10) : ∃ q, Spoil C p w cell q := by
 obtain ⟨cr, hr⟩ : ∃ cr, p.crops[cell % p.crops.length]? = some cr := ⟨_, List.getElem?_eq_getElem (Nat.mod_lt _ hp.some)⟩
 have hat : cell % p.crops.length < p.crops.length := Nat.mod_lt _ hp.some
 have hcm : cr ∈ p.crops := List.mem_of_getElem? hr
 have hcl := hp.few
 have hsl := hp.beds
 have hf9 : cell / 20 % 9 < 9 := Nat.mod_lt _ (by decide)
 have hcomp : aZ0 1 (bt0 (ab0 (e2 φAdd (e2 φSub (eC (.int 6)) (av0 φLen (ab0 (bVar 4) aNil))) (e2 φMod (bVar 9) (eC (.int 2)))) aNil)) (aA0 0) bv0 (eTup (ab0 (e2 ia0 (eC (.str "new")) (av0 hZ0 (ab0 (bVar 0) aNil))) (ab0 (eC (.int 0)) (ab0 (eC (.int 1)) (ab0 (eC (.int 0)) (ab0 (eLst aNil) aNil)))))) (spE p w cell (cell % p.crops.length) (cell / 20 % 9) cr (.ow (.lst (p.soils.map .int))) (.ow (.lst (p.crops.map ag0))) (.ow (ai0 p.wants)) (.sh (.int p.top))) = some (.lst ((aU0 0 (6 - p.crops.length + cell / 20 % 9 % 2)).map mH0)) := by
  refine bB0 (n := 1) (bT0 (n := 6 - p.crops.length + cell / 20 % 9 % 2) (ap0 ?_ rfl) (by omega)) (by rw [aV0]; unfold big; omega) fun t ht => ?_
  ·refine (am0 (s := .int (6 - (p.crops.length : Int))) (t := .int (((cell / 20 % 9 : Nat) : Int) % 2)) ((am0 (s := .int 6) (t := .int (p.crops.length : Int)) rfl (aR0 (t := .lst (p.crops.map ag0)) rfl (by show some (T.int (((p.crops.map ag0).length : Nat) : Int)) = _; rw [List.length_map]))).trans rfl) ((am0 (s := intT (cell / 20 % 9)) (t := .int 2) rfl rfl).trans (aK0 _ _ (by decide)))).trans ?_
   refine congrArg (fun z => some (T.int z)) ?_
   omega
  ·obtain ⟨k, hk, rfl⟩ := dq0 ht
   refine ⟨[.sh (intT k)] ++ (spE p w cell (cell % p.crops.length) (cell / 20 % 9) cr (.ow (.lst (p.soils.map .int))) (.ow (.lst (p.crops.map ag0))) (.ow (ai0 p.wants)) (.sh (.int p.top))), rfl, ?_⟩
   have hk7 : k < 7 := by omega
   have h1 : hZ0 [intT k] = some (.str (Str.ofString (toString (k : Int)))) := if_pos (by omega)
   have h2 : ia0 (.str "new") (.str (Str.ofString (toString (k : Int)))) = some (.str ("new" ++ Str.ofString (toString (k : Int)))) := if_pos (by
    have := ew0 (m := (k : Int)) (by omega)
    have e3 : ("new" : Str).length = 3 := by decide +kernel
    rw [e3]
    unfold big
    omega)
   refine (dO0 (ap0 ((am0 (s := .str "new") (t := .str (Str.ofString (toString (k : Int)))) rfl (aR0 (t := intT k) rfl h1)).trans h2) (ap0 (t := .int 0) rfl (ap0 (t := .int 1) rfl (ap0 (t := .int 0) rfl (ap0 (t := .lst []) rfl (show aNil _ = some [] from rfl)))))) (show (5 : Nat) <= 1000000 by decide)).trans ?_
   rfl
 refine ⟨{ p with crops := p.crops ++ (List.range (6 - p.crops.length + cell / 20 % 9 % 2)).map newC }, ?_, ?_, fun hlt hv => ?_, fun h => ?_⟩
 ·rw [ca0 C p w cell cr hp hr]
  have hact : be0 C (spE p w cell (cell % p.crops.length) (cell / 20 % 9) cr (.ow (.lst (p.soils.map .int))) (.ow (.lst (p.crops.map ag0))) (.ow (ai0 p.wants)) (.sh (.int p.top))) = some (.nx (spE p w cell (cell % p.crops.length) (cell / 20 % 9) cr (.ow (.lst (p.soils.map .int))) (.ow (.lst ((p.crops ++ (List.range (6 - p.crops.length + cell / 20 % 9 % 2)).map newC).map ag0))) (.ow (ai0 p.wants)) (.sh (.int p.top)))) := (ci0 (w := w) rfl).trans ((if_pos (by omega)).trans (fi0 (t := .lst ((p.crops ++ (List.range (6 - p.crops.length + cell / 20 % 9 % 2)).map newC).map ag0)) ((am0 (s := .lst (p.crops.map ag0)) rfl hcomp).trans (lr0 (by omega) (by omega))) rfl rfl))
  refine (ah0 (sk7 C p w cell _ _ cr _ _ _ _ (by omega))).trans ?_
  refine (ah0 (sk8 C p w cell _ _ cr _ _ _ _ (by omega))).trans ?_
  refine (ah0 (sk9 C p w cell _ _ cr _ _ _ _ (by omega))).trans ?_
  refine (ah0 hact).trans ?_
  refine (ah0 (sk11 C p w cell _ _ cr _ _ _ _ (by omega))).trans ?_
  refine (ah0 (sk12 C p w cell _ _ cr _ _ _ _ (by omega))).trans ?_
  refine (ah0 (sk13 C p w cell _ _ cr _ _ _ _ (by omega))).trans ?_
  refine (ah0 (sk14 C p w cell _ _ cr _ _ _ _ (by omega))).trans ?_
  refine (ah0 (sk15 C p w cell _ _ cr _ _ _ _ (by omega))).trans ?_
  refine (ah0 (sk16 C p w cell _ _ cr _ _ _ _ (by omega))).trans ?_
  exact ce0 C p w cell _ _ cr (p.soils.map .int) _ (p.wants.map wf) (.int p.top) _ (.inl rfl)
 ·refine ⟨?_, fun c hc => ?_, by show p.wants.length <= 1000; omega, hp.keys⟩
  ·show (p.crops ++ (List.range (6 - p.crops.length + cell / 20 % 9 % 2)).map newC).length <= 10
   rw [List.length_append, List.length_map, List.length_range]
   omega
  ·rcases List.mem_append.mp hc with h | h
   ·have := hb5 c h
    omega
   ·obtain ⟨k, _, rfl⟩ := List.mem_map.mp h
    exact Nat.zero_le _
 ·have h := hv.crops.1.2
  have h : (p.crops ++ (List.range (6 - p.crops.length + cell / 20 % 9 % 2)).map newC).length <= 5 := h
  rw [List.length_append, List.length_map, List.length_range] at h
  omega
 ·omega
theorem sp_e (hw : w = 11) : ∃ q, Spoil C p w cell q := by
 obtain ⟨cr, hr⟩ : ∃ cr, p.crops[cell % p.crops.length]? = some cr := ⟨_, List.getElem?_eq_getElem (Nat.mod_lt _ hp.some)⟩
 have hat : cell % p.crops.length < p.crops.length := Nat.mod_lt _ hp.some
 have hcm : cr ∈ p.crops := List.mem_of_getElem? hr
 have hcl := hp.few
 have hsl := hp.beds
 have hf9 : cell / 20 % 9 < 9 := Nat.mod_lt _ (by decide)
 have hnew : ∀ x ∈ p.wants, x.1 ≠ "weed" := fun x hx => weed _ (hp.wants x hx)
 have hch : ∀ ε : En, bVar 1 ε = some (intT w) -> qB (bR0 φLe φLt (eC (.int 11)) (bVar 1) (eC (.int 15))) ε = some true := fun ε h => by0 ((cF0 (s := .int 11) (t := intT w) (u := .int 15) (b := decide ((11 : Int) <= (w : Int))) rfl h rfl rfl).trans (by
  rw [decide_eq_true (by omega), if_pos rfl]
  show some (T.bl (decide ((w : Int) < 15))) = _
  rw [decide_eq_true (by omega)]))
 have hput : BD.sDPut 5 (eC (.str "weed")) (eTup (ab0 (eC (.int 0)) (ab0 (eC (.int 1)) aNil))) (spE p w cell (cell % p.crops.length) (cell / 20 % 9) cr (.ow (.lst (p.soils.map .int))) (.ow (.lst (p.crops.map ag0))) (.ow (ai0 p.wants)) (.sh (.int p.top))) = some (.nx (spE p w cell (cell % p.crops.length) (cell / 20 % 9) cr (.ow (.lst (p.soils.map .int))) (.ow (.lst (p.crops.map ag0))) (.ow (ai0 (p.wants ++ [wd]))) (.sh (.int p.top)))) := cO0 (kts := p.wants.map wf) (k := "weed") (v := .tup [.int 0, .int 1]) rfl (by rw [List.length_map]; unfold big; omega) rfl rfl (by rw [en0 hnew 0 1]; rfl)
 have hgt : ∀ ε : En, bVar 1 ε = some (intT w) -> qB (e2 φGt (bVar 1) (eC (.int 11))) ε = some (decide ((11 : Int) < (w : Int))) := fun ε h => by0 ((am0 h rfl).trans rfl)
 refine ⟨{ p with wants := p.wants ++ [wd] }, ?_, ?_, fun hlt hv => ?_, fun h => ?_⟩
 ·rw [ca0 C p w cell cr hp hr]
  have hact : aD0 C (spE p w cell (cell % p.crops.length) (cell / 20 % 9) cr (.ow (.lst (p.soils.map .int))) (.ow (.lst (p.crops.map ag0))) (.ow (ai0 p.wants)) (.sh (.int p.top))) = some (.nx (spE p w cell (cell % p.crops.length) (cell / 20 % 9) cr (.ow (.lst (p.soils.map .int))) (.ow (.lst (p.crops.map ag0))) (.ow (ai0 (p.wants ++ [wd]))) (.sh (.int p.top)))) := by
   refine (bH0 (hch _ rfl)).trans ((if_pos rfl).trans ?_)
   refine (at0 hput).trans ?_
   refine cW0 ((hgt _ rfl).trans ?_)
   rw [decide_eq_false (by omega)]
  refine (ah0 (sk7 C p w cell _ _ cr _ _ _ _ (by omega))).trans ?_
  refine (ah0 (sk8 C p w cell _ _ cr _ _ _ _ (by omega))).trans ?_
  refine (ah0 (sk9 C p w cell _ _ cr _ _ _ _ (by omega))).trans ?_
  refine (ah0 (sk10 C p w cell _ _ cr _ _ _ _ (by omega))).trans ?_
  refine (ah0 hact).trans ?_
  refine (ah0 (sk12 C p w cell _ _ cr _ _ _ _ (by omega))).trans ?_
  refine (ah0 (sk13 C p w cell _ _ cr _ _ _ _ (by omega))).trans ?_
  refine (ah0 (sk14 C p w cell _ _ cr _ _ _ _ (by omega))).trans ?_
  refine (ah0 (sk15 C p w cell _ _ cr _ _ _ _ (by omega))).trans ?_
  refine (ah0 (sk16 C p w cell _ _ cr _ _ _ _ (by omega))).trans ?_
  exact ce0 C p w cell _ _ cr (p.soils.map .int) _ ((p.wants ++ [wd]).map wf) (.int p.top) _ (.inl rfl)
 ·refine ⟨by show p.crops.length <= 10; omega, fun c hc => by have := hb5 c hc; omega, ?_, ?_⟩
  ·show (p.wants ++ [wd]).length <= 1000
   rw [List.length_append]
   show p.wants.length + 1 <= 1000
   omega
  ·show ((p.wants ++ [wd]).map (·.1)).Nodup
   rw [List.map_append, List.nodup_append]
   refine ⟨hp.keys, by simp, fun a ha b hb z => ?_⟩
   rw [List.map_singleton, List.mem_singleton] at hb
   obtain ⟨x, hx, e⟩ := List.mem_map.mp ha
   exact hnew x hx (by rw [e, z, hb])
 ·have h := (hv.wants wd (List.mem_append.mpr (.inr (List.mem_singleton.mpr rfl)))).1
  exact weed _ h rfl
 ·omega
theorem nB0 (hw : w = 12) : ∃ q, Spoil C p w cell q := by
 obtain ⟨cr, hr⟩ : ∃ cr, p.crops[cell % p.crops.length]? = some cr := ⟨_, List.getElem?_eq_getElem (Nat.mod_lt _ hp.some)⟩
 have hat : cell % p.crops.length < p.crops.length := Nat.mod_lt _ hp.some
 have hcm : cr ∈ p.crops := List.mem_of_getElem? hr
 have hcl := hp.few
 have hsl := hp.beds
 have hf9 : cell / 20 % 9 < 9 := Nat.mod_lt _ (by decide)
 have hnew : ∀ x ∈ p.wants, x.1 ≠ "weed" := fun x hx => weed _ (hp.wants x hx)
 have hch : ∀ ε : En, bVar 1 ε = some (intT w) -> qB (bR0 φLe φLt (eC (.int 11)) (bVar 1) (eC (.int 15))) ε = some true := fun ε h => by0 ((cF0 (s := .int 11) (t := intT w) (u := .int 15) (b := decide ((11 : Int) <= (w : Int))) rfl h rfl rfl).trans (by
  rw [decide_eq_true (by omega), if_pos rfl]
  show some (T.bl (decide ((w : Int) < 15))) = _
  rw [decide_eq_true (by omega)]))
 have hput : BD.sDPut 5 (eC (.str "weed")) (eTup (ab0 (eC (.int 0)) (ab0 (eC (.int 1)) aNil))) (spE p w cell (cell % p.crops.length) (cell / 20 % 9) cr (.ow (.lst (p.soils.map .int))) (.ow (.lst (p.crops.map ag0))) (.ow (ai0 p.wants)) (.sh (.int p.top))) = some (.nx (spE p w cell (cell % p.crops.length) (cell / 20 % 9) cr (.ow (.lst (p.soils.map .int))) (.ow (.lst (p.crops.map ag0))) (.ow (ai0 (p.wants ++ [wd]))) (.sh (.int p.top)))) := cO0 (kts := p.wants.map wf) (k := "weed") (v := .tup [.int 0, .int 1]) rfl (by rw [List.length_map]; unfold big; omega) rfl rfl (by rw [en0 hnew 0 1]; rfl)
 have hgt : ∀ ε : En, bVar 1 ε = some (intT w) -> qB (e2 φGt (bVar 1) (eC (.int 11))) ε = some (decide ((11 : Int) < (w : Int))) := fun ε h => by0 ((am0 h rfl).trans rfl)
 refine ⟨{ p with wants := putW p.wants cr.name ((-1 - ((cell / 20 % 9 : Nat) : Int)), 1) }, ?_, ?_, fun hlt hv => ?_, fun h => ?_⟩
 ·rw [ca0 C p w cell cr hp hr]
  have hact : aD0 C (spE p w cell (cell % p.crops.length) (cell / 20 % 9) cr (.ow (.lst (p.soils.map .int))) (.ow (.lst (p.crops.map ag0))) (.ow (ai0 p.wants)) (.sh (.int p.top))) = some (.nx (spE p w cell (cell % p.crops.length) (cell / 20 % 9) cr (.ow (.lst (p.soils.map .int))) (.ow (.lst (p.crops.map ag0))) (.ow (ai0 (putW p.wants cr.name ((-1 - ((cell / 20 % 9 : Nat) : Int)), 1)))) (.sh (.int p.top)))) := by
   refine (bH0 (hch _ rfl)).trans ((if_pos rfl).trans ?_)
   refine (at0 hput).trans ?_
   refine (bH0 (hgt _ rfl)).trans ((if_pos (decide_eq_true (by omega))).trans ?_)
   refine (at0 (gj0 (ε' := spE p w cell (cell % p.crops.length) (cell / 20 % 9) cr (.ow (.lst (p.soils.map .int))) (.ow (.lst (p.crops.map ag0))) (.ow (ai0 p.wants)) (.sh (.int p.top))) (k := "weed") (v := .tup [.int 0, .int 1]) rfl rfl ?_ ?_)).trans ?_
   ·rw [List.map_append]
    exact eU0 hnew _
   ·rw [List.map_append]
    show spE _ _ _ _ _ _ _ _ (.ow (.dct (et0 (p.wants.map wf ++ [(("weed" : Str), T.tup [.int 0, .int 1])]) "weed"))) _ = _
    rw [fc0 hnew]
    rfl
   ·subst hw
    refine cO0 (kts := p.wants.map wf) (k := cr.name) (v := .tup [.int (-1 - ((cell / 20 % 9 : Nat) : Int)), .int 1]) rfl (by rw [List.length_map]; unfold big; omega) ?_ ?_ ?_
    ·exact rfl
    ·exact (am0 (s := ag0 cr) (t := .int 0) rfl rfl).trans (aY0 _ 0 _ rfl)
    ·rw [lY0 p.wants cr.name ((-1 - ((cell / 20 % 9 : Nat) : Int)), 1)]
     rfl
  refine (ah0 (sk7 C p w cell _ _ cr _ _ _ _ (by omega))).trans ?_
  refine (ah0 (sk8 C p w cell _ _ cr _ _ _ _ (by omega))).trans ?_
  refine (ah0 (sk9 C p w cell _ _ cr _ _ _ _ (by omega))).trans ?_
  refine (ah0 (sk10 C p w cell _ _ cr _ _ _ _ (by omega))).trans ?_
  refine (ah0 hact).trans ?_
  refine (ah0 (sk12 C p w cell _ _ cr _ _ _ _ (by omega))).trans ?_
  refine (ah0 (sk13 C p w cell _ _ cr _ _ _ _ (by omega))).trans ?_
  refine (ah0 (sk14 C p w cell _ _ cr _ _ _ _ (by omega))).trans ?_
  refine (ah0 (sk15 C p w cell _ _ cr _ _ _ _ (by omega))).trans ?_
  refine (ah0 (sk16 C p w cell _ _ cr _ _ _ _ (by omega))).trans ?_
  exact ce0 C p w cell _ _ cr (p.soils.map .int) _ ((putW p.wants cr.name ((-1 - ((cell / 20 % 9 : Nat) : Int)), 1)).map wf) (.int p.top) _ (.inl rfl)
 ·refine ⟨by show p.crops.length <= 10; omega, fun c hc => by have := hb5 c hc; omega, ?_, em0 _ _ hp.keys⟩
  have := fn0 p.wants cr.name ((-1 - ((cell / 20 % 9 : Nat) : Int)), 1)
  show (putW p.wants cr.name ((-1 - ((cell / 20 % 9 : Nat) : Int)), 1)).length <= 1000
  omega
 ·have h := hv.wants _ (fb0 p.wants cr.name ((-1 - ((cell / 20 % 9 : Nat) : Int)), 1))
  have h : (0 : Int) <= -1 - ((cell / 20 % 9 : Nat) : Int) := h.2.2.1
  omega
 ·omega
theorem nf0 (hw : w = 13) : ∃ q, Spoil C p w cell q := by
 obtain ⟨cr, hr⟩ : ∃ cr, p.crops[cell % p.crops.length]? = some cr := ⟨_, List.getElem?_eq_getElem (Nat.mod_lt _ hp.some)⟩
 have hat : cell % p.crops.length < p.crops.length := Nat.mod_lt _ hp.some
 have hcm : cr ∈ p.crops := List.mem_of_getElem? hr
 have hcl := hp.few
 have hsl := hp.beds
 have hf9 : cell / 20 % 9 < 9 := Nat.mod_lt _ (by decide)
 have hnew : ∀ x ∈ p.wants, x.1 ≠ "weed" := fun x hx => weed _ (hp.wants x hx)
 have hch : ∀ ε : En, bVar 1 ε = some (intT w) -> qB (bR0 φLe φLt (eC (.int 11)) (bVar 1) (eC (.int 15))) ε = some true := fun ε h => by0 ((cF0 (s := .int 11) (t := intT w) (u := .int 15) (b := decide ((11 : Int) <= (w : Int))) rfl h rfl rfl).trans (by
  rw [decide_eq_true (by omega), if_pos rfl]
  show some (T.bl (decide ((w : Int) < 15))) = _
  rw [decide_eq_true (by omega)]))
 have hput : BD.sDPut 5 (eC (.str "weed")) (eTup (ab0 (eC (.int 0)) (ab0 (eC (.int 1)) aNil))) (spE p w cell (cell % p.crops.length) (cell / 20 % 9) cr (.ow (.lst (p.soils.map .int))) (.ow (.lst (p.crops.map ag0))) (.ow (ai0 p.wants)) (.sh (.int p.top))) = some (.nx (spE p w cell (cell % p.crops.length) (cell / 20 % 9) cr (.ow (.lst (p.soils.map .int))) (.ow (.lst (p.crops.map ag0))) (.ow (ai0 (p.wants ++ [wd]))) (.sh (.int p.top)))) := cO0 (kts := p.wants.map wf) (k := "weed") (v := .tup [.int 0, .int 1]) rfl (by rw [List.length_map]; unfold big; omega) rfl rfl (by rw [en0 hnew 0 1]; rfl)
 have hgt : ∀ ε : En, bVar 1 ε = some (intT w) -> qB (e2 φGt (bVar 1) (eC (.int 11))) ε = some (decide ((11 : Int) < (w : Int))) := fun ε h => by0 ((am0 h rfl).trans rfl)
 refine ⟨{ p with wants := putW p.wants cr.name (2, 1) }, ?_, ?_, fun hlt hv => ?_, fun h => ?_⟩
 ·rw [ca0 C p w cell cr hp hr]
  have hact : aD0 C (spE p w cell (cell % p.crops.length) (cell / 20 % 9) cr (.ow (.lst (p.soils.map .int))) (.ow (.lst (p.crops.map ag0))) (.ow (ai0 p.wants)) (.sh (.int p.top))) = some (.nx (spE p w cell (cell % p.crops.length) (cell / 20 % 9) cr (.ow (.lst (p.soils.map .int))) (.ow (.lst (p.crops.map ag0))) (.ow (ai0 (putW p.wants cr.name (2, 1)))) (.sh (.int p.top)))) := by
   refine (bH0 (hch _ rfl)).trans ((if_pos rfl).trans ?_)
   refine (at0 hput).trans ?_
   refine (bH0 (hgt _ rfl)).trans ((if_pos (decide_eq_true (by omega))).trans ?_)
   refine (at0 (gj0 (ε' := spE p w cell (cell % p.crops.length) (cell / 20 % 9) cr (.ow (.lst (p.soils.map .int))) (.ow (.lst (p.crops.map ag0))) (.ow (ai0 p.wants)) (.sh (.int p.top))) (k := "weed") (v := .tup [.int 0, .int 1]) rfl rfl ?_ ?_)).trans ?_
   ·rw [List.map_append]
    exact eU0 hnew _
   ·rw [List.map_append]
    show spE _ _ _ _ _ _ _ _ (.ow (.dct (et0 (p.wants.map wf ++ [(("weed" : Str), T.tup [.int 0, .int 1])]) "weed"))) _ = _
    rw [fc0 hnew]
    rfl
   ·subst hw
    refine cO0 (kts := p.wants.map wf) (k := cr.name) (v := .tup [.int 2, .int 1]) rfl (by rw [List.length_map]; unfold big; omega) ?_ ?_ ?_
    ·exact rfl
    ·exact (am0 (s := ag0 cr) (t := .int 0) rfl rfl).trans (aY0 _ 0 _ rfl)
    ·rw [lY0 p.wants cr.name (2, 1)]
     rfl
  refine (ah0 (sk7 C p w cell _ _ cr _ _ _ _ (by omega))).trans ?_
  refine (ah0 (sk8 C p w cell _ _ cr _ _ _ _ (by omega))).trans ?_
  refine (ah0 (sk9 C p w cell _ _ cr _ _ _ _ (by omega))).trans ?_
  refine (ah0 (sk10 C p w cell _ _ cr _ _ _ _ (by omega))).trans ?_
  refine (ah0 hact).trans ?_
  refine (ah0 (sk12 C p w cell _ _ cr _ _ _ _ (by omega))).trans ?_
  refine (ah0 (sk13 C p w cell _ _ cr _ _ _ _ (by omega))).trans ?_
  refine (ah0 (sk14 C p w cell _ _ cr _ _ _ _ (by omega))).trans ?_
  refine (ah0 (sk15 C p w cell _ _ cr _ _ _ _ (by omega))).trans ?_
  refine (ah0 (sk16 C p w cell _ _ cr _ _ _ _ (by omega))).trans ?_
  exact ce0 C p w cell _ _ cr (p.soils.map .int) _ ((putW p.wants cr.name (2, 1)).map wf) (.int p.top) _ (.inl rfl)
 ·refine ⟨by show p.crops.length <= 10; omega, fun c hc => by have := hb5 c hc; omega, ?_, em0 _ _ hp.keys⟩
  have := fn0 p.wants cr.name (2, 1)
  show (putW p.wants cr.name (2, 1)).length <= 1000
  omega
 ·have h := hv.wants _ (fb0 p.wants cr.name (2, 1))
  have h : (2 : Int) <= 1 := h.2.2.2
  omega
 ·omega
theorem nm0 (hw : w = 14) : ∃ q, Spoil C p w cell q := by
 obtain ⟨cr, hr⟩ : ∃ cr, p.crops[cell % p.crops.length]? = some cr := ⟨_, List.getElem?_eq_getElem (Nat.mod_lt _ hp.some)⟩
 have hat : cell % p.crops.length < p.crops.length := Nat.mod_lt _ hp.some
 have hcm : cr ∈ p.crops := List.mem_of_getElem? hr
 have hcl := hp.few
 have hsl := hp.beds
 have hf9 : cell / 20 % 9 < 9 := Nat.mod_lt _ (by decide)
 have hnew : ∀ x ∈ p.wants, x.1 ≠ "weed" := fun x hx => weed _ (hp.wants x hx)
 have hch : ∀ ε : En, bVar 1 ε = some (intT w) -> qB (bR0 φLe φLt (eC (.int 11)) (bVar 1) (eC (.int 15))) ε = some true := fun ε h => by0 ((cF0 (s := .int 11) (t := intT w) (u := .int 15) (b := decide ((11 : Int) <= (w : Int))) rfl h rfl rfl).trans (by
  rw [decide_eq_true (by omega), if_pos rfl]
  show some (T.bl (decide ((w : Int) < 15))) = _
  rw [decide_eq_true (by omega)]))
 have hput : BD.sDPut 5 (eC (.str "weed")) (eTup (ab0 (eC (.int 0)) (ab0 (eC (.int 1)) aNil))) (spE p w cell (cell % p.crops.length) (cell / 20 % 9) cr (.ow (.lst (p.soils.map .int))) (.ow (.lst (p.crops.map ag0))) (.ow (ai0 p.wants)) (.sh (.int p.top))) = some (.nx (spE p w cell (cell % p.crops.length) (cell / 20 % 9) cr (.ow (.lst (p.soils.map .int))) (.ow (.lst (p.crops.map ag0))) (.ow (ai0 (p.wants ++ [wd]))) (.sh (.int p.top)))) := cO0 (kts := p.wants.map wf) (k := "weed") (v := .tup [.int 0, .int 1]) rfl (by rw [List.length_map]; unfold big; omega) rfl rfl (by rw [en0 hnew 0 1]; rfl)
 have hgt : ∀ ε : En, bVar 1 ε = some (intT w) -> qB (e2 φGt (bVar 1) (eC (.int 11))) ε = some (decide ((11 : Int) < (w : Int))) := fun ε h => by0 ((am0 h rfl).trans rfl)
 refine ⟨{ p with wants := putW p.wants cr.name (1, (4 + ((cell / 20 % 9 : Nat) : Int))) }, ?_, ?_, fun hlt hv => ?_, fun h => ?_⟩
 ·rw [ca0 C p w cell cr hp hr]
  have hact : aD0 C (spE p w cell (cell % p.crops.length) (cell / 20 % 9) cr (.ow (.lst (p.soils.map .int))) (.ow (.lst (p.crops.map ag0))) (.ow (ai0 p.wants)) (.sh (.int p.top))) = some (.nx (spE p w cell (cell % p.crops.length) (cell / 20 % 9) cr (.ow (.lst (p.soils.map .int))) (.ow (.lst (p.crops.map ag0))) (.ow (ai0 (putW p.wants cr.name (1, (4 + ((cell / 20 % 9 : Nat) : Int)))))) (.sh (.int p.top)))) := by
   refine (bH0 (hch _ rfl)).trans ((if_pos rfl).trans ?_)
   refine (at0 hput).trans ?_
   refine (bH0 (hgt _ rfl)).trans ((if_pos (decide_eq_true (by omega))).trans ?_)
   refine (at0 (gj0 (ε' := spE p w cell (cell % p.crops.length) (cell / 20 % 9) cr (.ow (.lst (p.soils.map .int))) (.ow (.lst (p.crops.map ag0))) (.ow (ai0 p.wants)) (.sh (.int p.top))) (k := "weed") (v := .tup [.int 0, .int 1]) rfl rfl ?_ ?_)).trans ?_
   ·rw [List.map_append]
    exact eU0 hnew _
   ·rw [List.map_append]
    show spE _ _ _ _ _ _ _ _ (.ow (.dct (et0 (p.wants.map wf ++ [(("weed" : Str), T.tup [.int 0, .int 1])]) "weed"))) _ = _
    rw [fc0 hnew]
    rfl
   ·subst hw
    refine cO0 (kts := p.wants.map wf) (k := cr.name) (v := .tup [.int 1, .int (4 + ((cell / 20 % 9 : Nat) : Int))]) rfl (by rw [List.length_map]; unfold big; omega) ?_ ?_ ?_
    ·exact rfl
    ·exact (am0 (s := ag0 cr) (t := .int 0) rfl rfl).trans (aY0 _ 0 _ rfl)
    ·rw [lY0 p.wants cr.name (1, (4 + ((cell / 20 % 9 : Nat) : Int)))]
     rfl
  refine (ah0 (sk7 C p w cell _ _ cr _ _ _ _ (by omega))).trans ?_
  refine (ah0 (sk8 C p w cell _ _ cr _ _ _ _ (by omega))).trans ?_
  refine (ah0 (sk9 C p w cell _ _ cr _ _ _ _ (by omega))).trans ?_
  refine (ah0 (sk10 C p w cell _ _ cr _ _ _ _ (by omega))).trans ?_
  refine (ah0 hact).trans ?_
  refine (ah0 (sk12 C p w cell _ _ cr _ _ _ _ (by omega))).trans ?_
  refine (ah0 (sk13 C p w cell _ _ cr _ _ _ _ (by omega))).trans ?_
  refine (ah0 (sk14 C p w cell _ _ cr _ _ _ _ (by omega))).trans ?_
  refine (ah0 (sk15 C p w cell _ _ cr _ _ _ _ (by omega))).trans ?_
  refine (ah0 (sk16 C p w cell _ _ cr _ _ _ _ (by omega))).trans ?_
  exact ce0 C p w cell _ _ cr (p.soils.map .int) _ ((putW p.wants cr.name (1, (4 + ((cell / 20 % 9 : Nat) : Int)))).map wf) (.int p.top) _ (.inl rfl)
 ·refine ⟨by show p.crops.length <= 10; omega, fun c hc => by have := hb5 c hc; omega, ?_, em0 _ _ hp.keys⟩
  have := fn0 p.wants cr.name (1, (4 + ((cell / 20 % 9 : Nat) : Int)))
  show (putW p.wants cr.name (1, (4 + ((cell / 20 % 9 : Nat) : Int)))).length <= 1000
  omega
 ·have h := hv.wants _ (fb0 p.wants cr.name (1, (4 + ((cell / 20 % 9 : Nat) : Int))))
  have h : (4 : Int) + ((cell / 20 % 9 : Nat) : Int) <= 3 := h.2.1.2
  omega
 ·omega
theorem sp_g (hw : w = 15) : ∃ q, Spoil C p w cell q := by
 obtain ⟨cr, hr⟩ : ∃ cr, p.crops[cell % p.crops.length]? = some cr := ⟨_, List.getElem?_eq_getElem (Nat.mod_lt _ hp.some)⟩
 have hat : cell % p.crops.length < p.crops.length := Nat.mod_lt _ hp.some
 have hcm : cr ∈ p.crops := List.mem_of_getElem? hr
 have hcl := hp.few
 have hsl := hp.beds
 have hf9 : cell / 20 % 9 < 9 := Nat.mod_lt _ (by decide)
 have hst : cell % p.soils.length < p.soils.length := Nat.mod_lt _ hsl.1
 have hix : e2 φMod (bVar 2) (av0 φLen (ab0 (bVar 3) aNil)) (spE p w cell (cell % p.crops.length) (cell / 20 % 9) cr (.ow (.lst (p.soils.map .int))) (.ow (.lst (p.crops.map ag0))) (.ow (ai0 p.wants)) (.sh (.int p.top))) = some (.int ((cell % p.soils.length : Nat) : Int)) := by
  refine (am0 (s := intT cell) (t := .int (p.soils.length : Int)) rfl (aR0 (t := .lst (p.soils.map .int)) rfl (by show some (T.int (((p.soils.map T.int).length : Nat) : Int)) = _; rw [List.length_map]))).trans ((aK0 _ _ (by omega)).trans ?_)
  refine congrArg (fun z => some (T.int z)) ?_
  exact (Int.natCast_emod cell p.soils.length).symm
 refine ⟨{ p with soils := p.soils.set (cell % p.soils.length) (-1 - ((cell / 20 % 9 : Nat) : Int)) }, ?_, ?_, fun hlt hv => ?_, fun h => ?_⟩
 ·rw [ca0 C p w cell cr hp hr]
  have hact : bj0 C (spE p w cell (cell % p.crops.length) (cell / 20 % 9) cr (.ow (.lst (p.soils.map .int))) (.ow (.lst (p.crops.map ag0))) (.ow (ai0 p.wants)) (.sh (.int p.top))) = some (.nx (spE p w cell (cell % p.crops.length) (cell / 20 % 9) cr (.ow (.lst ((p.soils.set (cell % p.soils.length) (-1 - ((cell / 20 % 9 : Nat) : Int))).map .int))) (.ow (.lst (p.crops.map ag0))) (.ow (ai0 p.wants)) (.sh (.int p.top)))) := (ci0 (w := w) rfl).trans ((if_pos (by omega)).trans (bW0 (k := ((cell % p.soils.length : Nat) : Int)) (j := cell % p.soils.length) (v := .int (-1 - ((cell / 20 % 9 : Nat) : Int))) rfl rfl hix (gr0 (by rw [List.length_map]; exact hst)) (by rw [List.map_set]; rfl)))
  refine (ah0 (sk7 C p w cell _ _ cr _ _ _ _ (by omega))).trans ?_
  refine (ah0 (sk8 C p w cell _ _ cr _ _ _ _ (by omega))).trans ?_
  refine (ah0 (sk9 C p w cell _ _ cr _ _ _ _ (by omega))).trans ?_
  refine (ah0 (sk10 C p w cell _ _ cr _ _ _ _ (by omega))).trans ?_
  refine (ah0 (sk11 C p w cell _ _ cr _ _ _ _ (by omega))).trans ?_
  refine (ah0 hact).trans ?_
  refine (ah0 (sk13 C p w cell _ _ cr _ _ _ _ (by omega))).trans ?_
  refine (ah0 (sk14 C p w cell _ _ cr _ _ _ _ (by omega))).trans ?_
  refine (ah0 (sk15 C p w cell _ _ cr _ _ _ _ (by omega))).trans ?_
  refine (ah0 (sk16 C p w cell _ _ cr _ _ _ _ (by omega))).trans ?_
  exact ce0 C p w cell _ _ cr ((p.soils.set (cell % p.soils.length) (-1 - ((cell / 20 % 9 : Nat) : Int))).map .int) _ (p.wants.map wf) (.int p.top) _ (.inl rfl)
 ·exact ⟨by show p.crops.length <= 10; omega, fun c hc => by have := hb5 c hc; omega, by show p.wants.length <= 1000; omega, hp.keys⟩
 ·have hm : (-1 - ((cell / 20 % 9 : Nat) : Int)) ∈ p.soils.set (cell % p.soils.length) (-1 - ((cell / 20 % 9 : Nat) : Int)) := List.mem_of_getElem? (List.getElem?_set_self hst)
  have h := hv.beds.2.2 _ hm
  have h : (0 : Int) <= -1 - ((cell / 20 % 9 : Nat) : Int) := h.1
  omega
 ·omega
theorem sp_h (hw : w = 16) : ∃ q, Spoil C p w cell q := by
 obtain ⟨cr, hr⟩ : ∃ cr, p.crops[cell % p.crops.length]? = some cr := ⟨_, List.getElem?_eq_getElem (Nat.mod_lt _ hp.some)⟩
 have hat : cell % p.crops.length < p.crops.length := Nat.mod_lt _ hp.some
 have hcm : cr ∈ p.crops := List.mem_of_getElem? hr
 have hcl := hp.few
 have hsl := hp.beds
 have hf9 : cell / 20 % 9 < 9 := Nat.mod_lt _ (by decide)
 have hst : cell % p.soils.length < p.soils.length := Nat.mod_lt _ hsl.1
 have hix : e2 φMod (bVar 2) (av0 φLen (ab0 (bVar 3) aNil)) (spE p w cell (cell % p.crops.length) (cell / 20 % 9) cr (.ow (.lst (p.soils.map .int))) (.ow (.lst (p.crops.map ag0))) (.ow (ai0 p.wants)) (.sh (.int p.top))) = some (.int ((cell % p.soils.length : Nat) : Int)) := by
  refine (am0 (s := intT cell) (t := .int (p.soils.length : Int)) rfl (aR0 (t := .lst (p.soils.map .int)) rfl (by show some (T.int (((p.soils.map T.int).length : Nat) : Int)) = _; rw [List.length_map]))).trans ((aK0 _ _ (by omega)).trans ?_)
  refine congrArg (fun z => some (T.int z)) ?_
  exact (Int.natCast_emod cell p.soils.length).symm
 refine ⟨{ p with soils := p.soils.set (cell % p.soils.length) (p.top + 1 + ((cell / 20 % 9 : Nat) : Int)) }, ?_, ?_, fun hlt hv => ?_, fun h => ?_⟩
 ·rw [ca0 C p w cell cr hp hr]
  have hact : bf0 C (spE p w cell (cell % p.crops.length) (cell / 20 % 9) cr (.ow (.lst (p.soils.map .int))) (.ow (.lst (p.crops.map ag0))) (.ow (ai0 p.wants)) (.sh (.int p.top))) = some (.nx (spE p w cell (cell % p.crops.length) (cell / 20 % 9) cr (.ow (.lst ((p.soils.set (cell % p.soils.length) (p.top + 1 + ((cell / 20 % 9 : Nat) : Int))).map .int))) (.ow (.lst (p.crops.map ag0))) (.ow (ai0 p.wants)) (.sh (.int p.top)))) := (ci0 (w := w) rfl).trans ((if_pos (by omega)).trans (bW0 (k := ((cell % p.soils.length : Nat) : Int)) (j := cell % p.soils.length) (v := .int (p.top + 1 + ((cell / 20 % 9 : Nat) : Int))) rfl rfl hix (gr0 (by rw [List.length_map]; exact hst)) (by rw [List.map_set]; rfl)))
  refine (ah0 (sk7 C p w cell _ _ cr _ _ _ _ (by omega))).trans ?_
  refine (ah0 (sk8 C p w cell _ _ cr _ _ _ _ (by omega))).trans ?_
  refine (ah0 (sk9 C p w cell _ _ cr _ _ _ _ (by omega))).trans ?_
  refine (ah0 (sk10 C p w cell _ _ cr _ _ _ _ (by omega))).trans ?_
  refine (ah0 (sk11 C p w cell _ _ cr _ _ _ _ (by omega))).trans ?_
  refine (ah0 (sk12 C p w cell _ _ cr _ _ _ _ (by omega))).trans ?_
  refine (ah0 hact).trans ?_
  refine (ah0 (sk14 C p w cell _ _ cr _ _ _ _ (by omega))).trans ?_
  refine (ah0 (sk15 C p w cell _ _ cr _ _ _ _ (by omega))).trans ?_
  refine (ah0 (sk16 C p w cell _ _ cr _ _ _ _ (by omega))).trans ?_
  exact ce0 C p w cell _ _ cr ((p.soils.set (cell % p.soils.length) (p.top + 1 + ((cell / 20 % 9 : Nat) : Int))).map .int) _ (p.wants.map wf) (.int p.top) _ (.inl rfl)
 ·exact ⟨by show p.crops.length <= 10; omega, fun c hc => by have := hb5 c hc; omega, by show p.wants.length <= 1000; omega, hp.keys⟩
 ·have hm : (p.top + 1 + ((cell / 20 % 9 : Nat) : Int)) ∈ p.soils.set (cell % p.soils.length) (p.top + 1 + ((cell / 20 % 9 : Nat) : Int)) := List.mem_of_getElem? (List.getElem?_set_self hst)
  have h := hv.beds.2.2 _ hm
  have h : p.top + 1 + ((cell / 20 % 9 : Nat) : Int) <= p.top := h.2
  omega
 ·omega
theorem sp_i (hw : w = 17) : ∃ q, Spoil C p w cell q := by
 obtain ⟨cr, hr⟩ : ∃ cr, p.crops[cell % p.crops.length]? = some cr := ⟨_, List.getElem?_eq_getElem (Nat.mod_lt _ hp.some)⟩
 have hat : cell % p.crops.length < p.crops.length := Nat.mod_lt _ hp.some
 have hcm : cr ∈ p.crops := List.mem_of_getElem? hr
 have hcl := hp.few
 have hsl := hp.beds
 have hf9 : cell / 20 % 9 < 9 := Nat.mod_lt _ (by decide)
 refine ⟨{ p with soils := [] }, ?_, ?_, fun hlt hv => ?_, fun h => ?_⟩
 ·rw [ca0 C p w cell cr hp hr]
  have hact : bi0 C (spE p w cell (cell % p.crops.length) (cell / 20 % 9) cr (.ow (.lst (p.soils.map .int))) (.ow (.lst (p.crops.map ag0))) (.ow (ai0 p.wants)) (.sh (.int p.top))) = some (.nx (spE p w cell (cell % p.crops.length) (cell / 20 % 9) cr (.ow (.lst (([] : List Int).map .int))) (.ow (.lst (p.crops.map ag0))) (.ow (ai0 p.wants)) (.sh (.int p.top)))) := (ci0 (w := w) rfl).trans ((if_pos (by omega)).trans (fi0 (t := .lst []) rfl rfl rfl))
  refine (ah0 (sk7 C p w cell _ _ cr _ _ _ _ (by omega))).trans ?_
  refine (ah0 (sk8 C p w cell _ _ cr _ _ _ _ (by omega))).trans ?_
  refine (ah0 (sk9 C p w cell _ _ cr _ _ _ _ (by omega))).trans ?_
  refine (ah0 (sk10 C p w cell _ _ cr _ _ _ _ (by omega))).trans ?_
  refine (ah0 (sk11 C p w cell _ _ cr _ _ _ _ (by omega))).trans ?_
  refine (ah0 (sk12 C p w cell _ _ cr _ _ _ _ (by omega))).trans ?_
  refine (ah0 (sk13 C p w cell _ _ cr _ _ _ _ (by omega))).trans ?_
  refine (ah0 hact).trans ?_
  refine (ah0 (sk15 C p w cell _ _ cr _ _ _ _ (by omega))).trans ?_
  refine (ah0 (sk16 C p w cell _ _ cr _ _ _ _ (by omega))).trans ?_
  exact ce0 C p w cell _ _ cr (([] : List Int).map .int) _ (p.wants.map wf) (.int p.top) _ (.inl rfl)
 ·exact ⟨by show p.crops.length <= 10; omega, fun c hc => by have := hb5 c hc; omega, by show p.wants.length <= 1000; omega, hp.keys⟩
 ·exact absurd (show 1 <= 0 from hv.beds.2.1.1) (by decide)
 ·omega
theorem sp_j (hw : w = 18) : ∃ q, Spoil C p w cell q := by
 obtain ⟨cr, hr⟩ : ∃ cr, p.crops[cell % p.crops.length]? = some cr := ⟨_, List.getElem?_eq_getElem (Nat.mod_lt _ hp.some)⟩
 have hat : cell % p.crops.length < p.crops.length := Nat.mod_lt _ hp.some
 have hcm : cr ∈ p.crops := List.mem_of_getElem? hr
 have hcl := hp.few
 have hsl := hp.beds
 have hf9 : cell / 20 % 9 < 9 := Nat.mod_lt _ (by decide)
 have hcomp : aZ0 1 (bt0 (ab0 (e2 φAdd (e2 φSub (eC (.int 4)) (av0 φLen (ab0 (bVar 3) aNil))) (e2 φMod (bVar 9) (eC (.int 2)))) aNil)) (aA0 0) bv0 (eC (.int 0)) (spE p w cell (cell % p.crops.length) (cell / 20 % 9) cr (.ow (.lst (p.soils.map .int))) (.ow (.lst (p.crops.map ag0))) (.ow (ai0 p.wants)) (.sh (.int p.top))) = some (.lst ((aU0 0 (4 - p.soils.length + cell / 20 % 9 % 2)).map fun _ => .int 0)) := by
  refine bB0 (n := 1) (bT0 (n := 4 - p.soils.length + cell / 20 % 9 % 2) (ap0 ?_ rfl) (by omega)) (by rw [aV0]; unfold big; omega) fun t ht => ⟨_, rfl, rfl⟩
  refine (am0 (s := .int (4 - (p.soils.length : Int))) (t := .int (((cell / 20 % 9 : Nat) : Int) % 2)) ((am0 (s := .int 4) (t := .int (p.soils.length : Int)) rfl (aR0 (t := .lst (p.soils.map .int)) rfl (by show some (T.int (((p.soils.map T.int).length : Nat) : Int)) = _; rw [List.length_map]))).trans rfl) ((am0 (s := intT (cell / 20 % 9)) (t := .int 2) rfl rfl).trans (aK0 _ _ (by decide)))).trans ?_
  refine congrArg (fun z => some (T.int z)) ?_
  omega
 refine ⟨{ p with soils := p.soils ++ List.replicate (4 - p.soils.length + cell / 20 % 9 % 2) 0 }, ?_, ?_, fun hlt hv => ?_, fun h => ?_⟩
 ·rw [ca0 C p w cell cr hp hr]
  have hact : bb0 C (spE p w cell (cell % p.crops.length) (cell / 20 % 9) cr (.ow (.lst (p.soils.map .int))) (.ow (.lst (p.crops.map ag0))) (.ow (ai0 p.wants)) (.sh (.int p.top))) = some (.nx (spE p w cell (cell % p.crops.length) (cell / 20 % 9) cr (.ow (.lst ((p.soils ++ List.replicate (4 - p.soils.length + cell / 20 % 9 % 2) 0).map .int))) (.ow (.lst (p.crops.map ag0))) (.ow (ai0 p.wants)) (.sh (.int p.top)))) := (ci0 (w := w) rfl).trans ((if_pos (by omega)).trans (fi0 (t := .lst ((p.soils ++ List.replicate (4 - p.soils.length + cell / 20 % 9 % 2) 0).map .int)) ((am0 (s := .lst (p.soils.map .int)) rfl hcomp).trans (kD0 (by omega) (by omega))) rfl rfl))
  refine (ah0 (sk7 C p w cell _ _ cr _ _ _ _ (by omega))).trans ?_
  refine (ah0 (sk8 C p w cell _ _ cr _ _ _ _ (by omega))).trans ?_
  refine (ah0 (sk9 C p w cell _ _ cr _ _ _ _ (by omega))).trans ?_
  refine (ah0 (sk10 C p w cell _ _ cr _ _ _ _ (by omega))).trans ?_
  refine (ah0 (sk11 C p w cell _ _ cr _ _ _ _ (by omega))).trans ?_
  refine (ah0 (sk12 C p w cell _ _ cr _ _ _ _ (by omega))).trans ?_
  refine (ah0 (sk13 C p w cell _ _ cr _ _ _ _ (by omega))).trans ?_
  refine (ah0 (sk14 C p w cell _ _ cr _ _ _ _ (by omega))).trans ?_
  refine (ah0 hact).trans ?_
  refine (ah0 (sk16 C p w cell _ _ cr _ _ _ _ (by omega))).trans ?_
  exact ce0 C p w cell _ _ cr ((p.soils ++ List.replicate (4 - p.soils.length + cell / 20 % 9 % 2) 0).map .int) _ (p.wants.map wf) (.int p.top) _ (.inl rfl)
 ·exact ⟨by show p.crops.length <= 10; omega, fun c hc => by have := hb5 c hc; omega, by show p.wants.length <= 1000; omega, hp.keys⟩
 ·have h := hv.beds.2.1.2
  have h : (p.soils ++ List.replicate (4 - p.soils.length + cell / 20 % 9 % 2) 0).length <= 3 := h
  rw [List.length_append, List.length_replicate] at h
  omega
 ·omega
theorem sp_k (hw : w = 19) : ∃ q, Spoil C p w cell q := by
 obtain ⟨cr, hr⟩ : ∃ cr, p.crops[cell % p.crops.length]? = some cr := ⟨_, List.getElem?_eq_getElem (Nat.mod_lt _ hp.some)⟩
 have hat : cell % p.crops.length < p.crops.length := Nat.mod_lt _ hp.some
 have hcm : cr ∈ p.crops := List.mem_of_getElem? hr
 have hcl := hp.few
 have hsl := hp.beds
 have hf9 : cell / 20 % 9 < 9 := Nat.mod_lt _ (by decide)
 obtain ⟨top', ht, hbad⟩ : ∃ top' : Int, φIx (.lst [.int 0, .int (6 + ((cell / 20 % 9 : Nat) : Int)), .int (-1 - ((cell / 20 % 9 : Nat) : Int))]) (intT (cell / 200 % 3)) = some (.int top') /\ ¬ (1 <= top' /\ top' <= 5) := by
  have h3 : cell / 200 % 3 < 3 := Nat.mod_lt _ (by decide)
  have hc : cell / 200 % 3 = 0 \/ cell / 200 % 3 = 1 \/ cell / 200 % 3 = 2 := by omega
  rcases hc with e | e | e <;> rw [e]
  ·exact ⟨_, bO0 _ 0 _ rfl, by omega⟩
  ·exact ⟨_, bO0 _ 1 _ rfl, by omega⟩
  ·exact ⟨_, bO0 _ 2 _ rfl, by omega⟩
 have hidx : e2 φMod (e2 φDiv (bVar 2) (eC (.int 200))) (eC (.int 3)) (spE p w cell (cell % p.crops.length) (cell / 20 % 9) cr (.ow (.lst (p.soils.map .int))) (.ow (.lst (p.crops.map ag0))) (.ow (ai0 p.wants)) (.sh (.int p.top))) = some (intT (cell / 200 % 3)) := by
  refine (am0 (s := intT (cell / 200)) (t := .int 3) ((am0 (s := intT cell) (t := .int 200) rfl rfl).trans ((fj0 _ _ (by decide) (by decide)).trans ?_)) rfl).trans ((aK0 _ _ (by decide)).trans ?_)
  ·refine congrArg (fun z => some (T.int z)) ?_
   exact (Int.natCast_ediv cell 200).symm
  ·refine congrArg (fun z => some (T.int z)) ?_
   exact (Int.natCast_emod (cell / 200) 3).symm
 refine ⟨{ p with soils := p.soils.map fun _ => 0, top := top' }, ?_, ?_, fun hlt hv => ?_, fun h => ?_⟩
 ·rw [ca0 C p w cell cr hp hr]
  have hact : bh0 C (spE p w cell (cell % p.crops.length) (cell / 20 % 9) cr (.ow (.lst (p.soils.map .int))) (.ow (.lst (p.crops.map ag0))) (.ow (ai0 p.wants)) (.sh (.int p.top))) = some (.nx (spE p w cell (cell % p.crops.length) (cell / 20 % 9) cr (.sh (.lst ((p.soils.map fun _ => (0 : Int)).map .int))) (.ow (.lst (p.crops.map ag0))) (.ow (ai0 p.wants)) (.sh (.int top')))) := by
   refine (ci0 (w := w) rfl).trans ((if_pos (by omega)).trans ?_)
   refine (at0 (de0 (ε' := spE p w cell (cell % p.crops.length) (cell / 20 % 9) cr (.ow (.lst (p.soils.map .int))) (.ow (.lst (p.crops.map ag0))) (.ow (ai0 p.wants)) (.sh (.int top'))) (t := .int top') ((am0 (s := .lst [.int 0, .int (6 + ((cell / 20 % 9 : Nat) : Int)), .int (-1 - ((cell / 20 % 9 : Nat) : Int))]) rfl hidx).trans ht) rfl)).trans ?_
   refine (de0 (ε' := spE p w cell (cell % p.crops.length) (cell / 20 % 9) cr (.sh (.lst ((p.soils.map fun _ => (0 : Int)).map .int))) (.ow (.lst (p.crops.map ag0))) (.ow (ai0 p.wants)) (.sh (.int top'))) (t := .lst ((p.soils.map T.int).map fun _ => T.int 0)) ?_ (by rw [List.map_map, List.map_map]; rfl) : sSet 3 (aZ0 1 (iLst (eVar 3)) (aA0 0) bv0 (eC (.int 0))) (spE p w cell (cell % p.crops.length) (cell / 20 % 9) cr (.sh (.lst (p.soils.map .int))) (.ow (.lst (p.crops.map ag0))) (.ow (ai0 p.wants)) (.sh (.int top'))) = _)
   exact bB0 (n := 1) (ts := p.soils.map .int) rfl (by rw [List.length_map]; unfold big; omega) fun t ht => ⟨_, rfl, rfl⟩
  refine (ah0 (sk7 C p w cell _ _ cr _ _ _ _ (by omega))).trans ?_
  refine (ah0 (sk8 C p w cell _ _ cr _ _ _ _ (by omega))).trans ?_
  refine (ah0 (sk9 C p w cell _ _ cr _ _ _ _ (by omega))).trans ?_
  refine (ah0 (sk10 C p w cell _ _ cr _ _ _ _ (by omega))).trans ?_
  refine (ah0 (sk11 C p w cell _ _ cr _ _ _ _ (by omega))).trans ?_
  refine (ah0 (sk12 C p w cell _ _ cr _ _ _ _ (by omega))).trans ?_
  refine (ah0 (sk13 C p w cell _ _ cr _ _ _ _ (by omega))).trans ?_
  refine (ah0 (sk14 C p w cell _ _ cr _ _ _ _ (by omega))).trans ?_
  refine (ah0 (sk15 C p w cell _ _ cr _ _ _ _ (by omega))).trans ?_
  refine (ah0 hact).trans ?_
  exact ce0 C p w cell _ _ cr ((p.soils.map fun _ => (0 : Int)).map .int) _ (p.wants.map wf) (.int top') _ (.inr rfl)
 ·exact ⟨by show p.crops.length <= 10; omega, fun c hc => by have := hb5 c hc; omega, by show p.wants.length <= 1000; omega, hp.keys⟩
 ·exact hbad hv.beds.1
 ·omega
theorem sp_l (hw : 20 <= w) : ∃ q, Spoil C p w cell q := by
 obtain ⟨cr, hr⟩ : ∃ cr, p.crops[cell % p.crops.length]? = some cr := ⟨_, List.getElem?_eq_getElem (Nat.mod_lt _ hp.some)⟩
 refine ⟨p, ?_, hp.small, fun h => by omega, fun _ => rfl⟩
 rw [ca0 C p w cell cr hp hr]
 refine (ah0 (sk7 C p w cell _ _ cr _ _ _ _ (by omega))).trans ?_
 refine (ah0 (sk8 C p w cell _ _ cr _ _ _ _ (by omega))).trans ?_
 refine (ah0 (sk9 C p w cell _ _ cr _ _ _ _ (by omega))).trans ?_
 refine (ah0 (sk10 C p w cell _ _ cr _ _ _ _ (by omega))).trans ?_
 refine (ah0 (sk11 C p w cell _ _ cr _ _ _ _ (by omega))).trans ?_
 refine (ah0 (sk12 C p w cell _ _ cr _ _ _ _ (by omega))).trans ?_
 refine (ah0 (sk13 C p w cell _ _ cr _ _ _ _ (by omega))).trans ?_
 refine (ah0 (sk14 C p w cell _ _ cr _ _ _ _ (by omega))).trans ?_
 refine (ah0 (sk15 C p w cell _ _ cr _ _ _ _ (by omega))).trans ?_
 refine (ah0 (sk16 C p w cell _ _ cr _ _ _ _ (by omega))).trans ?_
 exact ce0 C p w cell _ _ cr (p.soils.map .int) _ (p.wants.map wf) (.int p.top) _ (.inl rfl)
theorem hQ0 : ∃ q, Spoil C p w cell q := by
 by_cases h1 : w < 8
 ·exact sp_a C p hp hb5 hw5 weed w cell h1
 by_cases h2 : 20 <= w
 ·exact sp_l C p hp hb5 hw5 weed w cell h2
 have hc : w = 8 \/ w = 9 \/ w = 10 \/ w = 11 \/ w = 12 \/ w = 13 \/ w = 14 \/ w = 15 \/ w = 16 \/ w = 17 \/ w = 18 \/ w = 19 := by omega
 rcases hc with e | e | e | e | e | e | e | e | e | e | e | e
 ·exact sp_b C p hp hb5 hw5 weed w cell e
 ·exact sp_c C p hp hb5 hw5 weed w cell e
 ·exact sp_d C p hp hb5 hw5 weed w cell e
 ·exact sp_e C p hp hb5 hw5 weed w cell e
 ·exact nB0 C p hp hb5 hw5 weed w cell e
 ·exact nf0 C p hp hb5 hw5 weed w cell e
 ·exact nm0 C p hp hb5 hw5 weed w cell e
 ·exact sp_g C p hp hb5 hw5 weed w cell e
 ·exact sp_h C p hp hb5 hw5 weed w cell e
 ·exact sp_i C p hp hb5 hw5 weed w cell e
 ·exact sp_j C p hp hb5 hw5 weed w cell e
 ·exact sp_k C p hp hb5 hw5 weed w cell e
end
def cA : Crop := ⟨"a", 3, 1000, 3, ["a"]⟩
def cB : Crop := ⟨"b", -3, 0, 0, []⟩
def cC : Crop := ⟨"c", 0, 1, 0, ["a", "b"]⟩
def cD : Crop := ⟨"d", 1, 1, 1, []⟩
def cE : Crop := ⟨"e", 1, 1, 1, []⟩
def rp : Nat -> Plot
 | 0 => ⟨[0, 0, 0], 5, [cA, cB, cC, cD, cE], []⟩
 | 1 => ⟨[5], 5, [cA], [("a", 0, 3)]⟩
 | 2 => ⟨[1], 1, [cB], [("b", 3, 3)]⟩
 | 3 => ⟨[0], 1, [⟨"a", 0, 0, 0, ["a"]⟩], [("a", 0, 0)]⟩
 | _ => ⟨[0, 1], 1, [cA, cB], []⟩
theorem hF0 (C : Addr) (w : Nat) (h : 22 <= w /\ w <= 26) : w5 C [intT w] = some (false, aP0 (rp (w % 5))) := by
 have hc : w = 22 \/ w = 23 \/ w = 24 \/ w = 25 \/ w = 26 := by omega
 rcases hc with e | e | e | e | e <;> subst e <;> rfl
theorem hw0 (k : Nat) : Valid (rp k) /\ Small (rp k) := by
 unfold rp
 split <;> exact ⟨⟨by unfold fN0; decide +kernel, by unfold eh0 eN0; decide +kernel, by unfold fg0; decide +kernel⟩, ⟨by decide +kernel, by decide +kernel, by decide +kernel, by decide +kernel⟩⟩
def lawE (ns : List Int) (p q : Plot) (w : Nat) (x y : Sl) : En := [.sh (scrT ns), .sh (cf0 p), .sh (intT w), .sh (aP0 q), .sh (aP0 q), x, y]
theorem eW0 {gs : List T -> Option (Bool × T)} {E : En -> Option T} {ε : En} {s u : T} (hE : E ε = some s) (hp : gs [s] = some (false, u)) : eFn gs (ab0 E aNil) ε = some u := by
 unfold eFn ab0 aNil
 simp only [hE, Option.bind_some, hp, noD, Bool.false_and, Bool.false_eq_true, if_false]
theorem gK0 {gs : List T -> Option (Bool × T)} {E : En -> Option T} {ε : En} {s u : T} (hE : E ε = some s) (hp : gs [s] = some (true, u)) : eFnF gs (ab0 E aNil) ε = some u := by
 unfold eFnF ab0 aNil
 simp only [hE, Option.bind_some, hp]
theorem jH0 {gs : List T -> Option (Bool × T)} {E F G : En -> Option T} {ε : En} {s t v u : T} (hE : E ε = some s) (hF : F ε = some t) (hG : G ε = some v) (hp : gs [s, t, v] = some (true, u)) : eFnF gs (ab0 E (ab0 F (ab0 G aNil))) ε = some u := by
 unfold eFnF ab0 aNil
 simp only [hE, hF, hG, Option.bind_some, hp]
theorem and_f {p q : En -> Option Bool} {ε : En} (h1 : p ε = some false) : qAnd p q ε = some false := by
 unfold qAnd
 rw [h1]
 rfl
theorem and_t {p q : En -> Option Bool} {ε : En} {b : Bool} (h1 : p ε = some true) (h2 : q ε = some b) : qAnd p q ε = some b := by
 unfold qAnd
 rw [h1, Option.bind_some, if_pos rfl]
 exact h2
theorem ms0 (C BG : Addr) (ns : List Int) (p q : Plot) (w : Nat) (hs : Small q) (h1 : w < 20 -> ¬ Valid q) (h2 : 20 <= w -> Valid q) (x y : Sl) : ∃ y', K7 C BG (lawE ns p q w x y) = some (.nx (lawE ns p q w x y')) := by
 have hcl := hs.crops
 have hne : ∀ y, sIf (qB (e2 φNeS (eFnF (V1 C) (ab0 (eVar 3) aNil)) (bVar 4))) (sRet false (eC (.bl false))) sNx (lawE ns p q w x y) = some (.nx (lawE ns p q w x y)) := fun y => cW0 (by0 ((am0 (s := aP0 q) (t := aP0 q) (gK0 rfl (eC0 C q (by omega))) rfl).trans (kM0 hs)))
 have hlt : ∀ y, qB (e2 φLt (bVar 2) (eC (.int 20))) (lawE ns p q w x y) = some (decide ((w : Int) < 20)) := fun y => rfl
 have hge : ∀ y, qB (e2 φGe (bVar 2) (eC (.int 20))) (lawE ns p q w x y) = some (decide ((20 : Int) <= (w : Int))) := fun y => rfl
 unfold K7
 by_cases hw : w < 20
 ·have d1 : decide ((w : Int) < 20) = true := decide_eq_true (by omega)
  have d2 : decide ((20 : Int) <= (w : Int)) = false := decide_eq_false (by omega)
  refine ⟨.sh (.exc BG), ?_⟩
  refine (at0 (de0 (ε' := lawE ns p q w x (.sh (.exc BG))) (eW0 rfl (lM0 C BG q hs (h1 hw))) rfl)).trans ?_
  refine (at0 (hne _)).trans ?_
  refine (at0 (cW0 (and_t ((hlt _).trans (by rw [d1])) (by0 ((am0 (s := .int 0) (t := .int 0) (eW0 rfl (kq0 C BG)) rfl).trans (neI 0 0)))))).trans ?_
  exact cW0 (and_f ((hge _).trans (by rw [d2])))
 ·have d1 : decide ((w : Int) < 20) = false := decide_eq_false (by omega)
  have d2 : decide ((20 : Int) <= (w : Int)) = true := decide_eq_true (by omega)
  refine ⟨.sh (garT C q), ?_⟩
  refine (at0 (de0 (ε' := lawE ns p q w x (.sh (garT C q))) (eW0 rfl (ks0 C BG q hs (h2 (by omega)))) rfl)).trans ?_
  refine (at0 (hne _)).trans ?_
  refine (at0 (cW0 (and_f ((hlt _).trans (by rw [d1]))))).trans ?_
  refine cW0 (and_t ((hge _).trans (by rw [d2])) ?_)
  have i : eIsI C (bVar 6) (lawE ns p q w x (.sh (garT C q))) = some (.bl true) := by
   show (if C = C then _ else _) = _
   rw [if_pos rfl]
  unfold qNot
  rw [by0 i]
  rfl
theorem nS0 (C BG : Addr) (ns : List Int) : k6 C BG [scrT ns] = some (false, .bl true) := by
 obtain ⟨b, hb, hbd⟩ := ig0 C ns
 obtain ⟨p, hp1, hp, _, weed, hb5, hw5⟩ := gw0 C ns b hb
 have w0 := Int.emod_nonneg (as0 ns 91) (show (27 : Int) ≠ 0 by decide)
 have w1 := Int.emod_lt_of_pos (as0 ns 91) (show (0 : Int) < 27 by decide)
 have c0 := mk0 ns 92
 obtain ⟨w, hw⟩ : ∃ w : Nat, as0 ns 91 % 27 = (w : Int) := ⟨(as0 ns 91 % 27).toNat, by omega⟩
 obtain ⟨cell, hcell⟩ : ∃ c : Nat, as0 ns 92 = (c : Int) := ⟨(as0 ns 92).toNat, by omega⟩
 obtain ⟨q, sp⟩ := hQ0 C p hp hb5 hw5 weed w cell
 have dr : ∀ (k : Nat) (hk : k <= 1000) (z : Int) (hz : z = (k : Int)) (ε : En) (h0 : eVar 0 ε = some (scrT ns)), eFn (z0 C) (ab0 (eVar 0) (ab0 (eC (.int z)) aNil)) ε = some (.int (as0 ns k)) := fun k hk z hz ε h0 => by
  subst hz
  exact bP0 h0 rfl (cy0 C ns k hk)
 unfold k6 j9
 refine (bo0 (ε := [.sh (scrT ns), .un, .un, .un, .un, .un, .un]) rfl rfl).trans ?_
 refine (ah0 (de0 (ε' := [.sh (scrT ns), .sh (cf0 p), .un, .un, .un, .un, .un]) (bP0 (s := scrT ns) (t := intT b) rfl (bP0 (s := scrT ns) (t := .int 3) rfl rfl hbd) hp1) rfl)).trans ?_
 refine (ah0 (de0 (ε' := [.sh (scrT ns), .sh (cf0 p), .sh (intT w), .un, .un, .un, .un]) ((am0 (t := .int 27) (dr 91 (by decide) 91 rfl _ rfl) rfl).trans ((aK0 _ _ (by decide)).trans (by rw [hw]))) rfl)).trans ?_
 refine (ah0 (de0 (ε' := [.sh (scrT ns), .sh (cf0 p), .sh (intT w), .sh (aP0 q), .un, .un, .un]) (jH0 (s := cf0 p) (t := intT w) (v := intT cell) rfl rfl ((dr 92 (by decide) 92 rfl _ rfl).trans (by rw [hcell])) sp.run) rfl)).trans ?_
 have key : ∃ q', sIf (qB (e2 φGt (bVar 2) (eC (.int 21)))) (sSet 3 (eFn (w5 C) (ab0 (eVar 2) aNil))) sNx [.sh (scrT ns), .sh (cf0 p), .sh (intT w), .sh (aP0 q), .un, .un, .un] = some (.nx [.sh (scrT ns), .sh (cf0 p), .sh (intT w), .sh (aP0 q'), .un, .un, .un]) /\ Small q' /\ (w < 20 -> ¬ Valid q') /\ (20 <= w -> Valid q') := by
  have hq : qB (e2 φGt (bVar 2) (eC (.int 21))) [.sh (scrT ns), .sh (cf0 p), .sh (intT w), .sh (aP0 q), .un, .un, .un] = some (decide ((21 : Int) < (w : Int))) := rfl
  by_cases h : 21 < w
  ·refine ⟨rp (w % 5), (bH0 hq).trans ((if_pos (decide_eq_true (by omega))).trans (de0 (eW0 (s := intT w) rfl (hF0 C w (by omega))) rfl)), (hw0 _).2, fun z => by omega, fun _ => (hw0 _).1⟩
  ·refine ⟨q, cW0 (hq.trans (by rw [decide_eq_false (by omega)])), sp.small, sp.bad, fun z => ?_⟩
   rw [sp.same z]
   exact hp.valid
 obtain ⟨q', hq', hs, hbad, hgood⟩ := key
 have hcl := hs.crops
 refine (ah0 hq').trans ?_
 refine (ah0 (de0 (ε' := lawE ns p q' w .un .un) (gK0 (s := aP0 q') rfl (eC0 C q' (by omega))) rfl)).trans ?_
 obtain ⟨ε', l1, x, y, l2⟩ := dM0 (bd := aA0 5) (body := K7 C BG) (fun k ε => ∃ x y, ε = lawE ns p q' w x y) (aU0 0 2) 0 (lawE ns p q' w .un .un) ⟨_, _, rfl⟩ fun i t ε ht ⟨x, y, he⟩ => by
  subst he
  obtain ⟨y', hy⟩ := ms0 C BG ns p q' w hs hbad hgood (.sh t) y
  exact ⟨lawE ns p q' w (.sh t) y, lawE ns p q' w (.sh t) y', rfl, .inl hy, _, _, rfl⟩
 refine (ah0 (fe0 (bT0 (n := 2) (ap0 rfl rfl) (by decide)) l1)).trans ?_
 rfl
end Bed1
namespace Bed1
open PySem PySem.Spec PyProof.Rows L2 L2.BD
def bY0 (K : PySem.W.Frag) (mg : Str -> Option Value) (x qual : Str) (st : Stmt) (ps : List Str) : Prop := ∃ f fd, Fun K x qual st f fd /\ mg x = some (.ref f) /\ PySem.W.keepIn K (.ref f) = true /\ Binds K fd ps []
def MakAt (K : PySem.W.Frag) (mg : Str -> Option Value) (C : Addr) (c qual : Str) (st : Stmt) (ps : List Str) : Prop := ∃ f fd, Fun K "__init__" qual st f fd /\ Mk K C f /\ mg c = some (.ref C) /\ Binds K fd ps []
structure Ats (K : PySem.W.Frag) (mg : Str -> Option Value) (C : Addr) : Prop where
 Vf0 : bY0 K mg "_law_alone" "_law_alone" v6 x3
 Yf0 : bY0 K mg "_law_cell_at" "_law_cell_at" y6 Q3
 Xf0 : bY0 K mg "_law_draw" "_law_draw" Z6 W0
 zg0 : bY0 K mg "_law_beds" "_law_beds" Q6 J3
 qg0 : bY0 K mg "_law_crop" "_law_crop" J6 W3
 jg0 : bY0 K mg "_law_wants" "_law_wants" K6 V3
 kg0 : bY0 K mg "_law_garden" "_law_garden" X3 j4
 wg0 : bY0 K mg "_law_handed" "_law_handed" V5 v4
 vg0 : bY0 K mg "is_within" "is_within" W6 y4
 yg0 : bY0 K mg "check_within" "check_within" V6 j1
 xg0 : bY0 K mg "check_beds" "check_beds" Y6 Z4
 hg0 : bY0 K mg "check_crop" "check_crop" X6 Q4
 Zg0 : bY0 K mg "check_name" "check_name" z7 J2
 Qg0 : bY0 K mg "names_of" "names_of" X5 V2
 Jg0 : bY0 K mg "check_crops" "check_crops" j7 J4
 Kg0 : bY0 K mg "check_wants" "check_wants" k7 K4
 Wg0 : bY0 K mg "numbers_of" "numbers_of" j6 V4
 Vg0 : MakAt K mg C "Garden" "Garden.__init__" J1 Y4
 Yg0 : bY0 K mg "_law_made" "_law_made" y7 X4
 Xg0 : bY0 K mg "_law_reached" "_law_reached" Q7 j5
 zh0 : bY0 K mg "_law_bad_crop" "_law_bad_crop" J7 v5
 qh0 : bY0 K mg "_law_spoiled" "_law_spoiled" X2 Q5
theorem mr0 {P : Program} {w : World} {K : PySem.W.Frag} {mg : Str -> Option Value} {base : Heap} {C NP BG BD f : Addr} {fd : FuncData} (F : Fun K "law" "law" X0 f fd) (T : Txt K mg C NP BG BD) (a : Ats K mg C) : FnOk P w K mg base CX0 8 f fd q9 (spP (k6 C BG)) := by
 have Qa0 : aW0 P w K mg base 1 "_law_alone" x3 (Z3 C BG) := let ⟨f, fd, F, r⟩ := a.Vf0; ⟨f, fd, he0 F T , r⟩
 have X9 : aW0 P w K mg base 1 "_law_cell_at" Q3 (X1 C) := let ⟨f, fd, F, r⟩ := a.Yf0; ⟨f, fd, Ze0 F T , r⟩
 have q0 : aW0 P w K mg base 2 "_law_draw" W0 (z0 C) := let ⟨f, fd, F, r⟩ := a.Xf0; ⟨f, fd, Qe0 F T X9, r⟩
 have Ja0 : aW0 P w K mg base 3 "_law_beds" J3 (K3 C) := let ⟨f, fd, F, r⟩ := a.zg0; ⟨f, fd, Je0 F T q0, r⟩
 have za0 : aW0 P w K mg base 3 "_law_crop" W3 (j2 C) := let ⟨f, fd, F, r⟩ := a.qg0; ⟨f, fd, Ke0 F T q0, r⟩
 have qa0 : aW0 P w K mg base 3 "_law_wants" V3 (Y3 C) := let ⟨f, fd, F, r⟩ := a.jg0; ⟨f, fd, We0 F T q0, r⟩
 have Ka0 : aW0 P w K mg base 4 "_law_garden" j4 (w4 C) := let ⟨f, fd, F, r⟩ := a.kg0; ⟨f, fd, Ve0 F T za0 q0 qa0, r⟩
 have X7 : aW0 P w K mg base 1 "_law_handed" v4 (V1 C) := let ⟨f, fd, F, r⟩ := a.wg0; ⟨f, fd, Ye0 F T , r⟩
 have ja0 : aW0 P w K mg base 1 "is_within" y4 (Z2 C) := let ⟨f, fd, F, r⟩ := a.vg0; ⟨f, fd, Xe0 F T , r⟩
 have j0 : bI0 P w K mg base 2 "check_within" j1 (y0 C BG) := let ⟨f, fd, F, r⟩ := a.yg0; ⟨f, fd, zf0 F T ja0, r⟩
 have wa0 : bI0 P w K mg base 3 "check_beds" Z4 (Q2 C BG) := let ⟨f, fd, F, r⟩ := a.xg0; ⟨f, fd, qf0 F T j0, r⟩
 have ka0 : bI0 P w K mg base 3 "check_crop" Q4 (Y5 C BG) := let ⟨f, fd, F, r⟩ := a.hg0; ⟨f, fd, jf0 F T j0, r⟩
 have J5 : bI0 P w K mg base 1 "check_name" J2 (W2 C BG) := let ⟨f, fd, F, r⟩ := a.Zg0; ⟨f, fd, kf0 F T , r⟩
 have K5 : aW0 P w K mg base 1 "names_of" V2 (V0 C) := let ⟨f, fd, F, r⟩ := a.Qg0; ⟨f, fd, wf0 F T , r⟩
 have va0 : bI0 P w K mg base 4 "check_crops" J4 (Y2 C BG) := let ⟨f, fd, F, r⟩ := a.Jg0; ⟨f, fd, vf0 F T ka0 J5 j0 K5, r⟩
 have ya0 : bI0 P w K mg base 3 "check_wants" K4 (W4 C BG) := let ⟨f, fd, F, r⟩ := a.Kg0; ⟨f, fd, yf0 F T J5 j0, r⟩
 have xa0 : aW0 P w K mg base 1 "numbers_of" V4 (Z1 C) := let ⟨f, fd, F, r⟩ := a.Wg0; ⟨f, fd, xf0 F T , r⟩
 have ha0 : iX0 P w K mg base C 5 "Garden" Y4 (Y0 C BG) := let ⟨f, fd, F, r⟩ := a.Vg0; ⟨f, fd, hf0 F T wa0 va0 ya0 K5 xa0, r⟩
 have Wa0 : aW0 P w K mg base 7 "_law_made" X4 (Y1 C BG) := let ⟨f, fd, F, r⟩ := a.Yg0; ⟨f, fd, Zf0 F T ha0, r⟩
 have Va0 : aW0 P w K mg base 1 "_law_reached" j5 (w5 C) := let ⟨f, fd, F, r⟩ := a.Xg0; ⟨f, fd, Qf0 F T , r⟩
 have Za0 : aW0 P w K mg base 1 "_law_bad_crop" v5 (Z5 C) := let ⟨f, fd, F, r⟩ := a.zh0; ⟨f, fd, Jf0 F T , r⟩
 have Ya0 : aW0 P w K mg base 2 "_law_spoiled" Q5 (y3 C) := let ⟨f, fd, F, r⟩ := a.qh0; ⟨f, fd, Kf0 F T Za0, r⟩
 exact Wf0 F T Qa0 Ja0 q0 Ka0 X7 Wa0 Va0 Ya0
theorem no_at {K : PySem.W.Frag} {C : Addr} {x : Str} (h : PySem.W.findIn K (.ref C) x = some none) : NoAttr K C x := h
theorem int_at {K : PySem.W.Frag} {h : Heap} {mg : Str -> Option Value} {x : Str} {i : Int} {v : Value} (X : K.In h) (G : h.Ns mainGlobals mg) (a : PySem.W.nsIn K mainGlobals x = some (some v)) (e : ∃ t, v = .int i t) : ∃ t, mg x = some (.int i t) := let ⟨t, e⟩ := e; ⟨t, e ▸ PySem.W.mg_of X G a⟩
theorem fun_at {K : PySem.W.Frag} {h : Heap} {mg : Str -> Option Value} {x qual : Str} {st : Stmt} {ps : List Str} {f : Addr} {od an : Option Addr} {sl : Array (Option Value)} {oc kV dc pm cd ct : Value} (X : K.In h) (G : h.Ns mainGlobals mg)
  (a : PySem.W.nsIn K mainGlobals x = some (some (.ref f))) (l : K.lookup f = some ⟨oc, od, .func (PySem.W.fnOf x qual (cq0 st) (bE0 st) (ak0 st) .none kV dc pm an cd ct), sl⟩) (c : PySem.W.codeIn K cd qual = true) (k : PySem.W.keepIn K (.ref f) = true)
  (b : ∀ {fd : FuncData}, Fun K x qual st f fd -> Binds K fd ps []) : bY0 K mg x qual st ps := ⟨f, _, fO0 (st := st) l c k, PySem.W.mg_of X G a, k, b (fO0 (st := st) l c k)⟩
theorem mak_at {K : PySem.W.Frag} {h : Heap} {mg : Str -> Option Value} {cn qual : Str} {st : Stmt} {ps : List Str} {f C : Addr} {od an : Option Addr} {sl : Array (Option Value)} {oc kV dc pm cd ct : Value} (X : K.In h) (G : h.Ns mainGlobals mg)
  (n : PySem.W.nsIn K mainGlobals cn = some (some (.ref C))) (mk : PySem.W.makesIn K C = true) (kc : PySem.W.keepIn K (.ref C) = true)
  (a : PySem.W.findIn K (.ref C) "__init__" = some (some (.ref f))) (i : PySem.W.isFn K (.ref f) = true) (l : K.lookup f = some ⟨oc, od, .func (PySem.W.fnOf "__init__" qual (cq0 st) (bE0 st) (ak0 st) .none kV dc pm an cd ct), sl⟩) (c : PySem.W.codeIn K cd qual = true) (k : PySem.W.keepIn K (.ref f) = true)
  (b : ∀ {fd : FuncData}, Fun K "__init__" qual st f fd -> Binds K fd ps []) : MakAt K mg C cn qual st ps := ⟨f, _, fO0 (st := st) l c k, ⟨mk, a, i, kc⟩, PySem.W.mg_of X G n, b (fO0 (st := st) l c k)⟩
theorem jh0 {K : PySem.W.Frag} {f : Addr} {fd : FuncData} (F : Fun K "_law_alone" "_law_alone" v6 f fd) : Binds K fd x3 [] := F.binds (ps := x3) fun _ _ _ _ _ _ us hl => match us, hl with | [_], _ => rfl
theorem kh0 {K : PySem.W.Frag} {f : Addr} {fd : FuncData} (F : Fun K "_law_cell_at" "_law_cell_at" y6 f fd) : Binds K fd Q3 [] := F.binds (ps := Q3) fun _ _ _ _ _ _ us hl => match us, hl with | [_, _], _ => rfl
theorem wh0 {K : PySem.W.Frag} {f : Addr} {fd : FuncData} (F : Fun K "_law_draw" "_law_draw" Z6 f fd) : Binds K fd W0 [] := F.binds (ps := W0) fun _ _ _ _ _ _ us hl => match us, hl with | [_, _], _ => rfl
theorem vh0 {K : PySem.W.Frag} {f : Addr} {fd : FuncData} (F : Fun K "_law_beds" "_law_beds" Q6 f fd) : Binds K fd J3 [] := F.binds (ps := J3) fun _ _ _ _ _ _ us hl => match us, hl with | [_, _], _ => rfl
theorem yh0 {K : PySem.W.Frag} {f : Addr} {fd : FuncData} (F : Fun K "_law_crop" "_law_crop" J6 f fd) : Binds K fd W3 [] := F.binds (ps := W3) fun _ _ _ _ _ _ us hl => match us, hl with | [_, _, _, _], _ => rfl
theorem xh0 {K : PySem.W.Frag} {f : Addr} {fd : FuncData} (F : Fun K "_law_wants" "_law_wants" K6 f fd) : Binds K fd V3 [] := F.binds (ps := V3) fun _ _ _ _ _ _ us hl => match us, hl with | [_, _, _], _ => rfl
theorem hh0 {K : PySem.W.Frag} {f : Addr} {fd : FuncData} (F : Fun K "_law_garden" "_law_garden" X3 f fd) : Binds K fd j4 [] := F.binds (ps := j4) fun _ _ _ _ _ _ us hl => match us, hl with | [_, _], _ => rfl
theorem Zh0 {K : PySem.W.Frag} {f : Addr} {fd : FuncData} (F : Fun K "_law_handed" "_law_handed" V5 f fd) : Binds K fd v4 [] := F.binds (ps := v4) fun _ _ _ _ _ _ us hl => match us, hl with | [_], _ => rfl
theorem Qh0 {K : PySem.W.Frag} {f : Addr} {fd : FuncData} (F : Fun K "is_within" "is_within" W6 f fd) : Binds K fd y4 [] := F.binds (ps := y4) fun _ _ _ _ _ _ us hl => match us, hl with | [_, _, _], _ => rfl
theorem Jh0 {K : PySem.W.Frag} {f : Addr} {fd : FuncData} (F : Fun K "check_within" "check_within" V6 f fd) : Binds K fd j1 [] := F.binds (ps := j1) fun _ _ _ _ _ _ us hl => match us, hl with | [_, _, _, _], _ => rfl
theorem Kh0 {K : PySem.W.Frag} {f : Addr} {fd : FuncData} (F : Fun K "check_beds" "check_beds" Y6 f fd) : Binds K fd Z4 [] := F.binds (ps := Z4) fun _ _ _ _ _ _ us hl => match us, hl with | [_, _], _ => rfl
theorem Wh0 {K : PySem.W.Frag} {f : Addr} {fd : FuncData} (F : Fun K "check_crop" "check_crop" X6 f fd) : Binds K fd Q4 [] := F.binds (ps := Q4) fun _ _ _ _ _ _ us hl => match us, hl with | [_], _ => rfl
theorem Vh0 {K : PySem.W.Frag} {f : Addr} {fd : FuncData} (F : Fun K "check_name" "check_name" z7 f fd) : Binds K fd J2 [] := F.binds (ps := J2) fun _ _ _ _ _ _ us hl => match us, hl with | [_, _], _ => rfl
theorem Yh0 {K : PySem.W.Frag} {f : Addr} {fd : FuncData} (F : Fun K "names_of" "names_of" X5 f fd) : Binds K fd V2 [] := F.binds (ps := V2) fun _ _ _ _ _ _ us hl => match us, hl with | [_], _ => rfl
theorem Xh0 {K : PySem.W.Frag} {f : Addr} {fd : FuncData} (F : Fun K "check_crops" "check_crops" j7 f fd) : Binds K fd J4 [] := F.binds (ps := J4) fun _ _ _ _ _ _ us hl => match us, hl with | [_], _ => rfl
theorem zi0 {K : PySem.W.Frag} {f : Addr} {fd : FuncData} (F : Fun K "check_wants" "check_wants" k7 f fd) : Binds K fd K4 [] := F.binds (ps := K4) fun _ _ _ _ _ _ us hl => match us, hl with | [_, _], _ => rfl
theorem qi0 {K : PySem.W.Frag} {f : Addr} {fd : FuncData} (F : Fun K "numbers_of" "numbers_of" j6 f fd) : Binds K fd V4 [] := F.binds (ps := V4) fun _ _ _ _ _ _ us hl => match us, hl with | [_, _], _ => rfl
theorem ji0 {K : PySem.W.Frag} {f : Addr} {fd : FuncData} (F : Fun K "__init__" "Garden.__init__" J1 f fd) : Binds K fd Y4 [] := F.binds (ps := Y4) fun _ _ _ _ _ _ us hl => match us, hl with | [_, _, _, _, _], _ => rfl
theorem ki0 {K : PySem.W.Frag} {f : Addr} {fd : FuncData} (F : Fun K "_law_made" "_law_made" y7 f fd) : Binds K fd X4 [] := F.binds (ps := X4) fun _ _ _ _ _ _ us hl => match us, hl with | [_], _ => rfl
theorem wi0 {K : PySem.W.Frag} {f : Addr} {fd : FuncData} (F : Fun K "_law_reached" "_law_reached" Q7 f fd) : Binds K fd j5 [] := F.binds (ps := j5) fun _ _ _ _ _ _ us hl => match us, hl with | [_], _ => rfl
theorem vi0 {K : PySem.W.Frag} {f : Addr} {fd : FuncData} (F : Fun K "_law_bad_crop" "_law_bad_crop" J7 f fd) : Binds K fd v5 [] := F.binds (ps := v5) fun _ _ _ _ _ _ us hl => match us, hl with | [_, _, _], _ => rfl
theorem yi0 {K : PySem.W.Frag} {f : Addr} {fd : FuncData} (F : Fun K "_law_spoiled" "_law_spoiled" X2 f fd) : Binds K fd Q5 [] := F.binds (ps := Q5) fun _ _ _ _ _ _ us hl => match us, hl with | [_, _, _], _ => rfl
def NoList (K : PySem.W.Frag) : Prop := (K.all fun q => q.2.cls != .type "list") = true
theorem hs0 {a : Addr} {o : Obj} : ∀ {K : List (Addr × Obj)}, K.lookup a = some o -> (a, o) ∈ K
 | [], h => by simp at h
 | (b, u) :: K, h => by
  rw [List.lookup_cons] at h
  cases q : a == b with
  | true =>
   rw [q] at h
   cases h
   rw [beq_iff_eq.mp q]
   exact List.mem_cons_self ..
  | false =>
   rw [q] at h
   exact List.mem_cons_of_mem _ (hs0 h)
theorem NoList.at {K : PySem.W.Frag} (h : NoList K) {a : Addr} {o : Obj} (e : K.lookup a = some o) : o.cls ≠ .type "list" := fun z => by
 have := List.all_eq_true.mp h (a, o) (hs0 e)
 rw [z] at this
 simp at this
def kv0 (K : PySem.W.Frag) : Sp := fun vs H Q _ => ∃ (a : Addr) (ns : List Int), vs = [.ref a] /\ Only H /\ SqL K H a (ns.map V.int) /\ ns.length <= 63 /\ ∀ H', Q (.bl true) H'
theorem nO0 {P : Program} {w : World} {K : PySem.W.Frag} {mg : Str -> Option Value} {base : Heap} {C BG f : Addr} {fd : FuncData} {k : Nat} (hk : k <= 8) (nl : NoList K) (F : FnOk P w K mg base CX0 k f fd q9 (spP (k6 C BG))) : FnOk P w K mg base CX0 8 f fd ["script"] (kv0 K) := by
 refine (F.mono hk).imp fun vs H Q E h => ?_
 obtain ⟨l, ns, rfl, hO, hS, hl, q⟩ := h
 rcases hS with (hS | ⟨o, hS⟩) | ⟨o, its, n, lk, hc, _⟩
 ·rcases hO l with z | ⟨o, xs, z⟩
  ·rw [z] at hS; cases hS
  ·rw [z] at hS; cases hS
 ·refine ⟨fun b => b = l, [scrT ns], false, .bl true, fun b hb => ⟨_, hb ▸ hS⟩, .cons (.scr rfl hS) .nil, nS0 C BG ns, fun F' v H' _ r => ?_⟩
  have r : Rp F' H' v (.bl true) := r
  cases r
  exact q H'
 ·exact absurd hc (nl.at lk)
theorem walk {l : PySem.W.OpenLaw} {q : Program} {loose : List Str} {XP : (Str -> Option Value) -> Heap -> Prop} {YP : World -> Heap -> Prop} {d : DefRec} {K : Params -> PySem.W.Frag} (hn : l.most = some 63) (hdf : d.params.defaults = [])
  (hY : ∀ (w : World) (h : Heap), YP w h -> (K w.params).In h)
  (F : ∀ (w : World) (mg : Str -> Option Value) (fa : Addr) (h : Heap), (K w.params).In h -> h.Ns mainGlobals mg -> mg d.name = some (.ref fa) ->
   ∃ fd : FuncData, (∀ (s : Shared) (u : Value), BindsTo s fd ⟨[u], []⟩ [("script", u)]) /\ ∀ base : Heap, (K w.params).In base -> base.Ns mainGlobals mg -> FnOk l.prog w (K w.params) mg base CX0 8 fa fd ["script"] (kv0 (K w.params))) :
  PySem.W.WalkO q loose XP YP l.row.toRowW d [] (fun f vs => PySem.call f vs) :=
 L2.walk_of (n := 63) (k := 8) (x := "script") (CX := fun _ => CX0) (sp := fun w => kv0 (K w.params)) hn (by decide) hdf ⟨rfl, by decide, by decide⟩ hY F (fun _ _ a ns hl hO hS => ⟨a, ns, rfl, hO, hS, hl, fun _ => rfl⟩) fun _ _ _ _ _ z => z
theorem law_mk {l : PySem.W.OpenLaw} {w : World} {K : PySem.W.Frag} {h : Heap} {mg : Str -> Option Value} {fa C NP BG BD f4 : Addr} (X : K.In h) (G : h.Ns mainGlobals mg) (hfa : mg "law" = some (.ref fa))
  {od4 an4 : Option Addr} {sl4 : Array (Option Value)} {oc4 kV4 dc4 pm4 cd4 ct4 : Value} (aC : PySem.W.nsIn K mainGlobals "Garden" = some (some (.ref C))) (aN : PySem.W.nsIn K mainGlobals "NoPlanting" = some (some (.ref NP))) (aB : PySem.W.nsIn K mainGlobals "BadGarden" = some (some (.ref BG))) (aD : PySem.W.nsIn K mainGlobals "BedError" = some (some (.ref BD)))
  (nl : NoList K) (T : Txt K mg C NP BG BD) (a : Ats K mg C)
  (a4 : PySem.W.nsIn K mainGlobals "law" = some (some (.ref f4))) (l4 : K.lookup f4 = some ⟨oc4, od4, .func (PySem.W.fnOf "law" "law" (cq0 X0) (bE0 X0) (ak0 X0) .none kV4 dc4 pm4 an4 cd4 ct4), sl4⟩) (c4 : PySem.W.codeIn K cd4 "law" = true) (k4 : PySem.W.keepIn K (.ref f4) = true) :
  ∃ fd : FuncData, (∀ (s : Shared) (v : Value), BindsTo s fd ⟨[v], []⟩ [("script", v)]) /\ ∀ base : Heap, K.In base -> base.Ns mainGlobals mg -> FnOk l.prog w K mg base CX0 8 fa fd ["script"] (kv0 K) := by
 have e := hfa.symm.trans (PySem.W.mg_of X G a4)
 cases e
 exact ⟨PySem.W.fnOf "law" "law" (cq0 X0) (bE0 X0) (ak0 X0) .none kV4 dc4 pm4 an4 cd4 ct4, fun s v => .of_eq rfl, fun base _ _ => nO0 (by decide : 8 <= 8) nl (mr0 (fO0 (st := X0) l4 c4 k4) T a)⟩
end Bed1
open PySem PySem.W PyProof.Rows
set_option Elab.async false
set_option maxRecDepth 100000 in
set_option maxHeartbeats 0 in
theorem PySem.Challenge.cw_bedround_k02_gardens_refused_holds : PySem.Challenge.rw_bedround_k02_gardens_refused.Holds := by
 w_on; o_law
 refine PySem.W.holds_open (r := PySem.Challenge.rw_bedround_k02_gardens_refused.row) (XP := XL Bed1.qv []) (YP := Hook.says (kHook Bed1.KK Bed1.KA Bed1.KE)) Bed1.HL (Hook.of (kHook Bed1.KK Bed1.KA Bed1.KE)) (Hook.keeps (kHook Bed1.KK Bed1.KA Bed1.KE)) (fun s e => xl_of s (Bool.and_eq_true_iff.mp e).1) XL.keeps (by rfl) (by rfl) (by rfl) (fun s e => recFacts_of (Bool.and_eq_true_iff.mp e).2) (by rfl) (by first | assumption | decide +kernel) (by decide +kernel) ⟨rfl, rfl, rfl, rfl, rfl, by decide +kernel⟩ ?hw ?hc
 (case hw => w_witness2)
 k_fill
 refine Bed1.walk (l := PySem.Challenge.rw_bedround_k02_gardens_refused) rfl rfl (fun w h Y => PySem.W.kIn_of Y) ?F
 case F =>
  intro w mg fa h KX G hmg
  refine' Bed1.law_mk KX G hmg ?aC ?aN ?aB ?aD ?nl ?T ?A ?a4 ?l4 ?c4 ?k4
  (case aC => k_is); (case aN => k_is); (case aB => k_is); (case aD => k_is)
  (case nl => exact (show Bed1.NoList _ from rfl))
  case T =>
   refine' ⟨⟨?pg, ?hd, ?po, ?sa⟩, Bed1.no_at ?xi0, Bed1.no_at ?hi0, Bed1.no_at ?Zi0, Bed1.no_at ?Qi0, Bed1.no_at ?Ji0, Bed1.no_at ?Ki0, Bed1.no_at ?Wi0, Bed1.no_at ?Vi0, PySem.W.mg_none_of KX G ?w9, PySem.W.mg_none_of KX G ?v9, PySem.W.mg_none_of KX G ?w6, PySem.W.mg_none_of KX G ?y9, PySem.W.mg_none_of KX G ?x0, PySem.W.mg_none_of KX G ?Z0, PySem.W.mg_none_of KX G ?K0, PySem.W.mg_none_of KX G ?W7, PySem.W.mg_none_of KX G ?x9, PySem.W.mg_none_of KX G ?W1, PySem.W.mg_none_of KX G ?Z9, PySem.W.mg_none_of KX G ?V7, PySem.W.mg_none_of KX G ?J0, Bed1.int_at KX G ?Q9 ?e_MOST_BEDS, Bed1.int_at KX G ?Y7 ?e_MOST_CHANGE, Bed1.int_at KX G ?J9 ?e_MOST_CROPS, Bed1.int_at KX G ?K9 ?e_MOST_GAP, Bed1.int_at KX G ?W9 ?e_MOST_HARVEST, Bed1.int_at KX G ?V9 ?e_MOST_TOP, Bed1.int_at KX G ?Y9 ?e_MOST_WANTED, ⟨?xa, ?xb, ?xg, ?xs, ?xc, ?xd, ?xe, ?xf⟩, ⟨⟨?ipg, ?ihd, ?ipo, ?isa⟩, ?ia, ?ib, ?ic, ?id, ?ik⟩, PySem.W.mg_of KX G ?mG, PySem.W.mg_of KX G ?mN, PySem.W.mg_of KX G ?mB, PySem.W.mg_of KX G ?mD, ?kB, ?kN, ?kD, ?kV, ?xN, ?eD⟩
   (case Q9 => k_is); (case e_MOST_BEDS => exact ⟨_, rfl⟩)
   (case Y7 => k_is); (case e_MOST_CHANGE => exact ⟨_, rfl⟩)
   (case J9 => k_is); (case e_MOST_CROPS => exact ⟨_, rfl⟩)
   (case K9 => k_is); (case e_MOST_GAP => exact ⟨_, rfl⟩)
   (case W9 => k_is); (case e_MOST_HARVEST => exact ⟨_, rfl⟩)
   (case V9 => k_is); (case e_MOST_TOP => exact ⟨_, rfl⟩)
   (case Y9 => k_is); (case e_MOST_WANTED => exact ⟨_, rfl⟩)
   (case pg => k_is); (case hd => k_is); (case po => k_is); (case sa => k_is)
   (case xi0 => k_is)
   (case hi0 => k_is)
   (case Zi0 => k_is)
   (case Qi0 => k_is)
   (case Ji0 => k_is)
   (case Ki0 => k_is)
   (case Wi0 => k_is)
   (case Vi0 => k_is)
   (case w9 => k_is)
   (case v9 => k_is)
   (case w6 => k_is)
   (case y9 => k_is)
   (case x0 => k_is)
   (case Z0 => k_is)
   (case K0 => k_is)
   (case W7 => k_is)
   (case x9 => k_is)
   (case W1 => k_is)
   (case Z9 => k_is)
   (case V7 => k_is)
   (case J0 => k_is)
   (case ipg => k_is)
   (case ihd => k_is)
   (case ipo => k_is)
   (case isa => k_is)
   (case ia => k_is)
   (case ib => k_is)
   (case ic => k_is)
   (case id => k_is)
   (case mG => k_is)
   (case mN => k_is)
   (case mB => k_is)
   (case mD => k_is)
   (case xa => k_is)
   (case xb => k_is)
   (case xg => k_is)
   (case xs => k_is)
   (case xc => k_is)
   (case xd => k_is)
   (case xe => k_is)
   (case xf => k_is)
   (case ik => kit_is)
   (case kB => kit_is)
   (case kN => kit_is)
   (case kD => kit_is)
   (case kV => kit_is)
   (case xN => k_exc); (case eD => kts_exm)
  case A =>
   refine' ⟨Bed1.fun_at KX G ?_law_alonea ?_law_alonel ?_law_alonec ?_law_alonek Bed1.jh0, Bed1.fun_at KX G ?_law_cell_ata ?_law_cell_atl ?_law_cell_atc ?_law_cell_atk Bed1.kh0, Bed1.fun_at KX G ?_law_drawa ?_law_drawl ?_law_drawc ?_law_drawk Bed1.wh0, Bed1.fun_at KX G ?_law_bedsa ?_law_bedsl ?_law_bedsc ?_law_bedsk Bed1.vh0, Bed1.fun_at KX G ?_law_cropa ?_law_cropl ?_law_cropc ?_law_cropk Bed1.yh0, Bed1.fun_at KX G ?_law_wantsa ?_law_wantsl ?_law_wantsc ?_law_wantsk Bed1.xh0, Bed1.fun_at KX G ?_law_gardena ?_law_gardenl ?_law_gardenc ?_law_gardenk Bed1.hh0, Bed1.fun_at KX G ?_law_handeda ?_law_handedl ?_law_handedc ?_law_handedk Bed1.Zh0, Bed1.fun_at KX G ?is_withina ?is_withinl ?is_withinc ?is_withink Bed1.Qh0, Bed1.fun_at KX G ?check_withina ?check_withinl ?check_withinc ?check_withink Bed1.Jh0, Bed1.fun_at KX G ?check_bedsa ?check_bedsl ?check_bedsc ?check_bedsk Bed1.Kh0, Bed1.fun_at KX G ?check_cropa ?check_cropl ?check_cropc ?check_cropk Bed1.Wh0, Bed1.fun_at KX G ?check_namea ?check_namel ?check_namec ?check_namek Bed1.Vh0, Bed1.fun_at KX G ?names_ofa ?names_ofl ?names_ofc ?names_ofk Bed1.Yh0, Bed1.fun_at KX G ?check_cropsa ?check_cropsl ?check_cropsc ?check_cropsk Bed1.Xh0, Bed1.fun_at KX G ?check_wantsa ?check_wantsl ?check_wantsc ?check_wantsk Bed1.zi0, Bed1.fun_at KX G ?numbers_ofa ?numbers_ofl ?numbers_ofc ?numbers_ofk Bed1.qi0, Bed1.mak_at KX G ?Garden_initn ?Garden_initm ?Garden_initq ?Garden_inita ?Garden_initi ?Garden_initl ?Garden_initc ?Garden_initk Bed1.ji0, Bed1.fun_at KX G ?_law_madea ?_law_madel ?_law_madec ?_law_madek Bed1.ki0, Bed1.fun_at KX G ?_law_reacheda ?_law_reachedl ?_law_reachedc ?_law_reachedk Bed1.wi0, Bed1.fun_at KX G ?_law_bad_cropa ?_law_bad_cropl ?_law_bad_cropc ?_law_bad_cropk Bed1.vi0, Bed1.fun_at KX G ?_law_spoileda ?_law_spoiledl ?_law_spoiledc ?_law_spoiledk Bed1.yi0⟩
   (case _law_alonea => k_is); (case _law_alonel => k_is); (case _law_alonec => k_is); (case _law_alonek => k_is)
   (case _law_cell_ata => k_is); (case _law_cell_atl => k_is); (case _law_cell_atc => k_is); (case _law_cell_atk => k_is)
   (case _law_drawa => k_is); (case _law_drawl => k_is); (case _law_drawc => k_is); (case _law_drawk => k_is)
   (case _law_bedsa => k_is); (case _law_bedsl => k_is); (case _law_bedsc => k_is); (case _law_bedsk => k_is)
   (case _law_cropa => k_is); (case _law_cropl => k_is); (case _law_cropc => k_is); (case _law_cropk => k_is)
   (case _law_wantsa => k_is); (case _law_wantsl => k_is); (case _law_wantsc => k_is); (case _law_wantsk => k_is)
   (case _law_gardena => k_is); (case _law_gardenl => k_is); (case _law_gardenc => k_is); (case _law_gardenk => k_is)
   (case _law_handeda => k_is); (case _law_handedl => k_is); (case _law_handedc => k_is); (case _law_handedk => k_is)
   (case is_withina => k_is); (case is_withinl => k_is); (case is_withinc => k_is); (case is_withink => k_is)
   (case check_withina => k_is); (case check_withinl => k_is); (case check_withinc => k_is); (case check_withink => k_is)
   (case check_bedsa => k_is); (case check_bedsl => k_is); (case check_bedsc => k_is); (case check_bedsk => k_is)
   (case check_cropa => k_is); (case check_cropl => k_is); (case check_cropc => k_is); (case check_cropk => k_is)
   (case check_namea => k_is); (case check_namel => k_is); (case check_namec => k_is); (case check_namek => k_is)
   (case names_ofa => k_is); (case names_ofl => k_is); (case names_ofc => k_is); (case names_ofk => k_is)
   (case check_cropsa => k_is); (case check_cropsl => k_is); (case check_cropsc => k_is); (case check_cropsk => k_is)
   (case check_wantsa => k_is); (case check_wantsl => k_is); (case check_wantsc => k_is); (case check_wantsk => k_is)
   (case numbers_ofa => k_is); (case numbers_ofl => k_is); (case numbers_ofc => k_is); (case numbers_ofk => k_is)
   (case Garden_initn => k_is); (case Garden_initm => k_is); (case Garden_initq => k_is); (case Garden_inita => k_is); (case Garden_initi => k_is); (case Garden_initl => k_is); (case Garden_initc => k_is); (case Garden_initk => k_is)
   (case _law_madea => k_is); (case _law_madel => k_is); (case _law_madec => k_is); (case _law_madek => k_is)
   (case _law_reacheda => k_is); (case _law_reachedl => k_is); (case _law_reachedc => k_is); (case _law_reachedk => k_is)
   (case _law_bad_cropa => k_is); (case _law_bad_cropl => k_is); (case _law_bad_cropc => k_is); (case _law_bad_cropk => k_is)
   (case _law_spoileda => k_is); (case _law_spoiledl => k_is); (case _law_spoiledc => k_is); (case _law_spoiledk => k_is)
  (case a4 => k_is); (case l4 => k_is); (case c4 => k_is); (case k4 => k_is)
